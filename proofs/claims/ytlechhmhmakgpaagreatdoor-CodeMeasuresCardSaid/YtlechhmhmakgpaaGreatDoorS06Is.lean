/-
  The reference: the product of two texts but for its sign. A region that draws its order and ends in stores: what it loads is held until the first store comes up. A copy of a circuit. The reference: all products of texts (Group).
-/
import Derived.Deep.AppendLies
import Derived.Test.YtlechhmhmakgpaaGreatDoorS05Iq
namespace Go.Proofs.YtlechhmhmakgpaaGreatDoor
set_option maxRecDepth 100000
set_option maxHeartbeats 8000000
open Go.RowKit
theorem lettersTimes_any (a b:List UInt8) (n:Nat) (w:World) (ha:Let n a) (hb:Let n b) (hn:n<=1000) :
  Calls Tryz.prog 108 #[.string ⟨a.toArray⟩,.string ⟨b.toArray⟩] w fun e w'=>e=.returned (.string ⟨(mulT a b).toArray⟩)/\Ext w w':=by
 have Ha:=Lh ha;have Hb:=Lh hb;have Hn:=Lh hn
 have hsa:(⟨a.toArray⟩:ByteArray).size=n:=by rw [<-ha.1];simp [ByteArray.size]
 have hsb:(⟨b.toArray⟩:ByteArray).size=n:=by rw [<-hb.1];simp [ByteArray.size]
 clear ha hb hn
 go_enter Tryz.func108,Tryz.ntmps108
 go_wp2_with fail
 go_loopg [5,6,7,8] n (fun k s5 s6 _ _ wr=>Ext w wr/\∃ i:Nat,s5=.string ⟨(mulT (a.take i) (b.take i)).toArray⟩/\s6=.int .i64 (i:Int)/\i<=n/\n-i=k)
 case atStart=>exact ⟨Ext.refl _,0,rfl,rfl,Nat.zero_le _,rfl⟩
 case round =>
  obtain ⟨hER,i,rfl,rfl,hi,hk⟩:=hrel;have HER:=Lh hER;have Hk:=Lh hk;clear hER hk
  by_cases hin:i=n
  ·have q1:¬ (i:Int)<(n:Int):=by omega
   have e1:a.take i=a:=List.take_of_length_le (by have:=Ha.out.1;omega);have e2:b.take i=b:=List.take_of_length_le (by have:=Hb.out.1;omega);rw [e1,e2];clear e1 e2 hin hi
   go_wp2_with fail
   go_ret
   exact ⟨rfl,HER.out⟩
  have hlt:i<n:=by omega
  have q1:(i:Int)<(n:Int):=by omega
  have q0:(0:Int)<=(i:Int):=by omega
  obtain ⟨x,hx⟩:∃ x,a[i]?=some x:=⟨_,List.getElem?_eq_getElem (by have:=Ha.out.1;omega)⟩;obtain ⟨y,hy⟩:∃ y,b[i]?=some y:=⟨_,List.getElem?_eq_getElem (by have:=Hb.out.1;omega)⟩;have hsz:i<(⟨a.toArray⟩:ByteArray).size:=str_lt (by have:=Ha.out.1;omega);have hsy:i<(⟨b.toArray⟩:ByteArray).size:=str_lt (by have:=Hb.out.1;omega);have hg:=let_at hx hsz;have hg':=let_at hy hsy;have hpx:=one_piece hx;have hpy:=one_piece hy;have hix:=Ha.out.2 x (List.mem_of_getElem? hx);have hiy:=Hb.out.2 y (List.mem_of_getElem? hy)
  have wk:IntKind.i64.wrap ((i:Int)+1)=((i+1:Nat):Int):=by rw [IntKind.wrap_i64];have:=Hn.out;omega
  have q2:((i+1:Nat):Int)<=(n:Int):=by omega
  have q3:(i:Int)<=((i+1:Nat):Int):=by omega
  have Hst:=Lh (mulT_take a b i x y hx hy);obtain ⟨O,hO⟩:∃ O,mulT (a.take i) (b.take i)=O:=⟨_,rfl⟩
  have hOl:O.length<=i:=by rw [<-hO];unfold mulT;rw [List.length_zipWith,List.length_take,List.length_take];omega
  have hs1:¬ 9223372036854775807<O.length+1:=by have:=Hn.out;omega
  rw [hO] at Hst ⊢;have Hlt:=Lh hlt;have Hix:=Lh hix;have Hiy:=Lh hiy;clear hx hy hO hOl hin hi hlt hix hiy
  by_cases c1:x=73
  ·have t1:((x.toNat:Int) == 73)=true:=bt' (by rw [c1];rfl)
   have HA:=Lh (show (⟨O.toArray⟩:ByteArray)++⟨#[y]⟩=⟨(mulT (a.take (i+1)) (b.take (i+1))).toArray⟩ by rw [Hst.out,<-str_append];unfold mulL;rw [if_pos c1]);clear c1
   go_wp2_with fail
   go_roundg (n-(i+1))
   case measure=>have:=Hk.out;have:=Hlt.out;omega
   case rel=>exact ⟨HER.out,i+1,congrArg Value.string HA.out,rfl,Hlt.out,rfl⟩
  have t1:((x.toNat:Int) == 73)=false:=bf (u8_ne (k:=73) (by decide) c1)
  by_cases c2:x=y
  ·have t2:((x.toNat:Int) == (y.toNat:Int))=true:=bt' (by rw [c2])
   have HA:=Lh (show (⟨O.toArray⟩:ByteArray)++⟨#[73]⟩=⟨(mulT (a.take (i+1)) (b.take (i+1))).toArray⟩ by rw [Hst.out,<-str_append];unfold mulL;rw [if_neg c1,if_pos c2]);clear c1 c2
   go_upto_region 8 with fail
   go_quiet (fail)
   go_wp2_with fail
   go_roundg (n-(i+1))
   case measure=>have:=Hk.out;have:=Hlt.out;omega
   case rel=>exact ⟨HER.out.trans (ext_drewN wr _),i+1,congrArg Value.string HA.out,rfl,Hlt.out,rfl⟩
  have t2:((x.toNat:Int) == (y.toNat:Int))=false:=by rw [u8_eqb];exact beq_eq_false_iff_ne.2 c2
  by_cases c3:y=73
  ·have t3:((y.toNat:Int) != 73)=false:=nf' (by rw [c3];rfl)
   have HA:=Lh (show (⟨O.toArray⟩:ByteArray)++⟨#[x]⟩=⟨(mulT (a.take (i+1)) (b.take (i+1))).toArray⟩ by rw [Hst.out,<-str_append];unfold mulL;rw [if_neg c1,if_neg c2,if_pos c3]);clear c1 c2 c3
   go_upto_region 8 with fail
   go_quiet (fail)
   go_wp2_with fail
   go_roundg (n-(i+1))
   case measure=>have:=Hk.out;have:=Hlt.out;omega
   case rel=>exact ⟨HER.out.trans (ext_drewN wr _),i+1,congrArg Value.string HA.out,rfl,Hlt.out,rfl⟩
  have t3:((y.toNat:Int) != 73)=true:=nt (u8_ne (k:=73) (by decide) c3);have HA:=Lh (show (⟨O.toArray⟩:ByteArray)++⟨#[thL x y 3]⟩=⟨(mulT (a.take (i+1)) (b.take (i+1))).toArray⟩ by rw [Hst.out,<-str_append,thL_mul Hix.out Hiy.out c1 c2 c3]);clear c1 c2 c3
  go_upto_region 8 with fail
  go_quiet (fail)
  go_wp2_with fail
  go_loopg [7,8] 3 (fun kk s7 s8 wx=>Ext w wx/\∃ k:Nat,s8=.int .i64 (k:Int)/\k<=3/\3-k=kk/\s7=.string ⟨#[thL x y k]⟩)
  case atStart=>exact ⟨HER.out.trans (ext_drewN wr _),0,rfl,by omega,rfl,rfl⟩
  case round =>
   obtain ⟨hEx,k,rfl,hk3,hkk,rfl⟩:=hrel;have HEx:=Lh hEx;have Hkk:=Lh hkk;clear hEx hkk
   by_cases hk0:k=3
   ·subst hk0
    obtain ⟨z,hz⟩:∃ z,thL x y 3=z:=⟨_,rfl⟩;rw [hz] at HA ⊢;clear hz hk3
    go_wp2_with fail
    go_roundg (n-(i+1))
    case measure=>have:=Hk.out;have:=Hlt.out;omega
    case rel=>exact ⟨HEx.out,i+1,congrArg Value.string HA.out,rfl,Hlt.out,rfl⟩
   have p1:(k:Int)<3:=by omega
   have p0:(0:Int)<=(k:Int):=by omega
   have p2:((k+1:Nat):Int)<=3:=by omega
   have p3:(k:Int)<=((k+1:Nat):Int):=by omega
   have wk3:IntKind.i64.wrap ((k:Int)+1)=((k+1:Nat):Int):=by rw [IntKind.wrap_i64];omega
   obtain ⟨L,hL⟩:∃ L,([88,89,90]:List UInt8)[k]?=some L:=⟨_,List.getElem?_eq_getElem (show k<([88,89,90]:List UInt8).length by show k<3;omega)⟩
   have hgL:([88,89,90]:List UInt8).getD k 0=L:=by rw [List.getD_eq_getElem?_getD,hL];rfl
   have hs3:k<(⟨([88,89,90]:List UInt8).toArray⟩:ByteArray).size:=str_lt (by show k<3;omega);have hg3:=let_at hL hs3;have hp3:=one_piece hL;have hz3:(⟨([88,89,90]:List UInt8).toArray⟩:ByteArray).size=3:=rfl;have HT:=Lh (show thL x y (k+1)=if L≠x/\L≠y then L else thL x y k by rw [thL,hgL]);have Hk3:=Lh (show k+1<=3 by omega);clear hL hgL hk3 hk0
   by_cases d1:L=x
   ·have n1:((L.toNat:Int) != (x.toNat:Int))=false:=nf' (by rw [d1])
    have HZ:=Lh (show thL x y k=thL x y (k+1) by rw [HT.out,if_neg (fun h=>h.1 d1)]);obtain ⟨z,hz⟩:∃ z,thL x y k=z:=⟨_,rfl⟩;rw [hz] at HZ ⊢;clear d1 hz
    go_upto_region 15 with fail
    go_quiet (fail)
    go_wp2_with fail
    go_roundg (3-(k+1))
    case measure=>have:=Hkk.out;have:=Hk3.out;omega
    case rel=>exact ⟨HEx.out.trans (ext_drewN wr _),k+1,rfl,Hk3.out,rfl,by rw [HZ.out]⟩
   have n1:((L.toNat:Int) != (x.toNat:Int))=true:=by rw [u8_neq,beq_eq_false_iff_ne.2 d1];rfl
   by_cases d2:L=y
   ·have n2:((L.toNat:Int) != (y.toNat:Int))=false:=nf' (by rw [d2])
    have HZ:=Lh (show thL x y k=thL x y (k+1) by rw [HT.out,if_neg (fun h=>h.2 d2)]);obtain ⟨z,hz⟩:∃ z,thL x y k=z:=⟨_,rfl⟩;rw [hz] at HZ ⊢;clear d1 d2 hz
    go_upto_region 15 with fail
    go_quiet (fail)
    go_wp2_with fail
    go_roundg (3-(k+1))
    case measure=>have:=Hkk.out;have:=Hk3.out;omega
    case rel=>exact ⟨HEx.out.trans (ext_drewN wr _),k+1,rfl,Hk3.out,rfl,by rw [HZ.out]⟩
   have n2:((L.toNat:Int) != (y.toNat:Int))=true:=by rw [u8_neq,beq_eq_false_iff_ne.2 d2];rfl
   have HZ:=Lh (show L=thL x y (k+1) by rw [HT.out,if_pos ⟨d1,d2⟩]);obtain ⟨z,hz⟩:∃ z,thL x y k=z:=⟨_,rfl⟩;rw [hz];clear d1 d2 hz
   go_upto_region 15 with fail
   go_quiet (fail)
   go_wp2_with fail
   go_roundg (3-(k+1))
   case measure=>have:=Hkk.out;have:=Hk3.out;omega
   case rel=>exact ⟨HEx.out.trans (ext_drewN wr _),k+1,rfl,Hk3.out,rfl,by rw [<-HZ.out]⟩
section
variable {P:Program} {ops:Array Oper} {Q:Exit->Act->World->Prop} {md:Region.Mode} {S:World->Prop} {k:Nat}
def anyK (P:Program) (md:Region.Mode) (ops:Array Oper) (Q:Exit->Act->World->Prop) (k:Nat) (S:World->Prop):Nat->Array Bool->Act->World->Prop
 | 0,l,a,w=>Region.ready md ops l=[]/\Q .normal a w
 | n+1,l,a,w=>(Region.ready md ops l=[]->Q .normal a w) /\
   ∀ i,i ∈ Region.ready md ops l->wpOp P ops Q i (fun a' w'=>((l.setIfInBounds i true).getD k true=false->S w')/\anyK P md ops Q k S n (l.setIfInBounds i true) a' w') a w
theorem anyK_plain (n:Nat):∀ (l:Array Bool) (a:Act) (w:World),anyK P md ops Q k S n l a w->wpAny P md ops Q n l a w:=by
 induction n with
 | zero=>exact fun _ _ _ h=>h
 | succ n ih=>exact fun l a w h=>⟨h.1,fun i hi=>wpOp_mono (fun a' w' h'=>ih _ a' w' h'.2) (h.2 i hi)⟩
def waits (md:Region.Mode) (ops:Array Oper):Nat->Nat->Nat->Bool
 | 0,_,_=>false
 | n+1,k,i=>match ops[k]? with
  | some o=>o.after.any fun e=>Region.binds md e && (e.on == i || waits md ops n e.on i)
  | none=>false
def closedL (md:Region.Mode) (ops:Array Oper) (l:Array Bool):Prop :=
 ∀ j o,ops[j]?=some o->l.getD j false=true->∀ e ∈ o.after,Region.binds md e=true->l.getD e.on false=true
def closedB (md:Region.Mode) (ops:Array Oper) (l:Array Bool):Bool :=
 (List.range ops.size).all fun j=>!(l.getD j false) || (match ops[j]? with
  | some o=>o.after.all fun e=>!(Region.binds md e) || l.getD e.on false
  | none=>true)
theorem closedB_spec {l:Array Bool} (h:closedB md ops l=true):closedL md ops l:=by
 intro j o ho hl e he hb;have hj:j<ops.size:=(gS.1 ho).1;have h1:=List.all_eq_true.1 h j (List.mem_range.2 hj);rw [hl,ho] at h1
 have h2:(o.after.all fun e=>!(Region.binds md e) || l.getD e.on false)=true:=by simpa using h1
 have h3:=Array.all_eq_true_iff_forall_mem.1 h2 e he;rw [hb] at h3
 simpa using h3
theorem closedL_set {l:Array Bool} {j:Nat} (h:closedL md ops l) (hj:j ∈ Region.ready md ops l):closedL md ops (l.setIfInBounds j true):=by
 intro m o ho hl e he hb
 by_cases hm:j=m
 ·subst hm
  obtain ⟨_,o',ho',hall⟩:=mem_ready.1 hj;rw [ho] at ho'
  cases ho'
  exact getD_set_true (hall e he hb)
 ·rw [Go.getD_set_ne false hm] at hl
  exact getD_set_true (h m o ho hl e he hb)
theorem waits_listed {l:Array Bool} (hc:closedL md ops l) (n:Nat):∀ (k i:Nat),waits md ops n k i=true->(∀ o,ops[k]?=some o->∀ e ∈ o.after,Region.binds md e=true->l.getD e.on false=true)->l.getD i false=true:=by
 induction n with
 | zero=>intro k i h;cases h
 | succ n ih =>
  intro k i h hk;unfold waits at h
  cases ho:ops[k]? with
  | none=>rw [ho] at h;cases h
  | some o =>
   rw [ho] at h;obtain ⟨e,he,hb⟩:=Array.any_eq_true'.1 h
   obtain ⟨h1,h2⟩:Region.binds md e=true/\(e.on=i\/waits md ops n e.on i=true):=by simpa using hb
   have h3:=hk o ho e he h1
   rcases h2 with h2 | h2
   ·rw [<-h2];exact h3
   ·exact ih e.on i h2 (fun o' ho' e' he' hb'=>hc e.on o' ho' h3 e' he' hb')
theorem waits_unready {l:Array Bool} {i n:Nat} (hc:closedL md ops l) (hw:waits md ops n k i=true) (hi:i ∈ Region.ready md ops l):k ∉ Region.ready md ops l:=by
 intro hk;obtain ⟨_,o,ho,hall⟩:=mem_ready.1 hk;have h1:=waits_listed hc n k i hw (fun o' ho'=>by rw [ho] at ho';cases ho';exact hall);have h2:=(mem_ready.1 hi).1
 rcases Nat.lt_or_ge i l.size with h | h
 ·simp [h] at h1 h2
  rw [h2] at h1
  cases h1
 ·simp [Array.getElem?_eq_none h] at h1
theorem anyK_first {i:Nat} {o:Oper} {v:Value} (hi:ops[i]?=some o) (hsel:∀ (j:Nat) (o:Oper) cs b,ops[j]?=some o->o.op≠.select cs b)
  (hQ:∀ c a w,Q (.panic c) (a.put o.dst v) w->Q (.panic c) a w) {N:Nat} (hw:waits md ops N k i=true) (n:Nat) :
  ∀ (l:Array Bool) (a:Act) (w:World),closedL md ops l ->
   (∀ j oj,ops[j]?=some oj->j≠i->l.getD j true=false->(∀ e ∈ oj.after,Region.binds md e=true->e.on≠i)->o.apart ops oj=true) ->
   i ∈ Region.ready md ops l->YieldsIf P ops S o v a->S w->l.getD k true=false ->
   anyK P md ops Q k S n (l.setIfInBounds i true) (a.put o.dst v) w->anyK P md ops Q k S (n+1) l a w:=by
 induction n with
 | zero =>
  intro l a w _ _ hr hy hS _ H;refine ⟨fun h=>(by rw [h] at hr;cases hr),fun j hj=>?_⟩
  by_cases hji:j=i
  ·subst hji
   exact hy.wpOp hi hS ⟨fun _=>hS,H⟩
  ·have h:=ready_mono hj hji
   rw [H.1] at h
   cases h
 | succ n ih =>
  intro l a w hc hfree hr hy hS hk H;refine ⟨fun h=>(by rw [h] at hr;cases hr),fun j hj=>?_⟩
  by_cases hji:j=i
  ·subst hji
   exact hy.wpOp hi hS ⟨fun _=>hS,H⟩
  have hjk:j≠k:=fun e=>waits_unready hc hw hr (e ▸ hj)
  obtain ⟨hjun,oj,hoj,hall⟩:=mem_ready.1 hj
  have hnot:∀ e ∈ oj.after,Region.binds md e=true->e.on≠i:=by
   intro e he hb heq;have h1:=hall e he hb;have h0:=(mem_ready.1 hr).1;rw [heq] at h1
   rcases Nat.lt_or_ge i l.size with h' | h'
   ·simp [h'] at h0 h1
    rw [h0] at h1
    cases h1
   ·simp [Array.getElem?_eq_none h'] at h1
  have h2:=wpOp_putIf hoj (hfree j oj hoj hji hjun hnot) (fun cs b=>hsel i o cs b hi) (fun cs b=>hsel j oj cs b hoj) hQ hy (H.2 j (ready_mono hj hji))
  have hk1:(l.setIfInBounds j true).getD k true=false:=by rw [Go.getD_set_ne true hjk];exact hk
  have hik:i≠k:=fun e=>waits_unready hc hw hr (e ▸ hr)
  have hk2:((l.setIfInBounds i true).setIfInBounds j true).getD k true=false:=by rw [Go.getD_set_ne true hjk,Go.getD_set_ne true hik];exact hk
  have hfree':∀ m om,ops[m]?=some om->m≠i->(l.setIfInBounds j true).getD m true=false->(∀ e ∈ om.after,Region.binds md e=true->e.on≠i)->o.apart ops om=true:=by
   intro m om hm hmi hun hno;refine hfree m om hm hmi ?_ hno
   by_cases e:j=m
   ·subst e;exact hjun
   ·rw [Go.getD_set_ne true e] at hun;exact hun
  refine wpOp_mono (fun a' w' h3=>?_) h2;obtain ⟨y3,s3,r3⟩:=h3;refine ⟨fun _=>s3 hk2,ih _ a' w' (closedL_set hc hj) hfree' (ready_mono hr (Ne.symm hji)) y3 (s3 hk2) hk1 ?_⟩;rw [Array.setIfInBounds_comm _ _ hji];exact r3
theorem anyK_take {i:Nat} {o:Oper} {v:Value} {n:Nat} {l:Array Bool} {a:Act} {w:World} (hi:ops[i]?=some o)
  (hs:Region.noSelect ops=true) (hf:Region.free md ops l i=true) (hr:(Region.ready md ops l).contains i=true) {N:Nat} (hw:waits md ops N k i=true) (hc:closedB md ops l=true) (hk:l.getD k true=false)
  (hQ:∀ c a w,Q (.panic c) (a.put o.dst v) w->Q (.panic c) a w) (hy:YieldsIf P ops S o v a) (hS:S w)
  (h:anyK P md ops Q k S n (l.setIfInBounds i true) (a.put o.dst v) w):anyK P md ops Q k S (n+1) l a w :=
 anyK_first hi (Region.noSelect_spec hs) hQ hw n l a w (closedB_spec hc) (Region.free_spec hi hf) (by simpa using hr) hy hS hk h
theorem kT (i N:Nat) {o:Oper} {v:Value} {n:Nat} {l:Array Bool} {a:Act} {w:World} (hi:ops[i]?=some o) (hy:YieldsIf P ops S o v a) (hS:S w)
  (h:anyK P md ops Q k S n (l.setIfInBounds i true) (a.put o.dst v) w) (hs:Region.noSelect ops=true:=by kernel_rfl) (hf:Region.free md ops l i=true:=by kernel_rfl) (hr:(Region.ready md ops l).contains i=true:=by kernel_rfl) (hw:waits md ops N k i=true:=by kernel_rfl) (hc:closedB md ops l=true:=by kernel_rfl) (hk:l.getD k true=false:=by kernel_rfl)
  (hQ:∀ c a w,Q (.panic c) (a.put o.dst v) w->Q (.panic c) a w:=by exact fun _ _ _ h=>h):anyK P md ops Q k S (n+1) l a w:=anyK_take hi hs hf hr hw hc hk hQ hy hS h
theorem anyK_one {i:Nat} {o:Oper} {n:Nat} {l:Array Bool} {a:Act} {w:World} (hr:Region.ready md ops l=[i]) (ho:ops[i]?=some o)
  (h:∀ K':Act->World->Prop,Shut (∀ a w,((l.setIfInBounds i true).getD k true=false->S w)->anyK P md ops Q k S n (l.setIfInBounds i true) a w->K' a w)->if Region.wanted o (yielded ops a.tmps)=true then Oper.wp P o a w K' Q else K' (a.put o.dst undef) w) :
  anyK P md ops Q k S (n+1) l a w:=by
 refine ⟨fun h0=>(by rw [hr] at h0;cases h0),fun j hj=>?_⟩;rw [hr] at hj
 rcases List.mem_singleton.1 hj with rfl
 exact wpOp_step ho (fun K' hK=>h K' (fun a w hS hW=>hK a w ⟨hS,hW⟩))
theorem anyK_done {l:Array Bool} {a:Act} {w:World} (hr:Region.ready md ops l=[]) (h:Q .normal a w) (n:Nat):anyK P md ops Q k S n l a w:=by
 cases n with
 | zero=>exact ⟨hr,h⟩
 | succ n=>exact ⟨fun _=>h,by rw [hr];intro i hi;cases hi⟩
theorem wp_region_K (k:Nat) (S:World->Prop) {id:Nat} {a:Act} {w:World} (hm:P.follows .mixedOrders=true)
  (h:anyK P .any ops Q k S ops.size (Array.replicate ops.size false) a w.drew):(Code.region id ops true).wp P Q a w :=
 wp_region_any hm (anyK_plain _ _ _ _ h)
end
theorem op_info:(Tryz.prog.info? 52).map (fun i=>(i.zero,i.size,i.bytes))=some (some (.agg #[.int .i64 0,.int .i64 0,.slice none 0 0,.int .i64 0,.int .i64 0,.slice none 0 0]),6,80):=by kernel_rfl
def OpsO (w:World) (base:Nat) (v:Value) (ops:List Gop):Prop :=
 ∃ xs:List Value,w.ownsRow base 52 6 v ops.length xs/\∀ t g,ops[t]?=some g->∃ (a1:Option Addr) (n1 c1:Nat) (a2:Option Addr) (n2 c2:Nat),
  xs[t*6]?=some (.int .i64 g.kind)/\xs[t*6+1]?=some (.int .i64 g.k)/\xs[t*6+2]?=some (.slice a1 n1 c1)/\xs[t*6+3]?=some (.int .i64 g.q)/\xs[t*6+4]?=some (.int .i64 g.bit)/\xs[t*6+5]?=some (.slice a2 n2 c2)/\OpO w g a1 n1 c1 a2 n2 c2
theorem OpsO.nil (w:World) (base:Nat):OpsO w base (.slice none 0 0) []:=⟨[],⟨rfl,Or.inl ⟨rfl,rfl⟩⟩,fun t g h=>by simp at h⟩
theorem own_keep {w w':World} {base:Nat} {e:TypeId} {size:Nat} {v:Value} {n:Nat} {xs:List Value} (h:w.ownsRow base e size v n xs) (hk:∀ (g:Nat) (cur:Array Value),base<=g->w.heap[g]?=some (.cells cur e (0,0))->w'.heap[g]?=w.heap[g]?):w'.ownsRow base e size v n xs:=by
 refine ⟨h.1,?_⟩
 rcases h.2 with h | ⟨g,cap,cur,hv,hb,hg,rest⟩
 ·exact Or.inl h
 ·exact Or.inr ⟨g,cap,cur,hv,hb,(hk g cur hb hg).trans hg,rest⟩
theorem OpsO.ext {w w':World} {base:Nat} {v:Value} {ops:List Gop} (h:OpsO w base v ops) (k:Ext w w'):OpsO w' base v ops:=by
 obtain ⟨xs,h1,h2⟩:=h;refine ⟨xs,own_keep h1 (fun g cur _ hg=>k.block g (gS.1 hg).1),fun t g hg=>?_⟩;obtain ⟨a1,n1,c1,a2,n2,c2,e0,e1,e2,e3,e4,e5,e6⟩:=h2 t g hg;exact ⟨a1,n1,c1,a2,n2,c2,e0,e1,e2,e3,e4,e5,e6.ext k⟩
theorem OpsO.only {w w':World} {base k:Nat} {v:Value} {ops:List Gop} {cs:Array Value} {T:TypeId} {fr:Nat × Nat} (h:OpsO w base v ops) (hk:w.heap[k]?=some (.cells cs T fr)) (hT:T≠3) (hO:Only k w w') (hs:w.heap.size<=w'.heap.size) (hb:k<base):OpsO w' base v ops:=by
 obtain ⟨xs,h1,h2⟩:=h;refine ⟨xs,own_keep h1 (fun g cur hg _=>hO.block g (by omega)),fun t g hg=>?_⟩;obtain ⟨a1,n1,c1,a2,n2,c2,e0,e1,e2,e3,e4,e5,e6⟩:=h2 t g hg;exact ⟨a1,n1,c1,a2,n2,c2,e0,e1,e2,e3,e4,e5,e6.keep hs (only_ints hk hT hO)⟩
theorem OpsO.at {w:World} {base:Nat} {v:Value} {ops:List Gop} (h:OpsO w base v ops):∃ (a:Option Addr) (c:Nat),v=.slice a ops.length c/\ops.length<=c/\c<=maxLen/\OpsAt w a ops.length ops:=by
 obtain ⟨xs,h1,h2⟩:=h
 rcases h1.2 with ⟨rfl,h0⟩ | ⟨g,cap,cur,hv,hb,hg,hn,hcm,_,htk⟩
 ·rw [h0]
  exact ⟨none,0,rfl,Nat.le_refl _,Nat.zero_le _,h0,Or.inl rfl⟩
 ·refine ⟨some ⟨g,0,none⟩,cap,hv,hn,hcm,rfl,Or.inr ⟨g,0,rfl,(gS.1 hg).1,fun t gg hgg=>?_⟩⟩
  obtain ⟨a1,n1,c1,a2,n2,c2,e0,e1,e2,e3,e4,e5,e6⟩:=h2 t gg hgg;have ht:=(List.getElem?_eq_some_iff.1 hgg).1
  have hc:∀ j,j<ops.length*6->w.cell? ⟨g,0+j,none⟩=xs[j]?:=by
   intro j hj;rw [Nat.zero_add,cell_of_row w g j cur _ (0,0) hg,<-Array.getElem?_toList,<-htk,List.getElem?_take,if_pos hj]
  exact ⟨a1,n1,c1,a2,n2,c2,by rw [hc _ (by omega)];exact e0,by rw [Nat.add_assoc,hc _ (by omega)];exact e1,by rw [Nat.add_assoc,hc _ (by omega)];exact e2,by rw [Nat.add_assoc,hc _ (by omega)];exact e3,by rw [Nat.add_assoc,hc _ (by omega)];exact e4,by rw [Nat.add_assoc,hc _ (by omega)];exact e5,e6.l⟩
theorem OpsO.snoc {w w':World} {base:Nat} {v':Value} {ops:List Gop} {xs:List Value} {g:Gop} {a1:Option Addr} {n1 c1:Nat} {a2:Option Addr} {n2 c2:Nat}
  (h1:w'.ownsRow base 52 6 v' (ops.length+1) (xs++[.int .i64 g.kind,.int .i64 g.k,.slice a1 n1 c1,.int .i64 g.q,.int .i64 g.bit,.slice a2 n2 c2])) (hx:xs.length=ops.length*6)
  (h2:∀ t g,ops[t]?=some g->∃ (a1:Option Addr) (n1 c1:Nat) (a2:Option Addr) (n2 c2:Nat),xs[t*6]?=some (.int .i64 g.kind)/\xs[t*6+1]?=some (.int .i64 g.k)/\xs[t*6+2]?=some (.slice a1 n1 c1)/\xs[t*6+3]?=some (.int .i64 g.q)/\xs[t*6+4]?=some (.int .i64 g.bit)/\xs[t*6+5]?=some (.slice a2 n2 c2)/\OpO w g a1 n1 c1 a2 n2 c2)
  (hk:∀ (g:Gop) (a1:Option Addr) (n1 c1:Nat) (a2:Option Addr) (n2 c2:Nat),OpO w g a1 n1 c1 a2 n2 c2->OpO w' g a1 n1 c1 a2 n2 c2) (hO:OpO w' g a1 n1 c1 a2 n2 c2):OpsO w' base v' (ops++[g]):=by
 have hl:(ops++[g]).length=ops.length+1:=by simp
 refine ⟨_,by rw [hl];exact h1,fun t gg hgg=>?_⟩;have ht:=(List.getElem?_eq_some_iff.1 hgg).1;rw [hl] at ht
 by_cases e:t=ops.length
 ·subst e
  rw [List.getElem?_append_right (Nat.le_refl _),Nat.sub_self] at hgg
  cases hgg
  have hr:∀ j,(xs++[.int .i64 g.kind,.int .i64 g.k,.slice a1 n1 c1,.int .i64 g.q,.int .i64 g.bit,.slice a2 n2 c2])[ops.length*6+j]?=([.int .i64 g.kind,.int .i64 g.k,.slice a1 n1 c1,.int .i64 g.q,.int .i64 g.bit,.slice a2 n2 c2]:List Value)[j]?:=fun j=>by
   rw [List.getElem?_append_right (by omega),hx,Nat.add_sub_cancel_left]
  exact ⟨a1,n1,c1,a2,n2,c2,hr 0,hr 1,hr 2,hr 3,hr 4,hr 5,hO⟩
 ·rw [List.getElem?_append_left (by omega)] at hgg
  obtain ⟨b1,m1,d1,b2,m2,d2,e0,e1,e2,e3,e4,e5,e6⟩:=h2 t gg hgg
  have hr:∀ j,j<6->(xs++[.int .i64 g.kind,.int .i64 g.k,.slice a1 n1 c1,.int .i64 g.q,.int .i64 g.bit,.slice a2 n2 c2])[t*6+j]?=xs[t*6+j]?:=fun j hj=>List.getElem?_append_left (by omega)
  exact ⟨b1,m1,d1,b2,m2,d2,(hr 0 (by omega)).trans e0,(hr 1 (by omega)).trans e1,(hr 2 (by omega)).trans e2,(hr 3 (by omega)).trans e3,(hr 4 (by omega)).trans e4,(hr 5 (by omega)).trans e5,hk _ _ _ _ _ _ _ e6⟩
theorem PtKind {w:World} {base n size:Nat} {v:Value} {xs:List Value} {e:TypeId} (h:w.ownsRow base e size v n xs):∀ k,v.ownBlock=some k->base<=k/\∃ cs fr,w.heap[k]?=some (.cells cs e fr):=by
 intro k hk
 rcases h.2 with ⟨rfl,_⟩ | ⟨g,cap,cur,rfl,hb,hg,_⟩
 ·simp [Value.ownBlock] at hk
 ·simp [Value.ownBlock] at hk
  subst hk;exact ⟨hb,cur,(0,0),hg⟩
theorem new_op (w:World) (k0 k1:Int) (a1:Option Addr) (n1 c1:Nat) (k3 k4:Int) (a2:Option Addr) (n2 c2:Nat) (e:TypeId):∀ j u,([.int .i64 k0,.int .i64 k1,.slice a1 n1 c1,.int .i64 k3,.int .i64 k4,.slice a2 n2 c2]:List Value)[j]?=some u->(w.alloc (.cells #[.int .i64 k0,.int .i64 k1,.slice a1 n1 c1,.int .i64 k3,.int .i64 k4,.slice a2 n2 c2] e)).cell? ((⟨w.heap.size,0,none⟩:Addr).add j)=some u:=by
 intro j u hu
 have hadd:(⟨w.heap.size,0,none⟩:Addr).add j=⟨w.heap.size,j,none⟩:=by unfold Addr.add;split<;>simp_all
 rw [hadd,cell_of_row _ _ j _ _ (0,0) (heap_alloc_new w _)]
 simpa using hu
theorem one_op (k0 k1:Int) (a1:Option Addr) (n1 c1:Nat) (k3 k4:Int) (a2:Option Addr) (n2 c2:Nat):∀ u ∈ ([.int .i64 k0,.int .i64 k1,.slice a1 n1 c1,.int .i64 k3,.int .i64 k4,.slice a2 n2 c2]:List Value),u.oneCell'=true:=by
 intro u hu;simp only [List.mem_cons,List.not_mem_nil,or_false] at hu
 rcases hu with rfl | rfl | rfl | rfl | rfl | rfl<;>rfl
theorem stepK_append {ops:Array Oper} {o:Oper} {a:Act} {K:Act->World->Prop} {Q:Exit->Act->World->Prop} {E:Prop} {w w':World} (hgd:o.guard=none) (s x:Operand) (t:TypeId)
  (ho:o.op=.call { callee:=.builtin .append,args:=#[s,x],argTypes:=#[t,t] }) (v1 v2 r:Value) (hs:a.eval s=v1) (hx:a.eval x=v2)
  (hap:(Builtin.append_ #[t,t] o.type #[v1,v2]).run Tryz.prog w=.ok r w') (h:K (a.put o.dst r) w') :
  if Region.wanted o (yielded ops a.tmps)=true then Oper.wp Tryz.prog o a w K Q else E:=by
 have hw:Region.wanted o (yielded ops a.tmps)=true:=by simp [Region.wanted,hgd]
 rw [if_pos hw];unfold Oper.wp execOp;simp only [ho,resolve,invoke,builtin,Sem.run_bind,Sem.run_pure,Result.andThen_ok,List.map_toArray,List.map_cons,List.map_nil,hs,hx,hap];exact h
theorem stepK_store {ops:Array Oper} {o:Oper} {a:Act} {K:Act->World->Prop} {Q:Exit->Act->World->Prop} {E:Prop} {w:World} (hgd:o.guard=none) (hd:o.dst=none) (p x:Operand)
  (ho:o.op=.store 22 p x) (b off:Nat) (a':Option Addr) (n' c':Nat) (u:Value) (hp:a.eval p=.pointer (some ⟨b,off,none⟩)) (hx:a.eval x=.slice a' n' c')
  (hcell:w.cell? ⟨b,off,none⟩=some u) (hfz:w.frozen? ⟨b,off,none⟩=false) (h:K a (w.setCell ⟨b,off,none⟩ (.slice a' n' c'))) :
  if Region.wanted o (yielded ops a.tmps)=true then Oper.wp Tryz.prog o a w K Q else E:=by
 have hw:Region.wanted o (yielded ops a.tmps)=true:=by simp [Region.wanted,hgd]
 rw [if_pos hw];obtain ⟨od,oo,ot,opp,oa,og⟩:=o;simp only at ho hd;subst ho hd;have HH:=Lh h;clear h;unfold Oper.wp execOp;simp only [hp,hx]
 go_simp
 exact HH.out
theorem CiB.f {W:World} {g:Nat} {qb bi:Int} {ao:Option Addr} {n cp:Nat} (h:CiB W g qb bi ao n cp) (o:Nat):W.frozen? ⟨g,o,none⟩=false:=frozen_of_row W g o _ _ h.row
theorem CiB.set2 {W:World} {g:Nat} {qb bi:Int} {ao:Option Addr} {n cp:Nat} (h:CiB W g qb bi ao n cp) (a:Option Addr) (m c:Nat):CiB (W.setCell ⟨g,2,none⟩ (.slice a m c)) g qb bi a m c:=⟨heap_setCell_same W g 2 _ _ (.slice a m c) h.row⟩
theorem CiB_grown {a w':World} {v:Value} {base g:Nat} {e:TypeId} {qb bi:Int} {ao:Option Addr} {n cp:Nat} (hg:a.grownBy w' v.ownBlock) (hk:∀ k,v.ownBlock=some k->base<=k/\∃ cs fr,a.heap[k]?=some (.cells cs e fr)) (h:CiB a g qb bi ao n cp) (hb:g<base):CiB w' g qb bi ao n cp :=
 ⟨(hg.block g h.lt (fun e=>by have:=(hk g e.symm).1;omega)).trans h.row⟩
def grR (n:Nat) (gens:List (List UInt8)):List (List UInt8):=if gens=[] then [] else grp n gens
theorem own_cells {w:World} {base n:Nat} {v:Value} {l:List (List UInt8)} (h:w.ownsRow base 9 1 v n (sC l)) (hn:0<n):∃ g cap,v=.slice (some ⟨g,0,none⟩) n cap/\(∀ t,t<n->w.cell? ⟨g,0+t,none⟩=some (.string ⟨(l.getD t []).toArray⟩))/\g<w.heap.size:=by
 obtain ⟨a,c,rfl,_,_,hs⟩:=strs_of_own h;obtain ⟨b,o,rfl,hb,hc⟩:=hs.at hn
 rcases h.2 with ⟨e1,_⟩ | ⟨g,cap,cur,e1,_⟩
 ·cases e1
 ·injection e1 with e1 _ _
  injection e1 with e1;injection e1 with e2 e3 _;subst e2;subst e3;exact ⟨b,c,rfl,hc,hb⟩
theorem ownX_one (w:World) (x:ByteArray) (base:Nat) (hb:base<=w.heap.size):(w.alloc (.cells #[.string x] 9)).ownsRow base 9 1 (.slice (some ⟨w.heap.size,0,none⟩) 1 1) 1 [.string x] :=
 ⟨rfl,Or.inr ⟨w.heap.size,1,#[.string x],rfl,hb,heap_alloc_new w _,Nat.le_refl _,by unfold maxLen;decide,rfl,rfl⟩⟩
theorem stepK_buildX {ops:Array Oper} {o:Oper} {a:Act} {K:Act->World->Prop} {Q:Exit->Act->World->Prop} {E:Prop} {w:World} (hgd:o.guard=none) (x:Operand) (ho:o.op=.buildSlice 27 1 #[(0,x)]) (z:ByteArray)
  (hx:a.eval x=.string z) (h:K (a.put o.dst (.slice (some ⟨w.heap.size,0,none⟩) 1 1)) (w.alloc (.cells #[.string z] 9))) :
  if Region.wanted o (yielded ops a.tmps)=true then Oper.wp Tryz.prog o a w K Q else E:=by
 have hw:Region.wanted o (yielded ops a.tmps)=true:=by simp [Region.wanted,hgd]
 rw [if_pos hw];obtain ⟨od,oo,ot,opp,oa,og⟩:=o;simp only at ho;subst ho;have HH:=Lh h;clear h;unfold Oper.wp execOp;simp only [hx,List.map_toArray,List.map_cons,List.map_nil]
 go_simp
 exact HH.out
theorem cells_of {w:World} {g:Nat} {l:List (List UInt8)} {n:Nat} (hl:l.length=n) (h:∀ t,t<n->w.cell? ⟨g,0+t,none⟩=some (.string ⟨(l.getD t []).toArray⟩)):∀ j u,(sC l)[j]?=some u->w.cell? ((⟨g,0,none⟩:Addr).add j)=some u:=by
 intro j u hu
 have hadd:(⟨g,0,none⟩:Addr).add j=⟨g,0+j,none⟩:=by unfold Addr.add;split<;>simp_all
 obtain ⟨h1,_⟩:=List.getElem?_eq_some_iff.1 hu;rw [sC_length] at h1;rw [hadd,h j (by omega)];unfold sC at hu;rw [List.getElem?_map,List.getElem?_eq_getElem h1] at hu;rw [List.getD_eq_getElem?_getD,List.getElem?_eq_getElem h1];exact hu
theorem one_all (l:List (List UInt8)):∀ u ∈ sC l,u.oneCell'=true:=by
 intro u hu;unfold sC at hu;obtain ⟨x,_,rfl⟩:=List.mem_map.1 hu
 rfl
theorem oneT_snoc (j:Nat):(⟨(oneT j).toArray⟩:ByteArray)++⟨#[73]⟩=⟨(oneT (j+1)).toArray⟩:=by
 rw [show (⟨#[73]⟩:ByteArray)=⟨([73]:List UInt8).toArray⟩ from rfl,str_append];unfold oneT;rw [List.replicate_succ']
theorem Group_any (gens:List (List UInt8)) (n:Nat) (ao:Option Addr) (k c:Nat) (w:World) (hG:StrsAt w ao k gens) (hk:k<=12) (hn:n<=12) (hall:∀ T ∈ gens,Let n T) :
  Calls Tryz.prog 68 #[.slice ao k c] w fun r w'=>(∃ v,r=.returned v/\w'.ownsRow w.heap.size 9 1 v (grR n gens).length (sC (grR n gens)))/\Ext w w':=by
 obtain ⟨i0,hi0,hz0,hz1,hz2⟩:=info_parts s_info;have HG:=Lh hG;have Hk:=Lh hk;have Hall:=Lh hall;have Hn:=Lh hn;have Hlg:=Lh (show gens.length=k from hG.1);clear hG hk hall hn
 go_enter Tryz.func68,Tryz.ntmps68
 go_wp2_with fail
 go_loopg [3,4,5,6,7,8] k (fun kk s3 s4 _ _ _ _ wr=>Ext w wr/\∃ i:Nat,s4=.int .i64 (i:Int)/\i<=k/\k-i=kk/\wr.ownsRow w.heap.size 9 1 s3 (grR n (gens.take i)).length (sC (grR n (gens.take i))))
 case atStart=>exact ⟨Ext.refl _,0,rfl,Nat.zero_le _,rfl,⟨rfl,Or.inl ⟨rfl,rfl⟩⟩⟩
 case round =>
  obtain ⟨hER,i,rfl,hi,hkk,hown⟩:=hrel;have HER:=Lh hER;have Hkk:=Lh hkk;have Hown:=Lh hown
  by_cases hin:i=k
  ·have q1:¬ (i:Int)<(k:Int):=by omega
   have hst:gens.take i=gens:=List.take_of_length_le (by have:=Hlg.out;omega);rw [hst] at Hown;clear hER hkk hown hi hst hin
   go_wp2_with fail
   go_ret
   exact ⟨⟨_,rfl,Hown.out⟩,HER.out⟩
  have hlt:i<k:=by omega
  have q1:(i:Int)<(k:Int):=by omega
  have q0:(0:Int)<=(i:Int):=by omega
  have wk:IntKind.i64.wrap ((i:Int)+1)=((i+1:Nat):Int):=by rw [IntKind.wrap_i64];have:=Hk.out;omega
  obtain ⟨gt',hgt⟩:∃ T,gens[i]?=some T:=⟨_,List.getElem?_eq_getElem (by have:=Hlg.out;omega)⟩;have hgl:=Hall.out gt' (List.mem_of_getElem? hgt);obtain ⟨b,o,rfl,hb,hcells⟩:=(HG.out.ext hER).at (by omega);have c0:=hcells i hlt
  have hgd:gens.getD i []=gt':=by rw [List.getD_eq_getElem?_getD,hgt];rfl
  rw [hgd] at c0
  have hp1:grR n (gens.take (i+1))=grp n (gens.take i)++(grp n (gens.take i)).map (fun p=>mulT p gt'):=by
   rw [List.take_add_one,hgt]
   show grR n (gens.take i++[gt'])=_
   unfold grR;rw [if_neg (by simp),grp_snoc]
  have hgi:=grp_is n (gens.take i) (fun g hg=>Hall.out g (List.mem_of_mem_take hg))
  have hLb:(grp n (gens.take i)).length<=2048:=by
   rw [hgi.2.2,List.length_take];exact Nat.le_trans (Nat.pow_le_pow_right (by decide) (show min i gens.length<=11 by have:=Hk.out;omega)) (by decide)
  have hL0:0<(grp n (gens.take i)).length:=by rw [hgi.2.2];exact Nat.two_pow_pos _
  have Hgi:=Lh hgi.1;obtain ⟨G,hGe⟩:∃ G,grp n (gens.take i)=G:=⟨_,rfl⟩;rw [hGe] at hp1 hLb hL0 Hgi;have Hp1:=Lh hp1;have HLb:=Lh hLb;have HL0:=Lh hL0;have HGe:=Lh hGe;have Hlt:=Lh hlt;have Hgl:=Lh hgl;have Hb:=Lh hb;have Hc0:=Lh c0;clear hp1 hgi hLb hL0 hGe hgd hgl hkk hi hin
  go_upto_if 16 with fail
  go_cut [3,5,6] from 17 to 28 (fun s3 _ _ wx=>Ext wr wx/\wx.ownsRow w.heap.size 9 1 s3 G.length (sC G))
  case first =>
   by_cases hi0':i=0
   ·subst hi0'
    have hG1:G=[oneT n]:=by rw [<-HGe.out];rfl
    have HG1:=Lh hG1;have hc00:wr.cell? ⟨b,o,none⟩=some (.string ⟨gt'.toArray⟩):=c0
    have hsz:(⟨gt'.toArray⟩:ByteArray).size=n:=by rw [<-Hgl.out.1];simp [ByteArray.size]
    have kpos:(0:Int)<(k:Int):=by have:=Hlt.out;omega
    clear hG1 c0 hER hown hcells hgt hb
    go_wp2_with fail
    go_loopg [5,6] n (fun kk s5 s6 wx=>Ext wr wx/\∃ j:Nat,s6=.int .i64 (j:Int)/\j<=n/\n-j=kk/\s5=.string ⟨(oneT j).toArray⟩)
    case atStart=>exact ⟨Ext.refl _,0,rfl,Nat.zero_le _,rfl,rfl⟩
    case round =>
     obtain ⟨hEj,j,rfl,hj,hjk,rfl⟩:=hrel;have HEj:=Lh hEj;have Hjk:=Lh hjk;have hc01:=cell_ext hc00 HEj.out
     by_cases hjn:j=n
     ·have p1:¬ (j:Int)<(n:Int):=by omega
      subst hjn;have Hrow:=Lh (ownX_one wr ⟨(oneT j).toArray⟩ w.heap.size (Nat.le_trans HER.out.size HEj.out.size));clear hEj hjk hj
      go_wp2_with fail
      go_meet
      exact ⟨HEj.out.trans (ext_al _ _),by rw [HG1.out];exact Hrow.out⟩
     have p1:(j:Int)<(n:Int):=by omega
     have wj:IntKind.i64.wrap ((j:Int)+1)=((j+1:Nat):Int):=by rw [IntKind.wrap_i64];have:=Hn.out;omega
     have hs1:¬ 9223372036854775807<(oneT j).length+1:=by rw [(oneT_is j).1];have:=Hn.out;omega
     have HS:=Lh (oneT_snoc j);have Hj:=Lh (show j+1<=n by omega);obtain ⟨O,hO⟩:∃ O,oneT j=O:=⟨_,rfl⟩;rw [hO] at hs1 HS ⊢;clear hEj hjk hj hjn hO
     go_wp2_with fail
     go_roundg (n-(j+1))
     case measure=>have:=Hjk.out;have:=Hj.out;omega
     case rel=>exact ⟨HEj.out,j+1,rfl,Hj.out,rfl,congrArg Value.string HS.out⟩
   ·have hb0:((i:Int) == 0)=false:=bf (by omega)
    have hwn:grR n (gens.take i)=G:=by rw [<-HGe.out];unfold grR;rw [if_neg (by intro h;have h2:=congrArg List.length h;rw [List.length_take,List.length_nil] at h2;have:=Hlg.out;have:=Hlt.out;omega)]
    have Hw:=Lh (hwn ▸ Hown.out);clear hwn hER hown hcells hgt hb c0
    go_wp2_with fail
    go_meet
    exact ⟨Ext.refl _,Hw.out⟩
  case rest =>
  obtain ⟨hE1,hrow⟩:=hcut;obtain ⟨g1,cap1,rfl,hc1,hg1⟩:=own_cells hrow HL0.out;have hlen:(sC G).length=G.length:=sC_length G;have HE1:=Lh (HER.out.trans hE1);have hc2:=cell_ext Hc0.out hE1;have Hc1:=Lh hc1;have Hg1:=Lh hg1;have Hc2:=Lh hc2;have hcw:=cells_of rfl hc1;have hoa:=one_all G;clear hE1 hrow hc1 hg1 hc2 hER hown hcells hgt hb c0
  go_wp2_with (at_builtin;refine wpList_append_own _ rfl _ _ 27 rfl wc.heap.size 9 i0 (.string ⟨#[]⟩) 1 16 Tryz.underlying27 hi0 hz0 hz1 hz2 rfl (by decide) (.slice none 0 0) 0 [] rfl ⟨rfl,Or.inl ⟨rfl,rfl⟩⟩ ⟨g1,0,none⟩ G.length cap1 (sC G) rfl (by rw [hlen,Nat.mul_one]) hcw hoa (by unfold maxLen;have:=HLb.out;omega) (by have:=HLb.out;omega) (Nat.le_refl _) ?_;intro v1 w1 hown1 hgrow1 _)
  rw [Nat.zero_add,List.nil_append] at hown1;have HE2:=Lh (grown_ext (Ext.refl wc) hgrow1 (fun k hk=>(by cases hk)));have Hown1:=Lh hown1;clear hown1 hgrow1 hcw hoa hlen Hown;obtain ⟨L,hL⟩:∃ L,G.length=L:=⟨_,rfl⟩;rw [hL] at Hown1 Hc1 HLb HL0 ⊢;have HL:=Lh hL;clear hL
  go_wp2_with fail
  go_loopg [7,8] L (fun kk s7 s8 wx=>Ext wc wx/\∃ j:Nat,s8=.int .i64 (j:Int)/\j<=L/\L-j=kk/\wx.ownsRow wc.heap.size 9 1 s7 (L+j) (sC (G++(G.take j).map (fun p=>mulT p gt'))))
  case atStart=>exact ⟨HE2.out,0,rfl,Nat.zero_le _,rfl,by simpa using Hown1.out⟩
  case round =>
   obtain ⟨hEj,j,rfl,hj,hjk,hownj⟩:=hrel;have HEj:=Lh hEj;have Hjk:=Lh hjk;have Hownj:=Lh hownj;clear HE2 Hown1
   by_cases hjL:j=L
   ·have p1:¬ (j:Int)<(L:Int):=by omega
    have hst:G.take j=G:=List.take_of_length_le (by have:=HL.out;omega)
    have Hfin:=Lh (show wr.ownsRow w.heap.size 9 1 u7 (grR n (gens.take (i+1))).length (sC (grR n (gens.take (i+1)))) by
     have h9:=Hownj.out;rw [hst] at h9;rw [Hp1.out,List.length_append,List.length_map,HL.out];rw [hjL] at h9
     exact own_low h9 HE1.out.size)
    clear hEj hjk hownj hj hjL hst
    go_wp2_with fail
    go_roundg (k-(i+1))
    case measure=>have:=Hkk.out;have:=Hlt.out;omega
    case rel=>exact ⟨HE1.out.trans HEj.out,i+1,rfl,Hlt.out,rfl,Hfin.out⟩
   have hjlt:j<L:=by omega
   have p1:(j:Int)<(L:Int):=by omega
   have p0:(0:Int)<=(j:Int):=by omega
   have wj:IntKind.i64.wrap ((j:Int)+1)=((j+1:Nat):Int):=by rw [IntKind.wrap_i64];have:=HLb.out;omega
   obtain ⟨p,hp⟩:∃ p,G[j]?=some p:=⟨_,List.getElem?_eq_getElem (by have:=HL.out;omega)⟩;have hpl:Let n p:=Hgi.out p (List.mem_of_getElem? hp)
   have hpd:G.getD j []=p:=by rw [List.getD_eq_getElem?_getD,hp];rfl
   have HPd:=Lh hpd;have e1:=Hc1.out j hjlt;rw [hpd,Nat.zero_add] at e1;have e1:=cell_ext e1 HEj.out;have e2:=cell_ext Hc2.out HEj.out;have HT:=Lh (fun wx=>lettersTimes_any p gt' n wx hpl Hgl.out (by have:=Hn.out;omega))
   have Hst:=Lh (show sC (G++(G.take (j+1)).map (fun q=>mulT q gt'))=sC (G++(G.take j).map (fun q=>mulT q gt'))++[.string ⟨(mulT p gt').toArray⟩] by
    rw [List.take_add_one,hp]
    show sC (G++(G.take j++[p]).map (fun q=>mulT q gt'))=_
    rw [List.map_append,List.map_cons,List.map_nil,<-List.append_assoc,sC_snoc])
   have Hjlt:=Lh hjlt;obtain ⟨P2,hP2⟩:∃ P2,mulT p gt'=P2:=⟨_,rfl⟩;rw [hP2] at HT Hst;obtain ⟨R,hR⟩:∃ R,sC (G++(G.take j).map (fun q=>mulT q gt'))=R:=⟨_,rfl⟩;rw [hR] at Hst Hownj;clear hEj hjk hownj hj hjL hp hpl hpd hjlt hP2 hR
   go_upto_region 16 with fail
   have hd0:Ext wr wr.drew:=Below.drew (Ext.refl _);refine wp_region_K 12 (fun w'=>w'.cell? ⟨g1,j,none⟩=some (.string ⟨p.toArray⟩)/\w'.cell? ⟨b,o+i,none⟩=some (.string ⟨gt'.toArray⟩)) (by kernel_rfl) ?_
   show anyK _ _ _ _ _ _ 13 #[false,false,false,false,false,false,false,false,false,false,false,false,false] _ _
   have hHeld:wr.drew.cell? ⟨g1,j,none⟩=some (.string ⟨p.toArray⟩)/\wr.drew.cell? ⟨b,o+i,none⟩=some (.string ⟨gt'.toArray⟩):=⟨cell_ext e1 hd0,cell_ext e2 hd0⟩;refine kT 0 13 (v:=?_) rfl (Or.inl ⟨by rfl,?_⟩) hHeld ?_;rotate_left 1
   ·intro w hSw
    go_simp
    try with_reducible rfl
   show anyK _ _ _ _ _ _ _ _ (Act.put _ (some 37) _) _
   simp only [Act.put,sx0,sx1,sx2];refine kT 1 13 (v:=?_) rfl (Or.inl ⟨by rfl,?_⟩) hHeld ?_;rotate_left 1
   ·intro w hSw
    go_simp
    try with_reducible rfl
   show anyK _ _ _ _ _ _ _ _ (Act.put _ (some 38) _) _
   simp only [Act.put,sx0,sx1,sx2];refine kT 2 13 (v:=?_) rfl (Or.inl ⟨by rfl,?_⟩) hHeld ?_;rotate_left 1
   ·intro w hSw
    go_simp
    try with_reducible rfl
   show anyK _ _ _ _ _ _ _ _ (Act.put _ (some 39) _) _
   simp only [Act.put,sx0,sx1,sx2];refine kT 3 13 (v:=?_) rfl (Or.inl ⟨by rfl,?_⟩) hHeld ?_;rotate_left 1
   ·intro w hSw
    go_simp
    try with_reducible rfl
   show anyK _ _ _ _ _ _ _ _ (Act.put _ (some 40) _) _
   simp only [Act.put,sx0,sx1,sx2];refine kT 4 13 (v:=?_) rfl (Or.inl ⟨by rfl,?_⟩) hHeld ?_;rotate_left 1
   ·intro w hSw
    go_simp
    try with_reducible rfl
   show anyK _ _ _ _ _ _ _ _ (Act.put _ (some 41) _) _
   simp only [Act.put,sx0,sx1,sx2];refine kT 5 13 (v:=?_) rfl (Or.inl ⟨by rfl,?_⟩) hHeld ?_;rotate_left 1
   ·intro w hSw
    go_simp
    try with_reducible rfl
   show anyK _ _ _ _ _ _ _ _ (Act.put _ (some 42) _) _
   simp only [Act.put,sx0,sx1,sx2];refine kT 6 13 (v:=?_) rfl (Or.inl ⟨by rfl,?_⟩) hHeld ?_;rotate_left 1
   ·intro w hSw
    go_simp
    try with_reducible rfl
   show anyK _ _ _ _ _ _ _ _ (Act.put _ (some 43) _) _
   simp only [Act.put,sx0,sx1,sx2];refine kT 7 13 (v:=?_) rfl (Or.inl ⟨by rfl,?_⟩) hHeld ?_;rotate_left 1
   ·intro w hSw
    go_simp
    try with_reducible rfl
   show anyK _ _ _ _ _ _ _ _ (Act.put _ (some 44) _) _
   simp only [Act.put,sx0,sx1,sx2];refine kT 8 13 (v:=?_) rfl (Or.inl ⟨by rfl,?_⟩) hHeld ?_;rotate_left 1
   ·intro w hSw
    go_simp
    try with_reducible rfl
   show anyK _ _ _ _ _ _ _ _ (Act.put _ (some 45) _) _
   simp only [Act.put,sx0,sx1,sx2];clear hHeld;refine anyK_one (i:=9) (by kernel_rfl) rfl (fun Kk hKk=>?_)
   go_simp
   (go_at_call 108;refine (HT.out wr.drew).mono ?_;rintro e w3 ⟨rfl,hx3⟩)
   have he3:=hd0.trans hx3
   go_wp2_with fail
   refine hKk.out _ _ (fun _=>⟨cell_ext e1 he3,cell_ext e2 he3⟩) ?_;clear hKk Kk HT;simp only [sx0,sx1,sx2];refine anyK_one (i:=10) (by kernel_rfl) rfl (fun Kk hKk=>?_);refine stepK_buildX rfl _ rfl ⟨P2.toArray⟩ rfl ?_;have he4:=he3.trans (ext_al w3 (.cells #[.string ⟨P2.toArray⟩] 9));refine hKk.out _ _ (fun _=>⟨cell_ext e1 he4,cell_ext e2 he4⟩) ?_;clear hKk Kk
   show anyK _ _ _ _ _ _ _ _ (Act.put _ (some 47) _) _
   simp only [Act.put,sx0,sx1,sx2];have hown4:=own_kpt Hownj.out he4;obtain ⟨g7,cap7,w7,hrun,hown7,hgrow7,_,_⟩:=run_append_lies (P:=Tryz.prog) (w3.alloc (.cells #[.string ⟨P2.toArray⟩] 9)) 27 27 wc.heap.size 9 i0 (.string ⟨#[]⟩) 1 16 Tryz.underlying27 hi0 hz0 hz1 hz2 rfl (by decide) u7 (L+j) R hown4 ⟨w3.heap.size,0,none⟩ 1 1 [.string ⟨P2.toArray⟩] rfl (new_s w3 _ _) (one_s _) (by decide) (by unfold maxLen;have:=HLb.out;have:=Hjlt.out;omega) (by have:=HLb.out;have:=Hjlt.out;omega) (Nat.le_trans HEj.out.size he4.size) _ rfl;have HE7:=Lh (grown_ext (HEj.out.trans he4) hgrow7 (fun k hk=>(own_lt hown4 k hk).1));have Hown7:=Lh hown7;refine anyK_one (i:=11) (by kernel_rfl) rfl (fun Kk hKk=>?_);refine stepK_append rfl _ _ 27 rfl u7 (.slice (some ⟨w3.heap.size,0,none⟩) 1 1) _ rfl rfl hrun ?_;have f1:=cell_ext (Hc1.out j Hjlt.out) HE7.out;have f2:=cell_ext Hc2.out HE7.out;have hHeld:w7.cell? ⟨g1,j,none⟩=some (.string ⟨p.toArray⟩)/\w7.cell? ⟨b,o+i,none⟩=some (.string ⟨gt'.toArray⟩):=⟨by rw [HPd.out,Nat.zero_add] at f1;exact f1,f2⟩;refine hKk.out _ _ (fun _=>hHeld) ?_;clear hHeld;clear hKk Kk hrun hown7 hgrow7 hown4 f1 f2
   show anyK _ _ _ _ _ _ _ _ (Act.put _ (some 48) _) _
   simp only [Act.put,sx0,sx1,sx2];refine anyK_one (i:=12) (by kernel_rfl) rfl (fun Kk hKk=>?_)
   go_wp2_with fail
   refine hKk.out _ _ (fun h=>Bool.noConfusion (show true=false from h)) ?_;clear hKk Kk;simp only [sx0,sx1,sx2];refine anyK_done (by kernel_rfl) ?_ _;clear he3 he4 hx3 hd0 e1 e2
   go_wp2_with fail
   go_roundg (L-(j+1))
   case measure=>have:=Hjk.out;have:=Hjlt.out;omega
   case rel=>exact ⟨HE7.out,j+1,rfl,Hjlt.out,rfl,by rw [Hst.out];exact Hown7.out⟩
end Go.Proofs.YtlechhmhmakgpaaGreatDoor
