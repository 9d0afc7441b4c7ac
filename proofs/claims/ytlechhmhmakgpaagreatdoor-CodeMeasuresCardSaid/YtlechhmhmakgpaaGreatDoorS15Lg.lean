/-
  The one form of a group, in plain lists: each step keeps the group; what the form is; there is just one. The one form of a group: what it has; there is just one. What a generator that is done on a spare qubit makes of Paulis, in plain numbers. A generator measured by a spare qubit, in plain lists: its outcome is certain, and behind it the group is what it was. The program: the first of a group's rows that a closure says yes to.
-/
import Derived.Test.YtlechhmhmakgpaaGreatDoorS14Sh
namespace Go.Proofs.YtlechhmhmakgpaaGreatDoor
set_option maxRecDepth 100000
set_option maxHeartbeats 4000000
open Go.RowKit
structure GoodS (l:List QP):Prop where
 com:Com l
 dua:∃ d,Dua l d
 ok:∀ p ∈ l,p.ok
structure EqS (l l':List QP):Prop where
 len:l'.length=l.length
 grp:∀ p,Grp l' p↔Grp l p
theorem EqS.refl (l:List QP):EqS l l:=⟨rfl,fun _=>Iff.rfl⟩
theorem EqS.trans {a b c:List QP} (h:EqS a b) (k:EqS b c):EqS a c:=⟨k.len.trans h.len,fun p=>(k.grp p).trans (h.grp p)⟩
theorem ok_tim {p r:QP} (h:p.ok) (k:r.ok):(timQ p r).ok:=⟨xor_16 h.1 k.1,xor_16 h.2 k.2⟩
theorem ant_tim (p r t:QP):ant (timQ p r) t=(ant p t ^^ ant r t):=by
 unfold ant timQ;simp only [Nat.and_xor_distrib_right,par_xor]
 cases par 16 (p.x &&& t.z)<;>cases par 16 (r.x &&& t.z)<;>cases par 16 (p.z &&& t.x)<;>cases par 16 (r.z &&& t.x)<;>rfl
theorem ant_lp (t p r:QP):ant t (lpQ p r)=(ant t p ^^ ant t r):=by
 rw [ant_symm t,ant_symm t,ant_symm t];unfold ant lpQ;simp only [Nat.and_xor_distrib_right,par_xor]
 cases par 16 (p.x &&& t.z)<;>cases par 16 (r.x &&& t.z)<;>cases par 16 (p.z &&& t.x)<;>cases par 16 (r.z &&& t.x)<;>rfl
theorem ite_iff {α:Type} {p q:Prop} [Decidable p] [Decidable q] (h:p↔q) (a b:α):(if p then a else b)=if q then a else b:=by
 by_cases hp:p
 ·rw [if_pos hp,if_pos (h.1 hp)]
 ·rw [if_neg hp,if_neg (fun k=>hp (h.2 k))]
theorem mem_set_of {α:Type} {l:List α} {i:Nat} {x y:α} (h:y ∈ l.set i x):y=x\/y ∈ l:=(List.mem_or_eq_of_mem_set h).symm
theorem mul_good {l:List QP} (h:GoodS l) {i a:Nat} (hia:i≠a) {p g:QP} (hp:l[i]?=some p) (hg:l[a]?=some g):GoodS (l.set i (timQ p g))/\EqS l (l.set i (timQ p g)):=by
 have hpl:=List.mem_of_getElem? hp;have hgl:=List.mem_of_getElem? hg;have hil:=(List.getElem?_eq_some_iff.1 hp).1;have hpg:=h.com p hpl g hgl;have ht:=prd_tim hpg
 have hcom:Com (l.set i (timQ p g)):=by
  have h1:∀ r ∈ l,ant (timQ p g) r=false:=fun r hr=>by rw [ant_tim,h.com p hpl r hr,h.com g hgl r hr];rfl
  intro u hu v hv
  rcases mem_set_of hu with rfl | hu
  ·rcases mem_set_of hv with rfl | hv
   ·exact ant_selfQ _
   ·exact h1 v hv
  ·rcases mem_set_of hv with rfl | hv
   ·rw [ant_symm];exact h1 u hu
   ·exact h.com u hu v hv
 have hga:(l.set i (timQ p g))[a]?=some g:=by rw [List.getElem?_set_ne hia];exact hg
 have hti:(l.set i (timQ p g))[i]?=some (timQ p g):=by rw [List.getElem?_set_self hil]
 have hgrp:∀ q,Grp (l.set i (timQ p g)) q↔Grp l q:=fun q=>by
  constructor
  ·refine fun k=>k.le h.com fun u hu=>?_
   rcases mem_set_of hu with rfl | hu
   ·exact (Grp.of hpl).prd h.com (.of hgl) ht
   ·exact .of hu
  ·refine fun k=>k.le hcom fun u hu=>?_
   obtain ⟨j,hj⟩:=List.getElem?_of_mem hu
   by_cases e:i=j
   ·subst e
    have:u=p:=Option.some.inj (hj.symm.trans hp);subst this
    have h2:Prd (timQ u g) g u:=by
     have h4:Prd u idQ (timQ (timQ u g) g):=ht.assoc (prd_tim (by rw [ant_tim,hpg,ant_selfQ];rfl)) (prd_self g);have h5:=h4.uniq (prd_one u);have h6:=prd_tim (p:=timQ u g) (r:=g) (by rw [ant_tim,hpg,ant_selfQ];rfl);rw [h5] at h6;exact h6
    exact (Grp.of (List.mem_of_getElem? hti)).prd hcom (.of (List.mem_of_getElem? hga)) h2
   ·exact .of (List.mem_of_getElem? (by rw [List.getElem?_set_ne e];exact hj))
 obtain ⟨d,hd⟩:=h.dua;refine ⟨⟨hcom,?_,fun u hu=>?_⟩,by rw [List.length_set],hgrp⟩
 ·have hal:=(List.getElem?_eq_some_iff.1 hg).1
  obtain ⟨da,hda⟩:∃ r,d[a]?=some r:=⟨_,List.getElem?_eq_getElem (by rw [hd.len];exact hal)⟩;obtain ⟨di,hdi⟩:∃ r,d[i]?=some r:=⟨_,List.getElem?_eq_getElem (by rw [hd.len];exact hil)⟩;refine ⟨d.set a (lpQ da di),by rw [List.length_set,List.length_set,hd.len],fun k j u r hu hr=>?_⟩
  have hk:∀ r' j',d[j']?=some r'->ant u r'=(decide (k=j') ^^ (decide (k=i) && decide (a=j'))):=fun r' j' hr'=>by
   by_cases e:i=k
   ·subst e
    rw [hti] at hu
    cases hu
    rw [ant_tim,hd.at' i j' p r' hp hr',hd.at' a j' g r' hg hr']
    simp
   ·rw [List.getElem?_set_ne e] at hu
    rw [hd.at' k j' u r' hu hr',decide_eq_false (Ne.symm e)]
    simp
  by_cases e:a=j
  ·subst e
   rw [List.getElem?_set_self (by rw [hd.len];exact hal)] at hr
   cases hr
   rw [ant_lp,hk da a hda,hk di i hdi];have:decide (a=i)=false:=decide_eq_false (Ne.symm hia);rw [this]
   by_cases e1:k=i
   ·subst e1;simp [hia]
   ·simp [e1]
  ·rw [List.getElem?_set_ne e] at hr
   rw [hk r j hr,decide_eq_false e]
   simp
 ·rcases mem_set_of hu with rfl | hu
  ·exact ok_tim (h.ok p hpl) (h.ok g hgl)
  ·exact h.ok u hu
def swL (l:List QP) (i j:Nat):List QP:=(l.set i (l.getD j idQ)).set j (l.getD i idQ)
theorem swL_at {l:List QP} {i j:Nat} (hi:i<l.length) (hj:j<l.length) (k:Nat):(swL l i j)[k]?=l[if k=j then i else if k=i then j else k]?:=by
 unfold swL
 by_cases e:j=k
 ·subst e
  rw [List.getElem?_set_self (by rw [List.length_set];exact hj),if_pos rfl,List.getD_eq_getElem?_getD,List.getElem?_eq_getElem hi];rfl
 ·rw [List.getElem?_set_ne e,if_neg (Ne.symm e)]
  by_cases e2:i=k
  ·subst e2
   rw [List.getElem?_set_self hi,if_pos rfl,List.getD_eq_getElem?_getD,List.getElem?_eq_getElem hj];rfl
  ·rw [List.getElem?_set_ne e2,if_neg (Ne.symm e2)]
theorem swL_len (l:List QP) (i j:Nat):(swL l i j).length=l.length:=by unfold swL;rw [List.length_set,List.length_set]
theorem swL_mem {l:List QP} {i j:Nat} (hi:i<l.length) (hj:j<l.length) (p:QP):p ∈ swL l i j↔p ∈ l:=by
 constructor
 ·intro h
  obtain ⟨k,hk⟩:=List.getElem?_of_mem h;rw [swL_at hi hj] at hk;exact List.mem_of_getElem? hk
 ·intro h
  obtain ⟨k,hk⟩:=List.getElem?_of_mem h;refine List.mem_of_getElem? (i:=if k=j then i else if k=i then j else k) ?_;rw [swL_at hi hj]
  by_cases e1:k=j
  ·subst e1
   rw [if_pos rfl]
   by_cases e2:i=k
   ·subst e2;rw [if_pos rfl];exact hk
   ·rw [if_neg e2,if_pos rfl];exact hk
  ·rw [if_neg e1]
   by_cases e2:k=i
   ·subst e2;rw [if_pos rfl,if_pos rfl];exact hk
   ·rw [if_neg e2,if_neg e1,if_neg e2];exact hk
theorem grp_mem {l l':List QP} (h:∀ p,p ∈ l↔p ∈ l') {p:QP} (k:Grp l p):Grp l' p:=by
 induction k with
 | one=>exact .one
 | mul _ hg hp ih=>exact .mul ih ((h _).1 hg) hp
theorem sw_good {l:List QP} (h:GoodS l) {i j:Nat} (hi:i<l.length) (hj:j<l.length):GoodS (swL l i j)/\EqS l (swL l i j):=by
 have hm:=swL_mem hi hj;refine ⟨⟨fun p hp r hr=>h.com p ((hm p).1 hp) r ((hm r).1 hr),?_,fun p hp=>h.ok p ((hm p).1 hp)⟩,swL_len l i j,fun p=>⟨grp_mem hm,grp_mem fun p=>(hm p).symm⟩⟩;obtain ⟨d,hd⟩:=h.dua;refine ⟨swL d i j,by rw [swL_len,swL_len,hd.len],fun a b p r hp hr=>?_⟩;rw [swL_at hi hj] at hp;rw [swL_at (by rw [hd.len];exact hi) (by rw [hd.len];exact hj)] at hr;rw [hd.at' _ _ p r hp hr];refine decide_eq_decide.2 ?_
 constructor
 ·intro e
  split at e<;>split at e<;>(try split at e)<;>(try split at e)<;>omega
 ·intro e;rw [e]
def seS (h:QP->Bool) (a:Nat) (l:List QP) (i:Nat):List QP:=if i≠a/\h (l.getD i idQ)=true then l.set i (timQ (l.getD i idQ) (l.getD a idQ)) else l
def seN (h:QP->Bool) (a:Nat) (l:List QP) (k:Nat):List QP:=(List.range k).foldl (seS h a) l
def seL (h:QP->Bool) (a:Nat) (l:List QP):List QP:=seN h a l l.length
theorem seN_succ (h:QP->Bool) (a:Nat) (l:List QP) (k:Nat):seN h a l (k+1)=seS h a (seN h a l k) k:=by unfold seN;rw [List.range_succ,List.foldl_append];rfl
theorem seS_len (h:QP->Bool) (a:Nat) (l:List QP) (i:Nat):(seS h a l i).length=l.length:=by unfold seS;split<;>simp
theorem seN_len (h:QP->Bool) (a:Nat) (l:List QP):∀ k,(seN h a l k).length=l.length
 | 0=>rfl
 | k+1=>by rw [seN_succ,seS_len,seN_len h a l k]
theorem seN_at (h:QP->Bool) {a:Nat} {l:List QP} {g:QP} (hg:l[a]?=some g):∀ k (i:Nat),(seN h a l k)[i]?=(l[i]?).map fun p=>if i<k/\i≠a/\h p=true then timQ p g else p
 | 0,i=>by
  show l[i]?=_
  cases l[i]?<;>simp
 | k+1,i=>by
  rw [seN_succ];have ih:=seN_at h hg k
  have ha:(seN h a l k).getD a idQ=g:=by rw [List.getD_eq_getElem?_getD,ih,hg];simp
  unfold seS
  by_cases hk:k<l.length
  ·obtain ⟨p,hp⟩:∃ p,l[k]?=some p:=⟨_,List.getElem?_eq_getElem hk⟩
   have hkp:(seN h a l k).getD k idQ=p:=by rw [List.getD_eq_getElem?_getD,ih,hp];simp
   rw [ha,hkp]
   by_cases hc:k≠a/\h p=true
   ·rw [if_pos hc]
    by_cases e:k=i
    ·subst e
     rw [List.getElem?_set_self (by rw [seN_len];exact hk),hp]
     simp [hc]
    ·rw [List.getElem?_set_ne e,ih]
     cases l[i]? with
     | none=>rfl
     | some r =>
      simp only [Option.map_some];rw [ite_iff (show (i<k+1/\i≠a/\h r=true)↔(i<k/\i≠a/\h r=true) from and_congr_left fun _=>by omega)]
   ·rw [if_neg hc,ih]
    cases hr:l[i]? with
    | none=>rfl
    | some r =>
     simp only [Option.map_some]
     by_cases e:k=i
     ·subst e
      have:r=p:=Option.some.inj (hr.symm.trans hp);subst this;rw [if_neg (fun x=>Nat.lt_irrefl _ x.1),if_neg (fun x=>hc x.2)]
     ·rw [ite_iff (show (i<k+1/\i≠a/\h r=true)↔(i<k/\i≠a/\h r=true) from and_congr_left fun _=>by omega)]
  ·have hn:(seN h a l k).getD k idQ=idQ:=by rw [List.getD_eq_getElem?_getD,List.getElem?_eq_none (by rw [seN_len];omega)];rfl
   have hs:∀ x,(if k≠a/\h ((seN h a l k).getD k idQ)=true then (seN h a l k).set k x else seN h a l k)=seN h a l k:=fun x=>by
    split
    ·exact List.set_eq_of_length_le (by rw [seN_len];omega)
    ·rfl
   rw [hs,ih]
   cases hr:l[i]? with
   | none=>rfl
   | some r =>
    have:i<l.length:=(List.getElem?_eq_some_iff.1 hr).1;simp only [Option.map_some];rw [ite_iff (show (i<k+1/\i≠a/\h r=true)↔(i<k/\i≠a/\h r=true) from and_congr_left fun _=>by omega)]
theorem seS_good {l:List QP} (hl:GoodS l) (h:QP->Bool) {a:Nat} (ha:a<l.length) (i:Nat):GoodS (seS h a l i)/\EqS l (seS h a l i):=by
 unfold seS
 split
 ·rename_i hc
  by_cases hi:i<l.length
  ·exact mul_good hl hc.1 (by rw [List.getElem?_eq_getElem hi,List.getD_eq_getElem?_getD,List.getElem?_eq_getElem hi];rfl) (by rw [List.getElem?_eq_getElem ha,List.getD_eq_getElem?_getD,List.getElem?_eq_getElem ha];rfl)
  ·rw [List.set_eq_of_length_le (by omega)];exact ⟨hl,.refl l⟩
 ·exact ⟨hl,.refl l⟩
theorem seN_good {l:List QP} (hl:GoodS l) (h:QP->Bool) {a:Nat} (ha:a<l.length):∀ k,GoodS (seN h a l k)/\EqS l (seN h a l k)
 | 0=>⟨hl,.refl l⟩
 | k+1=>by
  rw [seN_succ];obtain ⟨h1,h2⟩:=seN_good hl h ha k;obtain ⟨h3,h4⟩:=seS_good h1 h (a:=a) (by rw [seN_len];exact ha) k;exact ⟨h3,h2.trans h4⟩
def colQ (n c:Nat) (p:QP):Bool:=if c<n then p.x.testBit c else p.z.testBit (c-n)
def orS (n:Nat) (st:List QP × Nat) (c:Nat):List QP × Nat:=match (st.1.drop st.2).findIdx? (colQ n c) with
 | none=>st
 | some k=>(seL (colQ n c) st.2 (swL st.1 st.2 (st.2+k)),st.2+1)
def orN (n:Nat) (l:List QP) (c:Nat):List QP × Nat:=(List.range c).foldl (orS n) (l,0)
def orL (l:List QP):List QP:=(orN l.length l (2*l.length)).1
theorem orN_succ (n:Nat) (l:List QP) (c:Nat):orN n l (c+1)=orS n (orN n l c) c:=by unfold orN;rw [List.range_succ,List.foldl_append];rfl
theorem col_tim (n c:Nat) (p r:QP):colQ n c (timQ p r)=(colQ n c p ^^ colQ n c r):=by
 unfold colQ timQ
 split<;>simp only [Nat.testBit_xor]
theorem col_prd (n c:Nat) {p r s:QP} (h:Prd p r s):colQ n c s=(colQ n c p ^^ colQ n c r):=by
 unfold colQ
 split
 ·rw [h.x,Nat.testBit_xor]
 ·rw [h.z,Nat.testBit_xor]
theorem col_one (n c:Nat):colQ n c idQ=false:=by unfold colQ idQ;split<;>simp
structure FormS (n:Nat) (l:List QP) (r c:Nat) (pv:Nat->Nat):Prop where
 le:r<=l.length
 lt:∀ i,i<r->pv i<c
 inc:∀ i j,i<j->j<r->pv i<pv j
 one:∀ i k p,i<r->l[k]?=some p->colQ n (pv i) p=decide (k=i)
 lead:∀ i p b,i<r->l[i]?=some p->b<pv i->colQ n b p=false
 rest:∀ k p b,r<=k->l[k]?=some p->b<c->colQ n b p=false
theorem or_step {n:Nat} {l:List QP} {r c:Nat} {pv:Nat->Nat} (hg:GoodS l) (hf:FormS n l r c pv):GoodS (orS n (l,r) c).1/\EqS l (orS n (l,r) c).1/\∃ pv',FormS n (orS n (l,r) c).1 (orS n (l,r) c).2 (c+1) pv':=by
 unfold orS;simp only
 cases hk:(l.drop r).findIdx? (colQ n c) with
 | none =>
  refine ⟨hg,.refl l,pv,hf.le,fun i hi=>by have:=hf.lt i hi;omega,hf.inc,hf.one,hf.lead,fun k p b h1 h2 h3=>?_⟩
  by_cases e:b=c
  ·subst e
   have:=List.findIdx?_eq_none_iff.1 hk p (List.mem_of_getElem? (i:=k-r) (by rw [List.getElem?_drop,show r+(k-r)=k from by simp only at h1;omega];exact h2))
   simpa using this
  ·exact hf.rest k p b h1 h2 (by omega)
 | some k =>
  simp only;obtain ⟨hkl,hkc,_⟩:=List.findIdx?_eq_some_iff_getElem.1 hk;rw [List.length_drop] at hkl
  have hr:r<l.length:=by omega
  have hrk:r+k<l.length:=by omega
  obtain ⟨g1,e1⟩:=sw_good hg hr hrk
  have hrs:r<(swL l r (r+k)).length:=by rw [swL_len];exact hr
  obtain ⟨g2,e2⟩:=seN_good g1 (colQ n c) hrs (swL l r (r+k)).length;obtain ⟨g,hgp⟩:∃ g,l[r+k]?=some g:=⟨_,List.getElem?_eq_getElem hrk⟩
  have hgc:colQ n c g=true:=by
   rw [List.getElem_drop] at hkc;rw [List.getElem?_eq_getElem hrk] at hgp
   cases hgp
   exact hkc
  have hgr:(swL l r (r+k))[r]?=some g:=by
   rw [swL_at hr hrk]
   by_cases e:r=r+k
   ·rw [if_pos e];rw [<-hgp,<-e]
   ·rw [if_neg e,if_pos rfl];exact hgp
  have hat:=seN_at (colQ n c) hgr (swL l r (r+k)).length
  have hgb:∀ b,b<c->colQ n b g=false:=fun b hb=>hf.rest (r+k) g b (by omega) hgp hb
  have row:∀ i p,(seN (colQ n c) r (swL l r (r+k)) (swL l r (r+k)).length)[i]?=some p->∃ u,(swL l r (r+k))[i]?=some u/\p=if i≠r/\colQ n c u=true then timQ u g else u:=fun i p hp=>by
   rw [hat,Option.map_eq_some_iff] at hp;obtain ⟨u,hu,rfl⟩:=hp;refine ⟨u,hu,?_⟩;have hi:=(List.getElem?_eq_some_iff.1 hu).1;exact ite_iff ⟨fun x=>x.2,fun x=>⟨hi,x⟩⟩ _ _
  have cb:∀ i p b u,(swL l r (r+k))[i]?=some u->(p=if i≠r/\colQ n c u=true then timQ u g else u)->b<c->colQ n b p=colQ n b u:=fun i p b u _ hp hb=>by
   rw [hp]
   split
   ·rw [col_tim,hgb b hb,Bool.xor_false]
   ·rfl
  have low:∀ i u,i<r->(swL l r (r+k))[i]?=some u->l[i]?=some u:=fun i u hi hu=>by
   rw [swL_at hr hrk,if_neg (by omega),if_neg (by omega)] at hu;exact hu
  have high:∀ i u,r<=i->(swL l r (r+k))[i]?=some u->∃ j,r<=j/\l[j]?=some u:=fun i u hi hu=>by
   rw [swL_at hr hrk] at hu;refine ⟨_,?_,hu⟩
   split
   ·omega
   ·split<;>omega
  refine ⟨g2,e1.trans e2,fun i=>if i=r then c else pv i,?_,?_,?_,?_,?_,?_⟩
  ·show r+1<=(seN _ _ _ _).length
   rw [seN_len,swL_len];omega
  ·intro i hi
   show (if i=r then c else pv i)<c+1
   have hi:i<r+1:=hi
   split
   ·omega
   ·have:=hf.lt i (by omega);omega
  ·intro i j hij hj
   show (if i=r then c else pv i)<if j=r then c else pv j
   rw [if_neg (by omega)]
   split
   ·exact hf.lt i (by omega)
   ·exact hf.inc i j hij (by omega)
  ·intro i k' p hi hp
   obtain ⟨u,hu,hpu⟩:=row k' p hp
   show colQ n (if i=r then c else pv i) p=_
   split
   ·rename_i e
    subst e;rw [hpu]
    by_cases e2:k'=i
    ·subst e2
     rw [if_neg (fun x=>x.1 rfl)];rw [hgr] at hu
     cases hu
     rw [hgc,decide_eq_true rfl]
    ·rw [decide_eq_false e2]
     split
     ·rename_i h9;rw [col_tim,h9.2,hgc];rfl
     ·rename_i h9
      cases h8:colQ n c u with
      | false=>rfl
      | true=>exact absurd ⟨e2,h8⟩ h9
   ·rename_i e
    have hlt:=hf.lt i (by omega);rw [cb k' p (pv i) u hu hpu hlt]
    by_cases hk':k'<r
    ·exact hf.one i k' u (by omega) (low k' u hk' hu)
    ·obtain ⟨j,hj,hju⟩:=high k' u (by omega) hu
     rw [hf.rest j u (pv i) hj hju hlt,decide_eq_false (by omega)]
  ·intro i p b hi hp hb
   obtain ⟨u,hu,hpu⟩:=row i p hp;have hb2:b<if i=r then c else pv i:=hb;have hi2:i<r+1:=hi
   by_cases e:i=r
   ·rw [if_pos e] at hb2
    subst e;rw [hgr] at hu
    cases hu
    rw [hpu,if_neg (fun x=>x.1 rfl)];exact hgb b hb2
   ·rw [if_neg e] at hb2
    have hlt:=hf.lt i (by omega);rw [cb i p b u hu hpu (by omega)];exact hf.lead i u b (by omega) (low i u (by omega) hu) hb2
  ·intro k' p b hk' hp hb
   obtain ⟨u,hu,hpu⟩:=row k' p hp
   by_cases e:b=c
   ·subst e
    rw [hpu]
    split
    ·rename_i h9;rw [col_tim,h9.2,hgc];rfl
    ·rename_i h9
     cases h8:colQ n b u with
     | false=>rfl
     | true=>exact absurd ⟨by omega,h8⟩ h9
   ·rw [cb k' p b u hu hpu (by omega)]
    obtain ⟨j,hj,hju⟩:=high k' u (by omega) hu;exact hf.rest j u b hj hju (by omega)
theorem orN_form (n:Nat) {l:List QP} (hg:GoodS l):∀ c,GoodS (orN n l c).1/\EqS l (orN n l c).1/\∃ pv,FormS n (orN n l c).1 (orN n l c).2 c pv
 | 0=>⟨hg,.refl l,fun _=>0,⟨Nat.zero_le _,fun i h=>absurd h (Nat.not_lt_zero _),fun i j _ h=>absurd h (Nat.not_lt_zero _),fun i k p h=>absurd h (Nat.not_lt_zero _),fun i p b h=>absurd h (Nat.not_lt_zero _),fun k p b _ _ h=>absurd h (Nat.not_lt_zero _)⟩⟩
 | c+1=>by
  obtain ⟨h1,h2,pv,h3⟩:=orN_form n hg c;rw [orN_succ];obtain ⟨h4,h5,h6⟩:=or_step h1 h3;exact ⟨h4,h2.trans h5,h6⟩
def bdQ (n:Nat) (p:QP):Prop:=p.x<2 ^ n/\p.z<2 ^ n
theorem bd_one (n:Nat):bdQ n idQ:=⟨Nat.pow_pos (by decide),Nat.pow_pos (by decide)⟩
theorem bd_prd {n:Nat} {p r s:QP} (h:bdQ n p) (k:bdQ n r) (hp:Prd p r s):bdQ n s:=⟨by rw [hp.x];exact Nat.xor_lt_two_pow h.1 k.1,by rw [hp.z];exact Nat.xor_lt_two_pow h.2 k.2⟩
theorem Grp.bd {n:Nat} {l:List QP} (hl:∀ p ∈ l,bdQ n p) {p:QP} (h:Grp l p):bdQ n p:=by
 induction h with
 | one=>exact bd_one n
 | mul _ hg hp ih=>exact bd_prd ih (hl _ hg) hp
theorem bit_zero {n v:Nat} (hv:v<2 ^ n) (h:∀ c,c<n->v.testBit c=false):v=0:=by
 refine Nat.eq_of_testBit_eq fun j=>?_
 rw [Nat.zero_testBit]
 by_cases hj:j<n
 ·exact h j hj
 ·exact Nat.testBit_lt_two_pow (Nat.lt_of_lt_of_le hv (Nat.pow_le_pow_right (by decide) (by omega)))
theorem col_zero {n:Nat} {p:QP} (hb:bdQ n p) (h:∀ c,c<2*n->colQ n c p=false):p.x=0/\p.z=0:=by
 refine ⟨bit_zero hb.1 fun c hc=>?_,bit_zero hb.2 fun c hc=>?_⟩
 ·have:=h c (by omega)
  unfold colQ at this;rw [if_pos hc] at this;exact this
 ·have:=h (n+c) (by omega)
  unfold colQ at this;rw [if_neg (by omega),show n+c-n=c by omega] at this;exact this
structure FullS (n:Nat) (l:List QP) (pv:Nat->Nat):Prop where
 len:l.length=n
 com:Com l
 bd:∀ p ∈ l,bdQ n p
 lt:∀ i,i<n->pv i<2*n
 inc:∀ i j,i<j->j<n->pv i<pv j
 one:∀ i k p,i<n->l[k]?=some p->colQ n (pv i) p=decide (k=i)
 lead:∀ i p b,i<n->l[i]?=some p->b<pv i->colQ n b p=false
theorem or_full {l:List QP} (hg:GoodS l) (hb:∀ p ∈ l,bdQ l.length p):GoodS (orL l)/\EqS l (orL l)/\∃ pv,FullS l.length (orL l) pv:=by
 obtain ⟨h1,h2,pv,hf⟩:=orN_form l.length hg (2*l.length);refine ⟨h1,h2,pv,?_⟩;have hlen:(orL l).length=l.length:=h2.len
 have hbd:∀ p ∈ orL l,bdQ l.length p:=fun p hp=>((h2.grp p).1 (.of hp)).bd hb
 have hr:(orN l.length l (2*l.length)).2=l.length:=by
  have h3:=hf.le;rw [h2.len] at h3
  by_cases e:(orN l.length l (2*l.length)).2=l.length
  ·exact e
  ·exfalso
   have hlt:(orN l.length l (2*l.length)).2<(orL l).length:=by rw [hlen];omega
   obtain ⟨p,hp⟩:∃ p,(orL l)[(orN l.length l (2*l.length)).2]?=some p:=⟨_,List.getElem?_eq_getElem hlt⟩
   have hz:=col_zero (hbd p (List.mem_of_getElem? hp)) fun c hc=>hf.rest _ p c (Nat.le_refl _) hp hc
   obtain ⟨d,hd⟩:=h1.dua;obtain ⟨t,ht⟩:∃ t,d[(orN l.length l (2*l.length)).2]?=some t:=⟨_,List.getElem?_eq_getElem (by rw [hd.len];exact hlt)⟩;have h5:=hd.at' _ _ p t hp ht;rw [decide_eq_true rfl,ant_letters (p:=p) (r:=idQ) hz.1 hz.2,ant_one] at h5
   cases h5
 exact ⟨hlen,h1.com,hbd,fun i hi=>hf.lt i (by rw [hr];exact hi),fun i j h3 h4=>hf.inc i j h3 (by rw [hr];exact h4),fun i k p h3=>hf.one i k p (by rw [hr];exact h3),fun i p b h3=>hf.lead i p b (by rw [hr];exact h3)⟩
theorem Rep.zero {l:List QP} {b:List Bool} {p:QP} (h:Rep l b p) (f:QP->Bool) (h0:f idQ=false) (hf:∀ {p r s:QP},Prd p r s->f s=(f p ^^ f r)) (hi:∀ j g,l[j]?=some g->b.getD j false=true->f g=false):f p=false:=by
 induction h with
 | nil=>exact h0
 | no _ ih=>exact ih fun j g hg hb=>hi (j+1) g (by simpa using hg) (by simpa using hb)
 | yes _ hp ih=>rw [hf hp,ih fun j g hg hb=>hi (j+1) g (by simpa using hg) (by simpa using hb),hi 0 _ rfl rfl];rfl
theorem Rep.none {l:List QP} {b:List Bool} {p:QP} (h:Rep l b p) (hb:∀ i,i<l.length->b.getD i false=false):p=idQ:=by
 induction h with
 | nil=>rfl
 | no _ ih=>exact ih fun i hi=>by simpa using hb (i+1) (by simpa using hi)
 | yes _ _ _=>have:=hb 0 (by simp);simp at this
theorem FullS.zero {n:Nat} {l:List QP} {pv:Nat->Nat} (h:FullS n l pv) {p:QP} (hp:Grp l p) (hc:∀ i,i<n->colQ n (pv i) p=false):p=idQ:=by
 obtain ⟨b,hb⟩:=hp.rep h.com
 refine hb.none fun i hi=>?_
 rw [h.len] at hi;rw [<-hb.sum (fun p=>colQ n (pv i) p) (col_one n _) (fun k=>col_prd n _ k) fun j g hg=>by rw [h.one i j g hi hg];exact decide_eq_decide.2 eq_comm];exact hc i hi
theorem prd_eq {p g:QP} (h:Prd p g idQ):p=g:=((h.assoc (one_prd g) (prd_self g)).uniq (prd_one p)).symm
theorem FullS.same {n:Nat} {l:List QP} {pv:Nat->Nat} (h:FullS n l pv) {p r:QP} (hp:Grp l p) (hr:Grp l r) (hc:∀ i,i<n->colQ n (pv i) p=colQ n (pv i) r):p=r:=by
 have ht:=prd_tim (hp.com h.com hr)
 have h0:=h.zero (hp.prd h.com hr ht) fun i hi=>by rw [col_tim,hc i hi,Bool.xor_self]
 rw [h0] at ht;exact prd_eq ht
theorem FullS.single {n:Nat} {l:List QP} {pv:Nat->Nat} (h:FullS n l pv) {p:QP} (hp:Grp l p) {c:Nat} (hc:∀ b,b<2*n->colQ n b p=decide (b=c)) (h0:p≠idQ):p ∈ l:=by
 by_cases he:∃ i,i<n/\pv i=c
 ·obtain ⟨i,hi,rfl⟩:=he
  obtain ⟨g,hg⟩:∃ g,l[i]?=some g:=⟨_,List.getElem?_eq_getElem (by rw [h.len];exact hi)⟩;rw [h.same hp (.of (List.mem_of_getElem? hg)) fun j hj=>?_]
  ·exact List.mem_of_getElem? hg
  ·rw [hc _ (h.lt j hj),h.one j i g hj hg]
   refine decide_eq_decide.2 ⟨fun e=>?_,fun e=>by rw [e]⟩
   rcases Nat.lt_trichotomy i j with k | k | k
   ·have:=h.inc i j k hj;omega
   ·exact k
   ·have:=h.inc j i k hi;omega
 ·exfalso
  exact h0 (h.zero hp fun i hi=>by rw [hc _ (h.lt i hi)];exact decide_eq_false fun e=>he ⟨i,hi,e⟩)
theorem FullS.leads {n:Nat} {l:List QP} {pv:Nat->Nat} (h:FullS n l pv) {p:QP} (hp:Grp l p) (h0:p≠idQ):∃ i,i<n/\colQ n (pv i) p=true/\∀ b,b<pv i->colQ n b p=false:=by
 have hex:∃ i,i<n/\colQ n (pv i) p=true:=Classical.byContradiction fun k=>h0 (h.zero hp fun i hi=>by
  cases e:colQ n (pv i) p with
  | false=>rfl
  | true=>exact absurd ⟨i,hi,e⟩ k)
 have hmin:∀ m,(∃ i,i<m/\i<n/\colQ n (pv i) p=true)->∃ i,i<n/\colQ n (pv i) p=true/\∀ j,j<i->colQ n (pv j) p=false:=fun m=>by
  induction m with
  | zero=>rintro ⟨i,hi,_⟩;omega
  | succ m ih =>
   rintro ⟨i,h1,h2,h3⟩
   by_cases hx:∃ i,i<m/\i<n/\colQ n (pv i) p=true
   ·exact ih hx
   ·have e:i=m:=by
     by_cases e:i=m
     ·exact e
     ·exact absurd ⟨i,by omega,h2,h3⟩ hx
    subst e
    exact ⟨i,h2,h3,fun j hj=>by
     cases e:colQ n (pv j) p with
     | false=>rfl
     | true=>exact absurd ⟨j,hj,by omega,e⟩ hx⟩
 obtain ⟨i0,h1,h2⟩:=hex;obtain ⟨i,hi,h3,h4⟩:=hmin (i0+1) ⟨i0,by omega,h1,h2⟩;refine ⟨i,hi,h3,fun b hb=>?_⟩;obtain ⟨m,hm⟩:=hp.rep h.com
 refine hm.zero (fun p=>colQ n b p) (col_one n _) (fun k=>col_prd n _ k) fun j g hg hmj=>?_
 have hj:j<n:=by rw [<-h.len];exact (List.getElem?_eq_some_iff.1 hg).1
 have hjc:colQ n (pv j) p=true:=by
  rw [hm.sum (i:=j) (fun p=>colQ n (pv j) p) (col_one n _) (fun k=>col_prd n _ k) fun k g hg=>by rw [h.one j k g hj hg];exact decide_eq_decide.2 eq_comm];exact hmj
 have hij:i<=j:=by
  by_cases e:j<i
  ·rw [h4 j e] at hjc;cases hjc
  ·omega
 refine h.lead j g b hj hg (Nat.lt_of_lt_of_le hb ?_)
 rcases Nat.lt_or_eq_of_le hij with k | k
 ·exact Nat.le_of_lt (h.inc i j k hj)
 ·rw [k];exact Nat.le_refl _
theorem full_uniq {n:Nat} {l l':List QP} {pv pv':Nat->Nat} (h:FullS n l pv) (h':FullS n l' pv') (he:∀ p,Grp l p↔Grp l' p):l=l':=by
 have ne:∀ {l:List QP} {pv:Nat->Nat},FullS n l pv->∀ i g,l[i]?=some g->i<n->g≠idQ:=fun h i g hg hi e=>by
  have:=h.one i i g hi hg;rw [e,col_one,decide_eq_true rfl] at this
  cases this
 have piv:∀ {l l':List QP} {pv pv':Nat->Nat},FullS n l pv->FullS n l' pv'->(∀ p,Grp l p↔Grp l' p)->∀ i,i<n->∃ j,j<n/\pv i=pv' j:=fun {l l' pv pv'} h h' he i hi=>by
  obtain ⟨g,hg⟩:∃ g,l[i]?=some g:=⟨_,List.getElem?_eq_getElem (by rw [h.len];exact hi)⟩;obtain ⟨j,hj,h3,h4⟩:=h'.leads ((he g).1 (.of (List.mem_of_getElem? hg))) (ne h i g hg hi);refine ⟨j,hj,?_⟩
  rcases Nat.lt_trichotomy (pv i) (pv' j) with k | k | k
  ·have:=h4 _ k
   rw [h.one i i g hi hg,decide_eq_true rfl] at this
   cases this
  ·exact k
  ·rw [h.lead i g _ hi hg k] at h3
   cases h3
 have hp:∀ i,i<n->pv i=pv' i:=fun i=>by
  induction i using Nat.strongRecOn with
  | _ i ih =>
   intro hi;obtain ⟨j,hj,e⟩:=piv h h' he i hi;obtain ⟨k,hk,e'⟩:=piv h' h (fun p=>(he p).symm) i hi
   have hij:i<=j:=by
    by_cases c:j<i
    ·have h1:=ih j c hj
     have h2:=h.inc j i c hi;omega
    ·omega
   have hik:i<=k:=by
    by_cases c:k<i
    ·have h1:=ih k c hk
     have h2:=h'.inc k i c hi;omega
    ·omega
   have h1:pv' i<=pv' j:=by
    rcases Nat.lt_or_eq_of_le hij with c | c
    ·exact Nat.le_of_lt (h'.inc i j c hj)
    ·rw [c];exact Nat.le_refl _
   have h2:pv i<=pv k:=by
    rcases Nat.lt_or_eq_of_le hik with c | c
    ·exact Nat.le_of_lt (h.inc i k c hk)
    ·rw [c];exact Nat.le_refl _
   omega
 apply List.ext_getElem?
 intro i
 by_cases hi:i<n
 ·obtain ⟨g,hg⟩:∃ g,l[i]?=some g:=⟨_,List.getElem?_eq_getElem (by rw [h.len];exact hi)⟩
  obtain ⟨g',hg'⟩:∃ g,l'[i]?=some g:=⟨_,List.getElem?_eq_getElem (by rw [h'.len];exact hi)⟩;rw [hg,hg',h'.same ((he g).1 (.of (List.mem_of_getElem? hg))) (.of (List.mem_of_getElem? hg')) fun j hj=>?_];rw [h'.one j i g' hj hg',<-hp j hj,h.one j i g hj hg]
 ·rw [List.getElem?_eq_none (by rw [h.len];omega),List.getElem?_eq_none (by rw [h'.len];omega)]
theorem or_same {l l':List QP} (hg:GoodS l) (hg':GoodS l') (hb:∀ p ∈ l,bdQ l.length p) (he:EqS l l'):orL l=orL l':=by
 obtain ⟨_,h2,pv,h3⟩:=or_full hg hb;obtain ⟨_,k2,pv',k3⟩:=or_full hg' (fun p hp=>by rw [he.len];exact ((he.grp p).1 (.of hp)).bd hb);rw [he.len] at k3
 exact full_uniq h3 k3 fun p=>(h2.grp p).trans ((he.grp p).symm.trans (k2.grp p).symm)
def tlQ (q:Nat) (b:Bool):QP:=⟨0,2 ^ q,b⟩
theorem tl_in {l:List QP} (hg:GoodS l) (hb:∀ p ∈ l,bdQ l.length p) {q:Nat} (b:Bool):tlQ q b ∈ orL l↔Grp l (tlQ q b):=by
 obtain ⟨h1,h2,pv,h3⟩:=or_full hg hb
 constructor
 ·exact fun h=>(h2.grp _).1 (.of h)
 ·intro h
  refine h3.single ((h2.grp _).2 h) (c:=l.length+q) (fun c hc=>?_) (fun e=>?_)
  ·unfold colQ tlQ
   split
   ·rw [Nat.zero_testBit,decide_eq_false (by omega)]
   ·rw [Nat.testBit_two_pow]
    exact decide_eq_decide.2 (by omega)
  ·have:=congrArg QP.z e
   have h9:(2:Nat) ^ q=0:=this;have:=Nat.pow_pos (n:=q) (show 0<2 by decide);omega
theorem sign_one {l:List QP} (hg:GoodS l) {x z:Nat} {a b:Bool} (h:Grp l ⟨x,z,a⟩) (k:Grp l ⟨x,z,b⟩):a=b:=by
 obtain ⟨d,hd⟩:=hg.dua;exact congrArg QP.m (grp_sign hg.com hd h k rfl rfl)
def cpG (q c:Nat) (p:QP):QP:=forkG q (onG q c (forkG q p))
theorem cp_x {q c:Nat} (h:q≠c) (p:QP):(cpG q c p).x=p.x:=by
 refine Nat.eq_of_testBit_eq fun j=>?_
 unfold cpG;rw [fork_x,on_x,on_z,fork_x,fork_z,fork_x,fork_z];have hd:decide (c=q)=false:=decide_eq_false (Ne.symm h)
 by_cases e:q=j
 ·subst e
  rw [hd]
  simp
 ·rw [if_neg e,if_neg e,decide_eq_false e]
  simp
theorem cp_z {q c:Nat} (h:q≠c) (p:QP) (j:Nat):(cpG q c p).z.testBit j=(p.z.testBit j ^^ (decide (q=j) && p.x.testBit c) ^^ (decide (c=j) && p.x.testBit q)):=by
 unfold cpG;rw [fork_z,on_x,on_z,fork_x,fork_x,fork_z,fork_z]
 by_cases e:q=j
 ·subst e
  rw [if_pos rfl,if_pos rfl,if_neg h,decide_eq_true rfl,decide_eq_false (Ne.symm h)]
  simp
 ·rw [if_neg e,if_neg e,if_pos rfl,decide_eq_false e]
  simp
theorem cp_m {q c:Nat} (h:q≠c) (p:QP):(cpG q c p).m=(p.m ^^ (p.x.testBit c && p.x.testBit q && (p.z.testBit q ^^ p.z.testBit c))):=by
 show ((((p.m ^^ (p.x.testBit q && p.z.testBit q)) ^^ ((forkG q p).x.testBit c && (forkG q p).z.testBit q && ((forkG q p).x.testBit q == (forkG q p).z.testBit c))) ^^ ((onG q c (forkG q p)).x.testBit q && (onG q c (forkG q p)).z.testBit q)))=_
 rw [on_x,on_z,fork_x,fork_x,fork_z,fork_z,if_pos rfl,if_pos rfl,if_neg h,if_neg h,decide_eq_true rfl,decide_eq_false (Ne.symm h)]
 cases p.m<;>cases p.x.testBit q<;>cases p.z.testBit q<;>cases p.x.testBit c<;>cases p.z.testBit c<;>rfl
theorem aut_cp {q c:Nat} (h:q≠c) (hq:q<16) (hc:c<16):Aut (cpG q c):=((aut_fork hq).comp (aut_on h hq hc)).comp (aut_fork hq)
def dnG (N:Nat) (g:QP) (q:Nat) (p:QP):QP :=
 let p:=if g.z.testBit q then cpG q N p else p
 if g.x.testBit q then onG q N p else p
def dnN (N:Nat) (g:QP) (k:Nat) (p:QP):QP:=(List.range k).foldl (fun p q=>dnG N g q p) p
theorem dnN_succ (N:Nat) (g:QP) (k:Nat) (p:QP):dnN N g (k+1) p=dnG N g k (dnN N g k p):=by unfold dnN;rw [List.range_succ,List.foldl_append];rfl
def ysN (g:QP) (k:Nat):Nat:=smF (yj g) k
def atN (p g:QP) (k:Nat):Nat:=smF (fun j=>b1 (p.x.testBit j && g.z.testBit j)+b1 (p.z.testBit j && g.x.testBit j)) k
theorem dn_free {N:Nat} (g p:QP) (hx:p.x.testBit N=false):∀ k,k<=N->(dnN N g k p).x=p.x/\(∀ j,(dnN N g k p).z.testBit j=(p.z.testBit j ^^ (decide (N=j) && decide (atN p g k % 2=1))))/\(dnN N g k p).m=p.m
 | 0,_=>⟨rfl,fun j=>by show p.z.testBit j=_;simp [atN,smF],rfl⟩
 | k+1,hk=>by
  obtain ⟨h1,h2,h3⟩:=dn_free g p hx k (by omega);rw [dnN_succ];generalize dnN N g k p=r at *
  have hkN:k≠N:=by omega
  have hNk:decide (N=k)=false:=decide_eq_false (Ne.symm hkN)
  have rz:r.z.testBit k=p.z.testBit k:=by rw [h2,hNk];simp
  have ha:atN p g (k+1)=atN p g k+(b1 (p.x.testBit k && g.z.testBit k)+b1 (p.z.testBit k && g.x.testBit k)):=rfl;rw [ha];obtain ⟨s,hs⟩:∃ s,(if g.z.testBit k then cpG k N r else r)=s:=⟨_,rfl⟩
  have s1:s.x=p.x:=by
   rw [<-hs]
   split
   ·rw [cp_x hkN];exact h1
   ·exact h1
  have s2:∀ j,s.z.testBit j=(r.z.testBit j ^^ (decide (N=j) && (g.z.testBit k && p.x.testBit k))):=fun j=>by
   rw [<-hs]
   cases hgz:g.z.testBit k with
   | false=>simp
   | true =>
    rw [if_pos rfl,cp_z hkN,h1,hx]
    simp
  have s3:s.m=p.m:=by
   rw [<-hs]
   split
   ·rw [cp_m hkN,h1,hx,h3];simp
   ·exact h3
  have sz:s.z.testBit k=p.z.testBit k:=by rw [s2,hNk,rz];simp
  show (if g.x.testBit k then onG k N (if g.z.testBit k then cpG k N r else r) else (if g.z.testBit k then cpG k N r else r)).x=_/\_
  unfold dnG;simp only;rw [hs];refine ⟨?_,fun j=>?_,?_⟩
  ·split
   ·refine Nat.eq_of_testBit_eq fun j=>?_
    rw [on_x,s1,hx];simp
   ·exact s1
  ·have e:(if g.x.testBit k then onG k N s else s).z.testBit j=(s.z.testBit j ^^ (decide (N=j) && (g.x.testBit k && p.z.testBit k))):=by
    cases g.x.testBit k with
    | false=>simp
    | true=>rw [if_pos rfl,on_z,sz];simp
   rw [e,s2,h2];generalize atN p g k=A
   by_cases hj:N=j
   ·rw [decide_eq_true hj]
    cases p.z.testBit j<;>cases p.x.testBit k<;>cases p.z.testBit k<;>cases g.x.testBit k<;>cases g.z.testBit k<;>by_cases hA:A % 2=1<;>simp [hA,b1]<;>omega
   ·rw [decide_eq_false hj];simp
  ·split
   ·show (s.m ^^ (s.x.testBit N && s.z.testBit k && (s.x.testBit k == s.z.testBit N)))=_
    rw [s1,hx,s3];simp
   ·exact s3
theorem dn_x {N:Nat} (g:QP):∀ k,k<=N->(∀ j,(dnN N g k ⟨2 ^ N,0,false⟩).x.testBit j=(decide (N=j) ^^ (decide (j<k) && g.x.testBit j)))/\(∀ j,(dnN N g k ⟨2 ^ N,0,false⟩).z.testBit j=((decide (j<k) && g.z.testBit j) ^^ (decide (N=j) && decide (ysN g k % 2=1))))/\(dnN N g k ⟨2 ^ N,0,false⟩).m=decide ((ysN g k+1) / 2 % 2=1)
 | 0,_=>⟨fun j=>by show (2 ^ N).testBit j=_;rw [Nat.testBit_two_pow];simp,fun j=>by show (0:Nat).testBit j=_;simp [ysN,smF],by simp [ysN,smF,dnN]⟩
 | k+1,hk=>by
  obtain ⟨h1,h2,h3⟩:=dn_x (N:=N) g k (by omega);rw [dnN_succ];generalize dnN N g k ⟨2 ^ N,0,false⟩=r at *
  have hkN:k≠N:=by omega
  have hNk:decide (N=k)=false:=decide_eq_false (Ne.symm hkN);have hkk:decide (k<k)=false:=decide_eq_false (Nat.lt_irrefl k);have hNl:decide (N<k)=false:=decide_eq_false (by omega)
  have rxk:r.x.testBit k=false:=by rw [h1,hNk,hkk];rfl
  have rzk:r.z.testBit k=false:=by rw [h2,hNk,hkk];rfl
  have rxN:r.x.testBit N=true:=by rw [h1,decide_eq_true rfl,hNl];rfl
  have rzN:r.z.testBit N=decide (ysN g k % 2=1):=by rw [h2,hNl,decide_eq_true rfl];simp
  have hy:ysN g (k+1)=ysN g k+b1 (g.x.testBit k && g.z.testBit k):=rfl;rw [hy];obtain ⟨s,hs⟩:∃ s,(if g.z.testBit k then cpG k N r else r)=s:=⟨_,rfl⟩
  have s1:s.x=r.x:=by
   rw [<-hs]
   split
   ·exact cp_x hkN r
   ·rfl
  have s2:∀ j,s.z.testBit j=(r.z.testBit j ^^ (decide (k=j) && g.z.testBit k)):=fun j=>by
   rw [<-hs]
   cases g.z.testBit k with
   | false=>simp
   | true=>rw [if_pos rfl,cp_z hkN,rxN,rxk];simp
  have s3:s.m=r.m:=by
   rw [<-hs]
   split
   ·rw [cp_m hkN,rxk];simp
   ·rfl
  unfold dnG;simp only;rw [hs]
  have szk:s.z.testBit k=g.z.testBit k:=by rw [s2,rzk];simp
  have szN:s.z.testBit N=decide (ysN g k % 2=1):=by rw [s2,decide_eq_false hkN,rzN];simp
  refine ⟨fun j=>?_,fun j=>?_,?_⟩
  ·have e:(if g.x.testBit k then onG k N s else s).x.testBit j=(r.x.testBit j ^^ (decide (k=j) && g.x.testBit k)):=by
    cases g.x.testBit k with
    | false=>rw [if_neg (by decide),s1];simp
    | true=>rw [if_pos rfl,on_x,s1,rxN]
   rw [e,h1]
   by_cases hj:k=j
   ·subst hj
    rw [hNk,hkk,decide_eq_true rfl,decide_eq_true (Nat.lt_succ_self k)];simp
   ·rw [decide_eq_false hj,show decide (j<k+1)=decide (j<k) from decide_eq_decide.2 (by omega)];simp
  ·have e:(if g.x.testBit k then onG k N s else s).z.testBit j=(s.z.testBit j ^^ (decide (N=j) && (g.x.testBit k && g.z.testBit k))):=by
    cases g.x.testBit k with
    | false=>simp
    | true=>rw [if_pos rfl,on_z,szk];simp
   rw [e,s2,h2];generalize ysN g k=Y
   by_cases hj:k=j
   ·subst hj
    rw [hNk,hkk,decide_eq_true rfl,decide_eq_true (Nat.lt_succ_self k)];simp
   ·rw [decide_eq_false hj,show decide (j<k+1)=decide (j<k) from decide_eq_decide.2 (by omega)]
    by_cases hN:N=j
    ·rw [decide_eq_true hN]
     cases decide (j<k)<;>cases g.z.testBit j<;>cases g.x.testBit k<;>cases g.z.testBit k<;>by_cases hA:Y % 2=1<;>simp [hA,b1]<;>omega
    ·rw [decide_eq_false hN];simp
  ·have e:(if g.x.testBit k then onG k N s else s).m=(r.m ^^ (g.x.testBit k && g.z.testBit k && !decide (ysN g k % 2=1))):=by
    cases g.x.testBit k with
    | false=>rw [if_neg (by decide),s3];simp
    | true =>
     rw [if_pos rfl]
     show (s.m ^^ (s.x.testBit N && s.z.testBit k && (s.x.testBit k == s.z.testBit N)))=_
     rw [s1,rxN,szk,rxk,szN,s3]
     cases g.z.testBit k<;>cases decide (ysN g k % 2=1)<;>rfl
   rw [e,h3];generalize ysN g k=Y
   have key:decide ((Y+1+1) / 2 % 2=1)=(decide ((Y+1) / 2 % 2=1) ^^ !decide (Y % 2=1)):=by
    by_cases a:Y % 2=1<;>by_cases b:(Y+1) / 2 % 2=1
    ·rw [decide_eq_true a,decide_eq_true b];exact decide_eq_true (by omega)
    ·rw [decide_eq_true a,decide_eq_false b];exact decide_eq_false (by omega)
    ·rw [decide_eq_false a,decide_eq_true b];exact decide_eq_false (by omega)
    ·rw [decide_eq_false a,decide_eq_false b];exact decide_eq_true (by omega)
   cases g.x.testBit k<;>cases g.z.testBit k
   ·show _=decide ((Y+0+1) / 2 % 2=1);rw [Nat.add_zero,Bool.false_and,Bool.false_and,Bool.xor_false]
   ·show _=decide ((Y+0+1) / 2 % 2=1);rw [Nat.add_zero,Bool.false_and,Bool.false_and,Bool.xor_false]
   ·show _=decide ((Y+0+1) / 2 % 2=1);rw [Nat.add_zero,Bool.and_false,Bool.false_and,Bool.xor_false]
   ·show _=decide ((Y+1+1) / 2 % 2=1);rw [key,Bool.true_and,Bool.true_and]
instance:DecidableEq QP:=fun a b=>decidable_of_iff (a.x=b.x/\a.z=b.z/\a.m=b.m) ⟨fun h=>QP.ext' h.1 h.2.1 h.2.2,fun h=>by subst h;exact ⟨rfl,rfl,rfl⟩⟩
theorem it_succ (f:QP->QP) (k:Nat) (p:QP):itG f (k+1) p=f (itG f k p):=itG_snoc f k p
theorem aut_it {A:QP->QP} (h:Aut A):∀ k,Aut (itG A k)
 | 0=>aut_id
 | k+1=>by
  have:=(aut_it h k).comp h;exact ⟨fun hp=>by rw [it_succ,it_succ,it_succ];exact this.prd hp,fun p r=>by rw [it_succ,it_succ];exact this.ant p r⟩
theorem quar_it {N:Nat} (hN:N<16) (p:QP):∀ k,(itG (quarG N) k p).x=p.x/\(∀ j,(itG (quarG N) k p).z.testBit j=(p.z.testBit j ^^ (decide (N=j) && p.x.testBit N && decide (k % 2=1))))/\phQ (itG (quarG N) k p) % 4=(phQ p+k*b1 (p.x.testBit N)) % 4
 | 0=>⟨rfl,fun j=>by show p.z.testBit j=_;simp,by show phQ p % 4=_;rw [Nat.zero_mul];rfl⟩
 | k+1=>by
  obtain ⟨h1,h2,h3⟩:=quar_it hN p k;rw [it_succ];generalize itG (quarG N) k p=r at *;refine ⟨h1,fun j=>?_,?_⟩
  ·rw [quar_z,h2,h1]
   by_cases hj:N=j
   ·subst hj
    cases p.z.testBit N<;>cases p.x.testBit N<;>by_cases hk:k % 2=1<;>simp [hk]<;>omega
   ·rw [decide_eq_false hj];simp
  ·have:=ph_quar hN r
   rw [h1] at this;rw [Nat.succ_mul];omega
theorem it_quar_free {N:Nat} {p:QP} (hx:p.x.testBit N=false):∀ k,itG (quarG N) k p=p
 | 0=>rfl
 | k+1=>by
  rw [it_succ,it_quar_free hx k];refine QP.ext' rfl (Nat.eq_of_testBit_eq fun j=>?_) ?_
  ·rw [quar_z]
   by_cases hj:N=j
   ·subst hj;rw [hx];simp
   ·rw [decide_eq_false hj];simp
  ·show (p.m ^^ (p.x.testBit N && p.z.testBit N))=p.m
   rw [hx];simp
theorem fork_free {N:Nat} {p:QP} (hx:p.x.testBit N=false) (hz:p.z.testBit N=false):forkG N p=p:=by
 refine QP.ext' (Nat.eq_of_testBit_eq fun j=>?_) (Nat.eq_of_testBit_eq fun j=>?_) ?_
 ·rw [fork_x]
  split
  ·rename_i h;rw [<-h,hx,hz]
  ·rfl
 ·rw [fork_z]
  split
  ·rename_i h;rw [<-h,hx,hz]
  ·rfl
 ·show (p.m ^^ (p.x.testBit N && p.z.testBit N))=p.m
  rw [hx];simp
def blkG (N:Nat) (g:QP) (p:QP):QP:=forkG N (itG (quarG N) ((ysN g N+2*b1 g.m) % 4) (dnN N g N (forkG N p)))
theorem aut_dn {N:Nat} (hN:N<16) (g:QP):∀ k,k<=N->Aut (dnN N g k)
 | 0,_=>aut_id
 | k+1,hk=>by
  have h1:=aut_dn hN g k (by omega)
  have hc:Aut (fun p=>if g.z.testBit k then cpG k N p else p):=by
   cases g.z.testBit k with
   | false=>exact aut_id
   | true=>exact aut_cp (by omega) (by omega) hN
  have ho:Aut (fun p=>if g.x.testBit k then onG k N p else p):=by
   cases g.x.testBit k with
   | false=>exact aut_id
   | true=>exact aut_on (by omega) (by omega) hN
  have h2:=(h1.comp hc).comp ho;exact ⟨fun hp=>by rw [dnN_succ,dnN_succ,dnN_succ];exact h2.prd hp,fun p r=>by rw [dnN_succ,dnN_succ];exact h2.ant p r⟩
theorem aut_blk {N:Nat} (hN:N<16) (g:QP):Aut (blkG N g):=(((aut_fork hN).comp (aut_dn hN g N (Nat.le_refl N))).comp (aut_it (aut_quar hN) _)).comp (aut_fork hN)
theorem smF_less {f:Nat->Nat} {n m:Nat} (h:n<=m) (h0:∀ j,n<=j->f j=0):smF f m=smF f n:=by
 induction m with
 | zero=>rw [show n=0 by omega]
 | succ m ih =>
  by_cases e:n=m+1
  ·rw [e]
  ·have:=ih (by omega)
   show smF f m+f m=_
   rw [this,h0 m (by omega)];rfl
theorem bit_hi {v n j:Nat} (h:v<2 ^ n) (hj:n<=j):v.testBit j=false:=Nat.testBit_lt_two_pow (Nat.lt_of_lt_of_le h (Nat.pow_le_pow_right (by decide) hj))
theorem blk_free {N:Nat} (hN:N<16) {g p:QP} (hg:bdQ N g) (hx:p.x.testBit N=false) (hz:p.z.testBit N=false) (ha:ant p g=false):blkG N g p=p:=by
 unfold blkG;rw [fork_free hx hz];obtain ⟨h1,h2,h3⟩:=dn_free g p hx N (Nat.le_refl N)
 have he:dnN N g N p=p:=by
  refine QP.ext' h1 (Nat.eq_of_testBit_eq fun j=>?_) h3;rw [h2]
  have h0:atN p g N % 2=1↔False:=by
   rw [ant_smF,decide_eq_false_iff_not] at ha;rw [show smF (fun j=>b1 (p.x.testBit j && g.z.testBit j)+b1 (p.z.testBit j && g.x.testBit j)) 16=atN p g N from smF_less (by omega) fun j hj=>by rw [bit_hi hg.1 hj,bit_hi hg.2 hj,Bool.and_false,Bool.and_false];rfl] at ha;exact iff_false_intro ha
  rw [decide_eq_false (fun k=>h0.1 k)]
  simp
 rw [he,it_quar_free hx,fork_free hx hz]
theorem blk_z {N:Nat} (hN:N<16) {g:QP} (hg:bdQ N g):blkG N g (tlQ N false)=⟨g.x,g.z ^^^ 2 ^ N,g.m⟩:=by
 have hgx:g.x.testBit N=false:=bit_hi hg.1 (Nat.le_refl N);have hgz:g.z.testBit N=false:=bit_hi hg.2 (Nat.le_refl N)
 have hf:forkG N (tlQ N false)=⟨2 ^ N,0,false⟩:=by
  refine QP.ext' (Nat.eq_of_testBit_eq fun j=>?_) (Nat.eq_of_testBit_eq fun j=>?_) ?_
  ·rw [fork_x]
   show (if N=j then (2 ^ N).testBit j else (0:Nat).testBit j)=(2 ^ N).testBit j
   split
   ·rfl
   ·rename_i h;rw [Nat.zero_testBit,Nat.testBit_two_pow,decide_eq_false h]
  ·rw [fork_z]
   show (if N=j then (0:Nat).testBit j else (2 ^ N).testBit j)=(0:Nat).testBit j
   split
   ·rfl
   ·rename_i h;rw [Nat.zero_testBit,Nat.testBit_two_pow,decide_eq_false h]
  ·show (false ^^ ((0:Nat).testBit N && (2 ^ N).testBit N))=false
   rw [Nat.zero_testBit];rfl
 unfold blkG;rw [hf];obtain ⟨h1,h2,h3⟩:=dn_x (N:=N) g N (Nat.le_refl N);generalize dnN N g N ⟨2 ^ N,0,false⟩=r at *;obtain ⟨k,hk⟩:∃ k,(ysN g N+2*b1 g.m) % 4=k:=⟨_,rfl⟩;rw [hk];obtain ⟨q1,q2,q3⟩:=quar_it hN r k
 have rxN:r.x.testBit N=true:=by rw [h1,decide_eq_true rfl,decide_eq_false (Nat.lt_irrefl N)];rfl
 rw [rxN] at q2 q3
 have hx:∀ j,r.x.testBit j=(decide (N=j) ^^ g.x.testBit j):=fun j=>by
  rw [h1]
  by_cases hj:j<N
  ·rw [decide_eq_true hj,Bool.true_and]
  ·rw [decide_eq_false hj,bit_hi hg.1 (by omega:N<=j)];rfl
 have hz:∀ j,r.z.testBit j=(g.z.testBit j ^^ (decide (N=j) && decide (ysN g N % 2=1))):=fun j=>by
  rw [h2]
  by_cases hj:j<N
  ·rw [decide_eq_true hj,Bool.true_and]
  ·rw [decide_eq_false hj,bit_hi hg.2 (by omega:N<=j)];rfl
 have y1:smF (yj r) 16=ysN g N+b1 (decide (ysN g N % 2=1)):=by
  have e:=smF_off (f:=yj r) (g:=yj g) hN (fun j _ hj=>by unfold yj;rw [hx,hz,decide_eq_false (Ne.symm hj)];simp)
  have e1:yj g N=0:=by unfold yj;rw [hgx];rfl
  have e2:yj r N=b1 (decide (ysN g N % 2=1)):=by unfold yj;rw [rxN,hz,hgz,decide_eq_true rfl];simp
  have e3:smF (yj g) 16=ysN g N:=smF_less (by omega) fun j hj=>by unfold yj;rw [bit_hi hg.1 hj];rfl
  rw [e1,e2,e3] at e;omega
 have p0:phQ r % 4=0:=by
  unfold phQ;rw [y1,h3];generalize ysN g N=Y
  by_cases a:Y % 2=1<;>by_cases b:(Y+1) / 2 % 2=1
  ·rw [decide_eq_true a,decide_eq_true b];show (2*1+(Y+1)) % 4=0;omega
  ·rw [decide_eq_true a,decide_eq_false b];show (2*0+(Y+1)) % 4=0;omega
  ·rw [decide_eq_false a,decide_eq_true b];show (2*1+(Y+0)) % 4=0;omega
  ·rw [decide_eq_false a,decide_eq_false b];show (2*0+(Y+0)) % 4=0;omega
 generalize itG (quarG N) k r=t at *
 have tx:∀ j,t.x.testBit j=(decide (N=j) ^^ g.x.testBit j):=fun j=>by rw [q1];exact hx j
 have tz:∀ j,t.z.testBit j=g.z.testBit j:=fun j=>by
  rw [q2,hz]
  have hkp:k % 2=ysN g N % 2:=by omega
  rw [hkp]
  cases g.z.testBit j<;>cases decide (N=j)<;>cases decide (ysN g N % 2=1)<;>rfl
 have tm:t.m=g.m:=by
  have e:=smF_off (f:=yj t) (g:=yj g) hN (fun j _ hj=>by unfold yj;rw [tx,tz,decide_eq_false (Ne.symm hj)];simp)
  have e1:yj g N=0:=by unfold yj;rw [hgx];rfl
  have e2:yj t N=0:=by unfold yj;rw [tz,hgz,Bool.and_false];rfl
  have e3:smF (yj g) 16=ysN g N:=smF_less (by omega) fun j hj=>by unfold yj;rw [bit_hi hg.1 hj];rfl
  rw [e1,e2,e3] at e;have hq:(2*b1 t.m+smF (yj t) 16) % 4=(phQ r+k*b1 true) % 4:=q3;rw [show b1 true=1 from rfl] at hq
  cases h8:t.m<;>cases h9:g.m<;>rw [h8] at hq<;>rw [h9] at hk<;>simp [b1] at hq hk ⊢<;>omega
 refine QP.ext' (Nat.eq_of_testBit_eq fun j=>?_) (Nat.eq_of_testBit_eq fun j=>?_) ?_
 ·rw [fork_x,tx,tz]
  split
  ·rename_i h;subst h;rw [hgz];exact hgx.symm
  ·rename_i h;rw [decide_eq_false h];simp
 ·rw [fork_z,tx,tz,Nat.testBit_xor,Nat.testBit_two_pow]
  split
  ·rename_i h;subst h;rw [hgx,hgz,decide_eq_true rfl];rfl
  ·rename_i h;rw [decide_eq_false h];simp
 ·show (t.m ^^ (t.x.testBit N && t.z.testBit N))=g.m
  rw [tz,hgz,tm];simp
def ixV (o:Option Nat):Int:=match o with
 | none=>-1
 | some i=>(i:Int)
theorem indexG_any (l:List QP) (h:QP->Bool) (v:Value) (g k o m c lo:Nat) (ho:o=k*3) (ao:Option Addr) (w:World) (hG:GnB w g l) (hk:k+m=l.length) (hm:m<=64) (hao:m=0\/ao=some ⟨g,o,none⟩) (hok:∀ p ∈ l,p.ok) (hv:HasV lo w v h) :
  Calls Tryz.prog 127 #[.slice ao m c,v] w fun e w'=>e=.returned (.int .i64 (ixV ((l.drop k).findIdx? h)))/\Ext w w':=by
 obtain ⟨F,caps,rfl,hEnt,hC⟩:=hv;have HG:=Lh hG;have Hk:=Lh hk;have Hm:=Lh hm;have Hao:=Lh hao;have Hok:=Lh hok;have HC:=Lh hC;have Ho:=Lh ho;clear hG hk hm hao hok hC ho
 go_enter Tryz.func127,Tryz.ntmps127
 go_wp2_with fail
 go_loopg [5,8] m (fun kk s5 s8 wr=>∃ i:Nat,s8=.int .i64 (i:Int)/\i<=m/\m-i=kk/\Ext w wr/\∀ j p,j<i->(l.drop k)[j]?=some p->h p=false)
 case atStart=>exact ⟨0,rfl,Nat.zero_le _,rfl,Ext.refl _,fun j p hj=>by omega⟩
 case round =>
  obtain ⟨i,rfl,hi,hkk,hX,ha⟩:=hrel;have Hkk:=Lh hkk;have HX:=Lh hX;have Ha:=Lh ha
  by_cases hin:i=m
  ·have q1:¬ (i:Int)<(m:Int):=by omega
   have HN:=Lh (show (l.drop k).findIdx? h=none from List.findIdx?_eq_none_iff.2 fun p hp=>by
    obtain ⟨j,hj⟩:=List.getElem?_of_mem hp;have hl:=(List.getElem?_eq_some_iff.1 hj).1;rw [List.length_drop] at hl
    exact Ha.out j p (by have:=Hk.out;omega) hj)
   clear hkk hi hX ha hin
   go_wp2_with fail
   go_ret
   exact ⟨by rw [HN.out];rfl,HX.out⟩
  have hlt:i<m:=by omega
  have q1:(i:Int)<(m:Int):=by omega
  have q0:(0:Int)<=(i:Int):=by omega
  have wk:IntKind.i64.wrap ((i:Int)+1)=((i+1:Nat):Int):=by rw [IntKind.wrap_i64];have:=Hm.out;omega
  obtain ⟨p,hp⟩:∃ p,l[k+i]?=some p:=⟨_,List.getElem?_eq_getElem (by have:=Hk.out;omega)⟩
  have hpd:(l.drop k)[i]?=some p:=by rw [List.getElem?_drop];exact hp
  obtain rfl:=Hao.out.resolve_left (by omega);obtain ⟨c0,c1,c2⟩:=(HG.out.ext hX).c (k+i) p hp;rw [show (k+i)*3=o+i*3 by have:=Ho.out;omega] at c0 c1 c2;have HA:=Lh (HC.out p wr (Hok.out p (List.mem_of_getElem? hp)) (Kb.of_ext hX));have Hpd:=Lh hpd;obtain ⟨B,hB⟩:∃ B,h p=B:=⟨_,rfl⟩;rw [hB] at HA;have HB:=Lh hB;have Hlt:=Lh hlt;clear hkk hi hX ha hin hp hpd hlt hB;unfold pvQ at HA
  go_wp2_with fail
  refine HA.out.mono ?_;rintro e w1 ⟨rfl,h1⟩;have H1:=Lh (HX.out.trans h1);clear h1 c0 c1 c2 HA
  cases B
  ·go_wp2_with fail
   go_roundg (m-(i+1))
   case measure=>have:=Hkk.out;have:=Hlt.out;omega
   case rel =>
    refine ⟨i+1,rfl,Hlt.out,rfl,H1.out,fun j r hj hr=>?_⟩
    by_cases e:j=i
    ·subst e
     rw [Hpd.out] at hr
     cases hr
     exact HB.out
    ·exact Ha.out j r (by omega) hr
  ·go_wp2_with fail
   go_ret
   refine ⟨?_,H1.out⟩
   have e:(l.drop k).findIdx? h=some i:=by
    rw [List.findIdx?_eq_some_iff_getElem];refine ⟨(List.getElem?_eq_some_iff.1 Hpd.out).1,?_,fun j hj=>?_⟩
    ·rw [(List.getElem?_eq_some_iff.1 Hpd.out).2];exact HB.out
    ·have hjl:j<(l.drop k).length:=by have:=(List.getElem?_eq_some_iff.1 Hpd.out).1;omega
     rw [Ha.out j _ hj (List.getElem?_eq_getElem hjl)];decide
   rw [e];rfl
theorem idxG_any (l:List QP) (r:QP) (g m c:Nat) (ao:Option Addr) (w:World) (hG:GnB w g l) (hk:m=l.length) (hm:m<=64) (hao:m=0\/ao=some ⟨g,0,none⟩) :
  Calls Tryz.prog 181 #[.slice ao m c,pvQ r] w fun e w'=>e=.returned (.int .i64 (ixV (l.findIdx? (fun p=>decide (p=r)))))/\Ext w w':=by
 obtain ⟨x,z,b⟩:=r;have hP:=PuB.new w x z b;have E0:=ext_al w (.cells #[.int .u16 (x:Int),.int .u16 (z:Int),.bool b] 103);obtain ⟨H,hH⟩:∃ H,w.heap.size=H:=⟨_,rfl⟩;obtain ⟨W0,hW0⟩:∃ W0,w.alloc (.cells #[.int .u16 (x:Int),.int .u16 (z:Int),.bool b] 103)=W0:=⟨_,rfl⟩;simp only [hW0,hH] at hP E0;have HG:=Lh (hG.ext E0);have Hk:=Lh hk;have Hm:=Lh hm;have Hao:=Lh hao;have HP:=Lh hP;have HW0:=Lh hW0;have HH:=Lh hH;have HE0:=Lh E0;clear hG hk hm hao hP hW0 hH E0;unfold pvQ
 go_enter Tryz.func181,Tryz.ntmps181
 go_upto_region 1 with fail
 rw [HW0.out,HH.out]
 go_wp2_with fail
 go_loopg [5,8] m (fun kk s5 s8 wr=>∃ i:Nat,s8=.int .i64 (i:Int)/\i<=m/\m-i=kk/\Ext W0 wr/\∀ j p,j<i->l[j]?=some p->¬ p=⟨x,z,b⟩)
 case atStart=>exact ⟨0,rfl,Nat.zero_le _,rfl,Ext.refl _,fun j p hj=>by omega⟩
 case round =>
  obtain ⟨i,rfl,hi,hkk,hX,ha⟩:=hrel;have Hkk:=Lh hkk;have HX:=Lh hX;have Ha:=Lh ha
  by_cases hin:i=m
  ·have q1:¬ (i:Int)<(m:Int):=by omega
   have HN:=Lh (show l.findIdx? (fun p=>decide (p=⟨x,z,b⟩))=none from List.findIdx?_eq_none_iff.2 fun p hp=>by
    obtain ⟨j,hj⟩:=List.getElem?_of_mem hp;have hl:=(List.getElem?_eq_some_iff.1 hj).1
    exact decide_eq_false (Ha.out j p (by have:=Hk.out;omega) hj))
   clear hkk hi hX ha
   go_wp2_with fail
   go_ret
   exact ⟨by rw [HN.out];rfl,HE0.out.trans HX.out⟩
  have hlt:i<m:=by omega
  have q1:(i:Int)<(m:Int):=by omega
  have q0:(0:Int)<=(i:Int):=by omega
  have wk:IntKind.i64.wrap ((i:Int)+1)=((i+1:Nat):Int):=by rw [IntKind.wrap_i64];have:=Hm.out;omega
  obtain ⟨p,hp⟩:∃ p,l[i]?=some p:=⟨_,List.getElem?_eq_getElem (by have:=Hk.out;omega)⟩;obtain rfl:=Hao.out.resolve_left (by omega);obtain ⟨c0,c1,c2⟩:=(HG.out.ext hX).c i p hp;have d0:=(HP.out.ext hX).x0;have d1:=(HP.out.ext hX).x1;have d2:=(HP.out.ext hX).x2;have Hpd:=Lh hp;obtain ⟨px,pz,pm⟩:=p;simp only at c0 c1 c2;have Hlt:=Lh hlt;clear hkk hi hX ha hin hp hlt
  by_cases hx:px=x
  ·subst hx
   by_cases hz:pz=z
   ·subst hz
    by_cases hb:pm=b
    ·subst hb
     go_upto_region 4 with fail
     go_region
     go_wp2_with fail
     go_ret
     refine ⟨?_,HE0.out.trans (Below.drew HX.out)⟩
     have e:l.findIdx? (fun p=>decide (p=⟨px,pz,pm⟩))=some i:=by
      rw [List.findIdx?_eq_some_iff_getElem];refine ⟨(List.getElem?_eq_some_iff.1 Hpd.out).1,?_,fun j hj=>?_⟩
      ·rw [(List.getElem?_eq_some_iff.1 Hpd.out).2];exact decide_eq_true rfl
      ·have hjl:j<l.length:=by have:=(List.getElem?_eq_some_iff.1 Hpd.out).1;omega
       have:=Ha.out j _ hj (List.getElem?_eq_getElem hjl);rw [decide_eq_false this];decide
     rw [e];rfl
    ·have Hne:=Lh (show ¬ (⟨px,pz,pm⟩:QP)=⟨px,pz,b⟩ from fun e=>hb (congrArg QP.m e))
     have hb1:(b == pm)=false:=by cases b<;>cases pm<;>simp_all
     have hb2:¬ b=pm:=fun e=>hb e.symm
     have hb3:decide (b=pm)=false:=decide_eq_false hb2;clear hb
     go_upto_region 4 with fail
     go_region
     go_wp2_with fail
     go_roundg (m-(i+1))
     case measure=>have:=Hkk.out;have:=Hlt.out;omega
     case rel =>
      refine ⟨i+1,rfl,Hlt.out,rfl,Below.drew HX.out,fun j r hj hr=>?_⟩
      by_cases e:j=i
      ·subst e
       rw [Hpd.out] at hr
       cases hr
       exact Hne.out
      ·exact Ha.out j r (by omega) hr
   ·have Hne:=Lh (show ¬ (⟨px,pz,pm⟩:QP)=⟨px,z,b⟩ from fun e=>hz (congrArg QP.z e))
    have hz2:¬ (z:Int)=(pz:Int):=fun e=>hz (by omega)
    clear hz
    go_upto_region 4 with fail
    go_region
    go_wp2_with fail
    go_roundg (m-(i+1))
    case measure=>have:=Hkk.out;have:=Hlt.out;omega
    case rel =>
     refine ⟨i+1,rfl,Hlt.out,rfl,Below.drew HX.out,fun j r hj hr=>?_⟩
     by_cases e:j=i
     ·subst e
      rw [Hpd.out] at hr
      cases hr
      exact Hne.out
     ·exact Ha.out j r (by omega) hr
  ·have Hne:=Lh (show ¬ (⟨px,pz,pm⟩:QP)=⟨x,z,b⟩ from fun e=>hx (congrArg QP.x e))
   have hx2:¬ (x:Int)=(px:Int):=fun e=>hx (by omega)
   clear hx
   go_upto_region 4 with fail
   go_region
   go_wp2_with fail
   go_roundg (m-(i+1))
   case measure=>have:=Hkk.out;have:=Hlt.out;omega
   case rel =>
    refine ⟨i+1,rfl,Hlt.out,rfl,Below.drew HX.out,fun j r hj hr=>?_⟩
    by_cases e:j=i
    ·subst e
     rw [Hpd.out] at hr
     cases hr
     exact Hne.out
    ·exact Ha.out j r (by omega) hr
end Go.Proofs.YtlechhmhmakgpaaGreatDoor
