/-
  Sums, products and mirrors of numbers of circuits, on both sides: the law's walk. What is read is written as it stood; ZSign; the number of twos. The texts of numbers of circuits, in plain lists: the two ways in which numerals are told; what is refused is refused in one way; what is read is written as it stood. The reference's reader of numbers of circuits, in plain lists: part by part. The reference's reading: word, digitsOf.
-/
import Derived.Test.YtiicfpdiehgikaaGreatDoorS17Up
namespace Go.Proofs.YtiicfpdiehgikaaGreatDoor
set_option maxRecDepth 100000
set_option maxHeartbeats 1000000
open Go.RowKit
theorem nw2_a (w:World):((w.alloc (.cells zeroR 38)).alloc (.cells #[.int .i64 0,.int .i64 0] 30)).heap[w.heap.size]?=some (.cells zeroR 38 (0,0)):=((Ext.alloc _ _).block _ (Array.getElem?_eq_some_iff.1 (heap_alloc_new w (.cells zeroR 38))).1).trans (heap_alloc_new w _)
theorem nw2_c (w:World):((w.alloc (.cells zeroR 38)).alloc (.cells #[.int .i64 0,.int .i64 0] 30)).heap[w.heap.size+1]?=some (.cells #[.int .i64 0,.int .i64 0] 30 (0,0)):=by
 have h3:=heap_alloc_new (w.alloc (.cells zeroR 38)) (.cells #[.int .i64 0,.int .i64 0] 30)
 simpa using h3
theorem nw2_b (w:World) (cr:Array Value):(((w.alloc (.cells zeroR 38)).alloc (.cells #[.int .i64 0,.int .i64 0] 30)).setRow w.heap.size cr).heap[w.heap.size+1]?=some (.cells #[.int .i64 0,.int .i64 0] 30 (0,0)):=(setRow_other _ _ _ _ (by omega)).trans (nw2_c w)
theorem nw2 (w:World) (cr fl:Array Value):∃ V,(((w.alloc (.cells zeroR 38)).alloc (.cells #[.int .i64 0,.int .i64 0] 30)).setRow w.heap.size cr).setRow (w.heap.size+1) fl=V∧Ext w V∧V.heap[w.heap.size]?=some (.cells cr 38 (0,0))∧V.heap[w.heap.size+1]?=some (.cells fl 30 (0,0)):=by
 refine ⟨_,rfl,?_,?_,?_⟩
 ·have E0:Ext w ((w.alloc (.cells zeroR 38)).alloc (.cells #[.int .i64 0,.int .i64 0] 30)):=(Ext.alloc _ _).trans (Ext.alloc _ _)
  have c1:=setRow_only ((w.alloc (.cells zeroR 38)).alloc (.cells #[.int .i64 0,.int .i64 0] 30)) w.heap.size cr
  have c2:=setRow_only (((w.alloc (.cells zeroR 38)).alloc (.cells #[.int .i64 0,.int .i64 0] 30)).setRow w.heap.size cr) (w.heap.size+1) fl
  refine ⟨c2.os.trans (c1.os.trans E0.os),c2.tape.trans (c1.tape.trans E0.tape),c2.output.trans (c1.output.trans E0.output),by rw [c2.size,c1.size];exact E0.size,fun k hk=>?_⟩
  rw [c2.block k (by omega),c1.block k (by omega)]
  exact E0.block k hk
 ·exact (setRow_other _ _ _ _ (by omega)).trans (setRow_heap _ _ _ _ _ _ (nw2_a w))
 ·exact setRow_heap _ _ _ _ _ _ (nw2_b w cr)
theorem AllD.snoc_iff {d:List Nat} {x:Nat} (h:AllD (d++[x])):AllD d∧isD x=true:=by
 refine ⟨fun t ht=>?_,?_⟩
 ·have:=h t (by rw [List.length_append];omega)
  rwa [List.getD_eq_getElem?_getD,List.getElem?_append_left ht,←List.getD_eq_getElem?_getD] at this
 ·have:=h d.length (by simp)
  rwa [List.getD_eq_getElem?_getD,List.getElem?_append_right (Nat.le_refl _),Nat.sub_self] at this
theorem decN_back:∀ (n:Nat) (d:List Nat),d.length=n+1→AllD d→d.getD 0 0≠48→0<dval d∧decN (dval d)=d:=by
 intro n
 induction n with
 | zero =>
  intro d hl hd h0
  obtain ⟨x,rfl⟩:=List.length_eq_one_iff.1 hl
  have hx:=hd 0 (by simp)
  simp only [List.getD_cons_zero,isD,decide_eq_true_eq] at hx h0
  have hv:dval [x]=x-48:=by simp [dval]
  rw [hv]
  refine ⟨by omega,?_⟩
  rw [decN_small (by omega)]
  congr 1
  omega
 | succ n ih =>
  intro d hl hd h0
  have hne:d≠[]:=by intro e;subst e;simp at hl
  obtain ⟨d',x,rfl⟩:∃ d' x,d=d'++[x]:=⟨d.dropLast,d.getLast hne,(List.dropLast_concat_getLast hne).symm⟩
  obtain ⟨hd',hx⟩:=hd.snoc_iff
  have hl':d'.length=n+1:=by simpa using hl
  have h0':d'.getD 0 0≠48:=by
   rwa [List.getD_eq_getElem?_getD,List.getElem?_append_left (by omega),←List.getD_eq_getElem?_getD] at h0
  obtain ⟨ih1,ih2⟩:=ih d' hl' hd' h0'
  simp only [isD,decide_eq_true_eq] at hx
  rw [dval_snoc]
  refine ⟨by omega,?_⟩
  rw [decN_big (by omega)]
  have e1:(10*dval d'+(x-48)) / 10=dval d':=by omega
  have e2:48+(10*dval d'+(x-48)) % 10=x:=by omega
  rw [e1,e2,ih2]
theorem txt_pz (l:List Nat) (h:pcode l=0):txt (pz l)=l:=by
 unfold pcode at h
 by_cases hc:(scanN l).2=true∧¬ (scanN l).1<l.length
 ·rw [if_pos hc] at h
  have hlong:¬ 1000<l.length-sgl l:=by
   intro hl
   rw [if_pos hl] at h
   omega
  have hpz:pz l=sgn (decide (0<sgl l)) (dval (l.drop (sgl l))):=by unfold pz;rw [if_pos ⟨hc.1,hc.2,hlong⟩]
  have hall:=allD_of_scan l hc.1 hc.2
  obtain ⟨h1,h2⟩:=hc
  unfold scanN at h1 h2
  by_cases h48:0<l.length∧l.getD 0 0=48
  ·rw [if_pos h48] at h2
   have hl:l.length=1:=by have:=h48.1;simp at h2;omega
   obtain ⟨x,rfl⟩:=List.length_eq_one_iff.1 hl
   have hx:x=48:=by simpa using h48.2
   subst hx
   rw [hpz]
   decide +kernel
  ·rw [if_neg h48] at h1
   have hpos:0<spos (l.drop (sgl l)):=by simpa using h1
   unfold spos at hpos
   by_cases hcc:(l.drop (sgl l)).length=0∨(l.drop (sgl l)).getD 0 0=48
   ·rw [if_pos hcc] at hpos
    omega
   ·have hn0:(l.drop (sgl l)).length≠0:=fun e=>hcc (Or.inl e)
    obtain ⟨k,hk⟩:∃ k,(l.drop (sgl l)).length=k+1:=⟨(l.drop (sgl l)).length-1,by omega⟩
    obtain ⟨g1,g2⟩:=decN_back k _ hk hall (fun e=>hcc (Or.inr e))
    rw [hpz]
    by_cases h45:l.getD 0 0=45
    ·have hs:sgl l=1:=by unfold sgl;rw [if_pos h45]
     rw [hs] at g1 g2 ⊢
     have hz:sgn (decide (0<1)) (dval (l.drop 1))=-(dval (l.drop 1):Int):=rfl
     rw [hz,txt_neg (by omega),Int.natAbs_neg,Int.natAbs_natCast,g2]
     cases l with
     | nil=>simp at h45
     | cons y r =>
      simp at h45
      rw [h45];rfl
    ·have hs:sgl l=0:=by unfold sgl;rw [if_neg h45]
     rw [hs] at g1 g2 ⊢
     have hz:sgn (decide (0<0)) (dval (l.drop 0))=(dval (l.drop 0):Int):=rfl
     rw [hz,txt_pos (by omega),Int.natAbs_natCast,g2]
     rfl
 ·rw [if_neg hc] at h
  omega
theorem tn_eq {c:UInt8} {n:Nat} (hn:n<256):c=UInt8.ofNat n↔c.toNat=n:=by
 constructor
 ·intro h;rw [h];simp;omega
 ·intro h;rw [←h];simp
theorem dgRun_eq:∀ L:List UInt8,dgRun L=dcount (L.map UInt8.toNat)
 | []=>rfl
 | c :: r=>by
  have ih:=dgRun_eq r
  unfold dcount at ih ⊢
  simp only [dgRun,List.map_cons,List.takeWhile_cons]
  have e:isDr (some c)=isD c.toNat:=by simp [isDr,isD,Bool.decide_and]
  rw [e]
  by_cases h:isD c.toNat=true
  ·rw [if_pos h,if_pos h,List.length_cons,ih]
  ·rw [if_neg h,if_neg h];rfl
theorem head_eq (L:List UInt8) (n:Nat) (hn:n<256):(L.map UInt8.toNat)[0]?=some n↔L[0]?=some (UInt8.ofNat n):=by
 cases L with
 | nil=>simp
 | cons c r=>simp only [List.map_cons,List.getElem?_cons_zero,Option.some.injEq];exact (tn_eq hn).symm
theorem headD_eq (L:List UInt8) (n:Nat) (h0:n≠0) (hn:n<256):(L.map UInt8.toNat).getD 0 0=n↔L[0]?=some (UInt8.ofNat n):=by
 rw [←head_eq L n hn,List.getD_eq_getElem?_getD]
 cases (L.map UInt8.toNat)[0]? with
 | none=>simp;omega
 | some c=>simp
theorem posN_eq (L:List UInt8):posN L=spos (L.map UInt8.toNat):=by
 unfold posN spos
 have e:=headD_eq L 48 (by decide) (by decide)
 by_cases h:L[0]?=some 48
 ·rw [if_pos h,if_pos (Or.inr (e.2 h))]
 ·rw [if_neg h]
  by_cases h2:(L.map UInt8.toNat).length=0
  ·rw [if_pos (Or.inl h2)]
   rw [List.length_map] at h2
   rw [List.eq_nil_of_length_eq_zero h2];rfl
  ·rw [if_neg (fun g=>g.elim h2 (fun g=>h (e.1 g))),dgRun_eq]
theorem numS_eq (L:List UInt8):numS L=sgl (L.map UInt8.toNat):=by
 unfold numS sgl
 have e:=headD_eq L 45 (by decide) (by decide)
 by_cases h:L[0]?=some 45
 ·rw [if_pos h,if_pos (e.2 h)]
 ·rw [if_neg h,if_neg (fun g=>h (e.1 g))]
theorem scan_eq (L:List UInt8):scanN (L.map UInt8.toNat)=(numK L,numOk L):=by
 unfold scanN numK numOk
 have e:=headD_eq L 48 (by decide) (by decide)
 have hd:(L.map UInt8.toNat).drop (sgl (L.map UInt8.toNat))=(L.drop (numS L)).map UInt8.toNat:=by rw [←numS_eq,List.map_drop]
 by_cases h:L[0]?=some 48
 ·have hl:0<(L.map UInt8.toNat).length:=by
   rw [List.length_map];exact (List.getElem?_eq_some_iff.1 h).1
  rw [if_pos ⟨hl,e.2 h⟩,if_pos h]
  simp [h]
 ·rw [if_neg (fun g=>h (e.1 g.2)),if_neg h,hd,←posN_eq,←numS_eq]
  simp [h,Nat.pos_iff_ne_zero]
def NumT (p:List UInt8):Prop:=numOk p=true∧numK p=p.length
theorem dgRun_take:∀ L:List UInt8,dgRun (L.take (dgRun L))=dgRun L
 | []=>rfl
 | c :: r=>by
  simp only [dgRun]
  split
  ·rename_i h
   rw [List.take_succ_cons]
   simp only [dgRun]
   rw [if_pos h,dgRun_take r]
  ·rfl
theorem posN_take (L:List UInt8):posN (L.take (posN L))=posN L:=by
 by_cases h:L[0]?=some 48
 ·have e:posN L=0:=by unfold posN;rw [if_pos h]
  rw [e,List.take_zero];rfl
 ·have e:posN L=dgRun L:=by unfold posN;rw [if_neg h]
  rw [e]
  unfold posN
  rw [if_neg,dgRun_take]
  rw [List.getElem?_take]
  split
  ·exact h
  ·simp
theorem numT_take {L:List UInt8} (h:numOk L=true):NumT (L.take (numK L)):=by
 have hk:=numK_le L
 have hlen:(L.take (numK L)).length=numK L:=by rw [List.length_take];omega
 unfold NumT
 rw [hlen]
 by_cases h48:L[0]?=some 48
 ·have e:numK L=1:=by unfold numK;rw [if_pos h48]
  rw [e]
  have e0:(L.take 1)[0]?=some 48:=by rw [List.getElem?_take,if_pos (by decide)];exact h48
  exact ⟨by unfold numOk;simp [e0],by unfold numK;rw [if_pos e0]⟩
 ·have hp:posN (L.drop (numS L))≠0:=by
   unfold numOk at h
   simp [h48] at h
   exact h
  have e:numK L=numS L+posN (L.drop (numS L)):=by unfold numK;rw [if_neg h48]
  have hpos:0<numK L:=by omega
  have e0:(L.take (numK L))[0]?=L[0]?:=by rw [List.getElem?_take,if_pos hpos]
  have es:numS (L.take (numK L))=numS L:=by unfold numS;rw [e0]
  have ed:(L.take (numK L)).drop (numS L)=(L.drop (numS L)).take (posN (L.drop (numS L))):=by
   rw [List.drop_take,e,Nat.add_sub_cancel_left]
  constructor
  ·unfold numOk
   rw [es,ed,posN_take]
   simp [hp]
  ·have hh:∀ M:List UInt8,M[0]?≠some 48→numK M=numS M+posN (M.drop (numS M)):=fun M hM=>by unfold numK;rw [if_neg hM]
   rw [hh (L.take (numK L)) (by rw [e0];exact h48),es,ed,posN_take,e]
theorem numT_pos {L:List UInt8} (h:posN L≠0):NumT (L.take (posN L)):=by
 have h48:L[0]?≠some 48:=fun g=>h (by unfold posN;rw [if_pos g])
 have h45:L[0]?≠some 45:=fun g=>by
  refine h ?_
  unfold posN
  rw [if_neg h48]
  cases L with
  | nil=>simp at g
  | cons c r =>
   simp only [List.getElem?_cons_zero,Option.some.injEq] at g
   subst g
   rfl
 have hs:numS L=0:=by unfold numS;rw [if_neg h45]
 have hk:numK L=posN L:=by unfold numK;rw [if_neg h48,hs,List.drop_zero];omega
 have:=numT_take (L:=L) (by unfold numOk;rw [hs,List.drop_zero];simp [h])
 rw [hk] at this
 exact this
theorem numT_zero:NumT [48]:=⟨by decide,by decide⟩
theorem NumT.code {p:List UInt8} (h:NumT p):scanN (p.map UInt8.toNat)=((p.map UInt8.toNat).length,true):=by
 rw [scan_eq,h.1,h.2,List.length_map]
theorem NumT.pc {p:List UInt8} (h:NumT p):(pcU p=0∨pcU p=2)∧paU p=0∧(pcU p=0↔¬ 1000<p.length-sgl (p.map UInt8.toNat)):=by
 have e:=h.code
 unfold pcU paU pcode pat
 rw [e]
 simp only [List.length_map,Nat.lt_irrefl,not_false_eq_true,and_self,if_true]
 refine ⟨?_,trivial,?_⟩
 ·split
  ·exact Or.inr rfl
  ·exact Or.inl rfl
 ·split<;>simp_all
theorem map_tn_inj:∀ a b:List UInt8,a.map UInt8.toNat=b.map UInt8.toNat→a=b
 | [],[],_=>rfl
 | [],_ :: _,h=>by simp at h
 | _ :: _,[],h=>by simp at h
 | x :: a,y :: b,h=>by
  simp only [List.map_cons,List.cons.injEq] at h
  rw [UInt8.toNat_inj.1 h.1,map_tn_inj a b h.2]
theorem itoa_pz {p:List UInt8} (h:pcU p=0):Lib.itoa (pzU p)=p:=map_tn_inj _ _ (txt_pz (p.map UInt8.toNat) h)
theorem rdP_num {T:List UInt8}:∀ (m:Nat) (acc:List (List UInt8)) (k:Nat) (ps:List (List UInt8)) (k':Nat),rdP T m acc k=.inr (ps,k')→(∀ p ∈ acc,NumT p)→(∀ p ∈ ps,NumT p)∧acc.length≤ps.length∧ps.length≤acc.length+m
 | 0,acc,k,ps,k',h,ha=>by
  simp only [rdP] at h
  injection h with h
  injection h with h1 h2
  subst h1
  exact ⟨ha,Nat.le_refl _,Nat.le_refl _⟩
 | m+1,acc,k,ps,k',h,ha=>by
  simp only [rdP] at h
  split at h
  ·split at h
   ·rename_i hn
    have:=rdP_num m _ _ ps k' h (fun p hp=>by
     rcases List.mem_append.1 hp with hp | hp
     ·exact ha p hp
     ·rw [List.mem_singleton.1 hp];exact numT_take hn)
    rw [List.length_append] at this
    simp at this
    exact ⟨this.1,by omega,by omega⟩
   ·cases h
  ·injection h with h
   injection h with h1 h2
   subst h1
   exact ⟨ha,Nat.le_refl _,by omega⟩
theorem rdS_num {T:List UInt8} {ps:List (List UInt8)} {dn:List UInt8} (h:rdS T=.inr (ps,dn)):(∀ p ∈ ps,NumT p)∧NumT dn∧1≤ps.length∧ps.length≤8:=by
 unfold rdS at h
 split at h
 ·rename_i hn
  cases hp:rdP T 7 [T.take (numK T)] (numK T) with
  | inl k=>rw [hp] at h;simp [rdF] at h
  | inr q =>
   obtain ⟨qs,k⟩:=q
   rw [hp] at h
   simp only [rdF] at h
   have h1:=rdP_num 7 _ _ _ _ hp (fun p hp=>by rw [List.mem_singleton.1 hp];exact numT_take hn)
   simp at h1
   have e:qs=ps∧NumT dn:=by
    unfold rdE at h
    split at h
    ·split at h
     ·cases h
     ·split at h
      ·cases h
      ·rename_i h2 h3
       injection h with h
       injection h with h4 h5
       subst h5
       exact ⟨h4,numT_pos h2⟩
    ·split at h
     ·cases h
     ·injection h with h
      injection h with h4 h5
      subst h5
      exact ⟨h4,numT_zero⟩
   obtain ⟨rfl,hd⟩:=e
   exact ⟨h1.1,hd,by omega,by omega⟩
 ·cases h
theorem MkBad.code {ps:List (List UInt8)} {dn:List UInt8} {c k:Nat} (h:MkBad ps dn c k) (hp:∀ p ∈ ps,NumT p) (hd:NumT dn):k=0∧(c=2∨c=3)∧(c=3↔((∀ i,i<ps.length→pcU (ps.getD i [])=0)∧pcU dn=0∧pzU dn≤10000)):=by
 have hm:∀ i,i<ps.length→NumT (ps.getD i []):=fun i hi=>by
  rw [List.getD_eq_getElem?_getD,List.getElem?_eq_getElem hi];exact hp _ (List.getElem_mem hi)
 rcases h with ⟨i,hi,hj,hne,rfl,rfl⟩ | ⟨hall,h⟩
 ·have h1:=(hm i hi).pc
  have h2:pcU (ps.getD i [])=2:=h1.1.resolve_left hne
  refine ⟨h1.2.1,Or.inl h2,?_⟩
  rw [h2]
  simp only [Nat.reduceEqDiff,false_iff]
  exact fun g=>hne (g.1 i hi)
 ·rcases h with ⟨hne,rfl,rfl⟩ | ⟨h0,⟨hb,rfl,rfl⟩ | ⟨hb,rfl,rfl,_⟩⟩
  ·have h1:=hd.pc
   have h2:pcU dn=2:=h1.1.resolve_left hne
   refine ⟨h1.2.1,Or.inl h2,?_⟩
   constructor
   ·intro g;omega
   ·intro g;exact absurd g.2.1 hne
  ·refine ⟨rfl,Or.inl rfl,?_⟩
   simp only [Nat.reduceEqDiff,false_iff]
   exact fun g=>by have:=g.2.2;omega
  ·exact ⟨rfl,Or.inr rfl,by simp [h0,hb];exact hall⟩
theorem RdBad.one {T:List UInt8} {c k c' k':Nat} (h:RdBad T c k) (g:RdBad T c' k'):c=c'∧k=k':=by
 rcases h with ⟨h1,rfl⟩ | ⟨ps,dn,h1,h2⟩
 ·rcases g with ⟨g1,rfl⟩ | ⟨ps,dn,g1,_⟩
  ·rw [h1] at g1;injection g1 with g1;exact ⟨rfl,g1⟩
  ·rw [h1] at g1;cases g1
 ·rcases g with ⟨g1,rfl⟩ | ⟨ps',dn',g1,g2⟩
  ·rw [h1] at g1;cases g1
  ·rw [h1] at g1
   injection g1 with g1
   injection g1 with e1 e2
   subst e1;subst e2
   obtain ⟨hp,hd,_⟩:=rdS_num h1
   have a:=h2.code hp hd
   have b:=g2.code hp hd
   have e:c=3↔c'=3:=a.2.2.trans b.2.2.symm
   refine ⟨?_,by rw [a.1,b.1]⟩
   rcases a.2.1 with a1 | a1<;>rcases b.2.1 with b1 | b1<;>omega
theorem RdGood.one {T:List UInt8} {x y:Nm} (h:RdGood T x) (g:RdGood T y):x=y:=by
 obtain ⟨ps,dn,h1,h2⟩:=h
 obtain ⟨ps',dn',g1,g2⟩:=g
 rw [h1] at g1
 injection g1 with g1
 injection g1 with e1 e2
 subst e1;subst e2
 rw [h2.eq,g2.eq]
theorem RdBad.not_good {T:List UInt8} {c k:Nat} {x:Nm} (h:RdBad T c k) (g:RdGood T x):False:=by
 obtain ⟨ps',dn',g1,g2⟩:=g
 rcases h with ⟨h1,rfl⟩ | ⟨ps,dn,h1,h2⟩
 ·rw [h1] at g1;cases g1
 ·rw [h1] at g1
  injection g1 with g1
  injection g1 with e1 e2
  subst e1;subst e2
  rcases h2 with ⟨i,hi,_,hne,_⟩ | ⟨hall,⟨hne,_⟩ | ⟨_,⟨hb,_⟩ | ⟨_,_,_,hn⟩⟩⟩
  ·exact hne (g2.parts i hi)
  ·exact hne g2.down
  ·have:=g2.small;omega
  ·refine hn ⟨?_,g2.len⟩
   rw [←g2.eq];exact g2.low
def cmm (qs:List (List UInt8)):List UInt8:=(qs.map fun q=>44 :: q).flatten
theorem drop_hit {T:List UInt8} {k:Nat} {c:UInt8} (h:T[k]?=some c):T.drop k=c :: T.drop (k+1):=by
 obtain ⟨hk,e⟩:=List.getElem?_eq_some_iff.1 h
 rw [List.drop_eq_getElem_cons hk,e]
theorem rdP_text {T:List UInt8}:∀ (m:Nat) (acc:List (List UInt8)) (k:Nat) (ps:List (List UInt8)) (k':Nat),rdP T m acc k=.inr (ps,k')→∃ more,ps=acc++more∧T.drop k=cmm more++T.drop k'
 | 0,acc,k,ps,k',h=>by
  simp only [rdP] at h
  injection h with h
  injection h with h1 h2
  subst h1;subst h2
  exact ⟨[],by simp,by simp [cmm]⟩
 | m+1,acc,k,ps,k',h=>by
  simp only [rdP] at h
  split at h
  ·rename_i h44
   split at h
   ·obtain ⟨more,e1,e2⟩:=rdP_text m _ _ ps k' h
    refine ⟨(T.drop (k+1)).take (numK (T.drop (k+1))) :: more,by rw [e1];simp,?_⟩
    rw [drop_hit h44]
    have e3:T.drop (k+1)=(T.drop (k+1)).take (numK (T.drop (k+1)))++T.drop (k+1+numK (T.drop (k+1))):=by
     rw [show T.drop (k+1+numK (T.drop (k+1)))=(T.drop (k+1)).drop (numK (T.drop (k+1))) from (List.drop_drop).symm]
     exact (List.take_append_drop _ _).symm
    rw [e2] at e3
    conv=>lhs;rw [e3]
    simp [cmm]
   ·cases h
  ·injection h with h
   injection h with h1 h2
   subst h1;subst h2
   exact ⟨[],by simp,by simp [cmm]⟩
theorem rdS_text {T:List UInt8} {ps:List (List UInt8)} {dn:List UInt8} (h:rdS T=.inr (ps,dn)):∃ p0 more tl,ps=p0 :: more∧T=p0++(cmm more++tl)∧((tl=[]∧dn=[48])∨(tl=47 :: dn∧posN dn≠0)):=by
 unfold rdS at h
 split at h
 ·cases hp:rdP T 7 [T.take (numK T)] (numK T) with
  | inl k=>rw [hp] at h;simp [rdF] at h
  | inr q =>
   obtain ⟨qs,k⟩:=q
   rw [hp] at h
   simp only [rdF] at h
   obtain ⟨more,e1,e2⟩:=rdP_text 7 _ _ _ _ hp
   have e3:T=T.take (numK T)++(cmm more++T.drop k):=by rw [←e2];exact (List.take_append_drop _ _).symm
   unfold rdE at h
   split at h
   ·rename_i h47
    split at h
    ·cases h
    ·rename_i hp0
     split at h
     ·cases h
     ·rename_i hlt
      injection h with h
      injection h with h4 h5
      have e6:T.drop (k+1)=dn:=by
       rw [←h5]
       refine (List.take_of_length_le ?_).symm
       rw [List.length_drop];omega
      refine ⟨T.take (numK T),more,T.drop k,by rw [←h4,e1];rfl,e3,Or.inr ⟨by rw [drop_hit h47,e6],?_⟩⟩
      rw [←h5,posN_take];exact hp0
   ·split at h
    ·cases h
    ·rename_i hlt
     injection h with h
     injection h with h4 h5
     refine ⟨T.take (numK T),more,T.drop k,by rw [←h4,e1];rfl,e3,Or.inl ⟨List.drop_of_length_le (by omega),h5.symm⟩⟩
 ·cases h
theorem rst_eq (f:Nat→Int) (tl:List UInt8):∀ (qs:List (List UInt8)) (i:Nat),(∀ t,t<qs.length→Lib.itoa (f (i+t))=qs.getD t [])→rst f tl i qs.length=cmm qs++tl
 | [],i,_=>by simp [rst,cmm]
 | q :: r,i,h=>by
  have h0:=h 0 (by simp)
  simp only [List.getD_cons_zero,Nat.add_zero] at h0
  have ih:=rst_eq f tl r (i+1) (fun t ht=>by
   have:=h (t+1) (by simpa using ht)
   simp only [List.getD_cons_succ] at this
   rw [←this,show i+1+t=i+(t+1) by omega])
  simp only [List.length_cons,rst,ih,h0]
  simp [cmm]
theorem posN_pos {dn:List UInt8} (h:pcU dn=0) (hp:posN dn≠0):0<pzU dn:=by
 have e:=itoa_pz h
 have h48:dn[0]?≠some 48:=fun g=>hp (by unfold posN;rw [if_pos g])
 have h45:dn[0]?≠some 45:=fun g=>by
  refine hp ?_
  unfold posN
  rw [if_neg h48]
  cases dn with
  | nil=>simp at g
  | cons c r =>
   simp only [List.getElem?_cons_zero,Option.some.injEq] at g
   subst g
   rfl
 by_cases h1:pzU dn<0
 ·exfalso
  refine h45 ?_
  rw [←e]
  unfold Lib.itoa
  rw [if_pos h1]
  rfl
 ·by_cases h0:pzU dn=0
  ·exfalso
   refine h48 ?_
   rw [←e,h0,itoa_0]
   rfl
  ·omega
theorem RdGood.text {T:List UInt8} {x:Nm} (h:RdGood T x):rtx (nmF x)=T:=by
 obtain ⟨ps,dn,h1,hg⟩:=h
 obtain ⟨p0,more,tl,e1,e2,e3⟩:=rdS_text h1
 obtain ⟨hp,hd,hl1,hl8⟩:=rdS_num h1
 have hi:∀ i,i<ps.length→nmF x i=pzU (ps.getD i []):=fun i hi=>by
  have h8:i<8:=by omega
  unfold nmF
  rw [if_neg (by omega),hg.eq]
  show ext8 (pF ps ps.length) (i:Int)=_
  rw [ext8_at _ _ (by omega) (by omega)]
  unfold pF
  rw [if_pos (by simpa using hi)]
  rfl
 have hit:∀ i,i<ps.length→Lib.itoa (nmF x i)=ps.getD i []:=fun i hi'=>by rw [hi i hi',itoa_pz (hg.parts i hi')]
 have hlen:lenN (nmF x) 8=ps.length:=by
  rw [←hg.len]
  refine lenN_congr 8 fun i h8=>?_
  unfold nmF
  rw [if_neg (by omega),hg.eq]
  show ext8 (pF ps ps.length) (i:Int)=_
  rw [ext8_at _ _ (by omega) (by omega)]
  rfl
 have he:nmF x 8=((pzU dn).toNat:Int):=by
  show ((x.e:Nat):Int)=_
  rw [hg.eq]
 have htl:(if nmF x 8=0 then ([]:List UInt8) else 47 :: Lib.itoa (nmF x 8))=tl:=by
  rcases e3 with ⟨rfl,rfl⟩ | ⟨rfl,hpn⟩
  ·have:pzU [48]=0:=by decide
   rw [he,this];rfl
  ·have h9:=posN_pos hg.down hpn
   have h10:((pzU dn).toNat:Int)=pzU dn:=by omega
   rw [he,h10,if_neg (by omega),itoa_pz hg.down]
 have hm:lenN (nmF x) 8=1+more.length:=by rw [hlen,e1,List.length_cons];omega
 unfold rtx
 rw [htl,hm,jnT_rst (nmF x) tl more.length 1 (Nat.le_refl _),rst_eq (nmF x) tl more 1 (fun t ht=>by
  have:=hit (1+t) (by rw [e1,List.length_cons];omega)
  rw [this,e1,Nat.add_comm,List.getD_cons_succ])]
 have h0:jnT (nmF x) 1=p0:=by
  have:=hit 0 (by omega)
  rw [e1,List.getD_cons_zero] at this
  simp [jnT,this]
 rw [h0,e2]
theorem rd_same {T:List UInt8} {ps:List (List UInt8)} {dn:List UInt8} {y:Nm} (h1:rdS T=.inr (ps,dn)) (hy:Anti y.a) (hl:Low y) (hq:EqN y ⟨ext8 (pF ps ps.length),(pzU dn).toNat⟩) (hp:∀ i,i<ps.length→pcU (ps.getD i [])=0) (hd:pcU dn=0) (hs:pzU dn≤10000) :
  (rtx (nmF y)=T→RdGood T y)∧(rtx (nmF y)≠T→RdBad T 3 0):=by
 constructor
 ·intro e
  have h2:=rdS_rtx (nmF y) (by show (0:Int)≤((y.e:Nat):Int);omega)
  rw [e,h1] at h2
  injection h2 with h2
  injection h2 with e1 e2
  have hlp:ps.length=lenN (nmF y) 8:=by rw [e1,its_length]
  have hpF:∀ i,i<8→pF ps ps.length i=nmF y i:=fun i hi=>by
   unfold pF
   by_cases hi2:i<ps.length
   ·rw [if_pos hi2]
    have h3:=hp i hi2
    rw [e1] at h3 ⊢
    rw [its_getD _ _ _ _ (by rw [←hlp];exact hi2),Nat.zero_add] at h3 ⊢
    exact pzU_itoa _ h3
   ·rw [if_neg hi2,lenN_zero (nmF y) 8 i (by omega) hi]
  have hdd:(pzU dn).toNat=y.e:=by
   have e8:nmF y 8=((y.e:Nat):Int):=rfl
   rw [e2] at hd ⊢
   unfold dnT at hd ⊢
   split
   ·rename_i h0
    have h3:pzU [48]=0:=by decide
    rw [h3];rw [e8] at h0;omega
   ·rename_i h0
    rw [if_neg h0] at hd
    rw [pzU_itoa _ hd,e8];rfl
  have hx:(⟨ext8 (pF ps ps.length),(pzU dn).toNat⟩:Nm)=y:=by rw [hdd,ext8_congr hpF,ext8_nmF hy]
  exact ⟨ps,dn,h1,⟨hp,hd,hs,hx.symm,hl,by rw [lenN_congr 8 hpF,hlp]⟩⟩
 ·intro hne
  refine Or.inr ⟨ps,dn,h1,Or.inr ⟨hp,Or.inr ⟨hd,Or.inr ⟨hs,rfl,rfl,fun g=>hne ?_⟩⟩⟩⟩
  have hx:=low_one hl g.1 hq
  have hg:RdGood T y:=⟨ps,dn,h1,⟨hp,hd,hs,hx,hl,g.2⟩⟩
  exact hg.text
def rdL (T:List UInt8) (i:Nat) (acc:List (List UInt8)) (k:Nat):Nat ⊕ (List (List UInt8) × List UInt8) :=
 if numOk (T.drop k)=true then rdF T (rdP T (7-i) (acc++[(T.drop k).take (numK (T.drop k))]) (k+numK (T.drop k))) else .inl (k+numK (T.drop k))
theorem rdL_start (T:List UInt8):rdS T=rdL T 0 [] 0:=by
 unfold rdS rdL
 simp
theorem rdL_bad {T:List UInt8} {i k n:Nat} {acc:List (List UInt8)} {L:List UInt8} (hL:T.drop k=L) (hn:numK L=n) (h:numOk L=false):rdL T i acc k=.inl (k+n):=by
 unfold rdL
 rw [hL,if_neg (by rw [h];decide),hn]
theorem rdL_more {T:List UInt8} {i k n:Nat} {acc:List (List UInt8)} {L:List UInt8} (hL:T.drop k=L) (hn:numK L=n) (h:numOk L=true) (hi:i<7) (h44:T[k+n]?=some 44):rdL T i acc k=rdL T (i+1) (acc++[L.take n]) (k+n+1):=by
 obtain ⟨m,hm⟩:∃ m,7-i=m+1:=⟨6-i,by omega⟩
 unfold rdL
 rw [hL,if_pos h,hn,hm]
 have hm':7-(i+1)=m:=by omega
 rw [hm']
 by_cases h2:numOk (T.drop (k+n+1))=true
 ·rw [rdP_hit h44 h2,if_pos h2]
 ·rw [rdP_bad h44 (by simpa using h2),if_neg h2];rfl
theorem rdL_last {T:List UInt8} {i k n:Nat} {acc:List (List UInt8)} {L:List UInt8} (hL:T.drop k=L) (hn:numK L=n) (h:numOk L=true) (hi:7≤i∨T[k+n]?≠some 44):rdL T i acc k=rdE T (acc++[L.take n]) (k+n):=by
 unfold rdL
 rw [hL,if_pos h,hn,rdP_end (by
  rcases hi with hi | hi
  ·exact Or.inl (by omega)
  ·exact Or.inr hi)]
 rfl
theorem least_bad {ps:List (List UInt8)}:∀ n,(∃ j,j<n∧pcU (ps.getD j [])≠0)→∃ i,i<n∧(∀ j,j<i→pcU (ps.getD j [])=0)∧pcU (ps.getD i [])≠0
 | 0,⟨j,h,_⟩=>by omega
 | n+1,⟨j,hj,hne⟩=>by
  by_cases h:∃ j,j<n∧pcU (ps.getD j [])≠0
  ·obtain ⟨i,h1,h2,h3⟩:=least_bad n h
   exact ⟨i,by omega,h2,h3⟩
  ·have hall:∀ j,j<n→pcU (ps.getD j [])=0:=fun j hj=>Classical.byContradiction fun g=>h ⟨j,hj,g⟩
   have:j=n:=Classical.byContradiction fun g=>hne (hall j (by omega))
   subst this
   exact ⟨j,by omega,hall,hne⟩
def LongP (ps:List (List UInt8)):Prop:=∃ j,j<ps.length∧pcU (ps.getD j [])≠0
def LongD (dn:List UInt8):Prop:=pcU dn≠0∨10000<pzU dn
theorem rd_long {T:List UInt8} {ps:List (List UInt8)} {dn:List UInt8} (h:rdS T=.inr (ps,dn)) (hb:LongP ps∨LongD dn):RdBad T 2 0:=by
 obtain ⟨hp,hd,_⟩:=rdS_num h
 have hm:∀ i,i<ps.length→NumT (ps.getD i []):=fun i hi=>by
  rw [List.getD_eq_getElem?_getD,List.getElem?_eq_getElem hi];exact hp _ (List.getElem_mem hi)
 refine Or.inr ⟨ps,dn,h,?_⟩
 by_cases hP:LongP ps
 ·obtain ⟨i,h1,h2,h3⟩:=least_bad ps.length hP
  have h4:=(hm i h1).pc
  exact Or.inl ⟨i,h1,h2,h3,(h4.1.resolve_left h3).symm,h4.2.1.symm⟩
 ·have hall:∀ i,i<ps.length→pcU (ps.getD i [])=0:=fun j hj=>Classical.byContradiction fun g=>hP ⟨j,hj,g⟩
  refine Or.inr ⟨hall,?_⟩
  by_cases h0:pcU dn=0
  ·refine Or.inr ⟨h0,Or.inl ⟨?_,rfl,rfl⟩⟩
   rcases hb with hb | hb | hb
   ·exact absurd hb hP
   ·exact absurd h0 hb
   ·exact hb
  ·have h4:=hd.pc
   exact Or.inl ⟨h0,(h4.1.resolve_left h0).symm,h4.2.1.symm⟩
theorem not_long {ps:List (List UInt8)} (h:¬ LongP ps):∀ i,i<ps.length→pcU (ps.getD i [])=0:=fun j hj=>Classical.byContradiction fun g=>h ⟨j,hj,g⟩
theorem longP_snoc (acc:List (List UInt8)) (p:List UInt8):LongP (acc++[p])↔LongP acc∨pcU p≠0:=by
 constructor
 ·rintro ⟨j,hj,hne⟩
  rw [List.length_append] at hj
  simp only [List.length_cons,List.length_nil] at hj
  by_cases h:j<acc.length
  ·rw [List.getD_eq_getElem?_getD,List.getElem?_append_left h,←List.getD_eq_getElem?_getD] at hne
   exact Or.inl ⟨j,h,hne⟩
  ·have e:j=acc.length:=by omega
   subst e
   rw [List.getD_eq_getElem?_getD,List.getElem?_append_right (Nat.le_refl _),Nat.sub_self] at hne
   exact Or.inr hne
 ·rintro (⟨j,hj,hne⟩ | hne)
  ·refine ⟨j,by rw [List.length_append];omega,?_⟩
   rw [List.getD_eq_getElem?_getD,List.getElem?_append_left hj,←List.getD_eq_getElem?_getD]
   exact hne
  ·refine ⟨acc.length,by rw [List.length_append];simp,?_⟩
   rw [List.getD_eq_getElem?_getD,List.getElem?_append_right (Nat.le_refl _),Nat.sub_self]
   exact hne
theorem pF_snoc (acc:List (List UInt8)) (p:List UInt8) (i:Nat):updN (pF acc acc.length) acc.length (pzU p) i=pF (acc++[p]) (acc++[p]).length i:=by
 unfold updN pF
 rw [List.length_append]
 simp only [List.length_cons,List.length_nil]
 by_cases e:i=acc.length
 ·subst e
  rw [if_pos rfl,if_pos (by omega),List.getD_eq_getElem?_getD,List.getElem?_append_right (Nat.le_refl _),Nat.sub_self]
  rfl
 ·rw [if_neg e]
  by_cases h:i<acc.length
  ·rw [if_pos h,if_pos (by omega),List.getD_eq_getElem?_getD,List.getD_eq_getElem?_getD,List.getElem?_append_left h]
  ·rw [if_neg h,if_neg (by omega)]
theorem pz_long {p:List UInt8} (h:NumT p) (hl:pcU p≠0):pzU p=0:=by
 have h1:=h.pc.2.2
 have h2:1000<p.length-sgl (p.map UInt8.toNat):=Classical.byContradiction fun g=>hl (h1.2 g)
 unfold pzU pz
 rw [if_neg]
 rw [List.length_map]
 exact fun g=>g.2.2 h2
theorem pF_same (acc:List (List UInt8)) {p:List UInt8} (h:pzU p=0) (i:Nat):pF acc acc.length i=pF (acc++[p]) (acc++[p]).length i:=by
 rw [←pF_snoc acc p i]
 unfold updN
 split
 ·rename_i e
  rw [e,h]
  unfold pF
  rw [if_neg (by omega)]
 ·rfl
theorem pz_val {p:List UInt8} (h:NumT p) (h0:pcU p=0):pzU p=if sgl (p.map UInt8.toNat)=1 then -(dval ((p.map UInt8.toNat).drop (sgl (p.map UInt8.toNat))):Int) else (dval ((p.map UInt8.toNat).drop (sgl (p.map UInt8.toNat))):Int):=by
 have h1:=h.pc.2.2.1 h0
 have e:=h.code
 unfold pzU pz
 rw [e]
 rw [if_pos ⟨rfl,Nat.lt_irrefl _,by rw [List.length_map];exact h1⟩]
 unfold sgn
 have hs:=(sgl_le (p.map UInt8.toNat)).2
 by_cases h2:sgl (p.map UInt8.toNat)=1
 ·rw [if_pos h2,h2];rfl
 ·have h3:sgl (p.map UInt8.toNat)=0:=by omega
  rw [if_neg h2,h3];rfl
theorem posN_sgl {L:List UInt8} (h:posN L≠0):sgl ((L.take (posN L)).map UInt8.toNat)=0:=by
 rw [←numS_eq]
 unfold numS
 rw [if_neg]
 intro g
 have hn:=posN_take L
 have hu:∀ M:List UInt8,posN M=if M[0]?=some 48 then 0 else dgRun M:=fun _=>rfl
 have h48:(L.take (posN L))[0]?≠some 48:=fun g=>h (by rw [←hn,hu (L.take (posN L)),if_pos g])
 have hd:posN (L.take (posN L))=dgRun (L.take (posN L)):=by rw [hu (L.take (posN L)),if_neg h48]
 rw [hn] at hd
 cases hc:L.take (posN L) with
 | nil=>rw [hc] at g;simp at g
 | cons c r =>
  rw [hc] at g hd
  simp only [List.getElem?_cons_zero,Option.some.injEq] at g
  subst g
  exact h hd
theorem posN_len {L:List UInt8}:(L.take (posN L)).length=posN L:=by
 have:=posN_le L
 rw [List.length_take];omega
theorem long_of_six {L:List UInt8} (h:posN L≠0) (h5:5<posN L):LongD (L.take (posN L)):=by
 by_cases h0:pcU (L.take (posN L))=0
 ·refine Or.inr (Classical.byContradiction fun g=>?_)
  have e:=itoa_pz h0
  have hz:0<pzU (L.take (posN L)):=posN_pos h0 (by rw [posN_take];exact h)
  have hl:(Lib.itoa (pzU (L.take (posN L)))).length≤5:=by
   unfold Lib.itoa
   rw [if_neg (by omega),Lib.decDigits_length]
   exact nDigits_le 5 _ (by decide) (by omega)
  rw [e,posN_len] at hl
  omega
 ·exact Or.inl h0
theorem code_short {L:List UInt8} (h:posN L≠0) (h5:¬ 5<posN L):pcU (L.take (posN L))=0:=by
 refine (numT_pos h).pc.2.2.2 ?_
 rw [posN_len];omega
theorem rdE_bar0 {T:List UInt8} {acc:List (List UInt8)} {k:Nat} {L:List UInt8} (h47:T[k]?=some 47) (hL:T.drop (k+1)=L) (h:posN L=0):rdE T acc k=.inl (k+1):=by
 unfold rdE;rw [if_pos h47,hL,if_pos h]
theorem rdE_bar1 {T:List UInt8} {acc:List (List UInt8)} {k:Nat} {L:List UInt8} (h47:T[k]?=some 47) (hL:T.drop (k+1)=L) (h:posN L≠0):rdE T acc k=if k+1+posN L<T.length then .inl (k+1+posN L) else .inr (acc,L.take (posN L)):=by
 unfold rdE;rw [if_pos h47,hL,if_neg h]
theorem rdE_none {T:List UInt8} {acc:List (List UInt8)} {k:Nat} (h47:T[k]?≠some 47):rdE T acc k=if k<T.length then .inl k else .inr (acc,[48]):=by
 unfold rdE;rw [if_neg h47]
theorem dcount_drop (l:List Nat) (g k:Nat) (h1:g≤k) (h2:k≤l.length) (h:∀ t,g≤t→t<k→isD (l.getD t 0)=true) (h3:k=l.length∨isD (l.getD k 0)=false):dcount (l.drop g)=k-g:=by
 refine dcount_of (l.drop g) (k-g) (by rw [List.length_drop];omega) (fun t ht=>?_) ?_
 ·rw [drop_getD];exact h (g+t) (by omega) (by omega)
 ·rcases h3 with h3 | h3
  ·left;rw [List.length_drop,h3]
  ·right;rw [drop_getD,show g+(k-g)=k by omega];exact h3
theorem scan_sign_nought (l:List Nat) (h:l.getD 0 0=45) (h0:l.getD 1 0=48):scanN l=(1,false):=by
 unfold scanN
 have hs:sgl l=1:=by unfold sgl;rw [if_pos h]
 rw [if_neg (by rw [h];simp),hs]
 have:spos (l.drop 1)=0:=by
  unfold spos
  rw [if_pos (Or.inr (by rw [drop_getD];exact h0))]
 rw [this];rfl
theorem scan_digits (l:List Nat) (k:Nat) (hg:sgl l≤k) (hk:k≤l.length) (h0:¬ (sgl l<l.length∧l.getD (sgl l) 0=48)) (h:∀ t,sgl l≤t→t<k→isD (l.getD t 0)=true) (h3:k=l.length∨isD (l.getD k 0)=false):scanN l=(k,decide (sgl l<k)):=by
 have hne:¬ (0<l.length∧l.getD 0 0=48):=by
  rintro ⟨q1,q2⟩
  apply h0
  have:sgl l=0:=by unfold sgl;rw [if_neg (by omega)]
  rw [this];exact ⟨q1,q2⟩
 unfold scanN
 rw [if_neg hne]
 have hsp:spos (l.drop (sgl l))=k-sgl l:=by
  unfold spos
  by_cases hc:(l.drop (sgl l)).length=0∨(l.drop (sgl l)).getD 0 0=48
  ·rw [if_pos hc]
   rcases hc with hc | hc
   ·rw [List.length_drop] at hc;omega
   ·rw [drop_getD,Nat.add_zero] at hc
    have hlen:¬ sgl l<l.length:=fun q=>h0 ⟨q,hc⟩
    omega
  ·rw [if_neg hc];exact dcount_drop l (sgl l) k hg hk h h3
 rw [hsp]
 have e1:sgl l+(k-sgl l)=k:=by omega
 rw [e1]
 congr 1
 rw [decide_eq_decide]
 omega
theorem scan_nought (l:List Nat) (h1:0<l.length) (h:l.getD 0 0=48):scanN l=(1,true):=by unfold scanN;rw [if_pos ⟨h1,h⟩]
theorem digitsOf_any (s:ByteArray) (w:World) (hs:s.size≤9223372036854775807) :
  Calls Tryz.prog 52 #[.string s] w fun e w'=>e=.returned (.int .i64 ((s.size-sgl (bs s):Nat)))∧w=w':=by
 by_cases h0:s.size=0
 ·have e:=bs_nil s h0
  subst e
  go_enter Tryz.func52,Tryz.ntmps52
  go_wp2
  go_ret
  exact ⟨rfl,rfl⟩
 ·have hp:0<s.size:=by omega
  have hat:=bs_at s 0 hp
  have ip:(0:Int)<(s.size:Int):=by omega
  by_cases h45:(bs s).getD 0 0=45
  ·have hb:((s[0].toNat:Int) == 45)=true:=by rw [beq_iff_eq,hat];omega
   have Hg:Hid (sgl (bs s)=1):=by show _=_;unfold sgl;rw [if_pos h45]
   clear hat h45 h0
   go_enter Tryz.func52,Tryz.ntmps52
   go_wp2
   go_ret
   have e:((s.size-1:Nat):Int)=(s.size:Int)-1:=by omega
   exact ⟨by rw [Hg.out,e];rfl,rfl⟩
  ·have hb:((s[0].toNat:Int) == 45)=false:=by rw [beq_eq_false_iff_ne,hat];omega
   have Hg:Hid (sgl (bs s)=0):=by show _=_;unfold sgl;rw [if_neg h45]
   clear hat h45 h0
   go_enter Tryz.func52,Tryz.ntmps52
   go_wp2
   go_ret
   exact ⟨by rw [Hg.out];rfl,rfl⟩
theorem word_any (s:ByteArray) (w:World) (hs:s.size≤9223372036854775807) :
  Calls Tryz.prog 51 #[.string s,.bool true,.bool true] w fun e w'=>e=.returned (.tuple #[.int .i64 ((scanN (bs s)).1:Nat),.bool (scanN (bs s)).2])∧w=w':=by
 by_cases h0:s.size=0
 ·have e:=bs_nil s h0
  subst e
  have hsc:scanN (bs ⟨#[]⟩)=(0,false):=by decide
  rw [hsc]
  clear hsc
  go_enter Tryz.func51,Tryz.ntmps51
  go_wp2
  go_loop [9] (fun i=>i=.int .i64 0) (fun _=>0)
  case atStart=>rfl
  case round =>
   subst hrel
   go_wp2
   go_ret2
   exact ⟨rfl,rfl⟩
 ·have hp:0<s.size:=by omega
  have ip:(0:Int)<(s.size:Int):=by omega
  have hat:=bs_at s 0 hp
  have hlen:=bs_length s
  by_cases h45:(bs s).getD 0 0=45
  ·have hb:((s[0].toNat:Int) == 45)=true:=by rw [beq_iff_eq,hat];omega
   have hsg:sgl (bs s)=1:=by unfold sgl;rw [if_pos h45]
   by_cases h48:1<s.size∧(bs s).getD 1 0=48
   ·obtain ⟨h1,h2⟩:=h48
    have i1:(1:Int)<(s.size:Int):=by omega
    have hb1:((s[1].toNat:Int) == 48)=true:=by rw [beq_iff_eq,bs_at s 1 h1];omega
    have hsc:=scan_sign_nought _ h45 h2
    rw [hsc]
    clear hat h45 h2 hsc hsg hlen
    go_enter Tryz.func51,Tryz.ntmps51
    go_wp2
    go_ret2
    exact ⟨rfl,rfl⟩
   ·have Hscan:Hid (∀ k,1≤k→k≤s.size→(∀ t,1≤t→t<k→isD ((bs s).getD t 0)=true)→(k=(bs s).length∨isD ((bs s).getD k 0)=false)→scanN (bs s)=(k,decide (1<k))):=by
     intro k q1 q2 q3 q4
     have:=scan_digits (bs s) k (by rw [hsg];exact q1) (by rw [hlen];exact q2) (by rw [hsg,hlen];exact h48) (by rw [hsg];exact q3) q4
     rwa [hsg] at this
    have hcase:(¬ (1:Int)<(s.size:Int))∨(∃ h1:1<s.size,((s[1].toNat:Int) == 48)=false):=by
     by_cases h1:1<s.size
     ·right;refine ⟨h1,?_⟩
      rw [beq_eq_false_iff_ne,bs_at s 1 h1]
      intro hc;exact h48 ⟨h1,by omega⟩
     ·left;omega
    clear hat h45 h48 hsg hlen
    rcases hcase with i1 | ⟨h1,hb1⟩
    ·go_enter Tryz.func51,Tryz.ntmps51
     go_wp2
     go_loop [9] (fun i=>∃ k:Nat,1≤k∧k≤s.size∧i=.int .i64 k∧∀ t,1≤t→t<k→isD ((bs s).getD t 0)=true) (fun i=>s.size-(intOf i).toNat)
     case atStart=>exact ⟨1,Nat.le_refl _,by omega,rfl,fun t h1 h2=>by omega⟩
     case round =>
      obtain ⟨k,hgk,hk,rfl,hall⟩:=hrel
      have Hall:=Lib.hid hall
      clear hall
      by_cases hlt:k<s.size
      ·have hat:=bs_at s k hlt
       have ik:(k:Int)<(s.size:Int):=by omega
       by_cases hdg:isD ((bs s).getD k 0)=true
       ·have hr:(48:Int)≤(s[k].toNat:Int)∧(s[k].toNat:Int)≤57:=by
         simp only [isD,decide_eq_true_eq] at hdg;rw [hat];omega
        obtain ⟨g1,g2⟩:=hr
        have Hdg:=Lib.hid hdg
        clear hat hdg
        go_wp2
        have hall:=Hall.out
        go_round
        case rel=>exact ⟨k+1,by omega,by omega,by go_num,fun t h1 h2=>by
         by_cases e:t=k
         ·rw [e];exact Hdg.out
         ·exact hall t h1 (by omega)⟩
        case measure=>simp [intOf];omega
       ·have Hsc:=Lib.hid (Hscan.out k hgk hk Hall.out (Or.inr (by simpa using hdg)))
        by_cases hlo:48≤s[k].toNat
        ·have g1:(48:Int)≤(s[k].toNat:Int):=by omega
         have g2:¬ (s[k].toNat:Int)≤57:=by
          simp only [isD,decide_eq_true_eq] at hdg;rw [hat] at hlo ⊢;omega
         clear hat hdg hlo
         go_wp2
         go_ret2
         refine ⟨?_,rfl⟩
         rw [Hsc.out]
         have ed:decide ((1:Int)<((k:Nat):Int))=decide (1<k):=by rw [decide_eq_decide];omega
         first | (show Ending.returned (.tuple #[.int .i64 ((k:Nat):Int),.bool (decide ((1:Int)<((k:Nat):Int)))])=.returned (.tuple #[.int .i64 ((k:Nat):Int),.bool (decide (1<k))]);rw [ed]) | rfl
        ·have g1:¬ (48:Int)≤(s[k].toNat:Int):=by omega
         clear hat hdg hlo
         go_wp2
         go_ret2
         refine ⟨?_,rfl⟩
         rw [Hsc.out]
         have ed:decide ((1:Int)<((k:Nat):Int))=decide (1<k):=by rw [decide_eq_decide];omega
         first | (show Ending.returned (.tuple #[.int .i64 ((k:Nat):Int),.bool (decide ((1:Int)<((k:Nat):Int)))])=.returned (.tuple #[.int .i64 ((k:Nat):Int),.bool (decide (1<k))]);rw [ed]) | rfl
      ·obtain rfl:k=s.size:=by omega
       have Hsc:=Lib.hid (Hscan.out _ hgk hk Hall.out (Or.inl (bs_length s).symm))
       have ik:¬ (s.size:Int)<(s.size:Int):=by omega
       go_wp2
       go_ret2
       refine ⟨?_,rfl⟩
       rw [Hsc.out]
       have ed:decide ((1:Int)<((s.size:Nat):Int))=decide (1<s.size):=by rw [decide_eq_decide];omega
       first | (show Ending.returned (.tuple #[.int .i64 ((s.size:Nat):Int),.bool (decide ((1:Int)<((s.size:Nat):Int)))])=.returned (.tuple #[.int .i64 ((s.size:Nat):Int),.bool (decide (1<s.size))]);rw [ed]) | (rw [decide_eq_true (by omega)];rfl)
    ·have i1:(1:Int)<(s.size:Int):=by omega
     go_enter Tryz.func51,Tryz.ntmps51
     go_wp2
     go_loop [9] (fun i=>∃ k:Nat,1≤k∧k≤s.size∧i=.int .i64 k∧∀ t,1≤t→t<k→isD ((bs s).getD t 0)=true) (fun i=>s.size-(intOf i).toNat)
     case atStart=>exact ⟨1,Nat.le_refl _,by omega,rfl,fun t h1 h2=>by omega⟩
     case round =>
      obtain ⟨k,hgk,hk,rfl,hall⟩:=hrel
      have Hall:=Lib.hid hall
      clear hall
      by_cases hlt:k<s.size
      ·have hat:=bs_at s k hlt
       have ik:(k:Int)<(s.size:Int):=by omega
       by_cases hdg:isD ((bs s).getD k 0)=true
       ·have hr:(48:Int)≤(s[k].toNat:Int)∧(s[k].toNat:Int)≤57:=by
         simp only [isD,decide_eq_true_eq] at hdg;rw [hat];omega
        obtain ⟨g1,g2⟩:=hr
        have Hdg:=Lib.hid hdg
        clear hat hdg
        go_wp2
        have hall:=Hall.out
        go_round
        case rel=>exact ⟨k+1,by omega,by omega,by go_num,fun t h1 h2=>by
         by_cases e:t=k
         ·rw [e];exact Hdg.out
         ·exact hall t h1 (by omega)⟩
        case measure=>simp [intOf];omega
       ·have Hsc:=Lib.hid (Hscan.out k hgk hk Hall.out (Or.inr (by simpa using hdg)))
        by_cases hlo:48≤s[k].toNat
        ·have g1:(48:Int)≤(s[k].toNat:Int):=by omega
         have g2:¬ (s[k].toNat:Int)≤57:=by
          simp only [isD,decide_eq_true_eq] at hdg;rw [hat] at hlo ⊢;omega
         clear hat hdg hlo
         go_wp2
         go_ret2
         refine ⟨?_,rfl⟩
         rw [Hsc.out]
         have ed:decide ((1:Int)<((k:Nat):Int))=decide (1<k):=by rw [decide_eq_decide];omega
         first | (show Ending.returned (.tuple #[.int .i64 ((k:Nat):Int),.bool (decide ((1:Int)<((k:Nat):Int)))])=.returned (.tuple #[.int .i64 ((k:Nat):Int),.bool (decide (1<k))]);rw [ed]) | rfl
        ·have g1:¬ (48:Int)≤(s[k].toNat:Int):=by omega
         clear hat hdg hlo
         go_wp2
         go_ret2
         refine ⟨?_,rfl⟩
         rw [Hsc.out]
         have ed:decide ((1:Int)<((k:Nat):Int))=decide (1<k):=by rw [decide_eq_decide];omega
         first | (show Ending.returned (.tuple #[.int .i64 ((k:Nat):Int),.bool (decide ((1:Int)<((k:Nat):Int)))])=.returned (.tuple #[.int .i64 ((k:Nat):Int),.bool (decide (1<k))]);rw [ed]) | rfl
      ·obtain rfl:k=s.size:=by omega
       have Hsc:=Lib.hid (Hscan.out _ hgk hk Hall.out (Or.inl (bs_length s).symm))
       have ik:¬ (s.size:Int)<(s.size:Int):=by omega
       go_wp2
       go_ret2
       refine ⟨?_,rfl⟩
       rw [Hsc.out]
       have ed:decide ((1:Int)<((s.size:Nat):Int))=decide (1<s.size):=by rw [decide_eq_decide];omega
       first | (show Ending.returned (.tuple #[.int .i64 ((s.size:Nat):Int),.bool (decide ((1:Int)<((s.size:Nat):Int)))])=.returned (.tuple #[.int .i64 ((s.size:Nat):Int),.bool (decide (1<s.size))]);rw [ed]) | (rw [decide_eq_true (by omega)];rfl)
  ·have hb:((s[0].toNat:Int) == 45)=false:=by rw [beq_eq_false_iff_ne,hat];omega
   have hsg:sgl (bs s)=0:=by unfold sgl;rw [if_neg h45]
   by_cases h48:(bs s).getD 0 0=48
   ·have hb1:((s[0].toNat:Int) == 48)=true:=by rw [beq_iff_eq,hat];omega
    have hsc:=scan_nought (bs s) (by omega) h48
    rw [hsc]
    clear hat h45 h48 hsc hsg hlen
    go_enter Tryz.func51,Tryz.ntmps51
    go_wp2
    go_ret2
    exact ⟨rfl,rfl⟩
   ·have hb1:((s[0].toNat:Int) == 48)=false:=by rw [beq_eq_false_iff_ne,hat];omega
    have Hscan:Hid (∀ k,0≤k→k≤s.size→(∀ t,0≤t→t<k→isD ((bs s).getD t 0)=true)→(k=(bs s).length∨isD ((bs s).getD k 0)=false)→scanN (bs s)=(k,decide (0<k))):=by
     intro k q1 q2 q3 q4
     have:=scan_digits (bs s) k (by rw [hsg];exact q1) (by rw [hlen];exact q2) (by rw [hsg];exact fun h=>h48 h.2) (by rw [hsg];exact q3) q4
     rwa [hsg] at this
    clear hat h45 h48 hsg hlen
    go_enter Tryz.func51,Tryz.ntmps51
    go_wp2
    go_loop [9] (fun i=>∃ k:Nat,0≤k∧k≤s.size∧i=.int .i64 k∧∀ t,0≤t→t<k→isD ((bs s).getD t 0)=true) (fun i=>s.size-(intOf i).toNat)
    case atStart=>exact ⟨0,Nat.le_refl _,by omega,rfl,fun t h1 h2=>by omega⟩
    case round =>
     obtain ⟨k,hgk,hk,rfl,hall⟩:=hrel
     have Hall:=Lib.hid hall
     clear hall
     by_cases hlt:k<s.size
     ·have hat:=bs_at s k hlt
      have ik:(k:Int)<(s.size:Int):=by omega
      by_cases hdg:isD ((bs s).getD k 0)=true
      ·have hr:(48:Int)≤(s[k].toNat:Int)∧(s[k].toNat:Int)≤57:=by
        simp only [isD,decide_eq_true_eq] at hdg;rw [hat];omega
       obtain ⟨g1,g2⟩:=hr
       have Hdg:=Lib.hid hdg
       clear hat hdg
       go_wp2
       have hall:=Hall.out
       go_round
       case rel=>exact ⟨k+1,by omega,by omega,by go_num,fun t h1 h2=>by
        by_cases e:t=k
        ·rw [e];exact Hdg.out
        ·exact hall t h1 (by omega)⟩
       case measure=>simp [intOf];omega
      ·have Hsc:=Lib.hid (Hscan.out k hgk hk Hall.out (Or.inr (by simpa using hdg)))
       by_cases hlo:48≤s[k].toNat
       ·have g1:(48:Int)≤(s[k].toNat:Int):=by omega
        have g2:¬ (s[k].toNat:Int)≤57:=by
         simp only [isD,decide_eq_true_eq] at hdg;rw [hat] at hlo ⊢;omega
        clear hat hdg hlo
        go_wp2
        go_ret2
        refine ⟨?_,rfl⟩
        rw [Hsc.out]
        have ed:decide ((0:Int)<((k:Nat):Int))=decide (0<k):=by rw [decide_eq_decide];omega
        first | (show Ending.returned (.tuple #[.int .i64 ((k:Nat):Int),.bool (decide ((0:Int)<((k:Nat):Int)))])=.returned (.tuple #[.int .i64 ((k:Nat):Int),.bool (decide (0<k))]);rw [ed]) | rfl
       ·have g1:¬ (48:Int)≤(s[k].toNat:Int):=by omega
        clear hat hdg hlo
        go_wp2
        go_ret2
        refine ⟨?_,rfl⟩
        rw [Hsc.out]
        have ed:decide ((0:Int)<((k:Nat):Int))=decide (0<k):=by rw [decide_eq_decide];omega
        first | (show Ending.returned (.tuple #[.int .i64 ((k:Nat):Int),.bool (decide ((0:Int)<((k:Nat):Int)))])=.returned (.tuple #[.int .i64 ((k:Nat):Int),.bool (decide (0<k))]);rw [ed]) | rfl
     ·obtain rfl:k=s.size:=by omega
      have Hsc:=Lib.hid (Hscan.out _ hgk hk Hall.out (Or.inl (bs_length s).symm))
      have ik:¬ (s.size:Int)<(s.size:Int):=by omega
      go_wp2
      go_ret2
      refine ⟨?_,rfl⟩
      rw [Hsc.out]
      have ed:decide ((0:Int)<((s.size:Nat):Int))=decide (0<s.size):=by rw [decide_eq_decide];omega
      first | (show Ending.returned (.tuple #[.int .i64 ((s.size:Nat):Int),.bool (decide ((0:Int)<((s.size:Nat):Int)))])=.returned (.tuple #[.int .i64 ((s.size:Nat):Int),.bool (decide (0<s.size))]);rw [ed]) | (rw [decide_eq_true (by omega)];rfl)
end Go.Proofs.YtiicfpdiehgikaaGreatDoor
