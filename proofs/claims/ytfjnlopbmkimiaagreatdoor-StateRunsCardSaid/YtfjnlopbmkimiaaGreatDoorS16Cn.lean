/-
  The basis states in which some qubits are fixed, as a list; what a gate does state by state, and what comes of it. Nothing of the program stands here. A shot in plain numbers: a circuit's operations on a state, the bits it measures, the outcomes it takes. Nothing of the program stands here. Copies: of a list, of an operation. The first fault of an operation, as the reference finds it. What an operation touches, as the reference lists it. The first fault of an operation, as the program finds it. Levels: what both sides reckon, as one function of the places that each operation touches; the two numberings of places come to the same.
-/
import Derived.Test.YtfjnlopbmkimiaaGreatDoorS15Xoq
namespace Go.Proofs.YtfjnlopbmkimiaaGreatDoor
set_option maxRecDepth 100000
set_option maxHeartbeats 8000000
open Go.RowKit
def stL (o f m:Nat):List Nat:=(List.range m).filter fun x=>x &&& f == o
theorem stL_mem {o f m x:Nat}:x ∈ stL o f m↔x<m/\x &&& f=o:=by
 unfold stL;rw [List.mem_filter,List.mem_range]
 simp
theorem stL_nodup (o f m:Nat):(stL o f m).Nodup:=List.Pairwise.filter _ List.nodup_range
theorem stL_zero (o f:Nat):stL o f 0=[]:=rfl
theorem stL_succ (o f m:Nat):stL o f (m+1)=stL o f m++(if m &&& f=o then [m] else []):=by
 unfold stL;rw [List.range_succ,List.filter_append]
 congr 1
 by_cases h:m &&& f=o
 ·rw [if_pos h,List.filter_cons];simp [h]
 ·rw [if_neg h,List.filter_cons];simp [h]
theorem stL_gap {o f a:Nat} (d:Nat) (h:∀ x,a<=x->x<a+d->x &&& f≠o):stL o f (a+d)=stL o f a:=by
 induction d with
 | zero=>rfl
 | succ d ih =>
  rw [<-Nat.add_assoc,stL_succ,if_neg (h _ (by omega) (by omega)),List.append_nil];exact ih (fun x h1 h2=>h x h1 (by omega))
theorem stL_first {o f:Nat}:stL o f o=[]:=by
 have:=stL_gap (o:=o) (f:=f) (a:=0) o (fun x _ hx e=>by have:=first_least e;omega);rw [Nat.zero_add] at this;rw [this,stL_zero]
theorem stL_next {o f y:Nat} (ho:o &&& f=o) (hy:y &&& f=o) {m:Nat} (h1:y<m) (h2:m<=nxt o f y):stL o f m=stL o f y++[y]:=by
 obtain ⟨d,rfl⟩:∃ d,m=y+1+d:=⟨m-(y+1),by omega⟩;rw [stL_gap d (fun x a b e=>by have:=nxt_least ho hy e (by omega);omega),stL_succ,if_pos hy]
theorem stL_len (o f m:Nat):(stL o f m).length<=m:=by
 unfold stL;refine Nat.le_trans (List.length_filter_le _ _) ?_;rw [List.length_range];exact Nat.le_refl _
def up1 (s:Nat->Nm) (x:Nat) (z:Nm):Nat->Nm:=fun y=>if y=x then z else s y
def up2 (s:Nat->Nm) (x:Nat) (z:Nm) (x':Nat) (z':Nm):Nat->Nm:=fun y=>if y=x then z else if y=x' then z' else s y
theorem up2_eq (s:Nat->Nm) (x x':Nat) (z z':Nm) (h:x≠x'):up2 s x z x' z'=up1 (up1 s x z) x' z':=by
 funext y
 unfold up2 up1
 by_cases e:y=x
 ·subst e;rw [if_pos rfl,if_neg h,if_pos rfl]
 ·rw [if_neg e,if_neg e]
theorem fold1 (F:Nm->Nm):∀ (xs:List Nat),xs.Nodup->∀ (s:Nat->Nm) (y:Nat),xs.foldl (fun s x=>up1 s x (F (s x))) s y=if y ∈ xs then F (s y) else s y:=by
 intro xs
 induction xs with
 | nil=>intro _ s y;simp
 | cons x r ih =>
  intro hn s y;obtain ⟨h1,h2⟩:=List.nodup_cons.1 hn;rw [List.foldl_cons,ih h2]
  by_cases e:y=x
  ·subst e
   rw [if_neg h1,if_pos (by simp)];unfold up1;rw [if_pos rfl]
  ·have e1:up1 s x (F (s x)) y=s y:=by unfold up1;rw [if_neg e]
   rw [e1]
   by_cases g:y ∈ r
   ·rw [if_pos g,if_pos (by simp [g])]
   ·rw [if_neg g,if_neg (by simp [g,e])]
theorem fold2 (F G:Nm->Nm->Nm) (p:Nat->Nat):∀ (xs:List Nat),xs.Nodup->(∀ x ∈ xs,∀ x' ∈ xs,x≠p x')->(∀ x ∈ xs,∀ x' ∈ xs,p x=p x'->x=x')->∀ (s:Nat->Nm),
  (∀ y ∈ xs,xs.foldl (fun s x=>up2 s x (F (s x) (s (p x))) (p x) (G (s x) (s (p x)))) s y=F (s y) (s (p y))) /\
  (∀ y ∈ xs,xs.foldl (fun s x=>up2 s x (F (s x) (s (p x))) (p x) (G (s x) (s (p x)))) s (p y)=G (s y) (s (p y))) /\
  (∀ y,y ∉ xs->(∀ x ∈ xs,y≠p x)->xs.foldl (fun s x=>up2 s x (F (s x) (s (p x))) (p x) (G (s x) (s (p x)))) s y=s y):=by
 intro xs
 induction xs with
 | nil=>intro _ _ _ s;simp
 | cons x r ih =>
  intro hn hd hi s;obtain ⟨h1,h2⟩:=List.nodup_cons.1 hn;obtain ⟨i1,i2,i3⟩:=ih h2 (fun a ha b hb=>hd a (by simp [ha]) b (by simp [hb])) (fun a ha b hb=>hi a (by simp [ha]) b (by simp [hb])) (up2 s x (F (s x) (s (p x))) (p x) (G (s x) (s (p x))));have hxp:x≠p x:=hd x (by simp) x (by simp)
  have same:∀ y,y≠x->y≠p x->up2 s x (F (s x) (s (p x))) (p x) (G (s x) (s (p x))) y=s y:=fun y a b=>by unfold up2;rw [if_neg a,if_neg b]
  have kr:∀ y ∈ r,up2 s x (F (s x) (s (p x))) (p x) (G (s x) (s (p x))) y=s y/\up2 s x (F (s x) (s (p x))) (p x) (G (s x) (s (p x))) (p y)=s (p y):=fun y hy=>by
   have n1:y≠x:=fun e=>h1 (e ▸ hy)
   exact ⟨same y n1 (hd y (by simp [hy]) x (by simp)),same (p y) (fun e=>hd x (by simp) y (by simp [hy]) e.symm) (fun e=>n1 (hi y (by simp [hy]) x (by simp) e))⟩
  have px:∀ z ∈ r,p x≠p z:=fun z hz e=>h1 ((hi x (by simp) z (by simp [hz]) e) ▸ hz)
  have pxn:p x ∉ r:=fun hm=>hd (p x) (by simp [hm]) x (by simp) rfl
  refine ⟨fun y hy=>?_,fun y hy=>?_,fun y hy hp=>?_⟩
  ·rw [List.foldl_cons]
   rcases List.mem_cons.1 hy with rfl | hy
   ·rw [i3 y h1 (fun z hz=>hd y (by simp) z (by simp [hz]))]
    unfold up2;rw [if_pos rfl]
   ·rw [i1 y hy,(kr y hy).1,(kr y hy).2]
  ·rw [List.foldl_cons]
   rcases List.mem_cons.1 hy with rfl | hy
   ·rw [i3 (p y) pxn px]
    unfold up2;rw [if_neg (fun e=>hxp e.symm),if_pos rfl]
   ·rw [i2 y hy,(kr y hy).1,(kr y hy).2]
  ·rw [List.foldl_cons,i3 y (fun h=>hy (by simp [h])) (fun z hz=>hp z (by simp [hz]))]
   exact same y (fun e=>hy (by simp [e])) (hp x (by simp))
def xOp (q:Int):Gop:=⟨2,0,[],q,0,[]⟩
structure Sho where
 f:Int × Int
 s:Nat->Nm
 bits:List Int
 u:Nat
noncomputable def plM (want:List Int):List Gop->Nat->(Nat->Nm)->List Int->Nat->Sho
 | [],_,s,bits,u=>⟨(0,0),s,bits,u⟩
 | o :: r,i,s,bits,u =>
  if cnM bits o.cnd=false then plM want r (i+1) s bits u
  else if o.kind<5 then plM want r (i+1) (gt o s) bits u
  else if u=want.length then ⟨(19,(i:Int)),s,bits,u⟩
  else if want.getD u 0≠0/\want.getD u 0≠1 then ⟨(20,(i:Int)),s,bits,u⟩
  else if o.kind=5 then plM want r (i+1) (oc o.q (want.getD u 0) s) (bits.set o.bit.toNat (want.getD u 0)) (u+1)
  else if want.getD u 0=1 then plM want r (i+1) (gt (xOp o.q) (oc o.q (want.getD u 0) s)) bits (u+1)
  else plM want r (i+1) (oc o.q (want.getD u 0) s) bits (u+1)
section
variable {want:List Int} {o:Gop} {r:List Gop} {i:Nat} {s:Nat->Nm} {bits:List Int} {u:Nat}
theorem plM_skip (h:cnM bits o.cnd=false):plM want (o :: r) i s bits u=plM want r (i+1) s bits u:=by rw [plM,if_pos h]
theorem plM_gate (h:cnM bits o.cnd=true) (hk:o.kind<5):plM want (o :: r) i s bits u=plM want r (i+1) (gt o s) bits u:=by rw [plM,if_neg (by rw [h];decide),if_pos hk]
theorem plM_out (h:cnM bits o.cnd=true) (hk:¬ o.kind<5) (hu:u=want.length):plM want (o :: r) i s bits u=⟨(19,(i:Int)),s,bits,u⟩:=by rw [plM,if_neg (by rw [h];decide),if_neg hk,if_pos hu]
theorem plM_bad (h:cnM bits o.cnd=true) (hk:¬ o.kind<5) (hu:¬ u=want.length) {v:Int} (hv:want.getD u 0=v) (hb:v≠0/\v≠1):plM want (o :: r) i s bits u=⟨(20,(i:Int)),s,bits,u⟩:=by
 rw [plM,if_neg (by rw [h];decide),if_neg hk,if_neg hu,hv,if_pos hb]
theorem plM_bit (h:cnM bits o.cnd=true) (hk:o.kind=5) (hu:¬ u=want.length) {v:Int} (hv:want.getD u 0=v) (hb:v=0\/v=1):plM want (o :: r) i s bits u=plM want r (i+1) (oc o.q v s) (bits.set o.bit.toNat v) (u+1):=by
 rw [plM,if_neg (by rw [h];decide),if_neg (by omega),if_neg hu,hv,if_neg (by omega),if_pos hk]
theorem plM_one (h:cnM bits o.cnd=true) (hk:¬ o.kind<5) (h5:o.kind≠5) (hu:¬ u=want.length) (hv:want.getD u 0=1):plM want (o :: r) i s bits u=plM want r (i+1) (gt (xOp o.q) (oc o.q 1 s)) bits (u+1):=by
 rw [plM,if_neg (by rw [h];decide),if_neg hk,if_neg hu,hv,if_neg (by omega),if_neg h5,if_pos rfl]
theorem plM_nought (h:cnM bits o.cnd=true) (hk:¬ o.kind<5) (h5:o.kind≠5) (hu:¬ u=want.length) (hv:want.getD u 0=0):plM want (o :: r) i s bits u=plM want r (i+1) (oc o.q 0 s) bits (u+1):=by
 rw [plM,if_neg (by rw [h];decide),if_neg hk,if_neg hu,hv,if_neg (by omega),if_neg h5,if_neg (by decide)]
end
theorem plM_bits (want:List Int):∀ (ops:List Gop) (i:Nat) (s:Nat->Nm) (bits:List Int) (u:Nat),(plM want ops i s bits u).bits.length=bits.length
 | [],_,_,_,_=>rfl
 | o :: r,i,s,bits,u=>by
  rw [plM]
  split
  ·exact plM_bits want r _ _ _ _
  ·split
   ·exact plM_bits want r _ _ _ _
   ·split
    ·rfl
    ·split
     ·rfl
     ·split
      ·rw [plM_bits want r];simp
      ·split
       ·exact plM_bits want r _ _ _ _
       ·exact plM_bits want r _ _ _ _
theorem i_info:(Tryz.prog.info? 3).map (fun i=>(i.zero,i.size,i.bytes))=some (some (.int .i64 0),1,8):=by kernel_rfl
def iC (l:List Int):List Value:=l.map fun x=>Value.int .i64 x
theorem iC_length (l:List Int):(iC l).length=l.length:=by simp [iC]
theorem iC_snoc (l:List Int) (x:Int):iC (l++[x])=iC l++[.int .i64 x]:=by simp [iC]
theorem grown_ext {w a b:World} {row:Option Nat} (h:Ext w a) (hg:a.grownBy b row) (hr:∀ k,row=some k->w.heap.size<=k):Ext w b:=Below.grown h hg h.size hr
def TyI (w:World) (a:Option Addr):Prop:=∀ ad,a=some ad->∃ (cur:Array Value) (fr:Nat × Nat),w.heap[ad.block]?=some (.cells cur 3 fr)
theorem TyI.keep {w w':World} {a:Option Addr} (h:TyI w a) (hk:∀ (b:Nat) (cur:Array Value) (fr:Nat × Nat),w.heap[b]?=some (.cells cur 3 fr)->w'.heap[b]?=w.heap[b]?):TyI w' a:=by
 intro ad e;obtain ⟨cur,fr,h1⟩:=h ad e;exact ⟨cur,fr,(hk _ _ _ h1).trans h1⟩
theorem TyI.ext {w w':World} {a:Option Addr} (h:TyI w a) (k:Ext w w'):TyI w' a:=h.keep fun b _ _ e=>k.block b (gS.1 e).1
theorem IntsAt.keep {w w':World} {ao:Option Addr} {n:Nat} {l:List Int} (h:IntsAt w ao n l) (ht:TyI w ao) (hs:w.heap.size<=w'.heap.size) (hk:∀ (b:Nat) (cur:Array Value) (fr:Nat × Nat),w.heap[b]?=some (.cells cur 3 fr)->w'.heap[b]?=w.heap[b]?):IntsAt w' ao n l:=by
 refine ⟨h.1,?_⟩
 rcases h.2 with h0 | ⟨b,o,rfl,hb,hc⟩
 ·exact Or.inl h0
 ·obtain ⟨cur,fr,e⟩:=ht _ rfl
  have hblk:w'.heap[b]?=w.heap[b]?:=hk b cur fr e;exact Or.inr ⟨b,o,rfl,Nat.lt_of_lt_of_le hb hs,fun t ht=>(World.cell?_of_block (a:=⟨b,o+t,none⟩) hblk).trans (hc t ht)⟩
theorem ints_of_own {w:World} {base n:Nat} {v:Value} {l:List Int} (h:w.ownsRow base 3 1 v n (iC l)):∃ (a:Option Addr) (c:Nat),v=.slice a n c/\n<=c/\c<=maxLen/\IntsAt w a n l/\TyI w a:=by
 have hl:l.length=n:=by have:=h.1;simpa [iC] using this
 rcases h.2 with ⟨rfl,rfl⟩ | ⟨g,cap,cur,rfl,_,hg,hnc,hcm,_,htk⟩
 ·exact ⟨none,0,rfl,Nat.le_refl _,Nat.zero_le _,⟨hl,Or.inl rfl⟩,fun ad e=>by cases e⟩
 ·refine ⟨some ⟨g,0,none⟩,cap,rfl,hnc,hcm,⟨hl,Or.inr ⟨g,0,rfl,(gS.1 hg).1,fun t ht=>?_⟩⟩,fun ad e=>by cases e;exact ⟨cur,(0,0),hg⟩⟩
  rw [cell_of_row w g (0+t) cur _ (0,0) hg,Nat.zero_add]
  have h1:(iC l)[t]?=cur.toList[t]?:=by
   rw [<-htk,List.getElem?_take,if_pos (by omega)]
  rw [<-Array.getElem?_toList,<-h1];simp only [iC,List.getElem?_map,List.getD_eq_getElem?_getD];rw [List.getElem?_eq_getElem (by omega)]
  rfl
theorem new_i (w:World) (x:Int) (e:TypeId):∀ j u,([Value.int .i64 x]:List Value)[j]?=some u->(w.alloc (.cells #[.int .i64 x] e)).cell? ((⟨w.heap.size,0,none⟩:Addr).add j)=some u:=by
 intro j u hu
 have hadd:(⟨w.heap.size,0,none⟩:Addr).add j=⟨w.heap.size,j,none⟩:=by unfold Addr.add;split<;>simp_all
 rw [hadd,cell_of_row _ _ j _ _ (0,0) (heap_alloc_new w _)]
 match j,hu with
 | 0,hu=>simpa using hu
 | k+1,hu=>simp at hu
theorem one_i (x:Int):∀ u ∈ ([Value.int .i64 x]:List Value),u.oneCell'=true:=by
 intro u hu;simp only [List.mem_singleton] at hu;subst hu
 rfl
theorem own_lt {w:World} {base n size:Nat} {v:Value} {xs:List Value} {e:TypeId} (h:w.ownsRow base e size v n xs):∀ k,v.ownBlock=some k->base<=k/\k<w.heap.size:=by
 intro k hk
 rcases h.2 with ⟨rfl,_⟩ | ⟨g,cap,cur,rfl,hb,hg,_⟩
 ·simp [Value.ownBlock] at hk
 ·simp [Value.ownBlock] at hk
  subst hk;exact ⟨hb,(gS.1 hg).1⟩
theorem copyInts_any (ao:Option Addr) (n c:Nat) (l:List Int) (w:World) (h:IntsAt w ao n l) (hb:n*8<=140737488355328) :
  Calls Tryz.prog 49 #[.slice ao n c] w fun e w'=>(∃ (a':Option Addr) (c':Nat),e=.returned (.slice a' n c')/\n<=c'/\c'<=maxLen/\IntsAt w' a' n l/\TyI w' a')/\Ext w w':=by
 obtain ⟨i0,hi,hz0,hz1,hz2⟩:=info_parts i_info;have Hl:=Lh h.1;have H:=Lh h;clear h
 go_enter Tryz.func49,Tryz.ntmps49
 go_wp2_with fail
 go_loopg [3,4] n (fun k s3 s4 wr=>Ext w wr/\∃ i:Nat,s4=.int .i64 (i:Int)/\i<=n/\n-i=k/\wr.ownsRow w.heap.size 3 1 s3 i (iC (l.take i)))
 case atStart=>exact ⟨Ext.refl _,0,rfl,by omega,by omega,⟨rfl,Or.inl ⟨rfl,rfl⟩⟩⟩
 case round =>
  obtain ⟨hER,i,rfl,hi',hk,hown⟩:=hrel;have HER:=Lh hER;have Hown:=Lh hown;clear hER hown
  by_cases hin:i=n
  ·have h2:¬ (i:Int)<(n:Int):=by omega
   have ho:=Hown.out;rw [List.take_of_length_le (by rw [Hl.out];omega),hin] at ho;obtain ⟨a',c',e,e1,e2,e3,e4⟩:=ints_of_own ho;subst e;have HI:=Lh e3;have HT:=Lh e4;have He1:=Lh e1;have He2:=Lh e2;clear ho e1 e2 e3 e4 Hown
   go_wp2_with fail
   go_ret
   exact ⟨⟨a',c',rfl,He1.out,He2.out,HI.out,HT.out⟩,HER.out⟩
  ·have h2:(i:Int)<(n:Int):=by omega
   have h0:(0:Int)<=(i:Int):=by omega
   obtain ⟨b,o,rfl,hbl,hcell⟩:=(H.out.ext HER.out).at (by omega);have hci:=hcell i (by omega);obtain ⟨y,hy⟩:∃ y,l.getD i 0=y:=⟨_,rfl⟩;rw [hy] at hci
   have hst:iC (l.take (i+1))=iC (l.take i)++[.int .i64 y]:=by
    rw [<-hy,List.take_add_one,List.getElem?_eq_getElem (by rw [Hl.out];omega),<-iC_snoc,List.getD_eq_getElem?_getD,List.getElem?_eq_getElem (by rw [Hl.out];omega)]
    rfl
   have Hst:=Lh hst;clear hcell hy hst hbl
   go_wp2_with (at_builtin;refine wpList_append_own _ rfl _ _ 25 rfl w.heap.size 3 i0 (.int .i64 0) 1 8 Tryz.underlying25 hi hz0 hz1 hz2 rfl (by decide) _ i (iC (l.take i)) rfl (Hown.out.alloc _) ⟨wr.heap.size,0,none⟩ 1 1 [.int .i64 y] rfl rfl (new_i wr y _) (one_i y) (by unfold maxLen;omega) (by omega) (Nat.le_trans HER.out.size (ext_al wr _).size) ?_;intro v' w7 hown' hgrow' _)
   go_roundg (n-(i+1))
   case measure=>omega
   case rel=>exact ⟨grown_ext (HER.out.trans (ext_al wr _)) hgrow' (fun k hk=>(own_lt Hown.out k hk).1),i+1,by go_num,by omega,rfl,by rw [Hst.out];exact hown'⟩
theorem put6 {w W:World} {g:Nat} (h:Ext w W) (hg:w.heap.size<=g) (u0 u1 u2 u3 u4 u5:Value):Ext w ((((((W.setCell ⟨g,0,none⟩ u0).setCell ⟨g,1,none⟩ u1).setCell ⟨g,2,none⟩ u2).setCell ⟨g,3,none⟩ u3).setCell ⟨g,4,none⟩ u4).setCell ⟨g,5,none⟩ u5) :=
 Below.setCell (Below.setCell (Below.setCell (Below.setCell (Below.setCell (Below.setCell h (p:=⟨g,0,none⟩) hg _) (p:=⟨g,1,none⟩) hg _) (p:=⟨g,2,none⟩) hg _) (p:=⟨g,3,none⟩) hg _) (p:=⟨g,4,none⟩) hg _) (p:=⟨g,5,none⟩) hg _
structure OpO (w:World) (o:Gop) (a1:Option Addr) (n1 c1:Nat) (a2:Option Addr) (n2 c2:Nat):Prop where
 l:OpL w o a1 n1 c1 a2 n2 c2
 t1:TyI w a1
 t2:TyI w a2
section
variable {w w':World} {o:Gop} {a1:Option Addr} {n1 c1:Nat} {a2:Option Addr} {n2 c2:Nat}
theorem OpO.ext (h:OpO w o a1 n1 c1 a2 n2 c2) (k:Ext w w'):OpO w' o a1 n1 c1 a2 n2 c2:=⟨h.l.ext k,h.t1.ext k,h.t2.ext k⟩
theorem OpO.keep (h:OpO w o a1 n1 c1 a2 n2 c2) (hs:w.heap.size<=w'.heap.size) (hk:∀ (b:Nat) (cur:Array Value) (fr:Nat × Nat),w.heap[b]?=some (.cells cur 3 fr)->w'.heap[b]?=w.heap[b]?):OpO w' o a1 n1 c1 a2 n2 c2 :=
 ⟨⟨h.l.i1.keep h.t1 hs hk,h.l.h1,h.l.m1,h.l.i2.keep h.t2 hs hk,h.l.h2,h.l.m2⟩,h.t1.keep hk,h.t2.keep hk⟩
end
theorem only_ints {w w':World} {g:Nat} {cs:Array Value} {T:TypeId} {fr:Nat × Nat} (hg:w.heap[g]?=some (.cells cs T fr)) (hT:T≠3) (hO:Only g w w'):∀ (b:Nat) (cur:Array Value) (fr:Nat × Nat),w.heap[b]?=some (.cells cur 3 fr)->w'.heap[b]?=w.heap[b]?:=by
 intro b cur fr' hb;refine hO.block b (fun e=>?_);rw [e,hg] at hb
 cases hb
 exact hT rfl
theorem only1 (w:World) (g o:Nat) (u:Value):Only g w (w.setCell ⟨g,o,none⟩ u):=(Only.refl _ _).setCell _ _
theorem onl6 (w:World) (g:Nat) (u0 u1 u2 u3 u4 u5:Value):Only g w ((((((w.setCell ⟨g,0,none⟩ u0).setCell ⟨g,1,none⟩ u1).setCell ⟨g,2,none⟩ u2).setCell ⟨g,3,none⟩ u3).setCell ⟨g,4,none⟩ u4).setCell ⟨g,5,none⟩ u5):=((((((Only.refl _ _).setCell _ _).setCell _ _).setCell _ _).setCell _ _).setCell _ _).setCell _ _
theorem OpBx.set2 {W:World} {g:Nat} {k0 k1:Int} {a1:Option Addr} {n1 c1:Nat} {k3 k4:Int} {a2:Option Addr} {n2 c2:Nat} (h:OpBx W g k0 k1 a1 n1 c1 k3 k4 a2 n2 c2) (a:Option Addr) (n c:Nat):OpBx (W.setCell ⟨g,2,none⟩ (.slice a n c)) g k0 k1 a n c k3 k4 a2 n2 c2:=⟨heap_setCell_same W g 2 _ _ (.slice a n c) h.row⟩
theorem OpBx.set5 {W:World} {g:Nat} {k0 k1:Int} {a1:Option Addr} {n1 c1:Nat} {k3 k4:Int} {a2:Option Addr} {n2 c2:Nat} (h:OpBx W g k0 k1 a1 n1 c1 k3 k4 a2 n2 c2) (a:Option Addr) (n c:Nat):OpBx (W.setCell ⟨g,5,none⟩ (.slice a n c)) g k0 k1 a1 n1 c1 k3 k4 a n c:=⟨heap_setCell_same W g 5 _ _ (.slice a n c) h.row⟩
theorem copyOp_any (o:Gop) (a1:Option Addr) (n1 c1:Nat) (a2:Option Addr) (n2 c2:Nat) (w:World) (h:OpL w o a1 n1 c1 a2 n2 c2) (hb1:n1*8<=140737488355328) (hb2:n2*8<=140737488355328) :
  Calls Tryz.prog 22 #[.agg #[.int .i64 o.kind,.int .i64 o.k,.slice a1 n1 c1,.int .i64 o.q,.int .i64 o.bit,.slice a2 n2 c2]] w fun e w'=>(∃ (a1':Option Addr) (c1':Nat) (a2':Option Addr) (c2':Nat),e=.returned (.agg #[.int .i64 o.kind,.int .i64 o.k,.slice a1' n1 c1',.int .i64 o.q,.int .i64 o.bit,.slice a2' n2 c2'])/\OpO w' o a1' n1 c1' a2' n2 c2')/\Ext w w':=by
 obtain ⟨kd,k,ctl,q,bt,cnd⟩:=o;have E0:=(ext_al w (.cells #[.int .i64 kd,.int .i64 k,.slice a1 n1 c1,.int .i64 q,.int .i64 bt,.slice a2 n2 c2] 60)).trans (ext_al _ (.cells #[.int .i64 0,.int .i64 0,.slice none 0 0,.int .i64 0,.int .i64 0,.slice none 0 0] 60));have bx:=(opbx_new w kd k a1 n1 c1 q bt a2 n2 c2).ext (ext_al _ (.cells #[.int .i64 0,.int .i64 0,.slice none 0 0,.int .i64 0,.int .i64 0,.slice none 0 0] 60));have br:=opbx_new (w.alloc (.cells #[.int .i64 kd,.int .i64 k,.slice a1 n1 c1,.int .i64 q,.int .i64 bt,.slice a2 n2 c2] 60)) 0 0 none 0 0 0 0 none 0 0;rw [show (w.alloc (.cells #[.int .i64 kd,.int .i64 k,.slice a1 n1 c1,.int .i64 q,.int .i64 bt,.slice a2 n2 c2] 60)).heap.size=w.heap.size+1 from by simp] at br;have HE0:=Lh E0;have HL:=Lh (h.ext E0);have H0:=Lh h;have Hbx:=Lh bx;have Hbr:=Lh br;have m2:=bx.x2;simp only;clear h E0 bx br
 go_enter Tryz.func22,Tryz.ntmps22
 go_wp2_with fail
 generalize (w.alloc (.cells #[.int .i64 kd,.int .i64 k,.slice a1 n1 c1,.int .i64 q,.int .i64 bt,.slice a2 n2 c2] 60)).alloc (.cells #[.int .i64 0,.int .i64 0,.slice none 0 0,.int .i64 0,.int .i64 0,.slice none 0 0] 60)=W0 at *;clear m2;refine (copyInts_any a1 n1 c1 ctl W0 HL.out.i1 hb1).mono ?_;rintro e w1 ⟨⟨a3,c3,rfl,l3,m3,I3,T3⟩,hx1⟩;have b1:=Hbx.out.ext hx1;have y2:=b1.x2;have y5:=b1.x5;have f2:=b1.f 2;have b2:=b1.set2 a3 n1 c3;have hk1:=only_ints b1.row (by decide) (only1 w1 w.heap.size 2 (.slice a3 n1 c3));have I4:=I3.keep T3 (by simp) hk1;have T4:=T3.keep hk1;have HE1:=Lh (p:=Ext w _) (Below.setCell (HE0.out.trans hx1) (p:=⟨w.heap.size,2,none⟩) (Nat.le_refl _) (.slice a3 n1 c3));have br2:OpBx (w1.setCell ⟨w.heap.size,2,none⟩ (.slice a3 n1 c3)) (w.heap.size+1) 0 0 none 0 0 0 0 none 0 0:=⟨((only1 w1 w.heap.size 2 (.slice a3 n1 c3)).block _ (by omega)).trans (Hbr.out.ext hx1).row⟩;have J2:=H0.out.i2.ext HE1.out;have z5:=b2.x5;have Hb2:=Lh b2;have Hbr2:=Lh br2;have HI4:=Lh I4;have HT4:=Lh T4;have HJ2:=Lh J2;clear b1 b2 br2 I3 T3 I4 T4 J2 hk1 HL
 go_wp2_with fail
 generalize w1.setCell ⟨w.heap.size,2,none⟩ (.slice a3 n1 c3)=W2 at *;clear y2 y5 f2 z5;refine (copyInts_any a2 n2 c2 cnd W2 HJ2.out hb2).mono ?_;rintro e w3 ⟨⟨a5,c5,rfl,l5,m5,I5,T5⟩,hx3⟩;have b3:=Hb2.out.ext hx3;have y5:=b3.x5;have f5:=b3.f 5;have b4:=b3.set5 a5 n2 c5;have hk3:=only_ints b3.row (by decide) (only1 w3 w.heap.size 5 (.slice a5 n2 c5));have I6:=(HI4.out.ext hx3).keep (HT4.out.ext hx3) (by simp) hk3;have T6:=(HT4.out.ext hx3).keep hk3;have I7:=I5.keep T5 (by simp) hk3;have T7:=T5.keep hk3;have HE3:=Lh (p:=Ext w _) (Below.setCell (Ext.trans HE1.out hx3) (p:=⟨w.heap.size,5,none⟩) (Nat.le_refl _) (.slice a5 n2 c5));have br4:OpBx (w3.setCell ⟨w.heap.size,5,none⟩ (.slice a5 n2 c5)) (w.heap.size+1) 0 0 none 0 0 0 0 none 0 0:=⟨((only1 w3 w.heap.size 5 (.slice a5 n2 c5)).block _ (by omega)).trans (Hbr2.out.ext hx3).row⟩;have hk4:=only_ints br4.row (by decide) (onl6 (w3.setCell ⟨w.heap.size,5,none⟩ (.slice a5 n2 c5)) (w.heap.size+1) (.int .i64 kd) (.int .i64 k) (.slice a3 n1 c3) (.int .i64 q) (.int .i64 bt) (.slice a5 n2 c5));have HI8:=Lh (I6.keep T6 (by simp) hk4);have HT8:=Lh (T6.keep hk4);have HI9:=Lh (I7.keep T7 (by simp) hk4);have HT9:=Lh (T7.keep hk4);have p0:=b4.x0;have p1:=b4.x1;have p2:=b4.x2;have p3:=b4.x3;have p4:=b4.x4;have p5:=b4.x5;have r0:=br4.x0;have r1:=br4.x1;have r2:=br4.x2;have r3:=br4.x3;have r4:=br4.x4;have r5:=br4.x5;have g0:=br4.f 0;have g1:=br4.f 1;have g2:=br4.f 2;have g3:=br4.f 3;have g4:=br4.f 4;have g5:=br4.f 5;clear b3 b4 br4 I5 T5 I6 T6 I7 T7 hk3 hk4 hx3 hx1
 go_wp2_with fail
 exact bodyPost_ret (v:=.agg #[.int .i64 kd,.int .i64 k,.slice a3 n1 c3,.int .i64 q,.int .i64 bt,.slice a5 n2 c5]) (by simp [results,Tryz.results22,go_sem,r0,r1,r2,r3,r4,r5]) rfl ⟨⟨a3,c3,a5,c5,rfl,⟨⟨HI8.out,l3,by unfold maxLen at m3;omega,HI9.out,l5,by unfold maxLen at m5;omega⟩,HT8.out,HT9.out⟩⟩,put6 HE3.out (by omega) _ _ _ _ _ _⟩
theorem dt {p:Prop} [Decidable p] (h:p):decide p=true:=by simp [h]
theorem df {p:Prop} [Decidable p] (h:¬ p):decide p=false:=by simp [h]
theorem bt' {x y:Int} (h:x=y):(x == y)=true:=by simp [h]
theorem bf {x y:Int} (h:¬ x=y):(x == y)=false:=by simp [h]
theorem nt {x y:Int} (h:¬ x=y):(x != y)=true:=by simp [bne,h]
theorem nf' {x y:Int} (h:x=y):(x != y)=false:=by simp [bne,h]
theorem ext_drewN (w:World) (m:Nat):Ext w (w.drewN m):=⟨rfl,rfl,rfl,Nat.le_refl _,fun _ _=>rfl⟩
theorem fitsK_iff (k:Int) (u:Bool):fitsB k 16 u=false↔(k<0\/15<k\/(0<k/\u=false)):=by
 cases u<;>simp [fitsB,below]<;>omega
theorem fitsQ_iff (q n kd:Int) (hn:1<=n):fitsB q n (usesQ kd)=false↔(q<0\/n<=q\/(kd=1/\0<q)):=by
 by_cases h:kd=1
 ·have:usesQ kd=false:=by simp [usesQ,h]
  rw [this];simp [fitsB,h];omega
 ·have:usesQ kd=true:=by simp [usesQ,h]
  rw [this];simp [fitsB,below,h];omega
theorem usesC_iff (kd:Int):usesC kd=false↔(¬ kd=2/\¬ kd=3/\¬ kd=4):=by
 simp [usesC];omega
theorem badOp_any (o:Gop) (a1:Option Addr) (n1 c1:Nat) (a2:Option Addr) (n2 c2:Nat) (n bits:Int) (w:World) (h:OpL w o a1 n1 c1 a2 n2 c2) (hn1:1<=n) (hb0:0<=bits) (hb1:bits<=12) :
  Calls Tryz.prog 63 #[.agg #[.int .i64 o.kind,.int .i64 o.k,.slice a1 n1 c1,.int .i64 o.q,.int .i64 o.bit,.slice a2 n2 c2],.int .i64 n,.int .i64 bits] w fun e w'=>e=.returned (.int .i64 (opCode o n bits))/\Ext w w':=by
 obtain ⟨r,hr⟩:∃ r,opCode o n bits=r:=⟨_,rfl⟩;rw [hr];unfold opCode at hr;obtain ⟨kd,k,ctl,q,bt,cnd⟩:=o;have E0:=ext_al w (.cells #[.int .i64 kd,.int .i64 k,.slice a1 n1 c1,.int .i64 q,.int .i64 bt,.slice a2 n2 c2] 60);have bx:=opbx_new w kd k a1 n1 c1 q bt a2 n2 c2;have L0:=h.ext E0;have m0:=bx.x0;have m1:=bx.x1;have m2:=bx.x2;have m3:=bx.x3;have m4:=bx.x4;have m5:=bx.x5;have Hl:=Lh h.i1.1;have Hl2:=Lh h.i2.1;simp only at hr L0 Hl Hl2 ⊢;have HE0:=Lh E0;have HL0:=Lh L0;have Hbx:=Lh bx;clear h E0 L0 bx
 by_cases hk1:kd<1
 ·have hz:r=8:=by rw [<-hr,if_pos (Or.inl hk1)]
  have HF:=Lh hz;clear hr hz
  go_enter Tryz.func63,Tryz.ntmps63
  go_wp2_with fail
  go_ret
  exact ⟨congrArg (fun b=>Ending.returned (Value.int .i64 b)) HF.out.symm,HE0.out⟩
 by_cases hk6:6<kd
 ·have hz:r=8:=by rw [<-hr,if_pos (Or.inr hk6)]
  have HF:=Lh hz;have d1:=df hk1;clear hr hz hk1
  go_enter Tryz.func63,Tryz.ntmps63
  go_wp2_with fail
  go_ret
  exact ⟨congrArg (fun b=>Ending.returned (Value.int .i64 b)) HF.out.symm,HE0.out⟩
 rw [if_neg (by omega)] at hr;have d1:=df hk1;have d2:=df hk6;have Hr:=Lh hr;clear hr
 go_enter Tryz.func63,Tryz.ntmps63
 go_upto_region 3 with fail
 generalize w.alloc (.cells #[.int .i64 kd,.int .i64 k,.slice a1 n1 c1,.int .i64 q,.int .i64 bt,.slice a2 n2 c2] 60)=W0 at *
 go_cut [7] from 18 to 25 (fun s7 wx=>wx=W0/\s7=.bool (usesK kd))
 case first =>
  by_cases h1:kd=1
  ·have e1:=bt' h1
   have hu:usesK kd=true:=by simp [usesK,h1]
   have Hu:=Lh hu;clear hu h1
   go_wp2_with fail
   go_meet
   exact ⟨rfl,by rw [Hu.out]⟩
  ·have e1:=bf h1
   have hu:usesK kd=(kd == 4):=by simp [usesK,h1]
   have Hu:=Lh hu;clear hu h1
   go_wp2_with fail
   go_meet
   exact ⟨rfl,by rw [Hu.out]⟩
 case rest =>
 obtain ⟨rfl,rfl⟩:=hcut;obtain ⟨uK,huK⟩:∃ x,usesK kd=x:=⟨_,rfl⟩;rw [huK];have hr0:=Hr.out;rw [huK] at hr0;have Hr0:=Lh hr0;clear hr0 Hr huK;obtain ⟨f1,hf1⟩:∃ x,fitsB k 16 uK=x:=⟨_,rfl⟩;have hr1:=Hr0.out;rw [hf1] at hr1;have Hr1:=Lh hr1;have fi:=fitsK_iff k uK;rw [hf1] at fi;clear hr1 Hr0 hf1
 go_upto_region 4 with fail
 go_cut [42] from 26 to 42 (fun s42 wx=>wx=wc/\s42=.bool (!f1))
 case first =>
  have Fi:=Lh fi;clear fi
  by_cases x1:k<0
  ·have y1:=dt x1
   have hz:f1=false:=Fi.out.2 (Or.inl x1);have HF:=Lh hz;clear hz
   go_wp2_with fail
   go_meet
   exact ⟨rfl,by rw [HF.out];rfl⟩
  have y1:=df x1
  by_cases x2:15<k
  ·have y2:=dt x2
   have hz:f1=false:=Fi.out.2 (Or.inr (Or.inl x2));have HF:=Lh hz;clear hz
   go_wp2_with fail
   go_meet
   exact ⟨rfl,by rw [HF.out];rfl⟩
  have y2:=df x2
  by_cases x3:0<k
  ·have y3:=dt x3
   have hz:(!f1)=!uK:=by
    cases uK
    ·rw [Fi.out.2 (Or.inr (Or.inr ⟨x3,rfl⟩))]
    ·cases f1
     ·exact absurd (Fi.out.1 rfl) (by rintro (h | h | ⟨_,h⟩)<;>first | omega | cases h)
     ·rfl
   have HF:=Lh hz;clear hz
   go_wp2_with fail
   go_meet
   exact ⟨rfl,by rw [HF.out]⟩
  ·have y3:=df x3
   have hz:f1=true:=by
    cases f1
    ·exact absurd (Fi.out.1 rfl) (by rintro (h | h | ⟨h,_⟩)<;>omega)
    ·rfl
   have HF:=Lh hz;clear hz
   go_wp2_with fail
   go_meet
   exact ⟨rfl,by rw [HF.out];rfl⟩
 case rest =>
 obtain ⟨rfl,rfl⟩:=hcut;clear fi
 cases f1
 ·have HF:Hid (r=9):=by show r=9;rw [<-Hr1.out];simp
  clear Hr1
  go_wp2_with fail
  go_ret
  exact ⟨congrArg (fun b=>Ending.returned (Value.int .i64 b)) HF.out.symm,HE0.out⟩
 have hr2:=Hr1.out;rw [if_neg (by decide)] at hr2;obtain ⟨f2,hf2⟩:∃ x,fitsB q n (usesQ kd)=x:=⟨_,rfl⟩;have fi:=fitsQ_iff q n kd hn1;rw [hf2] at fi hr2;have Hr2:=Lh hr2;clear hr2 Hr1 hf2
 go_upto_region 6 with fail
 go_cut [61] from 43 to 61 (fun s61 wx=>wx=wc/\s61=.bool (!f2))
 case first =>
  have Fi:=Lh fi;clear fi
  by_cases x1:q<0
  ·have y1:=dt x1
   have hz:f2=false:=Fi.out.2 (Or.inl x1);have HF:=Lh hz;clear hz
   go_wp2_with fail
   go_meet
   exact ⟨rfl,by rw [HF.out];rfl⟩
  have y1:=df x1
  by_cases x2:n<=q
  ·have y2:=dt x2
   have hz:f2=false:=Fi.out.2 (Or.inr (Or.inl x2));have HF:=Lh hz;clear hz
   go_wp2_with fail
   go_meet
   exact ⟨rfl,by rw [HF.out];rfl⟩
  have y2:=df x2
  by_cases x3:kd=1
  ·have y3:=bt' x3
   have hz:(!f2)=decide (0<q):=by
    by_cases x4:0<q
    ·rw [Fi.out.2 (Or.inr (Or.inr ⟨x3,x4⟩)),dt x4];rfl
    ·rw [df x4]
     cases f2
     ·exact absurd (Fi.out.1 rfl) (by rintro (h | h | ⟨_,h⟩)<;>omega)
     ·rfl
   have HF:=Lh hz;clear hz x3
   go_wp2_with fail
   go_meet
   exact ⟨rfl,by rw [HF.out]⟩
  ·have y3:=bf x3
   have hz:f2=true:=by
    cases f2
    ·exact absurd (Fi.out.1 rfl) (by rintro (h | h | ⟨h,_⟩)<;>first | omega | exact x3 h)
    ·rfl
   have HF:=Lh hz;clear hz x3
   go_wp2_with fail
   go_meet
   exact ⟨rfl,by rw [HF.out];rfl⟩
 case rest =>
 obtain ⟨rfl,rfl⟩:=hcut;clear fi
 cases f2
 ·have HF:Hid (r=10):=by show r=10;rw [<-Hr2.out];simp
  clear Hr2
  go_wp2_with fail
  go_ret
  exact ⟨congrArg (fun b=>Ending.returned (Value.int .i64 b)) HF.out.symm,HE0.out⟩
 have hr3:=Hr2.out;rw [if_neg (by decide),Hl.out] at hr3;have Hr3:=Lh hr3;clear hr3 Hr2;obtain ⟨f3,hf3⟩:∃ x,decide (0<n1/\usesC kd=false)=x:=⟨_,rfl⟩
 go_upto_region 8 with fail
 go_cut [80] from 62 to 80 (fun s80 wx=>wx=wc/\s80=.bool f3)
 case first =>
  have Hf3:=Lh hf3;have Hc:=Lh (usesC_iff kd);clear hf3
  by_cases x1:0<n1
  ·have x1':(0:Int)<(n1:Int):=by omega
   have y1:=dt x1'
   by_cases x2:kd=2
   ·have y2:=nf' x2
    have hz:f3=false:=by rw [<-Hf3.out];exact df (fun h=>(Hc.out.1 h.2).1 x2)
    have HF:=Lh hz;clear hz x2
    go_wp2_with fail
    go_meet
    exact ⟨rfl,by rw [HF.out]⟩
   have y2:=nt x2
   by_cases x3:kd=3
   ·have y3:=nf' x3
    have hz:f3=false:=by rw [<-Hf3.out];exact df (fun h=>(Hc.out.1 h.2).2.1 x3)
    have HF:=Lh hz;clear hz x3
    go_wp2_with fail
    go_meet
    exact ⟨rfl,by rw [HF.out]⟩
   have y3:=nt x3
   have hz:f3=(kd != 4):=by
    rw [<-Hf3.out]
    by_cases x4:kd=4
    ·rw [nf' x4];exact df (fun h=>(Hc.out.1 h.2).2.2 x4)
    ·rw [nt x4];exact dt ⟨x1,Hc.out.2 ⟨x2,x3,x4⟩⟩
   have HF:=Lh hz;clear hz
   go_wp2_with fail
   go_meet
   exact ⟨rfl,by rw [HF.out]⟩
  ·have x1':¬ (0:Int)<(n1:Int):=by omega
   have y1:=df x1'
   have hz:f3=false:=by rw [<-Hf3.out];exact df (fun h=>x1 h.1)
   have HF:=Lh hz;clear hz
   go_wp2_with fail
   go_meet
   exact ⟨rfl,by rw [HF.out]⟩
 case rest =>
 obtain ⟨rfl,rfl⟩:=hcut
 cases f3
 case true =>
  have HF:Hid (r=11):=by show r=11;rw [<-Hr3.out,if_pos (of_decide_eq_true hf3)]
  clear Hr3 hf3
  go_wp2_with fail
  go_ret
  exact ⟨congrArg (fun b=>Ending.returned (Value.int .i64 b)) HF.out.symm,HE0.out⟩
 have hr4:=Hr3.out;rw [if_neg (of_decide_eq_false hf3)] at hr4;have Hr4:=Lh hr4;clear hr4 Hr3 hf3;obtain ⟨cc,hcc⟩:∃ x,ctlCode q n [] ctl=x:=⟨_,rfl⟩;have hr5:=Hr4.out;rw [hcc] at hr5;have Hr5:=Lh hr5;have Hcc:=Lh hcc;clear Hr4 hr5 hcc
 have hab:n1=0\/∃ b o,a1=some ⟨b,o,none⟩:=by
  rcases HL0.out.i1.2 with h0 | ⟨b,o,e,_,hc⟩
  ·exact Or.inl h0
  ·exact Or.inr ⟨b,o,e⟩
 have hnc:=HL0.out.h1;have hcm:=HL0.out.m1
 go_wp2_with fail
 go_loopg [8] n1 (fun kk s8 wr=>Ext wc wr/\∃ i:Nat,s8=.int .i64 (i:Int)/\i<=n1/\n1-i=kk/\cc=ctlCode q n (ctl.take i) (ctl.drop i))
 case atStart=>exact ⟨Ext.refl _,0,rfl,by omega,by omega,Hcc.out.symm⟩
 case round =>
  obtain ⟨hER,i,rfl,hi,hk,hri⟩:=hrel;have HER:=Lh hER;have v0:=cell_ext m0 hER;have v1:=cell_ext m1 hER;have v2:=cell_ext m2 hER;have v3:=cell_ext m3 hER;have v4:=cell_ext m4 hER;have v5:=cell_ext m5 hER;clear m0 m1 m2 m3 m4 m5 hER
  by_cases hin:i=n1
  ·have h2:¬ (i:Int)<(n1:Int):=by omega
   have hz:cc=0:=by rw [hri];exact ctlCode_end q n ctl i (by rw [Hl.out];omega)
   have hr6:=Hr5.out;rw [if_neg (by simp [hz])] at hr6;have Hr6:=Lh hr6;clear hri hz hr6 Hr5
   by_cases k5:kd=5
   ·have e5:=bt' k5
    have hu:fitsB bt bits (usesB kd)=below bt bits:=by simp [fitsB,usesB,k5]
    have hr7:=Hr6.out;rw [hu] at hr7;have Hr6':=Lh hr7;clear hr7 hu k5 Hr6
    by_cases b1:bt<0
    ·have c1':=dt b1
     have HF:Hid (r=13):=by show r=13;rw [<-Hr6'.out,if_pos (by simp [below];omega)]
     clear Hr6'
     go_wp2_with fail
     go_ret
     exact ⟨congrArg (fun b=>Ending.returned (Value.int .i64 b)) HF.out.symm,HE0.out.trans HER.out⟩
    have c1':=df b1
    by_cases b2:bits<=bt
    ·have c2':=dt b2
     have HF:Hid (r=13):=by show r=13;rw [<-Hr6'.out,if_pos (by simp [below];omega)]
     clear Hr6'
     go_wp2_with fail
     go_ret
     exact ⟨congrArg (fun b=>Ending.returned (Value.int .i64 b)) HF.out.symm,HE0.out.trans HER.out⟩
    have c2':=df b2;have hr7:=Hr6'.out;rw [if_neg (by simp [below];omega)] at hr7;have Hr7:=Lh hr7;clear hr7 Hr6'
    by_cases hn24:24<n2
    ·have j24:(24:Int)<(n2:Int):=by omega
     have hc:cndOk bits cnd=false:=by unfold cndOk;rw [Hl2.out];simp;omega
     have HF:Hid (r=14):=by show r=14;rw [<-Hr7.out,if_pos hc]
     clear hc Hr7
     go_wp2_with fail
     go_ret
     exact ⟨congrArg (fun b=>Ending.returned (Value.int .i64 b)) HF.out.symm,HE0.out.trans HER.out⟩
    have j24:¬ (24:Int)<(n2:Int):=by omega
    have hall:cndOk bits cnd=cnd.all (termOk bits):=by
     unfold cndOk
     have:decide (cnd.length<=24)=true:=by rw [Hl2.out];simp;omega
     rw [this,Bool.true_and]
    obtain ⟨ok,hok⟩:∃ x,cndOk bits cnd=x:=⟨_,rfl⟩;have hr8:=Hr7.out;rw [hok] at hr8;have Hr8:=Lh hr8
    have Hall:Hid (ok=cnd.all (termOk bits)):=by show ok=_;rw [<-hok,hall]
    have hab2:n2=0\/∃ b o,a2=some ⟨b,o,none⟩/\∀ t,t<n2->wr.cell? ⟨b,o+t,none⟩=some (.int .i64 (cnd.getD t 0)):=by
     rcases (HL0.out.i2.ext HER.out).2 with h0 | ⟨b,o,e,_,hc⟩
     ·exact Or.inl h0
     ·exact Or.inr ⟨b,o,e,hc⟩
    have hwb:IntKind.i64.wrap (-bits)=-bits:=by rw [IntKind.wrap_i64];omega
    clear hall hok hr8 Hr7 hn24
    go_wp2_with fail
    go_loopg [9] n2 (fun kk s9 wq=>wq=wr/\∃ i:Nat,s9=.int .i64 (i:Int)/\i<=n2/\n2-i=kk/\ok=(cnd.drop i).all (termOk bits))
    case atStart=>exact ⟨rfl,0,rfl,by omega,by omega,Hall.out⟩
    case round =>
     obtain ⟨rfl,i2,rfl,hi2,hkk2,hri⟩:=hrel
     by_cases hin2:i2=n2
     ·have h2':¬ (i2:Int)<(n2:Int):=by omega
      have ht:ok=true:=by rw [hri,List.drop_eq_nil_of_le (by rw [Hl2.out];omega)];rfl
      have HF:Hid (r=0):=by show r=0;rw [<-Hr8.out,ht];simp
      clear hri ht Hr8
      go_wp2_with fail
      go_ret
      exact ⟨congrArg (fun b=>Ending.returned (Value.int .i64 b)) HF.out.symm,HE0.out.trans HER.out⟩
     ·have h2':(i2:Int)<(n2:Int):=by omega
      have h0':(0:Int)<=(i2:Int):=by omega
      rcases hab2 with h | ⟨b2,o2,rfl,hcell⟩
      ·omega
      have hci:=hcell i2 (by omega);obtain ⟨y,hy⟩:∃ y,cnd.getD i2 0=y:=⟨_,rfl⟩;rw [hy] at hci;have hst:=all_step (termOk bits) cnd i2 (by rw [Hl2.out];omega);rw [hy,<-hri] at hst;have Hst:=Lh hst;have Hcell:=Lh hcell;clear hcell hy hri hst
      by_cases y0:y=0
      ·have e0:=bt' y0
       have ht:termOk bits y=false:=by simp [termOk,y0]
       have hf:ok=false:=by rw [Hst.out,ht];rfl
       have HF:Hid (r=14):=by show r=14;rw [<-Hr8.out,if_pos hf]
       clear hf ht Hst Hr8 y0
       go_wp2_with fail
       go_ret
       exact ⟨congrArg (fun b=>Ending.returned (Value.int .i64 b)) HF.out.symm,HE0.out.trans HER.out⟩
      have e0:=bf y0
      by_cases y2:bits<y
      ·have e2:=dt y2
       have ht:termOk bits y=false:=by unfold termOk;simp;omega
       have hf:ok=false:=by rw [Hst.out,ht];rfl
       have HF:Hid (r=14):=by show r=14;rw [<-Hr8.out,if_pos hf]
       clear hf ht Hst Hr8 y0
       go_wp2_with fail
       go_ret
       exact ⟨congrArg (fun b=>Ending.returned (Value.int .i64 b)) HF.out.symm,HE0.out.trans HER.out⟩
      have e2:=df y2
      by_cases y1:y < -bits
      ·have e1:=dt y1
       have ht:termOk bits y=false:=by unfold termOk;simp;omega
       have hf:ok=false:=by rw [Hst.out,ht];rfl
       have HF:Hid (r=14):=by show r=14;rw [<-Hr8.out,if_pos hf]
       clear hf ht Hst Hr8 y0
       go_wp2_with fail
       go_ret
       exact ⟨congrArg (fun b=>Ending.returned (Value.int .i64 b)) HF.out.symm,HE0.out.trans HER.out⟩
      have e1:=df y1
      have ht:termOk bits y=true:=by unfold termOk;simp;omega
      have hst':ok=(cnd.drop (i2+1)).all (termOk bits):=by rw [Hst.out,ht];rfl
      have Hst':=Lh hst';clear ht hst' Hst y0
      go_wp2_with fail
      go_roundg (n2-(i2+1))
      case measure=>omega
      case rel=>exact ⟨rfl,i2+1,by go_num,by omega,rfl,Hst'.out⟩
   ·have e5:=bf k5
    have hu:fitsB bt bits (usesB kd)=(bt == 0):=by simp [fitsB,usesB,k5]
    have hr7:=Hr6.out;rw [hu] at hr7;have Hr6':=Lh hr7;clear hr7 hu k5 Hr6
    by_cases b1:bt=0
    ·have c1':=nf' b1
     have hr7:=Hr6'.out;rw [if_neg (by simp [b1])] at hr7;have Hr7:=Lh hr7;clear hr7 Hr6' b1
     by_cases hn24:24<n2
     ·have j24:(24:Int)<(n2:Int):=by omega
      have hc:cndOk bits cnd=false:=by unfold cndOk;rw [Hl2.out];simp;omega
      have HF:Hid (r=14):=by show r=14;rw [<-Hr7.out,if_pos hc]
      clear hc Hr7
      go_wp2_with fail
      go_ret
      exact ⟨congrArg (fun b=>Ending.returned (Value.int .i64 b)) HF.out.symm,HE0.out.trans HER.out⟩
     have j24:¬ (24:Int)<(n2:Int):=by omega
     have hall:cndOk bits cnd=cnd.all (termOk bits):=by
      unfold cndOk
      have:decide (cnd.length<=24)=true:=by rw [Hl2.out];simp;omega
      rw [this,Bool.true_and]
     obtain ⟨ok,hok⟩:∃ x,cndOk bits cnd=x:=⟨_,rfl⟩;have hr8:=Hr7.out;rw [hok] at hr8;have Hr8:=Lh hr8
     have Hall:Hid (ok=cnd.all (termOk bits)):=by show ok=_;rw [<-hok,hall]
     have hab2:n2=0\/∃ b o,a2=some ⟨b,o,none⟩/\∀ t,t<n2->wr.cell? ⟨b,o+t,none⟩=some (.int .i64 (cnd.getD t 0)):=by
      rcases (HL0.out.i2.ext HER.out).2 with h0 | ⟨b,o,e,_,hc⟩
      ·exact Or.inl h0
      ·exact Or.inr ⟨b,o,e,hc⟩
     have hwb:IntKind.i64.wrap (-bits)=-bits:=by rw [IntKind.wrap_i64];omega
     clear hall hok hr8 Hr7 hn24
     go_wp2_with fail
     go_loopg [9] n2 (fun kk s9 wq=>wq=wr/\∃ i:Nat,s9=.int .i64 (i:Int)/\i<=n2/\n2-i=kk/\ok=(cnd.drop i).all (termOk bits))
     case atStart=>exact ⟨rfl,0,rfl,by omega,by omega,Hall.out⟩
     case round =>
      obtain ⟨rfl,i2,rfl,hi2,hkk2,hri⟩:=hrel
      by_cases hin2:i2=n2
      ·have h2':¬ (i2:Int)<(n2:Int):=by omega
       have ht:ok=true:=by rw [hri,List.drop_eq_nil_of_le (by rw [Hl2.out];omega)];rfl
       have HF:Hid (r=0):=by show r=0;rw [<-Hr8.out,ht];simp
       clear hri ht Hr8
       go_wp2_with fail
       go_ret
       exact ⟨congrArg (fun b=>Ending.returned (Value.int .i64 b)) HF.out.symm,HE0.out.trans HER.out⟩
      ·have h2':(i2:Int)<(n2:Int):=by omega
       have h0':(0:Int)<=(i2:Int):=by omega
       rcases hab2 with h | ⟨b2,o2,rfl,hcell⟩
       ·omega
       have hci:=hcell i2 (by omega);obtain ⟨y,hy⟩:∃ y,cnd.getD i2 0=y:=⟨_,rfl⟩;rw [hy] at hci;have hst:=all_step (termOk bits) cnd i2 (by rw [Hl2.out];omega);rw [hy,<-hri] at hst;have Hst:=Lh hst;have Hcell:=Lh hcell;clear hcell hy hri hst
       by_cases y0:y=0
       ·have e0:=bt' y0
        have ht:termOk bits y=false:=by simp [termOk,y0]
        have hf:ok=false:=by rw [Hst.out,ht];rfl
        have HF:Hid (r=14):=by show r=14;rw [<-Hr8.out,if_pos hf]
        clear hf ht Hst Hr8 y0
        go_wp2_with fail
        go_ret
        exact ⟨congrArg (fun b=>Ending.returned (Value.int .i64 b)) HF.out.symm,HE0.out.trans HER.out⟩
       have e0:=bf y0
       by_cases y2:bits<y
       ·have e2:=dt y2
        have ht:termOk bits y=false:=by unfold termOk;simp;omega
        have hf:ok=false:=by rw [Hst.out,ht];rfl
        have HF:Hid (r=14):=by show r=14;rw [<-Hr8.out,if_pos hf]
        clear hf ht Hst Hr8 y0
        go_wp2_with fail
        go_ret
        exact ⟨congrArg (fun b=>Ending.returned (Value.int .i64 b)) HF.out.symm,HE0.out.trans HER.out⟩
       have e2:=df y2
       by_cases y1:y < -bits
       ·have e1:=dt y1
        have ht:termOk bits y=false:=by unfold termOk;simp;omega
        have hf:ok=false:=by rw [Hst.out,ht];rfl
        have HF:Hid (r=14):=by show r=14;rw [<-Hr8.out,if_pos hf]
        clear hf ht Hst Hr8 y0
        go_wp2_with fail
        go_ret
        exact ⟨congrArg (fun b=>Ending.returned (Value.int .i64 b)) HF.out.symm,HE0.out.trans HER.out⟩
       have e1:=df y1
       have ht:termOk bits y=true:=by unfold termOk;simp;omega
       have hst':ok=(cnd.drop (i2+1)).all (termOk bits):=by rw [Hst.out,ht];rfl
       have Hst':=Lh hst';clear ht hst' Hst y0
       go_wp2_with fail
       go_roundg (n2-(i2+1))
       case measure=>omega
       case rel=>exact ⟨rfl,i2+1,by go_num,by omega,rfl,Hst'.out⟩
    ·have c1':=nt b1
     have HF:Hid (r=13):=by show r=13;rw [<-Hr6'.out,if_pos (by simp [b1])]
     clear Hr6' b1
     go_wp2_with fail
     go_ret
     exact ⟨congrArg (fun b=>Ending.returned (Value.int .i64 b)) HF.out.symm,HE0.out.trans HER.out⟩
  ·have h2:(i:Int)<(n1:Int):=by omega
   have h0:(0:Int)<=(i:Int):=by omega
   have hic:(i:Int)<=(c1:Int):=by omega
   rcases hab with h | ⟨b,o,rfl⟩
   ·omega
   have HIr:=Lh (HL0.out.i1.ext HER.out);obtain ⟨b',o',e,_,hcell⟩:=HIr.out.at (by omega)
   cases e
   have hci:=hcell i (by omega);obtain ⟨y,hy⟩:∃ y,ctl.getD i 0=y:=⟨_,rfl⟩;rw [hy] at hci;have hst:=ctlCode_step q n ctl i (by rw [Hl.out];omega);rw [<-hri,hy] at hst;have Hst:=Lh hst;have HC:=Lh (fun m=>member_any (some ⟨b,o,none⟩) i c1 (ctl.take i) y (wr.drewN m) ((HIr.out.take i (by omega)).ext (ext_drewN wr m)) (by omega) hcm)
   have HrC:Hid (¬ cc=0->r=cc):=fun h=>by rw [<-Hr5.out,if_pos h]
   clear hcell hy hri hst Hr5
   by_cases y1:y<0
   ·have z1:=dt y1
    have hb:below y n=false:=by simp [below];omega
    have hz:cc=10:=by rw [Hst.out,if_pos hb]
    have HF:Hid (r=10):=by show r=10;rw [HrC.out (by omega),hz]
    clear hz hb Hst
    go_wp2_with fail
    go_ret
    exact ⟨congrArg (fun b=>Ending.returned (Value.int .i64 b)) HF.out.symm,HE0.out.trans HER.out⟩
   have z1:=df y1
   by_cases y2:n<=y
   ·have z2:=dt y2
    have hb:below y n=false:=by simp [below];omega
    have hz:cc=10:=by rw [Hst.out,if_pos hb]
    have HF:Hid (r=10):=by show r=10;rw [HrC.out (by omega),hz]
    clear hz hb Hst
    go_wp2_with fail
    go_ret
    exact ⟨congrArg (fun b=>Ending.returned (Value.int .i64 b)) HF.out.symm,HE0.out.trans HER.out⟩
   have z2:=df y2
   have hb:¬ below y n=false:=by simp [below];omega
   have hst1:cc=if y=q\/y ∈ ctl.take i then 12 else ctlCode q n (ctl.take (i+1)) (ctl.drop (i+1)):=by rw [Hst.out,if_neg hb]
   have Hst1:=Lh hst1;clear hst1 hb Hst
   by_cases hyq:y=q
   ·have hbq:=bt' hyq
    have hz:cc=12:=by rw [Hst1.out,if_pos (Or.inl hyq)]
    have HF:Hid (r=12):=by show r=12;rw [HrC.out (by omega),hz]
    clear hz hyq Hst1
    go_wp2_with fail
    go_quiet (fail)
    go_wp2_with fail
    go_ret
    exact ⟨congrArg (fun b=>Ending.returned (Value.int .i64 b)) HF.out.symm,HE0.out.trans (HER.out.trans (ext_drewN wr _))⟩
   ·have hbq:=bf hyq
    have Hyq:=Lh hyq;obtain ⟨bm,hbm⟩:∃ x,decide (y ∈ ctl.take i)=x:=⟨_,rfl⟩;rw [hbm] at HC;clear hyq
    cases bm
    ·have hz:cc=ctlCode q n (ctl.take (i+1)) (ctl.drop (i+1)):=by rw [Hst1.out,if_neg (fun h=>h.elim Hyq.out (of_decide_eq_false hbm))]
     have HF:=Lh hz;clear hz hbm Hst1
     go_wp2_with fail
     go_quiet ((go_at_call 99;refine Calls.quiet_of_same (HC.out _)))
     go_wp2_with fail
     go_roundg (n1-(i+1))
     case measure=>omega
     case rel=>exact ⟨HER.out.trans (ext_drewN wr _),i+1,by go_num,by omega,rfl,HF.out⟩
    ·have hz:cc=12:=by rw [Hst1.out,if_pos (Or.inr (of_decide_eq_true hbm))]
     have HF:Hid (r=12):=by show r=12;rw [HrC.out (by omega),hz]
     clear hz hbm Hst1
     go_wp2_with fail
     go_quiet ((go_at_call 99;refine Calls.quiet_of_same (HC.out _)))
     go_wp2_with fail
     go_ret
     exact ⟨congrArg (fun b=>Ending.returned (Value.int .i64 b)) HF.out.symm,HE0.out.trans (HER.out.trans (ext_drewN wr _))⟩
def bitOf (t:Int):Int:=if 0<t then t-1 else -t-1
def tchQ (kd q:Int):List Int:=if kd=1 then [] else [q]
def tchB (z kd bt:Int):List Int:=if kd=5 then [z+bt] else []
def tchC (z:Int) (l:List Int):List Int:=l.map fun t=>z+bitOf t
def wordOf:Nat->ByteArray
 | 1=>⟨#[112,104,97,115,101]⟩
 | 2=>⟨#[120]⟩
 | 3=>⟨#[104]⟩
 | 4=>⟨#[112]⟩
 | 5=>⟨#[109,101,97,115,117,114,101]⟩
 | 6=>⟨#[114,101,115,101,116]⟩
 | _=>⟨#[]⟩
def Shp (w:World):Prop:=∀ k:Nat,1<=k->k<=6 ->
 w.cell? ⟨0,k*5,none⟩=some (.string (wordOf k))/\w.cell? ⟨0,k*5+1,none⟩=some (.bool (usesK k))/\w.cell? ⟨0,k*5+2,none⟩=some (.bool (usesQ k))/\w.cell? ⟨0,k*5+3,none⟩=some (.bool (usesC k))/\w.cell? ⟨0,k*5+4,none⟩=some (.bool (usesB k))
theorem Shp.ext {w w':World} (h:Shp w) (k:Ext w w'):Shp w':=fun n h1 h2=>by
 obtain ⟨e0,e1,e2,e3,e4⟩:=h n h1 h2;exact ⟨cell_ext e0 k,cell_ext e1 k,cell_ext e2 k,cell_ext e3 k,cell_ext e4 k⟩
theorem checkOp_any (o:Gop) (a1:Option Addr) (n1 c1:Nat) (a2:Option Addr) (n2 c2:Nat) (n bits:Int) (w:World) (h:OpL w o a1 n1 c1 a2 n2 c2) (hb0:0<=bits) (hb1:bits<=12) (hS:Shp w) :
  Calls Tryz.prog 78 #[.agg #[.int .i64 o.kind,.int .i64 o.k,.slice a1 n1 c1,.int .i64 o.q,.int .i64 o.bit,.slice a2 n2 c2],.int .i64 n,.int .i64 bits] w fun e w'=>e=.returned (.int .i64 (opCode o n bits))/\Ext w w':=by
 obtain ⟨r,hr⟩:∃ r,opCode o n bits=r:=⟨_,rfl⟩;rw [hr];unfold opCode at hr;obtain ⟨kd,k,ctl,q,bt,cnd⟩:=o;have E0:=ext_al w (.cells #[.int .i64 kd,.int .i64 k,.slice a1 n1 c1,.int .i64 q,.int .i64 bt,.slice a2 n2 c2] 60);have bx:=opbx_new w kd k a1 n1 c1 q bt a2 n2 c2;have L0:=h.ext E0;have S0:=hS.ext E0;have m0:=bx.x0;have m1:=bx.x1;have m2:=bx.x2;have m3:=bx.x3;have m4:=bx.x4;have m5:=bx.x5;have lb:=bx.lt;have Hl:=h.i1.1;simp only at hr L0 Hl ⊢;have HE0:=Lh E0;have HL0:=Lh L0;have HS0:=Lh S0;clear h hS E0 L0 S0
 by_cases hk1:kd<1
 ·have hz:r=8:=by rw [<-hr,if_pos (Or.inl hk1)]
  have HF:=Lh hz;clear hr hz bx
  go_enter Tryz.func78,Tryz.ntmps78
  go_wp2_with fail
  go_ret
  exact ⟨congrArg (fun b=>Ending.returned (Value.int .i64 b)) HF.out.symm,HE0.out⟩
 by_cases hk6:6<kd
 ·have hz:r=8:=by rw [<-hr,if_pos (Or.inr hk6)]
  have HF:=Lh hz
  have d1:decide (kd<1)=false:=by simp;omega
  clear hr hz hk1 bx
  go_enter Tryz.func78,Tryz.ntmps78
  go_wp2_with fail
  go_ret
  exact ⟨congrArg (fun b=>Ending.returned (Value.int .i64 b)) HF.out.symm,HE0.out⟩
 rw [if_neg (by omega)] at hr;obtain ⟨kn,rfl⟩:∃ kn:Nat,kd=(kn:Int):=⟨kd.toNat,by omega⟩
 have d1:decide ((kn:Int)<1)=false:=by simp;omega
 have d2:decide ((6:Int)<(kn:Int))=false:=by simp;omega
 have i0:(0:Int)<=(kn:Int):=by omega
 have i1:(kn:Int)<7:=by omega
 obtain ⟨t0,t1,t2,t3,t4⟩:=HS0.out kn (by omega) (by omega);obtain ⟨uK,huK⟩:∃ x,usesK (kn:Int)=x:=⟨_,rfl⟩;obtain ⟨uQ,huQ⟩:∃ x,usesQ (kn:Int)=x:=⟨_,rfl⟩;obtain ⟨uC,huC⟩:∃ x,usesC (kn:Int)=x:=⟨_,rfl⟩;obtain ⟨uB,huB⟩:∃ x,usesB (kn:Int)=x:=⟨_,rfl⟩;obtain ⟨wd,hwd⟩:∃ x,wordOf kn=x:=⟨_,rfl⟩;rw [huK] at t1 hr;rw [huQ] at t2 hr;rw [huC] at t3 hr;rw [huB] at t4 hr;rw [hwd] at t0;clear huK huQ huC huB hwd hk1 hk6 bx;have HF1:=Lh (fun wx=>fits_any k 16 uK wx);have HF2:=Lh (fun wx=>fits_any q n uQ wx);have HF3:=Lh (fun wx=>fits_any bt bits uB wx);obtain ⟨f1,hf1⟩:∃ x,fitsB k 16 uK=x:=⟨_,rfl⟩;obtain ⟨f2,hf2⟩:∃ x,fitsB q n uQ=x:=⟨_,rfl⟩;obtain ⟨f3,hf3⟩:∃ x,fitsB bt bits uB=x:=⟨_,rfl⟩;rw [hf1] at HF1 hr;rw [hf2] at HF2 hr;rw [hf3] at HF3 hr;clear hf1 hf2 hf3;have E1:=ext_al (w.alloc (.cells #[.int .i64 (kn:Int),.int .i64 k,.slice a1 n1 c1,.int .i64 q,.int .i64 bt,.slice a2 n2 c2] 60)) (.cells #[.string wd,.bool uK,.bool uQ,.bool uC,.bool uB] 129)
 have ub:((w.alloc (.cells #[.int .i64 (kn:Int),.int .i64 k,.slice a1 n1 c1,.int .i64 q,.int .i64 bt,.slice a2 n2 c2] 60)).alloc (.cells #[.string wd,.bool uK,.bool uQ,.bool uC,.bool uB] 129)).heap[w.heap.size+1]?=some (.cells #[.string wd,.bool uK,.bool uQ,.bool uC,.bool uB] 129 (0,0)):=by
  have:=heap_alloc_new (w.alloc (.cells #[.int .i64 (kn:Int),.int .i64 k,.slice a1 n1 c1,.int .i64 q,.int .i64 bt,.slice a2 n2 c2] 60)) (.cells #[.string wd,.bool uK,.bool uQ,.bool uC,.bool uB] 129)
  simpa using this
 have u1:((w.alloc (.cells #[.int .i64 (kn:Int),.int .i64 k,.slice a1 n1 c1,.int .i64 q,.int .i64 bt,.slice a2 n2 c2] 60)).alloc (.cells #[.string wd,.bool uK,.bool uQ,.bool uC,.bool uB] 129)).cell? ⟨w.heap.size+1,1,none⟩=some (.bool uK):=by rw [cell_of_row _ _ 1 _ _ (0,0) ub];rfl
 have u2:((w.alloc (.cells #[.int .i64 (kn:Int),.int .i64 k,.slice a1 n1 c1,.int .i64 q,.int .i64 bt,.slice a2 n2 c2] 60)).alloc (.cells #[.string wd,.bool uK,.bool uQ,.bool uC,.bool uB] 129)).cell? ⟨w.heap.size+1,2,none⟩=some (.bool uQ):=by rw [cell_of_row _ _ 2 _ _ (0,0) ub];rfl
 have u3:((w.alloc (.cells #[.int .i64 (kn:Int),.int .i64 k,.slice a1 n1 c1,.int .i64 q,.int .i64 bt,.slice a2 n2 c2] 60)).alloc (.cells #[.string wd,.bool uK,.bool uQ,.bool uC,.bool uB] 129)).cell? ⟨w.heap.size+1,3,none⟩=some (.bool uC):=by rw [cell_of_row _ _ 3 _ _ (0,0) ub];rfl
 have u4:((w.alloc (.cells #[.int .i64 (kn:Int),.int .i64 k,.slice a1 n1 c1,.int .i64 q,.int .i64 bt,.slice a2 n2 c2] 60)).alloc (.cells #[.string wd,.bool uK,.bool uQ,.bool uC,.bool uB] 129)).cell? ⟨w.heap.size+1,4,none⟩=some (.bool uB):=by rw [cell_of_row _ _ 4 _ _ (0,0) ub];rfl
 have HE1:=Lh (HE0.out.trans E1);have HL1:=Lh (HL0.out.ext E1);have v0:=cell_ext m0 E1;have v1:=cell_ext m1 E1;have v2:=cell_ext m2 E1;have v3:=cell_ext m3 E1;have v4:=cell_ext m4 E1;have v5:=cell_ext m5 E1;have Hr:=Lh hr;have Hl':=Lh Hl;clear ub E1 hr Hl
 go_enter Tryz.func78,Tryz.ntmps78
 go_wp2_with fail
 generalize (w.alloc (.cells #[.int .i64 (kn:Int),.int .i64 k,.slice a1 n1 c1,.int .i64 q,.int .i64 bt,.slice a2 n2 c2] 60)).alloc (.cells #[.string wd,.bool uK,.bool uQ,.bool uC,.bool uB] 129)=W1 at *;clear m0 m1 m2 m3 m4 m5 t0 t1 t2 t3 t4 HE0 HL0 HS0 d1 d2;refine (HF1.out _).mono ?_;rintro e wz ⟨rfl,rfl⟩
 cases f1
 ·have HF:Hid (r=9):=by show r=9;rw [<-Hr.out];simp
  clear Hr
  go_wp2_with fail
  go_ret
  exact ⟨congrArg (fun b=>Ending.returned (Value.int .i64 b)) HF.out.symm,HE1.out⟩
 have hr1:=Hr.out;rw [if_neg (by decide)] at hr1;have Hr1:=Lh hr1;clear Hr hr1
 go_wp2_with fail
 refine (HF2.out _).mono ?_;rintro e wz ⟨rfl,rfl⟩
 cases f2
 ·have HF:Hid (r=10):=by show r=10;rw [<-Hr1.out];simp
  clear Hr1
  go_wp2_with fail
  go_ret
  exact ⟨congrArg (fun b=>Ending.returned (Value.int .i64 b)) HF.out.symm,HE1.out⟩
 have hr2:=Hr1.out;rw [if_neg (by decide)] at hr2;have HCC:=Lh (checkControls_any (kn:Int) k a1 n1 c1 q bt a2 n2 c2 ctl n wz HL1.out.i1 HL1.out.h1 HL1.out.m1);obtain ⟨cc,hcc⟩:∃ x,ctlCode q n [] ctl=x:=⟨_,rfl⟩;rw [hcc] at HCC hr2;have Hr2:=Lh hr2;clear Hr1 hr2 hcc
 by_cases hn0:0<n1/\uC=false
 ·have HF:Hid (r=11):=by show r=11;rw [<-Hr2.out,if_pos ⟨by rw [Hl'.out];exact hn0.1,hn0.2⟩]
  have j0:(0:Int)<(n1:Int):=by omega
  obtain ⟨_,rfl⟩:=hn0;clear Hr2
  go_wp2_with fail
  go_ret
  exact ⟨congrArg (fun b=>Ending.returned (Value.int .i64 b)) HF.out.symm,HE1.out⟩
 have hr3:=Hr2.out;rw [if_neg (by rw [Hl'.out];exact hn0)] at hr3;have Hr3:=Lh hr3
 have HOK:(decide ((0:Int)<(n1:Int))=false)\/((0:Int)<(n1:Int)/\uC=true):=by
  by_cases h0:0<n1
  ·refine Or.inr ⟨by omega,?_⟩
   cases uC
   ·exact absurd ⟨h0,rfl⟩ hn0
   ·rfl
  ·exact Or.inl (by simp;omega)
 clear Hr2 hr3 hn0
 rcases HOK with hd0 | ⟨j0,rfl⟩
 ·have hd1:¬ (0:Int)<(n1:Int):=of_decide_eq_false hd0
  go_wp2_with fail
  refine HCC.out.mono ?_;rintro e w2 ⟨rfl,hx2⟩;have HE2:=Lh (HE1.out.trans hx2);have y4:=cell_ext v4 hx2;have y5:=cell_ext v5 hx2;have z4:=cell_ext u4 hx2;have L2:=HL1.out.ext hx2;have HA:=Lh (areConditions_any a2 n2 c2 cnd bits w2 L2.i2 L2.h2 L2.m2 hb0 hb1);obtain ⟨ok,hok⟩:∃ x,cndOk bits cnd=x:=⟨_,rfl⟩;rw [hok] at HA;have hr3:=Hr3.out;rw [hok] at hr3;have Hr4:=Lh hr3;clear hok hr3 Hr3 v0 v1 v2 v3 v4 v5 u1 u2 u3 u4 L2
  by_cases hc0:cc=0
  ·have hr4:=Hr4.out
   rw [if_neg (by simp [hc0])] at hr4;have Hr5:=Lh hr4
   have hcb:(cc != 0)=false:=by simp [hc0]
   clear hr4 Hr4 hc0
   go_wp2_with fail
   refine (HF3.out _).mono ?_;rintro e wy ⟨rfl,rfl⟩
   cases f3
   ·have HF:Hid (r=13):=by show r=13;rw [<-Hr5.out];simp
    clear Hr5
    go_wp2_with fail
    go_ret
    exact ⟨congrArg (fun b=>Ending.returned (Value.int .i64 b)) HF.out.symm,HE2.out⟩
   ·have hr6:=Hr5.out
    rw [if_neg (by decide)] at hr6;have Hr6:=Lh hr6;clear hr6 Hr5
    go_wp2_with fail
    refine HA.out.mono ?_;rintro e wx ⟨rfl,rfl⟩
    cases ok
    ·have HF:Hid (r=14):=by show r=14;rw [<-Hr6.out];simp
     clear Hr6
     go_wp2_with fail
     go_ret
     exact ⟨congrArg (fun b=>Ending.returned (Value.int .i64 b)) HF.out.symm,HE2.out⟩
    ·have HF:Hid (r=0):=by show r=0;rw [<-Hr6.out];simp
     clear Hr6
     go_wp2_with fail
     go_ret
     exact ⟨congrArg (fun b=>Ending.returned (Value.int .i64 b)) HF.out.symm,HE2.out⟩
  ·have HF:Hid (r=cc):=by show r=cc;rw [<-Hr4.out,if_pos hc0]
   have hcb:(cc != 0)=true:=by simp [hc0]
   clear Hr4 hc0
   go_wp2_with fail
   go_ret
   exact ⟨congrArg (fun b=>Ending.returned (Value.int .i64 b)) HF.out.symm,HE2.out⟩
 ·go_wp2_with fail
  refine HCC.out.mono ?_;rintro e w2 ⟨rfl,hx2⟩;have HE2:=Lh (HE1.out.trans hx2);have y4:=cell_ext v4 hx2;have y5:=cell_ext v5 hx2;have z4:=cell_ext u4 hx2;have L2:=HL1.out.ext hx2;have HA:=Lh (areConditions_any a2 n2 c2 cnd bits w2 L2.i2 L2.h2 L2.m2 hb0 hb1);obtain ⟨ok,hok⟩:∃ x,cndOk bits cnd=x:=⟨_,rfl⟩;rw [hok] at HA;have hr3:=Hr3.out;rw [hok] at hr3;have Hr4:=Lh hr3;clear hok hr3 Hr3 v0 v1 v2 v3 v4 v5 u1 u2 u3 u4 L2
  by_cases hc0:cc=0
  ·have hr4:=Hr4.out
   rw [if_neg (by simp [hc0])] at hr4;have Hr5:=Lh hr4
   have hcb:(cc != 0)=false:=by simp [hc0]
   clear hr4 Hr4 hc0
   go_wp2_with fail
   refine (HF3.out _).mono ?_;rintro e wy ⟨rfl,rfl⟩
   cases f3
   ·have HF:Hid (r=13):=by show r=13;rw [<-Hr5.out];simp
    clear Hr5
    go_wp2_with fail
    go_ret
    exact ⟨congrArg (fun b=>Ending.returned (Value.int .i64 b)) HF.out.symm,HE2.out⟩
   ·have hr6:=Hr5.out
    rw [if_neg (by decide)] at hr6;have Hr6:=Lh hr6;clear hr6 Hr5
    go_wp2_with fail
    refine HA.out.mono ?_;rintro e wx ⟨rfl,rfl⟩
    cases ok
    ·have HF:Hid (r=14):=by show r=14;rw [<-Hr6.out];simp
     clear Hr6
     go_wp2_with fail
     go_ret
     exact ⟨congrArg (fun b=>Ending.returned (Value.int .i64 b)) HF.out.symm,HE2.out⟩
    ·have HF:Hid (r=0):=by show r=0;rw [<-Hr6.out];simp
     clear Hr6
     go_wp2_with fail
     go_ret
     exact ⟨congrArg (fun b=>Ending.returned (Value.int .i64 b)) HF.out.symm,HE2.out⟩
  ·have HF:Hid (r=cc):=by show r=cc;rw [<-Hr4.out,if_pos hc0]
   have hcb:(cc != 0)=true:=by simp [hc0]
   clear Hr4 hc0
   go_wp2_with fail
   go_ret
   exact ⟨congrArg (fun b=>Ending.returned (Value.int .i64 b)) HF.out.symm,HE2.out⟩
def plP (o:Gop):List Int:=o.ctl++tchQ o.kind o.q++tchB 12 o.kind o.bit++tchC 12 o.cnd
def placesFit (o:Gop):Prop:=(∀ t ∈ o.ctl,t<12)/\o.q<12/\0<=o.bit/\∀ t ∈ o.cnd,t≠0
end Go.Proofs.YtfjnlopbmkimiaaGreatDoor
