/-
  Writing numbers: chunkPowers. Writing numbers: Text. What the laws' walks share: bounds, calls whose answers are named, the document's example. Fractions in lowest terms: the only ones. Fractions of the program: what a value stands for; lowest, Over, Parts in these words. The program: a number so many times with itself; what a code's chances are. The program: can a code's chances be? CodeFails, in plain numbers: one sum over one product, and a running sum of fractions in lowest terms.
-/
import Derived.Test.YtjfomkoedgipjaaGreatDoorS21TxD
namespace Go.Proofs.YtjfomkoedgipjaaGreatDoor
set_option maxRecDepth 100000
set_option maxHeartbeats 8000000
open Go.RowKit
def OwnS (w:World) (e:TypeId) (v:Value) (xs:List Value):Prop :=
 ∃ g cap cur,v=.slice (some ⟨g,0,none⟩) xs.length cap/\w.heap[g]?=some (.cells cur e (0,0))/\xs.length<=cap/\cap<=maxLen/\cur.size=cap/\cur.toList.take xs.length=xs/\∀ u ∈ cur.toList,∃ a n c,u=.slice a n c
theorem OwnS.ext {w w':World} {e:TypeId} {v:Value} {xs:List Value} (h:OwnS w e v xs) (k:Ext w w'):OwnS w' e v xs:=by
 obtain ⟨g,cap,cur,rfl,hb,rest⟩:=h;exact ⟨g,cap,cur,rfl,(k.block g (gS.1 hb).1).trans hb,rest⟩
theorem OwnS.apart {w:World} {e:TypeId} {v:Value} {xs:List Value} (h:OwnS w e v xs) {b o:Nat} {u:Value} (hc:w.cell? ⟨b,o,none⟩=some u) (hu:∀ a n c,u≠.slice a n c):some b≠v.ownBlock:=by
 intro hb;obtain ⟨g,cap,cur,rfl,hg,_,_,_,_,hall⟩:=h;simp only [Value.ownBlock,yX] at hb;subst hb;rw [qD w b o cur e (0,0) hg] at hc;obtain ⟨a,n,c,hx⟩:=hall u (jL (by rw [Array.getElem?_toList];exact hc));exact hu a n c hx
theorem Seg.apdS {w w':World} {e:TypeId} {v v':Value} {xs:List Value} {ao:Option Addr} {la:List Nat} (h:Seg w ao la) (ho:OwnS w e v xs) (k:Apd w w' v v'):Seg w' ao la:=by
 rcases h with h | ⟨b,o,rfl,hb,hc⟩
 ·exact qM h
 ·exact qO ⟨b,o,rfl,qK hb k.grown.size,fun t ht=>k.grown.cell (hc t ht) (ho.apart (hc t ht) (fun a n c hx=>by cases hx))⟩
theorem OwnS.cells {w:World} {e:TypeId} {g n cap:Nat} {xs:List Value} (h:OwnS w e (.slice (some ⟨g,0,none⟩) n cap) xs) (t:Nat) (ht:t<xs.length):w.cell? ⟨g,t,none⟩=some xs[t]:=by
 obtain ⟨g',cap',cur,hv,hg,_,_,_,htk,_⟩:=h;simp only [Value.slice.injEq,yX,Addr.mk.injEq,and_true] at hv;obtain ⟨rfl,_,_⟩:=hv;rw [qD w g t cur e (0,0) hg]
 have h1:xs[t]?=cur.toList[t]?:=by
  rw [<-List.getElem?_take_of_lt (l:=cur.toList) ht,htk]
 rw [qX ht] at h1;rw [<-Array.getElem?_toList,<-h1]
theorem zero_slice (n:Nat):∀ u ∈ (Builtin.zeroCells (Value.slice none 0 0).cells n).toList,∃ a n c,u=.slice a n c:=by
 intro u hu
 simp [Builtin.zeroCells,Value.cells,Nat.mod_one] at hu
 exact ⟨none,0,0,hu.2.symm⟩
section
variable {P:Program} (w:World)
theorem run_append_row (t ty e:TypeId) (i:TypeInfo) (ht:P.underlying t=some (.slice e)) (hi:P.info? e=some i) (hz:i.zero=some (.slice none 0 0)) (hsize:i.size=1) (hby:i.bytes=24)
  (v:Value) (xs:List Value) (hown:OwnS w e v xs) (ad:Addr) (c:Nat) (p:Option Addr) (q r:Nat) (hnew:w.cell? ad=some (.slice p q r)) (hno:ad.add 0=ad) (hb:xs.length<=1000000) :
  ∃ v' w',(Builtin.append_ #[t,t] ty #[v,.slice (some ad) 1 c]).run P w=.ok v' w'/\OwnS w' e v' (xs++[.slice p q r])/\Apd w w' v v':=by
 obtain ⟨g,cap,cur,rfl,hg,hlc,hcm,hcs,htk,hall⟩:=hown
 have hl:([Value.slice p q r]:List Value).length=1*i.size:=by rw [hsize];rfl
 have hnews:∀ j u,([Value.slice p q r]:List Value)[j]?=some u->w.cell? (ad.add j)=some u:=by
  intro j u hu
  cases j with
  | zero =>
   simp only [List.getElem?_cons_zero,yX] at hu;rw [<-hu,hno];exact hnew
  | succ k=>simp at hu
 have h1:∀ u ∈ ([Value.slice p q r]:List Value),u.oneCell'=true:=by
  intro u hu;simp only [yG] at hu;subst hu
  rfl
 by_cases hroom:xs.length+1<=cap
 ·have hr:=run_append_room (P:=P) w t ty e i ht hi g xs.length cap cur hg ad 1 c _ hl hnews h1 hroom (by rw [hsize,hcs,Nat.mul_one];exact hroom)
  rw [hsize,Nat.mul_one] at hr;refine ⟨_,_,hr,⟨g,cap,_,by simp,setRow_heap w g cur _ e _ hg,by simp;exact hroom,hcm,?_,?_,?_⟩,⟨⟨rfl,rfl,rfl,by simp,fun k _ hk=>setRow_other w g k _ (fun h=>hk (by simp [Value.ownBlock,h]))⟩,qM rfl⟩⟩
  ·simp only [List.size_toArray,qT,qC,qF,Array.length_toList,jB,List.length_nil]
   omega
  ·rw [htk]
   exact List.take_left
  ·intro u hu
   simp only [jI,yG] at hu
   rcases hu with (hu | hu) | hu
   ·exact hall u (List.mem_of_mem_take hu)
   ·exact ⟨_,_,_,hu⟩
   ·exact hall u (List.mem_of_mem_drop hu)
 ·have holds:∀ j u,xs[j]?=some u->w.cell? ((⟨g,0,none⟩:Addr).add j)=some u:=by
   intro j u hu;rw [Lib.add_plain,qD w g _ cur e (0,0) hg,jH];rw [<-htk,jC] at hu
   split at hu
   ·simpa using hu
   ·cases hu
  have hr:=run_append_grow (P:=P) w t ty e i (.slice none 0 0) ht hi hz ⟨g,0,none⟩ xs.length cap xs (by rw [hsize,Nat.mul_one]) holds ad 1 c _ hl hnews (by omega) (by omega) (by rw [hby];exact growslice_fits (by omega) (by omega));have hge:=grownCap_ge w (xs.length+1) cap e;have hcm2:grownCap w (xs.length+1) cap e<=maxLen:=grownCap_le_maxLen w _ cap e (by unfold maxLen;omega);refine ⟨_,_,hr,⟨w.heap.size,_,_,by simp,qW w.drew _,by simp;exact hge,hcm2,?_,?_,?_⟩,⟨⟨rfl,rfl,rfl,by simp,fun k hk _=>Below.heap_alloc w.drew _ k hk⟩,qO ⟨_,rfl,qZ _⟩⟩⟩
  ·have hz1:(Value.slice none 0 0).cells.size=1:=rfl
   simp only [Array.size_append,List.size_toArray,size_zeroCells,hz1,jB,List.length_nil];omega
  ·simp only [Array.toList_append]
   exact List.take_left
  ·intro u hu
   simp only [Array.toList_append,jI,yG] at hu
   rcases hu with (hu | hu) | hu
   ·rw [<-htk] at hu;exact hall u (List.mem_of_mem_take hu)
   ·exact ⟨_,_,_,hu⟩
   ·exact zero_slice _ u hu
theorem wpList_append_row {ops:Array Oper} {rest:List Oper} {o:Oper} {a:Act} {Q:Exit->Act->World->Prop} (hgd:o.guard=none) (s x:Operand) (t:TypeId)
  (ho:o.op=.call { callee:=.builtin .append,args:=#[s,x],argTypes:=#[t,t] })
  (e:TypeId) (i:TypeInfo) (ht:P.underlying t=some (.slice e)) (hi:P.info? e=some i) (hz:i.zero=some (.slice none 0 0)) (hsize:i.size=1) (hby:i.bytes=24)
  (v:Value) (xs:List Value) (hs:a.eval s=v) (hown:OwnS w e v xs) (ad:Addr) (c:Nat) (p:Option Addr) (q r:Nat) (hx:a.eval x=.slice (some ad) 1 c) (hnew:w.cell? ad=some (.slice p q r)) (hno:ad.add 0=ad) (hb:xs.length<=1000000)
  (h:∀ v' w',OwnS w' e v' (xs++[.slice p q r])->Apd w w' v v'->wpList P ops Q rest (a.put o.dst v') w'):wpList P ops Q (o :: rest) a w:=by
 refine wpList_plain hgd fun _ hK=>?_
 obtain ⟨v',w',hr,h2,h3⟩:=run_append_row (P:=P) w t o.type e i ht hi hz hsize hby v xs hown ad c p q r hnew hno hb;unfold Oper.wp execOp;simp only [ho,resolve,invoke,builtin,Sem.run_bind,Sem.run_pure,Result.andThen_ok,List.map_toArray,yW,yI,hs,hx,hr];exact hK _ _ (h v' w' h2 h3)
end
theorem row_info:(Tryz.prog.info? 52).map (fun i=>(i.zero,i.size,i.bytes))=some (some (.slice none 0 0),1,24):=by kernel_rfl
theorem Pw_ge (j:Nat):2 ^ (63*2 ^ j)<=Pw j:=by
 induction j with
 | zero=>rw [Pw_zero];decide
 | succ k ih =>
  rw [Pw_succ,jK,<-jW,Nat.mul_two,jS];exact yS ih ih
theorem pw_few {j n N:Nat} (h:Pw j<B64 ^ n) (h2:2*n<=N+1) (hN:N<=100000):j<16:=by
 apply Nat.lt_of_not_le
 intro hj;have h3:=yQ (Pw_ge j) h;rw [B64_two,<-Nat.pow_mul] at h3;have h4:63*2 ^ j<64*n:=(Nat.pow_lt_pow_iff_right (by decide)).1 h3;have h5:(2:Nat) ^ 16<=2 ^ j:=qY (by decide) hj;omega
def PowRow (w:World) (xs:List Value):Prop:=∀ t,(h:t<xs.length)->Num w xs[t] (Pw t)
theorem PowRow.keep {w w':World} {xs:List Value} (h:PowRow w xs) (k:∀ ao l,Seg w ao l->Seg w' ao l):PowRow w' xs:=fun t ht=>(h t ht).keep k
theorem PowRow.snoc {w:World} {xs:List Value} {v:Value} (h:PowRow w xs) (hv:Num w v (Pw xs.length)):PowRow w (xs++[v]):=by
 intro t ht
 by_cases h1:t<xs.length
 ·rw [List.getElem_append_left h1];exact h t h1
 ·have ht1:t=xs.length:=by simp at ht;omega
  subst ht1;rw [List.getElem_append_right (qZ _)]
  simpa using hv
theorem pw_enough {n N:Nat} {l:List Nat} {j:Nat} (hl:l.length=n) (hr:Nrm l) (hv:val l=Pw j) (hn:1<=n) (h:N+1<2*n):B64 ^ N<=Pw (j+1):=by
 have h1:=hr.ge (by intro e;subst e;simp at hl;omega);rw [hl,hv] at h1;rw [Pw_succ];have h2:B64 ^ N<=B64 ^ ((n-1)+(n-1)):=qY B64_pos (by omega);rw [jS] at h2;exact qL h2 (yS h1 h1)
theorem chunkPowers_any (N:Nat) (hN:N<=100000) (w:World) :
  Calls Tryz.prog 116 #[.int .i64 N] w fun e w'=>∃ (k b cap:Nat),e=.returned (.slice (some ⟨b,0,none⟩) k cap)/\k<=20/\k<=cap/\cap<=maxLen/\Pows w' (some ⟨b,0,none⟩) k/\Hid (B64 ^ N<=Pw k)/\Ext w w':=by
 obtain ⟨i0,hi,hz0,hz1,hz2⟩:=info_parts row_info;have hsn:=Seg.new1 w 10000000000000000000 77;have hE1:=Ext.alloc w (.cells #[.int .u64 (10000000000000000000:Nat)] 77);have hE2:=Ext.alloc (w.alloc (.cells #[.int .u64 (10000000000000000000:Nat)] 77)) (.cells #[.slice (some ⟨w.heap.size,0,none⟩) 1 1] 52);have hs0:=hsn.ext hE2
 have ho0:OwnS ((w.alloc (.cells #[.int .u64 (10000000000000000000:Nat)] 77)).alloc (.cells #[.slice (some ⟨w.heap.size,0,none⟩) 1 1] 52)) 52 (.slice (some ⟨w.heap.size+1,0,none⟩) 1 1) [.slice (some ⟨w.heap.size,0,none⟩) 1 1]:=by
  refine ⟨w.heap.size+1,1,#[.slice (some ⟨w.heap.size,0,none⟩) 1 1],rfl,?_,by simp,by unfold maxLen;omega,rfl,rfl,?_⟩
  ·have:=qW (w.alloc (.cells #[.int .u64 (10000000000000000000:Nat)] 77)) (.cells #[.slice (some ⟨w.heap.size,0,none⟩) 1 1] 52)
   simpa using this
  ·intro u hu
   simp at hu
   exact ⟨_,_,_,hu⟩
 have hE:Ext w ((w.alloc (.cells #[.int .u64 (10000000000000000000:Nat)] 77)).alloc (.cells #[.slice (some ⟨w.heap.size,0,none⟩) 1 1] 52)):=hE1.trans hE2;have hd0:Dig [10000000000000000000]:=Dig.cons (by rw [B64_eq];omega) Dig.nil
 have hr0:Nrm [10000000000000000000]:=by unfold Nrm;decide
 have hv0:val [10000000000000000000]=Pw 0:=by rw [Pw_zero];simp [val]
 clear hsn hE1 hE2
 go_enter Tryz.func116,Tryz.ntmps116
 go_wp2_with fail
 generalize (w.alloc (.cells #[.int .u64 (10000000000000000000:Nat)] 77)).alloc (.cells #[.slice (some ⟨w.heap.size,0,none⟩) 1 1] 52)=W0 at *
 go_loopw [3,4] (fun lv pv wr=>∃ (j b cap:Nat) (xs:List Value) (ao:Option Addr) (l:List Nat) (n c:Nat),lv=.slice ao n c/\pv=.slice (some ⟨b,0,none⟩) (j+1) cap/\j<=16/\xs.length=j+1/\OwnS wr 52 pv xs/\PowRow wr xs/\l.length=n/\1<=n/\n<=c/\c<=maxLen/\n<=200000/\Seg wr ao l/\Dig l/\Nrm l/\val l=Pw j/\Ext w wr/\w.heap.size<=b)
  (fun _ pv _=>match pv with | .slice _ k _=>64-k | _=>0)
 case atStart =>
  exact ⟨0,w.heap.size+1,1,_,_,_,1,1,rfl,rfl,by omega,rfl,ho0,(fun t ht=>by
   have ht0:t=0:=by simpa using ht
   subst ht0
   exact ⟨_,_,1,rfl,qZ _,by unfold maxLen;omega,hs0,hd0,hr0,hv0⟩),rfl,qZ _,qZ _,by unfold maxLen;omega,by omega,hs0,hd0,hr0,hv0,hE,by omega⟩
 case round =>
  obtain ⟨j,b,cap,xs,ao,l,n,c,rfl,rfl,hj,hxl,hos,hpr,hl,hn1,hnc,hcm,hn2,hsg,hd,hr,hv,hEr,hbw⟩:=hrel;have Hxl:=hid hxl;have Hos:=hid hos;have Hpr:=hid hpr;have Hl:=hid hl;have Hsg:=hid hsg;have Hd:=hid hd;have Hr:=hid hr;have Hv:=hid hv;clear hxl hos hpr hl hsg hd hr hv
  by_cases hgo:2*n<=N+1
  ·have hj16:j<16:=pw_few (n:=n) (N:=N) (by rw [<-Hv.out,<-Hl.out];exact val_lt Hd.out) hgo hN
   have ig:2*(n:Int)-1<=(N:Int):=by omega
   go_wp2_with fail
   refine (mulOK_all 1000000 (by omega) ao ao l l n n c c wr Hl.out Hl.out Hsg.out Hsg.out Hd.out Hd.out hnc hnc hcm hcm (by omega)).mono ?_;rintro e w1 ⟨_,rfl,hnum,he1,_⟩;have hnum':Num w1 _ (Pw (j+1)):=hnum.cast (by rw [Hv.out,<-Pw_succ]);obtain ⟨a5,l5,n5,c5,rfl,hl5,hn5,hc5,hs5,hd5,hr5,hv5⟩:=hnum'.named;have Hos1:=hid (Hos.out.ext he1);have Hpr1:=hid (Hpr.out.keep (fun _ _ hs=>hs.ext he1))
   have hn5b:n5<=200000:=by
    rw [<-hl5];refine qL (lt_len (k:=n+n) hr5 ?_) (by omega);rw [hv5,Pw_succ,<-Hv.out,jS];have h1:=val_lt Hd.out;rw [Hl.out] at h1;exact Nat.mul_lt_mul'' h1 h1
   have hn51:1<=n5:=by
    rw [<-hl5]
    cases l5 with
    | nil=>have:=Pw_pos (j+1);rw [<-hv5] at this;simp [val] at this
    | cons x r=>simp
   have Hnum:=hid hnum';have Hl5:=hid hl5;have Hs5:=hid hs5;have Hd5:=hid hd5;have Hr5:=hid hr5;have Hv5:=hid hv5;have hxl:=Hxl.out;clear hnum hnum' hl5 hs5 hd5 hr5 hv5
   go_wp2_with (at_builtin;refine wpList_append_row _ rfl _ _ 156 rfl 52 i0 Tryz.underlying156 hi hz0 hz1 hz2 (.slice (some ⟨b,0,none⟩) (j+1) cap) xs rfl (Hos1.out.ext (Ext.alloc _ _)) ⟨w1.heap.size,0,none⟩ 1 a5 n5 c5 rfl (by simp) (Lib.add_plain _ _ _) (by omega) ?_;intro v' w' hown' hap')
   have ha1:=Ext.alloc w1 (.cells #[.slice a5 n5 c5] 52)
   have Hkp:Hid (∀ ao l,Seg w1 ao l->Seg w' ao l):=fun _ _ hs=>(hs.ext ha1).apdS (Hos1.out.ext ha1) hap'
   obtain ⟨b',cap',cur',rfl,hrest⟩:=hown'
   have hlen':(xs++[Value.slice a5 n5 c5]).length=j+1+1:=by rw [qT,hxl];rfl
   have hbw':w.heap.size<=b':=by
    rcases hap'.lies with h | ⟨g,h,hg⟩
    ·simp [Value.ownBlock] at h;omega
    ·simp only [Value.ownBlock,yX] at h
     subst h;have h1:=hEr.size;have h2:=he1.size;have h3:=ha1.size;omega
   have hEw:Ext w w':=by
    have h1:=(hEr.trans he1).trans ha1;refine ⟨hap'.grown.os.trans h1.os,hap'.grown.tape.trans h1.tape,hap'.grown.output.trans h1.output,qL h1.size hap'.grown.size,fun k hk=>(hap'.grown.block k (qK hk h1.size) ?_).trans (h1.block k hk)⟩;simp only [Value.ownBlock,ne_eq,yX];omega
   have hos':OwnS w' 52 (.slice (some ⟨b',0,none⟩) (j+1+1) cap') (xs++[Value.slice a5 n5 c5]):=⟨b',cap',cur',by rw [hlen'],hrest⟩;rw [hlen']
   go_roundw
   case rel=>exact ⟨j+1,b',cap',xs++[Value.slice a5 n5 c5],a5,l5,n5,c5,rfl,rfl,by omega,hlen',hos',(Hpr1.out.keep Hkp.out).snoc (by rw [hxl];exact Hnum.out.keep Hkp.out),Hl5.out,hn51,hn5,hc5,hn5b,Hkp.out _ _ Hs5.out,Hd5.out,Hr5.out,Hv5.out,hEw,hbw'⟩
   case measure=>show 64-(j+1+1)<64-(j+1);omega
  ·have ig:¬ 2*(n:Int)-1<=(N:Int):=by omega
   go_wp2_with fail
   go_ret
   have hos:=Hos.out
   have hcc:j+1<=cap/\cap<=maxLen:=by
    obtain ⟨g,cap2,cur,h1,_,h3,h4,_⟩:=hos;simp only [Value.slice.injEq] at h1;obtain ⟨_,h5,h6⟩:=h1;omega
   exact ⟨j+1,b,cap,rfl,by omega,hcc.1,hcc.2,qO ⟨b,rfl,fun t ht=>⟨_,hos.cells t (by rw [Hxl.out];exact ht),Hpr.out t (by rw [Hxl.out];exact ht)⟩⟩,pw_enough Hl.out Hr.out Hv.out hn1 (by omega),hEr⟩
theorem run_convert_own {w:World} {v:Value} {l:List UInt8} (h:Own w 5 v l) (hl:l≠[]):(convert 126 9 v).run Tryz.prog w=.ok (.string ⟨l.toArray⟩) w:=by
 rcases h with ⟨_,h⟩ | ⟨g,cap,cur,rfl,hg,_,_,_,htk,_⟩
 ·exact absurd h hl
 ·refine run_convert_bytes_back (P:=Tryz.prog) w 126 9 5 ⟨g,0,none⟩ cap l Tryz.underlying126 Tryz.underlying5 Tryz.underlying9 (fun j hj=>?_)
  rw [Lib.add_plain,jH,qD w g j cur _ (0,0) hg]
  have h1:(byC l)[j]?=cur.toList[j]?:=by
   rw [<-htk,jC,qU hj]
  rw [<-Array.getElem?_toList,<-h1]
  simp [byC,hj]
theorem room20 {k m:Nat} (h:k<=20) (hm:m<=1):m+19*2 ^ k<=1000000000:=by
 have:(2:Nat) ^ k<=2 ^ 20:=qY (by decide) h;omega
theorem decDigits_ne (x:Nat):Lib.decDigits x≠[]:=by
 intro h;have:=Lib.decDigits_length x;rw [h] at this;have:=Lib.nDigits_pos x
 simp at *
 omega
theorem Text_any (sm:Int) (ao:Option Addr) (n c:Nat) (z:Int) (w:World) (h:IsInt w sm ao n c z) (hn:n<=100000) (htab:Ten w) :
  Calls Tryz.prog 70 #[.agg #[.int .i64 sm,.slice ao n c]] w fun e w'=>e=.returned (.string ⟨(Lib.itoa z).toArray⟩)/\Ext w w':=by
 have q1:=eql_nil ao n c 0 0;have hEb:=Ext.alloc w (.cells #[.int .i64 sm,.slice ao n c] 54)
 rcases h with ⟨rfl,rfl,rfl,rfl,h1,h2⟩ | ⟨b,o,l,rfl,hl,hnc,hcm,hs,hd,hr,hz⟩
 ·have Hit:=hid (fun wx (hx:Ten wx)=>itoa_any sm h1 h2 wx hx)
  have Htab:=hid htab;clear htab
  go_enter Tryz.func70,Tryz.ntmps70
  go_wp2_with fail
  refine (Hit.out _ (tab_ext Htab.out hEb)).mono ?_;rintro e w1 ⟨rfl,he1⟩
  go_wp2_with fail
  go_ret
  exact ⟨rfl,hEb.trans he1⟩
 ·have hno:(some (⟨b,o,none⟩:Addr)).isNone=false:=rfl
  have hsm:sm=-1\/sm=1:=hz.elim (fun h=>qM h.1) (fun h=>qO h.1)
  have Hz:Hid (Lib.itoa z=(if sm<0 then [45] else [])++Lib.decDigits (val l)):=by
   show _=_
   rcases hz with ⟨rfl,rfl,h⟩ | ⟨rfl,rfl,h⟩
   ·unfold Lib.itoa
    rw [qU (by omega),qU (by omega)]
    simp
   ·unfold Lib.itoa
    rw [qE (by omega),qE (by omega)]
    simp
  obtain ⟨i0,hi,hz0,hz1,hz2⟩:=info_parts byte_info;have Htab:=hid htab;have Hcp:=hid (fun wx=>chunkPowers_any n hn wx)
  have hvl:val l<B64 ^ n:=by rw [<-hl];exact val_lt hd
  have Hvl:=hid hvl
  have Had:=hid (fun (k:Nat) (v:Value) (bl:List UInt8) (b5 cap:Nat) (wx:World) (h1:Seg wx (some ⟨b,o,none⟩) l) (h2:k<=20) (h3:k<=cap) (h4:cap<=maxLen) (h5:Pows wx (some ⟨b5,0,none⟩) k) (h6:Own wx 5 v bl) (h7:bl.length<=1) (h8:Ten wx) (h9:B64 ^ n<=Pw k) =>
   appendDigits_any k v bl (some ⟨b,o,none⟩) (some ⟨b5,0,none⟩) l n c cap false wx hl h1 hd hr hnc hcm (by omega) (hid (qK hvl h9)) h2 h3 h4 h5 h6 (hid (room20 h2 h7)) h8)
  have hs0:=hs.ext hEb;have Htb:=hid (tab_ext htab hEb)
  have c0:(w.alloc (.cells #[.int .i64 sm,.slice (some ⟨b,o,none⟩) n c] 54)).cell? ⟨w.heap.size,0,none⟩=some (.int .i64 sm):=by simp
  have c1:(w.alloc (.cells #[.int .i64 sm,.slice (some ⟨b,o,none⟩) n c] 54)).cell? ⟨w.heap.size,1,none⟩=some (.slice (some ⟨b,o,none⟩) n c):=by simp
  have hB:w.heap.size<(w.alloc (.cells #[.int .i64 sm,.slice (some ⟨b,o,none⟩) n c] 54)).heap.size:=by simp
  clear hz hvl hl hd hr hs htab
  rcases hsm with rfl | rfl
  ·have Hz':Hid (Lib.itoa z=([]++[45])++digs 0 false (val l)):=by
    show _=_
    rw [Hz.out];rfl
   go_enter Tryz.func70,Tryz.ntmps70
   go_wp2_with fail
   generalize w.alloc (.cells #[.int .i64 (-1),.slice (some ⟨b,o,none⟩) n c] 54)=W1 at *;refine (negative_any _ _ W1).mono ?_;rintro e w2 ⟨rfl,he2⟩
   go_wp2_with (at_builtin;refine wpList_append_bytes _ rfl _ _ 126 rfl 5 i0 Tryz.underlying126 hi hz0 hz1 hz2 (.slice none 0 0) [] rfl (Own.nil _ _) ⟨w2.heap.size,0,none⟩ 1 1 [45] rfl rfl (by omega) (new_byte w2 45 45 rfl _) (by simp) ?_;intro v3 w3 ho3 ha3)
   have hES:Ext w (w2.alloc (.cells #[.int .u8 45] 5)):=hEb.trans (he2.trans (Ext.alloc _ _));have hE3:Ext W1 w3:=he2.trans ((Ext.alloc _ _).trans ha3.ext);have hs3:=hs0.ext hE3;have Htb3:=hid (tab_ext Htb.out hE3);obtain ⟨d0,d1⟩:=keep2 hE3 hB c0 c1
   have hB3:w.heap.size<w3.heap.size:=by have:=hE3.size;omega
   have hE0d:Ext w3 w3.drew:=qG (Ext.refl _);clear c0 c1 hB
   go_region_with (first
    | (go_at_call 116;refine (Hcp.out _).mono ?_;rintro e w5 ⟨k5,b5,cap5,rfl,hk5,hk6,hk7,hp5,hw5,hx5⟩;have he5:Ext w3 w5:=Ext.trans (by assumption) hx5;have ho5:=ho3.ext he5;obtain ⟨y0,y1⟩:=keep2 he5 hB3 d0 d1)
    | (go_at_call 115;refine (Had.out k5 v3 _ b5 cap5 w5 (hs3.ext he5) hk5 hk6 hk7 hp5 ho5 (by simp) (tab_ext Htb3.out he5) hw5.out).mono ?_;rintro e w6 ⟨v6,rfl,ho6,ha6⟩;have hcv:=run_convert_own ho6 (by simp)))
   all_goals
    go_wp2_with fail
    go_ret
    exact ⟨by rw [Hz'.out];rfl,hES.trans ((ha3.trans (Apd.of_ext he5 _)).trans ha6).ext⟩
  ·have Hz':Hid (Lib.itoa z=[]++digs 0 false (val l)):=by
    show _=_
    rw [Hz.out];rfl
   go_enter Tryz.func70,Tryz.ntmps70
   go_wp2_with fail
   generalize w.alloc (.cells #[.int .i64 1,.slice (some ⟨b,o,none⟩) n c] 54)=W1 at *;refine (negative_any _ _ W1).mono ?_;rintro e w3 ⟨rfl,hE3⟩
   go_wp2_with fail
   have ho3:=Own.nil w3 5;have hs3:=hs0.ext hE3;have Htb3:=hid (tab_ext Htb.out hE3);obtain ⟨d0,d1⟩:=keep2 hE3 hB c0 c1
   have hB3:w.heap.size<w3.heap.size:=by have:=hE3.size;omega
   have hE0d:Ext w3 w3.drew:=qG (Ext.refl _);clear c0 c1 hB
   go_region_with (first
    | (go_at_call 116;refine (Hcp.out _).mono ?_;rintro e w5 ⟨k5,b5,cap5,rfl,hk5,hk6,hk7,hp5,hw5,hx5⟩;have he5:Ext w3 w5:=Ext.trans (by assumption) hx5;have ho5:=ho3.ext he5;obtain ⟨y0,y1⟩:=keep2 he5 hB3 d0 d1)
    | (go_at_call 115;refine (Had.out k5 (.slice none 0 0) _ b5 cap5 w5 (hs3.ext he5) hk5 hk6 hk7 hp5 ho5 (by simp) (tab_ext Htb3.out he5) hw5.out).mono ?_;rintro e w6 ⟨v6,rfl,ho6,ha6⟩;have hcv:=run_convert_own ho6 (by simp only [List.nil_append];exact decDigits_ne _)))
   all_goals
    go_wp2_with fail
    go_ret
    exact ⟨by rw [Hz'.out];rfl,hEb.trans (hE3.trans ((Apd.of_ext he5 _).trans ha6).ext)⟩
theorem Cmp_is {w:World} {s1 s2:Int} {a1 a2:Option Addr} {n1 c1 n2 c2:Nat} {z1 z2:Int} (k:Int) (h1:IsInt w s1 a1 n1 c1 z1) (h2:IsInt w s2 a2 n2 c2 z2) (K:Nat) (hK:K<=4194304) (hf1:Fit K z1) (hf2:Fit K z2) (hk:cmp3 z1 z2=k) :
  Calls Tryz.prog 55 #[.agg #[.int .i64 s1,.slice a1 n1 c1],.agg #[.int .i64 s2,.slice a2 n2 c2]] w fun e w'=>e=.returned (.int .i64 k)/\Ext w w':=by
 rw [<-hk];exact Cmp_any s1 s2 a1 a2 n1 c1 n2 c2 z1 z2 w h1 h2 K hK hf1 hf2
theorem Gcd_all (s1 s2:Int) (a1 a2:Option Addr) (n1 c1 n2 c2:Nat) (z1 z2:Int) (w:World) (h1:IsInt w s1 a1 n1 c1 z1) (h2:IsInt w s2 a2 n2 c2 z2) (K:Nat) (hK:K<=4194304) (hK1:1<=K) (hf1:Fit K z1) (hf2:Fit K z2) (hbr:Bru w) :
  Calls Tryz.prog 54 #[.agg #[.int .i64 s1,.slice a1 n1 c1],.agg #[.int .i64 s2,.slice a2 n2 c2]] w fun e w'=>∃ (s':Int) (a':Option Addr) (n' c':Nat),e=.returned (.agg #[.int .i64 s',.slice a' n' c'])/\IsInt w' s' a' n' c' (Nat.gcd z1.natAbs z2.natAbs:Nat)/\Ext w w':=by
 by_cases h:z1=0\/z2=0
 ·exact Gcd_zero s1 s2 a1 a2 n1 c1 n2 c2 z1 z2 w h1 h2 K hK hf1 hf2 h
 ·exact Gcd_any s1 s2 a1 a2 n1 c1 n2 c2 z1 z2 w h1 h2 K hK hK1 hf1 hf2 (fun k=>h (qM k)) (fun k=>h (qO k)) hbr
structure FBx (W:World) (g:Nat) (u v:Int):Prop where
 row:W.heap[g]?=some (.cells #[.int .i64 u,.int .i64 v] 26 (0,0))
theorem FBx.c0 {W:World} {g:Nat} {u v:Int} (h:FBx W g u v):W.cell? ⟨g,0,none⟩=some (.int .i64 u):=by rw [qD W g 0 _ _ (0,0) h.row];rfl
theorem FBx.c1 {W:World} {g:Nat} {u v:Int} (h:FBx W g u v):W.cell? ⟨g,1,none⟩=some (.int .i64 v):=by rw [qD W g 1 _ _ (0,0) h.row];rfl
theorem fbx_new (w:World) (u v:Int):FBx (w.alloc (.cells #[.int .i64 u,.int .i64 v] 26)) w.heap.size u v:=⟨qW w _⟩
structure QBx (W:World) (g:Nat) (s:Int) (a:Option Addr) (n c:Nat) (s':Int) (a':Option Addr) (n' c':Nat):Prop where
 row:W.heap[g]?=some (.cells #[.int .i64 s,.slice a n c,.int .i64 s',.slice a' n' c'] 56 (0,0))
theorem QBx.c0 {W:World} {g:Nat} {s:Int} {a:Option Addr} {n c:Nat} {s':Int} {a':Option Addr} {n' c':Nat} (h:QBx W g s a n c s' a' n' c'):W.cell? ⟨g,0,none⟩=some (.int .i64 s):=by rw [qD W g 0 _ _ (0,0) h.row];rfl
theorem QBx.c1 {W:World} {g:Nat} {s:Int} {a:Option Addr} {n c:Nat} {s':Int} {a':Option Addr} {n' c':Nat} (h:QBx W g s a n c s' a' n' c'):W.cell? ⟨g,1,none⟩=some (.slice a n c):=by rw [qD W g 1 _ _ (0,0) h.row];rfl
theorem QBx.c2 {W:World} {g:Nat} {s:Int} {a:Option Addr} {n c:Nat} {s':Int} {a':Option Addr} {n' c':Nat} (h:QBx W g s a n c s' a' n' c'):W.cell? ⟨g,2,none⟩=some (.int .i64 s'):=by rw [qD W g 2 _ _ (0,0) h.row];rfl
theorem QBx.c3 {W:World} {g:Nat} {s:Int} {a:Option Addr} {n c:Nat} {s':Int} {a':Option Addr} {n' c':Nat} (h:QBx W g s a n c s' a' n' c'):W.cell? ⟨g,3,none⟩=some (.slice a' n' c'):=by rw [qD W g 3 _ _ (0,0) h.row];rfl
theorem qbx_new (w:World) (s:Int) (a:Option Addr) (n c:Nat) (s':Int) (a':Option Addr) (n' c':Nat):QBx (w.alloc (.cells #[.int .i64 s,.slice a n c,.int .i64 s',.slice a' n' c'] 56)) w.heap.size s a n c s' a' n' c':=⟨qW w _⟩
theorem one_text:Lib.itoa ((1:Nat):Int)=[49]:=by
 unfold Lib.itoa;rw [qE (by decide),show (((1:Nat):Int)).toNat=1 from rfl,Lib.decDigits_one (by decide)]
 decide
def nfk (z1 z2:Int):Int:=if z2<0 then -((Nat.gcd z1.natAbs z2.natAbs:Nat):Int) else ((Nat.gcd z1.natAbs z2.natAbs:Nat):Int)
def nfp (z1 z2:Int):Int:=if z2=0 then 0 else z1 / nfk z1 z2
def nfq (z1 z2:Int):Int:=if z2=0 then 1 else z2 / nfk z1 z2
theorem nf_of {z1 z2 p q:Int} (hz:z2≠0) (hq:0<q) (hco:Nat.gcd p.natAbs q.natAbs=1) (he:p*z2=q*z1):p=nfp z1 z2/\q=nfq z1 z2:=by
 have h1:q.natAbs ∣ p.natAbs*z2.natAbs:=by
  rw [<-Int.natAbs_mul,he,Int.natAbs_mul];exact Nat.dvd_mul_right _ _
 have h2:q.natAbs ∣ z2.natAbs:=Nat.Coprime.dvd_of_dvd_mul_left (show Nat.Coprime q.natAbs p.natAbs by unfold Nat.Coprime;rw [Nat.gcd_comm];exact hco) h1;obtain ⟨k,hk⟩:q ∣ z2:=Int.natAbs_dvd_natAbs.1 h2
 have hk0:k≠0:=fun e=>hz (by rw [hk,e,Int.mul_zero])
 have hz1:z1=p*k:=by
  rw [hk] at he
  have h3:q*(p*k)=q*z1:=by rw [<-he,<-Int.mul_assoc,<-Int.mul_assoc,yR q p]
  exact (Int.eq_of_mul_eq_mul_left (by omega) h3).symm
 have hg:Nat.gcd z1.natAbs z2.natAbs=k.natAbs:=by
  rw [hz1,hk,Int.natAbs_mul,Int.natAbs_mul,Nat.gcd_mul_right,hco,Nat.one_mul]
 have hkk:nfk z1 z2=k:=by
  unfold nfk;rw [hg]
  by_cases hn:k<0
  ·have:z2<0:=by rw [hk];exact Int.mul_neg_of_pos_of_neg hq hn
   rw [qU this];omega
  ·have:0<z2:=by rw [hk];exact Int.mul_pos hq (by omega)
   rw [qE (by omega)];omega
 refine ⟨?_,?_⟩
 ·unfold nfp;rw [qE hz,hkk,hz1,Int.mul_ediv_cancel _ hk0]
 ·unfold nfq;rw [qE hz,hkk,hk,Int.mul_ediv_cancel _ hk0]
theorem nf_zero (z:Int):nfp z 0=0/\nfq z 0=1:=⟨by unfold nfp;rw [qU rfl],by unfold nfq;rw [qU rfl]⟩
theorem nf_self {a b:Int} (hb:0<b) (h:Nat.gcd a.natAbs b.natAbs=1):nfp a b=a/\nfq a b=b:=by
 obtain ⟨h1,h2⟩:=nf_of (z1:=a) (z2:=b) (p:=a) (q:=b) (by omega) hb h (yR _ _);exact ⟨h1.symm,h2.symm⟩
theorem nf_one (a:Int):nfp a 1=a/\nfq a 1=1:=nf_self (by omega) (by simp)
theorem nfk_ne {z1 z2:Int} (hz:z2≠0):nfk z1 z2≠0:=by
 have hg:0<Nat.gcd z1.natAbs z2.natAbs:=Nat.gcd_pos_of_pos_right _ (by omega)
 unfold nfk;split<;>omega
theorem nfk_dvd (z1 z2:Int):nfk z1 z2 ∣ z1/\nfk z1 z2 ∣ z2:=by
 have h1:((Nat.gcd z1.natAbs z2.natAbs:Nat):Int) ∣ z1:=Int.ofNat_dvd_left.2 (Nat.gcd_dvd_left _ _);have h2:((Nat.gcd z1.natAbs z2.natAbs:Nat):Int) ∣ z2:=Int.ofNat_dvd_left.2 (Nat.gcd_dvd_right _ _);unfold nfk
 split
 ·exact ⟨Int.neg_dvd.2 h1,Int.neg_dvd.2 h2⟩
 ·exact ⟨h1,h2⟩
theorem nfp_le (z1 z2:Int):(nfp z1 z2).natAbs<=z1.natAbs:=by
 unfold nfp;split
 ·exact qI _
 ·exact Int.natAbs_ediv_le_natAbs _ _
theorem nfq_pos (z1 z2:Int):0<nfq z1 z2:=by
 unfold nfq;split
 ·omega
 ·rename_i hz
  have hk:=nfk_ne (z1:=z1) hz;obtain ⟨c,hc⟩:=(nfk_dvd z1 z2).2
  have e:z2 / nfk z1 z2=c:=by
   generalize nfk z1 z2=k at hc hk;rw [hc,yR,Int.mul_ediv_cancel _ hk]
  rw [e]
  have hc0:c≠0:=fun h=>hz (by rw [hc,h,Int.mul_zero])
  apply yB
  intro hn
  have hcn:c<0:=by omega
  by_cases h2:z2<0
  ·have hkn:nfk z1 z2<0:=by
    have:nfk z1 z2=-((Nat.gcd z1.natAbs z2.natAbs:Nat):Int):=by unfold nfk;rw [qU h2]
    omega
   have:=Int.mul_pos_of_neg_of_neg hkn hcn;omega
  ·have hkp:0<nfk z1 z2:=by
    have:nfk z1 z2=((Nat.gcd z1.natAbs z2.natAbs:Nat):Int):=by unfold nfk;rw [qE h2]
    omega
   have:=Int.mul_neg_of_pos_of_neg hkp hcn;omega
theorem nfq_le (z1 z2:Int) (h:z2≠0):(nfq z1 z2).natAbs<=z2.natAbs:=by
 unfold nfq;rw [qE h];exact Int.natAbs_ediv_le_natAbs _ _
theorem nfq_less {z1 z2:Int} (hz:0<z2) (hg:Nat.gcd z1.natAbs z2.natAbs≠1):nfq z1 z2<z2:=by
 have hgp:0<Nat.gcd z1.natAbs z2.natAbs:=Nat.gcd_pos_of_pos_right _ (by omega);unfold nfq nfk;rw [qE (by omega),qE (by omega)];exact Int.ediv_lt_self_of_pos_of_ne_one (by omega) (by omega)
def IsFr (w:World) (s:Int) (a:Option Addr) (n c:Nat) (s':Int) (a':Option Addr) (n' c':Nat) (P Q:Int):Prop :=
 ∃ q,IsInt w s a n c P/\IsInt w s' a' n' c' q/\Q=if P=0 then 1 else q
theorem IsFr.ext {w w':World} {s:Int} {a:Option Addr} {n c:Nat} {s':Int} {a':Option Addr} {n' c':Nat} {P Q:Int} (h:IsFr w s a n c s' a' n' c' P Q) (k:Ext w w'):IsFr w' s a n c s' a' n' c' P Q:=by
 obtain ⟨q,h1,h2,h3⟩:=h;exact ⟨q,h1.ext k,h2.ext k,h3⟩
theorem IsFr.keep64 {w w':World} {s:Int} {a:Option Addr} {n c:Nat} {s':Int} {a':Option Addr} {n' c':Nat} {P Q:Int} (h:IsFr w s a n c s' a' n' c' P Q) (k:Keep64 w w'):IsFr w' s a n c s' a' n' c' P Q:=by
 obtain ⟨q,h1,h2,h3⟩:=h;exact ⟨q,h1.keep64 k,h2.keep64 k,h3⟩
theorem IsFr.cast {w:World} {s:Int} {a:Option Addr} {n c:Nat} {s':Int} {a':Option Addr} {n' c':Nat} {P Q P' Q':Int} (h:IsFr w s a n c s' a' n' c' P Q) (e1:P=P') (e2:Q=Q'):IsFr w s a n c s' a' n' c' P' Q':=e1 ▸ e2 ▸ h
theorem IsFr.zero (w:World):IsFr w 0 Option.none 0 0 0 Option.none 0 0 0 1:=⟨0,IsInt.small _ 0 (by omega) (by omega),IsInt.small _ 0 (by omega) (by omega),by rw [qU rfl]⟩
theorem QBx.lt {W:World} {g:Nat} {s:Int} {a:Option Addr} {n c:Nat} {s':Int} {a':Option Addr} {n' c':Nat} (h:QBx W g s a n c s' a' n' c'):g<W.heap.size:=(gS.1 h.row).1
theorem QBx.ext {W W':World} {g:Nat} {s:Int} {a:Option Addr} {n c:Nat} {s':Int} {a':Option Addr} {n' c':Nat} (h:QBx W g s a n c s' a' n' c') (k:Ext W W'):QBx W' g s a n c s' a' n' c':=⟨(k.block _ h.lt).trans h.row⟩
def QRet (w:World) (P Q:Int) (e:Ending) (w':World):Prop :=
 ∃ (s:Int) (a:Option Addr) (n c:Nat) (s':Int) (a':Option Addr) (n' c':Nat),e=.returned (.agg #[.int .i64 s,.slice a n c,.int .i64 s',.slice a' n' c'])/\IsFr w' s a n c s' a' n' c' P Q/\Ext w w'
def QRetF (w:World) (P Q C:Int) (e:Ending) (w':World):Prop :=
 ∃ (s:Int) (a:Option Addr) (n c:Nat) (s':Int) (a':Option Addr) (n' c':Nat),e=.returned (.tuple #[.agg #[.int .i64 s,.slice a n c,.int .i64 s',.slice a' n' c'],.agg #[.int .i64 C,.int .i64 0]])/\IsFr w' s a n c s' a' n' c' P Q/\Ext w w'
theorem Parts_fr (s s':Int) (a a':Option Addr) (n c n' c':Nat) (P Q:Int) (w:World) (h:IsFr w s a n c s' a' n' c' P Q) :
  Calls Tryz.prog 57 #[.agg #[.int .i64 s,.slice a n c,.int .i64 s',.slice a' n' c']] w fun e w'=>∃ (s3:Int) (a3:Option Addr) (n3 c3:Nat) (s4:Int) (a4:Option Addr) (n4 c4:Nat),e=.returned (.tuple #[.agg #[.int .i64 s3,.slice a3 n3 c3],.agg #[.int .i64 s4,.slice a4 n4 c4]])/\IsInt w' s3 a3 n3 c3 P/\IsInt w' s4 a4 n4 c4 Q/\Ext w w':=by
 obtain ⟨q,h1,h2,h3⟩:=h;rw [h3];exact Parts_any s s' a a' n c n' c' P q w h1 h2
theorem low_fr {w:World} {s:Int} {a:Option Addr} {n c:Nat} {s':Int} {a':Option Addr} {n' c':Nat} {z1 z2 p q:Int} (hz2:z2≠0) (h1:IsInt w s a n c p) (h2:IsInt w s' a' n' c' q) (h0:z1=0->p=0/\q=0) (hl:z1≠0->IsLow z1 z2 p q):IsFr w s a n c s' a' n' c' (nfp z1 z2) (nfq z1 z2):=by
 by_cases hz:z1=0
 ·obtain ⟨rfl,rfl⟩:=h0 hz
  subst hz;obtain ⟨g1,g2⟩:=nf_of (z1:=0) (z2:=z2) (p:=0) (q:=1) hz2 (by omega) (by decide) (by simp);rw [<-g1,<-g2];exact ⟨0,h1,h2,by rw [qU rfl]⟩
 ·have hk:=hl hz
  obtain ⟨g1,g2⟩:=nf_of hz2 hk.pos hk.co hk.eq;rw [<-g1,<-g2];exact ⟨q,h1,h2,by rw [qE hk.ne]⟩
theorem lowest_fr (s1 s2:Int) (a1 a2:Option Addr) (n1 c1 n2 c2:Nat) (z1 z2:Int) (w:World) (h1:IsInt w s1 a1 n1 c1 z1) (h2:IsInt w s2 a2 n2 c2 z2) (K:Nat) (hK:K<=4194304) (hK1:1<=K) (hf1:Fit K z1) (hf2:Fit K z2) (hz2:z2≠0) (hbr:Bru w) :
  Calls Tryz.prog 90 #[.agg #[.int .i64 s1,.slice a1 n1 c1],.agg #[.int .i64 s2,.slice a2 n2 c2]] w (QRet w (nfp z1 z2) (nfq z1 z2)) :=
 (lowest_any s1 s2 a1 a2 n1 c1 n2 c2 z1 z2 w h1 h2 K hK hK1 hf1 hf2 hz2 hbr).mono fun _ _ ⟨s,a,n,c,s',a',n',c',_,_,e,i1,i2,h0,hl,hx⟩=>⟨s,a,n,c,s',a',n',c',e,low_fr hz2 i1 i2 h0 hl,hx⟩
theorem Over_zero (s1 s2:Int) (a1 a2:Option Addr) (n1 c1 n2 c2:Nat) (w:World) (h2:IsInt w s2 a2 n2 c2 0) :
  Calls Tryz.prog 63 #[.agg #[.int .i64 s1,.slice a1 n1 c1],.agg #[.int .i64 s2,.slice a2 n2 c2]] w (QRetF w 0 1 4):=by
 have Hs2:=hid (Sign_any s2 (.slice a2 n2 c2));have hc2:=h2.cmp3
 have hc0:cmp3 (0:Int) 0=0:=by decide
 rw [hc0] at hc2;rw [hc2] at Hs2;clear h2 hc2 hc0;have hbx:=boxed2 w (.int .i64 s1) (.slice a1 n1 c1) (.int .i64 s2) (.slice a2 n2 c2);have E0:=(hbx.ext.then (.cells #[.int .i64 0,.slice none 0 0,.int .i64 0,.slice none 0 0] 56)).then (.cells #[.int .i64 0,.int .i64 0] 26)
 have qx:QRes ((((w.alloc (.cells #[.int .i64 s1,.slice a1 n1 c1] 54)).alloc (.cells #[.int .i64 s2,.slice a2 n2 c2] 54)).alloc (.cells #[.int .i64 0,.slice none 0 0,.int .i64 0,.slice none 0 0] 56)).alloc (.cells #[.int .i64 0,.int .i64 0] 26)) (w.heap.size+1+1):=by
  have:=qW ((w.alloc (.cells #[.int .i64 s1,.slice a1 n1 c1] 54)).alloc (.cells #[.int .i64 s2,.slice a2 n2 c2] 54)) (.cells #[.int .i64 0,.slice none 0 0,.int .i64 0,.slice none 0 0] 56);have q:QRes (((w.alloc (.cells #[.int .i64 s1,.slice a1 n1 c1] 54)).alloc (.cells #[.int .i64 s2,.slice a2 n2 c2] 54)).alloc (.cells #[.int .i64 0,.slice none 0 0,.int .i64 0,.slice none 0 0] 56)) (w.heap.size+1+1):=⟨by simpa using this⟩;exact q.ext (Ext.alloc _ _)
 have fx:FRes ((((w.alloc (.cells #[.int .i64 s1,.slice a1 n1 c1] 54)).alloc (.cells #[.int .i64 s2,.slice a2 n2 c2] 54)).alloc (.cells #[.int .i64 0,.slice none 0 0,.int .i64 0,.slice none 0 0] 56)).alloc (.cells #[.int .i64 0,.int .i64 0] 26)) (w.heap.size+1+1+1):=by
  have:=qW (((w.alloc (.cells #[.int .i64 s1,.slice a1 n1 c1] 54)).alloc (.cells #[.int .i64 s2,.slice a2 n2 c2] 54)).alloc (.cells #[.int .i64 0,.slice none 0 0,.int .i64 0,.slice none 0 0] 56)) (.cells #[.int .i64 0,.int .i64 0] 26);exact ⟨by simp,by simpa using this⟩
 go_enter Tryz.func63,Tryz.ntmps63
 go_wp2_with fail
 generalize (((w.alloc (.cells #[.int .i64 s1,.slice a1 n1 c1] 54)).alloc (.cells #[.int .i64 s2,.slice a2 n2 c2] 54)).alloc (.cells #[.int .i64 0,.slice none 0 0,.int .i64 0,.slice none 0 0] 56)).alloc (.cells #[.int .i64 0,.int .i64 0] 26)=W0 at *;refine (Hs2.out _).mono ?_;rintro e wf ⟨rfl,hxe⟩;have qe:=qx.ext hxe;have fe:=fx.ext hxe;have q0:=qe.c0;have q1:=qe.c1;have q2:=qe.c2;have q3:=qe.c3;have f0:=qe.f0 0;have f1:=qe.f0 1;have f2:=qe.f0 2;have f3:=qe.f0 3;have q4:=fe.c0;have q5:=fe.c1;have f4:=fe.f0;have f5:=fe.f1;have HE:=hid (E0.trans hxe)
 go_wp2_with fail
 exact qJ (v:=.tuple #[.agg #[.int .i64 0,.slice none 0 0,.int .i64 0,.slice none 0 0],.agg #[.int .i64 4,.int .i64 0]]) (by simp [results,Tryz.results63,go_sem,q0,q1,q2,q3,q4,q5]) rfl ⟨0,none,0,0,0,none,0,0,rfl,IsFr.zero _,((HE.out.put2 (by omega) _ _).put2 (by omega) _ _).put2 (by omega) _ _⟩
def ovc (y:Int):Int:=if y=0 then 4 else 0
theorem Over_fr (s1 s2:Int) (a1 a2:Option Addr) (n1 c1 n2 c2:Nat) (z1 z2:Int) (w:World) (h1:IsInt w s1 a1 n1 c1 z1) (h2:IsInt w s2 a2 n2 c2 z2) (K:Nat) (hK:K<=4194304) (hK1:1<=K) (hf1:Fit K z1) (hf2:Fit K z2) (hbr:Bru w) :
  Calls Tryz.prog 63 #[.agg #[.int .i64 s1,.slice a1 n1 c1],.agg #[.int .i64 s2,.slice a2 n2 c2]] w (QRetF w (nfp z1 z2) (nfq z1 z2) (ovc z2)):=by
 by_cases hz:z2=0
 ·subst hz
  rw [(nf_zero z1).1,(nf_zero z1).2,show ovc 0=4 from by unfold ovc;rw [qU rfl]];exact Over_zero s1 s2 a1 a2 n1 c1 n2 c2 w h2
 ·rw [show ovc z2=0 from by unfold ovc;rw [qE hz]]
  exact (Over_any s1 s2 a1 a2 n1 c1 n2 c2 z1 z2 w h1 h2 K hK hK1 hf1 hf2 hz hbr).mono fun _ _ ⟨s,a,n,c,s',a',n',c',_,_,e,i1,i2,h0,hl,hx⟩=>⟨s,a,n,c,s',a',n',c',e,low_fr hz i1 i2 h0 hl,hx⟩
def VarI (w:World) (g:Nat) (z:Int):Prop:=∃ (s:Int) (a:Option Addr) (n c:Nat),Box w g s a n c/\IsInt w s a n c z
theorem Box.keepI {w:World} {k:Nat} {s:Int} {a:Option Addr} {n c:Nat} (h:Box w k s a n c) (s':Int) (a':Option Addr) (n' c':Nat):Keep64 w ((w.setCell ⟨k,0,none⟩ (.int .i64 s')).setCell ⟨k,1,none⟩ (.slice a' n' c')) :=
 Keep64.set2 (.i64 h.c0) (.slice h.c1) (notW_i64 s') (.slice a' n' c')
theorem Box.put2I {w:World} {g k:Nat} {s:Int} {a:Option Addr} {n c:Nat} (h:Box w g s a n c) (hne:g≠k) (u v:Value):Box ((w.setCell ⟨k,0,none⟩ u).setCell ⟨k,1,none⟩ v) g s a n c:=(h.put hne u).put hne v
def IRet (w:World) (z:Int) (e:Ending) (w':World):Prop :=
 ∃ (s':Int) (a':Option Addr) (n' c':Nat),e=.returned (.agg #[.int .i64 s',.slice a' n' c'])/\IsInt w' s' a' n' c' z/\Ext w w'
theorem power_any (s:Int) (a:Option Addr) (n c:Nat) (z:Int) (k:Nat) (hk:k<=4096) (w:World) (h:IsInt w s a n c z) (K:Nat) (hK:K<=4194304) (hf1:Fit K z) (hf:∀ i,i<=k->Fit K (z ^ i)) :
  Calls Tryz.prog 61 #[.agg #[.int .i64 s,.slice a n c],.int .i64 (k:Int)] w (IRet w (z ^ k)):=by
 obtain ⟨H,hH⟩:∃ H,w.heap.size=H:=⟨_,rfl⟩;obtain ⟨W0,hW0⟩:∃ W0,(w.alloc (.cells #[.int .i64 s,.slice a n c] 54)).alloc (.cells #[.int .i64 0,.slice none 0 0] 54)=W0:=⟨_,rfl⟩
 have E0:Ext w W0:=by rw [<-hW0];exact (Ext.alloc w _).then _
 have B0:Box W0 H s a n c:=by rw [<-hW0,<-hH];exact (box_new w s a n c).ext (Ext.alloc _ _)
 have R0:Box W0 (H+1) 0 none 0 0:=by
  have:=box_new (w.alloc (.cells #[.int .i64 s,.slice a n c] 54)) 0 none 0 0;rw [hW0,yO,hH] at this;exact this
 have HE0:=hid E0;have HB:=hid B0;have HR:=hid R0;have HI:=hid (h.ext E0);have Hf:=hid hf;have Hf1:=hid hf1;have HW0:=hid hW0;have HH:=hid hH;have HK:=hid hK;have Hk:=hid hk;have HOf:=hid (fun wx=>Of_any 1 (by decide) (by decide) wx);clear E0 B0 R0 h hf hf1 hW0 hH hK hk
 go_enter Tryz.func61,Tryz.ntmps61
 go_upto_region 1 with fail
 rw [HW0.out,HH.out]
 go_wp2_with fail
 refine (HOf.out W0).mono ?_;rintro e w1 ⟨rfl,i1,hx1⟩;obtain ⟨G,hG⟩:∃ G,w1.heap.size=G:=⟨_,rfl⟩;have HG:=hid hG;have HX1:=hid hx1;have HI1:=hid i1;clear hG hx1 i1
 go_upto_region 2 with fail
 obtain ⟨W1,hW1⟩:∃ W1,w1.alloc (.cells #[.int .i64 1,.slice none 0 0] 54)=W1:=⟨_,rfl⟩
 have E1:Ext w1 W1:=by rw [<-hW1];exact Ext.alloc _ _
 have BG:Box W1 G 1 none 0 0:=by rw [<-hW1,<-HG.out];exact box_new w1 1 none 0 0
 have HBG:=hid BG;have HE1:=hid (HX1.out.trans E1);have HIG:=hid (HI1.out.ext E1);have Hne:=hid (show H+1<G by rw [<-HG.out];exact qK HR.out.lt HX1.out.size);rw [HG.out,hW1];clear hW1 E1 BG HG HOf
 go_wp2_with fail
 go_loopg [8] k (fun kk s8 wr=>∃ i:Nat,s8=.int .i64 (i:Int)/\i<=k/\k-i=kk/\VarI wr G (z ^ i)/\Box wr H s a n c/\Box wr (H+1) 0 none 0 0/\IsInt wr s a n c z/\Ext w wr)
 case atStart=>exact ⟨0,rfl,qI _,rfl,⟨1,none,0,0,HBG.out,by rw [Int.pow_zero];exact HIG.out⟩,HB.out.ext HE1.out,HR.out.ext HE1.out,HI.out.ext HE1.out,HE0.out.trans HE1.out⟩
 case round =>
  obtain ⟨i,rfl,hi,hkk,⟨s3,a3,n3,c3,b3,i3⟩,bH,bR,iz,hx⟩:=hrel;have Hkk:=hid hkk;have Hb3:=hid b3;have Hi3:=hid i3;have HbH:=hid bH;have HbR:=hid bR;have Hiz:=hid iz;have Hx:=hid hx;have Hi:=hid hi;have d0:=b3.c0;have d1:=b3.c1;have g0:=b3.f0;have g1:=b3.f1;have h0:=bH.c0;have h1:=bH.c1
  by_cases hik:i=k
  ·have q1:¬ (i:Int)<(k:Int):=by omega
   have r0:=bR.c0;have r1:=bR.c1;have f0:=bR.f0;have f1:=bR.f1;have HE:=hid (hx.setRes (g:=H+1) (by have:=HH.out;omega) (.int .i64 s3) (.slice a3 n3 c3));have HI9:=hid (i3.keep64 (bR.keepI s3 a3 n3 c3));subst hik;clear hkk hi b3 i3 bH bR iz hx h0 h1 g0 g1
   go_wp2_with fail
   exact qJ (v:=.agg #[.int .i64 s3,.slice a3 n3 c3]) (by simp [results,Tryz.results61,go_sem,r0,r1]) rfl ⟨s3,a3,n3,c3,rfl,HI9.out,HE.out⟩
  have hlt:i<k:=by omega
  have q1:(i:Int)<(k:Int):=by omega
  have wk:IntKind.i64.wrap ((i:Int)+1)=((i+1:Nat):Int):=by rw [qH];have:=Hk.out;omega
  have HM:=hid (Mul_any s3 s a3 a n3 c3 n c (z ^ i) z wr i3 iz K HK.out (Hf.out i hi) Hf1.out);have Hlt:=hid hlt;clear hkk hi b3 i3 bH bR iz hx hlt hik
  go_wp2_with fail
  refine HM.out.mono ?_;rintro e w4 ⟨s4,a4,n4,c4,rfl,i4,hx4⟩;have b4:=Hb3.out.ext hx4;have e0:=b4.c0;have e1:=b4.c1;have k0:=b4.f0;have k1:=b4.f1;have Hb4:=hid b4;have Hx4:=hid hx4;have Hi4:=hid i4;clear b4 hx4 i4 d0 d1 g0 g1 h0 h1 HM
  go_wp2_with fail
  go_roundg (k-(i+1))
  case measure=>have:=Hkk.out;have:=Hlt.out;omega
  case rel =>
   have hn:=Hne.out;have hkp:=Hb4.out.keepI s4 a4 n4 c4;exact ⟨i+1,rfl,by have:=Hlt.out;omega,rfl,⟨s4,a4,n4,c4,Hb4.out.own s4 a4 n4 c4,by rw [Int.pow_succ];exact Hi4.out.keep64 hkp⟩,(HbH.out.ext Hx4.out).put2I (by omega) _ _,(HbR.out.ext Hx4.out).put2I (by omega) _ _,(Hiz.out.ext Hx4.out).keep64 hkp,(Hx.out.trans Hx4.out).setRes (g:=G) (by have:=HH.out;omega) _ _⟩
structure OdB (W:World) (g:Nat) (s1:Int) (a1:Option Addr) (n1 c1:Nat) (s2:Int) (a2:Option Addr) (n2 c2:Nat) (s3:Int) (a3:Option Addr) (n3 c3:Nat):Prop where
 row:W.heap[g]?=some (.cells #[.int .i64 s1,.slice a1 n1 c1,.int .i64 s2,.slice a2 n2 c2,.int .i64 s3,.slice a3 n3 c3] 60 (0,0))
section
variable {W W':World} {g:Nat} {s1:Int} {a1:Option Addr} {n1 c1:Nat} {s2:Int} {a2:Option Addr} {n2 c2:Nat} {s3:Int} {a3:Option Addr} {n3 c3:Nat}
theorem OdB.lt (h:OdB W g s1 a1 n1 c1 s2 a2 n2 c2 s3 a3 n3 c3):g<W.heap.size:=(gS.1 h.row).1
theorem OdB.ext (h:OdB W g s1 a1 n1 c1 s2 a2 n2 c2 s3 a3 n3 c3) (k:Ext W W'):OdB W' g s1 a1 n1 c1 s2 a2 n2 c2 s3 a3 n3 c3:=⟨(k.block _ h.lt).trans h.row⟩
theorem OdB.only (h:OdB W g s1 a1 n1 c1 s2 a2 n2 c2 s3 a3 n3 c3) {k:Nat} (hO:Only k W W') (hne:g≠k):OdB W' g s1 a1 n1 c1 s2 a2 n2 c2 s3 a3 n3 c3:=⟨(hO.block _ hne).trans h.row⟩
theorem OdB.x0 (h:OdB W g s1 a1 n1 c1 s2 a2 n2 c2 s3 a3 n3 c3):W.cell? ⟨g,0,none⟩=some (.int .i64 s1):=by rw [qD W g 0 _ _ (0,0) h.row];rfl
theorem OdB.x1 (h:OdB W g s1 a1 n1 c1 s2 a2 n2 c2 s3 a3 n3 c3):W.cell? ⟨g,1,none⟩=some (.slice a1 n1 c1):=by rw [qD W g 1 _ _ (0,0) h.row];rfl
theorem OdB.x2 (h:OdB W g s1 a1 n1 c1 s2 a2 n2 c2 s3 a3 n3 c3):W.cell? ⟨g,2,none⟩=some (.int .i64 s2):=by rw [qD W g 2 _ _ (0,0) h.row];rfl
theorem OdB.x3 (h:OdB W g s1 a1 n1 c1 s2 a2 n2 c2 s3 a3 n3 c3):W.cell? ⟨g,3,none⟩=some (.slice a2 n2 c2):=by rw [qD W g 3 _ _ (0,0) h.row];rfl
theorem OdB.x4 (h:OdB W g s1 a1 n1 c1 s2 a2 n2 c2 s3 a3 n3 c3):W.cell? ⟨g,4,none⟩=some (.int .i64 s3):=by rw [qD W g 4 _ _ (0,0) h.row];rfl
theorem OdB.x5 (h:OdB W g s1 a1 n1 c1 s2 a2 n2 c2 s3 a3 n3 c3):W.cell? ⟨g,5,none⟩=some (.slice a3 n3 c3):=by rw [qD W g 5 _ _ (0,0) h.row];rfl
theorem OdB.f (h:OdB W g s1 a1 n1 c1 s2 a2 n2 c2 s3 a3 n3 c3) (o:Nat):W.frozen? ⟨g,o,none⟩=false:=jQ W g o _ _ h.row
end
theorem cmp3_nn (z:Int):(0<=cmp3 z 0)↔0<=z:=by unfold cmp3;split<;>(try split)<;>omega
theorem canBe_any (s1:Int) (a1:Option Addr) (n1 c1:Nat) (s2:Int) (a2:Option Addr) (n2 c2:Nat) (s3:Int) (a3:Option Addr) (n3 c3:Nat) (z1 z2:Int) (w:World) (h1:IsInt w s1 a1 n1 c1 z1) (h2:IsInt w s2 a2 n2 c2 z2) :
  Calls Tryz.prog 17 #[.agg #[.int .i64 s1,.slice a1 n1 c1,.int .i64 s2,.slice a2 n2 c2,.int .i64 s3,.slice a3 n3 c3]] w fun e w'=>e=.returned (.bool (decide (0<=z1) && decide (0<=z2)))/\Ext w w':=by
 have hc1:=h1.cmp3;have hc2:=h2.cmp3;obtain ⟨H,hH⟩:∃ H,w.heap.size=H:=⟨_,rfl⟩;obtain ⟨W0,hW0⟩:∃ W0,w.alloc (.cells #[.int .i64 s1,.slice a1 n1 c1,.int .i64 s2,.slice a2 n2 c2,.int .i64 s3,.slice a3 n3 c3] 60)=W0:=⟨_,rfl⟩
 have E0:Ext w W0:=by rw [<-hW0];exact Ext.alloc w _
 have B0:OdB W0 H s1 a1 n1 c1 s2 a2 n2 c2 s3 a3 n3 c3:=by rw [<-hW0,<-hH];exact ⟨qW w _⟩
 have k0:=B0.x0;have k1:=B0.x1;have HS1:=hid (Sign_any s1 (.slice a1 n1 c1));have HS2:=hid (Sign_any s2 (.slice a2 n2 c2));have HE0:=hid E0;have HB:=hid B0;have HW0:=hid hW0;have HH:=hid hH;have Hz1:=hid (cmp3_nn z1);have Hz2:=hid (cmp3_nn z2);rw [<-hc1] at Hz1;rw [<-hc2] at Hz2;obtain ⟨t1,ht1⟩:∃ t,cmp3 s1 0=t:=⟨_,rfl⟩;obtain ⟨t2,ht2⟩:∃ t,cmp3 s2 0=t:=⟨_,rfl⟩;rw [ht1] at HS1 Hz1;rw [ht2] at HS2 Hz2;clear E0 B0 hW0 hH h1 h2 hc1 hc2 ht1 ht2
 go_enter Tryz.func17,Tryz.ntmps17
 go_upto_region 1 with fail
 rw [HW0.out,HH.out]
 go_wp2_with fail
 refine (HS1.out W0).mono ?_;rintro e w1 ⟨rfl,hx1⟩;have HX1:=hid hx1;clear hx1 k0 k1 HS1
 by_cases hz1:0<=t1
 ·have B1:=HB.out.ext HX1.out
  have k2:=B1.x2;have k3:=B1.x3;have hq:=Hz1.out.1 hz1;clear B1
  go_wp2_with fail
  refine (HS2.out w1).mono ?_;rintro e w2 ⟨rfl,hx2⟩;have HX2:=hid hx2;clear hx2 k2 k3 HS2
  go_wp2_with fail
  go_ret
  exact ⟨by rw [jJ hq,Bool.true_and,yN.2 Hz2.out];rfl,HE0.out.trans (HX1.out.trans HX2.out)⟩
 ·have Hq:=hid (show decide (0<=z1)=false from jE fun h=>hz1 (Hz1.out.2 h))
  go_wp2_with fail
  go_ret
  exact ⟨by rw [Hq.out,Bool.false_and];rfl,HE0.out.trans HX1.out⟩
def OdR (w:World) (z1 z2 z3:Int) (e:Ending) (w':World):Prop :=
 ∃ (s1:Int) (a1:Option Addr) (n1 c1:Nat) (s2:Int) (a2:Option Addr) (n2 c2:Nat) (s3:Int) (a3:Option Addr) (n3 c3:Nat),e=.returned (.agg #[.int .i64 s1,.slice a1 n1 c1,.int .i64 s2,.slice a2 n2 c2,.int .i64 s3,.slice a3 n3 c3])/\IsInt w' s1 a1 n1 c1 z1/\IsInt w' s2 a2 n2 c2 z2/\IsInt w' s3 a3 n3 c3 z3/\Ext w w'
theorem oddsOf_any (s:Int) (a:Option Addr) (n c:Nat) (s':Int) (a':Option Addr) (n' c':Nat) (P Q:Int) (w:World) (h:IsFr w s a n c s' a' n' c' P Q) (K:Nat) (hK:K<=4194304) (fP:Fit K P) (fQ:Fit K Q) (f3:Fit K 3) (fX:Fit K (P*3)) :
  Calls Tryz.prog 16 #[.agg #[.int .i64 s,.slice a n c,.int .i64 s',.slice a' n' c']] w (OdR w P (Q-P*3) Q):=by
 obtain ⟨H,hH⟩:∃ H,w.heap.size=H:=⟨_,rfl⟩;obtain ⟨W0,hW0⟩:∃ W0,(w.alloc (.cells #[.int .i64 s,.slice a n c,.int .i64 s',.slice a' n' c'] 56)).alloc (.cells #[.int .i64 0,.slice none 0 0,.int .i64 0,.slice none 0 0,.int .i64 0,.slice none 0 0] 60)=W0:=⟨_,rfl⟩
 have E0:Ext w W0:=by rw [<-hW0];exact (Ext.alloc w _).then _
 have B0:QBx W0 H s a n c s' a' n' c':=by rw [<-hW0,<-hH];exact (qbx_new w s a n c s' a' n' c').ext (Ext.alloc _ _)
 have R0:OdB W0 (H+1) 0 none 0 0 0 none 0 0 0 none 0 0:=by
  have:=qW (w.alloc (.cells #[.int .i64 s,.slice a n c,.int .i64 s',.slice a' n' c'] 56)) (.cells #[.int .i64 0,.slice none 0 0,.int .i64 0,.slice none 0 0,.int .i64 0,.slice none 0 0] 60);rw [hW0,yO,hH] at this;exact ⟨this⟩
 have HPt:=hid (Parts_fr s s' a a' n c n' c' P Q W0 (h.ext E0));have k0:=B0.c0;have k1:=B0.c1;have k2:=B0.c2;have k3:=B0.c3;have HE0:=hid E0;have HB:=hid B0;have HR:=hid R0;have HW0:=hid hW0;have HH:=hid hH;have HK:=hid hK;have FP:=hid fP;have FQ:=hid fQ;have F3:=hid f3;have FX:=hid fX;clear E0 B0 R0 hW0 hH h hK fP fQ f3 fX
 go_enter Tryz.func16,Tryz.ntmps16
 go_upto_region 1 with fail
 rw [HW0.out,HH.out]
 go_wp2_with fail
 refine HPt.out.mono ?_;rintro e u1 ⟨s3,a3,n3,c3,s4,a4,n4,c4,rfl,I3,I4,hx1⟩;obtain ⟨A,hA⟩:∃ A,u1.heap.size=A:=⟨_,rfl⟩;have HA:=hid hA;have HX1:=hid hx1;have HI3:=hid I3;have HI4:=hid I4;clear hA hx1 I3 I4 HPt k0 k1 k2 k3
 go_upto_region 2 with fail
 obtain ⟨W1,hW1⟩:∃ W1,(u1.alloc (.cells #[.int .i64 s3,.slice a3 n3 c3] 54)).alloc (.cells #[.int .i64 s4,.slice a4 n4 c4] 54)=W1:=⟨_,rfl⟩
 have E1:Ext u1 W1:=by rw [<-hW1];exact (Ext.alloc u1 _).then _
 have b3:Box W1 A s3 a3 n3 c3:=by rw [<-hW1,<-HA.out];exact (box_new u1 s3 a3 n3 c3).ext (Ext.alloc _ _)
 have b4:Box W1 (A+1) s4 a4 n4 c4:=by
  have:=box_new (u1.alloc (.cells #[.int .i64 s3,.slice a3 n3 c3] 54)) s4 a4 n4 c4;rw [hW1,yO,HA.out] at this;exact this
 rw [HA.out,hW1];have HE1:=hid (HE0.out.trans (HX1.out.trans E1));have qr:=HR.out.ext (HX1.out.trans E1);have IP:=HI3.out.ext E1;have IQ:=HI4.out.ext E1;have m0:=b3.c0;have m1:=b3.c1;have m2:=b4.c0;have m3:=b4.c1;have lA:=b3.lt;have lB:=b4.lt;have K':=HK.out;have HOf:=hid (fun wx=>Of_any 3 (by decide) (by decide) wx);have lH:=hid (show w.heap.size<=H+1 by have:=HH.out;omega);have lR:=qr.lt
 have lHA:H+1<A:=by have:=(HR.out.ext HX1.out).lt;have:=HA.out;omega
 clear hW1 E1 b3 b4 HA HB HW0 HI3 HI4 HX1 HR HH HE0;have h0d:Ext W1 W1.drew:=qG (Ext.refl _)
 go_region_held3 (fun w'=>w'.cell? ⟨A,0,none⟩=some (.int .i64 s3)/\w'.cell? ⟨A,1,none⟩=some (.slice a3 n3 c3)/\w'.cell? ⟨A+1,0,none⟩=some (.int .i64 s4)/\w'.cell? ⟨A+1,1,none⟩=some (.slice a4 n4 c4))
  (exact ⟨by (repeat (refine cellPut (by omega) ?_));exact cellKeep (W:=W1) (by assumption) lA m0,by (repeat (refine cellPut (by omega) ?_));exact cellKeep (W:=W1) (by assumption) lA m1,by (repeat (refine cellPut (by omega) ?_));exact cellKeep (W:=W1) (by assumption) lB m2,by (repeat (refine cellPut (by omega) ?_));exact cellKeep (W:=W1) (by assumption) lB m3⟩)
  (first
   | (have _:=qv1;go_at_call 58;refine (Sub_any s4 sv1 a4 ov1 n4 c4 mv1 jv1 Q (P*3) _ (IQ.ext hv1) Kv1 K K' FQ.out FX.out).mono ?_;rintro e v2 ⟨sv2,ov2,mv2,jv2,rfl,Kv2,qv2⟩;have hv2:Ext W1 v2:=hv1.trans qv2;have R5:=qr.ext hv2;have k0:=R5.x0;have k1:=R5.x1;have k2:=R5.x2;have k3:=R5.x3;have k4:=R5.x4;have k5:=R5.x5;have f0:=R5.f 0;have f1:=R5.f 1;have f2:=R5.f 2;have f3:=R5.f 3;have f4:=R5.f 4;have f5:=R5.f 5)
   | (have _:=qv0;go_at_call 59;refine (Mul_any s3 3 a3 none n3 c3 0 0 P 3 _ (IP.ext hv0) Kv0 K K' FP.out F3.out).mono ?_;rintro e v1 ⟨sv1,ov1,mv1,jv1,rfl,Kv1,qv1⟩;have hv1:Ext W1 v1:=hv0.trans qv1)
   | (go_at_call 56;refine (HOf.out _).mono ?_;rintro e v0 ⟨rfl,Kv0,qv0⟩;have hv0:Ext W1 v0:=Ext.trans (by assumption) qv0))
 have hkk:=Keep64.set6 (w:=v2) (.i64 k0) (.slice k1) (.i64 k2) (.slice k3) (.i64 k4) (.slice k5) (notW_i64 s3) (notW_slice a3 n3 c3) (notW_i64 sv2) (notW_slice ov2 mv2 jv2) (notW_i64 s4) (.slice a4 n4 c4);have I1:=hid ((IP.ext hv2).keep64 hkk);have I2:=hid (Kv2.keep64 hkk);have I3:=hid ((IQ.ext hv2).keep64 hkk);clear hkk
 go_wp2_with fail
 exact qJ (v:=.agg #[.int .i64 s3,.slice a3 n3 c3,.int .i64 sv2,.slice ov2 mv2 jv2,.int .i64 s4,.slice a4 n4 c4]) (by simp [results,Tryz.results16,go_sem,k0,k1,k2,k3,k4,k5]) rfl ⟨s3,a3,n3,c3,sv2,ov2,mv2,jv2,s4,a4,n4,c4,rfl,I1.out,I2.out,I3.out,(((HE1.out.trans hv2).put2 lH.out _ _).put2 lH.out _ _).put2 lH.out _ _⟩
theorem nf_crossF {u v:Int} (hv:v≠0):nfp u v*v=nfq u v*u:=by
 have hk:=nfk_ne (z1:=u) hv;obtain ⟨⟨c,hc⟩,⟨d,hd⟩⟩:=nfk_dvd u v
 have e1:nfp u v=c:=by
  unfold nfp;rw [qE hv];generalize nfk u v=k at hk hc hd;rw [hc,yR,Int.mul_ediv_cancel _ hk]
 have e2:nfq u v=d:=by
  unfold nfq;rw [qE hv];generalize nfk u v=k at hk hc hd;rw [hd,yR,Int.mul_ediv_cancel _ hk]
 rw [e1,e2];generalize nfk u v=k at hk hc hd;rw [hc,hd,Int.mul_left_comm,yR d,Int.mul_assoc]
theorem nf_coF {u v:Int} (hv:v≠0):Nat.gcd (nfp u v).natAbs (nfq u v).natAbs=1:=by
 have hg:0<Nat.gcd u.natAbs v.natAbs:=Nat.gcd_pos_of_pos_right _ (by omega);have hk:=nfk_ne (z1:=u) hv
 have hka:(nfk u v).natAbs=Nat.gcd u.natAbs v.natAbs:=by unfold nfk;split<;>omega
 obtain ⟨⟨c,hc⟩,⟨d,hd⟩⟩:=nfk_dvd u v
 have e1:nfp u v=c:=by
  unfold nfp;rw [qE hv];generalize nfk u v=k at hk hc hd;rw [hc,yR,Int.mul_ediv_cancel _ hk]
 have e2:nfq u v=d:=by
  unfold nfq;rw [qE hv];generalize nfk u v=k at hk hc hd;rw [hd,yR,Int.mul_ediv_cancel _ hk]
 rw [e1,e2]
 have h1:u.natAbs=(nfk u v).natAbs*c.natAbs:=by conv=>lhs;rw [hc,Int.natAbs_mul]
 have h2:v.natAbs=(nfk u v).natAbs*d.natAbs:=by conv=>lhs;rw [hd,Int.natAbs_mul]
 have h3:=Nat.gcd_mul_left (nfk u v).natAbs c.natAbs d.natAbs;rw [<-h1,<-h2,hka] at h3;exact Nat.eq_of_mul_eq_mul_left hg (by rw [<-h3,Nat.mul_one])
theorem nf_sameF {x y u v:Int} (hy:y≠0) (hv:v≠0) (h:x*v=u*y):nfp x y=nfp u v/\nfq x y=nfq u v:=by
 have hc:=nf_crossF (u:=u) hv
 obtain ⟨g1,g2⟩:=nf_of (z1:=x) (z2:=y) (p:=nfp u v) (q:=nfq u v) hy (nfq_pos u v) (nf_coF hv) (by
  have:v*(nfp u v*y)=v*(nfq u v*x):=by
   rw [<-Int.mul_assoc,yR v,hc,Int.mul_left_comm v,yR v x,h,Int.mul_assoc]
  exact Int.eq_of_mul_eq_mul_left hv this)
 exact ⟨g1.symm,g2.symm⟩
theorem nfq_neF (u v:Int):nfq u v≠0:=by have:=nfq_pos u v;omega
theorem nf_mulF {x y u v:Int} (hy:y≠0) (hv:v≠0):nfp (nfp x y*nfp u v) (nfq x y*nfq u v)=nfp (x*u) (y*v)/\nfq (nfp x y*nfp u v) (nfq x y*nfq u v)=nfq (x*u) (y*v):=by
 have h1:=nf_crossF (u:=x) hy;have h2:=nf_crossF (u:=u) hv;refine nf_sameF (Int.mul_ne_zero (nfq_neF _ _) (nfq_neF _ _)) (Int.mul_ne_zero hy hv) ?_;generalize nfp x y=p at *;generalize nfq x y=q at *;generalize nfp u v=r at *;generalize nfq u v=s at *
 calc p*r*(y*v)=(p*y)*(r*v):=by ac_rfl
  _=(q*x)*(s*u):=by rw [h1,h2]
  _=x*u*(q*s):=by ac_rfl
theorem nf_addF {x y u v:Int} (hy:y≠0) (hv:v≠0):nfp (nfp x y*nfq u v+nfp u v*nfq x y) (nfq x y*nfq u v)=nfp (x*v+u*y) (y*v)/\nfq (nfp x y*nfq u v+nfp u v*nfq x y) (nfq x y*nfq u v)=nfq (x*v+u*y) (y*v):=by
 have h1:=nf_crossF (u:=x) hy;have h2:=nf_crossF (u:=u) hv;refine nf_sameF (Int.mul_ne_zero (nfq_neF _ _) (nfq_neF _ _)) (Int.mul_ne_zero hy hv) ?_;generalize nfp x y=p at *;generalize nfq x y=q at *;generalize nfp u v=r at *;generalize nfq u v=s at *;rw [Int.add_mul,Int.add_mul]
 have e1:p*s*(y*v)=x*v*(q*s):=by
  calc p*s*(y*v)=(p*y)*(s*v):=by ac_rfl
   _=(q*x)*(s*v):=by rw [h1]
   _=x*v*(q*s):=by ac_rfl
 have e2:r*q*(y*v)=u*y*(q*s):=by
  calc r*q*(y*v)=(r*v)*(q*y):=by ac_rfl
   _=(s*u)*(q*y):=by rw [h2]
   _=u*y*(q*s):=by ac_rfl
 rw [e1,e2]
theorem nf_addS {x u y:Int} (hy:y≠0):nfp (nfp x y*nfq u y+nfp u y*nfq x y) (nfq x y*nfq u y)=nfp (x+u) y/\nfq (nfp x y*nfq u y+nfp u y*nfq x y) (nfq x y*nfq u y)=nfq (x+u) y:=by
 obtain ⟨g1,g2⟩:=nf_addF (x:=x) (u:=u) hy hy;rw [g1,g2];exact nf_sameF (Int.mul_ne_zero hy hy) hy (by rw [<-Int.add_mul,Int.mul_assoc])
def gtm (a v:Int) (w i:Nat):Int:=a ^ min i w*v ^ (i-w)
theorem gtm_zero (a v:Int) (w:Nat):gtm a v w 0=1:=by unfold gtm;rw [Nat.zero_min,Nat.zero_sub,Int.pow_zero,Int.pow_zero];rfl
theorem gtm_lt {a v:Int} {w i:Nat} (h:i<w):gtm a v w (i+1)=gtm a v w i*a:=by
 unfold gtm;rw [show min (i+1) w=min i w+1 by omega,show i+1-w=i-w by omega,Int.pow_succ];ac_rfl
theorem gtm_ge {a v:Int} {w i:Nat} (h:¬ i<w):gtm a v w (i+1)=gtm a v w i*v:=by
 unfold gtm;rw [show min (i+1) w=min i w by omega,show i+1-w=i-w+1 by omega,Int.pow_succ];ac_rfl
theorem gtm_all {a v:Int} {w n:Nat} (h:w<=n):gtm a v w n=a ^ w*v ^ (n-w):=by unfold gtm;rw [Nat.min_eq_right h]
theorem pow_nnF {a:Int} (h:0<=a):∀ k:Nat,0<=a ^ k
 | 0=>by rw [Int.pow_zero];omega
 | k+1=>by rw [Int.pow_succ];exact Int.mul_nonneg (pow_nnF h k) h
theorem pow_posF {a:Int} (h:0<a):∀ k:Nat,0<a ^ k
 | 0=>by rw [Int.pow_zero];omega
 | k+1=>by rw [Int.pow_succ];exact Int.mul_pos (pow_posF h k) h
theorem gtm_le {a v b:Int} (ha:0<=a) (hab:a<=b) (hv:0<=v) (hvb:v<=b) (w:Nat):∀ i:Nat,0<=gtm a v w i/\gtm a v w i<=b ^ i
 | 0=>by rw [gtm_zero,Int.pow_zero];omega
 | i+1=>by
  obtain ⟨h1,h2⟩:=gtm_le ha hab hv hvb w i;rw [Int.pow_succ]
  by_cases h:i<w
  ·rw [gtm_lt h];exact ⟨Int.mul_nonneg h1 ha,Int.mul_le_mul h2 hab ha (by omega)⟩
  ·rw [gtm_ge h];exact ⟨Int.mul_nonneg h1 hv,Int.mul_le_mul h2 hvb hv (by omega)⟩
def gsm (cnt:Nat->Nat) (a v:Int) (n:Nat):Nat->Int
 | 0=>0
 | m+1=>gsm cnt a v n m+cnt m*gtm a v m n
theorem gsm_le {cnt:Nat->Nat} {a v b:Int} (ha:0<=a) (hab:a<=b) (hv:0<=v) (hvb:v<=b) (n C:Nat) (hC:∀ w,cnt w<=C):∀ m:Nat,0<=gsm cnt a v n m/\gsm cnt a v n m<=(m*C:Nat)*b ^ n
 | 0=>by unfold gsm;rw [Nat.zero_mul];simp
 | m+1=>by
  obtain ⟨h1,h2⟩:=gsm_le ha hab hv hvb n C hC m;obtain ⟨h3,h4⟩:=gtm_le ha hab hv hvb m n;have h5:(cnt m:Int)*gtm a v m n<=C*b ^ n:=Int.mul_le_mul (by exact_mod_cast hC m) h4 h3 (by omega);have h6:0<=(cnt m:Int)*gtm a v m n:=Int.mul_nonneg (by omega) h3;unfold gsm;refine ⟨by omega,?_⟩;rw [Nat.succ_mul,Int.natCast_add,Int.add_mul];omega
theorem gsm_congr {c d:Nat->Nat} (a v:Int) (n:Nat):∀ m:Nat,(∀ w,w<m->c w=d w)->gsm c a v n m=gsm d a v n m
 | 0,_=>rfl
 | m+1,h=>by unfold gsm;rw [gsm_congr a v n m (fun w hw=>h w (by omega)),h m (by omega)]
theorem term_step {c a v b p q r s:Int} {w i:Nat} (hb:b≠0) (hp:p=nfp (c*gtm a v w i) (b ^ i)) (hq:q=nfq (c*gtm a v w i) (b ^ i))
  (hr:r=nfp (if i<w then a else v) b) (hs:s=nfq (if i<w then a else v) b) :
  nfp (p*r) (q*s)=nfp (c*gtm a v w (i+1)) (b ^ (i+1))/\nfq (p*r) (q*s)=nfq (c*gtm a v w (i+1)) (b ^ (i+1)):=by
 subst hp hq hr hs;have hbi:b ^ i≠0:=Int.pow_ne_zero hb;obtain ⟨g1,g2⟩:=nf_mulF (x:=c*gtm a v w i) (y:=b ^ i) (u:=if i<w then a else v) (v:=b) hbi hb;rw [g1,g2,Int.pow_succ,Int.mul_assoc]
 by_cases h:i<w
 ·rw [qU h,gtm_lt h];exact ⟨rfl,rfl⟩
 ·rw [qE h,gtm_ge h];exact ⟨rfl,rfl⟩
theorem term_zero (c a v b:Int) (w:Nat):c=nfp (c*gtm a v w 0) (b ^ 0)/\1=nfq (c*gtm a v w 0) (b ^ 0):=by
 rw [gtm_zero,Int.pow_zero,Int.mul_one];exact ⟨(nf_one c).1.symm,(nf_one c).2.symm⟩
theorem sum_zero {y:Int} (hy:y≠0):0=nfp 0 y/\1=nfq 0 y:=by
 obtain ⟨g1,g2⟩:=nf_sameF (x:=0) (y:=y) (u:=0) (v:=1) hy (by omega) (by omega);rw [g1,g2];exact ⟨(nf_one 0).1.symm,(nf_one 0).2.symm⟩
theorem sum_step {cnt:Nat->Nat} {a v b p q r s:Int} {n w:Nat} (hb:b≠0) (hp:p=nfp (gsm cnt a v n w) (b ^ n)) (hq:q=nfq (gsm cnt a v n w) (b ^ n))
  (hr:r=nfp (cnt w*gtm a v w n) (b ^ n)) (hs:s=nfq (cnt w*gtm a v w n) (b ^ n)) :
  nfp (p*s+r*q) (q*s)=nfp (gsm cnt a v n (w+1)) (b ^ n)/\nfq (p*s+r*q) (q*s)=nfq (gsm cnt a v n (w+1)) (b ^ n):=by
 subst hp hq hr hs;exact nf_addS (Int.pow_ne_zero hb)
theorem well_is {a b:Int} (hb:b≠0) :
  nfp (1*nfq (3*a) (1*b) + -nfp (3*a) (1*b)*1) (1*nfq (3*a) (1*b))=nfp (b-3*a) b /\
  nfq (1*nfq (3*a) (1*b) + -nfp (3*a) (1*b)*1) (1*nfq (3*a) (1*b))=nfq (b-3*a) b:=by
 rw [Int.one_mul,Int.one_mul,Int.mul_one];refine nf_sameF (nfq_neF _ _) hb ?_;have h:=nf_crossF (u:=3*a) hb;rw [Int.add_mul,Int.neg_mul,h,Int.sub_mul,yR b,Int.sub_eq_add_neg,yR (3*a)]
end Go.Proofs.YtjfomkoedgipjaaGreatDoor
