/-
  CodeFails, in plain lists: both sides count the same errors. Twos and common divisors, in plain numbers. Twos: how often 2 divides a number. Reading numbers: Parse. And what results' cells do to words: nothing. divTowardsNought. Div: quotient and rest.
-/
import Derived.Lib.TrailingZeros
import Derived.Test.YtjfomkoedgipjaaGreatDoorS18Aq
namespace Go.Proofs.YtjfomkoedgipjaaGreatDoor
set_option maxRecDepth 100000
set_option maxHeartbeats 2000000
open Go.RowKit
def mnP (n:Nat) (gens:List (List UInt8)) (p:PK):PK:=fstP (fun q=>shN (psL n gens) q == shN (psL n gens) p) n
def unP (n:Nat) (gens:List (List UInt8)) (p:PK):Bool:=!decide ((p.x ^^^ (mnP n gens p).x,p.z ^^^ (mnP n gens p).z) ∈ gsL (psL n gens))
def cntE (n:Nat) (gens:List (List UInt8)) (w:Nat):Nat:=(errP n).countP fun p=>pcF 16 (p.x ||| p.z) == w && unP n gens p
def dcT (n:Nat) (gens:List (List UInt8)) (e:List UInt8):List UInt8:=(bst wtT (synQ gens (synL gens e)) (erR n)).getD []
def unT (n:Nat) (gens:List (List UInt8)) (e:List UInt8):Bool:=!inG (grR n (barL gens)) (mulT (dcT n gens e) e)
def cntT (n:Nat) (gens:List (List UInt8)) (w:Nat):Nat:=(erR n).countP fun e=>wtT e == w && unT n gens e
theorem syn_lenF (gens:List (List UInt8)) (e:List UInt8):(synL gens e).length=gens.length:=by unfold synL;rw [jY]
theorem syn_01F (gens:List (List UInt8)) (e:List UInt8):∀ x ∈ synL gens e,x=0\/x=1:=fun x hx=>by
 unfold synL at hx;obtain ⟨T,_,rfl⟩:=yU.1 hx
 split
 ·exact qO rfl
 ·exact qM rfl
theorem gs_inG {n:Nat} (hn:n<=12) {gens:List (List UInt8)} (hall:∀ T ∈ gens,isP n T=true) {a:List UInt8} (ha:Let n a):decide ((nX a,nZz a) ∈ gsL (psL n gens))=inG (grR n (barL gens)) a:=by
 rw [in_grp hall ha];refine yN.2 (grp_gs (by rw [barL_lenA];unfold psL;rw [jY]) (bar_let hall) (fun i l p h1 h2=>?_) ha);obtain ⟨T,hT⟩:∃ T,gens[i]?=some T:=⟨_,qX (by have:=(jG.1 h1).1;rw [barL_lenA] at this;exact this)⟩;obtain ⟨g1,g2,g3,g4⟩:=ps_at hn hall hT;rw [g2] at h1;rw [g1] at h2
 cases h1;cases h2
 exact g4
theorem sh_syn {n:Nat} (hn:n<=12) {gens:List (List UInt8)} (hall:∀ T ∈ gens,isP n T=true) {a e:List UInt8} (ha:Let n a) (he:Let n e):(shN (psL n gens) (tP a) == shN (psL n gens) (tP e))=synQ gens (synL gens e) a:=by
 have h1:=sh_mk hn hall (syn_lenF gens e) (syn_01F gens e) ha;have h2:=sh_mk hn hall (syn_lenF gens e) (syn_01F gens e) he;have h3:synQ gens (synL gens e) e=true:=jJ rfl;rw [h3] at h2;rw [<-h1,yY.1 h2]
theorem un_is {n:Nat} {gens:List (List UInt8)} (h:(ccF (n:Int) gens).1=0) {e:List UInt8} (he:Let n e):unP n gens (tP e)=unT n gens e:=by
 obtain ⟨_,h12,_,hall⟩:=cc_zero h;rw [yT] at hall
 have hn:n<=12:=by omega
 obtain ⟨b,hb1,hb2,_⟩:=bst_syn h (syn_lenF gens e) (syn_01F gens e)
 have hm:mnP n gens (tP e)=tP b:=by
  unfold mnP;rw [fstP_bst hn _ (synQ gens (synL gens e)) fun a ha=>sh_syn hn hall ha he,hb1]
  rfl
 have hd:dcT n gens e=b:=by unfold dcT;rw [hb1];rfl
 have hi:=tP_is (n:=n) (by omega) he;have hj:=tP_is (n:=n) (by omega) hb2;have hmul:=mulT_is b e (by rw [hb2.1,he.1]) hb2.2 he.2;unfold unP unT;rw [hm,hd,hi.1,hi.2,hj.1,hj.2,<-gs_inG hn hall (let_mul hb2 he),hmul.2.2.1,hmul.2.2.2,Nat.xor_comm (nX e),Nat.xor_comm (nZz e)]
theorem count_flat (n w:Nat) (u:List UInt8->Bool):∀ m,((List.range m).flatMap fun v=>(erR n).filter fun e=>wtT e == v).countP (fun e=>wtT e == w && u e)=if w<m then (erR n).countP (fun e=>wtT e == w && u e) else 0
 | 0=>by simp
 | m+1=>by
  rw [List.range_succ,List.flatMap_append,List.countP_append,count_flat n w u m];simp only [List.flatMap_cons,List.flatMap_nil,List.append_nil,List.countP_filter]
  by_cases h:w=m
  ·subst h
   rw [qE (by omega),qU (by omega),jH]
   refine List.countP_congr fun e _=>?_
   cases wtT e == w<;>cases u e<;>simp
  ·have h0:(erR n).countP (fun a=>(wtT a == w && u a) && wtT a == m)=0:=by
    refine List.countP_eq_zero.2 fun e _=>?_
    simp only [Bool.and_eq_true,yY];rintro ⟨⟨h1,_⟩,h2⟩;exact h (h1.symm.trans h2)
   rw [h0,Nat.add_zero]
   by_cases h2:w<m
   ·rw [qU h2,qU (by omega)]
   ·rw [qE h2,qE (by omega)]
theorem cnt_is {n:Nat} {gens:List (List UInt8)} (h:(ccF (n:Int) gens).1=0) {w:Nat} (hw:w<=n):cntE n gens w=cntT n gens w:=by
 obtain ⟨_,h12,_,_⟩:=cc_zero h
 have hlet:∀ e ∈ errT n,Let n e:=fun e he=>by
  rw [errT_is] at he;obtain ⟨v,_,hv⟩:=List.mem_flatMap.1 he;exact (erR_let n e).1 (List.mem_filter.1 hv).1
 unfold cntE cntT;rw [errP_errT (by omega),List.countP_map]
 have e1:(errT n).countP ((fun p=>pcF 16 (p.x ||| p.z) == w && unP n gens p) ∘ tP)=(errT n).countP fun e=>wtT e == w && unT n gens e:=by
  refine List.countP_congr fun e he=>?_
  rw [Function.comp_apply,wt_tP (n:=n) (by omega) (hlet e he),un_is h (hlet e he)]
 rw [e1,errT_is,count_flat,qU (by omega)]
def Tw (v t:Nat):Prop:=∃ m,v=2 ^ t*(2*m+1)
theorem tw_ctz (x:Nat) (h0:x≠0) (h:x<B64):Tw x (Lib.ctz 64 x)/\Lib.ctz 64 x<64:=by
 unfold Lib.ctz;rw [qE h0];obtain ⟨m,h1,h2⟩:=Lib.ctzFrom_spec 64 x (by omega) (by rw [B64_eq] at h;omega);exact ⟨⟨m,h1⟩,h2⟩
theorem B64_two:B64=2 ^ 64:=by rw [B64_eq]
theorem tw_words (k x r t:Nat) (h:Tw x t) (ht:t<64):Tw (B64 ^ k*(x+B64*r)) (64*k+t):=by
 obtain ⟨m,rfl⟩:=h;obtain ⟨d,hd⟩:∃ d,64=t+(d+1):=⟨63-t,by omega⟩;refine ⟨m+2 ^ d*r,?_⟩;rw [B64_two,<-Nat.pow_mul,jS,jW]
 congr 1
 have e:(2:Nat) ^ 64=2 ^ t*(2*2 ^ d):=by
  conv=>lhs;rw [hd]
  rw [jS,jK,jU (2 ^ d) 2]
 rw [e,jW,<-qN]
 congr 1
 rw [qN,jW];omega
theorem val_noughts (l:List Nat) (k:Nat) (hk:k<l.length) (h:∀ t,t<k->l.getD t 0=0):val l=B64 ^ k*(l.getD k 0+B64*val (l.drop (k+1))):=by
 induction k generalizing l with
 | zero =>
  cases l with
  | nil=>simp at hk
  | cons x r=>simp [val]
 | succ k ih =>
  cases l with
  | nil=>simp at hk
  | cons x r =>
   have hx:x=0:=by have:=h 0 (by omega);simpa using this
   have:=ih r (by simpa using hk) (fun t ht=>by have:=h (t+1) (by omega);simpa using this);rw [val,hx,this,jH,jK,jU (B64 ^ k) B64,jW]
   simp
theorem Tw.dvd {v t:Nat} (h:Tw v t) (n:Nat):v % 2 ^ n=0↔n<=t:=by
 obtain ⟨m,rfl⟩:=h
 constructor
 ·intro hd
  apply yP
  intro hlt;obtain ⟨d,rfl⟩:∃ d,n=t+(d+1):=⟨n-t-1,by omega⟩;rw [jS,Nat.mul_mod_mul_left] at hd;have hp:0<(2:Nat) ^ t:=jF (by decide)
  have h1:(2*m+1) % 2 ^ (d+1)=0:=by
   rcases Nat.mul_eq_zero.1 hd with h | h
   ·omega
   ·exact h
  rw [jK,jU (2 ^ d) 2] at h1
  have h2:(2*m+1) % 2=0:=by
   have h3:=Nat.mod_mul_right_mod (2*m+1) 2 (2 ^ d);rw [h1] at h3;omega
  omega
 ·intro hle
  obtain ⟨d,rfl⟩:∃ d,t=n+d:=⟨t-n,by omega⟩;rw [jS,jW];exact Nat.mul_mod_right _ _
theorem Tw.half {v t:Nat} (h:Tw v t):v=2 ^ t*(v / 2 ^ t)/\(v / 2 ^ t) % 2=1:=by
 obtain ⟨m,rfl⟩:=h;have hp:0<(2:Nat) ^ t:=jF (by decide);rw [Nat.mul_div_cancel_left _ hp];exact ⟨rfl,by omega⟩
theorem odd_coprime (m d:Nat) (h:m % 2=1):Nat.Coprime (2 ^ d) m:=by
 apply Nat.Coprime.pow_left
 show Nat.gcd 2 m=1
 rw [Nat.gcd_rec,h]
 decide
theorem gcd_twos_le {a b s t:Nat} (ha:Tw a s) (hb:Tw b t) (h:s<=t):Nat.gcd a b=2 ^ s*Nat.gcd (a / 2 ^ s) (b / 2 ^ t):=by
 obtain ⟨e1,o1⟩:=ha.half;obtain ⟨e2,_⟩:=hb.half;obtain ⟨d,rfl⟩:∃ d,t=s+d:=⟨t-s,by omega⟩;generalize a / 2 ^ s=x at *;generalize b / 2 ^ (s+d)=y at *;rw [e1,e2,jS,jW,Nat.gcd_mul_left]
 congr 1
 rw [Nat.gcd_comm x,Nat.Coprime.gcd_mul_left_cancel y (odd_coprime x d o1),Nat.gcd_comm]
theorem gcd_twos {a b s t:Nat} (ha:Tw a s) (hb:Tw b t):Nat.gcd a b=2 ^ (min s t)*Nat.gcd (a / 2 ^ s) (b / 2 ^ t):=by
 rcases Nat.le_total s t with h | h
 ·rw [Nat.min_eq_left h];exact gcd_twos_le ha hb h
 ·rw [Nat.min_eq_right h,Nat.gcd_comm,gcd_twos_le hb ha h,Nat.gcd_comm]
theorem gcd_step (a b:Int) (_hb:b≠0):Nat.gcd b.natAbs (a.tmod b).natAbs=Nat.gcd a.natAbs b.natAbs:=by
 rw [Int.natAbs_tmod,Nat.gcd_comm b.natAbs,<-Nat.gcd_rec,Nat.gcd_comm]
abbrev Bru (w:World):Prop:=TabAt 1 Lib.deBruijn64tab w
theorem bru_ext {w w':World} (h:Bru w) (he:Ext w w'):Bru w':=fun j hj=>by
 have:=h j hj;exact (he.cell (World.block_lt_of_cell? w _ this)).trans this
theorem tw_neg {x t:Nat} (h:Tw x t) (ht:t<64) (hx:x<18446744073709551616):Tw (18446744073709551616-x) t:=by
 obtain ⟨m,rfl⟩:=h;obtain ⟨d,hd⟩:∃ d,64=t+(d+1):=⟨63-t,by omega⟩
 have e:(18446744073709551616:Nat)=2 ^ t*(2*2 ^ d):=by
  have:(18446744073709551616:Nat)=2 ^ 64:=by decide
  rw [this]
  conv=>lhs;rw [hd]
  rw [jS,jK,jU (2 ^ d) 2]
 rw [e] at hx ⊢;have hlt:2*m+1<2*2 ^ d:=Nat.lt_of_mul_lt_mul_left hx;refine ⟨2 ^ d-m-1,?_⟩;rw [<-Nat.mul_sub]
 congr 1
 omega
theorem val_all_zero (l:List Nat) (h:∀ t,t<l.length->l.getD t 0=0):val l=0:=by
 induction l with
 | nil=>rfl
 | cons x r ih =>
  have hx:x=0:=by have:=h 0 (by simp);simpa using this
  have:=ih (fun t ht=>by have:=h (t+1) (by simpa using ht);simpa using this);rw [val,hx,this,Nat.mul_zero]
theorem Twos_any (sm:Int) (ao:Option Addr) (n c:Nat) (z:Int) (w:World) (h:IsInt w sm ao n c z) (hn:n<=16777216) (hbr:Bru w) :
  Calls Tryz.prog 96 #[.agg #[.int .i64 sm,.slice ao n c]] w fun e w'=>∃ t:Nat,e=.returned (.int .i64 t)/\(z≠0->Tw z.natAbs t)/\(z=0->t=0)/\t<64*n+64/\Ext w w':=by
 have hEb:=Ext.alloc w (.cells #[.int .i64 sm,.slice ao n c] 54);have hc:=h.cmp3;have Hs:=hid (Sign_any sm (.slice ao n c));have Hbr:=hid hbr;obtain ⟨sg,hsg'⟩:∃ sg,cmp3 sm 0=sg:=⟨_,rfl⟩;rw [hsg'] at Hs;have q1:=eql_nil ao n c 0 0;clear hbr
 by_cases hz:z=0
 ·have hb0:sg=0:=by rw [<-hsg',hc,hz];decide
  subst hb0;clear h hc hsg'
  go_enter Tryz.func96,Tryz.ntmps96
  go_wp2_with fail
  refine (Hs.out _).mono ?_;rintro e w1 ⟨rfl,hx1⟩
  go_wp2_with fail
  go_ret
  exact ⟨0,rfl,fun k=>absurd hz k,fun _=>rfl,by omega,hEb.trans hx1⟩
 ·have hb0:(sg == 0)=false:=by
   rw [qV,<-hsg',hc];unfold cmp3
   split
   ·decide
   ·split
    ·decide
    ·omega
  have Hz:=hid hz;clear hz hc hsg'
  rcases h with ⟨rfl,rfl,rfl,rfl,h1,h2⟩ | ⟨b,o,l,rfl,hl,hnc,hcm,hs,hd,hr,hzz⟩
  ·obtain ⟨x,hx⟩:∃ x:Nat,IntKind.u64.wrap sm=(x:Int):=⟨(IntKind.u64.wrap sm).toNat,by rw [yF];omega⟩
   have hx':(x:Int)=sm % 18446744073709551616:=by rw [<-hx,yF]
   have hxb:x<18446744073709551616:=by omega
   have hx0:x≠0:=by have:=Hz.out;omega
   have htw:=tw_ctz x hx0 (by rw [B64_eq];exact hxb)
   have Ht:Hid (Tw sm.natAbs (Lib.ctz 64 x)):=by
    by_cases hneg:sm<0
    ·have e:sm.natAbs=18446744073709551616-x:=by omega
     show Tw _ _
     rw [e];exact tw_neg htw.1 htw.2 hxb
    ·have e:sm.natAbs=x:=by omega
     show Tw _ _
     rw [e];exact htw.1
   have Htz:=hid (fun wx (hb:Bru wx)=>Tryz.bits_TrailingZeros64 x hxb wx (fun _=>hb));obtain ⟨t,ht⟩:∃ t,Lib.ctz 64 x=t:=⟨_,rfl⟩;have htl:=htw.2;rw [ht] at Ht Htz htl;clear hx' hx0 htw ht
   go_enter Tryz.func96,Tryz.ntmps96
   go_wp2_with fail
   refine (Hs.out _).mono ?_;rintro e w1 ⟨rfl,hx1⟩;have k0:=(hx1.cell (p:=⟨w.heap.size,0,none⟩) (by simp)).trans (show _=some (.int .i64 sm) from by simp);have k1:=(hx1.cell (p:=⟨w.heap.size,1,none⟩) (by simp)).trans (show _=some (.slice none 0 0) from by simp)
   go_wp2_with fail
   refine (Htz.out _ (bru_ext Hbr.out (hEb.trans hx1))).mono ?_;rintro e w2 ⟨rfl,rfl⟩
   go_wp2_with fail
   go_ret
   exact ⟨t,rfl,fun _=>Ht.out,fun k=>absurd k Hz.out,by omega,hEb.trans hx1⟩
  ·have hno:(some (⟨b,o,none⟩:Addr)).isNone=false:=rfl
   have hzv:z.natAbs=val l:=by rcases hzz with ⟨_,h,_⟩ | ⟨_,h,_⟩<;>omega
   have Hl:=hid hl;have Hd:=hid hd;have Hzv:=hid hzv;have Hs0:=hid hs;clear hl hd hr hzz hs hzv
   go_enter Tryz.func96,Tryz.ntmps96
   go_wp2_with fail
   refine (Hs.out _).mono ?_;rintro e w1 ⟨rfl,hx1⟩;have k0:=(hx1.cell (p:=⟨w.heap.size,0,none⟩) (by simp)).trans (show _=some (.int .i64 sm) from by simp);have k1:=(hx1.cell (p:=⟨w.heap.size,1,none⟩) (by simp)).trans (show _=some (.slice (some ⟨b,o,none⟩) n c) from by simp);have Hs1:=hid (Hs0.out.ext (hEb.trans hx1))
   go_wp2_with fail
   go_loop [3] (fun i=>∃ k:Nat,k<n/\i=.int .i64 k/\∀ t,t<k->l.getD t 0=0) (fun i=>n-(intOf i).toNat)
   case atStart =>
    refine ⟨0,?_,rfl,fun t ht=>absurd ht (by omega)⟩
    apply Nat.pos_of_ne_zero
    intro h0;have:l=[]:=jD (by rw [Hl.out,h0]);have h3:=Hzv.out;rw [this] at h3
    simp [val] at h3
    exact Hz.out h3
   case round =>
    obtain ⟨k,hk,rfl,hall⟩:=hrel;have Hall:=hid hall;clear hall
    have hck:w1.cell? ⟨b,o+k,none⟩=some (.int .u64 (l.getD k 0:Nat)):=by
     rcases Hs1.out with ⟨h,_⟩ | ⟨b',o',h,_,hc⟩
     ·cases h
     ·simp only [yX,Addr.mk.injEq,and_true] at h
      obtain ⟨rfl,rfl⟩:=h;exact hc k (by rw [Hl.out];exact hk)
    obtain ⟨x,hx⟩:∃ x,l.getD k 0=x:=⟨_,rfl⟩;rw [hx] at hck;have Hx:=hid hx;clear hx
    have ik:(k:Int)<(n:Int):=by omega
    by_cases hx0:x=0
    ·subst hx0
     have hk1:k+1<n:=by
      apply Nat.lt_of_le_of_ne hk
      intro h0
      have:val l=0:=val_all_zero l (fun t ht=>by
       rw [Hl.out] at ht
       by_cases e:t=k
       ·rw [e];exact Hx.out
       ·exact Hall.out t (by omega))
      have h3:=Hzv.out;rw [this] at h3;exact Hz.out (by omega)
     go_wp2_with fail
     go_round
     case rel=>exact ⟨k+1,hk1,by go_num,fun t ht=>by
      by_cases e:t=k
      ·rw [e];exact Hx.out
      ·exact Hall.out t (by omega)⟩
     case measure=>simp [intOf];omega
    ·have hxB:x<B64:=by
      rw [<-Hx.out]
      have hkl:k<l.length:=by rw [Hl.out];exact hk
      rw [qQ,qX hkl];exact Hd.out _ (List.getElem_mem hkl)
     have hbx:((x:Int) == 0)=false:=by rw [qV];omega
     have htw:=tw_ctz x hx0 hxB;have Htz:=hid (fun wx (hb:Bru wx)=>Tryz.bits_TrailingZeros64 x (by rw [B64_eq] at hxB;exact hxB) wx (fun _=>hb));obtain ⟨t,ht⟩:∃ t,Lib.ctz 64 x=t:=⟨_,rfl⟩;rw [ht] at htw Htz
     have Ht:Hid (Tw z.natAbs (64*k+t)):=by
      show Tw _ _
      rw [Hzv.out,val_noughts l k (by rw [Hl.out];exact hk) Hall.out,Hx.out];exact tw_words k x _ t htw.1 htw.2
     have htl:=htw.2;clear htw ht hxB hx0
     go_wp2_with fail
     refine (Htz.out _ (bru_ext Hbr.out (hEb.trans hx1))).mono ?_;rintro e w2 ⟨rfl,rfl⟩
     go_wp2_with fail
     go_ret
     exact ⟨64*k+t,by go_num,fun _=>Ht.out,fun k=>absurd k Hz.out,by omega,hEb.trans hx1⟩
def Keep64 (w w':World):Prop:=w.heap.size<=w'.heap.size/\∀ b o x,w.cell? ⟨b,o,none⟩=some (.int .u64 x)->w'.cell? ⟨b,o,none⟩=some (.int .u64 x)
theorem Keep64.refl (w:World):Keep64 w w:=⟨qZ _,fun _ _ _ h=>h⟩
theorem Keep64.trans {a b c:World} (h:Keep64 a b) (k:Keep64 b c):Keep64 a c:=⟨qL h.1 k.1,fun _ _ _ q=>k.2 _ _ _ (h.2 _ _ _ q)⟩
theorem Seg.keep64 {w w':World} {ao:Option Addr} {l:List Nat} (h:Seg w ao l) (k:Keep64 w w'):Seg w' ao l:=by
 rcases h with h | ⟨b,o,rfl,hb,hc⟩
 ·exact qM h
 ·exact qO ⟨b,o,rfl,qK hb k.1,fun t ht=>k.2 _ _ _ (hc t ht)⟩
theorem IsInt.keep64 {w w':World} {sm:Int} {ao:Option Addr} {n c:Nat} {z:Int} (h:IsInt w sm ao n c z) (k:Keep64 w w'):IsInt w' sm ao n c z:=by
 rcases h with h | ⟨b,o,l,h1,h2,h3,h4,h5,h6⟩
 ·exact qM h
 ·exact qO ⟨b,o,l,h1,h2,h3,h4,h5.keep64 k,h6⟩
def NotW (w:World) (p:Addr):Prop:=∃ u,w.cell? p=some u/\∀ x,u≠.int .u64 x
theorem NotW.i64 {w:World} {p:Addr} {x:Int} (h:w.cell? p=some (.int .i64 x)):NotW w p:=⟨_,h,fun _ h=>by cases h⟩
theorem NotW.slice {w:World} {p:Addr} {a:Option Addr} {n c:Nat} (h:w.cell? p=some (.slice a n c)):NotW w p:=⟨_,h,fun _ h=>by cases h⟩
theorem NotW.set {w:World} {p q:Addr} {v:Value} (h:NotW w q) (hp:NotW w p) (hv:∀ x,v≠.int .u64 x):NotW (w.setCell p v) q:=by
 by_cases e:q=p
 ·subst e
  obtain ⟨u,hu,_⟩:=hp;exact ⟨v,World.cell?_setCell_same _ _ _ hu,hv⟩
 ·obtain ⟨u,hu,h2⟩:=h
  exact ⟨u,by rw [World.cell?_setCell_other _ _ _ _ (fun h=>e h.symm)];exact hu,h2⟩
theorem Keep64.set {a w:World} {p:Addr} (h:Keep64 a w) (hp:NotW w p) (v:Value):Keep64 a (w.setCell p v):=by
 refine h.trans ⟨by simp [World.setCell],fun b o x hx=>?_⟩
 by_cases e:(⟨b,o,none⟩:Addr)=p
 ·subst e
  obtain ⟨u,hu,h2⟩:=hp;rw [hu] at hx;simp only [yX] at hx;exact absurd hx (h2 x)
 ·rw [World.cell?_setCell_other _ _ _ _ (fun h=>e h.symm)];exact hx
theorem notW_i64 (x y:Int):Value.int .i64 x≠.int .u64 y:=by intro h;cases h
theorem notW_slice (a:Option Addr) (n c:Nat) (y:Int):Value.slice a n c≠.int .u64 y:=by intro h;cases h
theorem Keep64.set2 {w:World} {p q:Addr} {u:Value} (hp:NotW w p) (hq:NotW w q) (hu:∀ x,u≠.int .u64 x) (v:Value):Keep64 w ((w.setCell p u).setCell q v) :=
 ((Keep64.refl w).set hp u).set (hq.set hp hu) v
theorem Keep64.set4 {w:World} {p q r s:Addr} {u v x:Value} (hp:NotW w p) (hq:NotW w q) (hr:NotW w r) (hs:NotW w s) (hu:∀ y,u≠.int .u64 y) (hv:∀ y,v≠.int .u64 y) (hx:∀ y,x≠.int .u64 y) (t:Value) :
  Keep64 w ((((w.setCell p u).setCell q v).setCell r x).setCell s t) :=
 (Keep64.set2 hp hq hu v).trans (Keep64.set2 ((hr.set hp hu).set (hq.set hp hu) hv) ((hs.set hp hu).set (hq.set hp hu) hv) hx t)
theorem Ext.set {w W:World} {p:Addr} (h:Ext w W) (hg:w.heap.size<=p.block) (u:Value):Ext w (W.setCell p u):=yD h hg u
structure FRes (W:World) (g:Nat):Prop where
 lt:g<W.heap.size
 row:W.heap[g]?=some (.cells #[.int .i64 0,.int .i64 0] 26 (0,0))
theorem FRes.ext {W W':World} {g:Nat} (h:FRes W g) (k:Ext W W'):FRes W' g:=⟨qK h.lt k.size,(k.block _ h.lt).trans h.row⟩
theorem FRes.c0 {W:World} {g:Nat} (h:FRes W g):W.cell? ⟨g,0,none⟩=some (.int .i64 0):=by rw [qD W g 0 _ _ (0,0) h.row];rfl
theorem FRes.c1 {W:World} {g:Nat} (h:FRes W g):W.cell? ⟨g,1,none⟩=some (.int .i64 0):=by rw [qD W g 1 _ _ (0,0) h.row];rfl
theorem FRes.f0 {W:World} {g:Nat} (h:FRes W g):W.frozen? ⟨g,0,none⟩=false:=jQ W g 0 _ _ h.row
theorem FRes.f1 {W:World} {g:Nat} (h:FRes W g):W.frozen? ⟨g,1,none⟩=false:=jQ W g 1 _ _ h.row
theorem Parse_any (s:ByteArray) (w:World) (hs:s.size<=9223372036854775807) :
  Calls Tryz.prog 89 #[.string s] w fun e w'=>∃ (sm:Int) (a':Option Addr) (n' c':Nat),e=.returned (.tuple #[.agg #[.int .i64 sm,.slice a' n' c'],.agg #[.int .i64 (pcode (bs s):Nat),.int .i64 (pat (bs s):Nat)]])/\IsInt w' sm a' n' c' (pz (bs s))/\Ext w w':=by
 have Hscan:=hid (fun wx=>scanNumber_any s wx hs);have Hlong:=hid (fun wx=>tooLong_any s wx hs);have hlen:=bs_length s;obtain ⟨en,hen⟩:∃ en,(scanN (bs s)).1=en:=⟨_,rfl⟩;obtain ⟨ok,hok⟩:∃ ok,(scanN (bs s)).2=ok:=⟨_,rfl⟩;rw [hen,hok] at Hscan
 by_cases hbad:ok=true/\¬ en<s.size
 ·obtain ⟨rfl,hlt⟩:=hbad
  have hil:¬ ((en:Nat):Int)<(s.size:Int):=by omega
  by_cases hlg:1000<s.size-sgl (bs s)
  ·have Hz:Hid (pz (bs s)=0):=by show _=_;unfold pz;rw [qE];rw [hlen];exact fun h=>h.2.2 hlg
   have Hc:Hid (pcode (bs s)=2):=by show _=_;unfold pcode;rw [qU ⟨hok,by rw [hen,hlen];exact hlt⟩,qU (by rw [hlen];exact hlg)]
   have Ha:Hid (pat (bs s)=0):=by show _=_;unfold pat;rw [qU ⟨hok,by rw [hen,hlen];exact hlt⟩]
   rw [jJ hlg] at Hlong;clear hlg hlt hen hok hlen;rw [Hz.out,Hc.out,Ha.out]
   go_enter Tryz.func89,Tryz.ntmps89
   go_wp2_with fail
   refine (Hscan.out _).mono ?_;rintro e w1 ⟨rfl,rfl⟩
   go_wp2_with fail
   refine (Hlong.out _).mono ?_;rintro e w1 ⟨rfl,rfl⟩
   go_wp2_with fail
   exact qJ (v:=.tuple #[.agg #[.int .i64 0,.slice none 0 0],.agg #[.int .i64 2,.int .i64 0]]) (by simp [results,Tryz.results89,go_sem]) rfl ⟨0,none,0,0,rfl,IsInt.small _ _ (by omega) (by omega),(Ext.alloc _ _).then _⟩
  ·have Hz:Hid (pz (bs s)=sgn (decide (0<sgl (bs s))) (dval ((bs s).drop (sgl (bs s))))):=by show _=_;unfold pz;rw [qU ⟨hok,by rw [hen,hlen];exact hlt,by rw [hlen];exact hlg⟩]
   have Hc:Hid (pcode (bs s)=0):=by show _=_;unfold pcode;rw [qU ⟨hok,by rw [hen,hlen];exact hlt⟩,qE (by rw [hlen];exact hlg)]
   have Ha:Hid (pat (bs s)=0):=by show _=_;unfold pat;rw [qU ⟨hok,by rw [hen,hlen];exact hlt⟩]
   have Hread:=hid (fun wx=>readNumber_any s wx (by rw [hlen];omega) (allD_of_scan _ hok (by rw [hen,hlen];exact hlt)));rw [jE hlg] at Hlong;clear hlg hlt hen hok hlen;rw [Hc.out,Ha.out]
   have hR:Res ((w.alloc (.cells #[.int .i64 0,.slice none 0 0] 54)).alloc (.cells #[.int .i64 0,.int .i64 0] 26)) w.heap.size :=
    ⟨by simp;omega,(Below.heap_alloc _ _ _ (by simp)).trans (qW w _)⟩
   have hF:FRes ((w.alloc (.cells #[.int .i64 0,.slice none 0 0] 54)).alloc (.cells #[.int .i64 0,.int .i64 0] 26)) (w.heap.size+1):=by
    refine ⟨by simp,?_⟩;have:=qW (w.alloc (.cells #[.int .i64 0,.slice none 0 0] 54)) (.cells #[.int .i64 0,.int .i64 0] 26)
    simpa using this
   have hE:Ext w ((w.alloc (.cells #[.int .i64 0,.slice none 0 0] 54)).alloc (.cells #[.int .i64 0,.int .i64 0] 26)):=(Ext.alloc _ _).then _
   go_enter Tryz.func89,Tryz.ntmps89
   go_wp2_with fail
   generalize (w.alloc (.cells #[.int .i64 0,.slice none 0 0] 54)).alloc (.cells #[.int .i64 0,.int .i64 0] 26)=W0 at *;refine (Hscan.out _).mono ?_;rintro e w1 ⟨rfl,rfl⟩
   go_wp2_with fail
   refine (Hlong.out _).mono ?_;rintro e w1 ⟨rfl,rfl⟩
   go_wp2_with fail
   refine (Hread.out _).mono ?_;rintro e w3 ⟨s4,a4,n4,c4,rfl,hI4,he4⟩;have hr4:=hR.ext he4;have hf4:=hF.ext he4;have k0:=hr4.c0;have k1:=hr4.c1;have g0:=hr4.f0;have g1:=hr4.f1;have k2:=hf4.c0;have k3:=hf4.c1;have g2:=hf4.f0;have g3:=hf4.f1
   go_wp2_with fail
   exact qJ (v:=.tuple #[.agg #[.int .i64 s4,.slice a4 n4 c4],.agg #[.int .i64 0,.int .i64 0]]) (by simp [results,Tryz.results89,go_sem,k0,k1,k2,k3]) rfl
    ⟨s4,a4,n4,c4,rfl,(hI4.cast Hz.out.symm).keep64 (Keep64.set4 (.i64 k0) (.slice k1) (.i64 k2) (.i64 k3) (notW_i64 _) (notW_slice _ _ _) (notW_i64 _) _),((((hE.trans he4).set (qZ _) _).set (qZ _) _).set (Nat.le_succ _) _).set (Nat.le_succ _) _⟩
 ·have Hz:Hid (pz (bs s)=0):=by show _=_;unfold pz;rw [qE];rw [hok,hen,hlen];exact fun h=>hbad ⟨h.1,h.2.1⟩
  have Hc:Hid (pcode (bs s)=1):=by show _=_;unfold pcode;rw [qE];rw [hok,hen,hlen];exact hbad
  have Ha:Hid (pat (bs s)=en):=by show _=_;unfold pat;rw [qE,hen];rw [hok,hen,hlen];exact hbad
  rw [Hz.out,Hc.out,Ha.out]
  have hcase:ok=false\/(ok=true/\((en:Nat):Int)<(s.size:Int)):=by
   cases ok
   ·exact qM rfl
   ·right;refine ⟨rfl,?_⟩
    have:en<s.size:=yB fun h=>hbad ⟨rfl,h⟩
    omega
  clear hbad hen hok hlen
  rcases hcase with rfl | ⟨rfl,hil⟩
  all_goals
   go_enter Tryz.func89,Tryz.ntmps89
   go_wp2_with fail
   refine (Hscan.out _).mono ?_;rintro e w1 ⟨rfl,rfl⟩
   go_wp2_with fail
   exact qJ (v:=.tuple #[.agg #[.int .i64 0,.slice none 0 0],.agg #[.int .i64 1,.int .i64 (en:Nat)]]) (by simp [results,Tryz.results89,go_sem]) rfl ⟨0,none,0,0,rfl,IsInt.small _ _ (by omega) (by omega),(Ext.alloc _ _).then _⟩
theorem tdiv_range (a b:Int) (hb0:b≠0) (hb1:b≠-1) (h1 : -9223372036854775808<=a) (h2:a<=9223372036854775807) : -9223372036854775808<=a.tdiv b/\a.tdiv b<=9223372036854775807:=by
 have hn:(a.tdiv b).natAbs=a.natAbs / b.natAbs:=Int.natAbs_tdiv a b
 by_cases hb:b=1
 ·subst hb;rw [Int.tdiv_one];exact ⟨h1,h2⟩
 ·have h3:2<=b.natAbs:=by omega
  have h4:a.natAbs / b.natAbs<=a.natAbs / 2:=Nat.div_le_div_left h3 (by omega);omega
theorem tmod_range (a b:Int) (hb0:b≠0) (h1 : -9223372036854775808<=b) (h2:b<=9223372036854775807) : -9223372036854775808<=a.tmod b/\a.tmod b<=9223372036854775807:=by
 have hn:(a.tmod b).natAbs=a.natAbs % b.natAbs:=Int.natAbs_tmod a b;have h3:a.natAbs % b.natAbs<b.natAbs:=Nat.mod_lt _ (by omega);omega
theorem tdiv_sgn (b1 b2:Bool) (x y:Nat):(sgn b1 x).tdiv (sgn b2 y)=sgn (!(b1 == b2)) (x / y):=by
 cases b1<;>cases b2<;>simp [sgn,Int.neg_tdiv,Int.tdiv_neg]
theorem tmod_sgn (b1 b2:Bool) (x y:Nat):(sgn b1 x).tmod (sgn b2 y)=sgn b1 (x % y):=by
 cases b1<;>cases b2<;>simp [sgn,Int.neg_tmod,Int.tmod_neg]<;>rfl
structure Boxes22 (w W:World) (x1 y1 x2 y2:Value):Prop where
 ext:Ext w W
 size:W.heap.size=w.heap.size+4
 c0:W.cell? ⟨w.heap.size,0,none⟩=some x1
 c1:W.cell? ⟨w.heap.size,1,none⟩=some y1
 d0:W.cell? ⟨w.heap.size+1,0,none⟩=some x2
 d1:W.cell? ⟨w.heap.size+1,1,none⟩=some y2
 res:Res W (w.heap.size+1+1)
 res':Res W (w.heap.size+1+1+1)
theorem boxes22 (w:World) (x1 y1 x2 y2:Value):Boxes22 w ((((w.alloc (.cells #[x1,y1] 54)).alloc (.cells #[x2,y2] 54)).alloc (.cells #[.int .i64 0,.slice none 0 0] 54)).alloc (.cells #[.int .i64 0,.slice none 0 0] 54)) x1 y1 x2 y2:=by
 have hb:=boxes2 w x1 y1 x2 y2;generalize hW:((w.alloc (.cells #[x1,y1] 54)).alloc (.cells #[x2,y2] 54)).alloc (.cells #[.int .i64 0,.slice none 0 0] 54)=W at *;have he:=Ext.alloc W (.cells #[.int .i64 0,.slice none 0 0] 54);have hs:=hb.size;refine ⟨hb.ext.then _,by simp [hs],(he.cell (p:=⟨w.heap.size,0,none⟩) (by show w.heap.size<_;omega)).trans hb.c0,(he.cell (p:=⟨w.heap.size,1,none⟩) (by show w.heap.size<_;omega)).trans hb.c1,(he.cell (p:=⟨w.heap.size+1,0,none⟩) (by show w.heap.size+1<_;omega)).trans hb.d0,(he.cell (p:=⟨w.heap.size+1,1,none⟩) (by show w.heap.size+1<_;omega)).trans hb.d1,hb.res.ext he,⟨by simp [hs],?_⟩⟩;have:=qW W (.cells #[.int .i64 0,.slice none 0 0] 54);rw [hs] at this;exact this
theorem Ext.put {w W:World} {g o:Nat} (h:Ext w W) (hg:w.heap.size<=g) (u:Value):Ext w (W.setCell ⟨g,o,none⟩ u):=yD h (p:=⟨g,o,none⟩) hg u
theorem Ext.put2 {w W:World} {g o o':Nat} (h:Ext w W) (hg:w.heap.size<=g) (u v:Value):Ext w ((W.setCell ⟨g,o,none⟩ u).setCell ⟨g,o',none⟩ v):=(h.put hg u).put hg v
theorem keepS {w':World} {B g o:Nat} {u x y x2 y2:Value} (hg:B+1<g) (h:w'.cell? ⟨B,0,none⟩=some x/\w'.cell? ⟨B,1,none⟩=some y/\w'.cell? ⟨B+1,0,none⟩=some x2/\w'.cell? ⟨B+1,1,none⟩=some y2) :
  (w'.setCell ⟨g,o,none⟩ u).cell? ⟨B,0,none⟩=some x/\(w'.setCell ⟨g,o,none⟩ u).cell? ⟨B,1,none⟩=some y/\(w'.setCell ⟨g,o,none⟩ u).cell? ⟨B+1,0,none⟩=some x2/\(w'.setCell ⟨g,o,none⟩ u).cell? ⟨B+1,1,none⟩=some y2:=by
 have hO:Only g w' (w'.setCell ⟨g,o,none⟩ u):=(Only.refl _ _).setCell _ _;exact ⟨(jR (a:=⟨B,0,none⟩) (hO.block _ (by simp only;omega))).trans h.1,(jR (a:=⟨B,1,none⟩) (hO.block _ (by simp only;omega))).trans h.2.1,(jR (a:=⟨B+1,0,none⟩) (hO.block _ (by simp only;omega))).trans h.2.2.1,(jR (a:=⟨B+1,1,none⟩) (hO.block _ (by simp only;omega))).trans h.2.2.2⟩
theorem len_pos {l:List Nat} {z:Int} (hv:val l=z.natAbs) (hz:z≠0):1<=l.length:=by
 cases l with
 | nil=>simp [val] at hv;omega
 | cons x r=>simp
theorem Of_from {w:World} (n:Int) (h1 : -9223372036854775808<=n) (h2:n<=9223372036854775807):∀ wx:World,Ext w wx->Calls Tryz.prog 56 #[.int .i64 n] wx fun e w'=>e=.returned (.agg #[.int .i64 n,.slice none 0 0])/\Ext w w'/\Ext wx w' :=
 fun wx hx=>(Of_any n h1 h2 wx).mono fun _ _ h=>⟨h.1,hx.trans h.2.2,h.2.2⟩
theorem divTowards_any (s1 s2:Int) (a1 a2:Option Addr) (n1 c1 n2 c2:Nat) (z1 z2:Int) (w:World) (h1:IsInt w s1 a1 n1 c1 z1) (h2:IsInt w s2 a2 n2 c2 z2) (K:Nat) (hK:K<=4194304) (hf1:Fit K z1) (hf2:Fit K z2) (hz0:z2≠0) :
  Calls Tryz.prog 98 #[.agg #[.int .i64 s1,.slice a1 n1 c1],.agg #[.int .i64 s2,.slice a2 n2 c2]] w fun e w'=>∃ (s3:Int) (a3:Option Addr) (n3 c3:Nat) (s4:Int) (a4:Option Addr) (n4 c4:Nat),e=.returned (.tuple #[.agg #[.int .i64 s3,.slice a3 n3 c3],.agg #[.int .i64 s4,.slice a4 n4 c4]])/\IsInt w' s3 a3 n3 c3 (z1.tdiv z2)/\IsInt w' s4 a4 n4 c4 (z1.tmod z2)/\Ext w w':=by
 have Hf1:=hid hf1;have Hf2:=hid hf2;have H1:=hid h1;have H2:=hid h2;have hz1:=h1.bool;have hz2:=h2.bool;clear hf1 hf2 h1 h2
 by_cases hsh:(a1=none/\a2=none)/\s2≠-1
 ·obtain ⟨⟨rfl,rfl⟩,hs2⟩:=hsh
  obtain ⟨rfl,rfl,rfl,r1,r2⟩:=H1.out.none;obtain ⟨rfl,rfl,rfl,r3,r4⟩:=H2.out.none;clear hz1 hz2
  have hb2:(s2 != -1)=true:=by rw [bne_iff_ne];exact hs2
  obtain ⟨q1,q2⟩:=tdiv_range s1 s2 hz0 hs2 r1 r2;obtain ⟨q3,q4⟩:=tmod_range s1 s2 hz0 r3 r4;obtain ⟨q,hq⟩:∃ q,s1.tdiv s2=q:=⟨_,rfl⟩;obtain ⟨r,hr⟩:∃ r,s1.tmod s2=r:=⟨_,rfl⟩;rw [hq] at q1 q2;rw [hr] at q3 q4
  have hwq:IntKind.i64.wrap q=q:=by rw [qH];omega
  have hwr:IntKind.i64.wrap r=r:=by rw [qH];omega
  have hb0:(s2 == 0)=false:=by rw [qV];exact hz0
  rw [hq,hr];clear hs2
  go_enter Tryz.func98,Tryz.ntmps98
  go_wp2_with fail
  have hbx:=boxes22 w (.int .i64 s1) (.slice none 0 0) (.int .i64 s2) (.slice none 0 0);generalize (((w.alloc (.cells #[.int .i64 s1,.slice none 0 0] 54)).alloc (.cells #[.int .i64 s2,.slice none 0 0] 54)).alloc (.cells #[.int .i64 0,.slice none 0 0] 54)).alloc (.cells #[.int .i64 0,.slice none 0 0] 54)=W0 at *
  have hB:w.heap.size+1<W0.heap.size:=by have:=hbx.size;omega
  refine (short_yes _ _ _ _ _ _ _).mono ?_;rintro e we ⟨rfl,hxe⟩;obtain ⟨y0,y1,y2,y3⟩:=keep4 hxe hB hbx.c0 hbx.c1 hbx.d0 hbx.d1
  have hBe:w.heap.size+1<we.heap.size:=by have:=hxe.size;omega
  have heed:Ext we we.drew:=qG (Ext.refl _);have Hq:=hid (Of_from (w:=we) q q1 q2);have Hr:=hid (Of_from (w:=we) r q3 q4)
  go_wp2_with fail
  go_region_held3 (fun w'=>w'.cell? ⟨w.heap.size,0,none⟩=some (.int .i64 s1)/\w'.cell? ⟨w.heap.size,1,none⟩=some (.slice none 0 0)/\w'.cell? ⟨w.heap.size+1,0,none⟩=some (.int .i64 s2)/\w'.cell? ⟨w.heap.size+1,1,none⟩=some (.slice none 0 0)) (first | exact keep4 (by assumption) hBe y0 y1 y2 y3 | exact keepS (by omega) (keepS (by omega) (keep4 (by assumption) hBe y0 y1 y2 y3)) | exact keepS (by omega) (keepS (by omega) (keepS (by omega) (keepS (by omega) (keep4 (by assumption) hBe y0 y1 y2 y3)))))
   (first | (go_at_call_of 56 q;refine (Hq.out _ (by assumption)).mono ?_;rintro e wa ⟨rfl,hea,hxa⟩) | (go_at_call_of 56 r;refine (Hr.out _ (by assumption)).mono ?_;rintro e wb ⟨rfl,heb,hxb⟩;have hr4:=hbx.res.ext (hxe.trans heb);have hr5:=hbx.res'.ext (hxe.trans heb);have k0:=hr4.c0;have k1:=hr4.c1;have g0:=hr4.f0;have g1:=hr4.f1;have k2:=hr5.c0;have k3:=hr5.c1;have g2:=hr5.f0;have g3:=hr5.f1))
  all_goals
   go_wp2_with fail
   exact qJ (v:=.tuple #[.agg #[.int .i64 q,.slice none 0 0],.agg #[.int .i64 r,.slice none 0 0]]) (by simp [results,Tryz.results98,go_sem,k0,k1,k2,k3]) rfl
    ⟨q,none,0,0,r,none,0,0,rfl,IsInt.small _ _ q1 q2,IsInt.small _ _ q3 q4,(((hbx.ext.trans hxe).trans heb).put2 (by omega) _ _).put2 (by omega) _ _⟩
 ·have hcase:(¬ (a1=none/\a2=none))\/(a1=none/\a2=none/\s2=-1):=by
   by_cases h:a1=none/\a2=none
   ·right
    refine ⟨h.1,h.2,?_⟩
    exact yB fun k=>hsh ⟨h,k⟩
   ·exact qM h
  clear hsh;obtain ⟨b1,hb1⟩:∃ b,decide (s1<0)=b:=⟨_,rfl⟩;obtain ⟨b2,hb2⟩:∃ b,decide (s2<0)=b:=⟨_,rfl⟩
  have hn1:=fun w0:World=>negative_from (w:=w0) s1 (.slice a1 n1 c1);have hn2:=fun w0:World=>negative_from (w:=w0) s2 (.slice a2 n2 c2)
  rw [hb1] at hz1;rw [hb2] at hz2;rw [hb1] at hn1;rw [hb2] at hn2;have Hn1:=hid hn1;have Hn2:=hid hn2;have Hz1:=hid hz1;have Hz2:=hid hz2;have Hz0:=hid hz0;clear hn1 hn2 hb1 hb2 hz1 hz2 hz0
  have Hsh:Hid (∀ wx:World,Calls Tryz.prog 100 #[.agg #[.int .i64 s1,.slice a1 n1 c1],.agg #[.int .i64 s2,.slice a2 n2 c2]] wx fun e w'=>∃ bb:Bool,e=.returned (.bool bb)/\(bb=true->s2=-1)/\Ext wx w'):=by
   intro wx
   rcases hcase with h | ⟨rfl,rfl,rfl⟩
   ·exact (short_no s1 s2 a1 a2 n1 c1 n2 c2 wx h).mono fun _ _ k=>⟨false,k.1,(fun h=>absurd h (by decide)),k.2⟩
   ·exact (short_yes s1 (-1) n1 c1 n2 c2 wx).mono fun _ _ k=>⟨true,k.1,(fun _=>rfl),k.2⟩
  clear hcase
  go_enter Tryz.func98,Tryz.ntmps98
  go_wp2_with fail
  have hbx:=boxes22 w (.int .i64 s1) (.slice a1 n1 c1) (.int .i64 s2) (.slice a2 n2 c2);generalize (((w.alloc (.cells #[.int .i64 s1,.slice a1 n1 c1] 54)).alloc (.cells #[.int .i64 s2,.slice a2 n2 c2] 54)).alloc (.cells #[.int .i64 0,.slice none 0 0] 54)).alloc (.cells #[.int .i64 0,.slice none 0 0] 54)=W0 at *
  have hB:w.heap.size+1<W0.heap.size:=by have:=hbx.size;omega
  refine (Hsh.out _).mono ?_;rintro e we ⟨bb,rfl,hbb,hxe⟩;obtain ⟨y0,y1,y2,y3⟩:=keep4 hxe hB hbx.c0 hbx.c1 hbx.d0 hbx.d1
  have hBe:w.heap.size+1<we.heap.size:=by have:=hxe.size;omega
  have Hw1:=hid (words_from (H1.out.ext (hbx.ext.trans hxe)));have Hw2:=hid (words_from (H2.out.ext (hbx.ext.trans hxe)));have heed:Ext we we.drew:=qG (Ext.refl _)
  cases bb
  case' true =>
   have hb2:(s2 != -1)=false:=by rw [hbb rfl];rfl
  all_goals
   clear hbb
   go_wp2_with fail
   go_region_held3 (fun w'=>w'.cell? ⟨w.heap.size,0,none⟩=some (.int .i64 s1)/\w'.cell? ⟨w.heap.size,1,none⟩=some (.slice a1 n1 c1)/\w'.cell? ⟨w.heap.size+1,0,none⟩=some (.int .i64 s2)/\w'.cell? ⟨w.heap.size+1,1,none⟩=some (.slice a2 n2 c2)) (exact keep4 (by assumption) hBe y0 y1 y2 y3)
    (first | (go_at_call_of 104 s1;refine (Hw1.out _ (by assumption)).mono ?_;rintro e wa ⟨p1,l1,m1,e1,rfl,hl1,hm1,he1,hsg1',hd1,hr1,Hv1,hea,hxa⟩;have Hl1:=hid hl1;clear hl1) | (go_at_call_of 104 a2;refine (Hw2.out _ (by assumption)).mono ?_;rintro e wb ⟨p2,l2,m2,e2,rfl,hl2,hm2,he2,hsg2',hd2,hr2,Hv2,heb,hxb⟩;have Hl2:=hid hl2;clear hl2) | (go_at_call 132;refine (divWords_any p1 p2 l1 l2 m2 m1 e1 e2 wb Hl1.out Hl2.out (hsg1'.ext hxb) hsg2' hd1 hd2 hr1 hr2 hm1 hm2 he1 (by rw [<-Hl2.out];exact len_pos Hv2.out Hz0.out) (by have:=Hf1.out.len hr1 Hv1.out;have:=Hl1.out;omega) (by have:=Hf2.out.len hr2 Hv2.out;have:=Hl2.out;omega)).mono ?_;rintro e wg ⟨v1,v2,rfl,hnq,hnr,hxg⟩;have heg:=heb.trans hxg))
   obtain ⟨p3,l3,m3,e3,rfl,hl3,hm3,he3,hs3,hd3,hr3,hv3⟩:=hnq.named;obtain ⟨p4,l4,m4,e4,rfl,hl4,hm4,he4,hs4,hd4,hr4,hv4⟩:=hnr.named;have Hl3:=hid hl3;have Hl4:=hid hl4;have Hv3:=hid hv3;have Hv4:=hid hv4;obtain ⟨x0,x1,x2,x3⟩:=keep4 heg hBe y0 y1 y2 y3
   have hBg:w.heap.size+1<wg.heap.size:=by have:=heg.size;omega
   have hegd:Ext wg wg.drew:=qG (Ext.refl _);have resA:=hbx.res.ext (hxe.trans heg);have resB:=hbx.res'.ext (hxe.trans heg);have HEg:=hid ((hbx.ext.trans hxe).trans heg);have Hm1:=hid (Hn1.out wg);have Hm2:=hid (Hn2.out wg);have Hfq:=hid (fromWords_from (w:=wg) (!(b1 == b2)));have Hfr:=hid (fromWords_from (w:=wg) b1);clear y0 y1 y2 y3 hea heb heg hxa hxb hxg heed hnq hnr hl3 hl4 hv3 hv4
   go_wp2_with fail
   go_region_held3 (fun w'=>w'.cell? ⟨w.heap.size,0,none⟩=some (.int .i64 s1)/\w'.cell? ⟨w.heap.size,1,none⟩=some (.slice a1 n1 c1)/\w'.cell? ⟨w.heap.size+1,0,none⟩=some (.int .i64 s2)/\w'.cell? ⟨w.heap.size+1,1,none⟩=some (.slice a2 n2 c2)) (first | exact keep4 (by assumption) hBg x0 x1 x2 x3 | exact keepS (by omega) (keepS (by omega) (keep4 (by assumption) hBg x0 x1 x2 x3)) | exact keepS (by omega) (keepS (by omega) (keepS (by omega) (keepS (by omega) (keep4 (by assumption) hBg x0 x1 x2 x3)))))
    (first | (go_at_call_of 102 s1;refine (Hm1.out _ (by assumption)).mono ?_;rintro e wc ⟨rfl,hec,hxc⟩) | (go_at_call_of 102 a2;refine (Hm2.out _ (by assumption)).mono ?_;rintro e wd ⟨rfl,hed,hxd⟩) | (go_at_call_of 94 p3;refine (Hfq.out _ p3 l3 m3 e3 (by assumption) Hl3.out (hs3.ext (by assumption)) hd3 hm3 he3).mono ?_;rintro e wp ⟨s5,a5,n5,c5,rfl,hI5,hep,hxp⟩) | (go_at_call_of 94 p4;refine (Hfr.out _ p4 l4 m4 e4 (by assumption) Hl4.out (hs4.ext (by assumption)) hd4 hm4 he4).mono ?_;rintro e wq ⟨s6,a6,n6,c6,rfl,hI6,heq,hxq⟩;have hr4':=resA.ext heq;have hr5':=resB.ext heq;have k0:=hr4'.c0;have k1:=hr4'.c1;have g0:=hr4'.f0;have g1:=hr4'.f1;have k2:=hr5'.c0;have k3:=hr5'.c1;have g2:=hr5'.f0;have g3:=hr5'.f1))
   all_goals
    go_wp2_with fail
    have hkk:=Keep64.set4 (w:=wq) (.i64 k0) (.slice k1) (.i64 k2) (.slice k3) (notW_i64 s5) (notW_slice a5 n5 c5) (notW_i64 s6) (.slice a6 n6 c6);exact qJ (v:=.tuple #[.agg #[.int .i64 s5,.slice a5 n5 c5],.agg #[.int .i64 s6,.slice a6 n6 c6]]) (by simp [results,Tryz.results98,go_sem,k0,k1,k2,k3]) rfl
     ⟨s5,a5,n5,c5,s6,a6,n6,c6,rfl,((hI5.ext (hxc.trans hxq)).cast (by rw [Hz1.out,Hz2.out,tdiv_sgn,Hv3.out,Hv1.out,Hv2.out])).keep64 hkk,(hI6.cast (by rw [Hz1.out,Hz2.out,tmod_sgn,Hv4.out,Hv1.out,Hv2.out])).keep64 hkk,((HEg.out.trans heq).put2 (by omega) _ _).put2 (by omega) _ _⟩
theorem cellKeep {W w':World} (h:Ext W w') {b o:Nat} {v:Value} (hb:b<W.heap.size) (hc:W.cell? ⟨b,o,none⟩=some v):w'.cell? ⟨b,o,none⟩=some v:=(h.cell (p:=⟨b,o,none⟩) hb).trans hc
theorem cellPut {w':World} {g o' b o:Nat} {u v:Value} (hne:b≠g) (hc:w'.cell? ⟨b,o,none⟩=some v):(w'.setCell ⟨g,o',none⟩ u).cell? ⟨b,o,none⟩=some v:=by
 have hO:Only g w' (w'.setCell ⟨g,o',none⟩ u):=(Only.refl _ _).setCell _ _;exact (jR (a:=⟨b,o,none⟩) (hO.block _ hne)).trans hc
theorem Sub_from {w:World} {s1:Int} {a1:Option Addr} {n1 c1:Nat} {z1:Int} (h1:IsInt w s1 a1 n1 c1 z1) (K:Nat) (hK:K<=4194304) (hf1:Fit K z1):∀ (wx:World) (s2:Int) (a2:Option Addr) (n2 c2:Nat) (z2:Int),Ext w wx->IsInt wx s2 a2 n2 c2 z2->Fit K z2 ->
  Calls Tryz.prog 58 #[.agg #[.int .i64 s1,.slice a1 n1 c1],.agg #[.int .i64 s2,.slice a2 n2 c2]] wx fun e w' =>
  ∃ (s':Int) (a':Option Addr) (n' c':Nat),e=.returned (.agg #[.int .i64 s',.slice a' n' c'])/\IsInt w' s' a' n' c' (z1-z2)/\Ext w w'/\Ext wx w' :=
 fun wx s2 a2 n2 c2 z2 hx h2 hf2=>(Sub_any s1 s2 a1 a2 n1 c1 n2 c2 z1 z2 wx (h1.ext hx) h2 K hK hf1 hf2).mono fun _ _ ⟨s',a',n',c',e1,e2,e3⟩=>⟨s',a',n',c',e1,e2,hx.trans e3,e3⟩
structure IsDiv (a b q r:Int):Prop where
 eq:a=q*b+r
 pos:0<=r
 lt:r<b.natAbs
 le:q.natAbs<=a.natAbs
theorem tdiv_le (a b:Int):(a.tdiv b).natAbs<=a.natAbs:=by
 rw [Int.natAbs_tdiv];exact Nat.div_le_self _ _
theorem isDiv_pos {a b:Int} (hb:b≠0) (h:¬ a.tmod b<0):IsDiv a b (a.tdiv b) (a.tmod b):=by
 refine ⟨?_,by omega,?_,tdiv_le a b⟩
 ·have:=Int.mul_tdiv_add_tmod a b
  rw [yR (a.tdiv b) b];omega
 ·have hn:(a.tmod b).natAbs=a.natAbs % b.natAbs:=Int.natAbs_tmod a b
  have h3:a.natAbs % b.natAbs<b.natAbs:=Nat.mod_lt _ (by omega);omega
theorem div_step_le {a b:Int} (hb:b≠0) (h:a.tmod b<0):(a.tdiv b).natAbs+1<=a.natAbs:=by
 have h1:(a.tdiv b).natAbs=a.natAbs / b.natAbs:=Int.natAbs_tdiv a b;have h2:(a.tmod b).natAbs=a.natAbs % b.natAbs:=Int.natAbs_tmod a b;have h3:=Nat.div_add_mod a.natAbs b.natAbs;have h4:a.natAbs / b.natAbs<=b.natAbs*(a.natAbs / b.natAbs):=Nat.le_mul_of_pos_left _ (by omega);omega
theorem isDiv_neg {a b:Int} (h:a.tmod b<0) (hb:b<0):IsDiv a b (a.tdiv b+1) (a.tmod b-b):=by
 have hn:(a.tmod b).natAbs=a.natAbs % b.natAbs:=Int.natAbs_tmod a b;have h3:a.natAbs % b.natAbs<b.natAbs:=Nat.mod_lt _ (by omega);have h4:=div_step_le (by omega) h;refine ⟨?_,by omega,by omega,by omega⟩;have:=Int.mul_tdiv_add_tmod a b;rw [Int.add_mul,yR (a.tdiv b) b];omega
theorem isDiv_plus {a b:Int} (h:a.tmod b<0) (hb:0<b):IsDiv a b (a.tdiv b-1) (a.tmod b+b):=by
 have hn:(a.tmod b).natAbs=a.natAbs % b.natAbs:=Int.natAbs_tmod a b;have h3:a.natAbs % b.natAbs<b.natAbs:=Nat.mod_lt _ (by omega);have h4:=div_step_le (by omega) h;refine ⟨?_,by omega,by omega,by omega⟩;have:=Int.mul_tdiv_add_tmod a b;rw [Int.sub_mul,yR (a.tdiv b) b];omega
theorem Fit.le {k:Nat} {x y:Int} (h:Fit k y) (hx:x.natAbs<=y.natAbs):Fit k x:=by unfold Fit at *;omega
theorem Fit.one {k:Nat} (h:1<=k):Fit k 1:=by
 unfold Fit;have h1:B64 ^ 1<=B64 ^ k:=qY B64_pos h;rw [Nat.pow_one] at h1
 have h2:1<B64:=by rw [B64_eq];decide
 exact qK h2 h1
structure BoxesD (w W:World) (x1 y1 x2 y2:Value):Prop where
 ext:Ext w W
 size:W.heap.size=w.heap.size+5
 c0:W.cell? ⟨w.heap.size,0,none⟩=some x1
 c1:W.cell? ⟨w.heap.size,1,none⟩=some y1
 d0:W.cell? ⟨w.heap.size+1,0,none⟩=some x2
 d1:W.cell? ⟨w.heap.size+1,1,none⟩=some y2
 res:Res W (w.heap.size+1+1)
 res':Res W (w.heap.size+1+1+1)
 fres:FRes W (w.heap.size+1+1+1+1)
theorem boxesD (w:World) (x1 y1 x2 y2:Value):BoxesD w (((((w.alloc (.cells #[x1,y1] 54)).alloc (.cells #[x2,y2] 54)).alloc (.cells #[.int .i64 0,.slice none 0 0] 54)).alloc (.cells #[.int .i64 0,.slice none 0 0] 54)).alloc (.cells #[.int .i64 0,.int .i64 0] 26)) x1 y1 x2 y2:=by
 have hb:=boxes22 w x1 y1 x2 y2;generalize hW:(((w.alloc (.cells #[x1,y1] 54)).alloc (.cells #[x2,y2] 54)).alloc (.cells #[.int .i64 0,.slice none 0 0] 54)).alloc (.cells #[.int .i64 0,.slice none 0 0] 54)=W at *;have he:=Ext.alloc W (.cells #[.int .i64 0,.int .i64 0] 26);have hs:=hb.size;refine ⟨hb.ext.then _,by simp [hs],cellKeep he (by omega) hb.c0,cellKeep he (by omega) hb.c1,cellKeep he (by omega) hb.d0,cellKeep he (by omega) hb.d1,hb.res.ext he,hb.res'.ext he,⟨by simp [hs],?_⟩⟩;have:=qW W (.cells #[.int .i64 0,.int .i64 0] 26);rw [hs] at this;exact this
theorem Keep64.set6 {w:World} {p q r s t y:Addr} {u v x z k:Value} (hp:NotW w p) (hq:NotW w q) (hr:NotW w r) (hs:NotW w s) (ht:NotW w t) (hy:NotW w y) (hu:∀ y,u≠.int .u64 y) (hv:∀ y,v≠.int .u64 y) (hx:∀ y,x≠.int .u64 y) (hz:∀ y,z≠.int .u64 y) (hk:∀ y,k≠.int .u64 y) (j:Value) :
  Keep64 w ((((((w.setCell p u).setCell q v).setCell r x).setCell s z).setCell t k).setCell y j):=by
 have h1:∀ a,NotW w a->NotW ((w.setCell p u).setCell q v) a:=fun a ha=>(ha.set hp hu).set (hq.set hp hu) hv
 have h2:∀ a,NotW w a->NotW ((((w.setCell p u).setCell q v).setCell r x).setCell s z) a:=fun a ha=>((h1 a ha).set (h1 r hr) hx).set ((h1 s hs).set (h1 r hr) hx) hz
 exact (Keep64.set4 hp hq hr hs hu hv hx z).trans (Keep64.set2 (h2 t ht) (h2 y hy) hk j)
theorem Div_any (s1 s2:Int) (a1 a2:Option Addr) (n1 c1 n2 c2:Nat) (z1 z2:Int) (w:World) (h1:IsInt w s1 a1 n1 c1 z1) (h2:IsInt w s2 a2 n2 c2 z2) (K:Nat) (hK:K<=4194304) (hK1:1<=K) (hf1:Fit K z1) (hf2:Fit K z2) (hz0:z2≠0) :
  Calls Tryz.prog 126 #[.agg #[.int .i64 s1,.slice a1 n1 c1],.agg #[.int .i64 s2,.slice a2 n2 c2]] w fun e w'=>∃ (s3:Int) (a3:Option Addr) (n3 c3:Nat) (s4:Int) (a4:Option Addr) (n4 c4:Nat) (q r:Int),e=.returned (.tuple #[.agg #[.int .i64 s3,.slice a3 n3 c3],.agg #[.int .i64 s4,.slice a4 n4 c4],.agg #[.int .i64 0,.int .i64 0]])/\IsInt w' s3 a3 n3 c3 q/\IsInt w' s4 a4 n4 c4 r/\IsDiv z1 z2 q r/\Ext w w':=by
 have Hf1:=hid hf1;have Hf2:=hid hf2;have H1:=hid h1;have H2:=hid h2;have Hz0:=hid hz0;have hc:=h2.cmp3;have hsg:=h2.sign;have Hs:=hid (Sign_any s2 (.slice a2 n2 c2));obtain ⟨sg,hsg'⟩:∃ sg,cmp3 s2 0=sg:=⟨_,rfl⟩
 have hb0:(sg == 0)=false:=by
  rw [qV,<-hsg',hc];unfold cmp3
  split
  ·decide
  ·split
   ·decide
   ·omega
 rw [hsg'] at Hs;have Hdt:=hid (fun wx (hx:Ext w wx)=>divTowards_any s1 s2 a1 a2 n1 c1 n2 c2 z1 z2 wx (h1.ext hx) (h2.ext hx) K hK hf1 hf2 hz0);have Hnb:=hid (fun w0:World=>negative_from (w:=w0) s2 (.slice a2 n2 c2));have Hsg:=hid hsg.1;have Hfq:Hid (Fit K (z1.tdiv z2)):=hf1.le (tdiv_le z1 z2)
 have Hfr:Hid (Fit K (z1.tmod z2)):=by
  refine hf2.le ?_;rw [Int.natAbs_tmod];exact Nat.le_of_lt (Nat.mod_lt _ (by omega))
 clear hf1 hf2 h1 h2 hz0 hc hsg hsg'
 go_enter Tryz.func126,Tryz.ntmps126
 go_wp2_with fail
 have hbx:=boxesD w (.int .i64 s1) (.slice a1 n1 c1) (.int .i64 s2) (.slice a2 n2 c2);generalize ((((w.alloc (.cells #[.int .i64 s1,.slice a1 n1 c1] 54)).alloc (.cells #[.int .i64 s2,.slice a2 n2 c2] 54)).alloc (.cells #[.int .i64 0,.slice none 0 0] 54)).alloc (.cells #[.int .i64 0,.slice none 0 0] 54)).alloc (.cells #[.int .i64 0,.int .i64 0] 26)=W0 at *
 have hB:w.heap.size+4<W0.heap.size:=by have:=hbx.size;omega
 refine (Hs.out _).mono ?_;rintro e we ⟨rfl,hxe⟩;have y0:=cellKeep hxe (by omega) hbx.c0;have y1:=cellKeep hxe (by omega) hbx.c1;have y2:=cellKeep hxe (by omega) hbx.d0;have y3:=cellKeep hxe (by omega) hbx.d1
 go_wp2_with fail
 refine (Hdt.out _ (hbx.ext.trans hxe)).mono ?_;rintro e wd ⟨s3,a3,n3,c3,s4,a4,n4,c4,rfl,hI3,hI4,hxd⟩;have Hn4:=hid (negative_any s4 (.slice a4 n4 c4));have hE1:=Ext.alloc wd (.cells #[.int .i64 s3,.slice a3 n3 c3] 54);have hE2:=Ext.alloc (wd.alloc (.cells #[.int .i64 s3,.slice a3 n3 c3] 54)) (.cells #[.int .i64 s4,.slice a4 n4 c4] 54);have hbq:=boxed2 wd (.int .i64 s3) (.slice a3 n3 c3) (.int .i64 s4) (.slice a4 n4 c4);have Hsg4:=hid hI4.sign.1;have HI3:=hid hI3;have HI4:=hid hI4;clear hI3 hI4 y0 y1
 go_wp2_with fail
 generalize (wd.alloc (.cells #[.int .i64 s3,.slice a3 n3 c3] 54)).alloc (.cells #[.int .i64 s4,.slice a4 n4 c4] 54)=W1 at *;refine (Hn4.out _).mono ?_;rintro e wn ⟨rfl,hxn⟩
 have hBq:wd.heap.size+1<W1.heap.size:=by have:=hbq.size;omega
 have hBd:w.heap.size+4<wd.heap.size:=by have:=hxe.size;have:=hxd.size;omega
 have hBn:wd.heap.size+1<wn.heap.size:=by have:=hxn.size;omega
 obtain ⟨q0,q1,q2,q3⟩:=keepb hxn hbq;have hdn:Ext wd wn:=hbq.ext.trans hxn;have b0:=cellKeep (hxd.trans hdn) (by have:=hxe.size;omega) y2;have b1:=cellKeep (hxd.trans hdn) (by have:=hxe.size;omega) y3;have hxn':Ext W0 wn:=hxe.trans (hxd.trans hdn);have rA:=hbx.res.ext hxn';have rB:=hbx.res'.ext hxn';have rF:=hbx.fres.ext hxn';have HE:Hid (Ext w wn):=hbx.ext.trans hxn';have I3:=HI3.out.ext hdn;have I4:=HI4.out.ext hdn;have HI2:=hid (H2.out.ext HE.out);have hwnd:Ext wn wn.drew:=qG (Ext.refl _);clear y2 y3 hE1 hE2 hxe hxd hxn hdn hxn' hbq hbx hBq hB
 by_cases hneg:s4<0
 ·by_cases hnb:s2<0
  ·have hd2:decide (s2<0)=true:=jJ hnb
   have hd4:decide (s4<0)=true:=jJ hneg;have Hfin:Hid (IsDiv z1 z2 (z1.tdiv z2+1) (z1.tmod z2-z2)):=isDiv_neg (Hsg4.out.1 hneg) (Hsg.out.1 hnb);rw [hd4];clear hd4 hneg
   go_wp2_with fail
   refine (Hnb.out wn _ (Ext.refl _)).mono ?_;rintro e wm ⟨rfl,hxm,_⟩;rw [hd2];clear hd2 hnb;have u0:=cellKeep hxm (by omega) q0;have u1:=cellKeep hxm (by omega) q1;have u2:=cellKeep hxm (by omega) q2;have u3:=cellKeep hxm (by omega) q3;have u4:=cellKeep hxm (by omega) b0;have u5:=cellKeep hxm (by omega) b1;have J3:=I3.ext hxm;have J4:=I4.ext hxm;have J2:=HI2.out.ext hxm;have Ho:=hid (Of_from (w:=wm) 1 (by omega) (by omega));have Hadd:=hid (Add_from J3 K hK Hfq.out);have Hsub:=hid (Sub_from J4 K hK Hfr.out);have hwmd:Ext wm wm.drew:=qG (Ext.refl _)
   have hBm:wd.heap.size+1<wm.heap.size:=by have:=hxm.size;omega
   have rA':=rA.ext hxm;have rB':=rB.ext hxm;have rF':=rF.ext hxm;clear q0 q1 q2 q3 b0 b1 hwnd rA rB rF
   go_wp2_with fail
   go_region_held3 (fun w'=>w'.cell? ⟨wd.heap.size,0,none⟩=some (.int .i64 s3)/\w'.cell? ⟨wd.heap.size,1,none⟩=some (.slice a3 n3 c3)/\w'.cell? ⟨wd.heap.size+1,0,none⟩=some (.int .i64 s4)/\w'.cell? ⟨wd.heap.size+1,1,none⟩=some (.slice a4 n4 c4)/\w'.cell? ⟨w.heap.size+1,0,none⟩=some (.int .i64 s2)/\w'.cell? ⟨w.heap.size+1,1,none⟩=some (.slice a2 n2 c2))
    (refine ⟨?_,?_,?_,?_,?_,?_⟩<;>(repeat (refine cellPut (by omega) ?_))<;>exact cellKeep (W:=wm) (by assumption) (by omega) (by assumption))
    (first | (go_at_call 56;refine (Ho.out _ (by assumption)).mono ?_;rintro e wa ⟨rfl,hea,hxa⟩) | (go_at_call 62;refine (Hadd.out _ 1 none 0 0 1 (by assumption) (IsInt.small _ _ (by omega) (by omega)) (Fit.one hK1)).mono ?_;rintro e wb ⟨s5,a5,n5,c5,rfl,hI5,heb,hxb⟩) | (go_at_call 58;refine (Hsub.out _ s2 a2 n2 c2 z2 (by assumption) (J2.ext (by assumption)) Hf2.out).mono ?_;rintro e wc ⟨s6,a6,n6,c6,rfl,hI6,hec,hxc⟩;have r1:=rA'.ext hec;have r2:=rB'.ext hec;have r3:=rF'.ext hec;have k0:=r1.c0;have k1:=r1.c1;have g0:=r1.f0;have g1:=r1.f1;have k2:=r2.c0;have k3:=r2.c1;have g2:=r2.f0;have g3:=r2.f1;have k4:=r3.c0;have k5:=r3.c1;have g4:=r3.f0;have g5:=r3.f1))
   all_goals
    go_wp2_with fail
    have hkk:=Keep64.set6 (w:=wc) (.i64 k0) (.slice k1) (.i64 k2) (.slice k3) (.i64 k4) (.i64 k5) (notW_i64 s5) (notW_slice a5 n5 c5) (notW_i64 s6) (notW_slice a6 n6 c6) (notW_i64 0) (.int .i64 0);exact qJ (v:=.tuple #[.agg #[.int .i64 s5,.slice a5 n5 c5],.agg #[.int .i64 s6,.slice a6 n6 c6],.agg #[.int .i64 0,.int .i64 0]]) (by simp [results,Tryz.results126,go_sem,k0,k1,k2,k3,k4,k5]) rfl
     ⟨s5,a5,n5,c5,s6,a6,n6,c6,_,_,rfl,(hI5.ext hxc).keep64 hkk,hI6.keep64 hkk,Hfin.out,((((HE.out.trans hxm).trans hec).put2 (by omega) _ _).put2 (by omega) _ _).put2 (by omega) _ _⟩
  ·have hd2:decide (s2<0)=false:=jE hnb
   have hd4:decide (s4<0)=true:=jJ hneg;have Hfin:Hid (IsDiv z1 z2 (z1.tdiv z2-1) (z1.tmod z2+z2)):=isDiv_plus (Hsg4.out.1 hneg) (by have:=Hz0.out;have:=Hsg.out;omega);rw [hd4];clear hd4 hneg
   go_wp2_with fail
   refine (Hnb.out wn _ (Ext.refl _)).mono ?_;rintro e wm ⟨rfl,hxm,_⟩;rw [hd2];clear hd2 hnb;have u0:=cellKeep hxm (by omega) q0;have u1:=cellKeep hxm (by omega) q1;have u2:=cellKeep hxm (by omega) q2;have u3:=cellKeep hxm (by omega) q3;have u4:=cellKeep hxm (by omega) b0;have u5:=cellKeep hxm (by omega) b1;have J3:=I3.ext hxm;have J4:=I4.ext hxm;have J2:=HI2.out.ext hxm;have Ho:=hid (Of_from (w:=wm) 1 (by omega) (by omega));have Hsub:=hid (Sub_from J3 K hK Hfq.out);have Hadd:=hid (Add_from J4 K hK Hfr.out);have hwmd:Ext wm wm.drew:=qG (Ext.refl _)
   have hBm:wd.heap.size+1<wm.heap.size:=by have:=hxm.size;omega
   have rA':=rA.ext hxm;have rB':=rB.ext hxm;have rF':=rF.ext hxm;clear q0 q1 q2 q3 b0 b1 hwnd rA rB rF
   go_wp2_with fail
   go_region_held3 (fun w'=>w'.cell? ⟨wd.heap.size,0,none⟩=some (.int .i64 s3)/\w'.cell? ⟨wd.heap.size,1,none⟩=some (.slice a3 n3 c3)/\w'.cell? ⟨wd.heap.size+1,0,none⟩=some (.int .i64 s4)/\w'.cell? ⟨wd.heap.size+1,1,none⟩=some (.slice a4 n4 c4)/\w'.cell? ⟨w.heap.size+1,0,none⟩=some (.int .i64 s2)/\w'.cell? ⟨w.heap.size+1,1,none⟩=some (.slice a2 n2 c2))
    (refine ⟨?_,?_,?_,?_,?_,?_⟩<;>(repeat (refine cellPut (by omega) ?_))<;>exact cellKeep (W:=wm) (by assumption) (by omega) (by assumption))
    (first | (go_at_call 56;refine (Ho.out _ (by assumption)).mono ?_;rintro e wa ⟨rfl,hea,hxa⟩) | (go_at_call 58;refine (Hsub.out _ 1 none 0 0 1 (by assumption) (IsInt.small _ _ (by omega) (by omega)) (Fit.one hK1)).mono ?_;rintro e wb ⟨s5,a5,n5,c5,rfl,hI5,heb,hxb⟩) | (go_at_call 62;refine (Hadd.out _ s2 a2 n2 c2 z2 (by assumption) (J2.ext (by assumption)) Hf2.out).mono ?_;rintro e wc ⟨s6,a6,n6,c6,rfl,hI6,hec,hxc⟩;have r1:=rA'.ext hec;have r2:=rB'.ext hec;have r3:=rF'.ext hec;have k0:=r1.c0;have k1:=r1.c1;have g0:=r1.f0;have g1:=r1.f1;have k2:=r2.c0;have k3:=r2.c1;have g2:=r2.f0;have g3:=r2.f1;have k4:=r3.c0;have k5:=r3.c1;have g4:=r3.f0;have g5:=r3.f1))
   all_goals
    go_wp2_with fail
    have hkk:=Keep64.set6 (w:=wc) (.i64 k0) (.slice k1) (.i64 k2) (.slice k3) (.i64 k4) (.i64 k5) (notW_i64 s5) (notW_slice a5 n5 c5) (notW_i64 s6) (notW_slice a6 n6 c6) (notW_i64 0) (.int .i64 0);exact qJ (v:=.tuple #[.agg #[.int .i64 s5,.slice a5 n5 c5],.agg #[.int .i64 s6,.slice a6 n6 c6],.agg #[.int .i64 0,.int .i64 0]]) (by simp [results,Tryz.results126,go_sem,k0,k1,k2,k3,k4,k5]) rfl
     ⟨s5,a5,n5,c5,s6,a6,n6,c6,_,_,rfl,(hI5.ext hxc).keep64 hkk,hI6.keep64 hkk,Hfin.out,((((HE.out.trans hxm).trans hec).put2 (by omega) _ _).put2 (by omega) _ _).put2 (by omega) _ _⟩
 ·have Hfin:Hid (IsDiv z1 z2 (z1.tdiv z2) (z1.tmod z2)):=isDiv_pos Hz0.out (fun k=>hneg (Hsg4.out.2 k))
  have hd4:decide (s4<0)=false:=jE hneg;rw [hd4];clear hd4 hneg;have k0:=rA.c0;have k1:=rA.c1;have g0:=rA.f0;have g1:=rA.f1;have k2:=rB.c0;have k3:=rB.c1;have g2:=rB.f0;have g3:=rB.f1;have k4:=rF.c0;have k5:=rF.c1;have g4:=rF.f0;have g5:=rF.f1;have hkk:=Keep64.set6 (w:=wn) (.i64 k0) (.slice k1) (.i64 k2) (.slice k3) (.i64 k4) (.i64 k5) (notW_i64 s3) (notW_slice a3 n3 c3) (notW_i64 s4) (notW_slice a4 n4 c4) (notW_i64 0) (.int .i64 0)
  go_wp2_with fail
  go_region
  go_wp2_with fail
  exact qJ (v:=.tuple #[.agg #[.int .i64 s3,.slice a3 n3 c3],.agg #[.int .i64 s4,.slice a4 n4 c4],.agg #[.int .i64 0,.int .i64 0]]) (by simp [results,Tryz.results126,go_sem,k0,k1,k2,k3,k4,k5]) rfl
   ⟨s3,a3,n3,c3,s4,a4,n4,c4,_,_,rfl,(I3.keep64 hkk).ext (qG (Ext.refl _)),(I4.keep64 hkk).ext (qG (Ext.refl _)),Hfin.out,qG (((HE.out.put2 (by omega) _ _).put2 (by omega) _ _).put2 (by omega) _ _)⟩
end Go.Proofs.YtjfomkoedgipjaaGreatDoor
