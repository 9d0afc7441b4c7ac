/-
  A digit of a long quotient: the guess by the highest words is right or too great by one; what is left in either case. Plain numbers. mulPlain: products of words, word by word. divDigit: one digit of a long quotient; what is left stands where the part stood. divLong and divWords: words divided by words, with their rest. divLong and divWords: the walks. divWords: words divided by words, with their rest. Integers as the program keeps them, and the small calls on them. fromWord and fromWords: numbers made of their sizes.
-/
import Derived.Laws.ResultCell
import Derived.Test.YtjfomkoedgipjaaGreatDoorS03GuessD
namespace Go.Proofs.YtjfomkoedgipjaaGreatDoor
set_option maxRecDepth 100000
set_option maxHeartbeats 1000000
open Go.RowKit
theorem knuth {high mid low b1 b2 W t b' P b:Nat} (hW:0<W) (ht:t<W) (hb':b'<W) (h2:mid<B64) (h3:low<B64) (hb2:b2<B64) (hb1:9223372036854775808<=b1)
  (hP:P=((high*B64+mid)*B64+low)*W+t) (hb:b=(b1*B64+b2)*W+b') (hlt:P<B64*b) :
  P / b<=gd high mid low b1 b2/\gd high mid low b1 b2<=P / b+1/\gd high mid low b1 b2<B64:=by
 obtain ⟨T,hT⟩:∃ T,T=(high*B64+mid)*B64+low:=⟨_,rfl⟩;obtain ⟨V,hV⟩:∃ V,V=b1*B64+b2:=⟨_,rfl⟩;rw [<-hT] at hP;rw [<-hV] at hb
 have hV0:0<V:=by
  have:0<b1*B64:=Nat.mul_pos (by omega) B64_pos;omega
 have hb0:0<b:=by
  have:0<V*W:=Nat.mul_pos hV0 hW;omega
 have hq1:P / b<B64:=by rw [jO hb0];exact hlt
 have hq2:P / b<=T / V:=by
  rw [Nat.le_div_iff_mul_le hV0];have h4:=Nat.div_mul_le_self P b;have h5:P / b*(V*W)<=P / b*b:=jX _ (by omega);rw [<-jW] at h5
  have h6:P / b*V*W<(T+1)*W:=by rw [yV];omega
  exact Nat.le_of_lt_succ (Nat.lt_of_mul_lt_mul_right h6)
 have hTP:T*W<=P:=by omega
 have hbW:b<=(V+1)*W:=by rw [yV];omega
 unfold gd
 by_cases hge:b1<=high
 ·rw [qU hge]
  refine ⟨by rw [B64_eq] at hq1;omega,?_,by rw [B64_eq];omega⟩
  have hk:18446744073709551614<=P / b:=by
   rw [Nat.le_div_iff_mul_le hb0]
   have h4:V+1<=(b1+1)*B64:=by rw [hV,yV];omega
   have h5:18446744073709551614*b<=18446744073709551614*((b1+1)*B64*W):=jX _ (qL hbW (qS _ h4))
   have h6:18446744073709551614*(b1+1)<=b1*B64:=by rw [B64_eq];omega
   have h7:18446744073709551614*((b1+1)*B64*W)=18446744073709551614*(b1+1)*(B64*W):=by
    generalize B64=x;simp only [jW]
   have h8:b1*B64*(B64*W)<=T*W:=by
    have h9:b1*B64<=high*B64+mid:=qL (qS _ hge) (Nat.le_add_right _ _)
    have h10:b1*B64*B64<=T:=by rw [hT];exact qL (qS _ h9) (Nat.le_add_right _ _)
    rw [<-jW];exact qS _ h10
   have h11:18446744073709551614*(b1+1)*(B64*W)<=b1*B64*(B64*W):=qS _ h6;rw [h7] at h5;exact qL h5 (qL h11 (qL h8 hTP))
  omega
 ·rw [qE hge,<-hT,<-hV]
  have hTV:T / V<B64:=by
   rw [jO hV0]
   have h4:(high*B64+mid)+1<=b1*B64:=by
    have:=qS B64 (show high+1<=b1 by omega);rw [yV] at this;omega
   have h5:=qS B64 h4;rw [yV] at h5
   have h6:b1*B64*B64<=B64*V:=by rw [hV,jU B64];exact qS _ (Nat.le_add_right _ _)
   omega
  refine ⟨hq2,?_,hTV⟩;have h7:=Nat.div_mul_le_self T V;generalize T / V=g at *
  have h4:g-1<=P / b:=by
   rw [Nat.le_div_iff_mul_le hb0];have h5:(g-1)*b<=(g-1)*((V+1)*W):=jX _ hbW
   have h6:(g-1)*(V+1)<=T:=by
    cases g with
    | zero=>simp
    | succ k =>
     rw [Nat.add_sub_cancel,qN];rw [yV,Nat.one_mul] at h7
     have h8:B64<=V:=by
      rw [hV];have:=qS B64 (show 1<=b1 by omega);omega
     omega
   rw [<-jW] at h5;exact qL h5 (qL (qS _ h6) hTP)
  exact Nat.le_add_of_sub_le h4
theorem digit_right {P0 P0' pn over g b X:Nat} (hP0':P0'<X) (hbX:b<X) (hb0:0<b) (hg:g=(P0+X*pn) / b) (hv:P0'+b*g=P0+X*over):over=pn/\P0'=(P0+X*pn) % b:=by
 have h1:=Nat.div_add_mod (P0+X*pn) b;have h2:=Nat.mod_lt (P0+X*pn) hb0;rw [<-hg] at h1;generalize (P0+X*pn) % b=r at *;generalize b*g=bg at *
 rcases Nat.lt_trichotomy over pn with h | h | h
 ·have:=jX X (show over+1<=pn from h)
  rw [qN] at this;omega
 ·subst h;exact ⟨rfl,by omega⟩
 ·have:=jX X (show pn+1<=over from h)
  rw [qN] at this;omega
theorem digit_off {P0 P0' pn over g b X:Nat} (hP0':P0'<X) (hbX:b<X) (hb0:0<b) (hg:g=(P0+X*pn) / b+1) (hv:P0'+b*g=P0+X*over):over=pn+1/\P0'+b=(P0+X*pn) % b+X:=by
 have h1:=Nat.div_add_mod (P0+X*pn) b;have h2:=Nat.mod_lt (P0+X*pn) hb0;rw [hg,qN,Nat.mul_one] at hv;generalize (P0+X*pn) % b=r at *;generalize b*((P0+X*pn) / b)=bg at *
 rcases Nat.lt_trichotomy over (pn+1) with h | h | h
 ·have:=jX X (show over<=pn by omega)
  omega
 ·subst h
  rw [qN] at hv;exact ⟨rfl,by omega⟩
 ·have:=jX X (show pn+2<=over from h)
  rw [qN] at this;omega
theorem top3 (l:List Nat) (n:Nat) (hn:2<=n) (hl:l.length=n+1):val l=((l.getD n 0*B64+l.getD (n-1) 0)*B64+l.getD (n-2) 0)*B64 ^ (n-2)+val (l.take (n-2)):=by
 obtain ⟨m,rfl⟩:∃ m,n=m+2:=⟨n-2,by omega⟩;have e0:l.take (m+2+1)=l:=qB (by omega);have e1:=val_take_succ l (m+2) (by omega);have e2:=val_take_succ l (m+1) (by omega);have e3:=val_take_succ l m (by omega);have q1:B64 ^ (m+1)=B64 ^ m*B64:=jK _ _
 have q2:B64 ^ (m+2)=B64 ^ m*B64*B64:=by rw [jK,q1]
 rw [e0,e2,e3,q1,q2] at e1;rw [e1,show m+2-1=m+1 from rfl,show m+2-2=m from rfl];generalize val (l.take m)=a;generalize l.getD m 0=x;generalize l.getD (m+1) 0=y;generalize l.getD (m+2) 0=z;generalize B64 ^ m=X;generalize B64=c;simp only [yV,jW]
 have p1:X*(c*y)=y*(c*X):=by ac_rfl
 have p2:X*(c*(c*z))=z*(c*(c*X)):=by ac_rfl
 have p3:X*x=x*X:=jU _ _;omega
theorem top2 (l:List Nat) (n:Nat) (hn:2<=n) (hl:l.length=n):val l=(l.getD (n-1) 0*B64+l.getD (n-2) 0)*B64 ^ (n-2)+val (l.take (n-2)):=by
 obtain ⟨m,rfl⟩:∃ m,n=m+2:=⟨n-2,by omega⟩;have e0:l.take (m+1+1)=l:=qB (by omega);have e2:=val_take_succ l (m+1) (by omega);have e3:=val_take_succ l m (by omega);rw [e0,e3,jK] at e2;rw [e2,show m+2-1=m+1 from rfl,show m+2-2=m from rfl];generalize val (l.take m)=a;generalize l.getD m 0=x;generalize l.getD (m+1) 0=y;generalize B64 ^ m=X;generalize B64=c;simp only [yV,jW]
 have p1:X*(c*y)=y*(c*X):=by ac_rfl
 have p3:X*x=x*X:=jU _ _;omega
theorem knuth_seg {l lb:List Nat} {n:Nat} (hn:2<=n) (hl:l.length=n+1) (hlb:lb.length=n) (dl:Dig l) (db:Dig lb) (htop:9223372036854775808<=lb.getD (n-1) 0) (hlt:val l<B64*val lb) :
  val l / val lb<=gd (l.getD n 0) (l.getD (n-1) 0) (l.getD (n-2) 0) (lb.getD (n-1) 0) (lb.getD (n-2) 0) /\
  gd (l.getD n 0) (l.getD (n-1) 0) (l.getD (n-2) 0) (lb.getD (n-1) 0) (lb.getD (n-2) 0)<=val l / val lb+1 /\
  gd (l.getD n 0) (l.getD (n-1) 0) (l.getD (n-2) 0) (lb.getD (n-1) 0) (lb.getD (n-2) 0)<B64:=by
 have h1:=val_lt (dl.take (n-2));have h2:=val_lt (db.take (n-2));rw [qC,Nat.min_eq_left (by omega)] at h1 h2;exact knuth (jF B64_pos) h1 h2 (dl.getD _) (dl.getD _) (db.getD _) htop (top3 l n hn hl) (top2 lb n hn hlb) hlt
theorem seg_getD (L:List Nat) (o n t:Nat) (h:t<n):(seg L o n).getD t 0=L.getD (o+t) 0:=by
 unfold seg;rw [qQ,qQ,jC,qU h,List.getElem?_drop]
theorem mulPlain_step {M M' l1:List Nat} {k n1 N d over X:Nat} (hM:M.length=N) (hk:k+n1<N) (hT:Turned M M' k n1) (hinv:val (seg M 0 (k+n1))=X)
  (hv:val (seg M' k n1)+B64 ^ n1*over=val (seg M k n1)+val l1*d) :
  val (seg (M'.set (k+n1) over) 0 (k+1+n1))=X+B64 ^ k*(val l1*d):=by
 have hM':M'.length=N:=by rw [hT.1];exact hM
 have e0:k+1+n1=(k+n1)+1:=by omega
 rw [e0,val_seg_succ _ 0 (k+n1) (by rw [jV];omega),jH,getD_set_eq _ _ _ (by omega)];have e1:seg (M'.set (k+n1) over) 0 (k+n1)=seg M' 0 (k+n1):=seg_congr _ _ _ _ (by rw [jV]) (fun t _ ht=>getD_set_ne _ _ _ _ (by omega));rw [e1,val_seg_split M' 0 k (k+n1) (by omega) (by omega)];have e2:seg M' 0 k=seg M 0 k:=seg_congr _ _ _ _ (by omega) (fun t _ ht=>hT.2 t (by omega));rw [val_seg_split M 0 k (k+n1) (by omega) (by omega)] at hinv
 have e3:k+n1-k=n1:=by omega
 rw [e2,e3,jH,jS,jW];rw [e3,jH] at hinv
 have e4:B64 ^ k*(val (seg M' k n1)+B64 ^ n1*over)=B64 ^ k*(val (seg M k n1)+val l1*d):=by rw [hv]
 rw [qN,qN] at e4;omega
theorem mulPlain_any (a1 a2:Option Addr) (l1 l2:List Nat) (n1 n2 c1 c2:Nat) (w:World) (hn1:l1.length=n1) (hn2:l2.length=n2) (h1:Seg w a1 l1) (h2:Seg w a2 l2) (d1:Dig l1) (d2:Dig l2) (hc1:n1<=c1) (hc2:n2<=c2) (hm1:n1<=1073741824) (hm2:n2<=1073741824) :
  Calls Tryz.prog 136 #[.slice a1 n1 c1,.slice a2 n2 c2] w fun e w'=>∃ v,e=.returned v/\Num w' v (val l1*val l2)/\Ext w w'/\Fresh w v:=by
 have H1:Hid (l1.length=n1):=hn1;have H2:Hid (l2.length=n2):=hn2;clear hn1 hn2
 go_enter Tryz.func136,Tryz.ntmps136
 go_wp2_with (at_make;refine wpList_make_row _ rfl _ _ rfl _ _ _ _ (n1+n2) rfl rfl (by omega) (by omega) (by omega) ?_;intro w1 hr1 he1 hz1)
 go_loopw [16] (fun i wr=>∃ (k:Nat) (M:List Nat),k<=n2/\i=.int .i64 k/\Row wr w.heap.size M/\Dig M/\M.length=n1+n2/\Only w.heap.size w1 wr/\val (seg M 0 (k+n1))=val l1*val (l2.take k))
  (fun i _=>n2-(intOf i).toNat)
 case atStart=>exact ⟨0,_,qI _,rfl,hr1,Dig.replicate _,by simp,Only.refl _ _,by
  have e:seg (List.replicate (n1+n2) 0) 0 (0+n1)=List.replicate n1 0:=by simp [seg]
  rw [e,val_replicate];simp [val]⟩
 case round =>
  obtain ⟨k,M,hk,rfl,hrM,hdM,hML,hO,hinv⟩:=hrel;have HML:Hid (M.length=n1+n2):=hML
  by_cases hlt:k<n2
  ·have hs1:=(h1.ext he1).only hO (h1.block_ne (qZ _))
   have hsr:=(h2.ext he1).only hO (h2.block_ne (qZ _))
   rcases hsr with ⟨_,rfl⟩ | ⟨g,o2,rfl,hg,hcell⟩
   ·have:=H2.out;simp at this;omega
   ·have hcl:=hcell k (by rw [H2.out];exact hlt)
    have hdig:=d2.getD k;obtain ⟨d,hdd⟩:∃ d,l2.getD k 0=d:=⟨_,rfl⟩;rw [hdd] at hcl hdig;have Hd:Hid (l2.getD k 0=d):=hdd;have Hinv:Hid (val (seg M 0 (k+n1))=val l1*val (l2.take k)):=hinv;clear hinv hdd hcell hML
    go_wp2_with fail
    refine (addProduct_n w.heap.size k _ a1 n1 c1 l1 M d _ H1.out hrM hs1 (h1.block_ne (qZ _)) hdM d1 hdig (by rw [HML.out];omega) (by rw [HML.out];unfold maxLen;omega) (by omega) hc1).mono ?_;rintro e w3 ⟨M',over,rfl,hov,hrM',hdM',hT,hO',Hv⟩;have hfz:=hrM'.frozen (k+n1);have hcz:=hrM'.cell (k+n1) (by rw [hT.1,HML.out];omega)
    go_wp2
    have hstep:=mulPlain_step HML.out (by omega) hT Hinv.out Hv.out
    go_roundw
    case rel=>exact ⟨k+1,M'.set (k+n1) over,by omega,by go_num,hrM'.set _ _,hdM'.set _ _ hov,by rw [jV,hT.1];exact HML.out,(hO.trans hO').setCell _ _,by
     rw [hstep,val_take_succ l2 k (by rw [H2.out];exact hlt),Hd.out,qN,Nat.mul_left_comm]⟩
    case measure=>simp [intOf];omega
  ·obtain rfl:k=n2:=by omega
   have hl2:l2.length=k:=H2.out
   have HV:Hid (val M=val l1*val l2):=by
    show val M=_
    have e1:seg M 0 (k+n1)=M:=by rw [show k+n1=M.length from by omega];exact seg_all M
    have e2:l2.take k=l2:=by rw [<-hl2];exact List.take_length
    rw [e1,e2] at hinv;exact hinv
   clear hinv hML hl2;have hs3:=hrM.segAll
   go_wp2_with fail
   refine (trim_n _ M _ _ _ HML.out (qZ _) (by unfold maxLen;omega) hs3).mono ?_;rintro e w4 ⟨rfl,rfl⟩
   go_wp2_with fail
   go_ret
   exact ⟨_,rfl,(num_trim hs3 hdM (by rw [HML.out];unfold maxLen;omega)).cast HV.out,he1.only hO (qZ _),Fresh.mk (qZ _)⟩
theorem seg_top {L M:List Nat} {o n x:Nat} (hT:Turned L M o n) (hn:o+(n+1)<=L.length):val (seg (M.set (o+n) x) o (n+1))=val (seg M o n)+B64 ^ n*x/\Turned L (M.set (o+n) x) o (n+1):=by
 constructor
 ·rw [seg_step hT x (by omega),val_snoc,seg_length M o n (by rw [hT.1];omega)]
 ·exact hT.step x
theorem Turned.trans {L M N:List Nat} {o n:Nat} (h:Turned L M o n) (k:Turned M N o n):Turned L N o n:=⟨k.1.trans h.1,fun t ht=>(k.2 t ht).trans (h.2 t ht)⟩
theorem addBack {P0 P0' r b X carry:Nat} (h:P0'+X*carry=P0+b) (hb:P0+b=r+X) (_hr:r<X) (hP:P0'<X) (hc:carry<=1):carry=1/\P0'=r:=by
 have:carry=0\/carry=1:=by omega
 rcases this with rfl | rfl
 ·omega
 ·exact ⟨rfl,by omega⟩
theorem Only.undrawn {b:Nat} {w w':World} (h:Only b w.drew w'):Only b w w':=⟨h.os,h.tape,h.output,h.size,h.block⟩
theorem divDigit_back {L N M' lb:List Nat} {b o n G1:Nat} {w w5:World} (hn:o+(n+1)<=L.length) (hr':Row w5 b M') (hd':Dig M') (hT5:Turned L N o (n+1)) (hT':Turned N M' o n) (hO:Only b w w5)
  (hv:val (seg M' o n)=val (seg L o (n+1)) % val lb) (hG1:G1=val (seg L o (n+1)) / val lb) (hG1b:G1<B64) :
  ∃ (M:List Nat) (q:Nat),Ending.returned (.int .u64 (G1:Int))=.returned (.int .u64 q)/\q<B64/\Row (w5.setCell ⟨b,o+n,none⟩ (.int .u64 0)) b M/\Dig M/\Turned L M o (n+1)/\Only b w (w5.setCell ⟨b,o+n,none⟩ (.int .u64 0))/\q=val (seg L o (n+1)) / val lb/\val (seg M o (n+1))=val (seg L o (n+1)) % val lb:=by
 have hl:N.length=L.length:=hT5.1;have hst:=seg_top (x:=0) hT' (by omega);refine ⟨M'.set (o+n) 0,G1,rfl,hG1b,hr'.set _ 0,hd'.set _ _ B64_pos,?_,hO.setCell _ _,hG1,by rw [hst.1,hv];omega⟩;exact hT5.trans hst.2
theorem divDigit_any (b o c:Nat) (ao:Option Addr) (n c2:Nat) (lb L:List Nat) (w:World) (hm:lb.length=n) (hr:Row w b L) (hs:Seg w ao lb) (hne:∀ a,ao=some a->a.block≠b)
  (hd:Dig L) (hdb:Dig lb) (hn2:2<=n) (hn:o+(n+1)<=L.length) (hlen:L.length<=1073741824) (hc:n+1<=c) (_hcm:c<=1073741824) (hc2:n<=c2) (htop:9223372036854775808<=lb.getD (n-1) 0) (hlt:val (seg L o (n+1))<B64*val lb) :
  Calls Tryz.prog 158 #[.slice (some ⟨b,o,none⟩) (n+1) c,.slice ao n c2] w fun e w' =>
   ∃ (M:List Nat) (q:Nat),e=.returned (.int .u64 q)/\q<B64/\Row w' b M/\Dig M/\Turned L M o (n+1)/\Only b w w'/\q=val (seg L o (n+1)) / val lb/\val (seg M o (n+1))=val (seg L o (n+1)) % val lb:=by
 have hsl:(seg L o (n+1)).length=n+1:=seg_length _ _ _ hn;have dsl:Dig (seg L o (n+1)):=(hd.drop o).take (n+1);have hk:=knuth_seg hn2 hsl hm dsl hdb htop hlt;rw [seg_getD _ _ _ _ (by omega),seg_getD _ _ _ _ (by omega),seg_getD _ _ _ _ (by omega)] at hk
 have hb0:0<val lb:=by
  apply Nat.pos_of_ne_zero;intro h;rw [h] at hlt;omega
 have hbX:val lb<B64 ^ n:=by rw [<-hm];exact val_lt hdb
 have hsplit:val (seg L o (n+1))=val (seg L o n)+B64 ^ n*L.getD (o+n) 0:=val_seg_succ L o n (by omega);have hs0:=hs
 rcases hs with ⟨_,rfl⟩ | ⟨g,o2,rfl,hg,hcell⟩
 ·simp at hm;omega
 have c1:=hr.cell (o+n) (by omega);have c2':=hr.cell (o+(n-1)) (by omega);have c3:=hr.cell (o+(n-2)) (by omega);have c4:=hcell (n-1) (by omega);have c5:=hcell (n-2) (by omega);have g1:=hd.getD (o+n);have g2:=hd.getD (o+(n-1));have g3:=hd.getD (o+(n-2));have g4:=hdb.getD (n-1);have g5:=hdb.getD (n-2);obtain ⟨pn,hpn⟩:∃ x,L.getD (o+n) 0=x:=⟨_,rfl⟩;obtain ⟨x2,hx2⟩:∃ x,L.getD (o+(n-1)) 0=x:=⟨_,rfl⟩;obtain ⟨x3,hx3⟩:∃ x,L.getD (o+(n-2)) 0=x:=⟨_,rfl⟩;obtain ⟨x4,hx4⟩:∃ x,lb.getD (n-1) 0=x:=⟨_,rfl⟩;obtain ⟨x5,hx5⟩:∃ x,lb.getD (n-2) 0=x:=⟨_,rfl⟩;rw [hpn,hx2,hx3,hx4,hx5] at hk;rw [hpn] at c1 g1 hsplit;rw [hx2] at c2' g2;rw [hx3] at c3 g3;rw [hx4] at c4 g4 htop;rw [hx5] at c5 g5;obtain ⟨G,hG⟩:∃ G,gd pn x2 x3 x4 x5=G:=⟨_,rfl⟩
 have Hgd:Hid (∀ w:World,Calls Tryz.prog 165 #[.int .u64 pn,.int .u64 x2,.int .u64 x3,.int .u64 x4,.int .u64 x5] w fun e w'=>e=.returned (.int .u64 (G:Nat))/\∃ m,w'=w.drewN m):=by
  intro w;rw [<-hG];exact guessDigit_any pn x2 x3 x4 x5 g1 g2 g3 g4 g5 (by omega) w
 rw [hG] at hk
 have Hx4:Hid (9223372036854775808<=lb.getD (n-1) 0):=by show _<=_;rw [hx4];exact htop
 have Hk:=hid hk;have Hm:=hid hm;have Hsplit:=hid hsplit;have Hpn:=hid hpn
 have i1:(2:Int)<=(n:Int):=by omega
 have i2:(n:Int)<=1073741824:=by omega
 have i3:(n:Int)+1<=(c:Int):=by omega
 clear hk hm hsplit hpn hx2 hx3 hx4 hx5 hG hcell hsl dsl hlt hb0 g2 g3 g4 g5 hn2 htop
 go_enter Tryz.func158,Tryz.ntmps158
 go_wp2_with fail
 go_quiet ((go_at_call 165;exact Calls.quiet_of (Hgd.out _)))
 go_wp2_with fail
 refine (takeProduct_n b o c _ n c2 lb L G (w.drewN nq) Hm.out hr hs0 hne hd hdb Hk.out.2.2 (by omega) (by unfold maxLen;omega) (by omega) hc2).mono ?_;rintro e w3 ⟨M,over,rfl,hov,hr3,hd3,hT3,ho3,Hv⟩;have hO3:Only b w w3:=⟨ho3.os,ho3.tape,ho3.output,ho3.size,ho3.block⟩;have hcn:=hr3.cell (o+n) (by rw [hT3.1];omega);have hfn:=hr3.frozen (o+n);rw [hT3.2 (o+n) (by omega),Hpn.out] at hcn
 have hP0':val (seg M o n)<B64 ^ n:=by
  have h1:=val_lt (l:=seg M o n) ((hd3.drop o).take n)
  rwa [seg_length M o n (by rw [hT3.1];omega)] at h1
 have hb0:0<val lb:=by
  apply Nat.pos_of_ne_zero;intro h
  have:=top2 lb n (by omega) Hm.out;have h5:=Hk.out.1;rw [h,Nat.div_zero] at h5;have h6:0<B64 ^ (n-2):=jF B64_pos;rw [h] at this;have h7:=Hx4.out;have h8:0<(lb.getD (n-1) 0*B64+lb.getD (n-2) 0)*B64 ^ (n-2):=Nat.mul_pos (Nat.add_pos_left (Nat.mul_pos (by omega) B64_pos) _) h6;omega
 have hov':over<=18446744073709551615:=by rw [B64_eq] at hov;omega
 have hpn':pn<=18446744073709551615:=by rw [B64_eq] at g1;omega
 by_cases hq:G=val (seg L o (n+1)) / val lb
 ·have hdr:=digit_right (pn:=pn) hP0' hbX hb0 (by rw [<-Hsplit.out];exact hq) Hv.out
  have Hq:=hid hq
  have Hr:Hid (val (seg M o n)=val (seg L o (n+1)) % val lb):=by show _=_;rw [Hsplit.out];exact hdr.2
  obtain rfl:over=pn:=hdr.1;clear hq hdr hP0' hb0
  go_wp2_with fail
  go_ret
  have hst:=seg_top (x:=0) hT3 hn;exact ⟨M.set (o+n) 0,G,rfl,Hk.out.2.2,hr3.set _ _,hd3.set _ _ B64_pos,hst.2,hO3.setCell _ _,Hq.out,by rw [hst.1,Hr.out];omega⟩
 ·have hq1:G=val (seg L o (n+1)) / val lb+1:=by
   have h1:=Hk.out.1;have h2:=Hk.out.2.1;exact Nat.le_antisymm h2 (Nat.lt_of_le_of_ne h1 (fun e=>hq e.symm))
  have hdo:=digit_off (pn:=pn) hP0' hbX hb0 (by rw [<-Hsplit.out];exact hq1) Hv.out
  have Hq:Hid (G-1=val (seg L o (n+1)) / val lb):=by show _=_;rw [hq1,Nat.add_sub_cancel]
  have Hr:Hid (val (seg M o n)+val lb=val (seg L o (n+1)) % val lb+B64 ^ n):=by show _=_;rw [Hsplit.out];exact hdo.2
  have hrX:val (seg L o (n+1)) % val lb<B64 ^ n:=Nat.lt_trans (Nat.mod_lt _ hb0) hbX;have hpo:over=pn+1:=hdo.1
  have hG0:1<=G:=by rw [hq1];exact Nat.le_add_left _ _
  obtain ⟨m,hm⟩:∃ m:Nat,m=18446744073709551615:=⟨_,rfl⟩
  have em:IntKind.u64.wrap ((pn:Int)-(over:Int))=(m:Int):=by rw [yF];omega
  have ez:IntKind.u64.wrap ((m:Int)+1)=0:=by rw [yF];omega
  obtain ⟨G1,hG1⟩:∃ G1,G-1=G1:=⟨_,rfl⟩
  have eG1:(G:Int)-1=(G1:Int):=by omega
  have hG1b:G1<=18446744073709551615:=by have:=Hk.out.2.2;rw [B64_eq] at this;omega
  have hlt1:(pn:Int)<(over:Int):=by omega
  have hr4:Row (w3.setCell ⟨b,o+n,none⟩ (.int .u64 (m:Nat))) b (M.set (o+n) m):=hr3.set _ _;have hO4:Only b w (w3.setCell ⟨b,o+n,none⟩ (.int .u64 (m:Nat))):=hO3.setCell _ _;have HG1:=hid hG1
  have hmB:m<B64:=by rw [B64_eq];omega
  have HhX:=hid hrX;have hM5:seg (M.set (o+n) m) o n=seg M o n:=seg_set_out _ _ _ _ _ (by omega);have hT5:Turned L (M.set (o+n) m) o (n+1):=hT3.step m;have hd5:Dig (M.set (o+n) m):=hd3.set _ _ hmB
  have Hadd:Hid (∀ wx:World,Row wx b (M.set (o+n) m)->Seg wx (some ⟨g,o2,none⟩) lb->Calls Tryz.prog 152 #[.slice (some ⟨b,o,none⟩) n c,.slice (some ⟨g,o2,none⟩) n c2] wx fun e w' =>
    ∃ M':List Nat,e=.returned (.int .u64 1)/\Row w' b M'/\Dig M'/\Turned (M.set (o+n) m) M' o n/\Only b wx w'/\Hid (val (seg M' o n)=val (seg L o (n+1)) % val lb)):=by
   intro wx hrx hsx;refine (addInto_n b o n c _ n c2 lb (M.set (o+n) m) wx Hm.out hrx hsx hne hd5 hdb (by rw [jV,hT3.1];omega) (qZ _) (by rw [jV,hT3.1];unfold maxLen;omega) (by omega) hc2).mono ?_;rintro e w' ⟨M',carry,rfl,hca,hr',hd',hT',ho',Hv'⟩
   have hl':val (seg M' o n)<B64 ^ n:=by
    have h1:=val_lt (l:=seg M' o n) ((hd'.drop o).take n)
    rwa [seg_length M' o n (by rw [hT'.1,jV,hT3.1];omega)] at h1
   have hv':=Hv'.out;rw [hM5] at hv';obtain ⟨rfl,h2⟩:=addBack hv' Hr.out HhX.out hl' hca;exact ⟨M',rfl,hr',hd',hT',ho',h2⟩
  clear hq hq1 hdo hP0' hb0 hpo hm hG1 hrX hM5 hd5
  go_wp2_with fail
  have hs4:Seg (w3.setCell ⟨b,o+n,none⟩ (.int .u64 (m:Nat))) (some ⟨g,o2,none⟩) lb:=hs0.only hO4 hne
  have hc4:(w3.setCell ⟨b,o+n,none⟩ (.int .u64 (m:Nat))).cell? ⟨b,o+n,none⟩=some (.int .u64 (m:Nat)):=by
   have:=hr4.cell (o+n) (by rw [jV,hT3.1];omega)
   rwa [getD_set_eq _ _ _ (by rw [hT3.1];omega)] at this
  have hl5:(M.set (o+n) m).length=L.length:=by rw [jV,hT3.1]
  have hg5:(M.set (o+n) m).getD (o+n) 0=m:=getD_set_eq _ _ _ (by rw [hT3.1];omega);have Hl5:=hid hl5;have Hg5:=hid hg5;clear hl5 hg5 hcn hfn hr3 hO3 ho3 hd3 hT3;generalize w3.setCell ⟨b,o+n,none⟩ (.int .u64 (m:Nat))=w4 at *
  go_region_with ((go_at_call 152;refine (Hadd.out w4.drew hr4 hs4).mono ?_;rintro e w5 ⟨M',rfl,hr',hd',hT',ho',Hv'⟩;have hc6:=hr'.cell (o+n) (by rw [hT'.1,Hl5.out];omega);rw [hT'.2 (o+n) (by omega),Hg5.out] at hc6;have hf6:=hr'.frozen (o+n)))
  all_goals
   go_wp2_with fail
   go_ret
   exact divDigit_back hn hr' hd' hT5 hT' (hO4.trans ho'.undrawn) Hv'.out (by rw [<-Hq.out,HG1.out]) (by have:=Hk.out.2.2;have:=HG1.out;omega)
theorem long_round {M M' Q:List Nat} {j n V A q:Nat} (hV0:0<V) (hVn:V<B64 ^ n) (hM:j+(n+1)<=M.length) (dM:Dig M) (hQ:j<Q.length)
  (hinv:val (Q.drop (j+1))*B64 ^ (j+1)*V+val M=A) (hlt:val M<V*B64 ^ (j+1)) (hT:Turned M M' j (n+1))
  (hq:q=val (seg M j (n+1)) / V) (hr:val (seg M' j (n+1))=val (seg M j (n+1)) % V) :
  val ((Q.set j q).drop j)*B64 ^ j*V+val M'=A/\val M'<V*B64 ^ j:=by
 have hl:M'.length=M.length:=hT.1
 have s1:∀ X:List Nat,X.length=M.length->val X=val (seg X 0 j)+B64 ^ j*val (seg X j (n+1))+B64 ^ (j+(n+1))*val (seg X (j+(n+1)) (M.length-(j+(n+1)))):=by
  intro X hX;have e1:=val_seg_split X 0 (j+(n+1)) M.length hM (by omega);have e2:=val_seg_split X 0 j (j+(n+1)) (by omega) (by omega);rw [show seg X 0 M.length=X from by rw [<-hX];exact seg_all X] at e1;rw [e2] at e1;rw [show j+(n+1)-j=n+1 from by omega,jH,jH] at e1;exact e1
 have eM:=s1 M rfl;have eM':=s1 M' hl;have t0:seg M' 0 j=seg M 0 j:=seg_congr _ _ _ _ hl (fun t _ ht=>hT.2 t (by omega));have t2:seg M' (j+(n+1)) (M.length-(j+(n+1)))=seg M (j+(n+1)) (M.length-(j+(n+1))):=seg_congr _ _ _ _ hl (fun t ht _=>hT.2 t (by omega));rw [t0,t2,hr] at eM'
 have hlow:val (seg M 0 j)<B64 ^ j:=by
  have h:=val_lt (l:=seg M 0 j) ((dM.drop 0).take j)
  rwa [seg_length M 0 j (by omega)] at h
 generalize val (seg M 0 j)=lo at *;generalize val (seg M (j+(n+1)) (M.length-(j+(n+1))))=hi at *
 have hhi:hi=0:=by
  cases hi with
  | zero=>rfl
  | succ k =>
   exfalso
   have h1:V*B64 ^ (j+1)<=B64 ^ n*B64 ^ (j+1):=qS _ (Nat.le_of_lt hVn);rw [<-jS,show n+(j+1)=j+(n+1) from by omega] at h1;rw [qN,Nat.mul_one] at eM;omega
 subst hhi;have hdm:=Nat.div_add_mod (val (seg M j (n+1))) V;have hml:=Nat.mod_lt (val (seg M j (n+1))) hV0;rw [<-hq] at hdm;generalize val (seg M j (n+1))=P at *;generalize P % V=r at *
 constructor
 ·rw [drop_set_cons Q j q hQ,val,eM',<-hinv,eM,<-hdm]
  have p:B64 ^ (j+1)=B64 ^ j*B64:=jK _ _;rw [p];generalize val (Q.drop (j+1))=D;generalize B64 ^ j=X;generalize B64=c;simp only [qN,yV,Nat.mul_zero]
  have a1:q*X*V=X*(V*q):=by ac_rfl
  have a2:c*D*X*V=D*(X*c)*V:=by ac_rfl
  omega
 ·rw [eM']
  have h1:B64 ^ j*(r+1)<=B64 ^ j*V:=jX _ hml;rw [qN,jU (B64 ^ j) V] at h1;omega
theorem seg_lt {M:List Nat} {j n V:Nat} (hM:j+(n+1)<=M.length) (hlt:val M<V*B64 ^ (j+1)):val (seg M j (n+1))<B64*V:=by
 have e1:=val_seg_split M 0 j M.length (by omega) (by omega);rw [show seg M 0 M.length=M from seg_all M,jH] at e1;have e2:=val_seg_split M j (n+1) (M.length-j) (by omega) (by omega);rw [e2,qN] at e1
 have h1:B64 ^ j*val (seg M j (n+1))<B64 ^ j*(B64*V):=by
  have:V*B64 ^ (j+1)=B64 ^ j*(B64*V):=by rw [jK];generalize B64 ^ j=X;generalize B64=c;ac_rfl
  omega
 exact Nat.lt_of_mul_lt_mul_left h1
theorem shifted_top {lb l':List Nat} {n s y:Nat} (hn:lb.length=n) (h1:1<=n) (d':Dig l') (m':Nrm l') (db:Dig lb) (hy:lb.getD (n-1) 0=y) (hs1:9223372036854775808<=y*2 ^ s) (hs2:y*2 ^ s<B64) (hv:val l'=val lb*2 ^ s) :
  l'.length=n/\9223372036854775808<=l'.getD (n-1) 0:=by
 have hp:0<2 ^ s:=jF (by omega);have e1:=val_take_succ lb (n-1) (by omega);rw [show n-1+1=n from by omega,<-hn,List.take_length,hn,hy] at e1
 have hlow:val (lb.take (n-1))<B64 ^ (n-1):=by
  have h:=val_lt (db.take (n-1))
  rwa [qC,Nat.min_eq_left (by omega)] at h
 have hX:0<B64 ^ (n-1):=jF B64_pos
 have hge:B64 ^ (n-1)*9223372036854775808<=val l':=by
  rw [hv,e1,yV,jW];have:=jX (B64 ^ (n-1)) hs1;omega
 have hlt:val l'<B64 ^ n:=by
  rw [hv,e1]
  have h2:val (lb.take (n-1))+B64 ^ (n-1)*y+1<=B64 ^ (n-1)*(y+1):=by rw [qN];omega
  have h3:(val (lb.take (n-1))+B64 ^ (n-1)*y+1)*2 ^ s<=B64 ^ (n-1)*(y+1)*2 ^ s:=qS _ h2
  have h4:(y+1)*2 ^ s<=B64:=by
   have hdvd:B64=2 ^ s*(B64 / 2 ^ s):=by
    have hsle:s<=64:=by
     apply yP;intro hs
     have h5:(2:Nat) ^ 64<=2 ^ s:=qY (by omega) (by omega)
     have h6:1<=y:=by
      apply Nat.pos_of_ne_zero;intro h;rw [h] at hs1;omega
     have h7:=qS (2 ^ s) h6;rw [B64_pow] at hs2;omega
    have:B64=2 ^ s*2 ^ (64-s):=by rw [<-jS,B64_pow];congr 1;omega
    conv=>rhs;rw [this,Nat.mul_div_cancel_left _ hp]
    exact this
   rw [hdvd,jU];rw [hdvd,jU] at hs2;exact jX _ (Nat.lt_of_mul_lt_mul_left hs2)
  have h5:B64 ^ (n-1)*(y+1)*2 ^ s<=B64 ^ n:=by
   rw [jW,show B64 ^ n=B64 ^ (n-1)*B64 from by rw [<-jK];congr 1;omega];exact jX _ h4
  rw [yV,Nat.one_mul] at h3;omega
 have hlen:l'.length=n:=by
  apply Nat.le_antisymm
  ·apply yP;intro h
   have h6:=m'.ge (by intro e;subst e;simp at h);have h7:B64 ^ n<=B64 ^ (l'.length-1):=qY B64_pos (by omega);omega
  ·apply yP;intro h
   have h6:=val_lt d';have h7:B64 ^ l'.length<=B64 ^ (n-1):=qY B64_pos (by omega);omega
 refine ⟨hlen,?_⟩;have e2:=val_take_succ l' (n-1) (by omega);rw [show n-1+1=n from by omega,<-hlen,List.take_length,hlen] at e2
 have hlow':val (l'.take (n-1))<B64 ^ (n-1):=by
  have h:=val_lt (d'.take (n-1))
  rwa [qC,Nat.min_eq_left (by omega)] at h
 apply yP;intro h
 have h8:B64 ^ (n-1)*(l'.getD (n-1) 0+1)<=B64 ^ (n-1)*9223372036854775808:=jX _ h;rw [qN] at h8;omega
theorem div_scaled (a b s:Nat):(a*2 ^ s) / (b*2 ^ s)=a / b/\(a*2 ^ s) % (b*2 ^ s)=a % b*2 ^ s:=by
 have hp:0<2 ^ s:=jF (by omega);exact ⟨Nat.mul_div_mul_right _ _ hp,Nat.mul_mod_mul_right _ _ _⟩
theorem long_start {la l':List Nat} {n d s:Nat} (hla:la.length=n+d) (dla:Dig la) (hl':l'.length=n) (h1:1<=n) (hs:s<=63) (htop:9223372036854775808<=l'.getD (n-1) 0):val la*2 ^ s<val l'*B64 ^ (d+1):=by
 have e2:=val_take_succ l' (n-1) (by omega);rw [show n-1+1=n from by omega,<-hl',List.take_length,hl'] at e2
 have h3:B64 ^ (n-1)*9223372036854775808<=val l':=by
  rw [e2];have:=jX (B64 ^ (n-1)) htop;omega
 have h4:=val_lt dla;rw [hla] at h4
 have h5:2 ^ s<=9223372036854775808:=by
  have:(2:Nat) ^ s<=2 ^ 63:=qY (by omega) hs;exact this
 have h6:val la*2 ^ s<B64 ^ (n+d)*2 ^ s:=Nat.mul_lt_mul_of_pos_right h4 (jF (by omega));have h7:B64 ^ (n+d)*2 ^ s<=B64 ^ (n+d)*9223372036854775808:=jX _ h5;have h8:B64 ^ (n-1)*9223372036854775808*B64 ^ (d+1)<=val l'*B64 ^ (d+1):=qS _ h3
 have h9:B64 ^ (n-1)*9223372036854775808*B64 ^ (d+1)=B64 ^ (n+d)*9223372036854775808:=by
  rw [Nat.mul_right_comm,<-jS];congr 2;omega
 omega
theorem divLong_any (a1 a2:Option Addr) (la lb:List Nat) (n d c1 c2:Nat) (w:World) (hla:la.length=n+d) (hlb:lb.length=n) (h1:Seg w a1 la) (h2:Seg w a2 lb) (d1:Dig la) (d2:Dig lb) (m2:Nrm lb) (hc1:n+d<=c1) (hc2:n<=c2) (hn2:2<=n) (hm:n+d<=16777216) :
  Calls Tryz.prog 148 #[.slice a1 (n+d) c1,.slice a2 n c2] w fun e w'=>∃ v1 v2:Value,e=.returned (.tuple #[v1,v2])/\Num w' v1 (val la / val lb)/\Num w' v2 (val la % val lb)/\Ext w w':=by
 have hla':=hid hla;have hlb':=hid hlb;have h2k:=h2
 rcases h2 with ⟨_,rfl⟩ | ⟨g2,o2,rfl,hg2,hcell⟩
 ·simp at hlb;omega
 have hcl:=hcell (n-1) (by omega);have hy:=d2.getD (n-1);obtain ⟨y,hyd⟩:∃ y,lb.getD (n-1) 0=y:=⟨_,rfl⟩;rw [hyd] at hcl hy
 have hy0:0<y:=by
  apply Nat.pos_of_ne_zero;intro h
  have e1:=val_take_succ lb (n-1) (by omega);rw [show n-1+1=n from by omega,<-hlb,List.take_length,hlb,hyd,h] at e1
  have hlow:val (lb.take (n-1))<B64 ^ (n-1):=by
   have h:=val_lt (d2.take (n-1))
   rwa [qC,Nat.min_eq_left (by omega)] at h
  have h6:=m2.ge (by intro e;subst e;simp at hlb;omega);rw [hlb] at h6;omega
 obtain ⟨s,hs,hs1,hs2,hlz⟩:=lz_any y hy0 hy;have Hlz:=hid hlz;have Hy:=hid hyd;have Hs1:=hid hs1;have Hs2:=hid hs2
 have i1:(2:Int)<=(n:Int):=by omega
 clear hcell hlz hyd hs1 hs2 hla hlb hy hy0 hn2
 go_enter Tryz.func148,Tryz.ntmps148
 go_wp2_with fail
 refine (Hlz.out _).mono ?_;rintro e w' ⟨rfl,rfl⟩
 go_wp2_with fail
 refine (shiftUp_any _ lb n c2 s w hlb'.out h2k d2 hc2 (by omega) (by omega)).mono ?_;rintro e w1 ⟨_,rfl,⟨ao',l',c',rfl,hc',hcm',hs',dl',ml',hvl⟩,he1⟩;obtain ⟨hll,htop⟩:=shifted_top hlb'.out (by omega) dl' ml' d2 Hy.out Hs1.out Hs2.out hvl;rw [hll] at hc' ⊢;have Hll:=hid hll;have Htop:=hid htop;have Hvl:=hid hvl;clear hll htop hvl ml'
 go_wp2_with (at_make;refine wpList_make_row _ rfl _ _ rfl _ _ _ _ (n+d+1) rfl rfl (by omega) (by omega) (by omega) ?_;intro w2 hr2 he2 hz2)
 have hwz:w.heap.size<=w1.heap.size:=he1.size;have hs1':Seg w2 a1 la:=(h1.ext he1).ext he2;have hs2':Seg w2 ao' l':=hs'.ext he2;refine (shiftInto_any w1.heap.size 0 (n+d+1) (n+d+1) a1 (n+d) c1 s la (List.replicate (n+d+1) 0) w2 hla'.out hr2 hs1' (h1.block_ne hwz) (Dig.replicate _) d1 hs (by simp) (by simp) (qZ _) (by simp;unfold maxLen;omega) (qZ _) hc1).mono ?_;rintro e w3 ⟨M0,rfl,hr3,hd3,hT3,ho3,Hv3⟩
 have hM0:M0.length=n+d+1:=by rw [hT3.1];simp
 have HM0:=hid hM0
 have HvM:Hid (val M0=val la*2 ^ s):=by
  show _=_
  have:=Hv3.out
  rwa [show seg M0 0 (n+d+1)=M0 from by rw [<-hM0];exact seg_all M0] at this
 have hs3':Seg w3 ao' l':=hs2'.only ho3 (hs'.block_ne (qZ _));have hb3:Below w.heap.size w w3:=((he1.trans he2).only ho3 hwz)
 have hz3:w1.heap.size<w3.heap.size:=by rw [ho3.size];exact hz2
 clear hM0 Hv3 hs1' hs2' hT3 ho3 hr2 hz2 he2
 go_wp2_with (at_make;refine wpList_make_row _ rfl _ _ rfl _ _ _ _ (d+1) rfl rfl (by omega) (by omega) (by omega) ?_;intro w4 hr4 he4 hz4)
 have hr3':Row w4 w1.heap.size M0:=hr3.ext he4;have hs4':Seg w4 ao' l':=hs3'.ext he4;have hb4:Below w.heap.size w w4:=Ext.trans hb3 he4
 have HV0:Hid (0<val l'):=by
  show 0<_
  apply Nat.pos_of_ne_zero;intro h
  have e2:=val_take_succ l' (n-1) (by rw [Hll.out];omega);rw [show n-1+1=n from by omega,<-Hll.out,List.take_length,Hll.out,h] at e2;have h9:=Htop.out;have:0<B64 ^ (n-1)*l'.getD (n-1) 0:=Nat.mul_pos (jF B64_pos) (by omega);omega
 have HVn:Hid (val l'<B64 ^ n):=by
  show _<_
  have:=val_lt dl'
  rwa [Hll.out] at this
 clear hr3 hs3' hb3
 go_loopw [9] (fun i wr=>∃ (k:Nat) (M Q:List Nat),k<=d+1/\i=.int .i64 ((k:Int)-1)/\Row wr w1.heap.size M/\Row wr w3.heap.size Q/\Seg wr ao' l'/\Dig M/\Dig Q/\M.length=n+d+1/\Q.length=d+1/\Below w.heap.size w wr/\val (Q.drop k)*B64 ^ k*val l'+val M=val la*2 ^ s/\val M<val l'*B64 ^ k)
  (fun i _=>(intOf i+1).toNat)
 case atStart=>exact ⟨d+1,M0,_,qZ _,by go_num,hr3',hr4,hs4',hd3,Dig.replicate _,HM0.out,by simp,hb4,by
  rw [yE (by simp),val,Nat.zero_mul,Nat.zero_mul,jH];exact HvM.out,by
  rw [HvM.out];exact long_start hla'.out d1 Hll.out (by omega) hs Htop.out⟩
 case round =>
  clear hr3' hr4 hs4' hb4 he4 hz4;obtain ⟨k,M,Q,hk,rfl,hrM,hrQ,hsl,hdM,hdQ,hML,hQL,hB,hinv,hlt⟩:=hrel;have HML:=hid hML;have HQL:=hid hQL;have Hinv:=hid hinv;have Hlt:=hid hlt;clear hML hQL hinv hlt
  by_cases hp:0<k
  ·obtain ⟨j,rfl⟩:∃ j,k=j+1:=⟨k-1,by omega⟩
   have ej:((j+1:Nat):Int)-1=(j:Int):=by omega
   rw [ej];clear ej
   go_wp2_with fail
   rw [show j+n+1-j=n+1 from by omega];refine (divDigit_any w1.heap.size j _ ao' n c' l' M wr Hll.out hrM hsl (hs'.block_ne (qZ _)) hdM dl' (by omega) (by rw [HML.out];omega) (by rw [HML.out];omega) (by omega) (by omega) hc' Htop.out (seg_lt (by rw [HML.out];omega) Hlt.out)).mono ?_;rintro e w5 ⟨M',q,rfl,hq,hrM',hdM',hT,ho5,hqe,hre⟩;have Hqe:=hid hqe;have Hre:=hid hre;have hrQ5:=hrQ.only ho5 (by omega);have hsl5:=hsl.only ho5 (hs'.block_ne (qZ _));have hcQ:=hrQ5.cell j (by rw [HQL.out];omega);have hfQ:=hrQ5.frozen j;clear hqe hre
   go_wp2
   have hstep:=long_round HV0.out HVn.out (by rw [HML.out];omega) hdM (by rw [HQL.out];omega) Hinv.out Hlt.out hT Hqe.out Hre.out;have ho6:Only w3.heap.size w5 (w5.setCell ⟨w3.heap.size,j,none⟩ (.int .u64 (q:Nat))):=(Only.refl _ _).setCell _ _
   go_roundw
   case rel=>exact ⟨j,M',Q.set j q,by omega,by go_num,hrM'.only ho6 (by omega),hrQ5.set _ _,hsl5.only ho6 (fun a ha=>by have:=hs'.block_lt a ha;omega),hdM',hdQ.set _ _ hq,by rw [hT.1];exact HML.out,by rw [jV];exact HQL.out,(hB.trans (ho5.below hwz)).trans (ho6.below (by omega)),hstep.1,hstep.2⟩
   case measure=>simp [intOf]
  ·obtain rfl:k=0:=by omega
   have hv:=Hinv.out;have hl0:=Hlt.out;rw [List.drop_zero,Nat.pow_zero,Nat.mul_one,jU] at hv;rw [Nat.pow_zero,Nat.mul_one] at hl0
   have hq:val Q=val la / val lb:=by
    rw [<- (div_scaled (val la) (val lb) s).1,<-Hvl.out,<-hv,Nat.mul_add_div HV0.out,Nat.div_eq_of_lt hl0,Nat.add_zero]
   have hr:val M / 2 ^ s=val la % val lb:=by
    have:val M=val la % val lb*2 ^ s:=by
     rw [<- (div_scaled (val la) (val lb) s).2,<-Hvl.out,<-hv,Nat.mul_add_mod,Nat.mod_eq_of_lt hl0]
    rw [this,Nat.mul_div_cancel _ (jF (by omega))]
   have Hq:=hid hq;have Hr:=hid hr;have hsQ:=hrQ.segAll;have hsM:=hrM.segAll;clear hv hl0 hq hr
   go_wp2_with fail
   refine (trim_n _ Q _ _ _ HQL.out (qZ _) (by unfold maxLen;omega) hsQ).mono ?_;rintro e w6 ⟨rfl,rfl⟩
   go_wp2_with fail
   refine (trim_n _ M _ _ _ HML.out (qZ _) (by unfold maxLen;omega) hsM).mono ?_;rintro e w7 ⟨rfl,rfl⟩;have hnl:=nlen_le M
   have hnM:nlen M<=16777217:=by rw [HML.out] at hnl;omega
   clear hnl
   go_wp2_with fail
   refine (shiftDown_any _ (M.take (nlen M)) (nlen M) (nlen M) s _ (by rw [qC];have:=nlen_le M;omega) (hsM.take _) (hdM.take _) (qZ _) (by unfold maxLen;omega) (by omega) (by omega)).mono ?_;rintro e w8 ⟨v2,rfl,hn2,he8⟩;rw [val_take_nlen] at hn2
   go_wp2_with fail
   go_ret2
   exact ⟨_,_,rfl,((num_trim hsQ hdQ (by rw [HQL.out];unfold maxLen;omega)).cast Hq.out).ext he8,hn2.cast Hr.out,hB.trans (he8.mono hB.size)⟩
theorem Seg.new1 (w:World) (x:Nat) (e:TypeId):Seg (w.alloc (.cells #[.int .u64 (x:Nat)] e)) (some ⟨w.heap.size,0,none⟩) [x]:=by
 refine qO ⟨w.heap.size,0,rfl,by simp,fun t ht=>?_⟩
 have ht0:t=0:=by simpa using ht
 subst ht0
 simp
theorem Ext.alloc (w:World) (o:Obj):Ext w (w.alloc o):=(Below.refl _ _).alloc (qZ _) o
theorem divWords_any (a1 a2:Option Addr) (la lb:List Nat) (n m c1 c2:Nat) (w:World) (hla:la.length=m) (hlb:lb.length=n) (h1:Seg w a1 la) (h2:Seg w a2 lb) (d1:Dig la) (d2:Dig lb) (m1:Nrm la) (m2:Nrm lb) (hc1:m<=c1) (hc2:n<=c2) (hcm1:c1<=maxLen) (hn1:1<=n) (hmm:m<=16777216) (hnn:n<=16777216) :
  Calls Tryz.prog 132 #[.slice a1 m c1,.slice a2 n c2] w fun e w'=>∃ v1 v2:Value,e=.returned (.tuple #[v1,v2])/\Num w' v1 (val la / val lb)/\Num w' v2 (val la % val lb)/\Ext w w':=by
 have Hla:=hid hla;have Hlb:=hid hlb
 have hbp:0<val lb:=by
  have:=m2.ge (by intro e;subst e;simp at hlb;omega);have h0:0<B64 ^ (lb.length-1):=jF B64_pos;omega
 have Hbp:=hid hbp
 by_cases hlt:val la<val lb
 ·have Hc:Hid (cmp3 (val la) (val lb)=-1):=cmp3_lt (by omega)
  have Hq:Hid (0=val la / val lb):=(Nat.div_eq_of_lt hlt).symm;have Hr:Hid (val la=val la % val lb):=(Nat.mod_eq_of_lt hlt).symm;clear hla hlb hbp hlt
  go_enter Tryz.func132,Tryz.ntmps132
  go_wp2_with fail
  refine (compareWords_any a1 a2 la lb m n c1 c2 w Hla.out Hlb.out h1 h2 d1 d2 m1 m2 hc1 hc2 (by omega) (by omega)).mono ?_;rintro e w1 ⟨rfl,he1⟩;rw [Hc.out]
  go_wp2_with fail
  go_ret2
  exact ⟨_,_,rfl,(Num.nil _).cast Hq.out,Num.cast ⟨a1,la,c1,by rw [Hla.out];rfl,by rw [Hla.out];exact hc1,hcm1,h1.ext he1,d1,m1,rfl⟩ Hr.out,he1⟩
 ·have Hge:Hid (val lb<=val la):=by show _<=_;omega
  have Hcn:Hid (¬ cmp3 (val la) (val lb)<0):=by
   show ¬ _
   unfold cmp3;rw [qE (by omega)]
   split<;>omega
  have hmn:n<=m:=by rw [<-hla,<-hlb];exact m2.len_le d1 Hge.out
  obtain ⟨cv,hcv⟩:∃ cv,cmp3 (val la) (val lb)=cv:=⟨_,rfl⟩;have Hcv:=hid hcv
  have hcn:¬ cv<0:=by rw [<-hcv];exact Hcn.out
  clear hla hlb hbp hlt hcv
  by_cases hn:n=1
  ·subst hn
   have hx:∃ x,lb=[x]:=List.length_eq_one_iff.1 Hlb.out;obtain ⟨x,rfl⟩:=hx;have hxB:x<B64:=d2 x (List.mem_cons_self ..);have h2k:=h2
   rcases h2 with ⟨_,h⟩ | ⟨g,o,rfl,hg,hcell⟩
   ·simp at h
   have hcl:=hcell 0 (by simp);simp only [Nat.add_zero,List.getD_cons_zero] at hcl;clear hcell
   go_enter Tryz.func132,Tryz.ntmps132
   go_wp2_with fail
   refine (compareWords_any a1 _ la [x] m 1 c1 c2 w Hla.out Hlb.out h1 h2k d1 d2 m1 m2 hc1 hc2 (by omega) (by omega)).mono ?_;rintro e w1 ⟨rfl,he1⟩;rw [Hcv.out];have hcl1:=(he1.cell (p:=⟨g,o,none⟩) hg).trans hcl;clear hcl
   go_wp2_with fail
   refine (divByWord_any a1 la m c1 x w1 Hla.out (h1.ext he1) d1 hc1 (by omega) hxB (by have:=Hbp.out;simpa [val] using this)).mono ?_;rintro e w2 ⟨v1,r,rfl,hn1',hr,he2⟩;have Hr:=hid hr;clear hr
   go_wp2_with fail
   have hsn:=Seg.new1 w2 r 77
   have hxp:0<x:=by have:=Hbp.out;simpa [val] using this
   have hrB:r<B64:=by
    rw [Hr.out];exact Nat.lt_trans (Nat.mod_lt _ hxp) hxB
   have hev:val [x]=x:=by simp [val]
   have Hev:=hid hev;have hdr:Dig [r]:=Dig.cons hrB Dig.nil;clear hev;refine (trim_n _ [r] 1 1 _ rfl (qZ _) (by unfold maxLen;omega) hsn).mono ?_;rintro e w4 ⟨rfl,rfl⟩
   go_wp2_with fail
   go_ret2
   have hea:Ext w2 (w2.alloc (.cells #[.int .u64 (r:Nat)] 77)):=Ext.alloc _ _;exact ⟨_,_,rfl,(hn1'.ext hea).cast (by rw [Hev.out]),(num_trim hsn hdr (by simp [maxLen])).cast (by rw [Hev.out,<-Hr.out];simp [val]),(he1.trans he2).trans hea⟩
  ·have hbn:((n:Int) == 1)=false:=by rw [qV];omega
   obtain ⟨d,rfl⟩:∃ d,m=n+d:=⟨m-n,by omega⟩;clear hmn
   have hn2:2<=n:=by omega
   clear hn
   go_enter Tryz.func132,Tryz.ntmps132
   go_wp2_with fail
   refine (compareWords_any a1 a2 la lb (n+d) n c1 c2 w Hla.out Hlb.out h1 h2 d1 d2 m1 m2 hc1 hc2 (by omega) (by omega)).mono ?_;rintro e w1 ⟨rfl,he1⟩;rw [Hcv.out]
   go_wp2_with fail
   refine (divLong_any a1 a2 la lb n d c1 c2 w1 Hla.out Hlb.out (h1.ext he1) (h2.ext he1) d1 d2 m2 hc1 hc2 hn2 hmm).mono ?_;rintro e w2 ⟨v1,v2,rfl,hq,hr,he2⟩
   go_wp2_with fail
   go_ret2
   exact ⟨v1,v2,rfl,hq,hr,he1.trans he2⟩
def IsInt (w:World) (sm:Int) (ao:Option Addr) (n c:Nat) (z:Int):Prop :=
 (ao=none/\n=0/\c=0/\sm=z/\-9223372036854775808<=z/\z<=9223372036854775807) \/
 (∃ (b o:Nat) (l:List Nat),ao=some ⟨b,o,none⟩/\l.length=n/\n<=c/\c<=maxLen/\Seg w (some ⟨b,o,none⟩) l/\Dig l/\Nrm l/\((sm=-1/\z=-(val l:Int)/\9223372036854775808<val l)\/(sm=1/\z=(val l:Int)/\9223372036854775807<val l)))
theorem IsInt.ext {w w':World} {sm:Int} {ao:Option Addr} {n c:Nat} {z:Int} (h:IsInt w sm ao n c z) (k:Ext w w'):IsInt w' sm ao n c z:=by
 rcases h with h | ⟨b,o,l,h1,h2,h3,h4,h5,h6⟩
 ·exact qM h
 ·exact qO ⟨b,o,l,h1,h2,h3,h4,h5.ext k,h6⟩
theorem IsInt.small (w:World) (z:Int) (h1 : -9223372036854775808<=z) (h2:z<=9223372036854775807):IsInt w z none 0 0 z:=qM ⟨rfl,rfl,rfl,rfl,h1,h2⟩
theorem IsInt.sign {w:World} {sm:Int} {ao:Option Addr} {n c:Nat} {z:Int} (h:IsInt w sm ao n c z):(sm<0↔z<0)/\(sm=0↔z=0)/\-9223372036854775808<=sm/\sm<=9223372036854775807:=by
 rcases h with ⟨_,_,_,rfl,h1,h2⟩ | ⟨b,o,l,_,_,_,_,_,_,_,⟨rfl,rfl,h⟩ | ⟨rfl,rfl,h⟩⟩<;>omega
theorem IsInt.cast {w:World} {sm:Int} {ao:Option Addr} {n c:Nat} {z z':Int} (h:IsInt w sm ao n c z) (e:z=z'):IsInt w sm ao n c z':=e ▸ h
def Fit (k:Nat) (z:Int):Prop:=z.natAbs<B64 ^ k
theorem IsInt.len {w:World} {sm:Int} {ao:Option Addr} {n c:Nat} {z:Int} (h:IsInt w sm ao n c z) {k:Nat} (hf:Fit k z):n<=k:=by
 rcases h with ⟨_,rfl,_⟩ | ⟨b,o,l,_,rfl,_,_,_,d,m,hz⟩
 ·exact qI _
 ·have hv:val l<B64 ^ k:=by
   unfold Fit at hf
   rcases hz with ⟨_,rfl,_⟩ | ⟨_,rfl,_⟩<;>omega
  apply yP
  intro hk;have h1:=m.ge (by intro e;subst e;simp at hk);have h2:B64 ^ k<=B64 ^ (l.length-1):=qY B64_pos (by omega);omega
theorem eql_nil (a:Option Addr) (n c n' c':Nat) (w:World):(binOp .eql 52 (.slice a n c) (.slice none n' c')).run Tryz.prog w=.ok (.bool a.isNone) w:=Lib.run_eql_slice_nil w _ _ a n c n' c' Tryz.underlying52
theorem neq_nil (a:Option Addr) (n c n' c':Nat) (w:World):(binOp .neq 52 (.slice a n c) (.slice none n' c')).run Tryz.prog w=.ok (.bool (!a.isNone)) w:=run_neq_slice_nil_any w _ _ a n c n' c' Tryz.underlying52
theorem negative_any (sm:Int) (lv:Value) (w:World) :
  Calls Tryz.prog 102 #[.agg #[.int .i64 sm,lv]] w fun e w'=>e=.returned (.bool (decide (sm<0)))/\Ext w w':=by
 go_enter Tryz.func102,Tryz.ntmps102
 go_wp2
 go_ret
 exact ⟨rfl,Ext.alloc _ _⟩
theorem wordOf_any (n:Int) (h1 : -9223372036854775808<=n) (h2:n<=9223372036854775807) (w:World) :
  Calls Tryz.prog 107 #[.int .i64 n] w fun e w'=>e=.returned (.int .u64 (n.natAbs:Nat))/\w=w':=by
 by_cases hn:n<0
 ·have e1:IntKind.u64.wrap n=n+18446744073709551616:=by rw [yF];omega
  obtain ⟨a,ha⟩:∃ a:Nat,n.natAbs=a:=⟨_,rfl⟩
  have e2:IntKind.u64.wrap (-(n+18446744073709551616))=(a:Int):=by rw [yF];omega
  rw [ha];clear ha
  go_enter Tryz.func107,Tryz.ntmps107
  go_wp2
  go_ret
  exact ⟨rfl,rfl⟩
 ·obtain ⟨a,rfl⟩:∃ a:Nat,n=(a:Int):=⟨n.toNat,by omega⟩
  rw [Int.natAbs_natCast]
  go_enter Tryz.func107,Tryz.ntmps107
  go_wp2
  go_ret
  exact ⟨rfl,rfl⟩
theorem short_any (s1 s2:Int) (a1 a2:Option Addr) (n1 c1 n2 c2:Nat) (w:World) :
  Calls Tryz.prog 100 #[.agg #[.int .i64 s1,.slice a1 n1 c1],.agg #[.int .i64 s2,.slice a2 n2 c2]] w fun e w'=>e=.returned (.bool (a1.isNone && a2.isNone))/\Ext w w':=by
 have q1:=eql_nil a1 n1 c1 0 0;have q2:=eql_nil a2 n2 c2 0 0
 cases a1 with
 | none =>
  go_enter Tryz.func100,Tryz.ntmps100
  go_wp2
  go_ret
  exact ⟨rfl,(Ext.alloc _ _).trans (Ext.alloc _ _)⟩
 | some a =>
  go_enter Tryz.func100,Tryz.ntmps100
  go_wp2
  go_ret
  exact ⟨rfl,(Ext.alloc _ _).trans (Ext.alloc _ _)⟩
theorem words_any (sm:Int) (ao:Option Addr) (n c:Nat) (z:Int) (w:World) (h:IsInt w sm ao n c z) :
  Calls Tryz.prog 104 #[.agg #[.int .i64 sm,.slice ao n c]] w fun e w'=>∃ v,e=.returned v/\Num w' v z.natAbs/\Ext w w':=by
 have q1:=neq_nil ao n c 0 0
 rcases h with ⟨rfl,rfl,rfl,rfl,h1,h2⟩ | ⟨b,o,l,rfl,hl,hc,hm,hs,hd,hn,hz⟩
 ·have hxB:sm.natAbs<B64:=by rw [B64_eq];omega
  have Hw:=hid (wordOf_any sm h1 h2);obtain ⟨x,hx⟩:∃ x,sm.natAbs=x:=⟨_,rfl⟩;rw [hx] at Hw hxB ⊢;have hd:Dig [x]:=Dig.cons hxB Dig.nil;clear hx
  go_enter Tryz.func104,Tryz.ntmps104
  go_wp2_with fail
  refine (Hw.out _).mono ?_;rintro e w1 ⟨rfl,rfl⟩
  go_wp2_with fail
  have hsn:=Seg.new1 (w.alloc (.cells #[.int .i64 sm,.slice none 0 0] 54)) x 77;rw [show (w.alloc (.cells #[.int .i64 sm,.slice none 0 0] 54)).heap.size=w.heap.size+1 from by simp] at hsn;refine (trim_n _ [x] 1 1 _ rfl (qZ _) (by unfold maxLen;omega) hsn).mono ?_;rintro e w4 ⟨rfl,rfl⟩
  go_wp2_with fail
  go_ret
  exact ⟨_,rfl,(num_trim hsn hd (by simp [maxLen])).cast (by simp [val]),(Ext.alloc _ _).trans (Ext.alloc _ _)⟩
 ·have hv:val l=z.natAbs:=by rcases hz with ⟨_,rfl,_⟩ | ⟨_,rfl,_⟩<;>omega
  have Hl:=hid hl;have Hv:=hid hv;clear hl hv hz
  go_enter Tryz.func104,Tryz.ntmps104
  go_wp2
  go_ret
  exact ⟨_,rfl,⟨_,l,c,by rw [Hl.out];rfl,by rw [Hl.out];exact hc,hm,hs.ext (Ext.alloc _ _),hd,hn,Hv.out⟩,Ext.alloc _ _⟩
def sgn (neg:Bool) (x:Nat):Int:=if neg then -(x:Int) else (x:Int)
def fits (neg:Bool) (x:Nat):Bool:=if neg then decide (x<=9223372036854775808) else decide (x<=9223372036854775807)
theorem fromWord_any (neg:Bool) (x:Nat) (hx:x<B64) (w:World) :
  Calls Tryz.prog 129 #[.bool neg,.int .u64 x] w fun e w'=>∃ sm:Int,e=.returned (.tuple #[.agg #[.int .i64 sm,.slice none 0 0],.bool (fits neg x)])/\(fits neg x=true->sm=sgn neg x)/\Ext w w':=by
 rw [B64_eq] at hx
 cases neg with
 | true =>
  obtain ⟨sm,hsm⟩:∃ sm:Int,IntKind.i64.wrap (IntKind.u64.wrap (-(x:Int)))=sm:=⟨_,rfl⟩
  have Hs:Hid (fits true x=true->sm=sgn true x):=by
   intro h;simp only [fits,if_true,jZ] at h;rw [<-hsm,yF,qH];simp only [sgn,if_true];omega
  by_cases hf:x<=9223372036854775808
  ·have hb:fits true x=true:=by simp [fits,hf]
   have hf':(x:Int)<=9223372036854775808:=by omega
   rw [hb];clear hf hb
   go_enter Tryz.func129,Tryz.ntmps129
   go_wp2
   exact qJ (v:=.tuple #[.agg #[.int .i64 sm,.slice none 0 0],.bool true]) (by simp [results,Tryz.results129,go_sem]) rfl ⟨sm,rfl,fun _=>Hs.out (by simp [fits];omega),Ext.alloc _ _⟩
  ·have hb:fits true x=false:=by simp [fits];omega
   have hf':¬ (x:Int)<=9223372036854775808:=by omega
   rw [hb];clear hf hb
   go_enter Tryz.func129,Tryz.ntmps129
   go_wp2
   exact qJ (v:=.tuple #[.agg #[.int .i64 sm,.slice none 0 0],.bool false]) (by simp [results,Tryz.results129,go_sem]) rfl ⟨⟨sm,rfl⟩,Ext.alloc _ _⟩
 | false =>
  obtain ⟨sm,hsm⟩:∃ sm:Int,IntKind.i64.wrap (x:Int)=sm:=⟨_,rfl⟩
  have Hs:Hid (fits false x=true->sm=sgn false x):=by
   intro h;simp only [fits,Bool.false_eq_true,if_false,jZ] at h;rw [<-hsm,qH];simp only [sgn,Bool.false_eq_true,if_false];omega
  by_cases hf:x<=9223372036854775807
  ·have hb:fits false x=true:=by simp [fits,hf]
   have hf':(x:Int)<=9223372036854775807:=by omega
   have e:sm=(x:Int):=Hs.out hb;rw [hb];clear hf hb hsm
   go_enter Tryz.func129,Tryz.ntmps129
   go_wp2
   exact qJ (v:=.tuple #[.agg #[.int .i64 (x:Int),.slice none 0 0],.bool true]) (by simp [results,Tryz.results129,go_sem]) rfl ⟨(x:Int),rfl,fun _=>by simp [sgn],Ext.alloc _ _⟩
  ·have hb:fits false x=false:=by simp [fits];omega
   have hf':¬ (x:Int)<=9223372036854775807:=by omega
   rw [hb];clear hf hb
   go_enter Tryz.func129,Tryz.ntmps129
   go_wp2
   exact qJ (v:=.tuple #[.agg #[.int .i64 sm,.slice none 0 0],.bool false]) (by simp [results,Tryz.results129,go_sem]) rfl ⟨⟨sm,rfl⟩,Ext.alloc _ _⟩
theorem fits_iff (neg:Bool) (x:Nat):fits neg x=true↔(-9223372036854775808<=sgn neg x/\sgn neg x<=9223372036854775807):=by
 cases neg<;>simp [fits,sgn]<;>omega
theorem Ext.res {w w5:World} {o0:Obj} (he:Ext (w.alloc o0) w5) (u v:Value):Ext w ((w5.setCell ⟨w.heap.size,0,none⟩ u).setCell ⟨w.heap.size,1,none⟩ v) :=
 (((Ext.alloc w o0).trans he).setCell (qZ _) u).setCell (qZ _) v
theorem Ext.then {w w1:World} (he:Ext w w1) (o:Obj):Ext w (w1.alloc o):=he.trans (Ext.alloc _ _)
theorem IsInt.long {w:World} {neg:Bool} {b o c:Nat} {l:List Nat} (hs:Seg w (some ⟨b,o,none⟩) l) (hd:Dig l) (hm:Nrm l) (hc:l.length<=c) (hcm:c<=maxLen) (hf:fits neg (val l)=false) :
  IsInt w (if neg then -1 else 1) (some ⟨b,o,none⟩) l.length c (sgn neg (val l)):=by
 refine qO ⟨b,o,l,rfl,rfl,hc,hcm,hs,hd,hm,?_⟩
 cases neg
 ·right;simp [fits] at hf;simp [sgn];omega
 ·left;simp [fits] at hf;simp [sgn];omega
theorem fromWords_any (neg:Bool) (ao:Option Addr) (l:List Nat) (n c:Nat) (w:World) (hl:l.length=n) (hs:Seg w ao l) (hd:Dig l) (hc:n<=c) (hcm:c<=maxLen) :
  Calls Tryz.prog 94 #[.bool neg,.slice ao n c] w fun e w'=>∃ (sm:Int) (a':Option Addr) (n' c':Nat),e=.returned (.agg #[.int .i64 sm,.slice a' n' c'])/\IsInt w' sm a' n' c' (sgn neg (val l))/\Ext w w':=by
 have Hl:=hid hl;have hnl:=nlen_le l;rw [hl] at hnl;have hea:Ext w (w.alloc (.cells #[.int .i64 0,.slice none 0 0] 54)):=Ext.alloc _ _
 have hlt:(l.take (nlen l)).length=nlen l:=by rw [qC];have:=nlen_le l;omega
 have hvt:=val_take_nlen l;have hnt:=Nrm_take l;have hdt:=hd.take (nlen l);have hst:=hs.take (nlen l);obtain ⟨t,ht⟩:∃ t,l.take (nlen l)=t:=⟨_,rfl⟩;obtain ⟨k,hk⟩:∃ k,nlen l=k:=⟨_,rfl⟩;rw [ht] at hlt hvt hnt hdt hst;have Hk:=hid hk;rw [hk] at hlt hnl;have Hlt:=hid hlt;have Hvt:=hid hvt
 have Htrim:Hid (Calls Tryz.prog 128 #[.slice ao n c] (w.alloc (.cells #[.int .i64 0,.slice none 0 0] 54)) fun e w'=>e=.returned (.slice ao k k)/\(w.alloc (.cells #[.int .i64 0,.slice none 0 0] 54))=w'):=by
  rw [<-Hk.out];exact trim_n ao l n c _ Hl.out hc hcm (hs.ext hea)
 clear hl ht hk hlt hvt
 have hkm:k<=maxLen:=by omega
 by_cases hk0:k=0
 ·have ht0:t=[]:=jD (by rw [Hlt.out];exact hk0)
  have hz:sgn neg (val l)=0:=by rw [<-Hvt.out,ht0];cases neg<;>simp [sgn,val]
  rw [hz];subst hk0;clear ht0 hz
  go_enter Tryz.func94,Tryz.ntmps94
  go_wp2_with fail
  refine Htrim.out.mono ?_;rintro e w4 ⟨rfl,rfl⟩
  go_wp2_with fail
  exact qJ (v:=.agg #[.int .i64 0,.slice none 0 0]) (by simp [results,Tryz.results94,go_sem]) rfl ⟨0,none,0,0,rfl,IsInt.small _ 0 (by omega) (by omega),Ext.alloc _ _⟩
 ·have hb0:((k:Int) == 0)=false:=by rw [qV];omega
  have hstk:=hst
  rcases hst with ⟨_,h⟩ | ⟨b,o,rfl,hb,hcell⟩
  ·have:=Hlt.out;rw [h] at this;simp at this;omega
  by_cases hk1:k=1
  ·subst hk1
   obtain ⟨x,rfl⟩:∃ x,t=[x]:=List.length_eq_one_iff.1 Hlt.out;have hxB:x<B64:=hdt x (List.mem_cons_self ..);have hcl:=(hea.cell (p:=⟨b,o+0,none⟩) hb).trans (hcell 0 (by simp));simp only [Nat.add_zero,List.getD_cons_zero] at hcl
   have hxv:x=val l:=by rw [<-Hvt.out];simp [val]
   have Hxv:=hid hxv;clear hcell hxv
   by_cases hf:fits neg x=true
   ·go_enter Tryz.func94,Tryz.ntmps94
    go_wp2_with fail
    refine Htrim.out.mono ?_;rintro e w4 ⟨rfl,rfl⟩
    go_wp2_with fail
    refine (fromWord_any neg x hxB _).mono ?_;rintro e w5 ⟨sm,rfl,hsm,he5⟩;have k0:=(he5.cell (p:=⟨w.heap.size,0,none⟩) (by simp)).trans (show _=some (.int .i64 0) from by simp);have k1:=(he5.cell (p:=⟨w.heap.size,1,none⟩) (by simp)).trans (show _=some (.slice none 0 0) from by simp);have f0:=(he5.frozen (p:=⟨w.heap.size,0,none⟩) (by simp)).trans (show _=false from by simp);have f1:=(he5.frozen (p:=⟨w.heap.size,1,none⟩) (by simp)).trans (show _=false from by simp)
    have hz5:w.heap.size<w5.heap.size:=by have:=he5.size;simp at this;omega
    go_wp2_with fail
    have hrg:=(fits_iff neg x).1 hf;exact qJ (v:=.agg #[.int .i64 (sgn neg x),.slice none 0 0]) (by simp [results,Tryz.results94,go_sem,k0,k1,hz5]) rfl ⟨sgn neg x,none,0,0,rfl,by rw [<-Hxv.out];exact IsInt.small _ _ hrg.1 hrg.2,(Ext.res he5 _ _).then _⟩
   ·have hff:fits neg x=false:=by simpa using hf
    have hffl:fits neg (val [x])=false:=by simpa [val] using hff
    have hxs:sgn neg (val [x])=sgn neg (val l):=by rw [Hvt.out]
    have Hffl:=hid hffl;have Hxs:=hid hxs;clear hf hffl hxs
    cases neg
    all_goals
     go_enter Tryz.func94,Tryz.ntmps94
     go_wp2_with fail
     refine Htrim.out.mono ?_;rintro e w4 ⟨rfl,rfl⟩
     go_wp2_with fail
     refine (fromWord_any _ x hxB _).mono ?_;rintro e w5 ⟨sm,rfl,hsm,he5⟩;have k0:=(he5.cell (p:=⟨w.heap.size,0,none⟩) (by simp)).trans (show _=some (.int .i64 0) from by simp);have k1:=(he5.cell (p:=⟨w.heap.size,1,none⟩) (by simp)).trans (show _=some (.slice none 0 0) from by simp);have f0:=(he5.frozen (p:=⟨w.heap.size,0,none⟩) (by simp)).trans (show _=false from by simp);have f1:=(he5.frozen (p:=⟨w.heap.size,1,none⟩) (by simp)).trans (show _=false from by simp)
     have hz5:w.heap.size<w5.heap.size:=by have:=he5.size;simp at this;omega
     clear hsm
     go_wp2_with fail
    ·exact qJ (v:=.agg #[.int .i64 1,.slice (some ⟨b,o,none⟩) 1 1]) (by simp [results,Tryz.results94,go_sem,k0,k1,hz5]) rfl ⟨1,_,1,1,rfl,by rw [<-Hxs.out];exact IsInt.long (neg:=false) (hstk.ext ((Ext.res he5 _ _).then _)) hdt hnt (qZ _) hkm Hffl.out,(Ext.res he5 _ _).then _⟩
    ·exact qJ (v:=.agg #[.int .i64 (-1),.slice (some ⟨b,o,none⟩) 1 1]) (by simp [results,Tryz.results94,go_sem,k0,k1,hz5]) rfl ⟨-1,_,1,1,rfl,by rw [<-Hxs.out];exact IsInt.long (neg:=true) (hstk.ext ((Ext.res he5 _ _).then _)) hdt hnt (qZ _) hkm Hffl.out,(Ext.res he5 _ _).then _⟩
  ·have hb1:((k:Int) == 1)=false:=by rw [qV];omega
   have hge:B64<=val t:=by
    have h1:=hnt.ge (by intro e;have:=Hlt.out;rw [e] at this;simp at this;omega);rw [Hlt.out] at h1;have h2:B64 ^ 1<=B64 ^ (k-1):=qY B64_pos (by omega);rw [Nat.pow_one] at h2;omega
   have hffl:fits neg (val t)=false:=by
    rw [B64_eq] at hge
    cases neg<;>simp [fits]<;>omega
   have hxs:sgn neg (val t)=sgn neg (val l):=by rw [Hvt.out]
   have Hffl:=hid hffl;have Hxs:=hid hxs;have hzk:t.length=k:=Hlt.out;have Hzk:=hid hzk;clear hffl hxs hge hcell hzk
   cases neg
   all_goals
    go_enter Tryz.func94,Tryz.ntmps94
    go_wp2_with fail
    refine Htrim.out.mono ?_;rintro e w4 ⟨rfl,rfl⟩
    go_wp2_with fail
   ·exact qJ (v:=.agg #[.int .i64 1,.slice (some ⟨b,o,none⟩) k k]) (by simp [results,Tryz.results94,go_sem]) rfl ⟨1,_,k,k,rfl,by
     have h5:=IsInt.long (w:=w.alloc (.cells #[.int .i64 1,.slice (some ⟨b,o,none⟩) k k] 54)) (neg:=false) (hstk.ext (Ext.alloc _ _)) hdt hnt (by rw [Hzk.out];exact qZ k) hkm Hffl.out;rw [Hzk.out,Hxs.out] at h5
     exact h5,Ext.alloc _ _⟩
   ·exact qJ (v:=.agg #[.int .i64 (-1),.slice (some ⟨b,o,none⟩) k k]) (by simp [results,Tryz.results94,go_sem]) rfl ⟨-1,_,k,k,rfl,by
     have h5:=IsInt.long (w:=w.alloc (.cells #[.int .i64 (-1),.slice (some ⟨b,o,none⟩) k k] 54)) (neg:=true) (hstk.ext (Ext.alloc _ _)) hdt hnt (by rw [Hzk.out];exact qZ k) hkm Hffl.out;rw [Hzk.out,Hxs.out] at h5
     exact h5,Ext.alloc _ _⟩
end Go.Proofs.YtjfomkoedgipjaaGreatDoor
