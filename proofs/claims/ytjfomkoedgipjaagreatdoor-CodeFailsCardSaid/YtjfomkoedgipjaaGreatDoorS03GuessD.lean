/-
  shiftUp and shiftDown: words times and over a power of two. math/bits.Div64 and LeadingZeros64: what they answer. Div64 at every dividend; divByWord: words divided by one word. guessDigit: three words by two.
-/
import Derived.Deep.Cut
import Derived.Lib.BitFns
import Derived.Test.YtjfomkoedgipjaaGreatDoorS02ShiftI
namespace Go.Proofs.YtjfomkoedgipjaaGreatDoor
set_option maxRecDepth 100000
set_option maxHeartbeats 1000000
open Go.RowKit
theorem val_zeros_ahead (L M:List Nat) (sk n:Nat) (hL:L=List.replicate (sk+n) 0) (hT:Turned L M sk n):val M=B64 ^ sk*val (seg M sk n):=by
 have hl:M.length=sk+n:=by rw [hT.1,hL];simp
 have e1:=val_seg_split M 0 sk (sk+n) (by omega) (by omega);rw [show seg M 0 (sk+n)=M from by rw [<-hl];exact seg_all M] at e1;have e2:seg M 0 sk=seg L 0 sk:=seg_congr _ _ _ _ hT.1 (fun t _ ht=>hT.2 t (by omega))
 have e3:seg L 0 sk=List.replicate sk 0:=by rw [hL];simp [seg]
 rw [e1,e2,e3,val_replicate,jH,jH]
 congr 3
 omega
theorem shiftUp_any (ao:Option Addr) (la:List Nat) (n c sh:Nat) (w:World) (hn:la.length=n) (h1:Seg w ao la) (d1:Dig la) (hc:n<=c) (hm:n<=1073741824) (hsh:sh<=1073741824) :
  Calls Tryz.prog 133 #[.slice ao n c,.int .u64 sh] w fun e w'=>∃ v,e=.returned v/\Num w' v (val la*2 ^ sh)/\Ext w w':=by
 have Hn:Hid (la.length=n):=hn;obtain ⟨sk,hsk⟩:∃ sk,sh / 64=sk:=⟨_,rfl⟩;obtain ⟨by',hby⟩:∃ r,sh % 64=r:=⟨_,rfl⟩
 have hq:(sh:Int) / 64=(sk:Int):=by omega
 have hr:(sh:Int) % 64=(by':Int):=by omega
 have hskb:sk<=1073741824:=by omega
 have hbyb:by'<=63:=by omega
 have Hsh:Hid (sh=64*sk+by'):=by show _=_;omega
 clear hn hsk hby
 go_enter Tryz.func133,Tryz.ntmps133
 go_wp2_with (at_make;refine wpList_make_row _ rfl _ _ rfl _ _ _ _ (sk+(n+1)) rfl rfl (by omega) (by omega) (by omega) ?_;intro w1 hr1 he1 hz1)
 refine (shiftInto_any w.heap.size sk (n+1) (n+1) ao n c by' la (List.replicate (sk+(n+1)) 0) w1 Hn.out hr1 (h1.ext he1) (h1.block_ne (qZ _)) (Dig.replicate _) d1 hbyb (by simp) (by simp) (qZ _) (by simp;unfold maxLen;omega) (qZ _) hc).mono ?_;rintro e w2 ⟨M,rfl,hr2,hd2,hT2,ho2,Hv⟩
 have hML:M.length=sk+(n+1):=by rw [hT2.1];simp
 have HML:Hid (M.length=sk+(n+1)):=hML
 have HV:Hid (val M=val la*2 ^ sh):=by
  show val M=_
  rw [val_zeros_ahead _ M sk (n+1) rfl hT2,Hv.out,Hsh.out,B64_pow,<-Nat.pow_mul,jS,Nat.mul_left_comm]
 have hs3:=hr2.segAll;clear hML
 go_wp2_with fail
 refine (trim_n _ M _ _ _ HML.out (qZ _) (by unfold maxLen;omega) hs3).mono ?_;rintro e w4 ⟨rfl,rfl⟩
 go_wp2_with fail
 go_ret
 exact ⟨_,rfl,(num_trim hs3 hd2 (by rw [HML.out];unfold maxLen;omega)).cast HV.out,he1.only ho2 (qZ _)⟩
theorem shr_ex (x y s:Nat) (hx:x<B64) (hs:s<=63) (hy:y<2 ^ (64-s)):∃ z q r:Nat,z<B64/\q<2 ^ (64-s)/\r<2 ^ s/\Hid (x=2 ^ s*q+r)/\Hid (z=y+r*2 ^ (64-s)) /\
  bits .or .u64 (y:Int) (IntKind.u64.wrap ((x:Int)*2 ^ (64-s)))=(z:Int)/\(x:Int) / 2 ^ s=(q:Int):=by
 have hsplit:B64=2 ^ (64-s)*2 ^ s:=by rw [<-jS,B64_pow];congr 1;omega
 have hp:0<2 ^ s:=jF (by omega);have hp2:0<2 ^ (64-s):=jF (by omega)
 have hm:x*2 ^ (64-s) % B64=2 ^ (64-s)*(x % 2 ^ s):=by
  rw [hsplit,jU x,Nat.mul_mod_mul_left]
 have hor:y ||| x*2 ^ (64-s) % B64=y+x*2 ^ (64-s) % B64:=by
  rw [hm,Nat.or_comm,<-Nat.two_pow_add_eq_or_of_lt hy,Nat.add_comm]
 have hlt:y+x*2 ^ (64-s) % B64<B64:=by
  rw [hm];have h1:x % 2 ^ s<2 ^ s:=Nat.mod_lt _ hp;have h2:2 ^ (64-s)*(x % 2 ^ s+1)<=2 ^ (64-s)*2 ^ s:=jX _ h1;rw [qN,<-hsplit] at h2;omega
 refine ⟨y+x*2 ^ (64-s) % B64,x / 2 ^ s,x % 2 ^ s,hlt,?_,Nat.mod_lt _ hp,?_,?_,?_,?_⟩
 ·rw [jO hp,<-hsplit];exact hx
 ·exact (Nat.div_add_mod x (2 ^ s)).symm
 ·show _=_
  rw [hm,jU]
 ·have e:IntKind.u64.wrap ((x:Int)*2 ^ (64-s))=((x*2 ^ (64-s) % B64:Nat):Int):=by
   rw [yF]
   have:(x:Int)*2 ^ (64-s)=((x*2 ^ (64-s):Nat):Int):=by simp [Int.natCast_mul,Int.natCast_pow]
   rw [this,B64_eq];omega
  have hyB:y<18446744073709551616:=by have:=hlt;rw [B64_eq] at this;omega
  have hmB:x*2 ^ (64-s) % B64<18446744073709551616:=Nat.mod_lt _ (by omega);rw [e,bits_or_u64_nat _ _ hyB hmB,hor]
 ·have:((2:Int) ^ s)=((2 ^ s:Nat):Int):=by simp [Int.natCast_pow]
  rw [this];exact (Int.natCast_ediv _ _).symm
theorem down_step {M:List Nat} {k x y z q r s V R:Nat} (hs:s<=63) (hk:k+1<M.length) (hy:M.getD k 0=y) (hx:x=2 ^ s*q+r) (hz:z=y+r*2 ^ (64-s)) (hinv:V=2 ^ s*val (seg M 0 (k+1))+R) :
  V+B64 ^ (k+1)*x=2 ^ s*val (seg ((M.set (k+1) q).set k z) 0 (k+1+1))+R:=by
 have hsplit:B64=2 ^ s*2 ^ (64-s):=by rw [<-jS,B64_pow];congr 1;omega
 have e0:val (seg ((M.set (k+1) q).set k z) 0 (k+1+1))=val (seg M 0 k)+B64 ^ k*z+B64 ^ (k+1)*q:=by
  rw [val_seg_succ _ 0 (k+1) (by rw [jV,jV];omega),jH,getD_set_ne _ _ _ _ (by omega),getD_set_eq _ _ _ (by omega)];rw [val_seg_succ _ 0 k (by rw [jV,jV];omega),jH,getD_set_eq _ _ _ (by rw [jV];omega)];rw [seg_set_out _ _ _ _ _ (by omega),seg_set_out _ _ _ _ _ (by omega)]
 rw [val_seg_succ M 0 k (by omega),jH,hy] at hinv;rw [e0,hinv,hz,hx]
 have e1:2 ^ s*(B64 ^ k*(r*2 ^ (64-s)))=B64 ^ (k+1)*r:=by
  have e:2 ^ s*(B64 ^ k*(r*2 ^ (64-s)))=B64 ^ k*(2 ^ s*2 ^ (64-s))*r:=by
   generalize 2 ^ s=p;generalize 2 ^ (64-s)=p';generalize B64 ^ k=bk
   ac_rfl
  rw [e,<-hsplit,jK]
 simp only [qN,e1];have e2:B64 ^ (k+1)*(2 ^ s*q)=2 ^ s*(B64 ^ (k+1)*q):=Nat.mul_left_comm _ _ _;omega
theorem shiftDown_val (la:List Nat) (sk by' sh R V:Nat) (hsk:sk<=la.length) (hsh:sh=64*sk+by') (dl:Dig la) (hinv:val (la.drop sk)=2 ^ by'*V+R) (hR:R<2 ^ by'):V=val la / 2 ^ sh:=by
 have hp:0<2 ^ by':=jF (by omega)
 have e:2 ^ sh=B64 ^ sk*2 ^ by':=by rw [hsh,B64_pow,<-Nat.pow_mul,jS]
 rw [e,<-Nat.div_div_eq_div_mul,val_drop_take la sk hsk,Nat.add_mul_div_left _ _ (jF B64_pos)];have h:=val_lt (dl.take sk);rw [qC,Nat.min_eq_left hsk] at h;rw [Nat.div_eq_of_lt h,jH,hinv,Nat.mul_add_div hp,Nat.div_eq_of_lt hR,Nat.add_zero]
theorem drop_getD (la:List Nat) (sk t:Nat):(la.drop sk).getD t 0=la.getD (sk+t) 0:=by
 rw [qQ,qQ,List.getElem?_drop]
theorem Num.nil (w:World):Num w (.slice none 0 0) 0:=⟨none,[],0,rfl,qZ _,qI _,qM ⟨rfl,rfl⟩,Dig.nil,Nrm.nil,rfl⟩
theorem shiftDown_any (ao:Option Addr) (la:List Nat) (n c sh:Nat) (w:World) (hn:la.length=n) (h1:Seg w ao la) (d1:Dig la) (hc:n<=c) (_hcm:c<=maxLen) (hm:n<=1073741824) (hsh:sh<=1073741824) :
  Calls Tryz.prog 131 #[.slice ao n c,.int .u64 sh] w fun e w'=>∃ v,e=.returned v/\Num w' v (val la / 2 ^ sh)/\Ext w w':=by
 unfold maxLen at _hcm;have Hn:Hid (la.length=n):=hn;obtain ⟨sk,hsk⟩:∃ sk,sh / 64=sk:=⟨_,rfl⟩;obtain ⟨by',hby⟩:∃ r,sh % 64=r:=⟨_,rfl⟩
 have hq:(sh:Int) / 64=(sk:Int):=by omega
 have hr:(sh:Int) % 64=(by':Int):=by omega
 have hskb:sk<=1073741824:=by omega
 have hbyb:by'<=63:=by omega
 have Hsh:Hid (sh=64*sk+by'):=by show _=_;omega
 have h64:(0:Int)<=64-(by':Int):=by omega
 clear hn hsk hby
 by_cases hlt:sk<n
 ·obtain ⟨m,rfl⟩:∃ m,n=sk+m:=⟨n-sk,by omega⟩
  have h1k:=h1
  rcases h1 with ⟨_,rfl⟩ | ⟨g,o,rfl,hg,hcell⟩
  ·have:=Hn.out;simp at this;omega
  have Hcell:Hid (∀ t,t<la.length->w.cell? ⟨g,o+t,none⟩=some (.int .u64 (la.getD t 0:Nat))):=hcell;clear hcell
  go_enter Tryz.func131,Tryz.ntmps131
  go_wp2_with (at_make;refine wpList_make_row _ rfl _ _ rfl _ _ _ _ m rfl rfl (by omega) (by omega) (by omega) ?_;intro w1 hr1 he1 hz1)
  go_loopw [28] (fun i wr=>∃ (k:Nat) (M:List Nat),k<=m/\i=.int .i64 k/\Row wr w.heap.size M/\Dig M/\M.length=m/\Only w.heap.size w1 wr/\(0<k->M.getD (k-1) 0<2 ^ (64-by'))/\∃ R,R<2 ^ by'/\val ((la.drop sk).take k)=2 ^ by'*val (seg M 0 k)+R)
   (fun i _=>m-(intOf i).toNat)
  case atStart=>exact ⟨0,_,qI _,rfl,hr1,Dig.replicate _,by simp,Only.refl _ _,fun h=>absurd h (by omega),0,jF (by omega),by simp [seg_zero,val]⟩
  case round =>
   obtain ⟨k,M,hk,rfl,hrM,hdM,hML,hO,hlow,R,hR,hinv⟩:=hrel;have Hinv:Hid (val ((la.drop sk).take k)=2 ^ by'*val (seg M 0 k)+R):=hinv;have HML:Hid (M.length=m):=hML
   by_cases hlt2:k<m
   ·have hcl:wr.cell? ⟨g,o+sk+k,none⟩=some (.int .u64 (la.getD (sk+k) 0:Nat)):=by
     have e:=Hcell.out (sk+k) (by rw [Hn.out];omega);rw [<-Nat.add_assoc] at e;rw [jR (a:=⟨g,o+sk+k,none⟩) (hO.block g (by omega))];exact (he1.cell (p:=⟨g,o+sk+k,none⟩) hg).trans e
    have hdig:=d1.getD (sk+k);obtain ⟨x,hx⟩:∃ d,la.getD (sk+k) 0=d:=⟨_,rfl⟩;rw [hx] at hcl hdig;have Hx:Hid (la.getD (sk+k) 0=x):=hx;have hcM:=hrM.cell k (by omega);have hfz:=hrM.frozen k;obtain ⟨y2,hy2⟩:∃ y,M.getD k 0=y:=⟨_,rfl⟩;rw [hy2] at hcM
    have hsucc:val ((la.drop sk).take (k+1))=val ((la.drop sk).take k)+B64 ^ k*x:=by
     rw [val_take_succ _ k (by rw [qF,Hn.out];omega),drop_getD,hx]
    have Hsucc:Hid (val ((la.drop sk).take (k+1))=val ((la.drop sk).take k)+B64 ^ k*x):=hsucc;clear hx hinv hML hy2 hsucc
    by_cases hk0:k=0
    ·subst hk0
     clear hlow;obtain ⟨z,q,r,hz,hq2,hr2,Hx2,Hz,hor,hshr⟩:=shr_ex x 0 by' hdig hbyb (jF (by omega));clear hor;rw [Nat.add_zero] at hcl
     go_wp2
     have hML:=HML.out
     go_roundw
     case rel=>exact ⟨0+1,M.set 0 q,by omega,by go_num,hrM.set _ _,hdM.set _ _ (qK hq2 (by rw [B64_pow];exact qY (by omega) (by omega))),by rw [jV];exact hML,hO.setCell _ _,fun _=>by rw [getD_set_eq _ _ _ (by omega)];exact hq2,r,hr2,by
      rw [Hsucc.out,val_seg_succ _ 0 0 (by rw [jV];omega),seg_zero,getD_set_eq _ _ _ (by omega),Hx2.out];simp [val]⟩
     case measure=>simp [intOf];omega
    ·obtain ⟨j,rfl⟩:∃ j,k=j+1:=⟨k-1,by omega⟩
     have hlow':=hlow (by omega);rw [Nat.add_sub_cancel] at hlow';have hcj:=hrM.cell j (by rw [HML.out];omega);have hfj:=hrM.frozen j;obtain ⟨y,hy⟩:∃ y,M.getD j 0=y:=⟨_,rfl⟩;rw [hy] at hcj hlow';have Hy:Hid (M.getD j 0=y):=hy;obtain ⟨z,q,r,hz,hq2,hr2,Hx2,Hz,hor,hshr⟩:=shr_ex x y by' hdig hbyb hlow';clear hlow hlow' hy hk0
     go_wp2
     have hML:=HML.out;have hstep:=down_step hbyb (by omega) Hy.out Hx2.out Hz.out Hinv.out
     go_roundw
     case rel=>exact ⟨j+1+1,(M.set (j+1) q).set j z,by omega,by go_num,(hrM.set _ _).set _ _,(hdM.set _ _ (qK hq2 (by rw [B64_pow];exact qY (by omega) (by omega)))).set _ _ hz,by rw [jV,jV];exact hML,(hO.setCell _ _).setCell _ _,fun _=>by rw [Nat.add_sub_cancel,getD_set_ne _ _ _ _ (by omega),getD_set_eq _ _ _ (by omega)];exact hq2,R,hR,by
      rw [Hsucc.out];exact hstep⟩
     case measure=>simp [intOf];omega
   ·obtain rfl:k=m:=by omega
    have HV:Hid (val M=val la / 2 ^ sh):=by
     show val M=_
     refine shiftDown_val la sk by' sh R (val M) (by rw [Hn.out];omega) Hsh.out d1 ?_ hR;have e1:(la.drop sk).take k=la.drop sk:=qB (by rw [qF,Hn.out];omega)
     have e2:seg M 0 k=M:=by rw [<-hML];exact seg_all M
     rw [e1,e2] at hinv;exact hinv
    have hs3:=hrM.segAll;clear hinv hML hlow
    go_wp2_with fail
    refine (trim_n _ M _ _ _ HML.out (qZ _) (by unfold maxLen;omega) hs3).mono ?_;rintro e w4 ⟨rfl,rfl⟩
    go_wp2_with fail
    go_ret
    exact ⟨_,rfl,(num_trim hs3 hdM (by rw [HML.out];unfold maxLen;omega)).cast HV.out,he1.only hO (qZ _)⟩
 ·have HV:Hid (0=val la / 2 ^ sh):=by
   show _=_
   symm
   apply Nat.div_eq_of_lt
   refine qK (val_lt d1) ?_;rw [Hn.out,Hsh.out,B64_pow,<-Nat.pow_mul];exact qY (by omega) (by omega)
  go_enter Tryz.func131,Tryz.ntmps131
  go_wp2_with fail
  go_ret
  exact ⟨_,rfl,(Num.nil _).cast HV.out,Ext.refl _⟩
theorem bitLen_log (x:Nat) (h0:0<x) (h:x<2 ^ 64):Lib.bitLen x=Nat.log2 x+1:=by
 have h1:2 ^ Nat.log2 x<=x:=Nat.log2_self_le (by omega);have h2:x<2 ^ (Nat.log2 x+1):=Nat.lt_log2_self;rw [Lib.bitLen_shift (Nat.log2 x) x h1 h]
 have e:x / 2 ^ Nat.log2 x=1:=by
  rw [jK] at h2;have hp:0<2 ^ Nat.log2 x:=jF (by omega);have h3:1<=x / 2 ^ Nat.log2 x:=(Nat.le_div_iff_mul_le hp).2 (by omega);have h4:x / 2 ^ Nat.log2 x<2:=(jO hp).2 (by omega);omega
 rw [e]
 rfl
theorem lz_any (y:Nat) (h0:0<y) (hy:y<B64):∃ s:Nat,s<=63/\9223372036854775808<=y*2 ^ s/\y*2 ^ s<B64 /\
  ∀ w:World,Calls Tryz.prog 157 #[.int .u64 y] w fun e w'=>e=.returned (.int .i64 s)/\w=w':=by
 have h1:2 ^ Nat.log2 y<=y:=Nat.log2_self_le (by omega);have h2:y<2 ^ (Nat.log2 y+1):=Nat.lt_log2_self
 have h3:Nat.log2 y<64:=by
  apply Nat.lt_of_not_le
  intro h;have:(2:Nat) ^ 64<=2 ^ Nat.log2 y:=qY (by omega) h;rw [B64_pow] at hy;omega
 refine ⟨63-Nat.log2 y,by omega,?_,?_,fun w=>?_⟩
 ·have:2 ^ Nat.log2 y*2 ^ (63-Nat.log2 y)<=y*2 ^ (63-Nat.log2 y):=qS _ h1
  rw [<-jS,show Nat.log2 y+(63-Nat.log2 y)=63 from by omega] at this;exact this
 ·have:y*2 ^ (63-Nat.log2 y)<2 ^ (Nat.log2 y+1)*2 ^ (63-Nat.log2 y):=Nat.mul_lt_mul_of_pos_right h2 (jF (by omega))
  rw [<-jS,show Nat.log2 y+1+(63-Nat.log2 y)=64 from by omega] at this;exact this
 ·refine (Tryz.bits_LeadingZeros64 (y:Int) w (by omega) (by rw [B64_eq] at hy;omega)).mono ?_
  rintro e w' ⟨rfl,rfl⟩;refine ⟨?_,rfl⟩;rw [yT,bitLen_log y h0 hy]
  congr 2
  omega
structure Guess (b u u1 v1 v0 q r:Nat):Prop where
 sum:q*v1+r=u
 ge:(u*b+u1) / (v1*b+v0)<=q
theorem guess_cmp {b u u1 v1 v0 q r:Nat} (h:q*v1+r=u):q*(v1*b+v0)<=u*b+u1↔q*v0<=b*r+u1:=by
 subst h
 have e1:q*(v1*b+v0)=q*v1*b+q*v0:=by rw [qN,jW]
 have e2:(q*v1+r)*b=q*v1*b+b*r:=by rw [yV,jU r]
 rw [e1,e2];omega
theorem Guess.start {b u u1 v1 v0:Nat} (hb:u1<b) (hv1:0<v1):Guess b u u1 v1 v0 (u / v1) (u-u / v1*v1):=by
 have h1:u / v1*v1<=u:=Nat.div_mul_le_self _ _;refine ⟨by omega,?_⟩
 have hv:0<v1*b+v0:=by
  have:0<v1*b:=Nat.mul_pos hv1 (by omega);omega
 apply Nat.le_of_lt_succ
 rw [jO hv]
 have h2:u<(u / v1+1)*v1:=by
  have:=Nat.div_add_mod u v1;have:=Nat.mod_lt u hv1;rw [yV,Nat.one_mul,jU (u / v1)];omega
 have h3:(u+1)*b<=(u / v1+1)*v1*b:=qS _ h2;rw [Nat.succ_eq_add_one,qN,<-jW];rw [yV,Nat.one_mul] at h3;omega
theorem Guess.down {b u u1 v1 v0 q r:Nat} (g:Guess b u u1 v1 v0 q r) (hu:u<v1*b+v0) (hu1:u1<b) (hbig:b<=q\/b*r+u1<q*v0) :
  0<q/\Guess b u u1 v1 v0 (q-1) (r+v1):=by
 have hv:0<v1*b+v0:=by omega
 have hlt:(u*b+u1) / (v1*b+v0)<q:=by
  rw [jO hv]
  rcases hbig with h | h
  ·have h1:b*(v1*b+v0)<=q*(v1*b+v0):=qS _ h
   have h2:b*(u+1)<=b*(v1*b+v0):=jX _ hu;rw [qN,Nat.mul_one,jU b u] at h2;omega
  ·apply Nat.lt_of_not_le
   intro h1;have:=(guess_cmp (b:=b) (u1:=u1) (v0:=v0) g.sum).1 h1;omega
 have hq0:0<q:=yQ (qI _) hlt;refine ⟨hq0,?_,Nat.le_sub_one_of_lt hlt⟩;have h1:=g.sum;obtain ⟨k,rfl⟩:∃ k,q=k+1:=⟨q-1,by omega⟩;rw [Nat.add_sub_cancel];rw [yV,Nat.one_mul] at h1;omega
theorem Guess.done {b u u1 v1 v0 q r:Nat} (g:Guess b u u1 v1 v0 q r) (hv:0<v1*b+v0) (hsm:q*v0<=b*r+u1):q=(u*b+u1) / (v1*b+v0):=by
 have h1:=(guess_cmp (b:=b) (u1:=u1) (v0:=v0) g.sum).2 hsm;have h2:=(Nat.le_div_iff_mul_le hv).2 h1;exact Nat.le_antisymm h2 g.ge
theorem hid {p:Prop} (h:p):Hid p:=h
theorem castPow (s:Nat):((2:Int) ^ s)=((2 ^ s:Nat):Int):=by simp [Int.natCast_pow]
theorem halves (Y:Nat) (hY:Y<B64):∃ a c:Nat,a<4294967296/\c<4294967296/\Hid (a*4294967296+c=Y)/\(Y:Int) / 4294967296=(a:Int)/\bits .and .u64 (Y:Int) 4294967295=(c:Int):=by
 rw [B64_eq] at hY;have e:=bits_and_u64_nat Y 4294967295 hY (by omega);have e2:Y &&& 4294967295=Y % 4294967296:=Nat.and_two_pow_sub_one_eq_mod Y 32;rw [e2] at e;refine ⟨Y / 4294967296,Y % 4294967296,by omega,by omega,?_,by omega,e⟩
 show _=_
 omega
theorem div64_norm (hi lo y s:Nat) (hlt:hi<y) (hlo:lo<B64) (hs:s<=63) (hys:y*2 ^ s<B64):∃ Y H l1 U T:Nat,Y<B64/\U<Y/\T<B64/\Hid (Y=y*2 ^ s)/\Hid (U*B64+T=(hi*B64+lo)*2 ^ s) /\
  IntKind.u64.wrap ((y:Int)*2 ^ s)=(Y:Int)/\IntKind.u64.wrap ((hi:Int)*2 ^ s)=(H:Int)/\(lo:Int) / 2 ^ (64-s)=(l1:Int)/\bits .or .u64 (H:Int) (l1:Int)=(U:Int)/\IntKind.u64.wrap ((lo:Int)*2 ^ s)=(T:Int):=by
 have hsplit:B64=2 ^ s*2 ^ (64-s):=by rw [<-jS,B64_pow];congr 1;omega
 have hp:0<2 ^ s:=jF (by omega);have hp2:0<2 ^ (64-s):=jF (by omega)
 have hq:lo*2 ^ s / B64=lo / 2 ^ (64-s):=by rw [hsplit,jU lo,Nat.mul_div_mul_left _ _ hp]
 have hl1:lo / 2 ^ (64-s)<2 ^ s:=by rw [jO hp2,<-hsplit];exact hlo
 have hH:(hi+1)*2 ^ s<=y*2 ^ s:=qS _ hlt;rw [yV,Nat.one_mul] at hH;have hdm:=Nat.div_add_mod (lo*2 ^ s) B64;have hmB:lo*2 ^ s % B64<B64:=Nat.mod_lt _ B64_pos
 have wr:∀ x:Nat,IntKind.u64.wrap ((x:Int)*2 ^ s)=((x*2 ^ s % B64:Nat):Int):=by
  intro x;rw [yF,castPow,<-qP,B64_eq];omega
 refine ⟨y*2 ^ s,hi*2 ^ s,lo / 2 ^ (64-s),hi*2 ^ s+lo / 2 ^ (64-s),lo*2 ^ s % B64,hys,by omega,hmB,rfl,?_,?_,?_,?_,?_,?_⟩
 ·show _=_
  rw [<-hq,yV,yV,Nat.mul_right_comm hi B64];rw [jU B64] at hdm;omega
 ·rw [wr,Nat.mod_eq_of_lt hys]
 ·rw [wr,Nat.mod_eq_of_lt (by omega)]
 ·rw [castPow];exact (Int.natCast_ediv _ _).symm
 ·rw [bits_or_u64_nat _ _ (by rw [B64_eq] at hys;omega) (by rw [B64_eq] at hys;omega)]
  congr 1
  rw [jU hi,<-Nat.two_pow_add_eq_or_of_lt hl1]
 ·rw [wr]
theorem rem_ex (U u1 Q Y:Nat) (hY0:0<Y) (hY:Y<B64) (hQ:Q=(U*4294967296+u1) / Y):∃ A C N:Nat,A<=18446744069414584320/\N<Y/\Hid (U*4294967296+u1=Q*Y+N) /\
  IntKind.u64.wrap ((U:Int)*4294967296)=(A:Int)/\IntKind.u64.wrap ((Q:Int)*(Y:Int))=(C:Int)/\IntKind.u64.wrap ((A:Int)+(u1:Int)-(C:Int))=(N:Int):=by
 have h1:=Nat.div_add_mod (U*4294967296+u1) Y;have h2:=Nat.mod_lt (U*4294967296+u1) hY0;rw [<-hQ,jU] at h1;rw [B64_eq] at hY;generalize (U*4294967296+u1) % Y=N at *;refine ⟨U*4294967296 % 18446744073709551616,Q*Y % 18446744073709551616,N,by omega,h2,h1.symm,?_,?_,?_⟩
 ·rw [yF];omega
 ·rw [yF,<-qP];omega
 ·rw [yF]
  generalize Q*Y=QY at *;omega
theorem guess_ex (U u1 v1 v0:Nat) (hu1:u1<4294967296) (hv0:v0<4294967296) (hv1:v1<4294967296) (hv1b:2147483648<=v1) (hU:U<v1*4294967296+v0):∃ q m:Nat,m<=U/\U<m+v1/\q<=4294967297/\Hid (Guess 4294967296 U u1 v1 v0 q (U-m)) /\
  (U:Int) / (v1:Int)=(q:Int)/\(q:Int)*(v1:Int)=(m:Int):=by
 have hgs:=Guess.start (b:=4294967296) (u:=U) (u1:=u1) (v1:=v1) (v0:=v0) hu1 (by omega);refine ⟨U / v1,U / v1*v1,Nat.div_mul_le_self _ _,?_,?_,hgs,(Int.natCast_ediv _ _).symm,(qP _ _).symm⟩
 ·have:=Nat.div_add_mod U v1
  have:=Nat.mod_lt U (show 0<v1 by omega);rw [jU];omega
 ·apply Nat.le_of_lt_succ
  rw [jO (by omega)];omega
theorem guess_break {u u1 v1 v0 q r:Nat} (g:Guess 4294967296 u u1 v1 v0 (q-1) (r+v1)) (hv1:0<v1) (hv0:v0<4294967296) (hq:q<=4294967297) (hr:4294967296<=r+v1):q-1=(u*4294967296+u1) / (v1*4294967296+v0):=by
 refine g.done (by omega) ?_;have h1:(q-1)*v0<=4294967296*4294967295:=yS (by omega) (by omega);omega
theorem div_name (R s:Nat):∃ rr:Nat,(R:Int) / 2 ^ s=(rr:Int)/\Hid (rr=R / 2 ^ s):=⟨R / 2 ^ s,by rw [castPow];exact (Int.natCast_ediv _ _).symm,rfl⟩
theorem div64_ret {Q P rr R s hi lo y:Nat} {w:World} (h1:rr=R / 2 ^ s) (h2:Q*4294967296+P<B64) (h3:R / 2 ^ s<y/\hi*B64+lo=(Q*4294967296+P)*y+R / 2 ^ s) :
  ∃ q r:Nat,Ending.returned (.tuple #[.int .u64 ((Q:Int)*4294967296+(P:Int)),.int .u64 (rr:Int)])=.returned (.tuple #[.int .u64 q,.int .u64 r])/\w=w/\q<B64/\r<y/\hi*B64+lo=q*y+r:=by
 subst h1;exact ⟨Q*4294967296+P,R / 2 ^ s,by congr 3,rfl,h2,h3.1,h3.2⟩
theorem div64_lin' {b U u1 u0 QY N PY R:Nat} (h1:U*b+u1=QY+N) (h2:N*b+u0=PY+R):U*(b*b)+(u1*b+u0)=QY*b+PY+R:=by
 have h3:(U*b+u1)*b=(QY+N)*b:=by rw [h1]
 rw [yV,yV,jW] at h3;omega
theorem div64_lin {U u1 u0 QY N PY R:Nat} (h1:U*4294967296+u1=QY+N) (h2:N*4294967296+u0=PY+R):U*18446744073709551616+(u1*4294967296+u0)=QY*4294967296+PY+R:=div64_lin' h1 h2
theorem div64_end {hi lo y s Y U T u1 u0 Q N P R:Nat} (hY:Y=y*2 ^ s) (hU:U*B64+T=(hi*B64+lo)*2 ^ s) (hT:u1*4294967296+u0=T)
  (h1:U*4294967296+u1=Q*Y+N) (h2:N*4294967296+u0=P*Y+R) (hR:R<Y) :
  R / 2 ^ s<y/\hi*B64+lo=(Q*4294967296+P)*y+R / 2 ^ s:=by
 have hp:0<2 ^ s:=jF (by omega)
 have e:(hi*B64+lo)*2 ^ s=(Q*4294967296+P)*y*2 ^ s+R:=by
  rw [<-hU,<-hT,jW,<-hY,yV,Nat.mul_right_comm Q,B64_eq];exact div64_lin h1 h2
 constructor
 ·rw [jO hp,<-hY];exact hR
 ·have h3:(hi*B64+lo)*2 ^ s / 2 ^ s=((Q*4294967296+P)*y*2 ^ s+R) / 2 ^ s:=by rw [e]
  rw [Nat.mul_div_cancel _ hp,jU ((Q*4294967296+P)*y) (2 ^ s),Nat.mul_add_div hp] at h3;rw [h3]
theorem div64_long (hi lo y:Nat) (hlo:lo<B64) (hy:y<B64) (hlt:hi<y) (h0:0<hi) (w:World) :
  Calls Tryz.prog 156 #[.int .u64 hi,.int .u64 lo,.int .u64 y] w fun e w'=>∃ q r:Nat,e=.returned (.tuple #[.int .u64 q,.int .u64 r])/\w=w'/\q<B64/\r<y/\hi*B64+lo=q*y+r:=by
 obtain ⟨s,hs,hys1,hys2,hlz⟩:=lz_any y (by omega) hy;obtain ⟨Y,H,l1,U,T,hY,hU,hT,HY,HU,eY,eH,el1,eU,eT⟩:=div64_norm hi lo y s hlt hlo hs hys2;obtain ⟨v1,v0,hv1,hv0,HV,ev1,ev0⟩:=halves Y hY;obtain ⟨u1,u0,hu1,hu0,HT,eu1,eu0⟩:=halves T hT
 have hv1b:2147483648<=v1:=by have h1:=HV.out;have h2:=HY.out;omega
 have hYb:Y<=18446744073709551615:=by rw [B64_eq] at hY;omega
 have hb1:((hi:Int) == 0)=false:=by rw [qV];omega
 have hb2:((y:Int) == 0)=false:=by rw [qV];omega
 have h64:(0:Int)<=64-(s:Int):=by omega
 have Hlz:=hid hlz
 have hUV:U<v1*4294967296+v0:=by rw [HV.out];exact hU
 obtain ⟨q0,m0,hm0,hm1,hq0,Hg0,eq0,em0⟩:=guess_ex U u1 v1 v0 hu1 hv0 hv1 hv1b hUV
 have hUb:U<=18446744073709551615:=by omega
 have HhY:=hid hY;have HhU:=hid hUV;clear hlz hys1 hys2 hY hT hUV
 go_enter Tryz.func156,Tryz.ntmps156
 go_wp2_with fail
 refine (Hlz.out _).mono ?_;rintro e w' ⟨rfl,rfl⟩
 go_wp2_with fail
 go_loop [15,16] (fun qv rv=>∃ q r:Nat,qv=.int .u64 q/\rv=.int .u64 r/\r<4294967296/\q<=4294967297/\Guess 4294967296 U u1 v1 v0 q r) (fun qv _=>(intOf qv).toNat)
 case atStart=>exact ⟨q0,U-m0,rfl,by go_num,by omega,hq0,Hg0.out⟩
 case round =>
  clear eq0 em0 Hg0 hm0 hm1 hq0 eY eH el1 eU eT eu1 eu0 ev1 ev0 h64;obtain ⟨q,r,rfl,rfl,hr,hq,hg⟩:=hrel;have Hg:=hid hg;clear hg
  by_cases hbig:4294967296<=q\/4294967296*r+u1<q*v0
  ·obtain ⟨hqp,hg2⟩:=Hg.out.down HhU.out hu1 hbig
   obtain ⟨Q,hQ⟩:∃ Q,q-1=Q:=⟨_,rfl⟩;obtain ⟨R,hR⟩:∃ R,r+v1=R:=⟨_,rfl⟩
   have eQ:(q:Int)-1=(Q:Int):=by omega
   have eR:(r:Int)+(v1:Int)=(R:Int):=by omega
   have hRb:R<=8589934592:=by omega
   by_cases hbrk:4294967296<=R
   ·have hQd:Q=(U*4294967296+u1) / (v1*4294967296+v0):=by rw [<-hQ];exact guess_break hg2 (by omega) hv0 hq (by omega)
    rw [HV.out] at hQd;obtain ⟨A,C,N,hA,hN,HN,eA,eC,eN⟩:=rem_ex U u1 Q Y (by omega) HhY.out hQd
    have HQb:Hid (Q<4294967296):=by
     show Q<4294967296
     rw [hQd,jO (by omega)];have:=qS 4294967296 (show U+1<=Y from hU);omega
    have hNV:N<v1*4294967296+v0:=by rw [HV.out];exact hN
    obtain ⟨p0,k0,hk0,hk1,hp0,Hp0,ep0,ek0⟩:=guess_ex N u0 v1 v0 hu0 hv0 hv1 hv1b hNV
    have hNb:N<=18446744073709551615:=by omega
    have HhNY:Hid (N<Y):=hN;have HhN:=hid hNV
    have hbrk':(4294967296:Int)<=(R:Int):=by omega
    by_cases hq32:4294967296<=q
    ·have hq32':(4294967296:Int)<=(q:Int):=by omega
     clear hbig hQ hq32 hbrk hQd hNV hg2 hR hqp
     go_wp2_with fail
     go_loop [18,16] (fun qv rv=>∃ p r:Nat,qv=.int .u64 p/\rv=.int .u64 r/\r<4294967296/\p<=4294967297/\Guess 4294967296 N u0 v1 v0 p r) (fun qv _=>(intOf qv).toNat)
     case atStart=>exact ⟨p0,N-k0,rfl,by go_num,by omega,hp0,Hp0.out⟩
     case round =>
      clear ep0 ek0 Hp0 hk0 hk1 hp0 eA eC eN;obtain ⟨p,r',rfl,rfl,hr',hp,hg'⟩:=hrel;have Hg':=hid hg';clear hg'
      by_cases hbig':4294967296<=p\/4294967296*r'+u0<p*v0
      ·obtain ⟨hpp,hg2'⟩:=Hg'.out.down HhN.out hu0 hbig'
       obtain ⟨P,hP⟩:∃ P,p-1=P:=⟨_,rfl⟩;obtain ⟨R',hR'⟩:∃ R,r'+v1=R:=⟨_,rfl⟩
       have eP:(p:Int)-1=(P:Int):=by omega
       have eR':(r':Int)+(v1:Int)=(R':Int):=by omega
       have hR'b:R'<=8589934592:=by omega
       by_cases hbrk':4294967296<=R'
       ·have hPd:P=(N*4294967296+u0) / (v1*4294967296+v0):=by rw [<-hP];exact guess_break hg2' (by omega) hv0 hp (by omega)
        rw [HV.out] at hPd;obtain ⟨F,G,R2,hF,hR2,HR2,eF,eG,eR2⟩:=rem_ex N u0 P Y (by omega) HhY.out hPd
        have hPb:P<4294967296:=by
         rw [hPd,jO (by omega)];have:=qS 4294967296 (show N+1<=Y from HhNY.out);omega
        have hQP:Q*4294967296+P<B64:=by have:=HQb.out;rw [B64_eq];omega
        obtain ⟨rr,er,Hrr⟩:=div_name R2 s
        have hR2b:R2<=18446744073709551615:=by omega
        have hQb':(Q:Int)<=4294967295:=by have:=HQb.out;omega
        have hPb':(P:Int)<=4294967295:=by omega
        have hbrk2:(4294967296:Int)<=(R':Int):=by omega
        by_cases hp32:4294967296<=p
        ·have hp32':(4294967296:Int)<=(p:Int):=by omega
         clear hPd hg2' hR' hbig' hP hp32 hbrk' hpp
         go_wp2_with fail
         go_ret2
         exact div64_ret Hrr.out hQP (div64_end HY.out HU.out HT.out HN.out HR2.out hR2)
        ·have hsm:4294967296*r'+u0<p*v0:=hbig'.resolve_left hp32
         have hp32':¬ (4294967296:Int)<=(p:Int):=by omega
         have hm1:(p:Int)*(v0:Int)<=18446744073709551615:=by
          have:=yS (show p<=4294967296 by omega) (show v0<=4294967295 by omega);rw [<-qP];omega
         have hm2:(0:Int)<=(p:Int)*(v0:Int):=by rw [<-qP];omega
         have hsm':(4294967296:Int)*(r':Int)+(u0:Int)<(p:Int)*(v0:Int):=by rw [<-qP];omega
         clear hPd hg2' hR' hbig' hP hp32 hbrk' hpp hsm
         go_wp2_with fail
         go_ret2
         exact div64_ret Hrr.out hQP (div64_end HY.out HU.out HT.out HN.out HR2.out hR2)
       ·have hbrk2:¬ (4294967296:Int)<=(R':Int):=by omega
        have HgP:Hid (Guess 4294967296 N u0 v1 v0 P R'):=by rw [<-hP,<-hR'];exact hg2'
        by_cases hp32:4294967296<=p
        ·have hp32':(4294967296:Int)<=(p:Int):=by omega
         clear hg2' hR' hbig' hP hp32
         go_wp2_with fail
         go_round
         case rel=>exact ⟨P,R',rfl,rfl,by omega,by omega,HgP.out⟩
         case measure=>simp [intOf];omega
        ·have hsm:4294967296*r'+u0<p*v0:=hbig'.resolve_left hp32
         have hp32':¬ (4294967296:Int)<=(p:Int):=by omega
         have hm1:(p:Int)*(v0:Int)<=18446744073709551615:=by
          have:=yS (show p<=4294967296 by omega) (show v0<=4294967295 by omega);rw [<-qP];omega
         have hm2:(0:Int)<=(p:Int)*(v0:Int):=by rw [<-qP];omega
         have hsm':(4294967296:Int)*(r':Int)+(u0:Int)<(p:Int)*(v0:Int):=by rw [<-qP];omega
         clear hg2' hR' hbig' hP hp32 hsm
         go_wp2_with fail
         go_round
         case rel=>exact ⟨P,R',rfl,rfl,by omega,by omega,HgP.out⟩
         case measure=>simp [intOf];omega
      ·have hp32:¬ 4294967296<=p:=fun h=>hbig' (qM h)
       have hsm:p*v0<=4294967296*r'+u0:=yP fun h=>hbig' (qO h)
       obtain ⟨P,hP⟩:∃ P,p=P:=⟨_,rfl⟩;subst hP;have hPd:p=(N*4294967296+u0) / (v1*4294967296+v0):=Hg'.out.done (by omega) hsm;obtain ⟨P,rfl⟩:∃ P,P=p:=⟨_,rfl⟩;rw [HV.out] at hPd;obtain ⟨F,G,R2,hF,hR2,HR2,eF,eG,eR2⟩:=rem_ex N u0 P Y (by omega) HhY.out hPd
       have hPb:P<4294967296:=by
        rw [hPd,jO (by omega)];have:=qS 4294967296 (show N+1<=Y from HhNY.out);omega
       have hQP:Q*4294967296+P<B64:=by have:=HQb.out;rw [B64_eq];omega
       obtain ⟨rr,er,Hrr⟩:=div_name R2 s
       have hR2b:R2<=18446744073709551615:=by omega
       have hQb':(Q:Int)<=4294967295:=by have:=HQb.out;omega
       have hPb':(P:Int)<=4294967295:=by omega
       have hp32':¬ (4294967296:Int)<=(P:Int):=by omega
       have hm1:(P:Int)*(v0:Int)<=18446744073709551615:=by
        have:=yS (show P<=4294967296 by omega) (show v0<=4294967295 by omega);rw [<-qP];omega
       have hm2:(0:Int)<=(P:Int)*(v0:Int):=by rw [<-qP];omega
       have hsm':¬ (4294967296:Int)*(r':Int)+(u0:Int)<(P:Int)*(v0:Int):=by rw [<-qP];omega
       clear hPd hbig' hp32 hsm
       go_wp2_with fail
       go_ret2
       exact div64_ret Hrr.out hQP (div64_end HY.out HU.out HT.out HN.out HR2.out hR2)
    ·have hsm:4294967296*r+u1<q*v0:=hbig.resolve_left hq32
     have hq32':¬ (4294967296:Int)<=(q:Int):=by omega
     have hm1:(q:Int)*(v0:Int)<=18446744073709551615:=by
      have:=yS (show q<=4294967296 by omega) (show v0<=4294967295 by omega);rw [<-qP];omega
     have hm2:(0:Int)<=(q:Int)*(v0:Int):=by rw [<-qP];omega
     have hsm':(4294967296:Int)*(r:Int)+(u1:Int)<(q:Int)*(v0:Int):=by rw [<-qP];omega
     clear hbig hQ hq32 hbrk hQd hNV hg2 hR hqp hsm
     go_wp2_with fail
     go_loop [18,16] (fun qv rv=>∃ p r:Nat,qv=.int .u64 p/\rv=.int .u64 r/\r<4294967296/\p<=4294967297/\Guess 4294967296 N u0 v1 v0 p r) (fun qv _=>(intOf qv).toNat)
     case atStart=>exact ⟨p0,N-k0,rfl,by go_num,by omega,hp0,Hp0.out⟩
     case round =>
      clear ep0 ek0 Hp0 hk0 hk1 hp0 eA eC eN;obtain ⟨p,r',rfl,rfl,hr',hp,hg'⟩:=hrel;have Hg':=hid hg';clear hg'
      by_cases hbig':4294967296<=p\/4294967296*r'+u0<p*v0
      ·obtain ⟨hpp,hg2'⟩:=Hg'.out.down HhN.out hu0 hbig'
       obtain ⟨P,hP⟩:∃ P,p-1=P:=⟨_,rfl⟩;obtain ⟨R',hR'⟩:∃ R,r'+v1=R:=⟨_,rfl⟩
       have eP:(p:Int)-1=(P:Int):=by omega
       have eR':(r':Int)+(v1:Int)=(R':Int):=by omega
       have hR'b:R'<=8589934592:=by omega
       by_cases hbrk':4294967296<=R'
       ·have hPd:P=(N*4294967296+u0) / (v1*4294967296+v0):=by rw [<-hP];exact guess_break hg2' (by omega) hv0 hp (by omega)
        rw [HV.out] at hPd;obtain ⟨F,G,R2,hF,hR2,HR2,eF,eG,eR2⟩:=rem_ex N u0 P Y (by omega) HhY.out hPd
        have hPb:P<4294967296:=by
         rw [hPd,jO (by omega)];have:=qS 4294967296 (show N+1<=Y from HhNY.out);omega
        have hQP:Q*4294967296+P<B64:=by have:=HQb.out;rw [B64_eq];omega
        obtain ⟨rr,er,Hrr⟩:=div_name R2 s
        have hR2b:R2<=18446744073709551615:=by omega
        have hQb':(Q:Int)<=4294967295:=by have:=HQb.out;omega
        have hPb':(P:Int)<=4294967295:=by omega
        have hbrk2:(4294967296:Int)<=(R':Int):=by omega
        by_cases hp32:4294967296<=p
        ·have hp32':(4294967296:Int)<=(p:Int):=by omega
         clear hPd hg2' hR' hbig' hP hp32 hbrk' hpp
         go_wp2_with fail
         go_ret2
         exact div64_ret Hrr.out hQP (div64_end HY.out HU.out HT.out HN.out HR2.out hR2)
        ·have hsm:4294967296*r'+u0<p*v0:=hbig'.resolve_left hp32
         have hp32':¬ (4294967296:Int)<=(p:Int):=by omega
         have hm1:(p:Int)*(v0:Int)<=18446744073709551615:=by
          have:=yS (show p<=4294967296 by omega) (show v0<=4294967295 by omega);rw [<-qP];omega
         have hm2:(0:Int)<=(p:Int)*(v0:Int):=by rw [<-qP];omega
         have hsm':(4294967296:Int)*(r':Int)+(u0:Int)<(p:Int)*(v0:Int):=by rw [<-qP];omega
         clear hPd hg2' hR' hbig' hP hp32 hbrk' hpp hsm
         go_wp2_with fail
         go_ret2
         exact div64_ret Hrr.out hQP (div64_end HY.out HU.out HT.out HN.out HR2.out hR2)
       ·have hbrk2:¬ (4294967296:Int)<=(R':Int):=by omega
        have HgP:Hid (Guess 4294967296 N u0 v1 v0 P R'):=by rw [<-hP,<-hR'];exact hg2'
        by_cases hp32:4294967296<=p
        ·have hp32':(4294967296:Int)<=(p:Int):=by omega
         clear hg2' hR' hbig' hP hp32
         go_wp2_with fail
         go_round
         case rel=>exact ⟨P,R',rfl,rfl,by omega,by omega,HgP.out⟩
         case measure=>simp [intOf];omega
        ·have hsm:4294967296*r'+u0<p*v0:=hbig'.resolve_left hp32
         have hp32':¬ (4294967296:Int)<=(p:Int):=by omega
         have hm1:(p:Int)*(v0:Int)<=18446744073709551615:=by
          have:=yS (show p<=4294967296 by omega) (show v0<=4294967295 by omega);rw [<-qP];omega
         have hm2:(0:Int)<=(p:Int)*(v0:Int):=by rw [<-qP];omega
         have hsm':(4294967296:Int)*(r':Int)+(u0:Int)<(p:Int)*(v0:Int):=by rw [<-qP];omega
         clear hg2' hR' hbig' hP hp32 hsm
         go_wp2_with fail
         go_round
         case rel=>exact ⟨P,R',rfl,rfl,by omega,by omega,HgP.out⟩
         case measure=>simp [intOf];omega
      ·have hp32:¬ 4294967296<=p:=fun h=>hbig' (qM h)
       have hsm:p*v0<=4294967296*r'+u0:=yP fun h=>hbig' (qO h)
       obtain ⟨P,hP⟩:∃ P,p=P:=⟨_,rfl⟩;subst hP;have hPd:p=(N*4294967296+u0) / (v1*4294967296+v0):=Hg'.out.done (by omega) hsm;obtain ⟨P,rfl⟩:∃ P,P=p:=⟨_,rfl⟩;rw [HV.out] at hPd;obtain ⟨F,G,R2,hF,hR2,HR2,eF,eG,eR2⟩:=rem_ex N u0 P Y (by omega) HhY.out hPd
       have hPb:P<4294967296:=by
        rw [hPd,jO (by omega)];have:=qS 4294967296 (show N+1<=Y from HhNY.out);omega
       have hQP:Q*4294967296+P<B64:=by have:=HQb.out;rw [B64_eq];omega
       obtain ⟨rr,er,Hrr⟩:=div_name R2 s
       have hR2b:R2<=18446744073709551615:=by omega
       have hQb':(Q:Int)<=4294967295:=by have:=HQb.out;omega
       have hPb':(P:Int)<=4294967295:=by omega
       have hp32':¬ (4294967296:Int)<=(P:Int):=by omega
       have hm1:(P:Int)*(v0:Int)<=18446744073709551615:=by
        have:=yS (show P<=4294967296 by omega) (show v0<=4294967295 by omega);rw [<-qP];omega
       have hm2:(0:Int)<=(P:Int)*(v0:Int):=by rw [<-qP];omega
       have hsm':¬ (4294967296:Int)*(r':Int)+(u0:Int)<(P:Int)*(v0:Int):=by rw [<-qP];omega
       clear hPd hbig' hp32 hsm
       go_wp2_with fail
       go_ret2
       exact div64_ret Hrr.out hQP (div64_end HY.out HU.out HT.out HN.out HR2.out hR2)
   ·have hbrk':¬ (4294967296:Int)<=(R:Int):=by omega
    have HgQ:Hid (Guess 4294967296 U u1 v1 v0 Q R):=by rw [<-hQ,<-hR];exact hg2
    by_cases hq32:4294967296<=q
    ·have hq32':(4294967296:Int)<=(q:Int):=by omega
     clear hbig hQ hq32 hg2 hR
     go_wp2_with fail
     go_round
     case rel=>exact ⟨Q,R,rfl,rfl,by omega,by omega,HgQ.out⟩
     case measure=>simp [intOf];omega
    ·have hsm:4294967296*r+u1<q*v0:=hbig.resolve_left hq32
     have hq32':¬ (4294967296:Int)<=(q:Int):=by omega
     have hm1:(q:Int)*(v0:Int)<=18446744073709551615:=by
      have:=yS (show q<=4294967296 by omega) (show v0<=4294967295 by omega);rw [<-qP];omega
     have hm2:(0:Int)<=(q:Int)*(v0:Int):=by rw [<-qP];omega
     have hsm':(4294967296:Int)*(r:Int)+(u1:Int)<(q:Int)*(v0:Int):=by rw [<-qP];omega
     clear hbig hQ hq32 hg2 hR hsm
     go_wp2_with fail
     go_round
     case rel=>exact ⟨Q,R,rfl,rfl,by omega,by omega,HgQ.out⟩
     case measure=>simp [intOf];omega
  ·have hq32:¬ 4294967296<=q:=fun h=>hbig (qM h)
   have hsm:q*v0<=4294967296*r+u1:=yP fun h=>hbig (qO h)
   have hQd:q=(U*4294967296+u1) / (v1*4294967296+v0):=Hg.out.done (by omega) hsm;obtain ⟨Q,rfl⟩:∃ Q,Q=q:=⟨_,rfl⟩;rw [HV.out] at hQd;obtain ⟨A,C,N,hA,hN,HN,eA,eC,eN⟩:=rem_ex U u1 Q Y (by omega) HhY.out hQd
   have HQb:Hid (Q<4294967296):=by
    show Q<4294967296
    rw [hQd,jO (by omega)];have:=qS 4294967296 (show U+1<=Y from hU);omega
   have hNV:N<v1*4294967296+v0:=by rw [HV.out];exact hN
   obtain ⟨p0,k0,hk0,hk1,hp0,Hp0,ep0,ek0⟩:=guess_ex N u0 v1 v0 hu0 hv0 hv1 hv1b hNV
   have hNb:N<=18446744073709551615:=by omega
   have HhNY:Hid (N<Y):=hN;have HhN:=hid hNV
   have hq32':¬ (4294967296:Int)<=(Q:Int):=by omega
   have hm1:(Q:Int)*(v0:Int)<=18446744073709551615:=by
    have:=yS (show Q<=4294967296 by omega) (show v0<=4294967295 by omega);rw [<-qP];omega
   have hm2:(0:Int)<=(Q:Int)*(v0:Int):=by rw [<-qP];omega
   have hsm':¬ (4294967296:Int)*(r:Int)+(u1:Int)<(Q:Int)*(v0:Int):=by rw [<-qP];omega
   clear hbig hq32 hQd hNV hsm
   go_wp2_with fail
   go_loop [18,16] (fun qv rv=>∃ p r:Nat,qv=.int .u64 p/\rv=.int .u64 r/\r<4294967296/\p<=4294967297/\Guess 4294967296 N u0 v1 v0 p r) (fun qv _=>(intOf qv).toNat)
   case atStart=>exact ⟨p0,N-k0,rfl,by go_num,by omega,hp0,Hp0.out⟩
   case round =>
    clear ep0 ek0 Hp0 hk0 hk1 hp0 eA eC eN;obtain ⟨p,r',rfl,rfl,hr',hp,hg'⟩:=hrel;have Hg':=hid hg';clear hg'
    by_cases hbig':4294967296<=p\/4294967296*r'+u0<p*v0
    ·obtain ⟨hpp,hg2'⟩:=Hg'.out.down HhN.out hu0 hbig'
     obtain ⟨P,hP⟩:∃ P,p-1=P:=⟨_,rfl⟩;obtain ⟨R',hR'⟩:∃ R,r'+v1=R:=⟨_,rfl⟩
     have eP:(p:Int)-1=(P:Int):=by omega
     have eR':(r':Int)+(v1:Int)=(R':Int):=by omega
     have hR'b:R'<=8589934592:=by omega
     by_cases hbrk':4294967296<=R'
     ·have hPd:P=(N*4294967296+u0) / (v1*4294967296+v0):=by rw [<-hP];exact guess_break hg2' (by omega) hv0 hp (by omega)
      rw [HV.out] at hPd;obtain ⟨F,G,R2,hF,hR2,HR2,eF,eG,eR2⟩:=rem_ex N u0 P Y (by omega) HhY.out hPd
      have hPb:P<4294967296:=by
       rw [hPd,jO (by omega)];have:=qS 4294967296 (show N+1<=Y from HhNY.out);omega
      have hQP:Q*4294967296+P<B64:=by have:=HQb.out;rw [B64_eq];omega
      obtain ⟨rr,er,Hrr⟩:=div_name R2 s
      have hR2b:R2<=18446744073709551615:=by omega
      have hQb':(Q:Int)<=4294967295:=by have:=HQb.out;omega
      have hPb':(P:Int)<=4294967295:=by omega
      have hbrk2:(4294967296:Int)<=(R':Int):=by omega
      by_cases hp32:4294967296<=p
      ·have hp32':(4294967296:Int)<=(p:Int):=by omega
       clear hPd hg2' hR' hbig' hP hp32 hbrk' hpp
       go_wp2_with fail
       go_ret2
       exact div64_ret Hrr.out hQP (div64_end HY.out HU.out HT.out HN.out HR2.out hR2)
      ·have hsm:4294967296*r'+u0<p*v0:=hbig'.resolve_left hp32
       have hp32':¬ (4294967296:Int)<=(p:Int):=by omega
       have hm1:(p:Int)*(v0:Int)<=18446744073709551615:=by
        have:=yS (show p<=4294967296 by omega) (show v0<=4294967295 by omega);rw [<-qP];omega
       have hm2:(0:Int)<=(p:Int)*(v0:Int):=by rw [<-qP];omega
       have hsm':(4294967296:Int)*(r':Int)+(u0:Int)<(p:Int)*(v0:Int):=by rw [<-qP];omega
       clear hPd hg2' hR' hbig' hP hp32 hbrk' hpp hsm
       go_wp2_with fail
       go_ret2
       exact div64_ret Hrr.out hQP (div64_end HY.out HU.out HT.out HN.out HR2.out hR2)
     ·have hbrk2:¬ (4294967296:Int)<=(R':Int):=by omega
      have HgP:Hid (Guess 4294967296 N u0 v1 v0 P R'):=by rw [<-hP,<-hR'];exact hg2'
      by_cases hp32:4294967296<=p
      ·have hp32':(4294967296:Int)<=(p:Int):=by omega
       clear hg2' hR' hbig' hP hp32
       go_wp2_with fail
       go_round
       case rel=>exact ⟨P,R',rfl,rfl,by omega,by omega,HgP.out⟩
       case measure=>simp [intOf];omega
      ·have hsm:4294967296*r'+u0<p*v0:=hbig'.resolve_left hp32
       have hp32':¬ (4294967296:Int)<=(p:Int):=by omega
       have hm1:(p:Int)*(v0:Int)<=18446744073709551615:=by
        have:=yS (show p<=4294967296 by omega) (show v0<=4294967295 by omega);rw [<-qP];omega
       have hm2:(0:Int)<=(p:Int)*(v0:Int):=by rw [<-qP];omega
       have hsm':(4294967296:Int)*(r':Int)+(u0:Int)<(p:Int)*(v0:Int):=by rw [<-qP];omega
       clear hg2' hR' hbig' hP hp32 hsm
       go_wp2_with fail
       go_round
       case rel=>exact ⟨P,R',rfl,rfl,by omega,by omega,HgP.out⟩
       case measure=>simp [intOf];omega
    ·have hp32:¬ 4294967296<=p:=fun h=>hbig' (qM h)
     have hsm:p*v0<=4294967296*r'+u0:=yP fun h=>hbig' (qO h)
     obtain ⟨P,hP⟩:∃ P,p=P:=⟨_,rfl⟩;subst hP;have hPd:p=(N*4294967296+u0) / (v1*4294967296+v0):=Hg'.out.done (by omega) hsm;obtain ⟨P,rfl⟩:∃ P,P=p:=⟨_,rfl⟩;rw [HV.out] at hPd;obtain ⟨F,G,R2,hF,hR2,HR2,eF,eG,eR2⟩:=rem_ex N u0 P Y (by omega) HhY.out hPd
     have hPb:P<4294967296:=by
      rw [hPd,jO (by omega)];have:=qS 4294967296 (show N+1<=Y from HhNY.out);omega
     have hQP:Q*4294967296+P<B64:=by have:=HQb.out;rw [B64_eq];omega
     obtain ⟨rr,er,Hrr⟩:=div_name R2 s
     have hR2b:R2<=18446744073709551615:=by omega
     have hQb':(Q:Int)<=4294967295:=by have:=HQb.out;omega
     have hPb':(P:Int)<=4294967295:=by omega
     have hp32':¬ (4294967296:Int)<=(P:Int):=by omega
     have hm1:(P:Int)*(v0:Int)<=18446744073709551615:=by
      have:=yS (show P<=4294967296 by omega) (show v0<=4294967295 by omega);rw [<-qP];omega
     have hm2:(0:Int)<=(P:Int)*(v0:Int):=by rw [<-qP];omega
     have hsm':¬ (4294967296:Int)*(r':Int)+(u0:Int)<(P:Int)*(v0:Int):=by rw [<-qP];omega
     clear hPd hbig' hp32 hsm
     go_wp2_with fail
     go_ret2
     exact div64_ret Hrr.out hQP (div64_end HY.out HU.out HT.out HN.out HR2.out hR2)
theorem div64_short (lo y:Nat) (hlo:lo<B64) (_hy:y<B64) (h0:0<y) (w:World) :
  Calls Tryz.prog 156 #[.int .u64 0,.int .u64 lo,.int .u64 y] w fun e w'=>∃ q r:Nat,e=.returned (.tuple #[.int .u64 q,.int .u64 r])/\(∃ n,w'=w.drewN n)/\q=lo / y/\r=lo % y:=by
 obtain ⟨q,hq⟩:∃ q,lo / y=q:=⟨_,rfl⟩;obtain ⟨r,hr⟩:∃ r,lo % y=r:=⟨_,rfl⟩
 have eq1:(lo:Int) / (y:Int)=(q:Int):=by rw [<-hq];exact (Int.natCast_ediv _ _).symm
 have eq2:(lo:Int) % (y:Int)=(r:Int):=by rw [<-hr];exact (Int.natCast_emod _ _).symm
 have hqb:q<=18446744073709551615:=by
  have:=Nat.div_le_self lo y;rw [B64_eq] at hlo;omega
 have Hq:=hid hq;have Hr:=hid hr;clear hq hr
 have hb2:((y:Int) == 0)=false:=by rw [qV];omega
 have hb3:¬ ((y:Int)<=0):=by omega
 have hb4:(1:Int)<=(y:Int):=by omega
 have hlo':lo<=18446744073709551615:=by rw [B64_eq] at hlo;omega
 go_enter Tryz.func156,Tryz.ntmps156
 go_wp2_with fail
 go_quiet (fail)
 go_wp2_with fail
 go_ret2
 exact ⟨q,r,by rw [<-eq2];rfl,⟨_,rfl⟩,Hq.out.symm,Hr.out.symm⟩
theorem div64_any (hi lo y:Nat) (hlo:lo<B64) (hy:y<B64) (hlt:hi<y) (w:World) :
  Calls Tryz.prog 156 #[.int .u64 hi,.int .u64 lo,.int .u64 y] w fun e w'=>∃ q r:Nat,e=.returned (.tuple #[.int .u64 q,.int .u64 r])/\(∃ n,w'=w.drewN n)/\q<B64/\r<y/\Hid (hi*B64+lo=q*y+r):=by
 by_cases h0:hi=0
 ·subst h0
  refine (div64_short lo y hlo hy (by omega) w).mono ?_;rintro e w' ⟨_,_,rfl,⟨n,rfl⟩,rfl,rfl⟩;refine ⟨lo / y,lo % y,rfl,⟨n,rfl⟩,yQ (Nat.div_le_self _ _) hlo,Nat.mod_lt _ (by omega),?_⟩
  show _=_
  have:=Nat.div_add_mod lo y;rw [jU (lo / y)];omega
 ·refine (div64_long hi lo y hlo hy hlt (by omega) w).mono ?_
  rintro e w' ⟨q,r,rfl,rfl,h1,h2,h3⟩;exact ⟨q,r,rfl,⟨0,rfl⟩,h1,h2,h3⟩
theorem drop_set_cons (M:List Nat) (j q:Nat) (h:j<M.length):(M.set j q).drop j=q :: M.drop (j+1):=by
 rw [List.drop_eq_getElem_cons (by rw [jV];exact h),List.getElem_set_self,List.drop_set];rw [qU (by omega)]
theorem drop_cons (l:List Nat) (j:Nat) (h:j<l.length):l.drop j=l.getD j 0 :: l.drop (j+1):=by
 rw [List.drop_eq_getElem_cons h,qQ,qX h]
 rfl
theorem divWord_step {M la:List Nat} {j y q r rest x:Nat} (hM:j<M.length) (hl:j<la.length) (hx:la.getD j 0=x) (hinv:val (M.drop (j+1))*y+rest=val (la.drop (j+1))) (hd:rest*B64+x=q*y+r) :
  val ((M.set j q).drop j)*y+r=val (la.drop j):=by
 rw [drop_set_cons M j q hM,drop_cons la j hl,hx,val,val,<-hinv,yV,qN,jW,jU B64 rest];omega
theorem divByWord_any (ao:Option Addr) (la:List Nat) (n c y:Nat) (w:World) (hn:la.length=n) (h1:Seg w ao la) (d1:Dig la) (_hc:n<=c) (hm:n<=1073741824) (hy:y<B64) (h0:0<y) :
  Calls Tryz.prog 147 #[.slice ao n c,.int .u64 y] w fun e w'=>∃ (v:Value) (r:Nat),e=.returned (.tuple #[v,.int .u64 r])/\Num w' v (val la / y)/\r=val la % y/\Ext w w':=by
 have Hn:Hid (la.length=n):=hn;clear hn
 go_enter Tryz.func147,Tryz.ntmps147
 go_wp2_with (at_make;refine wpList_make_row _ rfl _ _ rfl _ _ _ _ n rfl rfl (by omega) (by omega) (by omega) ?_;intro w1 hr1 he1 hz1)
 go_loopw [7,8] (fun rv i wr=>∃ (k rest:Nat) (M:List Nat),k<=n/\i=.int .i64 ((k:Int)-1)/\rv=.int .u64 rest/\rest<y/\Row wr w.heap.size M/\Dig M/\M.length=n/\Below w.heap.size w wr/\val (M.drop k)*y+rest=val (la.drop k))
  (fun _ i _=>(intOf i+1).toNat)
 case atStart=>exact ⟨n,0,_,qZ _,rfl,rfl,h0,hr1,Dig.replicate _,by simp,he1,by
  rw [yE (by simp),yE (by rw [Hn.out];exact qZ _)];simp [val]⟩
 case round =>
  obtain ⟨k,rest,M,hk,rfl,rfl,hrest,hrM,hdM,hML,hB,hinv⟩:=hrel;have HML:=hid hML;have Hinv:=hid hinv;clear hML hinv
  by_cases hp:0<k
  ·obtain ⟨j,rfl⟩:∃ j,k=j+1:=⟨k-1,by omega⟩
   rcases h1.ext hB with ⟨_,rfl⟩ | ⟨g,o,rfl,hg,hcell⟩
   ·have:=Hn.out;simp at this;omega
   have hcl:=hcell j (by rw [Hn.out];omega);have hdig:=d1.getD j;obtain ⟨x,hx⟩:∃ d,la.getD j 0=d:=⟨_,rfl⟩;rw [hx] at hcl hdig;have Hx:=hid hx;clear hx hcell
   have ej:((j+1:Nat):Int)-1=(j:Int):=by omega
   rw [ej];clear ej
   go_wp2_with fail
   refine (div64_any rest x y hdig hy hrest _).mono ?_;rintro e w2 ⟨q,r,rfl,⟨nd,rfl⟩,hq,hr,Hd⟩;have hcj:=hrM.cell j (by rw [HML.out];omega);have hfj:=hrM.frozen j
   go_wp2
   have hstep:=divWord_step (by rw [HML.out];omega) (by rw [Hn.out];omega) Hx.out Hinv.out Hd.out
   go_roundw
   case rel=>exact ⟨j,r,M.set j q,by omega,by go_num,rfl,hr,Row.set (w:=wr.drewN nd) hrM j q,hdM.set _ _ hq,by rw [jV];exact HML.out,yD (below_drewN hB nd) (qZ _) _,hstep⟩
   case measure=>simp [intOf]
  ·obtain rfl:k=0:=by omega
   have hs3:=hrM.segAll;have hv:=Hinv.out;rw [List.drop_zero,List.drop_zero] at hv
   have hdiv:val la / y=val M/\val la % y=rest:=by
    rw [<-hv,jU];exact ⟨by rw [Nat.mul_add_div h0,Nat.div_eq_of_lt hrest,Nat.add_zero],by rw [Nat.mul_add_mod,Nat.mod_eq_of_lt hrest]⟩
   have Hdiv:=hid hdiv;clear hv hdiv
   go_wp2_with fail
   refine (trim_n _ M _ _ _ HML.out (qZ _) (by unfold maxLen;omega) hs3).mono ?_;rintro e w4 ⟨rfl,rfl⟩
   go_wp2_with fail
   go_ret2
   exact ⟨_,_,rfl,(num_trim hs3 hdM (by rw [HML.out];unfold maxLen;omega)).cast Hdiv.out.1.symm,Hdiv.out.2.symm,hB⟩
def gd (high mid low b1 b2:Nat):Nat:=if b1<=high then 18446744073709551615 else ((high*B64+mid)*B64+low) / (b1*B64+b2)
theorem lex_cmp {over under rest low m:Nat} (h:under+B64*over=m) (hu:under<B64) (hl:low<B64):(m<=B64*rest+low)↔(over<rest\/(over=rest/\under<=low)):=by
 subst h
 constructor
 ·intro h
  rcases Nat.lt_trichotomy over rest with h1 | h1 | h1
  ·exact qM h1
  ·subst h1;exact qO ⟨rfl,by omega⟩
  ·have:B64*(rest+1)<=B64*over:=jX _ h1
   rw [qN] at this;omega
 ·rintro (h1 | ⟨rfl,h1⟩)
  ·have:B64*(over+1)<=B64*rest:=jX _ h1
   rw [qN] at this;omega
  ·omega
theorem guess_break64 {u u1 v1 v0 q r:Nat} (g:Guess B64 u u1 v1 v0 (q-1) (r+v1)) (hv1:0<v1) (hv0:v0<B64) (hq:q<=B64) (hr:B64<=r+v1):q-1=(u*B64+u1) / (v1*B64+v0):=by
 refine g.done (Nat.add_pos_left (Nat.mul_pos hv1 B64_pos) _) ?_;have h1:(q-1)*v0<=B64*B64:=yS (by omega) (by omega);have h2:B64*B64<=B64*(r+v1):=jX _ hr;omega
theorem guessDigit_any (high mid low b1 b2:Nat) (_h1:high<B64) (h2:mid<B64) (h3:low<B64) (h4:b1<B64) (h5:b2<B64) (hb:0<b1) (w:World) :
  Calls Tryz.prog 165 #[.int .u64 high,.int .u64 mid,.int .u64 low,.int .u64 b1,.int .u64 b2] w fun e w'=>e=.returned (.int .u64 (gd high mid low b1 b2:Nat))/\∃ m,w'=w.drewN m:=by
 by_cases hge:b1<=high
 ·have He:Hid (gd high mid low b1 b2=18446744073709551615):=by show _=_;unfold gd;rw [qU hge]
  go_enter Tryz.func165,Tryz.ntmps165
  go_wp2_with fail
  go_ret
  exact ⟨by rw [He.out];rfl,0,rfl⟩
 ·have He:Hid (gd high mid low b1 b2=((high*B64+mid)*B64+low) / (b1*B64+b2)):=by show _=_;unfold gd;rw [qE hge]
  have hlt:high<b1:=by omega
  clear hge
  go_enter Tryz.func165,Tryz.ntmps165
  go_wp2_with fail
  refine (div64_any high mid b1 h2 h4 hlt _).mono ?_;rintro e w2 ⟨g0,r0,rfl,⟨nd,hw2⟩,hg0,hr0,Hd⟩;have Hw2:=hid hw2;clear hw2
  have hg:Guess B64 (high*B64+mid) low b1 b2 g0 r0:=by
   have hh:=Guess.start (b:=B64) (u:=high*B64+mid) (u1:=low) (v1:=b1) (v0:=b2) h3 hb
   have e1:(high*B64+mid) / b1=g0:=by rw [Hd.out,jU,Nat.mul_add_div hb,Nat.div_eq_of_lt hr0,Nat.add_zero]
   have e2:high*B64+mid-g0*b1=r0:=by have:=Hd.out;omega
   rw [e1,e2] at hh;exact hh
  have Hg0:=hid hg
  have HU:Hid (high*B64+mid<b1*B64+b2):=by
   show _<_
   have:=qS B64 (show high+1<=b1 from hlt);rw [yV] at this;omega
  clear hg
  go_wp2_with fail
  go_loop [11,12] (fun gv rv=>∃ g r:Nat,gv=.int .u64 g/\rv=.int .u64 r/\g<B64/\r<B64/\Guess B64 (high*B64+mid) low b1 b2 g r) (fun gv _=>(intOf gv).toNat)
  case atStart=>exact ⟨g0,r0,rfl,rfl,hg0,Nat.lt_trans hr0 h4,Hg0.out⟩
  case round =>
   clear Hg0 hg0 hr0 Hd;obtain ⟨g,r,rfl,rfl,hgB,hrB,hg⟩:=hrel;have Hg:=hid hg;clear hg
   go_wp2_with fail
   refine (mul64_hl g b2 hgB h5 _).mono ?_;rintro e w3 ⟨over,under,rfl,rfl,hov,hun,Hp⟩;have hlex:=lex_cmp (rest:=r) Hp.out (by rw [B64_eq];omega) h3
   have hrB':r<=18446744073709551615:=by rw [B64_eq] at hrB;omega
   have hb1':b1<=18446744073709551615:=by rw [B64_eq] at h4;omega
   by_cases hsm:g*b2<=B64*r+low
   ·have hfin:g=((high*B64+mid)*B64+low) / (b1*B64+b2):=Hg.out.done (Nat.add_pos_left (Nat.mul_pos hb B64_pos) _) hsm
    have Hfin:Hid (g=gd high mid low b1 b2):=by show _=_;rw [He.out];exact hfin
    have hcase:=hlex.1 hsm;clear hfin hlex hsm
    rcases hcase with hlt2 | ⟨rfl,hle2⟩
    ·go_wp2_with fail
     go_ret
     exact ⟨by rw [<-Hfin.out];rfl,nd,Hw2.out⟩
    ·go_wp2_with fail
     go_ret
     exact ⟨by rw [<-Hfin.out];rfl,nd,Hw2.out⟩
   ·have hbig:B64*r+low<g*b2:=by omega
    obtain ⟨hgp,hg2⟩:=Hg.out.down HU.out h3 (qO hbig)
    have hncase:¬ (over<r)/\(over=r->low<under):=by
     constructor
     ·intro h;exact hsm (hlex.2 (qM h))
     ·intro h;apply Nat.lt_of_not_le;intro h';exact hsm (hlex.2 (qO ⟨h,h'⟩))
    obtain ⟨hn1,hn2⟩:=hncase;obtain ⟨G,hG⟩:∃ G,g-1=G:=⟨_,rfl⟩
    have eG:(g:Int)-1=(G:Int):=by omega
    have hGB:G<B64:=by omega
    have hGn:G<=18446744073709551615:=by rw [B64_eq] at hGB;omega
    have hgp1:(1:Int)<=(g:Int):=by omega
    by_cases hwrap:r+b1<B64
    ·have hwrap':(r:Int)+(b1:Int)<=18446744073709551615:=by rw [B64_eq] at hwrap;omega
     have HG2:Hid (Guess B64 (high*B64+mid) low b1 b2 G (r+b1)):=by rw [<-hG];exact hg2
     clear hlex hsm hbig hg2 hG
     by_cases heq:over=r
     ·have hlt2:=hn2 heq
      subst heq;clear hn2
      go_wp2_with fail
      go_round
      case rel=>exact ⟨G,over+b1,rfl,by go_num,hGB,hwrap,HG2.out⟩
      case measure=>simp [intOf];omega
     ·have hbeq:((over:Int) == (r:Int))=false:=by rw [qV];omega
      clear hn2 heq
      go_wp2_with fail
      go_round
      case rel=>exact ⟨G,r+b1,rfl,by go_num,hGB,hwrap,HG2.out⟩
      case measure=>simp [intOf];omega
    ·have hfin:G=((high*B64+mid)*B64+low) / (b1*B64+b2):=by rw [<-hG];exact guess_break64 hg2 hb h5 (by omega) (by omega)
     have Hfin:Hid (G=gd high mid low b1 b2):=by show _=_;rw [He.out];exact hfin
     obtain ⟨t,ht⟩:∃ t,r+b1=B64+t:=⟨r+b1-B64,by omega⟩
     have et:IntKind.u64.wrap ((r:Int)+(b1:Int))=(t:Int):=by rw [yF];rw [B64_eq] at ht hrB;omega
     have htb:t<b1:=by omega
     clear hlex hsm hbig hg2 hG hfin hwrap ht
     by_cases heq:over=r
     ·have hlt2:=hn2 heq
      subst heq;clear hn2
      go_wp2_with fail
      go_ret
      exact ⟨by rw [<-Hfin.out];rfl,nd,Hw2.out⟩
     ·have hbeq:((over:Int) == (r:Int))=false:=by rw [qV];omega
      clear hn2 heq
      go_wp2_with fail
      go_ret
      exact ⟨by rw [<-Hfin.out];rfl,nd,Hw2.out⟩
end Go.Proofs.YtjfomkoedgipjaaGreatDoor
