/-
  The reference's fractions: FText. The reference's reading: zread's two loops. The reference reads fractions: FParse.
-/
import Derived.Test.YtjfomkoedgipjaaGreatDoorS27FpW
namespace Go.Proofs.YtjfomkoedgipjaaGreatDoor
set_option maxRecDepth 100000
set_option maxHeartbeats 8000000
open Go.RowKit
theorem FText_any (b1:Bool) (a1:Option Addr) (n1 c1:Nat) (b2:Bool) (a2:Option Addr) (n2 c2:Nat) (P Q:Int) (w:World) (h1:IsZ w b1 a1 n1 c1 P) (h2:IsZ w b2 a2 n2 c2 Q) (hn1:n1<=200000) (hn2:n2<=200000) (K:Nat) (hK:K<=100000) (hK1:1<=K) (fP:Fit K P) (fQ:Fit K Q) :
  Calls Tryz.prog 12 #[.agg #[.bool b1,.slice a1 n1 c1,.bool b2,.slice a2 n2 c2]] w fun e w'=>e=.returned (.string (ftx P Q))/\Ext w w':=by
 have hE:Ext w (w.alloc (.cells #[.bool b1,.slice a1 n1 c1,.bool b2,.slice a2 n2 c2] 35)):=ext_alloc w (.cells #[.bool b1,.slice a1 n1 c1,.bool b2,.slice a2 n2 c2] 35);have bX:=fzbx_new w b1 a1 n1 c1 b2 a2 n2 c2;have IA:=h1.ext hE;have IB:=h2.ext hE;have hs1:=itoa_len hK1 fP;have hs2:=itoa_len hK1 fQ
 have ht1:¬ 9223372036854775807<(Lib.itoa P).length+1:=by omega
 have ht2:¬ 9223372036854775807<(Lib.itoa P).length+1+(Lib.itoa Q).length:=by omega
 clear h1 h2 hs1 hs2 fP fQ
 by_cases hq:Q=1
 ·have Hft:Hid (ftx P Q=⟨(Lib.itoa P).toArray⟩):=by show _=_;unfold ftx;rw [qU hq]
  have ho:Lib.itoa Q=[49]:=by rw [hq];exact one_text
  clear hq
  go_enter Tryz.func12,Tryz.ntmps12
  go_wp2_with fail
  generalize w.alloc (.cells #[.bool b1,.slice a1 n1 c1,.bool b2,.slice a2 n2 c2] 35)=W0 at *;refine (ZText_any b2 a2 n2 c2 Q W0 IB (by omega)).mono ?_;rw [ho];rintro e v0 ⟨rfl,hx0⟩;have d0:=zKeep hx0 bX.lt bX.c0;have d1:=zKeep hx0 bX.lt bX.c1
  go_wp2_with fail
  refine (ZText_any b1 a1 n1 c1 P v0 (IA.ext hx0) (by omega)).mono ?_;rintro e v1 ⟨rfl,hx1⟩
  go_wp2_with fail
  go_ret
  exact ⟨by show _=_;rw [Hft.out];rfl,hE.trans (hx0.trans hx1)⟩
 ·have Hft:Hid (ftx P Q=⟨(Lib.itoa P).toArray⟩++⟨#[47]⟩++⟨(Lib.itoa Q).toArray⟩):=by show _=_;unfold ftx;rw [qE hq]
  have hne:((Lib.itoa Q) == [49])=false:=by
   rw [qV];intro h0;have h2:=txt_val Q;have h3:=txt_val 1;unfold txt at h2 h3;rw [show Lib.itoa 1=[49] from one_text] at h3;rw [h0] at h2;exact hq (h2.symm.trans h3)
  clear hq
  go_enter Tryz.func12,Tryz.ntmps12
  go_wp2_with fail
  generalize w.alloc (.cells #[.bool b1,.slice a1 n1 c1,.bool b2,.slice a2 n2 c2] 35)=W0 at *;refine (ZText_any b2 a2 n2 c2 Q W0 IB (by omega)).mono ?_;rintro e v0 ⟨rfl,hx0⟩;have bX:=bX.ext hx0;have IA:=IA.ext hx0;have IB:=IB.ext hx0;have m0:=bX.c0;have m1:=bX.c1;have m2:=bX.c2;have m3:=bX.c3;have lX:=bX.lt;have h0d:Ext v0 v0.drew:=qG (Ext.refl _)
  go_wp2_with fail
  go_region_held3 (fun w'=>w'.cell? ⟨w.heap.size,0,none⟩=some (.bool b1)/\w'.cell? ⟨w.heap.size,1,none⟩=some (.slice a1 n1 c1)/\w'.cell? ⟨w.heap.size,2,none⟩=some (.bool b2)/\w'.cell? ⟨w.heap.size,3,none⟩=some (.slice a2 n2 c2))
   (exact ⟨cellKeep (W:=v0) (by assumption) lX m0,cellKeep (W:=v0) (by assumption) lX m1,cellKeep (W:=v0) (by assumption) lX m2,cellKeep (W:=v0) (by assumption) lX m3⟩)
   (first
    | (have _:=qr0;go_at_call 37;refine (ZText_any b2 a2 n2 c2 Q _ (IB.ext hr0) (by omega)).mono ?_;rintro e r1 ⟨rfl,qr1⟩;have hr1:Ext v0 r1:=hr0.trans qr1)
    | (go_at_call 37;refine (ZText_any b1 a1 n1 c1 P _ (IA.ext (by assumption)) (by omega)).mono ?_;rintro e r0 ⟨rfl,qr0⟩;have hr0:Ext v0 r0:=Ext.trans (by assumption) qr0))
  go_wp2_with fail
  go_ret
  exact ⟨by show _=_;rw [Hft.out];rfl,hE.trans (hx0.trans hr1)⟩
def dseg (D:List Nat) (a b:Nat):List Nat:=(D.take b).drop a
theorem dseg_snoc (D:List Nat) (a b:Nat) (h:a<=b) (hb:b<D.length):dseg D a (b+1)=dseg D a b++[D.getD b 0]:=by
 unfold dseg;rw [take_zsucc D b hb,List.drop_append_of_le_length (by rw [qC];omega)]
theorem dseg_nil (D:List Nat) (a:Nat):dseg D a a=[]:=by
 unfold dseg;rw [List.drop_eq_nil_iff];rw [qC];omega
theorem dseg_len (D:List Nat) (a b:Nat) (hb:b<=D.length):(dseg D a b).length=b-a:=by
 unfold dseg;rw [qF,qC];omega
theorem drop_dseg (D:List Nat) (a b:Nat) (h:a<=b):D.drop a=dseg D a b++D.drop b:=by
 unfold dseg
 conv=>lhs;rw [<-List.take_append_drop b D]
 by_cases hb:b<=D.length
 ·rw [List.drop_append_of_le_length (by rw [qC];omega)]
 ·rw [yE (l:=D) (i:=b) (by omega),List.append_nil,List.append_nil]
theorem zread_step {D l:List Nat} {i k:Nat} (hk:D.length-i=4*k) (hl:l.length=k) (hv:zval l=dval (D.drop i)):zval (l++[dval (dseg D (i-4) i)])=dval (D.drop (i-4)):=by
 rw [zval_snoc,hl,hv,drop_dseg D (i-4) i (by omega),dval_append,qF,hk]
 have:(10000:Nat) ^ k=10 ^ (4*k):=by rw [Nat.pow_mul]
 rw [this,jU];omega
theorem zread_blk (s:ByteArray) (w:World) (had:AllD ((bs s).drop (sgl (bs s)))) (hs:s.size<=1000000) (z:Int) (hz:z=if sgl (bs s)=1 then -(dval ((bs s).drop (sgl (bs s))):Int) else (dval ((bs s).drop (sgl (bs s))):Int)) :
  Calls Tryz.prog 28 #[.string s] w (ZRetB w z 250001 (fun a'=>∀ x,a'=some x->w.heap.size+1<=x.block)):=by
 obtain ⟨i0,hi,hz0,hz1,hz2⟩:=info_parts int_info;have Hz:=Lh hz;have Had:=Lh had;clear hz had;have hE:=ext_alloc w (.cells #[.bool false,.slice none 0 0] 33);have hR:=zres_new w
 by_cases h0:s.size=0
 ·have e:=bs_nil s h0
  subst e
  have hz9:z=0:=by rw [Hz.out];simp [bs,sgl,dval]
  subst hz9
  go_enter Tryz.func28,Tryz.ntmps28
  go_wp2_with fail
  generalize w.alloc (.cells #[.bool false,.slice none 0 0] 33)=W0 at *
  go_loopw [4,5] (fun dv iv wr=>dv=.slice none 0 0/\iv=.int .i64 0/\Ext W0 wr) (fun _ _ _=>0)
  case atStart=>exact ⟨rfl,rfl,Ext.refl _⟩
  case round =>
   obtain ⟨rfl,rfl,hEr⟩:=hrel
   go_wp2_with fail
   refine (zmade_blk false none [] 0 0 wr rfl (qM ⟨rfl,rfl⟩) ZD.nil (qZ _) (qI _) (by omega) 0 (by simp [zval])).mono ?_;rintro e w9 ⟨b',a',n',c',rfl,hI,hle,hx9,hP⟩;have hR9:=hR.ext (hEr.trans hx9);have k0:=hR9.c0;have k1:=hR9.c1;have f0:=hR9.f 0;have f1:=hR9.f 1
   go_wp2_with fail
   exact qJ (v:=.agg #[.bool b',.slice a' n' c']) (by simp [results,Tryz.results28,go_sem,k0,k1]) rfl ⟨b',a',n',c',rfl,hI.keepRes hR9.row _ _,by omega,(yD (hE.trans (hEr.trans hx9)) (p:=⟨w.heap.size,0,none⟩) (qZ _) _).setCell (p:=⟨w.heap.size,1,none⟩) (qZ _) _,fun x hx=>by rcases hP with h | h<;>rw [h] at hx<;>cases hx⟩
 ·have hp:0<s.size:=by omega
  have ip:(0:Int)<(s.size:Int):=by omega
  have hat:=bs_at s 0 hp
  by_cases h45:(bs s).getD 0 0=45
  ·have hb:((s[0].toNat:Int) == 45)=true:=by rw [yY,hat];omega
   have hsg:sgl (bs s)=1:=by unfold sgl;rw [qU h45]
   obtain ⟨t,ht⟩:∃ t,s.extract 1 s.size=t:=⟨_,rfl⟩
   have hbt:bs t=(bs s).drop 1:=by
    rw [<-ht,bs_extract,qB];rw [qF,bs_length];omega
   have hts:t.size<=1000000:=by rw [<-bs_length,hbt,qF,bs_length];omega
   have HadT:Hid (AllD (bs t)):=by
    have:=Had.out;rw [hsg,<-hbt] at this;exact this
   have HzT:Hid (z=if true=true then -(dval (bs t):Int) else (dval (bs t):Int)):=by
    show _=_
    rw [Hz.out,hsg,qU rfl,qU rfl,hbt]
   have i1:(1:Int)<=(s.size:Int):=by omega
   clear hat h45 h0 hsg hbt
   go_enter Tryz.func28,Tryz.ntmps28
   go_wp2_with fail
   clear ht hs;generalize w.alloc (.cells #[.bool false,.slice none 0 0] 33)=W0 at *
   go_loopw [4,5] (fun dv iv wr=>∃ (k:Nat) (i:Int) (l:List Nat),iv=.int .i64 i/\i=(t.size:Int)-4*(k:Int)/\i<=t.size/\-4<i/\l.length=k/\k<=250000/\ZD l/\wr.ownsRow W0.heap.size 3 1 dv k (inC l)/\zval l=dval ((bs t).drop i.toNat)/\Ext W0 wr) (fun _ iv _=>(intOf iv).toNat)
   case atStart=>exact ⟨0,t.size,[],by go_num,by omega,by omega,by omega,rfl,by omega,ZD.nil,(show W0.ownsRow W0.heap.size 3 1 (.slice none 0 0) 0 (inC []) from World.ownsRow_nil _ _ _ _),by rw [yE (by rw [bs_length];omega)];rfl,Ext.refl _⟩
   case round =>
    obtain ⟨k,i,l,rfl,hik,hi1,hi2,hl,hkb,hd,hown,hval,hEr⟩:=hrel;have Hl:=Lh hl;have Hd:=Lh hd;have Hval:=Lh hval;have Hown:=Lh hown;have Hik:=Lh hik;clear hl hd hval hown hik
    by_cases hgo:0<i
    ·go_wp2_with fail
     go_loop [6,7] (fun nv jv=>∃ (j:Int),jv=.int .i64 j/\i-4<=j/\j<=i/\nv=.int .i64 (dval (dseg (bs t) (i-4).toNat j.toNat):Nat)) (fun _ jv=>(i-intOf jv).toNat)
     case atStart=>exact ⟨i-4,by go_num,by omega,by omega,by rw [dseg_nil];rfl⟩
     case round =>
      obtain ⟨j,rfl,hj1,hj2,rfl⟩:=hrel
      have hnb:j<i->dval (dseg (bs t) (i-4).toNat j.toNat)<1000:=by
       intro hji;have h1:=dval_lt _ ((HadT.out.take j.toNat).drop (i-4).toNat);have h2:=dseg_len (bs t) (i-4).toNat j.toNat (by rw [bs_length];omega);unfold dseg at h2 ⊢;rw [h2] at h1;have h3:(10:Nat) ^ (j.toNat-(i-4).toNat)<=10 ^ 3:=qY (by decide) (by omega);omega
      by_cases hji:j<i
      ·have hnb':=hnb hji
       by_cases hj0:0<=j
       ·obtain ⟨jn,rfl⟩:∃ jn:Nat,j=(jn:Int):=⟨j.toNat,by omega⟩
        have hjl:jn<t.size:=by omega
        have hatj:=bs_at t jn hjl;have hdj:=HadT.out jn (by rw [bs_length];exact hjl);simp only [isD,jZ] at hdj
        have Hst:Hid (dval (dseg (bs t) (i-4).toNat (jn+1))=10*dval (dseg (bs t) (i-4).toNat jn)+((bs t).getD jn 0-48)):=by
         show _=_
         rw [dseg_snoc _ _ _ (by omega) (by rw [bs_length];exact hjl),dval_snoc]
        obtain ⟨x,hx⟩:∃ x,t[jn].toNat=x:=⟨_,rfl⟩
        have hx1:48<=x/\x<=57:=by rw [<-hx,hatj];exact hdj
        obtain ⟨hx1,hx2⟩:=hx1;rw [<-hatj,hx] at Hst
        have etn:((jn:Int)).toNat=jn:=by omega
        rw [etn] at hnb' ⊢;obtain ⟨nn,hnn⟩:∃ nn,dval (dseg (bs t) (i-4).toNat jn)=nn:=⟨_,rfl⟩;rw [hnn] at Hst hnb' ⊢
        have ehx:(t[jn].toNat:Int)=(x:Int):=by rw [hx]
        have ijl:(jn:Int)<(t.size:Int):=by omega
        clear hnb hatj hdj hx hnn etn
        go_wp2_with fail
        go_round
        case rel=>exact ⟨(jn:Int)+1,by go_num,by omega,by omega,by rw [show ((jn:Int)+1).toNat=jn+1 by omega,Hst.out];go_num⟩
        case measure=>simp [intOf];omega
       ·have e0:j.toNat=0:=by omega
        have e1:(j+1).toNat=0:=by omega
        rw [e0];obtain ⟨nn,hnn⟩:∃ nn,dval (dseg (bs t) (i-4).toNat 0)=nn:=⟨_,rfl⟩;rw [hnn];have Hnn:=Lh hnn;clear hnb hnb' hnn
        go_wp2_with fail
        go_round
        case rel=>exact ⟨j+1,by go_num,by omega,by omega,by rw [e1,Hnn.out]⟩
        case measure=>simp [intOf];omega
      ·obtain rfl:j=i:=by omega
       have Hstep:=Lh (zread_step (D:=bs t) (l:=l) (i:=j.toNat) (k:=k) (by rw [bs_length];have:=Hik.out;omega) Hl.out Hval.out)
       have hdl:dval (dseg (bs t) (j.toNat-4) j.toNat)<10000:=by
        have h1:=dval_lt _ ((HadT.out.take j.toNat).drop (j.toNat-4));have h2:=dseg_len (bs t) (j.toNat-4) j.toNat (by rw [bs_length];omega);unfold dseg at h2 ⊢;rw [h2] at h1;have h3:(10:Nat) ^ (j.toNat-(j.toNat-4))<=10 ^ 4:=qY (by decide) (by omega);omega
       have e4:(j-4).toNat=j.toNat-4:=by omega
       rw [e4];obtain ⟨dg,hdg⟩:∃ dg,dval (dseg (bs t) (j.toNat-4) j.toNat)=dg:=⟨_,rfl⟩;rw [hdg] at Hstep hdl ⊢
       have Hk4:Hid (k+1<=250000):=by show _<=_;have:=Hik.out;omega
       have hkk:=Hk4.out;clear hnb hdg
       go_wp2_with (at_builtin;refine yL _ rfl _ _ 31 rfl W0.heap.size 3 i0 (.int .i64 0) 1 8 yM hi hz0 hz1 hz2 rfl (by decide) _ k (inC l) rfl (Hown.out.alloc _) ⟨wr.heap.size,0,none⟩ 1 1 [.int .i64 (dg:Int)] rfl rfl (new_int wr _ _) (one_int _) (by unfold maxLen;omega) (by omega) (qL hEr.size (ext_alloc wr _).size) ?_;intro v' w' hown' hgrow' _)
       go_roundw
       case rel=>exact ⟨k+1,j-4,l++[dg],by go_num,by have:=Hik.out;omega,by omega,by omega,by rw [qT,Hl.out];rfl,hkk,Hd.out.snoc hdl,by rw [inC_snoc];exact hown',by rw [e4];exact Hstep.out,ext_grown (hEr.trans (ext_alloc wr _)) hgrow' (fun j hj=>(Hown.out.lt j hj).1)⟩
       case measure=>simp [intOf];omega
    ·have hz9:zval l=dval (bs t):=by
      have:=Hval.out;rw [show i.toNat=0 by omega,List.drop_zero] at this;exact this
     obtain ⟨a9,c9,rfl,q1,q2,q3,q4⟩:=iseg_of_own Hown.out
     have Hbk:Hid (∀ x,a9=some x->W0.heap.size<=x.block):=fun x hx=>(Hown.out.lt x.block (by rw [hx];rfl)).1
     have lW:w.heap.size+1<=W0.heap.size:=hR.lt;have Hm:=Lh (zmade_blk true a9 l k c9 wr q3 q4 Hd.out q1 q2 (by omega) z (by rw [hz9];exact HzT.out));clear hz9
     go_wp2_with fail
     refine Hm.out.mono ?_;rintro e w9 ⟨b',a',n',c',rfl,hI,hle,hx9,hP⟩;have hR9:=hR.ext (hEr.trans hx9);have k0:=hR9.c0;have k1:=hR9.c1;have f0:=hR9.f 0;have f1:=hR9.f 1
     go_wp2_with fail
     exact qJ (v:=.agg #[.bool b',.slice a' n' c']) (by simp [results,Tryz.results28,go_sem,k0,k1]) rfl ⟨b',a',n',c',rfl,hI.keepRes hR9.row _ _,by omega,(yD (hE.trans (hEr.trans hx9)) (p:=⟨w.heap.size,0,none⟩) (qZ _) _).setCell (p:=⟨w.heap.size,1,none⟩) (qZ _) _,fun x hx=>by
      rcases hP with h | h
      ·rw [h] at hx;cases hx
      ·rw [h] at hx;exact qL lW (Hbk.out x hx)⟩
  ·have hb:((s[0].toNat:Int) == 45)=false:=by rw [qV,hat];omega
   have hsg:sgl (bs s)=0:=by unfold sgl;rw [qE h45]
   have HadT:Hid (AllD (bs s)):=by
    have:=Had.out;rw [hsg,List.drop_zero] at this;exact this
   have HzT:Hid (z=if false=true then -(dval (bs s):Int) else (dval (bs s):Int)):=by
    show _=_
    rw [Hz.out,hsg,qE (by decide),List.drop_zero];rfl
   clear hat h45 h0 hsg
   go_enter Tryz.func28,Tryz.ntmps28
   go_wp2_with fail
   generalize w.alloc (.cells #[.bool false,.slice none 0 0] 33)=W0 at *
   go_loopw [4,5] (fun dv iv wr=>∃ (k:Nat) (i:Int) (l:List Nat),iv=.int .i64 i/\i=(s.size:Int)-4*(k:Int)/\i<=s.size/\-4<i/\l.length=k/\k<=250000/\ZD l/\wr.ownsRow W0.heap.size 3 1 dv k (inC l)/\zval l=dval ((bs s).drop i.toNat)/\Ext W0 wr) (fun _ iv _=>(intOf iv).toNat)
   case atStart=>exact ⟨0,s.size,[],by go_num,by omega,by omega,by omega,rfl,by omega,ZD.nil,(show W0.ownsRow W0.heap.size 3 1 (.slice none 0 0) 0 (inC []) from World.ownsRow_nil _ _ _ _),by rw [yE (by rw [bs_length];omega)];rfl,Ext.refl _⟩
   case round =>
    obtain ⟨k,i,l,rfl,hik,hi1,hi2,hl,hkb,hd,hown,hval,hEr⟩:=hrel;have Hl:=Lh hl;have Hd:=Lh hd;have Hval:=Lh hval;have Hown:=Lh hown;have Hik:=Lh hik;clear hl hd hval hown hik
    by_cases hgo:0<i
    ·go_wp2_with fail
     go_loop [6,7] (fun nv jv=>∃ (j:Int),jv=.int .i64 j/\i-4<=j/\j<=i/\nv=.int .i64 (dval (dseg (bs s) (i-4).toNat j.toNat):Nat)) (fun _ jv=>(i-intOf jv).toNat)
     case atStart=>exact ⟨i-4,by go_num,by omega,by omega,by rw [dseg_nil];rfl⟩
     case round =>
      obtain ⟨j,rfl,hj1,hj2,rfl⟩:=hrel
      have hnb:j<i->dval (dseg (bs s) (i-4).toNat j.toNat)<1000:=by
       intro hji;have h1:=dval_lt _ ((HadT.out.take j.toNat).drop (i-4).toNat);have h2:=dseg_len (bs s) (i-4).toNat j.toNat (by rw [bs_length];omega);unfold dseg at h2 ⊢;rw [h2] at h1;have h3:(10:Nat) ^ (j.toNat-(i-4).toNat)<=10 ^ 3:=qY (by decide) (by omega);omega
      by_cases hji:j<i
      ·have hnb':=hnb hji
       by_cases hj0:0<=j
       ·obtain ⟨jn,rfl⟩:∃ jn:Nat,j=(jn:Int):=⟨j.toNat,by omega⟩
        have hjl:jn<s.size:=by omega
        have hatj:=bs_at s jn hjl;have hdj:=HadT.out jn (by rw [bs_length];exact hjl);simp only [isD,jZ] at hdj
        have Hst:Hid (dval (dseg (bs s) (i-4).toNat (jn+1))=10*dval (dseg (bs s) (i-4).toNat jn)+((bs s).getD jn 0-48)):=by
         show _=_
         rw [dseg_snoc _ _ _ (by omega) (by rw [bs_length];exact hjl),dval_snoc]
        obtain ⟨x,hx⟩:∃ x,s[jn].toNat=x:=⟨_,rfl⟩
        have hx1:48<=x/\x<=57:=by rw [<-hx,hatj];exact hdj
        obtain ⟨hx1,hx2⟩:=hx1;rw [<-hatj,hx] at Hst
        have etn:((jn:Int)).toNat=jn:=by omega
        rw [etn] at hnb' ⊢;obtain ⟨nn,hnn⟩:∃ nn,dval (dseg (bs s) (i-4).toNat jn)=nn:=⟨_,rfl⟩;rw [hnn] at Hst hnb' ⊢
        have ehx:(s[jn].toNat:Int)=(x:Int):=by rw [hx]
        have ijl:(jn:Int)<(s.size:Int):=by omega
        clear hnb hatj hdj hx hnn etn
        go_wp2_with fail
        go_round
        case rel=>exact ⟨(jn:Int)+1,by go_num,by omega,by omega,by rw [show ((jn:Int)+1).toNat=jn+1 by omega,Hst.out];go_num⟩
        case measure=>simp [intOf];omega
       ·have e0:j.toNat=0:=by omega
        have e1:(j+1).toNat=0:=by omega
        rw [e0];obtain ⟨nn,hnn⟩:∃ nn,dval (dseg (bs s) (i-4).toNat 0)=nn:=⟨_,rfl⟩;rw [hnn];have Hnn:=Lh hnn;clear hnb hnb' hnn
        go_wp2_with fail
        go_round
        case rel=>exact ⟨j+1,by go_num,by omega,by omega,by rw [e1,Hnn.out]⟩
        case measure=>simp [intOf];omega
      ·obtain rfl:j=i:=by omega
       have Hstep:=Lh (zread_step (D:=bs s) (l:=l) (i:=j.toNat) (k:=k) (by rw [bs_length];have:=Hik.out;omega) Hl.out Hval.out)
       have hdl:dval (dseg (bs s) (j.toNat-4) j.toNat)<10000:=by
        have h1:=dval_lt _ ((HadT.out.take j.toNat).drop (j.toNat-4));have h2:=dseg_len (bs s) (j.toNat-4) j.toNat (by rw [bs_length];omega);unfold dseg at h2 ⊢;rw [h2] at h1;have h3:(10:Nat) ^ (j.toNat-(j.toNat-4))<=10 ^ 4:=qY (by decide) (by omega);omega
       have e4:(j-4).toNat=j.toNat-4:=by omega
       rw [e4];obtain ⟨dg,hdg⟩:∃ dg,dval (dseg (bs s) (j.toNat-4) j.toNat)=dg:=⟨_,rfl⟩;rw [hdg] at Hstep hdl ⊢
       have Hk4:Hid (k+1<=250000):=by show _<=_;have:=Hik.out;omega
       have hkk:=Hk4.out;clear hnb hdg
       go_wp2_with (at_builtin;refine yL _ rfl _ _ 31 rfl W0.heap.size 3 i0 (.int .i64 0) 1 8 yM hi hz0 hz1 hz2 rfl (by decide) _ k (inC l) rfl (Hown.out.alloc _) ⟨wr.heap.size,0,none⟩ 1 1 [.int .i64 (dg:Int)] rfl rfl (new_int wr _ _) (one_int _) (by unfold maxLen;omega) (by omega) (qL hEr.size (ext_alloc wr _).size) ?_;intro v' w' hown' hgrow' _)
       go_roundw
       case rel=>exact ⟨k+1,j-4,l++[dg],by go_num,by have:=Hik.out;omega,by omega,by omega,by rw [qT,Hl.out];rfl,hkk,Hd.out.snoc hdl,by rw [inC_snoc];exact hown',by rw [e4];exact Hstep.out,ext_grown (hEr.trans (ext_alloc wr _)) hgrow' (fun j hj=>(Hown.out.lt j hj).1)⟩
       case measure=>simp [intOf];omega
    ·have hz9:zval l=dval (bs s):=by
      have:=Hval.out;rw [show i.toNat=0 by omega,List.drop_zero] at this;exact this
     obtain ⟨a9,c9,rfl,q1,q2,q3,q4⟩:=iseg_of_own Hown.out
     have Hbk:Hid (∀ x,a9=some x->W0.heap.size<=x.block):=fun x hx=>(Hown.out.lt x.block (by rw [hx];rfl)).1
     have lW:w.heap.size+1<=W0.heap.size:=hR.lt;have Hm:=Lh (zmade_blk false a9 l k c9 wr q3 q4 Hd.out q1 q2 (by omega) z (by rw [hz9];exact HzT.out));clear hz9
     go_wp2_with fail
     refine Hm.out.mono ?_;rintro e w9 ⟨b',a',n',c',rfl,hI,hle,hx9,hP⟩;have hR9:=hR.ext (hEr.trans hx9);have k0:=hR9.c0;have k1:=hR9.c1;have f0:=hR9.f 0;have f1:=hR9.f 1
     go_wp2_with fail
     exact qJ (v:=.agg #[.bool b',.slice a' n' c']) (by simp [results,Tryz.results28,go_sem,k0,k1]) rfl ⟨b',a',n',c',rfl,hI.keepRes hR9.row _ _,by omega,(yD (hE.trans (hEr.trans hx9)) (p:=⟨w.heap.size,0,none⟩) (qZ _) _).setCell (p:=⟨w.heap.size,1,none⟩) (qZ _) _,fun x hx=>by
      rcases hP with h | h
      ·rw [h] at hx;cases hx
      ·rw [h] at hx;exact qL lW (Hbk.out x hx)⟩
def digN:Nat:=250
theorem dig_room (n m:Nat) (h:n<=4*m):10 ^ n<=10000 ^ m:=by
 rw [show (10000:Nat)=10 ^ 4 from rfl,<-Nat.pow_mul];exact qY (by decide) h
theorem dig_lim {z:Int} (h:z.natAbs<Lim):z.natAbs<10000 ^ digN:=qK h (by unfold Lim;exact dig_room limN digN (by decide))
def FRetG (w:World) (P Q C A:Int) (N:Nat) (e:Ending) (w':World):Prop :=
 ∃ (b:Bool) (a:Option Addr) (n c:Nat) (b':Bool) (a':Option Addr) (n' c':Nat),e=.returned (.tuple #[.agg #[.bool b,.slice a n c,.bool b',.slice a' n' c'],.agg #[.int .i64 C,.int .i64 A]])/\IsZ w' b a n c P/\IsZ w' b' a' n' c' Q/\n<=N/\n'<=N/\Ext w w'
theorem zread_pz (s:ByteArray) (w:World) (h:scanN (bs s)=((bs s).length,true)) (hl:¬ 1000<(bs s).length-sgl (bs s)) :
  Calls Tryz.prog 28 #[.string s] w (ZRet w (pz (bs s)) 1000):=by
 have hv:=(code_of h hl).2;have hsl:=sgl_le (bs s);have hlen:=bs_length s;refine (zread_blk s w (allD_of_scan _ (by rw [h]) (by rw [h];simp)) (by omega) (pz (bs s)) ?_).mono ?_
 ·rw [hv]
  unfold sgn
  by_cases h1:sgl (bs s)=1
  ·rw [qU h1];rw [h1];rfl
  ·have h0:sgl (bs s)=0:=by omega
   rw [qE h1,h0];rfl
 ·intro e w' hr
  obtain ⟨b,a,n,c,e1,i,_,hx⟩:=hr.ret;have:=i.len_of (dig_lim (pz_lt _));exact ⟨b,a,n,c,e1,i,by have:digN=250:=rfl;omega,hx⟩
theorem FParse_any (s:ByteArray) (w:World) (hs:s.size<=9223372036854775807) (K:Nat) (hK:K<=100000) (hK1:1<=K) (hfit:∀ z:Int,z.natAbs<Lim->Fit K z) :
  Calls Tryz.prog 7 #[.string s] w (FRetG w (fP (bs s)) (fQ (bs s)) (fcode (bs s)) (fat (bs s)) 40000):=by
 have Hword:=Lh (fun wx=>word_any s wx hs);have HOf:=Lh (fun wx=>ZOf_any 1 (by decide) (by decide) wx);have h1L:(1:Int).natAbs<Lim:=qK (by decide) (lim_le 1 (by decide));have F1:=Lh (hfit 1 h1L);have hlen:=bs_length s;have hle:=scanN_le (bs s);rw [hlen] at hle;have hE:Ext w ((w.alloc (.cells #[.bool false,.slice none 0 0,.bool false,.slice none 0 0] 35)).alloc (.cells #[.int .i64 0,.int .i64 0] 26)):=(ext_alloc w (.cells #[.bool false,.slice none 0 0,.bool false,.slice none 0 0] 35)).trans (ext_alloc _ (.cells #[.int .i64 0,.int .i64 0] 26));have bR:=(fzbx_new w false none 0 0 false none 0 0).ext (ext_alloc _ (.cells #[.int .i64 0,.int .i64 0] 26))
 have bF:FRes ((w.alloc (.cells #[.bool false,.slice none 0 0,.bool false,.slice none 0 0] 35)).alloc (.cells #[.int .i64 0,.int .i64 0] 26)) (w.heap.size+1):=by
  have:=qW (w.alloc (.cells #[.bool false,.slice none 0 0,.bool false,.slice none 0 0] 35)) (.cells #[.int .i64 0,.int .i64 0] 26);exact ⟨by simp,by simpa using this⟩
 by_cases hsl:fsl (bs s)
 · -- a bar
  have hlt:(scanN (bs s)).1<s.size:=by have:=hsl.2.1;rw [hlen] at this;exact this
  have hok:(scanN (bs s)).2=true:=hsl.1
  have hb:((s[(scanN (bs s)).1].toNat:Int) == 47)=true:=by rw [yY,bs_at s _ hlt];have:=hsl.2.2;omega
  have hx1:bs (s.extract 0 (scanN (bs s)).1)=fab (bs s):=by rw [bs_extract];unfold fab;simp
  have hx2:bs (s.extract ((scanN (bs s)).1+1) s.size)=fbe (bs s):=by
   rw [bs_extract,qB]
   ·rfl
   ·rw [qF,hlen];omega
  have hz1:(s.extract 0 (scanN (bs s)).1).size<=9223372036854775807:=by rw [<-bs_length,hx1];unfold fab;rw [qC,hlen];omega
  have hz2:(s.extract ((scanN (bs s)).1+1) s.size).size<=9223372036854775807:=by rw [<-bs_length,hx2];unfold fbe;rw [qF,hlen];omega
  have Hw2:=Lh (fun wx=>word_ff (s.extract ((scanN (bs s)).1+1) s.size) wx hz2);rw [hx2] at Hw2
  have hfe:fend (bs s)=(scanN (bs s)).1+1+spos (fbe (bs s)):=by unfold fend;rw [qU hsl];rfl
  have hfo:fokk (bs s)=decide (0<spos (fbe (bs s))):=by unfold fokk;rw [qU hsl];rfl
  have hbl:(fbe (bs s)).length=s.size-((scanN (bs s)).1+1):=by unfold fbe;rw [qF,hlen]
  have hsp:=spos_le (fbe (bs s));rw [hok] at Hword
  have hgi:((scanN (bs s)).1:Int)+1<=(s.size:Int):=by omega
  have hli:((scanN (bs s)).1:Int)<(s.size:Int):=by omega
  have hli':((scanN (bs s)).1:Int)<=(s.size:Int):=by omega
  by_cases hg:fgood (bs s)
  ·obtain ⟨q1,q2,q3,q4⟩:=fbe_scan hsl hg
   have hfab:=fab_scan hsl;have Hd1:=Lh (fun wx=>digitsOf_any (s.extract 0 (scanN (bs s)).1) wx hz1)
   have e1:(s.extract 0 (scanN (bs s)).1).size=(fab (bs s)).length:=by rw [<-bs_length,hx1]
   rw [e1,hx1] at Hd1;rw [q3] at Hw2;rw [jJ q4] at Hw2;obtain ⟨kb,hkb⟩:∃ kb,(fbe (bs s)).length=kb:=⟨_,rfl⟩;obtain ⟨ka,hka⟩:∃ ka,(fab (bs s)).length-sgl (fab (bs s))=ka:=⟨_,rfl⟩
   have hkal:ka<=s.size:=by
    have:(fab (bs s)).length<=s.size:=by unfold fab;rw [qC,hlen];omega
    omega
   rw [hkb] at Hw2;rw [hka] at Hd1
   have hm:((scanN (bs s)).1:Int)+1+(kb:Int)=(s.size:Int):=by omega
   have hw1:IntKind.i64.wrap ((s.size:Int)-((scanN (bs s)).1:Int))=(kb:Int)+1:=by rw [qH];omega
   have hw2:IntKind.i64.wrap (kb:Int)=(kb:Int):=by rw [qH];omega
   have hss:¬ (s.size:Int)<(s.size:Int):=by omega
   by_cases hlg:flg (bs s)
   ·obtain ⟨v1,v2,v3,v4⟩:=f_long hg hsl hlg
    rw [v1,v2,v3,v4]
    have hcase:(1000:Int)<(ka:Int)\/(¬ (1000:Int)<(ka:Int)/\(1000:Int)<(kb:Int)):=by
     unfold flg at hlg;rw [hka,hkb,q2] at hlg;omega
    generalize (scanN (bs s)).1=en at *;clear hsl hg hlen hle hfe hfo hfab hx1 hx2 hz1 hz2 e1 q1 q2 q3 q4 hlg v1 v2 v3 v4 hfit F1 hok hbl hsp hkb hka h1L
    rcases hcase with hc | ⟨hc,hc2⟩
    all_goals
     go_enter Tryz.func7,Tryz.ntmps7
     go_wp2_with fail
     generalize (w.alloc (.cells #[.bool false,.slice none 0 0,.bool false,.slice none 0 0] 35)).alloc (.cells #[.int .i64 0,.int .i64 0] 26)=W0 at *;refine (HOf.out W0).mono ?_;rintro e u0 ⟨b0,a0,n0,c0,rfl,J0,l0,hx0⟩;have hq0:=hx0.trans (ext_alloc u0 (.cells #[.bool false,.slice none 0 0,.bool b0,.slice a0 n0 c0] 35));have bN:=fzbx_new u0 false none 0 0 b0 a0 n0 c0;have J1:=Lh (J0.ext (ext_alloc u0 (.cells #[.bool false,.slice none 0 0,.bool b0,.slice a0 n0 c0] 35)));have lN:w.heap.size+1<u0.heap.size:=qK bF.lt hx0.size;have bR:=bR.ext hq0;have bF:=bF.ext hq0;have HE1:=Lh (hE.trans hq0);have LN:=Lh lN;clear J0 hx0 hq0 hE lN
     go_wp2_with fail
     generalize u0.alloc (.cells #[.bool false,.slice none 0 0,.bool b0,.slice a0 n0 c0] 35)=W1 at *;generalize u0.heap.size=N at *;refine (Hword.out W1).mono ?_;rintro e w1 ⟨rfl,rfl⟩
     go_wp2_with fail
     refine (Hw2.out _).mono ?_;rintro e w1 ⟨rfl,rfl⟩
     go_wp2_with fail
     refine (Hd1.out _).mono ?_;rintro e w1 ⟨rfl,rfl⟩;have lN:=LN.out;have d0:=bN.c0;have d1:=bN.c1;have d2:=bN.c2;have d3:=bN.c3;have k0:=bR.c0;have k1:=bR.c1;have k2:=bR.c2;have k3:=bR.c3;have f0:=bR.f 0;have f1:=bR.f 1;have f2:=bR.f 2;have f3:=bR.f 3;have k4:=bF.c0;have k5:=bF.c1;have f4:=bF.f0;have f5:=bF.f1
     go_wp2_with fail
     exact qJ (v:=.tuple #[.agg #[.bool false,.slice none 0 0,.bool b0,.slice a0 n0 c0],.agg #[.int .i64 2,.int .i64 0]]) (by simp [results,Tryz.results7,go_sem,k0,k1,k2,k3,k4,k5]) rfl ⟨false,none,0,0,b0,a0,n0,c0,rfl,IsZ.zero _,(J1.out).put6 bR bF (by omega) _ _ _ _ _ _,by omega,by omega,(((HE1.out).put2 (by omega) _ _).put2 (by omega) _ _).put2 (by omega) _ _⟩
   ·obtain ⟨t1,t2,hbp,hb1⟩:=sides hsl hg hlg
    have hfi:=form_iff hsl hg hlg
    have o1:¬ 1000<(fab (bs s)).length-sgl (fab (bs s)):=fun h=>hlg (qM h)
    have o2:¬ 1000<(fbe (bs s)).length-sgl (fbe (bs s)):=fun h=>hlg (qO h)
    have hc1:¬ (1000:Int)<(ka:Int):=by omega
    have hc2:¬ (1000:Int)<(kb:Int):=by rw [q2] at o2;omega
    have Hr1:=Lh (fun wx=>zread_pz (s.extract 0 (scanN (bs s)).1) wx (by rw [hx1];exact hfab) (by rw [hx1];exact o1));have Hr2:=Lh (fun wx=>zread_pz (s.extract ((scanN (bs s)).1+1) s.size) wx (by rw [hx2];exact q1) (by rw [hx2];exact o2));rw [hx1] at Hr1;rw [hx2] at Hr2;have La:=pz_lt (fab (bs s));have Lb:=pz_lt (fbe (bs s))
    have hval:(ffm (bs s)->fP (bs s)=0/\fQ (bs s)=1/\fcode (bs s)=3/\fat (bs s)=0)/\(¬ ffm (bs s)->fP (bs s)=nfp (pz (fab (bs s))) (pz (fbe (bs s)))/\fQ (bs s)=nfq (pz (fab (bs s))) (pz (fbe (bs s)))/\fcode (bs s)=0/\fat (bs s)=0):=by
     refine ⟨f_form hg hsl hlg,fun hf=>?_⟩;obtain ⟨v1,v2,v3,v4⟩:=f_fine hg hsl hlg hf
     have hgc:Nat.gcd (pz (fab (bs s))).natAbs (pz (fbe (bs s))).natAbs=1:=yB fun h=>hf (qO h)
     obtain ⟨g1,g2⟩:=nf_self hbp hgc;exact ⟨v1.trans g1.symm,v2.trans g2.symm,v3,v4⟩
    generalize fP (bs s)=vP at *;generalize fQ (bs s)=vQ at *;generalize fcode (bs s)=vC at *;generalize fat (bs s)=vA at *;have hfp:Fit K (nfp (pz (fab (bs s))) (pz (fbe (bs s)))):=hfit _ (yQ (nfp_le _ _) La);have hfq:Fit K (nfq (pz (fab (bs s))) (pz (fbe (bs s)))):=hfit _ (yQ (nfq_le _ _ (by omega)) Lb);have dP:=dig_lim (yQ (nfp_le (pz (fab (bs s))) (pz (fbe (bs s)))) La);have dQ:=dig_lim (yQ (nfq_le (pz (fab (bs s))) (pz (fbe (bs s))) (by omega)) Lb);generalize pz (fab (bs s))=a at *;generalize pz (fbe (bs s))=b at *;have hcase:ffm (bs s)\/¬ ffm (bs s):=Classical.em _;have Hover:=Lh (fun wx y1 y2 x1 x2 m1 j1 m2 j2 (i1:IsZ wx y1 x1 m1 j1 a) (i2:IsZ wx y2 x2 m2 j2 b) h1 h2=>fover_any y1 y2 x1 x2 m1 j1 m2 j2 a b wx i1 i2 h1 h2);obtain ⟨p,hp⟩:∃ p,nfp a b=p:=⟨_,rfl⟩;obtain ⟨q,hq⟩:∃ q,nfq a b=q:=⟨_,rfl⟩;simp only [hp,hq] at Hover hfi hval hfp hfq dP dQ
    have hco:(ffm (bs s)/\((ftx p q).toList == s.toList)=false)\/(¬ ffm (bs s)/\((ftx p q).toList == s.toList)=true):=by
     rcases hcase with hf | hf
     ·refine qM ⟨hf,?_⟩
      rw [qV];intro h
      have e:ftx p q=s:=by
       apply bs_inj
       rw [ByteArray.toList_eq,ByteArray.toList_eq] at h;unfold bs;rw [h]
      exact hfi.1 e hf
     ·refine qO ⟨hf,?_⟩
      rw [hfi.2 hf];simp
    have Hfp:=Lh hfp;have Hfq:=Lh hfq;have HdP:=Lh dP;have HdQ:=Lh dQ;have hdg:digN=250:=rfl;have Hval:=Lh hval
    have hwp:IntKind.i64.wrap (((scanN (bs s)).1:Int)+1)=((scanN (bs s)).1:Int)+1:=by rw [qH];omega
    have hp0:(0:Int)<=((scanN (bs s)).1:Int)+1:=by omega
    have hp1:(0:Int)<=((scanN (bs s)).1:Int):=by omega
    generalize (scanN (bs s)).1=en at *;clear hg hlen hle hfe hfo hfab hx1 hx2 hz1 hz2 e1 q1 q2 q3 q4 hlg hfit F1 hok hbl hsp hkb hka h1L t1 t2 hbp hb1 o1 o2 La Lb hcase hfi hval hfp hfq dP dQ hp hq hsl
    rcases hco with ⟨hf,hc⟩ | ⟨hf,hc⟩
    ·have hv:=Hval.out.1 hf
     rw [hv.1,hv.2.1,hv.2.2.1,hv.2.2.2];clear hv Hval hf
     go_enter Tryz.func7,Tryz.ntmps7
     go_wp2_with fail
     generalize (w.alloc (.cells #[.bool false,.slice none 0 0,.bool false,.slice none 0 0] 35)).alloc (.cells #[.int .i64 0,.int .i64 0] 26)=W0 at *;refine (HOf.out W0).mono ?_;rintro e u0 ⟨b0,a0,n0,c0,rfl,J0,l0,hx0⟩;have hq0:=hx0.trans (ext_alloc u0 (.cells #[.bool false,.slice none 0 0,.bool b0,.slice a0 n0 c0] 35));have bN:=fzbx_new u0 false none 0 0 b0 a0 n0 c0;have J1:=Lh (J0.ext (ext_alloc u0 (.cells #[.bool false,.slice none 0 0,.bool b0,.slice a0 n0 c0] 35)));have lN:w.heap.size+1<u0.heap.size:=qK bF.lt hx0.size;have bR:=bR.ext hq0;have bF:=bF.ext hq0;have HE1:=Lh (hE.trans hq0);have LN:=Lh lN;clear J0 hx0 hq0 hE lN
     go_wp2_with fail
     generalize u0.alloc (.cells #[.bool false,.slice none 0 0,.bool b0,.slice a0 n0 c0] 35)=W1 at *;generalize u0.heap.size=N at *;refine (Hword.out W1).mono ?_;rintro e w1 ⟨rfl,rfl⟩
     go_wp2_with fail
     refine (Hw2.out _).mono ?_;rintro e w1 ⟨rfl,rfl⟩
     go_wp2_with fail
     refine (Hd1.out _).mono ?_;rintro e w1 ⟨rfl,rfl⟩
     go_wp2_with fail
     refine (Hr1.out _).mono ?_;rintro e u1 ⟨b1,a1,n1,c1,rfl,I1,l1,hx1⟩
     go_wp2_with fail
     refine (HOf.out _).mono ?_;rintro e u2 ⟨b2,a2,n2,c2,rfl,I2,l2,hx2⟩;have bX:=fzbx_new u2 b1 a1 n1 c1 b2 a2 n2 c2;have hq2:=hx1.trans (hx2.trans (ext_alloc u2 (.cells #[.bool b1,.slice a1 n1 c1,.bool b2,.slice a2 n2 c2] 35)));have lX:N<u2.heap.size:=qK bN.lt (hx1.trans hx2).size;have bN:=bN.ext hq2;have bR:=bR.ext hq2;have bF:=bF.ext hq2;have J2:=Lh (J1.out.ext hq2);have HE2:=Lh (HE1.out.trans hq2);have LX:=Lh lX;clear I1 I2 hx1 hx2 hq2 lX J1 HE1
     go_wp2_with fail
     generalize u2.alloc (.cells #[.bool b1,.slice a1 n1 c1,.bool b2,.slice a2 n2 c2] 35)=W2 at *;generalize u2.heap.size=X at *;have h0d:Ext W2 W2.drew:=qG (Ext.refl _)
     go_region_held3 (fun _=>True) (trivial)
      (first
       | (have _:=qv1;go_at_call 29;refine (Hover.out _ sv0 sv1 ov0 ov1 mv0 jv0 mv1 jv1 (Kv0.ext qv1) Kv1 (by omega) (by omega)).mono ?_;rintro e v2 ⟨b9,a9,n9,c9,b8,a8,n8,c8,rfl,I9,I8,l9,l8,qv2⟩;have hv2:Ext W2 v2:=hv1.trans qv2;have X5:=bX.ext hv2;have m0:=X5.c0;have m1:=X5.c1;have m2:=X5.c2;have m3:=X5.c3;have h0:=X5.f 0;have h1:=X5.f 1;have h2:=X5.f 2;have h3:=X5.f 3)
       | (have _:=qv0;go_at_call 28;refine (Hr2.out _).mono ?_;rintro e v1 ⟨sv1,ov1,mv1,jv1,rfl,Kv1,Lv1,qv1⟩;have hv1:Ext W2 v1:=hv0.trans qv1)
       | (go_at_call 28;refine (Hr1.out _).mono ?_;rintro e v0 ⟨sv0,ov0,mv0,jv0,rfl,Kv0,Lv0,qv0⟩;have hv0:Ext W2 v0:=Ext.trans (by assumption) qv0))
     have lN:=LN.out;have lX:=LX.out;have hO:Only X v2 ((((v2.setCell ⟨X,0,none⟩ (.bool b9)).setCell ⟨X,1,none⟩ (.slice a9 n9 c9)).setCell ⟨X,2,none⟩ (.bool b8)).setCell ⟨X,3,none⟩ (.slice a8 n8 c8)):=((((Only.refl _ _).setCell _ _).setCell _ _).setCell _ _).setCell _ _
     have hSz:v2.heap.size<=((((v2.setCell ⟨X,0,none⟩ (.bool b9)).setCell ⟨X,1,none⟩ (.slice a9 n9 c9)).setCell ⟨X,2,none⟩ (.bool b8)).setCell ⟨X,3,none⟩ (.slice a8 n8 c8)).heap.size:=by simp [World.setCell]
     have I9:=I9.put4 X5 (.bool b9) (.slice a9 n9 c9) (.bool b8) (.slice a8 n8 c8);have I8:=I8.put4 X5 (.bool b9) (.slice a9 n9 c9) (.bool b8) (.slice a8 n8 c8);have J3:=Lh ((J2.out.ext hv2).put4 X5 (.bool b9) (.slice a9 n9 c9) (.bool b8) (.slice a8 n8 c8));have bX:=X5.own4 b9 a9 n9 c9 b8 a8 n8 c8;have bN:=(bN.ext hv2).only hO (by omega);have bR:=(bR.ext hv2).only hO (by omega);have bF:=(bF.ext hv2).only hO (by omega) hSz;have HE3:=Lh (((HE2.out.trans hv2).put2 (g:=X) (o:=0) (o':=1) (by omega) (.bool b9) (.slice a9 n9 c9)).put2 (g:=X) (o:=2) (o':=3) (by omega) (.bool b8) (.slice a8 n8 c8));clear hO hSz X5 m0 m1 m2 m3 h0 h1 h2 h3 hv0 qv0 hv1 qv1 hv2 qv2 Kv0 Kv1 h0d;generalize (((v2.setCell ⟨X,0,none⟩ (.bool b9)).setCell ⟨X,1,none⟩ (.slice a9 n9 c9)).setCell ⟨X,2,none⟩ (.bool b8)).setCell ⟨X,3,none⟩ (.slice a8 n8 c8)=W3 at *;have x0:=bX.c0;have x1:=bX.c1;have x2:=bX.c2;have x3:=bX.c3;have L9:=I9.len_of HdP.out;have L8:=I8.len_of HdQ.out
     go_wp2_with fail
     refine (FText_any b9 a9 n9 c9 b8 a8 n8 c8 p q W3 I9 I8 (by omega) (by omega) K hK hK1 Hfp.out Hfq.out).mono ?_;rintro e V ⟨rfl,hxV⟩;clear x0 x1 x2 x3;have bX:=bX.ext hxV;have x0:=bX.c0;have x1:=bX.c1;have x2:=bX.c2;have x3:=bX.c3;have I9:=I9.ext hxV;have I8:=I8.ext hxV;have J4:=Lh (J3.out.ext hxV);have HE4:=Lh (HE3.out.trans hxV);have bN:=bN.ext hxV;have bR:=bR.ext hxV;have bF:=bF.ext hxV;have d0:=bN.c0;have d1:=bN.c1;have d2:=bN.c2;have d3:=bN.c3;have k0:=bR.c0;have k1:=bR.c1;have k2:=bR.c2;have k3:=bR.c3;have f0:=bR.f 0;have f1:=bR.f 1;have f2:=bR.f 2;have f3:=bR.f 3;have k4:=bF.c0;have k5:=bF.c1;have f4:=bF.f0;have f5:=bF.f1
     go_wp2_with fail
     exact qJ (v:=.tuple #[.agg #[.bool false,.slice none 0 0,.bool b0,.slice a0 n0 c0],.agg #[.int .i64 3,.int .i64 0]]) (by simp [results,Tryz.results7,go_sem,k0,k1,k2,k3,k4,k5]) rfl ⟨false,none,0,0,b0,a0,n0,c0,rfl,IsZ.zero _,J4.out.put6 bR bF (by omega) _ _ _ _ _ _,by omega,by omega,((HE4.out.put2 (by omega) _ _).put2 (by omega) _ _).put2 (by omega) _ _⟩
    ·have hv:=Hval.out.2 hf
     rw [hv.1,hv.2.1,hv.2.2.1,hv.2.2.2];clear hv Hval hf
     go_enter Tryz.func7,Tryz.ntmps7
     go_wp2_with fail
     generalize (w.alloc (.cells #[.bool false,.slice none 0 0,.bool false,.slice none 0 0] 35)).alloc (.cells #[.int .i64 0,.int .i64 0] 26)=W0 at *;refine (HOf.out W0).mono ?_;rintro e u0 ⟨b0,a0,n0,c0,rfl,J0,l0,hx0⟩;have hq0:=hx0.trans (ext_alloc u0 (.cells #[.bool false,.slice none 0 0,.bool b0,.slice a0 n0 c0] 35));have bN:=fzbx_new u0 false none 0 0 b0 a0 n0 c0;have J1:=Lh (J0.ext (ext_alloc u0 (.cells #[.bool false,.slice none 0 0,.bool b0,.slice a0 n0 c0] 35)));have lN:w.heap.size+1<u0.heap.size:=qK bF.lt hx0.size;have bR:=bR.ext hq0;have bF:=bF.ext hq0;have HE1:=Lh (hE.trans hq0);have LN:=Lh lN;clear J0 hx0 hq0 hE lN
     go_wp2_with fail
     generalize u0.alloc (.cells #[.bool false,.slice none 0 0,.bool b0,.slice a0 n0 c0] 35)=W1 at *;generalize u0.heap.size=N at *;refine (Hword.out W1).mono ?_;rintro e w1 ⟨rfl,rfl⟩
     go_wp2_with fail
     refine (Hw2.out _).mono ?_;rintro e w1 ⟨rfl,rfl⟩
     go_wp2_with fail
     refine (Hd1.out _).mono ?_;rintro e w1 ⟨rfl,rfl⟩
     go_wp2_with fail
     refine (Hr1.out _).mono ?_;rintro e u1 ⟨b1,a1,n1,c1,rfl,I1,l1,hx1⟩
     go_wp2_with fail
     refine (HOf.out _).mono ?_;rintro e u2 ⟨b2,a2,n2,c2,rfl,I2,l2,hx2⟩;have bX:=fzbx_new u2 b1 a1 n1 c1 b2 a2 n2 c2;have hq2:=hx1.trans (hx2.trans (ext_alloc u2 (.cells #[.bool b1,.slice a1 n1 c1,.bool b2,.slice a2 n2 c2] 35)));have lX:N<u2.heap.size:=qK bN.lt (hx1.trans hx2).size;have bN:=bN.ext hq2;have bR:=bR.ext hq2;have bF:=bF.ext hq2;have J2:=Lh (J1.out.ext hq2);have HE2:=Lh (HE1.out.trans hq2);have LX:=Lh lX;clear I1 I2 hx1 hx2 hq2 lX J1 HE1
     go_wp2_with fail
     generalize u2.alloc (.cells #[.bool b1,.slice a1 n1 c1,.bool b2,.slice a2 n2 c2] 35)=W2 at *;generalize u2.heap.size=X at *;have h0d:Ext W2 W2.drew:=qG (Ext.refl _)
     go_region_held3 (fun _=>True) (trivial)
      (first
       | (have _:=qv1;go_at_call 29;refine (Hover.out _ sv0 sv1 ov0 ov1 mv0 jv0 mv1 jv1 (Kv0.ext qv1) Kv1 (by omega) (by omega)).mono ?_;rintro e v2 ⟨b9,a9,n9,c9,b8,a8,n8,c8,rfl,I9,I8,l9,l8,qv2⟩;have hv2:Ext W2 v2:=hv1.trans qv2;have X5:=bX.ext hv2;have m0:=X5.c0;have m1:=X5.c1;have m2:=X5.c2;have m3:=X5.c3;have h0:=X5.f 0;have h1:=X5.f 1;have h2:=X5.f 2;have h3:=X5.f 3)
       | (have _:=qv0;go_at_call 28;refine (Hr2.out _).mono ?_;rintro e v1 ⟨sv1,ov1,mv1,jv1,rfl,Kv1,Lv1,qv1⟩;have hv1:Ext W2 v1:=hv0.trans qv1)
       | (go_at_call 28;refine (Hr1.out _).mono ?_;rintro e v0 ⟨sv0,ov0,mv0,jv0,rfl,Kv0,Lv0,qv0⟩;have hv0:Ext W2 v0:=Ext.trans (by assumption) qv0))
     have lN:=LN.out;have lX:=LX.out;have hO:Only X v2 ((((v2.setCell ⟨X,0,none⟩ (.bool b9)).setCell ⟨X,1,none⟩ (.slice a9 n9 c9)).setCell ⟨X,2,none⟩ (.bool b8)).setCell ⟨X,3,none⟩ (.slice a8 n8 c8)):=((((Only.refl _ _).setCell _ _).setCell _ _).setCell _ _).setCell _ _
     have hSz:v2.heap.size<=((((v2.setCell ⟨X,0,none⟩ (.bool b9)).setCell ⟨X,1,none⟩ (.slice a9 n9 c9)).setCell ⟨X,2,none⟩ (.bool b8)).setCell ⟨X,3,none⟩ (.slice a8 n8 c8)).heap.size:=by simp [World.setCell]
     have I9:=I9.put4 X5 (.bool b9) (.slice a9 n9 c9) (.bool b8) (.slice a8 n8 c8);have I8:=I8.put4 X5 (.bool b9) (.slice a9 n9 c9) (.bool b8) (.slice a8 n8 c8);have J3:=Lh ((J2.out.ext hv2).put4 X5 (.bool b9) (.slice a9 n9 c9) (.bool b8) (.slice a8 n8 c8));have bX:=X5.own4 b9 a9 n9 c9 b8 a8 n8 c8;have bN:=(bN.ext hv2).only hO (by omega);have bR:=(bR.ext hv2).only hO (by omega);have bF:=(bF.ext hv2).only hO (by omega) hSz;have HE3:=Lh (((HE2.out.trans hv2).put2 (g:=X) (o:=0) (o':=1) (by omega) (.bool b9) (.slice a9 n9 c9)).put2 (g:=X) (o:=2) (o':=3) (by omega) (.bool b8) (.slice a8 n8 c8));clear hO hSz X5 m0 m1 m2 m3 h0 h1 h2 h3 hv0 qv0 hv1 qv1 hv2 qv2 Kv0 Kv1 h0d;generalize (((v2.setCell ⟨X,0,none⟩ (.bool b9)).setCell ⟨X,1,none⟩ (.slice a9 n9 c9)).setCell ⟨X,2,none⟩ (.bool b8)).setCell ⟨X,3,none⟩ (.slice a8 n8 c8)=W3 at *;have x0:=bX.c0;have x1:=bX.c1;have x2:=bX.c2;have x3:=bX.c3;have L9:=I9.len_of HdP.out;have L8:=I8.len_of HdQ.out
     go_wp2_with fail
     refine (FText_any b9 a9 n9 c9 b8 a8 n8 c8 p q W3 I9 I8 (by omega) (by omega) K hK hK1 Hfp.out Hfq.out).mono ?_;rintro e V ⟨rfl,hxV⟩;clear x0 x1 x2 x3;have bX:=bX.ext hxV;have x0:=bX.c0;have x1:=bX.c1;have x2:=bX.c2;have x3:=bX.c3;have I9:=I9.ext hxV;have I8:=I8.ext hxV;have J4:=Lh (J3.out.ext hxV);have HE4:=Lh (HE3.out.trans hxV);have bN:=bN.ext hxV;have bR:=bR.ext hxV;have bF:=bF.ext hxV;have d0:=bN.c0;have d1:=bN.c1;have d2:=bN.c2;have d3:=bN.c3;have k0:=bR.c0;have k1:=bR.c1;have k2:=bR.c2;have k3:=bR.c3;have f0:=bR.f 0;have f1:=bR.f 1;have f2:=bR.f 2;have f3:=bR.f 3;have k4:=bF.c0;have k5:=bF.c1;have f4:=bF.f0;have f5:=bF.f1
     go_wp2_with fail
     exact qJ (v:=.tuple #[.agg #[.bool b9,.slice a9 n9 c9,.bool b8,.slice a8 n8 c8],.agg #[.int .i64 0,.int .i64 0]]) (by simp [results,Tryz.results7,go_sem,k0,k1,k2,k3,k4,k5]) rfl ⟨b9,a9,n9,c9,b8,a8,n8,c8,rfl,I9.put6 bR bF (by omega) _ _ _ _ _ _,I8.put6 bR bF (by omega) _ _ _ _ _ _,by omega,by omega,((HE4.out.put2 (by omega) _ _).put2 (by omega) _ _).put2 (by omega) _ _⟩
  ·obtain ⟨v1,v2,v3,v4⟩:=f_bad hg
   rw [v1,v2,v3,v4,hfe];obtain ⟨kb,hkb⟩:∃ kb,spos (fbe (bs s))=kb:=⟨_,rfl⟩;rw [hkb] at Hw2;rw [hkb]
   have hcase:kb=0\/(decide (0<kb)=true/\((scanN (bs s)).1:Int)+1+(kb:Int)<(s.size:Int)):=by
    by_cases h0:kb=0
    ·exact qM h0
    ·refine qO ⟨jJ (by omega),?_⟩
     have:fend (bs s)<(bs s).length:=yB fun h=>hg ⟨by rw [hfo,hkb];exact jJ (by omega),h⟩
     rw [hfe,hkb,hlen] at this;omega
   have hmx:((scanN (bs s)).1:Int)+1+(kb:Int)<=(s.size:Int):=by omega
   generalize (scanN (bs s)).1=en at *;clear hsl hg hlen hle hfe hfo hx1 hx2 hz1 hz2 v1 v2 v3 v4 hfit F1 hok hbl hsp hkb h1L
   rcases hcase with rfl | ⟨hd,hc⟩
   ·rw [jE (by omega)] at Hw2
    go_enter Tryz.func7,Tryz.ntmps7
    go_wp2_with fail
    generalize (w.alloc (.cells #[.bool false,.slice none 0 0,.bool false,.slice none 0 0] 35)).alloc (.cells #[.int .i64 0,.int .i64 0] 26)=W0 at *;refine (HOf.out W0).mono ?_;rintro e u0 ⟨b0,a0,n0,c0,rfl,J0,l0,hx0⟩;have hq0:=hx0.trans (ext_alloc u0 (.cells #[.bool false,.slice none 0 0,.bool b0,.slice a0 n0 c0] 35));have bN:=fzbx_new u0 false none 0 0 b0 a0 n0 c0;have J1:=Lh (J0.ext (ext_alloc u0 (.cells #[.bool false,.slice none 0 0,.bool b0,.slice a0 n0 c0] 35)));have lN:w.heap.size+1<u0.heap.size:=qK bF.lt hx0.size;have bR:=bR.ext hq0;have bF:=bF.ext hq0;have HE1:=Lh (hE.trans hq0);have LN:=Lh lN;clear J0 hx0 hq0 hE lN
    go_wp2_with fail
    generalize u0.alloc (.cells #[.bool false,.slice none 0 0,.bool b0,.slice a0 n0 c0] 35)=W1 at *;generalize u0.heap.size=N at *;refine (Hword.out W1).mono ?_;rintro e w1 ⟨rfl,rfl⟩
    go_wp2_with fail
    refine (Hw2.out _).mono ?_;rintro e w1 ⟨rfl,rfl⟩;have lN:=LN.out;have d0:=bN.c0;have d1:=bN.c1;have d2:=bN.c2;have d3:=bN.c3;have k0:=bR.c0;have k1:=bR.c1;have k2:=bR.c2;have k3:=bR.c3;have f0:=bR.f 0;have f1:=bR.f 1;have f2:=bR.f 2;have f3:=bR.f 3;have k4:=bF.c0;have k5:=bF.c1;have f4:=bF.f0;have f5:=bF.f1
    go_wp2_with fail
    exact qJ (v:=.tuple #[.agg #[.bool false,.slice none 0 0,.bool b0,.slice a0 n0 c0],.agg #[.int .i64 1,.int .i64 (((en+1+0:Nat)):Int)]]) (by simp [results,Tryz.results7,go_sem,k0,k1,k2,k3,k4,k5]) rfl ⟨false,none,0,0,b0,a0,n0,c0,rfl,IsZ.zero _,J1.out.put6 bR bF (by omega) _ _ _ _ _ _,by omega,by omega,((HE1.out.put2 (by omega) _ _).put2 (by omega) _ _).put2 (by omega) _ _⟩
   ·rw [hd] at Hw2
    clear hd
    go_enter Tryz.func7,Tryz.ntmps7
    go_wp2_with fail
    generalize (w.alloc (.cells #[.bool false,.slice none 0 0,.bool false,.slice none 0 0] 35)).alloc (.cells #[.int .i64 0,.int .i64 0] 26)=W0 at *;refine (HOf.out W0).mono ?_;rintro e u0 ⟨b0,a0,n0,c0,rfl,J0,l0,hx0⟩;have hq0:=hx0.trans (ext_alloc u0 (.cells #[.bool false,.slice none 0 0,.bool b0,.slice a0 n0 c0] 35));have bN:=fzbx_new u0 false none 0 0 b0 a0 n0 c0;have J1:=Lh (J0.ext (ext_alloc u0 (.cells #[.bool false,.slice none 0 0,.bool b0,.slice a0 n0 c0] 35)));have lN:w.heap.size+1<u0.heap.size:=qK bF.lt hx0.size;have bR:=bR.ext hq0;have bF:=bF.ext hq0;have HE1:=Lh (hE.trans hq0);have LN:=Lh lN;clear J0 hx0 hq0 hE lN
    go_wp2_with fail
    generalize u0.alloc (.cells #[.bool false,.slice none 0 0,.bool b0,.slice a0 n0 c0] 35)=W1 at *;generalize u0.heap.size=N at *;refine (Hword.out W1).mono ?_;rintro e w1 ⟨rfl,rfl⟩
    go_wp2_with fail
    refine (Hw2.out _).mono ?_;rintro e w1 ⟨rfl,rfl⟩;have lN:=LN.out;have d0:=bN.c0;have d1:=bN.c1;have d2:=bN.c2;have d3:=bN.c3;have k0:=bR.c0;have k1:=bR.c1;have k2:=bR.c2;have k3:=bR.c3;have f0:=bR.f 0;have f1:=bR.f 1;have f2:=bR.f 2;have f3:=bR.f 3;have k4:=bF.c0;have k5:=bF.c1;have f4:=bF.f0;have f5:=bF.f1
    go_wp2_with fail
    exact qJ (v:=.tuple #[.agg #[.bool false,.slice none 0 0,.bool b0,.slice a0 n0 c0],.agg #[.int .i64 1,.int .i64 (((en+1+kb:Nat)):Int)]]) (by simp [results,Tryz.results7,go_sem,k0,k1,k2,k3,k4,k5]) rfl ⟨false,none,0,0,b0,a0,n0,c0,rfl,IsZ.zero _,J1.out.put6 bR bF (by omega) _ _ _ _ _ _,by omega,by omega,((HE1.out.put2 (by omega) _ _).put2 (by omega) _ _).put2 (by omega) _ _⟩
 · -- none
  obtain ⟨en,hen⟩:∃ en,(scanN (bs s)).1=en:=⟨_,rfl⟩;obtain ⟨ok,hok⟩:∃ ok,(scanN (bs s)).2=ok:=⟨_,rfl⟩
  have hfe:fend (bs s)=en:=by unfold fend;rw [qE hsl,hen]
  have hfo:fokk (bs s)=ok:=by unfold fokk;rw [qE hsl,hok]
  rw [hen,hok] at Hword;rw [hen] at hle
  by_cases hg:fgood (bs s)
  ·obtain ⟨v1,v2,v3,v4⟩:=f_whole hg hsl
   rw [v1,v2,v3,v4]
   obtain rfl:ok=true:=by rw [<-hfo];exact hg.1
   obtain rfl:en=s.size:=by have:=hg.2;rw [hfe,hlen] at this;omega
   have hsc:scanN (bs s)=((bs s).length,true):=by rw [hlen,<-hen,<-hok]
   have hxs:s.extract 0 s.size=s:=bs_inj (by rw [bs_extract];simp;exact qB (by rw [hlen];exact qZ _));have Hd1:=Lh (fun wx=>digitsOf_any s wx hs);obtain ⟨ka,hka⟩:∃ ka,s.size-sgl (bs s)=ka:=⟨_,rfl⟩;rw [hka] at Hd1
   have hss:¬ (s.size:Int)<(s.size:Int):=by omega
   have hll:(s.size:Int)<=(s.size:Int):=by omega
   have hpa:pat (bs s)=0:=by unfold pat;rw [hsc,qU ⟨rfl,by simp⟩]
   rw [hpa]
   by_cases hlg:1000<ka
   ·have hpc:pcode (bs s)=2:=by unfold pcode;rw [hsc,qU ⟨rfl,by simp⟩,qU (by rw [hlen,hka];exact hlg)]
    have hpz:pz (bs s)=0:=by unfold pz;rw [qE];rw [hlen,hka];exact fun h=>h.2.2 hlg
    rw [hpc,hpz]
    have hc:(1000:Int)<(ka:Int):=by omega
    clear hsl hg hlen hle hfe hfo v1 v2 v3 v4 hfit F1 hok h1L hen hsc hka hpa hpc hpz hlg
    go_enter Tryz.func7,Tryz.ntmps7
    go_wp2_with fail
    generalize (w.alloc (.cells #[.bool false,.slice none 0 0,.bool false,.slice none 0 0] 35)).alloc (.cells #[.int .i64 0,.int .i64 0] 26)=W0 at *;refine (HOf.out W0).mono ?_;rintro e u0 ⟨b0,a0,n0,c0,rfl,J0,l0,hx0⟩;have hq0:=hx0.trans (ext_alloc u0 (.cells #[.bool false,.slice none 0 0,.bool b0,.slice a0 n0 c0] 35));have bN:=fzbx_new u0 false none 0 0 b0 a0 n0 c0;have J1:=Lh (J0.ext (ext_alloc u0 (.cells #[.bool false,.slice none 0 0,.bool b0,.slice a0 n0 c0] 35)));have lN:w.heap.size+1<u0.heap.size:=qK bF.lt hx0.size;have bR:=bR.ext hq0;have bF:=bF.ext hq0;have HE1:=Lh (hE.trans hq0);have LN:=Lh lN;clear J0 hx0 hq0 hE lN
    go_wp2_with fail
    generalize u0.alloc (.cells #[.bool false,.slice none 0 0,.bool b0,.slice a0 n0 c0] 35)=W1 at *;generalize u0.heap.size=N at *;refine (Hword.out W1).mono ?_;rintro e w1 ⟨rfl,rfl⟩
    go_wp2_with fail
    try rw [hxs]
    refine (Hd1.out _).mono ?_;rintro e w1 ⟨rfl,rfl⟩;have lN:=LN.out;have d0:=bN.c0;have d1:=bN.c1;have d2:=bN.c2;have d3:=bN.c3;have k0:=bR.c0;have k1:=bR.c1;have k2:=bR.c2;have k3:=bR.c3;have f0:=bR.f 0;have f1:=bR.f 1;have f2:=bR.f 2;have f3:=bR.f 3;have k4:=bF.c0;have k5:=bF.c1;have f4:=bF.f0;have f5:=bF.f1
    go_wp2_with fail
    exact qJ (v:=.tuple #[.agg #[.bool false,.slice none 0 0,.bool b0,.slice a0 n0 c0],.agg #[.int .i64 ((2:Nat):Int),.int .i64 ((0:Nat):Int)]]) (by simp [results,Tryz.results7,go_sem,k0,k1,k2,k3,k4,k5]) rfl ⟨false,none,0,0,b0,a0,n0,c0,rfl,IsZ.zero _,(J1.out).put6 bR bF (by omega) _ _ _ _ _ _,by omega,by omega,(((HE1.out).put2 (by omega) _ _).put2 (by omega) _ _).put2 (by omega) _ _⟩
   ·have hlg':¬ 1000<(bs s).length-sgl (bs s):=by rw [hlen,hka];exact hlg
    have hpc:pcode (bs s)=0:=(code_of hsc hlg').1;have hback:=itoa_back s hpc;rw [hpc];have Hr1:=Lh (fun wx=>zread_pz s wx hsc hlg');have La:=pz_lt (bs s);have dP:=Lh (dig_lim La);have Fz:=Lh (hfit _ La);generalize pz (bs s)=z at *
    have hft:ftx z 1=s:=by unfold ftx;rw [qU rfl];exact hback
    have hc:((ftx z 1).toList == s.toList)=true:=by rw [hft];simp
    have hdg:digN=250:=rfl
    have hc1:¬ (1000:Int)<(ka:Int):=by omega
    have hw1:IntKind.i64.wrap ((s.size:Int)-(s.size:Int))=0:=by rw [qH];omega
    clear hsl hg hlen hle hfe hfo v1 v2 v3 v4 hfit hok h1L hen hsc hka hpa hpc hlg hlg' hback hft La
    go_enter Tryz.func7,Tryz.ntmps7
    go_wp2_with fail
    generalize (w.alloc (.cells #[.bool false,.slice none 0 0,.bool false,.slice none 0 0] 35)).alloc (.cells #[.int .i64 0,.int .i64 0] 26)=W0 at *;refine (HOf.out W0).mono ?_;rintro e u0 ⟨b0,a0,n0,c0,rfl,J0,l0,hx0⟩;have hq0:=hx0.trans (ext_alloc u0 (.cells #[.bool false,.slice none 0 0,.bool b0,.slice a0 n0 c0] 35));have bN:=fzbx_new u0 false none 0 0 b0 a0 n0 c0;have J1:=Lh (J0.ext (ext_alloc u0 (.cells #[.bool false,.slice none 0 0,.bool b0,.slice a0 n0 c0] 35)));have lN:w.heap.size+1<u0.heap.size:=qK bF.lt hx0.size;have bR:=bR.ext hq0;have bF:=bF.ext hq0;have HE1:=Lh (hE.trans hq0);have LN:=Lh lN;clear J0 hx0 hq0 hE lN
    go_wp2_with fail
    generalize u0.alloc (.cells #[.bool false,.slice none 0 0,.bool b0,.slice a0 n0 c0] 35)=W1 at *;generalize u0.heap.size=N at *;refine (Hword.out W1).mono ?_;rintro e w1 ⟨rfl,rfl⟩
    go_wp2_with fail
    try rw [hxs]
    refine (Hd1.out _).mono ?_;rintro e w1 ⟨rfl,rfl⟩
    go_wp2_with fail
    try rw [hxs]
    refine (Hr1.out _).mono ?_;rintro e u1 ⟨b1,a1,n1,c1,rfl,I1,l1,hx1⟩
    go_wp2_with fail
    refine (HOf.out _).mono ?_;rintro e u2 ⟨b2,a2,n2,c2,rfl,I2,l2,hx2⟩;have bX:=fzbx_new u2 b1 a1 n1 c1 b2 a2 n2 c2;have hqx:=ext_alloc u2 (.cells #[.bool b1,.slice a1 n1 c1,.bool b2,.slice a2 n2 c2] 35);have hq2:=hx1.trans (hx2.trans hqx);have I1:=I1.ext (hx2.trans hqx);have I2:=I2.ext hqx;have bN:=bN.ext hq2;have bR:=bR.ext hq2;have bF:=bF.ext hq2;have HE2:=Lh (HE1.out.trans hq2);have x0:=bX.c0;have x1:=bX.c1;have x2:=bX.c2;have x3:=bX.c3;clear hx1 hx2 hq2 hqx HE1
    go_wp2_with fail
    generalize u2.alloc (.cells #[.bool b1,.slice a1 n1 c1,.bool b2,.slice a2 n2 c2] 35)=W2 at *;generalize u2.heap.size=X at *;clear x0 x1 x2 x3;refine (FText_any b1 a1 n1 c1 b2 a2 n2 c2 z 1 W2 I1 I2 (by omega) (by omega) K hK hK1 Fz.out F1.out).mono ?_;rintro e V ⟨rfl,hxV⟩;have bX:=bX.ext hxV;have x0:=bX.c0;have x1:=bX.c1;have x2:=bX.c2;have x3:=bX.c3;have I1:=I1.ext hxV;have I2:=I2.ext hxV;have HE3:=Lh (HE2.out.trans hxV);have lN:=LN.out;have bN:=bN.ext hxV;have bR:=bR.ext hxV;have bF:=bF.ext hxV;have d0:=bN.c0;have d1:=bN.c1;have d2:=bN.c2;have d3:=bN.c3;have k0:=bR.c0;have k1:=bR.c1;have k2:=bR.c2;have k3:=bR.c3;have f0:=bR.f 0;have f1:=bR.f 1;have f2:=bR.f 2;have f3:=bR.f 3;have k4:=bF.c0;have k5:=bF.c1;have f4:=bF.f0;have f5:=bF.f1
    go_wp2_with fail
    exact qJ (v:=.tuple #[.agg #[.bool b1,.slice a1 n1 c1,.bool b2,.slice a2 n2 c2],.agg #[.int .i64 ((0:Nat):Int),.int .i64 ((0:Nat):Int)]]) (by simp [results,Tryz.results7,go_sem,k0,k1,k2,k3,k4,k5]) rfl ⟨b1,a1,n1,c1,b2,a2,n2,c2,rfl,I1.put6 bR bF (by omega) _ _ _ _ _ _,I2.put6 bR bF (by omega) _ _ _ _ _ _,by omega,by omega,((HE3.out.put2 (by omega) _ _).put2 (by omega) _ _).put2 (by omega) _ _⟩
  ·obtain ⟨v1,v2,v3,v4⟩:=f_bad hg
   rw [v1,v2,v3,v4,hfe]
   have hcase:ok=false\/(ok=true/\∃ h2:en<s.size,((s[en].toNat:Int) == 47)=false):=by
    cases ok
    ·exact qM rfl
    ·right
     have h2:en<s.size:=yB fun h=>hg ⟨hfo,by rw [hfe,hlen];exact h⟩
     refine ⟨rfl,h2,?_⟩;rw [qV,bs_at s en h2];intro hc;exact hsl ⟨hok,by rw [hen,hlen];exact h2,by rw [hen];omega⟩
   clear hsl hg hlen hfe hfo v1 v2 v3 v4 hfit F1 hok h1L hen
   rcases hcase with rfl | ⟨rfl,h2,hb⟩
   ·clear hle
    go_enter Tryz.func7,Tryz.ntmps7
    go_wp2_with fail
    generalize (w.alloc (.cells #[.bool false,.slice none 0 0,.bool false,.slice none 0 0] 35)).alloc (.cells #[.int .i64 0,.int .i64 0] 26)=W0 at *;refine (HOf.out W0).mono ?_;rintro e u0 ⟨b0,a0,n0,c0,rfl,J0,l0,hx0⟩;have hq0:=hx0.trans (ext_alloc u0 (.cells #[.bool false,.slice none 0 0,.bool b0,.slice a0 n0 c0] 35));have bN:=fzbx_new u0 false none 0 0 b0 a0 n0 c0;have J1:=Lh (J0.ext (ext_alloc u0 (.cells #[.bool false,.slice none 0 0,.bool b0,.slice a0 n0 c0] 35)));have lN:w.heap.size+1<u0.heap.size:=qK bF.lt hx0.size;have bR:=bR.ext hq0;have bF:=bF.ext hq0;have HE1:=Lh (hE.trans hq0);have LN:=Lh lN;clear J0 hx0 hq0 hE lN
    go_wp2_with fail
    generalize u0.alloc (.cells #[.bool false,.slice none 0 0,.bool b0,.slice a0 n0 c0] 35)=W1 at *;generalize u0.heap.size=N at *;refine (Hword.out W1).mono ?_;rintro e w1 ⟨rfl,rfl⟩;have lN:=LN.out;have d0:=bN.c0;have d1:=bN.c1;have d2:=bN.c2;have d3:=bN.c3;have k0:=bR.c0;have k1:=bR.c1;have k2:=bR.c2;have k3:=bR.c3;have f0:=bR.f 0;have f1:=bR.f 1;have f2:=bR.f 2;have f3:=bR.f 3;have k4:=bF.c0;have k5:=bF.c1;have f4:=bF.f0;have f5:=bF.f1
    go_wp2_with fail
    exact qJ (v:=.tuple #[.agg #[.bool false,.slice none 0 0,.bool b0,.slice a0 n0 c0],.agg #[.int .i64 1,.int .i64 (en:Int)]]) (by simp [results,Tryz.results7,go_sem,k0,k1,k2,k3,k4,k5]) rfl ⟨false,none,0,0,b0,a0,n0,c0,rfl,IsZ.zero _,(J1.out).put6 bR bF (by omega) _ _ _ _ _ _,by omega,by omega,(((HE1.out).put2 (by omega) _ _).put2 (by omega) _ _).put2 (by omega) _ _⟩
   ·have hli:(en:Int)<(s.size:Int):=by omega
    clear hle
    go_enter Tryz.func7,Tryz.ntmps7
    go_wp2_with fail
    generalize (w.alloc (.cells #[.bool false,.slice none 0 0,.bool false,.slice none 0 0] 35)).alloc (.cells #[.int .i64 0,.int .i64 0] 26)=W0 at *;refine (HOf.out W0).mono ?_;rintro e u0 ⟨b0,a0,n0,c0,rfl,J0,l0,hx0⟩;have hq0:=hx0.trans (ext_alloc u0 (.cells #[.bool false,.slice none 0 0,.bool b0,.slice a0 n0 c0] 35));have bN:=fzbx_new u0 false none 0 0 b0 a0 n0 c0;have J1:=Lh (J0.ext (ext_alloc u0 (.cells #[.bool false,.slice none 0 0,.bool b0,.slice a0 n0 c0] 35)));have lN:w.heap.size+1<u0.heap.size:=qK bF.lt hx0.size;have bR:=bR.ext hq0;have bF:=bF.ext hq0;have HE1:=Lh (hE.trans hq0);have LN:=Lh lN;clear J0 hx0 hq0 hE lN
    go_wp2_with fail
    generalize u0.alloc (.cells #[.bool false,.slice none 0 0,.bool b0,.slice a0 n0 c0] 35)=W1 at *;generalize u0.heap.size=N at *;refine (Hword.out W1).mono ?_;rintro e w1 ⟨rfl,rfl⟩;have lN:=LN.out;have d0:=bN.c0;have d1:=bN.c1;have d2:=bN.c2;have d3:=bN.c3;have k0:=bR.c0;have k1:=bR.c1;have k2:=bR.c2;have k3:=bR.c3;have f0:=bR.f 0;have f1:=bR.f 1;have f2:=bR.f 2;have f3:=bR.f 3;have k4:=bF.c0;have k5:=bF.c1;have f4:=bF.f0;have f5:=bF.f1
    go_wp2_with fail
    exact qJ (v:=.tuple #[.agg #[.bool false,.slice none 0 0,.bool b0,.slice a0 n0 c0],.agg #[.int .i64 1,.int .i64 (en:Int)]]) (by simp [results,Tryz.results7,go_sem,k0,k1,k2,k3,k4,k5]) rfl ⟨false,none,0,0,b0,a0,n0,c0,rfl,IsZ.zero _,(J1.out).put6 bR bF (by omega) _ _ _ _ _ _,by omega,by omega,(((HE1.out).put2 (by omega) _ _).put2 (by omega) _ _).put2 (by omega) _ _⟩
end Go.Proofs.YtjfomkoedgipjaaGreatDoor
