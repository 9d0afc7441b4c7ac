/-
  What is asked of one number of circuits: is it of the eighth roots (Even); how deep it is (Depth). Fractions of the program: Sub, Text. A number of circuits as a fraction, if it is one: Rational. The reference's fractions: FText.
-/
import Derived.Test.YtiicfpdiehgikaaGreatDoorS24Vh
namespace Go.Proofs.YtiicfpdiehgikaaGreatDoor
set_option maxRecDepth 100000
set_option maxHeartbeats 4000000
open Go.RowKit
theorem tw_zero {z:Int} {t:Nat} (h:Tw z.natAbs t):t=0↔z % 2=1:=by
 obtain ⟨m,hm⟩:=h
 constructor
 ·intro h0
  subst h0
  rw [Nat.pow_zero,Nat.one_mul] at hm
  omega
 ·intro h1
  cases t with
  | zero=>rfl
  | succ t =>
   rw [Nat.pow_succ,Nat.mul_assoc,Nat.mul_left_comm] at hm
   omega
theorem odd_any (s:Int) (a:Option Addr) (n c:Nat) (z:Int) (w:World) (hI:IsInt w s a n c z) (hn:n≤16777216) (hbr:Bru w) (B:Bool) (hB:B=true↔z % 2=1) :
  Calls Tryz.prog 103 #[.agg #[.int .i64 s,.slice a n c]] w fun e w'=>e=.returned (.bool B)∧Ext w w':=by
 obtain ⟨U,hU⟩:∃ U,w.alloc (.cells #[.int .i64 s,.slice a n c] 24)=U:=⟨_,rfl⟩
 obtain ⟨H,hH⟩:∃ H,w.heap.size=H:=⟨_,rfl⟩
 have E0:Ext w U:=by rw [←hU];exact Ext.alloc _ _
 have bx:Box U H s a n c:=by rw [←hU,←hH];exact box_new w s a n c
 have l0:=bx.c0;have l1:=bx.c1
 have Hc:=Lib.hid hI.cmp3
 have Hs:=Lib.hid (Sign_any s (.slice a n c) U)
 have HTw:=Lib.hid (fun wx (hx:Ext w wx)=>Twos_any s a n c z wx (hI.ext hx) hn (bru_ext hbr hx))
 have HU:=Lib.hid hU;have HH:=Lib.hid hH;have HE:=Lib.hid E0;have HB:=Lib.hid hB;have Hbx:=Lib.hid bx
 clear hU hH E0 bx hI hbr hB hn
 go_enter Tryz.func103,Tryz.ntmps103
 go_upto_region 1 with fail
 rw [HU.out,HH.out]
 clear HU HH
 go_wp2_with fail
 refine Hs.out.mono ?_
 rintro e w2 ⟨rfl,hx2⟩
 have bx2:=Hbx.out.ext hx2
 have z0:=bx2.c0;have z1:=bx2.c1
 have HE2:=Lib.hid (HE.out.trans hx2)
 clear hx2 l0 l1 Hs bx2 HE Hbx
 rw [Hc.out]
 clear Hc
 by_cases hz:z=0
 ·have b2:(cmp3 z 0 != 0)=false:=by rw [hz];rfl
  have HBf:=Lib.hid (show B=false by
   cases hb:B with
   | false=>rfl
   | true=>have:=HB.out.1 hb;omega)
  clear hz
  go_wp2_with fail
  go_ret
  exact ⟨congrArg (fun b=>Ending.returned (Value.bool b)) HBf.out.symm,HE2.out⟩
 ·have b2:(cmp3 z 0 != 0)=true:=by
   have:cmp3 z 0≠0:=fun e=>hz (cmp3_zero.1 e)
   simp [this]
  have HT:=Lib.hid (HTw.out w2 HE2.out)
  have Hz:=Lib.hid hz
  clear hz HTw
  go_wp2_with fail
  refine HT.out.mono ?_
  rintro e w3 ⟨t,rfl,ht,-,-,hx3⟩
  have HE3:=Lib.hid (HE2.out.trans hx3)
  have HBt:=Lib.hid (show B=((t:Int) == 0) by
   have h1:=tw_zero (ht Hz.out)
   by_cases h0:t=0
   ·rw [HB.out.2 (h1.1 h0),h0];rfl
   ·have h2:((t:Int) == 0)=false:=by rw [beq_eq_false_iff_ne];omega
    rw [h2]
    cases hb:B with
    | false=>rfl
    | true=>exact absurd (h1.2 (HB.out.1 hb)) h0)
  clear ht hx3 HT z0 z1
  go_wp2_with fail
  go_ret
  exact ⟨congrArg (fun b=>Ending.returned (Value.bool b)) HBt.out.symm,HE3.out⟩
theorem evenByRoot_any (g m:Nat) (t:TypeId) (f:Nat→Int) (w:World) (h:Nums w g m t f) (hm:8≤m) (K:Nat) (hK:K≤4194304) (hF:∀ i,i<8→Fit K (f i)) (hbr:Bru w) (B:Bool) (hB:B=true↔∀ i,i<4→f i % 2=f (i+4) % 2) :
  Calls Tryz.prog 73 #[.pointer (some ⟨g,0,none⟩)] w fun e w'=>e=.returned (.bool B)∧Ext w w':=by
 have Hh:=Lib.hid h;have Hm:=Lib.hid hm;have HK:=Lib.hid hK;have HF:=Lib.hid hF;have Hbr:=Lib.hid hbr;have HB:=Lib.hid hB
 clear h hm hK hF hbr hB
 go_enter Tryz.func73,Tryz.ntmps73
 go_wp2_with fail
 go_loopg [3,4] 4 (fun kk s3 s4 wr=>∃ j:Nat,s4=.int .i64 (j:Int)∧j≤4∧4-j=kk∧(∀ i,i<j→f i % 2=f (i+4) % 2)∧Ext w wr)
 case atStart=>exact ⟨0,rfl,by omega,by omega,fun i hi=>by omega,Ext.refl _⟩
 case round =>
  obtain ⟨j,rfl,hj,hjk,hal,hx⟩:=hrel
  obtain ⟨wo,rfl⟩:∃ wo:World,wo=wr:=⟨_,rfl⟩
  have Hal:=Lib.hid hal;have HX:=Lib.hid hx;have Hjk:=Lib.hid hjk
  clear hal hjk
  by_cases hj4:j=4
  ·subst hj4
   have HBt:=Lib.hid (HB.out.2 Hal.out)
   clear hx
   go_wp2_with fail
   go_ret
   exact ⟨congrArg (fun b=>Ending.returned (Value.bool b)) HBt.out.symm,HX.out⟩
  have hlt:j<4:=by omega
  have q1:(j:Int)<4:=by omega
  have q0:(0:Int)≤(j:Int):=by omega
  have q8:(j:Int)<8:=by omega
  obtain ⟨t4,ht4⟩:∃ t4,j+4=t4:=⟨_,rfl⟩
  have w4:IntKind.i64.wrap ((j:Int)+4)=(t4:Int):=by rw [IntKind.wrap_i64];omega
  have p0:(0:Int)≤(t4:Int):=by omega
  have p8:(t4:Int)<8:=by omega
  have wk:IntKind.i64.wrap ((j:Int)+1)=((j+1:Nat):Int):=by rw [IntKind.wrap_i64];omega
  have Hj1:=Lib.hid (show j+1≤4 by omega)
  have hO:=Hh.out.ext hx
  obtain ⟨s8,a8,n8,c8,y0,y1,_,_,hI8⟩:=hO.get j (by have:=Hm.out;omega)
  obtain ⟨s7,a7,n7,c7,z0,z1,_,_,hI7⟩:=hO.get t4 (by have:=Hm.out;omega)
  have hgl:=hO.lt
  have f8:=HF.out j (by omega);have f7:=HF.out t4 (by omega)
  have hK:=HK.out
  have m8:=hI8.len f8;have m7:=hI7.len f7
  obtain ⟨b8,hb8⟩:∃ b:Bool,b=true↔f j % 2=1:=⟨decide (f j % 2=1),by simp⟩
  obtain ⟨b7,hb7⟩:∃ b:Bool,b=true↔f t4 % 2=1:=⟨decide (f t4 % 2=1),by simp⟩
  have HC8:=Lib.hid (fun (wx:World) (hx':Ext wo wx)=>odd_any s8 a8 n8 c8 (f j) wx (hI8.ext hx') (by omega) (bru_ext Hbr.out (hx.trans hx')) b8 hb8)
  have HC7:=Lib.hid (fun (wx:World) (hx':Ext wo wx)=>odd_any s7 a7 n7 c7 (f t4) wx (hI7.ext hx') (by omega) (bru_ext Hbr.out (hx.trans hx')) b7 hb7)
  have Hb8:=Lib.hid hb8;have Hb7:=Lib.hid hb7;have Hlt:=Lib.hid hlt;have Ht4:=Lib.hid ht4
  clear ht4 hI8 hI7 f8 f7 hK m8 m7 hb8 hb7 hO hx hj hj4 hlt
  go_upto_region 4 with fail
  have h0d:Ext wo wo.drew:=Below.drew (Ext.refl _)
  go_region_held3 (fun w'=>w'.cell? ⟨g,j*2,none⟩=some (.int .i64 s8)∧w'.cell? ⟨g,j*2+1,none⟩=some (.slice a8 n8 c8)∧w'.cell? ⟨g,t4*2,none⟩=some (.int .i64 s7)∧w'.cell? ⟨g,t4*2+1,none⟩=some (.slice a7 n7 c7))
   (exact ⟨cellKeep (W:=wo) (by assumption) hgl y0,cellKeep (W:=wo) (by assumption) hgl y1,cellKeep (W:=wo) (by assumption) hgl z0,cellKeep (W:=wo) (by assumption) hgl z1⟩)
   (first
    | (have _:=qv0;go_at_call 103;refine (HC7.out _ hv0).mono ?_;rintro e v1 ⟨rfl,qv1⟩;have hv1:Ext wo v1:=hv0.trans qv1)
    | (go_at_call 103;refine (HC8.out _ (by assumption)).mono ?_;rintro e v0 ⟨rfl,qv0⟩;have hv0:Ext wo v0:=Ext.trans (by assumption) qv0))
  have HE2:=Lib.hid (HX.out.trans hv1)
  clear hv0 qv0 hv1 qv1 y0 y1 z0 z1 HC8 HC7 hgl h0d HX
  by_cases h0:b8=b7
  ·have b1:(b8 == b7)=true:=by rw [h0];simp
   have Hal':=Lib.hid (show ∀ i,i<j+1→f i % 2=f (i+4) % 2 from fun i hi=>by
    by_cases e:i=j
    ·rw [e,Ht4.out]
     have h1:=Hb8.out;have h2:=Hb7.out
     rw [h0] at h1
     have h3:=h1.symm.trans h2
     omega
    ·exact Hal.out i (by omega))
   clear h0 Hb8 Hb7
   rw [b1]
   go_wp2_with fail
   go_roundg (4-(j+1))
   case measure=>have:=Hjk.out;have:=Hj1.out;omega
   case rel=>exact ⟨j+1,rfl,Hj1.out,rfl,Hal'.out,HE2.out⟩
  ·have b1:(b8 == b7)=false:=by simp [h0]
   have HBf:=Lib.hid (show B=false by
    cases hb:B with
    | false=>rfl
    | true =>
     have h1:=HB.out.1 hb j Hlt.out
     rw [Ht4.out] at h1
     have h2:=Hb8.out;have h3:=Hb7.out
     rw [h1] at h2
     exact absurd (Bool.eq_iff_iff.2 (h2.trans h3.symm)) h0)
   clear h0 Hb8 Hb7
   rw [b1]
   go_wp2_with fail
   go_ret
   exact ⟨congrArg (fun b=>Ending.returned (Value.bool b)) HBf.out.symm,HE2.out⟩
theorem Even_nm (ca:Array Value) (x:Nm) (P E:Nat) (w:World) (h:NmA w ca x P E) (B:Bool) (hB:B=true↔∀ i:Nat,i<4→x.a (2*i+1:Nat)=0) :
  Calls Tryz.prog 17 #[.agg ca] w fun e w'=>e=.returned (.bool B)∧Ext w w':=by
 obtain ⟨f,hf⟩:∃ f,nmF x=f:=⟨_,rfl⟩
 have hv:=h.val
 rw [hf] at hv
 have HB:=Lib.hid (show B=true↔∀ i,i<4→f (2*i+1)=0 from hB.trans (by
  rw [←hf]
  constructor
  ·intro h i hi;unfold nmF;rw [if_neg (by omega)];exact h i hi
  ·intro h i hi;have:=h i hi;unfold nmF at this;rw [if_neg (by omega)] at this;exact this))
 obtain ⟨H,hH⟩:∃ H,w.heap.size=H:=⟨_,rfl⟩
 obtain ⟨U,hU⟩:∃ U,w.alloc (.cells ca 28)=U:=⟨_,rfl⟩
 have E0:Ext w U:=by rw [←hU];exact Ext.alloc _ _
 have N0:Nums U H 9 28 f:=by rw [←hU,←hH];exact hv.box 28
 have HU:=Lib.hid hU;have HH:=Lib.hid hH;have Hh:=Lib.hid N0;have HE0:=Lib.hid E0
 clear hU hH N0 E0 hv h hB hf
 go_enter Tryz.func17,Tryz.ntmps17
 go_wp2_with fail
 rw [HU.out,HH.out]
 clear HU
 go_loopg [3] 4 (fun kk s3 wr=>∃ j:Nat,s3=.int .i64 ((2*j+1:Nat):Int)∧j≤4∧4-j=kk∧(∀ i,i<j→f (2*i+1)=0)∧Ext U wr)
 case atStart=>exact ⟨0,rfl,by omega,by omega,fun i hi=>by omega,Ext.refl _⟩
 case round =>
  obtain ⟨j,rfl,hj,hjk,hal,hx⟩:=hrel
  obtain ⟨wo,rfl⟩:∃ wo:World,wo=wr:=⟨_,rfl⟩
  have Hal:=Lib.hid hal;have HX:=Lib.hid hx;have Hjk:=Lib.hid hjk
  clear hal hjk
  by_cases hj4:j=4
  ·subst hj4
   have HBt:=Lib.hid (HB.out.2 Hal.out)
   have HE:=Lib.hid (HE0.out.trans hx)
   clear hx
   go_wp2_with fail
   go_ret
   exact ⟨congrArg (fun b=>Ending.returned (Value.bool b)) HBt.out.symm,HE.out⟩
  obtain ⟨t,ht⟩:∃ t,2*j+1=t:=⟨_,rfl⟩
  have wk:IntKind.i64.wrap ((t:Int)+2)=((2*(j+1)+1:Nat):Int):=by rw [IntKind.wrap_i64];omega
  have q0:(0:Int)≤(t:Int):=by omega
  have q8:(t:Int)<8:=by omega
  have Hj1:=Lib.hid (show j+1≤4 by omega)
  obtain ⟨s,a,n,c,y0,y1,_,_,hI⟩:=(Hh.out.ext hx).get t (by omega)
  have Hc:=Lib.hid hI.cmp3
  have Hs:=Lib.hid (Sign_any s (.slice a n c) wo)
  have Ht:=Lib.hid ht;have Hlt:=Lib.hid (show j<4 by omega)
  rw [ht]
  clear hI hx hj hj4 ht
  go_wp2_with fail
  refine Hs.out.mono ?_
  rintro e w2 ⟨rfl,hx2⟩
  have HX2:=Lib.hid (HX.out.trans hx2);have HE2:=Lib.hid (HE0.out.trans (HX.out.trans hx2))
  clear hx2 y0 y1 Hs HX
  rw [Hc.out]
  clear Hc
  by_cases hz:f t=0
  ·have b1:(cmp3 (f t) 0 != 0)=false:=by rw [hz];rfl
   have Hal':=Lib.hid (show ∀ i,i<j+1→f (2*i+1)=0 from fun i hi=>by
    by_cases e:i=j
    ·rw [e,Ht.out];exact hz
    ·exact Hal.out i (by omega))
   clear hz
   go_wp2_with fail
   go_roundg (4-(j+1))
   case measure=>have:=Hjk.out;have:=Hj1.out;omega
   case rel=>exact ⟨j+1,rfl,Hj1.out,rfl,Hal'.out,HX2.out⟩
  ·have b1:(cmp3 (f t) 0 != 0)=true:=by
    have:cmp3 (f t) 0≠0:=fun e=>hz (cmp3_zero.1 e)
    simp [this]
   have HBf:=Lib.hid (show B=false by
    cases hb:B with
    | false=>rfl
    | true=>have:=HB.out.1 hb j Hlt.out;rw [Ht.out] at this;exact absurd this hz)
   clear hz
   go_wp2_with fail
   go_ret
   exact ⟨congrArg (fun b=>Ending.returned (Value.bool b)) HBf.out.symm,HE2.out⟩
theorem Depth_nm (ca:Array Value) (x:Nm) (P E:Nat) (w:World) (h:NmA w ca x P E) (K:Nat) (hK:K≤4194304) (hK1:1≤K) (hP:P≤64*K) (hE:E≤1099511627776) (hbr:Bru w) :
  Calls Tryz.prog 19 #[.agg ca] w fun e w'=>e=.returned (.int .i64 (dep x:Nat))∧Ext w w':=by
 obtain ⟨d,hd⟩:∃ d,dep x=d:=⟨_,rfl⟩
 rw [hd]
 obtain ⟨f,hf⟩:∃ f,nmF x=f:=⟨_,rfl⟩
 have hv:=h.val
 rw [hf] at hv
 have h8:f 8=(x.e:Int):=by rw [←hf];rfl
 have hdn:=h.down
 obtain ⟨B,hB⟩:∃ B:Bool,B=true↔evR x.a:=by
  by_cases he:evR x.a
  ·exact ⟨true,by simp [he]⟩
  ·exact ⟨false,by simp [he]⟩
 have hBf:B=true↔∀ i,i<4→f i % 2=f (i+4) % 2:=by
  rw [hB,evR_iff h.anti,←hf]
  constructor
  ·intro g i hi;have:=g i hi;unfold nmF;rw [if_neg (by omega),if_neg (by omega)];exact this
  ·intro g i hi;have:=g i hi;unfold nmF at this;rw [if_neg (by omega),if_neg (by omega)] at this;exact this
 have hF:∀ i,i<8→Fit K (f i):=fun i hi=>by
  have:=nmF_abs h.abs i hi;rw [hf] at this;exact fit_pow this hP
 have hf8:Fit K (f 8):=by rw [h8];exact fit_small (by omega) hK1
 obtain ⟨H,hH⟩:∃ H,w.heap.size=H:=⟨_,rfl⟩
 obtain ⟨U,hU⟩:∃ U,w.alloc (.cells ca 28)=U:=⟨_,rfl⟩
 have E0:Ext w U:=by rw [←hU];exact Ext.alloc _ _
 have N0:Nums U H 9 28 f:=by rw [←hU,←hH];exact hv.box 28
 obtain ⟨s,a,n,c,y0,y1,_,_,hI⟩:=N0.get 8 (by omega)
 have HA:=Lib.hid (Add_any s s a a n c n c _ _ U hI hI K hK hf8 hf8)
 have HEv:=Lib.hid (fun wx (hx:Ext U wx)=>evenByRoot_any H 9 28 f wx (N0.ext hx) (by omega) K hK hF (bru_ext hbr (E0.trans hx)) B hBf)
 have HU:=Lib.hid hU;have HH:=Lib.hid hH;have HE0:=Lib.hid E0
 have Hx:=Lib.hid (show x.e≤1099511627776 by omega);have H8:=Lib.hid h8;have HB:=Lib.hid hB;have Hd:=Lib.hid hd
 clear hU hH N0 E0 hv h hd hf h8 hdn hB hBf hF hf8 hI hbr hK hK1 hP hE
 go_enter Tryz.func19,Tryz.ntmps19
 go_upto_region 1 with fail
 rw [HU.out,HH.out]
 clear HU
 go_wp2_with fail
 refine HA.out.mono ?_
 rintro e w1 ⟨s',a',n',c',rfl,hI1,hx1⟩
 have hz:f 8+f 8=((2*x.e:Nat):Int):=by rw [H8.out];omega
 have hS:=Small_any s' a' n' c' _ w1 (hI1.cast hz)
 have hxe:=Hx.out
 rw [if_pos (by omega),decide_eq_true (by omega)] at hS
 have HS:=Lib.hid hS
 have HX1:=Lib.hid hx1
 clear hS hI1 hz hxe hx1 HA y0 y1
 obtain ⟨q,hq⟩:∃ q,2*x.e=q:=⟨_,rfl⟩
 rw [hq] at HS
 have Hq:=Lib.hid hq
 clear hq
 go_wp2_with fail
 refine HS.out.mono ?_
 rintro e w2 ⟨rfl,hx2⟩
 have HX2:=Lib.hid (HX1.out.trans hx2)
 clear hx2 HS HX1
 by_cases h0:q=0
 ·have q1:decide ((0:Int)<(q:Int))=false:=by simp;omega
  have q2:¬ (0:Int)<(q:Int):=by omega
  have HR:=Lib.hid (show ((q:Int))=(d:Int) by
   have h1:=Hq.out;have h2:=Hd.out
   unfold dep at h2
   rw [if_pos (by omega)] at h2
   omega)
  have HE2:=Lib.hid (HE0.out.trans HX2.out)
  clear h0
  go_wp2_with fail
  go_ret
  exact ⟨congrArg (fun b=>Ending.returned (Value.int .i64 b)) HR.out,HE2.out⟩
 ·have q2:(0:Int)<(q:Int):=by omega
  have q3:0<q:=by omega
  have HEv2:=Lib.hid (HEv.out w2 HX2.out)
  have H0:=Lib.hid h0
  clear h0 HEv
  go_wp2_with fail
  refine HEv2.out.mono ?_
  rintro e w3 ⟨rfl,hx3⟩
  have HE3:=Lib.hid (HE0.out.trans (HX2.out.trans hx3))
  clear hx3 HEv2 HX2
  cases B
  ·have HR:=Lib.hid (show ((q:Int))=(d:Int) by
    have h1:=Hq.out;have h2:=Hd.out;have h3:=H0.out
    have h4:¬ evR x.a:=fun e=>by have:=HB.out.2 e;cases this
    unfold dep at h2
    rw [if_neg (by omega),if_neg h4] at h2
    omega)
   go_wp2_with fail
   go_ret
   exact ⟨congrArg (fun b=>Ending.returned (Value.int .i64 b)) HR.out,HE3.out⟩
  ·have wk:IntKind.i64.wrap ((q:Int)-1)=((q-1:Nat):Int):=by
    have h1:=Hq.out;have h2:=Hx.out
    rw [IntKind.wrap_i64];omega
   have HR:=Lib.hid (show (((q-1:Nat):Int))=(d:Int) by
    have h1:=Hq.out;have h2:=Hd.out;have h3:=H0.out
    have h4:evR x.a:=HB.out.1 rfl
    unfold dep at h2
    rw [if_neg (by omega),if_pos h4] at h2
    omega)
   obtain ⟨r,hr⟩:∃ r:Int,((q-1:Nat):Int)=r:=⟨_,rfl⟩
   rw [hr] at wk HR
   clear hr
   go_wp2_with fail
   go_ret
   exact ⟨congrArg (fun b=>Ending.returned (Value.int .i64 b)) HR.out,HE3.out⟩
theorem itoa_len {K:Nat} {z:Int} (hK1:1≤K) (hf:Fit K z):(Lib.itoa z).length≤64*K+1:=by
 have h1:(Lib.itoa z).length=(txt z).length:=by unfold txt;rw [List.length_map]
 have h2:(txt z).length-sgl (txt z)=(decN z.natAbs).length:=by rw [←txt_drop,List.length_drop]
 have h3:=sgl_le (txt z)
 have h4:z.natAbs<10 ^ (64*K):=by
  refine Nat.lt_of_lt_of_le hf ?_
  rw [B64_two,←Nat.pow_mul]
  exact Nat.pow_le_pow_left (by decide) _
 have h5:=nDigits_le (64*K) z.natAbs (by omega) h4
 rw [decN_length] at h2
 omega
def ftx (P Q:Int):ByteArray:=if Q=1 then ⟨(Lib.itoa P).toArray⟩ else ⟨(Lib.itoa P).toArray⟩++⟨#[47]⟩++⟨(Lib.itoa Q).toArray⟩
theorem QText_any (s1:Int) (a1:Option Addr) (n1 c1:Nat) (s1x:Int) (a1x:Option Addr) (n1x c1x:Nat) (P Q:Int) (w:World) (h1:IsFr w s1 a1 n1 c1 s1x a1x n1x c1x P Q) (K:Nat) (hK:K≤100000) (hK1:1≤K) (fP:Fit K P) (fQ:Fit K Q) (htab:Ten w) :
  Calls Tryz.prog 13 #[.agg #[.int .i64 s1,.slice a1 n1 c1,.int .i64 s1x,.slice a1x n1x c1x]] w fun e w'=>e=.returned (.string (ftx P Q))∧Ext w w':=by
 have FP:=hid fP;have FQ:=hid fQ;have Htab:=hid htab;have H1:=hid h1
 have F1:Hid (Fit K 1):=by
  show _<_
  exact Nat.lt_of_lt_of_le (by rw [B64_eq];decide) (Nat.pow_le_pow_right (n:=B64) (by rw [B64_eq];decide) hK1)
 clear fP fQ htab h1
 obtain ⟨k,hk⟩:∃ k,cmp3 Q 1=k:=⟨_,rfl⟩
 have Ek:=hid hk
 have HOf:=hid (fun wx=>Of_any 1 (by omega) (by omega) wx)
 have hK4:K≤4194304:=by omega
 go_enter Tryz.func13,Tryz.ntmps13
 go_wp2_with fail
 have hE:Ext w (w.alloc (.cells #[.int .i64 s1,.slice a1 n1 c1,.int .i64 s1x,.slice a1x n1x c1x] 45)):=Ext.alloc w (.cells #[.int .i64 s1,.slice a1 n1 c1,.int .i64 s1x,.slice a1x n1x c1x] 45)
 generalize w.alloc (.cells #[.int .i64 s1,.slice a1 n1 c1,.int .i64 s1x,.slice a1x n1x c1x] 45)=W0 at *
 refine (Parts_fr s1 s1x a1 a1x n1 c1 n1x c1x P Q W0 (H1.out.ext hE)).mono ?_
 rintro e u1 ⟨s3,a3,n3,c3,s4,a4,n4,c4,rfl,I3,I4,hx1⟩
 have hq1:=(Ext.alloc u1 (.cells #[.int .i64 s3,.slice a3 n3 c3] 24)).then (.cells #[.int .i64 s4,.slice a4 n4 c4] 24)
 have b3:=(box_new u1 s3 a3 n3 c3).ext (Ext.alloc _ (.cells #[.int .i64 s4,.slice a4 n4 c4] 24))
 have b4:=box_new (u1.alloc (.cells #[.int .i64 s3,.slice a3 n3 c3] 24)) s4 a4 n4 c4
 rw [show (u1.alloc (.cells #[.int .i64 s3,.slice a3 n3 c3] 24)).heap.size=u1.heap.size+1 from by simp] at b4
 have IA:=I3.ext hq1;have IB:=I4.ext hq1
 have HE1:=hid (hE.trans (hx1.trans hq1))
 have hlA:=IA.len FP.out;have hlB:=IB.len FQ.out
 clear I3 I4 hq1 hx1
 go_wp2_with fail
 generalize (u1.alloc (.cells #[.int .i64 s3,.slice a3 n3 c3] 24)).alloc (.cells #[.int .i64 s4,.slice a4 n4 c4] 24)=W1 at *
 generalize u1.heap.size=A at *
 have m0:=b3.c0;have m1:=b3.c1;have m2:=b4.c0;have m3:=b4.c1
 have lA:=b3.lt;have lB:=b4.lt
 clear b3 b4
 have h0d:Ext W1 W1.drew:=Below.drew (Ext.refl _)
 go_region_held3 (fun w'=>w'.cell? ⟨A+1,0,none⟩=some (.int .i64 s4)∧w'.cell? ⟨A+1,1,none⟩=some (.slice a4 n4 c4))
  (exact ⟨cellKeep (W:=W1) (by assumption) lB m2,cellKeep (W:=W1) (by assumption) lB m3⟩)
  (first
   | (have _:=qv0;go_at_call 70;refine (Cmp_is k (IB.ext hv0) Kv0 K hK4 FQ.out F1.out Ek.out).mono ?_;rintro e v1 ⟨rfl,qv1⟩;have hv1:Ext W1 v1:=hv0.trans qv1)
   | (go_at_call 44;refine (HOf.out _).mono ?_;rintro e v0 ⟨rfl,Kv0,qv0⟩;have hv0:Ext W1 v0:=Ext.trans (by assumption) qv0))
 have IA:=IA.ext hv1;have IB:=IB.ext hv1
 have m0:=cellKeep hv1 lA m0;have m1:=cellKeep hv1 lA m1;have m2:=cellKeep hv1 lB m2;have m3:=cellKeep hv1 lB m3
 have lA:=Nat.lt_of_lt_of_le lA hv1.size;have lB:=Nat.lt_of_lt_of_le lB hv1.size
 have HE2:=hid (HE1.out.trans hv1)
 clear hv0 qv0 hv1 qv1 Kv0 HE1 h0d
 by_cases hq:Q=1
 ·have hk0:k=0:=by rw [←hk,hq];decide
  subst hk0
  have Hft:Hid (ftx P Q=⟨(Lib.itoa P).toArray⟩):=by show _=_;unfold ftx;rw [if_pos hq]
  clear hk hq Ek
  go_wp2_with fail
  refine (Text_any s3 a3 n3 c3 P v1 IA (by omega) (tab_ext Htab.out HE2.out)).mono ?_
  rintro e v2 ⟨rfl,hx2⟩
  go_wp2_with fail
  go_ret
  exact ⟨by show _=_;rw [Hft.out];rfl,HE2.out.trans hx2⟩
 ·have hk0:(k == 0)=false:=by
   rw [beq_eq_false_iff_ne]
   intro h0
   rw [h0] at hk
   unfold cmp3 at hk
   by_cases h1:Q<1
   ·rw [if_pos h1] at hk;omega
   ·rw [if_neg h1] at hk
    by_cases h2:1<Q
    ·rw [if_pos h2] at hk;omega
    ·omega
  have Hft:Hid (ftx P Q=⟨(Lib.itoa P).toArray⟩++⟨#[47]⟩++⟨(Lib.itoa Q).toArray⟩):=by show _=_;unfold ftx;rw [if_neg hq]
  rw [hk0]
  have hs1:=itoa_len hK1 FP.out;have hs2:=itoa_len hK1 FQ.out
  have ht1:¬ 9223372036854775807<(Lib.itoa P).length+1:=by omega
  have ht2:¬ 9223372036854775807<(Lib.itoa P).length+1+(Lib.itoa Q).length:=by omega
  clear hk hq Ek hk0 hs1 hs2
  have h0d:Ext v1 v1.drew:=Below.drew (Ext.refl _)
  go_wp2_with fail
  go_region_held3 (fun w'=>w'.cell? ⟨A,0,none⟩=some (.int .i64 s3)∧w'.cell? ⟨A,1,none⟩=some (.slice a3 n3 c3)∧w'.cell? ⟨A+1,0,none⟩=some (.int .i64 s4)∧w'.cell? ⟨A+1,1,none⟩=some (.slice a4 n4 c4))
   (exact ⟨cellKeep (W:=v1) (by assumption) lA m0,cellKeep (W:=v1) (by assumption) lA m1,cellKeep (W:=v1) (by assumption) lB m2,cellKeep (W:=v1) (by assumption) lB m3⟩)
   (first
    | (have _:=qr0;go_at_call 60;refine (Text_any s4 a4 n4 c4 Q _ (IB.ext hr0) (by omega) (tab_ext Htab.out (HE2.out.trans hr0))).mono ?_;rintro e r1 ⟨rfl,qr1⟩;have hr1:Ext v1 r1:=hr0.trans qr1)
    | (go_at_call 60;refine (Text_any s3 a3 n3 c3 P _ (IA.ext (by assumption)) (by omega) (tab_ext Htab.out (HE2.out.trans (by assumption)))).mono ?_;rintro e r0 ⟨rfl,qr0⟩;have hr0:Ext v1 r0:=Ext.trans (by assumption) qr0))
  go_wp2_with fail
  go_ret
  exact ⟨by show _=_;rw [Hft.out];rfl,HE2.out.trans hr1⟩
theorem fr_info:(Tryz.prog.info? 45).map (·.size)=some 4:=by kernel_rfl
theorem fr_one (s:Int) (a:Option Addr) (n c:Nat) (s':Int) (a':Option Addr) (n' c':Nat):(#[.int .i64 s,.slice a n c,.int .i64 s',.slice a' n' c']:Array Value).all (·.oneCell')=true:=by simp [Value.oneCell']
theorem ext_setRow {w w':World} (h:Ext w w') {g:Nat} (hg:w.heap.size≤g) (cs:Array Value):Ext w (w'.setRow g cs):=by
 have c:=setRow_only w' g cs
 refine ⟨c.os.trans h.os,c.tape.trans h.tape,c.output.trans h.output,by rw [c.size];exact h.size,fun k hk=>?_⟩
 rw [c.block k (by omega)]
 exact h.block k hk
theorem keepZ_row {w:World} {g:Nat} {cs:Array Value} {t:TypeId} (hr:w.heap[g]?=some (.cells cs t (0,0))) (hz:∀ (i:Nat) (x:Int),cs[i]?≠some (Value.int .u64 x)) (cs':Array Value):Keep64 w (w.setRow g cs'):=keep_only (setRow_only w g cs') hr hz
theorem Rational_nm (ca:Array Value) (x:Nm) (P E:Nat) (w:World) (h:NmA w ca x P E) (K:Nat) (hK:K≤4194304) (hK1:1≤K) (hP:P≤64*K) (hE:E+1≤64*K) (hE2:E≤1099511627776) (hbr:Bru w) (B:Bool) (hB:B=true↔lenN (nmF x) 8=1) :
  Calls Tryz.prog 11 #[.agg ca] w fun e w'=>∃ (s:Int) (a:Option Addr) (n c:Nat) (s':Int) (a':Option Addr) (n' c':Nat),e=.returned (.tuple #[.agg #[.int .i64 s,.slice a n c,.int .i64 s',.slice a' n' c'],.bool B])∧IsFr w' s a n c s' a' n' c' (if B then nfp (x.a 0) ((2 ^ x.e:Nat):Int) else 0) (if B then nfq (x.a 0) ((2 ^ x.e:Nat):Int) else 1)∧Ext w w':=by
 obtain ⟨f,hf⟩:∃ f,nmF x=f:=⟨_,rfl⟩
 have hv:=h.val
 rw [hf] at hv hB
 have h8:f 8=(x.e:Int):=by rw [←hf];rfl
 have h0:f 0=x.a 0:=by rw [←hf];rfl
 have hdn:=h.down
 have hf0:Fit K (x.a 0):=fit_pow (h.abs 0) hP
 have hf2:Fit K ((2 ^ x.e:Nat):Int):=fit_pow (P:=x.e+1) (by rw [Int.natAbs_natCast];exact Nat.pow_lt_pow_right (by decide) (by omega)) (by omega)
 obtain ⟨H,hH⟩:∃ H,w.heap.size=H:=⟨_,rfl⟩
 obtain ⟨U,hU⟩:∃ U,(w.alloc (.cells ca 28)).alloc (.cells #[.int .i64 0,.slice none 0 0,.int .i64 0,.slice none 0 0] 45)=U:=⟨_,rfl⟩
 have E0:Ext w U:=by rw [←hU];exact (Ext.alloc _ _).trans (Ext.alloc _ _)
 have N0:Nums U H 9 28 f:=by rw [←hU,←hH];exact (hv.box 28).ext (Ext.alloc _ _)
 have R0:U.heap[H+1]?=some (.cells #[.int .i64 0,.slice none 0 0,.int .i64 0,.slice none 0 0] 45 (0,0)):=by
  have:=heap_alloc_new (w.alloc (.cells ca 28)) (.cells #[.int .i64 0,.slice none 0 0,.int .i64 0,.slice none 0 0] 45)
  rw [←hU,←hH]
  simpa using this
 obtain ⟨L,hL⟩:∃ L,lenN f 8=L:=⟨_,rfl⟩
 have hLp:=lenN_pos f 8 (by decide)
 have hLe:=rowLength_any H 9 28 f U N0 (by omega)
 rw [hL] at hLe hB hLp
 have HLe:=Lib.hid hLe
 have HU:=Lib.hid hU;have HH:=Lib.hid hH;have HE0:=Lib.hid E0;have HN0:=Lib.hid N0;have HR0:=Lib.hid R0;have HB:=Lib.hid hB;have HLp:=Lib.hid hLp
 have H8:=Lib.hid h8;have H0:=Lib.hid h0;have Hdn:=Lib.hid hdn;have Hf0:=Lib.hid hf0;have Hf2:=Lib.hid hf2;have HK:=Lib.hid hK;have HK1:=Lib.hid hK1;have HE2:=Lib.hid hE2;have Hbr:=Lib.hid hbr
 clear h hv h8 h0 hdn hf0 hf2 hU hH E0 N0 R0 hL hLp hB hK hK1 hP hE hE2 hbr hf hLe
 go_enter Tryz.func11,Tryz.ntmps11
 go_upto_region 1 with fail
 rw [HU.out,HH.out]
 clear HU
 go_wp2_with fail
 refine HLe.out.mono ?_
 rintro e w1 ⟨rfl,hx1⟩
 have HX1:=Lib.hid hx1
 clear hx1 HLe
 by_cases hL1:L=1
 ·subst hL1
  have HBt:=Lib.hid (HB.out.2 rfl)
  obtain ⟨s8,a8,n8,c8,y0,y1,_,_,hI8⟩:=(HN0.out.ext HX1.out).get 8 (by omega)
  have hS:=Small_any s8 a8 n8 c8 _ w1 hI8
  have hxe:=Hdn.out;have hxe2:=HE2.out;have e8:=H8.out
  rw [if_pos (by omega),decide_eq_true (by omega),H8.out] at hS
  have HS:=Lib.hid hS
  clear hS hI8 hxe hxe2 e8
  go_wp2_with fail
  refine HS.out.mono ?_
  rintro e w2 ⟨rfl,hx2⟩
  have HX2:=Lib.hid (HX1.out.trans hx2)
  clear hx2 HS HX1 y0 y1
  go_upto_region 4 with fail
  go_cut [6] from 18 to 27 (fun s6 wx=>∃ (D:Nat) (s:Int) (a:Option Addr) (n c:Nat) (s':Int) (a':Option Addr) (n' c':Nat),s6=.pointer (some ⟨D,0,none⟩)∧wx.heap[D]?=some (.cells #[.int .i64 s,.slice a n c,.int .i64 s',.slice a' n' c'] 45 (0,0))∧IsFr wx s a n c s' a' n' c' (nfp (x.a 0) ((2 ^ x.e:Nat):Int)) (nfq (x.a 0) ((2 ^ x.e:Nat):Int))∧w2.heap.size≤D∧Ext w2 wx)
  case first =>
   obtain ⟨s0,a0,n0,c0,y0,y1,_,_,hI0⟩:=(HN0.out.ext HX2.out).get 0 (by omega)
   have lH:=(HN0.out.ext HX2.out).lt
   have he0:Ext w2 w2.drew:=Below.drew (Ext.refl _)
   have HSh:=Lib.hid (fun wx (hx:Ext w2 wx) (hI:IsInt wx 1 none 0 0 1)=>shift_any 1 none 0 0 1 (x.e:Int) ((2 ^ x.e:Nat):Int) wx hI K HK.out HK1.out (fit_small (z:=1) (by decide) HK1.out) Hf2.out (by omega) (by have:=Hdn.out;have:=HE2.out;omega) (Or.inl ⟨by omega,by rw [Int.one_mul,Int.toNat_natCast]⟩) (bru_ext Hbr.out ((HE0.out.trans HX2.out).trans hx)))
   have HOv:=Lib.hid (fun wx (hx:Ext w2 wx) s a n c (hI:IsInt wx s a n c ((2 ^ x.e:Nat):Int))=>Over_fr s0 s a0 a n0 c0 n c (x.a 0) ((2 ^ x.e:Nat):Int) wx ((hI0.cast H0.out).ext hx) hI K HK.out HK1.out Hf0.out Hf2.out (bru_ext Hbr.out ((HE0.out.trans HX2.out).trans hx)))
   have HS:∀ w',Ext w2 w'→w'.cell? ⟨H,0,none⟩=some (.int .i64 s0)∧w'.cell? ⟨H,1,none⟩=some (.slice a0 n0 c0):=fun w' hx=>⟨cellKeep hx lH y0,cellKeep hx lH y1⟩
   clear hI0
   refine wp_region_held (S:=fun w'=>w'.cell? ⟨H,0,none⟩=some (.int .i64 s0)∧w'.cell? ⟨H,1,none⟩=some (.slice a0 n0 c0)) (by kernel_rfl) ?_
   generalize hops:(#[_,_,_,_,_,_,_,_,_,_,_,_,_,_]:Array Oper)=ops
   have hA0:IsAlloc Tryz.prog ops 10 6 45 #[.int .i64 0,.slice none 0 0,.int .i64 0,.slice none 0 0]:=by
    subst hops
    exact ⟨_,rfl,rfl,fun _=>rfl,fun _ _=>by kernel_rfl⟩
   have hA1:IsAlloc Tryz.prog ops 11 7 30 #[.int .i64 0,.int .i64 0]:=by
    subst hops
    exact ⟨_,rfl,rfl,fun _=>rfl,fun _ _=>by kernel_rfl⟩
   subst hops
   refine (Flo2.start (W0:=w2) (ty:=45) (z:=#[.int .i64 0,.slice none 0 0,.int .i64 0,.slice none 0 0]) (ty':=30) (z':=#[.int .i64 0,.int .i64 0]) (l:=(fun p q=>#[false,false,false,false,false,false,false,false,false,false,p,q,false,false])) (fr:=(fun t t'=>⟨#[.agg ca,.pointer (some ⟨H,0,none⟩),.pointer (some ⟨H+1,0,none⟩),.bool false,.int .i64 (x.e:Int),.bool true,t,t',.pointer (some ⟨H,0,none⟩),.int .i64 1,.bool false,undef,.tuple #[.int .i64 (x.e:Int),.bool true],.pointer (some ⟨H,16,none⟩),.agg #[.int .i64 s8,.slice a8 n8 c8],.tuple #[.int .i64 (x.e:Int),.bool true],.int .i64 (x.e:Int),.bool true,undef,undef,undef,undef,undef,undef,undef,undef,undef,undef,undef],[]⟩)) (n:=12) ?_)
   refine Flo2.take HS he0 0 (.pointer (some ⟨H,0,none⟩)) rfl (by kernel_rfl) (fun p q=>by cases p<;>cases q<;>kernel_rfl) (fun p q=>by cases p<;>cases q<;>kernel_rfl) (fun _ _ _ h=>h) (fun t t'=>Or.inl ⟨by kernel_rfl,?_⟩) (fun p q=>#[true,false,false,false,false,false,false,false,false,false,p,q,false,false]) (fun p q=>by cases p<;>cases q<;>kernel_rfl) (fun t t'=>⟨#[.agg ca,.pointer (some ⟨H,0,none⟩),.pointer (some ⟨H+1,0,none⟩),.bool false,.int .i64 (x.e:Int),.bool true,t,t',.pointer (some ⟨H,0,none⟩),.int .i64 1,.bool false,undef,.tuple #[.int .i64 (x.e:Int),.bool true],.pointer (some ⟨H,16,none⟩),.agg #[.int .i64 s8,.slice a8 n8 c8],.tuple #[.int .i64 (x.e:Int),.bool true],.int .i64 (x.e:Int),.bool true,undef,.pointer (some ⟨H,0,none⟩),undef,undef,undef,undef,undef,undef,undef,undef,undef],[]⟩) (fun _ _=>by kernel_rfl) ?_
   ·intro w hSw
    kernel_rfl
   refine Flo2.take HS he0 1 (.pointer (some ⟨H,0,none⟩)) rfl (by kernel_rfl) (fun p q=>by cases p<;>cases q<;>kernel_rfl) (fun p q=>by cases p<;>cases q<;>kernel_rfl) (fun _ _ _ h=>h) (fun t t'=>Or.inl ⟨by kernel_rfl,?_⟩) (fun p q=>#[true,true,false,false,false,false,false,false,false,false,p,q,false,false]) (fun p q=>by cases p<;>cases q<;>kernel_rfl) (fun t t'=>⟨#[.agg ca,.pointer (some ⟨H,0,none⟩),.pointer (some ⟨H+1,0,none⟩),.bool false,.int .i64 (x.e:Int),.bool true,t,t',.pointer (some ⟨H,0,none⟩),.int .i64 1,.bool false,undef,.tuple #[.int .i64 (x.e:Int),.bool true],.pointer (some ⟨H,16,none⟩),.agg #[.int .i64 s8,.slice a8 n8 c8],.tuple #[.int .i64 (x.e:Int),.bool true],.int .i64 (x.e:Int),.bool true,undef,.pointer (some ⟨H,0,none⟩),.pointer (some ⟨H,0,none⟩),undef,undef,undef,undef,undef,undef,undef,undef],[]⟩) (fun _ _=>by kernel_rfl) ?_
   ·intro w hSw
    kernel_rfl
   refine Flo2.take HS he0 2 (.agg #[.int .i64 s0,.slice a0 n0 c0]) rfl (by kernel_rfl) (fun p q=>by cases p<;>cases q<;>kernel_rfl) (fun p q=>by cases p<;>cases q<;>kernel_rfl) (fun _ _ _ h=>h) (fun t t'=>Or.inl ⟨by kernel_rfl,?_⟩) (fun p q=>#[true,true,true,false,false,false,false,false,false,false,p,q,false,false]) (fun p q=>by cases p<;>cases q<;>kernel_rfl) (fun t t'=>⟨#[.agg ca,.pointer (some ⟨H,0,none⟩),.pointer (some ⟨H+1,0,none⟩),.bool false,.int .i64 (x.e:Int),.bool true,t,t',.pointer (some ⟨H,0,none⟩),.int .i64 1,.bool false,undef,.tuple #[.int .i64 (x.e:Int),.bool true],.pointer (some ⟨H,16,none⟩),.agg #[.int .i64 s8,.slice a8 n8 c8],.tuple #[.int .i64 (x.e:Int),.bool true],.int .i64 (x.e:Int),.bool true,undef,.pointer (some ⟨H,0,none⟩),.pointer (some ⟨H,0,none⟩),.agg #[.int .i64 s0,.slice a0 n0 c0],undef,undef,undef,undef,undef,undef,undef],[]⟩) (fun _ _=>by kernel_rfl) ?_
   ·intro w hSw
    obtain ⟨h1,h2⟩:=hSw
    go_simp
    try with_reducible rfl
   refine Flo2.take HS he0 4 (.int .i64 (x.e:Int)) rfl (by kernel_rfl) (fun p q=>by cases p<;>cases q<;>kernel_rfl) (fun p q=>by cases p<;>cases q<;>kernel_rfl) (fun _ _ _ h=>h) (fun t t'=>Or.inl ⟨by kernel_rfl,?_⟩) (fun p q=>#[true,true,true,false,true,false,false,false,false,false,p,q,false,false]) (fun p q=>by cases p<;>cases q<;>kernel_rfl) (fun t t'=>⟨#[.agg ca,.pointer (some ⟨H,0,none⟩),.pointer (some ⟨H+1,0,none⟩),.bool false,.int .i64 (x.e:Int),.bool true,t,t',.pointer (some ⟨H,0,none⟩),.int .i64 1,.bool false,undef,.tuple #[.int .i64 (x.e:Int),.bool true],.pointer (some ⟨H,16,none⟩),.agg #[.int .i64 s8,.slice a8 n8 c8],.tuple #[.int .i64 (x.e:Int),.bool true],.int .i64 (x.e:Int),.bool true,undef,.pointer (some ⟨H,0,none⟩),.pointer (some ⟨H,0,none⟩),.agg #[.int .i64 s0,.slice a0 n0 c0],undef,.int .i64 (x.e:Int),undef,undef,undef,undef,undef],[]⟩) (fun _ _=>by kernel_rfl) ?_
   ·intro w hSw
    kernel_rfl
   refine Flo2.call hA0 hA1 HS he0 3 rfl (fun q=>by cases q<;>kernel_rfl) (fun p=>by cases p<;>kernel_rfl) (fun _ _ _=>by kernel_rfl) (fun _ _ _=>by kernel_rfl) (fun p q=>by cases p<;>cases q<;>kernel_rfl) (fun _ _=>by kernel_rfl) 44 #[.int .i64 1] (fun _ _ _=>by kernel_rfl) (R:=fun v w'=>v=.agg #[.int .i64 1,.slice none 0 0]∧IsInt w' 1 none 0 0 1) (fun wx hx=>(Of_any 1 (by decide) (by decide) wx).mono ?_) (fun p q=>#[true,true,true,true,true,false,false,false,false,false,p,q,false,false]) (fun p q=>by cases p<;>cases q<;>kernel_rfl) (fun vv t t'=>⟨#[.agg ca,.pointer (some ⟨H,0,none⟩),.pointer (some ⟨H+1,0,none⟩),.bool false,.int .i64 (x.e:Int),.bool true,t,t',.pointer (some ⟨H,0,none⟩),.int .i64 1,.bool false,undef,.tuple #[.int .i64 (x.e:Int),.bool true],.pointer (some ⟨H,16,none⟩),.agg #[.int .i64 s8,.slice a8 n8 c8],.tuple #[.int .i64 (x.e:Int),.bool true],.int .i64 (x.e:Int),.bool true,undef,.pointer (some ⟨H,0,none⟩),.pointer (some ⟨H,0,none⟩),.agg #[.int .i64 s0,.slice a0 n0 c0],vv,.int .i64 (x.e:Int),undef,undef,undef,undef,undef],[]⟩) (fun _ _ _=>by kernel_rfl) ?_
   ·rintro e w' ⟨rfl,n,hx'⟩;exact ⟨_,rfl,⟨rfl,n⟩,hx'⟩
   rintro v w1x ⟨rfl,hI22⟩ hq1
   have he1:=he0.trans hq1
   refine Flo2.call hA0 hA1 HS he1 5 rfl (fun q=>by cases q<;>kernel_rfl) (fun p=>by cases p<;>kernel_rfl) (fun _ _ _=>by kernel_rfl) (fun _ _ _=>by kernel_rfl) (fun p q=>by cases p<;>cases q<;>kernel_rfl) (fun _ _=>by kernel_rfl) 66 #[.agg #[.int .i64 1,.slice none 0 0],.int .i64 (x.e:Int)] (fun _ _ _=>by kernel_rfl) (R:=fun v w'=>∃ (s:Int) (a:Option Addr) (n c:Nat),v=.agg #[.int .i64 s,.slice a n c]∧IsInt w' s a n c ((2 ^ x.e:Nat):Int)) (fun wx hx=>(HSh.out wx (he1.trans hx) (hI22.ext hx)).mono ?_) (fun p q=>#[true,true,true,true,true,true,false,false,false,false,p,q,false,false]) (fun p q=>by cases p<;>cases q<;>kernel_rfl) (fun vv t t'=>⟨#[.agg ca,.pointer (some ⟨H,0,none⟩),.pointer (some ⟨H+1,0,none⟩),.bool false,.int .i64 (x.e:Int),.bool true,t,t',.pointer (some ⟨H,0,none⟩),.int .i64 1,.bool false,undef,.tuple #[.int .i64 (x.e:Int),.bool true],.pointer (some ⟨H,16,none⟩),.agg #[.int .i64 s8,.slice a8 n8 c8],.tuple #[.int .i64 (x.e:Int),.bool true],.int .i64 (x.e:Int),.bool true,undef,.pointer (some ⟨H,0,none⟩),.pointer (some ⟨H,0,none⟩),.agg #[.int .i64 s0,.slice a0 n0 c0],.agg #[.int .i64 1,.slice none 0 0],.int .i64 (x.e:Int),vv,undef,undef,undef,undef],[]⟩) (fun _ _ _=>by kernel_rfl) ?_
   ·rintro e w' ⟨s,a,n,c,rfl,hI,hx'⟩;exact ⟨_,rfl,⟨s,a,n,c,rfl,hI⟩,hx'⟩
   rintro v w2x ⟨s4,a4,n4,c4,rfl,hI24⟩ hq2
   have he2:=he1.trans hq2
   refine Flo2.call hA0 hA1 HS he2 6 rfl (fun q=>by cases q<;>kernel_rfl) (fun p=>by cases p<;>kernel_rfl) (fun _ _ _=>by kernel_rfl) (fun _ _ _=>by kernel_rfl) (fun p q=>by cases p<;>cases q<;>kernel_rfl) (fun _ _=>by kernel_rfl) 65 #[.agg #[.int .i64 s0,.slice a0 n0 c0],.agg #[.int .i64 s4,.slice a4 n4 c4]] (fun _ _ _=>by kernel_rfl) (R:=fun v w'=>∃ (s:Int) (a:Option Addr) (n c:Nat) (s':Int) (a':Option Addr) (n' c':Nat),v=.tuple #[.agg #[.int .i64 s,.slice a n c,.int .i64 s',.slice a' n' c'],.agg #[.int .i64 (ovc ((2 ^ x.e:Nat):Int)),.int .i64 0]]∧IsFr w' s a n c s' a' n' c' (nfp (x.a 0) ((2 ^ x.e:Nat):Int)) (nfq (x.a 0) ((2 ^ x.e:Nat):Int))) (fun wx hx=>(HOv.out wx (he2.trans hx) s4 a4 n4 c4 (hI24.ext hx)).mono ?_) (fun p q=>#[true,true,true,true,true,true,true,false,false,false,p,q,false,false]) (fun p q=>by cases p<;>cases q<;>kernel_rfl) (fun vv t t'=>⟨#[.agg ca,.pointer (some ⟨H,0,none⟩),.pointer (some ⟨H+1,0,none⟩),.bool false,.int .i64 (x.e:Int),.bool true,t,t',.pointer (some ⟨H,0,none⟩),.int .i64 1,.bool false,undef,.tuple #[.int .i64 (x.e:Int),.bool true],.pointer (some ⟨H,16,none⟩),.agg #[.int .i64 s8,.slice a8 n8 c8],.tuple #[.int .i64 (x.e:Int),.bool true],.int .i64 (x.e:Int),.bool true,undef,.pointer (some ⟨H,0,none⟩),.pointer (some ⟨H,0,none⟩),.agg #[.int .i64 s0,.slice a0 n0 c0],.agg #[.int .i64 1,.slice none 0 0],.int .i64 (x.e:Int),.agg #[.int .i64 s4,.slice a4 n4 c4],vv,undef,undef,undef],[]⟩) (fun _ _ _=>by kernel_rfl) ?_
   ·rintro e w' ⟨s,a,n,c,s',a',n',c',rfl,hI,hx'⟩;exact ⟨_,rfl,⟨s,a,n,c,s',a',n',c',rfl,hI⟩,hx'⟩
   rintro v w3x ⟨s5,a5,n5,c5,s6,a6,n6,c6,rfl,hF25⟩ hq3
   have he3:=he2.trans hq3
   refine Flo2.take HS he3 7 (.tuple #[.agg #[.int .i64 s5,.slice a5 n5 c5,.int .i64 s6,.slice a6 n6 c6],.agg #[.int .i64 (ovc ((2 ^ x.e:Nat):Int)),.int .i64 0]]) rfl (by kernel_rfl) (fun p q=>by cases p<;>cases q<;>kernel_rfl) (fun p q=>by cases p<;>cases q<;>kernel_rfl) (fun _ _ _ h=>h) (fun t t'=>Or.inl ⟨by kernel_rfl,?_⟩) (fun p q=>#[true,true,true,true,true,true,true,true,false,false,p,q,false,false]) (fun p q=>by cases p<;>cases q<;>kernel_rfl) (fun t t'=>⟨#[.agg ca,.pointer (some ⟨H,0,none⟩),.pointer (some ⟨H+1,0,none⟩),.bool false,.int .i64 (x.e:Int),.bool true,t,t',.pointer (some ⟨H,0,none⟩),.int .i64 1,.bool false,undef,.tuple #[.int .i64 (x.e:Int),.bool true],.pointer (some ⟨H,16,none⟩),.agg #[.int .i64 s8,.slice a8 n8 c8],.tuple #[.int .i64 (x.e:Int),.bool true],.int .i64 (x.e:Int),.bool true,.tuple #[.agg #[.int .i64 s5,.slice a5 n5 c5,.int .i64 s6,.slice a6 n6 c6],.agg #[.int .i64 (ovc ((2 ^ x.e:Nat):Int)),.int .i64 0]],.pointer (some ⟨H,0,none⟩),.pointer (some ⟨H,0,none⟩),.agg #[.int .i64 s0,.slice a0 n0 c0],.agg #[.int .i64 1,.slice none 0 0],.int .i64 (x.e:Int),.agg #[.int .i64 s4,.slice a4 n4 c4],.tuple #[.agg #[.int .i64 s5,.slice a5 n5 c5,.int .i64 s6,.slice a6 n6 c6],.agg #[.int .i64 (ovc ((2 ^ x.e:Nat):Int)),.int .i64 0]],undef,undef,undef],[]⟩) (fun _ _=>by kernel_rfl) ?_
   ·intro w hSw
    kernel_rfl
   refine Flo2.take HS he3 8 (.agg #[.int .i64 s5,.slice a5 n5 c5,.int .i64 s6,.slice a6 n6 c6]) rfl (by kernel_rfl) (fun p q=>by cases p<;>cases q<;>kernel_rfl) (fun p q=>by cases p<;>cases q<;>kernel_rfl) (fun _ _ _ h=>h) (fun t t'=>Or.inl ⟨by kernel_rfl,?_⟩) (fun p q=>#[true,true,true,true,true,true,true,true,true,false,p,q,false,false]) (fun p q=>by cases p<;>cases q<;>kernel_rfl) (fun t t'=>⟨#[.agg ca,.pointer (some ⟨H,0,none⟩),.pointer (some ⟨H+1,0,none⟩),.bool false,.int .i64 (x.e:Int),.bool true,t,t',.pointer (some ⟨H,0,none⟩),.int .i64 1,.bool false,undef,.tuple #[.int .i64 (x.e:Int),.bool true],.pointer (some ⟨H,16,none⟩),.agg #[.int .i64 s8,.slice a8 n8 c8],.tuple #[.int .i64 (x.e:Int),.bool true],.int .i64 (x.e:Int),.bool true,.tuple #[.agg #[.int .i64 s5,.slice a5 n5 c5,.int .i64 s6,.slice a6 n6 c6],.agg #[.int .i64 (ovc ((2 ^ x.e:Nat):Int)),.int .i64 0]],.pointer (some ⟨H,0,none⟩),.pointer (some ⟨H,0,none⟩),.agg #[.int .i64 s0,.slice a0 n0 c0],.agg #[.int .i64 1,.slice none 0 0],.int .i64 (x.e:Int),.agg #[.int .i64 s4,.slice a4 n4 c4],.tuple #[.agg #[.int .i64 s5,.slice a5 n5 c5,.int .i64 s6,.slice a6 n6 c6],.agg #[.int .i64 (ovc ((2 ^ x.e:Nat):Int)),.int .i64 0]],.agg #[.int .i64 s5,.slice a5 n5 c5,.int .i64 s6,.slice a6 n6 c6],undef,undef],[]⟩) (fun _ _=>by kernel_rfl) ?_
   ·intro w hSw
    kernel_rfl
   refine Flo2.take HS he3 9 (.agg #[.int .i64 (ovc ((2 ^ x.e:Nat):Int)),.int .i64 0]) rfl (by kernel_rfl) (fun p q=>by cases p<;>cases q<;>kernel_rfl) (fun p q=>by cases p<;>cases q<;>kernel_rfl) (fun _ _ _ h=>h) (fun t t'=>Or.inl ⟨by kernel_rfl,?_⟩) (fun p q=>#[true,true,true,true,true,true,true,true,true,true,p,q,false,false]) (fun p q=>by cases p<;>cases q<;>kernel_rfl) (fun t t'=>⟨#[.agg ca,.pointer (some ⟨H,0,none⟩),.pointer (some ⟨H+1,0,none⟩),.bool false,.int .i64 (x.e:Int),.bool true,t,t',.pointer (some ⟨H,0,none⟩),.int .i64 1,.bool false,undef,.tuple #[.int .i64 (x.e:Int),.bool true],.pointer (some ⟨H,16,none⟩),.agg #[.int .i64 s8,.slice a8 n8 c8],.tuple #[.int .i64 (x.e:Int),.bool true],.int .i64 (x.e:Int),.bool true,.tuple #[.agg #[.int .i64 s5,.slice a5 n5 c5,.int .i64 s6,.slice a6 n6 c6],.agg #[.int .i64 (ovc ((2 ^ x.e:Nat):Int)),.int .i64 0]],.pointer (some ⟨H,0,none⟩),.pointer (some ⟨H,0,none⟩),.agg #[.int .i64 s0,.slice a0 n0 c0],.agg #[.int .i64 1,.slice none 0 0],.int .i64 (x.e:Int),.agg #[.int .i64 s4,.slice a4 n4 c4],.tuple #[.agg #[.int .i64 s5,.slice a5 n5 c5,.int .i64 s6,.slice a6 n6 c6],.agg #[.int .i64 (ovc ((2 ^ x.e:Nat):Int)),.int .i64 0]],.agg #[.int .i64 s5,.slice a5 n5 c5,.int .i64 s6,.slice a6 n6 c6],.agg #[.int .i64 (ovc ((2 ^ x.e:Nat):Int)),.int .i64 0],undef],[]⟩) (fun _ _=>by kernel_rfl) ?_
   ·intro w hSw
    kernel_rfl
   refine Flo2.done hA0 hA1 HS he3 (fun q=>by cases q<;>kernel_rfl) (fun p=>by cases p<;>kernel_rfl) (fun _ _ _=>by kernel_rfl) (fun _ _ _=>by kernel_rfl) (fun p q h=>by cases p<;>cases q<;>first | exact absurd h (by decide) | kernel_rfl) ?_
   intro wy hy D6 D7 hD hD' hne
   have hEy:=he3.trans hy
   have r1:=hD.2
   refine anyH_one (i:=12) (by kernel_rfl) rfl (fun Kk hKk=>?_)
   refine stepK_storeR rfl rfl 45 _ _ rfl D6 #[.int .i64 s5,.slice a5 n5 c5,.int .i64 s6,.slice a6 n6 c6] rfl rfl 45 _ r1 fr_info rfl (fr_one _ _ _ _ _ _ _ _) ?_
   have hX1:=ext_setRow hEy hD.1 #[.int .i64 s5,.slice a5 n5 c5,.int .i64 s6,.slice a6 n6 c6]
   refine hKk.out _ _ (HS _ hX1) ?_
   clear hKk Kk
   have r2:=(setRow_other wy D6 D7 #[.int .i64 s5,.slice a5 n5 c5,.int .i64 s6,.slice a6 n6 c6] (fun e=>hne e.symm)).trans hD'.2
   have r3:=setRow_heap wy D6 _ #[.int .i64 s5,.slice a5 n5 c5,.int .i64 s6,.slice a6 n6 c6] _ _ r1
   have k3:=keepZ_row (cs:=#[.int .i64 0,.slice none 0 0,.int .i64 0,.slice none 0 0]) r1 (by intro i z;simp only [List.getElem?_toArray];rcases i with _ | _ | _ | _ | i<;>simp) #[.int .i64 s5,.slice a5 n5 c5,.int .i64 s6,.slice a6 n6 c6]
   refine anyH_one (i:=13) (by kernel_rfl) rfl (fun Kk hKk=>?_)
   refine stepK_storeR rfl rfl 30 _ _ rfl D7 #[.int .i64 (ovc ((2 ^ x.e:Nat):Int)),.int .i64 0] rfl rfl 30 _ r2 fault_info rfl (fault_one _ _) ?_
   have hX2:=ext_setRow hX1 hD'.1 #[.int .i64 (ovc ((2 ^ x.e:Nat):Int)),.int .i64 0]
   have k4:=keepZ_row (cs:=#[.int .i64 0,.int .i64 0]) r2 (by intro i z;simp only [List.getElem?_toArray];rcases i with _ | _ | i<;>simp) #[.int .i64 (ovc ((2 ^ x.e:Nat):Int)),.int .i64 0]
   refine hKk.out _ _ (HS _ hX2) ?_
   clear hKk Kk
   have r4:=(setRow_other _ D7 D6 #[.int .i64 (ovc ((2 ^ x.e:Nat):Int)),.int .i64 0] hne).trans r3
   refine wpAnyH_done (by kernel_rfl) ?_ _
   go_wp2_with fail
   go_meet
   exact ⟨D6,s5,a5,n5,c5,s6,a6,n6,c6,rfl,r4,((hF25.ext hy).keep64 k3).keep64 k4,hD.1,hX2⟩
  case rest =>
  obtain ⟨D,s,a,n,c,s',a',n',c',rfl,rD,hF,hD,hxc⟩:=hcut
  have rR:=((HX2.out.trans hxc).block _ (Array.getElem?_eq_some_iff.1 HR0.out).1).trans HR0.out
  have hne:¬ D=H+1:=fun e=>by
   have:=(Array.getElem?_eq_some_iff.1 HR0.out).1
   have:=HX2.out.size
   omega
  have k0:wc.cell? ⟨D,0,none⟩=some (.int .i64 s):=by rw [cell_of_row _ _ _ _ _ _ rD];rfl
  have k1:wc.cell? ⟨D,1,none⟩=some (.slice a n c):=by rw [cell_of_row _ _ _ _ _ _ rD];rfl
  have k2:wc.cell? ⟨D,2,none⟩=some (.int .i64 s'):=by rw [cell_of_row _ _ _ _ _ _ rD];rfl
  have k3:wc.cell? ⟨D,3,none⟩=some (.slice a' n' c'):=by rw [cell_of_row _ _ _ _ _ _ rD];rfl
  have hEx:Ext w (wc.setRow (H+1) #[.int .i64 s,.slice a n c,.int .i64 s',.slice a' n' c']):=ext_setRow ((HE0.out.trans HX2.out).trans hxc) (by rw [HH.out];omega) _
  have kk:=keepZ_row (cs:=#[.int .i64 0,.slice none 0 0,.int .i64 0,.slice none 0 0]) rR (by intro i z;simp only [List.getElem?_toArray];rcases i with _ | _ | _ | _ | i<;>simp) #[.int .i64 s,.slice a n c,.int .i64 s',.slice a' n' c']
  have Hend:=Lib.hid (And.intro (hF.keep64 kk) hEx)
  have rr:=setRow_heap wc (H+1) _ #[.int .i64 s,.slice a n c,.int .i64 s',.slice a' n' c'] _ _ rR
  have y0:(wc.setRow (H+1) #[.int .i64 s,.slice a n c,.int .i64 s',.slice a' n' c']).cell? ⟨H+1,0,none⟩=some (.int .i64 s):=by rw [cell_of_row _ _ _ _ _ _ rr];rfl
  have y1:(wc.setRow (H+1) #[.int .i64 s,.slice a n c,.int .i64 s',.slice a' n' c']).cell? ⟨H+1,1,none⟩=some (.slice a n c):=by rw [cell_of_row _ _ _ _ _ _ rr];rfl
  have y2:(wc.setRow (H+1) #[.int .i64 s,.slice a n c,.int .i64 s',.slice a' n' c']).cell? ⟨H+1,2,none⟩=some (.int .i64 s'):=by rw [cell_of_row _ _ _ _ _ _ rr];rfl
  have y3:(wc.setRow (H+1) #[.int .i64 s,.slice a n c,.int .i64 s',.slice a' n' c']).cell? ⟨H+1,3,none⟩=some (.slice a' n' c'):=by rw [cell_of_row _ _ _ _ _ _ rr];rfl
  have HBt':=HBt.out
  subst HBt'
  clear hF hEx kk rr hxc hD
  go_wp2_with (first
   | refine wpList_load_row rfl 45 _ rfl D rfl 45 _ (0,0) _ rD Tryz.underlying45 rfl fr_info ?_
   | refine wpList_store_row rfl 45 _ _ rfl (H+1) #[.int .i64 s,.slice a n c,.int .i64 s',.slice a' n' c'] rfl rfl 45 _ rR fr_info rfl (fr_one _ _ _ _ _ _ _ _) ?_)
  exact bodyPost_ret (v:=.tuple #[.agg #[.int .i64 s,.slice a n c,.int .i64 s',.slice a' n' c'],.bool true]) (by simp [results,Tryz.results11,go_sem,y0,y1,y2,y3]) rfl ⟨s,a,n,c,s',a',n',c',rfl,Hend.out⟩
 ·have q1:(1:Int)<(L:Int):=by have:=HLp.out;omega
  have q2:1<L:=by have:=HLp.out;omega
  have hBf:B=false:=by
   cases hb:B with
   | false=>rfl
   | true=>exact absurd (HB.out.1 hb) hL1
  subst hBf
  have rR:=(HX1.out.block _ (Array.getElem?_eq_some_iff.1 HR0.out).1).trans HR0.out
  have hEx:Ext w (w1.setRow (H+1) #[.int .i64 0,.slice none 0 0,.int .i64 0,.slice none 0 0]):=ext_setRow (HE0.out.trans HX1.out) (by rw [HH.out];omega) _
  have HEx:=Lib.hid hEx
  have rr:=setRow_heap w1 (H+1) _ #[.int .i64 0,.slice none 0 0,.int .i64 0,.slice none 0 0] _ _ rR
  have y0:(w1.setRow (H+1) #[.int .i64 0,.slice none 0 0,.int .i64 0,.slice none 0 0]).cell? ⟨H+1,0,none⟩=some (.int .i64 0):=by rw [cell_of_row _ _ _ _ _ _ rr];rfl
  have y1:(w1.setRow (H+1) #[.int .i64 0,.slice none 0 0,.int .i64 0,.slice none 0 0]).cell? ⟨H+1,1,none⟩=some (.slice none 0 0):=by rw [cell_of_row _ _ _ _ _ _ rr];rfl
  have y2:(w1.setRow (H+1) #[.int .i64 0,.slice none 0 0,.int .i64 0,.slice none 0 0]).cell? ⟨H+1,2,none⟩=some (.int .i64 0):=by rw [cell_of_row _ _ _ _ _ _ rr];rfl
  have y3:(w1.setRow (H+1) #[.int .i64 0,.slice none 0 0,.int .i64 0,.slice none 0 0]).cell? ⟨H+1,3,none⟩=some (.slice none 0 0):=by rw [cell_of_row _ _ _ _ _ _ rr];rfl
  clear hEx rr hL1
  go_wp2_with (refine wpList_store_row rfl 45 _ _ rfl (H+1) #[.int .i64 0,.slice none 0 0,.int .i64 0,.slice none 0 0] rfl rfl 45 _ rR fr_info rfl (fr_one _ _ _ _ _ _ _ _) ?_)
  exact bodyPost_ret (v:=.tuple #[.agg #[.int .i64 0,.slice none 0 0,.int .i64 0,.slice none 0 0],.bool false]) (by simp [results,Tryz.results11,go_sem,y0,y1,y2,y3]) rfl ⟨0,none,0,0,0,none,0,0,rfl,IsFr.zero _,HEx.out⟩
theorem FText_any (b1:Bool) (a1:Option Addr) (n1 c1:Nat) (b2:Bool) (a2:Option Addr) (n2 c2:Nat) (P Q:Int) (w:World) (h1:IsZ w b1 a1 n1 c1 P) (h2:IsZ w b2 a2 n2 c2 Q) (hn1:n1≤200000) (hn2:n2≤200000) (K:Nat) (hK:K≤100000) (hK1:1≤K) (fP:Fit K P) (fQ:Fit K Q) :
  Calls Tryz.prog 14 #[.agg #[.bool b1,.slice a1 n1 c1,.bool b2,.slice a2 n2 c2]] w fun e w'=>e=.returned (.string (ftx P Q))∧Ext w w':=by
 have hE:Ext w (w.alloc (.cells #[.bool b1,.slice a1 n1 c1,.bool b2,.slice a2 n2 c2] 49)):=ext_alloc w (.cells #[.bool b1,.slice a1 n1 c1,.bool b2,.slice a2 n2 c2] 49)
 have bX:=fzbx_new w b1 a1 n1 c1 b2 a2 n2 c2
 have IA:=h1.ext hE;have IB:=h2.ext hE
 have hs1:=itoa_len hK1 fP;have hs2:=itoa_len hK1 fQ
 have ht1:¬ 9223372036854775807<(Lib.itoa P).length+1:=by omega
 have ht2:¬ 9223372036854775807<(Lib.itoa P).length+1+(Lib.itoa Q).length:=by omega
 clear h1 h2 hs1 hs2 fP fQ
 by_cases hq:Q=1
 ·have Hft:Hid (ftx P Q=⟨(Lib.itoa P).toArray⟩):=by show _=_;unfold ftx;rw [if_pos hq]
  have ho:Lib.itoa Q=[49]:=by rw [hq];exact one_text
  clear hq
  go_enter Tryz.func14,Tryz.ntmps14
  go_wp2_with fail
  generalize w.alloc (.cells #[.bool b1,.slice a1 n1 c1,.bool b2,.slice a2 n2 c2] 49)=W0 at *
  refine (ZText_any b2 a2 n2 c2 Q W0 IB (by omega)).mono ?_
  rw [ho]
  rintro e v0 ⟨rfl,hx0⟩
  have d0:=zKeep hx0 bX.lt bX.c0;have d1:=zKeep hx0 bX.lt bX.c1
  go_wp2_with fail
  refine (ZText_any b1 a1 n1 c1 P v0 (IA.ext hx0) (by omega)).mono ?_
  rintro e v1 ⟨rfl,hx1⟩
  go_wp2_with fail
  go_ret
  exact ⟨by show _=_;rw [Hft.out];rfl,hE.trans (hx0.trans hx1)⟩
 ·have Hft:Hid (ftx P Q=⟨(Lib.itoa P).toArray⟩++⟨#[47]⟩++⟨(Lib.itoa Q).toArray⟩):=by show _=_;unfold ftx;rw [if_neg hq]
  have hne:((Lib.itoa Q) == [49])=false:=by
   rw [beq_eq_false_iff_ne]
   intro h0
   have h2:=txt_val Q
   have h3:=txt_val 1
   unfold txt at h2 h3
   rw [show Lib.itoa 1=[49] from one_text] at h3
   rw [h0] at h2
   exact hq (h2.symm.trans h3)
  clear hq
  go_enter Tryz.func14,Tryz.ntmps14
  go_wp2_with fail
  generalize w.alloc (.cells #[.bool b1,.slice a1 n1 c1,.bool b2,.slice a2 n2 c2] 49)=W0 at *
  refine (ZText_any b2 a2 n2 c2 Q W0 IB (by omega)).mono ?_
  rintro e v0 ⟨rfl,hx0⟩
  have bX:=bX.ext hx0;have IA:=IA.ext hx0;have IB:=IB.ext hx0
  have m0:=bX.c0;have m1:=bX.c1;have m2:=bX.c2;have m3:=bX.c3;have lX:=bX.lt
  have h0d:Ext v0 v0.drew:=Below.drew (Ext.refl _)
  go_wp2_with fail
  go_region_held3 (fun w'=>w'.cell? ⟨w.heap.size,0,none⟩=some (.bool b1)∧w'.cell? ⟨w.heap.size,1,none⟩=some (.slice a1 n1 c1)∧w'.cell? ⟨w.heap.size,2,none⟩=some (.bool b2)∧w'.cell? ⟨w.heap.size,3,none⟩=some (.slice a2 n2 c2))
   (exact ⟨cellKeep (W:=v0) (by assumption) lX m0,cellKeep (W:=v0) (by assumption) lX m1,cellKeep (W:=v0) (by assumption) lX m2,cellKeep (W:=v0) (by assumption) lX m3⟩)
   (first
    | (have _:=qr0;go_at_call 63;refine (ZText_any b2 a2 n2 c2 Q _ (IB.ext hr0) (by omega)).mono ?_;rintro e r1 ⟨rfl,qr1⟩;have hr1:Ext v0 r1:=hr0.trans qr1)
    | (go_at_call 63;refine (ZText_any b1 a1 n1 c1 P _ (IA.ext (by assumption)) (by omega)).mono ?_;rintro e r0 ⟨rfl,qr0⟩;have hr0:Ext v0 r0:=Ext.trans (by assumption) qr0))
  go_wp2_with fail
  go_ret
  exact ⟨by show _=_;rw [Hft.out];rfl,hE.trans (hx0.trans hr1)⟩
end Go.Proofs.YtiicfpdiehgikaaGreatDoor
