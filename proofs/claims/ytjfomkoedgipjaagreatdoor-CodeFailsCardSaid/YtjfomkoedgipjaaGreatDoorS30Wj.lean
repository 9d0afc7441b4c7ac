/-
  CodeFails' walk.
-/
import Derived.Test.YtjfomkoedgipjaaGreatDoorS29Ah
namespace Go.Proofs.YtjfomkoedgipjaaGreatDoor
set_option maxRecDepth 100000
set_option maxHeartbeats 16000000
open Go.RowKit
theorem fr_low {l:List Nat} (h:fcode l=0):fP l=nfp (fP l) (fQ l)/\fQ l=nfq (fP l) (fQ l):=by
 by_cases hg:fgood l
 ·by_cases hs:fsl l
  ·by_cases hl:flg l
   ·have:=(f_long hg hs hl).2.2.1;omega
   ·by_cases hf:ffm l
    ·have:=(f_form hg hs hl hf).2.2.1;omega
    ·obtain ⟨e1,e2,_,_⟩:=f_fine hg hs hl hf
     obtain ⟨_,_,hp,_⟩:=sides hs hg hl
     have hgc:Nat.gcd (pz (fab l)).natAbs (pz (fbe l)).natAbs=1:=yB fun h=>hf (qO h)
     obtain ⟨g1,g2⟩:=nf_self hp hgc;rw [e1,e2];exact ⟨g1.symm,g2.symm⟩
  ·obtain ⟨e1,e2,_,_⟩:=f_whole hg hs
   rw [e1,e2];exact ⟨(nf_one _).1.symm,(nf_one _).2.symm⟩
 ·have:=(f_bad hg).2.2.1;omega
theorem fa_text {n:Nat} {gens:List (List UInt8)} (h:(ccF (n:Int) gens).1=0) (P Q:Int):ftx (nfp (gsm (cntT n gens) P (Q-3*P) n (n+1)) (Q ^ n)) (nfq (gsm (cntT n gens) P (Q-3*P) n (n+1)) (Q ^ n))=faT n gens P Q:=by
 unfold faT;rw [gsm_congr (c:=cntE n gens) (d:=cntT n gens) P (Q-P*3) n (n+1) (fun w hw=>cnt_is h (by omega)),yR P 3]
theorem cfails_walk (N:Int) (gens:List (List UInt8)) (t:ByteArray) (ao:Option Addr) (k cp:Nat) (w:World) (hG:StrsAt w ao k gens) (hT:∀ T ∈ gens,T.length<=9223372036854775807) (hk9:k*16<=140737488355328) (hnil:ao=none->cp=0) (ht:t.size<=9223372036854775807) (hL:LtL w) (hbr:Bru w) (htab:Ten w) :
  Calls Tryz.prog 3 #[.agg #[.int .i64 N,.slice ao k cp],.string t] w fun e w'=>e=.returned (.bool true)/\Ext w w':=by
 have hk6:k<=9223372036854775806:=by omega
 obtain ⟨H,hH⟩:∃ H,w.heap.size=H:=⟨_,rfl⟩;obtain ⟨W0,hW0⟩:∃ W0,w.alloc (.cells #[.int .i64 N,.slice ao k cp] 24)=W0:=⟨_,rfl⟩
 have E0:Ext w W0:=by rw [<-hW0];exact ext_al w _
 have C0:CoB W0 H N ao k cp:=by rw [<-hW0,<-hH];exact CoB.new w _ _ _ _
 obtain ⟨M,hM,hM1,hfit⟩:=fitM;have h6:=lim6
 have hfa:∀ z:Int,z.natAbs<Lim->Fit M z:=fun z hz=>hfit z (by generalize (Lim ^ 6:Nat)=L at *;generalize Lim=L1 at *;omega)
 obtain ⟨lP,lQ,hQ0⟩:=f_lim (bs t);have hlow:=fr_low (l:=bs t);have HPf:=Lh (fun (wx:World)=>FParse_any t wx ht M hM hM1 hfa);have HFz:=Lh (fun (n:Nat) (hc:(decide (0<=fP (bs t)) && decide (0<=fQ (bs t)-fP (bs t)*3))=true) (hn:n<=6)=>fa_zero (n:=n) (gens:=gens) hc hQ0 lQ hn hM hM1 hfit);have HC:=Lh (copyCode_any N gens ao k cp W0 (hG.ext E0) hk9 hnil);have HFa:=Lh (fun (a1:Option Addr) (c1:Nat) (wx:World) (hx:Ext w wx) (hS:StrsAt wx a1 k gens)=>Fails_any N gens t a1 k c1 wx hS hT hk6 ht (hL.ext hx) (bru_ext hbr hx) (tab_ext htab hx));unfold FRetG at HPf;unfold FaR at HFa;have HlQ:=Lh (jN lQ hQ0);clear h6 hfa lP lQ hQ0 hfit;obtain ⟨P,hP⟩:∃ P,fP (bs t)=P:=⟨_,rfl⟩;obtain ⟨Q,hQ⟩:∃ Q,fQ (bs t)=Q:=⟨_,rfl⟩;obtain ⟨C,hC⟩:∃ C,fcode (bs t)=C:=⟨_,rfl⟩;obtain ⟨At,hAt⟩:∃ A,fat (bs t)=A:=⟨_,rfl⟩;rw [hP,hQ] at HFz hlow;rw [hQ] at HlQ;rw [hC] at hlow;rw [hP,hQ,hC] at HFa;rw [hP,hQ,hC,hAt] at HPf;obtain ⟨Y,hY⟩:∃ Y,faF N gens P Q C=Y:=⟨_,rfl⟩;obtain ⟨T,hTt⟩:∃ T,faT N.toNat gens P Q=T:=⟨_,rfl⟩;rw [hY,hTt] at HFa;obtain ⟨Y0,Y1⟩:=Y;obtain ⟨tx,htx⟩:∃ s,(if Y0=0 then T else (⟨#[]⟩:ByteArray))=s:=⟨_,rfl⟩;simp only [htx] at HFa;unfold faF at hY;obtain ⟨d,hd⟩:∃ d,ccF N gens=d:=⟨_,rfl⟩;obtain ⟨d0,d1⟩:=d;rw [hd] at hY;have HY:=Lh hY;have HTt:=Lh hTt;have Htx:=Lh htx;have Hd:=Lh hd;have HM:=Lh (jN hM hM1);have Hlow:=Lh hlow;have HE0:=Lh E0;have HD:=Lh C0;have HW0:=Lh hW0;have HH:=Lh hH;have Hh:=Lh (hG.ext E0);have HL:=Lh hL;have HT:=Lh hT;have Hk6:=Lh hk6;have Hlg:=Lh (show gens.length=k from hG.1);have v0:=C0.x0;have v1:=C0.x1;clear hG hT hk9 hnil hL E0 C0 hW0 hH hk6 hbr htab hP hQ hC hAt hY hTt htx hd hM hM1 hlow ht
 go_enter Tryz.func3,Tryz.ntmps3
 go_upto_region 1 with fail
 rw [HW0.out,HH.out]
 go_wp2_with fail
 refine HC.out.mono ?_;rintro e w1 ⟨a1,c1,rfl,⟨hL1,hc1,hm1⟩,hx1⟩;have HFx:=Lh (HFa.out a1 c1 w1 (HE0.out.trans hx1) hL1);have Hx1:=Lh hx1;clear hL1 hc1 hm1 hx1 HC HFa v0 v1
 go_wp2_with fail
 refine HFx.out.mono ?_;rintro e w2 ⟨rfl,hx2⟩;obtain ⟨K1,hK1⟩:∃ K,w2.heap.size=K:=⟨_,rfl⟩;obtain ⟨U1,hU1⟩:∃ U,w2.alloc (.cells #[.int .i64 Y0,.int .i64 Y1] 26)=U:=⟨_,rfl⟩
 have E1:Ext W0 U1:=by rw [<-hU1];exact (Hx1.out.trans hx2).trans (ext_al _ _)
 have b1:FtB U1 K1 Y0 Y1:=by rw [<-hU1,<-hK1];exact ⟨qW w2 _⟩
 have hHK1:H<K1/\w.heap.size<=K1:=by rw [<-hK1];exact ⟨qK HD.out.lt (qL Hx1.out.size hx2.size),qL HE0.out.size (qL Hx1.out.size hx2.size)⟩
 have HE1:=Lh E1;have Hb1:=Lh b1;have HU1:=Lh hU1;have HK1:=Lh hK1;have HHK:=Lh hHK1;have v0:=(HD.out.ext E1).x0;have v1:=(HD.out.ext E1).x1;have HCD:=Lh (CheckCode_any N gens ao k cp U1 (Hh.out.ext E1) HT.out Hk6.out);rw [Hd.out] at HCD;clear hx2 E1 b1 hU1 hK1 HFx Hx1 hHK1
 go_upto_region 2 with fail
 rw [HU1.out,HK1.out];clear HU1
 go_wp2_with fail
 refine HCD.out.mono ?_;rintro e w3 ⟨rfl,hx3⟩;obtain ⟨K2,hK2⟩:∃ K,w3.heap.size=K:=⟨_,rfl⟩;obtain ⟨U2,hU2⟩:∃ U,w3.alloc (.cells #[.int .i64 d0,.int .i64 d1] 26)=U:=⟨_,rfl⟩
 have E2:Ext U1 U2:=by rw [<-hU2];exact hx3.trans (ext_al _ _)
 have b2:FtB U2 K2 d0 d1:=by rw [<-hU2,<-hK2];exact ⟨qW w3 _⟩
 have hK12:K1<K2:=by rw [<-hK2];exact qK Hb1.out.lt hx3.size
 have HE2:=Lh E2;have Hb2:=Lh b2;have HU2:=Lh hU2;have HK2:=Lh hK2;have Hord:=Lh (show H<K2/\w.heap.size<=K2/\K1<K2 by have:=HHK.out;omega);clear hx3 E2 b2 hU2 hK2 HCD v0 v1 hK12
 go_upto_region 3 with fail
 rw [HU2.out,HK2.out];clear HU2
 go_wp2_with fail
 refine (HPf.out U2).mono ?_;rintro e w4 ⟨s3,a3,n3,c3,s4,a4,n4,c4,rfl,z3,z4,l3,l4,hx4⟩;obtain ⟨K3,hK3⟩:∃ K,w4.heap.size=K:=⟨_,rfl⟩;obtain ⟨U3,hU3⟩:∃ U,(w4.alloc (.cells #[.bool s3,.slice a3 n3 c3,.bool s4,.slice a4 n4 c4] 35)).alloc (.cells #[.int .i64 C,.int .i64 At] 26)=U:=⟨_,rfl⟩
 have E43:Ext w4 U3:=by rw [<-hU3];exact (ext_al _ _).trans (ext_al _ _)
 have b3:FZBx U3 K3 s3 a3 n3 c3 s4 a4 n4 c4:=by rw [<-hU3,<-hK3];exact (fzbx_new w4 _ _ _ _ _ _ _ _).ext (ext_al _ _)
 have b4:FtB U3 (K3+1) C At:=⟨by
  have:=qW (w4.alloc (.cells #[.bool s3,.slice a3 n3 c3,.bool s4,.slice a4 n4 c4] 35)) (.cells #[.int .i64 C,.int .i64 At] 26);rw [<-hU3,<-hK3]
  simpa using this⟩
 have HE3:=Lh (hx4.trans E43);have Hb3:=Lh b3;have Hb4:=Lh b4;have HU3:=Lh hU3;have HK3:=Lh hK3;have HZ3:=Lh (z3.ext E43);have HZ4:=Lh (z4.ext E43);have Hl34:=Lh (jN l3 l4);have HO1:=Lh (ZOf_any 1 (by decide) (by decide) U3);clear hx4 E43 b3 b4 hU3 hK3 z3 z4 l3 l4 HPf
 go_upto_region 4 with fail
 rw [HU3.out,HK3.out];clear HU3
 go_wp2_with fail
 refine HO1.out.mono ?_;rintro e w5 ⟨s5,a5,n5,c5,rfl,z5,l5,hx5⟩;have HO3:=Lh (ZOf_any 3 (by decide) (by decide) w5);have Hz5:=Lh z5;have Hl5:=Lh l5;have Hx5:=Lh hx5;clear z5 l5 hx5 HO1
 go_wp2_with fail
 refine HO3.out.mono ?_;rintro e w6 ⟨s6,a6,n6,c6,rfl,z6,l6,hx6⟩;obtain ⟨K5,hK5⟩:∃ K,w6.heap.size=K:=⟨_,rfl⟩;obtain ⟨U4,hU4⟩:∃ U,w6.alloc (.cells #[.bool s5,.slice a5 n5 c5,.bool s6,.slice a6 n6 c6] 35)=U:=⟨_,rfl⟩
 have E64:Ext w6 U4:=by rw [<-hU4];exact ext_al _ _
 have b5:FZBx U4 K5 s5 a5 n5 c5 s6 a6 n6 c6:=by rw [<-hU4,<-hK5];exact fzbx_new w6 _ _ _ _ _ _ _ _
 have E34:Ext U3 U4:=(Hx5.out.trans hx6).trans E64;have HE34:=Lh E34;have Hb5:=Lh b5;have HU4:=Lh hU4;have HK5:=Lh hK5;have HZ5:=Lh (Hz5.out.ext (hx6.trans E64));have HZ6:=Lh (z6.ext E64);have HZ3:=Lh (HZ3.out.ext E34);have HZ4:=Lh (HZ4.out.ext E34);have Hl56:=Lh (show n5<=40000/\n6<=40000 by have:=Hl5.out;omega);have HE8:=Lh (show Ext w U4 from HE0.out.trans (HE1.out.trans (HE2.out.trans (HE3.out.trans E34))));have HEw0:=Lh (show Ext W0 U4 from HE1.out.trans (HE2.out.trans (HE3.out.trans E34)));have Hf8:=Lh (Hb1.out.ext (HE2.out.trans (HE3.out.trans E34)));have Hg8:=Lh (Hb2.out.ext (HE3.out.trans E34));have HD8:=Lh (HD.out.ext HEw0.out);have Hb3:=Lh (Hb3.out.ext E34);have Hb4:=Lh (Hb4.out.ext E34);clear E64 b5 E34 hU4 hK5 z6 l6 hx6 HO3 Hz5 Hx5 Hl5
 go_upto_region 5 with fail
 rw [HU4.out,HK5.out];clear HU4;have z0:=Hg8.out.x0;have z1:=Hg8.out.x1;have x0:=Hb4.out.x0
 by_cases hd0:d0=0
 rotate_left 1
 · -- the code has a fault
  have hcb:=bf hd0;have hy:=HY.out;rw [qU hd0] at hy;have e0:Y0=d0:=(congrArg Prod.fst hy).symm;have e1:Y1=d1:=(congrArg Prod.snd hy).symm
  have e2:tx=⟨#[]⟩:=by rw [<-Htx.out,e0,qE hd0]
  subst e0;subst e1;subst e2;have hnt:=nt hd0;have y0:=Hf8.out.x0;have y1:=Hf8.out.x1;clear hy hd0;have HB:=Lh (codeBegun_any U4 (HL.out.ext HE8.out))
  go_upto_region 11 with fail
  go_wp2_with fail
  refine HB.out.mono ?_;rintro r w9 ⟨rfl,hx9⟩;have y0:=cell_ext y0 hx9;have y1:=cell_ext y1 hx9;have z0:=cell_ext z0 hx9;have z1:=cell_ext z1 hx9;have HE9:=Lh (HE8.out.trans hx9);clear hx9 HB
  go_wp2_with fail
  go_ret
  exact ⟨rfl,HE9.out⟩
 subst hd0;have hd1:d1=0:=cc_snd Hd.out;subst hd1;have HY:=Lh (by have hy:=HY.out;rw [qE (by simp)] at hy;exact hy)
 by_cases hC:C=0
 rotate_left 1
 · -- the text is none
  have hcb:=nt hC;have hy:=HY.out;rw [qU hC] at hy;have e0:Y0=1:=(congrArg Prod.fst hy).symm;have e1:Y1=0:=(congrArg Prod.snd hy).symm
  have e2:tx=⟨#[]⟩:=by rw [<-Htx.out,e0,qE (by decide)]
  subst e0;subst e1;subst e2;clear hy hC;have hO8:Only K2 U4 ((U4.setCell ⟨K2,0,none⟩ (.int .i64 1)).setCell ⟨K2,1,none⟩ (.int .i64 0)):=((Only.refl _ _).setCell _ _).setCell _ _;have bz8:=Hg8.out;have b8:FtB ((U4.setCell ⟨K2,0,none⟩ (.int .i64 1)).setCell ⟨K2,1,none⟩ (.int .i64 0)) K2 1 0:=⟨row_put (row_put bz8.row rfl) rfl⟩;have c8:=Hf8.out.farC hO8 (by have:=Hord.out;omega);have d8:=HD8.out.far hO8 (by have:=Hord.out;omega);have z0:=bz8.x0;have z1:=bz8.x1;have zf0:=bz8.f 0;have zf1:=bz8.f 1;have HEg:=Lh (show Ext w ((U4.setCell ⟨K2,0,none⟩ (.int .i64 1)).setCell ⟨K2,1,none⟩ (.int .i64 0)) from put2x HE8.out (by have:=Hord.out;omega) _ _);have Hb8:=Lh b8;have Hc8:=Lh c8;have Hd8:=Lh d8;clear hO8 bz8 b8 c8 d8
  go_upto_region 7 with fail
  clear z0 z1 zf0 zf1 x0;generalize (U4.setCell ⟨K2,0,none⟩ (.int .i64 1)).setCell ⟨K2,1,none⟩ (.int .i64 0)=W8 at *;have z0:=Hb8.out.x0;have z1:=Hb8.out.x1;have y0:=Hc8.out.x0;have y1:=Hc8.out.x1;have HB:=Lh (codeBegun_any W8 (HL.out.ext HEg.out))
  go_upto_region 11 with fail
  go_wp2_with fail
  refine HB.out.mono ?_;rintro r w9 ⟨rfl,hx9⟩;have y0:=cell_ext y0 hx9;have y1:=cell_ext y1 hx9;have z0:=cell_ext z0 hx9;have z1:=cell_ext z1 hx9;have HE9:=Lh (HEg.out.trans hx9);clear hx9 HB
  go_wp2_with fail
  go_ret
  exact ⟨rfl,HE9.out⟩
 have hCn:=nf' hC;subst hC;have HY:=Lh (by have hy:=HY.out;rw [qE (by simp)] at hy;exact hy);have HloZ:=Lh (Hlow.out rfl);clear Hlow;have q3:=Hb3.out.c0;have q4:=Hb3.out.c1;have q5:=Hb3.out.c2;have q6:=Hb3.out.c3;have p3:=Hb5.out.c0;have p4:=Hb5.out.c1;have p5:=Hb5.out.c2;have p6:=Hb5.out.c3;obtain ⟨ks,hks⟩:∃ k,cmp3 P 0=k:=⟨_,rfl⟩;have HZs:=Lh (ZSign_any s3 a3 n3 c3 P U4 HZ3.out ks hks);obtain ⟨kc,hkc⟩:∃ k,(if P*3-1*Q<0 then (-1:Int) else if 0<P*3-1*Q then 1 else 0)=k:=⟨_,rfl⟩;have HFc:=Lh (fun (wx:World) (hx:Ext U4 wx)=>FCmp_any s3 a3 n3 c3 s4 a4 n4 c4 s5 a5 n5 c5 s6 a6 n6 c6 P Q 1 3 wx (HZ3.out.ext hx) (HZ4.out.ext hx) (HZ5.out.ext hx) (HZ6.out.ext hx) Hl34.out.1 Hl34.out.2 Hl56.out.1 Hl56.out.2 kc hkc.symm)
 have hc0:(0:Int)<=P->decide (ks<0)=false:=fun h=>jE (by rw [<-hks];unfold cmp3;rw [qE (by omega)];split<;>omega)
 have hc1:¬ (0:Int)<=P->decide (ks<0)=true:=fun h=>jJ (by rw [<-hks];unfold cmp3;rw [qU (by omega)];omega)
 have hd0':(0:Int)<=Q-P*3->decide (0<kc)=false:=fun h=>jE (by rw [<-hkc];split<;>(try split)<;>omega)
 have hd1':¬ (0:Int)<=Q-P*3->decide (0<kc)=true:=fun h=>jJ (by rw [<-hkc,qE (by omega),qU (by omega)];omega)
 clear hks hkc
 by_cases hP:(0:Int)<=P
 rotate_left 1
 · -- a chance below 0
  have hcs:=hc1 hP;have hy:=HY.out;rw [qU (by rw [jE hP];rfl)] at hy;have e0:Y0=29:=(congrArg Prod.fst hy).symm;have e1:Y1=0:=(congrArg Prod.snd hy).symm
  have e2:tx=⟨#[]⟩:=by rw [<-Htx.out,e0,qE (by decide)]
  subst e0;subst e1;subst e2;clear hy hP hc0 hc1 hd0' hd1'
  go_upto_region 7 with fail
  go_wp2_with fail
  refine HZs.out.mono ?_;rintro r w8 ⟨rfl,hx8⟩;have HE8:=Lh (HE8.out.trans hx8);have Hf8:=Lh (Hf8.out.ext hx8);have Hg8:=Lh (Hg8.out.ext hx8);have HD8:=Lh (HD8.out.ext hx8);clear hx8 HZs HFc z0 z1 x0 q3 q4 q5 q6 p3 p4 p5 p6;have hO8:Only K2 w8 ((w8.setCell ⟨K2,0,none⟩ (.int .i64 29)).setCell ⟨K2,1,none⟩ (.int .i64 0)):=((Only.refl _ _).setCell _ _).setCell _ _;have bz8:=Hg8.out;have b8:FtB ((w8.setCell ⟨K2,0,none⟩ (.int .i64 29)).setCell ⟨K2,1,none⟩ (.int .i64 0)) K2 29 0:=⟨row_put (row_put bz8.row rfl) rfl⟩;have c8:=Hf8.out.farC hO8 (by have:=Hord.out;omega);have d8:=HD8.out.far hO8 (by have:=Hord.out;omega);have z0:=bz8.x0;have z1:=bz8.x1;have zf0:=bz8.f 0;have zf1:=bz8.f 1;have HEg:=Lh (show Ext w ((w8.setCell ⟨K2,0,none⟩ (.int .i64 29)).setCell ⟨K2,1,none⟩ (.int .i64 0)) from put2x HE8.out (by have:=Hord.out;omega) _ _);have Hb8:=Lh b8;have Hc8:=Lh c8;have Hd8:=Lh d8;clear hO8 bz8 b8 c8 d8
  go_upto_region 9 with fail
  clear z0 z1 zf0 zf1 hcs;generalize (w8.setCell ⟨K2,0,none⟩ (.int .i64 29)).setCell ⟨K2,1,none⟩ (.int .i64 0)=W8 at *;have z0:=Hb8.out.x0;have z1:=Hb8.out.x1;have y0:=Hc8.out.x0;have y1:=Hc8.out.x1;have HB:=Lh (codeBegun_any W8 (HL.out.ext HEg.out))
  go_upto_region 11 with fail
  go_wp2_with fail
  refine HB.out.mono ?_;rintro r w9 ⟨rfl,hx9⟩;have y0:=cell_ext y0 hx9;have y1:=cell_ext y1 hx9;have z0:=cell_ext z0 hx9;have z1:=cell_ext z1 hx9;have HE9:=Lh (HEg.out.trans hx9);clear hx9 HB
  go_wp2_with fail
  go_ret
  exact ⟨rfl,HE9.out⟩
 have hcs:=hc0 hP
 by_cases hQ:(0:Int)<=Q-P*3
 rotate_left 1
 · -- a chance above a third
  have hcd:=hd1' hQ;have hy:=HY.out;rw [qU (by rw [jE hQ,Bool.and_false])] at hy;have e0:Y0=29:=(congrArg Prod.fst hy).symm;have e1:Y1=0:=(congrArg Prod.snd hy).symm
  have e2:tx=⟨#[]⟩:=by rw [<-Htx.out,e0,qE (by decide)]
  subst e0;subst e1;subst e2;clear hy hP hQ hc0 hc1 hd0' hd1'
  go_upto_region 7 with fail
  go_wp2_with fail
  refine HZs.out.mono ?_;rintro r w7 ⟨rfl,hx7⟩;have HX7:=Lh hx7;have z0:=cell_ext z0 hx7;have z1:=cell_ext z1 hx7;have q3:=cell_ext q3 hx7;have q4:=cell_ext q4 hx7;have q5:=cell_ext q5 hx7;have q6:=cell_ext q6 hx7;have p3:=cell_ext p3 hx7;have p4:=cell_ext p4 hx7;have p5:=cell_ext p5 hx7;have p6:=cell_ext p6 hx7;clear hx7 HZs x0
  go_wp2_with fail
  refine (HFc.out w7 HX7.out).mono ?_;rintro r w8 ⟨rfl,hx8⟩;have hx8:=HX7.out.trans hx8;have HE8:=Lh (HE8.out.trans hx8);have Hf8:=Lh (Hf8.out.ext hx8);have Hg8:=Lh (Hg8.out.ext hx8);have HD8:=Lh (HD8.out.ext hx8);clear hx8 HFc z0 z1 q3 q4 q5 q6 p3 p4 p5 p6;have hO8:Only K2 w8 ((w8.setCell ⟨K2,0,none⟩ (.int .i64 29)).setCell ⟨K2,1,none⟩ (.int .i64 0)):=((Only.refl _ _).setCell _ _).setCell _ _;have bz8:=Hg8.out;have b8:FtB ((w8.setCell ⟨K2,0,none⟩ (.int .i64 29)).setCell ⟨K2,1,none⟩ (.int .i64 0)) K2 29 0:=⟨row_put (row_put bz8.row rfl) rfl⟩;have c8:=Hf8.out.farC hO8 (by have:=Hord.out;omega);have d8:=HD8.out.far hO8 (by have:=Hord.out;omega);have z0:=bz8.x0;have z1:=bz8.x1;have zf0:=bz8.f 0;have zf1:=bz8.f 1;have HEg:=Lh (show Ext w ((w8.setCell ⟨K2,0,none⟩ (.int .i64 29)).setCell ⟨K2,1,none⟩ (.int .i64 0)) from put2x HE8.out (by have:=Hord.out;omega) _ _);have Hb8:=Lh b8;have Hc8:=Lh c8;have Hd8:=Lh d8;clear hO8 bz8 b8 c8 d8
  go_upto_region 9 with fail
  clear z0 z1 zf0 zf1 hcs hcd;generalize (w8.setCell ⟨K2,0,none⟩ (.int .i64 29)).setCell ⟨K2,1,none⟩ (.int .i64 0)=W8 at *;have z0:=Hb8.out.x0;have z1:=Hb8.out.x1;have y0:=Hc8.out.x0;have y1:=Hc8.out.x1;have HB:=Lh (codeBegun_any W8 (HL.out.ext HEg.out))
  go_upto_region 11 with fail
  go_wp2_with fail
  refine HB.out.mono ?_;rintro r w9 ⟨rfl,hx9⟩;have y0:=cell_ext y0 hx9;have y1:=cell_ext y1 hx9;have z0:=cell_ext z0 hx9;have z1:=cell_ext z1 hx9;have HE9:=Lh (HEg.out.trans hx9);clear hx9 HB
  go_wp2_with fail
  go_ret
  exact ⟨rfl,HE9.out⟩
 have hcd:=hd0' hQ;have HPQ:=Lh (jN hP hQ);have HY:=Lh (by have hy:=HY.out;rw [qE (by rw [jJ hP,jJ hQ];decide)] at hy;exact hy);obtain ⟨n1,n12,nk,hall⟩:=cc_zero (N:=N) (gens:=gens) (by rw [Hd.out]);obtain ⟨nn,rfl⟩:∃ nn:Nat,N=(nn:Int):=⟨N.toNat,by omega⟩;clear hP hQ hc0 hc1 hd0' hd1' n1 n12 nk hall
 go_upto_region 7 with fail
 go_wp2_with fail
 refine HZs.out.mono ?_;rintro r w7 ⟨rfl,hx7⟩;have HX7:=Lh hx7;have z0:=cell_ext z0 hx7;have z1:=cell_ext z1 hx7;have q3:=cell_ext q3 hx7;have q4:=cell_ext q4 hx7;have q5:=cell_ext q5 hx7;have q6:=cell_ext q6 hx7;have p3:=cell_ext p3 hx7;have p4:=cell_ext p4 hx7;have p5:=cell_ext p5 hx7;have p6:=cell_ext p6 hx7;clear hx7 HZs x0
 go_wp2_with fail
 refine (HFc.out w7 HX7.out).mono ?_;rintro r w8 ⟨rfl,hx8⟩;have hx8:=HX7.out.trans hx8;have HE8:=Lh (HE8.out.trans hx8);have Hf8:=Lh (Hf8.out.ext hx8);have Hg8:=Lh (Hg8.out.ext hx8);have HD8:=Lh (HD8.out.ext hx8);have Hb3:=Lh (Hb3.out.ext hx8);have HZ3:=Lh (HZ3.out.ext hx8);have HZ4:=Lh (HZ4.out.ext hx8);have Hh8:=Lh (Hh.out.ext (HEw0.out.trans hx8));have z0:=Hg8.out.x0;have z1:=Hg8.out.x1;have v0:=HD8.out.x0;clear hx8 HFc q3 q4 q5 q6 p3 p4 p5 p6
 by_cases h6:(6:Int)<(nn:Int)
 · -- too many qubits
  have hy:=HY.out;rw [qU h6] at hy;have e0:Y0=21:=(congrArg Prod.fst hy).symm;have e1:Y1=0:=(congrArg Prod.snd hy).symm
  have e2:tx=⟨#[]⟩:=by rw [<-Htx.out,e0,qE (by decide)]
  subst e0;subst e1;subst e2;clear hy
  go_upto_region 9 with fail
  clear hcs hcd;have hO8:Only K2 w8 ((w8.setCell ⟨K2,0,none⟩ (.int .i64 21)).setCell ⟨K2,1,none⟩ (.int .i64 0)):=((Only.refl _ _).setCell _ _).setCell _ _;have bz8:=Hg8.out;have b8:FtB ((w8.setCell ⟨K2,0,none⟩ (.int .i64 21)).setCell ⟨K2,1,none⟩ (.int .i64 0)) K2 21 0:=⟨row_put (row_put bz8.row rfl) rfl⟩;have c8:=Hf8.out.farC hO8 (by have:=Hord.out;omega);have d8:=HD8.out.far hO8 (by have:=Hord.out;omega);have z0:=bz8.x0;have z1:=bz8.x1;have zf0:=bz8.f 0;have zf1:=bz8.f 1;have HEg:=Lh (show Ext w ((w8.setCell ⟨K2,0,none⟩ (.int .i64 21)).setCell ⟨K2,1,none⟩ (.int .i64 0)) from put2x HE8.out (by have:=Hord.out;omega) _ _);have Hb8:=Lh b8;have Hc8:=Lh c8;have Hd8:=Lh d8;clear hO8 bz8 b8 c8 d8
  go_upto_region 11 with fail
  clear z0 z1 zf0 zf1 v0;generalize (w8.setCell ⟨K2,0,none⟩ (.int .i64 21)).setCell ⟨K2,1,none⟩ (.int .i64 0)=W8 at *;have z0:=Hb8.out.x0;have z1:=Hb8.out.x1;have y0:=Hc8.out.x0;have y1:=Hc8.out.x1;have HB:=Lh (codeBegun_any W8 (HL.out.ext HEg.out))
  go_upto_region 11 with fail
  go_wp2_with fail
  refine HB.out.mono ?_;rintro r w9 ⟨rfl,hx9⟩;have y0:=cell_ext y0 hx9;have y1:=cell_ext y1 hx9;have z0:=cell_ext z0 hx9;have z1:=cell_ext z1 hx9;have HE9:=Lh (HEg.out.trans hx9);clear hx9 HB
  go_wp2_with fail
  go_ret
  exact ⟨rfl,HE9.out⟩
 have hy:=HY.out;rw [qE h6] at hy;have e0:Y0=0:=(congrArg Prod.fst hy).symm;have e1:Y1=0:=(congrArg Prod.snd hy).symm
 have e2:tx=T:=by rw [<-Htx.out,e0,qU rfl]
 subst e0;subst e1;subst e2;have Hn6:=Lh (show nn<=6 by omega);clear hy
 go_upto_region 9 with fail
 clear hcs hcd;have y0:=Hf8.out.x0;have y1:=Hf8.out.x1;have HB:=Lh (codeBegun_any w8 (HL.out.ext HE8.out))
 go_upto_region 11 with fail
 clear h6
 go_wp2_with fail
 refine HB.out.mono ?_;rintro r w9 ⟨rfl,hx9⟩;have y0:=cell_ext y0 hx9;have y1:=cell_ext y1 hx9;have z0:=cell_ext z0 hx9;have z1:=cell_ext z1 hx9;have v0:=cell_ext v0 hx9;have v1:=(HD8.out.ext hx9).x1;have HE9:=Lh (HE8.out.trans hx9);have bq:=Hb3.out.ext hx9;have q3:=bq.c0;have q4:=bq.c1;have q5:=bq.c2;have q6:=bq.c3;have HX9:=Lh hx9;clear hx9 HB bq
 by_cases h4:(4:Int)<(nn:Int)
 ·go_wp2_with fail
  go_ret
  exact ⟨rfl,HE9.out⟩
 have hn4:nn<=4:=by omega
 have hfz:=HFz.out nn (by rw [jJ HPQ.out.1,jJ HPQ.out.2];rfl) Hn6.out;have hct:=fa_text (n:=nn) (gens:=gens) (by rw [Hd.out]) P Q;have e3:=gsm_congr (c:=cntE nn gens) (d:=cntT nn gens) P (Q-P*3) nn (nn+1) (fun w hw=>cnt_is (by rw [Hd.out]) (by omega));rw [e3,yR P 3] at hfz;have HTt:=HTt.out;rw [yT,<-hct] at HTt;have HFo:=Lh (FailsOf_any gens ao k cp s3 a3 n3 c3 s4 a4 n4 c4 P Q w9 (Hh8.out.ext HX9.out) nn hn4 (by rw [Hd.out]) (HZ3.out.ext HX9.out) (HZ4.out.ext HX9.out) Hl34.out.1 Hl34.out.2 ⟨HPQ.out.1,by have:=HPQ.out.2;omega,HlQ.out.2,HlQ.out.1,HloZ.out.1,HloZ.out.2⟩);obtain ⟨rP,hrP⟩:∃ r,nfp (gsm (cntT nn gens) P (Q-3*P) nn (nn+1)) (Q ^ nn)=r:=⟨_,rfl⟩;obtain ⟨rQ,hrQ⟩:∃ r,nfq (gsm (cntT nn gens) P (Q-3*P) nn (nn+1)) (Q ^ nn)=r:=⟨_,rfl⟩;rw [hrP,hrQ] at HFo HTt hfz;unfold FRet at HFo;have HTx:=Lh (fun (b:Bool) (a:Option Addr) (n c:Nat) (b':Bool) (a':Option Addr) (n' c':Nat) (wx:World) (h1:IsZ wx b a n c rP) (h2:IsZ wx b' a' n' c' rQ) (h3:n<=40000) (h4:n'<=40000)=>FText_any b a n c b' a' n' c' rP rQ wx h1 h2 (by omega) (by omega) M HM.out.1 HM.out.2 hfz.2.1 hfz.2.2);rw [HTt] at HTx;clear hfz hct e3 HTt hrP hrQ
 go_wp2_with fail
 refine HFo.out.mono ?_;rintro r w10 ⟨b,a,n,c,b',a',n',c',rfl,g1,g2,g3,g4,hx10⟩;have HTy:=Lh (HTx.out _ _ _ _ _ _ _ _ w10 g1 g2 g3 g4);have HE10:=Lh (HE9.out.trans hx10);clear g1 g2 g3 g4 hx10 HTx HFo
 go_wp2_with fail
 refine HTy.out.mono ?_;rintro r w11 ⟨rfl,hx11⟩;have HE11:=Lh (HE10.out.trans hx11);have hst:(tx.toList == tx.toList)=true:=beq_self_eq_true _;clear hx11 HTy
 go_wp2_with fail
 go_ret
 exact ⟨by simp,HE11.out⟩
end Go.Proofs.YtjfomkoedgipjaaGreatDoor
