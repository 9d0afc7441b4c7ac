/-
  The program: the chance that an error is not mended (Fails). The reference's division, in plain numbers; an append of ints; what a store of the same value leaves.
-/
import Derived.Test.YtjfomkoedgipjaaGreatDoorS24FpB
namespace Go.Proofs.YtjfomkoedgipjaaGreatDoor
set_option maxRecDepth 100000
set_option maxHeartbeats 8000000
open Go.RowKit
def faF (N:Int) (gens:List (List UInt8)) (P Q C:Int):Int × Int :=
 if (ccF N gens).1≠0 then ccF N gens else if C≠0 then (1,0) else if (decide (0<=P) && decide (0<=Q-P*3))=false then (29,0) else if 6<N then (21,0) else (0,0)
def faT (n:Nat) (gens:List (List UInt8)) (P Q:Int):ByteArray:=ftx (nfp (gsm (cntE n gens) P (Q-P*3) n (n+1)) (Q ^ n)) (nfq (gsm (cntE n gens) P (Q-P*3) n (n+1)) (Q ^ n))
def FaR (Y:Int × Int) (T:ByteArray) (w:World) (e:Ending) (w':World):Prop :=
 e=.returned (.tuple #[.string (if Y.1=0 then T else ⟨#[]⟩),.agg #[.int .i64 Y.1,.int .i64 Y.2]])/\Ext w w'
theorem FaR.bad {Y:Int × Int} {T:ByteArray} {w w':World} {a b:Int} (h:Y=(a,b)) (ha:¬ a=0) (hx:Ext w w'):FaR Y T w (.returned (.tuple #[.string ⟨#[]⟩,.agg #[.int .i64 a,.int .i64 b]])) w':=by
 subst h;exact ⟨by rw [qE ha],hx⟩
theorem FaR.good {Y:Int × Int} {T:ByteArray} {w w':World} (h:Y=(0,0)) (hx:Ext w w'):FaR Y T w (.returned (.tuple #[.string T,.agg #[.int .i64 0,.int .i64 0]])) w':=by
 subst h;exact ⟨by rw [qU rfl],hx⟩
theorem errP_wt {n:Nat} (hn:n<=12):∀ p ∈ errP n,pcF 16 (p.x ||| p.z)<=n:=fun p hp=>by
 rw [errP_errT hn] at hp;obtain ⟨e,he,rfl⟩:=yU.1 hp
 have hl:Let n e:=by
  rw [errT_is] at he;obtain ⟨v,_,hv⟩:=List.mem_flatMap.1 he;exact (erR_let n e).1 (List.mem_filter.1 hv).1
 rw [wt_tP (by omega) hl];have h1:=wtT_le e;have h2:=hl.1;omega
theorem unK_is {n:Nat} {gens:List (List UInt8)} {keys:List (Nat × Nat)} (h:SamS keys (psL n gens)) (p:PK):unK keys (psL n gens) n p=unP n gens p:=by
 unfold unK unP mnP;rw [fs_fst];generalize fstP (fun q=>shN (psL n gens) q == shN (psL n gens) p) n=f;rw [yN.2 (h (p.x ^^^ f.x,p.z ^^^ f.z))]
theorem cnL_is {n:Nat} {gens:List (List UInt8)} {keys:List (Nat × Nat)} (h:SamS keys (psL n gens)):cnL keys (psL n gens) n (errP n)=(List.range (n+1)).map fun i=>(cntE n gens i:Int):=by
 have e:∀ i,cnK keys (psL n gens) n (errP n) i=cntE n gens i:=fun i=>by
  unfold cnK cntE;simp only [unK_is h]
 unfold cnL;simp only [e]
theorem fitM:∃ K,K<=100000/\1<=K/\∀ z:Int,z.natAbs<=28672*(Lim ^ 6:Nat)->Fit K z:=by
 obtain ⟨K,h1,h2,h3⟩:=fitK;refine ⟨K,h1,h2,fun z hz=>?_⟩;generalize (Lim ^ 6:Nat)=L at *;have:=h3 (z.natAbs:Int) (by omega) (by omega);unfold Fit at this ⊢;rw [Int.natAbs_natCast] at this;exact this
theorem lim6:1<=Lim/\Lim<=(Lim ^ 6:Nat):=by
 have h1:1<=Lim:=Nat.le_of_lt (qK (by decide) (lim_le 1 (by decide)));generalize Lim=L at *;refine ⟨h1,?_⟩;have:=qY h1 (show 1<=6 by decide);rw [Nat.pow_one] at this;exact this
theorem fa_zero {n:Nat} {gens:List (List UInt8)} {P Q:Int} (hc:(decide (0<=P) && decide (0<=Q-P*3))=true) (hQ:0<Q) (hl:Q.natAbs<Lim) (hn:n<=6) {K:Nat} (hK:K<=100000) (hK1:1<=K) (hfit:∀ z:Int,z.natAbs<=28672*(Lim ^ 6:Nat)->Fit K z) :
  ChB K n (cntE n gens) P (Q-P*3) Q/\Fit K (nfp (gsm (cntE n gens) P (Q-P*3) n (n+1)) (Q ^ n))/\Fit K (nfq (gsm (cntE n gens) P (Q-P*3) n (n+1)) (Q ^ n)):=by
 rw [Bool.and_eq_true,jZ,jZ] at hc;obtain ⟨hP,hv⟩:=hc;have hM:=pow_limF hQ hl hn;have h6:=lim6;have hsum:=gsm_le hP (show P<=Q by omega) hv (show Q-P*3<=Q by omega) n 4096 (fun w=>cnt_le hn gens w) (n+1);have hpn:=pow_nnF (show 0<=Q by omega) n;have hmul:(((n+1)*4096:Nat):Int)*Q ^ n<=28672*((Lim ^ 6:Nat):Int):=Int.mul_le_mul (by omega) hM hpn (by omega);have hb:=nfp_le (gsm (cntE n gens) P (Q-P*3) n (n+1)) (Q ^ n);have hq:=nfq_le (gsm (cntE n gens) P (Q-P*3) n (n+1)) (Q ^ n) (Int.pow_ne_zero (by omega));refine ⟨chB_of (M:=(Lim ^ 6:Nat)) (by omega) hK1 hP hv hQ hn (fun i=>cnt_le hn gens i) hM ?_ (fun z h0 hz=>hfit z ?_),hfit _ ?_,hfit _ ?_⟩
 all_goals (generalize (Lim ^ 6:Nat)=L at *;generalize Lim=L1 at *;omega)
theorem Fails_any (N:Int) (gens:List (List UInt8)) (t:ByteArray) (ao:Option Addr) (k c:Nat) (w:World) (hG:StrsAt w ao k gens) (hT:∀ T ∈ gens,T.length<=9223372036854775807) (hk9:k<=9223372036854775806) (ht:t.size<=9223372036854775807) (hL:LtL w) (hbr:Bru w) (htab:Ten w) :
  Calls Tryz.prog 4 #[.agg #[.int .i64 N,.slice ao k c],.string t] w fun e w'=>FaR (faF N gens (fP (bs t)) (fQ (bs t)) (fcode (bs t))) (faT N.toNat gens (fP (bs t)) (fQ (bs t))) w e w':=by
 obtain ⟨M,hM,hM1,hfit⟩:=fitM;have h6:=lim6
 have hfa:∀ z:Int,z.natAbs<Lim->Fit M z:=fun z hz=>hfit z (by generalize (Lim ^ 6:Nat)=L at *;generalize Lim=L1 at *;omega)
 obtain ⟨lP,lQ,hQ0⟩:=f_lim (bs t);have f3:Fit M 3:=hfit 3 (by generalize (Lim ^ 6:Nat)=L at *;generalize Lim=L1 at *;omega);have fP3:Fit M (fP (bs t)*3):=hfit _ (by generalize (Lim ^ 6:Nat)=L at *;generalize Lim=L1 at *;omega);have fP1:=hfa _ lP;have fQ1:=hfa _ lQ;have HPf:=Lh (fun (wx:World) (hx:Ext w wx)=>ParseFrac_any t wx ht M (by omega) hM1 hfa (bru_ext hbr hx));have HOd:=Lh (fun (s:Int) (a:Option Addr) (n c:Nat) (s':Int) (a':Option Addr) (n' c':Nat) (wx:World) (hI:IsFr wx s a n c s' a' n' c' (fP (bs t)) (fQ (bs t)))=>oddsOf_any s a n c s' a' n' c' _ _ wx hI M (by omega) fP1 fQ1 f3 fP3);have HFz:=Lh (fun (n:Nat) (hc:(decide (0<=fP (bs t)) && decide (0<=fQ (bs t)-fP (bs t)*3))=true) (hn:n<=6)=>fa_zero (n:=n) (gens:=gens) hc hQ0 lQ hn hM hM1 hfit);unfold QRetG at HPf;unfold OdR at HOd;clear hfit h6 hfa lP lQ hQ0 f3 fP3 fP1 fQ1;obtain ⟨P,hP⟩:∃ P,fP (bs t)=P:=⟨_,rfl⟩;obtain ⟨Q,hQ⟩:∃ Q,fQ (bs t)=Q:=⟨_,rfl⟩;obtain ⟨C,hC⟩:∃ C,fcode (bs t)=C:=⟨_,rfl⟩;obtain ⟨At,hAt⟩:∃ A,fat (bs t)=A:=⟨_,rfl⟩;rw [hP,hQ] at HOd HFz ⊢;rw [hP,hQ,hC,hAt] at HPf;rw [hC];obtain ⟨Y,hY⟩:∃ Y,faF N gens P Q C=Y:=⟨_,rfl⟩;obtain ⟨T,hTt⟩:∃ T,faT N.toNat gens P Q=T:=⟨_,rfl⟩;rw [hY,hTt];unfold faF at hY;unfold faT at hTt;have HTt:=Lh hTt;have HM:=Lh (jN hM hM1);clear hP hQ hC hAt hTt hM hM1;obtain ⟨H,hH⟩:∃ H,w.heap.size=H:=⟨_,rfl⟩;obtain ⟨W0,hW0⟩:∃ W0,(w.alloc (.cells #[.int .i64 N,.slice ao k c] 24)).alloc (.cells #[.int .i64 0,.int .i64 0] 26)=W0:=⟨_,rfl⟩
 have E0:Ext w W0:=by rw [<-hW0];exact (ext_al w _).trans (ext_al _ _)
 have C0:CoB W0 H N ao k c:=by rw [<-hW0,<-hH];exact (CoB.new w _ _ _ _).ext (ext_al _ _)
 have bF:FtB W0 (H+1) 0 0:=⟨by
  have:=qW (w.alloc (.cells #[.int .i64 N,.slice ao k c] 24)) (.cells #[.int .i64 0,.int .i64 0] 26);rw [<-hW0,<-hH]
  simpa using this⟩
 have HRd:=Lh (read_any N gens ao k c W0 (hG.ext E0) hT hk9);unfold RdP at HRd;rw [rd_cc] at HRd
 have hz:(ccF N gens).1=0->1<=N/\N<=12/\(gens.length:Int)<=N:=fun h=>by
  have:=cc_zero h;exact ⟨this.1,this.2.1,this.2.2.1⟩
 obtain ⟨F,hF⟩:∃ F,ccF N gens=F:=⟨_,rfl⟩;obtain ⟨F0,F1⟩:=F;rw [hF] at HRd hY hz;simp only at HRd hY hz;have HE0:=Lh E0;have HFt:=Lh bF;have HC:=Lh C0;have HW0:=Lh hW0;have HH:=Lh hH;have HwH:=Lh (show w.heap.size<=H+1 by omega);have HY:=Lh hY;have Hz:=Lh hz;have Hlg:=Lh (show gens.length=k from hG.1);have HL:=Lh hL;have Hbr:=Lh hbr;have Htab:=Lh htab;have Hlt0:=Lh hL.lt;have v0:=C0.x0;have v1:=C0.x1;clear hG hT hk9 hH hW0 E0 C0 bF hF hY hz hL hbr htab
 go_enter Tryz.func4,Tryz.ntmps4
 go_upto_region 1 with fail
 rw [HW0.out,HH.out]
 go_wp2_with fail
 refine HRd.out.mono ?_;rintro e w1 ⟨N',a,n,c',mp,rfl,hx1,hrd⟩;obtain ⟨U,hU⟩:∃ U,(w1.alloc (.cells #[.int .i64 N',.slice a n c',.map mp] 49)).alloc (.cells #[.int .i64 F0,.int .i64 F1] 26)=U:=⟨_,rfl⟩;obtain ⟨K,hK⟩:∃ K,w1.heap.size=K:=⟨_,rfl⟩
 have E1U:Ext w1 U:=by rw [<-hU];exact (ext_al _ _).trans (ext_al _ _)
 have EU:Ext W0 U:=hx1.trans E1U
 have fU:FrB U K N' a n c' mp:=by rw [<-hU,<-hK];exact (FrB.new _ _ _ _ _ _).ext (ext_al _ _)
 have bU:FtB U (K+1) F0 F1:=⟨by
  have:=qW (w1.alloc (.cells #[.int .i64 N',.slice a n c',.map mp] 49)) (.cells #[.int .i64 F0,.int .i64 F1] 26);rw [<-hU,<-hK]
  simpa using this⟩
 have hKH:H+1<K:=by rw [<-hK];exact qK HFt.out.lt hx1.size
 have HU:=Lh hU;have HK:=Lh hK;have HfU:=Lh fU;have HEU:=Lh EU;have Hrd:=Lh hrd;have HE1U:=Lh E1U;have HbU:=Lh bU;have HKH:=Lh hKH;have u0:=bU.x0;have u1:=bU.x1;clear hx1 hU hK EU bU fU v0 v1 HRd hrd E1U hKH
 go_upto_region 2 with fail
 rw [HU.out,HK.out];clear HU HK
 by_cases hz:F0=0
 rotate_left 1
 ·have hcb:=nt hz
  have hYe:=HY.out;rw [qU hz] at hYe;have HYe:=Lh hYe;have bz:=HFt.out.ext HEU.out;have x0':=bz.x0;have x1':=bz.x1;have g0':=bz.f 0;have g1':=bz.f 1;have HEy:=Lh (HE0.out.trans HEU.out);have Hnz:=Lh hz;clear bz hYe hz
  go_upto_region 3 with fail
  go_region
  go_wp2_with fail
  exact qJ (v:=.tuple #[.string ⟨#[]⟩,.agg #[.int .i64 F0,.int .i64 F1]]) (by simp [results,Tryz.results4,go_sem,x0',x1']) rfl (FaR.bad HYe.out.symm Hnz.out (put2d HEy.out HwH.out _ _))
 have hcb:=nf' hz;obtain ⟨hN',hps,hac,hcm,Bg,keys,hmp,hgr,hsam⟩:=Hrd.out hz;subst hN';subst hmp;obtain ⟨n1,n12,nk⟩:=Hz.out hz;rw [Hlg.out] at nk;obtain ⟨nn,rfl⟩:∃ nn:Nat,N'=(nn:Int):=⟨N'.toNat,by omega⟩;simp only [yT] at hps hsam HTt ⊢;have hYe:=HY.out;rw [qE (by simp [hz])] at hYe
 have hnk:n=k:=by have h9:=hps.1;unfold psL at h9;rw [jY,Hlg.out] at h9;omega
 have hnn:nn<=12/\1<=nn:=by omega
 have hk12:n<=12:=by omega
 have HYe:=Lh hYe;have Hnn:=Lh hnn;have Hk12:=Lh hk12;have HpU:=Lh (hps.ext HE1U.out);have HgU:=Lh (hgr.ext HE1U.out);have Hsam:=Lh hsam;have b0:=HbU.out.f 0;have b1:=HbU.out.f 1;clear hz hps hac hcm n1 n12 nk hYe hnk hnn hk12 HY Hrd hgr hsam
 go_upto_region 4 with fail
 clear hcb
 go_wp2_with fail
 refine (HPf.out U (HE0.out.trans HEU.out)).mono ?_;rintro e w2 ⟨s5,a5,n5,c5,s6,a6,n6,c6,rfl,hfr,hx2⟩;obtain ⟨K4,hK4⟩:∃ K,w2.heap.size=K:=⟨_,rfl⟩;obtain ⟨V,hV⟩:∃ V,w2.alloc (.cells #[.int .i64 s5,.slice a5 n5 c5,.int .i64 s6,.slice a6 n6 c6] 56)=V:=⟨_,rfl⟩;obtain ⟨U4,hU4⟩:∃ U,(V.setCell ⟨K+1,0,none⟩ (.int .i64 C)).setCell ⟨K+1,1,none⟩ (.int .i64 At)=U:=⟨_,rfl⟩
 have E2V:Ext w2 V:=by rw [<-hV];exact ext_al _ _
 have EV:Ext U V:=hx2.trans E2V
 have hO:Only (K+1) V U4:=by rw [<-hU4];exact ((Only.refl _ _).setCell _ _).setCell _ _
 have bV:=HbU.out.ext EV
 have bU4:FtB U4 (K+1) C At:=by rw [<-hU4];exact ⟨row_put (row_put bV.row rfl) rfl⟩
 have hK4K:K+1<K4:=by rw [<-hK4];exact qK HbU.out.lt hx2.size
 have mV:QBx V K4 s5 a5 n5 c5 s6 a6 n6 c6:=⟨by rw [<-hV,<-hK4];exact qW _ _⟩;have hm4:=mV.only hO (by omega);have hr4:=(hfr.ext E2V).keep64 (keep_onlyI hO bV.row (nowordF _ _));have hEV0:Ext W0 V:=HEU.out.trans EV;have hE4:Ext w U4:=ext_onlyC (HE0.out.trans hEV0) hO (by have:=HwH.out;have:=HKH.out;omega);have hf4:=(HfU.out.ext EV).far hO (by omega);have hc4:=(HC.out.ext hEV0).far hO (by have:=HKH.out;omega);have hF4:=(HFt.out.ext hEV0).farC hO (by have:=HKH.out;omega);have hp4:PsAt U4 a n (psL nn gens):=(HpU.out.ext EV).far hO bV.row no16';have hg4:GrpM U4 Bg keys:=(HgU.out.ext EV).far hO bV.row;have w0:=bV.x0;have w1':=bV.x1;have w2':=bV.f 0;have w3':=bV.f 1;rw [<-hV] at w0 w1' w2' w3';have HE4:=Lh hE4;have HFt:=Lh hF4;have HV:=Lh hV;have HK4:=Lh hK4;have HU4:=Lh hU4;have Hf4:=Lh hf4;have Hc4:=Lh hc4;have Hp4:=Lh hp4;have Hm4:=Lh hm4;have Hr4:=Lh hr4;have Hg4:=Lh hg4;have Hb4:=Lh bU4;have HKe:=Lh hK4K;clear hx2 EV E2V hO bV bU4 mV hEV0 hE4 hf4 hc4 hF4 hp4 hm4 hr4 hg4 hV hK4 hU4 HPf u0 u1 b0 b1 hK4K hfr
 go_upto_region 5 with fail
 rw [HV.out,HK4.out,HU4.out];clear HV HK4 HU4 w0 w1' w2' w3';have q0:=Hb4.out.x0
 by_cases hz:C=0
 rotate_left 1
 ·have hcb:=nt hz
  have hYb:=HYe.out;rw [qU hz] at hYb;have HYb:=Lh hYb;clear hYb hz;have bz:=HFt.out;have x0':=bz.x0;have x1':=bz.x1;have g0':=bz.f 0;have g1':=bz.f 1;have HEy:=Lh HE4.out;clear bz
  go_upto_region 6 with fail
  go_wp2_with fail
  exact qJ (v:=.tuple #[.string ⟨#[]⟩,.agg #[.int .i64 1,.int .i64 0]]) (by simp [results,Tryz.results4,go_sem,x0',x1']) rfl (FaR.bad HYb.out.symm (by decide) (put2x HEy.out HwH.out _ _))
 have hcb:=nf' hz;have hYe:=HYe.out;rw [qE (by simp [hz])] at hYe;have HYe:=Lh hYe;clear hYe hz;have g0:=Hm4.out.c0;have g1:=Hm4.out.c1;have g2:=Hm4.out.c2;have g3:=Hm4.out.c3
 go_upto_region 7 with fail
 clear hcb q0
 go_wp2_with fail
 refine (HOd.out _ _ _ _ _ _ _ _ U4 Hr4.out).mono ?_;rintro e w5 ⟨s1,a1,n1,c1,s2,a2,n2,c2,s3,a3,n3,c3,rfl,i1,i2,i3,hx5⟩;obtain ⟨K7,hK7⟩:∃ K,w5.heap.size=K:=⟨_,rfl⟩;obtain ⟨V7,hV7⟩:∃ V,w5.alloc (.cells #[.int .i64 s1,.slice a1 n1 c1,.int .i64 s2,.slice a2 n2 c2,.int .i64 s3,.slice a3 n3 c3] 60)=V:=⟨_,rfl⟩
 have E57:Ext w5 V7:=by rw [<-hV7];exact ext_al _ _
 have E7:Ext U4 V7:=hx5.trans E57;have oV:OdB V7 K7 s1 a1 n1 c1 s2 a2 n2 c2 s3 a3 n3 c3:=⟨by rw [<-hV7,<-hK7];exact qW _ _⟩;have HV7:=Lh hV7;have HK7:=Lh hK7;have Hi1:=Lh (i1.ext E57);have Hi2:=Lh (i2.ext E57);have Hi3:=Lh (i3.ext E57);have HE7:=Lh E7;have HoV:=Lh oV;have o0:=oV.x0;have o1:=oV.x1;have o2:=oV.x2;have o3:=oV.x3;have o4:=oV.x4;have o5:=oV.x5;clear i1 i2 i3 hx5 hV7 hK7 E57 E7 oV g0 g1 g2 g3 HOd
 go_upto_region 8 with fail
 rw [HV7.out,HK7.out];clear HV7 HK7;have HCa:=Lh (canBe_any s1 a1 n1 c1 s2 a2 n2 c2 s3 a3 n3 c3 P (Q-P*3) V7 Hi1.out Hi2.out);obtain ⟨cb,hcbe⟩:∃ b,(decide (0<=P) && decide (0<=Q-P*3))=b:=⟨_,rfl⟩;rw [hcbe] at HCa HYe HFz;clear hcbe
 go_wp2_with fail
 refine HCa.out.mono ?_;rintro e w8 ⟨rfl,hx8⟩;have HX8:=Lh (HE7.out.trans hx8);have HE8:=Lh (HE4.out.trans (HE7.out.trans hx8));have HF8:=Lh (HFt.out.ext HX8.out);have HV8:=Lh hx8;clear hx8 HCa o0 o1 o2 o3 o4 o5
 cases cb
 ·have hYb:=HYe.out
  rw [qU rfl] at hYb;have HYb:=Lh hYb;clear hYb;have bz:=HF8.out;have x0':=bz.x0;have x1':=bz.x1;have g0':=bz.f 0;have g1':=bz.f 1;have HEy:=Lh HE8.out;clear bz
  go_upto_region 9 with fail
  go_wp2_with fail
  exact qJ (v:=.tuple #[.string ⟨#[]⟩,.agg #[.int .i64 29,.int .i64 0]]) (by simp [results,Tryz.results4,go_sem,x0',x1']) rfl (FaR.bad HYb.out.symm (by decide) (put2x HEy.out HwH.out _ _))
 have hYe:=HYe.out;rw [qE (by simp)] at hYe;have HYe:=Lh hYe;clear hYe;have d0:=(Hc4.out.ext HX8.out).x0
 by_cases hz:(6:Int)<(nn:Int)
 ·have hYb:=HYe.out
  rw [qU hz] at hYb;have HYb:=Lh hYb;clear hYb;have bz:=HF8.out;have x0':=bz.x0;have x1':=bz.x1;have g0':=bz.f 0;have g1':=bz.f 1;have HEy:=Lh HE8.out;clear bz
  go_upto_region 11 with fail
  go_wp2_with fail
  exact qJ (v:=.tuple #[.string ⟨#[]⟩,.agg #[.int .i64 21,.int .i64 0]]) (by simp [results,Tryz.results4,go_sem,x0',x1']) rfl (FaR.bad HYb.out.symm (by decide) (put2x HEy.out HwH.out _ _))
 have HY0:=Lh (show Y=(0,0) by have:=HYe.out;rw [qE hz] at this;exact this.symm)
 have hn6:nn<=6:=by omega
 obtain ⟨hB,fR,fS⟩:=HFz.out nn rfl hn6;have HUn:=Lh (fun (wx:World) (hx:Ext w8 wx)=>unmended_any nn n c' Bg Hnn.out.1 (by rw [err_len nn hn6];exact yQ (qY (by decide) hn6) (by decide)) (errP_wt Hnn.out.1) a keys (psL nn gens) wx (HL.out.ext (HE8.out.trans hx)) (Hp4.out.ext (HX8.out.trans hx)) Hk12.out (Hg4.out.ext (HX8.out.trans hx)));rw [cnL_is Hsam.out] at HUn;have HCh:=Lh (fun (S:Nat) (wx:World) (hx:Ext w8 wx) (hI:IntsAt wx (some ⟨S,0,none⟩) (nn+1) ((List.range (nn+1)).map fun i=>(cntE nn gens i:Int)))=>chance_any s1 a1 n1 c1 s2 a2 n2 c2 s3 a3 n3 c3 P (Q-P*3) Q (some ⟨S,0,none⟩) (nn+1) nn Hnn.out.1 (cntE nn gens) M hB wx (Hi1.out.ext (HV8.out.trans hx)) (Hi2.out.ext (HV8.out.trans hx)) (Hi3.out.ext (HV8.out.trans hx)) hI (bru_ext Hbr.out (HE8.out.trans hx)));unfold QRet at HCh;have HTx:=Lh (fun (s:Int) (a:Option Addr) (n c:Nat) (s':Int) (a':Option Addr) (n' c':Nat) (wx:World) (hx:Ext w8 wx) (hI:IsFr wx s a n c s' a' n' c' (nfp (gsm (cntE nn gens) P (Q-P*3) nn (nn+1)) (Q ^ nn)) (nfq (gsm (cntE nn gens) P (Q-P*3) nn (nn+1)) (Q ^ nn)))=>QText_any s a n c s' a' n' c' _ _ wx hI M HM.out.1 HM.out.2 fR fS (tab_ext Htab.out (HE8.out.trans hx)));rw [HTt.out] at HTx;obtain ⟨L9,hL9⟩:∃ L,((List.range (nn+1)).map fun i=>(cntE nn gens i:Int))=L:=⟨_,rfl⟩;obtain ⟨rP,hrP⟩:∃ r,nfp (gsm (cntE nn gens) P (Q-P*3) nn (nn+1)) (Q ^ nn)=r:=⟨_,rfl⟩;obtain ⟨rQ,hrQ⟩:∃ r,nfq (gsm (cntE nn gens) P (Q-P*3) nn (nn+1)) (Q ^ nn)=r:=⟨_,rfl⟩;rw [hL9] at HUn HCh;rw [hrP,hrQ] at HCh HTx;have f0:=(Hf4.out.ext HX8.out).x0;have f1:=(Hf4.out.ext HX8.out).x1;have f2:=(Hf4.out.ext HX8.out).x2;have o0:=(HoV.out.ext HV8.out).x0;have o1:=(HoV.out.ext HV8.out).x1;have o2:=(HoV.out.ext HV8.out).x2;have o3:=(HoV.out.ext HV8.out).x3;have o4:=(HoV.out.ext HV8.out).x4;have o5:=(HoV.out.ext HV8.out).x5;clear hL9 hrP hrQ hB fR fS hn6 HFz HTt
 go_upto_region 12 with fail
 have HSj:=Lh (fun (w':World) (hx:Ext w8 w')=>(show w'.cell? ⟨K7,0,none⟩=some (.int .i64 s1)/\w'.cell? ⟨K7,1,none⟩=some (.slice a1 n1 c1)/\w'.cell? ⟨K7,2,none⟩=some (.int .i64 s2)/\w'.cell? ⟨K7,3,none⟩=some (.slice a2 n2 c2)/\w'.cell? ⟨K7,4,none⟩=some (.int .i64 s3)/\w'.cell? ⟨K7,5,none⟩=some (.slice a3 n3 c3)/\w'.cell? ⟨K,0,none⟩=some (.int .i64 (nn:Int))/\w'.cell? ⟨K,1,none⟩=some (.slice a n c')/\w'.cell? ⟨K,2,none⟩=some (.map (some Bg)) from ⟨cell_ext o0 hx,cell_ext o1 hx,cell_ext o2 hx,cell_ext o3 hx,cell_ext o4 hx,cell_ext o5 hx,cell_ext f0 hx,cell_ext f1 hx,cell_ext f2 hx⟩));have G_:Ext w8 w8.drew:=qG (Ext.refl _);clear o0 o1 o2 o3 o4 o5 f0 f1 f2 d0;refine wp_region_K 7 (fun w'=>w'.cell? ⟨K7,0,none⟩=some (.int .i64 s1)/\w'.cell? ⟨K7,1,none⟩=some (.slice a1 n1 c1)/\w'.cell? ⟨K7,2,none⟩=some (.int .i64 s2)/\w'.cell? ⟨K7,3,none⟩=some (.slice a2 n2 c2)/\w'.cell? ⟨K7,4,none⟩=some (.int .i64 s3)/\w'.cell? ⟨K7,5,none⟩=some (.slice a3 n3 c3)/\w'.cell? ⟨K,0,none⟩=some (.int .i64 (nn:Int))/\w'.cell? ⟨K,1,none⟩=some (.slice a n c')/\w'.cell? ⟨K,2,none⟩=some (.map (some Bg))) (by kernel_rfl) ?_
 show anyK _ _ _ _ _ _ 8 #[false,false,false,false,false,false,false,false] _ _
 refine kU 0 8 rfl (HSj.out _ G_) ?_
 show anyK _ _ _ _ _ _ _ _ (Act.put _ (some 40) _) _
 simp only [Act.put,sx0,sx1,sx2];refine kU 1 8 rfl (HSj.out _ G_) ?_
 show anyK _ _ _ _ _ _ _ _ (Act.put _ (some 41) _) _
 simp only [Act.put,sx0,sx1,sx2];refine kU 5 8 rfl (HSj.out _ G_) ?_
 show anyK _ _ _ _ _ _ _ _ (Act.put _ (some 45) _) _
 simp only [Act.put,sx0,sx1,sx2];refine anyK_one (i:=2) (by kernel_rfl) rfl (fun Kk hKk=>?_)
 go_simp
 (go_at_call 19;refine (HUn.out _ G_).mono ?_;rintro e w9 ⟨S9,rfl,hi9,_,hx9⟩)
 have E9:Ext w8 w9:=G_.trans hx9;have Hi9:=Lh hi9
 go_wp2_with fail
 refine hKk.out _ _ (fun _=>HSj.out _ E9) ?_;clear hKk Kk hx9 hi9;simp only [sx0,sx1,sx2];refine anyK_one (i:=3) (by kernel_rfl) rfl (fun Kk hKk=>?_)
 go_simp
 (go_at_call 18;refine (HCh.out _ w9 E9 Hi9.out).mono ?_;rintro e w10 ⟨s9,a9,n9,c9,s10,a10,n10,c10,rfl,hf10,hx10⟩)
 have E10:Ext w8 w10:=E9.trans hx10;have Hf10:=Lh hf10
 go_wp2_with fail
 refine hKk.out _ _ (fun _=>HSj.out _ E10) ?_;clear hKk Kk hx10 hf10;simp only [sx0,sx1,sx2];refine anyK_one (i:=4) (by kernel_rfl) rfl (fun Kk hKk=>?_)
 go_simp
 (go_at_call 20;refine (HTx.out _ _ _ _ _ _ _ _ w10 E10 Hf10.out).mono ?_;rintro e w11 ⟨rfl,hx11⟩)
 have E11:Ext w8 w11:=E10.trans hx11
 go_wp2_with fail
 refine hKk.out _ _ (fun _=>HSj.out _ E11) ?_;clear hKk Kk hx11;simp only [sx0,sx1,sx2];refine anyK_one (i:=6) (by kernel_rfl) rfl (fun Kk hKk=>?_)
 go_wp2_with fail
 refine hKk.out _ _ (fun _=>HSj.out _ E11) ?_;clear hKk Kk;simp only [sx0,sx1,sx2];have bz:=HF8.out.ext E11;refine anyK_one (i:=7) (by kernel_rfl) rfl (fun Kk hKk=>?_);refine stepK_storeRowC rfl rfl 26 _ _ rfl (H+1) #[.int .i64 0,.int .i64 0] rfl rfl 26 _ bz.row ftc_info rfl (by kernel_rfl) ?_;refine hKk.out _ _ (fun h=>Bool.noConfusion (show true=false from h)) ?_;clear hKk Kk;simp only [sx0,sx1,sx2];refine anyK_done (by kernel_rfl) ?_ _;have on1:=setRow_onlyC w11 (H+1) #[.int .i64 0,.int .i64 0];have bX:FtB (w11.setRow (H+1) #[.int .i64 0,.int .i64 0]) (H+1) 0 0:=⟨setRow_heap w11 (H+1) _ _ _ _ bz.row⟩;have x0':=bX.x0;have x1':=bX.x1;have HEx:=Lh (ext_onlyC (HE8.out.trans E11) on1 HwH.out);generalize w11.setRow (H+1) #[.int .i64 0,.int .i64 0]=wX at *;clear bz bX on1 E9 E10 E11 G_ HSj
 go_wp2_with fail
 exact qJ (v:=.tuple #[.string T,.agg #[.int .i64 0,.int .i64 0]]) (by simp [results,Tryz.results4,go_sem,x0',x1']) rfl (FaR.good HY0.out HEx.out)
theorem IsZ.len_of {w:World} {neg:Bool} {ao:Option Addr} {n c m:Nat} {z:Int} (h:IsZ w neg ao n c z) (hz:z.natAbs<10000 ^ m):n<=m:=by
 obtain ⟨l,p1,p2,p3,p4,p5,p6,p7,p8,p9⟩:=h.abs
 by_cases hl:l=[]
 ·rw [<-p1,hl];exact qI _
 ·have h1:=zval_ge p6 hl
  rw [<-p7,p1] at h1
  have h2:10000 ^ (n-1)<10000 ^ m:=by omega
  have h3:=(Nat.pow_lt_pow_iff_right (a:=10000) (by decide)).1 h2;omega
theorem keepFault_block {W:World} {g:Nat} {T:TypeId} (hF:W.heap[g]?=some (.cells #[.int .i64 0,.int .i64 0] T (0,0))):∀ k:Nat,((W.setCell ⟨g,0,none⟩ (.int .i64 0)).setCell ⟨g,1,none⟩ (.int .i64 0)).heap[k]?=W.heap[k]?:=by
 intro k
 by_cases hk:k=g
 ·subst hk
  have h1:=yZ W k 0 _ _ (.int .i64 0) hF;have h2:=yZ (W.setCell ⟨k,0,none⟩ (.int .i64 0)) k 1 _ _ (.int .i64 0) h1;rw [hF];exact h2
 ·have hO:Only g W ((W.setCell ⟨g,0,none⟩ (.int .i64 0)).setCell ⟨g,1,none⟩ (.int .i64 0)):=((Only.refl _ _).setCell _ _).setCell _ _
  exact hO.block k hk
theorem ISeg.keepFault {W:World} {g:Nat} {T:TypeId} {ao:Option Addr} {l:List Nat} (h:ISeg W ao l) (hF:W.heap[g]?=some (.cells #[.int .i64 0,.int .i64 0] T (0,0))):ISeg ((W.setCell ⟨g,0,none⟩ (.int .i64 0)).setCell ⟨g,1,none⟩ (.int .i64 0)) ao l:=by
 have hb:=keepFault_block hF
 rcases h with h | ⟨b,o,rfl,hlt,hc⟩
 ·exact qM h
 ·exact qO ⟨b,o,rfl,hlt.block (hb b),fun t ht=>(jR (a:=⟨b,o+t,none⟩) (hb b)).trans (hc t ht)⟩
theorem IsZ.keepFault {W:World} {g:Nat} {T:TypeId} {neg:Bool} {ao:Option Addr} {n c:Nat} {z:Int} (h:IsZ W neg ao n c z) (hF:W.heap[g]?=some (.cells #[.int .i64 0,.int .i64 0] T (0,0))):IsZ ((W.setCell ⟨g,0,none⟩ (.int .i64 0)).setCell ⟨g,1,none⟩ (.int .i64 0)) neg ao n c z:=by
 obtain ⟨l,h1,h2,h3,h4,h5⟩:=h;exact ⟨l,h1,h2,h3,h4.keepFault hF,h5⟩
theorem ISeg.far {W W':World} {g:Nat} {ao:Option Addr} {l:List Nat} (h:ISeg W ao l) (hO:Only g W W') (hb:∀ a,ao=some a->a.block≠g):ISeg W' ao l:=by
 rcases h with h | ⟨b,o,rfl,hb',hc⟩
 ·exact qM h
 ·exact qO ⟨b,o,rfl,hb'.block (hO.block b (hb _ rfl)),fun t ht=>(jR (a:=⟨b,o+t,none⟩) (hO.block b (hb _ rfl))).trans (hc t ht)⟩
theorem IsZ.far {W W':World} {g:Nat} {neg:Bool} {ao:Option Addr} {n c:Nat} {z:Int} (h:IsZ W neg ao n c z) (hO:Only g W W') (hb:∀ a,ao=some a->a.block≠g):IsZ W' neg ao n c z:=by
 obtain ⟨l,h1,h2,h3,h4,h5⟩:=h;exact ⟨l,h1,h2,h3,h4.far hO hb,h5⟩
theorem IsZ.box {W W':World} {g:Nat} {neg:Bool} {ao:Option Addr} {n c:Nat} {z:Int} {cs:Array Value} {T:TypeId} {fr:Nat × Nat} (h:IsZ W neg ao n c z) (hg:W.heap[g]?=some (.cells cs T fr)) (hT:T≠3) (hO:Only g W W'):IsZ W' neg ao n c z:=by
 have h':=h;obtain ⟨l,_,_,_,h4,_⟩:=h';refine h.far hO (fun a ha hb=>?_)
 rcases h4 with ⟨h5,_⟩ | ⟨b,o,h5,⟨cur,fr',hc⟩,_⟩
 ·rw [h5] at ha;cases ha
 ·rw [h5] at ha
  cases ha
  have hb':b=g:=hb;rw [hb',hg] at hc
  cases hc
  exact hT rfl
theorem append_ints (w:World) (x m c:Nat) (ao:Option Addr) (lr:List Nat) (hm:lr.length=m) (hs:ISeg w ao lr) (hb:m<=1000000) (W:World) (hW:W=(w.alloc (.cells #[.int .i64 (x:Int)] 3)).drew) (hsW:ISeg W ao lr) (ty:TypeId) :
  ∃ g cap w',(Builtin.append_ #[31,31] ty #[.slice (some ⟨w.heap.size,0,none⟩) 1 1,.slice ao m c]).run Tryz.prog W=.ok (.slice (some ⟨g,0,none⟩) (1+m) cap) w'/\ISeg w' (some ⟨g,0,none⟩) ([x]++lr)/\1+m<=cap/\cap<=maxLen/\w.heap.size<=g/\Ext w w':=by
 obtain ⟨i0,hi,hz0,hz1,hz2⟩:=info_parts int_info
 have hE:Ext w W:=by rw [hW];exact qG (ext_alloc _ _)
 have hrow:W.heap[w.heap.size]?=some (.cells #[.int .i64 (x:Int)] 3 (0,0)):=by
  rw [hW];exact qW w _
 have hown:W.ownsRow w.heap.size 3 1 (.slice (some ⟨w.heap.size,0,none⟩) 1 1) 1 (inC [x]) :=
  ⟨rfl,qO ⟨w.heap.size,1,#[.int .i64 (x:Int)],rfl,qZ _,hrow,qZ _,by unfold maxLen;omega,rfl,rfl⟩⟩
 by_cases h0:m=0
 ·subst h0
  have hl:lr=[]:=jD hm;subst hl;refine ⟨w.heap.size,1,W,?_,?_,qZ _,by unfold maxLen;omega,qZ _,hE⟩
  ·have hsz:(Tryz.prog.info? 3).map (·.size)=some 1:=by rw [hi];simp [hz1]
   cases ao<;>simp [Builtin.append_,Builtin.firstCells,storeCells,go_sem]
  ·have:=iseg_of_own hown
   obtain ⟨a,c',h1,_,_,_,h5⟩:=this
   cases h1
   exact h5
 ·obtain ⟨b,o,rfl⟩:=hs.some_of (by omega)
  obtain ⟨g,cap,w',h1,h2,h3,h4,h5⟩:=run_append_lies (P:=Tryz.prog) W 31 ty w.heap.size 3 i0 (.int .i64 0) 1 8 yM hi hz0 hz1 hz2 rfl (by decide) _ 1 (inC [x]) hown ⟨b,o,none⟩ m c (inC lr) (by simp [inC,hm]) (fun j u hu=>by
   have hj:j<lr.length:=by
    have:=(jG.1 hu).1
    simpa [inC] using this
   rw [Addr.add_lit,hsW.at j hj];rw [<-hu,inC,jM,qX hj,qQ,qX hj]
   rfl) (fun u hu=>by
   obtain ⟨y,_,rfl⟩:=yU.1 hu
   rfl) (by omega) (by unfold maxLen;omega) (by omega) hE.size W.heap.size rfl
  have h6:inC [x]++inC lr=inC ([x]++lr):=by simp [inC]
  rw [h6] at h2;obtain ⟨a,c',e1,e2,e3,_,e5⟩:=iseg_of_own h2
  cases e1
  refine ⟨g,cap,w',h1,e5,e2,e3,?_,ext_grown hE h3 (fun k hk=>?_)⟩
  ·have:=h2.2
   rcases this with ⟨h,_⟩ | ⟨g',cap',cur,hv,hle,_⟩
   ·cases h
   ·cases hv;exact hle
  ·cases hk;exact qZ _
theorem step_append_run {ops:Array Oper} {o:Oper} {a:Act} {K:Act->World->Prop} {Q:Exit->Act->World->Prop} {E:Prop} {w w':World} (hgd:o.guard=none) (s x:Operand)
  (ho:o.op=.call { callee:=.builtin .append,args:=#[s,x],argTypes:=#[31,31] }) (ht:o.type=31) (v1 v2 r:Value) (hs:a.eval s=v1) (hx:a.eval x=v2)
  (hap:(Builtin.append_ #[31,31] 31 #[v1,v2]).run Tryz.prog w=.ok r w') (h:K (a.put o.dst r) w') :
  if Region.wanted o (yielded ops a.tmps)=true then Oper.wp Tryz.prog o a w K Q else E:=by
 have hw:Region.wanted o (yielded ops a.tmps)=true:=by simp [Region.wanted,hgd]
 rw [qU hw];unfold Oper.wp execOp;simp only [ho,ht,resolve,invoke,builtin,Sem.run_bind,Sem.run_pure,Result.andThen_ok,List.map_toArray,yW,yI,hs,hx,hap];exact h
theorem zdiv_digit {x R B V Qt:Nat} {lo:Nat} (h1:lo*B<=x+10000*R) (hV:Qt*B+R=V):(lo+10000*Qt)*B+(x+10000*R-lo*B)=x+10000*V:=by
 rw [<-hV,yV,qN,<-jW];omega
theorem zdiv_top {x R B:Nat} (hx:x<10000) (hR:R<B):x+10000*R<10000*B:=by omega
end Go.Proofs.YtjfomkoedgipjaaGreatDoor
