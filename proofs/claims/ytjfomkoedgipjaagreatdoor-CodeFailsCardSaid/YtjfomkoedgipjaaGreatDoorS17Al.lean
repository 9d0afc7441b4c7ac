/-
  The program: the least error of a syndrome. Errors in plain lists: all of them in the order of their letters; those of less weight first; the first of least weight. Nothing of the program stands here. The reference: an error's weight; a syndrome of noughts; is an error a product? The reference: all errors of few qubits, in their order (Errors).
-/
import Derived.Test.YtjfomkoedgipjaaGreatDoorS16We
namespace Go.Proofs.YtjfomkoedgipjaaGreatDoor
set_option maxRecDepth 100000
set_option maxHeartbeats 8000000
open Go.RowKit
def deF (N:Int) (gens:List (List UInt8)) (l:List Int):Int × Int:=if (rsF N gens).1≠0 then rsF N gens else rmF l (gens.length:Int)
def deP (n:Nat) (gens:List (List UInt8)) (l:List Int):PK:=fstP (fun p=>shN (psL n gens) p == mkN l) n
def DeR (Y:Int × Int) (T:List UInt8) (w:World) (e:Ending) (w':World):Prop :=
 e=.returned (.tuple #[.string ⟨(if Y.1=0 then T else []).toArray⟩,.agg #[.int .i64 Y.1,.int .i64 Y.2]])/\Ext w w'
theorem DeR.bad {Y:Int × Int} {T:List UInt8} {w w':World} {a b:Int} (h:Y=(a,b)) (ha:¬ a=0) (hx:Ext w w'):DeR Y T w (.returned (.tuple #[.string ⟨#[]⟩,.agg #[.int .i64 a,.int .i64 b]])) w':=by
 subst h;exact ⟨by rw [qE ha],hx⟩
theorem DeR.good {Y:Int × Int} {T T':List UInt8} {w w':World} (h:Y=(0,0)) (hT:T'=T) (hx:Ext w w'):DeR Y T w (.returned (.tuple #[.string ⟨T'.toArray⟩,.agg #[.int .i64 0,.int .i64 0]])) w':=by
 subst h;subst hT;exact ⟨by rw [qU rfl],hx⟩
theorem rmF_zero {l:List Int} {k:Int} (h:(rmF l k).1=0):rmF l k=(0,0):=by
 unfold rmF at h ⊢
 split
 ·rename_i h1;rw [qU h1] at h;exact absurd h (by decide)
 ·rename_i h1
  rw [qE h1] at h
  split
  ·rename_i h2;rw [qU h2] at h;exact absurd h (by simp)
  ·rfl
theorem mem_flat_false {α:Type} {f:α->List PK} {l:List α} (h:∀ a ∈ l,∀ p ∈ f a,p.m=false):∀ p ∈ l.flatMap f,p.m=false:=fun p hp=>by
 obtain ⟨a,ha,hp⟩:=List.mem_flatMap.1 hp;exact h a ha p hp
theorem spP_m:∀ (k q:Nat) (p:PK) (wt:Nat),p.m=false->∀ x ∈ spP k q p wt,x.m=false
 | 0,q,p,wt,h,x,hx=>by
  have:x=p:=by simpa [spP] using hx
  rw [this];exact h
 | k+1,q,p,wt,h,x,hx=>by
  rw [spP_succ] at hx
  rcases jI.1 hx with hx | hx
  ·split at hx
   ·exact spP_m k (q+1) p wt h x hx
   ·cases hx
  ·split at hx
   ·cases hx
   ·obtain ⟨j,_,hj⟩:=List.mem_flatMap.1 hx
    exact spP_m k (q+1) (nxP p q j) (wt-1) rfl x hj
theorem fstP_m (h:PK->Bool) (n:Nat):(fstP h n).m=false:=by
 unfold fstP
 cases hf:(errP n).find? h with
 | none=>rfl
 | some x=>exact mem_flat_false (fun a _=>spP_m n 0 (PK.of 0 0) a rfl) x (List.mem_of_find?_eq_some hf)
theorem LtL.far {w w':World} {k:Nat} (h:LtL w) (hO:Only k w w') (hk:k≠(0:Nat)):LtL w':=by
 obtain ⟨t,hr⟩:=h.row;exact ⟨t,(hO.block _ (Ne.symm hk)).trans hr⟩
theorem FrB.far {w w':World} {k g:Nat} {N:Int} {a:Option Addr} {n c:Nat} {mp:Option Nat} (h:FrB w g N a n c mp) (hO:Only k w w') (hk:g≠k):FrB w' g N a n c mp:=⟨(hO.block g hk).trans h.row⟩
theorem CoB.far {w w':World} {k g:Nat} {N:Int} {a:Option Addr} {n c:Nat} (h:CoB w g N a n c) (hO:Only k w w') (hk:g≠k):CoB w' g N a n c:=⟨(hO.block g hk).trans h.row⟩
theorem FtB.farC {w w':World} {k g:Nat} {u v:Int} (h:FtB w g u v) (hO:Only k w w') (hk:g≠k):FtB w' g u v:=⟨(hO.block g hk).trans h.row⟩
theorem Decode_any (N:Int) (gens:List (List UInt8)) (l:List Int) (ao:Option Addr) (k c:Nat) (bo:Option Addr) (bn bc:Nat) (w:World) (hG:StrsAt w ao k gens) (hT:∀ T ∈ gens,T.length<=9223372036854775807) (hk9:k<=9223372036854775806) (hI:IntsAt w bo bn l) (hL:LtL w) :
  Calls Tryz.prog 35 #[.agg #[.int .i64 N,.slice ao k c],.slice bo bn bc] w fun e w'=>DeR (deF N gens l) (43 :: txL (deP N.toNat gens l) N.toNat) w e w':=by
 obtain ⟨Y,hY⟩:∃ Y,deF N gens l=Y:=⟨_,rfl⟩;rw [hY];unfold deF at hY;obtain ⟨H,hH⟩:∃ H,w.heap.size=H:=⟨_,rfl⟩;obtain ⟨W0,hW0⟩:∃ W0,(w.alloc (.cells #[.int .i64 N,.slice ao k c] 24)).alloc (.cells #[.int .i64 0,.int .i64 0] 26)=W0:=⟨_,rfl⟩
 have E0:Ext w W0:=by rw [<-hW0];exact (ext_al w _).trans (ext_al _ _)
 have C0:CoB W0 H N ao k c:=by rw [<-hW0,<-hH];exact (CoB.new w _ _ _ _).ext (ext_al _ _)
 have bF:FtB W0 (H+1) 0 0:=⟨by
  have:=qW (w.alloc (.cells #[.int .i64 N,.slice ao k c] 24)) (.cells #[.int .i64 0,.int .i64 0] 26);rw [<-hW0,<-hH]
  simpa using this⟩
 have HRd:=Lh (readSearched_any N gens ao k c W0 (hG.ext E0) hT hk9);unfold RsP at HRd
 have hz:(rsF N gens).1=0->1<=N/\N<=12/\(gens.length:Int)<=N:=fun h=>by
  unfold rsF at h
  split at h
  ·exact absurd h (by decide)
  ·have:=cc_zero h
   exact ⟨this.1,this.2.1,this.2.2.1⟩
 obtain ⟨F,hF⟩:∃ F,rsF N gens=F:=⟨_,rfl⟩;obtain ⟨F0,F1⟩:=F;rw [hF] at HRd hY hz;simp only at HRd hY hz;have HE0:=Lh E0;have HFt:=Lh bF;have HC:=Lh C0;have HW0:=Lh hW0;have HH:=Lh hH;have HwH:=Lh (show w.heap.size<=H+1 by omega);have HY:=Lh hY;have Hz:=Lh hz;have Hlg:=Lh (show gens.length=k from hG.1);have HI:=Lh (hI.ext E0);have HL:=Lh (hL.ext E0);have v0:=C0.x0;have v1:=C0.x1;clear hG hT hk9 hH hW0 E0 C0 bF hF hY hz hI hL
 go_enter Tryz.func35,Tryz.ntmps35
 go_upto_region 1 with fail
 rw [HW0.out,HH.out]
 go_wp2_with fail
 refine HRd.out.mono ?_;rintro e w1 ⟨N',a,n,c',mp,rfl,hx1,hrd⟩;obtain ⟨U,hU⟩:∃ U,(w1.alloc (.cells #[.int .i64 N',.slice a n c',.map mp] 49)).alloc (.cells #[.int .i64 F0,.int .i64 F1] 26)=U:=⟨_,rfl⟩;obtain ⟨K,hK⟩:∃ K,w1.heap.size=K:=⟨_,rfl⟩
 have E1U:Ext w1 U:=by rw [<-hU];exact (ext_al _ _).trans (ext_al _ _)
 have EU:Ext W0 U:=hx1.trans E1U
 have fU:FrB U K N' a n c' mp:=by rw [<-hU,<-hK];exact (FrB.new _ _ _ _ _ _).ext (ext_al _ _)
 have bU:FtB U (K+1) F0 F1:=⟨by
  have:=qW (w1.alloc (.cells #[.int .i64 N',.slice a n c',.map mp] 49)) (.cells #[.int .i64 F0,.int .i64 F1] 26);rw [<-hU,<-hK]
  simpa using this⟩
 have hKH:H+1<K:=by rw [<-hK];exact qK HFt.out.lt hx1.size
 have hK0:(0:Nat)<K:=by rw [<-hK];exact qK HL.out.lt hx1.size
 have HU:=Lh hU;have HK:=Lh hK;have HfU:=Lh fU;have HEU:=Lh EU;have Hrd:=Lh hrd;have HE1U:=Lh E1U;have HbU:=Lh bU;have HKH:=Lh (jN hKH hK0);have u0:=bU.x0;have u1:=bU.x1;clear hx1 hU hK EU bU fU v0 v1 HRd hrd E1U hKH hK0
 go_upto_region 2 with fail
 rw [HU.out,HK.out];clear HU HK
 by_cases hz:F0=0
 rotate_left 1
 ·have hcb:=nt hz
  have hYe:=HY.out;rw [qU hz] at hYe;have HYe:=Lh hYe;have bz:=HFt.out.ext HEU.out;have x0':=bz.x0;have x1':=bz.x1;have g0':=bz.f 0;have g1':=bz.f 1;have HEy:=Lh (HE0.out.trans HEU.out);have Hnz:=Lh hz;clear bz hYe hz
  go_upto_region 3 with fail
  go_region
  go_wp2_with fail
  exact qJ (v:=.tuple #[.string ⟨#[]⟩,.agg #[.int .i64 F0,.int .i64 F1]]) (by simp [results,Tryz.results35,go_sem,x0',x1']) rfl (DeR.bad HYe.out.symm Hnz.out (put2d HEy.out HwH.out _ _))
 have hcb:=nf' hz;obtain ⟨hN',hps,hac,hcm,_⟩:=Hrd.out hz;subst hN';obtain ⟨n1,n12,nk⟩:=Hz.out hz;rw [Hlg.out] at nk;obtain ⟨nn,rfl⟩:∃ nn:Nat,N'=(nn:Int):=⟨N'.toNat,by omega⟩;simp only [yT] at hps ⊢;have hYe:=HY.out;rw [qE (by simp [hz])] at hYe;rw [Hlg.out] at hYe
 have hnk:n=k:=by have h9:=hps.1;unfold psL at h9;rw [jY,Hlg.out] at h9;omega
 rw [<-hnk] at hYe
 have hnn:nn<=12/\1<=nn:=by omega
 have hk12:n<=12:=by omega
 have HRm:=Lh (readMarks_any l (n:Int) bo bn bc U (HI.out.ext HEU.out) (by omega));obtain ⟨R,hR⟩:∃ R,rmF l (n:Int)=R:=⟨_,rfl⟩;obtain ⟨R0,R1⟩:=R;have hr0:=rmF_zero (l:=l) (k:=(n:Int));rw [hR] at HRm hYe hr0;simp only at HRm hr0;have Hr0:=Lh (fun (h:R0=0)=>show R1=0 from congrArg Prod.snd (hr0 h));clear hr0;have HYe:=Lh hYe;have Hnn:=Lh hnn;have Hk12:=Lh hk12;have HpU:=Lh (hps.ext HE1U.out);have f0:=HfU.out.x0;have f1:=HfU.out.x1;have f2:=HfU.out.x2;have b0:=HbU.out.f 0;have b1:=HbU.out.f 1;clear hz hps hac hcm n1 n12 nk hYe hnk hnn hk12 HY Hrd hR
 go_upto_region 4 with fail
 clear hcb
 go_wp2_with fail
 refine HRm.out.mono ?_;rintro e w2 ⟨m,rfl,hx2,hm⟩;obtain ⟨K4,hK4⟩:∃ K,w2.heap.size=K:=⟨_,rfl⟩;obtain ⟨V,hV⟩:∃ V,w2.alloc (.cells #[.int .u16 (m:Int)] 118)=V:=⟨_,rfl⟩;obtain ⟨U4,hU4⟩:∃ U,(V.setCell ⟨K+1,0,none⟩ (.int .i64 R0)).setCell ⟨K+1,1,none⟩ (.int .i64 R1)=U:=⟨_,rfl⟩
 have EV:Ext U V:=by rw [<-hV];exact hx2.trans (ext_al _ _)
 have hO:Only (K+1) V U4:=by rw [<-hU4];exact ((Only.refl _ _).setCell _ _).setCell _ _
 have bV:=HbU.out.ext EV
 have bU4:FtB U4 (K+1) R0 R1:=by rw [<-hU4];exact ⟨row_put (row_put bV.row rfl) rfl⟩
 have hK4K:K+1<K4:=by rw [<-hK4];exact qK HbU.out.lt hx2.size
 have mV:V.heap[K4]?=some (.cells #[.int .u16 (m:Int)] 118 (0,0)):=by rw [<-hV,<-hK4];exact qW _ _
 have hEV0:Ext W0 V:=HEU.out.trans EV;have hE4:Ext w U4:=ext_onlyC (HE0.out.trans hEV0) hO (by have:=HwH.out;have:=HKH.out;omega);have hf4:=(HfU.out.ext EV).far hO (by omega);have hc4:=(HC.out.ext hEV0).far hO (by have:=HKH.out;omega);have hF4:=(HFt.out.ext hEV0).farC hO (by have:=HKH.out;omega);have hp4:PsAt U4 a n (psL nn gens):=(HpU.out.ext EV).far hO bV.row no16'
 have hm4:U4.cell? ⟨K4,0,none⟩=some (.int .u16 (m:Int)):=by rw [jR (a:=⟨K4,0,none⟩) (hO.block K4 (by omega)),qD V K4 0 _ _ (0,0) mV];rfl
 have hL4:LtL U4:=(HL.out.ext hEV0).far hO (by have:=HKH.out;omega);have w0:=bV.x0;have w1':=bV.x1;have w2':=bV.f 0;have w3':=bV.f 1;rw [<-hV] at w0 w1' w2' w3';have HE4:=Lh hE4;have HFt:=Lh hF4;have HV:=Lh hV;have HK4:=Lh hK4;have HU4:=Lh hU4;have Hf4:=Lh hf4;have Hc4:=Lh hc4;have Hp4:=Lh hp4;have Hm4:=Lh hm4;have HL4:=Lh hL4;have Hb4:=Lh bU4;have Hm:=Lh hm;have HKe:=Lh hK4K;clear hx2 EV hO bV bU4 mV hEV0 hE4 hf4 hc4 hF4 hp4 hm4 hL4 hV hK4 hU4 hm HRm u0 u1 f0 f1 f2 b0 b1 hK4K
 go_upto_region 5 with fail
 rw [HV.out,HK4.out,HU4.out];clear HV HK4 HU4 w0 w1' w2' w3';have q0:=Hb4.out.x0;have q1:=Hb4.out.x1
 by_cases hz:R0=0
 rotate_left 1
 ·have hcb:=nt hz
  have bz:=HFt.out;have x0':=bz.x0;have x1':=bz.x1;have g0':=bz.f 0;have g1':=bz.f 1;have HEy:=Lh HE4.out;have Hnz:=Lh hz;clear bz hz
  go_upto_region 6 with fail
  go_region
  go_wp2_with fail
  exact qJ (v:=.tuple #[.string ⟨#[]⟩,.agg #[.int .i64 R0,.int .i64 R1]]) (by simp [results,Tryz.results35,go_sem,x0',x1']) rfl (DeR.bad HYe.out.symm Hnz.out (put2d HEy.out HwH.out _ _))
 have hcb:=nf' hz;have hmk:=Hm.out hz;subst hmk
 have HF2:=Lh (show Y=(0,0) by
  have h9:=HYe.out;have h8:=Hr0.out hz
  rw [<-h9,hz,h8])
 have HFi:=Lh (fun (wx:World) (hx:Ext U4 wx)=>first_any 76 #[.pointer (some ⟨K,0,none⟩),.pointer (some ⟨K4,0,none⟩)] (fun p=>shN (psL nn gens) p == mkN l) nn n c' Hnn.out.1 a mp wx (HL4.out.ext hx) (enters_of Tryz.func76 (by kernel_rfl) rfl) (fun p wy hy=>decode1_any p (psL nn gens) (nn:Int) a n c' mp K K4 (mkN l) wy (Hp4.out.ext (hx.trans hy)) Hk12.out (Hf4.out.ext (hx.trans hy)) (cell_ext Hm4.out (hx.trans hy))));have hfm:=fstP_m (fun p=>shN (psL nn gens) p == mkN l) nn;obtain ⟨fp,hfp⟩:∃ fp,fstP (fun p=>shN (psL nn gens) p == mkN l) nn=fp:=⟨_,rfl⟩;rw [hfp] at HFi hfm;have HTx:=Lh (fun wx=>pText_any fp hfm nn Hnn.out.1 wx);have HT2:=Lh (show 43 :: txL fp nn=43 :: txL (deP ((nn:Int).toNat) gens l) ((nn:Int).toNat) by rw [yT];unfold deP;rw [hfp]);unfold pvK at HFi HTx;have f0:=Hf4.out.x0;have f1:=Hf4.out.x1;have f2:=Hf4.out.x2;have d0:=Hc4.out.x0;clear hz hfm hfp q1
 go_upto_region 8 with fail
 have HSj:=Lh (fun (w':World) (hx:Ext U4 w')=>(show w'.cell? ⟨K,0,none⟩=some (.int .i64 (nn:Int))/\w'.cell? ⟨K,1,none⟩=some (.slice a n c')/\w'.cell? ⟨K,2,none⟩=some (.map mp)/\w'.cell? ⟨H,0,none⟩=some (.int .i64 (nn:Int)) from ⟨cell_ext f0 hx,cell_ext f1 hx,cell_ext f2 hx,cell_ext d0 hx⟩));have G_:Ext U4 U4.drew:=qG (Ext.refl _);clear f0 f1 f2 d0;refine wp_region_K 8 (fun w'=>w'.cell? ⟨K,0,none⟩=some (.int .i64 (nn:Int))/\w'.cell? ⟨K,1,none⟩=some (.slice a n c')/\w'.cell? ⟨K,2,none⟩=some (.map mp)/\w'.cell? ⟨H,0,none⟩=some (.int .i64 (nn:Int))) (by kernel_rfl) ?_
 show anyK _ _ _ _ _ _ 9 #[false,false,false,false,false,false,false,false,false] _ _
 refine kU 0 9 rfl (HSj.out _ G_) ?_
 show anyK _ _ _ _ _ _ _ _ (Act.put _ (some 32) _) _
 simp only [Act.put,sx0,sx1,sx2];refine kU 1 9 rfl (HSj.out _ G_) ?_
 show anyK _ _ _ _ _ _ _ _ (Act.put _ (some 33) _) _
 simp only [Act.put,sx0,sx1,sx2];refine kU 3 9 rfl (HSj.out _ G_) ?_
 show anyK _ _ _ _ _ _ _ _ (Act.put _ (some 35) _) _
 simp only [Act.put,sx0,sx1,sx2];refine kU 4 9 rfl (HSj.out _ G_) ?_
 show anyK _ _ _ _ _ _ _ _ (Act.put _ (some 36) _) _
 simp only [Act.put,sx0,sx1,sx2];refine kU 6 9 rfl (HSj.out _ G_) ?_
 show anyK _ _ _ _ _ _ _ _ (Act.put _ (some 38) _) _
 simp only [Act.put,sx0,sx1,sx2];refine anyK_one (i:=2) (by kernel_rfl) rfl (fun Kk hKk=>?_)
 go_simp
 (go_at_call 77;refine (HFi.out _ G_).mono ?_;rintro e w5 ⟨rfl,hx5⟩)
 have E5:Ext U4 w5:=G_.trans hx5
 go_wp2_with fail
 refine hKk.out _ _ (fun _=>HSj.out _ E5) ?_;clear hKk Kk hx5;simp only [sx0,sx1,sx2];refine anyK_one (i:=5) (by kernel_rfl) rfl (fun Kk hKk=>?_)
 go_simp
 (go_at_call 78;refine (HTx.out w5).mono ?_;rintro e w6 ⟨rfl,hx6⟩)
 have E6:Ext U4 w6:=E5.trans hx6
 go_wp2_with fail
 refine hKk.out _ _ (fun _=>HSj.out _ E6) ?_;clear hKk Kk hx6;simp only [sx0,sx1,sx2];refine anyK_one (i:=7) (by kernel_rfl) rfl (fun Kk hKk=>?_)
 go_wp2_with fail
 refine hKk.out _ _ (fun _=>HSj.out _ E6) ?_;clear hKk Kk;simp only [sx0,sx1,sx2];have bz:=HFt.out.ext E6;refine anyK_one (i:=8) (by kernel_rfl) rfl (fun Kk hKk=>?_);refine stepK_storeRowC rfl rfl 26 _ _ rfl (H+1) #[.int .i64 0,.int .i64 0] rfl rfl 26 _ bz.row ftc_info rfl (by kernel_rfl) ?_;refine hKk.out _ _ (fun h=>Bool.noConfusion (show true=false from h)) ?_;clear hKk Kk;simp only [sx0,sx1,sx2];refine anyK_done (by kernel_rfl) ?_ _;have on1:=setRow_onlyC w6 (H+1) #[.int .i64 0,.int .i64 0];have bX:FtB (w6.setRow (H+1) #[.int .i64 0,.int .i64 0]) (H+1) 0 0:=⟨setRow_heap w6 (H+1) _ _ _ _ bz.row⟩;have x0':=bX.x0;have x1':=bX.x1;have HEx:=Lh (ext_onlyC (HE4.out.trans E6) on1 HwH.out);generalize w6.setRow (H+1) #[.int .i64 0,.int .i64 0]=wX at *;clear bz bX on1 E5 E6 G_ HSj
 go_wp2_with fail
 exact qJ (v:=.tuple #[.string ⟨(43 :: txL fp nn).toArray⟩,.agg #[.int .i64 0,.int .i64 0]]) (by simp [results,Tryz.results35,go_sem,x0',x1']) rfl (DeR.good HF2.out HT2.out HEx.out)
def wtT:List UInt8->Nat
 | []=>0
 | b :: r=>(if b=73 then 0 else 1)+wtT r
theorem wtT_le:∀ l:List UInt8,wtT l<=l.length
 | []=>qZ _
 | b :: r=>by
  have:=wtT_le r;rw [wtT,jB]
  split<;>omega
theorem wtT_append:∀ a b:List UInt8,wtT (a++b)=wtT a+wtT b
 | [],b=>by simp [wtT]
 | c :: r,b=>by rw [List.cons_append,wtT,wtT,wtT_append r b];omega
def erR:Nat->List (List UInt8)
 | 0=>[[]]
 | n+1=>(erR n).flatMap fun e=>[e++[73],e++[88],e++[89],e++[90]]
theorem erR_cons:∀ n,erR (n+1)=(erR n).map (73 :: ·)++((erR n).map (88 :: ·)++((erR n).map (89 :: ·)++(erR n).map (90 :: ·)))
 | 0=>rfl
 | n+1=>by
  have h:=erR_cons n
  have key:∀ c:UInt8,((erR n).map (c :: ·)).flatMap (fun e=>[e++[73],e++[88],e++[89],e++[90]])=(erR (n+1)).map (c :: ·):=by
   intro c;rw [erR,List.flatMap_map,List.map_flatMap]
   rfl
  rw [erR,h,List.flatMap_append,List.flatMap_append,List.flatMap_append,key,key,key,key,<-h]
theorem erR_let:∀ (n:Nat) (e:List UInt8),e ∈ erR n↔e.length=n/\∀ c ∈ e,isL c=true
 | 0,e=>by
  rw [erR,yG]
  constructor
  ·rintro rfl;exact ⟨rfl,fun c hc=>by cases hc⟩
  ·rintro ⟨h,_⟩;exact List.length_eq_zero_iff.1 h
 | n+1,e=>by
  rw [erR_cons];simp only [jI,yU]
  constructor
  ·rintro (⟨a,ha,rfl⟩ | ⟨a,ha,rfl⟩ | ⟨a,ha,rfl⟩ | ⟨a,ha,rfl⟩) <;>
   ·obtain ⟨h1,h2⟩:=(erR_let n a).1 ha
    exact ⟨by simp [h1],fun c hc=>(List.mem_cons.1 hc).elim (fun e=>by rw [e];rfl) (h2 c)⟩
  ·rintro ⟨h1,h2⟩
   cases e with
   | nil=>simp at h1
   | cons c r =>
    have hr:r ∈ erR n:=(erR_let n r).2 ⟨by simpa using h1,fun x hx=>h2 x (by simp [hx])⟩
    rcases isL_cases (h2 c (by simp)) with rfl | rfl | rfl | rfl
    ·exact qM ⟨r,hr,rfl⟩
    ·exact qO (qM ⟨r,hr,rfl⟩)
    ·exact qO (qO (qM ⟨r,hr,rfl⟩))
    ·exact qO (qO (qO ⟨r,hr,rfl⟩))
def spT:Nat->List UInt8->Nat->List (List UInt8)
 | 0,a,_=>[a]
 | k+1,a,wt=>(if wt<k+1 then spT k (a++[73]) wt else [])++(if wt=0 then [] else [88,89,90].flatMap fun c=>spT k (a++[c]) (wt-1))
theorem filter_map_cons (c:UInt8) (l:List (List UInt8)) (p:List UInt8->Bool):(l.map (c :: ·)).filter p=(l.filter fun e=>p (c :: e)).map (c :: ·):=by
 rw [List.filter_map];rfl
theorem spT_is:∀ (k:Nat) (a:List UInt8) (wt:Nat),wt<=k->spT k a wt=((erR k).filter fun e=>wtT e == wt).map (a++·)
 | 0,a,wt,h=>by
  have:wt=0:=by omega
  subst this
  simp [spT,erR,wtT]
 | k+1,a,wt,h=>by
  rw [spT,erR_cons,List.filter_append,List.filter_append,List.filter_append,yJ,filter_map_cons,filter_map_cons,filter_map_cons,filter_map_cons]
  have h1:(if wt<k+1 then spT k (a++[73]) wt else [])=(((erR k).filter fun e=>wtT (73 :: e) == wt).map (73 :: ·)).map (a++·):=by
   have e0:∀ e:List UInt8,(wtT (73 :: e) == wt)=(wtT e == wt):=fun e=>by rw [wtT,qU rfl,jH]
   simp only [e0]
   by_cases hw:wt<k+1
   ·rw [qU hw,spT_is k (a++[73]) wt (by omega),List.map_map]
    congr 1
    funext e
    simp
   ·rw [qE hw]
    have:(erR k).filter (fun e=>wtT e == wt)=[]:=List.filter_eq_nil_iff.2 fun e he=>by
     have hl:=((erR_let k e).1 he).1;have:=wtT_le e;simp only [yY];omega
    rw [this];rfl
  have h2:(if wt=0 then [] else [88,89,90].flatMap fun c=>spT k (a++[c]) (wt-1))=(((erR k).filter fun e=>wtT (88 :: e) == wt).map (88 :: ·)).map (a++·)++((((erR k).filter fun e=>wtT (89 :: e) == wt).map (89 :: ·)).map (a++·)++(((erR k).filter fun e=>wtT (90 :: e) == wt).map (90 :: ·)).map (a++·)):=by
   by_cases hw:wt=0
   ·rw [qU hw]
    have:∀ c:UInt8,c≠73->(erR k).filter (fun e=>wtT (c :: e) == wt)=[]:=fun c hc=>List.filter_eq_nil_iff.2 fun e _=>by
     rw [wtT,qE hc];simp only [yY];omega
    rw [this 88 (by decide),this 89 (by decide),this 90 (by decide)];rfl
   ·rw [qE hw]
    have:∀ c:UInt8,c≠73->spT k (a++[c]) (wt-1)=(((erR k).filter fun e=>wtT (c :: e) == wt).map (c :: ·)).map (a++·):=fun c hc=>by
     have e0:∀ e:List UInt8,(wtT (c :: e) == wt)=(wtT e == wt-1):=fun e=>by
      rw [wtT,qE hc,Bool.eq_iff_iff,yY,yY];omega
     simp only [e0];rw [spT_is k (a++[c]) (wt-1) (by omega),List.map_map]
     congr 1
     funext e
     simp
    simp only [List.flatMap_cons,List.flatMap_nil,List.append_nil];rw [this 88 (by decide),this 89 (by decide),this 90 (by decide)]
  rw [h1,h2,yJ,yJ]
def errT (n:Nat):List (List UInt8):=(List.range (n+1)).flatMap (spT n [])
theorem errT_is (n:Nat):errT n=(List.range (n+1)).flatMap fun w=>(erR n).filter fun e=>wtT e == w:=by
 unfold errT;rw [List.flatMap_def,List.flatMap_def]
 congr 1
 refine List.map_congr_left fun w hw=>?_
 rw [spT_is n [] w (by have:=List.mem_range.1 hw;omega)]
 simp
theorem snoc_ind {α:Type} {P:List α->Prop} (h0:P []) (h1:∀ L x,P L->P (L++[x])) (L:List α):P L:=by
 have key:∀ n (L:List α),L.length=n->P L:=by
  intro n
  induction n with
  | zero=>intro L h;rw [List.length_eq_zero_iff.1 h];exact h0
  | succ n ih =>
   intro L h
   have hne:L≠[]:=by rintro rfl;simp at h
   rw [<-List.dropLast_concat_getLast hne];exact h1 _ _ (ih _ (by rw [List.length_dropLast,h];rfl))
 exact key _ L rfl
def bst {α:Type} (wt:α->Nat) (Q:α->Bool) (L:List α):Option α :=
 L.foldl (fun b e=>match b with | none=>if Q e then some e else none | some x=>if Q e && decide (wt e<wt x) then some e else some x) none
theorem bst_snoc {α:Type} (wt:α->Nat) (Q:α->Bool) (L:List α) (x:α):bst wt Q (L++[x])=match bst wt Q L with | none=>if Q x then some x else none | some b=>if Q x && decide (wt x<wt b) then some x else some b:=by
 unfold bst;rw [List.foldl_append]
 rfl
theorem bst_spec {α:Type} (wt:α->Nat) (Q:α->Bool):∀ L:List α,match bst wt Q L with | none=>∀ e ∈ L,Q e=false | some b=>b ∈ L/\Q b=true/\∀ e ∈ L,Q e=true->wt b<=wt e:=by
 intro L
 induction L using snoc_ind with
 | h0=>intro e he;cases he
 | h1 L x ih =>
  rw [bst_snoc]
  cases h:bst wt Q L with
  | none =>
   rw [h] at ih;simp only at ih ⊢
   cases hx:Q x
   ·simp only [Bool.false_eq_true,if_false]
    intro e he
    rcases jI.1 he with he | he
    ·exact ih e he
    ·have:e=x:=by simpa using he
     rw [this];exact hx
   ·simp only [if_true]
    refine ⟨by simp,hx,fun e he hq=>?_⟩
    rcases jI.1 he with he | he
    ·rw [ih e he] at hq;cases hq
    ·have:e=x:=by simpa using he
     rw [this];exact qZ _
  | some b =>
   rw [h] at ih;simp only at ih ⊢;obtain ⟨h1,h2,h3⟩:=ih
   by_cases hc:Q x=true/\wt x<wt b
   ·rw [qU (by rw [hc.1,jJ hc.2];rfl)]
    refine ⟨by simp,hc.1,fun e he hq=>?_⟩
    rcases jI.1 he with he | he
    ·have:=h3 e he hq;omega
    ·have:e=x:=by simpa using he
     rw [this];exact qZ _
   ·rw [qE (by rw [Bool.and_eq_true,jZ];exact hc)]
    refine ⟨by simp [h1],h2,fun e he hq=>?_⟩
    rcases jI.1 he with he | he
    ·exact h3 e he hq
    ·have:e=x:=by simpa using he
     subst this
     by_cases hl:wt e<wt b
     ·exact absurd ⟨hq,hl⟩ hc
     ·omega
def fsW {α:Type} (g:Nat->Option α):Nat->Nat->Option α
 | 0,_=>none
 | k+1,i=>match g i with
  | some b=>some b
  | none=>fsW g k (i+1)
theorem fsW_none {α:Type} (g:Nat->Option α):∀ k i,(∀ j,i<=j->j<i+k->g j=none)->fsW g k i=none
 | 0,_,_=>rfl
 | k+1,i,h=>by
  rw [fsW,h i (qZ _) (by omega)]
  exact fsW_none g k (i+1) fun j h1 h2=>h j (by omega) (by omega)
theorem fsW_some {α:Type} (g:Nat->Option α) (b:α) (v:Nat):∀ k i,i<=v->v<i+k->g v=some b->(∀ j,i<=j->j<v->g j=none)->fsW g k i=some b
 | 0,i,h1,h2,_,_=>by omega
 | k+1,i,h1,h2,hv,h=>by
  by_cases e:i=v
  ·subst e;rw [fsW,hv]
  ·rw [fsW,h i (qZ _) (by omega)]
   exact fsW_some g b v k (i+1) (by omega) (by omega) hv fun j h3 h4=>h j (by omega) h4
theorem find_flat {α:Type} (Q:α->Bool) (f:Nat->List α):∀ k i,((List.range' i k).flatMap f).find? Q=fsW (fun w=>(f w).find? Q) k i
 | 0,_=>rfl
 | k+1,i=>by
  rw [List.range'_succ,List.flatMap_cons,List.find?_append,fsW,find_flat Q f k (i+1)]
  cases (f i).find? Q<;>rfl
theorem find_filter {α:Type} (Q p:α->Bool) (L:List α):(L.filter p).find? Q=L.find? fun e=>p e && Q e:=by
 rw [List.find?_filter]
 congr 1
 funext a
 cases p a<;>cases Q a<;>rfl
theorem find_bst {α:Type} (wt:α->Nat) (Q:α->Bool) (n:Nat) (L:List α) (hL:∀ e ∈ L,wt e<=n):((List.range (n+1)).flatMap fun w=>L.filter fun e=>wt e == w).find? Q=bst wt Q L:=by
 rw [List.range_eq_range',find_flat];simp only [find_filter]
 induction L using snoc_ind with
 | h0=>exact fsW_none _ _ _ fun _ _ _=>rfl
 | h1 L x ih =>
  have ih:=ih fun e he=>hL e (by simp [he])
  have hsp:=bst_spec wt Q L;rw [bst_snoc]
  have hg:∀ w,(L++[x]).find? (fun e=>wt e == w && Q e)=(L.find? (fun e=>wt e == w && Q e)).or (if wt x=w/\Q x=true then some x else none):=by
   intro w;rw [List.find?_append]
   congr 1
   rw [List.find?_singleton]
   by_cases h:wt x=w/\Q x=true
   ·rw [qU h,qU (by rw [h.2,h.1];simp)]
   ·rw [qE h,qE (by rw [Bool.and_eq_true,yY];exact h)]
  have hnone:(∀ e ∈ L,Q e=false)->∀ w,L.find? (fun e=>wt e == w && Q e)=none:=fun h w=>List.find?_eq_none.2 fun e he=>by rw [h e he];simp
  have hless:∀ b v,(∀ e ∈ L,Q e=true->wt b<=wt e)->v<wt b->L.find? (fun e=>wt e == v && Q e)=none:=fun b v h hv=>List.find?_eq_none.2 fun e he=>by
   rw [Bool.and_eq_true,yY];rintro ⟨h1,h2⟩;have:=h e he h2;omega
  cases h:bst wt Q L with
  | none =>
   rw [h] at hsp;simp only at hsp ⊢
   by_cases hx:Q x=true
   ·rw [qU hx]
    refine fsW_some _ x (wt x) _ _ (qI _) (by have:=hL x (by simp);omega) ?_ fun j _ hj=>?_
    ·rw [hg,hnone hsp,qU ⟨rfl,hx⟩];rfl
    ·rw [hg,hnone hsp,qE (by omega)];rfl
   ·rw [qE hx]
    refine fsW_none _ _ _ fun j _ _=>?_
    rw [hg,hnone hsp,qE (fun e=>hx e.2)];rfl
  | some b =>
   rw [h] at hsp ih;simp only at hsp ⊢;obtain ⟨h1,h2,h3⟩:=hsp;have hbn:=hL b (by simp [h1])
   by_cases hc:Q x=true/\wt x<wt b
   ·rw [qU (by rw [hc.1,jJ hc.2];rfl)]
    refine fsW_some _ x (wt x) _ _ (qI _) (by have:=hL x (by simp);omega) ?_ fun j _ hj=>?_
    ·rw [hg,hless b _ h3 hc.2,qU ⟨rfl,hc.1⟩];rfl
    ·rw [hg,hless b _ h3 (by omega),qE (by omega)];rfl
   ·rw [qE (by rw [Bool.and_eq_true,jZ];exact hc)]
    have hb:L.find? (fun e=>wt e == wt b && Q e)=some b:=by
     cases hf:L.find? (fun e=>wt e == wt b && Q e) with
     | none =>
      have:=List.find?_eq_none.1 hf b h1;rw [h2] at this
      simp at this
     | some b' =>
      have:=fsW_some (fun w=>L.find? (fun e=>wt e == w && Q e)) b' (wt b) (n+1) 0 (qI _) (by omega) hf (fun j _ hj=>hless b j h3 hj);rw [this] at ih;exact ih
    refine fsW_some _ b (wt b) _ _ (qI _) (by omega) ?_ fun j _ hj=>?_
    ·rw [hg,hb];rfl
    ·rw [hg,hless b _ h3 hj,qE ?_]
     ·rfl
     ·rintro ⟨e1,e2⟩
      exact hc ⟨e2,by omega⟩
theorem find_errT (n:Nat) (Q:List UInt8->Bool):(errT n).find? Q=bst wtT Q (erR n):=by
 rw [errT_is,find_bst wtT Q n (erR n) fun e he=>by have h:=((erR_let n e).1 he).1;have:=wtT_le e;omega]
theorem wtT_take {l:List UInt8} {i:Nat} {x:UInt8} (h:l[i]?=some x):wtT (l.take (i+1))=wtT (l.take i)+(if x=73 then 0 else 1):=by
 rw [jP,h,wtT_append]
 rfl
theorem rWeight_any (a:List UInt8) (w:World) (hla:a.length<=9223372036854775807) :
  Calls Tryz.prog 45 #[.string ⟨a.toArray⟩] w fun e w'=>e=.returned (.int .i64 ((wtT a:Nat):Int))/\Ext w w':=by
 obtain ⟨n,hn⟩:∃ n,a.length=n:=⟨_,rfl⟩;have Hn:=Lh hn;have Hla:=Lh hla
 have hsa:(⟨a.toArray⟩:ByteArray).size=n:=by rw [<-hn];simp [ByteArray.size]
 obtain ⟨W,hW⟩:∃ W,wtT a=W:=⟨_,rfl⟩;rw [hW];have HW:=Lh hW;clear hn hla hW
 go_enter Tryz.func45,Tryz.ntmps45
 go_wp2_with fail
 go_loopg [3,4] n (fun k s3 s4 wr=>Ext w wr/\∃ i m:Nat,s3=.int .i64 (m:Int)/\s4=.int .i64 (i:Int)/\i<=n/\n-i=k/\wtT (a.take i)=m)
 case atStart=>exact ⟨Ext.refl _,0,0,rfl,rfl,qI _,rfl,by simp [wtT]⟩
 case round =>
  obtain ⟨hER,i,m,rfl,rfl,hi,hk,hm⟩:=hrel;have HER:=Lh hER;have Hk:=Lh hk;clear hER hk
  by_cases hin:i=n
  ·have q1:¬ (i:Int)<(n:Int):=by omega
   have e1:a.take i=a:=qB (by have:=Hn.out;omega);rw [e1,HW.out] at hm;subst hm;clear e1 hin hi
   go_wp2_with fail
   go_ret
   exact ⟨rfl,HER.out⟩
  have hlt:i<n:=by omega
  have q1:(i:Int)<(n:Int):=by omega
  have q0:(0:Int)<=(i:Int):=by omega
  obtain ⟨x,hx⟩:∃ x,a[i]?=some x:=⟨_,qX (by have:=Hn.out;omega)⟩;have hsz:i<(⟨a.toArray⟩:ByteArray).size:=str_lt (by have:=Hn.out;omega);have hg:=let_at hx hsz
  have wk:IntKind.i64.wrap ((i:Int)+1)=((i+1:Nat):Int):=by rw [qH];have:=Hn.out;have:=Hla.out;omega
  have hmb:m<=i:=by rw [<-hm];exact qL (wtT_le _) (by rw [qC];omega)
  have wm:IntKind.i64.wrap ((m:Int)+1)=((m+1:Nat):Int):=by rw [qH];have:=Hn.out;have:=Hla.out;omega
  have Hst:=Lh (wtT_take hx);rw [hm] at Hst;have Hlt:=Lh hlt;clear hx hm hmb hin hi hlt
  by_cases c1:x=73
  ·have t1:((x.toNat:Int) != 73)=false:=nf' (by rw [c1];rfl)
   have HA:=Lh (show (if x=73 then 0 else 1)=0 by rw [qU c1]);clear c1
   go_wp2_with fail
   go_roundg (n-(i+1))
   case measure=>have:=Hk.out;have:=Hlt.out;omega
   case rel=>exact ⟨HER.out,i+1,m,rfl,rfl,Hlt.out,rfl,by rw [Hst.out,HA.out];rfl⟩
  have t1:((x.toNat:Int) != 73)=true:=nt (u8_ne (k:=73) (by decide) c1);have HA:=Lh (show (if x=73 then 0 else 1)=1 by rw [qE c1]);clear c1
  go_wp2_with fail
  go_roundg (n-(i+1))
  case measure=>have:=Hk.out;have:=Hlt.out;omega
  case rel=>exact ⟨HER.out,i+1,m+1,rfl,rfl,Hlt.out,rfl,by rw [Hst.out,HA.out]⟩
def inG (G:List (List UInt8)) (e:List UInt8):Bool:=G.any (fun p=>p == e) || (G.length == 0 && wtT e == 0)
theorem InGroup_any (G:List (List UInt8)) (e:List UInt8) (ao:Option Addr) (n c:Nat) (w:World) (hG:StrsAt w ao n G) (hn:n<=9223372036854775806) (he:e.length<=9223372036854775807) :
  Calls Tryz.prog 43 #[.slice ao n c,.string ⟨e.toArray⟩] w fun r w'=>r=.returned (.bool (inG G e))/\Ext w w':=by
 have HG:=Lh hG;have Hn:=Lh hn;have Hl:=Lh (show G.length=n from hG.1);have HWt:=Lh (fun wx=>rWeight_any e wx he);obtain ⟨wt,hwt⟩:∃ wt,wtT e=wt:=⟨_,rfl⟩;rw [hwt] at HWt;obtain ⟨B,hB⟩:∃ B,inG G e=B:=⟨_,rfl⟩;rw [hB];unfold inG at hB;rw [hwt] at hB;have HB:=Lh hB;clear hG hn hB hwt he
 go_enter Tryz.func43,Tryz.ntmps43
 go_wp2_with fail
 go_loopg [5] n (fun kk s5 wr=>Ext w wr/\∃ i:Nat,s5=.int .i64 (i:Int)/\i<=n/\n-i=kk/\(G.take i).any (fun p=>p == e)=false)
 case atStart=>exact ⟨Ext.refl _,0,rfl,qI _,rfl,by simp⟩
 case round =>
  obtain ⟨hER,i,rfl,hi,hkk,hq⟩:=hrel;have HER:=Lh hER;have Hkk:=Lh hkk;have Hq:=Lh hq
  by_cases hin:i=n
  ·have q1:¬ (i:Int)<(n:Int):=by omega
   have e1:G.take i=G:=qB (by have:=Hl.out;omega);have HB2:=Lh (show (G.length == 0 && wt == 0)=B by rw [<-HB.out,<-e1,hq,e1];rfl);subst hin;clear e1 hi hER hkk hq
   by_cases hz:i=0
   ·have t0:((i:Int) == 0)=true:=by rw [hz];rfl
    have t0':=bt' (show (i:Int)=0 by omega);have HB3:=Lh (show (wt == 0)=B by rw [<-HB2.out,Hl.out,hz];rfl);clear hz
    go_wp2_with fail
    refine (HWt.out _).mono ?_;rintro r w2 ⟨rfl,hx2⟩;have H2:=Lh hx2;clear hx2 HWt
    have hb:((wt:Int) == 0)=B:=by
     rw [<-HB3.out]
     by_cases h:wt=0
     ·rw [h];rfl
     ·rw [qV.2 h];exact bf (by omega)
    go_wp2_with fail
    go_ret
    exact ⟨rfl,HER.out.trans H2.out⟩
   ·have t0:=bf (show ¬ (i:Int)=0 by omega)
    have HB3:=Lh (show B=false by rw [<-HB2.out,Hl.out,qV.2 hz];rfl);clear hz
    go_wp2_with fail
    go_ret
    exact ⟨congrArg (fun b=>Ending.returned (Value.bool b)) HB3.out.symm,HER.out⟩
  have hlt:i<n:=by omega
  have q1:(i:Int)<(n:Int):=by omega
  have q0:(0:Int)<=(i:Int):=by omega
  have wk:IntKind.i64.wrap ((i:Int)+1)=((i+1:Nat):Int):=by rw [qH];have:=Hn.out;omega
  obtain ⟨x,hx⟩:∃ x,G[i]?=some x:=⟨_,qX (by have:=Hl.out;omega)⟩;obtain ⟨b,o,rfl,_,hcs⟩:=(HG.out.ext hER).at (by omega);have c0:=hcs i hlt
  have hgd:G.getD i []=x:=by rw [qQ,hx];rfl
  rw [hgd] at c0;have Hlt:=Lh hlt;have Hx:=Lh hx;clear hER hkk hq hi hin hlt hcs hgd hx
  cases hxe:(x == e)
  ·have Hst:=Lh (show (G.take (i+1)).any (fun p=>p == e)=false by rw [jP,Hx.out,List.any_append,Hq.out];simp [hxe])
   go_wp2_with fail
   go_roundg (n-(i+1))
   case measure=>have:=Hkk.out;have:=Hlt.out;omega
   case rel=>exact ⟨HER.out,i+1,rfl,Hlt.out,rfl,Hst.out⟩
  ·have HBt:=Lh (show B=true by rw [<-HB.out,List.any_eq_true.2 ⟨x,jL Hx.out,hxe⟩];rfl)
   go_wp2_with fail
   go_ret
   exact ⟨congrArg (fun b=>Ending.returned (Value.bool b)) HBt.out.symm,HER.out⟩
def er4 (e:List UInt8):List (List UInt8):=[e++[73],e++[88],e++[89],e++[90]]
theorem erR_succ (n:Nat):erR (n+1)=(erR n).flatMap er4:=rfl
theorem erR_len:∀ n,(erR n).length=4 ^ n
 | 0=>rfl
 | n+1=>by
  rw [erR_succ,List.length_flatMap,jK,<-erR_len n]
  induction erR n with
  | nil=>rfl
  | cons a r ih=>rw [yW,List.sum_cons,ih,jB];show 4+_=_;omega
theorem er4_take {e:List UInt8} {j:Nat} {c:UInt8} (h:([73,88,89,90]:List UInt8)[j]?=some c):(er4 e).take (j+1)=(er4 e).take j++[e++[c]]:=by
 rw [jP]
 congr 1
 match j,h with
 | 0,h=>have:(73:UInt8)=c:=(by simpa using h);subst this;rfl
 | 1,h=>have:(88:UInt8)=c:=(by simpa using h);subst this;rfl
 | 2,h=>have:(89:UInt8)=c:=(by simpa using h);subst this;rfl
 | 3,h=>have:(90:UInt8)=c:=(by simpa using h);subst this;rfl
 | j+4,h=>simp at h
theorem flat_take {l:List (List UInt8)} {k:Nat} {e:List UInt8} (h:l[k]?=some e):(l.take (k+1)).flatMap er4=(l.take k).flatMap er4++er4 e:=by
 rw [jP,h,List.flatMap_append]
 simp
theorem flat4_len (l:List (List UInt8)):(l.flatMap er4).length=4*l.length:=by
 induction l with
 | nil=>rfl
 | cons a r ih=>rw [List.flatMap_cons,qT,ih,jB];show 4+_=_;omega
theorem oneS (w:World) (x:ByteArray) (base:Nat) (hb:base<=w.heap.size):(w.alloc (.cells #[.string x] 9)).ownsRow base 9 1 (.slice (some ⟨w.heap.size,0,none⟩) 1 1) 1 [.string x]:=ownX_one w x base hb
theorem Errors_any (n:Nat) (w:World) (hn:n<=5) :
  Calls Tryz.prog 38 #[.int .i64 (n:Int)] w fun e w'=>(∃ v,e=.returned v/\w'.ownsRow w.heap.size 9 1 v (erR n).length (sC (erR n)))/\Ext w w':=by
 obtain ⟨i0,hi0,hz0,hz1,hz2⟩:=info_parts s_info;have Hn:=Lh hn;obtain ⟨U,hU⟩:∃ U,w.alloc (.cells #[.string ⟨#[]⟩] 9)=U:=⟨_,rfl⟩;have HE0:=Lh (show Ext w U by rw [<-hU];exact ext_al _ _);have HO0:=Lh (show U.ownsRow w.heap.size 9 1 (.slice (some ⟨w.heap.size,0,none⟩) 1 1) 1 (sC (erR 0)) by rw [<-hU];exact oneS w _ _ (qZ _));have HU:=Lh hU;clear hn hU
 go_enter Tryz.func38,Tryz.ntmps38
 go_upto_region 2 with fail
 rw [HU.out];clear HU
 go_wp2_with fail
 go_loopg [3,4] n (fun kk s3 s4 wr=>Ext w wr/\∃ i:Nat,s4=.int .i64 (i:Int)/\i<=n/\n-i=kk/\wr.ownsRow w.heap.size 9 1 s3 (erR i).length (sC (erR i)))
 case atStart=>exact ⟨HE0.out,0,rfl,qI _,rfl,HO0.out⟩
 case round =>
  obtain ⟨wA,hwA⟩:∃ wA,wA=wr:=⟨wr,rfl⟩;subst hwA;obtain ⟨hER,i,rfl,hi,hkk,hown⟩:=hrel;have HER:=Lh hER;have Hkk:=Lh hkk;have Hown:=Lh hown
  by_cases hin:i=n
  ·have q1:¬ (i:Int)<(n:Int):=by omega
   subst hin;clear hER hkk hown hi
   go_wp2_with fail
   go_ret
   exact ⟨⟨_,rfl,Hown.out⟩,HER.out⟩
  have hlt:i<n:=by omega
  have q1:(i:Int)<(n:Int):=by omega
  have wk:IntKind.i64.wrap ((i:Int)+1)=((i+1:Nat):Int):=by rw [qH];have:=Hn.out;omega
  obtain ⟨E,hE⟩:∃ E,erR i=E:=⟨_,rfl⟩;obtain ⟨L,hL⟩:∃ L,E.length=L:=⟨_,rfl⟩
  have hL4:L<=256:=by
   rw [<-hL,<-hE,erR_len];have:4 ^ i<=4 ^ 4:=qY (by decide) (by have:=Hn.out;omega)
   have h:(4:Nat) ^ 4=256:=by decide
   omega
  have HEl:=Lh (fun (e:List UInt8) (he:e ∈ E)=>show e.length<=5 by rw [<-hE] at he;have h1:=((erR_let i e).1 he).1;have:=Hn.out;omega);have HSc:=Lh (show erR (i+1)=E.flatMap er4 by rw [erR_succ,hE]);rw [hE] at Hown;rw [hL] at Hown;have HL:=Lh (jN hL hL4);have Hlt:=Lh hlt;obtain ⟨base,hbase⟩:∃ base,wA.heap.size=base:=⟨_,rfl⟩;have HwB:=Lh (show w.heap.size<=base by rw [<-hbase];exact hER.size);obtain ⟨a3,c3,e3,hac,hcm,hS3⟩:=strs_of_own Hown.out;subst e3;have HS3:=Lh hS3;have HB:=Lh hbase;clear hER hkk hown hi hin hlt hE hL hL4 hbase hS3 hac hcm
  go_wp2_with fail
  go_loopg [5,6] L (fun kk s5 s6 wm=>Ext wA wm/\∃ k:Nat,s6=.int .i64 (k:Int)/\k<=L/\L-k=kk/\wm.ownsRow base 9 1 s5 (4*k) (sC ((E.take k).flatMap er4)))
  case atStart=>exact ⟨Ext.refl _,0,rfl,qI _,rfl,⟨rfl,qM ⟨rfl,rfl⟩⟩⟩
  case round =>
   obtain ⟨wM,hwM⟩:∃ wM,wM=wr:=⟨wr,rfl⟩;subst hwM;obtain ⟨hEM,k,rfl,hk,hkk2,hown2⟩:=hrel;have HEM:=Lh hEM;have Hkk2:=Lh hkk2;have Hown2:=Lh hown2
   by_cases hkn:k=L
   ·have p1:¬ (k:Int)<(L:Int):=by omega
    have Hfin:=Lh (show (E.take k).flatMap er4=erR (i+1)/\4*k=(erR (i+1)).length by
     have h1:E.take k=E:=qB (by have:=HL.out.1;omega);rw [h1,HSc.out,flat4_len,HL.out.1,hkn]
     exact ⟨rfl,rfl⟩)
    clear hEM hk hkk2 hown2 hkn
    go_wp2_with fail
    go_roundg (n-(i+1))
    case measure=>have:=Hkk.out;have:=Hlt.out;omega
    case rel=>exact ⟨HER.out.trans HEM.out,i+1,rfl,Hlt.out,rfl,by rw [<-Hfin.out.1,Hfin.out.1,<-Hfin.out.2,<-Hfin.out.1];exact own_low Hown2.out HwB.out⟩
   have hklt:k<L:=by omega
   have p1:(k:Int)<(L:Int):=by omega
   have p0:(0:Int)<=(k:Int):=by omega
   have wk2:IntKind.i64.wrap ((k:Int)+1)=((k+1:Nat):Int):=by rw [qH];have:=HL.out.2;omega
   obtain ⟨e,he⟩:∃ e,E[k]?=some e:=⟨_,qX (by have:=HL.out.1;omega)⟩;have hel:=HEl.out e (jL he);have Hft:=Lh (flat_take he);obtain ⟨b3,o3,rfl,_,hcs⟩:=HS3.out.at (by omega)
   have hgd:E.getD k []=e:=by rw [qQ,he];rfl
   have hcell:=hcs k hklt;rw [hgd] at hcell;have Hcell:=Lh hcell;obtain ⟨R,hR⟩:∃ R,(E.take k).flatMap er4=R:=⟨_,rfl⟩;rw [hR] at Hown2 Hft;have Hklt:=Lh hklt;have Hel:=Lh hel;clear hEM hk hkk2 hown2 hkn hklt he hcs hgd hR hel hcell
   go_wp2_with fail
   go_loopg [5,7] 4 (fun kk s5 s7 wn=>Ext wA wn/\∃ j:Nat,s7=.int .i64 (j:Int)/\j<=4/\4-j=kk/\wn.ownsRow base 9 1 s5 (4*k+j) (sC (R++(er4 e).take j)))
   case atStart=>exact ⟨HEM.out,0,rfl,by decide,rfl,by rw [List.take_zero,List.append_nil];exact Hown2.out⟩
   case round =>
    obtain ⟨wn,hwn⟩:∃ wn,wn=wr:=⟨wr,rfl⟩;subst hwn;obtain ⟨hEN,j,rfl,hj,hkk3,hown3⟩:=hrel;have HEN:=Lh hEN;have Hkk3:=Lh hkk3;have Hown3:=Lh hown3
    by_cases hj4:j=4
    ·subst hj4
     have Hf4:=Lh (show R++(er4 e).take 4=(E.take (k+1)).flatMap er4 by rw [Hft.out];rfl);clear hEN hj hkk3 hown3
     go_wp2_with fail
     go_roundg (L-(k+1))
     case measure=>have:=Hkk2.out;have:=Hklt.out;omega
     case rel=>exact ⟨HEN.out,k+1,rfl,Hklt.out,rfl,by rw [<-Hf4.out];exact Hown3.out⟩
    have p2:(j:Int)<4:=by omega
    have p3:(0:Int)<=(j:Int):=by omega
    have p4:((j+1:Nat):Int)<=4:=by omega
    have p5:(j:Int)<=((j+1:Nat):Int):=by omega
    have p6:(0:Int)<=(j:Int)+1:=by omega
    have p7:(j:Int)+1<=4:=by omega
    have p8:(j:Int)<=(j:Int)+1:=by omega
    have wk3:IntKind.i64.wrap ((j:Int)+1)=((j+1:Nat):Int):=by rw [qH];omega
    obtain ⟨c,hc⟩:∃ c,([73,88,89,90]:List UInt8)[j]?=some c:=⟨_,qX (show j<([73,88,89,90]:List UInt8).length by show j<4;omega)⟩;have hp3:=one_piece hc;have hz3:(⟨([73,88,89,90]:List UInt8).toArray⟩:ByteArray).size=4:=rfl
    have hcat:(⟨e.toArray⟩:ByteArray)++⟨#[c]⟩=⟨(e++[c]).toArray⟩:=by rw [show (⟨#[c]⟩:ByteArray)=⟨([c]:List UInt8).toArray⟩ from rfl,str_append]
    have hs1:¬ 9223372036854775807<e.length+1:=by have:=Hel.out;omega
    have HR4:=Lh (show sC (R++(er4 e).take (j+1))=sC (R++(er4 e).take j)++[.string ⟨(e++[c]).toArray⟩] by rw [er4_take hc,<-yK,sC_snoc]);have c0:=cell_ext Hcell.out hEN;obtain ⟨X,hX⟩:∃ X,sC (R++(er4 e).take j)=X:=⟨_,rfl⟩;rw [hX] at Hown3 HR4;obtain ⟨P2,hP2⟩:∃ P2,e++[c]=P2:=⟨_,rfl⟩;rw [hP2] at hcat HR4
    have hbw:base<=wn.heap.size:=by rw [<-HB.out];exact hEN.size
    have Hbw:=Lh hbw;have Hj4:=Lh (show j+1<=4 by omega);clear hEN hj hkk3 hown3 hj4 hc hX hP2 hbw
    go_upto_region 12 with fail
    obtain ⟨v',w',hap,hown',hgr,_⟩:=run_append_own (P:=Tryz.prog) ((wn.alloc (.cells #[.string ⟨P2.toArray⟩] 9)).drew) base 22 22 9 i0 (.string ⟨#[]⟩) 1 16 Tryz.underlying22 hi0 hz0 hz1 hz2 rfl (by decide) _ (4*k+j) X (own_kpt Hown3.out (qG (ext_al _ _))) ⟨wn.heap.size,0,none⟩ 1 1 [.string ⟨P2.toArray⟩] rfl (fun j u hj=>by
     have hr:=((qG (Ext.refl _):Ext (wn.alloc (.cells #[.string ⟨P2.toArray⟩] 9)) _).block wn.heap.size (by simp)).trans (qW _ _)
     cases j with
     | zero =>
      have:Value.string ⟨P2.toArray⟩=u:=by simpa using hj
      rw [<-this]
      show World.cell? _ ⟨wn.heap.size,0,none⟩=_
      rw [qD _ _ 0 _ _ (0,0) hr];rfl
     | succ j=>simp at hj) (by simp [Value.oneCell']) (by unfold maxLen;have:=HL.out;have:=Hklt.out;have:=Hj4.out;omega) (by have:=HL.out;have:=Hklt.out;have:=Hj4.out;omega) (qL Hbw.out (qG (ext_al wn _):Ext wn _).size)
    have Hnew:=Lh (jN hown' (grown_ext (HEN.out.trans (qG (ext_al wn _))) hgr (fun kq hkq=>by
     have h1:=(own_lt Hown3.out kq hkq).1;have h2:=HB.out
     omega)))
    have Hap:=Lh hap;clear hap hown' hgr
    go_region_law (refine stepK_append (by rfl) _ _ 22 (by rfl) _ _ _ (by rfl) (by rfl) Hap.out ?_)
    all_goals
     clear Hap c0 hcat hp3
     go_wp2_with fail
     go_roundg (4-(j+1))
     case measure=>have:=Hkk3.out;have:=Hj4.out;omega
     case rel=>exact ⟨Hnew.out.2,j+1,rfl,Hj4.out,rfl,by rw [HR4.out];exact Hnew.out.1⟩
end Go.Proofs.YtjfomkoedgipjaaGreatDoor
