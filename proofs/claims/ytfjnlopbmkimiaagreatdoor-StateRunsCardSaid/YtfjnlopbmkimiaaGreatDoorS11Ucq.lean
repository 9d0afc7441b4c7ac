/-
  A sum over a power of two brought into the one way in which it is kept: lowest. Whole values loaded and stored in regions that draw their order; Of. The reference: is a number nought; -a; an integer. The reference: a number turned. The reference: half of an even number.
-/
import Derived.Test.YtfjnlopbmkimiaaGreatDoorS10Uaq
namespace Go.Proofs.YtfjnlopbmkimiaaGreatDoor
set_option maxRecDepth 100000
set_option maxHeartbeats 4000000
open Go.RowKit
theorem fit_pow {K P:Nat} {z:Int} (h:z.natAbs<2 ^ P) (hP:P<=64*K):Fit K z:=by
 unfold Fit;have h1:2 ^ P<=2 ^ (64*K):=Nat.pow_le_pow_right (by decide) hP
 have h2:B64 ^ K=2 ^ (64*K):=by rw [Nat.pow_mul];rfl
 omega
theorem fit_small {K:Nat} {z:Int} (h:z.natAbs<=9223372036854775808) (hK:1<=K):Fit K z:=fit_pow (P:=64) (by omega) (by omega)
theorem CmpK_is {w:World} {s1 s2:Int} {a1 a2:Option Addr} {n1 c1 n2 c2:Nat} {z1 z2:Int} (k:Int) (h1:IsInt w s1 a1 n1 c1 z1) (h2:IsInt w s2 a2 n2 c2 z2) (K:Nat) (hK:K<=4194304) (hf1:Fit K z1) (hf2:Fit K z2) (hk:cmp3 z1 z2=k) :
  Calls Tryz.prog 85 #[.agg #[.int .i64 s1,.slice a1 n1 c1],.agg #[.int .i64 s2,.slice a2 n2 c2]] w fun e w'=>e=.returned (.int .i64 k)/\Ext w w':=by
 rw [<-hk];exact Cmp_any s1 s2 a1 a2 n1 c1 n2 c2 z1 z2 w h1 h2 K hK hf1 hf2
theorem min_cases (t d:Nat):∃ b:Nat,b=min t d/\((d<t/\b=d)\/(t<=d/\b=t)):=⟨min t d,rfl,by omega⟩
def dvN (f:Nat->Int) (b:Nat):Nat->Int:=fun i=>f i / (2 ^ b:Nat)
theorem dvN_mul {f:Nat->Int} {b i:Nat} (h:2 ^ b ∣ (f i).natAbs):f i=dvN f b i*2 ^ b:=by
 unfold dvN;have h1:((2 ^ b:Nat):Int) ∣ f i:=Int.ofNat_dvd_left.2 h;have:=Int.ediv_mul_cancel h1;rw [Int.natCast_pow] at this;rw [Int.natCast_pow];exact this.symm
theorem dvN_abs {f:Nat->Int} {b i:Nat}:(dvN f b i).natAbs<=(f i).natAbs:=by
 unfold dvN;exact Int.natAbs_ediv_le_natAbs _ _
theorem dvN_shv {f:Nat->Int} {b i:Nat} (hb:0<b) (h:2 ^ b ∣ (f i).natAbs):ShV (-(b:Int)) (f i) (dvN f b i):=by
 refine Or.inr ⟨by omega,?_⟩;rw [show (-(-(b:Int))).toNat=b by omega,Int.natCast_pow];exact dvN_mul h
theorem dvN_odd {f:Nat->Int} {b i:Nat} (h:Tw (f i).natAbs b):dvN f b i % 2=1:=by
 obtain ⟨m,hm⟩:=h;have h1:=dvN_mul (f:=f) (b:=b) (i:=i) (by rw [hm];exact Nat.dvd_mul_right _ _)
 have h2:(f i).natAbs=(dvN f b i).natAbs*2 ^ b:=by
  have:=congrArg Int.natAbs h1;rw [Int.natAbs_mul,Int.natAbs_pow] at this;exact this
 rw [hm,Nat.mul_comm] at h2;have h3:=Nat.eq_of_mul_eq_mul_right (Nat.pow_pos (by decide)) h2;omega
theorem rlowest_any (cp:Array Value) (s:Int) (a:Option Addr) (n c:Nat) (f:Nat->Int) (d:Nat) (w:World) (hc:CellsA w cp 8 f) (hI:IsInt w s a n c (d:Int)) (K P E:Nat) (hK:K<=4194304) (hK1:1<=K) (hP:P<=64*K) (hE:E<=1099511627776) (hA:∀ i,i<8->(f i).natAbs<2 ^ P) (hd:d<=E) (hbr:Bru w) :
  Calls Tryz.prog 90 #[.agg cp,.agg #[.int .i64 s,.slice a n c]] w fun e w'=>∃ (cr:Array Value) (x:Nm),e=.returned (.agg cr)/\NmA w' cr x P E/\EqN x ⟨ext8 f,d⟩/\Ext w w':=by
 have HI:=Lh hI;have HK:=Lh hK;have HK1:=Lh hK1;have HA:=Lh hA;have Hd:=Lh hd;have HE:=Lh hE;have Hbr:=Lh hbr
 have HF:Hid (∀ i,i<8->Fit K (f i)):=Lh fun i hi=>fit_pow (hA i hi) hP
 have HFd:Hid (Fit K (d:Int)):=Lh (fit_small (z:=(d:Int)) (by omega) hK1);have hcs:=hc.1;obtain ⟨H,hH⟩:∃ H,w.heap.size=H:=⟨_,rfl⟩;obtain ⟨U,hU⟩:∃ U,((w.alloc (.cells cp 76)).alloc (.cells #[.int .i64 s,.slice a n c] 74)).alloc (.cells zero9 78)=U:=⟨_,rfl⟩
 have E0:Ext w U:=by rw [<-hU];exact ((Ext.alloc _ _).trans (Ext.alloc _ _)).trans (Ext.alloc _ _)
 have N0:Nums U H 8 76 f:=by rw [<-hU,<-hH];exact (hc.box 76).ext ((Ext.alloc _ _).trans (Ext.alloc _ _))
 have B0:Box U (H+1) s a n c:=by
  have:=box_new (w.alloc (.cells cp 76)) s a n c;rw [<-hU,<-hH];have h2:=this.ext (Ext.alloc _ (.cells zero9 78))
  simpa using h2
 have Z0:Nums U (H+2) 9 78 (fun _=>0):=by
  have:=(cells_zero9 ((w.alloc (.cells cp 76)).alloc (.cells #[.int .i64 s,.slice a n c] 74))).box 78;rw [<-hU,<-hH]
  simpa using this
 have HU:=Lh hU;have HE0:=Lh E0;have HN0:=Lh N0;have HB0:=Lh B0;have HZ0:=Lh Z0;have HH:=Lh hH
 have HgB:Hid (∀ w':World,Ext w w'->Bru w'):=Lh fun w' h=>bru_ext hbr h
 have HgH:Hid (Tryz.lays29_ren.g 1≠H):=Lh (by
  intro e;have h1:=hbr 0 (by decide);have h2:Tryz.lays29_ren.g 1<w.heap.size:=World.block_lt_of_cell? w _ h1;rw [e,hH] at h2
  exact Nat.lt_irrefl _ h2)
 clear hU E0 N0 B0 Z0 hH hI hK hK1 hA hd hE hbr hP hc
 go_enter Tryz.func90,Tryz.ntmps90
 go_wp2_with fail
 rw [HU.out,HH.out];clear HU hcs
 by_cases hz:zeroN f
 ·have HZ:=Lh (rowZero_yes H 8 _ f U HN0.out (by decide) true (by simp [hz]))
  refine HZ.out.mono ?_;rintro e w1 ⟨rfl,hx1⟩;have z1:=HZ0.out.ext hx1;obtain ⟨c1,hr1,hc1⟩:=z1.cells;have hs1:=hc1.1;obtain ⟨nn,ch,rr⟩:=(cells_zero9 w1).setRow z1
  have Hend:=Lh (show NmA (w1.setRow (H+2) zero9) zero9 ⟨ext8 (fun _=>0),0⟩ P E/\EqN ⟨ext8 (fun _=>0),0⟩ ⟨ext8 f,d⟩/\Ext w (w1.setRow (H+2) zero9) from
   ⟨⟨anti_ext8 (fun _=>0),(low_nil hz d).1,fun k=>by rw [ext8_zero];exact Nat.pow_pos (by decide),Nat.zero_le _,(cells_zero9 _).congr fun i hi=>by
     unfold nmF;split
     ·rfl
     ·rw [ext8_zero]⟩,(low_nil hz d).2,ch.ext (HE0.out.trans hx1) (by rw [HH.out];omega)⟩)
  clear nn ch hc1 z1 hx1 HZ hz
  go_wp2_with (refine wpList_store_row rfl 78 _ _ rfl (H+2) zero9 rfl rfl 78 _ hr1 rnum_info hs1 (cells_zero9 w1).one ?_)
  refine bodyPost_ret (v:=.agg zero9) ?_ rfl ⟨zero9,_,rfl,Hend.out⟩;exact results_cell_row rfl _ _ (H+2) _ _ _ _ rfl rr Tryz.underlying78 rfl rnum_info
 have HZ:=Lh (rowZero_yes H 8 _ f U HN0.out (by decide) false (by simp [hz]));refine HZ.out.mono ?_;rintro e w1 ⟨rfl,hx1⟩;have HE1:=Lh (HE0.out.trans hx1);have HN1:=Lh (HN0.out.ext hx1);have HB1:=Lh (HB0.out.ext hx1);have HZ1:=Lh (HZ0.out.ext hx1);clear hx1 HE0 HN0 HB0 HZ0 HZ;have HT:=Lh (rowTwos_any H 8 _ f w1 HN1.out (by decide) K HK.out HF.out (HgB.out _ HE1.out))
 go_wp2_with fail
 refine HT.out.mono ?_;rintro e w2 ⟨⟨T,rfl,hT⟩,hx2⟩
 obtain ⟨t,rfl,htB,htd,hto⟩:∃ t:Nat,T=(t:Int)/\t<64*K+64/\(∀ i,i<8->2 ^ t ∣ (f i).natAbs)/\∃ i,i<8/\Tw (f i).natAbs t:=by
  rcases hT with ⟨_,h⟩ | h
  ·exact absurd h hz
  ·exact h
 have HE2:=Lh (HE1.out.trans hx2);have HN2:=Lh (HN1.out.ext hx2);have HB2:=Lh (HB1.out.ext hx2);have HZ2:=Lh (HZ1.out.ext hx2);have Hto:=Lh hto;have Htd:=Lh htd;have HtB:=Lh (show t<268435520 by have:=HK.out;omega);clear hx2 HE1 HN1 HB1 HZ1 HT hT hz hto htd htB;obtain ⟨b,hb0,hbc⟩:=min_cases t d;have Hb:=Lh hb0;have Hbc:=Lh hbc;clear hb0 hbc;obtain ⟨k,hk⟩:∃ k,cmp3 (d:Int) (t:Int)=k:=⟨_,rfl⟩;have Hk:=Lh hk;clear hk;have l0:=HB2.out.c0;have l1:=HB2.out.c1;have lB:=HB2.out.lt;have HI2:=Lh (HI.out.ext HE2.out)
 go_upto_region 4 with fail
 have h0d:Ext w2 w2.drew:=Below.drew (Ext.refl _)
 go_region_held3 (fun w'=>w'.cell? ⟨H+1,0,none⟩=some (.int .i64 s)/\w'.cell? ⟨H+1,1,none⟩=some (.slice a n c))
  (exact ⟨cellKeep (W:=w2) (by assumption) lB l0,cellKeep (W:=w2) (by assumption) lB l1⟩)
  (first
   | (have _:=qv0;go_at_call 85;refine (CmpK_is k (HI2.out.ext hv0) Kv0 K HK.out HFd.out (fit_small (z:=(t:Int)) (by have:=HtB.out;omega) HK1.out) Hk.out).mono ?_;rintro e v1 ⟨rfl,qv1⟩;have hv1:Ext w2 v1:=hv0.trans qv1)
   | (go_at_call 130;refine (Of_any (t:Int) (by have:=HtB.out;omega) (by have:=HtB.out;omega) _).mono ?_;rintro e v0 ⟨rfl,Kv0,qv0⟩;have hv0:Ext w2 v0:=Ext.trans (by assumption) qv0))
 clear Kv0
 go_upto_if 13 with fail
 go_cut [5] from 13 to 18 (fun s5 wx=>s5=.int .i64 (b:Int)/\Ext w2 wx)
 case first =>
  by_cases hlt:d<t
  ·have b1:k<0:=by rw [<-Hk.out,cmp3_lt (by omega)];decide
   have hbd:d=b:=by have:=Hbc.out;omega
   have Hbd:=Lh hbd;have p0:=cellKeep hv1 lB l0;have p1:=cellKeep hv1 lB l1;have HSm:=Lh (Small_any s a n c (d:Int) v1 (HI2.out.ext hv1));rw [if_pos (by have:=Hd.out;have:=HE.out;omega)] at HSm;clear hbd hlt
   go_wp2_with fail
   refine HSm.out.mono ?_;rintro e v2 ⟨rfl,qv2⟩
   go_wp2_with fail
   go_meet
   exact ⟨by rw [Hbd.out],hv1.trans qv2⟩
  ·have b1:¬ k<0:=by rw [<-Hk.out];unfold cmp3;rw [if_neg (by omega)];split<;>decide
   have hbt:t=b:=by have:=Hbc.out;omega
   have Hbt:=Lh hbt;clear hbt hlt
   go_wp2_with fail
   go_meet
   exact ⟨by rw [Hbt.out],hv1⟩
 case rest =>
 obtain ⟨rfl,hx3⟩:=hcut;obtain ⟨w3,rfl⟩:∃ w3:World,w3=wc:=⟨_,rfl⟩;have HE3:=Lh (HE2.out.trans hx3);have HN3:=Lh (HN2.out.ext hx3);have HB3:=Lh (HB2.out.ext hx3);have HZ3:=Lh (HZ2.out.ext hx3);have HI3:=Lh (HI2.out.ext hx3);clear hx3 HE2 HN2 HB2 HZ2 HI2 l0 l1 lB Hk;have Hbd:Hid (b<=d/\b<=t):=Lh (by have:=Hb.out;omega)
 have Hdv:Hid (∀ i,i<8->2 ^ b ∣ (f i).natAbs):=Lh fun i hi=>Nat.dvd_trans (Nat.pow_dvd_pow 2 Hbd.out.2) (Htd.out i hi)
 have Hodd:Hid (b=d\/∃ i,i<8/\dvN f b i % 2=1):=Lh (by
  rcases Hbc.out with ⟨_,h⟩ | ⟨_,h⟩
  ·exact Or.inl h
  ·obtain ⟨i,hi,ht⟩:=Hto.out
   exact Or.inr ⟨i,hi,dvN_odd (by rw [h];exact ht)⟩)
 have HbB:Hid (b<=1099511627776):=Lh (by have:=Hbd.out;have:=Hd.out;have:=HE.out;omega);clear Htd Hto Hbc Hb HtB
 go_upto_if 20 with fail
 go_cut [] from 20 to 27 (fun wx=>∃ (s':Int) (a':Option Addr) (n' c':Nat),Nums wx H 8 76 (dvN f b)/\Box wx (H+1) s' a' n' c'/\IsInt wx s' a' n' c' ((d:Int)-b)/\Nums wx (H+2) 9 78 (fun _=>0)/\Ext w wx)
 case first =>
  by_cases hb0:b=0
  ·subst hb0
   go_wp2_with fail
   go_meet
   exact ⟨s,a,n,c,HN3.out.congr fun i hi=>by unfold dvN;simp,HB3.out,HI3.out.cast (by omega),HZ3.out,HE3.out⟩
  have b1:(0:Int)<(b:Int):=by omega
  have HbP:=Lh (show 0<b by omega)
  have wn:IntKind.i64.wrap (-(b:Int))=-(b:Int):=by have:=HbB.out;rw [IntKind.wrap_i64];omega
  have HSh:=Lh (rowShift_any H 8 _ f (dvN f b) (-(b:Int)) w3 HN3.out (by decide) K HK.out HK1.out HF.out (fun i hi=>by
   have h1:=HF.out i hi;have h2:=dvN_abs (f:=f) (b:=b) (i:=i)
   unfold Fit at h1 ⊢;omega) (by have:=HbB.out;omega) (by have:=HbB.out;omega) (fun i hi=>dvN_shv HbP.out (Hdv.out i hi)) (HgB.out _ HE3.out) HgH.out)
  clear hb0
  go_wp2_with fail
  refine HSh.out.mono ?_;rintro e w4 ⟨rfl,hN4,hC4⟩;have HN4:=Lh (hN4.congr (f':=dvN f b) fun i hi=>by unfold shN;rw [if_pos hi]);have hlB:=HB3.out.lt;have HB4:Hid (Box w4 (H+1) s a n c):=Lh ⟨(hC4.block (H+1) (by omega) HB3.out.lt).trans HB3.out.row⟩;have HZ4:=Lh (HZ3.out.chg hC4 (by omega));have HI4:=Lh (HI3.out.keep64 hC4.keep);have HE4:=Lh (hC4.ext HE3.out (by rw [HH.out];exact Nat.le_refl _));clear hN4 hC4 HN3 HB3 HZ3 HI3 HE3 HSh wn b1 hlB;have l0:=HB4.out.c0;have l1:=HB4.out.c1;have lB:=HB4.out.lt;have HOf:=Lh (fun wx=>Of_any (b:Int) (by have:=HbB.out;omega) (by have:=HbB.out;omega) wx);have HSu:=Lh (fun (wx:World) (hx:Ext w4 wx) (ib:IsInt wx (b:Int) none 0 0 (b:Int))=>Sub_any s (b:Int) a none n c 0 0 (d:Int) (b:Int) wx (HI4.out.ext hx) ib K HK.out HFd.out (fit_small (z:=(b:Int)) (by have:=HbB.out;omega) HK1.out))
  go_upto_region 8 with fail
  have hd0:Ext w4 w4.drew:=Below.drew (Ext.refl _);refine wp_region_K 4 (fun w'=>w'.cell? ⟨H+1,0,none⟩=some (.int .i64 s)/\w'.cell? ⟨H+1,1,none⟩=some (.slice a n c)) (by kernel_rfl) ?_
  show anyK _ _ _ _ _ _ 5 #[false,false,false,false,false] _ _
  have hHeld:w4.drew.cell? ⟨H+1,0,none⟩=some (.int .i64 s)/\w4.drew.cell? ⟨H+1,1,none⟩=some (.slice a n c):=⟨cellKeep hd0 lB l0,cellKeep hd0 lB l1⟩;refine kT 0 5 (v:=?_) rfl (Or.inl ⟨by rfl,?_⟩) hHeld ?_;rotate_left 1
  ·intro w hSw
   go_simp
   try with_reducible rfl
  show anyK _ _ _ _ _ _ _ _ (Act.put _ (some 24) _) _
  simp only [Act.put,sx0,sx1,sx2];refine kT 1 5 (v:=?_) rfl (Or.inl ⟨by rfl,?_⟩) hHeld ?_;rotate_left 1
  ·intro w hSw
   go_simp
   try with_reducible rfl
  show anyK _ _ _ _ _ _ _ _ (Act.put _ (some 25) _) _
  simp only [Act.put,sx0,sx1,sx2];clear hHeld;refine anyK_one (i:=2) (by kernel_rfl) rfl (fun Kk hKk=>?_)
  go_simp
  (go_at_call 130;refine (HOf.out w4.drew).mono ?_;rintro e w5 ⟨rfl,ib5,hx5⟩)
  have he5:=hd0.trans hx5
  go_wp2_with fail
  refine hKk.out _ _ (fun _=>⟨cellKeep he5 lB l0,cellKeep he5 lB l1⟩) ?_;clear hKk Kk;simp only [sx0,sx1,sx2];refine anyK_one (i:=3) (by kernel_rfl) rfl (fun Kk hKk=>?_)
  go_simp
  (go_at_call 86;refine (HSu.out w5 he5 ib5).mono ?_;rintro e w6 ⟨s3,a3,n3,c3,rfl,hI6,hx6⟩)
  have he6:=he5.trans hx6
  go_wp2_with fail
  refine hKk.out _ _ (fun _=>⟨cellKeep he6 lB l0,cellKeep he6 lB l1⟩) ?_;clear hKk Kk;simp only [sx0,sx1,sx2];have bx:=HB4.out.ext he6;have x0:=bx.c0;have x1:=bx.c1;have g0:=bx.f0;have g1:=bx.f1;refine anyK_one (i:=4) (by kernel_rfl) rfl (fun Kk hKk=>?_);refine stepK_storeW rfl rfl _ _ rfl (H+1) 0 s3 a3 n3 c3 _ _ rfl rfl x0 x1 g0 g1 ?_;refine hKk.out _ _ (fun h=>Bool.noConfusion (show true=false from h)) ?_;clear hKk Kk;simp only [sx0,sx1,sx2];refine anyK_done (by kernel_rfl) ?_ _;have hkp:Keep64 w6 ((w6.setCell ⟨H+1,0,none⟩ (.int .i64 s3)).setCell ⟨H+1,1,none⟩ (.slice a3 n3 c3)):=Keep64.set2 (.i64 x0) (.slice x1) (notW_i64 s3) (.slice a3 n3 c3);have hP:Only (H+1) w6 ((w6.setCell ⟨H+1,0,none⟩ (.int .i64 s3)).setCell ⟨H+1,1,none⟩ (.slice a3 n3 c3)):=((Only.refl _ _).setCell _ _).setCell _ _
  have Hend:=Lh (show Nums ((w6.setCell ⟨H+1,0,none⟩ (.int .i64 s3)).setCell ⟨H+1,1,none⟩ (.slice a3 n3 c3)) H 8 76 (dvN f b)/\Box ((w6.setCell ⟨H+1,0,none⟩ (.int .i64 s3)).setCell ⟨H+1,1,none⟩ (.slice a3 n3 c3)) (H+1) s3 a3 n3 c3/\IsInt ((w6.setCell ⟨H+1,0,none⟩ (.int .i64 s3)).setCell ⟨H+1,1,none⟩ (.slice a3 n3 c3)) s3 a3 n3 c3 ((d:Int)-b)/\Nums ((w6.setCell ⟨H+1,0,none⟩ (.int .i64 s3)).setCell ⟨H+1,1,none⟩ (.slice a3 n3 c3)) (H+2) 9 78 (fun _=>0)/\Ext w ((w6.setCell ⟨H+1,0,none⟩ (.int .i64 s3)).setCell ⟨H+1,1,none⟩ (.slice a3 n3 c3)) from
   ⟨(HN4.out.ext he6).put hP (by omega) hkp,bx.own s3 a3 n3 c3,hI6.keep64 hkp,(HZ4.out.ext he6).put hP (by omega) hkp,(HE4.out.trans he6).put2 (by rw [HH.out];omega) _ _⟩)
  clear hkp hP x0 x1 g0 g1 bx hI6 hx6 he6 he5 hx5 hd0 l0 l1 lB HN4 HB4 HZ4 HI4 HE4;generalize ((w6.setCell ⟨H+1,0,none⟩ (.int .i64 s3)).setCell ⟨H+1,1,none⟩ (.slice a3 n3 c3))=V6 at *
  go_wp2_with fail
  go_meet
  exact ⟨s3,a3,n3,c3,Hend.out⟩
 case rest =>
 obtain ⟨s3,a3,n3,c3,hN,hB,hI,hZ,hE⟩:=hcut;obtain ⟨w7,rfl⟩:∃ w7:World,w7=wc:=⟨_,rfl⟩;clear HN3 HB3 HZ3 HI3 HE3;obtain ⟨cq,hrq,hcq⟩:=hN.cells;obtain ⟨l,rfl⟩:∃ l:List Value,cq=l.toArray:=⟨cq.toList,by simp⟩
 have hl:l.length=16:=by simpa using hcq.1
 match l,hl with
 | [y0,y1,y2,y3,y4,y5,y6,y7,y8,y9,y10,y11,y12,y13,y14,y15],_ =>
 have hsn:=hcq.snoc hI
 have hcat:(#[y0,y1,y2,y3,y4,y5,y6,y7,y8,y9,y10,y11,y12,y13,y14,y15]:Array Value)++#[.int .i64 s3,.slice a3 n3 c3]=#[y0,y1,y2,y3,y4,y5,y6,y7,y8,y9,y10,y11,y12,y13,y14,y15,.int .i64 s3,.slice a3 n3 c3]:=by simp
 rw [hcat] at hsn;obtain ⟨c1,hr1,hc1⟩:=hZ.cells;have hs1:=hc1.1;have hone:=hsn.one;obtain ⟨nn,ch,rr⟩:=hsn.setRow hZ;have l0:=hB.c0;have l1:=hB.c1;have hlo:=low_of (f:=f) (V:=dvN f b) (d:=d) (b:=b) Hbd.out.1 (fun i hi=>dvN_mul (Hdv.out i hi)) Hodd.out
 have Hend:=Lh (show NmA (w7.setRow (H+2) (#[y0,y1,y2,y3,y4,y5,y6,y7,y8,y9,y10,y11,y12,y13,y14,y15,.int .i64 s3,.slice a3 n3 c3])) (#[y0,y1,y2,y3,y4,y5,y6,y7,y8,y9,y10,y11,y12,y13,y14,y15,.int .i64 s3,.slice a3 n3 c3]) ⟨ext8 (dvN f b),d-b⟩ P E/\EqN ⟨ext8 (dvN f b),d-b⟩ ⟨ext8 f,d⟩/\Ext w (w7.setRow (H+2) (#[y0,y1,y2,y3,y4,y5,y6,y7,y8,y9,y10,y11,y12,y13,y14,y15,.int .i64 s3,.slice a3 n3 c3])) from
  ⟨⟨anti_ext8 (dvN f b),hlo.1,fun k=>by
    have h1:=ext8_abs (f:=dvN f b) (A:=2 ^ P-1) (fun i hi=>by have h2:=HA.out i hi;have h3:=dvN_abs (f:=f) (b:=b) (i:=i);omega) k;have:0<2 ^ P:=Nat.pow_pos (by decide)
    show (ext8 (dvN f b) k).natAbs<2 ^ P
    omega,by have:=Hd.out;show d-b<=E;omega,(hsn.keep64 ch.keep).congr fun i hi=>by
     unfold nmF
     by_cases e:i=8
     ·rw [if_pos e,if_pos e];have:=Hbd.out.1;show (d:Int)-b=((d-b:Nat):Int);omega
     ·rw [if_neg e,if_neg e]
      show _=ext8 (dvN f b) (i:Int)
      rw [ext8_at _ _ (by omega) (by omega)];rfl⟩,hlo.2,ch.ext hE (by rw [HH.out];omega)⟩)
 clear nn ch hc1 hsn hlo hcq hN hZ hI hE hB HA Hodd Hdv
 go_wp2_with (first
  | refine wpList_load_row rfl 76 _ rfl H rfl 76 _ (0,0) _ hrq Tryz.underlying76 rfl rrow_info ?_
  | refine wpList_store_row rfl 78 _ _ rfl (H+2) (#[y0,y1,y2,y3,y4,y5,y6,y7,y8,y9,y10,y11,y12,y13,y14,y15,.int .i64 s3,.slice a3 n3 c3]) rfl rfl 78 _ hr1 rnum_info hs1 hone ?_)
 refine bodyPost_ret (v:=.agg (#[y0,y1,y2,y3,y4,y5,y6,y7,y8,y9,y10,y11,y12,y13,y14,y15,.int .i64 s3,.slice a3 n3 c3])) ?_ rfl ⟨_,_,rfl,Hend.out⟩;exact results_cell_row rfl _ _ (H+2) _ _ _ _ rfl rr Tryz.underlying78 rfl rnum_info
theorem exec_load_row {P:Program} {ρ:Operand->Value} {o:Oper} {w:World} (ty:TypeId) (x:Operand) (ho:o.op=.load ty x) (g:Nat) (hx:ρ x=.pointer (some ⟨g,0,none⟩)) (t:TypeId) (cs:Array Value) (fr:Nat × Nat) (d:TypeDesc) (hg:w.heap[g]?=some (.cells cs t fr))
  (hu:P.underlying ty=some d) (hd:(match d with | .struct _ | .array _ _=>true | _=>false)=true) (hi:(P.info? ty).map (·.size)=some cs.size):(execOp ρ o).run P w=.ok (.value (.agg cs)) w:=by
 unfold execOp;simp only [ho,hx,Instr.loadAt,Instr.sureAddr,Sem.run_bind,Sem.run_pure,Result.andThen_ok,run_loadVar_row w g t ty cs fr d hg hu hd hi]
theorem stepK_storeR {ops:Array Oper} {o:Oper} {a:Act} {K:Act->World->Prop} {Q:Exit->Act->World->Prop} {E:Prop} {w:World} (hgd:o.guard=none) (hd:o.dst=none) (ty:TypeId) (p x:Operand)
  (ho:o.op=.store ty p x) (g:Nat) (cells:Array Value) (hp:a.eval p=.pointer (some ⟨g,0,none⟩)) (hx:a.eval x=.agg cells) (t:TypeId) (old:Array Value) (hg:w.heap[g]?=some (.cells old t (0,0)))
  (hi:(Tryz.prog.info? ty).map (·.size)=some cells.size) (hold:old.size=cells.size) (h1:cells.all (·.oneCell')=true) (h:K a (w.setRow g cells)) :
  if Region.wanted o (yielded ops a.tmps)=true then Oper.wp Tryz.prog o a w K Q else E:=by
 have hw:Region.wanted o (yielded ops a.tmps)=true:=by simp [Region.wanted,hgd]
 rw [if_pos hw];refine wp_store_row ty p x ho g cells hp hx t old hg hi hold h1 ?_;rw [hd];exact h
def nOf (z:Int):Nm:=⟨mono 0 z,0⟩
theorem mono_abs (k n j:Int):(mono k n j).natAbs<=n.natAbs:=by unfold mono;repeat (split);all_goals omega
theorem nOf_one:nOf 1=nOne:=by
 unfold nOf nOne;rw [mono_tr]
 congr 1
 funext k
 unfold trR;rw [Int.sub_zero]
theorem ROf_nm (s:Int) (a:Option Addr) (n c:Nat) (z:Int) (P E:Nat) (w:World) (hI:IsInt w s a n c z) (hz:z.natAbs<2 ^ P) :
  Calls Tryz.prog 139 #[.agg #[.int .i64 s,.slice a n c]] w fun e w'=>∃ cr:Array Value,e=.returned (.agg cr)/\NmA w' cr (nOf z) P E/\Ext w w':=by
 obtain ⟨H,hH⟩:∃ H,w.heap.size=H:=⟨_,rfl⟩;obtain ⟨U,hU⟩:∃ U,(w.alloc (.cells #[.int .i64 s,.slice a n c] 74)).alloc (.cells zero9 78)=U:=⟨_,rfl⟩
 have E0:Ext w U:=by rw [<-hU];exact (Ext.alloc _ _).trans (Ext.alloc _ _)
 have B0:Box U H s a n c:=by rw [<-hU,<-hH];exact (box_new w s a n c).ext (Ext.alloc _ _)
 have Z0:Nums U (H+1) 9 78 (fun _=>0):=by
  have:=(cells_zero9 (w.alloc (.cells #[.int .i64 s,.slice a n c] 74))).box 78;rw [<-hU,<-hH]
  simpa using this
 have hcl:CellsA U #[.int .i64 s,.slice a n c,.int .i64 0,.slice none 0 0,.int .i64 0,.slice none 0 0,.int .i64 0,.slice none 0 0,.int .i64 0,.slice none 0 0,.int .i64 0,.slice none 0 0,.int .i64 0,.slice none 0 0,.int .i64 0,.slice none 0 0,.int .i64 0,.slice none 0 0] 9 (fun i=>if i=0 then z else 0):=by
  refine ⟨rfl,fun i hi=>?_⟩
  by_cases e:i=0
  ·subst e;exact ⟨s,a,n,c,rfl,rfl,hI.ext E0⟩
  ·refine ⟨0,none,0,0,?_,?_,by show IsInt U 0 none 0 0 (if i=0 then z else 0);rw [if_neg e];exact isInt_zero U⟩
   all_goals
    have e:i=1\/i=2\/i=3\/i=4\/i=5\/i=6\/i=7\/i=8:=by omega
    rcases e with rfl | rfl | rfl | rfl | rfl | rfl | rfl | rfl<;>rfl
 have l0:=B0.c0;have l1:=B0.c1;obtain ⟨c1,hr1,hc1⟩:=Z0.cells;have hs1:=hc1.1;have hone:=hcl.one;obtain ⟨nn,ch,rr⟩:=hcl.setRow Z0
 have Hend:=Lh (show NmA (U.setRow (H+1) #[.int .i64 s,.slice a n c,.int .i64 0,.slice none 0 0,.int .i64 0,.slice none 0 0,.int .i64 0,.slice none 0 0,.int .i64 0,.slice none 0 0,.int .i64 0,.slice none 0 0,.int .i64 0,.slice none 0 0,.int .i64 0,.slice none 0 0,.int .i64 0,.slice none 0 0]) #[.int .i64 s,.slice a n c,.int .i64 0,.slice none 0 0,.int .i64 0,.slice none 0 0,.int .i64 0,.slice none 0 0,.int .i64 0,.slice none 0 0,.int .i64 0,.slice none 0 0,.int .i64 0,.slice none 0 0,.int .i64 0,.slice none 0 0,.int .i64 0,.slice none 0 0] (nOf z) P E/\Ext w (U.setRow (H+1) #[.int .i64 s,.slice a n c,.int .i64 0,.slice none 0 0,.int .i64 0,.slice none 0 0,.int .i64 0,.slice none 0 0,.int .i64 0,.slice none 0 0,.int .i64 0,.slice none 0 0,.int .i64 0,.slice none 0 0,.int .i64 0,.slice none 0 0,.int .i64 0,.slice none 0 0]) from
  ⟨⟨anti_mono 0 z,Or.inl rfl,fun k=>Nat.lt_of_le_of_lt (mono_abs 0 z k) hz,Nat.zero_le _,(hcl.keep64 ch.keep).congr fun i hi=>by
   show (if i=0 then z else 0)=if i=8 then ((0:Nat):Int) else mono 0 z i
   unfold mono
   repeat (split)
   all_goals omega⟩,ch.ext E0 (by rw [hH];omega)⟩)
 have HU:=Lh hU;have HH:=Lh hH;clear hU hH nn ch hc1 hcl Z0 B0 E0 hI
 go_enter Tryz.func139,Tryz.ntmps139
 go_upto_region 1 with fail
 rw [HU.out,HH.out];clear HU HH
 go_wp2_with (refine wpList_store_row rfl 78 _ _ rfl (H+1) #[.int .i64 s,.slice a n c,.int .i64 0,.slice none 0 0,.int .i64 0,.slice none 0 0,.int .i64 0,.slice none 0 0,.int .i64 0,.slice none 0 0,.int .i64 0,.slice none 0 0,.int .i64 0,.slice none 0 0,.int .i64 0,.slice none 0 0,.int .i64 0,.slice none 0 0] rfl rfl 78 _ hr1 rnum_info hs1 hone ?_)
 refine bodyPost_ret (v:=.agg #[.int .i64 s,.slice a n c,.int .i64 0,.slice none 0 0,.int .i64 0,.slice none 0 0,.int .i64 0,.slice none 0 0,.int .i64 0,.slice none 0 0,.int .i64 0,.slice none 0 0,.int .i64 0,.slice none 0 0,.int .i64 0,.slice none 0 0,.int .i64 0,.slice none 0 0]) ?_ rfl ⟨_,rfl,Hend.out⟩;exact results_cell_row rfl _ _ (H+1) _ _ _ _ rfl rr Tryz.underlying78 rfl rnum_info
variable {Qc:Nat->Prop}
open Go.RowKit
theorem QZero_any (cs:Array Value) (f:Nat->Int) (e:Int) (w:World) (h:ZCs Qc w cs f e) (B:Bool) (hB:B=true↔zeroN f) :
  Calls Tryz.prog 37 #[.agg cs] w fun r w'=>r=.returned (.bool B)/\Ext w w':=by
 have h0:=h.box;have E0:=Ext.alloc w (.cells cs 48);obtain ⟨H,hH⟩:∃ H,w.heap.size=H:=⟨_,rfl⟩;obtain ⟨U,hU⟩:∃ U,w.alloc (.cells cs 48)=U:=⟨_,rfl⟩;rw [hU,hH] at h0;rw [hU] at E0;have HV:=Lh h0;have HE:=Lh E0;have HB:=Lh hB;have HU:=Lh hU;have HH:=Lh hH;clear h hB h0 E0 hU hH
 go_enter Tryz.func37,Tryz.ntmps37
 go_wp2_with fail
 rw [HU.out,HH.out];clear HU
 go_loopg [3] 8 (fun kk s3 wr=>∃ j:Nat,s3=.int .i64 (j:Int)/\j<=8/\8-j=kk/\(∀ i,i<j->f i=0)/\ZVar Qc wr H f e/\Ext w wr)
 case atStart=>exact ⟨0,rfl,by omega,by omega,fun i hi=>by omega,HV.out,HE.out⟩
 case round =>
  clear HV HE;obtain ⟨j,rfl,hj,hjk,hz,hV,hE⟩:=hrel;obtain ⟨wo,rfl⟩:∃ wo:World,wo=wr:=⟨_,rfl⟩;have Hz:=Lh hz;have HV:=Lh hV;have HE:=Lh hE;have Hjk:=Lh hjk;clear hz hV hE hjk
  by_cases hj8:j=8
  ·subst hj8
   have HBt:=Lh (HB.out.2 Hz.out)
   go_wp2_with fail
   go_ret
   exact ⟨congrArg (fun b=>Ending.returned (Value.bool b)) HBt.out.symm,HE.out⟩
  have hlt:j<8:=by omega
  have q1:(j:Int)<8:=by omega
  have q0:(0:Int)<=(j:Int):=by omega
  have wk:IntKind.i64.wrap ((j:Int)+1)=((j+1:Nat):Int):=by rw [IntKind.wrap_i64];omega
  have Hj1:=Lh (show j+1<=8 by omega);have Hlt:=Lh hlt;obtain ⟨b,a,n,c,y0,y1,_,_,hI⟩:=HV.out.get j hlt;have hiff:=hI.nil_iff;clear hI hj8 hj hlt
  by_cases hn:n=0
  ·have q2:¬ (0:Int)<(n:Int):=by omega
   have Hz':=Lh (show ∀ i,i<j+1->f i=0 from fun i hi=>by
    by_cases e:i=j
    ·rw [e];exact hiff.1 hn
    ·exact Hz.out i (by omega))
   clear hn hiff
   go_wp2_with fail
   go_roundg (8-(j+1))
   case measure=>have:=Hjk.out;have:=Hj1.out;omega
   case rel=>exact ⟨j+1,rfl,Hj1.out,rfl,Hz'.out,HV.out,HE.out⟩
  ·have q2:(0:Int)<(n:Int):=by omega
   have HBf:=Lh (show B=false by
    cases hb:B with
    | false=>rfl
    | true=>exact absurd (hiff.2 (HB.out.1 hb j Hlt.out)) hn)
   clear hn hiff
   go_wp2_with fail
   go_ret
   exact ⟨congrArg (fun b=>Ending.returned (Value.bool b)) HBf.out.symm,HE.out⟩
def ngN (f:Nat->Int) (j:Nat):Nat->Int:=fun i=>if i<j then -f i else f i
theorem ngN_step (f:Nat->Int) (j i:Nat):updN (ngN f j) j (-f j) i=ngN f (j+1) i:=by
 unfold updN ngN
 by_cases e:i=j
 ·subst e;simp
 ·rw [if_neg e]
  by_cases h:i<j
  ·rw [if_pos h,if_pos (by omega)]
  ·rw [if_neg h,if_neg (by omega)]
theorem QNeg_nm (ca:Array Value) (x:Nm) (P E:Nat) (w:World) (h:RmA Qc w ca x P E) (hP:P<=400000) :
  Calls Tryz.prog 69 #[.agg ca] w fun r w'=>∃ cr:Array Value,r=.returned (.agg cr)/\RmA Qc w' cr (nNeg x) P E/\Ext w w':=by
 obtain ⟨f,hf⟩:∃ f:Nat->Int,(fun i:Nat=>x.a i)=f:=⟨_,rfl⟩;have hv:=h.val;rw [hf] at hv
 have hff:∀ i:Nat,f i=x.a i:=fun i=>by rw [<-hf]
 obtain ⟨H,hH⟩:∃ H,w.heap.size=H:=⟨_,rfl⟩;obtain ⟨U,hU⟩:∃ U,(w.alloc (.cells ca 48)).alloc (.cells zeroR 48)=U:=⟨_,rfl⟩
 have E0:Ext w U:=by rw [<-hU];exact (Ext.alloc _ _).trans (Ext.alloc _ _)
 have V0:ZVar Qc U H (ngN f 0) (x.e:Int):=by rw [<-hU,<-hH];exact (hv.box.ext (Ext.alloc _ _)).congr fun i _=>by simp [ngN]
 have Z0:ZVar Qc U (H+1) (fun _=>0) 0:=by
  have:=(zcs_zero (Qc:=Qc) (w.alloc (.cells ca 48))).box;rw [<-hU,<-hH]
  simpa using this
 have HU:=Lh hU;have HH:=Lh hH;have Hx:=Lh h;have Hff:=Lh hff;have HP:=Lh hP;have Hst:=Lh (show ZVar Qc U H (ngN f 0) (x.e:Int)/\ZVar Qc U (H+1) (fun _=>0) 0/\Ext w U from ⟨V0,Z0,E0⟩);clear hU hH V0 Z0 E0 h hf hv hff hP
 go_enter Tryz.func69,Tryz.ntmps69
 go_wp2_with fail
 rw [HU.out,HH.out];clear HU
 go_loopg [3] 8 (fun kk s3 wr=>∃ j:Nat,s3=.int .i64 (j:Int)/\j<=8/\8-j=kk/\ZVar Qc wr H (ngN f j) (x.e:Int)/\ZVar Qc wr (H+1) (fun _=>0) 0/\Ext w wr)
 case atStart=>exact ⟨0,rfl,by omega,by omega,Hst.out⟩
 case round =>
  clear Hst;obtain ⟨j,rfl,hj,hjk,hV,hZ,hE⟩:=hrel;obtain ⟨wo,rfl⟩:∃ wo:World,wo=wr:=⟨_,rfl⟩
  by_cases hj8:j=8
  ·subst hj8
   obtain ⟨cr,hr,hc⟩:=hV
   have hinf:(Tryz.prog.info? 48).map (·.size)=some cr.size:=by rw [hc.1];exact zR_info
   obtain ⟨c1,hr1,hs1,hone,_,rr,hzz,hE'⟩:=fin_rm hc hZ hE (by rw [HH.out];omega)
   have Hend:=Lh (show RmA Qc (wo.setRow (H+1) cr) cr (nNeg x) P E/\Ext w (wo.setRow (H+1) cr) from by
    have hx:=Hx.out;refine ⟨⟨hx.anti.neg,?_,fun k=>?_,hx.down,hzz.congr fun i hi=>?_⟩,hE'⟩
    ·rw [<-nNeg_tr hx.anti];exact hx.low.tr 8
    ·show (-x.a k).natAbs<2 ^ P
     rw [Int.natAbs_neg];exact hx.abs k
    ·unfold ngN;rw [if_pos hi,Hff.out];rfl)
   clear hc hZ hE hzz hE' Hx Hff
   go_wp2_with (first
    | refine wpList_load_row rfl 48 _ rfl H rfl 48 _ (0,0) _ hr Tryz.underlying48 rfl hinf ?_
    | refine wpList_store_row rfl 48 _ _ rfl (H+1) cr rfl rfl 48 _ hr1 hinf hs1 hone ?_)
   refine bodyPost_ret (v:=.agg cr) ?_ rfl ⟨_,rfl,Hend.out⟩;exact results_cell_row rfl _ _ (H+1) _ _ _ _ rfl rr Tryz.underlying48 rfl hinf
  have hlt:j<8:=by omega
  have q1:(j:Int)<8:=by omega
  have q0:(0:Int)<=(j:Int):=by omega
  have wk:IntKind.i64.wrap ((j:Int)+1)=((j+1:Nat):Int):=by rw [IntKind.wrap_i64];omega
  have Hj1:=Lh (show j+1<=8 by omega);have Hlt:=Lh hlt;obtain ⟨b,a,n,c,y0,y1,_,_,hI⟩:=hV.get j hlt;have hI2:=hI.cast (show ngN f j j=f j by simp [ngN]);have hn:n<=P:=hI2.bits (by rw [Hff.out];exact Hx.out.abs j);have HNe:=Lh (ZNeg_any b a n c (f j) wo hI2 (by have:=HP.out;omega));have HV:=Lh hV;have HZ:=Lh hZ;have HE:=Lh hE;have Hjk:=Lh hjk;clear hI hI2 hV hZ hE hjk hj8 hj hlt hn
  go_wp2_with fail
  refine HNe.out.mono ?_;rintro r w2 ⟨b2,a2,n2,c2,rfl,hI2,_,hx2⟩;have hV2:=HV.out.ext hx2;obtain ⟨_,_,_,_,z0,z1,fz0,fz1,_⟩:=hV2.get j Hlt.out;obtain ⟨hs,hch⟩:=hV2.set j Hlt.out hI2
  have Hend:=Lh (show ZVar Qc ((w2.setCell ⟨H,j*2,none⟩ (.bool b2)).setCell ⟨H,j*2+1,none⟩ (.slice a2 n2 c2)) H (ngN f (j+1)) (x.e:Int)/\ZVar Qc ((w2.setCell ⟨H,j*2,none⟩ (.bool b2)).setCell ⟨H,j*2+1,none⟩ (.slice a2 n2 c2)) (H+1) (fun _=>0) 0/\Ext w ((w2.setCell ⟨H,j*2,none⟩ (.bool b2)).setCell ⟨H,j*2+1,none⟩ (.slice a2 n2 c2)) from
   ⟨hs.congr fun i _=>ngN_step f j i,(HZ.out.ext hx2).chz hch hV2.no (by omega),hch.ext (HE.out.trans hx2) (by rw [HH.out];exact Nat.le_refl _)⟩)
  clear hs hch hV2 hI2 hx2 HNe HV HZ HE y0 y1
  go_wp2_with fail
  clear z0 z1 fz0 fz1;generalize (w2.setCell ⟨H,j*2,none⟩ (.bool b2)).setCell ⟨H,j*2+1,none⟩ (.slice a2 n2 c2)=V at *
  go_roundg (8-(j+1))
  case measure=>have:=Hjk.out;have:=Hj1.out;omega
  case rel=>exact ⟨j+1,rfl,Hj1.out,rfl,Hend.out⟩
theorem QOf_nm (b:Bool) (a:Option Addr) (n c:Nat) (z:Int) (P E:Nat) (w:World) (hI:IsZ Qc w b a n c z) (hz:z.natAbs<2 ^ P) :
  Calls Tryz.prog 64 #[.agg #[.bool b,.slice a n c]] w fun r w'=>∃ cr:Array Value,r=.returned (.agg cr)/\RmA Qc w' cr (nOf z) P E/\Ext w w':=by
 obtain ⟨H,hH⟩:∃ H,w.heap.size=H:=⟨_,rfl⟩;obtain ⟨U,hU⟩:∃ U,(((w.alloc (.cells #[.bool b,.slice a n c] 45)).alloc (.cells zeroR 48)).alloc (.cells zeroR 48))=U:=⟨_,rfl⟩
 have E0:Ext w U:=by rw [<-hU];exact ((Ext.alloc _ _).trans (Ext.alloc _ _)).trans (Ext.alloc _ _)
 have B0:ZBx U H b a n c:=by
  have:ZBx (w.alloc (.cells #[.bool b,.slice a n c] 45)) H b a n c:=⟨by rw [<-hH];exact heap_alloc_new w _⟩;rw [<-hU];exact this.ext ((Ext.alloc _ _).trans (Ext.alloc _ _))
 have Z1:ZVar Qc U (H+1) (fun _=>0) 0:=by
  have:=((zcs_zero (Qc:=Qc) (w.alloc (.cells #[.bool b,.slice a n c] 45))).box).ext (Ext.alloc _ (.cells zeroR 48));rw [<-hU,<-hH]
  simpa using this
 have Z2:ZVar Qc U (H+2) (fun _=>0) 0:=by
  have:=(zcs_zero (Qc:=Qc) ((w.alloc (.cells #[.bool b,.slice a n c] 45)).alloc (.cells zeroR 48))).box;rw [<-hU,<-hH]
  simpa using this
 have l0:U.cell? ⟨H,0,none⟩=some (.bool b):=by rw [cell_of_row _ _ _ _ _ _ B0.row];rfl
 have l1:U.cell? ⟨H,1,none⟩=some (.slice a n c):=by rw [cell_of_row _ _ _ _ _ _ B0.row];rfl
 obtain ⟨_,_,_,_,y0,y1,fy0,fy1,_⟩:=Z2.get 0 (by decide);obtain ⟨hs,hch⟩:=Z2.set 0 (by decide) (hI.ext E0);have Z1':=Z1.chz hch Z2.no (by omega);have E1:=hch.ext E0 (by rw [hH];omega);obtain ⟨V,hV⟩:∃ V,(U.setCell ⟨H+2,0*2,none⟩ (.bool b)).setCell ⟨H+2,0*2+1,none⟩ (.slice a n c)=V:=⟨_,rfl⟩;rw [hV] at hs Z1' E1;simp only [Nat.zero_mul,Nat.zero_add] at hV y0 y1 fy0 fy1;obtain ⟨cr,hr,hc⟩:=hs
 have hinf:(Tryz.prog.info? 48).map (·.size)=some cr.size:=by rw [hc.1];exact zR_info
 obtain ⟨c1,hr1,hs1,hone,_,rr,hzz,hE'⟩:=fin_rm hc Z1' E1 (by rw [hH];omega)
 have Hend:=Lh (show RmA Qc (V.setRow (H+1) cr) cr (nOf z) P E/\Ext w (V.setRow (H+1) cr) from
  ⟨⟨anti_mono 0 z,Or.inl rfl,fun k=>Nat.lt_of_le_of_lt (mono_abs 0 z k) hz,Nat.zero_le _,hzz.congr fun i hi=>by
   show updN (fun _=>0) 0 z i=mono 0 z i
   by_cases e:i=0
   ·subst e;simp [updN,mono]
   ·unfold updN mono
    rw [if_neg e,if_neg (show ¬ ((i:Int)-0) % 16=0 by omega),if_neg (show ¬ ((i:Int)-0) % 16=8 by omega)]⟩,hE'⟩)
 have HU:=Lh hU;have HH:=Lh hH;have HV:=Lh hV;clear hU hH hV hc Z1 Z2 Z1' E0 E1 hzz hE' hch B0 hI
 go_enter Tryz.func64,Tryz.ntmps64
 go_upto_region 2 with fail
 rw [HU.out,HH.out];clear HU HH
 go_upto_region 3 with fail
 rw [HV.out];clear HV l0 l1 y0 y1 fy0 fy1
 go_wp2_with (first
  | refine wpList_load_row rfl 48 _ rfl (H+2) rfl 48 _ (0,0) _ hr Tryz.underlying48 rfl hinf ?_
  | refine wpList_store_row rfl 48 _ _ rfl (H+1) cr rfl rfl 48 _ hr1 hinf hs1 hone ?_)
 refine bodyPost_ret (v:=.agg cr) ?_ rfl ⟨_,rfl,Hend.out⟩;exact results_cell_row rfl _ _ (H+1) _ _ _ _ rfl rr Tryz.underlying48 rfl hinf
variable {Qc:Nat->Prop}
open Go.RowKit
def trzN (f:Nat->Int) (k:Int):Nat->Nat->Int
 | 0=>fun _=>0
 | n+1=>updN (trzN f k n) ((n+k) % 8).toNat (sgK (n+k) (f n))
theorem trzN_at (f:Nat->Int) (k:Int) (p:Nat) (hp:p<8):∀ n,n<=8->trzN f k n p=if ((p-k) % 8).toNat<n then sgK (((p-k) % 8).toNat+k) (f ((p-k) % 8).toNat) else 0
 | 0,_=>by simp [trzN]
 | n+1,hn=>by
  have ih:=trzN_at f k p hp n (by omega);simp only [trzN,updN]
  by_cases e:p=((n+k) % 8).toNat
  ·have h1:((p-k) % 8).toNat=n:=by omega
   rw [if_pos e,h1,if_pos (by omega)]
  ·have h1:((p-k) % 8).toNat≠n:=by omega
   rw [if_neg e,ih]
   by_cases h2:((p-k) % 8).toNat<n
   ·rw [if_pos h2,if_pos (by omega)]
   ·rw [if_neg h2,if_neg (by omega)]
theorem ext8_trzN (f:Nat->Int) (k:Int):ext8 (trzN f k 8)=trR k (ext8 f):=by
 refine (anti_ext8 _).ext ((anti_ext8 f).tr k) fun j h0 h1=>?_
 rw [ext8_at _ j h0 h1,trzN_at f k j.toNat (by omega) 8 (Nat.le_refl _)]
 have hj:((j.toNat:Nat):Int)=j:=by omega
 rw [hj,if_pos (by omega)];unfold trR ext8 sgK
 by_cases h:(j-k) % 16<8
 ·rw [if_pos h,if_pos (by omega)]
 ·rw [if_neg h,if_neg (by omega)]
theorem trzN_mod (f:Nat->Int) (k k':Int) (h:k % 16=k' % 16):∀ n,trzN f k n=trzN f k' n
 | 0=>rfl
 | n+1=>by
  have e1:((n:Int)+k) % 8=((n:Int)+k') % 8:=by omega
  have e2:((n:Int)+k) % 16=((n:Int)+k') % 16:=by omega
  simp only [trzN,sgK];rw [trzN_mod f k k' h n,e1,e2]
theorem tmod16 (k:Int):(k.tmod 16<0->k.tmod 16+16=k % 16)/\(¬ k.tmod 16<0->k.tmod 16=k % 16)/\-16<k.tmod 16/\k.tmod 16<16:=by
 have h1:=Int.tmod_eq_emod (a:=k) (b:=16);have h2:(0:Int)<=k % 16/\k % 16<16:=⟨Int.emod_nonneg _ (by decide),Int.emod_lt_of_pos _ (by decide)⟩
 split at h1<;>(simp at h1;omega)
structure RmW (Qc:Nat->Prop) (w:World) (cs:Array Value) (x:Nm) (P E:Nat):Prop where
 anti:Anti x.a
 abs:∀ k,(x.a k).natAbs<2 ^ P
 down:x.e<=E
 val:ZCs Qc w cs (fun i=>x.a i) (x.e:Int)
theorem RmA.w {w:World} {cs:Array Value} {x:Nm} {P E:Nat} (h:RmA Qc w cs x P E):RmW Qc w cs x P E:=⟨h.anti,h.abs,h.down,h.val⟩
theorem RmW.a {w:World} {cs:Array Value} {x:Nm} {P E:Nat} (h:RmW Qc w cs x P E) (hl:Low x):RmA Qc w cs x P E:=⟨h.anti,hl,h.abs,h.down,h.val⟩
theorem RmW.ext {w w':World} {cs:Array Value} {x:Nm} {P E:Nat} (h:RmW Qc w cs x P E) (k:Ext w w'):RmW Qc w' cs x P E:=⟨h.anti,h.abs,h.down,h.val.ext k⟩
theorem RmW.info {w:World} {cs:Array Value} {x:Nm} {P E:Nat} (h:RmW Qc w cs x P E):(Tryz.prog.info? 48).map (·.size)=some cs.size:=by rw [h.val.1];exact zR_info
theorem RmW.le {w:World} {cs:Array Value} {x:Nm} {P E P' E':Nat} (h:RmW Qc w cs x P E) (hP:P<=P') (hE:E<=E'):RmW Qc w cs x P' E' :=
 ⟨h.anti,fun k=>Nat.lt_of_lt_of_le (h.abs k) (Nat.pow_le_pow_right (by decide) hP),Nat.le_trans h.down hE,h.val⟩
theorem QTurn_w (ca:Array Value) (x:Nm) (P E:Nat) (k:Int) (w:World) (h:RmW Qc w ca x P E) (hP:P<=400000) :
  Calls Tryz.prog 67 #[.agg ca,.int .i64 k] w fun r w'=>∃ cr:Array Value,r=.returned (.agg cr)/\RmW Qc w' cr (nTr k x) P E/\Ext w w':=by
 obtain ⟨f,hf⟩:∃ f:Nat->Int,(fun i:Nat=>x.a i)=f:=⟨_,rfl⟩;have hv:=h.val;rw [hf] at hv
 have hff:∀ i:Nat,f i=x.a i:=fun i=>by rw [<-hf]
 obtain ⟨kk0,hkk⟩:∃ kk0:Nat,k % 16=(kk0:Int):=⟨(k % 16).toNat,by omega⟩;obtain ⟨r0,hr0⟩:∃ r0,k.tmod 16=r0:=⟨_,rfl⟩;have ht:=tmod16 k;rw [hr0,hkk] at ht;obtain ⟨H,hH⟩:∃ H,w.heap.size=H:=⟨_,rfl⟩;obtain ⟨U,hU⟩:∃ U,(w.alloc (.cells ca 48)).alloc (.cells zeroR 48)=U:=⟨_,rfl⟩
 have E0:Ext w U:=by rw [<-hU];exact (Ext.alloc _ _).trans (Ext.alloc _ _)
 have V0:ZVar Qc U H f (x.e:Int):=by rw [<-hU,<-hH];exact hv.box.ext (Ext.alloc _ _)
 have Z0:ZVar Qc U (H+1) (fun _=>0) 0:=by
  have:=(zcs_zero (Qc:=Qc) (w.alloc (.cells ca 48))).box;rw [<-hU,<-hH]
  simpa using this
 have sU:U.heap.size=H+2:=by rw [<-hU,<-hH];simp
 have HU:=Lh hU;have HH:=Lh hH;have Hx:=Lh h;have Hff:=Lh hff;have HP:=Lh hP;have HV0:=Lh V0;have HZ0:=Lh Z0;have HE0:=Lh E0;have HsU:=Lh sU;have Ht:=Lh ht;have Hkk:=Lh hkk;clear hU hH V0 Z0 E0 h hf hv hff hP sU ht hkk
 go_enter Tryz.func67,Tryz.ntmps67
 go_upto_region 1 with fail
 rw [HU.out,HH.out];clear HU
 go_upto_if 11 with fail
 go_cut [1] from 11 to 13 (fun s1 wx=>s1=.int .i64 (kk0:Int)/\wx=U)
 case first =>
  by_cases hneg:r0<0
  ·have wk:IntKind.i64.wrap (r0+16)=(kk0:Int):=by have:=Ht.out;rw [IntKind.wrap_i64];omega
   go_wp2_with fail
   go_meet
   exact ⟨rfl,rfl⟩
  ·have Hk0:=Lh (show r0=(kk0:Int) from Ht.out.2.1 hneg)
   go_wp2_with fail
   go_meet
   exact ⟨by rw [Hk0.out],rfl⟩
 case rest =>
 obtain ⟨rfl,rfl⟩:=hcut;clear hr0;obtain ⟨U,rfl⟩:∃ U:World,U=wc:=⟨_,rfl⟩;have eA:=Ext.alloc U (.cells zeroR 48);have O0:=(zcs_zero (Qc:=Qc) U).box;rw [HsU.out] at O0;obtain ⟨U2,hU2⟩:∃ U2,U.alloc (.cells zeroR 48)=U2:=⟨_,rfl⟩;rw [hU2] at eA O0;have V2:=HV0.out.ext eA;have Z2:=HZ0.out.ext eA;have x16:=V2.gete.1;have y16:=O0.gete.1;have g16:=O0.gete.2;obtain ⟨hs,hch⟩:=O0.sete (x.e:Int)
 have Hst:=Lh (show ZVar Qc (U2.setCell ⟨H+2,16,none⟩ (.int .i64 (x.e:Int))) (H+2) (trzN f kk0 0) (x.e:Int)/\ZVar Qc (U2.setCell ⟨H+2,16,none⟩ (.int .i64 (x.e:Int))) H f (x.e:Int)/\ZVar Qc (U2.setCell ⟨H+2,16,none⟩ (.int .i64 (x.e:Int))) (H+1) (fun _=>0) 0/\Ext w (U2.setCell ⟨H+2,16,none⟩ (.int .i64 (x.e:Int))) from
  ⟨hs,V2.chz hch O0.no (by omega),Z2.chz hch O0.no (by omega),hch.ext (HE0.out.trans eA) (by rw [HH.out];omega)⟩)
 have HU2:=Lh hU2;clear hs hch V2 Z2 O0 eA hU2 HV0 HZ0 HE0
 go_upto_region 5 with fail
 rw [HU2.out]
 try rw [HsU.out]
 clear HU2
 go_wp2_with fail
 clear x16 y16 g16;generalize U2.setCell ⟨H+2,16,none⟩ (.int .i64 (x.e:Int))=V at *
 go_loopg [6,7] 8 (fun kk s6 s7 wr=>∃ j:Nat,s6=.int .i64 (j:Int)/\j<=8/\8-j=kk/\ZVar Qc wr (H+2) (trzN f kk0 j) (x.e:Int)/\ZVar Qc wr H f (x.e:Int)/\ZVar Qc wr (H+1) (fun _=>0) 0/\Ext w wr)
 case atStart=>exact ⟨0,rfl,by omega,by omega,Hst.out⟩
 case round =>
  clear Hst;obtain ⟨j,rfl,hj,hjk,hV,hA,hZ,hE⟩:=hrel;obtain ⟨wo,rfl⟩:∃ wo:World,wo=wr:=⟨_,rfl⟩
  by_cases hj8:j=8
  ·subst hj8
   obtain ⟨cr,hr,hc⟩:=hV
   have hinf:(Tryz.prog.info? 48).map (·.size)=some cr.size:=by rw [hc.1];exact zR_info
   obtain ⟨c1,hr1,hs1,hone,_,rr,hzz,hE'⟩:=fin_rm hc hZ hE (by rw [HH.out];omega)
   have Hend:=Lh (show RmW Qc (wo.setRow (H+1) cr) cr (nTr k x) P E/\Ext w (wo.setRow (H+1) cr) from by
    have hx:=Hx.out;refine ⟨⟨hx.anti.tr k,fun i=>hx.abs (i-k),hx.down,hzz.congr fun i hi=>?_⟩,hE'⟩;rw [trzN_mod f kk0 k (by have:=Hkk.out;omega)];have h2:=congrFun (ext8_trzN f k) (i:Int);rw [ext8_at _ _ (by omega) (by omega)] at h2
    have h3:ext8 f=x.a:=by rw [<-ext8_of hx.anti];exact ext8_congr fun i _=>Hff.out i
    rw [h3] at h2
    exact h2)
   clear hc hZ hE hzz hE' hA
   go_wp2_with (first
    | refine wpList_load_row rfl 48 _ rfl (H+2) rfl 48 _ (0,0) _ hr Tryz.underlying48 rfl hinf ?_
    | refine wpList_store_row rfl 48 _ _ rfl (H+1) cr rfl rfl 48 _ hr1 hinf hs1 hone ?_)
   refine bodyPost_ret (v:=.agg cr) ?_ rfl ⟨_,rfl,Hend.out⟩;exact results_cell_row rfl _ _ (H+1) _ _ _ _ rfl rr Tryz.underlying48 rfl hinf
  have hlt:j<8:=by omega
  have q1:(j:Int)<8:=by omega
  have q0:(0:Int)<=(j:Int):=by omega
  have wk:IntKind.i64.wrap ((j:Int)+1)=((j+1:Nat):Int):=by rw [IntKind.wrap_i64];omega
  have hk16:kk0<16:=by have:=Hkk.out;omega
  have Hj1:=Lh (show j+1<=8 by omega);obtain ⟨jk,hjkk⟩:∃ jk:Nat,j+kk0=jk:=⟨_,rfl⟩
  have wjk:IntKind.i64.wrap ((j:Int)+(kk0:Int))=(jk:Int):=by rw [IntKind.wrap_i64];omega
  obtain ⟨t,ht⟩:∃ t:Nat,jk % 16=t:=⟨_,rfl⟩
  have tm:(jk:Int).tmod 16=(t:Int):=by rw [Int.tmod_eq_emod_of_nonneg (by omega)];omega
  obtain ⟨b,a,n,c,y0,y1,_,_,hI⟩:=hA.get j hlt;have hn:n<=P:=hI.bits (by rw [Hff.out];exact Hx.out.abs j);have HV:=Lh hV;have HA:=Lh hA;have HZ:=Lh hZ;have HE:=Lh hE;have Hjk:=Lh hjk;have HI:=Lh hI;clear hV hA hZ hE hjk hI hj8 hj
  by_cases ht8:t<8
  ·have q8:(t:Int)<8:=by omega
   have q9:(0:Int)<=(t:Int):=by omega
   obtain ⟨q,rfl⟩:∃ q,q=t:=⟨_,rfl⟩;obtain ⟨_,_,_,_,z0,z1,fz0,fz1,_⟩:=HV.out.get q ht8;obtain ⟨hs,hch⟩:=HV.out.set q ht8 HI.out
   have Hstep:=Lh (show ∀ i,updN (trzN f kk0 j) q (f j) i=trzN f kk0 (j+1) i from fun i=>by
    simp only [trzN]
    rw [show (((j:Int)+(kk0:Int)) % 8).toNat=q by omega,show sgK ((j:Int)+(kk0:Int)) (f j)=f j by unfold sgK;rw [if_pos (by omega)]])
   have Hend:=Lh (show ZVar Qc ((wo.setCell ⟨H+2,q*2,none⟩ (.bool b)).setCell ⟨H+2,q*2+1,none⟩ (.slice a n c)) (H+2) (trzN f kk0 (j+1)) (x.e:Int)/\ZVar Qc ((wo.setCell ⟨H+2,q*2,none⟩ (.bool b)).setCell ⟨H+2,q*2+1,none⟩ (.slice a n c)) H f (x.e:Int)/\ZVar Qc ((wo.setCell ⟨H+2,q*2,none⟩ (.bool b)).setCell ⟨H+2,q*2+1,none⟩ (.slice a n c)) (H+1) (fun _=>0) 0/\Ext w ((wo.setCell ⟨H+2,q*2,none⟩ (.bool b)).setCell ⟨H+2,q*2+1,none⟩ (.slice a n c)) from
    ⟨hs.congr fun i _=>Hstep.out i,HA.out.chz hch HV.out.no (by omega),HZ.out.chz hch HV.out.no (by omega),hch.ext HE.out (by rw [HH.out];omega)⟩)
   clear hs hch HV HA HZ HE HI hn hk16 hjkk ht ht8
   go_wp2_with fail
   clear z0 z1 fz0 fz1 y0 y1;generalize ((wo.setCell ⟨H+2,q*2,none⟩ (.bool b)).setCell ⟨H+2,q*2+1,none⟩ (.slice a n c))=V at *
   go_roundg (8-(j+1))
   case measure=>have:=Hjk.out;have:=Hj1.out;omega
   case rel=>exact ⟨j+1,rfl,Hj1.out,rfl,Hend.out⟩
  ·have q8:¬ (t:Int)<8:=by omega
   obtain ⟨q,hq⟩:∃ q:Nat,t=q+8:=⟨t-8,by omega⟩
   have wq:IntKind.i64.wrap ((t:Int)-8)=(q:Int):=by rw [IntKind.wrap_i64];omega
   have hq8:q<8:=by omega
   have q9:(0:Int)<=(q:Int):=by omega
   have q10:(q:Int)<8:=by omega
   have HNe:=Lh (ZNeg_any b a n c (f j) wo HI.out (by have:=HP.out;omega))
   have Hstep:=Lh (show ∀ i,updN (trzN f kk0 j) q (-f j) i=trzN f kk0 (j+1) i from fun i=>by
    simp only [trzN]
    rw [show (((j:Int)+(kk0:Int)) % 8).toNat=q by omega,show sgK ((j:Int)+(kk0:Int)) (f j)=-f j by unfold sgK;rw [if_neg (by omega)]])
   have Hq8:=Lh hq8;clear hn hk16 hjkk ht ht8 hq hq8
   go_wp2_with fail
   refine HNe.out.mono ?_;rintro r w2 ⟨b2,a2,n2,c2,rfl,hI2,_,hx2⟩;have hV2:=HV.out.ext hx2;obtain ⟨_,_,_,_,z0,z1,fz0,fz1,_⟩:=hV2.get q Hq8.out;obtain ⟨hs,hch⟩:=hV2.set q Hq8.out hI2
   have Hend:=Lh (show ZVar Qc ((w2.setCell ⟨H+2,q*2,none⟩ (.bool b2)).setCell ⟨H+2,q*2+1,none⟩ (.slice a2 n2 c2)) (H+2) (trzN f kk0 (j+1)) (x.e:Int)/\ZVar Qc ((w2.setCell ⟨H+2,q*2,none⟩ (.bool b2)).setCell ⟨H+2,q*2+1,none⟩ (.slice a2 n2 c2)) H f (x.e:Int)/\ZVar Qc ((w2.setCell ⟨H+2,q*2,none⟩ (.bool b2)).setCell ⟨H+2,q*2+1,none⟩ (.slice a2 n2 c2)) (H+1) (fun _=>0) 0/\Ext w ((w2.setCell ⟨H+2,q*2,none⟩ (.bool b2)).setCell ⟨H+2,q*2+1,none⟩ (.slice a2 n2 c2)) from
    ⟨hs.congr fun i _=>Hstep.out i,(HA.out.ext hx2).chz hch hV2.no (by omega),(HZ.out.ext hx2).chz hch hV2.no (by omega),hch.ext (HE.out.trans hx2) (by rw [HH.out];omega)⟩)
   clear hs hch hV2 hI2 hx2 HNe HV HA HZ HE HI y0 y1
   go_wp2_with fail
   clear z0 z1 fz0 fz1;generalize ((w2.setCell ⟨H+2,q*2,none⟩ (.bool b2)).setCell ⟨H+2,q*2+1,none⟩ (.slice a2 n2 c2))=V at *
   go_roundg (8-(j+1))
   case measure=>have:=Hjk.out;have:=Hj1.out;omega
   case rel=>exact ⟨j+1,rfl,Hj1.out,rfl,Hend.out⟩
theorem QTurn_nm (ca:Array Value) (x:Nm) (P E:Nat) (k:Int) (w:World) (h:RmA Qc w ca x P E) (hP:P<=400000) :
  Calls Tryz.prog 67 #[.agg ca,.int .i64 k] w fun r w'=>∃ cr:Array Value,r=.returned (.agg cr)/\RmA Qc w' cr (nTr k x) P E/\Ext w w':=by
 refine (QTurn_w ca x P E k w h.w hP).mono ?_;rintro r w' ⟨cr,rfl,hw,hx⟩;exact ⟨cr,rfl,hw.a (h.low.tr k),hx⟩
variable {Qc:Nat->Prop}
open Go.RowKit
theorem zhalf_two (neg:Bool) (ao:Option Addr) (n c:Nat) (z:Int) (w:World) (h:IsZ Qc w neg ao n c z) (hn:n<=400000) :
  Calls Tryz.prog 108 #[.agg #[.bool neg,.slice ao n c]] w fun e w'=>∃ (b':Bool) (a':Option Addr) (n' c':Nat) (z':Int) (bo:Bool),e=.returned (.tuple #[.agg #[.bool b',.slice a' n' c'],.bool bo])/\IsZ Qc w' b' a' n' c' z'/\Hid (z % 2=0->z'=z / 2)/\n'<=n/\Ext w w':=by
 have Hsg:=Lh (show z=if neg=true then -(z.natAbs:Int) else (z.natAbs:Int) from by
  obtain ⟨l0,_,_,_,_,_,_,h7,_⟩:=h;rw [h7]
  cases neg<;>simp)
 obtain ⟨l,p1,p2,p3,p4,p5,p6,p7,p8,p9⟩:=h.abs;have hE:=(ext_alloc w (.cells #[.bool neg,.slice ao n c] 45)).trans (ext_alloc _ (.cells #[.bool false,.slice none 0 0] 45));have bA:=(zbx_new w neg ao n c).ext (ext_alloc _ (.cells #[.bool false,.slice none 0 0] 45));have hR:=zres_new (w.alloc (.cells #[.bool neg,.slice ao n c] 45));rw [show (w.alloc (.cells #[.bool neg,.slice ao n c] 45)).heap.size=w.heap.size+1 from by simp] at hR
 have hA:n=0\/∃ b o,ao=some ⟨b,o,none⟩:=by
  by_cases h0:n=0
  ·exact Or.inl h0
  ·exact Or.inr (p4.some_of (by omega))
 have P1:=Lh p1;have P4:=Lh p4;have P5:=Lh p5;have P7:=Lh p7;have P9:=Lh p9.2;have x0:=bA.c0;have x1:=bA.c1;clear p1 p2 p3 p4 p5 p6 p7 p8 p9 h
 go_enter Tryz.func108,Tryz.ntmps108
 go_wp2_with (at_make;refine wpList_make_irow _ rfl _ _ rfl _ _ _ _ n rfl rfl (by omega) (by omega) (by omega) ?_;intro w1 hr1 he1 hz1;have d1:=zKeep he1 bA.lt x1)
 have hWB:((w.alloc (.cells #[.bool neg,.slice ao n c] 45)).alloc (.cells #[.bool false,.slice none 0 0] 45)).heap.size=w.heap.size+1+1:=by simp
 generalize (w.alloc (.cells #[.bool neg,.slice ao n c] 45)).alloc (.cells #[.bool false,.slice none 0 0] 45)=WB at *;rw [hWB] at hr1;have HWB:=Lh hWB;clear hWB d1
 go_loopw [5,6] (fun cv iv wr=>∃ (k c:Nat) (D:List Nat),k<=n/\iv=.int .i64 ((k:Int)-1)/\cv=.int .i64 c/\c<=1/\D.length=n/\ZD D/\IRow wr (w.heap.size+1+1) D/\zval (D.drop k)*2+c=zval (l.drop k)/\Ext WB wr) (fun _ iv _=>(intOf iv+1).toNat)
 case atStart=>exact ⟨n,0,List.replicate n 0,Nat.le_refl _,by go_num,rfl,by omega,by simp,ZD.replicate _,hr1,by rw [List.drop_of_length_le (by simp),List.drop_of_length_le (by rw [P1.out];exact Nat.le_refl _)];rfl,he1⟩
 case round =>
  clear hr1 he1 hz1;obtain ⟨k,cc,D,hk,rfl,rfl,hc1,hD,hdD,hrD,hinv,hEr⟩:=hrel;have HD:=Lh hD;have HdD:=Lh hdD;have HrD:=Lh hrD;have Hinv:=Lh hinv;have HEr:=Lh hEr;have d0:=zKeep hEr bA.lt x0;have d1:=zKeep hEr bA.lt x1;clear hD hdD hrD hinv hEr
  by_cases hk0:k=0
  ·subst hk0
   have hv:zval D*2+cc=zval l:=by have:=Hinv.out;rwa [List.drop_zero,List.drop_zero] at this
   obtain ⟨z',hz'⟩:∃ z':Int,z'=if neg=true then -(zval D:Int) else (zval D:Int):=⟨_,rfl⟩
   have Hz':Hid (z % 2=0->z'=z / 2):=by
    show z % 2=0->z'=z / 2
    have h7:=P7.out;have h8:=Hsg.out;rw [hz']
    cases neg
    ·simp only [Bool.false_eq_true,if_false] at h8 ⊢;omega
    ·simp only [if_true] at h8 ⊢;omega
   have HCm:z'=0\/LimQ Qc w:=P9.out.imp (fun h=>by
    have h1:zval D=0:=by
     have:=P7.out;rw [h] at this
     simp at this
     omega
    rw [hz',h1];split<;>rfl) And.left
   have Hm:=Lh (fun wx (hx:IRow wx (w.heap.size+1+1) D)=>zmade_any neg (some ⟨w.heap.size+1+1,0,none⟩) D n n wx HD.out hx.seg HdD.out (Nat.le_refl _) (by unfold maxLen;omega) (by omega) z' hz' (HCm.imp id fun h=>⟨h.grow (by have:=hx.lt;omega),fun x hx=>by cases hx;exact h _ (by show w.heap.size<=w.heap.size+1+1;omega)⟩));clear hv hz'
   go_wp2_with fail
   refine (Hm.out _ HrD.out).mono ?_;rintro e w9 ⟨b',a',n',c',rfl,hI,hle,hx9⟩;have hR9:=hR.ext (HEr.out.trans hx9);have k0:=hR9.c0;have k1:=hR9.c1;have f0:=hR9.f 0;have f1:=hR9.f 1
   go_wp2_with fail
   exact bodyPost_ret (v:=.tuple #[.agg #[.bool b',.slice a' n' c'],.bool (decide ((0:Int)<(cc:Int)))]) (by simp [results,Tryz.results108,go_sem,k0,k1]) rfl ⟨b',a',n',c',z',_,rfl,hI.keepRes hR9.row _ _,Hz',hle,zput2 (hE.trans (HEr.out.trans hx9)) (by omega) _ _⟩
  ·obtain ⟨j,rfl⟩:∃ j,k=j+1:=⟨k-1,by omega⟩
   have ec:(((j+1:Nat):Int)-1)=(j:Int):=by omega
   have ij:(j:Int)<(n:Int):=by omega
   rcases hA with h0 | ⟨b,o,rfl⟩
   ·omega
   have hcl:=(P4.out.ext (hE.trans HEr.out)).at j (by rw [P1.out];omega);obtain ⟨x,hx⟩:∃ x,l.getD j 0=x:=⟨_,rfl⟩
   have hx4:x<10000:=by rw [<-hx];exact P5.out.get j
   rw [hx] at hcl;have hcM:=HrD.out.cell j (by rw [HD.out];omega);have hfz:=HrD.out.frozen j;obtain ⟨yy,hyy⟩:∃ yy,D.getD j 0=yy:=⟨_,rfl⟩;rw [hyy] at hcM;obtain ⟨d,hd⟩:∃ d,(cc*10000+x) / 2=d:=⟨_,rfl⟩;obtain ⟨c2,hc2⟩:∃ c2,(cc*10000+x) % 2=c2:=⟨_,rfl⟩;have Hst:=Lh (zhalf_step (by rw [HD.out];omega) (by rw [P1.out];omega) hx rfl hd hc2 Hinv.out)
   have hd4:d<10000:=by omega
   have hc21:c2<=1:=by omega
   have t1:((cc:Int)*10000+(x:Int)).tdiv 2=(d:Int):=by rw [Int.tdiv_eq_ediv_of_nonneg (by omega)];omega
   have t2:((cc:Int)*10000+(x:Int)).tmod 2=(c2:Int):=by rw [Int.tmod_eq_emod_of_nonneg (by omega)];omega
   rw [ec];clear hx hd hc2 hk0 ec hyy
   go_wp2_with fail
   go_roundw
   case rel=>exact ⟨j,c2,D.set j d,by omega,by go_num,rfl,hc21,by rw [List.length_set];exact HD.out,HdD.out.set _ _ hd4,HrD.out.set _ _,Hst.out,Below.setCell HEr.out (by rw [HWB.out];exact Nat.le_refl _) _⟩
   case measure=>simp [intOf]
end Go.Proofs.YtfjnlopbmkimiaaGreatDoor
