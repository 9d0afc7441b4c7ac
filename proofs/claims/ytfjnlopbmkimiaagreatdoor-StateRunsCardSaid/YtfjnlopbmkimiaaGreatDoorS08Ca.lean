/-
  A row grows by a product: addProduct. How often 2 divides a whole row: twos. Shift. A number shifted by any distance: shift. A number shifted by any distance: shift, its walk. A row shifted: row.shift. A whole number of circuits written into a variable. Rows of eight as sums of powers of z: what add, addProduct, Turn, Conj, Half, Mul make of them, in plain numbers. The one way in which a number of circuits is kept, in plain numbers: what lowest answers; half of a number; the laws' last steps. Circuits: what they are, in plain numbers; what is wrong with one. Lists of ints in memory.
-/
import Derived.Deep.LoopGhost
import Derived.Lib.Hide
import Derived.Test.YtfjnlopbmkimiaaGreatDoorS07Rd
namespace Go.Proofs.YtfjnlopbmkimiaaGreatDoor
set_option maxRecDepth 100000
set_option maxHeartbeats 2000000
open Go.RowKit
def mulN (f:Nat->Int) (k z:Int) (f2:Nat->Int):Nat->Nat->Int
 | 0=>f
 | i+1=>addN (mulN f k z f2 i) (k+i) (z*f2 i)
theorem addN_abs (f:Nat->Int) (k z:Int) (A P:Nat) (hA:∀ i,i<8->(f i).natAbs<=A) (hP:z.natAbs<=P):∀ i,i<8->(addN f k z i).natAbs<=A+P:=fun i hi=>by
 unfold addN updN
 split
 ·rename_i e
  have h1:=hA (k % 8).toNat (by omega);unfold sgK
  split<;>omega
 ·have:=hA i hi;omega
theorem mulN_abs (f:Nat->Int) (k z:Int) (f2:Nat->Int) (A P:Nat) (hA:∀ i,i<8->(f i).natAbs<=A) (hP:∀ i,i<8->(z*f2 i).natAbs<=P):∀ j,j<=8->∀ i,i<8->(mulN f k z f2 j i).natAbs<=A+j*P
 | 0,_,i,hi=>by have:=hA i hi;simp only [mulN];omega
 | j+1,hj,i,hi=>by
  have h1:=addN_abs (mulN f k z f2 j) (k+j) (z*f2 j) (A+j*P) P (mulN_abs f k z f2 A P hA hP j (by omega)) (hP j (by omega)) i hi;simp only [mulN];rw [Nat.succ_mul];omega
theorem addN_wrap (f:Nat->Int) (k z:Int):addN f (IntKind.i64.wrap k) z=addN f k z:=by
 have h:IntKind.i64.wrap k % 16=k % 16:=by rw [IntKind.wrap_i64];omega
 unfold addN sgK;rw [h,show IntKind.i64.wrap k % 8=k % 8 by omega]
theorem rowAddProduct_any (g m:Nat) (t:TypeId) (f:Nat->Int) (k:Int) (s:Int) (a:Option Addr) (n c:Nat) (z:Int) (g2 m2:Nat) (t2:TypeId) (f2:Nat->Int) (w:World) (h:Nums w g m t f) (hm:8<=m) (hI:IsInt w s a n c z) (h2:Nums w g2 m2 t2 f2) (hm2:8<=m2) (hne:g2≠g)
  (K A P:Nat) (hK:K<=4194304) (hfz:Fit K z) (hf2:∀ i,i<8->Fit K (f2 i)) (hA:∀ i,i<8->(f i).natAbs<=A) (hP:∀ i,i<8->(z*f2 i).natAbs<=P) (hAP:A+8*P<B64 ^ K) :
  Calls Tryz.prog 131 #[.pointer (some ⟨g,0,none⟩),.int .i64 k,.agg #[.int .i64 s,.slice a n c],.pointer (some ⟨g2,0,none⟩)] w fun e w'=>e=.returned (.tuple #[])/\Nums w' g m t (mulN f k z f2 8)/\Chg g w w':=by
 have Hh:=Lh h;have HI:=Lh hI;have Hc:=Lh hI.cmp3;have Hfz:=Lh hfz;have Hf2:=Lh hf2;have Hm:=Lh hm;have HK:=Lh hK;have H2:=Lh h2;have Hm2:=Lh hm2;have Hab:=Lh (mulN_abs f k z f2 A P hA hP);have HP:=Lh hP;have HAP:=Lh hAP;have hgl:=h.lt;have hgl2:=h2.lt;clear h hI hfz hf2 hm hK h2 hm2 hA hP hAP;have E0:=Ext.alloc w (.cells #[.int .i64 s,.slice a n c] 74);have B0:=box_new w s a n c;have l0:=B0.c0;have l1:=B0.c1;have HE0:=Lh E0;have HB0:=Lh B0;clear E0 B0;have Hs:=Lh (Sign_any s (.slice a n c))
 go_enter Tryz.func131,Tryz.ntmps131
 go_wp2_with fail
 refine (Hs.out _).mono ?_;rintro e w1 ⟨rfl,hx1⟩;have HE1:=Lh (HE0.out.trans hx1);have HB1:=Lh (HB0.out.ext hx1);clear hx1 l0 l1 HE0 HB0 Hs;rw [Hc.out];obtain ⟨H,hH⟩:∃ H,w.heap.size=H:=⟨_,rfl⟩;rw [hH] at HB1;rw [hH] at hgl hgl2 ⊢;clear hH Hc
 by_cases hz:z=0
 ·subst hz
  have b1:(cmp3 (0:Int) 0 == 0)=true:=by decide
  have e0:∀ j i,f i=mulN f k 0 f2 j i:=by
   intro j
   induction j with
   | zero=>intro i;rfl
   | succ j ih=>intro i;rw [ih i];simp only [mulN,Int.zero_mul];exact addN_zero _ _ _
  have He0:=Lh e0;clear e0
  go_wp2_with fail
  refine bodyPost_ret (results_none rfl _ _ _) rfl ?_;exact ⟨rfl,(Hh.out.ext HE1.out).congr fun i _=>He0.out 8 i,Chg.of_ext HE1.out⟩
 have b1:(cmp3 z 0 == 0)=false:=by
  have:cmp3 z 0≠0:=fun e=>hz (cmp3_zero.1 e)
  simp [this]
 clear hz
 go_wp2_with fail
 clear b1
 go_loopg [8,12] 8 (fun kk s8 s12 wr=>∃ j:Nat,s12=.int .i64 (j:Int)/\j<=8/\8-j=kk/\Nums wr g m t (mulN f k z f2 j)/\Chg g w wr/\Box wr H s a n c)
 case atStart=>exact ⟨0,rfl,by omega,by omega,Hh.out.ext HE1.out,Chg.of_ext HE1.out,HB1.out⟩
 case round =>
  clear HE1 HB1;obtain ⟨j,rfl,hj,hjk,hN,hC,hB⟩:=hrel
  by_cases hj8:j=8
  ·subst hj8
   have Hend:=Lh (And.intro hN hC);clear hN hC hB
   go_wp2_with fail
   go_end0
   exact ⟨rfl,Hend.out⟩
  have hlt:j<8:=by omega
  have q1:(j:Int)<8:=by omega
  have q0:(0:Int)<=(j:Int):=by omega
  have hO:=H2.out.chg hC hne;obtain ⟨s1,a1,n1,c1,y0,y1,_,_,hI1⟩:=hO.get j (by have:=Hm2.out;omega);have Hc1:=Lh hI1.cmp3;have HI1:=Lh hI1;have Hs:=Lh (Sign_any s1 (.slice a1 n1 c1));have HN:=Lh hN;have HC:=Lh hC;have HB:=Lh hB;have HO:=Lh hO;have Hjk:=Lh hjk;clear hI1 hN hC hB hO hjk hj8;obtain ⟨wo,rfl⟩:∃ wo:World,wo=wr:=⟨_,rfl⟩
  go_wp2_with fail
  refine (Hs.out wo).mono ?_;rintro e w2 ⟨rfl,hx2⟩;have HN2:=Lh (HN.out.ext hx2);have HC2:=Lh (HC.out.trans (Chg.of_ext hx2));have HB2:=Lh (HB.out.ext hx2);have HO2:=Lh (HO.out.ext hx2);have HI2:=Lh (HI1.out.ext hx2);have hgO:=HO2.out.lt;have z0:=cellKeep hx2 HO.out.lt y0;have z1:=cellKeep hx2 HO.out.lt y1;clear hx2 y0 y1 HN HC HB HO HI1 Hs;rw [Hc1.out];clear Hc1
  have wk:IntKind.i64.wrap ((j:Int)+1)=((j+1:Nat):Int):=by rw [IntKind.wrap_i64];omega
  have Hj1:=Lh (show j+1<=8 by omega)
  by_cases hz2:f2 j=0
  ·have b2:(cmp3 (f2 j) 0 != 0)=false:=rne_f (cmp3_zero.2 hz2)
   have hcg:∀ i,mulN f k z f2 j i=mulN f k z f2 (j+1) i:=fun i=>by
    simp only [mulN,hz2,Int.mul_zero];exact addN_zero _ _ _
   have Hcg:=Lh hcg;clear hcg hz2 z0 z1
   go_wp2_with fail
   go_roundg (8-(j+1))
   case measure=>have:=Hjk.out;have:=Hj1.out;omega
   case rel=>exact ⟨j+1,rfl,Hj1.out,rfl,HN2.out.congr fun i _=>Hcg.out i,HC2.out,HB2.out⟩
  have b2:(cmp3 (f2 j) 0 != 0)=true:=rne_t fun e=>hz2 (cmp3_zero.1 e)
  clear hz2;have l0:=HB2.out.c0;have l1:=HB2.out.c1;have hbl:=HB2.out.lt;have HMu:=Lh (fun wx (hx:Ext w2 wx)=>Mul_any s s1 a a1 n c n1 c1 z (f2 j) wx ((HI.out.keep64 HC2.out.keep).ext hx) (HI2.out.ext hx) K HK.out Hfz.out (Hf2.out j hlt))
  go_upto_region 6 with fail
  have hd0:Ext w2 w2.drew:=Below.drew (Ext.refl _);refine wp_region_K 11 (fun w'=>(w'.cell? ⟨H,0,none⟩=some (.int .i64 s)/\w'.cell? ⟨H,1,none⟩=some (.slice a n c))/\w'.cell? ⟨g2,j*2,none⟩=some (.int .i64 s1)/\w'.cell? ⟨g2,j*2+1,none⟩=some (.slice a1 n1 c1)) (by kernel_rfl) ?_
  show anyK _ _ _ _ _ _ 12 #[false,false,false,false,false,false,false,false,false,false,false,false] _ _
  have hHeld:(w2.drew.cell? ⟨H,0,none⟩=some (.int .i64 s)/\w2.drew.cell? ⟨H,1,none⟩=some (.slice a n c))/\w2.drew.cell? ⟨g2,j*2,none⟩=some (.int .i64 s1)/\w2.drew.cell? ⟨g2,j*2+1,none⟩=some (.slice a1 n1 c1):=⟨⟨cellKeep hd0 hbl l0,cellKeep hd0 hbl l1⟩,cellKeep hd0 hgO z0,cellKeep hd0 hgO z1⟩;refine kT 0 12 (v:=?_) rfl (Or.inl ⟨by rfl,?_⟩) hHeld ?_;rotate_left 1
  ·intro w hSw
   go_simp
   try with_reducible rfl
  show anyK _ _ _ _ _ _ _ _ (Act.put _ (some 22) _) _
  simp only [Act.put,sx0,sx1,sx2];refine kT 1 12 (v:=?_) rfl (Or.inl ⟨by rfl,?_⟩) hHeld ?_;rotate_left 1
  ·intro w hSw
   go_simp
   try with_reducible rfl
  show anyK _ _ _ _ _ _ _ _ (Act.put _ (some 23) _) _
  simp only [Act.put,sx0,sx1,sx2];refine kT 2 12 (v:=?_) rfl (Or.inl ⟨by rfl,?_⟩) hHeld ?_;rotate_left 1
  ·intro w hSw
   go_simp
   try with_reducible rfl
  show anyK _ _ _ _ _ _ _ _ (Act.put _ (some 24) _) _
  simp only [Act.put,sx0,sx1,sx2];refine kT 3 12 (v:=?_) rfl (Or.inl ⟨by rfl,?_⟩) hHeld ?_;rotate_left 1
  ·intro w hSw
   go_simp
   try with_reducible rfl
  show anyK _ _ _ _ _ _ _ _ (Act.put _ (some 25) _) _
  simp only [Act.put,sx0,sx1,sx2];refine kT 4 12 (v:=?_) rfl (Or.inl ⟨by rfl,?_⟩) hHeld ?_;rotate_left 1
  ·intro w hSw
   go_simp
   try with_reducible rfl
  show anyK _ _ _ _ _ _ _ _ (Act.put _ (some 26) _) _
  simp only [Act.put,sx0,sx1,sx2];refine kT 5 12 (v:=?_) rfl (Or.inl ⟨by rfl,?_⟩) hHeld ?_;rotate_left 1
  ·intro w hSw
   go_simp
   try with_reducible rfl
  show anyK _ _ _ _ _ _ _ _ (Act.put _ (some 27) _) _
  simp only [Act.put,sx0,sx1,sx2];refine kT 6 12 (v:=?_) rfl (Or.inl ⟨by rfl,?_⟩) hHeld ?_;rotate_left 1
  ·intro w hSw
   go_simp
   try with_reducible rfl
  show anyK _ _ _ _ _ _ _ _ (Act.put _ (some 28) _) _
  simp only [Act.put,sx0,sx1,sx2];refine kT 7 12 (v:=?_) rfl (Or.inl ⟨by rfl,?_⟩) hHeld ?_;rotate_left 1
  ·intro w hSw
   go_simp
   try with_reducible rfl
  show anyK _ _ _ _ _ _ _ _ (Act.put _ (some 29) _) _
  simp only [Act.put,sx0,sx1,sx2];refine kT 8 12 (v:=?_) rfl (Or.inl ⟨by rfl,?_⟩) hHeld ?_;rotate_left 1
  ·intro w hSw
   go_simp
   try with_reducible rfl
  show anyK _ _ _ _ _ _ _ _ (Act.put _ (some 30) _) _
  simp only [Act.put,sx0,sx1,sx2];refine kT 9 12 (v:=?_) rfl (Or.inl ⟨by rfl,?_⟩) hHeld ?_;rotate_left 1
  ·intro w hSw
   go_simp
   try with_reducible rfl
  show anyK _ _ _ _ _ _ _ _ (Act.put _ (some 31) _) _
  simp only [Act.put,sx0,sx1,sx2];clear hHeld;refine anyK_one (i:=10) (by kernel_rfl) rfl (fun Kk hKk=>?_)
  go_simp
  (go_at_call 152;refine (HMu.out w2.drew hd0).mono ?_;rintro e w3 ⟨s3,a3,n3,c3,rfl,hI3,hx3⟩)
  have he3:=hd0.trans hx3
  go_wp2_with fail
  refine hKk.out _ _ (fun _=>⟨⟨cellKeep he3 hbl l0,cellKeep he3 hbl l1⟩,cellKeep he3 hgO z0,cellKeep he3 hgO z1⟩) ?_;clear hKk Kk;simp only [sx0,sx1,sx2]
  have HAd:=Lh (rowAdd_any g m t (mulN f k z f2 j) (IntKind.i64.wrap (k+j)) s3 a3 n3 c3 _ w3 (HN2.out.ext he3) Hm.out hI3 K HK.out (by
   have h1:=HP.out j hlt;have h2:=HAP.out
   unfold Fit;omega) (fun i hi=>by
   have h1:=Hab.out j (by omega) i hi;have h2:=HAP.out;have h3:j*P<=8*P:=Nat.mul_le_mul_right P (by omega)
   unfold Fit;omega))
  rw [addN_wrap] at HAd;refine anyK_one (i:=11) (by kernel_rfl) rfl (fun Kk hKk=>?_)
  go_simp
  (go_at_call 89;refine HAd.out.mono ?_;rintro e w4 ⟨rfl,hN4,hC4⟩)
  have Hend:=Lh (show Nums w4 g m t (mulN f k z f2 (j+1))/\Chg g w w4/\Box w4 H s a n c from
   ⟨hN4,(HC2.out.trans (Chg.of_ext he3)).trans hC4,⟨(hC4.block H (by omega) (Nat.lt_of_lt_of_le hbl he3.size)).trans (HB2.out.ext he3).row⟩⟩)
  clear hN4 hC4 HAd hI3 hx3 he3 HMu l0 l1 z0 z1 HN2 HC2 HB2 HO2 HI2
  go_wp2_with fail
  refine hKk.out _ _ (fun h=>Bool.noConfusion (show true=false from h)) ?_;clear hKk Kk;simp only [sx0,sx1,sx2];refine anyK_done (by kernel_rfl) ?_ _
  go_wp2_with fail
  go_roundg (8-(j+1))
  case measure=>have:=Hjk.out;have:=Hj1.out;omega
  case rel=>exact ⟨j+1,rfl,Hj1.out,rfl,Hend.out⟩
def TwN (f:Nat->Int) (j:Nat) (B:Nat) (T:Int):Prop:=(T=-1/\∀ i,i<j->f i=0)\/∃ t:Nat,T=(t:Int)/\t<B/\(∀ i,i<j->2 ^ t ∣ (f i).natAbs)/\∃ i,i<j/\Tw (f i).natAbs t
theorem Tw.dvd_of_le {v t u:Nat} (h:Tw v t) (hu:u<=t):2 ^ u ∣ v:=by
 obtain ⟨m,rfl⟩:=h;exact Nat.dvd_trans (Nat.pow_dvd_pow 2 hu) (Nat.dvd_mul_right _ _)
theorem TwN.zero {f:Nat->Int} {j B:Nat} {T:Int} (h:TwN f j B T) (hz:f j=0):TwN f (j+1) B T:=by
 rcases h with ⟨h1,h2⟩ | ⟨t,h1,hb,h2,i,h3,h4⟩
 ·refine Or.inl ⟨h1,fun i hi=>?_⟩
  by_cases e:i=j
  ·rw [e];exact hz
  ·exact h2 i (by omega)
 ·refine Or.inr ⟨t,h1,hb,fun i hi=>?_,i,by omega,h4⟩
  by_cases e:i=j
  ·rw [e,hz];exact Nat.dvd_zero _
  ·exact h2 i (by omega)
theorem TwN.less {f:Nat->Int} {j B:Nat} {T:Int} {u:Nat} (h:TwN f j B T) (hu:Tw (f j).natAbs u) (hb:u<B) (hc:T<0\/(u:Int)<T):TwN f (j+1) B (u:Int):=by
 refine Or.inr ⟨u,rfl,hb,fun i hi=>?_,j,by omega,hu⟩
 by_cases e:i=j
 ·rw [e];exact hu.dvd_of_le (Nat.le_refl _)
 ·rcases h with ⟨h1,h2⟩ | ⟨t,h1,hb',h2,_⟩
  ·rw [h2 i (by omega)];exact Nat.dvd_zero _
  ·exact Nat.dvd_trans (Nat.pow_dvd_pow 2 (by omega)) (h2 i (by omega))
theorem TwN.more {f:Nat->Int} {j B:Nat} {T:Int} {u:Nat} (h:TwN f j B T) (hu:Tw (f j).natAbs u) (h0:¬ T<0) (hc:¬ (u:Int)<T):TwN f (j+1) B T:=by
 rcases h with ⟨h1,h2⟩ | ⟨t,h1,hb',h2,i,h3,h4⟩
 ·omega
 ·refine Or.inr ⟨t,h1,hb',fun i hi=>?_,i,by omega,h4⟩
  by_cases e:i=j
  ·rw [e];exact hu.dvd_of_le (by omega)
  ·exact h2 i (by omega)
theorem dec_t {p:Prop} [Decidable p] (h:p):decide p=true:=by simp [h]
theorem dec_f {p:Prop} [Decidable p] (h:¬ p):decide p=false:=by simp [h]
theorem rowTwos_any (g m:Nat) (t:TypeId) (f:Nat->Int) (w:World) (h:Nums w g m t f) (hm:8<=m) (K:Nat) (hK:K<=4194304) (hF:∀ i,i<8->Fit K (f i)) (hbr:Bru w) :
  Calls Tryz.prog 129 #[.pointer (some ⟨g,0,none⟩)] w fun e w'=>(∃ T:Int,e=.returned (.int .i64 T)/\TwN f 8 (64*K+64) T)/\Ext w w':=by
 have Hh:=Lh h;have Hm:=Lh hm;have HK:=Lh hK;have HF:=Lh hF;have Hbr:=Lh hbr;clear h hm hK hF hbr
 go_enter Tryz.func129,Tryz.ntmps129
 go_wp2_with fail
 go_loopg [3,4,5,6] 8 (fun kk s3 s4 s5 s6 wr=>∃ (j:Nat) (T:Int),s6=.int .i64 (j:Int)/\s3=.int .i64 T/\j<=8/\8-j=kk/\TwN f j (64*K+64) T/\Ext w wr)
 case atStart=>exact ⟨0,-1,rfl,rfl,by omega,by omega,Or.inl ⟨rfl,fun i hi=>by omega⟩,Ext.refl _⟩
 case round =>
  obtain ⟨j,T,rfl,rfl,hj,hjk,hT,hx⟩:=hrel
  by_cases hj8:j=8
  ·subst hj8
   have HT:=Lh hT;clear hT
   go_wp2_with fail
   go_ret
   exact ⟨⟨T,rfl,HT.out⟩,hx⟩
  have hlt:j<8:=by omega
  have q1:(j:Int)<8:=by omega
  have q0:(0:Int)<=(j:Int):=by omega
  have wk:IntKind.i64.wrap ((j:Int)+1)=((j+1:Nat):Int):=by rw [IntKind.wrap_i64];omega
  have Hj1:=Lh (show j+1<=8 by omega);have hO:=Hh.out.ext hx;obtain ⟨s,a,n,c,y0,y1,_,_,hI⟩:=hO.get j (by have:=Hm.out;omega);have Hc:=Lh hI.cmp3;have HI:=Lh hI;have Hs:=Lh (Sign_any s (.slice a n c));have HT:=Lh hT;have Hx:=Lh hx;have Hjk:=Lh hjk;have hgl:=hO.lt;clear hI hT hx hjk hj8 hO;obtain ⟨wo,rfl⟩:∃ wo:World,wo=wr:=⟨_,rfl⟩
  go_wp2_with fail
  refine (Hs.out wo).mono ?_;rintro e w2 ⟨rfl,hx2⟩;have Hx2:=Lh (Hx.out.trans hx2);have HI2:=Lh (HI.out.ext hx2);have z0:=cellKeep hx2 hgl y0;have z1:=cellKeep hx2 hgl y1;clear hx2 y0 y1 Hs Hx HI;rw [Hc.out];clear Hc
  by_cases hz:f j=0
  ·have b2:(cmp3 (f j) 0 == 0)=true:=by rw [hz];rfl
   have HT':=Lh (HT.out.zero hz);clear hz
   go_wp2_with fail
   go_roundg (8-(j+1))
   case measure=>have:=Hjk.out;have:=Hj1.out;omega
   case rel=>exact ⟨j+1,T,rfl,rfl,Hj1.out,rfl,HT'.out,Hx2.out⟩
  have b2:(cmp3 (f j) 0 == 0)=false:=by
   have:cmp3 (f j) 0≠0:=fun e=>hz (cmp3_zero.1 e)
   simp [this]
  have hnK:n<=K:=HI2.out.len (HF.out j hlt);have HTw:=Lh (Twos_any s a n c (f j) w2 HI2.out (by have:=HK.out;omega) (bru_ext Hbr.out Hx2.out));have Hz:=Lh hz;have HnK:=Lh hnK;clear hz hnK
  go_wp2_with fail
  refine HTw.out.mono ?_;rintro e w3 ⟨u,rfl,hu1,_,hu2,hx3⟩;have Hu:=Lh (hu1 Hz.out);have Hu2:=Lh (show u<64*K+64 by have:=HnK.out;omega);have Hx3:=Lh (Hx2.out.trans hx3);clear hu1 hu2 hx3 HTw z0 z1 Hx2 HI2 b2 Hz HnK
  by_cases hc0:T<0
  ·have b3:=dec_t hc0
   have HT':=Lh (HT.out.less Hu.out Hu2.out (Or.inl hc0))
   go_wp2_with fail
   go_roundg (8-(j+1))
   case measure=>have:=Hjk.out;have:=Hj1.out;omega
   case rel=>exact ⟨j+1,(u:Int),rfl,rfl,Hj1.out,rfl,HT'.out,Hx3.out⟩
  ·have b3:=dec_f hc0
   by_cases hc1:(u:Int)<T
   ·have b4:=dec_t hc1
    have HT':=Lh (HT.out.less Hu.out Hu2.out (Or.inr hc1))
    go_wp2_with fail
    go_roundg (8-(j+1))
    case measure=>have:=Hjk.out;have:=Hj1.out;omega
    case rel=>exact ⟨j+1,(u:Int),rfl,rfl,Hj1.out,rfl,HT'.out,Hx3.out⟩
   ·have b4:=dec_f hc1
    have HT':=Lh (HT.out.more Hu.out hc0 hc1)
    go_wp2_with fail
    go_roundg (8-(j+1))
    case measure=>have:=Hjk.out;have:=Hj1.out;omega
    case rel=>exact ⟨j+1,T,rfl,rfl,Hj1.out,rfl,HT'.out,Hx3.out⟩
theorem two_cast (k:Nat):((2 ^ k:Nat):Int)=(2:Int) ^ k:=by simp
theorem zfi_new (w:World) (o1 o2:Obj):((w.alloc o1).alloc o2 |>.alloc (.cells #[.int .i64 0,.int .i64 0] 31)).heap[w.heap.size+1+1]?=some (.cells #[.int .i64 0,.int .i64 0] 31 (0,0)):=by
 have h:=heap_alloc_new ((w.alloc o1).alloc o2) (.cells #[.int .i64 0,.int .i64 0] 31);rw [show ((w.alloc o1).alloc o2).heap.size=w.heap.size+1+1 from by simp] at h;exact h
theorem Shift_up (sm:Int) (ao:Option Addr) (n c:Nat) (z:Int) (N:Nat) (w:World) (h:IsInt w sm ao n c z) (hN:N<=10000) (K:Nat) (hK:K<=4194304) (hf:Fit K z) :
  Calls Tryz.prog 150 #[.agg #[.int .i64 sm,.slice ao n c],.int .i64 (N:Int)] w fun e w'=>∃ (s':Int) (a':Option Addr) (n' c':Nat),e=.returned (.tuple #[.agg #[.int .i64 s',.slice a' n' c'],.agg #[.int .i64 0,.int .i64 0]])/\IsInt w' s' a' n' c' (z*((2 ^ N:Nat):Int))/\Ext w w':=by
 have hE:=(Ext.trans (Ext.trans (Ext.alloc w (.cells #[.int .i64 sm,.slice ao n c] 74)) (Ext.alloc _ (.cells #[.int .i64 0,.slice none 0 0] 74))) (Ext.alloc _ (.cells #[.int .i64 0,.int .i64 0] 31)))
 have hR:Res (((w.alloc (.cells #[.int .i64 sm,.slice ao n c] 74)).alloc (.cells #[.int .i64 0,.slice none 0 0] 74)).alloc (.cells #[.int .i64 0,.int .i64 0] 31)) (w.heap.size+1):=by
  have h1:=heap_alloc_new (w.alloc (.cells #[.int .i64 sm,.slice ao n c] 74)) (.cells #[.int .i64 0,.slice none 0 0] 74);rw [show (w.alloc (.cells #[.int .i64 sm,.slice ao n c] 74)).heap.size=w.heap.size+1 from by simp] at h1;exact ⟨by simp,(Below.heap_alloc _ _ _ (by simp)).trans h1⟩
 have hF:FRes (((w.alloc (.cells #[.int .i64 sm,.slice ao n c] 74)).alloc (.cells #[.int .i64 0,.slice none 0 0] 74)).alloc (.cells #[.int .i64 0,.int .i64 0] 31)) (w.heap.size+1+1) :=
  ⟨by simp,zfi_new w _ _⟩
 have H:=hid h;have Hf:=hid hf
 have i1:¬ (N:Int) < -10000:=by omega
 have i2:¬ (10000:Int)<(N:Int):=by omega
 have i3:¬ (N:Int)<0:=by omega
 have hw:IntKind.u64.wrap (N:Int)=(N:Int):=by rw [IntKind.wrap_u64];omega
 clear h hf
 go_enter Tryz.func150,Tryz.ntmps150
 go_wp2_with fail
 generalize ((w.alloc (.cells #[.int .i64 sm,.slice ao n c] 74)).alloc (.cells #[.int .i64 0,.slice none 0 0] 74)).alloc (.cells #[.int .i64 0,.int .i64 0] 31)=W0 at *;refine (double_any sm ao n c z N W0 (H.out.ext hE) (by omega) K hK Hf.out).mono ?_;rintro e w3 ⟨s4,a4,n4,c4,rfl,hI4,he4⟩;have hr4:=hR.ext he4;have hf4:=hF.ext he4;have k0:=hr4.c0;have k1:=hr4.c1;have g0:=hr4.f0;have g1:=hr4.f1;have k2:=hf4.c0;have k3:=hf4.c1;have g2:=hf4.f0;have g3:=hf4.f1
 go_wp2_with fail
 exact bodyPost_ret (v:=.tuple #[.agg #[.int .i64 s4,.slice a4 n4 c4],.agg #[.int .i64 0,.int .i64 0]]) (by simp [results,Tryz.results150,go_sem,k0,k1,k2,k3]) rfl
  ⟨s4,a4,n4,c4,rfl,(hI4.cast (by rw [two_cast])).keep64 (Keep64.set4 (.i64 k0) (.slice k1) (.i64 k2) (.i64 k3) (notW_i64 _) (notW_slice _ _ _) (notW_i64 _) _),((((hE.trans he4).set (show w.heap.size<=w.heap.size+1 by omega) _).set (show w.heap.size<=w.heap.size+1 by omega) _).set (show w.heap.size<=w.heap.size+1+1 by omega) _).set (show w.heap.size<=w.heap.size+1+1 by omega) _⟩
theorem Shift_down (sm:Int) (ao:Option Addr) (n c:Nat) (z:Int) (N:Nat) (w:World) (h:IsInt w sm ao n c z) (hN:N<=10000) (hN1:1<=N) (K:Nat) (hK:K<=4194304) (hK1:1<=K) (hf:Fit K z) (hbr:Bru w) :
  Calls Tryz.prog 150 #[.agg #[.int .i64 sm,.slice ao n c],.int .i64 (-(N:Int))] w fun e w'=>∃ (s':Int) (a':Option Addr) (n' c':Nat),e=.returned (.tuple #[.agg #[.int .i64 s',.slice a' n' c'],.agg #[.int .i64 0,.int .i64 0]])/\IsInt w' s' a' n' c' (z / ((2 ^ N:Nat):Int))/\Ext w w':=by
 have hE:=(Ext.trans (Ext.trans (Ext.alloc w (.cells #[.int .i64 sm,.slice ao n c] 74)) (Ext.alloc _ (.cells #[.int .i64 0,.slice none 0 0] 74))) (Ext.alloc _ (.cells #[.int .i64 0,.int .i64 0] 31)))
 have hR:Res (((w.alloc (.cells #[.int .i64 sm,.slice ao n c] 74)).alloc (.cells #[.int .i64 0,.slice none 0 0] 74)).alloc (.cells #[.int .i64 0,.int .i64 0] 31)) (w.heap.size+1):=by
  have h1:=heap_alloc_new (w.alloc (.cells #[.int .i64 sm,.slice ao n c] 74)) (.cells #[.int .i64 0,.slice none 0 0] 74);rw [show (w.alloc (.cells #[.int .i64 sm,.slice ao n c] 74)).heap.size=w.heap.size+1 from by simp] at h1;exact ⟨by simp,(Below.heap_alloc _ _ _ (by simp)).trans h1⟩
 have hF:FRes (((w.alloc (.cells #[.int .i64 sm,.slice ao n c] 74)).alloc (.cells #[.int .i64 0,.slice none 0 0] 74)).alloc (.cells #[.int .i64 0,.int .i64 0] 31)) (w.heap.size+1+1) :=
  ⟨by simp,zfi_new w _ _⟩
 have H:=hid h;have Hf:=hid hf;have Hbr:=hid hbr;obtain ⟨k,hk⟩:∃ k:Int,-(N:Int)=k:=⟨_,rfl⟩;rw [hk]
 have i1:¬ k < -10000:=by omega
 have i2:¬ (10000:Int)<k:=by omega
 have i3:k<0:=by omega
 have i4 : -9223372036854775808<=k:=by omega
 have hw1:IntKind.i64.wrap (-k)=(N:Int):=by rw [IntKind.wrap_i64];omega
 have hw0 : -k=(N:Int):=by omega
 have hw:IntKind.u64.wrap (N:Int)=(N:Int):=by rw [IntKind.wrap_u64];omega
 clear h hf hbr hk
 go_enter Tryz.func150,Tryz.ntmps150
 go_wp2_with fail
 generalize ((w.alloc (.cells #[.int .i64 sm,.slice ao n c] 74)).alloc (.cells #[.int .i64 0,.slice none 0 0] 74)).alloc (.cells #[.int .i64 0,.int .i64 0] 31)=W0 at *;refine (halve_any sm ao n c z N W0 (H.out.ext hE) (by omega) K hK hK1 Hf.out (bru_ext Hbr.out hE)).mono ?_;rintro e w3 ⟨s4,a4,n4,c4,rfl,hI4,he4⟩;have hr4:=hR.ext he4;have hf4:=hF.ext he4;have k0:=hr4.c0;have k1:=hr4.c1;have g0:=hr4.f0;have g1:=hr4.f1;have k2:=hf4.c0;have k3:=hf4.c1;have g2:=hf4.f0;have g3:=hf4.f1
 go_wp2_with fail
 exact bodyPost_ret (v:=.tuple #[.agg #[.int .i64 s4,.slice a4 n4 c4],.agg #[.int .i64 0,.int .i64 0]]) (by simp [results,Tryz.results150,go_sem,k0,k1,k2,k3]) rfl
  ⟨s4,a4,n4,c4,rfl,(hI4.cast (by rw [two_cast])).keep64 (Keep64.set4 (.i64 k0) (.slice k1) (.i64 k2) (.i64 k3) (notW_i64 _) (notW_slice _ _ _) (notW_i64 _) _),((((hE.trans he4).set (show w.heap.size<=w.heap.size+1 by omega) _).set (show w.heap.size<=w.heap.size+1 by omega) _).set (show w.heap.size<=w.heap.size+1+1 by omega) _).set (show w.heap.size<=w.heap.size+1+1 by omega) _⟩
def ShV (b z V:Int):Prop:=(0<=b/\z*((2 ^ b.toNat:Nat):Int)=V)\/(b<=0/\z=V*((2 ^ (-b).toNat:Nat):Int))
theorem ShV.zero {z V:Int} (h:ShV 0 z V):z=V:=by
 rcases h with ⟨_,h⟩ | ⟨_,h⟩<;>simpa using h
theorem ShV.up {b z V:Int} {N:Nat} (h:ShV b z V) (hb:0<b) (hN:(N:Int)<=b):ShV (b-N) (z*((2 ^ N:Nat):Int)) V:=by
 rcases h with ⟨_,h⟩ | ⟨h0,_⟩
 ·refine Or.inl ⟨by omega,?_⟩
  rw [<-h,Int.mul_assoc,<-Int.natCast_mul,<-Nat.pow_add]
  congr 4
  omega
 ·omega
theorem ShV.down {b z V:Int} {N:Nat} (h:ShV b z V) (hb:b<0) (hN:b<=-(N:Int)):ShV (b+N) (z / ((2 ^ N:Nat):Int)) V:=by
 rcases h with ⟨h0,_⟩ | ⟨_,h⟩
 ·omega
 ·refine Or.inr ⟨by omega,?_⟩
  have e:(-b).toNat=(-(b+N)).toNat+N:=by omega
  rw [h,e,Nat.pow_add,Int.natCast_mul,<-Int.mul_assoc,Int.mul_ediv_cancel];have:0<2 ^ N:=Nat.pow_pos (by decide);omega
theorem ShV.fit {b z V:Int} {K:Nat} (h:ShV b z V) (hb:0<=b) (hV:Fit K V):Fit K z:=by
 unfold Fit at *
 rcases h with ⟨_,h⟩ | ⟨h0,h⟩
 ·rw [<-h,Int.natAbs_mul,Int.natAbs_natCast] at hV
  have:0<2 ^ b.toNat:=Nat.pow_pos (by decide);have:=Nat.le_mul_of_pos_right z.natAbs this;omega
 ·obtain rfl:b=0:=by omega
  simp at h
  rw [h];exact hV
theorem Fit.div {z:Int} {K N:Nat} (h:Fit K z):Fit K (z / ((2 ^ N:Nat):Int)):=by
 unfold Fit at *;have h1:=Int.natAbs_ediv_le_natAbs z ((2 ^ N:Nat):Int);omega
theorem shift_any (s:Int) (a:Option Addr) (n c:Nat) (z b0 V:Int) (w:World) (hI:IsInt w s a n c z) (K:Nat) (hK:K<=4194304) (hK1:1<=K) (hf:Fit K z) (hfV:Fit K V) (hb1 : -4611686018427387904<=b0) (hb2:b0<=4611686018427387904) (hV:ShV b0 z V) (hbr:Bru w) :
  Calls Tryz.prog 127 #[.agg #[.int .i64 s,.slice a n c],.int .i64 b0] w fun e w'=>∃ (s':Int) (a':Option Addr) (n' c':Nat),e=.returned (.agg #[.int .i64 s',.slice a' n' c'])/\IsInt w' s' a' n' c' V/\Ext w w':=by
 have HI:=Lh hI;have Hf:=Lh hf;have HfV:=Lh hfV;have HV:=Lh hV;have Hbr:=Lh hbr;have HK:=Lh hK;have HK1:=Lh hK1;clear hI hf hfV hV hbr hK hK1;obtain ⟨H,hH⟩:∃ H,w.heap.size=H:=⟨_,rfl⟩;obtain ⟨U,hU⟩:∃ U,(w.alloc (.cells #[.int .i64 s,.slice a n c] 74)).alloc (.cells #[.int .i64 0,.slice none 0 0] 74)=U:=⟨_,rfl⟩
 have E0:Ext w U:=by rw [<-hU];exact (Ext.alloc _ _).trans (Ext.alloc _ _)
 have B0:Box U H s a n c:=by rw [<-hU,<-hH];exact (box_new w s a n c).ext (Ext.alloc _ _)
 have R0:Box U (H+1) 0 none 0 0:=by
  have:=box_new (w.alloc (.cells #[.int .i64 s,.slice a n c] 74)) 0 none 0 0;rw [<-hU,<-hH]
  simpa using this
 have HU:=Lh hU;have HE0:=Lh E0;have HB0:=Lh B0;have HR0:=Lh R0;have HH:=Lh hH;clear hU E0 B0 R0 hH
 go_enter Tryz.func127,Tryz.ntmps127
 go_wp2_with fail
 rw [HU.out,HH.out]
 go_loopg [1,5] b0.natAbs (fun kk s1 s5 wr=>∃ (b z' s':Int) (a':Option Addr) (n' c':Nat),s1=.int .i64 b/\b.natAbs=kk/\ShV b z' V/\Fit K z'/\Box wr H s' a' n' c'/\IsInt wr s' a' n' c' z'/\Box wr (H+1) 0 none 0 0/\Ext w wr/\-4611686018427387904<=b/\b<=4611686018427387904)
 case atStart=>exact ⟨b0,z,s,a,n,c,rfl,rfl,HV.out,Hf.out,HB0.out,HI.out.ext HE0.out,HR0.out,HE0.out,hb1,hb2⟩
 case round =>
  clear HB0 HR0 HE0 HU;obtain ⟨b,z',s',a',n',c',rfl,hkk,hS,hF,hB,hZ,hR,hE,h1,h2⟩:=hrel;have HS:=Lh hS;have HF:=Lh hF;have HB:=Lh hB;have HZ:=Lh hZ;have HR:=Lh hR;have HE:=Lh hE;have Hkk:=Lh hkk;clear hS hF hB hZ hR hE hkk;obtain ⟨wo,rfl⟩:∃ wo:World,wo=wr:=⟨_,rfl⟩
  by_cases hb:b=0
  ·subst hb
   have e1:((0:Int) != 0)=false:=by decide
   have l0:=HB.out.c0;have l1:=HB.out.c1;have r0:=HR.out.c0;have r1:=HR.out.c1;have f0:=HR.out.f0;have f1:=HR.out.f1;have bR:=HR.out.own s' a' n' c';have k0:=bR.c0;have k1:=bR.c1
   have Hend:=Lh (show IsInt ((wo.setCell ⟨H+1,0,none⟩ (.int .i64 s')).setCell ⟨H+1,1,none⟩ (.slice a' n' c')) s' a' n' c' V/\Ext w ((wo.setCell ⟨H+1,0,none⟩ (.int .i64 s')).setCell ⟨H+1,1,none⟩ (.slice a' n' c')) from
    ⟨(HZ.out.cast HS.out.zero).keep64 (Keep64.set2 (.i64 r0) (.slice r1) (notW_i64 s') (.slice a' n' c')),HE.out.put2 (by rw [HH.out];omega) _ _⟩)
   clear bR
   go_wp2_with fail
   exact bodyPost_ret (v:=.agg #[.int .i64 s',.slice a' n' c']) (by simp [results,Tryz.results127,go_sem,k0,k1]) rfl ⟨s',a',n',c',rfl,Hend.out⟩
  have e1:(b != 0)=true:=rne_t hb
  go_upto_region 2 with fail
  go_cut [5] from 6 to 19 (fun s5 wx=>wx=wo/\∃ st:Int,s5=.int .i64 st/\((0<b/\1<=st/\st<=10000/\st<=b)\/(b<0/\-10000<=st/\st<=-1/\b<=st)))
  case first =>
   go_wp2_with fail
   go_meet
   exact ⟨rfl,max (-10000) (min b 10000),rfl,by omega⟩
  case rest =>
  obtain ⟨rfl,st,rfl,hst⟩:=hcut;have l0:=HB.out.c0;have l1:=HB.out.c1
  have wk:IntKind.i64.wrap (b-st)=b-st:=by rw [IntKind.wrap_i64];omega
  rcases hst with ⟨p1,p2,p3,p4⟩ | ⟨p1,p2,p3,p4⟩
  ·obtain ⟨N,rfl⟩:∃ N:Nat,st=(N:Int):=⟨st.toNat,by omega⟩
   have HSh:=Lh (Shift_up s' a' n' c' z' N wc HZ.out (by omega) K HK.out HF.out);have HS':=Lh (HS.out.up p1 p4);have Hr:=Lh (show (b-N).natAbs<b.natAbs/\-4611686018427387904<=b-N/\b-N<=4611686018427387904/\0<=b-N by omega);clear p1 p2 p3 p4 hb h1 h2 e1
   go_wp2_with fail
   refine HSh.out.mono ?_;rintro e w2 ⟨s2,a2,n2,c2,rfl,hI2,hx2⟩;have bx:=HB.out.ext hx2;have bR:=HR.out.ext hx2;have l0':=bx.c0;have l1':=bx.c1;have g0:=bx.f0;have g1:=bx.f1
   have Hend:=Lh (show Box ((w2.setCell ⟨H,0,none⟩ (.int .i64 s2)).setCell ⟨H,1,none⟩ (.slice a2 n2 c2)) H s2 a2 n2 c2/\IsInt ((w2.setCell ⟨H,0,none⟩ (.int .i64 s2)).setCell ⟨H,1,none⟩ (.slice a2 n2 c2)) s2 a2 n2 c2 (z'*((2 ^ N:Nat):Int))/\Box ((w2.setCell ⟨H,0,none⟩ (.int .i64 s2)).setCell ⟨H,1,none⟩ (.slice a2 n2 c2)) (H+1) 0 none 0 0/\Ext w ((w2.setCell ⟨H,0,none⟩ (.int .i64 s2)).setCell ⟨H,1,none⟩ (.slice a2 n2 c2)) from
    ⟨bx.own s2 a2 n2 c2,hI2.keep64 (Keep64.set2 (.i64 l0') (.slice l1') (notW_i64 s2) (.slice a2 n2 c2)),(bR.put (by omega) _).put (by omega) _,(HE.out.trans hx2).put2 (by rw [HH.out];exact Nat.le_refl _) _ _⟩)
   clear bx bR hI2 hx2 l0 l1 HSh
   go_wp2_with fail
   clear l0' l1' g0 g1;generalize (w2.setCell ⟨H,0,none⟩ (.int .i64 s2)).setCell ⟨H,1,none⟩ (.slice a2 n2 c2)=V2 at *
   go_roundg ((b-N).natAbs)
   case measure=>have:=Hkk.out;have:=Hr.out.1;omega
   case rel=>exact ⟨b-N,z'*((2 ^ N:Nat):Int),s2,a2,n2,c2,rfl,rfl,HS'.out,HS'.out.fit Hr.out.2.2.2 HfV.out,Hend.out.1,Hend.out.2.1,Hend.out.2.2.1,Hend.out.2.2.2,Hr.out.2.1,Hr.out.2.2.1⟩
  ·obtain ⟨N,rfl⟩:∃ N:Nat,st=-(N:Int):=⟨(-st).toNat,by omega⟩
   have HSh:=Lh (Shift_down s' a' n' c' z' N wc HZ.out (by omega) (by omega) K HK.out HK1.out HF.out (bru_ext Hbr.out HE.out));have HS':=Lh (HS.out.down p1 p4)
   have wk2:IntKind.i64.wrap (b+(N:Int))=b+(N:Int):=by rw [IntKind.wrap_i64];omega
   clear wk;have Hr:=Lh (show (b+(N:Int)).natAbs<b.natAbs/\-4611686018427387904<=b+(N:Int)/\b+(N:Int)<=4611686018427387904 by omega);clear p1 p2 p3 p4 hb h1 h2 e1
   go_wp2_with fail
   refine HSh.out.mono ?_;rintro e w2 ⟨s2,a2,n2,c2,rfl,hI2,hx2⟩;have bx:=HB.out.ext hx2;have bR:=HR.out.ext hx2;have l0':=bx.c0;have l1':=bx.c1;have g0:=bx.f0;have g1:=bx.f1
   have Hend:=Lh (show Box ((w2.setCell ⟨H,0,none⟩ (.int .i64 s2)).setCell ⟨H,1,none⟩ (.slice a2 n2 c2)) H s2 a2 n2 c2/\IsInt ((w2.setCell ⟨H,0,none⟩ (.int .i64 s2)).setCell ⟨H,1,none⟩ (.slice a2 n2 c2)) s2 a2 n2 c2 (z' / ((2 ^ N:Nat):Int))/\Box ((w2.setCell ⟨H,0,none⟩ (.int .i64 s2)).setCell ⟨H,1,none⟩ (.slice a2 n2 c2)) (H+1) 0 none 0 0/\Ext w ((w2.setCell ⟨H,0,none⟩ (.int .i64 s2)).setCell ⟨H,1,none⟩ (.slice a2 n2 c2)) from
    ⟨bx.own s2 a2 n2 c2,hI2.keep64 (Keep64.set2 (.i64 l0') (.slice l1') (notW_i64 s2) (.slice a2 n2 c2)),(bR.put (by omega) _).put (by omega) _,(HE.out.trans hx2).put2 (by rw [HH.out];exact Nat.le_refl _) _ _⟩)
   clear bx bR hI2 hx2 l0 l1 HSh
   go_wp2_with fail
   clear l0' l1' g0 g1;generalize (w2.setCell ⟨H,0,none⟩ (.int .i64 s2)).setCell ⟨H,1,none⟩ (.slice a2 n2 c2)=V2 at *
   go_roundg ((b+(N:Int)).natAbs)
   case measure=>have:=Hkk.out;have:=Hr.out.1;omega
   case rel=>exact ⟨b+(N:Int),z' / ((2 ^ N:Nat):Int),s2,a2,n2,c2,rfl,rfl,HS'.out,HF.out.div,Hend.out.1,Hend.out.2.1,Hend.out.2.2.1,Hend.out.2.2.2,Hr.out.2.1,Hr.out.2.2⟩
def shN (f V:Nat->Int) (j:Nat):Nat->Int:=fun i=>if i<j then V i else f i
theorem ShV.of_zero {b V:Int} (h:ShV b 0 V):V=0:=by
 rcases h with ⟨_,h⟩ | ⟨_,h⟩
 ·rw [<-h];simp
 ·rcases Int.mul_eq_zero.1 h.symm with h | h
  ·exact h
  ·have:0<2 ^ (-b).toNat:=Nat.pow_pos (by decide)
   omega
theorem shN_step (f V:Nat->Int) (j i:Nat):updN (shN f V j) j (V j) i=shN f V (j+1) i:=by
 unfold updN shN
 by_cases e:i=j
 ·subst e;simp
 ·rw [if_neg e]
  by_cases h:i<j
  ·rw [if_pos h,if_pos (by omega)]
  ·rw [if_neg h,if_neg (by omega)]
theorem shN_skip (f V:Nat->Int) (j i:Nat) (h:f j=V j):shN f V j i=shN f V (j+1) i:=by
 unfold shN
 by_cases e:i=j
 ·subst e;simp [h]
 ·by_cases h:i<j
  ·rw [if_pos h,if_pos (by omega)]
  ·rw [if_neg h,if_neg (by omega)]
theorem cell_congr {w w':World} {b o:Nat} (h:w'.heap[b]?=w.heap[b]?):w'.cell? ⟨b,o,none⟩=w.cell? ⟨b,o,none⟩:=by
 simp only [World.cell?];rw [h]
theorem bru_chg {g:Nat} {w w':World} (h:Bru w) (c:Chg g w w') (hg:Tryz.lays29_ren.g 1≠g):Bru w':=fun j hj=>by
 have h1:=h j hj;have hl:=World.block_lt_of_cell? _ _ h1;exact (cell_congr (c.block _ hg hl)).trans h1
theorem rowShift_any (g m:Nat) (t:TypeId) (f V:Nat->Int) (b0:Int) (w:World) (h:Nums w g m t f) (hm:8<=m) (K:Nat) (hK:K<=4194304) (hK1:1<=K) (hF:∀ i,i<8->Fit K (f i)) (hFV:∀ i,i<8->Fit K (V i)) (hb1 : -4611686018427387904<=b0) (hb2:b0<=4611686018427387904) (hV:∀ i,i<8->ShV b0 (f i) (V i)) (hbr:Bru w) (hgb:Tryz.lays29_ren.g 1≠g) :
  Calls Tryz.prog 88 #[.pointer (some ⟨g,0,none⟩),.int .i64 b0] w fun e w'=>e=.returned (.tuple #[])/\Nums w' g m t (shN f V 8)/\Chg g w w':=by
 have Hh:=Lh h;have HF:=Lh hF;have HFV:=Lh hFV;have Hm:=Lh hm;have HK:=Lh hK;have HK1:=Lh hK1;have HV:=Lh hV;have Hbr:=Lh hbr;have Hgb:=Lh hgb;have Hb1:=Lh hb1;have Hb2:=Lh hb2;clear h hF hFV hm hK hK1 hV hbr hgb hb1 hb2
 by_cases hb:b0=0
 ·subst hb
  have e1:((0:Int) == 0)=true:=by decide
  go_enter Tryz.func88,Tryz.ntmps88
  go_wp2_with fail
  refine bodyPost_ret (results_none rfl _ _ _) rfl ?_
  exact ⟨rfl,Hh.out.congr fun i _=>by
   unfold shN
   by_cases hi:i<8
   ·rw [if_pos hi];exact (HV.out i hi).zero
   ·rw [if_neg hi],Chg.of_ext (Ext.refl _)⟩
 have e1:(b0 == 0)=false:=by simp [hb]
 clear hb
 go_enter Tryz.func88,Tryz.ntmps88
 go_wp2_with fail
 clear e1
 go_loopg [4,7] 8 (fun kk s4 s7 wr=>∃ j:Nat,s7=.int .i64 (j:Int)/\j<=8/\8-j=kk/\Nums wr g m t (shN f V j)/\Chg g w wr)
 case atStart=>exact ⟨0,rfl,by omega,by omega,Hh.out.congr fun i _=>by simp [shN],Chg.of_ext (Ext.refl _)⟩
 case round =>
  obtain ⟨j,rfl,hj,hjk,hN,hC⟩:=hrel
  by_cases hj8:j=8
  ·subst hj8
   have Hend:=Lh (And.intro hN hC);clear hN hC
   go_wp2_with fail
   go_end0
   exact ⟨rfl,Hend.out⟩
  have hlt:j<8:=by omega
  have q1:(j:Int)<8:=by omega
  have q0:(0:Int)<=(j:Int):=by omega
  obtain ⟨s1,a1,n1,c1,y0,y1,_,_,hI1⟩:=hN.get j (by have:=Hm.out;omega)
  have hfj:shN f V j j=f j:=by simp [shN]
  rw [hfj] at hI1;have Hc1:=Lh hI1.cmp3;have HI1:=Lh hI1;have Hs:=Lh (Sign_any s1 (.slice a1 n1 c1));have HN:=Lh hN;have HC:=Lh hC;have Hjk:=Lh hjk;have hgl:=hN.lt;clear hI1 hN hC hjk hj8 hfj;obtain ⟨wo,rfl⟩:∃ wo:World,wo=wr:=⟨_,rfl⟩
  go_wp2_with fail
  refine (Hs.out wo).mono ?_;rintro e w2 ⟨rfl,hx2⟩;have HN2:=Lh (HN.out.ext hx2);have HC2:=Lh (HC.out.trans (Chg.of_ext hx2));have HI2:=Lh (HI1.out.ext hx2);have z0:=cellKeep hx2 hgl y0;have z1:=cellKeep hx2 hgl y1;have hgO:=HN2.out.lt;clear hx2 y0 y1 HN HC HI1 Hs hgl;rw [Hc1.out];clear Hc1
  have wk:IntKind.i64.wrap ((j:Int)+1)=((j+1:Nat):Int):=by rw [IntKind.wrap_i64];omega
  have Hj1:=Lh (show j+1<=8 by omega)
  by_cases hz2:f j=0
  ·have b2:(cmp3 (f j) 0 != 0)=false:=rne_f (cmp3_zero.2 hz2)
   have hvj:f j=V j:=by
    have:=HV.out j hlt;rw [hz2] at this;rw [hz2,this.of_zero]
   have Hcg:=Lh (fun i=>shN_skip f V j i hvj);clear hz2 z0 z1 hvj
   go_wp2_with fail
   go_roundg (8-(j+1))
   case measure=>have:=Hjk.out;have:=Hj1.out;omega
   case rel=>exact ⟨j+1,rfl,Hj1.out,rfl,HN2.out.congr fun i _=>Hcg.out i,HC2.out⟩
  have b2:(cmp3 (f j) 0 != 0)=true:=rne_t fun e=>hz2 (cmp3_zero.1 e)
  clear hz2;have HSh:=Lh (fun wx (hx:Ext w2 wx)=>shift_any s1 a1 n1 c1 (f j) b0 (V j) wx (HI2.out.ext hx) K HK.out HK1.out (HF.out j hlt) (HFV.out j hlt) Hb1.out Hb2.out (HV.out j hlt) (bru_ext (bru_chg Hbr.out HC2.out Hgb.out) hx))
  go_upto_region 5 with fail
  have hd0:Ext w2 w2.drew:=Below.drew (Ext.refl _);refine wp_region_K 11 (fun w'=>w'.cell? ⟨g,j*2,none⟩=some (.int .i64 s1)/\w'.cell? ⟨g,j*2+1,none⟩=some (.slice a1 n1 c1)) (by kernel_rfl) ?_
  show anyK _ _ _ _ _ _ 12 #[false,false,false,false,false,false,false,false,false,false,false,false] _ _
  have hHeld:w2.drew.cell? ⟨g,j*2,none⟩=some (.int .i64 s1)/\w2.drew.cell? ⟨g,j*2+1,none⟩=some (.slice a1 n1 c1):=⟨cellKeep hd0 hgO z0,cellKeep hd0 hgO z1⟩;refine kT 0 12 (v:=?_) rfl (Or.inl ⟨by rfl,?_⟩) hHeld ?_;rotate_left 1
  ·intro w hSw
   go_simp
   try with_reducible rfl
  show anyK _ _ _ _ _ _ _ _ (Act.put _ (some 17) _) _
  simp only [Act.put,sx0,sx1,sx2];refine kT 1 12 (v:=?_) rfl (Or.inl ⟨by rfl,?_⟩) hHeld ?_;rotate_left 1
  ·intro w hSw
   go_simp
   try with_reducible rfl
  show anyK _ _ _ _ _ _ _ _ (Act.put _ (some 18) _) _
  simp only [Act.put,sx0,sx1,sx2];refine kT 2 12 (v:=?_) rfl (Or.inl ⟨by rfl,?_⟩) hHeld ?_;rotate_left 1
  ·intro w hSw
   go_simp
   try with_reducible rfl
  show anyK _ _ _ _ _ _ _ _ (Act.put _ (some 19) _) _
  simp only [Act.put,sx0,sx1,sx2];refine kT 3 12 (v:=?_) rfl (Or.inl ⟨by rfl,?_⟩) hHeld ?_;rotate_left 1
  ·intro w hSw
   go_simp
   try with_reducible rfl
  show anyK _ _ _ _ _ _ _ _ (Act.put _ (some 20) _) _
  simp only [Act.put,sx0,sx1,sx2];refine kT 4 12 (v:=?_) rfl (Or.inl ⟨by rfl,?_⟩) hHeld ?_;rotate_left 1
  ·intro w hSw
   go_simp
   try with_reducible rfl
  show anyK _ _ _ _ _ _ _ _ (Act.put _ (some 21) _) _
  simp only [Act.put,sx0,sx1,sx2];refine kT 5 12 (v:=?_) rfl (Or.inl ⟨by rfl,?_⟩) hHeld ?_;rotate_left 1
  ·intro w hSw
   go_simp
   try with_reducible rfl
  show anyK _ _ _ _ _ _ _ _ (Act.put _ (some 22) _) _
  simp only [Act.put,sx0,sx1,sx2];refine kT 6 12 (v:=?_) rfl (Or.inl ⟨by rfl,?_⟩) hHeld ?_;rotate_left 1
  ·intro w hSw
   go_simp
   try with_reducible rfl
  show anyK _ _ _ _ _ _ _ _ (Act.put _ (some 23) _) _
  simp only [Act.put,sx0,sx1,sx2];refine kT 7 12 (v:=?_) rfl (Or.inl ⟨by rfl,?_⟩) hHeld ?_;rotate_left 1
  ·intro w hSw
   go_simp
   try with_reducible rfl
  show anyK _ _ _ _ _ _ _ _ (Act.put _ (some 24) _) _
  simp only [Act.put,sx0,sx1,sx2];refine kT 9 12 (v:=?_) rfl (Or.inl ⟨by rfl,?_⟩) hHeld ?_;rotate_left 1
  ·intro w hSw
   go_simp
   try with_reducible rfl
  show anyK _ _ _ _ _ _ _ _ (Act.put _ (some 26) _) _
  simp only [Act.put,sx0,sx1,sx2];clear hHeld;refine anyK_one (i:=8) (by kernel_rfl) rfl (fun Kk hKk=>?_)
  go_simp
  (go_at_call 127;refine (HSh.out w2.drew hd0).mono ?_;rintro e w3 ⟨s3,a3,n3,c3,rfl,hI3,hx3⟩)
  have he3:=hd0.trans hx3
  go_wp2_with fail
  refine hKk.out _ _ (fun _=>⟨cellKeep he3 hgO z0,cellKeep he3 hgO z1⟩) ?_;clear hKk Kk;simp only [sx0,sx1,sx2];have hHeld:w3.cell? ⟨g,j*2,none⟩=some (.int .i64 s1)/\w3.cell? ⟨g,j*2+1,none⟩=some (.slice a1 n1 c1):=⟨cellKeep he3 hgO z0,cellKeep he3 hgO z1⟩;refine kT 10 12 (v:=?_) rfl (Or.inl ⟨by rfl,?_⟩) hHeld ?_;rotate_left 1
  ·intro w hSw
   go_simp
   try with_reducible rfl
  show anyK _ _ _ _ _ _ _ _ (Act.put _ (some 27) _) _
  simp only [Act.put,sx0,sx1,sx2];clear hHeld;have hN3:=HN2.out.ext he3;obtain ⟨s4,a4,n4,c4,x0,x1,fz0,fz1,_⟩:=hN3.get j (by have:=Hm.out;omega);have hset:=hN3.set j (by have:=Hm.out;omega) hI3;have hkp:=hN3.keep j (by have:=Hm.out;omega) s3 (.slice a3 n3 c3);refine anyK_one (i:=11) (by kernel_rfl) rfl (fun Kk hKk=>?_);refine stepK_storeW rfl rfl _ _ rfl g (j*2) s3 a3 n3 c3 _ _ rfl rfl x0 x1 fz0 fz1 ?_;refine hKk.out _ _ (fun h=>Bool.noConfusion (show true=false from h)) ?_;clear hKk Kk;simp only [sx0,sx1,sx2];refine anyK_done (by kernel_rfl) ?_ _;have hP:Only g w3 ((w3.setCell ⟨g,j*2,none⟩ (.int .i64 s3)).setCell ⟨g,j*2+1,none⟩ (.slice a3 n3 c3)):=((Only.refl _ _).setCell _ _).setCell _ _
  have Hend:=Lh (show Nums ((w3.setCell ⟨g,j*2,none⟩ (.int .i64 s3)).setCell ⟨g,j*2+1,none⟩ (.slice a3 n3 c3)) g m t (shN f V (j+1))/\Chg g w ((w3.setCell ⟨g,j*2,none⟩ (.int .i64 s3)).setCell ⟨g,j*2+1,none⟩ (.slice a3 n3 c3)) from
   ⟨hset.congr fun i _=>shN_step f V j i,(HC2.out.trans (Chg.of_ext he3)).trans (Chg.of_only hP hkp)⟩)
  clear hset hkp hP hN3 x0 x1 fz0 fz1 z0 z1 HSh HN2 HC2 HI2;generalize (w3.setCell ⟨g,j*2,none⟩ (.int .i64 s3)).setCell ⟨g,j*2+1,none⟩ (.slice a3 n3 c3)=V3 at *
  go_wp2_with fail
  go_roundg (8-(j+1))
  case measure=>have:=Hjk.out;have:=Hj1.out;omega
  case rel=>exact ⟨j+1,rfl,Hj1.out,rfl,Hend.out⟩
theorem keep_only {w w':World} {g:Nat} {cs:Array Value} {t:TypeId} (ho:Only g w w') (h:w.heap[g]?=some (.cells cs t (0,0))) (hn:∀ (i:Nat) (x:Int),cs[i]?≠some (Value.int .u64 x)):Keep64 w w':=by
 refine ⟨by rw [ho.size];exact Nat.le_refl _,fun b o x hx=>?_⟩
 by_cases hb:b=g
 ·subst hb
  rw [cell_of_row w b o cs t (0,0) h] at hx;exact absurd hx (hn o x)
 ·have:=ho.block b hb
  simp only [World.cell?] at hx ⊢;rw [this];exact hx
def ext8 (f:Nat->Int):Int->Int:=fun k=>if k % 16<8 then f (k % 8).toNat else -f (k % 8).toNat
theorem anti_ext8 (f:Nat->Int):Anti (ext8 f):=fun k=>by
 unfold ext8;rw [show (k+8) % 8=k % 8 by omega]
 by_cases h:k % 16<8
 ·rw [if_pos h,if_neg (by omega)]
 ·rw [if_neg h,if_pos (by omega)];omega
theorem ext8_at (f:Nat->Int) (j:Int) (h0:0<=j) (h1:j<8):ext8 f j=f j.toNat:=by
 unfold ext8;rw [if_pos (by omega),show j % 8=j by omega]
theorem ext8_congr {f g:Nat->Int} (h:∀ i,i<8->f i=g i):ext8 f=ext8 g :=
 (anti_ext8 f).ext (anti_ext8 g) fun j h0 h1=>by rw [ext8_at f j h0 h1,ext8_at g j h0 h1,h _ (by omega)]
theorem ext8_of {a:Int->Int} (ha:Anti a):ext8 (fun i=>a i)=a :=
 (anti_ext8 _).ext ha fun j h0 h1=>by rw [ext8_at _ j h0 h1,show ((j.toNat:Nat):Int)=j by omega]
theorem ext8_zero:ext8 (fun _=>0)=fun _=>0:=(anti_ext8 _).ext anti_zero fun j h0 h1=>by rw [ext8_at _ j h0 h1]
theorem ext8_abs {f:Nat->Int} {A:Nat} (h:∀ i,i<8->(f i).natAbs<=A) (k:Int):(ext8 f k).natAbs<=A:=by
 unfold ext8;have:=h (k % 8).toNat (by omega)
 split<;>omega
theorem ext8_add (f:Nat->Int) (k z:Int):ext8 (addN f k z)=addR (ext8 f) (mono k z) :=
 (anti_ext8 _).ext ((anti_ext8 f).add (anti_mono k z)) fun j h0 h1=>by
  rw [ext8_at _ j h0 h1,add_mono (ext8 f) k z j h0 h1,ext8_at f j h0 h1];unfold addN updN sgK
  by_cases e:j=k % 8
  ·rw [if_pos (by omega),if_pos e,<-e]
  ·rw [if_neg (by omega),if_neg e]
theorem ext8_mulN (f:Nat->Int) (k z:Int) (g:Nat->Int):ext8 (mulN f k z g 8)=addR (ext8 f) (trR k fun x=>z*ext8 g x):=by
 have hz:Anti fun x=>z*ext8 g x:=fun x=>by show z*_=_;rw [anti_ext8 g];exact Int.mul_neg _ _
 rw [<-sum_monos hz k]
 have e:∀ i:Nat,i<8->ext8 g (i:Int)=g i:=fun i hi=>by rw [ext8_at g i (by omega) (by omega)];rfl
 have c:∀ i:Int,mono (k+i) (z*ext8 g i)=mono (i+k) (z*ext8 g i):=fun i=>by rw [Int.add_comm]
 funext x
 simp only [mulN,ext8_add,addR,sum8,<-c];have e0:=e 0 (by omega);have e1:=e 1 (by omega);have e2:=e 2 (by omega);have e3:=e 3 (by omega);have e4:=e 4 (by omega);have e5:=e 5 (by omega);have e6:=e 6 (by omega);have e7:=e 7 (by omega);simp only [Int.cast_ofNat_Int] at e0 e1 e2 e3 e4 e5 e6 e7 ⊢;rw [e0,e1,e2,e3,e4,e5,e6,e7];omega
def prN (f g:Nat->Int):Nat->Nat->Int
 | 0=>fun _=>0
 | j+1=>mulN (prN f g j) j (f j) g 8
theorem ext8_prN (f g:Nat->Int):ext8 (prN f g 8)=mulR (ext8 f) (ext8 g):=by
 have e:∀ i:Nat,i<8->ext8 f (i:Int)=f i:=fun i hi=>by rw [ext8_at f i (by omega) (by omega)];rfl
 funext x
 simp only [prN,ext8_mulN,addR,mulR,sum8,trR,ext8_zero];have e0:=e 0 (by omega);have e1:=e 1 (by omega);have e2:=e 2 (by omega);have e3:=e 3 (by omega);have e4:=e 4 (by omega);have e5:=e 5 (by omega);have e6:=e 6 (by omega);have e7:=e 7 (by omega);simp only [Int.cast_ofNat_Int] at e0 e1 e2 e3 e4 e5 e6 e7 ⊢;rw [e0,e1,e2,e3,e4,e5,e6,e7];omega
theorem prN_abs (f g:Nat->Int) (P:Nat) (hP:∀ i j,i<8->j<8->(f i*g j).natAbs<=P):∀ j,j<=8->∀ i,i<8->(prN f g j i).natAbs<=j*(8*P)
 | 0,_,i,hi=>by simp [prN]
 | j+1,hj,i,hi=>by
  have h1:=mulN_abs (prN f g j) j (f j) g (j*(8*P)) P (prN_abs f g P hP j (by omega)) (fun i hi=>hP j i (by omega) hi) 8 (by omega) i hi;simp only [prN];rw [Nat.succ_mul];exact h1
def trnN (f:Nat->Int) (k:Int):Nat->Nat->Int
 | 0=>fun i=>if i=8 then f 8 else 0
 | j+1=>addN (trnN f k j) (j+k) (f j)
theorem ext8_cut (d:Int):ext8 (fun i=>if i=8 then d else 0)=fun _=>0:=by
 rw [<-ext8_zero];exact ext8_congr fun i hi=>if_neg (by omega)
theorem ext8_trnN (f:Nat->Int) (k:Int):ext8 (trnN f k 8)=trR k (ext8 f):=by
 rw [<-sum_monos (anti_ext8 f) k]
 have e:∀ i:Nat,i<8->ext8 f (i:Int)=f i:=fun i hi=>by rw [ext8_at f i (by omega) (by omega)];rfl
 funext x
 simp only [trnN,ext8_add,addR,sum8,ext8_cut];have e0:=e 0 (by omega);have e1:=e 1 (by omega);have e2:=e 2 (by omega);have e3:=e 3 (by omega);have e4:=e 4 (by omega);have e5:=e 5 (by omega);have e6:=e 6 (by omega);have e7:=e 7 (by omega);simp only [Int.cast_ofNat_Int] at e0 e1 e2 e3 e4 e5 e6 e7 ⊢;rw [e0,e1,e2,e3,e4,e5,e6,e7];omega
theorem addN_far (f:Nat->Int) (k z:Int):addN f k z 8=f 8:=by unfold addN updN;rw [if_neg (by omega)]
theorem trnN_down (f:Nat->Int) (k:Int):∀ j,trnN f k j 8=f 8
 | 0=>by simp [trnN]
 | j+1=>by simp only [trnN];rw [addN_far];exact trnN_down f k j
theorem trnN_abs (f:Nat->Int) (k:Int) (A:Nat) (hA:∀ i,i<8->(f i).natAbs<=A):∀ j,j<=8->∀ i,i<8->(trnN f k j i).natAbs<=j*A
 | 0,_,i,hi=>by simp only [trnN];rw [if_neg (by omega)];simp
 | j+1,hj,i,hi=>by
  have:=addN_abs (trnN f k j) (j+k) (f j) (j*A) A (trnN_abs f k A hA j (by omega)) (hA j (by omega)) i hi;simp only [trnN];rw [Nat.succ_mul];exact this
def cjN (f:Nat->Int):Nat->Nat->Int
 | 0=>fun i=>if i=8 then f 8 else 0
 | j+1=>addN (cjN f j) (-(j:Int)) (f j)
theorem mono_cj (k n j:Int):mono (-k) n j=mono k n (-j):=by unfold mono;repeat (split);all_goals omega
theorem ext8_cjN (f:Nat->Int):ext8 (cjN f 8)=cjR (ext8 f):=by
 have hs:=sum_monos (anti_ext8 f) 0
 have e:∀ i:Nat,i<8->ext8 f (i:Int)=f i:=fun i hi=>by rw [ext8_at f i (by omega) (by omega)];rfl
 funext x
 have h2:=congrFun hs (-x);simp only [trR,Int.sub_zero,Int.add_zero] at h2;unfold cjR;rw [<-h2];simp only [cjN,ext8_add,addR,sum8,ext8_cut];have e0:=e 0 (by omega);have e1:=e 1 (by omega);have e2:=e 2 (by omega);have e3:=e 3 (by omega);have e4:=e 4 (by omega);have e5:=e 5 (by omega);have e6:=e 6 (by omega);have e7:=e 7 (by omega);simp only [mono_cj];simp only [Int.cast_ofNat_Int] at e0 e1 e2 e3 e4 e5 e6 e7 ⊢;rw [e0,e1,e2,e3,e4,e5,e6,e7];omega
theorem cjN_down (f:Nat->Int):∀ j,cjN f j 8=f 8
 | 0=>by simp [cjN]
 | j+1=>by simp only [cjN];rw [addN_far];exact cjN_down f j
theorem cjN_abs (f:Nat->Int) (A:Nat) (hA:∀ i,i<8->(f i).natAbs<=A):∀ j,j<=8->∀ i,i<8->(cjN f j i).natAbs<=j*A
 | 0,_,i,hi=>by simp only [cjN];rw [if_neg (by omega)];simp
 | j+1,hj,i,hi=>by
  have:=addN_abs (cjN f j) (-(j:Int)) (f j) (j*A) A (cjN_abs f A hA j (by omega)) (hA j (by omega)) i hi;simp only [cjN];rw [Nat.succ_mul];exact this
def hfN (f:Nat->Int):Nat->Nat->Int
 | 0=>fun _=>0
 | j+1=>addN (addN (hfN f j) (j+2) (f j)) (j-2) (f j)
theorem ext8_hfN (f:Nat->Int):ext8 (hfN f 8)=addR (trR 2 (ext8 f)) (trR (-2) (ext8 f)):=by
 have h1:=sum_monos (anti_ext8 f) 2;have h2:=sum_monos (anti_ext8 f) (-2)
 have e:∀ i:Nat,i<8->ext8 f (i:Int)=f i:=fun i hi=>by rw [ext8_at f i (by omega) (by omega)];rfl
 rw [<-h1,<-h2]
 funext x
 simp only [hfN,ext8_add,addR,sum8,ext8_zero,Int.sub_eq_add_neg];have e0:=e 0 (by omega);have e1:=e 1 (by omega);have e2:=e 2 (by omega);have e3:=e 3 (by omega);have e4:=e 4 (by omega);have e5:=e 5 (by omega);have e6:=e 6 (by omega);have e7:=e 7 (by omega);simp only [Int.cast_ofNat_Int] at e0 e1 e2 e3 e4 e5 e6 e7 ⊢;rw [e0,e1,e2,e3,e4,e5,e6,e7];omega
theorem hfN_abs (f:Nat->Int) (A:Nat) (hA:∀ i,i<8->(f i).natAbs<=A):∀ j,j<=8->∀ i,i<8->(hfN f j i).natAbs<=j*(A+A)
 | 0,_,i,hi=>by simp [hfN]
 | j+1,hj,i,hi=>by
  have h1:=addN_abs (hfN f j) (j+2) (f j) (j*(A+A)) A (hfN_abs f A hA j (by omega)) (hA j (by omega));have:=addN_abs _ (j-2) (f j) _ A h1 (hA j (by omega)) i hi;simp only [hfN];rw [Nat.succ_mul];omega
theorem ext8_scale {f V:Nat->Int} {c:Int} (h:∀ i,i<8->f i=V i*c) (k:Int):ext8 f k=ext8 V k*c:=by
 unfold ext8;have:=h (k % 8).toNat (by omega)
 split
 ·exact this
 ·rw [this,Int.neg_mul]
theorem low_of {f V:Nat->Int} {d b:Nat} (hb:b<=d) (hV:∀ i,i<8->f i=V i*2 ^ b) (ho:b=d\/∃ i,i<8/\V i % 2=1):Low ⟨ext8 V,d-b⟩/\EqN ⟨ext8 V,d-b⟩ ⟨ext8 f,d⟩:=by
 constructor
 ·rcases ho with h | ⟨i,hi,h⟩
  ·exact Or.inl (by show d-b=0;omega)
  ·refine Or.inr ⟨(i:Int),?_⟩
   show ext8 V i % 2=1
   rw [ext8_at V i (by omega) (by omega)];exact h
 ·intro k
  show ext8 V k*2 ^ d=ext8 f k*2 ^ (d-b)
  rw [ext8_scale hV k,Int.mul_assoc,<-Int.pow_add,show b+(d-b)=d by omega]
theorem low_nil {f:Nat->Int} (hf:∀ i,i<8->f i=0) (d:Nat):Low ⟨ext8 (fun _=>0),0⟩/\EqN ⟨ext8 (fun _=>0),0⟩ ⟨ext8 f,d⟩:=by
 refine ⟨Or.inl rfl,fun k=>?_⟩
 have e:ext8 f=fun _=>0:=by rw [<-ext8_zero];exact ext8_congr hf
 show ext8 (fun _=>0) k*2 ^ d=ext8 f k*2 ^ 0
 rw [e,ext8_zero];simp
def nHf (x:Nm):Nm:=⟨addR (trR 2 x.a) (trR (-2) x.a),x.e+1⟩
theorem EqN.hf {x x':Nm} (h:EqN x x'):EqN (nHf x) (nHf x'):=fun k=>by
 have h1:=h (k-2);have h2:=h (k - -2);simp only [nHf,addR,trR,Int.pow_succ]
 grind
theorem n_add_over {a b:Int->Int} {d e:Nat} (h:e<=d):EqN ⟨addR a (fun k=>b k*2 ^ (d-e)),d⟩ (nAdd ⟨a,d⟩ ⟨b,e⟩):=fun k=>by
 obtain ⟨c,rfl⟩:∃ c,d=e+c:=⟨d-e,by omega⟩;rw [show e+c-e=c by omega];simp only [nAdd,addR,Int.pow_add]
 grind
theorem nAdd_comm (x y:Nm):nAdd x y=nAdd y x:=by
 unfold nAdd;rw [Nat.add_comm]
 congr 1
 funext k
 rw [Int.add_comm]
theorem nNeg_tr {x:Nm} (hx:Anti x.a):nTr 8 x=nNeg x:=by
 unfold nTr nNeg
 congr 1
 funext k
 exact hx.back k
theorem Low.tr {x:Nm} (h:Low x) (m:Int):Low (nTr m x):=by
 rcases h with h | ⟨k,h⟩
 ·exact Or.inl h
 ·refine Or.inr ⟨k+m,?_⟩
  show x.a (k+m-m) % 2=1
  rw [show k+m-m=k by omega];exact h
theorem Low.cj {x:Nm} (h:Low x):Low (nCj x):=by
 rcases h with h | ⟨k,h⟩
 ·exact Or.inl h
 ·refine Or.inr ⟨-k,?_⟩
  show x.a (- -k) % 2=1
  rw [Int.neg_neg];exact h
theorem low_rt:Low nRt:=Or.inr ⟨2,by decide⟩
theorem EqN.zero {x y:Nm} (h:EqN x y):(∀ k,x.a k=0)↔∀ k,y.a k=0:=by
 constructor
 ·intro hz k
  have h1:=h k;rw [hz,Int.zero_mul] at h1;exact (Int.mul_eq_zero.1 h1.symm).resolve_right (two_ne _)
 ·intro hz k
  have h1:=h k;rw [hz,Int.zero_mul] at h1;exact (Int.mul_eq_zero.1 h1).resolve_right (two_ne _)
structure Gop where
 kind:Int
 k:Int
 ctl:List Int
 q:Int
 bit:Int
 cnd:List Int
structure Gci where
 qubits:Int
 bits:Int
 ops:List Gop
def below (n b:Int):Bool:=decide (0<=n) && decide (n<b)
def fitsB (v b:Int) (used:Bool):Bool:=if used then below v b else v == 0
def usesK (k:Int):Bool:=k == 1 || k == 4
def usesQ (k:Int):Bool:=!(k == 1)
def usesC (k:Int):Bool:=k == 2 || k == 3 || k == 4
def usesB (k:Int):Bool:=k == 5
def ctlCode (q n:Int):List Int->List Int->Int
 | _,[]=>0
 | seen,c :: r=>if below c n=false then 10 else if c=q\/c ∈ seen then 12 else ctlCode q n (seen++[c]) r
def termOk (bits t:Int):Bool:=!(t == 0) && decide (-bits<=t) && decide (t<=bits)
def cndOk (bits:Int) (l:List Int):Bool:=decide (l.length<=24) && l.all (termOk bits)
def opCode (o:Gop) (n bits:Int):Int :=
 if o.kind<1\/6<o.kind then 8
 else if fitsB o.k 16 (usesK o.kind)=false then 9
 else if fitsB o.q n (usesQ o.kind)=false then 10
 else if 0<o.ctl.length/\usesC o.kind=false then 11
 else if ctlCode o.q n [] o.ctl≠0 then ctlCode o.q n [] o.ctl
 else if fitsB o.bit bits (usesB o.kind)=false then 13
 else if cndOk bits o.cnd=false then 14
 else 0
def opsCode (n bits:Int):Nat->List Gop->Int × Int
 | _,[]=>(0,0)
 | i,o :: r=>if opCode o n bits≠0 then (opCode o n bits,(i:Int)) else opsCode n bits (i+1) r
def chk (c:Gci):Int × Int :=
 if c.qubits<1\/12<c.qubits then (6,0)
 else if c.bits<0\/12<c.bits then (7,0)
 else if 4096<c.ops.length then (2,0)
 else opsCode c.qubits c.bits 0 c.ops
theorem ctlCode_step (q n:Int) (l:List Int) (i:Nat) (h:i<l.length):ctlCode q n (l.take i) (l.drop i)=if below (l.getD i 0) n=false then 10 else if l.getD i 0=q\/l.getD i 0 ∈ l.take i then 12 else ctlCode q n (l.take (i+1)) (l.drop (i+1)):=by
 have h1:l.drop i=l[i] :: l.drop (i+1):=List.drop_eq_getElem_cons h
 have h2:l.take (i+1)=l.take i++[l[i]]:=by rw [List.take_add_one,List.getElem?_eq_getElem h];rfl
 have h3:l.getD i 0=l[i]:=by rw [List.getD_eq_getElem?_getD,List.getElem?_eq_getElem h];rfl
 rw [h1,ctlCode,<-h2,h3]
theorem ctlCode_end (q n:Int) (l:List Int) (i:Nat) (h:l.length<=i):ctlCode q n (l.take i) (l.drop i)=0:=by
 rw [List.drop_eq_nil_of_le h];rfl
theorem all_step (p:Int->Bool) (l:List Int) (i:Nat) (h:i<l.length):(l.drop i).all p=(p (l.getD i 0) && (l.drop (i+1)).all p):=by
 have h1:l.drop i=l[i] :: l.drop (i+1):=List.drop_eq_getElem_cons h
 have h3:l.getD i 0=l[i]:=by rw [List.getD_eq_getElem?_getD,List.getElem?_eq_getElem h];rfl
 rw [h1,List.all_cons,h3]
def IntsAt (w:World) (ao:Option Addr) (n:Nat) (l:List Int):Prop :=
 l.length=n/\(n=0\/∃ b o,ao=some ⟨b,o,none⟩/\b<w.heap.size/\∀ t,t<n->w.cell? ⟨b,o+t,none⟩=some (.int .i64 (l.getD t 0)))
theorem IntsAt.ext {w w':World} {ao:Option Addr} {n:Nat} {l:List Int} (h:IntsAt w ao n l) (k:Ext w w'):IntsAt w' ao n l:=by
 refine ⟨h.1,?_⟩
 rcases h.2 with h0 | ⟨b,o,e,hb,hc⟩
 ·exact Or.inl h0
 ·exact Or.inr ⟨b,o,e,Nat.lt_of_lt_of_le hb k.size,fun t ht=>(k.cell (p:=⟨b,o+t,none⟩) hb).trans (hc t ht)⟩
theorem IntsAt.take {w:World} {ao:Option Addr} {n:Nat} {l:List Int} (h:IntsAt w ao n l) (m:Nat) (hm:m<=n):IntsAt w ao m (l.take m):=by
 refine ⟨by rw [List.length_take,h.1];omega,?_⟩
 rcases h.2 with h0 | ⟨b,o,e,hb,hc⟩
 ·exact Or.inl (by omega)
 ·refine Or.inr ⟨b,o,e,hb,fun t ht=>?_⟩
  rw [hc t (by omega),List.getD_eq_getElem?_getD,List.getD_eq_getElem?_getD,List.getElem?_take,if_pos ht]
theorem IntsAt.at {w:World} {ao:Option Addr} {n:Nat} {l:List Int} (h:IntsAt w ao n l) (hn:0<n):∃ b o,ao=some ⟨b,o,none⟩/\b<w.heap.size/\∀ t,t<n->w.cell? ⟨b,o+t,none⟩=some (.int .i64 (l.getD t 0)):=by
 rcases h.2 with h0 | h
 ·omega
 ·exact h
theorem isBelow_any (n b:Int) (w:World):Calls Tryz.prog 46 #[.int .i64 n,.int .i64 b] w fun e w'=>e=.returned (.bool (below n b))/\w'=w:=by
 by_cases h0:0<=n
 ·by_cases h1:n<b
  ·have e:below n b=true:=by simp [below,h0,h1]
   rw [e]
   go_enter Tryz.func46,Tryz.ntmps46
   go_wp2
   go_ret
   exact ⟨rfl,rfl⟩
  ·have e:below n b=false:=by simp [below,h1]
   rw [e]
   have h1':decide (n<b)=false:=by simp [h1]
   go_enter Tryz.func46,Tryz.ntmps46
   go_wp2
   go_ret
   exact ⟨rfl,rfl⟩
 ·have e:below n b=false:=by simp [below,h0]
  rw [e]
  have h0':decide (0<=n)=false:=by simp [h0]
  go_enter Tryz.func46,Tryz.ntmps46
  go_wp2
  go_ret
  exact ⟨rfl,rfl⟩
theorem fits_any (v b:Int) (u:Bool) (w:World):Calls Tryz.prog 111 #[.int .i64 v,.int .i64 b,.bool u] w fun e w'=>e=.returned (.bool (fitsB v b u))/\w'=w:=by
 cases u
 ·go_enter Tryz.func111,Tryz.ntmps111
  go_wp2
  go_ret
  exact ⟨rfl,rfl⟩
 ·go_enter Tryz.func111,Tryz.ntmps111
  go_wp2_with fail
  refine (isBelow_any _ _ _).mono ?_;rintro e w1 ⟨rfl,rfl⟩
  go_wp2_with fail
  go_ret
  exact ⟨rfl,rfl⟩
end Go.Proofs.YtfjnlopbmkimiaaGreatDoor
