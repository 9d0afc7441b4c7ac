/-
  The reference: sums. The reference: differences. The reference: a number mirrored. The reference's writing: ZText. The reference: the text of a number. The reference's Make in one; what both sides keep of one number is the same.
-/
import Derived.Test.YtiicfpdiehgikaaGreatDoorS16Uf
namespace Go.Proofs.YtiicfpdiehgikaaGreatDoor
set_option maxRecDepth 100000
set_option maxHeartbeats 4000000
open Go.RowKit
def adQ (f g:Nat→Int) (j:Nat):Nat→Int:=fun i=>if i<j then f i+g i else f i
theorem adN_step (f g:Nat→Int) (j i:Nat):updN (adQ f g j) j (f j+g j) i=adQ f g (j+1) i:=by
 unfold updN adQ
 by_cases e:i=j
 ·subst e;simp
 ·rw [if_neg e]
  by_cases h:i<j
  ·rw [if_pos h,if_pos (by omega)]
  ·rw [if_neg h,if_neg (by omega)]
theorem zero_of_zeroN {x:Nm} (hx:Anti x.a) (h:zeroN fun i:Nat=>x.a i):∀ k,x.a k=0:=fun k=>by
 have h1:ext8 (fun i:Nat=>x.a i)=ext8 fun _=>0:=ext8_congr fun i hi=>h i hi
 have h2:=congrFun (ext8_of hx) k
 rw [←h2,h1,ext8_zero]
theorem eqN_zero_add {x y:Nm} (h:∀ k,x.a k=0):EqN y (nAdd x y):=fun k=>by
 have:=h k
 simp only [nAdd,this,Int.pow_add];grind
theorem eqN_add_zero {x y:Nm} (h:∀ k,y.a k=0):EqN x (nAdd x y):=fun k=>by
 have:=h k
 simp only [nAdd,this,Int.pow_add];grind
theorem ext8_lin (f g:Nat→Int) (c c':Int) (k:Int):ext8 (fun i=>f i*c+g i*c') k=ext8 f k*c+ext8 g k*c':=by
 unfold ext8
 split
 ·rfl
 ·simp only [Int.neg_add,Int.neg_mul]
theorem eqN_sum {x y:Nm} (hx:Anti x.a) (hy:Anti y.a) {M p q:Nat} (h1:p+x.e=M) (h2:q+y.e=M) :
  EqN ⟨ext8 (fun i:Nat=>x.a i*((2 ^ p:Nat):Int)+y.a i*((2 ^ q:Nat):Int)),M⟩ (nAdd x y):=fun k=>by
 show ext8 (fun i:Nat=>x.a i*((2 ^ p:Nat):Int)+y.a i*((2 ^ q:Nat):Int)) k*2 ^ (x.e+y.e)=(x.a k*2 ^ y.e+y.a k*2 ^ x.e)*2 ^ M
 rw [ext8_lin (fun i:Nat=>x.a i) (fun i:Nat=>y.a i),congrFun (ext8_of hx) k,congrFun (ext8_of hy) k]
 have e1:(2:Int) ^ M=((2 ^ p:Nat):Int)*2 ^ x.e:=by rw [←h1,Int.pow_add];simp
 have e2:(2:Int) ^ M=((2 ^ q:Nat):Int)*2 ^ y.e:=by rw [←h2,Int.pow_add];simp
 rw [Int.pow_add]
 grind
theorem abs_pow {z:Int} {P p:Nat} (h:z.natAbs<2 ^ P):(z*((2 ^ p:Nat):Int)).natAbs<2 ^ (P+p):=by
 rw [Int.natAbs_mul,Int.natAbs_natCast,Nat.pow_add]
 exact Nat.mul_lt_mul_of_pos_right h (Nat.pow_pos (by decide))
theorem abs_le_pow {z:Int} {P p Q:Nat} (h:z.natAbs<2 ^ P) (hQ:P+p≤Q):(z*((2 ^ p:Nat):Int)).natAbs<2 ^ Q :=
 Nat.lt_of_lt_of_le (abs_pow h) (Nat.pow_le_pow_right (by decide) hQ)
theorem abs_sum {a b:Int} {Q:Nat} (ha:a.natAbs<2 ^ Q) (hb:b.natAbs<2 ^ Q):(a+b).natAbs<2 ^ (Q+1):=by
 rw [Nat.pow_succ];omega
theorem QAdd_w (ca cb:Array Value) (x y:Nm) (P E:Nat) (w:World) (h:RmW w ca x P E) (g:RmW w cb y P E) (hP:P+E+1≤400000) (hE:E≤10000) :
  Calls Tryz.prog 30 #[.agg ca,.agg cb] w fun r w'=>∃ (cr:Array Value) (z:Nm),r=.returned (.agg cr)∧RmW w' cr z (P+E+1) E∧(Low x→Low y→Low z)∧EqN z (nAdd x y)∧Ext w w':=by
 obtain ⟨X,hX⟩:∃ X:Nat→Int,(fun i:Nat=>x.a i)=X:=⟨_,rfl⟩
 obtain ⟨Y,hY⟩:∃ Y:Nat→Int,(fun i:Nat=>y.a i)=Y:=⟨_,rfl⟩
 have hv:=h.val;have gv:=g.val
 rw [hX] at hv
 rw [hY] at gv
 have hXa:∀ i,i<8→(X i).natAbs<2 ^ P:=fun i _=>by rw [←hX];exact h.abs i
 have hYa:∀ i,i<8→(Y i).natAbs<2 ^ P:=fun i _=>by rw [←hY];exact g.abs i
 obtain ⟨H,hH⟩:∃ H,w.heap.size=H:=⟨_,rfl⟩
 obtain ⟨U,hU⟩:∃ U,((w.alloc (.cells ca 38)).alloc (.cells cb 38)).alloc (.cells zeroR 38)=U:=⟨_,rfl⟩
 have E0:Ext w U:=by rw [←hU];exact ((Ext.alloc _ _).trans (Ext.alloc _ _)).trans (Ext.alloc _ _)
 have A0:ZVar U H X (x.e:Int):=by rw [←hU,←hH];exact (hv.box.ext (Ext.alloc _ _)).ext (Ext.alloc _ _)
 have B0:ZVar U (H+1) Y (y.e:Int):=by
  have:=((gv.ext (Ext.alloc w (.cells ca 38))).box).ext (Ext.alloc _ (.cells zeroR 38))
  rw [←hU,←hH]
  simpa using this
 have Z0:ZVar U (H+2) (fun _=>0) 0:=by
  have:=(zcs_zero ((w.alloc (.cells ca 38)).alloc (.cells cb 38))).box
  rw [←hU,←hH]
  simpa using this
 have HU:=Lib.hid hU;have HH:=Lib.hid hH;have HP:=Lib.hid hP;have HEE:=Lib.hid hE;have HXa:=Lib.hid hXa;have HYa:=Lib.hid hYa;have Hh:=Lib.hid h;have Hg:=Lib.hid g;have HX:=Lib.hid hX;have HY:=Lib.hid hY
 have HA:=Lib.hid A0;have HB:=Lib.hid B0;have HZ:=Lib.hid Z0;have HE:=Lib.hid E0
 clear hU hH A0 B0 Z0 E0 h g hP hE hXa hYa hX hY hv gv
 go_enter Tryz.func30,Tryz.ntmps30
 go_upto_region 1 with fail
 rw [HU.out,HH.out]
 clear HU
 obtain ⟨cA,rA,zA⟩:=HA.out
 have iA:(Tryz.prog.info? 38).map (·.size)=some cA.size:=by rw [zA.1];exact zR_info
 by_cases hx0:zeroN X
 ·have HQ:=Lib.hid (QZero_any cA X _ U zA true (by simp [hx0]))
  have Hx0:=Lib.hid hx0
  clear zA hx0
  go_wp2_with (refine wpList_load_row rfl 38 _ rfl (H) rfl 38 _ (0,0) _ rA Tryz.underlying38 rfl iA ?_)
  refine HQ.out.mono ?_
  rintro r w2 ⟨rfl,hx2⟩
  obtain ⟨cr,hr,hc⟩:=HB.out.ext hx2
  have hinf:(Tryz.prog.info? 38).map (·.size)=some cr.size:=by rw [hc.1];exact zR_info
  obtain ⟨c1,hr1,hs1,hone,_,rr,hzz,hE'⟩:=fin_rm hc (HZ.out.ext hx2) (HE.out.trans hx2) (by rw [HH.out];omega)
  have Hend:=Lib.hid (show RmW (w2.setRow (H+2) cr) cr y (P+E+1) E∧(Low x→Low y→Low y)∧EqN y (nAdd x y)∧Ext w (w2.setRow (H+2) cr) from by
   have hg:=Hg.out
   have hy:=HY.out
   subst hy
   exact ⟨RmW.le ⟨hg.anti,hg.abs,hg.down,hzz⟩ (by omega) (Nat.le_refl _),fun _ h=>h,eqN_zero_add (zero_of_zeroN Hh.out.anti (by rw [HX.out];exact Hx0.out)),hE'⟩)
  clear hc hzz hE' hx2 HQ HA HB HZ HE rA iA
  go_wp2_with (first
   | refine wpList_load_row rfl 38 _ rfl (H+1) rfl 38 _ (0,0) _ hr Tryz.underlying38 rfl hinf ?_
   | refine wpList_store_row rfl 38 _ _ rfl (H+2) cr rfl rfl 38 _ hr1 hinf hs1 hone ?_)
  refine bodyPost_ret (v:=.agg cr) ?_ rfl ⟨_,_,rfl,Hend.out⟩
  exact results_cell_row rfl _ _ (H+2) _ _ _ _ rfl rr Tryz.underlying38 rfl hinf
 have HQ:=Lib.hid (QZero_any cA X _ U zA false (by simp [hx0]))
 clear zA hx0
 go_upto_region 1 with fail
 go_wp2_with (refine wpList_load_row rfl 38 _ rfl (H) rfl 38 _ (0,0) _ rA Tryz.underlying38 rfl iA ?_)
 refine HQ.out.mono ?_
 rintro r w2 ⟨rfl,hx2⟩
 have HA2:=Lib.hid (HA.out.ext hx2);have HB2:=Lib.hid (HB.out.ext hx2);have HZ2:=Lib.hid (HZ.out.ext hx2);have HE2:=Lib.hid (HE.out.trans hx2)
 clear HA HB HZ HE hx2 rA iA HQ
 obtain ⟨cB,rB,zB⟩:=HB2.out
 have iB:(Tryz.prog.info? 38).map (·.size)=some cB.size:=by rw [zB.1];exact zR_info
 by_cases hy0:zeroN Y
 ·have HQ:=Lib.hid (QZero_any cB Y _ w2 zB true (by simp [hy0]))
  have Hy0:=Lib.hid hy0
  clear zB hy0
  go_wp2_with (refine wpList_load_row rfl 38 _ rfl (H+1) rfl 38 _ (0,0) _ rB Tryz.underlying38 rfl iB ?_)
  refine HQ.out.mono ?_
  rintro r w3 ⟨rfl,hx3⟩
  obtain ⟨cr,hr,hc⟩:=HA2.out.ext hx3
  have hinf:(Tryz.prog.info? 38).map (·.size)=some cr.size:=by rw [hc.1];exact zR_info
  obtain ⟨c1,hr1,hs1,hone,_,rr,hzz,hE'⟩:=fin_rm hc (HZ2.out.ext hx3) (HE2.out.trans hx3) (by rw [HH.out];omega)
  have Hend:=Lib.hid (show RmW (w3.setRow (H+2) cr) cr x (P+E+1) E∧(Low x→Low y→Low x)∧EqN x (nAdd x y)∧Ext w (w3.setRow (H+2) cr) from by
   have hg:=Hh.out
   have hy:=HX.out
   subst hy
   exact ⟨RmW.le ⟨hg.anti,hg.abs,hg.down,hzz⟩ (by omega) (Nat.le_refl _),fun h _=>h,eqN_add_zero (zero_of_zeroN Hg.out.anti (by rw [HY.out];exact Hy0.out)),hE'⟩)
  clear hc hzz hE' hx3 HQ HA2 HB2 HZ2 HE2 rB iB
  go_wp2_with (first
   | refine wpList_load_row rfl 38 _ rfl (H) rfl 38 _ (0,0) _ hr Tryz.underlying38 rfl hinf ?_
   | refine wpList_store_row rfl 38 _ _ rfl (H+2) cr rfl rfl 38 _ hr1 hinf hs1 hone ?_)
  refine bodyPost_ret (v:=.agg cr) ?_ rfl ⟨_,_,rfl,Hend.out⟩
  exact results_cell_row rfl _ _ (H+2) _ _ _ _ rfl rr Tryz.underlying38 rfl hinf
 have HQ:=Lib.hid (QZero_any cB Y _ w2 zB false (by simp [hy0]))
 clear zB hy0
 go_wp2_with (refine wpList_load_row rfl 38 _ rfl (H+1) rfl 38 _ (0,0) _ rB Tryz.underlying38 rfl iB ?_)
 refine HQ.out.mono ?_
 rintro r w3 ⟨rfl,hx3⟩
 have HA3:=Lib.hid (HA2.out.ext hx3);have HB3:=Lib.hid (HB2.out.ext hx3);have HZ3:=Lib.hid (HZ2.out.ext hx3);have HE3:=Lib.hid (HE2.out.trans hx3)
 clear HA2 HB2 HZ2 HE2 hx3 rB iB HQ
 obtain ⟨cA,rA,zA⟩:=HA3.out
 have iA:(Tryz.prog.info? 38).map (·.size)=some cA.size:=by rw [zA.1];exact zR_info
 have e16:=HB3.out.gete.1
 have hd1:=Hh.out.down;have hd2:=Hg.out.down;have hd3:=HEE.out;have hd4:=HP.out
 obtain ⟨M,hM⟩:∃ M,max y.e x.e=M:=⟨_,rfl⟩
 obtain ⟨p,hp⟩:∃ p,y.e-x.e=p:=⟨_,rfl⟩
 obtain ⟨q,hq⟩:∃ q,M-y.e=q:=⟨_,rfl⟩
 have HM:=Lib.hid (show p+x.e=M∧q+y.e=M∧M≤E∧max M y.e=M by omega)
 have HQ:=Lib.hid (Qto_any cA X x.e y.e w3 zA P (by omega) HXa.out (by omega))
 rw [hM,hp] at HQ
 have Hq:=Lib.hid hq
 clear zA hd1 hd2 hd3 hd4 hM hp hq
 go_wp2_with (refine wpList_load_row rfl 38 _ rfl (H) rfl 38 _ (0,0) _ rA Tryz.underlying38 rfl iA ?_)
 refine HQ.out.mono ?_
 rintro r w4 ⟨cr,rfl,hcr,hx4⟩
 have hA4:=HA3.out.ext hx4
 obtain ⟨n1,ch,_,_⟩:=hcr.setRow hA4
 have hB4:=(HB3.out.ext hx4).chz ch hA4.no (by omega);have hZ4:=(HZ3.out.ext hx4).chz ch hA4.no (by omega);have hE4:=ch.ext (HE3.out.trans hx4) (by rw [HH.out];exact Nat.le_refl _)
 obtain ⟨cO,rO,zO⟩:=hA4
 have iR:(Tryz.prog.info? 38).map (·.size)=some cr.size:=by rw [hcr.1];exact zR_info
 have sO:cO.size=cr.size:=by rw [zO.1,hcr.1]
 have oR:=hcr.one
 obtain ⟨cB,rB,zB⟩:=hB4
 have iB:(Tryz.prog.info? 38).map (·.size)=some cB.size:=by rw [zB.1];exact zR_info
 have e16':=n1.gete.1
 have HQ2:=Lib.hid (Qto_any cB Y y.e M (w4.setRow H cr) zB P (by have:=HP.out;omega) HYa.out (by have:=HM.out;have:=HEE.out;omega))
 rw [Hq.out,HM.out.2.2.2] at HQ2
 have HA4:=Lib.hid n1;have HB4:Hid (ZVar (w4.setRow H cr) (H+1) Y (y.e:Int)):=Lib.hid ⟨cB,rB,zB⟩;have HZ4:=Lib.hid hZ4;have HE4:=Lib.hid hE4
 clear HQ HA3 HB3 HZ3 HE3 hx4 n1 ch hZ4 hE4 zO hcr zB rA iA e16
 go_wp2_with (first
  | refine wpList_store_row rfl 38 _ _ rfl (H) cr rfl rfl 38 _ rO iR sO oR ?_
  | refine wpList_load_row rfl 38 _ rfl (H+1) rfl 38 _ (0,0) _ rB Tryz.underlying38 rfl iB ?_)
 refine HQ2.out.mono ?_
 rintro r w5 ⟨cq,rfl,hcq,hx5⟩
 clear rO iR sO oR e16'
 have hB5:=HB4.out.ext hx5
 obtain ⟨n1,ch,_,_⟩:=hcq.setRow hB5
 have hA5:=(HA4.out.ext hx5).chz ch hB5.no (by omega);have hZ5:=(HZ4.out.ext hx5).chz ch hB5.no (by omega);have hE5:=ch.ext (HE4.out.trans hx5) (by rw [HH.out];omega)
 obtain ⟨cO,rO,zO⟩:=hB5
 have iR:(Tryz.prog.info? 38).map (·.size)=some cq.size:=by rw [hcq.1];exact zR_info
 have sO:cO.size=cq.size:=by rw [zO.1,hcq.1]
 have oR:=hcq.one
 obtain ⟨fa,hfa⟩:∃ fa:Nat→Int,(fun i=>X i*((2 ^ p:Nat):Int))=fa:=⟨_,rfl⟩
 obtain ⟨fb,hfb⟩:∃ fb:Nat→Int,(fun i=>Y i*((2 ^ q:Nat):Int))=fb:=⟨_,rfl⟩
 rw [hfa] at hA5
 rw [hfb] at n1
 have hfaA:∀ i,i<8→(fa i).natAbs<2 ^ (P+E):=fun i hi=>by rw [←hfa];exact abs_le_pow (HXa.out i hi) (by have:=HM.out;omega)
 have hfbA:∀ i,i<8→(fb i).natAbs<2 ^ (P+E):=fun i hi=>by rw [←hfb];exact abs_le_pow (HYa.out i hi) (by have:=HM.out;omega)
 have Hsum:=Lib.hid (show EqN ⟨ext8 (adQ fa fb 8),M⟩ (nAdd x y) from by
  have e:ext8 (adQ fa fb 8)=ext8 (fun i:Nat=>x.a i*((2 ^ p:Nat):Int)+y.a i*((2 ^ q:Nat):Int)):=ext8_congr fun i hi=>by
   unfold adQ;rw [if_pos hi,←hfa,←hfb,←HX.out,←HY.out]
  rw [e]
  exact eqN_sum Hh.out.anti Hg.out.anti HM.out.1 HM.out.2.1)
 have HfaA:=Lib.hid hfaA;have HfbA:=Lib.hid hfbA
 have Hst:=Lib.hid (show ZVar (w5.setRow (H+1) cq) H (adQ fa fb 0) (M:Int)∧ZVar (w5.setRow (H+1) cq) (H+1) fb (M:Int)∧ZVar (w5.setRow (H+1) cq) (H+2) (fun _=>0) 0∧Ext w (w5.setRow (H+1) cq) from ⟨hA5.congr fun i _=>by simp [adQ],n1,hZ5,hE5⟩)
 clear HQ2 HA4 HB4 HZ4 HE4 hx5 n1 ch hZ5 hE5 hA5 zO hcq rB iB hfa hfb hfaA hfbA
 go_wp2_with (refine wpList_store_row rfl 38 _ _ rfl (H+1) cq rfl rfl 38 _ rO iR sO oR ?_)
 clear rO iR sO oR
 generalize w5.setRow (H+1) cq=V at *
 go_loopg [5] 8 (fun kk s5 wr=>∃ j:Nat,s5=.int .i64 (j:Int)∧j≤8∧8-j=kk∧ZVar wr H (adQ fa fb j) (M:Int)∧ZVar wr (H+1) fb (M:Int)∧ZVar wr (H+2) (fun _=>0) 0∧Ext w wr)
 case atStart=>exact ⟨0,rfl,by omega,by omega,Hst.out⟩
 case round =>
  clear Hst
  obtain ⟨j,rfl,hj,hjk,hV,hB,hZ,hE⟩:=hrel
  obtain ⟨wo,rfl⟩:∃ wo:World,wo=wr:=⟨_,rfl⟩
  by_cases hj8:j=8
  ·subst hj8
   have HV:=Lib.hid hV;have HZ:=Lib.hid hZ;have HE:=Lib.hid hE
   obtain ⟨cA,rA,zA⟩:=hV
   have iA:(Tryz.prog.info? 38).map (·.size)=some cA.size:=by rw [zA.1];exact zR_info
   have HAb:=Lib.hid (show ∀ i,i<8→(adQ fa fb 8 i).natAbs<2 ^ (P+E+1) from fun i hi=>by unfold adQ;rw [if_pos hi];exact abs_sum (HfaA.out i hi) (HfbA.out i hi))
   by_cases hz:zeroN (adQ fa fb 8)
   ·have HQ:=Lib.hid (QZero_any cA _ _ wo zA true (by simp [hz]))
    have Hz:=Lib.hid hz
    clear zA hz hB hZ hE hj hjk
    go_wp2_with (refine wpList_load_row rfl 38 _ rfl (H) rfl 38 _ (0,0) _ rA Tryz.underlying38 rfl iA ?_)
    refine HQ.out.mono ?_
    rintro r w2 ⟨rfl,hx2⟩
    obtain ⟨c1,hr1,hs1,hone,hinf,rr,hzz,hE'⟩:=fin_rm (zcs_zero w2) (HZ.out.ext hx2) (HE.out.trans hx2) (by rw [HH.out];omega)
    have Hend:=Lib.hid (show RmW (w2.setRow (H+2) zeroR) zeroR ⟨ext8 (fun _=>0),0⟩ (P+E+1) E∧(Low x→Low y→Low ⟨ext8 (fun _=>0),0⟩)∧EqN ⟨ext8 (fun _=>0),0⟩ (nAdd x y)∧Ext w (w2.setRow (H+2) zeroR) from
     ⟨⟨anti_ext8 (fun _=>0),fun k=>by rw [ext8_zero];exact Nat.pow_pos (by decide),Nat.zero_le _,hzz.congr fun i _=>by show (0:Int)=ext8 (fun _=>0) (i:Int);rw [ext8_zero]⟩,fun _ _=>Or.inl rfl,(same_zero (f:=adQ fa fb 8) (EqN.refl _) Hz.out).trans Hsum.out,hE'⟩)
    clear hzz hE' hx2 HQ HZ HE HV rA iA
    go_wp2_with (refine wpList_store_row rfl 38 _ _ rfl (H+2) zeroR rfl rfl 38 _ hr1 hinf hs1 hone ?_)
    refine bodyPost_ret (v:=.agg zeroR) ?_ rfl ⟨_,_,rfl,Hend.out⟩
    exact results_cell_row rfl _ _ (H+2) _ _ _ _ rfl rr Tryz.underlying38 rfl hinf
   have HQ:=Lib.hid (QZero_any cA _ _ wo zA false (by simp [hz]))
   clear zA hz hB hZ hE hj hjk
   go_wp2_with (refine wpList_load_row rfl 38 _ rfl (H) rfl 38 _ (0,0) _ rA Tryz.underlying38 rfl iA ?_)
   refine HQ.out.mono ?_
   rintro r w2 ⟨rfl,hx2⟩
   clear rA iA
   have hV2:=HV.out.ext hx2
   obtain ⟨cA,rA,zA⟩:=hV2
   have iA:(Tryz.prog.info? 38).map (·.size)=some cA.size:=by rw [zA.1];exact zR_info
   have HZ2:=Lib.hid (HZ.out.ext hx2);have HE2:=Lib.hid (HE.out.trans hx2)
   have HQ2:=Lib.hid (Qleast_any cA _ M w2 zA (P+E+1) E HP.out HAb.out (by have:=HM.out;omega) (by have:=HEE.out;omega))
   clear zA hx2 HZ HE HV HQ
   go_wp2_with (refine wpList_load_row rfl 38 _ rfl (H) rfl 38 _ (0,0) _ rA Tryz.underlying38 rfl iA ?_)
   refine HQ2.out.mono ?_
   rintro r w3 ⟨cr,yy,rfl,hcr,hq3,hx3⟩
   obtain ⟨c1,hr1,hs1,hone,hinf,rr,hzz,hE'⟩:=fin_rm hcr.val (HZ2.out.ext hx3) (HE2.out.trans hx3) (by rw [HH.out];omega)
   have Hend:=Lib.hid (show RmW (w3.setRow (H+2) cr) cr yy (P+E+1) E∧(Low x→Low y→Low yy)∧EqN yy (nAdd x y)∧Ext w (w3.setRow (H+2) cr) from
    ⟨⟨hcr.anti,hcr.abs,hcr.down,hzz⟩,fun _ _=>hcr.low,hq3.trans Hsum.out,hE'⟩)
   clear hcr hq3 hzz hE' hx3 HQ2 HZ2 HE2 rA iA
   go_wp2_with (refine wpList_store_row rfl 38 _ _ rfl (H+2) cr rfl rfl 38 _ hr1 hinf hs1 hone ?_)
   refine bodyPost_ret (v:=.agg cr) ?_ rfl ⟨_,_,rfl,Hend.out⟩
   exact results_cell_row rfl _ _ (H+2) _ _ _ _ rfl rr Tryz.underlying38 rfl hinf
  have hlt:j<8:=by omega
  have q1:(j:Int)<8:=by omega
  have q0:(0:Int)≤(j:Int):=by omega
  have wk:IntKind.i64.wrap ((j:Int)+1)=((j+1:Nat):Int):=by rw [IntKind.wrap_i64];omega
  have Hj1:=Lib.hid (show j+1≤8 by omega);have Hlt:=Lib.hid hlt;have Hjk:=Lib.hid hjk
  obtain ⟨b1,a1,n1,c1,y0,y1,_,_,hI1⟩:=hV.get j hlt
  obtain ⟨b2,a2,n2,c2,l0,l1,_,_,hI2⟩:=hB.get j hlt
  have hI1':=hI1.cast (show adQ fa fb j j=fa j by simp [adQ])
  have hn1:n1≤P+E:=hI1'.bits (HfaA.out j hlt)
  have hn2:n2≤P+E:=hI2.bits (HfbA.out j hlt)
  have lH:=hV.lt;have lG:=hB.lt
  have HAd:=Lib.hid (fun wx (hx:Ext wo wx)=>ZAdd_any b1 b2 a1 a2 n1 c1 n2 c2 (fa j) (fb j) wx (hI1'.ext hx) (hI2.ext hx) (by have:=HP.out;omega) (by have:=HP.out;omega))
  have HV:=Lib.hid hV;have HZ:=Lib.hid hZ;have HB:=Lib.hid hB;have HE:=Lib.hid hE
  clear hI1 hI1' hI2 hn1 hn2 hV hZ hB hE hj8 hj hlt hjk
  go_upto_region 10 with fail
  have hd0:Ext wo wo.drew:=Below.drew (Ext.refl _)
  refine wp_region_K 12 (fun w'=>(w'.cell? ⟨H,j*2,none⟩=some (.bool b1)∧w'.cell? ⟨H,j*2+1,none⟩=some (.slice a1 n1 c1))∧w'.cell? ⟨H+1,j*2,none⟩=some (.bool b2)∧w'.cell? ⟨H+1,j*2+1,none⟩=some (.slice a2 n2 c2)) (by kernel_rfl) ?_
  show anyK _ _ _ _ _ _ 13 #[false,false,false,false,false,false,false,false,false,false,false,false,false] _ _
  have hHeld:(wo.drew.cell? ⟨H,j*2,none⟩=some (.bool b1)∧wo.drew.cell? ⟨H,j*2+1,none⟩=some (.slice a1 n1 c1))∧wo.drew.cell? ⟨H+1,j*2,none⟩=some (.bool b2)∧wo.drew.cell? ⟨H+1,j*2+1,none⟩=some (.slice a2 n2 c2):=⟨⟨cellKeep hd0 lH y0,cellKeep hd0 lH y1⟩,cellKeep hd0 lG l0,cellKeep hd0 lG l1⟩
  refine anyK_take (i:=0) (v:=?_) rfl (by kernel_rfl) (by kernel_rfl) (by kernel_rfl) (N:=13) (by kernel_rfl) (by kernel_rfl) (by kernel_rfl) (fun _ _ _ h=>h) (Or.inl ⟨by rfl,?_⟩) hHeld ?_
  rotate_left 1
  ·intro w hSw
   go_simp
   try with_reducible rfl
  show anyK _ _ _ _ _ _ _ _ (Act.put _ (some 24) _) _
  simp only [Act.put,List.setIfInBounds_toArray,List.set_cons_zero,List.set_cons_succ]
  refine anyK_take (i:=1) (v:=?_) rfl (by kernel_rfl) (by kernel_rfl) (by kernel_rfl) (N:=13) (by kernel_rfl) (by kernel_rfl) (by kernel_rfl) (fun _ _ _ h=>h) (Or.inl ⟨by rfl,?_⟩) hHeld ?_
  rotate_left 1
  ·intro w hSw
   go_simp
   try with_reducible rfl
  show anyK _ _ _ _ _ _ _ _ (Act.put _ (some 25) _) _
  simp only [Act.put,List.setIfInBounds_toArray,List.set_cons_zero,List.set_cons_succ]
  refine anyK_take (i:=2) (v:=?_) rfl (by kernel_rfl) (by kernel_rfl) (by kernel_rfl) (N:=13) (by kernel_rfl) (by kernel_rfl) (by kernel_rfl) (fun _ _ _ h=>h) (Or.inl ⟨by rfl,?_⟩) hHeld ?_
  rotate_left 1
  ·intro w hSw
   go_simp
   try with_reducible rfl
  show anyK _ _ _ _ _ _ _ _ (Act.put _ (some 26) _) _
  simp only [Act.put,List.setIfInBounds_toArray,List.set_cons_zero,List.set_cons_succ]
  refine anyK_take (i:=3) (v:=?_) rfl (by kernel_rfl) (by kernel_rfl) (by kernel_rfl) (N:=13) (by kernel_rfl) (by kernel_rfl) (by kernel_rfl) (fun _ _ _ h=>h) (Or.inl ⟨by rfl,?_⟩) hHeld ?_
  rotate_left 1
  ·intro w hSw
   go_simp
   try with_reducible rfl
  show anyK _ _ _ _ _ _ _ _ (Act.put _ (some 27) _) _
  simp only [Act.put,List.setIfInBounds_toArray,List.set_cons_zero,List.set_cons_succ]
  refine anyK_take (i:=4) (v:=?_) rfl (by kernel_rfl) (by kernel_rfl) (by kernel_rfl) (N:=13) (by kernel_rfl) (by kernel_rfl) (by kernel_rfl) (fun _ _ _ h=>h) (Or.inl ⟨by rfl,?_⟩) hHeld ?_
  rotate_left 1
  ·intro w hSw
   go_simp
   try with_reducible rfl
  show anyK _ _ _ _ _ _ _ _ (Act.put _ (some 28) _) _
  simp only [Act.put,List.setIfInBounds_toArray,List.set_cons_zero,List.set_cons_succ]
  refine anyK_take (i:=5) (v:=?_) rfl (by kernel_rfl) (by kernel_rfl) (by kernel_rfl) (N:=13) (by kernel_rfl) (by kernel_rfl) (by kernel_rfl) (fun _ _ _ h=>h) (Or.inl ⟨by rfl,?_⟩) hHeld ?_
  rotate_left 1
  ·intro w hSw
   go_simp
   try with_reducible rfl
  show anyK _ _ _ _ _ _ _ _ (Act.put _ (some 29) _) _
  simp only [Act.put,List.setIfInBounds_toArray,List.set_cons_zero,List.set_cons_succ]
  refine anyK_take (i:=6) (v:=?_) rfl (by kernel_rfl) (by kernel_rfl) (by kernel_rfl) (N:=13) (by kernel_rfl) (by kernel_rfl) (by kernel_rfl) (fun _ _ _ h=>h) (Or.inl ⟨by rfl,?_⟩) hHeld ?_
  rotate_left 1
  ·intro w hSw
   go_simp
   try with_reducible rfl
  show anyK _ _ _ _ _ _ _ _ (Act.put _ (some 30) _) _
  simp only [Act.put,List.setIfInBounds_toArray,List.set_cons_zero,List.set_cons_succ]
  refine anyK_take (i:=7) (v:=?_) rfl (by kernel_rfl) (by kernel_rfl) (by kernel_rfl) (N:=13) (by kernel_rfl) (by kernel_rfl) (by kernel_rfl) (fun _ _ _ h=>h) (Or.inl ⟨by rfl,?_⟩) hHeld ?_
  rotate_left 1
  ·intro w hSw
   go_simp
   try with_reducible rfl
  show anyK _ _ _ _ _ _ _ _ (Act.put _ (some 31) _) _
  simp only [Act.put,List.setIfInBounds_toArray,List.set_cons_zero,List.set_cons_succ]
  refine anyK_take (i:=8) (v:=?_) rfl (by kernel_rfl) (by kernel_rfl) (by kernel_rfl) (N:=13) (by kernel_rfl) (by kernel_rfl) (by kernel_rfl) (fun _ _ _ h=>h) (Or.inl ⟨by rfl,?_⟩) hHeld ?_
  rotate_left 1
  ·intro w hSw
   go_simp
   try with_reducible rfl
  show anyK _ _ _ _ _ _ _ _ (Act.put _ (some 32) _) _
  simp only [Act.put,List.setIfInBounds_toArray,List.set_cons_zero,List.set_cons_succ]
  refine anyK_take (i:=10) (v:=?_) rfl (by kernel_rfl) (by kernel_rfl) (by kernel_rfl) (N:=13) (by kernel_rfl) (by kernel_rfl) (by kernel_rfl) (fun _ _ _ h=>h) (Or.inl ⟨by rfl,?_⟩) hHeld ?_
  rotate_left 1
  ·intro w hSw
   go_simp
   try with_reducible rfl
  show anyK _ _ _ _ _ _ _ _ (Act.put _ (some 34) _) _
  simp only [Act.put,List.setIfInBounds_toArray,List.set_cons_zero,List.set_cons_succ]
  clear hHeld
  refine anyK_one (i:=9) (by kernel_rfl) rfl (fun Kk hKk=>?_)
  go_simp
  (go_at_call 80;refine (HAd.out wo.drew hd0).mono ?_;rintro e w3 ⟨b3,a3,n3,c3,rfl,hI3,_,hx3⟩)
  have he3:=hd0.trans hx3
  go_wp2_with fail
  refine hKk.out _ _ (fun _=>⟨⟨cellKeep he3 lH y0,cellKeep he3 lH y1⟩,cellKeep he3 lG l0,cellKeep he3 lG l1⟩) ?_
  clear hKk Kk
  simp only [List.setIfInBounds_toArray,List.set_cons_zero,List.set_cons_succ]
  have hHeld:(w3.cell? ⟨H,j*2,none⟩=some (.bool b1)∧w3.cell? ⟨H,j*2+1,none⟩=some (.slice a1 n1 c1))∧w3.cell? ⟨H+1,j*2,none⟩=some (.bool b2)∧w3.cell? ⟨H+1,j*2+1,none⟩=some (.slice a2 n2 c2):=⟨⟨cellKeep he3 lH y0,cellKeep he3 lH y1⟩,cellKeep he3 lG l0,cellKeep he3 lG l1⟩
  refine anyK_take (i:=11) (v:=?_) rfl (by kernel_rfl) (by kernel_rfl) (by kernel_rfl) (N:=13) (by kernel_rfl) (by kernel_rfl) (by kernel_rfl) (fun _ _ _ h=>h) (Or.inl ⟨by rfl,?_⟩) hHeld ?_
  rotate_left 1
  ·intro w hSw
   go_simp
   try with_reducible rfl
  show anyK _ _ _ _ _ _ _ _ (Act.put _ (some 35) _) _
  simp only [Act.put,List.setIfInBounds_toArray,List.set_cons_zero,List.set_cons_succ]
  clear hHeld
  have hV2:=HV.out.ext he3
  obtain ⟨_,_,_,_,z0,z1,fz0,fz1,_⟩:=hV2.get j Hlt.out
  obtain ⟨hs,hch⟩:=hV2.set j Hlt.out hI3
  refine anyK_one (i:=12) (by kernel_rfl) rfl (fun Kk hKk=>?_)
  refine stepK_storeZ rfl rfl _ _ rfl H (j*2) b3 a3 n3 c3 _ _ rfl rfl z0 z1 fz0 fz1 ?_
  refine hKk.out _ _ (fun h=>Bool.noConfusion (show true=false from h)) ?_
  clear hKk Kk
  simp only [List.setIfInBounds_toArray,List.set_cons_zero,List.set_cons_succ]
  refine anyK_done (by kernel_rfl) ?_ _
  have Hend:=Lib.hid (show ZVar ((w3.setCell ⟨H,j*2,none⟩ (.bool b3)).setCell ⟨H,j*2+1,none⟩ (.slice a3 n3 c3)) H (adQ fa fb (j+1)) (M:Int)∧ZVar ((w3.setCell ⟨H,j*2,none⟩ (.bool b3)).setCell ⟨H,j*2+1,none⟩ (.slice a3 n3 c3)) (H+1) fb (M:Int)∧ZVar ((w3.setCell ⟨H,j*2,none⟩ (.bool b3)).setCell ⟨H,j*2+1,none⟩ (.slice a3 n3 c3)) (H+2) (fun _=>0) 0∧Ext w ((w3.setCell ⟨H,j*2,none⟩ (.bool b3)).setCell ⟨H,j*2+1,none⟩ (.slice a3 n3 c3)) from
   ⟨hs.congr fun i _=>adN_step fa fb j i,(HB.out.ext he3).chz hch hV2.no (by omega),(HZ.out.ext he3).chz hch hV2.no (by omega),hch.ext (HE.out.trans he3) (by rw [HH.out];exact Nat.le_refl _)⟩)
  clear hs hch hV2 hI3 hx3 he3 hd0 HAd HV HZ HB HE y0 y1 l0 l1 lH lG z0 z1 fz0 fz1
  generalize ((w3.setCell ⟨H,j*2,none⟩ (.bool b3)).setCell ⟨H,j*2+1,none⟩ (.slice a3 n3 c3))=V at *
  go_wp2_with fail
  go_roundg (8-(j+1))
  case measure=>have:=Hjk.out;have:=Hj1.out;omega
  case rel=>exact ⟨j+1,rfl,Hj1.out,rfl,Hend.out⟩
theorem QAdd_nm (ca cb:Array Value) (x y:Nm) (P E:Nat) (w:World) (h:RmA w ca x P E) (g:RmA w cb y P E) (hP:P+E+1≤400000) (hE:E≤10000) :
  Calls Tryz.prog 30 #[.agg ca,.agg cb] w fun r w'=>∃ (cr:Array Value) (z:Nm),r=.returned (.agg cr)∧RmA w' cr z (P+E+1) E∧EqN z (nAdd x y)∧Ext w w':=by
 refine (QAdd_w ca cb x y P E w h.w g.w hP hE).mono ?_
 rintro r w' ⟨cr,z,rfl,hw,hl,hq,hx⟩
 exact ⟨cr,z,rfl,hw.a (hl h.low g.low),hq,hx⟩
theorem QSub_nm (ca cb:Array Value) (x y:Nm) (P E:Nat) (w:World) (h1:RmA w ca x P E) (h2:RmA w cb y P E) (hP:P+E+1≤400000) (hE:E≤10000) :
  Calls Tryz.prog 32 #[.agg ca,.agg cb] w fun e w'=>∃ (cr:Array Value) (z:Nm),e=.returned (.agg cr)∧RmA w' cr z (P+E+1) E∧EqN z (nAdd x (nNeg y))∧Ext w w':=by
 obtain ⟨H,hH⟩:∃ H,w.heap.size=H:=⟨_,rfl⟩
 obtain ⟨U,hU⟩:∃ U,(((w.alloc (.cells ca 38)).alloc (.cells cb 38)).alloc (.cells zeroR 38))=U:=⟨_,rfl⟩
 have E0:Ext w U:=by rw [←hU];exact ((Ext.alloc _ _).trans (Ext.alloc _ _)).trans (Ext.alloc _ _)
 have hrA:U.heap[H]?=some (.cells ca 38 (0,0)):=by rw [←hU,←hH];exact (((Ext.alloc _ _).trans (Ext.alloc _ _)).block _ (Array.getElem?_eq_some_iff.1 (heap_alloc_new w (.cells ca 38))).1).trans (heap_alloc_new w _)
 have hrB:U.heap[H+1]?=some (.cells cb 38 (0,0)):=by
  have h3:=heap_alloc_new (w.alloc (.cells ca 38)) (.cells cb 38)
  have h4:=((Ext.alloc ((w.alloc (.cells ca 38)).alloc (.cells cb 38)) (.cells zeroR 38)).block _ (Array.getElem?_eq_some_iff.1 h3).1).trans h3
  rw [←hU,←hH]
  simpa using h4
 have Z0:ZVar U (H+2) (fun _=>0) 0:=by
  have:=(zcs_zero ((w.alloc (.cells ca 38)).alloc (.cells cb 38))).box
  rw [←hU,←hH]
  simpa using this
 have lA:=(Array.getElem?_eq_some_iff.1 hrA).1;have lB:=(Array.getElem?_eq_some_iff.1 hrB).1
 have HNe:=Lib.hid (fun (wx:World) (hx:Ext U wx)=>QNeg_nm cb y P E wx (h2.ext (E0.trans hx)) (by omega))
 have HAd:=Lib.hid (fun (wx:World) (hx:Ext U wx) (cn:Array Value) (hn:RmA wx cn (nNeg y) P E)=>QAdd_nm ca cn x (nNeg y) P E wx (h1.ext (E0.trans hx)) hn hP hE)
 have hi1:=h1.info;have hi2:=h2.info
 have HU:=Lib.hid hU;have HH:=Lib.hid hH;have HZ0:=Lib.hid Z0;have HE0:=Lib.hid E0
 clear hU hH Z0 E0 h1 h2 hP hE
 go_enter Tryz.func32,Tryz.ntmps32
 go_upto_region 1 with fail
 rw [HU.out,HH.out]
 clear HU
 have hd0:Ext U U.drew:=Below.drew (Ext.refl _)
 refine wp_region_K 4 (fun w'=>w'.heap[H]?=some (.cells ca 38 (0,0))∧w'.heap[H+1]?=some (.cells cb 38 (0,0))) (by kernel_rfl) ?_
 show anyK _ _ _ _ _ _ 5 #[false,false,false,false,false] _ _
 have hHeld:U.drew.heap[H]?=some (.cells ca 38 (0,0))∧U.drew.heap[H+1]?=some (.cells cb 38 (0,0)):=⟨(hd0.block _ lA).trans hrA,(hd0.block _ lB).trans hrB⟩
 refine anyK_take (i:=0) (v:=.agg ca) rfl (by kernel_rfl) (by kernel_rfl) (by kernel_rfl) (N:=5) (by kernel_rfl) (by kernel_rfl) (by kernel_rfl) (fun _ _ _ h=>h) (Or.inl ⟨by rfl,?_⟩) hHeld ?_
 ·intro w hSw
  exact exec_load_row 38 _ rfl (H) rfl 38 _ (0,0) _ hSw.1 Tryz.underlying38 rfl hi1
 show anyK _ _ _ _ _ _ _ _ (Act.put _ (some 5) _) _
 simp only [Act.put,List.setIfInBounds_toArray,List.set_cons_zero,List.set_cons_succ]
 refine anyK_take (i:=1) (v:=.agg cb) rfl (by kernel_rfl) (by kernel_rfl) (by kernel_rfl) (N:=5) (by kernel_rfl) (by kernel_rfl) (by kernel_rfl) (fun _ _ _ h=>h) (Or.inl ⟨by rfl,?_⟩) hHeld ?_
 ·intro w hSw
  exact exec_load_row 38 _ rfl (H+1) rfl 38 _ (0,0) _ hSw.2 Tryz.underlying38 rfl hi2
 show anyK _ _ _ _ _ _ _ _ (Act.put _ (some 6) _) _
 simp only [Act.put,List.setIfInBounds_toArray,List.set_cons_zero,List.set_cons_succ]
 clear hHeld
 refine anyK_one (i:=2) (by kernel_rfl) rfl (fun Kk hKk=>?_)
 go_simp
 (go_at_call 36;refine (HNe.out _ hd0).mono ?_;rintro e w1 ⟨cn,rfl,hn1,hxx⟩)
 have he1:=hd0.trans hxx
 go_wp2_with fail
 refine hKk.out _ _ (fun _=>⟨(he1.block _ lA).trans hrA,(he1.block _ lB).trans hrB⟩) ?_
 clear hKk Kk hxx
 simp only [List.setIfInBounds_toArray,List.set_cons_zero,List.set_cons_succ]
 refine anyK_one (i:=3) (by kernel_rfl) rfl (fun Kk hKk=>?_)
 go_simp
 (go_at_call 30;refine (HAd.out w1 he1 cn hn1).mono ?_;rintro e w2 ⟨cr,z,rfl,hcr,hy,hxx⟩)
 have he2:=he1.trans hxx
 go_wp2_with fail
 refine hKk.out _ _ (fun _=>⟨(he2.block _ lA).trans hrA,(he2.block _ lB).trans hrB⟩) ?_
 clear hKk Kk hxx
 simp only [List.setIfInBounds_toArray,List.set_cons_zero,List.set_cons_succ]
 obtain ⟨c1,hr1,hs1,hone,hinf,rr,hnm,hE'⟩:=fin_rm hcr.val (HZ0.out.ext he2) (HE0.out.trans he2) (by rw [HH.out];omega)
 have Hend:=Lib.hid (show RmA (w2.setRow (H+2) cr) cr z (P+E+1) E∧EqN z (nAdd x (nNeg y))∧Ext w (w2.setRow (H+2) cr) from ⟨⟨hcr.anti,hcr.low,hcr.abs,hcr.down,hnm⟩,hy,hE'⟩)
 clear hnm hE' hcr hy
 refine anyK_one (i:=4) (by kernel_rfl) rfl (fun Kk hKk=>?_)
 refine stepK_storeR rfl rfl 38 _ _ rfl (H+2) cr rfl rfl 38 _ hr1 hinf hs1 hone ?_
 refine hKk.out _ _ (fun h=>Bool.noConfusion (show true=false from h)) ?_
 clear hKk Kk
 simp only [List.setIfInBounds_toArray,List.set_cons_zero,List.set_cons_succ]
 refine anyK_done (by kernel_rfl) ?_ _
 go_wp2_with fail
 refine bodyPost_ret (v:=.agg cr) ?_ rfl ⟨_,_,rfl,Hend.out⟩
 exact results_cell_row rfl _ _ (H+2) _ _ _ _ rfl rr Tryz.underlying38 rfl hinf
theorem ZCs.over {w:World} {v0 v1 v2 v3 v4 v5 v6 v7 v8 v9 v10 v11 v12 v13 v14 v15 v16:Value} {f:Nat→Int} {d:Int} (h:ZCs w #[v0,v1,v2,v3,v4,v5,v6,v7,v8,v9,v10,v11,v12,v13,v14,v15,v16] f d) (e:Int):ZCs w #[v0,v1,v2,v3,v4,v5,v6,v7,v8,v9,v10,v11,v12,v13,v14,v15,.int .i64 e] f e:=by
 refine ⟨rfl,fun i hi=>?_,rfl⟩
 obtain ⟨b,a,n,c,q1,q2,q3⟩:=h.2.1 i hi
 refine ⟨b,a,n,c,?_,?_,q3⟩
 all_goals
  have k:i=0∨i=1∨i=2∨i=3∨i=4∨i=5∨i=6∨i=7:=by omega
  rcases k with rfl | rfl | rfl | rfl | rfl | rfl | rfl | rfl<;>first | exact q1 | exact q2
theorem str_append (a b:List UInt8):(⟨a.toArray⟩:ByteArray)++(⟨b.toArray⟩:ByteArray)=⟨(a++b).toArray⟩:=by
 apply ByteArray.ext
 simp [ByteArray.data_append]
theorem ISeg.blt {w:World} {b o:Nat} {l:List Nat} (h:ISeg w (some ⟨b,o,none⟩) l):b<w.heap.size:=by
 rcases h with ⟨h,_⟩ | ⟨b',o',h,hb,_⟩
 ·cases h
 ·simp only [Option.some.injEq,Addr.mk.injEq,and_true] at h
  obtain ⟨rfl,rfl⟩:=h
  exact hb.lt
theorem ztx_len {l:List Nat} (hd:ZD l) (k:Nat):(ztx l k).length≤4*l.length+1:=by
 unfold ztx
 split
 ·simp
 ·rw [Lib.decDigits_length]
  have h1:zval (l.drop k)<10000 ^ (l.drop k).length:=zval_lt (fun x hx=>hd x (List.mem_of_mem_drop hx))
  rw [List.length_drop] at h1
  have h2:(10000:Nat) ^ (l.length-k)≤10 ^ (4*l.length+1):=by
   rw [show (10000:Nat)=10 ^ 4 by decide,←Nat.pow_mul]
   exact Nat.pow_le_pow_right (by decide) (by omega)
  exact nDigits_le _ _ (by omega) (by omega)
theorem conv_tail (W:World) (G f m:Nat) (l:List UInt8) (hl:l.length=m) (h:∀ j,(hj:j<l.length)→W.cell? ⟨G,f+j,none⟩=some (.int .u8 (l[j].toNat:Int))):(convert 83 9 (.slice (some ⟨G,f,none⟩) m m)).run Tryz.prog W=.ok (.string ⟨l.toArray⟩) W:=by
 subst hl
 refine run_convert_bytes_back (P:=Tryz.prog) W 83 9 5 ⟨G,f,none⟩ l.length l Tryz.underlying83 Tryz.underlying5 Tryz.underlying9 (fun j hj=>?_)
 rw [Lib.add_plain]
 exact h j hj
theorem four_conv {W:World} {G B3 B2 B1 B0:Nat} (k3:W.cell? ⟨G,0,none⟩=some (.int .u8 B3)) (k2:W.cell? ⟨G,1,none⟩=some (.int .u8 B2)) (k1:W.cell? ⟨G,2,none⟩=some (.int .u8 B1)) (k0:W.cell? ⟨G,3,none⟩=some (.int .u8 B0)) (hB:B3<256∧B2<256∧B1<256∧B0<256) :
  (∀ t,t<4→W.cell? ⟨G,t,none⟩=some (.int .u8 (([UInt8.ofNat B3,UInt8.ofNat B2,UInt8.ofNat B1,UInt8.ofNat B0].getD t 0).toNat:Int))) ∧
  ∀ f,f≤3→(convert 83 9 (.slice (some ⟨G,f,none⟩) (4-f) (4-f))).run Tryz.prog W=.ok (.string ⟨([UInt8.ofNat B3,UInt8.ofNat B2,UInt8.ofNat B1,UInt8.ofNat B0].drop f).toArray⟩) W:=by
 have e:∀ B:Nat,B<256→((UInt8.ofNat B).toNat:Int)=(B:Int):=by
  intro B h
  have:(UInt8.ofNat B).toNat=B:=by rw [UInt8.toNat_ofNat'];omega
  rw [this]
 have hc:∀ t,t<4→W.cell? ⟨G,t,none⟩=some (.int .u8 (([UInt8.ofNat B3,UInt8.ofNat B2,UInt8.ofNat B1,UInt8.ofNat B0].getD t 0).toNat:Int)):=by
  intro t ht
  match t,ht with
  | 0,_=>rw [k3];show _=some (Value.int .u8 ((UInt8.ofNat B3).toNat:Int));rw [e _ hB.1]
  | 1,_=>rw [k2];show _=some (Value.int .u8 ((UInt8.ofNat B2).toNat:Int));rw [e _ hB.2.1]
  | 2,_=>rw [k1];show _=some (Value.int .u8 ((UInt8.ofNat B1).toNat:Int));rw [e _ hB.2.2.1]
  | 3,_=>rw [k0];show _=some (Value.int .u8 ((UInt8.ofNat B0).toNat:Int));rw [e _ hB.2.2.2]
  | k+4,h=>omega
 refine ⟨hc,fun f hf=>?_⟩
 refine conv_tail W G f (4-f) _ (by rw [List.length_drop];rfl) (fun j hj=>?_)
 rw [List.length_drop] at hj
 have h4:[UInt8.ofNat B3,UInt8.ofNat B2,UInt8.ofNat B1,UInt8.ofNat B0].length=4:=rfl
 rw [hc (f+j) (by omega)]
 rw [List.getElem_drop,List.getD_eq_getElem?_getD,List.getElem?_eq_getElem (by omega)]
 rfl
theorem four_cells (w:World) (u0 u1 u2 u3:Value) (e:TypeId):(w.alloc (.cells #[u0,u1,u2,u3] e)).cell? ⟨w.heap.size,0,none⟩=some u0∧(w.alloc (.cells #[u0,u1,u2,u3] e)).cell? ⟨w.heap.size,1,none⟩=some u1∧(w.alloc (.cells #[u0,u1,u2,u3] e)).cell? ⟨w.heap.size,2,none⟩=some u2∧(w.alloc (.cells #[u0,u1,u2,u3] e)).cell? ⟨w.heap.size,3,none⟩=some u3:=by
 refine ⟨?_,?_,?_,?_⟩<;>(rw [World.cell?_alloc_new];rfl)
theorem ZText_any (neg:Bool) (ao:Option Addr) (n c:Nat) (z:Int) (w:World) (h:IsZ w neg ao n c z) (hn:n≤1000000) :
  Calls Tryz.prog 63 #[.agg #[.bool neg,.slice ao n c]] w fun e w'=>e=.returned (.string ⟨(Lib.itoa z).toArray⟩)∧Ext w w':=by
 obtain ⟨l,h1,h2,h3,h4,h5,h6,h7,h8⟩:=h
 have hE:=ext_alloc w (.cells #[.bool neg,.slice ao n c] 35)
 have bA:=zbx_new w neg ao n c
 have x0:=bA.c0;have x1:=bA.c1
 by_cases h0:n=0
 ·have hl:l=[]:=List.eq_nil_of_length_eq_zero (by omega)
  have hz:z=0:=by rw [h7,hl];simp [zval]
  have Ht:Hid (Lib.itoa z=[48]):=by show _=_;rw [hz];unfold Lib.itoa;rw [if_neg (by omega),Lib.decDigits];simp
  subst h0
  clear h7 h1 h2 h3 h4 h5 h6 h8 hl hz x0
  go_enter Tryz.func63,Tryz.ntmps63
  go_wp2_with fail
  go_ret
  exact ⟨by rw [Ht.out];rfl,hE⟩
 ·have hl:l≠[]:=by intro e;subst e;simp at h1;omega
  have hb:((n:Int) == 0)=false:=by rw [beq_eq_false_iff_ne];omega
  obtain ⟨b,o,rfl⟩:=h4.some_of (by omega)
  have Hz:Hid (Lib.itoa z=(if neg then [45] else [])++ztx l 0):=by
   show _=_
   rw [ztx_all hl,h7]
   have hv:0<zval l:=by
    apply Nat.pos_of_ne_zero
    intro e;exact hl ((zval_zero h6).1 e)
   unfold Lib.itoa
   cases neg
   ·rw [if_neg (by simp)];simp
   ·rw [if_pos (by simp;omega)];simp
  obtain ⟨sg,hsg⟩:∃ sg:List UInt8,(if neg then [45] else [])=sg:=⟨_,rfl⟩
  rw [hsg] at Hz
  have H1:=Lib.hid h1;have H4:=Lib.hid h4;have H5:=Lib.hid h5;have H6:=Lib.hid h6;have Hl:=Lib.hid hl
  clear h1 h4 h5 h6 h7 h8 h2 h3 hl
  cases neg
  ·have Hsg:=Lib.hid hsg
   clear hsg
   go_enter Tryz.func63,Tryz.ntmps63
   go_wp2_with fail
   generalize w.alloc (.cells #[.bool false,.slice (some ⟨b,o,none⟩) n c] 35)=W0 at *
   go_loopw [3,4] (fun tv iv wr=>∃ k:Nat,k≤n∧iv=.int .i64 ((k:Int)-1)∧tv=.string ⟨(sg++ztx l k).toArray⟩∧Ext W0 wr) (fun _ iv _=>(intOf iv+1).toNat)
   case atStart=>exact ⟨n,Nat.le_refl _,by go_num,by have:=ztx_end l;rw [H1.out] at this;rw [this,←Hsg.out];rfl,Ext.refl _⟩
   case round =>
    obtain ⟨k,hk,rfl,rfl,hEr⟩:=hrel
    have HEr:=Lib.hid hEr
    have d1:=zKeep hEr bA.lt x1
    clear hEr
    obtain ⟨tl,htl⟩:∃ tl,sg++ztx l k=tl:=⟨_,rfl⟩
    rw [htl]
    have htl8:tl.length≤4000010:=by
     have h1:=ztx_len H5.out k
     have h2:sg.length≤1:=by rw [←Hsg.out];decide
     rw [H1.out] at h1
     rw [←htl,List.length_append];omega
    have Htl:=Lib.hid htl
    clear htl
    by_cases hk0:k=0
    ·subst hk0
     go_wp2_with fail
     go_ret
     exact ⟨by rw [Hz.out,Htl.out];rfl,hE.trans HEr.out⟩
    ·obtain ⟨j,rfl⟩:∃ j,k=j+1:=⟨k-1,by omega⟩
     have ec:(((j+1:Nat):Int)-1)=(j:Int):=by omega
     have ij:(j:Int)<(n:Int):=by omega
     rw [ec]
     have hcl:=(H4.out.ext (hE.trans HEr.out)).at j (by rw [H1.out];omega)
     obtain ⟨x,hx⟩:∃ x,l.getD j 0=x:=⟨_,rfl⟩
     have hx4:x<10000:=by rw [←hx];exact H5.out.get j
     rw [hx] at hcl
     have Hx:=Lib.hid hx
     obtain ⟨q3,g3⟩:∃ q,x / 1000=q:=⟨_,rfl⟩
     obtain ⟨q2,g2⟩:∃ q,x / 100=q:=⟨_,rfl⟩
     obtain ⟨r2,e2⟩:∃ q,q2 % 10=q:=⟨_,rfl⟩
     obtain ⟨q1,g1⟩:∃ q,x / 10=q:=⟨_,rfl⟩
     obtain ⟨r1,e1⟩:∃ q,q1 % 10=q:=⟨_,rfl⟩
     obtain ⟨r0,e0⟩:∃ q,x % 10=q:=⟨_,rfl⟩
     have t3:(x:Int).tdiv 1000=(q3:Int):=by rw [Int.tdiv_eq_ediv_of_nonneg (by omega)];omega
     have t2:(x:Int).tdiv 100=(q2:Int):=by rw [Int.tdiv_eq_ediv_of_nonneg (by omega)];omega
     have t1:(x:Int).tdiv 10=(q1:Int):=by rw [Int.tdiv_eq_ediv_of_nonneg (by omega)];omega
     have m2:(q2:Int).tmod 10=(r2:Int):=by rw [Int.tmod_eq_emod_of_nonneg (by omega)];omega
     have m1:(q1:Int).tmod 10=(r1:Int):=by rw [Int.tmod_eq_emod_of_nonneg (by omega)];omega
     have m0:(x:Int).tmod 10=(r0:Int):=by rw [Int.tmod_eq_emod_of_nonneg (by omega)];omega
     have b3:q3≤9:=by omega
     have b2:r2≤9:=by omega
     have b1:r1≤9:=by omega
     have b0:r0≤9:=by omega
     obtain ⟨B3,hB3⟩:∃ B,48+q3=B:=⟨_,rfl⟩
     obtain ⟨B2,hB2⟩:∃ B,48+r2=B:=⟨_,rfl⟩
     obtain ⟨B1,hB1⟩:∃ B,48+r1=B:=⟨_,rfl⟩
     obtain ⟨B0,hB0⟩:∃ B,48+r0=B:=⟨_,rfl⟩
     have v3:IntKind.i64.wrap (q3:Int)=(q3:Int):=by rw [IntKind.wrap_i64];omega
     have v2:IntKind.i64.wrap (q2:Int)=(q2:Int):=by rw [IntKind.wrap_i64];omega
     have v1:IntKind.i64.wrap (q1:Int)=(q1:Int):=by rw [IntKind.wrap_i64];omega
     have s3:IntKind.i64.wrap (48+(q3:Int))=(B3:Int):=by rw [IntKind.wrap_i64];omega
     have s2:IntKind.i64.wrap (48+(r2:Int))=(B2:Int):=by rw [IntKind.wrap_i64];omega
     have s1:IntKind.i64.wrap (48+(r1:Int))=(B1:Int):=by rw [IntKind.wrap_i64];omega
     have s0:IntKind.i64.wrap (48+(r0:Int))=(B0:Int):=by rw [IntKind.wrap_i64];omega
     have y3:IntKind.u8.wrap (B3:Int)=(B3:Int):=by rw [IntKind.wrap_u8];omega
     have y2:IntKind.u8.wrap (B2:Int)=(B2:Int):=by rw [IntKind.wrap_u8];omega
     have y1:IntKind.u8.wrap (B1:Int)=(B1:Int):=by rw [IntKind.wrap_u8];omega
     have y0:IntKind.u8.wrap (B0:Int)=(B0:Int):=by rw [IntKind.wrap_u8];omega
     have Hpad:Hid (padD 4 x=[UInt8.ofNat B3,UInt8.ofNat B2,UInt8.ofNat B1,UInt8.ofNat B0]):=by
      show _=_
      rw [padD_four x hx4,g3,g2,e2,g1,e1,e0,hB3,hB2,hB1,hB0]
     have z3:B3<256:=by omega
     have z2:B2<256:=by omega
     have z1:B1<256:=by omega
     have z0:B0<256:=by omega
     have HB:=Lib.hid (And.intro z3 (And.intro z2 (And.intro z1 z0)))
     clear hx g3 g2 e2 g1 e1 e0 hk0 hB3 hB2 hB1 hB0 z3 z2 z1 z0
     have hrd:Ext wr wr.drew:=Below.drew (Ext.refl _)
     have lB:=Nat.lt_of_lt_of_le bA.lt HEr.out.size
     have lb:=(H4.out.ext (hE.trans HEr.out)).blt
     go_wp2_with fail
     go_region_held3 (fun w'=>w'.cell? ⟨w.heap.size,1,none⟩=some (.slice (some ⟨b,o,none⟩) n c)∧w'.cell? ⟨b,o+j,none⟩=some (.int .i64 (x:Nat)))
      (first | exact ⟨zKeep (W:=wr) (by assumption) lB d1,zKeep (W:=wr) (by assumption) lb hcl⟩ | exact ⟨zKeep (W:=wr) (hrd.trans (ext_alloc _ _)) lB d1,zKeep (W:=wr) (hrd.trans (ext_alloc _ _)) lb hcl⟩)
      (first | fail)
     have hx2:Ext wr (wr.alloc (.cells #[.int .u8 B3,.int .u8 B2,.int .u8 B1,.int .u8 B0] 5)).drew:=Below.drew (ext_alloc wr _)
     have d5:=zKeep hx2 lB d1
     have HE2:=Lib.hid (HEr.out.trans hx2)
     obtain ⟨k3,k2,k1,k0⟩:=four_cells wr (.int .u8 B3) (.int .u8 B2) (.int .u8 B1) (.int .u8 B0) 5
     have hdd:Ext (wr.alloc (.cells #[.int .u8 B3,.int .u8 B2,.int .u8 B1,.int .u8 B0] 5)) (wr.alloc (.cells #[.int .u8 B3,.int .u8 B2,.int .u8 B1,.int .u8 B0] 5)).drew:=Below.drew (Ext.refl _)
     have lG:wr.heap.size<(wr.alloc (.cells #[.int .u8 B3,.int .u8 B2,.int .u8 B1,.int .u8 B0] 5)).heap.size:=by simp
     have k3:=zKeep hdd lG k3
     have k2:=zKeep hdd lG k2
     have k1:=zKeep hdd lG k1
     have k0:=zKeep hdd lG k0
     clear d1 hcl hrd lB lb hdd lG hx2 t3 t2 t1 m2 m1 m0 b3 b2 b1 b0 v3 v2 v1 s3 s2 s1 s0 y3 y2 y1 y0
     go_wp2_with fail
     generalize (wr.alloc (.cells #[.int .u8 B3,.int .u8 B2,.int .u8 B1,.int .u8 B0] 5)).drew=W2 at *
     generalize wr.heap.size=G at *
     obtain ⟨hcell,hconv⟩:=four_conv k3 k2 k1 k0 HB.out
     have Hcell:=Lib.hid hcell;have Hconv:=Lib.hid hconv
     clear hcell hconv k3 k2 k1 k0 HB
     obtain ⟨bl,hbl⟩:∃ bl,[UInt8.ofNat B3,UInt8.ofNat B2,UInt8.ofNat B1,UInt8.ofNat B0]=bl:=⟨_,rfl⟩
     have hbl4:bl.length≤4:=by rw [←hbl];exact Nat.le_refl _
     rw [hbl] at Hcell Hconv Hpad
     clear hbl
     by_cases hfirst:j+1=n
     ·have hx0:0<x:=by
       have h6:=H6.out.resolve_left Hl.out
       rw [H1.out,←hfirst,Nat.add_sub_cancel,Hx.out] at h6
       omega
      obtain ⟨f,hf3,hall,hne,hdec⟩:=dec_first x hx4 hx0
      rw [Hpad.out] at hall hne hdec
      have Hall:=Lib.hid hall;have Hne:=Lib.hid hne
      have Hfin:Hid (tl++bl.drop f=sg++ztx l j):=by
       show _=_
       rw [ztx_first (by rw [H1.out];exact hfirst.symm) Hx.out,hdec,←Htl.out,hfirst]
       have:=ztx_end l
       rw [H1.out] at this
       rw [this,List.append_nil]
      have ej:((j:Int) == (n:Int)-1)=true:=by rw [beq_iff_eq];omega
      clear hall hne hdec hfirst hx0 Htl
      go_loop [6] (fun v=>∃ k:Nat,k≤f∧v=.int .i64 k) (fun v=>f-(intOf v).toNat)
      case atStart=>exact ⟨0,Nat.zero_le _,rfl⟩
      case round =>
       obtain ⟨k,hk,rfl⟩:=hrel
       by_cases hkf:k<f
       ·have hc:W2.cell? ⟨G,k,none⟩=some (.int .u8 48):=by
         rw [Hcell.out k (by omega),Hall.out k hkf];rfl
        have ik:(k:Int)<3:=by omega
        go_wp2_with fail
        go_round
        case rel=>exact ⟨k+1,by omega,by go_num⟩
        case measure=>simp [intOf];omega
       ·obtain rfl:k=f:=by omega
        have hcv:=Hconv.out k hf3
        by_cases hk3:k=3
        ·subst hk3
         go_wp2_with fail
         go_roundw
         case rel=>exact ⟨j,by omega,by go_num,by rw [str_append,Hfin.out],HE2.out⟩
         case measure=>simp [intOf]
        ·have ik:(k:Int)<3:=by omega
         obtain ⟨q,hq,hc⟩:∃ q:Nat,((q:Int) == 48)=false∧W2.cell? ⟨G,k,none⟩=some (.int .u8 (q:Nat)):=by
          refine ⟨(bl.getD k 0).toNat,?_,Hcell.out k (by omega)⟩
          rw [beq_eq_false_iff_ne]
          intro hc
          exact Hne.out (UInt8.toNat_inj.1 (by have:(48:UInt8).toNat=48:=rfl;rw [this];omega))
         go_wp2_with fail
         go_roundw
         case rel=>exact ⟨j,by omega,by go_num,by rw [str_append,Hfin.out],HE2.out⟩
         case measure=>simp [intOf]
     ·have ej:((j:Int) == (n:Int)-1)=false:=by rw [beq_eq_false_iff_ne];omega
      have Hfin:Hid (tl++bl=sg++ztx l j):=by
       show _=_
       rw [ztx_next H6.out (by rw [H1.out];omega) Hx.out hx4,Hpad.out,←Htl.out,List.append_assoc]
      have hcv:=Hconv.out 0 (by omega)
      rw [List.drop_zero] at hcv
      clear hfirst Htl
      go_loop [6] (fun v=>v=.int .i64 0) (fun v=>0)
      case atStart=>rfl
      case round =>
       subst hrel
       go_wp2_with fail
       go_roundw
       case rel=>exact ⟨j,by omega,by go_num,by rw [str_append,Hfin.out],HE2.out⟩
       case measure=>simp [intOf]
  ·have Hsg:=Lib.hid hsg
   clear hsg
   go_enter Tryz.func63,Tryz.ntmps63
   go_wp2_with fail
   generalize w.alloc (.cells #[.bool true,.slice (some ⟨b,o,none⟩) n c] 35)=W0 at *
   go_loopw [3,4] (fun tv iv wr=>∃ k:Nat,k≤n∧iv=.int .i64 ((k:Int)-1)∧tv=.string ⟨(sg++ztx l k).toArray⟩∧Ext W0 wr) (fun _ iv _=>(intOf iv+1).toNat)
   case atStart=>exact ⟨n,Nat.le_refl _,by go_num,by have:=ztx_end l;rw [H1.out] at this;rw [this,←Hsg.out];rfl,Ext.refl _⟩
   case round =>
    obtain ⟨k,hk,rfl,rfl,hEr⟩:=hrel
    have HEr:=Lib.hid hEr
    have d1:=zKeep hEr bA.lt x1
    clear hEr
    obtain ⟨tl,htl⟩:∃ tl,sg++ztx l k=tl:=⟨_,rfl⟩
    rw [htl]
    have htl8:tl.length≤4000010:=by
     have h1:=ztx_len H5.out k
     have h2:sg.length≤1:=by rw [←Hsg.out];decide
     rw [H1.out] at h1
     rw [←htl,List.length_append];omega
    have Htl:=Lib.hid htl
    clear htl
    by_cases hk0:k=0
    ·subst hk0
     go_wp2_with fail
     go_ret
     exact ⟨by rw [Hz.out,Htl.out];rfl,hE.trans HEr.out⟩
    ·obtain ⟨j,rfl⟩:∃ j,k=j+1:=⟨k-1,by omega⟩
     have ec:(((j+1:Nat):Int)-1)=(j:Int):=by omega
     have ij:(j:Int)<(n:Int):=by omega
     rw [ec]
     have hcl:=(H4.out.ext (hE.trans HEr.out)).at j (by rw [H1.out];omega)
     obtain ⟨x,hx⟩:∃ x,l.getD j 0=x:=⟨_,rfl⟩
     have hx4:x<10000:=by rw [←hx];exact H5.out.get j
     rw [hx] at hcl
     have Hx:=Lib.hid hx
     obtain ⟨q3,g3⟩:∃ q,x / 1000=q:=⟨_,rfl⟩
     obtain ⟨q2,g2⟩:∃ q,x / 100=q:=⟨_,rfl⟩
     obtain ⟨r2,e2⟩:∃ q,q2 % 10=q:=⟨_,rfl⟩
     obtain ⟨q1,g1⟩:∃ q,x / 10=q:=⟨_,rfl⟩
     obtain ⟨r1,e1⟩:∃ q,q1 % 10=q:=⟨_,rfl⟩
     obtain ⟨r0,e0⟩:∃ q,x % 10=q:=⟨_,rfl⟩
     have t3:(x:Int).tdiv 1000=(q3:Int):=by rw [Int.tdiv_eq_ediv_of_nonneg (by omega)];omega
     have t2:(x:Int).tdiv 100=(q2:Int):=by rw [Int.tdiv_eq_ediv_of_nonneg (by omega)];omega
     have t1:(x:Int).tdiv 10=(q1:Int):=by rw [Int.tdiv_eq_ediv_of_nonneg (by omega)];omega
     have m2:(q2:Int).tmod 10=(r2:Int):=by rw [Int.tmod_eq_emod_of_nonneg (by omega)];omega
     have m1:(q1:Int).tmod 10=(r1:Int):=by rw [Int.tmod_eq_emod_of_nonneg (by omega)];omega
     have m0:(x:Int).tmod 10=(r0:Int):=by rw [Int.tmod_eq_emod_of_nonneg (by omega)];omega
     have b3:q3≤9:=by omega
     have b2:r2≤9:=by omega
     have b1:r1≤9:=by omega
     have b0:r0≤9:=by omega
     obtain ⟨B3,hB3⟩:∃ B,48+q3=B:=⟨_,rfl⟩
     obtain ⟨B2,hB2⟩:∃ B,48+r2=B:=⟨_,rfl⟩
     obtain ⟨B1,hB1⟩:∃ B,48+r1=B:=⟨_,rfl⟩
     obtain ⟨B0,hB0⟩:∃ B,48+r0=B:=⟨_,rfl⟩
     have v3:IntKind.i64.wrap (q3:Int)=(q3:Int):=by rw [IntKind.wrap_i64];omega
     have v2:IntKind.i64.wrap (q2:Int)=(q2:Int):=by rw [IntKind.wrap_i64];omega
     have v1:IntKind.i64.wrap (q1:Int)=(q1:Int):=by rw [IntKind.wrap_i64];omega
     have s3:IntKind.i64.wrap (48+(q3:Int))=(B3:Int):=by rw [IntKind.wrap_i64];omega
     have s2:IntKind.i64.wrap (48+(r2:Int))=(B2:Int):=by rw [IntKind.wrap_i64];omega
     have s1:IntKind.i64.wrap (48+(r1:Int))=(B1:Int):=by rw [IntKind.wrap_i64];omega
     have s0:IntKind.i64.wrap (48+(r0:Int))=(B0:Int):=by rw [IntKind.wrap_i64];omega
     have y3:IntKind.u8.wrap (B3:Int)=(B3:Int):=by rw [IntKind.wrap_u8];omega
     have y2:IntKind.u8.wrap (B2:Int)=(B2:Int):=by rw [IntKind.wrap_u8];omega
     have y1:IntKind.u8.wrap (B1:Int)=(B1:Int):=by rw [IntKind.wrap_u8];omega
     have y0:IntKind.u8.wrap (B0:Int)=(B0:Int):=by rw [IntKind.wrap_u8];omega
     have Hpad:Hid (padD 4 x=[UInt8.ofNat B3,UInt8.ofNat B2,UInt8.ofNat B1,UInt8.ofNat B0]):=by
      show _=_
      rw [padD_four x hx4,g3,g2,e2,g1,e1,e0,hB3,hB2,hB1,hB0]
     have z3:B3<256:=by omega
     have z2:B2<256:=by omega
     have z1:B1<256:=by omega
     have z0:B0<256:=by omega
     have HB:=Lib.hid (And.intro z3 (And.intro z2 (And.intro z1 z0)))
     clear hx g3 g2 e2 g1 e1 e0 hk0 hB3 hB2 hB1 hB0 z3 z2 z1 z0
     have hrd:Ext wr wr.drew:=Below.drew (Ext.refl _)
     have lB:=Nat.lt_of_lt_of_le bA.lt HEr.out.size
     have lb:=(H4.out.ext (hE.trans HEr.out)).blt
     go_wp2_with fail
     go_region_held3 (fun w'=>w'.cell? ⟨w.heap.size,1,none⟩=some (.slice (some ⟨b,o,none⟩) n c)∧w'.cell? ⟨b,o+j,none⟩=some (.int .i64 (x:Nat)))
      (first | exact ⟨zKeep (W:=wr) (by assumption) lB d1,zKeep (W:=wr) (by assumption) lb hcl⟩ | exact ⟨zKeep (W:=wr) (hrd.trans (ext_alloc _ _)) lB d1,zKeep (W:=wr) (hrd.trans (ext_alloc _ _)) lb hcl⟩)
      (first | fail)
     have hx2:Ext wr (wr.alloc (.cells #[.int .u8 B3,.int .u8 B2,.int .u8 B1,.int .u8 B0] 5)).drew:=Below.drew (ext_alloc wr _)
     have d5:=zKeep hx2 lB d1
     have HE2:=Lib.hid (HEr.out.trans hx2)
     obtain ⟨k3,k2,k1,k0⟩:=four_cells wr (.int .u8 B3) (.int .u8 B2) (.int .u8 B1) (.int .u8 B0) 5
     have hdd:Ext (wr.alloc (.cells #[.int .u8 B3,.int .u8 B2,.int .u8 B1,.int .u8 B0] 5)) (wr.alloc (.cells #[.int .u8 B3,.int .u8 B2,.int .u8 B1,.int .u8 B0] 5)).drew:=Below.drew (Ext.refl _)
     have lG:wr.heap.size<(wr.alloc (.cells #[.int .u8 B3,.int .u8 B2,.int .u8 B1,.int .u8 B0] 5)).heap.size:=by simp
     have k3:=zKeep hdd lG k3
     have k2:=zKeep hdd lG k2
     have k1:=zKeep hdd lG k1
     have k0:=zKeep hdd lG k0
     clear d1 hcl hrd lB lb hdd lG hx2 t3 t2 t1 m2 m1 m0 b3 b2 b1 b0 v3 v2 v1 s3 s2 s1 s0 y3 y2 y1 y0
     go_wp2_with fail
     generalize (wr.alloc (.cells #[.int .u8 B3,.int .u8 B2,.int .u8 B1,.int .u8 B0] 5)).drew=W2 at *
     generalize wr.heap.size=G at *
     obtain ⟨hcell,hconv⟩:=four_conv k3 k2 k1 k0 HB.out
     have Hcell:=Lib.hid hcell;have Hconv:=Lib.hid hconv
     clear hcell hconv k3 k2 k1 k0 HB
     obtain ⟨bl,hbl⟩:∃ bl,[UInt8.ofNat B3,UInt8.ofNat B2,UInt8.ofNat B1,UInt8.ofNat B0]=bl:=⟨_,rfl⟩
     have hbl4:bl.length≤4:=by rw [←hbl];exact Nat.le_refl _
     rw [hbl] at Hcell Hconv Hpad
     clear hbl
     by_cases hfirst:j+1=n
     ·have hx0:0<x:=by
       have h6:=H6.out.resolve_left Hl.out
       rw [H1.out,←hfirst,Nat.add_sub_cancel,Hx.out] at h6
       omega
      obtain ⟨f,hf3,hall,hne,hdec⟩:=dec_first x hx4 hx0
      rw [Hpad.out] at hall hne hdec
      have Hall:=Lib.hid hall;have Hne:=Lib.hid hne
      have Hfin:Hid (tl++bl.drop f=sg++ztx l j):=by
       show _=_
       rw [ztx_first (by rw [H1.out];exact hfirst.symm) Hx.out,hdec,←Htl.out,hfirst]
       have:=ztx_end l
       rw [H1.out] at this
       rw [this,List.append_nil]
      have ej:((j:Int) == (n:Int)-1)=true:=by rw [beq_iff_eq];omega
      clear hall hne hdec hfirst hx0 Htl
      go_loop [6] (fun v=>∃ k:Nat,k≤f∧v=.int .i64 k) (fun v=>f-(intOf v).toNat)
      case atStart=>exact ⟨0,Nat.zero_le _,rfl⟩
      case round =>
       obtain ⟨k,hk,rfl⟩:=hrel
       by_cases hkf:k<f
       ·have hc:W2.cell? ⟨G,k,none⟩=some (.int .u8 48):=by
         rw [Hcell.out k (by omega),Hall.out k hkf];rfl
        have ik:(k:Int)<3:=by omega
        go_wp2_with fail
        go_round
        case rel=>exact ⟨k+1,by omega,by go_num⟩
        case measure=>simp [intOf];omega
       ·obtain rfl:k=f:=by omega
        have hcv:=Hconv.out k hf3
        by_cases hk3:k=3
        ·subst hk3
         go_wp2_with fail
         go_roundw
         case rel=>exact ⟨j,by omega,by go_num,by rw [str_append,Hfin.out],HE2.out⟩
         case measure=>simp [intOf]
        ·have ik:(k:Int)<3:=by omega
         obtain ⟨q,hq,hc⟩:∃ q:Nat,((q:Int) == 48)=false∧W2.cell? ⟨G,k,none⟩=some (.int .u8 (q:Nat)):=by
          refine ⟨(bl.getD k 0).toNat,?_,Hcell.out k (by omega)⟩
          rw [beq_eq_false_iff_ne]
          intro hc
          exact Hne.out (UInt8.toNat_inj.1 (by have:(48:UInt8).toNat=48:=rfl;rw [this];omega))
         go_wp2_with fail
         go_roundw
         case rel=>exact ⟨j,by omega,by go_num,by rw [str_append,Hfin.out],HE2.out⟩
         case measure=>simp [intOf]
     ·have ej:((j:Int) == (n:Int)-1)=false:=by rw [beq_eq_false_iff_ne];omega
      have Hfin:Hid (tl++bl=sg++ztx l j):=by
       show _=_
       rw [ztx_next H6.out (by rw [H1.out];omega) Hx.out hx4,Hpad.out,←Htl.out,List.append_assoc]
      have hcv:=Hconv.out 0 (by omega)
      rw [List.drop_zero] at hcv
      clear hfirst Htl
      go_loop [6] (fun v=>v=.int .i64 0) (fun v=>0)
      case atStart=>rfl
      case round =>
       subst hrel
       go_wp2_with fail
       go_roundw
       case rel=>exact ⟨j,by omega,by go_num,by rw [str_append,Hfin.out],HE2.out⟩
       case measure=>simp [intOf]
def lstN (f:Nat→Int):Nat→Nat
 | 0=>0
 | n+1=>if f n=0 then lstN f n else n
theorem lstN_lt (f:Nat→Int):∀ n,0<n→lstN f n<n
 | 0,h=>absurd h (Nat.lt_irrefl 0)
 | 1,_=>by simp only [lstN];split<;>omega
 | n+2,_=>by
  have:=lstN_lt f (n+1) (by omega)
  rw [lstN];split<;>omega
theorem lstN_len (f:Nat→Int):∀ n,0<n→lenN f n=lstN f n+1
 | 0,h=>absurd h (Nat.lt_irrefl 0)
 | 1,_=>by simp [lenN,lstN]
 | n+2,_=>by
  have:=lstN_len f (n+1) (by omega)
  rw [lenN,lstN]
  by_cases h:f (n+1)=0
  ·rw [if_pos ⟨by omega,h⟩,if_pos h,this]
  ·rw [if_neg (fun k=>h k.2),if_neg h]
theorem jnT_more (f:Nat→Int) (j:Nat) (h:0<j):(⟨(jnT f j).toArray⟩:ByteArray)++(⟨#[44]⟩++⟨(Lib.itoa (f j)).toArray⟩)=⟨(jnT f (j+1)).toArray⟩:=by
 apply ByteArray.ext
 simp [jnT,h]
theorem QText_nm (ca:Array Value) (x:Nm) (P E:Nat) (w:World) (h:RmA w ca x P E) (hP:P≤400000) (hE:E≤1099511627776) :
  Calls Tryz.prog 10 #[.agg ca] w fun r w'=>r=.returned (.string ⟨(rtx (nmF x)).toArray⟩)∧Ext w w':=by
 obtain ⟨f,hf⟩:∃ f,nmF x=f:=⟨_,rfl⟩
 obtain ⟨e,he⟩:∃ e,x.e=e:=⟨_,rfl⟩
 have hv:ZCs w ca f (e:Int):=by rw [←he];exact h.val.congr fun i hi=>by rw [←hf];unfold nmF;rw [if_neg (by omega)]
 have h8:f 8=(e:Int):=by rw [←hf,←he];rfl
 have hab:∀ i,i<8→(f i).natAbs<2 ^ P:=fun i hi=>by rw [←hf];unfold nmF;rw [if_neg (by omega)];exact h.abs i
 have hdn:e≤E:=by rw [←he];exact h.down
 have h0:=hv.box
 have E0:=Ext.alloc w (.cells ca 38)
 obtain ⟨H,hH⟩:∃ H,w.heap.size=H:=⟨_,rfl⟩
 obtain ⟨U,hU⟩:∃ U,w.alloc (.cells ca 38)=U:=⟨_,rfl⟩
 rw [hU,hH] at h0
 rw [hU] at E0
 rw [hf]
 have hlen:=lstN_len f 8 (by decide);have hlt8:=lstN_lt f 8 (by decide)
 have Hrt:=Lib.hid (show rtx f=jnT f (lstN f 8+1)++(if f 8=0 then [] else 47 :: Lib.itoa (f 8)) by unfold rtx;rw [hlen])
 have HV:=Lib.hid h0;have HE:=Lib.hid E0;have HU:=Lib.hid hU;have HH:=Lib.hid hH;have HP:=Lib.hid hP;have HEE:=Lib.hid hE;have H8:=Lib.hid h8;have Hab:=Lib.hid hab;have Hdn:=Lib.hid hdn;have Hlt8:=Lib.hid hlt8
 clear h hv hf he h0 E0 hU hH hP hE h8 hab hdn hlen hlt8
 go_enter Tryz.func10,Tryz.ntmps10
 go_wp2_with fail
 rw [HU.out,HH.out]
 clear HU
 go_loopg [3,4] 8 (fun kk s3 s4 wr=>∃ j:Nat,s3=.int .i64 ((lstN f j:Nat):Int)∧s4=.int .i64 (j:Int)∧j≤8∧8-j=kk∧ZVar wr H f (e:Int)∧Ext w wr)
 case atStart=>exact ⟨0,rfl,rfl,by omega,by omega,HV.out,HE.out⟩
 case round =>
  clear HV HE
  obtain ⟨j,rfl,rfl,hj,hjk,hV,hE⟩:=hrel
  obtain ⟨wo,rfl⟩:∃ wo:World,wo=wr:=⟨_,rfl⟩
  have HV:=Lib.hid hV;have HE:=Lib.hid hE;have Hjk:=Lib.hid hjk
  by_cases hj8:j=8
  ·subst hj8
   obtain ⟨b,a,n,c,y0,y1,_,_,hI⟩:=hV.get 0 (by decide)
   have hn:n≤P:=hI.bits (Hab.out 0 (by decide))
   have HT:=Lib.hid (ZText_any b a n c (f 0) wo hI (by have:=HP.out;omega))
   clear hI hn hV hE hj hjk Hjk
   go_wp2_with fail
   refine HT.out.mono ?_
   rintro r w1 ⟨rfl,hx1⟩
   have HV1:=Lib.hid (HV.out.ext hx1);have HE1:=Lib.hid (HE.out.trans hx1)
   clear HV HE HT hx1 y0 y1
   obtain ⟨m,hm⟩:∃ m,lstN f 8=m:=⟨_,rfl⟩
   rw [hm] at Hlt8 Hrt ⊢
   go_wp2_with fail
   go_loopg [5,6] m (fun kk s5 s6 wr=>∃ j:Nat,s5=.string ⟨(jnT f j).toArray⟩∧s6=.int .i64 (j:Int)∧1≤j∧j≤m+1∧m+1-j=kk∧ZVar wr H f (e:Int)∧Ext w wr)
   case atStart=>exact ⟨1,by simp [jnT],rfl,by omega,by omega,by omega,HV1.out,HE1.out⟩
   case round =>
    clear HV1 HE1
    obtain ⟨j,rfl,rfl,hj0,hj,hjk,hV,hE⟩:=hrel
    obtain ⟨wo,rfl⟩:∃ wo:World,wo=wr:=⟨_,rfl⟩
    by_cases hjm:j=m+1
    ·have q1:¬ (j:Int)≤(m:Int):=by omega
     have x16:=hV.gete.1
     subst hjm
     by_cases he0:e=0
     ·subst he0
      have Hend:=Lib.hid (show rtx f=jnT f (m+1) by rw [Hrt.out,H8.out];simp)
      have HE:=Lib.hid hE
      clear hV hE hj hj0 hjk
      go_wp2_with fail
      go_ret
      exact ⟨congrArg (fun l:List UInt8=>Ending.returned (Value.string ⟨l.toArray⟩)) Hend.out.symm,HE.out⟩
     ·have q2:(0:Int)<(e:Int):=by omega
      have q3:0<e:=by omega
      have HZo:=Lib.hid (ZOf_any (e:Int) (by omega) (by have:=Hdn.out;have:=HEE.out;omega) wo)
      have Hend:=Lib.hid (show (⟨(rtx f).toArray⟩:ByteArray)=⟨(jnT f (m+1)).toArray⟩++(⟨#[47]⟩++⟨(Lib.itoa (e:Int)).toArray⟩) by
       rw [Hrt.out,H8.out,if_neg (by omega)]
       apply ByteArray.ext
       simp)
      have HE:=Lib.hid hE
      have hq1:=ritoa_len (e:Int) 41 (by have:=Hdn.out;have:=HEE.out;rw [Int.natAbs_natCast];exact Nat.lt_of_le_of_lt (show e≤1099511627776 by omega) (by decide))
      have hq2:=Nat.le_trans (jnT_len f P Hab.out (m+1) Hlt8.out) (Nat.mul_le_mul_right (P+3) (show m+1≤8 from Hlt8.out))
      have Hs:=Lib.hid (show ¬ 9223372036854775807<1+(Lib.itoa (e:Int)).length∧¬ 9223372036854775807<(jnT f (m+1)).length+(1+(Lib.itoa (e:Int)).length) by have:=HP.out;omega)
      clear hV hE hj hj0 hjk he0 hq1 hq2
      go_wp2_with fail
      refine HZo.out.mono ?_
      rintro r w2 ⟨b2,a2,n2,c2,rfl,hI2,hn2,hx2⟩
      have HT2:=Lib.hid (ZText_any b2 a2 n2 c2 (e:Int) w2 hI2 (by omega))
      have HE2:=Lib.hid (HE.out.trans hx2)
      clear hI2 hn2 hx2 HE HZo x16
      go_wp2_with fail
      refine HT2.out.mono ?_
      rintro r w3 ⟨rfl,hx3⟩
      have hs1:=Hs.out.1;have hs2:=Hs.out.2
      have HE3:=Lib.hid (HE2.out.trans hx3)
      clear hx3 HE2 HT2
      go_wp2_with fail
      go_ret
      exact ⟨congrArg (fun b:ByteArray=>Ending.returned (Value.string b)) Hend.out.symm,HE3.out⟩
    have q1:(j:Int)≤(m:Int):=by omega
    have q2:(0:Int)≤(j:Int):=by omega
    have hj8:j<8:=by have:=Hlt8.out;omega
    have q3:(j:Int)<8:=by omega
    have wk:IntKind.i64.wrap ((j:Int)+1)=((j+1:Nat):Int):=by rw [IntKind.wrap_i64];omega
    have Hmore:=Lib.hid (jnT_more f j hj0)
    have Hj1:=Lib.hid (show 1≤j+1∧j+1≤m+1 by omega);have Hjk:=Lib.hid hjk
    obtain ⟨b,a,n,c,y0,y1,_,_,hI⟩:=hV.get j hj8
    have hn:n≤P:=hI.bits (Hab.out j hj8)
    have HT:=Lib.hid (ZText_any b a n c (f j) wo hI (by have:=HP.out;omega))
    have HV:=Lib.hid hV;have HE:=Lib.hid hE
    have hq1:=ritoa_len (f j) P (Hab.out j hj8)
    have hq2:=Nat.le_trans (jnT_len f P Hab.out j (by omega)) (Nat.mul_le_mul_right (P+3) (show j≤8 by omega))
    have Hs:=Lib.hid (show ¬ 9223372036854775807<1+(Lib.itoa (f j)).length∧¬ 9223372036854775807<(jnT f j).length+(1+(Lib.itoa (f j)).length) by have:=HP.out;omega)
    clear hI hn hV hE hj hj0 hjk hjm hj8 hq1 hq2
    go_wp2_with fail
    refine HT.out.mono ?_
    rintro r w1 ⟨rfl,hx1⟩
    have hs1:=Hs.out.1;have hs2:=Hs.out.2
    have HV1:=Lib.hid (HV.out.ext hx1);have HE1:=Lib.hid (HE.out.trans hx1)
    clear HV HE HT hx1 y0 y1
    go_wp2_with fail
    go_roundg (m+1-(j+1))
    case measure=>have:=Hjk.out;have:=Hj1.out;omega
    case rel=>exact ⟨j+1,congrArg Value.string Hmore.out,rfl,Hj1.out.1,Hj1.out.2,rfl,HV1.out,HE1.out⟩
  have hlt:j<8:=by omega
  have q1:(j:Int)<8:=by omega
  have q0:(0:Int)≤(j:Int):=by omega
  have wk:IntKind.i64.wrap ((j:Int)+1)=((j+1:Nat):Int):=by rw [IntKind.wrap_i64];omega
  have Hj1:=Lib.hid (show j+1≤8 by omega)
  obtain ⟨b,a,n,c,y0,y1,_,_,hI⟩:=hV.get j hlt
  have hiff:=hI.nil_iff
  clear hI hj8 hj hlt hV hE hjk
  by_cases hn:n=0
  ·have q2:¬ (0:Int)<(n:Int):=by omega
   have Hl:=Lib.hid (show lstN f (j+1)=lstN f j by rw [lstN,if_pos (hiff.1 hn)])
   clear hn hiff
   go_wp2_with fail
   go_roundg (8-(j+1))
   case measure=>have:=Hjk.out;have:=Hj1.out;omega
   case rel=>exact ⟨j+1,by rw [Hl.out],rfl,Hj1.out,rfl,HV.out,HE.out⟩
  ·have q2:(0:Int)<(n:Int):=by omega
   have Hl:=Lib.hid (show lstN f (j+1)=j by rw [lstN,if_neg (fun k=>hn (hiff.2 k))])
   clear hn hiff
   go_wp2_with fail
   go_roundg (8-(j+1))
   case measure=>have:=Hjk.out;have:=Hj1.out;omega
   case rel=>exact ⟨j+1,by rw [Hl.out],rfl,Hj1.out,rfl,HV.out,HE.out⟩
theorem same_kept {w w':World} {ca cb:Array Value} {x y p:Nm} {P E P' E':Nat} (hx:NmA w ca x P E) (hy:RmA w' cb y P' E') (h:EqN x p) (g:EqN y p):x=y:=low_one hx.low hy.low (h.trans g.symm)
end Go.Proofs.YtiicfpdiehgikaaGreatDoor
