/-
  The reference: the power brought down as far as it goes. The reference's numbers: ZPow2. The reference: a number over a greater power. The reference: sums.
-/
import Derived.Test.YtfjnlopbmkimiaaGreatDoorS11Ucq
namespace Go.Proofs.YtfjnlopbmkimiaaGreatDoor
set_option maxRecDepth 100000
set_option maxHeartbeats 4000000
open Go.RowKit
variable {Qc:Nat->Prop}
open Go.RowKit
def hvN (f:Nat->Int) (j:Nat):Nat->Int:=fun i=>if i<j then f i / 2 else f i
theorem hvN_step (f:Nat->Int) (j i:Nat):updN (hvN f j) j (f j / 2) i=hvN f (j+1) i:=by
 unfold updN hvN
 by_cases e:i=j
 ·subst e;simp
 ·rw [if_neg e]
  by_cases h:i<j
  ·rw [if_pos h,if_pos (by omega)]
  ·rw [if_neg h,if_neg (by omega)]
def SameN (f:Nat->Int) (d:Nat) (g:Nat->Int) (e:Nat):Prop:=EqN ⟨ext8 g,e⟩ ⟨ext8 f,d⟩
theorem same_half {f g:Nat->Int} {d e:Nat} (h:SameN f d g (e+1)) (hev:∀ i,i<8->g i % 2=0):SameN f d (hvN g 8) e:=by
 refine EqN.trans ?_ h;intro k;have h1:ext8 g k=ext8 (hvN g 8) k*2:=ext8_scale (f:=g) (V:=hvN g 8) (c:=2) (fun i hi=>by have:=hev i hi;unfold hvN;rw [if_pos hi];omega) k
 show ext8 (hvN g 8) k*2 ^ (e+1)=ext8 g k*2 ^ e
 rw [h1,Int.pow_succ];simp only [Int.mul_assoc,Int.mul_comm];simp only [Int.mul_left_comm]
theorem same_zero {f g:Nat->Int} {d e:Nat} (h:SameN f d g e) (hz:zeroN g):SameN f d (fun _=>0) 0:=by
 refine EqN.trans ?_ h;intro k
 have e1:ext8 g=ext8 fun _=>0:=ext8_congr fun i hi=>hz i hi
 show ext8 (fun _=>0) k*2 ^ e=ext8 g k*2 ^ 0
 rw [e1,ext8_zero];simp
theorem Qleast_any (ca:Array Value) (f:Nat->Int) (d:Nat) (w:World) (h:ZCs Qc w ca f (d:Int)) (P E:Nat) (hP:P<=400000) (hA:∀ i,i<8->(f i).natAbs<2 ^ P) (hd:d<=E) (hE:E<=1099511627776) :
  Calls Tryz.prog 73 #[.agg ca] w fun r w'=>∃ (cr:Array Value) (y:Nm),r=.returned (.agg cr)/\RmA Qc w' cr y P E/\EqN y ⟨ext8 f,d⟩/\Ext w w':=by
 obtain ⟨H,hH⟩:∃ H,w.heap.size=H:=⟨_,rfl⟩;obtain ⟨U,hU⟩:∃ U,(w.alloc (.cells ca 48)).alloc (.cells zeroR 48)=U:=⟨_,rfl⟩
 have E0:Ext w U:=by rw [<-hU];exact (Ext.alloc _ _).trans (Ext.alloc _ _)
 have V0:ZVar Qc U H f (d:Int):=by rw [<-hU,<-hH];exact h.box.ext (Ext.alloc _ _)
 have Z0:ZVar Qc U (H+1) (fun _=>0) 0:=by
  have:=(zcs_zero (Qc:=Qc) (w.alloc (.cells ca 48))).box;rw [<-hU,<-hH]
  simpa using this
 have HU:=Lh hU;have HH:=Lh hH;have HP:=Lh hP;have HEE:=Lh hE;have Hst:=Lh (show SameN f d f d/\(∀ i,i<8->(f i).natAbs<2 ^ P)/\d<=E/\ZVar Qc U H f (d:Int)/\ZVar Qc U (H+1) (fun _=>0) 0/\Ext w U from ⟨EqN.refl _,hA,hd,V0,Z0,E0⟩);clear hU hH V0 Z0 E0 h hP hA hd hE
 go_enter Tryz.func73,Tryz.ntmps73
 go_wp2_with fail
 rw [HU.out,HH.out];clear HU
 go_loopg [3,4] d (fun kk s3 s4 wr=>∃ (g:Nat->Int),SameN f d g kk/\(∀ i,i<8->(g i).natAbs<2 ^ P)/\kk<=E/\ZVar Qc wr H g (kk:Int)/\ZVar Qc wr (H+1) (fun _=>0) 0/\Ext w wr)
 case atStart=>exact ⟨f,Hst.out⟩
 case round =>
  clear Hst;obtain ⟨g,hS,hA,hkE,hV,hZ,hE⟩:=hrel;obtain ⟨wo,rfl⟩:∃ wo:World,wo=wr:=⟨_,rfl⟩;have x16:=hV.gete.1;have HS:=Lh hS;have HA:=Lh hA;have HkE:=Lh hkE;clear hS hA hkE
  cases gk with
  | zero =>
   obtain ⟨cr,hr,hc⟩:=hV
   have hinf:(Tryz.prog.info? 48).map (·.size)=some cr.size:=by rw [hc.1];exact zR_info
   obtain ⟨c1,hr1,hs1,hone,_,rr,hzz,hE'⟩:=fin_rm hc hZ hE (by rw [HH.out];omega)
   have Hend:=Lh (show RmA Qc (wo.setRow (H+1) cr) cr ⟨ext8 g,0⟩ P E/\EqN ⟨ext8 g,0⟩ ⟨ext8 f,d⟩/\Ext w (wo.setRow (H+1) cr) from
    ⟨⟨anti_ext8 g,Or.inl rfl,fun k=>Nat.lt_of_le_of_lt (ext8_abs (A:=2 ^ P-1) (fun i hi=>by have:=HA.out i hi;omega) k) (by have:0<2 ^ P:=Nat.pow_pos (by decide);omega),Nat.zero_le _,hzz.congr fun i hi=>by
     show g i=ext8 g (i:Int)
     rw [ext8_at g _ (by omega) (by omega)];rfl⟩,HS.out,hE'⟩)
   clear hc hZ hE hzz hE'
   go_wp2_with (first
    | refine wpList_load_row rfl 48 _ rfl H rfl 48 _ (0,0) _ hr Tryz.underlying48 rfl hinf ?_
    | refine wpList_store_row rfl 48 _ _ rfl (H+1) cr rfl rfl 48 _ hr1 hinf hs1 hone ?_)
   refine bodyPost_ret (v:=.agg cr) ?_ rfl ⟨_,_,rfl,Hend.out⟩;exact results_cell_row rfl _ _ (H+1) _ _ _ _ rfl rr Tryz.underlying48 rfl hinf
  | succ m =>
  have q1:(0:Int)<((m+1:Nat):Int):=by omega
  have HV:=Lh hV;have HZ:=Lh hZ;have HE:=Lh hE;clear hV hZ hE
  go_wp2_with fail
  clear x16 q1
  go_loopg [3] 8 (fun kk s3 wr=>∃ j:Nat,s3=.int .i64 (j:Int)/\j<=8/\8-j=kk/\(∀ i,i<j->g i % 2=0)/\ZVar Qc wr H g ((m+1:Nat):Int)/\ZVar Qc wr (H+1) (fun _=>0) 0/\Ext w wr)
  case atStart=>exact ⟨0,rfl,by omega,by omega,fun i hi=>by omega,HV.out,HZ.out,HE.out⟩
  case round =>
   clear HV HZ HE;obtain ⟨j,rfl,hj,hjk,hev,hV,hZ,hE⟩:=hrel;obtain ⟨wo,rfl⟩:∃ wo:World,wo=wr:=⟨_,rfl⟩;have Hev:=Lh hev;clear hev
   by_cases hj8:j=8
   ·subst hj8
    have HV:=Lh (hV.congr (f':=hvN g 0) fun i _=>by simp [hvN]);have HZ:=Lh hZ;have HE:=Lh hE;have HA2:=Lh (show ∀ i,i<8->(hvN g 8 i).natAbs<2 ^ P from fun i hi=>by have:=HA.out i hi;unfold hvN;rw [if_pos hi];omega);have HS2:=Lh (same_half HS.out Hev.out);clear hV hZ hE hj hjk
    go_wp2_with fail
    go_loopg [4] 8 (fun kk s4 wr=>∃ j:Nat,s4=.int .i64 (j:Int)/\j<=8/\8-j=kk/\ZVar Qc wr H (hvN g j) ((m+1:Nat):Int)/\ZVar Qc wr (H+1) (fun _=>0) 0/\Ext w wr)
    case atStart=>exact ⟨0,rfl,by omega,by omega,HV.out,HZ.out,HE.out⟩
    case round =>
     clear HV HZ HE;obtain ⟨j,rfl,hj,hjk,hV,hZ,hE⟩:=hrel;obtain ⟨wo,rfl⟩:∃ wo:World,wo=wr:=⟨_,rfl⟩
     by_cases hj8:j=8
     ·subst hj8
      obtain ⟨cq,hrq,hcq⟩:=hV
      have hinfq:(Tryz.prog.info? 48).map (·.size)=some cq.size:=by rw [hcq.1];exact zR_info
      have HcQ:=Lh hcq;have HrQ:=Lh hrq
      by_cases hz:zeroN (hvN g 8)
      ·have HQ:=Lh (QZero_any cq (hvN g 8) _ wo hcq true (by simp [hz]))
       have HZ:=Lh hZ;have HE:=Lh hE;have Hz:=Lh hz;clear hcq hZ hE hj hjk hz
       go_wp2_with (refine wpList_load_row rfl 48 _ rfl H rfl 48 _ (0,0) _ hrq Tryz.underlying48 rfl hinfq ?_)
       refine HQ.out.mono ?_;rintro r w2 ⟨rfl,hx2⟩;obtain ⟨c1,hr1,hs1,hone,hinf,rr,hzz,hE'⟩:=fin_rm (zcs_zero (Qc:=Qc) w2) (HZ.out.ext hx2) (HE.out.trans hx2) (by rw [HH.out];omega)
       have Hend:=Lh (show RmA Qc (w2.setRow (H+1) zeroR) zeroR ⟨ext8 (fun _=>0),0⟩ P E/\EqN ⟨ext8 (fun _=>0),0⟩ ⟨ext8 f,d⟩/\Ext w (w2.setRow (H+1) zeroR) from
        ⟨⟨anti_ext8 (fun _=>0),Or.inl rfl,fun k=>by rw [ext8_zero];exact Nat.pow_pos (by decide),Nat.zero_le _,hzz.congr fun i _=>by show (0:Int)=ext8 (fun _=>0) (i:Int);rw [ext8_zero]⟩,same_zero HS2.out Hz.out,hE'⟩)
       clear hzz hE' hx2 HQ HZ HE
       go_wp2_with (refine wpList_store_row rfl 48 _ _ rfl (H+1) zeroR rfl rfl 48 _ hr1 hinf hs1 hone ?_)
       refine bodyPost_ret (v:=.agg zeroR) ?_ rfl ⟨_,_,rfl,Hend.out⟩;exact results_cell_row rfl _ _ (H+1) _ _ _ _ rfl rr Tryz.underlying48 rfl hinf
      ·have HQ:=Lh (QZero_any cq (hvN g 8) _ wo hcq false (by simp [hz]))
       have HZ:=Lh hZ;have HE:=Lh hE;clear hcq hZ hE hj hjk hz
       go_wp2_with (refine wpList_load_row rfl 48 _ rfl H rfl 48 _ (0,0) _ hrq Tryz.underlying48 rfl hinfq ?_)
       refine HQ.out.mono ?_;rintro r w2 ⟨rfl,hx2⟩;have hV2:ZVar Qc w2 H (hvN g 8) ((m+1:Nat):Int):=(show ZVar Qc wo H (hvN g 8) ((m+1:Nat):Int) from ⟨cq,HrQ.out,HcQ.out⟩).ext hx2;have y16:=hV2.gete.1;have f16:=hV2.gete.2;obtain ⟨hs,hch⟩:=hV2.sete (m:Int)
       have wm:IntKind.i64.wrap (m:Int)=(m:Int):=by have:=HkE.out;have:=HEE.out;rw [IntKind.wrap_i64];omega
       have Hend:=Lh (show ZVar Qc (w2.setCell ⟨H,16,none⟩ (.int .i64 (m:Int))) H (hvN g 8) (m:Int)/\ZVar Qc (w2.setCell ⟨H,16,none⟩ (.int .i64 (m:Int))) (H+1) (fun _=>0) 0/\Ext w (w2.setCell ⟨H,16,none⟩ (.int .i64 (m:Int))) from
        ⟨hs,(HZ.out.ext hx2).chz hch hV2.no (by omega),hch.ext (HE.out.trans hx2) (by rw [HH.out];exact Nat.le_refl _)⟩)
       clear hs hch hV2 hx2 HQ HZ HE hrq hinfq HcQ HrQ
       go_wp2_with fail
       clear y16 f16 wm;generalize w2.setCell ⟨H,16,none⟩ (.int .i64 (m:Int))=V at *
       go_roundg m
       case measure=>omega
       case rel=>exact ⟨hvN g 8,HS2.out,HA2.out,by have:=HkE.out;omega,Hend.out⟩
     have hlt:j<8:=by omega
     have q1:(j:Int)<8:=by omega
     have q0:(0:Int)<=(j:Int):=by omega
     have wk:IntKind.i64.wrap ((j:Int)+1)=((j+1:Nat):Int):=by rw [IntKind.wrap_i64];omega
     have Hj1:=Lh (show j+1<=8 by omega);have Hlt:=Lh hlt;obtain ⟨b,a,n,c,y0,y1,_,_,hI⟩:=hV.get j hlt;have hI2:=hI.cast (show hvN g j j=g j by simp [hvN]);have hn:n<=P:=hI2.bits (HA.out j hlt);have HHa:=Lh (zhalf_two b a n c (g j) wo hI2 (by have:=HP.out;omega));have HV:=Lh hV;have HZ:=Lh hZ;have HE:=Lh hE;have Hjk:=Lh hjk;clear hI hI2 hV hZ hE hjk hj8 hj hlt hn
     go_wp2_with fail
     refine HHa.out.mono ?_;rintro r w2 ⟨b2,a2,n2,c2,z2,bo,rfl,hI2,hz2,_,hx2⟩;have hI3:=hI2.cast (hz2.out (Hev.out j Hlt.out));have hV2:=HV.out.ext hx2;obtain ⟨_,_,_,_,z0,z1,fz0,fz1,_⟩:=hV2.get j Hlt.out;obtain ⟨hs,hch⟩:=hV2.set j Hlt.out hI3
     have Hend:=Lh (show ZVar Qc ((w2.setCell ⟨H,j*2,none⟩ (.bool b2)).setCell ⟨H,j*2+1,none⟩ (.slice a2 n2 c2)) H (hvN g (j+1)) ((m+1:Nat):Int)/\ZVar Qc ((w2.setCell ⟨H,j*2,none⟩ (.bool b2)).setCell ⟨H,j*2+1,none⟩ (.slice a2 n2 c2)) (H+1) (fun _=>0) 0/\Ext w ((w2.setCell ⟨H,j*2,none⟩ (.bool b2)).setCell ⟨H,j*2+1,none⟩ (.slice a2 n2 c2)) from
      ⟨hs.congr fun i _=>hvN_step g j i,(HZ.out.ext hx2).chz hch hV2.no (by omega),hch.ext (HE.out.trans hx2) (by rw [HH.out];exact Nat.le_refl _)⟩)
     clear hs hch hV2 hI2 hI3 hz2 hx2 HHa HV HZ HE y0 y1
     go_wp2_with fail
     clear z0 z1 fz0 fz1;generalize ((w2.setCell ⟨H,j*2,none⟩ (.bool b2)).setCell ⟨H,j*2+1,none⟩ (.slice a2 n2 c2))=V at *
     go_roundg (8-(j+1))
     case measure=>have:=Hjk.out;have:=Hj1.out;omega
     case rel=>exact ⟨j+1,rfl,Hj1.out,rfl,Hend.out⟩
   have hlt:j<8:=by omega
   have q1:(j:Int)<8:=by omega
   have q0:(0:Int)<=(j:Int):=by omega
   have wk:IntKind.i64.wrap ((j:Int)+1)=((j+1:Nat):Int):=by rw [IntKind.wrap_i64];omega
   have Hj1:=Lh (show j+1<=8 by omega);have Hlt:=Lh hlt;obtain ⟨b,a,n,c,y0,y1,_,_,hI⟩:=hV.get j hlt
   by_cases ho:(g j).natAbs % 2=1
   ·have HOd:=Lh (zodd_any b a n c (g j) wo hI true (by simp [ho]))
    have HV:=Lh hV;have HZ:=Lh hZ;have HE:=Lh hE;have Hlow:=Lh (show Low ⟨ext8 g,m+1⟩ from Or.inr ⟨(j:Int),by show ext8 g (j:Int) % 2=1;rw [ext8_at g _ (by omega) (by omega)];show g j % 2=1;omega⟩);clear hI hV hZ hE hj8 hj hlt ho
    go_wp2_with fail
    refine HOd.out.mono ?_;rintro r w2 ⟨rfl,hx2⟩;have hV:=HV.out.ext hx2;have hZ:=HZ.out.ext hx2;have hE:=HE.out.trans hx2;obtain ⟨wo,rfl⟩:∃ wo:World,wo=w2:=⟨_,rfl⟩;clear hx2 HOd HV HZ HE y0 y1;obtain ⟨cr,hr,hc⟩:=hV
    have hinf:(Tryz.prog.info? 48).map (·.size)=some cr.size:=by rw [hc.1];exact zR_info
    obtain ⟨c1,hr1,hs1,hone,_,rr,hzz,hE'⟩:=fin_rm hc hZ hE (by rw [HH.out];omega)
    have Hend:=Lh (show RmA Qc (wo.setRow (H+1) cr) cr ⟨ext8 g,m+1⟩ P E/\EqN ⟨ext8 g,m+1⟩ ⟨ext8 f,d⟩/\Ext w (wo.setRow (H+1) cr) from
     ⟨⟨anti_ext8 g,Hlow.out,fun k=>Nat.lt_of_le_of_lt (ext8_abs (A:=2 ^ P-1) (fun i hi=>by have:=HA.out i hi;omega) k) (by have:0<2 ^ P:=Nat.pow_pos (by decide);omega),HkE.out,hzz.congr fun i hi=>by
      show g i=ext8 g (i:Int)
      rw [ext8_at g _ (by omega) (by omega)];rfl⟩,HS.out,hE'⟩)
    clear hc hZ hE hzz hE'
    go_wp2_with (first
     | refine wpList_load_row rfl 48 _ rfl H rfl 48 _ (0,0) _ hr Tryz.underlying48 rfl hinf ?_
     | refine wpList_store_row rfl 48 _ _ rfl (H+1) cr rfl rfl 48 _ hr1 hinf hs1 hone ?_)
    refine bodyPost_ret (v:=.agg cr) ?_ rfl ⟨_,_,rfl,Hend.out⟩;exact results_cell_row rfl _ _ (H+1) _ _ _ _ rfl rr Tryz.underlying48 rfl hinf
   ·have HOd:=Lh (zodd_any b a n c (g j) wo hI false (by simp [ho]))
    have HV:=Lh hV;have HZ:=Lh hZ;have HE:=Lh hE;have Hjk:=Lh hjk
    have Hev':=Lh (show ∀ i,i<j+1->g i % 2=0 from fun i hi=>by
     by_cases e:i=j
     ·rw [e];omega
     ·exact Hev.out i (by omega))
    clear hI hV hZ hE hj8 hj hlt ho hjk
    go_wp2_with fail
    refine HOd.out.mono ?_;rintro r w2 ⟨rfl,hx2⟩;have Hend:=Lh (show ZVar Qc w2 H g ((m+1:Nat):Int)/\ZVar Qc w2 (H+1) (fun _=>0) 0/\Ext w w2 from ⟨HV.out.ext hx2,HZ.out.ext hx2,HE.out.trans hx2⟩);clear hx2 HOd HV HZ HE y0 y1
    go_wp2_with fail
    go_roundg (8-(j+1))
    case measure=>have:=Hjk.out;have:=Hj1.out;omega
    case rel=>exact ⟨j+1,rfl,Hj1.out,rfl,Hev'.out,Hend.out⟩
variable {Qc:Nat->Prop}
open Go.RowKit
theorem pow2_len (e:Nat):(((2 ^ e:Nat):Int)).natAbs<10000 ^ (e+1):=by
 rw [Int.natAbs_natCast];have h1:2 ^ e<=10000 ^ e:=Nat.pow_le_pow_left (by decide) e;have h2:10000 ^ e<10000 ^ (e+1):=Nat.pow_lt_pow_right (by decide) (by omega);omega
theorem pow2_mul (s e:Nat):((2 ^ s:Nat):Int)*((2 ^ e:Nat):Int)=((2 ^ (s+e):Nat):Int):=by rw [<-Int.natCast_mul,<-Nat.pow_add]
theorem ZBx.far {wr:World} {Rb Zb:Nat} {b:Bool} {a:Option Addr} {n c:Nat} (hz:ZBx wr Zb b a n c) (hne:Zb≠Rb) (u v:Value):ZBx ((wr.setCell ⟨Rb,0,none⟩ u).setCell ⟨Rb,1,none⟩ v) Zb b a n c:=by
 have hO:Only Rb wr ((wr.setCell ⟨Rb,0,none⟩ u).setCell ⟨Rb,1,none⟩ v):=((Only.refl _ _).setCell _ _).setCell _ _;exact ⟨(hO.block _ hne).trans hz.row⟩
theorem ZRes.far {wr:World} {Rb g:Nat} (hz:ZRes wr g) (hne:g≠Rb) (u v:Value):ZRes ((wr.setCell ⟨Rb,0,none⟩ u).setCell ⟨Rb,1,none⟩ v) g:=by
 have hO:Only Rb wr ((wr.setCell ⟨Rb,0,none⟩ u).setCell ⟨Rb,1,none⟩ v):=((Only.refl _ _).setCell _ _).setCell _ _;exact ⟨(hO.block _ hne).trans hz.row⟩
theorem ZPow2_any (N:Nat) (hN:N<=10000) (w:World) (hL:LimQ Qc w) :
  Calls Tryz.prog 102 #[.int .i64 (N:Int)] w (ZRet Qc w ((2 ^ N:Nat):Int) 10001):=by
 have hE0:=ext_alloc w (.cells #[.bool false,.slice none 0 0] 45);have hR0:=zres_new w;have HLm:=Lh hL;clear hL
 go_enter Tryz.func102,Tryz.ntmps102
 go_wp2_with fail
 generalize w.alloc (.cells #[.bool false,.slice none 0 0] 45)=W0 at *;refine (ZOf_any 1 (by decide) (by decide) W0 (HLm.out.grow hE0.size)).mono ?_;rintro e w1 ⟨b1,a1,n1,c1,rfl,hI1,hn1,hx1⟩;have hE1:=ext_alloc w1 (.cells #[.bool b1,.slice a1 n1 c1] 45);have bO:=zbx_new w1 b1 a1 n1 c1;have Iow:=hI1.ext hE1;have hR1:=hR0.ext (hx1.trans hE1);have hEw:=hE0.trans (hx1.trans hE1);have l1:w.heap.size<w1.heap.size:=(hR0.ext hx1).lt
 go_wp2_with fail
 generalize w1.alloc (.cells #[.bool b1,.slice a1 n1 c1] 45)=W1 at *;generalize w1.heap.size=O at *;refine (ZOf_any 2 (by decide) (by decide) W1 (HLm.out.grow hEw.size)).mono ?_;rintro e w2 ⟨b2,a2,n2,c2,rfl,hI2,hn2,hx2⟩;have hE2:=ext_alloc w2 (.cells #[.bool b2,.slice a2 n2 c2] 45);have bY:=zbx_new w2 b2 a2 n2 c2;have IY:=hI2.ext hE2;have IO2:=Iow.ext (hx2.trans hE2);have bO2:=bO.ext (hx2.trans hE2);have hR2:=hR1.ext (hx2.trans hE2);have hEw2:=hEw.trans (hx2.trans hE2);have l2:O<w2.heap.size:=(bO.ext hx2).lt
 go_wp2_with fail
 generalize w2.alloc (.cells #[.bool b2,.slice a2 n2 c2] 45)=W2 at *;generalize w2.heap.size=Y at *;have Hl:Hid (w.heap.size<O/\O<Y):=⟨l1,l2⟩;clear l1 l2 hE0 hR0 hI1 hn1 hx1 hE1 bO Iow hR1 hEw hI2 hn2 hx2 hE2
 go_loopw [0] (fun nv wr=>∃ (k s e:Nat) (b:Bool) (a:Option Addr) (n c:Nat) (b':Bool) (a':Option Addr) (n' c':Nat),nv=.int .i64 k/\k<=N/\s+e*k=N/\e<=20000/\ZBx wr O b a n c/\IsZ Qc wr b a n c ((2 ^ s:Nat):Int)/\ZBx wr Y b' a' n' c'/\IsZ Qc wr b' a' n' c' ((2 ^ e:Nat):Int)/\ZRes wr w.heap.size/\Ext w wr) (fun nv _=>(intOf nv).toNat)
 case atStart=>exact ⟨N,0,1,b1,a1,n1,c1,b2,a2,n2,c2,rfl,Nat.le_refl _,by omega,by omega,bO2,IO2,bY,IY,hR2,hEw2⟩
 case round =>
  clear bO2 IO2 bY IY hR2 hEw2;obtain ⟨k,s,e,b,a,n,c,b',a',n',c',rfl,hk,hse,he,hO,iO,hY,iY,hR,hE⟩:=hrel;have HO:=Lh hO;have HIO:=Lh iO;have HY:=Lh hY;have HIY:=Lh iY;have HR:=Lh hR;have HE:=Lh hE;have Hse:=Lh hse;have d0:=hO.c0;have d1:=hO.c1;have d2:=hY.c0;have d3:=hY.c1;have hns:=iO.len_of (pow2_len s);have hne:=iY.len_of (pow2_len e)
  by_cases hk0:0<k
  ·have ik:(0:Int)<(k:Int):=by omega
   have hee:e<=N:=by
    have h1:e*1<=e*k:=Nat.mul_le_mul_left _ hk0;omega
   have hsN:s<=N:=by omega
   obtain ⟨h,hh⟩:∃ h,k / 2=h:=⟨_,rfl⟩
   have t1:(k:Int).tdiv 2=(h:Int):=by rw [Int.tdiv_eq_ediv_of_nonneg (by omega)];omega
   by_cases hod:k % 2=1
   ·have t2:(k:Int).tmod 2=1:=by rw [Int.tmod_eq_emod_of_nonneg (by omega)];omega
    have Hnew:Hid ((s+e)+(e+e)*h=N):=by
     show _=_
     have e1:k=2*h+1:=by omega
     rw [<-Hse.out,e1,Nat.mul_add,Nat.mul_one,Nat.add_mul]
     have e2:e*(2*h)=e*h+e*h:=by rw [<-Nat.mul_add];congr 1;omega
     omega
    have hhk:h<k:=by omega
    clear hse hO iO hY iY hR hE hh hod
    go_wp2_with fail
    refine (ZMul_any b b' a a' n c n' c' ((2 ^ s:Nat):Int) ((2 ^ e:Nat):Int) wr HIO.out HIY.out (by omega) (by omega)).mono ?_;rintro er w5 ⟨b5,a5,n5,c5,rfl,hI5,hn5,hx5⟩;have O5:=HO.out.ext hx5;have Y5:=HY.out.ext hx5;have u0:=O5.c0;have u1:=O5.c1;have f0:=O5.f 0;have f1:=O5.f 1;have Y6:=Y5.far (Rb:=O) (by have:=Hl.out;omega) (.bool b5) (.slice a5 n5 c5);have O6:=O5.own b5 a5 n5 c5;have I6:=(hI5.cast (pow2_mul s e)).keepRes O5.row (.bool b5) (.slice a5 n5 c5);have J6:=(HIY.out.ext hx5).keepRes O5.row (.bool b5) (.slice a5 n5 c5);have R6:=(HR.out.ext hx5).far (Rb:=O) (by have:=Hl.out;omega) (.bool b5) (.slice a5 n5 c5);have HE6:=Lh (zput2 (HE.out.trans hx5) (by have:=Hl.out;omega) (g:=O) (.bool b5) (.slice a5 n5 c5));have v0:=Y6.c0;have v1:=Y6.c1
    go_wp2_with fail
    generalize (w5.setCell ⟨O,0,none⟩ (.bool b5)).setCell ⟨O,1,none⟩ (.slice a5 n5 c5)=W6 at *;clear u0 u1 f0 f1;refine (ZMul_any b' b' a' a' n' c' n' c' ((2 ^ e:Nat):Int) ((2 ^ e:Nat):Int) W6 J6 J6 (by omega) (by omega)).mono ?_;rintro er w7 ⟨b7,a7,n7,c7,rfl,hI7,hn7,hx7⟩;have Y7:=Y6.ext hx7;have u0:=Y7.c0;have u1:=Y7.c1;have f0:=Y7.f 0;have f1:=Y7.f 1
    go_wp2_with fail
    go_roundw
    case rel=>exact ⟨h,s+e,e+e,b5,a5,n5,c5,b7,a7,n7,c7,by go_num,by omega,Hnew.out,by omega,(O6.ext hx7).far (by have:=Hl.out;omega) _ _,(I6.ext hx7).keepRes Y7.row _ _,Y7.own _ _ _ _,(hI7.cast (pow2_mul e e)).keepRes Y7.row _ _,(R6.ext hx7).far (by have:=Hl.out;omega) _ _,zput2 (HE6.out.trans hx7) (by have:=Hl.out;omega) _ _⟩
    case measure=>simp [intOf];omega
   ·have t2:(k:Int).tmod 2=0:=by rw [Int.tmod_eq_emod_of_nonneg (by omega)];omega
    have Hnew:Hid (s+(e+e)*h=N):=by
     show _=_
     have e1:k=2*h:=by omega
     rw [<-Hse.out,e1,Nat.add_mul]
     have e2:e*(2*h)=e*h+e*h:=by rw [<-Nat.mul_add];congr 1;omega
     omega
    have hhk:h<k:=by omega
    clear hse hO iO hY iY hR hE hh hod
    go_wp2_with fail
    refine (ZMul_any b' b' a' a' n' c' n' c' ((2 ^ e:Nat):Int) ((2 ^ e:Nat):Int) wr HIY.out HIY.out (by omega) (by omega)).mono ?_;rintro er w7 ⟨b7,a7,n7,c7,rfl,hI7,hn7,hx7⟩;have Y7:=HY.out.ext hx7;have u0:=Y7.c0;have u1:=Y7.c1;have f0:=Y7.f 0;have f1:=Y7.f 1
    go_wp2_with fail
    go_roundw
    case rel=>exact ⟨h,s,e+e,b,a,n,c,b7,a7,n7,c7,by go_num,by omega,Hnew.out,by omega,(HO.out.ext hx7).far (by have:=Hl.out;omega) _ _,(HIO.out.ext hx7).keepRes Y7.row _ _,Y7.own _ _ _ _,(hI7.cast (pow2_mul e e)).keepRes Y7.row _ _,(HR.out.ext hx7).far (by have:=Hl.out;omega) _ _,zput2 (HE.out.trans hx7) (by have:=Hl.out;omega) _ _⟩
    case measure=>simp [intOf];omega
  ·obtain rfl:k=0:=by omega
   have hsN:s=N:=by omega
   have HsN:=Lh hsN;have k0:=hR.c0;have k1:=hR.c1;have f0:=hR.f 0;have f1:=hR.f 1
   have hnn:n<=10001:=by omega
   clear hse hO iO hY iY hR hE hsN
   go_wp2_with fail
   exact bodyPost_ret (v:=.agg #[.bool b,.slice a n c]) (by simp [results,Tryz.results102,go_sem,k0,k1]) rfl ⟨b,a,n,c,rfl,(HIO.out.cast (by rw [HsN.out])).keepRes HR.out.row _ _,hnn,zput2 HE.out (Nat.le_refl _) _ _⟩
variable {Qc:Nat->Prop}
open Go.RowKit
theorem stepK_storeZ {ops:Array Oper} {o:Oper} {a:Act} {K:Act->World->Prop} {Q:Exit->Act->World->Prop} {E:Prop} {w:World} (hgd:o.guard=none) (hd:o.dst=none) (p x:Operand)
  (ho:o.op=.store 45 p x) (b off:Nat) (s:Bool) (l:Option Addr) (n c:Nat) (u0 u1:Value) (hp:a.eval p=.pointer (some ⟨b,off,none⟩)) (hx:a.eval x=.agg #[.bool s,.slice l n c])
  (h0:w.cell? ⟨b,off,none⟩=some u0) (h1:w.cell? ⟨b,off+1,none⟩=some u1) (f0:w.frozen? ⟨b,off,none⟩=false) (f1:w.frozen? ⟨b,off+1,none⟩=false)
  (h:K a ((w.setCell ⟨b,off,none⟩ (.bool s)).setCell ⟨b,off+1,none⟩ (.slice l n c))) :
  if Region.wanted o (yielded ops a.tmps)=true then Oper.wp Tryz.prog o a w K Q else E:=by
 have hw:Region.wanted o (yielded ops a.tmps)=true:=by simp [Region.wanted,hgd]
 rw [if_pos hw];obtain ⟨od,oo,ot,opp,oa,og⟩:=o;simp only at ho hd;subst ho hd;have HH:=Lh h;clear h;unfold Oper.wp execOp;simp only [hp,hx]
 go_simp
 exact HH.out
def mlN (f:Nat->Int) (c:Int) (j:Nat):Nat->Int:=fun i=>if i<j then f i*c else f i
theorem mlN_step (f:Nat->Int) (c:Int) (j i:Nat):updN (mlN f c j) j (f j*c) i=mlN f c (j+1) i:=by
 unfold updN mlN
 by_cases e:i=j
 ·subst e;simp
 ·rw [if_neg e]
  by_cases h:i<j
  ·rw [if_pos h,if_pos (by omega)]
  ·rw [if_neg h,if_neg (by omega)]
theorem ZBx.chz {w w':World} {g k:Nat} {b:Bool} {a:Option Addr} {n c:Nat} (h:ZBx w k b a n c) (ch:ChZ g w w') (hne:k≠g):ZBx w' k b a n c:=⟨ch.row h.row hne⟩
theorem Qto_any (ca:Array Value) (f:Nat->Int) (d D:Nat) (w:World) (h:ZCs Qc w ca f (d:Int)) (P:Nat) (hP:P<=400000) (hA:∀ i,i<8->(f i).natAbs<2 ^ P) (hD:D<=10000) (hL:LimQ Qc w) :
  Calls Tryz.prog 71 #[.agg ca,.int .i64 (D:Int)] w fun r w'=>∃ cr:Array Value,r=.returned (.agg cr)/\ZCs Qc w' cr (fun i=>f i*((2 ^ (D-d):Nat):Int)) ((max D d:Nat):Int)/\Ext w w':=by
 obtain ⟨H,hH⟩:∃ H,w.heap.size=H:=⟨_,rfl⟩;obtain ⟨U,hU⟩:∃ U,(w.alloc (.cells ca 48)).alloc (.cells zeroR 48)=U:=⟨_,rfl⟩
 have E0:Ext w U:=by rw [<-hU];exact (Ext.alloc _ _).trans (Ext.alloc _ _)
 have V0:ZVar Qc U H f (d:Int):=by rw [<-hU,<-hH];exact h.box.ext (Ext.alloc _ _)
 have Z0:ZVar Qc U (H+1) (fun _=>0) 0:=by
  have:=(zcs_zero (Qc:=Qc) (w.alloc (.cells ca 48))).box;rw [<-hU,<-hH]
  simpa using this
 have HU:=Lh hU;have HH:=Lh hH;have HP:=Lh hP;have HA:=Lh hA;have HD:=Lh hD;have HV0:=Lh V0;have HZ0:=Lh Z0;have HE0:=Lh E0;have HLm:=Lh hL;clear hU hH V0 Z0 E0 h hP hA hD hL
 go_enter Tryz.func71,Tryz.ntmps71
 go_upto_region 1 with fail
 rw [HU.out,HH.out];clear HU;have x16:=HV0.out.gete.1
 by_cases hlt:d<D
 ·have q1:(d:Int)<(D:Int):=by omega
  obtain ⟨N,hN⟩:∃ N,D-d=N:=⟨_,rfl⟩
  have wN:IntKind.i64.wrap ((D:Int)-(d:Int))=(N:Int):=by have:=HD.out;rw [IntKind.wrap_i64];omega
  have HPw:=Lh (ZPow2_any (Qc:=Qc) N (by have:=HD.out;omega) U (HLm.out.grow HE0.out.size));have HN:=Lh hN;have Hmx:=Lh (show max D d=D by omega);clear hN hlt
  go_upto_region 2 with fail
  go_wp2_with fail
  refine HPw.out.mono ?_;rintro r w1 ⟨bp,ap,np,cp,rfl,hIp,hnp,hx1⟩;clear x16 q1 wN HPw;have eA:=Ext.alloc w1 (.cells #[.bool bp,.slice ap np cp] 45);have bx:=zbx_new w1 bp ap np cp;have hG:=Nat.lt_of_lt_of_le HZ0.out.lt hx1.size;have hIp2:=hIp.ext eA;have hV1:=(HV0.out.ext hx1).ext eA;have hZ1:=(HZ0.out.ext hx1).ext eA;have hE1:=(HE0.out.trans hx1).trans eA;obtain ⟨U1,hU1⟩:∃ U1,w1.alloc (.cells #[.bool bp,.slice ap np cp] 45)=U1:=⟨_,rfl⟩;obtain ⟨G,hGG⟩:∃ G,w1.heap.size=G:=⟨_,rfl⟩;rw [hU1] at bx hIp2 hV1 hZ1 hE1;rw [hGG] at bx hG;have HU1:=Lh hU1;have HGG:=Lh hGG;have HG:=Lh hG;have Hnp:=Lh hnp;have Hst:=Lh (show ZVar Qc U1 H (mlN f ((2 ^ N:Nat):Int) 0) (d:Int)/\ZVar Qc U1 (H+1) (fun _=>0) 0/\ZBx U1 G bp ap np cp/\IsZ Qc U1 bp ap np cp ((2 ^ N:Nat):Int)/\Ext w U1 from ⟨hV1.congr fun i _=>by simp [mlN],hZ1,bx,hIp2,hE1⟩);clear eA bx hG hIp2 hV1 hZ1 hE1 hU1 hGG hIp hx1 hnp HV0 HZ0 HE0
  go_wp2_with fail
  rw [HU1.out,HGG.out];clear HU1 HGG
  go_loopg [6] 8 (fun kk s6 wr=>∃ j:Nat,s6=.int .i64 (j:Int)/\j<=8/\8-j=kk/\ZVar Qc wr H (mlN f ((2 ^ N:Nat):Int) j) (d:Int)/\ZVar Qc wr (H+1) (fun _=>0) 0/\ZBx wr G bp ap np cp/\IsZ Qc wr bp ap np cp ((2 ^ N:Nat):Int)/\Ext w wr)
  case atStart=>exact ⟨0,rfl,by omega,by omega,Hst.out⟩
  case round =>
   clear Hst;obtain ⟨j,rfl,hj,hjk,hV,hZ,hB,hI,hE⟩:=hrel;obtain ⟨wo,rfl⟩:∃ wo:World,wo=wr:=⟨_,rfl⟩
   by_cases hj8:j=8
   ·subst hj8
    have y16:=hV.gete.1;have g16:=hV.gete.2;obtain ⟨hs,hch⟩:=hV.sete (D:Int);have hZ':=hZ.chz hch hV.no (by omega);have hE':=hch.ext hE (by rw [HH.out];exact Nat.le_refl _);obtain ⟨W,hW⟩:∃ W,wo.setCell ⟨H,16,none⟩ (.int .i64 (D:Int))=W:=⟨_,rfl⟩;rw [hW] at hs hZ' hE';have HW:=Lh hW;clear hW hch hV hZ hB hI hE
    go_upto_region 8 with fail
    rw [HW.out];clear HW y16 g16;obtain ⟨cr,hr,hc⟩:=hs
    have hinf:(Tryz.prog.info? 48).map (·.size)=some cr.size:=by rw [hc.1];exact zR_info
    obtain ⟨c1,hr1,hs1,hone,_,rr,hzz,hE2⟩:=fin_rm hc hZ' hE' (by rw [HH.out];omega)
    have Hend:=Lh (show ZCs Qc (W.setRow (H+1) cr) cr (fun i=>f i*((2 ^ (D-d):Nat):Int)) ((max D d:Nat):Int)/\Ext w (W.setRow (H+1) cr) from by
     rw [Hmx.out,HN.out]
     exact ⟨hzz.congr fun i hi=>by unfold mlN;rw [if_pos hi],hE2⟩)
    clear hc hZ' hE' hzz hE2
    go_wp2_with (first
     | refine wpList_load_row rfl 48 _ rfl (H) rfl 48 _ (0,0) _ hr Tryz.underlying48 rfl hinf ?_
     | refine wpList_store_row rfl 48 _ _ rfl (H+1) cr rfl rfl 48 _ hr1 hinf hs1 hone ?_)
    refine bodyPost_ret (v:=.agg cr) ?_ rfl ⟨_,rfl,Hend.out⟩;exact results_cell_row rfl _ _ (H+1) _ _ _ _ rfl rr Tryz.underlying48 rfl hinf
   have hlt:j<8:=by omega
   have q1:(j:Int)<8:=by omega
   have q0:(0:Int)<=(j:Int):=by omega
   have wk:IntKind.i64.wrap ((j:Int)+1)=((j+1:Nat):Int):=by rw [IntKind.wrap_i64];omega
   have Hj1:=Lh (show j+1<=8 by omega);have Hlt:=Lh hlt;have Hjk:=Lh hjk;obtain ⟨b1,a1,n1,c1,y0,y1,_,_,hI1⟩:=hV.get j hlt;have hI2:=hI1.cast (show mlN f ((2 ^ N:Nat):Int) j j=f j by simp [mlN]);have hn:n1<=P:=hI2.bits (HA.out j hlt);have l0:=hB.c0;have l1:=hB.c1;have lH:=hV.lt;have lG:=hB.lt;have HMu:=Lh (fun wx (hx:Ext wo wx)=>ZMul_any b1 bp a1 ap n1 c1 np cp (f j) ((2 ^ N:Nat):Int) wx (hI2.ext hx) (hI.ext hx) (by have:=HP.out;omega) (by have:=Hnp.out;omega));have HV:=Lh hV;have HZ:=Lh hZ;have HB:=Lh hB;have HI:=Lh hI;have HE:=Lh hE;clear hI1 hI2 hn hV hZ hB hI hE hj8 hj hlt hjk
   go_upto_region 6 with fail
   have hd0:Ext wo wo.drew:=Below.drew (Ext.refl _);refine wp_region_K 9 (fun w'=>(w'.cell? ⟨H,j*2,none⟩=some (.bool b1)/\w'.cell? ⟨H,j*2+1,none⟩=some (.slice a1 n1 c1))/\w'.cell? ⟨G,0,none⟩=some (.bool bp)/\w'.cell? ⟨G,1,none⟩=some (.slice ap np cp)) (by kernel_rfl) ?_
   show anyK _ _ _ _ _ _ 10 #[false,false,false,false,false,false,false,false,false,false] _ _
   have hHeld:(wo.drew.cell? ⟨H,j*2,none⟩=some (.bool b1)/\wo.drew.cell? ⟨H,j*2+1,none⟩=some (.slice a1 n1 c1))/\wo.drew.cell? ⟨G,0,none⟩=some (.bool bp)/\wo.drew.cell? ⟨G,1,none⟩=some (.slice ap np cp):=⟨⟨cellKeep hd0 lH y0,cellKeep hd0 lH y1⟩,cellKeep hd0 lG l0,cellKeep hd0 lG l1⟩;refine kT 0 10 (v:=?_) rfl (Or.inl ⟨by rfl,?_⟩) hHeld ?_;rotate_left 1
   ·intro w hSw
    go_simp
    try with_reducible rfl
   show anyK _ _ _ _ _ _ _ _ (Act.put _ (some 20) _) _
   simp only [Act.put,sx0,sx1,sx2];refine kT 1 10 (v:=?_) rfl (Or.inl ⟨by rfl,?_⟩) hHeld ?_;rotate_left 1
   ·intro w hSw
    go_simp
    try with_reducible rfl
   show anyK _ _ _ _ _ _ _ _ (Act.put _ (some 21) _) _
   simp only [Act.put,sx0,sx1,sx2];refine kT 2 10 (v:=?_) rfl (Or.inl ⟨by rfl,?_⟩) hHeld ?_;rotate_left 1
   ·intro w hSw
    go_simp
    try with_reducible rfl
   show anyK _ _ _ _ _ _ _ _ (Act.put _ (some 22) _) _
   simp only [Act.put,sx0,sx1,sx2];refine kT 3 10 (v:=?_) rfl (Or.inl ⟨by rfl,?_⟩) hHeld ?_;rotate_left 1
   ·intro w hSw
    go_simp
    try with_reducible rfl
   show anyK _ _ _ _ _ _ _ _ (Act.put _ (some 23) _) _
   simp only [Act.put,sx0,sx1,sx2];refine kT 4 10 (v:=?_) rfl (Or.inl ⟨by rfl,?_⟩) hHeld ?_;rotate_left 1
   ·intro w hSw
    go_simp
    try with_reducible rfl
   show anyK _ _ _ _ _ _ _ _ (Act.put _ (some 24) _) _
   simp only [Act.put,sx0,sx1,sx2];refine kT 5 10 (v:=?_) rfl (Or.inl ⟨by rfl,?_⟩) hHeld ?_;rotate_left 1
   ·intro w hSw
    go_simp
    try with_reducible rfl
   show anyK _ _ _ _ _ _ _ _ (Act.put _ (some 25) _) _
   simp only [Act.put,sx0,sx1,sx2];refine kT 7 10 (v:=?_) rfl (Or.inl ⟨by rfl,?_⟩) hHeld ?_;rotate_left 1
   ·intro w hSw
    go_simp
    try with_reducible rfl
   show anyK _ _ _ _ _ _ _ _ (Act.put _ (some 27) _) _
   simp only [Act.put,sx0,sx1,sx2];clear hHeld;refine anyK_one (i:=6) (by kernel_rfl) rfl (fun Kk hKk=>?_)
   go_simp
   (go_at_call 103;refine (HMu.out wo.drew hd0).mono ?_;rintro e w3 ⟨b3,a3,n3,c3,rfl,hI3,_,hx3⟩)
   have he3:=hd0.trans hx3
   go_wp2_with fail
   refine hKk.out _ _ (fun _=>⟨⟨cellKeep he3 lH y0,cellKeep he3 lH y1⟩,cellKeep he3 lG l0,cellKeep he3 lG l1⟩) ?_;clear hKk Kk;simp only [sx0,sx1,sx2];have hHeld:(w3.cell? ⟨H,j*2,none⟩=some (.bool b1)/\w3.cell? ⟨H,j*2+1,none⟩=some (.slice a1 n1 c1))/\w3.cell? ⟨G,0,none⟩=some (.bool bp)/\w3.cell? ⟨G,1,none⟩=some (.slice ap np cp):=⟨⟨cellKeep he3 lH y0,cellKeep he3 lH y1⟩,cellKeep he3 lG l0,cellKeep he3 lG l1⟩;refine kT 8 10 (v:=?_) rfl (Or.inl ⟨by rfl,?_⟩) hHeld ?_;rotate_left 1
   ·intro w hSw
    go_simp
    try with_reducible rfl
   show anyK _ _ _ _ _ _ _ _ (Act.put _ (some 28) _) _
   simp only [Act.put,sx0,sx1,sx2];clear hHeld;have hV2:=HV.out.ext he3;obtain ⟨_,_,_,_,z0,z1,fz0,fz1,_⟩:=hV2.get j Hlt.out;obtain ⟨hs,hch⟩:=hV2.set j Hlt.out hI3;refine anyK_one (i:=9) (by kernel_rfl) rfl (fun Kk hKk=>?_);refine stepK_storeZ rfl rfl _ _ rfl H (j*2) b3 a3 n3 c3 _ _ rfl rfl z0 z1 fz0 fz1 ?_;refine hKk.out _ _ (fun h=>Bool.noConfusion (show true=false from h)) ?_;clear hKk Kk;simp only [sx0,sx1,sx2];refine anyK_done (by kernel_rfl) ?_ _
   have Hend:=Lh (show ZVar Qc ((w3.setCell ⟨H,j*2,none⟩ (.bool b3)).setCell ⟨H,j*2+1,none⟩ (.slice a3 n3 c3)) H (mlN f ((2 ^ N:Nat):Int) (j+1)) (d:Int)/\ZVar Qc ((w3.setCell ⟨H,j*2,none⟩ (.bool b3)).setCell ⟨H,j*2+1,none⟩ (.slice a3 n3 c3)) (H+1) (fun _=>0) 0/\ZBx ((w3.setCell ⟨H,j*2,none⟩ (.bool b3)).setCell ⟨H,j*2+1,none⟩ (.slice a3 n3 c3)) G bp ap np cp/\IsZ Qc ((w3.setCell ⟨H,j*2,none⟩ (.bool b3)).setCell ⟨H,j*2+1,none⟩ (.slice a3 n3 c3)) bp ap np cp ((2 ^ N:Nat):Int)/\Ext w ((w3.setCell ⟨H,j*2,none⟩ (.bool b3)).setCell ⟨H,j*2+1,none⟩ (.slice a3 n3 c3)) from
    ⟨hs.congr fun i _=>mlN_step f _ j i,(HZ.out.ext he3).chz hch hV2.no (by omega),(HB.out.ext he3).chz hch (by have:=HG.out;omega),(HI.out.ext he3).chz hch hV2.no,hch.ext (HE.out.trans he3) (by rw [HH.out];exact Nat.le_refl _)⟩)
   clear hs hch hV2 hI3 hx3 he3 hd0 HMu HV HZ HB HI HE y0 y1 l0 l1 lH lG z0 z1 fz0 fz1;generalize ((w3.setCell ⟨H,j*2,none⟩ (.bool b3)).setCell ⟨H,j*2+1,none⟩ (.slice a3 n3 c3))=V at *
   go_wp2_with fail
   go_roundg (8-(j+1))
   case measure=>have:=Hjk.out;have:=Hj1.out;omega
   case rel=>exact ⟨j+1,rfl,Hj1.out,rfl,Hend.out⟩
 ·have q1:¬ (d:Int)<(D:Int):=by omega
  have Hmx:=Lh (show max D d=d by omega);have HN:=Lh (show D-d=0 by omega);clear hlt;obtain ⟨cr,hr,hc⟩:=HV0.out
  have hinf:(Tryz.prog.info? 48).map (·.size)=some cr.size:=by rw [hc.1];exact zR_info
  obtain ⟨c1,hr1,hs1,hone,_,rr,hzz,hE2⟩:=fin_rm hc HZ0.out HE0.out (by rw [HH.out];omega)
  have Hend:=Lh (show ZCs Qc (U.setRow (H+1) cr) cr (fun i=>f i*((2 ^ (D-d):Nat):Int)) ((max D d:Nat):Int)/\Ext w (U.setRow (H+1) cr) from by
   rw [Hmx.out,HN.out]
   exact ⟨hzz.congr fun i hi=>by simp,hE2⟩)
  clear hc hzz hE2 HV0 HZ0 HE0
  go_wp2_with (first
   | refine wpList_load_row rfl 48 _ rfl (H) rfl 48 _ (0,0) _ hr Tryz.underlying48 rfl hinf ?_
   | refine wpList_store_row rfl 48 _ _ rfl (H+1) cr rfl rfl 48 _ hr1 hinf hs1 hone ?_)
  refine bodyPost_ret (v:=.agg cr) ?_ rfl ⟨_,rfl,Hend.out⟩;exact results_cell_row rfl _ _ (H+1) _ _ _ _ rfl rr Tryz.underlying48 rfl hinf
variable {Qc:Nat->Prop}
open Go.RowKit
def adQ (f g:Nat->Int) (j:Nat):Nat->Int:=fun i=>if i<j then f i+g i else f i
theorem adN_step (f g:Nat->Int) (j i:Nat):updN (adQ f g j) j (f j+g j) i=adQ f g (j+1) i:=by
 unfold updN adQ
 by_cases e:i=j
 ·subst e;simp
 ·rw [if_neg e]
  by_cases h:i<j
  ·rw [if_pos h,if_pos (by omega)]
  ·rw [if_neg h,if_neg (by omega)]
theorem zero_of_zeroN {x:Nm} (hx:Anti x.a) (h:zeroN fun i:Nat=>x.a i):∀ k,x.a k=0:=fun k=>by
 have h1:ext8 (fun i:Nat=>x.a i)=ext8 fun _=>0:=ext8_congr fun i hi=>h i hi
 have h2:=congrFun (ext8_of hx) k;rw [<-h2,h1,ext8_zero]
theorem eqN_zero_add {x y:Nm} (h:∀ k,x.a k=0):EqN y (nAdd x y):=fun k=>by
 have:=h k;simp only [nAdd,this,Int.pow_add];grind
theorem eqN_add_zero {x y:Nm} (h:∀ k,y.a k=0):EqN x (nAdd x y):=fun k=>by
 have:=h k;simp only [nAdd,this,Int.pow_add];grind
theorem ext8_lin (f g:Nat->Int) (c c':Int) (k:Int):ext8 (fun i=>f i*c+g i*c') k=ext8 f k*c+ext8 g k*c':=by
 unfold ext8
 split
 ·rfl
 ·simp only [Int.neg_add,Int.neg_mul]
theorem eqN_sum {x y:Nm} (hx:Anti x.a) (hy:Anti y.a) {M p q:Nat} (h1:p+x.e=M) (h2:q+y.e=M) :
  EqN ⟨ext8 (fun i:Nat=>x.a i*((2 ^ p:Nat):Int)+y.a i*((2 ^ q:Nat):Int)),M⟩ (nAdd x y):=fun k=>by
 show ext8 (fun i:Nat=>x.a i*((2 ^ p:Nat):Int)+y.a i*((2 ^ q:Nat):Int)) k*2 ^ (x.e+y.e)=(x.a k*2 ^ y.e+y.a k*2 ^ x.e)*2 ^ M
 rw [ext8_lin (fun i:Nat=>x.a i) (fun i:Nat=>y.a i),congrFun (ext8_of hx) k,congrFun (ext8_of hy) k]
 have e1:(2:Int) ^ M=((2 ^ p:Nat):Int)*2 ^ x.e:=by rw [<-h1,Int.pow_add];simp
 have e2:(2:Int) ^ M=((2 ^ q:Nat):Int)*2 ^ y.e:=by rw [<-h2,Int.pow_add];simp
 rw [Int.pow_add]
 grind
theorem abs_pow {z:Int} {P p:Nat} (h:z.natAbs<2 ^ P):(z*((2 ^ p:Nat):Int)).natAbs<2 ^ (P+p):=by
 rw [Int.natAbs_mul,Int.natAbs_natCast,Nat.pow_add];exact Nat.mul_lt_mul_of_pos_right h (Nat.pow_pos (by decide))
theorem abs_le_pow {z:Int} {P p Q:Nat} (h:z.natAbs<2 ^ P) (hQ:P+p<=Q):(z*((2 ^ p:Nat):Int)).natAbs<2 ^ Q :=
 Nat.lt_of_lt_of_le (abs_pow h) (Nat.pow_le_pow_right (by decide) hQ)
theorem abs_sum {a b:Int} {Q:Nat} (ha:a.natAbs<2 ^ Q) (hb:b.natAbs<2 ^ Q):(a+b).natAbs<2 ^ (Q+1):=by
 rw [Nat.pow_succ];omega
theorem QAdd_w (ca cb:Array Value) (x y:Nm) (P E:Nat) (w:World) (h:RmW Qc w ca x P E) (g:RmW Qc w cb y P E) (hP:P+E+1<=400000) (hE:E<=10000) (hL:LimQ Qc w) :
  Calls Tryz.prog 38 #[.agg ca,.agg cb] w fun r w'=>∃ (cr:Array Value) (z:Nm),r=.returned (.agg cr)/\RmW Qc w' cr z (P+E+1) E/\(Low x->Low y->Low z)/\EqN z (nAdd x y)/\Ext w w':=by
 obtain ⟨X,hX⟩:∃ X:Nat->Int,(fun i:Nat=>x.a i)=X:=⟨_,rfl⟩;obtain ⟨Y,hY⟩:∃ Y:Nat->Int,(fun i:Nat=>y.a i)=Y:=⟨_,rfl⟩;have HLm:=Lh hL;clear hL;have hv:=h.val;have gv:=g.val;rw [hX] at hv;rw [hY] at gv
 have hXa:∀ i,i<8->(X i).natAbs<2 ^ P:=fun i _=>by rw [<-hX];exact h.abs i
 have hYa:∀ i,i<8->(Y i).natAbs<2 ^ P:=fun i _=>by rw [<-hY];exact g.abs i
 obtain ⟨H,hH⟩:∃ H,w.heap.size=H:=⟨_,rfl⟩;obtain ⟨U,hU⟩:∃ U,((w.alloc (.cells ca 48)).alloc (.cells cb 48)).alloc (.cells zeroR 48)=U:=⟨_,rfl⟩
 have E0:Ext w U:=by rw [<-hU];exact ((Ext.alloc _ _).trans (Ext.alloc _ _)).trans (Ext.alloc _ _)
 have A0:ZVar Qc U H X (x.e:Int):=by rw [<-hU,<-hH];exact (hv.box.ext (Ext.alloc _ _)).ext (Ext.alloc _ _)
 have B0:ZVar Qc U (H+1) Y (y.e:Int):=by
  have:=((gv.ext (Ext.alloc w (.cells ca 48))).box).ext (Ext.alloc _ (.cells zeroR 48));rw [<-hU,<-hH]
  simpa using this
 have Z0:ZVar Qc U (H+2) (fun _=>0) 0:=by
  have:=(zcs_zero (Qc:=Qc) ((w.alloc (.cells ca 48)).alloc (.cells cb 48))).box;rw [<-hU,<-hH]
  simpa using this
 have HU:=Lh hU;have HH:=Lh hH;have HP:=Lh hP;have HEE:=Lh hE;have HXa:=Lh hXa;have HYa:=Lh hYa;have Hh:=Lh h;have Hg:=Lh g;have HX:=Lh hX;have HY:=Lh hY;have HA:=Lh A0;have HB:=Lh B0;have HZ:=Lh Z0;have HE:=Lh E0;clear hU hH A0 B0 Z0 E0 h g hP hE hXa hYa hX hY hv gv
 go_enter Tryz.func38,Tryz.ntmps38
 go_upto_region 1 with fail
 rw [HU.out,HH.out];clear HU;obtain ⟨cA,rA,zA⟩:=HA.out
 have iA:(Tryz.prog.info? 48).map (·.size)=some cA.size:=by rw [zA.1];exact zR_info
 by_cases hx0:zeroN X
 ·have HQ:=Lh (QZero_any cA X _ U zA true (by simp [hx0]))
  have Hx0:=Lh hx0;clear zA hx0
  go_wp2_with (refine wpList_load_row rfl 48 _ rfl (H) rfl 48 _ (0,0) _ rA Tryz.underlying48 rfl iA ?_)
  refine HQ.out.mono ?_;rintro r w2 ⟨rfl,hx2⟩;obtain ⟨cr,hr,hc⟩:=HB.out.ext hx2
  have hinf:(Tryz.prog.info? 48).map (·.size)=some cr.size:=by rw [hc.1];exact zR_info
  obtain ⟨c1,hr1,hs1,hone,_,rr,hzz,hE'⟩:=fin_rm hc (HZ.out.ext hx2) (HE.out.trans hx2) (by rw [HH.out];omega)
  have Hend:=Lh (show RmW Qc (w2.setRow (H+2) cr) cr y (P+E+1) E/\(Low x->Low y->Low y)/\EqN y (nAdd x y)/\Ext w (w2.setRow (H+2) cr) from by
   have hg:=Hg.out;have hy:=HY.out;subst hy
   exact ⟨RmW.le ⟨hg.anti,hg.abs,hg.down,hzz⟩ (by omega) (Nat.le_refl _),fun _ h=>h,eqN_zero_add (zero_of_zeroN Hh.out.anti (by rw [HX.out];exact Hx0.out)),hE'⟩)
  clear hc hzz hE' hx2 HQ HA HB HZ HE rA iA
  go_wp2_with (first
   | refine wpList_load_row rfl 48 _ rfl (H+1) rfl 48 _ (0,0) _ hr Tryz.underlying48 rfl hinf ?_
   | refine wpList_store_row rfl 48 _ _ rfl (H+2) cr rfl rfl 48 _ hr1 hinf hs1 hone ?_)
  refine bodyPost_ret (v:=.agg cr) ?_ rfl ⟨_,_,rfl,Hend.out⟩;exact results_cell_row rfl _ _ (H+2) _ _ _ _ rfl rr Tryz.underlying48 rfl hinf
 have HQ:=Lh (QZero_any cA X _ U zA false (by simp [hx0]));clear zA hx0
 go_upto_region 1 with fail
 go_wp2_with (refine wpList_load_row rfl 48 _ rfl (H) rfl 48 _ (0,0) _ rA Tryz.underlying48 rfl iA ?_)
 refine HQ.out.mono ?_;rintro r w2 ⟨rfl,hx2⟩;have HA2:=Lh (HA.out.ext hx2);have HB2:=Lh (HB.out.ext hx2);have HZ2:=Lh (HZ.out.ext hx2);have HE2:=Lh (HE.out.trans hx2);clear HA HB HZ HE hx2 rA iA HQ;obtain ⟨cB,rB,zB⟩:=HB2.out
 have iB:(Tryz.prog.info? 48).map (·.size)=some cB.size:=by rw [zB.1];exact zR_info
 by_cases hy0:zeroN Y
 ·have HQ:=Lh (QZero_any cB Y _ w2 zB true (by simp [hy0]))
  have Hy0:=Lh hy0;clear zB hy0
  go_wp2_with (refine wpList_load_row rfl 48 _ rfl (H+1) rfl 48 _ (0,0) _ rB Tryz.underlying48 rfl iB ?_)
  refine HQ.out.mono ?_;rintro r w3 ⟨rfl,hx3⟩;obtain ⟨cr,hr,hc⟩:=HA2.out.ext hx3
  have hinf:(Tryz.prog.info? 48).map (·.size)=some cr.size:=by rw [hc.1];exact zR_info
  obtain ⟨c1,hr1,hs1,hone,_,rr,hzz,hE'⟩:=fin_rm hc (HZ2.out.ext hx3) (HE2.out.trans hx3) (by rw [HH.out];omega)
  have Hend:=Lh (show RmW Qc (w3.setRow (H+2) cr) cr x (P+E+1) E/\(Low x->Low y->Low x)/\EqN x (nAdd x y)/\Ext w (w3.setRow (H+2) cr) from by
   have hg:=Hh.out;have hy:=HX.out;subst hy
   exact ⟨RmW.le ⟨hg.anti,hg.abs,hg.down,hzz⟩ (by omega) (Nat.le_refl _),fun h _=>h,eqN_add_zero (zero_of_zeroN Hg.out.anti (by rw [HY.out];exact Hy0.out)),hE'⟩)
  clear hc hzz hE' hx3 HQ HA2 HB2 HZ2 HE2 rB iB
  go_wp2_with (first
   | refine wpList_load_row rfl 48 _ rfl (H) rfl 48 _ (0,0) _ hr Tryz.underlying48 rfl hinf ?_
   | refine wpList_store_row rfl 48 _ _ rfl (H+2) cr rfl rfl 48 _ hr1 hinf hs1 hone ?_)
  refine bodyPost_ret (v:=.agg cr) ?_ rfl ⟨_,_,rfl,Hend.out⟩;exact results_cell_row rfl _ _ (H+2) _ _ _ _ rfl rr Tryz.underlying48 rfl hinf
 have HQ:=Lh (QZero_any cB Y _ w2 zB false (by simp [hy0]));clear zB hy0
 go_wp2_with (refine wpList_load_row rfl 48 _ rfl (H+1) rfl 48 _ (0,0) _ rB Tryz.underlying48 rfl iB ?_)
 refine HQ.out.mono ?_;rintro r w3 ⟨rfl,hx3⟩;have HA3:=Lh (HA2.out.ext hx3);have HB3:=Lh (HB2.out.ext hx3);have HZ3:=Lh (HZ2.out.ext hx3);have HE3:=Lh (HE2.out.trans hx3);clear HA2 HB2 HZ2 HE2 hx3 rB iB HQ;obtain ⟨cA,rA,zA⟩:=HA3.out
 have iA:(Tryz.prog.info? 48).map (·.size)=some cA.size:=by rw [zA.1];exact zR_info
 have e16:=HB3.out.gete.1;have hd1:=Hh.out.down;have hd2:=Hg.out.down;have hd3:=HEE.out;have hd4:=HP.out;obtain ⟨M,hM⟩:∃ M,max y.e x.e=M:=⟨_,rfl⟩;obtain ⟨p,hp⟩:∃ p,y.e-x.e=p:=⟨_,rfl⟩;obtain ⟨q,hq⟩:∃ q,M-y.e=q:=⟨_,rfl⟩;have HM:=Lh (show p+x.e=M/\q+y.e=M/\M<=E/\max M y.e=M by omega);have HQ:=Lh (Qto_any cA X x.e y.e w3 zA P (by omega) HXa.out (by omega) (HLm.out.grow HE3.out.size));rw [hM,hp] at HQ;have Hq:=Lh hq;clear zA hd1 hd2 hd3 hd4 hM hp hq
 go_wp2_with (refine wpList_load_row rfl 48 _ rfl (H) rfl 48 _ (0,0) _ rA Tryz.underlying48 rfl iA ?_)
 refine HQ.out.mono ?_;rintro r w4 ⟨cr,rfl,hcr,hx4⟩;have hA4:=HA3.out.ext hx4;obtain ⟨n1,ch,_,_⟩:=hcr.setRow hA4;have hB4:=(HB3.out.ext hx4).chz ch hA4.no (by omega);have hZ4:=(HZ3.out.ext hx4).chz ch hA4.no (by omega);have hE4:=ch.ext (HE3.out.trans hx4) (by rw [HH.out];exact Nat.le_refl _);obtain ⟨cO,rO,zO⟩:=hA4
 have iR:(Tryz.prog.info? 48).map (·.size)=some cr.size:=by rw [hcr.1];exact zR_info
 have sO:cO.size=cr.size:=by rw [zO.1,hcr.1]
 have oR:=hcr.one;obtain ⟨cB,rB,zB⟩:=hB4
 have iB:(Tryz.prog.info? 48).map (·.size)=some cB.size:=by rw [zB.1];exact zR_info
 have e16':=n1.gete.1;have HQ2:=Lh (Qto_any cB Y y.e M (w4.setRow H cr) zB P (by have:=HP.out;omega) HYa.out (by have:=HM.out;have:=HEE.out;omega) (HLm.out.grow hE4.size));rw [Hq.out,HM.out.2.2.2] at HQ2;have HA4:=Lh n1;have HB4:Hid (ZVar Qc (w4.setRow H cr) (H+1) Y (y.e:Int)):=Lh ⟨cB,rB,zB⟩;have HZ4:=Lh hZ4;have HE4:=Lh hE4;clear HQ HA3 HB3 HZ3 HE3 hx4 n1 ch hZ4 hE4 zO hcr zB rA iA e16
 go_wp2_with (first
  | refine wpList_store_row rfl 48 _ _ rfl (H) cr rfl rfl 48 _ rO iR sO oR ?_
  | refine wpList_load_row rfl 48 _ rfl (H+1) rfl 48 _ (0,0) _ rB Tryz.underlying48 rfl iB ?_)
 refine HQ2.out.mono ?_;rintro r w5 ⟨cq,rfl,hcq,hx5⟩;clear rO iR sO oR e16';have hB5:=HB4.out.ext hx5;obtain ⟨n1,ch,_,_⟩:=hcq.setRow hB5;have hA5:=(HA4.out.ext hx5).chz ch hB5.no (by omega);have hZ5:=(HZ4.out.ext hx5).chz ch hB5.no (by omega);have hE5:=ch.ext (HE4.out.trans hx5) (by rw [HH.out];omega);obtain ⟨cO,rO,zO⟩:=hB5
 have iR:(Tryz.prog.info? 48).map (·.size)=some cq.size:=by rw [hcq.1];exact zR_info
 have sO:cO.size=cq.size:=by rw [zO.1,hcq.1]
 have oR:=hcq.one;obtain ⟨fa,hfa⟩:∃ fa:Nat->Int,(fun i=>X i*((2 ^ p:Nat):Int))=fa:=⟨_,rfl⟩;obtain ⟨fb,hfb⟩:∃ fb:Nat->Int,(fun i=>Y i*((2 ^ q:Nat):Int))=fb:=⟨_,rfl⟩;rw [hfa] at hA5;rw [hfb] at n1
 have hfaA:∀ i,i<8->(fa i).natAbs<2 ^ (P+E):=fun i hi=>by rw [<-hfa];exact abs_le_pow (HXa.out i hi) (by have:=HM.out;omega)
 have hfbA:∀ i,i<8->(fb i).natAbs<2 ^ (P+E):=fun i hi=>by rw [<-hfb];exact abs_le_pow (HYa.out i hi) (by have:=HM.out;omega)
 have Hsum:=Lh (show EqN ⟨ext8 (adQ fa fb 8),M⟩ (nAdd x y) from by
  have e:ext8 (adQ fa fb 8)=ext8 (fun i:Nat=>x.a i*((2 ^ p:Nat):Int)+y.a i*((2 ^ q:Nat):Int)):=ext8_congr fun i hi=>by
   unfold adQ;rw [if_pos hi,<-hfa,<-hfb,<-HX.out,<-HY.out]
  rw [e]
  exact eqN_sum Hh.out.anti Hg.out.anti HM.out.1 HM.out.2.1)
 have HfaA:=Lh hfaA;have HfbA:=Lh hfbA;have Hst:=Lh (show ZVar Qc (w5.setRow (H+1) cq) H (adQ fa fb 0) (M:Int)/\ZVar Qc (w5.setRow (H+1) cq) (H+1) fb (M:Int)/\ZVar Qc (w5.setRow (H+1) cq) (H+2) (fun _=>0) 0/\Ext w (w5.setRow (H+1) cq) from ⟨hA5.congr fun i _=>by simp [adQ],n1,hZ5,hE5⟩);clear HQ2 HA4 HB4 HZ4 HE4 hx5 n1 ch hZ5 hE5 hA5 zO hcq rB iB hfa hfb hfaA hfbA
 go_wp2_with (refine wpList_store_row rfl 48 _ _ rfl (H+1) cq rfl rfl 48 _ rO iR sO oR ?_)
 clear rO iR sO oR;generalize w5.setRow (H+1) cq=V at *
 go_loopg [5] 8 (fun kk s5 wr=>∃ j:Nat,s5=.int .i64 (j:Int)/\j<=8/\8-j=kk/\ZVar Qc wr H (adQ fa fb j) (M:Int)/\ZVar Qc wr (H+1) fb (M:Int)/\ZVar Qc wr (H+2) (fun _=>0) 0/\Ext w wr)
 case atStart=>exact ⟨0,rfl,by omega,by omega,Hst.out⟩
 case round =>
  clear Hst;obtain ⟨j,rfl,hj,hjk,hV,hB,hZ,hE⟩:=hrel;obtain ⟨wo,rfl⟩:∃ wo:World,wo=wr:=⟨_,rfl⟩
  by_cases hj8:j=8
  ·subst hj8
   have HV:=Lh hV;have HZ:=Lh hZ;have HE:=Lh hE;obtain ⟨cA,rA,zA⟩:=hV
   have iA:(Tryz.prog.info? 48).map (·.size)=some cA.size:=by rw [zA.1];exact zR_info
   have HAb:=Lh (show ∀ i,i<8->(adQ fa fb 8 i).natAbs<2 ^ (P+E+1) from fun i hi=>by unfold adQ;rw [if_pos hi];exact abs_sum (HfaA.out i hi) (HfbA.out i hi))
   by_cases hz:zeroN (adQ fa fb 8)
   ·have HQ:=Lh (QZero_any cA _ _ wo zA true (by simp [hz]))
    have Hz:=Lh hz;clear zA hz hB hZ hE hj hjk
    go_wp2_with (refine wpList_load_row rfl 48 _ rfl (H) rfl 48 _ (0,0) _ rA Tryz.underlying48 rfl iA ?_)
    refine HQ.out.mono ?_;rintro r w2 ⟨rfl,hx2⟩;obtain ⟨c1,hr1,hs1,hone,hinf,rr,hzz,hE'⟩:=fin_rm (zcs_zero (Qc:=Qc) w2) (HZ.out.ext hx2) (HE.out.trans hx2) (by rw [HH.out];omega)
    have Hend:=Lh (show RmW Qc (w2.setRow (H+2) zeroR) zeroR ⟨ext8 (fun _=>0),0⟩ (P+E+1) E/\(Low x->Low y->Low ⟨ext8 (fun _=>0),0⟩)/\EqN ⟨ext8 (fun _=>0),0⟩ (nAdd x y)/\Ext w (w2.setRow (H+2) zeroR) from
     ⟨⟨anti_ext8 (fun _=>0),fun k=>by rw [ext8_zero];exact Nat.pow_pos (by decide),Nat.zero_le _,hzz.congr fun i _=>by show (0:Int)=ext8 (fun _=>0) (i:Int);rw [ext8_zero]⟩,fun _ _=>Or.inl rfl,(same_zero (f:=adQ fa fb 8) (EqN.refl _) Hz.out).trans Hsum.out,hE'⟩)
    clear hzz hE' hx2 HQ HZ HE HV rA iA
    go_wp2_with (refine wpList_store_row rfl 48 _ _ rfl (H+2) zeroR rfl rfl 48 _ hr1 hinf hs1 hone ?_)
    refine bodyPost_ret (v:=.agg zeroR) ?_ rfl ⟨_,_,rfl,Hend.out⟩;exact results_cell_row rfl _ _ (H+2) _ _ _ _ rfl rr Tryz.underlying48 rfl hinf
   have HQ:=Lh (QZero_any cA _ _ wo zA false (by simp [hz]));clear zA hz hB hZ hE hj hjk
   go_wp2_with (refine wpList_load_row rfl 48 _ rfl (H) rfl 48 _ (0,0) _ rA Tryz.underlying48 rfl iA ?_)
   refine HQ.out.mono ?_;rintro r w2 ⟨rfl,hx2⟩;clear rA iA;have hV2:=HV.out.ext hx2;obtain ⟨cA,rA,zA⟩:=hV2
   have iA:(Tryz.prog.info? 48).map (·.size)=some cA.size:=by rw [zA.1];exact zR_info
   have HZ2:=Lh (HZ.out.ext hx2);have HE2:=Lh (HE.out.trans hx2);have HQ2:=Lh (Qleast_any cA _ M w2 zA (P+E+1) E HP.out HAb.out (by have:=HM.out;omega) (by have:=HEE.out;omega));clear zA hx2 HZ HE HV HQ
   go_wp2_with (refine wpList_load_row rfl 48 _ rfl (H) rfl 48 _ (0,0) _ rA Tryz.underlying48 rfl iA ?_)
   refine HQ2.out.mono ?_;rintro r w3 ⟨cr,yy,rfl,hcr,hq3,hx3⟩;obtain ⟨c1,hr1,hs1,hone,hinf,rr,hzz,hE'⟩:=fin_rm hcr.val (HZ2.out.ext hx3) (HE2.out.trans hx3) (by rw [HH.out];omega)
   have Hend:=Lh (show RmW Qc (w3.setRow (H+2) cr) cr yy (P+E+1) E/\(Low x->Low y->Low yy)/\EqN yy (nAdd x y)/\Ext w (w3.setRow (H+2) cr) from
    ⟨⟨hcr.anti,hcr.abs,hcr.down,hzz⟩,fun _ _=>hcr.low,hq3.trans Hsum.out,hE'⟩)
   clear hcr hq3 hzz hE' hx3 HQ2 HZ2 HE2 rA iA
   go_wp2_with (refine wpList_store_row rfl 48 _ _ rfl (H+2) cr rfl rfl 48 _ hr1 hinf hs1 hone ?_)
   refine bodyPost_ret (v:=.agg cr) ?_ rfl ⟨_,_,rfl,Hend.out⟩;exact results_cell_row rfl _ _ (H+2) _ _ _ _ rfl rr Tryz.underlying48 rfl hinf
  have hlt:j<8:=by omega
  have q1:(j:Int)<8:=by omega
  have q0:(0:Int)<=(j:Int):=by omega
  have wk:IntKind.i64.wrap ((j:Int)+1)=((j+1:Nat):Int):=by rw [IntKind.wrap_i64];omega
  have Hj1:=Lh (show j+1<=8 by omega);have Hlt:=Lh hlt;have Hjk:=Lh hjk;obtain ⟨b1,a1,n1,c1,y0,y1,_,_,hI1⟩:=hV.get j hlt;obtain ⟨b2,a2,n2,c2,l0,l1,_,_,hI2⟩:=hB.get j hlt;have hI1':=hI1.cast (show adQ fa fb j j=fa j by simp [adQ]);have hn1:n1<=P+E:=hI1'.bits (HfaA.out j hlt);have hn2:n2<=P+E:=hI2.bits (HfbA.out j hlt);have lH:=hV.lt;have lG:=hB.lt;have HAd:=Lh (fun wx (hx:Ext wo wx)=>ZAdd_any b1 b2 a1 a2 n1 c1 n2 c2 (fa j) (fb j) wx (hI1'.ext hx) (hI2.ext hx) (by have:=HP.out;omega) (by have:=HP.out;omega));have HV:=Lh hV;have HZ:=Lh hZ;have HB:=Lh hB;have HE:=Lh hE;clear hI1 hI1' hI2 hn1 hn2 hV hZ hB hE hj8 hj hlt hjk
  go_upto_region 10 with fail
  have hd0:Ext wo wo.drew:=Below.drew (Ext.refl _);refine wp_region_K 12 (fun w'=>(w'.cell? ⟨H,j*2,none⟩=some (.bool b1)/\w'.cell? ⟨H,j*2+1,none⟩=some (.slice a1 n1 c1))/\w'.cell? ⟨H+1,j*2,none⟩=some (.bool b2)/\w'.cell? ⟨H+1,j*2+1,none⟩=some (.slice a2 n2 c2)) (by kernel_rfl) ?_
  show anyK _ _ _ _ _ _ 13 #[false,false,false,false,false,false,false,false,false,false,false,false,false] _ _
  have hHeld:(wo.drew.cell? ⟨H,j*2,none⟩=some (.bool b1)/\wo.drew.cell? ⟨H,j*2+1,none⟩=some (.slice a1 n1 c1))/\wo.drew.cell? ⟨H+1,j*2,none⟩=some (.bool b2)/\wo.drew.cell? ⟨H+1,j*2+1,none⟩=some (.slice a2 n2 c2):=⟨⟨cellKeep hd0 lH y0,cellKeep hd0 lH y1⟩,cellKeep hd0 lG l0,cellKeep hd0 lG l1⟩;refine kT 0 13 (v:=?_) rfl (Or.inl ⟨by rfl,?_⟩) hHeld ?_;rotate_left 1
  ·intro w hSw
   go_simp
   try with_reducible rfl
  show anyK _ _ _ _ _ _ _ _ (Act.put _ (some 24) _) _
  simp only [Act.put,sx0,sx1,sx2];refine kT 1 13 (v:=?_) rfl (Or.inl ⟨by rfl,?_⟩) hHeld ?_;rotate_left 1
  ·intro w hSw
   go_simp
   try with_reducible rfl
  show anyK _ _ _ _ _ _ _ _ (Act.put _ (some 25) _) _
  simp only [Act.put,sx0,sx1,sx2];refine kT 2 13 (v:=?_) rfl (Or.inl ⟨by rfl,?_⟩) hHeld ?_;rotate_left 1
  ·intro w hSw
   go_simp
   try with_reducible rfl
  show anyK _ _ _ _ _ _ _ _ (Act.put _ (some 26) _) _
  simp only [Act.put,sx0,sx1,sx2];refine kT 3 13 (v:=?_) rfl (Or.inl ⟨by rfl,?_⟩) hHeld ?_;rotate_left 1
  ·intro w hSw
   go_simp
   try with_reducible rfl
  show anyK _ _ _ _ _ _ _ _ (Act.put _ (some 27) _) _
  simp only [Act.put,sx0,sx1,sx2];refine kT 4 13 (v:=?_) rfl (Or.inl ⟨by rfl,?_⟩) hHeld ?_;rotate_left 1
  ·intro w hSw
   go_simp
   try with_reducible rfl
  show anyK _ _ _ _ _ _ _ _ (Act.put _ (some 28) _) _
  simp only [Act.put,sx0,sx1,sx2];refine kT 5 13 (v:=?_) rfl (Or.inl ⟨by rfl,?_⟩) hHeld ?_;rotate_left 1
  ·intro w hSw
   go_simp
   try with_reducible rfl
  show anyK _ _ _ _ _ _ _ _ (Act.put _ (some 29) _) _
  simp only [Act.put,sx0,sx1,sx2];refine kT 6 13 (v:=?_) rfl (Or.inl ⟨by rfl,?_⟩) hHeld ?_;rotate_left 1
  ·intro w hSw
   go_simp
   try with_reducible rfl
  show anyK _ _ _ _ _ _ _ _ (Act.put _ (some 30) _) _
  simp only [Act.put,sx0,sx1,sx2];refine kT 7 13 (v:=?_) rfl (Or.inl ⟨by rfl,?_⟩) hHeld ?_;rotate_left 1
  ·intro w hSw
   go_simp
   try with_reducible rfl
  show anyK _ _ _ _ _ _ _ _ (Act.put _ (some 31) _) _
  simp only [Act.put,sx0,sx1,sx2];refine kT 8 13 (v:=?_) rfl (Or.inl ⟨by rfl,?_⟩) hHeld ?_;rotate_left 1
  ·intro w hSw
   go_simp
   try with_reducible rfl
  show anyK _ _ _ _ _ _ _ _ (Act.put _ (some 32) _) _
  simp only [Act.put,sx0,sx1,sx2];refine kT 10 13 (v:=?_) rfl (Or.inl ⟨by rfl,?_⟩) hHeld ?_;rotate_left 1
  ·intro w hSw
   go_simp
   try with_reducible rfl
  show anyK _ _ _ _ _ _ _ _ (Act.put _ (some 34) _) _
  simp only [Act.put,sx0,sx1,sx2];clear hHeld;refine anyK_one (i:=9) (by kernel_rfl) rfl (fun Kk hKk=>?_)
  go_simp
  (go_at_call 72;refine (HAd.out wo.drew hd0).mono ?_;rintro e w3 ⟨b3,a3,n3,c3,rfl,hI3,_,hx3⟩)
  have he3:=hd0.trans hx3
  go_wp2_with fail
  refine hKk.out _ _ (fun _=>⟨⟨cellKeep he3 lH y0,cellKeep he3 lH y1⟩,cellKeep he3 lG l0,cellKeep he3 lG l1⟩) ?_;clear hKk Kk;simp only [sx0,sx1,sx2];have hHeld:(w3.cell? ⟨H,j*2,none⟩=some (.bool b1)/\w3.cell? ⟨H,j*2+1,none⟩=some (.slice a1 n1 c1))/\w3.cell? ⟨H+1,j*2,none⟩=some (.bool b2)/\w3.cell? ⟨H+1,j*2+1,none⟩=some (.slice a2 n2 c2):=⟨⟨cellKeep he3 lH y0,cellKeep he3 lH y1⟩,cellKeep he3 lG l0,cellKeep he3 lG l1⟩;refine kT 11 13 (v:=?_) rfl (Or.inl ⟨by rfl,?_⟩) hHeld ?_;rotate_left 1
  ·intro w hSw
   go_simp
   try with_reducible rfl
  show anyK _ _ _ _ _ _ _ _ (Act.put _ (some 35) _) _
  simp only [Act.put,sx0,sx1,sx2];clear hHeld;have hV2:=HV.out.ext he3;obtain ⟨_,_,_,_,z0,z1,fz0,fz1,_⟩:=hV2.get j Hlt.out;obtain ⟨hs,hch⟩:=hV2.set j Hlt.out hI3;refine anyK_one (i:=12) (by kernel_rfl) rfl (fun Kk hKk=>?_);refine stepK_storeZ rfl rfl _ _ rfl H (j*2) b3 a3 n3 c3 _ _ rfl rfl z0 z1 fz0 fz1 ?_;refine hKk.out _ _ (fun h=>Bool.noConfusion (show true=false from h)) ?_;clear hKk Kk;simp only [sx0,sx1,sx2];refine anyK_done (by kernel_rfl) ?_ _
  have Hend:=Lh (show ZVar Qc ((w3.setCell ⟨H,j*2,none⟩ (.bool b3)).setCell ⟨H,j*2+1,none⟩ (.slice a3 n3 c3)) H (adQ fa fb (j+1)) (M:Int)/\ZVar Qc ((w3.setCell ⟨H,j*2,none⟩ (.bool b3)).setCell ⟨H,j*2+1,none⟩ (.slice a3 n3 c3)) (H+1) fb (M:Int)/\ZVar Qc ((w3.setCell ⟨H,j*2,none⟩ (.bool b3)).setCell ⟨H,j*2+1,none⟩ (.slice a3 n3 c3)) (H+2) (fun _=>0) 0/\Ext w ((w3.setCell ⟨H,j*2,none⟩ (.bool b3)).setCell ⟨H,j*2+1,none⟩ (.slice a3 n3 c3)) from
   ⟨hs.congr fun i _=>adN_step fa fb j i,(HB.out.ext he3).chz hch hV2.no (by omega),(HZ.out.ext he3).chz hch hV2.no (by omega),hch.ext (HE.out.trans he3) (by rw [HH.out];exact Nat.le_refl _)⟩)
  clear hs hch hV2 hI3 hx3 he3 hd0 HAd HV HZ HB HE y0 y1 l0 l1 lH lG z0 z1 fz0 fz1;generalize ((w3.setCell ⟨H,j*2,none⟩ (.bool b3)).setCell ⟨H,j*2+1,none⟩ (.slice a3 n3 c3))=V at *
  go_wp2_with fail
  go_roundg (8-(j+1))
  case measure=>have:=Hjk.out;have:=Hj1.out;omega
  case rel=>exact ⟨j+1,rfl,Hj1.out,rfl,Hend.out⟩
theorem QAdd_nm (ca cb:Array Value) (x y:Nm) (P E:Nat) (w:World) (h:RmA Qc w ca x P E) (g:RmA Qc w cb y P E) (hP:P+E+1<=400000) (hE:E<=10000) (hL:LimQ Qc w) :
  Calls Tryz.prog 38 #[.agg ca,.agg cb] w fun r w'=>∃ (cr:Array Value) (z:Nm),r=.returned (.agg cr)/\RmA Qc w' cr z (P+E+1) E/\EqN z (nAdd x y)/\Ext w w':=by
 refine (QAdd_w ca cb x y P E w h.w g.w hP hE hL).mono ?_;rintro r w' ⟨cr,z,rfl,hw,hl,hq,hx⟩;exact ⟨cr,z,rfl,hw.a (hl h.low g.low),hq,hx⟩
end Go.Proofs.YtfjnlopbmkimiaaGreatDoor
