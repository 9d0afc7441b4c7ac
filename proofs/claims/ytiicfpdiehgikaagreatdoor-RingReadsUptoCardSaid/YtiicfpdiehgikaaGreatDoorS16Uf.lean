/-
  The reference: a number turned. The reference: half of an even number. The reference: the power brought down as far as it goes. The reference's numbers: ZPow2. The reference: a number over a greater power.
-/
import Derived.Test.YtiicfpdiehgikaaGreatDoorS15Ub
namespace Go.Proofs.YtiicfpdiehgikaaGreatDoor
set_option maxRecDepth 100000
set_option maxHeartbeats 4000000
open Go.RowKit
def trzN (f:Nat→Int) (k:Int):Nat→Nat→Int
 | 0=>fun _=>0
 | n+1=>updN (trzN f k n) ((n+k) % 8).toNat (sgK (n+k) (f n))
theorem trzN_at (f:Nat→Int) (k:Int) (p:Nat) (hp:p<8):∀ n,n≤8→trzN f k n p=if ((p-k) % 8).toNat<n then sgK (((p-k) % 8).toNat+k) (f ((p-k) % 8).toNat) else 0
 | 0,_=>by simp [trzN]
 | n+1,hn=>by
  have ih:=trzN_at f k p hp n (by omega)
  simp only [trzN,updN]
  by_cases e:p=((n+k) % 8).toNat
  ·have h1:((p-k) % 8).toNat=n:=by omega
   rw [if_pos e,h1,if_pos (by omega)]
  ·have h1:((p-k) % 8).toNat≠n:=by omega
   rw [if_neg e,ih]
   by_cases h2:((p-k) % 8).toNat<n
   ·rw [if_pos h2,if_pos (by omega)]
   ·rw [if_neg h2,if_neg (by omega)]
theorem ext8_trzN (f:Nat→Int) (k:Int):ext8 (trzN f k 8)=trR k (ext8 f):=by
 refine (anti_ext8 _).ext ((anti_ext8 f).tr k) fun j h0 h1=>?_
 rw [ext8_at _ j h0 h1,trzN_at f k j.toNat (by omega) 8 (Nat.le_refl _)]
 have hj:((j.toNat:Nat):Int)=j:=by omega
 rw [hj,if_pos (by omega)]
 unfold trR ext8 sgK
 by_cases h:(j-k) % 16<8
 ·rw [if_pos h,if_pos (by omega)]
 ·rw [if_neg h,if_neg (by omega)]
theorem trzN_mod (f:Nat→Int) (k k':Int) (h:k % 16=k' % 16):∀ n,trzN f k n=trzN f k' n
 | 0=>rfl
 | n+1=>by
  have e1:((n:Int)+k) % 8=((n:Int)+k') % 8:=by omega
  have e2:((n:Int)+k) % 16=((n:Int)+k') % 16:=by omega
  simp only [trzN,sgK]
  rw [trzN_mod f k k' h n,e1,e2]
theorem tmod16 (k:Int):(k.tmod 16<0→k.tmod 16+16=k % 16)∧(¬ k.tmod 16<0→k.tmod 16=k % 16)∧-16<k.tmod 16∧k.tmod 16<16:=by
 have h1:=Int.tmod_eq_emod (a:=k) (b:=16)
 have h2:(0:Int)≤k % 16∧k % 16<16:=⟨Int.emod_nonneg _ (by decide),Int.emod_lt_of_pos _ (by decide)⟩
 split at h1<;>(simp at h1;omega)
structure RmW (w:World) (cs:Array Value) (x:Nm) (P E:Nat):Prop where
 anti:Anti x.a
 abs:∀ k,(x.a k).natAbs<2 ^ P
 down:x.e≤E
 val:ZCs w cs (fun i=>x.a i) (x.e:Int)
theorem RmA.w {w:World} {cs:Array Value} {x:Nm} {P E:Nat} (h:RmA w cs x P E):RmW w cs x P E:=⟨h.anti,h.abs,h.down,h.val⟩
theorem RmW.a {w:World} {cs:Array Value} {x:Nm} {P E:Nat} (h:RmW w cs x P E) (hl:Low x):RmA w cs x P E:=⟨h.anti,hl,h.abs,h.down,h.val⟩
theorem RmW.le {w:World} {cs:Array Value} {x:Nm} {P E P' E':Nat} (h:RmW w cs x P E) (hP:P≤P') (hE:E≤E'):RmW w cs x P' E' :=
 ⟨h.anti,fun k=>Nat.lt_of_lt_of_le (h.abs k) (Nat.pow_le_pow_right (by decide) hP),Nat.le_trans h.down hE,h.val⟩
theorem QTurn_w (ca:Array Value) (x:Nm) (P E:Nat) (k:Int) (w:World) (h:RmW w ca x P E) (hP:P≤400000) :
  Calls Tryz.prog 22 #[.agg ca,.int .i64 k] w fun r w'=>∃ cr:Array Value,r=.returned (.agg cr)∧RmW w' cr (nTr k x) P E∧Ext w w':=by
 obtain ⟨f,hf⟩:∃ f:Nat→Int,(fun i:Nat=>x.a i)=f:=⟨_,rfl⟩
 have hv:=h.val
 rw [hf] at hv
 have hff:∀ i:Nat,f i=x.a i:=fun i=>by rw [←hf]
 obtain ⟨kk0,hkk⟩:∃ kk0:Nat,k % 16=(kk0:Int):=⟨(k % 16).toNat,by omega⟩
 obtain ⟨r0,hr0⟩:∃ r0,k.tmod 16=r0:=⟨_,rfl⟩
 have ht:=tmod16 k
 rw [hr0,hkk] at ht
 obtain ⟨H,hH⟩:∃ H,w.heap.size=H:=⟨_,rfl⟩
 obtain ⟨U,hU⟩:∃ U,(w.alloc (.cells ca 38)).alloc (.cells zeroR 38)=U:=⟨_,rfl⟩
 have E0:Ext w U:=by rw [←hU];exact (Ext.alloc _ _).trans (Ext.alloc _ _)
 have V0:ZVar U H f (x.e:Int):=by rw [←hU,←hH];exact hv.box.ext (Ext.alloc _ _)
 have Z0:ZVar U (H+1) (fun _=>0) 0:=by
  have:=(zcs_zero (w.alloc (.cells ca 38))).box
  rw [←hU,←hH]
  simpa using this
 have sU:U.heap.size=H+2:=by rw [←hU,←hH];simp
 have HU:=Lib.hid hU;have HH:=Lib.hid hH;have Hx:=Lib.hid h;have Hff:=Lib.hid hff;have HP:=Lib.hid hP;have HV0:=Lib.hid V0;have HZ0:=Lib.hid Z0;have HE0:=Lib.hid E0;have HsU:=Lib.hid sU;have Ht:=Lib.hid ht;have Hkk:=Lib.hid hkk
 clear hU hH V0 Z0 E0 h hf hv hff hP sU ht hkk
 go_enter Tryz.func22,Tryz.ntmps22
 go_upto_region 1 with fail
 rw [HU.out,HH.out]
 clear HU
 go_upto_if 11 with fail
 go_cut [1] from 11 to 13 (fun s1 wx=>s1=.int .i64 (kk0:Int)∧wx=U)
 case first =>
  by_cases hneg:r0<0
  ·have wk:IntKind.i64.wrap (r0+16)=(kk0:Int):=by have:=Ht.out;rw [IntKind.wrap_i64];omega
   go_wp2_with fail
   go_meet
   exact ⟨rfl,rfl⟩
  ·have Hk0:=Lib.hid (show r0=(kk0:Int) from Ht.out.2.1 hneg)
   go_wp2_with fail
   go_meet
   exact ⟨by rw [Hk0.out],rfl⟩
 case rest =>
 obtain ⟨rfl,rfl⟩:=hcut
 clear hr0
 obtain ⟨U,rfl⟩:∃ U:World,U=wc:=⟨_,rfl⟩
 have eA:=Ext.alloc U (.cells zeroR 38)
 have O0:=(zcs_zero U).box
 rw [HsU.out] at O0
 obtain ⟨U2,hU2⟩:∃ U2,U.alloc (.cells zeroR 38)=U2:=⟨_,rfl⟩
 rw [hU2] at eA O0
 have V2:=HV0.out.ext eA;have Z2:=HZ0.out.ext eA
 have x16:=V2.gete.1
 have y16:=O0.gete.1;have g16:=O0.gete.2
 obtain ⟨hs,hch⟩:=O0.sete (x.e:Int)
 have Hst:=Lib.hid (show ZVar (U2.setCell ⟨H+2,16,none⟩ (.int .i64 (x.e:Int))) (H+2) (trzN f kk0 0) (x.e:Int)∧ZVar (U2.setCell ⟨H+2,16,none⟩ (.int .i64 (x.e:Int))) H f (x.e:Int)∧ZVar (U2.setCell ⟨H+2,16,none⟩ (.int .i64 (x.e:Int))) (H+1) (fun _=>0) 0∧Ext w (U2.setCell ⟨H+2,16,none⟩ (.int .i64 (x.e:Int))) from
  ⟨hs,V2.chz hch O0.no (by omega),Z2.chz hch O0.no (by omega),hch.ext (HE0.out.trans eA) (by rw [HH.out];omega)⟩)
 have HU2:=Lib.hid hU2
 clear hs hch V2 Z2 O0 eA hU2 HV0 HZ0 HE0
 go_upto_region 5 with fail
 rw [HU2.out]
 try rw [HsU.out]
 clear HU2
 go_wp2_with fail
 clear x16 y16 g16
 generalize U2.setCell ⟨H+2,16,none⟩ (.int .i64 (x.e:Int))=V at *
 go_loopg [6,7] 8 (fun kk s6 s7 wr=>∃ j:Nat,s6=.int .i64 (j:Int)∧j≤8∧8-j=kk∧ZVar wr (H+2) (trzN f kk0 j) (x.e:Int)∧ZVar wr H f (x.e:Int)∧ZVar wr (H+1) (fun _=>0) 0∧Ext w wr)
 case atStart=>exact ⟨0,rfl,by omega,by omega,Hst.out⟩
 case round =>
  clear Hst
  obtain ⟨j,rfl,hj,hjk,hV,hA,hZ,hE⟩:=hrel
  obtain ⟨wo,rfl⟩:∃ wo:World,wo=wr:=⟨_,rfl⟩
  by_cases hj8:j=8
  ·subst hj8
   obtain ⟨cr,hr,hc⟩:=hV
   have hinf:(Tryz.prog.info? 38).map (·.size)=some cr.size:=by rw [hc.1];exact zR_info
   obtain ⟨c1,hr1,hs1,hone,_,rr,hzz,hE'⟩:=fin_rm hc hZ hE (by rw [HH.out];omega)
   have Hend:=Lib.hid (show RmW (wo.setRow (H+1) cr) cr (nTr k x) P E∧Ext w (wo.setRow (H+1) cr) from by
    have hx:=Hx.out
    refine ⟨⟨hx.anti.tr k,fun i=>hx.abs (i-k),hx.down,hzz.congr fun i hi=>?_⟩,hE'⟩
    rw [trzN_mod f kk0 k (by have:=Hkk.out;omega)]
    have h2:=congrFun (ext8_trzN f k) (i:Int)
    rw [ext8_at _ _ (by omega) (by omega)] at h2
    have h3:ext8 f=x.a:=by rw [←ext8_of hx.anti];exact ext8_congr fun i _=>Hff.out i
    rw [h3] at h2
    exact h2)
   clear hc hZ hE hzz hE' hA
   go_wp2_with (first
    | refine wpList_load_row rfl 38 _ rfl (H+2) rfl 38 _ (0,0) _ hr Tryz.underlying38 rfl hinf ?_
    | refine wpList_store_row rfl 38 _ _ rfl (H+1) cr rfl rfl 38 _ hr1 hinf hs1 hone ?_)
   refine bodyPost_ret (v:=.agg cr) ?_ rfl ⟨_,rfl,Hend.out⟩
   exact results_cell_row rfl _ _ (H+1) _ _ _ _ rfl rr Tryz.underlying38 rfl hinf
  have hlt:j<8:=by omega
  have q1:(j:Int)<8:=by omega
  have q0:(0:Int)≤(j:Int):=by omega
  have wk:IntKind.i64.wrap ((j:Int)+1)=((j+1:Nat):Int):=by rw [IntKind.wrap_i64];omega
  have hk16:kk0<16:=by have:=Hkk.out;omega
  have Hj1:=Lib.hid (show j+1≤8 by omega)
  obtain ⟨jk,hjkk⟩:∃ jk:Nat,j+kk0=jk:=⟨_,rfl⟩
  have wjk:IntKind.i64.wrap ((j:Int)+(kk0:Int))=(jk:Int):=by rw [IntKind.wrap_i64];omega
  obtain ⟨t,ht⟩:∃ t:Nat,jk % 16=t:=⟨_,rfl⟩
  have tm:(jk:Int).tmod 16=(t:Int):=by rw [Int.tmod_eq_emod_of_nonneg (by omega)];omega
  obtain ⟨b,a,n,c,y0,y1,_,_,hI⟩:=hA.get j hlt
  have hn:n≤P:=hI.bits (by rw [Hff.out];exact Hx.out.abs j)
  have HV:=Lib.hid hV;have HA:=Lib.hid hA;have HZ:=Lib.hid hZ;have HE:=Lib.hid hE;have Hjk:=Lib.hid hjk;have HI:=Lib.hid hI
  clear hV hA hZ hE hjk hI hj8 hj
  by_cases ht8:t<8
  ·have q8:(t:Int)<8:=by omega
   have q9:(0:Int)≤(t:Int):=by omega
   obtain ⟨q,rfl⟩:∃ q,q=t:=⟨_,rfl⟩
   obtain ⟨_,_,_,_,z0,z1,fz0,fz1,_⟩:=HV.out.get q ht8
   obtain ⟨hs,hch⟩:=HV.out.set q ht8 HI.out
   have Hstep:=Lib.hid (show ∀ i,updN (trzN f kk0 j) q (f j) i=trzN f kk0 (j+1) i from fun i=>by
    simp only [trzN]
    rw [show (((j:Int)+(kk0:Int)) % 8).toNat=q by omega,show sgK ((j:Int)+(kk0:Int)) (f j)=f j by unfold sgK;rw [if_pos (by omega)]])
   have Hend:=Lib.hid (show ZVar ((wo.setCell ⟨H+2,q*2,none⟩ (.bool b)).setCell ⟨H+2,q*2+1,none⟩ (.slice a n c)) (H+2) (trzN f kk0 (j+1)) (x.e:Int)∧ZVar ((wo.setCell ⟨H+2,q*2,none⟩ (.bool b)).setCell ⟨H+2,q*2+1,none⟩ (.slice a n c)) H f (x.e:Int)∧ZVar ((wo.setCell ⟨H+2,q*2,none⟩ (.bool b)).setCell ⟨H+2,q*2+1,none⟩ (.slice a n c)) (H+1) (fun _=>0) 0∧Ext w ((wo.setCell ⟨H+2,q*2,none⟩ (.bool b)).setCell ⟨H+2,q*2+1,none⟩ (.slice a n c)) from
    ⟨hs.congr fun i _=>Hstep.out i,HA.out.chz hch HV.out.no (by omega),HZ.out.chz hch HV.out.no (by omega),hch.ext HE.out (by rw [HH.out];omega)⟩)
   clear hs hch HV HA HZ HE HI hn hk16 hjkk ht ht8
   go_wp2_with fail
   clear z0 z1 fz0 fz1 y0 y1
   generalize ((wo.setCell ⟨H+2,q*2,none⟩ (.bool b)).setCell ⟨H+2,q*2+1,none⟩ (.slice a n c))=V at *
   go_roundg (8-(j+1))
   case measure=>have:=Hjk.out;have:=Hj1.out;omega
   case rel=>exact ⟨j+1,rfl,Hj1.out,rfl,Hend.out⟩
  ·have q8:¬ (t:Int)<8:=by omega
   obtain ⟨q,hq⟩:∃ q:Nat,t=q+8:=⟨t-8,by omega⟩
   have wq:IntKind.i64.wrap ((t:Int)-8)=(q:Int):=by rw [IntKind.wrap_i64];omega
   have hq8:q<8:=by omega
   have q9:(0:Int)≤(q:Int):=by omega
   have q10:(q:Int)<8:=by omega
   have HNe:=Lib.hid (ZNeg_any b a n c (f j) wo HI.out (by have:=HP.out;omega))
   have Hstep:=Lib.hid (show ∀ i,updN (trzN f kk0 j) q (-f j) i=trzN f kk0 (j+1) i from fun i=>by
    simp only [trzN]
    rw [show (((j:Int)+(kk0:Int)) % 8).toNat=q by omega,show sgK ((j:Int)+(kk0:Int)) (f j)=-f j by unfold sgK;rw [if_neg (by omega)]])
   have Hq8:=Lib.hid hq8
   clear hn hk16 hjkk ht ht8 hq hq8
   go_wp2_with fail
   refine HNe.out.mono ?_
   rintro r w2 ⟨b2,a2,n2,c2,rfl,hI2,_,hx2⟩
   have hV2:=HV.out.ext hx2
   obtain ⟨_,_,_,_,z0,z1,fz0,fz1,_⟩:=hV2.get q Hq8.out
   obtain ⟨hs,hch⟩:=hV2.set q Hq8.out hI2
   have Hend:=Lib.hid (show ZVar ((w2.setCell ⟨H+2,q*2,none⟩ (.bool b2)).setCell ⟨H+2,q*2+1,none⟩ (.slice a2 n2 c2)) (H+2) (trzN f kk0 (j+1)) (x.e:Int)∧ZVar ((w2.setCell ⟨H+2,q*2,none⟩ (.bool b2)).setCell ⟨H+2,q*2+1,none⟩ (.slice a2 n2 c2)) H f (x.e:Int)∧ZVar ((w2.setCell ⟨H+2,q*2,none⟩ (.bool b2)).setCell ⟨H+2,q*2+1,none⟩ (.slice a2 n2 c2)) (H+1) (fun _=>0) 0∧Ext w ((w2.setCell ⟨H+2,q*2,none⟩ (.bool b2)).setCell ⟨H+2,q*2+1,none⟩ (.slice a2 n2 c2)) from
    ⟨hs.congr fun i _=>Hstep.out i,(HA.out.ext hx2).chz hch hV2.no (by omega),(HZ.out.ext hx2).chz hch hV2.no (by omega),hch.ext (HE.out.trans hx2) (by rw [HH.out];omega)⟩)
   clear hs hch hV2 hI2 hx2 HNe HV HA HZ HE HI y0 y1
   go_wp2_with fail
   clear z0 z1 fz0 fz1
   generalize ((w2.setCell ⟨H+2,q*2,none⟩ (.bool b2)).setCell ⟨H+2,q*2+1,none⟩ (.slice a2 n2 c2))=V at *
   go_roundg (8-(j+1))
   case measure=>have:=Hjk.out;have:=Hj1.out;omega
   case rel=>exact ⟨j+1,rfl,Hj1.out,rfl,Hend.out⟩
theorem QTurn_nm (ca:Array Value) (x:Nm) (P E:Nat) (k:Int) (w:World) (h:RmA w ca x P E) (hP:P≤400000) :
  Calls Tryz.prog 22 #[.agg ca,.int .i64 k] w fun r w'=>∃ cr:Array Value,r=.returned (.agg cr)∧RmA w' cr (nTr k x) P E∧Ext w w':=by
 refine (QTurn_w ca x P E k w h.w hP).mono ?_
 rintro r w' ⟨cr,rfl,hw,hx⟩
 exact ⟨cr,rfl,hw.a (h.low.tr k),hx⟩
theorem zhalf_two (neg:Bool) (ao:Option Addr) (n c:Nat) (z:Int) (w:World) (h:IsZ w neg ao n c z) (hn:n≤400000) :
  Calls Tryz.prog 89 #[.agg #[.bool neg,.slice ao n c]] w fun e w'=>∃ (b':Bool) (a':Option Addr) (n' c':Nat) (z':Int) (bo:Bool),e=.returned (.tuple #[.agg #[.bool b',.slice a' n' c'],.bool bo])∧IsZ w' b' a' n' c' z'∧Hid (z % 2=0→z'=z / 2)∧n'≤n∧Ext w w':=by
 have Hsg:=Lib.hid (show z=if neg=true then -(z.natAbs:Int) else (z.natAbs:Int) from by
  obtain ⟨l0,_,_,_,_,_,_,h7,_⟩:=h
  rw [h7]
  cases neg<;>simp)
 obtain ⟨l,p1,p2,p3,p4,p5,p6,p7,p8,p9⟩:=h.abs
 have hE:=(ext_alloc w (.cells #[.bool neg,.slice ao n c] 35)).trans (ext_alloc _ (.cells #[.bool false,.slice none 0 0] 35))
 have bA:=(zbx_new w neg ao n c).ext (ext_alloc _ (.cells #[.bool false,.slice none 0 0] 35))
 have hR:=zres_new (w.alloc (.cells #[.bool neg,.slice ao n c] 35))
 rw [show (w.alloc (.cells #[.bool neg,.slice ao n c] 35)).heap.size=w.heap.size+1 from by simp] at hR
 have hA:n=0∨∃ b o,ao=some ⟨b,o,none⟩:=by
  by_cases h0:n=0
  ·exact Or.inl h0
  ·exact Or.inr (p4.some_of (by omega))
 have P1:=Lib.hid p1;have P4:=Lib.hid p4;have P5:=Lib.hid p5;have P7:=Lib.hid p7
 have x0:=bA.c0;have x1:=bA.c1
 clear p1 p2 p3 p4 p5 p6 p7 p8 p9 h
 go_enter Tryz.func89,Tryz.ntmps89
 go_wp2_with (at_make;refine wpList_make_irow _ rfl _ _ rfl _ _ _ _ n rfl rfl (by omega) (by omega) (by omega) ?_;intro w1 hr1 he1 hz1;have d1:=zKeep he1 bA.lt x1)
 have hWB:((w.alloc (.cells #[.bool neg,.slice ao n c] 35)).alloc (.cells #[.bool false,.slice none 0 0] 35)).heap.size=w.heap.size+1+1:=by simp
 generalize (w.alloc (.cells #[.bool neg,.slice ao n c] 35)).alloc (.cells #[.bool false,.slice none 0 0] 35)=WB at *
 rw [hWB] at hr1
 have HWB:=Lib.hid hWB
 clear hWB d1
 go_loopw [5,6] (fun cv iv wr=>∃ (k c:Nat) (D:List Nat),k≤n∧iv=.int .i64 ((k:Int)-1)∧cv=.int .i64 c∧c≤1∧D.length=n∧ZD D∧IRow wr (w.heap.size+1+1) D∧zval (D.drop k)*2+c=zval (l.drop k)∧Ext WB wr) (fun _ iv _=>(intOf iv+1).toNat)
 case atStart=>exact ⟨n,0,List.replicate n 0,Nat.le_refl _,by go_num,rfl,by omega,by simp,ZD.replicate _,hr1,by rw [List.drop_of_length_le (by simp),List.drop_of_length_le (by rw [P1.out];exact Nat.le_refl _)];rfl,he1⟩
 case round =>
  clear hr1 he1 hz1
  obtain ⟨k,cc,D,hk,rfl,rfl,hc1,hD,hdD,hrD,hinv,hEr⟩:=hrel
  have HD:=Lib.hid hD;have HdD:=Lib.hid hdD;have HrD:=Lib.hid hrD;have Hinv:=Lib.hid hinv;have HEr:=Lib.hid hEr
  have d0:=zKeep hEr bA.lt x0;have d1:=zKeep hEr bA.lt x1
  clear hD hdD hrD hinv hEr
  by_cases hk0:k=0
  ·subst hk0
   have hv:zval D*2+cc=zval l:=by have:=Hinv.out;rwa [List.drop_zero,List.drop_zero] at this
   obtain ⟨z',hz'⟩:∃ z':Int,z'=if neg=true then -(zval D:Int) else (zval D:Int):=⟨_,rfl⟩
   have Hz':Hid (z % 2=0→z'=z / 2):=by
    show z % 2=0→z'=z / 2
    have h7:=P7.out;have h8:=Hsg.out
    rw [hz']
    cases neg
    ·simp only [Bool.false_eq_true,if_false] at h8 ⊢;omega
    ·simp only [if_true] at h8 ⊢;omega
   have Hm:=Lib.hid (fun wx (hx:IRow wx (w.heap.size+1+1) D)=>zmade_any neg (some ⟨w.heap.size+1+1,0,none⟩) D n n wx HD.out hx.seg HdD.out (Nat.le_refl _) (by unfold maxLen;omega) (by omega) z' hz')
   clear hv hz'
   go_wp2_with fail
   refine (Hm.out _ HrD.out).mono ?_
   rintro e w9 ⟨b',a',n',c',rfl,hI,hle,hx9⟩
   have hR9:=hR.ext (HEr.out.trans hx9)
   have k0:=hR9.c0;have k1:=hR9.c1;have f0:=hR9.f 0;have f1:=hR9.f 1
   go_wp2_with fail
   exact bodyPost_ret (v:=.tuple #[.agg #[.bool b',.slice a' n' c'],.bool (decide ((0:Int)<(cc:Int)))]) (by simp [results,Tryz.results89,go_sem,k0,k1]) rfl ⟨b',a',n',c',z',_,rfl,hI.keepRes hR9.row _ _,Hz',hle,zput2 (hE.trans (HEr.out.trans hx9)) (by omega) _ _⟩
  ·obtain ⟨j,rfl⟩:∃ j,k=j+1:=⟨k-1,by omega⟩
   have ec:(((j+1:Nat):Int)-1)=(j:Int):=by omega
   have ij:(j:Int)<(n:Int):=by omega
   rcases hA with h0 | ⟨b,o,rfl⟩
   ·omega
   have hcl:=(P4.out.ext (hE.trans HEr.out)).at j (by rw [P1.out];omega)
   obtain ⟨x,hx⟩:∃ x,l.getD j 0=x:=⟨_,rfl⟩
   have hx4:x<10000:=by rw [←hx];exact P5.out.get j
   rw [hx] at hcl
   have hcM:=HrD.out.cell j (by rw [HD.out];omega)
   have hfz:=HrD.out.frozen j
   obtain ⟨yy,hyy⟩:∃ yy,D.getD j 0=yy:=⟨_,rfl⟩
   rw [hyy] at hcM
   obtain ⟨d,hd⟩:∃ d,(cc*10000+x) / 2=d:=⟨_,rfl⟩
   obtain ⟨c2,hc2⟩:∃ c2,(cc*10000+x) % 2=c2:=⟨_,rfl⟩
   have Hst:=Lib.hid (zhalf_step (by rw [HD.out];omega) (by rw [P1.out];omega) hx rfl hd hc2 Hinv.out)
   have hd4:d<10000:=by omega
   have hc21:c2≤1:=by omega
   have t1:((cc:Int)*10000+(x:Int)).tdiv 2=(d:Int):=by rw [Int.tdiv_eq_ediv_of_nonneg (by omega)];omega
   have t2:((cc:Int)*10000+(x:Int)).tmod 2=(c2:Int):=by rw [Int.tmod_eq_emod_of_nonneg (by omega)];omega
   rw [ec]
   clear hx hd hc2 hk0 ec hyy
   go_wp2_with fail
   go_roundw
   case rel=>exact ⟨j,c2,D.set j d,by omega,by go_num,rfl,hc21,by rw [List.length_set];exact HD.out,HdD.out.set _ _ hd4,HrD.out.set _ _,Hst.out,Below.setCell HEr.out (by rw [HWB.out];exact Nat.le_refl _) _⟩
   case measure=>simp [intOf]
def hvN (f:Nat→Int) (j:Nat):Nat→Int:=fun i=>if i<j then f i / 2 else f i
theorem hvN_step (f:Nat→Int) (j i:Nat):updN (hvN f j) j (f j / 2) i=hvN f (j+1) i:=by
 unfold updN hvN
 by_cases e:i=j
 ·subst e;simp
 ·rw [if_neg e]
  by_cases h:i<j
  ·rw [if_pos h,if_pos (by omega)]
  ·rw [if_neg h,if_neg (by omega)]
def SameN (f:Nat→Int) (d:Nat) (g:Nat→Int) (e:Nat):Prop:=EqN ⟨ext8 g,e⟩ ⟨ext8 f,d⟩
theorem same_half {f g:Nat→Int} {d e:Nat} (h:SameN f d g (e+1)) (hev:∀ i,i<8→g i % 2=0):SameN f d (hvN g 8) e:=by
 refine EqN.trans ?_ h
 intro k
 have h1:ext8 g k=ext8 (hvN g 8) k*2:=ext8_scale (f:=g) (V:=hvN g 8) (c:=2) (fun i hi=>by have:=hev i hi;unfold hvN;rw [if_pos hi];omega) k
 show ext8 (hvN g 8) k*2 ^ (e+1)=ext8 g k*2 ^ e
 rw [h1,Int.pow_succ]
 simp only [Int.mul_assoc,Int.mul_comm]
 simp only [Int.mul_left_comm]
theorem same_zero {f g:Nat→Int} {d e:Nat} (h:SameN f d g e) (hz:zeroN g):SameN f d (fun _=>0) 0:=by
 refine EqN.trans ?_ h
 intro k
 have e1:ext8 g=ext8 fun _=>0:=ext8_congr fun i hi=>hz i hi
 show ext8 (fun _=>0) k*2 ^ e=ext8 g k*2 ^ 0
 rw [e1,ext8_zero];simp
theorem Qleast_any (ca:Array Value) (f:Nat→Int) (d:Nat) (w:World) (h:ZCs w ca f (d:Int)) (P E:Nat) (hP:P≤400000) (hA:∀ i,i<8→(f i).natAbs<2 ^ P) (hd:d≤E) (hE:E≤1099511627776) :
  Calls Tryz.prog 56 #[.agg ca] w fun r w'=>∃ (cr:Array Value) (y:Nm),r=.returned (.agg cr)∧RmA w' cr y P E∧EqN y ⟨ext8 f,d⟩∧Ext w w':=by
 obtain ⟨H,hH⟩:∃ H,w.heap.size=H:=⟨_,rfl⟩
 obtain ⟨U,hU⟩:∃ U,(w.alloc (.cells ca 38)).alloc (.cells zeroR 38)=U:=⟨_,rfl⟩
 have E0:Ext w U:=by rw [←hU];exact (Ext.alloc _ _).trans (Ext.alloc _ _)
 have V0:ZVar U H f (d:Int):=by rw [←hU,←hH];exact h.box.ext (Ext.alloc _ _)
 have Z0:ZVar U (H+1) (fun _=>0) 0:=by
  have:=(zcs_zero (w.alloc (.cells ca 38))).box
  rw [←hU,←hH]
  simpa using this
 have HU:=Lib.hid hU;have HH:=Lib.hid hH;have HP:=Lib.hid hP;have HEE:=Lib.hid hE
 have Hst:=Lib.hid (show SameN f d f d∧(∀ i,i<8→(f i).natAbs<2 ^ P)∧d≤E∧ZVar U H f (d:Int)∧ZVar U (H+1) (fun _=>0) 0∧Ext w U from ⟨EqN.refl _,hA,hd,V0,Z0,E0⟩)
 clear hU hH V0 Z0 E0 h hP hA hd hE
 go_enter Tryz.func56,Tryz.ntmps56
 go_wp2_with fail
 rw [HU.out,HH.out]
 clear HU
 go_loopg [3,4] d (fun kk s3 s4 wr=>∃ (g:Nat→Int),SameN f d g kk∧(∀ i,i<8→(g i).natAbs<2 ^ P)∧kk≤E∧ZVar wr H g (kk:Int)∧ZVar wr (H+1) (fun _=>0) 0∧Ext w wr)
 case atStart=>exact ⟨f,Hst.out⟩
 case round =>
  clear Hst
  obtain ⟨g,hS,hA,hkE,hV,hZ,hE⟩:=hrel
  obtain ⟨wo,rfl⟩:∃ wo:World,wo=wr:=⟨_,rfl⟩
  have x16:=hV.gete.1
  have HS:=Lib.hid hS;have HA:=Lib.hid hA;have HkE:=Lib.hid hkE
  clear hS hA hkE
  cases gk with
  | zero =>
   obtain ⟨cr,hr,hc⟩:=hV
   have hinf:(Tryz.prog.info? 38).map (·.size)=some cr.size:=by rw [hc.1];exact zR_info
   obtain ⟨c1,hr1,hs1,hone,_,rr,hzz,hE'⟩:=fin_rm hc hZ hE (by rw [HH.out];omega)
   have Hend:=Lib.hid (show RmA (wo.setRow (H+1) cr) cr ⟨ext8 g,0⟩ P E∧EqN ⟨ext8 g,0⟩ ⟨ext8 f,d⟩∧Ext w (wo.setRow (H+1) cr) from
    ⟨⟨anti_ext8 g,Or.inl rfl,fun k=>Nat.lt_of_le_of_lt (ext8_abs (A:=2 ^ P-1) (fun i hi=>by have:=HA.out i hi;omega) k) (by have:0<2 ^ P:=Nat.pow_pos (by decide);omega),Nat.zero_le _,hzz.congr fun i hi=>by
     show g i=ext8 g (i:Int)
     rw [ext8_at g _ (by omega) (by omega)];rfl⟩,HS.out,hE'⟩)
   clear hc hZ hE hzz hE'
   go_wp2_with (first
    | refine wpList_load_row rfl 38 _ rfl H rfl 38 _ (0,0) _ hr Tryz.underlying38 rfl hinf ?_
    | refine wpList_store_row rfl 38 _ _ rfl (H+1) cr rfl rfl 38 _ hr1 hinf hs1 hone ?_)
   refine bodyPost_ret (v:=.agg cr) ?_ rfl ⟨_,_,rfl,Hend.out⟩
   exact results_cell_row rfl _ _ (H+1) _ _ _ _ rfl rr Tryz.underlying38 rfl hinf
  | succ m =>
  have q1:(0:Int)<((m+1:Nat):Int):=by omega
  have HV:=Lib.hid hV;have HZ:=Lib.hid hZ;have HE:=Lib.hid hE
  clear hV hZ hE
  go_wp2_with fail
  clear x16 q1
  go_loopg [3] 8 (fun kk s3 wr=>∃ j:Nat,s3=.int .i64 (j:Int)∧j≤8∧8-j=kk∧(∀ i,i<j→g i % 2=0)∧ZVar wr H g ((m+1:Nat):Int)∧ZVar wr (H+1) (fun _=>0) 0∧Ext w wr)
  case atStart=>exact ⟨0,rfl,by omega,by omega,fun i hi=>by omega,HV.out,HZ.out,HE.out⟩
  case round =>
   clear HV HZ HE
   obtain ⟨j,rfl,hj,hjk,hev,hV,hZ,hE⟩:=hrel
   obtain ⟨wo,rfl⟩:∃ wo:World,wo=wr:=⟨_,rfl⟩
   have Hev:=Lib.hid hev
   clear hev
   by_cases hj8:j=8
   ·subst hj8
    have HV:=Lib.hid (hV.congr (f':=hvN g 0) fun i _=>by simp [hvN]);have HZ:=Lib.hid hZ;have HE:=Lib.hid hE
    have HA2:=Lib.hid (show ∀ i,i<8→(hvN g 8 i).natAbs<2 ^ P from fun i hi=>by have:=HA.out i hi;unfold hvN;rw [if_pos hi];omega)
    have HS2:=Lib.hid (same_half HS.out Hev.out)
    clear hV hZ hE hj hjk
    go_wp2_with fail
    go_loopg [4] 8 (fun kk s4 wr=>∃ j:Nat,s4=.int .i64 (j:Int)∧j≤8∧8-j=kk∧ZVar wr H (hvN g j) ((m+1:Nat):Int)∧ZVar wr (H+1) (fun _=>0) 0∧Ext w wr)
    case atStart=>exact ⟨0,rfl,by omega,by omega,HV.out,HZ.out,HE.out⟩
    case round =>
     clear HV HZ HE
     obtain ⟨j,rfl,hj,hjk,hV,hZ,hE⟩:=hrel
     obtain ⟨wo,rfl⟩:∃ wo:World,wo=wr:=⟨_,rfl⟩
     by_cases hj8:j=8
     ·subst hj8
      obtain ⟨cq,hrq,hcq⟩:=hV
      have hinfq:(Tryz.prog.info? 38).map (·.size)=some cq.size:=by rw [hcq.1];exact zR_info
      have HcQ:=Lib.hid hcq;have HrQ:=Lib.hid hrq
      by_cases hz:zeroN (hvN g 8)
      ·have HQ:=Lib.hid (QZero_any cq (hvN g 8) _ wo hcq true (by simp [hz]))
       have HZ:=Lib.hid hZ;have HE:=Lib.hid hE;have Hz:=Lib.hid hz
       clear hcq hZ hE hj hjk hz
       go_wp2_with (refine wpList_load_row rfl 38 _ rfl H rfl 38 _ (0,0) _ hrq Tryz.underlying38 rfl hinfq ?_)
       refine HQ.out.mono ?_
       rintro r w2 ⟨rfl,hx2⟩
       obtain ⟨c1,hr1,hs1,hone,hinf,rr,hzz,hE'⟩:=fin_rm (zcs_zero w2) (HZ.out.ext hx2) (HE.out.trans hx2) (by rw [HH.out];omega)
       have Hend:=Lib.hid (show RmA (w2.setRow (H+1) zeroR) zeroR ⟨ext8 (fun _=>0),0⟩ P E∧EqN ⟨ext8 (fun _=>0),0⟩ ⟨ext8 f,d⟩∧Ext w (w2.setRow (H+1) zeroR) from
        ⟨⟨anti_ext8 (fun _=>0),Or.inl rfl,fun k=>by rw [ext8_zero];exact Nat.pow_pos (by decide),Nat.zero_le _,hzz.congr fun i _=>by show (0:Int)=ext8 (fun _=>0) (i:Int);rw [ext8_zero]⟩,same_zero HS2.out Hz.out,hE'⟩)
       clear hzz hE' hx2 HQ HZ HE
       go_wp2_with (refine wpList_store_row rfl 38 _ _ rfl (H+1) zeroR rfl rfl 38 _ hr1 hinf hs1 hone ?_)
       refine bodyPost_ret (v:=.agg zeroR) ?_ rfl ⟨_,_,rfl,Hend.out⟩
       exact results_cell_row rfl _ _ (H+1) _ _ _ _ rfl rr Tryz.underlying38 rfl hinf
      ·have HQ:=Lib.hid (QZero_any cq (hvN g 8) _ wo hcq false (by simp [hz]))
       have HZ:=Lib.hid hZ;have HE:=Lib.hid hE
       clear hcq hZ hE hj hjk hz
       go_wp2_with (refine wpList_load_row rfl 38 _ rfl H rfl 38 _ (0,0) _ hrq Tryz.underlying38 rfl hinfq ?_)
       refine HQ.out.mono ?_
       rintro r w2 ⟨rfl,hx2⟩
       have hV2:ZVar w2 H (hvN g 8) ((m+1:Nat):Int):=(show ZVar wo H (hvN g 8) ((m+1:Nat):Int) from ⟨cq,HrQ.out,HcQ.out⟩).ext hx2
       have y16:=hV2.gete.1;have f16:=hV2.gete.2
       obtain ⟨hs,hch⟩:=hV2.sete (m:Int)
       have wm:IntKind.i64.wrap (m:Int)=(m:Int):=by have:=HkE.out;have:=HEE.out;rw [IntKind.wrap_i64];omega
       have Hend:=Lib.hid (show ZVar (w2.setCell ⟨H,16,none⟩ (.int .i64 (m:Int))) H (hvN g 8) (m:Int)∧ZVar (w2.setCell ⟨H,16,none⟩ (.int .i64 (m:Int))) (H+1) (fun _=>0) 0∧Ext w (w2.setCell ⟨H,16,none⟩ (.int .i64 (m:Int))) from
        ⟨hs,(HZ.out.ext hx2).chz hch hV2.no (by omega),hch.ext (HE.out.trans hx2) (by rw [HH.out];exact Nat.le_refl _)⟩)
       clear hs hch hV2 hx2 HQ HZ HE hrq hinfq HcQ HrQ
       go_wp2_with fail
       clear y16 f16 wm
       generalize w2.setCell ⟨H,16,none⟩ (.int .i64 (m:Int))=V at *
       go_roundg m
       case measure=>omega
       case rel=>exact ⟨hvN g 8,HS2.out,HA2.out,by have:=HkE.out;omega,Hend.out⟩
     have hlt:j<8:=by omega
     have q1:(j:Int)<8:=by omega
     have q0:(0:Int)≤(j:Int):=by omega
     have wk:IntKind.i64.wrap ((j:Int)+1)=((j+1:Nat):Int):=by rw [IntKind.wrap_i64];omega
     have Hj1:=Lib.hid (show j+1≤8 by omega)
     have Hlt:=Lib.hid hlt
     obtain ⟨b,a,n,c,y0,y1,_,_,hI⟩:=hV.get j hlt
     have hI2:=hI.cast (show hvN g j j=g j by simp [hvN])
     have hn:n≤P:=hI2.bits (HA.out j hlt)
     have HHa:=Lib.hid (zhalf_two b a n c (g j) wo hI2 (by have:=HP.out;omega))
     have HV:=Lib.hid hV;have HZ:=Lib.hid hZ;have HE:=Lib.hid hE;have Hjk:=Lib.hid hjk
     clear hI hI2 hV hZ hE hjk hj8 hj hlt hn
     go_wp2_with fail
     refine HHa.out.mono ?_
     rintro r w2 ⟨b2,a2,n2,c2,z2,bo,rfl,hI2,hz2,_,hx2⟩
     have hI3:=hI2.cast (hz2.out (Hev.out j Hlt.out))
     have hV2:=HV.out.ext hx2
     obtain ⟨_,_,_,_,z0,z1,fz0,fz1,_⟩:=hV2.get j Hlt.out
     obtain ⟨hs,hch⟩:=hV2.set j Hlt.out hI3
     have Hend:=Lib.hid (show ZVar ((w2.setCell ⟨H,j*2,none⟩ (.bool b2)).setCell ⟨H,j*2+1,none⟩ (.slice a2 n2 c2)) H (hvN g (j+1)) ((m+1:Nat):Int)∧ZVar ((w2.setCell ⟨H,j*2,none⟩ (.bool b2)).setCell ⟨H,j*2+1,none⟩ (.slice a2 n2 c2)) (H+1) (fun _=>0) 0∧Ext w ((w2.setCell ⟨H,j*2,none⟩ (.bool b2)).setCell ⟨H,j*2+1,none⟩ (.slice a2 n2 c2)) from
      ⟨hs.congr fun i _=>hvN_step g j i,(HZ.out.ext hx2).chz hch hV2.no (by omega),hch.ext (HE.out.trans hx2) (by rw [HH.out];exact Nat.le_refl _)⟩)
     clear hs hch hV2 hI2 hI3 hz2 hx2 HHa HV HZ HE y0 y1
     go_wp2_with fail
     clear z0 z1 fz0 fz1
     generalize ((w2.setCell ⟨H,j*2,none⟩ (.bool b2)).setCell ⟨H,j*2+1,none⟩ (.slice a2 n2 c2))=V at *
     go_roundg (8-(j+1))
     case measure=>have:=Hjk.out;have:=Hj1.out;omega
     case rel=>exact ⟨j+1,rfl,Hj1.out,rfl,Hend.out⟩
   have hlt:j<8:=by omega
   have q1:(j:Int)<8:=by omega
   have q0:(0:Int)≤(j:Int):=by omega
   have wk:IntKind.i64.wrap ((j:Int)+1)=((j+1:Nat):Int):=by rw [IntKind.wrap_i64];omega
   have Hj1:=Lib.hid (show j+1≤8 by omega)
   have Hlt:=Lib.hid hlt
   obtain ⟨b,a,n,c,y0,y1,_,_,hI⟩:=hV.get j hlt
   by_cases ho:(g j).natAbs % 2=1
   ·have HOd:=Lib.hid (zodd_any b a n c (g j) wo hI true (by simp [ho]))
    have HV:=Lib.hid hV;have HZ:=Lib.hid hZ;have HE:=Lib.hid hE
    have Hlow:=Lib.hid (show Low ⟨ext8 g,m+1⟩ from Or.inr ⟨(j:Int),by show ext8 g (j:Int) % 2=1;rw [ext8_at g _ (by omega) (by omega)];show g j % 2=1;omega⟩)
    clear hI hV hZ hE hj8 hj hlt ho
    go_wp2_with fail
    refine HOd.out.mono ?_
    rintro r w2 ⟨rfl,hx2⟩
    have hV:=HV.out.ext hx2;have hZ:=HZ.out.ext hx2;have hE:=HE.out.trans hx2
    obtain ⟨wo,rfl⟩:∃ wo:World,wo=w2:=⟨_,rfl⟩
    clear hx2 HOd HV HZ HE y0 y1
    obtain ⟨cr,hr,hc⟩:=hV
    have hinf:(Tryz.prog.info? 38).map (·.size)=some cr.size:=by rw [hc.1];exact zR_info
    obtain ⟨c1,hr1,hs1,hone,_,rr,hzz,hE'⟩:=fin_rm hc hZ hE (by rw [HH.out];omega)
    have Hend:=Lib.hid (show RmA (wo.setRow (H+1) cr) cr ⟨ext8 g,m+1⟩ P E∧EqN ⟨ext8 g,m+1⟩ ⟨ext8 f,d⟩∧Ext w (wo.setRow (H+1) cr) from
     ⟨⟨anti_ext8 g,Hlow.out,fun k=>Nat.lt_of_le_of_lt (ext8_abs (A:=2 ^ P-1) (fun i hi=>by have:=HA.out i hi;omega) k) (by have:0<2 ^ P:=Nat.pow_pos (by decide);omega),HkE.out,hzz.congr fun i hi=>by
      show g i=ext8 g (i:Int)
      rw [ext8_at g _ (by omega) (by omega)];rfl⟩,HS.out,hE'⟩)
    clear hc hZ hE hzz hE'
    go_wp2_with (first
     | refine wpList_load_row rfl 38 _ rfl H rfl 38 _ (0,0) _ hr Tryz.underlying38 rfl hinf ?_
     | refine wpList_store_row rfl 38 _ _ rfl (H+1) cr rfl rfl 38 _ hr1 hinf hs1 hone ?_)
    refine bodyPost_ret (v:=.agg cr) ?_ rfl ⟨_,_,rfl,Hend.out⟩
    exact results_cell_row rfl _ _ (H+1) _ _ _ _ rfl rr Tryz.underlying38 rfl hinf
   ·have HOd:=Lib.hid (zodd_any b a n c (g j) wo hI false (by simp [ho]))
    have HV:=Lib.hid hV;have HZ:=Lib.hid hZ;have HE:=Lib.hid hE;have Hjk:=Lib.hid hjk
    have Hev':=Lib.hid (show ∀ i,i<j+1→g i % 2=0 from fun i hi=>by
     by_cases e:i=j
     ·rw [e];omega
     ·exact Hev.out i (by omega))
    clear hI hV hZ hE hj8 hj hlt ho hjk
    go_wp2_with fail
    refine HOd.out.mono ?_
    rintro r w2 ⟨rfl,hx2⟩
    have Hend:=Lib.hid (show ZVar w2 H g ((m+1:Nat):Int)∧ZVar w2 (H+1) (fun _=>0) 0∧Ext w w2 from ⟨HV.out.ext hx2,HZ.out.ext hx2,HE.out.trans hx2⟩)
    clear hx2 HOd HV HZ HE y0 y1
    go_wp2_with fail
    go_roundg (8-(j+1))
    case measure=>have:=Hjk.out;have:=Hj1.out;omega
    case rel=>exact ⟨j+1,rfl,Hj1.out,rfl,Hev'.out,Hend.out⟩
theorem pow2_len (e:Nat):(((2 ^ e:Nat):Int)).natAbs<10000 ^ (e+1):=by
 rw [Int.natAbs_natCast]
 have h1:2 ^ e≤10000 ^ e:=Nat.pow_le_pow_left (by decide) e
 have h2:10000 ^ e<10000 ^ (e+1):=Nat.pow_lt_pow_right (by decide) (by omega)
 omega
theorem pow2_mul (s e:Nat):((2 ^ s:Nat):Int)*((2 ^ e:Nat):Int)=((2 ^ (s+e):Nat):Int):=by rw [←Int.natCast_mul,←Nat.pow_add]
theorem ZBx.far {wr:World} {Rb Zb:Nat} {b:Bool} {a:Option Addr} {n c:Nat} (hz:ZBx wr Zb b a n c) (hne:Zb≠Rb) (u v:Value):ZBx ((wr.setCell ⟨Rb,0,none⟩ u).setCell ⟨Rb,1,none⟩ v) Zb b a n c:=by
 have hO:Only Rb wr ((wr.setCell ⟨Rb,0,none⟩ u).setCell ⟨Rb,1,none⟩ v):=((Only.refl _ _).setCell _ _).setCell _ _
 exact ⟨(hO.block _ hne).trans hz.row⟩
theorem ZRes.far {wr:World} {Rb g:Nat} (hz:ZRes wr g) (hne:g≠Rb) (u v:Value):ZRes ((wr.setCell ⟨Rb,0,none⟩ u).setCell ⟨Rb,1,none⟩ v) g:=by
 have hO:Only Rb wr ((wr.setCell ⟨Rb,0,none⟩ u).setCell ⟨Rb,1,none⟩ v):=((Only.refl _ _).setCell _ _).setCell _ _
 exact ⟨(hO.block _ hne).trans hz.row⟩
theorem ZPow2_any (N:Nat) (hN:N≤10000) (w:World) :
  Calls Tryz.prog 68 #[.int .i64 (N:Int)] w (ZRet w ((2 ^ N:Nat):Int) 10001):=by
 have hE0:=ext_alloc w (.cells #[.bool false,.slice none 0 0] 35)
 have hR0:=zres_new w
 go_enter Tryz.func68,Tryz.ntmps68
 go_wp2_with fail
 generalize w.alloc (.cells #[.bool false,.slice none 0 0] 35)=W0 at *
 refine (ZOf_any 1 (by decide) (by decide) W0).mono ?_
 rintro e w1 ⟨b1,a1,n1,c1,rfl,hI1,hn1,hx1⟩
 have hE1:=ext_alloc w1 (.cells #[.bool b1,.slice a1 n1 c1] 35)
 have bO:=zbx_new w1 b1 a1 n1 c1
 have Iow:=hI1.ext hE1
 have hR1:=hR0.ext (hx1.trans hE1)
 have hEw:=hE0.trans (hx1.trans hE1)
 have l1:w.heap.size<w1.heap.size:=(hR0.ext hx1).lt
 go_wp2_with fail
 generalize w1.alloc (.cells #[.bool b1,.slice a1 n1 c1] 35)=W1 at *
 generalize w1.heap.size=O at *
 refine (ZOf_any 2 (by decide) (by decide) W1).mono ?_
 rintro e w2 ⟨b2,a2,n2,c2,rfl,hI2,hn2,hx2⟩
 have hE2:=ext_alloc w2 (.cells #[.bool b2,.slice a2 n2 c2] 35)
 have bY:=zbx_new w2 b2 a2 n2 c2
 have IY:=hI2.ext hE2
 have IO2:=Iow.ext (hx2.trans hE2);have bO2:=bO.ext (hx2.trans hE2);have hR2:=hR1.ext (hx2.trans hE2)
 have hEw2:=hEw.trans (hx2.trans hE2)
 have l2:O<w2.heap.size:=(bO.ext hx2).lt
 go_wp2_with fail
 generalize w2.alloc (.cells #[.bool b2,.slice a2 n2 c2] 35)=W2 at *
 generalize w2.heap.size=Y at *
 have Hl:Hid (w.heap.size<O∧O<Y):=⟨l1,l2⟩
 clear l1 l2 hE0 hR0 hI1 hn1 hx1 hE1 bO Iow hR1 hEw hI2 hn2 hx2 hE2
 go_loopw [0] (fun nv wr=>∃ (k s e:Nat) (b:Bool) (a:Option Addr) (n c:Nat) (b':Bool) (a':Option Addr) (n' c':Nat),nv=.int .i64 k∧k≤N∧s+e*k=N∧e≤20000∧ZBx wr O b a n c∧IsZ wr b a n c ((2 ^ s:Nat):Int)∧ZBx wr Y b' a' n' c'∧IsZ wr b' a' n' c' ((2 ^ e:Nat):Int)∧ZRes wr w.heap.size∧Ext w wr) (fun nv _=>(intOf nv).toNat)
 case atStart=>exact ⟨N,0,1,b1,a1,n1,c1,b2,a2,n2,c2,rfl,Nat.le_refl _,by omega,by omega,bO2,IO2,bY,IY,hR2,hEw2⟩
 case round =>
  clear bO2 IO2 bY IY hR2 hEw2
  obtain ⟨k,s,e,b,a,n,c,b',a',n',c',rfl,hk,hse,he,hO,iO,hY,iY,hR,hE⟩:=hrel
  have HO:=Lib.hid hO;have HIO:=Lib.hid iO;have HY:=Lib.hid hY;have HIY:=Lib.hid iY;have HR:=Lib.hid hR;have HE:=Lib.hid hE;have Hse:=Lib.hid hse
  have d0:=hO.c0;have d1:=hO.c1;have d2:=hY.c0;have d3:=hY.c1
  have hns:=iO.len_of (pow2_len s);have hne:=iY.len_of (pow2_len e)
  by_cases hk0:0<k
  ·have ik:(0:Int)<(k:Int):=by omega
   have hee:e≤N:=by
    have h1:e*1≤e*k:=Nat.mul_le_mul_left _ hk0
    omega
   have hsN:s≤N:=by omega
   obtain ⟨h,hh⟩:∃ h,k / 2=h:=⟨_,rfl⟩
   have t1:(k:Int).tdiv 2=(h:Int):=by rw [Int.tdiv_eq_ediv_of_nonneg (by omega)];omega
   by_cases hod:k % 2=1
   ·have t2:(k:Int).tmod 2=1:=by rw [Int.tmod_eq_emod_of_nonneg (by omega)];omega
    have Hnew:Hid ((s+e)+(e+e)*h=N):=by
     show _=_
     have e1:k=2*h+1:=by omega
     rw [←Hse.out,e1,Nat.mul_add,Nat.mul_one,Nat.add_mul]
     have e2:e*(2*h)=e*h+e*h:=by rw [←Nat.mul_add];congr 1;omega
     omega
    have hhk:h<k:=by omega
    clear hse hO iO hY iY hR hE hh hod
    go_wp2_with fail
    refine (ZMul_any b b' a a' n c n' c' ((2 ^ s:Nat):Int) ((2 ^ e:Nat):Int) wr HIO.out HIY.out (by omega) (by omega)).mono ?_
    rintro er w5 ⟨b5,a5,n5,c5,rfl,hI5,hn5,hx5⟩
    have O5:=HO.out.ext hx5;have Y5:=HY.out.ext hx5
    have u0:=O5.c0;have u1:=O5.c1;have f0:=O5.f 0;have f1:=O5.f 1
    have Y6:=Y5.far (Rb:=O) (by have:=Hl.out;omega) (.bool b5) (.slice a5 n5 c5)
    have O6:=O5.own b5 a5 n5 c5
    have I6:=(hI5.cast (pow2_mul s e)).keepRes O5.row (.bool b5) (.slice a5 n5 c5)
    have J6:=(HIY.out.ext hx5).keepRes O5.row (.bool b5) (.slice a5 n5 c5)
    have R6:=(HR.out.ext hx5).far (Rb:=O) (by have:=Hl.out;omega) (.bool b5) (.slice a5 n5 c5)
    have HE6:=Lib.hid (zput2 (HE.out.trans hx5) (by have:=Hl.out;omega) (g:=O) (.bool b5) (.slice a5 n5 c5))
    have v0:=Y6.c0;have v1:=Y6.c1
    go_wp2_with fail
    generalize (w5.setCell ⟨O,0,none⟩ (.bool b5)).setCell ⟨O,1,none⟩ (.slice a5 n5 c5)=W6 at *
    clear u0 u1 f0 f1
    refine (ZMul_any b' b' a' a' n' c' n' c' ((2 ^ e:Nat):Int) ((2 ^ e:Nat):Int) W6 J6 J6 (by omega) (by omega)).mono ?_
    rintro er w7 ⟨b7,a7,n7,c7,rfl,hI7,hn7,hx7⟩
    have Y7:=Y6.ext hx7
    have u0:=Y7.c0;have u1:=Y7.c1;have f0:=Y7.f 0;have f1:=Y7.f 1
    go_wp2_with fail
    go_roundw
    case rel=>exact ⟨h,s+e,e+e,b5,a5,n5,c5,b7,a7,n7,c7,by go_num,by omega,Hnew.out,by omega,(O6.ext hx7).far (by have:=Hl.out;omega) _ _,(I6.ext hx7).keepRes Y7.row _ _,Y7.own _ _ _ _,(hI7.cast (pow2_mul e e)).keepRes Y7.row _ _,(R6.ext hx7).far (by have:=Hl.out;omega) _ _,zput2 (HE6.out.trans hx7) (by have:=Hl.out;omega) _ _⟩
    case measure=>simp [intOf];omega
   ·have t2:(k:Int).tmod 2=0:=by rw [Int.tmod_eq_emod_of_nonneg (by omega)];omega
    have Hnew:Hid (s+(e+e)*h=N):=by
     show _=_
     have e1:k=2*h:=by omega
     rw [←Hse.out,e1,Nat.add_mul]
     have e2:e*(2*h)=e*h+e*h:=by rw [←Nat.mul_add];congr 1;omega
     omega
    have hhk:h<k:=by omega
    clear hse hO iO hY iY hR hE hh hod
    go_wp2_with fail
    refine (ZMul_any b' b' a' a' n' c' n' c' ((2 ^ e:Nat):Int) ((2 ^ e:Nat):Int) wr HIY.out HIY.out (by omega) (by omega)).mono ?_
    rintro er w7 ⟨b7,a7,n7,c7,rfl,hI7,hn7,hx7⟩
    have Y7:=HY.out.ext hx7
    have u0:=Y7.c0;have u1:=Y7.c1;have f0:=Y7.f 0;have f1:=Y7.f 1
    go_wp2_with fail
    go_roundw
    case rel=>exact ⟨h,s,e+e,b,a,n,c,b7,a7,n7,c7,by go_num,by omega,Hnew.out,by omega,(HO.out.ext hx7).far (by have:=Hl.out;omega) _ _,(HIO.out.ext hx7).keepRes Y7.row _ _,Y7.own _ _ _ _,(hI7.cast (pow2_mul e e)).keepRes Y7.row _ _,(HR.out.ext hx7).far (by have:=Hl.out;omega) _ _,zput2 (HE.out.trans hx7) (by have:=Hl.out;omega) _ _⟩
    case measure=>simp [intOf];omega
  ·obtain rfl:k=0:=by omega
   have hsN:s=N:=by omega
   have HsN:=Lib.hid hsN
   have k0:=hR.c0;have k1:=hR.c1;have f0:=hR.f 0;have f1:=hR.f 1
   have hnn:n≤10001:=by omega
   clear hse hO iO hY iY hR hE hsN
   go_wp2_with fail
   exact bodyPost_ret (v:=.agg #[.bool b,.slice a n c]) (by simp [results,Tryz.results68,go_sem,k0,k1]) rfl ⟨b,a,n,c,rfl,(HIO.out.cast (by rw [HsN.out])).keepRes HR.out.row _ _,hnn,zput2 HE.out (Nat.le_refl _) _ _⟩
theorem stepK_storeZ {ops:Array Oper} {o:Oper} {a:Act} {K:Act→World→Prop} {Q:Exit→Act→World→Prop} {E:Prop} {w:World} (hgd:o.guard=none) (hd:o.dst=none) (p x:Operand)
  (ho:o.op=.store 35 p x) (b off:Nat) (s:Bool) (l:Option Addr) (n c:Nat) (u0 u1:Value) (hp:a.eval p=.pointer (some ⟨b,off,none⟩)) (hx:a.eval x=.agg #[.bool s,.slice l n c])
  (h0:w.cell? ⟨b,off,none⟩=some u0) (h1:w.cell? ⟨b,off+1,none⟩=some u1) (f0:w.frozen? ⟨b,off,none⟩=false) (f1:w.frozen? ⟨b,off+1,none⟩=false)
  (h:K a ((w.setCell ⟨b,off,none⟩ (.bool s)).setCell ⟨b,off+1,none⟩ (.slice l n c))) :
  if Region.wanted o (yielded ops a.tmps)=true then Oper.wp Tryz.prog o a w K Q else E:=by
 have hw:Region.wanted o (yielded ops a.tmps)=true:=by simp [Region.wanted,hgd]
 rw [if_pos hw]
 obtain ⟨od,oo,ot,opp,oa,og⟩:=o
 simp only at ho hd
 subst ho hd
 have HH:=Lib.hid h
 clear h
 unfold Oper.wp execOp
 simp only [hp,hx]
 go_simp
 exact HH.out
def mlN (f:Nat→Int) (c:Int) (j:Nat):Nat→Int:=fun i=>if i<j then f i*c else f i
theorem mlN_step (f:Nat→Int) (c:Int) (j i:Nat):updN (mlN f c j) j (f j*c) i=mlN f c (j+1) i:=by
 unfold updN mlN
 by_cases e:i=j
 ·subst e;simp
 ·rw [if_neg e]
  by_cases h:i<j
  ·rw [if_pos h,if_pos (by omega)]
  ·rw [if_neg h,if_neg (by omega)]
theorem ZBx.chz {w w':World} {g k:Nat} {b:Bool} {a:Option Addr} {n c:Nat} (h:ZBx w k b a n c) (ch:ChZ g w w') (hne:k≠g):ZBx w' k b a n c:=⟨ch.row h.row hne⟩
theorem Qto_any (ca:Array Value) (f:Nat→Int) (d D:Nat) (w:World) (h:ZCs w ca f (d:Int)) (P:Nat) (hP:P≤400000) (hA:∀ i,i<8→(f i).natAbs<2 ^ P) (hD:D≤10000) :
  Calls Tryz.prog 79 #[.agg ca,.int .i64 (D:Int)] w fun r w'=>∃ cr:Array Value,r=.returned (.agg cr)∧ZCs w' cr (fun i=>f i*((2 ^ (D-d):Nat):Int)) ((max D d:Nat):Int)∧Ext w w':=by
 obtain ⟨H,hH⟩:∃ H,w.heap.size=H:=⟨_,rfl⟩
 obtain ⟨U,hU⟩:∃ U,(w.alloc (.cells ca 38)).alloc (.cells zeroR 38)=U:=⟨_,rfl⟩
 have E0:Ext w U:=by rw [←hU];exact (Ext.alloc _ _).trans (Ext.alloc _ _)
 have V0:ZVar U H f (d:Int):=by rw [←hU,←hH];exact h.box.ext (Ext.alloc _ _)
 have Z0:ZVar U (H+1) (fun _=>0) 0:=by
  have:=(zcs_zero (w.alloc (.cells ca 38))).box
  rw [←hU,←hH]
  simpa using this
 have HU:=Lib.hid hU;have HH:=Lib.hid hH;have HP:=Lib.hid hP;have HA:=Lib.hid hA;have HD:=Lib.hid hD;have HV0:=Lib.hid V0;have HZ0:=Lib.hid Z0;have HE0:=Lib.hid E0
 clear hU hH V0 Z0 E0 h hP hA hD
 go_enter Tryz.func79,Tryz.ntmps79
 go_upto_region 1 with fail
 rw [HU.out,HH.out]
 clear HU
 have x16:=HV0.out.gete.1
 by_cases hlt:d<D
 ·have q1:(d:Int)<(D:Int):=by omega
  obtain ⟨N,hN⟩:∃ N,D-d=N:=⟨_,rfl⟩
  have wN:IntKind.i64.wrap ((D:Int)-(d:Int))=(N:Int):=by have:=HD.out;rw [IntKind.wrap_i64];omega
  have HPw:=Lib.hid (ZPow2_any N (by have:=HD.out;omega))
  have HN:=Lib.hid hN;have Hmx:=Lib.hid (show max D d=D by omega)
  clear hN hlt
  go_upto_region 2 with fail
  go_wp2_with fail
  refine (HPw.out _).mono ?_
  rintro r w1 ⟨bp,ap,np,cp,rfl,hIp,hnp,hx1⟩
  clear x16 q1 wN HPw
  have eA:=Ext.alloc w1 (.cells #[.bool bp,.slice ap np cp] 35)
  have bx:=zbx_new w1 bp ap np cp
  have hG:=Nat.lt_of_lt_of_le HZ0.out.lt hx1.size
  have hIp2:=hIp.ext eA
  have hV1:=(HV0.out.ext hx1).ext eA;have hZ1:=(HZ0.out.ext hx1).ext eA;have hE1:=(HE0.out.trans hx1).trans eA
  obtain ⟨U1,hU1⟩:∃ U1,w1.alloc (.cells #[.bool bp,.slice ap np cp] 35)=U1:=⟨_,rfl⟩
  obtain ⟨G,hGG⟩:∃ G,w1.heap.size=G:=⟨_,rfl⟩
  rw [hU1] at bx hIp2 hV1 hZ1 hE1
  rw [hGG] at bx hG
  have HU1:=Lib.hid hU1;have HGG:=Lib.hid hGG;have HG:=Lib.hid hG;have Hnp:=Lib.hid hnp
  have Hst:=Lib.hid (show ZVar U1 H (mlN f ((2 ^ N:Nat):Int) 0) (d:Int)∧ZVar U1 (H+1) (fun _=>0) 0∧ZBx U1 G bp ap np cp∧IsZ U1 bp ap np cp ((2 ^ N:Nat):Int)∧Ext w U1 from ⟨hV1.congr fun i _=>by simp [mlN],hZ1,bx,hIp2,hE1⟩)
  clear eA bx hG hIp2 hV1 hZ1 hE1 hU1 hGG hIp hx1 hnp HV0 HZ0 HE0
  go_wp2_with fail
  rw [HU1.out,HGG.out]
  clear HU1 HGG
  go_loopg [6] 8 (fun kk s6 wr=>∃ j:Nat,s6=.int .i64 (j:Int)∧j≤8∧8-j=kk∧ZVar wr H (mlN f ((2 ^ N:Nat):Int) j) (d:Int)∧ZVar wr (H+1) (fun _=>0) 0∧ZBx wr G bp ap np cp∧IsZ wr bp ap np cp ((2 ^ N:Nat):Int)∧Ext w wr)
  case atStart=>exact ⟨0,rfl,by omega,by omega,Hst.out⟩
  case round =>
   clear Hst
   obtain ⟨j,rfl,hj,hjk,hV,hZ,hB,hI,hE⟩:=hrel
   obtain ⟨wo,rfl⟩:∃ wo:World,wo=wr:=⟨_,rfl⟩
   by_cases hj8:j=8
   ·subst hj8
    have y16:=hV.gete.1;have g16:=hV.gete.2
    obtain ⟨hs,hch⟩:=hV.sete (D:Int)
    have hZ':=hZ.chz hch hV.no (by omega);have hE':=hch.ext hE (by rw [HH.out];exact Nat.le_refl _)
    obtain ⟨W,hW⟩:∃ W,wo.setCell ⟨H,16,none⟩ (.int .i64 (D:Int))=W:=⟨_,rfl⟩
    rw [hW] at hs hZ' hE'
    have HW:=Lib.hid hW
    clear hW hch hV hZ hB hI hE
    go_upto_region 8 with fail
    rw [HW.out]
    clear HW y16 g16
    obtain ⟨cr,hr,hc⟩:=hs
    have hinf:(Tryz.prog.info? 38).map (·.size)=some cr.size:=by rw [hc.1];exact zR_info
    obtain ⟨c1,hr1,hs1,hone,_,rr,hzz,hE2⟩:=fin_rm hc hZ' hE' (by rw [HH.out];omega)
    have Hend:=Lib.hid (show ZCs (W.setRow (H+1) cr) cr (fun i=>f i*((2 ^ (D-d):Nat):Int)) ((max D d:Nat):Int)∧Ext w (W.setRow (H+1) cr) from by
     rw [Hmx.out,HN.out]
     exact ⟨hzz.congr fun i hi=>by unfold mlN;rw [if_pos hi],hE2⟩)
    clear hc hZ' hE' hzz hE2
    go_wp2_with (first
     | refine wpList_load_row rfl 38 _ rfl (H) rfl 38 _ (0,0) _ hr Tryz.underlying38 rfl hinf ?_
     | refine wpList_store_row rfl 38 _ _ rfl (H+1) cr rfl rfl 38 _ hr1 hinf hs1 hone ?_)
    refine bodyPost_ret (v:=.agg cr) ?_ rfl ⟨_,rfl,Hend.out⟩
    exact results_cell_row rfl _ _ (H+1) _ _ _ _ rfl rr Tryz.underlying38 rfl hinf
   have hlt:j<8:=by omega
   have q1:(j:Int)<8:=by omega
   have q0:(0:Int)≤(j:Int):=by omega
   have wk:IntKind.i64.wrap ((j:Int)+1)=((j+1:Nat):Int):=by rw [IntKind.wrap_i64];omega
   have Hj1:=Lib.hid (show j+1≤8 by omega);have Hlt:=Lib.hid hlt;have Hjk:=Lib.hid hjk
   obtain ⟨b1,a1,n1,c1,y0,y1,_,_,hI1⟩:=hV.get j hlt
   have hI2:=hI1.cast (show mlN f ((2 ^ N:Nat):Int) j j=f j by simp [mlN])
   have hn:n1≤P:=hI2.bits (HA.out j hlt)
   have l0:=hB.c0;have l1:=hB.c1
   have lH:=hV.lt;have lG:=hB.lt
   have HMu:=Lib.hid (fun wx (hx:Ext wo wx)=>ZMul_any b1 bp a1 ap n1 c1 np cp (f j) ((2 ^ N:Nat):Int) wx (hI2.ext hx) (hI.ext hx) (by have:=HP.out;omega) (by have:=Hnp.out;omega))
   have HV:=Lib.hid hV;have HZ:=Lib.hid hZ;have HB:=Lib.hid hB;have HI:=Lib.hid hI;have HE:=Lib.hid hE
   clear hI1 hI2 hn hV hZ hB hI hE hj8 hj hlt hjk
   go_upto_region 6 with fail
   have hd0:Ext wo wo.drew:=Below.drew (Ext.refl _)
   refine wp_region_K 9 (fun w'=>(w'.cell? ⟨H,j*2,none⟩=some (.bool b1)∧w'.cell? ⟨H,j*2+1,none⟩=some (.slice a1 n1 c1))∧w'.cell? ⟨G,0,none⟩=some (.bool bp)∧w'.cell? ⟨G,1,none⟩=some (.slice ap np cp)) (by kernel_rfl) ?_
   show anyK _ _ _ _ _ _ 10 #[false,false,false,false,false,false,false,false,false,false] _ _
   have hHeld:(wo.drew.cell? ⟨H,j*2,none⟩=some (.bool b1)∧wo.drew.cell? ⟨H,j*2+1,none⟩=some (.slice a1 n1 c1))∧wo.drew.cell? ⟨G,0,none⟩=some (.bool bp)∧wo.drew.cell? ⟨G,1,none⟩=some (.slice ap np cp):=⟨⟨cellKeep hd0 lH y0,cellKeep hd0 lH y1⟩,cellKeep hd0 lG l0,cellKeep hd0 lG l1⟩
   refine anyK_take (i:=0) (v:=?_) rfl (by kernel_rfl) (by kernel_rfl) (by kernel_rfl) (N:=10) (by kernel_rfl) (by kernel_rfl) (by kernel_rfl) (fun _ _ _ h=>h) (Or.inl ⟨by rfl,?_⟩) hHeld ?_
   rotate_left 1
   ·intro w hSw
    go_simp
    try with_reducible rfl
   show anyK _ _ _ _ _ _ _ _ (Act.put _ (some 20) _) _
   simp only [Act.put,List.setIfInBounds_toArray,List.set_cons_zero,List.set_cons_succ]
   refine anyK_take (i:=1) (v:=?_) rfl (by kernel_rfl) (by kernel_rfl) (by kernel_rfl) (N:=10) (by kernel_rfl) (by kernel_rfl) (by kernel_rfl) (fun _ _ _ h=>h) (Or.inl ⟨by rfl,?_⟩) hHeld ?_
   rotate_left 1
   ·intro w hSw
    go_simp
    try with_reducible rfl
   show anyK _ _ _ _ _ _ _ _ (Act.put _ (some 21) _) _
   simp only [Act.put,List.setIfInBounds_toArray,List.set_cons_zero,List.set_cons_succ]
   refine anyK_take (i:=2) (v:=?_) rfl (by kernel_rfl) (by kernel_rfl) (by kernel_rfl) (N:=10) (by kernel_rfl) (by kernel_rfl) (by kernel_rfl) (fun _ _ _ h=>h) (Or.inl ⟨by rfl,?_⟩) hHeld ?_
   rotate_left 1
   ·intro w hSw
    go_simp
    try with_reducible rfl
   show anyK _ _ _ _ _ _ _ _ (Act.put _ (some 22) _) _
   simp only [Act.put,List.setIfInBounds_toArray,List.set_cons_zero,List.set_cons_succ]
   refine anyK_take (i:=3) (v:=?_) rfl (by kernel_rfl) (by kernel_rfl) (by kernel_rfl) (N:=10) (by kernel_rfl) (by kernel_rfl) (by kernel_rfl) (fun _ _ _ h=>h) (Or.inl ⟨by rfl,?_⟩) hHeld ?_
   rotate_left 1
   ·intro w hSw
    go_simp
    try with_reducible rfl
   show anyK _ _ _ _ _ _ _ _ (Act.put _ (some 23) _) _
   simp only [Act.put,List.setIfInBounds_toArray,List.set_cons_zero,List.set_cons_succ]
   refine anyK_take (i:=4) (v:=?_) rfl (by kernel_rfl) (by kernel_rfl) (by kernel_rfl) (N:=10) (by kernel_rfl) (by kernel_rfl) (by kernel_rfl) (fun _ _ _ h=>h) (Or.inl ⟨by rfl,?_⟩) hHeld ?_
   rotate_left 1
   ·intro w hSw
    go_simp
    try with_reducible rfl
   show anyK _ _ _ _ _ _ _ _ (Act.put _ (some 24) _) _
   simp only [Act.put,List.setIfInBounds_toArray,List.set_cons_zero,List.set_cons_succ]
   refine anyK_take (i:=5) (v:=?_) rfl (by kernel_rfl) (by kernel_rfl) (by kernel_rfl) (N:=10) (by kernel_rfl) (by kernel_rfl) (by kernel_rfl) (fun _ _ _ h=>h) (Or.inl ⟨by rfl,?_⟩) hHeld ?_
   rotate_left 1
   ·intro w hSw
    go_simp
    try with_reducible rfl
   show anyK _ _ _ _ _ _ _ _ (Act.put _ (some 25) _) _
   simp only [Act.put,List.setIfInBounds_toArray,List.set_cons_zero,List.set_cons_succ]
   refine anyK_take (i:=7) (v:=?_) rfl (by kernel_rfl) (by kernel_rfl) (by kernel_rfl) (N:=10) (by kernel_rfl) (by kernel_rfl) (by kernel_rfl) (fun _ _ _ h=>h) (Or.inl ⟨by rfl,?_⟩) hHeld ?_
   rotate_left 1
   ·intro w hSw
    go_simp
    try with_reducible rfl
   show anyK _ _ _ _ _ _ _ _ (Act.put _ (some 27) _) _
   simp only [Act.put,List.setIfInBounds_toArray,List.set_cons_zero,List.set_cons_succ]
   clear hHeld
   refine anyK_one (i:=6) (by kernel_rfl) rfl (fun Kk hKk=>?_)
   go_simp
   (go_at_call 82;refine (HMu.out wo.drew hd0).mono ?_;rintro e w3 ⟨b3,a3,n3,c3,rfl,hI3,_,hx3⟩)
   have he3:=hd0.trans hx3
   go_wp2_with fail
   refine hKk.out _ _ (fun _=>⟨⟨cellKeep he3 lH y0,cellKeep he3 lH y1⟩,cellKeep he3 lG l0,cellKeep he3 lG l1⟩) ?_
   clear hKk Kk
   simp only [List.setIfInBounds_toArray,List.set_cons_zero,List.set_cons_succ]
   have hHeld:(w3.cell? ⟨H,j*2,none⟩=some (.bool b1)∧w3.cell? ⟨H,j*2+1,none⟩=some (.slice a1 n1 c1))∧w3.cell? ⟨G,0,none⟩=some (.bool bp)∧w3.cell? ⟨G,1,none⟩=some (.slice ap np cp):=⟨⟨cellKeep he3 lH y0,cellKeep he3 lH y1⟩,cellKeep he3 lG l0,cellKeep he3 lG l1⟩
   refine anyK_take (i:=8) (v:=?_) rfl (by kernel_rfl) (by kernel_rfl) (by kernel_rfl) (N:=10) (by kernel_rfl) (by kernel_rfl) (by kernel_rfl) (fun _ _ _ h=>h) (Or.inl ⟨by rfl,?_⟩) hHeld ?_
   rotate_left 1
   ·intro w hSw
    go_simp
    try with_reducible rfl
   show anyK _ _ _ _ _ _ _ _ (Act.put _ (some 28) _) _
   simp only [Act.put,List.setIfInBounds_toArray,List.set_cons_zero,List.set_cons_succ]
   clear hHeld
   have hV2:=HV.out.ext he3
   obtain ⟨_,_,_,_,z0,z1,fz0,fz1,_⟩:=hV2.get j Hlt.out
   obtain ⟨hs,hch⟩:=hV2.set j Hlt.out hI3
   refine anyK_one (i:=9) (by kernel_rfl) rfl (fun Kk hKk=>?_)
   refine stepK_storeZ rfl rfl _ _ rfl H (j*2) b3 a3 n3 c3 _ _ rfl rfl z0 z1 fz0 fz1 ?_
   refine hKk.out _ _ (fun h=>Bool.noConfusion (show true=false from h)) ?_
   clear hKk Kk
   simp only [List.setIfInBounds_toArray,List.set_cons_zero,List.set_cons_succ]
   refine anyK_done (by kernel_rfl) ?_ _
   have Hend:=Lib.hid (show ZVar ((w3.setCell ⟨H,j*2,none⟩ (.bool b3)).setCell ⟨H,j*2+1,none⟩ (.slice a3 n3 c3)) H (mlN f ((2 ^ N:Nat):Int) (j+1)) (d:Int)∧ZVar ((w3.setCell ⟨H,j*2,none⟩ (.bool b3)).setCell ⟨H,j*2+1,none⟩ (.slice a3 n3 c3)) (H+1) (fun _=>0) 0∧ZBx ((w3.setCell ⟨H,j*2,none⟩ (.bool b3)).setCell ⟨H,j*2+1,none⟩ (.slice a3 n3 c3)) G bp ap np cp∧IsZ ((w3.setCell ⟨H,j*2,none⟩ (.bool b3)).setCell ⟨H,j*2+1,none⟩ (.slice a3 n3 c3)) bp ap np cp ((2 ^ N:Nat):Int)∧Ext w ((w3.setCell ⟨H,j*2,none⟩ (.bool b3)).setCell ⟨H,j*2+1,none⟩ (.slice a3 n3 c3)) from
    ⟨hs.congr fun i _=>mlN_step f _ j i,(HZ.out.ext he3).chz hch hV2.no (by omega),(HB.out.ext he3).chz hch (by have:=HG.out;omega),(HI.out.ext he3).chz hch hV2.no,hch.ext (HE.out.trans he3) (by rw [HH.out];exact Nat.le_refl _)⟩)
   clear hs hch hV2 hI3 hx3 he3 hd0 HMu HV HZ HB HI HE y0 y1 l0 l1 lH lG z0 z1 fz0 fz1
   generalize ((w3.setCell ⟨H,j*2,none⟩ (.bool b3)).setCell ⟨H,j*2+1,none⟩ (.slice a3 n3 c3))=V at *
   go_wp2_with fail
   go_roundg (8-(j+1))
   case measure=>have:=Hjk.out;have:=Hj1.out;omega
   case rel=>exact ⟨j+1,rfl,Hj1.out,rfl,Hend.out⟩
 ·have q1:¬ (d:Int)<(D:Int):=by omega
  have Hmx:=Lib.hid (show max D d=d by omega);have HN:=Lib.hid (show D-d=0 by omega)
  clear hlt
  obtain ⟨cr,hr,hc⟩:=HV0.out
  have hinf:(Tryz.prog.info? 38).map (·.size)=some cr.size:=by rw [hc.1];exact zR_info
  obtain ⟨c1,hr1,hs1,hone,_,rr,hzz,hE2⟩:=fin_rm hc HZ0.out HE0.out (by rw [HH.out];omega)
  have Hend:=Lib.hid (show ZCs (U.setRow (H+1) cr) cr (fun i=>f i*((2 ^ (D-d):Nat):Int)) ((max D d:Nat):Int)∧Ext w (U.setRow (H+1) cr) from by
   rw [Hmx.out,HN.out]
   exact ⟨hzz.congr fun i hi=>by simp,hE2⟩)
  clear hc hzz hE2 HV0 HZ0 HE0
  go_wp2_with (first
   | refine wpList_load_row rfl 38 _ rfl (H) rfl 38 _ (0,0) _ hr Tryz.underlying38 rfl hinf ?_
   | refine wpList_store_row rfl 38 _ _ rfl (H+1) cr rfl rfl 38 _ hr1 hinf hs1 hone ?_)
  refine bodyPost_ret (v:=.agg cr) ?_ rfl ⟨_,rfl,Hend.out⟩
  exact results_cell_row rfl _ _ (H+1) _ _ _ _ rfl rr Tryz.underlying38 rfl hinf
end Go.Proofs.YtiicfpdiehgikaaGreatDoor
