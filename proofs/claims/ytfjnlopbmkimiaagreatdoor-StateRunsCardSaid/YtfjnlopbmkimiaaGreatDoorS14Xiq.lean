/-
  Steps of a walk over a state: stores and loads of one amplitude; bits of places. The reference: a number over the root of two (RHalf); how deep it is (RDepth). Amid a gate's work: the state, what is laid so far, the operation's variable. The reference: what an outcome leaves. A state of the reference whose digits lie in a class of blocks: what is written outside the class leaves it as it is; the class may be widened. A state that is older than a block lies outside it. The reference: is an operation's condition met.
-/
import Derived.Test.YtfjnlopbmkimiaaGreatDoorS13Cc
namespace Go.Proofs.YtfjnlopbmkimiaaGreatDoor
set_option maxRecDepth 100000
set_option maxHeartbeats 4000000
open Go.RowKit
variable {Qc:Nat->Prop}
open Go.RowKit
theorem stepK_storeM {ops:Array Oper} {o:Oper} {a:Act} {K:Act->World->Prop} {Q:Exit->Act->World->Prop} {E:Prop} {w:World} (hgd:o.guard=none) (hd:o.dst=none) (ty:TypeId) (p x:Operand)
  (ho:o.op=.store ty p x) (b off:Nat) (cells:Array Value) (hp:a.eval p=.pointer (some ⟨b,off,none⟩)) (hx:a.eval x=.agg cells) (ht:w.there b off cells.size)
  (hi:(Tryz.prog.info? ty).map (·.size)=some cells.size) (h1:cells.all (·.oneCell')=true) (h:K a (w.setCells b off cells.toList)) :
  if Region.wanted o (yielded ops a.tmps)=true then Oper.wp Tryz.prog o a w K Q else E:=by
 have hw:Region.wanted o (yielded ops a.tmps)=true:=by simp [Region.wanted,hgd]
 rw [if_pos hw];refine wp_store_mid ty p x ho b off cells hp hx ht hi h1 ?_;rw [hd];exact h
theorem RmA.amp {w:World} {c:Array Value} {z:Nm} {P' E' P E N:Nat} (h:RmA Qc w c z P' E') (ha:Amp N z) (hP:2*N+1<=P) (hE:N<=E):RmA Qc w c z P E :=
 ⟨h.anti,h.low,fun k=>Nat.lt_of_lt_of_le (ha.bd.abs k) (Nat.pow_le_pow_right (by decide) hP),Nat.le_trans ha.bd.1 hE,h.val⟩
theorem ons_fl {x:Nat} {q:Int} {l:List Int} (h:∀ c ∈ l,c.toNat≠q.toNat):ons (fl x q) l=ons x l:=by
 unfold ons;rw [Bool.eq_iff_iff,List.all_eq_true,List.all_eq_true]
 constructor
 ·intro g c hc;have:=g c hc;rw [bt_fl_ne (h c hc)] at this;exact this
 ·intro g c hc;rw [bt_fl_ne (h c hc)];exact g c hc
theorem xor_i64 (x y:Nat) (hx:x<1048576) (hy:y<1048576):bits .xor .i64 (x:Int) (y:Int)=((x ^^^ y:Nat):Int):=by
 show IntKind.i64.wrap ((BitVec.ofInt 64 (x:Int) ^^^ BitVec.ofInt 64 (y:Int)).toNat:Int)=_
 have h1:=ofInt_toNat (x:Int);have h2:=ofInt_toNat (y:Int)
 have h3:(BitVec.ofInt 64 (x:Int)).toNat=x:=by omega
 have h4:(BitVec.ofInt 64 (y:Int)).toNat=y:=by omega
 have h5:x ^^^ y<2 ^ 20:=Nat.xor_lt_two_pow hx hy;rw [BitVec.toNat_xor,h3,h4,IntKind.wrap_i64];omega
theorem RsAt.at {w:World} {b n:Nat} {s:Nat->Nm} {P E:Nat} (h:RsAt Qc w b n s P E) {x:Nat} (hx:x<n):∃ cl:List Value,w.rangeAt b (x*17) cl/\RmA Qc w cl.toArray (s x) P E/\cl.length=17:=by
 obtain ⟨c,h1,h2,_⟩:=h.get hx;refine ⟨c.toList,h1,by rw [Array.toArray_toList];exact h2,?_⟩;have:=h2.size
 simpa using this
theorem RsAt.there {w:World} {b n:Nat} {s:Nat->Nm} {P E:Nat} (h:RsAt Qc w b n s P E) {x:Nat} (hx:x<n):w.there b (x*17) 17:=by
 obtain ⟨c,_,_,h3⟩:=h.get hx;exact h3
theorem range_keep {w w':World} {b off:Nat} {l:List Value} (h:w.rangeAt b off l) (hb:b<w.heap.size) (k:Ext w w'):w'.rangeAt b off l:=fun j v hv=>by
 have:=h j v hv;exact (World.cell?_of_block (a:=⟨b,off+j,none⟩) (k.block b hb)).trans this
variable {Qc:Nat->Prop}
open Go.RowKit
theorem hf_sq {x:Nm} (h:Anti x.a):nHf x=⟨sqR x.a,x.e+1⟩:=by unfold nHf;rw [sqR_add h]
theorem eq_hf {x z:Nm} (h:Anti x.a) (q:EqN z (nSq x)):EqN ⟨z.a,z.e+1⟩ (nHf x):=fun k=>by
 have:=q k;rw [hf_sq h];simp only [nSq] at this ⊢
 show z.a k*2 ^ (x.e+1)=sqR x.a k*2 ^ (z.e+1)
 rw [Int.pow_succ,Int.pow_succ,<-Int.mul_assoc,<-Int.mul_assoc,this]
theorem eq_hf0 {x z:Nm} (h:Anti x.a) (q:EqN z (nSq x)) (hz:∀ k,z.a k=0):EqN z (nHf x):=fun k=>by
 have h1:=q.zero.1 hz k;rw [hf_sq h]
 show z.a k*2 ^ (x.e+1)=sqR x.a k*2 ^ z.e
 have h2:sqR x.a k=0:=h1;rw [hz,h2];simp
theorem QHalf_nm (ca:Array Value) (x:Nm) (P E:Nat) (w:World) (h:RmA Qc w ca x P E) (hP:P+E+1<=400000) (hE:E<=10000) (hL:LimQ Qc w) :
  Calls Tryz.prog 68 #[.agg ca] w fun r w'=>∃ (cr:Array Value) (z:Nm),r=.returned (.agg cr)/\RmA Qc w' cr z (P+E+1) (E+1)/\EqN z (nHf x)/\Ext w w':=by
 obtain ⟨H,hH⟩:∃ H,w.heap.size=H:=⟨_,rfl⟩;obtain ⟨U,hU⟩:∃ U,(w.alloc (.cells ca 48)).alloc (.cells zeroR 48)=U:=⟨_,rfl⟩
 have E0:Ext w U:=by rw [<-hU];exact (Ext.alloc _ _).trans (Ext.alloc _ _)
 have hrA:U.heap[H]?=some (.cells ca 48 (0,0)):=by rw [<-hU,<-hH];exact ((Ext.alloc _ _).block _ (gS.1 (heap_alloc_new w (.cells ca 48))).1).trans (heap_alloc_new w _)
 have Z0:ZVar Qc U (H+1) (fun _=>0) 0:=by
  have:=(zcs_zero (Qc:=Qc) (w.alloc (.cells ca 48))).box;rw [<-hU,<-hH]
  simpa using this
 have lA:=(gS.1 hrA).1;have HT:=Lh (fun (k:Int) (wx:World) (hx:Ext U wx)=>QTurn_nm ca x P E k wx (h.ext (E0.trans hx)) (by omega));have HLU:=Lh (hL.grow E0.size);clear hL;have hi1:=h.info;have Hant:=Lh h.anti;have HU:=Lh hU;have HH:=Lh hH;have HZ0:=Lh Z0;have HE0:=Lh E0;have HP:=Lh hP;have HEE:=Lh hE;clear hU hH Z0 E0 h hP hE
 go_enter Tryz.func68,Tryz.ntmps68
 go_upto_region 1 with fail
 rw [HU.out,HH.out];clear HU
 go_cut [3] from 4 to 8 (fun s3 wx=>∃ (D:Nat) (c:Array Value) (z:Nm),s3=.pointer (some ⟨D,0,none⟩)/\wx.heap[D]?=some (.cells c 48 (0,0))/\RmA Qc wx c z (P+E+1) E/\EqN z (nSq x)/\U.heap.size<=D/\Ext U wx)
 case first =>
  have he0:Ext U U.drew:=Below.drew (Ext.refl _)
  have HS:∀ w',Ext U w'->w'.heap[H]?=some (.cells ca 48 (0,0)):=fun w' hx=>(hx.block _ lA).trans hrA
  refine wp_region_held (S:=fun w'=>w'.heap[H]?=some (.cells ca 48 (0,0))) (by kernel_rfl) ?_;generalize hops:(#[_,_,_,_,_,_,_]:Array Oper)=ops
  have hA0:IsAlloc Tryz.prog ops 5 3 48 zeroR:=by
   subst hops;exact ⟨_,rfl,rfl,fun _=>rfl,fun _ _=>by kernel_rfl⟩
  subst hops;refine (Flo1.start (W0:=U) (ty:=48) (z:=zeroR) (l:=(fun p=>#[false,false,false,false,false,p,false])) (fr:=(fun t=>⟨#[.agg ca,.pointer (some ⟨H,0,none⟩),.pointer (some ⟨H+1,0,none⟩),t,undef,undef,undef,undef,undef,undef,undef,undef,undef,undef,undef,undef,undef,undef],[]⟩)) (n:=6) ?_)
  refine Flo1.take HS he0 0 (.agg ca) rfl (by kernel_rfl) (fun p=>by cases p<;>kernel_rfl) (fun p=>by cases p<;>kernel_rfl) (fun _ _ _ h=>h) (fun t=>Or.inl ⟨by kernel_rfl,?_⟩) (fun p=>#[true,false,false,false,false,p,false]) (fun p=>by cases p<;>kernel_rfl) (fun t=>⟨#[.agg ca,.pointer (some ⟨H,0,none⟩),.pointer (some ⟨H+1,0,none⟩),t,.agg ca,undef,undef,undef,undef,undef,undef,undef,undef,undef,undef,undef,undef,undef],[]⟩) (fun _=>by kernel_rfl) ?_
  ·intro w hSw
   exact exec_load_row 48 _ rfl (H) rfl 48 _ (0,0) _ hSw Tryz.underlying48 rfl hi1
  refine Flo1.take HS he0 2 (.agg ca) rfl (by kernel_rfl) (fun p=>by cases p<;>kernel_rfl) (fun p=>by cases p<;>kernel_rfl) (fun _ _ _ h=>h) (fun t=>Or.inl ⟨by kernel_rfl,?_⟩) (fun p=>#[true,false,true,false,false,p,false]) (fun p=>by cases p<;>kernel_rfl) (fun t=>⟨#[.agg ca,.pointer (some ⟨H,0,none⟩),.pointer (some ⟨H+1,0,none⟩),t,.agg ca,undef,.agg ca,undef,undef,undef,undef,undef,undef,undef,undef,undef,undef,undef],[]⟩) (fun _=>by kernel_rfl) ?_
  ·intro w hSw
   exact exec_load_row 48 _ rfl (H) rfl 48 _ (0,0) _ hSw Tryz.underlying48 rfl hi1
  refine Flo1.call hA0 HS he0 1 rfl (fun p=>by cases p<;>kernel_rfl) (by kernel_rfl) (fun _ _=>by kernel_rfl) (fun _=>by kernel_rfl) 67 #[.agg ca,.int .i64 2] (fun _ _=>by kernel_rfl) (R:=fun v w'=>∃ c,v=.agg c/\RmA Qc w' c (nTr 2 x) P E) (fun wx hx=>(HT.out 2 wx (he0.trans hx)).mono ?_) (fun p=>#[true,true,true,false,false,p,false]) (fun p=>by cases p<;>kernel_rfl) (fun vv t=>⟨#[.agg ca,.pointer (some ⟨H,0,none⟩),.pointer (some ⟨H+1,0,none⟩),t,.agg ca,vv,.agg ca,undef,undef,undef,undef,undef,undef,undef,undef,undef,undef,undef],[]⟩) (fun _ _=>by kernel_rfl) ?_
  ·rintro e w' ⟨c,rfl,n,hx'⟩;exact ⟨_,rfl,⟨c,rfl,n⟩,hx'⟩
  rintro v w1x ⟨c5,rfl,n5⟩ hq1;have he1:=he0.trans hq1
  refine Flo1.call hA0 HS he1 3 rfl (fun p=>by cases p<;>kernel_rfl) (by kernel_rfl) (fun _ _=>by kernel_rfl) (fun _=>by kernel_rfl) 67 #[.agg ca,.int .i64 6] (fun _ _=>by kernel_rfl) (R:=fun v w'=>∃ c,v=.agg c/\RmA Qc w' c (nTr 6 x) P E) (fun wx hx=>(HT.out 6 wx (he1.trans hx)).mono ?_) (fun p=>#[true,true,true,true,false,p,false]) (fun p=>by cases p<;>kernel_rfl) (fun vv t=>⟨#[.agg ca,.pointer (some ⟨H,0,none⟩),.pointer (some ⟨H+1,0,none⟩),t,.agg ca,.agg c5,.agg ca,vv,undef,undef,undef,undef,undef,undef,undef,undef,undef,undef],[]⟩) (fun _ _=>by kernel_rfl) ?_
  ·rintro e w' ⟨c,rfl,n,hx'⟩;exact ⟨_,rfl,⟨c,rfl,n⟩,hx'⟩
  rintro v w2x ⟨c7,rfl,n7⟩ hq2;have he2:=he1.trans hq2
  refine Flo1.call hA0 HS he2 4 rfl (fun p=>by cases p<;>kernel_rfl) (by kernel_rfl) (fun _ _=>by kernel_rfl) (fun _=>by kernel_rfl) 101 #[.agg c5,.agg c7] (fun _ _=>by kernel_rfl) (R:=fun v w'=>∃ c z,v=.agg c/\RmA Qc w' c z (P+E+1) E/\EqN z (nAdd (nTr 2 x) (nNeg (nTr 6 x)))) (fun wx hx=>(QSub_nm c5 c7 (nTr 2 x) (nTr 6 x) P E wx ((n5.ext hq2).ext hx) (n7.ext hx) HP.out HEE.out (HLU.out.grow (he2.trans hx).size)).mono ?_) (fun p=>#[true,true,true,true,true,p,false]) (fun p=>by cases p<;>kernel_rfl) (fun vv t=>⟨#[.agg ca,.pointer (some ⟨H,0,none⟩),.pointer (some ⟨H+1,0,none⟩),t,.agg ca,.agg c5,.agg ca,.agg c7,vv,undef,undef,undef,undef,undef,undef,undef,undef,undef],[]⟩) (fun _ _=>by kernel_rfl) ?_
  ·rintro e w' ⟨c,z,rfl,n,q,hx'⟩;exact ⟨_,rfl,⟨c,z,rfl,n,q⟩,hx'⟩
  rintro v w3x ⟨c8,z8,rfl,n8,q8⟩ hq3;have he3:=he2.trans hq3;refine Flo1.done hA0 HS he3 (by kernel_rfl) (by kernel_rfl) (fun _ _=>by kernel_rfl) ?_;intro wy hy D hD;have hEy:=he3.trans hy;have n9:=n8.ext hy;obtain ⟨c1,hr1,hs1,hone,hinf,rr,hzz,hE'⟩:=fin_rm (w:=U) n9.val ⟨_,hD.2,zcs_zero (Qc:=Qc) wy⟩ hEy hD.1;refine anyH_one (i:=6) (by kernel_rfl) rfl (fun Kk hKk=>?_);refine stepK_storeR rfl rfl 48 _ _ rfl D c8 rfl rfl 48 _ hr1 hinf hs1 hone ?_;refine hKk.out _ _ (HS _ hE') ?_;clear hKk Kk;refine wpAnyH_done (by kernel_rfl) ?_ _
  go_wp2_with fail
  go_meet
  exact ⟨D,c8,z8,rfl,rr,⟨n9.anti,n9.low,n9.abs,n9.down,hzz⟩,q8.trans (n_sq x),hD.1,hE'⟩
 case rest =>
 obtain ⟨D,c,z,rfl,rD,nD,qD,hD,hxc⟩:=hcut;obtain ⟨wo,hwo⟩:∃ wo,wo=wc:=⟨_,rfl⟩;rw [<-hwo] at rD nD hxc ⊢;clear hwo;have lZ:=HZ0.out.lt;have iD:=nD.info;obtain ⟨X,hX⟩:∃ X:Nat->Int,(fun i:Nat=>z.a i)=X:=⟨_,rfl⟩;have hv:=nD.val;rw [hX] at hv;have HX:=Lh hX;have HnD:=Lh nD;have HqD:=Lh qD;have HrD:=Lh rD;have Hxc:=Lh hxc;have HD:=Lh (show ¬ D=H+1/\U.heap.size<=D by omega)
 by_cases hz:zeroN X
 ·have HQ:=Lh (QZero_any c X _ wo hv true (by simp [hz]))
  have Hz:=Lh hz;clear hv hz nD qD hxc hD lZ hX
  go_wp2_with (refine wpList_load_row rfl 48 _ rfl (D) rfl 48 _ (0,0) _ rD Tryz.underlying48 rfl iD ?_)
  refine HQ.out.mono ?_;rintro r w2 ⟨rfl,hx2⟩;have rD2:=(hx2.block _ (gS.1 HrD.out).1).trans HrD.out;have n2:=HnD.out.ext hx2;obtain ⟨c1,hr1,hs1,hone,hinf,rr,hzz,hE'⟩:=fin_rm n2.val (HZ0.out.ext (Hxc.out.trans hx2)) (HE0.out.trans (Hxc.out.trans hx2)) (by rw [HH.out];omega)
  have Hend:=Lh (show RmA Qc (w2.setRow (H+1) c) c z (P+E+1) (E+1)/\EqN z (nHf x)/\Ext w (w2.setRow (H+1) c) from
   ⟨⟨n2.anti,n2.low,n2.abs,Nat.le_succ_of_le n2.down,hzz⟩,eq_hf0 Hant.out HqD.out (zero_of_zeroN n2.anti (by rw [HX.out];exact Hz.out)),hE'⟩)
  clear hzz hE' hx2 HQ n2 rD
  go_wp2_with (first
   | refine wpList_load_row rfl 48 _ rfl (D) rfl 48 _ (0,0) _ rD2 Tryz.underlying48 rfl iD ?_
   | refine wpList_store_row rfl 48 _ _ rfl (H+1) c rfl rfl 48 _ hr1 hinf hs1 hone ?_)
  refine bodyPost_ret (v:=.agg c) ?_ rfl ⟨_,_,rfl,Hend.out⟩;exact results_cell_row rfl _ _ (H+1) _ _ _ _ rfl rr Tryz.underlying48 rfl hinf
 ·have HQ:=Lh (QZero_any c X _ wo hv false (by simp [hz]))
  clear hv hz nD qD hxc hD lZ hX
  go_wp2_with (refine wpList_load_row rfl 48 _ rfl (D) rfl 48 _ (0,0) _ rD Tryz.underlying48 rfl iD ?_)
  refine HQ.out.mono ?_;rintro r w2 ⟨rfl,hx2⟩;have rD2:=(hx2.block _ (gS.1 HrD.out).1).trans HrD.out;have n2:=HnD.out.ext hx2;have hV:ZVar Qc w2 D (fun i=>z.a i) (z.e:Int):=⟨c,rD2,n2.val⟩;have y16:=hV.gete.1;have g16:=hV.gete.2;obtain ⟨e1,he1⟩:∃ e1:Int,(z.e:Int)+1=e1:=⟨_,rfl⟩
  have wr:IntKind.i64.wrap ((z.e:Int)+1)=e1:=by have:=n2.down;have:=HEE.out;rw [IntKind.wrap_i64];omega
  obtain ⟨hV2,hC2⟩:=hV.sete e1;obtain ⟨w3,hw3⟩:∃ w3,w2.setCell ⟨D,16,none⟩ (.int .i64 e1)=w3:=⟨_,rfl⟩;rw [hw3] at hV2 hC2;have hX3:Ext U w3:=hC2.ext (Hxc.out.trans hx2) HD.out.2;obtain ⟨c3,r3,z3⟩:=hV2;rw [<-he1,show (z.e:Int)+1=((z.e+1:Nat):Int) by omega] at z3
  have i3:(Tryz.prog.info? 48).map (·.size)=some c3.size:=by rw [z3.1];exact zR_info
  have HQ3:=Lh (Qleast_any c3 _ (z.e+1) w3 z3 (P+E+1) (E+1) HP.out (fun i _=>HnD.out.abs i) (by have:=HnD.out.down;omega) (by have:=HEE.out;omega));have HX3:=Lh hX3;have Hw3:=Lh hw3;clear hX3 hw3 z3 hC2 hV n2 hx2 HQ rD he1
  go_upto_region 5 with fail
  rw [Hw3.out];clear Hw3 y16 g16 rD2
  go_wp2_with (refine wpList_load_row rfl 48 _ rfl (D) rfl 48 _ (0,0) _ r3 Tryz.underlying48 rfl i3 ?_)
  refine HQ3.out.mono ?_;rintro r w4 ⟨cr,y,rfl,hcr,hq4,hx4⟩;obtain ⟨c1,hr1,hs1,hone,hinf,rr,hzz,hE'⟩:=fin_rm hcr.val (HZ0.out.ext (HX3.out.trans hx4)) (HE0.out.trans (HX3.out.trans hx4)) (by rw [HH.out];omega)
  have Hend:=Lh (show RmA Qc (w4.setRow (H+1) cr) cr y (P+E+1) (E+1)/\EqN y (nHf x)/\Ext w (w4.setRow (H+1) cr) from
   ⟨⟨hcr.anti,hcr.low,hcr.abs,hcr.down,hzz⟩,(hq4.trans (EqN.of_eq (by rw [ext8_of HnD.out.anti]))).trans (eq_hf Hant.out HqD.out),hE'⟩)
  clear hcr hq4 hzz hE' hx4 HQ3 r3 i3
  go_wp2_with (refine wpList_store_row rfl 48 _ _ rfl (H+1) cr rfl rfl 48 _ hr1 hinf hs1 hone ?_)
  refine bodyPost_ret (v:=.agg cr) ?_ rfl ⟨_,_,rfl,Hend.out⟩;exact results_cell_row rfl _ _ (H+1) _ _ _ _ rfl rr Tryz.underlying48 rfl hinf
variable {Qc:Nat->Prop}
open Go.RowKit
structure GSt (Qc:Nat->Prop) (w wr:World) (H D b m:Nat) (c:Array Value) (s g:Nat->Nm) (P E:Nat):Prop where
 src:RsAt Qc wr b m s P E
 out:RsAt Qc wr D m g P E
 box:wr.heap[H]?=some (.cells c 60 (0,0))
 ext:Ext w wr
theorem GSt.more {w wr w':World} {H D b m:Nat} {c:Array Value} {s g:Nat->Nm} {P E:Nat} (h:GSt Qc w wr H D b m c s g P E) (k:Ext wr w'):GSt Qc w w' H D b m c s g P E :=
 ⟨h.src.ext k,h.out.ext k,(k.block _ (gS.1 h.box).1).trans h.box,h.ext.trans k⟩
theorem GSt.put {w wr:World} {H D b m:Nat} {c:Array Value} {s g g':Nat->Nm} {P E:Nat} (h:GSt Qc w wr H D b m c s g P E) {x:Nat} {cr:Array Value} {z:Nm} (hx:x<m) (hz:RmA Qc wr cr z P E) (h1:b≠D) (h2:H≠D) (hD:w.heap.size<=D)
  (hg:∀ y,g' y=if y=x then z else g y):GSt Qc w (wr.setCells D (x*17) cr.toList) H D b m c s g' P E:=by
 obtain ⟨k1,k2⟩:=h.out.set hx hz;exact ⟨h.src.chz k2 h.out.no h1,k1.congr (fun y _=>(hg y).symm),k2.row h.box h2,k2.ext h.ext hD⟩
theorem GSt.same {w wr:World} {H D b m:Nat} {c:Array Value} {s g g':Nat->Nm} {P E:Nat} (h:GSt Qc w wr H D b m c s g P E) (hg:∀ y,g' y=g y):GSt Qc w wr H D b m c s g' P E :=
 ⟨h.src,h.out.congr (fun y _=>(hg y).symm),h.box,h.ext⟩
theorem GSt.chz {w wr w':World} {H D b m g:Nat} {c:Array Value} {s f:Nat->Nm} {P E:Nat} (h:GSt Qc w wr H D b m c s f P E) (k:ChZ g wr w') (hg:NoI wr g) (h1:b≠g) (h2:D≠g) (h3:H≠g) (h4:w.heap.size<=g):GSt Qc w w' H D b m c s f P E :=
 ⟨h.src.chz k hg h1,h.out.chz k hg h2,k.row h.box h3,k.ext h.ext h4⟩
theorem GSt.cell {w wr:World} {H D b m:Nat} {c:Array Value} {s g:Nat->Nm} {P E:Nat} (h:GSt Qc w wr H D b m c s g P E) (i:Nat) {v:Value} (hv:c[i]?=some v):wr.cell? ⟨H,i,none⟩=some v:=by
 rw [cell_of_row wr H i c _ (0,0) h.box,hv]
theorem R_size:(Tryz.prog.info? 48).map (·.size)=some 17:=by kernel_rfl
theorem zero_iff {w:World} {c:Array Value} {x:Nm} {P E:Nat} (h:RmA Qc w c x P E):(zeroN fun i:Nat=>x.a i)↔x=nZ :=
 ⟨fun g=>zero_is h.low (zero_of_zeroN h.anti g),fun e i _=>by rw [e];rfl⟩
theorem fl_ne (x:Nat) (q:Int):fl x q≠x:=fun e=>by
 have:=bt_fl x q;rw [e] at this
 cases hb:bt x q<;>simp [hb] at this
theorem eq_z_add {z x:Nm} (hz:Low z) (hx:Low x) (h:EqN z (nAdd nZ x)):z=x:=(lw_one hz (h.trans (z_add x))).trans (lw_self hx)
variable {Qc:Nat->Prop}
open Go.RowKit
def op (q v:Int) (s:Nat->Nm) (j y:Nat):Nm:=if y<j then oc q v s y else nZ
theorem op_yes {q v:Int} {s:Nat->Nm} {j:Nat} (h:(if bt j q then (1:Int) else 0)=v) (y:Nat):op q v s (j+1) y=if y=j then s j else op q v s j y:=by
 unfold op
 by_cases e:y=j
 ·subst e
  rw [if_pos (Nat.lt_succ_self _),if_pos rfl];unfold oc;rw [if_pos h]
 ·rw [if_neg e]
  have e1:(y<j+1)=(y<j):=propext (by omega);simp only [e1]
theorem op_no {q v:Int} {s:Nat->Nm} {j:Nat} (h:¬ (if bt j q then (1:Int) else 0)=v) (y:Nat):op q v s (j+1) y=op q v s j y:=by
 unfold op
 by_cases e:y=j
 ·subst e
  rw [if_pos (Nat.lt_succ_self _),if_neg (Nat.lt_irrefl _)];unfold oc;rw [if_neg h]
 ·have e1:(y<j+1)=(y<j):=propext (by omega)
  simp only [e1]
theorem QOutcome_any (s:Nat->Nm) (m b cp qn:Nat) (v:Int) (P E:Nat) (w:World) (hS:RsAt Qc w b m s P E) (hm2:m<=4096) (hq:qn<=60) :
  Calls Tryz.prog 34 #[.slice (some ⟨b,0,none⟩) m cp,.int .i64 (qn:Int),.int .i64 v] w fun e w'=>∃ b',e=.returned (.slice (some ⟨b',0,none⟩) m m)/\RsAt Qc w' b' m (oc (qn:Int) v s) P E/\w.heap.size<=b'/\Ext w w':=by
 obtain ⟨H,hH⟩:∃ H,w.heap.size=H:=⟨_,rfl⟩
 have hbH:b<H:=by rw [<-hH];exact hS.lt
 have HS:=Lh hS;have Hm2:=Lh hm2;have HH:=Lh hH;have HbH:=Lh hbH;have Hb:=Lh (fun (j:Nat) (wx:World)=>bitOf_st j (qn:Int) wx (by omega) (by omega));clear hS hm2 hH hbH hq
 go_enter Tryz.func34,Tryz.ntmps34
 go_wp2_with (refine wpList_make_R (Qc:=Qc) w rfl _ _ rfl .i64 .i64 (m:Int) (m:Int) m rfl rfl rfl rfl (by have:=Hm2.out;omega) ?_;intro w1 hR hE1 hl1)
 rw [HH.out] at hR hl1 ⊢;have HG0:=Lh (show RsAt Qc w1 b m s P E/\RsAt Qc w1 H m (op (qn:Int) v s 0) P E/\Ext w w1 from ⟨HS.out.ext hE1,(hR P E).congr (fun y _=>by unfold op;rw [if_neg (Nat.not_lt_zero _)]),hE1⟩);clear hR hE1 hl1 HS
 go_loopg [8] m (fun kk s8 wr=>∃ j:Nat,s8=.int .i64 (j:Int)/\j<=m/\m-j=kk/\RsAt Qc wr b m s P E/\RsAt Qc wr H m (op (qn:Int) v s j) P E/\Ext w wr)
 case atStart=>exact ⟨0,rfl,by omega,by omega,HG0.out⟩
 case round =>
  obtain ⟨j,rfl,hj,hkk,hG⟩:=hrel;clear HG0;have HG:=Lh hG;have Hkk:=Lh hkk;clear hG hkk
  by_cases hjm:j=m
  ·have Hend:=Lh (show RsAt Qc wr H m (oc (qn:Int) v s) P E/\w.heap.size<=H/\Ext w wr from ⟨HG.out.2.1.congr (fun y hy=>by unfold op;rw [hjm,if_pos hy]),by rw [HH.out];exact Nat.le_refl _,HG.out.2.2⟩)
   have q1:¬ (j:Int)<(m:Int):=by omega
   clear hjm hj
   go_wp2_with fail
   go_ret
   exact ⟨_,rfl,Hend.out⟩
  have hlt:j<m:=by omega
  have q1:(j:Int)<(m:Int):=by omega
  have q0:(0:Int)<=(j:Int):=by omega
  have wk:IntKind.i64.wrap ((j:Int)+1)=((j+1:Nat):Int):=by rw [IntKind.wrap_i64];have:=Hm2.out;omega
  have Hlt:=Lh hlt;clear hjm hj hlt;obtain ⟨r,hr⟩:∃ r:Int,(if bt j (qn:Int) then (1:Int) else 0)=r:=⟨_,rfl⟩;have Hbj:=Lh (Hb.out j wr);rw [hr] at Hbj
  by_cases hrv:r=v
  ·subst hrv
   obtain ⟨cl,hcl,hRl,hln⟩:=HG.out.1.at Hlt.out
   have hil:(Tryz.prog.info? 48).map (·.size)=some cl.length:=by rw [hln];exact R_size
   have ht:wr.there H (j*17) cl.toArray.size:=by rw [hRl.size];exact HG.out.2.1.there Hlt.out
   have hinf:=hRl.info;have hone:=hRl.val.one;obtain ⟨k1,k2⟩:=HG.out.2.1.set Hlt.out hRl;have HG4:=Lh (show RsAt Qc (wr.setCells H (j*17) cl.toArray.toList) b m s P E/\RsAt Qc (wr.setCells H (j*17) cl.toArray.toList) H m (op (qn:Int) r s (j+1)) P E/\Ext w (wr.setCells H (j*17) cl.toArray.toList) from ⟨HG.out.1.chz k2 HG.out.2.1.no (by have:=HbH.out;omega),k1.congr (fun y _=>(op_yes hr y).symm),k2.ext HG.out.2.2 (by rw [HH.out];exact Nat.le_refl _)⟩);clear k1 k2 hRl hln hr HG
   go_wp2_with fail
   refine Hbj.out.mono ?_;rintro e w2 ⟨rfl,rfl⟩
   go_wp2_with (first | refine wpList_load_mid rfl 48 _ rfl b (j*17) rfl cl _ hcl Tryz.underlying48 rfl hil ?_ | refine wpList_store_mid rfl 48 _ _ rfl H (j*17) cl.toArray rfl rfl ht hinf hone ?_)
   go_roundg (m-(j+1))
   case measure=>have:=Hkk.out;have:=Hlt.out;omega
   case rel=>exact ⟨j+1,rfl,Hlt.out,rfl,HG4.out⟩
  ·have HG4:=Lh (show RsAt Qc wr b m s P E/\RsAt Qc wr H m (op (qn:Int) v s (j+1)) P E/\Ext w wr from ⟨HG.out.1,HG.out.2.1.congr (fun y _=>(op_no (by rw [hr];exact hrv) y).symm),HG.out.2.2⟩)
   have kn:(r == v)=false:=by simpa using hrv
   clear hr HG hrv
   go_wp2_with fail
   refine Hbj.out.mono ?_;rintro e w2 ⟨rfl,rfl⟩
   go_wp2_with fail
   go_roundg (m-(j+1))
   case measure=>have:=Hkk.out;have:=Hlt.out;omega
   case rel=>exact ⟨j+1,rfl,Hlt.out,rfl,HG4.out⟩
variable {Qc:Nat->Prop}
open Go.RowKit
theorem IsZ.apart {w w':World} {g:Nat} {neg:Bool} {ao:Option Addr} {n c:Nat} {z:Int} (h:IsZ Qc w neg ao n c z) (hc:ChZ g w w') (hg:¬ Qc g) (hI:IBlk w g->IBlk w' g):IsZ Qc w' neg ao n c z:=by
 obtain ⟨l,h1,h2,h3,h4,h5,h6,h7,h8,h9⟩:=h;refine ⟨l,h1,h2,h3,?_,h5,h6,h7,h8,h9.grow hc.size⟩
 rcases h4 with h4 | ⟨b,o,rfl,hb,hcc⟩
 ·exact Or.inl h4
 ·by_cases hne:b=g
  ·rw [hne] at hb h9 ⊢
   rcases h9 with h0 | h9
   ·have hl:l=[]:=by
     rcases h6 with e | e
     ·exact e
     ·exfalso
      have hpos:0<l.length:=by
       cases l with
       | nil=>simp at e
       | cons=>simp
      have:=zval_lt_len ZD.nil (Or.inr e) (show [].length<l.length from hpos);have e0:zval []=0:=rfl;rw [e0] at this;rw [h0] at h7
      split at h7<;>omega
    subst hl;exact Or.inr ⟨g,o,rfl,hI hb,fun t ht=>by simp at ht⟩
   ·exact absurd (h9.2 _ rfl) hg
  ·have hblk:=hc.block b hne hb.lt
   exact Or.inr ⟨b,o,rfl,hb.block hblk,fun t ht=>(World.cell?_of_block (a:=⟨b,o+t,none⟩) hblk).trans (hcc t ht)⟩
theorem RsAt.apart {w w':World} {b n g:Nat} {s:Nat->Nm} {P E:Nat} (h:RsAt Qc w b n s P E) (hc:ChZ g w w') (hg:¬ Qc g) (hI:IBlk w g->IBlk w' g) (hne:b≠g):RsAt Qc w' b n s P E:=by
 obtain ⟨cs,h1,h2,h3⟩:=h.row;refine ⟨cs,hc.row h1 hne,h2,fun x hx=>?_⟩;obtain ⟨c,g1,g2⟩:=h3 x hx;exact ⟨c,g1,g2.anti,g2.low,g2.abs,g2.down,g2.val.1,fun i hi=>by obtain ⟨b,a,n,c,q1,q2,q3⟩:=g2.val.2.1 i hi;exact ⟨b,a,n,c,q1,q2,q3.apart hc hg hI⟩,g2.val.2.2⟩
variable {Qc:Nat->Prop}
open Go.RowKit
theorem LimQ.but {w:World} {g:Nat} (h:g<w.heap.size):LimQ (fun k=>k≠g) w:=fun b hb=>by show b≠g;omega
theorem IsZ.fresh {w W:World} {g:Nat} {neg:Bool} {ao:Option Addr} {n c:Nat} {z:Int} (h:IsZ Qc w neg ao n c z) (k:Ext w W) (h1:w.heap.size<=g) (h2:g<W.heap.size):IsZ (fun k=>k≠g) W neg ao n c z:=by
 obtain ⟨l,p1,p2,p3,p4,p5,p6,p7,p8,_⟩:=h;refine ⟨l,p1,p2,p3,p4.ext k,p5,p6,p7,p8,Or.inr ⟨LimQ.but h2,fun a ha=>?_⟩⟩
 rcases p4 with ⟨e,_⟩ | ⟨b,o,e,hb,_⟩
 ·rw [e] at ha;cases ha
 ·rw [e] at ha
  cases ha
  have:=hb.lt
  show b≠g
  omega
theorem RsAt.fresh {w W:World} {b n g:Nat} {s:Nat->Nm} {P E:Nat} (h:RsAt Qc w b n s P E) (k:Ext w W) (h1:w.heap.size<=g) (h2:g<W.heap.size):RsAt (fun k=>k≠g) W b n s P E:=by
 have hl:=h.lt;obtain ⟨cs,e1,e2,e3⟩:=h.row;refine ⟨cs,(k.block _ hl).trans e1,e2,fun x hx=>?_⟩;obtain ⟨c,g1,g2⟩:=e3 x hx;exact ⟨c,g1,g2.anti,g2.low,g2.abs,g2.down,g2.val.1,fun i hi=>by obtain ⟨b,a,n,c,q1,q2,q3⟩:=g2.val.2.1 i hi;exact ⟨b,a,n,c,q1,q2,q3.fresh k h1 h2⟩,g2.val.2.2⟩
def tm (bits:List Int) (t:Int):Bool:=if 0<t then bits.getD (t-1).toNat 0 == 1 else bits.getD (-t-1).toNat 0 == 0
def cnM (bits cnd:List Int):Bool:=cnd.all (tm bits)
theorem cnM_false {bits cnd:List Int} {i:Nat} {t:Int} (hi:i<cnd.length) (ht:cnd.getD i 0=t) (h:tm bits t=false):cnM bits cnd=false:=by
 unfold cnM;rw [List.all_eq_false];refine ⟨cnd[i],List.getElem_mem hi,?_⟩;rw [List.getD_eq_getElem?_getD,List.getElem?_eq_getElem hi] at ht;have h3:cnd[i]=t:=ht;rw [h3,h];decide
theorem cnM_true {bits cnd:List Int} (h:∀ i,i<cnd.length->tm bits (cnd.getD i 0)=true):cnM bits cnd=true:=by
 unfold cnM;rw [List.all_eq_true];intro c hc;obtain ⟨t,ht,e⟩:=List.getElem_of_mem hc;have h2:=h t ht;rw [List.getD_eq_getElem?_getD,List.getElem?_eq_getElem ht,e] at h2;exact h2
theorem Qcondition_any (kd k q bi:Int) (a1 a2 ab:Option Addr) (n1 c1 n2 c2 nb cb:Nat) (cnd bits:List Int) (w:World) (hI:IntsAt w a2 n2 cnd) (hB:IntsAt w ab nb bits) (hc:n2<=c2) (hc2:c2<=9223372036854775807) (hn2:n2<=1000) (hnb:nb<=12)
  (hok:∀ t ∈ cnd,t≠0/\-(nb:Int)<=t/\t<=(nb:Int)) :
  Calls Tryz.prog 32 #[.agg #[.int .i64 kd,.int .i64 k,.slice a1 n1 c1,.int .i64 q,.int .i64 bi,.slice a2 n2 c2],.slice ab nb cb] w fun e w'=>e=.returned (.bool (cnM bits cnd))/\Ext w w':=by
 obtain ⟨B,hBB⟩:∃ B,cnM bits cnd=B:=⟨_,rfl⟩;rw [hBB];obtain ⟨H,hH⟩:∃ H,w.heap.size=H:=⟨_,rfl⟩;obtain ⟨U,hU⟩:∃ U,w.alloc (.cells #[.int .i64 kd,.int .i64 k,.slice a1 n1 c1,.int .i64 q,.int .i64 bi,.slice a2 n2 c2] 60)=U:=⟨_,rfl⟩
 have hEU:Ext w U:=by rw [<-hU];exact ext_alloc _ _
 have hrU:U.heap[H]?=some (.cells #[.int .i64 kd,.int .i64 k,.slice a1 n1 c1,.int .i64 q,.int .i64 bi,.slice a2 n2 c2] 60 (0,0)):=by rw [<-hU,<-hH];exact heap_alloc_new w _
 have f5:U.cell? ⟨H,5,none⟩=some (.slice a2 n2 c2):=by rw [cell_of_row U H 5 _ _ (0,0) hrU];rfl
 have HBB:=Lh hBB;have HH:=Lh hH;have HU:=Lh hU;have HEU:=Lh hEU;have HI:=Lh (hI.ext hEU);have HB:=Lh (hB.ext hEU);have Hc:=Lh hc;have Hc2:=Lh hc2;have Hnb:=Lh hnb;have Hok:=Lh hok;have Hn2:=Lh hn2;clear hBB hH hU hEU hrU hI hB hc hc2 hnb hok hn2
 go_enter Tryz.func32,Tryz.ntmps32
 go_upto_region 1 with fail
 rw [HU.out,HH.out]
 go_wp2_with fail
 go_loopg [5] n2 (fun kk s5 wr=>∃ i:Nat,s5=.int .i64 (i:Int)/\i<=n2/\n2-i=kk/\(∀ t,t<i->tm bits (cnd.getD t 0)=true)/\wr=U)
 case atStart=>exact ⟨0,rfl,by omega,by omega,fun t ht=>by omega,rfl⟩
 case round =>
  obtain ⟨i,rfl,hi,hk,hal,rfl⟩:=hrel;clear HU;have Hal:=Lh hal;have Hk:=Lh hk;clear hal hk
  by_cases hin:i=n2
  ·have HBt:=Lh (show true=B by
    rw [<-HBB.out]
    exact (cnM_true (fun t ht=>Hal.out t (by have:=HI.out.1;omega))).symm)
   have q1:¬ (i:Int)<(n2:Int):=by omega
   clear hin hi
   go_wp2_with fail
   go_ret
   exact ⟨congrArg (fun b=>Ending.returned (Value.bool b)) HBt.out,HEU.out⟩
  have hlt:i<n2:=by omega
  have q1:(i:Int)<(n2:Int):=by omega
  have q0:(0:Int)<=(i:Int):=by omega
  have wk:IntKind.i64.wrap ((i:Int)+1)=((i+1:Nat):Int):=by rw [IntKind.wrap_i64];have:=Hn2.out;omega
  obtain ⟨b,o,rfl,hb,hcc⟩:=HI.out.2.resolve_left (by omega);have y0:=hcc i hlt;obtain ⟨t,ht⟩:∃ t,cnd.getD i 0=t:=⟨_,rfl⟩;rw [ht] at y0
  have hil:i<cnd.length:=by have:=HI.out.1;omega
  have ht3:t≠0/\-(nb:Int)<=t/\t<=(nb:Int):=by
   refine Hok.out t ?_;rw [<-ht,List.getD_eq_getElem?_getD,List.getElem?_eq_getElem hil];exact List.getElem_mem hil
  obtain ⟨bb,ob,rfl,hbb,hcb⟩:=HB.out.2.resolve_left (by omega);have hnb12:=Hnb.out;have Ht:=Lh ht;have Hlt:=Lh hlt;have Hil:=Lh hil;clear ht hlt hil hcc hb hbb hin hi
  by_cases htp:0<t
  ·obtain ⟨u,rfl⟩:∃ u:Nat,t=((u+1:Nat):Int):=⟨(t-1).toNat,by omega⟩
   have hub:u<nb:=by omega
   have z0:=hcb u hub;obtain ⟨v,hv⟩:∃ v,bits.getD u 0=v:=⟨_,rfl⟩;rw [hv] at z0
   have htm:tm bits ((u+1:Nat):Int)=(v == 1):=by
    unfold tm;rw [if_pos htp,show (((u+1:Nat):Int)-1).toNat=u by omega,hv]
   obtain ⟨T,hT⟩:∃ T:Int,((u+1:Nat):Int)=T:=⟨_,rfl⟩
   have wt:IntKind.i64.wrap (T-1)=(u:Int):=by rw [IntKind.wrap_i64];omega
   rw [hT] at y0 htp htm Ht ht3
   have u0:(0:Int)<=(u:Int):=by omega
   have u1:(u:Int)<(nb:Int):=by omega
   have tn:¬ T<0:=by omega
   clear hcb hT ht3 hub hv hnb12
   by_cases hv1:v=1
   ·subst hv1
    have Htm:=Lh (show tm bits T=true by rw [htm];rfl);clear htm
    go_wp2_with fail
    go_roundg (n2-(i+1))
    case measure=>have:=Hk.out;have:=Hlt.out;omega
    case rel=>exact ⟨i+1,rfl,Hlt.out,rfl,fun t ht=>by
     by_cases e:t=i
     ·rw [e,Ht.out];exact Htm.out
     ·exact Hal.out t (by omega),rfl⟩
   ·have kn:(v == 1)=false:=by simpa using hv1
    have HBf:=Lh (show false=B by rw [<-HBB.out];exact (cnM_false Hil.out Ht.out (by rw [htm];exact kn)).symm);clear htm
    go_wp2_with fail
    go_ret
    exact ⟨congrArg (fun b=>Ending.returned (Value.bool b)) HBf.out,HEU.out⟩
  ·obtain ⟨u,rfl⟩:∃ u:Nat,t=-((u+1:Nat):Int):=⟨(-t-1).toNat,by omega⟩
   have hub:u<nb:=by omega
   have z0:=hcb u hub;obtain ⟨v,hv⟩:∃ v,bits.getD u 0=v:=⟨_,rfl⟩;rw [hv] at z0
   have htm:tm bits (-((u+1:Nat):Int))=(v == 0):=by
    unfold tm;rw [if_neg htp,show (-(-((u+1:Nat):Int))-1).toNat=u by omega,hv]
   obtain ⟨T,hT⟩:∃ T:Int,-((u+1:Nat):Int)=T:=⟨_,rfl⟩;obtain ⟨M,hM⟩:∃ M:Int,((u+1:Nat):Int)=M:=⟨_,rfl⟩
   have wn:IntKind.i64.wrap (-T)=M:=by rw [IntKind.wrap_i64];omega
   have wt:IntKind.i64.wrap (M-1)=(u:Int):=by rw [IntKind.wrap_i64];omega
   rw [hT] at y0 htp htm Ht ht3
   have u0:(0:Int)<=(u:Int):=by omega
   have u1:(u:Int)<(nb:Int):=by omega
   have tn:T<0:=by omega
   clear hcb hT hM ht3 hub hv hnb12
   by_cases hv1:v=0
   ·subst hv1
    have Htm:=Lh (show tm bits T=true by rw [htm];rfl);clear htm
    go_wp2_with fail
    go_roundg (n2-(i+1))
    case measure=>have:=Hk.out;have:=Hlt.out;omega
    case rel=>exact ⟨i+1,rfl,Hlt.out,rfl,fun t ht=>by
     by_cases e:t=i
     ·rw [e,Ht.out];exact Htm.out
     ·exact Hal.out t (by omega),rfl⟩
   ·have kn:(v == 0)=false:=by simpa using hv1
    have HBf:=Lh (show false=B by rw [<-HBB.out];exact (cnM_false Hil.out Ht.out (by rw [htm];exact kn)).symm);clear htm
    go_wp2_with fail
    go_ret
    exact ⟨congrArg (fun b=>Ending.returned (Value.bool b)) HBf.out,HEU.out⟩
end Go.Proofs.YtfjnlopbmkimiaaGreatDoor
