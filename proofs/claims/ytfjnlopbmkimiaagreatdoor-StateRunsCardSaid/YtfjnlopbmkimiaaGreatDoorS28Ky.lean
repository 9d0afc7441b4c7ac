/-
  The reference: a number mirrored. The reference: a number times its mirror. The reference: the sum of the squares of a state's amplitudes. StateRuns: what both sides answer; the law's own walk. A circuit that was handed in, opened: its operations and their lists as they lie in memory. A list of ints that was handed in, opened.
-/
import Derived.ChangeShapes
import Derived.Deep.Slices
import Derived.Laws.AppendOwnNone
import Derived.SizedLaws
import Derived.Test.YtfjnlopbmkimiaaGreatDoorS27Uiq
namespace Go.Proofs.YtfjnlopbmkimiaaGreatDoor
set_option maxRecDepth 100000
set_option maxHeartbeats 8000000
open Go.RowKit
variable {Qc:Nat->Prop}
open Go.RowKit
def cjP (a:Int->Int):Nat->Int->Int
 | 0=>fun _=>0
 | n+1=>addR (cjP a n) (mono (-(n:Int)) (a n))
theorem cjP_eight {a:Int->Int} (ha:Anti a):cjP a 8=cjR a:=by
 funext j
 have h1:=congrFun (sum_monos ha 0) (-j)
 have h2:∀ (i z:Int),mono (-i) z j=mono (i+0) z (-j):=fun i z=>by unfold mono;repeat (split);all_goals omega
 have h3:trR 0 a (-j)=cjR a j:=by simp [trR,cjR]
 rw [<-h3,<-h1];simp only [cjP,addR,sum8,<-h2]
 simp
theorem eqN_add_same (A B:Int->Int) (e:Nat):EqN (nAdd ⟨A,e⟩ ⟨B,e⟩) ⟨addR A B,e⟩:=fun k=>by
 simp only [nAdd,addR,Int.pow_add];grind
theorem tr_mono (k z:Int):trR k (mono 0 z)=mono k z:=by
 funext j;unfold trR mono;simp
theorem ZCs.over {w:World} {v0 v1 v2 v3 v4 v5 v6 v7 v8 v9 v10 v11 v12 v13 v14 v15 v16:Value} {f:Nat->Int} {d:Int} (h:ZCs Qc w #[v0,v1,v2,v3,v4,v5,v6,v7,v8,v9,v10,v11,v12,v13,v14,v15,v16] f d) (e:Int):ZCs Qc w #[v0,v1,v2,v3,v4,v5,v6,v7,v8,v9,v10,v11,v12,v13,v14,v15,.int .i64 e] f e:=by
 refine ⟨rfl,fun i hi=>?_,rfl⟩;obtain ⟨b,a,n,c,q1,q2,q3⟩:=h.2.1 i hi;refine ⟨b,a,n,c,?_,?_,q3⟩
 all_goals
  have k:i=0\/i=1\/i=2\/i=3\/i=4\/i=5\/i=6\/i=7:=by omega
  rcases k with rfl | rfl | rfl | rfl | rfl | rfl | rfl | rfl<;>first | exact q1 | exact q2
theorem QConj_nm (ca:Array Value) (x:Nm) (P E:Nat) (w:World) (h:RmA Qc w ca x P E) (hP:P+8*(E+1)<=400000) (hE:E<=10000) (hL:LimQ Qc w) :
  Calls Tryz.prog 75 #[.agg ca] w fun r w'=>∃ (cr:Array Value) (z:Nm),r=.returned (.agg cr)/\RmA Qc w' cr z (P+8*(E+1)) E/\EqN z (nCj x)/\Ext w w':=by
 obtain ⟨X,hX⟩:∃ X:Nat->Int,(fun i:Nat=>x.a i)=X:=⟨_,rfl⟩;obtain ⟨e,he⟩:∃ e,x.e=e:=⟨_,rfl⟩;have hv:=h.val;rw [hX,he] at hv
 have hXa:∀ i:Nat,X i=x.a i:=fun i=>by rw [<-hX]
 have hdn:e<=E:=by rw [<-he];exact h.down
 obtain ⟨H,hH⟩:∃ H,w.heap.size=H:=⟨_,rfl⟩;obtain ⟨U,hU⟩:∃ U,((w.alloc (.cells ca 48)).alloc (.cells zeroR 48)).alloc (.cells zeroR 48)=U:=⟨_,rfl⟩
 have E0:Ext w U:=by rw [<-hU];exact ((Ext.alloc _ _).trans (Ext.alloc _ _)).trans (Ext.alloc _ _)
 have A0:ZVar Qc U H X (e:Int):=by rw [<-hU,<-hH];exact (hv.box.ext (Ext.alloc _ _)).ext (Ext.alloc _ _)
 have Z0:ZVar Qc U (H+1) (fun _=>0) 0:=by
  have:=((zcs_zero (Qc:=Qc) (w.alloc (.cells ca 48))).box).ext (Ext.alloc _ (.cells zeroR 48));rw [<-hU,<-hH]
  simpa using this
 have O0:U.heap[H+2]?=some (.cells zeroR 48 (0,0)):=by
  have:=heap_alloc_new ((w.alloc (.cells ca 48)).alloc (.cells zeroR 48)) (.cells zeroR 48);rw [<-hU,<-hH]
  simpa using this
 have sz:((w.alloc (.cells ca 48)).alloc (.cells zeroR 48)).heap.size=H+2:=by rw [<-hH];simp
 have Hst:=Lh (show (∃ (co:Array Value) (y:Nm),U.heap[H+2]?=some (.cells co 48 (0,0))/\RmW Qc U co y (P+0*(E+1)) E/\EqN y ⟨cjP x.a (0),e⟩)/\ZVar Qc U H X (e:Int)/\ZVar Qc U (H+1) (fun _=>0) 0/\Ext w U from
  ⟨⟨zeroR,⟨fun _=>0,0⟩,O0,⟨anti_zero,fun k=>Nat.pow_pos (by decide),Nat.zero_le _,zcs_zero (Qc:=Qc) U⟩,fun k=>by simp [cjP]⟩,A0,Z0,E0⟩)
 have HLm:=Lh hL;clear hL;have HU:=Lh hU;have HH:=Lh hH;have Hsz:=Lh sz;have HP:=Lh hP;have HEE:=Lh hE;have Hh:=Lh h;have HX:=Lh hX;have HXa:=Lh hXa;have He:=Lh he;have Hdn:=Lh hdn;clear hU hH A0 Z0 O0 E0 sz h hP hE hX hXa he hv hdn
 go_enter Tryz.func75,Tryz.ntmps75
 go_wp2_with fail
 rw [HU.out]
 try rw [Hsz.out]
 rw [HH.out];clear HU Hsz
 go_loopg [4] 8 (fun kk s4 wr=>∃ j:Nat,s4=.int .i64 (j:Int)/\j<=8/\8-j=kk/\(∃ (co:Array Value) (y:Nm),wr.heap[H+2]?=some (.cells co 48 (0,0))/\RmW Qc wr co y (P+j*(E+1)) E/\EqN y ⟨cjP x.a (j),e⟩)/\ZVar Qc wr H X (e:Int)/\ZVar Qc wr (H+1) (fun _=>0) 0/\Ext w wr)
 case atStart=>exact ⟨0,rfl,by omega,by omega,Hst.out⟩
 case round =>
  clear Hst;obtain ⟨j,rfl,hj,hjk,⟨co,y,rO,hO,hq⟩,hA,hZ,hE⟩:=hrel;obtain ⟨wo,rfl⟩:∃ wo:World,wo=wr:=⟨_,rfl⟩
  by_cases hj8:j=8
  ·subst hj8
   have HO:=Lh hO;have HrO:=Lh rO;have Hq:=Lh hq;have HZ:=Lh hZ;have HE:=Lh hE;obtain ⟨cA,rA,zA⟩:=hA
   have iA:(Tryz.prog.info? 48).map (·.size)=some cA.size:=by rw [zA.1];exact zR_info
   by_cases hz:zeroN X
   ·have HQ:=Lh (QZero_any cA X _ wo zA true (by simp [hz]))
    have Hz:=Lh hz;clear zA hz hZ hE hj hjk hO hq rO
    go_wp2_with (refine wpList_load_row rfl 48 _ rfl (H) rfl 48 _ (0,0) _ rA Tryz.underlying48 rfl iA ?_)
    refine HQ.out.mono ?_;rintro r w2 ⟨rfl,hx2⟩;obtain ⟨c1,hr1,hs1,hone,hinf,rr,hzz,hE'⟩:=fin_rm (zcs_zero (Qc:=Qc) w2) (HZ.out.ext hx2) (HE.out.trans hx2) (by rw [HH.out];omega)
    have Hend:=Lh (show RmA Qc (w2.setRow (H+1) zeroR) zeroR ⟨ext8 (fun _=>0),0⟩ (P+8*(E+1)) E/\EqN ⟨ext8 (fun _=>0),0⟩ (nCj x)/\Ext w (w2.setRow (H+1) zeroR) from
     ⟨⟨anti_ext8 (fun _=>0),Or.inl rfl,fun k=>by rw [ext8_zero];exact Nat.pow_pos (by decide),Nat.zero_le _,hzz.congr fun i _=>by show (0:Int)=ext8 (fun _=>0) (i:Int);rw [ext8_zero]⟩,fun k=>by
      have h9:=zero_of_zeroN Hh.out.anti (by rw [HX.out];exact Hz.out) (-k)
      show ext8 (fun _=>0) k*2 ^ x.e=x.a (-k)*2 ^ 0
      rw [h9,ext8_zero];simp,hE'⟩)
    clear hzz hE' hx2 HQ HZ HE rA iA HO HrO
    go_wp2_with (refine wpList_store_row rfl 48 _ _ rfl (H+1) zeroR rfl rfl 48 _ hr1 hinf hs1 hone ?_)
    refine bodyPost_ret (v:=.agg zeroR) ?_ rfl ⟨_,_,rfl,Hend.out⟩;exact results_cell_row rfl _ _ (H+1) _ _ _ _ rfl rr Tryz.underlying48 rfl hinf
   have HQ:=Lh (QZero_any cA X _ wo zA false (by simp [hz]));clear zA hz hZ hE hj hjk hO hq rO
   go_wp2_with (refine wpList_load_row rfl 48 _ rfl (H) rfl 48 _ (0,0) _ rA Tryz.underlying48 rfl iA ?_)
   refine HQ.out.mono ?_;rintro r w2 ⟨rfl,hx2⟩;clear rA iA;have rO:=(hx2.block _ (gS.1 HrO.out).1).trans HrO.out;have hO:=HO.out.ext hx2;have iO:=hO.info;have HZ2:=Lh (HZ.out.ext hx2);have HE2:=Lh (HE.out.trans hx2);have HQ2:=Lh (Qleast_any co _ y.e w2 hO.val (P+8*(E+1)) E HP.out (fun i _=>hO.abs i) hO.down (by have:=HEE.out;omega));have Hya:=Lh hO.anti;clear hO hx2 HZ HE HQ HO HrO
   go_wp2_with (refine wpList_load_row rfl 48 _ rfl (H+2) rfl 48 _ (0,0) _ rO Tryz.underlying48 rfl iO ?_)
   refine HQ2.out.mono ?_;rintro r w3 ⟨cr,yy,rfl,hcr,hq3,hx3⟩;obtain ⟨c1,hr1,hs1,hone,hinf,rr,hzz,hE'⟩:=fin_rm hcr.val (HZ2.out.ext hx3) (HE2.out.trans hx3) (by rw [HH.out];omega)
   have Hend:=Lh (show RmA Qc (w3.setRow (H+1) cr) cr yy (P+8*(E+1)) E/\EqN yy (nCj x)/\Ext w (w3.setRow (H+1) cr) from
    ⟨⟨hcr.anti,hcr.low,hcr.abs,hcr.down,hzz⟩,(hq3.trans (EqN.of_eq (by rw [ext8_of Hya.out]))).trans (Hq.out.trans (EqN.of_eq (by rw [cjP_eight Hh.out.anti,<-He.out];rfl))),hE'⟩)
   clear hcr hq3 hzz hE' hx3 HQ2 HZ2 HE2 rO iO
   go_wp2_with (refine wpList_store_row rfl 48 _ _ rfl (H+1) cr rfl rfl 48 _ hr1 hinf hs1 hone ?_)
   refine bodyPost_ret (v:=.agg cr) ?_ rfl ⟨_,_,rfl,Hend.out⟩;exact results_cell_row rfl _ _ (H+1) _ _ _ _ rfl rr Tryz.underlying48 rfl hinf
  have hlt:j<8:=by omega
  have q1:(j:Int)<8:=by omega
  have q0:(0:Int)<=(j:Int):=by omega
  have wk:IntKind.i64.wrap ((j:Int)+1)=((j+1:Nat):Int):=by rw [IntKind.wrap_i64];omega
  have wn:IntKind.i64.wrap (-(j:Int))=-(j:Int):=by rw [IntKind.wrap_i64];omega
  have Hj1:=Lh (show j+1<=8 by omega);have Hlt:=Lh hlt;have Hjk:=Lh hjk;obtain ⟨b1,a1,n1,c1,y0,y1,_,_,hI1⟩:=hA.get j hlt;have y16:=hA.gete.1
  have hab:(X j).natAbs<2 ^ P:=by rw [HXa.out];exact Hh.out.abs j
  have HOf:=Lh (fun wx (hx:Ext wo wx)=>QOf_nm b1 a1 n1 c1 (X j) P E wx (hI1.ext hx) hab);have lH:=hA.lt;have lO:=(gS.1 rO).1;have iO:=hO.info;have HO:=Lh hO;have Hq:=Lh hq;have HA:=Lh hA;have HZ:=Lh hZ;have HE:=Lh hE;have HI1:=Lh hI1;have Hab:=Lh hab;clear hI1 hA hZ hE hO hq hj8 hj hlt hjk hab
  go_upto_region 5 with fail
  have hd0:Ext wo wo.drew:=Below.drew (Ext.refl _);refine wp_region_K 14 (fun w'=>w'.heap[H+2]?=some (.cells co 48 (0,0))/\(w'.cell? ⟨H,j*2,none⟩=some (.bool b1)/\w'.cell? ⟨H,j*2+1,none⟩=some (.slice a1 n1 c1))/\w'.cell? ⟨H,16,none⟩=some (.int .i64 (e:Int))) (by kernel_rfl) ?_
  show anyK _ _ _ _ _ _ 15 #[false,false,false,false,false,false,false,false,false,false,false,false,false,false,false] _ _
  have hHeld:wo.drew.heap[H+2]?=some (.cells co 48 (0,0))/\(wo.drew.cell? ⟨H,j*2,none⟩=some (.bool b1)/\wo.drew.cell? ⟨H,j*2+1,none⟩=some (.slice a1 n1 c1))/\wo.drew.cell? ⟨H,16,none⟩=some (.int .i64 (e:Int)):=⟨(hd0.block _ lO).trans rO,⟨cellKeep hd0 lH y0,cellKeep hd0 lH y1⟩,cellKeep hd0 lH y16⟩;refine kT 0 15 (v:=.agg co) rfl (Or.inl ⟨by rfl,?_⟩) hHeld ?_
  ·intro w hSw
   exact exec_load_row 48 _ rfl (H+2) rfl 48 _ (0,0) _ hSw.1 Tryz.underlying48 rfl iO
  show anyK _ _ _ _ _ _ _ _ (Act.put _ (some 10) _) _
  simp only [Act.put,sx0,sx1,sx2];refine kT 1 15 (v:=?_) rfl (Or.inl ⟨by rfl,?_⟩) hHeld ?_;rotate_left 1
  ·intro w hSw
   go_simp
   try with_reducible rfl
  show anyK _ _ _ _ _ _ _ _ (Act.put _ (some 11) _) _
  simp only [Act.put,sx0,sx1,sx2];refine kT 2 15 (v:=?_) rfl (Or.inl ⟨by rfl,?_⟩) hHeld ?_;rotate_left 1
  ·intro w hSw
   go_simp
   try with_reducible rfl
  show anyK _ _ _ _ _ _ _ _ (Act.put _ (some 12) _) _
  simp only [Act.put,sx0,sx1,sx2];refine kT 3 15 (v:=?_) rfl (Or.inl ⟨by rfl,?_⟩) hHeld ?_;rotate_left 1
  ·intro w hSw
   go_simp
   try with_reducible rfl
  show anyK _ _ _ _ _ _ _ _ (Act.put _ (some 13) _) _
  simp only [Act.put,sx0,sx1,sx2];refine kT 4 15 (v:=?_) rfl (Or.inl ⟨by rfl,?_⟩) hHeld ?_;rotate_left 1
  ·intro w hSw
   go_simp
   try with_reducible rfl
  show anyK _ _ _ _ _ _ _ _ (Act.put _ (some 14) _) _
  simp only [Act.put,sx0,sx1,sx2];refine kT 7 15 (v:=?_) rfl (Or.inl ⟨by rfl,?_⟩) hHeld ?_;rotate_left 1
  ·intro w hSw
   go_simp
   try with_reducible rfl
  show anyK _ _ _ _ _ _ _ _ (Act.put _ (some 17) _) _
  simp only [Act.put,sx0,sx1,sx2];refine kT 8 15 (v:=?_) rfl (Or.inl ⟨by rfl,?_⟩) hHeld ?_;rotate_left 1
  ·intro w hSw
   go_simp
   try with_reducible rfl
  show anyK _ _ _ _ _ _ _ _ (Act.put _ (some 18) _) _
  simp only [Act.put,sx0,sx1,sx2];refine kT 10 15 (v:=?_) rfl (Or.inl ⟨by rfl,?_⟩) hHeld ?_;rotate_left 1
  ·intro w hSw
   go_simp
   try with_reducible rfl
  show anyK _ _ _ _ _ _ _ _ (Act.put _ (some 20) _) _
  simp only [Act.put,sx0,sx1,sx2];refine kT 11 15 (v:=?_) rfl (Or.inl ⟨by rfl,?_⟩) hHeld ?_;rotate_left 1
  ·intro w hSw
   go_simp
   try with_reducible rfl
  show anyK _ _ _ _ _ _ _ _ (Act.put _ (some 21) _) _
  simp only [Act.put,sx0,sx1,sx2];clear hHeld;refine anyK_one (i:=5) (by kernel_rfl) rfl (fun Kk hKk=>?_)
  go_simp
  (go_at_call 64;refine (HOf.out wo.drew hd0).mono ?_;rintro r w1 ⟨cf,rfl,hcf,hx1⟩)
  have he1:=hd0.trans hx1
  go_wp2_with fail
  refine hKk.out _ _ (fun _=>⟨(he1.block _ lO).trans rO,⟨cellKeep he1 lH y0,cellKeep he1 lH y1⟩,cellKeep he1 lH y16⟩) ?_;clear hKk Kk hx1;simp only [sx0,sx1,sx2];obtain ⟨l,rfl⟩:∃ l:List Value,cf=l.toArray:=⟨cf.toList,by simp⟩
  have hl:l.length=17:=by have:=hcf.val.1;simpa using this
  match l,hl with
  | [v0,v1,v2,v3,v4,v5,v6,v7,v8,v9,v10,v11,v12,v13,v14,v15,v16],_ =>
  have hHeld:w1.heap[H+2]?=some (.cells co 48 (0,0))/\(w1.cell? ⟨H,j*2,none⟩=some (.bool b1)/\w1.cell? ⟨H,j*2+1,none⟩=some (.slice a1 n1 c1))/\w1.cell? ⟨H,16,none⟩=some (.int .i64 (e:Int)):=⟨(he1.block _ lO).trans rO,⟨cellKeep he1 lH y0,cellKeep he1 lH y1⟩,cellKeep he1 lH y16⟩;refine kT 6 15 (v:=.agg #[v0,v1,v2,v3,v4,v5,v6,v7,v8,v9,v10,v11,v12,v13,v14,v15]) rfl (Or.inl ⟨by rfl,?_⟩) hHeld ?_
  ·intro w hSw
   kernel_rfl
  show anyK _ _ _ _ _ _ _ _ (Act.put _ (some 16) _) _
  simp only [Act.put,sx0,sx1,sx2];refine kT 9 15 (v:=.agg #[v0,v1,v2,v3,v4,v5,v6,v7,v8,v9,v10,v11,v12,v13,v14,v15,.int .i64 (e:Int)]) rfl (Or.inl ⟨by rfl,?_⟩) hHeld ?_
  ·intro w hSw
   kernel_rfl
  show anyK _ _ _ _ _ _ _ _ (Act.put _ (some 19) _) _
  simp only [Act.put,sx0,sx1,sx2];clear hHeld;have hcw:RmW Qc w1 #[v0,v1,v2,v3,v4,v5,v6,v7,v8,v9,v10,v11,v12,v13,v14,v15,.int .i64 (e:Int)] ⟨mono 0 (X j),e⟩ P E:=⟨hcf.anti,hcf.abs,Hdn.out,hcf.val.over (e:Int)⟩;have HTu:=Lh (QTurn_w _ _ P E (-(j:Int)) w1 hcw (by have:=HP.out;omega));clear hcw hcf;refine anyK_one (i:=12) (by kernel_rfl) rfl (fun Kk hKk=>?_)
  go_simp
  (go_at_call 67;refine HTu.out.mono ?_;rintro r w2 ⟨ct,rfl,hct,hx2⟩)
  have he2:=he1.trans hx2
  go_wp2_with fail
  refine hKk.out _ _ (fun _=>⟨(he2.block _ lO).trans rO,⟨cellKeep he2 lH y0,cellKeep he2 lH y1⟩,cellKeep he2 lH y16⟩) ?_;clear hKk Kk hx2 HTu;simp only [sx0,sx1,sx2]
  have HAd:=Lh (QAdd_w co ct y _ (P+j*(E+1)) E w2 (HO.out.ext he2) (hct.le (Nat.le_add_right _ _) (Nat.le_refl _)) (by
   have h8:=Nat.mul_le_mul_right (E+1) (show j+1<=8 from Hj1.out);have:=HP.out;rw [Nat.succ_mul] at h8
   omega) HEE.out (HLm.out.grow (HE.out.trans he2).size))
  clear hct;refine anyK_one (i:=13) (by kernel_rfl) rfl (fun Kk hKk=>?_)
  go_simp
  (go_at_call 38;refine HAd.out.mono ?_;rintro r w3 ⟨cr,z,rfl,hcr,_,hq3,hx3⟩)
  have he3:=he2.trans hx3
  go_wp2_with fail
  refine hKk.out _ _ (fun _=>⟨(he3.block _ lO).trans rO,⟨cellKeep he3 lH y0,cellKeep he3 lH y1⟩,cellKeep he3 lH y16⟩) ?_;clear hKk Kk hx3 HAd;simp only [sx0,sx1,sx2];have hO3:=HO.out.ext he3;have r3:=(he3.block _ lO).trans rO;have hV3:ZVar Qc w3 (H+2) _ _:=⟨co,r3,hO3.val⟩;obtain ⟨_,hch,hrr,hzz⟩:=hcr.val.setRow hV3;have iR:=hcr.info
  have sR:co.size=cr.size:=by rw [hO3.val.1,hcr.val.1]
  have oR:=hcr.val.one;refine anyK_one (i:=14) (by kernel_rfl) rfl (fun Kk hKk=>?_);refine stepK_storeR rfl rfl 48 _ _ rfl (H+2) cr rfl rfl 48 _ r3 iR sR oR ?_;refine hKk.out _ _ (fun h=>Bool.noConfusion (show true=false from h)) ?_;clear hKk Kk;simp only [sx0,sx1,sx2];refine anyK_done (by kernel_rfl) ?_ _
  have Hend:=Lh (show (∃ (co:Array Value) (y:Nm),(w3.setRow (H+2) cr).heap[H+2]?=some (.cells co 48 (0,0))/\RmW Qc (w3.setRow (H+2) cr) co y (P+(j+1)*(E+1)) E/\EqN y ⟨cjP x.a ((j+1)),e⟩)/\ZVar Qc (w3.setRow (H+2) cr) H X (e:Int)/\ZVar Qc (w3.setRow (H+2) cr) (H+1) (fun _=>0) 0/\Ext w (w3.setRow (H+2) cr) from by
   refine ⟨⟨cr,z,hrr,?_,?_⟩,(HA.out.ext he3).chz hch hV3.no (by omega),(HZ.out.ext he3).chz hch hV3.no (by omega),hch.ext (HE.out.trans he3) (by rw [HH.out];omega)⟩
   ·have h9:P+j*(E+1)+E+1=P+(j+1)*(E+1):=by rw [Nat.succ_mul];omega
    rw [<-h9];exact ⟨hcr.anti,hcr.abs,hcr.down,hzz⟩
   ·refine hq3.trans ((EqN.add Hq.out (EqN.refl _)).trans ?_)
    have h9:nTr (-(j:Int)) ⟨mono 0 (X j),e⟩=⟨mono (-(j:Int)) (x.a j),e⟩:=by
     unfold nTr;rw [tr_mono,HXa.out]
    rw [h9]
    exact eqN_add_same _ _ e)
  clear hch hrr hzz hV3 r3 iR sR oR hcr hq3 he3 he2 he1 hd0 HOf HO Hq HA HZ HE HI1 y0 y1 y16 lH lO rO iO hO3;generalize w3.setRow (H+2) cr=V at *
  go_wp2_with fail
  go_roundg (8-(j+1))
  case measure=>have:=Hjk.out;have:=Hj1.out;omega
  case rel=>exact ⟨j+1,rfl,Hj1.out,rfl,Hend.out⟩
variable {Qc:Nat->Prop}
open Go.RowKit
theorem QNorm_nm (ca:Array Value) (x:Nm) (P E:Nat) (w:World) (h1:RmA Qc w ca x P E) (hP:P+(P+8*(E+1))+6<=400000) (hE:E<=10000) (hL:LimQ Qc w) :
  Calls Tryz.prog 39 #[.agg ca] w fun e w'=>∃ (cr:Array Value) (z:Nm),e=.returned (.agg cr)/\RmA Qc w' cr z (P+(P+8*(E+1))+6) (E+E)/\EqN z (nMul x (nCj x))/\Ext w w':=by
 obtain ⟨H,hH⟩:∃ H,w.heap.size=H:=⟨_,rfl⟩;obtain ⟨U,hU⟩:∃ U,((w.alloc (.cells ca 48)).alloc (.cells zeroR 48))=U:=⟨_,rfl⟩
 have E0:Ext w U:=by rw [<-hU];exact (Ext.alloc _ _).trans (Ext.alloc _ _)
 have hrA:U.heap[H]?=some (.cells ca 48 (0,0)):=by rw [<-hU,<-hH];exact ((Ext.alloc _ _).block _ (gS.1 (heap_alloc_new w (.cells ca 48))).1).trans (heap_alloc_new w _)
 have Z0:ZVar Qc U (H+1) (fun _=>0) 0:=by
  have:=(zcs_zero (Qc:=Qc) (w.alloc (.cells ca 48))).box;rw [<-hU,<-hH]
  simpa using this
 have lA:=(gS.1 hrA).1;have HNe:=Lh (fun (wx:World) (hx:Ext U wx)=>QConj_nm ca x P E wx (h1.ext (E0.trans hx)) (by omega) hE (hL.grow (E0.trans hx).size));have HAd:=Lh (fun (wx:World) (hx:Ext U wx) (cn:Array Value) (xc:Nm) (hn:RmA Qc wx cn xc (P+8*(E+1)) E)=>QMul_nm ca cn x xc P E (P+8*(E+1)) E wx (h1.ext (E0.trans hx)) hn hP (by omega));have hi1:=h1.info;have HU:=Lh hU;have HH:=Lh hH;have HZ0:=Lh Z0;have HE0:=Lh E0;clear hU hH Z0 E0 h1 hP hE
 go_enter Tryz.func39,Tryz.ntmps39
 go_upto_region 1 with fail
 rw [HU.out,HH.out];clear HU;have hd0:Ext U U.drew:=Below.drew (Ext.refl _);refine wp_region_K 4 (fun w'=>w'.heap[H]?=some (.cells ca 48 (0,0))) (by kernel_rfl) ?_
 show anyK _ _ _ _ _ _ 5 #[false,false,false,false,false] _ _
 have hHeld:U.drew.heap[H]?=some (.cells ca 48 (0,0)):=((hd0.block _ lA).trans hrA);refine kT 0 5 (v:=.agg ca) rfl (Or.inl ⟨by rfl,?_⟩) hHeld ?_
 ·intro w hSw
  exact exec_load_row 48 _ rfl (H) rfl 48 _ (0,0) _ hSw Tryz.underlying48 rfl hi1
 show anyK _ _ _ _ _ _ _ _ (Act.put _ (some 3) _) _
 simp only [Act.put,sx0,sx1,sx2];refine kT 1 5 (v:=.agg ca) rfl (Or.inl ⟨by rfl,?_⟩) hHeld ?_
 ·intro w hSw
  exact exec_load_row 48 _ rfl (H) rfl 48 _ (0,0) _ hSw Tryz.underlying48 rfl hi1
 show anyK _ _ _ _ _ _ _ _ (Act.put _ (some 4) _) _
 simp only [Act.put,sx0,sx1,sx2];clear hHeld;refine anyK_one (i:=2) (by kernel_rfl) rfl (fun Kk hKk=>?_)
 go_simp
 (go_at_call 75;refine (HNe.out _ hd0).mono ?_;rintro e w1 ⟨cn,xc,rfl,hn1,hqc,hxx⟩)
 have he1:=hd0.trans hxx
 go_wp2_with fail
 refine hKk.out _ _ (fun _=>((he1.block _ lA).trans hrA)) ?_;clear hKk Kk hxx;simp only [sx0,sx1,sx2];refine anyK_one (i:=3) (by kernel_rfl) rfl (fun Kk hKk=>?_)
 go_simp
 (go_at_call 74;refine (HAd.out w1 he1 cn xc hn1).mono ?_;rintro e w2 ⟨cr,z,rfl,hcr,hy,hxx⟩)
 have he2:=he1.trans hxx
 go_wp2_with fail
 refine hKk.out _ _ (fun _=>((he2.block _ lA).trans hrA)) ?_;clear hKk Kk hxx;simp only [sx0,sx1,sx2];obtain ⟨c1,hr1,hs1,hone,hinf,rr,hnm,hE'⟩:=fin_rm hcr.val (HZ0.out.ext he2) (HE0.out.trans he2) (by rw [HH.out];omega);have Hend:=Lh (show RmA Qc (w2.setRow (H+1) cr) cr z (P+(P+8*(E+1))+6) (E+E)/\EqN z (nMul x (nCj x))/\Ext w (w2.setRow (H+1) cr) from ⟨⟨hcr.anti,hcr.low,hcr.abs,hcr.down,hnm⟩,hy.trans (EqN.mul (EqN.refl _) hqc),hE'⟩);clear hnm hE' hcr hy;refine anyK_one (i:=4) (by kernel_rfl) rfl (fun Kk hKk=>?_);refine stepK_storeR rfl rfl 48 _ _ rfl (H+1) cr rfl rfl 48 _ hr1 hinf hs1 hone ?_;refine hKk.out _ _ (fun h=>Bool.noConfusion (show true=false from h)) ?_;clear hKk Kk;simp only [sx0,sx1,sx2];refine anyK_done (by kernel_rfl) ?_ _
 go_wp2_with fail
 refine bodyPost_ret (v:=.agg cr) ?_ rfl ⟨_,_,rfl,Hend.out⟩;exact results_cell_row rfl _ _ (H+1) _ _ _ _ rfl rr Tryz.underlying48 rfl hinf
variable {Qc:Nat->Prop}
open Go.RowKit
structure NSt (Qc:Nat->Prop) (w wr:World) (H b m:Nat) (s:Nat->Nm) (P E:Nat) (ca:Array Value) (x:Nm) (PA EA:Nat):Prop where
 src:RsAt Qc wr b m s P E
 row:wr.heap[H+1]?=some (.cells ca 48 (0,0))
 val:RmA Qc wr ca x PA EA
 res:ZVar Qc wr H (fun _=>0) 0
 ext:Ext w wr
theorem NSt.more {w wr w':World} {H b m:Nat} {s:Nat->Nm} {P E:Nat} {ca:Array Value} {x:Nm} {PA EA:Nat} (h:NSt Qc w wr H b m s P E ca x PA EA) (k:Ext wr w'):NSt Qc w w' H b m s P E ca x PA EA :=
 ⟨h.src.ext k,(k.block _ (gS.1 h.row).1).trans h.row,h.val.ext k,h.res.ext k,h.ext.trans k⟩
theorem ZVar.chz' {w w':World} {g k:Nat} {f:Nat->Int} {e:Int} (h:ZVar Qc w g f e) (c:ChZ k w w') (hk:NoI w k) (hne:g≠k):ZVar Qc w' g f e:=by
 obtain ⟨cs,h1,h2⟩:=h;exact ⟨cs,c.row h1 hne,h2.chz c hk⟩
theorem NSt.put {w wr:World} {H b m:Nat} {s:Nat->Nm} {P E:Nat} {ca:Array Value} {x:Nm} {PA EA:Nat} (h:NSt Qc w wr H b m s P E ca x PA EA) {cr:Array Value} {z:Nm} (hz:RmA Qc wr cr z PA EA) (hb:b<H) (hw:w.heap.size<=H+1):NSt Qc w (wr.setRow (H+1) cr) H b m s P E cr z PA EA:=by
 have Zg:ZVar Qc wr (H+1) _ _:=⟨ca,h.row,h.val.val⟩;have hno:=Zg.no;obtain ⟨_,kch,hrr,hzc⟩:=hz.val.setRow Zg;exact ⟨h.src.chz kch hno (by omega),hrr,⟨hz.anti,hz.low,hz.abs,hz.down,hzc⟩,h.res.chz' kch hno (by omega),kch.ext h.ext hw⟩
theorem QNormS_any (s:Nat->Nm) (m N b cp:Nat) (P E PA EA:Nat) (w:World) (hS:RsAt Qc w b m s P E) (hA:∀ x,Amp N (s x)) (hm2:m<=4096)
  (hP2:P+(P+8*(E+1))+6<=PA) (hE:E<=5000) (hPN:4*N+18<=PA) (hEN:N+N<=EA) (hEE:E+E<=EA) (hPA:PA+EA+1<=400000) (hEA:EA<=10000) (hL:LimQ Qc w) :
  Calls Tryz.prog 15 #[.slice (some ⟨b,0,none⟩) m cp] w fun e w'=>∃ cr:Array Value,e=.returned (.agg cr)/\RmA Qc w' cr (nS s m) PA EA/\Ext w w':=by
 obtain ⟨H,hH⟩:∃ H,w.heap.size=H:=⟨_,rfl⟩
 have hbH:b<H:=by rw [<-hH];exact hS.lt
 obtain ⟨V,hV⟩:∃ V,(w.alloc (.cells zeroR 48)).alloc (.cells zeroR 48)=V:=⟨_,rfl⟩;obtain ⟨U,hU⟩:∃ U,V.setRow (H+1) zeroR=U:=⟨_,rfl⟩
 have hEV:Ext w V:=by rw [<-hV];exact (ext_alloc _ _).trans (ext_alloc _ _)
 have z0:ZVar Qc V H (fun _=>0) 0:=by
  have:=((zcs_zero (Qc:=Qc) w).box).ext (ext_alloc _ (.cells zeroR 48));rw [<-hV,<-hH];simpa using this
 have r1:V.heap[H+1]?=some (.cells zeroR 48 (0,0)):=by
  have:=heap_alloc_new (w.alloc (.cells zeroR 48)) (.cells zeroR 48);rw [<-hV,<-hH];simpa using this
 have hz:∀ wx:World,RmA Qc wx zeroR nZ PA EA:=fun wx=>⟨anti_nZ,low_nZ,fun _=>Nat.pow_pos (by decide),Nat.zero_le _,zcs_zero (Qc:=Qc) wx⟩
 have HG0:=Lh (show NSt Qc w U H b m s P E zeroR (nS s 0) PA EA from by
  rw [<-hU]
  exact NSt.put (ca:=zeroR) (x:=nZ) ⟨hS.ext hEV,r1,hz _,z0,hEV⟩ (hz _) hbH (by omega))
 have HS:=Lh hS;have HA:=Lh hA;have Hm2:=Lh hm2;have HH:=Lh hH;have HbH:=Lh hbH;have HV:=Lh hV;have HU:=Lh hU;have HLm:=Lh hL;clear hL;have HP2:=Lh hP2;have HE:=Lh hE;have HPN:=Lh hPN;have HEN:=Lh hEN;have HEE:=Lh hEE;have HPA:=Lh hPA;have HEA:=Lh hEA
 have r1x:((w.alloc (.cells zeroR 48)).alloc (.cells zeroR 48)).heap[w.heap.size+1]?=some (.cells zeroR 48 (0,0)):=by rw [hV,hH];exact r1
 have zone:=(zcs_zero (Qc:=Qc) w).one;have zinf:(Tryz.prog.info? 48).map (·.size)=some zeroR.size:=zR_info;clear hS hA hm2 hH hbH hV hU hP2 hE hPN hEN hEE hPA hEA hEV z0 hz r1
 go_enter Tryz.func15,Tryz.ntmps15
 go_wp2_with (refine wpList_store_row rfl 48 _ _ rfl (w.heap.size+1) zeroR rfl rfl 48 _ r1x zinf rfl zone ?_)
 rw [HV.out,HH.out,HU.out];clear r1x zone zinf HV HU HS
 go_loopg [4] m (fun kk s4 wr=>∃ j:Nat,s4=.int .i64 (j:Int)/\j<=m/\m-j=kk/\∃ ca,NSt Qc w wr H b m s P E ca (nS s j) PA EA)
 case atStart=>exact ⟨0,rfl,by omega,by omega,_,HG0.out⟩
 case round =>
  obtain ⟨j,rfl,hj,hkk,ca,hG⟩:=hrel;clear HG0;have HG:=Lh hG;have Hkk:=Lh hkk;clear hG hkk
  by_cases hjm:j=m
  ·have hrow:=HG.out.row;have hica:=HG.out.val.info;have hone:=HG.out.val.val.one
   obtain ⟨c0,hr0,hc0⟩:=HG.out.res
   have hszz:c0.size=ca.size:=by rw [hc0.1,HG.out.val.size]
   obtain ⟨_,kch,hrr,hzc⟩:=HG.out.val.val.setRow HG.out.res;have Hend:=Lh (show RmA Qc (wr.setRow H ca) ca (nS s m) PA EA/\Ext w (wr.setRow H ca) from ⟨⟨hjm ▸ HG.out.val.anti,hjm ▸ HG.out.val.low,hjm ▸ HG.out.val.abs,hjm ▸ HG.out.val.down,hjm ▸ hzc⟩,kch.ext HG.out.ext (by rw [HH.out];exact Nat.le_refl _)⟩)
   have q1:¬ (j:Int)<(m:Int):=by omega
   clear hjm hj hc0 kch hzc HG
   go_wp2_with (first | refine wpList_load_row rfl 48 _ rfl (H+1) rfl 48 _ (0,0) _ hrow Tryz.underlying48 rfl hica ?_ | refine wpList_store_row rfl 48 _ _ rfl H ca rfl rfl 48 _ hr0 hica hszz hone ?_)
   refine bodyPost_ret (v:=.agg ca) ?_ rfl ⟨_,rfl,Hend.out⟩;exact results_cell_row rfl _ _ H _ _ _ _ rfl hrr Tryz.underlying48 rfl hica
  have hlt:j<m:=by omega
  have q1:(j:Int)<(m:Int):=by omega
  have q0:(0:Int)<=(j:Int):=by omega
  have wk:IntKind.i64.wrap ((j:Int)+1)=((j+1:Nat):Int):=by rw [IntKind.wrap_i64];have:=Hm2.out;omega
  obtain ⟨cl0,hcl0,hRl0,hln0⟩:=HG.out.src.at hlt
  have hil0:(Tryz.prog.info? 48).map (·.size)=some cl0.length:=by rw [hln0];exact R_size
  have Hlt:=Lh hlt;have HRl0:=Lh hRl0;clear hjm hj hlt hRl0 hln0
  by_cases hz:s j=nZ
  ·have Hz:=Lh (QZero_any cl0.toArray _ _ wr HRl0.out.val true ⟨fun _=>(zero_iff HRl0.out).2 hz,fun _=>rfl⟩)
   have Hzz:=Lh hz;clear hz
   go_wp2_with (refine wpList_load_mid rfl 48 _ rfl b (j*17) rfl cl0 _ hcl0 Tryz.underlying48 rfl hil0 ?_)
   refine Hz.out.mono ?_;rintro e w1 ⟨rfl,hE1⟩;have HG1:=Lh (show NSt Qc w w1 H b m s P E ca (nS s (j+1)) PA EA by rw [nS_nought Hzz.out];exact HG.out.more hE1);clear hE1 hcl0 hil0 Hz HG HRl0
   go_wp2_with fail
   go_roundg (m-(j+1))
   case measure=>have:=Hkk.out;have:=Hlt.out;omega
   case rel=>exact ⟨j+1,rfl,Hlt.out,rfl,_,HG1.out⟩
  have Hz:=Lh (QZero_any cl0.toArray _ _ wr HRl0.out.val false ⟨fun h=>by simp at h,fun h=>absurd ((zero_iff HRl0.out).1 h) hz⟩);clear hz
  go_wp2_with (refine wpList_load_mid rfl 48 _ rfl b (j*17) rfl cl0 _ hcl0 Tryz.underlying48 rfl hil0 ?_)
  refine Hz.out.mono ?_;rintro e w1 ⟨rfl,hE1⟩;have HG1:=Lh (HG.out.more hE1);clear hE1 hcl0 hil0 Hz HG HRl0;obtain ⟨cl,hcl,hRl,hln⟩:=HG1.out.src.at Hlt.out
  have hil:(Tryz.prog.info? 48).map (·.size)=some cl.length:=by rw [hln];exact R_size
  have hica:=HG1.out.val.info;have Hrow:=Lh HG1.out.row;have lG:=(gS.1 HG1.out.row).1;have lb:=HG1.out.src.lt;have HNm:=Lh (fun (wx:World) (hx:Ext w1 wx)=>QNorm_nm cl.toArray _ P E wx (hRl.ext hx) (by have:=HP2.out;have:=HPA.out;omega) (by have:=HE.out;omega) (HLm.out.grow (HG1.out.ext.trans hx).size));have HAd:=Lh (fun (wx:World) (hx:Ext w1 wx) (cn:Array Value) (zq:Nm) (hn:RmA Qc wx cn zq PA EA)=>QAdd_nm ca cn _ zq PA EA wx (HG1.out.val.ext hx) hn HPA.out HEA.out (HLm.out.grow (HG1.out.ext.trans hx).size));clear hRl hln
  go_upto_region 6 with fail
  have hd0:Ext w1 w1.drew:=Below.drew (Ext.refl _);refine wp_region_K 7 (fun w'=>w'.heap[H+1]?=some (.cells ca 48 (0,0))/\w'.rangeAt b (j*17) cl) (by kernel_rfl) ?_
  show anyK _ _ _ _ _ _ 8 #[false,false,false,false,false,false,false,false] _ _
  have hHeld:w1.drew.heap[H+1]?=some (.cells ca 48 (0,0))/\w1.drew.rangeAt b (j*17) cl:=⟨(hd0.block _ lG).trans Hrow.out,range_keep hcl lb hd0⟩;refine kT 0 8 (v:=.agg ca) rfl (Or.inl ⟨by rfl,fun _ h=>exec_load_row 48 _ rfl (H+1) rfl 48 _ (0,0) _ h.1 Tryz.underlying48 rfl hica⟩) hHeld ?_
  show anyK _ _ _ _ _ _ _ _ (Act.put _ (some 18) _) _
  simp only [Act.put,sx0,sx1,sx2];refine kT 1 8 (v:=?_) rfl (Or.inl ⟨by rfl,?_⟩) hHeld ?_;rotate_left 1
  ·intro w hSw
   go_simp
   try with_reducible rfl
  show anyK _ _ _ _ _ _ _ _ (Act.put _ (some 19) _) _
  simp only [Act.put,sx0,sx1,sx2];refine kT 2 8 (v:=?_) rfl (Or.inl ⟨by rfl,?_⟩) hHeld ?_;rotate_left 1
  ·intro w hSw
   go_simp
   try with_reducible rfl
  show anyK _ _ _ _ _ _ _ _ (Act.put _ (some 20) _) _
  simp only [Act.put,sx0,sx1,sx2];refine kT 3 8 (v:=?_) rfl (Or.inl ⟨by rfl,?_⟩) hHeld ?_;rotate_left 1
  ·intro w hSw
   go_simp
   try with_reducible rfl
  show anyK _ _ _ _ _ _ _ _ (Act.put _ (some 21) _) _
  simp only [Act.put,sx0,sx1,sx2];refine kT 4 8 (v:=.agg cl.toArray) rfl (yieldsIf_load_mid (by rfl) 48 _ rfl b (j*17) rfl cl _ (fun _ h=>h.2) Tryz.underlying48 rfl hil) hHeld ?_
  show anyK _ _ _ _ _ _ _ _ (Act.put _ (some 22) _) _
  simp only [Act.put,sx0,sx1,sx2];clear hHeld;refine anyK_one (i:=5) (by kernel_rfl) rfl (fun Kk hKk=>?_)
  go_simp
  (go_at_call 39;refine (HNm.out w1.drew hd0).mono ?_;rintro e w2 ⟨cn,zq,rfl,hcn,hq,hx2⟩)
  have he2:=hd0.trans hx2
  go_wp2_with fail
  refine hKk.out _ _ (fun _=>⟨(he2.block _ lG).trans Hrow.out,range_keep hcl lb he2⟩) ?_;clear hKk Kk;simp only [sx0,sx1,sx2];refine anyK_one (i:=6) (by kernel_rfl) rfl (fun Kk hKk=>?_)
  go_simp
  (go_at_call 38;refine (HAd.out w2 he2 cn zq (hcn.le HP2.out HEE.out)).mono ?_;rintro e w3 ⟨cr,z,rfl,hcr,hy,hx3⟩)
  have he3:=he2.trans hx3
  go_wp2_with fail
  refine hKk.out _ _ (fun _=>⟨(he3.block _ lG).trans Hrow.out,range_keep hcl lb he3⟩) ?_;clear hKk Kk;simp only [sx0,sx1,sx2];have hzz:z=nS s (j+1):=lw_one hcr.low (hy.trans (EqN.add (EqN.refl _) hq))
  have hz:RmA Qc w3 cr (nS s (j+1)) PA EA:=by
   rw [hzz] at hcr;exact ⟨hcr.anti,hcr.low,fun k=>Nat.lt_of_lt_of_le (nS_bound HA.out (by have:=Hlt.out;have:=Hm2.out;omega) k) (Nat.pow_le_pow_right (by decide) HPN.out),Nat.le_trans (nS_size HA.out (j+1)).1 HEN.out,hcr.val⟩
  have HG4:=Lh ((HG1.out.more he3).put hz HbH.out (by rw [HH.out];omega))
  have hr3:=(HG1.out.more he3).row;have hinf:=hz.info;have hone:=hz.val.one;have hszz:ca.size=cr.size:=by rw [hz.size,HG1.out.val.size]
  refine anyK_one (i:=7) (by kernel_rfl) rfl (fun Kk hKk=>?_);refine stepK_storeR rfl rfl 48 _ _ rfl (H+1) cr rfl rfl 48 _ hr3 hinf hszz hone ?_;refine hKk.out _ _ (fun h=>Bool.noConfusion (show true=false from h)) ?_;clear hKk Kk;simp only [sx0,sx1,sx2];refine anyK_done (by kernel_rfl) ?_ _;clear hr3 hinf hone hszz hz hzz hy hq hcr hcn he3 he2 hd0 hx2 hx3 HG1 Hrow lG lb hcl hil hica HNm HAd;generalize w3.setRow (H+1) cr=w4 at *
  go_wp2_with fail
  go_roundg (m-(j+1))
  case measure=>have:=Hkk.out;have:=Hlt.out;omega
  case rel=>exact ⟨j+1,rfl,Hlt.out,rfl,_,HG4.out⟩
theorem two_al (w:World) (A B:Array Value) (tA tB:TypeId):((w.alloc (.cells A tA)).alloc (.cells B tB)).heap[w.heap.size]?=some (.cells A tA (0,0))/\((w.alloc (.cells A tA)).alloc (.cells B tB)).heap[w.heap.size+1]?=some (.cells B tB (0,0))/\Ext w ((w.alloc (.cells A tA)).alloc (.cells B tB)):=by
 have h1:=heap_alloc_new w (.cells A tA);have h2:=heap_alloc_new (w.alloc (.cells A tA)) (.cells B tB);rw [World.size_alloc] at h2;exact ⟨((ext_al _ _).block _ (gS.1 h1).1).trans h1,h2,(ext_al _ _).trans (ext_al _ _)⟩
def ShX (w:World) (cs:Array Value) (n:Nat) (l:List (List UInt8)) (nb:Nat) (bits:List Int) (u:Int):Prop:=∃ a c b d,cs=#[.slice a n c,.slice b nb d,.int .i64 u]/\StrsAt w a n l/\IntsAt w b nb bits/\nb<=d/\d<=9223372036854775807
theorem ShX.no (w:World):ShX w noSh 0 [] 0 [] 0:=⟨none,0,none,0,rfl,⟨rfl,Or.inl rfl⟩,⟨rfl,Or.inl rfl⟩,by omega,by omega⟩
theorem bC_ints {w:World} {g:Nat} {bits:List Int} (h:w.heap[g]?=some (.cells (bC bits) 3 (0,0))):IntsAt w (some ⟨g,0,none⟩) bits.length bits:=by
 refine ⟨rfl,?_⟩
 by_cases e:bits.length=0
 ·exact Or.inl e
 ·refine Or.inr ⟨g,0,rfl,(gS.1 h).1,fun t ht=>?_⟩
  rw [cell_of_row w g (0+t) _ _ (0,0) h,Nat.zero_add,bC_get bits ht]
theorem shoR_few {c:Gci} {x:Int} {want:List Int} (h0:(shoF c x want).1=0):(shoR c x want).bits.length<=12:=by
 have h1:(chk c).1=0:=by
  unfold shoF stF at h0
  by_cases hc:(chk c).1=0
  ·exact hc
  ·rw [if_pos hc,if_pos hc] at h0
   exact absurd h0 hc
 obtain ⟨_,_,_,h3,h4,_⟩:=chk_zero h1;unfold shoR;rw [plM_bits,List.length_replicate];omega
theorem runs_both (c:Gci) (x:Int) (want:List Int):∃ (n:Nat) (l:List (List UInt8)) (nb:Nat) (bits:List Int) (u:Int),n<=4096 /\
  (∀ w cs,((shoF c x want).1=0->ShA w cs (2 ^ c.qubits.toNat) (shoR c x want))->((shoF c x want).1≠0->cs=noSh)->ShX w cs n l nb bits u) /\
  (∀ w cs,((shoF c x want).1=0->QShA w cs (2 ^ c.qubits.toNat) (shoR c x want))->((shoF c x want).1≠0->cs=noSh)->ShX w cs n l nb bits u):=by
 by_cases h0:(shoF c x want).1=0
 ·have hf:=shoR_few h0
  refine ⟨2 ^ c.qubits.toNat,txL (shoR c x want).s (2 ^ c.qubits.toNat),(shoR c x want).bits.length,(shoR c x want).bits,(shoR c x want).u,shoF_small h0,fun w cs h1 _=>?_,fun w cs h1 _=>?_⟩
  ·obtain ⟨g,bb,e,hg,hb⟩:=h1 h0
   exact ⟨_,_,_,_,e,TxR.strs hg,bC_ints hb,Nat.le_refl _,by omega⟩
  ·obtain ⟨a,ca,bb,e,hg,hb⟩:=h1 h0
   exact ⟨_,_,_,_,e,hg,bC_ints hb,Nat.le_refl _,by omega⟩
 ·refine ⟨0,[],0,[],0,by decide,fun w cs _ h2=>?_,fun w cs _ h2=>?_⟩
  ·rw [h2 h0];exact ShX.no w
  ·rw [h2 h0];exact ShX.no w
structure ShB (w:World) (g:Nat) (a:Option Addr) (n c:Nat) (b:Option Addr) (m d:Nat) (u:Int):Prop where
 row:w.heap[g]?=some (.cells #[.slice a n c,.slice b m d,.int .i64 u] 29 (0,0))
section
variable {w w':World} {g:Nat} {a:Option Addr} {n c:Nat} {b:Option Addr} {m d:Nat} {u:Int}
theorem ShB.ext (h:ShB w g a n c b m d u) (k:Ext w w'):ShB w' g a n c b m d u:=⟨(k.block _ (gS.1 h.row).1).trans h.row⟩
theorem ShB.x0 (h:ShB w g a n c b m d u):w.cell? ⟨g,0,none⟩=some (.slice a n c):=by rw [cell_of_row w g 0 _ _ (0,0) h.row];rfl
theorem ShB.x1 (h:ShB w g a n c b m d u):w.cell? ⟨g,1,none⟩=some (.slice b m d):=by rw [cell_of_row w g 1 _ _ (0,0) h.row];rfl
theorem ShB.x2 (h:ShB w g a n c b m d u):w.cell? ⟨g,2,none⟩=some (.int .i64 u):=by rw [cell_of_row w g 2 _ _ (0,0) h.row];rfl
end
theorem wpList_append_copy (w:World) {ops:Array Oper} {rest:List Oper} {o:Oper} {a:Act} {Q:Exit->Act->World->Prop} (hgd:o.guard=none) (s x:Operand)
  (ho:o.op=.call { callee:=.builtin .append,args:=#[s,x],argTypes:=#[25,25] }) (hs:a.eval s=.slice none 0 0)
  (ta:Option Addr) (tn tc:Nat) (want:List Int) (hx:a.eval x=.slice ta tn tc) (hI:IntsAt w ta tn want) (hc:tn<=tc) (hta:ta=none->tc=0) (hb:tn*8<=140737488355328)
  (hK:∀ a2 c2 w',Ext w w'->tn<=c2->c2<=9223372036854775807->IntsAt w' a2 tn want->wpList Tryz.prog ops Q rest (a.put o.dst (.slice a2 tn c2)) w'):wpList Tryz.prog ops Q (o :: rest) a w:=by
 obtain ⟨i0,hi,hz0,hz1,hz2⟩:=info_parts i_info;have hown:w.ownsRow w.heap.size 3 1 (.slice none 0 0) 0 []:=⟨rfl,Or.inl ⟨rfl,rfl⟩⟩
 cases ta with
 | none =>
  have h0:=hta rfl;subst h0
  obtain rfl:tn=0:=by omega
  refine wpList_append_own_none hgd s x 25 ho w.heap.size 3 i0 1 Tryz.underlying25 hi _ 0 [] hs hown hx ?_;exact hK none 0 w (Ext.refl w) (Nat.le_refl _) (by decide) hI
 | some ad =>
  refine wpList_append_own w hgd s x 25 ho w.heap.size 3 i0 (.int .i64 0) 1 8 Tryz.underlying25 hi hz0 hz1 hz2 rfl (by decide) _ 0 [] hs hown ad tn tc (iC want) hx (by rw [iC_length,hI.1,Nat.mul_one]) ?_ ?_ (by unfold maxLen;omega) (by omega) (Nat.le_refl _) ?_
  ·intro j v hv
   have hj:j<tn:=by
    have:=(List.getElem?_eq_some_iff.1 hv).1;rw [iC_length,hI.1] at this;exact this
   obtain ⟨b,oo,e,hbb,hcc⟩:=hI.2.resolve_left (by omega)
   cases e
   rw [Addr.add_lit,hcc j hj,<-hv];unfold iC;rw [List.getElem?_map,List.getD_eq_getElem?_getD,List.getElem?_eq_getElem (by rw [hI.1];exact hj)]
   rfl
  ·intro v hv
   obtain ⟨_,_,rfl⟩:=List.mem_map.1 hv
   rfl
  ·intro v' w' h1 h2 _
   rw [Nat.zero_add,List.nil_append] at h1;obtain ⟨a2,c2,rfl,q1,q2,q3,_⟩:=ints_of_own h1;exact hK a2 c2 w' (grown_ext (Ext.refl w) h2 (fun k e=>by simp [Value.ownBlock] at e)) q1 q2 q3
theorem runs_walk (c:Gci) (ao:Option Addr) (n cp:Nat) (x:Int) (ta:Option Addr) (tn tc:Nat) (want:List Int) (w:World) (h:OpsAt w ao n c.ops) (hn:n<=cp) (hcp:cp<=9223372036854775807) (hbn:n*80<=140737488355328) (hbl:∀ g ∈ c.ops,g.ctl.length*8<=140737488355328/\g.cnd.length*8<=140737488355328)
  (hI:IntsAt w ta tn want) (htc:tn<=tc) (hta:ta=none->tc=0) (htb:tn*8<=140737488355328) (hS:Shp w) (hbr:Bru w) (hT:Ten w) :
  Calls Tryz.prog 3 #[.agg #[.int .i64 c.qubits,.int .i64 c.bits,.slice ao n cp],.int .i64 x,.slice ta tn tc] w fun e w'=>e=.returned (.bool true)/\Ext w w':=by
 obtain ⟨sn,sl,snb,sbits,su,hsn,hSA,hQA⟩:=runs_both c x want;have HSt:=Lh (fun wx (hx:Ext w wx)=>stateBegun_any wx (hS.ext hx) (bru_ext hbr hx) (tab_ext hT hx));have HCp:=Lh (fun wx (hx:Ext w wx)=>CopyCircuit_any c ao n cp wx (h.ext hx) hbn hbl);have HRu:=Lh (fun wx (hx:Ext w wx) bo cq (hd:OpsAt wx bo n c.ops) (h1:n<=cq) (h2:cq<=9223372036854775807) t2 c2 (hi:IntsAt wx t2 tn want)=>Run_any c bo n cq x t2 tn c2 want wx hd h1 h2 hi (hS.ext hx) (bru_ext hbr hx) (tab_ext hT hx));have HCh:=Lh (fun wx (hx:Ext w wx) bo cq (hd:OpsAt wx bo n c.ops) (h1:n<=cq) (h2:cq<=9223372036854775807) t2 c2 (hi:IntsAt wx t2 tn want)=>Chance_any c bo n cq x t2 tn c2 want wx hd h1 h2 hi (hS.ext hx) (bru_ext hbr hx) (tab_ext hT hx));have HQR:=Lh (fun wx (hx:Ext w wx)=>QRun_any c ao n cp x ta tn tc want wx (h.ext hx) hn hcp (hI.ext hx));have HQP:=Lh (fun wx (hx:Ext w wx)=>QPlay_any c ao n cp x ta tn tc want wx (h.ext hx) hn hcp (hI.ext hx));have HSC:=Lh (fun wx (hx:Ext w wx) bo cq (hd:OpsAt wx bo n c.ops) (h1:n<=cq) (h2:cq<=9223372036854775807)=>sameCircuit_any c bo n cq ao cp wx hd (h.ext hx) h1 h2 hn hcp);have HSI:=Lh (fun wx (hx:Ext w wx) t2 c2 (hi:IntsAt wx t2 tn want) (h1:tn<=c2) (h2:c2<=9223372036854775807)=>sameInts_any want t2 tn c2 ta tc wx hi (hI.ext hx) h1 h2);obtain ⟨T,hTx⟩:∃ T,chT c x want=T:=⟨_,rfl⟩;have HTx:=Lh (show (shoF c x want).1=0->rtx (nmF (nS (shoR c x want).s (2 ^ c.qubits.toNat)))=T from fun h0=>by rw [<-hTx];unfold chT;rw [if_pos h0]);have HTn:=Lh (show (shoF c x want).1≠0->T=[] from fun h0=>by rw [<-hTx];unfold chT;rw [if_neg h0]);have Hsm:=Lh (show (shoF c x want).1=0->2 ^ c.qubits.toNat<=4096 from shoF_small);have Hsc:=Lh (show (shoF c x want).1=0->(shoF c x want).2=0 from shoF_second);have HSA:=Lh hSA;have HQA:=Lh hQA;have Hsn:=Lh hsn;rw [hTx] at HCh;obtain ⟨⟨F0,F1⟩,hF⟩:∃ F,shoF c x want=F:=⟨_,rfl⟩;obtain ⟨M,hM⟩:∃ M,shoR c x want=M:=⟨_,rfl⟩;obtain ⟨m,hm⟩:∃ m,2 ^ c.qubits.toNat=m:=⟨_,rfl⟩;rw [hF] at HRu HCh HQR HQP HTx HTn Hsm Hsc HSA HQA;rw [hM,hm] at HRu HQR HQP HTx HSA HQA;rw [hm] at Hsm
 have HI:=Lh hI;have Hta:=Lh hta;have Htb:=Lh htb;have Htc:=Lh htc;clear hSA hQA hsn hTx hF hM hm h hn hcp hbn hbl hI hta htb htc hS hbr hT;obtain ⟨qb,bi,ops⟩:=c;simp only at HCp HRu HCh HQR HQP HSC HTx HTn Hsm Hsc HSA HQA;obtain ⟨H,hH⟩:∃ H,w.heap.size=H:=⟨_,rfl⟩;obtain ⟨W0,hW0⟩:∃ W0,w.alloc (.cells #[.int .i64 qb,.int .i64 bi,.slice ao n cp] 24)=W0:=⟨_,rfl⟩;have HE0:=Lh (show Ext w W0 by rw [<-hW0];exact ext_al w _);have HC:=Lh (show CiB W0 H qb bi ao n cp by rw [<-hW0,<-hH];exact ⟨heap_alloc_new w _⟩);have HH:=Lh hH;have HW:=Lh hW0;have HwH:=Lh (show w.heap.size<=H by omega);clear hH hW0;have m0:=HC.out.x0;have m1:=HC.out.x1;have m2:=HC.out.x2
 go_enter Tryz.func3,Tryz.ntmps3
 go_upto_region 1 with fail
 rw [HW.out,HH.out]
 go_wp2_with fail
 refine (HCp.out W0 HE0.out).mono ?_;rintro e w1 ⟨⟨a1,c1,rfl,hc1,hc1',hO1⟩,hx1⟩;have Ea:=ext_al w1 (.cells #[.int .i64 qb,.int .i64 bi,.slice a1 n c1] 24);have HC1:=Lh (show CiB (w1.alloc (.cells #[.int .i64 qb,.int .i64 bi,.slice a1 n c1] 24)) w1.heap.size qb bi a1 n c1 from ⟨heap_alloc_new w1 _⟩);have HE1:=Lh (HE0.out.trans (hx1.trans Ea));have HC0:=Lh (HC.out.ext (hx1.trans Ea));have HO1:=Lh (hO1.ext Ea);have Hc1:=Lh hc1;have Hc1':=Lh (show c1<=9223372036854775807 from hc1');clear hc1 hc1' hO1 hx1 Ea m0 m1 m2 HCp HC HE0 HW HH
 go_upto_region 2 with fail
 generalize w1.alloc (.cells #[.int .i64 qb,.int .i64 bi,.slice a1 n c1] 24)=W1 at *;generalize w1.heap.size=G at *
 go_upto_region 3 with (at_builtin;refine wpList_append_copy W1 rfl _ _ rfl rfl ta tn tc want rfl (HI.out.ext HE1.out) Htc.out Hta.out Htb.out ?_;intro t2 d2 w2 hx2 hd2 hd2' hi2)
 have HE2:=Lh (HE1.out.trans hx2);have HC02:=Lh (HC0.out.ext hx2);have HC12:=Lh (HC1.out.ext hx2);have HO2:=Lh (HO1.out.ext hx2);have HI2:=Lh hi2;have Hd2:=Lh hd2;have Hd2':=Lh hd2';clear hx2 hd2 hd2' hi2 HE1 HC0 HC1 HO1;have l0:=HC12.out.x0;have l1:=HC12.out.x1;have l2:=HC12.out.x2
 go_wp2_with fail
 refine (HRu.out w2 HE2.out a1 c1 HO2.out Hc1.out Hc1'.out t2 d2 HI2.out).mono ?_;rintro e w3 ⟨cs,rfl,hx3,hs3,hs3'⟩;obtain ⟨sa,sc,sb,sd,rfl,hst3,hin3,hsd,hsd'⟩:=HSA.out w3 cs hs3 hs3';obtain ⟨r7,r8,E3⟩:=two_al w3 #[.slice sa sn sc,.slice sb snb sd,.int .i64 su] #[.int .i64 F0,.int .i64 F1] 29 31;have HE3:=Lh (HE2.out.trans (hx3.trans E3));have HC03:=Lh (HC02.out.ext (hx3.trans E3));have HC13:=Lh (HC12.out.ext (hx3.trans E3));have HO3:=Lh (HO2.out.ext (hx3.trans E3));have HI3:=Lh (HI2.out.ext (hx3.trans E3));have HS3:=Lh (show ShB _ w3.heap.size sa sn sc sb snb sd su from ⟨r7⟩);have HF3:=Lh (show FtB _ (w3.heap.size+1) F0 F1 from ⟨r8⟩);have Hst3:=Lh (hst3.ext E3);have Hin3:=Lh (hin3.ext E3);have Hsd:=Lh hsd;have Hsd':=Lh hsd';have HHK:=Lh (show H<w3.heap.size by have:=HC02.out.lt;have:=hx3.size;omega);have HK3:=Lh (show w.heap.size<=w3.heap.size+1 by have:=HE2.out.size;have:=hx3.size;omega);clear hs3 hs3' hst3 hin3 hsd hsd' r7 r8 E3 hx3 l0 l1 l2 HE2 HC02 HC12 HO2 HI2 HRu HSA
 go_upto_region 4 with fail
 generalize (w3.alloc (.cells #[.slice sa sn sc,.slice sb snb sd,.int .i64 su] 29)).alloc (.cells #[.int .i64 F0,.int .i64 F1] 31)=W3 at *;generalize w3.heap.size=K3 at *;have l0:=HC03.out.x0;have l1:=HC03.out.x1;have l2:=HC03.out.x2
 go_wp2_with fail
 refine (HQR.out W3 HE3.out).mono ?_;rintro e w4 ⟨cs,rfl,hx4,hs4,hs4'⟩;obtain ⟨ra,rc,rb,rd,rfl,hst4,hin4,_,_⟩:=HQA.out w4 cs hs4 hs4';obtain ⟨r7,r8,E4⟩:=two_al w4 #[.slice ra sn rc,.slice rb snb rd,.int .i64 su] #[.int .i64 F0,.int .i64 F1] 29 31;have E34:=hx4.trans E4;have HE4:=Lh (HE3.out.trans E34);have HC04:=Lh (HC03.out.ext E34);have HC14:=Lh (HC13.out.ext E34);have HO4:=Lh (HO3.out.ext E34);have HI4:=Lh (HI3.out.ext E34);have HS4:=Lh (HS3.out.ext E34);have HF4:=Lh (HF3.out.ext E34);have Hst4:=Lh (Hst3.out.ext E34);have Hin4:=Lh (Hin3.out.ext E34);have HT4:=Lh (show ShB _ w4.heap.size ra sn rc rb snb rd su from ⟨r7⟩);have HG4:=Lh (show FtB _ (w4.heap.size+1) F0 F1 from ⟨r8⟩);have Hst5:=Lh (hst4.ext E4);have Hin5:=Lh (hin4.ext E4);have HKK:=Lh (show K3+1<w4.heap.size by have:=HF3.out.lt;have:=hx4.size;omega);clear hs4 hs4' hst4 hin4 r7 r8 E4 E34 hx4 l0 l1 l2 HE3 HC03 HC13 HO3 HI3 HS3 HF3 Hst3 Hin3 HQR HQA
 go_upto_region 5 with fail
 generalize (w4.alloc (.cells #[.slice ra sn rc,.slice rb snb rd,.int .i64 su] 29)).alloc (.cells #[.int .i64 F0,.int .i64 F1] 31)=W4 at *;generalize w4.heap.size=K4 at *
 go_wp2_with fail
 refine (HSt.out W4 HE4.out).mono ?_;rintro e w5 ⟨rfl,hx5⟩;have HX5:=Lh hx5;have HE5:=Lh (HE4.out.trans hx5);have p0:=(HF4.out.ext hx5).x0;have p1:=(HF4.out.ext hx5).x1;have p2:=(HG4.out.ext hx5).x0;have p3:=(HG4.out.ext hx5).x1;have s0:=(HS4.out.ext hx5).x0;have s1:=(HS4.out.ext hx5).x1;have s2:=(HS4.out.ext hx5).x2;have s3:=(HT4.out.ext hx5).x0;have s4:=(HT4.out.ext hx5).x1;have s5:=(HT4.out.ext hx5).x2;clear hx5 HSt
 go_wp2_with fail
 refine (sameShot_any sl sbits su sa sn sc ra rc sb snb sd rb rd w5 (Hst4.out.ext HX5.out) (Hst5.out.ext HX5.out) Hsn.out (Hin4.out.ext HX5.out) (Hin5.out.ext HX5.out) Hsd.out Hsd'.out).mono ?_;rintro e w6 ⟨rfl,hx6⟩;have HX6:=Lh (HX5.out.trans hx6);have HE6:=Lh (HE5.out.trans hx6);clear hx6 p0 p1 p2 p3 s0 s1 s2 s3 s4 s5 HX5 HE5 Hst4 Hst5 Hin4 Hin5 HS4 HT4;have l0:=(HC04.out.ext HX6.out).x0;have l1:=(HC04.out.ext HX6.out).x1;have l2:=(HC04.out.ext HX6.out).x2;have k0:=(HC14.out.ext HX6.out).x0;have k1:=(HC14.out.ext HX6.out).x1;have k2:=(HC14.out.ext HX6.out).x2
 go_wp2_with fail
 refine (HSC.out w6 HE6.out a1 c1 (HO4.out.ext HX6.out) Hc1.out Hc1'.out).mono ?_;rintro e w7 ⟨rfl,hx7⟩;have HX7:=Lh (HX6.out.trans hx7);have HE7:=Lh (HE6.out.trans hx7);clear hx7 l0 l1 l2 k0 k1 k2 HX6 HE6 HSC
 go_wp2_with fail
 refine (HSI.out w7 HE7.out t2 d2 (HI4.out.ext HX7.out) Hd2.out Hd2'.out).mono ?_;rintro e w8 ⟨rfl,hx8⟩;have HX8:=Lh (HX7.out.trans hx8);have HE8:=Lh (HE7.out.trans hx8);clear hx8 HX7 HE7 HSI;have k0:=(HC14.out.ext HX8.out).x0;have k1:=(HC14.out.ext HX8.out).x1;have k2:=(HC14.out.ext HX8.out).x2
 go_wp2_with fail
 refine (HCh.out w8 HE8.out a1 c1 (HO4.out.ext HX8.out) Hc1.out Hc1'.out t2 d2 (HI4.out.ext HX8.out)).mono ?_;rintro e w9 ⟨rfl,hx9⟩;have HX9:=Lh (HX8.out.trans hx9);have HE9:=Lh (HE8.out.trans hx9);have f9:=HF4.out.ext HX9.out;have p0:=f9.x0;have p1:=f9.x1;have g0:=f9.f 0;have g1:=f9.f 1;have on9:Only (K3+1) w9 ((w9.setCell ⟨K3+1,0,none⟩ (.int .i64 F0)).setCell ⟨K3+1,1,none⟩ (.int .i64 F1)):=((Only.refl (K3+1) w9).setCell 0 _).setCell 1 _;have HE10:=Lh (show Ext w ((w9.setCell ⟨K3+1,0,none⟩ (.int .i64 F0)).setCell ⟨K3+1,1,none⟩ (.int .i64 F1)) from put2x HE9.out HK3.out _ _)
 have HF10:=Lh (show FtB ((w9.setCell ⟨K3+1,0,none⟩ (.int .i64 F0)).setCell ⟨K3+1,1,none⟩ (.int .i64 F1)) (K3+1) F0 F1 from ⟨by
  have a:=heap_setCell_same w9 (K3+1) 0 _ _ (.int .i64 F0) f9.row;have b:=heap_setCell_same _ (K3+1) 1 _ _ (.int .i64 F1) a
  simpa using b⟩)
 have HG10:=Lh (show FtB ((w9.setCell ⟨K3+1,0,none⟩ (.int .i64 F0)).setCell ⟨K3+1,1,none⟩ (.int .i64 F1)) (K4+1) F0 F1 from ⟨(on9.block (K4+1) (by have:=HKK.out;omega)).trans (HG4.out.ext HX9.out).row⟩);have HC10:=Lh (show CiB ((w9.setCell ⟨K3+1,0,none⟩ (.int .i64 F0)).setCell ⟨K3+1,1,none⟩ (.int .i64 F1)) H qb bi ao n cp from ⟨(on9.block H (by have:=HHK.out;omega)).trans (HC04.out.ext HX9.out).row⟩);clear f9 on9 hx9 k0 k1 k2 HX8 HE8 HCh HE9 HX9 HC04 HC14 HF4 HG4 HO4 HI4 HE4
 go_upto_region 8 with fail
 generalize ((w9.setCell ⟨K3+1,0,none⟩ (.int .i64 F0)).setCell ⟨K3+1,1,none⟩ (.int .i64 F1))=W10 at *;clear p0 p1 g0 g1;have l0:=HC10.out.x0;have l1:=HC10.out.x1;have l2:=HC10.out.x2
 go_wp2_with fail
 refine (HQP.out W10 HE10.out).mono ?_;rintro e w11 ⟨r0,r1,r2,rfl,hx11,hpl⟩;have Ea:=ext_al w11 (.cells #[.int .i64 F0,.int .i64 F1] 31);have HE11:=Lh (HE10.out.trans (hx11.trans Ea));have HF11:=Lh (HF10.out.ext (hx11.trans Ea));have HG11:=Lh (HG10.out.ext (hx11.trans Ea));have Hpl:=Lh hpl;have HEa:=Lh Ea;clear hpl Ea hx11 l0 l1 l2 HQP HE10 HF10 HG10 HC10;have p0:=HF11.out.x0;have p1:=HF11.out.x1;have p2:=HG11.out.x0;have p3:=HG11.out.x1
 by_cases hc0:F0=0
 ·have hcb:=nf' hc0
  have hF1:=Hsc.out hc0;obtain ⟨b,g,rfl,rfl,rfl,hP⟩:=Hpl.out hc0;have HT0:=Lh (HTx.out hc0);have Hm4:=Lh (Hsm.out hc0);have HP:=Lh (hP.ext' HEa.out)
  have be:(F0 == 0)=true:=by simp [hc0]
  clear hP Hpl HEa hF1 hc0 HTx HTn Hsm Hsc
  go_upto_region 11 with fail
  generalize w11.alloc (.cells #[.int .i64 F0,.int .i64 F1] 31)=W11 at *
  go_wp2_with fail
  refine (QNormS_any (Qc:=fun k=>k≠g) M.s m 4096 b m 8200 4100 50000 8200 W11 HP.out.st HP.out.amp Hm4.out (by decide) (by decide) (by decide) (by decide) (by decide) (by decide) (by decide) HP.out.lim).mono ?_;rintro e w12 ⟨cr,rfl,hR,hx12⟩;have HQT:=Lh (QText_nm (Qc:=fun k=>k≠g) cr (nS M.s m) 50000 8200 w12 hR (by decide) (by decide));rw [HT0.out] at HQT;have HE12:=Lh (HE11.out.trans hx12);clear hR hx12 p0 p1 p2 p3
  go_wp2_with fail
  refine HQT.out.mono ?_;rintro e w13 ⟨rfl,hx13⟩;have HE13:=Lh (HE12.out.trans hx13);clear hx13 HQT
  go_wp2_with fail
  go_ret
  exact ⟨rfl,HE13.out⟩
 ·have hcb:=nt hc0
  have hTe:=HTn.out hc0;subst hTe;clear hc0 HTx HTn Hsm Hsc Hpl
  go_wp2_with fail
  go_ret
  exact ⟨rfl,HE11.out⟩
open Go.RowKit Go.ChangeShapes Go.WideShapes Go.Deep
instance:Inhabited Gop:=⟨⟨0,0,[],0,0,[]⟩⟩
theorem addr_at (b o t:Nat):(⟨b,o,none⟩:Addr).add t=⟨b,o+t,none⟩:=by
 unfold Addr.add
 by_cases h:t=0<;>simp [h]
section
variable {H:Type} {enc:TypeId × Value->H} {W:World}
theorem bytes_int:Tryz.prog.bytesOf 3=8:=by kernel_rfl
theorem bytes_op:Tryz.prog.bytesOf 60=80:=by kernel_rfl
theorem cells_int:Tryz.prog.cellsOf 3=1:=by kernel_rfl
theorem cells_op:Tryz.prog.cellsOf 60=6:=by kernel_rfl
theorem cells_ci:Tryz.prog.cellsOf 24=3:=by kernel_rfl
theorem open_ints {fuel:Nat} {cs:List Value} {x:DataW H × List MemPlace} (h:DataW.trod enc Tryz.prog W 0 (fun _=>true) true fuel 25 cs=some x) (hz:∀ k ∈ x.1.weights Tryz.prog 25,k<=reachBytes) :
  ∃ (ao:Option Addr) (n cp:Nat) (l:List Int),cs=[.slice ao n cp]/\n<=cp/\cp<=9223372036854775807/\IntsAt W ao n l/\l.length*8<=140737488355328:=by
 rcases open_slice1 Tryz.underlying25 cells_int h with ⟨rfl,rfl⟩ | ⟨a,len,cap,m,n,V,D,Pl,rfl,_,hl,hm,hmm,rfl,hx⟩
 ·exact ⟨none,0,0,[],rfl,by omega,by omega,⟨rfl,Or.inl rfl⟩,by simp⟩
 ·have hmc:m=cap:=by simpa using hmm
  subst hmc
  obtain ⟨F,hF⟩:=choose_lt (α:=Int) (n:=m) (p:=fun i z=>W.cell? (a.add i)=some (.int .i64 z)) (fun i hi=>by
   obtain ⟨h1,h2⟩:=hx i hi;obtain ⟨z,e,_⟩:=DataW.trod_int Tryz.underlying3 h2;injection e with e
   exact ⟨z,by rw [h1,e]⟩)
  refine ⟨some a,len,m,(List.range len).map F,rfl,hl,hm,⟨by simp,?_⟩,?_⟩
  ·by_cases h0:len=0
   ·exact Or.inl h0
   ·obtain ⟨b,o,spot⟩:=a
    have h1:=hF 0 (by omega)
    have hs:spot=none:=by simpa [Addr.add] using World.cell?_spot h1
    subst hs;refine Or.inr ⟨b,o,rfl,World.block_lt_of_cell? W _ h1,fun t ht=>?_⟩;have:=hF t (by omega);rw [addr_at] at this
    simpa [List.getD_eq_getElem?_getD,ht] using this
  ·have:=hz ((len+(m-len))*Tryz.prog.bytesOf 3) (by simp [DataW.weights,Tryz.underlying25])
   rw [bytes_int] at this
   have hr:reachBytes<=140737488355328:=by decide
   rw [List.length_map,List.length_range];omega
theorem open_op {fuel:Nat} {cs:List Value} {x:DataW H × List MemPlace} (h:DataW.trod enc Tryz.prog W 0 (fun _=>true) true fuel 60 cs=some x) (hz:∀ k ∈ x.1.weights Tryz.prog 60,k<=reachBytes) :
  ∃ (o:Gop) (a1:Option Addr) (n1 c1:Nat) (a2:Option Addr) (n2 c2:Nat),cs=[.int .i64 o.kind,.int .i64 o.k,.slice a1 n1 c1,.int .i64 o.q,.int .i64 o.bit,.slice a2 n2 c2]/\OpL W o a1 n1 c1 a2 n2 c2/\o.ctl.length*8<=140737488355328/\o.cnd.length*8<=140737488355328:=by
 obtain ⟨xs,n,_,rfl,hl,hlen,hf⟩:=DataW.trod_struct Tryz.underlying60 h;rw [cells_op] at hl
 match xs,hlen,cs,hl with
 | [y0,y1,y2,y3,y4,y5],_,[v0,v1,v2,v3,v4,v5],_ =>
  have g0:=hf 0 _ rfl;have g1:=hf 1 _ rfl;have g2:=hf 2 _ rfl;have g3:=hf 3 _ rfl;have g4:=hf 4 _ rfl;have g5:=hf 5 _ rfl;simp only [List.getElem?_cons_zero,List.getElem?_cons_succ] at g0 g1 g2 g3 g4 g5;obtain ⟨k0,e0,_⟩:=DataW.trod_int Tryz.underlying3 g0;obtain ⟨k1,e1,_⟩:=DataW.trod_int Tryz.underlying3 g1;obtain ⟨k3,e3,_⟩:=DataW.trod_int Tryz.underlying3 g3;obtain ⟨k4,e4,_⟩:=DataW.trod_int Tryz.underlying3 g4;obtain ⟨a1,n1,c1,l1,e2,p2,q2,I2,b2⟩:=open_ints g2 (fun k hk=>hz k (by simp [DataW.weights,Tryz.underlying60,DataW.weightsEach,hk]));obtain ⟨a2,n2,c2,l2,e5,p5,q5,I5,b5⟩:=open_ints g5 (fun k hk=>hz k (by simp [DataW.weights,Tryz.underlying60,DataW.weightsEach,hk]));injection e0 with e0;injection e1 with e1;injection e2 with e2;injection e3 with e3;injection e4 with e4;injection e5 with e5;exact ⟨⟨k0,k1,l1,k3,k4,l2⟩,a1,n1,c1,a2,n2,c2,by rw [e0,e1,e2,e3,e4,e5],⟨I2,p2,q2,I5,p5,q5⟩,b2,b5⟩
theorem open_circuit_n {v:Value} {d:DataW H} {p:List MemPlace} {base:Nat} (hok:Value.okWide Tryz.prog W .any base 24 v) (h:DataW.Trod enc Tryz.prog W 0 (fun _=>true) true 24 v d p) (hz:∀ k ∈ d.weights Tryz.prog 24,k<=reachBytes) :
  ∃ (c:Gci) (ao:Option Addr) (n cp:Nat),v=.agg #[.int .i64 c.qubits,.int .i64 c.bits,.slice ao n cp]/\OpsAt W ao n c.ops/\n<=cp/\cp<=9223372036854775807/\n*80<=140737488355328/\(∀ g ∈ c.ops,g.ctl.length*8<=140737488355328/\g.cnd.length*8<=140737488355328)/\(ao=none->cp=0):=by
 obtain ⟨fuel,h⟩:=h
 have hv:∃ cs:Array Value,v=.agg cs:=by
  unfold Value.okWide at hok;rw [Tryz.underlying24] at hok;obtain ⟨cs,e,_⟩:=hok;exact ⟨cs,e⟩
 obtain ⟨cs,rfl⟩:=hv;obtain ⟨xs,n,_,hx0,hl,hlen,hf⟩:=DataW.trod_struct Tryz.underlying24 h;obtain ⟨cl⟩:=cs;have hcl:(Value.agg ⟨cl⟩).cells.toList=cl:=rfl;rw [hcl] at hl hf;rw [cells_ci] at hl
 match xs,hlen,cl,hl with
 | [y0,y1,y2],_,[v0,v1,v2],_ =>
  injection hx0 with hd hp;subst hd;have g0:=hf 0 _ rfl;have g1:=hf 1 _ rfl;have g2:=hf 2 _ rfl;simp only [List.getElem?_cons_zero,List.getElem?_cons_succ] at g0 g1 g2;obtain ⟨qb,e0,_⟩:=DataW.trod_int Tryz.underlying3 g0;obtain ⟨bi,e1,_⟩:=DataW.trod_int Tryz.underlying3 g1;injection e0 with e0;injection e1 with e1
  have hz2:∀ k ∈ y2.1.weights Tryz.prog 22,k<=reachBytes:=fun k hk=>hz k (by simp [DataW.weights,Tryz.underlying24,DataW.weightsEach,hk])
  rcases open_slice Tryz.underlying22 g2 with ⟨e2,_⟩ | ⟨a,len,cap,m,n',D,Pl,e2,_,hl2,hm2,hmm,hy2,hx⟩
  ·injection e2 with e2
   refine ⟨⟨qb,bi,[]⟩,none,0,0,by rw [e0,e1,e2],⟨rfl,Or.inl rfl⟩,by omega,by omega,by omega,by simp,fun _=>rfl⟩
  ·injection e2 with e2
   have hmc:m=cap:=by simpa using hmm
   subst hmc;rw [cells_op] at hx;subst hy2
   have hr:reachBytes<=140737488355328:=by decide
   have hb:=hz2 ((len+(m-len))*Tryz.prog.bytesOf 60) (by simp [DataW.weights,Tryz.underlying22]);rw [bytes_op] at hb
   have hel:∀ i,i<len->∀ k ∈ (D i).weights Tryz.prog 60,k<=reachBytes:=by
    intro i hi k hk;refine hz2 k ?_
    have hmem:∀ (l:List (DataW H)) (d:DataW H),d ∈ l->∀ k ∈ d.weights Tryz.prog 60,k ∈ DataW.weightsAll Tryz.prog 60 l:=by
     intro l
     induction l with
     | nil=>intro d hd;simp at hd
     | cons a r ih =>
      intro d hd k hk;rw [DataW.weightsAll,List.mem_append]
      rcases List.mem_cons.1 hd with rfl | hd
      ·exact Or.inl hk
      ·exact Or.inr (ih d hd k hk)
    have:=hmem ((List.range len).map D) (D i) (List.mem_map.2 ⟨i,List.mem_range.2 hi,rfl⟩) k hk;simp only [DataW.weights,Tryz.underlying22];exact List.mem_cons_of_mem _ (List.mem_append_left _ this)
   obtain ⟨b,o,spot⟩:=a
   have hpos:0<len->spot=none:=fun h0=>by
    obtain ⟨cs',h1,_⟩:=hx 0 (by omega);obtain ⟨_,hlen',hc⟩:=World.cells?_some h1;have h2:=hc 0 (by omega);rw [List.getElem?_eq_getElem (by omega)] at h2
    simpa [Addr.add] using World.cell?_spot h2
   obtain ⟨G,hG⟩:=choose_lt (α:=Gop) (n:=len) (p:=fun i g=>∃ (a1:Option Addr) (n1 c1:Nat) (a2:Option Addr) (n2 c2:Nat),W.cell? ⟨b,o+i*6,none⟩=some (.int .i64 g.kind)/\W.cell? ⟨b,o+i*6+1,none⟩=some (.int .i64 g.k)/\W.cell? ⟨b,o+i*6+2,none⟩=some (.slice a1 n1 c1)/\W.cell? ⟨b,o+i*6+3,none⟩=some (.int .i64 g.q)/\W.cell? ⟨b,o+i*6+4,none⟩=some (.int .i64 g.bit)/\W.cell? ⟨b,o+i*6+5,none⟩=some (.slice a2 n2 c2)/\OpL W g a1 n1 c1 a2 n2 c2/\g.ctl.length*8<=140737488355328/\g.cnd.length*8<=140737488355328) (fun i hi=>by
    obtain rfl:=hpos (by omega);obtain ⟨cs',h1,h2⟩:=hx i (by omega);obtain ⟨_,_,hc⟩:=World.cells?_some h1;obtain ⟨g,a1,n1,c1,a2,n2,c2,rfl,hL,b1,b2⟩:=open_op h2 (hel i hi)
    have hc':∀ j,j<6->W.cell? ⟨b,o+i*6+j,none⟩=([.int .i64 g.kind,.int .i64 g.k,.slice a1 n1 c1,.int .i64 g.q,.int .i64 g.bit,.slice a2 n2 c2]:List Value)[j]?:=fun j hj=>by have:=hc j hj;rw [add_add,addr_at,<-Nat.add_assoc] at this;exact this
    exact ⟨g,a1,n1,c1,a2,n2,c2,hc' 0 (by omega),hc' 1 (by omega),hc' 2 (by omega),hc' 3 (by omega),hc' 4 (by omega),hc' 5 (by omega),hL,b1,b2⟩)
   refine ⟨⟨qb,bi,(List.range len).map G⟩,some ⟨b,o,spot⟩,len,m,by rw [e0,e1,e2],⟨by simp,?_⟩,hl2,hm2,by omega,?_,fun e=>by cases e⟩
   ·by_cases h0:len=0
    ·exact Or.inl h0
    ·obtain rfl:=hpos (by omega)
     obtain ⟨_,_,_,_,_,_,hc0,_⟩:=hG 0 (by omega);refine Or.inr ⟨b,o,rfl,World.block_lt_of_cell? W _ hc0,fun t g hg=>?_⟩
     have ht:t<len:=by
      have:=(List.getElem?_eq_some_iff.1 hg).1
      simpa using this
     have hge:g=G t:=by
      have:=hg
      simp [ht] at this
      exact this.symm
     subst hge;obtain ⟨a1,n1,c1,a2,n2,c2,x0,x1,x2,x3,x4,x5,hL,_,_⟩:=hG t ht;exact ⟨a1,n1,c1,a2,n2,c2,x0,x1,x2,x3,x4,x5,hL⟩
   ·intro g hg
    simp only [List.mem_map,List.mem_range] at hg;obtain ⟨i,hi,rfl⟩:=hg;obtain ⟨_,_,_,_,_,_,_,_,_,_,_,_,_,b1,b2⟩:=hG i hi;exact ⟨b1,b2⟩
theorem open_circuit {v:Value} {d:DataW H} {p:List MemPlace} {base:Nat} (hok:Value.okWide Tryz.prog W .any base 24 v) (h:DataW.Trod enc Tryz.prog W 0 (fun _=>true) true 24 v d p) (hz:∀ k ∈ d.weights Tryz.prog 24,k<=reachBytes) :
  ∃ (c:Gci) (ao:Option Addr) (n cp:Nat),v=.agg #[.int .i64 c.qubits,.int .i64 c.bits,.slice ao n cp]/\OpsAt W ao n c.ops/\n<=cp/\cp<=9223372036854775807/\n*80<=140737488355328/\∀ g ∈ c.ops,g.ctl.length*8<=140737488355328/\g.cnd.length*8<=140737488355328:=by
 obtain ⟨c,ao,n,cp,h1,h2,h3,h4,h5,h6,_⟩:=open_circuit_n hok h hz;exact ⟨c,ao,n,cp,h1,h2,h3,h4,h5,h6⟩
end
open Go.RowKit Go.ChangeShapes Go.WideShapes Go.Deep
section
variable {H:Type} {enc:TypeId × Value->H} {W:World}
theorem open_list {v:Value} {d:DataW H} {p:List MemPlace} {base:Nat} (hok:Value.okWide Tryz.prog W .any base 25 v) (h:DataW.Trod enc Tryz.prog W 0 (fun _=>true) true 25 v d p) (hz:∀ k ∈ d.weights Tryz.prog 25,k<=reachBytes) :
  ∃ (ao:Option Addr) (n cp:Nat) (l:List Int),v=.slice ao n cp/\n<=cp/\cp<=9223372036854775807/\IntsAt W ao n l/\n*8<=140737488355328:=by
 obtain ⟨fuel,h⟩:=h
 have hv:∃ a n c,v=.slice a n c:=by
  cases v<;>simp [Value.okWide,Cell.okWide,Cell.ok,Tryz.underlying25] at hok
  exact ⟨_,_,_,rfl⟩
 obtain ⟨a,n,c,rfl⟩:=hv;obtain ⟨ao,n',cp,l,e,h1,h2,h3,h4⟩:=open_ints h hz;have hc:(Value.slice a n c).cells.toList=[.slice a n c]:=rfl;rw [hc] at e;injection e with e;injection e with e1 e2 e3;subst e1;subst e2;subst e3;exact ⟨a,n,c,l,rfl,h1,h2,h3,by rw [<-h3.1];exact h4⟩
end
end Go.Proofs.YtfjnlopbmkimiaaGreatDoor
