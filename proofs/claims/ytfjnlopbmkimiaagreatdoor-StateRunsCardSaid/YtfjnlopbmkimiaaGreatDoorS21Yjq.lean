/-
  A product: Mul. A difference: Sub; a number times its mirror: Norm. The program: mix. The program: side, drop.
-/
import Derived.Test.YtfjnlopbmkimiaaGreatDoorS20Ry
namespace Go.Proofs.YtfjnlopbmkimiaaGreatDoor
set_option maxRecDepth 100000
set_option maxHeartbeats 4000000
open Go.RowKit
theorem RMul_nm (ca cb:Array Value) (x y:Nm) (P1 E1 P2 E2:Nat) (w:World) (h1:NmA w ca x P1 E1) (h2:NmA w cb y P2 E2) (K:Nat) (hK:K<=4194304) (hP:P1+P2+6<=64*K) (hE:E1+E2<=1099511627776) (hbr:Bru w) :
  Calls Tryz.prog 91 #[.agg ca,.agg cb] w fun e w'=>∃ (cr:Array Value) (z:Nm),e=.returned (.agg cr)/\NmA w' cr z (P1+P2+6) (E1+E2)/\EqN z (nMul x y)/\Ext w w':=by
 have hK1:1<=K:=by omega
 obtain ⟨f,hf⟩:∃ f,nmF x=f:=⟨_,rfl⟩;obtain ⟨g,hg⟩:∃ g,nmF y=g:=⟨_,rfl⟩;have hv1:=h1.val;have hv2:=h2.val;rw [hf] at hv1;rw [hg] at hv2
 have hF1:∀ i,i<8->(f i).natAbs<2 ^ P1:=fun i hi=>by have:=nmF_abs h1.abs i hi;rw [hf] at this;exact this
 have hF2:∀ i,i<8->(g i).natAbs<2 ^ P2:=fun i hi=>by have:=nmF_abs h2.abs i hi;rw [hg] at this;exact this
 have hpos:0<2 ^ (P1+P2):=Nat.pow_pos (by decide)
 have hpr:∀ i j,i<8->j<8->(f i*g j).natAbs<=2 ^ (P1+P2)-1:=fun i j hi hj=>by
  have:=Nat.mul_lt_mul'' (hF1 i hi) (hF2 j hj);rw [<-Nat.pow_add] at this;rw [Int.natAbs_mul];omega
 have hab:∀ j,j<=8->∀ i,i<8->(prN f g j i).natAbs<=j*(8*(2 ^ (P1+P2)-1)):=prN_abs f g _ hpr
 have hB:∀ i,i<8->(prN f g 8 i).natAbs<2 ^ (P1+P2+6):=fun i hi=>by
  have h1:=hab 8 (by decide) i hi;rw [Nat.pow_add];omega
 have hbig:64*(2 ^ (P1+P2)-1)<B64 ^ K:=by
  have h1:2 ^ (P1+P2+6)<=2 ^ (64*K):=Nat.pow_le_pow_right (by decide) hP
  have h2:B64 ^ K=2 ^ (64*K):=by rw [Nat.pow_mul];rfl
  rw [Nat.pow_add] at h1;omega
 have HB:=Lh hB;have HK:=Lh hK;have HK1:=Lh hK1;have Hx:=Lh h1;have Hy:=Lh h2;have Hf:=Lh hf;have Hg:=Lh hg;have HP:=Lh hP;have HEE:=Lh hE;have Hpr:=Lh hpr;have Hab:=Lh hab;have Hbig:=Lh hbig;have HF1:=Lh (show ∀ i,i<8->Fit K (f i) from fun i hi=>fit_pow (hF1 i hi) (by omega));have HF2:=Lh (show ∀ i,i<8->Fit K (g i) from fun i hi=>fit_pow (hF2 i hi) (by omega));obtain ⟨H,hH⟩:∃ H,w.heap.size=H:=⟨_,rfl⟩;obtain ⟨U,hU⟩:∃ U,((((w.alloc (.cells ca 78)).alloc (.cells cb 78)).alloc (.cells zero9 78)).alloc (.cells zero8 76))=U:=⟨_,rfl⟩
 have E0:Ext w U:=by rw [<-hU];exact (((Ext.alloc _ _).trans (Ext.alloc _ _)).trans (Ext.alloc _ _)).trans (Ext.alloc _ _)
 have N0:Nums U H 9 78 f:=by rw [<-hU,<-hH];exact (hv1.box 78).ext (((Ext.alloc _ _).trans (Ext.alloc _ _)).trans (Ext.alloc _ _))
 have N1:Nums U (H+1) 9 78 g:=by
  have:=((hv2.ext (Ext.alloc w (.cells ca 78))).box 78).ext ((Ext.alloc _ (.cells zero9 78)).trans (Ext.alloc _ (.cells zero8 76)));rw [<-hU,<-hH]
  simpa using this
 have Z0:Nums U (H+2) 9 78 (fun _=>0):=by
  have:=((cells_zero9 ((w.alloc (.cells ca 78)).alloc (.cells cb 78))).box 78).ext (Ext.alloc _ (.cells zero8 76));rw [<-hU,<-hH]
  simpa using this
 have R0:Nums U (H+3) 8 76 (prN f g 0):=by
  have:=(cells_zero8 (((w.alloc (.cells ca 78)).alloc (.cells cb 78)).alloc (.cells zero9 78))).box 76;rw [<-hU,<-hH,show prN f g 0=fun _=>0 from rfl]
  simpa using this
 have HU:=Lh hU;have HH:=Lh hH;have Hst:=Lh (show Nums U (H+3) 8 76 (prN f g 0)/\Nums U (H+2) 9 78 (fun _=>0)/\Nums U H 9 78 f/\Nums U (H+1) 9 78 g/\Ext w U from ⟨R0,Z0,N0,N1,E0⟩);have Hbr:=Lh hbr;clear hU hH R0 Z0 N0 N1 E0 hbr hF1 hF2 hpos hpr hab hB hbig hv1 hv2 h1 h2 hf hg hK hK1 hP hE
 go_enter Tryz.func91,Tryz.ntmps91
 go_wp2_with fail
 rw [HU.out,HH.out];clear HU
 go_loopg [6,7] 8 (fun kk s6 s7 wr=>∃ j:Nat,s7=.int .i64 (j:Int)/\j<=8/\8-j=kk/\Nums wr (H+3) 8 76 (prN f g j)/\Nums wr (H+2) 9 78 (fun _=>0)/\Nums wr H 9 78 f/\Nums wr (H+1) 9 78 g/\Ext w wr)
 case atStart=>exact ⟨0,rfl,by omega,by omega,Hst.out⟩
 case round =>
  clear Hst;obtain ⟨j,rfl,hj,hjk,hN,hZ,hA,hA2,hE⟩:=hrel;obtain ⟨wo,rfl⟩:∃ wo:World,wo=wr:=⟨_,rfl⟩
  by_cases hj8:j=8
  ·subst hj8
   obtain ⟨cq,hrq,hcq⟩:=hN.cells
   have hinfq:(Tryz.prog.info? 76).map (·.size)=some cq.size:=by rw [hcq.1];exact rrow_info
   obtain ⟨s8,a8,n8,c8,l16,l17,_,_,hI8⟩:=hA.get 8 (by decide);obtain ⟨s7,a7,n7,c7,m16,m17,_,_,hI7⟩:=hA2.get 8 (by decide)
   have hf8:f 8=((x.e:Nat):Int):=by rw [<-Hf.out];rfl
   have hg8:g 8=((y.e:Nat):Int):=by rw [<-Hg.out];rfl
   rw [hf8] at hI8;rw [hg8] at hI7;have lq:=hN.lt;have lH:=hA.lt;have lH1:=hA2.lt;have HAd:=Lh (fun (wx:World) (hx:Ext wo wx)=>Add_any s8 s7 a8 a7 n8 c8 n7 c7 ((x.e:Nat):Int) ((y.e:Nat):Int) wx (hI8.ext hx) (hI7.ext hx) K HK.out (fit_small (z:=((x.e:Nat):Int)) (by have:=Hx.out.down;have:=HEE.out;omega) HK1.out) (fit_small (z:=((y.e:Nat):Int)) (by have:=Hy.out.down;have:=HEE.out;omega) HK1.out));have HLo:=Lh (fun (wx:World) (hx:Ext wo wx) (s9:Int) (a9:Option Addr) (n9 c9:Nat) (i9:IsInt wx s9 a9 n9 c9 (((x.e:Nat):Int)+((y.e:Nat):Int)))=>rlowest_any cq s9 a9 n9 c9 (prN f g 8) (x.e+y.e) wx (hcq.ext hx) (i9.cast (by omega)) K (P1+P2+6) (E1+E2) HK.out HK1.out HP.out HEE.out HB.out (by have:=Hx.out.down;have:=Hy.out.down;omega) (bru_ext Hbr.out (hE.trans hx)));have HZ:=Lh hZ;have HE:=Lh hE;clear hI8 hI7 hf8 hg8 hcq hN hA hA2 hZ hE HB HF1 HF2 Hpr Hab Hbig
   go_upto_region 7 with fail
   have hd0:Ext wo wo.drew:=Below.drew (Ext.refl _);refine wp_region_K 7 (fun w'=>w'.heap[H+3]?=some (.cells cq 76 (0,0))/\(w'.cell? ⟨H,16,none⟩=some (.int .i64 s8)/\w'.cell? ⟨H,17,none⟩=some (.slice a8 n8 c8))/\w'.cell? ⟨H+1,16,none⟩=some (.int .i64 s7)/\w'.cell? ⟨H+1,17,none⟩=some (.slice a7 n7 c7)) (by kernel_rfl) ?_
   show anyK _ _ _ _ _ _ 8 #[false,false,false,false,false,false,false,false] _ _
   have hHeld:wo.drew.heap[H+3]?=some (.cells cq 76 (0,0))/\(wo.drew.cell? ⟨H,16,none⟩=some (.int .i64 s8)/\wo.drew.cell? ⟨H,17,none⟩=some (.slice a8 n8 c8))/\wo.drew.cell? ⟨H+1,16,none⟩=some (.int .i64 s7)/\wo.drew.cell? ⟨H+1,17,none⟩=some (.slice a7 n7 c7):=⟨(hd0.block _ lq).trans hrq,⟨cellKeep hd0 lH l16,cellKeep hd0 lH l17⟩,cellKeep hd0 lH1 m16,cellKeep hd0 lH1 m17⟩;refine kT 0 8 (v:=.agg cq) rfl (Or.inl ⟨by rfl,?_⟩) hHeld ?_
   ·intro w hSw
    exact exec_load_row 76 _ rfl (H+3) rfl 76 _ (0,0) _ hSw.1 Tryz.underlying76 rfl hinfq
   show anyK _ _ _ _ _ _ _ _ (Act.put _ (some 18) _) _
   simp only [Act.put,sx0,sx1,sx2];refine kT 1 8 (v:=?_) rfl (Or.inl ⟨by rfl,?_⟩) hHeld ?_;rotate_left 1
   ·intro w hSw
    go_simp
    try with_reducible rfl
   show anyK _ _ _ _ _ _ _ _ (Act.put _ (some 19) _) _
   simp only [Act.put,sx0,sx1,sx2];refine kT 2 8 (v:=?_) rfl (Or.inl ⟨by rfl,?_⟩) hHeld ?_;rotate_left 1
   ·intro w hSw
    go_simp
    try with_reducible rfl
   show anyK _ _ _ _ _ _ _ _ (Act.put _ (some 20) _) _
   simp only [Act.put,sx0,sx1,sx2];refine kT 3 8 (v:=?_) rfl (Or.inl ⟨by rfl,?_⟩) hHeld ?_;rotate_left 1
   ·intro w hSw
    go_simp
    try with_reducible rfl
   show anyK _ _ _ _ _ _ _ _ (Act.put _ (some 21) _) _
   simp only [Act.put,sx0,sx1,sx2];refine kT 4 8 (v:=?_) rfl (Or.inl ⟨by rfl,?_⟩) hHeld ?_;rotate_left 1
   ·intro w hSw
    go_simp
    try with_reducible rfl
   show anyK _ _ _ _ _ _ _ _ (Act.put _ (some 22) _) _
   simp only [Act.put,sx0,sx1,sx2];clear hHeld;refine anyK_one (i:=5) (by kernel_rfl) rfl (fun Kk hKk=>?_)
   go_simp
   (go_at_call 125;refine (HAd.out _ hd0).mono ?_;rintro e w2 ⟨s9,a9,n9,c9,rfl,i9,hxx⟩)
   have he2:=hd0.trans hxx
   go_wp2_with fail
   refine hKk.out _ _ (fun _=>⟨(he2.block _ lq).trans hrq,⟨cellKeep he2 lH l16,cellKeep he2 lH l17⟩,cellKeep he2 lH1 m16,cellKeep he2 lH1 m17⟩) ?_;clear hKk Kk hxx;simp only [sx0,sx1,sx2];refine anyK_one (i:=6) (by kernel_rfl) rfl (fun Kk hKk=>?_)
   go_simp
   (go_at_call 90;refine (HLo.out w2 he2 s9 a9 n9 c9 i9).mono ?_;rintro e w3 ⟨cr,z,rfl,hcr,hy,hxx⟩)
   have he3:=he2.trans hxx
   go_wp2_with fail
   refine hKk.out _ _ (fun _=>⟨(he3.block _ lq).trans hrq,⟨cellKeep he3 lH l16,cellKeep he3 lH l17⟩,cellKeep he3 lH1 m16,cellKeep he3 lH1 m17⟩) ?_;clear hKk Kk hxx;simp only [sx0,sx1,sx2];obtain ⟨c1,hr1,hs1,hone,hinf,rr,hnm,hE'⟩:=fin_num hcr (HZ.out.ext he3) (HE.out.trans he3) (by rw [HH.out];omega)
   have heq:EqN z (nMul x y):=by
    have e1:ext8 (prN f g 8)=mulR x.a y.a:=by rw [ext8_prN,<-Hf.out,<-Hg.out,ext8_nmF Hx.out.anti,ext8_nmF Hy.out.anti]
    rw [e1] at hy;exact hy
   have Hend:=Lh (show NmA (w3.setRow (H+2) cr) cr z (P1+P2+6) (E1+E2)/\EqN z (nMul x y)/\Ext w (w3.setRow (H+2) cr) from ⟨hnm,heq,hE'⟩);clear hnm heq hE' hcr hy;refine anyK_one (i:=7) (by kernel_rfl) rfl (fun Kk hKk=>?_);refine stepK_storeR rfl rfl 78 _ _ rfl (H+2) cr rfl rfl 78 _ hr1 hinf hs1 hone ?_;refine hKk.out _ _ (fun h=>Bool.noConfusion (show true=false from h)) ?_;clear hKk Kk;simp only [sx0,sx1,sx2];refine anyK_done (by kernel_rfl) ?_ _
   go_wp2_with fail
   refine bodyPost_ret (v:=.agg cr) ?_ rfl ⟨_,_,rfl,Hend.out⟩;exact results_cell_row rfl _ _ (H+2) _ _ _ _ rfl rr Tryz.underlying78 rfl hinf
  have hlt:j<8:=by omega
  have q1:(j:Int)<8:=by omega
  have q0:(0:Int)<=(j:Int):=by omega
  obtain ⟨s1,a1,n1,c1,y0,y1,_,_,hI1⟩:=hA.get j (by omega)
  have wk:IntKind.i64.wrap ((j:Int)+1)=((j+1:Nat):Int):=by rw [IntKind.wrap_i64];omega
  have HAd:=Lh (rowAddProduct_any (H+3) 8 76 (prN f g j) (j:Int) s1 a1 n1 c1 (f j) (H+1) 9 78 g wo hN (by decide) hI1 hA2 (by decide) (by omega) K (j*(8*(2 ^ (P1+P2)-1))) (2 ^ (P1+P2)-1) HK.out (HF1.out j hlt) HF2.out (Hab.out j hj) (fun i hi=>Hpr.out j i hlt hi) (by
   have h1:=Hbig.out;have h2:j*(8*(2 ^ (P1+P2)-1))<=7*(8*(2 ^ (P1+P2)-1)):=Nat.mul_le_mul_right _ (by omega)
   omega))
  have Hj1:=Lh (show j+1<=8 by omega);have HZ:=Lh hZ;have HA:=Lh hA;have HA2:=Lh hA2;have HE:=Lh hE;have Hjk:=Lh hjk;clear hI1 hN hZ hA hA2 hE hjk hj8 hj hlt
  go_wp2_with fail
  refine HAd.out.mono ?_;rintro e w2 ⟨rfl,hN2,hC2⟩
  have Hend:=Lh (show Nums w2 (H+3) 8 76 (prN f g (j+1))/\Nums w2 (H+2) 9 78 (fun _=>0)/\Nums w2 H 9 78 f/\Nums w2 (H+1) 9 78 g/\Ext w w2 from
   ⟨hN2,HZ.out.chg hC2 (by omega),HA.out.chg hC2 (by omega),HA2.out.chg hC2 (by omega),hC2.ext HE.out (by rw [HH.out];omega)⟩)
  clear hN2 hC2 HAd HZ HA HA2 HE y0 y1
  go_wp2_with fail
  go_roundg (8-(j+1))
  case measure=>have:=Hjk.out;have:=Hj1.out;omega
  case rel=>exact ⟨j+1,rfl,Hj1.out,rfl,Hend.out⟩
theorem RSub_nm (ca cb:Array Value) (x y:Nm) (P1 E1 P2 E2:Nat) (w:World) (h1:NmA w ca x P1 E1) (h2:NmA w cb y P2 E2) (K:Nat) (hK:K<=4194304) (hP:P1+P2+E1+E2+4<=64*K) (hE:E1+E2<=1099511627776) (hbr:Bru w) :
  Calls Tryz.prog 143 #[.agg ca,.agg cb] w fun e w'=>∃ (cr:Array Value) (z:Nm),e=.returned (.agg cr)/\NmA w' cr z (P1+P2+E1+E2+4) (E1+E2)/\EqN z (nAdd x (nNeg y))/\Ext w w':=by
 obtain ⟨H,hH⟩:∃ H,w.heap.size=H:=⟨_,rfl⟩;obtain ⟨U,hU⟩:∃ U,(((w.alloc (.cells ca 78)).alloc (.cells cb 78)).alloc (.cells zero9 78))=U:=⟨_,rfl⟩
 have E0:Ext w U:=by rw [<-hU];exact ((Ext.alloc _ _).trans (Ext.alloc _ _)).trans (Ext.alloc _ _)
 have hrA:U.heap[H]?=some (.cells ca 78 (0,0)):=by rw [<-hU,<-hH];exact (((Ext.alloc _ _).trans (Ext.alloc _ _)).block _ (gS.1 (heap_alloc_new w (.cells ca 78))).1).trans (heap_alloc_new w _)
 have hrB:U.heap[H+1]?=some (.cells cb 78 (0,0)):=by
  have h3:=heap_alloc_new (w.alloc (.cells ca 78)) (.cells cb 78);have h4:=((Ext.alloc ((w.alloc (.cells ca 78)).alloc (.cells cb 78)) (.cells zero9 78)).block _ (gS.1 h3).1).trans h3;rw [<-hU,<-hH]
  simpa using h4
 have Z0:Nums U (H+2) 9 78 (fun _=>0):=by
  have:=(cells_zero9 ((w.alloc (.cells ca 78)).alloc (.cells cb 78))).box 78;rw [<-hU,<-hH]
  simpa using this
 have lA:=(gS.1 hrA).1;have lB:=(gS.1 hrB).1;have HNe:=Lh (fun (wx:World) (hx:Ext U wx)=>RNeg_nm cb y P2 E2 wx (h2.ext (E0.trans hx)) K hK (by omega));have HAd:=Lh (fun (wx:World) (hx:Ext U wx) (cn:Array Value) (hn:NmA wx cn (nNeg y) P2 E2)=>RAdd_nm ca cn x (nNeg y) P1 E1 P2 E2 wx (h1.ext (E0.trans hx)) hn K hK hP hE (bru_ext hbr (E0.trans hx)));have hi1:=h1.info;have hi2:=h2.info;have HU:=Lh hU;have HH:=Lh hH;have HZ0:=Lh Z0;have HE0:=Lh E0;clear hU hH Z0 E0 hbr h1 h2 hK hP hE
 go_enter Tryz.func143,Tryz.ntmps143
 go_upto_region 1 with fail
 rw [HU.out,HH.out];clear HU;have hd0:Ext U U.drew:=Below.drew (Ext.refl _);refine wp_region_K 4 (fun w'=>w'.heap[H]?=some (.cells ca 78 (0,0))/\w'.heap[H+1]?=some (.cells cb 78 (0,0))) (by kernel_rfl) ?_
 show anyK _ _ _ _ _ _ 5 #[false,false,false,false,false] _ _
 have hHeld:U.drew.heap[H]?=some (.cells ca 78 (0,0))/\U.drew.heap[H+1]?=some (.cells cb 78 (0,0)):=⟨(hd0.block _ lA).trans hrA,(hd0.block _ lB).trans hrB⟩;refine kT 0 5 (v:=.agg ca) rfl (Or.inl ⟨by rfl,?_⟩) hHeld ?_
 ·intro w hSw
  exact exec_load_row 78 _ rfl (H) rfl 78 _ (0,0) _ hSw.1 Tryz.underlying78 rfl hi1
 show anyK _ _ _ _ _ _ _ _ (Act.put _ (some 5) _) _
 simp only [Act.put,sx0,sx1,sx2];refine kT 1 5 (v:=.agg cb) rfl (Or.inl ⟨by rfl,?_⟩) hHeld ?_
 ·intro w hSw
  exact exec_load_row 78 _ rfl (H+1) rfl 78 _ (0,0) _ hSw.2 Tryz.underlying78 rfl hi2
 show anyK _ _ _ _ _ _ _ _ (Act.put _ (some 6) _) _
 simp only [Act.put,sx0,sx1,sx2];clear hHeld;refine anyK_one (i:=2) (by kernel_rfl) rfl (fun Kk hKk=>?_)
 go_simp
 (go_at_call 161;refine (HNe.out _ hd0).mono ?_;rintro e w1 ⟨cn,rfl,hn1,hxx⟩)
 have he1:=hd0.trans hxx
 go_wp2_with fail
 refine hKk.out _ _ (fun _=>⟨(he1.block _ lA).trans hrA,(he1.block _ lB).trans hrB⟩) ?_;clear hKk Kk hxx;simp only [sx0,sx1,sx2];refine anyK_one (i:=3) (by kernel_rfl) rfl (fun Kk hKk=>?_)
 go_simp
 (go_at_call 55;refine (HAd.out w1 he1 cn hn1).mono ?_;rintro e w2 ⟨cr,z,rfl,hcr,hy,hxx⟩)
 have he2:=he1.trans hxx
 go_wp2_with fail
 refine hKk.out _ _ (fun _=>⟨(he2.block _ lA).trans hrA,(he2.block _ lB).trans hrB⟩) ?_;clear hKk Kk hxx;simp only [sx0,sx1,sx2];obtain ⟨c1,hr1,hs1,hone,hinf,rr,hnm,hE'⟩:=fin_num hcr (HZ0.out.ext he2) (HE0.out.trans he2) (by rw [HH.out];omega);have Hend:=Lh (show NmA (w2.setRow (H+2) cr) cr z (P1+P2+E1+E2+4) (E1+E2)/\EqN z (nAdd x (nNeg y))/\Ext w (w2.setRow (H+2) cr) from ⟨hnm,hy,hE'⟩);clear hnm hE' hcr hy;refine anyK_one (i:=4) (by kernel_rfl) rfl (fun Kk hKk=>?_);refine stepK_storeR rfl rfl 78 _ _ rfl (H+2) cr rfl rfl 78 _ hr1 hinf hs1 hone ?_;refine hKk.out _ _ (fun h=>Bool.noConfusion (show true=false from h)) ?_;clear hKk Kk;simp only [sx0,sx1,sx2];refine anyK_done (by kernel_rfl) ?_ _
 go_wp2_with fail
 refine bodyPost_ret (v:=.agg cr) ?_ rfl ⟨_,_,rfl,Hend.out⟩;exact results_cell_row rfl _ _ (H+2) _ _ _ _ rfl rr Tryz.underlying78 rfl hinf
theorem RNorm_nm (ca:Array Value) (x:Nm) (P E:Nat) (w:World) (h1:NmA w ca x P E) (K:Nat) (hK:K<=4194304) (hP:P+P+6<=64*K) (hE:E+E<=1099511627776) (hbr:Bru w) :
  Calls Tryz.prog 56 #[.agg ca] w fun e w'=>∃ (cr:Array Value) (z:Nm),e=.returned (.agg cr)/\NmA w' cr z (P+P+6) (E+E)/\EqN z (nMul x (nCj x))/\Ext w w':=by
 obtain ⟨H,hH⟩:∃ H,w.heap.size=H:=⟨_,rfl⟩;obtain ⟨U,hU⟩:∃ U,((w.alloc (.cells ca 78)).alloc (.cells zero9 78))=U:=⟨_,rfl⟩
 have E0:Ext w U:=by rw [<-hU];exact (Ext.alloc _ _).trans (Ext.alloc _ _)
 have hrA:U.heap[H]?=some (.cells ca 78 (0,0)):=by rw [<-hU,<-hH];exact ((Ext.alloc _ _).block _ (gS.1 (heap_alloc_new w (.cells ca 78))).1).trans (heap_alloc_new w _)
 have Z0:Nums U (H+1) 9 78 (fun _=>0):=by
  have:=(cells_zero9 (w.alloc (.cells ca 78))).box 78;rw [<-hU,<-hH]
  simpa using this
 have lA:=(gS.1 hrA).1;have HNe:=Lh (fun (wx:World) (hx:Ext U wx)=>Conj_nm ca x P E wx (h1.ext (E0.trans hx)) K hK (by omega));have HAd:=Lh (fun (wx:World) (hx:Ext U wx) (cn:Array Value) (hn:NmA wx cn (nCj x) P E)=>RMul_nm ca cn x (nCj x) P E P E wx (h1.ext (E0.trans hx)) hn K hK hP hE (bru_ext hbr (E0.trans hx)));have hi1:=h1.info;have HU:=Lh hU;have HH:=Lh hH;have HZ0:=Lh Z0;have HE0:=Lh E0;clear hU hH Z0 E0 hbr h1 hK hP hE
 go_enter Tryz.func56,Tryz.ntmps56
 go_upto_region 1 with fail
 rw [HU.out,HH.out];clear HU;have hd0:Ext U U.drew:=Below.drew (Ext.refl _);refine wp_region_K 4 (fun w'=>w'.heap[H]?=some (.cells ca 78 (0,0))) (by kernel_rfl) ?_
 show anyK _ _ _ _ _ _ 5 #[false,false,false,false,false] _ _
 have hHeld:U.drew.heap[H]?=some (.cells ca 78 (0,0)):=((hd0.block _ lA).trans hrA);refine kT 0 5 (v:=.agg ca) rfl (Or.inl ⟨by rfl,?_⟩) hHeld ?_
 ·intro w hSw
  exact exec_load_row 78 _ rfl (H) rfl 78 _ (0,0) _ hSw Tryz.underlying78 rfl hi1
 show anyK _ _ _ _ _ _ _ _ (Act.put _ (some 3) _) _
 simp only [Act.put,sx0,sx1,sx2];refine kT 1 5 (v:=.agg ca) rfl (Or.inl ⟨by rfl,?_⟩) hHeld ?_
 ·intro w hSw
  exact exec_load_row 78 _ rfl (H) rfl 78 _ (0,0) _ hSw Tryz.underlying78 rfl hi1
 show anyK _ _ _ _ _ _ _ _ (Act.put _ (some 4) _) _
 simp only [Act.put,sx0,sx1,sx2];clear hHeld;refine anyK_one (i:=2) (by kernel_rfl) rfl (fun Kk hKk=>?_)
 go_simp
 (go_at_call 92;refine (HNe.out _ hd0).mono ?_;rintro e w1 ⟨cn,rfl,hn1,hxx⟩)
 have he1:=hd0.trans hxx
 go_wp2_with fail
 refine hKk.out _ _ (fun _=>((he1.block _ lA).trans hrA)) ?_;clear hKk Kk hxx;simp only [sx0,sx1,sx2];refine anyK_one (i:=3) (by kernel_rfl) rfl (fun Kk hKk=>?_)
 go_simp
 (go_at_call 91;refine (HAd.out w1 he1 cn hn1).mono ?_;rintro e w2 ⟨cr,z,rfl,hcr,hy,hxx⟩)
 have he2:=he1.trans hxx
 go_wp2_with fail
 refine hKk.out _ _ (fun _=>((he2.block _ lA).trans hrA)) ?_;clear hKk Kk hxx;simp only [sx0,sx1,sx2];obtain ⟨c1,hr1,hs1,hone,hinf,rr,hnm,hE'⟩:=fin_num hcr (HZ0.out.ext he2) (HE0.out.trans he2) (by rw [HH.out];omega);have Hend:=Lh (show NmA (w2.setRow (H+1) cr) cr z (P+P+6) (E+E)/\EqN z (nMul x (nCj x))/\Ext w (w2.setRow (H+1) cr) from ⟨hnm,hy,hE'⟩);clear hnm hE' hcr hy;refine anyK_one (i:=4) (by kernel_rfl) rfl (fun Kk hKk=>?_);refine stepK_storeR rfl rfl 78 _ _ rfl (H+1) cr rfl rfl 78 _ hr1 hinf hs1 hone ?_;refine hKk.out _ _ (fun h=>Bool.noConfusion (show true=false from h)) ?_;clear hKk Kk;simp only [sx0,sx1,sx2];refine anyK_done (by kernel_rfl) ?_ _
 go_wp2_with fail
 refine bodyPost_ret (v:=.agg cr) ?_ rfl ⟨_,_,rfl,Hend.out⟩;exact results_cell_row rfl _ _ (H+1) _ _ _ _ rfl rr Tryz.underlying78 rfl hinf
open Go.RowKit Go.Shelf
attribute [local go_sem] Oper.semAt_some
theorem mix_any (b n cp c q:Nat) (s:Nat->Nm) (N:Nat) (w:World) (h:WvA w b n s N) (hn:n<=4096) (hc:c<4096) (hq:q<4096) (hN:N<=90000) (hbr:Bru w) (hin:∀ x,x<n->x ||| q<n) (hne:∀ x,x &&& (c ||| q)=c->x≠x ||| q) :
  Calls Tryz.prog 120 #[.slice (some ⟨b,0,none⟩) n cp,.int .i64 (c:Int),.int .i64 (q:Int)] w fun e w'=>(∃ v,e=.returned v)/\WvA w' b n (miS c q n s) (N+4096)/\Chg b w w':=by
 obtain ⟨H,hH⟩:∃ H,w.heap.size=H:=⟨_,rfl⟩
 have hbH:b<H:=by rw [<-hH];exact h.at'.lt
 obtain ⟨W1,hW1⟩:∃ W1,((w.alloc (.cells #[.slice (some ⟨b,0,none⟩) n cp] 66)).alloc (.cells #[.int .i64 (q:Int)] 3))=W1:=⟨_,rfl⟩
 have E1:Ext w W1:=by rw [<-hW1];exact (ext_alloc _ _).trans (ext_alloc _ _)
 have z1:W1.cell? ⟨H,0,none⟩=some (.slice (some ⟨b,0,none⟩) n cp):=by rw [<-hW1,<-hH];exact old1 (new1 _ _ _) _
 have z2:W1.cell? ⟨H+1,0,none⟩=some (.int .i64 (q:Int)):=by
  have:=new1 (w.alloc (.cells #[.slice (some ⟨b,0,none⟩) n cp] 66)) (.int .i64 (q:Int)) 3;rw [World.size_alloc] at this;rw [<-hW1,<-hH];exact this
 have sz1:H+1<W1.heap.size:=by rw [<-hW1,<-hH];simp
 have HW1:=Lh hW1;have HH:=Lh hH;have hf4:c ||| q<4096:=Nat.or_lt_two_pow (n:=12) hc hq;clear hW1 hH;refine (callsIn_wide (n:=3)).1 ?_;refine callsIn_of_wp_marks Tryz.func120 rfl trivial ?_ rfl;simp only [Tryz.ntmps120,List.size_toArray,List.length_cons,List.length_nil,Nat.reduceAdd,Nat.reduceSub,Array.replicate_succ,Array.replicate_zero,List.push_toArray,List.append_toArray,List.nil_append,List.cons_append];refine wpIn_wide.2 ?_
 go_upto_region 1 with fail
 rw [HW1.out,HH.out]
 go_wp2_with fail
 refine (states_any (some ⟨b,0,none⟩) n cp c q W1 hc hq).mono ?_;rintro e U ⟨Bo,Bw,Bf,rfl,EU,c1,c2,c3,g1,g2,g3⟩;have hU:WvA U b n s N:=(h.ext E1).ext EU;have y1:=(EU.cell (p:=⟨H,0,none⟩) (show H<W1.heap.size by omega)).trans z1;have y2:=(EU.cell (p:=⟨H+1,0,none⟩) (show H+1<W1.heap.size by omega)).trans z2
 go_wp2_with fail
 refine wpIn_wide.1 (range_states (m:=3) (fun s x=>up2 s x (lw (nHf (nAdd (s x) (s (x ||| q))))) (x ||| q) (lw (nHf (nAdd (s x) (nNeg (s (x ||| q))))))) rfl (by decide) (and_or_left c q) hn hf4 ⟨by omega,g1.2⟩ ⟨by omega,g2.2⟩ ⟨by omega,g3.2⟩ c1 c2 c3 hU rfl
  (fun x=>{ tmps:=#[.slice (some ⟨b,0,none⟩) n cp,.int .i64 (c:Int),.int .i64 (q:Int),.pointer (some ⟨H,0,none⟩),undef,.pointer (some ⟨H+1,0,none⟩),.int .i64 (x:Int),undef,undef,.slice (some ⟨b,0,none⟩) n cp,.int .i64 (c:Int),.int .i64 (q:Int),.func (.func 160) #[] #[.pointer (some ⟨Bo,0,none⟩),.pointer (some ⟨Bw,0,none⟩),.pointer (some ⟨Bf,0,none⟩)],.int .i64 (x:Int),undef,undef,undef,undef,undef,undef,undef,undef,undef,undef,undef,undef,undef,undef,undef,undef,undef,undef,undef,undef,undef,undef,undef,undef,undef,undef,undef,undef,undef,undef,undef,undef,undef,undef,undef,undef,undef,undef,undef,undef],defers:=[] }) ?assign ?body ?done)
 case assign =>
  intro l x W K hK
  gi_wp2
  exact hK
 case done =>
  intro D W hD hW hC hK
  go_wp2_with fail
  refine ⟨by simp,.inl ⟨_,_,rfl,run_takeDeferred hK,?_⟩⟩;obtain ⟨h1,h2⟩:=fin_wave hW hC hD hK;exact ⟨_,results_none rfl _ _ _,⟨_,rfl⟩,h1,(Chg.of_ext (E1.trans EU)).trans h2⟩
 case body =>
  intro l x s' N' W hx hxf hW hC hN';have x1:=hC.cell (show H≠b by omega) y1;have x2:=hC.cell (show H+1≠b by omega) y2;obtain ⟨p,y0,fz,hp⟩:=hW.at'.get hx;obtain ⟨y,hy⟩:∃ y,x ||| q=y:=⟨_,rfl⟩
  have hyn:y<n:=by rw [<-hy];exact hin x hx
  have hxy:x≠y:=by rw [<-hy];exact hne x hxf
  have ho8:bits .or .i64 (x:Int) (q:Int)=(y:Int):=by rw [or_i64 x q (by omega) (by omega),hy]
  obtain ⟨p',y0',fz',hp'⟩:=hW.at'.get hyn;rw [hy]
  have q0:(0:Int)<=(x:Int):=by omega
  have q1:(x:Int)<(n:Int):=by omega
  have r0:(0:Int)<=(y:Int):=by omega
  have r1:(y:Int)<(n:Int):=by omega
  have bne:H≠b/\H+1≠b:=by omega
  have hN4:N'<=94096:=by omega
  have hbW:Bru W:=(bru_ext hbr (E1.trans EU)).far hC hU.at';have lbb:b<W.heap.size:=hW.at'.lt;have HW:=Lh hW;have Hx:=Lh hx;have Hyn:=Lh hyn;have Hxy:=Lh hxy;have Hbne:=Lh bne;have HN:=Lh hN4;have HB:=Lh hbW;have Hlbb:=Lh lbb;clear hW hx hxf hC hN' y1 y2 c1 c2 c3 g1 g2 g3 hU EU z1 z2 E1 h hn hc hq hN hbr hbH sz1 HW1 HH hin hne hf4 hy hyn hxy bne hN4 hbW lbb;have lH:=World.block_lt_of_cell? W ⟨H,0,none⟩ x1;have lK:=World.block_lt_of_cell? W ⟨H+1,0,none⟩ x2;refine wpIn_block (wpIn_seq ?_);refine wpIn_mono (Q:=fun e a' w'=>(e=.normal/\W=w'/\∃ u14 u15 u16 u17 u18 u19 u20 u21 u22 u23 u24 u25 u26 u27:Value,a'=⟨#[.slice (some ⟨b,0,none⟩) n cp,.int .i64 (c:Int),.int .i64 (q:Int),.pointer (some ⟨H,0,none⟩),undef,.pointer (some ⟨H+1,0,none⟩),.int .i64 (x:Int),undef,undef,.slice (some ⟨b,0,none⟩) n cp,.int .i64 (c:Int),.int .i64 (q:Int),.func (.func 160) #[] #[.pointer (some ⟨Bo,0,none⟩),.pointer (some ⟨Bw,0,none⟩),.pointer (some ⟨Bf,0,none⟩)],.int .i64 (x:Int),u14,u15,u16,u17,u18,u19,u20,u21,u22,u23,u24,u25,u26,u27,undef,undef,undef,undef,undef,undef,undef,undef,undef,undef,undef,undef,undef,undef,undef,undef,undef,undef,undef,undef,undef,undef,undef,undef,undef,undef],[]⟩)\/(e=.exit 1/\W=w'/\s' x=nZ/\s' y=nZ)) ?_ ?_
  ·refine wpIn_seq (region_round (by rfl) (then_shut (fun ⟨_,_,h⟩=>by rcases h with ⟨h,_⟩ | ⟨h,_⟩<;>cases h)) ?_)
   rcases hp with ⟨rfl,hz⟩ | ⟨g,c0,rfl,t1,t2,t3⟩
   ·rcases hp' with ⟨rfl,hz'⟩ | ⟨g',c0',rfl,t1,t2,t3⟩
    ·have Hz:=Lh hz;have Hz':=Lh hz'
     clear hz hz'
     go_wp2_with fail
     refine wpIn_cond_true rfl (wpIn_exit ?_);exact Or.inr ⟨rfl,rfl,Hz.out,Hz'.out⟩
    ·clear t1 t2 t3 hz
     go_wp2_with fail
     refine wpIn_cond_false rfl (wpIn_skip ?_);exact Or.inl ⟨rfl,rfl,_,_,_,_,_,_,_,_,_,_,_,_,_,_,rfl⟩
   ·clear t1 t2 t3 hp'
    go_wp2_with fail
    refine wpIn_cond_false rfl (wpIn_skip ?_);exact Or.inl ⟨rfl,rfl,_,_,_,_,_,_,_,_,_,_,_,_,_,_,rfl⟩
  intro e a' w' hq'
  rcases hq' with ⟨rfl,rfl,u14,u15,u16,u17,u18,u19,u20,u21,u22,u23,u24,u25,u26,u27,rfl⟩ | ⟨rfl,rfl,hz,hz'⟩
  rotate_left 1
  ·show rndQ b n _ (N'+1) W .normal a' W
   refine ⟨?_,Chg.refl _ _⟩
   have:up2 s' x (lw (nHf (nAdd (s' x) (s' y)))) y (lw (nHf (nAdd (s' x) (nNeg (s' y)))))=s':=by
    rw [hz,hz',neg_z,lw_z hf_z]
    funext t
    unfold up2
    by_cases e:t=x
    ·rw [if_pos e,e,hz]
    ·rw [if_neg e]
     by_cases e':t=y
     ·rw [if_pos e',e',hz']
     ·rw [if_neg e']
   rw [this];exact HW.out.le (Nat.le_succ _)
  clear hp hp' fz fz'
  show Code.wpIn _ _ _ _ _ _ _
  refine wpIn_seq ?_;have HAt1:=Lh (fun (wx:World) (hx:Ext W wx)=>at_any s' n b cp x _ _ wx (HW.out.at'.ext hx) Hx.out);have HAt2:=Lh (fun (wx:World) (hx:Ext W wx)=>at_any s' n b cp y _ _ wx (HW.out.at'.ext hx) Hyn.out);have he0:Ext W W.drew:=Below.drew (Ext.refl _)
  have HS:∀ w',Ext W w'->w'.cell? ⟨H,0,none⟩=some (.slice (some ⟨b,0,none⟩) n cp)/\w'.cell? ⟨H+1,0,none⟩=some (.int .i64 (q:Int)):=fun w' hx=>⟨cellKeep hx lH x1,cellKeep hx lK x2⟩
  refine region_round_any (by kernel_rfl) (by rfl) (then_shut rnd_shut) (wpAny_of_held (S:=fun w'=>w'.cell? ⟨H,0,none⟩=some (.slice (some ⟨b,0,none⟩) n cp)/\w'.cell? ⟨H+1,0,none⟩=some (.int .i64 (q:Int))) _ _ _ _ ?_);generalize hops:(#[_,_,_,_,_,_,_,_,_,_,_,_]:Array Oper)=ops
  have hA0:IsAlloc Tryz.prog ops 8 7 78 zero9:=by
   subst hops;exact ⟨_,rfl,rfl,fun _=>rfl,fun _ _=>by kernel_rfl⟩
  have hA1:IsAlloc Tryz.prog ops 9 8 78 zero9:=by
   subst hops;exact ⟨_,rfl,rfl,fun _=>rfl,fun _ _=>by kernel_rfl⟩
  subst hops;refine (Flo2.start (W0:=W) (ty:=78) (z:=zero9) (ty':=78) (z':=zero9) (l:=(fun p q=>#[false,false,false,false,false,false,false,false,p,q,false,false])) (fr:=(fun t t'=>⟨#[.slice (some ⟨b,0,none⟩) n cp,.int .i64 (c:Int),.int .i64 (q:Int),.pointer (some ⟨H,0,none⟩),undef,.pointer (some ⟨H+1,0,none⟩),.int .i64 (x:Int),t,t',.slice (some ⟨b,0,none⟩) n cp,.int .i64 (c:Int),.int .i64 (q:Int),.func (.func 160) #[] #[.pointer (some ⟨Bo,0,none⟩),.pointer (some ⟨Bw,0,none⟩),.pointer (some ⟨Bf,0,none⟩)],.int .i64 (x:Int),u14,u15,u16,u17,u18,u19,u20,u21,u22,u23,u24,u25,u26,u27,undef,undef,undef,undef,undef,undef,undef,undef,undef,undef,undef,undef,undef,undef,undef,undef,undef,undef,undef,undef,undef,undef,undef,undef,undef,undef],[]⟩)) (n:=10) ?_)
  refine Flo2.take HS he0 0 (.slice (some ⟨b,0,none⟩) n cp) rfl (by kernel_rfl) (fun p q=>by cases p<;>cases q<;>kernel_rfl) (fun p q=>by cases p<;>cases q<;>kernel_rfl) (fun _ _ _ h=>h) (fun t t'=>Or.inl ⟨by kernel_rfl,?_⟩) (fun p q=>#[true,false,false,false,false,false,false,false,p,q,false,false]) (fun p q=>by cases p<;>cases q<;>kernel_rfl) (fun t t'=>⟨#[.slice (some ⟨b,0,none⟩) n cp,.int .i64 (c:Int),.int .i64 (q:Int),.pointer (some ⟨H,0,none⟩),undef,.pointer (some ⟨H+1,0,none⟩),.int .i64 (x:Int),t,t',.slice (some ⟨b,0,none⟩) n cp,.int .i64 (c:Int),.int .i64 (q:Int),.func (.func 160) #[] #[.pointer (some ⟨Bo,0,none⟩),.pointer (some ⟨Bw,0,none⟩),.pointer (some ⟨Bf,0,none⟩)],.int .i64 (x:Int),u14,u15,u16,u17,u18,u19,u20,u21,u22,u23,u24,u25,u26,u27,.slice (some ⟨b,0,none⟩) n cp,undef,undef,undef,undef,undef,undef,undef,undef,undef,undef,undef,undef,undef,undef,undef,undef,undef,undef,undef,undef,undef,undef,undef,undef,undef],[]⟩) (fun _ _=>by kernel_rfl) ?_
  ·intro w hSw
   obtain ⟨h1,h2⟩:=hSw
   go_simp
   try with_reducible rfl
  refine Flo2.take HS he0 1 (.int .i64 (x:Int)) rfl (by kernel_rfl) (fun p q=>by cases p<;>cases q<;>kernel_rfl) (fun p q=>by cases p<;>cases q<;>kernel_rfl) (fun _ _ _ h=>h) (fun t t'=>Or.inl ⟨by kernel_rfl,?_⟩) (fun p q=>#[true,true,false,false,false,false,false,false,p,q,false,false]) (fun p q=>by cases p<;>cases q<;>kernel_rfl) (fun t t'=>⟨#[.slice (some ⟨b,0,none⟩) n cp,.int .i64 (c:Int),.int .i64 (q:Int),.pointer (some ⟨H,0,none⟩),undef,.pointer (some ⟨H+1,0,none⟩),.int .i64 (x:Int),t,t',.slice (some ⟨b,0,none⟩) n cp,.int .i64 (c:Int),.int .i64 (q:Int),.func (.func 160) #[] #[.pointer (some ⟨Bo,0,none⟩),.pointer (some ⟨Bw,0,none⟩),.pointer (some ⟨Bf,0,none⟩)],.int .i64 (x:Int),u14,u15,u16,u17,u18,u19,u20,u21,u22,u23,u24,u25,u26,u27,.slice (some ⟨b,0,none⟩) n cp,.int .i64 (x:Int),undef,undef,undef,undef,undef,undef,undef,undef,undef,undef,undef,undef,undef,undef,undef,undef,undef,undef,undef,undef,undef,undef,undef,undef],[]⟩) (fun _ _=>by kernel_rfl) ?_
  ·intro w hSw
   kernel_rfl
  refine Flo2.take HS he0 3 (.slice (some ⟨b,0,none⟩) n cp) rfl (by kernel_rfl) (fun p q=>by cases p<;>cases q<;>kernel_rfl) (fun p q=>by cases p<;>cases q<;>kernel_rfl) (fun _ _ _ h=>h) (fun t t'=>Or.inl ⟨by kernel_rfl,?_⟩) (fun p q=>#[true,true,false,true,false,false,false,false,p,q,false,false]) (fun p q=>by cases p<;>cases q<;>kernel_rfl) (fun t t'=>⟨#[.slice (some ⟨b,0,none⟩) n cp,.int .i64 (c:Int),.int .i64 (q:Int),.pointer (some ⟨H,0,none⟩),undef,.pointer (some ⟨H+1,0,none⟩),.int .i64 (x:Int),t,t',.slice (some ⟨b,0,none⟩) n cp,.int .i64 (c:Int),.int .i64 (q:Int),.func (.func 160) #[] #[.pointer (some ⟨Bo,0,none⟩),.pointer (some ⟨Bw,0,none⟩),.pointer (some ⟨Bf,0,none⟩)],.int .i64 (x:Int),u14,u15,u16,u17,u18,u19,u20,u21,u22,u23,u24,u25,u26,u27,.slice (some ⟨b,0,none⟩) n cp,.int .i64 (x:Int),undef,.slice (some ⟨b,0,none⟩) n cp,undef,undef,undef,undef,undef,undef,undef,undef,undef,undef,undef,undef,undef,undef,undef,undef,undef,undef,undef,undef,undef,undef],[]⟩) (fun _ _=>by kernel_rfl) ?_
  ·intro w hSw
   obtain ⟨h1,h2⟩:=hSw
   go_simp
   try with_reducible rfl
  refine Flo2.take HS he0 4 (.int .i64 (x:Int)) rfl (by kernel_rfl) (fun p q=>by cases p<;>cases q<;>kernel_rfl) (fun p q=>by cases p<;>cases q<;>kernel_rfl) (fun _ _ _ h=>h) (fun t t'=>Or.inl ⟨by kernel_rfl,?_⟩) (fun p q=>#[true,true,false,true,true,false,false,false,p,q,false,false]) (fun p q=>by cases p<;>cases q<;>kernel_rfl) (fun t t'=>⟨#[.slice (some ⟨b,0,none⟩) n cp,.int .i64 (c:Int),.int .i64 (q:Int),.pointer (some ⟨H,0,none⟩),undef,.pointer (some ⟨H+1,0,none⟩),.int .i64 (x:Int),t,t',.slice (some ⟨b,0,none⟩) n cp,.int .i64 (c:Int),.int .i64 (q:Int),.func (.func 160) #[] #[.pointer (some ⟨Bo,0,none⟩),.pointer (some ⟨Bw,0,none⟩),.pointer (some ⟨Bf,0,none⟩)],.int .i64 (x:Int),u14,u15,u16,u17,u18,u19,u20,u21,u22,u23,u24,u25,u26,u27,.slice (some ⟨b,0,none⟩) n cp,.int .i64 (x:Int),undef,.slice (some ⟨b,0,none⟩) n cp,.int .i64 (x:Int),undef,undef,undef,undef,undef,undef,undef,undef,undef,undef,undef,undef,undef,undef,undef,undef,undef,undef,undef,undef,undef],[]⟩) (fun _ _=>by kernel_rfl) ?_
  ·intro w hSw
   kernel_rfl
  refine Flo2.take HS he0 5 (.int .i64 (q:Int)) rfl (by kernel_rfl) (fun p q=>by cases p<;>cases q<;>kernel_rfl) (fun p q=>by cases p<;>cases q<;>kernel_rfl) (fun _ _ _ h=>h) (fun t t'=>Or.inl ⟨by kernel_rfl,?_⟩) (fun p q=>#[true,true,false,true,true,true,false,false,p,q,false,false]) (fun p q=>by cases p<;>cases q<;>kernel_rfl) (fun t t'=>⟨#[.slice (some ⟨b,0,none⟩) n cp,.int .i64 (c:Int),.int .i64 (q:Int),.pointer (some ⟨H,0,none⟩),undef,.pointer (some ⟨H+1,0,none⟩),.int .i64 (x:Int),t,t',.slice (some ⟨b,0,none⟩) n cp,.int .i64 (c:Int),.int .i64 (q:Int),.func (.func 160) #[] #[.pointer (some ⟨Bo,0,none⟩),.pointer (some ⟨Bw,0,none⟩),.pointer (some ⟨Bf,0,none⟩)],.int .i64 (x:Int),u14,u15,u16,u17,u18,u19,u20,u21,u22,u23,u24,u25,u26,u27,.slice (some ⟨b,0,none⟩) n cp,.int .i64 (x:Int),undef,.slice (some ⟨b,0,none⟩) n cp,.int .i64 (x:Int),.int .i64 (q:Int),undef,undef,undef,undef,undef,undef,undef,undef,undef,undef,undef,undef,undef,undef,undef,undef,undef,undef,undef,undef],[]⟩) (fun _ _=>by kernel_rfl) ?_
  ·intro w hSw
   obtain ⟨h1,h2⟩:=hSw
   go_simp
   try with_reducible rfl
  refine Flo2.take HS he0 6 (.int .i64 (y:Int)) rfl (by kernel_rfl) (fun p q=>by cases p<;>cases q<;>kernel_rfl) (fun p q=>by cases p<;>cases q<;>kernel_rfl) (fun _ _ _ h=>h) (fun t t'=>Or.inl ⟨by kernel_rfl,?_⟩) (fun p q=>#[true,true,false,true,true,true,true,false,p,q,false,false]) (fun p q=>by cases p<;>cases q<;>kernel_rfl) (fun t t'=>⟨#[.slice (some ⟨b,0,none⟩) n cp,.int .i64 (c:Int),.int .i64 (q:Int),.pointer (some ⟨H,0,none⟩),undef,.pointer (some ⟨H+1,0,none⟩),.int .i64 (x:Int),t,t',.slice (some ⟨b,0,none⟩) n cp,.int .i64 (c:Int),.int .i64 (q:Int),.func (.func 160) #[] #[.pointer (some ⟨Bo,0,none⟩),.pointer (some ⟨Bw,0,none⟩),.pointer (some ⟨Bf,0,none⟩)],.int .i64 (x:Int),u14,u15,u16,u17,u18,u19,u20,u21,u22,u23,u24,u25,u26,u27,.slice (some ⟨b,0,none⟩) n cp,.int .i64 (x:Int),undef,.slice (some ⟨b,0,none⟩) n cp,.int .i64 (x:Int),.int .i64 (q:Int),.int .i64 (y:Int),undef,undef,undef,undef,undef,undef,undef,undef,undef,undef,undef,undef,undef,undef,undef,undef,undef,undef,undef],[]⟩) (fun _ _=>by kernel_rfl) ?_
  ·intro w hSw
   go_simp
   try with_reducible rfl
  refine Flo2.call hA0 hA1 HS he0 2 rfl (fun q=>by cases q<;>kernel_rfl) (fun p=>by cases p<;>kernel_rfl) (fun _ _ _=>by kernel_rfl) (fun _ _ _=>by kernel_rfl) (fun p q=>by cases p<;>cases q<;>kernel_rfl) (fun _ _=>by kernel_rfl) 54 #[.slice (some ⟨b,0,none⟩) n cp,.int .i64 (x:Int)] (fun _ _ _=>by kernel_rfl) (R:=fun v w'=>∃ cc,v=.agg cc/\NmA w' cc (s' x) (2*N'+1) N') (fun wx hx=>(HAt1.out wx (he0.trans hx)).mono ?_) (fun p q=>#[true,true,true,true,true,true,true,false,p,q,false,false]) (fun p q=>by cases p<;>cases q<;>kernel_rfl) (fun vv t t'=>⟨#[.slice (some ⟨b,0,none⟩) n cp,.int .i64 (c:Int),.int .i64 (q:Int),.pointer (some ⟨H,0,none⟩),undef,.pointer (some ⟨H+1,0,none⟩),.int .i64 (x:Int),t,t',.slice (some ⟨b,0,none⟩) n cp,.int .i64 (c:Int),.int .i64 (q:Int),.func (.func 160) #[] #[.pointer (some ⟨Bo,0,none⟩),.pointer (some ⟨Bw,0,none⟩),.pointer (some ⟨Bf,0,none⟩)],.int .i64 (x:Int),u14,u15,u16,u17,u18,u19,u20,u21,u22,u23,u24,u25,u26,u27,.slice (some ⟨b,0,none⟩) n cp,.int .i64 (x:Int),vv,.slice (some ⟨b,0,none⟩) n cp,.int .i64 (x:Int),.int .i64 (q:Int),.int .i64 (y:Int),undef,undef,undef,undef,undef,undef,undef,undef,undef,undef,undef,undef,undef,undef,undef,undef,undef,undef,undef],[]⟩) (fun _ _ _=>by kernel_rfl) ?_
  ·rintro e w' ⟨cc,rfl,nn,hx'⟩;exact ⟨_,rfl,⟨cc,rfl,nn⟩,hx'⟩
  rintro v w1x ⟨ca,rfl,nA⟩ hq1;have he1:=he0.trans hq1
  refine Flo2.call hA0 hA1 HS he1 7 rfl (fun q=>by cases q<;>kernel_rfl) (fun p=>by cases p<;>kernel_rfl) (fun _ _ _=>by kernel_rfl) (fun _ _ _=>by kernel_rfl) (fun p q=>by cases p<;>cases q<;>kernel_rfl) (fun _ _=>by kernel_rfl) 54 #[.slice (some ⟨b,0,none⟩) n cp,.int .i64 (y:Int)] (fun _ _ _=>by kernel_rfl) (R:=fun v w'=>∃ cc,v=.agg cc/\NmA w' cc (s' y) (2*N'+1) N') (fun wx hx=>(HAt2.out wx (he1.trans hx)).mono ?_) (fun p q=>#[true,true,true,true,true,true,true,true,p,q,false,false]) (fun p q=>by cases p<;>cases q<;>kernel_rfl) (fun vv t t'=>⟨#[.slice (some ⟨b,0,none⟩) n cp,.int .i64 (c:Int),.int .i64 (q:Int),.pointer (some ⟨H,0,none⟩),undef,.pointer (some ⟨H+1,0,none⟩),.int .i64 (x:Int),t,t',.slice (some ⟨b,0,none⟩) n cp,.int .i64 (c:Int),.int .i64 (q:Int),.func (.func 160) #[] #[.pointer (some ⟨Bo,0,none⟩),.pointer (some ⟨Bw,0,none⟩),.pointer (some ⟨Bf,0,none⟩)],.int .i64 (x:Int),u14,u15,u16,u17,u18,u19,u20,u21,u22,u23,u24,u25,u26,u27,.slice (some ⟨b,0,none⟩) n cp,.int .i64 (x:Int),.agg ca,.slice (some ⟨b,0,none⟩) n cp,.int .i64 (x:Int),.int .i64 (q:Int),.int .i64 (y:Int),vv,undef,undef,undef,undef,undef,undef,undef,undef,undef,undef,undef,undef,undef,undef,undef,undef,undef,undef],[]⟩) (fun _ _ _=>by kernel_rfl) ?_
  ·rintro e w' ⟨cc,rfl,nn,hx'⟩;exact ⟨_,rfl,⟨cc,rfl,nn⟩,hx'⟩
  rintro v w2x ⟨cb,rfl,nB⟩ hq2;have he2:=he1.trans hq2
  refine Flo2.done hA0 hA1 HS he2 (fun q=>by cases q<;>kernel_rfl) (fun p=>by cases p<;>kernel_rfl) (fun _ _ _=>by kernel_rfl) (fun _ _ _=>by kernel_rfl) (fun p q h=>by cases p<;>cases q<;>first | exact absurd h (by decide) | kernel_rfl) ?_
  intro wy hy D D1 hD hD' hne;have hEy:=he2.trans hy;have nA':=nA.ext (hq2.trans hy);have nB':=nB.ext hy;have z1:Nums wy D 9 78 (fun _=>0):=⟨zero9,hD.2,(cells_zero9 wy).1,(cells_zero9 wy).2⟩;have z2:Nums wy D1 9 78 (fun _=>0):=⟨zero9,hD'.2,(cells_zero9 wy).1,(cells_zero9 wy).2⟩;obtain ⟨_,ch1,rr1⟩:=nA'.val.setRow z1;obtain ⟨_,ch2,rr2⟩:=(nB'.keep64 ch1.keep).val.setRow (z2.chg ch1 (fun e=>hne e.symm));have X1:Ext W (wy.setRow D ca):=ch1.ext hEy hD.1;have X2:Ext W ((wy.setRow D ca).setRow D1 cb):=ch2.ext X1 hD'.1;have r2:=(ch1.block D1 (fun e=>hne e.symm) hD'.lt).trans hD'.2;have r3:=(ch2.block D hne (gS.1 rr1).1).trans rr1;have NA:=Lh ((nA'.keep64 ch1.keep).keep64 ch2.keep);have NB:=Lh ((nB'.keep64 ch1.keep).keep64 ch2.keep);refine anyH_one (i:=10) (by kernel_rfl) rfl (fun Kk hKk=>?_);refine stepK_storeR rfl rfl 78 _ _ rfl D ca rfl rfl 78 _ hD.2 nA.info (by rw [nA.size];rfl) nA.val.one ?_;refine hKk.out _ _ (HS _ X1) ?_;clear hKk Kk;refine anyH_one (i:=11) (by kernel_rfl) rfl (fun Kk hKk=>?_);refine stepK_storeR rfl rfl 78 _ _ rfl D1 cb rfl rfl 78 _ r2 nB.info (by rw [nB.size];rfl) nB.val.one ?_;refine hKk.out _ _ (HS _ X2) ?_;clear hKk Kk;refine wpAnyH_done (by kernel_rfl) ?_ _;have hiA:=nA.info;have hiB:=nB.info;have hDb:D≠b/\D1≠b:=⟨fun e=>by have:=hD.1;have:=Hlbb.out;omega,fun e=>by have:=hD'.1;have:=Hlbb.out;omega⟩;have HDb:=Lh hDb;clear hDb nA nB nA' nB' z1 z2 ch1 ch2 X1 r2 hD hD' hne hEy hy he0 he1 he2 hq1 hq2 HAt1 HAt2 HS rr1 hA0 hA1;obtain ⟨V0,hV0⟩:∃ V0,(wy.setRow D ca).setRow D1 cb=V0:=⟨_,rfl⟩;rw [hV0] at X2 r3 rr2 NA NB ⊢;clear hV0
  show Code.wpIn _ _ _ _ _ ⟨#[.slice (some ⟨b,0,none⟩) n cp,.int .i64 (c:Int),.int .i64 (q:Int),.pointer (some ⟨H,0,none⟩),undef,.pointer (some ⟨H+1,0,none⟩),.int .i64 (x:Int),(ptrV D),(ptrV D1),.slice (some ⟨b,0,none⟩) n cp,.int .i64 (c:Int),.int .i64 (q:Int),.func (.func 160) #[] #[.pointer (some ⟨Bo,0,none⟩),.pointer (some ⟨Bw,0,none⟩),.pointer (some ⟨Bf,0,none⟩)],.int .i64 (x:Int),u14,u15,u16,u17,u18,u19,u20,u21,u22,u23,u24,u25,u26,u27,.slice (some ⟨b,0,none⟩) n cp,.int .i64 (x:Int),.agg ca,.slice (some ⟨b,0,none⟩) n cp,.int .i64 (x:Int),.int .i64 (q:Int),.int .i64 (y:Int),.agg cb,undef,undef,undef,undef,undef,undef,undef,undef,undef,undef,undef,undef,undef,undef,undef,undef,undef,undef],[]⟩ V0
  have hd0:Ext W V0.drew:=Below.drew X2;have rD:=((Below.drew (Ext.refl V0)).block D (gS.1 r3).1).trans r3;have rD1:=((Below.drew (Ext.refl V0)).block D1 (gS.1 rr2).1).trans rr2;have NA:=Lh (NA.out.ext (Below.drew (Ext.refl V0)));have NB:=Lh (NB.out.ext (Below.drew (Ext.refl V0)));clear r3 rr2 X2;refine region_round_any (by kernel_rfl) (by rfl) rnd_shut (anyT_plain (k:=17) (S:=fun w'=>True) (T:=fun w'=>(w'.cell? ⟨H,0,none⟩=some (.slice (some ⟨b,0,none⟩) n cp)/\w'.cell? ⟨H+1,0,none⟩=some (.int .i64 (q:Int)))/\(w'.heap[D]?=some (.cells ca 78 (0,0))/\w'.heap[D1]?=some (.cells cb 78 (0,0)))) _ _ _ _ ?_)
  show anyT _ _ _ _ _ _ _ 20 #[false,false,false,false,false,false,false,false,false,false,false,false,false,false,false,false,false,false,false,false] _ _
  generalize V0.drew=V at *;have lD:=(gS.1 rD).1;have lD1:=(gS.1 rD1).1;have hT:(V.cell? ⟨H,0,none⟩=some (.slice (some ⟨b,0,none⟩) n cp)/\V.cell? ⟨H+1,0,none⟩=some (.int .i64 (q:Int)))/\(V.heap[D]?=some (.cells ca 78 (0,0))/\V.heap[D1]?=some (.cells cb 78 (0,0))):=⟨⟨cellKeep hd0 lH x1,cellKeep hd0 lK x2⟩,((Ext.refl V).block D lD).trans rD,((Ext.refl V).block D1 lD1).trans rD1⟩;have hHeld:True:=trivial;refine tT 0 (v:=?_) rfl (Or.inl ⟨by rfl,?_⟩) hT (fun _=>hHeld) ?_;rotate_left 1
  ·intro w hSw
   go_simp
   try with_reducible rfl
  show anyT _ _ _ _ _ _ _ _ _ (Act.put _ (some 36) _) _
  simp only [Act.put,sx0,sx1,sx2];refine tT 1 (v:=?_) rfl (Or.inl ⟨by rfl,?_⟩) hT (fun _=>hHeld) ?_;rotate_left 1
  ·intro w hSw
   go_simp
   try with_reducible rfl
  show anyT _ _ _ _ _ _ _ _ _ (Act.put _ (some 37) _) _
  simp only [Act.put,sx0,sx1,sx2];refine tT 2 (v:=?_) rfl (Or.inl ⟨by rfl,?_⟩) hT (fun _=>hHeld) ?_;rotate_left 1
  ·intro w hSw
   go_simp
   try with_reducible rfl
  show anyT _ _ _ _ _ _ _ _ _ (Act.put _ (some 38) _) _
  simp only [Act.put,sx0,sx1,sx2];refine tT 3 (v:=?_) rfl (Or.inl ⟨by rfl,?_⟩) hT (fun _=>hHeld) ?_;rotate_left 1
  ·intro w hSw
   go_simp
   try with_reducible rfl
  show anyT _ _ _ _ _ _ _ _ _ (Act.put _ (some 39) _) _
  simp only [Act.put,sx0,sx1,sx2];refine tT 4 (v:=?_) rfl (Or.inl ⟨by rfl,?_⟩) hT (fun _=>hHeld) ?_;rotate_left 1
  ·intro w hSw
   go_simp
   try with_reducible rfl
  show anyT _ _ _ _ _ _ _ _ _ (Act.put _ (some 40) _) _
  simp only [Act.put,sx0,sx1,sx2];refine tT 5 (v:=?_) rfl (Or.inl ⟨by rfl,?_⟩) hT (fun _=>hHeld) ?_;rotate_left 1
  ·intro w hSw
   go_simp
   try with_reducible rfl
  show anyT _ _ _ _ _ _ _ _ _ (Act.put _ (some 41) _) _
  simp only [Act.put,sx0,sx1,sx2];refine tT 6 (v:=.agg ca) rfl (Or.inl ⟨by rfl,fun _ h=>exec_load_row 78 _ rfl D rfl 78 _ (0,0) _ h.2.1 Tryz.underlying78 rfl hiA⟩) hT (fun _=>hHeld) ?_
  show anyT _ _ _ _ _ _ _ _ _ (Act.put _ (some 42) _) _
  simp only [Act.put,sx0,sx1,sx2];refine tT 7 (v:=.agg cb) rfl (Or.inl ⟨by rfl,fun _ h=>exec_load_row 78 _ rfl D1 rfl 78 _ (0,0) _ h.2.2 Tryz.underlying78 rfl hiB⟩) hT (fun _=>hHeld) ?_
  show anyT _ _ _ _ _ _ _ _ _ (Act.put _ (some 43) _) _
  simp only [Act.put,sx0,sx1,sx2];refine tT 11 (v:=.agg ca) rfl (Or.inl ⟨by rfl,fun _ h=>exec_load_row 78 _ rfl D rfl 78 _ (0,0) _ h.2.1 Tryz.underlying78 rfl hiA⟩) hT (fun _=>hHeld) ?_
  show anyT _ _ _ _ _ _ _ _ _ (Act.put _ (some 47) _) _
  simp only [Act.put,sx0,sx1,sx2];refine tT 12 (v:=.agg cb) rfl (Or.inl ⟨by rfl,fun _ h=>exec_load_row 78 _ rfl D1 rfl 78 _ (0,0) _ h.2.2 Tryz.underlying78 rfl hiB⟩) hT (fun _=>hHeld) ?_
  show anyT _ _ _ _ _ _ _ _ _ (Act.put _ (some 48) _) _
  simp only [Act.put,sx0,sx1,sx2];clear hT hHeld;refine anyT_one (i:=8) (by kernel_rfl) rfl (fun Kk hKk=>?_)
  go_simp
  (go_at_call 55;refine (RAdd_nm ca cb _ _ _ _ _ _ V NA.out NB.out 10000 (by decide) (by have:=HN.out;omega) (by have:=HN.out;omega) (bru_ext HB.out hd0)).mono ?_;rintro e w1 ⟨c3,z3,rfl,n3,e3,k1⟩)
  have h1:=hd0.trans k1
  go_wp2_with fail
  refine hKk.out _ _ (⟨⟨cellKeep h1 lH x1,cellKeep h1 lK x2⟩,(k1.block D lD).trans rD,(k1.block D1 lD1).trans rD1⟩) (fun _=>trivial) ?_;clear hKk Kk;simp only [sx0,sx1,sx2];refine anyT_one (i:=9) (by kernel_rfl) rfl (fun Kk hKk=>?_)
  go_simp
  (go_at_call 142;refine (Half_nm c3 z3 _ _ w1 n3 10000 (by decide) (by have:=HN.out;omega) (by have:=HN.out;omega) (bru_ext HB.out h1)).mono ?_;rintro e w2 ⟨c4,z4,rfl,n4,e4,k2'⟩)
  have h2:=h1.trans k2';have k2:=k1.trans k2'
  go_wp2_with fail
  refine hKk.out _ _ (⟨⟨cellKeep h2 lH x1,cellKeep h2 lK x2⟩,(k2.block D lD).trans rD,(k2.block D1 lD1).trans rD1⟩) (fun _=>trivial) ?_;clear hKk Kk;simp only [sx0,sx1,sx2];refine anyT_one (i:=10) (by kernel_rfl) rfl (fun Kk hKk=>?_)
  go_simp
  (go_at_call 115;refine (kept_any c4 _ _ _ w2 n4).mono ?_;rintro e w3 ⟨p3,rfl,hp3,k3'⟩)
  have h3:=h2.trans k3';have k3:=k2.trans k3'
  go_wp2_with fail
  refine hKk.out _ _ (⟨⟨cellKeep h3 lH x1,cellKeep h3 lK x2⟩,(k3.block D lD).trans rD,(k3.block D1 lD1).trans rD1⟩) (fun _=>trivial) ?_;clear hKk Kk;simp only [sx0,sx1,sx2];refine anyT_one (i:=13) (by kernel_rfl) rfl (fun Kk hKk=>?_)
  go_simp
  (go_at_call 143;refine (RSub_nm ca cb _ _ _ _ _ _ w3 (NA.out.ext k3) (NB.out.ext k3) 10000 (by decide) (by have:=HN.out;omega) (by have:=HN.out;omega) (bru_ext HB.out h3)).mono ?_;rintro e w4 ⟨c5,z5,rfl,n5,e5,k4'⟩)
  have h4:=h3.trans k4';have k4:=k3.trans k4'
  go_wp2_with fail
  refine hKk.out _ _ (⟨⟨cellKeep h4 lH x1,cellKeep h4 lK x2⟩,(k4.block D lD).trans rD,(k4.block D1 lD1).trans rD1⟩) (fun _=>trivial) ?_;clear hKk Kk;simp only [sx0,sx1,sx2];refine anyT_one (i:=14) (by kernel_rfl) rfl (fun Kk hKk=>?_)
  go_simp
  (go_at_call 142;refine (Half_nm c5 z5 _ _ w4 n5 10000 (by decide) (by have:=HN.out;omega) (by have:=HN.out;omega) (bru_ext HB.out h4)).mono ?_;rintro e w5 ⟨c6,z6,rfl,n6,e6,k5'⟩)
  have h5:=h4.trans k5';have k5:=k4.trans k5'
  go_wp2_with fail
  refine hKk.out _ _ (⟨⟨cellKeep h5 lH x1,cellKeep h5 lK x2⟩,(k5.block D lD).trans rD,(k5.block D1 lD1).trans rD1⟩) (fun _=>trivial) ?_;clear hKk Kk;simp only [sx0,sx1,sx2];refine anyT_one (i:=15) (by kernel_rfl) rfl (fun Kk hKk=>?_)
  go_simp
  (go_at_call 115;refine (kept_any c6 _ _ _ w5 n6).mono ?_;rintro e w6 ⟨p6,rfl,hp6,k6'⟩)
  have h6:=h5.trans k6';have k6:=k5.trans k6'
  go_wp2_with fail
  refine hKk.out _ _ (⟨⟨cellKeep h6 lH x1,cellKeep h6 lK x2⟩,(k6.block D lD).trans rD,(k6.block D1 lD1).trans rD1⟩) (fun _=>trivial) ?_;clear hKk Kk;simp only [sx0,sx1,sx2];have hT:(w6.cell? ⟨H,0,none⟩=some (.slice (some ⟨b,0,none⟩) n cp)/\w6.cell? ⟨H+1,0,none⟩=some (.int .i64 (q:Int)))/\(w6.heap[D]?=some (.cells ca 78 (0,0))/\w6.heap[D1]?=some (.cells cb 78 (0,0))):=⟨⟨cellKeep h6 lH x1,cellKeep h6 lK x2⟩,(k6.block D lD).trans rD,(k6.block D1 lD1).trans rD1⟩;have hHeld:True:=trivial;refine tT 16 (v:=?_) rfl (Or.inl ⟨by rfl,?_⟩) hT (fun _=>hHeld) ?_;rotate_left 1
  ·intro w hSw
   go_simp
   try with_reducible rfl
  show anyT _ _ _ _ _ _ _ _ _ (Act.put _ (some 52) _) _
  simp only [Act.put,sx0,sx1,sx2];clear hT hHeld;have A1:Amp (N'+1) (lw (nHf (nAdd (s' x) (s' y)))):=(HW.out.amp x).hf (HW.out.amp y);have A2:Amp (N'+1) (lw (nHf (nAdd (s' x) (nNeg (s' y))))):=(HW.out.amp x).hf (HW.out.amp y).neg;have q4:z4=lw (nHf (nAdd (s' x) (s' y))):=lw_one n4.low (e4.trans (EqN.hf e3));have q6:z6=lw (nHf (nAdd (s' x) (nNeg (s' y)))):=lw_one n6.low (e6.trans (EqN.hf e5));rw [q4] at hp3;rw [q6] at hp6;have g3:=((hp3.ext k4').ext k5').ext k6';have HW6:=HW.out.ext h6;obtain ⟨hA,hB⟩:=HW6.put Hx.out g3 A1 (Nat.le_succ _);obtain ⟨_,y6,f6,_⟩:=HW6.at'.get Hx.out;have Hp2:=Lh (PtA.put (i:=x) (v:=.pointer p3) hp6 HW6.at'.row.choose_spec.1 hB.keep);have v1:(w6.setCell ⟨b,x,none⟩ (.pointer p3)).cell? ⟨H,0,none⟩=some (.slice (some ⟨b,0,none⟩) n cp):=hB.cell Hbne.out.1 (cellKeep h6 lH x1);have v2:(w6.setCell ⟨b,x,none⟩ (.pointer p3)).cell? ⟨H+1,0,none⟩=some (.int .i64 (q:Int)):=hB.cell Hbne.out.2 (cellKeep h6 lK x2);have v3:(w6.setCell ⟨b,x,none⟩ (.pointer p3)).heap[D]?=some (.cells ca 78 (0,0)):=(hB.block D HDb.out.1 (Nat.lt_of_lt_of_le lD k6.size)).trans ((k6.block D lD).trans rD);have v4:(w6.setCell ⟨b,x,none⟩ (.pointer p3)).heap[D1]?=some (.cells cb 78 (0,0)):=(hB.block D1 HDb.out.2 (Nat.lt_of_lt_of_le lD1 k6.size)).trans ((k6.block D1 lD1).trans rD1);have HdC:=Lh ((Chg.of_ext (g:=b) h6).trans hB);refine anyT_one (i:=17) (by kernel_rfl) rfl (fun Kk hKk=>?_);refine stepK_storeP rfl rfl _ _ rfl b x p3 _ rfl rfl y6 f6 ?_;refine hKk.out _ _ (⟨⟨v1,v2⟩,v3,v4⟩) (fun h=>Bool.noConfusion (show true=false from h)) ?_;clear hKk Kk;simp only [sx0,sx1,sx2];clear hB HW6 n3 n4 n5 n6 e3 e4 e5 e6 k1 k2 k3 k4 k5 k6 k2' k3' k4' k5' k6' h1 h2 h3 h4 h5 h6 hp3 hp6 g3 y6 f6 NA NB;generalize w6.setCell ⟨b,x,none⟩ (.pointer p3)=V2 at *;have hT:(V2.cell? ⟨H,0,none⟩=some (.slice (some ⟨b,0,none⟩) n cp)/\V2.cell? ⟨H+1,0,none⟩=some (.int .i64 (q:Int)))/\(V2.heap[D]?=some (.cells ca 78 (0,0))/\V2.heap[D1]?=some (.cells cb 78 (0,0))):=⟨⟨v1,v2⟩,v3,v4⟩;refine tT 18 (v:=?_) rfl (Or.inl ⟨by rfl,?_⟩) hT (fun h=>Bool.noConfusion (show true=false from h)) ?_
  rotate_left 1
  ·intro w hSw
   go_simp
   try with_reducible rfl
  show anyT _ _ _ _ _ _ _ _ _ (Act.put _ (some 53) _) _
  simp only [Act.put,sx0,sx1,sx2];clear hT;obtain ⟨hA2,hB2⟩:=hA.put Hyn.out Hp2.out A2 (Nat.le_refl _);obtain ⟨p8,y8,f8,_⟩:=hA.at'.get Hyn.out;have l8:=World.block_lt_of_cell? V2 ⟨b,y,none⟩ y8;have v5:(V2.setCell ⟨b,y,none⟩ (.pointer p6)).cell? ⟨H,0,none⟩=some (.slice (some ⟨b,0,none⟩) n cp):=hB2.cell Hbne.out.1 v1;have v6:(V2.setCell ⟨b,y,none⟩ (.pointer p6)).cell? ⟨H+1,0,none⟩=some (.int .i64 (q:Int)):=hB2.cell Hbne.out.2 v2;have v7:=(hB2.block D HDb.out.1 (gS.1 v3).1).trans v3;have v8:=(hB2.block D1 HDb.out.2 (gS.1 v4).1).trans v4;have Hend:=Lh (show WvA (V2.setCell ⟨b,y,none⟩ (.pointer p6)) b n (up2 s' x (lw (nHf (nAdd (s' x) (s' y)))) y (lw (nHf (nAdd (s' x) (nNeg (s' y)))))) (N'+1)/\Chg b W (V2.setCell ⟨b,y,none⟩ (.pointer p6)) from ⟨by rw [up2_eq _ _ _ _ _ Hxy.out];exact hA2,HdC.out.trans hB2⟩);refine anyT_one (i:=19) (by kernel_rfl) rfl (fun Kk hKk=>?_);refine stepK_storeP rfl rfl _ _ rfl b y p6 _ rfl rfl y8 f8 ?_;refine hKk.out _ _ (⟨⟨v5,v6⟩,v7,v8⟩) (fun h=>Bool.noConfusion (show true=false from h)) ?_;clear hKk Kk;simp only [sx0,sx1,sx2];refine anyT_done (by kernel_rfl) ?_ _;exact Hend.out
open Go.RowKit Go.Shelf
attribute [local go_sem] Oper.semAt_some
theorem side_any (ao:Option Addr) (n cp q:Nat) (v:Int) (hv:v=0\/v=1) (w:World) (hq:q<4096) :
  Calls Tryz.prog 144 #[.slice ao n cp,.int .i64 (q:Int),.int .i64 v] w fun e w'=>∃ Bo Bw Bf,
   e=.returned (.func (.func 160) #[] #[.pointer (some ⟨Bo,0,none⟩),.pointer (some ⟨Bw,0,none⟩),.pointer (some ⟨Bf,0,none⟩)])/\Ext w w' /\
   w'.cell? ⟨Bo,0,none⟩=some (.int .i64 ((if v=1 then q else 0:Nat):Int))/\w'.cell? ⟨Bw,0,none⟩=some (.slice ao n cp)/\w'.cell? ⟨Bf,0,none⟩=some (.int .i64 (q:Int)) /\
   (w.heap.size<=Bo/\Bo<w'.heap.size)/\(w.heap.size<=Bw/\Bw<w'.heap.size)/\(w.heap.size<=Bf/\Bf<w'.heap.size):=by
 rcases hv with rfl | rfl
 ·have HQ:=Lh (states_any ao n cp 0 q w (by decide) hq)
  rw [Nat.zero_or] at HQ;clear hq
  go_enter Tryz.func144,Tryz.ntmps144
  go_wp2_with fail
  refine HQ.out.mono ?_;rintro e w' ⟨Bo,Bw,Bf,rfl,h⟩;have HX:=Lh h;clear h HQ
  go_wp2_with fail
  go_ret
  exact ⟨_,_,_,rfl,HX.out⟩
 ·have HQ:=Lh (states_any ao n cp q 0 w hq (by decide))
  rw [Nat.or_zero] at HQ;clear hq
  go_enter Tryz.func144,Tryz.ntmps144
  go_wp2_with fail
  refine HQ.out.mono ?_;rintro e w' ⟨Bo,Bw,Bf,rfl,h⟩;have HX:=Lh h;clear h HQ
  go_wp2_with fail
  go_ret
  exact ⟨_,_,_,rfl,HX.out⟩
theorem drop_any (b n cp q:Nat) (v:Int) (hv:v=0\/v=1) (s:Nat->Nm) (N:Nat) (w:World) (h:WvA w b n s N) (hn:n<=4096) (hq:q<4096) :
  Calls Tryz.prog 121 #[.slice (some ⟨b,0,none⟩) n cp,.int .i64 (q:Int),.int .i64 v] w fun e w'=>(∃ v,e=.returned v)/\WvA w' b n (drS (if v=1 then q else 0) q n s) (N+4096)/\Chg b w w':=by
 obtain ⟨H,hH⟩:∃ H,w.heap.size=H:=⟨_,rfl⟩
 have hbH:b<H:=by rw [<-hH];exact h.at'.lt
 obtain ⟨W1,hW1⟩:∃ W1,(w.alloc (.cells #[.slice (some ⟨b,0,none⟩) n cp] 66))=W1:=⟨_,rfl⟩
 have E1:Ext w W1:=by rw [<-hW1];exact ext_alloc _ _
 have z1:W1.cell? ⟨H,0,none⟩=some (.slice (some ⟨b,0,none⟩) n cp):=by rw [<-hW1,<-hH];exact new1 _ _ _
 have sz1:H<W1.heap.size:=by rw [<-hW1,<-hH];simp
 have HW1:=Lh hW1;have HH:=Lh hH;have HS:=Lh (side_any (some ⟨b,0,none⟩) n cp q v hv W1 hq);obtain ⟨o,ho⟩:∃ o:Nat,(if v=1 then q else 0:Nat)=o:=⟨_,rfl⟩;rw [ho] at HS ⊢
 have hof:o &&& q=o:=by
  rw [<-ho]
  split
  ·exact Nat.and_self q
  ·exact Nat.zero_and q
 clear hW1 hH ho hv;refine (callsIn_wide (n:=3)).1 ?_;refine callsIn_of_wp_marks Tryz.func121 rfl trivial ?_ rfl;simp only [Tryz.ntmps121,List.size_toArray,List.length_cons,List.length_nil,Nat.reduceAdd,Nat.reduceSub,Array.replicate_succ,Array.replicate_zero,List.push_toArray,List.append_toArray,List.nil_append,List.cons_append];refine wpIn_wide.2 ?_
 go_upto_region 1 with fail
 rw [HW1.out,HH.out]
 go_wp2_with fail
 refine HS.out.mono ?_;rintro e U ⟨Bo,Bw,Bf,rfl,EU,c1,c2,c3,g1,g2,g3⟩;have hU:WvA U b n s N:=(h.ext E1).ext EU;have y1:=(EU.cell (p:=⟨H,0,none⟩) (show H<W1.heap.size by omega)).trans z1
 go_wp2_with fail
 refine wpIn_wide.1 (range_states (m:=3) (fun s x=>up1 s x nZ) rfl (by decide) hof hn hq ⟨by omega,g1.2⟩ ⟨by omega,g2.2⟩ ⟨by omega,g3.2⟩ c1 c2 c3 hU rfl
  (fun x=>{ tmps:=#[.slice (some ⟨b,0,none⟩) n cp,.int .i64 (q:Int),.int .i64 v,.pointer (some ⟨H,0,none⟩),undef,undef,.int .i64 (x:Int),.slice (some ⟨b,0,none⟩) n cp,.int .i64 (q:Int),.int .i64 v,
   .func (.func 160) #[] #[.pointer (some ⟨Bo,0,none⟩),.pointer (some ⟨Bw,0,none⟩),.pointer (some ⟨Bf,0,none⟩)],.int .i64 (x:Int),undef,undef,undef],defers:=[] }) ?assign ?body ?done)
 case assign =>
  intro l x W K hK
  gi_wp2
  exact hK
 case done =>
  intro D W hD hW hC hK
  go_wp2_with fail
  refine ⟨by simp,.inl ⟨_,_,rfl,run_takeDeferred hK,?_⟩⟩;obtain ⟨h1,h2⟩:=fin_wave hW hC hD hK;exact ⟨_,results_none rfl _ _ _,⟨_,rfl⟩,h1,(Chg.of_ext (E1.trans EU)).trans h2⟩
 case body =>
  intro l x s' N' W hx hxf hW hC hN';have x1:=hC.cell (show H≠b by omega) y1;obtain ⟨p,y0,fz,hp⟩:=hW.at'.get hx
  have q0:(0:Int)<=(x:Int):=by omega
  have q1:(x:Int)<(n:Int):=by omega
  obtain ⟨hA,hB⟩:=hW.put hx (PtA.zero W 1 0) (Amp.zero N') (Nat.le_refl _);have Hend:=Lh (show WvA (W.setCell ⟨b,x,none⟩ (.pointer none)) b n (up1 s' x nZ) (N'+1)/\Chg b W (W.setCell ⟨b,x,none⟩ (.pointer none)) from ⟨hA.le (Nat.le_succ _),hB⟩);clear hA hB hW hx hxf hC hN' y1 c1 c2 c3 g1 g2 g3 hU EU z1 E1 h hn hq hbH sz1 HW1 HH hp hof HS;refine wpIn_block (region_round (by rfl) rnd_shut ?_)
  go_wp2_with fail
  exact Hend.out
end Go.Proofs.YtfjnlopbmkimiaaGreatDoor
