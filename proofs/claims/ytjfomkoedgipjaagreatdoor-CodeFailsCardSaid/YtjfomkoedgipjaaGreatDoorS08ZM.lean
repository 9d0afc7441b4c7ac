/-
  The reference's numbers: ZNeg, ZAdd, ZSub, ZCmp. The reference's numbers: ZSub, ZCmp. The reference's numbers: a block of ints that is written; the digits of a product. The reference's writing: ZText. The reference's numbers: ZMul.
-/
import Derived.Lib.ItoaMem
import Derived.Test.YtjfomkoedgipjaaGreatDoorS07ZE
namespace Go.Proofs.YtjfomkoedgipjaaGreatDoor
set_option maxRecDepth 100000
set_option maxHeartbeats 2000000
open Go.RowKit
theorem zKeep {W w':World} (h:Ext W w') {b o:Nat} {v:Value} (hb:b<W.heap.size) (hc:W.cell? ⟨b,o,none⟩=some v):w'.cell? ⟨b,o,none⟩=some v:=(h.cell (p:=⟨b,o,none⟩) hb).trans hc
theorem zPut {w':World} {g o' b o:Nat} {u v:Value} (hne:b≠g) (hc:w'.cell? ⟨b,o,none⟩=some v):(w'.setCell ⟨g,o',none⟩ u).cell? ⟨b,o,none⟩=some v:=by
 have hO:Only g w' (w'.setCell ⟨g,o',none⟩ u):=(Only.refl _ _).setCell _ _;exact (jR (a:=⟨b,o,none⟩) (hO.block _ hne)).trans hc
theorem zput2 {w W:World} {g:Nat} (h:Ext w W) (hg:w.heap.size<=g) (u v:Value):Ext w ((W.setCell ⟨g,0,none⟩ u).setCell ⟨g,1,none⟩ v):=(yD h (p:=⟨g,0,none⟩) hg u).setCell (p:=⟨g,1,none⟩) hg v
structure ZBx (W:World) (g:Nat) (b:Bool) (a:Option Addr) (n c:Nat):Prop where
 row:W.heap[g]?=some (.cells #[.bool b,.slice a n c] 33 (0,0))
theorem ZBx.lt {W:World} {g:Nat} {b:Bool} {a:Option Addr} {n c:Nat} (h:ZBx W g b a n c):g<W.heap.size:=(gS.1 h.row).1
theorem ZBx.ext {W W':World} {g:Nat} {b:Bool} {a:Option Addr} {n c:Nat} (h:ZBx W g b a n c) (k:Ext W W'):ZBx W' g b a n c:=⟨(k.block _ h.lt).trans h.row⟩
theorem ZBx.c0 {W:World} {g:Nat} {b:Bool} {a:Option Addr} {n c:Nat} (h:ZBx W g b a n c):W.cell? ⟨g,0,none⟩=some (.bool b):=by rw [qD W g 0 _ _ (0,0) h.row];rfl
theorem ZBx.c1 {W:World} {g:Nat} {b:Bool} {a:Option Addr} {n c:Nat} (h:ZBx W g b a n c):W.cell? ⟨g,1,none⟩=some (.slice a n c):=by rw [qD W g 1 _ _ (0,0) h.row];rfl
theorem zbx_new (w:World) (b:Bool) (a:Option Addr) (n c:Nat):ZBx (w.alloc (.cells #[.bool b,.slice a n c] 33)) w.heap.size b a n c:=⟨qW w _⟩
theorem ZNeg_any (neg:Bool) (ao:Option Addr) (n c:Nat) (z:Int) (w:World) (h:IsZ w neg ao n c z) (hn:n<=1000000) :
  Calls Tryz.prog 79 #[.agg #[.bool neg,.slice ao n c]] w (ZRet w (-z) n):=by
 obtain ⟨l,h1,h2,h3,h4,h5,h6,h7,h8⟩:=h;have hE:=(ext_alloc w (.cells #[.bool neg,.slice ao n c] 33)).trans (ext_alloc _ (.cells #[.bool false,.slice none 0 0] 33));have hR:=zres_new (w.alloc (.cells #[.bool neg,.slice ao n c] 33));rw [show (w.alloc (.cells #[.bool neg,.slice ao n c] 33)).heap.size=w.heap.size+1 from by simp] at hR
 have Hz:Hid (-z=if (!neg)=true then -(zval l:Int) else (zval l:Int)):=by
  show _=_
  rw [h7];cases neg<;>simp
 have Hm:=Lh (fun wx (hx:Ext w wx)=>zmade_any (!neg) ao l n c wx h1 (h4.ext hx) h5 h2 h3 hn (-z) Hz.out);clear h1 h2 h3 h4 h5 h6 h7 h8
 go_enter Tryz.func79,Tryz.ntmps79
 go_wp2_with fail
 refine (Hm.out _ hE).mono ?_;rintro e w1 ⟨b',a',n',c',rfl,hI,hle,hx⟩;have hR1:=hR.ext hx;have k0:=hR1.c0;have k1:=hR1.c1;have f0:=hR1.f 0;have f1:=hR1.f 1
 go_wp2_with fail
 exact qJ (v:=.agg #[.bool b',.slice a' n' c']) (by simp [results,Tryz.results79,go_sem,k0,k1]) rfl ⟨b',a',n',c',rfl,hI.keepRes hR1.row _ _,hle,zput2 (hE.trans hx) (by omega) _ _⟩
theorem ZAdd_any (b1 b2:Bool) (a1 a2:Option Addr) (n1 c1 n2 c2:Nat) (z1 z2:Int) (w:World) (h1:IsZ w b1 a1 n1 c1 z1) (h2:IsZ w b2 a2 n2 c2 z2) (hn1:n1<=500000) (hn2:n2<=500000) :
  Calls Tryz.prog 81 #[.agg #[.bool b1,.slice a1 n1 c1],.agg #[.bool b2,.slice a2 n2 c2]] w (ZRet w (z1+z2) (max n1 n2+1)):=by
 have H1:=Lh h1;have H2:=Lh h2;obtain ⟨la,p1,p2,p3,p4,p5,p6,p7,p8⟩:=h1;obtain ⟨lb,q1,q2,q3,q4,q5,q6,q7,q8⟩:=h2;have hE:=((ext_alloc w (.cells #[.bool b1,.slice a1 n1 c1] 33)).trans (ext_alloc _ (.cells #[.bool b2,.slice a2 n2 c2] 33))).trans (ext_alloc _ (.cells #[.bool false,.slice none 0 0] 33));have bA:=((zbx_new w b1 a1 n1 c1).ext (ext_alloc _ (.cells #[.bool b2,.slice a2 n2 c2] 33))).ext (ext_alloc _ (.cells #[.bool false,.slice none 0 0] 33));have bB:=(zbx_new (w.alloc (.cells #[.bool b1,.slice a1 n1 c1] 33)) b2 a2 n2 c2).ext (ext_alloc _ (.cells #[.bool false,.slice none 0 0] 33));have hR:=zres_new ((w.alloc (.cells #[.bool b1,.slice a1 n1 c1] 33)).alloc (.cells #[.bool b2,.slice a2 n2 c2] 33));rw [show (w.alloc (.cells #[.bool b1,.slice a1 n1 c1] 33)).heap.size=w.heap.size+1 from by simp] at bB;rw [show ((w.alloc (.cells #[.bool b1,.slice a1 n1 c1] 33)).alloc (.cells #[.bool b2,.slice a2 n2 c2] 33)).heap.size=w.heap.size+1+1 from by simp] at hR;have k0:=hR.c0;have k1:=hR.c1;have f0:=hR.f 0;have f1:=hR.f 1;have x0:=bA.c0;have x1:=bA.c1;have y0:=bB.c0;have y1:=bB.c1
 by_cases h10:n1=0
 ·have hz:z1=0:=by
   have:la=[]:=jD (by omega);rw [p7,this];simp [zval]
  subst h10;rw [hz,Int.zero_add];clear p1 p2 p3 p4 p5 p6 p7 p8 q1 q2 q3 q4 q5 q6 q7 q8
  go_enter Tryz.func81,Tryz.ntmps81
  go_wp2_with fail
  exact qJ (v:=.agg #[.bool b2,.slice a2 n2 c2]) (by simp [results,Tryz.results81,go_sem]) rfl ⟨b2,a2,n2,c2,rfl,H2.out.ext (((ext_alloc _ _).trans (ext_alloc _ _)).trans (ext_alloc _ _)),by omega,((ext_alloc _ _).trans (ext_alloc _ _)).trans (ext_alloc _ _)⟩
 ·have g1:((n1:Int) == 0)=false:=by rw [qV];omega
  by_cases h20:n2=0
  ·have hz:z2=0:=by
    have:lb=[]:=jD (by omega);rw [q7,this];simp [zval]
   subst h20;rw [hz,Int.add_zero];clear p1 p2 p3 p4 p5 p6 p7 p8 q1 q2 q3 q4 q5 q6 q7 q8
   go_enter Tryz.func81,Tryz.ntmps81
   go_wp2_with fail
   exact qJ (v:=.agg #[.bool b1,.slice a1 n1 c1]) (by simp [results,Tryz.results81,go_sem]) rfl ⟨b1,a1,n1,c1,rfl,H1.out.ext (((ext_alloc _ _).trans (ext_alloc _ _)).trans (ext_alloc _ _)),by omega,((ext_alloc _ _).trans (ext_alloc _ _)).trans (ext_alloc _ _)⟩
  ·have g2:((n2:Int) == 0)=false:=by rw [qV];omega
   have P7:=Lh p7;have Q7:=Lh q7;have Hda:=Lh (fun wx (hx:Ext w wx)=>dadd_any a1 a2 la lb n1 n2 c1 c2 wx p1 q1 (p4.ext hx) (q4.ext hx) p5 q5 (by omega) (by omega));have Hdc:=Lh (fun wx (hx:Ext w wx)=>dcmp_any a1 a2 la lb n1 n2 c1 c2 wx p1 q1 (p4.ext hx) (q4.ext hx) p5 q5 p6 q6 p2 q2 (by omega) (by omega));have Hs1:=Lh (fun wx (hx:Ext w wx) (hv:zval lb<=zval la)=>dsub_any a1 a2 la lb n1 n2 c1 c2 wx p1 q1 (p4.ext hx) (q4.ext hx) p5 q5 (by omega) (yP (fun hlt=>by have:=zval_lt_len p5 q6 (by omega);omega)) hv);have Hs2:=Lh (fun wx (hx:Ext w wx) (hv:zval la<=zval lb)=>dsub_any a2 a1 lb la n2 n1 c2 c1 wx q1 p1 (q4.ext hx) (p4.ext hx) q5 p5 (by omega) (yP (fun hlt=>by have:=zval_lt_len q5 p6 (by omega);omega)) hv);clear p1 p2 p3 p4 p5 p6 p7 p8 q1 q2 q3 q4 q5 q6 q7 q8 h10 h20 H1 H2 k0 k1 f0 f1
   by_cases hbb:b1=b2
   ·subst hbb
    have HV:Hid (∀ l5,zval l5=zval la+zval lb->z1+z2=if b1=true then -(zval l5:Int) else (zval l5:Int)):=by
     intro l5 h5
     rw [P7.out,Q7.out,h5];cases b1<;>simp<;>omega
    have hbt:(b1 == b1)=true:=by simp
    go_enter Tryz.func81,Tryz.ntmps81
    go_wp2_with fail
    generalize ((w.alloc (.cells #[.bool b1,.slice a1 n1 c1] 33)).alloc (.cells #[.bool b1,.slice a2 n2 c2] 33)).alloc (.cells #[.bool false,.slice none 0 0] 33)=WB at *;have hRB:=hR;have lR:=hR.lt;have hBd:Ext WB WB.drew:=qG (Ext.refl _)
    go_region_held3 (fun w'=>w'.cell? ⟨w.heap.size,0,none⟩=some (.bool b1)/\w'.cell? ⟨w.heap.size,1,none⟩=some (.slice a1 n1 c1)/\w'.cell? ⟨w.heap.size+1,0,none⟩=some (.bool b1)/\w'.cell? ⟨w.heap.size+1,1,none⟩=some (.slice a2 n2 c2))
     (refine ⟨?_,?_,?_,?_⟩<;>(repeat (refine zPut (by omega) ?_))<;>exact zKeep (W:=WB) (by assumption) (by omega) (by assumption))
     (first | (go_at_call 119;refine (Hda.out _ (hE.trans (by assumption))).mono ?_;rintro e w5 ⟨a5,l5,n5,c5,rfl,hl5,hn5,hc5,hs5,hd5,Hv5,hm5,hx5⟩;have he5:Ext WB w5:=Ext.trans (by assumption) hx5) | (go_at_call 30;refine (zmade_any b1 a5 l5 n5 c5 w5 hl5 hs5 hd5 hn5 hc5 (by omega) (z1+z2) (HV.out l5 Hv5.out)).mono ?_;rintro e w9 ⟨b',a',n',c',rfl,hI,hle,hx9⟩;have he9:Ext WB w9:=he5.trans hx9;have hR9:=hRB.ext he9;have k0:=hR9.c0;have k1:=hR9.c1;have f0:=hR9.f 0;have f1:=hR9.f 1))
    go_wp2_with fail
    exact qJ (v:=.agg #[.bool b',.slice a' n' c']) (by simp [results,Tryz.results81,go_sem,k0,k1]) rfl ⟨b',a',n',c',rfl,hI.keepRes hR9.row _ _,by omega,zput2 (hE.trans he9) (by omega) _ _⟩
   ·have hbt:(b1 == b2)=false:=by cases b1<;>cases b2<;>simp_all
    have Hbb:=Lh hbb;obtain ⟨k,ek⟩:∃ k,zc (zval la) (zval lb)=k:=⟨_,rfl⟩;rw [ek] at Hdc;have Ek:=Lh ek;clear ek hbb
    go_enter Tryz.func81,Tryz.ntmps81
    go_wp2_with fail
    generalize ((w.alloc (.cells #[.bool b1,.slice a1 n1 c1] 33)).alloc (.cells #[.bool b2,.slice a2 n2 c2] 33)).alloc (.cells #[.bool false,.slice none 0 0] 33)=WB at *;refine (Hdc.out _ hE).mono ?_;rintro e WC ⟨rfl,hxC⟩;have HEC:=Lh (hE.trans hxC);have hRC:=hR.ext hxC;have lR:=hRC.lt;have z0:=zKeep hxC bA.lt x0;have z1':=zKeep hxC bA.lt x1;have z2':=zKeep hxC bB.lt y0;have z3:=zKeep hxC bB.lt y1;have hCd:Ext WC WC.drew:=qG (Ext.refl _);clear x0 x1 y0 y1 bA bB hR hE hxC
    by_cases hge:zval lb<=zval la
    ·have Hge:=Lh hge
     have ik:(0:Int)<=k:=by
      rw [<-Ek.out];unfold zc;rw [qE (by omega)]
      split<;>decide
     have HV:Hid (∀ l5,zval l5+zval lb=zval la->z1+z2=if b1=true then -(zval l5:Int) else (zval l5:Int)):=by
      intro l5 h5;have hb:=Hbb.out;rw [P7.out,Q7.out]
      cases b1<;>cases b2<;>simp_all<;>omega
     clear hge
     go_wp2_with fail
     go_region_held3 (fun w'=>w'.cell? ⟨w.heap.size,0,none⟩=some (.bool b1)/\w'.cell? ⟨w.heap.size,1,none⟩=some (.slice a1 n1 c1)/\w'.cell? ⟨w.heap.size+1,0,none⟩=some (.bool b2)/\w'.cell? ⟨w.heap.size+1,1,none⟩=some (.slice a2 n2 c2))
      (refine ⟨?_,?_,?_,?_⟩<;>(repeat (refine zPut (by omega) ?_))<;>exact zKeep (W:=WC) (by assumption) (by omega) (by assumption))
      (first | (go_at_call 121;refine (Hs1.out _ (HEC.out.trans (by assumption)) Hge.out).mono ?_;rintro e w5 ⟨a5,l5,n5,c5,rfl,hl5,hn5,hc5,hs5,hd5,Hv5,hm5,hx5⟩;have he5:Ext WC w5:=Ext.trans (by assumption) hx5) | (go_at_call 30;refine (zmade_any b1 a5 l5 n5 c5 w5 hl5 hs5 hd5 hn5 hc5 (by omega) (z1+z2) (HV.out l5 Hv5.out)).mono ?_;rintro e w9 ⟨b',a',n',c',rfl,hI,hle,hx9⟩;have he9:Ext WC w9:=he5.trans hx9;have hR9:=hRC.ext he9;have k0:=hR9.c0;have k1:=hR9.c1;have f0:=hR9.f 0;have f1:=hR9.f 1))
     go_wp2_with fail
     exact qJ (v:=.agg #[.bool b',.slice a' n' c']) (by simp [results,Tryz.results81,go_sem,k0,k1]) rfl ⟨b',a',n',c',rfl,hI.keepRes hR9.row _ _,by omega,zput2 (HEC.out.trans he9) (by omega) _ _⟩
    ·have Hge:Hid (zval la<=zval lb):=by show _<=_;omega
     have ik:¬ (0:Int)<=k:=by
      rw [<-Ek.out];unfold zc;rw [qU (by omega)];decide
     have HV:Hid (∀ l5,zval l5+zval la=zval lb->z1+z2=if b2=true then -(zval l5:Int) else (zval l5:Int)):=by
      intro l5 h5;have hb:=Hbb.out;rw [P7.out,Q7.out]
      cases b1<;>cases b2<;>simp_all<;>omega
     clear hge
     go_wp2_with fail
     go_region_held3 (fun w'=>w'.cell? ⟨w.heap.size,0,none⟩=some (.bool b1)/\w'.cell? ⟨w.heap.size,1,none⟩=some (.slice a1 n1 c1)/\w'.cell? ⟨w.heap.size+1,0,none⟩=some (.bool b2)/\w'.cell? ⟨w.heap.size+1,1,none⟩=some (.slice a2 n2 c2))
      (refine ⟨?_,?_,?_,?_⟩<;>(repeat (refine zPut (by omega) ?_))<;>exact zKeep (W:=WC) (by assumption) (by omega) (by assumption))
      (first | (go_at_call 121;refine (Hs2.out _ (HEC.out.trans (by assumption)) Hge.out).mono ?_;rintro e w5 ⟨a5,l5,n5,c5,rfl,hl5,hn5,hc5,hs5,hd5,Hv5,hm5,hx5⟩;have he5:Ext WC w5:=Ext.trans (by assumption) hx5) | (go_at_call 30;refine (zmade_any b2 a5 l5 n5 c5 w5 hl5 hs5 hd5 hn5 hc5 (by omega) (z1+z2) (HV.out l5 Hv5.out)).mono ?_;rintro e w9 ⟨b',a',n',c',rfl,hI,hle,hx9⟩;have he9:Ext WC w9:=he5.trans hx9;have hR9:=hRC.ext he9;have k0:=hR9.c0;have k1:=hR9.c1;have f0:=hR9.f 0;have f1:=hR9.f 1))
     go_wp2_with fail
     exact qJ (v:=.agg #[.bool b',.slice a' n' c']) (by simp [results,Tryz.results81,go_sem,k0,k1]) rfl ⟨b',a',n',c',rfl,hI.keepRes hR9.row _ _,by omega,zput2 (HEC.out.trans he9) (by omega) _ _⟩
theorem ZSub_any (b1 b2:Bool) (a1 a2:Option Addr) (n1 c1 n2 c2:Nat) (z1 z2:Int) (w:World) (h1:IsZ w b1 a1 n1 c1 z1) (h2:IsZ w b2 a2 n2 c2 z2) (hn1:n1<=500000) (hn2:n2<=500000) :
  Calls Tryz.prog 72 #[.agg #[.bool b1,.slice a1 n1 c1],.agg #[.bool b2,.slice a2 n2 c2]] w (ZRet w (z1-z2) (max n1 n2+1)):=by
 have H1:=Lh h1;have H2:=Lh h2;have hE:=((ext_alloc w (.cells #[.bool b1,.slice a1 n1 c1] 33)).trans (ext_alloc _ (.cells #[.bool b2,.slice a2 n2 c2] 33))).trans (ext_alloc _ (.cells #[.bool false,.slice none 0 0] 33));have bA:=((zbx_new w b1 a1 n1 c1).ext (ext_alloc _ (.cells #[.bool b2,.slice a2 n2 c2] 33))).ext (ext_alloc _ (.cells #[.bool false,.slice none 0 0] 33));have bB:=(zbx_new (w.alloc (.cells #[.bool b1,.slice a1 n1 c1] 33)) b2 a2 n2 c2).ext (ext_alloc _ (.cells #[.bool false,.slice none 0 0] 33));have hR:=zres_new ((w.alloc (.cells #[.bool b1,.slice a1 n1 c1] 33)).alloc (.cells #[.bool b2,.slice a2 n2 c2] 33));rw [show (w.alloc (.cells #[.bool b1,.slice a1 n1 c1] 33)).heap.size=w.heap.size+1 from by simp] at bB;rw [show ((w.alloc (.cells #[.bool b1,.slice a1 n1 c1] 33)).alloc (.cells #[.bool b2,.slice a2 n2 c2] 33)).heap.size=w.heap.size+1+1 from by simp] at hR;have x0:=bA.c0;have x1:=bA.c1;have y0:=bB.c0;have y1:=bB.c1;clear h1 h2
 go_enter Tryz.func72,Tryz.ntmps72
 go_wp2_with fail
 generalize ((w.alloc (.cells #[.bool b1,.slice a1 n1 c1] 33)).alloc (.cells #[.bool b2,.slice a2 n2 c2] 33)).alloc (.cells #[.bool false,.slice none 0 0] 33)=WB at *;have lR:=hR.lt;have hBd:Ext WB WB.drew:=qG (Ext.refl _)
 go_region_held3 (fun w'=>w'.cell? ⟨w.heap.size,0,none⟩=some (.bool b1)/\w'.cell? ⟨w.heap.size,1,none⟩=some (.slice a1 n1 c1)/\w'.cell? ⟨w.heap.size+1,0,none⟩=some (.bool b2)/\w'.cell? ⟨w.heap.size+1,1,none⟩=some (.slice a2 n2 c2))
  (refine ⟨?_,?_,?_,?_⟩<;>(repeat (refine zPut (by omega) ?_))<;>exact zKeep (W:=WB) (by assumption) (by omega) (by assumption))
  (first | (go_at_call 79;refine (ZNeg_any b2 a2 n2 c2 z2 _ (H2.out.ext (hE.trans (by assumption))) (by omega)).mono ?_;rintro e w5 ⟨b5,a5,n5,c5,rfl,hI5,hle5,hx5⟩;have he5:Ext WB w5:=Ext.trans (by assumption) hx5) | (go_at_call 81;refine (ZAdd_any b1 b5 a1 a5 n1 c1 n5 c5 z1 (-z2) w5 (H1.out.ext (hE.trans he5)) hI5 hn1 (by omega)).mono ?_;rintro e w9 ⟨b',a',n',c',rfl,hI,hle,hx9⟩;have he9:Ext WB w9:=he5.trans hx9;have hR9:=hR.ext he9;have k0:=hR9.c0;have k1:=hR9.c1;have f0:=hR9.f 0;have f1:=hR9.f 1))
 go_wp2_with fail
 exact qJ (v:=.agg #[.bool b',.slice a' n' c']) (by simp [results,Tryz.results72,go_sem,k0,k1]) rfl ⟨b',a',n',c',rfl,(hI.cast (by omega)).keepRes hR9.row _ _,by omega,zput2 (hE.trans he9) (by omega) _ _⟩
theorem ZCmp_any (b1 b2:Bool) (a1 a2:Option Addr) (n1 c1 n2 c2:Nat) (z1 z2:Int) (w:World) (h1:IsZ w b1 a1 n1 c1 z1) (h2:IsZ w b2 a2 n2 c2 z2) (hn1:n1<=500000) (hn2:n2<=500000) (k:Int) (hk:k=if z1-z2<0 then -1 else if 0<z1-z2 then 1 else 0) :
  Calls Tryz.prog 32 #[.agg #[.bool b1,.slice a1 n1 c1],.agg #[.bool b2,.slice a2 n2 c2]] w fun e w'=>e=.returned (.int .i64 k)/\Ext w w':=by
 have H1:=Lh h1;have H2:=Lh h2;have Hk:=Lh hk;have hE:=(ext_alloc w (.cells #[.bool b1,.slice a1 n1 c1] 33)).trans (ext_alloc _ (.cells #[.bool b2,.slice a2 n2 c2] 33));clear h1 h2 hk
 go_enter Tryz.func32,Tryz.ntmps32
 go_wp2_with fail
 refine (ZSub_any b1 b2 a1 a2 n1 c1 n2 c2 z1 z2 _ (H1.out.ext hE) (H2.out.ext hE) hn1 hn2).mono ?_;rintro e w1 ⟨b',a',n',c',rfl,hI,hle,hx1⟩
 go_wp2_with fail
 refine (zsign_any b' a' n' c' (z1-z2) w1 hI k Hk.out).mono ?_;rintro e w2 ⟨rfl,hx2⟩
 go_wp2_with fail
 go_ret
 exact ⟨rfl,hE.trans (hx1.trans hx2)⟩
def IRow (w:World) (b:Nat) (L:List Nat):Prop :=
 ∃ e:{ t:TypeId // t=3 },w.heap[b]?=some (.cells (L.map fun x=>Value.int .i64 (x:Nat)).toArray e.1 (0,0))
theorem IRow.lt {w:World} {b:Nat} {L:List Nat} (h:IRow w b L):b<w.heap.size:=by
 obtain ⟨e,h⟩:=h;exact (gS.1 h).1
theorem IRow.cell {w:World} {b:Nat} {L:List Nat} (h:IRow w b L) (j:Nat) (hj:j<L.length):w.cell? ⟨b,j,none⟩=some (.int .i64 (L.getD j 0:Nat)):=by
 obtain ⟨e,h⟩:=h;rw [qD w b j _ _ (0,0) h]
 simp [hj,List.getD_eq_getElem?_getD]
theorem IRow.frozen {w:World} {b:Nat} {L:List Nat} (h:IRow w b L) (j:Nat):w.frozen? ⟨b,j,none⟩=false:=by
 obtain ⟨e,h⟩:=h;exact jQ w b j _ _ h
theorem IRow.set {w:World} {b:Nat} {L:List Nat} (h:IRow w b L) (j x:Nat):IRow (w.setCell ⟨b,j,none⟩ (.int .i64 (x:Nat))) b (L.set j x):=by
 obtain ⟨e,h⟩:=h;refine ⟨e,?_⟩;rw [yZ w b j _ _ _ h]
 congr 2
 apply Array.toList_inj.1
 simp [List.map_set]
theorem IRow.ext {w w':World} {b:Nat} {L:List Nat} (h:IRow w b L) (k:Ext w w'):IRow w' b L:=by
 have hb:=h.lt;obtain ⟨e,h⟩:=h;exact ⟨e,(k.block b hb).trans h⟩
theorem IRow.seg {w:World} {b:Nat} {L:List Nat} (h:IRow w b L):ISeg w (some ⟨b,0,none⟩) L :=
 qO ⟨b,0,rfl,by obtain ⟨⟨e,rfl⟩,hh⟩:=h;exact ⟨_,_,hh⟩,fun t ht=>by rw [jH];exact h.cell t ht⟩
theorem irow_of_made {w w':World} {base n:Nat} (h:w'.ownsRow base 3 1 (.slice (some ⟨w.heap.size,0,none⟩) n n) n (madeCells (Value.int .i64 0).cells (n*1)).toList) :
  IRow w' w.heap.size (List.replicate n 0):=by
 obtain ⟨_,h | ⟨g,cap,cur,hv,_,hh,_,_,hsz,ht⟩⟩:=h
 ·simp at h
 ·simp only [Value.slice.injEq,yX,Addr.mk.injEq,and_true,true_and] at hv
  obtain ⟨hg,rfl⟩:=hv;subst hg;refine ⟨⟨3,rfl⟩,?_⟩;rw [hh]
  congr 2
  apply Array.toList_inj.1
  have e1:cur.toList.take (n*1)=cur.toList:=qB (by rw [Array.length_toList,hsz];exact qZ _);have e2:(Value.int .i64 0).cells=#[Value.int .i64 0]:=rfl;rw [e1,e2,Nat.mul_one,toList_madeCells_one] at ht;rw [ht]
  simp
theorem wpList_make_irow (w:World) {ops:Array Oper} {rest:List Oper} {o:Oper} {a:Act} {Q:Exit->Act->World->Prop}
  (hg:o.guard=none) (l c:Operand) (hop:o.op=Op.makeSlice 31 l c) (kl kc:IntKind) (L C:Int) (n:Nat) (hl:a.eval l=.int kl L) (hc:a.eval c=.int kc C) (hL:L=(n:Int)) (hC:C=(n:Int)) (b2:n<=1099511627776)
  (hK:∀ w',IRow w' w.heap.size (List.replicate n 0)->Ext w w'->w.heap.size<w'.heap.size->wpList Tryz.prog ops Q rest (a.put o.dst (.slice (some ⟨w.heap.size,0,none⟩) n n)) w') :
  wpList Tryz.prog ops Q (o :: rest) a w:=by
 obtain ⟨i0,hi,hz0,hz1,hz2⟩:=info_parts int_info;refine wpList_make_full w hg l c 31 hop w.heap.size 3 i0 (.int .i64 0) 1 yM hi hz0 hz1 kl kc L C n hl hc hL hC (by rw [hz2];omega) (by unfold maxLen;omega) (qZ _) ?_;intro w' hown hgrow;have hr:=irow_of_made hown;exact hK w' hr ((Below.refl _ _).grown hgrow (qZ _) (fun k h=>by cases h)) hr.lt
theorem ZD.replicate (n:Nat):ZD (List.replicate n 0):=fun x hx=>by rw [List.eq_of_mem_replicate hx];decide
theorem ZD.set {l:List Nat} (h:ZD l) (k x:Nat) (hx:x<10000):ZD (l.set k x):=fun y hy=>by
 rcases List.mem_or_eq_of_mem_set hy with h1 | h1
 ·exact h y h1
 ·rw [h1];exact hx
theorem zval_replicate (n:Nat):zval (List.replicate n 0)=0:=by
 induction n with
 | zero=>rfl
 | succ n ih=>rw [List.replicate_succ,zval,ih]
theorem zval_set (l:List Nat):∀ (k x:Nat),k<l.length->zval (l.set k x)+10000 ^ k*l.getD k 0=zval l+10000 ^ k*x:=by
 induction l with
 | nil=>intro k x h;simp at h
 | cons y r ih =>
  intro k x h
  cases k with
  | zero=>simp [zval];omega
  | succ k =>
   have h1:=ih k x (by simpa using h);simp only [List.set_cons_succ,zval,List.getD_cons_succ];rw [jK]
   have e1:10000 ^ k*10000*r.getD k 0=10000*(10000 ^ k*r.getD k 0):=by rw [jU (10000 ^ k) 10000,jW]
   have e2:10000 ^ k*10000*x=10000*(10000 ^ k*x):=by rw [jU (10000 ^ k) 10000,jW]
   rw [e1,e2];omega
theorem zmul_put {M:List Nat} {k c y p t d c':Nat} (hk:k<M.length) (hy:M.getD k 0=y) (ht:t=c+y+p) (hd:t % 10000=d) (hc:t / 10000=c') :
  zval (M.set k d)+10000 ^ (k+1)*c'=zval M+10000 ^ k*(c+p):=by
 have h1:=zval_set M k d hk;rw [hy] at h1
 have h2:10000 ^ k*t=10000 ^ k*d+10000 ^ (k+1)*c':=by
  rw [jK,jW,<-qN]
  congr 1
  omega
 rw [ht,qN,qN] at h2;rw [qN];omega
theorem zmul_step {M lb:List Nat} {i j c y x b t d c' V:Nat} (hk:i+j<M.length) (hy:M.getD (i+j) 0=y) (hb:zval (lb.take (j+1))=zval (lb.take j)+10000 ^ j*b) (ht:t=c+y+x*b) (hd:t % 10000=d) (hc:t / 10000=c')
  (h:zval M+10000 ^ (i+j)*c=V+10000 ^ i*(x*zval (lb.take j))) :
  zval (M.set (i+j) d)+10000 ^ (i+(j+1))*c'=V+10000 ^ i*(x*zval (lb.take (j+1))):=by
 have h1:=zmul_put hk hy ht hd hc;rw [hb]
 have e1:10000 ^ i*(x*(zval (lb.take j)+10000 ^ j*b))=10000 ^ i*(x*zval (lb.take j))+10000 ^ (i+j)*(x*b):=by
  rw [qN,qN,jS]
  congr 1
  rw [jW]
  congr 1
  rw [Nat.mul_left_comm]
 rw [e1,show i+(j+1)=i+j+1 by omega,h1,qN];omega
theorem zmul_room {M la lb:List Nat} {i j c x:Nat} (hi:i<la.length) (ha:ZD la) (hb:ZD lb) (hx:la.getD i 0=x) (hc:0<c)
  (h:zval M+10000 ^ (i+j)*c=zval (la.take i)*zval lb+10000 ^ i*(x*zval (lb.take j))) (hj:lb.length<=j):j=lb.length:=by
 rw [qB hj] at h;have h1:=zval_lt (ha.take (i+1))
 have hl:(la.take (i+1)).length=i+1:=by rw [qC];omega
 rw [hl] at h1;have h2:=zval_lt hb
 have e:zval (la.take (i+1))*zval lb=zval (la.take i)*zval lb+10000 ^ i*(x*zval lb):=by
  rw [zval_take_in hi,hx,yV,jW]
 rw [<-e] at h
 have h3:zval (la.take (i+1))*zval lb<10000 ^ (i+1)*10000 ^ lb.length:=by
  have hp:0<10000 ^ lb.length:=jF (by decide);have q1:zval (la.take (i+1))*zval lb<=zval (la.take (i+1))*10000 ^ lb.length:=jX _ (by omega);have q2:zval (la.take (i+1))*10000 ^ lb.length<10000 ^ (i+1)*10000 ^ lb.length:=Nat.mul_lt_mul_of_pos_right h1 hp;omega
 rw [<-jS] at h3;have h4:10000 ^ (i+j)<=10000 ^ (i+j)*c:=Nat.le_mul_of_pos_right _ hc
 have h5:10000 ^ (i+j)<10000 ^ (i+1+lb.length):=by omega
 have h6:=(Nat.pow_lt_pow_iff_right (a:=10000) (by decide)).1 h5;omega
theorem zmul_row {M la lb:List Nat} {i j x:Nat} (hi:i<la.length) (hx:la.getD i 0=x) (hj:lb.length<=j)
  (h:zval M+10000 ^ (i+j)*0=zval (la.take i)*zval lb+10000 ^ i*(x*zval (lb.take j))):zval M=zval (la.take (i+1))*zval lb:=by
 rw [qB hj,Nat.mul_zero,Nat.add_zero] at h;rw [h,zval_take_in hi,hx,yV,jW]
theorem zmul_carry {c y x b:Nat} (hc:c<=9999) (hy:y<10000) (hx:x<10000) (hb:b<10000):(c+y+x*b) / 10000<=9999/\x*b<=99980001:=by
 have:x*b<=9999*9999:=yS (by omega) (by omega);omega
theorem str_append (a b:List UInt8):(⟨a.toArray⟩:ByteArray)++(⟨b.toArray⟩:ByteArray)=⟨(a++b).toArray⟩:=by
 apply ByteArray.ext
 simp [ByteArray.data_append]
theorem ISeg.blt {w:World} {b o:Nat} {l:List Nat} (h:ISeg w (some ⟨b,o,none⟩) l):b<w.heap.size:=by
 rcases h with ⟨h,_⟩ | ⟨b',o',h,hb,_⟩
 ·cases h
 ·simp only [yX,Addr.mk.injEq,and_true] at h
  obtain ⟨rfl,rfl⟩:=h;exact hb.lt
theorem ztx_len {l:List Nat} (hd:ZD l) (k:Nat):(ztx l k).length<=4*l.length+1:=by
 unfold ztx
 split
 ·simp
 ·rw [Lib.decDigits_length]
  have h1:zval (l.drop k)<10000 ^ (l.drop k).length:=zval_lt (fun x hx=>hd x (List.mem_of_mem_drop hx));rw [qF] at h1
  have h2:(10000:Nat) ^ (l.length-k)<=10 ^ (4*l.length+1):=by
   rw [show (10000:Nat)=10 ^ 4 by decide,<-Nat.pow_mul];exact qY (by decide) (by omega)
  exact nDigits_le _ _ (by omega) (by omega)
theorem conv_tail (W:World) (G f m:Nat) (l:List UInt8) (hl:l.length=m) (h:∀ j,(hj:j<l.length)->W.cell? ⟨G,f+j,none⟩=some (.int .u8 (l[j].toNat:Int))):(convert 126 9 (.slice (some ⟨G,f,none⟩) m m)).run Tryz.prog W=.ok (.string ⟨l.toArray⟩) W:=by
 subst hl;refine run_convert_bytes_back (P:=Tryz.prog) W 126 9 5 ⟨G,f,none⟩ l.length l Tryz.underlying126 Tryz.underlying5 Tryz.underlying9 (fun j hj=>?_);rw [Lib.add_plain];exact h j hj
theorem four_conv {W:World} {G B3 B2 B1 B0:Nat} (k3:W.cell? ⟨G,0,none⟩=some (.int .u8 B3)) (k2:W.cell? ⟨G,1,none⟩=some (.int .u8 B2)) (k1:W.cell? ⟨G,2,none⟩=some (.int .u8 B1)) (k0:W.cell? ⟨G,3,none⟩=some (.int .u8 B0)) (hB:B3<256/\B2<256/\B1<256/\B0<256) :
  (∀ t,t<4->W.cell? ⟨G,t,none⟩=some (.int .u8 (([UInt8.ofNat B3,UInt8.ofNat B2,UInt8.ofNat B1,UInt8.ofNat B0].getD t 0).toNat:Int))) /\
  ∀ f,f<=3->(convert 126 9 (.slice (some ⟨G,f,none⟩) (4-f) (4-f))).run Tryz.prog W=.ok (.string ⟨([UInt8.ofNat B3,UInt8.ofNat B2,UInt8.ofNat B1,UInt8.ofNat B0].drop f).toArray⟩) W:=by
 have e:∀ B:Nat,B<256->((UInt8.ofNat B).toNat:Int)=(B:Int):=by
  intro B h
  have:(UInt8.ofNat B).toNat=B:=by rw [UInt8.toNat_ofNat'];omega
  rw [this]
 have hc:∀ t,t<4->W.cell? ⟨G,t,none⟩=some (.int .u8 (([UInt8.ofNat B3,UInt8.ofNat B2,UInt8.ofNat B1,UInt8.ofNat B0].getD t 0).toNat:Int)):=by
  intro t ht
  match t,ht with
  | 0,_=>rw [k3];show _=some (Value.int .u8 ((UInt8.ofNat B3).toNat:Int));rw [e _ hB.1]
  | 1,_=>rw [k2];show _=some (Value.int .u8 ((UInt8.ofNat B2).toNat:Int));rw [e _ hB.2.1]
  | 2,_=>rw [k1];show _=some (Value.int .u8 ((UInt8.ofNat B1).toNat:Int));rw [e _ hB.2.2.1]
  | 3,_=>rw [k0];show _=some (Value.int .u8 ((UInt8.ofNat B0).toNat:Int));rw [e _ hB.2.2.2]
  | k+4,h=>omega
 refine ⟨hc,fun f hf=>?_⟩;refine conv_tail W G f (4-f) _ (by rw [qF];rfl) (fun j hj=>?_);rw [qF] at hj;have h4:[UInt8.ofNat B3,UInt8.ofNat B2,UInt8.ofNat B1,UInt8.ofNat B0].length=4:=rfl;rw [hc (f+j) (by omega)];rw [List.getElem_drop,qQ,qX (by omega)]
 rfl
theorem four_cells (w:World) (u0 u1 u2 u3:Value) (e:TypeId):(w.alloc (.cells #[u0,u1,u2,u3] e)).cell? ⟨w.heap.size,0,none⟩=some u0/\(w.alloc (.cells #[u0,u1,u2,u3] e)).cell? ⟨w.heap.size,1,none⟩=some u1/\(w.alloc (.cells #[u0,u1,u2,u3] e)).cell? ⟨w.heap.size,2,none⟩=some u2/\(w.alloc (.cells #[u0,u1,u2,u3] e)).cell? ⟨w.heap.size,3,none⟩=some u3:=by
 refine ⟨?_,?_,?_,?_⟩<;>(rw [World.cell?_alloc_new];rfl)
theorem ZText_any (neg:Bool) (ao:Option Addr) (n c:Nat) (z:Int) (w:World) (h:IsZ w neg ao n c z) (hn:n<=1000000) :
  Calls Tryz.prog 37 #[.agg #[.bool neg,.slice ao n c]] w fun e w'=>e=.returned (.string ⟨(Lib.itoa z).toArray⟩)/\Ext w w':=by
 obtain ⟨l,h1,h2,h3,h4,h5,h6,h7,h8⟩:=h;have hE:=ext_alloc w (.cells #[.bool neg,.slice ao n c] 33);have bA:=zbx_new w neg ao n c;have x0:=bA.c0;have x1:=bA.c1
 by_cases h0:n=0
 ·have hl:l=[]:=jD (by omega)
  have hz:z=0:=by rw [h7,hl];simp [zval]
  have Ht:Hid (Lib.itoa z=[48]):=by show _=_;rw [hz];unfold Lib.itoa;rw [qE (by omega),Lib.decDigits];simp
  subst h0;clear h7 h1 h2 h3 h4 h5 h6 h8 hl hz x0
  go_enter Tryz.func37,Tryz.ntmps37
  go_wp2_with fail
  go_ret
  exact ⟨by rw [Ht.out];rfl,hE⟩
 ·have hl:l≠[]:=by intro e;subst e;simp at h1;omega
  have hb:((n:Int) == 0)=false:=by rw [qV];omega
  obtain ⟨b,o,rfl⟩:=h4.some_of (by omega)
  have Hz:Hid (Lib.itoa z=(if neg then [45] else [])++ztx l 0):=by
   show _=_
   rw [ztx_all hl,h7]
   have hv:0<zval l:=by
    apply Nat.pos_of_ne_zero
    intro e;exact hl ((zval_zero h6).1 e)
   unfold Lib.itoa
   cases neg
   ·rw [qE (by simp)];simp
   ·rw [qU (by simp;omega)];simp
  obtain ⟨sg,hsg⟩:∃ sg:List UInt8,(if neg then [45] else [])=sg:=⟨_,rfl⟩;rw [hsg] at Hz;have H1:=Lh h1;have H4:=Lh h4;have H5:=Lh h5;have H6:=Lh h6;have Hl:=Lh hl;clear h1 h4 h5 h6 h7 h8 h2 h3 hl
  cases neg
  ·have Hsg:=Lh hsg
   clear hsg
   go_enter Tryz.func37,Tryz.ntmps37
   go_wp2_with fail
   generalize w.alloc (.cells #[.bool false,.slice (some ⟨b,o,none⟩) n c] 33)=W0 at *
   go_loopw [3,4] (fun tv iv wr=>∃ k:Nat,k<=n/\iv=.int .i64 ((k:Int)-1)/\tv=.string ⟨(sg++ztx l k).toArray⟩/\Ext W0 wr) (fun _ iv _=>(intOf iv+1).toNat)
   case atStart=>exact ⟨n,qZ _,by go_num,by have:=ztx_end l;rw [H1.out] at this;rw [this,<-Hsg.out];rfl,Ext.refl _⟩
   case round =>
    obtain ⟨k,hk,rfl,rfl,hEr⟩:=hrel;have HEr:=Lh hEr;have d1:=zKeep hEr bA.lt x1;clear hEr;obtain ⟨tl,htl⟩:∃ tl,sg++ztx l k=tl:=⟨_,rfl⟩;rw [htl]
    have htl8:tl.length<=4000010:=by
     have h1:=ztx_len H5.out k
     have h2:sg.length<=1:=by rw [<-Hsg.out];decide
     rw [H1.out] at h1;rw [<-htl,qT];omega
    have Htl:=Lh htl;clear htl
    by_cases hk0:k=0
    ·subst hk0
     go_wp2_with fail
     go_ret
     exact ⟨by rw [Hz.out,Htl.out];rfl,hE.trans HEr.out⟩
    ·obtain ⟨j,rfl⟩:∃ j,k=j+1:=⟨k-1,by omega⟩
     have ec:(((j+1:Nat):Int)-1)=(j:Int):=by omega
     have ij:(j:Int)<(n:Int):=by omega
     rw [ec];have hcl:=(H4.out.ext (hE.trans HEr.out)).at j (by rw [H1.out];omega);obtain ⟨x,hx⟩:∃ x,l.getD j 0=x:=⟨_,rfl⟩
     have hx4:x<10000:=by rw [<-hx];exact H5.out.get j
     rw [hx] at hcl;have Hx:=Lh hx;obtain ⟨q3,g3⟩:∃ q,x / 1000=q:=⟨_,rfl⟩;obtain ⟨q2,g2⟩:∃ q,x / 100=q:=⟨_,rfl⟩;obtain ⟨r2,e2⟩:∃ q,q2 % 10=q:=⟨_,rfl⟩;obtain ⟨q1,g1⟩:∃ q,x / 10=q:=⟨_,rfl⟩;obtain ⟨r1,e1⟩:∃ q,q1 % 10=q:=⟨_,rfl⟩;obtain ⟨r0,e0⟩:∃ q,x % 10=q:=⟨_,rfl⟩
     have t3:(x:Int).tdiv 1000=(q3:Int):=by rw [yC (by omega)];omega
     have t2:(x:Int).tdiv 100=(q2:Int):=by rw [yC (by omega)];omega
     have t1:(x:Int).tdiv 10=(q1:Int):=by rw [yC (by omega)];omega
     have m2:(q2:Int).tmod 10=(r2:Int):=by rw [yH (by omega)];omega
     have m1:(q1:Int).tmod 10=(r1:Int):=by rw [yH (by omega)];omega
     have m0:(x:Int).tmod 10=(r0:Int):=by rw [yH (by omega)];omega
     have b3:q3<=9:=by omega
     have b2:r2<=9:=by omega
     have b1:r1<=9:=by omega
     have b0:r0<=9:=by omega
     obtain ⟨B3,hB3⟩:∃ B,48+q3=B:=⟨_,rfl⟩;obtain ⟨B2,hB2⟩:∃ B,48+r2=B:=⟨_,rfl⟩;obtain ⟨B1,hB1⟩:∃ B,48+r1=B:=⟨_,rfl⟩;obtain ⟨B0,hB0⟩:∃ B,48+r0=B:=⟨_,rfl⟩
     have v3:IntKind.i64.wrap (q3:Int)=(q3:Int):=by rw [qH];omega
     have v2:IntKind.i64.wrap (q2:Int)=(q2:Int):=by rw [qH];omega
     have v1:IntKind.i64.wrap (q1:Int)=(q1:Int):=by rw [qH];omega
     have s3:IntKind.i64.wrap (48+(q3:Int))=(B3:Int):=by rw [qH];omega
     have s2:IntKind.i64.wrap (48+(r2:Int))=(B2:Int):=by rw [qH];omega
     have s1:IntKind.i64.wrap (48+(r1:Int))=(B1:Int):=by rw [qH];omega
     have s0:IntKind.i64.wrap (48+(r0:Int))=(B0:Int):=by rw [qH];omega
     have y3:IntKind.u8.wrap (B3:Int)=(B3:Int):=by rw [IntKind.wrap_u8];omega
     have y2:IntKind.u8.wrap (B2:Int)=(B2:Int):=by rw [IntKind.wrap_u8];omega
     have y1:IntKind.u8.wrap (B1:Int)=(B1:Int):=by rw [IntKind.wrap_u8];omega
     have y0:IntKind.u8.wrap (B0:Int)=(B0:Int):=by rw [IntKind.wrap_u8];omega
     have Hpad:Hid (padD 4 x=[UInt8.ofNat B3,UInt8.ofNat B2,UInt8.ofNat B1,UInt8.ofNat B0]):=by
      show _=_
      rw [padD_four x hx4,g3,g2,e2,g1,e1,e0,hB3,hB2,hB1,hB0]
     have z3:B3<256:=by omega
     have z2:B2<256:=by omega
     have z1:B1<256:=by omega
     have z0:B0<256:=by omega
     have HB:=Lh (jN z3 (jN z2 (jN z1 z0)));clear hx g3 g2 e2 g1 e1 e0 hk0 hB3 hB2 hB1 hB0 z3 z2 z1 z0;have hrd:Ext wr wr.drew:=qG (Ext.refl _);have lB:=qK bA.lt HEr.out.size;have lb:=(H4.out.ext (hE.trans HEr.out)).blt
     go_wp2_with fail
     go_region_held3 (fun w'=>w'.cell? ⟨w.heap.size,1,none⟩=some (.slice (some ⟨b,o,none⟩) n c)/\w'.cell? ⟨b,o+j,none⟩=some (.int .i64 (x:Nat)))
      (first | exact ⟨zKeep (W:=wr) (by assumption) lB d1,zKeep (W:=wr) (by assumption) lb hcl⟩ | exact ⟨zKeep (W:=wr) (hrd.trans (ext_alloc _ _)) lB d1,zKeep (W:=wr) (hrd.trans (ext_alloc _ _)) lb hcl⟩)
      (first | fail)
     have hx2:Ext wr (wr.alloc (.cells #[.int .u8 B3,.int .u8 B2,.int .u8 B1,.int .u8 B0] 5)).drew:=qG (ext_alloc wr _);have d5:=zKeep hx2 lB d1;have HE2:=Lh (HEr.out.trans hx2);obtain ⟨k3,k2,k1,k0⟩:=four_cells wr (.int .u8 B3) (.int .u8 B2) (.int .u8 B1) (.int .u8 B0) 5;have hdd:Ext (wr.alloc (.cells #[.int .u8 B3,.int .u8 B2,.int .u8 B1,.int .u8 B0] 5)) (wr.alloc (.cells #[.int .u8 B3,.int .u8 B2,.int .u8 B1,.int .u8 B0] 5)).drew:=qG (Ext.refl _)
     have lG:wr.heap.size<(wr.alloc (.cells #[.int .u8 B3,.int .u8 B2,.int .u8 B1,.int .u8 B0] 5)).heap.size:=by simp
     have k3:=zKeep hdd lG k3;have k2:=zKeep hdd lG k2;have k1:=zKeep hdd lG k1;have k0:=zKeep hdd lG k0;clear d1 hcl hrd lB lb hdd lG hx2 t3 t2 t1 m2 m1 m0 b3 b2 b1 b0 v3 v2 v1 s3 s2 s1 s0 y3 y2 y1 y0
     go_wp2_with fail
     generalize (wr.alloc (.cells #[.int .u8 B3,.int .u8 B2,.int .u8 B1,.int .u8 B0] 5)).drew=W2 at *;generalize wr.heap.size=G at *;obtain ⟨hcell,hconv⟩:=four_conv k3 k2 k1 k0 HB.out;have Hcell:=Lh hcell;have Hconv:=Lh hconv;clear hcell hconv k3 k2 k1 k0 HB;obtain ⟨bl,hbl⟩:∃ bl,[UInt8.ofNat B3,UInt8.ofNat B2,UInt8.ofNat B1,UInt8.ofNat B0]=bl:=⟨_,rfl⟩
     have hbl4:bl.length<=4:=by rw [<-hbl];exact qZ _
     rw [hbl] at Hcell Hconv Hpad;clear hbl
     by_cases hfirst:j+1=n
     ·have hx0:0<x:=by
       have h6:=H6.out.resolve_left Hl.out;rw [H1.out,<-hfirst,Nat.add_sub_cancel,Hx.out] at h6;omega
      obtain ⟨f,hf3,hall,hne,hdec⟩:=dec_first x hx4 hx0;rw [Hpad.out] at hall hne hdec;have Hall:=Lh hall;have Hne:=Lh hne
      have Hfin:Hid (tl++bl.drop f=sg++ztx l j):=by
       show _=_
       rw [ztx_first (by rw [H1.out];exact hfirst.symm) Hx.out,hdec,<-Htl.out,hfirst];have:=ztx_end l;rw [H1.out] at this;rw [this,List.append_nil]
      have ej:((j:Int) == (n:Int)-1)=true:=by rw [yY];omega
      clear hall hne hdec hfirst hx0 Htl
      go_loop [6] (fun v=>∃ k:Nat,k<=f/\v=.int .i64 k) (fun v=>f-(intOf v).toNat)
      case atStart=>exact ⟨0,qI _,rfl⟩
      case round =>
       obtain ⟨k,hk,rfl⟩:=hrel
       by_cases hkf:k<f
       ·have hc:W2.cell? ⟨G,k,none⟩=some (.int .u8 48):=by
         rw [Hcell.out k (by omega),Hall.out k hkf];rfl
        have ik:(k:Int)<3:=by omega
        go_wp2_with fail
        go_round
        case rel=>exact ⟨k+1,by omega,by go_num⟩
        case measure=>simp [intOf];omega
       ·obtain rfl:k=f:=by omega
        have hcv:=Hconv.out k hf3
        by_cases hk3:k=3
        ·subst hk3
         go_wp2_with fail
         go_roundw
         case rel=>exact ⟨j,by omega,by go_num,by rw [str_append,Hfin.out],HE2.out⟩
         case measure=>simp [intOf]
        ·have ik:(k:Int)<3:=by omega
         obtain ⟨q,hq,hc⟩:∃ q:Nat,((q:Int) == 48)=false/\W2.cell? ⟨G,k,none⟩=some (.int .u8 (q:Nat)):=by
          refine ⟨(bl.getD k 0).toNat,?_,Hcell.out k (by omega)⟩;rw [qV];intro hc;exact Hne.out (UInt8.toNat_inj.1 (by have:(48:UInt8).toNat=48:=rfl;rw [this];omega))
         go_wp2_with fail
         go_roundw
         case rel=>exact ⟨j,by omega,by go_num,by rw [str_append,Hfin.out],HE2.out⟩
         case measure=>simp [intOf]
     ·have ej:((j:Int) == (n:Int)-1)=false:=by rw [qV];omega
      have Hfin:Hid (tl++bl=sg++ztx l j):=by
       show _=_
       rw [ztx_next H6.out (by rw [H1.out];omega) Hx.out hx4,Hpad.out,<-Htl.out,yK]
      have hcv:=Hconv.out 0 (by omega);rw [List.drop_zero] at hcv;clear hfirst Htl
      go_loop [6] (fun v=>v=.int .i64 0) (fun v=>0)
      case atStart=>rfl
      case round =>
       subst hrel
       go_wp2_with fail
       go_roundw
       case rel=>exact ⟨j,by omega,by go_num,by rw [str_append,Hfin.out],HE2.out⟩
       case measure=>simp [intOf]
  ·have Hsg:=Lh hsg
   clear hsg
   go_enter Tryz.func37,Tryz.ntmps37
   go_wp2_with fail
   generalize w.alloc (.cells #[.bool true,.slice (some ⟨b,o,none⟩) n c] 33)=W0 at *
   go_loopw [3,4] (fun tv iv wr=>∃ k:Nat,k<=n/\iv=.int .i64 ((k:Int)-1)/\tv=.string ⟨(sg++ztx l k).toArray⟩/\Ext W0 wr) (fun _ iv _=>(intOf iv+1).toNat)
   case atStart=>exact ⟨n,qZ _,by go_num,by have:=ztx_end l;rw [H1.out] at this;rw [this,<-Hsg.out];rfl,Ext.refl _⟩
   case round =>
    obtain ⟨k,hk,rfl,rfl,hEr⟩:=hrel;have HEr:=Lh hEr;have d1:=zKeep hEr bA.lt x1;clear hEr;obtain ⟨tl,htl⟩:∃ tl,sg++ztx l k=tl:=⟨_,rfl⟩;rw [htl]
    have htl8:tl.length<=4000010:=by
     have h1:=ztx_len H5.out k
     have h2:sg.length<=1:=by rw [<-Hsg.out];decide
     rw [H1.out] at h1;rw [<-htl,qT];omega
    have Htl:=Lh htl;clear htl
    by_cases hk0:k=0
    ·subst hk0
     go_wp2_with fail
     go_ret
     exact ⟨by rw [Hz.out,Htl.out];rfl,hE.trans HEr.out⟩
    ·obtain ⟨j,rfl⟩:∃ j,k=j+1:=⟨k-1,by omega⟩
     have ec:(((j+1:Nat):Int)-1)=(j:Int):=by omega
     have ij:(j:Int)<(n:Int):=by omega
     rw [ec];have hcl:=(H4.out.ext (hE.trans HEr.out)).at j (by rw [H1.out];omega);obtain ⟨x,hx⟩:∃ x,l.getD j 0=x:=⟨_,rfl⟩
     have hx4:x<10000:=by rw [<-hx];exact H5.out.get j
     rw [hx] at hcl;have Hx:=Lh hx;obtain ⟨q3,g3⟩:∃ q,x / 1000=q:=⟨_,rfl⟩;obtain ⟨q2,g2⟩:∃ q,x / 100=q:=⟨_,rfl⟩;obtain ⟨r2,e2⟩:∃ q,q2 % 10=q:=⟨_,rfl⟩;obtain ⟨q1,g1⟩:∃ q,x / 10=q:=⟨_,rfl⟩;obtain ⟨r1,e1⟩:∃ q,q1 % 10=q:=⟨_,rfl⟩;obtain ⟨r0,e0⟩:∃ q,x % 10=q:=⟨_,rfl⟩
     have t3:(x:Int).tdiv 1000=(q3:Int):=by rw [yC (by omega)];omega
     have t2:(x:Int).tdiv 100=(q2:Int):=by rw [yC (by omega)];omega
     have t1:(x:Int).tdiv 10=(q1:Int):=by rw [yC (by omega)];omega
     have m2:(q2:Int).tmod 10=(r2:Int):=by rw [yH (by omega)];omega
     have m1:(q1:Int).tmod 10=(r1:Int):=by rw [yH (by omega)];omega
     have m0:(x:Int).tmod 10=(r0:Int):=by rw [yH (by omega)];omega
     have b3:q3<=9:=by omega
     have b2:r2<=9:=by omega
     have b1:r1<=9:=by omega
     have b0:r0<=9:=by omega
     obtain ⟨B3,hB3⟩:∃ B,48+q3=B:=⟨_,rfl⟩;obtain ⟨B2,hB2⟩:∃ B,48+r2=B:=⟨_,rfl⟩;obtain ⟨B1,hB1⟩:∃ B,48+r1=B:=⟨_,rfl⟩;obtain ⟨B0,hB0⟩:∃ B,48+r0=B:=⟨_,rfl⟩
     have v3:IntKind.i64.wrap (q3:Int)=(q3:Int):=by rw [qH];omega
     have v2:IntKind.i64.wrap (q2:Int)=(q2:Int):=by rw [qH];omega
     have v1:IntKind.i64.wrap (q1:Int)=(q1:Int):=by rw [qH];omega
     have s3:IntKind.i64.wrap (48+(q3:Int))=(B3:Int):=by rw [qH];omega
     have s2:IntKind.i64.wrap (48+(r2:Int))=(B2:Int):=by rw [qH];omega
     have s1:IntKind.i64.wrap (48+(r1:Int))=(B1:Int):=by rw [qH];omega
     have s0:IntKind.i64.wrap (48+(r0:Int))=(B0:Int):=by rw [qH];omega
     have y3:IntKind.u8.wrap (B3:Int)=(B3:Int):=by rw [IntKind.wrap_u8];omega
     have y2:IntKind.u8.wrap (B2:Int)=(B2:Int):=by rw [IntKind.wrap_u8];omega
     have y1:IntKind.u8.wrap (B1:Int)=(B1:Int):=by rw [IntKind.wrap_u8];omega
     have y0:IntKind.u8.wrap (B0:Int)=(B0:Int):=by rw [IntKind.wrap_u8];omega
     have Hpad:Hid (padD 4 x=[UInt8.ofNat B3,UInt8.ofNat B2,UInt8.ofNat B1,UInt8.ofNat B0]):=by
      show _=_
      rw [padD_four x hx4,g3,g2,e2,g1,e1,e0,hB3,hB2,hB1,hB0]
     have z3:B3<256:=by omega
     have z2:B2<256:=by omega
     have z1:B1<256:=by omega
     have z0:B0<256:=by omega
     have HB:=Lh (jN z3 (jN z2 (jN z1 z0)));clear hx g3 g2 e2 g1 e1 e0 hk0 hB3 hB2 hB1 hB0 z3 z2 z1 z0;have hrd:Ext wr wr.drew:=qG (Ext.refl _);have lB:=qK bA.lt HEr.out.size;have lb:=(H4.out.ext (hE.trans HEr.out)).blt
     go_wp2_with fail
     go_region_held3 (fun w'=>w'.cell? ⟨w.heap.size,1,none⟩=some (.slice (some ⟨b,o,none⟩) n c)/\w'.cell? ⟨b,o+j,none⟩=some (.int .i64 (x:Nat)))
      (first | exact ⟨zKeep (W:=wr) (by assumption) lB d1,zKeep (W:=wr) (by assumption) lb hcl⟩ | exact ⟨zKeep (W:=wr) (hrd.trans (ext_alloc _ _)) lB d1,zKeep (W:=wr) (hrd.trans (ext_alloc _ _)) lb hcl⟩)
      (first | fail)
     have hx2:Ext wr (wr.alloc (.cells #[.int .u8 B3,.int .u8 B2,.int .u8 B1,.int .u8 B0] 5)).drew:=qG (ext_alloc wr _);have d5:=zKeep hx2 lB d1;have HE2:=Lh (HEr.out.trans hx2);obtain ⟨k3,k2,k1,k0⟩:=four_cells wr (.int .u8 B3) (.int .u8 B2) (.int .u8 B1) (.int .u8 B0) 5;have hdd:Ext (wr.alloc (.cells #[.int .u8 B3,.int .u8 B2,.int .u8 B1,.int .u8 B0] 5)) (wr.alloc (.cells #[.int .u8 B3,.int .u8 B2,.int .u8 B1,.int .u8 B0] 5)).drew:=qG (Ext.refl _)
     have lG:wr.heap.size<(wr.alloc (.cells #[.int .u8 B3,.int .u8 B2,.int .u8 B1,.int .u8 B0] 5)).heap.size:=by simp
     have k3:=zKeep hdd lG k3;have k2:=zKeep hdd lG k2;have k1:=zKeep hdd lG k1;have k0:=zKeep hdd lG k0;clear d1 hcl hrd lB lb hdd lG hx2 t3 t2 t1 m2 m1 m0 b3 b2 b1 b0 v3 v2 v1 s3 s2 s1 s0 y3 y2 y1 y0
     go_wp2_with fail
     generalize (wr.alloc (.cells #[.int .u8 B3,.int .u8 B2,.int .u8 B1,.int .u8 B0] 5)).drew=W2 at *;generalize wr.heap.size=G at *;obtain ⟨hcell,hconv⟩:=four_conv k3 k2 k1 k0 HB.out;have Hcell:=Lh hcell;have Hconv:=Lh hconv;clear hcell hconv k3 k2 k1 k0 HB;obtain ⟨bl,hbl⟩:∃ bl,[UInt8.ofNat B3,UInt8.ofNat B2,UInt8.ofNat B1,UInt8.ofNat B0]=bl:=⟨_,rfl⟩
     have hbl4:bl.length<=4:=by rw [<-hbl];exact qZ _
     rw [hbl] at Hcell Hconv Hpad;clear hbl
     by_cases hfirst:j+1=n
     ·have hx0:0<x:=by
       have h6:=H6.out.resolve_left Hl.out;rw [H1.out,<-hfirst,Nat.add_sub_cancel,Hx.out] at h6;omega
      obtain ⟨f,hf3,hall,hne,hdec⟩:=dec_first x hx4 hx0;rw [Hpad.out] at hall hne hdec;have Hall:=Lh hall;have Hne:=Lh hne
      have Hfin:Hid (tl++bl.drop f=sg++ztx l j):=by
       show _=_
       rw [ztx_first (by rw [H1.out];exact hfirst.symm) Hx.out,hdec,<-Htl.out,hfirst];have:=ztx_end l;rw [H1.out] at this;rw [this,List.append_nil]
      have ej:((j:Int) == (n:Int)-1)=true:=by rw [yY];omega
      clear hall hne hdec hfirst hx0 Htl
      go_loop [6] (fun v=>∃ k:Nat,k<=f/\v=.int .i64 k) (fun v=>f-(intOf v).toNat)
      case atStart=>exact ⟨0,qI _,rfl⟩
      case round =>
       obtain ⟨k,hk,rfl⟩:=hrel
       by_cases hkf:k<f
       ·have hc:W2.cell? ⟨G,k,none⟩=some (.int .u8 48):=by
         rw [Hcell.out k (by omega),Hall.out k hkf];rfl
        have ik:(k:Int)<3:=by omega
        go_wp2_with fail
        go_round
        case rel=>exact ⟨k+1,by omega,by go_num⟩
        case measure=>simp [intOf];omega
       ·obtain rfl:k=f:=by omega
        have hcv:=Hconv.out k hf3
        by_cases hk3:k=3
        ·subst hk3
         go_wp2_with fail
         go_roundw
         case rel=>exact ⟨j,by omega,by go_num,by rw [str_append,Hfin.out],HE2.out⟩
         case measure=>simp [intOf]
        ·have ik:(k:Int)<3:=by omega
         obtain ⟨q,hq,hc⟩:∃ q:Nat,((q:Int) == 48)=false/\W2.cell? ⟨G,k,none⟩=some (.int .u8 (q:Nat)):=by
          refine ⟨(bl.getD k 0).toNat,?_,Hcell.out k (by omega)⟩;rw [qV];intro hc;exact Hne.out (UInt8.toNat_inj.1 (by have:(48:UInt8).toNat=48:=rfl;rw [this];omega))
         go_wp2_with fail
         go_roundw
         case rel=>exact ⟨j,by omega,by go_num,by rw [str_append,Hfin.out],HE2.out⟩
         case measure=>simp [intOf]
     ·have ej:((j:Int) == (n:Int)-1)=false:=by rw [qV];omega
      have Hfin:Hid (tl++bl=sg++ztx l j):=by
       show _=_
       rw [ztx_next H6.out (by rw [H1.out];omega) Hx.out hx4,Hpad.out,<-Htl.out,yK]
      have hcv:=Hconv.out 0 (by omega);rw [List.drop_zero] at hcv;clear hfirst Htl
      go_loop [6] (fun v=>v=.int .i64 0) (fun v=>0)
      case atStart=>rfl
      case round =>
       subst hrel
       go_wp2_with fail
       go_roundw
       case rel=>exact ⟨j,by omega,by go_num,by rw [str_append,Hfin.out],HE2.out⟩
       case measure=>simp [intOf]
theorem ZMul_any (b1 b2:Bool) (a1 a2:Option Addr) (n1 c1 n2 c2:Nat) (z1 z2:Int) (w:World) (h1:IsZ w b1 a1 n1 c1 z1) (h2:IsZ w b2 a2 n2 c2 z2) (hn1:n1<=400000) (hn2:n2<=400000) :
  Calls Tryz.prog 33 #[.agg #[.bool b1,.slice a1 n1 c1],.agg #[.bool b2,.slice a2 n2 c2]] w (ZRet w (z1*z2) (n1+n2+1)):=by
 obtain ⟨la,p1,p2,p3,p4,p5,p6,p7,p8⟩:=h1;obtain ⟨lb,q1,q2,q3,q4,q5,q6,q7,q8⟩:=h2;have hE:=((ext_alloc w (.cells #[.bool b1,.slice a1 n1 c1] 33)).trans (ext_alloc _ (.cells #[.bool b2,.slice a2 n2 c2] 33))).trans (ext_alloc _ (.cells #[.bool false,.slice none 0 0] 33));have bA:=((zbx_new w b1 a1 n1 c1).ext (ext_alloc _ (.cells #[.bool b2,.slice a2 n2 c2] 33))).ext (ext_alloc _ (.cells #[.bool false,.slice none 0 0] 33));have bB:=(zbx_new (w.alloc (.cells #[.bool b1,.slice a1 n1 c1] 33)) b2 a2 n2 c2).ext (ext_alloc _ (.cells #[.bool false,.slice none 0 0] 33));have hR:=zres_new ((w.alloc (.cells #[.bool b1,.slice a1 n1 c1] 33)).alloc (.cells #[.bool b2,.slice a2 n2 c2] 33));rw [show (w.alloc (.cells #[.bool b1,.slice a1 n1 c1] 33)).heap.size=w.heap.size+1 from by simp] at bB;rw [show ((w.alloc (.cells #[.bool b1,.slice a1 n1 c1] 33)).alloc (.cells #[.bool b2,.slice a2 n2 c2] 33)).heap.size=w.heap.size+1+1 from by simp] at hR
 have HV:Hid (∀ M:List Nat,zval M=zval la*zval lb->z1*z2=if (!(b1 == b2))=true then -(zval M:Int) else (zval M:Int)):=by
  intro M hM;rw [p7,q7,hM]
  cases b1<;>cases b2<;>simp [Int.neg_mul,Int.mul_neg]
 have hA:n1=0\/∃ b o,a1=some ⟨b,o,none⟩:=by
  by_cases h0:n1=0
  ·exact qM h0
  ·exact qO (p4.some_of (by omega))
 have hB:n2=0\/∃ b o,a2=some ⟨b,o,none⟩:=by
  by_cases h0:n2=0
  ·exact qM h0
  ·exact qO (q4.some_of (by omega))
 have P1:=Lh p1;have P4:=Lh p4;have P5:=Lh p5;have Q1:=Lh q1;have Q4:=Lh q4;have Q5:=Lh q5;have x0:=bA.c0;have x1:=bA.c1;have y0:=bB.c0;have y1:=bB.c1;obtain ⟨bb,ebb⟩:∃ bb,(!(b1 == b2))=bb:=⟨_,rfl⟩;rw [ebb] at HV;clear p1 p2 p3 p4 p5 p6 p7 p8 q1 q2 q3 q4 q5 q6 q7 q8
 go_enter Tryz.func33,Tryz.ntmps33
 go_wp2_with (at_make;refine wpList_make_irow _ rfl _ _ rfl _ _ _ _ (n1+n2+1) rfl rfl (by omega) (by omega) (by omega) ?_;intro w1 hr1 he1 hz1)
 have hWB:(((w.alloc (.cells #[.bool b1,.slice a1 n1 c1] 33)).alloc (.cells #[.bool b2,.slice a2 n2 c2] 33)).alloc (.cells #[.bool false,.slice none 0 0] 33)).heap.size=w.heap.size+1+1+1:=by simp
 generalize ((w.alloc (.cells #[.bool b1,.slice a1 n1 c1] 33)).alloc (.cells #[.bool b2,.slice a2 n2 c2] 33)).alloc (.cells #[.bool false,.slice none 0 0] 33)=WB at *;rw [hWB] at hr1;have HWB:=Lh hWB;clear hWB;have lB:w.heap.size+1+1<WB.heap.size:=hR.lt
 go_loopw [6] (fun iv wr=>∃ (i:Nat) (L:List Nat),iv=.int .i64 i/\i<=n1/\L.length=n1+n2+1/\ZD L/\IRow wr (w.heap.size+1+1+1) L/\zval L=zval (la.take i)*zval lb/\Ext WB wr) (fun iv _=>n1-(intOf iv).toNat)
 case atStart=>exact ⟨0,List.replicate (n1+n2+1) 0,rfl,qI _,by simp,ZD.replicate _,hr1,by rw [zval_replicate];simp [zval],he1⟩
 case round =>
  clear hr1 he1 hz1;obtain ⟨i,L,rfl,hi,hL,hd,hr,hval,hEr⟩:=hrel;have HL:=Lh hL;have Hd:=Lh hd;have Hr:=Lh hr;have Hval:=Lh hval;have HEr:=Lh hEr;have d0:=zKeep hEr bA.lt x0;have d1:=zKeep hEr bA.lt x1;have d2:=zKeep hEr bB.lt y0;have d3:=zKeep hEr bB.lt y1;clear hL hd hr hval hEr
  by_cases hlt:i<n1
  ·have ii:(i:Int)<(n1:Int):=by omega
   rcases hA with h0 | ⟨b,o,rfl⟩
   ·omega
   obtain ⟨x,hx⟩:∃ x,la.getD i 0=x:=⟨_,rfl⟩
   have hx4:x<10000:=by rw [<-hx];exact P5.out.get i
   have Hx:=Lh hx;clear hx
   go_wp2_with fail
   go_loopw [7,8] (fun cv jv wx=>∃ (j c:Nat) (M:List Nat),jv=.int .i64 j/\cv=.int .i64 c/\c<=9999/\j<=n2+1/\M.length=n1+n2+1/\ZD M/\IRow wx (w.heap.size+1+1+1) M/\zval M+10000 ^ (i+j)*c=zval (la.take i)*zval lb+10000 ^ i*(x*zval (lb.take j))/\Ext WB wx) (fun _ jv _=>n2+1-(intOf jv).toNat)
   case atStart=>exact ⟨0,0,L,rfl,rfl,by omega,by omega,HL.out,Hd.out,Hr.out,by rw [Hval.out];simp [zval],HEr.out⟩
   case round =>
    clear d0 d1 d2 d3 Hr Hval HEr HL Hd;obtain ⟨j,c,M,rfl,rfl,hc9,hjm,hM,hdM,hrM,hinv,hEx⟩:=hrel;have HM:=Lh hM;have HdM:=Lh hdM;have HrM:=Lh hrM;have Hinv:=Lh hinv;have d0:=zKeep hEx bA.lt x0;have d1:=zKeep hEx bA.lt x1;have d2:=zKeep hEx bB.lt y0;have d3:=zKeep hEx bB.lt y1;have HEx:=Lh hEx;clear hM hdM hrM hinv hEx
    by_cases hgo:j<n2\/0<c
    ·have hj2:j<=n2:=by
      by_cases h:j<n2
      ·omega
      ·have h3:0<c:=by omega
       have:=zmul_room (by rw [P1.out];exact hlt) P5.out Q5.out Hx.out h3 Hinv.out (by rw [Q1.out];omega);rw [Q1.out] at this;omega
     have hcM:=HrM.out.cell (i+j) (by rw [HM.out];omega);have hfz:=HrM.out.frozen (i+j);obtain ⟨y,hy⟩:∃ y,M.getD (i+j) 0=y:=⟨_,rfl⟩
     have hy4:y<10000:=by rw [<-hy];exact HdM.out.get _
     rw [hy] at hcM;have Hy:=Lh hy
     have ij:(i:Int)+(j:Int)<(n1:Int)+(n2:Int)+1:=by omega
     clear hy
     by_cases hjn:j<n2
     ·rcases hB with h0 | ⟨b',o',rfl⟩
      ·omega
      have ij2:(j:Int)<(n2:Int):=by omega
      have hcx:=(P4.out.ext (hE.trans HEx.out)).at i (by rw [P1.out];exact hlt);have hcy:=(Q4.out.ext (hE.trans HEx.out)).at j (by rw [Q1.out];exact hjn);rw [Hx.out] at hcx;obtain ⟨d,hdd⟩:∃ d,lb.getD j 0=d:=⟨_,rfl⟩
      have hd4:d<10000:=by rw [<-hdd];exact Q5.out.get j
      rw [hdd] at hcy;have Hb:=Lh (zval_take_in (l:=lb) (k:=j) (by rw [Q1.out];exact hjn));rw [hdd] at Hb;obtain ⟨hca,hpb⟩:=zmul_carry hc9 hy4 hx4 hd4;obtain ⟨p,hp⟩:∃ p,x*d=p:=⟨_,rfl⟩;obtain ⟨dg,hdg⟩:∃ dg,(c+y+x*d) % 10000=dg:=⟨_,rfl⟩;obtain ⟨c',hc'⟩:∃ c',(c+y+x*d) / 10000=c':=⟨_,rfl⟩;have Hstep:=Lh (zmul_step (t:=c+y+x*d) (by rw [HM.out];omega) Hy.out Hb.out rfl hdg hc' Hinv.out);rw [hp] at hdg hc' hca hpb;rw [hc'] at hca
      have ip:(x:Int)*(d:Int)=(p:Int):=by rw [<-hp];exact (qP x d).symm
      have hdl:dg<10000:=by omega
      have rr:((c:Int)+(y:Int)+(p:Int)).tmod 10000=(dg:Int):=by rw [yH (by omega)];omega
      have qq:((c:Int)+(y:Int)+(p:Int)).tdiv 10000=(c':Int):=by rw [yC (by omega)];omega
      clear hdg hc' hp hdd hgo
      go_wp2_with fail
      go_quiet (fail)
      go_wp2_with fail
      go_roundw
      case rel=>exact ⟨j+1,c',M.set (i+j) dg,by go_num,rfl,hca,by omega,by rw [jV];exact HM.out,HdM.out.set _ _ hdl,(HrM.out.ext (zext_drewN (Ext.refl _) _)).set _ _,Hstep.out,yD (zext_drewN HEx.out _) (by rw [HWB.out];exact qZ _) _⟩
      case measure=>simp [intOf];omega
     ·have ij2:¬ (j:Int)<(n2:Int):=by omega
      have ic:(0:Int)<(c:Int):=by omega
      obtain rfl:j=n2:=by omega
      obtain ⟨dg,hdg⟩:∃ dg,(c+y+x*0) % 10000=dg:=⟨_,rfl⟩;obtain ⟨c',hc'⟩:∃ c',(c+y+x*0) / 10000=c':=⟨_,rfl⟩;have Hstep:=Lh (zmul_step (t:=c+y+x*0) (by rw [HM.out];omega) Hy.out (zval_take_out (l:=lb) (k:=j) (by rw [Q1.out];omega)) rfl hdg hc' Hinv.out);rw [Nat.mul_zero,Nat.add_zero] at hdg hc'
      have hdl:dg<10000:=by omega
      have hca:c'<=9999:=by omega
      have rr:((c:Int)+(y:Int)).tmod 10000=(dg:Int):=by rw [yH (by omega)];omega
      have qq:((c:Int)+(y:Int)).tdiv 10000=(c':Int):=by rw [yC (by omega)];omega
      clear hdg hc' hgo
      go_wp2_with fail
      go_roundw
      case rel=>exact ⟨j+1,c',M.set (i+j) dg,by go_num,rfl,hca,by omega,by rw [jV];exact HM.out,HdM.out.set _ _ hdl,HrM.out.set _ _,Hstep.out,yD HEx.out (by rw [HWB.out];exact qZ _) _⟩
      case measure=>simp [intOf]
    ·obtain rfl:c=0:=by omega
     have ij2:¬ (j:Int)<(n2:Int):=by omega
     have Hrow:=Lh (zmul_row (by rw [P1.out];exact hlt) Hx.out (by rw [Q1.out];omega) Hinv.out);clear hgo
     go_wp2_with fail
     go_roundw
     case rel=>exact ⟨i+1,M,by go_num,by omega,HM.out,HdM.out,HrM.out,Hrow.out,HEx.out⟩
     case measure=>simp [intOf];omega
  ·obtain rfl:i=n1:=by omega
   have ii:¬ (i:Int)<(i:Int):=by omega
   have Hm:=Lh (zmade_any bb (some ⟨w.heap.size+1+1+1,0,none⟩) L (i+n2+1) (i+n2+1) wr HL.out Hr.out.seg Hd.out (qZ _) (by unfold maxLen;omega) (by omega) (z1*z2) (HV.out L (by rw [Hval.out,qB (by rw [P1.out];exact qZ _)])));clear hlt
   go_wp2_with fail
   refine Hm.out.mono ?_;rintro e w9 ⟨b',a',n',c',rfl,hI,hle,hx9⟩;have hR9:=hR.ext (HEr.out.trans hx9);have k0:=hR9.c0;have k1:=hR9.c1;have f0:=hR9.f 0;have f1:=hR9.f 1
   go_wp2_with fail
   exact qJ (v:=.agg #[.bool b',.slice a' n' c']) (by simp [results,Tryz.results33,go_sem,k0,k1]) rfl ⟨b',a',n',c',rfl,hI.keepRes hR9.row _ _,by omega,zput2 (hE.trans (HEr.out.trans hx9)) (by omega) _ _⟩
end Go.Proofs.YtjfomkoedgipjaaGreatDoor
