/-
  The reference's numbers: ZNeg, ZAdd, ZSub, ZCmp. The reference's numbers: ZSub, ZCmp. The reference's numbers: a block of ints that is written; the digits of a product. The reference's numbers: ZMul. The reference's numbers: ZOf. The reference's writing, in plain lists. The reference's numbers: zodd, zhalf. The reference's numbers: ZTwos. The reference's division, in plain numbers; an append of ints; what a store of the same value leaves. The reference's numbers of circuits in memory: eight numbers by digits and a power, side by side.
-/
import Derived.Deep.AppendLies
import Derived.Test.YtfjnlopbmkimiaaGreatDoorS09ZEq
namespace Go.Proofs.YtfjnlopbmkimiaaGreatDoor
set_option maxRecDepth 100000
set_option maxHeartbeats 2000000
open Go.RowKit
variable {Qc:Nat->Prop}
open Go.RowKit
theorem zKeep {W w':World} (h:Ext W w') {b o:Nat} {v:Value} (hb:b<W.heap.size) (hc:W.cell? ⟨b,o,none⟩=some v):w'.cell? ⟨b,o,none⟩=some v:=(h.cell (p:=⟨b,o,none⟩) hb).trans hc
theorem zPut {w':World} {g o' b o:Nat} {u v:Value} (hne:b≠g) (hc:w'.cell? ⟨b,o,none⟩=some v):(w'.setCell ⟨g,o',none⟩ u).cell? ⟨b,o,none⟩=some v:=by
 have hO:Only g w' (w'.setCell ⟨g,o',none⟩ u):=(Only.refl _ _).setCell _ _;exact (World.cell?_of_block (a:=⟨b,o,none⟩) (hO.block _ hne)).trans hc
theorem zput2 {w W:World} {g:Nat} (h:Ext w W) (hg:w.heap.size<=g) (u v:Value):Ext w ((W.setCell ⟨g,0,none⟩ u).setCell ⟨g,1,none⟩ v):=(Below.setCell h (p:=⟨g,0,none⟩) hg u).setCell (p:=⟨g,1,none⟩) hg v
structure ZBx (W:World) (g:Nat) (b:Bool) (a:Option Addr) (n c:Nat):Prop where
 row:W.heap[g]?=some (.cells #[.bool b,.slice a n c] 45 (0,0))
theorem ZBx.lt {W:World} {g:Nat} {b:Bool} {a:Option Addr} {n c:Nat} (h:ZBx W g b a n c):g<W.heap.size:=(gS.1 h.row).1
theorem ZBx.ext {W W':World} {g:Nat} {b:Bool} {a:Option Addr} {n c:Nat} (h:ZBx W g b a n c) (k:Ext W W'):ZBx W' g b a n c:=⟨(k.block _ h.lt).trans h.row⟩
theorem ZBx.c0 {W:World} {g:Nat} {b:Bool} {a:Option Addr} {n c:Nat} (h:ZBx W g b a n c):W.cell? ⟨g,0,none⟩=some (.bool b):=by rw [cell_of_row W g 0 _ _ (0,0) h.row];rfl
theorem ZBx.c1 {W:World} {g:Nat} {b:Bool} {a:Option Addr} {n c:Nat} (h:ZBx W g b a n c):W.cell? ⟨g,1,none⟩=some (.slice a n c):=by rw [cell_of_row W g 1 _ _ (0,0) h.row];rfl
theorem zbx_new (w:World) (b:Bool) (a:Option Addr) (n c:Nat):ZBx (w.alloc (.cells #[.bool b,.slice a n c] 45)) w.heap.size b a n c:=⟨heap_alloc_new w _⟩
theorem ZNeg_any (neg:Bool) (ao:Option Addr) (n c:Nat) (z:Int) (w:World) (h:IsZ Qc w neg ao n c z) (hn:n<=1000000) :
  Calls Tryz.prog 100 #[.agg #[.bool neg,.slice ao n c]] w (ZRet Qc w (-z) n):=by
 obtain ⟨l,h1,h2,h3,h4,h5,h6,h7,h8⟩:=h;have hE:=(ext_alloc w (.cells #[.bool neg,.slice ao n c] 45)).trans (ext_alloc _ (.cells #[.bool false,.slice none 0 0] 45));have hR:=zres_new (w.alloc (.cells #[.bool neg,.slice ao n c] 45));rw [show (w.alloc (.cells #[.bool neg,.slice ao n c] 45)).heap.size=w.heap.size+1 from by simp] at hR
 have Hz:Hid (-z=if (!neg)=true then -(zval l:Int) else (zval l:Int)):=by
  show _=_
  rw [h7];cases neg<;>simp
 have Hm:=Lh (fun wx (hx:Ext w wx)=>zmade_any (!neg) ao l n c wx h1 (h4.ext hx) h5 h2 h3 hn (-z) Hz.out (h8.2.neg.grow hx.size));clear h1 h2 h3 h4 h5 h6 h7 h8
 go_enter Tryz.func100,Tryz.ntmps100
 go_wp2_with fail
 refine (Hm.out _ hE).mono ?_;rintro e w1 ⟨b',a',n',c',rfl,hI,hle,hx⟩;have hR1:=hR.ext hx;have k0:=hR1.c0;have k1:=hR1.c1;have f0:=hR1.f 0;have f1:=hR1.f 1
 go_wp2_with fail
 exact bodyPost_ret (v:=.agg #[.bool b',.slice a' n' c']) (by simp [results,Tryz.results100,go_sem,k0,k1]) rfl ⟨b',a',n',c',rfl,hI.keepRes hR1.row _ _,hle,zput2 (hE.trans hx) (by omega) _ _⟩
theorem ZAdd_any (b1 b2:Bool) (a1 a2:Option Addr) (n1 c1 n2 c2:Nat) (z1 z2:Int) (w:World) (h1:IsZ Qc w b1 a1 n1 c1 z1) (h2:IsZ Qc w b2 a2 n2 c2 z2) (hn1:n1<=500000) (hn2:n2<=500000) :
  Calls Tryz.prog 72 #[.agg #[.bool b1,.slice a1 n1 c1],.agg #[.bool b2,.slice a2 n2 c2]] w (ZRet Qc w (z1+z2) (max n1 n2+1)):=by
 have H1:=Lh h1;have H2:=Lh h2;obtain ⟨la,p1,p2,p3,p4,p5,p6,p7,p8⟩:=h1;obtain ⟨lb,q1,q2,q3,q4,q5,q6,q7,q8⟩:=h2;have hE:=((ext_alloc w (.cells #[.bool b1,.slice a1 n1 c1] 45)).trans (ext_alloc _ (.cells #[.bool b2,.slice a2 n2 c2] 45))).trans (ext_alloc _ (.cells #[.bool false,.slice none 0 0] 45));have bA:=((zbx_new w b1 a1 n1 c1).ext (ext_alloc _ (.cells #[.bool b2,.slice a2 n2 c2] 45))).ext (ext_alloc _ (.cells #[.bool false,.slice none 0 0] 45));have bB:=(zbx_new (w.alloc (.cells #[.bool b1,.slice a1 n1 c1] 45)) b2 a2 n2 c2).ext (ext_alloc _ (.cells #[.bool false,.slice none 0 0] 45));have hR:=zres_new ((w.alloc (.cells #[.bool b1,.slice a1 n1 c1] 45)).alloc (.cells #[.bool b2,.slice a2 n2 c2] 45));rw [show (w.alloc (.cells #[.bool b1,.slice a1 n1 c1] 45)).heap.size=w.heap.size+1 from by simp] at bB;rw [show ((w.alloc (.cells #[.bool b1,.slice a1 n1 c1] 45)).alloc (.cells #[.bool b2,.slice a2 n2 c2] 45)).heap.size=w.heap.size+1+1 from by simp] at hR;have k0:=hR.c0;have k1:=hR.c1;have f0:=hR.f 0;have f1:=hR.f 1;have x0:=bA.c0;have x1:=bA.c1;have y0:=bB.c0;have y1:=bB.c1
 by_cases h10:n1=0
 ·have hz:z1=0:=by
   have:la=[]:=List.eq_nil_of_length_eq_zero (by omega);rw [p7,this];simp [zval]
  subst h10;rw [hz,Int.zero_add];clear p1 p2 p3 p4 p5 p6 p7 p8 q1 q2 q3 q4 q5 q6 q7 q8
  go_enter Tryz.func72,Tryz.ntmps72
  go_wp2_with fail
  exact bodyPost_ret (v:=.agg #[.bool b2,.slice a2 n2 c2]) (by simp [results,Tryz.results72,go_sem]) rfl ⟨b2,a2,n2,c2,rfl,H2.out.ext (((ext_alloc _ _).trans (ext_alloc _ _)).trans (ext_alloc _ _)),by omega,((ext_alloc _ _).trans (ext_alloc _ _)).trans (ext_alloc _ _)⟩
 ·have g1:((n1:Int) == 0)=false:=by rw [beq_eq_false_iff_ne];omega
  by_cases h20:n2=0
  ·have hz:z2=0:=by
    have:lb=[]:=List.eq_nil_of_length_eq_zero (by omega);rw [q7,this];simp [zval]
   subst h20;rw [hz,Int.add_zero];clear p1 p2 p3 p4 p5 p6 p7 p8 q1 q2 q3 q4 q5 q6 q7 q8
   go_enter Tryz.func72,Tryz.ntmps72
   go_wp2_with fail
   exact bodyPost_ret (v:=.agg #[.bool b1,.slice a1 n1 c1]) (by simp [results,Tryz.results72,go_sem]) rfl ⟨b1,a1,n1,c1,rfl,H1.out.ext (((ext_alloc _ _).trans (ext_alloc _ _)).trans (ext_alloc _ _)),by omega,((ext_alloc _ _).trans (ext_alloc _ _)).trans (ext_alloc _ _)⟩
  ·have g2:((n2:Int) == 0)=false:=by rw [beq_eq_false_iff_ne];omega
   have P7:=Lh p7;have Q7:=Lh q7
   have HLm:=Lh (show LimQ Qc w from p8.2.lim (by
    have:=zval_lt_len ZD.nil p6 (show [].length<la.length by rw [p1];show 0<n1;omega);have e:zval []=0:=rfl;rw [e] at this
    rw [p7];split<;>omega))
   have Hda:=Lh (fun wx (hx:Ext w wx)=>dadd_any a1 a2 la lb n1 n2 c1 c2 wx p1 q1 (p4.ext hx) (q4.ext hx) p5 q5 (by omega) (by omega) w.heap.size hx.size);have Hdc:=Lh (fun wx (hx:Ext w wx)=>dcmp_any a1 a2 la lb n1 n2 c1 c2 wx p1 q1 (p4.ext hx) (q4.ext hx) p5 q5 p6 q6 p2 q2 (by omega) (by omega));have Hs1:=Lh (fun wx (hx:Ext w wx) (hv:zval lb<=zval la)=>dsub_any a1 a2 la lb n1 n2 c1 c2 wx p1 q1 (p4.ext hx) (q4.ext hx) p5 q5 (by omega) (Nat.le_of_not_lt (fun hlt=>by have:=zval_lt_len p5 q6 (by omega);omega)) hv w.heap.size hx.size);have Hs2:=Lh (fun wx (hx:Ext w wx) (hv:zval la<=zval lb)=>dsub_any a2 a1 lb la n2 n1 c2 c1 wx q1 p1 (q4.ext hx) (p4.ext hx) q5 p5 (by omega) (Nat.le_of_not_lt (fun hlt=>by have:=zval_lt_len q5 p6 (by omega);omega)) hv w.heap.size hx.size);clear p1 p2 p3 p4 p5 p6 p7 p8 q1 q2 q3 q4 q5 q6 q7 q8 h10 h20 H1 H2 k0 k1 f0 f1
   by_cases hbb:b1=b2
   ·subst hbb
    have HV:Hid (∀ l5,zval l5=zval la+zval lb->z1+z2=if b1=true then -(zval l5:Int) else (zval l5:Int)):=by
     intro l5 h5
     rw [P7.out,Q7.out,h5];cases b1<;>simp<;>omega
    have hbt:(b1 == b1)=true:=by simp
    go_enter Tryz.func72,Tryz.ntmps72
    go_wp2_with fail
    generalize ((w.alloc (.cells #[.bool b1,.slice a1 n1 c1] 45)).alloc (.cells #[.bool b1,.slice a2 n2 c2] 45)).alloc (.cells #[.bool false,.slice none 0 0] 45)=WB at *;have hRB:=hR;have lR:=hR.lt;have hBd:Ext WB WB.drew:=Below.drew (Ext.refl _)
    go_region_held3 (fun w'=>w'.cell? ⟨w.heap.size,0,none⟩=some (.bool b1)/\w'.cell? ⟨w.heap.size,1,none⟩=some (.slice a1 n1 c1)/\w'.cell? ⟨w.heap.size+1,0,none⟩=some (.bool b1)/\w'.cell? ⟨w.heap.size+1,1,none⟩=some (.slice a2 n2 c2))
     (refine ⟨?_,?_,?_,?_⟩<;>(repeat (refine zPut (by omega) ?_))<;>exact zKeep (W:=WB) (by assumption) (by omega) (by assumption))
     (first | (go_at_call 104;refine (Hda.out _ (hE.trans (by assumption))).mono ?_;rintro e w5 ⟨a5,l5,n5,c5,rfl,hl5,hn5,hc5,hs5,hd5,Hv5,hm5,hx5,hf5⟩;have he5:Ext WB w5:=Ext.trans (by assumption) hx5) | (go_at_call 70;refine (zmade_any b1 a5 l5 n5 c5 w5 hl5 hs5 hd5 hn5 hc5 (by omega) (z1+z2) (HV.out l5 Hv5.out) (ClQ.made HLm.out (hE.trans he5).size hf5)).mono ?_;rintro e w9 ⟨b',a',n',c',rfl,hI,hle,hx9⟩;have he9:Ext WB w9:=he5.trans hx9;have hR9:=hRB.ext he9;have k0:=hR9.c0;have k1:=hR9.c1;have f0:=hR9.f 0;have f1:=hR9.f 1))
    go_wp2_with fail
    exact bodyPost_ret (v:=.agg #[.bool b',.slice a' n' c']) (by simp [results,Tryz.results72,go_sem,k0,k1]) rfl ⟨b',a',n',c',rfl,hI.keepRes hR9.row _ _,by omega,zput2 (hE.trans he9) (by omega) _ _⟩
   ·have hbt:(b1 == b2)=false:=by cases b1<;>cases b2<;>simp_all
    have Hbb:=Lh hbb;obtain ⟨k,ek⟩:∃ k,zc (zval la) (zval lb)=k:=⟨_,rfl⟩;rw [ek] at Hdc;have Ek:=Lh ek;clear ek hbb
    go_enter Tryz.func72,Tryz.ntmps72
    go_wp2_with fail
    generalize ((w.alloc (.cells #[.bool b1,.slice a1 n1 c1] 45)).alloc (.cells #[.bool b2,.slice a2 n2 c2] 45)).alloc (.cells #[.bool false,.slice none 0 0] 45)=WB at *;refine (Hdc.out _ hE).mono ?_;rintro e WC ⟨rfl,hxC⟩;have HEC:=Lh (hE.trans hxC);have hRC:=hR.ext hxC;have lR:=hRC.lt;have z0:=zKeep hxC bA.lt x0;have z1':=zKeep hxC bA.lt x1;have z2':=zKeep hxC bB.lt y0;have z3:=zKeep hxC bB.lt y1;have hCd:Ext WC WC.drew:=Below.drew (Ext.refl _);clear x0 x1 y0 y1 bA bB hR hE hxC
    by_cases hge:zval lb<=zval la
    ·have Hge:=Lh hge
     have ik:(0:Int)<=k:=by
      rw [<-Ek.out];unfold zc;rw [if_neg (by omega)]
      split<;>decide
     have HV:Hid (∀ l5,zval l5+zval lb=zval la->z1+z2=if b1=true then -(zval l5:Int) else (zval l5:Int)):=by
      intro l5 h5;have hb:=Hbb.out;rw [P7.out,Q7.out]
      cases b1<;>cases b2<;>simp_all<;>omega
     clear hge
     go_wp2_with fail
     go_region_held3 (fun w'=>w'.cell? ⟨w.heap.size,0,none⟩=some (.bool b1)/\w'.cell? ⟨w.heap.size,1,none⟩=some (.slice a1 n1 c1)/\w'.cell? ⟨w.heap.size+1,0,none⟩=some (.bool b2)/\w'.cell? ⟨w.heap.size+1,1,none⟩=some (.slice a2 n2 c2))
      (refine ⟨?_,?_,?_,?_⟩<;>(repeat (refine zPut (by omega) ?_))<;>exact zKeep (W:=WC) (by assumption) (by omega) (by assumption))
      (first | (go_at_call 106;refine (Hs1.out _ (HEC.out.trans (by assumption)) Hge.out).mono ?_;rintro e w5 ⟨a5,l5,n5,c5,rfl,hl5,hn5,hc5,hs5,hd5,Hv5,hm5,hx5,hf5⟩;have he5:Ext WC w5:=Ext.trans (by assumption) hx5) | (go_at_call 70;refine (zmade_any b1 a5 l5 n5 c5 w5 hl5 hs5 hd5 hn5 hc5 (by omega) (z1+z2) (HV.out l5 Hv5.out) (ClQ.made HLm.out (HEC.out.trans he5).size hf5)).mono ?_;rintro e w9 ⟨b',a',n',c',rfl,hI,hle,hx9⟩;have he9:Ext WC w9:=he5.trans hx9;have hR9:=hRC.ext he9;have k0:=hR9.c0;have k1:=hR9.c1;have f0:=hR9.f 0;have f1:=hR9.f 1))
     go_wp2_with fail
     exact bodyPost_ret (v:=.agg #[.bool b',.slice a' n' c']) (by simp [results,Tryz.results72,go_sem,k0,k1]) rfl ⟨b',a',n',c',rfl,hI.keepRes hR9.row _ _,by omega,zput2 (HEC.out.trans he9) (by omega) _ _⟩
    ·have Hge:Hid (zval la<=zval lb):=by show _<=_;omega
     have ik:¬ (0:Int)<=k:=by
      rw [<-Ek.out];unfold zc;rw [if_pos (by omega)];decide
     have HV:Hid (∀ l5,zval l5+zval la=zval lb->z1+z2=if b2=true then -(zval l5:Int) else (zval l5:Int)):=by
      intro l5 h5;have hb:=Hbb.out;rw [P7.out,Q7.out]
      cases b1<;>cases b2<;>simp_all<;>omega
     clear hge
     go_wp2_with fail
     go_region_held3 (fun w'=>w'.cell? ⟨w.heap.size,0,none⟩=some (.bool b1)/\w'.cell? ⟨w.heap.size,1,none⟩=some (.slice a1 n1 c1)/\w'.cell? ⟨w.heap.size+1,0,none⟩=some (.bool b2)/\w'.cell? ⟨w.heap.size+1,1,none⟩=some (.slice a2 n2 c2))
      (refine ⟨?_,?_,?_,?_⟩<;>(repeat (refine zPut (by omega) ?_))<;>exact zKeep (W:=WC) (by assumption) (by omega) (by assumption))
      (first | (go_at_call 106;refine (Hs2.out _ (HEC.out.trans (by assumption)) Hge.out).mono ?_;rintro e w5 ⟨a5,l5,n5,c5,rfl,hl5,hn5,hc5,hs5,hd5,Hv5,hm5,hx5,hf5⟩;have he5:Ext WC w5:=Ext.trans (by assumption) hx5) | (go_at_call 70;refine (zmade_any b2 a5 l5 n5 c5 w5 hl5 hs5 hd5 hn5 hc5 (by omega) (z1+z2) (HV.out l5 Hv5.out) (ClQ.made HLm.out (HEC.out.trans he5).size hf5)).mono ?_;rintro e w9 ⟨b',a',n',c',rfl,hI,hle,hx9⟩;have he9:Ext WC w9:=he5.trans hx9;have hR9:=hRC.ext he9;have k0:=hR9.c0;have k1:=hR9.c1;have f0:=hR9.f 0;have f1:=hR9.f 1))
     go_wp2_with fail
     exact bodyPost_ret (v:=.agg #[.bool b',.slice a' n' c']) (by simp [results,Tryz.results72,go_sem,k0,k1]) rfl ⟨b',a',n',c',rfl,hI.keepRes hR9.row _ _,by omega,zput2 (HEC.out.trans he9) (by omega) _ _⟩
variable {Qc:Nat->Prop}
open Go.RowKit
theorem ZSub_any (b1 b2:Bool) (a1 a2:Option Addr) (n1 c1 n2 c2:Nat) (z1 z2:Int) (w:World) (h1:IsZ Qc w b1 a1 n1 c1 z1) (h2:IsZ Qc w b2 a2 n2 c2 z2) (hn1:n1<=500000) (hn2:n2<=500000) :
  Calls Tryz.prog 109 #[.agg #[.bool b1,.slice a1 n1 c1],.agg #[.bool b2,.slice a2 n2 c2]] w (ZRet Qc w (z1-z2) (max n1 n2+1)):=by
 have H1:=Lh h1;have H2:=Lh h2;have hE:=((ext_alloc w (.cells #[.bool b1,.slice a1 n1 c1] 45)).trans (ext_alloc _ (.cells #[.bool b2,.slice a2 n2 c2] 45))).trans (ext_alloc _ (.cells #[.bool false,.slice none 0 0] 45));have bA:=((zbx_new w b1 a1 n1 c1).ext (ext_alloc _ (.cells #[.bool b2,.slice a2 n2 c2] 45))).ext (ext_alloc _ (.cells #[.bool false,.slice none 0 0] 45));have bB:=(zbx_new (w.alloc (.cells #[.bool b1,.slice a1 n1 c1] 45)) b2 a2 n2 c2).ext (ext_alloc _ (.cells #[.bool false,.slice none 0 0] 45));have hR:=zres_new ((w.alloc (.cells #[.bool b1,.slice a1 n1 c1] 45)).alloc (.cells #[.bool b2,.slice a2 n2 c2] 45));rw [show (w.alloc (.cells #[.bool b1,.slice a1 n1 c1] 45)).heap.size=w.heap.size+1 from by simp] at bB;rw [show ((w.alloc (.cells #[.bool b1,.slice a1 n1 c1] 45)).alloc (.cells #[.bool b2,.slice a2 n2 c2] 45)).heap.size=w.heap.size+1+1 from by simp] at hR;have x0:=bA.c0;have x1:=bA.c1;have y0:=bB.c0;have y1:=bB.c1;clear h1 h2
 go_enter Tryz.func109,Tryz.ntmps109
 go_wp2_with fail
 generalize ((w.alloc (.cells #[.bool b1,.slice a1 n1 c1] 45)).alloc (.cells #[.bool b2,.slice a2 n2 c2] 45)).alloc (.cells #[.bool false,.slice none 0 0] 45)=WB at *;have lR:=hR.lt;have hBd:Ext WB WB.drew:=Below.drew (Ext.refl _)
 go_region_held3 (fun w'=>w'.cell? ⟨w.heap.size,0,none⟩=some (.bool b1)/\w'.cell? ⟨w.heap.size,1,none⟩=some (.slice a1 n1 c1)/\w'.cell? ⟨w.heap.size+1,0,none⟩=some (.bool b2)/\w'.cell? ⟨w.heap.size+1,1,none⟩=some (.slice a2 n2 c2))
  (refine ⟨?_,?_,?_,?_⟩<;>(repeat (refine zPut (by omega) ?_))<;>exact zKeep (W:=WB) (by assumption) (by omega) (by assumption))
  (first | (go_at_call 100;refine (ZNeg_any b2 a2 n2 c2 z2 _ (H2.out.ext (hE.trans (by assumption))) (by omega)).mono ?_;rintro e w5 ⟨b5,a5,n5,c5,rfl,hI5,hle5,hx5⟩;have he5:Ext WB w5:=Ext.trans (by assumption) hx5) | (go_at_call 72;refine (ZAdd_any b1 b5 a1 a5 n1 c1 n5 c5 z1 (-z2) w5 (H1.out.ext (hE.trans he5)) hI5 hn1 (by omega)).mono ?_;rintro e w9 ⟨b',a',n',c',rfl,hI,hle,hx9⟩;have he9:Ext WB w9:=he5.trans hx9;have hR9:=hR.ext he9;have k0:=hR9.c0;have k1:=hR9.c1;have f0:=hR9.f 0;have f1:=hR9.f 1))
 go_wp2_with fail
 exact bodyPost_ret (v:=.agg #[.bool b',.slice a' n' c']) (by simp [results,Tryz.results109,go_sem,k0,k1]) rfl ⟨b',a',n',c',rfl,(hI.cast (by omega)).keepRes hR9.row _ _,by omega,zput2 (hE.trans he9) (by omega) _ _⟩
def IRow (w:World) (b:Nat) (L:List Nat):Prop :=
 ∃ e:{ t:TypeId // t=3 },w.heap[b]?=some (.cells (L.map fun x=>Value.int .i64 (x:Nat)).toArray e.1 (0,0))
theorem IRow.lt {w:World} {b:Nat} {L:List Nat} (h:IRow w b L):b<w.heap.size:=by
 obtain ⟨e,h⟩:=h;exact (gS.1 h).1
theorem IRow.cell {w:World} {b:Nat} {L:List Nat} (h:IRow w b L) (j:Nat) (hj:j<L.length):w.cell? ⟨b,j,none⟩=some (.int .i64 (L.getD j 0:Nat)):=by
 obtain ⟨e,h⟩:=h;rw [cell_of_row w b j _ _ (0,0) h]
 simp [hj,List.getD_eq_getElem?_getD]
theorem IRow.frozen {w:World} {b:Nat} {L:List Nat} (h:IRow w b L) (j:Nat):w.frozen? ⟨b,j,none⟩=false:=by
 obtain ⟨e,h⟩:=h;exact frozen_of_row w b j _ _ h
theorem IRow.set {w:World} {b:Nat} {L:List Nat} (h:IRow w b L) (j x:Nat):IRow (w.setCell ⟨b,j,none⟩ (.int .i64 (x:Nat))) b (L.set j x):=by
 obtain ⟨e,h⟩:=h;refine ⟨e,?_⟩;rw [heap_setCell_same w b j _ _ _ h]
 congr 2
 apply Array.toList_inj.1
 simp [List.map_set]
theorem IRow.ext {w w':World} {b:Nat} {L:List Nat} (h:IRow w b L) (k:Ext w w'):IRow w' b L:=by
 have hb:=h.lt;obtain ⟨e,h⟩:=h;exact ⟨e,(k.block b hb).trans h⟩
theorem IRow.seg {w:World} {b:Nat} {L:List Nat} (h:IRow w b L):ISeg w (some ⟨b,0,none⟩) L :=
 Or.inr ⟨b,0,rfl,by obtain ⟨⟨e,rfl⟩,hh⟩:=h;exact ⟨_,_,hh⟩,fun t ht=>by rw [Nat.zero_add];exact h.cell t ht⟩
theorem irow_of_made {w w':World} {base n:Nat} (h:w'.ownsRow base 3 1 (.slice (some ⟨w.heap.size,0,none⟩) n n) n (madeCells (Value.int .i64 0).cells (n*1)).toList) :
  IRow w' w.heap.size (List.replicate n 0):=by
 obtain ⟨_,h | ⟨g,cap,cur,hv,_,hh,_,_,hsz,ht⟩⟩:=h
 ·simp at h
 ·simp only [Value.slice.injEq,Option.some.injEq,Addr.mk.injEq,and_true,true_and] at hv
  obtain ⟨hg,rfl⟩:=hv;subst hg;refine ⟨⟨3,rfl⟩,?_⟩;rw [hh]
  congr 2
  apply Array.toList_inj.1
  have e1:cur.toList.take (n*1)=cur.toList:=List.take_of_length_le (by rw [Array.length_toList,hsz];exact Nat.le_refl _);have e2:(Value.int .i64 0).cells=#[Value.int .i64 0]:=rfl;rw [e1,e2,Nat.mul_one,toList_madeCells_one] at ht;rw [ht]
  simp
theorem wpList_make_irow (w:World) {ops:Array Oper} {rest:List Oper} {o:Oper} {a:Act} {Q:Exit->Act->World->Prop}
  (hg:o.guard=none) (l c:Operand) (hop:o.op=Op.makeSlice 25 l c) (kl kc:IntKind) (L C:Int) (n:Nat) (hl:a.eval l=.int kl L) (hc:a.eval c=.int kc C) (hL:L=(n:Int)) (hC:C=(n:Int)) (b2:n<=1099511627776)
  (hK:∀ w',IRow w' w.heap.size (List.replicate n 0)->Ext w w'->w.heap.size<w'.heap.size->wpList Tryz.prog ops Q rest (a.put o.dst (.slice (some ⟨w.heap.size,0,none⟩) n n)) w') :
  wpList Tryz.prog ops Q (o :: rest) a w:=by
 obtain ⟨i0,hi,hz0,hz1,hz2⟩:=info_parts int_info;refine wpList_make_full w hg l c 25 hop w.heap.size 3 i0 (.int .i64 0) 1 Tryz.underlying25 hi hz0 hz1 kl kc L C n hl hc hL hC (by rw [hz2];omega) (by unfold maxLen;omega) (Nat.le_refl _) ?_;intro w' hown hgrow;have hr:=irow_of_made hown;exact hK w' hr ((Below.refl _ _).grown hgrow (Nat.le_refl _) (fun k h=>by cases h)) hr.lt
theorem ZD.replicate (n:Nat):ZD (List.replicate n 0):=fun x hx=>by rw [List.eq_of_mem_replicate hx];decide
theorem ZD.set {l:List Nat} (h:ZD l) (k x:Nat) (hx:x<10000):ZD (l.set k x):=fun y hy=>by
 rcases List.mem_or_eq_of_mem_set hy with h1 | h1
 ·exact h y h1
 ·rw [h1];exact hx
theorem zval_replicate (n:Nat):zval (List.replicate n 0)=0:=by
 induction n with
 | zero=>rfl
 | succ n ih=>rw [List.replicate_succ,zval,ih]
theorem zval_set (l:List Nat):∀ (k x:Nat),k<l.length->zval (l.set k x)+10000 ^ k*l.getD k 0=zval l+10000 ^ k*x:=by
 induction l with
 | nil=>intro k x h;simp at h
 | cons y r ih =>
  intro k x h
  cases k with
  | zero=>simp [zval];omega
  | succ k =>
   have h1:=ih k x (by simpa using h);simp only [List.set_cons_succ,zval,List.getD_cons_succ];rw [Nat.pow_succ]
   have e1:10000 ^ k*10000*r.getD k 0=10000*(10000 ^ k*r.getD k 0):=by rw [Nat.mul_comm (10000 ^ k) 10000,Nat.mul_assoc]
   have e2:10000 ^ k*10000*x=10000*(10000 ^ k*x):=by rw [Nat.mul_comm (10000 ^ k) 10000,Nat.mul_assoc]
   rw [e1,e2];omega
theorem zmul_put {M:List Nat} {k c y p t d c':Nat} (hk:k<M.length) (hy:M.getD k 0=y) (ht:t=c+y+p) (hd:t % 10000=d) (hc:t / 10000=c') :
  zval (M.set k d)+10000 ^ (k+1)*c'=zval M+10000 ^ k*(c+p):=by
 have h1:=zval_set M k d hk;rw [hy] at h1
 have h2:10000 ^ k*t=10000 ^ k*d+10000 ^ (k+1)*c':=by
  rw [Nat.pow_succ,Nat.mul_assoc,<-Nat.mul_add]
  congr 1
  omega
 rw [ht,Nat.mul_add,Nat.mul_add] at h2;rw [Nat.mul_add];omega
theorem zmul_step {M lb:List Nat} {i j c y x b t d c' V:Nat} (hk:i+j<M.length) (hy:M.getD (i+j) 0=y) (hb:zval (lb.take (j+1))=zval (lb.take j)+10000 ^ j*b) (ht:t=c+y+x*b) (hd:t % 10000=d) (hc:t / 10000=c')
  (h:zval M+10000 ^ (i+j)*c=V+10000 ^ i*(x*zval (lb.take j))) :
  zval (M.set (i+j) d)+10000 ^ (i+(j+1))*c'=V+10000 ^ i*(x*zval (lb.take (j+1))):=by
 have h1:=zmul_put hk hy ht hd hc;rw [hb]
 have e1:10000 ^ i*(x*(zval (lb.take j)+10000 ^ j*b))=10000 ^ i*(x*zval (lb.take j))+10000 ^ (i+j)*(x*b):=by
  rw [Nat.mul_add,Nat.mul_add,Nat.pow_add]
  congr 1
  rw [Nat.mul_assoc]
  congr 1
  rw [Nat.mul_left_comm]
 rw [e1,show i+(j+1)=i+j+1 by omega,h1,Nat.mul_add];omega
theorem zmul_room {M la lb:List Nat} {i j c x:Nat} (hi:i<la.length) (ha:ZD la) (hb:ZD lb) (hx:la.getD i 0=x) (hc:0<c)
  (h:zval M+10000 ^ (i+j)*c=zval (la.take i)*zval lb+10000 ^ i*(x*zval (lb.take j))) (hj:lb.length<=j):j=lb.length:=by
 rw [List.take_of_length_le hj] at h;have h1:=zval_lt (ha.take (i+1))
 have hl:(la.take (i+1)).length=i+1:=by rw [List.length_take];omega
 rw [hl] at h1;have h2:=zval_lt hb
 have e:zval (la.take (i+1))*zval lb=zval (la.take i)*zval lb+10000 ^ i*(x*zval lb):=by
  rw [zval_take_in hi,hx,Nat.add_mul,Nat.mul_assoc]
 rw [<-e] at h
 have h3:zval (la.take (i+1))*zval lb<10000 ^ (i+1)*10000 ^ lb.length:=by
  have hp:0<10000 ^ lb.length:=Nat.pow_pos (by decide);have q1:zval (la.take (i+1))*zval lb<=zval (la.take (i+1))*10000 ^ lb.length:=Nat.mul_le_mul_left _ (by omega);have q2:zval (la.take (i+1))*10000 ^ lb.length<10000 ^ (i+1)*10000 ^ lb.length:=Nat.mul_lt_mul_of_pos_right h1 hp;omega
 rw [<-Nat.pow_add] at h3;have h4:10000 ^ (i+j)<=10000 ^ (i+j)*c:=Nat.le_mul_of_pos_right _ hc
 have h5:10000 ^ (i+j)<10000 ^ (i+1+lb.length):=by omega
 have h6:=(Nat.pow_lt_pow_iff_right (a:=10000) (by decide)).1 h5;omega
theorem zmul_row {M la lb:List Nat} {i j x:Nat} (hi:i<la.length) (hx:la.getD i 0=x) (hj:lb.length<=j)
  (h:zval M+10000 ^ (i+j)*0=zval (la.take i)*zval lb+10000 ^ i*(x*zval (lb.take j))):zval M=zval (la.take (i+1))*zval lb:=by
 rw [List.take_of_length_le hj,Nat.mul_zero,Nat.add_zero] at h;rw [h,zval_take_in hi,hx,Nat.add_mul,Nat.mul_assoc]
theorem zmul_carry {c y x b:Nat} (hc:c<=9999) (hy:y<10000) (hx:x<10000) (hb:b<10000):(c+y+x*b) / 10000<=9999/\x*b<=99980001:=by
 have:x*b<=9999*9999:=Nat.mul_le_mul (by omega) (by omega);omega
variable {Qc:Nat->Prop}
open Go.RowKit
theorem ZMul_any (b1 b2:Bool) (a1 a2:Option Addr) (n1 c1 n2 c2:Nat) (z1 z2:Int) (w:World) (h1:IsZ Qc w b1 a1 n1 c1 z1) (h2:IsZ Qc w b2 a2 n2 c2 z2) (hn1:n1<=400000) (hn2:n2<=400000) :
  Calls Tryz.prog 103 #[.agg #[.bool b1,.slice a1 n1 c1],.agg #[.bool b2,.slice a2 n2 c2]] w (ZRet Qc w (z1*z2) (n1+n2+1)):=by
 obtain ⟨la,p1,p2,p3,p4,p5,p6,p7,p8⟩:=h1;obtain ⟨lb,q1,q2,q3,q4,q5,q6,q7,q8⟩:=h2;have hE:=((ext_alloc w (.cells #[.bool b1,.slice a1 n1 c1] 45)).trans (ext_alloc _ (.cells #[.bool b2,.slice a2 n2 c2] 45))).trans (ext_alloc _ (.cells #[.bool false,.slice none 0 0] 45));have bA:=((zbx_new w b1 a1 n1 c1).ext (ext_alloc _ (.cells #[.bool b2,.slice a2 n2 c2] 45))).ext (ext_alloc _ (.cells #[.bool false,.slice none 0 0] 45));have bB:=(zbx_new (w.alloc (.cells #[.bool b1,.slice a1 n1 c1] 45)) b2 a2 n2 c2).ext (ext_alloc _ (.cells #[.bool false,.slice none 0 0] 45));have hR:=zres_new ((w.alloc (.cells #[.bool b1,.slice a1 n1 c1] 45)).alloc (.cells #[.bool b2,.slice a2 n2 c2] 45));rw [show (w.alloc (.cells #[.bool b1,.slice a1 n1 c1] 45)).heap.size=w.heap.size+1 from by simp] at bB;rw [show ((w.alloc (.cells #[.bool b1,.slice a1 n1 c1] 45)).alloc (.cells #[.bool b2,.slice a2 n2 c2] 45)).heap.size=w.heap.size+1+1 from by simp] at hR
 have HV:Hid (∀ M:List Nat,zval M=zval la*zval lb->z1*z2=if (!(b1 == b2))=true then -(zval M:Int) else (zval M:Int)):=by
  intro M hM;rw [p7,q7,hM]
  cases b1<;>cases b2<;>simp [Int.neg_mul,Int.mul_neg]
 have hA:n1=0\/∃ b o,a1=some ⟨b,o,none⟩:=by
  by_cases h0:n1=0
  ·exact Or.inl h0
  ·exact Or.inr (p4.some_of (by omega))
 have hB:n2=0\/∃ b o,a2=some ⟨b,o,none⟩:=by
  by_cases h0:n2=0
  ·exact Or.inl h0
  ·exact Or.inr (q4.some_of (by omega))
 have P1:=Lh p1;have P4:=Lh p4;have P5:=Lh p5;have Q1:=Lh q1;have Q4:=Lh q4;have Q5:=Lh q5;have x0:=bA.c0;have x1:=bA.c1;have y0:=bB.c0;have y1:=bB.c1;obtain ⟨bb,ebb⟩:∃ bb,(!(b1 == b2))=bb:=⟨_,rfl⟩;rw [ebb] at HV;have HCm:=Lh (show z1*z2=0\/LimQ Qc w from p8.2.imp (fun h=>by rw [h,Int.zero_mul]) And.left);clear p1 p2 p3 p4 p5 p6 p7 p8 q1 q2 q3 q4 q5 q6 q7 q8
 go_enter Tryz.func103,Tryz.ntmps103
 go_wp2_with (at_make;refine wpList_make_irow _ rfl _ _ rfl _ _ _ _ (n1+n2+1) rfl rfl (by omega) (by omega) (by omega) ?_;intro w1 hr1 he1 hz1)
 have hWB:(((w.alloc (.cells #[.bool b1,.slice a1 n1 c1] 45)).alloc (.cells #[.bool b2,.slice a2 n2 c2] 45)).alloc (.cells #[.bool false,.slice none 0 0] 45)).heap.size=w.heap.size+1+1+1:=by simp
 generalize ((w.alloc (.cells #[.bool b1,.slice a1 n1 c1] 45)).alloc (.cells #[.bool b2,.slice a2 n2 c2] 45)).alloc (.cells #[.bool false,.slice none 0 0] 45)=WB at *;rw [hWB] at hr1;have HWB:=Lh hWB;clear hWB;have lB:w.heap.size+1+1<WB.heap.size:=hR.lt
 go_loopw [6] (fun iv wr=>∃ (i:Nat) (L:List Nat),iv=.int .i64 i/\i<=n1/\L.length=n1+n2+1/\ZD L/\IRow wr (w.heap.size+1+1+1) L/\zval L=zval (la.take i)*zval lb/\Ext WB wr) (fun iv _=>n1-(intOf iv).toNat)
 case atStart=>exact ⟨0,List.replicate (n1+n2+1) 0,rfl,Nat.zero_le _,by simp,ZD.replicate _,hr1,by rw [zval_replicate];simp [zval],he1⟩
 case round =>
  clear hr1 he1 hz1;obtain ⟨i,L,rfl,hi,hL,hd,hr,hval,hEr⟩:=hrel;have HL:=Lh hL;have Hd:=Lh hd;have Hr:=Lh hr;have Hval:=Lh hval;have HEr:=Lh hEr;have d0:=zKeep hEr bA.lt x0;have d1:=zKeep hEr bA.lt x1;have d2:=zKeep hEr bB.lt y0;have d3:=zKeep hEr bB.lt y1;clear hL hd hr hval hEr
  by_cases hlt:i<n1
  ·have ii:(i:Int)<(n1:Int):=by omega
   rcases hA with h0 | ⟨b,o,rfl⟩
   ·omega
   obtain ⟨x,hx⟩:∃ x,la.getD i 0=x:=⟨_,rfl⟩
   have hx4:x<10000:=by rw [<-hx];exact P5.out.get i
   have Hx:=Lh hx;clear hx
   go_wp2_with fail
   go_loopw [7,8] (fun cv jv wx=>∃ (j c:Nat) (M:List Nat),jv=.int .i64 j/\cv=.int .i64 c/\c<=9999/\j<=n2+1/\M.length=n1+n2+1/\ZD M/\IRow wx (w.heap.size+1+1+1) M/\zval M+10000 ^ (i+j)*c=zval (la.take i)*zval lb+10000 ^ i*(x*zval (lb.take j))/\Ext WB wx) (fun _ jv _=>n2+1-(intOf jv).toNat)
   case atStart=>exact ⟨0,0,L,rfl,rfl,by omega,by omega,HL.out,Hd.out,Hr.out,by rw [Hval.out];simp [zval],HEr.out⟩
   case round =>
    clear d0 d1 d2 d3 Hr Hval HEr HL Hd;obtain ⟨j,c,M,rfl,rfl,hc9,hjm,hM,hdM,hrM,hinv,hEx⟩:=hrel;have HM:=Lh hM;have HdM:=Lh hdM;have HrM:=Lh hrM;have Hinv:=Lh hinv;have d0:=zKeep hEx bA.lt x0;have d1:=zKeep hEx bA.lt x1;have d2:=zKeep hEx bB.lt y0;have d3:=zKeep hEx bB.lt y1;have HEx:=Lh hEx;clear hM hdM hrM hinv hEx
    by_cases hgo:j<n2\/0<c
    ·have hj2:j<=n2:=by
      by_cases h:j<n2
      ·omega
      ·have h3:0<c:=by omega
       have:=zmul_room (by rw [P1.out];exact hlt) P5.out Q5.out Hx.out h3 Hinv.out (by rw [Q1.out];omega);rw [Q1.out] at this;omega
     have hcM:=HrM.out.cell (i+j) (by rw [HM.out];omega);have hfz:=HrM.out.frozen (i+j);obtain ⟨y,hy⟩:∃ y,M.getD (i+j) 0=y:=⟨_,rfl⟩
     have hy4:y<10000:=by rw [<-hy];exact HdM.out.get _
     rw [hy] at hcM;have Hy:=Lh hy
     have ij:(i:Int)+(j:Int)<(n1:Int)+(n2:Int)+1:=by omega
     clear hy
     by_cases hjn:j<n2
     ·rcases hB with h0 | ⟨b',o',rfl⟩
      ·omega
      have ij2:(j:Int)<(n2:Int):=by omega
      have hcx:=(P4.out.ext (hE.trans HEx.out)).at i (by rw [P1.out];exact hlt);have hcy:=(Q4.out.ext (hE.trans HEx.out)).at j (by rw [Q1.out];exact hjn);rw [Hx.out] at hcx;obtain ⟨d,hdd⟩:∃ d,lb.getD j 0=d:=⟨_,rfl⟩
      have hd4:d<10000:=by rw [<-hdd];exact Q5.out.get j
      rw [hdd] at hcy;have Hb:=Lh (zval_take_in (l:=lb) (k:=j) (by rw [Q1.out];exact hjn));rw [hdd] at Hb;obtain ⟨hca,hpb⟩:=zmul_carry hc9 hy4 hx4 hd4;obtain ⟨p,hp⟩:∃ p,x*d=p:=⟨_,rfl⟩;obtain ⟨dg,hdg⟩:∃ dg,(c+y+x*d) % 10000=dg:=⟨_,rfl⟩;obtain ⟨c',hc'⟩:∃ c',(c+y+x*d) / 10000=c':=⟨_,rfl⟩;have Hstep:=Lh (zmul_step (t:=c+y+x*d) (by rw [HM.out];omega) Hy.out Hb.out rfl hdg hc' Hinv.out);rw [hp] at hdg hc' hca hpb;rw [hc'] at hca
      have ip:(x:Int)*(d:Int)=(p:Int):=by rw [<-hp];exact (Int.natCast_mul x d).symm
      have hdl:dg<10000:=by omega
      have rr:((c:Int)+(y:Int)+(p:Int)).tmod 10000=(dg:Int):=by rw [Int.tmod_eq_emod_of_nonneg (by omega)];omega
      have qq:((c:Int)+(y:Int)+(p:Int)).tdiv 10000=(c':Int):=by rw [Int.tdiv_eq_ediv_of_nonneg (by omega)];omega
      clear hdg hc' hp hdd hgo
      go_wp2_with fail
      go_quiet (fail)
      go_wp2_with fail
      go_roundw
      case rel=>exact ⟨j+1,c',M.set (i+j) dg,by go_num,rfl,hca,by omega,by rw [List.length_set];exact HM.out,HdM.out.set _ _ hdl,(HrM.out.ext (zext_drewN (Ext.refl _) _)).set _ _,Hstep.out,Below.setCell (zext_drewN HEx.out _) (by rw [HWB.out];exact Nat.le_refl _) _⟩
      case measure=>simp [intOf];omega
     ·have ij2:¬ (j:Int)<(n2:Int):=by omega
      have ic:(0:Int)<(c:Int):=by omega
      obtain rfl:j=n2:=by omega
      obtain ⟨dg,hdg⟩:∃ dg,(c+y+x*0) % 10000=dg:=⟨_,rfl⟩;obtain ⟨c',hc'⟩:∃ c',(c+y+x*0) / 10000=c':=⟨_,rfl⟩;have Hstep:=Lh (zmul_step (t:=c+y+x*0) (by rw [HM.out];omega) Hy.out (zval_take_out (l:=lb) (k:=j) (by rw [Q1.out];omega)) rfl hdg hc' Hinv.out);rw [Nat.mul_zero,Nat.add_zero] at hdg hc'
      have hdl:dg<10000:=by omega
      have hca:c'<=9999:=by omega
      have rr:((c:Int)+(y:Int)).tmod 10000=(dg:Int):=by rw [Int.tmod_eq_emod_of_nonneg (by omega)];omega
      have qq:((c:Int)+(y:Int)).tdiv 10000=(c':Int):=by rw [Int.tdiv_eq_ediv_of_nonneg (by omega)];omega
      clear hdg hc' hgo
      go_wp2_with fail
      go_roundw
      case rel=>exact ⟨j+1,c',M.set (i+j) dg,by go_num,rfl,hca,by omega,by rw [List.length_set];exact HM.out,HdM.out.set _ _ hdl,HrM.out.set _ _,Hstep.out,Below.setCell HEx.out (by rw [HWB.out];exact Nat.le_refl _) _⟩
      case measure=>simp [intOf]
    ·obtain rfl:c=0:=by omega
     have ij2:¬ (j:Int)<(n2:Int):=by omega
     have Hrow:=Lh (zmul_row (by rw [P1.out];exact hlt) Hx.out (by rw [Q1.out];omega) Hinv.out);clear hgo
     go_wp2_with fail
     go_roundw
     case rel=>exact ⟨i+1,M,by go_num,by omega,HM.out,HdM.out,HrM.out,Hrow.out,HEx.out⟩
     case measure=>simp [intOf];omega
  ·obtain rfl:i=n1:=by omega
   have ii:¬ (i:Int)<(i:Int):=by omega
   have Hm:=Lh (zmade_any bb (some ⟨w.heap.size+1+1+1,0,none⟩) L (i+n2+1) (i+n2+1) wr HL.out Hr.out.seg Hd.out (Nat.le_refl _) (by unfold maxLen;omega) (by omega) (z1*z2) (HV.out L (by rw [Hval.out,List.take_of_length_le (by rw [P1.out];exact Nat.le_refl _)])) (HCm.out.imp id fun h=>⟨h.grow (hE.trans HEr.out).size,fun x hx=>by cases hx;exact h _ (by show w.heap.size<=w.heap.size+1+1+1;omega)⟩));clear hlt
   go_wp2_with fail
   refine Hm.out.mono ?_;rintro e w9 ⟨b',a',n',c',rfl,hI,hle,hx9⟩;have hR9:=hR.ext (HEr.out.trans hx9);have k0:=hR9.c0;have k1:=hR9.c1;have f0:=hR9.f 0;have f1:=hR9.f 1
   go_wp2_with fail
   exact bodyPost_ret (v:=.agg #[.bool b',.slice a' n' c']) (by simp [results,Tryz.results103,go_sem,k0,k1]) rfl ⟨b',a',n',c',rfl,hI.keepRes hR9.row _ _,by omega,zput2 (hE.trans (HEr.out.trans hx9)) (by omega) _ _⟩
variable {Qc:Nat->Prop}
open Go.RowKit
theorem zof_few {k u v:Nat} (hu:0<u) (h:10000 ^ k*u<=v) (hv:v<=9223372036854775808):k<5:=by
 apply Nat.lt_of_not_le
 intro hk;have h1:(10000:Nat) ^ 5<=10000 ^ k:=Nat.pow_le_pow_right (by decide) hk;have h2:10000 ^ k<=10000 ^ k*u:=Nat.le_mul_of_pos_right _ hu;omega
theorem zof_step {l:List Nat} {k u v d q:Nat} (hl:l.length=k) (h:zval l+10000 ^ k*u=v) (hd:u % 10000=d) (hq:u / 10000=q):zval (l++[d])+10000 ^ (k+1)*q=v:=by
 rw [zval_snoc,hl,Nat.pow_succ,Nat.mul_assoc,Nat.add_assoc,<-Nat.mul_add];rw [<-h]
 congr 2
 omega
theorem ZOf_any (n:Int) (h1 : -9223372036854775808<=n) (h2:n<=9223372036854775807) (w:World) (hL:LimQ Qc w) :
  Calls Tryz.prog 36 #[.int .i64 n] w (ZRet Qc w n 5):=by
 obtain ⟨i0,hi,hz0,hz1,hz2⟩:=info_parts int_info;have HLm:=Lh hL;clear hL;have hE:=ext_alloc w (.cells #[.bool false,.slice none 0 0] 45);have hR:=zres_new w;obtain ⟨v,hv⟩:∃ v,n.natAbs=v:=⟨_,rfl⟩
 have hvb:v<=9223372036854775808:=by omega
 by_cases hneg:n<0
 ·obtain ⟨X,hX⟩:∃ X:Nat,IntKind.u64.wrap n=(X:Int):=⟨(IntKind.u64.wrap n).toNat,by rw [IntKind.wrap_u64];omega⟩
  have hX2:IntKind.u64.wrap (-(X:Int))=(v:Int):=by rw [IntKind.wrap_u64] at hX ⊢;omega
  have Hz:Hid (n=if true=true then -(v:Int) else (v:Int)):=by show _=_;simp;omega
  have Hvb:=Lh hvb;clear hv hvb
  go_enter Tryz.func36,Tryz.ntmps36
  go_wp2_with fail
  generalize w.alloc (.cells #[.bool false,.slice none 0 0] 45)=W0 at *;clear hX hX2
  go_loopw [3,4] (fun uv dv wr=>∃ (k u:Nat) (l:List Nat),uv=.int .u64 u/\l.length=k/\k<=5/\ZD l/\wr.ownsRow W0.heap.size 3 1 dv k (inC l)/\zval l+10000 ^ k*u=v/\Ext W0 wr) (fun uv _ _=>(intOf uv).toNat)
  case atStart=>exact ⟨0,v,[],by go_num,rfl,by omega,ZD.nil,(show W0.ownsRow W0.heap.size 3 1 (.slice none 0 0) 0 (inC []) from World.ownsRow_nil _ _ _ _),by simp [zval],Ext.refl _⟩
  case round =>
   obtain ⟨k,u,l,rfl,hl,hk,hd,hown,hval,hEr⟩:=hrel;have Hl:=Lh hl;have Hd:=Lh hd;have Hval:=Lh hval;have Hown:=Lh hown
   by_cases hu:0<u
   ·have hk5:k<5:=zof_few hu (by omega) Hvb.out
    have iu:(0:Int)<(u:Int):=by omega
    obtain ⟨dg,hdg⟩:∃ dg,u % 10000=dg:=⟨_,rfl⟩;obtain ⟨q,hq⟩:∃ q,u / 10000=q:=⟨_,rfl⟩;have Hst:=Lh (zof_step hl hval hdg hq)
    have hdl:dg<10000:=by omega
    have hqu:q<u:=by omega
    have hub:u<=9223372036854775808:=by
     have h0:=Hvb.out;have h1:1<=10000 ^ k:=Nat.one_le_pow _ _ (by decide);have h2:1*u<=10000 ^ k*u:=Nat.mul_le_mul_right _ h1;omega
    have r1:(u:Int).tmod 10000=(dg:Int):=by rw [Int.tmod_eq_emod_of_nonneg (by omega)];omega
    have r2:(u:Int) % 10000=(dg:Int):=by omega
    have r3:(u:Int).tdiv 10000=(q:Int):=by rw [Int.tdiv_eq_ediv_of_nonneg (by omega)];omega
    have r4:(u:Int) / 10000=(q:Int):=by omega
    clear hdg hq hl hd hown hval
    go_wp2_with (at_builtin;refine wpList_append_own _ rfl _ _ 25 rfl W0.heap.size 3 i0 (.int .i64 0) 1 8 Tryz.underlying25 hi hz0 hz1 hz2 rfl (by decide) _ k (inC l) rfl (Hown.out.alloc _) ⟨wr.heap.size,0,none⟩ 1 1 [.int .i64 (dg:Int)] rfl rfl (new_int wr _ _) (one_int _) (by unfold maxLen;omega) (by omega) (Nat.le_trans hEr.size (ext_alloc wr _).size) ?_;intro v' w' hown' hgrow' _)
    go_roundw
    case rel=>exact ⟨k+1,q,l++[dg],by go_num,by rw [List.length_append,Hl.out];rfl,by omega,Hd.out.snoc hdl,by rw [inC_snoc];exact hown',Hst.out,ext_grown (hEr.trans (ext_alloc wr _)) hgrow' (fun j hj=>(Hown.out.lt j hj).1)⟩
    case measure=>simp [intOf];omega
   ·obtain rfl:u=0:=by omega
    have hzl:zval l=v:=by have:=Hval.out;omega
    obtain ⟨a9,c9,rfl,q1,q2,q3,q4,q5⟩:=iseg_of_own Hown.out;have Hm:=Lh (zmade_any true a9 l k c9 wr q3 q4 Hd.out q1 q2 (by omega) n (by rw [hzl];exact Hz.out) (ClQ.made (HLm.out.grow hE.size) hEr.size q5));clear hl hd hown hval hzl
    go_wp2_with fail
    refine Hm.out.mono ?_;rintro e w9 ⟨b',a',n',c',rfl,hI,hle,hx9⟩;have hR9:=hR.ext (hEr.trans hx9);have k0:=hR9.c0;have k1:=hR9.c1;have f0:=hR9.f 0;have f1:=hR9.f 1
    go_wp2_with fail
    exact bodyPost_ret (v:=.agg #[.bool b',.slice a' n' c']) (by simp [results,Tryz.results36,go_sem,k0,k1]) rfl ⟨b',a',n',c',rfl,hI.keepRes hR9.row _ _,by omega,zput2 (hE.trans (hEr.trans hx9)) (Nat.le_refl _) _ _⟩
 ·have hX:IntKind.u64.wrap n=(v:Int):=by rw [IntKind.wrap_u64];omega
  have hnd:decide (n<0)=false:=by rw [decide_eq_false_iff_not];exact hneg
  have Hz:Hid (n=if false=true then -(v:Int) else (v:Int)):=by show _=_;simp;omega
  have Hvb:=Lh hvb;clear hv hvb
  go_enter Tryz.func36,Tryz.ntmps36
  go_wp2_with fail
  generalize w.alloc (.cells #[.bool false,.slice none 0 0] 45)=W0 at *;clear hX
  go_loopw [3,4] (fun uv dv wr=>∃ (k u:Nat) (l:List Nat),uv=.int .u64 u/\l.length=k/\k<=5/\ZD l/\wr.ownsRow W0.heap.size 3 1 dv k (inC l)/\zval l+10000 ^ k*u=v/\Ext W0 wr) (fun uv _ _=>(intOf uv).toNat)
  case atStart=>exact ⟨0,v,[],by go_num,rfl,by omega,ZD.nil,(show W0.ownsRow W0.heap.size 3 1 (.slice none 0 0) 0 (inC []) from World.ownsRow_nil _ _ _ _),by simp [zval],Ext.refl _⟩
  case round =>
   obtain ⟨k,u,l,rfl,hl,hk,hd,hown,hval,hEr⟩:=hrel;have Hl:=Lh hl;have Hd:=Lh hd;have Hval:=Lh hval;have Hown:=Lh hown
   by_cases hu:0<u
   ·have hk5:k<5:=zof_few hu (by omega) Hvb.out
    have iu:(0:Int)<(u:Int):=by omega
    obtain ⟨dg,hdg⟩:∃ dg,u % 10000=dg:=⟨_,rfl⟩;obtain ⟨q,hq⟩:∃ q,u / 10000=q:=⟨_,rfl⟩;have Hst:=Lh (zof_step hl hval hdg hq)
    have hdl:dg<10000:=by omega
    have hqu:q<u:=by omega
    have hub:u<=9223372036854775808:=by
     have h0:=Hvb.out;have h1:1<=10000 ^ k:=Nat.one_le_pow _ _ (by decide);have h2:1*u<=10000 ^ k*u:=Nat.mul_le_mul_right _ h1;omega
    have r1:(u:Int).tmod 10000=(dg:Int):=by rw [Int.tmod_eq_emod_of_nonneg (by omega)];omega
    have r2:(u:Int) % 10000=(dg:Int):=by omega
    have r3:(u:Int).tdiv 10000=(q:Int):=by rw [Int.tdiv_eq_ediv_of_nonneg (by omega)];omega
    have r4:(u:Int) / 10000=(q:Int):=by omega
    clear hdg hq hl hd hown hval
    go_wp2_with (at_builtin;refine wpList_append_own _ rfl _ _ 25 rfl W0.heap.size 3 i0 (.int .i64 0) 1 8 Tryz.underlying25 hi hz0 hz1 hz2 rfl (by decide) _ k (inC l) rfl (Hown.out.alloc _) ⟨wr.heap.size,0,none⟩ 1 1 [.int .i64 (dg:Int)] rfl rfl (new_int wr _ _) (one_int _) (by unfold maxLen;omega) (by omega) (Nat.le_trans hEr.size (ext_alloc wr _).size) ?_;intro v' w' hown' hgrow' _)
    go_roundw
    case rel=>exact ⟨k+1,q,l++[dg],by go_num,by rw [List.length_append,Hl.out];rfl,by omega,Hd.out.snoc hdl,by rw [inC_snoc];exact hown',Hst.out,ext_grown (hEr.trans (ext_alloc wr _)) hgrow' (fun j hj=>(Hown.out.lt j hj).1)⟩
    case measure=>simp [intOf];omega
   ·obtain rfl:u=0:=by omega
    have hzl:zval l=v:=by have:=Hval.out;omega
    obtain ⟨a9,c9,rfl,q1,q2,q3,q4,q5⟩:=iseg_of_own Hown.out;have Hm:=Lh (zmade_any false a9 l k c9 wr q3 q4 Hd.out q1 q2 (by omega) n (by rw [hzl];exact Hz.out) (ClQ.made (HLm.out.grow hE.size) hEr.size q5));clear hl hd hown hval hzl
    go_wp2_with fail
    refine Hm.out.mono ?_;rintro e w9 ⟨b',a',n',c',rfl,hI,hle,hx9⟩;have hR9:=hR.ext (hEr.trans hx9);have k0:=hR9.c0;have k1:=hR9.c1;have f0:=hR9.f 0;have f1:=hR9.f 1
    go_wp2_with fail
    exact bodyPost_ret (v:=.agg #[.bool b',.slice a' n' c']) (by simp [results,Tryz.results36,go_sem,k0,k1]) rfl ⟨b',a',n',c',rfl,hI.keepRes hR9.row _ _,by omega,zput2 (hE.trans (hEr.trans hx9)) (Nat.le_refl _) _ _⟩
theorem padD_four (x:Nat) (h:x<10000):padD 4 x=[UInt8.ofNat (48+x / 1000),UInt8.ofNat (48+x / 100 % 10),UInt8.ofNat (48+x / 10 % 10),UInt8.ofNat (48+x % 10)]:=by
 have e:x / 1000 % 10=x / 1000:=by omega
 unfold padD Lib.dg
 simp [List.range_succ,e]
theorem dec_step (x v:Nat) (hx:x<10000) (hv:0<v):Lib.decDigits (x+10000*v)=Lib.decDigits v++padD 4 x:=by
 have e1:(x+10000*v) / 10 ^ 4=v:=by omega
 have e2:(x+10000*v) % 10 ^ 4=x:=by omega
 have h:=decDigits_append 4 (x+10000*v) (by rw [e1];exact hv);rw [e1,e2] at h;exact h
theorem dec_first (x:Nat) (hx:x<10000) (h0:0<x):∃ f,f<=3/\(∀ t,t<f->(padD 4 x).getD t 0=48)/\(padD 4 x).getD f 0≠48/\Lib.decDigits x=(padD 4 x).drop f:=by
 have hnd:Lib.nDigits x<=4:=nDigits_le 4 x (by omega) (by omega);have hnp:=Lib.nDigits_pos x;have hp:=padD_fill 4 x hnd
 have hl:(List.replicate (4-Lib.nDigits x) (48:UInt8)).length=4-Lib.nDigits x:=by simp
 refine ⟨4-Lib.nDigits x,by omega,fun t ht=>?_,?_,?_⟩
 ·rw [hp,List.getD_eq_getElem?_getD,List.getElem?_append_left (by rw [hl];exact ht),List.getElem?_replicate,if_pos ht]
  rfl
 ·rw [hp,List.getD_eq_getElem?_getD,List.getElem?_append_right (by rw [hl];exact Nat.le_refl _),hl,Nat.sub_self]
  obtain ⟨d,r,e,_,h2⟩:=decN_head x;intro hc;unfold decN at e
  cases hd:Lib.decDigits x with
  | nil=>rw [hd] at e;simp at e
  | cons y ys =>
   rw [hd] at e hc;simp only [List.map_cons,List.cons.injEq] at e
   simp at hc
   rw [hc] at e;have:=h2 (by rw [<-e.1];rfl);omega
 ·rw [hp,List.drop_append_of_le_length (by rw [hl];exact Nat.le_refl _),List.drop_of_length_le (by rw [hl];exact Nat.le_refl _),List.nil_append]
def ztx (l:List Nat) (k:Nat):List UInt8:=if k=l.length then [] else Lib.decDigits (zval (l.drop k))
theorem ztx_end (l:List Nat):ztx l l.length=[]:=by unfold ztx;rw [if_pos rfl]
theorem zval_drop (l:List Nat) (k:Nat) (h:k<l.length):zval (l.drop k)=l.getD k 0+10000*zval (l.drop (k+1)):=by
 rw [List.drop_eq_getElem_cons h,zval,List.getD_eq_getElem?_getD,List.getElem?_eq_getElem h];rfl
theorem ZN.drop {l:List Nat} (h:ZN l) (k:Nat):ZN (l.drop k):=by
 by_cases hk:k<l.length
 ·right
  have hl:l≠[]:=by intro e;subst e;simp at hk
  have:=h.resolve_left hl;rw [List.length_drop,List.getD_eq_getElem?_getD,List.getElem?_drop,show k+(l.length-k-1)=l.length-1 by omega,<-List.getD_eq_getElem?_getD];exact this
 ·left;exact List.drop_of_length_le (by omega)
theorem ztx_first {l:List Nat} {j x:Nat} (hl:l.length=j+1) (hx:l.getD j 0=x):ztx l j=Lib.decDigits x:=by
 unfold ztx;rw [if_neg (by omega),zval_drop l j (by omega),hx,List.drop_of_length_le (by omega)]
 simp [zval]
theorem ztx_next {l:List Nat} {j x:Nat} (hn:ZN l) (hj:j+1<l.length) (hx:l.getD j 0=x) (hx4:x<10000):ztx l j=ztx l (j+1)++padD 4 x:=by
 have hp:0<zval (l.drop (j+1)):=by
  apply Nat.pos_of_ne_zero
  intro e;have:=(zval_zero (hn.drop (j+1))).1 e;have:=congrArg List.length this;rw [List.length_drop] at this
  simp at this
  omega
 unfold ztx;rw [if_neg (by omega),if_neg (by omega),zval_drop l j (by omega),hx,dec_step x _ hx4 hp]
theorem ztx_all {l:List Nat} (h:l≠[]):ztx l 0=Lib.decDigits (zval l):=by
 unfold ztx;rw [if_neg (by intro e;exact h (List.eq_nil_of_length_eq_zero e.symm)),List.drop_zero]
variable {Qc:Nat->Prop}
open Go.RowKit
theorem zval_odd (l:List Nat) (x:Nat) (hx:l.getD 0 0=x):zval l % 2=x % 2:=by
 cases l with
 | nil=>simp at hx;subst hx;rfl
 | cons y r =>
  simp at hx
  subst hx;rw [zval];omega
theorem IsZ.abs {w:World} {neg:Bool} {ao:Option Addr} {n c:Nat} {z:Int} (h:IsZ Qc w neg ao n c z):∃ l:List Nat,l.length=n/\n<=c/\c<=maxLen/\ISeg w ao l/\ZD l/\ZN l/\z.natAbs=zval l/\z=(if neg then -(zval l:Int) else (zval l:Int))/\(l=[]->neg=false)/\ClQ Qc w ao z:=by
 obtain ⟨l,h1,h2,h3,h4,h5,h6,h7,h8⟩:=h
 exact ⟨l,h1,h2,h3,h4,h5,h6,by rw [h7];cases neg<;>simp,h7,h8⟩
theorem zodd_any (neg:Bool) (ao:Option Addr) (n c:Nat) (z:Int) (w:World) (h:IsZ Qc w neg ao n c z) (bo:Bool) (hbo:decide (z.natAbs % 2=1)=bo) :
  Calls Tryz.prog 107 #[.agg #[.bool neg,.slice ao n c]] w fun e w'=>e=.returned (.bool bo)/\Ext w w':=by
 obtain ⟨l,p1,p2,p3,p4,p5,p6,p7,p8,p9⟩:=h.abs;have hE:=ext_alloc w (.cells #[.bool neg,.slice ao n c] 45)
 by_cases h0:n=0
 ·have hl:l=[]:=List.eq_nil_of_length_eq_zero (by omega)
  have hf:bo=false:=by rw [<-hbo,p7,hl];rfl
  subst h0 hf;clear hbo p8 p7 h
  go_enter Tryz.func107,Tryz.ntmps107
  go_wp2
  go_ret
  exact ⟨rfl,ext_alloc _ _⟩
 ·obtain ⟨b,o,rfl⟩:=p4.some_of (by omega)
  have hcl:=(p4.ext hE).at 0 (by omega);rw [Nat.add_zero] at hcl;obtain ⟨x,hx⟩:∃ x,l.getD 0 0=x:=⟨_,rfl⟩;rw [hx] at hcl
  have hx4:x<10000:=by rw [<-hx];exact p5.get 0
  have hb:bo=decide (x % 2=1):=by rw [<-hbo,p7,zval_odd l x hx]
  have i0:(0:Int)<(n:Int):=by omega
  obtain ⟨r,hr⟩:∃ r,x % 2=r:=⟨_,rfl⟩
  have t1:(x:Int).tmod 2=(r:Int):=by rw [Int.tmod_eq_emod_of_nonneg (by omega)];omega
  have hrb:((r:Int) == 1)=bo:=by
   rw [hb,hr,Bool.eq_iff_iff,beq_iff_eq,decide_eq_true_eq];omega
  clear hbo p8 p7 h hb hr hx p1 p2 p3 p4 p5 p6 p9 h0
  go_enter Tryz.func107,Tryz.ntmps107
  go_wp2
  go_ret
  exact ⟨rfl,hE⟩
theorem drop_set (D:List Nat) (j x:Nat) (h:j<D.length):(D.set j x).drop j=x :: D.drop (j+1):=by
 rw [List.drop_eq_getElem_cons (by rw [List.length_set];exact h),List.getElem_set_self]
 congr 1
 apply List.ext_getElem?
 intro i;rw [List.getElem?_drop,List.getElem?_drop,List.getElem?_set_ne (by omega)]
theorem zhalf_step {D l:List Nat} {j c x c1 d c2:Nat} (hj:j<D.length) (hjl:j<l.length) (hx:l.getD j 0=x) (hc1:c1=c*10000+x) (hd:c1 / 2=d) (hc2:c1 % 2=c2) (h:zval (D.drop (j+1))*2+c=zval (l.drop (j+1))) :
  zval ((D.set j d).drop j)*2+c2=zval (l.drop j):=by
 rw [drop_set D j d hj,zval,zval_drop l j hjl,hx];omega
variable {Qc:Nat->Prop}
open Go.RowKit
theorem ZBx.own {W:World} {g:Nat} {b:Bool} {a:Option Addr} {n c:Nat} (h:ZBx W g b a n c) (b':Bool) (a':Option Addr) (n' c':Nat):ZBx ((W.setCell ⟨g,0,none⟩ (.bool b')).setCell ⟨g,1,none⟩ (.slice a' n' c')) g b' a' n' c':=by
 have h1:=heap_setCell_same W g 0 _ _ (.bool b') h.row;have h2:=heap_setCell_same _ g 1 _ _ (.slice a' n' c') h1;exact ⟨by rw [h2];rfl⟩
theorem ZBx.f {W:World} {g:Nat} {b:Bool} {a:Option Addr} {n c:Nat} (h:ZBx W g b a n c) (o:Nat):W.frozen? ⟨g,o,none⟩=false:=frozen_of_row W g o _ _ h.row
variable {Qc:Nat->Prop}
open Go.RowKit
theorem IsZ.len_of {w:World} {neg:Bool} {ao:Option Addr} {n c m:Nat} {z:Int} (h:IsZ Qc w neg ao n c z) (hz:z.natAbs<10000 ^ m):n<=m:=by
 obtain ⟨l,p1,p2,p3,p4,p5,p6,p7,p8,p9⟩:=h.abs
 by_cases hl:l=[]
 ·rw [<-p1,hl];exact Nat.zero_le _
 ·have h1:=zval_ge p6 hl
  rw [<-p7,p1] at h1
  have h2:10000 ^ (n-1)<10000 ^ m:=by omega
  have h3:=(Nat.pow_lt_pow_iff_right (a:=10000) (by decide)).1 h2;omega
variable {Qc:Nat->Prop}
open Go.RowKit
def ZCs (Qc:Nat->Prop) (w:World) (cs:Array Value) (f:Nat->Int) (e:Int):Prop:=cs.size=17 /\
 (∀ i,i<8->∃ (b:Bool) (a:Option Addr) (n c:Nat),cs[i*2]?=some (.bool b)/\cs[i*2+1]?=some (.slice a n c)/\IsZ Qc w b a n c (f i))/\cs[16]?=some (.int .i64 e)
theorem ZCs.ext {w w':World} {cs:Array Value} {f:Nat->Int} {e:Int} (h:ZCs Qc w cs f e) (k:Ext w w'):ZCs Qc w' cs f e :=
 ⟨h.1,fun i hi=>by obtain ⟨b,a,n,c,q1,q2,q3⟩:=h.2.1 i hi;exact ⟨b,a,n,c,q1,q2,q3.ext k⟩,h.2.2⟩
theorem ZCs.congr {w:World} {cs:Array Value} {f f':Nat->Int} {e:Int} (h:ZCs Qc w cs f e) (k:∀ i,i<8->f i=f' i):ZCs Qc w cs f' e :=
 ⟨h.1,fun i hi=>by obtain ⟨b,a,n,c,q1,q2,q3⟩:=h.2.1 i hi;exact ⟨b,a,n,c,q1,q2,q3.cast (k i hi)⟩,h.2.2⟩
theorem ZCs.one {w:World} {cs:Array Value} {f:Nat->Int} {e:Int} (h:ZCs Qc w cs f e):cs.all (·.oneCell')=true:=by
 have h1:=h.1;rw [Array.all_eq_true];intro j hj
 by_cases e16:j=16
 ·have:=h.2.2
  rw [<-e16,Array.getElem?_eq_getElem hj] at this;rw [Option.some.inj this];rfl
 ·obtain ⟨b,a,n,c,q1,q2,_⟩:=h.2.1 (j / 2) (by omega)
  by_cases e:j % 2=0
  ·rw [show j / 2*2=j by omega,Array.getElem?_eq_getElem hj] at q1;rw [Option.some.inj q1];rfl
  ·rw [show j / 2*2+1=j by omega,Array.getElem?_eq_getElem hj] at q2;rw [Option.some.inj q2];rfl
structure ChZ (g:Nat) (w w':World):Prop where
 os:w'.os=w.os
 tape:w'.tape=w.tape
 output:w'.output=w.output
 size:w.heap.size<=w'.heap.size
 block:∀ k,k≠g->k<w.heap.size->w'.heap[k]?=w.heap[k]?
theorem ChZ.of_only {g:Nat} {w w':World} (h:Only g w w'):ChZ g w w':=⟨h.os,h.tape,h.output,by rw [h.size];exact Nat.le_refl _,fun i hi _=>h.block i hi⟩
theorem ChZ.ext {g:Nat} {a b c:World} (h:Ext a b) (k:ChZ g b c) (hg:a.heap.size<=g):Ext a c :=
 ⟨k.os.trans h.os,k.tape.trans h.tape,k.output.trans h.output,Nat.le_trans h.size k.size,fun i hi=>(k.block i (by omega) (Nat.lt_of_lt_of_le hi h.size)).trans (h.block i hi)⟩
theorem ChZ.row {g:Nat} {w w':World} (c:ChZ g w w') {k:Nat} {o:Obj} (h:w.heap[k]?=some o) (hne:k≠g):w'.heap[k]?=some o:=(c.block k hne (gS.1 h).1).trans h
def NoI (w:World) (g:Nat):Prop:=∃ (cs:Array Value) (t:TypeId) (fr:Nat × Nat),w.heap[g]?=some (.cells cs t fr)/\t≠3
theorem IsZ.chz {w w':World} {b:Bool} {a:Option Addr} {n c:Nat} {z:Int} {g:Nat} (h:IsZ Qc w b a n c z) (k:ChZ g w w') (hg:NoI w g):IsZ Qc w' b a n c z:=by
 obtain ⟨l,h1,h2,h3,h4,h5,h6,h7,h8,h9⟩:=h;refine ⟨l,h1,h2,h3,?_,h5,h6,h7,h8,h9.grow k.size⟩
 rcases h4 with h4 | ⟨bb,o,rfl,hb,hc⟩
 ·exact Or.inl h4
 ·have hne:bb≠g:=by
   rintro rfl;obtain ⟨cs,t,fr,e1,e2⟩:=hg;obtain ⟨cur,fr',e3⟩:=hb;rw [e1] at e3;injection e3 with e3;injection e3 with _ e4 _;exact e2 e4
  have hblk:=k.block bb hne hb.lt;exact Or.inr ⟨bb,o,rfl,hb.block hblk,fun t ht=>(World.cell?_of_block (a:=⟨bb,o+t,none⟩) hblk).trans (hc t ht)⟩
theorem ZCs.chz {w w':World} {cs:Array Value} {f:Nat->Int} {e:Int} {g:Nat} (h:ZCs Qc w cs f e) (k:ChZ g w w') (hg:NoI w g):ZCs Qc w' cs f e :=
 ⟨h.1,fun i hi=>by obtain ⟨b,a,n,c,q1,q2,q3⟩:=h.2.1 i hi;exact ⟨b,a,n,c,q1,q2,q3.chz k hg⟩,h.2.2⟩
def ZVar (Qc:Nat->Prop) (w:World) (g:Nat) (f:Nat->Int) (e:Int):Prop:=∃ cs,w.heap[g]?=some (.cells cs 48 (0,0))/\ZCs Qc w cs f e
theorem ZVar.lt {w:World} {g:Nat} {f:Nat->Int} {e:Int} (h:ZVar Qc w g f e):g<w.heap.size:=by
 obtain ⟨cs,h1,_⟩:=h;exact (gS.1 h1).1
theorem ZVar.no {w:World} {g:Nat} {f:Nat->Int} {e:Int} (h:ZVar Qc w g f e):NoI w g:=by
 obtain ⟨cs,h1,_⟩:=h;exact ⟨cs,_,_,h1,by decide⟩
theorem ZVar.ext {w w':World} {g:Nat} {f:Nat->Int} {e:Int} (h:ZVar Qc w g f e) (k:Ext w w'):ZVar Qc w' g f e:=by
 have hl:=h.lt;obtain ⟨cs,h1,h2⟩:=h;exact ⟨cs,(k.block _ hl).trans h1,h2.ext k⟩
theorem ZVar.congr {w:World} {g:Nat} {f f':Nat->Int} {e:Int} (h:ZVar Qc w g f e) (k:∀ i,i<8->f i=f' i):ZVar Qc w g f' e:=by
 obtain ⟨cs,h1,h2⟩:=h;exact ⟨cs,h1,h2.congr k⟩
theorem ZVar.chz {w w':World} {g k:Nat} {f:Nat->Int} {e:Int} (h:ZVar Qc w k f e) (c:ChZ g w w') (hg:NoI w g) (hne:k≠g):ZVar Qc w' k f e:=by
 obtain ⟨cs,h1,h2⟩:=h;exact ⟨cs,c.row h1 hne,h2.chz c hg⟩
theorem ZVar.get {w:World} {g:Nat} {f:Nat->Int} {e:Int} (h:ZVar Qc w g f e) (i:Nat) (hi:i<8):∃ (b:Bool) (a:Option Addr) (n c:Nat),
  w.cell? ⟨g,i*2,none⟩=some (.bool b)/\w.cell? ⟨g,i*2+1,none⟩=some (.slice a n c)/\w.frozen? ⟨g,i*2,none⟩=false/\w.frozen? ⟨g,i*2+1,none⟩=false/\IsZ Qc w b a n c (f i):=by
 obtain ⟨cs,h1,h2⟩:=h;obtain ⟨b,a,n,c,q1,q2,q3⟩:=h2.2.1 i hi;refine ⟨b,a,n,c,?_,?_,frozen_of_row w g _ _ _ h1,frozen_of_row w g _ _ _ h1,q3⟩
 ·rw [cell_of_row w g _ _ _ (0,0) h1];exact q1
 ·rw [cell_of_row w g _ _ _ (0,0) h1];exact q2
theorem ZVar.gete {w:World} {g:Nat} {f:Nat->Int} {e:Int} (h:ZVar Qc w g f e):w.cell? ⟨g,16,none⟩=some (.int .i64 e)/\w.frozen? ⟨g,16,none⟩=false:=by
 obtain ⟨cs,h1,h2⟩:=h;exact ⟨by rw [cell_of_row w g _ _ _ (0,0) h1];exact h2.2.2,frozen_of_row w g _ _ _ h1⟩
theorem put2_only (w:World) (g i j:Nat) (u v:Value):Only g w ((w.setCell ⟨g,i,none⟩ u).setCell ⟨g,j,none⟩ v):=((Only.refl _ _).setCell _ _).setCell _ _
theorem ZVar.set {w:World} {g:Nat} {f:Nat->Int} {e:Int} (h:ZVar Qc w g f e) (i:Nat) (hi:i<8) {b':Bool} {a':Option Addr} {n' c':Nat} {z:Int} (hI:IsZ Qc w b' a' n' c' z) :
  ZVar Qc ((w.setCell ⟨g,i*2,none⟩ (.bool b')).setCell ⟨g,i*2+1,none⟩ (.slice a' n' c')) g (updN f i z) e/\ChZ g w ((w.setCell ⟨g,i*2,none⟩ (.bool b')).setCell ⟨g,i*2+1,none⟩ (.slice a' n' c')):=by
 have hno:=h.no;have hch:ChZ g w ((w.setCell ⟨g,i*2,none⟩ (.bool b')).setCell ⟨g,i*2+1,none⟩ (.slice a' n' c')):=ChZ.of_only (put2_only w g _ _ _ _);obtain ⟨cs,h1,h2⟩:=h;have hsz:=h2.1;have e1:=heap_setCell_same w g (i*2) _ _ (.bool b') h1;have e2:=heap_setCell_same (w.setCell ⟨g,i*2,none⟩ (.bool b')) g (i*2+1) _ _ (.slice a' n' c') e1;refine ⟨⟨_,e2,by simp [hsz],fun j hj=>?_,?_⟩,hch⟩
 ·by_cases hji:j=i
  ·subst hji
   refine ⟨b',a',n',c',?_,?_,?_⟩
   ·rw [Array.getElem?_setIfInBounds_ne (by omega),Array.getElem?_setIfInBounds_self_of_lt (by omega)]
   ·rw [Array.getElem?_setIfInBounds_self_of_lt (by simp;omega)]
   ·unfold updN;rw [if_pos rfl];exact hI.chz hch hno
  ·obtain ⟨s,a,n,c,q1,q2,q3⟩:=h2.2.1 j hj
   refine ⟨s,a,n,c,?_,?_,?_⟩
   ·rw [Array.getElem?_setIfInBounds_ne (by omega),Array.getElem?_setIfInBounds_ne (by omega)];exact q1
   ·rw [Array.getElem?_setIfInBounds_ne (by omega),Array.getElem?_setIfInBounds_ne (by omega)];exact q2
   ·unfold updN;rw [if_neg hji];exact q3.chz hch hno
 ·rw [Array.getElem?_setIfInBounds_ne (by omega),Array.getElem?_setIfInBounds_ne (by omega)];exact h2.2.2
theorem ZVar.sete {w:World} {g:Nat} {f:Nat->Int} {e:Int} (h:ZVar Qc w g f e) (e':Int):ZVar Qc (w.setCell ⟨g,16,none⟩ (.int .i64 e')) g f e'/\ChZ g w (w.setCell ⟨g,16,none⟩ (.int .i64 e')):=by
 have hno:=h.no;have hch:ChZ g w (w.setCell ⟨g,16,none⟩ (.int .i64 e')):=ChZ.of_only ((Only.refl _ _).setCell _ _);obtain ⟨cs,h1,h2⟩:=h;have hsz:=h2.1;have e1:=heap_setCell_same w g 16 _ _ (.int .i64 e') h1;refine ⟨⟨_,e1,by simp [hsz],fun j hj=>?_,?_⟩,hch⟩
 ·obtain ⟨s,a,n,c,q1,q2,q3⟩:=h2.2.1 j hj
  refine ⟨s,a,n,c,?_,?_,q3.chz hch hno⟩
  ·rw [Array.getElem?_setIfInBounds_ne (by omega)];exact q1
  ·rw [Array.getElem?_setIfInBounds_ne (by omega)];exact q2
 ·rw [Array.getElem?_setIfInBounds_self_of_lt (by omega)]
theorem ZCs.box {w:World} {cs:Array Value} {f:Nat->Int} {e:Int} (h:ZCs Qc w cs f e):ZVar Qc (w.alloc (.cells cs 48)) w.heap.size f e:=⟨cs,heap_alloc_new w _,h.ext (Ext.alloc _ _)⟩
theorem ZCs.setRow {w:World} {g:Nat} {cs:Array Value} {f f0:Nat->Int} {e e0:Int} (h:ZCs Qc w cs f e) (h0:ZVar Qc w g f0 e0):ZVar Qc (w.setRow g cs) g f e/\ChZ g w (w.setRow g cs)/\(w.setRow g cs).heap[g]?=some (.cells cs 48 (0,0))/\ZCs Qc (w.setRow g cs) cs f e:=by
 have hno:=h0.no;have hch:ChZ g w (w.setRow g cs):=ChZ.of_only (setRow_only w g cs);obtain ⟨c0,hr,_⟩:=h0;have hrow:=setRow_heap w g _ cs _ (0,0) hr;exact ⟨⟨cs,hrow,h.chz hch hno⟩,hch,hrow,h.chz hch hno⟩
abbrev zeroR:Array Value:=#[.bool false,.slice none 0 0,.bool false,.slice none 0 0,.bool false,.slice none 0 0,.bool false,.slice none 0 0,.bool false,.slice none 0 0,.bool false,.slice none 0 0,.bool false,.slice none 0 0,.bool false,.slice none 0 0,.int .i64 0]
theorem zcs_zero (w:World):ZCs Qc w zeroR (fun _=>0) 0:=by
 refine ⟨rfl,fun i hi=>⟨false,none,0,0,?_,?_,IsZ.zero w⟩,rfl⟩
 all_goals
  have e:i=0\/i=1\/i=2\/i=3\/i=4\/i=5\/i=6\/i=7:=by omega
  rcases e with rfl | rfl | rfl | rfl | rfl | rfl | rfl | rfl<;>rfl
theorem zR_info:(Tryz.prog.info? 48).map (·.size)=some 17:=by kernel_rfl
theorem IsZ.nil_iff {w:World} {b:Bool} {a:Option Addr} {n c:Nat} {z:Int} (h:IsZ Qc w b a n c z):n=0↔z=0:=by
 obtain ⟨l,h1,_,_,_,_,h6,h7,_⟩:=h
 constructor
 ·intro h0
  have:l=[]:=List.eq_nil_of_length_eq_zero (by omega);subst this
  rw [h7];cases b<;>rfl
 ·intro h0
  by_cases hl:l=[]
  ·rw [<-h1,hl];rfl
  ·have h8:=zval_ge h6 hl
   have h9:0<10000 ^ (l.length-1):=Nat.pow_pos (by decide);rw [h0] at h7
   cases b
   ·simp only [Bool.false_eq_true,if_false] at h7;omega
   ·simp only [if_true] at h7;omega
theorem IsZ.bits {w:World} {b:Bool} {a:Option Addr} {n c:Nat} {z:Int} (h:IsZ Qc w b a n c z) {P:Nat} (hz:z.natAbs<2 ^ P):n<=P :=
 h.len_of (Nat.lt_of_lt_of_le hz (Nat.pow_le_pow_left (by decide) P))
structure RmA (Qc:Nat->Prop) (w:World) (cs:Array Value) (x:Nm) (P E:Nat):Prop where
 anti:Anti x.a
 low:Low x
 abs:∀ k,(x.a k).natAbs<2 ^ P
 down:x.e<=E
 val:ZCs Qc w cs (fun i=>x.a i) (x.e:Int)
theorem RmA.ext {w w':World} {cs:Array Value} {x:Nm} {P E:Nat} (h:RmA Qc w cs x P E) (k:Ext w w'):RmA Qc w' cs x P E:=⟨h.anti,h.low,h.abs,h.down,h.val.ext k⟩
theorem RmA.size {w:World} {cs:Array Value} {x:Nm} {P E:Nat} (h:RmA Qc w cs x P E):cs.size=17:=h.val.1
theorem RmA.info {w:World} {cs:Array Value} {x:Nm} {P E:Nat} (h:RmA Qc w cs x P E):(Tryz.prog.info? 48).map (·.size)=some cs.size:=by rw [h.size];exact zR_info
theorem RmA.le {w:World} {cs:Array Value} {x:Nm} {P E P' E':Nat} (h:RmA Qc w cs x P E) (hP:P<=P') (hE:E<=E'):RmA Qc w cs x P' E' :=
 ⟨h.anti,h.low,fun k=>Nat.lt_of_lt_of_le (h.abs k) (Nat.pow_le_pow_right (by decide) hP),Nat.le_trans h.down hE,h.val⟩
theorem fin_rm {w w1:World} {cr:Array Value} {f:Nat->Int} {e:Int} {g:Nat} {fz:Nat->Int} {ez:Int} (hcr:ZCs Qc w1 cr f e) (hz:ZVar Qc w1 g fz ez) (hE:Ext w w1) (hg:w.heap.size<=g) :
  ∃ c1,w1.heap[g]?=some (.cells c1 48 (0,0))/\c1.size=cr.size/\cr.all (·.oneCell')=true/\(Tryz.prog.info? 48).map (·.size)=some cr.size/\(w1.setRow g cr).heap[g]?=some (.cells cr 48 (0,0))/\ZCs Qc (w1.setRow g cr) cr f e/\Ext w (w1.setRow g cr):=by
 obtain ⟨n1,ch,rr,zz⟩:=hcr.setRow hz;obtain ⟨c1,hr1,hc1⟩:=hz;exact ⟨c1,hr1,by rw [hc1.1,hcr.1],hcr.one,by rw [hcr.1];exact zR_info,rr,zz,ch.ext hE hg⟩
end Go.Proofs.YtfjnlopbmkimiaaGreatDoor
