/-
  The reference's fractions: FOver, fover. The reference: a number of circuits as a fraction, if it is one (RRational).
-/
import Derived.Test.YtiicfpdiehgikaaGreatDoorS23ZW
namespace Go.Proofs.YtiicfpdiehgikaaGreatDoor
set_option maxRecDepth 100000
set_option maxHeartbeats 4000000
open Go.RowKit
structure FZBx (W:World) (g:Nat) (b:Bool) (a:Option Addr) (n c:Nat) (b':Bool) (a':Option Addr) (n' c':Nat):Prop where
 row:W.heap[g]?=some (.cells #[.bool b,.slice a n c,.bool b',.slice a' n' c'] 49 (0,0))
section
variable {W W':World} {g:Nat} {b:Bool} {a:Option Addr} {n c:Nat} {b':Bool} {a':Option Addr} {n' c':Nat}
theorem FZBx.lt (h:FZBx W g b a n c b' a' n' c'):g<W.heap.size:=(Array.getElem?_eq_some_iff.1 h.row).1
theorem FZBx.ext (h:FZBx W g b a n c b' a' n' c') (k:Ext W W'):FZBx W' g b a n c b' a' n' c':=⟨(k.block _ h.lt).trans h.row⟩
theorem FZBx.only {k:Nat} (h:FZBx W g b a n c b' a' n' c') (hO:Only k W W') (hne:g≠k):FZBx W' g b a n c b' a' n' c':=⟨(hO.block _ hne).trans h.row⟩
theorem FZBx.c0 (h:FZBx W g b a n c b' a' n' c'):W.cell? ⟨g,0,none⟩=some (.bool b):=by rw [cell_of_row W g 0 _ _ (0,0) h.row];rfl
theorem FZBx.c1 (h:FZBx W g b a n c b' a' n' c'):W.cell? ⟨g,1,none⟩=some (.slice a n c):=by rw [cell_of_row W g 1 _ _ (0,0) h.row];rfl
theorem FZBx.c2 (h:FZBx W g b a n c b' a' n' c'):W.cell? ⟨g,2,none⟩=some (.bool b'):=by rw [cell_of_row W g 2 _ _ (0,0) h.row];rfl
theorem FZBx.c3 (h:FZBx W g b a n c b' a' n' c'):W.cell? ⟨g,3,none⟩=some (.slice a' n' c'):=by rw [cell_of_row W g 3 _ _ (0,0) h.row];rfl
theorem FZBx.f (h:FZBx W g b a n c b' a' n' c') (o:Nat):W.frozen? ⟨g,o,none⟩=false:=frozen_of_row W g o _ _ h.row
end
theorem fzbx_new (w:World) (b:Bool) (a:Option Addr) (n c:Nat) (b':Bool) (a':Option Addr) (n' c':Nat):FZBx (w.alloc (.cells #[.bool b,.slice a n c,.bool b',.slice a' n' c'] 49)) w.heap.size b a n c b' a' n' c':=⟨heap_alloc_new w _⟩
theorem ZBx.only {W W':World} {g k:Nat} {b:Bool} {a:Option Addr} {n c:Nat} (h:ZBx W g b a n c) (hO:Only k W W') (hne:g≠k):ZBx W' g b a n c:=⟨(hO.block _ hne).trans h.row⟩
theorem FRes.only {W W':World} {g k:Nat} (h:FRes W g) (hO:Only k W W') (hne:g≠k) (hs:W.heap.size≤W'.heap.size):FRes W' g:=⟨Nat.lt_of_lt_of_le h.lt hs,(hO.block _ hne).trans h.row⟩
theorem IsZ.put4 {W:World} {g:Nat} {b:Bool} {a:Option Addr} {n c:Nat} {b':Bool} {a':Option Addr} {n' c':Nat} {neg:Bool} {ao:Option Addr} {m d:Nat} {z:Int} (h:IsZ W neg ao m d z) (hb:FZBx W g b a n c b' a' n' c') (u0 u1 u2 u3:Value) :
  IsZ ((((W.setCell ⟨g,0,none⟩ u0).setCell ⟨g,1,none⟩ u1).setCell ⟨g,2,none⟩ u2).setCell ⟨g,3,none⟩ u3) neg ao m d z :=
 h.box hb.row (by decide) (((((Only.refl _ _).setCell _ _).setCell _ _).setCell _ _).setCell _ _)
theorem IsZ.put6 {W:World} {g k:Nat} {b:Bool} {a:Option Addr} {n c:Nat} {b':Bool} {a':Option Addr} {n' c':Nat} {neg:Bool} {ao:Option Addr} {m d:Nat} {z:Int} (h:IsZ W neg ao m d z) (hb:FZBx W g b a n c b' a' n' c') (hf:FRes W k) (hne:k≠g) (u0 u1 u2 u3 v0 v1:Value) :
  IsZ ((((((W.setCell ⟨g,0,none⟩ u0).setCell ⟨g,1,none⟩ u1).setCell ⟨g,2,none⟩ u2).setCell ⟨g,3,none⟩ u3).setCell ⟨k,0,none⟩ v0).setCell ⟨k,1,none⟩ v1) neg ao m d z:=by
 have hO:Only g W ((((W.setCell ⟨g,0,none⟩ u0).setCell ⟨g,1,none⟩ u1).setCell ⟨g,2,none⟩ u2).setCell ⟨g,3,none⟩ u3):=((((Only.refl _ _).setCell _ _).setCell _ _).setCell _ _).setCell _ _
 exact (h.put4 hb u0 u1 u2 u3).box ((hO.block _ hne).trans hf.row) (by decide) (((Only.refl _ _).setCell _ _).setCell _ _)
def FRet (w:World) (P Q:Int) (N:Nat) (e:Ending) (w':World):Prop :=
 ∃ (b:Bool) (a:Option Addr) (n c:Nat) (b':Bool) (a':Option Addr) (n' c':Nat),e=.returned (.agg #[.bool b,.slice a n c,.bool b',.slice a' n' c'])∧IsZ w' b a n c P∧IsZ w' b' a' n' c' Q∧n≤N∧n'≤N∧Ext w w'
def FRetF (w:World) (P Q C:Int) (N:Nat) (e:Ending) (w':World):Prop :=
 ∃ (b:Bool) (a:Option Addr) (n c:Nat) (b':Bool) (a':Option Addr) (n' c':Nat),e=.returned (.tuple #[.agg #[.bool b,.slice a n c,.bool b',.slice a' n' c'],.agg #[.int .i64 C,.int .i64 0]])∧IsZ w' b a n c P∧IsZ w' b' a' n' c' Q∧n≤N∧n'≤N∧Ext w w'
theorem ZNeg_from {w:World} {b:Bool} {a:Option Addr} {n c:Nat} {z:Int} (h:IsZ w b a n c z) (hn:n≤1000000):∀ wx:World,Ext w wx→Calls Tryz.prog 75 #[.agg #[.bool b,.slice a n c]] wx fun e w' =>
  ∃ (b':Bool) (a':Option Addr) (n' c':Nat),e=.returned (.agg #[.bool b',.slice a' n' c'])∧IsZ w' b' a' n' c' (-z)∧n'≤n∧Ext w w'∧Ext wx w' :=
 fun wx hx=>(ZNeg_any b a n c z wx (h.ext hx) hn).mono fun _ _ ⟨b',a',n',c',h1,h2,h3,h4⟩=>⟨b',a',n',c',h1,h2,h3,hx.trans h4,h4⟩
theorem IsZ.neg_iff {w:World} {b:Bool} {a:Option Addr} {n c:Nat} {z:Int} (h:IsZ w b a n c z) (hz:z≠0):b=decide (z<0):=by
 obtain ⟨l,_,_,_,_,_,_,e,_⟩:=h
 cases b
 ·have e':z=(zval l:Int):=e
  exact (decide_eq_false (by omega)).symm
 ·have e':z=-(zval l:Int):=e
  exact (decide_eq_true (by omega)).symm
theorem nf_neg {z1 z2 g:Int} (hz:z2<0) (hg:((Nat.gcd z1.natAbs z2.natAbs:Nat):Int)=g):nfp z1 z2=-(z1 / g)∧nfq z1 z2=-(z2 / g):=by
 subst hg
 unfold nfp nfq nfk
 rw [if_neg (show ¬ z2=0 by omega),if_neg (show ¬ z2=0 by omega),if_pos hz,Int.ediv_neg,Int.ediv_neg]
 exact ⟨rfl,rfl⟩
theorem nf_pos {z1 z2 g:Int} (hz:0<z2) (hg:((Nat.gcd z1.natAbs z2.natAbs:Nat):Int)=g):nfp z1 z2=z1 / g∧nfq z1 z2=z2 / g:=by
 subst hg
 unfold nfp nfq nfk
 rw [if_neg (show ¬ z2=0 by omega),if_neg (show ¬ z2=0 by omega),if_neg (show ¬ z2<0 by omega)]
 exact ⟨rfl,rfl⟩
theorem ediv_of {z q r g:Int} (hg:0<g) (h:z=q*g+r) (h0:0≤r) (h1:r<g.natAbs):q=z / g :=
 (((Int.ediv_emod_unique hg).2 ⟨by rw [h,Int.mul_comm];omega,h0,by omega⟩).1).symm
theorem FOver_any (b1 b2:Bool) (a1 a2:Option Addr) (n1 c1 n2 c2:Nat) (z1 z2:Int) (w:World) (h1:IsZ w b1 a1 n1 c1 z1) (h2:IsZ w b2 a2 n2 c2 z2) (hn1:n1≤100000) (hn2:n2≤100000) :
  Calls Tryz.prog 98 #[.agg #[.bool b1,.slice a1 n1 c1],.agg #[.bool b2,.slice a2 n2 c2]] w (FRetF w (nfp z1 z2) (nfq z1 z2) (ovc z2) 100006):=by
 have hE:Ext w ((((w.alloc (.cells #[.bool b1,.slice a1 n1 c1] 35)).alloc (.cells #[.bool b2,.slice a2 n2 c2] 35)).alloc (.cells #[.bool false,.slice none 0 0,.bool false,.slice none 0 0] 49)).alloc (.cells #[.int .i64 0,.int .i64 0] 30)):=(((ext_alloc w (.cells #[.bool b1,.slice a1 n1 c1] 35)).trans (ext_alloc _ (.cells #[.bool b2,.slice a2 n2 c2] 35))).trans (ext_alloc _ (.cells #[.bool false,.slice none 0 0,.bool false,.slice none 0 0] 49))).trans (ext_alloc _ (.cells #[.int .i64 0,.int .i64 0] 30))
 have bA:=(((zbx_new w b1 a1 n1 c1).ext (ext_alloc _ (.cells #[.bool b2,.slice a2 n2 c2] 35))).ext (ext_alloc _ (.cells #[.bool false,.slice none 0 0,.bool false,.slice none 0 0] 49))).ext (ext_alloc _ (.cells #[.int .i64 0,.int .i64 0] 30))
 have bB:=zbx_new (w.alloc (.cells #[.bool b1,.slice a1 n1 c1] 35)) b2 a2 n2 c2
 rw [show (w.alloc (.cells #[.bool b1,.slice a1 n1 c1] 35)).heap.size=w.heap.size+1 from by simp] at bB
 have bB:=(bB.ext (ext_alloc _ (.cells #[.bool false,.slice none 0 0,.bool false,.slice none 0 0] 49))).ext (ext_alloc _ (.cells #[.int .i64 0,.int .i64 0] 30))
 have bR:=fzbx_new ((w.alloc (.cells #[.bool b1,.slice a1 n1 c1] 35)).alloc (.cells #[.bool b2,.slice a2 n2 c2] 35)) false none 0 0 false none 0 0
 rw [show ((w.alloc (.cells #[.bool b1,.slice a1 n1 c1] 35)).alloc (.cells #[.bool b2,.slice a2 n2 c2] 35)).heap.size=w.heap.size+1+1 from by simp] at bR
 have bR:=bR.ext (ext_alloc _ (.cells #[.int .i64 0,.int .i64 0] 30))
 have bF:FRes ((((w.alloc (.cells #[.bool b1,.slice a1 n1 c1] 35)).alloc (.cells #[.bool b2,.slice a2 n2 c2] 35)).alloc (.cells #[.bool false,.slice none 0 0,.bool false,.slice none 0 0] 49)).alloc (.cells #[.int .i64 0,.int .i64 0] 30)) (w.heap.size+1+1+1):=by
  have:=heap_alloc_new (((w.alloc (.cells #[.bool b1,.slice a1 n1 c1] 35)).alloc (.cells #[.bool b2,.slice a2 n2 c2] 35)).alloc (.cells #[.bool false,.slice none 0 0,.bool false,.slice none 0 0] 49)) (.cells #[.int .i64 0,.int .i64 0] 30)
  exact ⟨by simp,by simpa using this⟩
 have I1:=h1.ext hE;have I2:=h2.ext hE
 have hzi:=h2.zero_iff.1
 have HE:=Lib.hid hE
 clear h1 h2 hE
 by_cases hz:z2=0
 ·have hn0:n2=0:=hzi.2 (by rw [hz];rfl)
  subst hn0;subst hz
  rw [(nf_zero z1).1,(nf_zero z1).2,show ovc 0=4 from by unfold ovc;rw [if_pos rfl]]
  clear hzi I1 I2 bA bB
  go_enter Tryz.func98,Tryz.ntmps98
  go_wp2_with fail
  generalize (((w.alloc (.cells #[.bool b1,.slice a1 n1 c1] 35)).alloc (.cells #[.bool b2,.slice a2 0 c2] 35)).alloc (.cells #[.bool false,.slice none 0 0,.bool false,.slice none 0 0] 49)).alloc (.cells #[.int .i64 0,.int .i64 0] 30)=W0 at *
  refine (ZOf_any 1 (by decide) (by decide) W0).mono ?_
  rintro e v ⟨b,a,n,c,rfl,I,hn,hx⟩
  have R1:=bR.ext hx;have F1:=bF.ext hx
  have k0:=R1.c0;have k1:=R1.c1;have k2:=R1.c2;have k3:=R1.c3;have f0:=R1.f 0;have f1:=R1.f 1;have f2:=R1.f 2;have f3:=R1.f 3
  have k4:=F1.c0;have k5:=F1.c1;have f4:=F1.f0;have f5:=F1.f1
  go_wp2_with fail
  exact bodyPost_ret (v:=.tuple #[.agg #[.bool false,.slice none 0 0,.bool b,.slice a n c],.agg #[.int .i64 4,.int .i64 0]]) (by simp [results,Tryz.results98,go_sem,k0,k1,k2,k3,k4,k5]) rfl ⟨false,none,0,0,b,a,n,c,rfl,IsZ.zero _,I.put6 R1 F1 (by omega) _ _ _ _ _ _,by omega,by omega,(((HE.out.trans hx).put2 (by omega) _ _).put2 (by omega) _ _).put2 (by omega) _ _⟩
 ·have hn0:¬ n2=0:=fun e=>hz (Int.natAbs_eq_zero.1 (hzi.1 e))
  rw [show ovc z2=0 from by unfold ovc;rw [if_neg hz]]
  obtain ⟨g,hg⟩:∃ g:Int,((Nat.gcd z1.natAbs z2.natAbs:Nat):Int)=g:=⟨_,rfl⟩
  have hgp:0<g:=by rw [←hg];have:=Nat.gcd_pos_of_pos_right (m:=z1.natAbs) (n:=z2.natAbs) (by omega);omega
  have Hg:=Lib.hid hg;have Hz:=Lib.hid hz
  have HG:=Lib.hid (fun wx (i1:IsZ wx b1 a1 n1 c1 z1) (i2:IsZ wx b2 a2 n2 c2 z2)=>ZGcd_any b1 b2 a1 a2 n1 c1 n2 c2 z1 z2 wx i1 i2 (by omega) (by omega))
  clear hzi hz hg
  have H1:=Lib.hid I1;have H2:=Lib.hid I2
  clear I1 I2
  go_enter Tryz.func98,Tryz.ntmps98
  go_wp2_with fail
  generalize (((w.alloc (.cells #[.bool b1,.slice a1 n1 c1] 35)).alloc (.cells #[.bool b2,.slice a2 n2 c2] 35)).alloc (.cells #[.bool false,.slice none 0 0,.bool false,.slice none 0 0] 49)).alloc (.cells #[.int .i64 0,.int .i64 0] 30)=W0 at *
  refine (HG.out W0 H1.out H2.out).mono ?_
  rintro e u1 ⟨bg,ag,ng,cg,rfl,Ig,lg,hx1⟩
  have hq1:=hx1.trans (ext_alloc u1 (.cells #[.bool bg,.slice ag ng cg] 35))
  have bG:=zbx_new u1 bg ag ng cg
  have HIg:=Lib.hid ((Ig.cast Hg.out).ext (ext_alloc u1 (.cells #[.bool bg,.slice ag ng cg] 35)))
  have lG:w.heap.size+1+1+1<u1.heap.size:=Nat.lt_of_lt_of_le bF.lt hx1.size
  have bA:=bA.ext hq1;have bB:=bB.ext hq1;have bR:=bR.ext hq1;have bF:=bF.ext hq1
  have H1:=Lib.hid (H1.out.ext hq1);have H2:=Lib.hid (H2.out.ext hq1);have HE:=Lib.hid (HE.out.trans hq1)
  clear Ig hq1 hx1 HG
  have d0:=bA.c0;have d1:=bA.c1;have d2:=bG.c0;have d3:=bG.c1
  go_wp2_with fail
  generalize u1.alloc (.cells #[.bool bg,.slice ag ng cg] 35)=W1 at *
  generalize u1.heap.size=G at *
  refine (ZDiv_any b1 bg a1 ag n1 c1 ng cg z1 g W1 H1.out HIg.out (by omega) (by omega) (by omega)).mono ?_
  rintro e u2 ⟨b3,a3,n3,c3,b4,a4,n4,c4,q,r,rfl,Iq,Ir,heq,hr0,hrlt,l3,l4,hx2⟩
  have HQ:=Lib.hid (ediv_of hgp heq hr0 hrlt)
  clear d0 d1 d2 d3 heq hr0 hrlt Ir l4
  have bA:=bA.ext hx2;have bB:=bB.ext hx2;have bR:=bR.ext hx2;have bF:=bF.ext hx2;have bG:=bG.ext hx2
  have hO:Only w.heap.size u2 ((u2.setCell ⟨w.heap.size,0,none⟩ (.bool b3)).setCell ⟨w.heap.size,1,none⟩ (.slice a3 n3 c3)):=((Only.refl _ _).setCell _ _).setCell _ _
  have hSz:u2.heap.size≤((u2.setCell ⟨w.heap.size,0,none⟩ (.bool b3)).setCell ⟨w.heap.size,1,none⟩ (.slice a3 n3 c3)).heap.size:=by simp [World.setCell]
  have A2:=Lib.hid (bA.own b3 a3 n3 c3)
  have B2:=bB.only hO (by omega);have R2:=Lib.hid (bR.only hO (by omega));have F2:=Lib.hid (bF.only hO (by omega) hSz);have G2:=bG.only hO (by omega)
  have HIq:=Lib.hid (Iq.keepRes bA.row (.bool b3) (.slice a3 n3 c3));have HIg:=Lib.hid ((HIg.out.ext hx2).keepRes bA.row (.bool b3) (.slice a3 n3 c3));have H2:=Lib.hid ((H2.out.ext hx2).keepRes bA.row (.bool b3) (.slice a3 n3 c3))
  have HE:=Lib.hid (zput2 (HE.out.trans hx2) (Nat.le_refl _) (.bool b3) (.slice a3 n3 c3))
  have e0:=bA.c0;have e1:=bA.c1;have f0:=bA.f 0;have f1:=bA.f 1
  have d0:=B2.c0;have d1:=B2.c1;have d2:=G2.c0;have d3:=G2.c1
  have HB2:=Lib.hid B2
  clear hO hSz Iq bA bB bR bF bG H1 hx2 B2 G2
  go_wp2_with fail
  generalize (u2.setCell ⟨w.heap.size,0,none⟩ (.bool b3)).setCell ⟨w.heap.size,1,none⟩ (.slice a3 n3 c3)=W2 at *
  clear e0 e1 f0 f1
  refine (ZDiv_any b2 bg a2 ag n2 c2 ng cg z2 g W2 H2.out HIg.out (by omega) (by omega) (by omega)).mono ?_
  rintro e u3 ⟨b5,a5,n5,c5,b6,a6,n6,c6,q',r',rfl,Iq',Ir',heq,hr0,hrlt,l5,l6,hx3⟩
  have HQ':=Lib.hid (ediv_of hgp heq hr0 hrlt)
  clear d0 d1 d2 d3 heq hr0 hrlt Ir' l6 HIg H2
  have bA:=A2.out.ext hx3;have bB:=HB2.out.ext hx3;have bR:=R2.out.ext hx3;have bF:=F2.out.ext hx3
  have hO:Only (w.heap.size+1) u3 ((u3.setCell ⟨w.heap.size+1,0,none⟩ (.bool b5)).setCell ⟨w.heap.size+1,1,none⟩ (.slice a5 n5 c5)):=((Only.refl _ _).setCell _ _).setCell _ _
  have hSz:u3.heap.size≤((u3.setCell ⟨w.heap.size+1,0,none⟩ (.bool b5)).setCell ⟨w.heap.size+1,1,none⟩ (.slice a5 n5 c5)).heap.size:=by simp [World.setCell]
  have A3:=bA.only hO (by omega);have B3:=bB.own b5 a5 n5 c5;have R3:=Lib.hid (bR.only hO (by omega));have F3:=Lib.hid (bF.only hO (by omega) hSz)
  have HIq:=Lib.hid ((HIq.out.ext hx3).keepRes bB.row (.bool b5) (.slice a5 n5 c5));have HIq':=Lib.hid (Iq'.keepRes bB.row (.bool b5) (.slice a5 n5 c5))
  have HE:=Lib.hid (zput2 (HE.out.trans hx3) (Nat.le_succ _) (.bool b5) (.slice a5 n5 c5))
  have e0:=bB.c0;have e1:=bB.c1;have f0:=bB.f 0;have f1:=bB.f 1
  have d0:=A3.c0;have d1:=A3.c1;have d2:=B3.c0;have d3:=B3.c1
  have HA3:=Lib.hid A3;have HB3:=Lib.hid B3
  clear hO hSz Iq' bA bB bR bF hx3 A3 B3 A2 HB2 R2 F2
  have hq0:q'≠0:=by
   intro h0
   have h1:=HQ'.out
   obtain ⟨k,hk⟩:g ∣ z2:=by rw [←Hg.out];exact Int.ofNat_dvd_left.2 (Nat.gcd_dvd_right _ _)
   rw [h0,hk,Int.mul_comm,Int.mul_ediv_cancel _ (by omega)] at h1
   exact Hz.out (by rw [hk,←h1,Int.mul_zero])
  have hb5:b5=decide (q'<0):=HIq'.out.neg_iff hq0
  by_cases hneg:z2<0
  ·have hqn:q'<0:=by
    have:=HQ'.out
    have h2:=Int.ediv_neg_of_neg_of_pos hneg hgp
    omega
   obtain rfl:b5=true:=by rw [hb5];exact decide_eq_true hqn
   obtain ⟨g1,g2⟩:=nf_neg hneg Hg.out
   have HN1:Hid (-q=nfp z1 z2):=by show _=_;rw [g1,HQ.out]
   have HN2:Hid (-q'=nfq z1 z2):=by show _=_;rw [g2,HQ'.out]
   clear hb5 hq0 hqn hneg g1 g2 HQ HQ' Hg Hz
   go_wp2_with fail
   generalize (u3.setCell ⟨w.heap.size+1,0,none⟩ (.bool true)).setCell ⟨w.heap.size+1,1,none⟩ (.slice a5 n5 c5)=W3 at *
   clear e0 e1 f0 f1
   have Hm1:=Lib.hid (ZNeg_from HIq.out (by omega));have Hm2:=Lib.hid (ZNeg_from HIq'.out (by omega))
   have h3d:Ext W3 W3.drew:=Below.drew (Ext.refl _)
   have lA:=HA3.out.lt;have lB:=HB3.out.lt
   go_region_with (first | (go_at_call_of 75 a3;refine (Hm1.out _ (by assumption)).mono ?_;rintro e v1 ⟨b7,a7,n7,c7,rfl,I7,l7,he7,hx7⟩;have y2:=zKeep he7 lB d2;have y3:=zKeep he7 lB d3) | (go_at_call_of 75 a5;refine (Hm2.out _ (by assumption)).mono ?_;rintro e v2 ⟨b8,a8,n8,c8,rfl,I8,l8,he8,hx8⟩;have bA8:=HA3.out.ext he8;have bB8:=HB3.out.ext he8;have k0:=bA8.c0;have k1:=bA8.c1;have g0:=bA8.f 0;have g1:=bA8.f 1;have k2:=bB8.c0;have k3:=bB8.c1;have g2:=bB8.f 0;have g3:=bB8.f 1))
   all_goals
    have hO1:Only w.heap.size v2 ((v2.setCell ⟨w.heap.size,0,none⟩ (.bool b7)).setCell ⟨w.heap.size,1,none⟩ (.slice a7 n7 c7)):=((Only.refl _ _).setCell _ _).setCell _ _
    have hS1:v2.heap.size≤((v2.setCell ⟨w.heap.size,0,none⟩ (.bool b7)).setCell ⟨w.heap.size,1,none⟩ (.slice a7 n7 c7)).heap.size:=by simp [World.setCell]
    have A9:=bA8.own b7 a7 n7 c7;have B9:=bB8.only hO1 (by omega);have R9:=(R3.out.ext he8).only hO1 (by omega);have F9:=(F3.out.ext he8).only hO1 (by omega) hS1
    have J7:=(I7.ext hx8).keepRes bA8.row (.bool b7) (.slice a7 n7 c7);have J8:=I8.keepRes bA8.row (.bool b7) (.slice a7 n7 c7)
    have E9:=zput2 (HE.out.trans he8) (Nat.le_refl _) (.bool b7) (.slice a7 n7 c7)
    generalize hW:(v2.setCell ⟨w.heap.size,0,none⟩ (.bool b7)).setCell ⟨w.heap.size,1,none⟩ (.slice a7 n7 c7)=V at *
    have hO2:Only (w.heap.size+1) V ((V.setCell ⟨w.heap.size+1,0,none⟩ (.bool b8)).setCell ⟨w.heap.size+1,1,none⟩ (.slice a8 n8 c8)):=((Only.refl _ _).setCell _ _).setCell _ _
    have hS2:V.heap.size≤((V.setCell ⟨w.heap.size+1,0,none⟩ (.bool b8)).setCell ⟨w.heap.size+1,1,none⟩ (.slice a8 n8 c8)).heap.size:=by simp [World.setCell]
    have A10:=A9.only hO2 (by omega);have B10:=B9.own b8 a8 n8 c8;have R10:=R9.only hO2 (by omega);have F10:=F9.only hO2 (by omega) hS2
    have J7:=J7.keepRes B9.row (.bool b8) (.slice a8 n8 c8);have J8:=J8.keepRes B9.row (.bool b8) (.slice a8 n8 c8)
    have E10:=zput2 E9 (Nat.le_succ _) (.bool b8) (.slice a8 n8 c8)
    generalize (V.setCell ⟨w.heap.size+1,0,none⟩ (.bool b8)).setCell ⟨w.heap.size+1,1,none⟩ (.slice a8 n8 c8)=X at *
    clear hW hO1 hS1 hO2 hS2 A9 B9 R9 F9 E9 bA8 bB8 k0 k1 k2 k3 g0 g1 g2 g3 I7 I8 he7 he8 hx7 hx8
    have d0:=A10.c0;have d1:=A10.c1;have d2:=B10.c0;have d3:=B10.c1
    have k0:=R10.c0;have k1:=R10.c1;have k2:=R10.c2;have k3:=R10.c3;have f0:=R10.f 0;have f1:=R10.f 1;have f2:=R10.f 2;have f3:=R10.f 3
    have k4:=F10.c0;have k5:=F10.c1;have f4:=F10.f0;have f5:=F10.f1
    go_wp2_with fail
    exact bodyPost_ret (v:=.tuple #[.agg #[.bool b7,.slice a7 n7 c7,.bool b8,.slice a8 n8 c8],.agg #[.int .i64 0,.int .i64 0]]) (by simp [results,Tryz.results98,go_sem,k0,k1,k2,k3,k4,k5]) rfl ⟨b7,a7,n7,c7,b8,a8,n8,c8,rfl,(J7.put6 R10 F10 (by omega) _ _ _ _ _ _).cast HN1.out,(J8.put6 R10 F10 (by omega) _ _ _ _ _ _).cast HN2.out,by omega,by omega,((E10.put2 (by omega) _ _).put2 (by omega) _ _).put2 (by omega) _ _⟩
  ·have hzp:0<z2:=by have:=Hz.out;omega
   have hqn:¬ q'<0:=by
    have:=HQ'.out
    have h2:=Int.ediv_nonneg (a:=z2) (b:=g) (by omega) (by omega)
    omega
   obtain rfl:b5=false:=by rw [hb5];exact decide_eq_false hqn
   obtain ⟨g1,g2⟩:=nf_pos hzp Hg.out
   have HN1:Hid (q=nfp z1 z2):=by show _=_;rw [g1,HQ.out]
   have HN2:Hid (q'=nfq z1 z2):=by show _=_;rw [g2,HQ'.out]
   clear hb5 hq0 hqn hneg g1 g2 HQ HQ' Hg Hz
   have R3':=R3.out;have F3':=F3.out
   have k0:=R3'.c0;have k1:=R3'.c1;have k2:=R3'.c2;have k3:=R3'.c3;have h0:=R3'.f 0;have h1:=R3'.f 1;have h2:=R3'.f 2;have h3:=R3'.f 3
   have k4:=F3'.c0;have k5:=F3'.c1;have h4:=F3'.f0;have h5:=F3'.f1
   clear R3' F3'
   go_wp2_with fail
   generalize (u3.setCell ⟨w.heap.size+1,0,none⟩ (.bool false)).setCell ⟨w.heap.size+1,1,none⟩ (.slice a5 n5 c5)=W3 at *
   exact bodyPost_ret (v:=.tuple #[.agg #[.bool b3,.slice a3 n3 c3,.bool false,.slice a5 n5 c5],.agg #[.int .i64 0,.int .i64 0]]) (by simp [results,Tryz.results98,go_sem,k0,k1,k2,k3,k4,k5]) rfl ⟨b3,a3,n3,c3,false,a5,n5,c5,rfl,(HIq.out.put6 R3.out F3.out (by omega) _ _ _ _ _ _).cast HN1.out,(HIq'.out.put6 R3.out F3.out (by omega) _ _ _ _ _ _).cast HN2.out,by omega,by omega,((HE.out.put2 (by omega) _ _).put2 (by omega) _ _).put2 (by omega) _ _⟩
theorem fover_any (b1 b2:Bool) (a1 a2:Option Addr) (n1 c1 n2 c2:Nat) (z1 z2:Int) (w:World) (h1:IsZ w b1 a1 n1 c1 z1) (h2:IsZ w b2 a2 n2 c2 z2) (hn1:n1≤100000) (hn2:n2≤100000) :
  Calls Tryz.prog 67 #[.agg #[.bool b1,.slice a1 n1 c1],.agg #[.bool b2,.slice a2 n2 c2]] w (FRet w (nfp z1 z2) (nfq z1 z2) 100006):=by
 have hE:Ext w (((w.alloc (.cells #[.bool b1,.slice a1 n1 c1] 35)).alloc (.cells #[.bool b2,.slice a2 n2 c2] 35)).alloc (.cells #[.bool false,.slice none 0 0,.bool false,.slice none 0 0] 49)):=((ext_alloc w (.cells #[.bool b1,.slice a1 n1 c1] 35)).trans (ext_alloc _ (.cells #[.bool b2,.slice a2 n2 c2] 35))).trans (ext_alloc _ (.cells #[.bool false,.slice none 0 0,.bool false,.slice none 0 0] 49))
 have bR:=fzbx_new ((w.alloc (.cells #[.bool b1,.slice a1 n1 c1] 35)).alloc (.cells #[.bool b2,.slice a2 n2 c2] 35)) false none 0 0 false none 0 0
 rw [show ((w.alloc (.cells #[.bool b1,.slice a1 n1 c1] 35)).alloc (.cells #[.bool b2,.slice a2 n2 c2] 35)).heap.size=w.heap.size+1+1 from by simp] at bR
 have Ho:=Lib.hid (FOver_any b1 b2 a1 a2 n1 c1 n2 c2 z1 z2 _ (h1.ext hE) (h2.ext hE) hn1 hn2)
 obtain ⟨oc,ho⟩:∃ oc,ovc z2=oc:=⟨_,rfl⟩
 rw [ho] at Ho
 clear h1 h2 ho
 go_enter Tryz.func67,Tryz.ntmps67
 go_wp2_with fail
 generalize ((w.alloc (.cells #[.bool b1,.slice a1 n1 c1] 35)).alloc (.cells #[.bool b2,.slice a2 n2 c2] 35)).alloc (.cells #[.bool false,.slice none 0 0,.bool false,.slice none 0 0] 49)=W0 at *
 refine Ho.out.mono ?_
 rintro e u ⟨b,a,n,c,b',a',n',c',rfl,I,I',l,l',hx⟩
 have hq:=(ext_alloc u (.cells #[.bool b,.slice a n c,.bool b',.slice a' n' c'] 49)).trans (ext_alloc _ (.cells #[.int .i64 oc,.int .i64 0] 30))
 have R1:=bR.ext (hx.trans hq)
 have bX:=(fzbx_new u b a n c b' a' n' c').ext (ext_alloc _ (.cells #[.int .i64 oc,.int .i64 0] 30))
 have J:=I.ext hq;have J':=I'.ext hq
 have HE:=Lib.hid (hE.trans (hx.trans hq))
 have k0:=R1.c0;have k1:=R1.c1;have k2:=R1.c2;have k3:=R1.c3;have f0:=R1.f 0;have f1:=R1.f 1;have f2:=R1.f 2;have f3:=R1.f 3
 have d0:=bX.c0;have d1:=bX.c1;have d2:=bX.c2;have d3:=bX.c3
 clear I I' hx hq bX hE
 go_wp2_with fail
 exact bodyPost_ret (v:=.agg #[.bool b,.slice a n c,.bool b',.slice a' n' c']) (by simp [results,Tryz.results67,go_sem,k0,k1,k2,k3]) rfl ⟨b,a,n,c,b',a',n',c',rfl,J.put4 R1 _ _ _ _,J'.put4 R1 _ _ _ _,l,l',(HE.out.put2 (by omega) _ _).put2 (by omega) _ _⟩
theorem zA_info:(Tryz.prog.info? 36).map (·.size)=some 16:=by kernel_rfl
theorem zZ_info:(Tryz.prog.info? 35).map (·.size)=some 2:=by kernel_rfl
theorem zF_info:(Tryz.prog.info? 49).map (·.size)=some 4:=by kernel_rfl
theorem zF_one (s:Bool) (a:Option Addr) (n c:Nat) (s':Bool) (a':Option Addr) (n' c':Nat):(#[.bool s,.slice a n c,.bool s',.slice a' n' c']:Array Value).all (·.oneCell')=true:=by simp [Value.oneCell']
theorem rangeZ {w:World} {g:Nat} {t:TypeId} {v0 v1 v2 v3 v4 v5 v6 v7 v8 v9 v10 v11 v12 v13 v14 v15 v16:Value} (hr:w.heap[g]?=some (.cells #[v0,v1,v2,v3,v4,v5,v6,v7,v8,v9,v10,v11,v12,v13,v14,v15,v16] t (0,0))):w.rangeAt g 0 [v0,v1,v2,v3,v4,v5,v6,v7,v8,v9,v10,v11,v12,v13,v14,v15]:=range8 hr
theorem rangeZ2 {w:World} {g:Nat} {t:TypeId} {v0 v1 v2 v3 v4 v5 v6 v7 v8 v9 v10 v11 v12 v13 v14 v15 v16:Value} (hr:w.heap[g]?=some (.cells #[v0,v1,v2,v3,v4,v5,v6,v7,v8,v9,v10,v11,v12,v13,v14,v15,v16] t (0,0))):w.rangeAt g 0 [v0,v1]:=by
 intro j v hv
 rw [cell_of_row w g _ _ t (0,0) hr,Nat.zero_add]
 match j with
 | 0=>exact hv
 | 1=>exact hv
 | j+2=>simp at hv
theorem len_one {f:Nat→Int} (h:∀ i,1≤i→i<8→f i=0):lenN f 8=1:=by
 simp [lenN,h 1 (by omega) (by omega),h 2 (by omega) (by omega),h 3 (by omega) (by omega),h 4 (by omega) (by omega),h 5 (by omega) (by omega),h 6 (by omega) (by omega),h 7 (by omega) (by omega)]
theorem lenN_ge {f:Nat→Int}:∀ n i,lenN f n≤i→i<n→f i=0
 | n+1,i,h1,h2=>by
  simp only [lenN] at h1
  split at h1
  ·rename_i h
   by_cases e:i=n
   ·rw [e];exact h.2
   ·exact lenN_ge n i h1 (by omega)
  ·omega
theorem rat_iff {x:Nm} (h:Anti x.a):(∀ k,(nAdd ⟨x.a,0⟩ (nNeg (nOf (x.a 0)))).a k=0)↔lenN (nmF x) 8=1:=by
 have e:∀ k,(nAdd ⟨x.a,0⟩ (nNeg (nOf (x.a 0)))).a k=x.a k-mono 0 (x.a 0) k:=fun k=>by
  show x.a k*2 ^ 0 + -(mono 0 (x.a 0) k)*2 ^ 0=_
  simp;omega
 constructor
 ·intro g
  refine len_one fun i h1 h8=>?_
  have:=g (i:Int)
  rw [e] at this
  unfold nmF
  rw [if_neg (by omega)]
  have hm:mono 0 (x.a 0) (i:Int)=0:=by unfold mono;repeat (split);all_goals omega
  omega
 ·intro g k
  rw [e]
  have hz:∀ k,(addR x.a (negR (mono 0 (x.a 0)))) k=0:=by
   refine all_zero (h.add (Anti.neg (anti_mono 0 _))) fun j h0 h8=>?_
   by_cases hj:j=0
   ·subst hj
    show x.a 0 + -(mono 0 (x.a 0) 0)=0
    have:mono 0 (x.a 0) 0=x.a 0:=by unfold mono;simp
    omega
   ·have h1:=lenN_ge (f:=nmF x) 8 j.toNat (by omega) (by omega)
    unfold nmF at h1
    rw [if_neg (by omega),show ((j.toNat:Nat):Int)=j by omega] at h1
    have hm:mono 0 (x.a 0) j=0:=by unfold mono;repeat (split);all_goals omega
    show x.a j + -(mono 0 (x.a 0) j)=0
    omega
  have:=hz k
  have h9:x.a k + -(mono 0 (x.a 0) k)=0:=this
  omega
def FRetR (w:World) (P Q:Int) (B:Bool) (e:Ending) (w':World):Prop :=
 ∃ (b:Bool) (a:Option Addr) (n c:Nat) (b':Bool) (a':Option Addr) (n' c':Nat),e=.returned (.tuple #[.agg #[.bool b,.slice a n c,.bool b',.slice a' n' c'],.bool B])∧IsZ w' b a n c P∧IsZ w' b' a' n' c' Q∧n≤100006∧n'≤100006∧Ext w w'
theorem QRational_nm (ca:Array Value) (x:Nm) (P E:Nat) (w:World) (h:RmA w ca x P E) (hP:P+E+1≤100000) (hE:E≤10000) (B:Bool) (hB:B=true↔lenN (nmF x) 8=1) :
  Calls Tryz.prog 12 #[.agg ca] w (FRetR w (if B then nfp (x.a 0) ((2 ^ x.e:Nat):Int) else 0) (if B then nfq (x.a 0) ((2 ^ x.e:Nat):Int) else 1) B):=by
 obtain ⟨l,rfl⟩:∃ l:List Value,ca=l.toArray:=⟨ca.toList,by simp⟩
 have hl:l.length=17:=by have:=h.val.1;simpa using this
 match l,hl with
 | [v0,v1,v2,v3,v4,v5,v6,v7,v8,v9,v10,v11,v12,v13,v14,v15,v16],_ =>
 obtain ⟨b0,a0,n0,c0,q0,q1,hI0⟩:=h.val.2.1 0 (by decide)
 have e0:v0=.bool b0:=Option.some.inj q0
 have e1:v1=.slice a0 n0 c0:=Option.some.inj q1
 subst e0;subst e1
 have Hv16:=Lib.hid (show v16=.int .i64 (x.e:Int) from Option.some.inj h.val.2.2)
 have hov:RmA w #[.bool b0,.slice a0 n0 c0,v2,v3,v4,v5,v6,v7,v8,v9,v10,v11,v12,v13,v14,v15,.int .i64 0] ⟨x.a,0⟩ P E:=⟨h.anti,Or.inl rfl,h.abs,Nat.zero_le _,h.val.over 0⟩
 obtain ⟨H,hH⟩:∃ H,w.heap.size=H:=⟨_,rfl⟩
 obtain ⟨U,hU⟩:∃ U,(w.alloc (.cells #[.bool b0,.slice a0 n0 c0,v2,v3,v4,v5,v6,v7,v8,v9,v10,v11,v12,v13,v14,v15,v16] 38)).alloc (.cells #[.bool false,.slice none 0 0,.bool false,.slice none 0 0] 49)=U:=⟨_,rfl⟩
 have E0:Ext w U:=by rw [←hU];exact (Ext.alloc _ _).trans (Ext.alloc _ _)
 have rA:U.heap[H]?=some (.cells #[.bool b0,.slice a0 n0 c0,v2,v3,v4,v5,v6,v7,v8,v9,v10,v11,v12,v13,v14,v15,v16] 38 (0,0)):=by rw [←hU,←hH];exact ((Ext.alloc _ _).block _ (Array.getElem?_eq_some_iff.1 (heap_alloc_new w (.cells #[.bool b0,.slice a0 n0 c0,v2,v3,v4,v5,v6,v7,v8,v9,v10,v11,v12,v13,v14,v15,v16] 38))).1).trans (heap_alloc_new w _)
 have rF:U.heap[H+1]?=some (.cells #[.bool false,.slice none 0 0,.bool false,.slice none 0 0] 49 (0,0)):=by
  have:=heap_alloc_new (w.alloc (.cells #[.bool b0,.slice a0 n0 c0,v2,v3,v4,v5,v6,v7,v8,v9,v10,v11,v12,v13,v14,v15,v16] 38)) (.cells #[.bool false,.slice none 0 0,.bool false,.slice none 0 0] 49)
  rw [←hU,←hH]
  simpa using this
 have lA:=(Array.getElem?_eq_some_iff.1 rA).1;have lF:=(Array.getElem?_eq_some_iff.1 rF).1
 have Hn0:=Lib.hid (show n0≤100000 by have:=hI0.bits (h.abs 0);omega)
 have HI0:=Lib.hid hI0;have Hov:=Lib.hid hov;have Hab:=Lib.hid (h.abs 0);have Hant:=Lib.hid h.anti;have Hdn:=Lib.hid (Nat.le_trans h.down hE)
 have HU:=Lib.hid hU;have HH:=Lib.hid hH;have HE0:=Lib.hid E0;have HP:=Lib.hid (show P+E+1≤400000 by omega);have HEE:=Lib.hid hE;have HB:=Lib.hid hB
 clear hU hH E0 h hP hE hB hov hI0 q0 q1
 go_enter Tryz.func12,Tryz.ntmps12
 go_upto_region 1 with fail
 rw [HU.out,HH.out]
 clear HU
 go_cut [13] from 4 to 12 (fun s13 wx=>s13=.bool (!B)∧Ext U wx)
 case first =>
  have he0:Ext U U.drew:=Below.drew (Ext.refl _)
  have HS:∀ w',Ext U w'→w'.heap[H]?=some (.cells #[.bool b0,.slice a0 n0 c0,v2,v3,v4,v5,v6,v7,v8,v9,v10,v11,v12,v13,v14,v15,v16] 38 (0,0)):=fun w' hx=>(hx.block _ lA).trans rA
  refine wp_region_held (S:=fun w'=>w'.heap[H]?=some (.cells #[.bool b0,.slice a0 n0 c0,v2,v3,v4,v5,v6,v7,v8,v9,v10,v11,v12,v13,v14,v15,v16] 38 (0,0))) (by kernel_rfl) ?_
  show wpAnyH _ _ _ _ _ 10 #[false,false,false,false,false,false,false,false,false,false] _ U.drew
  refine anyH_tk (i:=0) (.pointer (some ⟨H,0,none⟩)) rfl (by kernel_rfl) (by kernel_rfl) (by kernel_rfl) (fun _ _ _ h=>h) (Or.inl ⟨by kernel_rfl,?_⟩) (HS _ he0) #[true,false,false,false,false,false,false,false,false,false] (by kernel_rfl) ⟨#[.agg #[.bool b0,.slice a0 n0 c0,v2,v3,v4,v5,v6,v7,v8,v9,v10,v11,v12,v13,v14,v15,v16],.pointer (some ⟨H,0,none⟩),.pointer (some ⟨H+1,0,none⟩),.bool false,.pointer (some ⟨H,0,none⟩),undef,undef,undef,undef,undef,undef,undef,undef,undef,undef,undef,undef,undef,undef,undef,undef,undef,undef,undef],[]⟩ (by kernel_rfl) ?_
  ·intro w hSw
   kernel_rfl
  refine anyH_tk (i:=1) (.agg #[.bool b0,.slice a0 n0 c0,v2,v3,v4,v5,v6,v7,v8,v9,v10,v11,v12,v13,v14,v15]) rfl (by kernel_rfl) (by kernel_rfl) (by kernel_rfl) (fun _ _ _ h=>h) (Or.inl ⟨by kernel_rfl,?_⟩) (HS _ he0) #[true,true,false,false,false,false,false,false,false,false] (by kernel_rfl) ⟨#[.agg #[.bool b0,.slice a0 n0 c0,v2,v3,v4,v5,v6,v7,v8,v9,v10,v11,v12,v13,v14,v15,v16],.pointer (some ⟨H,0,none⟩),.pointer (some ⟨H+1,0,none⟩),.bool false,.pointer (some ⟨H,0,none⟩),.agg #[.bool b0,.slice a0 n0 c0,v2,v3,v4,v5,v6,v7,v8,v9,v10,v11,v12,v13,v14,v15],undef,undef,undef,undef,undef,undef,undef,undef,undef,undef,undef,undef,undef,undef,undef,undef,undef,undef],[]⟩ (by kernel_rfl) ?_
  ·intro w hSw
   exact exec_load_mid 36 _ rfl H 0 rfl [.bool b0,.slice a0 n0 c0,v2,v3,v4,v5,v6,v7,v8,v9,v10,v11,v12,v13,v14,v15] _ (rangeZ hSw) Tryz.underlying36 rfl zA_info
  refine anyH_tk (i:=2) (.agg #[.bool b0,.slice a0 n0 c0,v2,v3,v4,v5,v6,v7,v8,v9,v10,v11,v12,v13,v14,v15,.int .i64 0]) rfl (by kernel_rfl) (by kernel_rfl) (by kernel_rfl) (fun _ _ _ h=>h) (Or.inl ⟨by kernel_rfl,?_⟩) (HS _ he0) #[true,true,true,false,false,false,false,false,false,false] (by kernel_rfl) ⟨#[.agg #[.bool b0,.slice a0 n0 c0,v2,v3,v4,v5,v6,v7,v8,v9,v10,v11,v12,v13,v14,v15,v16],.pointer (some ⟨H,0,none⟩),.pointer (some ⟨H+1,0,none⟩),.bool false,.pointer (some ⟨H,0,none⟩),.agg #[.bool b0,.slice a0 n0 c0,v2,v3,v4,v5,v6,v7,v8,v9,v10,v11,v12,v13,v14,v15],.agg #[.bool b0,.slice a0 n0 c0,v2,v3,v4,v5,v6,v7,v8,v9,v10,v11,v12,v13,v14,v15,.int .i64 0],undef,undef,undef,undef,undef,undef,undef,undef,undef,undef,undef,undef,undef,undef,undef,undef,undef],[]⟩ (by kernel_rfl) ?_
  ·intro w hSw
   kernel_rfl
  refine anyH_tk (i:=3) (.pointer (some ⟨H,0,none⟩)) rfl (by kernel_rfl) (by kernel_rfl) (by kernel_rfl) (fun _ _ _ h=>h) (Or.inl ⟨by kernel_rfl,?_⟩) (HS _ he0) #[true,true,true,true,false,false,false,false,false,false] (by kernel_rfl) ⟨#[.agg #[.bool b0,.slice a0 n0 c0,v2,v3,v4,v5,v6,v7,v8,v9,v10,v11,v12,v13,v14,v15,v16],.pointer (some ⟨H,0,none⟩),.pointer (some ⟨H+1,0,none⟩),.bool false,.pointer (some ⟨H,0,none⟩),.agg #[.bool b0,.slice a0 n0 c0,v2,v3,v4,v5,v6,v7,v8,v9,v10,v11,v12,v13,v14,v15],.agg #[.bool b0,.slice a0 n0 c0,v2,v3,v4,v5,v6,v7,v8,v9,v10,v11,v12,v13,v14,v15,.int .i64 0],.pointer (some ⟨H,0,none⟩),undef,undef,undef,undef,undef,undef,undef,undef,undef,undef,undef,undef,undef,undef,undef,undef],[]⟩ (by kernel_rfl) ?_
  ·intro w hSw
   kernel_rfl
  refine anyH_tk (i:=4) (.pointer (some ⟨H,0,none⟩)) rfl (by kernel_rfl) (by kernel_rfl) (by kernel_rfl) (fun _ _ _ h=>h) (Or.inl ⟨by kernel_rfl,?_⟩) (HS _ he0) #[true,true,true,true,true,false,false,false,false,false] (by kernel_rfl) ⟨#[.agg #[.bool b0,.slice a0 n0 c0,v2,v3,v4,v5,v6,v7,v8,v9,v10,v11,v12,v13,v14,v15,v16],.pointer (some ⟨H,0,none⟩),.pointer (some ⟨H+1,0,none⟩),.bool false,.pointer (some ⟨H,0,none⟩),.agg #[.bool b0,.slice a0 n0 c0,v2,v3,v4,v5,v6,v7,v8,v9,v10,v11,v12,v13,v14,v15],.agg #[.bool b0,.slice a0 n0 c0,v2,v3,v4,v5,v6,v7,v8,v9,v10,v11,v12,v13,v14,v15,.int .i64 0],.pointer (some ⟨H,0,none⟩),.pointer (some ⟨H,0,none⟩),undef,undef,undef,undef,undef,undef,undef,undef,undef,undef,undef,undef,undef,undef,undef],[]⟩ (by kernel_rfl) ?_
  ·intro w hSw
   kernel_rfl
  refine anyH_tk (i:=5) (.agg #[.bool b0,.slice a0 n0 c0]) rfl (by kernel_rfl) (by kernel_rfl) (by kernel_rfl) (fun _ _ _ h=>h) (Or.inl ⟨by kernel_rfl,?_⟩) (HS _ he0) #[true,true,true,true,true,true,false,false,false,false] (by kernel_rfl) ⟨#[.agg #[.bool b0,.slice a0 n0 c0,v2,v3,v4,v5,v6,v7,v8,v9,v10,v11,v12,v13,v14,v15,v16],.pointer (some ⟨H,0,none⟩),.pointer (some ⟨H+1,0,none⟩),.bool false,.pointer (some ⟨H,0,none⟩),.agg #[.bool b0,.slice a0 n0 c0,v2,v3,v4,v5,v6,v7,v8,v9,v10,v11,v12,v13,v14,v15],.agg #[.bool b0,.slice a0 n0 c0,v2,v3,v4,v5,v6,v7,v8,v9,v10,v11,v12,v13,v14,v15,.int .i64 0],.pointer (some ⟨H,0,none⟩),.pointer (some ⟨H,0,none⟩),.agg #[.bool b0,.slice a0 n0 c0],undef,undef,undef,undef,undef,undef,undef,undef,undef,undef,undef,undef,undef,undef],[]⟩ (by kernel_rfl) ?_
  ·intro w hSw
   exact exec_load_mid 35 _ rfl H 0 rfl [.bool b0,.slice a0 n0 c0] _ (rangeZ2 hSw) Tryz.underlying35 rfl zZ_info
  refine anyH_go (i:=6) (by kernel_rfl) rfl (by kernel_rfl) 45 #[.agg #[.bool b0,.slice a0 n0 c0]] (by kernel_rfl) (R:=fun v w'=>(∃ c,v=.agg c∧RmA w' c (nOf (x.a 0)) P E)∧Ext U.drew w') ((QOf_nm b0 a0 n0 c0 (x.a 0) P E _ (HI0.out.ext (HE0.out.trans he0)) Hab.out).mono ?_) #[true,true,true,true,true,true,true,false,false,false] (by kernel_rfl) (fun vv=>⟨#[.agg #[.bool b0,.slice a0 n0 c0,v2,v3,v4,v5,v6,v7,v8,v9,v10,v11,v12,v13,v14,v15,v16],.pointer (some ⟨H,0,none⟩),.pointer (some ⟨H+1,0,none⟩),.bool false,.pointer (some ⟨H,0,none⟩),.agg #[.bool b0,.slice a0 n0 c0,v2,v3,v4,v5,v6,v7,v8,v9,v10,v11,v12,v13,v14,v15],.agg #[.bool b0,.slice a0 n0 c0,v2,v3,v4,v5,v6,v7,v8,v9,v10,v11,v12,v13,v14,v15,.int .i64 0],.pointer (some ⟨H,0,none⟩),.pointer (some ⟨H,0,none⟩),.agg #[.bool b0,.slice a0 n0 c0],vv,undef,undef,undef,undef,undef,undef,undef,undef,undef,undef,undef,undef,undef],[]⟩) (fun _=>by kernel_rfl) ?_
  ·rintro e w' ⟨c,rfl,n,hx'⟩;exact ⟨_,rfl,⟨c,rfl,n⟩,hx'⟩
  rintro v w1x ⟨⟨c10,rfl,n10⟩,hq1⟩
  have he1:=he0.trans hq1
  refine ⟨HS _ he1,?_⟩
  refine anyH_go (i:=7) (by kernel_rfl) rfl (by kernel_rfl) 32 #[.agg #[.bool b0,.slice a0 n0 c0,v2,v3,v4,v5,v6,v7,v8,v9,v10,v11,v12,v13,v14,v15,.int .i64 0],.agg c10] (by kernel_rfl) (R:=fun v w'=>(∃ c z,v=.agg c∧RmA w' c z (P+E+1) E∧EqN z (nAdd ⟨x.a,0⟩ (nNeg (nOf (x.a 0)))))∧Ext w1x w') ((QSub_nm #[.bool b0,.slice a0 n0 c0,v2,v3,v4,v5,v6,v7,v8,v9,v10,v11,v12,v13,v14,v15,.int .i64 0] c10 ⟨x.a,0⟩ (nOf (x.a 0)) P E _ (Hov.out.ext (HE0.out.trans he1)) n10 HP.out HEE.out).mono ?_) #[true,true,true,true,true,true,true,true,false,false] (by kernel_rfl) (fun vv=>⟨#[.agg #[.bool b0,.slice a0 n0 c0,v2,v3,v4,v5,v6,v7,v8,v9,v10,v11,v12,v13,v14,v15,v16],.pointer (some ⟨H,0,none⟩),.pointer (some ⟨H+1,0,none⟩),.bool false,.pointer (some ⟨H,0,none⟩),.agg #[.bool b0,.slice a0 n0 c0,v2,v3,v4,v5,v6,v7,v8,v9,v10,v11,v12,v13,v14,v15],.agg #[.bool b0,.slice a0 n0 c0,v2,v3,v4,v5,v6,v7,v8,v9,v10,v11,v12,v13,v14,v15,.int .i64 0],.pointer (some ⟨H,0,none⟩),.pointer (some ⟨H,0,none⟩),.agg #[.bool b0,.slice a0 n0 c0],.agg c10,vv,undef,undef,undef,undef,undef,undef,undef,undef,undef,undef,undef,undef],[]⟩) (fun _=>by kernel_rfl) ?_
  ·rintro e w' ⟨c,z,rfl,n,q,hx'⟩;exact ⟨_,rfl,⟨c,z,rfl,n,q⟩,hx'⟩
  rintro v w2x ⟨⟨c11,z11,rfl,n11,q11⟩,hq2⟩
  have he2:=he1.trans hq2
  refine ⟨HS _ he2,?_⟩
  refine anyH_go (i:=8) (by kernel_rfl) rfl (by kernel_rfl) 16 #[.agg c11] (by kernel_rfl) (R:=fun v w'=>(v=.bool B)∧Ext w2x w') ((QZero_any c11 (fun i=>z11.a i) _ _ n11.val B (HB.out.trans ((rat_iff Hant.out).symm.trans (q11.zero.symm.trans ⟨fun g i _=>g i,fun g=>zero_of_zeroN n11.anti g⟩)))).mono ?_) #[true,true,true,true,true,true,true,true,true,false] (by kernel_rfl) (fun vv=>⟨#[.agg #[.bool b0,.slice a0 n0 c0,v2,v3,v4,v5,v6,v7,v8,v9,v10,v11,v12,v13,v14,v15,v16],.pointer (some ⟨H,0,none⟩),.pointer (some ⟨H+1,0,none⟩),.bool false,.pointer (some ⟨H,0,none⟩),.agg #[.bool b0,.slice a0 n0 c0,v2,v3,v4,v5,v6,v7,v8,v9,v10,v11,v12,v13,v14,v15],.agg #[.bool b0,.slice a0 n0 c0,v2,v3,v4,v5,v6,v7,v8,v9,v10,v11,v12,v13,v14,v15,.int .i64 0],.pointer (some ⟨H,0,none⟩),.pointer (some ⟨H,0,none⟩),.agg #[.bool b0,.slice a0 n0 c0],.agg c10,.agg c11,vv,undef,undef,undef,undef,undef,undef,undef,undef,undef,undef,undef],[]⟩) (fun _=>by kernel_rfl) ?_
  ·rintro e w' ⟨rfl,hx'⟩;exact ⟨_,rfl,rfl,hx'⟩
  rintro v w3x ⟨rfl,hq3⟩
  have he3:=he2.trans hq3
  refine ⟨HS _ he3,?_⟩
  refine anyH_tk (i:=9) (.bool (!B)) rfl (by kernel_rfl) (by kernel_rfl) (by kernel_rfl) (fun _ _ _ h=>h) (Or.inl ⟨by kernel_rfl,?_⟩) (HS _ he3) #[true,true,true,true,true,true,true,true,true,true] (by kernel_rfl) ⟨#[.agg #[.bool b0,.slice a0 n0 c0,v2,v3,v4,v5,v6,v7,v8,v9,v10,v11,v12,v13,v14,v15,v16],.pointer (some ⟨H,0,none⟩),.pointer (some ⟨H+1,0,none⟩),.bool false,.pointer (some ⟨H,0,none⟩),.agg #[.bool b0,.slice a0 n0 c0,v2,v3,v4,v5,v6,v7,v8,v9,v10,v11,v12,v13,v14,v15],.agg #[.bool b0,.slice a0 n0 c0,v2,v3,v4,v5,v6,v7,v8,v9,v10,v11,v12,v13,v14,v15,.int .i64 0],.pointer (some ⟨H,0,none⟩),.pointer (some ⟨H,0,none⟩),.agg #[.bool b0,.slice a0 n0 c0],.agg c10,.agg c11,.bool B,.bool (!B),undef,undef,undef,undef,undef,undef,undef,undef,undef,undef],[]⟩ (by kernel_rfl) ?_
  ·intro w hSw
   kernel_rfl
  refine wpAnyH_done (by kernel_rfl) ?_ _
  go_wp2_with fail
  go_meet
  exact ⟨rfl,he3⟩
 case rest =>
 obtain ⟨rfl,hxc⟩:=hcut
 obtain ⟨Y,hY⟩:∃ Y,Y=wc:=⟨_,rfl⟩
 rw [←hY] at hxc ⊢
 have HY:=Lib.hid hxc
 clear hxc hY
 cases B
 ·have hI1:=ZOf_any 1 (by decide) (by decide) Y
  have HO:=Lib.hid hI1
  clear hI1
  have rF2:=(HY.out.block _ lF).trans rF
  go_wp2_with fail
  refine HO.out.mono ?_
  rintro e w2 ⟨b,a,n,c,rfl,hI,hn,hx2⟩
  have rF3:=(hx2.block _ (Array.getElem?_eq_some_iff.1 rF2).1).trans rF2
  have hEx:Ext w (w2.setRow (H+1) #[.bool false,.slice none 0 0,.bool b,.slice a n c]):=ext_setRowQ ((HE0.out.trans HY.out).trans hx2) (by rw [HH.out];omega) _
  have hIz:=hI.chz (ChZ.of_only (setRow_only w2 (H+1) #[.bool false,.slice none 0 0,.bool b,.slice a n c])) ⟨_,_,_,rF3,by decide⟩
  have Hend:=Lib.hid (show IsZ (w2.setRow (H+1) #[.bool false,.slice none 0 0,.bool b,.slice a n c]) false none 0 0 0∧IsZ (w2.setRow (H+1) #[.bool false,.slice none 0 0,.bool b,.slice a n c]) b a n c 1∧0≤100006∧n≤100006∧Ext w (w2.setRow (H+1) #[.bool false,.slice none 0 0,.bool b,.slice a n c]) from ⟨IsZ.zero _,hIz,by decide,by omega,hEx⟩)
  have rr:=setRow_heap w2 (H+1) _ #[.bool false,.slice none 0 0,.bool b,.slice a n c] _ _ rF3
  have y0:(w2.setRow (H+1) #[.bool false,.slice none 0 0,.bool b,.slice a n c]).cell? ⟨H+1,0,none⟩=some (.bool false):=by rw [cell_of_row _ _ _ _ _ _ rr];rfl
  have y1:(w2.setRow (H+1) #[.bool false,.slice none 0 0,.bool b,.slice a n c]).cell? ⟨H+1,1,none⟩=some (.slice none 0 0):=by rw [cell_of_row _ _ _ _ _ _ rr];rfl
  have y2:(w2.setRow (H+1) #[.bool false,.slice none 0 0,.bool b,.slice a n c]).cell? ⟨H+1,2,none⟩=some (.bool b):=by rw [cell_of_row _ _ _ _ _ _ rr];rfl
  have y3:(w2.setRow (H+1) #[.bool false,.slice none 0 0,.bool b,.slice a n c]).cell? ⟨H+1,3,none⟩=some (.slice a n c):=by rw [cell_of_row _ _ _ _ _ _ rr];rfl
  clear hEx hIz rr hI hn hx2 rF2 HO
  go_wp2_with (refine wpList_store_row rfl 49 _ _ rfl (H+1) #[.bool false,.slice none 0 0,.bool b,.slice a n c] rfl rfl 49 _ rF3 zF_info rfl (zF_one _ _ _ _ _ _ _ _) ?_)
  exact bodyPost_ret (v:=.tuple #[.agg #[.bool false,.slice none 0 0,.bool b,.slice a n c],.bool false]) (by simp [results,Tryz.results12,go_sem,y0,y1,y2,y3]) rfl ⟨false,none,0,0,b,a,n,c,rfl,Hend.out⟩
 ·have rA2:=(HY.out.block _ lA).trans rA
  have rF2:=(HY.out.block _ lF).trans rF
  have lA2:=(Array.getElem?_eq_some_iff.1 rA2).1;have lF2:=(Array.getElem?_eq_some_iff.1 rF2).1
  go_upto_region 3 with fail
  have he0:Ext Y Y.drew:=Below.drew (Ext.refl _)
  have HS:∀ w',Ext Y w'→w'.heap[H]?=some (.cells #[.bool b0,.slice a0 n0 c0,v2,v3,v4,v5,v6,v7,v8,v9,v10,v11,v12,v13,v14,v15,v16] 38 (0,0)):=fun w' hx=>(hx.block _ lA2).trans rA2
  refine wp_region_held (S:=fun w'=>w'.heap[H]?=some (.cells #[.bool b0,.slice a0 n0 c0,v2,v3,v4,v5,v6,v7,v8,v9,v10,v11,v12,v13,v14,v15,v16] 38 (0,0))) (by kernel_rfl) ?_
  show wpAnyH _ _ _ _ _ 9 #[false,false,false,false,false,false,false,false,false] _ Y.drew
  refine anyH_tk (i:=0) (.pointer (some ⟨H,0,none⟩)) rfl (by kernel_rfl) (by kernel_rfl) (by kernel_rfl) (fun _ _ _ h=>h) (Or.inl ⟨by kernel_rfl,?_⟩) (HS _ he0) #[true,false,false,false,false,false,false,false,false] (by kernel_rfl) ⟨#[.agg #[.bool b0,.slice a0 n0 c0,v2,v3,v4,v5,v6,v7,v8,v9,v10,v11,v12,v13,v14,v15,v16],.pointer (some ⟨H,0,none⟩),.pointer (some ⟨H+1,0,none⟩),.bool false,u4,u5,u6,u7,u8,u9,u10,u11,u12,.bool false,undef,undef,undef,.pointer (some ⟨H,0,none⟩),undef,undef,undef,undef,undef,undef],[]⟩ (by kernel_rfl) ?_
  ·intro w hSw
   kernel_rfl
  refine anyH_tk (i:=1) (.pointer (some ⟨H,0,none⟩)) rfl (by kernel_rfl) (by kernel_rfl) (by kernel_rfl) (fun _ _ _ h=>h) (Or.inl ⟨by kernel_rfl,?_⟩) (HS _ he0) #[true,true,false,false,false,false,false,false,false] (by kernel_rfl) ⟨#[.agg #[.bool b0,.slice a0 n0 c0,v2,v3,v4,v5,v6,v7,v8,v9,v10,v11,v12,v13,v14,v15,v16],.pointer (some ⟨H,0,none⟩),.pointer (some ⟨H+1,0,none⟩),.bool false,u4,u5,u6,u7,u8,u9,u10,u11,u12,.bool false,undef,undef,undef,.pointer (some ⟨H,0,none⟩),.pointer (some ⟨H,0,none⟩),undef,undef,undef,undef,undef],[]⟩ (by kernel_rfl) ?_
  ·intro w hSw
   kernel_rfl
  refine anyH_tk (i:=2) (.agg #[.bool b0,.slice a0 n0 c0]) rfl (by kernel_rfl) (by kernel_rfl) (by kernel_rfl) (fun _ _ _ h=>h) (Or.inl ⟨by kernel_rfl,?_⟩) (HS _ he0) #[true,true,true,false,false,false,false,false,false] (by kernel_rfl) ⟨#[.agg #[.bool b0,.slice a0 n0 c0,v2,v3,v4,v5,v6,v7,v8,v9,v10,v11,v12,v13,v14,v15,v16],.pointer (some ⟨H,0,none⟩),.pointer (some ⟨H+1,0,none⟩),.bool false,u4,u5,u6,u7,u8,u9,u10,u11,u12,.bool false,undef,undef,undef,.pointer (some ⟨H,0,none⟩),.pointer (some ⟨H,0,none⟩),.agg #[.bool b0,.slice a0 n0 c0],undef,undef,undef,undef],[]⟩ (by kernel_rfl) ?_
  ·intro w hSw
   exact exec_load_mid 35 _ rfl H 0 rfl [.bool b0,.slice a0 n0 c0] _ (rangeZ2 hSw) Tryz.underlying35 rfl zZ_info
  refine anyH_tk (i:=3) (.pointer (some ⟨H,16,none⟩)) rfl (by kernel_rfl) (by kernel_rfl) (by kernel_rfl) (fun _ _ _ h=>h) (Or.inl ⟨by kernel_rfl,?_⟩) (HS _ he0) #[true,true,true,true,false,false,false,false,false] (by kernel_rfl) ⟨#[.agg #[.bool b0,.slice a0 n0 c0,v2,v3,v4,v5,v6,v7,v8,v9,v10,v11,v12,v13,v14,v15,v16],.pointer (some ⟨H,0,none⟩),.pointer (some ⟨H+1,0,none⟩),.bool false,u4,u5,u6,u7,u8,u9,u10,u11,u12,.bool false,undef,undef,undef,.pointer (some ⟨H,0,none⟩),.pointer (some ⟨H,0,none⟩),.agg #[.bool b0,.slice a0 n0 c0],.pointer (some ⟨H,16,none⟩),undef,undef,undef],[]⟩ (by kernel_rfl) ?_
  ·intro w hSw
   kernel_rfl
  refine anyH_tk (i:=4) (.int .i64 (x.e:Int)) rfl (by kernel_rfl) (by kernel_rfl) (by kernel_rfl) (fun _ _ _ h=>h) (Or.inl ⟨by kernel_rfl,?_⟩) (HS _ he0) #[true,true,true,true,true,false,false,false,false] (by kernel_rfl) ⟨#[.agg #[.bool b0,.slice a0 n0 c0,v2,v3,v4,v5,v6,v7,v8,v9,v10,v11,v12,v13,v14,v15,v16],.pointer (some ⟨H,0,none⟩),.pointer (some ⟨H+1,0,none⟩),.bool false,u4,u5,u6,u7,u8,u9,u10,u11,u12,.bool false,undef,undef,undef,.pointer (some ⟨H,0,none⟩),.pointer (some ⟨H,0,none⟩),.agg #[.bool b0,.slice a0 n0 c0],.pointer (some ⟨H,16,none⟩),.int .i64 (x.e:Int),undef,undef],[]⟩ (by kernel_rfl) ?_
  ·intro w hSw
   have k:=cell_of_row _ H 16 _ _ _ hSw
   rw [show (#[.bool b0,.slice a0 n0 c0,v2,v3,v4,v5,v6,v7,v8,v9,v10,v11,v12,v13,v14,v15,v16]:Array Value)[16]?=some v16 from rfl,Hv16.out] at k
   go_simp
   try with_reducible rfl
  refine anyH_go (i:=5) (by kernel_rfl) rfl (by kernel_rfl) 68 #[.int .i64 (x.e:Int)] (by kernel_rfl) (R:=fun v w'=>(∃ (b:Bool) (a:Option Addr) (n c:Nat),v=.agg #[.bool b,.slice a n c]∧IsZ w' b a n c ((2 ^ x.e:Nat):Int)∧n≤10001)∧Ext Y.drew w') ((ZPow2_any x.e Hdn.out _).mono ?_) #[true,true,true,true,true,true,false,false,false] (by kernel_rfl) (fun vv=>⟨#[.agg #[.bool b0,.slice a0 n0 c0,v2,v3,v4,v5,v6,v7,v8,v9,v10,v11,v12,v13,v14,v15,v16],.pointer (some ⟨H,0,none⟩),.pointer (some ⟨H+1,0,none⟩),.bool false,u4,u5,u6,u7,u8,u9,u10,u11,u12,.bool false,undef,undef,undef,.pointer (some ⟨H,0,none⟩),.pointer (some ⟨H,0,none⟩),.agg #[.bool b0,.slice a0 n0 c0],.pointer (some ⟨H,16,none⟩),.int .i64 (x.e:Int),vv,undef],[]⟩) (fun _=>by kernel_rfl) ?_
  ·rintro e w' ⟨b,a,n,c,rfl,hI,hn,hx'⟩;exact ⟨_,rfl,⟨b,a,n,c,rfl,hI,hn⟩,hx'⟩
  rintro v w1x ⟨⟨b2,a2,n2,c2,rfl,hI2,hn2⟩,hq1⟩
  have he1:=he0.trans hq1
  refine ⟨HS _ he1,?_⟩
  refine anyH_go (i:=6) (by kernel_rfl) rfl (by kernel_rfl) 67 #[.agg #[.bool b0,.slice a0 n0 c0],.agg #[.bool b2,.slice a2 n2 c2]] (by kernel_rfl) (R:=fun v w'=>(∃ (b:Bool) (a:Option Addr) (n c:Nat) (b':Bool) (a':Option Addr) (n' c':Nat),v=.agg #[.bool b,.slice a n c,.bool b',.slice a' n' c']∧IsZ w' b a n c (nfp (x.a 0) ((2 ^ x.e:Nat):Int))∧IsZ w' b' a' n' c' (nfq (x.a 0) ((2 ^ x.e:Nat):Int))∧n≤100006∧n'≤100006)∧Ext w1x w') ((fover_any b0 b2 a0 a2 n0 c0 n2 c2 (x.a 0) _ _ (HI0.out.ext ((HE0.out.trans HY.out).trans he1)) hI2 Hn0.out (by omega)).mono ?_) #[true,true,true,true,true,true,true,false,false] (by kernel_rfl) (fun vv=>⟨#[.agg #[.bool b0,.slice a0 n0 c0,v2,v3,v4,v5,v6,v7,v8,v9,v10,v11,v12,v13,v14,v15,v16],.pointer (some ⟨H,0,none⟩),.pointer (some ⟨H+1,0,none⟩),.bool false,u4,u5,u6,u7,u8,u9,u10,u11,u12,.bool false,undef,undef,undef,.pointer (some ⟨H,0,none⟩),.pointer (some ⟨H,0,none⟩),.agg #[.bool b0,.slice a0 n0 c0],.pointer (some ⟨H,16,none⟩),.int .i64 (x.e:Int),.agg #[.bool b2,.slice a2 n2 c2],vv],[]⟩) (fun _=>by kernel_rfl) ?_
  ·rintro e w' ⟨b,a,n,c,b',a',n',c',rfl,hI,hI',hn,hn',hx'⟩;exact ⟨_,rfl,⟨b,a,n,c,b',a',n',c',rfl,hI,hI',hn,hn'⟩,hx'⟩
  rintro v w2x ⟨⟨b3,a3,n3,c3,b4,a4,n4,c4,rfl,hI3,hI4,hn3,hn4⟩,hq2⟩
  have he2:=he1.trans hq2
  refine ⟨HS _ he2,?_⟩
  have rF3:=(he2.block _ lF2).trans rF2
  have oc:=setRow_only w2x (H+1) #[.bool b3,.slice a3 n3 c3,.bool b4,.slice a4 n4 c4]
  have hEx:Ext w (w2x.setRow (H+1) #[.bool b3,.slice a3 n3 c3,.bool b4,.slice a4 n4 c4]):=ext_setRowQ ((HE0.out.trans HY.out).trans he2) (by rw [HH.out];omega) _
  have hIz:=hI3.chz (ChZ.of_only oc) ⟨_,_,_,rF3,by decide⟩
  have hIy:=hI4.chz (ChZ.of_only oc) ⟨_,_,_,rF3,by decide⟩
  have Hend:=Lib.hid (And.intro hIz (And.intro hIy (And.intro hn3 (And.intro hn4 hEx))))
  have rr:=setRow_heap w2x (H+1) _ #[.bool b3,.slice a3 n3 c3,.bool b4,.slice a4 n4 c4] _ _ rF3
  have rA3:=(oc.block H (by omega)).trans (HS _ he2)
  refine anyH_one (i:=7) (by kernel_rfl) rfl (fun Kk hKk=>?_)
  refine stepK_storeR rfl rfl 49 _ _ rfl (H+1) #[.bool b3,.slice a3 n3 c3,.bool b4,.slice a4 n4 c4] rfl rfl 49 _ rF3 zF_info rfl (zF_one _ _ _ _ _ _ _ _) ?_
  refine hKk.out _ _ rA3 ?_
  clear hKk Kk
  obtain ⟨V,hV⟩:∃ V,w2x.setRow (H+1) #[.bool b3,.slice a3 n3 c3,.bool b4,.slice a4 n4 c4]=V:=⟨_,rfl⟩
  rw [hV] at Hend rr rA3 ⊢
  have y0:V.cell? ⟨H+1,0,none⟩=some (.bool b3):=by rw [cell_of_row _ _ _ _ _ _ rr];rfl
  have y1:V.cell? ⟨H+1,1,none⟩=some (.slice a3 n3 c3):=by rw [cell_of_row _ _ _ _ _ _ rr];rfl
  have y2:V.cell? ⟨H+1,2,none⟩=some (.bool b4):=by rw [cell_of_row _ _ _ _ _ _ rr];rfl
  have y3:V.cell? ⟨H+1,3,none⟩=some (.slice a4 n4 c4):=by rw [cell_of_row _ _ _ _ _ _ rr];rfl
  refine wpAnyH_take (i:=8) (v:=.bool true) rfl (by kernel_rfl) (by kernel_rfl) (by kernel_rfl) (fun _ _ _ h=>h) (Or.inl ⟨by kernel_rfl,?_⟩) rA3 ?_
  ·intro w hSw
   kernel_rfl
  refine wpAnyH_done (by kernel_rfl) ?_ _
  clear hV hEx hIz hIy hI3 hI4 oc rA3 rF3 rr
  show Exit.then _ _ Exit.normal ⟨#[.agg #[.bool b0,.slice a0 n0 c0,v2,v3,v4,v5,v6,v7,v8,v9,v10,v11,v12,v13,v14,v15,v16],.pointer (some ⟨H,0,none⟩),.pointer (some ⟨H+1,0,none⟩),.bool true,u4,u5,u6,u7,u8,u9,u10,u11,u12,.bool false,undef,undef,undef,.pointer (some ⟨H,0,none⟩),.pointer (some ⟨H,0,none⟩),.agg #[.bool b0,.slice a0 n0 c0],.pointer (some ⟨H,16,none⟩),.int .i64 (x.e:Int),.agg #[.bool b2,.slice a2 n2 c2],.agg #[.bool b3,.slice a3 n3 c3,.bool b4,.slice a4 n4 c4]],[]⟩ V
  go_wp2_with fail
  exact bodyPost_ret (v:=.tuple #[.agg #[.bool b3,.slice a3 n3 c3,.bool b4,.slice a4 n4 c4],.bool true]) (by simp [results,Tryz.results12,go_sem,y0,y1,y2,y3]) rfl ⟨b3,a3,n3,c3,b4,a4,n4,c4,rfl,Hend.out⟩
end Go.Proofs.YtiicfpdiehgikaaGreatDoor
