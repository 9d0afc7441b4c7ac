/-
  The reference's fractions: FOver, fover. The reference's fractions: FCmp, FAdd, FSub. The reference's fractions: FMul, FQuo. The reference's reading: word, digitsOf. The reference reads fractions: word below a bar.
-/
import Derived.Test.YtjfomkoedgipjaaGreatDoorS26ZW
namespace Go.Proofs.YtjfomkoedgipjaaGreatDoor
set_option maxRecDepth 100000
set_option maxHeartbeats 4000000
open Go.RowKit
structure FZBx (W:World) (g:Nat) (b:Bool) (a:Option Addr) (n c:Nat) (b':Bool) (a':Option Addr) (n' c':Nat):Prop where
 row:W.heap[g]?=some (.cells #[.bool b,.slice a n c,.bool b',.slice a' n' c'] 35 (0,0))
section
variable {W W':World} {g:Nat} {b:Bool} {a:Option Addr} {n c:Nat} {b':Bool} {a':Option Addr} {n' c':Nat}
theorem FZBx.lt (h:FZBx W g b a n c b' a' n' c'):g<W.heap.size:=(gS.1 h.row).1
theorem FZBx.ext (h:FZBx W g b a n c b' a' n' c') (k:Ext W W'):FZBx W' g b a n c b' a' n' c':=⟨(k.block _ h.lt).trans h.row⟩
theorem FZBx.only {k:Nat} (h:FZBx W g b a n c b' a' n' c') (hO:Only k W W') (hne:g≠k):FZBx W' g b a n c b' a' n' c':=⟨(hO.block _ hne).trans h.row⟩
theorem FZBx.c0 (h:FZBx W g b a n c b' a' n' c'):W.cell? ⟨g,0,none⟩=some (.bool b):=by rw [qD W g 0 _ _ (0,0) h.row];rfl
theorem FZBx.c1 (h:FZBx W g b a n c b' a' n' c'):W.cell? ⟨g,1,none⟩=some (.slice a n c):=by rw [qD W g 1 _ _ (0,0) h.row];rfl
theorem FZBx.c2 (h:FZBx W g b a n c b' a' n' c'):W.cell? ⟨g,2,none⟩=some (.bool b'):=by rw [qD W g 2 _ _ (0,0) h.row];rfl
theorem FZBx.c3 (h:FZBx W g b a n c b' a' n' c'):W.cell? ⟨g,3,none⟩=some (.slice a' n' c'):=by rw [qD W g 3 _ _ (0,0) h.row];rfl
theorem FZBx.f (h:FZBx W g b a n c b' a' n' c') (o:Nat):W.frozen? ⟨g,o,none⟩=false:=jQ W g o _ _ h.row
end
theorem FZBx.own4 {W:World} {g:Nat} {b:Bool} {a:Option Addr} {n c:Nat} {b':Bool} {a':Option Addr} {n' c':Nat} (h:FZBx W g b a n c b' a' n' c') (x:Bool) (y:Option Addr) (m d:Nat) (x':Bool) (y':Option Addr) (m' d':Nat):FZBx ((((W.setCell ⟨g,0,none⟩ (.bool x)).setCell ⟨g,1,none⟩ (.slice y m d)).setCell ⟨g,2,none⟩ (.bool x')).setCell ⟨g,3,none⟩ (.slice y' m' d')) g x y m d x' y' m' d':=by
 have h1:=yZ W g 0 _ _ (.bool x) h.row;have h2:=yZ _ g 1 _ _ (.slice y m d) h1;have h3:=yZ _ g 2 _ _ (.bool x') h2;have h4:=yZ _ g 3 _ _ (.slice y' m' d') h3;exact ⟨h4⟩
theorem fzbx_new (w:World) (b:Bool) (a:Option Addr) (n c:Nat) (b':Bool) (a':Option Addr) (n' c':Nat):FZBx (w.alloc (.cells #[.bool b,.slice a n c,.bool b',.slice a' n' c'] 35)) w.heap.size b a n c b' a' n' c':=⟨qW w _⟩
theorem ZBx.only {W W':World} {g k:Nat} {b:Bool} {a:Option Addr} {n c:Nat} (h:ZBx W g b a n c) (hO:Only k W W') (hne:g≠k):ZBx W' g b a n c:=⟨(hO.block _ hne).trans h.row⟩
theorem FRes.only {W W':World} {g k:Nat} (h:FRes W g) (hO:Only k W W') (hne:g≠k) (hs:W.heap.size<=W'.heap.size):FRes W' g:=⟨qK h.lt hs,(hO.block _ hne).trans h.row⟩
theorem IsZ.put4 {W:World} {g:Nat} {b:Bool} {a:Option Addr} {n c:Nat} {b':Bool} {a':Option Addr} {n' c':Nat} {neg:Bool} {ao:Option Addr} {m d:Nat} {z:Int} (h:IsZ W neg ao m d z) (hb:FZBx W g b a n c b' a' n' c') (u0 u1 u2 u3:Value) :
  IsZ ((((W.setCell ⟨g,0,none⟩ u0).setCell ⟨g,1,none⟩ u1).setCell ⟨g,2,none⟩ u2).setCell ⟨g,3,none⟩ u3) neg ao m d z :=
 h.box hb.row (by decide) (((((Only.refl _ _).setCell _ _).setCell _ _).setCell _ _).setCell _ _)
theorem IsZ.put6 {W:World} {g k:Nat} {b:Bool} {a:Option Addr} {n c:Nat} {b':Bool} {a':Option Addr} {n' c':Nat} {neg:Bool} {ao:Option Addr} {m d:Nat} {z:Int} (h:IsZ W neg ao m d z) (hb:FZBx W g b a n c b' a' n' c') (hf:FRes W k) (hne:k≠g) (u0 u1 u2 u3 v0 v1:Value) :
  IsZ ((((((W.setCell ⟨g,0,none⟩ u0).setCell ⟨g,1,none⟩ u1).setCell ⟨g,2,none⟩ u2).setCell ⟨g,3,none⟩ u3).setCell ⟨k,0,none⟩ v0).setCell ⟨k,1,none⟩ v1) neg ao m d z:=by
 have hO:Only g W ((((W.setCell ⟨g,0,none⟩ u0).setCell ⟨g,1,none⟩ u1).setCell ⟨g,2,none⟩ u2).setCell ⟨g,3,none⟩ u3):=((((Only.refl _ _).setCell _ _).setCell _ _).setCell _ _).setCell _ _;exact (h.put4 hb u0 u1 u2 u3).box ((hO.block _ hne).trans hf.row) (by decide) (((Only.refl _ _).setCell _ _).setCell _ _)
def FRet (w:World) (P Q:Int) (N:Nat) (e:Ending) (w':World):Prop :=
 ∃ (b:Bool) (a:Option Addr) (n c:Nat) (b':Bool) (a':Option Addr) (n' c':Nat),e=.returned (.agg #[.bool b,.slice a n c,.bool b',.slice a' n' c'])/\IsZ w' b a n c P/\IsZ w' b' a' n' c' Q/\n<=N/\n'<=N/\Ext w w'
def FRetF (w:World) (P Q C:Int) (N:Nat) (e:Ending) (w':World):Prop :=
 ∃ (b:Bool) (a:Option Addr) (n c:Nat) (b':Bool) (a':Option Addr) (n' c':Nat),e=.returned (.tuple #[.agg #[.bool b,.slice a n c,.bool b',.slice a' n' c'],.agg #[.int .i64 C,.int .i64 0]])/\IsZ w' b a n c P/\IsZ w' b' a' n' c' Q/\n<=N/\n'<=N/\Ext w w'
theorem ZNeg_from {w:World} {b:Bool} {a:Option Addr} {n c:Nat} {z:Int} (h:IsZ w b a n c z) (hn:n<=1000000):∀ wx:World,Ext w wx->Calls Tryz.prog 79 #[.agg #[.bool b,.slice a n c]] wx fun e w' =>
  ∃ (b':Bool) (a':Option Addr) (n' c':Nat),e=.returned (.agg #[.bool b',.slice a' n' c'])/\IsZ w' b' a' n' c' (-z)/\n'<=n/\Ext w w'/\Ext wx w' :=
 fun wx hx=>(ZNeg_any b a n c z wx (h.ext hx) hn).mono fun _ _ ⟨b',a',n',c',h1,h2,h3,h4⟩=>⟨b',a',n',c',h1,h2,h3,hx.trans h4,h4⟩
theorem IsZ.neg_iff {w:World} {b:Bool} {a:Option Addr} {n c:Nat} {z:Int} (h:IsZ w b a n c z) (hz:z≠0):b=decide (z<0):=by
 obtain ⟨l,_,_,_,_,_,_,e,_⟩:=h
 cases b
 ·have e':z=(zval l:Int):=e
  exact (jE (by omega)).symm
 ·have e':z=-(zval l:Int):=e
  exact (jJ (by omega)).symm
theorem nf_neg {z1 z2 g:Int} (hz:z2<0) (hg:((Nat.gcd z1.natAbs z2.natAbs:Nat):Int)=g):nfp z1 z2=-(z1 / g)/\nfq z1 z2=-(z2 / g):=by
 subst hg;unfold nfp nfq nfk;rw [qE (show ¬ z2=0 by omega),qE (show ¬ z2=0 by omega),qU hz,Int.ediv_neg,Int.ediv_neg];exact ⟨rfl,rfl⟩
theorem nf_pos {z1 z2 g:Int} (hz:0<z2) (hg:((Nat.gcd z1.natAbs z2.natAbs:Nat):Int)=g):nfp z1 z2=z1 / g/\nfq z1 z2=z2 / g:=by
 subst hg;unfold nfp nfq nfk;rw [qE (show ¬ z2=0 by omega),qE (show ¬ z2=0 by omega),qE (show ¬ z2<0 by omega)];exact ⟨rfl,rfl⟩
theorem ediv_of {z q r g:Int} (hg:0<g) (h:z=q*g+r) (h0:0<=r) (h1:r<g.natAbs):q=z / g :=
 (((Int.ediv_emod_unique hg).2 ⟨by rw [h,yR];omega,h0,by omega⟩).1).symm
theorem FOver_any (b1 b2:Bool) (a1 a2:Option Addr) (n1 c1 n2 c2:Nat) (z1 z2:Int) (w:World) (h1:IsZ w b1 a1 n1 c1 z1) (h2:IsZ w b2 a2 n2 c2 z2) (hn1:n1<=100000) (hn2:n2<=100000) :
  Calls Tryz.prog 71 #[.agg #[.bool b1,.slice a1 n1 c1],.agg #[.bool b2,.slice a2 n2 c2]] w (FRetF w (nfp z1 z2) (nfq z1 z2) (ovc z2) 100006):=by
 have hE:Ext w ((((w.alloc (.cells #[.bool b1,.slice a1 n1 c1] 33)).alloc (.cells #[.bool b2,.slice a2 n2 c2] 33)).alloc (.cells #[.bool false,.slice none 0 0,.bool false,.slice none 0 0] 35)).alloc (.cells #[.int .i64 0,.int .i64 0] 26)):=(((ext_alloc w (.cells #[.bool b1,.slice a1 n1 c1] 33)).trans (ext_alloc _ (.cells #[.bool b2,.slice a2 n2 c2] 33))).trans (ext_alloc _ (.cells #[.bool false,.slice none 0 0,.bool false,.slice none 0 0] 35))).trans (ext_alloc _ (.cells #[.int .i64 0,.int .i64 0] 26));have bA:=(((zbx_new w b1 a1 n1 c1).ext (ext_alloc _ (.cells #[.bool b2,.slice a2 n2 c2] 33))).ext (ext_alloc _ (.cells #[.bool false,.slice none 0 0,.bool false,.slice none 0 0] 35))).ext (ext_alloc _ (.cells #[.int .i64 0,.int .i64 0] 26));have bB:=zbx_new (w.alloc (.cells #[.bool b1,.slice a1 n1 c1] 33)) b2 a2 n2 c2;rw [show (w.alloc (.cells #[.bool b1,.slice a1 n1 c1] 33)).heap.size=w.heap.size+1 from by simp] at bB;have bB:=(bB.ext (ext_alloc _ (.cells #[.bool false,.slice none 0 0,.bool false,.slice none 0 0] 35))).ext (ext_alloc _ (.cells #[.int .i64 0,.int .i64 0] 26));have bR:=fzbx_new ((w.alloc (.cells #[.bool b1,.slice a1 n1 c1] 33)).alloc (.cells #[.bool b2,.slice a2 n2 c2] 33)) false none 0 0 false none 0 0;rw [show ((w.alloc (.cells #[.bool b1,.slice a1 n1 c1] 33)).alloc (.cells #[.bool b2,.slice a2 n2 c2] 33)).heap.size=w.heap.size+1+1 from by simp] at bR;have bR:=bR.ext (ext_alloc _ (.cells #[.int .i64 0,.int .i64 0] 26))
 have bF:FRes ((((w.alloc (.cells #[.bool b1,.slice a1 n1 c1] 33)).alloc (.cells #[.bool b2,.slice a2 n2 c2] 33)).alloc (.cells #[.bool false,.slice none 0 0,.bool false,.slice none 0 0] 35)).alloc (.cells #[.int .i64 0,.int .i64 0] 26)) (w.heap.size+1+1+1):=by
  have:=qW (((w.alloc (.cells #[.bool b1,.slice a1 n1 c1] 33)).alloc (.cells #[.bool b2,.slice a2 n2 c2] 33)).alloc (.cells #[.bool false,.slice none 0 0,.bool false,.slice none 0 0] 35)) (.cells #[.int .i64 0,.int .i64 0] 26);exact ⟨by simp,by simpa using this⟩
 have I1:=h1.ext hE;have I2:=h2.ext hE;have hzi:=h2.zero_iff.1;have HE:=Lh hE;clear h1 h2 hE
 by_cases hz:z2=0
 ·have hn0:n2=0:=hzi.2 (by rw [hz];rfl)
  subst hn0;subst hz;rw [(nf_zero z1).1,(nf_zero z1).2,show ovc 0=4 from by unfold ovc;rw [qU rfl]];clear hzi I1 I2 bA bB
  go_enter Tryz.func71,Tryz.ntmps71
  go_wp2_with fail
  generalize (((w.alloc (.cells #[.bool b1,.slice a1 n1 c1] 33)).alloc (.cells #[.bool b2,.slice a2 0 c2] 33)).alloc (.cells #[.bool false,.slice none 0 0,.bool false,.slice none 0 0] 35)).alloc (.cells #[.int .i64 0,.int .i64 0] 26)=W0 at *;refine (ZOf_any 1 (by decide) (by decide) W0).mono ?_;rintro e v ⟨b,a,n,c,rfl,I,hn,hx⟩;have R1:=bR.ext hx;have F1:=bF.ext hx;have k0:=R1.c0;have k1:=R1.c1;have k2:=R1.c2;have k3:=R1.c3;have f0:=R1.f 0;have f1:=R1.f 1;have f2:=R1.f 2;have f3:=R1.f 3;have k4:=F1.c0;have k5:=F1.c1;have f4:=F1.f0;have f5:=F1.f1
  go_wp2_with fail
  exact qJ (v:=.tuple #[.agg #[.bool false,.slice none 0 0,.bool b,.slice a n c],.agg #[.int .i64 4,.int .i64 0]]) (by simp [results,Tryz.results71,go_sem,k0,k1,k2,k3,k4,k5]) rfl ⟨false,none,0,0,b,a,n,c,rfl,IsZ.zero _,I.put6 R1 F1 (by omega) _ _ _ _ _ _,by omega,by omega,(((HE.out.trans hx).put2 (by omega) _ _).put2 (by omega) _ _).put2 (by omega) _ _⟩
 ·have hn0:¬ n2=0:=fun e=>hz (Int.natAbs_eq_zero.1 (hzi.1 e))
  rw [show ovc z2=0 from by unfold ovc;rw [qE hz]];obtain ⟨g,hg⟩:∃ g:Int,((Nat.gcd z1.natAbs z2.natAbs:Nat):Int)=g:=⟨_,rfl⟩
  have hgp:0<g:=by rw [<-hg];have:=Nat.gcd_pos_of_pos_right (m:=z1.natAbs) (n:=z2.natAbs) (by omega);omega
  have Hg:=Lh hg;have Hz:=Lh hz;have HG:=Lh (fun wx (i1:IsZ wx b1 a1 n1 c1 z1) (i2:IsZ wx b2 a2 n2 c2 z2)=>ZGcd_any b1 b2 a1 a2 n1 c1 n2 c2 z1 z2 wx i1 i2 (by omega) (by omega));clear hzi hz hg;have H1:=Lh I1;have H2:=Lh I2;clear I1 I2
  go_enter Tryz.func71,Tryz.ntmps71
  go_wp2_with fail
  generalize (((w.alloc (.cells #[.bool b1,.slice a1 n1 c1] 33)).alloc (.cells #[.bool b2,.slice a2 n2 c2] 33)).alloc (.cells #[.bool false,.slice none 0 0,.bool false,.slice none 0 0] 35)).alloc (.cells #[.int .i64 0,.int .i64 0] 26)=W0 at *;refine (HG.out W0 H1.out H2.out).mono ?_;rintro e u1 ⟨bg,ag,ng,cg,rfl,Ig,lg,hx1⟩;have hq1:=hx1.trans (ext_alloc u1 (.cells #[.bool bg,.slice ag ng cg] 33));have bG:=zbx_new u1 bg ag ng cg;have HIg:=Lh ((Ig.cast Hg.out).ext (ext_alloc u1 (.cells #[.bool bg,.slice ag ng cg] 33)));have lG:w.heap.size+1+1+1<u1.heap.size:=qK bF.lt hx1.size;have bA:=bA.ext hq1;have bB:=bB.ext hq1;have bR:=bR.ext hq1;have bF:=bF.ext hq1;have H1:=Lh (H1.out.ext hq1);have H2:=Lh (H2.out.ext hq1);have HE:=Lh (HE.out.trans hq1);clear Ig hq1 hx1 HG;have d0:=bA.c0;have d1:=bA.c1;have d2:=bG.c0;have d3:=bG.c1
  go_wp2_with fail
  generalize u1.alloc (.cells #[.bool bg,.slice ag ng cg] 33)=W1 at *;generalize u1.heap.size=G at *;refine (ZDiv_any b1 bg a1 ag n1 c1 ng cg z1 g W1 H1.out HIg.out (by omega) (by omega) (by omega)).mono ?_;rintro e u2 ⟨b3,a3,n3,c3,b4,a4,n4,c4,q,r,rfl,Iq,Ir,heq,hr0,hrlt,l3,l4,hx2⟩;have HQ:=Lh (ediv_of hgp heq hr0 hrlt);clear d0 d1 d2 d3 heq hr0 hrlt Ir l4;have bA:=bA.ext hx2;have bB:=bB.ext hx2;have bR:=bR.ext hx2;have bF:=bF.ext hx2;have bG:=bG.ext hx2;have hO:Only w.heap.size u2 ((u2.setCell ⟨w.heap.size,0,none⟩ (.bool b3)).setCell ⟨w.heap.size,1,none⟩ (.slice a3 n3 c3)):=((Only.refl _ _).setCell _ _).setCell _ _
  have hSz:u2.heap.size<=((u2.setCell ⟨w.heap.size,0,none⟩ (.bool b3)).setCell ⟨w.heap.size,1,none⟩ (.slice a3 n3 c3)).heap.size:=by simp [World.setCell]
  have A2:=Lh (bA.own b3 a3 n3 c3);have B2:=bB.only hO (by omega);have R2:=Lh (bR.only hO (by omega));have F2:=Lh (bF.only hO (by omega) hSz);have G2:=bG.only hO (by omega);have HIq:=Lh (Iq.keepRes bA.row (.bool b3) (.slice a3 n3 c3));have HIg:=Lh ((HIg.out.ext hx2).keepRes bA.row (.bool b3) (.slice a3 n3 c3));have H2:=Lh ((H2.out.ext hx2).keepRes bA.row (.bool b3) (.slice a3 n3 c3));have HE:=Lh (zput2 (HE.out.trans hx2) (qZ _) (.bool b3) (.slice a3 n3 c3));have e0:=bA.c0;have e1:=bA.c1;have f0:=bA.f 0;have f1:=bA.f 1;have d0:=B2.c0;have d1:=B2.c1;have d2:=G2.c0;have d3:=G2.c1;have HB2:=Lh B2;clear hO hSz Iq bA bB bR bF bG H1 hx2 B2 G2
  go_wp2_with fail
  generalize (u2.setCell ⟨w.heap.size,0,none⟩ (.bool b3)).setCell ⟨w.heap.size,1,none⟩ (.slice a3 n3 c3)=W2 at *;clear e0 e1 f0 f1;refine (ZDiv_any b2 bg a2 ag n2 c2 ng cg z2 g W2 H2.out HIg.out (by omega) (by omega) (by omega)).mono ?_;rintro e u3 ⟨b5,a5,n5,c5,b6,a6,n6,c6,q',r',rfl,Iq',Ir',heq,hr0,hrlt,l5,l6,hx3⟩;have HQ':=Lh (ediv_of hgp heq hr0 hrlt);clear d0 d1 d2 d3 heq hr0 hrlt Ir' l6 HIg H2;have bA:=A2.out.ext hx3;have bB:=HB2.out.ext hx3;have bR:=R2.out.ext hx3;have bF:=F2.out.ext hx3;have hO:Only (w.heap.size+1) u3 ((u3.setCell ⟨w.heap.size+1,0,none⟩ (.bool b5)).setCell ⟨w.heap.size+1,1,none⟩ (.slice a5 n5 c5)):=((Only.refl _ _).setCell _ _).setCell _ _
  have hSz:u3.heap.size<=((u3.setCell ⟨w.heap.size+1,0,none⟩ (.bool b5)).setCell ⟨w.heap.size+1,1,none⟩ (.slice a5 n5 c5)).heap.size:=by simp [World.setCell]
  have A3:=bA.only hO (by omega);have B3:=bB.own b5 a5 n5 c5;have R3:=Lh (bR.only hO (by omega));have F3:=Lh (bF.only hO (by omega) hSz);have HIq:=Lh ((HIq.out.ext hx3).keepRes bB.row (.bool b5) (.slice a5 n5 c5));have HIq':=Lh (Iq'.keepRes bB.row (.bool b5) (.slice a5 n5 c5));have HE:=Lh (zput2 (HE.out.trans hx3) (Nat.le_succ _) (.bool b5) (.slice a5 n5 c5));have e0:=bB.c0;have e1:=bB.c1;have f0:=bB.f 0;have f1:=bB.f 1;have d0:=A3.c0;have d1:=A3.c1;have d2:=B3.c0;have d3:=B3.c1;have HA3:=Lh A3;have HB3:=Lh B3;clear hO hSz Iq' bA bB bR bF hx3 A3 B3 A2 HB2 R2 F2
  have hq0:q'≠0:=by
   intro h0;have h1:=HQ'.out
   obtain ⟨k,hk⟩:g ∣ z2:=by rw [<-Hg.out];exact Int.ofNat_dvd_left.2 (Nat.gcd_dvd_right _ _)
   rw [h0,hk,yR,Int.mul_ediv_cancel _ (by omega)] at h1;exact Hz.out (by rw [hk,<-h1,Int.mul_zero])
  have hb5:b5=decide (q'<0):=HIq'.out.neg_iff hq0
  by_cases hneg:z2<0
  ·have hqn:q'<0:=by
    have:=HQ'.out;have h2:=Int.ediv_neg_of_neg_of_pos hneg hgp;omega
   obtain rfl:b5=true:=by rw [hb5];exact jJ hqn
   obtain ⟨g1,g2⟩:=nf_neg hneg Hg.out
   have HN1:Hid (-q=nfp z1 z2):=by show _=_;rw [g1,HQ.out]
   have HN2:Hid (-q'=nfq z1 z2):=by show _=_;rw [g2,HQ'.out]
   clear hb5 hq0 hqn hneg g1 g2 HQ HQ' Hg Hz
   go_wp2_with fail
   generalize (u3.setCell ⟨w.heap.size+1,0,none⟩ (.bool true)).setCell ⟨w.heap.size+1,1,none⟩ (.slice a5 n5 c5)=W3 at *;clear e0 e1 f0 f1;have Hm1:=Lh (ZNeg_from HIq.out (by omega));have Hm2:=Lh (ZNeg_from HIq'.out (by omega));have h3d:Ext W3 W3.drew:=qG (Ext.refl _);have lA:=HA3.out.lt;have lB:=HB3.out.lt
   go_region_with (first | (go_at_call_of 79 a3;refine (Hm1.out _ (by assumption)).mono ?_;rintro e v1 ⟨b7,a7,n7,c7,rfl,I7,l7,he7,hx7⟩;have y2:=zKeep he7 lB d2;have y3:=zKeep he7 lB d3) | (go_at_call_of 79 a5;refine (Hm2.out _ (by assumption)).mono ?_;rintro e v2 ⟨b8,a8,n8,c8,rfl,I8,l8,he8,hx8⟩;have bA8:=HA3.out.ext he8;have bB8:=HB3.out.ext he8;have k0:=bA8.c0;have k1:=bA8.c1;have g0:=bA8.f 0;have g1:=bA8.f 1;have k2:=bB8.c0;have k3:=bB8.c1;have g2:=bB8.f 0;have g3:=bB8.f 1))
   all_goals
    have hO1:Only w.heap.size v2 ((v2.setCell ⟨w.heap.size,0,none⟩ (.bool b7)).setCell ⟨w.heap.size,1,none⟩ (.slice a7 n7 c7)):=((Only.refl _ _).setCell _ _).setCell _ _
    have hS1:v2.heap.size<=((v2.setCell ⟨w.heap.size,0,none⟩ (.bool b7)).setCell ⟨w.heap.size,1,none⟩ (.slice a7 n7 c7)).heap.size:=by simp [World.setCell]
    have A9:=bA8.own b7 a7 n7 c7;have B9:=bB8.only hO1 (by omega);have R9:=(R3.out.ext he8).only hO1 (by omega);have F9:=(F3.out.ext he8).only hO1 (by omega) hS1;have J7:=(I7.ext hx8).keepRes bA8.row (.bool b7) (.slice a7 n7 c7);have J8:=I8.keepRes bA8.row (.bool b7) (.slice a7 n7 c7);have E9:=zput2 (HE.out.trans he8) (qZ _) (.bool b7) (.slice a7 n7 c7);generalize hW:(v2.setCell ⟨w.heap.size,0,none⟩ (.bool b7)).setCell ⟨w.heap.size,1,none⟩ (.slice a7 n7 c7)=V at *;have hO2:Only (w.heap.size+1) V ((V.setCell ⟨w.heap.size+1,0,none⟩ (.bool b8)).setCell ⟨w.heap.size+1,1,none⟩ (.slice a8 n8 c8)):=((Only.refl _ _).setCell _ _).setCell _ _
    have hS2:V.heap.size<=((V.setCell ⟨w.heap.size+1,0,none⟩ (.bool b8)).setCell ⟨w.heap.size+1,1,none⟩ (.slice a8 n8 c8)).heap.size:=by simp [World.setCell]
    have A10:=A9.only hO2 (by omega);have B10:=B9.own b8 a8 n8 c8;have R10:=R9.only hO2 (by omega);have F10:=F9.only hO2 (by omega) hS2;have J7:=J7.keepRes B9.row (.bool b8) (.slice a8 n8 c8);have J8:=J8.keepRes B9.row (.bool b8) (.slice a8 n8 c8);have E10:=zput2 E9 (Nat.le_succ _) (.bool b8) (.slice a8 n8 c8);generalize (V.setCell ⟨w.heap.size+1,0,none⟩ (.bool b8)).setCell ⟨w.heap.size+1,1,none⟩ (.slice a8 n8 c8)=X at *;clear hW hO1 hS1 hO2 hS2 A9 B9 R9 F9 E9 bA8 bB8 k0 k1 k2 k3 g0 g1 g2 g3 I7 I8 he7 he8 hx7 hx8;have d0:=A10.c0;have d1:=A10.c1;have d2:=B10.c0;have d3:=B10.c1;have k0:=R10.c0;have k1:=R10.c1;have k2:=R10.c2;have k3:=R10.c3;have f0:=R10.f 0;have f1:=R10.f 1;have f2:=R10.f 2;have f3:=R10.f 3;have k4:=F10.c0;have k5:=F10.c1;have f4:=F10.f0;have f5:=F10.f1
    go_wp2_with fail
    exact qJ (v:=.tuple #[.agg #[.bool b7,.slice a7 n7 c7,.bool b8,.slice a8 n8 c8],.agg #[.int .i64 0,.int .i64 0]]) (by simp [results,Tryz.results71,go_sem,k0,k1,k2,k3,k4,k5]) rfl ⟨b7,a7,n7,c7,b8,a8,n8,c8,rfl,(J7.put6 R10 F10 (by omega) _ _ _ _ _ _).cast HN1.out,(J8.put6 R10 F10 (by omega) _ _ _ _ _ _).cast HN2.out,by omega,by omega,((E10.put2 (by omega) _ _).put2 (by omega) _ _).put2 (by omega) _ _⟩
  ·have hzp:0<z2:=by have:=Hz.out;omega
   have hqn:¬ q'<0:=by
    have:=HQ'.out;have h2:=Int.ediv_nonneg (a:=z2) (b:=g) (by omega) (by omega);omega
   obtain rfl:b5=false:=by rw [hb5];exact jE hqn
   obtain ⟨g1,g2⟩:=nf_pos hzp Hg.out
   have HN1:Hid (q=nfp z1 z2):=by show _=_;rw [g1,HQ.out]
   have HN2:Hid (q'=nfq z1 z2):=by show _=_;rw [g2,HQ'.out]
   clear hb5 hq0 hqn hneg g1 g2 HQ HQ' Hg Hz;have R3':=R3.out;have F3':=F3.out;have k0:=R3'.c0;have k1:=R3'.c1;have k2:=R3'.c2;have k3:=R3'.c3;have h0:=R3'.f 0;have h1:=R3'.f 1;have h2:=R3'.f 2;have h3:=R3'.f 3;have k4:=F3'.c0;have k5:=F3'.c1;have h4:=F3'.f0;have h5:=F3'.f1;clear R3' F3'
   go_wp2_with fail
   generalize (u3.setCell ⟨w.heap.size+1,0,none⟩ (.bool false)).setCell ⟨w.heap.size+1,1,none⟩ (.slice a5 n5 c5)=W3 at *;exact qJ (v:=.tuple #[.agg #[.bool b3,.slice a3 n3 c3,.bool false,.slice a5 n5 c5],.agg #[.int .i64 0,.int .i64 0]]) (by simp [results,Tryz.results71,go_sem,k0,k1,k2,k3,k4,k5]) rfl ⟨b3,a3,n3,c3,false,a5,n5,c5,rfl,(HIq.out.put6 R3.out F3.out (by omega) _ _ _ _ _ _).cast HN1.out,(HIq'.out.put6 R3.out F3.out (by omega) _ _ _ _ _ _).cast HN2.out,by omega,by omega,((HE.out.put2 (by omega) _ _).put2 (by omega) _ _).put2 (by omega) _ _⟩
theorem fover_any (b1 b2:Bool) (a1 a2:Option Addr) (n1 c1 n2 c2:Nat) (z1 z2:Int) (w:World) (h1:IsZ w b1 a1 n1 c1 z1) (h2:IsZ w b2 a2 n2 c2 z2) (hn1:n1<=100000) (hn2:n2<=100000) :
  Calls Tryz.prog 29 #[.agg #[.bool b1,.slice a1 n1 c1],.agg #[.bool b2,.slice a2 n2 c2]] w (FRet w (nfp z1 z2) (nfq z1 z2) 100006):=by
 have hE:Ext w (((w.alloc (.cells #[.bool b1,.slice a1 n1 c1] 33)).alloc (.cells #[.bool b2,.slice a2 n2 c2] 33)).alloc (.cells #[.bool false,.slice none 0 0,.bool false,.slice none 0 0] 35)):=((ext_alloc w (.cells #[.bool b1,.slice a1 n1 c1] 33)).trans (ext_alloc _ (.cells #[.bool b2,.slice a2 n2 c2] 33))).trans (ext_alloc _ (.cells #[.bool false,.slice none 0 0,.bool false,.slice none 0 0] 35));have bR:=fzbx_new ((w.alloc (.cells #[.bool b1,.slice a1 n1 c1] 33)).alloc (.cells #[.bool b2,.slice a2 n2 c2] 33)) false none 0 0 false none 0 0;rw [show ((w.alloc (.cells #[.bool b1,.slice a1 n1 c1] 33)).alloc (.cells #[.bool b2,.slice a2 n2 c2] 33)).heap.size=w.heap.size+1+1 from by simp] at bR;have Ho:=Lh (FOver_any b1 b2 a1 a2 n1 c1 n2 c2 z1 z2 _ (h1.ext hE) (h2.ext hE) hn1 hn2);obtain ⟨oc,ho⟩:∃ oc,ovc z2=oc:=⟨_,rfl⟩;rw [ho] at Ho;clear h1 h2 ho
 go_enter Tryz.func29,Tryz.ntmps29
 go_wp2_with fail
 generalize ((w.alloc (.cells #[.bool b1,.slice a1 n1 c1] 33)).alloc (.cells #[.bool b2,.slice a2 n2 c2] 33)).alloc (.cells #[.bool false,.slice none 0 0,.bool false,.slice none 0 0] 35)=W0 at *;refine Ho.out.mono ?_;rintro e u ⟨b,a,n,c,b',a',n',c',rfl,I,I',l,l',hx⟩;have hq:=(ext_alloc u (.cells #[.bool b,.slice a n c,.bool b',.slice a' n' c'] 35)).trans (ext_alloc _ (.cells #[.int .i64 oc,.int .i64 0] 26));have R1:=bR.ext (hx.trans hq);have bX:=(fzbx_new u b a n c b' a' n' c').ext (ext_alloc _ (.cells #[.int .i64 oc,.int .i64 0] 26));have J:=I.ext hq;have J':=I'.ext hq;have HE:=Lh (hE.trans (hx.trans hq));have k0:=R1.c0;have k1:=R1.c1;have k2:=R1.c2;have k3:=R1.c3;have f0:=R1.f 0;have f1:=R1.f 1;have f2:=R1.f 2;have f3:=R1.f 3;have d0:=bX.c0;have d1:=bX.c1;have d2:=bX.c2;have d3:=bX.c3;clear I I' hx hq bX hE
 go_wp2_with fail
 exact qJ (v:=.agg #[.bool b,.slice a n c,.bool b',.slice a' n' c']) (by simp [results,Tryz.results29,go_sem,k0,k1,k2,k3]) rfl ⟨b,a,n,c,b',a',n',c',rfl,J.put4 R1 _ _ _ _,J'.put4 R1 _ _ _ _,l,l',(HE.out.put2 (by omega) _ _).put2 (by omega) _ _⟩
theorem FCmp_any (b1:Bool) (a1:Option Addr) (n1 c1:Nat) (b2:Bool) (a2:Option Addr) (n2 c2:Nat) (b3:Bool) (a3:Option Addr) (n3 c3:Nat) (b4:Bool) (a4:Option Addr) (n4 c4:Nat) (P Q R S:Int) (w:World) (h1:IsZ w b1 a1 n1 c1 P) (h2:IsZ w b2 a2 n2 c2 Q) (h3:IsZ w b3 a3 n3 c3 R) (h4:IsZ w b4 a4 n4 c4 S) (hn1:n1<=40000) (hn2:n2<=40000) (hn3:n3<=40000) (hn4:n4<=40000) (k:Int) (hk:k=if P*S-R*Q<0 then -1 else if 0<P*S-R*Q then 1 else 0) :
  Calls Tryz.prog 10 #[.agg #[.bool b1,.slice a1 n1 c1,.bool b2,.slice a2 n2 c2],.agg #[.bool b3,.slice a3 n3 c3,.bool b4,.slice a4 n4 c4]] w fun e w'=>e=.returned (.int .i64 k)/\Ext w w':=by
 have Ek:=Lh hk;clear hk;have hE:Ext w ((w.alloc (.cells #[.bool b1,.slice a1 n1 c1,.bool b2,.slice a2 n2 c2] 35)).alloc (.cells #[.bool b3,.slice a3 n3 c3,.bool b4,.slice a4 n4 c4] 35)):=(ext_alloc w (.cells #[.bool b1,.slice a1 n1 c1,.bool b2,.slice a2 n2 c2] 35)).trans (ext_alloc _ (.cells #[.bool b3,.slice a3 n3 c3,.bool b4,.slice a4 n4 c4] 35));have bX:=(fzbx_new w b1 a1 n1 c1 b2 a2 n2 c2).ext (ext_alloc _ (.cells #[.bool b3,.slice a3 n3 c3,.bool b4,.slice a4 n4 c4] 35));have bY:=fzbx_new (w.alloc (.cells #[.bool b1,.slice a1 n1 c1,.bool b2,.slice a2 n2 c2] 35)) b3 a3 n3 c3 b4 a4 n4 c4;rw [show (w.alloc (.cells #[.bool b1,.slice a1 n1 c1,.bool b2,.slice a2 n2 c2] 35)).heap.size=w.heap.size+1 from by simp] at bY;have IA:=h1.ext hE;have IB:=h2.ext hE;have IC:=h3.ext hE;have ID:=h4.ext hE;clear h1 h2 h3 h4
 go_enter Tryz.func10,Tryz.ntmps10
 go_wp2_with fail
 generalize (w.alloc (.cells #[.bool b1,.slice a1 n1 c1,.bool b2,.slice a2 n2 c2] 35)).alloc (.cells #[.bool b3,.slice a3 n3 c3,.bool b4,.slice a4 n4 c4] 35)=W0 at *;have m0:=bX.c0;have m1:=bX.c1;have m2:=bX.c2;have m3:=bX.c3;have m4:=bY.c0;have m5:=bY.c1;have m6:=bY.c2;have m7:=bY.c3;have lX:=bX.lt;have lY:=bY.lt;have h0d:Ext W0 W0.drew:=qG (Ext.refl _)
 go_region_held3 (fun w'=>w'.cell? ⟨w.heap.size,0,none⟩=some (.bool b1)/\w'.cell? ⟨w.heap.size,1,none⟩=some (.slice a1 n1 c1)/\w'.cell? ⟨w.heap.size,2,none⟩=some (.bool b2)/\w'.cell? ⟨w.heap.size,3,none⟩=some (.slice a2 n2 c2)/\w'.cell? ⟨w.heap.size+1,0,none⟩=some (.bool b3)/\w'.cell? ⟨w.heap.size+1,1,none⟩=some (.slice a3 n3 c3)/\w'.cell? ⟨w.heap.size+1,2,none⟩=some (.bool b4)/\w'.cell? ⟨w.heap.size+1,3,none⟩=some (.slice a4 n4 c4))
  (exact ⟨cellKeep (W:=W0) (by assumption) lX m0,cellKeep (W:=W0) (by assumption) lX m1,cellKeep (W:=W0) (by assumption) lX m2,cellKeep (W:=W0) (by assumption) lX m3,cellKeep (W:=W0) (by assumption) lY m4,cellKeep (W:=W0) (by assumption) lY m5,cellKeep (W:=W0) (by assumption) lY m6,cellKeep (W:=W0) (by assumption) lY m7⟩)
  (first
   | (have _:=qv1;go_at_call 32;refine (ZCmp_any sv0 sv1 ov0 ov1 mv0 jv0 mv1 jv1 (P*S) (R*Q) _ (Kv0.ext qv1) Kv1 (by omega) (by omega) k Ek.out).mono ?_;rintro e v2 ⟨rfl,qv2⟩;have hv2:Ext W0 v2:=hv1.trans qv2)
   | (have _:=qv0;go_at_call 33;refine (ZMul_any b3 b2 a3 a2 n3 c3 n2 c2 R Q _ (IC.ext hv0) (IB.ext hv0) (by omega) (by omega)).mono ?_;rintro e v1 ⟨sv1,ov1,mv1,jv1,rfl,Kv1,Lv1,qv1⟩;have hv1:Ext W0 v1:=hv0.trans qv1)
   | (go_at_call 33;refine (ZMul_any b1 b4 a1 a4 n1 c1 n4 c4 P S _ (IA.ext (by assumption)) (ID.ext (by assumption)) (by omega) (by omega)).mono ?_;rintro e v0 ⟨sv0,ov0,mv0,jv0,rfl,Kv0,Lv0,qv0⟩;have hv0:Ext W0 v0:=Ext.trans (by assumption) qv0))
 go_wp2_with fail
 go_ret
 exact ⟨rfl,hE.trans hv2⟩
theorem FAdd_any (b1:Bool) (a1:Option Addr) (n1 c1:Nat) (b2:Bool) (a2:Option Addr) (n2 c2:Nat) (b3:Bool) (a3:Option Addr) (n3 c3:Nat) (b4:Bool) (a4:Option Addr) (n4 c4:Nat) (P Q R S:Int) (w:World) (h1:IsZ w b1 a1 n1 c1 P) (h2:IsZ w b2 a2 n2 c2 Q) (h3:IsZ w b3 a3 n3 c3 R) (h4:IsZ w b4 a4 n4 c4 S) (hn1:n1<=40000) (hn2:n2<=40000) (hn3:n3<=40000) (hn4:n4<=40000) :
  Calls Tryz.prog 46 #[.agg #[.bool b1,.slice a1 n1 c1,.bool b2,.slice a2 n2 c2],.agg #[.bool b3,.slice a3 n3 c3,.bool b4,.slice a4 n4 c4]] w (FRet w (nfp (P*S+R*Q) (Q*S)) (nfq (P*S+R*Q) (Q*S)) 100006):=by
 have hE:Ext w (((w.alloc (.cells #[.bool b1,.slice a1 n1 c1,.bool b2,.slice a2 n2 c2] 35)).alloc (.cells #[.bool b3,.slice a3 n3 c3,.bool b4,.slice a4 n4 c4] 35)).alloc (.cells #[.bool false,.slice none 0 0,.bool false,.slice none 0 0] 35)):=((ext_alloc w (.cells #[.bool b1,.slice a1 n1 c1,.bool b2,.slice a2 n2 c2] 35)).trans (ext_alloc _ (.cells #[.bool b3,.slice a3 n3 c3,.bool b4,.slice a4 n4 c4] 35))).trans (ext_alloc _ (.cells #[.bool false,.slice none 0 0,.bool false,.slice none 0 0] 35));have bX:=(fzbx_new w b1 a1 n1 c1 b2 a2 n2 c2).ext (ext_alloc _ (.cells #[.bool b3,.slice a3 n3 c3,.bool b4,.slice a4 n4 c4] 35));have bY:=fzbx_new (w.alloc (.cells #[.bool b1,.slice a1 n1 c1,.bool b2,.slice a2 n2 c2] 35)) b3 a3 n3 c3 b4 a4 n4 c4;rw [show (w.alloc (.cells #[.bool b1,.slice a1 n1 c1,.bool b2,.slice a2 n2 c2] 35)).heap.size=w.heap.size+1 from by simp] at bY;have bX:=bX.ext (ext_alloc _ (.cells #[.bool false,.slice none 0 0,.bool false,.slice none 0 0] 35));have bY:=bY.ext (ext_alloc _ (.cells #[.bool false,.slice none 0 0,.bool false,.slice none 0 0] 35));have bR:=fzbx_new ((w.alloc (.cells #[.bool b1,.slice a1 n1 c1,.bool b2,.slice a2 n2 c2] 35)).alloc (.cells #[.bool b3,.slice a3 n3 c3,.bool b4,.slice a4 n4 c4] 35)) false none 0 0 false none 0 0;rw [show ((w.alloc (.cells #[.bool b1,.slice a1 n1 c1,.bool b2,.slice a2 n2 c2] 35)).alloc (.cells #[.bool b3,.slice a3 n3 c3,.bool b4,.slice a4 n4 c4] 35)).heap.size=w.heap.size+1+1 from by simp] at bR;have IA:=h1.ext hE;have IB:=h2.ext hE;have IC:=h3.ext hE;have ID:=h4.ext hE;clear h1 h2 h3 h4
 go_enter Tryz.func46,Tryz.ntmps46
 go_wp2_with fail
 generalize ((w.alloc (.cells #[.bool b1,.slice a1 n1 c1,.bool b2,.slice a2 n2 c2] 35)).alloc (.cells #[.bool b3,.slice a3 n3 c3,.bool b4,.slice a4 n4 c4] 35)).alloc (.cells #[.bool false,.slice none 0 0,.bool false,.slice none 0 0] 35)=W0 at *;have m0:=bX.c0;have m1:=bX.c1;have m2:=bX.c2;have m3:=bX.c3;have m4:=bY.c0;have m5:=bY.c1;have m6:=bY.c2;have m7:=bY.c3;have lX:=bX.lt;have lY:=bY.lt;have h0d:Ext W0 W0.drew:=qG (Ext.refl _)
 go_region_held3 (fun w'=>w'.cell? ⟨w.heap.size,0,none⟩=some (.bool b1)/\w'.cell? ⟨w.heap.size,1,none⟩=some (.slice a1 n1 c1)/\w'.cell? ⟨w.heap.size,2,none⟩=some (.bool b2)/\w'.cell? ⟨w.heap.size,3,none⟩=some (.slice a2 n2 c2)/\w'.cell? ⟨w.heap.size+1,0,none⟩=some (.bool b3)/\w'.cell? ⟨w.heap.size+1,1,none⟩=some (.slice a3 n3 c3)/\w'.cell? ⟨w.heap.size+1,2,none⟩=some (.bool b4)/\w'.cell? ⟨w.heap.size+1,3,none⟩=some (.slice a4 n4 c4))
  (exact ⟨by (repeat (refine cellPut (by omega) ?_));exact cellKeep (W:=W0) (by assumption) lX m0,by (repeat (refine cellPut (by omega) ?_));exact cellKeep (W:=W0) (by assumption) lX m1,by (repeat (refine cellPut (by omega) ?_));exact cellKeep (W:=W0) (by assumption) lX m2,by (repeat (refine cellPut (by omega) ?_));exact cellKeep (W:=W0) (by assumption) lX m3,by (repeat (refine cellPut (by omega) ?_));exact cellKeep (W:=W0) (by assumption) lY m4,by (repeat (refine cellPut (by omega) ?_));exact cellKeep (W:=W0) (by assumption) lY m5,by (repeat (refine cellPut (by omega) ?_));exact cellKeep (W:=W0) (by assumption) lY m6,by (repeat (refine cellPut (by omega) ?_));exact cellKeep (W:=W0) (by assumption) lY m7⟩)
  (first
   | (have _:=qv3;go_at_call 29;refine (fover_any sv2 sv3 ov2 ov3 mv2 jv2 mv3 jv3 (P*S+R*Q) (Q*S) _ (Kv2.ext qv3) Kv3 (by omega) (by omega)).mono ?_;rintro e v4 ⟨b9,a9,n9,c9,b8,a8,n8,c8,rfl,I9,I8,l9,l8,qv4⟩;have hv4:Ext W0 v4:=hv3.trans qv4;have R5:=bR.ext hv4;have k0:=R5.c0;have k1:=R5.c1;have k2:=R5.c2;have k3:=R5.c3;have f0:=R5.f 0;have f1:=R5.f 1;have f2:=R5.f 2;have f3:=R5.f 3)
   | (have _:=qv2;go_at_call 33;refine (ZMul_any b2 b4 a2 a4 n2 c2 n4 c4 Q S _ (IB.ext hv2) (ID.ext hv2) (by omega) (by omega)).mono ?_;rintro e v3 ⟨sv3,ov3,mv3,jv3,rfl,Kv3,Lv3,qv3⟩;have hv3:Ext W0 v3:=hv2.trans qv3)
   | (have _:=qv1;go_at_call 81;refine (ZAdd_any sv0 sv1 ov0 ov1 mv0 jv0 mv1 jv1 (P*S) (R*Q) _ (Kv0.ext qv1) Kv1 (by omega) (by omega)).mono ?_;rintro e v2 ⟨sv2,ov2,mv2,jv2,rfl,Kv2,Lv2,qv2⟩;have hv2:Ext W0 v2:=hv1.trans qv2)
   | (have _:=qv0;go_at_call 33;refine (ZMul_any b3 b2 a3 a2 n3 c3 n2 c2 R Q _ (IC.ext hv0) (IB.ext hv0) (by omega) (by omega)).mono ?_;rintro e v1 ⟨sv1,ov1,mv1,jv1,rfl,Kv1,Lv1,qv1⟩;have hv1:Ext W0 v1:=hv0.trans qv1)
   | (go_at_call 33;refine (ZMul_any b1 b4 a1 a4 n1 c1 n4 c4 P S _ (IA.ext (by assumption)) (ID.ext (by assumption)) (by omega) (by omega)).mono ?_;rintro e v0 ⟨sv0,ov0,mv0,jv0,rfl,Kv0,Lv0,qv0⟩;have hv0:Ext W0 v0:=Ext.trans (by assumption) qv0))
 have HI9:=Lh (I9.put4 R5 (.bool b9) (.slice a9 n9 c9) (.bool b8) (.slice a8 n8 c8));have HI8:=Lh (I8.put4 R5 (.bool b9) (.slice a9 n9 c9) (.bool b8) (.slice a8 n8 c8));clear I9 I8
 go_wp2_with fail
 exact qJ (v:=.agg #[.bool b9,.slice a9 n9 c9,.bool b8,.slice a8 n8 c8]) (by simp [results,Tryz.results46,go_sem,k0,k1,k2,k3]) rfl ⟨b9,a9,n9,c9,b8,a8,n8,c8,rfl,HI9.out,HI8.out,l9,l8,((hE.trans hv4).put2 (by omega) _ _).put2 (by omega) _ _⟩
theorem FSub_any (b1:Bool) (a1:Option Addr) (n1 c1:Nat) (b2:Bool) (a2:Option Addr) (n2 c2:Nat) (b3:Bool) (a3:Option Addr) (n3 c3:Nat) (b4:Bool) (a4:Option Addr) (n4 c4:Nat) (P Q R S:Int) (w:World) (h1:IsZ w b1 a1 n1 c1 P) (h2:IsZ w b2 a2 n2 c2 Q) (h3:IsZ w b3 a3 n3 c3 R) (h4:IsZ w b4 a4 n4 c4 S) (hn1:n1<=40000) (hn2:n2<=40000) (hn3:n3<=40000) (hn4:n4<=40000) :
  Calls Tryz.prog 39 #[.agg #[.bool b1,.slice a1 n1 c1,.bool b2,.slice a2 n2 c2],.agg #[.bool b3,.slice a3 n3 c3,.bool b4,.slice a4 n4 c4]] w (FRet w (nfp (P*S + -R*Q) (Q*S)) (nfq (P*S + -R*Q) (Q*S)) 100006):=by
 have hE:Ext w (((w.alloc (.cells #[.bool b1,.slice a1 n1 c1,.bool b2,.slice a2 n2 c2] 35)).alloc (.cells #[.bool b3,.slice a3 n3 c3,.bool b4,.slice a4 n4 c4] 35)).alloc (.cells #[.bool false,.slice none 0 0,.bool false,.slice none 0 0] 35)):=((ext_alloc w (.cells #[.bool b1,.slice a1 n1 c1,.bool b2,.slice a2 n2 c2] 35)).trans (ext_alloc _ (.cells #[.bool b3,.slice a3 n3 c3,.bool b4,.slice a4 n4 c4] 35))).trans (ext_alloc _ (.cells #[.bool false,.slice none 0 0,.bool false,.slice none 0 0] 35));have bX:=(fzbx_new w b1 a1 n1 c1 b2 a2 n2 c2).ext (ext_alloc _ (.cells #[.bool b3,.slice a3 n3 c3,.bool b4,.slice a4 n4 c4] 35));have bY:=fzbx_new (w.alloc (.cells #[.bool b1,.slice a1 n1 c1,.bool b2,.slice a2 n2 c2] 35)) b3 a3 n3 c3 b4 a4 n4 c4;rw [show (w.alloc (.cells #[.bool b1,.slice a1 n1 c1,.bool b2,.slice a2 n2 c2] 35)).heap.size=w.heap.size+1 from by simp] at bY;have bX:=bX.ext (ext_alloc _ (.cells #[.bool false,.slice none 0 0,.bool false,.slice none 0 0] 35));have bY:=bY.ext (ext_alloc _ (.cells #[.bool false,.slice none 0 0,.bool false,.slice none 0 0] 35));have bR:=fzbx_new ((w.alloc (.cells #[.bool b1,.slice a1 n1 c1,.bool b2,.slice a2 n2 c2] 35)).alloc (.cells #[.bool b3,.slice a3 n3 c3,.bool b4,.slice a4 n4 c4] 35)) false none 0 0 false none 0 0;rw [show ((w.alloc (.cells #[.bool b1,.slice a1 n1 c1,.bool b2,.slice a2 n2 c2] 35)).alloc (.cells #[.bool b3,.slice a3 n3 c3,.bool b4,.slice a4 n4 c4] 35)).heap.size=w.heap.size+1+1 from by simp] at bR;have IA:=h1.ext hE;have IB:=h2.ext hE;have IC:=h3.ext hE;have ID:=h4.ext hE;clear h1 h2 h3 h4
 go_enter Tryz.func39,Tryz.ntmps39
 go_wp2_with fail
 generalize ((w.alloc (.cells #[.bool b1,.slice a1 n1 c1,.bool b2,.slice a2 n2 c2] 35)).alloc (.cells #[.bool b3,.slice a3 n3 c3,.bool b4,.slice a4 n4 c4] 35)).alloc (.cells #[.bool false,.slice none 0 0,.bool false,.slice none 0 0] 35)=W0 at *;have m0:=bX.c0;have m1:=bX.c1;have m2:=bX.c2;have m3:=bX.c3;have m4:=bY.c0;have m5:=bY.c1;have m6:=bY.c2;have m7:=bY.c3;have lX:=bX.lt;have lY:=bY.lt;have h0d:Ext W0 W0.drew:=qG (Ext.refl _)
 go_region_held3 (fun w'=>w'.cell? ⟨w.heap.size,0,none⟩=some (.bool b1)/\w'.cell? ⟨w.heap.size,1,none⟩=some (.slice a1 n1 c1)/\w'.cell? ⟨w.heap.size,2,none⟩=some (.bool b2)/\w'.cell? ⟨w.heap.size,3,none⟩=some (.slice a2 n2 c2)/\w'.cell? ⟨w.heap.size+1,0,none⟩=some (.bool b3)/\w'.cell? ⟨w.heap.size+1,1,none⟩=some (.slice a3 n3 c3)/\w'.cell? ⟨w.heap.size+1,2,none⟩=some (.bool b4)/\w'.cell? ⟨w.heap.size+1,3,none⟩=some (.slice a4 n4 c4))
  (exact ⟨by (repeat (refine cellPut (by omega) ?_));exact cellKeep (W:=W0) (by assumption) lX m0,by (repeat (refine cellPut (by omega) ?_));exact cellKeep (W:=W0) (by assumption) lX m1,by (repeat (refine cellPut (by omega) ?_));exact cellKeep (W:=W0) (by assumption) lX m2,by (repeat (refine cellPut (by omega) ?_));exact cellKeep (W:=W0) (by assumption) lX m3,by (repeat (refine cellPut (by omega) ?_));exact cellKeep (W:=W0) (by assumption) lY m4,by (repeat (refine cellPut (by omega) ?_));exact cellKeep (W:=W0) (by assumption) lY m5,by (repeat (refine cellPut (by omega) ?_));exact cellKeep (W:=W0) (by assumption) lY m6,by (repeat (refine cellPut (by omega) ?_));exact cellKeep (W:=W0) (by assumption) lY m7⟩)
  (first
   | (have _:=qv0;go_at_call 46;refine (FAdd_any b1 a1 n1 c1 b2 a2 n2 c2 sv0 ov0 mv0 jv0 b4 a4 n4 c4 P Q (-R) S _ (IA.ext hv0) (IB.ext hv0) Kv0 (ID.ext hv0) hn1 hn2 (by omega) hn4).mono ?_;rintro e v1 ⟨b9,a9,n9,c9,b8,a8,n8,c8,rfl,I9,I8,l9,l8,qv1⟩;have hv1:Ext W0 v1:=hv0.trans qv1;have R5:=bR.ext hv1;have k0:=R5.c0;have k1:=R5.c1;have k2:=R5.c2;have k3:=R5.c3;have f0:=R5.f 0;have f1:=R5.f 1;have f2:=R5.f 2;have f3:=R5.f 3)
   | (go_at_call 79;refine (ZNeg_any b3 a3 n3 c3 R _ (IC.ext (by assumption)) (by omega)).mono ?_;rintro e v0 ⟨sv0,ov0,mv0,jv0,rfl,Kv0,Lv0,qv0⟩;have hv0:Ext W0 v0:=Ext.trans (by assumption) qv0))
 have HI9:=Lh (I9.put4 R5 (.bool b9) (.slice a9 n9 c9) (.bool b8) (.slice a8 n8 c8));have HI8:=Lh (I8.put4 R5 (.bool b9) (.slice a9 n9 c9) (.bool b8) (.slice a8 n8 c8));clear I9 I8
 go_wp2_with fail
 exact qJ (v:=.agg #[.bool b9,.slice a9 n9 c9,.bool b8,.slice a8 n8 c8]) (by simp [results,Tryz.results39,go_sem,k0,k1,k2,k3]) rfl ⟨b9,a9,n9,c9,b8,a8,n8,c8,rfl,HI9.out,HI8.out,l9,l8,((hE.trans hv1).put2 (by omega) _ _).put2 (by omega) _ _⟩
theorem FMul_any (b1:Bool) (a1:Option Addr) (n1 c1:Nat) (b2:Bool) (a2:Option Addr) (n2 c2:Nat) (b3:Bool) (a3:Option Addr) (n3 c3:Nat) (b4:Bool) (a4:Option Addr) (n4 c4:Nat) (P Q R S:Int) (w:World) (h1:IsZ w b1 a1 n1 c1 P) (h2:IsZ w b2 a2 n2 c2 Q) (h3:IsZ w b3 a3 n3 c3 R) (h4:IsZ w b4 a4 n4 c4 S) (hn1:n1<=40000) (hn2:n2<=40000) (hn3:n3<=40000) (hn4:n4<=40000) :
  Calls Tryz.prog 40 #[.agg #[.bool b1,.slice a1 n1 c1,.bool b2,.slice a2 n2 c2],.agg #[.bool b3,.slice a3 n3 c3,.bool b4,.slice a4 n4 c4]] w (FRet w (nfp (P*R) (Q*S)) (nfq (P*R) (Q*S)) 100006):=by
 have hE:Ext w (((w.alloc (.cells #[.bool b1,.slice a1 n1 c1,.bool b2,.slice a2 n2 c2] 35)).alloc (.cells #[.bool b3,.slice a3 n3 c3,.bool b4,.slice a4 n4 c4] 35)).alloc (.cells #[.bool false,.slice none 0 0,.bool false,.slice none 0 0] 35)):=((ext_alloc w (.cells #[.bool b1,.slice a1 n1 c1,.bool b2,.slice a2 n2 c2] 35)).trans (ext_alloc _ (.cells #[.bool b3,.slice a3 n3 c3,.bool b4,.slice a4 n4 c4] 35))).trans (ext_alloc _ (.cells #[.bool false,.slice none 0 0,.bool false,.slice none 0 0] 35));have bX:=(fzbx_new w b1 a1 n1 c1 b2 a2 n2 c2).ext (ext_alloc _ (.cells #[.bool b3,.slice a3 n3 c3,.bool b4,.slice a4 n4 c4] 35));have bY:=fzbx_new (w.alloc (.cells #[.bool b1,.slice a1 n1 c1,.bool b2,.slice a2 n2 c2] 35)) b3 a3 n3 c3 b4 a4 n4 c4;rw [show (w.alloc (.cells #[.bool b1,.slice a1 n1 c1,.bool b2,.slice a2 n2 c2] 35)).heap.size=w.heap.size+1 from by simp] at bY;have bX:=bX.ext (ext_alloc _ (.cells #[.bool false,.slice none 0 0,.bool false,.slice none 0 0] 35));have bY:=bY.ext (ext_alloc _ (.cells #[.bool false,.slice none 0 0,.bool false,.slice none 0 0] 35));have bR:=fzbx_new ((w.alloc (.cells #[.bool b1,.slice a1 n1 c1,.bool b2,.slice a2 n2 c2] 35)).alloc (.cells #[.bool b3,.slice a3 n3 c3,.bool b4,.slice a4 n4 c4] 35)) false none 0 0 false none 0 0;rw [show ((w.alloc (.cells #[.bool b1,.slice a1 n1 c1,.bool b2,.slice a2 n2 c2] 35)).alloc (.cells #[.bool b3,.slice a3 n3 c3,.bool b4,.slice a4 n4 c4] 35)).heap.size=w.heap.size+1+1 from by simp] at bR;have IA:=h1.ext hE;have IB:=h2.ext hE;have IC:=h3.ext hE;have ID:=h4.ext hE;clear h1 h2 h3 h4
 go_enter Tryz.func40,Tryz.ntmps40
 go_wp2_with fail
 generalize ((w.alloc (.cells #[.bool b1,.slice a1 n1 c1,.bool b2,.slice a2 n2 c2] 35)).alloc (.cells #[.bool b3,.slice a3 n3 c3,.bool b4,.slice a4 n4 c4] 35)).alloc (.cells #[.bool false,.slice none 0 0,.bool false,.slice none 0 0] 35)=W0 at *;have m0:=bX.c0;have m1:=bX.c1;have m2:=bX.c2;have m3:=bX.c3;have m4:=bY.c0;have m5:=bY.c1;have m6:=bY.c2;have m7:=bY.c3;have lX:=bX.lt;have lY:=bY.lt;have h0d:Ext W0 W0.drew:=qG (Ext.refl _)
 go_region_held3 (fun w'=>w'.cell? ⟨w.heap.size,0,none⟩=some (.bool b1)/\w'.cell? ⟨w.heap.size,1,none⟩=some (.slice a1 n1 c1)/\w'.cell? ⟨w.heap.size,2,none⟩=some (.bool b2)/\w'.cell? ⟨w.heap.size,3,none⟩=some (.slice a2 n2 c2)/\w'.cell? ⟨w.heap.size+1,0,none⟩=some (.bool b3)/\w'.cell? ⟨w.heap.size+1,1,none⟩=some (.slice a3 n3 c3)/\w'.cell? ⟨w.heap.size+1,2,none⟩=some (.bool b4)/\w'.cell? ⟨w.heap.size+1,3,none⟩=some (.slice a4 n4 c4))
  (exact ⟨by (repeat (refine cellPut (by omega) ?_));exact cellKeep (W:=W0) (by assumption) lX m0,by (repeat (refine cellPut (by omega) ?_));exact cellKeep (W:=W0) (by assumption) lX m1,by (repeat (refine cellPut (by omega) ?_));exact cellKeep (W:=W0) (by assumption) lX m2,by (repeat (refine cellPut (by omega) ?_));exact cellKeep (W:=W0) (by assumption) lX m3,by (repeat (refine cellPut (by omega) ?_));exact cellKeep (W:=W0) (by assumption) lY m4,by (repeat (refine cellPut (by omega) ?_));exact cellKeep (W:=W0) (by assumption) lY m5,by (repeat (refine cellPut (by omega) ?_));exact cellKeep (W:=W0) (by assumption) lY m6,by (repeat (refine cellPut (by omega) ?_));exact cellKeep (W:=W0) (by assumption) lY m7⟩)
  (first
   | (have _:=qv1;go_at_call 29;refine (fover_any sv0 sv1 ov0 ov1 mv0 jv0 mv1 jv1 (P*R) (Q*S) _ (Kv0.ext qv1) Kv1 (by omega) (by omega)).mono ?_;rintro e v2 ⟨b9,a9,n9,c9,b8,a8,n8,c8,rfl,I9,I8,l9,l8,qv2⟩;have hv2:Ext W0 v2:=hv1.trans qv2;have R5:=bR.ext hv2;have k0:=R5.c0;have k1:=R5.c1;have k2:=R5.c2;have k3:=R5.c3;have f0:=R5.f 0;have f1:=R5.f 1;have f2:=R5.f 2;have f3:=R5.f 3)
   | (have _:=qv0;go_at_call 33;refine (ZMul_any b2 b4 a2 a4 n2 c2 n4 c4 Q S _ (IB.ext hv0) (ID.ext hv0) (by omega) (by omega)).mono ?_;rintro e v1 ⟨sv1,ov1,mv1,jv1,rfl,Kv1,Lv1,qv1⟩;have hv1:Ext W0 v1:=hv0.trans qv1)
   | (go_at_call 33;refine (ZMul_any b1 b3 a1 a3 n1 c1 n3 c3 P R _ (IA.ext (by assumption)) (IC.ext (by assumption)) (by omega) (by omega)).mono ?_;rintro e v0 ⟨sv0,ov0,mv0,jv0,rfl,Kv0,Lv0,qv0⟩;have hv0:Ext W0 v0:=Ext.trans (by assumption) qv0))
 have HI9:=Lh (I9.put4 R5 (.bool b9) (.slice a9 n9 c9) (.bool b8) (.slice a8 n8 c8));have HI8:=Lh (I8.put4 R5 (.bool b9) (.slice a9 n9 c9) (.bool b8) (.slice a8 n8 c8));clear I9 I8
 go_wp2_with fail
 exact qJ (v:=.agg #[.bool b9,.slice a9 n9 c9,.bool b8,.slice a8 n8 c8]) (by simp [results,Tryz.results40,go_sem,k0,k1,k2,k3]) rfl ⟨b9,a9,n9,c9,b8,a8,n8,c8,rfl,HI9.out,HI8.out,l9,l8,((hE.trans hv2).put2 (by omega) _ _).put2 (by omega) _ _⟩
theorem dcount_drop (l:List Nat) (g k:Nat) (h1:g<=k) (h2:k<=l.length) (h:∀ t,g<=t->t<k->isD (l.getD t 0)=true) (h3:k=l.length\/isD (l.getD k 0)=false):dcount (l.drop g)=k-g:=by
 refine dcount_of (l.drop g) (k-g) (by rw [qF];omega) (fun t ht=>?_) ?_
 ·rw [drop_getD];exact h (g+t) (by omega) (by omega)
 ·rcases h3 with h3 | h3
  ·left;rw [qF,h3]
  ·right;rw [drop_getD,show g+(k-g)=k by omega];exact h3
theorem scan_sign_nought (l:List Nat) (h:l.getD 0 0=45) (h0:l.getD 1 0=48):scanN l=(1,false):=by
 unfold scanN
 have hs:sgl l=1:=by unfold sgl;rw [qU h]
 rw [qE (by rw [h];simp),hs]
 have:spos (l.drop 1)=0:=by
  unfold spos;rw [qU (qO (by rw [drop_getD];exact h0))]
 rw [this];rfl
theorem scan_digits (l:List Nat) (k:Nat) (hg:sgl l<=k) (hk:k<=l.length) (h0:¬ (sgl l<l.length/\l.getD (sgl l) 0=48)) (h:∀ t,sgl l<=t->t<k->isD (l.getD t 0)=true) (h3:k=l.length\/isD (l.getD k 0)=false):scanN l=(k,decide (sgl l<k)):=by
 have hne:¬ (0<l.length/\l.getD 0 0=48):=by
  rintro ⟨q1,q2⟩
  apply h0
  have:sgl l=0:=by unfold sgl;rw [qE (by omega)]
  rw [this];exact ⟨q1,q2⟩
 unfold scanN;rw [qE hne]
 have hsp:spos (l.drop (sgl l))=k-sgl l:=by
  unfold spos
  by_cases hc:(l.drop (sgl l)).length=0\/(l.drop (sgl l)).getD 0 0=48
  ·rw [qU hc]
   rcases hc with hc | hc
   ·rw [qF] at hc;omega
   ·rw [drop_getD,Nat.add_zero] at hc
    have hlen:¬ sgl l<l.length:=fun q=>h0 ⟨q,hc⟩
    omega
  ·rw [qE hc];exact dcount_drop l (sgl l) k hg hk h h3
 rw [hsp]
 have e1:sgl l+(k-sgl l)=k:=by omega
 rw [e1]
 congr 1
 rw [yN];omega
theorem scan_nought (l:List Nat) (h1:0<l.length) (h:l.getD 0 0=48):scanN l=(1,true):=by unfold scanN;rw [qU ⟨h1,h⟩]
theorem digitsOf_any (s:ByteArray) (w:World) (hs:s.size<=9223372036854775807) :
  Calls Tryz.prog 27 #[.string s] w fun e w'=>e=.returned (.int .i64 ((s.size-sgl (bs s):Nat)))/\w=w':=by
 by_cases h0:s.size=0
 ·have e:=bs_nil s h0
  subst e
  go_enter Tryz.func27,Tryz.ntmps27
  go_wp2
  go_ret
  exact ⟨rfl,rfl⟩
 ·have hp:0<s.size:=by omega
  have hat:=bs_at s 0 hp
  have ip:(0:Int)<(s.size:Int):=by omega
  by_cases h45:(bs s).getD 0 0=45
  ·have hb:((s[0].toNat:Int) == 45)=true:=by rw [yY,hat];omega
   have Hg:Hid (sgl (bs s)=1):=by show _=_;unfold sgl;rw [qU h45]
   clear hat h45 h0
   go_enter Tryz.func27,Tryz.ntmps27
   go_wp2
   go_ret
   have e:((s.size-1:Nat):Int)=(s.size:Int)-1:=by omega
   exact ⟨by rw [Hg.out,e];rfl,rfl⟩
  ·have hb:((s[0].toNat:Int) == 45)=false:=by rw [qV,hat];omega
   have Hg:Hid (sgl (bs s)=0):=by show _=_;unfold sgl;rw [qE h45]
   clear hat h45 h0
   go_enter Tryz.func27,Tryz.ntmps27
   go_wp2
   go_ret
   exact ⟨by rw [Hg.out];rfl,rfl⟩
theorem word_any (s:ByteArray) (w:World) (hs:s.size<=9223372036854775807) :
  Calls Tryz.prog 26 #[.string s,.bool true,.bool true] w fun e w'=>e=.returned (.tuple #[.int .i64 ((scanN (bs s)).1:Nat),.bool (scanN (bs s)).2])/\w=w':=by
 by_cases h0:s.size=0
 ·have e:=bs_nil s h0
  subst e
  have hsc:scanN (bs ⟨#[]⟩)=(0,false):=by decide
  rw [hsc];clear hsc
  go_enter Tryz.func26,Tryz.ntmps26
  go_wp2
  go_loop [9] (fun i=>i=.int .i64 0) (fun _=>0)
  case atStart=>rfl
  case round =>
   subst hrel
   go_wp2
   go_ret2
   exact ⟨rfl,rfl⟩
 ·have hp:0<s.size:=by omega
  have ip:(0:Int)<(s.size:Int):=by omega
  have hat:=bs_at s 0 hp;have hlen:=bs_length s
  by_cases h45:(bs s).getD 0 0=45
  ·have hb:((s[0].toNat:Int) == 45)=true:=by rw [yY,hat];omega
   have hsg:sgl (bs s)=1:=by unfold sgl;rw [qU h45]
   by_cases h48:1<s.size/\(bs s).getD 1 0=48
   ·obtain ⟨h1,h2⟩:=h48
    have i1:(1:Int)<(s.size:Int):=by omega
    have hb1:((s[1].toNat:Int) == 48)=true:=by rw [yY,bs_at s 1 h1];omega
    have hsc:=scan_sign_nought _ h45 h2;rw [hsc];clear hat h45 h2 hsc hsg hlen
    go_enter Tryz.func26,Tryz.ntmps26
    go_wp2
    go_ret2
    exact ⟨rfl,rfl⟩
   ·have Hscan:Hid (∀ k,1<=k->k<=s.size->(∀ t,1<=t->t<k->isD ((bs s).getD t 0)=true)->(k=(bs s).length\/isD ((bs s).getD k 0)=false)->scanN (bs s)=(k,decide (1<k))):=by
     intro k q1 q2 q3 q4;have:=scan_digits (bs s) k (by rw [hsg];exact q1) (by rw [hlen];exact q2) (by rw [hsg,hlen];exact h48) (by rw [hsg];exact q3) q4
     rwa [hsg] at this
    have hcase:(¬ (1:Int)<(s.size:Int))\/(∃ h1:1<s.size,((s[1].toNat:Int) == 48)=false):=by
     by_cases h1:1<s.size
     ·right;refine ⟨h1,?_⟩
      rw [qV,bs_at s 1 h1];intro hc;exact h48 ⟨h1,by omega⟩
     ·left;omega
    clear hat h45 h48 hsg hlen
    rcases hcase with i1 | ⟨h1,hb1⟩
    ·go_enter Tryz.func26,Tryz.ntmps26
     go_wp2
     go_loop [9] (fun i=>∃ k:Nat,1<=k/\k<=s.size/\i=.int .i64 k/\∀ t,1<=t->t<k->isD ((bs s).getD t 0)=true) (fun i=>s.size-(intOf i).toNat)
     case atStart=>exact ⟨1,qZ _,by omega,rfl,fun t h1 h2=>by omega⟩
     case round =>
      obtain ⟨k,hgk,hk,rfl,hall⟩:=hrel;have Hall:=Lh hall;clear hall
      by_cases hlt:k<s.size
      ·have hat:=bs_at s k hlt
       have ik:(k:Int)<(s.size:Int):=by omega
       by_cases hdg:isD ((bs s).getD k 0)=true
       ·have hr:(48:Int)<=(s[k].toNat:Int)/\(s[k].toNat:Int)<=57:=by
         simp only [isD,jZ] at hdg;rw [hat];omega
        obtain ⟨g1,g2⟩:=hr;have Hdg:=Lh hdg;clear hat hdg
        go_wp2
        have hall:=Hall.out
        go_round
        case rel=>exact ⟨k+1,by omega,by omega,by go_num,fun t h1 h2=>by
         by_cases e:t=k
         ·rw [e];exact Hdg.out
         ·exact hall t h1 (by omega)⟩
        case measure=>simp [intOf];omega
       ·have Hsc:=Lh (Hscan.out k hgk hk Hall.out (qO (by simpa using hdg)))
        by_cases hlo:48<=s[k].toNat
        ·have g1:(48:Int)<=(s[k].toNat:Int):=by omega
         have g2:¬ (s[k].toNat:Int)<=57:=by
          simp only [isD,jZ] at hdg;rw [hat] at hlo ⊢;omega
         clear hat hdg hlo
         go_wp2
         go_ret2
         refine ⟨?_,rfl⟩;rw [Hsc.out]
         have ed:decide ((1:Int)<((k:Nat):Int))=decide (1<k):=by rw [yN];omega
         first | (show Ending.returned (.tuple #[.int .i64 ((k:Nat):Int),.bool (decide ((1:Int)<((k:Nat):Int)))])=.returned (.tuple #[.int .i64 ((k:Nat):Int),.bool (decide (1<k))]);rw [ed]) | rfl
        ·have g1:¬ (48:Int)<=(s[k].toNat:Int):=by omega
         clear hat hdg hlo
         go_wp2
         go_ret2
         refine ⟨?_,rfl⟩;rw [Hsc.out]
         have ed:decide ((1:Int)<((k:Nat):Int))=decide (1<k):=by rw [yN];omega
         first | (show Ending.returned (.tuple #[.int .i64 ((k:Nat):Int),.bool (decide ((1:Int)<((k:Nat):Int)))])=.returned (.tuple #[.int .i64 ((k:Nat):Int),.bool (decide (1<k))]);rw [ed]) | rfl
      ·obtain rfl:k=s.size:=by omega
       have Hsc:=Lh (Hscan.out _ hgk hk Hall.out (qM (bs_length s).symm))
       have ik:¬ (s.size:Int)<(s.size:Int):=by omega
       go_wp2
       go_ret2
       refine ⟨?_,rfl⟩;rw [Hsc.out]
       have ed:decide ((1:Int)<((s.size:Nat):Int))=decide (1<s.size):=by rw [yN];omega
       first | (show Ending.returned (.tuple #[.int .i64 ((s.size:Nat):Int),.bool (decide ((1:Int)<((s.size:Nat):Int)))])=.returned (.tuple #[.int .i64 ((s.size:Nat):Int),.bool (decide (1<s.size))]);rw [ed]) | (rw [jJ (by omega)];rfl)
    ·have i1:(1:Int)<(s.size:Int):=by omega
     go_enter Tryz.func26,Tryz.ntmps26
     go_wp2
     go_loop [9] (fun i=>∃ k:Nat,1<=k/\k<=s.size/\i=.int .i64 k/\∀ t,1<=t->t<k->isD ((bs s).getD t 0)=true) (fun i=>s.size-(intOf i).toNat)
     case atStart=>exact ⟨1,qZ _,by omega,rfl,fun t h1 h2=>by omega⟩
     case round =>
      obtain ⟨k,hgk,hk,rfl,hall⟩:=hrel;have Hall:=Lh hall;clear hall
      by_cases hlt:k<s.size
      ·have hat:=bs_at s k hlt
       have ik:(k:Int)<(s.size:Int):=by omega
       by_cases hdg:isD ((bs s).getD k 0)=true
       ·have hr:(48:Int)<=(s[k].toNat:Int)/\(s[k].toNat:Int)<=57:=by
         simp only [isD,jZ] at hdg;rw [hat];omega
        obtain ⟨g1,g2⟩:=hr;have Hdg:=Lh hdg;clear hat hdg
        go_wp2
        have hall:=Hall.out
        go_round
        case rel=>exact ⟨k+1,by omega,by omega,by go_num,fun t h1 h2=>by
         by_cases e:t=k
         ·rw [e];exact Hdg.out
         ·exact hall t h1 (by omega)⟩
        case measure=>simp [intOf];omega
       ·have Hsc:=Lh (Hscan.out k hgk hk Hall.out (qO (by simpa using hdg)))
        by_cases hlo:48<=s[k].toNat
        ·have g1:(48:Int)<=(s[k].toNat:Int):=by omega
         have g2:¬ (s[k].toNat:Int)<=57:=by
          simp only [isD,jZ] at hdg;rw [hat] at hlo ⊢;omega
         clear hat hdg hlo
         go_wp2
         go_ret2
         refine ⟨?_,rfl⟩;rw [Hsc.out]
         have ed:decide ((1:Int)<((k:Nat):Int))=decide (1<k):=by rw [yN];omega
         first | (show Ending.returned (.tuple #[.int .i64 ((k:Nat):Int),.bool (decide ((1:Int)<((k:Nat):Int)))])=.returned (.tuple #[.int .i64 ((k:Nat):Int),.bool (decide (1<k))]);rw [ed]) | rfl
        ·have g1:¬ (48:Int)<=(s[k].toNat:Int):=by omega
         clear hat hdg hlo
         go_wp2
         go_ret2
         refine ⟨?_,rfl⟩;rw [Hsc.out]
         have ed:decide ((1:Int)<((k:Nat):Int))=decide (1<k):=by rw [yN];omega
         first | (show Ending.returned (.tuple #[.int .i64 ((k:Nat):Int),.bool (decide ((1:Int)<((k:Nat):Int)))])=.returned (.tuple #[.int .i64 ((k:Nat):Int),.bool (decide (1<k))]);rw [ed]) | rfl
      ·obtain rfl:k=s.size:=by omega
       have Hsc:=Lh (Hscan.out _ hgk hk Hall.out (qM (bs_length s).symm))
       have ik:¬ (s.size:Int)<(s.size:Int):=by omega
       go_wp2
       go_ret2
       refine ⟨?_,rfl⟩;rw [Hsc.out]
       have ed:decide ((1:Int)<((s.size:Nat):Int))=decide (1<s.size):=by rw [yN];omega
       first | (show Ending.returned (.tuple #[.int .i64 ((s.size:Nat):Int),.bool (decide ((1:Int)<((s.size:Nat):Int)))])=.returned (.tuple #[.int .i64 ((s.size:Nat):Int),.bool (decide (1<s.size))]);rw [ed]) | (rw [jJ (by omega)];rfl)
  ·have hb:((s[0].toNat:Int) == 45)=false:=by rw [qV,hat];omega
   have hsg:sgl (bs s)=0:=by unfold sgl;rw [qE h45]
   by_cases h48:(bs s).getD 0 0=48
   ·have hb1:((s[0].toNat:Int) == 48)=true:=by rw [yY,hat];omega
    have hsc:=scan_nought (bs s) (by omega) h48;rw [hsc];clear hat h45 h48 hsc hsg hlen
    go_enter Tryz.func26,Tryz.ntmps26
    go_wp2
    go_ret2
    exact ⟨rfl,rfl⟩
   ·have hb1:((s[0].toNat:Int) == 48)=false:=by rw [qV,hat];omega
    have Hscan:Hid (∀ k,0<=k->k<=s.size->(∀ t,0<=t->t<k->isD ((bs s).getD t 0)=true)->(k=(bs s).length\/isD ((bs s).getD k 0)=false)->scanN (bs s)=(k,decide (0<k))):=by
     intro k q1 q2 q3 q4;have:=scan_digits (bs s) k (by rw [hsg];exact q1) (by rw [hlen];exact q2) (by rw [hsg];exact fun h=>h48 h.2) (by rw [hsg];exact q3) q4
     rwa [hsg] at this
    clear hat h45 h48 hsg hlen
    go_enter Tryz.func26,Tryz.ntmps26
    go_wp2
    go_loop [9] (fun i=>∃ k:Nat,0<=k/\k<=s.size/\i=.int .i64 k/\∀ t,0<=t->t<k->isD ((bs s).getD t 0)=true) (fun i=>s.size-(intOf i).toNat)
    case atStart=>exact ⟨0,qZ _,by omega,rfl,fun t h1 h2=>by omega⟩
    case round =>
     obtain ⟨k,hgk,hk,rfl,hall⟩:=hrel;have Hall:=Lh hall;clear hall
     by_cases hlt:k<s.size
     ·have hat:=bs_at s k hlt
      have ik:(k:Int)<(s.size:Int):=by omega
      by_cases hdg:isD ((bs s).getD k 0)=true
      ·have hr:(48:Int)<=(s[k].toNat:Int)/\(s[k].toNat:Int)<=57:=by
        simp only [isD,jZ] at hdg;rw [hat];omega
       obtain ⟨g1,g2⟩:=hr;have Hdg:=Lh hdg;clear hat hdg
       go_wp2
       have hall:=Hall.out
       go_round
       case rel=>exact ⟨k+1,by omega,by omega,by go_num,fun t h1 h2=>by
        by_cases e:t=k
        ·rw [e];exact Hdg.out
        ·exact hall t h1 (by omega)⟩
       case measure=>simp [intOf];omega
      ·have Hsc:=Lh (Hscan.out k hgk hk Hall.out (qO (by simpa using hdg)))
       by_cases hlo:48<=s[k].toNat
       ·have g1:(48:Int)<=(s[k].toNat:Int):=by omega
        have g2:¬ (s[k].toNat:Int)<=57:=by
         simp only [isD,jZ] at hdg;rw [hat] at hlo ⊢;omega
        clear hat hdg hlo
        go_wp2
        go_ret2
        refine ⟨?_,rfl⟩;rw [Hsc.out]
        have ed:decide ((0:Int)<((k:Nat):Int))=decide (0<k):=by rw [yN];omega
        first | (show Ending.returned (.tuple #[.int .i64 ((k:Nat):Int),.bool (decide ((0:Int)<((k:Nat):Int)))])=.returned (.tuple #[.int .i64 ((k:Nat):Int),.bool (decide (0<k))]);rw [ed]) | rfl
       ·have g1:¬ (48:Int)<=(s[k].toNat:Int):=by omega
        clear hat hdg hlo
        go_wp2
        go_ret2
        refine ⟨?_,rfl⟩;rw [Hsc.out]
        have ed:decide ((0:Int)<((k:Nat):Int))=decide (0<k):=by rw [yN];omega
        first | (show Ending.returned (.tuple #[.int .i64 ((k:Nat):Int),.bool (decide ((0:Int)<((k:Nat):Int)))])=.returned (.tuple #[.int .i64 ((k:Nat):Int),.bool (decide (0<k))]);rw [ed]) | rfl
     ·obtain rfl:k=s.size:=by omega
      have Hsc:=Lh (Hscan.out _ hgk hk Hall.out (qM (bs_length s).symm))
      have ik:¬ (s.size:Int)<(s.size:Int):=by omega
      go_wp2
      go_ret2
      refine ⟨?_,rfl⟩;rw [Hsc.out]
      have ed:decide ((0:Int)<((s.size:Nat):Int))=decide (0<s.size):=by rw [yN];omega
      first | (show Ending.returned (.tuple #[.int .i64 ((s.size:Nat):Int),.bool (decide ((0:Int)<((s.size:Nat):Int)))])=.returned (.tuple #[.int .i64 ((s.size:Nat):Int),.bool (decide (0<s.size))]);rw [ed]) | (rw [jJ (by omega)];rfl)
theorem word_ff (s:ByteArray) (w:World) (hs:s.size<=9223372036854775807) :
  Calls Tryz.prog 26 #[.string s,.bool false,.bool false] w fun e w'=>e=.returned (.tuple #[.int .i64 (spos (bs s):Nat),.bool (decide (0<spos (bs s)))])/\w=w':=by
 by_cases h0:s.size=0
 ·have e:=bs_nil s h0
  subst e
  have hsc:spos (bs ⟨#[]⟩)=0:=by decide
  rw [hsc];clear hsc
  go_enter Tryz.func26,Tryz.ntmps26
  go_wp2
  go_loop [9] (fun i=>i=.int .i64 0) (fun _=>0)
  case atStart=>rfl
  case round =>
   subst hrel
   go_wp2
   go_ret2
   exact ⟨rfl,rfl⟩
 ·have hp:0<s.size:=by omega
  have ip:(0:Int)<(s.size:Int):=by omega
  have hat:=bs_at s 0 hp;have hlen:=bs_length s
  by_cases h48:(bs s).getD 0 0=48
  ·have hb:((s[0].toNat:Int) == 48)=true:=by rw [yY,hat];omega
   have hsc:spos (bs s)=0:=by unfold spos;rw [qU (qO h48)]
   rw [hsc];clear hat h48 hsc hlen
   go_enter Tryz.func26,Tryz.ntmps26
   go_wp2
   go_ret2
   exact ⟨rfl,rfl⟩
  ·have hb:((s[0].toNat:Int) == 48)=false:=by rw [qV,hat];omega
   have Hscan:Hid (∀ k,k<=s.size->(∀ t,t<k->isD ((bs s).getD t 0)=true)->(k=(bs s).length\/isD ((bs s).getD k 0)=false)->spos (bs s)=k):=by
    intro k q2 q3 q4;have:=dcount_of (bs s) k (by rw [hlen];exact q2) q3 q4;unfold spos;rw [qE (by rw [hlen];exact fun h=>h.elim (fun e=>h0 e) (fun e=>h48 e)),this]
   clear hat h48 hlen
   go_enter Tryz.func26,Tryz.ntmps26
   go_wp2
   go_loop [9] (fun i=>∃ k:Nat,k<=s.size/\i=.int .i64 k/\∀ t,t<k->isD ((bs s).getD t 0)=true) (fun i=>s.size-(intOf i).toNat)
   case atStart=>exact ⟨0,qI _,rfl,fun t h1=>by omega⟩
   case round =>
    obtain ⟨k,hk,rfl,hall⟩:=hrel;have Hall:=Lh hall;clear hall
    by_cases hlt:k<s.size
    ·have hat:=bs_at s k hlt
     have ik:(k:Int)<(s.size:Int):=by omega
     by_cases hdg:isD ((bs s).getD k 0)=true
     ·have hr:(48:Int)<=(s[k].toNat:Int)/\(s[k].toNat:Int)<=57:=by
       simp only [isD,jZ] at hdg;rw [hat];omega
      obtain ⟨g1,g2⟩:=hr;have Hdg:=Lh hdg;clear hat hdg
      go_wp2
      have hall:=Hall.out
      go_round
      case rel=>exact ⟨k+1,by omega,by go_num,fun t h2=>by
       by_cases e:t=k
       ·rw [e];exact Hdg.out
       ·exact hall t (by omega)⟩
      case measure=>simp [intOf];omega
     ·have Hsc:=Lh (Hscan.out k hk Hall.out (qO (by simpa using hdg)))
      by_cases hlo:48<=s[k].toNat
      ·have g1:(48:Int)<=(s[k].toNat:Int):=by omega
       have g2:¬ (s[k].toNat:Int)<=57:=by
        simp only [isD,jZ] at hdg;rw [hat] at hlo ⊢;omega
       clear hat hdg hlo
       go_wp2
       go_ret2
       refine ⟨?_,rfl⟩;rw [Hsc.out]
       simp
      ·have g1:¬ (48:Int)<=(s[k].toNat:Int):=by omega
       clear hat hdg hlo
       go_wp2
       go_ret2
       refine ⟨?_,rfl⟩;rw [Hsc.out]
       simp
    ·obtain rfl:k=s.size:=by omega
     have Hsc:=Lh (Hscan.out _ hk Hall.out (qM (bs_length s).symm))
     have ik:¬ (s.size:Int)<(s.size:Int):=by omega
     go_wp2
     go_ret2
     refine ⟨?_,rfl⟩;rw [Hsc.out]
     simp
     exact hp
end Go.Proofs.YtjfomkoedgipjaaGreatDoor
