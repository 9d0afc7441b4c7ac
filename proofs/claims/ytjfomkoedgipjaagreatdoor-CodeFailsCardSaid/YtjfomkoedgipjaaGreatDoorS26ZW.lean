/-
  The reference's numbers: ZDiv. The reference's numbers: ZGcd.
-/
import Derived.BigRegion
import Derived.Test.YtjfomkoedgipjaaGreatDoorS25ZU
namespace Go.Proofs.YtjfomkoedgipjaaGreatDoor
set_option maxRecDepth 100000
set_option maxHeartbeats 4000000
open Go.RowKit
theorem zdiv_signs {neg1 neg2:Bool} {V B Q R:Nat} (h:Q*B+R=V) (hR:R<B) :
  (¬ (neg1=true/\0<R)->(if neg1 then -(V:Int) else (V:Int))=(if (!(neg1 == neg2)) then -(Q:Int) else (Q:Int))*(if neg2 then -(B:Int) else (B:Int))+(R:Int)) /\
  ((neg1=true/\0<R)->(if neg1 then -(V:Int) else (V:Int))=(if (!(neg1 == neg2)) then -((Q+1:Nat):Int) else ((Q+1:Nat):Int))*(if neg2 then -(B:Int) else (B:Int))+((B-R:Nat):Int)):=by
 have hV:(V:Int)=(Q:Int)*(B:Int)+(R:Int):=by rw [<-h];push_cast;rfl
 have hS:(((Q+1:Nat):Int))*(B:Int)=(Q:Int)*(B:Int)+(B:Int):=by push_cast;rw [Int.add_mul,Int.one_mul]
 refine ⟨fun hn=>?_,fun hy=>?_⟩
 ·cases neg1
  ·cases neg2
   ·simp;omega
   ·simp [Int.neg_mul,Int.mul_neg];omega
  ·have hR0:R=0:=by
    apply yB
    intro e;exact hn ⟨rfl,by omega⟩
   cases neg2
   ·simp [Int.neg_mul];omega
   ·simp [Int.mul_neg];omega
 ·obtain ⟨rfl,hp⟩:=hy
  have hsub:((B-R:Nat):Int)=(B:Int)-(R:Int):=by omega
  rw [hsub];generalize ((Q+1:Nat):Int)=Q1 at *
  cases neg2
  ·simp [Int.neg_mul];omega
  ·simp [Int.mul_neg];omega
structure DBx (w W:World) (b1 b2:Bool) (a1 a2:Option Addr) (n1 c1 n2 c2:Nat):Prop where
 ext:Ext w W
 size:W.heap.size=w.heap.size+1+1+1+1+1
 bA:ZBx W w.heap.size b1 a1 n1 c1
 bB:ZBx W (w.heap.size+1) b2 a2 n2 c2
 rq:ZRes W (w.heap.size+1+1)
 rr:ZRes W (w.heap.size+1+1+1)
 rf:W.heap[w.heap.size+1+1+1+1]?=some (.cells #[.int .i64 0,.int .i64 0] 26 (0,0))
theorem dbx_new (w:World) (b1 b2:Bool) (a1 a2:Option Addr) (n1 c1 n2 c2:Nat):DBx w (((((w.alloc (.cells #[.bool b1,.slice a1 n1 c1] 33)).alloc (.cells #[.bool b2,.slice a2 n2 c2] 33)).alloc (.cells #[.bool false,.slice none 0 0] 33)).alloc (.cells #[.bool false,.slice none 0 0] 33)).alloc (.cells #[.int .i64 0,.int .i64 0] 26)) b1 b2 a1 a2 n1 c1 n2 c2:=by
 have e1:∀ (W:World) (o:Obj),(W.alloc o).heap.size=W.heap.size+1:=fun W o=>by simp
 refine ⟨((((ext_alloc _ _).trans (ext_alloc _ _)).trans (ext_alloc _ _)).trans (ext_alloc _ _)).trans (ext_alloc _ _),by simp,?_,?_,?_,?_,?_⟩
 ·exact ((((zbx_new w b1 a1 n1 c1).ext (ext_alloc _ _)).ext (ext_alloc _ _)).ext (ext_alloc _ _)).ext (ext_alloc _ _)
 ·have h:=zbx_new (w.alloc (.cells #[.bool b1,.slice a1 n1 c1] 33)) b2 a2 n2 c2
  rw [e1] at h;exact ((h.ext (ext_alloc _ _)).ext (ext_alloc _ _)).ext (ext_alloc _ _)
 ·have h:=zres_new ((w.alloc (.cells #[.bool b1,.slice a1 n1 c1] 33)).alloc (.cells #[.bool b2,.slice a2 n2 c2] 33))
  rw [e1,e1] at h;exact (h.ext (ext_alloc _ _)).ext (ext_alloc _ _)
 ·have h:=zres_new (((w.alloc (.cells #[.bool b1,.slice a1 n1 c1] 33)).alloc (.cells #[.bool b2,.slice a2 n2 c2] 33)).alloc (.cells #[.bool false,.slice none 0 0] 33))
  rw [e1,e1,e1] at h;exact h.ext (ext_alloc _ _)
 ·have h:=qW ((((w.alloc (.cells #[.bool b1,.slice a1 n1 c1] 33)).alloc (.cells #[.bool b2,.slice a2 n2 c2] 33)).alloc (.cells #[.bool false,.slice none 0 0] 33)).alloc (.cells #[.bool false,.slice none 0 0] 33)) (.cells #[.int .i64 0,.int .i64 0] 26)
  rw [e1,e1,e1,e1] at h;exact h
structure DS (W2:World) (U Rb:Nat) (Q:List Nat) (wr:World) (br:Bool) (ar:Option Addr) (m cr:Nat) (z:Int):Prop where
 row:IRow wr (U+1) Q
 box:ZBx wr Rb br ar m cr
 num:IsZ wr br ar m cr z
 ext:Ext W2 wr
theorem DS.up {W2:World} {U Rb:Nat} {Q:List Nat} {wr w':World} {br:Bool} {ar:Option Addr} {m cr:Nat} {z:Int} (h:DS W2 U Rb Q wr br ar m cr z) (k:Ext wr w'):DS W2 U Rb Q w' br ar m cr z:=⟨h.row.ext k,h.box.ext k,h.num.ext k,h.ext.trans k⟩
theorem DS.put {W2:World} {U Rb:Nat} {Q:List Nat} {wr:World} {br:Bool} {ar:Option Addr} {m cr:Nat} {z:Int} (h:DS W2 U Rb Q wr br ar m cr z) (hlt:U+1<Rb/\W2.heap.size<=Rb) {b':Bool} {a':Option Addr} {m' c':Nat} {z':Int} (hI:IsZ wr b' a' m' c' z') :
  DS W2 U Rb Q ((wr.setCell ⟨Rb,0,none⟩ (.bool b')).setCell ⟨Rb,1,none⟩ (.slice a' m' c')) b' a' m' c' z':=by
 have hO:Only Rb wr ((wr.setCell ⟨Rb,0,none⟩ (.bool b')).setCell ⟨Rb,1,none⟩ (.slice a' m' c')):=((Only.refl _ _).setCell _ _).setCell _ _;refine ⟨?_,h.box.own _ _ _ _,hI.keepRes h.box.row _ _,zput2 h.ext hlt.2 _ _⟩;obtain ⟨e,hr⟩:=h.row;exact ⟨e,(hO.block _ (by omega)).trans hr⟩
theorem DS.digit {W2:World} {U Rb:Nat} {Q:List Nat} {wr:World} {br:Bool} {ar:Option Addr} {m cr:Nat} {z:Int} (h:DS W2 U Rb Q wr br ar m cr z) (hlt:U+1<Rb/\W2.heap.size<=U+1) (ha:∀ a,ar=some a->a.block≠U+1) (j x:Nat) :
  DS W2 U Rb (Q.set j x) (wr.setCell ⟨U+1,j,none⟩ (.int .i64 (x:Nat))) br ar m cr z:=by
 have hO:Only (U+1) wr (wr.setCell ⟨U+1,j,none⟩ (.int .i64 (x:Nat))):=(Only.refl _ _).setCell _ _;exact ⟨h.row.set j x,⟨(hO.block _ (by omega)).trans h.box.row⟩,h.num.far hO ha,yD h.ext hlt.2 _⟩
theorem DS.putZ {W2:World} {U Rb Zb:Nat} {Q:List Nat} {wr:World} {br:Bool} {ar:Option Addr} {m cr:Nat} {z:Int} (h:DS W2 U Rb Q wr br ar m cr z) {b a n c} (hz:ZBx wr Zb b a n c) (hlt:U+1<Rb/\Rb<Zb/\W2.heap.size<=Zb) (b':Bool) (a':Option Addr) (m' c':Nat) :
  DS W2 U Rb Q ((wr.setCell ⟨Zb,0,none⟩ (.bool b')).setCell ⟨Zb,1,none⟩ (.slice a' m' c')) br ar m cr z:=by
 have hO:Only Zb wr ((wr.setCell ⟨Zb,0,none⟩ (.bool b')).setCell ⟨Zb,1,none⟩ (.slice a' m' c')):=((Only.refl _ _).setCell _ _).setCell _ _;refine ⟨?_,⟨(hO.block _ (by omega)).trans h.box.row⟩,h.num.keepRes hz.row _ _,zput2 h.ext hlt.2.2 _ _⟩;obtain ⟨e,hr⟩:=h.row;exact ⟨e,(hO.block _ (by omega)).trans hr⟩
theorem ZBx.putR {wr:World} {Rb Zb:Nat} {b:Bool} {a:Option Addr} {n c:Nat} (hz:ZBx wr Zb b a n c) (hne:Zb≠Rb) (u v:Value):ZBx ((wr.setCell ⟨Rb,0,none⟩ u).setCell ⟨Rb,1,none⟩ v) Zb b a n c:=by
 have hO:Only Rb wr ((wr.setCell ⟨Rb,0,none⟩ u).setCell ⟨Rb,1,none⟩ v):=((Only.refl _ _).setCell _ _).setCell _ _;exact ⟨(hO.block _ hne).trans hz.row⟩
theorem IsZ.keep3 {W:World} {g1 g2 g3:Nat} {T:TypeId} {neg:Bool} {ao:Option Addr} {n c:Nat} {z:Int} (h:IsZ W neg ao n c z) (hq:ZRes W g1) (hr:ZRes W g2) (hf:W.heap[g3]?=some (.cells #[.int .i64 0,.int .i64 0] T (0,0))) (hne:g1≠g2/\g1≠g3/\g2≠g3) (u0 u1 v0 v1:Value) :
  IsZ ((((((W.setCell ⟨g1,0,none⟩ u0).setCell ⟨g1,1,none⟩ u1).setCell ⟨g2,0,none⟩ v0).setCell ⟨g2,1,none⟩ v1).setCell ⟨g3,0,none⟩ (.int .i64 0)).setCell ⟨g3,1,none⟩ (.int .i64 0)) neg ao n c z:=by
 have hO1:Only g1 W ((W.setCell ⟨g1,0,none⟩ u0).setCell ⟨g1,1,none⟩ u1):=((Only.refl _ _).setCell _ _).setCell _ _;have hO2:Only g2 ((W.setCell ⟨g1,0,none⟩ u0).setCell ⟨g1,1,none⟩ u1) ((((W.setCell ⟨g1,0,none⟩ u0).setCell ⟨g1,1,none⟩ u1).setCell ⟨g2,0,none⟩ v0).setCell ⟨g2,1,none⟩ v1):=((Only.refl _ _).setCell _ _).setCell _ _;have h1:=h.keepRes hq.row u0 u1;have h2:=h1.keepRes ((hO1.block g2 (Ne.symm hne.1)).trans hr.row) v0 v1;exact h2.keepFault ((hO2.block g3 (Ne.symm hne.2.2)).trans ((hO1.block g3 (Ne.symm hne.2.1)).trans hf))
theorem fcell0 {W:World} {g:Nat} {T:TypeId} (h:W.heap[g]?=some (.cells #[.int .i64 0,.int .i64 0] T (0,0))):W.cell? ⟨g,0,none⟩=some (.int .i64 0):=by rw [qD W g 0 _ _ (0,0) h];rfl
theorem fcell1 {W:World} {g:Nat} {T:TypeId} (h:W.heap[g]?=some (.cells #[.int .i64 0,.int .i64 0] T (0,0))):W.cell? ⟨g,1,none⟩=some (.int .i64 0):=by rw [qD W g 1 _ _ (0,0) h];rfl
theorem ffroz {W:World} {g:Nat} {T:TypeId} (o:Nat) (h:W.heap[g]?=some (.cells #[.int .i64 0,.int .i64 0] T (0,0))):W.frozen? ⟨g,o,none⟩=false:=jQ W g o _ _ h
def ZDivs (w:World) (z1 z2:Int) (n1 n2:Nat) (e:Ending) (w':World):Prop :=
 ∃ (b3:Bool) (a3:Option Addr) (n3 c3:Nat) (b4:Bool) (a4:Option Addr) (n4 c4:Nat) (q r:Int),e=.returned (.tuple #[.agg #[.bool b3,.slice a3 n3 c3],.agg #[.bool b4,.slice a4 n4 c4],.agg #[.int .i64 0,.int .i64 0]])/\IsZ w' b3 a3 n3 c3 q/\IsZ w' b4 a4 n4 c4 r/\z1=q*z2+r/\0<=r/\r<z2.natAbs/\n3<=n1+6/\n4<=n2/\Ext w w'
theorem ZDiv_any (b1 b2:Bool) (a1 a2:Option Addr) (n1 c1 n2 c2:Nat) (z1 z2:Int) (w:World) (h1:IsZ w b1 a1 n1 c1 z1) (h2:IsZ w b2 a2 n2 c2 z2) (hn1:n1<=300000) (hn2:n2<=300000) (hz:z2≠0) :
  Calls Tryz.prog 118 #[.agg #[.bool b1,.slice a1 n1 c1],.agg #[.bool b2,.slice a2 n2 c2]] w (ZDivs w z1 z2 n1 n2):=by
 have hzi:=h2.zero_iff
 have hn0:n2≠0:=fun e=>hz (Int.natAbs_eq_zero.1 (hzi.1.1 e))
 obtain ⟨la,p1,p2,p3,p4,p5,p6,p7,p8,p9⟩:=h1.abs;obtain ⟨lb,q1,q2,q3,q4,q5,q6,q7,q8,q9⟩:=h2.abs;obtain ⟨B,hB⟩:∃ B,zval lb=B:=⟨_,rfl⟩
 have hB0:0<B:=by rw [<-hB,<-q7];omega
 have hBl:B<10000 ^ n2:=by rw [<-hB,<-q7];exact hzi.2
 have HB0:=Lh hB0;have HBl:=Lh hBl;have hD:=dbx_new w b1 b2 a1 a2 n1 c1 n2 c2;have Hu:=Lh (fun wx (hx:Ext w wx)=>zmade_any false a2 lb n2 c2 wx q1 (q4.ext hx) q5 q2 q3 (by omega) (B:Int) (by rw [hB];rfl))
 have hib:((n2:Int) == 0)=false:=by rw [qV];omega
 have hA:n1=0\/∃ b o,a1=some ⟨b,o,none⟩:=by
  by_cases h0:n1=0
  ·exact qM h0
  ·exact qO (p4.some_of (by omega))
 have P1:=Lh p1;have P4:=Lh p4;have P5:=Lh p5;have P8:=Lh p8;have Q8:=Lh q8;have HB:=Lh hB;have Q7:=Lh q7;have x1:=hD.bA.c1;have y1:=hD.bB.c1;clear p1 p2 p3 p4 p5 p6 p7 p8 p9 q1 q2 q3 q4 q5 q6 q7 q8 q9 hB h1 h2 hzi hB0 hBl hz hn0
 go_enter Tryz.func118,Tryz.ntmps118
 go_wp2_with fail
 generalize ((((w.alloc (.cells #[.bool b1,.slice a1 n1 c1] 33)).alloc (.cells #[.bool b2,.slice a2 n2 c2] 33)).alloc (.cells #[.bool false,.slice none 0 0] 33)).alloc (.cells #[.bool false,.slice none 0 0] 33)).alloc (.cells #[.int .i64 0,.int .i64 0] 26)=WB at *;refine (Hu.out _ hD.ext).mono ?_;rintro e w1 ⟨bu,au,nu,cu,rfl,hIu,hnu,hx1⟩;have hEu:=ext_alloc w1 (.cells #[.bool bu,.slice au nu cu] 33);have bU:=zbx_new w1 bu au nu cu;have IU:=hIu.ext hEu;have hEW:=hx1.trans hEu;have x2:=zKeep hEW hD.bA.lt x1;clear x1 y1
 go_wp2_with (at_make;refine wpList_make_irow _ rfl _ _ rfl _ _ _ _ n1 rfl rfl (by omega) (by omega) (by omega) ?_;intro w3 hr3 he3 hz3;have x3:=zKeep he3 (hD.bA.ext hEW).lt x2;have x4:=zKeep (ext_alloc w3 (.cells #[.bool false,.slice none 0 0] 33)) (hD.bA.ext (hEW.trans he3)).lt x3)
 have hW2:(w1.alloc (.cells #[.bool bu,.slice au nu cu] 33)).heap.size=w1.heap.size+1:=by simp
 have bR:=zbx_new w3 false none 0 0;have hE34:=ext_alloc w3 (.cells #[.bool false,.slice none 0 0] 33);rw [hW2] at hr3 hz3;generalize w1.alloc (.cells #[.bool bu,.slice au nu cu] 33)=W2 at *;generalize w3.alloc (.cells #[.bool false,.slice none 0 0] 33)=W4 at *;have D0:DS W2 w1.heap.size w3.heap.size (List.replicate n1 0) W4 false none 0 0 0:=⟨hr3.ext hE34,bR,IsZ.zero _,he3.trans hE34⟩;have Hlt:Hid (w1.heap.size+1<w3.heap.size/\W2.heap.size=w1.heap.size+1):=⟨hz3,hW2⟩;have HDE:=Lh (hD.ext.trans hEW);have bA2:=hD.bA.ext hEW;have bB2:=hD.bB.ext hEW;have rq2:=hD.rq.ext hEW;have rr2:=hD.rr.ext hEW;have rf2:W2.heap[w.heap.size+1+1+1+1]?=some (.cells #[.int .i64 0,.int .i64 0] 26 (0,0)):=(hEW.block _ (by rw [hD.size];omega)).trans hD.rf;have lF2:w.heap.size+1+1+1+1<W2.heap.size:=(gS.1 rf2).1;generalize w1.heap.size=U at *;generalize w3.heap.size=Rb at *;have HlF:=Lh lF2;clear hr3 hz3 bR hE34 he3 x2 x3 x4 hW2 hD hEW hx1 hEu hIu lF2
 go_loopw [10] (fun iv wr=>∃ (k:Nat) (Q:List Nat) (R:Nat) (br:Bool) (ar:Option Addr) (m cr:Nat),k<=n1/\iv=.int .i64 ((k:Int)-1)/\Q.length=n1/\ZD Q/\DS W2 U Rb Q wr br ar m cr (R:Int)/\R<B/\zval (Q.drop k)*B+R=zval (la.drop k)) (fun iv _=>(intOf iv+1).toNat)
 case atStart=>exact ⟨n1,List.replicate n1 0,0,false,none,0,0,qZ _,by go_num,by simp,ZD.replicate _,D0,HB0.out,by rw [yE (by simp),yE (by rw [P1.out];exact qZ _)];simp [zval]⟩
 case round =>
  clear D0;obtain ⟨k,Q,R,br,ar,m,cr,hk,rfl,hQ,hdQ,hD,hRB,hinv⟩:=hrel;have HQ:=Lh hQ;have HdQ:=Lh hdQ;have HD:=Lh hD;have HRB:=Lh hRB;have Hinv:=Lh hinv;clear hQ hdQ hRB hinv;have ca1:=zKeep hD.ext bA2.lt bA2.c1;have r1:=hD.box.c1
  by_cases hk0:k=0
  ·subst hk0
   have hv:zval Q*B+R=zval la:=by have:=Hinv.out;rwa [List.drop_zero,List.drop_zero] at this
   have Hsg:=Lh (zdiv_signs (neg1:=b1) (neg2:=b2) hv HRB.out);have Hm:=Lh (fun wx (hx:IRow wx (U+1) Q)=>zmade_any false (some ⟨U+1,0,none⟩) Q n1 n1 wx HQ.out hx.seg HdQ.out (qZ _) (by unfold maxLen;omega) (by omega) (zval Q:Int) rfl)
   have HQv:Hid (zval Q<10000 ^ n1):=by
    show _<_
    have h1:=zval_lt HdQ.out;rw [HQ.out] at h1;exact h1
   have hRz:=hD.num.zero_iff.1;have hmn:m<=n2:=hD.num.len_of (by have:=HBl.out;have:=HRB.out;simp;omega);obtain ⟨qv,hqv⟩:∃ qv,zval Q=qv:=⟨_,rfl⟩;rw [hqv] at Hsg Hm HQv;have HRz:=Lh hRz;obtain ⟨bq,ebq⟩:∃ bq,(!(b1 == b2))=bq:=⟨_,rfl⟩;rw [ebq] at Hsg;clear hv hqv hRz
   go_wp2_with fail
   refine (Hm.out _ HD.out.row).mono ?_;rintro e w5 ⟨b5,a5,n5,c5,rfl,hI5,hn5,hx5⟩;have bZ:=zbx_new w5 b5 a5 n5 c5;have hEz:=ext_alloc w5 (.cells #[.bool b5,.slice a5 n5 c5] 33);have I5:=hI5.ext hEz;have D6:=HD.out.up (hx5.trans hEz);have HEz:=Lh (HD.out.ext.trans (hx5.trans hEz));have o0:=zKeep HEz.out bA2.lt bA2.c0;have o1:=D6.box.c1;clear ca1 r1
   have HZb:Hid (Rb<w5.heap.size):=by show _<_;have:=(HD.out.up hx5).box.lt;omega
   by_cases hcase:b1=true/\0<R
   ·obtain ⟨rfl,hR0⟩:=hcase
    cases b2
    ·obtain rfl:bq=true:=by rw [<-ebq];rfl
     have Heq:=Lh (Hsg.out.2 ⟨rfl,hR0⟩);have hmp:0<m:=Nat.pos_of_ne_zero (fun e=>by have:=HRz.out.1 e;simp at this;omega)
     have im:(0:Int)<(m:Int):=by omega
     have HO1:=Lh (fun wx=>ZOf_any 1 (by decide) (by decide) wx);clear hmp
     go_wp2_with fail
     generalize w5.alloc (.cells #[.bool b5,.slice a5 n5 c5] 33)=W6 at *;generalize w5.heap.size=Zb at *;have z0':=bZ.c0;have z1':=bZ.c1;have lZ0:=bZ.lt;have h6d:Ext W6 W6.drew:=qG (Ext.refl _);have HD6:=Lh D6;clear D6 o0 o1
     go_region_law (first
      | (have _:=qv0;go_simp;go_at_call 81;refine (ZAdd_any b5 sv0 a5 ov0 n5 c5 mv0 jv0 (qv:Int) 1 v0 (I5.ext hv0) Kv0 (by omega) (by omega)).mono ?_;rintro e v1 ⟨sv1,ov1,mv1,jv1,rfl,Kv1,Lv1,qv1⟩;have hv1:Ext W6 v1:=hv0.trans qv1;have bZ1:=bZ.ext hv1;have u0:=bZ1.c0;have u1:=bZ1.c1;have f0:=bZ1.f 0;have f1:=bZ1.f 1;go_wp2_with fail)
      | (go_simp;go_at_call 8;refine (HO1.out _).mono ?_;rintro e v0 ⟨sv0,ov0,mv0,jv0,rfl,Kv0,Lv0,qv0⟩;have hv0:Ext W6 v0:=Ext.trans (by assumption) qv0;have y0:=zKeep hv0 lZ0 z0';have y1:=zKeep hv0 lZ0 z1';go_wp2_with fail))
     all_goals
      have D8:=(HD6.out.up hv1).putZ bZ1 ⟨Hlt.out.1,HZb.out,by have h1:=Hlt.out;have h2:=HZb.out;omega⟩ sv1 ov1 mv1 jv1;have bZ:=bZ1.own sv1 ov1 mv1 jv1;have I8:=Kv1.keepRes bZ1.row (.bool sv1) (.slice ov1 mv1 jv1);clear bZ1 u0 u1 f0 f1 z0' z1' lZ0;generalize (v1.setCell ⟨Zb,0,none⟩ (.bool sv1)).setCell ⟨Zb,1,none⟩ (.slice ov1 mv1 jv1)=W8 at *;have s0:=zKeep D8.ext bU.lt bU.c0;have s1:=zKeep D8.ext bU.lt bU.c1;have s2:=D8.box.c0;have s3:=D8.box.c1
      go_wp2_with fail
      refine (ZSub_any bu br au ar nu cu m cr (B:Int) (R:Int) W8 (IU.ext D8.ext) D8.num (by omega) (by omega)).mono ?_;rintro e W9 ⟨b8,a8,n8,c8,rfl,hI8,hn8,hx8⟩;have D9:=D8.up hx8;have u0:=D9.box.c0;have u1:=D9.box.c1;have f0:=D9.box.f 0;have f1:=D9.box.f 1;have D10:=D9.put ⟨Hlt.out.1,by have:=Hlt.out;omega⟩ (hI8.cast (show (B:Int)-(R:Int)=((B-R:Nat):Int) by have:=HRB.out;omega));have bZ:=(bZ.ext hx8).putR (Rb:=Rb) (by have:=HZb.out;omega) (.bool b8) (.slice a8 n8 c8);have I9:=(I8.ext hx8).keepRes D9.box.row (.bool b8) (.slice a8 n8 c8);have I9:=I9.cast (show (qv:Int)+1=((qv+1:Nat):Int) by omega)
      go_wp2_with fail
      clear u0 u1 f0 f1 s0 s1 s2 s3 D9 D8;generalize (W9.setCell ⟨Rb,0,none⟩ (.bool b8)).setCell ⟨Rb,1,none⟩ (.slice a8 n8 c8)=W10 at *;have hn8':n8<=n2:=D10.num.len_of (by have:=HBl.out;simp;omega);have t0:=zKeep D10.ext bA2.lt bA2.c0;have t1:=zKeep D10.ext bB2.lt bB2.c0;have t2:=bZ.c1;have t3:=D10.box.c0;have t4:=D10.box.c1;have lA:=qK bA2.lt D10.ext.size;have lB:=qK bB2.lt D10.ext.size;have lZ:=bZ.lt;have lR:=D10.box.lt;have hWd:Ext W10 W10.drew:=qG (Ext.refl _);have HEW:=Lh (HDE.out.trans D10.ext);have HIz:=Lh I9;have HIr:=Lh D10.num;obtain ⟨lz,z1,z2',z3,z4,z5,z6,z7,z8,z9⟩:=(I9).abs;have Hm9:=Lh (fun wx (hx:Ext W10 wx)=>zmade_any true ov1 lz mv1 jv1 wx z1 (z4.ext hx) z5 z2' z3 (by omega) (if true=true then -(((qv+1:Nat)):Int) else (((qv+1:Nat)):Int)) (by rw [<-z7,Int.natAbs_natCast]));have rq3:=rq2.ext D10.ext;have rr3:=rr2.ext D10.ext;have rf3:W10.heap[w.heap.size+1+1+1+1]?=some (.cells #[.int .i64 0,.int .i64 0] 26 (0,0)):=(D10.ext.block _ HlF.out).trans rf2;have lF3:w.heap.size+1+1+1+1<W10.heap.size:=(gS.1 rf3).1
      have nZ:w.heap.size+1+1+1+1<Zb/\w.heap.size+1+1+1+1<Rb:=by have h1:=Hlt.out;have h2:=HlF.out;have h3:=HZb.out;omega
      obtain ⟨nZ1,nZ2⟩:=nZ;clear z1 z2' z3 z4 z5 z6 z7 z8 z9
      go_region_held3 (fun w'=>w'.cell? ⟨w.heap.size,0,none⟩=some (.bool true)/\w'.cell? ⟨w.heap.size+1,0,none⟩=some (.bool false)/\w'.cell? ⟨Zb,1,none⟩=some (.slice ov1 mv1 jv1)/\w'.cell? ⟨Rb,0,none⟩=some (.bool b8)/\w'.cell? ⟨Rb,1,none⟩=some (.slice a8 n8 c8))
       (refine ⟨?_,?_,?_,?_,?_⟩<;>(repeat (refine zPut (by omega) ?_))<;>exact zKeep (W:=W10) (by assumption) (by omega) (by assumption))
       (first | (go_at_call 30;refine (Hm9.out _ (by assumption)).mono ?_;rintro e w9 ⟨b9,a9,n9,c9,rfl,hI9,hn9,hx9⟩;have h9:Ext W10 w9:=Ext.trans (by assumption) hx9;have rq9:=rq3.ext h9;have rr9:=rr3.ext h9;have k0:=rq9.c0;have k1:=rq9.c1;have k2:=rr9.c0;have k3:=rr9.c1;have f0:=rq9.f 0;have f1:=rq9.f 1;have f2:=rr9.f 0;have f3:=rr9.f 1;have rf9:=(h9.block _ lF3).trans rf3;have k4:=fcell0 rf9;have k5:=fcell1 rf9;have f4:=ffroz 0 rf9;have f5:=ffroz 1 rf9))
      go_wp2_with fail
      exact qJ (v:=.tuple #[.agg #[.bool b9,.slice a9 n9 c9],.agg #[.bool b8,.slice a8 n8 c8],.agg #[.int .i64 0,.int .i64 0]]) (by simp [results,Tryz.results118,go_sem,k0,k1,k2,k3,k4,k5]) rfl ⟨b9,a9,n9,c9,b8,a8,n8,c8,_,((B-R:Nat):Int),rfl,hI9.keep3 rq9 rr9 rf9 ⟨by omega,by omega,by omega⟩ _ _ _ _,(HIr.out.ext h9).keep3 rq9 rr9 rf9 ⟨by omega,by omega,by omega⟩ _ _ _ _,by rw [P8.out,Q8.out,HB.out];exact Heq.out,by omega,by rw [Q7.out,HB.out];have:=HRB.out;omega,by omega,by omega,zput2 (zput2 (zput2 (HEW.out.trans h9) (by omega) _ _) (by omega) _ _) (by omega) _ _⟩
    ·obtain rfl:bq=false:=by rw [<-ebq];rfl
     have Heq:=Lh (Hsg.out.2 ⟨rfl,hR0⟩);have hmp:0<m:=Nat.pos_of_ne_zero (fun e=>by have:=HRz.out.1 e;simp at this;omega)
     have im:(0:Int)<(m:Int):=by omega
     have HO1:=Lh (fun wx=>ZOf_any 1 (by decide) (by decide) wx);clear hmp
     go_wp2_with fail
     generalize w5.alloc (.cells #[.bool b5,.slice a5 n5 c5] 33)=W6 at *;generalize w5.heap.size=Zb at *;have z0':=bZ.c0;have z1':=bZ.c1;have lZ0:=bZ.lt;have h6d:Ext W6 W6.drew:=qG (Ext.refl _);have HD6:=Lh D6;clear D6 o0 o1
     go_region_law (first
      | (have _:=qv0;go_simp;go_at_call 81;refine (ZAdd_any b5 sv0 a5 ov0 n5 c5 mv0 jv0 (qv:Int) 1 v0 (I5.ext hv0) Kv0 (by omega) (by omega)).mono ?_;rintro e v1 ⟨sv1,ov1,mv1,jv1,rfl,Kv1,Lv1,qv1⟩;have hv1:Ext W6 v1:=hv0.trans qv1;have bZ1:=bZ.ext hv1;have u0:=bZ1.c0;have u1:=bZ1.c1;have f0:=bZ1.f 0;have f1:=bZ1.f 1;go_wp2_with fail)
      | (go_simp;go_at_call 8;refine (HO1.out _).mono ?_;rintro e v0 ⟨sv0,ov0,mv0,jv0,rfl,Kv0,Lv0,qv0⟩;have hv0:Ext W6 v0:=Ext.trans (by assumption) qv0;have y0:=zKeep hv0 lZ0 z0';have y1:=zKeep hv0 lZ0 z1';go_wp2_with fail))
     all_goals
      have D8:=(HD6.out.up hv1).putZ bZ1 ⟨Hlt.out.1,HZb.out,by have h1:=Hlt.out;have h2:=HZb.out;omega⟩ sv1 ov1 mv1 jv1;have bZ:=bZ1.own sv1 ov1 mv1 jv1;have I8:=Kv1.keepRes bZ1.row (.bool sv1) (.slice ov1 mv1 jv1);clear bZ1 u0 u1 f0 f1 z0' z1' lZ0;generalize (v1.setCell ⟨Zb,0,none⟩ (.bool sv1)).setCell ⟨Zb,1,none⟩ (.slice ov1 mv1 jv1)=W8 at *;have s0:=zKeep D8.ext bU.lt bU.c0;have s1:=zKeep D8.ext bU.lt bU.c1;have s2:=D8.box.c0;have s3:=D8.box.c1
      go_wp2_with fail
      refine (ZSub_any bu br au ar nu cu m cr (B:Int) (R:Int) W8 (IU.ext D8.ext) D8.num (by omega) (by omega)).mono ?_;rintro e W9 ⟨b8,a8,n8,c8,rfl,hI8,hn8,hx8⟩;have D9:=D8.up hx8;have u0:=D9.box.c0;have u1:=D9.box.c1;have f0:=D9.box.f 0;have f1:=D9.box.f 1;have D10:=D9.put ⟨Hlt.out.1,by have:=Hlt.out;omega⟩ (hI8.cast (show (B:Int)-(R:Int)=((B-R:Nat):Int) by have:=HRB.out;omega));have bZ:=(bZ.ext hx8).putR (Rb:=Rb) (by have:=HZb.out;omega) (.bool b8) (.slice a8 n8 c8);have I9:=(I8.ext hx8).keepRes D9.box.row (.bool b8) (.slice a8 n8 c8);have I9:=I9.cast (show (qv:Int)+1=((qv+1:Nat):Int) by omega)
      go_wp2_with fail
      clear u0 u1 f0 f1 s0 s1 s2 s3 D9 D8;generalize (W9.setCell ⟨Rb,0,none⟩ (.bool b8)).setCell ⟨Rb,1,none⟩ (.slice a8 n8 c8)=W10 at *;have hn8':n8<=n2:=D10.num.len_of (by have:=HBl.out;simp;omega);have t0:=zKeep D10.ext bA2.lt bA2.c0;have t1:=zKeep D10.ext bB2.lt bB2.c0;have t2:=bZ.c1;have t3:=D10.box.c0;have t4:=D10.box.c1;have lA:=qK bA2.lt D10.ext.size;have lB:=qK bB2.lt D10.ext.size;have lZ:=bZ.lt;have lR:=D10.box.lt;have hWd:Ext W10 W10.drew:=qG (Ext.refl _);have HEW:=Lh (HDE.out.trans D10.ext);have HIz:=Lh I9;have HIr:=Lh D10.num;obtain ⟨lz,z1,z2',z3,z4,z5,z6,z7,z8,z9⟩:=(I9).abs;have Hm9:=Lh (fun wx (hx:Ext W10 wx)=>zmade_any false ov1 lz mv1 jv1 wx z1 (z4.ext hx) z5 z2' z3 (by omega) (if false=true then -(((qv+1:Nat)):Int) else (((qv+1:Nat)):Int)) (by rw [<-z7,Int.natAbs_natCast]));have rq3:=rq2.ext D10.ext;have rr3:=rr2.ext D10.ext;have rf3:W10.heap[w.heap.size+1+1+1+1]?=some (.cells #[.int .i64 0,.int .i64 0] 26 (0,0)):=(D10.ext.block _ HlF.out).trans rf2;have lF3:w.heap.size+1+1+1+1<W10.heap.size:=(gS.1 rf3).1
      have nZ:w.heap.size+1+1+1+1<Zb/\w.heap.size+1+1+1+1<Rb:=by have h1:=Hlt.out;have h2:=HlF.out;have h3:=HZb.out;omega
      obtain ⟨nZ1,nZ2⟩:=nZ;clear z1 z2' z3 z4 z5 z6 z7 z8 z9
      go_region_held3 (fun w'=>w'.cell? ⟨w.heap.size,0,none⟩=some (.bool true)/\w'.cell? ⟨w.heap.size+1,0,none⟩=some (.bool true)/\w'.cell? ⟨Zb,1,none⟩=some (.slice ov1 mv1 jv1)/\w'.cell? ⟨Rb,0,none⟩=some (.bool b8)/\w'.cell? ⟨Rb,1,none⟩=some (.slice a8 n8 c8))
       (refine ⟨?_,?_,?_,?_,?_⟩<;>(repeat (refine zPut (by omega) ?_))<;>exact zKeep (W:=W10) (by assumption) (by omega) (by assumption))
       (first | (go_at_call 30;refine (Hm9.out _ (by assumption)).mono ?_;rintro e w9 ⟨b9,a9,n9,c9,rfl,hI9,hn9,hx9⟩;have h9:Ext W10 w9:=Ext.trans (by assumption) hx9;have rq9:=rq3.ext h9;have rr9:=rr3.ext h9;have k0:=rq9.c0;have k1:=rq9.c1;have k2:=rr9.c0;have k3:=rr9.c1;have f0:=rq9.f 0;have f1:=rq9.f 1;have f2:=rr9.f 0;have f3:=rr9.f 1;have rf9:=(h9.block _ lF3).trans rf3;have k4:=fcell0 rf9;have k5:=fcell1 rf9;have f4:=ffroz 0 rf9;have f5:=ffroz 1 rf9))
      go_wp2_with fail
      exact qJ (v:=.tuple #[.agg #[.bool b9,.slice a9 n9 c9],.agg #[.bool b8,.slice a8 n8 c8],.agg #[.int .i64 0,.int .i64 0]]) (by simp [results,Tryz.results118,go_sem,k0,k1,k2,k3,k4,k5]) rfl ⟨b9,a9,n9,c9,b8,a8,n8,c8,_,((B-R:Nat):Int),rfl,hI9.keep3 rq9 rr9 rf9 ⟨by omega,by omega,by omega⟩ _ _ _ _,(HIr.out.ext h9).keep3 rq9 rr9 rf9 ⟨by omega,by omega,by omega⟩ _ _ _ _,by rw [P8.out,Q8.out,HB.out];exact Heq.out,by omega,by rw [Q7.out,HB.out];have:=HRB.out;omega,by omega,by omega,zput2 (zput2 (zput2 (HEW.out.trans h9) (by omega) _ _) (by omega) _ _) (by omega) _ _⟩
   ·have hd:decide (0<R)=false\/b1=false:=by
     cases b1
     ·exact qO rfl
     ·left
      rw [decide_eq_false_iff_not]
      exact fun h=>hcase ⟨rfl,h⟩
    have Heq:=Lh (Hsg.out.1 hcase)
    have hm0:b1=false\/(b1=true/\m=0):=by
     cases b1
     ·exact qM rfl
     ·refine qO ⟨rfl,HRz.out.2 ?_⟩
      have:¬ 0<R:=fun h=>hcase ⟨rfl,h⟩
      simp;omega
    clear hcase hd
    rcases hm0 with rfl | ⟨rfl,rfl⟩
    ·cases b2
     ·obtain rfl:bq=false:=by rw [<-ebq];rfl
      go_wp2_with fail
      generalize w5.alloc (.cells #[.bool b5,.slice a5 n5 c5] 33)=W6 at *;generalize w5.heap.size=Zb at *;clear o0 o1;have t0:=zKeep D6.ext bA2.lt bA2.c0;have t1:=zKeep D6.ext bB2.lt bB2.c0;have t2:=bZ.c1;have t3:=D6.box.c0;have t4:=D6.box.c1;have lA:=qK bA2.lt D6.ext.size;have lB:=qK bB2.lt D6.ext.size;have lZ:=bZ.lt;have lR:=D6.box.lt;have hWd:Ext W6 W6.drew:=qG (Ext.refl _);have HEW:=Lh (HDE.out.trans D6.ext);have HIz:=Lh I5;have HIr:=Lh D6.num;obtain ⟨lz,z1,z2',z3,z4,z5,z6,z7,z8,z9⟩:=(I5).abs;have Hm9:=Lh (fun wx (hx:Ext W6 wx)=>zmade_any false a5 lz n5 c5 wx z1 (z4.ext hx) z5 z2' z3 (by omega) (if false=true then -(qv:Int) else (qv:Int)) (by rw [<-z7,Int.natAbs_natCast]));have rq3:=rq2.ext D6.ext;have rr3:=rr2.ext D6.ext;have rf3:W6.heap[w.heap.size+1+1+1+1]?=some (.cells #[.int .i64 0,.int .i64 0] 26 (0,0)):=(D6.ext.block _ HlF.out).trans rf2;have lF3:w.heap.size+1+1+1+1<W6.heap.size:=(gS.1 rf3).1
      have nZ:w.heap.size+1+1+1+1<Zb/\w.heap.size+1+1+1+1<Rb:=by have h1:=Hlt.out;have h2:=HlF.out;have h3:=HZb.out;omega
      obtain ⟨nZ1,nZ2⟩:=nZ;clear z1 z2' z3 z4 z5 z6 z7 z8 z9
      go_region_held3 (fun w'=>w'.cell? ⟨w.heap.size,0,none⟩=some (.bool false)/\w'.cell? ⟨w.heap.size+1,0,none⟩=some (.bool false)/\w'.cell? ⟨Zb,1,none⟩=some (.slice a5 n5 c5)/\w'.cell? ⟨Rb,0,none⟩=some (.bool br)/\w'.cell? ⟨Rb,1,none⟩=some (.slice ar m cr))
       (refine ⟨?_,?_,?_,?_,?_⟩<;>(repeat (refine zPut (by omega) ?_))<;>exact zKeep (W:=W6) (by assumption) (by omega) (by assumption))
       (first | (go_at_call 30;refine (Hm9.out _ (by assumption)).mono ?_;rintro e w9 ⟨b9,a9,n9,c9,rfl,hI9,hn9,hx9⟩;have h9:Ext W6 w9:=Ext.trans (by assumption) hx9;have rq9:=rq3.ext h9;have rr9:=rr3.ext h9;have k0:=rq9.c0;have k1:=rq9.c1;have k2:=rr9.c0;have k3:=rr9.c1;have f0:=rq9.f 0;have f1:=rq9.f 1;have f2:=rr9.f 0;have f3:=rr9.f 1;have rf9:=(h9.block _ lF3).trans rf3;have k4:=fcell0 rf9;have k5:=fcell1 rf9;have f4:=ffroz 0 rf9;have f5:=ffroz 1 rf9))
      go_wp2_with fail
      exact qJ (v:=.tuple #[.agg #[.bool b9,.slice a9 n9 c9],.agg #[.bool br,.slice ar m cr],.agg #[.int .i64 0,.int .i64 0]]) (by simp [results,Tryz.results118,go_sem,k0,k1,k2,k3,k4,k5]) rfl ⟨b9,a9,n9,c9,br,ar,m,cr,_,(R:Int),rfl,hI9.keep3 rq9 rr9 rf9 ⟨by omega,by omega,by omega⟩ _ _ _ _,(HIr.out.ext h9).keep3 rq9 rr9 rf9 ⟨by omega,by omega,by omega⟩ _ _ _ _,by rw [P8.out,Q8.out,HB.out];exact Heq.out,by omega,by rw [Q7.out,HB.out];have:=HRB.out;omega,by omega,by omega,zput2 (zput2 (zput2 (HEW.out.trans h9) (by omega) _ _) (by omega) _ _) (by omega) _ _⟩
     ·obtain rfl:bq=true:=by rw [<-ebq];rfl
      go_wp2_with fail
      generalize w5.alloc (.cells #[.bool b5,.slice a5 n5 c5] 33)=W6 at *;generalize w5.heap.size=Zb at *;clear o0 o1;have t0:=zKeep D6.ext bA2.lt bA2.c0;have t1:=zKeep D6.ext bB2.lt bB2.c0;have t2:=bZ.c1;have t3:=D6.box.c0;have t4:=D6.box.c1;have lA:=qK bA2.lt D6.ext.size;have lB:=qK bB2.lt D6.ext.size;have lZ:=bZ.lt;have lR:=D6.box.lt;have hWd:Ext W6 W6.drew:=qG (Ext.refl _);have HEW:=Lh (HDE.out.trans D6.ext);have HIz:=Lh I5;have HIr:=Lh D6.num;obtain ⟨lz,z1,z2',z3,z4,z5,z6,z7,z8,z9⟩:=(I5).abs;have Hm9:=Lh (fun wx (hx:Ext W6 wx)=>zmade_any true a5 lz n5 c5 wx z1 (z4.ext hx) z5 z2' z3 (by omega) (if true=true then -(qv:Int) else (qv:Int)) (by rw [<-z7,Int.natAbs_natCast]));have rq3:=rq2.ext D6.ext;have rr3:=rr2.ext D6.ext;have rf3:W6.heap[w.heap.size+1+1+1+1]?=some (.cells #[.int .i64 0,.int .i64 0] 26 (0,0)):=(D6.ext.block _ HlF.out).trans rf2;have lF3:w.heap.size+1+1+1+1<W6.heap.size:=(gS.1 rf3).1
      have nZ:w.heap.size+1+1+1+1<Zb/\w.heap.size+1+1+1+1<Rb:=by have h1:=Hlt.out;have h2:=HlF.out;have h3:=HZb.out;omega
      obtain ⟨nZ1,nZ2⟩:=nZ;clear z1 z2' z3 z4 z5 z6 z7 z8 z9
      go_region_held3 (fun w'=>w'.cell? ⟨w.heap.size,0,none⟩=some (.bool false)/\w'.cell? ⟨w.heap.size+1,0,none⟩=some (.bool true)/\w'.cell? ⟨Zb,1,none⟩=some (.slice a5 n5 c5)/\w'.cell? ⟨Rb,0,none⟩=some (.bool br)/\w'.cell? ⟨Rb,1,none⟩=some (.slice ar m cr))
       (refine ⟨?_,?_,?_,?_,?_⟩<;>(repeat (refine zPut (by omega) ?_))<;>exact zKeep (W:=W6) (by assumption) (by omega) (by assumption))
       (first | (go_at_call 30;refine (Hm9.out _ (by assumption)).mono ?_;rintro e w9 ⟨b9,a9,n9,c9,rfl,hI9,hn9,hx9⟩;have h9:Ext W6 w9:=Ext.trans (by assumption) hx9;have rq9:=rq3.ext h9;have rr9:=rr3.ext h9;have k0:=rq9.c0;have k1:=rq9.c1;have k2:=rr9.c0;have k3:=rr9.c1;have f0:=rq9.f 0;have f1:=rq9.f 1;have f2:=rr9.f 0;have f3:=rr9.f 1;have rf9:=(h9.block _ lF3).trans rf3;have k4:=fcell0 rf9;have k5:=fcell1 rf9;have f4:=ffroz 0 rf9;have f5:=ffroz 1 rf9))
      go_wp2_with fail
      exact qJ (v:=.tuple #[.agg #[.bool b9,.slice a9 n9 c9],.agg #[.bool br,.slice ar m cr],.agg #[.int .i64 0,.int .i64 0]]) (by simp [results,Tryz.results118,go_sem,k0,k1,k2,k3,k4,k5]) rfl ⟨b9,a9,n9,c9,br,ar,m,cr,_,(R:Int),rfl,hI9.keep3 rq9 rr9 rf9 ⟨by omega,by omega,by omega⟩ _ _ _ _,(HIr.out.ext h9).keep3 rq9 rr9 rf9 ⟨by omega,by omega,by omega⟩ _ _ _ _,by rw [P8.out,Q8.out,HB.out];exact Heq.out,by omega,by rw [Q7.out,HB.out];have:=HRB.out;omega,by omega,by omega,zput2 (zput2 (zput2 (HEW.out.trans h9) (by omega) _ _) (by omega) _ _) (by omega) _ _⟩
    ·cases b2
     ·obtain rfl:bq=true:=by rw [<-ebq];rfl
      go_wp2_with fail
      generalize w5.alloc (.cells #[.bool b5,.slice a5 n5 c5] 33)=W6 at *;generalize w5.heap.size=Zb at *;clear o0 o1;have t0:=zKeep D6.ext bA2.lt bA2.c0;have t1:=zKeep D6.ext bB2.lt bB2.c0;have t2:=bZ.c1;have t3:=D6.box.c0;have t4:=D6.box.c1;have lA:=qK bA2.lt D6.ext.size;have lB:=qK bB2.lt D6.ext.size;have lZ:=bZ.lt;have lR:=D6.box.lt;have hWd:Ext W6 W6.drew:=qG (Ext.refl _);have HEW:=Lh (HDE.out.trans D6.ext);have HIz:=Lh I5;have HIr:=Lh D6.num;obtain ⟨lz,z1,z2',z3,z4,z5,z6,z7,z8,z9⟩:=(I5).abs;have Hm9:=Lh (fun wx (hx:Ext W6 wx)=>zmade_any true a5 lz n5 c5 wx z1 (z4.ext hx) z5 z2' z3 (by omega) (if true=true then -(qv:Int) else (qv:Int)) (by rw [<-z7,Int.natAbs_natCast]));have rq3:=rq2.ext D6.ext;have rr3:=rr2.ext D6.ext;have rf3:W6.heap[w.heap.size+1+1+1+1]?=some (.cells #[.int .i64 0,.int .i64 0] 26 (0,0)):=(D6.ext.block _ HlF.out).trans rf2;have lF3:w.heap.size+1+1+1+1<W6.heap.size:=(gS.1 rf3).1
      have nZ:w.heap.size+1+1+1+1<Zb/\w.heap.size+1+1+1+1<Rb:=by have h1:=Hlt.out;have h2:=HlF.out;have h3:=HZb.out;omega
      obtain ⟨nZ1,nZ2⟩:=nZ;clear z1 z2' z3 z4 z5 z6 z7 z8 z9
      go_region_held3 (fun w'=>w'.cell? ⟨w.heap.size,0,none⟩=some (.bool true)/\w'.cell? ⟨w.heap.size+1,0,none⟩=some (.bool false)/\w'.cell? ⟨Zb,1,none⟩=some (.slice a5 n5 c5)/\w'.cell? ⟨Rb,0,none⟩=some (.bool br)/\w'.cell? ⟨Rb,1,none⟩=some (.slice ar 0 cr))
       (refine ⟨?_,?_,?_,?_,?_⟩<;>(repeat (refine zPut (by omega) ?_))<;>exact zKeep (W:=W6) (by assumption) (by omega) (by assumption))
       (first | (go_at_call 30;refine (Hm9.out _ (by assumption)).mono ?_;rintro e w9 ⟨b9,a9,n9,c9,rfl,hI9,hn9,hx9⟩;have h9:Ext W6 w9:=Ext.trans (by assumption) hx9;have rq9:=rq3.ext h9;have rr9:=rr3.ext h9;have k0:=rq9.c0;have k1:=rq9.c1;have k2:=rr9.c0;have k3:=rr9.c1;have f0:=rq9.f 0;have f1:=rq9.f 1;have f2:=rr9.f 0;have f3:=rr9.f 1;have rf9:=(h9.block _ lF3).trans rf3;have k4:=fcell0 rf9;have k5:=fcell1 rf9;have f4:=ffroz 0 rf9;have f5:=ffroz 1 rf9))
      go_wp2_with fail
      exact qJ (v:=.tuple #[.agg #[.bool b9,.slice a9 n9 c9],.agg #[.bool br,.slice ar 0 cr],.agg #[.int .i64 0,.int .i64 0]]) (by simp [results,Tryz.results118,go_sem,k0,k1,k2,k3,k4,k5]) rfl ⟨b9,a9,n9,c9,br,ar,0,cr,_,(R:Int),rfl,hI9.keep3 rq9 rr9 rf9 ⟨by omega,by omega,by omega⟩ _ _ _ _,(HIr.out.ext h9).keep3 rq9 rr9 rf9 ⟨by omega,by omega,by omega⟩ _ _ _ _,by rw [P8.out,Q8.out,HB.out];exact Heq.out,by omega,by rw [Q7.out,HB.out];have:=HRB.out;omega,by omega,by omega,zput2 (zput2 (zput2 (HEW.out.trans h9) (by omega) _ _) (by omega) _ _) (by omega) _ _⟩
     ·obtain rfl:bq=false:=by rw [<-ebq];rfl
      go_wp2_with fail
      generalize w5.alloc (.cells #[.bool b5,.slice a5 n5 c5] 33)=W6 at *;generalize w5.heap.size=Zb at *;clear o0 o1;have t0:=zKeep D6.ext bA2.lt bA2.c0;have t1:=zKeep D6.ext bB2.lt bB2.c0;have t2:=bZ.c1;have t3:=D6.box.c0;have t4:=D6.box.c1;have lA:=qK bA2.lt D6.ext.size;have lB:=qK bB2.lt D6.ext.size;have lZ:=bZ.lt;have lR:=D6.box.lt;have hWd:Ext W6 W6.drew:=qG (Ext.refl _);have HEW:=Lh (HDE.out.trans D6.ext);have HIz:=Lh I5;have HIr:=Lh D6.num;obtain ⟨lz,z1,z2',z3,z4,z5,z6,z7,z8,z9⟩:=(I5).abs;have Hm9:=Lh (fun wx (hx:Ext W6 wx)=>zmade_any false a5 lz n5 c5 wx z1 (z4.ext hx) z5 z2' z3 (by omega) (if false=true then -(qv:Int) else (qv:Int)) (by rw [<-z7,Int.natAbs_natCast]));have rq3:=rq2.ext D6.ext;have rr3:=rr2.ext D6.ext;have rf3:W6.heap[w.heap.size+1+1+1+1]?=some (.cells #[.int .i64 0,.int .i64 0] 26 (0,0)):=(D6.ext.block _ HlF.out).trans rf2;have lF3:w.heap.size+1+1+1+1<W6.heap.size:=(gS.1 rf3).1
      have nZ:w.heap.size+1+1+1+1<Zb/\w.heap.size+1+1+1+1<Rb:=by have h1:=Hlt.out;have h2:=HlF.out;have h3:=HZb.out;omega
      obtain ⟨nZ1,nZ2⟩:=nZ;clear z1 z2' z3 z4 z5 z6 z7 z8 z9
      go_region_held3 (fun w'=>w'.cell? ⟨w.heap.size,0,none⟩=some (.bool true)/\w'.cell? ⟨w.heap.size+1,0,none⟩=some (.bool true)/\w'.cell? ⟨Zb,1,none⟩=some (.slice a5 n5 c5)/\w'.cell? ⟨Rb,0,none⟩=some (.bool br)/\w'.cell? ⟨Rb,1,none⟩=some (.slice ar 0 cr))
       (refine ⟨?_,?_,?_,?_,?_⟩<;>(repeat (refine zPut (by omega) ?_))<;>exact zKeep (W:=W6) (by assumption) (by omega) (by assumption))
       (first | (go_at_call 30;refine (Hm9.out _ (by assumption)).mono ?_;rintro e w9 ⟨b9,a9,n9,c9,rfl,hI9,hn9,hx9⟩;have h9:Ext W6 w9:=Ext.trans (by assumption) hx9;have rq9:=rq3.ext h9;have rr9:=rr3.ext h9;have k0:=rq9.c0;have k1:=rq9.c1;have k2:=rr9.c0;have k3:=rr9.c1;have f0:=rq9.f 0;have f1:=rq9.f 1;have f2:=rr9.f 0;have f3:=rr9.f 1;have rf9:=(h9.block _ lF3).trans rf3;have k4:=fcell0 rf9;have k5:=fcell1 rf9;have f4:=ffroz 0 rf9;have f5:=ffroz 1 rf9))
      go_wp2_with fail
      exact qJ (v:=.tuple #[.agg #[.bool b9,.slice a9 n9 c9],.agg #[.bool br,.slice ar 0 cr],.agg #[.int .i64 0,.int .i64 0]]) (by simp [results,Tryz.results118,go_sem,k0,k1,k2,k3,k4,k5]) rfl ⟨b9,a9,n9,c9,br,ar,0,cr,_,(R:Int),rfl,hI9.keep3 rq9 rr9 rf9 ⟨by omega,by omega,by omega⟩ _ _ _ _,(HIr.out.ext h9).keep3 rq9 rr9 rf9 ⟨by omega,by omega,by omega⟩ _ _ _ _,by rw [P8.out,Q8.out,HB.out];exact Heq.out,by omega,by rw [Q7.out,HB.out];have:=HRB.out;omega,by omega,by omega,zput2 (zput2 (zput2 (HEW.out.trans h9) (by omega) _ _) (by omega) _ _) (by omega) _ _⟩
  ·obtain ⟨j,rfl⟩:∃ j,k=j+1:=⟨k-1,by omega⟩
   have ec:(((j+1:Nat):Int)-1)=(j:Int):=by omega
   have ij:(j:Int)<(n1:Int):=by omega
   rcases hA with h0 | ⟨b,o,rfl⟩
   ·omega
   have hcl:=(P4.out.ext (HDE.out.trans hD.ext)).at j (by rw [P1.out];omega);obtain ⟨x,hx⟩:∃ x,la.getD j 0=x:=⟨_,rfl⟩
   have hx4:x<10000:=by rw [<-hx];exact P5.out.get j
   rw [hx] at hcl;have Hx:=Lh hx;obtain ⟨lr,g1,g2,g3,g4,g5,g6,g7,g8,g9⟩:=hD.num.abs;have hm:m<=n2:=hD.num.len_of (by have:=HBl.out;have:=HRB.out;simp;omega);have hWx:Ext wr (wr.alloc (.cells #[.int .i64 (x:Int)] 3)).drew:=qG (ext_alloc _ _);obtain ⟨g,cap,w5,hap,hs5,hc5,hcm5,hg5,hx5⟩:=append_ints wr x m cr ar lr g1 g4 (by omega) _ rfl (g4.ext hWx) 31
   have Hval:Hid (zval ([x]++lr)=x+10000*R):=by
    show _=_
    have e:zval lr=R:=by rw [<-g7];simp
    rw [<-e];rfl
   have Hz5:=Lh (zmade_blk false (some ⟨g,0,none⟩) ([x]++lr) (1+m) cap w5 (by simp [g1];omega) hs5 (fun y hy=>by
    simp only [List.singleton_append,List.mem_cons] at hy
    rcases hy with rfl | hy
    ·exact hx4
    ·exact g5 y hy) hc5 hcm5 (by omega) ((x+10000*R:Nat):Int) (by rw [Hval.out];rfl))
   have Hg5:Hid (wr.heap.size<=g):=hg5;have D5:=hD.up hx5;have HD5:=Lh D5;have lwr:Rb<wr.heap.size:=hD.box.lt;have Hlwr:=Lh lwr;have r1':=zKeep hWx lwr r1;have ca1':=zKeep hWx (bA2.ext hD.ext).lt ca1;have hcl':=zKeep hWx (P4.out.ext (HDE.out.trans hD.ext)).blt hcl;clear hx g1 g2 g3 g4 g5 g6 g7 g8 g9 hk0 hWx hs5 hc5 hcm5 hg5 D5 hD Hval lwr hx5;rw [ec];clear ec
   go_wp2_with fail
   go_region_law (first
    | (refine step_append_run (by rfl) _ _ (by rfl) (by rfl) _ _ _ (by rfl) (by rfl) hap ?_)
    | (go_simp;go_at_call 30;refine Hz5.out.mono ?_;rintro e w6 ⟨b6,a6,n6,c6,rfl,hI6,hn6,hx6,hP6⟩;have D6:=HD5.out.up hx6;have u0:=D6.box.c0;have u1:=D6.box.c1;have f0:=D6.box.f 0;have f1:=D6.box.f 1;go_wp2_with fail))
   all_goals
    have D7:=D6.put ⟨Hlt.out.1,by have:=Hlt.out;omega⟩ hI6
    have HP6:Hid (∀ a,a6=some a->a.block≠U+1):=by
     intro a ha
     rcases hP6 with h | h
     ·rw [h] at ha;cases ha
     ·rw [h] at ha;cases ha
      have h1:=Hg5.out;have h2:=Hlwr.out;have h3:=Hlt.out.1
      show g≠U+1
      omega
    clear D6 hI6 u0 u1 f0 f1 hP6 hx6 r1 r1' ca1 ca1' hcl hcl' hap Hz5 HD5 HD Hg5 Hlwr;generalize (w6.setCell ⟨Rb,0,none⟩ (.bool b6)).setCell ⟨Rb,1,none⟩ (.slice a6 n6 c6)=W7 at *;obtain ⟨r7,hr7⟩:∃ r7,x+10000*R=r7:=⟨_,rfl⟩;rw [hr7] at D7;have Hr7:=Lh hr7
    have Hr7B:Hid (r7<10000*B):=by show _<_;rw [<-hr7];exact zdiv_top hx4 HRB.out
    have hn6':n6<=n2+1:=D7.num.len_of (by
     have h1:=Hr7B.out;have h2:=HBl.out
     rw [jK];simp;omega)
    obtain ⟨l6,g1,g2,g3,g4,g5,g6,g7,g8,g9⟩:=D7.num.abs;obtain ⟨lu,i1,i2,i3,i4,i5,i6,i7,i8,i9⟩:=(IU.ext D7.ext).abs;have Hdc:=Lh (dcmp_any a6 au l6 lu n6 nu c6 cu W7 g1 i1 g4 i4 g5 i5 g6 i6 g2 i2 (by omega) (by omega))
    have e6:zval l6=r7:=by rw [<-g7];simp
    have eu:zval lu=B:=by rw [<-i7];simp
    rw [e6,eu] at Hdc;clear hr7 g1 g2 g3 g4 g5 g6 g7 g8 g9 i1 i2 i3 i4 i5 i6 i7 i8 i9 e6 eu;have s0:=zKeep D7.ext bU.lt bU.c1;have s1:=D7.box.c1;obtain ⟨k7,ek7⟩:∃ k7,zc r7 B=k7:=⟨_,rfl⟩;rw [ek7] at Hdc;have HD7:=Lh D7
    have Hstart:Hid (∃ hi:Nat,((k7<0/\hi=1)\/(¬ k7<0/\hi=10000))/\r7<hi*B):=by
     show ∃ hi:Nat,_
     by_cases h:r7<B
     ·exact ⟨1,qM ⟨by rw [<-ek7];unfold zc;rw [qU h];decide,rfl⟩,by omega⟩
     ·exact ⟨10000,qO ⟨by rw [<-ek7];unfold zc;rw [qE h];split<;>decide,rfl⟩,Hr7B.out⟩
    clear D7 ek7
    go_wp2_with fail
    refine Hdc.out.mono ?_;rintro e W8 ⟨rfl,hx8⟩;have HD8:=Lh (HD7.out.up hx8);obtain ⟨hi0,hcase,hhi0⟩:=Hstart.out;have Hhi0:=Lh hhi0;clear s0 s1 hhi0 hx8
    rcases hcase with ⟨hk7,rfl⟩ | ⟨hk7,rfl⟩
    all_goals
     go_wp2_with fail
     go_loopw [11,12] (fun lv hv wx=>∃ lo hi:Nat,lv=.int .i64 lo/\hv=.int .i64 hi/\lo<hi/\hi<=10000/\lo*B<=r7/\r7<hi*B/\Ext W8 wx) (fun lv hv _=>(intOf hv-intOf lv).toNat)
     case atStart=>first | exact ⟨0,1,rfl,rfl,by omega,by omega,by omega,Hhi0.out,Ext.refl _⟩ | exact ⟨0,10000,rfl,rfl,by omega,by omega,by omega,Hhi0.out,Ext.refl _⟩
     case round =>
      clear Hhi0 hk7;obtain ⟨lo,hi,rfl,rfl,hlh,hh4,hlo,hhi,hEx⟩:=hrel;have Hlo:=Lh hlo;have Hhi:=Lh hhi;clear hlo hhi;have HD9:=Lh (HD8.out.up hEx);have HEx8:=Lh hEx;have d0:=zKeep HD9.out.ext bU.lt bU.c0;have d1:=zKeep HD9.out.ext bU.lt bU.c1;have d2:=HD9.out.box.c0;have d3:=HD9.out.box.c1;have lU:=qK bU.lt HD9.out.ext.size;have lR:=HD9.out.box.lt;clear hEx
      by_cases hgo:lo+1<hi
      ·have igo:(1:Int)<(hi:Int)-(lo:Int):=by omega
       obtain ⟨mid,hmid⟩:∃ mid,(lo+hi) / 2=mid:=⟨_,rfl⟩
       have im:((lo:Int)+(hi:Int)).tdiv 2=(mid:Int):=by rw [yC (by omega)];omega
       have hm1:lo<mid:=by omega
       have hm2:mid<hi:=by omega
       have hmv:IntKind.i64.wrap (mid:Int)=(mid:Int):=by rw [qH];omega
       obtain ⟨kc,hkc⟩:∃ kc:Int,kc=if (B:Int)*(mid:Int)-(r7:Int)<0 then -1 else if 0<(B:Int)*(mid:Int)-(r7:Int) then 1 else 0:=⟨_,rfl⟩;have Hkc:=Lh hkc;have HOf:=Lh (fun wx=>ZOf_any (mid:Int) (by omega) (by omega) wx);have hxd:Ext wr wr.drew:=qG (Ext.refl _);clear hmid
       by_cases hle:mid*B<=r7
       ·have hk0:kc<=0:=by
         have h1:(B:Int)*(mid:Int)<=(r7:Int):=by rw [<-qP,jU];omega
         rw [hkc]
         by_cases h:(B:Int)*(mid:Int)-(r7:Int)<0
         ·rw [qU h];omega
         ·rw [qE h,qE (by omega)];omega
        have Hle:=Lh hle;clear hkc hle hgo
        go_wp2_with fail
        go_region_held3 (fun w'=>w'.cell? ⟨U,0,none⟩=some (.bool bu)/\w'.cell? ⟨U,1,none⟩=some (.slice au nu cu)/\w'.cell? ⟨Rb,0,none⟩=some (.bool b6)/\w'.cell? ⟨Rb,1,none⟩=some (.slice a6 n6 c6))
         (exact ⟨zKeep (W:=wr) (by assumption) lU d0,zKeep (W:=wr) (by assumption) lU d1,zKeep (W:=wr) (by assumption) lR d2,zKeep (W:=wr) (by assumption) lR d3⟩)
         (first
          | (have _:=qv1;go_at_call 32;refine (ZCmp_any sv1 b6 ov1 a6 mv1 jv1 n6 c6 ((B:Int)*(mid:Int)) (r7:Int) v1 Kv1 (HD9.out.num.ext hv1) (by omega) (by omega) kc Hkc.out).mono ?_;rintro e v2 ⟨rfl,qv2⟩;have hv2:Ext wr v2:=hv1.trans qv2)
          | (have _:=qv0;go_at_call 33;refine (ZMul_any bu sv0 au ov0 nu cu mv0 jv0 (B:Int) (mid:Int) v0 (IU.ext (HD9.out.ext.trans hv0)) Kv0 (by omega) (by omega)).mono ?_;rintro e v1 ⟨sv1,ov1,mv1,jv1,rfl,Kv1,Lv1,qv1⟩;have hv1:Ext wr v1:=hv0.trans qv1)
          | (go_at_call 8;refine (HOf.out _).mono ?_;rintro e v0 ⟨sv0,ov0,mv0,jv0,rfl,Kv0,Lv0,qv0⟩;have hv0:Ext wr v0:=Ext.trans (by assumption) qv0))
        go_wp2_with fail
        go_roundw
        case rel=>exact ⟨mid,hi,by go_num,rfl,hm2,hh4,Hle.out,Hhi.out,HEx8.out.trans hv2⟩
        case measure=>simp [intOf];omega
       ·have hk0:¬ kc<=0:=by
         have h1:(r7:Int)<(B:Int)*(mid:Int):=by rw [<-qP,jU];omega
         rw [hkc,qE (by omega),qU (by omega)];omega
        have Hle:Hid (r7<mid*B):=by show _<_;omega
        clear hkc hle hgo
        go_wp2_with fail
        go_region_held3 (fun w'=>w'.cell? ⟨U,0,none⟩=some (.bool bu)/\w'.cell? ⟨U,1,none⟩=some (.slice au nu cu)/\w'.cell? ⟨Rb,0,none⟩=some (.bool b6)/\w'.cell? ⟨Rb,1,none⟩=some (.slice a6 n6 c6))
         (exact ⟨zKeep (W:=wr) (by assumption) lU d0,zKeep (W:=wr) (by assumption) lU d1,zKeep (W:=wr) (by assumption) lR d2,zKeep (W:=wr) (by assumption) lR d3⟩)
         (first
          | (have _:=qv1;go_at_call 32;refine (ZCmp_any sv1 b6 ov1 a6 mv1 jv1 n6 c6 ((B:Int)*(mid:Int)) (r7:Int) v1 Kv1 (HD9.out.num.ext hv1) (by omega) (by omega) kc Hkc.out).mono ?_;rintro e v2 ⟨rfl,qv2⟩;have hv2:Ext wr v2:=hv1.trans qv2)
          | (have _:=qv0;go_at_call 33;refine (ZMul_any bu sv0 au ov0 nu cu mv0 jv0 (B:Int) (mid:Int) v0 (IU.ext (HD9.out.ext.trans hv0)) Kv0 (by omega) (by omega)).mono ?_;rintro e v1 ⟨sv1,ov1,mv1,jv1,rfl,Kv1,Lv1,qv1⟩;have hv1:Ext wr v1:=hv0.trans qv1)
          | (go_at_call 8;refine (HOf.out _).mono ?_;rintro e v0 ⟨sv0,ov0,mv0,jv0,rfl,Kv0,Lv0,qv0⟩;have hv0:Ext wr v0:=Ext.trans (by assumption) qv0))
        go_wp2_with fail
        go_roundw
        case rel=>exact ⟨lo,mid,rfl,by go_num,hm1,by omega,Hlo.out,Hle.out,HEx8.out.trans hv2⟩
        case measure=>simp [intOf];omega
      ·have Hhl:Hid (hi=lo+1):=by show _=_;omega
       have igo:¬ (1:Int)<(hi:Int)-(lo:Int):=by omega
       have hcM:=HD9.out.row.cell j (by rw [HQ.out];omega);have hfz:=HD9.out.row.frozen j;obtain ⟨yy,hyy⟩:∃ yy,Q.getD j 0=yy:=⟨_,rfl⟩;rw [hyy] at hcM
       have hlo4:lo<10000:=by omega
       have D10:=HD9.out.digit ⟨Hlt.out.1,by rw [Hlt.out.2];exact qZ _⟩ HP6.out j lo;have HOf:=Lh (fun wx=>ZOf_any (lo:Int) (by omega) (by omega) wx)
       have Hrest:Hid ((r7:Int)-(B:Int)*(lo:Int)=((r7-lo*B:Nat):Int)):=by
        show _=_
        have h1:((lo*B:Nat):Int)=(B:Int)*(lo:Int):=by rw [qP,yR]
        have:=Hlo.out;omega
       have HRB2:Hid (r7-lo*B<B):=by
        show _<_
        have h1:=Hhi.out;have h2:=HB0.out;rw [Hhl.out,Nat.succ_mul] at h1;omega
       have Hfin:Hid (zval ((Q.set j lo).drop j)*B+(r7-lo*B)=zval (la.drop j)):=by
        show _=_
        rw [drop_set Q j lo (by rw [HQ.out];omega),zval,zval_drop la j (by rw [P1.out];omega),Hx.out,<-Hr7.out];exact zdiv_digit (by rw [Hr7.out];exact Hlo.out) Hinv.out
       clear hyy hgo hlh hh4 d0 d1 d2 d3 lU lR
       go_wp2_with fail
       generalize wr.setCell ⟨U+1,j,none⟩ (.int .i64 (lo:Nat))=W10 at *;have e0:=zKeep D10.ext bU.lt bU.c0;have e1:=zKeep D10.ext bU.lt bU.c1;have e2:=D10.box.c0;have e3:=D10.box.c1;have lU:=qK bU.lt D10.ext.size;have lR:=D10.box.lt;have h10d:Ext W10 W10.drew:=qG (Ext.refl _);have HD10:=Lh D10;clear D10 hcM hfz
       go_region_law (first
        | (have _:=qv1;go_simp;go_at_call 72;refine (ZSub_any b6 sv1 a6 ov1 n6 c6 mv1 jv1 (r7:Int) ((B:Int)*(lo:Int)) v1 (HD10.out.num.ext hv1) Kv1 (by omega) (by omega)).mono ?_;rintro e v2 ⟨sv2,ov2,mv2,jv2,rfl,Kv2,Lv2,qv2⟩;have hv2:Ext W10 v2:=hv1.trans qv2;have D12:=HD10.out.up hv2;have u0:=D12.box.c0;have u1:=D12.box.c1;have f0:=D12.box.f 0;have f1:=D12.box.f 1;go_wp2_with fail)
        | (have _:=qv0;go_simp;go_at_call 33;refine (ZMul_any bu sv0 au ov0 nu cu mv0 jv0 (B:Int) (lo:Int) v0 (IU.ext (HD10.out.ext.trans hv0)) Kv0 (by omega) (by omega)).mono ?_;rintro e v1 ⟨sv1,ov1,mv1,jv1,rfl,Kv1,Lv1,qv1⟩;have hv1:Ext W10 v1:=hv0.trans qv1;have k2:=zKeep hv1 lR e2;have k3:=zKeep hv1 lR e3;go_wp2_with fail)
        | (go_simp;go_at_call 8;refine (HOf.out _).mono ?_;rintro e v0 ⟨sv0,ov0,mv0,jv0,rfl,Kv0,Lv0,qv0⟩;have hv0:Ext W10 v0:=Ext.trans (by assumption) qv0;have y0:=zKeep hv0 lU e0;have y1:=zKeep hv0 lU e1;have y2:=zKeep hv0 lR e2;have y3:=zKeep hv0 lR e3;go_wp2_with fail))
       all_goals
        go_wp2_with fail
        go_roundw
        case rel=>exact ⟨j,Q.set j lo,r7-lo*B,sv2,ov2,mv2,jv2,by omega,by go_num,by rw [jV];exact HQ.out,HdQ.out.set _ _ hlo4,D12.put ⟨Hlt.out.1,by have:=Hlt.out;omega⟩ (Kv2.cast Hrest.out),HRB2.out,Hfin.out⟩
        case measure=>simp [intOf]
def zAt (w:World) (g:Nat):Nat :=
 match w.cell? ⟨g,1,none⟩ with
 | some (.slice (some a) n _)=>zval ((List.range n).map fun t=>match w.cell? ⟨a.block,a.off+t,none⟩ with
  | some (.int _ x)=>x.toNat
  | _=>0)
 | _=>0
theorem zAt_of {w:World} {g:Nat} {b:Bool} {a:Option Addr} {n c:Nat} {z:Int} (hb:ZBx w g b a n c) (h:IsZ w b a n c z):zAt w g=z.natAbs:=by
 obtain ⟨l,p1,p2,p3,p4,p5,p6,p7,p8,p9⟩:=h.abs;unfold zAt;rw [hb.c1,p7]
 rcases p4 with ⟨rfl,rfl⟩ | ⟨b',o,rfl,hlt,hc⟩
 ·rfl
 ·show zval _=zval l
  congr 1
  apply List.ext_getElem
  ·rw [jY,List.length_range,p1]
  ·intro t h1 h2
   rw [List.getElem_map,List.getElem_range,hc t h2]
   show Int.toNat _=_
   rw [qQ,qX h2]
   rfl
theorem gcd_rest {z1 z2 q r:Int} (h:z1=q*z2+r):Nat.gcd z2.natAbs r.natAbs=Nat.gcd z1.natAbs z2.natAbs:=by
 have h1:Int.gcd z1 z2=Int.gcd z2 r:=by
  rw [h,Int.gcd_comm,Int.gcd_mul_right_add_right]
 exact h1.symm
theorem ZRes.putR {wr:World} {Rb g:Nat} (hz:ZRes wr g) (hne:g≠Rb) (u v:Value):ZRes ((wr.setCell ⟨Rb,0,none⟩ u).setCell ⟨Rb,1,none⟩ v) g:=by
 have hO:Only Rb wr ((wr.setCell ⟨Rb,0,none⟩ u).setCell ⟨Rb,1,none⟩ v):=((Only.refl _ _).setCell _ _).setCell _ _;exact ⟨(hO.block _ hne).trans hz.row⟩
theorem ZGcd_any (b1 b2:Bool) (a1 a2:Option Addr) (n1 c1 n2 c2:Nat) (z1 z2:Int) (w:World) (h1:IsZ w b1 a1 n1 c1 z1) (h2:IsZ w b2 a2 n2 c2 z2) (hn1:n1<=300000) (hn2:n2<=300000) :
  Calls Tryz.prog 117 #[.agg #[.bool b1,.slice a1 n1 c1],.agg #[.bool b2,.slice a2 n2 c2]] w (ZRet w ((Nat.gcd z1.natAbs z2.natAbs:Nat):Int) 300000):=by
 have hE:=((ext_alloc w (.cells #[.bool b1,.slice a1 n1 c1] 33)).trans (ext_alloc _ (.cells #[.bool b2,.slice a2 n2 c2] 33))).trans (ext_alloc _ (.cells #[.bool false,.slice none 0 0] 33));have bA:=((zbx_new w b1 a1 n1 c1).ext (ext_alloc _ (.cells #[.bool b2,.slice a2 n2 c2] 33))).ext (ext_alloc _ (.cells #[.bool false,.slice none 0 0] 33));have bB:=(zbx_new (w.alloc (.cells #[.bool b1,.slice a1 n1 c1] 33)) b2 a2 n2 c2).ext (ext_alloc _ (.cells #[.bool false,.slice none 0 0] 33));have hR:=zres_new ((w.alloc (.cells #[.bool b1,.slice a1 n1 c1] 33)).alloc (.cells #[.bool b2,.slice a2 n2 c2] 33));rw [show (w.alloc (.cells #[.bool b1,.slice a1 n1 c1] 33)).heap.size=w.heap.size+1 from by simp] at bB;rw [show ((w.alloc (.cells #[.bool b1,.slice a1 n1 c1] 33)).alloc (.cells #[.bool b2,.slice a2 n2 c2] 33)).heap.size=w.heap.size+1+1 from by simp] at hR;have I1:=h1.ext hE;have I2:=h2.ext hE;obtain ⟨gg,hgg⟩:∃ gg,Nat.gcd z1.natAbs z2.natAbs=gg:=⟨_,rfl⟩;rw [hgg];have Hgg:=Lh hgg;clear h1 h2 hgg
 go_enter Tryz.func117,Tryz.ntmps117
 go_wp2_with fail
 generalize ((w.alloc (.cells #[.bool b1,.slice a1 n1 c1] 33)).alloc (.cells #[.bool b2,.slice a2 n2 c2] 33)).alloc (.cells #[.bool false,.slice none 0 0] 33)=W0 at *
 go_loopw [5] (fun _ wr=>∃ (b:Bool) (a:Option Addr) (n c:Nat) (x:Int) (b':Bool) (a':Option Addr) (n' c':Nat) (y:Int),ZBx wr w.heap.size b a n c/\IsZ wr b a n c x/\ZBx wr (w.heap.size+1) b' a' n' c'/\IsZ wr b' a' n' c' y/\Nat.gcd x.natAbs y.natAbs=gg/\n<=300000/\n'<=300000/\ZRes wr (w.heap.size+1+1)/\Ext w wr) (fun _ wr=>zAt wr (w.heap.size+1))
 case atStart=>exact ⟨b1,a1,n1,c1,z1,b2,a2,n2,c2,z2,bA,I1,bB,I2,Hgg.out,hn1,hn2,hR,hE⟩
 case round =>
  clear bA bB hR I1 I2 hE;obtain ⟨b,a,n,c,x,b',a',n',c',y,hA,hx,hB,hy,hg,hn,hn',hR,hE⟩:=hrel;have HA:=Lh hA;have HX:=Lh hx;have HB:=Lh hB;have HY:=Lh hy;have HG:=Lh hg;have HR:=Lh hR;have HE:=Lh hE;have d0:=hA.c0;have d1:=hA.c1;have d2:=hB.c0;have d3:=hB.c1;have hyz:=hy.zero_iff.1
  by_cases h0:n'=0
  ·have hgx:gg=x.natAbs:=by rw [<-hg,hyz.1 h0,Nat.gcd_zero_right]
   subst h0;obtain ⟨l,p1,p2,p3,p4,p5,p6,p7,p8,p9⟩:=hx.abs;have Hm:=Lh (zmade_any false a l n c wr p1 p4 p5 p2 p3 (by omega) (gg:Int) (by rw [hgx,p7];rfl));clear hA hx hB hy hg hR hE hyz hgx p1 p2 p3 p4 p5 p6 p7 p8 p9
   go_wp2_with fail
   refine Hm.out.mono ?_;rintro e w9 ⟨b9,a9,n9,c9,rfl,hI,hle,hx9⟩;have hR9:=HR.out.ext hx9;have k0:=hR9.c0;have k1:=hR9.c1;have f0:=hR9.f 0;have f1:=hR9.f 1
   go_wp2_with fail
   exact qJ (v:=.agg #[.bool b9,.slice a9 n9 c9]) (by simp [results,Tryz.results117,go_sem,k0,k1]) rfl ⟨b9,a9,n9,c9,rfl,hI.keepRes hR9.row _ _,by omega,zput2 (HE.out.trans hx9) (by omega) _ _⟩
  ·have hy0:y≠0:=fun e=>h0 (hyz.2 (by rw [e];rfl))
   have in':(0:Int)<(n':Int):=by omega
   have Hd:=Lh (ZDiv_any b b' a a' n c n' c' x y wr hx hy hn hn' hy0);have Hms:=Lh (zAt_of hB hy);clear hA hx hB hy hg hR hE hyz h0 hy0
   go_wp2_with fail
   refine Hd.out.mono ?_;rintro e w5 ⟨b3,a3,n3,c3,b4,a4,n4,c4,q,r,rfl,Iq,Ir,heq,hr0,hrlt,hn3,hn4,hx5⟩;have hE5:=((ext_alloc w5 (.cells #[.bool b3,.slice a3 n3 c3] 33)).trans (ext_alloc _ (.cells #[.bool b4,.slice a4 n4 c4] 33))).trans (ext_alloc _ (.cells #[.int .i64 0,.int .i64 0] 26));have bRr:=(zbx_new (w5.alloc (.cells #[.bool b3,.slice a3 n3 c3] 33)) b4 a4 n4 c4).ext (ext_alloc _ (.cells #[.int .i64 0,.int .i64 0] 26));rw [show (w5.alloc (.cells #[.bool b3,.slice a3 n3 c3] 33)).heap.size=w5.heap.size+1 from by simp] at bRr;have A6:=HA.out.ext (hx5.trans hE5);have B6:=HB.out.ext (hx5.trans hE5);have Y6:=HY.out.ext (hx5.trans hE5);have R6:=Ir.ext hE5;have Q6:=HR.out.ext (hx5.trans hE5);have HE6:=Lh (HE.out.trans (hx5.trans hE5));have HGr:=Lh ((gcd_rest heq).trans HG.out)
   have Hrl:Hid (r.natAbs<y.natAbs):=by show _<_;omega
   have e0:=A6.c0;have e1:=A6.c1;have e2:=B6.c0;have e3:=B6.c1;have e4:=bRr.c0;have e5:=bRr.c1;have f0:=A6.f 0;have f1:=A6.f 1;have f2:=B6.f 0;have f3:=B6.f 1;clear d0 d1 d2 d3 heq hr0 hrlt Iq Ir hE5
   go_wp2_with fail
   generalize ((w5.alloc (.cells #[.bool b3,.slice a3 n3 c3] 33)).alloc (.cells #[.bool b4,.slice a4 n4 c4] 33)).alloc (.cells #[.int .i64 0,.int .i64 0] 26)=W6 at *
   have l5:w.heap.size+1+1<w5.heap.size:=by have:=(HR.out.ext hx5).lt;omega
   generalize w5.heap.size=S at *
   have n1':S+1≠w.heap.size:=by omega
   have n2':S+1≠w.heap.size+1:=by omega
   have B6':=B6.putR (Rb:=w.heap.size) (by omega) (.bool b') (.slice a' n' c');have HA7:=Lh (((A6.own b' a' n' c').putR (Rb:=w.heap.size+1) (by omega) (.bool b4) (.slice a4 n4 c4)).ext (qG (Ext.refl _)));have HB7:=Lh ((B6'.own b4 a4 n4 c4).ext (qG (Ext.refl _)));have HY7:=Lh (((Y6.keepRes A6.row (.bool b') (.slice a' n' c')).keepRes B6'.row (.bool b4) (.slice a4 n4 c4)).ext (qG (Ext.refl _)));have HR7:=Lh (((R6.keepRes A6.row (.bool b') (.slice a' n' c')).keepRes B6'.row (.bool b4) (.slice a4 n4 c4)).ext (qG (Ext.refl _)));have HQ7:=Lh (((Q6.putR (Rb:=w.heap.size) (by omega) (.bool b') (.slice a' n' c')).putR (Rb:=w.heap.size+1) (by omega) (.bool b4) (.slice a4 n4 c4)).ext (qG (Ext.refl _)));have HE7:=Lh (qG (zput2 (zput2 HE6.out (qZ _) (.bool b') (.slice a' n' c')) (Nat.le_succ _) (.bool b4) (.slice a4 n4 c4)));clear A6 B6 B6' Y6 R6 Q6 bRr
   go_region
   all_goals
    go_wp2_with fail
    go_roundw
    case rel=>exact ⟨b',a',n',c',y,b4,a4,n4,c4,r,HA7.out,HY7.out,HB7.out,HR7.out,HGr.out,hn',by omega,HQ7.out,HE7.out⟩
    case measure =>
     show zAt _ _<zAt _ _
     rw [zAt_of HB7.out HR7.out,Hms.out];exact Hrl.out
end Go.Proofs.YtjfomkoedgipjaaGreatDoor
