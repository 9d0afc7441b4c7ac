/-
  Fractions: lowest. Fractions: Over, Parts. strconv.FormatUint to the base ten. Writing numbers: appendWord. Writing numbers: appendDigits, by halves.
-/
import Derived.Lib.AppendIntMem
import Derived.Test.YtjfomkoedgipjaaGreatDoorS20FraA
namespace Go.Proofs.YtjfomkoedgipjaaGreatDoor
set_option maxRecDepth 100000
set_option maxHeartbeats 6400000
open Go.RowKit
theorem lowest_any (s1 s2:Int) (a1 a2:Option Addr) (n1 c1 n2 c2:Nat) (z1 z2:Int) (w:World) (h1:IsInt w s1 a1 n1 c1 z1) (h2:IsInt w s2 a2 n2 c2 z2) (K:Nat) (hK:K<=4194304) (hK1:1<=K) (hf1:Fit K z1) (hf2:Fit K z2) (hz2:z2≠0) (hbr:Bru w) :
  Calls Tryz.prog 90 #[.agg #[.int .i64 s1,.slice a1 n1 c1],.agg #[.int .i64 s2,.slice a2 n2 c2]] w fun e w'=>∃ (s:Int) (a:Option Addr) (n c:Nat) (s':Int) (a':Option Addr) (n' c':Nat) (p q:Int),e=.returned (.agg #[.int .i64 s,.slice a n c,.int .i64 s',.slice a' n' c'])/\IsInt w' s a n c p/\IsInt w' s' a' n' c' q/\(z1=0->p=0/\q=0)/\(z1≠0->IsLow z1 z2 p q)/\Ext w w':=by
 have HfA:=hid hf1;have HfB:=hid hf2;have H1:=hid h1;have H2:=hid h2;have Hz2:=hid hz2;have Hbr:=hid hbr;have Hs1:=hid (Sign_any s1 (.slice a1 n1 c1));have Hn2:=hid (negative_any s2 (.slice a2 n2 c2));have Hsg2:=hid h2.sign.1;have hc1:=h1.cmp3;obtain ⟨g1,hg1⟩:∃ g,cmp3 s1 0=g:=⟨_,rfl⟩;rw [hg1] at Hs1;have hbx:=boxed2 w (.int .i64 s1) (.slice a1 n1 c1) (.int .i64 s2) (.slice a2 n2 c2);have E0:=hbx.ext.then (.cells #[.int .i64 0,.slice none 0 0,.int .i64 0,.slice none 0 0] 56);have bxA:=((box_new w s1 a1 n1 c1).ext (Ext.alloc _ (.cells #[.int .i64 s2,.slice a2 n2 c2] 54))).ext (Ext.alloc _ (.cells #[.int .i64 0,.slice none 0 0,.int .i64 0,.slice none 0 0] 56));have bxB:=(box_new (w.alloc (.cells #[.int .i64 s1,.slice a1 n1 c1] 54)) s2 a2 n2 c2).ext (Ext.alloc _ (.cells #[.int .i64 0,.slice none 0 0,.int .i64 0,.slice none 0 0] 56));rw [show (w.alloc (.cells #[.int .i64 s1,.slice a1 n1 c1] 54)).heap.size=w.heap.size+1 from by simp] at bxB
 have qx:QRes (((w.alloc (.cells #[.int .i64 s1,.slice a1 n1 c1] 54)).alloc (.cells #[.int .i64 s2,.slice a2 n2 c2] 54)).alloc (.cells #[.int .i64 0,.slice none 0 0,.int .i64 0,.slice none 0 0] 56)) (w.heap.size+1+1):=by
  have:=qW ((w.alloc (.cells #[.int .i64 s1,.slice a1 n1 c1] 54)).alloc (.cells #[.int .i64 s2,.slice a2 n2 c2] 54)) (.cells #[.int .i64 0,.slice none 0 0,.int .i64 0,.slice none 0 0] 56);exact ⟨by simpa using this⟩
 by_cases hz1:z1=0
 ·have hg0:g1=0:=by rw [<-hg1,hc1,hz1];decide
  subst hg0;clear hc1 hg1 h1 h2 hf1 hf2 hbr hz2
  go_enter Tryz.func90,Tryz.ntmps90
  go_wp2_with fail
  generalize ((w.alloc (.cells #[.int .i64 s1,.slice a1 n1 c1] 54)).alloc (.cells #[.int .i64 s2,.slice a2 n2 c2] 54)).alloc (.cells #[.int .i64 0,.slice none 0 0,.int .i64 0,.slice none 0 0] 56)=W0 at *;refine (Hs1.out _).mono ?_;rintro e we ⟨rfl,hxe⟩;have qe:=qx.ext hxe;have q0:=qe.c0;have q1:=qe.c1;have q2:=qe.c2;have q3:=qe.c3;have f0:=qe.f0 0;have f1:=qe.f0 1;have f2:=qe.f0 2;have f3:=qe.f0 3
  go_wp2_with fail
  exact qJ (v:=.agg #[.int .i64 0,.slice none 0 0,.int .i64 0,.slice none 0 0]) (by simp [results,Tryz.results90,go_sem,q0,q1,q2,q3]) rfl ⟨0,none,0,0,0,none,0,0,0,0,rfl,IsInt.small _ _ (by omega) (by omega),IsInt.small _ _ (by omega) (by omega),fun _=>⟨rfl,rfl⟩,fun h=>absurd hz1 h,((E0.trans hxe).put2 (by omega) _ _).put2 (by omega) _ _⟩
 ·have hgn:=Bx.sg hg1 hc1 hz1
  have Hz1:=hid hz1;clear hc1 hg1 h1 h2 hf1 hf2 hbr hz2 hz1
  go_enter Tryz.func90,Tryz.ntmps90
  go_wp2_with fail
  generalize ((w.alloc (.cells #[.int .i64 s1,.slice a1 n1 c1] 54)).alloc (.cells #[.int .i64 s2,.slice a2 n2 c2] 54)).alloc (.cells #[.int .i64 0,.slice none 0 0,.int .i64 0,.slice none 0 0] 56)=W0 at *;refine (Hs1.out _).mono ?_;rintro e we ⟨rfl,hxe⟩;have x2:=(bxB.ext hxe).c0;have x3:=(bxB.ext hxe).c1
  go_wp2_with fail
  refine (Hn2.out _).mono ?_;rintro e wf ⟨rfl,hxf⟩;have HEf:Hid (Ext w wf):=E0.trans (hxe.trans hxf);have bA:=bxA.ext (hxe.trans hxf);have bB:=bxB.ext (hxe.trans hxf);have qR:=qx.ext (hxe.trans hxf);have I1:=H1.out.ext HEf.out;have I2:=H2.out.ext HEf.out;clear x2 x3 bxA bxB qx hbx E0 hxe hxf
  by_cases hneg:s2<0
  ·have hd2:decide (s2<0)=true:=jJ hneg
   have hz2n:z2<0:=Hsg2.out.1 hneg
   have HzB:Hid (0<(-z2)):=by show _<_;omega
   have HzA:Hid ((-z1)≠0):=by show _≠_;have:=Hz1.out;omega
   have HLow:Hid (∀ p q,IsLow (-z1) (-z2) p q->IsLow z1 z2 p q):=fun _ _ h=>h.neg
   have Hm1:=hid (Neg_from I1);have Hm2:=hid (Neg_from I2);rw [hd2];clear hd2 hneg hz2n;have u0:=bA.c0;have u1:=bA.c1;have u2:=bB.c0;have u3:=bB.c1;have hfd:Ext wf wf.drew:=qG (Ext.refl _);have hltR:=qR.lt
   go_wp2_with fail
   go_region_with (first | (go_at_call_of 105 s1;refine (Hm1.out _ (by assumption)).mono ?_;rintro e w5 ⟨s5,a5,n5,c5,rfl,hI5,he5,hx5⟩;have v2:=cellKeep he5 (by omega) u2;have v3:=cellKeep he5 (by omega) u3) | (go_at_call_of 105 s2;refine (Hm2.out _ (by assumption)).mono ?_;rintro e w6 ⟨s6,a6,n6,c6,rfl,hI6,he6,hx6⟩;have bA6:=bA.ext he6;have bB6:=bB.ext he6;have k0:=bA6.c0;have k1:=bA6.c1;have g0:=bA6.f0;have g1:=bA6.f1;have k2:=bB6.c0;have k3:=bB6.c1;have g2:=bB6.f0;have g3:=bB6.f1))
   all_goals
    have qR6:=qR.ext he6;have hkk:=Keep64.set4 (w:=w6) (.i64 k0) (.slice k1) (.i64 k2) (.slice k3) (notW_i64 s5) (notW_slice a5 n5 c5) (notW_i64 s6) (.slice a6 n6 c6);have bA7:=((bA6.own s5 a5 n5 c5).put (h:=w.heap.size+1) (o:=0) (by omega) (.int .i64 s6)).put (h:=w.heap.size+1) (o:=1) (by omega) (.slice a6 n6 c6);have bB7:=((bB6.put (h:=w.heap.size) (o:=0) (by omega) (.int .i64 s5)).put (h:=w.heap.size) (o:=1) (by omega) (.slice a5 n5 c5)).own s6 a6 n6 c6;have qR7:=(((qR6.put (h:=w.heap.size) (o:=0) (by omega) (.int .i64 s5)).put (h:=w.heap.size) (o:=1) (by omega) (.slice a5 n5 c5)).put (h:=w.heap.size+1) (o:=0) (by omega) (.int .i64 s6)).put (h:=w.heap.size+1) (o:=1) (by omega) (.slice a6 n6 c6);have J5:=(hI5.ext hx6).keep64 hkk;have J6:=hI6.keep64 hkk;have E7:=((HEf.out.trans he6).put2 (g:=w.heap.size) (o:=0) (o':=1) (by omega) (.int .i64 s5) (.slice a5 n5 c5)).put2 (g:=w.heap.size+1) (o:=0) (o':=1) (by omega) (.int .i64 s6) (.slice a6 n6 c6);generalize hWc:(((w6.setCell ⟨w.heap.size,0,none⟩ (.int .i64 s5)).setCell ⟨w.heap.size,1,none⟩ (.slice a5 n5 c5)).setCell ⟨w.heap.size+1,0,none⟩ (.int .i64 s6)).setCell ⟨w.heap.size+1,1,none⟩ (.slice a6 n6 c6)=Wc at *;clear hWc hkk k0 k1 k2 k3 g0 g1 g2 g3 bA6 bB6 qR6 bA bB qR u0 u1 u2 u3 hI5 hI6 he5 he6 hx5 hx6 hfd I1 I2 hltR;have bA:=bA7;have bB:=bB7;have qR:=qR7;have HIA:=hid J5;have HIB:=hid J6;have HEc:=hid E7;have HfA:=hid HfA.out.neg;have HfB:=hid HfB.out.neg;have Hbc:=hid (bru_ext Hbr.out HEc.out);clear bA7 bB7 qR7 J5 J6 E7;have Hg:=hid (fun wx (hx:Ext Wc wx)=>Gcd_any s5 s6 a5 a6 n5 c5 n6 c6 (-z1) (-z2) wx (HIA.out.ext hx) (HIB.out.ext hx) K hK hK1 HfA.out HfB.out HzA.out (by have:=HzB.out;omega) (bru_ext Hbc.out hx));have k0:=bA.c0;have k1:=bA.c1;have k2:=bB.c0;have k3:=bB.c1
    go_wp2_with fail
    refine (Hg.out _ (Ext.refl _)).mono ?_;rintro e wd ⟨s7,a7,n7,c7,rfl,hI7,hxd⟩;have HI7:=hid hI7;obtain ⟨G,hG⟩:∃ G,Nat.gcd (-z1).natAbs (-z2).natAbs=G:=⟨_,rfl⟩;rw [hG] at HI7;have HG:=hid hG
    have HGp:Hid (0<G):=by
     show _<_
     rw [<-hG];exact Nat.gcd_pos_of_pos_left _ (by have:=HzA.out;omega)
    have HfG:Hid (Fit K (G:Int)):=HfA.out.le (by
     rw [<-hG]
     show Nat.gcd _ _<=_
     exact Nat.gcd_le_left _ (by have:=HzA.out;omega))
    have hE5:=hxd.then (.cells #[.int .i64 s7,.slice a7 n7 c7] 54);have b7:=box_new wd s7 a7 n7 c7
    have hszd:w.heap.size+2<wd.heap.size:=by have:=qR.lt;have:=hxd.size;omega
    have bA5:=bA.ext hE5;have bB5:=bB.ext hE5;have qR5:=qR.ext hE5;have I75:=HI7.out.ext (Ext.alloc wd (.cells #[.int .i64 s7,.slice a7 n7 c7] 54));clear hG hI7 k0 k1 k2 k3 bA bB qR
    go_wp2_with fail
    generalize wd.alloc (.cells #[.int .i64 s7,.slice a7 n7 c7] 54)=W5 at *;have k4:=b7.c0;have k5:=b7.c1;have hlt7:=b7.lt;have Ho:=hid (Of_from (w:=W5) 1 (by omega) (by omega));have Hcmp:=hid (fun wx (hx:Ext W5 wx)=>Cmp_any s7 1 a7 none n7 c7 0 0 (G:Int) 1 wx (I75.ext hx) (IsInt.small _ _ (by omega) (by omega)) K hK HfG.out (Fit.one hK1));obtain ⟨cg,hcg⟩:∃ cg,cmp3 (G:Int) 1=cg:=⟨_,rfl⟩;rw [hcg] at Hcmp;have h5d:Ext W5 W5.drew:=qG (Ext.refl _)
    go_region_held3 (fun w'=>w'.cell? ⟨wd.heap.size,0,none⟩=some (.int .i64 s7)/\w'.cell? ⟨wd.heap.size,1,none⟩=some (.slice a7 n7 c7)) (exact ⟨cellKeep (W:=W5) (by assumption) hlt7 k4,cellKeep (W:=W5) (by assumption) hlt7 k5⟩)
     (first | (go_at_call 56;refine (Ho.out _ (by assumption)).mono ?_;rintro e wa ⟨rfl,hea,hxa⟩) | (go_at_call 55;refine (Hcmp.out _ (by assumption)).mono ?_;rintro e wb ⟨rfl,hxb⟩;have heb:=hea.trans hxb))
    have bA6:=bA5.ext heb;have bB6:=bB5.ext heb;have qR6:=qR5.ext heb;have b76:=b7.ext heb;have k0:=bA6.c0;have k1:=bA6.c1;have k2:=bB6.c0;have k3:=bB6.c1;have HE6:Hid (Ext Wc wb):=hE5.trans heb
    have hszb:w.heap.size+2<wb.heap.size:=by have:=qR6.lt;omega
    clear k4 k5 hxa hea hxb h5d
    by_cases hG1:G=1
    ·have hcg0:cg=0:=by rw [<-hcg,hG1];decide
     subst hcg0;have Hlow:=hid (HLow.out _ _ (isLow_one HzA.out HzB.out (by rw [HG.out];exact hG1)));have q0:=qR6.c0;have q1:=qR6.c1;have q2:=qR6.c2;have q3:=qR6.c3;have f0:=qR6.f0 0;have f1:=qR6.f0 1;have f2:=qR6.f0 2;have f3:=qR6.f0 3;have hkk:=Keep64.set4 (w:=wb) (.i64 q0) (.slice q1) (.i64 q2) (.slice q3) (notW_i64 s5) (notW_slice a5 n5 c5) (notW_i64 s6) (.slice a6 n6 c6);clear hG1 hcg
     go_wp2_with fail
     exact qJ (v:=.agg #[.int .i64 s5,.slice a5 n5 c5,.int .i64 s6,.slice a6 n6 c6]) (by simp [results,Tryz.results90,go_sem,q0,q1,q2,q3]) rfl ⟨s5,a5,n5,c5,s6,a6,n6,c6,_,_,rfl,(HIA.out.ext HE6.out).keep64 hkk,(HIB.out.ext HE6.out).keep64 hkk,fun h=>absurd h Hz1.out,fun _=>Hlow.out,((HEc.out.trans HE6.out).put2 (by omega) _ _).put2 (by omega) _ _⟩
    ·have hcgn:(cg == 0)=false:=by
      rw [qV,<-hcg];unfold cmp3;have:=HGp.out
      split
      ·decide
      ·split
       ·decide
       ·omega
     have k4:=b76.c0;have k5:=b76.c1;have Hd1:=hid (fun wx (hx:Ext wb wx)=>Div_any s5 s7 a5 a7 n5 c5 n7 c7 (-z1) (G:Int) wx ((HIA.out.ext HE6.out).ext hx) ((I75.ext heb).ext hx) K hK hK1 HfA.out HfG.out (by have:=HGp.out;omega));have Hd2:=hid (fun wx (hx:Ext wb wx)=>Div_any s6 s7 a6 a7 n6 c6 n7 c7 (-z2) (G:Int) wx ((HIB.out.ext HE6.out).ext hx) ((I75.ext heb).ext hx) K hK hK1 HfB.out HfG.out (by have:=HGp.out;omega));clear hG1 hcg
     go_wp2_with fail
     refine (Hd1.out _ (Ext.refl _)).mono ?_;rintro e wx ⟨s8,a8,n8,c8,s9,a9,n9,c9,p,r,rfl,hI8,hI9,hdv1,hxx⟩;have HI8:=hid hI8;have Hdv1:=hid hdv1;have hEx:=((hxx.then (.cells #[.int .i64 s8,.slice a8 n8 c8] 54)).then (.cells #[.int .i64 s9,.slice a9 n9 c9] 54)).then (.cells #[.int .i64 0,.int .i64 0] 26);have hEx':=((Ext.alloc wx (.cells #[.int .i64 s8,.slice a8 n8 c8] 54)).then (.cells #[.int .i64 s9,.slice a9 n9 c9] 54)).then (.cells #[.int .i64 0,.int .i64 0] 26);have b8:=((box_new wx s8 a8 n8 c8).ext (Ext.alloc _ (.cells #[.int .i64 s9,.slice a9 n9 c9] 54))).ext (Ext.alloc _ (.cells #[.int .i64 0,.int .i64 0] 26));have y2:=cellKeep hEx bB6.lt k2;have y3:=cellKeep hEx bB6.lt k3;have y4:=cellKeep hEx b76.lt k4;have y5:=cellKeep hEx b76.lt k5;clear hI8 hI9 hdv1 k0 k1 k2 k3 k4 k5
     go_wp2_with fail
     generalize ((wx.alloc (.cells #[.int .i64 s8,.slice a8 n8 c8] 54)).alloc (.cells #[.int .i64 s9,.slice a9 n9 c9] 54)).alloc (.cells #[.int .i64 0,.int .i64 0] 26)=W8 at *;refine (Hd2.out _ hEx).mono ?_;rintro e wy ⟨t8,d8,m8,e8,t9,d9,m9,e9,q,r',rfl,hJ8,hJ9,hdv2,hxy⟩;have HJ8:=hid hJ8;have Hdv2:=hid hdv2;have hEy':=((Ext.alloc wy (.cells #[.int .i64 t8,.slice d8 m8 e8] 54)).then (.cells #[.int .i64 t9,.slice d9 m9 e9] 54)).then (.cells #[.int .i64 0,.int .i64 0] 26);have c8':=((box_new wy t8 d8 m8 e8).ext (Ext.alloc _ (.cells #[.int .i64 t9,.slice d9 m9 e9] 54))).ext (Ext.alloc _ (.cells #[.int .i64 0,.int .i64 0] 26));have b9:=b8.ext (hxy.trans hEy');have qR9:=qR6.ext (hEx.trans (hxy.trans hEy'));have HE9:Hid (Ext w _):=(HEc.out.trans HE6.out).trans (hEx.trans (hxy.trans hEy'));have J9:=HJ8.out.ext hEy';have I9:=HI8.out.ext (hEx'.trans (hxy.trans hEy'));clear hJ8 hJ9 hdv2 y2 y3 y4 y5;have m0:=b9.c0;have m1:=b9.c1;have m2:=c8'.c0;have m3:=c8'.c1;have q0:=qR9.c0;have q1:=qR9.c1;have q2:=qR9.c2;have q3:=qR9.c3;have f0:=qR9.f0 0;have f1:=qR9.f0 1;have f2:=qR9.f0 2;have f3:=qR9.f0 3;have hkk:=Keep64.set4 (.i64 q0) (.slice q1) (.i64 q2) (.slice q3) (notW_i64 s8) (notW_slice a8 n8 c8) (notW_i64 t8) (.slice d8 m8 e8);have Hlow:=hid (HLow.out _ _ (isLow_div HzA.out HzB.out (by rw [HG.out];exact Hdv1.out) (by rw [HG.out];exact Hdv2.out)))
     go_wp2_with fail
     exact qJ (v:=.agg #[.int .i64 s8,.slice a8 n8 c8,.int .i64 t8,.slice d8 m8 e8]) (by simp [results,Tryz.results90,go_sem,q0,q1,q2,q3]) rfl ⟨s8,a8,n8,c8,t8,d8,m8,e8,_,_,rfl,I9.keep64 hkk,J9.keep64 hkk,fun h=>absurd h Hz1.out,fun _=>Hlow.out,(HE9.out.put2 (by omega) _ _).put2 (by omega) _ _⟩
  ·have hd2:decide (s2<0)=false:=jE hneg
   have HzB:Hid (0<z2):=by show _<_;have:=Hz2.out;have:=Hsg2.out;omega
   have HzA:=Hz1
   have HLow:Hid (∀ p q,IsLow z1 z2 p q->IsLow z1 z2 p q):=fun _ _ h=>h
   obtain ⟨Wc,hWc⟩:∃ Wc,wf=Wc:=⟨_,rfl⟩;subst hWc;have HIA:=hid I1;have HIB:=hid I2;have HEc:=HEf;have Hbc:=hid (bru_ext Hbr.out HEc.out);rw [hd2];clear hd2 hneg I1 I2;have Hg:=hid (fun wx (hx:Ext wf wx)=>Gcd_any s1 s2 a1 a2 n1 c1 n2 c2 z1 z2 wx (HIA.out.ext hx) (HIB.out.ext hx) K hK hK1 HfA.out HfB.out HzA.out (by have:=HzB.out;omega) (bru_ext Hbc.out hx));have k0:=bA.c0;have k1:=bA.c1;have k2:=bB.c0;have k3:=bB.c1
   go_wp2_with fail
   refine (Hg.out _ (Ext.refl _)).mono ?_;rintro e wd ⟨s7,a7,n7,c7,rfl,hI7,hxd⟩;have HI7:=hid hI7;obtain ⟨G,hG⟩:∃ G,Nat.gcd z1.natAbs z2.natAbs=G:=⟨_,rfl⟩;rw [hG] at HI7;have HG:=hid hG
   have HGp:Hid (0<G):=by
    show _<_
    rw [<-hG];exact Nat.gcd_pos_of_pos_left _ (by have:=HzA.out;omega)
   have HfG:Hid (Fit K (G:Int)):=HfA.out.le (by
    rw [<-hG]
    show Nat.gcd _ _<=_
    exact Nat.gcd_le_left _ (by have:=HzA.out;omega))
   have hE5:=hxd.then (.cells #[.int .i64 s7,.slice a7 n7 c7] 54);have b7:=box_new wd s7 a7 n7 c7
   have hszd:w.heap.size+2<wd.heap.size:=by have:=qR.lt;have:=hxd.size;omega
   have bA5:=bA.ext hE5;have bB5:=bB.ext hE5;have qR5:=qR.ext hE5;have I75:=HI7.out.ext (Ext.alloc wd (.cells #[.int .i64 s7,.slice a7 n7 c7] 54));clear hG hI7 k0 k1 k2 k3 bA bB qR
   go_wp2_with fail
   generalize wd.alloc (.cells #[.int .i64 s7,.slice a7 n7 c7] 54)=W5 at *;have k4:=b7.c0;have k5:=b7.c1;have hlt7:=b7.lt;have Ho:=hid (Of_from (w:=W5) 1 (by omega) (by omega));have Hcmp:=hid (fun wx (hx:Ext W5 wx)=>Cmp_any s7 1 a7 none n7 c7 0 0 (G:Int) 1 wx (I75.ext hx) (IsInt.small _ _ (by omega) (by omega)) K hK HfG.out (Fit.one hK1));obtain ⟨cg,hcg⟩:∃ cg,cmp3 (G:Int) 1=cg:=⟨_,rfl⟩;rw [hcg] at Hcmp;have h5d:Ext W5 W5.drew:=qG (Ext.refl _)
   go_region_held3 (fun w'=>w'.cell? ⟨wd.heap.size,0,none⟩=some (.int .i64 s7)/\w'.cell? ⟨wd.heap.size,1,none⟩=some (.slice a7 n7 c7)) (exact ⟨cellKeep (W:=W5) (by assumption) hlt7 k4,cellKeep (W:=W5) (by assumption) hlt7 k5⟩)
    (first | (go_at_call 56;refine (Ho.out _ (by assumption)).mono ?_;rintro e wa ⟨rfl,hea,hxa⟩) | (go_at_call 55;refine (Hcmp.out _ (by assumption)).mono ?_;rintro e wb ⟨rfl,hxb⟩;have heb:=hea.trans hxb))
   have bA6:=bA5.ext heb;have bB6:=bB5.ext heb;have qR6:=qR5.ext heb;have b76:=b7.ext heb;have k0:=bA6.c0;have k1:=bA6.c1;have k2:=bB6.c0;have k3:=bB6.c1;have HE6:Hid (Ext wf wb):=hE5.trans heb
   have hszb:w.heap.size+2<wb.heap.size:=by have:=qR6.lt;omega
   clear k4 k5 hxa hea hxb h5d
   by_cases hG1:G=1
   ·have hcg0:cg=0:=by rw [<-hcg,hG1];decide
    subst hcg0;have Hlow:=hid (HLow.out _ _ (isLow_one HzA.out HzB.out (by rw [HG.out];exact hG1)));have q0:=qR6.c0;have q1:=qR6.c1;have q2:=qR6.c2;have q3:=qR6.c3;have f0:=qR6.f0 0;have f1:=qR6.f0 1;have f2:=qR6.f0 2;have f3:=qR6.f0 3;have hkk:=Keep64.set4 (w:=wb) (.i64 q0) (.slice q1) (.i64 q2) (.slice q3) (notW_i64 s1) (notW_slice a1 n1 c1) (notW_i64 s2) (.slice a2 n2 c2);clear hG1 hcg
    go_wp2_with fail
    exact qJ (v:=.agg #[.int .i64 s1,.slice a1 n1 c1,.int .i64 s2,.slice a2 n2 c2]) (by simp [results,Tryz.results90,go_sem,q0,q1,q2,q3]) rfl ⟨s1,a1,n1,c1,s2,a2,n2,c2,_,_,rfl,(HIA.out.ext HE6.out).keep64 hkk,(HIB.out.ext HE6.out).keep64 hkk,fun h=>absurd h Hz1.out,fun _=>Hlow.out,((HEc.out.trans HE6.out).put2 (by omega) _ _).put2 (by omega) _ _⟩
   ·have hcgn:(cg == 0)=false:=by
     rw [qV,<-hcg];unfold cmp3;have:=HGp.out
     split
     ·decide
     ·split
      ·decide
      ·omega
    have k4:=b76.c0;have k5:=b76.c1;have Hd1:=hid (fun wx (hx:Ext wb wx)=>Div_any s1 s7 a1 a7 n1 c1 n7 c7 z1 (G:Int) wx ((HIA.out.ext HE6.out).ext hx) ((I75.ext heb).ext hx) K hK hK1 HfA.out HfG.out (by have:=HGp.out;omega));have Hd2:=hid (fun wx (hx:Ext wb wx)=>Div_any s2 s7 a2 a7 n2 c2 n7 c7 z2 (G:Int) wx ((HIB.out.ext HE6.out).ext hx) ((I75.ext heb).ext hx) K hK hK1 HfB.out HfG.out (by have:=HGp.out;omega));clear hG1 hcg
    go_wp2_with fail
    refine (Hd1.out _ (Ext.refl _)).mono ?_;rintro e wx ⟨s8,a8,n8,c8,s9,a9,n9,c9,p,r,rfl,hI8,hI9,hdv1,hxx⟩;have HI8:=hid hI8;have Hdv1:=hid hdv1;have hEx:=((hxx.then (.cells #[.int .i64 s8,.slice a8 n8 c8] 54)).then (.cells #[.int .i64 s9,.slice a9 n9 c9] 54)).then (.cells #[.int .i64 0,.int .i64 0] 26);have hEx':=((Ext.alloc wx (.cells #[.int .i64 s8,.slice a8 n8 c8] 54)).then (.cells #[.int .i64 s9,.slice a9 n9 c9] 54)).then (.cells #[.int .i64 0,.int .i64 0] 26);have b8:=((box_new wx s8 a8 n8 c8).ext (Ext.alloc _ (.cells #[.int .i64 s9,.slice a9 n9 c9] 54))).ext (Ext.alloc _ (.cells #[.int .i64 0,.int .i64 0] 26));have y2:=cellKeep hEx bB6.lt k2;have y3:=cellKeep hEx bB6.lt k3;have y4:=cellKeep hEx b76.lt k4;have y5:=cellKeep hEx b76.lt k5;clear hI8 hI9 hdv1 k0 k1 k2 k3 k4 k5
    go_wp2_with fail
    generalize ((wx.alloc (.cells #[.int .i64 s8,.slice a8 n8 c8] 54)).alloc (.cells #[.int .i64 s9,.slice a9 n9 c9] 54)).alloc (.cells #[.int .i64 0,.int .i64 0] 26)=W8 at *;refine (Hd2.out _ hEx).mono ?_;rintro e wy ⟨t8,d8,m8,e8,t9,d9,m9,e9,q,r',rfl,hJ8,hJ9,hdv2,hxy⟩;have HJ8:=hid hJ8;have Hdv2:=hid hdv2;have hEy':=((Ext.alloc wy (.cells #[.int .i64 t8,.slice d8 m8 e8] 54)).then (.cells #[.int .i64 t9,.slice d9 m9 e9] 54)).then (.cells #[.int .i64 0,.int .i64 0] 26);have c8':=((box_new wy t8 d8 m8 e8).ext (Ext.alloc _ (.cells #[.int .i64 t9,.slice d9 m9 e9] 54))).ext (Ext.alloc _ (.cells #[.int .i64 0,.int .i64 0] 26));have b9:=b8.ext (hxy.trans hEy');have qR9:=qR6.ext (hEx.trans (hxy.trans hEy'));have HE9:Hid (Ext w _):=(HEc.out.trans HE6.out).trans (hEx.trans (hxy.trans hEy'));have J9:=HJ8.out.ext hEy';have I9:=HI8.out.ext (hEx'.trans (hxy.trans hEy'));clear hJ8 hJ9 hdv2 y2 y3 y4 y5;have m0:=b9.c0;have m1:=b9.c1;have m2:=c8'.c0;have m3:=c8'.c1;have q0:=qR9.c0;have q1:=qR9.c1;have q2:=qR9.c2;have q3:=qR9.c3;have f0:=qR9.f0 0;have f1:=qR9.f0 1;have f2:=qR9.f0 2;have f3:=qR9.f0 3;have hkk:=Keep64.set4 (.i64 q0) (.slice q1) (.i64 q2) (.slice q3) (notW_i64 s8) (notW_slice a8 n8 c8) (notW_i64 t8) (.slice d8 m8 e8);have Hlow:=hid (HLow.out _ _ (isLow_div HzA.out HzB.out (by rw [HG.out];exact Hdv1.out) (by rw [HG.out];exact Hdv2.out)))
    go_wp2_with fail
    exact qJ (v:=.agg #[.int .i64 s8,.slice a8 n8 c8,.int .i64 t8,.slice d8 m8 e8]) (by simp [results,Tryz.results90,go_sem,q0,q1,q2,q3]) rfl ⟨s8,a8,n8,c8,t8,d8,m8,e8,_,_,rfl,I9.keep64 hkk,J9.keep64 hkk,fun h=>absurd h Hz1.out,fun _=>Hlow.out,(HE9.out.put2 (by omega) _ _).put2 (by omega) _ _⟩
theorem Over_any (s1 s2:Int) (a1 a2:Option Addr) (n1 c1 n2 c2:Nat) (z1 z2:Int) (w:World) (h1:IsInt w s1 a1 n1 c1 z1) (h2:IsInt w s2 a2 n2 c2 z2) (K:Nat) (hK:K<=4194304) (hK1:1<=K) (hf1:Fit K z1) (hf2:Fit K z2) (hz2:z2≠0) (hbr:Bru w) :
  Calls Tryz.prog 63 #[.agg #[.int .i64 s1,.slice a1 n1 c1],.agg #[.int .i64 s2,.slice a2 n2 c2]] w fun e w'=>∃ (s:Int) (a:Option Addr) (n c:Nat) (s':Int) (a':Option Addr) (n' c':Nat) (p q:Int),e=.returned (.tuple #[.agg #[.int .i64 s,.slice a n c,.int .i64 s',.slice a' n' c'],.agg #[.int .i64 0,.int .i64 0]])/\IsInt w' s a n c p/\IsInt w' s' a' n' c' q/\(z1=0->p=0/\q=0)/\(z1≠0->IsLow z1 z2 p q)/\Ext w w':=by
 have Hs2:=hid (Sign_any s2 (.slice a2 n2 c2));have Hlo:=hid (fun wx (hx:Ext w wx)=>lowest_any s1 s2 a1 a2 n1 c1 n2 c2 z1 z2 wx (h1.ext hx) (h2.ext hx) K hK hK1 hf1 hf2 hz2 (bru_ext hbr hx));have hc2:=h2.cmp3;obtain ⟨g2,hg2⟩:∃ g,cmp3 s2 0=g:=⟨_,rfl⟩;rw [hg2] at Hs2;have hgn:=Bx.sg hg2 hc2 hz2;clear h1 h2 hf1 hf2 hz2 hbr hc2 hg2;have hbx:=boxed2 w (.int .i64 s1) (.slice a1 n1 c1) (.int .i64 s2) (.slice a2 n2 c2);have E0:=(hbx.ext.then (.cells #[.int .i64 0,.slice none 0 0,.int .i64 0,.slice none 0 0] 56)).then (.cells #[.int .i64 0,.int .i64 0] 26);have bxA:=(((box_new w s1 a1 n1 c1).ext (Ext.alloc _ (.cells #[.int .i64 s2,.slice a2 n2 c2] 54))).ext (Ext.alloc _ (.cells #[.int .i64 0,.slice none 0 0,.int .i64 0,.slice none 0 0] 56))).ext (Ext.alloc _ (.cells #[.int .i64 0,.int .i64 0] 26));have bxB:=((box_new (w.alloc (.cells #[.int .i64 s1,.slice a1 n1 c1] 54)) s2 a2 n2 c2).ext (Ext.alloc _ (.cells #[.int .i64 0,.slice none 0 0,.int .i64 0,.slice none 0 0] 56))).ext (Ext.alloc _ (.cells #[.int .i64 0,.int .i64 0] 26));rw [show (w.alloc (.cells #[.int .i64 s1,.slice a1 n1 c1] 54)).heap.size=w.heap.size+1 from by simp] at bxB
 have qx:QRes ((((w.alloc (.cells #[.int .i64 s1,.slice a1 n1 c1] 54)).alloc (.cells #[.int .i64 s2,.slice a2 n2 c2] 54)).alloc (.cells #[.int .i64 0,.slice none 0 0,.int .i64 0,.slice none 0 0] 56)).alloc (.cells #[.int .i64 0,.int .i64 0] 26)) (w.heap.size+1+1):=by
  have:=qW ((w.alloc (.cells #[.int .i64 s1,.slice a1 n1 c1] 54)).alloc (.cells #[.int .i64 s2,.slice a2 n2 c2] 54)) (.cells #[.int .i64 0,.slice none 0 0,.int .i64 0,.slice none 0 0] 56);have q:QRes (((w.alloc (.cells #[.int .i64 s1,.slice a1 n1 c1] 54)).alloc (.cells #[.int .i64 s2,.slice a2 n2 c2] 54)).alloc (.cells #[.int .i64 0,.slice none 0 0,.int .i64 0,.slice none 0 0] 56)) (w.heap.size+1+1):=⟨by simpa using this⟩;exact q.ext (Ext.alloc _ _)
 have fx:FRes ((((w.alloc (.cells #[.int .i64 s1,.slice a1 n1 c1] 54)).alloc (.cells #[.int .i64 s2,.slice a2 n2 c2] 54)).alloc (.cells #[.int .i64 0,.slice none 0 0,.int .i64 0,.slice none 0 0] 56)).alloc (.cells #[.int .i64 0,.int .i64 0] 26)) (w.heap.size+1+1+1):=by
  have:=qW (((w.alloc (.cells #[.int .i64 s1,.slice a1 n1 c1] 54)).alloc (.cells #[.int .i64 s2,.slice a2 n2 c2] 54)).alloc (.cells #[.int .i64 0,.slice none 0 0,.int .i64 0,.slice none 0 0] 56)) (.cells #[.int .i64 0,.int .i64 0] 26);exact ⟨by simp,by simpa using this⟩
 go_enter Tryz.func63,Tryz.ntmps63
 go_wp2_with fail
 generalize (((w.alloc (.cells #[.int .i64 s1,.slice a1 n1 c1] 54)).alloc (.cells #[.int .i64 s2,.slice a2 n2 c2] 54)).alloc (.cells #[.int .i64 0,.slice none 0 0,.int .i64 0,.slice none 0 0] 56)).alloc (.cells #[.int .i64 0,.int .i64 0] 26)=W0 at *;refine (Hs2.out _).mono ?_;rintro e we ⟨rfl,hxe⟩;have bA:=bxA.ext hxe;have bB:=bxB.ext hxe;have x0:=bA.c0;have x1:=bA.c1;have x2:=bB.c0;have x3:=bB.c1
 go_wp2_with fail
 refine (Hlo.out _ (E0.trans hxe)).mono ?_;rintro e wf ⟨s,a,n,c,s',a',n',c',p,q,rfl,hp,hq,hz,hnz,hxf⟩;have qe:=qx.ext (hxe.trans hxf);have fe:=fx.ext (hxe.trans hxf);have q0:=qe.c0;have q1:=qe.c1;have q2:=qe.c2;have q3:=qe.c3;have f0:=qe.f0 0;have f1:=qe.f0 1;have f2:=qe.f0 2;have f3:=qe.f0 3;have q4:=fe.c0;have q5:=fe.c1;have f4:=fe.f0;have f5:=fe.f1;have hkk:=Keep64.set6 (.i64 q0) (.slice q1) (.i64 q2) (.slice q3) (.i64 q4) (.i64 q5) (notW_i64 s) (notW_slice a n c) (notW_i64 s') (notW_slice a' n' c') (notW_i64 0) (.int .i64 0);have HE:=hid (E0.trans (hxe.trans hxf));have Hz:=hid hz;have Hnz:=hid hnz;clear x0 x1 x2 x3 hz hnz
 go_wp2_with fail
 exact qJ (v:=.tuple #[.agg #[.int .i64 s,.slice a n c,.int .i64 s',.slice a' n' c'],.agg #[.int .i64 0,.int .i64 0]]) (by simp [results,Tryz.results63,go_sem,q0,q1,q2,q3,q4,q5]) rfl ⟨s,a,n,c,s',a',n',c',p,q,rfl,hp.keep64 hkk,hq.keep64 hkk,Hz.out,Hnz.out,((HE.out.put2 (by omega) _ _).put2 (by omega) _ _).put2 (by omega) _ _⟩
theorem Parts_any (s s':Int) (a a':Option Addr) (n c n' c':Nat) (p q:Int) (w:World) (h1:IsInt w s a n c p) (h2:IsInt w s' a' n' c' q) :
  Calls Tryz.prog 57 #[.agg #[.int .i64 s,.slice a n c,.int .i64 s',.slice a' n' c']] w fun e w'=>∃ (s3:Int) (a3:Option Addr) (n3 c3:Nat) (s4:Int) (a4:Option Addr) (n4 c4:Nat),e=.returned (.tuple #[.agg #[.int .i64 s3,.slice a3 n3 c3],.agg #[.int .i64 s4,.slice a4 n4 c4]])/\IsInt w' s3 a3 n3 c3 p/\IsInt w' s4 a4 n4 c4 (if p=0 then 1 else q)/\Ext w w':=by
 have H1:=hid h1;have H2:=hid h2;have Hs:=hid (Sign_any s (.slice a n c));have hc:=h1.cmp3;obtain ⟨g,hg⟩:∃ g,cmp3 s 0=g:=⟨_,rfl⟩;rw [hg] at Hs;have E0:=((Ext.alloc w (.cells #[.int .i64 s,.slice a n c,.int .i64 s',.slice a' n' c'] 56)).then (.cells #[.int .i64 0,.slice none 0 0] 54)).then (.cells #[.int .i64 0,.slice none 0 0] 54)
 have rA:Res (((w.alloc (.cells #[.int .i64 s,.slice a n c,.int .i64 s',.slice a' n' c'] 56)).alloc (.cells #[.int .i64 0,.slice none 0 0] 54)).alloc (.cells #[.int .i64 0,.slice none 0 0] 54)) (w.heap.size+1):=by
  have:=(res_new (w.alloc (.cells #[.int .i64 s,.slice a n c,.int .i64 s',.slice a' n' c'] 56))).ext (Ext.alloc _ (.cells #[.int .i64 0,.slice none 0 0] 54))
  simpa using this
 have rB:Res (((w.alloc (.cells #[.int .i64 s,.slice a n c,.int .i64 s',.slice a' n' c'] 56)).alloc (.cells #[.int .i64 0,.slice none 0 0] 54)).alloc (.cells #[.int .i64 0,.slice none 0 0] 54)) (w.heap.size+1+1):=by
  have:=res_new ((w.alloc (.cells #[.int .i64 s,.slice a n c,.int .i64 s',.slice a' n' c'] 56)).alloc (.cells #[.int .i64 0,.slice none 0 0] 54))
  simpa using this
 have hrow:(((w.alloc (.cells #[.int .i64 s,.slice a n c,.int .i64 s',.slice a' n' c'] 56)).alloc (.cells #[.int .i64 0,.slice none 0 0] 54)).alloc (.cells #[.int .i64 0,.slice none 0 0] 54)).heap[w.heap.size]?=some (.cells #[.int .i64 s,.slice a n c,.int .i64 s',.slice a' n' c'] 56 (0,0)) :=
  (((Ext.alloc _ _).block _ (by simp;omega)).trans ((Ext.alloc _ _).block _ (by simp))).trans (qW w _)
 have hlt:w.heap.size+2<(((w.alloc (.cells #[.int .i64 s,.slice a n c,.int .i64 s',.slice a' n' c'] 56)).alloc (.cells #[.int .i64 0,.slice none 0 0] 54)).alloc (.cells #[.int .i64 0,.slice none 0 0] 54)).heap.size:=by simp
 by_cases hp:p=0
 ·have hg0:g=0:=by rw [<-hg,hc,hp];decide
  subst hg0;rw [qU hp];clear h1 h2 hc hg
  go_enter Tryz.func57,Tryz.ntmps57
  go_wp2_with fail
  generalize ((w.alloc (.cells #[.int .i64 s,.slice a n c,.int .i64 s',.slice a' n' c'] 56)).alloc (.cells #[.int .i64 0,.slice none 0 0] 54)).alloc (.cells #[.int .i64 0,.slice none 0 0] 54)=W0 at *;refine (Hs.out _).mono ?_;rintro e we ⟨rfl,hxe⟩
  go_wp2_with fail
  refine (Of_any 1 (by omega) (by omega) we).mono ?_;rintro e wf ⟨rfl,_,hxf⟩;have r1:=rA.ext (hxe.trans hxf);have r2:=rB.ext (hxe.trans hxf);have k0:=r1.c0;have k1:=r1.c1;have g0:=r1.f0;have g1:=r1.f1;have k2:=r2.c0;have k3:=r2.c1;have g2:=r2.f0;have g3:=r2.f1
  go_wp2_with fail
  exact qJ (v:=.tuple #[.agg #[.int .i64 0,.slice none 0 0],.agg #[.int .i64 1,.slice none 0 0]]) (by simp [results,Tryz.results57,go_sem,k0,k1,k2,k3]) rfl ⟨0,none,0,0,1,none,0,0,rfl,by rw [hp];exact IsInt.small _ _ (by omega) (by omega),IsInt.small _ _ (by omega) (by omega),((E0.trans (hxe.trans hxf)).put2 (by omega) _ _).put2 (by omega) _ _⟩
 ·have hgn:=Bx.sg hg hc hp
  rw [qE hp];clear h1 h2 hc hg hp
  go_enter Tryz.func57,Tryz.ntmps57
  go_wp2_with fail
  generalize ((w.alloc (.cells #[.int .i64 s,.slice a n c,.int .i64 s',.slice a' n' c'] 56)).alloc (.cells #[.int .i64 0,.slice none 0 0] 54)).alloc (.cells #[.int .i64 0,.slice none 0 0] 54)=W0 at *;refine (Hs.out _).mono ?_;rintro e we ⟨rfl,hxe⟩;have hre:we.heap[w.heap.size]?=some (.cells #[.int .i64 s,.slice a n c,.int .i64 s',.slice a' n' c'] 56 (0,0)):=(hxe.block _ (by omega)).trans hrow
  have m0:we.cell? ⟨w.heap.size,0,none⟩=some (.int .i64 s):=by rw [qD we _ 0 _ _ (0,0) hre];rfl
  have m1:we.cell? ⟨w.heap.size,1,none⟩=some (.slice a n c):=by rw [qD we _ 1 _ _ (0,0) hre];rfl
  have m2:we.cell? ⟨w.heap.size,2,none⟩=some (.int .i64 s'):=by rw [qD we _ 2 _ _ (0,0) hre];rfl
  have m3:we.cell? ⟨w.heap.size,3,none⟩=some (.slice a' n' c'):=by rw [qD we _ 3 _ _ (0,0) hre];rfl
  have r1:=rA.ext hxe;have r2:=rB.ext hxe;have k0:=r1.c0;have k1:=r1.c1;have g0:=r1.f0;have g1:=r1.f1;have k2:=r2.c0;have k3:=r2.c1;have g2:=r2.f0;have g3:=r2.f1;have hkk:=Keep64.set4 (w:=we) (.i64 k0) (.slice k1) (.i64 k2) (.slice k3) (notW_i64 s) (notW_slice a n c) (notW_i64 s') (.slice a' n' c')
  go_wp2_with fail
  go_region
  go_wp2_with fail
  exact qJ (v:=.tuple #[.agg #[.int .i64 s,.slice a n c],.agg #[.int .i64 s',.slice a' n' c']]) (by simp [results,Tryz.results57,go_sem,k0,k1,k2,k3]) rfl ⟨s,a,n,c,s',a',n',c',rfl,((H1.out.ext (E0.trans hxe)).keep64 hkk).ext (qG (Ext.refl _)),((H2.out.ext (E0.trans hxe)).keep64 hkk).ext (qG (Ext.refl _)),qG (((E0.trans hxe).put2 (by omega) _ _).put2 (by omega) _ _)⟩
open Go.RowKit Go.Sort
abbrev Ten (w : World) : Prop := Lib.TabIs Tryz.prog w "internal/strconv.uint64pow10" .u64 Lib.pow10Tab
theorem formatUint_in (u:Nat) (hu64:u<18446744073709551616) (w:World) (htab:Ten w) :
  Calls Tryz.prog 163 #[.int .u64 u,.int .i64 10] w fun e w'=>e=.returned (.string ⟨(Lib.decDigits u).toArray⟩)/\Ext w w':=by
 by_cases hs:u<100
 ·have iu:(u:Int)<100:=by omega
  go_enter Tryz.func163,Tryz.ntmps163
  go_wp2_with (go_at_call 159;refine (Tryz.internal_strconv_small u hs _).mono ?_;rintro e w' ⟨rfl,rfl⟩)
  go_ret
  exact ⟨rfl,Ext.refl _⟩
 ·have hu1:1<=u:=by omega
  have iu:(100:Int)<=(u:Int):=by omega
  have hnd20:Lib.nDigits u<=20:=by have:=Lib.numDigits_eq u hu1 hu64;split at this<;>omega
  have hal:Tryz.prog.arrayLen 191=24:=by simp [Program.arrayLen,Tryz.underlying191]
  have hsl:∀ W,(Instr.sliceAt 191 (.pointer (some ⟨w.heap.size,0,none⟩)) none (some (.int .i64 (Lib.nDigits u:Int))) none).run Tryz.prog W=.ok (.slice (some ⟨w.heap.size,0,none⟩) (Lib.nDigits u) 24) W:=fun W=>by
   rw [run_sliceAt_array_h W 191 ⟨w.heap.size,0,none⟩ (by simp [Program.arrayLen,Program.elem,Tryz.underlying191]) .i64 (Lib.nDigits u:Int) (by omega) (by rw [hal];omega)]
   go_simp
  have hH0:=Lib.holds_zero0 w 191 (Lib.nDigits u) (by omega);have hfmt:=Tryz.internal_strconv_formatBase10 w.heap.size 0 24 u (Array.replicate (Lib.nDigits u) 0) (w.alloc (.cells Lib.zeros24 191)) hH0 (by rw [Array.size_replicate];exact Lib.lt_pow_nDigits u) hu64 (by rw [Array.size_replicate];omega);rw [Array.size_replicate] at hfmt;have HH0:=hid hH0;clear hH0 hal
  go_enter Tryz.func163,Tryz.ntmps163
  go_wp2_with (first
   | (go_at_call 160;refine (Tryz.internal_strconv_numDigits u hu1 hu64 _ (Lib.tabIs_alloc htab _)).mono ?_;rintro e w' ⟨rfl,rfl⟩))
  go_at_call 161
  refine hfmt.mono ?_;rintro e w' ⟨rfl,k,v',dk,rfl,hF⟩
  have hcv:(convert 126 9 (.slice (some ⟨w.heap.size,0,none⟩) (Lib.nDigits u) 24)).run Tryz.prog ((putRow (fun (b:UInt8)=>Value.int .u8 (b.toNat:Int)) (w.alloc (.cells Lib.zeros24 191)) w.heap.size 0 dk).drewN k)=.ok (.string ⟨(Lib.decDigits u).toArray⟩) ((putRow (fun (b:UInt8)=>Value.int .u8 (b.toNat:Int)) (w.alloc (.cells Lib.zeros24 191)) w.heap.size 0 dk).drewN k):=by
   have h:=run_convert_bytes_back (P:=Tryz.prog) ((putRow (fun (b:UInt8)=>Value.int .u8 (b.toNat:Int)) (w.alloc (.cells Lib.zeros24 191)) w.heap.size 0 dk).drewN k) 126 9 5 ⟨w.heap.size,0,none⟩ 24 (Lib.decDigits u) Tryz.underlying126 Tryz.underlying5 Tryz.underlying9 (fun j hj=>by
    rw [Lib.row_is_numeral hF j hj,Lib.add_plain,World.cell?_drewN]
    exact cell?_putRow (fun (b:UInt8)=>Value.int .u8 (b.toNat:Int)) _ w.heap.size 0 _ dk HH0.out (by rw [hF.size,Array.size_replicate]) j (by rw [hF.size];rw [Lib.decDigits_length] at hj;exact hj))
   rw [Lib.decDigits_length] at h;exact h
  go_wp2
  go_ret
  obtain ⟨os,eo⟩:=Lib.fin_at w (.cells Lib.zeros24 191) dk k 0;refine ⟨rfl,?_⟩
  show Ext w ((putRow _ _ _ _ _).drewN k)
  rw [eo];exact Lib.below_grow _ w (qZ _) k os
theorem formatUint_any (u:Nat) (hu64:u<18446744073709551616) (w:World) (htab:Ten w) :
  Calls Tryz.prog 155 #[.int .u64 u,.int .i64 10] w fun e w'=>e=.returned (.string ⟨(Lib.decDigits u).toArray⟩)/\Ext w w':=by
 go_enter Tryz.func155,Tryz.ntmps155
 go_wp2_with fail
 refine (formatUint_in u hu64 w htab).mono ?_;rintro e w' ⟨rfl,he⟩
 go_wp2_with fail
 go_ret
 exact ⟨rfl,he⟩
theorem itoa_any (n:Int) (h0 : -9223372036854775808<=n) (h1:n<=9223372036854775807) (w:World) (htab:Ten w) :
  Calls Tryz.prog 114 #[.int .i64 n] w fun e w'=>e=.returned (.string ⟨(Lib.itoa n).toArray⟩)/\Ext w w':=by
 refine (Tryz.strconv_Itoa n h0 h1 w htab).mono ?_;rintro e w' ⟨rfl,k,os,rfl⟩;exact ⟨rfl,Lib.below_grow _ w (qZ _) k os⟩
theorem byte_info:(Tryz.prog.info? 5).map (fun i=>(i.zero,i.size,i.bytes))=some (some (.int .u8 0),1,1):=by kernel_rfl
theorem new_byte (w:World) (x:UInt8) (n:Int) (hn:(x.toNat:Int)=n) (e:TypeId):∀ j u,(byC [x])[j]?=some u->(w.alloc (.cells #[.int .u8 n] e)).cell? ((⟨w.heap.size,0,none⟩:Addr).add j)=some u:=by
 intro j u hu
 cases j with
 | zero =>
  simp only [byC,yW,yI,List.getElem?_cons_zero,yX] at hu;rw [<-hu,hn,Lib.add_plain,World.cell?_alloc_new]
  rfl
 | succ k=>simp [byC] at hu
def digs (k:Nat) (fill:Bool) (x:Nat):List UInt8:=if fill then padD (19*2 ^ k) x else Lib.decDigits x
theorem word_of (l:List Nat) (hr:Nrm l) (hv:val l<10000000000000000000):l=[]\/l=[val l]:=by
 have hlen:l.length<=1:=by
  apply lt_len hr
  rw [Nat.pow_one,B64_eq];omega
 cases l with
 | nil=>exact qM rfl
 | cons x r =>
  have:r=[]:=jD (by simpa using hlen);subst this
  right;simp [val]
theorem appendWord_any (v:Value) (bl:List UInt8) (ao:Option Addr) (l:List Nat) (n c:Nat) (fill:Bool) (w:World) (hl:l.length=n) (hs:Seg w ao l) (hr:Nrm l) (hc:n<=c) (hv:val l<10000000000000000000) (ho:Own w 5 v bl) (hb:bl.length<=1000000000) (htab:Ten w) :
  Calls Tryz.prog 142 #[v,.slice ao n c,.bool fill] w fun e w'=>∃ v',e=.returned v'/\Own w' 5 v' (bl++digs 0 fill (val l))/\Apd w w' v v':=by
 obtain ⟨i0,hi,hz0,hz1,hz2⟩:=info_parts byte_info;have hwd:=word_of l hr hv;obtain ⟨x,hx⟩:∃ x,val l=x:=⟨_,rfl⟩;rw [hx] at hwd hv ⊢;have hnd:Lib.nDigits x<=19:=nDigits_le 19 x (by omega) hv;have hnp:=Lib.nDigits_pos x;have hdl:=Lib.decDigits_length x;have Hfmt:=hid (fun wx (h:Ten wx)=>formatUint_any x (by omega) wx h)
 have hsz:(⟨(Lib.decDigits x).toArray⟩:ByteArray).size=Lib.nDigits x:=by simp [ByteArray.size,hdl]
 have Hfill:Hid (padD 19 x=List.replicate (19-Lib.nDigits x) 48++Lib.decDigits x):=padD_fill 19 x hnd;obtain ⟨D,hD⟩:∃ D,Lib.decDigits x=D:=⟨_,rfl⟩;obtain ⟨nd,hn'⟩:∃ nd,Lib.nDigits x=nd:=⟨_,rfl⟩;rw [hn'] at hnd hnp hdl hsz Hfill;rw [hD] at hdl hsz Hfill Hfmt
 have Hdig:Hid (∀ k,k<=19-nd->(k=0\/fill=true)->¬ (fill=true/\nd+k<19)->bl++List.replicate k 48++D=bl++digs 0 fill x):=by
  intro k h1 h2 h3;unfold digs;rw [Nat.pow_zero,Nat.mul_one,Hfill.out,hD,yK]
  cases fill
  ·have:k=0:=by simpa using h2
   subst this
   rfl
  ·have:k=19-nd:=by simp at h3;omega
   subst this
   rfl
 obtain ⟨S,hS⟩:∃ S,(⟨D.toArray⟩:ByteArray)=S:=⟨_,rfl⟩;rw [hS] at hsz Hfmt;have HS:=hid hS;have Hdl:=hid hdl;have Ho:=hid ho;have Hb:=hid hb;have Htab:=hid htab;clear hS hdl ho hb htab hD hn' Hfill hv hr
 have ind:(nd:Int)<=19:=by omega
 have hfr:(l=[]/\x=0)\/(l=[x]/\∃ b o,ao=some ⟨b,o,none⟩/\w.cell? ⟨b,o,none⟩=some (.int .u64 (x:Nat))):=by
  rcases hwd with rfl | rfl
  ·left;exact ⟨rfl,by simpa [val] using hx.symm⟩
  ·right
   refine ⟨rfl,?_⟩
   rcases hs with ⟨_,h⟩ | ⟨b,o,rfl,_,hcell⟩
   ·simp at h
   ·have:=hcell 0 (by simp)
    exact ⟨b,o,rfl,by simpa using this⟩
 clear hwd hs hx
 rcases hfr with ⟨rfl,rfl⟩ | ⟨rfl,b,o,rfl,hcl⟩
 all_goals
  subst hl
  go_enter Tryz.func142,Tryz.ntmps142
  go_wp2_with fail
  refine (Hfmt.out _ Htab.out).mono ?_;rintro e w1 ⟨rfl,he1⟩
  go_wp2_with fail
  go_loopw [0,9] (fun ov iv wr=>∃ k:Nat,k<=19-nd/\(k=0\/fill=true)/\iv=.int .i64 ((nd+k:Nat))/\Own wr 5 ov (bl++List.replicate k 48)/\Apd w wr v ov) (fun _ iv _=>19-(intOf iv).toNat)
  case atStart=>exact ⟨0,by omega,qM rfl,by go_num,by simpa using Ho.out.ext he1,Apd.of_ext he1 _⟩
  case round =>
   obtain ⟨k,hk,hkf,rfl,hok,hak⟩:=hrel;have Hkf:=hid hkf;clear hkf
   by_cases hgo:fill=true/\nd+k<19
   ·obtain ⟨rfl,hlt⟩:=hgo
    have ik:(nd:Int)+(k:Int)<19:=by omega
    have hbk:=Hb.out
    go_wp2_with (at_builtin;refine wpList_append_bytes _ rfl _ _ 126 rfl 5 i0 Tryz.underlying126 hi hz0 hz1 hz2 _ (bl++List.replicate k 48) rfl (hok.ext (Ext.alloc _ _)) ⟨wr.heap.size,0,none⟩ 1 1 [48] rfl rfl (by omega) (new_byte wr 48 48 rfl _) (by simp;omega) ?_;intro v' w' hown' hap')
    go_roundw
    case rel=>exact ⟨k+1,by omega,by simp,by go_num,by rw [List.replicate_succ',<-yK];exact hown',hak.trans ((Apd.of_ext (Ext.alloc _ _) _).trans hap')⟩
    case measure=>simp [intOf];omega
   ·have Hfin:=hid (Hdig.out k hk Hkf.out hgo)
    have hbk:=Hb.out;have hdk:=Hdl.out
    cases fill
    case' true=>have ik:¬ (nd:Int)+(k:Int)<19:=by simp at hgo;omega
    all_goals
     clear hgo
     go_wp2_with (at_builtin;refine wpList_append_text _ rfl _ _ 126 9 rfl 5 i0 Tryz.underlying126 Tryz.underlying9 hi hz0 hz1 hz2 _ (bl++List.replicate k 48) rfl hok D (by rw [HS.out];rfl) (by omega) (by simp;omega) ?_;intro v' w' hown' hap')
     go_ret
     exact ⟨v',rfl,by rw [<-Hfin.out];exact hown',hak.trans hap'⟩
def Pw (k:Nat):Nat:=10 ^ (19*2 ^ k)
theorem Pw_pos (k:Nat):0<Pw k:=jF (by decide)
theorem Pw_zero:Pw 0=10000000000000000000:=by decide
theorem Pw_succ (k:Nat):Pw (k+1)=Pw k*Pw k:=by
 unfold Pw;rw [<-jS,jK]
 congr 1
 omega
theorem Pw_lt (k:Nat):Pw k<B64 ^ (2 ^ k):=by
 induction k with
 | zero=>rw [Pw_zero,Nat.pow_zero,Nat.pow_one,B64_eq];omega
 | succ k ih =>
  rw [Pw_succ,jK,Nat.mul_two,jS];exact Nat.mul_lt_mul'' ih ih
theorem digs_split (k x:Nat) (fill:Bool) (h:fill=true\/0<x / Pw k):digs (k+1) fill x=digs k fill (x / Pw k)++digs k true (x % Pw k):=by
 have e:19*2 ^ (k+1)=19*2 ^ k+19*2 ^ k:=by rw [jK];omega
 unfold digs
 cases fill
 ·have hp:0<x / Pw k:=by simpa using h
  simp only [Bool.false_eq_true,if_false,if_true];exact decDigits_append _ _ hp
 ·simp only [if_true]
  rw [e];exact padD_append _ _ _
theorem digs_low (k x:Nat):digs (k+1) false x=digs k false x:=rfl
theorem digs_len (k x:Nat) (fill:Bool) (h:x<Pw k):(digs k fill x).length<=19*2 ^ k:=by
 unfold digs
 cases fill
 ·simp only [Bool.false_eq_true,if_false]
  rw [Lib.decDigits_length];exact nDigits_le _ _ (by have:0<2 ^ k:=jF (by decide);omega) h
 ·simp only [if_true]
  rw [padD_length];exact qZ _
def Pows (w:World) (po:Option Addr) (k:Nat):Prop :=
 k=0\/∃ b,po=some ⟨b,0,none⟩/\∀ t,t<k->∃ v,w.cell? ⟨b,t,none⟩=some v/\Num w v (Pw t)
theorem Num.isSlice {w:World} {v:Value} {x:Nat} (h:Num w v x):∃ a n c,v=.slice a n c:=by
 obtain ⟨a,l,c,rfl,_⟩:=h;exact ⟨_,_,_,rfl⟩
theorem Num.keep {w w':World} {v:Value} {x:Nat} (h:Num w v x) (k:∀ ao l,Seg w ao l->Seg w' ao l):Num w' v x:=by
 obtain ⟨a,l,c,rfl,h1,h2,h3,h4⟩:=h;exact ⟨a,l,c,rfl,h1,h2,k _ _ h3,h4⟩
theorem Pows.ext {w w':World} {po:Option Addr} {k:Nat} (h:Pows w po k) (he:Ext w w'):Pows w' po k:=by
 rcases h with h | ⟨b,rfl,h⟩
 ·exact qM h
 ·refine qO ⟨b,rfl,fun t ht=>?_⟩
  obtain ⟨v,h1,h2⟩:=h t ht;exact ⟨v,(he.cell (p:=⟨b,t,none⟩) (World.block_lt_of_cell? w ⟨b,t,none⟩ h1)).trans h1,h2.ext he⟩
theorem Pows.apd {w w':World} {e:TypeId} {v v':Value} {l:List UInt8} {po:Option Addr} {k:Nat} (h:Pows w po k) (ho:Own w e v l) (ha:Apd w w' v v'):Pows w' po k:=by
 rcases h with h | ⟨b,rfl,h⟩
 ·exact qM h
 ·refine qO ⟨b,rfl,fun t ht=>?_⟩
  obtain ⟨u,h1,h2⟩:=h t ht;refine ⟨u,ha.cell ho h1 ?_,h2.keep (fun _ _ hs=>hs.apd ho ha)⟩;obtain ⟨a,n,c,rfl⟩:=h2.isSlice;intro x hx
  cases hx
theorem Pows.less {w:World} {po:Option Addr} {k:Nat} (h:Pows w po (k+1)):Pows w po k:=by
 rcases h with h | ⟨b,rfl,h⟩
 ·exact absurd h (by omega)
 ·exact qO ⟨b,rfl,fun t ht=>h t (by omega)⟩
theorem pow10_ne:Lib.pow10Tab≠[]:=by
 intro h;have:=Lib.pow10Tab_length;rw [h] at this
 simp at this
theorem appendDigits_any (k:Nat):∀ (v:Value) (bl:List UInt8) (ao po:Option Addr) (l:List Nat) (n c cap:Nat) (fill:Bool) (w:World),l.length=n->Seg w ao l->Dig l->Nrm l->n<=c->c<=maxLen->n<=16777216->Hid (val l<Pw k)->k<=20->k<=cap->cap<=maxLen->Pows w po k->Own w 5 v bl->Hid (bl.length+19*2 ^ k<=1000000000)->Ten w ->
  Calls Tryz.prog 115 #[v,.slice ao n c,.slice po k cap,.bool fill] w fun e w'=>∃ v',e=.returned v'/\Own w' 5 v' (bl++digs k fill (val l))/\Apd w w' v v':=by
 induction k with
 | zero =>
  intro v bl ao po l n c cap fill w hl hs hd hr hc hcm hn Hv hk hcap hcapm hp ho Hb htab;have Hl:=hid hl;have Hs:=hid hs;have Ho:=hid ho;have Htab:=hid htab;have Hr:=hid hr;clear hl hs hd hr hp ho htab
  go_enter Tryz.func115,Tryz.ntmps115
  go_wp2_with fail
  refine (appendWord_any v bl ao l n c fill w Hl.out Hs.out Hr.out hc (by have:=Hv.out;rw [Pw_zero] at this;exact this) Ho.out (by have:=Hb.out;omega) Htab.out).mono ?_;rintro e w1 ⟨v',rfl,ho',ha'⟩
  go_wp2_with fail
  go_ret
  exact ⟨v',rfl,ho',ha'⟩
 | succ k ih =>
  intro v bl ao po l n c cap fill w hl hs hd hr hc hcm hn Hv hk hcap hcapm hp ho Hb htab;have Ih:=hid ih;clear ih;have Hp:=hid hp.less
  rcases hp with hp | ⟨b,rfl,hp⟩
  ·exact absurd hp (by omega)
  obtain ⟨pv,hpc,hpn⟩:=hp k (by omega);obtain ⟨a2,l2,n2,c2,rfl,hl2,hn2,hc2,hs2,hd2,hr2,hv2⟩:=hpn.named
  have hn2b:n2<=1048576:=by
   rw [<-hl2];have h1:l2.length<=2 ^ k:=lt_len hr2 (by rw [hv2];exact Pw_lt k);have h2:(2:Nat) ^ k<=2 ^ 20:=qY (by decide) (by omega);omega
  have hn21:1<=n2:=by
   rw [<-hl2]
   cases l2 with
   | nil=>have:=Pw_pos k;rw [<-hv2] at this;simp [val] at this
   | cons x r=>simp
  have Hdiv:=hid (fun wx (hx:Ext w wx)=>divWords_any ao a2 l l2 n2 n c c2 wx hl hl2 (hs.ext hx) (hs2.ext hx) hd hd2 hr hr2 hc hn2 hcm hn21 hn (by omega))
  have Hhi:Hid (val l / val l2<Pw k):=by
   show _<_
   rw [hv2,jO (Pw_pos k),<-Pw_succ];exact Hv.out
  have Hlo:Hid (val l % val l2<Pw k):=by
   show _<_
   rw [hv2];exact Nat.mod_lt _ (Pw_pos k)
  have Hv2:=hid hv2;obtain ⟨hi,hhi⟩:∃ hi,val l / val l2=hi:=⟨_,rfl⟩;obtain ⟨lo,hlo⟩:∃ lo,val l % val l2=lo:=⟨_,rfl⟩;rw [hhi,hlo] at Hdiv;rw [hhi] at Hhi;rw [hlo] at Hlo
  have Hsame:Hid (hi=0->lo=val l):=by
   intro h0;rw [<-hlo]
   apply Nat.mod_eq_of_lt
   have hp2:0<val l2:=by rw [hv2];exact Pw_pos k
   rw [<-hhi] at h0;exact (Nat.div_eq_zero_iff_lt hp2).1 h0
  have Hsp:Hid ((fill=true\/0<hi)->digs (k+1) fill (val l)=digs k fill hi++digs k true lo):=by
   intro h;rw [<-hhi,<-hlo,hv2];exact digs_split k (val l) fill (by rw [<-hv2,hhi];exact h)
  have hhb:hi<B64 ^ 1048576->True:=fun _=>trivial
  clear hhb
  have hpw2:(2:Nat) ^ k<=1048576:=by
   have h2:(2:Nat) ^ k<=2 ^ 20:=qY (by decide) (by omega);omega
  have Hpw2:=hid hpw2
  have Hbk:Hid (bl.length+19*2 ^ k+19*2 ^ k<=1000000000):=by
   have:=Hb.out;rw [jK] at this
   show _<=_
   omega
  have Ho:=hid ho;have Htab:=hid htab;clear hp hpn hs hd hr hl hs2 hd2 hr2 hv2 hl2 hhi hlo ho htab Hb Hv hpw2
  have ik:(k:Int)+1-1=(k:Int):=by omega
  have ik2:(0:Int)<=(k:Int):=by omega
  have icap:(k:Int)<=(cap:Int):=by omega
  have ilt:(k:Int)<(k:Int)+1:=by omega
  go_enter Tryz.func115,Tryz.ntmps115
  go_wp2_with fail
  refine (Hdiv.out _ (Ext.refl _)).mono ?_;rintro e w1 ⟨v1,v2,rfl,hq,hrm,he1⟩;obtain ⟨a5,l5,n5,c5,rfl,hl5,hn5,hc5,hs5,hd5,hr5,hv5⟩:=hq.named;obtain ⟨a6,l6,n6,c6,rfl,hl6,hn6,hc6,hs6,hd6,hr6,hv6⟩:=hrm.named
  have hb5:n5<=1048576:=by
   rw [<-hl5];exact qL (lt_len hr5 (by rw [hv5];exact Nat.lt_trans Hhi.out (Pw_lt k))) Hpw2.out
  have hb6:n6<=1048576:=by
   rw [<-hl6];exact qL (lt_len hr6 (by rw [hv6];exact Nat.lt_trans Hlo.out (Pw_lt k))) Hpw2.out
  have hzero:n5=0↔hi=0:=by
   rw [<-hl5,<-hv5]
   constructor
   ·intro h;have:l5=[]:=jD h;subst this;rfl
   ·intro h
    cases h5:l5 with
    | nil=>rfl
    | cons x r =>
     have h7:=hr5.ge (by rw [h5];simp);have h8:0<B64 ^ (l5.length-1):=jF B64_pos;omega
  have Hzero:=hid hzero;have Ho1:=hid (Ho.out.ext he1);have Hc5:=hid (fun fl=>Ih.out v bl a5 (some ⟨b,0,none⟩) l5 n5 c5 cap fl w1 hl5 hs5 hd5 hr5 hn5 hc5 (by omega) (hid (by rw [hv5];exact Hhi.out)) (by omega) (by omega) hcapm (Hp.out.ext he1) Ho1.out (hid (by have:=Hbk.out;omega)) (tab_ext Htab.out he1));have Hc6:=hid (fun v bl fl wx (h1:Seg wx a6 l6) (h2:Pows wx (some ⟨b,0,none⟩) k) (h3:Own wx 5 v bl) (h4:bl.length+19*2 ^ k<=1000000000) (h5:Ten wx)=>Ih.out v bl a6 (some ⟨b,0,none⟩) l6 n6 c6 cap fl wx hl6 h1 hd6 hr6 hn6 hc6 (by omega) (hid (by rw [hv6];exact Hlo.out)) (by omega) (by omega) hcapm h2 h3 (hid h4) h5);rw [hv5] at Hc5;rw [hv6] at Hc6;have Hs6:=hid hs6;clear hzero hq hrm hl5 hn5 hc5 hs5 hd5 hr5 hv5 hl6 hn6 hc6 hs6 hd6 hr6 hv6
  by_cases hA:n5=0/\fill=false
  ·obtain ⟨rfl,rfl⟩:=hA
   have hh0:=Hzero.out.1 rfl
   go_wp2_with fail
   refine (Hc6.out v bl false w1 Hs6.out (Hp.out.ext he1) Ho1.out (by have:=Hbk.out;omega) (tab_ext Htab.out he1)).mono ?_;rintro e w2 ⟨v',rfl,ho',ha'⟩
   go_wp2_with fail
   go_ret
   exact ⟨v',rfl,by rw [digs_low,<-Hsame.out hh0];exact ho',(Apd.of_ext he1 _).trans ha'⟩
  ·have Hsp2:=hid (Hsp.out (by
    cases fill
    ·right
     have:n5≠0:=fun h=>hA ⟨h,rfl⟩
     have h9:hi≠0:=fun h=>this (Hzero.out.2 h)
     omega
    ·exact qM rfl))
   have hcase:(fill=true/\n5=0)\/(((n5:Int) == 0)=false):=by
    by_cases h0:n5=0
    ·left;refine ⟨?_,h0⟩
     cases fill
     ·exact absurd ⟨h0,rfl⟩ hA
     ·rfl
    ·right;rw [qV];omega
   have hlen5:=digs_len k hi fill Hhi.out;have Hlen5:=hid hlen5;clear hA hlen5
   rcases hcase with ⟨rfl,rfl⟩ | hne
   all_goals
    go_wp2_with fail
    refine (Hc5.out _).mono ?_;rintro e w2 ⟨v2,rfl,ho2,ha2⟩
    go_wp2_with fail
    refine (Hc6.out v2 _ true w2 (Hs6.out.apd Ho1.out ha2) ((Hp.out.ext he1).apd Ho1.out ha2) ho2 (by rw [qT];have:=Hbk.out;have:=Hlen5.out;omega) (tab_apd (tab_ext Htab.out he1) pow10_ne Ho1.out ha2)).mono ?_;rintro e w3 ⟨v3,rfl,ho3,ha3⟩
    go_wp2_with fail
    go_ret
    exact ⟨v3,rfl,by rw [Hsp2.out,<-yK];exact ho3,((Apd.of_ext he1 _).trans ha2).trans ha3⟩
end Go.Proofs.YtjfomkoedgipjaaGreatDoor
