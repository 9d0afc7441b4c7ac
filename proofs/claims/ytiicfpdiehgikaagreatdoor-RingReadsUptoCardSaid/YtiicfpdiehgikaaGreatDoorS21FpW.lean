/-
  Fractions: lowest. Fractions: Over, Parts. What the laws' walks share: bounds, calls whose answers are named, the document's example. Fractions in lowest terms: the only ones. Fractions of the program: what a value stands for; lowest, Over, Parts in these words. The reference reads fractions: word below a bar.
-/
import Derived.Test.YtiicfpdiehgikaaGreatDoorS20FraA
namespace Go.Proofs.YtiicfpdiehgikaaGreatDoor
set_option maxRecDepth 100000
set_option maxHeartbeats 3000000
open Go.RowKit
theorem lowest_any (s1 s2:Int) (a1 a2:Option Addr) (n1 c1 n2 c2:Nat) (z1 z2:Int) (w:World) (h1:IsInt w s1 a1 n1 c1 z1) (h2:IsInt w s2 a2 n2 c2 z2) (K:Nat) (hK:K≤4194304) (hK1:1≤K) (hf1:Fit K z1) (hf2:Fit K z2) (hz2:z2≠0) (hbr:Bru w) :
  Calls Tryz.prog 96 #[.agg #[.int .i64 s1,.slice a1 n1 c1],.agg #[.int .i64 s2,.slice a2 n2 c2]] w fun e w'=>∃ (s:Int) (a:Option Addr) (n c:Nat) (s':Int) (a':Option Addr) (n' c':Nat) (p q:Int),e=.returned (.agg #[.int .i64 s,.slice a n c,.int .i64 s',.slice a' n' c'])∧IsInt w' s a n c p∧IsInt w' s' a' n' c' q∧(z1=0→p=0∧q=0)∧(z1≠0→IsLow z1 z2 p q)∧Ext w w':=by
 have HfA:=hid hf1;have HfB:=hid hf2;have H1:=hid h1;have H2:=hid h2;have Hz2:=hid hz2;have Hbr:=hid hbr
 have Hs1:=hid (Sign_any s1 (.slice a1 n1 c1));have Hn2:=hid (negative_any s2 (.slice a2 n2 c2))
 have Hsg2:=hid h2.sign.1
 have hc1:=h1.cmp3
 obtain ⟨g1,hg1⟩:∃ g,cmp3 s1 0=g:=⟨_,rfl⟩
 rw [hg1] at Hs1
 have hbx:=boxed2 w (.int .i64 s1) (.slice a1 n1 c1) (.int .i64 s2) (.slice a2 n2 c2)
 have E0:=hbx.ext.then (.cells #[.int .i64 0,.slice none 0 0,.int .i64 0,.slice none 0 0] 45)
 have bxA:=((box_new w s1 a1 n1 c1).ext (Ext.alloc _ (.cells #[.int .i64 s2,.slice a2 n2 c2] 24))).ext (Ext.alloc _ (.cells #[.int .i64 0,.slice none 0 0,.int .i64 0,.slice none 0 0] 45))
 have bxB:=(box_new (w.alloc (.cells #[.int .i64 s1,.slice a1 n1 c1] 24)) s2 a2 n2 c2).ext (Ext.alloc _ (.cells #[.int .i64 0,.slice none 0 0,.int .i64 0,.slice none 0 0] 45))
 rw [show (w.alloc (.cells #[.int .i64 s1,.slice a1 n1 c1] 24)).heap.size=w.heap.size+1 from by simp] at bxB
 have qx:QRes (((w.alloc (.cells #[.int .i64 s1,.slice a1 n1 c1] 24)).alloc (.cells #[.int .i64 s2,.slice a2 n2 c2] 24)).alloc (.cells #[.int .i64 0,.slice none 0 0,.int .i64 0,.slice none 0 0] 45)) (w.heap.size+1+1):=by
  have:=heap_alloc_new ((w.alloc (.cells #[.int .i64 s1,.slice a1 n1 c1] 24)).alloc (.cells #[.int .i64 s2,.slice a2 n2 c2] 24)) (.cells #[.int .i64 0,.slice none 0 0,.int .i64 0,.slice none 0 0] 45)
  exact ⟨by simpa using this⟩
 by_cases hz1:z1=0
 ·have hg0:g1=0:=by rw [←hg1,hc1,hz1];decide
  subst hg0
  clear hc1 hg1 h1 h2 hf1 hf2 hbr hz2
  go_enter Tryz.func96,Tryz.ntmps96
  go_wp2_with fail
  generalize ((w.alloc (.cells #[.int .i64 s1,.slice a1 n1 c1] 24)).alloc (.cells #[.int .i64 s2,.slice a2 n2 c2] 24)).alloc (.cells #[.int .i64 0,.slice none 0 0,.int .i64 0,.slice none 0 0] 45)=W0 at *
  refine (Hs1.out _).mono ?_
  rintro e we ⟨rfl,hxe⟩
  have qe:=qx.ext hxe
  have q0:=qe.c0;have q1:=qe.c1;have q2:=qe.c2;have q3:=qe.c3;have f0:=qe.f0 0;have f1:=qe.f0 1;have f2:=qe.f0 2;have f3:=qe.f0 3
  go_wp2_with fail
  exact bodyPost_ret (v:=.agg #[.int .i64 0,.slice none 0 0,.int .i64 0,.slice none 0 0]) (by simp [results,Tryz.results96,go_sem,q0,q1,q2,q3]) rfl ⟨0,none,0,0,0,none,0,0,0,0,rfl,IsInt.small _ _ (by omega) (by omega),IsInt.small _ _ (by omega) (by omega),fun _=>⟨rfl,rfl⟩,fun h=>absurd hz1 h,((E0.trans hxe).put2 (by omega) _ _).put2 (by omega) _ _⟩
 ·have hgn:=Bx.sg hg1 hc1 hz1
  have Hz1:=hid hz1
  clear hc1 hg1 h1 h2 hf1 hf2 hbr hz2 hz1
  go_enter Tryz.func96,Tryz.ntmps96
  go_wp2_with fail
  generalize ((w.alloc (.cells #[.int .i64 s1,.slice a1 n1 c1] 24)).alloc (.cells #[.int .i64 s2,.slice a2 n2 c2] 24)).alloc (.cells #[.int .i64 0,.slice none 0 0,.int .i64 0,.slice none 0 0] 45)=W0 at *
  refine (Hs1.out _).mono ?_
  rintro e we ⟨rfl,hxe⟩
  have x2:=(bxB.ext hxe).c0;have x3:=(bxB.ext hxe).c1
  go_wp2_with fail
  refine (Hn2.out _).mono ?_
  rintro e wf ⟨rfl,hxf⟩
  have HEf:Hid (Ext w wf):=E0.trans (hxe.trans hxf)
  have bA:=bxA.ext (hxe.trans hxf);have bB:=bxB.ext (hxe.trans hxf);have qR:=qx.ext (hxe.trans hxf)
  have I1:=H1.out.ext HEf.out;have I2:=H2.out.ext HEf.out
  clear x2 x3 bxA bxB qx hbx E0 hxe hxf
  by_cases hneg:s2<0
  ·have hd2:decide (s2<0)=true:=decide_eq_true hneg
   have hz2n:z2<0:=Hsg2.out.1 hneg
   have HzB:Hid (0<(-z2)):=by show _<_;omega
   have HzA:Hid ((-z1)≠0):=by show _≠_;have:=Hz1.out;omega
   have HLow:Hid (∀ p q,IsLow (-z1) (-z2) p q→IsLow z1 z2 p q):=fun _ _ h=>h.neg
   have Hm1:=hid (Neg_from I1);have Hm2:=hid (Neg_from I2)
   rw [hd2]
   clear hd2 hneg hz2n
   have u0:=bA.c0;have u1:=bA.c1;have u2:=bB.c0;have u3:=bB.c1
   have hfd:Ext wf wf.drew:=Below.drew (Ext.refl _)
   have hltR:=qR.lt
   go_wp2_with fail
   go_region_with (first | (go_at_call_of 104 s1;refine (Hm1.out _ (by assumption)).mono ?_;rintro e w5 ⟨s5,a5,n5,c5,rfl,hI5,he5,hx5⟩;have v2:=cellKeep he5 (by omega) u2;have v3:=cellKeep he5 (by omega) u3) | (go_at_call_of 104 s2;refine (Hm2.out _ (by assumption)).mono ?_;rintro e w6 ⟨s6,a6,n6,c6,rfl,hI6,he6,hx6⟩;have bA6:=bA.ext he6;have bB6:=bB.ext he6;have k0:=bA6.c0;have k1:=bA6.c1;have g0:=bA6.f0;have g1:=bA6.f1;have k2:=bB6.c0;have k3:=bB6.c1;have g2:=bB6.f0;have g3:=bB6.f1))
   all_goals
    have qR6:=qR.ext he6
    have hkk:=Keep64.set4 (w:=w6) (.i64 k0) (.slice k1) (.i64 k2) (.slice k3) (notW_i64 s5) (notW_slice a5 n5 c5) (notW_i64 s6) (.slice a6 n6 c6)
    have bA7:=((bA6.own s5 a5 n5 c5).put (h:=w.heap.size+1) (o:=0) (by omega) (.int .i64 s6)).put (h:=w.heap.size+1) (o:=1) (by omega) (.slice a6 n6 c6)
    have bB7:=((bB6.put (h:=w.heap.size) (o:=0) (by omega) (.int .i64 s5)).put (h:=w.heap.size) (o:=1) (by omega) (.slice a5 n5 c5)).own s6 a6 n6 c6
    have qR7:=(((qR6.put (h:=w.heap.size) (o:=0) (by omega) (.int .i64 s5)).put (h:=w.heap.size) (o:=1) (by omega) (.slice a5 n5 c5)).put (h:=w.heap.size+1) (o:=0) (by omega) (.int .i64 s6)).put (h:=w.heap.size+1) (o:=1) (by omega) (.slice a6 n6 c6)
    have J5:=(hI5.ext hx6).keep64 hkk
    have J6:=hI6.keep64 hkk
    have E7:=((HEf.out.trans he6).put2 (g:=w.heap.size) (o:=0) (o':=1) (by omega) (.int .i64 s5) (.slice a5 n5 c5)).put2 (g:=w.heap.size+1) (o:=0) (o':=1) (by omega) (.int .i64 s6) (.slice a6 n6 c6)
    generalize hWc:(((w6.setCell ⟨w.heap.size,0,none⟩ (.int .i64 s5)).setCell ⟨w.heap.size,1,none⟩ (.slice a5 n5 c5)).setCell ⟨w.heap.size+1,0,none⟩ (.int .i64 s6)).setCell ⟨w.heap.size+1,1,none⟩ (.slice a6 n6 c6)=Wc at *
    clear hWc hkk k0 k1 k2 k3 g0 g1 g2 g3 bA6 bB6 qR6 bA bB qR u0 u1 u2 u3 hI5 hI6 he5 he6 hx5 hx6 hfd I1 I2 hltR
    have bA:=bA7;have bB:=bB7;have qR:=qR7
    have HIA:=hid J5;have HIB:=hid J6;have HEc:=hid E7
    have HfA:=hid HfA.out.neg;have HfB:=hid HfB.out.neg
    have Hbc:=hid (bru_ext Hbr.out HEc.out)
    clear bA7 bB7 qR7 J5 J6 E7
    have Hg:=hid (fun wx (hx:Ext Wc wx)=>Gcd_any s5 s6 a5 a6 n5 c5 n6 c6 (-z1) (-z2) wx (HIA.out.ext hx) (HIB.out.ext hx) K hK hK1 HfA.out HfB.out HzA.out (by have:=HzB.out;omega) (bru_ext Hbc.out hx))
    have k0:=bA.c0;have k1:=bA.c1;have k2:=bB.c0;have k3:=bB.c1
    go_wp2_with fail
    refine (Hg.out _ (Ext.refl _)).mono ?_
    rintro e wd ⟨s7,a7,n7,c7,rfl,hI7,hxd⟩
    have HI7:=hid hI7
    obtain ⟨G,hG⟩:∃ G,Nat.gcd (-z1).natAbs (-z2).natAbs=G:=⟨_,rfl⟩
    rw [hG] at HI7
    have HG:=hid hG
    have HGp:Hid (0<G):=by
     show _<_
     rw [←hG];exact Nat.gcd_pos_of_pos_left _ (by have:=HzA.out;omega)
    have HfG:Hid (Fit K (G:Int)):=HfA.out.le (by
     rw [←hG]
     show Nat.gcd _ _≤_
     exact Nat.gcd_le_left _ (by have:=HzA.out;omega))
    have hE5:=hxd.then (.cells #[.int .i64 s7,.slice a7 n7 c7] 24)
    have b7:=box_new wd s7 a7 n7 c7
    have hszd:w.heap.size+2<wd.heap.size:=by have:=qR.lt;have:=hxd.size;omega
    have bA5:=bA.ext hE5;have bB5:=bB.ext hE5;have qR5:=qR.ext hE5
    have I75:=HI7.out.ext (Ext.alloc wd (.cells #[.int .i64 s7,.slice a7 n7 c7] 24))
    clear hG hI7 k0 k1 k2 k3 bA bB qR
    go_wp2_with fail
    generalize wd.alloc (.cells #[.int .i64 s7,.slice a7 n7 c7] 24)=W5 at *
    have k4:=b7.c0;have k5:=b7.c1
    have hlt7:=b7.lt
    have Ho:=hid (Of_from (w:=W5) 1 (by omega) (by omega))
    have Hcmp:=hid (fun wx (hx:Ext W5 wx)=>Cmp_any s7 1 a7 none n7 c7 0 0 (G:Int) 1 wx (I75.ext hx) (IsInt.small _ _ (by omega) (by omega)) K hK HfG.out (Fit.one hK1))
    obtain ⟨cg,hcg⟩:∃ cg,cmp3 (G:Int) 1=cg:=⟨_,rfl⟩
    rw [hcg] at Hcmp
    have h5d:Ext W5 W5.drew:=Below.drew (Ext.refl _)
    go_region_held3 (fun w'=>w'.cell? ⟨wd.heap.size,0,none⟩=some (.int .i64 s7)∧w'.cell? ⟨wd.heap.size,1,none⟩=some (.slice a7 n7 c7)) (exact ⟨cellKeep (W:=W5) (by assumption) hlt7 k4,cellKeep (W:=W5) (by assumption) hlt7 k5⟩)
     (first | (go_at_call 44;refine (Ho.out _ (by assumption)).mono ?_;rintro e wa ⟨rfl,hea,hxa⟩) | (go_at_call 70;refine (Hcmp.out _ (by assumption)).mono ?_;rintro e wb ⟨rfl,hxb⟩;have heb:=hea.trans hxb))
    have bA6:=bA5.ext heb;have bB6:=bB5.ext heb;have qR6:=qR5.ext heb;have b76:=b7.ext heb
    have k0:=bA6.c0;have k1:=bA6.c1;have k2:=bB6.c0;have k3:=bB6.c1
    have HE6:Hid (Ext Wc wb):=hE5.trans heb
    have hszb:w.heap.size+2<wb.heap.size:=by have:=qR6.lt;omega
    clear k4 k5 hxa hea hxb h5d
    by_cases hG1:G=1
    ·have hcg0:cg=0:=by rw [←hcg,hG1];decide
     subst hcg0
     have Hlow:=hid (HLow.out _ _ (isLow_one HzA.out HzB.out (by rw [HG.out];exact hG1)))
     have q0:=qR6.c0;have q1:=qR6.c1;have q2:=qR6.c2;have q3:=qR6.c3;have f0:=qR6.f0 0;have f1:=qR6.f0 1;have f2:=qR6.f0 2;have f3:=qR6.f0 3
     have hkk:=Keep64.set4 (w:=wb) (.i64 q0) (.slice q1) (.i64 q2) (.slice q3) (notW_i64 s5) (notW_slice a5 n5 c5) (notW_i64 s6) (.slice a6 n6 c6)
     clear hG1 hcg
     go_wp2_with fail
     exact bodyPost_ret (v:=.agg #[.int .i64 s5,.slice a5 n5 c5,.int .i64 s6,.slice a6 n6 c6]) (by simp [results,Tryz.results96,go_sem,q0,q1,q2,q3]) rfl ⟨s5,a5,n5,c5,s6,a6,n6,c6,_,_,rfl,(HIA.out.ext HE6.out).keep64 hkk,(HIB.out.ext HE6.out).keep64 hkk,fun h=>absurd h Hz1.out,fun _=>Hlow.out,((HEc.out.trans HE6.out).put2 (by omega) _ _).put2 (by omega) _ _⟩
    ·have hcgn:(cg == 0)=false:=by
      rw [beq_eq_false_iff_ne,←hcg]
      unfold cmp3
      have:=HGp.out
      split
      ·decide
      ·split
       ·decide
       ·omega
     have k4:=b76.c0;have k5:=b76.c1
     have Hd1:=hid (fun wx (hx:Ext wb wx)=>Div_any s5 s7 a5 a7 n5 c5 n7 c7 (-z1) (G:Int) wx ((HIA.out.ext HE6.out).ext hx) ((I75.ext heb).ext hx) K hK hK1 HfA.out HfG.out (by have:=HGp.out;omega))
     have Hd2:=hid (fun wx (hx:Ext wb wx)=>Div_any s6 s7 a6 a7 n6 c6 n7 c7 (-z2) (G:Int) wx ((HIB.out.ext HE6.out).ext hx) ((I75.ext heb).ext hx) K hK hK1 HfB.out HfG.out (by have:=HGp.out;omega))
     clear hG1 hcg
     go_wp2_with fail
     refine (Hd1.out _ (Ext.refl _)).mono ?_
     rintro e wx ⟨s8,a8,n8,c8,s9,a9,n9,c9,p,r,rfl,hI8,hI9,hdv1,hxx⟩
     have HI8:=hid hI8;have Hdv1:=hid hdv1
     have hEx:=((hxx.then (.cells #[.int .i64 s8,.slice a8 n8 c8] 24)).then (.cells #[.int .i64 s9,.slice a9 n9 c9] 24)).then (.cells #[.int .i64 0,.int .i64 0] 30)
     have hEx':=((Ext.alloc wx (.cells #[.int .i64 s8,.slice a8 n8 c8] 24)).then (.cells #[.int .i64 s9,.slice a9 n9 c9] 24)).then (.cells #[.int .i64 0,.int .i64 0] 30)
     have b8:=((box_new wx s8 a8 n8 c8).ext (Ext.alloc _ (.cells #[.int .i64 s9,.slice a9 n9 c9] 24))).ext (Ext.alloc _ (.cells #[.int .i64 0,.int .i64 0] 30))
     have y2:=cellKeep hEx bB6.lt k2;have y3:=cellKeep hEx bB6.lt k3;have y4:=cellKeep hEx b76.lt k4;have y5:=cellKeep hEx b76.lt k5
     clear hI8 hI9 hdv1 k0 k1 k2 k3 k4 k5
     go_wp2_with fail
     generalize ((wx.alloc (.cells #[.int .i64 s8,.slice a8 n8 c8] 24)).alloc (.cells #[.int .i64 s9,.slice a9 n9 c9] 24)).alloc (.cells #[.int .i64 0,.int .i64 0] 30)=W8 at *
     refine (Hd2.out _ hEx).mono ?_
     rintro e wy ⟨t8,d8,m8,e8,t9,d9,m9,e9,q,r',rfl,hJ8,hJ9,hdv2,hxy⟩
     have HJ8:=hid hJ8;have Hdv2:=hid hdv2
     have hEy':=((Ext.alloc wy (.cells #[.int .i64 t8,.slice d8 m8 e8] 24)).then (.cells #[.int .i64 t9,.slice d9 m9 e9] 24)).then (.cells #[.int .i64 0,.int .i64 0] 30)
     have c8':=((box_new wy t8 d8 m8 e8).ext (Ext.alloc _ (.cells #[.int .i64 t9,.slice d9 m9 e9] 24))).ext (Ext.alloc _ (.cells #[.int .i64 0,.int .i64 0] 30))
     have b9:=b8.ext (hxy.trans hEy')
     have qR9:=qR6.ext (hEx.trans (hxy.trans hEy'))
     have HE9:Hid (Ext w _):=(HEc.out.trans HE6.out).trans (hEx.trans (hxy.trans hEy'))
     have J9:=HJ8.out.ext hEy'
     have I9:=HI8.out.ext (hEx'.trans (hxy.trans hEy'))
     clear hJ8 hJ9 hdv2 y2 y3 y4 y5
     have m0:=b9.c0;have m1:=b9.c1;have m2:=c8'.c0;have m3:=c8'.c1
     have q0:=qR9.c0;have q1:=qR9.c1;have q2:=qR9.c2;have q3:=qR9.c3;have f0:=qR9.f0 0;have f1:=qR9.f0 1;have f2:=qR9.f0 2;have f3:=qR9.f0 3
     have hkk:=Keep64.set4 (.i64 q0) (.slice q1) (.i64 q2) (.slice q3) (notW_i64 s8) (notW_slice a8 n8 c8) (notW_i64 t8) (.slice d8 m8 e8)
     have Hlow:=hid (HLow.out _ _ (isLow_div HzA.out HzB.out (by rw [HG.out];exact Hdv1.out) (by rw [HG.out];exact Hdv2.out)))
     go_wp2_with fail
     exact bodyPost_ret (v:=.agg #[.int .i64 s8,.slice a8 n8 c8,.int .i64 t8,.slice d8 m8 e8]) (by simp [results,Tryz.results96,go_sem,q0,q1,q2,q3]) rfl ⟨s8,a8,n8,c8,t8,d8,m8,e8,_,_,rfl,I9.keep64 hkk,J9.keep64 hkk,fun h=>absurd h Hz1.out,fun _=>Hlow.out,(HE9.out.put2 (by omega) _ _).put2 (by omega) _ _⟩
  ·have hd2:decide (s2<0)=false:=decide_eq_false hneg
   have HzB:Hid (0<z2):=by show _<_;have:=Hz2.out;have:=Hsg2.out;omega
   have HzA:=Hz1
   have HLow:Hid (∀ p q,IsLow z1 z2 p q→IsLow z1 z2 p q):=fun _ _ h=>h
   obtain ⟨Wc,hWc⟩:∃ Wc,wf=Wc:=⟨_,rfl⟩
   subst hWc
   have HIA:=hid I1;have HIB:=hid I2;have HEc:=HEf
   have Hbc:=hid (bru_ext Hbr.out HEc.out)
   rw [hd2]
   clear hd2 hneg I1 I2
   have Hg:=hid (fun wx (hx:Ext wf wx)=>Gcd_any s1 s2 a1 a2 n1 c1 n2 c2 z1 z2 wx (HIA.out.ext hx) (HIB.out.ext hx) K hK hK1 HfA.out HfB.out HzA.out (by have:=HzB.out;omega) (bru_ext Hbc.out hx))
   have k0:=bA.c0;have k1:=bA.c1;have k2:=bB.c0;have k3:=bB.c1
   go_wp2_with fail
   refine (Hg.out _ (Ext.refl _)).mono ?_
   rintro e wd ⟨s7,a7,n7,c7,rfl,hI7,hxd⟩
   have HI7:=hid hI7
   obtain ⟨G,hG⟩:∃ G,Nat.gcd z1.natAbs z2.natAbs=G:=⟨_,rfl⟩
   rw [hG] at HI7
   have HG:=hid hG
   have HGp:Hid (0<G):=by
    show _<_
    rw [←hG];exact Nat.gcd_pos_of_pos_left _ (by have:=HzA.out;omega)
   have HfG:Hid (Fit K (G:Int)):=HfA.out.le (by
    rw [←hG]
    show Nat.gcd _ _≤_
    exact Nat.gcd_le_left _ (by have:=HzA.out;omega))
   have hE5:=hxd.then (.cells #[.int .i64 s7,.slice a7 n7 c7] 24)
   have b7:=box_new wd s7 a7 n7 c7
   have hszd:w.heap.size+2<wd.heap.size:=by have:=qR.lt;have:=hxd.size;omega
   have bA5:=bA.ext hE5;have bB5:=bB.ext hE5;have qR5:=qR.ext hE5
   have I75:=HI7.out.ext (Ext.alloc wd (.cells #[.int .i64 s7,.slice a7 n7 c7] 24))
   clear hG hI7 k0 k1 k2 k3 bA bB qR
   go_wp2_with fail
   generalize wd.alloc (.cells #[.int .i64 s7,.slice a7 n7 c7] 24)=W5 at *
   have k4:=b7.c0;have k5:=b7.c1
   have hlt7:=b7.lt
   have Ho:=hid (Of_from (w:=W5) 1 (by omega) (by omega))
   have Hcmp:=hid (fun wx (hx:Ext W5 wx)=>Cmp_any s7 1 a7 none n7 c7 0 0 (G:Int) 1 wx (I75.ext hx) (IsInt.small _ _ (by omega) (by omega)) K hK HfG.out (Fit.one hK1))
   obtain ⟨cg,hcg⟩:∃ cg,cmp3 (G:Int) 1=cg:=⟨_,rfl⟩
   rw [hcg] at Hcmp
   have h5d:Ext W5 W5.drew:=Below.drew (Ext.refl _)
   go_region_held3 (fun w'=>w'.cell? ⟨wd.heap.size,0,none⟩=some (.int .i64 s7)∧w'.cell? ⟨wd.heap.size,1,none⟩=some (.slice a7 n7 c7)) (exact ⟨cellKeep (W:=W5) (by assumption) hlt7 k4,cellKeep (W:=W5) (by assumption) hlt7 k5⟩)
    (first | (go_at_call 44;refine (Ho.out _ (by assumption)).mono ?_;rintro e wa ⟨rfl,hea,hxa⟩) | (go_at_call 70;refine (Hcmp.out _ (by assumption)).mono ?_;rintro e wb ⟨rfl,hxb⟩;have heb:=hea.trans hxb))
   have bA6:=bA5.ext heb;have bB6:=bB5.ext heb;have qR6:=qR5.ext heb;have b76:=b7.ext heb
   have k0:=bA6.c0;have k1:=bA6.c1;have k2:=bB6.c0;have k3:=bB6.c1
   have HE6:Hid (Ext wf wb):=hE5.trans heb
   have hszb:w.heap.size+2<wb.heap.size:=by have:=qR6.lt;omega
   clear k4 k5 hxa hea hxb h5d
   by_cases hG1:G=1
   ·have hcg0:cg=0:=by rw [←hcg,hG1];decide
    subst hcg0
    have Hlow:=hid (HLow.out _ _ (isLow_one HzA.out HzB.out (by rw [HG.out];exact hG1)))
    have q0:=qR6.c0;have q1:=qR6.c1;have q2:=qR6.c2;have q3:=qR6.c3;have f0:=qR6.f0 0;have f1:=qR6.f0 1;have f2:=qR6.f0 2;have f3:=qR6.f0 3
    have hkk:=Keep64.set4 (w:=wb) (.i64 q0) (.slice q1) (.i64 q2) (.slice q3) (notW_i64 s1) (notW_slice a1 n1 c1) (notW_i64 s2) (.slice a2 n2 c2)
    clear hG1 hcg
    go_wp2_with fail
    exact bodyPost_ret (v:=.agg #[.int .i64 s1,.slice a1 n1 c1,.int .i64 s2,.slice a2 n2 c2]) (by simp [results,Tryz.results96,go_sem,q0,q1,q2,q3]) rfl ⟨s1,a1,n1,c1,s2,a2,n2,c2,_,_,rfl,(HIA.out.ext HE6.out).keep64 hkk,(HIB.out.ext HE6.out).keep64 hkk,fun h=>absurd h Hz1.out,fun _=>Hlow.out,((HEc.out.trans HE6.out).put2 (by omega) _ _).put2 (by omega) _ _⟩
   ·have hcgn:(cg == 0)=false:=by
     rw [beq_eq_false_iff_ne,←hcg]
     unfold cmp3
     have:=HGp.out
     split
     ·decide
     ·split
      ·decide
      ·omega
    have k4:=b76.c0;have k5:=b76.c1
    have Hd1:=hid (fun wx (hx:Ext wb wx)=>Div_any s1 s7 a1 a7 n1 c1 n7 c7 z1 (G:Int) wx ((HIA.out.ext HE6.out).ext hx) ((I75.ext heb).ext hx) K hK hK1 HfA.out HfG.out (by have:=HGp.out;omega))
    have Hd2:=hid (fun wx (hx:Ext wb wx)=>Div_any s2 s7 a2 a7 n2 c2 n7 c7 z2 (G:Int) wx ((HIB.out.ext HE6.out).ext hx) ((I75.ext heb).ext hx) K hK hK1 HfB.out HfG.out (by have:=HGp.out;omega))
    clear hG1 hcg
    go_wp2_with fail
    refine (Hd1.out _ (Ext.refl _)).mono ?_
    rintro e wx ⟨s8,a8,n8,c8,s9,a9,n9,c9,p,r,rfl,hI8,hI9,hdv1,hxx⟩
    have HI8:=hid hI8;have Hdv1:=hid hdv1
    have hEx:=((hxx.then (.cells #[.int .i64 s8,.slice a8 n8 c8] 24)).then (.cells #[.int .i64 s9,.slice a9 n9 c9] 24)).then (.cells #[.int .i64 0,.int .i64 0] 30)
    have hEx':=((Ext.alloc wx (.cells #[.int .i64 s8,.slice a8 n8 c8] 24)).then (.cells #[.int .i64 s9,.slice a9 n9 c9] 24)).then (.cells #[.int .i64 0,.int .i64 0] 30)
    have b8:=((box_new wx s8 a8 n8 c8).ext (Ext.alloc _ (.cells #[.int .i64 s9,.slice a9 n9 c9] 24))).ext (Ext.alloc _ (.cells #[.int .i64 0,.int .i64 0] 30))
    have y2:=cellKeep hEx bB6.lt k2;have y3:=cellKeep hEx bB6.lt k3;have y4:=cellKeep hEx b76.lt k4;have y5:=cellKeep hEx b76.lt k5
    clear hI8 hI9 hdv1 k0 k1 k2 k3 k4 k5
    go_wp2_with fail
    generalize ((wx.alloc (.cells #[.int .i64 s8,.slice a8 n8 c8] 24)).alloc (.cells #[.int .i64 s9,.slice a9 n9 c9] 24)).alloc (.cells #[.int .i64 0,.int .i64 0] 30)=W8 at *
    refine (Hd2.out _ hEx).mono ?_
    rintro e wy ⟨t8,d8,m8,e8,t9,d9,m9,e9,q,r',rfl,hJ8,hJ9,hdv2,hxy⟩
    have HJ8:=hid hJ8;have Hdv2:=hid hdv2
    have hEy':=((Ext.alloc wy (.cells #[.int .i64 t8,.slice d8 m8 e8] 24)).then (.cells #[.int .i64 t9,.slice d9 m9 e9] 24)).then (.cells #[.int .i64 0,.int .i64 0] 30)
    have c8':=((box_new wy t8 d8 m8 e8).ext (Ext.alloc _ (.cells #[.int .i64 t9,.slice d9 m9 e9] 24))).ext (Ext.alloc _ (.cells #[.int .i64 0,.int .i64 0] 30))
    have b9:=b8.ext (hxy.trans hEy')
    have qR9:=qR6.ext (hEx.trans (hxy.trans hEy'))
    have HE9:Hid (Ext w _):=(HEc.out.trans HE6.out).trans (hEx.trans (hxy.trans hEy'))
    have J9:=HJ8.out.ext hEy'
    have I9:=HI8.out.ext (hEx'.trans (hxy.trans hEy'))
    clear hJ8 hJ9 hdv2 y2 y3 y4 y5
    have m0:=b9.c0;have m1:=b9.c1;have m2:=c8'.c0;have m3:=c8'.c1
    have q0:=qR9.c0;have q1:=qR9.c1;have q2:=qR9.c2;have q3:=qR9.c3;have f0:=qR9.f0 0;have f1:=qR9.f0 1;have f2:=qR9.f0 2;have f3:=qR9.f0 3
    have hkk:=Keep64.set4 (.i64 q0) (.slice q1) (.i64 q2) (.slice q3) (notW_i64 s8) (notW_slice a8 n8 c8) (notW_i64 t8) (.slice d8 m8 e8)
    have Hlow:=hid (HLow.out _ _ (isLow_div HzA.out HzB.out (by rw [HG.out];exact Hdv1.out) (by rw [HG.out];exact Hdv2.out)))
    go_wp2_with fail
    exact bodyPost_ret (v:=.agg #[.int .i64 s8,.slice a8 n8 c8,.int .i64 t8,.slice d8 m8 e8]) (by simp [results,Tryz.results96,go_sem,q0,q1,q2,q3]) rfl ⟨s8,a8,n8,c8,t8,d8,m8,e8,_,_,rfl,I9.keep64 hkk,J9.keep64 hkk,fun h=>absurd h Hz1.out,fun _=>Hlow.out,(HE9.out.put2 (by omega) _ _).put2 (by omega) _ _⟩
theorem Over_any (s1 s2:Int) (a1 a2:Option Addr) (n1 c1 n2 c2:Nat) (z1 z2:Int) (w:World) (h1:IsInt w s1 a1 n1 c1 z1) (h2:IsInt w s2 a2 n2 c2 z2) (K:Nat) (hK:K≤4194304) (hK1:1≤K) (hf1:Fit K z1) (hf2:Fit K z2) (hz2:z2≠0) (hbr:Bru w) :
  Calls Tryz.prog 65 #[.agg #[.int .i64 s1,.slice a1 n1 c1],.agg #[.int .i64 s2,.slice a2 n2 c2]] w fun e w'=>∃ (s:Int) (a:Option Addr) (n c:Nat) (s':Int) (a':Option Addr) (n' c':Nat) (p q:Int),e=.returned (.tuple #[.agg #[.int .i64 s,.slice a n c,.int .i64 s',.slice a' n' c'],.agg #[.int .i64 0,.int .i64 0]])∧IsInt w' s a n c p∧IsInt w' s' a' n' c' q∧(z1=0→p=0∧q=0)∧(z1≠0→IsLow z1 z2 p q)∧Ext w w':=by
 have Hs2:=hid (Sign_any s2 (.slice a2 n2 c2))
 have Hlo:=hid (fun wx (hx:Ext w wx)=>lowest_any s1 s2 a1 a2 n1 c1 n2 c2 z1 z2 wx (h1.ext hx) (h2.ext hx) K hK hK1 hf1 hf2 hz2 (bru_ext hbr hx))
 have hc2:=h2.cmp3
 obtain ⟨g2,hg2⟩:∃ g,cmp3 s2 0=g:=⟨_,rfl⟩
 rw [hg2] at Hs2
 have hgn:=Bx.sg hg2 hc2 hz2
 clear h1 h2 hf1 hf2 hz2 hbr hc2 hg2
 have hbx:=boxed2 w (.int .i64 s1) (.slice a1 n1 c1) (.int .i64 s2) (.slice a2 n2 c2)
 have E0:=(hbx.ext.then (.cells #[.int .i64 0,.slice none 0 0,.int .i64 0,.slice none 0 0] 45)).then (.cells #[.int .i64 0,.int .i64 0] 30)
 have bxA:=(((box_new w s1 a1 n1 c1).ext (Ext.alloc _ (.cells #[.int .i64 s2,.slice a2 n2 c2] 24))).ext (Ext.alloc _ (.cells #[.int .i64 0,.slice none 0 0,.int .i64 0,.slice none 0 0] 45))).ext (Ext.alloc _ (.cells #[.int .i64 0,.int .i64 0] 30))
 have bxB:=((box_new (w.alloc (.cells #[.int .i64 s1,.slice a1 n1 c1] 24)) s2 a2 n2 c2).ext (Ext.alloc _ (.cells #[.int .i64 0,.slice none 0 0,.int .i64 0,.slice none 0 0] 45))).ext (Ext.alloc _ (.cells #[.int .i64 0,.int .i64 0] 30))
 rw [show (w.alloc (.cells #[.int .i64 s1,.slice a1 n1 c1] 24)).heap.size=w.heap.size+1 from by simp] at bxB
 have qx:QRes ((((w.alloc (.cells #[.int .i64 s1,.slice a1 n1 c1] 24)).alloc (.cells #[.int .i64 s2,.slice a2 n2 c2] 24)).alloc (.cells #[.int .i64 0,.slice none 0 0,.int .i64 0,.slice none 0 0] 45)).alloc (.cells #[.int .i64 0,.int .i64 0] 30)) (w.heap.size+1+1):=by
  have:=heap_alloc_new ((w.alloc (.cells #[.int .i64 s1,.slice a1 n1 c1] 24)).alloc (.cells #[.int .i64 s2,.slice a2 n2 c2] 24)) (.cells #[.int .i64 0,.slice none 0 0,.int .i64 0,.slice none 0 0] 45)
  have q:QRes (((w.alloc (.cells #[.int .i64 s1,.slice a1 n1 c1] 24)).alloc (.cells #[.int .i64 s2,.slice a2 n2 c2] 24)).alloc (.cells #[.int .i64 0,.slice none 0 0,.int .i64 0,.slice none 0 0] 45)) (w.heap.size+1+1):=⟨by simpa using this⟩
  exact q.ext (Ext.alloc _ _)
 have fx:FRes ((((w.alloc (.cells #[.int .i64 s1,.slice a1 n1 c1] 24)).alloc (.cells #[.int .i64 s2,.slice a2 n2 c2] 24)).alloc (.cells #[.int .i64 0,.slice none 0 0,.int .i64 0,.slice none 0 0] 45)).alloc (.cells #[.int .i64 0,.int .i64 0] 30)) (w.heap.size+1+1+1):=by
  have:=heap_alloc_new (((w.alloc (.cells #[.int .i64 s1,.slice a1 n1 c1] 24)).alloc (.cells #[.int .i64 s2,.slice a2 n2 c2] 24)).alloc (.cells #[.int .i64 0,.slice none 0 0,.int .i64 0,.slice none 0 0] 45)) (.cells #[.int .i64 0,.int .i64 0] 30)
  exact ⟨by simp,by simpa using this⟩
 go_enter Tryz.func65,Tryz.ntmps65
 go_wp2_with fail
 generalize (((w.alloc (.cells #[.int .i64 s1,.slice a1 n1 c1] 24)).alloc (.cells #[.int .i64 s2,.slice a2 n2 c2] 24)).alloc (.cells #[.int .i64 0,.slice none 0 0,.int .i64 0,.slice none 0 0] 45)).alloc (.cells #[.int .i64 0,.int .i64 0] 30)=W0 at *
 refine (Hs2.out _).mono ?_
 rintro e we ⟨rfl,hxe⟩
 have bA:=bxA.ext hxe;have bB:=bxB.ext hxe
 have x0:=bA.c0;have x1:=bA.c1;have x2:=bB.c0;have x3:=bB.c1
 go_wp2_with fail
 refine (Hlo.out _ (E0.trans hxe)).mono ?_
 rintro e wf ⟨s,a,n,c,s',a',n',c',p,q,rfl,hp,hq,hz,hnz,hxf⟩
 have qe:=qx.ext (hxe.trans hxf);have fe:=fx.ext (hxe.trans hxf)
 have q0:=qe.c0;have q1:=qe.c1;have q2:=qe.c2;have q3:=qe.c3;have f0:=qe.f0 0;have f1:=qe.f0 1;have f2:=qe.f0 2;have f3:=qe.f0 3
 have q4:=fe.c0;have q5:=fe.c1;have f4:=fe.f0;have f5:=fe.f1
 have hkk:=Keep64.set6 (.i64 q0) (.slice q1) (.i64 q2) (.slice q3) (.i64 q4) (.i64 q5) (notW_i64 s) (notW_slice a n c) (notW_i64 s') (notW_slice a' n' c') (notW_i64 0) (.int .i64 0)
 have HE:=hid (E0.trans (hxe.trans hxf))
 have Hz:=hid hz;have Hnz:=hid hnz
 clear x0 x1 x2 x3 hz hnz
 go_wp2_with fail
 exact bodyPost_ret (v:=.tuple #[.agg #[.int .i64 s,.slice a n c,.int .i64 s',.slice a' n' c'],.agg #[.int .i64 0,.int .i64 0]]) (by simp [results,Tryz.results65,go_sem,q0,q1,q2,q3,q4,q5]) rfl ⟨s,a,n,c,s',a',n',c',p,q,rfl,hp.keep64 hkk,hq.keep64 hkk,Hz.out,Hnz.out,((HE.out.put2 (by omega) _ _).put2 (by omega) _ _).put2 (by omega) _ _⟩
theorem Parts_any (s s':Int) (a a':Option Addr) (n c n' c':Nat) (p q:Int) (w:World) (h1:IsInt w s a n c p) (h2:IsInt w s' a' n' c' q) :
  Calls Tryz.prog 69 #[.agg #[.int .i64 s,.slice a n c,.int .i64 s',.slice a' n' c']] w fun e w'=>∃ (s3:Int) (a3:Option Addr) (n3 c3:Nat) (s4:Int) (a4:Option Addr) (n4 c4:Nat),e=.returned (.tuple #[.agg #[.int .i64 s3,.slice a3 n3 c3],.agg #[.int .i64 s4,.slice a4 n4 c4]])∧IsInt w' s3 a3 n3 c3 p∧IsInt w' s4 a4 n4 c4 (if p=0 then 1 else q)∧Ext w w':=by
 have H1:=hid h1;have H2:=hid h2
 have Hs:=hid (Sign_any s (.slice a n c))
 have hc:=h1.cmp3
 obtain ⟨g,hg⟩:∃ g,cmp3 s 0=g:=⟨_,rfl⟩
 rw [hg] at Hs
 have E0:=((Ext.alloc w (.cells #[.int .i64 s,.slice a n c,.int .i64 s',.slice a' n' c'] 45)).then (.cells #[.int .i64 0,.slice none 0 0] 24)).then (.cells #[.int .i64 0,.slice none 0 0] 24)
 have rA:Res (((w.alloc (.cells #[.int .i64 s,.slice a n c,.int .i64 s',.slice a' n' c'] 45)).alloc (.cells #[.int .i64 0,.slice none 0 0] 24)).alloc (.cells #[.int .i64 0,.slice none 0 0] 24)) (w.heap.size+1):=by
  have:=(res_new (w.alloc (.cells #[.int .i64 s,.slice a n c,.int .i64 s',.slice a' n' c'] 45))).ext (Ext.alloc _ (.cells #[.int .i64 0,.slice none 0 0] 24))
  simpa using this
 have rB:Res (((w.alloc (.cells #[.int .i64 s,.slice a n c,.int .i64 s',.slice a' n' c'] 45)).alloc (.cells #[.int .i64 0,.slice none 0 0] 24)).alloc (.cells #[.int .i64 0,.slice none 0 0] 24)) (w.heap.size+1+1):=by
  have:=res_new ((w.alloc (.cells #[.int .i64 s,.slice a n c,.int .i64 s',.slice a' n' c'] 45)).alloc (.cells #[.int .i64 0,.slice none 0 0] 24))
  simpa using this
 have hrow:(((w.alloc (.cells #[.int .i64 s,.slice a n c,.int .i64 s',.slice a' n' c'] 45)).alloc (.cells #[.int .i64 0,.slice none 0 0] 24)).alloc (.cells #[.int .i64 0,.slice none 0 0] 24)).heap[w.heap.size]?=some (.cells #[.int .i64 s,.slice a n c,.int .i64 s',.slice a' n' c'] 45 (0,0)) :=
  (((Ext.alloc _ _).block _ (by simp;omega)).trans ((Ext.alloc _ _).block _ (by simp))).trans (heap_alloc_new w _)
 have hlt:w.heap.size+2<(((w.alloc (.cells #[.int .i64 s,.slice a n c,.int .i64 s',.slice a' n' c'] 45)).alloc (.cells #[.int .i64 0,.slice none 0 0] 24)).alloc (.cells #[.int .i64 0,.slice none 0 0] 24)).heap.size:=by simp
 by_cases hp:p=0
 ·have hg0:g=0:=by rw [←hg,hc,hp];decide
  subst hg0
  rw [if_pos hp]
  clear h1 h2 hc hg
  go_enter Tryz.func69,Tryz.ntmps69
  go_wp2_with fail
  generalize ((w.alloc (.cells #[.int .i64 s,.slice a n c,.int .i64 s',.slice a' n' c'] 45)).alloc (.cells #[.int .i64 0,.slice none 0 0] 24)).alloc (.cells #[.int .i64 0,.slice none 0 0] 24)=W0 at *
  refine (Hs.out _).mono ?_
  rintro e we ⟨rfl,hxe⟩
  go_wp2_with fail
  refine (Of_any 1 (by omega) (by omega) we).mono ?_
  rintro e wf ⟨rfl,_,hxf⟩
  have r1:=rA.ext (hxe.trans hxf);have r2:=rB.ext (hxe.trans hxf)
  have k0:=r1.c0;have k1:=r1.c1;have g0:=r1.f0;have g1:=r1.f1;have k2:=r2.c0;have k3:=r2.c1;have g2:=r2.f0;have g3:=r2.f1
  go_wp2_with fail
  exact bodyPost_ret (v:=.tuple #[.agg #[.int .i64 0,.slice none 0 0],.agg #[.int .i64 1,.slice none 0 0]]) (by simp [results,Tryz.results69,go_sem,k0,k1,k2,k3]) rfl ⟨0,none,0,0,1,none,0,0,rfl,by rw [hp];exact IsInt.small _ _ (by omega) (by omega),IsInt.small _ _ (by omega) (by omega),((E0.trans (hxe.trans hxf)).put2 (by omega) _ _).put2 (by omega) _ _⟩
 ·have hgn:=Bx.sg hg hc hp
  rw [if_neg hp]
  clear h1 h2 hc hg hp
  go_enter Tryz.func69,Tryz.ntmps69
  go_wp2_with fail
  generalize ((w.alloc (.cells #[.int .i64 s,.slice a n c,.int .i64 s',.slice a' n' c'] 45)).alloc (.cells #[.int .i64 0,.slice none 0 0] 24)).alloc (.cells #[.int .i64 0,.slice none 0 0] 24)=W0 at *
  refine (Hs.out _).mono ?_
  rintro e we ⟨rfl,hxe⟩
  have hre:we.heap[w.heap.size]?=some (.cells #[.int .i64 s,.slice a n c,.int .i64 s',.slice a' n' c'] 45 (0,0)):=(hxe.block _ (by omega)).trans hrow
  have m0:we.cell? ⟨w.heap.size,0,none⟩=some (.int .i64 s):=by rw [cell_of_row we _ 0 _ _ (0,0) hre];rfl
  have m1:we.cell? ⟨w.heap.size,1,none⟩=some (.slice a n c):=by rw [cell_of_row we _ 1 _ _ (0,0) hre];rfl
  have m2:we.cell? ⟨w.heap.size,2,none⟩=some (.int .i64 s'):=by rw [cell_of_row we _ 2 _ _ (0,0) hre];rfl
  have m3:we.cell? ⟨w.heap.size,3,none⟩=some (.slice a' n' c'):=by rw [cell_of_row we _ 3 _ _ (0,0) hre];rfl
  have r1:=rA.ext hxe;have r2:=rB.ext hxe
  have k0:=r1.c0;have k1:=r1.c1;have g0:=r1.f0;have g1:=r1.f1;have k2:=r2.c0;have k3:=r2.c1;have g2:=r2.f0;have g3:=r2.f1
  have hkk:=Keep64.set4 (w:=we) (.i64 k0) (.slice k1) (.i64 k2) (.slice k3) (notW_i64 s) (notW_slice a n c) (notW_i64 s') (.slice a' n' c')
  go_wp2_with fail
  go_region
  go_wp2_with fail
  exact bodyPost_ret (v:=.tuple #[.agg #[.int .i64 s,.slice a n c],.agg #[.int .i64 s',.slice a' n' c']]) (by simp [results,Tryz.results69,go_sem,k0,k1,k2,k3]) rfl ⟨s,a,n,c,s',a',n',c',rfl,((H1.out.ext (E0.trans hxe)).keep64 hkk).ext (Below.drew (Ext.refl _)),((H2.out.ext (E0.trans hxe)).keep64 hkk).ext (Below.drew (Ext.refl _)),Below.drew (((E0.trans hxe).put2 (by omega) _ _).put2 (by omega) _ _)⟩
theorem Cmp_is {w:World} {s1 s2:Int} {a1 a2:Option Addr} {n1 c1 n2 c2:Nat} {z1 z2:Int} (k:Int) (h1:IsInt w s1 a1 n1 c1 z1) (h2:IsInt w s2 a2 n2 c2 z2) (K:Nat) (hK:K≤4194304) (hf1:Fit K z1) (hf2:Fit K z2) (hk:cmp3 z1 z2=k) :
  Calls Tryz.prog 70 #[.agg #[.int .i64 s1,.slice a1 n1 c1],.agg #[.int .i64 s2,.slice a2 n2 c2]] w fun e w'=>e=.returned (.int .i64 k)∧Ext w w':=by
 rw [←hk]
 exact Cmp_any s1 s2 a1 a2 n1 c1 n2 c2 z1 z2 w h1 h2 K hK hf1 hf2
theorem one_text:Lib.itoa ((1:Nat):Int)=[49]:=by
 unfold Lib.itoa
 rw [if_neg (by decide),show (((1:Nat):Int)).toNat=1 from rfl,Lib.decDigits_one (by decide)]
 decide
def nfk (z1 z2:Int):Int:=if z2<0 then -((Nat.gcd z1.natAbs z2.natAbs:Nat):Int) else ((Nat.gcd z1.natAbs z2.natAbs:Nat):Int)
def nfp (z1 z2:Int):Int:=if z2=0 then 0 else z1 / nfk z1 z2
def nfq (z1 z2:Int):Int:=if z2=0 then 1 else z2 / nfk z1 z2
theorem nf_of {z1 z2 p q:Int} (hz:z2≠0) (hq:0<q) (hco:Nat.gcd p.natAbs q.natAbs=1) (he:p*z2=q*z1):p=nfp z1 z2∧q=nfq z1 z2:=by
 have h1:q.natAbs ∣ p.natAbs*z2.natAbs:=by
  rw [←Int.natAbs_mul,he,Int.natAbs_mul];exact Nat.dvd_mul_right _ _
 have h2:q.natAbs ∣ z2.natAbs:=Nat.Coprime.dvd_of_dvd_mul_left (show Nat.Coprime q.natAbs p.natAbs by unfold Nat.Coprime;rw [Nat.gcd_comm];exact hco) h1
 obtain ⟨k,hk⟩:q ∣ z2:=Int.natAbs_dvd_natAbs.1 h2
 have hk0:k≠0:=fun e=>hz (by rw [hk,e,Int.mul_zero])
 have hz1:z1=p*k:=by
  rw [hk] at he
  have h3:q*(p*k)=q*z1:=by rw [←he,←Int.mul_assoc,←Int.mul_assoc,Int.mul_comm q p]
  exact (Int.eq_of_mul_eq_mul_left (by omega) h3).symm
 have hg:Nat.gcd z1.natAbs z2.natAbs=k.natAbs:=by
  rw [hz1,hk,Int.natAbs_mul,Int.natAbs_mul,Nat.gcd_mul_right,hco,Nat.one_mul]
 have hkk:nfk z1 z2=k:=by
  unfold nfk
  rw [hg]
  by_cases hn:k<0
  ·have:z2<0:=by rw [hk];exact Int.mul_neg_of_pos_of_neg hq hn
   rw [if_pos this];omega
  ·have:0<z2:=by rw [hk];exact Int.mul_pos hq (by omega)
   rw [if_neg (by omega)];omega
 refine ⟨?_,?_⟩
 ·unfold nfp;rw [if_neg hz,hkk,hz1,Int.mul_ediv_cancel _ hk0]
 ·unfold nfq;rw [if_neg hz,hkk,hk,Int.mul_ediv_cancel _ hk0]
theorem nf_zero (z:Int):nfp z 0=0∧nfq z 0=1:=⟨by unfold nfp;rw [if_pos rfl],by unfold nfq;rw [if_pos rfl]⟩
theorem nfp_le (z1 z2:Int):(nfp z1 z2).natAbs≤z1.natAbs:=by
 unfold nfp;split
 ·exact Nat.zero_le _
 ·exact Int.natAbs_ediv_le_natAbs _ _
theorem nfq_le (z1 z2:Int) (h:z2≠0):(nfq z1 z2).natAbs≤z2.natAbs:=by
 unfold nfq;rw [if_neg h]
 exact Int.natAbs_ediv_le_natAbs _ _
def IsFr (w:World) (s:Int) (a:Option Addr) (n c:Nat) (s':Int) (a':Option Addr) (n' c':Nat) (P Q:Int):Prop :=
 ∃ q,IsInt w s a n c P∧IsInt w s' a' n' c' q∧Q=if P=0 then 1 else q
theorem IsFr.ext {w w':World} {s:Int} {a:Option Addr} {n c:Nat} {s':Int} {a':Option Addr} {n' c':Nat} {P Q:Int} (h:IsFr w s a n c s' a' n' c' P Q) (k:Ext w w'):IsFr w' s a n c s' a' n' c' P Q:=by
 obtain ⟨q,h1,h2,h3⟩:=h
 exact ⟨q,h1.ext k,h2.ext k,h3⟩
theorem IsFr.keep64 {w w':World} {s:Int} {a:Option Addr} {n c:Nat} {s':Int} {a':Option Addr} {n' c':Nat} {P Q:Int} (h:IsFr w s a n c s' a' n' c' P Q) (k:Keep64 w w'):IsFr w' s a n c s' a' n' c' P Q:=by
 obtain ⟨q,h1,h2,h3⟩:=h
 exact ⟨q,h1.keep64 k,h2.keep64 k,h3⟩
theorem IsFr.zero (w:World):IsFr w 0 Option.none 0 0 0 Option.none 0 0 0 1:=⟨0,IsInt.small _ 0 (by omega) (by omega),IsInt.small _ 0 (by omega) (by omega),by rw [if_pos rfl]⟩
def QRetF (w:World) (P Q C:Int) (e:Ending) (w':World):Prop :=
 ∃ (s:Int) (a:Option Addr) (n c:Nat) (s':Int) (a':Option Addr) (n' c':Nat),e=.returned (.tuple #[.agg #[.int .i64 s,.slice a n c,.int .i64 s',.slice a' n' c'],.agg #[.int .i64 C,.int .i64 0]])∧IsFr w' s a n c s' a' n' c' P Q∧Ext w w'
theorem Parts_fr (s s':Int) (a a':Option Addr) (n c n' c':Nat) (P Q:Int) (w:World) (h:IsFr w s a n c s' a' n' c' P Q) :
  Calls Tryz.prog 69 #[.agg #[.int .i64 s,.slice a n c,.int .i64 s',.slice a' n' c']] w fun e w'=>∃ (s3:Int) (a3:Option Addr) (n3 c3:Nat) (s4:Int) (a4:Option Addr) (n4 c4:Nat),e=.returned (.tuple #[.agg #[.int .i64 s3,.slice a3 n3 c3],.agg #[.int .i64 s4,.slice a4 n4 c4]])∧IsInt w' s3 a3 n3 c3 P∧IsInt w' s4 a4 n4 c4 Q∧Ext w w':=by
 obtain ⟨q,h1,h2,h3⟩:=h
 rw [h3]
 exact Parts_any s s' a a' n c n' c' P q w h1 h2
theorem low_fr {w:World} {s:Int} {a:Option Addr} {n c:Nat} {s':Int} {a':Option Addr} {n' c':Nat} {z1 z2 p q:Int} (hz2:z2≠0) (h1:IsInt w s a n c p) (h2:IsInt w s' a' n' c' q) (h0:z1=0→p=0∧q=0) (hl:z1≠0→IsLow z1 z2 p q):IsFr w s a n c s' a' n' c' (nfp z1 z2) (nfq z1 z2):=by
 by_cases hz:z1=0
 ·obtain ⟨rfl,rfl⟩:=h0 hz
  subst hz
  obtain ⟨g1,g2⟩:=nf_of (z1:=0) (z2:=z2) (p:=0) (q:=1) hz2 (by omega) (by decide) (by simp)
  rw [←g1,←g2]
  exact ⟨0,h1,h2,by rw [if_pos rfl]⟩
 ·have hk:=hl hz
  obtain ⟨g1,g2⟩:=nf_of hz2 hk.pos hk.co hk.eq
  rw [←g1,←g2]
  exact ⟨q,h1,h2,by rw [if_neg hk.ne]⟩
theorem Over_zero (s1 s2:Int) (a1 a2:Option Addr) (n1 c1 n2 c2:Nat) (w:World) (h2:IsInt w s2 a2 n2 c2 0) :
  Calls Tryz.prog 65 #[.agg #[.int .i64 s1,.slice a1 n1 c1],.agg #[.int .i64 s2,.slice a2 n2 c2]] w (QRetF w 0 1 4):=by
 have Hs2:=hid (Sign_any s2 (.slice a2 n2 c2))
 have hc2:=h2.cmp3
 have hc0:cmp3 (0:Int) 0=0:=by decide
 rw [hc0] at hc2
 rw [hc2] at Hs2
 clear h2 hc2 hc0
 have hbx:=boxed2 w (.int .i64 s1) (.slice a1 n1 c1) (.int .i64 s2) (.slice a2 n2 c2)
 have E0:=(hbx.ext.then (.cells #[.int .i64 0,.slice none 0 0,.int .i64 0,.slice none 0 0] 45)).then (.cells #[.int .i64 0,.int .i64 0] 30)
 have qx:QRes ((((w.alloc (.cells #[.int .i64 s1,.slice a1 n1 c1] 24)).alloc (.cells #[.int .i64 s2,.slice a2 n2 c2] 24)).alloc (.cells #[.int .i64 0,.slice none 0 0,.int .i64 0,.slice none 0 0] 45)).alloc (.cells #[.int .i64 0,.int .i64 0] 30)) (w.heap.size+1+1):=by
  have:=heap_alloc_new ((w.alloc (.cells #[.int .i64 s1,.slice a1 n1 c1] 24)).alloc (.cells #[.int .i64 s2,.slice a2 n2 c2] 24)) (.cells #[.int .i64 0,.slice none 0 0,.int .i64 0,.slice none 0 0] 45)
  have q:QRes (((w.alloc (.cells #[.int .i64 s1,.slice a1 n1 c1] 24)).alloc (.cells #[.int .i64 s2,.slice a2 n2 c2] 24)).alloc (.cells #[.int .i64 0,.slice none 0 0,.int .i64 0,.slice none 0 0] 45)) (w.heap.size+1+1):=⟨by simpa using this⟩
  exact q.ext (Ext.alloc _ _)
 have fx:FRes ((((w.alloc (.cells #[.int .i64 s1,.slice a1 n1 c1] 24)).alloc (.cells #[.int .i64 s2,.slice a2 n2 c2] 24)).alloc (.cells #[.int .i64 0,.slice none 0 0,.int .i64 0,.slice none 0 0] 45)).alloc (.cells #[.int .i64 0,.int .i64 0] 30)) (w.heap.size+1+1+1):=by
  have:=heap_alloc_new (((w.alloc (.cells #[.int .i64 s1,.slice a1 n1 c1] 24)).alloc (.cells #[.int .i64 s2,.slice a2 n2 c2] 24)).alloc (.cells #[.int .i64 0,.slice none 0 0,.int .i64 0,.slice none 0 0] 45)) (.cells #[.int .i64 0,.int .i64 0] 30)
  exact ⟨by simp,by simpa using this⟩
 go_enter Tryz.func65,Tryz.ntmps65
 go_wp2_with fail
 generalize (((w.alloc (.cells #[.int .i64 s1,.slice a1 n1 c1] 24)).alloc (.cells #[.int .i64 s2,.slice a2 n2 c2] 24)).alloc (.cells #[.int .i64 0,.slice none 0 0,.int .i64 0,.slice none 0 0] 45)).alloc (.cells #[.int .i64 0,.int .i64 0] 30)=W0 at *
 refine (Hs2.out _).mono ?_
 rintro e wf ⟨rfl,hxe⟩
 have qe:=qx.ext hxe;have fe:=fx.ext hxe
 have q0:=qe.c0;have q1:=qe.c1;have q2:=qe.c2;have q3:=qe.c3;have f0:=qe.f0 0;have f1:=qe.f0 1;have f2:=qe.f0 2;have f3:=qe.f0 3
 have q4:=fe.c0;have q5:=fe.c1;have f4:=fe.f0;have f5:=fe.f1
 have HE:=hid (E0.trans hxe)
 go_wp2_with fail
 exact bodyPost_ret (v:=.tuple #[.agg #[.int .i64 0,.slice none 0 0,.int .i64 0,.slice none 0 0],.agg #[.int .i64 4,.int .i64 0]]) (by simp [results,Tryz.results65,go_sem,q0,q1,q2,q3,q4,q5]) rfl ⟨0,none,0,0,0,none,0,0,rfl,IsFr.zero _,((HE.out.put2 (by omega) _ _).put2 (by omega) _ _).put2 (by omega) _ _⟩
def ovc (y:Int):Int:=if y=0 then 4 else 0
theorem Over_fr (s1 s2:Int) (a1 a2:Option Addr) (n1 c1 n2 c2:Nat) (z1 z2:Int) (w:World) (h1:IsInt w s1 a1 n1 c1 z1) (h2:IsInt w s2 a2 n2 c2 z2) (K:Nat) (hK:K≤4194304) (hK1:1≤K) (hf1:Fit K z1) (hf2:Fit K z2) (hbr:Bru w) :
  Calls Tryz.prog 65 #[.agg #[.int .i64 s1,.slice a1 n1 c1],.agg #[.int .i64 s2,.slice a2 n2 c2]] w (QRetF w (nfp z1 z2) (nfq z1 z2) (ovc z2)):=by
 by_cases hz:z2=0
 ·subst hz
  rw [(nf_zero z1).1,(nf_zero z1).2,show ovc 0=4 from by unfold ovc;rw [if_pos rfl]]
  exact Over_zero s1 s2 a1 a2 n1 c1 n2 c2 w h2
 ·rw [show ovc z2=0 from by unfold ovc;rw [if_neg hz]]
  exact (Over_any s1 s2 a1 a2 n1 c1 n2 c2 z1 z2 w h1 h2 K hK hK1 hf1 hf2 hz hbr).mono fun _ _ ⟨s,a,n,c,s',a',n',c',_,_,e,i1,i2,h0,hl,hx⟩=>⟨s,a,n,c,s',a',n',c',e,low_fr hz i1 i2 h0 hl,hx⟩
theorem word_ff (s:ByteArray) (w:World) (hs:s.size≤9223372036854775807) :
  Calls Tryz.prog 51 #[.string s,.bool false,.bool false] w fun e w'=>e=.returned (.tuple #[.int .i64 (spos (bs s):Nat),.bool (decide (0<spos (bs s)))])∧w=w':=by
 by_cases h0:s.size=0
 ·have e:=bs_nil s h0
  subst e
  have hsc:spos (bs ⟨#[]⟩)=0:=by decide
  rw [hsc]
  clear hsc
  go_enter Tryz.func51,Tryz.ntmps51
  go_wp2
  go_loop [9] (fun i=>i=.int .i64 0) (fun _=>0)
  case atStart=>rfl
  case round =>
   subst hrel
   go_wp2
   go_ret2
   exact ⟨rfl,rfl⟩
 ·have hp:0<s.size:=by omega
  have ip:(0:Int)<(s.size:Int):=by omega
  have hat:=bs_at s 0 hp
  have hlen:=bs_length s
  by_cases h48:(bs s).getD 0 0=48
  ·have hb:((s[0].toNat:Int) == 48)=true:=by rw [beq_iff_eq,hat];omega
   have hsc:spos (bs s)=0:=by unfold spos;rw [if_pos (Or.inr h48)]
   rw [hsc]
   clear hat h48 hsc hlen
   go_enter Tryz.func51,Tryz.ntmps51
   go_wp2
   go_ret2
   exact ⟨rfl,rfl⟩
  ·have hb:((s[0].toNat:Int) == 48)=false:=by rw [beq_eq_false_iff_ne,hat];omega
   have Hscan:Hid (∀ k,k≤s.size→(∀ t,t<k→isD ((bs s).getD t 0)=true)→(k=(bs s).length∨isD ((bs s).getD k 0)=false)→spos (bs s)=k):=by
    intro k q2 q3 q4
    have:=dcount_of (bs s) k (by rw [hlen];exact q2) q3 q4
    unfold spos
    rw [if_neg (by rw [hlen];exact fun h=>h.elim (fun e=>h0 e) (fun e=>h48 e)),this]
   clear hat h48 hlen
   go_enter Tryz.func51,Tryz.ntmps51
   go_wp2
   go_loop [9] (fun i=>∃ k:Nat,k≤s.size∧i=.int .i64 k∧∀ t,t<k→isD ((bs s).getD t 0)=true) (fun i=>s.size-(intOf i).toNat)
   case atStart=>exact ⟨0,Nat.zero_le _,rfl,fun t h1=>by omega⟩
   case round =>
    obtain ⟨k,hk,rfl,hall⟩:=hrel
    have Hall:=Lib.hid hall
    clear hall
    by_cases hlt:k<s.size
    ·have hat:=bs_at s k hlt
     have ik:(k:Int)<(s.size:Int):=by omega
     by_cases hdg:isD ((bs s).getD k 0)=true
     ·have hr:(48:Int)≤(s[k].toNat:Int)∧(s[k].toNat:Int)≤57:=by
       simp only [isD,decide_eq_true_eq] at hdg;rw [hat];omega
      obtain ⟨g1,g2⟩:=hr
      have Hdg:=Lib.hid hdg
      clear hat hdg
      go_wp2
      have hall:=Hall.out
      go_round
      case rel=>exact ⟨k+1,by omega,by go_num,fun t h2=>by
       by_cases e:t=k
       ·rw [e];exact Hdg.out
       ·exact hall t (by omega)⟩
      case measure=>simp [intOf];omega
     ·have Hsc:=Lib.hid (Hscan.out k hk Hall.out (Or.inr (by simpa using hdg)))
      by_cases hlo:48≤s[k].toNat
      ·have g1:(48:Int)≤(s[k].toNat:Int):=by omega
       have g2:¬ (s[k].toNat:Int)≤57:=by
        simp only [isD,decide_eq_true_eq] at hdg;rw [hat] at hlo ⊢;omega
       clear hat hdg hlo
       go_wp2
       go_ret2
       refine ⟨?_,rfl⟩
       rw [Hsc.out]
       simp
      ·have g1:¬ (48:Int)≤(s[k].toNat:Int):=by omega
       clear hat hdg hlo
       go_wp2
       go_ret2
       refine ⟨?_,rfl⟩
       rw [Hsc.out]
       simp
    ·obtain rfl:k=s.size:=by omega
     have Hsc:=Lib.hid (Hscan.out _ hk Hall.out (Or.inl (bs_length s).symm))
     have ik:¬ (s.size:Int)<(s.size:Int):=by omega
     go_wp2
     go_ret2
     refine ⟨?_,rfl⟩
     rw [Hsc.out]
     simp
     exact hp
end Go.Proofs.YtiicfpdiehgikaaGreatDoor
