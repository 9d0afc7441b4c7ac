/-
  Add and Sub. fromPair and Mul. Cmp. Reading numbers: the small calls on texts. Reading numbers: scanNumber, tooLong, readChunk, appendChunk. Reading numbers: appendChunk, readNumber. Reading numbers: readNumber. Texts of numbers, in plain lists: padded digits.
-/
import Derived.Test.YtjfomkoedgipjaaGreatDoorS05IntD
namespace Go.Proofs.YtjfomkoedgipjaaGreatDoor
set_option maxRecDepth 100000
set_option maxHeartbeats 1000000
open Go.RowKit
theorem short_yes (s1 s2:Int) (n1 c1 n2 c2:Nat) (w:World) :
  Calls Tryz.prog 100 #[.agg #[.int .i64 s1,.slice none n1 c1],.agg #[.int .i64 s2,.slice none n2 c2]] w fun e w'=>e=.returned (.bool true)/\Ext w w':=short_any s1 s2 none none n1 c1 n2 c2 w
theorem short_no (s1 s2:Int) (a1 a2:Option Addr) (n1 c1 n2 c2:Nat) (w:World) (h:¬ (a1=none/\a2=none)) :
  Calls Tryz.prog 100 #[.agg #[.int .i64 s1,.slice a1 n1 c1],.agg #[.int .i64 s2,.slice a2 n2 c2]] w fun e w'=>e=.returned (.bool false)/\Ext w w':=by
 have hb:(a1.isNone && a2.isNone)=false:=by
  cases a1<;>cases a2<;>simp_all
 have:=short_any s1 s2 a1 a2 n1 c1 n2 c2 w;rw [hb] at this;exact this
theorem IsInt.none {w:World} {sm:Int} {n c:Nat} {z:Int} (h:IsInt w sm Option.none n c z):n=0/\c=0/\sm=z/\-9223372036854775808<=z/\z<=9223372036854775807:=by
 rcases h with ⟨_,h⟩ | ⟨b,o,l,h,_⟩
 ·exact h
 ·cases h
theorem Add_any (s1 s2:Int) (a1 a2:Option Addr) (n1 c1 n2 c2:Nat) (z1 z2:Int) (w:World) (h1:IsInt w s1 a1 n1 c1 z1) (h2:IsInt w s2 a2 n2 c2 z2) (K:Nat) (hK:K<=4194304) (hf1:Fit K z1) (hf2:Fit K z2) :
  Calls Tryz.prog 62 #[.agg #[.int .i64 s1,.slice a1 n1 c1],.agg #[.int .i64 s2,.slice a2 n2 c2]] w fun e w'=>∃ (s':Int) (a':Option Addr) (n' c':Nat),e=.returned (.agg #[.int .i64 s',.slice a' n' c'])/\IsInt w' s' a' n' c' (z1+z2)/\Ext w w':=by
 have Hf1:=hid hf1;have Hf2:=hid hf2;clear hf1 hf2
 by_cases hsh:a1=none/\a2=none
 ·obtain ⟨rfl,rfl⟩:=hsh
  obtain ⟨rfl,rfl,rfl,r1,r2⟩:=h1.none;obtain ⟨rfl,rfl,rfl,r3,r4⟩:=h2.none;have h1k:=hid h1;have h2k:=hid h2;clear h1 h2
  by_cases hov : -9223372036854775808<=s1+s2/\s1+s2<=9223372036854775807
  ·obtain ⟨o1,o2⟩:=hov
   clear Hf1 Hf2 hK h1k h2k
   go_enter Tryz.func62,Tryz.ntmps62
   go_wp2_with fail
   have hbx:=boxes2 w (.int .i64 s1) (.slice none 0 0) (.int .i64 s2) (.slice none 0 0);generalize ((w.alloc (.cells #[.int .i64 s1,.slice none 0 0] 54)).alloc (.cells #[.int .i64 s2,.slice none 0 0] 54)).alloc (.cells #[.int .i64 0,.slice none 0 0] 54)=W0 at *;refine (short_yes _ _ _ _ _ _ _).mono ?_;rintro e w1 ⟨rfl,he1⟩;obtain ⟨x0,x1,x2,x3⟩:=keep4' he1 hbx;have hr4:=hbx.res.ext he1;have k0:=hr4.c0;have k1:=hr4.c1;have g0:=hr4.f0;have g1:=hr4.f1
   have ht:(decide (s1<s1+s2) == decide (0<s2))=true:=by
    rw [yY,yN];omega
   go_wp2_with fail
   exact qJ (v:=.agg #[.int .i64 (s1+s2),.slice none 0 0]) (by simp [results,Tryz.results62,go_sem,k0,k1]) rfl ⟨s1+s2,none,0,0,rfl,IsInt.small _ _ o1 o2,(hbx.ext.trans he1).setRes (by omega) _ _⟩
  ·obtain ⟨t,ht0⟩:∃ t,wrap64 (s1+s2)=t:=⟨_,rfl⟩
   have hts:t=s1+s2+18446744073709551616\/t=s1+s2-18446744073709551616:=by
    rw [<-ht0];unfold wrap64;omega
   have htr : -9223372036854775808<=t/\t<=9223372036854775807:=by
    rw [<-ht0];unfold wrap64;omega
   have ht:(decide (s1<t) == decide (0<s2))=false:=by
    rw [qV,ne_eq,yN];omega
   obtain ⟨u1,u2⟩:=htr;clear hov hts
   go_enter Tryz.func62,Tryz.ntmps62
   go_wp2_with fail
   have hbx:=boxes2 w (.int .i64 s1) (.slice none 0 0) (.int .i64 s2) (.slice none 0 0);generalize ((w.alloc (.cells #[.int .i64 s1,.slice none 0 0] 54)).alloc (.cells #[.int .i64 s2,.slice none 0 0] 54)).alloc (.cells #[.int .i64 0,.slice none 0 0] 54)=W0 at *;refine (short_yes _ _ _ _ _ _ _).mono ?_;rintro e w1 ⟨rfl,he1⟩;obtain ⟨x0,x1,x2,x3⟩:=keep4' he1 hbx
   go_wp2_with fail
   have heE:=hbx.ext.trans he1;refine (addLong_any s1 s2 none none 0 0 0 0 s1 s2 w1 (h1k.out.ext heE) (h2k.out.ext heE) K hK Hf1.out Hf2.out).mono ?_;rintro e w2 ⟨s4,a4,n4,c4,rfl,hI4,hx2⟩;have hr4:=(hbx.res.ext he1).ext hx2;have k0:=hr4.c0;have k1:=hr4.c1;have g0:=hr4.f0;have g1:=hr4.f1
   go_wp2_with fail
   exact qJ (v:=.agg #[.int .i64 s4,.slice a4 n4 c4]) (by simp [results,Tryz.results62,go_sem,k0,k1]) rfl ⟨s4,a4,n4,c4,rfl,hI4.setRes hr4.row _ _,(heE.trans hx2).setRes (by omega) _ _⟩
 ·have h1k:=hid h1;have h2k:=hid h2
  have hsn:=fun wx=>short_no s1 s2 a1 a2 n1 c1 n2 c2 wx hsh
  have Hsn:=hid hsn;clear h1 h2 hsn hsh
  go_enter Tryz.func62,Tryz.ntmps62
  go_wp2_with fail
  have hbx:=boxes2 w (.int .i64 s1) (.slice a1 n1 c1) (.int .i64 s2) (.slice a2 n2 c2);generalize ((w.alloc (.cells #[.int .i64 s1,.slice a1 n1 c1] 54)).alloc (.cells #[.int .i64 s2,.slice a2 n2 c2] 54)).alloc (.cells #[.int .i64 0,.slice none 0 0] 54)=W0 at *;refine (Hsn.out _).mono ?_;rintro e w1 ⟨rfl,he1⟩;obtain ⟨x0,x1,x2,x3⟩:=keep4' he1 hbx
  go_wp2_with fail
  have heE:=hbx.ext.trans he1;refine (addLong_any s1 s2 a1 a2 n1 c1 n2 c2 z1 z2 w1 (h1k.out.ext heE) (h2k.out.ext heE) K hK Hf1.out Hf2.out).mono ?_;rintro e w2 ⟨s4,a4,n4,c4,rfl,hI4,hx2⟩;have hr4:=(hbx.res.ext he1).ext hx2;have k0:=hr4.c0;have k1:=hr4.c1;have g0:=hr4.f0;have g1:=hr4.f1
  go_wp2_with fail
  exact qJ (v:=.agg #[.int .i64 s4,.slice a4 n4 c4]) (by simp [results,Tryz.results62,go_sem,k0,k1]) rfl ⟨s4,a4,n4,c4,rfl,hI4.setRes hr4.row _ _,(heE.trans hx2).setRes (by omega) _ _⟩
theorem Neg_from {w:World} {sm:Int} {ao:Option Addr} {n c:Nat} {z:Int} (h:IsInt w sm ao n c z):∀ wx:World,Ext w wx->Calls Tryz.prog 105 #[.agg #[.int .i64 sm,.slice ao n c]] wx fun e w' =>
  ∃ (s':Int) (a':Option Addr) (n' c':Nat),e=.returned (.agg #[.int .i64 s',.slice a' n' c'])/\IsInt w' s' a' n' c' (-z)/\Ext w w'/\Ext wx w' :=
 fun wx hx=>(Neg_any sm ao n c z wx (h.ext hx)).mono fun _ _ ⟨s',a',n',c',h1,h2,h3⟩=>⟨s',a',n',c',h1,h2,hx.trans h3,h3⟩
theorem Add_from {w:World} {s1:Int} {a1:Option Addr} {n1 c1:Nat} {z1:Int} (h1:IsInt w s1 a1 n1 c1 z1) (K:Nat) (hK:K<=4194304) (hf1:Fit K z1):∀ (wx:World) (s2:Int) (a2:Option Addr) (n2 c2:Nat) (z2:Int),Ext w wx->IsInt wx s2 a2 n2 c2 z2->Fit K z2 ->
  Calls Tryz.prog 62 #[.agg #[.int .i64 s1,.slice a1 n1 c1],.agg #[.int .i64 s2,.slice a2 n2 c2]] wx fun e w' =>
  ∃ (s':Int) (a':Option Addr) (n' c':Nat),e=.returned (.agg #[.int .i64 s',.slice a' n' c'])/\IsInt w' s' a' n' c' (z1+z2)/\Ext w w'/\Ext wx w' :=
 fun wx s2 a2 n2 c2 z2 hx h2 hf2=>(Add_any s1 s2 a1 a2 n1 c1 n2 c2 z1 z2 wx (h1.ext hx) h2 K hK hf1 hf2).mono fun _ _ ⟨s',a',n',c',e1,e2,e3⟩=>⟨s',a',n',c',e1,e2,hx.trans e3,e3⟩
theorem Fit.neg {k:Nat} {z:Int} (h:Fit k z):Fit k (-z):=by unfold Fit at *;rw [Int.natAbs_neg];exact h
theorem Sub_any (s1 s2:Int) (a1 a2:Option Addr) (n1 c1 n2 c2:Nat) (z1 z2:Int) (w:World) (h1:IsInt w s1 a1 n1 c1 z1) (h2:IsInt w s2 a2 n2 c2 z2) (K:Nat) (hK:K<=4194304) (hf1:Fit K z1) (hf2:Fit K z2) :
  Calls Tryz.prog 58 #[.agg #[.int .i64 s1,.slice a1 n1 c1],.agg #[.int .i64 s2,.slice a2 n2 c2]] w fun e w'=>∃ (s':Int) (a':Option Addr) (n' c':Nat),e=.returned (.agg #[.int .i64 s',.slice a' n' c'])/\IsInt w' s' a' n' c' (z1-z2)/\Ext w w':=by
 have Hf1:=hid hf1;have Hf2:=hid hf2;have H1:=hid h1;have H2:=hid h2;clear hf1 hf2 h1 h2
 go_enter Tryz.func58,Tryz.ntmps58
 go_wp2_with fail
 have hbx:=boxes2 w (.int .i64 s1) (.slice a1 n1 c1) (.int .i64 s2) (.slice a2 n2 c2);generalize ((w.alloc (.cells #[.int .i64 s1,.slice a1 n1 c1] 54)).alloc (.cells #[.int .i64 s2,.slice a2 n2 c2] 54)).alloc (.cells #[.int .i64 0,.slice none 0 0] 54)=W0 at *;have Hn:=hid (Neg_from (H2.out.ext hbx.ext));have Ha:=hid (Add_from (H1.out.ext hbx.ext) K hK Hf1.out);have hE0d:Ext W0 W0.drew:=qG (Ext.refl _)
 have hB:w.heap.size+1<W0.heap.size:=by have:=hbx.size;omega
 have c0:=hbx.c0;have c1':=hbx.c1;have d0:=hbx.d0;have d1:=hbx.d1
 go_region_held3 (fun w'=>w'.cell? ⟨w.heap.size,0,none⟩=some (.int .i64 s1)/\w'.cell? ⟨w.heap.size,1,none⟩=some (.slice a1 n1 c1)/\w'.cell? ⟨w.heap.size+1,0,none⟩=some (.int .i64 s2)/\w'.cell? ⟨w.heap.size+1,1,none⟩=some (.slice a2 n2 c2)) (first | exact keep4 (by assumption) hB c0 c1' d0 d1 | exact keep4s (by assumption) hbx _ _)
  (first | (go_at_call 105;refine (Hn.out _ (by assumption)).mono ?_;rintro e wa ⟨s3,a3,n3,c3,rfl,hI3,hea,hxa⟩) | (go_at_call 62;refine (Ha.out _ s3 a3 n3 c3 _ hea hI3 Hf2.out.neg).mono ?_;rintro e wb ⟨s4,a4,n4,c4,rfl,hI4,heb,hxb⟩;have hr4:=hbx.res.ext heb;have k0:=hr4.c0;have k1:=hr4.c1;have g0:=hr4.f0;have g1:=hr4.f1))
 go_wp2_with fail
 exact qJ (v:=.agg #[.int .i64 s4,.slice a4 n4 c4]) (by simp [results,Tryz.results58,go_sem,k0,k1]) rfl ⟨s4,a4,n4,c4,rfl,(hI4.cast (by omega)).setRes hr4.row _ _,(hbx.ext.trans heb).setRes (by omega) _ _⟩
theorem Seg.new2 (w:World) (x y:Nat) (e:TypeId):Seg (w.alloc (.cells #[.int .u64 (x:Nat),.int .u64 (y:Nat)] e)) (some ⟨w.heap.size,0,none⟩) [x,y]:=by
 refine qO ⟨w.heap.size,0,rfl,by simp,fun t ht=>?_⟩
 have ht2:t<2:=by simpa using ht
 have:t=0\/t=1:=by omega
 rcases this with rfl | rfl<;>simp
theorem fromPair_any (neg:Bool) (hi lo:Nat) (h1:hi<B64) (h2:lo<B64) (w:World) :
  Calls Tryz.prog 108 #[.bool neg,.int .u64 hi,.int .u64 lo] w fun e w'=>∃ (sm:Int) (a':Option Addr) (n' c':Nat),e=.returned (.agg #[.int .i64 sm,.slice a' n' c'])/\IsInt w' sm a' n' c' (sgn neg (lo+B64*hi))/\Ext w w':=by
 have hR:Res (w.alloc (.cells #[.int .i64 0,.slice none 0 0] 54)) w.heap.size:=⟨by simp,qW w _⟩;have hE:Ext w (w.alloc (.cells #[.int .i64 0,.slice none 0 0] 54)):=Ext.alloc _ _
 by_cases hs:fits neg lo=true/\hi=0
 ·obtain ⟨hf,rfl⟩:=hs
  have hrg:=(fits_iff neg lo).1 hf
  go_enter Tryz.func108,Tryz.ntmps108
  go_wp2_with fail
  generalize w.alloc (.cells #[.int .i64 0,.slice none 0 0] 54)=W0 at *;refine (fromWord_any neg lo h2 _).mono ?_;rintro e w1 ⟨sm,rfl,hsm,he1⟩;rw [hf];have Hsm:=hid (hsm hf);have hr1:=hR.ext he1;have k0:=hr1.c0;have k1:=hr1.c1;have g0:=hr1.f0;have g1:=hr1.f1;have hz1:=hr1.lt;have Hrg:=hid hrg;clear hsm hf hrg
  go_wp2_with fail
  exact qJ (v:=.agg #[.int .i64 sm,.slice none 0 0]) (by simp [results,Tryz.results108,go_sem,k0,k1,hz1]) rfl ⟨sm,none,0,0,rfl,by rw [Hsm.out,Nat.mul_zero,Nat.add_zero];exact IsInt.small _ _ Hrg.out.1 Hrg.out.2,((hE.trans he1).setRes (qZ _) _ _).then _⟩
 ·have hgo:(fits neg lo=false)\/(fits neg lo=true/\((hi:Int) == 0)=false):=by
   cases hf:fits neg lo
   ·exact qM rfl
   ·right;refine ⟨rfl,?_⟩;rw [qV];intro h;exact hs ⟨hf,by omega⟩
  clear hs;have hd:Dig [lo,hi]:=Dig.cons h2 (Dig.cons h1 Dig.nil)
  rcases hgo with hf | ⟨hf,hh⟩
  all_goals
   go_enter Tryz.func108,Tryz.ntmps108
   go_wp2_with fail
   generalize w.alloc (.cells #[.int .i64 0,.slice none 0 0] 54)=W0 at *;refine (fromWord_any neg lo h2 _).mono ?_;rintro e w1 ⟨sm,rfl,hsm,he1⟩;rw [hf];clear hsm
   go_wp2_with fail
   have hea:Ext w1 (w1.alloc (.cells #[.int .i64 sm,.slice none 0 0] 54)):=Ext.alloc _ _
   have hsz:(w1.alloc (.cells #[.int .i64 sm,.slice none 0 0] 54)).heap.size=w1.heap.size+1:=by simp
   have hsn:=Seg.new2 (w1.alloc (.cells #[.int .i64 sm,.slice none 0 0] 54)) lo hi 77;have heb:=hea.then (.cells #[.int .u64 (lo:Nat),.int .u64 (hi:Nat)] 77);rw [hsz] at hsn;refine (fromWords_any neg _ [lo,hi] 2 2 _ rfl hsn hd (qZ _) (by unfold maxLen;omega)).mono ?_;rintro e w2 ⟨s4,a4,n4,c4,rfl,hI4,he2⟩;have he3:=(he1.trans heb).trans he2;have hr4:=hR.ext he3;have k0:=hr4.c0;have k1:=hr4.c1;have g0:=hr4.f0;have g1:=hr4.f1
   go_wp2_with fail
   exact qJ (v:=.agg #[.int .i64 s4,.slice a4 n4 c4]) (by simp [results,Tryz.results108,go_sem,k0,k1]) rfl ⟨s4,a4,n4,c4,rfl,(hI4.cast (by simp [val])).setRes hr4.row _ _,(hE.trans he3).setRes (qZ _) _ _⟩
theorem sgn_mul {z1 z2:Int} {b1 b2:Bool} (h1:z1=sgn b1 z1.natAbs) (h2:z2=sgn b2 z2.natAbs):sgn (!(b1 == b2)) (z1.natAbs*z2.natAbs)=z1*z2:=by
 have e:z1*z2=sgn b1 z1.natAbs*sgn b2 z2.natAbs:=by rw [<-h1,<-h2]
 rw [e]
 cases b1<;>cases b2<;>simp [sgn,Int.neg_mul,Int.mul_neg]
theorem IsInt.bool {w:World} {sm:Int} {ao:Option Addr} {n c:Nat} {z:Int} (h:IsInt w sm ao n c z):z=sgn (decide (sm<0)) z.natAbs:=by
 have h5:=h.sign.1
 by_cases h6:sm<0
 ·have:=h5.1 h6;simp [sgn,h6];omega
 ·have:¬ z<0:=fun k=>h6 (h5.2 k)
  simp [sgn,h6];omega
theorem Mul_any (s1 s2:Int) (a1 a2:Option Addr) (n1 c1 n2 c2:Nat) (z1 z2:Int) (w:World) (h1:IsInt w s1 a1 n1 c1 z1) (h2:IsInt w s2 a2 n2 c2 z2) (K:Nat) (hK:K<=4194304) (hf1:Fit K z1) (hf2:Fit K z2) :
  Calls Tryz.prog 59 #[.agg #[.int .i64 s1,.slice a1 n1 c1],.agg #[.int .i64 s2,.slice a2 n2 c2]] w fun e w'=>∃ (s':Int) (a':Option Addr) (n' c':Nat),e=.returned (.agg #[.int .i64 s',.slice a' n' c'])/\IsInt w' s' a' n' c' (z1*z2)/\Ext w w':=by
 have Hf1:=hid hf1;have Hf2:=hid hf2;have H1:=hid h1;have H2:=hid h2;have hz1:=h1.bool;have hz2:=h2.bool;clear hf1 hf2 h1 h2
 go_enter Tryz.func59,Tryz.ntmps59
 go_wp2_with fail
 have hbx:=boxes2 w (.int .i64 s1) (.slice a1 n1 c1) (.int .i64 s2) (.slice a2 n2 c2);generalize ((w.alloc (.cells #[.int .i64 s1,.slice a1 n1 c1] 54)).alloc (.cells #[.int .i64 s2,.slice a2 n2 c2] 54)).alloc (.cells #[.int .i64 0,.slice none 0 0] 54)=W0 at *;have Hw1:=hid (words_from (H1.out.ext hbx.ext));have Hw2:=hid (words_from (H2.out.ext hbx.ext));obtain ⟨b1,hb1⟩:∃ b,decide (s1<0)=b:=⟨_,rfl⟩;obtain ⟨b2,hb2⟩:∃ b,decide (s2<0)=b:=⟨_,rfl⟩;have hn1:=negative_from (w:=W0) s1 (.slice a1 n1 c1);have hn2:=negative_from (w:=W0) s2 (.slice a2 n2 c2);rw [hb1] at hn1 hz1;rw [hb2] at hn2 hz2;have Hn1:=hid hn1;have Hn2:=hid hn2;have Hz1:=hid hz1;have Hz2:=hid hz2;clear hn1 hn2 hb1 hb2 hz1 hz2;have hE0d:Ext W0 W0.drew:=qG (Ext.refl _)
 have hB:w.heap.size+1<W0.heap.size:=by have:=hbx.size;omega
 have c0:=hbx.c0;have c1':=hbx.c1;have d0:=hbx.d0;have d1:=hbx.d1
 go_region_held3 (fun w'=>w'.cell? ⟨w.heap.size,0,none⟩=some (.int .i64 s1)/\w'.cell? ⟨w.heap.size,1,none⟩=some (.slice a1 n1 c1)/\w'.cell? ⟨w.heap.size+1,0,none⟩=some (.int .i64 s2)/\w'.cell? ⟨w.heap.size+1,1,none⟩=some (.slice a2 n2 c2)) (first | exact keep4 (by assumption) hB c0 c1' d0 d1)
  (first | (go_at_call_of 102 s1;refine (Hn1.out _ (by assumption)).mono ?_;rintro e wc ⟨rfl,hec,hxc⟩) | (go_at_call_of 102 s2;refine (Hn2.out _ (by assumption)).mono ?_;rintro e wd ⟨rfl,hed,hxd⟩))
 obtain ⟨x0,x1,x2,x3⟩:=keep4' hed hbx;clear hec hxc hxd c0 c1' d0 d1;obtain ⟨nb,hnb⟩:∃ nb,(!(b1 == b2))=nb:=⟨_,rfl⟩;have Hnb:=hid hnb;rw [hnb];clear hnb
 by_cases hsh:a1=none/\a2=none
 ·obtain ⟨rfl,rfl⟩:=hsh
  obtain ⟨rfl,rfl,rfl,r1,r2⟩:=H1.out.none;obtain ⟨rfl,rfl,rfl,r3,r4⟩:=H2.out.none
  go_wp2_with fail
  refine (short_yes _ _ _ _ _ _ _).mono ?_;rintro e we ⟨rfl,hxe⟩;have hee:=hed.trans hxe;obtain ⟨y0,y1,y2,y3⟩:=keep4' hee hbx;have heed:Ext W0 we.drew:=qG hee;have Hwo1:=hid (wordOf_any s1 r1 r2);have Hwo2:=hid (wordOf_any s2 r3 r4)
  have hx1B:s1.natAbs<B64:=by rw [B64_eq];omega
  have hx2B:s2.natAbs<B64:=by rw [B64_eq];omega
  obtain ⟨v1,hv1⟩:∃ v,s1.natAbs=v:=⟨_,rfl⟩;obtain ⟨v2,hv2⟩:∃ v,s2.natAbs=v:=⟨_,rfl⟩;rw [hv1] at Hwo1 hx1B;rw [hv2] at Hwo2 hx2B;have Hv1:=hid hv1;have Hv2:=hid hv2;clear hv1 hv2 x0 x1 x2 x3
  go_wp2_with fail
  go_region_held3 (fun w'=>w'.cell? ⟨w.heap.size,0,none⟩=some (.int .i64 s1)/\w'.cell? ⟨w.heap.size,1,none⟩=some (.slice none 0 0)/\w'.cell? ⟨w.heap.size+1,0,none⟩=some (.int .i64 s2)/\w'.cell? ⟨w.heap.size+1,1,none⟩=some (.slice none 0 0)) (first | exact keep4 (by assumption) hB hbx.c0 hbx.c1 hbx.d0 hbx.d1)
   (first | (go_at_call_of 107 s1;refine (Hwo1.out _).mono ?_;rintro e wc ⟨rfl,rfl⟩) | (go_at_call_of 107 s2;refine (Hwo2.out _).mono ?_;rintro e wd ⟨rfl,rfl⟩) | (go_at_call 106;refine (mul64_hl v1 v2 hx1B hx2B _).mono ?_;rintro e wf ⟨hi,lo,rfl,rfl,hhi,hlo,Hp⟩))
  go_wp2_with fail
  refine (fromPair_any nb hi lo (by rw [B64_eq];omega) (by rw [B64_eq];omega) _).mono ?_;rintro e wg ⟨s4,a4,n4,c4,rfl,hI4,hxg⟩;have heg:=heed.trans hxg;have hr4:=hbx.res.ext heg;have k0:=hr4.c0;have k1:=hr4.c1;have g0:=hr4.f0;have g1:=hr4.f1
  go_wp2_with fail
  have hv4:sgn nb (lo+B64*hi)=s1*s2:=by
   rw [Hp.out,<-Hnb.out,<-Hv1.out,<-Hv2.out];exact sgn_mul Hz1.out Hz2.out
  exact qJ (v:=.agg #[.int .i64 s4,.slice a4 n4 c4]) (by simp [results,Tryz.results59,go_sem,k0,k1]) rfl ⟨s4,a4,n4,c4,rfl,(hI4.cast hv4).setRes hr4.row _ _,(hbx.ext.trans heg).setRes (by omega) _ _⟩
 ·have Hsn:=hid (fun wx=>short_no s1 s2 a1 a2 n1 c1 n2 c2 wx hsh)
  clear hsh
  go_wp2_with fail
  refine (Hsn.out _).mono ?_;rintro e we ⟨rfl,hxe⟩;have hee:=hed.trans hxe;obtain ⟨y0,y1,y2,y3⟩:=keep4' hee hbx;have heed:Ext W0 we.drew:=qG hee;have Hmw:=hid (mulOK_all 16777216 (qZ _));have Hfw:=hid (fromWords_from (w:=W0) nb);clear x0 x1 x2 x3
  go_wp2_with fail
  go_region_held3 (fun w'=>w'.cell? ⟨w.heap.size,0,none⟩=some (.int .i64 s1)/\w'.cell? ⟨w.heap.size,1,none⟩=some (.slice a1 n1 c1)/\w'.cell? ⟨w.heap.size+1,0,none⟩=some (.int .i64 s2)/\w'.cell? ⟨w.heap.size+1,1,none⟩=some (.slice a2 n2 c2)) (first | exact keep4 (by assumption) hB hbx.c0 hbx.c1 hbx.d0 hbx.d1 | exact keep4s (by assumption) hbx _ _)
   (first | (go_at_call_of 104 s1;refine (Hw1.out _ (by assumption)).mono ?_;rintro e wa ⟨p1,l1,m1,e1,rfl,hl1,hm1,he1,hsg1,hd1,hr1,Hv1,hea,hxa⟩;have Hl1:=hid hl1;clear hl1) | (go_at_call_of 104 s2;refine (Hw2.out _ (by assumption)).mono ?_;rintro e wb ⟨p2,l2,m2,e2,rfl,hl2,hm2,he2,hsg2,hd2,hr2,Hv2,heb,hxb⟩;have Hl2:=hid hl2;clear hl2) | (go_at_call 109;refine (Hmw.out p1 p2 l1 l2 m1 m2 e1 e2 wb Hl1.out Hl2.out (hsg1.ext hxb) hsg2 hd1 hd2 hm1 hm2 he1 he2 (by have:=Hf1.out.len hr1 Hv1.out;have:=Hf2.out.len hr2 Hv2.out;have:=Hl1.out;have:=Hl2.out;omega)).mono ?_;rintro e wf ⟨_,rfl,⟨p3,l3,e3,rfl,hm3,he3,hsg3,hd3,hr3,hv3⟩,hxf,_⟩;have Hv3:=hid hv3;clear hv3;have hef:=heb.trans hxf) | (go_at_call 94;refine (Hfw.out _ p3 l3 l3.length e3 hef rfl hsg3 hd3 hm3 he3).mono ?_;rintro e wg ⟨s4,a4,n4,c4,rfl,hI4,heg,hxg⟩;have hr4:=hbx.res.ext heg;have k0:=hr4.c0;have k1:=hr4.c1;have g0:=hr4.f0;have g1:=hr4.f1))
  go_wp2_with fail
  have hv4:sgn nb (val l3)=z1*z2:=by
   rw [Hv3.out,<-Hnb.out,Hv1.out,Hv2.out];exact sgn_mul Hz1.out Hz2.out
  exact qJ (v:=.agg #[.int .i64 s4,.slice a4 n4 c4]) (by simp [results,Tryz.results59,go_sem,k0,k1]) rfl ⟨s4,a4,n4,c4,rfl,(hI4.cast hv4).setRes hr4.row _ _,(hbx.ext.trans heg).setRes (by omega) _ _⟩
structure Boxed2 (w W:World) (x1 y1 x2 y2:Value):Prop where
 ext:Ext w W
 size:W.heap.size=w.heap.size+2
 c0:W.cell? ⟨w.heap.size,0,none⟩=some x1
 c1:W.cell? ⟨w.heap.size,1,none⟩=some y1
 d0:W.cell? ⟨w.heap.size+1,0,none⟩=some x2
 d1:W.cell? ⟨w.heap.size+1,1,none⟩=some y2
theorem boxed2 (w:World) (x1 y1 x2 y2:Value):Boxed2 w ((w.alloc (.cells #[x1,y1] 54)).alloc (.cells #[x2,y2] 54)) x1 y1 x2 y2 :=
 ⟨(Ext.alloc _ _).then _,by simp,by simp,by simp,by simp,by simp⟩
theorem keepb {w W w':World} {x y x2 y2:Value} (h:Ext W w') (hb:Boxed2 w W x y x2 y2):w'.cell? ⟨w.heap.size,0,none⟩=some x/\w'.cell? ⟨w.heap.size,1,none⟩=some y/\w'.cell? ⟨w.heap.size+1,0,none⟩=some x2/\w'.cell? ⟨w.heap.size+1,1,none⟩=some y2 :=
 keep4 h (by have:=hb.size;omega) hb.c0 hb.c1 hb.d0 hb.d1
theorem Sign_from {w:World} (sm:Int) (lv:Value):∀ wx:World,Ext w wx->Calls Tryz.prog 60 #[.agg #[.int .i64 sm,lv]] wx fun e w'=>e=.returned (.int .i64 (cmp3 sm 0))/\Ext w w'/\Ext wx w' :=
 fun wx hx=>(Sign_any sm lv wx).mono fun _ _ h=>⟨h.1,hx.trans h.2,h.2⟩
theorem cmp3_sgn (b1 b2:Bool) (x y:Nat) (hb:b1≠b2) (h1:b1=true->0<x) (h2:b2=true->0<y):cmp3 (cmp3 (sgn b1 x) 0) (cmp3 (sgn b2 y) 0)=cmp3 (sgn b1 x) (sgn b2 y):=by
 cases b1<;>cases b2
 ·exact absurd rfl hb
 ·have:=h2 rfl
  have e2:cmp3 (sgn true y) 0=-1:=cmp3_lt (by simp [sgn];omega);rw [e2,cmp3_gt (x:=sgn false x) (y:=sgn true y) (by simp [sgn];omega)]
  unfold cmp3;simp [sgn];split<;>omega
 ·have:=h1 rfl
  have e1:cmp3 (sgn true x) 0=-1:=cmp3_lt (by simp [sgn];omega);rw [e1,cmp3_lt (x:=sgn true x) (y:=sgn false y) (by simp [sgn];omega)]
  unfold cmp3;simp [sgn];split<;>omega
 ·exact absurd rfl hb
theorem cmp3_same (b:Bool) (x y:Nat):cmp3 (sgn b x) (sgn b y)=(if b then cmp3 (y:Int) (x:Int) else cmp3 (x:Int) (y:Int)):=by
 cases b
 ·simp [sgn]
 ·simp only [sgn,if_true]
  unfold cmp3
  split<;>split<;>(try split)<;>(try split)<;>omega
theorem Cmp_any (s1 s2:Int) (a1 a2:Option Addr) (n1 c1 n2 c2:Nat) (z1 z2:Int) (w:World) (h1:IsInt w s1 a1 n1 c1 z1) (h2:IsInt w s2 a2 n2 c2 z2) (K:Nat) (hK:K<=4194304) (hf1:Fit K z1) (hf2:Fit K z2) :
  Calls Tryz.prog 55 #[.agg #[.int .i64 s1,.slice a1 n1 c1],.agg #[.int .i64 s2,.slice a2 n2 c2]] w fun e w'=>e=.returned (.int .i64 (cmp3 z1 z2))/\Ext w w':=by
 have Hf1:=hid hf1;have Hf2:=hid hf2;have H1:=hid h1;have H2:=hid h2;have hz1:=h1.bool;have hz2:=h2.bool;have hsg1:=hid h1.sign;have hsg2:=hid h2.sign;have hc1:=hid h1.cmp3;have hc2:=hid h2.cmp3;clear hf1 hf2 h1 h2
 by_cases hsh:a1=none/\a2=none
 ·obtain ⟨rfl,rfl⟩:=hsh
  obtain ⟨rfl,rfl,rfl,r1,r2⟩:=H1.out.none;obtain ⟨rfl,rfl,rfl,r3,r4⟩:=H2.out.none;clear hz1 hz2
  go_enter Tryz.func55,Tryz.ntmps55
  go_wp2_with fail
  have hbx:=boxed2 w (.int .i64 s1) (.slice none 0 0) (.int .i64 s2) (.slice none 0 0);generalize (w.alloc (.cells #[.int .i64 s1,.slice none 0 0] 54)).alloc (.cells #[.int .i64 s2,.slice none 0 0] 54)=W0 at *;refine (short_yes _ _ _ _ _ _ _).mono ?_;rintro e we ⟨rfl,hxe⟩;obtain ⟨y0,y1,y2,y3⟩:=keepb hxe hbx
  go_wp2_with fail
  refine (compareInt_any _ _ _).mono ?_;rintro e wf ⟨rfl,rfl⟩
  go_wp2_with fail
  go_ret
  exact ⟨rfl,hbx.ext.trans hxe⟩
 ·have Hsn:=hid (fun wx=>short_no s1 s2 a1 a2 n1 c1 n2 c2 wx hsh)
  clear hsh;have Hz10:=hid hz1;have Hz20:=hid hz2;clear hz1 hz2
  go_enter Tryz.func55,Tryz.ntmps55
  go_wp2_with fail
  have hbx:=boxed2 w (.int .i64 s1) (.slice a1 n1 c1) (.int .i64 s2) (.slice a2 n2 c2);generalize (w.alloc (.cells #[.int .i64 s1,.slice a1 n1 c1] 54)).alloc (.cells #[.int .i64 s2,.slice a2 n2 c2] 54)=W0 at *;have Hw1:=hid (words_from (H1.out.ext hbx.ext));have Hw2:=hid (words_from (H2.out.ext hbx.ext));obtain ⟨b1,hb1⟩:∃ b,decide (s1<0)=b:=⟨_,rfl⟩;obtain ⟨b2,hb2⟩:∃ b,decide (s2<0)=b:=⟨_,rfl⟩;have hn1:=negative_from (w:=W0) s1 (.slice a1 n1 c1);have hn2:=negative_from (w:=W0) s2 (.slice a2 n2 c2);have hz1:=Hz10.out;have hz2:=Hz20.out
  have hp1:b1=true->0<z1.natAbs:=by
   intro h;have:=hsg1.out.1.1 (by rw [<-hb1] at h;simpa using h);omega
  have hp2:b2=true->0<z2.natAbs:=by
   intro h;have:=hsg2.out.1.1 (by rw [<-hb2] at h;simpa using h);omega
  rw [hb1] at hn1 hz1;rw [hb2] at hn2 hz2;have Hn1:=hid hn1;have Hn2:=hid hn2;have Hz1:=hid hz1;have Hz2:=hid hz2;have HS1:=hid (Sign_from (w:=W0) s1 (.slice a1 n1 c1));have HS2:=hid (Sign_from (w:=W0) s2 (.slice a2 n2 c2));have Hp1:=hid hp1;have Hp2:=hid hp2;clear hn1 hn2 hb1 hb2 hz1 hz2 hp1 hp2
  have hB:w.heap.size+1<W0.heap.size:=by have:=hbx.size;omega
  refine (Hsn.out _).mono ?_;rintro e we ⟨rfl,hxe⟩;obtain ⟨y0,y1,y2,y3⟩:=keepb hxe hbx;have heed:Ext W0 we.drew:=qG hxe
  go_wp2_with fail
  go_region_held3 (fun w'=>w'.cell? ⟨w.heap.size,0,none⟩=some (.int .i64 s1)/\w'.cell? ⟨w.heap.size,1,none⟩=some (.slice a1 n1 c1)/\w'.cell? ⟨w.heap.size+1,0,none⟩=some (.int .i64 s2)/\w'.cell? ⟨w.heap.size+1,1,none⟩=some (.slice a2 n2 c2)) (first | exact keepb (by assumption) hbx)
   (first | (go_at_call_of 102 s1;refine (Hn1.out _ (by assumption)).mono ?_;rintro e wc ⟨rfl,hec,hxc⟩) | (go_at_call_of 102 s2;refine (Hn2.out _ (by assumption)).mono ?_;rintro e wd ⟨rfl,hed,hxd⟩))
  obtain ⟨x0,x1,x2,x3⟩:=keepb hed hbx;have hedd:Ext W0 wd.drew:=qG hed;clear hec hxc hxd y0 y1 y2 y3 hxe heed
  by_cases hbb:b1=b2
  ·subst hbb
   have hbt:(!(b1 == b1))=false:=by simp
   rw [hbt];clear hbt
   go_wp2_with fail
   refine (Hn1.out _ hed).mono ?_;rintro e wf ⟨rfl,hef,hxf⟩;obtain ⟨t0,t1,t2,t3⟩:=keepb hef hbx;have hefd:Ext W0 wf.drew:=qG hef;clear x0 x1 x2 x3
   cases b1
   ·go_wp2_with fail
    go_region_held3 (fun w'=>w'.cell? ⟨w.heap.size,0,none⟩=some (.int .i64 s1)/\w'.cell? ⟨w.heap.size,1,none⟩=some (.slice a1 n1 c1)/\w'.cell? ⟨w.heap.size+1,0,none⟩=some (.int .i64 s2)/\w'.cell? ⟨w.heap.size+1,1,none⟩=some (.slice a2 n2 c2)) (first | exact keepb (by assumption) hbx)
     (first | (go_at_call_of 104 s1;refine (Hw1.out _ (by assumption)).mono ?_;rintro e wa ⟨p1,l1,m1,e1,rfl,hl1,hm1,he1,hsg1',hd1,hr1,Hv1,hea,hxa⟩;have Hl1:=hid hl1;clear hl1) | (go_at_call_of 104 s2;refine (Hw2.out _ (by assumption)).mono ?_;rintro e wb ⟨p2,l2,m2,e2,rfl,hl2,hm2,he2,hsg2',hd2,hr2,Hv2,heb,hxb⟩;have Hl2:=hid hl2;clear hl2) | (go_at_call 103;refine (compareWords_any p1 p2 l1 l2 m1 m2 e1 e2 wb Hl1.out Hl2.out (hsg1'.ext hxb) hsg2' hd1 hd2 hr1 hr2 hm1 hm2 (by have:=Hf1.out.len hr1 Hv1.out;have:=Hl1.out;omega) (by have:=Hf2.out.len hr2 Hv2.out;have:=Hl2.out;omega)).mono ?_;rintro e wg ⟨rfl,hxg⟩;have heg:=heb.trans hxg))
    go_wp2_with fail
    go_ret
    refine ⟨?_,hbx.ext.trans heg⟩
    have e5:cmp3 z1 z2=cmp3 (val l1) (val l2):=by rw [Hz1.out,Hz2.out,cmp3_same,Hv1.out,Hv2.out];simp
    rw [e5];rfl
   ·go_wp2_with fail
    go_region_held3 (fun w'=>w'.cell? ⟨w.heap.size,0,none⟩=some (.int .i64 s1)/\w'.cell? ⟨w.heap.size,1,none⟩=some (.slice a1 n1 c1)/\w'.cell? ⟨w.heap.size+1,0,none⟩=some (.int .i64 s2)/\w'.cell? ⟨w.heap.size+1,1,none⟩=some (.slice a2 n2 c2)) (first | exact keepb (by assumption) hbx)
     (first | (go_at_call_of 104 s2;refine (Hw2.out _ (by assumption)).mono ?_;rintro e wb ⟨p2,l2,m2,e2,rfl,hl2,hm2,he2,hsg2',hd2,hr2,Hv2,heb,hxb⟩;have Hl2:=hid hl2;clear hl2) | (go_at_call_of 104 s1;refine (Hw1.out _ (by assumption)).mono ?_;rintro e wa ⟨p1,l1,m1,e1,rfl,hl1,hm1,he1,hsg1',hd1,hr1,Hv1,hea,hxa⟩;have Hl1:=hid hl1;clear hl1) | (go_at_call 103;refine (compareWords_any p2 p1 l2 l1 m2 m1 e2 e1 wa Hl2.out Hl1.out (hsg2'.ext hxa) hsg1' hd2 hd1 hr2 hr1 hm2 hm1 (by have:=Hf2.out.len hr2 Hv2.out;have:=Hl2.out;omega) (by have:=Hf1.out.len hr1 Hv1.out;have:=Hl1.out;omega)).mono ?_;rintro e wg ⟨rfl,hxg⟩;have heg:=hea.trans hxg))
    go_wp2_with fail
    go_ret
    refine ⟨?_,hbx.ext.trans heg⟩
    have e5:cmp3 z1 z2=cmp3 (val l2) (val l1):=by rw [Hz1.out,Hz2.out,cmp3_same,Hv1.out,Hv2.out];simp
    rw [e5];rfl
  ·have hbt:(!(b1 == b2))=true:=by cases b1<;>cases b2<;>simp_all
   rw [hbt];clear hbt;have Hbb:=hid hbb;clear hbb
   go_wp2_with fail
   go_region_held3 (fun w'=>w'.cell? ⟨w.heap.size,0,none⟩=some (.int .i64 s1)/\w'.cell? ⟨w.heap.size,1,none⟩=some (.slice a1 n1 c1)/\w'.cell? ⟨w.heap.size+1,0,none⟩=some (.int .i64 s2)/\w'.cell? ⟨w.heap.size+1,1,none⟩=some (.slice a2 n2 c2)) (first | exact keepb (by assumption) hbx)
    (first | (go_at_call_of 60 s1;refine (HS1.out _ (by assumption)).mono ?_;rintro e wa ⟨rfl,hea,hxa⟩) | (go_at_call_of 60 s2;refine (HS2.out _ (by assumption)).mono ?_;rintro e wb ⟨rfl,heb,hxb⟩) | (go_at_call 101;refine (compareInt_any _ _ _).mono ?_;rintro e wg ⟨rfl,rfl⟩))
   go_wp2_with fail
   go_ret
   refine ⟨?_,hbx.ext.trans heb⟩
   have e5:cmp3 z1 z2=cmp3 (cmp3 s1 0) (cmp3 s2 0):=by
    rw [hc1.out,hc2.out];have:=cmp3_sgn b1 b2 z1.natAbs z2.natAbs Hbb.out Hp1.out Hp2.out;rw [<-Hz1.out,<-Hz2.out] at this;exact this.symm
   rw [e5];rfl
def bs (s:ByteArray):List Nat:=s.data.toList.map UInt8.toNat
theorem bs_length (s:ByteArray):(bs s).length=s.size:=by rw [Lib.size_eq,bs,jY]
theorem bs_at (s:ByteArray) (k:Nat) (h:k<s.size):s[k].toNat=(bs s).getD k 0:=by
 have h':k<s.data.toList.length:=by rw [<-Lib.size_eq];exact h
 unfold bs;rw [qQ,jM,qX h']
 rfl
theorem bs_extract (s:ByteArray) (a b:Nat):bs (s.extract a b)=((bs s).drop a).take (b-a):=by
 unfold bs;rw [Lib.extract_data,List.map_take,List.map_drop]
theorem bs_empty (s:ByteArray) (h:0<s.size):s.toList.isEmpty=false:=by
 rw [Lib.toList_data]
 have:s.data.toList.length≠0:=by rw [<-Lib.size_eq];omega
 cases hd:s.data.toList with
 | nil=>rw [hd] at this;simp at this
 | cons x r=>rfl
theorem bs_nil (s:ByteArray) (h:s.size=0):s=⟨#[]⟩:=by
 have:s.data.toList=[]:=jD (by rw [<-Lib.size_eq];exact h)
 cases s with
 | mk d=>simp at this;simp [this]
def sgl (l:List Nat):Nat:=if l.getD 0 0=45 then 1 else 0
theorem sgl_le (l:List Nat):sgl l<=l.length/\sgl l<=1:=by
 unfold sgl
 split
 ·rename_i h
  cases l with
  | nil=>simp at h
  | cons x r=>simp
 ·exact ⟨qI _,by omega⟩
theorem signLength_any (s:ByteArray) (w:World) (_hs:s.size<=9223372036854775807) :
  Calls Tryz.prog 91 #[.string s] w fun e w'=>e=.returned (.int .i64 (sgl (bs s):Nat))/\w=w':=by
 by_cases h0:s.size=0
 ·have e:=bs_nil s h0
  subst e
  go_enter Tryz.func91,Tryz.ntmps91
  go_wp2
  go_ret
  exact ⟨rfl,rfl⟩
 ·have hp:0<s.size:=by omega
  have he:=bs_empty s hp;have hat:=bs_at s 0 hp
  by_cases h45:(bs s).getD 0 0=45
  ·have hb:((s[0].toNat:Int) == 45)=true:=by rw [yY,hat];omega
   have Hg:Hid (sgl (bs s)=1):=by show _=_;unfold sgl;rw [qU h45]
   clear hat h45 h0
   go_enter Tryz.func91,Tryz.ntmps91
   go_wp2
   go_ret
   exact ⟨by rw [Hg.out];rfl,rfl⟩
  ·have hb:((s[0].toNat:Int) == 45)=false:=by rw [qV,hat];omega
   have Hg:Hid (sgl (bs s)=0):=by show _=_;unfold sgl;rw [qE h45]
   clear hat h45 h0
   go_enter Tryz.func91,Tryz.ntmps91
   go_wp2
   go_ret
   exact ⟨by rw [Hg.out];rfl,rfl⟩
def isD (x:Nat):Bool:=decide (48<=x/\x<=57)
def dcount (l:List Nat):Nat:=(l.takeWhile isD).length
theorem dcount_le (l:List Nat):dcount l<=l.length:=by
 unfold dcount;exact (List.takeWhile_prefix _).length_le
theorem dcount_of (l:List Nat) (k:Nat) (hk:k<=l.length) (h:∀ t,t<k->isD (l.getD t 0)=true) (h2:k=l.length\/isD (l.getD k 0)=false):dcount l=k:=by
 induction l generalizing k with
 | nil=>simp at hk;simp [dcount,hk]
 | cons x r ih =>
  cases k with
  | zero =>
   have:isD x=false:=by
    rcases h2 with h2 | h2
    ·simp at h2
    ·simpa using h2
   simp [dcount,this]
  | succ m =>
   have hx:isD x=true:=by have:=h 0 (by omega);simpa using this
   have:=ih m (by simpa using hk) (fun t ht=>by have:=h (t+1) (by omega);simpa using this) (by
    rcases h2 with h2 | h2
    ·left;simpa using h2
    ·right;simpa using h2)
   unfold dcount at this ⊢
   simp [hx,this]
def spos (l:List Nat):Nat:=if l.length=0\/l.getD 0 0=48 then 0 else dcount l
theorem spos_le (l:List Nat):spos l<=l.length:=by
 unfold spos;split
 ·exact qI _
 ·exact dcount_le l
theorem scanPositive_any (s:ByteArray) (w:World) (hs:s.size<=9223372036854775807) :
  Calls Tryz.prog 88 #[.string s] w fun e w'=>e=.returned (.int .i64 (spos (bs s):Nat))/\w=w':=by
 by_cases h0:s.size=0
 ·have e:=bs_nil s h0
  subst e
  go_enter Tryz.func88,Tryz.ntmps88
  go_wp2
  go_ret
  exact ⟨rfl,rfl⟩
 ·have hp:0<s.size:=by omega
  have he:=bs_empty s hp;have hat:=bs_at s 0 hp;have hlen:=bs_length s
  by_cases h48:(bs s).getD 0 0=48
  ·have hb:((s[0].toNat:Int) == 48)=true:=by rw [yY,hat];omega
   have Hg:Hid (spos (bs s)=0):=by show _=_;unfold spos;rw [qU (qO h48)]
   clear hat h48 h0 hlen
   go_enter Tryz.func88,Tryz.ntmps88
   go_wp2
   go_ret
   exact ⟨by rw [Hg.out];rfl,rfl⟩
  ·have hb:((s[0].toNat:Int) == 48)=false:=by rw [qV,hat];omega
   have Hg:Hid (spos (bs s)=dcount (bs s)):=by show _=_;unfold spos;rw [qE (by rw [hlen];rintro (h | h)<;>omega)]
   have Hlen:=hid hlen;clear hat h48 h0 hlen
   go_enter Tryz.func88,Tryz.ntmps88
   go_wp2
   go_loop [3] (fun i=>∃ k:Nat,k<=s.size/\i=.int .i64 k/\∀ t,t<k->isD ((bs s).getD t 0)=true) (fun i=>s.size-(intOf i).toNat)
   case atStart=>exact ⟨0,qI _,rfl,fun t ht=>absurd ht (by omega)⟩
   case round =>
    obtain ⟨k,hk,rfl,hall⟩:=hrel;have Hall:=hid hall;clear hall
    by_cases hlt:k<s.size
    ·have hat:=bs_at s k hlt
     by_cases hdg:isD ((bs s).getD k 0)=true
     ·have hr:(48:Int)<=(s[k].toNat:Int)/\(s[k].toNat:Int)<=57:=by
       simp only [isD,jZ] at hdg;rw [hat];omega
      obtain ⟨g1,g2⟩:=hr;have Hdg:=hid hdg;clear hat hdg
      go_wp2
      have hall:=Hall.out
      go_round
      case rel=>exact ⟨k+1,by omega,by go_num,fun t ht=>by
       by_cases e:t=k
       ·rw [e];exact Hdg.out
       ·exact hall t (by omega)⟩
      case measure=>simp [intOf];omega
     ·have Hc:Hid (dcount (bs s)=k):=dcount_of _ k (by rw [Hlen.out];exact hk) Hall.out (qO (by simpa using hdg))
      by_cases hlo:48<=s[k].toNat
      ·have g1:(48:Int)<=(s[k].toNat:Int):=by omega
       have g2:¬ (s[k].toNat:Int)<=57:=by
        simp only [isD,jZ] at hdg;rw [hat] at hlo ⊢;omega
       clear hat hdg hlo
       go_wp2
       go_ret
       exact ⟨by rw [Hg.out,Hc.out];rfl,rfl⟩
      ·have g1:¬ (48:Int)<=(s[k].toNat:Int):=by omega
       clear hat hdg hlo
       go_wp2
       go_ret
       exact ⟨by rw [Hg.out,Hc.out];rfl,rfl⟩
    ·obtain rfl:k=s.size:=by omega
     have Hc:Hid (dcount (bs s)=s.size):=dcount_of _ _ (by rw [Hlen.out];exact hk) Hall.out (qM Hlen.out.symm)
     go_wp2
     go_ret
     exact ⟨by rw [Hg.out,Hc.out];rfl,rfl⟩
def scanN (l:List Nat):Nat × Bool :=
 if 0<l.length/\l.getD 0 0=48 then (1,true) else (sgl l+spos (l.drop (sgl l)),decide (0<spos (l.drop (sgl l))))
theorem scanNumber_any (s:ByteArray) (w:World) (hs:s.size<=9223372036854775807) :
  Calls Tryz.prog 87 #[.string s] w fun e w'=>e=.returned (.tuple #[.int .i64 ((scanN (bs s)).1:Nat),.bool (scanN (bs s)).2])/\w=w':=by
 by_cases h48:0<(bs s).length/\(bs s).getD 0 0=48
 ·have hp:0<s.size:=by rw [<-bs_length];exact h48.1
  have he:=bs_empty s hp
  have hb:((s[0].toNat:Int) == 48)=true:=by rw [yY,bs_at s 0 hp];have:=h48.2;omega
  have Hg:Hid (scanN (bs s)=(1,true)):=by show _=_;unfold scanN;rw [qU h48]
  clear h48
  go_enter Tryz.func87,Tryz.ntmps87
  go_wp2_with fail
  go_ret2
  exact ⟨by rw [Hg.out];rfl,rfl⟩
 ·have Hg:Hid (scanN (bs s)=(sgl (bs s)+spos ((bs s).drop (sgl (bs s))),decide (0<spos ((bs s).drop (sgl (bs s)))))):=by show _=_;unfold scanN;rw [qE h48]
  have hsl:=sgl_le (bs s);have Hsl:=hid (signLength_any s w hs);rw [bs_length] at hsl
  have hext:bs (s.extract (sgl (bs s)) s.size)=(bs s).drop (sgl (bs s)):=by
   rw [bs_extract,qB];rw [qF,bs_length];omega
  have hsz:(s.extract (sgl (bs s)) s.size).size<=9223372036854775807:=by
   rw [<-bs_length,hext,qF,bs_length];omega
  have Hsp:=hid (fun wx=>scanPositive_any (s.extract (sgl (bs s)) s.size) wx hsz);have hspl:=spos_le ((bs s).drop (sgl (bs s)));rw [qF,bs_length] at hspl;rw [hext] at Hsp
  have hnz:s.size=0\/(∃ hp:0<s.size,((s[0].toNat:Int) == 48)=false):=by
   by_cases h0:s.size=0
   ·exact qM h0
   ·right;refine ⟨by omega,?_⟩
    rw [qV,bs_at s 0 (by omega)];intro h;exact h48 ⟨by rw [bs_length];omega,by omega⟩
  obtain ⟨g,hg⟩:∃ g,sgl (bs s)=g:=⟨_,rfl⟩;obtain ⟨d,hd⟩:∃ d,spos ((bs s).drop (sgl (bs s)))=d:=⟨_,rfl⟩;rw [hd] at Hg Hsp hspl;rw [hg] at Hg Hsl Hsp hsl hspl;obtain ⟨hg1,hg2⟩:=hsl;clear hext hsz h48 hg hd
  rcases hnz with h0 | ⟨hp,hb⟩
  ·obtain rfl:g=0:=by omega
   obtain rfl:d=0:=by omega
   have e:=bs_nil s h0;subst e
   go_enter Tryz.func87,Tryz.ntmps87
   go_wp2_with fail
   refine Hsl.out.mono ?_;rintro e w1 ⟨rfl,rfl⟩
   go_wp2_with fail
   refine (Hsp.out _).mono ?_;rintro e w2 ⟨rfl,rfl⟩
   go_wp2_with fail
   go_ret2
   exact ⟨by rw [Hg.out];rfl,rfl⟩
  ·have he:=bs_empty s hp
   have hdl:d<=s.size:=by omega
   have hgi:(g:Int)<=(s.size:Int):=by omega
   go_enter Tryz.func87,Tryz.ntmps87
   go_wp2_with fail
   refine Hsl.out.mono ?_;rintro e w1 ⟨rfl,rfl⟩
   go_wp2_with fail
   refine (Hsp.out _).mono ?_;rintro e w2 ⟨rfl,rfl⟩
   go_wp2_with fail
   go_ret2
   refine ⟨?_,rfl⟩;rw [Hg.out]
   show Ending.returned (.tuple #[.int .i64 _,.bool _])=.returned (.tuple #[.int .i64 _,.bool _])
   simp
theorem tooLong_any (s:ByteArray) (w:World) (hs:s.size<=9223372036854775807) :
  Calls Tryz.prog 52 #[.string s] w fun e w'=>e=.returned (.bool (decide (1000<s.size-sgl (bs s))))/\w=w':=by
 have Hsl:=hid (signLength_any s w hs);have hsl:=sgl_le (bs s);rw [bs_length] at hsl;obtain ⟨g,hg⟩:∃ g,sgl (bs s)=g:=⟨_,rfl⟩;rw [hg] at Hsl hsl ⊢;obtain ⟨hg1,hg2⟩:=hsl;clear hg
 go_enter Tryz.func52,Tryz.ntmps52
 go_wp2_with fail
 refine Hsl.out.mono ?_;rintro e w1 ⟨rfl,rfl⟩
 go_wp2_with fail
 go_ret
 refine ⟨?_,rfl⟩
 show Ending.returned (.bool _)=.returned (.bool _)
 congr 2
 rw [yN];omega
def dval (l:List Nat):Nat:=l.foldl (fun v x=>10*v+(x-48)) 0
theorem dval_snoc (l:List Nat) (x:Nat):dval (l++[x])=10*dval l+(x-48):=by simp [dval]
theorem dval_lt (l:List Nat) (h:∀ t,t<l.length->isD (l.getD t 0)=true):dval l<10 ^ l.length:=by
 induction hn:l.length generalizing l with
 | zero=>have:l=[]:=jD hn;subst this;simp [dval]
 | succ n ih =>
  have hl:l=l.take n++[l.getD n 0]:=by
   have:=take_succ_getD l n (by omega);rw [qB (by omega)] at this;exact this
  have hlt:(l.take n).length=n:=by rw [qC];omega
  have h1:=ih (l.take n) (fun t ht=>by
   have:=h t (by omega)
   rw [qQ,jC,qU (by omega),<-qQ];exact this) hlt
  have h2:=h n (by omega);simp only [isD,jZ] at h2;rw [hl,dval_snoc,jK];omega
theorem readChunk_any (s:ByteArray) (w:World) (hs:s.size<=19) (hd:∀ t,t<s.size->isD ((bs s).getD t 0)=true) :
  Calls Tryz.prog 93 #[.string s] w fun e w'=>e=.returned (.int .u64 (dval (bs s):Nat))/\w=w':=by
 have Hd:=hid hd;clear hd
 go_enter Tryz.func93,Tryz.ntmps93
 go_wp2
 go_loop [3,7] (fun v i=>∃ k:Nat,k<=s.size/\i=.int .i64 k/\v=.int .u64 (dval ((bs s).take k):Nat)) (fun _ i=>s.size-(intOf i).toNat)
 case atStart=>exact ⟨0,qI _,rfl,rfl⟩
 case round =>
  obtain ⟨k,hk,rfl,rfl⟩:=hrel
  have hbk:dval ((bs s).take k)<10 ^ k:=by
   have hl:((bs s).take k).length=k:=by rw [qC,bs_length];omega
   have:=dval_lt ((bs s).take k) (fun t ht=>by
    rw [qQ,jC,qU (by omega),<-qQ];exact Hd.out t (by omega))
   rwa [hl] at this
  by_cases hlt:k<s.size
  ·have hat:=bs_at s k hlt
   have hdg:=Hd.out k hlt;simp only [isD,jZ] at hdg;obtain ⟨v,hv⟩:∃ v,dval ((bs s).take k)=v:=⟨_,rfl⟩;obtain ⟨x,hx⟩:∃ x,s[k].toNat=x:=⟨_,rfl⟩
   have hvb:v<10 ^ 18:=by rw [<-hv];exact qK hbk (qY (by omega) (by omega))
   have hvb':v<=1000000000000000000:=by omega
   have hx1:48<=x/\x<=57:=by rw [<-hx,hat];exact hdg
   obtain ⟨hx1,hx2⟩:=hx1
   have Hstep:Hid (dval ((bs s).take (k+1))=10*v+(x-48)):=by
    show _=_
    rw [take_succ_getD _ k (by rw [bs_length];exact hlt),dval_snoc,hv,<-hat,hx]
   have ehx:(s[k].toNat:Int)=(x:Int):=by rw [hx]
   rw [hv];clear hat hdg hv hbk hvb hx
   go_wp2
   go_round
   case rel=>exact ⟨k+1,by omega,by go_num,by rw [Hstep.out];go_num⟩
   case measure=>simp [intOf];omega
  ·obtain rfl:k=s.size:=by omega
   have Hfin:Hid ((bs s).take s.size=bs s):=qB (by rw [bs_length];exact qZ _);clear hbk
   go_wp2
   go_ret
   refine ⟨?_,rfl⟩;have hf:=Hfin.out
   show Ending.returned (.int .u64 (dval ((bs s).take s.size):Nat))=_
   rw [hf]
theorem chunk_val {M la:List Nat} {n over chunk k:Nat} (hM:M.length=n+1) (hv:val (seg M 0 n)+B64 ^ n*over=k+val la*chunk):val (M.set n over)=k+val la*chunk:=by
 have e1:val (M.set n over)=val (seg (M.set n over) 0 (n+1)):=by
  rw [show seg (M.set n over) 0 (n+1)=M.set n over from by
   have:=seg_all (M.set n over);rwa [jV,hM] at this]
 rw [e1,val_seg_succ _ 0 n (by rw [jV];omega),jH,getD_set_eq _ _ _ (by omega),seg_set_out _ _ _ _ _ (by omega),hv]
theorem appendChunk_any (ao:Option Addr) (la:List Nat) (n c chunk:Nat) (w:World) (hl:la.length=n) (hs:Seg w ao la) (hd:Dig la) (hc:n<=c) (hn:n<=16777216) (hch:chunk<10000000000000000000) :
  Calls Tryz.prog 92 #[.slice ao n c,.int .u64 chunk] w fun e w'=>∃ v,e=.returned v/\Num w' v (chunk+val la*10000000000000000000)/\Ext w w':=by
 have Hl:=hid hl;clear hl
 have hcB:chunk<B64:=by rw [B64_eq];omega
 have i1:(0:Int)<=(n:Int):=by omega
 have i2:(n:Int)<(n:Int)+1:=by omega
 have i3:(n:Int)<=(n:Int)+1:=by omega
 go_enter Tryz.func92,Tryz.ntmps92
 go_wp2_with (at_make;refine wpList_make_row _ rfl _ _ rfl _ _ _ _ (n+1) rfl rfl (by omega) (by omega) (by omega) ?_;intro w1 hr1 he1 hz1;have hcz:=hr1.cell 0 (by simp);have hfz:=hr1.frozen 0)
 have hr2:Row (w1.setCell ⟨w.heap.size,0,none⟩ (.int .u64 (chunk:Nat))) w.heap.size ((List.replicate (n+1) 0).set 0 chunk):=hr1.set _ _;have ho2:Only w.heap.size w1 (w1.setCell ⟨w.heap.size,0,none⟩ (.int .u64 (chunk:Nat))):=(Only.refl _ _).setCell _ _;have hdR:Dig ((List.replicate (n+1) 0).set 0 chunk):=(Dig.replicate _).set _ _ hcB
 have hlR:((List.replicate (n+1) 0).set 0 chunk).length=n+1:=by simp
 have hyR:((List.replicate (n+1) 0).set 0 chunk).getD n 0=if n=0 then chunk else 0:=by
  by_cases h0:n=0
  ·subst h0;simp
  ·rw [qE h0,getD_set_ne _ _ _ _ (by omega)];simp
 have hvR:val (seg ((List.replicate (n+1) 0).set 0 chunk) 0 n)=if n=0 then 0 else chunk:=by
  by_cases h0:n=0
  ·subst h0;simp [seg_zero,val]
  ·rw [qE h0]
   obtain ⟨m,rfl⟩:∃ m,n=m+1:=⟨n-1,by omega⟩
   have e:(List.replicate (m+1+1) 0).set 0 chunk=chunk :: List.replicate (m+1) 0:=by simp [List.replicate_succ]
   rw [e]
   have e2:seg (chunk :: List.replicate (m+1) 0) 0 (m+1)=chunk :: List.replicate m 0:=by simp [seg]
   rw [e2,val,val_replicate,Nat.mul_zero,Nat.add_zero]
 have hs2:Seg (w1.setCell ⟨w.heap.size,0,none⟩ (.int .u64 (chunk:Nat))) ao la:=hs.only_new he1 (qZ _) ho2;have hE2:Ext w (w1.setCell ⟨w.heap.size,0,none⟩ (.int .u64 (chunk:Nat))):=he1.only ho2 (qZ _);clear hcz hfz;generalize w1.setCell ⟨w.heap.size,0,none⟩ (.int .u64 (chunk:Nat))=w2 at *;generalize (List.replicate (n+1) 0).set 0 chunk=R at *;obtain ⟨y,hy⟩:∃ y,R.getD n 0=y:=⟨_,rfl⟩;have hcn:=hr2.cell n (by omega);rw [hy] at hcn hyR;have Hy:=hid hy;have HyR:=hid hyR;have HvR:=hid hvR;have HlR:=hid hlR
 have Hap:Hid (Calls Tryz.prog 127 #[.slice (some ⟨w.heap.size,0,none⟩) n (n+1),.slice ao n c,.int .u64 10000000000000000000] w2.drew fun e w' =>
   ∃ (M:List Nat) (over:Nat),e=.returned (.int .u64 over)/\over<B64/\Row w' w.heap.size M/\Dig M/\Turned R M 0 n/\Only w.heap.size w2 w'/\y+over<=18446744073709551615/\Hid (val (M.set n (y+over))=chunk+val la*10000000000000000000)):=by
  refine (addProduct_n w.heap.size 0 (n+1) ao n c la R 10000000000000000000 w2.drew Hl.out hr2 hs2 (hs.block_ne (qZ _)) hdR hd (by rw [B64_eq];omega) (by rw [HlR.out];omega) (by rw [HlR.out];unfold maxLen;omega) (by omega) hc).mono ?_;rintro e w3 ⟨M,over,rfl,hov,hr3,hd3,hT3,ho3,Hv3⟩;refine ⟨M,over,rfl,hov,hr3,hd3,hT3,ho3.undrawn,?_⟩;have hv3:=Hv3.out;rw [HvR.out] at hv3
  have hM:M.length=n+1:=by rw [hT3.1];exact HlR.out
  by_cases h0:n=0
  ·subst h0
   have hla:la=[]:=jD Hl.out;subst hla;simp only [seg_zero,val,Nat.pow_zero,Nat.one_mul,if_true,Nat.zero_mul,jH,Nat.add_zero] at hv3;subst hv3
   have hyc:y=chunk:=by rw [HyR.out];simp
   rw [B64_eq] at hcB;refine ⟨by omega,?_⟩
   show val _=_
   obtain ⟨m,rfl⟩:∃ m,M=[m]:=List.length_eq_one_iff.1 hM
   simp [val,hyc]
  ·have hy0:y=0:=by rw [HyR.out,qE h0]
   rw [qE h0] at hv3;subst hy0;rw [B64_eq] at hov;refine ⟨by omega,?_⟩
   show val _=_
   rw [jH];exact chunk_val hM hv3
 clear hy hyR hvR hlR
 go_region_with ((go_at_call 127;refine Hap.out.mono ?_;rintro e w3 ⟨M,over,rfl,hov,hr3,hd3,hT3,ho3,hsum,Hv3⟩;have hc6:=hr3.cell n (by rw [hT3.1,HlR.out];omega);rw [hT3.2 n (by omega),Hy.out] at hc6;have hf6:=hr3.frozen n))
 all_goals
  go_wp2_with fail
  have hr4:=hr3.set n (y+over);have hd4:=hd3.set n (y+over) (by rw [B64_eq];omega);have hs4:=hr4.segAll
  have hM4:(M.set n (y+over)).length=n+1:=by rw [jV,hT3.1];exact HlR.out
  refine (trim_n _ (M.set n (y+over)) _ _ _ hM4 (qZ _) (by unfold maxLen;omega) hs4).mono ?_;rintro e w5 ⟨rfl,rfl⟩
  go_wp2_with fail
  go_ret
  exact ⟨_,rfl,(num_trim hs4 hd4 (by rw [hM4];unfold maxLen;omega)).cast Hv3.out,(hE2.only ho3 (qZ _)).only ((Only.refl _ _).setCell _ _) (qZ _)⟩
theorem dval_append (a b:List Nat):dval (a++b)=dval a*10 ^ b.length+dval b:=by
 induction hn:b.length generalizing b with
 | zero=>have:b=[]:=jD hn;subst this;simp [dval]
 | succ n ih =>
  have hl:b=b.take n++[b.getD n 0]:=by
   have:=take_succ_getD b n (by omega);rw [qB (by omega)] at this;exact this
  have hlt:(b.take n).length=n:=by rw [qC];omega
  have h1:=ih (b.take n) hlt
  have e1:dval b=10*dval (b.take n)+(b.getD n 0-48):=by
   have:=dval_snoc (b.take n) (b.getD n 0);rw [<-hl] at this;exact this
  have e2:dval (a++b)=10*dval (a++b.take n)+(b.getD n 0-48):=by
   have:=dval_snoc (a++b.take n) (b.getD n 0);rw [yK,<-hl] at this;exact this
  rw [e2,h1,e1,jK];generalize dval a=x;generalize dval (b.take n)=y;generalize 10 ^ n=z;rw [qN,<-jW,jU 10 x,jW x,jU 10 z];omega
def AllD (l:List Nat):Prop:=∀ t,t<l.length->isD (l.getD t 0)=true
theorem AllD.drop {l:List Nat} (h:AllD l) (n:Nat):AllD (l.drop n):=fun t ht=>by
 rw [qF] at ht;rw [drop_getD];exact h (n+t) (by omega)
theorem AllD.take {l:List Nat} (h:AllD l) (n:Nat):AllD (l.take n):=fun t ht=>by
 rw [qC] at ht;rw [qQ,jC,qU (by omega),<-qQ];exact h t (by omega)
theorem ten_le (k:Nat):10 ^ k<=B64 ^ k:=Nat.pow_le_pow_left (by rw [B64_eq];omega) k
theorem take_app (a b:List Nat) (m:Nat):(a++b).take (a.length+m)=a++b.take m:=by
 induction a with
 | nil=>simp
 | cons x r ih=>rw [List.cons_append,jB,show r.length+1+m=(r.length+m)+1 from by omega,List.take_succ_cons,ih,List.cons_append]
theorem read_step {used t:List Nat} {v:Nat} (hv:v=dval used) (ht:0<t.length) (hu:used=[]\/t.length % 19=0) :
  dval (t.take ((t.length-1) % 19+1))+v*10000000000000000000=dval (used++t.take ((t.length-1) % 19+1)):=by
 rw [dval_append,hv]
 rcases hu with rfl | hu
 ·simp [dval]
 ·have hm:(t.length-1) % 19+1=19:=by omega
  have hl:(t.take 19).length=19:=by rw [qC];omega
  rw [hm,hl];rw [Nat.add_comm]
theorem readNumber_any (s:ByteArray) (w:World) (hs:(bs s).length-sgl (bs s)<=1000) (had:AllD ((bs s).drop (sgl (bs s)))) :
  Calls Tryz.prog 53 #[.string s] w fun e w'=>∃ (sm:Int) (a':Option Addr) (n' c':Nat),e=.returned (.agg #[.int .i64 sm,.slice a' n' c'])/\IsInt w' sm a' n' c' (sgn (decide (0<sgl (bs s))) (dval ((bs s).drop (sgl (bs s)))))/\Ext w w':=by
 have hR:Res (w.alloc (.cells #[.int .i64 0,.slice none 0 0] 54)) w.heap.size:=⟨by simp,qW w _⟩;have hE:Ext w (w.alloc (.cells #[.int .i64 0,.slice none 0 0] 54)):=Ext.alloc _ _;have hsl:=sgl_le (bs s);rw [bs_length] at hsl hs
 have hext:bs (s.extract (sgl (bs s)) s.size)=(bs s).drop (sgl (bs s)):=by
  rw [bs_extract,qB];rw [qF,bs_length];omega
 have Hsl:=hid (fun wx=>signLength_any s wx (by omega));obtain ⟨g,hg⟩:∃ g,sgl (bs s)=g:=⟨_,rfl⟩;rw [hg] at hsl hs had hext Hsl ⊢;obtain ⟨D,hD⟩:∃ D,(bs s).drop g=D:=⟨_,rfl⟩
 have hDl:D.length=s.size-g:=by rw [<-hD,qF,bs_length]
 rw [hD] at had hext ⊢;obtain ⟨hg1,hg2⟩:=hsl
 have hgi:(g:Int)<=(s.size:Int):=by omega
 have HDl:=hid hDl;have Hext:=hid hext;have Had:=hid had
 have hsz':(s.extract g s.size).size=s.size-g:=by rw [<-bs_length,hext,hDl]
 have Hsz':=hid hsz';clear hDl hext hD hg had hsz';obtain ⟨nb,hnb⟩:∃ nb,decide (0<g)=nb:=⟨_,rfl⟩;rw [hnb];have Hnb:=hid hnb;clear hnb
 go_enter Tryz.func53,Tryz.ntmps53
 go_wp2_with fail
 generalize w.alloc (.cells #[.int .i64 0,.slice none 0 0] 54)=W0 at *;refine (Hsl.out _).mono ?_;rintro e w1 ⟨rfl,rfl⟩
 go_wp2_with fail
 obtain ⟨d0,hd0⟩:∃ d0,s.extract g s.size=d0:=⟨_,rfl⟩;rw [hd0] at Hext Hsz' ⊢;clear hd0
 go_loopw [4,5] (fun dv wv wr=>∃ (t:ByteArray) (used:List Nat) (ao:Option Addr) (l:List Nat) (n c:Nat),dv=.string t/\wv=.slice ao n c/\used++bs t=D/\(used=[]\/(bs t).length % 19=0)/\l.length=n/\n<=c/\c<=maxLen/\Seg wr ao l/\Dig l/\n<=1000/\val l=dval used/\Ext W0 wr)
  (fun dv _ _=>match dv with | .string t=>t.size | _=>0)
 case atStart=>exact ⟨d0,[],none,[],0,0,rfl,rfl,by rw [List.nil_append];exact Hext.out,qM rfl,rfl,qZ _,qI _,qM ⟨rfl,rfl⟩,Dig.nil,qI _,rfl,Ext.refl _⟩
 case round =>
  obtain ⟨t,used,ao,l,n,c,rfl,rfl,hsplit,hmod,hl,hc,hcm,hsg,hd,hn,hv,hEr⟩:=hrel;have Hsplit:=hid hsplit;have Hmod:=hid hmod;have Hl:=hid hl;have Hv:=hid hv
  have htl:(bs t).length<=1000:=by
   have:=congrArg List.length hsplit;rw [qT,HDl.out] at this;omega
  rw [bs_length] at htl;clear hsplit hmod hl hv
  by_cases h0:t.size=0
  ·have e:=bs_nil t h0
   subst e
   have hfin:val l=dval D:=by rw [Hv.out,<-Hsplit.out];simp [bs]
   have Hfin:=hid hfin;clear hfin
   go_wp2_with fail
   rw [Hnb.out];refine (fromWords_from (w:=W0) nb wr ao l n c hEr Hl.out hsg hd hc hcm).mono ?_;rintro e w3 ⟨s4,a4,n4,c4,rfl,hI4,he4,hx4⟩;have hr4:=hR.ext he4;have k0:=hr4.c0;have k1:=hr4.c1;have g0:=hr4.f0;have g1:=hr4.f1
   go_wp2_with fail
   exact qJ (v:=.agg #[.int .i64 s4,.slice a4 n4 c4]) (by simp [results,Tryz.results53,go_sem,k0,k1]) rfl ⟨s4,a4,n4,c4,rfl,(hI4.cast (by rw [Hfin.out])).setRes hr4.row _ _,(hE.trans he4).setRes (qZ _) _ _⟩
  ·have hp:0<t.size:=by omega
   have he:=bs_empty t hp;obtain ⟨m,hm⟩:∃ m,(t.size-1) % 19+1=m:=⟨_,rfl⟩
   have em:((t.size:Int)-1) % 19+1=(m:Int):=by omega
   have hm1:m<=t.size:=by omega
   have hm2:m<=19:=by omega
   have hm3:1<=m:=by omega
   have hmi:(m:Int)<=(t.size:Int):=by omega
   have hx1:bs (t.extract 0 m)=(bs t).take m:=by rw [bs_extract];simp
   have hx2:bs (t.extract m t.size)=(bs t).drop m:=by
    rw [bs_extract,qB];rw [qF,bs_length];omega
   have hadt:AllD (bs t):=by
    have:bs t=D.drop used.length:=by rw [<-Hsplit.out];simp
    rw [this];exact Had.out.drop _
   have hxl:(t.extract 0 m).size=m:=by rw [<-bs_length,hx1,qC,bs_length];omega
   have Hrc:=hid (fun wx=>readChunk_any (t.extract 0 m) wx (by rw [hxl];exact hm2) (fun i hi=>by rw [hx1];exact hadt.take m i (by rw [qC,bs_length];omega)))
   have hchl:dval ((bs t).take m)<10 ^ 19:=by
    have h5:=dval_lt ((bs t).take m) (hadt.take m)
    have h6:((bs t).take m).length=m:=by rw [qC,bs_length];omega
    rw [h6] at h5;exact qK h5 (qY (by omega) hm2)
   rw [hx1] at Hrc;have hstep:=read_step (used:=used) (t:=bs t) Hv.out (by rw [bs_length];exact hp) Hmod.out;rw [bs_length,hm] at hstep;obtain ⟨ch,hch⟩:∃ ch,dval ((bs t).take m)=ch:=⟨_,rfl⟩;rw [hch] at Hrc hchl hstep;have hch':ch<10000000000000000000:=hchl;have Hstep:=hid hstep;have Hx2:=hid hx2;have Hm:=hid hm;have Hadt:=hid hadt
   have hlu:used.length+t.size<=1000:=by
    have:=congrArg List.length Hsplit.out;rw [qT,HDl.out,bs_length] at this;omega
   clear hm hx1 hx2 hadt hxl hchl hstep hch h0
   go_wp2_with fail
   refine (Hrc.out _).mono ?_;rintro e w3 ⟨rfl,rfl⟩
   go_wp2_with fail
   refine (appendChunk_any ao l n c ch wr Hl.out hsg hd hc (by omega) hch').mono ?_;rintro e w4 ⟨_,rfl,hnum,hx4⟩;obtain ⟨a5,l5,n5,c5,rfl,hl5,hn5,hc5,hs5,hd5,hr5,hv5⟩:=hnum.named
   have hv6:val l5=dval (used++(bs t).take m):=by rw [hv5];exact Hstep.out
   have hn6:n5<=1000:=by
    rw [<-hl5]
    apply lt_len hr5
    rw [hv6]
    have h7:AllD (used++(bs t).take m):=by
     have:used++(bs t).take m=D.take (used.length+m):=by
      rw [<-Hsplit.out];exact (take_app used (bs t) m).symm
     rw [this];exact Had.out.take _
    have h8:=dval_lt _ h7
    have h9:(used++(bs t).take m).length<=1000:=by rw [qT,qC,bs_length];omega
    exact qK h8 (qL (qY (by omega) h9) (ten_le 1000))
   have Hl5:=hid hl5;have Hv6:=hid hv6;clear hl5 hv5 hv6 hnum
   go_wp2_with fail
   go_roundw
   case rel=>exact ⟨t.extract m t.size,used++(bs t).take m,a5,l5,n5,c5,rfl,rfl,by rw [Hx2.out,yK,List.take_append_drop];exact Hsplit.out,qO (by rw [Hx2.out,qF,bs_length];have:=Hm.out;omega),Hl5.out,hn5,hc5,hs5,hd5,hn6,Hv6.out,hEr.trans hx4⟩
   case measure =>
    show (t.extract m t.size).size<t.size
    rw [<-bs_length,Hx2.out,qF,bs_length];omega
def padD (n v:Nat):List UInt8:=(List.range n).map fun t=>Lib.dg v (n-1-t)
theorem padD_length (n v:Nat):(padD n v).length=n:=by simp [padD]
theorem dg_up (v n j:Nat):Lib.dg v (n+j)=Lib.dg (v / 10 ^ n) j:=by
 unfold Lib.dg;rw [jS,Nat.div_div_eq_div_mul]
theorem dg_low (v n j:Nat) (h:j<n):Lib.dg (v % 10 ^ n) j=Lib.dg v j:=by
 unfold Lib.dg;obtain ⟨k,rfl⟩:∃ k,n=j+(k+1):=⟨n-j-1,by omega⟩
 have e:v % 10 ^ (j+(k+1)) / 10 ^ j % 10=v / 10 ^ j % 10:=by
  rw [jS,Nat.mod_mul_right_div_self,jK,jU (10 ^ k) 10,Nat.mod_mul_right_mod]
 rw [e]
theorem padD_append (m n v:Nat):padD (m+n) v=padD m (v / 10 ^ n)++padD n (v % 10 ^ n):=by
 unfold padD;rw [List.range_add,yJ,List.map_map]
 congr 1
 ·refine List.map_congr_left fun t ht=>?_
  have ht':t<m:=List.mem_range.1 ht;rw [show m+n-1-t=n+(m-1-t) by omega,dg_up]
 ·refine List.map_congr_left fun t ht=>?_
  have ht':t<n:=List.mem_range.1 ht
  show Lib.dg v (m+n-1-(m+t))=_
  rw [show m+n-1-(m+t)=n-1-t by omega,dg_low _ _ _ (by omega)]
theorem decDigits_pad (u:Nat):Lib.decDigits u=padD (Lib.nDigits u) u:=Lib.decDigits_eq u
theorem nDigits_div (n v:Nat) (h:0<v / 10 ^ n):Lib.nDigits v=Lib.nDigits (v / 10 ^ n)+n:=by
 induction n generalizing v with
 | zero=>simp
 | succ n ih =>
  rw [jK,jU,<-Nat.div_div_eq_div_mul] at h ⊢
  have h10:¬ v<10:=by
   intro hv;rw [Nat.div_eq_of_lt hv,Nat.zero_div] at h;exact Nat.lt_irrefl _ h
  rw [Lib.nDigits_big h10,ih (v / 10) h];omega
theorem decDigits_append (n v:Nat) (h:0<v / 10 ^ n):Lib.decDigits v=Lib.decDigits (v / 10 ^ n)++padD n (v % 10 ^ n):=by
 rw [decDigits_pad v,nDigits_div n v h,padD_append,<-decDigits_pad]
theorem padD_zero (n:Nat):padD n 0=List.replicate n 48:=by
 unfold padD
 apply List.ext_getElem
 ·simp
 ·intro i h1 h2
  simp [Lib.dg]
theorem padD_fill (n v:Nat) (h:Lib.nDigits v<=n):padD n v=List.replicate (n-Lib.nDigits v) 48++Lib.decDigits v:=by
 obtain ⟨m,rfl⟩:∃ m,n=m+Lib.nDigits v:=⟨n-Lib.nDigits v,by omega⟩;have hlt:=Lib.lt_pow_nDigits v;rw [padD_append,Nat.div_eq_of_lt hlt,Nat.mod_eq_of_lt hlt,padD_zero,Nat.add_sub_cancel,<-decDigits_pad]
theorem nDigits_le (n v:Nat) (hn:1<=n) (h:v<10 ^ n):Lib.nDigits v<=n:=by
 induction n generalizing v with
 | zero=>omega
 | succ n ih =>
  by_cases h10:v<10
  ·rw [Lib.nDigits_small h10];exact hn
  ·rw [Lib.nDigits_big h10]
   rw [jK] at h
   have h1:1<=n:=by
    cases n with
    | zero=>simp at h;omega
    | succ k=>omega
   have:=ih (v / 10) h1 (by omega);omega
end Go.Proofs.YtjfomkoedgipjaaGreatDoor
