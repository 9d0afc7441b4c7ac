/-
  withoutSign, halve, double. halve: over a power of two, rounded down. Gcd. Gcd, where neither is 0. Fractions: lowest, Over, Parts.
-/
import Derived.Test.YtjfomkoedgipjaaGreatDoorS19DivU
namespace Go.Proofs.YtjfomkoedgipjaaGreatDoor
set_option maxRecDepth 100000
set_option maxHeartbeats 2000000
open Go.RowKit
theorem withoutSign_any (sm:Int) (ao:Option Addr) (n c:Nat) (z:Int) (w:World) (h:IsInt w sm ao n c z) :
  Calls Tryz.prog 95 #[.agg #[.int .i64 sm,.slice ao n c]] w fun e w'=>∃ (s':Int) (a':Option Addr) (n' c':Nat),e=.returned (.agg #[.int .i64 s',.slice a' n' c'])/\IsInt w' s' a' n' c' (z.natAbs:Nat)/\Ext w w':=by
 have Hsg:=hid h.sign.1;have H:=hid h;clear h;obtain ⟨b,hb⟩:∃ b,decide (sm<0)=b:=⟨_,rfl⟩;have hn:=negative_any sm (.slice ao n c);rw [hb] at hn;have Hn:=hid hn
 have Hb:Hid ((b=true->(z.natAbs:Int)=-z)/\(b=false->(z.natAbs:Int)=z)):=by
  have:=Hsg.out
  constructor
  ·intro h;rw [<-hb] at h;have:=this.1 (by simpa using h);omega
  ·intro h;rw [<-hb] at h
   have h2:¬ sm<0:=by simpa using h
   have:¬ z<0:=fun k=>h2 (this.2 k)
   omega
 clear hn hb
 go_enter Tryz.func95,Tryz.ntmps95
 go_wp2_with fail
 have hbx:=boxes1 w (.int .i64 sm) (.slice ao n c);generalize (w.alloc (.cells #[.int .i64 sm,.slice ao n c] 54)).alloc (.cells #[.int .i64 0,.slice none 0 0] 54)=W0 at *
 have hB:w.heap.size<W0.heap.size:=by have:=hbx.size;omega
 refine (Hn.out _).mono ?_;rintro e we ⟨rfl,hxe⟩;obtain ⟨y0,y1⟩:=keep2 hxe hB hbx.c0 hbx.c1;have hrr:=hbx.res.ext hxe
 cases b
 ·have k0:=hrr.c0;have k1:=hrr.c1;have g0:=hrr.f0;have g1:=hrr.f1
  go_wp2_with fail
  exact qJ (v:=.agg #[.int .i64 sm,.slice ao n c]) (by simp [results,Tryz.results95,go_sem,k0,k1]) rfl ⟨sm,ao,n,c,rfl,((H.out.ext (hbx.ext.trans hxe)).cast (Hb.out.2 (by simp)).symm).keep64 (Keep64.set2 (.i64 k0) (.slice k1) (notW_i64 _) _),(hbx.ext.trans hxe).put2 (by omega) _ _⟩
 ·go_wp2_with fail
  refine (Neg_any sm ao n c z we (H.out.ext (hbx.ext.trans hxe))).mono ?_;rintro e wf ⟨s4,a4,n4,c4,rfl,hI4,hxf⟩;have hr4:=hrr.ext hxf;have k0:=hr4.c0;have k1:=hr4.c1;have g0:=hr4.f0;have g1:=hr4.f1
  go_wp2_with fail
  exact qJ (v:=.agg #[.int .i64 s4,.slice a4 n4 c4]) (by simp [results,Tryz.results95,go_sem,k0,k1]) rfl ⟨s4,a4,n4,c4,rfl,(hI4.cast (Hb.out.1 (by simp)).symm).keep64 (Keep64.set2 (.i64 k0) (.slice k1) (notW_i64 _) _),((hbx.ext.trans hxe).trans hxf).put2 (by omega) _ _⟩
theorem shr_small (s:Int) (k:Nat) (h1 : -9223372036854775808<=s) (h2:s<=9223372036854775807):s / 2 ^ min k 64=s / 2 ^ k:=by
 by_cases hk:k<=64
 ·rw [Nat.min_eq_left hk]
 ·rw [Nat.min_eq_right (by omega)]
  have hp:∀ j:Nat,64<=j->s / 2 ^ j=if s<0 then -1 else 0:=by
   intro j hj
   have h3:(2:Int) ^ 64<=2 ^ j:=by
    have:(2:Nat) ^ 64<=2 ^ j:=qY (by decide) hj
    exact_mod_cast this
   generalize (2:Int) ^ j=p at *;have h4:(18446744073709551616:Int)<=p:=h3
   by_cases hs:s<0
   ·rw [qU hs]
    exact ((Int.ediv_emod_unique (r:=s+p) (by omega)).2 ⟨by omega,by omega,by omega⟩).1
   ·rw [qE hs]
    exact Int.ediv_eq_zero_of_lt (by omega) (by omega)
  rw [hp 64 (by omega),hp k (by omega)]
theorem neg_div (v p:Nat) (hp:0<p):(-(v:Int)) / (p:Int)=if v % p=0 then -((v / p:Nat):Int) else -((v / p:Nat):Int)-1:=by
 have h:=Nat.div_add_mod v p;have hl:=Nat.mod_lt v hp
 have h':(p:Int)*((v / p:Nat):Int)+((v % p:Nat):Int)=(v:Int):=by exact_mod_cast h
 split
 ·rename_i h0
  rw [h0] at h';refine ((Int.ediv_emod_unique (r:=0) (by omega)).2 ⟨?_,by omega,by omega⟩).1;rw [Int.mul_neg];omega
 ·rename_i h0
  refine ((Int.ediv_emod_unique (r:=(p:Int)-((v % p:Nat):Int)) (by omega)).2 ⟨?_,by omega,by omega⟩).1;rw [Int.mul_sub,Int.mul_neg,Int.mul_one];omega
theorem shl_back (s:Int) (k:Nat) (h:IntKind.i64.wrap (s*2 ^ min k 64) / 2 ^ min k 64=s):IntKind.i64.wrap (s*2 ^ min k 64)=s*2 ^ k:=by
 by_cases hk:k<=63
 ·have hm:min k 64=k:=Nat.min_eq_left (by omega)
  rw [hm] at h ⊢;obtain ⟨d,hd⟩:∃ d,64=k+d:=⟨64-k,by omega⟩;have hp:(0:Int)<2 ^ k:=Int.pow_pos (by decide)
  have e:(18446744073709551616:Int)=2 ^ k*2 ^ d:=by
   rw [<-Int.pow_add,<-hd];decide
  have hdv:IntKind.i64.wrap (s*2 ^ k) % 2 ^ k=0:=by
   have hw:∃ t:Int,IntKind.i64.wrap (s*2 ^ k)=s*2 ^ k+18446744073709551616*t:=by
    rw [qH];refine ⟨-((s*2 ^ k+9223372036854775808) / 18446744073709551616),?_⟩;have:=Int.mul_ediv_add_emod (s*2 ^ k+9223372036854775808) 18446744073709551616;omega
   obtain ⟨t,ht⟩:=hw;rw [ht,e,yR s,Int.mul_assoc,<-Int.mul_add];exact Int.mul_emod_right _ _
  have h3:=Int.mul_ediv_add_emod (IntKind.i64.wrap (s*2 ^ k)) (2 ^ k);rw [h,hdv,Int.add_zero,yR] at h3;exact h3.symm
 ·have hm:min k 64=64:=Nat.min_eq_right (by omega)
  rw [hm] at h ⊢
  have hw:IntKind.i64.wrap (s*2 ^ 64)=0:=by
   rw [qH];omega
  rw [hw] at h ⊢
  have:s=0:=by rw [<-h];decide
  rw [this,Int.zero_mul]
theorem sgn_pow (b:Bool) (x k:Nat):sgn b (x*2 ^ k)=sgn b x*2 ^ k:=by
 cases b<;>simp [sgn,Int.neg_mul]
theorem shiftUp_from {w:World} (k:Nat) (hk:k<=1073741824):∀ (wx:World) (a:Option Addr) (l:List Nat) (n c:Nat),Ext w wx->l.length=n->Seg wx a l->Dig l->n<=c->n<=1073741824 ->
  Calls Tryz.prog 133 #[.slice a n c,.int .u64 k] wx fun e w'=>∃ (a':Option Addr) (l':List Nat) (n' c':Nat),e=.returned (.slice a' n' c')/\l'.length=n'/\n'<=c'/\c'<=maxLen/\Seg w' a' l'/\Dig l'/\Nrm l'/\Hid (val l'=val l*2 ^ k)/\Ext w w'/\Ext wx w' :=
 fun wx a l n c hx h1 h2 h3 h4 h5=>(shiftUp_any a l n c k wx h1 h2 h3 h4 h5 hk).mono fun _ _ ⟨v,k1,k2,k3⟩=>by
  obtain ⟨ao',l',c',rfl,h5,h6,h7,h8,h9,h10⟩:=k2;exact ⟨ao',l',l'.length,c',k1,rfl,h5,h6,h7,h8,h9,h10,hx.trans k3,k3⟩
theorem shiftDown_from {w:World} (k:Nat) (hk:k<=1073741824):∀ (wx:World) (a:Option Addr) (l:List Nat) (n c:Nat),Ext w wx->l.length=n->Seg wx a l->Dig l->n<=c->c<=maxLen->n<=1073741824 ->
  Calls Tryz.prog 131 #[.slice a n c,.int .u64 k] wx fun e w'=>∃ (a':Option Addr) (l':List Nat) (n' c':Nat),e=.returned (.slice a' n' c')/\l'.length=n'/\n'<=c'/\c'<=maxLen/\Seg w' a' l'/\Dig l'/\Nrm l'/\Hid (val l'=val l / 2 ^ k)/\Ext w w'/\Ext wx w' :=
 fun wx a l n c hx h1 h2 h3 h4 h4' h5=>(shiftDown_any a l n c k wx h1 h2 h3 h4 h4' h5 hk).mono fun _ _ ⟨v,k1,k2,k3⟩=>by
  obtain ⟨ao',l',c',rfl,h5,h6,h7,h8,h9,h10⟩:=k2;exact ⟨ao',l',l'.length,c',k1,rfl,h5,h6,h7,h8,h9,h10,hx.trans k3,k3⟩
theorem double_any (sm:Int) (ao:Option Addr) (n c:Nat) (z:Int) (k:Nat) (w:World) (h:IsInt w sm ao n c z) (hk:k<=1073741824) (K:Nat) (hK:K<=4194304) (hf:Fit K z) :
  Calls Tryz.prog 99 #[.agg #[.int .i64 sm,.slice ao n c],.int .u64 k] w fun e w'=>∃ (s':Int) (a':Option Addr) (n' c':Nat),e=.returned (.agg #[.int .i64 s',.slice a' n' c'])/\IsInt w' s' a' n' c' (z*2 ^ k)/\Ext w w':=by
 have q1:=eql_nil ao n c 0 0;have H:=hid h;have Hf:=hid hf;have hzb:=h.bool;obtain ⟨u,hu⟩:∃ u,IntKind.i64.wrap (sm*2 ^ min k 64)=u:=⟨_,rfl⟩;obtain ⟨q,hq⟩:∃ q,u / 2 ^ min k 64=q:=⟨_,rfl⟩
 by_cases hsh:ao=none/\q=sm
 ·obtain ⟨rfl,rfl⟩:=hsh
  obtain ⟨rfl,rfl,rfl,r1,r2⟩:=h.none;have hfin:=shl_back q k (by rw [hu];exact hq);rw [hu] at hfin
  have hur : -9223372036854775808<=u/\u<=9223372036854775807:=by rw [<-hu,qH];omega
  rw [<-hfin];have hno:(none:Option Addr).isNone=true:=rfl;clear h hf hzb hfin H Hf
  go_enter Tryz.func99,Tryz.ntmps99
  go_wp2
  exact qJ (v:=.agg #[.int .i64 u,.slice none 0 0]) (by simp [results,Tryz.results99,go_sem]) rfl ⟨u,none,0,0,rfl,IsInt.small _ _ hur.1 hur.2,(Ext.alloc _ _).then _⟩
 ·obtain ⟨bb,hbb⟩:∃ bb,decide (sm<0)=bb:=⟨_,rfl⟩
  have hcase:ao.isNone=false\/(ao=none/\(q == sm)=false):=by
   rcases ao with _ | a
   ·right;refine ⟨rfl,?_⟩;rw [qV];intro e;exact hsh ⟨rfl,e⟩
   ·left;rfl
  rw [hbb] at hzb;have Hzb:=hid hzb;have Hbb:=hid hbb;clear hsh h hf hzb hbb
  rcases hcase with hno | ⟨rfl,hno⟩
  all_goals
   go_enter Tryz.func99,Tryz.ntmps99
   go_wp2_with fail
  ·have hbx:=boxes1 w (.int .i64 sm) (.slice ao n c)
   generalize (w.alloc (.cells #[.int .i64 sm,.slice ao n c] 54)).alloc (.cells #[.int .i64 0,.slice none 0 0] 54)=W0 at *
   have hB:w.heap.size<W0.heap.size:=by have:=hbx.size;omega
   have hnn:=negative_from (w:=W0) sm (.slice ao n c);rw [Hbb.out] at hnn;have Hn:=hid hnn;have Hw:=hid (words_from (H.out.ext hbx.ext));have Hsu:=hid (shiftUp_from (w:=W0) k hk);have Hfw:=hid (fromWords_from (w:=W0) bb);have hE0d:Ext W0 W0.drew:=qG (Ext.refl _);have c0:=hbx.c0;have c1:=hbx.c1;clear hnn
   go_region_held3 (fun w'=>w'.cell? ⟨w.heap.size,0,none⟩=some (.int .i64 sm)/\w'.cell? ⟨w.heap.size,1,none⟩=some (.slice ao n c))
    (refine ⟨?_,?_⟩<;>(repeat (refine cellPut (by omega) ?_))<;>exact cellKeep (W:=W0) (by assumption) (by omega) (by assumption))
    (first | (go_at_call 102;refine (Hn.out _ (by assumption)).mono ?_;rintro e w1 ⟨rfl,he1,hx1⟩) | (go_at_call 104;refine (Hw.out _ (by assumption)).mono ?_;rintro e w2 ⟨a2,l2,n2,c2,rfl,hl2,hn2,hc2,hs2,hd2,hm2,Hv2,he2,hx2⟩;have Hl2:=hid hl2;clear hl2) | (go_at_call 133;refine (Hsu.out _ a2 l2 n2 c2 (by assumption) Hl2.out (hs2.ext (Ext.refl _)) hd2 hn2 (by have:=Hf.out.len hm2 Hv2.out;have:=Hl2.out;omega)).mono ?_;rintro e w3 ⟨a3,l3,n3,c3,rfl,hl3,hn3,hc3,hs3,hd3,hm3,Hv3,he3,hx3⟩;have Hl3:=hid hl3;clear hl3) | (go_at_call 94;refine (Hfw.out _ a3 l3 n3 c3 (by assumption) Hl3.out hs3 hd3 hn3 hc3).mono ?_;rintro e w4 ⟨s4,a4,n4,c4,rfl,hI4,he4,hx4⟩;have hr4:=hbx.res.ext he4;have k0:=hr4.c0;have k1:=hr4.c1;have g0:=hr4.f0;have g1:=hr4.f1))
   go_wp2_with fail
   exact qJ (v:=.agg #[.int .i64 s4,.slice a4 n4 c4]) (by simp [results,Tryz.results99,go_sem,k0,k1]) rfl ⟨s4,a4,n4,c4,rfl,(hI4.cast (by rw [Hv3.out,Hv2.out,sgn_pow,<-Hzb.out])).keep64 (Keep64.set2 (.i64 k0) (.slice k1) (notW_i64 _) _),(hbx.ext.trans he4).put2 (by omega) _ _⟩
  ·have hbx:=boxes1 w (.int .i64 sm) (.slice none n c)
   generalize (w.alloc (.cells #[.int .i64 sm,.slice none n c] 54)).alloc (.cells #[.int .i64 0,.slice none 0 0] 54)=W0 at *
   have hB:w.heap.size<W0.heap.size:=by have:=hbx.size;omega
   have hnn:=negative_from (w:=W0) sm (.slice none n c);rw [Hbb.out] at hnn;have Hn:=hid hnn;have Hw:=hid (words_from (H.out.ext hbx.ext));have Hsu:=hid (shiftUp_from (w:=W0) k hk);have Hfw:=hid (fromWords_from (w:=W0) bb);have hE0d:Ext W0 W0.drew:=qG (Ext.refl _);have c0:=hbx.c0;have c1:=hbx.c1;clear hnn
   go_region_held3 (fun w'=>w'.cell? ⟨w.heap.size,0,none⟩=some (.int .i64 sm)/\w'.cell? ⟨w.heap.size,1,none⟩=some (.slice none n c))
    (refine ⟨?_,?_⟩<;>(repeat (refine cellPut (by omega) ?_))<;>exact cellKeep (W:=W0) (by assumption) (by omega) (by assumption))
    (first | (go_at_call 102;refine (Hn.out _ (by assumption)).mono ?_;rintro e w1 ⟨rfl,he1,hx1⟩) | (go_at_call 104;refine (Hw.out _ (by assumption)).mono ?_;rintro e w2 ⟨a2,l2,n2,c2,rfl,hl2,hn2,hc2,hs2,hd2,hm2,Hv2,he2,hx2⟩;have Hl2:=hid hl2;clear hl2) | (go_at_call 133;refine (Hsu.out _ a2 l2 n2 c2 (by assumption) Hl2.out (hs2.ext (Ext.refl _)) hd2 hn2 (by have:=Hf.out.len hm2 Hv2.out;have:=Hl2.out;omega)).mono ?_;rintro e w3 ⟨a3,l3,n3,c3,rfl,hl3,hn3,hc3,hs3,hd3,hm3,Hv3,he3,hx3⟩;have Hl3:=hid hl3;clear hl3) | (go_at_call 94;refine (Hfw.out _ a3 l3 n3 c3 (by assumption) Hl3.out hs3 hd3 hn3 hc3).mono ?_;rintro e w4 ⟨s4,a4,n4,c4,rfl,hI4,he4,hx4⟩;have hr4:=hbx.res.ext he4;have k0:=hr4.c0;have k1:=hr4.c1;have g0:=hr4.f0;have g1:=hr4.f1))
   go_wp2_with fail
   exact qJ (v:=.agg #[.int .i64 s4,.slice a4 n4 c4]) (by simp [results,Tryz.results99,go_sem,k0,k1]) rfl ⟨s4,a4,n4,c4,rfl,(hI4.cast (by rw [Hv3.out,Hv2.out,sgn_pow,<-Hzb.out])).keep64 (Keep64.set2 (.i64 k0) (.slice k1) (notW_i64 _) _),(hbx.ext.trans he4).put2 (by omega) _ _⟩
structure OutAt (W0 W:World) (g:Nat) (s:Int) (a:Option Addr) (n c:Nat) (z:Int):Prop where
 ext:Ext W0 W
 lt:g<W.heap.size
 ge:W0.heap.size<=g
 o0:W.cell? ⟨g,0,none⟩=some (.int .i64 s)
 o1:W.cell? ⟨g,1,none⟩=some (.slice a n c)
 int:IsInt W s a n c z
theorem outLate {W0 w4:World} {s:Int} {a:Option Addr} {n c:Nat} {z:Int} (he:Ext W0 w4) (hI:IsInt w4 s a n c z):OutAt W0 (w4.alloc (.cells #[.int .i64 s,.slice a n c] 54)) w4.heap.size s a n c z :=
 ⟨he.then _,by simp,he.size,by simp,by simp,hI.ext (Ext.alloc _ _)⟩
theorem outEarly {W0 w4:World} {g:Nat} {s:Int} {a:Option Addr} {n c:Nat} {z:Int} (he:Ext W0 w4) (hI:IsInt w4 s a n c z) (hg:W0.heap.size<=g) (hR:Res w4 g):OutAt W0 ((w4.setCell ⟨g,0,none⟩ (.int .i64 s)).setCell ⟨g,1,none⟩ (.slice a n c)) g s a n c z:=by
 have k0:=hR.c0;have k1:=hR.c1;refine ⟨he.put2 hg _ _,by simp [World.setCell];exact hR.lt,hg,?_,?_,hI.keep64 (Keep64.set2 (.i64 k0) (.slice k1) (notW_i64 _) _)⟩
 ·rw [World.cell?_setCell_other _ _ _ _ (by simp),World.cell?_setCell_same _ _ _ k0]
 ·refine World.cell?_setCell_same _ _ _ (u:=.slice none 0 0) ?_
  rw [World.cell?_setCell_other _ _ _ _ (by simp)];exact k1
theorem res_new (w:World):Res (w.alloc (.cells #[.int .i64 0,.slice none 0 0] 54)) w.heap.size:=⟨by simp,qW w _⟩
theorem res_newd (w:World):Res (w.alloc (.cells #[.int .i64 0,.slice none 0 0] 54)).drew w.heap.size:=(res_new w).ext (qG (Ext.refl _))
theorem sgn_div (b:Bool) (v k:Nat) (t:Nat) (h:Tw v t):sgn b v / 2 ^ k=if b=true/\t<k then sgn b (v / 2 ^ k)-1 else sgn b (v / 2 ^ k):=by
 have hp:0<2 ^ k:=jF (by decide);have hd:=h.dvd k
 cases b
 ·simp [sgn]
 ·have:=neg_div v (2 ^ k) hp
  simp only [sgn,if_true]
  have e:((2 ^ k:Nat):Int)=2 ^ k:=by simp
  rw [e] at this;rw [this]
  by_cases hk:t<k
  ·rw [qE (fun h0=>by have:=hd.1 h0;omega),qU ⟨trivial,hk⟩]
  ·rw [qU (hd.2 (by omega)),qE (fun h0=>hk h0.2)]
theorem halve_any (sm:Int) (ao:Option Addr) (n c:Nat) (z:Int) (k:Nat) (w:World) (h:IsInt w sm ao n c z) (hk:k<=1073741824) (K:Nat) (hK:K<=4194304) (hK1:1<=K) (hf:Fit K z) (hbr:Bru w) :
  Calls Tryz.prog 97 #[.agg #[.int .i64 sm,.slice ao n c],.int .u64 k] w fun e w'=>∃ (s':Int) (a':Option Addr) (n' c':Nat),e=.returned (.agg #[.int .i64 s',.slice a' n' c'])/\IsInt w' s' a' n' c' (z / 2 ^ k)/\Ext w w':=by
 have q1:=eql_nil ao n c 0 0;have hzb:=h.bool;have hnK:=h.len hf
 rcases h with ⟨rfl,rfl,rfl,rfl,r1,r2⟩ | ⟨b,o,l,rfl,hl,hnc,hcm,hs,hd,hr,hz⟩
 ·obtain ⟨q,hq⟩:∃ q,sm / 2 ^ min k 64=q:=⟨_,rfl⟩
  have hqr : -9223372036854775808<=q/\q<=9223372036854775807:=by
   have hp:(0:Int)<2 ^ min k 64:=Int.pow_pos (by decide);rw [<-hq]
   constructor
   ·by_cases hneg:sm<0
    ·have h3:sm<=sm / 2 ^ min k 64:=by
      generalize (2:Int) ^ min k 64=p at *;exact (Int.le_ediv_iff_mul_le hp).2 (by have:sm*p<=sm*1:=Int.mul_le_mul_of_nonpos_left (by omega) (by omega);omega)
     omega
    ·have:=Int.ediv_nonneg (a:=sm) (b:=2 ^ min k 64) (by omega) (by omega);omega
   ·have h4:sm / 2 ^ min k 64<=(if sm<0 then 0 else sm):=by
     split
     ·exact Int.le_of_lt (Int.ediv_neg_of_neg_of_pos (by assumption) hp)
     ·exact Int.ediv_le_self _ (by omega)
    split at h4<;>omega
  have hfin:=shr_small sm k r1 r2;rw [hq] at hfin;rw [<-hfin];have hno:(none:Option Addr).isNone=true:=rfl;clear hf hzb hfin hbr r1 r2
  go_enter Tryz.func97,Tryz.ntmps97
  go_wp2
  exact qJ (v:=.agg #[.int .i64 q,.slice none 0 0]) (by simp [results,Tryz.results97,go_sem]) rfl ⟨q,none,0,0,rfl,IsInt.small _ _ hqr.1 hqr.2,(Ext.alloc _ _).then _⟩
 ·have hno:(some (⟨b,o,none⟩:Addr)).isNone=false:=rfl
  have HI:Hid (IsInt w sm (some ⟨b,o,none⟩) n c z):=qO ⟨b,o,l,rfl,hl,hnc,hcm,hs,hd,hr,hz⟩
  have Hzv:Hid (z.natAbs=val l):=by show _=_;rcases hz with ⟨_,h,_⟩ | ⟨_,h,_⟩<;>omega
  have Hz0:Hid (z≠0):=by show _≠_;rcases hz with ⟨_,h,_⟩ | ⟨_,h,_⟩<;>omega
  obtain ⟨bb,hbb⟩:∃ bb,decide (sm<0)=bb:=⟨_,rfl⟩;rw [hbb] at hzb;have Hzb:=hid hzb;have Hbb:=hid hbb;have Hl:=hid hl;have Hs:=hid hs;have Hd:=hid hd;have Hf:=hid hf;have Hbr:=hid hbr;clear hz hl hs hd hr hzb hbb hf hbr
  go_enter Tryz.func97,Tryz.ntmps97
  go_wp2_with fail
  have hbx:=boxes1 w (.int .i64 sm) (.slice (some ⟨b,o,none⟩) n c);generalize (w.alloc (.cells #[.int .i64 sm,.slice (some ⟨b,o,none⟩) n c] 54)).alloc (.cells #[.int .i64 0,.slice none 0 0] 54)=W0 at *
  have hB:w.heap.size<W0.heap.size:=by have:=hbx.size;omega
  have hnn:=negative_from (w:=W0) sm (.slice (some ⟨b,o,none⟩) n c);rw [Hbb.out] at hnn;have Hn:=hid hnn;have Hsd:=hid (shiftDown_from (w:=W0) k hk);have Hfw:=hid (fromWords_from (w:=W0) bb);have Hs0:=hid (Hs.out.ext hbx.ext);have hE0d:Ext W0 W0.drew:=qG (Ext.refl _);have c0:=hbx.c0;have c1:=hbx.c1;clear hnn;have z0:=hE0d.size;have hE00:Ext W0 W0:=Ext.refl _
  go_region_held3 (fun w'=>w'.cell? ⟨w.heap.size,0,none⟩=some (.int .i64 sm)/\w'.cell? ⟨w.heap.size,1,none⟩=some (.slice (some ⟨b,o,none⟩) n c))
   (refine ⟨?_,?_⟩<;>(repeat (refine cellPut (by omega) ?_))<;>(first | exact cellKeep (W:=W0) (by assumption) (by omega) (by assumption) | exact cellKeep (W:=W0) (Ext.then (by assumption) _) (by omega) (by assumption)))
   (first | (go_at_call 102;(first | (refine (Hn.out _ (by assumption)).mono ?_;rintro e w1 ⟨rfl,he1,hx1⟩;have z1:=he1.size) | (refine (Hn.out _ (Ext.then (by assumption) _)).mono ?_;rintro e w1 ⟨rfl,he1,hx1⟩;have z1:=he1.size;have hRg:=(res_new _).ext hx1) | (refine (Hn.out _ (qG (Ext.then (by assumption) _))).mono ?_;rintro e w1 ⟨rfl,he1,hx1⟩;have z1:=he1.size;have hRg:=(res_newd _).ext hx1))) | (go_at_call 131;(first | (refine (Hsd.out _ (some ⟨b,o,none⟩) l n c (by assumption) Hl.out (Hs0.out.ext (by assumption)) Hd.out hnc hcm (by omega)).mono ?_;rintro e w3 ⟨a3,l3,n3,c3,rfl,hl3,hn3,hc3,hs3,hd3,hm3,Hv3,he3,hx3⟩;have Hl3:=hid hl3;clear hl3;have z3:=he3.size;try have hRg:=hRg.ext hx3) | (refine (Hsd.out _ (some ⟨b,o,none⟩) l n c (Ext.then (by assumption) _) Hl.out (Hs0.out.ext (Ext.then (by assumption) _)) Hd.out hnc hcm (by omega)).mono ?_;rintro e w3 ⟨a3,l3,n3,c3,rfl,hl3,hn3,hc3,hs3,hd3,hm3,Hv3,he3,hx3⟩;have Hl3:=hid hl3;clear hl3;have z3:=he3.size;have hRg:=(res_new _).ext hx3))) | (go_at_call 94;(first | (refine (Hfw.out _ a3 l3 n3 c3 (by assumption) Hl3.out hs3 hd3 hn3 hc3).mono ?_;rintro e w4 ⟨s4,a4,n4,c4,rfl,hI4,he4,hx4⟩;have z4:=he4.size;try (have hRg:=hRg.ext hx4;have k0:=hRg.c0;have k1:=hRg.c1;have g0:=hRg.f0;have g1:=hRg.f1)) | (refine (Hfw.out _ a3 l3 n3 c3 (Ext.then (by assumption) _) Hl3.out (hs3.ext (Ext.alloc _ _)) hd3 hn3 hc3).mono ?_;rintro e w4 ⟨s4,a4,n4,c4,rfl,hI4,he4,hx4⟩;have z4:=he4.size;have hRg:=(res_new _).ext hx4;have k0:=hRg.c0;have k1:=hRg.c1;have g0:=hRg.f0;have g1:=hRg.f1))))
  ·go_wp2_with fail
   have hO:=outLate he4 hI4;have HO:=hid hO
   have Hval:Hid (∀ t,Tw z.natAbs t->z / 2 ^ k=if bb=true/\t<k then sgn bb (val l3)-1 else sgn bb (val l3)):=by
    intro t ht;rw [Hv3.out,<-Hzv.out,<-sgn_div bb z.natAbs k t ht,<-Hzb.out]
   have Hf4:Hid (Fit K (sgn bb (val l3))):=by
    refine Hf.out.le ?_
    have e:(sgn bb (val l3)).natAbs=val l3:=by cases bb<;>simp [sgn]
    rw [e,Hv3.out,Hzv.out];exact Nat.div_le_self _ _
   refine (Hn.out _ hO.ext).mono ?_;rintro e w6 ⟨rfl,he6,hx6⟩;have o0:=cellKeep hx6 HO.out.lt HO.out.o0;have o1:=cellKeep hx6 HO.out.lt HO.out.o1;have I6:=HO.out.int.ext hx6;have ho6:=HO.out.ge;have hlt6:=qK HO.out.lt hx6.size;have ho7:W0.heap.size<=w6.heap.size:=he6.size;have y0:=cellKeep he6 hB c0;have y1:=cellKeep he6 hB c1;have hr6:=hbx.res.ext he6;have HE6:Hid (Ext w w6):=hbx.ext.trans he6
   have hsz:w.heap.size+1<W0.heap.size:=by have:=hbx.size;omega
   clear hO
   cases bb
   case false =>
    have k0':=hr6.c0;have k1':=hr6.c1;have g0':=hr6.f0;have g1':=hr6.f1
    go_wp2_with fail
    have Hc:sgn false (val l3)=z / 2 ^ k:=by rw [Hzb.out,Hv3.out,<-Hzv.out];simp [sgn]
    exact qJ (v:=.agg #[.int .i64 s4,.slice a4 n4 c4]) (by simp [results,Tryz.results97,go_sem,k0',k1']) rfl ⟨s4,a4,n4,c4,rfl,(I6.cast Hc).keep64 (Keep64.set2 (.i64 k0') (.slice k1') (notW_i64 _) _),HE6.out.put2 (by omega) _ _⟩
   case true =>
    go_wp2_with fail
    refine (Twos_any sm (some ⟨b,o,none⟩) n c z w6 (HI.out.ext HE6.out) (by omega) (bru_ext Hbr.out HE6.out)).mono ?_;rintro e w7 ⟨t,rfl,ht1,ht0,ht2,hx7⟩;have Ht1:=hid (ht1 Hz0.out);have o0':=cellKeep hx7 hlt6 o0;have o1':=cellKeep hx7 hlt6 o1;have I7:=I6.ext hx7;have hr7:=hr6.ext hx7;have z7:=hx7.size;have HE7:Hid (Ext w w7):=HE6.out.trans hx7;clear ht1 ht0 o0 o1 y0 y1
    by_cases htk:t<k
    ·have itk:(t:Int)<(k:Int):=by omega
     have Hfin:=Hval.out t Ht1.out;rw [qU ⟨by simp,htk⟩] at Hfin;have HFin:=hid Hfin;have Ho:=hid (Of_from (w:=w7) 1 (by omega) (by omega));have Hsub:=hid (Sub_from I7 K hK Hf4.out);have h7d:Ext w7 w7.drew:=qG (Ext.refl _);clear Hfin
     go_wp2_with fail
     go_region_held3 (fun w'=>w'.cell? ⟨w4.heap.size,0,none⟩=some (.int .i64 s4)/\w'.cell? ⟨w4.heap.size,1,none⟩=some (.slice a4 n4 c4))
      (refine ⟨?_,?_⟩<;>(repeat (refine cellPut (by omega) ?_))<;>exact cellKeep (W:=w7) (by assumption) (by omega) (by assumption))
      (first | (go_at_call 56;refine (Ho.out _ (by assumption)).mono ?_;rintro e wa ⟨rfl,hea,hxa⟩) | (go_at_call 58;refine (Hsub.out _ 1 none 0 0 1 (by assumption) (IsInt.small _ _ (by omega) (by omega)) (Fit.one hK1)).mono ?_;rintro e wb ⟨s8,a8,n8,c8,rfl,hI8,heb,hxb⟩;have hr8:=hr7.ext heb;have k0':=hr8.c0;have k1':=hr8.c1;have g0':=hr8.f0;have g1':=hr8.f1))
     go_wp2_with fail
     exact qJ (v:=.agg #[.int .i64 s8,.slice a8 n8 c8]) (by simp [results,Tryz.results97,go_sem,k0',k1']) rfl ⟨s8,a8,n8,c8,rfl,(hI8.cast HFin.out.symm).keep64 (Keep64.set2 (.i64 k0') (.slice k1') (notW_i64 _) _),(HE7.out.trans heb).put2 (by omega) _ _⟩
    ·have itk:¬ (t:Int)<(k:Int):=by omega
     have Hfin:=Hval.out t Ht1.out;rw [qE (fun h=>htk h.2)] at Hfin;have k0':=hr7.c0;have k1':=hr7.c1;have g0':=hr7.f0;have g1':=hr7.f1;have HFin:=hid Hfin;clear Hfin
     go_wp2_with fail
     exact qJ (v:=.agg #[.int .i64 s4,.slice a4 n4 c4]) (by simp [results,Tryz.results97,go_sem,k0',k1']) rfl ⟨s4,a4,n4,c4,rfl,(I7.cast HFin.out.symm).keep64 (Keep64.set2 (.i64 k0') (.slice k1') (notW_i64 _) _),HE7.out.put2 (by omega) _ _⟩
  ·go_wp2_with fail
   have hO:=outEarly he4 hI4 (by omega) hRg;have HO:=hid hO
   have Hval:Hid (∀ t,Tw z.natAbs t->z / 2 ^ k=if bb=true/\t<k then sgn bb (val l3)-1 else sgn bb (val l3)):=by
    intro t ht;rw [Hv3.out,<-Hzv.out,<-sgn_div bb z.natAbs k t ht,<-Hzb.out]
   have Hf4:Hid (Fit K (sgn bb (val l3))):=by
    refine Hf.out.le ?_
    have e:(sgn bb (val l3)).natAbs=val l3:=by cases bb<;>simp [sgn]
    rw [e,Hv3.out,Hzv.out];exact Nat.div_le_self _ _
   refine (Hn.out _ hO.ext).mono ?_;rintro e w6 ⟨rfl,he6,hx6⟩;have o0:=cellKeep hx6 HO.out.lt HO.out.o0;have o1:=cellKeep hx6 HO.out.lt HO.out.o1;have I6:=HO.out.int.ext hx6;have ho6:=HO.out.ge;have hlt6:=qK HO.out.lt hx6.size;have ho7:W0.heap.size<=w6.heap.size:=he6.size;have y0:=cellKeep he6 hB c0;have y1:=cellKeep he6 hB c1;have hr6:=hbx.res.ext he6;have HE6:Hid (Ext w w6):=hbx.ext.trans he6
   have hsz:w.heap.size+1<W0.heap.size:=by have:=hbx.size;omega
   clear hO
   cases bb
   case false =>
    have k0':=hr6.c0;have k1':=hr6.c1;have g0':=hr6.f0;have g1':=hr6.f1
    go_wp2_with fail
    have Hc:sgn false (val l3)=z / 2 ^ k:=by rw [Hzb.out,Hv3.out,<-Hzv.out];simp [sgn]
    exact qJ (v:=.agg #[.int .i64 s4,.slice a4 n4 c4]) (by simp [results,Tryz.results97,go_sem,k0',k1']) rfl ⟨s4,a4,n4,c4,rfl,(I6.cast Hc).keep64 (Keep64.set2 (.i64 k0') (.slice k1') (notW_i64 _) _),HE6.out.put2 (by omega) _ _⟩
   case true =>
    go_wp2_with fail
    refine (Twos_any sm (some ⟨b,o,none⟩) n c z w6 (HI.out.ext HE6.out) (by omega) (bru_ext Hbr.out HE6.out)).mono ?_;rintro e w7 ⟨t,rfl,ht1,ht0,ht2,hx7⟩;have Ht1:=hid (ht1 Hz0.out);have o0':=cellKeep hx7 hlt6 o0;have o1':=cellKeep hx7 hlt6 o1;have I7:=I6.ext hx7;have hr7:=hr6.ext hx7;have z7:=hx7.size;have HE7:Hid (Ext w w7):=HE6.out.trans hx7;clear ht1 ht0 o0 o1 y0 y1
    by_cases htk:t<k
    ·have itk:(t:Int)<(k:Int):=by omega
     have Hfin:=Hval.out t Ht1.out;rw [qU ⟨by simp,htk⟩] at Hfin;have HFin:=hid Hfin;have Ho:=hid (Of_from (w:=w7) 1 (by omega) (by omega));have Hsub:=hid (Sub_from I7 K hK Hf4.out);have h7d:Ext w7 w7.drew:=qG (Ext.refl _);clear Hfin
     go_wp2_with fail
     go_region_held3 (fun w'=>w'.cell? ⟨w3.heap.size,0,none⟩=some (.int .i64 s4)/\w'.cell? ⟨w3.heap.size,1,none⟩=some (.slice a4 n4 c4))
      (refine ⟨?_,?_⟩<;>(repeat (refine cellPut (by omega) ?_))<;>exact cellKeep (W:=w7) (by assumption) (by omega) (by assumption))
      (first | (go_at_call 56;refine (Ho.out _ (by assumption)).mono ?_;rintro e wa ⟨rfl,hea,hxa⟩) | (go_at_call 58;refine (Hsub.out _ 1 none 0 0 1 (by assumption) (IsInt.small _ _ (by omega) (by omega)) (Fit.one hK1)).mono ?_;rintro e wb ⟨s8,a8,n8,c8,rfl,hI8,heb,hxb⟩;have hr8:=hr7.ext heb;have k0':=hr8.c0;have k1':=hr8.c1;have g0':=hr8.f0;have g1':=hr8.f1))
     go_wp2_with fail
     exact qJ (v:=.agg #[.int .i64 s8,.slice a8 n8 c8]) (by simp [results,Tryz.results97,go_sem,k0',k1']) rfl ⟨s8,a8,n8,c8,rfl,(hI8.cast HFin.out.symm).keep64 (Keep64.set2 (.i64 k0') (.slice k1') (notW_i64 _) _),(HE7.out.trans heb).put2 (by omega) _ _⟩
    ·have itk:¬ (t:Int)<(k:Int):=by omega
     have Hfin:=Hval.out t Ht1.out;rw [qE (fun h=>htk h.2)] at Hfin;have k0':=hr7.c0;have k1':=hr7.c1;have g0':=hr7.f0;have g1':=hr7.f1;have HFin:=hid Hfin;clear Hfin
     go_wp2_with fail
     exact qJ (v:=.agg #[.int .i64 s4,.slice a4 n4 c4]) (by simp [results,Tryz.results97,go_sem,k0',k1']) rfl ⟨s4,a4,n4,c4,rfl,(I7.cast HFin.out.symm).keep64 (Keep64.set2 (.i64 k0') (.slice k1') (notW_i64 _) _),HE7.out.put2 (by omega) _ _⟩
  ·go_wp2_with fail
   have hO:=outEarly he4 hI4 (by omega) hRg;have HO:=hid hO
   have Hval:Hid (∀ t,Tw z.natAbs t->z / 2 ^ k=if bb=true/\t<k then sgn bb (val l3)-1 else sgn bb (val l3)):=by
    intro t ht;rw [Hv3.out,<-Hzv.out,<-sgn_div bb z.natAbs k t ht,<-Hzb.out]
   have Hf4:Hid (Fit K (sgn bb (val l3))):=by
    refine Hf.out.le ?_
    have e:(sgn bb (val l3)).natAbs=val l3:=by cases bb<;>simp [sgn]
    rw [e,Hv3.out,Hzv.out];exact Nat.div_le_self _ _
   refine (Hn.out _ hO.ext).mono ?_;rintro e w6 ⟨rfl,he6,hx6⟩;have o0:=cellKeep hx6 HO.out.lt HO.out.o0;have o1:=cellKeep hx6 HO.out.lt HO.out.o1;have I6:=HO.out.int.ext hx6;have ho6:=HO.out.ge;have hlt6:=qK HO.out.lt hx6.size;have ho7:W0.heap.size<=w6.heap.size:=he6.size;have y0:=cellKeep he6 hB c0;have y1:=cellKeep he6 hB c1;have hr6:=hbx.res.ext he6;have HE6:Hid (Ext w w6):=hbx.ext.trans he6
   have hsz:w.heap.size+1<W0.heap.size:=by have:=hbx.size;omega
   clear hO
   cases bb
   case false =>
    have k0':=hr6.c0;have k1':=hr6.c1;have g0':=hr6.f0;have g1':=hr6.f1
    go_wp2_with fail
    have Hc:sgn false (val l3)=z / 2 ^ k:=by rw [Hzb.out,Hv3.out,<-Hzv.out];simp [sgn]
    exact qJ (v:=.agg #[.int .i64 s4,.slice a4 n4 c4]) (by simp [results,Tryz.results97,go_sem,k0',k1']) rfl ⟨s4,a4,n4,c4,rfl,(I6.cast Hc).keep64 (Keep64.set2 (.i64 k0') (.slice k1') (notW_i64 _) _),HE6.out.put2 (by omega) _ _⟩
   case true =>
    go_wp2_with fail
    refine (Twos_any sm (some ⟨b,o,none⟩) n c z w6 (HI.out.ext HE6.out) (by omega) (bru_ext Hbr.out HE6.out)).mono ?_;rintro e w7 ⟨t,rfl,ht1,ht0,ht2,hx7⟩;have Ht1:=hid (ht1 Hz0.out);have o0':=cellKeep hx7 hlt6 o0;have o1':=cellKeep hx7 hlt6 o1;have I7:=I6.ext hx7;have hr7:=hr6.ext hx7;have z7:=hx7.size;have HE7:Hid (Ext w w7):=HE6.out.trans hx7;clear ht1 ht0 o0 o1 y0 y1
    by_cases htk:t<k
    ·have itk:(t:Int)<(k:Int):=by omega
     have Hfin:=Hval.out t Ht1.out;rw [qU ⟨by simp,htk⟩] at Hfin;have HFin:=hid Hfin;have Ho:=hid (Of_from (w:=w7) 1 (by omega) (by omega));have Hsub:=hid (Sub_from I7 K hK Hf4.out);have h7d:Ext w7 w7.drew:=qG (Ext.refl _);clear Hfin
     go_wp2_with fail
     go_region_held3 (fun w'=>w'.cell? ⟨w1.heap.size,0,none⟩=some (.int .i64 s4)/\w'.cell? ⟨w1.heap.size,1,none⟩=some (.slice a4 n4 c4))
      (refine ⟨?_,?_⟩<;>(repeat (refine cellPut (by omega) ?_))<;>exact cellKeep (W:=w7) (by assumption) (by omega) (by assumption))
      (first | (go_at_call 56;refine (Ho.out _ (by assumption)).mono ?_;rintro e wa ⟨rfl,hea,hxa⟩) | (go_at_call 58;refine (Hsub.out _ 1 none 0 0 1 (by assumption) (IsInt.small _ _ (by omega) (by omega)) (Fit.one hK1)).mono ?_;rintro e wb ⟨s8,a8,n8,c8,rfl,hI8,heb,hxb⟩;have hr8:=hr7.ext heb;have k0':=hr8.c0;have k1':=hr8.c1;have g0':=hr8.f0;have g1':=hr8.f1))
     go_wp2_with fail
     exact qJ (v:=.agg #[.int .i64 s8,.slice a8 n8 c8]) (by simp [results,Tryz.results97,go_sem,k0',k1']) rfl ⟨s8,a8,n8,c8,rfl,(hI8.cast HFin.out.symm).keep64 (Keep64.set2 (.i64 k0') (.slice k1') (notW_i64 _) _),(HE7.out.trans heb).put2 (by omega) _ _⟩
    ·have itk:¬ (t:Int)<(k:Int):=by omega
     have Hfin:=Hval.out t Ht1.out;rw [qE (fun h=>htk h.2)] at Hfin;have k0':=hr7.c0;have k1':=hr7.c1;have g0':=hr7.f0;have g1':=hr7.f1;have HFin:=hid Hfin;clear Hfin
     go_wp2_with fail
     exact qJ (v:=.agg #[.int .i64 s4,.slice a4 n4 c4]) (by simp [results,Tryz.results97,go_sem,k0',k1']) rfl ⟨s4,a4,n4,c4,rfl,(I7.cast HFin.out.symm).keep64 (Keep64.set2 (.i64 k0') (.slice k1') (notW_i64 _) _),HE7.out.put2 (by omega) _ _⟩
  ·go_wp2_with fail
   have hO:=outEarly he4 hI4 (by omega) hRg;have HO:=hid hO
   have Hval:Hid (∀ t,Tw z.natAbs t->z / 2 ^ k=if bb=true/\t<k then sgn bb (val l3)-1 else sgn bb (val l3)):=by
    intro t ht;rw [Hv3.out,<-Hzv.out,<-sgn_div bb z.natAbs k t ht,<-Hzb.out]
   have Hf4:Hid (Fit K (sgn bb (val l3))):=by
    refine Hf.out.le ?_
    have e:(sgn bb (val l3)).natAbs=val l3:=by cases bb<;>simp [sgn]
    rw [e,Hv3.out,Hzv.out];exact Nat.div_le_self _ _
   refine (Hn.out _ hO.ext).mono ?_;rintro e w6 ⟨rfl,he6,hx6⟩;have o0:=cellKeep hx6 HO.out.lt HO.out.o0;have o1:=cellKeep hx6 HO.out.lt HO.out.o1;have I6:=HO.out.int.ext hx6;have ho6:=HO.out.ge;have hlt6:=qK HO.out.lt hx6.size;have ho7:W0.heap.size<=w6.heap.size:=he6.size;have y0:=cellKeep he6 hB c0;have y1:=cellKeep he6 hB c1;have hr6:=hbx.res.ext he6;have HE6:Hid (Ext w w6):=hbx.ext.trans he6
   have hsz:w.heap.size+1<W0.heap.size:=by have:=hbx.size;omega
   clear hO
   cases bb
   case false =>
    have k0':=hr6.c0;have k1':=hr6.c1;have g0':=hr6.f0;have g1':=hr6.f1
    go_wp2_with fail
    have Hc:sgn false (val l3)=z / 2 ^ k:=by rw [Hzb.out,Hv3.out,<-Hzv.out];simp [sgn]
    exact qJ (v:=.agg #[.int .i64 s4,.slice a4 n4 c4]) (by simp [results,Tryz.results97,go_sem,k0',k1']) rfl ⟨s4,a4,n4,c4,rfl,(I6.cast Hc).keep64 (Keep64.set2 (.i64 k0') (.slice k1') (notW_i64 _) _),HE6.out.put2 (by omega) _ _⟩
   case true =>
    go_wp2_with fail
    refine (Twos_any sm (some ⟨b,o,none⟩) n c z w6 (HI.out.ext HE6.out) (by omega) (bru_ext Hbr.out HE6.out)).mono ?_;rintro e w7 ⟨t,rfl,ht1,ht0,ht2,hx7⟩;have Ht1:=hid (ht1 Hz0.out);have o0':=cellKeep hx7 hlt6 o0;have o1':=cellKeep hx7 hlt6 o1;have I7:=I6.ext hx7;have hr7:=hr6.ext hx7;have z7:=hx7.size;have HE7:Hid (Ext w w7):=HE6.out.trans hx7;clear ht1 ht0 o0 o1 y0 y1
    by_cases htk:t<k
    ·have itk:(t:Int)<(k:Int):=by omega
     have Hfin:=Hval.out t Ht1.out;rw [qU ⟨by simp,htk⟩] at Hfin;have HFin:=hid Hfin;have Ho:=hid (Of_from (w:=w7) 1 (by omega) (by omega));have Hsub:=hid (Sub_from I7 K hK Hf4.out);have h7d:Ext w7 w7.drew:=qG (Ext.refl _);clear Hfin
     go_wp2_with fail
     go_region_held3 (fun w'=>w'.cell? ⟨W0.heap.size,0,none⟩=some (.int .i64 s4)/\w'.cell? ⟨W0.heap.size,1,none⟩=some (.slice a4 n4 c4))
      (refine ⟨?_,?_⟩<;>(repeat (refine cellPut (by omega) ?_))<;>exact cellKeep (W:=w7) (by assumption) (by omega) (by assumption))
      (first | (go_at_call 56;refine (Ho.out _ (by assumption)).mono ?_;rintro e wa ⟨rfl,hea,hxa⟩) | (go_at_call 58;refine (Hsub.out _ 1 none 0 0 1 (by assumption) (IsInt.small _ _ (by omega) (by omega)) (Fit.one hK1)).mono ?_;rintro e wb ⟨s8,a8,n8,c8,rfl,hI8,heb,hxb⟩;have hr8:=hr7.ext heb;have k0':=hr8.c0;have k1':=hr8.c1;have g0':=hr8.f0;have g1':=hr8.f1))
     go_wp2_with fail
     exact qJ (v:=.agg #[.int .i64 s8,.slice a8 n8 c8]) (by simp [results,Tryz.results97,go_sem,k0',k1']) rfl ⟨s8,a8,n8,c8,rfl,(hI8.cast HFin.out.symm).keep64 (Keep64.set2 (.i64 k0') (.slice k1') (notW_i64 _) _),(HE7.out.trans heb).put2 (by omega) _ _⟩
    ·have itk:¬ (t:Int)<(k:Int):=by omega
     have Hfin:=Hval.out t Ht1.out;rw [qE (fun h=>htk h.2)] at Hfin;have k0':=hr7.c0;have k1':=hr7.c1;have g0':=hr7.f0;have g1':=hr7.f1;have HFin:=hid Hfin;clear Hfin
     go_wp2_with fail
     exact qJ (v:=.agg #[.int .i64 s4,.slice a4 n4 c4]) (by simp [results,Tryz.results97,go_sem,k0',k1']) rfl ⟨s4,a4,n4,c4,rfl,(I7.cast HFin.out.symm).keep64 (Keep64.set2 (.i64 k0') (.slice k1') (notW_i64 _) _),HE7.out.put2 (by omega) _ _⟩
structure Box (W:World) (g:Nat) (s:Int) (a:Option Addr) (n c:Nat):Prop where
 row:W.heap[g]?=some (.cells #[.int .i64 s,.slice a n c] 54 (0,0))
theorem Box.lt {W:World} {g:Nat} {s:Int} {a:Option Addr} {n c:Nat} (h:Box W g s a n c):g<W.heap.size:=(gS.1 h.row).1
theorem Box.ext {W W':World} {g:Nat} {s:Int} {a:Option Addr} {n c:Nat} (h:Box W g s a n c) (k:Ext W W'):Box W' g s a n c:=⟨(k.block _ h.lt).trans h.row⟩
theorem Box.c0 {W:World} {g:Nat} {s:Int} {a:Option Addr} {n c:Nat} (h:Box W g s a n c):W.cell? ⟨g,0,none⟩=some (.int .i64 s):=by rw [qD W g 0 _ _ (0,0) h.row];rfl
theorem Box.c1 {W:World} {g:Nat} {s:Int} {a:Option Addr} {n c:Nat} (h:Box W g s a n c):W.cell? ⟨g,1,none⟩=some (.slice a n c):=by rw [qD W g 1 _ _ (0,0) h.row];rfl
theorem Box.f0 {W:World} {g:Nat} {s:Int} {a:Option Addr} {n c:Nat} (h:Box W g s a n c):W.frozen? ⟨g,0,none⟩=false:=jQ W g 0 _ _ h.row
theorem Box.f1 {W:World} {g:Nat} {s:Int} {a:Option Addr} {n c:Nat} (h:Box W g s a n c):W.frozen? ⟨g,1,none⟩=false:=jQ W g 1 _ _ h.row
theorem Box.own {W:World} {g:Nat} {s:Int} {a:Option Addr} {n c:Nat} (h:Box W g s a n c) (s':Int) (a':Option Addr) (n' c':Nat):Box ((W.setCell ⟨g,0,none⟩ (.int .i64 s')).setCell ⟨g,1,none⟩ (.slice a' n' c')) g s' a' n' c':=by
 have h1:=yZ W g 0 _ _ (.int .i64 s') h.row;have h2:=yZ (W.setCell ⟨g,0,none⟩ (.int .i64 s')) g 1 _ _ (.slice a' n' c') h1;exact ⟨h2⟩
theorem Box.put {W:World} {g h o:Nat} {s:Int} {a:Option Addr} {n c:Nat} (hb:Box W g s a n c) (hne:g≠h) (u:Value):Box (W.setCell ⟨h,o,none⟩ u) g s a n c :=
 ⟨(Below.heap_setCell _ _ _ _ hne).trans hb.row⟩
theorem Res.box {W:World} {g:Nat} (h:Res W g):Box W g 0 none 0 0:=⟨h.row⟩
theorem box_new (w:World) (s:Int) (a:Option Addr) (n c:Nat):Box (w.alloc (.cells #[.int .i64 s,.slice a n c] 54)) w.heap.size s a n c:=⟨qW w _⟩
def wordsAt (w:World) (b o n:Nat):List Nat:=(List.range n).map fun t=>match w.cell? ⟨b,o+t,none⟩ with
 | some (.int .u64 x)=>x.toNat
 | _=>0
def boxAbs (w:World) (B:Nat):Nat:=match w.cell? ⟨B,0,none⟩,w.cell? ⟨B,1,none⟩ with
 | some (.int .i64 s),some (.slice none _ _)=>s.natAbs
 | some _,some (.slice (some a) n _)=>val (wordsAt w a.block a.off n)
 | _,_=>0
theorem wordsAt_eq {w:World} {b o:Nat} {l:List Nat} (h:Seg w (some ⟨b,o,none⟩) l):wordsAt w b o l.length=l:=by
 rcases h with ⟨h,_⟩ | ⟨b',o',h,_,hc⟩
 ·cases h
 ·simp only [yX,Addr.mk.injEq,and_true] at h
  obtain ⟨rfl,rfl⟩:=h
  apply List.ext_getElem
  ·simp [wordsAt]
  ·intro i h1 h2
   have:=hc i h2;simp only [wordsAt,List.getElem_map,List.getElem_range,this];rw [qQ,qX h2]
   simp
theorem boxAbs_eq {w:World} {B:Nat} {s:Int} {a:Option Addr} {n c:Nat} {z:Int} (h0:w.cell? ⟨B,0,none⟩=some (.int .i64 s)) (h1:w.cell? ⟨B,1,none⟩=some (.slice a n c)) (h:IsInt w s a n c z):boxAbs w B=z.natAbs:=by
 unfold boxAbs;rw [h0,h1]
 rcases h with ⟨rfl,rfl,rfl,rfl,_⟩ | ⟨b,o,l,rfl,rfl,_,_,hs,_,_,hz⟩
 ·rfl
 ·show val (wordsAt w b o l.length)=_
  rw [wordsAt_eq hs]
  rcases hz with ⟨_,rfl,_⟩ | ⟨_,rfl,_⟩<;>omega
theorem halve_abs {z:Int} {t:Nat} (h:Tw z.natAbs t):(z / 2 ^ t).natAbs=z.natAbs / 2 ^ t:=by
 have hz:z=sgn (decide (z<0)) z.natAbs:=by
  by_cases hn:z<0
  ·simp [sgn,hn];omega
  ·simp [sgn,hn];omega
 have h1:=sgn_div (decide (z<0)) z.natAbs t t h;rw [qE (fun k=>Nat.lt_irrefl _ k.2),<-hz] at h1;rw [h1];generalize z.natAbs / 2 ^ t=q;unfold sgn
 split<;>simp
theorem halve_from {w:World} {sm:Int} {ao:Option Addr} {n c:Nat} {z:Int} (h:IsInt w sm ao n c z) (k:Nat) (hk:k<=1073741824) (K:Nat) (hK:K<=4194304) (hK1:1<=K) (hf:Fit K z) (hbr:Bru w):∀ wx:World,Ext w wx ->
  Calls Tryz.prog 97 #[.agg #[.int .i64 sm,.slice ao n c],.int .u64 k] wx fun e w'=>∃ (s':Int) (a':Option Addr) (n' c':Nat),e=.returned (.agg #[.int .i64 s',.slice a' n' c'])/\IsInt w' s' a' n' c' (z / 2 ^ k)/\Ext w w'/\Ext wx w' :=
 fun wx hx=>(halve_any sm ao n c z k wx (h.ext hx) hk K hK hK1 hf (bru_ext hbr hx)).mono fun _ _ ⟨s',a',n',c',h1,h2,h3⟩=>⟨s',a',n',c',h1,h2,hx.trans h3,h3⟩
theorem Twos_from {w:World} {sm:Int} {ao:Option Addr} {n c:Nat} {z:Int} (h:IsInt w sm ao n c z) (hn:n<=16777216) (hz:z≠0) (hbr:Bru w):∀ wx:World,Ext w wx ->
  Calls Tryz.prog 96 #[.agg #[.int .i64 sm,.slice ao n c]] wx fun e w'=>∃ t:Nat,e=.returned (.int .i64 t)/\Hid (Tw z.natAbs t)/\t<64*n+64/\Ext w w'/\Ext wx w' :=
 fun wx hx=>(Twos_any sm ao n c z wx (h.ext hx) hn (bru_ext hbr hx)).mono fun _ _ ⟨t,h1,h2,_,h4,h5⟩=>⟨t,h1,h2 hz,h4,hx.trans h5,h5⟩
theorem Gcd_zero (s1 s2:Int) (a1 a2:Option Addr) (n1 c1 n2 c2:Nat) (z1 z2:Int) (w:World) (h1:IsInt w s1 a1 n1 c1 z1) (h2:IsInt w s2 a2 n2 c2 z2) (K:Nat) (hK:K<=4194304) (hf1:Fit K z1) (hf2:Fit K z2) (hz0:z1=0\/z2=0) :
  Calls Tryz.prog 54 #[.agg #[.int .i64 s1,.slice a1 n1 c1],.agg #[.int .i64 s2,.slice a2 n2 c2]] w fun e w'=>∃ (s':Int) (a':Option Addr) (n' c':Nat),e=.returned (.agg #[.int .i64 s',.slice a' n' c'])/\IsInt w' s' a' n' c' (Nat.gcd z1.natAbs z2.natAbs:Nat)/\Ext w w':=by
 have Hf1:=hid hf1;have Hf2:=hid hf2;have H1:=hid h1;have H2:=hid h2;have hc1:=h1.cmp3;have hc2:=h2.cmp3
 have hg:(z1+z2).natAbs=Nat.gcd z1.natAbs z2.natAbs:=by
  rcases hz0 with h | h
  ·subst h;simp
  ·subst h;simp
 have Hg:=hid hg;have Hs1:=hid (Sign_any s1 (.slice a1 n1 c1));have Hs2:=hid (Sign_any s2 (.slice a2 n2 c2));obtain ⟨g1,hg1⟩:∃ g,cmp3 s1 0=g:=⟨_,rfl⟩;obtain ⟨g2,hg2⟩:∃ g,cmp3 s2 0=g:=⟨_,rfl⟩;rw [hg1] at Hs1;rw [hg2] at Hs2
 have hcase:g1=0\/((g1 == 0)=false/\g2=0):=by
  by_cases h:g1=0
  ·exact qM h
  ·right
   refine ⟨by rw [qV];exact h,?_⟩
   have h3:z1≠0:=by
    intro h4
    apply h
    rw [<-hg1,hc1,h4];decide
   have h5:z2=0:=hz0.resolve_left h3;rw [<-hg2,hc2,h5];decide
 clear hf1 hf2 h1 h2 hc1 hc2 hz0 hg hg1 hg2;have hbx:=boxes2 w (.int .i64 s1) (.slice a1 n1 c1) (.int .i64 s2) (.slice a2 n2 c2)
 rcases hcase with rfl | ⟨hb1,rfl⟩
 ·go_enter Tryz.func54,Tryz.ntmps54
  go_wp2_with fail
  generalize ((w.alloc (.cells #[.int .i64 s1,.slice a1 n1 c1] 54)).alloc (.cells #[.int .i64 s2,.slice a2 n2 c2] 54)).alloc (.cells #[.int .i64 0,.slice none 0 0] 54)=W0 at *;refine (Hs1.out _).mono ?_;rintro e we ⟨rfl,hxe⟩;obtain ⟨y0,y1,y2,y3⟩:=keep4' hxe hbx
  go_wp2_with fail
  refine (Add_any s1 s2 a1 a2 n1 c1 n2 c2 z1 z2 we (H1.out.ext (hbx.ext.trans hxe)) (H2.out.ext (hbx.ext.trans hxe)) K hK Hf1.out Hf2.out).mono ?_;rintro e wf ⟨s3,a3,n3,c3,rfl,hI3,hxf⟩
  go_wp2_with fail
  refine (withoutSign_any s3 a3 n3 c3 _ wf hI3).mono ?_;rintro e wg ⟨s4,a4,n4,c4,rfl,hI4,hxg⟩;have hr4:=hbx.res.ext (hxe.trans (hxf.trans hxg));have k0:=hr4.c0;have k1:=hr4.c1;have g0:=hr4.f0;have g1:=hr4.f1
  go_wp2_with fail
  exact qJ (v:=.agg #[.int .i64 s4,.slice a4 n4 c4]) (by simp [results,Tryz.results54,go_sem,k0,k1]) rfl ⟨s4,a4,n4,c4,rfl,(hI4.cast (by rw [Hg.out])).keep64 (Keep64.set2 (.i64 k0) (.slice k1) (notW_i64 _) _),(hbx.ext.trans (hxe.trans (hxf.trans hxg))).put2 (by omega) _ _⟩
 ·go_enter Tryz.func54,Tryz.ntmps54
  go_wp2_with fail
  generalize ((w.alloc (.cells #[.int .i64 s1,.slice a1 n1 c1] 54)).alloc (.cells #[.int .i64 s2,.slice a2 n2 c2] 54)).alloc (.cells #[.int .i64 0,.slice none 0 0] 54)=W0 at *;refine (Hs1.out _).mono ?_;rintro e wd ⟨rfl,hxd⟩;obtain ⟨x0,x1,x2,x3⟩:=keep4' hxd hbx
  go_wp2_with fail
  refine (Hs2.out _).mono ?_;rintro e we ⟨rfl,hxe'⟩;have hxe:=hxd.trans hxe';obtain ⟨y0,y1,y2,y3⟩:=keep4' hxe hbx;clear x0 x1 x2 x3
  go_wp2_with fail
  refine (Add_any s1 s2 a1 a2 n1 c1 n2 c2 z1 z2 we (H1.out.ext (hbx.ext.trans hxe)) (H2.out.ext (hbx.ext.trans hxe)) K hK Hf1.out Hf2.out).mono ?_;rintro e wf ⟨s3,a3,n3,c3,rfl,hI3,hxf⟩
  go_wp2_with fail
  refine (withoutSign_any s3 a3 n3 c3 _ wf hI3).mono ?_;rintro e wg ⟨s4,a4,n4,c4,rfl,hI4,hxg⟩;have hr4:=hbx.res.ext (hxe.trans (hxf.trans hxg));have k0:=hr4.c0;have k1:=hr4.c1;have g0:=hr4.f0;have g1:=hr4.f1
  go_wp2_with fail
  exact qJ (v:=.agg #[.int .i64 s4,.slice a4 n4 c4]) (by simp [results,Tryz.results54,go_sem,k0,k1]) rfl ⟨s4,a4,n4,c4,rfl,(hI4.cast (by rw [Hg.out])).keep64 (Keep64.set2 (.i64 k0) (.slice k1) (notW_i64 _) _),(hbx.ext.trans (hxe.trans (hxf.trans hxg))).put2 (by omega) _ _⟩
theorem Bx.sg {sg z s:Int} (hsg:cmp3 s 0=sg) (hc:cmp3 s 0=cmp3 z 0) (hz:z≠0):(sg == 0)=false:=by
 rw [qV,<-hsg,hc];unfold cmp3
 split
 ·decide
 ·split
  ·decide
  ·omega
theorem Gcd_any (s1 s2:Int) (a1 a2:Option Addr) (n1 c1 n2 c2:Nat) (z1 z2:Int) (w:World) (h1:IsInt w s1 a1 n1 c1 z1) (h2:IsInt w s2 a2 n2 c2 z2) (K:Nat) (hK:K<=4194304) (hK1:1<=K) (hf1:Fit K z1) (hf2:Fit K z2) (hz1:z1≠0) (hz2:z2≠0) (hbr:Bru w) :
  Calls Tryz.prog 54 #[.agg #[.int .i64 s1,.slice a1 n1 c1],.agg #[.int .i64 s2,.slice a2 n2 c2]] w fun e w'=>∃ (s':Int) (a':Option Addr) (n' c':Nat),e=.returned (.agg #[.int .i64 s',.slice a' n' c'])/\IsInt w' s' a' n' c' (Nat.gcd z1.natAbs z2.natAbs:Nat)/\Ext w w':=by
 have hn1:=h1.len hf1;have hn2:=h2.len hf2;have Hf1:=hid hf1;have Hf2:=hid hf2;have H1:=hid h1;have H2:=hid h2;have Hz1:=hid hz1;have Hz2:=hid hz2;have Hbr:=hid hbr;have Hs1:=hid (Sign_any s1 (.slice a1 n1 c1));have Hs2:=hid (Sign_any s2 (.slice a2 n2 c2));obtain ⟨g1,hg1⟩:∃ g,cmp3 s1 0=g:=⟨_,rfl⟩;obtain ⟨g2,hg2⟩:∃ g,cmp3 s2 0=g:=⟨_,rfl⟩;have hb1:=Bx.sg hg1 h1.cmp3 hz1;have hb2:=Bx.sg hg2 h2.cmp3 hz2;rw [hg1] at Hs1;rw [hg2] at Hs2;clear hf1 hf2 h1 h2 hz1 hz2 hg1 hg2 hbr;have hbx:=boxes2 w (.int .i64 s1) (.slice a1 n1 c1) (.int .i64 s2) (.slice a2 n2 c2);have bxA:=((box_new w s1 a1 n1 c1).ext (Ext.alloc _ (.cells #[.int .i64 s2,.slice a2 n2 c2] 54))).ext (Ext.alloc _ (.cells #[.int .i64 0,.slice none 0 0] 54));have bxB:=(box_new (w.alloc (.cells #[.int .i64 s1,.slice a1 n1 c1] 54)) s2 a2 n2 c2).ext (Ext.alloc _ (.cells #[.int .i64 0,.slice none 0 0] 54));rw [show (w.alloc (.cells #[.int .i64 s1,.slice a1 n1 c1] 54)).heap.size=w.heap.size+1 from by simp] at bxB
 go_enter Tryz.func54,Tryz.ntmps54
 go_wp2_with fail
 generalize ((w.alloc (.cells #[.int .i64 s1,.slice a1 n1 c1] 54)).alloc (.cells #[.int .i64 s2,.slice a2 n2 c2] 54)).alloc (.cells #[.int .i64 0,.slice none 0 0] 54)=W0 at *;refine (Hs1.out _).mono ?_;rintro e wd ⟨rfl,hxd⟩;obtain ⟨x0,x1,x2,x3⟩:=keep4' hxd hbx
 go_wp2_with fail
 refine (Hs2.out _).mono ?_;rintro e we ⟨rfl,hxe'⟩;have hxe:=hxd.trans hxe';obtain ⟨y0,y1,y2,y3⟩:=keep4' hxe hbx
 have hBe:w.heap.size+2<we.heap.size:=by have:=hbx.size;have:=hxe.size;omega
 have HEe:Hid (Ext w we):=hbx.ext.trans hxe;have Ht1:=hid (Twos_from (H1.out.ext HEe.out) (by omega) Hz1.out (bru_ext Hbr.out HEe.out));have Ht2:=hid (Twos_from (H2.out.ext HEe.out) (by omega) Hz2.out (bru_ext Hbr.out HEe.out));have hed:Ext we we.drew:=qG (Ext.refl _);clear x0 x1 x2 x3
 go_wp2_with fail
 go_region_held3 (fun w'=>w'.cell? ⟨w.heap.size,0,none⟩=some (.int .i64 s1)/\w'.cell? ⟨w.heap.size,1,none⟩=some (.slice a1 n1 c1)/\w'.cell? ⟨w.heap.size+1,0,none⟩=some (.int .i64 s2)/\w'.cell? ⟨w.heap.size+1,1,none⟩=some (.slice a2 n2 c2)) (exact keep4 (by assumption) (by omega) y0 y1 y2 y3)
  (first | (go_at_call_of 96 s1;refine (Ht1.out _ (by assumption)).mono ?_;rintro e wa ⟨t1,rfl,Htw1,htl1,hea,hxa⟩) | (go_at_call_of 96 s2;refine (Ht2.out _ (by assumption)).mono ?_;rintro e wb ⟨t2,rfl,Htw2,htl2,heb,hxb⟩))
 obtain ⟨u0,u1,u2,u3⟩:=keep4 heb (by omega) y0 y1 y2 y3
 have hBb:w.heap.size+2<wb.heap.size:=by have:=heb.size;omega
 have HEb:Hid (Ext w wb):=HEe.out.trans heb;have rb:=hbx.res.ext (hxe.trans heb);have bA:=bxA.ext (hxe.trans heb);have bB:=bxB.ext (hxe.trans heb);have Hh1:=hid (halve_from (H1.out.ext HEb.out) t1 (by omega) K hK hK1 Hf1.out (bru_ext Hbr.out HEb.out));have Hh2:=hid (halve_from (H2.out.ext HEb.out) t2 (by omega) K hK hK1 Hf2.out (bru_ext Hbr.out HEb.out));have hbd:Ext wb wb.drew:=qG (Ext.refl _);clear y0 y1 y2 y3 hea hxa heb hxb hed hxe hxe' hxd
 go_wp2_with fail
 have ew1:IntKind.u64.wrap (t1:Int)=(t1:Int):=by rw [yF];omega
 have ew2:IntKind.u64.wrap (t2:Int)=(t2:Int):=by rw [yF];omega
 rw [ew1,ew2];clear ew1 ew2
 go_region_with (first | (go_at_call_of 97 s1;refine (Hh1.out _ (by assumption)).mono ?_;rintro e w5 ⟨s5,a5,n5,c5,rfl,hI5,he5,hx5⟩;have v2:=cellKeep he5 (by omega) u2;have v3:=cellKeep he5 (by omega) u3) | (go_at_call_of 97 s2;refine (Hh2.out _ (by assumption)).mono ?_;rintro e w6 ⟨s6,a6,n6,c6,rfl,hI6,he6,hx6⟩;have bA6:=bA.ext he6;have bB6:=bB.ext he6;have k0:=bA6.c0;have k1:=bA6.c1;have g0:=bA6.f0;have g1:=bA6.f1;have k2:=bB6.c0;have k3:=bB6.c1;have g2:=bB6.f0;have g3:=bB6.f1))
 all_goals
  have rb6:=(rb.ext he6).box;have hkk:=Keep64.set4 (w:=w6) (.i64 k0) (.slice k1) (.i64 k2) (.slice k3) (notW_i64 s5) (notW_slice a5 n5 c5) (notW_i64 s6) (.slice a6 n6 c6);have bA7:=((bA6.own s5 a5 n5 c5).put (h:=w.heap.size+1) (o:=0) (by omega) (.int .i64 s6)).put (h:=w.heap.size+1) (o:=1) (by omega) (.slice a6 n6 c6);have bB7:=((bB6.put (h:=w.heap.size) (o:=0) (by omega) (.int .i64 s5)).put (h:=w.heap.size) (o:=1) (by omega) (.slice a5 n5 c5)).own s6 a6 n6 c6;have bR7:=(((rb6.put (h:=w.heap.size) (o:=0) (by omega) (.int .i64 s5)).put (h:=w.heap.size) (o:=1) (by omega) (.slice a5 n5 c5)).put (h:=w.heap.size+1) (o:=0) (by omega) (.int .i64 s6)).put (h:=w.heap.size+1) (o:=1) (by omega) (.slice a6 n6 c6);have I5:=(hI5.ext hx6).keep64 hkk;have I6:=hI6.keep64 hkk;have E7:=((HEb.out.trans he6).put2 (g:=w.heap.size) (o:=0) (o':=1) (by omega) (.int .i64 s5) (.slice a5 n5 c5)).put2 (g:=w.heap.size+1) (o:=0) (o':=1) (by omega) (.int .i64 s6) (.slice a6 n6 c6)
  have HG:Hid (Nat.gcd z1.natAbs z2.natAbs=2 ^ (min t1 t2)*Nat.gcd (z1 / 2 ^ t1).natAbs (z2 / 2 ^ t2).natAbs):=by
   show _=_
   rw [halve_abs Htw1.out,halve_abs Htw2.out];exact gcd_twos Htw1.out Htw2.out
  have Hfa:Hid (Fit K (z1 / 2 ^ t1)):=Hf1.out.le (by rw [halve_abs Htw1.out];exact Nat.div_le_self _ _);have Hfb:Hid (Fit K (z2 / 2 ^ t2)):=Hf2.out.le (by rw [halve_abs Htw2.out];exact Nat.div_le_self _ _);generalize (((w6.setCell ⟨w.heap.size,0,none⟩ (.int .i64 s5)).setCell ⟨w.heap.size,1,none⟩ (.slice a5 n5 c5)).setCell ⟨w.heap.size+1,0,none⟩ (.int .i64 s6)).setCell ⟨w.heap.size+1,1,none⟩ (.slice a6 n6 c6)=W7 at *;clear hkk k0 k1 k2 k3 g0 g1 g2 g3 bA6 bB6 rb6 rb bA bB u0 u1 u2 u3 hI5 hI6 he5 he6 hx5 hx6 hbd;obtain ⟨G,hG⟩:∃ G,Nat.gcd (z1 / 2 ^ t1).natAbs (z2 / 2 ^ t2).natAbs=G:=⟨_,rfl⟩;rw [hG] at HG;have HG':=hid hG;clear hG
  go_wp2_with fail
  go_loopw [8] (fun _ wr=>∃ (sA:Int) (aA:Option Addr) (nA cA:Nat) (zA sB:Int) (aB:Option Addr) (nB cB:Nat) (zB:Int),Box wr w.heap.size sA aA nA cA/\Box wr (w.heap.size+1) sB aB nB cB/\Box wr (w.heap.size+1+1) 0 none 0 0/\IsInt wr sA aA nA cA zA/\IsInt wr sB aB nB cB zB/\Fit K zA/\Fit K zB/\Nat.gcd zA.natAbs zB.natAbs=G/\Ext w wr) (fun _ wr=>boxAbs wr (w.heap.size+1))
  case atStart=>exact ⟨s5,a5,n5,c5,_,s6,a6,n6,c6,_,bA7,bB7,bR7,I5,I6,Hfa.out,Hfb.out,HG'.out,E7⟩
  case round =>
   clear bA7 bB7 bR7 I5 I6 E7;obtain ⟨sA,aA,nA,cA,zA,sB,aB,nB,cB,zB,bA,bB,bR,IA,IB,fA,fB,hgc,hEr⟩:=hrel;have HIA:=hid IA;have HIB:=hid IB;have HfA:=hid fA;have HfB:=hid fB;have Hgc:=hid hgc;have Hm:Hid (boxAbs wr (w.heap.size+1)=zB.natAbs):=boxAbs_eq bB.c0 bB.c1 IB;have Hs:=hid (Sign_any sB (.slice aB nB cB));have hcB:=IB.cmp3;obtain ⟨g,hg⟩:∃ g,cmp3 sB 0=g:=⟨_,rfl⟩;rw [hg] at Hs;have k0:=bA.c0;have k1:=bA.c1;have k2:=bB.c0;have k3:=bB.c1
   by_cases hzB:zB=0
   ·have hg0:g=0:=by rw [<-hg,hcB,hzB];decide
    subst hg0
    have Hfin:Hid (zA.natAbs=G):=by
     show _=_
     have:=Hgc.out;rw [hzB] at this
     simpa using this
    clear IA IB fA fB hgc hcB hg hzB
    go_wp2_with fail
    refine (Hs.out _).mono ?_;rintro e we ⟨rfl,hxe⟩;have x0:=cellKeep hxe bA.lt k0;have x1:=cellKeep hxe bA.lt k1
    go_wp2_with fail
    refine (withoutSign_any sA aA nA cA zA we (HIA.out.ext hxe)).mono ?_;rintro e wf ⟨s8,a8,n8,c8,rfl,hI8,hxf⟩
    go_wp2_with fail
    have em:min (t1:Int) (t2:Int)=((min t1 t2:Nat):Int):=by omega
    rw [em];refine (double_any s8 a8 n8 c8 _ (min t1 t2) wf hI8 (by omega) K hK (HfA.out.le (by simp))).mono ?_;rintro e wg ⟨s9,a9,n9,c9,rfl,hI9,hxg⟩;have hr9:=bR.ext (hxe.trans (hxf.trans hxg));have j0:=hr9.c0;have j1:=hr9.c1;have f0:=hr9.f0;have f1:=hr9.f1
    have Hc:((zA.natAbs:Nat):Int)*2 ^ min t1 t2=((Nat.gcd z1.natAbs z2.natAbs:Nat):Int):=by
     rw [HG.out,Hfin.out,jU]
     simp
    have HC:=hid Hc;have HE9:Hid (Ext w wg):=hEr.trans (hxe.trans (hxf.trans hxg));clear em Hc x0 x1 k0 k1 k2 k3
    go_wp2_with fail
    exact qJ (v:=.agg #[.int .i64 s9,.slice a9 n9 c9]) (by simp [results,Tryz.results54,go_sem,j0,j1]) rfl ⟨s9,a9,n9,c9,rfl,(hI9.cast HC.out).keep64 (Keep64.set2 (.i64 j0) (.slice j1) (notW_i64 _) _),HE9.out.put2 (by omega) _ _⟩
   ·have hbn:(g != 0)=true:=by
     have:=Bx.sg hg hcB hzB;rw [bne,this];rfl
    have HzB:=hid hzB;have Hdt:=hid (fun wx (hx:Ext wr wx)=>divTowards_any sA sB aA aB nA cA nB cB zA zB wx (HIA.out.ext hx) (HIB.out.ext hx) K hK HfA.out HfB.out HzB.out);clear IA IB fA fB hgc hcB hg hzB
    go_wp2_with fail
    refine (Hs.out _).mono ?_;rintro e we ⟨rfl,hxe⟩;have x0:=cellKeep hxe bA.lt k0;have x1:=cellKeep hxe bA.lt k1;have x2:=cellKeep hxe bB.lt k2;have x3:=cellKeep hxe bB.lt k3;clear k0 k1 k2 k3
    go_wp2_with fail
    refine (Hdt.out _ hxe).mono ?_;rintro e wf ⟨s3,a3,n3,c3,s4,a4,n4,c4,rfl,hI3,hI4,hxf⟩;have hE1:=Ext.alloc wf (.cells #[.int .i64 s3,.slice a3 n3 c3] 54);have hE2:=Ext.alloc (wf.alloc (.cells #[.int .i64 s3,.slice a3 n3 c3] 54)) (.cells #[.int .i64 s4,.slice a4 n4 c4] 54);have b4:=box_new (wf.alloc (.cells #[.int .i64 s3,.slice a3 n3 c3] 54)) s4 a4 n4 c4;rw [show (wf.alloc (.cells #[.int .i64 s3,.slice a3 n3 c3] 54)).heap.size=wf.heap.size+1 from by simp] at b4;have hE3:=(hxe.trans hxf).trans (hE1.trans hE2);have I4:=hI4.ext (hE1.trans hE2)
    have hw3:w.heap.size+2<wf.heap.size:=by have:=bR.lt;have:=hxe.size;have:=hxf.size;omega
    clear x0 x1 x2 x3
    go_wp2_with fail
    generalize (wf.alloc (.cells #[.int .i64 s3,.slice a3 n3 c3] 54)).alloc (.cells #[.int .i64 s4,.slice a4 n4 c4] 54)=W8 at *;have bA8:=bA.ext hE3;have bB8:=bB.ext hE3;have bR8:=bR.ext hE3;have k0:=bA8.c0;have k1:=bA8.c1;have g0:=bA8.f0;have g1:=bA8.f1;have k2:=bB8.c0;have k3:=bB8.c1;have g2:=bB8.f0;have g3:=bB8.f1;have j0:=b4.c0;have j1:=b4.c1;have hkk:=Keep64.set4 (w:=W8) (.i64 k0) (.slice k1) (.i64 k2) (.slice k3) (notW_i64 sB) (notW_slice aB nB cB) (notW_i64 s4) (.slice a4 n4 c4);have bA9:=((bA8.own sB aB nB cB).put (h:=w.heap.size+1) (o:=0) (by omega) (.int .i64 s4)).put (h:=w.heap.size+1) (o:=1) (by omega) (.slice a4 n4 c4);have bB9:=((bB8.put (h:=w.heap.size) (o:=0) (by omega) (.int .i64 sB)).put (h:=w.heap.size) (o:=1) (by omega) (.slice aB nB cB)).own s4 a4 n4 c4;have bR9:=(((bR8.put (h:=w.heap.size) (o:=0) (by omega) (.int .i64 sB)).put (h:=w.heap.size) (o:=1) (by omega) (.slice aB nB cB)).put (h:=w.heap.size+1) (o:=0) (by omega) (.int .i64 s4)).put (h:=w.heap.size+1) (o:=1) (by omega) (.slice a4 n4 c4);have IB9:=(HIB.out.ext hE3).keep64 hkk;have I49:=I4.keep64 hkk;have E9:=((hEr.trans hE3).put2 (g:=w.heap.size) (o:=0) (o':=1) (by omega) (.int .i64 sB) (.slice aB nB cB)).put2 (g:=w.heap.size+1) (o:=0) (o':=1) (by omega) (.int .i64 s4) (.slice a4 n4 c4);have HbA9:=hid bA9;have HbB9:=hid bB9;have HbR9:=hid bR9;have HIB9:=hid IB9;have HI49:=hid I49;have HE9:=hid E9;clear bA9 bB9 bR9 IB9 I49 E9 hkk bA bB bR bA8 bB8 bR8 b4
    go_region
    go_wp2_with fail
    have hdr:∀ X:World,Ext X X.drew:=fun X=>qG (Ext.refl _)
    go_roundw
    case rel=>exact ⟨sB,aB,nB,cB,zB,s4,a4,n4,c4,_,HbA9.out.ext (hdr _),HbB9.out.ext (hdr _),HbR9.out.ext (hdr _),HIB9.out.ext (hdr _),HI49.out.ext (hdr _),HfB.out,HfB.out.le (by rw [Int.natAbs_tmod];exact Nat.le_of_lt (Nat.mod_lt _ (by have:=HzB.out;omega))),(gcd_step zA zB HzB.out).trans Hgc.out,HE9.out.trans (hdr _)⟩
    case measure =>
     rw [Hm.out,boxAbs_eq (HbB9.out.ext (hdr _)).c0 (HbB9.out.ext (hdr _)).c1 (HI49.out.ext (hdr _)),Int.natAbs_tmod];exact Nat.mod_lt _ (by have:=HzB.out;omega)
structure QRes (W:World) (g:Nat):Prop where
 row:W.heap[g]?=some (.cells #[.int .i64 0,.slice none 0 0,.int .i64 0,.slice none 0 0] 56 (0,0))
theorem QRes.lt {W:World} {g:Nat} (h:QRes W g):g<W.heap.size:=(gS.1 h.row).1
theorem QRes.ext {W W':World} {g:Nat} (h:QRes W g) (k:Ext W W'):QRes W' g:=⟨(k.block _ h.lt).trans h.row⟩
theorem QRes.put {W:World} {g h o:Nat} (hb:QRes W g) (hne:g≠h) (u:Value):QRes (W.setCell ⟨h,o,none⟩ u) g:=⟨(Below.heap_setCell _ _ _ _ hne).trans hb.row⟩
theorem QRes.c0 {W:World} {g:Nat} (h:QRes W g):W.cell? ⟨g,0,none⟩=some (.int .i64 0):=by rw [qD W g 0 _ _ (0,0) h.row];rfl
theorem QRes.c1 {W:World} {g:Nat} (h:QRes W g):W.cell? ⟨g,1,none⟩=some (.slice none 0 0):=by rw [qD W g 1 _ _ (0,0) h.row];rfl
theorem QRes.c2 {W:World} {g:Nat} (h:QRes W g):W.cell? ⟨g,2,none⟩=some (.int .i64 0):=by rw [qD W g 2 _ _ (0,0) h.row];rfl
theorem QRes.c3 {W:World} {g:Nat} (h:QRes W g):W.cell? ⟨g,3,none⟩=some (.slice none 0 0):=by rw [qD W g 3 _ _ (0,0) h.row];rfl
theorem QRes.f0 {W:World} {g:Nat} (h:QRes W g) (o:Nat):W.frozen? ⟨g,o,none⟩=false:=jQ W g o _ _ h.row
structure IsLow (z1 z2 p q:Int):Prop where
 pos:0<q
 co:Nat.gcd p.natAbs q.natAbs=1
 eq:p*z2=q*z1
 le1:p.natAbs<=z1.natAbs
 le2:q.natAbs<=z2.natAbs
 ne:p≠0
theorem IsLow.neg {z1 z2 p q:Int} (h:IsLow (-z1) (-z2) p q):IsLow z1 z2 p q:=by
 obtain ⟨h1,h2,h3,h4,h5,h6⟩:=h;refine ⟨h1,h2,?_,by omega,by omega,h6⟩;rw [Int.mul_neg,Int.mul_neg] at h3;omega
theorem IsDiv.exact {a q r:Int} {g:Nat} (hd:g ∣ a.natAbs) (h:IsDiv a (g:Int) q r):a=q*(g:Int):=by
 obtain ⟨h1,h2,h3,_⟩:=h;have h4:(g:Int) ∣ a:=Int.ofNat_dvd_left.2 hd
 have h5:(g:Int) ∣ r:=by
  have:r=a-q*(g:Int):=by omega
  rw [this];exact Int.dvd_sub h4 (Int.dvd_mul_left _ _)
 have h6:r=0:=by
  have h7:=Int.emod_eq_zero_of_dvd h5;rw [Int.emod_eq_of_lt h2 (by simpa using h3)] at h7;exact h7
 omega
theorem isLow_one {z1 z2:Int} (h0:z1≠0) (h:0<z2) (hg:Nat.gcd z1.natAbs z2.natAbs=1):IsLow z1 z2 z1 z2 :=
 ⟨h,hg,yR _ _,qZ _,qZ _,h0⟩
theorem isLow_div {z1 z2 p q r r':Int} (h0:z1≠0) (h:0<z2) (h1:IsDiv z1 (Nat.gcd z1.natAbs z2.natAbs:Nat) p r) (h2:IsDiv z2 (Nat.gcd z1.natAbs z2.natAbs:Nat) q r'):IsLow z1 z2 p q:=by
 have hgp:0<Nat.gcd z1.natAbs z2.natAbs:=Nat.gcd_pos_of_pos_left _ (by omega);have e1:=h1.exact (Nat.gcd_dvd_left _ _);have e2:=h2.exact (Nat.gcd_dvd_right _ _);have l1:=h1.le;have l2:=h2.le;have hco:=Nat.gcd_div (Nat.gcd_dvd_left z1.natAbs z2.natAbs) (Nat.gcd_dvd_right z1.natAbs z2.natAbs);rw [Nat.div_self hgp] at hco
 have n1:z1.natAbs=p.natAbs*Nat.gcd z1.natAbs z2.natAbs:=by
  conv=>lhs;rw [e1]
  rw [Int.natAbs_mul,Int.natAbs_natCast]
 have n2:z2.natAbs=q.natAbs*Nat.gcd z1.natAbs z2.natAbs:=by
  conv=>lhs;rw [e2]
  rw [Int.natAbs_mul,Int.natAbs_natCast]
 have d1:z1.natAbs / Nat.gcd z1.natAbs z2.natAbs=p.natAbs:=by
  conv=>lhs;lhs;rw [n1]
  exact Nat.mul_div_cancel _ hgp
 have d2:z2.natAbs / Nat.gcd z1.natAbs z2.natAbs=q.natAbs:=by
  conv=>lhs;lhs;rw [n2]
  exact Nat.mul_div_cancel _ hgp
 rw [d1,d2] at hco;generalize Nat.gcd z1.natAbs z2.natAbs=g at *;refine ⟨?_,hco,?_,l1,l2,?_⟩
 ·apply yB
  intro hq;have:q*(g:Int)<=0:=Int.mul_nonpos_of_nonpos_of_nonneg (by omega) (by omega);omega
 ·rw [e1,e2]
  rw [<-Int.mul_assoc,<-Int.mul_assoc,yR p q]
 ·intro hp
  rw [hp,Int.zero_mul] at e1;exact h0 e1
end Go.Proofs.YtjfomkoedgipjaaGreatDoor
