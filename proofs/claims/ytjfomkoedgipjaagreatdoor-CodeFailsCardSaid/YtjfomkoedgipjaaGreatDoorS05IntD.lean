/-
  Sign, Of, Small, Neg. front, mulUneven: products cut in two. mulHalves and mulWords: products of words, however long. Sums and differences of numbers.
-/
import Derived.Test.YtjfomkoedgipjaaGreatDoorS04IntB
namespace Go.Proofs.YtjfomkoedgipjaaGreatDoor
set_option maxRecDepth 100000
set_option maxHeartbeats 2000000
open Go.RowKit
theorem Of_any (n:Int) (h1 : -9223372036854775808<=n) (h2:n<=9223372036854775807) (w:World) :
  Calls Tryz.prog 56 #[.int .i64 n] w fun e w'=>e=.returned (.agg #[.int .i64 n,.slice none 0 0])/\IsInt w' n none 0 0 n/\Ext w w':=by
 go_enter Tryz.func56,Tryz.ntmps56
 go_wp2
 exact qJ (v:=.agg #[.int .i64 n,.slice none 0 0]) (by simp [results,Tryz.results56,go_sem]) rfl ⟨rfl,IsInt.small _ _ h1 h2,Ext.alloc _ _⟩
theorem Sign_any (sm:Int) (lv:Value) (w:World) :
  Calls Tryz.prog 60 #[.agg #[.int .i64 sm,lv]] w fun e w'=>e=.returned (.int .i64 (cmp3 sm 0))/\Ext w w':=by
 go_enter Tryz.func60,Tryz.ntmps60
 go_wp2_with fail
 refine (compareInt_any _ _ _).mono ?_;rintro e w1 ⟨rfl,rfl⟩
 go_wp2_with fail
 go_ret
 exact ⟨rfl,Ext.alloc _ _⟩
theorem IsInt.cmp3 {w:World} {sm:Int} {ao:Option Addr} {n c:Nat} {z:Int} (h:IsInt w sm ao n c z):Go.Proofs.YtjfomkoedgipjaaGreatDoor.cmp3 sm 0=Go.Proofs.YtjfomkoedgipjaaGreatDoor.cmp3 z 0:=by
 obtain ⟨h1,h2,_⟩:=h.sign;unfold Go.Proofs.YtjfomkoedgipjaaGreatDoor.cmp3
 by_cases a:sm<0
 ·rw [qU a,qU (h1.1 a)]
 ·rw [qE a,qE (fun k=>a (h1.2 k))]
  by_cases b:sm=0
  ·have c:=h2.1 b
   rw [b,c]
  ·rw [qU (by omega),qU (by have:z≠0:=fun k=>b (h2.2 k);have:¬ z<0:=fun k=>a (h1.2 k);omega)]
theorem negative_from {w:World} (sm:Int) (lv:Value):∀ wx:World,Ext w wx->Calls Tryz.prog 102 #[.agg #[.int .i64 sm,lv]] wx fun e w'=>e=.returned (.bool (decide (sm<0)))/\Ext w w'/\Ext wx w' :=
 fun wx hx=>(negative_any sm lv wx).mono fun _ _ h=>⟨h.1,hx.trans h.2,h.2⟩
theorem words_from {w:World} {sm:Int} {ao:Option Addr} {n c:Nat} {z:Int} (h:IsInt w sm ao n c z):∀ wx:World,Ext w wx->Calls Tryz.prog 104 #[.agg #[.int .i64 sm,.slice ao n c]] wx fun e w' =>
  ∃ (a':Option Addr) (l':List Nat) (n' c':Nat),e=.returned (.slice a' n' c')/\l'.length=n'/\n'<=c'/\c'<=maxLen/\Seg w' a' l'/\Dig l'/\Nrm l'/\Hid (val l'=z.natAbs)/\Ext w w'/\Ext wx w' :=
 fun wx hx=>(words_any sm ao n c z wx (h.ext hx)).mono fun _ _ ⟨v,h1,h2,h3⟩=>by
  obtain ⟨ao',l',c',rfl,h5,h6,h7,h8,h9,h10⟩:=h2;exact ⟨ao',l',l'.length,c',h1,rfl,h5,h6,h7,h8,h9,h10,hx.trans h3,h3⟩
theorem keep2 {W w':World} {B:Nat} {x y:Value} (h:Ext W w') (hB:B<W.heap.size) (c0:W.cell? ⟨B,0,none⟩=some x) (c1:W.cell? ⟨B,1,none⟩=some y):w'.cell? ⟨B,0,none⟩=some x/\w'.cell? ⟨B,1,none⟩=some y :=
 ⟨(h.cell (p:=⟨B,0,none⟩) hB).trans c0,(h.cell (p:=⟨B,1,none⟩) hB).trans c1⟩
theorem IsInt.setRes {w:World} {g:Nat} {sm:Int} {ao:Option Addr} {n c:Nat} {z x:Int} {p:Option Addr} {q r:Nat} {T:TypeId} (h:IsInt w sm ao n c z) (hg:w.heap[g]?=some (.cells #[.int .i64 x,.slice p q r] T (0,0))) (u v:Value) :
  IsInt ((w.setCell ⟨g,0,none⟩ u).setCell ⟨g,1,none⟩ v) sm ao n c z:=by
 rcases h with h | ⟨b,o,l,rfl,hl,hc,hm,hs,hd,hn,hz⟩
 ·exact qM h
 ·have hO:Only g w ((w.setCell ⟨g,0,none⟩ u).setCell ⟨g,1,none⟩ v):=((Only.refl _ _).setCell _ _).setCell _ _
  refine qO ⟨b,o,l,rfl,hl,hc,hm,hs.only hO ?_,hd,hn,hz⟩;intro a ha hab;simp only [yX] at ha;subst ha;simp only at hab;subst hab
  have hl0:0<l.length:=by
   apply Nat.pos_of_ne_zero
   intro h0;have:l=[]:=jD h0;subst this
   rcases hz with ⟨_,_,h⟩ | ⟨_,_,h⟩<;>simp [val] at h
  rcases hs with ⟨h,_⟩ | ⟨b',o',h,_,hcell⟩
  ·cases h
  ·simp only [yX,Addr.mk.injEq,and_true] at h
   obtain ⟨rfl,rfl⟩:=h;have hc0:=hcell 0 hl0;rw [qD w b (o+0) _ T (0,0) hg] at hc0
   match o,hc0 with
   | 0,hc0=>simp at hc0
   | 1,hc0=>simp at hc0
   | k+2,hc0=>simp at hc0
theorem fromWords_from {w:World} (neg:Bool):∀ (wx:World) (a:Option Addr) (l:List Nat) (n c:Nat),Ext w wx->l.length=n->Seg wx a l->Dig l->n<=c->c<=maxLen->Calls Tryz.prog 94 #[.bool neg,.slice a n c] wx fun e w' =>
  ∃ (sm:Int) (a':Option Addr) (n' c':Nat),e=.returned (.agg #[.int .i64 sm,.slice a' n' c'])/\IsInt w' sm a' n' c' (sgn neg (val l))/\Ext w w'/\Ext wx w' :=
 fun wx a l n c hx h1 h2 h3 h4 h5=>(fromWords_any neg a l n c wx h1 h2 h3 h4 h5).mono fun _ _ ⟨sm,a',n',c',k1,k2,k3⟩=>⟨sm,a',n',c',k1,k2,hx.trans k3,k3⟩
theorem Ext.setRes {w W:World} {g:Nat} (h:Ext w W) (hg:w.heap.size<=g) (u v:Value):Ext w ((W.setCell ⟨g,0,none⟩ u).setCell ⟨g,1,none⟩ v):=(yD h (p:=⟨g,0,none⟩) hg u).setCell (p:=⟨g,1,none⟩) hg v
structure Res (W:World) (g:Nat):Prop where
 lt:g<W.heap.size
 row:W.heap[g]?=some (.cells #[.int .i64 0,.slice none 0 0] 54 (0,0))
theorem Res.ext {W W':World} {g:Nat} (h:Res W g) (k:Ext W W'):Res W' g:=⟨qK h.lt k.size,(k.block _ h.lt).trans h.row⟩
theorem Res.c0 {W:World} {g:Nat} (h:Res W g):W.cell? ⟨g,0,none⟩=some (.int .i64 0):=by rw [qD W g 0 _ _ (0,0) h.row];rfl
theorem Res.c1 {W:World} {g:Nat} (h:Res W g):W.cell? ⟨g,1,none⟩=some (.slice none 0 0):=by rw [qD W g 1 _ _ (0,0) h.row];rfl
theorem Res.f0 {W:World} {g:Nat} (h:Res W g):W.frozen? ⟨g,0,none⟩=false:=jQ W g 0 _ _ h.row
theorem Res.f1 {W:World} {g:Nat} (h:Res W g):W.frozen? ⟨g,1,none⟩=false:=jQ W g 1 _ _ h.row
structure Boxes1 (w W:World) (x y:Value):Prop where
 ext:Ext w W
 size:W.heap.size=w.heap.size+2
 c0:W.cell? ⟨w.heap.size,0,none⟩=some x
 c1:W.cell? ⟨w.heap.size,1,none⟩=some y
 res:Res W (w.heap.size+1)
theorem boxes1 (w:World) (x y:Value):Boxes1 w ((w.alloc (.cells #[x,y] 54)).alloc (.cells #[.int .i64 0,.slice none 0 0] 54)) x y:=by
 refine ⟨(Ext.alloc _ _).then _,by simp,by simp,by simp,⟨by simp,?_⟩⟩;have:=qW (w.alloc (.cells #[x,y] 54)) (.cells #[.int .i64 0,.slice none 0 0] 54)
 simpa using this
structure Boxes2 (w W:World) (x1 y1 x2 y2:Value):Prop where
 ext:Ext w W
 size:W.heap.size=w.heap.size+3
 c0:W.cell? ⟨w.heap.size,0,none⟩=some x1
 c1:W.cell? ⟨w.heap.size,1,none⟩=some y1
 d0:W.cell? ⟨w.heap.size+1,0,none⟩=some x2
 d1:W.cell? ⟨w.heap.size+1,1,none⟩=some y2
 res:Res W (w.heap.size+1+1)
theorem boxes2 (w:World) (x1 y1 x2 y2:Value):Boxes2 w (((w.alloc (.cells #[x1,y1] 54)).alloc (.cells #[x2,y2] 54)).alloc (.cells #[.int .i64 0,.slice none 0 0] 54)) x1 y1 x2 y2:=by
 have hc:∀ p:Addr,p.block<((w.alloc (.cells #[x1,y1] 54)).alloc (.cells #[x2,y2] 54)).heap.size->(((w.alloc (.cells #[x1,y1] 54)).alloc (.cells #[x2,y2] 54)).alloc (.cells #[.int .i64 0,.slice none 0 0] 54)).cell? p=((w.alloc (.cells #[x1,y1] 54)).alloc (.cells #[x2,y2] 54)).cell? p:=fun p hp=>(Ext.alloc _ _).cell hp
 refine ⟨((Ext.alloc _ _).then _).then _,by simp,(hc _ (by simp;omega)).trans (by simp),(hc _ (by simp;omega)).trans (by simp),(hc _ (by simp)).trans (by simp),(hc _ (by simp)).trans (by simp),⟨by simp,?_⟩⟩;have:=qW ((w.alloc (.cells #[x1,y1] 54)).alloc (.cells #[x2,y2] 54)) (.cells #[.int .i64 0,.slice none 0 0] 54)
 simpa using this
theorem keep4 {W w':World} {B:Nat} {x y x2 y2:Value} (h:Ext W w') (hB:B+1<W.heap.size) (c0:W.cell? ⟨B,0,none⟩=some x) (c1:W.cell? ⟨B,1,none⟩=some y) (d0:W.cell? ⟨B+1,0,none⟩=some x2) (d1:W.cell? ⟨B+1,1,none⟩=some y2) :
  w'.cell? ⟨B,0,none⟩=some x/\w'.cell? ⟨B,1,none⟩=some y/\w'.cell? ⟨B+1,0,none⟩=some x2/\w'.cell? ⟨B+1,1,none⟩=some y2 :=
 ⟨(h.cell (p:=⟨B,0,none⟩) (show B<_ by omega)).trans c0,(h.cell (p:=⟨B,1,none⟩) (show B<_ by omega)).trans c1,(h.cell (p:=⟨B+1,0,none⟩) hB).trans d0,(h.cell (p:=⟨B+1,1,none⟩) hB).trans d1⟩
theorem Neg_any (sm:Int) (ao:Option Addr) (n c:Nat) (z:Int) (w:World) (h:IsInt w sm ao n c z) :
  Calls Tryz.prog 105 #[.agg #[.int .i64 sm,.slice ao n c]] w fun e w'=>∃ (s':Int) (a':Option Addr) (n' c':Nat),e=.returned (.agg #[.int .i64 s',.slice a' n' c'])/\IsInt w' s' a' n' c' (-z)/\Ext w w':=by
 have q1:=eql_nil ao n c 0 0
 by_cases hsm:ao=none/\sm≠-9223372036854775808
 ·rcases h with ⟨rfl,rfl,rfl,rfl,h1,h2⟩ | ⟨b,o,l,rfl,_⟩
  ·have hb:(sm != -9223372036854775808)=true:=by rw [bne_iff_ne];exact hsm.2
   have hr : -9223372036854775807<=sm:=by omega
   go_enter Tryz.func105,Tryz.ntmps105
   go_wp2
   exact qJ (v:=.agg #[.int .i64 (-sm),.slice none 0 0]) (by simp [results,Tryz.results105,go_sem]) rfl ⟨-sm,none,0,0,rfl,IsInt.small _ _ (by omega) (by omega),(Ext.alloc _ _).then _⟩
  ·exact absurd hsm.1 (by simp)
 ·have hI:=h
  have Hsg:=hid h.sign
  have hcase:ao.isNone=false\/(ao=none/\(sm != -9223372036854775808)=false):=by
   rcases ao with _ | a
   ·right;refine ⟨rfl,?_⟩;simp at hsm;simp [hsm]
   ·left;rfl
  clear hsm
  rcases hcase with hno | ⟨rfl,hno⟩
  all_goals
   go_enter Tryz.func105,Tryz.ntmps105
   go_wp2_with fail
  ·have hbx:=boxes1 w (.int .i64 sm) (.slice ao n c)
   generalize (w.alloc (.cells #[.int .i64 sm,.slice ao n c] 54)).alloc (.cells #[.int .i64 0,.slice none 0 0] 54)=W0 at *;have hI0:=hI.ext hbx.ext;have Hn:=hid (negative_from (w:=W0) sm (.slice ao n c));have Hw:=hid (words_from hI0);have Hf:=hid (fromWords_from (w:=W0) (!decide (sm<0)));have hE0d:Ext W0 W0.drew:=qG (Ext.refl _)
   have hB:w.heap.size<W0.heap.size:=by have:=hbx.size;omega
   have c0:=hbx.c0;have c1:=hbx.c1
   go_region_held3 (fun w'=>w'.cell? ⟨w.heap.size,0,none⟩=some (.int .i64 sm)/\w'.cell? ⟨w.heap.size,1,none⟩=some (.slice ao n c)) (first | exact keep2 (by assumption) hB c0 c1 | go_keep) (first | (go_at_call 102;refine (Hn.out _ (by assumption)).mono ?_;rintro e w1 ⟨rfl,he1,hx1⟩) | (go_at_call 104;refine (Hw.out _ (by assumption)).mono ?_;rintro e w2 ⟨a2,l2,n2,c2,rfl,hl2,hn2,hc2,hs2,hd2,hm2,Hv2,he2,hx2⟩;have Hl2:=hid hl2;clear hl2) | (go_at_call 94;refine (Hf.out _ a2 l2 n2 c2 he2 Hl2.out hs2 hd2 hn2 hc2).mono ?_;rintro e w3 ⟨s3,a3,n3,c3,rfl,hI3,he3,hx3⟩;have hr3:=hbx.res.ext he3;have k0:=hr3.c0;have k1:=hr3.c1;have g0:=hr3.f0;have g1:=hr3.f1))
   go_wp2_with fail
   have hv3:sgn (!decide (sm<0)) (val l2)=-z:=by
    rw [Hv2.out];have h5:=Hsg.out.1
    by_cases h6:sm<0
    ·have:=h5.1 h6;simp [sgn,h6];omega
    ·have:¬ z<0:=fun k=>h6 (h5.2 k)
     simp [sgn,h6];omega
   exact qJ (v:=.agg #[.int .i64 s3,.slice a3 n3 c3]) (by simp [results,Tryz.results105,go_sem,k0,k1]) rfl ⟨s3,a3,n3,c3,rfl,(hI3.cast hv3).setRes hr3.row _ _,(hbx.ext.trans he3).setRes (Nat.le_succ _) _ _⟩
  ·have hbx:=boxes1 w (.int .i64 sm) (.slice none n c)
   generalize (w.alloc (.cells #[.int .i64 sm,.slice none n c] 54)).alloc (.cells #[.int .i64 0,.slice none 0 0] 54)=W0 at *;have hI0:=hI.ext hbx.ext;have Hn:=hid (negative_from (w:=W0) sm (.slice none n c));have Hw:=hid (words_from hI0);have Hf:=hid (fromWords_from (w:=W0) (!decide (sm<0)));have hE0d:Ext W0 W0.drew:=qG (Ext.refl _)
   have hB:w.heap.size<W0.heap.size:=by have:=hbx.size;omega
   have c0:=hbx.c0;have c1:=hbx.c1
   go_region_held3 (fun w'=>w'.cell? ⟨w.heap.size,0,none⟩=some (.int .i64 sm)/\w'.cell? ⟨w.heap.size,1,none⟩=some (.slice none n c)) (first | exact keep2 (by assumption) hB c0 c1 | go_keep) (first | (go_at_call 102;refine (Hn.out _ (by assumption)).mono ?_;rintro e w1 ⟨rfl,he1,hx1⟩) | (go_at_call 104;refine (Hw.out _ (by assumption)).mono ?_;rintro e w2 ⟨a2,l2,n2,c2,rfl,hl2,hn2,hc2,hs2,hd2,hm2,Hv2,he2,hx2⟩;have Hl2:=hid hl2;clear hl2) | (go_at_call 94;refine (Hf.out _ a2 l2 n2 c2 he2 Hl2.out hs2 hd2 hn2 hc2).mono ?_;rintro e w3 ⟨s3,a3,n3,c3,rfl,hI3,he3,hx3⟩;have hr3:=hbx.res.ext he3;have k0:=hr3.c0;have k1:=hr3.c1;have g0:=hr3.f0;have g1:=hr3.f1))
   go_wp2_with fail
   have hv3:sgn (!decide (sm<0)) (val l2)=-z:=by
    rw [Hv2.out];have h5:=Hsg.out.1
    by_cases h6:sm<0
    ·have:=h5.1 h6;simp [sgn,h6];omega
    ·have:¬ z<0:=fun k=>h6 (h5.2 k)
     simp [sgn,h6];omega
   exact qJ (v:=.agg #[.int .i64 s3,.slice a3 n3 c3]) (by simp [results,Tryz.results105,go_sem,k0,k1]) rfl ⟨s3,a3,n3,c3,rfl,(hI3.cast hv3).setRes hr3.row _ _,(hbx.ext.trans he3).setRes (Nat.le_succ _) _ _⟩
theorem front_any (ao:Option Addr) (l:List Nat) (n c k:Nat) (w:World) (hl:l.length=n) (hs:Seg w ao l) (hk:k<=n) (hc:n<=c) (hcm:c<=maxLen) :
  Calls Tryz.prog 151 #[.slice ao n c,.int .i64 k] w fun e w'=>e=.returned (.slice ao (nlen (l.take k)) (nlen (l.take k)))/\w=w':=by
 have Hl:=hid hl;clear hl;unfold maxLen at hcm
 go_enter Tryz.func151,Tryz.ntmps151
 go_wp2_with fail
 refine (trim_n ao (l.take k) k k w (by rw [qC,Hl.out];omega) (qZ _) (by unfold maxLen;omega) (hs.take k)).mono ?_;rintro e w1 ⟨rfl,rfl⟩
 go_wp2_with fail
 go_ret
 exact ⟨rfl,rfl⟩
def MulOK (N:Nat):Prop:=∀ (a1 a2:Option Addr) (l1 l2:List Nat) (n1 n2 c1 c2:Nat) (w:World),l1.length=n1->l2.length=n2->Seg w a1 l1->Seg w a2 l2->Dig l1->Dig l2->n1<=c1->n2<=c2->c1<=maxLen->c2<=maxLen->n1+n2<=N ->
  Calls Tryz.prog 109 #[.slice a1 n1 c1,.slice a2 n2 c2] w fun e w'=>∃ v,e=.returned v/\Num w' v (val l1*val l2)/\Ext w w'/\Fresh w v
theorem prod_len {l l1 l2:List Nat} (hm:Nrm l) (hv:val l=val l1*val l2) (d1:Dig l1) (d2:Dig l2):l.length<=l1.length+l2.length:=by
 have h1:=val_lt d1;have h2:=val_lt d2
 apply yP
 intro h;have h3:=hm.ge (by intro e;subst e;simp at h);have h4:B64 ^ (l1.length+l2.length)<=B64 ^ (l.length-1):=qY B64_pos (by omega)
 have h5:val l1*val l2<B64 ^ l1.length*B64 ^ l2.length:=by
  by_cases h0:val l2=0
  ·rw [h0,Nat.mul_zero];exact Nat.mul_pos (jF B64_pos) (jF B64_pos)
  ·exact qK (Nat.mul_lt_mul_of_pos_right h1 (by omega)) (jX _ (Nat.le_of_lt h2))
 rw [<-jS] at h5;omega
theorem seg_from {w:World} {b o:Nat} {l:List Nat} (h:Seg w (some ⟨b,o,none⟩) l) (k:Nat):Seg w (some ⟨b,o+k,none⟩) (l.drop k):=by
 rcases h with ⟨h,_⟩ | ⟨b',o',h,hb,hc⟩
 ·cases h
 ·simp only [yX,Addr.mk.injEq,and_true] at h
  obtain ⟨rfl,rfl⟩:=h;refine qO ⟨b,o+k,rfl,hb,fun t ht=>?_⟩;rw [qF] at ht;rw [Nat.add_assoc,hc (k+t) (by omega),drop_getD]
theorem uneven_val {M L P1 l1 l2:List Nat} {k N carry:Nat} (hk:k<=l1.length) (d1:Dig l1) (d2:Dig l2) (hN:l1.length+l2.length=N) (hkN:k<=N) (hL:L.length=N) (hLv:val L=val (l1.take k)*val l2) (hT:Turned L M k (N-k))
  (hp:val P1=val (l1.drop k)*val l2) (hv:val (seg M k (N-k))+B64 ^ (N-k)*carry=val (seg L k (N-k))+val P1):val M=val l1*val l2:=by
 have hM:M.length=N:=by rw [hT.1];exact hL
 have e1:=val_seg_split M 0 k N hkN (by omega);have e2:=val_seg_split L 0 k N hkN (by omega);rw [show seg M 0 N=M from by rw [<-hM];exact seg_all M,jH] at e1;rw [show seg L 0 N=L from by rw [<-hL];exact seg_all L,jH] at e2;have e3:seg M 0 k=seg L 0 k:=seg_congr _ _ _ _ hT.1 (fun t _ ht=>hT.2 t (by omega));have e4:=val_drop_take l1 k hk
 have hX:B64 ^ N=B64 ^ k*B64 ^ (N-k):=by rw [<-jS];congr 1;omega
 have h5:B64 ^ k*(val (seg M k (N-k))+B64 ^ (N-k)*carry)=B64 ^ k*(val (seg L k (N-k))+val P1):=by rw [hv]
 rw [qN,qN,<-jW,<-hX,hp] at h5
 have h6:val l1*val l2=val (l1.take k)*val l2+B64 ^ k*(val (l1.drop k)*val l2):=by rw [e4,yV,jW]
 have h7:val M+B64 ^ N*carry=val l1*val l2:=by rw [h6,<-hLv,e1,e2,e3];omega
 have h8:val l1*val l2<B64 ^ N:=by
  have h1:=val_lt d1;have h2:=val_lt d2;rw [<-hN,jS]
  by_cases h0:val l2=0
  ·rw [h0,Nat.mul_zero];exact Nat.mul_pos (jF B64_pos) (jF B64_pos)
  ·exact qK (Nat.mul_lt_mul_of_pos_right h1 (by omega)) (jX _ (Nat.le_of_lt h2))
 exact (no_carry h7 h8).2
theorem mulUneven_any (N:Nat) (ih:MulOK N) (a1 a2:Option Addr) (l1 l2:List Nat) (k r n2 c1 c2:Nat) (w:World) (hl1:l1.length=k+r) (hl2:l2.length=n2) (h1:Seg w a1 l1) (h2:Seg w a2 l2) (d1:Dig l1) (d2:Dig l2) (hc1:k+r<=c1) (hc2:n2<=c2) (hm1:c1<=maxLen) (hm2:c2<=maxLen) (hr1:1<=r) (hrk:r<=k) (hN:k+n2<=N) (hsz:k+r+n2<=16777216) :
  Calls Tryz.prog 137 #[.slice a1 (k+r) c1,.slice a2 n2 c2,.int .i64 k] w fun e w'=>∃ v,e=.returned v/\Num w' v (val l1*val l2)/\Ext w w'/\Fresh w v:=by
 have H1:=hid hl1;have H2:=hid hl2;have h1k:=h1
 rcases h1 with ⟨_,rfl⟩ | ⟨b1,o1,rfl,hb1,_⟩
 ·simp at hl1;omega
 clear hl1 hl2
 have hm1':c1<=9223372036854775807:=by unfold maxLen at hm1;omega
 go_enter Tryz.func137,Tryz.ntmps137
 go_wp2_with (at_make;refine wpList_make_row _ rfl _ _ rfl _ _ _ _ (k+r+n2) rfl rfl (by omega) (by omega) (by omega) ?_;intro w1 hr1' he1 hz1)
 refine (front_any _ l1 (k+r) c1 k w1 H1.out (h1k.ext he1) (by omega) hc1 hm1).mono ?_;rintro e wx ⟨rfl,rfl⟩;have hnt:=nlen_le (l1.take k)
 have hlt:(l1.take k).length=k:=by rw [qC,H1.out];omega
 rw [hlt] at hnt;have hs1:=((h1k.ext he1).take k).take (nlen (l1.take k));have hd1:=(d1.take k).take (nlen (l1.take k));have hv1:=val_take_nlen (l1.take k)
 have hle1:((l1.take k).take (nlen (l1.take k))).length=nlen (l1.take k):=by rw [qC,hlt];omega
 obtain ⟨t,ht⟩:∃ t,(l1.take k).take (nlen (l1.take k))=t:=⟨_,rfl⟩;obtain ⟨nt,hnt'⟩:∃ nt,nlen (l1.take k)=nt:=⟨_,rfl⟩;rw [ht] at hs1 hd1 hv1 hle1;rw [hnt'] at hle1 hnt ⊢;have Hv1:=hid hv1;have Hle1:=hid hle1;clear hlt hv1 hle1 ht hnt'
 go_wp2_with fail
 refine (ih _ _ t l2 nt n2 nt c2 w1 Hle1.out H2.out hs1 (h2.ext he1) hd1 d2 (qZ _) hc2 (by unfold maxLen;omega) hm2 (by omega)).mono ?_;rintro e w2 ⟨_,rfl,⟨ap,p,cp,rfl,hpc,hpm,hps,hpd,hpn,hpv⟩,he2,_⟩;have hplen:=prod_len hpn hpv hd1 d2;rw [Hle1.out,H2.out] at hplen;obtain ⟨np,hnp⟩:∃ np,p.length=np:=⟨_,rfl⟩;rw [hnp] at hplen hpc ⊢;have Hnp:=hid hnp;have Hpv:=hid hpv;clear hnp hpv;have hr2:=hr1'.ext he2
 go_wp2_with (refine wpList_copy_row_n rfl (.tmp 14) (.tmp 19) rfl w.heap.size 0 _ _ _ _ _ _ p rfl rfl Hnp.out hr2 hps (by simp;omega) (by omega) ?_;intro w3 hr3 ho3)
 have hr3':Row w3 w.heap.size (pad p (k+r+n2)):=by
  have e:List.take 0 (List.replicate (k+r+n2) 0)++(p++List.drop (0+np) (List.replicate (k+r+n2) 0))=pad p (k+r+n2):=by
   have:=Hnp.out
   simp [pad,this]
  rw [e] at hr3;exact hr3
 have hwz:w.heap.size<w2.heap.size:=by have:=he2.size;omega
 have hb3:Ext w w3:=(he1.trans he2).only ho3 (qZ _);have hs1d:Seg w3 (some ⟨b1,o1+k,none⟩) (l1.drop k):=(seg_from h1k k).ext hb3;have hs2d:Seg w3 a2 l2:=h2.ext hb3
 have i1:(k:Int)<=(k:Int)+(r:Int):=by omega
 have i2:(0:Int)<=(k:Int):=by omega
 have Hmul:Hid (Calls Tryz.prog 109 #[.slice (some ⟨b1,o1+k,none⟩) r (c1-k),.slice a2 n2 c2] w3.drew fun e w'=>∃ (aq:Option Addr) (q:List Nat) (nq cq:Nat),e=.returned (.slice aq nq cq)/\q.length=nq/\nq<=r+n2/\nq<=cq/\Seg w' aq q/\Dig q/\val q=val (l1.drop k)*val l2/\Ext w3 w'/\(∀ a,aq=some a->w3.heap.size<=a.block)):=by
  refine (ih _ _ (l1.drop k) l2 r n2 (c1-k) c2 w3.drew (by rw [qF,H1.out];omega) H2.out hs1d hs2d (d1.drop k) d2 (by omega) hc2 (by unfold maxLen;omega) hm2 (by omega)).mono ?_;rintro e w4 ⟨_,rfl,⟨aq,q,cq,rfl,hqc,_,hqs,hqd,hqn,hqv⟩,he4,hfr⟩;have hl:=prod_len hqn hqv (d1.drop k) d2;rw [qF,H1.out,H2.out] at hl;exact ⟨aq,q,q.length,cq,rfl,rfl,by omega,hqc,hqs,hqd,hqv,⟨he4.os,he4.tape,he4.output,he4.size,he4.block⟩,fun a ha=>by subst ha;exact hfr a _ _ rfl⟩
 have hpl:(pad p (k+r+n2)).length=k+r+n2:=pad_length _ _ (by rw [Hnp.out];omega);have Hpl:=hid hpl;have hpD:Dig (pad p (k+r+n2)):=pad_dig hpd _
 have hpV:Hid (val (pad p (k+r+n2))=val (l1.take k)*val l2):=by show _=_;rw [pad_val,Hpv.out,Hv1.out]
 obtain ⟨L0,hL0⟩:∃ L0,pad p (k+r+n2)=L0:=⟨_,rfl⟩;rw [hL0] at hr3' hpD hpV Hpl
 have i3:(k:Int)<=(k:Int)+(r:Int)+(n2:Int):=by omega
 have i4:¬ (k+r+n2=k):=by omega
 have i5:¬ (c1=k):=by omega
 have i6:(k:Int)+(r:Int)<=(c1:Int):=by omega
 have hz4:w.heap.size<w3.heap.size:=hr3'.lt;clear hr3 ho3 hr2 hps hpl hL0
 go_region_held3 (fun _=>True) (trivial) (first | (go_at_call 109;refine Hmul.out.mono ?_;rintro e w4 ⟨aq,q,nq,cq,rfl,hq1,hq2,hq3,hq4,hq5,hq6,he4,hq7⟩;have Hq7:=hid hq7;have Hq1:=hid hq1;have Hq6:=hid hq6;clear hq1 hq6 hq7) | (go_at_call 152;refine (addInto_n w.heap.size k (k+r+n2-k) _ aq nq cq q L0 w4 Hq1.out (hr3'.ext he4) hq4 (fun a ha=>by have:=Hq7.out a ha;omega) hpD hq5 (by rw [Hpl.out];omega) (by omega) (by rw [Hpl.out];unfold maxLen;omega) (qZ _) hq3).mono ?_;rintro e w5 ⟨M,carry,rfl,hca,hr5,hd5,hT5,ho5,Hv5⟩))
 have hML:M.length=k+r+n2:=by rw [hT5.1];exact Hpl.out
 have HML:=hid hML;have HV:Hid (val M=val l1*val l2):=uneven_val (by rw [H1.out];omega) d1 d2 (by rw [H1.out,H2.out]) (by omega) Hpl.out hpV.out hT5 Hq6.out Hv5.out;have hs5:=hr5.segAll;have hb5:Ext w w5:=(hb3.trans he4).only ho5 (qZ _);clear hML
 go_wp2_with fail
 refine (trim_n _ M _ _ _ HML.out (qZ _) (by unfold maxLen;omega) hs5).mono ?_;rintro e w6 ⟨rfl,rfl⟩
 go_wp2_with fail
 go_ret
 exact ⟨_,rfl,(num_trim hs5 hd5 (by rw [HML.out];unfold maxLen;omega)).cast HV.out,hb5,Fresh.mk (qZ _)⟩
theorem add_at {M L P:List Nat} {k N carry:Nat} (hkN:k<=N) (hL:L.length=N) (hT:Turned L M k (N-k)) (hv:val (seg M k (N-k))+B64 ^ (N-k)*carry=val (seg L k (N-k))+val P) :
  val M+B64 ^ N*carry=val L+B64 ^ k*val P:=by
 have hM:M.length=N:=by rw [hT.1];exact hL
 have e1:=val_seg_split M 0 k N hkN (by omega);have e2:=val_seg_split L 0 k N hkN (by omega);rw [show seg M 0 N=M from by rw [<-hM];exact seg_all M,jH] at e1;rw [show seg L 0 N=L from by rw [<-hL];exact seg_all L,jH] at e2;have e3:seg M 0 k=seg L 0 k:=seg_congr _ _ _ _ hT.1 (fun t _ ht=>hT.2 t (by omega))
 have hX:B64 ^ N=B64 ^ k*B64 ^ (N-k):=by rw [<-jS];congr 1;omega
 have h5:B64 ^ k*(val (seg M k (N-k))+B64 ^ (N-k)*carry)=B64 ^ k*(val (seg L k (N-k))+val P):=by rw [hv]
 rw [qN,qN,<-jW,<-hX] at h5;rw [e1,e2,e3];omega
theorem halves_val {M R low high cross l1 l2:List Nat} {k N carry:Nat} (hk1:k<=l1.length) (hk2:k<=l2.length) (d1:Dig l1) (d2:Dig l2) (hN:l1.length+l2.length=N) (hR:R.length=N) (hRv:val R=val low+B64 ^ (2*k)*val high)
  (hlow:val low=val (l1.take k)*val (l2.take k)) (hhigh:val high=val (l1.drop k)*val (l2.drop k))
  (hcross:val cross=(val (l1.take k)+val (l1.drop k))*(val (l2.take k)+val (l2.drop k))-val low-val high)
  (hT:Turned R M k (N-k)) (hv:val (seg M k (N-k))+B64 ^ (N-k)*carry=val (seg R k (N-k))+val cross):val M=val l1*val l2:=by
 have h1:=add_at (by omega) hR hT hv
 have hc:val cross=val (l1.take k)*val (l2.drop k)+val (l1.drop k)*val (l2.take k):=by
  rw [hcross,hlow,hhigh,yV,qN,qN];omega
 have h2:val l1*val l2=val R+B64 ^ k*val cross:=by
  rw [hRv,hlow,hhigh,hc,val_drop_take l1 k hk1,val_drop_take l2 k hk2,show 2*k=k+k from by omega,jS];generalize val (l1.take k)=A0;generalize val (l1.drop k)=A1;generalize val (l2.take k)=B0;generalize val (l2.drop k)=B1;generalize B64 ^ k=X;simp only [yV,qN,jW]
  have p1:A0*(X*B1)=X*(A0*B1):=by ac_rfl
  have p2:A1*(X*B1)=X*(A1*B1):=by ac_rfl
  rw [p1,p2];omega
 have h8:val l1*val l2<B64 ^ N:=by
  have h1:=val_lt d1;have h2:=val_lt d2;rw [<-hN,jS]
  by_cases h0:val l2=0
  ·rw [h0,Nat.mul_zero];exact Nat.mul_pos (jF B64_pos) (jF B64_pos)
  ·exact qK (Nat.mul_lt_mul_of_pos_right h1 (by omega)) (jX _ (Nat.le_of_lt h2))
 rw [<-h2] at h1;exact (no_carry h1 h8).2
theorem two_laid (low high:List Nat) (k N nh:Nat) (hl:low.length<=2*k) (hh:high.length=nh) (hN:2*k+nh<=N) (dl:Dig low) (dh:Dig high) :
  ((pad low N).take (2*k)++(high++(pad low N).drop (2*k+nh))).length=N/\Dig ((pad low N).take (2*k)++(high++(pad low N).drop (2*k+nh))) /\
  val ((pad low N).take (2*k)++(high++(pad low N).drop (2*k+nh)))=val low+B64 ^ (2*k)*val high:=by
 have hp:(pad low N).length=N:=pad_length _ _ (by omega);have dp:=pad_dig dl N;refine ⟨?_,(dp.take _).append (dh.append (dp.drop _)),?_⟩
 ·rw [qT,qT,qC,qF,hp,hh];omega
 ·have e1:(pad low N).take (2*k)=pad low (2*k):=by
   unfold pad;rw [List.take_append,qB hl,List.take_replicate]
   congr 2
   omega
  have e2:(pad low N).drop (2*k+nh)=List.replicate (N-(2*k+nh)) 0:=by
   unfold pad;rw [List.drop_append,yE (by omega),List.drop_replicate,List.nil_append]
   congr 1
   omega
  rw [val_append,val_append,e1,e2,val_replicate,pad_val,pad_length _ _ hl,Nat.mul_zero,Nat.add_zero]
theorem sum_len {l:List Nat} {x y k:Nat} (hm:Nrm l) (hv:val l=x+y) (hx:x<B64 ^ k) (hy:y<B64 ^ k):l.length<=k+1:=by
 apply yP
 intro h;have h3:=hm.ge (by intro e;subst e;simp at h);have h4:B64 ^ (k+1)<=B64 ^ (l.length-1):=qY B64_pos (by omega);rw [Nat.pow_succ] at h4;have h5:B64 ^ k*2<=B64 ^ k*B64:=jX _ (by unfold B64;omega);omega
theorem Num.named {w:World} {v:Value} {x:Nat} (h:Num w v x):∃ (ao:Option Addr) (l:List Nat) (n c:Nat),v=.slice ao n c/\l.length=n/\n<=c/\c<=maxLen/\Seg w ao l/\Dig l/\Nrm l/\val l=x:=by
 obtain ⟨ao,l,c,h1,h2,h3,h4,h5,h6,h7⟩:=h;exact ⟨ao,l,l.length,c,h1,rfl,h2,h3,h4,h5,h6,h7⟩
theorem lt_len {l:List Nat} {k:Nat} (hm:Nrm l) (h:val l<B64 ^ k):l.length<=k:=by
 apply yP
 intro hk;have h3:=hm.ge (by intro e;subst e;simp at hk);have h4:B64 ^ k<=B64 ^ (l.length-1):=qY B64_pos (by omega);omega
theorem cross_lt {l1 l2:List Nat} {k T X:Nat} (hk1:k<=l1.length) (hk2:k<=l2.length) (d1:Dig l1) (d2:Dig l2) (hT:l1.length+l2.length=k+T) (hX:X=val (l1.take k)*val (l2.drop k)+val (l1.drop k)*val (l2.take k)):X<B64 ^ T:=by
 have h8:val l1*val l2<B64 ^ (k+T):=by
  have h1:=val_lt d1;have h2:=val_lt d2;rw [<-hT,jS]
  by_cases h0:val l2=0
  ·rw [h0,Nat.mul_zero];exact Nat.mul_pos (jF B64_pos) (jF B64_pos)
  ·exact qK (Nat.mul_lt_mul_of_pos_right h1 (by omega)) (jX _ (Nat.le_of_lt h2))
 have h2:B64 ^ k*X<=val l1*val l2:=by
  rw [hX,val_drop_take l1 k hk1,val_drop_take l2 k hk2];generalize val (l1.take k)=A0;generalize val (l1.drop k)=A1;generalize val (l2.take k)=B0;generalize val (l2.drop k)=B1;generalize B64 ^ k=X;simp only [yV,qN,jW]
  have p1:A0*(X*B1)=X*(A0*B1):=by ac_rfl
  rw [p1];omega
 rw [jS] at h8;exact Nat.lt_of_mul_lt_mul_left (yQ h2 h8)
theorem Row.pad {w:World} {g T np:Nat} {p:List Nat} (h:Row w g (List.take 0 (List.replicate T 0)++(p++List.drop (0+np) (List.replicate T 0)))) (hp:p.length=np):Row w g (pad p T):=by
 have e:List.take 0 (List.replicate T 0)++(p++List.drop (0+np) (List.replicate T 0))=Go.Proofs.YtjfomkoedgipjaaGreatDoor.pad p T:=by
  simp [Go.Proofs.YtjfomkoedgipjaaGreatDoor.pad,hp]
 rw [e] at h;exact h
theorem front_parts {w:World} {ao:Option Addr} {l:List Nat} {k n:Nat} (hl:l.length=n) (hk:k<=n) (hs:Seg w ao l) (hd:Dig l) :
  ∃ (t:List Nat) (m:Nat),nlen (l.take k)=m/\t.length=m/\m<=k/\Seg w ao t/\Dig t/\val t=val (l.take k):=by
 have hnt:=nlen_le (l.take k)
 have hlt:(l.take k).length=k:=by rw [qC];omega
 exact ⟨(l.take k).take (nlen (l.take k)),_,rfl,by rw [qC];omega,by omega,(hs.take k).take _,(hd.take k).take _,val_take_nlen _⟩
theorem mulHalves_any (N:Nat) (ih:MulOK N) (a1 a2:Option Addr) (l1 l2:List Nat) (k r1 r2 c1 c2:Nat) (w:World) (hl1:l1.length=k+r1) (hl2:l2.length=k+r2) (h1:Seg w a1 l1) (h2:Seg w a2 l2) (d1:Dig l1) (d2:Dig l2) (hc1:k+r1<=c1) (hc2:k+r2<=c2) (hm1:c1<=maxLen) (hm2:c2<=maxLen) (hr1:1<=r1) (hr2:1<=r2) (hrk:r1<=k) (hrr:r2<=r1) (hN:2*k+2<=N) (hsz:k+r1+(k+r2)<=16777216) :
  Calls Tryz.prog 138 #[.slice a1 (k+r1) c1,.slice a2 (k+r2) c2,.int .i64 k] w fun e w'=>∃ v,e=.returned v/\Num w' v (val l1*val l2)/\Ext w w'/\Fresh w v:=by
 have H1:=hid hl1;have H2:=hid hl2;have h1k:=h1;have h2k:=h2
 rcases h1 with ⟨_,rfl⟩ | ⟨b1,o1,rfl,hb1,_⟩
 ·simp at hl1;omega
 rcases h2 with ⟨_,rfl⟩ | ⟨b2,o2,rfl,hb2,_⟩
 ·simp at hl2;omega
 clear hl1 hl2
 have hm1':c1<=9223372036854775807:=by unfold maxLen at hm1;omega
 have hm2':c2<=9223372036854775807:=by unfold maxLen at hm2;omega
 have i1:(k:Int)<=(k:Int)+(r1:Int):=by omega
 have i2:(k:Int)<=(k:Int)+(r2:Int):=by omega
 have i3:(0:Int)<=(k:Int):=by omega
 have i5:¬ (c1=k):=by omega
 have i6:¬ (c2=k):=by omega
 have i7:(k:Int)+(r1:Int)<=(c1:Int):=by omega
 have i8:(k:Int)+(r2:Int)<=(c2:Int):=by omega
 have Hf1:Hid (∀ wx:World,Ext w wx->Calls Tryz.prog 151 #[.slice (some ⟨b1,o1,none⟩) (k+r1) c1,.int .i64 k] wx fun e w'=>e=.returned (.slice (some ⟨b1,o1,none⟩) (nlen (l1.take k)) (nlen (l1.take k)))/\wx=w'):=fun wx hx=>front_any _ l1 (k+r1) c1 k wx H1.out (h1k.ext hx) (by omega) hc1 hm1
 have Hf2:Hid (∀ wx:World,Ext w wx->Calls Tryz.prog 151 #[.slice (some ⟨b2,o2,none⟩) (k+r2) c2,.int .i64 k] wx fun e w'=>e=.returned (.slice (some ⟨b2,o2,none⟩) (nlen (l2.take k)) (nlen (l2.take k)))/\wx=w'):=fun wx hx=>front_any _ l2 (k+r2) c2 k wx H2.out (h2k.ext hx) (by omega) hc2 hm2
 go_enter Tryz.func138,Tryz.ntmps138
 go_wp2_with fail
 go_region_held3 (fun _=>True) (trivial) (first | (go_at_call 151;refine (Hf1.out w.drew (qG (Ext.refl _))).mono ?_;rintro e w4 ⟨rfl,rfl⟩))
 go_wp2_with fail
 go_region_held3 (fun _=>True) (trivial) (first | (go_at_call 151;refine (Hf2.out w.drew.drew (qG (qG (Ext.refl _)))).mono ?_;rintro e w4 ⟨rfl,rfl⟩))
 go_wp2_with fail
 obtain ⟨t1,m1,e1,hl1,hk1,hs1,hd1,hv1⟩:=front_parts (k:=k) H1.out (by omega) h1k d1;obtain ⟨t2,m2,e2,hl2,hk2,hs2,hd2,hv2⟩:=front_parts (k:=k) H2.out (by omega) h2k d2;rw [e1,e2];have Hl1:=hid hl1;have Hl2:=hid hl2;have Hv1:=hid hv1;have Hv2:=hid hv2;have hs1d:Seg w (some ⟨b1,o1+k,none⟩) (l1.drop k):=seg_from h1k k;have hs2d:Seg w (some ⟨b2,o2+k,none⟩) (l2.drop k):=seg_from h2k k;have hd1d:=d1.drop k;have hd2d:=d2.drop k;obtain ⟨u1,hu1⟩:∃ u,l1.drop k=u:=⟨_,rfl⟩;obtain ⟨u2,hu2⟩:∃ u,l2.drop k=u:=⟨_,rfl⟩
 have hul1:u1.length=r1:=by rw [<-hu1,qF,H1.out];omega
 have hul2:u2.length=r2:=by rw [<-hu2,qF,H2.out];omega
 rw [hu1] at hs1d hd1d;rw [hu2] at hs2d hd2d;have Hu1:=hid hu1;have Hu2:=hid hu2;have Hul1:=hid hul1;have Hul2:=hid hul2;clear e1 e2 hl1 hl2 hv1 hv2 hu1 hu2 hul1 hul2 Hf1 Hf2;have hEd:Ext w w.drew.drew:=qG (qG (Ext.refl _));refine (ih _ _ t1 t2 m1 m2 m1 m2 w.drew.drew Hl1.out Hl2.out hs1 hs2 hd1 hd2 (qZ _) (qZ _) (by unfold maxLen;omega) (by unfold maxLen;omega) (by omega)).mono ?_;rintro e wa ⟨_,rfl,hnum,hea,_⟩;obtain ⟨alo,low,nlo,clo,rfl,hlo1,hlo2,hlo3,hlo4,hlo5,hlo6,hlo7⟩:=hnum.named;have hEa:Ext w wa:=hEd.trans hea;have hlolen:=prod_len hlo6 hlo7 hd1 hd2;rw [hlo1,Hl1.out,Hl2.out] at hlolen;have Hlo1:=hid hlo1;have Hlo7:=hid hlo7;clear hlo1 hlo7 hnum hea
 go_wp2_with fail
 refine (ih _ _ u1 u2 r1 r2 (c1-k) (c2-k) wa Hul1.out Hul2.out (hs1d.ext hEa) (hs2d.ext hEa) hd1d hd2d (by omega) (by omega) (by unfold maxLen;omega) (by unfold maxLen;omega) (by omega)).mono ?_;rintro e wb ⟨_,rfl,hnum,heb,_⟩;obtain ⟨ahi,high,nhi,chi,rfl,hhi1,hhi2,hhi3,hhi4,hhi5,hhi6,hhi7⟩:=hnum.named;have hEb:Ext w wb:=hEa.trans heb;have hhilen:=prod_len hhi6 hhi7 hd1d hd2d;rw [hhi1,Hul1.out,Hul2.out] at hhilen;have Hhi1:=hid hhi1;have Hhi7:=hid hhi7;have hlo4b:=hlo4.ext heb;clear hhi1 hhi7 hnum heb hlo4
 go_wp2_with fail
 refine (addWords_any _ _ t1 u1 m1 r1 m1 (c1-k) wb Hl1.out Hul1.out (hs1.ext hEb) (hs1d.ext hEb) hd1 hd1d (qZ _) (by omega) (by omega) (by omega)).mono ?_;rintro e wc ⟨_,rfl,hnum,hec⟩;obtain ⟨asa,sa,nsa,csa,rfl,hsa1,hsa2,hsa3,hsa4,hsa5,hsa6,hsa7⟩:=hnum.named;have hEc:Ext w wc:=hEb.trans hec;have hX1:val t1<B64 ^ k:=qK (val_lt hd1) (by rw [Hl1.out];exact qY B64_pos hk1);have hY1:val u1<B64 ^ k:=qK (val_lt hd1d) (by rw [Hul1.out];exact qY B64_pos hrk);have hsalen:=sum_len hsa6 hsa7 hX1 hY1;rw [hsa1] at hsalen;have Hsa1:=hid hsa1;have Hsa7:=hid hsa7;have hlo4c:=hlo4b.ext hec;have hhi4c:=hhi4.ext hec;clear hsa1 hsa7 hnum hec hlo4b hhi4 hX1 hY1
 go_wp2_with fail
 refine (addWords_any _ _ t2 u2 m2 r2 m2 (c2-k) wc Hl2.out Hul2.out (hs2.ext hEc) (hs2d.ext hEc) hd2 hd2d (qZ _) (by omega) (by omega) (by omega)).mono ?_;rintro e wd ⟨_,rfl,hnum,hed⟩;obtain ⟨asb,sb,nsb,csb,rfl,hsb1,hsb2,hsb3,hsb4,hsb5,hsb6,hsb7⟩:=hnum.named;have hEdd:Ext w wd:=hEc.trans hed;have hX2:val t2<B64 ^ k:=qK (val_lt hd2) (by rw [Hl2.out];exact qY B64_pos hk2);have hY2:val u2<B64 ^ k:=qK (val_lt hd2d) (by rw [Hul2.out];exact qY B64_pos (by omega));have hsblen:=sum_len hsb6 hsb7 hX2 hY2;rw [hsb1] at hsblen;have Hsb1:=hid hsb1;have Hsb7:=hid hsb7;have hlo4d:=hlo4c.ext hed;have hhi4d:=hhi4c.ext hed;have hsa4d:=hsa4.ext hed;clear hsb1 hsb7 hnum hed hlo4c hhi4c hsa4 hX2 hY2
 go_wp2_with fail
 refine (ih _ _ sa sb nsa nsb csa csb wd Hsa1.out Hsb1.out hsa4d hsb4 hsa5 hsb5 hsa2 hsb2 hsa3 hsb3 (by omega)).mono ?_;rintro e we ⟨_,rfl,hnum,hee,_⟩;obtain ⟨apr,pr,npr,cpr,rfl,hpr1,hpr2,hpr3,hpr4,hpr5,hpr6,hpr7⟩:=hnum.named;have hEe:Ext w we:=hEdd.trans hee;have hprlen:=prod_len hpr6 hpr7 hsa5 hsb5;rw [hpr1,Hsa1.out,Hsb1.out] at hprlen;have hlo4e:=hlo4d.ext hee;have hhi4e:=hhi4d.ext hee
 have hprv:val pr=(val t1+val u1)*(val t2+val u2):=by rw [hpr7,Hsa7.out,Hsb7.out]
 have hexp:val pr=val low+val high+(val t1*val u2+val u1*val t2):=by
  rw [hprv,Hlo7.out,Hhi7.out,yV,qN,qN];omega
 have hlelow:val low<=val pr:=by omega
 have hlenlow:nlo<=npr:=by rw [<-Hlo1.out,<-hpr1];exact hlo6.len_le hpr5 hlelow
 have Hpr1:=hid hpr1;have Hexp:=hid hexp;have Hprv:=hid hprv;have Hlelow:=hid hlelow;clear hpr1 hpr7 hnum hee hlo4d hhi4d hsa4d hsb4 hprv hexp hlelow
 go_wp2_with fail
 refine (subWords_any _ _ pr low npr nlo cpr clo we Hpr1.out Hlo1.out hpr4 hlo4e hpr5 hlo5 hpr2 hlo2 (by omega) hlenlow Hlelow.out).mono ?_;rintro e wf ⟨_,rfl,hnum,hef⟩;obtain ⟨ax1,x1,nx1,cx1,rfl,hx11,hx12,hx13,hx14,hx15,hx16,hx17⟩:=hnum.named;have hEf:Ext w wf:=hEe.trans hef
 have hlehi:val high<=val x1:=by rw [hx17,Hexp.out];omega
 have hlex1:nx1<=npr:=by rw [<-hx11,<-Hpr1.out];exact hx16.len_le hpr5 (by rw [hx17];omega)
 have hlenhi:nhi<=nx1:=by rw [<-Hhi1.out,<-hx11];exact hhi6.len_le hx15 hlehi
 have Hx11:=hid hx11;have Hx17:=hid hx17;have Hlehi:=hid hlehi;have hlo4f:=hlo4e.ext hef;have hhi4f:=hhi4e.ext hef;clear hx11 hx17 hnum hef hlehi hlo4e hhi4e hpr4
 go_wp2_with fail
 refine (subWords_any _ _ x1 high nx1 nhi cx1 chi wf Hx11.out Hhi1.out hx14 hhi4f hx15 hhi5 hx12 hhi2 (by omega) hlenhi Hlehi.out).mono ?_;rintro e wg ⟨_,rfl,hnum,heg⟩;obtain ⟨ax2,x2,nx2,cx2,rfl,hx21,hx22,hx23,hx24,hx25,hx26,hx27⟩:=hnum.named;have hEg:Ext w wg:=hEf.trans heg
 have Hx27:Hid (val x2=(val (l1.take k)+val (l1.drop k))*(val (l2.take k)+val (l2.drop k))-val low-val high):=by
  show _=_
  rw [hx27,Hx17.out,Hprv.out,Hv1.out,Hv2.out,Hu1.out,Hu2.out]
 have hx2v:val x2=val t1*val u2+val u1*val t2:=by rw [hx27,Hx17.out,Hexp.out];omega
 have Hx21:=hid hx21;have Hx2v:=hid hx2v;have hlo4g:=hlo4f.ext heg;have hhi4g:=hhi4f.ext heg;clear hx21 hx27 hnum heg hlo4f hhi4f hx14 hx2v
 have i9:¬ (k+r1+(k+r2)=2*k):=by omega
 have i10:¬ (k+r1+(k+r2)=k):=by omega
 go_wp2_with (first
  | (at_make;refine wpList_make_row _ rfl _ _ rfl _ _ _ _ (k+r1+(k+r2)) rfl rfl (by omega) (by omega) (by omega) ?_;intro wh hrh heh hzh)
  | (refine wpList_copy_row_n rfl (.tmp 51) (.tmp 52) rfl wg.heap.size 0 _ _ _ _ _ _ low rfl rfl Hlo1.out hrh (hlo4g.ext heh) (by simp;omega) (by omega) ?_;intro wi hri hoi;have hri':=Row.pad hri Hlo1.out;clear hri)
  | (refine wpList_copy_row_n rfl (.tmp 57) (.tmp 58) rfl wg.heap.size (2*k) _ _ _ _ _ _ high rfl rfl Hhi1.out hri' ((hhi4g.ext heh).only hoi (hhi4g.block_ne (qZ _))) (by rw [pad_length _ _ (by rw [Hlo1.out];omega)];omega) (by omega) ?_;intro wj hrj hoj))
 obtain ⟨q1,q2,q3⟩:=two_laid low high k (k+r1+(k+r2)) nhi (by rw [Hlo1.out];omega) Hhi1.out (by omega) hlo5 hhi5;obtain ⟨R,hR⟩:∃ R,(pad low (k+r1+(k+r2))).take (2*k)++(high++(pad low (k+r1+(k+r2))).drop (2*k+nhi))=R:=⟨_,rfl⟩;rw [hR] at q1 q2 q3 hrj;have Hq1:=hid q1;have Hq3:=hid q3;have hx4j:=((hx24.ext heh).only hoi (hx24.block_ne (qZ _))).only hoj (hx24.block_ne (qZ _));have hx2lt:val x2<B64 ^ (k+r1+r2):=cross_lt (l1:=l1) (l2:=l2) (k:=k) (by rw [H1.out];omega) (by rw [H2.out];omega) d1 d2 (by rw [H1.out,H2.out];omega) (by rw [Hx2v.out,Hv1.out,Hv2.out,Hu1.out,Hu2.out])
 have hx2len:nx2<=k+r1+r2:=by rw [<-Hx21.out];exact lt_len hx26 hx2lt
 have hEj:Ext w wj:=((hEg.trans heh).only hoi hEg.size).only hoj hEg.size;clear q1 q3 hR hx2lt hoi hoj hri' hrh heh;refine (addInto_n wg.heap.size k (k+r1+(k+r2)-k) _ ax2 nx2 cx2 x2 R wj Hx21.out hrj hx4j (hx24.block_ne (qZ _)) q2 hx25 (by rw [Hq1.out];omega) (by omega) (by rw [Hq1.out];unfold maxLen;omega) (qZ _) hx22).mono ?_;rintro e wk ⟨M,carry,rfl,hca,hrk',hdk,hTk,hok,Hvk⟩
 have hML:M.length=k+r1+(k+r2):=by rw [hTk.1];exact Hq1.out
 have HML:=hid hML;have HV:Hid (val M=val l1*val l2):=halves_val (k:=k) (by rw [H1.out];omega) (by rw [H2.out];omega) d1 d2 (by rw [H1.out,H2.out]) Hq1.out Hq3.out (by rw [Hlo7.out,Hv1.out,Hv2.out]) (by rw [Hhi7.out,Hu1.out,Hu2.out]) Hx27.out hTk Hvk.out;have hsk:=hrk'.segAll;have hEk:Ext w wk:=hEj.only hok hEg.size;have hgz:w.heap.size<=wg.heap.size:=hEg.size;clear hML
 go_wp2_with fail
 refine (trim_n _ M _ _ _ HML.out (qZ _) (by unfold maxLen;omega) hsk).mono ?_;rintro e wl ⟨rfl,rfl⟩
 go_wp2_with fail
 go_ret
 exact ⟨_,rfl,(num_trim hsk hdk (by rw [HML.out];unfold maxLen;omega)).cast HV.out,hEk,Fresh.mk hgz⟩
theorem mulWords_none (a1 a2:Option Addr) (l1 l2:List Nat) (c1 c2:Nat) (w:World) (hl1:l1.length=0) (hl2:l2.length=0) (h1:Seg w a1 l1) (h2:Seg w a2 l2) (d1:Dig l1) (d2:Dig l2) :
  Calls Tryz.prog 109 #[.slice a1 0 c1,.slice a2 0 c2] w fun e w'=>∃ v,e=.returned v/\Num w' v (val l1*val l2)/\Ext w w'/\Fresh w v:=by
 have H1:=hid hl1;have H2:=hid hl2;clear hl1 hl2
 go_enter Tryz.func109,Tryz.ntmps109
 go_wp2_with fail
 refine (mulPlain_any a1 a2 l1 l2 0 0 c1 c2 w H1.out H2.out h1 h2 d1 d2 (qI _) (qI _) (by omega) (by omega)).mono ?_;rintro e w1 ⟨v,rfl,hn,he,hf⟩
 go_wp2_with fail
 go_ret
 exact ⟨v,rfl,hn,he,hf⟩
theorem mulWords_step (N:Nat) (ih:MulOK N) (a1 a2:Option Addr) (l1 l2:List Nat) (n1 n2 c1 c2:Nat) (w:World) (hl1:l1.length=n1) (hl2:l2.length=n2) (h1:Seg w a1 l1) (h2:Seg w a2 l2) (d1:Dig l1) (d2:Dig l2) (hc1:n1<=c1) (hc2:n2<=c2) (hm1:c1<=maxLen) (hm2:c2<=maxLen) (hN:n1+n2<=N+1) (hsz:N+1<=16777216) :
  Calls Tryz.prog 109 #[.slice a1 n1 c1,.slice a2 n2 c2] w fun e w'=>∃ v,e=.returned v/\Num w' v (val l1*val l2)/\Ext w w'/\Fresh w v:=by
 have H1:=hid hl1;have H2:=hid hl2;clear hl1 hl2
 by_cases hlt:n1<n2
 ·by_cases hsm:n1<40
  ·go_enter Tryz.func109,Tryz.ntmps109
   go_wp2_with fail
   refine (mulPlain_any a2 a1 l2 l1 n2 n1 c2 c1 w H2.out H1.out h2 h1 d2 d1 hc2 hc1 (by omega) (by omega)).mono ?_;rintro e w1 ⟨v,rfl,hn,he,hf⟩
   go_wp2_with fail
   go_ret
   exact ⟨v,rfl,hn.cast (jU _ _),he,hf⟩
  ·obtain ⟨k,hk⟩:∃ k,(n2+1) / 2=k:=⟨_,rfl⟩
   have hk1:2*k<=n2+1:=by omega
   have hk2:n2<=2*k:=by omega
   obtain ⟨r,rfl⟩:∃ r,n2=k+r:=⟨n2-k,by omega⟩
   have ek:((k:Int)+(r:Int)+1) / 2=(k:Int):=by omega
   clear hk
   by_cases hle:n1<=k
   ·have hle':(n1:Int)<=(k:Int):=by omega
    go_enter Tryz.func109,Tryz.ntmps109
    go_wp2_with fail
    refine (mulUneven_any N ih a2 a1 l2 l1 k r n1 c2 c1 w H2.out H1.out h2 h1 d2 d1 hc2 hc1 hm2 hm1 (by omega) (by omega) (by omega) (by omega)).mono ?_;rintro e w1 ⟨v,rfl,hn,he,hf⟩
    go_wp2_with fail
    go_ret
    exact ⟨v,rfl,hn.cast (jU _ _),he,hf⟩
   ·have hle':¬ (n1:Int)<=(k:Int):=by omega
    obtain ⟨r2,rfl⟩:∃ r2,n1=k+r2:=⟨n1-k,by omega⟩
    go_enter Tryz.func109,Tryz.ntmps109
    go_wp2_with fail
    refine (mulHalves_any N ih a2 a1 l2 l1 k r r2 c2 c1 w H2.out H1.out h2 h1 d2 d1 hc2 hc1 hm2 hm1 (by omega) (by omega) (by omega) (by omega) (by omega) (by omega)).mono ?_;rintro e w1 ⟨v,rfl,hn,he,hf⟩
    go_wp2_with fail
    go_ret
    exact ⟨v,rfl,hn.cast (jU _ _),he,hf⟩
 ·by_cases hsm:n2<40
  ·go_enter Tryz.func109,Tryz.ntmps109
   go_wp2_with fail
   refine (mulPlain_any a1 a2 l1 l2 n1 n2 c1 c2 w H1.out H2.out h1 h2 d1 d2 hc1 hc2 (by omega) (by omega)).mono ?_;rintro e w1 ⟨v,rfl,hn,he,hf⟩
   go_wp2_with fail
   go_ret
   exact ⟨v,rfl,hn,he,hf⟩
  ·obtain ⟨k,hk⟩:∃ k,(n1+1) / 2=k:=⟨_,rfl⟩
   have hk1:2*k<=n1+1:=by omega
   have hk2:n1<=2*k:=by omega
   obtain ⟨r,rfl⟩:∃ r,n1=k+r:=⟨n1-k,by omega⟩
   have ek:((k:Int)+(r:Int)+1) / 2=(k:Int):=by omega
   clear hk
   by_cases hle:n2<=k
   ·have hle':(n2:Int)<=(k:Int):=by omega
    go_enter Tryz.func109,Tryz.ntmps109
    go_wp2_with fail
    refine (mulUneven_any N ih a1 a2 l1 l2 k r n2 c1 c2 w H1.out H2.out h1 h2 d1 d2 hc1 hc2 hm1 hm2 (by omega) (by omega) (by omega) (by omega)).mono ?_;rintro e w1 ⟨v,rfl,hn,he,hf⟩
    go_wp2_with fail
    go_ret
    exact ⟨v,rfl,hn,he,hf⟩
   ·have hle':¬ (n2:Int)<=(k:Int):=by omega
    obtain ⟨r2,rfl⟩:∃ r2,n2=k+r2:=⟨n2-k,by omega⟩
    go_enter Tryz.func109,Tryz.ntmps109
    go_wp2_with fail
    refine (mulHalves_any N ih a1 a2 l1 l2 k r r2 c1 c2 w H1.out H2.out h1 h2 d1 d2 hc1 hc2 hm1 hm2 (by omega) (by omega) (by omega) (by omega) (by omega) (by omega)).mono ?_;rintro e w1 ⟨v,rfl,hn,he,hf⟩
    go_wp2_with fail
    go_ret
    exact ⟨v,rfl,hn,he,hf⟩
theorem mulOK_all (N:Nat):N<=16777216->MulOK N:=by
 induction N with
 | zero =>
  intro _ a1 a2 l1 l2 n1 n2 c1 c2 w hl1 hl2 h1 h2 d1 d2 hc1 hc2 hm1 hm2 hN;have H1:=hid hl1;have H2:=hid hl2
  obtain rfl:n1=0:=by omega
  obtain rfl:n2=0:=by omega
  clear hl1 hl2;exact mulWords_none a1 a2 l1 l2 c1 c2 w H1.out H2.out h1 h2 d1 d2
 | succ N ih =>
  intro hs a1 a2 l1 l2 n1 n2 c1 c2 w hl1 hl2 h1 h2 d1 d2 hc1 hc2 hm1 hm2 hN;exact mulWords_step N (ih (by omega)) a1 a2 l1 l2 n1 n2 c1 c2 w hl1 hl2 h1 h2 d1 d2 hc1 hc2 hm1 hm2 hN hs
theorem Fit.len {k:Nat} {z:Int} {l:List Nat} (hf:Fit k z) (hm:Nrm l) (hv:val l=z.natAbs):l.length<=k:=lt_len hm (by rw [hv];exact hf)
theorem addWords_from {w:World}:∀ (wx:World) (a1 a2:Option Addr) (l1 l2:List Nat) (n1 n2 c1 c2:Nat),Ext w wx->l1.length=n1->l2.length=n2->Seg wx a1 l1->Seg wx a2 l2->Dig l1->Dig l2->n1<=c1->n2<=c2->n1<=1073741824->n2<=1073741824 ->
  Calls Tryz.prog 139 #[.slice a1 n1 c1,.slice a2 n2 c2] wx fun e w'=>∃ (a':Option Addr) (l':List Nat) (n' c':Nat),e=.returned (.slice a' n' c')/\l'.length=n'/\n'<=c'/\c'<=maxLen/\Seg w' a' l'/\Dig l'/\Nrm l'/\Hid (val l'=val l1+val l2)/\Ext w w'/\Ext wx w' :=
 fun wx a1 a2 l1 l2 n1 n2 c1 c2 hx h1 h2 h3 h4 h5 h6 h7 h8 h9 h10=>(addWords_any a1 a2 l1 l2 n1 n2 c1 c2 wx h1 h2 h3 h4 h5 h6 h7 h8 h9 h10).mono fun _ _ ⟨v,k1,k2,k3⟩=>by
  obtain ⟨ao',l',n',c',rfl,e1,e2,e3,e4,e5,e6,e7⟩:=k2.named;exact ⟨ao',l',n',c',k1,e1,e2,e3,e4,e5,e6,e7,hx.trans k3,k3⟩
theorem subWords_from {w:World}:∀ (wx:World) (a1 a2:Option Addr) (l1 l2:List Nat) (n1 n2 c1 c2:Nat),Ext w wx->l1.length=n1->l2.length=n2->Seg wx a1 l1->Seg wx a2 l2->Dig l1->Dig l2->n1<=c1->n2<=c2->n1<=1073741824->n2<=n1->val l2<=val l1 ->
  Calls Tryz.prog 140 #[.slice a1 n1 c1,.slice a2 n2 c2] wx fun e w'=>∃ (a':Option Addr) (l':List Nat) (n' c':Nat),e=.returned (.slice a' n' c')/\l'.length=n'/\n'<=c'/\c'<=maxLen/\Seg w' a' l'/\Dig l'/\Nrm l'/\Hid (val l'=val l1-val l2)/\Ext w w'/\Ext wx w' :=
 fun wx a1 a2 l1 l2 n1 n2 c1 c2 hx h1 h2 h3 h4 h5 h6 h7 h8 h9 h10 h11=>(subWords_any a1 a2 l1 l2 n1 n2 c1 c2 wx h1 h2 h3 h4 h5 h6 h7 h8 h9 h10 h11).mono fun _ _ ⟨v,k1,k2,k3⟩=>by
  obtain ⟨ao',l',n',c',rfl,e1,e2,e3,e4,e5,e6,e7⟩:=k2.named;exact ⟨ao',l',n',c',k1,e1,e2,e3,e4,e5,e6,e7,hx.trans k3,k3⟩
theorem keep4' {w W w':World} {x y x2 y2:Value} (h:Ext W w') (hb:Boxes2 w W x y x2 y2):w'.cell? ⟨w.heap.size,0,none⟩=some x/\w'.cell? ⟨w.heap.size,1,none⟩=some y/\w'.cell? ⟨w.heap.size+1,0,none⟩=some x2/\w'.cell? ⟨w.heap.size+1,1,none⟩=some y2 :=
 keep4 h (by have:=hb.size;omega) hb.c0 hb.c1 hb.d0 hb.d1
theorem keep4s {w W w':World} {x y x2 y2:Value} (h:Ext W w') (hb:Boxes2 w W x y x2 y2) (u v:Value):((w'.setCell ⟨w.heap.size+1+1,0,none⟩ u).setCell ⟨w.heap.size+1+1,1,none⟩ v).cell? ⟨w.heap.size,0,none⟩=some x/\((w'.setCell ⟨w.heap.size+1+1,0,none⟩ u).setCell ⟨w.heap.size+1+1,1,none⟩ v).cell? ⟨w.heap.size,1,none⟩=some y/\((w'.setCell ⟨w.heap.size+1+1,0,none⟩ u).setCell ⟨w.heap.size+1+1,1,none⟩ v).cell? ⟨w.heap.size+1,0,none⟩=some x2/\((w'.setCell ⟨w.heap.size+1+1,0,none⟩ u).setCell ⟨w.heap.size+1+1,1,none⟩ v).cell? ⟨w.heap.size+1,1,none⟩=some y2:=by
 have hO:Only (w.heap.size+1+1) w' ((w'.setCell ⟨w.heap.size+1+1,0,none⟩ u).setCell ⟨w.heap.size+1+1,1,none⟩ v):=((Only.refl _ _).setCell _ _).setCell _ _;obtain ⟨k0,k1,k2,k3⟩:=keep4' h hb;exact ⟨(jR (a:=⟨w.heap.size,0,none⟩) (hO.block _ (by simp only;omega))).trans k0,(jR (a:=⟨w.heap.size,1,none⟩) (hO.block _ (by simp only;omega))).trans k1,(jR (a:=⟨w.heap.size+1,0,none⟩) (hO.block _ (by simp only;omega))).trans k2,(jR (a:=⟨w.heap.size+1,1,none⟩) (hO.block _ (by simp only;omega))).trans k3⟩
theorem addLong_any (s1 s2:Int) (a1 a2:Option Addr) (n1 c1 n2 c2:Nat) (z1 z2:Int) (w:World) (h1:IsInt w s1 a1 n1 c1 z1) (h2:IsInt w s2 a2 n2 c2 z2) (K:Nat) (hK:K<=4194304) (hf1:Fit K z1) (hf2:Fit K z2) :
  Calls Tryz.prog 110 #[.agg #[.int .i64 s1,.slice a1 n1 c1],.agg #[.int .i64 s2,.slice a2 n2 c2]] w fun e w'=>∃ (s':Int) (a':Option Addr) (n' c':Nat),e=.returned (.agg #[.int .i64 s',.slice a' n' c'])/\IsInt w' s' a' n' c' (z1+z2)/\Ext w w':=by
 have hs1:=hid h1.sign;have hs2:=hid h2.sign
 go_enter Tryz.func110,Tryz.ntmps110
 go_wp2_with fail
 have hbx:=boxes2 w (.int .i64 s1) (.slice a1 n1 c1) (.int .i64 s2) (.slice a2 n2 c2);generalize ((w.alloc (.cells #[.int .i64 s1,.slice a1 n1 c1] 54)).alloc (.cells #[.int .i64 s2,.slice a2 n2 c2] 54)).alloc (.cells #[.int .i64 0,.slice none 0 0] 54)=W0 at *;have Hw1:=hid (words_from (h1.ext hbx.ext));have Hw2:=hid (words_from (h2.ext hbx.ext));obtain ⟨b1,hb1⟩:∃ b,decide (s1<0)=b:=⟨_,rfl⟩;obtain ⟨b2,hb2⟩:∃ b,decide (s2<0)=b:=⟨_,rfl⟩;have hn1:=negative_from (w:=W0) s1 (.slice a1 n1 c1);have hn2:=negative_from (w:=W0) s2 (.slice a2 n2 c2);rw [hb1] at hn1;rw [hb2] at hn2;have Hn1:=hid hn1;have Hn2:=hid hn2;have Hb1:=hid hb1;have Hb2:=hid hb2;clear hn1 hn2 hb1 hb2;have hE0d:Ext W0 W0.drew:=qG (Ext.refl _)
 have hB:w.heap.size+1<W0.heap.size:=by have:=hbx.size;omega
 have c0:=hbx.c0;have c1':=hbx.c1;have d0:=hbx.d0;have d1:=hbx.d1
 go_region_held3 (fun w'=>w'.cell? ⟨w.heap.size,0,none⟩=some (.int .i64 s1)/\w'.cell? ⟨w.heap.size,1,none⟩=some (.slice a1 n1 c1)/\w'.cell? ⟨w.heap.size+1,0,none⟩=some (.int .i64 s2)/\w'.cell? ⟨w.heap.size+1,1,none⟩=some (.slice a2 n2 c2)) (first | exact keep4 (by assumption) hB c0 c1' d0 d1 | go_keep)
  (first | (go_at_call_of 104 s1;refine (Hw1.out _ (by assumption)).mono ?_;rintro e wa ⟨p1,l1,m1,e1,rfl,hl1,hm1,he1,hsg1,hd1,hr1,Hv1,hea,hxa⟩;have Hl1:=hid hl1;clear hl1) | (go_at_call_of 104 s2;refine (Hw2.out _ (by assumption)).mono ?_;rintro e wb ⟨p2,l2,m2,e2,rfl,hl2,hm2,he2,hsg2,hd2,hr2,Hv2,heb,hxb⟩;have Hl2:=hid hl2;clear hl2))
 have hsg1b:=hsg1.ext hxb;clear hsg1
 have hlen1:m1<=4194304:=by rw [<-Hl1.out];exact qL (hf1.len hr1 Hv1.out) hK
 have hlen2:m2<=4194304:=by rw [<-Hl2.out];exact qL (hf2.len hr2 Hv2.out) hK
 clear hf1 hf2 hK
 go_wp2_with fail
 have heb':Ext W0 wb.drew:=qG heb;have hsg1d:Seg wb.drew p1 l1:=hsg1b;have hsg2d:Seg wb.drew p2 l2:=hsg2
 go_region_held3 (fun w'=>w'.cell? ⟨w.heap.size,0,none⟩=some (.int .i64 s1)/\w'.cell? ⟨w.heap.size,1,none⟩=some (.slice a1 n1 c1)/\w'.cell? ⟨w.heap.size+1,0,none⟩=some (.int .i64 s2)/\w'.cell? ⟨w.heap.size+1,1,none⟩=some (.slice a2 n2 c2)) (first | exact keep4 (by assumption) hB c0 c1' d0 d1 | go_keep)
  (first | (go_at_call_of 102 s1;refine (Hn1.out _ (by assumption)).mono ?_;rintro e wc ⟨rfl,hec,hxc⟩) | (go_at_call_of 102 s2;refine (Hn2.out _ (by assumption)).mono ?_;rintro e wd ⟨rfl,hed,hxd⟩))
 have hsg1e:=(hsg1d.ext hxc).ext hxd;have hsg2e:=(hsg2d.ext hxc).ext hxd;have hkc:=keep4 hed hB c0 c1' d0 d1;obtain ⟨y0,y1,y2,y3⟩:=hkc;clear hsg1b hsg2 hsg1d hsg2d hxa hxb hxc hxd heb' hea heb hec hE0d c0 c1' d0 d1;have hres:=hbx.res.ext hed;have hsz1:val l1=z1.natAbs:=Hv1.out;have hsz2:val l2=z2.natAbs:=Hv2.out
 have Hz1:Hid (z1=sgn b1 (val l1)):=by
  show _=_
  have h5:=hs1.out.1;have h6:=Hb1.out;rw [hsz1]
  cases b1
  ·have:¬ z1<0:=fun k=>by have:=h5.2 k;simp at h6;omega
   simp [sgn];omega
  ·have:z1<0:=h5.1 (by simpa using h6)
   simp [sgn];omega
 have Hz2:Hid (z2=sgn b2 (val l2)):=by
  show _=_
  have h5:=hs2.out.1;have h6:=Hb2.out;rw [hsz2]
  cases b2
  ·have:¬ z2<0:=fun k=>by have:=h5.2 k;simp at h6;omega
   simp [sgn];omega
  ·have:z2<0:=h5.1 (by simpa using h6)
   simp [sgn];omega
 clear hsz1 hsz2
 by_cases hbb:b1=b2
 ·subst hbb
  have hbt:(b1 == b1)=true:=by simp
  rw [hbt];clear hbt
  go_wp2_with fail
  refine (Hn1.out _ hed).mono ?_;rintro e we ⟨rfl,hee,hxe⟩
  go_wp2_with fail
  refine (addWords_from (w:=W0) we p1 p2 l1 l2 m1 m2 e1 e2 hee Hl1.out Hl2.out (hsg1e.ext hxe) (hsg2e.ext hxe) hd1 hd2 hm1 hm2 (by omega) (by omega)).mono ?_;rintro e wf ⟨p3,l3,m3,e3,rfl,hl3,hm3,he3,hsg3,hd3,hr3,Hv3,hef,hxf⟩;have Hl3:=hid hl3;clear hl3
  go_wp2_with fail
  refine (fromWords_from (w:=W0) b1 wf p3 l3 m3 e3 hef Hl3.out hsg3 hd3 hm3 he3).mono ?_;rintro e wg ⟨s4,a4,n4,c4,rfl,hI4,heg,hxg⟩;have hr4:=hbx.res.ext heg;have k0:=hr4.c0;have k1:=hr4.c1;have g0:=hr4.f0;have g1:=hr4.f1
  go_wp2_with fail
  have hv4:sgn b1 (val l3)=z1+z2:=by
   rw [Hv3.out,Hz1.out,Hz2.out]
   cases b1<;>simp [sgn]<;>omega
  exact qJ (v:=.agg #[.int .i64 s4,.slice a4 n4 c4]) (by simp [results,Tryz.results110,go_sem,k0,k1]) rfl ⟨s4,a4,n4,c4,rfl,(hI4.cast hv4).setRes hr4.row _ _,(hbx.ext.trans heg).setRes (by omega) _ _⟩
 ·have hb2e:b2=!b1:=by cases b1<;>cases b2<;>simp_all
  subst hb2e;clear hbb
  have hbt:(b1 == !b1)=false:=by cases b1<;>rfl
  rw [hbt];clear hbt;obtain ⟨cv,hcv⟩:∃ cv,cmp3 (val l1) (val l2)=cv:=⟨_,rfl⟩;have Hcv:=hid hcv
  by_cases hlt:val l1<val l2
  ·have hneg:cv<0:=by rw [<-hcv,cmp3_lt (by omega)];omega
   have hlen:m1<=m2:=by rw [<-Hl1.out,<-Hl2.out];exact hr1.len_le hd2 (Nat.le_of_lt hlt)
   have Hlt:=hid hlt;clear hcv hlt
   go_wp2_with fail
   refine (compareWords_any p1 p2 l1 l2 m1 m2 e1 e2 wd Hl1.out Hl2.out hsg1e hsg2e hd1 hd2 hr1 hr2 hm1 hm2 (by omega) (by omega)).mono ?_;rintro e we ⟨rfl,hxe⟩;rw [Hcv.out];have hee:=hed.trans hxe;have hkc:=keep4' hee hbx;obtain ⟨x0,x1,x2,x3⟩:=hkc
   go_wp2_with fail
   refine (Hn2.out _ hee).mono ?_;rintro e wf ⟨rfl,hef,hxf⟩
   go_wp2_with fail
   refine (subWords_from (w:=W0) wf p2 p1 l2 l1 m2 m1 e2 e1 hef Hl2.out Hl1.out ((hsg2e.ext hxe).ext hxf) ((hsg1e.ext hxe).ext hxf) hd2 hd1 hm2 hm1 (by omega) hlen (Nat.le_of_lt Hlt.out)).mono ?_;rintro e wg ⟨p3,l3,m3,e3,rfl,hl3,hm3,he3,hsg3,hd3,hr3,Hv3,heg,hxg⟩;have Hl3:=hid hl3;clear hl3
   go_wp2_with fail
   refine (fromWords_from (w:=W0) (!b1) wg p3 l3 m3 e3 heg Hl3.out hsg3 hd3 hm3 he3).mono ?_;rintro e wh ⟨s4,a4,n4,c4,rfl,hI4,heh,hxh⟩;have hr4:=hbx.res.ext heh;have k0:=hr4.c0;have k1:=hr4.c1;have g0:=hr4.f0;have g1:=hr4.f1
   go_wp2_with fail
   have hv4:sgn (!b1) (val l3)=z1+z2:=by
    have h7:=Hlt.out;rw [Hv3.out,Hz1.out,Hz2.out]
    cases b1<;>simp [sgn]<;>omega
   exact qJ (v:=.agg #[.int .i64 s4,.slice a4 n4 c4]) (by simp [results,Tryz.results110,go_sem,k0,k1]) rfl ⟨s4,a4,n4,c4,rfl,(hI4.cast hv4).setRes hr4.row _ _,(hbx.ext.trans heh).setRes (by omega) _ _⟩
  ·have hneg:¬ cv<0:=by
    rw [<-hcv];unfold cmp3;rw [qE (by omega)];split<;>omega
   have hlen:m2<=m1:=by rw [<-Hl1.out,<-Hl2.out];exact hr2.len_le hd1 (yP hlt)
   have Hle:Hid (val l2<=val l1):=yP hlt;clear hcv hlt
   go_wp2_with fail
   refine (compareWords_any p1 p2 l1 l2 m1 m2 e1 e2 wd Hl1.out Hl2.out hsg1e hsg2e hd1 hd2 hr1 hr2 hm1 hm2 (by omega) (by omega)).mono ?_;rintro e we ⟨rfl,hxe⟩;rw [Hcv.out];have hee:=hed.trans hxe;have hkc:=keep4' hee hbx;obtain ⟨x0,x1,x2,x3⟩:=hkc
   go_wp2_with fail
   refine (Hn1.out _ hee).mono ?_;rintro e wf ⟨rfl,hef,hxf⟩
   go_wp2_with fail
   refine (subWords_from (w:=W0) wf p1 p2 l1 l2 m1 m2 e1 e2 hef Hl1.out Hl2.out ((hsg1e.ext hxe).ext hxf) ((hsg2e.ext hxe).ext hxf) hd1 hd2 hm1 hm2 (by omega) hlen Hle.out).mono ?_;rintro e wg ⟨p3,l3,m3,e3,rfl,hl3,hm3,he3,hsg3,hd3,hr3,Hv3,heg,hxg⟩;have Hl3:=hid hl3;clear hl3
   go_wp2_with fail
   refine (fromWords_from (w:=W0) b1 wg p3 l3 m3 e3 heg Hl3.out hsg3 hd3 hm3 he3).mono ?_;rintro e wh ⟨s4,a4,n4,c4,rfl,hI4,heh,hxh⟩;have hr4:=hbx.res.ext heh;have k0:=hr4.c0;have k1:=hr4.c1;have g0:=hr4.f0;have g1:=hr4.f1
   go_wp2_with fail
   have hv4:sgn b1 (val l3)=z1+z2:=by
    have h7:=Hle.out;rw [Hv3.out,Hz1.out,Hz2.out]
    cases b1<;>simp [sgn]<;>omega
   exact qJ (v:=.agg #[.int .i64 s4,.slice a4 n4 c4]) (by simp [results,Tryz.results110,go_sem,k0,k1]) rfl ⟨s4,a4,n4,c4,rfl,(hI4.cast hv4).setRes hr4.row _ _,(hbx.ext.trans heh).setRes (by omega) _ _⟩
end Go.Proofs.YtjfomkoedgipjaaGreatDoor
