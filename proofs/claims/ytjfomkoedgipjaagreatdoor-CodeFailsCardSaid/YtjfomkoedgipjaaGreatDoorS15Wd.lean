/-
  The program: all errors, for every loop's body (errors and its closure); the first of which something holds (first). The program's map of mends: of each syndrome the first error that shows it. A round of a range over a function is walked as plain code is: what a region comes to in a plain frame it comes to in a round's, if no operation of it defers. The program: the map of mends.
-/
import Derived.Maps.OwnIn
import Derived.OrdersIn
import Derived.RangeFuncFrom
import Derived.Test.YtjfomkoedgipjaaGreatDoorS14Aa
namespace Go.Proofs.YtjfomkoedgipjaaGreatDoor
set_option maxRecDepth 100000
set_option maxHeartbeats 8000000
open Go.RowKit
open Go.RowKit Go.Shelf
attribute [local go_sem] Oper.semAt_some
theorem abide_ext {J:List PK->World->Prop} {B:Nat} (h:AbidesFrom B J):∀ s W W',J s W->Ext W W'->J s W' :=
 fun s W W' hs hx=>h s W W' none hs ⟨hx.os,hx.tape,hx.output,hx.size,fun k hk _=>hx.block k hk⟩ (fun r e=>by cases e)
theorem abide_extX {α:Type} {J:List α->World->Prop} {B:Nat} (h:AbidesFrom B J):∀ s W W',J s W->Ext W W'->J s W' :=
 fun s W W' hs hx=>h s W W' none hs ⟨hx.os,hx.tape,hx.output,hx.size,fun k hk _=>hx.block k hk⟩ (fun r e=>by cases e)
theorem errors1_in (l n Bf ng c:Nat) (hn:n<=12) (ao:Option Addr) (mp:Option Nat) (J Jx:List PK->World->Prop) (hJ:∀ s W W',J s W->Ext W W'->J s W')
  (hY:∀ m pre x W,J pre W->pre++[x] <+: errP n->YieldAt Fence.wide m Tryz.prog l #[pvK x] W (RndR J Jx pre x W))
  (W:World) (hL:LtL W) (hF:FrB W Bf n ao ng c mp) (h0:J [] W) :
  Calls Tryz.prog 111 #[.func (.yield l) #[] #[],.pointer (some ⟨Bf,0,none⟩)] W fun e W'=>(∃ v,e=.returned v)/\((∃ xs,xs=errP n/\J xs W')\/(∃ pre,pre <+: errP n/\Jx pre W')):=by
 have HL:=Lh hL;have HF:=Lh hF;have H0:=Lh h0;have HJ:=Lh hJ;have HS:=Lh (fun (i:Nat) (hi:i<=n) (wr:World) (hL:LtL wr) (pre:List PK) (hj:J pre wr) (hM:pre++spP n 0 (PK.of 0 0) i <+: errP n)=>spread_any l (errP n) J Jx hJ hY n hn ao ng c mp n 0 (by omega) i (PK.of 0 0) pre wr hL hj (by decide) (by decide) hi hM);have k0:=hF.x0;have Hn:=Lh hn
 have wk0:IntKind.i64.wrap ((n:Int)+1)=((n+1:Nat):Int):=by rw [qH];omega
 clear hL hF h0 hJ hY hn
 go_enter Tryz.func111,Tryz.ntmps111
 go_wp2_with fail
 clear k0 wk0
 go_loopg [7] (n+1) (fun kk s7 wr=>∃ i:Nat,s7=.int .i64 (i:Int)/\i<=n+1/\n+1-i=kk/\J ((List.range i).flatMap (spP n 0 (PK.of 0 0))) wr/\KpC W wr)
 case atStart=>exact ⟨0,rfl,qI _,rfl,H0.out,KpC.refl _⟩
 case round =>
  obtain ⟨i,rfl,hi,hkk,hj,hk⟩:=hrel;have Hkk:=Lh hkk;have Hj:=Lh hj;have Hk:=Lh hk
  by_cases hin:i=n+1
  ·have q1:¬ (i:Int)<((n+1:Nat):Int):=by omega
   subst hin;clear hkk hi hj hk
   go_wp2_with fail
   go_end0
   exact ⟨⟨_,rfl⟩,qM Hj.out⟩
  have hlt:i<=n:=by omega
  have q1:(i:Int)<((n+1:Nat):Int):=by omega
  have wk:IntKind.i64.wrap ((i:Int)+1)=((i+1:Nat):Int):=by rw [qH];have:=Hn.out;omega
  have fr:=hk.fr HF.out;have k0:=fr.x0;have k1:=fr.x1;have k2:=fr.x2
  have hsub:((List.range i).flatMap (spP n 0 (PK.of 0 0)))++spP n 0 (PK.of 0 0) i=(List.range (i+1)).flatMap (spP n 0 (PK.of 0 0)):=by rw [List.range_succ,List.flatMap_append];simp
  have hpre:(List.range (i+1)).flatMap (spP n 0 (PK.of 0 0)) <+: errP n:=by
   unfold errP;obtain ⟨d,hd⟩:∃ d,n+1=i+1+d:=⟨n-i,by omega⟩
   have hr:List.range (n+1)=List.range (i+1)++(List.range d).map (fun x=>i+1+x):=by rw [hd,List.range_add]
   rw [hr,List.flatMap_append];exact List.prefix_append _ _
  have hc:Calls Tryz.prog 112 #[.agg #[.int .i64 (n:Int),.slice ao ng c,.map mp],.agg #[.int .u16 0,.int .u16 0,.bool false],.int .i64 0,.int .i64 (i:Int),.func (.yield l) #[] #[]] wr (SprR J Jx ((List.range i).flatMap (spP n 0 (PK.of 0 0))) (spP n 0 (PK.of 0 0) i) wr) :=
   HS.out i hlt wr (hk.lt HL.out) _ hj (by rw [hsub];exact hpre)
  have HC:=Lh hc;clear hc;have Hsub:=Lh hsub;have Hpre:=Lh hpre;have Hlt:=Lh hlt;clear hkk hi hj hk fr hin hsub hpre hlt
  go_wp2_with fail
  refine HC.out.mono ?_;rintro e w1 (⟨rfl,hj1,hk1⟩ | ⟨rfl,q,hq,hx⟩)
  ·have Hj1:=Lh hj1;have Hk1:=Lh (Hk.out.trans hk1)
   clear hj1 hk1 HC k0 k1 k2
   go_wp2_with fail
   go_roundg (n+1-(i+1))
   case measure=>have:=Hkk.out;have:=Hlt.out;omega
   case rel=>exact ⟨i+1,rfl,by have:=Hlt.out;omega,rfl,by rw [<-Hsub.out];exact Hj1.out,Hk1.out⟩
  ·have Hx:=Lh hx;have Hq:=Lh hq
   clear hx hq HC k0 k1 k2
   go_wp2_with fail
   refine qJ (results_none rfl _ _ _) rfl ?_
   exact ⟨⟨_,rfl⟩,qO ⟨_,by
    refine List.IsPrefix.trans ?_ Hpre.out;rw [<-Hsub.out]
    exact (List.prefix_append_right_inj _).2 Hq.out,Hx.out⟩⟩
theorem errors_stops (m n Bf ng c:Nat) (hn:n<=12) (ao:Option Addr) (mp:Option Nat) (w:World) (hL:LtL w) (hF:FrB w Bf n ao ng c mp) :
  SeqStopsK Fence.wide m Tryz.prog 111 #[.pointer (some ⟨Bf,0,none⟩)] (fun x:PK=>#[pvK x]) KpC (fun xs=>xs=errP n) (fun pre=>pre <+: errP n) (errP n).length w:=fun l J Jx W hW hJ _ hY h0 =>
 callsIn_wide.2 (errors1_in l n Bf ng c hn ao mp J Jx (abide_ext hJ) (fun m' pre x W1 hj hl=>anyDepthC m' (hY pre x W1 hj (by have:=hl.length_le;rw [qT,List.length_singleton] at this;omega))) W (hL.ext hW) (hF.ext hW) h0)
structure ErX (n:Nat) where
 p:PK
 mem:p ∈ errP n
theorem errorsX_stops (m n Bf ng c:Nat) (hn:n<=12) (ao:Option Addr) (mp:Option Nat) (w:World) (hL:LtL w) (hF:FrB w Bf n ao ng c mp) :
  SeqStopsK Fence.wide m Tryz.prog 111 #[.pointer (some ⟨Bf,0,none⟩)] (fun x:ErX n=>#[pvK x.p]) KpC (fun xs=>xs.map ErX.p=errP n) (fun pre=>pre.map ErX.p <+: errP n) (errP n).length w:=fun l J Jx W hW hJ hJx hY h0=>by
 refine callsIn_wide.2 ((errors1_in l n Bf ng c hn ao mp (fun pre W=>∃ xs:List (ErX n),xs.map ErX.p=pre/\J xs W) (fun pre W=>∃ xs:List (ErX n),xs.map ErX.p=pre/\Jx xs W) (fun s W1 W2 ⟨xs,h1,h2⟩ hx=>⟨xs,h1,abide_extX hJ xs W1 W2 h2 hx⟩) (fun m' pre x W1 hj hl=>?_) W (hL.ext hW) (hF.ext hW) ⟨[],rfl,h0⟩).mono ?_)
 ·obtain ⟨xs,rfl,hj⟩:=hj
  have hx:x ∈ errP n:=hl.subset (by simp)
  have hlt:xs.length<(errP n).length:=by have:=hl.length_le;rw [qT,List.length_singleton,jY] at this;omega
  obtain ⟨fn,tmps,assign,body,hy,hR⟩:=anyDepthC m' (hY xs ⟨x,hx⟩ W1 hj hlt);refine ⟨fn,tmps,assign,body,hy,hR.mono ?_⟩;rintro e W2 (⟨rfl,h1,h2⟩ | ⟨rfl,h1⟩)
  ·exact qM ⟨rfl,⟨xs++[⟨x,hx⟩],by rw [yJ];rfl,h1⟩,h2⟩
  ·exact qO ⟨rfl,⟨xs++[⟨x,hx⟩],by rw [yJ];rfl,h1⟩⟩
 ·rintro e W2 ⟨he,⟨_,rfl,xs,h1,h2⟩ | ⟨_,hp,xs,rfl,h2⟩⟩
  ·exact ⟨he,qM ⟨xs,h1,h2⟩⟩
  ·exact ⟨he,qO ⟨xs,hp,h2⟩⟩
theorem errors_any (N:Int) (a:Option Addr) (n c:Nat) (mp:Option Nat) (w:World):Calls Tryz.prog 65 #[.agg #[.int .i64 N,.slice a n c,.map mp]] w fun e w'=>e=.returned (.func (.func 111) #[] #[.pointer (some ⟨w.heap.size,0,none⟩)])/\w'=w.alloc (.cells #[.int .i64 N,.slice a n c,.map mp] 49):=by
 go_enter Tryz.func65,Tryz.ntmps65
 go_wp2_with fail
 go_ret
 exact ⟨rfl,rfl⟩
theorem cells_own {β:Type} (k:Nat) (c:Array Value) (t:TypeId) (f:Nat × Nat):Own (fun (_:β) W=>W.heap[k]?=some (.cells c t f)):=by
 intro s A B row hs hg hr;refine (hg.block k (gS.1 hs).1 (fun e=>?_)).trans hs;obtain ⟨o,ho,hc⟩:=hr k e.symm;rw [hs] at ho
 cases ho
 cases hc
theorem ext_keepsOthers {w w':World} (h:Ext w w'):KeepsOthers w w' :=
 KeepsOthers.of_grownBy (row:=none) ⟨h.os,h.tape,h.output,h.size,fun k hk _=>h.block k hk⟩ (fun r o e=>by cases e)
def fstP (h:PK->Bool) (n:Nat):PK:=((errP n).find? h).getD (PK.of 0 0)
theorem fstP_none {h:PK->Bool} {n:Nat} (hn:∀ p ∈ errP n,h p=false):fstP h n=PK.of 0 0:=by
 unfold fstP;rw [List.find?_eq_none.2 fun p hp=>by rw [hn p hp];decide]
 rfl
theorem fstP_some {h:PK->Bool} {n:Nat} {pre:List PK} {x:PK} (hp:pre++[x] <+: errP n) (hpre:∀ p ∈ pre,h p=false) (hx:h x=true):fstP h n=x:=by
 obtain ⟨r,hr⟩:=hp;unfold fstP;rw [<-hr,yK,List.find?_append,List.find?_eq_none.2 fun p hp=>by rw [hpre p hp];decide];rw [List.singleton_append,List.find?_cons,hx]
 rfl
theorem first_any (F:FuncId) (caps:Array Value) (hB:PK->Bool) (n ng c:Nat) (hn:n<=12) (ao:Option Addr) (mp:Option Nat) (w:World) (hL:LtL w) (hEnt:∀ (args:Array Value) (wx:World),(callFunc F args).run Tryz.prog wx=.ok (.enter F args) wx)
  (hbody:∀ (p:PK) wx,Ext w wx->Calls Tryz.prog F (#[.agg #[.int .u16 (p.x:Int),.int .u16 (p.z:Int),.bool p.m]]++caps) wx fun e w'=>e=.returned (.bool (hB p))/\Ext wx w') :
  Calls Tryz.prog 77 #[.agg #[.int .i64 (n:Int),.slice ao ng c,.map mp],.func (.func F) #[] caps] w fun e w'=>e=.returned (pvK (fstP hB n))/\Ext w w':=by
 refine (callsIn_wide (n:=5)).1 ?_;refine callsIn_of_wp_marks Tryz.func77 rfl trivial ?_ rfl;simp only [Tryz.ntmps77,List.size_toArray,jB,List.length_nil,Nat.reduceAdd,Nat.reduceSub,Array.replicate_succ,Array.replicate_zero,List.push_toArray,List.append_toArray,List.nil_append,List.cons_append];refine wpIn_wide.2 ?_;obtain ⟨H,hH⟩:∃ H,w.heap.size=H:=⟨_,rfl⟩;obtain ⟨W0,hW0⟩:∃ W0,((w.alloc (.cells #[.int .i64 (n:Int),.slice ao ng c,.map mp] 49)).alloc (.cells #[.func (.func F) #[] caps] 116)).alloc (.cells #[.int .u16 0,.int .u16 0,.bool false] 94)=W0:=⟨_,rfl⟩
 have E0:Ext w W0:=by rw [<-hW0];exact ((ext_al w _).trans (ext_al _ _)).trans (ext_al _ _)
 have R0:FrB W0 H n ao ng c mp:=by rw [<-hW0,<-hH];exact ((FrB.new _ _ _ _ _ _).ext (ext_al _ _)).ext (ext_al _ _)
 have HE0:=Lh E0;have HW0:=Lh hW0;have HH:=Lh hH;have HR:=Lh R0;have k0:=R0.x0;have k1:=R0.x1;have k2:=R0.x2;have HE:=Lh (errors_any n ao ng c mp W0);clear E0 R0 hW0 hH
 go_upto_region 1 with fail
 rw [HW0.out,HH.out]
 go_wp2_with fail
 refine HE.out.mono ?_;rintro e U ⟨rfl,hU⟩
 have EU:Ext W0 U:=by rw [hU];exact ext_al _ _
 obtain ⟨G,hG⟩:∃ G,W0.heap.size=G:=⟨_,rfl⟩
 have FU:FrB U G n ao ng c mp:=by rw [hU,<-hG];exact FrB.new _ _ _ _ _ _
 have hb1:W0.heap[H+1]?=some (.cells #[.func (.func F) #[] caps] 116 (0,0)):=by
  rw [<-HW0.out];refine ((ext_al _ _).block _ (by simp [HH.out])).trans ?_;have:=qW (w.alloc (.cells #[.int .i64 (n:Int),.slice ao ng c,.map mp] 49)) (.cells #[.func (.func F) #[] caps] 116)
  rwa [yO,HH.out] at this
 have hb2:W0.heap[H+1+1]?=some (.cells #[.int .u16 0,.int .u16 0,.bool false] 94 (0,0)):=by
  rw [<-HW0.out];have:=qW ((w.alloc (.cells #[.int .i64 (n:Int),.slice ao ng c,.map mp] 49)).alloc (.cells #[.func (.func F) #[] caps] 116)) (.cells #[.int .u16 0,.int .u16 0,.bool false] 94)
  rwa [yO,yO,HH.out] at this
 have sG:H+2<G:=by rw [<-hG];exact (gS.1 hb2).1
 have sU:U.heap.size=G+1:=by rw [hU,<-hG];simp
 have r1:=(EU.block _ (by omega)).trans hb1;have r2:=(EU.block _ (by omega)).trans hb2;have eU:Ext w U:=HE0.out.trans EU;have LU:LtL U:=hL.ext eU;rw [hG];clear hU HE k0 k1 k2 hb1 hb2 HW0
 go_wp2_with fail
 refine wpIn_wide.1 (wpIn_rangeFunc_ownH (n:=5) (F:=Fence.wide) rfl (by omega) (gf:=111) (lb:=#[.pointer (some ⟨G,0,none⟩)]) rfl trivial (enters_of Tryz.func111 (by kernel_rfl) rfl)
  (errors_stops 4 n G ng c hn ao mp U LU FU) KpC.trans kpC_b (Below.refl _ _) (fun _=>rfl)
  (fun pre W=>(W.heap[H+1]?=some (.cells #[.func (.func F) #[] caps] 116 (0,0))/\W.heap[H+1+1]?=some (.cells #[.int .u16 0,.int .u16 0,.bool false] 94 (0,0))/\∀ p ∈ pre,hB p=false)/\Below w.heap.size w W)
  (fun cd pre W=>(cd=.ret/\∃ pr x,pre=pr++[x]/\(∀ p ∈ pr,hB p=false)/\hB x=true/\W.heap[H+1+1]?=some (.cells #[.int .u16 (x.x:Int),.int .u16 (x.z:Int),.bool x.m] 94 (0,0)))/\Below w.heap.size w W)
  (OwnFrom.and (Own.from (fun s A B row hs hg hr=>⟨cells_own _ _ _ _ s A B row hs.1 hg hr,cells_own _ _ _ _ s A B row hs.2.1 hg hr,hs.2.2⟩) _) (ownFrom_below (qZ _) eU.size))
  (fun cd=>OwnFrom.and (Own.from (fun s A B row hs hg hr=>by
   obtain ⟨h1,pr,x,h2,h3,h4,h5⟩:=hs
   exact ⟨h1,pr,x,h2,h3,h4,cells_own _ _ _ _ s A B row h5 hg hr⟩) _) (ownFrom_below (qZ _) eU.size))
  ⟨⟨r1,r2,fun p hp=>by cases hp⟩,eU⟩
  (fun x a' W=>∃ Bx,W.heap[Bx]?=some (.cells #[.int .u16 (x.x:Int),.int .u16 (x.z:Int),.bool x.m] 94 (0,0))/\a'={ tmps:=#[.agg #[.int .i64 (n:Int),.slice ao ng c,.map mp],.func (.func F) #[] caps,.pointer (some ⟨H,0,none⟩),.pointer (some ⟨H+1,0,none⟩),.pointer (some ⟨H+1+1,0,none⟩),.pointer (some ⟨Bx,0,none⟩),.agg #[.int .i64 (n:Int),.slice ao ng c,.map mp],.func (.func 111) #[] #[.pointer (some ⟨G,0,none⟩)],pvK x,undef,undef,undef,undef,undef],defers:=[] })
  ?own ?assign ?body ?done ?stop)
 case own =>
  rintro x a' _ W W' row ⟨Bx,h1,h2⟩ hg hr;refine ⟨Bx,(hg.block Bx (gS.1 h1).1 (fun e=>?_)).trans h1,h2⟩;obtain ⟨_,o,ho,hc⟩:=hr Bx e.symm;rw [h1] at ho
  cases ho
  cases hc
 case assign =>
  rintro l pre x W K ⟨⟨i1,i2,i3⟩,hB'⟩ hK;have hpx:pvK x=.agg #[.int .u16 (x.x:Int),.int .u16 (x.z:Int),.bool x.m]:=rfl;rw [hpx];have Hi3:=Lh i3;clear i3
  gi_wp2
  have ea:=ext_al W (.cells #[.int .u16 (x.x:Int),.int .u16 (x.z:Int),.bool x.m] 94);exact hK _ _ ((KeepsOthers.alloc W _).from _) (KpC.of_ext ea) ⟨⟨(ea.block _ (gS.1 i1).1).trans i1,(ea.block _ (gS.1 i2).1).trans i2,Hi3.out⟩,hB'.trans (ea.mono hB'.size)⟩ ⟨W.heap.size,qW W _,rfl⟩
 case body =>
  rintro l pre x a' W hl ⟨r,hr⟩ ⟨⟨i1,i2,i3⟩,hB'⟩ ⟨Bx,hx,rfl⟩ hlt
  have f0:W.cell? ⟨H+1,0,none⟩=some (.func (.func F) #[] caps):=by rw [qD W _ 0 _ _ (0,0) i1];rfl
  have k0:W.cell? ⟨Bx,0,none⟩=some (.int .u16 (x.x:Int)):=by rw [qD W _ 0 _ _ (0,0) hx];rfl
  have k1:W.cell? ⟨Bx,1,none⟩=some (.int .u16 (x.z:Int)):=by rw [qD W _ 1 _ _ (0,0) hx];rfl
  have k2:W.cell? ⟨Bx,2,none⟩=some (.bool x.m):=by rw [qD W _ 2 _ _ (0,0) hx];rfl
  have HC:=Lh (CallsIn.inRound l (callsIn_wide (n:=5-1-1-1).2 (hbody x W hB')));have HEnt:=Lh hEnt;have Hi:=Lh (jN i1 (jN i2 i3));have HB2:=Lh hB';have Hx:=Lh hx;have Hr:=Lh hr;have Hl:=Lh hl;clear hEnt hbody i1 i2 i3 hx hr hlt FU r1 r2 LU EU hl hL
  gi_wp2
  refine ⟨trivial,?_⟩;rw [HEnt.out,Oper.uponIn_enter];refine ⟨fun h=>(by cases h),?_⟩;refine HC.out.mono ?_;rintro e w1 ⟨rfl,h1⟩;have H1:=Lh h1;have m0:=cell_ext k0 h1;have m1:=cell_ext k1 h1;have m2:=cell_ext k2 h1;have j2:=(h1.block _ (gS.1 Hi.out.2.1).1).trans Hi.out.2.1;have j1:=(h1.block _ (gS.1 Hi.out.1).1).trans Hi.out.1
  have z0:w1.cell? ⟨H+1+1,0,none⟩=some (.int .u16 0):=by rw [qD w1 _ 0 _ _ (0,0) j2];rfl
  have z1:w1.cell? ⟨H+1+1,1,none⟩=some (.int .u16 0):=by rw [qD w1 _ 1 _ _ (0,0) j2];rfl
  have z2:w1.cell? ⟨H+1+1,2,none⟩=some (.bool false):=by rw [qD w1 _ 2 _ _ (0,0) j2];rfl
  have g0:=jQ w1 (H+1+1) 0 _ _ j2;have g1:=jQ w1 (H+1+1) 1 _ _ j2;have g2:=jQ w1 (H+1+1) 2 _ _ j2;have Hr3:=Lh (row3 j2 (.int .u16 (x.x:Int)) (.int .u16 (x.z:Int)) (.bool x.m));have Hj:=Lh (jN j1 j2);clear h1 f0 k0 k1 k2 j1 j2 HC HEnt;obtain ⟨B,hBx⟩:∃ B,hB x=B:=⟨_,rfl⟩;rw [hBx];have HBx:=Lh hBx;clear hBx
  cases B
  ·clear m0 m1 m2 z0 z1 z2 g0 g1 g2
   gi_wp2
   refine ⟨(ext_keepsOthers H1.out).from _,KpC.of_ext H1.out,⟨Hj.out.1,Hj.out.2,fun p hp=>?_⟩,HB2.out.trans (H1.out.mono HB2.out.size)⟩
   rcases jI.1 hp with hp | hp
   ·exact Hi.out.2.2 p hp
   ·have:p=x:=by simpa using hp
    rw [this];exact HBx.out
  ·gi_wp2
   have hle:w.heap.size<=H+1+1:=by have:=HH.out;omega
   refine ⟨?_,⟨rfl,pre,x,rfl,Hi.out.2.2,HBx.out,Hr3.out⟩,put3x (HB2.out.trans (H1.out.mono HB2.out.size)) hle _ _ _⟩;exact ((ext_keepsOthers H1.out).trans ((KeepsOthers.setCell _ _ _).trans ((KeepsOthers.setCell _ _ _).trans (KeepsOthers.setCell _ _ _)))).from _
 case done =>
  rintro D ys W hD hS ⟨⟨i1,i2,i3⟩,hB'⟩ hK;have Hfst:=Lh (show fstP hB n=PK.of 0 0 from fstP_none (by rw [<-show ys=errP n from hS];exact i3))
  have z0:W.cell? ⟨H+1+1,0,none⟩=some (.int .u16 0):=by rw [qD W _ 0 _ _ (0,0) i2];rfl
  have z1:W.cell? ⟨H+1+1,1,none⟩=some (.int .u16 0):=by rw [qD W _ 1 _ _ (0,0) i2];rfl
  have z2:W.cell? ⟨H+1+1,2,none⟩=some (.bool false):=by rw [qD W _ 2 _ _ (0,0) i2];rfl
  have g0:=jQ W (H+1+1) 0 _ _ i2;have g1:=jQ W (H+1+1) 1 _ _ i2;have g2:=jQ W (H+1+1) 2 _ _ i2;have Hr3:=Lh (row3 i2 (.int .u16 0) (.int .u16 0) (.bool false));have HE3:=Lh (put3x hB' (show w.heap.size<=H+1+1 by have:=HH.out;omega) (.int .u16 0) (.int .u16 0) (.bool false));have Hne:=Lh (show D≠H+1+1/\w.heap.size<=D by have:=HH.out;omega);have HK:=Lh (((Below.heap_setCell _ ⟨H+1+1,2,none⟩ (.bool false) D Hne.out.1).trans (Below.heap_setCell _ ⟨H+1+1,1,none⟩ (.int .u16 0) D Hne.out.1)).trans ((Below.heap_setCell _ ⟨H+1+1,0,none⟩ (.int .u16 0) D Hne.out.1).trans hK));clear i1 i2 i3 hK hS hB' hD FU r1 r2 LU hL hEnt hbody
  go_wp2_with fail
  generalize ((W.setCell ⟨H+1+1,0,none⟩ (.int .u16 0)).setCell ⟨H+1+1,1,none⟩ (.int .u16 0)).setCell ⟨H+1+1,2,none⟩ (.bool false)=WF at *;refine ⟨by simp,.inl ⟨_,_,rfl,run_takeDeferred HK.out,?_⟩⟩;refine ⟨_,results_cell_row rfl _ _ (H+1+1) _ _ _ _ rfl ((World.putObj_heap_other (fun e=>Hne.out.1 e.symm)).trans Hr3.out) Tryz.underlying94 rfl (by kernel_rfl),by rw [Hfst.out];rfl,?_⟩;exact Below.trans HE3.out (belowK_b (w:=w) (qZ _) WF D _ _ Hne.out.2 HK.out rfl rfl)
 case stop =>
  rintro D cd pre W hD hp ⟨⟨rfl,pr,x,rfl,h3,h4,h5⟩,hB'⟩ hK;have Hfst:=Lh (show fstP hB n=x from fstP_some hp h3 h4);have Hne:=Lh (show D≠H+1+1/\w.heap.size<=D by have:=HH.out;omega)
  gi_wp2
  refine ⟨by simp,.inl ⟨_,_,rfl,run_takeDeferred hK,?_⟩⟩;refine ⟨_,results_cell_row rfl _ _ (H+1+1) _ _ _ _ rfl ((World.putObj_heap_other (fun e=>Hne.out.1 e.symm)).trans h5) Tryz.underlying94 rfl (by kernel_rfl),by rw [Hfst.out];rfl,?_⟩;exact Below.trans hB' (belowK_b (w:=w) (qZ _) W D _ _ Hne.out.2 hK rfl rfl)
open Go.RowKit Go.Maps Go.WideMaps Go.Shelf
theorem pvK_inj {p q:PK} (h:pvK p=pvK q):p=q:=by
 obtain ⟨x,z,m,_,_⟩:=p;obtain ⟨x',z',m',_,_⟩:=q;unfold pvK at h;injection h with h2;have e0:=congrArg (fun a:Array Value=>a[0]?) h2;have e1:=congrArg (fun a:Array Value=>a[1]?) h2;have e2:=congrArg (fun a:Array Value=>a[2]?) h2;simp only [List.getElem?_toArray,List.getElem?_cons_zero,List.getElem?_cons_succ,yX,Value.int.injEq,Value.bool.injEq,true_and] at e0 e1 e2
 have e0':x=x':=by omega
 have e1':z=z':=by omega
 subst e0' e1' e2
 rfl
def pkD (p:PK):DataW Unit:=.agg [.lit (.int .u16 (p.x:Int)),.lit (.int .u16 (p.z:Int)),.lit (.bool p.m)]
theorem pkD_inj {p q:PK} (h:pkD p=pkD q):p=q:=by
 obtain ⟨x,z,m,_,_⟩:=p;obtain ⟨x',z',m',_,_⟩:=q;unfold pkD at h;simp only [DataW.agg.injEq,List.cons.injEq,DataW.lit.injEq,Lit.int.injEq,Lit.bool.injEq,true_and,and_true] at h;obtain ⟨h1,h2,h3⟩:=h
 have e0':x=x':=by omega
 have e1':z=z':=by omega
 subst e0' e1' h3
 rfl
open Classical in
noncomputable def pkElem (v:Value):Option (DataW Unit × List MemPlace):=if h:∃ p:PK,v=pvK p then some (pkD h.choose,[]) else none
theorem pkElem_mk (p:PK):pkElem (pvK p)=some (pkD p,[]):=by
 unfold pkElem;have h:∃ q:PK,pvK p=pvK q:=⟨p,rfl⟩;rw [dif_pos h,<-pvK_inj h.choose_spec]
theorem pkElem_inv {v:Value} {p:PK} {l:List MemPlace} (h:pkElem v=some (pkD p,l)):v=pvK p:=by
 unfold pkElem at h
 split at h
 ·rename_i hx
  injection h with h;have e:=pkD_inj (congrArg Prod.fst h);rw [<-e];exact hx.choose_spec
 ·cases h
theorem underM:Tryz.prog.underlying 118=some (.int .u16):=Tryz.underlying118
theorem keyedM:Keyed Tryz.prog 118:=int_keyed underM
theorem keyM {s:Nat} (hs:s<65536):keyOf Tryz.prog 118 (.int .u16 (s:Int))=some (.int .u16 (s:Int)):=keyOf_int_mk underM (wf_u16 hs)
theorem zeroP (w:World):(zeroValue 94).run Tryz.prog w=.ok (pvK (PK.of 0 0)) w:=by kernel_rfl
def fsM (ps pre:List PK) (s:Nat):Option PK:=pre.find? fun q=>shN ps q == s
theorem fsM_snoc (ps pre:List PK) (p:PK) (s:Nat):fsM ps (pre++[p]) s=(fsM ps pre s).or (if shN ps p == s then some p else none):=by
 unfold fsM;rw [List.find?_append,List.find?_cons,List.find?_nil]
 cases shN ps p == s<;>rfl
def MdM (w:World) (B:Nat) (ps pre:List PK):Prop :=
 ∃ D:DataW Unit,w.ownsMap Tryz.prog 118 pkElem B pre.length D/\IsMap D/\∀ s:Nat,s<65536->has D (.int .u16 (s:Int))=(fsM ps pre s).isSome/\∀ z,D.atKey (.int .u16 (s:Int)) z=((fsM ps pre s).map pkD).getD z
theorem MdM.lt {w:World} {B:Nat} {ps pre:List PK} (h:MdM w B ps pre):B<w.heap.size:=by
 obtain ⟨D,h1,_⟩:=h;exact h1.lt
theorem MdM.kept {w w':World} {B:Nat} {ps pre:List PK} (h:MdM w B ps pre) (k:w'.heap[B]?=w.heap[B]?):MdM w' B ps pre:=by
 obtain ⟨D,⟨es,cl,h1,h2⟩,h3⟩:=h;exact ⟨D,⟨es,cl,k.trans h1,h2⟩,h3⟩
theorem MdM.ext {w w':World} {B:Nat} {ps pre:List PK} (h:MdM w B ps pre) (k:Ext w w'):MdM w' B ps pre:=h.kept (k.block _ h.lt)
theorem MdM.made (w:World) (ps:List PK):MdM (w.alloc (.map #[] 0)) w.heap.size ps [] :=
 ⟨.map [],World.ownsMap_made w _ _ _,isMap_empty,fun _ _=>⟨rfl,fun _=>rfl⟩⟩
theorem MdM.look_ok {w:World} {B:Nat} {ps pre:List PK} (h:MdM w B ps pre) {s:Nat} (hs:s<65536) :
  (Instr.lookup 111 (.map (some B)) (.int .u16 (s:Int)) true).run Tryz.prog w=.ok (.tuple #[pvK ((fsM ps pre s).getD (PK.of 0 0)),.bool (fsM ps pre s).isSome]) w:=by
 obtain ⟨D,h1,h2,h3⟩:=h;obtain ⟨v,l,hr,hv⟩:=h1.look_ok keyedM Tryz.underlying111 (zeroP w) (pkElem_mk _) (keyM hs);rw [(h3 s hs).2] at hv
 have e:((fsM ps pre s).map pkD).getD (pkD (PK.of 0 0))=pkD ((fsM ps pre s).getD (PK.of 0 0)):=by cases fsM ps pre s<;>rfl
 rw [e] at hv;rw [hr,pkElem_inv hv,(h3 s hs).1]
theorem MdM.look {w:World} {B:Nat} {ps pre:List PK} (h:MdM w B ps pre) {s:Nat} (hs:s<65536) :
  (Instr.lookup 111 (.map (some B)) (.int .u16 (s:Int)) false).run Tryz.prog w=.ok (pvK ((fsM ps pre s).getD (PK.of 0 0))) w:=by
 obtain ⟨D,h1,h2,h3⟩:=h;obtain ⟨v,l,hr,hv⟩:=h1.lookup keyedM Tryz.underlying111 (zeroP w) (pkElem_mk _) (keyM hs);rw [(h3 s hs).2] at hv
 have e:((fsM ps pre s).map pkD).getD (pkD (PK.of 0 0))=pkD ((fsM ps pre s).getD (PK.of 0 0)):=by cases fsM ps pre s<;>rfl
 rw [e] at hv;rw [hr,pkElem_inv hv]
theorem MdM.skip {w:World} {B:Nat} {ps pre:List PK} (h:MdM w B ps pre) (p:PK) (hk:(fsM ps pre (shN ps p)).isSome=true):MdM w B ps (pre++[p]):=by
 obtain ⟨D,h1,h2,h3⟩:=h;refine ⟨D,h1.mono (by simp),h2,fun s hs=>?_⟩
 have e:fsM ps (pre++[p]) s=fsM ps pre s:=by
  rw [fsM_snoc]
  by_cases hq:shN ps p=s
  ·subst hq
   obtain ⟨q,hq⟩:=Option.isSome_iff_exists.1 hk;rw [hq];rfl
  ·rw [qE (by simpa using hq)]
   cases fsM ps pre s<;>rfl
 rw [e];exact h3 s hs
theorem MdM.store {w:World} {B:Nat} {ps pre:List PK} (h:MdM w B ps pre) (p:PK) (hl:pre.length<maxLen) (hs:shN ps p<65536) (hk:(fsM ps pre (shN ps p)).isSome=false) :
  ∃ w',(Instr.mapUpdate 111 (.map (some B)) (.int .u16 (shN ps p:Int)) (pvK p)).run Tryz.prog w=.ok () w'/\MdM w' B ps (pre++[p])/\w.grownBy w' (some B):=by
 obtain ⟨D,h1,h2,h3⟩:=h;obtain ⟨w',hr,ho,hg⟩:=h1.update keyedM Tryz.underlying111 hl (keyM hs) (pkElem_mk p);have hkey:WideAt.IsKeyLit (.int .u16 (shN ps p:Int)):=keyedM.key (keyM hs);refine ⟨w',hr,⟨_,ho.mono (by simp),h2.put _ _,fun s hs'=>?_⟩,hg⟩;rw [fsM_snoc]
 by_cases hq:shN ps p=s
 ·subst hq
  rw [Option.isSome_eq_false_iff,Option.isNone_iff_eq_none] at hk;rw [hk,has_put_same h2 hkey];simp only [beq_self_eq_true,if_true];exact ⟨rfl,fun z=>atKey_put_same h2 hkey _ z⟩
 ·have hne:(Lit.int .u16 (s:Int))≠.int .u16 (shN ps p:Int):=fun e=>by
   simp only [Lit.int.injEq,true_and] at e;omega
  rw [qE (by simpa using hq),has_put_other hne]
  have e:(fsM ps pre s).or none=fsM ps pre s:=by cases fsM ps pre s<;>rfl
  rw [e];exact ⟨(h3 s hs').1,fun z=>by rw [atKey_put_other hne];exact (h3 s hs').2 z⟩
theorem fs_fst (ps:List PK) (n s:Nat):(fsM ps (errP n) s).getD (PK.of 0 0)=fstP (fun q=>shN ps q == s) n:=rfl
abbrev Rnd (l:Nat):Fence:=Fence.wide.inRound l
def noDefer (ops:List Oper):Bool:=ops.all fun o=>match o.op with | .defer _=>false | _=>true
theorem noDefer_spec {ops:List Oper} (h:noDefer ops=true) {o:Oper} (ho:o ∈ ops):∀ c,o.op≠.defer c:=by
 intro c e;have:=List.all_eq_true.1 h o ho;rw [e] at this
 cases this
section
variable {P:Program} {ops:Array Oper} {Q:Exit->Act->World->Prop} {l m:Nat}
theorem rows_round {row:String} {args:Array Value} {w:World} {R:Value->World->Prop} (h:Rows P row args w R):RowsIn (Rnd l) m P row args w R:=fun c cs _=>by
 obtain ⟨v,w',hr,hs⟩:=h c cs;exact ⟨v,w',hr,stepsIn_wide.2 hs⟩
theorem oper_round {o:Oper} (hd:∀ c,o.op≠.defer c) {K K':Act->World->Prop} (hK:∀ a w,K a w->K' a w) {a:Act} {w:World} (h:o.wp P a w K Q):o.wpIn (Rnd l) m P a w K' Q:=by
 refine ⟨fun _ _=>trivial,?_⟩
 show o.uponIn (Rnd l) m P a K' Q ((o.semAt (some l) a.eval).run P w)
 rw [Oper.semAt_some l a.eval o hd];unfold Oper.wp at h;generalize (execOp a.eval o).run P w=r at h ⊢
 have hdep:∀ n:Nat,(Rnd l).depth.isSome=true->1<=n:=fun n h=>by cases h
 cases r with
 | ok x w' =>
  cases x with
  | value v=>exact hK _ _ h
  | skip=>exact hK _ _ h
  | defer d=>exact hK _ _ h
  | enter f args =>
   refine ⟨hdep _,CallsIn.inRound l (callsIn_wide.2 (Calls.mono h ?_))⟩;intro e w'' he
   cases e with
   | returned v=>exact hK _ _ he
   | panicked c=>exact he
   | outgrown=>exact he
  | row rw args=>exact ⟨hdep _,rows_round (Rows.mono h fun v w'' he=>hK _ _ he)⟩
  | _=>exact h.elim
 | halt x w' =>
  cases x with
  | panic v=>exact h
  | _=>exact h.elim
theorem list_round {lst:List Oper} (hd:noDefer lst=true) (hQ:¬ LetsOut Q):∀ {a:Act} {w:World},wpList P ops Q lst a w->wpListIn (Rnd l) m P ops Q lst a w:=by
 induction lst with
 | nil=>intro a w h;exact h
 | cons o rest ih =>
  intro a w h
  have hd2:noDefer rest=true:=by
   unfold noDefer at hd ⊢;rw [List.all_cons] at hd;exact (Bool.and_eq_true_iff.1 hd).2
  unfold wpList at h;unfold wpListIn
  by_cases hw:Region.wanted o (yielded ops a.tmps)=true
  ·rw [qU hw] at h ⊢
   rcases h with h | h
   ·exact oper_round (noDefer_spec hd (by simp)) (fun a w=>ih hd2) h
   ·exact absurd h.2 hQ
  ·rw [qE hw] at h ⊢
   exact ⟨fun _ _=>trivial,ih hd2 h⟩
theorem region_round {id:Nat} {lst:List Oper} {a:Act} {w:World} (hd:noDefer lst=true) (hQ:¬ LetsOut Q) (h:wpList P lst.toArray Q lst a w):(Code.region id lst.toArray false).wpIn (Rnd l) m P Q a w :=
 wpIn_region_lit (list_round hd hQ h)
theorem op_round (hd:noDefer ops.toList=true) (hQ:¬ LetsOut Q) {i:Nat} {K K':Act->World->Prop} (hK:∀ a w,K a w->K' a w) {a:Act} {w:World} (h:wpOp P ops Q i K a w):wpOpIn (Rnd l) m P ops Q i K' a w:=by
 unfold wpOp at h;unfold wpOpIn
 cases ho:ops[i]? with
 | none=>rw [ho] at h;exact hK _ _ h
 | some o =>
  rw [ho] at h;simp only at h ⊢
  have hm:o ∈ ops.toList:=by
   have:=Array.mem_of_getElem? ho
   simpa using this
  by_cases hw:Region.wanted o (yielded ops a.tmps)=true
  ·rw [qU hw] at h ⊢
   rcases h with h | h
   ·exact oper_round (noDefer_spec hd hm) hK h
   ·exact absurd h.2 hQ
  ·rw [qE hw] at h ⊢
   exact ⟨fun _ _=>trivial,hK _ _ h⟩
theorem any_round {md:Region.Mode} (hd:noDefer ops.toList=true) (hQ:¬ LetsOut Q):∀ (n:Nat) (lst:Array Bool) (a:Act) (w:World),wpAny P md ops Q n lst a w->wpAnyIn (Rnd l) m P md ops Q n lst a w
 | 0,_,_,_,h=>h
 | n+1,_,_,_,h=>⟨h.1,fun i hi=>op_round hd hQ (fun a w=>any_round hd hQ n _ a w) (h.2 i hi)⟩
theorem region_round_any {id:Nat} {a:Act} {w:World} (hm:P.follows .mixedOrders=true) (hd:noDefer ops.toList=true) (hQ:¬ LetsOut Q)
  (h:wpAny P .any ops Q ops.size (Array.replicate ops.size false) a w.drew):(Code.region id ops true).wpIn (Rnd l) m P Q a w :=
 wpIn_region_any hm (any_round hd hQ _ _ _ _ h)
theorem then_shut {K:Act->World->Prop} (h:¬ LetsOut Q):¬ LetsOut (Exit.then K Q):=fun ⟨a,w,g⟩=>h ⟨a,w,g⟩
end
open Go.RowKit Go.Shelf
attribute [local go_sem] Oper.semAt_some
theorem stepK_updM {ops:Array Oper} {o:Oper} {a:Act} {K:Act->World->Prop} {Q:Exit->Act->World->Prop} {E:Prop} {w w':World} (hgd:o.guard=none) (hd:o.dst=none) (m x v:Operand)
  (ho:o.op=.mapUpdate 111 m x v) (b:Nat) (key val:Value) (hm:a.eval m=.map (some b)) (hx:a.eval x=key) (hv:a.eval v=val)
  (hrun:(Instr.mapUpdate 111 (.map (some b)) key val).run Tryz.prog w=.ok () w') (h:K a w') :
  if Region.wanted o (yielded ops a.tmps)=true then Oper.wp Tryz.prog o a w K Q else E:=by
 have hw:Region.wanted o (yielded ops a.tmps)=true:=by simp [Region.wanted,hgd]
 rw [qU hw];unfold Oper.wp
 simp [execOp,ho,hm,hx,hv,hrun,Result.andThen]
 show K (a.put o.dst undef) w'
 rw [hd];exact h
theorem exec_look {P:Program} {ρ:Operand->Value} {o:Oper} {w:World} {ty:TypeId} {m x:Operand} {ok:Bool} (ho:o.op=.lookup ty m x ok) {b:Value} {key v:Value} (hm:ρ m=b) (hx:ρ x=key)
  (hrun:(Instr.lookup ty b key ok).run P w=.ok v w):(execOp ρ o).run P w=.ok (.value v) w:=by
 simp [execOp,ho,hm,hx,hrun,Result.andThen]
theorem gShut {α:Type} {i B:Nat} {Kp:World->World->Prop} {I:List α->World->Prop} {Ix:Code->List α->World->Prop} {xs:List α} {W:World}:¬ LetsOut (Exit.inBlock i (ownPostG B Kp I Ix xs W)):=fun ⟨_,_,h⟩=>h
theorem stepK_allocP {ops:Array Oper} {o:Oper} {a:Act} {K:Act->World->Prop} {Q:Exit->Act->World->Prop} {E:Prop} {w:World} (hgd:o.guard=none) (s:Nat) (hd:o.dst=some s)
  (ho:o.op=.alloc 94) (h:K (a.put (some s) (.pointer (some ⟨w.heap.size,0,none⟩))) (w.alloc (.cells #[.int .u16 0,.int .u16 0,.bool false] 94))) :
  if Region.wanted o (yielded ops a.tmps)=true then Oper.wp Tryz.prog o a w K Q else E:=by
 have hw:Region.wanted o (yielded ops a.tmps)=true:=by simp [Region.wanted,hgd]
 rw [qU hw];obtain ⟨od,oo,ot,opp,oa,og⟩:=o;simp only at ho hd;subst ho hd;have HH:=Lh h;clear h;unfold Oper.wp execOp
 go_simp
 exact HH.out
theorem MdM.is {w:World} {B:Nat} {ps pre:List PK} (h:MdM w B ps pre):∃ es cl,w.heap[B]?=some (.map es cl):=by
 obtain ⟨D,⟨es,cl,h1,_⟩,_⟩:=h;exact ⟨es,cl,h1⟩
theorem KpC.of_map {w w':World} {B:Nat} (h:w.grownBy w' (some B)) (hm:∃ es cl,w.heap[B]?=some (.map es cl)):KpC w w':=by
 obtain ⟨es,cl,hm⟩:=hm;refine ⟨h.size,fun i cs t f _ hr=>?_,fun cs t f hr=>?_⟩
 ·refine (h.block i (gS.1 hr).1 (fun e=>?_)).trans hr
  cases e
  rw [hm] at hr
  cases hr
 ·refine (h.block _ (gS.1 hr).1 (fun e=>?_)).trans hr
  injection e with e;rw [e,hm] at hr
  cases hr
theorem sh_lt {ps:List PK} (h:ps.length<=12) (p:PK):shN ps p<65536:=by
 have h1:=numB_lt (ps.map fun g=>!(cmB p g));rw [jY] at h1;have h2:2 ^ ps.length<=2 ^ 12:=qY (by decide) h
 have h3:(2:Nat) ^ 12=4096:=by decide
 unfold shN;omega
def MdI (w0 w:World) (H B:Nat) (n:Nat) (ao:Option Addr) (ng c:Nat) (mp:Option Nat) (ps pre:List PK):Prop :=
 (FrB w H n ao ng c mp/\w.heap[B+1]?=some (.cells #[.map (some B)] 111 (0,0))/\MdM w B ps pre)/\Below w0.heap.size w0 w
theorem mends_any (n ng c:Nat) (hn:n<=12) (hmx:(errP n).length<1000000) (ao:Option Addr) (mp:Option Nat) (ps:List PK) (w:World) (hL:LtL w) (hps:PsAt w ao ng ps) (hng:ng<=12) :
  Calls Tryz.prog 64 #[.agg #[.int .i64 (n:Int),.slice ao ng c,.map mp]] w fun e w'=>∃ B,e=.returned (.map (some B))/\MdM w' B ps (errP n)/\w.heap.size<=B/\Ext w w':=by
 refine (callsIn_wide (n:=5)).1 ?_;refine callsIn_of_wp_marks Tryz.func64 rfl trivial ?_ rfl;simp only [Tryz.ntmps64,List.size_toArray,jB,List.length_nil,Nat.reduceAdd,Nat.reduceSub,Array.replicate_succ,Array.replicate_zero,List.push_toArray,List.append_toArray,List.nil_append,List.cons_append];refine wpIn_wide.2 ?_;have hmm:=@run_makeMap Tryz.prog;obtain ⟨H,hH⟩:∃ H,w.heap.size=H:=⟨_,rfl⟩;obtain ⟨W0,hW0⟩:∃ W0,((w.alloc (.cells #[.int .i64 (n:Int),.slice ao ng c,.map mp] 49)).alloc (.map #[] 0)).alloc (.cells #[.map (some (w.heap.size+1))] 111)=W0:=⟨_,rfl⟩
 have E0:Ext w W0:=by rw [<-hW0];exact ((ext_al w _).trans (ext_al _ _)).trans (ext_al _ _)
 have R0:FrB W0 H n ao ng c mp:=by rw [<-hW0,<-hH];exact ((FrB.new _ _ _ _ _ _).ext (ext_al _ _)).ext (ext_al _ _)
 have M0:MdM W0 (H+1) ps []:=by
  have:=MdM.made (w.alloc (.cells #[.int .i64 (n:Int),.slice ao ng c,.map mp] 49)) ps;rw [<-hW0,<-hH];refine MdM.ext ?_ (ext_al _ _)
  simpa using this
 have b0:W0.heap[H+1+1]?=some (.cells #[.map (some (H+1))] 111 (0,0)):=by
  have:=qW ((w.alloc (.cells #[.int .i64 (n:Int),.slice ao ng c,.map mp] 49)).alloc (.map #[] 0)) (.cells #[.map (some (w.heap.size+1))] 111);rw [hW0,yO,yO,hH] at this;exact this
 have HE0:=Lh E0;have HW0:=Lh hW0;have HH:=Lh hH;have HR:=Lh R0;have HM0:=Lh M0;have Hb0:=Lh b0;have k0:=R0.x0;have k1:=R0.x1;have k2:=R0.x2;have HE:=Lh (errors_any n ao ng c mp W0);clear E0 R0 M0 b0 hW0 hH
 go_upto_region 2 with fail
 rw [HW0.out,HH.out];clear hmm
 go_wp2_with fail
 refine HE.out.mono ?_;rintro e U ⟨rfl,hU⟩
 have EU:Ext W0 U:=by rw [hU];exact ext_al _ _
 obtain ⟨G,hG⟩:∃ G,W0.heap.size=G:=⟨_,rfl⟩
 have FU:FrB U G n ao ng c mp:=by rw [hU,<-hG];exact FrB.new _ _ _ _ _ _
 have sG:H+1+1<G:=by rw [<-hG];exact lt_rowC Hb0.out
 have sU:U.heap.size=G+1:=by rw [hU,<-hG];simp
 have eU:Ext w U:=HE0.out.trans EU;have LU:LtL U:=hL.ext eU;have HI0:=Lh (show MdI w U H (H+1) n ao ng c mp ps [] from ⟨⟨HR.out.ext EU,rowEC Hb0.out EU,HM0.out.ext EU⟩,eU⟩);have HlU:=Lh (show H+1+1<U.heap.size by omega);rw [hG];clear hU HE k0 k1 k2 HW0 Hb0 HM0 HR
 go_wp2_with fail
 refine wpIn_wide.1 (wpIn_rangeFunc_ownH (n:=5) (F:=Fence.wide) rfl (by omega) (gf:=111) (lb:=#[.pointer (some ⟨G,0,none⟩)]) rfl trivial (enters_of Tryz.func111 (by kernel_rfl) rfl)
  (errors_stops 4 n G ng c hn ao mp U LU FU) KpC.trans kpC_b (Below.refl _ _) (fun _=>rfl)
  (fun pre W=>MdI w W H (H+1) n ao ng c mp ps pre)
  (fun _ _ _=>False)
  (OwnFrom.and (fun s A B row hs hg hr=>⟨⟨cells_own _ _ _ _ s A B row hs.1.row hg (fun r e=>(hr r e).2)⟩,cells_own _ _ _ _ s A B row hs.2.1 hg (fun r e=>(hr r e).2),hs.2.2.kept (hg.block _ hs.2.2.lt (fun e=>by have:=(hr _ e.symm).1;have:=HlU.out;omega))⟩) (ownFrom_below (qZ _) eU.size))
  (fun _=>fun _ _ _ _ hs _ _=>hs)
  HI0.out
  (fun x a' W=>∃ Bx,W.heap[Bx]?=some (.cells #[.int .u16 (x.x:Int),.int .u16 (x.z:Int),.bool x.m] 94 (0,0))/\a'={ tmps:=#[.agg #[.int .i64 (n:Int),.slice ao ng c,.map mp],.pointer (some ⟨H,0,none⟩),.map none,.pointer (some ⟨H+1+1,0,none⟩),.pointer (some ⟨Bx,0,none⟩),undef,undef,.map (some (H+1)),.agg #[.int .i64 (n:Int),.slice ao ng c,.map mp],.func (.func 111) #[] #[.pointer (some ⟨G,0,none⟩)],pvK x,undef,undef,undef,undef,undef,undef,undef,undef,undef,undef,undef,undef,undef,undef,undef,undef],defers:=[] })
  ?own ?assign ?body ?done ?stop)
 case own =>
  rintro x a' _ W W' row ⟨Bx,h1,h2⟩ hg hr;exact ⟨Bx,cells_own Bx _ _ _ () W W' row h1 hg (fun r e=>(hr r e).2),h2⟩
 case assign =>
  rintro l pre x W K ⟨⟨i1,i2,i3⟩,hB'⟩ hK;have hpx:pvK x=.agg #[.int .u16 (x.x:Int),.int .u16 (x.z:Int),.bool x.m]:=rfl;rw [hpx];have Hi:=Lh (jN i1 (jN i2 i3));have HB2:=Lh hB';clear i1 i2 i3 hB'
  gi_wp2
  have ea:=ext_al W (.cells #[.int .u16 (x.x:Int),.int .u16 (x.z:Int),.bool x.m] 94);exact hK _ _ ((KeepsOthers.alloc W _).from _) (KpC.of_ext ea) ⟨⟨Hi.out.1.ext ea,rowEC Hi.out.2.1 ea,Hi.out.2.2.ext ea⟩,HB2.out.trans (ea.mono HB2.out.size)⟩ ⟨W.heap.size,qW W _,rfl⟩
 case body =>
  rintro l pre x a' W hl ⟨r,hr⟩ ⟨⟨iF,iO,iM⟩,hB'⟩ ⟨Bx,hx,rfl⟩ hlt
  have o0:W.cell? ⟨H+1+1,0,none⟩=some (.map (some (H+1))):=by rw [qD W _ 0 _ _ (0,0) iO];rfl
  have f0:=iF.x0;have f1:=iF.x1;have f2:=iF.x2
  have p0:W.cell? ⟨Bx,0,none⟩=some (.int .u16 (x.x:Int)):=by rw [qD W _ 0 _ _ (0,0) hx];rfl
  have p1:W.cell? ⟨Bx,1,none⟩=some (.int .u16 (x.z:Int)):=by rw [qD W _ 1 _ _ (0,0) hx];rfl
  have p2:W.cell? ⟨Bx,2,none⟩=some (.bool x.m):=by rw [qD W _ 2 _ _ (0,0) hx];rfl
  have hlen:ps.length<=12:=by rw [hps.1];exact hng
  have hsx:=sh_lt hlen x;have HSh:=Lh (fun (wx:World) (hx:Ext W wx)=>shown_any ps x n ao ng c mp wx (hps.ext (hB'.trans (hx.mono hB'.size))) hng)
  have hlm:pre.length<maxLen:=by unfold maxLen;omega
  obtain ⟨bk,hbk⟩:∃ b,(fsM ps pre (shN ps x)).isSome=b:=⟨_,rfl⟩;obtain ⟨qk,hqk⟩:∃ q,(fsM ps pre (shN ps x)).getD (PK.of 0 0)=q:=⟨_,rfl⟩;have HLk:=Lh (fun (w9:World) (h9:MdM w9 (H+1) ps pre)=>(show (Instr.lookup 111 (.map (some (H+1))) (.int .u16 (shN ps x:Int)) true).run Tryz.prog w9=.ok (.tuple #[pvK qk,.bool bk]) w9 from by rw [<-hqk,<-hbk];exact h9.look_ok hsx));have HSt:=Lh (fun (w9:World) (h9:MdM w9 (H+1) ps pre) (hb:bk=false)=>h9.store x hlm hsx (by rw [hbk];exact hb));have HSk:=Lh (fun (w9:World) (h9:MdM w9 (H+1) ps pre) (hb:bk=true)=>h9.skip x (by rw [hbk];exact hb));have HiF:=Lh iF;have HiO:=Lh iO;have HiM:=Lh iM;have HB2:=Lh hB';have Hx:=Lh hx;obtain ⟨s,hs⟩:∃ s,shN ps x=s:=⟨_,rfl⟩;rw [hs] at HSh HLk HSt;have HSj:=Lh (fun (w':World) (hx:Ext W w')=>(show (w'.cell? ⟨H+1+1,0,none⟩=some (.map (some (H+1)))/\w'.cell? ⟨H,0,none⟩=some (.int .i64 (n:Int))/\w'.cell? ⟨H,1,none⟩=some (.slice ao ng c)/\w'.cell? ⟨H,2,none⟩=some (.map mp)/\w'.cell? ⟨Bx,0,none⟩=some (.int .u16 (x.x:Int))/\w'.cell? ⟨Bx,1,none⟩=some (.int .u16 (x.z:Int))/\w'.cell? ⟨Bx,2,none⟩=some (.bool x.m))/\MdM w' (H+1) ps pre from ⟨⟨cell_ext o0 hx,cell_ext f0 hx,cell_ext f1 hx,cell_ext f2 hx,cell_ext p0 hx,cell_ext p1 hx,cell_ext p2 hx⟩,HiM.out.ext hx⟩));clear iF iO iM hB' hx hr hl hlt hlen hsx hlm hbk hqk hs o0 f0 f1 f2 p0 p1 p2 FU LU EU hL hps HI0;refine wpIn_block (wpIn_seq (wpIn_mono (Q:=fun e a' w'=>e=.normal/\(∃ u5 u11 u12 u13 u14 u15 u16 u17 u18:Value,a'=⟨#[.agg #[.int .i64 (n:Int),.slice ao ng c,.map mp],.pointer (some ⟨H,0,none⟩),.map none,.pointer (some ⟨H+1+1,0,none⟩),.pointer (some ⟨Bx,0,none⟩),u5,.bool bk,.map (some (H+1)),.agg #[.int .i64 (n:Int),.slice ao ng c,.map mp],.func (.func 111) #[] #[.pointer (some ⟨G,0,none⟩)],pvK x,u11,u12,u13,u14,u15,u16,u17,u18,undef,undef,undef,undef,undef,undef,undef,undef],[]⟩)/\Ext W w') ?_ ?_))
  ·refine region_round_any (by kernel_rfl) (by rfl) (fun ⟨_,_,h⟩=>by cases h.1) (anyK_plain (k:=10) (S:=fun w'=>(w'.cell? ⟨H+1+1,0,none⟩=some (.map (some (H+1)))/\w'.cell? ⟨H,0,none⟩=some (.int .i64 (n:Int))/\w'.cell? ⟨H,1,none⟩=some (.slice ao ng c)/\w'.cell? ⟨H,2,none⟩=some (.map mp)/\w'.cell? ⟨Bx,0,none⟩=some (.int .u16 (x.x:Int))/\w'.cell? ⟨Bx,1,none⟩=some (.int .u16 (x.z:Int))/\w'.cell? ⟨Bx,2,none⟩=some (.bool x.m))/\MdM w' (H+1) ps pre) _ _ _ _ ?_)
   show anyK _ _ _ _ _ _ 11 #[false,false,false,false,false,false,false,false,false,false,false] _ _
   have G_:Ext W W.drew:=qG (Ext.refl _);refine anyK_take (i:=0) (v:=?_) rfl (by kernel_rfl) (by kernel_rfl) (by kernel_rfl) (N:=11) (by kernel_rfl) (by kernel_rfl) (by kernel_rfl) (fun _ _ _ h=>nomatch h.1) (qM ⟨by rfl,?_⟩) (HSj.out _ G_) ?_;rotate_left 1
   ·intro w hSw
    go_simp
    try with_reducible rfl
   show anyK _ _ _ _ _ _ _ _ (Act.put _ (some 12) _) _
   simp only [Act.put,sx0,sx1,sx2];refine anyK_take (i:=1) (v:=?_) rfl (by kernel_rfl) (by kernel_rfl) (by kernel_rfl) (N:=11) (by kernel_rfl) (by kernel_rfl) (by kernel_rfl) (fun _ _ _ h=>nomatch h.1) (qM ⟨by rfl,?_⟩) (HSj.out _ G_) ?_;rotate_left 1
   ·intro w hSw
    go_simp
    try with_reducible rfl
   show anyK _ _ _ _ _ _ _ _ (Act.put _ (some 13) _) _
   simp only [Act.put,sx0,sx1,sx2];refine anyK_take (i:=2) (v:=?_) rfl (by kernel_rfl) (by kernel_rfl) (by kernel_rfl) (N:=11) (by kernel_rfl) (by kernel_rfl) (by kernel_rfl) (fun _ _ _ h=>nomatch h.1) (qM ⟨by rfl,?_⟩) (HSj.out _ G_) ?_;rotate_left 1
   ·intro w hSw
    go_simp
    try with_reducible rfl
   show anyK _ _ _ _ _ _ _ _ (Act.put _ (some 14) _) _
   simp only [Act.put,sx0,sx1,sx2];refine anyK_pairC (i:=3) (j:=8) (by kernel_rfl) rfl rfl (fun Kk hKk=>?_) (fun Kk hKk=>?_)
   ·go_simp
    (go_at_call 68;refine (HSh.out _ (G_)).mono ?_;rintro e wC ⟨rfl,hy⟩)
    have EC:Ext W wC:=(G_).trans hy;clear hy
    go_wp2_with fail
    refine hKk.out _ _ (fun _=>HSj.out _ EC) ?_;clear hKk Kk;simp only [sx0,sx1,sx2];refine anyK_take (i:=4) (v:=.tuple #[pvK qk,.bool bk]) rfl (by kernel_rfl) (by kernel_rfl) (by kernel_rfl) (N:=11) (by kernel_rfl) (by kernel_rfl) (by kernel_rfl) (fun _ _ _ h=>nomatch h.1) (qM ⟨by rfl,fun w9 h9=>exec_look rfl rfl rfl (HLk.out w9 h9.2)⟩) (HSj.out _ EC) ?_
    show anyK _ _ _ _ _ _ _ _ (Act.put _ (some 16) _) _
    simp only [Act.put,sx0,sx1,sx2];refine anyK_take (i:=5) (v:=?_) rfl (by kernel_rfl) (by kernel_rfl) (by kernel_rfl) (N:=11) (by kernel_rfl) (by kernel_rfl) (by kernel_rfl) (fun _ _ _ h=>nomatch h.1) (qM ⟨by rfl,?_⟩) (HSj.out _ EC) ?_;rotate_left 1
    ·intro w hSw
     go_simp
     try with_reducible rfl
    show anyK _ _ _ _ _ _ _ _ (Act.put _ (some 11) _) _
    simp only [Act.put,sx0,sx1,sx2];refine anyK_take (i:=6) (v:=?_) rfl (by kernel_rfl) (by kernel_rfl) (by kernel_rfl) (N:=11) (by kernel_rfl) (by kernel_rfl) (by kernel_rfl) (fun _ _ _ h=>nomatch h.1) (qM ⟨by rfl,?_⟩) (HSj.out _ EC) ?_;rotate_left 1
    ·intro w hSw
     go_simp
     try with_reducible rfl
    show anyK _ _ _ _ _ _ _ _ (Act.put _ (some 17) _) _
    simp only [Act.put,sx0,sx1,sx2];refine anyK_take (i:=7) (v:=?_) rfl (by kernel_rfl) (by kernel_rfl) (by kernel_rfl) (N:=11) (by kernel_rfl) (by kernel_rfl) (by kernel_rfl) (fun _ _ _ h=>nomatch h.1) (qM ⟨by rfl,?_⟩) (HSj.out _ EC) ?_;rotate_left 1
    ·intro w hSw
     go_simp
     try with_reducible rfl
    show anyK _ _ _ _ _ _ _ _ (Act.put _ (some 18) _) _
    simp only [Act.put,sx0,sx1,sx2];refine anyK_one (i:=8) (by kernel_rfl) rfl (fun Kk hKk=>?_);refine stepK_allocP rfl 5 rfl rfl ?_;refine hKk.out _ _ (fun _=>HSj.out _ (cthen EC _)) ?_;clear hKk Kk;obtain ⟨wA,hwA⟩:∃ V,(wC).alloc (.cells #[.int .u16 0,.int .u16 0,.bool false] 94)=V:=⟨_,rfl⟩;obtain ⟨B5,hB5⟩:∃ B,(wC).heap.size=B:=⟨_,rfl⟩
    have hy:Ext (wC) wA:=by rw [<-hwA];exact ext_al _ _
    have r5:wA.heap[B5]?=some (.cells #[.int .u16 0,.int .u16 0,.bool false] 94 (0,0)):=by rw [<-hwA,<-hB5];exact qW _ _
    have s5:W.heap.size<=B5:=by rw [<-hB5];exact (EC).size
    have EA:Ext W wA:=(EC).trans hy
    show anyK _ _ _ _ _ _ _ _ (Act.put _ (some 5) _) _
    simp only [Act.put,sx0,sx1,sx2];rw [hwA,hB5];clear hwA hB5 hy;refine anyK_one (i:=9) (by kernel_rfl) rfl (fun Kk hKk=>?_);refine stepK_storeRowC rfl rfl 94 _ _ rfl B5 #[.int .u16 (qk.x:Int),.int .u16 (qk.z:Int),.bool qk.m] rfl rfl 94 _ r5 pu_info rfl (by kernel_rfl) ?_;have Eend:=ext_onlyC EA (setRow_onlyC wA B5 #[.int .u16 (qk.x:Int),.int .u16 (qk.z:Int),.bool qk.m]) s5;refine hKk.out _ _ (fun _=>HSj.out _ Eend) ?_;clear hKk Kk;simp only [sx0,sx1,sx2];refine anyK_one (i:=10) (by kernel_rfl) rfl (fun Kk hKk=>?_)
    go_wp2_with fail
    refine hKk.out _ _ (fun h=>Bool.noConfusion (show true=false from h)) ?_;clear hKk Kk;simp only [sx0,sx1,sx2];refine anyK_done (by kernel_rfl) ?_ _;exact ⟨rfl,⟨_,_,_,_,_,_,_,_,_,rfl⟩,Eend⟩
   ·refine stepK_allocP rfl 5 rfl rfl ?_
    refine hKk.out _ _ (fun _=>HSj.out _ (cthen G_ _)) ?_;clear hKk Kk;obtain ⟨wA,hwA⟩:∃ V,(W.drew).alloc (.cells #[.int .u16 0,.int .u16 0,.bool false] 94)=V:=⟨_,rfl⟩;obtain ⟨B5,hB5⟩:∃ B,(W.drew).heap.size=B:=⟨_,rfl⟩
    have hy:Ext (W.drew) wA:=by rw [<-hwA];exact ext_al _ _
    have r5:wA.heap[B5]?=some (.cells #[.int .u16 0,.int .u16 0,.bool false] 94 (0,0)):=by rw [<-hwA,<-hB5];exact qW _ _
    have s5:W.heap.size<=B5:=by rw [<-hB5];exact (G_).size
    have EA:Ext W wA:=(G_).trans hy
    show anyK _ _ _ _ _ _ _ _ (Act.put _ (some 5) _) _
    simp only [Act.put,sx0,sx1,sx2];rw [hwA,hB5];clear hwA hB5 hy;refine anyK_one (i:=3) (by kernel_rfl) rfl (fun Kk hKk=>?_)
    go_simp
    (go_at_call 68;refine (HSh.out _ (EA)).mono ?_;rintro e wC ⟨rfl,hy⟩)
    have EC:Ext W wC:=(EA).trans hy;have r5:=rowEC r5 hy;clear hy
    go_wp2_with fail
    refine hKk.out _ _ (fun _=>HSj.out _ EC) ?_;clear hKk Kk;simp only [sx0,sx1,sx2];refine anyK_take (i:=4) (v:=.tuple #[pvK qk,.bool bk]) rfl (by kernel_rfl) (by kernel_rfl) (by kernel_rfl) (N:=11) (by kernel_rfl) (by kernel_rfl) (by kernel_rfl) (fun _ _ _ h=>nomatch h.1) (qM ⟨by rfl,fun w9 h9=>exec_look rfl rfl rfl (HLk.out w9 h9.2)⟩) (HSj.out _ EC) ?_
    show anyK _ _ _ _ _ _ _ _ (Act.put _ (some 16) _) _
    simp only [Act.put,sx0,sx1,sx2];refine anyK_take (i:=5) (v:=?_) rfl (by kernel_rfl) (by kernel_rfl) (by kernel_rfl) (N:=11) (by kernel_rfl) (by kernel_rfl) (by kernel_rfl) (fun _ _ _ h=>nomatch h.1) (qM ⟨by rfl,?_⟩) (HSj.out _ EC) ?_;rotate_left 1
    ·intro w hSw
     go_simp
     try with_reducible rfl
    show anyK _ _ _ _ _ _ _ _ (Act.put _ (some 11) _) _
    simp only [Act.put,sx0,sx1,sx2];refine anyK_take (i:=6) (v:=?_) rfl (by kernel_rfl) (by kernel_rfl) (by kernel_rfl) (N:=11) (by kernel_rfl) (by kernel_rfl) (by kernel_rfl) (fun _ _ _ h=>nomatch h.1) (qM ⟨by rfl,?_⟩) (HSj.out _ EC) ?_;rotate_left 1
    ·intro w hSw
     go_simp
     try with_reducible rfl
    show anyK _ _ _ _ _ _ _ _ (Act.put _ (some 17) _) _
    simp only [Act.put,sx0,sx1,sx2];refine anyK_take (i:=7) (v:=?_) rfl (by kernel_rfl) (by kernel_rfl) (by kernel_rfl) (N:=11) (by kernel_rfl) (by kernel_rfl) (by kernel_rfl) (fun _ _ _ h=>nomatch h.1) (qM ⟨by rfl,?_⟩) (HSj.out _ EC) ?_;rotate_left 1
    ·intro w hSw
     go_simp
     try with_reducible rfl
    show anyK _ _ _ _ _ _ _ _ (Act.put _ (some 18) _) _
    simp only [Act.put,sx0,sx1,sx2];refine anyK_one (i:=9) (by kernel_rfl) rfl (fun Kk hKk=>?_);refine stepK_storeRowC rfl rfl 94 _ _ rfl B5 #[.int .u16 (qk.x:Int),.int .u16 (qk.z:Int),.bool qk.m] rfl rfl 94 _ r5 pu_info rfl (by kernel_rfl) ?_;have Eend:=ext_onlyC EC (setRow_onlyC wC B5 #[.int .u16 (qk.x:Int),.int .u16 (qk.z:Int),.bool qk.m]) s5;refine hKk.out _ _ (fun _=>HSj.out _ Eend) ?_;clear hKk Kk;simp only [sx0,sx1,sx2];refine anyK_one (i:=10) (by kernel_rfl) rfl (fun Kk hKk=>?_)
    go_wp2_with fail
    refine hKk.out _ _ (fun h=>Bool.noConfusion (show true=false from h)) ?_;clear hKk Kk;simp only [sx0,sx1,sx2];refine anyK_done (by kernel_rfl) ?_ _;exact ⟨rfl,⟨_,_,_,_,_,_,_,_,_,rfl⟩,Eend⟩
  rintro e a' W4 ⟨rfl,⟨u5,u11,u12,u13,u14,u15,u16,u17,u18,rfl⟩,hE4⟩;have HE4:=Lh hE4;clear hE4;refine wpIn_seq (region_round (by rfl) (then_shut gShut) ?_)
  cases bk
  ·go_wp2_with fail
   refine wpIn_cond_true rfl ?_;have HSj6:=Lh (fun (w':World) (hx:Ext W4 w')=>HSj.out w' (HE4.out.trans hx));refine region_round_any (by kernel_rfl) (by rfl) gShut (anyK_plain (k:=5) (S:=fun w'=>(w'.cell? ⟨H+1+1,0,none⟩=some (.map (some (H+1)))/\w'.cell? ⟨H,0,none⟩=some (.int .i64 (n:Int))/\w'.cell? ⟨H,1,none⟩=some (.slice ao ng c)/\w'.cell? ⟨H,2,none⟩=some (.map mp)/\w'.cell? ⟨Bx,0,none⟩=some (.int .u16 (x.x:Int))/\w'.cell? ⟨Bx,1,none⟩=some (.int .u16 (x.z:Int))/\w'.cell? ⟨Bx,2,none⟩=some (.bool x.m))/\MdM w' (H+1) ps pre) _ _ _ _ ?_)
   show anyK _ _ _ _ _ _ 6 #[false,false,false,false,false,false] _ _
   have E6:Ext W4 W4.drew:=qG (Ext.refl _);refine kU 0 6 rfl (HSj6.out _ E6) ?_
   show anyK _ _ _ _ _ _ _ _ (Act.put _ (some 21) _) _
   simp only [Act.put,sx0,sx1,sx2];refine kU 1 6 rfl (HSj6.out _ E6) ?_
   show anyK _ _ _ _ _ _ _ _ (Act.put _ (some 22) _) _
   simp only [Act.put,sx0,sx1,sx2];refine kU 2 6 rfl (HSj6.out _ E6) ?_
   show anyK _ _ _ _ _ _ _ _ (Act.put _ (some 23) _) _
   simp only [Act.put,sx0,sx1,sx2];refine kU 4 6 rfl (HSj6.out _ E6) ?_
   show anyK _ _ _ _ _ _ _ _ (Act.put _ (some 25) _) _
   simp only [Act.put,sx0,sx1,sx2];refine anyK_one (i:=3) (by kernel_rfl) rfl (fun Kk hKk=>?_)
   go_simp
   (go_at_call 68;refine (HSh.out _ (HE4.out.trans E6)).mono ?_;rintro e w6 ⟨rfl,hy⟩)
   have E7:Ext W4 w6:=E6.trans hy;clear hy
   go_wp2_with fail
   refine hKk.out _ _ (fun _=>HSj6.out _ E7) ?_;clear hKk Kk;simp only [sx0,sx1,sx2];obtain ⟨w7,hrun,hM7,hg7⟩:=HSt.out w6 ((HSj6.out _ E7).2) trivial;refine anyK_one (i:=5) (by kernel_rfl) rfl (fun Kk hKk=>?_);refine stepK_updM rfl rfl _ _ _ rfl (H+1) _ _ rfl rfl rfl hrun ?_;refine hKk.out _ _ (fun h=>Bool.noConfusion (show true=false from h)) ?_;clear hKk Kk;simp only [sx0,sx1,sx2];refine anyK_done (by kernel_rfl) ?_ _;have E8:=HE4.out.trans E7;have hne:=HlU.out;refine ⟨((ext_keepsOthers E8).from _).trans (KeepsFrom.of_grownBy hg7 (fun j e=>by cases e;omega)),(KpC.of_ext E8).trans (KpC.of_map hg7 ((HSj6.out _ E7).2).is),⟨⟨(hg7.block H (HiF.out.ext E8).lt (fun e=>by injection e with e;omega)).trans (HiF.out.ext E8).row⟩,(hg7.block _ (lt_rowC (rowEC HiO.out E8)) (fun e=>by injection e with e;omega)).trans (rowEC HiO.out E8),hM7⟩,?_⟩;have hb8:Below w.heap.size w w6:=HB2.out.trans (E8.mono HB2.out.size);exact hb8.grown hg7 (qL (qZ _) hb8.size) (fun k e=>by cases e;have:=HH.out;omega)
  ·go_wp2_with fail
   refine wpIn_cond_false rfl (wpIn_skip ?_);have E8:=HE4.out;exact ⟨(ext_keepsOthers E8).from _,KpC.of_ext E8,⟨HiF.out.ext E8,rowEC HiO.out E8,HSk.out _ (HSj.out _ E8).2 trivial⟩,HB2.out.trans (E8.mono HB2.out.size)⟩
 case done =>
  rintro D ys W hD hS ⟨⟨i1,i2,i3⟩,hB'⟩ hK
  have o0:W.cell? ⟨H+1+1,0,none⟩=some (.map (some (H+1))):=by rw [qD W _ 0 _ _ (0,0) i2];rfl
  have HM:=Lh (show MdM W (H+1) ps (errP n) by rw [<-show ys=errP n from hS];exact i3);have HB2:=Lh hB';have HK:=Lh hK;have Hne:=Lh (show D≠H+1/\w.heap.size<=D by have:=HH.out;have:=HlU.out;omega);clear i1 i2 i3 hS hB' hK hD FU LU hL
  go_wp2_with fail
  refine ⟨by simp,.inl ⟨_,_,rfl,run_takeDeferred HK.out,?_⟩⟩;refine ⟨_,by simp [results,Tryz.results64,go_sem],H+1,rfl,HM.out.kept (World.putObj_heap_other (fun e=>Hne.out.1 e.symm)),by have:=HH.out;omega,Below.trans HB2.out (belowK_b (w:=w) (qZ _) W D _ _ Hne.out.2 HK.out rfl rfl)⟩
 case stop =>
  rintro D cd pre W hD hp h hK;exact h.elim
end Go.Proofs.YtjfomkoedgipjaaGreatDoor
