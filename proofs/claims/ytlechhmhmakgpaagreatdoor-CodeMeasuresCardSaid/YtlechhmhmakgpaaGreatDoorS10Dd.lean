/-
  The program: all errors, for every loop's body (errors and its closure); the first of which something holds (first). A slice of bytes that grows: its block is its own and holds bytes alone; appending to it turns no word. The program: a Pauli without a sign as it is written (Text). The program: the closures of Decode and Distance; a Pauli's weight. The program: the least error of a syndrome. The reference's SameInts and SameCircuit, of alike lists and circuits.
-/
import Derived.Lib.AppendStr
import Derived.Test.YtlechhmhmakgpaaGreatDoorS09Aa
namespace Go.Proofs.YtlechhmhmakgpaaGreatDoor
set_option maxRecDepth 100000
set_option maxHeartbeats 8000000
open Go.RowKit
open Go.RowKit Go.Shelf
attribute [local go_sem] Oper.semAt_some
theorem abide_ext {J:List PK->World->Prop} {B:Nat} (h:AbidesFrom B J):∀ s W W',J s W->Ext W W'->J s W' :=
 fun s W W' hs hx=>h s W W' none hs ⟨hx.os,hx.tape,hx.output,hx.size,fun k hk _=>hx.block k hk⟩ (fun r e=>by cases e)
theorem errors1_in (l n Bf ng c:Nat) (hn:n<=12) (ao:Option Addr) (mp:Option Nat) (J Jx:List PK->World->Prop) (hJ:∀ s W W',J s W->Ext W W'->J s W')
  (hY:∀ m pre x W,J pre W->pre++[x] <+: errP n->YieldAt Fence.wide m Tryz.prog l #[pvK x] W (RndR J Jx pre x W))
  (W:World) (hL:LtL W) (hF:FrB W Bf n ao ng c mp) (h0:J [] W) :
  Calls Tryz.prog 177 #[.func (.yield l) #[] #[],.pointer (some ⟨Bf,0,none⟩)] W fun e W'=>(∃ v,e=.returned v)/\((∃ xs,xs=errP n/\J xs W')\/(∃ pre,pre <+: errP n/\Jx pre W')):=by
 have HL:=Lh hL;have HF:=Lh hF;have H0:=Lh h0;have HJ:=Lh hJ;have HS:=Lh (fun (i:Nat) (hi:i<=n) (wr:World) (hL:LtL wr) (pre:List PK) (hj:J pre wr) (hM:pre++spP n 0 (PK.of 0 0) i <+: errP n)=>spread_any l (errP n) J Jx hJ hY n hn ao ng c mp n 0 (by omega) i (PK.of 0 0) pre wr hL hj (by decide) (by decide) hi hM);have k0:=hF.x0;have Hn:=Lh hn
 have wk0:IntKind.i64.wrap ((n:Int)+1)=((n+1:Nat):Int):=by rw [IntKind.wrap_i64];omega
 clear hL hF h0 hJ hY hn
 go_enter Tryz.func177,Tryz.ntmps177
 go_wp2_with fail
 clear k0 wk0
 go_loopg [7] (n+1) (fun kk s7 wr=>∃ i:Nat,s7=.int .i64 (i:Int)/\i<=n+1/\n+1-i=kk/\J ((List.range i).flatMap (spP n 0 (PK.of 0 0))) wr/\KpC W wr)
 case atStart=>exact ⟨0,rfl,Nat.zero_le _,rfl,H0.out,KpC.refl _⟩
 case round =>
  obtain ⟨i,rfl,hi,hkk,hj,hk⟩:=hrel;have Hkk:=Lh hkk;have Hj:=Lh hj;have Hk:=Lh hk
  by_cases hin:i=n+1
  ·have q1:¬ (i:Int)<((n+1:Nat):Int):=by omega
   subst hin;clear hkk hi hj hk
   go_wp2_with fail
   go_end0
   exact ⟨⟨_,rfl⟩,Or.inl Hj.out⟩
  have hlt:i<=n:=by omega
  have q1:(i:Int)<((n+1:Nat):Int):=by omega
  have wk:IntKind.i64.wrap ((i:Int)+1)=((i+1:Nat):Int):=by rw [IntKind.wrap_i64];have:=Hn.out;omega
  have fr:=hk.fr HF.out;have k0:=fr.x0;have k1:=fr.x1;have k2:=fr.x2
  have hsub:((List.range i).flatMap (spP n 0 (PK.of 0 0)))++spP n 0 (PK.of 0 0) i=(List.range (i+1)).flatMap (spP n 0 (PK.of 0 0)):=by rw [List.range_succ,List.flatMap_append];simp
  have hpre:(List.range (i+1)).flatMap (spP n 0 (PK.of 0 0)) <+: errP n:=by
   unfold errP;obtain ⟨d,hd⟩:∃ d,n+1=i+1+d:=⟨n-i,by omega⟩
   have hr:List.range (n+1)=List.range (i+1)++(List.range d).map (fun x=>i+1+x):=by rw [hd,List.range_add]
   rw [hr,List.flatMap_append];exact List.prefix_append _ _
  have hc:Calls Tryz.prog 178 #[.agg #[.int .i64 (n:Int),.slice ao ng c,.map mp],.agg #[.int .u16 0,.int .u16 0,.bool false],.int .i64 0,.int .i64 (i:Int),.func (.yield l) #[] #[]] wr (SprR J Jx ((List.range i).flatMap (spP n 0 (PK.of 0 0))) (spP n 0 (PK.of 0 0) i) wr) :=
   HS.out i hlt wr (hk.lt HL.out) _ hj (by rw [hsub];exact hpre)
  have HC:=Lh hc;clear hc;have Hsub:=Lh hsub;have Hpre:=Lh hpre;have Hlt:=Lh hlt;clear hkk hi hj hk fr hin hsub hpre hlt
  go_wp2_with fail
  refine HC.out.mono ?_;rintro e w1 (⟨rfl,hj1,hk1⟩ | ⟨rfl,q,hq,hx⟩)
  ·have Hj1:=Lh hj1;have Hk1:=Lh (Hk.out.trans hk1)
   clear hj1 hk1 HC k0 k1 k2
   go_wp2_with fail
   go_roundg (n+1-(i+1))
   case measure=>have:=Hkk.out;have:=Hlt.out;omega
   case rel=>exact ⟨i+1,rfl,by have:=Hlt.out;omega,rfl,by rw [<-Hsub.out];exact Hj1.out,Hk1.out⟩
  ·have Hx:=Lh hx;have Hq:=Lh hq
   clear hx hq HC k0 k1 k2
   go_wp2_with fail
   refine bodyPost_ret (results_none rfl _ _ _) rfl ?_
   exact ⟨⟨_,rfl⟩,Or.inr ⟨_,by
    refine List.IsPrefix.trans ?_ Hpre.out;rw [<-Hsub.out]
    exact (List.prefix_append_right_inj _).2 Hq.out,Hx.out⟩⟩
theorem errors_stops (m n Bf ng c:Nat) (hn:n<=12) (ao:Option Addr) (mp:Option Nat) (w:World) (hL:LtL w) (hF:FrB w Bf n ao ng c mp) :
  SeqStopsK Fence.wide m Tryz.prog 177 #[.pointer (some ⟨Bf,0,none⟩)] (fun x:PK=>#[pvK x]) KpC (fun xs=>xs=errP n) (fun pre=>pre <+: errP n) (errP n).length w:=fun l J Jx W hW hJ _ hY h0 =>
 callsIn_wide.2 (errors1_in l n Bf ng c hn ao mp J Jx (abide_ext hJ) (fun m' pre x W1 hj hl=>anyDepthC m' (hY pre x W1 hj (by have:=hl.length_le;rw [List.length_append,List.length_singleton] at this;omega))) W (hL.ext hW) (hF.ext hW) h0)
theorem errors_any (N:Int) (a:Option Addr) (n c:Nat) (mp:Option Nat) (w:World):Calls Tryz.prog 156 #[.agg #[.int .i64 N,.slice a n c,.map mp]] w fun e w'=>e=.returned (.func (.func 177) #[] #[.pointer (some ⟨w.heap.size,0,none⟩)])/\w'=w.alloc (.cells #[.int .i64 N,.slice a n c,.map mp] 115):=by
 go_enter Tryz.func156,Tryz.ntmps156
 go_wp2_with fail
 go_ret
 exact ⟨rfl,rfl⟩
theorem cells_own {β:Type} (k:Nat) (c:Array Value) (t:TypeId) (f:Nat × Nat):Own (fun (_:β) W=>W.heap[k]?=some (.cells c t f)):=by
 intro s A B row hs hg hr;refine (hg.block k (gS.1 hs).1 (fun e=>?_)).trans hs;obtain ⟨o,ho,hc⟩:=hr k e.symm;rw [hs] at ho
 cases ho
 cases hc
theorem ext_keepsOthers {w w':World} (h:Ext w w'):KeepsOthers w w' :=
 KeepsOthers.of_grownBy (row:=none) ⟨h.os,h.tape,h.output,h.size,fun k hk _=>h.block k hk⟩ (fun r o e=>by cases e)
def fstP (h:PK->Bool) (n:Nat):PK:=((errP n).find? h).getD (PK.of 0 0)
theorem fstP_none {h:PK->Bool} {n:Nat} (hn:∀ p ∈ errP n,h p=false):fstP h n=PK.of 0 0:=by
 unfold fstP;rw [List.find?_eq_none.2 fun p hp=>by rw [hn p hp];decide]
 rfl
theorem fstP_some {h:PK->Bool} {n:Nat} {pre:List PK} {x:PK} (hp:pre++[x] <+: errP n) (hpre:∀ p ∈ pre,h p=false) (hx:h x=true):fstP h n=x:=by
 obtain ⟨r,hr⟩:=hp;unfold fstP;rw [<-hr,List.append_assoc,List.find?_append,List.find?_eq_none.2 fun p hp=>by rw [hpre p hp];decide];rw [List.singleton_append,List.find?_cons,hx]
 rfl
theorem first_any (F:FuncId) (caps:Array Value) (hB:PK->Bool) (n ng c:Nat) (hn:n<=12) (ao:Option Addr) (mp:Option Nat) (w:World) (hL:LtL w) (hEnt:∀ (args:Array Value) (wx:World),(callFunc F args).run Tryz.prog wx=.ok (.enter F args) wx)
  (hbody:∀ (p:PK) wx,Ext w wx->Calls Tryz.prog F (#[.agg #[.int .u16 (p.x:Int),.int .u16 (p.z:Int),.bool p.m]]++caps) wx fun e w'=>e=.returned (.bool (hB p))/\Ext wx w') :
  Calls Tryz.prog 114 #[.agg #[.int .i64 (n:Int),.slice ao ng c,.map mp],.func (.func F) #[] caps] w fun e w'=>e=.returned (pvK (fstP hB n))/\Ext w w':=by
 refine (callsIn_wide (n:=5)).1 ?_;refine callsIn_of_wp_marks Tryz.func114 rfl trivial ?_ rfl;simp only [Tryz.ntmps114,List.size_toArray,List.length_cons,List.length_nil,Nat.reduceAdd,Nat.reduceSub,Array.replicate_succ,Array.replicate_zero,List.push_toArray,List.append_toArray,List.nil_append,List.cons_append];refine wpIn_wide.2 ?_;obtain ⟨H,hH⟩:∃ H,w.heap.size=H:=⟨_,rfl⟩;obtain ⟨W0,hW0⟩:∃ W0,((w.alloc (.cells #[.int .i64 (n:Int),.slice ao ng c,.map mp] 115)).alloc (.cells #[.func (.func F) #[] caps] 163)).alloc (.cells #[.int .u16 0,.int .u16 0,.bool false] 103)=W0:=⟨_,rfl⟩
 have E0:Ext w W0:=by rw [<-hW0];exact ((ext_al w _).trans (ext_al _ _)).trans (ext_al _ _)
 have R0:FrB W0 H n ao ng c mp:=by rw [<-hW0,<-hH];exact ((FrB.new _ _ _ _ _ _).ext (ext_al _ _)).ext (ext_al _ _)
 have HE0:=Lh E0;have HW0:=Lh hW0;have HH:=Lh hH;have HR:=Lh R0;have k0:=R0.x0;have k1:=R0.x1;have k2:=R0.x2;have HE:=Lh (errors_any n ao ng c mp W0);clear E0 R0 hW0 hH
 go_upto_region 1 with fail
 rw [HW0.out,HH.out]
 go_wp2_with fail
 refine HE.out.mono ?_;rintro e U ⟨rfl,hU⟩
 have EU:Ext W0 U:=by rw [hU];exact ext_al _ _
 obtain ⟨G,hG⟩:∃ G,W0.heap.size=G:=⟨_,rfl⟩
 have FU:FrB U G n ao ng c mp:=by rw [hU,<-hG];exact FrB.new _ _ _ _ _ _
 have hb1:W0.heap[H+1]?=some (.cells #[.func (.func F) #[] caps] 163 (0,0)):=by
  rw [<-HW0.out];refine ((ext_al _ _).block _ (by simp [HH.out])).trans ?_;have:=heap_alloc_new (w.alloc (.cells #[.int .i64 (n:Int),.slice ao ng c,.map mp] 115)) (.cells #[.func (.func F) #[] caps] 163)
  rwa [World.size_alloc,HH.out] at this
 have hb2:W0.heap[H+1+1]?=some (.cells #[.int .u16 0,.int .u16 0,.bool false] 103 (0,0)):=by
  rw [<-HW0.out];have:=heap_alloc_new ((w.alloc (.cells #[.int .i64 (n:Int),.slice ao ng c,.map mp] 115)).alloc (.cells #[.func (.func F) #[] caps] 163)) (.cells #[.int .u16 0,.int .u16 0,.bool false] 103)
  rwa [World.size_alloc,World.size_alloc,HH.out] at this
 have sG:H+2<G:=by rw [<-hG];exact (gS.1 hb2).1
 have sU:U.heap.size=G+1:=by rw [hU,<-hG];simp
 have r1:=(EU.block _ (by omega)).trans hb1;have r2:=(EU.block _ (by omega)).trans hb2;have eU:Ext w U:=HE0.out.trans EU;have LU:LtL U:=hL.ext eU;rw [hG];clear hU HE k0 k1 k2 hb1 hb2 HW0
 go_wp2_with fail
 refine wpIn_wide.1 (wpIn_rangeFunc_ownH (n:=5) (F:=Fence.wide) rfl (by omega) (gf:=177) (lb:=#[.pointer (some ⟨G,0,none⟩)]) rfl trivial (enters_of Tryz.func177 (by kernel_rfl) rfl)
  (errors_stops 4 n G ng c hn ao mp U LU FU) KpC.trans kpC_b (Below.refl _ _) (fun _=>rfl)
  (fun pre W=>(W.heap[H+1]?=some (.cells #[.func (.func F) #[] caps] 163 (0,0))/\W.heap[H+1+1]?=some (.cells #[.int .u16 0,.int .u16 0,.bool false] 103 (0,0))/\∀ p ∈ pre,hB p=false)/\Below w.heap.size w W)
  (fun cd pre W=>(cd=.ret/\∃ pr x,pre=pr++[x]/\(∀ p ∈ pr,hB p=false)/\hB x=true/\W.heap[H+1+1]?=some (.cells #[.int .u16 (x.x:Int),.int .u16 (x.z:Int),.bool x.m] 103 (0,0)))/\Below w.heap.size w W)
  (OwnFrom.and (Own.from (fun s A B row hs hg hr=>⟨cells_own _ _ _ _ s A B row hs.1 hg hr,cells_own _ _ _ _ s A B row hs.2.1 hg hr,hs.2.2⟩) _) (ownFrom_below (Nat.le_refl _) eU.size))
  (fun cd=>OwnFrom.and (Own.from (fun s A B row hs hg hr=>by
   obtain ⟨h1,pr,x,h2,h3,h4,h5⟩:=hs
   exact ⟨h1,pr,x,h2,h3,h4,cells_own _ _ _ _ s A B row h5 hg hr⟩) _) (ownFrom_below (Nat.le_refl _) eU.size))
  ⟨⟨r1,r2,fun p hp=>by cases hp⟩,eU⟩
  (fun x a' W=>∃ Bx,W.heap[Bx]?=some (.cells #[.int .u16 (x.x:Int),.int .u16 (x.z:Int),.bool x.m] 103 (0,0))/\a'={ tmps:=#[.agg #[.int .i64 (n:Int),.slice ao ng c,.map mp],.func (.func F) #[] caps,.pointer (some ⟨H,0,none⟩),.pointer (some ⟨H+1,0,none⟩),.pointer (some ⟨H+1+1,0,none⟩),.pointer (some ⟨Bx,0,none⟩),.agg #[.int .i64 (n:Int),.slice ao ng c,.map mp],.func (.func 177) #[] #[.pointer (some ⟨G,0,none⟩)],pvK x,undef,undef,undef,undef,undef],defers:=[] })
  ?own ?assign ?body ?done ?stop)
 case own =>
  rintro x a' _ W W' row ⟨Bx,h1,h2⟩ hg hr;refine ⟨Bx,(hg.block Bx (gS.1 h1).1 (fun e=>?_)).trans h1,h2⟩;obtain ⟨_,o,ho,hc⟩:=hr Bx e.symm;rw [h1] at ho
  cases ho
  cases hc
 case assign =>
  rintro l pre x W K ⟨⟨i1,i2,i3⟩,hB'⟩ hK;have hpx:pvK x=.agg #[.int .u16 (x.x:Int),.int .u16 (x.z:Int),.bool x.m]:=rfl;rw [hpx];have Hi3:=Lh i3;clear i3
  gi_wp2
  have ea:=ext_al W (.cells #[.int .u16 (x.x:Int),.int .u16 (x.z:Int),.bool x.m] 103);exact hK _ _ ((KeepsOthers.alloc W _).from _) (KpC.of_ext ea) ⟨⟨(ea.block _ (gS.1 i1).1).trans i1,(ea.block _ (gS.1 i2).1).trans i2,Hi3.out⟩,hB'.trans (ea.mono hB'.size)⟩ ⟨W.heap.size,heap_alloc_new W _,rfl⟩
 case body =>
  rintro l pre x a' W hl ⟨r,hr⟩ ⟨⟨i1,i2,i3⟩,hB'⟩ ⟨Bx,hx,rfl⟩ hlt
  have f0:W.cell? ⟨H+1,0,none⟩=some (.func (.func F) #[] caps):=by rw [cell_of_row W _ 0 _ _ (0,0) i1];rfl
  have k0:W.cell? ⟨Bx,0,none⟩=some (.int .u16 (x.x:Int)):=by rw [cell_of_row W _ 0 _ _ (0,0) hx];rfl
  have k1:W.cell? ⟨Bx,1,none⟩=some (.int .u16 (x.z:Int)):=by rw [cell_of_row W _ 1 _ _ (0,0) hx];rfl
  have k2:W.cell? ⟨Bx,2,none⟩=some (.bool x.m):=by rw [cell_of_row W _ 2 _ _ (0,0) hx];rfl
  have HC:=Lh (CallsIn.inRound l (callsIn_wide (n:=5-1-1-1).2 (hbody x W hB')));have HEnt:=Lh hEnt;have Hi:=Lh (And.intro i1 (And.intro i2 i3));have HB2:=Lh hB';have Hx:=Lh hx;have Hr:=Lh hr;have Hl:=Lh hl;clear hEnt hbody i1 i2 i3 hx hr hlt FU r1 r2 LU EU hl hL
  gi_wp2
  refine ⟨trivial,?_⟩;rw [HEnt.out,Oper.uponIn_enter];refine ⟨fun h=>(by cases h),?_⟩;refine HC.out.mono ?_;rintro e w1 ⟨rfl,h1⟩;have H1:=Lh h1;have m0:=cell_ext k0 h1;have m1:=cell_ext k1 h1;have m2:=cell_ext k2 h1;have j2:=(h1.block _ (gS.1 Hi.out.2.1).1).trans Hi.out.2.1;have j1:=(h1.block _ (gS.1 Hi.out.1).1).trans Hi.out.1
  have z0:w1.cell? ⟨H+1+1,0,none⟩=some (.int .u16 0):=by rw [cell_of_row w1 _ 0 _ _ (0,0) j2];rfl
  have z1:w1.cell? ⟨H+1+1,1,none⟩=some (.int .u16 0):=by rw [cell_of_row w1 _ 1 _ _ (0,0) j2];rfl
  have z2:w1.cell? ⟨H+1+1,2,none⟩=some (.bool false):=by rw [cell_of_row w1 _ 2 _ _ (0,0) j2];rfl
  have g0:=frozen_of_row w1 (H+1+1) 0 _ _ j2;have g1:=frozen_of_row w1 (H+1+1) 1 _ _ j2;have g2:=frozen_of_row w1 (H+1+1) 2 _ _ j2;have Hr3:=Lh (row3 j2 (.int .u16 (x.x:Int)) (.int .u16 (x.z:Int)) (.bool x.m));have Hj:=Lh (And.intro j1 j2);clear h1 f0 k0 k1 k2 j1 j2 HC HEnt;obtain ⟨B,hBx⟩:∃ B,hB x=B:=⟨_,rfl⟩;rw [hBx];have HBx:=Lh hBx;clear hBx
  cases B
  ·clear m0 m1 m2 z0 z1 z2 g0 g1 g2
   gi_wp2
   refine ⟨(ext_keepsOthers H1.out).from _,KpC.of_ext H1.out,⟨Hj.out.1,Hj.out.2,fun p hp=>?_⟩,HB2.out.trans (H1.out.mono HB2.out.size)⟩
   rcases List.mem_append.1 hp with hp | hp
   ·exact Hi.out.2.2 p hp
   ·have:p=x:=by simpa using hp
    rw [this];exact HBx.out
  ·gi_wp2
   have hle:w.heap.size<=H+1+1:=by have:=HH.out;omega
   refine ⟨?_,⟨rfl,pre,x,rfl,Hi.out.2.2,HBx.out,Hr3.out⟩,put3x (HB2.out.trans (H1.out.mono HB2.out.size)) hle _ _ _⟩;exact ((ext_keepsOthers H1.out).trans ((KeepsOthers.setCell _ _ _).trans ((KeepsOthers.setCell _ _ _).trans (KeepsOthers.setCell _ _ _)))).from _
 case done =>
  rintro D ys W hD hS ⟨⟨i1,i2,i3⟩,hB'⟩ hK;have Hfst:=Lh (show fstP hB n=PK.of 0 0 from fstP_none (by rw [<-show ys=errP n from hS];exact i3))
  have z0:W.cell? ⟨H+1+1,0,none⟩=some (.int .u16 0):=by rw [cell_of_row W _ 0 _ _ (0,0) i2];rfl
  have z1:W.cell? ⟨H+1+1,1,none⟩=some (.int .u16 0):=by rw [cell_of_row W _ 1 _ _ (0,0) i2];rfl
  have z2:W.cell? ⟨H+1+1,2,none⟩=some (.bool false):=by rw [cell_of_row W _ 2 _ _ (0,0) i2];rfl
  have g0:=frozen_of_row W (H+1+1) 0 _ _ i2;have g1:=frozen_of_row W (H+1+1) 1 _ _ i2;have g2:=frozen_of_row W (H+1+1) 2 _ _ i2;have Hr3:=Lh (row3 i2 (.int .u16 0) (.int .u16 0) (.bool false));have HE3:=Lh (put3x hB' (show w.heap.size<=H+1+1 by have:=HH.out;omega) (.int .u16 0) (.int .u16 0) (.bool false));have Hne:=Lh (show D≠H+1+1/\w.heap.size<=D by have:=HH.out;omega);have HK:=Lh (((Below.heap_setCell _ ⟨H+1+1,2,none⟩ (.bool false) D Hne.out.1).trans (Below.heap_setCell _ ⟨H+1+1,1,none⟩ (.int .u16 0) D Hne.out.1)).trans ((Below.heap_setCell _ ⟨H+1+1,0,none⟩ (.int .u16 0) D Hne.out.1).trans hK));clear i1 i2 i3 hK hS hB' hD FU r1 r2 LU hL hEnt hbody
  go_wp2_with fail
  generalize ((W.setCell ⟨H+1+1,0,none⟩ (.int .u16 0)).setCell ⟨H+1+1,1,none⟩ (.int .u16 0)).setCell ⟨H+1+1,2,none⟩ (.bool false)=WF at *;refine ⟨by simp,.inl ⟨_,_,rfl,run_takeDeferred HK.out,?_⟩⟩;refine ⟨_,results_cell_row rfl _ _ (H+1+1) _ _ _ _ rfl ((World.putObj_heap_other (fun e=>Hne.out.1 e.symm)).trans Hr3.out) Tryz.underlying103 rfl (by kernel_rfl),by rw [Hfst.out];rfl,?_⟩;exact Below.trans HE3.out (belowK_b (w:=w) (Nat.le_refl _) WF D _ _ Hne.out.2 HK.out rfl rfl)
 case stop =>
  rintro D cd pre W hD hp ⟨⟨rfl,pr,x,rfl,h3,h4,h5⟩,hB'⟩ hK;have Hfst:=Lh (show fstP hB n=x from fstP_some hp h3 h4);have Hne:=Lh (show D≠H+1+1/\w.heap.size<=D by have:=HH.out;omega)
  gi_wp2
  refine ⟨by simp,.inl ⟨_,_,rfl,run_takeDeferred hK,?_⟩⟩;refine ⟨_,results_cell_row rfl _ _ (H+1+1) _ _ _ _ rfl ((World.putObj_heap_other (fun e=>Hne.out.1 e.symm)).trans h5) Tryz.underlying103 rfl (by kernel_rfl),by rw [Hfst.out];rfl,?_⟩;exact Below.trans hB' (belowK_b (w:=w) (Nat.le_refl _) W D _ _ Hne.out.2 hK rfl rfl)
def byC (l:List UInt8):List Value:=l.map fun b=>Value.int .u8 (b.toNat:Int)
theorem byC_length (l:List UInt8):(byC l).length=l.length:=by simp [byC]
theorem byC_append (l m:List UInt8):byC (l++m)=byC l++byC m:=by simp [byC]
theorem byC_one (l:List UInt8):∀ u ∈ byC l,u.oneCell'=true:=by
 intro u hu;simp only [byC,List.mem_map] at hu;obtain ⟨b,_,rfl⟩:=hu
 rfl
theorem byC_u8 (l:List UInt8):∀ u ∈ byC l,∃ x:Int,u=.int .u8 x:=by
 intro u hu;simp only [byC,List.mem_map] at hu;obtain ⟨b,_,rfl⟩:=hu;exact ⟨_,rfl⟩
def Own (w:World) (e:TypeId) (v:Value) (l:List UInt8):Prop :=
 (v=.slice none 0 0/\l=[]) \/
 ∃ g cap cur,v=.slice (some ⟨g,0,none⟩) l.length cap/\w.heap[g]?=some (.cells cur e (0,0))/\l.length<=cap/\cap<=maxLen/\cur.size=cap/\cur.toList.take l.length=byC l/\∀ u ∈ cur.toList,∃ x:Int,u=.int .u8 x
structure Apd (w w':World) (v v':Value):Prop where
 grown:w.grownBy w' v.ownBlock
 lies:v'.ownBlock=v.ownBlock\/∃ g,v'.ownBlock=some g/\w.heap.size<=g
theorem Apd.of_ext {w w':World} (h:Ext w w') (v:Value):Apd w w' v v :=
 ⟨⟨h.os,h.tape,h.output,h.size,fun k hk _=>h.block k hk⟩,Or.inl rfl⟩
theorem Apd.refl (w:World) (v:Value):Apd w w v v:=Apd.of_ext (Ext.refl w) v
theorem Apd.trans {a b c:World} {u v x:Value} (h:Apd a b u v) (k:Apd b c v x):Apd a c u x:=by
 refine ⟨⟨k.grown.os.trans h.grown.os,k.grown.tape.trans h.grown.tape,k.grown.output.trans h.grown.output,Nat.le_trans h.grown.size k.grown.size,fun i hi hne=>?_⟩,?_⟩
 ·rw [k.grown.block i (Nat.lt_of_lt_of_le hi h.grown.size) ?_,h.grown.block i hi hne]
  rcases h.lies with e | ⟨g,e,hg⟩
  ·rw [e];exact hne
  ·rw [e];intro h2;injection h2 with h2;omega
 ·rcases k.lies with e | ⟨g,e,hg⟩
  ·rw [e];exact h.lies
  ·exact Or.inr ⟨g,e,Nat.le_trans h.grown.size hg⟩
theorem Own.ext {w w':World} {e:TypeId} {v:Value} {l:List UInt8} (h:Own w e v l) (k:Ext w w'):Own w' e v l:=by
 rcases h with h | ⟨g,cap,cur,rfl,hb,rest⟩
 ·exact Or.inl h
 ·exact Or.inr ⟨g,cap,cur,rfl,(k.block g (gS.1 hb).1).trans hb,rest⟩
theorem zero_u8 (n:Nat):∀ u ∈ (Builtin.zeroCells (Value.int .u8 0).cells n).toList,∃ x:Int,u=.int .u8 x:=by
 intro u hu
 simp [Builtin.zeroCells,Value.cells,Nat.mod_one] at hu
 exact ⟨0,hu.2.symm⟩
theorem own_new (w:World) (e:TypeId) (l m:List UInt8) (old:Nat) (v:Value) (hb:l.length+m.length<=140737488355328) :
  Own (w.drew.alloc (.cells ((byC l).toArray++(byC m).toArray++Builtin.zeroCells (Value.int .u8 0).cells (grownCap w (l.length+m.length) old e-(l.length+m.length))) e)) e
    (.slice (some ⟨w.heap.size,0,none⟩) (l.length+m.length) (grownCap w (l.length+m.length) old e)) (l++m) /\
   Apd w (w.drew.alloc (.cells ((byC l).toArray++(byC m).toArray++Builtin.zeroCells (Value.int .u8 0).cells (grownCap w (l.length+m.length) old e-(l.length+m.length))) e)) v
    (.slice (some ⟨w.heap.size,0,none⟩) (l.length+m.length) (grownCap w (l.length+m.length) old e)):=by
 have hge:=grownCap_ge w (l.length+m.length) old e;have hcm:grownCap w (l.length+m.length) old e<=maxLen:=grownCap_le_maxLen w _ old e (by unfold maxLen;omega);refine ⟨Or.inr ⟨w.heap.size,_,_,by rw [List.length_append],heap_alloc_new w.drew _,by rw [List.length_append];exact hge,hcm,?_,?_,?_⟩,⟨⟨rfl,rfl,rfl,by simp,fun k hk _=>Below.heap_alloc w.drew _ k hk⟩,Or.inr ⟨_,rfl,Nat.le_refl _⟩⟩⟩
 ·have hz1:(Value.int IntKind.u8 0).cells.size=1:=rfl
  simp only [Array.size_append,List.size_toArray,size_zeroCells,hz1,byC_length];omega
 ·simp only [Array.toList_append]
  rw [byC_append,<-List.length_append,<-byC_length (l++m),byC_append];exact List.take_left
 ·intro u hu
  simp only [Array.toList_append,List.mem_append] at hu
  rcases hu with (hu | hu) | hu
  ·exact byC_u8 l u hu
  ·exact byC_u8 m u hu
  ·exact zero_u8 _ u hu
theorem own_room (w:World) (e:TypeId) (l m:List UInt8) (g cap:Nat) (cur:Array Value) (hg:w.heap[g]?=some (.cells cur e (0,0))) (hcm:cap<=maxLen) (hcs:cur.size=cap) (ht:cur.toList.take l.length=byC l) (hall:∀ u ∈ cur.toList,∃ x:Int,u=.int .u8 x) (hroom:l.length+m.length<=cap) :
  Own (w.setRow g (cur.toList.take l.length++byC m++cur.toList.drop (l.length+m.length)).toArray) e (.slice (some ⟨g,0,none⟩) (l.length+m.length) cap) (l++m) /\
   Apd w (w.setRow g (cur.toList.take l.length++byC m++cur.toList.drop (l.length+m.length)).toArray) (.slice (some ⟨g,0,none⟩) l.length cap) (.slice (some ⟨g,0,none⟩) (l.length+m.length) cap):=by
 refine ⟨Or.inr ⟨g,cap,_,by rw [List.length_append],setRow_heap w g cur _ e _ hg,by rw [List.length_append];exact hroom,hcm,?_,?_,?_⟩,⟨⟨rfl,rfl,rfl,by simp,fun k _ hk=>setRow_other w g k _ (fun h=>hk (by simp [Value.ownBlock,h]))⟩,Or.inl rfl⟩⟩
 ·simp only [List.size_toArray,List.length_append,List.length_take,List.length_drop,Array.length_toList,byC_length]
  omega
 ·rw [ht,byC_append,<-byC_length (l++m),byC_append]
  exact List.take_left
 ·intro u hu
  simp only [List.mem_append] at hu
  rcases hu with (hu | hu) | hu
  ·exact hall u (List.mem_of_mem_take hu)
  ·exact byC_u8 m u hu
  ·exact hall u (List.mem_of_mem_drop hu)
section
variable {P:Program} (w:World)
theorem Own.holds {e:TypeId} {g:Nat} {l:List UInt8} {cur:Array Value} (hg:w.heap[g]?=some (.cells cur e (0,0))) (ht:cur.toList.take l.length=byC l):∀ j u,(byC l)[j]?=some u->w.cell? ((⟨g,0,none⟩:Addr).add j)=some u:=by
 intro j u hu
 have hadd:(⟨g,0,none⟩:Addr).add j=⟨g,j,none⟩:=by unfold Addr.add;split<;>simp_all
 rw [hadd,cell_of_row w g j cur e (0,0) hg];rw [<-ht,List.getElem?_take] at hu
 split at hu
 ·simpa using hu
 ·cases hu
theorem run_append_bytes (t ty e:TypeId) (i:TypeInfo) (ht:P.underlying t=some (.slice e)) (hi:P.info? e=some i) (hz:i.zero=some (.int .u8 0)) (hsize:i.size=1) (hby:i.bytes=1)
  (v:Value) (l:List UInt8) (hown:Own w e v l) (a:Addr) (m c:Nat) (news:List UInt8) (hm:news.length=m) (hm0:0<m) (hnews:∀ j u,(byC news)[j]?=some u->w.cell? (a.add j)=some u) (hb:l.length+news.length<=140737488355328) :
  ∃ v' w',(Builtin.append_ #[t,t] ty #[v,.slice (some a) m c]).run P w=.ok v' w'/\Own w' e v' (l++news)/\Apd w w' v v':=by
 subst hm
 have hl:(byC news).length=news.length*i.size:=by rw [byC_length,hsize,Nat.mul_one]
 rcases hown with ⟨rfl,rfl⟩ | ⟨g,cap,cur,rfl,hg,hlc,hcm,hcs,htk,hall⟩
 ·have hr:=run_append_nil (P:=P) w t ty e i (.int .u8 0) ht hi hz a news.length c (byC news) hl hnews hm0 (by simp at hb;omega) (by rw [hby];simp at hb;omega)
  have hn:=own_new w e [] news 0 (.slice none 0 0) hb;simp only [List.length_nil,Nat.zero_add,List.nil_append,byC,List.map_nil,Array.empty_append] at hn hr ⊢;exact ⟨_,_,hr,hn.1,hn.2⟩
 ·by_cases hroom:l.length+news.length<=cap
  ·have hr:=run_append_room (P:=P) w t ty e i ht hi g l.length cap cur hg a news.length c (byC news) hl hnews (byC_one news) hroom (by rw [hsize,byC_length,hcs,Nat.mul_one];exact hroom)
   rw [hsize,Nat.mul_one,byC_length] at hr;have hn:=own_room w e l news g cap cur hg hcm hcs htk hall hroom;exact ⟨_,_,hr,hn.1,hn.2⟩
  ·have hr:=run_append_grow (P:=P) w t ty e i (.int .u8 0) ht hi hz ⟨g,0,none⟩ l.length cap (byC l) (by rw [byC_length,hsize,Nat.mul_one]) (Own.holds w hg htk) a news.length c (byC news) hl hnews (by omega) (by omega) (by rw [hby];exact growslice_fits (by omega) (by omega))
   have hn:=own_new w e l news cap (.slice (some ⟨g,0,none⟩) l.length cap) hb;exact ⟨_,_,hr,hn.1,hn.2⟩
end
def lt4 (k:Nat):UInt8:=if k=0 then 73 else if k=1 then 88 else if k=2 then 90 else 89
def ltK (p:PK) (q:Nat):Nat:=p.x / 2 ^ q % 2+p.z / 2 ^ q % 2*2
def txL (p:PK) (n:Nat):List UInt8:=(List.range n).map fun q=>lt4 (ltK p q)
theorem txL_snoc (p:PK) (n:Nat):txL p (n+1)=txL p n++[lt4 (ltK p n)]:=by unfold txL;rw [List.range_succ,List.map_append];rfl
theorem txL_len (p:PK) (n:Nat):(txL p n).length=n:=by simp [txL]
theorem run_convert_ownC {w:World} {v:Value} {l:List UInt8} (h:Own w 5 v l) (hl:l≠[]):(convert 152 9 v).run Tryz.prog w=.ok (.string ⟨l.toArray⟩) w:=by
 rcases h with ⟨_,rfl⟩ | ⟨g,cap,cur,rfl,hg,hlc,hcm,hcs,htk,hall⟩
 ·exact absurd rfl hl
 ·refine run_convert_bytes_back (P:=Tryz.prog) w 152 9 5 ⟨g,0,none⟩ cap l Tryz.underlying152 Tryz.underlying5 Tryz.underlying9 (fun j hj=>?_)
  have ha:(⟨g,0,none⟩:Addr).add j=⟨g,j,none⟩:=by
   unfold Addr.add
   by_cases h:j=0<;>simp [h]
  rw [ha,cell_of_row w g j cur _ (0,0) hg]
  have h1:(byC l)[j]?=some (Value.int .u8 (l[j].toNat:Int)):=by simp [byC,hj]
  rw [<-htk,List.getElem?_take,if_pos hj,Array.getElem?_toList] at h1;exact h1
theorem own_oneB (w:World) (b:UInt8):Own (w.alloc (.cells #[.int .u8 (b.toNat:Int)] 5)) 5 (.slice (some ⟨w.heap.size,0,none⟩) 1 1) [b] :=
 Or.inr ⟨w.heap.size,1,_,rfl,heap_alloc_new w _,Nat.le_refl _,by unfold maxLen;decide,rfl,rfl,fun u hu=>by
  have:u=.int .u8 (b.toNat:Int):=by simpa using hu
  exact ⟨_,this⟩⟩
theorem b_infoC:(Tryz.prog.info? 5).map (fun i=>(i.zero,i.size,i.bytes))=some (some (.int .u8 0),1,1):=by kernel_rfl
theorem let4_idx (k:Nat) (hk:k<4) (w:World):(Instr.index 9 (.string ⟨#[73,88,90,89]⟩) (.int .u16 (k:Int))).run Tryz.prog w=.ok (.int .u8 ((lt4 k).toNat:Int)) w:=by
 have i0:∀ w,(Instr.index 9 (.string ⟨#[73,88,90,89]⟩) (.int .u16 0)).run Tryz.prog w=.ok (.int .u8 73) w:=fun _=>by kernel_rfl
 have i1:∀ w,(Instr.index 9 (.string ⟨#[73,88,90,89]⟩) (.int .u16 1)).run Tryz.prog w=.ok (.int .u8 88) w:=fun _=>by kernel_rfl
 have i2:∀ w,(Instr.index 9 (.string ⟨#[73,88,90,89]⟩) (.int .u16 2)).run Tryz.prog w=.ok (.int .u8 90) w:=fun _=>by kernel_rfl
 have i3:∀ w,(Instr.index 9 (.string ⟨#[73,88,90,89]⟩) (.int .u16 3)).run Tryz.prog w=.ok (.int .u8 89) w:=fun _=>by kernel_rfl
 have h:k=0\/k=1\/k=2\/k=3:=by omega
 rcases h with rfl | rfl | rfl | rfl
 ·exact i0 w
 ·exact i1 w
 ·exact i2 w
 ·exact i3 w
theorem stepB_append_run {ops:Array Oper} {o:Oper} {a:Act} {K:Act->World->Prop} {Q:Exit->Act->World->Prop} {E:Prop} {w w':World} (hgd:o.guard=none) (s x:Operand)
  (ho:o.op=.call { callee:=.builtin .append,args:=#[s,x],argTypes:=#[152,152] }) (ht:o.type=152) (v1 v2 r:Value) (hs:a.eval s=v1) (hx:a.eval x=v2)
  (hap:(Builtin.append_ #[152,152] 152 #[v1,v2]).run Tryz.prog w=.ok r w') (h:K (a.put o.dst r) w') :
  if Region.wanted o (yielded ops a.tmps)=true then Oper.wp Tryz.prog o a w K Q else E:=by
 have hw:Region.wanted o (yielded ops a.tmps)=true:=by simp [Region.wanted,hgd]
 rw [if_pos hw];unfold Oper.wp execOp;simp only [ho,ht,resolve,invoke,builtin,Sem.run_bind,Sem.run_pure,Result.andThen_ok,List.map_toArray,List.map_cons,List.map_nil,hs,hx,hap];exact h
theorem ext_grownC {w U W:World} {k:Nat} (h:Ext w U) (hg:U.grownBy W (some k)) (hk:w.heap.size<=k):Ext w W :=
 ⟨hg.os.trans h.os,hg.tape.trans h.tape,hg.output.trans h.output,Nat.le_trans h.size hg.size,fun i hi=>(hg.block i (Nat.lt_of_lt_of_le hi h.size) (fun e=>by cases e;omega)).trans (h.block i hi)⟩
theorem or_two {a b:Nat} (ha:a<=1) (hb:b<=1):a ||| (b*2)=a+b*2:=by
 have h1:a=0\/a=1:=by omega
 have h2:b=0\/b=1:=by omega
 rcases h1 with rfl | rfl<;>rcases h2 with rfl | rfl<;>rfl
theorem pText_any (p:PK) (hm:p.m=false) (n:Nat) (hn:n<=12) (w:World) :
  Calls Tryz.prog 61 #[pvK p,.int .i64 (n:Int)] w fun e w'=>e=.returned (.string ⟨(43 :: txL p n).toArray⟩)/\Ext w w':=by
 obtain ⟨i0,hi0,hz0,hz1,hz2⟩:=info_parts b_infoC;unfold pvK;rw [hm];obtain ⟨H,hH⟩:∃ H,w.heap.size=H:=⟨_,rfl⟩;obtain ⟨U,hU⟩:∃ U,(w.alloc (.cells #[.int .u16 (p.x:Int),.int .u16 (p.z:Int),.bool false] 103))=U:=⟨_,rfl⟩;obtain ⟨W0,hW0⟩:∃ W0,U.alloc (.cells #[.int .u8 43] 5)=W0:=⟨_,rfl⟩
 have E0:Ext w W0:=by rw [<-hW0,<-hU];exact (ext_al w _).trans (ext_al _ _)
 have sU:U.heap.size=H+1:=by rw [<-hU,<-hH];simp
 have P0:PuB W0 H p.x p.z false:=by rw [<-hW0,<-hU,<-hH];exact (PuB.new _ _ _ _).ext (ext_al _ _)
 have O0:Own W0 5 (.slice (some ⟨H+1,0,none⟩) 1 1) [43]:=by rw [<-hW0,<-sU];exact own_oneB U 43
 have HE0:=Lh E0;have HU:=Lh hU;have HW0:=Lh hW0;have HH:=Lh hH;have HsU:=Lh sU;have HP:=Lh P0;have HO:=Lh O0;have Hn:=Lh hn;have HxH:=Lh (show w.heap.size<=H+1 by omega);have k2:=P0.x2;clear E0 P0 O0 hU hW0 hH sU hn hm
 go_enter Tryz.func61,Tryz.ntmps61
 go_upto_region 1 with fail
 rw [HU.out,HH.out]
 go_upto_region 2 with fail
 rw [HW0.out,HsU.out]
 go_wp2_with fail
 clear k2
 go_loopg [5,13] n (fun kk s5 s13 wr=>∃ i:Nat,s13=.int .i64 (i:Int)/\i<=n/\n-i=kk/\Own wr 5 s5 (43 :: txL p i)/\Apd W0 wr (.slice (some ⟨H+1,0,none⟩) 1 1) s5)
 case atStart=>exact ⟨0,rfl,Nat.zero_le _,rfl,HO.out,Apd.refl _ _⟩
 case round =>
  obtain ⟨i,rfl,hi,hkk,hO,hA⟩:=hrel;have Hkk:=Lh hkk;have HOi:=Lh hO;have HAi:=Lh hA
  by_cases hin:i=n
  ·have q1:¬ (i:Int)<(n:Int):=by omega
   subst hin;have hcv:=run_convert_ownC hO (by simp);clear hi hkk hO hA
   go_wp2_with fail
   go_ret
   have hg:=HAi.out.grown;refine ⟨rfl,ext_grownC HE0.out hg HxH.out⟩
  have hlt:i<n:=by omega
  have q1:(i:Int)<(n:Int):=by omega
  have q0:(0:Int)<=(i:Int):=by omega
  have wk:IntKind.i64.wrap ((i:Int)+1)=((i+1:Nat):Int):=by rw [IntKind.wrap_i64];have:=Hn.out;omega
  have hcast:((2 ^ i:Nat):Int)=(2:Int) ^ i:=by rw [Int.natCast_pow];rfl
  have hmin:min i 16=i:=by have:=Hn.out;omega
  obtain ⟨dx,hdx⟩:∃ d,p.x / 2 ^ i=d:=⟨_,rfl⟩;obtain ⟨dz,hdz⟩:∃ d,p.z / 2 ^ i=d:=⟨_,rfl⟩
  have bx:dx<65536:=by rw [<-hdx];exact Nat.lt_of_le_of_lt (Nat.div_le_self _ _) p.hx
  have bz:dz<65536:=by rw [<-hdz];exact Nat.lt_of_le_of_lt (Nat.div_le_self _ _) p.hz
  have r1:(p.x:Int) / 2 ^ i=(dx:Int):=by rw [<-hcast,<-Int.natCast_ediv,hdx]
  have r1':(p.x:Int) / 2 ^ min i 16=(dx:Int):=by rw [hmin];exact r1
  have s1:(p.z:Int) / 2 ^ i=(dz:Int):=by rw [<-hcast,<-Int.natCast_ediv,hdz]
  have s1':(p.z:Int) / 2 ^ min i 16=(dz:Int):=by rw [hmin];exact s1
  have r2:=and1_u16 bx;have s2:=and1_u16 bz;obtain ⟨ex,hex⟩:∃ e,dx % 2=e:=⟨_,rfl⟩;obtain ⟨ez,hez⟩:∃ e,dz % 2=e:=⟨_,rfl⟩;rw [hex] at r2;rw [hez] at s2
  have s3:IntKind.u16.wrap ((ez:Int)*2)=((ez*2:Nat):Int):=by rw [show (ez:Int)*2=((ez*2:Nat):Int) by omega];exact wrapu (by omega)
  obtain ⟨e2,he2⟩:∃ e,ez*2=e:=⟨_,rfl⟩;rw [he2] at s3;obtain ⟨k,hk⟩:∃ k,ex+e2=k:=⟨_,rfl⟩
  have r4:bits .or .u16 (ex:Int) (e2:Int)=(k:Int):=by rw [or_u16 (by omega) (by omega),<-he2,or_two (by omega) (by omega),he2,hk]
  have hk4:k<4:=by omega
  have hidx:=let4_idx k hk4
  have hltk:ltK p i=k:=by unfold ltK;rw [hdx,hdz,hex,hez,he2,hk]
  obtain ⟨b,hb⟩:∃ b,lt4 k=b:=⟨_,rfl⟩;rw [hb] at hidx;have Hst:=Lh (show 43 :: txL p (i+1)=(43 :: txL p i)++[b] by rw [txL_snoc,hltk,hb];rfl);have Hlt:=Lh hlt;have hPw:PuB wr H p.x p.z false:=⟨(hA.grown.block H (HP.out.lt) (by simp [Value.ownBlock])).trans HP.out.row⟩;have c0:=hPw.x0;have c1:=hPw.x1;clear hi hkk hin hlt hcast hmin hdx hdz bx bz hex hez he2 hk hk4 hltk hb hPw hO hA
  go_upto_region 7 with fail
  obtain ⟨v',w',hap,hown',hapd⟩:=run_append_bytes (P:=Tryz.prog) ((wr.alloc (.cells #[.int .u8 (b.toNat:Int)] 5)).drew) 152 152 5 i0 Tryz.underlying152 hi0 hz0 hz1 hz2 _ (43 :: txL p i) (HOi.out.ext (Below.drew (ext_al _ _))) ⟨wr.heap.size,0,none⟩ 1 1 [b] rfl (by decide) (fun j u hj=>by
   have hr:=((Below.drew (Ext.refl _):Ext (wr.alloc (.cells #[.int .u8 (b.toNat:Int)] 5)) _).block wr.heap.size (by simp)).trans (heap_alloc_new _ _)
   cases j with
   | zero =>
    have:Value.int .u8 (b.toNat:Int)=u:=by simpa [byC] using hj
    rw [<-this]
    show World.cell? _ ⟨wr.heap.size,0,none⟩=_
    rw [cell_of_row _ _ 0 _ _ (0,0) hr];rfl
   | succ j=>simp [byC] at hj) (by simp only [List.length_cons,List.length_nil,txL_len];have:=Hn.out;have:=Hlt.out;omega)
  have Hnew:=Lh (And.intro hown' ((HAi.out.trans (Apd.of_ext (Below.drew (ext_al _ _)) _)).trans hapd));have Hap:=Lh hap;clear hap hown' hapd
  go_region_law (refine stepB_append_run (by rfl) _ _ (by rfl) (by rfl) _ _ _ (by rfl) (by rfl) Hap.out ?_)
  all_goals
   clear Hap c0 c1 hidx r1 r1' s1 s1' r2 s2 s3 r4
   go_wp2_with fail
   go_roundg (n-(i+1))
   case measure=>have:=Hkk.out;have:=Hlt.out;omega
   case rel=>exact ⟨i+1,rfl,Hlt.out,rfl,by rw [Hst.out];exact Hnew.out.1,Hnew.out.2⟩
theorem decode1_any (p:PK) (l:List PK) (N:Int) (ao:Option Addr) (n c:Nat) (mp:Option Nat) (Bf Bw m:Nat) (w:World) (hl:PsAt w ao n l) (hn:n<=12) (hF:FrB w Bf N ao n c mp) (hw:w.cell? ⟨Bw,0,none⟩=some (.int .u16 (m:Int))) :
  Calls Tryz.prog 113 #[.agg #[.int .u16 (p.x:Int),.int .u16 (p.z:Int),.bool p.m],.pointer (some ⟨Bf,0,none⟩),.pointer (some ⟨Bw,0,none⟩)] w fun e w'=>e=.returned (.bool (shN l p == m))/\Ext w w':=by
 obtain ⟨s,hs⟩:∃ s,shN l p=s:=⟨_,rfl⟩;obtain ⟨B,hB⟩:∃ B,(s == m)=B:=⟨_,rfl⟩
 have hb:((s:Int) == (m:Int))=B:=by rw [<-hB,Bool.eq_iff_iff,beq_iff_eq,beq_iff_eq];omega
 have hb':decide ((s:Int)=(m:Int))=B:=by rw [<-hb];rfl
 rw [hs,hB];obtain ⟨H,hH⟩:∃ H,w.heap.size=H:=⟨_,rfl⟩;obtain ⟨U,hU⟩:∃ U,w.alloc (.cells #[.int .u16 (p.x:Int),.int .u16 (p.z:Int),.bool p.m] 103)=U:=⟨_,rfl⟩
 have EU:Ext w U:=by rw [<-hU];exact ext_al _ _
 have P0:PuB U H p.x p.z p.m:=by rw [<-hU,<-hH];exact PuB.new w _ _ _
 have HS:=Lh (fun (wx:World) (hx:Ext U wx)=>shown_any l p N ao n c mp wx ((hl.ext EU).ext hx) hn);rw [hs] at HS;have FU:=hF.ext EU;have k0:=FU.x0;have k1:=FU.x1;have k2:=FU.x2;have p0:=P0.x0;have p1:=P0.x1;have p2:=P0.x2;have m0:=cell_ext hw EU;have HEU:=Lh EU;have HU:=Lh hU;have HH:=Lh hH;have Hm:=Lh m0;have G_:Ext U U.drew:=Below.drew (Ext.refl _);clear hl hF hw EU P0 FU hU hH hs hB
 go_enter Tryz.func113,Tryz.ntmps113
 go_upto_region 1 with fail
 rw [HU.out,HH.out];clear HU HH
 go_region_with (first
  | (go_at_call 109;refine (HS.out _ G_).mono ?_;rintro e w1 ⟨rfl,h1⟩;have m1:=cell_ext Hm.out (G_.trans h1);go_wp2_with fail))
 all_goals
  go_wp2_with fail
  go_ret
  exact ⟨rfl,HEU.out.trans (G_.trans h1)⟩
def deF (N:Int) (gens:List (List UInt8)) (l:List Int):Int × Int:=if (rsF N gens).1≠0 then rsF N gens else rmF l (gens.length:Int)
def deP (n:Nat) (gens:List (List UInt8)) (l:List Int):PK:=fstP (fun p=>shN (psL n gens) p == mkN l) n
def DeR (Y:Int × Int) (T:List UInt8) (w:World) (e:Ending) (w':World):Prop :=
 e=.returned (.tuple #[.string ⟨(if Y.1=0 then T else []).toArray⟩,.agg #[.int .i64 Y.1,.int .i64 Y.2]])/\Ext w w'
theorem DeR.bad {Y:Int × Int} {T:List UInt8} {w w':World} {a b:Int} (h:Y=(a,b)) (ha:¬ a=0) (hx:Ext w w'):DeR Y T w (.returned (.tuple #[.string ⟨#[]⟩,.agg #[.int .i64 a,.int .i64 b]])) w':=by
 subst h;exact ⟨by rw [if_neg ha],hx⟩
theorem DeR.good {Y:Int × Int} {T T':List UInt8} {w w':World} (h:Y=(0,0)) (hT:T'=T) (hx:Ext w w'):DeR Y T w (.returned (.tuple #[.string ⟨T'.toArray⟩,.agg #[.int .i64 0,.int .i64 0]])) w':=by
 subst h;subst hT;exact ⟨by rw [if_pos rfl],hx⟩
theorem rmF_zero {l:List Int} {k:Int} (h:(rmF l k).1=0):rmF l k=(0,0):=by
 unfold rmF at h ⊢
 split
 ·rename_i h1;rw [if_pos h1] at h;exact absurd h (by decide)
 ·rename_i h1
  rw [if_neg h1] at h
  split
  ·rename_i h2;rw [if_pos h2] at h;exact absurd h (by simp)
  ·rfl
theorem mem_flat_false {α:Type} {f:α->List PK} {l:List α} (h:∀ a ∈ l,∀ p ∈ f a,p.m=false):∀ p ∈ l.flatMap f,p.m=false:=fun p hp=>by
 obtain ⟨a,ha,hp⟩:=List.mem_flatMap.1 hp;exact h a ha p hp
theorem spP_m:∀ (k q:Nat) (p:PK) (wt:Nat),p.m=false->∀ x ∈ spP k q p wt,x.m=false
 | 0,q,p,wt,h,x,hx=>by
  have:x=p:=by simpa [spP] using hx
  rw [this];exact h
 | k+1,q,p,wt,h,x,hx=>by
  rw [spP_succ] at hx
  rcases List.mem_append.1 hx with hx | hx
  ·split at hx
   ·exact spP_m k (q+1) p wt h x hx
   ·cases hx
  ·split at hx
   ·cases hx
   ·obtain ⟨j,_,hj⟩:=List.mem_flatMap.1 hx
    exact spP_m k (q+1) (nxP p q j) (wt-1) rfl x hj
theorem fstP_m (h:PK->Bool) (n:Nat):(fstP h n).m=false:=by
 unfold fstP
 cases hf:(errP n).find? h with
 | none=>rfl
 | some x=>exact mem_flat_false (fun a _=>spP_m n 0 (PK.of 0 0) a rfl) x (List.mem_of_find?_eq_some hf)
theorem LtL.far {w w':World} {k:Nat} (h:LtL w) (hO:Only k w w') (hk:k≠(3:Nat)):LtL w':=by
 obtain ⟨t,hr⟩:=h.row;exact ⟨t,(hO.block _ (Ne.symm hk)).trans hr⟩
theorem FrB.far {w w':World} {k g:Nat} {N:Int} {a:Option Addr} {n c:Nat} {mp:Option Nat} (h:FrB w g N a n c mp) (hO:Only k w w') (hk:g≠k):FrB w' g N a n c mp:=⟨(hO.block g hk).trans h.row⟩
theorem CoB.far {w w':World} {k g:Nat} {N:Int} {a:Option Addr} {n c:Nat} (h:CoB w g N a n c) (hO:Only k w w') (hk:g≠k):CoB w' g N a n c:=⟨(hO.block g hk).trans h.row⟩
theorem FtB.farC {w w':World} {k g:Nat} {u v:Int} (h:FtB w g u v) (hO:Only k w w') (hk:g≠k):FtB w' g u v:=⟨(hO.block g hk).trans h.row⟩
theorem Decode_any (N:Int) (gens:List (List UInt8)) (l:List Int) (ao:Option Addr) (k c:Nat) (bo:Option Addr) (bn bc:Nat) (w:World) (hG:StrsAt w ao k gens) (hT:∀ T ∈ gens,T.length<=9223372036854775807) (hk9:k<=9223372036854775806) (hI:IntsAt w bo bn l) (hL:LtL w) :
  Calls Tryz.prog 70 #[.agg #[.int .i64 N,.slice ao k c],.slice bo bn bc] w fun e w'=>DeR (deF N gens l) (43 :: txL (deP N.toNat gens l) N.toNat) w e w':=by
 obtain ⟨Y,hY⟩:∃ Y,deF N gens l=Y:=⟨_,rfl⟩;rw [hY];unfold deF at hY;obtain ⟨H,hH⟩:∃ H,w.heap.size=H:=⟨_,rfl⟩;obtain ⟨W0,hW0⟩:∃ W0,(w.alloc (.cells #[.int .i64 N,.slice ao k c] 59)).alloc (.cells #[.int .i64 0,.int .i64 0] 29)=W0:=⟨_,rfl⟩
 have E0:Ext w W0:=by rw [<-hW0];exact (ext_al w _).trans (ext_al _ _)
 have C0:CoB W0 H N ao k c:=by rw [<-hW0,<-hH];exact (CoB.new w _ _ _ _).ext (ext_al _ _)
 have bF:FtB W0 (H+1) 0 0:=⟨by
  have:=heap_alloc_new (w.alloc (.cells #[.int .i64 N,.slice ao k c] 59)) (.cells #[.int .i64 0,.int .i64 0] 29);rw [<-hW0,<-hH]
  simpa using this⟩
 have HRd:=Lh (readSearched_any N gens ao k c W0 (hG.ext E0) hT hk9);unfold RsP at HRd
 have hz:(rsF N gens).1=0->1<=N/\N<=12/\(gens.length:Int)<=N:=fun h=>by
  unfold rsF at h
  split at h
  ·exact absurd h (by decide)
  ·have:=cc_zero h
   exact ⟨this.1,this.2.1,this.2.2.1⟩
 obtain ⟨F,hF⟩:∃ F,rsF N gens=F:=⟨_,rfl⟩;obtain ⟨F0,F1⟩:=F;rw [hF] at HRd hY hz;simp only at HRd hY hz;have HE0:=Lh E0;have HFt:=Lh bF;have HC:=Lh C0;have HW0:=Lh hW0;have HH:=Lh hH;have HwH:=Lh (show w.heap.size<=H+1 by omega);have HY:=Lh hY;have Hz:=Lh hz;have Hlg:=Lh (show gens.length=k from hG.1);have HI:=Lh (hI.ext E0);have HL:=Lh (hL.ext E0);have v0:=C0.x0;have v1:=C0.x1;clear hG hT hk9 hH hW0 E0 C0 bF hF hY hz hI hL
 go_enter Tryz.func70,Tryz.ntmps70
 go_upto_region 1 with fail
 rw [HW0.out,HH.out]
 go_wp2_with fail
 refine HRd.out.mono ?_;rintro e w1 ⟨N',a,n,c',mp,rfl,hx1,hrd⟩;obtain ⟨U,hU⟩:∃ U,(w1.alloc (.cells #[.int .i64 N',.slice a n c',.map mp] 115)).alloc (.cells #[.int .i64 F0,.int .i64 F1] 29)=U:=⟨_,rfl⟩;obtain ⟨K,hK⟩:∃ K,w1.heap.size=K:=⟨_,rfl⟩
 have E1U:Ext w1 U:=by rw [<-hU];exact (ext_al _ _).trans (ext_al _ _)
 have EU:Ext W0 U:=hx1.trans E1U
 have fU:FrB U K N' a n c' mp:=by rw [<-hU,<-hK];exact (FrB.new _ _ _ _ _ _).ext (ext_al _ _)
 have bU:FtB U (K+1) F0 F1:=⟨by
  have:=heap_alloc_new (w1.alloc (.cells #[.int .i64 N',.slice a n c',.map mp] 115)) (.cells #[.int .i64 F0,.int .i64 F1] 29);rw [<-hU,<-hK]
  simpa using this⟩
 have hKH:H+1<K:=by rw [<-hK];exact Nat.lt_of_lt_of_le HFt.out.lt hx1.size
 have hK0:(3:Nat)<K:=by rw [<-hK];exact Nat.lt_of_lt_of_le HL.out.lt hx1.size
 have HU:=Lh hU;have HK:=Lh hK;have HfU:=Lh fU;have HEU:=Lh EU;have Hrd:=Lh hrd;have HE1U:=Lh E1U;have HbU:=Lh bU;have HKH:=Lh (And.intro hKH hK0);have u0:=bU.x0;have u1:=bU.x1;clear hx1 hU hK EU bU fU v0 v1 HRd hrd E1U hKH hK0
 go_upto_region 2 with fail
 rw [HU.out,HK.out];clear HU HK
 by_cases hz:F0=0
 rotate_left 1
 ·have hcb:=nt hz
  have hYe:=HY.out;rw [if_pos hz] at hYe;have HYe:=Lh hYe;have bz:=HFt.out.ext HEU.out;have x0':=bz.x0;have x1':=bz.x1;have g0':=bz.f 0;have g1':=bz.f 1;have HEy:=Lh (HE0.out.trans HEU.out);have Hnz:=Lh hz;clear bz hYe hz
  go_upto_region 3 with fail
  go_region
  go_wp2_with fail
  exact bodyPost_ret (v:=.tuple #[.string ⟨#[]⟩,.agg #[.int .i64 F0,.int .i64 F1]]) (by simp [results,Tryz.results70,go_sem,x0',x1']) rfl (DeR.bad HYe.out.symm Hnz.out (put2d HEy.out HwH.out _ _))
 have hcb:=nf' hz;obtain ⟨hN',hps,hac,hcm,_⟩:=Hrd.out hz;subst hN';obtain ⟨n1,n12,nk⟩:=Hz.out hz;rw [Hlg.out] at nk;obtain ⟨nn,rfl⟩:∃ nn:Nat,N'=(nn:Int):=⟨N'.toNat,by omega⟩;simp only [Int.toNat_natCast] at hps ⊢;have hYe:=HY.out;rw [if_neg (by simp [hz])] at hYe;rw [Hlg.out] at hYe
 have hnk:n=k:=by have h9:=hps.1;unfold psL at h9;rw [List.length_map,Hlg.out] at h9;omega
 rw [<-hnk] at hYe
 have hnn:nn<=12/\1<=nn:=by omega
 have hk12:n<=12:=by omega
 have HRm:=Lh (readMarks_any l (n:Int) bo bn bc U (HI.out.ext HEU.out) (by omega));obtain ⟨R,hR⟩:∃ R,rmF l (n:Int)=R:=⟨_,rfl⟩;obtain ⟨R0,R1⟩:=R;have hr0:=rmF_zero (l:=l) (k:=(n:Int));rw [hR] at HRm hYe hr0;simp only at HRm hr0;have Hr0:=Lh (fun (h:R0=0)=>show R1=0 from congrArg Prod.snd (hr0 h));clear hr0;have HYe:=Lh hYe;have Hnn:=Lh hnn;have Hk12:=Lh hk12;have HpU:=Lh (hps.ext HE1U.out);have f0:=HfU.out.x0;have f1:=HfU.out.x1;have f2:=HfU.out.x2;have b0:=HbU.out.f 0;have b1:=HbU.out.f 1;clear hz hps hac hcm n1 n12 nk hYe hnk hnn hk12 HY Hrd hR
 go_upto_region 4 with fail
 clear hcb
 go_wp2_with fail
 refine HRm.out.mono ?_;rintro e w2 ⟨m,rfl,hx2,hm⟩;obtain ⟨K4,hK4⟩:∃ K,w2.heap.size=K:=⟨_,rfl⟩;obtain ⟨V,hV⟩:∃ V,w2.alloc (.cells #[.int .u16 (m:Int)] 158)=V:=⟨_,rfl⟩;obtain ⟨U4,hU4⟩:∃ U,(V.setCell ⟨K+1,0,none⟩ (.int .i64 R0)).setCell ⟨K+1,1,none⟩ (.int .i64 R1)=U:=⟨_,rfl⟩
 have EV:Ext U V:=by rw [<-hV];exact hx2.trans (ext_al _ _)
 have hO:Only (K+1) V U4:=by rw [<-hU4];exact ((Only.refl _ _).setCell _ _).setCell _ _
 have bV:=HbU.out.ext EV
 have bU4:FtB U4 (K+1) R0 R1:=by rw [<-hU4];exact ⟨row_put (row_put bV.row rfl) rfl⟩
 have hK4K:K+1<K4:=by rw [<-hK4];exact Nat.lt_of_lt_of_le HbU.out.lt hx2.size
 have mV:V.heap[K4]?=some (.cells #[.int .u16 (m:Int)] 158 (0,0)):=by rw [<-hV,<-hK4];exact heap_alloc_new _ _
 have hEV0:Ext W0 V:=HEU.out.trans EV;have hE4:Ext w U4:=ext_onlyC (HE0.out.trans hEV0) hO (by have:=HwH.out;have:=HKH.out;omega);have hf4:=(HfU.out.ext EV).far hO (by omega);have hc4:=(HC.out.ext hEV0).far hO (by have:=HKH.out;omega);have hF4:=(HFt.out.ext hEV0).farC hO (by have:=HKH.out;omega);have hp4:PsAt U4 a n (psL nn gens):=(HpU.out.ext EV).far hO bV.row no16'
 have hm4:U4.cell? ⟨K4,0,none⟩=some (.int .u16 (m:Int)):=by rw [World.cell?_of_block (a:=⟨K4,0,none⟩) (hO.block K4 (by omega)),cell_of_row V K4 0 _ _ (0,0) mV];rfl
 have hL4:LtL U4:=(HL.out.ext hEV0).far hO (by have:=HKH.out;omega);have w0:=bV.x0;have w1':=bV.x1;have w2':=bV.f 0;have w3':=bV.f 1;rw [<-hV] at w0 w1' w2' w3';have HE4:=Lh hE4;have HFt:=Lh hF4;have HV:=Lh hV;have HK4:=Lh hK4;have HU4:=Lh hU4;have Hf4:=Lh hf4;have Hc4:=Lh hc4;have Hp4:=Lh hp4;have Hm4:=Lh hm4;have HL4:=Lh hL4;have Hb4:=Lh bU4;have Hm:=Lh hm;have HKe:=Lh hK4K;clear hx2 EV hO bV bU4 mV hEV0 hE4 hf4 hc4 hF4 hp4 hm4 hL4 hV hK4 hU4 hm HRm u0 u1 f0 f1 f2 b0 b1 hK4K
 go_upto_region 5 with fail
 rw [HV.out,HK4.out,HU4.out];clear HV HK4 HU4 w0 w1' w2' w3';have q0:=Hb4.out.x0;have q1:=Hb4.out.x1
 by_cases hz:R0=0
 rotate_left 1
 ·have hcb:=nt hz
  have bz:=HFt.out;have x0':=bz.x0;have x1':=bz.x1;have g0':=bz.f 0;have g1':=bz.f 1;have HEy:=Lh HE4.out;have Hnz:=Lh hz;clear bz hz
  go_upto_region 6 with fail
  go_region
  go_wp2_with fail
  exact bodyPost_ret (v:=.tuple #[.string ⟨#[]⟩,.agg #[.int .i64 R0,.int .i64 R1]]) (by simp [results,Tryz.results70,go_sem,x0',x1']) rfl (DeR.bad HYe.out.symm Hnz.out (put2d HEy.out HwH.out _ _))
 have hcb:=nf' hz;have hmk:=Hm.out hz;subst hmk
 have HF2:=Lh (show Y=(0,0) by
  have h9:=HYe.out;have h8:=Hr0.out hz
  rw [<-h9,hz,h8])
 have HFi:=Lh (fun (wx:World) (hx:Ext U4 wx)=>first_any 113 #[.pointer (some ⟨K,0,none⟩),.pointer (some ⟨K4,0,none⟩)] (fun p=>shN (psL nn gens) p == mkN l) nn n c' Hnn.out.1 a mp wx (HL4.out.ext hx) (enters_of Tryz.func113 (by kernel_rfl) rfl) (fun p wy hy=>decode1_any p (psL nn gens) (nn:Int) a n c' mp K K4 (mkN l) wy (Hp4.out.ext (hx.trans hy)) Hk12.out (Hf4.out.ext (hx.trans hy)) (cell_ext Hm4.out (hx.trans hy))));have hfm:=fstP_m (fun p=>shN (psL nn gens) p == mkN l) nn;obtain ⟨fp,hfp⟩:∃ fp,fstP (fun p=>shN (psL nn gens) p == mkN l) nn=fp:=⟨_,rfl⟩;rw [hfp] at HFi hfm;have HTx:=Lh (fun wx=>pText_any fp hfm nn Hnn.out.1 wx);have HT2:=Lh (show 43 :: txL fp nn=43 :: txL (deP ((nn:Int).toNat) gens l) ((nn:Int).toNat) by rw [Int.toNat_natCast];unfold deP;rw [hfp]);unfold pvK at HFi HTx;have f0:=Hf4.out.x0;have f1:=Hf4.out.x1;have f2:=Hf4.out.x2;have d0:=Hc4.out.x0;clear hz hfm hfp q1
 go_upto_region 8 with fail
 have HSj:=Lh (fun (w':World) (hx:Ext U4 w')=>(show w'.cell? ⟨K,0,none⟩=some (.int .i64 (nn:Int))/\w'.cell? ⟨K,1,none⟩=some (.slice a n c')/\w'.cell? ⟨K,2,none⟩=some (.map mp)/\w'.cell? ⟨H,0,none⟩=some (.int .i64 (nn:Int)) from ⟨cell_ext f0 hx,cell_ext f1 hx,cell_ext f2 hx,cell_ext d0 hx⟩));have G_:Ext U4 U4.drew:=Below.drew (Ext.refl _);clear f0 f1 f2 d0;refine wp_region_K 8 (fun w'=>w'.cell? ⟨K,0,none⟩=some (.int .i64 (nn:Int))/\w'.cell? ⟨K,1,none⟩=some (.slice a n c')/\w'.cell? ⟨K,2,none⟩=some (.map mp)/\w'.cell? ⟨H,0,none⟩=some (.int .i64 (nn:Int))) (by kernel_rfl) ?_
 show anyK _ _ _ _ _ _ 9 #[false,false,false,false,false,false,false,false,false] _ _
 refine kT 0 9 (v:=?_) rfl (Or.inl ⟨by rfl,?_⟩) (HSj.out _ G_) ?_;rotate_left 1
 ·intro w hSw
  go_simp
  try with_reducible rfl
 show anyK _ _ _ _ _ _ _ _ (Act.put _ (some 32) _) _
 simp only [Act.put,sx0,sx1,sx2];refine kT 1 9 (v:=?_) rfl (Or.inl ⟨by rfl,?_⟩) (HSj.out _ G_) ?_;rotate_left 1
 ·intro w hSw
  go_simp
  try with_reducible rfl
 show anyK _ _ _ _ _ _ _ _ (Act.put _ (some 33) _) _
 simp only [Act.put,sx0,sx1,sx2];refine kT 3 9 (v:=?_) rfl (Or.inl ⟨by rfl,?_⟩) (HSj.out _ G_) ?_;rotate_left 1
 ·intro w hSw
  go_simp
  try with_reducible rfl
 show anyK _ _ _ _ _ _ _ _ (Act.put _ (some 35) _) _
 simp only [Act.put,sx0,sx1,sx2];refine kT 4 9 (v:=?_) rfl (Or.inl ⟨by rfl,?_⟩) (HSj.out _ G_) ?_;rotate_left 1
 ·intro w hSw
  go_simp
  try with_reducible rfl
 show anyK _ _ _ _ _ _ _ _ (Act.put _ (some 36) _) _
 simp only [Act.put,sx0,sx1,sx2];refine kT 6 9 (v:=?_) rfl (Or.inl ⟨by rfl,?_⟩) (HSj.out _ G_) ?_;rotate_left 1
 ·intro w hSw
  go_simp
  try with_reducible rfl
 show anyK _ _ _ _ _ _ _ _ (Act.put _ (some 38) _) _
 simp only [Act.put,sx0,sx1,sx2];refine anyK_one (i:=2) (by kernel_rfl) rfl (fun Kk hKk=>?_)
 go_simp
 (go_at_call 114;refine (HFi.out _ G_).mono ?_;rintro e w5 ⟨rfl,hx5⟩)
 have E5:Ext U4 w5:=G_.trans hx5
 go_wp2_with fail
 refine hKk.out _ _ (fun _=>HSj.out _ E5) ?_;clear hKk Kk hx5;simp only [sx0,sx1,sx2];refine anyK_one (i:=5) (by kernel_rfl) rfl (fun Kk hKk=>?_)
 go_simp
 (go_at_call 61;refine (HTx.out w5).mono ?_;rintro e w6 ⟨rfl,hx6⟩)
 have E6:Ext U4 w6:=E5.trans hx6
 go_wp2_with fail
 refine hKk.out _ _ (fun _=>HSj.out _ E6) ?_;clear hKk Kk hx6;simp only [sx0,sx1,sx2];refine anyK_one (i:=7) (by kernel_rfl) rfl (fun Kk hKk=>?_)
 go_wp2_with fail
 refine hKk.out _ _ (fun _=>HSj.out _ E6) ?_;clear hKk Kk;simp only [sx0,sx1,sx2];have bz:=HFt.out.ext E6;refine anyK_one (i:=8) (by kernel_rfl) rfl (fun Kk hKk=>?_);refine stepK_storeRowC rfl rfl 29 _ _ rfl (H+1) #[.int .i64 0,.int .i64 0] rfl rfl 29 _ bz.row ftc_info rfl (by kernel_rfl) ?_;refine hKk.out _ _ (fun h=>Bool.noConfusion (show true=false from h)) ?_;clear hKk Kk;simp only [sx0,sx1,sx2];refine anyK_done (by kernel_rfl) ?_ _;have on1:=setRow_onlyC w6 (H+1) #[.int .i64 0,.int .i64 0];have bX:FtB (w6.setRow (H+1) #[.int .i64 0,.int .i64 0]) (H+1) 0 0:=⟨setRow_heap w6 (H+1) _ _ _ _ bz.row⟩;have x0':=bX.x0;have x1':=bX.x1;have HEx:=Lh (ext_onlyC (HE4.out.trans E6) on1 HwH.out);generalize w6.setRow (H+1) #[.int .i64 0,.int .i64 0]=wX at *;clear bz bX on1 E5 E6 G_ HSj
 go_wp2_with fail
 exact bodyPost_ret (v:=.tuple #[.string ⟨(43 :: txL fp nn).toArray⟩,.agg #[.int .i64 0,.int .i64 0]]) (by simp [results,Tryz.results70,go_sem,x0',x1']) rfl (DeR.good HF2.out HT2.out HEx.out)
theorem sameInts_any (l:List Int) (a1:Option Addr) (n c1:Nat) (a2:Option Addr) (c2:Nat) (w:World) (h1:IntsAt w a1 n l) (h2:IntsAt w a2 n l) (hc1:n<=c1) (hm1:c1<=9223372036854775807) :
  Calls Tryz.prog 11 #[.slice a1 n c1,.slice a2 n c2] w fun e w'=>e=.returned (.bool true)/\Ext w w':=by
 have H1:=Lh h1;have H2:=Lh h2;clear h1 h2
 go_enter Tryz.func11,Tryz.ntmps11
 go_wp2_with fail
 go_loopg [5] n (fun kk s5 wx=>∃ i:Nat,s5=.int .i64 (i:Int)/\i<=n/\n-i=kk/\Ext w wx)
 case atStart=>exact ⟨0,rfl,by omega,by omega,Ext.refl w⟩
 case round =>
  obtain ⟨i,rfl,hi1,hk,hE⟩:=hrel;have HE:=Lh hE
  by_cases hin:i=n
  ·have h2:¬ (i:Int)<(n:Int):=by omega
   clear hE
   go_wp2_with fail
   go_ret
   exact ⟨rfl,HE.out⟩
  ·have h2:(i:Int)<(n:Int):=by omega
   have h0:(0:Int)<=(i:Int):=by omega
   obtain ⟨b1,o1,rfl,hb1,hc1'⟩:=(H1.out.ext hE).at (by omega);obtain ⟨b2,o2,rfl,hb2,hc2'⟩:=(H2.out.ext hE).at (by omega);have e1:=hc1' i (by omega);have e2:=hc2' i (by omega);obtain ⟨x,hx⟩:∃ x,l.getD i 0=x:=⟨_,rfl⟩;rw [hx] at e1 e2;have HEd:=Lh (cdrew hE);clear hE hc1' hc2' hx
   go_wp2_with fail
   go_region
   go_wp2_with fail
   go_roundg (n-(i+1))
   case measure=>omega
   case rel=>exact ⟨i+1,by go_num,by omega,rfl,HEd.out⟩
theorem sameCircuit_any (c:Gci) (a1:Option Addr) (n c1:Nat) (a2:Option Addr) (c2:Nat) (w:World) (h1:OpsAt w a1 n c.ops) (h2:OpsAt w a2 n c.ops) (hn1:n<=c1) (hm1:c1<=9223372036854775807) (_hn2:n<=c2) (_hm2:c2<=9223372036854775807) :
  Calls Tryz.prog 10 #[.agg #[.int .i64 c.qubits,.int .i64 c.bits,.slice a1 n c1],.agg #[.int .i64 c.qubits,.int .i64 c.bits,.slice a2 n c2]] w fun e w'=>e=.returned (.bool true)/\Ext w w':=by
 obtain ⟨qb,bi,ops⟩:=c;simp only at h1 h2 ⊢;obtain ⟨A1,hA1⟩:∃ A1,w.alloc (.cells #[.int .i64 qb,.int .i64 bi,.slice a1 n c1] 24)=A1:=⟨_,rfl⟩;obtain ⟨A2,hA2⟩:∃ A2,A1.alloc (.cells #[.int .i64 qb,.int .i64 bi,.slice a2 n c2] 24)=A2:=⟨_,rfl⟩
 have s1:A1.heap.size=w.heap.size+1:=by rw [<-hA1];simp
 have x1:Ext w A1:=by rw [<-hA1];exact ext_al _ _
 have x2:Ext A1 A2:=by rw [<-hA2];exact ext_al _ _
 have bC:CiB A2 w.heap.size qb bi a1 n c1:=by
  have:CiB A1 w.heap.size qb bi a1 n c1:=by rw [<-hA1];exact ⟨heap_alloc_new w _⟩
  exact this.ext x2
 have bD:CiB A2 (w.heap.size+1) qb bi a2 n c2:=by rw [<-hA2,<-s1];exact ⟨heap_alloc_new A1 _⟩
 have hA:(w.alloc (.cells #[.int .i64 qb,.int .i64 bi,.slice a1 n c1] 24)).alloc (.cells #[.int .i64 qb,.int .i64 bi,.slice a2 n c2] 24)=A2:=by rw [hA1,hA2]
 have E0:=x1.trans x2;have m0:=bC.x0;have m1:=bC.x1;have m2:=bC.x2;have k0:=bD.x0;have k1:=bD.x1;have k2:=bD.x2;rw [<-hA] at m0 m1 m2 k0 k1 k2;have HA:=Lh hA;have HC:=Lh bC;have HD:=Lh bD;have HE0:=Lh E0;have H1:=Lh h1;have H2:=Lh h2;have Hl:=Lh h1.1;clear h1 h2 hA1 hA2 s1 x1 x2 bC bD hA E0
 go_enter Tryz.func10,Tryz.ntmps10
 go_wp2_with fail
 rw [HA.out];clear m0 m1 m2 k0 k1 k2
 go_loopg [5] n (fun kk s5 wx=>∃ i:Nat,s5=.int .i64 (i:Int)/\i<=n/\n-i=kk/\Ext A2 wx)
 case atStart=>exact ⟨0,rfl,by omega,by omega,Ext.refl A2⟩
 case round =>
  obtain ⟨i,rfl,hi1,hk,hE⟩:=hrel;have m2:=(HC.out.ext hE).x2;have k2:=(HD.out.ext hE).x2
  by_cases hin:i=n
  ·have h2:¬ (i:Int)<(n:Int):=by omega
   have HE:=Lh (HE0.out.trans hE);clear hE
   go_wp2_with fail
   go_ret
   exact ⟨rfl,HE.out⟩
  ·have h2:(i:Int)<(n:Int):=by omega
   have h0:(0:Int)<=(i:Int):=by omega
   obtain ⟨b,o,rfl⟩:=H1.out.some_of (by omega);obtain ⟨b',o',rfl⟩:=H2.out.some_of (by omega);obtain ⟨g,hg⟩:∃ g,ops[i]?=some g:=⟨_,List.getElem?_eq_getElem (by rw [Hl.out];omega)⟩;obtain ⟨p1,q1,r1,p2,q2,r2,e0,e1,e2,e3,e4,e5,hL⟩:=((H1.out.ext HE0.out).ext hE).at i g hg;obtain ⟨p1',q1',r1',p2',q2',r2',d0,d1,d2,d3,d4,d5,hL'⟩:=((H2.out.ext HE0.out).ext hE).at i g hg;have hq1:=hL.i1.1.symm.trans hL'.i1.1;have hq2:=hL.i2.1.symm.trans hL'.i2.1;subst hq1;subst hq2;have Ea:=ext_al wr (.cells #[.int .i64 g.kind,.int .i64 g.k,.slice p1 q1 r1,.int .i64 g.q,.int .i64 g.bit,.slice p2 q2 r2] 52);have bO:=opbx_new wr g.kind g.k p1 q1 r1 g.q g.bit p2 q2 r2;obtain ⟨X1,hX1⟩:∃ X,wr.alloc (.cells #[.int .i64 g.kind,.int .i64 g.k,.slice p1 q1 r1,.int .i64 g.q,.int .i64 g.bit,.slice p2 q2 r2] 52)=X:=⟨_,rfl⟩
   have sX:X1.heap.size=wr.heap.size+1:=by rw [<-hX1];simp
   rw [hX1] at Ea bO;have Eb:=ext_al X1 (.cells #[.int .i64 g.kind,.int .i64 g.k,.slice p1' q1 r1',.int .i64 g.q,.int .i64 g.bit,.slice p2' q2 r2'] 52);have bP:=opbx_new X1 g.kind g.k p1' q1 r1' g.q g.bit p2' q2 r2';rw [sX] at bP;obtain ⟨X2,hX2⟩:∃ X,X1.alloc (.cells #[.int .i64 g.kind,.int .i64 g.k,.slice p1' q1 r1',.int .i64 g.q,.int .i64 g.bit,.slice p2' q2 r2'] 52)=X:=⟨_,rfl⟩;rw [hX2] at Eb bP;have bO2:=bO.ext Eb;have EX:=Ea.trans Eb
   have HXX:Hid ((wr.alloc (.cells #[.int .i64 g.kind,.int .i64 g.k,.slice p1 q1 r1,.int .i64 g.q,.int .i64 g.bit,.slice p2 q2 r2] 52)).alloc (.cells #[.int .i64 g.kind,.int .i64 g.k,.slice p1' q1 r1',.int .i64 g.q,.int .i64 g.bit,.slice p2' q2 r2'] 52)=X2):=by show _=_;rw [hX1,hX2]
   have d0':=cell_ext d0 Ea;have d1':=cell_ext d1 Ea;have d2':=cell_ext d2 Ea;have d3':=cell_ext d3 Ea;have d4':=cell_ext d4 Ea;have d5':=cell_ext d5 Ea;have k2':=cell_ext k2 Ea;rw [<-hX1] at d0' d1' d2' d3' d4' d5' k2';have HS1:=Lh (fun wx (hx:Ext X2 wx)=>sameInts_any g.ctl p1 q1 r1 p1' r1' wx ((hL.i1.ext EX).ext hx) ((hL'.i1.ext EX).ext hx) hL.h1 hL.m1);have HS2:=Lh (fun wx (hx:Ext X2 wx)=>sameInts_any g.cnd p2 q2 r2 p2' r2' wx ((hL.i2.ext EX).ext hx) ((hL'.i2.ext EX).ext hx) hL.h2 hL.m2);obtain ⟨kd,kk',ctl,qq,bb,cnd⟩:=g;simp only at e0 e1 e2 e3 e4 e5 d0' d1' d2' d3' d4' d5' k2' bO2 bP HXX HS1 HS2;have p_0:=bO2.x0;have p_1:=bO2.x1;have p_2:=bO2.x2;have p_3:=bO2.x3;have p_4:=bO2.x4;have p_5:=bO2.x5;have q_0:=bP.x0;have q_1:=bP.x1;have q_2:=bP.x2;have q_3:=bP.x3;have q_4:=bP.x4;have q_5:=bP.x5;rw [<-HXX.out] at p_0 p_1 p_2 p_3 p_4 p_5 q_0 q_1 q_2 q_3 q_4 q_5;have HbO:=Lh bO2;have HbP:=Lh bP;have HEX:=Lh (hE.trans EX);clear hg hL hL' d0 d1 d2 d3 d4 d5 Ea Eb bO bP bO2 hX1 hX2 sX EX hE k2
   go_wp2_with fail
   rw [HXX.out];refine (HS1.out X2 (Ext.refl X2)).mono ?_;rintro e w5 ⟨rfl,hx5⟩;have p_5:=(HbO.out.ext hx5).x5;have q_5:=(HbP.out.ext hx5).x5;have HX5:=Lh hx5;clear hx5
   go_wp2_with fail
   refine (HS2.out w5 HX5.out).mono ?_;rintro e w6 ⟨rfl,hx6⟩;have HE6:=Lh ((HEX.out.trans HX5.out).trans hx6);clear hx6
   go_wp2_with fail
   go_roundg (n-(i+1))
   case measure=>omega
   case rel=>exact ⟨i+1,by go_num,by omega,rfl,HE6.out⟩
end Go.Proofs.YtlechhmhmakgpaaGreatDoor
