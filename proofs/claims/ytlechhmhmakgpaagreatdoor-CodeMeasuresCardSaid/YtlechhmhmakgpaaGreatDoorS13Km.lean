/-
  The program's Inverse. The program's Inverse: the walk. The program's Power of a pure circuit: rows that hold copies of operations whose lists lie elsewhere. Circuits undone, in plain lists: twice undone is itself; what is pure stays so. The reference's Inverse. The reference's Then. slices.Grow of nothing, slices.Concat of two rows of operations. A copy of a circuit in memory of its own: as the reference makes it, and as the program does. slices.Reverse of operations in memory of their own. The program's Inverse: what it answers lies in memory of its own.
-/
import Derived.Laws.AppendOwnNone
import Derived.Laws.Concat
import Derived.Laws.IdiomStrings
import Derived.Lib.AppendZeros
import Derived.Lib.AppendZerosOnto
import Derived.Test.YtlechhmhmakgpaaGreatDoorS12Gb
namespace Go.Proofs.YtlechhmhmakgpaaGreatDoor
set_option maxRecDepth 100000
set_option maxHeartbeats 8000000
open Go.RowKit
def opp (k:Int):Int:=(16-k).tmod 16
def undoO (g:Gop):Gop:={ g with k:=opp g.k }
def invO (ops:List Gop):List Gop:=ops.reverse.map undoO
def invF (ops:List Gop) (i:Nat):List Gop:=(ops.take i).map undoO++ops.drop i
theorem invF_len (ops:List Gop) (i:Nat):(invF ops i).length=ops.length:=by
 unfold invF;simp only [List.length_append,List.length_map,List.length_take,List.length_drop];omega
theorem invF_get {ops:List Gop} {i t:Nat} (ht:t<ops.length):(invF ops i)[t]?=if t<i then ops[t]?.map undoO else ops[t]?:=by
 unfold invF
 by_cases h:t<i
 ·rw [if_pos h,List.getElem?_append_left (by rw [List.length_map,List.length_take];omega),List.getElem?_map,List.getElem?_take,if_pos h]
 ·rw [if_neg h,List.getElem?_append_right (by rw [List.length_map,List.length_take];omega),List.length_map,List.length_take,List.getElem?_drop]
  congr 1;omega
theorem invF_zero (ops:List Gop):invF ops 0=ops:=by simp [invF]
theorem invF_all {ops:List Gop} {i:Nat} (h:ops.length<=i):invF ops i=ops.map undoO:=by
 unfold invF;rw [List.take_of_length_le h,List.drop_eq_nil_of_le h,List.append_nil]
theorem pur_zero {c:Gci} (h:(pur c).1=0):(chk c).1=0/\pur c=(0,0):=by
 have key:∀ (l:List Gop) (i:Nat),(purF i l).1=0->purF i l=(0,0):=by
  intro l
  induction l with
  | nil=>intro i _;rfl
  | cons o r ih =>
   intro i h;rw [purF] at h ⊢
   by_cases hc:5<=o.kind\/0<o.cnd.length
   ·rw [if_pos hc] at h;exact absurd h (show ¬ (15:Int)=0 by decide)
   ·rw [if_neg hc] at h ⊢;exact ih _ h
 unfold pur at h ⊢
 by_cases hc:(chk c).1≠0
 ·rw [if_pos hc] at h;exact absurd h hc
 ·rw [if_neg hc] at h ⊢;exact ⟨by omega,key _ _ h⟩
theorem opposite_any (k:Int) (w:World) (h0:0<=k) (h1:k<=16):Calls Tryz.prog 91 #[.int .i64 k] w fun e w'=>e=.returned (.int .i64 (opp k))/\w'=w:=by
 obtain ⟨r,hr⟩:∃ r,opp k=r:=⟨_,rfl⟩;rw [hr];unfold opp at hr;obtain ⟨d,hd⟩:∃ d,16-k=d:=⟨_,rfl⟩;rw [hd] at hr
 have w1:IntKind.i64.wrap (16-k)=d:=by rw [IntKind.wrap_i64];omega
 have hdr:d.tmod 16=r:=hr
 have w2:IntKind.i64.wrap (d.tmod 16)=r:=by
  rw [hdr,IntKind.wrap_i64]
  have:0<=r/\r<16:=by rw [<-hr];exact ⟨Int.tmod_nonneg _ (by omega),Int.tmod_lt_of_pos _ (by omega)⟩
  omega
 clear hr hd
 go_enter Tryz.func91,Tryz.ntmps91
 go_wp2_with fail
 go_ret
 exact ⟨rfl,rfl⟩
theorem stepK_storeN {ops:Array Oper} {o:Oper} {a:Act} {K:Act->World->Prop} {Q:Exit->Act->World->Prop} {E:Prop} {w:World} (hgd:o.guard=none) (hd:o.dst=none) (p x:Operand)
  (ho:o.op=.store 3 p x) (b off:Nat) (z:Int) (u:Value) (hp:a.eval p=.pointer (some ⟨b,off,none⟩)) (hx:a.eval x=.int .i64 z)
  (hcell:w.cell? ⟨b,off,none⟩=some u) (hfz:w.frozen? ⟨b,off,none⟩=false) (h:K a (w.setCell ⟨b,off,none⟩ (.int .i64 z))) :
  if Region.wanted o (yielded ops a.tmps)=true then Oper.wp Tryz.prog o a w K Q else E:=by
 have hw:Region.wanted o (yielded ops a.tmps)=true:=by simp [Region.wanted,hgd]
 rw [if_pos hw];obtain ⟨od,oo,ot,opp,oa,og⟩:=o;simp only at ho hd;subst ho hd;have HH:=Lh h;clear h;unfold Oper.wp execOp;simp only [hp,hx]
 go_simp
 exact HH.out
theorem opk_range {g:Gop} {n b:Int} (h:opCode g n b=0):0<=g.k/\g.k<=15:=by
 unfold opCode at h
 split at h
 ·omega
 ·split at h
  ·omega
  ·next hk =>
   unfold fitsB at hk
   split at hk
   ·unfold below at hk
    simp at hk
    omega
   ·simp at hk
    omega
theorem opsAt_cells {w:World} {b o n:Nat} {ops:List Gop} (h:OpsAt w (some ⟨b,o,none⟩) n ops):∃ ys:List Value,ys.length=n*6/\(∀ j u,ys[j]?=some u->w.cell? ((⟨b,o,none⟩:Addr).add j)=some u)/\(∀ u ∈ ys,u.oneCell'=true) /\
  ∀ t g,ops[t]?=some g->∃ (a1:Option Addr) (n1 c1:Nat) (a2:Option Addr) (n2 c2:Nat),ys[t*6]?=some (.int .i64 g.kind)/\ys[t*6+1]?=some (.int .i64 g.k)/\ys[t*6+2]?=some (.slice a1 n1 c1)/\ys[t*6+3]?=some (.int .i64 g.q)/\ys[t*6+4]?=some (.int .i64 g.bit)/\ys[t*6+5]?=some (.slice a2 n2 c2)/\OpL w g a1 n1 c1 a2 n2 c2:=by
 have hl:=h.1
 have hex:∀ t,t<n->∃ f:Nat->Value,(∀ k,k<6->w.cell? ⟨b,o+t*6+k,none⟩=some (f k)/\(f k).oneCell'=true)/\∃ g,ops[t]?=some g/\∃ (a1:Option Addr) (n1 c1:Nat) (a2:Option Addr) (n2 c2:Nat),f 0=.int .i64 g.kind/\f 1=.int .i64 g.k/\f 2=.slice a1 n1 c1/\f 3=.int .i64 g.q/\f 4=.int .i64 g.bit/\f 5=.slice a2 n2 c2/\OpL w g a1 n1 c1 a2 n2 c2:=by
  intro t ht;have hgt:ops[t]?=some ops[t]:=List.getElem?_eq_getElem (by omega);obtain ⟨a1,n1,c1,a2,n2,c2,e0,e1,e2,e3,e4,e5,e6⟩:=h.at t _ hgt;refine ⟨opF ops[t] a1 n1 c1 a2 n2 c2,fun k hk=>?_,ops[t],hgt,a1,n1,c1,a2,n2,c2,rfl,rfl,rfl,rfl,rfl,rfl,e6⟩
  have:k=0\/k=1\/k=2\/k=3\/k=4\/k=5:=by omega
  rcases this with rfl | rfl | rfl | rfl | rfl | rfl
  ·exact ⟨e0,rfl⟩
  ·exact ⟨e1,rfl⟩
  ·exact ⟨e2,rfl⟩
  ·exact ⟨e3,rfl⟩
  ·exact ⟨e4,rfl⟩
  ·exact ⟨e5,rfl⟩
 obtain ⟨F,hF⟩:=Classical.axiomOfChoice (fun t:Fin n=>hex t.1 t.2);refine ⟨(List.range (n*6)).map (fun j=>if hj:j / 6<n then F ⟨j / 6,hj⟩ (j % 6) else .bool false),by simp,?_,?_,?_⟩
 ·intro j u hu
  rw [List.getElem?_map] at hu;obtain ⟨x,hx,rfl⟩:=Option.map_eq_some_iff.1 hu
  have hj:j<n*6:=by have:=(List.getElem?_eq_some_iff.1 hx).1;simpa using this
  obtain rfl:x=j:=by have:=(List.getElem?_eq_some_iff.1 hx).2;simpa using this.symm
  rw [dif_pos (by omega)];have:=((hF ⟨x / 6,by omega⟩).1 (x % 6) (by omega)).1
  have hadd:(⟨b,o,none⟩:Addr).add x=⟨b,o+x,none⟩:=by unfold Addr.add;split<;>simp_all
  rw [hadd,show o+x=o+x / 6*6+x % 6 by omega];exact this
 ·intro u hu
  obtain ⟨x,hx,rfl⟩:=List.mem_map.1 hu
  have hj:x<n*6:=by simpa using hx
  rw [dif_pos (by omega)];exact ((hF ⟨x / 6,by omega⟩).1 (x % 6) (by omega)).2
 ·intro t g hg
  have ht:t<n:=by have:=(List.getElem?_eq_some_iff.1 hg).1;omega
  obtain ⟨_,g',hg',a1,n1,c1,a2,n2,c2,f0,f1,f2,f3,f4,f5,f6⟩:=hF ⟨t,ht⟩;simp only at hg';rw [hg] at hg';injection hg' with hg';subst hg'
  have key:∀ k,k<6->((List.range (n*6)).map (fun j=>if hj:j / 6<n then F ⟨j / 6,hj⟩ (j % 6) else .bool false))[t*6+k]?=some (F ⟨t,ht⟩ k):=by
   intro k hk;rw [List.getElem?_map,List.getElem?_range (by omega)];simp only [Option.map_some];rw [dif_pos (by omega)]
   have e1:(t*6+k) / 6=t:=by omega
   have e2:(t*6+k) % 6=k:=by omega
   simp only [e1,e2]
  exact ⟨a1,n1,c1,a2,n2,c2,by rw [show t*6=t*6+0 from rfl,key 0 (by omega),f0],by rw [key 1 (by omega),f1],by rw [key 2 (by omega),f2],by rw [key 3 (by omega),f3],by rw [key 4 (by omega),f4],by rw [key 5 (by omega),f5],f6⟩
theorem OpsO.far {w w':World} {base k:Nat} {v:Value} {ops:List Gop} {cs:Array Value} {T:TypeId} {fr:Nat × Nat} (h:OpsO w base v ops) (hk:w.heap[k]?=some (.cells cs T fr)) (hT:T≠3) (hT2:T≠52) (hO:Only k w w'):OpsO w' base v ops:=by
 obtain ⟨xs,h1,h2⟩:=h;refine ⟨xs,?_,fun t g hg=>?_⟩
 ·refine own_keep2 h1 (fun g hg=>hO.block g (fun e=>?_))
  obtain ⟨_,cs',fr',e2⟩:=PtKind h1 g hg;rw [e,hk] at e2
  cases e2
  exact hT2 rfl
 ·obtain ⟨a1,n1,c1,a2,n2,c2,e0,e1,e2,e3,e4,e5,e6⟩:=h2 t g hg
  exact ⟨a1,n1,c1,a2,n2,c2,e0,e1,e2,e3,e4,e5,e6.keep (Nat.le_of_eq hO.size.symm) (only_ints hk hT hO)⟩
theorem CiB.kept {w w':World} {k g:Nat} {qb bi:Int} {ao:Option Addr} {n cp:Nat} (h:CiB w g qb bi ao n cp) (hO:Only k w w') (hk:g≠k):CiB w' g qb bi ao n cp:=⟨(hO.block g hk).trans h.row⟩
theorem FtB.kept {w w':World} {k g:Nat} {x y:Int} (h:FtB w g x y) (hO:Only k w w') (hk:g≠k):FtB w' g x y:=⟨(hO.block g hk).trans h.row⟩
theorem CiB_grownK {a w':World} {v:Value} {base g:Nat} {qb bi:Int} {ao:Option Addr} {n cp:Nat} (hg:a.grownBy w' v.ownBlock) (hk:∀ k,v.ownBlock=some k->base<=k/\∃ cs fr,a.heap[k]?=some (.cells cs 52 fr)) (h:CiB a g qb bi ao n cp):CiB w' g qb bi ao n cp :=
 ⟨(hg.block g h.lt (fun e=>by obtain ⟨_,cs,fr,e2⟩:=hk g e.symm;rw [h.row] at e2;cases e2)).trans h.row⟩
theorem only2 (W:World) (A:Nat) (u v:Value):Only A W ((W.setCell ⟨A,0,none⟩ u).setCell ⟨A,1,none⟩ v):=((Only.refl _ _).setCell _ _).setCell _ _
theorem slice_of_own {w:World} {base:Nat} {e:TypeId} {size:Nat} {v:Value} {n:Nat} {xs:List Value} (h:w.ownsRow base e size v n xs) (hn:0<n):∃ g c,v=.slice (some ⟨g,0,none⟩) n c:=by
 rcases h.2 with ⟨_,h0⟩ | ⟨g,cap,_,hv,_⟩
 ·omega
 ·exact ⟨g,cap,hv⟩
theorem putCF_opsN {W:World} {R F base:Nat} {v:Value} {ops:List Gop} {x y p q:Int} {a0:Option Addr} {n0 c0:Nat} (h:OpsN W base v ops) (hR:CiB W R x y a0 n0 c0) (hF:FtB W F p q) (hne:R≠F) (qb bi:Int) (ao:Option Addr) (n cp:Nat) (u w:Int):OpsN (putCF W R F qb bi ao n cp u w) base v ops:=by
 have hP1:Only R W (((W.setCell ⟨R,0,none⟩ (.int .i64 qb)).setCell ⟨R,1,none⟩ (.int .i64 bi)).setCell ⟨R,2,none⟩ (.slice ao n cp)):=(((Only.refl _ _).setCell _ _).setCell _ _).setCell _ _;exact (h.far hR.row (by decide) (by decide) hP1).far (hF.kept hP1 (fun e=>hne e.symm)).row (by decide) (by decide) (only2 _ F _ _)
theorem srcCells {w:World} {ao:Option Addr} {n:Nat} {ops:List Gop} (h:OpsAt w ao n ops):∃ ys:List Value,ys.length=n*6/\(∀ ad,ao=some ad->∀ j u,ys[j]?=some u->w.cell? (ad.add j)=some u)/\(∀ u ∈ ys,u.oneCell'=true) /\
  ∀ t g,ops[t]?=some g->∃ (a1:Option Addr) (n1 c1:Nat) (a2:Option Addr) (n2 c2:Nat),ys[t*6]?=some (.int .i64 g.kind)/\ys[t*6+1]?=some (.int .i64 g.k)/\ys[t*6+2]?=some (.slice a1 n1 c1)/\ys[t*6+3]?=some (.int .i64 g.q)/\ys[t*6+4]?=some (.int .i64 g.bit)/\ys[t*6+5]?=some (.slice a2 n2 c2)/\OpL w g a1 n1 c1 a2 n2 c2:=by
 by_cases h0:n=0
 ·refine ⟨[],by rw [h0];rfl,fun ad _ j u hu=>by simp at hu,fun u hu=>by simp at hu,fun t g hg=>?_⟩
  have h1:=(List.getElem?_eq_some_iff.1 hg).1;have h2:=h.1;omega
 ·obtain ⟨b,o,rfl⟩:=h.some_of (by omega)
  obtain ⟨ys,h1,h2,h3,h4⟩:=opsAt_cells h;exact ⟨ys,h1,fun ad e=>by cases e;exact h2,h3,h4⟩
theorem with_N (qb bi:Int) (ao0:Option Addr) (n0 cp0:Nat) (ao:Option Addr) (n cp:Nat) (ops:List Gop) (w:World) (h:OpsAt w ao n ops) (hn:n<=10000) (hb:∀ g ∈ ops,g.ctl.length<=1000/\g.cnd.length<=1000) :
  Calls Tryz.prog 89 #[.agg #[.int .i64 qb,.int .i64 bi,.slice ao0 n0 cp0],.slice ao n cp] w fun e w'=>(∃ (a':Option Addr) (c':Nat),e=.returned (.agg #[.int .i64 qb,.int .i64 bi,.slice a' n c'])/\OpsN w' (w.heap.size+3) (.slice a' n c') ops)/\Ext w w':=by
 obtain ⟨i0,hi,hz0,hz1,hz2⟩:=info_parts op_info;have Hl:=Lh h.1;obtain ⟨H,hH⟩:∃ H,w.heap.size=H:=⟨_,rfl⟩;obtain ⟨A1,hA1⟩:∃ A1,w.alloc (.cells #[.int .i64 qb,.int .i64 bi,.slice ao0 n0 cp0] 24)=A1:=⟨_,rfl⟩;obtain ⟨A2,hA2⟩:∃ A2,A1.alloc (.cells #[.int .i64 0,.int .i64 0,.slice none 0 0] 24)=A2:=⟨_,rfl⟩;obtain ⟨A3,hA3⟩:∃ A3,A2.alloc (.cells #[.int .i64 qb,.int .i64 bi,.slice none 0 0] 24)=A3:=⟨_,rfl⟩
 have hA2':(w.alloc (.cells #[.int .i64 qb,.int .i64 bi,.slice ao0 n0 cp0] 24)).alloc (.cells #[.int .i64 0,.int .i64 0,.slice none 0 0] 24)=A2:=by rw [hA1,hA2]
 have s1:A1.heap.size=H+1:=by rw [<-hA1,<-hH];simp
 have s2:A2.heap.size=H+2:=by rw [<-hA2];simp;omega
 have s3:A3.heap.size=H+3:=by rw [<-hA3];simp;omega
 have x1:Ext w A1:=by rw [<-hA1];exact ext_al _ _
 have x2:Ext A1 A2:=by rw [<-hA2];exact ext_al _ _
 have x3:Ext A2 A3:=by rw [<-hA3];exact ext_al _ _
 have bC:CiB A2 H qb bi ao0 n0 cp0:=by
  have:CiB A1 H qb bi ao0 n0 cp0:=by rw [<-hA1,<-hH];exact ⟨heap_alloc_new w _⟩
  exact this.ext x2
 have bR:CiB A3 (H+1) 0 0 none 0 0:=by
  have:CiB A2 (H+1) 0 0 none 0 0:=by rw [<-hA2,<-s1];exact ⟨heap_alloc_new A1 _⟩
  exact this.ext x3
 have bO:CiB A3 (H+2) qb bi none 0 0:=by rw [<-hA3,<-s2];exact ⟨heap_alloc_new A2 _⟩
 have HhH:=Lh hH;have m0:=bC.x0;have m1:=bC.x1;have HA:=Lh hA2';have HA3:=Lh hA3;have HE3:=Lh ((x1.trans x2).trans x3);have HbR:=Lh bR;have HbO:=Lh bO;have Hops:=Lh h;have Hb:=Lh hb;have Hs3:=Lh s3;have Hs2:=Lh s2;rw [<-hH] at m0 m1;rw [<-hA2'] at m0 m1;clear h hb hA1 hA2 hA3 hA2' s1 s2 s3 x1 x2 x3 bC bR bO
 go_enter Tryz.func89,Tryz.ntmps89
 go_wp2_with fail
 rw [HA.out,HA3.out]
 go_loopg [7,15] n (fun kk s7 s15 wx=>∃ (i:Nat) (av:Option Addr) (cv:Nat),s15=.int .i64 (i:Int)/\i<=n/\n-i=kk/\CiB wx (H+1) 0 0 none 0 0/\CiB wx (H+2) qb bi av i cv/\OpsN wx (H+3) (.slice av i cv) (ops.take i)/\Ext w wx/\H+3<=wx.heap.size)
 case atStart=>exact ⟨0,none,0,rfl,by omega,by omega,HbR.out,HbO.out,OpsN.nil _ _,HE3.out,by rw [Hs3.out];exact Nat.le_refl _⟩
 case round =>
  clear HbR HbO HE3 m0 m1;obtain ⟨i,av,cv,rfl,hin',hk,bR,bO,hown,hX,hbs⟩:=hrel
  by_cases hin:i=n
  ·have q1:¬ (i:Int)<(n:Int):=by omega
   have q1':decide ((i:Int)<(n:Int))=false:=df q1;have htk:ops.take i=ops:=List.take_of_length_le (by rw [Hl.out];omega);rw [htk] at hown;have y0:=bO.x0;have y1:=bO.x1;have y2:=bO.x2;have r0:=bR.x0;have r1:=bR.x1;have r2:=bR.x2;have g0:=bR.f 0;have g1:=bR.f 1;have g2:=bR.f 2;have hO3:Only (H+1) wr (((wr.setCell ⟨H+1,0,none⟩ (.int .i64 qb)).setCell ⟨H+1,1,none⟩ (.int .i64 bi)).setCell ⟨H+1,2,none⟩ (.slice av i cv)):=(((Only.refl _ _).setCell _ _).setCell _ _).setCell _ _;have hoF:=hown.only bR.row (by decide) hO3 (by omega);have zC:CiB (((wr.setCell ⟨H+1,0,none⟩ (.int .i64 qb)).setCell ⟨H+1,1,none⟩ (.int .i64 bi)).setCell ⟨H+1,2,none⟩ (.slice av i cv)) (H+1) qb bi av i cv:=((bR.set0 qb).set1 bi).set2 av i cv;have HE:=Lh (cput (o:=2) (cput (o:=1) (cput (o:=0) hX (show w.heap.size<=H+1 by omega) (.int .i64 qb)) (show w.heap.size<=H+1 by omega) (.int .i64 bi)) (show w.heap.size<=H+1 by omega) (.slice av i cv));have HoF:=Lh hoF;have Hin:=Lh hin;have HzC:=Lh zC;clear hown hO3 hoF bR bO hX hin htk zC hk hin'
   go_wp2_with fail
   generalize ((wr.setCell ⟨H+1,0,none⟩ (.int .i64 qb)).setCell ⟨H+1,1,none⟩ (.int .i64 bi)).setCell ⟨H+1,2,none⟩ (.slice av i cv)=Wz at *;have z0:=HzC.out.x0;have z1:=HzC.out.x1;have z2:=HzC.out.x2;exact bodyPost_ret (v:=.agg #[.int .i64 qb,.int .i64 bi,.slice av i cv]) (by simp [results,Tryz.results89,go_sem,z0,z1,z2]) rfl ⟨⟨av,cv,by rw [Hin.out],Eq.mp (congrArg (fun v=>OpsN _ (H+3) v ops) (show Value.slice av i cv=Value.slice av n cv by rw [Hin.out])) HoF.out⟩,HE.out⟩
  ·have q1:(i:Int)<(n:Int):=by omega
   have q1':decide ((i:Int)<(n:Int))=true:=dt q1
   have q0:(0:Int)<=(i:Int):=by omega
   obtain ⟨gg,hg⟩:∃ g,ops[i]?=some g:=⟨_,List.getElem?_eq_getElem (by rw [Hl.out];omega)⟩
   have hst:ops.take (i+1)=ops.take i++[gg]:=by rw [List.take_add_one,hg];rfl
   obtain ⟨bo,oo,rfl⟩:=(Hops.out.ext hX).some_of (by omega);obtain ⟨a1,n1,c1,a2,n2,c2,t0,t1,t2,t3,t4,t5,hLo⟩:=(Hops.out.ext hX).at i gg hg;obtain ⟨hbl1,hbl2⟩:=Hb.out gg (List.mem_of_getElem? hg);obtain ⟨kd,kk',ctl,qq,bb,cnd⟩:=gg;simp only at t0 t1 t3 t4 hbl1 hbl2
   have hn1:n1<=1000:=by rw [<-hLo.i1.1];exact hbl1
   have hn2:n2<=1000:=by rw [<-hLo.i2.1];exact hbl2
   have hown':=hown;obtain ⟨xs0,ho0x⟩:=hown;have ho0:=ho0x.own
   have hnb:∀ k,(Value.slice av i cv).ownBlock=some k->k<wr.heap.size:=fun k hk'=>(own_lt ho0 k hk').2
   obtain ⟨U,hU⟩:∃ U,wr.alloc (.cells #[.int .i64 kd,.int .i64 kk',.slice a1 n1 c1,.int .i64 qq,.int .i64 bb,.slice a2 n2 c2] 52)=U:=⟨_,rfl⟩;obtain ⟨Bx,hBx⟩:∃ x,wr.heap.size=x:=⟨_,rfl⟩
   have hEU:Ext wr U:=by rw [<-hU];exact ext_al _ _
   have bx:OpBx U Bx kd kk' a1 n1 c1 qq bb a2 n2 c2:=by rw [<-hU,<-hBx];exact opbx_new wr kd kk' a1 n1 c1 qq bb a2 n2 c2
   rw [hBx] at hnb;have HOu:=Lh (hown'.ext hEU);have HbR:=Lh (bR.ext hEU);have HbO:=Lh (bO.ext hEU);have HEU:=Lh (hX.trans hEU);have Hbx:=Lh bx;have Hnb:=Lh hnb;have HCp:=Lh (fun wx (hx:Ext U wx)=>ccopyOp_N ⟨kd,kk',ctl,qq,bb,cnd⟩ a1 n1 c1 a2 n2 c2 wx ((hLo.ext hEU).ext hx) (by omega) (by omega));simp only at HCp;have Hst:=Lh hst;have HU:=Lh hU;have hbs':H+3<=U.heap.size:=Nat.le_trans hbs hEU.size;clear hown' ho0 ho0x bR bO hX hEU bx hnb hLo hst hU hg hbl1 hbl2 hbs;have hbs:=hbs';clear hbs'
   go_upto_region 5 with fail
   rw [HU.out];clear t0 t1 t2 t3 t4 t5;have v2:=HbO.out.x2;have e0:=Hbx.out.x0;have e1:=Hbx.out.x1;have e2:=Hbx.out.x2;have e3:=Hbx.out.x3;have e4:=Hbx.out.x4;have e5:=Hbx.out.x5;have hE0d:Ext U U.drew:=Below.drew (Ext.refl _);refine wp_region_K 7 (fun w'=>w'.cell? ⟨H+2,2,none⟩=some (.slice av i cv)/\w'.cell? ⟨Bx,0,none⟩=some (.int .i64 kd)/\w'.cell? ⟨Bx,1,none⟩=some (.int .i64 kk')/\w'.cell? ⟨Bx,2,none⟩=some (.slice a1 n1 c1)/\w'.cell? ⟨Bx,3,none⟩=some (.int .i64 qq)/\w'.cell? ⟨Bx,4,none⟩=some (.int .i64 bb)/\w'.cell? ⟨Bx,5,none⟩=some (.slice a2 n2 c2)) (by kernel_rfl) ?_
   show anyK _ _ _ _ _ _ 8 #[false,false,false,false,false,false,false,false] _ _
   have hHeld:U.drew.cell? ⟨H+2,2,none⟩=some (.slice av i cv)/\U.drew.cell? ⟨Bx,0,none⟩=some (.int .i64 kd)/\U.drew.cell? ⟨Bx,1,none⟩=some (.int .i64 kk')/\U.drew.cell? ⟨Bx,2,none⟩=some (.slice a1 n1 c1)/\U.drew.cell? ⟨Bx,3,none⟩=some (.int .i64 qq)/\U.drew.cell? ⟨Bx,4,none⟩=some (.int .i64 bb)/\U.drew.cell? ⟨Bx,5,none⟩=some (.slice a2 n2 c2):=⟨v2,e0,e1,e2,e3,e4,e5⟩;refine kT 0 8 (v:=?_) rfl (Or.inl ⟨by rfl,?_⟩) hHeld ?_;rotate_left 1
   ·intro w hSw
    go_simp
    try with_reducible rfl
   show anyK _ _ _ _ _ _ _ _ (Act.put _ (some 19) _) _
   simp only [Act.put,sx0,sx1,sx2];refine kT 1 8 (v:=?_) rfl (Or.inl ⟨by rfl,?_⟩) hHeld ?_;rotate_left 1
   ·intro w hSw
    go_simp
    try with_reducible rfl
   show anyK _ _ _ _ _ _ _ _ (Act.put _ (some 20) _) _
   simp only [Act.put,sx0,sx1,sx2];refine kT 2 8 (v:=?_) rfl (Or.inl ⟨by rfl,?_⟩) hHeld ?_;rotate_left 1
   ·intro w hSw
    go_simp
    try with_reducible rfl
   show anyK _ _ _ _ _ _ _ _ (Act.put _ (some 21) _) _
   simp only [Act.put,sx0,sx1,sx2];clear hHeld;refine anyK_one (i:=3) (by kernel_rfl) rfl (fun Kk hKk=>?_)
   go_simp
   (go_at_call 134;refine (HCp.out _ hE0d).mono ?_;rintro e w4 ⟨⟨a3,c3,a5,c5,rfl,O4⟩,hx4⟩;have he4:Ext U w4:=hE0d.trans hx4)
   go_wp2_with fail
   refine hKk.out _ _ (fun _=>⟨cell_ext v2 he4,cell_ext e0 he4,cell_ext e1 he4,cell_ext e2 he4,cell_ext e3 he4,cell_ext e4 he4,cell_ext e5 he4⟩) ?_;clear hKk Kk;simp only [sx0,sx1,sx2];have he5:Ext U (w4.alloc (.cells #[.int .i64 kd,.int .i64 kk',.slice a3 n1 c3,.int .i64 qq,.int .i64 bb,.slice a5 n2 c5] 52)):=he4.trans (ext_al _ _);refine anyK_one (i:=4) (by kernel_rfl) rfl (fun Kk hKk=>?_)
   go_wp2_with fail
   refine hKk.out _ _ (fun _=>⟨cell_ext v2 he5,cell_ext e0 he5,cell_ext e1 he5,cell_ext e2 he5,cell_ext e3 he5,cell_ext e4 he5,cell_ext e5 he5⟩) ?_;clear hKk Kk;simp only [sx0,sx1,sx2];obtain ⟨xs,hx0⟩:=HOu.out;have hxx:=hx0.ext he4;have ho:=hxx.own;have ho5:=ho.alloc (.cells #[.int .i64 kd,.int .i64 kk',.slice a3 n1 c3,.int .i64 qq,.int .i64 bb,.slice a5 n2 c5] 52)
   have hli:(ops.take i).length=i:=by rw [List.length_take,Hl.out];omega
   obtain ⟨g,cap,w7,hrun,hown',hgrow',hcase,hglt⟩:=run_append_lies (P:=Tryz.prog) (w4.alloc (.cells #[.int .i64 kd,.int .i64 kk',.slice a3 n1 c3,.int .i64 qq,.int .i64 bb,.slice a5 n2 c5] 52)) 22 22 (H+3) 52 i0 (.agg #[.int .i64 0,.int .i64 0,.slice none 0 0,.int .i64 0,.int .i64 0,.slice none 0 0]) 6 80 Tryz.underlying22 hi hz0 hz1 hz2 rfl (by decide) (.slice av i cv) (ops.take i).length xs ho5 ⟨w4.heap.size,0,none⟩ 1 1 [.int .i64 kd,.int .i64 kk',.slice a3 n1 c3,.int .i64 qq,.int .i64 bb,.slice a5 n2 c5] rfl (new_op w4 _ _ _ _ _ _ _ _ _ _ _) (one_op _ _ _ _ _ _ _ _ _ _) (by omega) (by rw [hli];unfold maxLen;omega) (by rw [hli];omega) (Nat.le_trans hbs he5.size) _ rfl;rw [hli] at hrun;refine anyK_one (i:=5) (by kernel_rfl) rfl (fun Kk hKk=>?_);refine stepK_append rfl _ _ 22 rfl (.slice av i cv) (.slice (some ⟨w4.heap.size,0,none⟩) 1 1) _ rfl rfl hrun ?_;have hkind:=PtKind ho5
   have hk7:∀ (b':Nat) (cur:Array Value) (fr:Nat × Nat),(w4.alloc (.cells #[.int .i64 kd,.int .i64 kk',.slice a3 n1 c3,.int .i64 qq,.int .i64 bb,.slice a5 n2 c5] 52)).heap[b']?=some (.cells cur 3 fr)->w7.heap[b']?=(w4.alloc (.cells #[.int .i64 kd,.int .i64 kk',.slice a3 n1 c3,.int .i64 qq,.int .i64 bb,.slice a5 n2 c5] 52)).heap[b']?:=fun b' cur fr hb'=>by
    refine hgrow'.block b' (gS.1 hb').1 (fun e=>?_);obtain ⟨_,cs,fr',e2⟩:=hkind b' e.symm;rw [e2] at hb'
    cases hb'
   have O7:=(O4.ext (ext_al _ (.cells #[.int .i64 kd,.int .i64 kk',.slice a3 n1 c3,.int .i64 qq,.int .i64 bb,.slice a5 n2 c5] 52))).keep hk7;have own7:=OpsX.snoc (g:=⟨kd,kk',ctl,qq,bb,cnd⟩) (hxx.ext (ext_al _ _)) hown' hk7 hx0.old (show H+3<=U.heap.size from hbs) O7;have bOut7:CiB w7 (H+2) qb bi av i cv:=CiB_grown hgrow' hkind (HbO.out.ext he5) (by omega);have bRes7:CiB w7 (H+1) 0 0 none 0 0:=CiB_grown hgrow' hkind (HbR.out.ext he5) (by omega);have bBox7:OpBx w7 Bx kd kk' a1 n1 c1 qq bb a2 n2 c2:=⟨(hgrow'.block _ (Hbx.out.ext he5).lt (fun e=>by have:=Hnb.out _ e.symm;omega)).trans (Hbx.out.ext he5).row⟩;have x2':=bOut7.x2;have fz2:=bOut7.f 2;have hHeld:w7.cell? ⟨H+2,2,none⟩=some (.slice av i cv)/\w7.cell? ⟨Bx,0,none⟩=some (.int .i64 kd)/\w7.cell? ⟨Bx,1,none⟩=some (.int .i64 kk')/\w7.cell? ⟨Bx,2,none⟩=some (.slice a1 n1 c1)/\w7.cell? ⟨Bx,3,none⟩=some (.int .i64 qq)/\w7.cell? ⟨Bx,4,none⟩=some (.int .i64 bb)/\w7.cell? ⟨Bx,5,none⟩=some (.slice a2 n2 c2):=⟨x2',bBox7.x0,bBox7.x1,bBox7.x2,bBox7.x3,bBox7.x4,bBox7.x5⟩;refine hKk.out _ _ (fun _=>hHeld) ?_;clear hKk Kk
   show anyK _ _ _ _ _ _ _ _ (Act.put _ (some 24) _) _
   simp only [Act.put,sx0,sx1,sx2];refine kT 6 8 (v:=?_) rfl (Or.inl ⟨by rfl,?_⟩) hHeld ?_;rotate_left 1
   ·intro w hSw
    go_simp
    try with_reducible rfl
   show anyK _ _ _ _ _ _ _ _ (Act.put _ (some 25) _) _
   simp only [Act.put,sx0,sx1,sx2];clear hHeld;refine anyK_one (i:=7) (by kernel_rfl) rfl (fun Kk hKk=>?_);refine stepK_store rfl rfl _ _ rfl (H+2) 2 (some ⟨g,0,none⟩) (i+1) cap (.slice av i cv) rfl rfl x2' fz2 ?_;refine hKk.out _ _ (fun h=>Bool.noConfusion (show true=false from h)) ?_;clear hKk Kk;simp only [sx0,sx1,sx2];refine anyK_done (by kernel_rfl) ?_ _;have hOo:=only1 w7 (H+2) 2 (.slice (some ⟨g,0,none⟩) (i+1) cap);have Hown8:=Lh (show OpsN _ (H+3) _ _ from ⟨_,own7.only bOut7.row (by decide) hOo (by omega)⟩);rw [hli] at Hown8;clear hli;have HbO8:=Lh (bOut7.set2 (some ⟨g,0,none⟩) (i+1) cap);have HbR8:=Lh (show CiB (w7.setCell ⟨H+2,2,none⟩ (.slice (some ⟨g,0,none⟩) (i+1) cap)) (H+1) 0 0 none 0 0 from ⟨(hOo.block _ (by omega)).trans bRes7.row⟩);have HE8:=Lh (cput (o:=2) (grown_ext (HEU.out.trans he5) hgrow' (fun k hk=>by have:=(hkind k hk).1;have:=HhH.out;omega)) (show w.heap.size<=H+2 by have:=HhH.out;omega) (.slice (some ⟨g,0,none⟩) (i+1) cap));have Hs8:=Lh (show H+3<=(w7.setCell ⟨H+2,2,none⟩ (.slice (some ⟨g,0,none⟩) (i+1) cap)).heap.size by simp;exact Nat.le_trans (Nat.le_trans hbs he5.size) hgrow'.size);clear own7 bOut7 bRes7 bBox7 O7 hk7 hkind hgrow' hown' hrun ho5 ho hxx hx0 O4 hx4 he4 he5 hE0d v2 e0 e1 e2 e3 e4 e5 x2' fz2 hOo;generalize w7.setCell ⟨H+2,2,none⟩ (.slice (some ⟨g,0,none⟩) (i+1) cap)=w8 at *
   go_wp2_with fail
   go_roundg (n-(i+1))
   case measure=>omega
   case rel=>exact ⟨i+1,some ⟨g,0,none⟩,cap,by go_num,by omega,rfl,HbR8.out,HbO8.out,by rw [Hst.out];exact Hown8.out,HE8.out,Hs8.out⟩
theorem rowF_swap {w w':World} {base:Nat} {cs:Array Value} {ops:List Gop} {n i j:Nat} {gi gj:Gop} {a1:Option Addr} {n1 c1:Nat} {a2:Option Addr} {n2 c2:Nat} {b1:Option Addr} {m1 d1:Nat} {b2:Option Addr} {m2 d2:Nat}
  (hl:ops.length=n) (hij:i+j+1=n) (hlt:i<j) (hsz:n*6<=cs.size) (h:RowF w base (fun p=>cs[p]?) (half ops i)) (hgi:ops[i]?=some gi) (hgj:ops[j]?=some gj)
  (hi:OpN w base gi a1 n1 c1 a2 n2 c2) (hj:OpN w base gj b1 m1 d1 b2 m2 d2) (hk:∀ g a1 n1 c1 a2 n2 c2,OpN w base g a1 n1 c1 a2 n2 c2->OpN w' base g a1 n1 c1 a2 n2 c2) :
  RowF w' base (fun p=>(set6 (set6 cs (i*6) (opF gj b1 m1 d1 b2 m2 d2)) (j*6) (opF gi a1 n1 c1 a2 n2 c2))[p]?) (half ops (i+1)):=by
 intro t g hg
 have ht:t<n:=by have:=(List.getElem?_eq_some_iff.1 hg).1;rw [half_len (by omega),hl] at this;exact this
 rw [half_get (by omega) (by omega),hl] at hg
 by_cases e1:t=j
 ·subst e1
  rw [if_pos (by omega),show n-1-t=i by omega,hgi] at hg;injection hg with hg;subst hg
  have hin:=fun k hk=>set6_in (set6 cs (i*6) (opF gj b1 m1 d1 b2 m2 d2)) (t*6) (opF gi a1 n1 c1 a2 n2 c2) k hk (by rw [set6_size];omega)
  exact ⟨a1,n1,c1,a2,n2,c2,hin 0 (by omega),hin 1 (by omega),hin 2 (by omega),hin 3 (by omega),hin 4 (by omega),hin 5 (by omega),hk _ _ _ _ _ _ _ hi⟩
 ·have hout:∀ k,k<6->(set6 (set6 cs (i*6) (opF gj b1 m1 d1 b2 m2 d2)) (j*6) (opF gi a1 n1 c1 a2 n2 c2))[t*6+k]?=(set6 cs (i*6) (opF gj b1 m1 d1 b2 m2 d2))[t*6+k]?:=fun k hk=>set6_out _ _ _ _ (by omega)
  by_cases e2:t=i
  ·subst e2
   rw [if_pos (by omega),show n-1-t=j by omega,hgj] at hg;injection hg with hg;subst hg
   have hin:=fun k hk=>(hout k hk).trans (set6_in cs (t*6) (opF gj b1 m1 d1 b2 m2 d2) k hk (by omega))
   exact ⟨b1,m1,d1,b2,m2,d2,hin 0 (by omega),hin 1 (by omega),hin 2 (by omega),hin 3 (by omega),hin 4 (by omega),hin 5 (by omega),hk _ _ _ _ _ _ _ hj⟩
  ·have hg':(half ops i)[t]?=some g:=by
    rw [half_get (by omega) (by omega),hl]
    by_cases e3:t<i\/n-i<=t
    ·rw [if_pos e3];rw [if_pos (by omega)] at hg;exact hg
    ·rw [if_neg e3];rw [if_neg (by omega)] at hg;exact hg
   obtain ⟨x1,x2,x3,x4,x5,x6,y0,y1,y2,y3,y4,y5,y6⟩:=h t g hg'
   have hin:=fun k hk=>(hout k hk).trans (set6_out cs (i*6) (opF gj b1 m1 d1 b2 m2 d2) (t*6+k) (by omega))
   exact ⟨x1,x2,x3,x4,x5,x6,(hin 0 (by omega)).trans y0,(hin 1 (by omega)).trans y1,(hin 2 (by omega)).trans y2,(hin 3 (by omega)).trans y3,(hin 4 (by omega)).trans y4,(hin 5 (by omega)).trans y5,hk _ _ _ _ _ _ _ y6⟩
theorem sepF_swap {cs:Array Value} {n i j:Nat} {fi fj:Nat->Value} (hlt:i<j) (hj:j<n) (hsz:n*6<=cs.size) (hi6:∀ k,k<6->cs[i*6+k]?=some (fi k)) (hj6:∀ k,k<6->cs[j*6+k]?=some (fj k)) (h:SepF (n*6) (fun p=>cs[p]?)) :
  SepF (n*6) (fun p=>(set6 (set6 cs (i*6) fj) (j*6) fi)[p]?):=by
 have key:∀ p,p<n*6->∃ q,q<n*6/\(set6 (set6 cs (i*6) fj) (j*6) fi)[p]?=cs[q]?/\(p / 6=i->q=j*6+p % 6)/\(p / 6=j->q=i*6+p % 6)/\(p / 6≠i->p / 6≠j->q=p):=by
  intro p hp
  have hpe:p=p / 6*6+p % 6:=by omega
  have hp6:p % 6<6:=by omega
  by_cases e1:p / 6=j
  ·refine ⟨i*6+p % 6,by omega,?_,fun e=>by omega,fun _=>rfl,fun _ e=>absurd e1 e⟩
   have h1:=set6_in (set6 cs (i*6) fj) (j*6) fi (p % 6) hp6 (by rw [set6_size];omega);rw [show j*6+p % 6=p by omega] at h1;rw [h1,hi6 _ hp6]
  ·by_cases e2:p / 6=i
   ·refine ⟨j*6+p % 6,by omega,?_,fun _=>rfl,fun e=>absurd e e1,fun e=>absurd e2 e⟩
    have h1:=set6_in cs (i*6) fj (p % 6) hp6 (by omega);rw [show i*6+p % 6=p by omega] at h1;rw [set6_out _ _ _ _ (by omega),h1,hj6 _ hp6]
   ·refine ⟨p,hp,?_,fun e=>absurd e e2,fun e=>absurd e e1,fun _ _=>rfl⟩
    rw [set6_out _ _ _ _ (by omega),set6_out _ _ _ _ (by omega)]
 intro p q k u v hp hq eu ev ku kv;obtain ⟨p',hp1,hp2,hp3,hp4,hp5⟩:=key p hp;obtain ⟨q',hq1,hq2,hq3,hq4,hq5⟩:=key q hq;simp only at eu ev;rw [hp2] at eu;rw [hq2] at ev;have he:=h p' q' k u v hp1 hq1 eu ev ku kv
 by_cases e1:p / 6=i
 ·have:=hp3 e1
  by_cases e2:q / 6=i
  ·have:=hq3 e2;omega
  ·by_cases e3:q / 6=j
   ·have:=hq4 e3;omega
   ·have:=hq5 e2 e3;omega
 ·by_cases e1':p / 6=j
  ·have:=hp4 e1'
   by_cases e2:q / 6=i
   ·have:=hq3 e2;omega
   ·by_cases e3:q / 6=j
    ·have:=hq4 e3;omega
    ·have:=hq5 e2 e3;omega
  ·have:=hp5 e1 e1'
   by_cases e2:q / 6=i
   ·have:=hq3 e2;omega
   ·by_cases e3:q / 6=j
    ·have:=hq4 e3;omega
    ·have:=hq5 e2 e3;omega
theorem reverse_N (base:Nat) (a:Option Addr) (n c:Nat) (ops:List Gop) (w:World) (h:OpsN w base (.slice a n c) ops) (hn:n<=10000) :
  Calls Tryz.prog 90 #[.slice a n c] w fun e w'=>e=.returned (.tuple #[])/\OpsN w' base (.slice a n c) ops.reverse/\Rvs (.slice a n c) w w':=by
 by_cases h0:n=0
 ·subst h0
  have hl:ops=[]:=List.length_eq_zero_iff.1 h.at.1;subst hl;have HO:=Lh h
  have wn1:IntKind.i64.wrap (((0:Nat):Int)-1)=-1:=by decide
  clear h
  go_enter Tryz.func90,Tryz.ntmps90
  go_wp2_with fail
  go_loopg [2,3] 0 (fun kk s2 s3 wx=>s2=.int .i64 0/\s3=.int .i64 (-1)/\kk=0/\wx=w)
  case atStart=>exact ⟨rfl,rfl,rfl,rfl⟩
  case round =>
   obtain ⟨rfl,rfl,rfl,rfl⟩:=hrel
   go_wp2_with fail
   go_end0
   exact ⟨rfl,HO.out,Rvs.refl _ _⟩
 ·obtain ⟨hl,g,cur0,rfl,hb,hg,hnc,hcm,hsz,hsep,hrow⟩:=opsN_open h (by omega)
  have Hsep:=Lh hsep;obtain ⟨n1,hn1⟩:∃ x:Int,(n:Int)-1=x:=⟨_,rfl⟩
  have wn1:IntKind.i64.wrap ((n:Int)-1)=n1:=by rw [IntKind.wrap_i64];omega
  have Hg:=Lh hg;have Hrow:=Lh hrow;have Hl:=Lh hl;have Hsz:=Lh hsz;have Hb:=Lh hb;have Hnc:=Lh hnc;have Hcm:=Lh hcm;clear h hg hrow hl hsz hb hnc hcm hsep
  go_enter Tryz.func90,Tryz.ntmps90
  go_wp2_with fail
  go_loopg [2,3] n (fun kk s2 s3 wx=>∃ (i:Nat) (j:Int) (cur:Array Value),s2=.int .i64 (i:Int)/\s3=.int .i64 j/\j=n1-(i:Int)/\2*i<=n/\n-i=kk/\wx.heap[g]?=some (.cells cur 52 (0,0))/\cur.size=c*6/\SepF (n*6) (fun p=>cur[p]?)/\RowF wx base (fun p=>cur[p]?) (half ops i)/\Only g w wx)
  case atStart=>exact ⟨0,n1,cur0,rfl,rfl,by omega,by omega,by omega,Hg.out,Hsz.out,Hsep.out,by rw [half_zero];exact Hrow.out,Only.refl _ _⟩
  case round =>
   clear Hg Hrow Hsz Hsep;obtain ⟨i,j,cur,rfl,rfl,hj,h2i,hk,hg,hsz,hsep,hrow,hB⟩:=hrel
   by_cases hlt:(i:Int)<j
   ·obtain ⟨jn,rfl⟩:∃ m:Nat,j=(m:Int):=⟨j.toNat,by omega⟩
    have q1':decide ((i:Int)<(jn:Int))=true:=dt hlt
    have hij:i+jn+1=n:=by omega
    have b0:(0:Int)<=(i:Int):=by omega
    have b1:(i:Int)<(n:Int):=by omega
    have b2:(0:Int)<=(jn:Int):=by omega
    have b3:(jn:Int)<(n:Int):=by omega
    obtain ⟨gi,hgi⟩:∃ x,ops[i]?=some x:=⟨_,List.getElem?_eq_getElem (by rw [Hl.out];omega)⟩;obtain ⟨gj,hgj⟩:∃ x,ops[jn]?=some x:=⟨_,List.getElem?_eq_getElem (by rw [Hl.out];omega)⟩;obtain ⟨a1,m1,c1,a2,m2,c2,x0,x1,x2,x3,x4,x5,x6⟩:=hrow i gi (by rw [half_get (by rw [Hl.out];omega) (by rw [Hl.out];omega),if_neg (by rw [Hl.out];omega)];exact hgi);obtain ⟨b1',p1,d1,b2',p2,d2,y0,y1,y2,y3,y4,y5,y6⟩:=hrow jn gj (by rw [half_get (by rw [Hl.out];omega) (by rw [Hl.out];omega),if_neg (by rw [Hl.out];omega)];exact hgj)
    have ce:∀ (k:Nat) (v:Value),cur[k]?=some v->wr.cell? ⟨g,k,none⟩=some v:=fun k v e=>by rw [cell_of_row wr g k cur _ (0,0) hg];exact e
    have fz:∀ k,wr.frozen? ⟨g,k,none⟩=false:=fun k=>frozen_of_row wr g k _ _ hg
    have u0:=ce _ _ x0;have u1:=ce _ _ x1;have u2:=ce _ _ x2;have u3:=ce _ _ x3;have u4:=ce _ _ x4;have u5:=ce _ _ x5;have v0:=ce _ _ y0;have v1:=ce _ _ y1;have v2:=ce _ _ y2;have v3:=ce _ _ y3;have v4:=ce _ _ y4;have v5:=ce _ _ y5
    have wi:IntKind.i64.wrap ((i:Int)+1)=((i+1:Nat):Int):=by rw [IntKind.wrap_i64];omega
    obtain ⟨j1,hj1⟩:∃ x:Int,(jn:Int)-1=x:=⟨_,rfl⟩
    have wj:IntKind.i64.wrap ((jn:Int)-1)=j1:=by rw [IntKind.wrap_i64];omega
    have ne:jn≠i:=by omega
    have hsp:=sepF_swap (cs:=cur) (n:=n) (i:=i) (j:=jn) (fi:=opF gi a1 m1 c1 a2 m2 c2) (fj:=opF gj b1' p1 d1 b2' p2 d2) (by omega) (show jn<n by omega) (by rw [hsz];have:=Hnc.out;omega) (fun k hk6=>by
     rcases (show k=0\/k=1\/k=2\/k=3\/k=4\/k=5 by omega) with rfl | rfl | rfl | rfl | rfl | rfl
     ·exact x0
     ·exact x1
     ·exact x2
     ·exact x3
     ·exact x4
     ·exact x5) (fun k hk6=>by
     rcases (show k=0\/k=1\/k=2\/k=3\/k=4\/k=5 by omega) with rfl | rfl | rfl | rfl | rfl | rfl
     ·exact y0
     ·exact y1
     ·exact y2
     ·exact y3
     ·exact y4
     ·exact y5) hsep
    have Hsp:=Lh hsp;have Hij:=Lh hij;have Hj:=Lh hj;have Hj1:=Lh hj1;have Hn1:=Lh hn1;have Hlt:=Lh hlt;have Hg:=Lh hg;have Hsz:=Lh hsz;have Hrow:=Lh hrow;have HB:=Lh hB;have Hx6:=Lh x6;have Hy6:=Lh y6;have Hgi:=Lh hgi;have Hgj:=Lh hgj;have H2i:=Lh h2i;have Hk:=Lh hk;obtain ⟨kdi,ki,ctli,qi,bti,cndi⟩:=gi;obtain ⟨kdj,kj,ctlj,qj,btj,cndj⟩:=gj;simp only at u0 u1 u3 u4 v0 v1 v3 v4;clear hsp hsep ce hij hj hj1 hn1 hg hsz hrow hB x6 y6 hgi hgj x0 x1 x2 x3 x4 x5 y0 y1 y2 y3 y4 y5 h2i hk;have hWo:Only g wr (putAt (putAt wr g (i*6) (opF ⟨kdj,kj,ctlj,qj,btj,cndj⟩ b1' p1 d1 b2' p2 d2)) g (jn*6) (opF ⟨kdi,ki,ctli,qi,bti,cndi⟩ a1 m1 c1 a2 m2 c2)):=((((((putAt_only wr g (i*6) (opF ⟨kdj,kj,ctlj,qj,btj,cndj⟩ b1' p1 d1 b2' p2 d2)).setCell _ _).setCell _ _).setCell _ _).setCell _ _).setCell _ _).setCell _ _;have hWr:=putAt_row (p:=jn*6) (opF ⟨kdi,ki,ctli,qi,bti,cndi⟩ a1 m1 c1 a2 m2 c2) (putAt_row (p:=i*6) (opF ⟨kdj,kj,ctlj,qj,btj,cndj⟩ b1' p1 d1 b2' p2 d2) Hg.out);have hWb:Only g w (putAt (putAt wr g (i*6) (opF ⟨kdj,kj,ctlj,qj,btj,cndj⟩ b1' p1 d1 b2' p2 d2)) g (jn*6) (opF ⟨kdi,ki,ctli,qi,bti,cndi⟩ a1 m1 c1 a2 m2 c2)):=HB.out.trans (Only.trans (putAt_only wr g (i*6) _) (putAt_only _ g (jn*6) _))
    have hWs:(putAt (putAt wr g (i*6) (opF ⟨kdj,kj,ctlj,qj,btj,cndj⟩ b1' p1 d1 b2' p2 d2)) g (jn*6) (opF ⟨kdi,ki,ctli,qi,bti,cndi⟩ a1 m1 c1 a2 m2 c2)).heap.size=wr.heap.size:=by rw [putAt_size,putAt_size]
    obtain ⟨Wz,hWz⟩:∃ Wz,putAt (putAt wr g (i*6) (opF ⟨kdj,kj,ctlj,qj,btj,cndj⟩ b1' p1 d1 b2' p2 d2)) g (jn*6) (opF ⟨kdi,ki,ctli,qi,bti,cndi⟩ a1 m1 c1 a2 m2 c2)=Wz:=⟨_,rfl⟩;rw [hWz] at hWo hWr hWb hWs;have hki:=only_ints Hg.out (by decide) hWo;have HRz:=Lh (rowF_swap (w':=Wz.drew) Hl.out Hij.out (by have:=Hlt.out;omega) (by rw [Hsz.out];have:=Hnc.out;omega) Hrow.out Hgi.out Hgj.out Hx6.out Hy6.out (fun _ _ _ _ _ _ _ ho=>ho.keep (w':=Wz.drew) hki));have HWz:Hid (_=Wz):=Lh hWz;have Hrz:=Lh (show Wz.drew.heap[g]?=_ from hWr);have HBz:=Lh (Only.drewn hWb);have Hs6:=Lh (show (set6 (set6 cur (i*6) (opF ⟨kdj,kj,ctlj,qj,btj,cndj⟩ b1' p1 d1 b2' p2 d2)) (jn*6) (opF ⟨kdi,ki,ctli,qi,bti,cndi⟩ a1 m1 c1 a2 m2 c2)).size=c*6 by rw [set6_size,set6_size];exact Hsz.out);clear hWo hWr hWb hWs hWz hki;simp only [putAt,opF] at HWz
    go_upto_region 3 with fail
    go_region
    rw [HWz.out];generalize Wz.drew=Wd at *
    go_wp2_with fail
    go_roundg (n-(i+1))
    case measure=>have:=Hk.out;have:=H2i.out;have:=Hij.out;omega
    case rel=>exact ⟨i+1,j1,_,rfl,rfl,by have:=Hj1.out;have:=Hj.out;omega,by have:=Hij.out;have:=Hlt.out;omega,rfl,Hrz.out,Hs6.out,Hsp.out,HRz.out,HBz.out⟩
   ·have q1':decide ((i:Int)<j)=false:=df hlt
    have hdone:=half_done (ops:=ops) (i:=i) (by rw [Hl.out];exact h2i) (by rw [Hl.out];omega);rw [hdone] at hrow;have HO:=Lh (opsN_close (base:=base) (n:=n) (c:=c) (by rw [List.length_reverse];exact Hl.out) Hb.out hg Hnc.out Hcm.out hsz hsep hrow);have HB:=Lh hB;clear hdone hrow hg hsz hB hj hsep
    go_wp2_with fail
    go_end0
    exact ⟨rfl,HO.out,Rvs.of_only HB.out⟩
theorem rowF_undo {w w':World} {base:Nat} {cs:Array Value} {ops:List Gop} {n i:Nat} {gi:Gop} (hl:ops.length=n) (hi:i<n) (hsz:n*6<=cs.size) (h:RowF w base (fun p=>cs[p]?) (invF ops i)) (hgi:ops[i]?=some gi)
  (hk:∀ g a1 n1 c1 a2 n2 c2,OpN w base g a1 n1 c1 a2 n2 c2->OpN w' base g a1 n1 c1 a2 n2 c2):RowF w' base (fun p=>(cs.setIfInBounds (i*6+1) (.int .i64 (opp gi.k)))[p]?) (invF ops (i+1)):=by
 intro t g hg
 have ht:t<n:=by have:=(List.getElem?_eq_some_iff.1 hg).1;rw [invF_len,hl] at this;exact this
 rw [invF_get (by omega)] at hg
 by_cases e1:t=i
 ·subst e1
  rw [if_pos (by omega),hgi] at hg;injection hg with hg;subst hg;obtain ⟨x1,x2,x3,x4,x5,x6,y0,y1,y2,y3,y4,y5,y6⟩:=h t gi (by rw [invF_get (by omega),if_neg (by omega)];exact hgi);have ho:=hk _ _ _ _ _ _ _ y6;refine ⟨x1,x2,x3,x4,x5,x6,?_,?_,?_,?_,?_,?_,⟨ho.i1,ho.i2,ho.ne⟩⟩
  ·show (cs.setIfInBounds _ _)[_]?=_;rw [Array.getElem?_setIfInBounds,if_neg (by omega)];exact y0
  ·show (cs.setIfInBounds _ _)[_]?=_;rw [Array.getElem?_setIfInBounds,if_pos rfl,if_pos (by omega)];rfl
  ·show (cs.setIfInBounds _ _)[_]?=_;rw [Array.getElem?_setIfInBounds,if_neg (by omega)];exact y2
  ·show (cs.setIfInBounds _ _)[_]?=_;rw [Array.getElem?_setIfInBounds,if_neg (by omega)];exact y3
  ·show (cs.setIfInBounds _ _)[_]?=_;rw [Array.getElem?_setIfInBounds,if_neg (by omega)];exact y4
  ·show (cs.setIfInBounds _ _)[_]?=_;rw [Array.getElem?_setIfInBounds,if_neg (by omega)];exact y5
 ·have hg':(invF ops i)[t]?=some g:=by
   rw [invF_get (by omega)]
   by_cases e3:t<i
   ·rw [if_pos e3];rw [if_pos (by omega)] at hg;exact hg
   ·rw [if_neg e3];rw [if_neg (by omega)] at hg;exact hg
  obtain ⟨x1,x2,x3,x4,x5,x6,y0,y1,y2,y3,y4,y5,y6⟩:=h t g hg';refine ⟨x1,x2,x3,x4,x5,x6,?_,?_,?_,?_,?_,?_,hk _ _ _ _ _ _ _ y6⟩
  ·show (cs.setIfInBounds _ _)[_]?=_;rw [Array.getElem?_setIfInBounds,if_neg (by omega)];exact y0
  ·show (cs.setIfInBounds _ _)[_]?=_;rw [Array.getElem?_setIfInBounds,if_neg (by omega)];exact y1
  ·show (cs.setIfInBounds _ _)[_]?=_;rw [Array.getElem?_setIfInBounds,if_neg (by omega)];exact y2
  ·show (cs.setIfInBounds _ _)[_]?=_;rw [Array.getElem?_setIfInBounds,if_neg (by omega)];exact y3
  ·show (cs.setIfInBounds _ _)[_]?=_;rw [Array.getElem?_setIfInBounds,if_neg (by omega)];exact y4
  ·show (cs.setIfInBounds _ _)[_]?=_;rw [Array.getElem?_setIfInBounds,if_neg (by omega)];exact y5
theorem sepF_int {cs:Array Value} {m p:Nat} {z:Int} (h:SepF m (fun q=>cs[q]?)):SepF m (fun q=>(cs.setIfInBounds p (.int .i64 z))[q]?):=by
 have key:∀ (q:Nat) (u:Value) (k:Nat),(cs.setIfInBounds p (.int .i64 z))[q]?=some u->u.ownBlock=some k->cs[q]?=some u:=by
  intro q u k hu hk;rw [Array.getElem?_setIfInBounds] at hu
  split at hu
  ·split at hu
   ·cases hu;simp [Value.ownBlock] at hk
   ·cases hu
  ·exact hu
 intro i j k u v hi hj eu ev ku kv;exact h i j k u v hi hj (key i u k eu ku) (key j v k ev kv) ku kv
theorem Inverse_N (c:Gci) (ao:Option Addr) (n cp:Nat) (w:World) (h:OpsAt w ao n c.ops) (hn:n<=cp) (hcp:cp<=9223372036854775807) (hS:Shp w) (hp:(pur c).1=0) :
  Calls Tryz.prog 51 #[.agg #[.int .i64 c.qubits,.int .i64 c.bits,.slice ao n cp]] w fun e w'=>(∃ (a':Option Addr) (c':Nat),e=.returned (.tuple #[.agg #[.int .i64 c.qubits,.int .i64 c.bits,.slice a' n c'],.agg #[.int .i64 0,.int .i64 0]])/\OpsN w' (w.heap.size+3) (.slice a' n c') (invO c.ops))/\Ext w w':=by
 obtain ⟨hck,hpz⟩:=pur_zero hp;obtain ⟨hz,hq1,hq2,hb1,hb2,hl4,hop⟩:=chk_zero hck
 have hfit:∀ g ∈ c.ops,(g.ctl.length<=1000/\g.cnd.length<=1000)/\0<=g.k/\g.k<=15:=fun g hg=>by
  have f:=prFit_of_code hq2 hb1 hb2 (hop g hg);exact ⟨⟨Nat.le_trans f.few (by decide),Nat.le_trans f.cfew (by decide)⟩,opk_range (hop g hg)⟩
 have hl:c.ops.length=n:=h.1;rw [hl] at hl4;obtain ⟨qb,bi,ops⟩:=c;simp only at hfit hl h ⊢;obtain ⟨H,hH⟩:∃ H,w.heap.size=H:=⟨_,rfl⟩;obtain ⟨A1,hA1⟩:∃ A1,w.alloc (.cells #[.int .i64 qb,.int .i64 bi,.slice ao n cp] 24)=A1:=⟨_,rfl⟩;obtain ⟨A2,hA2⟩:∃ A2,A1.alloc (.cells #[.int .i64 0,.int .i64 0,.slice none 0 0] 24)=A2:=⟨_,rfl⟩;obtain ⟨A3,hA3⟩:∃ A3,A2.alloc (.cells #[.int .i64 0,.int .i64 0] 29)=A3:=⟨_,rfl⟩
 have s1:A1.heap.size=H+1:=by rw [<-hA1,<-hH];simp
 have s2:A2.heap.size=H+2:=by rw [<-hA2];simp;omega
 have s3:A3.heap.size=H+3:=by rw [<-hA3];simp;omega
 have x1:Ext w A1:=by rw [<-hA1];exact ext_al _ _
 have x2:Ext A1 A2:=by rw [<-hA2];exact ext_al _ _
 have x3:Ext A2 A3:=by rw [<-hA3];exact ext_al _ _
 have bC:CiB A3 H qb bi ao n cp:=by
  have:CiB A1 H qb bi ao n cp:=by rw [<-hA1,<-hH];exact ⟨heap_alloc_new w _⟩
  exact (this.ext x2).ext x3
 have bR:CiB A3 (H+1) 0 0 none 0 0:=by
  have:CiB A2 (H+1) 0 0 none 0 0:=by rw [<-hA2,<-s1];exact ⟨heap_alloc_new A1 _⟩
  exact this.ext x3
 have bF:FtB A3 (H+2) 0 0:=by rw [<-hA3,<-s2];exact ⟨heap_alloc_new A2 _⟩
 have E0:Ext w A3:=(x1.trans x2).trans x3
 have hA:((w.alloc (.cells #[.int .i64 qb,.int .i64 bi,.slice ao n cp] 24)).alloc (.cells #[.int .i64 0,.int .i64 0,.slice none 0 0] 24)).alloc (.cells #[.int .i64 0,.int .i64 0] 29)=A3:=by rw [hA1,hA2,hA3]
 have HK:=Lh (Pure_any ⟨qb,bi,ops⟩ ao n cp A3 (h.ext E0) hn hcp (hS.ext E0));rw [hpz] at HK;simp only at HK;have m0:=bC.x0;have m1:=bC.x1;have m2:=bC.x2;rw [<-hA] at m0 m1 m2;have HA:=Lh hA;have HE0:=Lh E0;have HC:=Lh bC;have HR:=Lh bR;have HFt:=Lh bF;have Hops:=Lh (h.ext E0);have Hfit:=Lh hfit;have Hl:=Lh hl;have Hs3:=Lh s3;have HhH:=Lh hH;clear h hS hpz E0 bC bR bF x1 x2 x3 s1 s2 s3 hA1 hA2 hA3 hA hfit hl hck hz hq1 hq2 hb1 hb2 hop hp
 go_enter Tryz.func51,Tryz.ntmps51
 go_wp2_with fail
 rw [HA.out];refine HK.out.mono ?_;rintro e w1 ⟨rfl,hx1⟩;have Ef:=ext_al w1 (.cells #[.int .i64 0,.int .i64 0] 29);have bf1:FtB (w1.alloc (.cells #[.int .i64 0,.int .i64 0] 29)) w1.heap.size 0 0:=⟨heap_alloc_new w1 _⟩;have q0:=bf1.x0;have q1:=bf1.x1;have hX:=hx1.trans Ef;have bC1:=HC.out.ext hX;have y0:=bC1.x0;have y1:=bC1.x1;have y2:=bC1.x2;have HR1:=Lh (HR.out.ext hX);have HF1:=Lh (HFt.out.ext hX);have HE1:=Lh (HE0.out.trans hX);have Hops1:=Lh (Hops.out.ext hX);have Hsz1:=Lh (show H+3<=(w1.alloc (.cells #[.int .i64 0,.int .i64 0] 29)).heap.size by rw [<-Hs3.out];exact hX.size);clear hx1 Ef bf1 hX bC1 HK HC HR HFt HE0 Hops m0 m1 m2
 go_wp2_with fail
 generalize w1.alloc (.cells #[.int .i64 0,.int .i64 0] 29)=W1 at *;refine (with_N qb bi ao n cp ao n cp ops W1 Hops1.out (by omega) (fun g hg=>(Hfit.out g hg).1)).mono ?_;rintro e w2 ⟨⟨av,cv,rfl,hO2⟩,hx2⟩;obtain ⟨Ob,hOb⟩:∃ x,w2.heap.size=x:=⟨_,rfl⟩;have Eo:=ext_al w2 (.cells #[.int .i64 qb,.int .i64 bi,.slice av n cv] 24)
 have bO:CiB (w2.alloc (.cells #[.int .i64 qb,.int .i64 bi,.slice av n cv] 24)) Ob qb bi av n cv:=by rw [<-hOb];exact ⟨heap_alloc_new w2 _⟩
 have z2:=bO.x2
 have hlt2:∀ k,(Value.slice av n cv).ownBlock=some k->H+3<=k/\k<Ob:=by
  obtain ⟨xs,hox⟩:=hO2;have ho:=hox.own;intro k hk;have h1:=own_lt ho k hk;have h2:=Hsz1.out;omega
 have HOo:=Lh (hO2.ext Eo);have HbO:=Lh bO;have HR2:=Lh (HR1.out.ext (hx2.trans Eo));have HF2:=Lh (HF1.out.ext (hx2.trans Eo));have HE2:=Lh (HE1.out.trans (hx2.trans Eo));have Hlt2:=Lh hlt2;have Hb3:=Lh (show H+3<=W1.heap.size+3 by have:=Hsz1.out;omega);clear hO2 hx2 Eo bO hlt2 HR1 HF1 HE1 Hops1 y0 y1 y2 q0 q1
 go_wp2_with fail
 generalize w2.alloc (.cells #[.int .i64 qb,.int .i64 bi,.slice av n cv] 24)=W2 at *;refine (reverse_N (W1.heap.size+3) av n cv ops W2 HOo.out (by omega)).mono ?_;rintro e w3 ⟨rfl,hO3,hrv⟩;have bO3:=HbO.out.rvs hrv (fun e=>by have:=(Hlt2.out _ e).2;omega);have y2:=bO3.x2;have HR3:=Lh (HR2.out.rvs hrv (fun e=>by have:=(Hlt2.out _ e).1;omega));have HF3:=Lh (HF2.out.rvs hrv (fun e=>by have:=(Hlt2.out _ e).1;omega));have HE3:=Lh (hrv.ext HE2.out (fun i e=>by have:=(Hlt2.out _ e).1;have:=HhH.out;omega));have HbO3:=Lh bO3;have HO3:=Lh hO3;clear hrv bO3 hO3 HOo HbO HR2 HF2 HE2 z2
 go_wp2_with fail
 obtain ⟨rops,hrops⟩:∃ x,ops.reverse=x:=⟨_,rfl⟩;have Hrl:=Lh (show rops.length=n by rw [<-hrops,List.length_reverse];exact Hl.out);have Hrf:=Lh (show ∀ g ∈ rops,0<=g.k/\g.k<=15 from fun g hg=>(Hfit.out g (by rw [<-hrops] at hg;exact List.mem_reverse.1 hg)).2);have Hinv:=Lh (show invO ops=rops.map undoO by unfold invO;rw [hrops]);rw [hrops] at HO3;clear hrops Hfit;obtain ⟨base,hbase⟩:∃ x,W1.heap.size+3=x:=⟨_,rfl⟩;rw [hbase] at HO3 Hb3;clear hbase
 go_loopg [6,7,25] n (fun kk s6 s7 s25 wx=>∃ (i:Nat),s25=.int .i64 (i:Int)/\i<=n/\n-i=kk/\CiB wx (H+1) 0 0 none 0 0/\FtB wx (H+2) 0 0/\CiB wx Ob qb bi av n cv/\OpsN wx base (.slice av n cv) (invF rops i)/\Ext w wx/\H+3<=wx.heap.size/\Ob<wx.heap.size)
 case atStart=>exact ⟨0,rfl,by omega,by omega,HR3.out,HF3.out,HbO3.out,by rw [invF_zero];exact HO3.out,HE3.out,by have:=HF3.out.lt;omega,HbO3.out.lt⟩
 case round =>
  clear HR3 HF3 HbO3 HO3 HE3 y2;obtain ⟨i,rfl,hin',hk,bR,bF,bO,hO,hX,hs3,hsO⟩:=hrel
  by_cases hin:i=n
  ·have q1:¬ (i:Int)<(n:Int):=by omega
   have q1':decide ((i:Int)<(n:Int))=false:=df q1;rw [invF_all (by rw [Hrl.out];omega),<-Hinv.out] at hO;have y0:=bO.x0;have y1:=bO.x1;have y2:=bO.x2;have r0:=bR.x0;have r1:=bR.x1;have r2:=bR.x2;have g0:=bR.f 0;have g1:=bR.f 1;have g2:=bR.f 2;have f0:=bF.x0;have f1:=bF.x1;have k0:=bF.f 0;have k1:=bF.f 1;have zC:=putCF_C bR (show H+1≠H+1+1 by omega) qb bi av n cv 0 0;have zF:=putCF_F bF (show H+1≠H+2 by omega) qb bi av n cv 0 0;have zO:=putCF_opsN hO bR bF (show H+1≠H+2 by omega) qb bi av n cv 0 0;have zE:Ext w (putCF wr (H+1) (H+2) qb bi av n cv 0 0):=putCF_ext hX (show w.heap.size<=H+1 by omega) (show w.heap.size<=H+2 by omega) _ _ _ _ _ _ _;obtain ⟨Wz,hWz⟩:∃ Wz,putCF wr (H+1) (H+2) qb bi av n cv 0 0=Wz:=⟨_,rfl⟩;rw [show H+1+1=H+2 from rfl] at zC;rw [hWz] at zC zF zO zE;unfold putCF at hWz;have HWz:=Lh hWz;have HzE:=Lh zE;have HzO:=Lh zO;have v0:=zC.x0;have v1:=zC.x1;have v2:=zC.x2;have v3:=zF.x0;have v4:=zF.x1;clear zC zF zO zE hWz bR bF bO hO hX hin hin' hk hs3 hsO
   go_wp2_with fail
   rw [HWz.out];have HH:=HhH.out;exact bodyPost_ret (v:=.tuple #[.agg #[.int .i64 qb,.int .i64 bi,.slice av n cv],.agg #[.int .i64 0,.int .i64 0]]) (by simp [results,Tryz.results51,go_sem,v0,v1,v2,v3,v4]) rfl ⟨⟨av,cv,rfl,HzO.out.down (by have:=Hb3.out;omega)⟩,HzE.out⟩
  ·have q1:(i:Int)<(n:Int):=by omega
   have q1':decide ((i:Int)<(n:Int))=true:=dt q1
   have p0:(0:Int)<=(i:Int):=by omega
   obtain ⟨gg,hg⟩:∃ g,rops[i]?=some g:=⟨_,List.getElem?_eq_getElem (by rw [Hrl.out];omega)⟩;have hkr:=Hrf.out gg (List.mem_of_getElem? hg);obtain ⟨hl2,g,cur,eav,hbg,hrw,hnc,hcm,hsz,hsep,hrow⟩:=opsN_open hO (by omega);subst eav;obtain ⟨a1,n1,c1,a2,n2,c2,x0,x1,x2,x3,x4,x5,x6⟩:=hrow i gg (by rw [invF_get (by rw [Hrl.out];omega),if_neg (by omega)];exact hg)
   have ce:∀ (k:Nat) (v:Value),cur[k]?=some v->wr.cell? ⟨g,k,none⟩=some v:=fun k v e=>by rw [cell_of_row wr g k cur _ (0,0) hrw];exact e
   have t0:=ce _ _ x0;have t1:=ce _ _ x1;have t2:=ce _ _ x2;have t3:=ce _ _ x3;have t4:=ce _ _ x4;have t5:=ce _ _ x5
   have gOb:g<Ob:=by have:=(Hlt2.out g rfl).2;exact this
   have gH:H+3<=g:=(Hlt2.out g rfl).1;obtain ⟨U,hU⟩:∃ U,wr.alloc (.cells #[.int .i64 gg.kind,.int .i64 gg.k,.slice a1 n1 c1,.int .i64 gg.q,.int .i64 gg.bit,.slice a2 n2 c2] 52)=U:=⟨_,rfl⟩;obtain ⟨Bx,hBx⟩:∃ x,wr.heap.size=x:=⟨_,rfl⟩
   have hEU:Ext wr U:=by rw [<-hU];exact ext_al _ _
   have bx:OpBx U Bx gg.kind gg.k a1 n1 c1 gg.q gg.bit a2 n2 c2:=by rw [<-hU,<-hBx];exact opbx_new wr _ _ a1 n1 c1 _ _ a2 n2 c2
   have hrwU:U.heap[g]?=some (.cells cur 52 (0,0)):=(hEU.block g (by have:=(gS.1 hrw).1;exact this)).trans hrw
   have hrowU:RowF U base (fun p=>cur[p]?) (invF rops i):=fun t gx hgx=>by
    obtain ⟨z1,z2,z3,z4,z5,z6,w0,w1,w2,w3,w4,w5,w6⟩:=hrow t gx hgx;exact ⟨z1,z2,z3,z4,z5,z6,w0,w1,w2,w3,w4,w5,w6.ext hEU⟩
   have HOp:=Lh (fun wx=>opposite_any gg.k wx hkr.1 (by omega));obtain ⟨ok,hok⟩:∃ x,opp gg.k=x:=⟨_,rfl⟩;rw [hok] at HOp;have hOs:=only1 U.drew g (i*6+1) (.int .i64 ok);have hki:=only_ints (w:=U.drew) (w':=U.drew.setCell ⟨g,i*6+1,none⟩ (.int .i64 ok)) hrwU (by decide) hOs;have hrz:=rowF_undo (w':=U.drew.setCell ⟨g,i*6+1,none⟩ (.int .i64 ok)) Hrl.out (by omega) (by rw [hsz];omega) hrowU hg (fun _ _ _ _ _ _ _ ho=>(ho.ext (cdrew (Ext.refl U))).keep hki);rw [hok] at hrz;have hwz:(U.drew.setCell ⟨g,i*6+1,none⟩ (.int .i64 ok)).heap[g]?=some (.cells (cur.setIfInBounds (i*6+1) (.int .i64 ok)) 52 (0,0)):=row_put (W:=U.drew) hrwU rfl;have HOz:=Lh (opsN_close (base:=base) (n:=n) (c:=cv) (by rw [invF_len];exact Hrl.out) hbg hwz hnc hcm (by simp [hsz]) (sepF_int hsep) hrz);have HRz:=Lh (show CiB (U.drew.setCell ⟨g,i*6+1,none⟩ (.int .i64 ok)) (H+1) 0 0 none 0 0 from ⟨(hOs.block _ (by omega)).trans (bR.ext hEU).drew.row⟩);have HFz:=Lh (show FtB (U.drew.setCell ⟨g,i*6+1,none⟩ (.int .i64 ok)) (H+2) 0 0 from ⟨(hOs.block _ (by omega)).trans (bF.ext hEU).drew.row⟩);have HBz:=Lh (show CiB (U.drew.setCell ⟨g,i*6+1,none⟩ (.int .i64 ok)) Ob qb bi (some ⟨g,0,none⟩) n cv from ⟨(hOs.block _ (by omega)).trans (bO.ext hEU).drew.row⟩);have HXz:=Lh (cput (o:=i*6+1) (cdrew (hX.trans hEU)) (show w.heap.size<=g by omega) (.int .i64 ok));have Hsz:=Lh (show H+3<=(U.drew.setCell ⟨g,i*6+1,none⟩ (.int .i64 ok)).heap.size by simp;exact Nat.le_trans hs3 hEU.size);have Hso:=Lh (show Ob<(U.drew.setCell ⟨g,i*6+1,none⟩ (.int .i64 ok)).heap.size by simp;exact Nat.lt_of_lt_of_le hsO hEU.size);have v2:=(bO.ext hEU).x2;have e1:=bx.x1
   have rc1:U.drew.cell? ⟨g,i*6+1,none⟩=some (.int .i64 gg.k):=by
    have:U.cell? ⟨g,i*6+1,none⟩=some (.int .i64 gg.k):=cell_ext t1 hEU;exact this
   have rf1:U.drew.frozen? ⟨g,i*6+1,none⟩=false:=frozen_of_row U.drew g _ _ _ hrwU;have HU:=Lh hU;obtain ⟨kd,kk',ctl,qq,bb,cnd⟩:=gg;simp only at t0 t1 t3 t4 HOp e1 rc1 HU
   have nOx:Ob≠Bx:=by omega
   clear hsep hrz hwz hki hOs hrowU hrwU hEU hU bx ce hrow hrw x0 x1 x2 x3 x4 x5 x6 hkr hg hok bR bF bO hO hX hl2 hnc hcm hsz hbg
   go_upto_region 9 with fail
   rw [HU.out];clear t0 t1 t2 t3 t4 t5;refine wp_region_K 8 (fun w'=>w'.cell? ⟨Ob,2,none⟩=some (.slice (some ⟨g,0,none⟩) n cv)/\w'.cell? ⟨Bx,1,none⟩=some (.int .i64 kk')) (by kernel_rfl) ?_
   show anyK _ _ _ _ _ _ 9 #[false,false,false,false,false,false,false,false,false] _ _
   have hHeld:U.drew.cell? ⟨Ob,2,none⟩=some (.slice (some ⟨g,0,none⟩) n cv)/\U.drew.cell? ⟨Bx,1,none⟩=some (.int .i64 kk'):=⟨v2,e1⟩;refine kT 0 9 (v:=?_) rfl (Or.inl ⟨by rfl,?_⟩) hHeld ?_;rotate_left 1
   ·intro w hSw
    go_simp
    try with_reducible rfl
   show anyK _ _ _ _ _ _ _ _ (Act.put _ (some 30) _) _
   simp only [Act.put,sx0,sx1,sx2];refine kT 1 9 (v:=?_) rfl (Or.inl ⟨by rfl,?_⟩) hHeld ?_;rotate_left 1
   ·intro w hSw
    go_simp
    try with_reducible rfl
   show anyK _ _ _ _ _ _ _ _ (Act.put _ (some 31) _) _
   simp only [Act.put,sx0,sx1,sx2];refine kT 2 9 (v:=?_) rfl (Or.inl ⟨by rfl,?_⟩) hHeld ?_;rotate_left 1
   ·intro w hSw
    go_simp
    try with_reducible rfl
   show anyK _ _ _ _ _ _ _ _ (Act.put _ (some 32) _) _
   simp only [Act.put,sx0,sx1,sx2];refine kT 3 9 (v:=?_) rfl (Or.inl ⟨by rfl,?_⟩) hHeld ?_;rotate_left 1
   ·intro w hSw
    go_simp
    try with_reducible rfl
   show anyK _ _ _ _ _ _ _ _ (Act.put _ (some 33) _) _
   simp only [Act.put,sx0,sx1,sx2];refine kT 4 9 (v:=?_) rfl (Or.inl ⟨by rfl,?_⟩) hHeld ?_;rotate_left 1
   ·intro w hSw
    go_simp
    try with_reducible rfl
   show anyK _ _ _ _ _ _ _ _ (Act.put _ (some 34) _) _
   simp only [Act.put,sx0,sx1,sx2];clear hHeld;refine anyK_one (i:=5) (by kernel_rfl) rfl (fun Kk hKk=>?_)
   go_simp
   (go_at_call 91;refine (HOp.out _).mono ?_;rintro e w4 ⟨rfl,rfl⟩)
   go_wp2_with fail
   refine hKk.out _ _ (fun _=>⟨v2,e1⟩) ?_;clear hKk Kk;simp only [sx0,sx1,sx2];have hHeld:U.drew.cell? ⟨Ob,2,none⟩=some (.slice (some ⟨g,0,none⟩) n cv)/\U.drew.cell? ⟨Bx,1,none⟩=some (.int .i64 kk'):=⟨v2,e1⟩;refine kT 6 9 (v:=?_) rfl (Or.inl ⟨by rfl,?_⟩) hHeld ?_;rotate_left 1
   ·intro w hSw
    go_simp
    try with_reducible rfl
   show anyK _ _ _ _ _ _ _ _ (Act.put _ (some 36) _) _
   simp only [Act.put,sx0,sx1,sx2];refine kT 7 9 (v:=?_) rfl (Or.inl ⟨by rfl,?_⟩) hHeld ?_;rotate_left 1
   ·intro w hSw
    go_simp
    try with_reducible rfl
   show anyK _ _ _ _ _ _ _ _ (Act.put _ (some 37) _) _
   simp only [Act.put,sx0,sx1,sx2];clear hHeld;refine anyK_one (i:=8) (by kernel_rfl) rfl (fun Kk hKk=>?_);refine stepK_storeN rfl rfl _ _ rfl g (i*6+1) ok (.int .i64 kk') rfl rfl rc1 rf1 ?_;refine hKk.out _ _ (fun h=>Bool.noConfusion (show true=false from h)) ?_;clear hKk Kk;simp only [sx0,sx1,sx2];refine anyK_done (by kernel_rfl) ?_ _;generalize U.drew.setCell ⟨g,i*6+1,none⟩ (.int .i64 ok)=w8 at *
   go_wp2_with fail
   go_roundg (n-(i+1))
   case measure=>omega
   case rel=>exact ⟨i+1,by go_num,by omega,rfl,HRz.out,HFz.out,HBz.out,HOz.out,HXz.out,Hsz.out,Hso.out⟩
end Go.Proofs.YtlechhmhmakgpaaGreatDoor
