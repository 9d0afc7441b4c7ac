/-
  The program: one amplitude of a wave is written; the wave of a basis state. The program: a loop over basis states that works on a wave: what its body does to each state is done to all, one after the other. The program: turn. A region that draws its order and stores twice: what is held until number k has come up (S), what is held throughout (T). The program: exchange. A sum: Add.
-/
import Derived.Test.YtfjnlopbmkimiaaGreatDoorS19Xqq
namespace Go.Proofs.YtfjnlopbmkimiaaGreatDoor
set_option maxRecDepth 100000
set_option maxHeartbeats 4000000
open Go.RowKit
theorem PtA.put {w:World} {p:Option Addr} {x:Nm} {P E b i:Nat} {cs:Array Value} {v:Value} (h:PtA w p x P E) (hb:w.heap[b]?=some (.cells cs 105 (0,0))) (hk:Keep64 w (w.setCell ⟨b,i,none⟩ v)):PtA (w.setCell ⟨b,i,none⟩ v) p x P E:=by
 rcases h with h | ⟨g,c,h1,h2,h3,h4⟩
 ·exact Or.inl h
 ·have hne:g≠b:=fun e=>by
   subst e;rw [hb] at h2
   simp at h2
  refine Or.inr ⟨g,c,h1,?_,h3.keep64 hk,h4⟩;rw [Below.heap_setCell _ _ _ _ (fun e=>hne e)];exact h2
theorem WvAt.set {w:World} {b n:Nat} {s:Nat->Nm} {P E:Nat} (h:WvAt w b n s P E) {x:Nat} (hx:x<n) {p:Option Addr} {z:Nm} (hz:PtA w p z P E) :
  WvAt (w.setCell ⟨b,x,none⟩ (.pointer p)) b n (fun y=>if y=x then z else s y) P E/\Keep64 w (w.setCell ⟨b,x,none⟩ (.pointer p)):=by
 obtain ⟨cs,h1,h2,h3⟩:=h.row
 have hnw:NotW w ⟨b,x,none⟩:=by
  obtain ⟨q,g1,_⟩:=h3 x hx;exact ⟨_,by rw [cell_of_row w b x cs _ (0,0) h1,g1],fun _ h=>by cases h⟩
 have hk:=(Keep64.refl w).set hnw (.pointer p);refine ⟨⟨cs.setIfInBounds x (.pointer p),heap_setCell_same w b x cs _ _ h1,by simpa using h2,fun y hy=>?_⟩,hk⟩
 by_cases e:y=x
 ·subst e
  refine ⟨p,by rw [Array.getElem?_setIfInBounds_self_of_lt (by omega)],?_⟩;rw [if_pos rfl];exact hz.put h1 hk
 ·obtain ⟨q,g1,g2⟩:=h3 y hy
  refine ⟨q,by rw [Array.getElem?_setIfInBounds_ne (fun e'=>e e'.symm)];exact g1,?_⟩;rw [if_neg e];exact g2.put h1 hk
theorem P_info:(Tryz.prog.info? 105).map (fun i=>(i.zero,i.size,i.bytes))=some (some (.pointer none),1,8):=by kernel_rfl
theorem wpList_make_W (w:World) {ops:Array Oper} {rest:List Oper} {o:Oper} {a:Act} {Q:Exit->Act->World->Prop}
  (hg:o.guard=none) (l c:Operand) (hop:o.op=Op.makeSlice 66 l c) (kl kc:IntKind) (L C:Int) (n:Nat) (hl:a.eval l=.int kl L) (hc:a.eval c=.int kc C) (hL:L=(n:Int)) (hC:C=(n:Int)) (b2:n<=1048576)
  (hK:∀ w',(∀ P E,WvAt w' w.heap.size n (fun _=>nZ) P E)->Ext w w'->w.heap.size<w'.heap.size->wpList Tryz.prog ops Q rest (a.put o.dst (.slice (some ⟨w.heap.size,0,none⟩) n n)) w') :
  wpList Tryz.prog ops Q (o :: rest) a w:=by
 obtain ⟨i0,hi,hz0,hz1,hz2⟩:=info_parts P_info;refine wpList_make_full w hg l c 66 hop w.heap.size 105 i0 (.pointer none) 1 Tryz.underlying66 hi hz0 hz1 kl kc L C n hl hc hL hC (by rw [hz2];omega) (by unfold maxLen;omega) (Nat.le_refl _) ?_;intro w' hown hgrow
 have key:∃ cs,w'.heap[w.heap.size]?=some (.cells cs 105 (0,0))/\cs.toList=List.replicate n (.pointer none):=by
  obtain ⟨_,h | ⟨g,cap,cur,hv,_,hh,_,_,hsz,ht⟩⟩:=hown
  ·simp at h
  ·simp only [Value.slice.injEq,Option.some.injEq,Addr.mk.injEq,and_true,true_and] at hv
   obtain ⟨hg,rfl⟩:=hv;subst hg;refine ⟨cur,hh,?_⟩;have e1:cur.toList.take (n*1)=cur.toList:=List.take_of_length_le (by rw [Array.length_toList,hsz];exact Nat.le_refl _);rw [e1] at ht;rw [ht]
   simp [Value.cells,toList_madeCells_one]
 obtain ⟨cs,h1,hcs⟩:=key
 have hsz:cs.size=n:=by rw [<-Array.length_toList,hcs];simp
 refine hK w' (fun P E=>⟨cs,h1,hsz,fun x hx=>⟨none,?_,PtA.zero _ _ _⟩⟩) ((Below.refl _ _).grown hgrow (Nat.le_refl _) (fun k h=>by cases h)) (gS.1 h1).1;rw [<-Array.getElem?_toList,hcs,List.getElem?_replicate,if_pos hx]
open Go.RowKit Go.Shelf
attribute [local go_sem] Oper.semAt_some
theorem PtA.amp {w:World} {p:Option Addr} {x:Nm} {P E N:Nat} (h:PtA w p x P E) (hx:Amp N x):PtA w p x (2*N+1) N:=by
 rcases h with h | ⟨g,c,h1,h2,h3,h4⟩
 ·exact Or.inl h
 ·exact Or.inr ⟨g,c,h1,h2,⟨h3.anti,h3.low,hx.bd.abs,hx.bd.1,h3.val⟩,h4⟩
structure WvA (w:World) (b n:Nat) (s:Nat->Nm) (N:Nat):Prop where
 at':WvAt w b n s (2*N+1) N
 amp:∀ x,Amp N (s x)
theorem WvAt.amp {w:World} {b n:Nat} {s:Nat->Nm} {P E N:Nat} (h:WvAt w b n s P E) (hx:∀ x,Amp N (s x)):WvA w b n s N:=by
 obtain ⟨cs,h1,h2,h3⟩:=h.row;refine ⟨⟨cs,h1,h2,fun x hxn=>?_⟩,hx⟩;obtain ⟨p,g1,g2⟩:=h3 x hxn;exact ⟨p,g1,g2.amp (hx x)⟩
theorem WvAt.congr {w:World} {b n:Nat} {s s':Nat->Nm} {P E:Nat} (h:WvAt w b n s P E) (hs:∀ x,x<n->s x=s' x):WvAt w b n s' P E:=by
 obtain ⟨cs,h1,h2,h3⟩:=h.row;refine ⟨cs,h1,h2,fun x hxn=>?_⟩;rw [<-hs x hxn];exact h3 x hxn
theorem WvA.le {w:World} {b n:Nat} {s:Nat->Nm} {N M:Nat} (h:WvA w b n s N) (hm:N<=M):WvA w b n s M:=h.at'.amp (fun x=>(h.amp x).le hm)
theorem WvA.ext {w w':World} {b n:Nat} {s:Nat->Nm} {N:Nat} (h:WvA w b n s N) (k:Ext w w'):WvA w' b n s N:=⟨h.at'.ext k,h.amp⟩
theorem WvA.is {w:World} {b n:Nat} {s s':Nat->Nm} {N M:Nat} (h:WvA w b n s N) (hs:∀ x,x<n->s x=s' x) (ha:∀ x,Amp M (s' x)):WvA w b n s' M:=(h.at'.congr hs).amp ha
theorem WvAt.kept {W W':World} {row:Option Nat} {b n:Nat} {s:Nat->Nm} {P E:Nat} (h:WvAt W b n s P E) (hg:W.grownBy W' row) (hr:∀ r,row=some r->∃ o:Obj,W.heap[r]?=some o/\o.isCells=false):WvAt W' b n s P E:=by
 obtain ⟨cs,h1,h2,h3⟩:=h.row;have hk:Keep64 W W':=⟨hg.size,fun g o x hx=>cell_kept hx hg hr⟩;refine ⟨cs,(grownBy_keeps_cells hg hr h1 rfl).trans h1,h2,fun x hx=>?_⟩;obtain ⟨p,g1,g2⟩:=h3 x hx;refine ⟨p,g1,?_⟩
 rcases g2 with g2 | ⟨g,c,e1,e2,e3,e4⟩
 ·exact Or.inl g2
 ·exact Or.inr ⟨g,c,e1,(grownBy_keeps_cells hg hr e2 rfl).trans e2,e3.keep64 hk,e4⟩
theorem Chg.kept {U W W':World} {row:Option Nat} {b:Nat} (h:Chg b U W) (hg:W.grownBy W' row) (hr:∀ r,row=some r->U.heap.size<=r/\∃ o:Obj,W.heap[r]?=some o/\o.isCells=false):Chg b U W' :=
 have hB:Below U.heap.size W W':=(Below.refl _ W).grown hg h.size (fun k e=>(hr k e).1)
 ⟨hB.os.trans h.os,hB.tape.trans h.tape,hB.output.trans h.output,Nat.le_trans h.size hB.size,fun k hk hl=>(hB.block k hl).trans (h.block k hk hl),
  h.keep.trans ⟨hg.size,fun _ _ _ hx=>cell_kept hx hg (fun r e=>(hr r e).2)⟩⟩
theorem Chg.refl (b:Nat) (w:World):Chg b w w:=Chg.of_ext (Ext.refl w)
theorem Chg.cell {b:Nat} {w w':World} (h:Chg b w w') {g o:Nat} {v:Value} (hne:g≠b) (hc:w.cell? ⟨g,o,none⟩=some v):w'.cell? ⟨g,o,none⟩=some v :=
 (World.cell?_of_block (a:=⟨g,o,none⟩) (h.block g hne (World.block_lt_of_cell? w ⟨g,o,none⟩ hc))).trans hc
theorem Chg.kp {b n0:Nat} {w w':World} (h:Chg b w w') (hn:n0<=w.heap.size):KpB b n0 w w':=fun k h1 h2=>h.block k h1 (Nat.lt_of_lt_of_le h2 hn)
theorem Chg.others {b n:Nat} {s:Nat->Nm} {P E:Nat} {w w':World} (h:Chg b w w') (hw:WvAt w b n s P E):KeepsOthers w w':=by
 obtain ⟨cs,h1,_,_⟩:=hw.row;refine ⟨h.size,fun k o hk ho=>?_⟩
 have hne:k≠b:=by
  rintro rfl;rw [h1] at hk
  cases hk
  cases ho
 exact (h.block k hne (gS.1 hk).1).trans hk
theorem WvA.put {w:World} {b n:Nat} {s:Nat->Nm} {N:Nat} (h:WvA w b n s N) {x:Nat} (hx:x<n) {p:Option Addr} {z:Nm} {P E M:Nat} (hz:PtA w p z P E) (ha:Amp M z) (hM:N<=M) :
  WvA (w.setCell ⟨b,x,none⟩ (.pointer p)) b n (up1 s x z) M/\Chg b w (w.setCell ⟨b,x,none⟩ (.pointer p)):=by
 obtain ⟨h1,h2⟩:=(h.le hM).at'.set hx (hz.amp ha);refine ⟨⟨h1,up1_amp (h.le hM).amp ha⟩,Chg.of_only ((Only.refl b w).setCell x _) h2⟩
theorem Bru.far {b n:Nat} {s:Nat->Nm} {P E:Nat} {w w':World} (hB:Bru w) (h:Chg b w w') (hw:WvAt w b n s P E):Bru w':=fun j hj=>by
 have h0:=hB j hj;refine h.cell (fun e=>?_) h0;obtain ⟨cs,h1,h2,h3⟩:=hw.row;rw [e,cell_of_row w b j cs _ (0,0) h1] at h0
 have hjn:j<n:=by rw [<-h2];exact (gS.1 h0).1
 obtain ⟨p,g1,_⟩:=h3 j hjn;rw [g1] at h0
 cases h0
def rndQ (b n:Nat) (s:Nat->Nm) (N:Nat) (W:World):Exit->Act->World->Prop
 | .normal,_,W'=>WvA W' b n s N/\Chg b W W'
 | _,_,_=>False
theorem range_states {g:Operand} {ps:Array Tmp} {assign body:Code} {Q:Exit->Act->World->Prop} {a:Act} {U:World} {m:Nat} {o f n b Bo Bw Bf:Nat} {ao:Option Addr} {cp N0:Nat} {s:Nat->Nm}
  (stp:(Nat->Nm)->Nat->(Nat->Nm))
  (hg:a.eval g=.func (.func 160) #[] #[.pointer (some ⟨Bo,0,none⟩),.pointer (some ⟨Bw,0,none⟩),.pointer (some ⟨Bf,0,none⟩)]) (h1:1<=m)
  (ho:o &&& f=o) (hn:n<=4096) (hf:f<4096) (b1:Bo≠b/\Bo<U.heap.size) (b2:Bw≠b/\Bw<U.heap.size) (b3:Bf≠b/\Bf<U.heap.size)
  (c1:U.cell? ⟨Bo,0,none⟩=some (.int .i64 (o:Int))) (c2:U.cell? ⟨Bw,0,none⟩=some (.slice ao n cp)) (c3:U.cell? ⟨Bf,0,none⟩=some (.int .i64 (f:Int)))
  (hw:WvA U b n s N0) (hps:ps.size=1) (a₁:Nat->Act)
  (hassign:∀ (l:Nat) (x:St o f n) (W:World) (K:Act->World->Prop),K (a₁ x.1) W->assign.wpIn (Rnd l) (m-1-1) Tryz.prog (Exit.then K (fun _ _ _=>False)) { tmps:=(ps.zip #[Value.int .i64 (x.1:Int)]).foldl (fun t (p,v)=>t.setIfInBounds p v) a.tmps,defers:=[] } W)
  (hbody:∀ (l x:Nat) (s':Nat->Nm) (N:Nat) (W:World),x<n->x &&& f=o->WvA W b n s' N->Chg b U W->N<N0+4096->body.wpIn (Rnd l) (m-1-1) Tryz.prog (rndQ b n (stp s' x) (N+1) W) (a₁ x) W)
  (hdone:∀ (D:Nat) (W:World),U.heap.size<=D->WvA W b n ((stL o f n).foldl stp s) (N0+4096)->Chg b U W->W.heap[D]?=some (.deferred (some []))->Q .normal { a with defers:={ target:=.collected D,args:=#[] } :: a.defers } W) :
  (Code.rangeFunc g ps assign body).wpIn Fence.wide m Tryz.prog Q a U:=by
 refine wpIn_rangeFunc_ownF (F:=Fence.wide) rfl h1 hg trivial (enters_of Tryz.func160 (by kernel_rfl) rfl)
  (states_stops (m-1) o f n b U.heap.size Bo Bw Bf ao cp U ho hn hf b1 b2 b3 (Nat.le_refl _) c1 c2 c3) (fun h k=>KpB.trans h k)
  (fun W l o o' hl h _ _=>fun k _ hk2=>?_) (Below.refl _ _) (fun _=>by rw [hps];rfl)
  (fun pre W=>WvA W b n ((pre.map (·.1)).foldl stp s) (N0+pre.length)/\Chg b U W) (fun _ _ _=>False)
  (fun pre W W' row hs hg hr=>⟨(hs.1.at'.kept hg (fun r e=>(hr r e).2)).amp hs.1.amp,hs.2.kept hg hr⟩) (fun _ _ _ _ _ hs _ _=>hs) ⟨hw,Chg.refl b U⟩ (fun x=>a₁ x.1) hassign ?_ ?_ ?_
 ·exact World.putObj_heap_other (by omega)
 ·intro l pre x W hI hlen
  refine wpIn_mono (hbody l x.1 _ _ W x.2.1 x.2.2 hI.1 hI.2 (by omega)) ?_;intro e a' W' hq
  cases e with
  | normal =>
   obtain ⟨q1,q2⟩:=hq;refine ⟨q2.others hI.1.at',q2.kp hI.2.size,?_,hI.2.trans q2⟩;rw [List.map_append,List.foldl_append]
   have:N0+(pre++[x]).length=N0+pre.length+1:=by simp;omega
   rw [this];exact q1
  | _=>exact hq.elim
 ·intro D xs W hD hS hI hK
  refine hdone D W hD ?_ hI.2 hK;rw [<-hS];refine hI.1.le ?_;have:xs.length=(xs.map (·.1)).length:=(List.length_map _).symm;rw [hS] at this;have:=stL_len o f n;omega
 ·intro D c pre W _ _ h _
  exact h.elim
open Go.RowKit Go.Shelf
attribute [local go_sem] Oper.semAt_some
theorem fin_wave {U W:World} {b n D:Nat} {s:Nat->Nm} {N:Nat} (hW:WvA W b n s N) (hC:Chg b U W) (hD:U.heap.size<=D) (hK:W.heap[D]?=some (.deferred (some []))):WvA (W.putObj D (.deferred none)) b n s N/\Chg b U (W.putObj D (.deferred none)) :=
 ⟨(hW.at'.kept (grownBy_putObj' W D _) (fun r e=>by cases e;exact ⟨_,hK,rfl⟩)).amp hW.amp,hC.kept (grownBy_putObj' W D _) (fun r e=>by cases e;exact ⟨hD,_,hK,rfl⟩)⟩
theorem rnd_shut {b n i:Nat} {s:Nat->Nm} {N:Nat} {W:World}:¬ LetsOut (Exit.inBlock i (rndQ b n s N W)):=fun ⟨_,_,h⟩=>h
theorem stepK_storeP {ops:Array Oper} {o:Oper} {a:Act} {K:Act->World->Prop} {Q:Exit->Act->World->Prop} {E:Prop} {w:World} (hgd:o.guard=none) (hd:o.dst=none) (p x:Operand)
  (ho:o.op=.store 105 p x) (b off:Nat) (q:Option Addr) (u:Value) (hp:a.eval p=.pointer (some ⟨b,off,none⟩)) (hx:a.eval x=.pointer q)
  (hcell:w.cell? ⟨b,off,none⟩=some u) (hfz:w.frozen? ⟨b,off,none⟩=false) (h:K a (w.setCell ⟨b,off,none⟩ (.pointer q))) :
  if Region.wanted o (yielded ops a.tmps)=true then Oper.wp Tryz.prog o a w K Q else E:=by
 have hw:Region.wanted o (yielded ops a.tmps)=true:=by simp [Region.wanted,hgd]
 rw [if_pos hw];obtain ⟨od,oo,ot,opp,oa,og⟩:=o;simp only at ho hd;subst ho hd;have HH:=Lh h;clear h;unfold Oper.wp execOp;simp only [hp,hx]
 go_simp
 exact HH.out
theorem turn_any (b n cp ones:Nat) (k:Int) (s:Nat->Nm) (N:Nat) (w:World) (h:WvA w b n s N) (hn:n<=4096) (hm:ones<4096) (hN:N<=100000) :
  Calls Tryz.prog 118 #[.slice (some ⟨b,0,none⟩) n cp,.int .i64 (ones:Int),.int .i64 k] w fun e w'=>(∃ v,e=.returned v)/\WvA w' b n (tuS ones k n s) (N+4096)/\Chg b w w':=by
 obtain ⟨H,hH⟩:∃ H,w.heap.size=H:=⟨_,rfl⟩
 have hbH:b<H:=by rw [<-hH];exact h.at'.lt
 obtain ⟨W1,hW1⟩:∃ W1,((w.alloc (.cells #[.slice (some ⟨b,0,none⟩) n cp] 66)).alloc (.cells #[.int .i64 k] 3))=W1:=⟨_,rfl⟩
 have E1:Ext w W1:=by rw [<-hW1];exact (ext_alloc _ _).trans (ext_alloc _ _)
 have z1:W1.cell? ⟨H,0,none⟩=some (.slice (some ⟨b,0,none⟩) n cp):=by rw [<-hW1,<-hH];exact old1 (new1 _ _ _) _
 have z2:W1.cell? ⟨H+1,0,none⟩=some (.int .i64 k):=by
  have:=new1 (w.alloc (.cells #[.slice (some ⟨b,0,none⟩) n cp] 66)) (.int .i64 k) 3;rw [World.size_alloc] at this;rw [<-hW1,<-hH];exact this
 have sz1:H+1<W1.heap.size:=by rw [<-hW1,<-hH];simp
 have HW1:=Lh hW1;have HH:=Lh hH;clear hW1 hH;refine (callsIn_wide (n:=3)).1 ?_;refine callsIn_of_wp_marks Tryz.func118 rfl trivial ?_ rfl;simp only [Tryz.ntmps118,List.size_toArray,List.length_cons,List.length_nil,Nat.reduceAdd,Nat.reduceSub,Array.replicate_succ,Array.replicate_zero,List.push_toArray,List.append_toArray,List.nil_append,List.cons_append];refine wpIn_wide.2 ?_
 go_upto_region 1 with fail
 rw [HW1.out,HH.out]
 go_wp2_with fail
 refine (states_any (some ⟨b,0,none⟩) n cp ones 0 W1 hm (by decide)).mono ?_;rintro e U ⟨Bo,Bw,Bf,rfl,EU,c1,c2,c3,g1,g2,g3⟩;rw [Nat.or_zero] at c3;have hU:WvA U b n s N:=(h.ext E1).ext EU;have y1:=(EU.cell (p:=⟨H,0,none⟩) (show H<W1.heap.size by omega)).trans z1;have y2:=(EU.cell (p:=⟨H+1,0,none⟩) (show H+1<W1.heap.size by omega)).trans z2
 go_wp2_with fail
 refine wpIn_wide.1 (range_states (m:=3) (fun s x=>up1 s x (nTr k (s x))) rfl (by decide) (Nat.and_self ones) hn hm ⟨by omega,g1.2⟩ ⟨by omega,g2.2⟩ ⟨by omega,g3.2⟩ c1 c2 c3 hU rfl
  (fun x=>{ tmps:=#[.slice (some ⟨b,0,none⟩) n cp,.int .i64 (ones:Int),.int .i64 k,.pointer (some ⟨H,0,none⟩),undef,.pointer (some ⟨H+1,0,none⟩),.int .i64 (x:Int),.slice (some ⟨b,0,none⟩) n cp,.int .i64 (ones:Int),
   .func (.func 160) #[] #[.pointer (some ⟨Bo,0,none⟩),.pointer (some ⟨Bw,0,none⟩),.pointer (some ⟨Bf,0,none⟩)],.int .i64 (x:Int),undef,undef,undef,undef,undef,undef,undef,undef,undef,undef,undef,undef,undef,undef,undef,undef,undef],defers:=[] }) ?assign ?body ?done)
 case assign =>
  intro l x W K hK
  gi_wp2
  exact hK
 case done =>
  intro D W hD hW hC hK
  go_wp2_with fail
  refine ⟨by simp,.inl ⟨_,_,rfl,run_takeDeferred hK,?_⟩⟩;obtain ⟨h1,h2⟩:=fin_wave hW hC hD hK;exact ⟨_,results_none rfl _ _ _,⟨_,rfl⟩,h1,(Chg.of_ext (E1.trans EU)).trans h2⟩
 case body =>
  intro l x s' N' W hx hxf hW hC hN'
  have hN4:N'<=104096:=by omega
  have x1:=hC.cell (show H≠b by omega) y1;have x2:=hC.cell (show H+1≠b by omega) y2;obtain ⟨p,y0,fz,hp⟩:=hW.at'.get hx
  have q0:(0:Int)<=(x:Int):=by omega
  have q1:(x:Int)<(n:Int):=by omega
  have HW:=Lh hW;have Hx:=Lh hx;have HN:=Lh hN4;clear hW hx hxf hC hN' hN4 y1 y2 c1 c2 c3 g1 g2 g3 hU EU z1 z2 E1 h hn hm hN hbH sz1 HW1 HH;refine wpIn_block (wpIn_seq (region_round (by rfl) (then_shut rnd_shut) ?_))
  rcases hp with ⟨rfl,hz⟩ | ⟨g,c,rfl,hr,hNm,hz⟩
  ·go_wp2_with fail
   refine wpIn_cond_false rfl (wpIn_skip ?_);refine ⟨?_,Chg.refl _ _⟩
   have:up1 s' x (nTr k (s' x))=s':=by
    funext y
    unfold up1
    by_cases e:y=x
    ·rw [if_pos e,e,hz,tr_z]
    ·rw [if_neg e]
   rw [this];exact HW.out.le (Nat.le_succ _)
  ·go_wp2_with fail
   refine wpIn_cond_true rfl ?_;have hinf:=hNm.info;have HNm:=Lh hNm;clear hNm hz;have hd0:Ext W W.drew:=Below.drew (Ext.refl _);have lH:=World.block_lt_of_cell? W ⟨H,0,none⟩ x1;have lK:=World.block_lt_of_cell? W ⟨H+1,0,none⟩ x2;have lb:=World.block_lt_of_cell? W ⟨b,x,none⟩ y0;have lg:=(gS.1 hr).1;refine region_round_any (by kernel_rfl) (by rfl) rnd_shut (anyK_plain (k:=12) (S:=fun w'=>(w'.cell? ⟨H,0,none⟩=some (.slice (some ⟨b,0,none⟩) n cp)/\w'.cell? ⟨H+1,0,none⟩=some (.int .i64 k)/\w'.cell? ⟨b,x,none⟩=some (.pointer (some ⟨g,0,none⟩)))/\w'.heap[g]?=some (.cells c 78 (0,0))) _ _ _ _ ?_)
   show anyK _ _ _ _ _ _ 13 #[false,false,false,false,false,false,false,false,false,false,false,false,false] _ _
   have hHeld:(W.drew.cell? ⟨H,0,none⟩=some (.slice (some ⟨b,0,none⟩) n cp)/\W.drew.cell? ⟨H+1,0,none⟩=some (.int .i64 k)/\W.drew.cell? ⟨b,x,none⟩=some (.pointer (some ⟨g,0,none⟩)))/\W.drew.heap[g]?=some (.cells c 78 (0,0)):=⟨⟨cellKeep hd0 lH x1,cellKeep hd0 lK x2,cellKeep hd0 lb y0⟩,(hd0.block g lg).trans hr⟩;refine kT 0 13 (v:=?_) rfl (Or.inl ⟨by rfl,?_⟩) hHeld ?_;rotate_left 1
   ·intro w hSw
    go_simp
    try with_reducible rfl
   show anyK _ _ _ _ _ _ _ _ (Act.put _ (some 16) _) _
   simp only [Act.put,sx0,sx1,sx2];refine kT 1 13 (v:=?_) rfl (Or.inl ⟨by rfl,?_⟩) hHeld ?_;rotate_left 1
   ·intro w hSw
    go_simp
    try with_reducible rfl
   show anyK _ _ _ _ _ _ _ _ (Act.put _ (some 17) _) _
   simp only [Act.put,sx0,sx1,sx2];refine kT 2 13 (v:=?_) rfl (Or.inl ⟨by rfl,?_⟩) hHeld ?_;rotate_left 1
   ·intro w hSw
    go_simp
    try with_reducible rfl
   show anyK _ _ _ _ _ _ _ _ (Act.put _ (some 18) _) _
   simp only [Act.put,sx0,sx1,sx2];refine kT 3 13 (v:=?_) rfl (Or.inl ⟨by rfl,?_⟩) hHeld ?_;rotate_left 1
   ·intro w hSw
    go_simp
    try with_reducible rfl
   show anyK _ _ _ _ _ _ _ _ (Act.put _ (some 19) _) _
   simp only [Act.put,sx0,sx1,sx2];refine kT 4 13 (v:=?_) rfl (Or.inl ⟨by rfl,?_⟩) hHeld ?_;rotate_left 1
   ·intro w hSw
    go_simp
    try with_reducible rfl
   show anyK _ _ _ _ _ _ _ _ (Act.put _ (some 20) _) _
   simp only [Act.put,sx0,sx1,sx2];refine kT 5 13 (v:=?_) rfl (Or.inl ⟨by rfl,?_⟩) hHeld ?_;rotate_left 1
   ·intro w hSw
    go_simp
    try with_reducible rfl
   show anyK _ _ _ _ _ _ _ _ (Act.put _ (some 21) _) _
   simp only [Act.put,sx0,sx1,sx2];refine kT 6 13 (v:=?_) rfl (Or.inl ⟨by rfl,?_⟩) hHeld ?_;rotate_left 1
   ·intro w hSw
    go_simp
    try with_reducible rfl
   show anyK _ _ _ _ _ _ _ _ (Act.put _ (some 22) _) _
   simp only [Act.put,sx0,sx1,sx2];refine kT 7 13 (v:=.agg c) rfl (Or.inl ⟨by rfl,fun _ h=>exec_load_row 78 _ rfl g rfl 78 _ (0,0) _ h.2 Tryz.underlying78 rfl hinf⟩) hHeld ?_
   show anyK _ _ _ _ _ _ _ _ (Act.put _ (some 23) _) _
   simp only [Act.put,sx0,sx1,sx2];refine kT 8 13 (v:=?_) rfl (Or.inl ⟨by rfl,?_⟩) hHeld ?_;rotate_left 1
   ·intro w hSw
    go_simp
    try with_reducible rfl
   show anyK _ _ _ _ _ _ _ _ (Act.put _ (some 24) _) _
   simp only [Act.put,sx0,sx1,sx2];clear hHeld;refine anyK_one (i:=9) (by kernel_rfl) rfl (fun Kk hKk=>?_)
   go_simp
   (go_at_call 140;refine (Turn_nm c _ _ _ k W.drew (HNm.out.ext hd0) 10000 (by decide) (by have:=HN.out;omega)).mono ?_;rintro e w2 ⟨cr,rfl,hcr,hx2⟩)
   have he2:=hd0.trans hx2
   go_wp2_with fail
   refine hKk.out _ _ (fun _=>⟨⟨cellKeep he2 lH x1,cellKeep he2 lK x2,cellKeep he2 lb y0⟩,(he2.block g lg).trans hr⟩) ?_;clear hKk Kk;simp only [sx0,sx1,sx2]
   skip
   refine anyK_one (i:=10) (by kernel_rfl) rfl (fun Kk hKk=>?_)
   go_simp
   (go_at_call 115;refine (kept_any cr _ _ _ w2 hcr).mono ?_;rintro e w3 ⟨p3,rfl,hp3,hx3⟩)
   have he3:=he2.trans hx3
   go_wp2_with fail
   refine hKk.out _ _ (fun _=>⟨⟨cellKeep he3 lH x1,cellKeep he3 lK x2,cellKeep he3 lb y0⟩,(he3.block g lg).trans hr⟩) ?_;clear hKk Kk;simp only [sx0,sx1,sx2];have hHeld:(w3.cell? ⟨H,0,none⟩=some (.slice (some ⟨b,0,none⟩) n cp)/\w3.cell? ⟨H+1,0,none⟩=some (.int .i64 k)/\w3.cell? ⟨b,x,none⟩=some (.pointer (some ⟨g,0,none⟩)))/\w3.heap[g]?=some (.cells c 78 (0,0)):=⟨⟨cellKeep he3 lH x1,cellKeep he3 lK x2,cellKeep he3 lb y0⟩,(he3.block g lg).trans hr⟩;refine kT 11 13 (v:=?_) rfl (Or.inl ⟨by rfl,?_⟩) hHeld ?_;rotate_left 1
   ·intro w hSw
    go_simp
    try with_reducible rfl
   show anyK _ _ _ _ _ _ _ _ (Act.put _ (some 27) _) _
   simp only [Act.put,sx0,sx1,sx2];clear hHeld;obtain ⟨hA,hB⟩:=(HW.out.ext he3).put Hx.out hp3 ((HW.out.amp x).tr k) (Nat.le_refl _);have y3:=cellKeep he3 lb y0
   have f3:w3.frozen? ⟨b,x,none⟩=false:=by obtain ⟨_,_,hf,_⟩:=(HW.out.ext he3).at'.get Hx.out;exact hf
   have Hend:=Lh (show WvA (w3.setCell ⟨b,x,none⟩ (.pointer p3)) b n (up1 s' x (nTr k (s' x))) (N'+1)/\Chg b W (w3.setCell ⟨b,x,none⟩ (.pointer p3)) from ⟨hA.le (Nat.le_succ _),(Chg.of_ext he3).trans hB⟩);clear hA hB hcr hx2 hp3 hx3 he2;refine anyK_one (i:=12) (by kernel_rfl) rfl (fun Kk hKk=>?_);refine stepK_storeP rfl rfl _ _ rfl b x p3 _ rfl rfl y3 f3 ?_;refine hKk.out _ _ (fun h=>Bool.noConfusion (show true=false from h)) ?_;clear hKk Kk;simp only [sx0,sx1,sx2];refine anyK_done (by kernel_rfl) ?_ _;exact Hend.out
section
variable {P:Program} {ops:Array Oper} {Q:Exit->Act->World->Prop} {md:Region.Mode} {S T:World->Prop} {k:Nat}
def anyT (P:Program) (md:Region.Mode) (ops:Array Oper) (Q:Exit->Act->World->Prop) (k:Nat) (S T:World->Prop):Nat->Array Bool->Act->World->Prop
 | 0,l,a,w=>Region.ready md ops l=[]/\Q .normal a w
 | n+1,l,a,w=>(Region.ready md ops l=[]->Q .normal a w) /\
   ∀ i,i ∈ Region.ready md ops l->wpOp P ops Q i (fun a' w'=>T w'/\((l.setIfInBounds i true).getD k true=false->S w')/\anyT P md ops Q k S T n (l.setIfInBounds i true) a' w') a w
theorem anyT_plain (n:Nat):∀ (l:Array Bool) (a:Act) (w:World),anyT P md ops Q k S T n l a w->wpAny P md ops Q n l a w:=by
 induction n with
 | zero=>exact fun _ _ _ h=>h
 | succ n ih=>exact fun l a w h=>⟨h.1,fun i hi=>wpOp_mono (fun a' w' h'=>ih _ a' w' h'.2.2) (h.2 i hi)⟩
theorem anyT_first {i:Nat} {o:Oper} {v:Value} (hi:ops[i]?=some o) (hsel:∀ (j:Nat) (o:Oper) cs b,ops[j]?=some o->o.op≠.select cs b)
  (hQ:∀ c a w,Q (.panic c) (a.put o.dst v) w->Q (.panic c) a w) {N:Nat} (hw:waits md ops N k i=true) (n:Nat) :
  ∀ (l:Array Bool) (a:Act) (w:World),closedL md ops l ->
   (∀ j oj,ops[j]?=some oj->j≠i->l.getD j true=false->(∀ e ∈ oj.after,Region.binds md e=true->e.on≠i)->o.apart ops oj=true) ->
   i ∈ Region.ready md ops l->YieldsIf P ops S o v a->S w->T w->l.getD k true=false ->
   anyT P md ops Q k S T n (l.setIfInBounds i true) (a.put o.dst v) w->anyT P md ops Q k S T (n+1) l a w:=by
 induction n with
 | zero =>
  intro l a w _ _ hr hy hS hT _ H;refine ⟨fun h=>(by rw [h] at hr;cases hr),fun j hj=>?_⟩
  by_cases hji:j=i
  ·subst hji
   exact hy.wpOp hi hS ⟨hT,fun _=>hS,H⟩
  ·have h:=ready_mono hj hji
   rw [H.1] at h
   cases h
 | succ n ih =>
  intro l a w hc hfree hr hy hS hT hk H;refine ⟨fun h=>(by rw [h] at hr;cases hr),fun j hj=>?_⟩
  by_cases hji:j=i
  ·subst hji
   exact hy.wpOp hi hS ⟨hT,fun _=>hS,H⟩
  have hjk:j≠k:=fun e=>waits_unready hc hw hr (e ▸ hj)
  obtain ⟨hjun,oj,hoj,hall⟩:=mem_ready.1 hj
  have hnot:∀ e ∈ oj.after,Region.binds md e=true->e.on≠i:=by
   intro e he hb heq;have h1:=hall e he hb;have h0:=(mem_ready.1 hr).1;rw [heq] at h1
   rcases Nat.lt_or_ge i l.size with h' | h'
   ·simp [h'] at h0 h1
    rw [h0] at h1
    cases h1
   ·simp [Array.getElem?_eq_none h'] at h1
  have h2:=wpOp_putIf hoj (hfree j oj hoj hji hjun hnot) (fun cs b=>hsel i o cs b hi) (fun cs b=>hsel j oj cs b hoj) hQ hy (H.2 j (ready_mono hj hji))
  have hk1:(l.setIfInBounds j true).getD k true=false:=by rw [Go.getD_set_ne true hjk];exact hk
  have hik:i≠k:=fun e=>waits_unready hc hw hr (e ▸ hr)
  have hk2:((l.setIfInBounds i true).setIfInBounds j true).getD k true=false:=by rw [Go.getD_set_ne true hjk,Go.getD_set_ne true hik];exact hk
  have hfree':∀ m om,ops[m]?=some om->m≠i->(l.setIfInBounds j true).getD m true=false->(∀ e ∈ om.after,Region.binds md e=true->e.on≠i)->o.apart ops om=true:=by
   intro m om hm hmi hun hno;refine hfree m om hm hmi ?_ hno
   by_cases e:j=m
   ·subst e;exact hjun
   ·rw [Go.getD_set_ne true e] at hun;exact hun
  refine wpOp_mono (fun a' w' h3=>?_) h2;obtain ⟨y3,t3,s3,r3⟩:=h3;refine ⟨t3,fun _=>s3 hk2,ih _ a' w' (closedL_set hc hj) hfree' (ready_mono hr (Ne.symm hji)) y3 (s3 hk2) t3 hk1 ?_⟩;rw [Array.setIfInBounds_comm _ _ hji];exact r3
theorem anyT_firstT {i:Nat} {o:Oper} {v:Value} (hi:ops[i]?=some o) (hik:i≠k) (hsel:∀ (j:Nat) (o:Oper) cs b,ops[j]?=some o->o.op≠.select cs b)
  (hQ:∀ c a w,Q (.panic c) (a.put o.dst v) w->Q (.panic c) a w) (n:Nat) :
  ∀ (l:Array Bool) (a:Act) (w:World),
   (∀ j oj,ops[j]?=some oj->j≠i->l.getD j true=false->(∀ e ∈ oj.after,Region.binds md e=true->e.on≠i)->o.apart ops oj=true) ->
   i ∈ Region.ready md ops l->YieldsIf P ops T o v a->T w->(l.getD k true=false->S w) ->
   anyT P md ops Q k S T n (l.setIfInBounds i true) (a.put o.dst v) w->anyT P md ops Q k S T (n+1) l a w:=by
 induction n with
 | zero =>
  intro l a w _ hr hy hT hS H;refine ⟨fun h=>(by rw [h] at hr;cases hr),fun j hj=>?_⟩
  by_cases hji:j=i
  ·subst hji
   exact hy.wpOp hi hT ⟨hT,fun e=>hS (by rw [Go.getD_set_ne true hik] at e;exact e),H⟩
  ·have h:=ready_mono hj hji
   rw [H.1] at h
   cases h
 | succ n ih =>
  intro l a w hfree hr hy hT hS H;refine ⟨fun h=>(by rw [h] at hr;cases hr),fun j hj=>?_⟩
  by_cases hji:j=i
  ·subst hji
   exact hy.wpOp hi hT ⟨hT,fun e=>hS (by rw [Go.getD_set_ne true hik] at e;exact e),H⟩
  obtain ⟨hjun,oj,hoj,hall⟩:=mem_ready.1 hj
  have hnot:∀ e ∈ oj.after,Region.binds md e=true->e.on≠i:=by
   intro e he hb heq;have h1:=hall e he hb;have h0:=(mem_ready.1 hr).1;rw [heq] at h1
   rcases Nat.lt_or_ge i l.size with h' | h'
   ·simp [h'] at h0 h1
    rw [h0] at h1
    cases h1
   ·simp [Array.getElem?_eq_none h'] at h1
  have h2:=wpOp_putIf hoj (hfree j oj hoj hji hjun hnot) (fun cs b=>hsel i o cs b hi) (fun cs b=>hsel j oj cs b hoj) hQ hy (H.2 j (ready_mono hj hji))
  have hfree':∀ m om,ops[m]?=some om->m≠i->(l.setIfInBounds j true).getD m true=false->(∀ e ∈ om.after,Region.binds md e=true->e.on≠i)->o.apart ops om=true:=by
   intro m om hm hmi hun hno;refine hfree m om hm hmi ?_ hno
   by_cases e:j=m
   ·subst e;exact hjun
   ·rw [Go.getD_set_ne true e] at hun;exact hun
  refine wpOp_mono (fun a' w' h3=>?_) h2;obtain ⟨y3,t3,s3,r3⟩:=h3
  have hS3:(l.setIfInBounds j true).getD k true=false->S w':=fun e=>s3 (by
   rw [Array.setIfInBounds_comm _ _ (Ne.symm hji),Go.getD_set_ne true hik]
   exact e)
  refine ⟨t3,hS3,ih _ a' w' hfree' (ready_mono hr (Ne.symm hji)) y3 t3 hS3 ?_⟩;rw [Array.setIfInBounds_comm _ _ hji];exact r3
theorem anyT_take {i:Nat} {o:Oper} {v:Value} {n:Nat} {l:Array Bool} {a:Act} {w:World} (hi:ops[i]?=some o)
  (hs:Region.noSelect ops=true) (hf:Region.free md ops l i=true) (hr:(Region.ready md ops l).contains i=true) {N:Nat} (hw:waits md ops N k i=true) (hc:closedB md ops l=true) (hk:l.getD k true=false)
  (hQ:∀ c a w,Q (.panic c) (a.put o.dst v) w->Q (.panic c) a w) (hy:YieldsIf P ops S o v a) (hS:S w) (hT:T w)
  (h:anyT P md ops Q k S T n (l.setIfInBounds i true) (a.put o.dst v) w):anyT P md ops Q k S T (n+1) l a w :=
 anyT_first hi (Region.noSelect_spec hs) hQ hw n l a w (closedB_spec hc) (Region.free_spec hi hf) (by simpa using hr) hy hS hT hk h
theorem anyT_takeT {i:Nat} {o:Oper} {v:Value} {n:Nat} {l:Array Bool} {a:Act} {w:World} (hi:ops[i]?=some o) (hik:i≠k)
  (hs:Region.noSelect ops=true) (hf:Region.free md ops l i=true) (hr:(Region.ready md ops l).contains i=true)
  (hQ:∀ c a w,Q (.panic c) (a.put o.dst v) w->Q (.panic c) a w) (hy:YieldsIf P ops T o v a) (hT:T w) (hS:l.getD k true=false->S w)
  (h:anyT P md ops Q k S T n (l.setIfInBounds i true) (a.put o.dst v) w):anyT P md ops Q k S T (n+1) l a w :=
 anyT_firstT hi hik (Region.noSelect_spec hs) hQ n l a w (Region.free_spec hi hf) (by simpa using hr) hy hT hS h
theorem tT (i:Nat) {o:Oper} {v:Value} {n:Nat} {l:Array Bool} {a:Act} {w:World} (hi:ops[i]?=some o) (hy:YieldsIf P ops T o v a) (hT:T w) (hS:l.getD k true=false->S w)
  (h:anyT P md ops Q k S T n (l.setIfInBounds i true) (a.put o.dst v) w) (hik:i≠k:=by decide) (hs:Region.noSelect ops=true:=by kernel_rfl) (hf:Region.free md ops l i=true:=by kernel_rfl) (hr:(Region.ready md ops l).contains i=true:=by kernel_rfl)
  (hQ:∀ c a w,Q (.panic c) (a.put o.dst v) w->Q (.panic c) a w:=by exact fun _ _ _ h=>h):anyT P md ops Q k S T (n+1) l a w:=anyT_takeT hi hik hs hf hr hQ hy hT hS h
theorem anyT_one {i:Nat} {o:Oper} {n:Nat} {l:Array Bool} {a:Act} {w:World} (hr:Region.ready md ops l=[i]) (ho:ops[i]?=some o)
  (h:∀ K':Act->World->Prop,Shut (∀ a w,T w->((l.setIfInBounds i true).getD k true=false->S w)->anyT P md ops Q k S T n (l.setIfInBounds i true) a w->K' a w)->if Region.wanted o (yielded ops a.tmps)=true then Oper.wp P o a w K' Q else K' (a.put o.dst undef) w) :
  anyT P md ops Q k S T (n+1) l a w:=by
 refine ⟨fun h0=>(by rw [hr] at h0;cases h0),fun j hj=>?_⟩;rw [hr] at hj
 rcases List.mem_singleton.1 hj with rfl
 exact wpOp_step ho (fun K' hK=>h K' (fun a w hT hS hW=>hK a w ⟨hT,hS,hW⟩))
theorem anyT_done {l:Array Bool} {a:Act} {w:World} (hr:Region.ready md ops l=[]) (h:Q .normal a w) (n:Nat):anyT P md ops Q k S T n l a w:=by
 cases n with
 | zero=>exact ⟨hr,h⟩
 | succ n=>exact ⟨fun _=>h,fun i hi=>by rw [hr] at hi;cases hi⟩
end
open Go.RowKit Go.Shelf
attribute [local go_sem] Oper.semAt_some
theorem exchange_any (b n cp c q:Nat) (s:Nat->Nm) (N:Nat) (w:World) (h:WvA w b n s N) (hn:n<=4096) (hc:c<4096) (hq:q<4096) (hin:∀ x,x<n->x ||| q<n) (hne:∀ x,x &&& (c ||| q)=c->x≠x ||| q) :
  Calls Tryz.prog 119 #[.slice (some ⟨b,0,none⟩) n cp,.int .i64 (c:Int),.int .i64 (q:Int)] w fun e w'=>(∃ v,e=.returned v)/\WvA w' b n (exS c q n s) (N+4096)/\Chg b w w':=by
 obtain ⟨H,hH⟩:∃ H,w.heap.size=H:=⟨_,rfl⟩
 have hbH:b<H:=by rw [<-hH];exact h.at'.lt
 obtain ⟨W1,hW1⟩:∃ W1,((w.alloc (.cells #[.slice (some ⟨b,0,none⟩) n cp] 66)).alloc (.cells #[.int .i64 (q:Int)] 3))=W1:=⟨_,rfl⟩
 have E1:Ext w W1:=by rw [<-hW1];exact (ext_alloc _ _).trans (ext_alloc _ _)
 have z1:W1.cell? ⟨H,0,none⟩=some (.slice (some ⟨b,0,none⟩) n cp):=by rw [<-hW1,<-hH];exact old1 (new1 _ _ _) _
 have z2:W1.cell? ⟨H+1,0,none⟩=some (.int .i64 (q:Int)):=by
  have:=new1 (w.alloc (.cells #[.slice (some ⟨b,0,none⟩) n cp] 66)) (.int .i64 (q:Int)) 3;rw [World.size_alloc] at this;rw [<-hW1,<-hH];exact this
 have sz1:H+1<W1.heap.size:=by rw [<-hW1,<-hH];simp
 have HW1:=Lh hW1;have HH:=Lh hH;have hf4:c ||| q<4096:=Nat.or_lt_two_pow (n:=12) hc hq;clear hW1 hH;refine (callsIn_wide (n:=3)).1 ?_;refine callsIn_of_wp_marks Tryz.func119 rfl trivial ?_ rfl;simp only [Tryz.ntmps119,List.size_toArray,List.length_cons,List.length_nil,Nat.reduceAdd,Nat.reduceSub,Array.replicate_succ,Array.replicate_zero,List.push_toArray,List.append_toArray,List.nil_append,List.cons_append];refine wpIn_wide.2 ?_
 go_upto_region 1 with fail
 rw [HW1.out,HH.out]
 go_wp2_with fail
 refine (states_any (some ⟨b,0,none⟩) n cp c q W1 hc hq).mono ?_;rintro e U ⟨Bo,Bw,Bf,rfl,EU,c1,c2,c3,g1,g2,g3⟩;have hU:WvA U b n s N:=(h.ext E1).ext EU;have y1:=(EU.cell (p:=⟨H,0,none⟩) (show H<W1.heap.size by omega)).trans z1;have y2:=(EU.cell (p:=⟨H+1,0,none⟩) (show H+1<W1.heap.size by omega)).trans z2
 go_wp2_with fail
 refine wpIn_wide.1 (range_states (m:=3) (fun s x=>up2 s x (s (x ||| q)) (x ||| q) (s x)) rfl (by decide) (and_or_left c q) hn hf4 ⟨by omega,g1.2⟩ ⟨by omega,g2.2⟩ ⟨by omega,g3.2⟩ c1 c2 c3 hU rfl
  (fun x=>{ tmps:=#[.slice (some ⟨b,0,none⟩) n cp,.int .i64 (c:Int),.int .i64 (q:Int),.pointer (some ⟨H,0,none⟩),undef,.pointer (some ⟨H+1,0,none⟩),.int .i64 (x:Int),.slice (some ⟨b,0,none⟩) n cp,.int .i64 (c:Int),.int .i64 (q:Int),
   .func (.func 160) #[] #[.pointer (some ⟨Bo,0,none⟩),.pointer (some ⟨Bw,0,none⟩),.pointer (some ⟨Bf,0,none⟩)],.int .i64 (x:Int),undef,undef,undef,undef,undef,undef,undef,undef,undef,undef,undef,undef,undef,undef,undef,undef,undef,undef],defers:=[] }) ?assign ?body ?done)
 case assign =>
  intro l x W K hK
  gi_wp2
  exact hK
 case done =>
  intro D W hD hW hC hK
  go_wp2_with fail
  refine ⟨by simp,.inl ⟨_,_,rfl,run_takeDeferred hK,?_⟩⟩;obtain ⟨h1,h2⟩:=fin_wave hW hC hD hK;exact ⟨_,results_none rfl _ _ _,⟨_,rfl⟩,h1,(Chg.of_ext (E1.trans EU)).trans h2⟩
 case body =>
  intro l x s' N' W hx hxf hW hC hN';have x1:=hC.cell (show H≠b by omega) y1;have x2:=hC.cell (show H+1≠b by omega) y2;obtain ⟨p,y0,fz,hp⟩:=hW.at'.get hx;obtain ⟨y,hy⟩:∃ y,x ||| q=y:=⟨_,rfl⟩
  have hyn:y<n:=by rw [<-hy];exact hin x hx
  have hxy:x≠y:=by rw [<-hy];exact hne x hxf
  have ho8:bits .or .i64 (x:Int) (q:Int)=(y:Int):=by rw [or_i64 x q (by omega) (by omega),hy]
  obtain ⟨p',y0',fz',hp'⟩:=hW.at'.get hyn;rw [hy]
  have q0:(0:Int)<=(x:Int):=by omega
  have q1:(x:Int)<(n:Int):=by omega
  have r0:(0:Int)<=(y:Int):=by omega
  have r1:(y:Int)<(n:Int):=by omega
  have bne:H≠b/\H+1≠b:=by omega
  have HW:=Lh hW;have Hx:=Lh hx;have Hyn:=Lh hyn;have Hxy:=Lh hxy;have Hbne:=Lh bne;clear hW hx hxf hC hN' y1 y2 c1 c2 c3 g1 g2 g3 hU EU z1 z2 E1 h hn hc hq hbH sz1 HW1 HH hin hne hf4 hy hyn hxy bne;refine wpIn_block ?_;have hd0:Ext W W.drew:=Below.drew (Ext.refl _);have lH:=World.block_lt_of_cell? W ⟨H,0,none⟩ x1;have lK:=World.block_lt_of_cell? W ⟨H+1,0,none⟩ x2;have lb:=World.block_lt_of_cell? W ⟨b,x,none⟩ y0;have HW':=Lh (HW.out.ext hd0);have Hp:=Lh (hp.ext hd0);have Hp':=Lh (hp'.ext hd0);clear hp hp';have x1:=cellKeep hd0 lH x1;have x2:=cellKeep hd0 lK x2;have y0:=cellKeep hd0 lb y0;have y0':=cellKeep hd0 lb y0';have HdC:=Lh (Chg.of_ext (g:=b) hd0);refine region_round_any (by kernel_rfl) (by rfl) rnd_shut (anyT_plain (k:=17) (S:=fun w'=>w'.cell? ⟨b,x,none⟩=some (.pointer p)/\w'.cell? ⟨b,y,none⟩=some (.pointer p')) (T:=fun w'=>w'.cell? ⟨H,0,none⟩=some (.slice (some ⟨b,0,none⟩) n cp)/\w'.cell? ⟨H+1,0,none⟩=some (.int .i64 (q:Int))) _ _ _ _ ?_)
  show anyT _ _ _ _ _ _ _ 20 #[false,false,false,false,false,false,false,false,false,false,false,false,false,false,false,false,false,false,false,false] _ _
  generalize W.drew=V at *;have hT:V.cell? ⟨H,0,none⟩=some (.slice (some ⟨b,0,none⟩) n cp)/\V.cell? ⟨H+1,0,none⟩=some (.int .i64 (q:Int)):=⟨x1,x2⟩;have hHeld:V.cell? ⟨b,x,none⟩=some (.pointer p)/\V.cell? ⟨b,y,none⟩=some (.pointer p'):=⟨y0,y0'⟩;refine tT 0 (v:=?_) rfl (Or.inl ⟨by rfl,?_⟩) hT (fun _=>hHeld) ?_;rotate_left 1
  ·intro w hSw
   go_simp
   try with_reducible rfl
  show anyT _ _ _ _ _ _ _ _ _ (Act.put _ (some 12) _) _
  simp only [Act.put,sx0,sx1,sx2];refine tT 1 (v:=?_) rfl (Or.inl ⟨by rfl,?_⟩) hT (fun _=>hHeld) ?_;rotate_left 1
  ·intro w hSw
   go_simp
   try with_reducible rfl
  show anyT _ _ _ _ _ _ _ _ _ (Act.put _ (some 13) _) _
  simp only [Act.put,sx0,sx1,sx2];refine tT 2 (v:=?_) rfl (Or.inl ⟨by rfl,?_⟩) hT (fun _=>hHeld) ?_;rotate_left 1
  ·intro w hSw
   go_simp
   try with_reducible rfl
  show anyT _ _ _ _ _ _ _ _ _ (Act.put _ (some 14) _) _
  simp only [Act.put,sx0,sx1,sx2];refine tT 3 (v:=?_) rfl (Or.inl ⟨by rfl,?_⟩) hT (fun _=>hHeld) ?_;rotate_left 1
  ·intro w hSw
   go_simp
   try with_reducible rfl
  show anyT _ _ _ _ _ _ _ _ _ (Act.put _ (some 15) _) _
  simp only [Act.put,sx0,sx1,sx2];refine tT 4 (v:=?_) rfl (Or.inl ⟨by rfl,?_⟩) hT (fun _=>hHeld) ?_;rotate_left 1
  ·intro w hSw
   go_simp
   try with_reducible rfl
  show anyT _ _ _ _ _ _ _ _ _ (Act.put _ (some 16) _) _
  simp only [Act.put,sx0,sx1,sx2];refine tT 5 (v:=?_) rfl (Or.inl ⟨by rfl,?_⟩) hT (fun _=>hHeld) ?_;rotate_left 1
  ·intro w hSw
   go_simp
   try with_reducible rfl
  show anyT _ _ _ _ _ _ _ _ _ (Act.put _ (some 17) _) _
  simp only [Act.put,sx0,sx1,sx2];refine tT 6 (v:=?_) rfl (Or.inl ⟨by rfl,?_⟩) hT (fun _=>hHeld) ?_;rotate_left 1
  ·intro w hSw
   go_simp
   try with_reducible rfl
  show anyT _ _ _ _ _ _ _ _ _ (Act.put _ (some 18) _) _
  simp only [Act.put,sx0,sx1,sx2];refine tT 7 (v:=?_) rfl (Or.inl ⟨by rfl,?_⟩) hT (fun _=>hHeld) ?_;rotate_left 1
  ·intro w hSw
   go_simp
   try with_reducible rfl
  show anyT _ _ _ _ _ _ _ _ _ (Act.put _ (some 19) _) _
  simp only [Act.put,sx0,sx1,sx2];refine tT 8 (v:=?_) rfl (Or.inl ⟨by rfl,?_⟩) hT (fun _=>hHeld) ?_;rotate_left 1
  ·intro w hSw
   go_simp
   try with_reducible rfl
  show anyT _ _ _ _ _ _ _ _ _ (Act.put _ (some 20) _) _
  simp only [Act.put,sx0,sx1,sx2];refine tT 9 (v:=?_) rfl (Or.inl ⟨by rfl,?_⟩) hT (fun _=>hHeld) ?_;rotate_left 1
  ·intro w hSw
   go_simp
   try with_reducible rfl
  show anyT _ _ _ _ _ _ _ _ _ (Act.put _ (some 21) _) _
  simp only [Act.put,sx0,sx1,sx2];refine tT 10 (v:=?_) rfl (Or.inl ⟨by rfl,?_⟩) hT (fun _=>hHeld) ?_;rotate_left 1
  ·intro w hSw
   go_simp
   try with_reducible rfl
  show anyT _ _ _ _ _ _ _ _ _ (Act.put _ (some 22) _) _
  simp only [Act.put,sx0,sx1,sx2];refine tT 12 (v:=?_) rfl (Or.inl ⟨by rfl,?_⟩) hT (fun _=>hHeld) ?_;rotate_left 1
  ·intro w hSw
   go_simp
   try with_reducible rfl
  show anyT _ _ _ _ _ _ _ _ _ (Act.put _ (some 24) _) _
  simp only [Act.put,sx0,sx1,sx2];refine tT 13 (v:=?_) rfl (Or.inl ⟨by rfl,?_⟩) hT (fun _=>hHeld) ?_;rotate_left 1
  ·intro w hSw
   go_simp
   try with_reducible rfl
  show anyT _ _ _ _ _ _ _ _ _ (Act.put _ (some 25) _) _
  simp only [Act.put,sx0,sx1,sx2];refine tT 14 (v:=?_) rfl (Or.inl ⟨by rfl,?_⟩) hT (fun _=>hHeld) ?_;rotate_left 1
  ·intro w hSw
   go_simp
   try with_reducible rfl
  show anyT _ _ _ _ _ _ _ _ _ (Act.put _ (some 26) _) _
  simp only [Act.put,sx0,sx1,sx2];refine anyT_take (i:=11) (v:=?_) rfl (by kernel_rfl) (by kernel_rfl) (by kernel_rfl) (N:=20) (by kernel_rfl) (by kernel_rfl) (by kernel_rfl) (fun _ _ _ h=>h) (Or.inl ⟨by rfl,?_⟩) hHeld hT ?_;rotate_left 1
  ·intro w hSw
   go_simp
   try with_reducible rfl
  show anyT _ _ _ _ _ _ _ _ _ (Act.put _ (some 23) _) _
  simp only [Act.put,sx0,sx1,sx2];refine anyT_take (i:=15) (v:=?_) rfl (by kernel_rfl) (by kernel_rfl) (by kernel_rfl) (N:=20) (by kernel_rfl) (by kernel_rfl) (by kernel_rfl) (fun _ _ _ h=>h) (Or.inl ⟨by rfl,?_⟩) hHeld hT ?_;rotate_left 1
  ·intro w hSw
   go_simp
   try with_reducible rfl
  show anyT _ _ _ _ _ _ _ _ _ (Act.put _ (some 27) _) _
  simp only [Act.put,sx0,sx1,sx2];refine tT 16 (v:=?_) rfl (Or.inl ⟨by rfl,?_⟩) hT (fun _=>hHeld) ?_;rotate_left 1
  ·intro w hSw
   go_simp
   try with_reducible rfl
  show anyT _ _ _ _ _ _ _ _ _ (Act.put _ (some 28) _) _
  simp only [Act.put,sx0,sx1,sx2];clear hT hHeld;obtain ⟨hA,hB⟩:=HW'.out.put Hx.out Hp'.out (HW'.out.amp y) (Nat.le_refl _)
  have f3:V.frozen? ⟨b,x,none⟩=false:=by obtain ⟨_,_,hf,_⟩:=HW'.out.at'.get Hx.out;exact hf
  have Hp2:=Lh (PtA.put (i:=x) (v:=.pointer p') Hp.out HW'.out.at'.row.choose_spec.1 hB.keep);have v1:(V.setCell ⟨b,x,none⟩ (.pointer p')).cell? ⟨H,0,none⟩=some (.slice (some ⟨b,0,none⟩) n cp):=hB.cell Hbne.out.1 x1;have v2:(V.setCell ⟨b,x,none⟩ (.pointer p')).cell? ⟨H+1,0,none⟩=some (.int .i64 (q:Int)):=hB.cell Hbne.out.2 x2;refine anyT_one (i:=17) (by kernel_rfl) rfl (fun Kk hKk=>?_);refine stepK_storeP rfl rfl _ _ rfl b x p' _ rfl rfl y0 f3 ?_;refine hKk.out _ _ (⟨v1,v2⟩) (fun h=>Bool.noConfusion (show true=false from h)) ?_;clear hKk Kk;simp only [sx0,sx1,sx2];generalize V.setCell ⟨b,x,none⟩ (.pointer p')=V2 at *;have hT:V2.cell? ⟨H,0,none⟩=some (.slice (some ⟨b,0,none⟩) n cp)/\V2.cell? ⟨H+1,0,none⟩=some (.int .i64 (q:Int)):=⟨v1,v2⟩;refine tT 18 (v:=?_) rfl (Or.inl ⟨by rfl,?_⟩) hT (fun h=>Bool.noConfusion (show true=false from h)) ?_;rotate_left 1
  ·intro w hSw
   go_simp
   try with_reducible rfl
  show anyT _ _ _ _ _ _ _ _ _ (Act.put _ (some 29) _) _
  simp only [Act.put,sx0,sx1,sx2];clear hT;obtain ⟨hA2,hB2⟩:=hA.put Hyn.out Hp2.out (HW'.out.amp x) (Nat.le_refl _);obtain ⟨p4,y4,f4,_⟩:=hA.at'.get Hyn.out;have v3:(V2.setCell ⟨b,y,none⟩ (.pointer p)).cell? ⟨H,0,none⟩=some (.slice (some ⟨b,0,none⟩) n cp):=hB2.cell Hbne.out.1 v1;have v4:(V2.setCell ⟨b,y,none⟩ (.pointer p)).cell? ⟨H+1,0,none⟩=some (.int .i64 (q:Int)):=hB2.cell Hbne.out.2 v2;have Hend:=Lh (show WvA (V2.setCell ⟨b,y,none⟩ (.pointer p)) b n (up2 s' x (s' y) y (s' x)) (N'+1)/\Chg b W (V2.setCell ⟨b,y,none⟩ (.pointer p)) from ⟨by rw [up2_eq _ _ _ _ _ Hxy.out];exact hA2.le (Nat.le_succ _),(HdC.out.trans hB).trans hB2⟩);refine anyT_one (i:=19) (by kernel_rfl) rfl (fun Kk hKk=>?_);refine stepK_storeP rfl rfl _ _ rfl b y p _ rfl rfl y4 f4 ?_;refine hKk.out _ _ (⟨v3,v4⟩) (fun h=>Bool.noConfusion (show true=false from h)) ?_;clear hKk Kk;simp only [sx0,sx1,sx2];refine anyT_done (by kernel_rfl) ?_ _;exact Hend.out
def adN (f g:Nat->Int):Nat->Nat->Int
 | 0=>f
 | j+1=>addN (adN f g j) j (g j)
theorem ext8_adN (f g:Nat->Int):ext8 (adN f g 8)=addR (ext8 f) (ext8 g):=by
 have hs:=sum_monos (anti_ext8 g) 0
 have e:∀ i:Nat,i<8->ext8 g (i:Int)=g i:=fun i hi=>by rw [ext8_at g i (by omega) (by omega)];rfl
 funext x
 have h2:=congrFun hs x;simp only [trR,Int.sub_zero,Int.add_zero] at h2;simp only [addR];rw [<-h2];simp only [adN,ext8_add,addR,sum8];have e0:=e 0 (by omega);have e1:=e 1 (by omega);have e2:=e 2 (by omega);have e3:=e 3 (by omega);have e4:=e 4 (by omega);have e5:=e 5 (by omega);have e6:=e 6 (by omega);have e7:=e 7 (by omega);simp only [Int.cast_ofNat_Int] at e0 e1 e2 e3 e4 e5 e6 e7 ⊢;rw [e0,e1,e2,e3,e4,e5,e6,e7];omega
theorem adN_down (f g:Nat->Int):∀ j,adN f g j 8=f 8
 | 0=>rfl
 | j+1=>by simp only [adN];rw [addN_far];exact adN_down f g j
theorem adN_abs (f g:Nat->Int) (A B:Nat) (hA:∀ i,i<8->(f i).natAbs<=A) (hB:∀ i,i<8->(g i).natAbs<=B):∀ j,j<=8->∀ i,i<8->(adN f g j i).natAbs<=A+j*B
 | 0,_,i,hi=>by have:=hA i hi;simp only [adN];omega
 | j+1,hj,i,hi=>by
  have:=addN_abs (adN f g j) j (g j) (A+j*B) B (adN_abs f g A B hA hB j (by omega)) (hB j (by omega)) i hi;simp only [adN];rw [Nat.succ_mul];omega
theorem cmp3_le {x y:Int} (h:y<=x):¬ cmp3 x y<0:=by unfold cmp3;rw [if_neg (by omega)];split<;>decide
theorem RAdd_ge (ca cb:Array Value) (x y:Nm) (P1 E1 P2 E2:Nat) (w:World) (h1:NmA w ca x P1 E1) (h2:NmA w cb y P2 E2) (hle:y.e<=x.e) (K:Nat) (hK:K<=4194304) (hP:P1+P2+E1+4<=64*K) (hE:E1<=1099511627776) (hbr:Bru w) :
  Calls Tryz.prog 55 #[.agg ca,.agg cb] w fun e w'=>∃ (cr:Array Value) (z:Nm),e=.returned (.agg cr)/\NmA w' cr z (P1+P2+E1+4) E1/\EqN z (nAdd x y)/\Ext w w':=by
 have hK1:1<=K:=by omega
 obtain ⟨f,hf⟩:∃ f,nmF x=f:=⟨_,rfl⟩;obtain ⟨g,hg⟩:∃ g,nmF y=g:=⟨_,rfl⟩;have hv1:=h1.val;have hv2:=h2.val;rw [hf] at hv1;rw [hg] at hv2
 have hF1:∀ i,i<8->(f i).natAbs<2 ^ P1:=fun i hi=>by have:=nmF_abs h1.abs i hi;rw [hf] at this;exact this
 have hF2:∀ i,i<8->(g i).natAbs<2 ^ P2:=fun i hi=>by have:=nmF_abs h2.abs i hi;rw [hg] at this;exact this
 obtain ⟨ap,hap⟩:∃ ap,x.e-y.e=ap:=⟨_,rfl⟩
 obtain ⟨V,hV⟩:∃ V:Nat->Int,V=fun i=>g i*((2 ^ ap:Nat):Int):=⟨_,rfl⟩
 have hVV:∀ i,V i=g i*((2 ^ ap:Nat):Int):=fun i=>by rw [hV]
 have hdx:=h1.down
 have hFV:∀ i,i<8->(V i).natAbs<2 ^ (P2+E1):=fun i hi=>by
  rw [hVV,Int.natAbs_mul,Int.natAbs_natCast];have h4:2 ^ ap<=2 ^ E1:=Nat.pow_le_pow_right (by decide) (by omega);have h5:0<2 ^ ap:=Nat.pow_pos (by decide);have h6:=Nat.mul_lt_mul_of_lt_of_le (hF2 i hi) h4 (Nat.pow_pos (by decide));rw [<-Nat.pow_add] at h6;exact h6
 have hB:∀ j,j<=8->∀ i,i<8->(adN f V j i).natAbs<2 ^ (P1+P2+E1+4):=fun j hj i hi=>by
  have p1:0<2 ^ P1:=Nat.pow_pos (by decide);have p2:0<2 ^ (P2+E1):=Nat.pow_pos (by decide);have h5:=adN_abs f V (2 ^ P1-1) (2 ^ (P2+E1)-1) (fun i hi=>by have:=hF1 i hi;omega) (fun i hi=>by have:=hFV i hi;omega) j hj i hi;have h6:j*(2 ^ (P2+E1)-1)<=8*(2 ^ (P2+E1)-1):=Nat.mul_le_mul_right _ hj;have h7:2 ^ P1<=2 ^ (P1+P2+E1):=Nat.pow_le_pow_right (by decide) (by omega);have h8:2 ^ (P2+E1)<=2 ^ (P1+P2+E1):=Nat.pow_le_pow_right (by decide) (by omega);rw [Nat.pow_add 2 (P1+P2+E1) 4];omega
 have HB:=Lh hB;have HK:=Lh hK;have HK1:=Lh hK1;have Hx:=Lh h1;have Hy:=Lh h2;have Hf:=Lh hf;have Hg:=Lh hg;have HP:=Lh hP;have HEE:=Lh hE;have Hle:=Lh hle;have Hap:=Lh hap;have HVV:=Lh hVV;have Hdx:=Lh hdx;have HF1:=Lh (show ∀ i,i<8->Fit K (f i) from fun i hi=>fit_pow (hF1 i hi) (by omega));have HF2:=Lh (show ∀ i,i<8->Fit K (g i) from fun i hi=>fit_pow (hF2 i hi) (by omega));have HFV:=Lh (show ∀ i,i<8->Fit K (V i) from fun i hi=>fit_pow (hFV i hi) (by omega));have HFA:=Lh (show ∀ j,j<=8->∀ i,i<8->Fit K (adN f V j i) from fun j hj i hi=>fit_pow (hB j hj i hi) hP);obtain ⟨H,hH⟩:∃ H,w.heap.size=H:=⟨_,rfl⟩;obtain ⟨U,hU⟩:∃ U,(((w.alloc (.cells ca 78)).alloc (.cells cb 78)).alloc (.cells zero9 78))=U:=⟨_,rfl⟩
 have E0:Ext w U:=by rw [<-hU];exact ((Ext.alloc _ _).trans (Ext.alloc _ _)).trans (Ext.alloc _ _)
 have N0:Nums U H 9 78 f:=by rw [<-hU,<-hH];exact (hv1.box 78).ext ((Ext.alloc _ _).trans (Ext.alloc _ _))
 have N1:Nums U (H+1) 9 78 g:=by
  have:=((hv2.ext (Ext.alloc w (.cells ca 78))).box 78).ext (Ext.alloc _ (.cells zero9 78));rw [<-hU,<-hH]
  simpa using this
 have Z0:Nums U (H+2) 9 78 (fun _=>0):=by
  have:=(cells_zero9 ((w.alloc (.cells ca 78)).alloc (.cells cb 78))).box 78;rw [<-hU,<-hH]
  simpa using this
 obtain ⟨s8,a8,n8,c8,l16,l17,_,_,hI8⟩:=N0.get 8 (by decide);obtain ⟨s7,a7,n7,c7,m16,m17,_,_,hI7⟩:=N1.get 8 (by decide)
 have hf8:f 8=((x.e:Nat):Int):=by rw [<-hf];rfl
 have hg8:g 8=((y.e:Nat):Int):=by rw [<-hg];rfl
 rw [hf8] at hI8;rw [hg8] at hI7;have HI8:=Lh hI8;have HI7:=Lh hI7;have Hfx:=Lh (show Fit K ((x.e:Nat):Int) from fit_small (z:=((x.e:Nat):Int)) (by omega) hK1);have Hfy:=Lh (show Fit K ((y.e:Nat):Int) from fit_small (z:=((y.e:Nat):Int)) (by omega) hK1);obtain ⟨k,hk⟩:∃ k,cmp3 ((x.e:Nat):Int) ((y.e:Nat):Int)=k:=⟨_,rfl⟩
 have b1:¬ k<0:=by rw [<-hk];exact cmp3_le (by omega)
 have HC:=Lh (CmpK_is k hI8 hI7 K hK Hfx.out Hfy.out hk)
 have HgH:Hid (∀ q,H<=q->Tryz.lays29_ren.g 1≠q):=Lh (by
  intro q hq e;have h1:=hbr 0 (by decide);rw [<-hH] at hq;have h2:Tryz.lays29_ren.g 1<w.heap.size:=World.block_lt_of_cell? w _ h1;rw [e] at h2
  omega)
 have HU:=Lh hU;have HH:=Lh hH;have HN0:=Lh N0;have HN1:=Lh N1;have HZ0:=Lh Z0;have HE0:=Lh E0;have Hbr:=Lh hbr;have lH:=N0.lt;have lH1:=N1.lt;clear hU hH Z0 N0 N1 E0 hbr hF1 hF2 hFV hB hv1 hv2 h1 h2 hf hg hK hK1 hP hE hap hV hVV hle hdx hI8 hI7 hf8 hg8 hk
 go_enter Tryz.func55,Tryz.ntmps55
 go_upto_region 1 with fail
 rw [HU.out,HH.out];clear HU
 go_wp2_with fail
 refine HC.out.mono ?_;rintro e w1 ⟨rfl,hx1⟩;have n16:=cellKeep hx1 lH l16;have n17:=cellKeep hx1 lH l17;have o16:=cellKeep hx1 lH1 m16;have o17:=cellKeep hx1 lH1 m17;have HN1':=Lh (HN0.out.ext hx1);have HM1:=Lh (HN1.out.ext hx1);have HZ1:=Lh (HZ0.out.ext hx1);have HE1:=Lh (HE0.out.trans hx1);have HS:=Lh (Sub_any s8 s7 a8 a7 n8 c8 n7 c7 _ _ w1 (HI8.out.ext hx1) (HI7.out.ext hx1) K HK.out Hfx.out Hfy.out);clear hx1 l16 l17 m16 m17 lH lH1 HN0 HN1 HZ0 HE0 HC HI8 HI7
 go_wp2_with fail
 clear b1 n16 n17 o16 o17;refine HS.out.mono ?_;rintro e w2 ⟨s9,a9,n9,c9,rfl,hI9,hx2⟩;have HN2:=Lh (HN1'.out.ext hx2);have HM2:=Lh (HM1.out.ext hx2);have HZ2:=Lh (HZ1.out.ext hx2);have HE2:=Lh (HE1.out.trans hx2);have hI9':=hI9.cast (show ((x.e:Nat):Int)-((y.e:Nat):Int)=(ap:Int) by have:=Hle.out;have:=Hap.out;omega);have HSm:=Lh (Small_any s9 a9 n9 c9 (ap:Int) w2 hI9');have Hapb:=Lh (show ap<=1099511627776 by have:=Hap.out;have:=Hdx.out;have:=HEE.out;omega);rw [if_pos (by have:=Hapb.out;omega)] at HSm;clear hx2 hI9 hI9' HN1' HM1 HZ1 HE1 HS
 go_wp2_with fail
 refine HSm.out.mono ?_;rintro e w3 ⟨rfl,hx3⟩;have HN3:=Lh (HN2.out.ext hx3);have HM3:=Lh (HM2.out.ext hx3);have HZ3:=Lh (HZ2.out.ext hx3);have HE3:=Lh (HE2.out.trans hx3);clear hx3 HN2 HM2 HZ2 HE2 HSm;have HSh:=Lh (rowShift_any (H+1) 9 78 g V (ap:Int) w3 HM3.out (by decide) K HK.out HK1.out HF2.out HFV.out (by omega) (by have:=Hapb.out;omega) (fun i hi=>Or.inl ⟨by omega,by rw [HVV.out];rfl⟩) (bru_ext Hbr.out HE3.out) (HgH.out (H+1) (by omega)))
 go_wp2_with fail
 refine HSh.out.mono ?_;rintro e w4 ⟨rfl,hM4,hC4⟩
 have Hst:=Lh (show Nums w4 H 9 78 (adN f V 0)/\Nums w4 (H+1) 9 78 (shN g V 8)/\Nums w4 (H+2) 9 78 (fun _=>0)/\Ext w w4 from
  ⟨HN3.out.chg hC4 (by omega),hM4,HZ3.out.chg hC4 (by omega),hC4.ext HE3.out (by rw [HH.out];omega)⟩)
 clear hM4 hC4 HN3 HM3 HZ3 HE3 HSh
 go_wp2_with fail
 go_loopg [7,29] 8 (fun kk s7 s29 wr=>∃ j:Nat,s29=.int .i64 (j:Int)/\j<=8/\8-j=kk/\Nums wr H 9 78 (adN f V j)/\Nums wr (H+1) 9 78 (shN g V 8)/\Nums wr (H+2) 9 78 (fun _=>0)/\Ext w wr)
 case atStart=>exact ⟨0,rfl,by omega,by omega,Hst.out⟩
 case round =>
  clear Hst;obtain ⟨j,rfl,hj,hjk,hN,hM,hZ,hE⟩:=hrel;obtain ⟨wo,rfl⟩:∃ wo:World,wo=wr:=⟨_,rfl⟩
  by_cases hj8:j=8
  ·subst hj8
   obtain ⟨c9',hr9,hc9⟩:=hN.cells;have hrow:=hc9.row8 (by decide);have hrg:=range8 hr9;obtain ⟨cl,hcl⟩:∃ cl,c9'.toList.take 16=cl:=⟨_,rfl⟩;rw [hcl] at hrow hrg
   have hlen:cl.length=16:=by simpa using hrow.1
   have hinfq:(Tryz.prog.info? 76).map (·.size)=some cl.length:=by rw [hlen];exact rrow_info
   obtain ⟨t8,b8,u8,d8,l16,l17,_,_,hI8⟩:=hN.get 8 (by decide);rw [adN_down,<-Hf.out] at hI8;have hI8':IsInt wo t8 b8 u8 d8 ((x.e:Nat):Int):=hI8;have HLo:=Lh (rlowest_any cl.toArray t8 b8 u8 d8 (adN f V 8) x.e wo hrow hI8' K (P1+P2+E1+4) E1 HK.out HK1.out HP.out HEE.out (HB.out 8 (by decide)) Hdx.out (bru_ext Hbr.out hE));have HZ:=Lh hZ;have HE:=Lh hE;clear hI8 hI8' hrow hc9 hN hM hZ hE HB HF1 HF2 HFV HFA hr9
   go_wp2_with (refine wpList_load_mid rfl 76 _ rfl H 0 rfl cl _ hrg Tryz.underlying76 rfl hinfq ?_)
   refine HLo.out.mono ?_;rintro e w3 ⟨cr,z,rfl,hcr,hy,he3⟩;obtain ⟨c1,hr1,hs1,hone,hinf,rr,hnm,hE'⟩:=fin_num hcr (HZ.out.ext he3) (HE.out.trans he3) (by rw [HH.out];omega)
   have heq:EqN z (nAdd x y):=by
    have e1:ext8 (adN f V 8)=addR x.a (fun k=>y.a k*2 ^ (x.e-y.e)):=by
     rw [ext8_adN,<-Hf.out,ext8_nmF Hx.out.anti]
     congr 1
     funext k
     rw [ext8_scale (V:=g) (c:=2 ^ ap) (fun i _=>by rw [HVV.out,Int.natCast_pow];rfl) k,<-Hg.out,ext8_nmF Hy.out.anti,Hap.out]
    rw [e1] at hy;exact hy.trans (n_add_over Hle.out)
   have Hend:=Lh (show NmA (w3.setRow (H+2) cr) cr z (P1+P2+E1+4) E1/\EqN z (nAdd x y)/\Ext w (w3.setRow (H+2) cr) from ⟨hnm,heq,hE'⟩);clear hnm heq hE' hcr hy he3 HLo HZ HE hrg l16 l17
   go_wp2_with (refine wpList_store_row rfl 78 _ _ rfl (H+2) cr rfl rfl 78 _ hr1 hinf hs1 hone ?_)
   refine bodyPost_ret (v:=.agg cr) ?_ rfl ⟨_,_,rfl,Hend.out⟩;exact results_cell_row rfl _ _ (H+2) _ _ _ _ rfl rr Tryz.underlying78 rfl hinf
  have hlt:j<8:=by omega
  have q1:(j:Int)<8:=by omega
  have q0:(0:Int)<=(j:Int):=by omega
  obtain ⟨s1,a1,n1,c1,y0,y1,_,_,hI1⟩:=hM.get j (by omega);have hI1':=hI1.cast (show shN g V 8 j=V j by unfold shN;rw [if_pos hlt])
  have wk:IntKind.i64.wrap ((j:Int)+1)=((j+1:Nat):Int):=by rw [IntKind.wrap_i64];omega
  have HAd:=Lh (rowAdd_any H 9 78 (adN f V j) (j:Int) s1 a1 n1 c1 (V j) wo hN (by decide) hI1' K HK.out (HFV.out j hlt) (HFA.out j hj));have Hj1:=Lh (show j+1<=8 by omega);have HZ:=Lh hZ;have HM:=Lh hM;have HE:=Lh hE;have Hjk:=Lh hjk;clear hI1 hI1' hN hZ hM hE hjk hj8 hj hlt
  go_wp2_with fail
  refine HAd.out.mono ?_;rintro e w2 ⟨rfl,hN2,hC2⟩
  have Hend:=Lh (show Nums w2 H 9 78 (adN f V (j+1))/\Nums w2 (H+1) 9 78 (shN g V 8)/\Nums w2 (H+2) 9 78 (fun _=>0)/\Ext w w2 from
   ⟨hN2,HM.out.chg hC2 (by omega),HZ.out.chg hC2 (by omega),hC2.ext HE.out (by rw [HH.out];exact Nat.le_refl _)⟩)
  clear hN2 hC2 HAd HZ HM HE y0 y1
  go_wp2_with fail
  go_roundg (8-(j+1))
  case measure=>have:=Hjk.out;have:=Hj1.out;omega
  case rel=>exact ⟨j+1,rfl,Hj1.out,rfl,Hend.out⟩
theorem RAdd_nm (ca cb:Array Value) (x y:Nm) (P1 E1 P2 E2:Nat) (w:World) (h1:NmA w ca x P1 E1) (h2:NmA w cb y P2 E2) (K:Nat) (hK:K<=4194304) (hP:P1+P2+E1+E2+4<=64*K) (_hE:E1+E2<=1099511627776) (hbr:Bru w) :
  Calls Tryz.prog 55 #[.agg ca,.agg cb] w fun e w'=>∃ (cr:Array Value) (z:Nm),e=.returned (.agg cr)/\NmA w' cr z (P1+P2+E1+E2+4) (E1+E2)/\EqN z (nAdd x y)/\Ext w w':=by
 by_cases hle:y.e<=x.e
 ·refine (RAdd_ge ca cb x y P1 E1 P2 E2 w h1 h2 hle K hK (by omega) (by omega) hbr).mono ?_
  rintro e w' ⟨cr,z,he,hn,hq,hx⟩;exact ⟨cr,z,he,hn.le (by omega) (by omega),hq,hx⟩
 have hK1:1<=K:=by omega
 have hv1:=h1.val;have hv2:=h2.val;obtain ⟨H,hH⟩:∃ H,w.heap.size=H:=⟨_,rfl⟩;obtain ⟨U,hU⟩:∃ U,(((w.alloc (.cells ca 78)).alloc (.cells cb 78)).alloc (.cells zero9 78))=U:=⟨_,rfl⟩
 have E0:Ext w U:=by rw [<-hU];exact ((Ext.alloc _ _).trans (Ext.alloc _ _)).trans (Ext.alloc _ _)
 have N0:U.heap[H]?=some (.cells ca 78 (0,0)):=by rw [<-hU,<-hH];exact (((Ext.alloc _ _).trans (Ext.alloc _ _)).block _ (gS.1 (heap_alloc_new w (.cells ca 78))).1).trans (heap_alloc_new w _)
 have N1:U.heap[H+1]?=some (.cells cb 78 (0,0)):=by
  have h3:=heap_alloc_new (w.alloc (.cells ca 78)) (.cells cb 78);have h4:=((Ext.alloc ((w.alloc (.cells ca 78)).alloc (.cells cb 78)) (.cells zero9 78)).block _ (gS.1 h3).1).trans h3;rw [<-hU,<-hH]
  simpa using h4
 have Z0:Nums U (H+2) 9 78 (fun _=>0):=by
  have:=(cells_zero9 ((w.alloc (.cells ca 78)).alloc (.cells cb 78))).box 78;rw [<-hU,<-hH]
  simpa using this
 have HN0:=Lh N0;have HN1:=Lh N1;obtain ⟨s8,a8,n8,c8,l16,l17,_,_,hI8⟩:=((hv1.ext E0).nums N0).get 8 (by decide);obtain ⟨s7,a7,n7,c7,m16,m17,_,_,hI7⟩:=((hv2.ext E0).nums N1).get 8 (by decide);have hI8':IsInt U s8 a8 n8 c8 ((x.e:Nat):Int):=hI8;have hI7':IsInt U s7 a7 n7 c7 ((y.e:Nat):Int):=hI7;have hdx:=h1.down;have hdy:=h2.down;have HC:=Lh (CmpK_is (-1) hI8' hI7' K hK (fit_small (z:=((x.e:Nat):Int)) (by omega) hK1) (fit_small (z:=((y.e:Nat):Int)) (by omega) hK1) (cmp3_lt (by omega)));have HAd:=Lh (fun (wx:World) (hx:Ext w wx)=>RAdd_ge cb ca y x P2 E2 P1 E1 wx (h2.ext hx) (h1.ext hx) (by omega) K hK (by omega) (by omega) (bru_ext hbr hx));have hi1:=h1.info;have hi2:=h2.info;have HU:=Lh hU;have HH:=Lh hH;have HZ0:=Lh Z0;have HE0:=Lh E0;have Hbr:=Lh hbr;clear hU hH Z0 N0 N1 E0 hbr hv1 hv2 h1 h2 hK hK1 hP _hE hle hdx hdy hI8 hI7 hI8' hI7'
 have b1:(-1:Int)<0:=by decide
 go_enter Tryz.func55,Tryz.ntmps55
 go_upto_region 1 with fail
 rw [HU.out,HH.out];clear HU
 go_wp2_with fail
 refine HC.out.mono ?_;rintro e w1 ⟨rfl,hx1⟩;have hrA:w1.heap[H]?=some (.cells ca 78 (0,0)):=(hx1.block _ (gS.1 HN0.out).1).trans HN0.out;have hrB:w1.heap[H+1]?=some (.cells cb 78 (0,0)):=(hx1.block _ (gS.1 HN1.out).1).trans HN1.out;have HZ1:=Lh (HZ0.out.ext hx1);have HE1:=Lh (HE0.out.trans hx1);clear hx1 l16 l17 m16 m17 HZ0 HE0 HC HN0 HN1
 go_wp2_with (first
  | refine wpList_load_row rfl 78 _ rfl (H+1) rfl 78 _ (0,0) _ hrB Tryz.underlying78 rfl hi2 ?_
  | refine wpList_load_row rfl 78 _ rfl H rfl 78 _ (0,0) _ hrA Tryz.underlying78 rfl hi1 ?_)
 refine (HAd.out w1 HE1.out).mono ?_;rintro e w2 ⟨cr,z,rfl,hcr,hy,he3⟩;obtain ⟨c1,hr1,hs1,hone,hinf,rr,hnm,hE'⟩:=fin_num hcr (HZ1.out.ext he3) (HE1.out.trans he3) (by rw [HH.out];omega)
 have heq:EqN z (nAdd x y):=by rw [nAdd_comm];exact hy
 have Hend:=Lh (show NmA (w2.setRow (H+2) cr) cr z (P1+P2+E1+E2+4) (E1+E2)/\EqN z (nAdd x y)/\Ext w (w2.setRow (H+2) cr) from ⟨hnm.le (by omega) (by omega),heq,hE'⟩);clear hnm heq hE' hcr hy he3 HZ1 HE1 hrA hrB HAd
 go_wp2_with (refine wpList_store_row rfl 78 _ _ rfl (H+2) cr rfl rfl 78 _ hr1 hinf hs1 hone ?_)
 refine bodyPost_ret (v:=.agg cr) ?_ rfl ⟨_,_,rfl,Hend.out⟩;exact results_cell_row rfl _ _ (H+2) _ _ _ _ rfl rr Tryz.underlying78 rfl hinf
end Go.Proofs.YtfjnlopbmkimiaaGreatDoor
