/-
  A copy of a circuit. The reference: Run: a shot, as it is answered. The example of a circuit, and its text. The law's own: an example of the document (stateBegun). The sum of the squares of amplitudes, in plain numbers: how great it can be. Nothing of the program stands here.
-/
import Derived.Test.YtfjnlopbmkimiaaGreatDoorS25Pbq
namespace Go.Proofs.YtfjnlopbmkimiaaGreatDoor
set_option maxRecDepth 100000
set_option maxHeartbeats 8000000
open Go.RowKit
theorem op_info:(Tryz.prog.info? 60).map (fun i=>(i.zero,i.size,i.bytes))=some (some (.agg #[.int .i64 0,.int .i64 0,.slice none 0 0,.int .i64 0,.int .i64 0,.slice none 0 0]),6,80):=by kernel_rfl
def OpsO (w:World) (base:Nat) (v:Value) (ops:List Gop):Prop :=
 ∃ xs:List Value,w.ownsRow base 60 6 v ops.length xs/\∀ t g,ops[t]?=some g->∃ (a1:Option Addr) (n1 c1:Nat) (a2:Option Addr) (n2 c2:Nat),
  xs[t*6]?=some (.int .i64 g.kind)/\xs[t*6+1]?=some (.int .i64 g.k)/\xs[t*6+2]?=some (.slice a1 n1 c1)/\xs[t*6+3]?=some (.int .i64 g.q)/\xs[t*6+4]?=some (.int .i64 g.bit)/\xs[t*6+5]?=some (.slice a2 n2 c2)/\OpO w g a1 n1 c1 a2 n2 c2
theorem OpsO.nil (w:World) (base:Nat):OpsO w base (.slice none 0 0) []:=⟨[],⟨rfl,Or.inl ⟨rfl,rfl⟩⟩,fun t g h=>by simp at h⟩
theorem own_keep {w w':World} {base:Nat} {e:TypeId} {size:Nat} {v:Value} {n:Nat} {xs:List Value} (h:w.ownsRow base e size v n xs) (hk:∀ (g:Nat) (cur:Array Value),base<=g->w.heap[g]?=some (.cells cur e (0,0))->w'.heap[g]?=w.heap[g]?):w'.ownsRow base e size v n xs:=by
 refine ⟨h.1,?_⟩
 rcases h.2 with h | ⟨g,cap,cur,hv,hb,hg,rest⟩
 ·exact Or.inl h
 ·exact Or.inr ⟨g,cap,cur,hv,hb,(hk g cur hb hg).trans hg,rest⟩
theorem OpsO.ext {w w':World} {base:Nat} {v:Value} {ops:List Gop} (h:OpsO w base v ops) (k:Ext w w'):OpsO w' base v ops:=by
 obtain ⟨xs,h1,h2⟩:=h;refine ⟨xs,own_keep h1 (fun g cur _ hg=>k.block g (gS.1 hg).1),fun t g hg=>?_⟩;obtain ⟨a1,n1,c1,a2,n2,c2,e0,e1,e2,e3,e4,e5,e6⟩:=h2 t g hg;exact ⟨a1,n1,c1,a2,n2,c2,e0,e1,e2,e3,e4,e5,e6.ext k⟩
theorem OpsO.only {w w':World} {base k:Nat} {v:Value} {ops:List Gop} {cs:Array Value} {T:TypeId} {fr:Nat × Nat} (h:OpsO w base v ops) (hk:w.heap[k]?=some (.cells cs T fr)) (hT:T≠3) (hO:Only k w w') (hs:w.heap.size<=w'.heap.size) (hb:k<base):OpsO w' base v ops:=by
 obtain ⟨xs,h1,h2⟩:=h;refine ⟨xs,own_keep h1 (fun g cur hg _=>hO.block g (by omega)),fun t g hg=>?_⟩;obtain ⟨a1,n1,c1,a2,n2,c2,e0,e1,e2,e3,e4,e5,e6⟩:=h2 t g hg;exact ⟨a1,n1,c1,a2,n2,c2,e0,e1,e2,e3,e4,e5,e6.keep hs (only_ints hk hT hO)⟩
theorem OpsO.at {w:World} {base:Nat} {v:Value} {ops:List Gop} (h:OpsO w base v ops):∃ (a:Option Addr) (c:Nat),v=.slice a ops.length c/\ops.length<=c/\c<=maxLen/\OpsAt w a ops.length ops:=by
 obtain ⟨xs,h1,h2⟩:=h
 rcases h1.2 with ⟨rfl,h0⟩ | ⟨g,cap,cur,hv,hb,hg,hn,hcm,_,htk⟩
 ·rw [h0]
  exact ⟨none,0,rfl,Nat.le_refl _,Nat.zero_le _,h0,Or.inl rfl⟩
 ·refine ⟨some ⟨g,0,none⟩,cap,hv,hn,hcm,rfl,Or.inr ⟨g,0,rfl,(gS.1 hg).1,fun t gg hgg=>?_⟩⟩
  obtain ⟨a1,n1,c1,a2,n2,c2,e0,e1,e2,e3,e4,e5,e6⟩:=h2 t gg hgg;have ht:=(List.getElem?_eq_some_iff.1 hgg).1
  have hc:∀ j,j<ops.length*6->w.cell? ⟨g,0+j,none⟩=xs[j]?:=by
   intro j hj;rw [Nat.zero_add,cell_of_row w g j cur _ (0,0) hg,<-Array.getElem?_toList,<-htk,List.getElem?_take,if_pos hj]
  exact ⟨a1,n1,c1,a2,n2,c2,by rw [hc _ (by omega)];exact e0,by rw [Nat.add_assoc,hc _ (by omega)];exact e1,by rw [Nat.add_assoc,hc _ (by omega)];exact e2,by rw [Nat.add_assoc,hc _ (by omega)];exact e3,by rw [Nat.add_assoc,hc _ (by omega)];exact e4,by rw [Nat.add_assoc,hc _ (by omega)];exact e5,e6.l⟩
theorem OpsO.snoc {w w':World} {base:Nat} {v':Value} {ops:List Gop} {xs:List Value} {g:Gop} {a1:Option Addr} {n1 c1:Nat} {a2:Option Addr} {n2 c2:Nat}
  (h1:w'.ownsRow base 60 6 v' (ops.length+1) (xs++[.int .i64 g.kind,.int .i64 g.k,.slice a1 n1 c1,.int .i64 g.q,.int .i64 g.bit,.slice a2 n2 c2])) (hx:xs.length=ops.length*6)
  (h2:∀ t g,ops[t]?=some g->∃ (a1:Option Addr) (n1 c1:Nat) (a2:Option Addr) (n2 c2:Nat),xs[t*6]?=some (.int .i64 g.kind)/\xs[t*6+1]?=some (.int .i64 g.k)/\xs[t*6+2]?=some (.slice a1 n1 c1)/\xs[t*6+3]?=some (.int .i64 g.q)/\xs[t*6+4]?=some (.int .i64 g.bit)/\xs[t*6+5]?=some (.slice a2 n2 c2)/\OpO w g a1 n1 c1 a2 n2 c2)
  (hk:∀ (g:Gop) (a1:Option Addr) (n1 c1:Nat) (a2:Option Addr) (n2 c2:Nat),OpO w g a1 n1 c1 a2 n2 c2->OpO w' g a1 n1 c1 a2 n2 c2) (hO:OpO w' g a1 n1 c1 a2 n2 c2):OpsO w' base v' (ops++[g]):=by
 have hl:(ops++[g]).length=ops.length+1:=by simp
 refine ⟨_,by rw [hl];exact h1,fun t gg hgg=>?_⟩;have ht:=(List.getElem?_eq_some_iff.1 hgg).1;rw [hl] at ht
 by_cases e:t=ops.length
 ·subst e
  rw [List.getElem?_append_right (Nat.le_refl _),Nat.sub_self] at hgg
  cases hgg
  have hr:∀ j,(xs++[.int .i64 g.kind,.int .i64 g.k,.slice a1 n1 c1,.int .i64 g.q,.int .i64 g.bit,.slice a2 n2 c2])[ops.length*6+j]?=([.int .i64 g.kind,.int .i64 g.k,.slice a1 n1 c1,.int .i64 g.q,.int .i64 g.bit,.slice a2 n2 c2]:List Value)[j]?:=fun j=>by
   rw [List.getElem?_append_right (by omega),hx,Nat.add_sub_cancel_left]
  exact ⟨a1,n1,c1,a2,n2,c2,hr 0,hr 1,hr 2,hr 3,hr 4,hr 5,hO⟩
 ·rw [List.getElem?_append_left (by omega)] at hgg
  obtain ⟨b1,m1,d1,b2,m2,d2,e0,e1,e2,e3,e4,e5,e6⟩:=h2 t gg hgg
  have hr:∀ j,j<6->(xs++[.int .i64 g.kind,.int .i64 g.k,.slice a1 n1 c1,.int .i64 g.q,.int .i64 g.bit,.slice a2 n2 c2])[t*6+j]?=xs[t*6+j]?:=fun j hj=>List.getElem?_append_left (by omega)
  exact ⟨b1,m1,d1,b2,m2,d2,(hr 0 (by omega)).trans e0,(hr 1 (by omega)).trans e1,(hr 2 (by omega)).trans e2,(hr 3 (by omega)).trans e3,(hr 4 (by omega)).trans e4,(hr 5 (by omega)).trans e5,hk _ _ _ _ _ _ _ e6⟩
theorem PtKind {w:World} {base n size:Nat} {v:Value} {xs:List Value} {e:TypeId} (h:w.ownsRow base e size v n xs):∀ k,v.ownBlock=some k->base<=k/\∃ cs fr,w.heap[k]?=some (.cells cs e fr):=by
 intro k hk
 rcases h.2 with ⟨rfl,_⟩ | ⟨g,cap,cur,rfl,hb,hg,_⟩
 ·simp [Value.ownBlock] at hk
 ·simp [Value.ownBlock] at hk
  subst hk;exact ⟨hb,cur,(0,0),hg⟩
theorem new_op (w:World) (k0 k1:Int) (a1:Option Addr) (n1 c1:Nat) (k3 k4:Int) (a2:Option Addr) (n2 c2:Nat) (e:TypeId):∀ j u,([.int .i64 k0,.int .i64 k1,.slice a1 n1 c1,.int .i64 k3,.int .i64 k4,.slice a2 n2 c2]:List Value)[j]?=some u->(w.alloc (.cells #[.int .i64 k0,.int .i64 k1,.slice a1 n1 c1,.int .i64 k3,.int .i64 k4,.slice a2 n2 c2] e)).cell? ((⟨w.heap.size,0,none⟩:Addr).add j)=some u:=by
 intro j u hu
 have hadd:(⟨w.heap.size,0,none⟩:Addr).add j=⟨w.heap.size,j,none⟩:=by unfold Addr.add;split<;>simp_all
 rw [hadd,cell_of_row _ _ j _ _ (0,0) (heap_alloc_new w _)]
 simpa using hu
theorem one_op (k0 k1:Int) (a1:Option Addr) (n1 c1:Nat) (k3 k4:Int) (a2:Option Addr) (n2 c2:Nat):∀ u ∈ ([.int .i64 k0,.int .i64 k1,.slice a1 n1 c1,.int .i64 k3,.int .i64 k4,.slice a2 n2 c2]:List Value),u.oneCell'=true:=by
 intro u hu;simp only [List.mem_cons,List.not_mem_nil,or_false] at hu
 rcases hu with rfl | rfl | rfl | rfl | rfl | rfl<;>rfl
theorem stepK_append {ops:Array Oper} {o:Oper} {a:Act} {K:Act->World->Prop} {Q:Exit->Act->World->Prop} {E:Prop} {w w':World} (hgd:o.guard=none) (s x:Operand) (t:TypeId)
  (ho:o.op=.call { callee:=.builtin .append,args:=#[s,x],argTypes:=#[t,t] }) (v1 v2 r:Value) (hs:a.eval s=v1) (hx:a.eval x=v2)
  (hap:(Builtin.append_ #[t,t] o.type #[v1,v2]).run Tryz.prog w=.ok r w') (h:K (a.put o.dst r) w') :
  if Region.wanted o (yielded ops a.tmps)=true then Oper.wp Tryz.prog o a w K Q else E:=by
 have hw:Region.wanted o (yielded ops a.tmps)=true:=by simp [Region.wanted,hgd]
 rw [if_pos hw];unfold Oper.wp execOp;simp only [ho,resolve,invoke,builtin,Sem.run_bind,Sem.run_pure,Result.andThen_ok,List.map_toArray,List.map_cons,List.map_nil,hs,hx,hap];exact h
theorem stepK_store {ops:Array Oper} {o:Oper} {a:Act} {K:Act->World->Prop} {Q:Exit->Act->World->Prop} {E:Prop} {w:World} (hgd:o.guard=none) (hd:o.dst=none) (p x:Operand)
  (ho:o.op=.store 22 p x) (b off:Nat) (a':Option Addr) (n' c':Nat) (u:Value) (hp:a.eval p=.pointer (some ⟨b,off,none⟩)) (hx:a.eval x=.slice a' n' c')
  (hcell:w.cell? ⟨b,off,none⟩=some u) (hfz:w.frozen? ⟨b,off,none⟩=false) (h:K a (w.setCell ⟨b,off,none⟩ (.slice a' n' c'))) :
  if Region.wanted o (yielded ops a.tmps)=true then Oper.wp Tryz.prog o a w K Q else E:=by
 have hw:Region.wanted o (yielded ops a.tmps)=true:=by simp [Region.wanted,hgd]
 rw [if_pos hw];obtain ⟨od,oo,ot,opp,oa,og⟩:=o;simp only at ho hd;subst ho hd;have HH:=Lh h;clear h;unfold Oper.wp execOp;simp only [hp,hx]
 go_simp
 exact HH.out
theorem CiB.f {W:World} {g:Nat} {qb bi:Int} {ao:Option Addr} {n cp:Nat} (h:CiB W g qb bi ao n cp) (o:Nat):W.frozen? ⟨g,o,none⟩=false:=frozen_of_row W g o _ _ h.row
theorem CiB.set2 {W:World} {g:Nat} {qb bi:Int} {ao:Option Addr} {n cp:Nat} (h:CiB W g qb bi ao n cp) (a:Option Addr) (m c:Nat):CiB (W.setCell ⟨g,2,none⟩ (.slice a m c)) g qb bi a m c:=⟨heap_setCell_same W g 2 _ _ (.slice a m c) h.row⟩
theorem CiB_grown {a w':World} {v:Value} {base g:Nat} {e:TypeId} {qb bi:Int} {ao:Option Addr} {n cp:Nat} (hg:a.grownBy w' v.ownBlock) (hk:∀ k,v.ownBlock=some k->base<=k/\∃ cs fr,a.heap[k]?=some (.cells cs e fr)) (h:CiB a g qb bi ao n cp) (hb:g<base):CiB w' g qb bi ao n cp :=
 ⟨(hg.block g h.lt (fun e=>by have:=(hk g e.symm).1;omega)).trans h.row⟩
theorem cell_grown {w a w':World} {v:Value} {base:Nat} {e:TypeId} (hg:a.grownBy w' v.ownBlock) (hk:∀ k,v.ownBlock=some k->base<=k/\∃ cs fr,a.heap[k]?=some (.cells cs e fr)) {b o:Nat} {u:Value} (hc:w.cell? ⟨b,o,none⟩=some u) (hE:Ext w a) (hb:b<base):w'.cell? ⟨b,o,none⟩=some u:=by
 have h1:=cell_ext hc hE;exact (World.cell?_of_block (a:=⟨b,o,none⟩) (hg.block b (World.block_lt_of_cell? a ⟨b,o,none⟩ h1) (fun h=>by have:=(hk b h.symm).1;omega))).trans h1
theorem CopyCircuit_any (c:Gci) (ao:Option Addr) (n cp:Nat) (w:World) (h:OpsAt w ao n c.ops) (hbn:n*80<=140737488355328) (hbl:∀ g ∈ c.ops,g.ctl.length*8<=140737488355328/\g.cnd.length*8<=140737488355328) :
  Calls Tryz.prog 5 #[.agg #[.int .i64 c.qubits,.int .i64 c.bits,.slice ao n cp]] w fun e w'=>(∃ (a':Option Addr) (c':Nat),e=.returned (.agg #[.int .i64 c.qubits,.int .i64 c.bits,.slice a' n c'])/\n<=c'/\c'<=maxLen/\OpsAt w' a' n c.ops)/\Ext w w':=by
 obtain ⟨qb,bi,ops⟩:=c;obtain ⟨i0,hi,hz0,hz1,hz2⟩:=info_parts op_info;obtain ⟨H,hH⟩:∃ H,w.heap.size=H:=⟨_,rfl⟩;have HhH:=Lh hH;have E0:=((ext_al w (.cells #[.int .i64 qb,.int .i64 bi,.slice ao n cp] 24)).trans (ext_al _ (.cells #[.int .i64 0,.int .i64 0,.slice none 0 0] 24))).trans (ext_al _ (.cells #[.int .i64 qb,.int .i64 bi,.slice none 0 0] 24));have bC:CiB (((w.alloc (.cells #[.int .i64 qb,.int .i64 bi,.slice ao n cp] 24)).alloc (.cells #[.int .i64 0,.int .i64 0,.slice none 0 0] 24)).alloc (.cells #[.int .i64 qb,.int .i64 bi,.slice none 0 0] 24)) w.heap.size qb bi ao n cp:=(CiB.ext ⟨heap_alloc_new w _⟩ (ext_al _ _)).ext (ext_al _ _)
 have bR:CiB (((w.alloc (.cells #[.int .i64 qb,.int .i64 bi,.slice ao n cp] 24)).alloc (.cells #[.int .i64 0,.int .i64 0,.slice none 0 0] 24)).alloc (.cells #[.int .i64 qb,.int .i64 bi,.slice none 0 0] 24)) (w.heap.size+1) 0 0 none 0 0:=CiB.ext ⟨by
  have:=heap_alloc_new (w.alloc (.cells #[.int .i64 qb,.int .i64 bi,.slice ao n cp] 24)) (.cells #[.int .i64 0,.int .i64 0,.slice none 0 0] 24)
  simpa using this⟩ (ext_al _ _)
 have bO:CiB (((w.alloc (.cells #[.int .i64 qb,.int .i64 bi,.slice ao n cp] 24)).alloc (.cells #[.int .i64 0,.int .i64 0,.slice none 0 0] 24)).alloc (.cells #[.int .i64 qb,.int .i64 bi,.slice none 0 0] 24)) (w.heap.size+2) qb bi none 0 0:=⟨by
  have:=heap_alloc_new ((w.alloc (.cells #[.int .i64 qb,.int .i64 bi,.slice ao n cp] 24)).alloc (.cells #[.int .i64 0,.int .i64 0,.slice none 0 0] 24)) (.cells #[.int .i64 qb,.int .i64 bi,.slice none 0 0] 24)
  simpa using this⟩
 have Hl:=Lh h.1;have HE0:=Lh E0;have HOp:=Lh (h.ext E0);have Hops0:=Lh h;have HC:=Lh bC;have HR:=Lh bR;have HO:=Lh bO;have Hbl:=Lh hbl
 have HoldA:Hid (n=0\/∃ b o,ao=some ⟨b,o,none⟩/\b<w.heap.size):=by
  rcases h.2 with h0 | ⟨b,o,e,hb,_⟩
  ·exact Or.inl h0
  ·exact Or.inr ⟨b,o,e,hb⟩
 simp only at Hl ⊢;clear h E0 bC bR bO hbl
 go_enter Tryz.func5,Tryz.ntmps5
 go_wp2_with fail
 generalize ((w.alloc (.cells #[.int .i64 qb,.int .i64 bi,.slice ao n cp] 24)).alloc (.cells #[.int .i64 0,.int .i64 0,.slice none 0 0] 24)).alloc (.cells #[.int .i64 qb,.int .i64 bi,.slice none 0 0] 24)=W0 at *;obtain ⟨base,hbase⟩:∃ base,W0.heap.size=base:=⟨_,rfl⟩;have HoutL:Hid (w.heap.size+2<W0.heap.size):=HO.out.lt
 have hH3:H+2<base:=by have:=HoutL.out;omega
 rw [hH] at HoutL HC HR HO
 go_loopg [4] n (fun kk s4 wr=>∃ (i:Nat) (av:Option Addr) (cv:Nat),s4=.int .i64 (i:Int)/\i<=n/\n-i=kk/\CiB wr H qb bi ao n cp/\CiB wr (H+1) 0 0 none 0 0/\CiB wr (H+2) qb bi av i cv/\OpsAt wr ao n ops/\OpsO wr base (.slice av i cv) (ops.take i)/\Ext w wr/\base<=wr.heap.size)
 case atStart=>exact ⟨0,none,0,rfl,by omega,by omega,HC.out,HR.out,HO.out,HOp.out,OpsO.nil _ _,HE0.out,by omega⟩
 case round =>
  clear HC HR HO HOp HE0;obtain ⟨i,av,cv,rfl,hin',hk,bC,bR,bO,hops,hown,hER,hbs⟩:=hrel;have HC:=Lh bC;have HR:=Lh bR;have Hout:=Lh bO;have HOp:=Lh hops;have Hown:=Lh hown;have HER:=Lh hER;have v0:=bO.x2;have v2:=bC.x2
  by_cases hin:i=n
  ·have h2:¬ (i:Int)<(n:Int):=by omega
   have ho:=hown;rw [List.take_of_length_le (by rw [Hl.out];omega)] at ho;obtain ⟨a',c',ev,l1,l2,hat⟩:=ho.at;rw [Hl.out] at ev l1 hat
   cases ev
   have x0:=bO.x0;have x1:=bO.x1;have r0:=bR.x0;have r1:=bR.x1;have r2:=bR.x2;have g0:=bR.f 0;have g1:=bR.f 1;have g2:=bR.f 2;have hO3:Only (H+1) wr (((wr.setCell ⟨H+1,0,none⟩ (.int .i64 qb)).setCell ⟨H+1,1,none⟩ (.int .i64 bi)).setCell ⟨H+1,2,none⟩ (.slice av n cv)):=(((Only.refl _ _).setCell _ _).setCell _ _).setCell _ _;obtain ⟨a9,c9,ev9,k1,k2,hat9⟩:=(ho.only bR.row (by decide) hO3 (by simp) (by omega)).at;rw [Hl.out] at ev9 k1 hat9
   cases ev9
   have Hat:=Lh hat9;have Hl1:=Lh k1;have Hl2:=Lh k2;clear bC bR bO hops hown hER ho hat l1 l2 k1 k2 hat9 hO3
   go_wp2_with fail
   exact bodyPost_ret (v:=.agg #[.int .i64 qb,.int .i64 bi,.slice av n cv]) (by simp [results,Tryz.results5,go_sem,r0,r1,r2]) rfl ⟨⟨av,cv,rfl,Hl1.out,Hl2.out,Hat.out⟩,Below.setCell (Below.setCell (Below.setCell HER.out (p:=⟨H+1,0,none⟩) (show w.heap.size<=H+1 by have:=HhH.out;omega) _) (p:=⟨H+1,1,none⟩) (show w.heap.size<=H+1 by have:=HhH.out;omega) _) (p:=⟨H+1,2,none⟩) (show w.heap.size<=H+1 by have:=HhH.out;omega) _⟩
  ·have h2:(i:Int)<(n:Int):=by omega
   have h0:(0:Int)<=(i:Int):=by omega
   rcases HoldA.out with h | ⟨b,o,rfl,hbw⟩
   ·omega
   have HbB:Hid (b<base):=by show b<base;omega
   obtain ⟨gg,hg⟩:∃ g,ops[i]?=some g:=⟨_,List.getElem?_eq_getElem (by rw [Hl.out];omega)⟩;obtain ⟨a1,n1,c1,a2,n2,c2,e0,e1,e2,e3,e4,e5,hL⟩:=hops.at i gg hg;have hbl:=Hbl.out gg (List.mem_of_getElem? hg);rw [hL.i1.1,hL.i2.1] at hbl
   have hst:ops.take (i+1)=ops.take i++[gg]:=by rw [List.take_add_one,hg];rfl
   have Hst:=Lh hst;have HCp:=Lh (fun wx (hx:Ext wr wx)=>copyOp_any gg a1 n1 c1 a2 n2 c2 wx (hL.ext hx) hbl.1 hbl.2);obtain ⟨kd,kk',ctl,qq,bb,cnd⟩:=gg;simp only at e0 e1 e2 e3 e4 e5 HCp;clear bC bR bO hops hown hER hL hst hbl hg
   go_wp2_with fail
   have hE0d:Ext wr wr.drew:=Below.drew (Ext.refl _);refine wp_region_K 11 (fun w'=>w'.cell? ⟨H+2,2,none⟩=some (.slice av i cv)/\w'.cell? ⟨H,2,none⟩=some (.slice (some ⟨b,o,none⟩) n cp)/\w'.cell? ⟨b,o+i*6,none⟩=some (.int .i64 kd)/\w'.cell? ⟨b,o+i*6+1,none⟩=some (.int .i64 kk')/\w'.cell? ⟨b,o+i*6+2,none⟩=some (.slice a1 n1 c1)/\w'.cell? ⟨b,o+i*6+3,none⟩=some (.int .i64 qq)/\w'.cell? ⟨b,o+i*6+4,none⟩=some (.int .i64 bb)/\w'.cell? ⟨b,o+i*6+5,none⟩=some (.slice a2 n2 c2)) (by kernel_rfl) ?_
   show anyK _ _ _ _ _ _ 12 #[false,false,false,false,false,false,false,false,false,false,false,false] _ _
   have hHeld:wr.drew.cell? ⟨H+2,2,none⟩=some (.slice av i cv)/\wr.drew.cell? ⟨H,2,none⟩=some (.slice (some ⟨b,o,none⟩) n cp)/\wr.drew.cell? ⟨b,o+i*6,none⟩=some (.int .i64 kd)/\wr.drew.cell? ⟨b,o+i*6+1,none⟩=some (.int .i64 kk')/\wr.drew.cell? ⟨b,o+i*6+2,none⟩=some (.slice a1 n1 c1)/\wr.drew.cell? ⟨b,o+i*6+3,none⟩=some (.int .i64 qq)/\wr.drew.cell? ⟨b,o+i*6+4,none⟩=some (.int .i64 bb)/\wr.drew.cell? ⟨b,o+i*6+5,none⟩=some (.slice a2 n2 c2):=⟨cell_ext v0 hE0d,cell_ext v2 hE0d,cell_ext e0 hE0d,cell_ext e1 hE0d,cell_ext e2 hE0d,cell_ext e3 hE0d,cell_ext e4 hE0d,cell_ext e5 hE0d⟩;refine kT 0 8 (v:=?_) rfl (Or.inl ⟨by rfl,?_⟩) hHeld ?_;rotate_left 1
   ·intro w hSw
    go_simp
    try with_reducible rfl
   show anyK _ _ _ _ _ _ _ _ (Act.put _ (some 17) _) _
   simp only [Act.put,sx0,sx1,sx2];refine kT 1 8 (v:=?_) rfl (Or.inl ⟨by rfl,?_⟩) hHeld ?_;rotate_left 1
   ·intro w hSw
    go_simp
    try with_reducible rfl
   show anyK _ _ _ _ _ _ _ _ (Act.put _ (some 18) _) _
   simp only [Act.put,sx0,sx1,sx2];refine kT 2 8 (v:=?_) rfl (Or.inl ⟨by rfl,?_⟩) hHeld ?_;rotate_left 1
   ·intro w hSw
    go_simp
    try with_reducible rfl
   show anyK _ _ _ _ _ _ _ _ (Act.put _ (some 19) _) _
   simp only [Act.put,sx0,sx1,sx2];refine kT 3 8 (v:=?_) rfl (Or.inl ⟨by rfl,?_⟩) hHeld ?_;rotate_left 1
   ·intro w hSw
    go_simp
    try with_reducible rfl
   show anyK _ _ _ _ _ _ _ _ (Act.put _ (some 20) _) _
   simp only [Act.put,sx0,sx1,sx2];refine kT 4 8 (v:=?_) rfl (Or.inl ⟨by rfl,?_⟩) hHeld ?_;rotate_left 1
   ·intro w hSw
    go_simp
    try with_reducible rfl
   show anyK _ _ _ _ _ _ _ _ (Act.put _ (some 21) _) _
   simp only [Act.put,sx0,sx1,sx2];refine kT 5 8 (v:=?_) rfl (Or.inl ⟨by rfl,?_⟩) hHeld ?_;rotate_left 1
   ·intro w hSw
    go_simp
    try with_reducible rfl
   show anyK _ _ _ _ _ _ _ _ (Act.put _ (some 22) _) _
   simp only [Act.put,sx0,sx1,sx2];refine kT 6 8 (v:=?_) rfl (Or.inl ⟨by rfl,?_⟩) hHeld ?_;rotate_left 1
   ·intro w hSw
    go_simp
    try with_reducible rfl
   show anyK _ _ _ _ _ _ _ _ (Act.put _ (some 23) _) _
   simp only [Act.put,sx0,sx1,sx2];clear hHeld;refine anyK_one (i:=7) (by kernel_rfl) rfl (fun Kk hKk=>?_)
   go_simp
   (go_at_call 22;refine (HCp.out _ hE0d).mono ?_;rintro e w4 ⟨⟨a3,c3,a5,c5,rfl,O4⟩,hx4⟩;have he4:Ext wr w4:=hE0d.trans hx4)
   go_wp2_with fail
   refine hKk.out _ _ (fun _=>⟨cell_ext v0 he4,cell_ext v2 he4,cell_ext e0 he4,cell_ext e1 he4,cell_ext e2 he4,cell_ext e3 he4,cell_ext e4 he4,cell_ext e5 he4⟩) ?_;clear hKk Kk;simp only [sx0,sx1,sx2];refine anyK_one (i:=8) (by kernel_rfl) rfl (fun Kk hKk=>?_)
   go_wp2_with fail
   refine hKk.out _ _ (fun _=>⟨cell_ext v0 (he4.trans (ext_al _ _)),cell_ext v2 (he4.trans (ext_al _ _)),cell_ext e0 (he4.trans (ext_al _ _)),cell_ext e1 (he4.trans (ext_al _ _)),cell_ext e2 (he4.trans (ext_al _ _)),cell_ext e3 (he4.trans (ext_al _ _)),cell_ext e4 (he4.trans (ext_al _ _)),cell_ext e5 (he4.trans (ext_al _ _))⟩) ?_;clear hKk Kk;simp only [sx0,sx1,sx2];obtain ⟨xs,ho,hzx⟩:=(Hown.out.ext he4);have ho5:=ho.alloc (.cells #[.int .i64 kd,.int .i64 kk',.slice a3 n1 c3,.int .i64 qq,.int .i64 bb,.slice a5 n2 c5] 60);obtain ⟨g,cap,w7,hrun,hown',hgrow',hcase,hglt⟩:=run_append_lies (P:=Tryz.prog) (w4.alloc (.cells #[.int .i64 kd,.int .i64 kk',.slice a3 n1 c3,.int .i64 qq,.int .i64 bb,.slice a5 n2 c5] 60)) 22 22 base 60 i0 (.agg #[.int .i64 0,.int .i64 0,.slice none 0 0,.int .i64 0,.int .i64 0,.slice none 0 0]) 6 80 Tryz.underlying22 hi hz0 hz1 hz2 rfl (by decide) (.slice av i cv) (ops.take i).length xs ho5 ⟨w4.heap.size,0,none⟩ 1 1 [.int .i64 kd,.int .i64 kk',.slice a3 n1 c3,.int .i64 qq,.int .i64 bb,.slice a5 n2 c5] rfl (new_op w4 _ _ _ _ _ _ _ _ _ _ _) (one_op _ _ _ _ _ _ _ _ _ _) (by omega) (by rw [List.length_take];unfold maxLen;omega) (by rw [List.length_take];omega) (by have:=he4.size;simp;omega) _ rfl
   have hli:(ops.take i).length=i:=by rw [List.length_take,Hl.out];omega
   rw [hli] at hrun;refine anyK_one (i:=9) (by kernel_rfl) rfl (fun Kk hKk=>?_);refine stepK_append rfl _ _ 22 rfl (.slice av i cv) (.slice (some ⟨w4.heap.size,0,none⟩) 1 1) _ rfl rfl hrun ?_;have hkind:=PtKind ho5
   have hk7:∀ (b':Nat) (cur:Array Value) (fr:Nat × Nat),(w4.alloc (.cells #[.int .i64 kd,.int .i64 kk',.slice a3 n1 c3,.int .i64 qq,.int .i64 bb,.slice a5 n2 c5] 60)).heap[b']?=some (.cells cur 3 fr)->w7.heap[b']?=(w4.alloc (.cells #[.int .i64 kd,.int .i64 kk',.slice a3 n1 c3,.int .i64 qq,.int .i64 bb,.slice a5 n2 c5] 60)).heap[b']?:=fun b' cur fr hb'=>by
    refine hgrow'.block b' (gS.1 hb').1 (fun e=>?_);obtain ⟨_,cs,fr',e2⟩:=hkind b' e.symm;rw [e2] at hb'
    cases hb'
   have O7:=(O4.ext (ext_al _ (.cells #[.int .i64 kd,.int .i64 kk',.slice a3 n1 c3,.int .i64 qq,.int .i64 bb,.slice a5 n2 c5] 60))).keep hgrow'.size hk7;have own7:=OpsO.snoc hown' ho.1 hzx (fun g a1 n1 c1 a2 n2 c2 h=>(h.ext (ext_al _ _)).keep hgrow'.size hk7) O7;rw [hli] at own7;clear hli;have bOut7:CiB w7 (H+2) qb bi av i cv:=⟨(hgrow'.block _ ((Hout.out.ext he4).ext (ext_al _ _)).lt (fun e=>by have:=(hkind _ e.symm).1;omega)).trans ((Hout.out.ext he4).ext (ext_al _ _)).row⟩;have x2':=bOut7.x2;have fz2:=bOut7.f 2;have hHeld:w7.cell? ⟨H+2,2,none⟩=some (.slice av i cv)/\w7.cell? ⟨H,2,none⟩=some (.slice (some ⟨b,o,none⟩) n cp)/\w7.cell? ⟨b,o+i*6,none⟩=some (.int .i64 kd)/\w7.cell? ⟨b,o+i*6+1,none⟩=some (.int .i64 kk')/\w7.cell? ⟨b,o+i*6+2,none⟩=some (.slice a1 n1 c1)/\w7.cell? ⟨b,o+i*6+3,none⟩=some (.int .i64 qq)/\w7.cell? ⟨b,o+i*6+4,none⟩=some (.int .i64 bb)/\w7.cell? ⟨b,o+i*6+5,none⟩=some (.slice a2 n2 c2):=⟨x2',(CiB_grown hgrow' hkind (HC.out.ext (he4.trans (ext_al _ _))) (by omega)).x2,cell_grown hgrow' hkind e0 ((he4.trans (ext_al _ _))) HbB.out,cell_grown hgrow' hkind e1 ((he4.trans (ext_al _ _))) HbB.out,cell_grown hgrow' hkind e2 ((he4.trans (ext_al _ _))) HbB.out,cell_grown hgrow' hkind e3 ((he4.trans (ext_al _ _))) HbB.out,cell_grown hgrow' hkind e4 ((he4.trans (ext_al _ _))) HbB.out,cell_grown hgrow' hkind e5 ((he4.trans (ext_al _ _))) HbB.out⟩;refine hKk.out _ _ (fun _=>hHeld) ?_;clear hKk Kk
   show anyK _ _ _ _ _ _ _ _ (Act.put _ (some 26) _) _
   simp only [Act.put,sx0,sx1,sx2];refine kT 10 8 (v:=?_) rfl (Or.inl ⟨by rfl,?_⟩) hHeld ?_;rotate_left 1
   ·intro w hSw
    go_simp
    try with_reducible rfl
   show anyK _ _ _ _ _ _ _ _ (Act.put _ (some 27) _) _
   simp only [Act.put,sx0,sx1,sx2];clear hHeld;refine anyK_one (i:=11) (by kernel_rfl) rfl (fun Kk hKk=>?_);refine stepK_store rfl rfl _ _ rfl (H+2) 2 (some ⟨g,0,none⟩) (i+1) cap (.slice av i cv) rfl rfl x2' fz2 ?_;refine hKk.out _ _ (fun h=>Bool.noConfusion (show true=false from h)) ?_;clear hKk Kk;simp only [sx0,sx1,sx2];refine anyK_done (by kernel_rfl) ?_ _;have bOut8:=bOut7.set2 (some ⟨g,0,none⟩) (i+1) cap;have hOo:=only1 w7 (H+2) 2 (.slice (some ⟨g,0,none⟩) (i+1) cap);have own8:=own7.only bOut7.row (by decide) hOo (by simp) (by omega);have bC8:CiB (w7.setCell ⟨H+2,2,none⟩ (.slice (some ⟨g,0,none⟩) (i+1) cap)) H qb bi (some ⟨b,o,none⟩) n cp:=⟨(hOo.block _ (by omega)).trans (CiB_grown hgrow' hkind (HC.out.ext (he4.trans (ext_al _ _))) (by omega)).row⟩;have bR8:CiB (w7.setCell ⟨H+2,2,none⟩ (.slice (some ⟨g,0,none⟩) (i+1) cap)) (H+1) 0 0 none 0 0:=⟨(hOo.block _ (by omega)).trans (CiB_grown hgrow' hkind (HR.out.ext (he4.trans (ext_al _ _))) (by omega)).row⟩;have hE8:Ext w (w7.setCell ⟨H+2,2,none⟩ (.slice (some ⟨g,0,none⟩) (i+1) cap)):=Below.setCell (grown_ext (HER.out.trans (he4.trans (ext_al _ _))) hgrow' (fun k hk=>by have:=(hkind k hk).1;have:=HhH.out;omega)) (p:=⟨H+2,2,none⟩) (show w.heap.size<=H+2 by have:=HhH.out;omega) _;have hops8:=Hops0.out.ext hE8;have HbC8:=Lh bC8;have HbR8:=Lh bR8;have HbO8:=Lh bOut8;have Hown8:=Lh own8;have HE8:=Lh hE8;have Hops8:=Lh hops8;have Hs8:Hid (base<=w7.heap.size):=Nat.le_trans (Nat.le_trans hbs (he4.trans (ext_al _ _)).size) hgrow'.size;clear bC8 bR8 bOut8 own8 hE8 hops8 own7 bOut7 O7 hk7 hkind hgrow' hown' hrun ho5 ho hzx O4 hx4 he4 hE0d v0 v2 e0 e1 e2 e3 e4 e5 x2' fz2
   go_wp2_with fail
   go_roundg (n-(i+1))
   case measure=>omega
   case rel=>exact ⟨i+1,some ⟨g,0,none⟩,cap,by go_num,by omega,rfl,HbC8.out,HbR8.out,HbO8.out,Hops8.out,by rw [Hst.out];exact Hown8.out,HE8.out,by simpa using Hs8.out⟩
theorem txV_sC (s:Nat->Nm) (n:Nat):sC (txL s n)=txV s n:=by
 unfold sC txL txV;rw [List.map_map]
 rfl
def QShA (w:World) (cs:Array Value) (n:Nat) (M:Sho):Prop:=∃ a ca bb,cs=#[.slice a n ca,.slice (some ⟨bb,0,none⟩) M.bits.length M.bits.length,.int .i64 (M.u:Int)]/\StrsAt w a n (txL M.s n)/\w.heap[bb]?=some (.cells (bC M.bits) 3 (0,0))
theorem QRun_any (c:Gci) (ao:Option Addr) (n cp:Nat) (x:Int) (ta:Option Addr) (tn tc:Nat) (want:List Int) (w:World) (h:OpsAt w ao n c.ops) (hn:n<=cp) (hcp:cp<=9223372036854775807) (hT:IntsAt w ta tn want) :
  Calls Tryz.prog 7 #[.agg #[.int .i64 c.qubits,.int .i64 c.bits,.slice ao n cp],.int .i64 x,.slice ta tn tc] w fun e w'=>∃ cs,e=.returned (.tuple #[.agg cs,.agg #[.int .i64 (shoF c x want).1,.int .i64 (shoF c x want).2]])/\Ext w w' /\
   ((shoF c x want).1=0->QShA w' cs (2 ^ c.qubits.toNat) (shoR c x want))/\((shoF c x want).1≠0->cs=noSh):=by
 obtain ⟨F,hF⟩:∃ F,shoF c x want=F:=⟨_,rfl⟩;obtain ⟨F0,F1⟩:=F;obtain ⟨M,hM⟩:∃ M,shoR c x want=M:=⟨_,rfl⟩
 have hq4:F0=0->2 ^ c.qubits.toNat<=4096:=by
  intro h0
  have h1:(chk c).1=0:=by
   unfold shoF stF at hF
   by_cases hc:(chk c).1=0
   ·exact hc
   ·rw [if_pos hc,if_pos hc] at hF
    exact absurd ((congrArg Prod.fst hF).trans h0) hc
  obtain ⟨_,_,h2,_⟩:=chk_zero h1;exact Nat.le_trans (Nat.pow_le_pow_right (by decide) (show c.qubits.toNat<=12 by omega)) (by decide)
 have hf1z:F0=0->F1=0:=by
  intro h0;unfold shoF at hF;rw [hM] at hF;have hplz:∀ (ops:List Gop) (i:Nat) (s:Nat->Nm) (bits:List Int) (u:Nat),(plM want ops i s bits u).f.1=0->(plM want ops i s bits u).f.2=0:=plM_zero want
  by_cases hc:(stF c x).1=0
  ·rw [if_neg (by simp [hc])] at hF
   have h1:=congrArg Prod.fst hF;have h2:=congrArg Prod.snd hF;rw [<-hM] at h1 h2;unfold shoR at h1 h2;have:=hplz _ _ _ _ _ (h1.trans h0);rw [this] at h2;exact h2.symm
  ·rw [if_pos hc] at hF
   exact absurd ((congrArg Prod.fst hF).trans h0) hc
 obtain ⟨m,hm⟩:∃ m,2 ^ c.qubits.toNat=m:=⟨_,rfl⟩;rw [hm] at hq4;obtain ⟨H,hH⟩:∃ H,w.heap.size=H:=⟨_,rfl⟩;obtain ⟨W,hW⟩:∃ W,((w.alloc (.cells #[.int .i64 c.qubits,.int .i64 c.bits,.slice ao n cp] 24)).alloc (.cells #[.slice none 0 0,.slice none 0 0,.int .i64 0] 29)).alloc (.cells #[.int .i64 0,.int .i64 0] 31)=W:=⟨_,rfl⟩
 have E0:Ext w W:=by rw [<-hW];exact ((ext_al w _).trans (ext_al _ _)).trans (ext_al _ _)
 have bCi:CiB W H c.qubits c.bits ao n cp:=by rw [<-hW,<-hH];exact CiB.ext (CiB.ext ⟨heap_alloc_new w _⟩ (ext_al _ _)) (ext_al _ _)
 have rS:W.heap[H+1]?=some (.cells #[.slice none 0 0,.slice none 0 0,.int .i64 0] 29 (0,0)):=by
  have h1:=heap_alloc_new (w.alloc (.cells #[.int .i64 c.qubits,.int .i64 c.bits,.slice ao n cp] 24)) (.cells #[.slice none 0 0,.slice none 0 0,.int .i64 0] 29);have h2:=((ext_al ((w.alloc (.cells #[.int .i64 c.qubits,.int .i64 c.bits,.slice ao n cp] 24)).alloc (.cells #[.slice none 0 0,.slice none 0 0,.int .i64 0] 29)) (.cells #[.int .i64 0,.int .i64 0] 31)).block _ (gS.1 h1).1).trans h1;rw [World.size_alloc] at h2;rw [<-hW,<-hH];exact h2
 have bF:FtB W (H+2) 0 0:=⟨by
  have h1:=heap_alloc_new ((w.alloc (.cells #[.int .i64 c.qubits,.int .i64 c.bits,.slice ao n cp] 24)).alloc (.cells #[.slice none 0 0,.slice none 0 0,.int .i64 0] 29)) (.cells #[.int .i64 0,.int .i64 0] 31);rw [World.size_alloc,World.size_alloc] at h1
  rw [<-hW,<-hH];exact h1⟩
 have m0:=bCi.x0;have m1:=bCi.x1;have m2:=bCi.x2;have HP:=Lh (QPlay_any c ao n cp x ta tn tc want W (h.ext E0) hn hcp (hT.ext E0));rw [hF,hM,hm] at HP;rw [hF,hM,hm];obtain ⟨qb,bi,ops⟩:=c;simp only at m0 m1 m2 HP hW ⊢;have HE0:=Lh E0;have HH:=Lh hH;have HW:=Lh hW;have HrS:=Lh rS;have HbF:=Lh bF;have Hq4:=Lh hq4;have Hf1z0:=Lh hf1z;have HwH:=Lh (show w.heap.size<=H by omega);clear h hT hF hM hm hH hW E0 bCi rS bF hq4 hf1z
 go_enter Tryz.func7,Tryz.ntmps7
 go_upto_region 1 with fail
 rw [HW.out,HH.out]
 go_wp2_with fail
 refine HP.out.mono ?_;rintro e w1 ⟨r0,r1,r2,rfl,hx1,hrun⟩;have Ef:=ext_al w1 (.cells #[.int .i64 F0,.int .i64 F1] 31);have bf1:FtB (w1.alloc (.cells #[.int .i64 F0,.int .i64 F1] 31)) w1.heap.size F0 F1:=⟨heap_alloc_new w1 _⟩;have q0:=bf1.x0;have q1:=bf1.x1;have HX1:=Lh (hx1.trans Ef);have HX0:=Lh hx1;have bz:=HbF.out.ext HX1.out;have x0':=bz.x0;have x1':=bz.x1;have g0':=bz.f 0;have g1':=bz.f 1;have rS:=(HX1.out.block _ (gS.1 HrS.out).1).trans HrS.out;have HrS1:=Lh rS;have Hbz:=Lh bz;have Hef:=Lh Ef
 have s0:(w1.alloc (.cells #[.int .i64 F0,.int .i64 F1] 31)).cell? ⟨H+1,0,none⟩=some (.slice none 0 0):=by rw [cell_of_row _ _ 0 _ _ (0,0) rS];rfl
 have s1:(w1.alloc (.cells #[.int .i64 F0,.int .i64 F1] 31)).cell? ⟨H+1,1,none⟩=some (.slice none 0 0):=by rw [cell_of_row _ _ 1 _ _ (0,0) rS];rfl
 have s2:(w1.alloc (.cells #[.int .i64 F0,.int .i64 F1] 31)).cell? ⟨H+1,2,none⟩=some (.int .i64 0):=by rw [cell_of_row _ _ 2 _ _ (0,0) rS];rfl
 have t0:=frozen_of_row _ (H+1) 0 _ _ rS;have t1:=frozen_of_row _ (H+1) 1 _ _ rS;have t2:=frozen_of_row _ (H+1) 2 _ _ rS;have HEz:=Lh (HE0.out.trans HX1.out);have Hrun:=Lh hrun;clear bz m0 m1 m2 hx1 Ef bf1 HP HH HW rS hrun
 by_cases hc0:F0=0
 ·have hcb:=nf' hc0
  obtain ⟨b,bb,rfl,rfl,rfl,hr⟩:=Hrun.out hc0;have Hq:=Lh (Hq4.out hc0);have Hr:=Lh (hr.ext' Hef.out);have Hf1z:F1=0:=Hf1z0.out hc0;subst hc0 Hf1z;clear hr Hrun Hf1z0
  go_upto_region 4 with fail
  clear s0 s1 s2 t0 t1 t2 x0' x1' g0' g1';have HFl:=Lh (show H+2<w1.heap.size by have:=HbF.out.lt;have:=HX0.out.size;omega);generalize w1.alloc (.cells #[.int .i64 0,.int .i64 0] 31)=W1 at *;generalize w1.heap.size=FB at *;have lF:=World.block_lt_of_cell? W1 ⟨FB,0,none⟩ q0;have HbF1:=Lh (Hef.out);have d0:Ext W1 W1.drew:=Below.drew (Ext.refl _);have HTx:=Lh (QTexts_any b m m M.s 8200 4100 W1.drew (Hr.out.st.ext d0) Hq.out (by decide) (by decide));obtain ⟨nb,hnb⟩:∃ nb,M.bits.length=nb:=⟨_,rfl⟩;obtain ⟨uu,huu⟩:∃ uu,M.u=uu:=⟨_,rfl⟩;rw [hnb,huu];have Hnb:=Lh hnb;have Huu:=Lh huu;clear hnb huu;refine wp_region_any (by kernel_rfl) (anyT_plain (k:=99) (S:=fun w'=>True) (T:=fun w'=>w'.cell? ⟨FB,0,none⟩=some (.int .i64 0)/\w'.cell? ⟨FB,1,none⟩=some (.int .i64 0)) _ _ _ _ ?_)
  show anyT _ _ _ _ _ _ _ 8 #[false,false,false,false,false,false,false,false] _ _
  have hT:W1.drew.cell? ⟨FB,0,none⟩=some (.int .i64 0)/\W1.drew.cell? ⟨FB,1,none⟩=some (.int .i64 0):=⟨cellKeep d0 lF q0,cellKeep d0 lF q1⟩;have hHeld:True:=trivial;refine tT 0 (v:=?_) rfl (Or.inl ⟨by rfl,?_⟩) hT (fun _=>hHeld) ?_;rotate_left 1
  ·intro w hSw
   go_simp
   try with_reducible rfl
  show anyT _ _ _ _ _ _ _ _ _ (Act.put _ (some 26) _) _
  simp only [Act.put,sx0,sx1,sx2];refine tT 2 (v:=?_) rfl (Or.inl ⟨by rfl,?_⟩) hT (fun _=>hHeld) ?_;rotate_left 1
  ·intro w hSw
   go_simp
   try with_reducible rfl
  show anyT _ _ _ _ _ _ _ _ _ (Act.put _ (some 28) _) _
  simp only [Act.put,sx0,sx1,sx2];refine tT 3 (v:=?_) rfl (Or.inl ⟨by rfl,?_⟩) hT (fun _=>hHeld) ?_;rotate_left 1
  ·intro w hSw
   go_simp
   try with_reducible rfl
  show anyT _ _ _ _ _ _ _ _ _ (Act.put _ (some 29) _) _
  simp only [Act.put,sx0,sx1,sx2];refine tT 5 (v:=?_) rfl (Or.inl ⟨by rfl,?_⟩) hT (fun _=>hHeld) ?_;rotate_left 1
  ·intro w hSw
   go_simp
   try with_reducible rfl
  show anyT _ _ _ _ _ _ _ _ _ (Act.put _ (some 31) _) _
  simp only [Act.put,sx0,sx1,sx2];clear hT hHeld;refine anyT_one (i:=1) (by kernel_rfl) rfl (fun Kk hKk=>?_)
  go_simp
  (go_at_call 25;refine HTx.out.mono ?_;rintro e w2 ⟨tv,rfl,hov,hx2⟩)
  have he:=d0.trans hx2;obtain ⟨a,ca,rfl,_,_,_⟩:=strs_of_own (txV_sC M.s m ▸ hov)
  go_wp2_with fail
  refine hKk.out _ _ (⟨cellKeep he lF q0,cellKeep he lF q1⟩) (fun _=>trivial) ?_;clear hKk Kk;simp only [sx0,sx1,sx2];have hT:w2.cell? ⟨FB,0,none⟩=some (.int .i64 0)/\w2.cell? ⟨FB,1,none⟩=some (.int .i64 0):=⟨cellKeep he lF q0,cellKeep he lF q1⟩;have hHeld:True:=trivial;refine tT 4 (v:=?_) rfl (Or.inl ⟨by rfl,?_⟩) hT (fun _=>hHeld) ?_;rotate_left 1
  ·intro w hSw
   go_simp
   try with_reducible rfl
  show anyT _ _ _ _ _ _ _ _ _ (Act.put _ (some 30) _) _
  simp only [Act.put,sx0,sx1,sx2];clear hT hHeld;have r6:=(he.block _ (gS.1 HrS1.out).1).trans HrS1.out;have r7:=(he.block _ (gS.1 Hbz.out.row).1).trans Hbz.out.row;have rb:=(he.block _ (gS.1 Hr.out.bit).1).trans Hr.out.bit;have o6:=setRow_only w2 (H+1) #[.slice a m ca,.slice (some ⟨bb,0,none⟩) nb nb,.int .i64 (uu:Int)];have k6:=setRow_heap w2 (H+1) _ #[.slice a m ca,.slice (some ⟨bb,0,none⟩) nb nb,.int .i64 (uu:Int)] _ _ r6;have o7:=setRow_only (w2.setRow (H+1) #[.slice a m ca,.slice (some ⟨bb,0,none⟩) nb nb,.int .i64 (uu:Int)]) (H+2) #[.int .i64 0,.int .i64 0];have r7':=(o6.block (H+2) (by omega)).trans r7;have k7:=setRow_heap (w2.setRow (H+1) #[.slice a m ca,.slice (some ⟨bb,0,none⟩) nb nb,.int .i64 (uu:Int)]) (H+2) _ #[.int .i64 0,.int .i64 0] _ _ r7';have k6':=(o7.block (H+1) (by omega)).trans k6;have nF:=HFl.out
  have n1:bb≠H+1/\bb≠H+2:=by
   refine ⟨?_,?_⟩
   ·rintro rfl;rw [rb] at r6;injection r6 with r6;injection r6 with _ r6 _;exact absurd r6 (by decide)
   ·rintro rfl;rw [rb] at r7;injection r7 with r7;injection r7 with _ r7 _;exact absurd r7 (by decide)
  have kb:=(o7.block bb n1.2).trans ((o6.block bb n1.1).trans rb)
  have hov9:((w2.setRow (H+1) #[.slice a m ca,.slice (some ⟨bb,0,none⟩) nb nb,.int .i64 (uu:Int)]).setRow (H+2) #[.int .i64 0,.int .i64 0]).ownsRow W1.drew.heap.size 9 1 (.slice a m ca) m (sC (txL M.s m)):=by
   rw [txV_sC];refine own_keep hov (fun g cur hg _=>?_);have e3:=d0.size;exact (o7.block g (by omega)).trans (o6.block g (by omega))
  obtain ⟨a',ca',ea,_,_,hst⟩:=strs_of_own hov9;injection ea with ea1 _ ea3;subst ea1 ea3;have f2:(w2.cell? ⟨FB,0,none⟩=some (.int .i64 0))/\w2.cell? ⟨FB,1,none⟩=some (.int .i64 0):=⟨cellKeep he lF q0,cellKeep he lF q1⟩;have tS1:(w2.setRow (H+1) #[.slice a m ca,.slice (some ⟨bb,0,none⟩) nb nb,.int .i64 (uu:Int)]).cell? ⟨FB,0,none⟩=some (.int .i64 0)/\(w2.setRow (H+1) #[.slice a m ca,.slice (some ⟨bb,0,none⟩) nb nb,.int .i64 (uu:Int)]).cell? ⟨FB,1,none⟩=some (.int .i64 0):=⟨(World.cell?_of_block (a:=⟨FB,0,none⟩) (o6.block FB (by omega))).trans f2.1,(World.cell?_of_block (a:=⟨FB,1,none⟩) (o6.block FB (by omega))).trans f2.2⟩;have tS2:((w2.setRow (H+1) #[.slice a m ca,.slice (some ⟨bb,0,none⟩) nb nb,.int .i64 (uu:Int)]).setRow (H+2) #[.int .i64 0,.int .i64 0]).cell? ⟨FB,0,none⟩=some (.int .i64 0)/\((w2.setRow (H+1) #[.slice a m ca,.slice (some ⟨bb,0,none⟩) nb nb,.int .i64 (uu:Int)]).setRow (H+2) #[.int .i64 0,.int .i64 0]).cell? ⟨FB,1,none⟩=some (.int .i64 0):=⟨(World.cell?_of_block (a:=⟨FB,0,none⟩) (o7.block FB (by omega))).trans tS1.1,(World.cell?_of_block (a:=⟨FB,1,none⟩) (o7.block FB (by omega))).trans tS1.2⟩
  have hE9:Ext w ((w2.setRow (H+1) #[.slice a m ca,.slice (some ⟨bb,0,none⟩) nb nb,.int .i64 (uu:Int)]).setRow (H+2) #[.int .i64 0,.int .i64 0]):=by
   have a1:=(HEz.out.trans he);have a2:=HwH.out;refine ⟨o7.os.trans (o6.os.trans a1.os),o7.tape.trans (o6.tape.trans a1.tape),o7.output.trans (o6.output.trans a1.output),by rw [o7.size,o6.size];exact a1.size,fun k hk=>?_⟩;exact (o7.block k (by omega)).trans ((o6.block k (by omega)).trans (a1.block k hk))
  have Hend:=Lh (show QShA ((w2.setRow (H+1) #[.slice a m ca,.slice (some ⟨bb,0,none⟩) nb nb,.int .i64 (uu:Int)]).setRow (H+2) #[.int .i64 0,.int .i64 0]) #[.slice a m ca,.slice (some ⟨bb,0,none⟩) nb nb,.int .i64 (uu:Int)] m M from ⟨a,ca,bb,by rw [Hnb.out,Huu.out],hst,kb⟩);have HE9:=Lh hE9;clear hov hov9 hst;refine anyT_one (i:=6) (by kernel_rfl) rfl (fun Kk hKk=>?_);refine stepK_storeR rfl rfl 29 _ _ rfl (H+1) #[.slice a m ca,.slice (some ⟨bb,0,none⟩) nb nb,.int .i64 (uu:Int)] rfl rfl 29 _ r6 shot_info rfl (by simp [Value.oneCell']) ?_;refine hKk.out _ _ tS1 (fun _=>trivial) ?_;clear hKk Kk;refine anyT_one (i:=7) (by kernel_rfl) rfl (fun Kk hKk=>?_);refine stepK_storeR rfl rfl 31 _ _ rfl (H+2) #[.int .i64 0,.int .i64 0] rfl rfl 31 _ r7' fault_info rfl (fault_one _ _) ?_;refine hKk.out _ _ tS2 (fun _=>trivial) ?_;clear hKk Kk;refine anyT_done (by kernel_rfl) ?_ _;generalize (w2.setRow (H+1) #[.slice a m ca,.slice (some ⟨bb,0,none⟩) nb nb,.int .i64 (uu:Int)]).setRow (H+2) #[.int .i64 0,.int .i64 0]=W9 at *
  have z0:W9.cell? ⟨H+1,0,none⟩=some (.slice a m ca):=by rw [cell_of_row _ _ 0 _ _ (0,0) k6'];rfl
  have z1:W9.cell? ⟨H+1,1,none⟩=some (.slice (some ⟨bb,0,none⟩) nb nb):=by rw [cell_of_row _ _ 1 _ _ (0,0) k6'];rfl
  have z2:W9.cell? ⟨H+1,2,none⟩=some (.int .i64 (uu:Int)):=by rw [cell_of_row _ _ 2 _ _ (0,0) k6'];rfl
  have z3:W9.cell? ⟨H+2,0,none⟩=some (.int .i64 0):=by rw [cell_of_row _ _ 0 _ _ (0,0) k7];rfl
  have z4:W9.cell? ⟨H+2,1,none⟩=some (.int .i64 0):=by rw [cell_of_row _ _ 1 _ _ (0,0) k7];rfl
  clear r6 r7 rb o6 k6 o7 r7' k7 k6' n1 kb tS1 tS2 hE9 he hx2 f2 d0 lF q0 q1 nF
  go_wp2_with fail
  exact bodyPost_ret (v:=.tuple #[.agg #[.slice a m ca,.slice (some ⟨bb,0,none⟩) nb nb,.int .i64 (uu:Int)],.agg #[.int .i64 0,.int .i64 0]]) (by simp [results,Tryz.results7,go_sem,z0,z1,z2,z3,z4]) rfl ⟨_,rfl,HE9.out,Hend.out⟩
 ·have hcb:=nt hc0
  have Hc0:=Lh hc0;have e1:=(gS.1 HrS.out).1;have e2:=HbF.out.lt;have e3:=HX0.out.size
  have ne1:H+1≠w1.heap.size:=by omega
  have ne2:H+2≠w1.heap.size:=by omega
  have ne3:w1.heap.size≠H+1:=by omega
  have ne4:w1.heap.size≠H+2:=by omega
  clear hc0 Hrun Hq4 e1 e2 e3
  go_upto_region 3 with fail
  go_region
  go_wp2_with fail
  refine bodyPost_ret (v:=.tuple #[.agg noSh,.agg #[.int .i64 F0,.int .i64 F1]]) (by simp [results,Tryz.results7,go_sem,s0,s1,s2,x0',x1',noSh]) rfl ⟨noSh,rfl,?_,fun h=>absurd h Hc0.out,fun _=>rfl⟩;have:=HwH.out;refine Below.drew ?_;exact Ext.put (Ext.put (Ext.put (Ext.put (Ext.put HEz.out (by omega) _) (by omega) _) (by omega) _) (by omega) _) (by omega) _
def smallC:Gci:=⟨2,1,[⟨3,0,[],0,0,[]⟩,⟨2,0,[0],1,0,[]⟩,⟨5,0,[],1,0,[-1]⟩]⟩
theorem smallC_chk:chk smallC=(0,0):=by decide
theorem small_any (w:World):Calls Tryz.prog 26 #[] w fun e w'=>(∃ ao,e=.returned (.agg #[.int .i64 2,.int .i64 1,.slice ao 3 3])/\OpsAt w' ao 3 smallC.ops)/\Ext w w':=by
 go_enter Tryz.func26,Tryz.ntmps26
 go_wp2_with fail
 obtain ⟨A1,hA1⟩:∃ A1,w.alloc (.cells #[.int .i64 2,.int .i64 1,.slice (some ⟨w.heap.size+1+1+1,0,none⟩) 3 3] 24)=A1:=⟨_,rfl⟩;rw [hA1];obtain ⟨A2,hA2⟩:∃ A2,A1.alloc (.cells #[.int .i64 0] 3)=A2:=⟨_,rfl⟩;rw [hA2];obtain ⟨A3,hA3⟩:∃ A3,A2.alloc (.cells #[.int .i64 (-1)] 3)=A3:=⟨_,rfl⟩;rw [hA3];obtain ⟨A4,hA4⟩:∃ A4,A3.alloc (.cells #[.int .i64 3,.int .i64 0,.slice none 0 0,.int .i64 0,.int .i64 0,.slice none 0 0,.int .i64 2,.int .i64 0,.slice (some ⟨w.heap.size+1,0,none⟩) 1 1,.int .i64 1,.int .i64 0,.slice none 0 0,.int .i64 5,.int .i64 0,.slice none 0 0,.int .i64 1,.int .i64 0,.slice (some ⟨w.heap.size+1+1,0,none⟩) 1 1] 60)=A4:=⟨_,rfl⟩;rw [hA4]
 have s1:A1.heap.size=w.heap.size+1:=by rw [<-hA1];simp
 have s2:A2.heap.size=w.heap.size+1+1:=by rw [<-hA2];simp [s1]
 have s3:A3.heap.size=w.heap.size+1+1+1:=by rw [<-hA3];simp [s2]
 have x1:Ext w A1:=by rw [<-hA1];exact ext_al _ _
 have x2:Ext A1 A2:=by rw [<-hA2];exact ext_al _ _
 have x3:Ext A2 A3:=by rw [<-hA3];exact ext_al _ _
 have x4:Ext A3 A4:=by rw [<-hA4];exact ext_al _ _
 have r1:A1.heap[w.heap.size]?=some (.cells #[.int .i64 2,.int .i64 1,.slice (some ⟨w.heap.size+1+1+1,0,none⟩) 3 3] 24 (0,0)):=by rw [<-hA1];exact heap_alloc_new w _
 have r2:A2.heap[w.heap.size+1]?=some (.cells #[.int .i64 0] 3 (0,0)):=by rw [<-hA2,<-s1];exact heap_alloc_new A1 _
 have r3:A3.heap[w.heap.size+1+1]?=some (.cells #[.int .i64 (-1)] 3 (0,0)):=by rw [<-hA3,<-s2];exact heap_alloc_new A2 _
 have r4:A4.heap[w.heap.size+1+1+1]?=some (.cells #[.int .i64 3,.int .i64 0,.slice none 0 0,.int .i64 0,.int .i64 0,.slice none 0 0,.int .i64 2,.int .i64 0,.slice (some ⟨w.heap.size+1,0,none⟩) 1 1,.int .i64 1,.int .i64 0,.slice none 0 0,.int .i64 5,.int .i64 0,.slice none 0 0,.int .i64 1,.int .i64 0,.slice (some ⟨w.heap.size+1+1,0,none⟩) 1 1] 60 (0,0)):=by rw [<-hA4,<-s3];exact heap_alloc_new A3 _
 have r3':=(x4.block _ (gS.1 r3).1).trans r3;have x34:=x3.trans x4;have r2':=(x34.block _ (gS.1 r2).1).trans r2;have x24:=x2.trans x34;have r1':=(x24.block _ (gS.1 r1).1).trans r1;have E:=x1.trans x24;clear hA1 hA2 hA3 hA4 s1 s2 s3 x1 x2 x3 x4 x34 x24 r1 r2 r3
 have c0:A4.cell? ⟨w.heap.size,0,none⟩=some (.int .i64 2):=by rw [cell_of_row A4 _ 0 _ _ (0,0) r1'];rfl
 have c1:A4.cell? ⟨w.heap.size,1,none⟩=some (.int .i64 1):=by rw [cell_of_row A4 _ 1 _ _ (0,0) r1'];rfl
 have c2:A4.cell? ⟨w.heap.size,2,none⟩=some (.slice (some ⟨w.heap.size+1+1+1,0,none⟩) 3 3):=by rw [cell_of_row A4 _ 2 _ _ (0,0) r1'];rfl
 have l2:=(gS.1 r2').1;have l3:=(gS.1 r3').1;have l4:=(gS.1 r4).1;have I0:IntsAt A4 none 0 []:=⟨rfl,Or.inl rfl⟩
 have I1:IntsAt A4 (some ⟨w.heap.size+1,0,none⟩) 1 [0]:=by
  refine ⟨rfl,Or.inr ⟨_,_,rfl,l2,fun t ht=>?_⟩⟩
  obtain rfl:t=0:=by omega
  rw [cell_of_row A4 _ _ _ _ (0,0) r2'];rfl
 have I2:IntsAt A4 (some ⟨w.heap.size+1+1,0,none⟩) 1 [-1]:=by
  refine ⟨rfl,Or.inr ⟨_,_,rfl,l3,fun t ht=>?_⟩⟩
  obtain rfl:t=0:=by omega
  rw [cell_of_row A4 _ _ _ _ (0,0) r3'];rfl
 refine bodyPost_ret (v:=.agg #[.int .i64 2,.int .i64 1,.slice (some ⟨w.heap.size+1+1+1,0,none⟩) 3 3]) (by simp [results,Tryz.results26,go_sem,c0,c1,c2]) rfl ⟨⟨_,rfl,rfl,Or.inr ⟨_,_,rfl,l4,?_⟩⟩,E⟩;intro t g hg
 have ht:t=0\/t=1\/t=2:=by
  have:t<smallC.ops.length:=(List.getElem?_eq_some_iff.1 hg).1;have:smallC.ops.length=3:=rfl;omega
 rcases ht with rfl | rfl | rfl
 ·have:g=⟨3,0,[],0,0,[]⟩:=by simpa [smallC] using hg.symm
  subst this
  refine ⟨none,0,0,none,0,0,?_,?_,?_,?_,?_,?_,⟨I0,by omega,by omega,I0,by omega,by omega⟩⟩<;>(rw [cell_of_row A4 _ _ _ _ (0,0) r4];rfl)
 ·have:g=⟨2,0,[0],1,0,[]⟩:=by simpa [smallC] using hg.symm
  subst this
  refine ⟨_,1,1,none,0,0,?_,?_,?_,?_,?_,?_,⟨I1,by omega,by omega,I0,by omega,by omega⟩⟩<;>(rw [cell_of_row A4 _ _ _ _ (0,0) r4];rfl)
 ·have:g=⟨5,0,[],1,0,[-1]⟩:=by simpa [smallC] using hg.symm
  subst this
  refine ⟨none,0,0,_,1,1,?_,?_,?_,?_,?_,?_,⟨I0,by omega,by omega,I2,by omega,by omega⟩⟩<;>(rw [cell_of_row A4 _ _ _ _ (0,0) r4];rfl)
theorem eq_rt1:EqN nRt (nHf (nAdd nZ nOne)):=fun k=>by
 simp only [nRt,nHf,nAdd,nZ,nOne,addR,trR]
 simp
theorem eq_rt2:EqN nRt (nHf (nAdd nOne nZ)):=fun k=>by
 simp only [nRt,nHf,nAdd,nZ,nOne,addR,trR]
 simp
theorem small_is:shoR smallC 0 [1]=⟨(0,0),oc 1 1 (gt ⟨2,0,[0],1,0,[]⟩ (gt ⟨3,0,[],0,0,[]⟩ (bas 0))),[1],1⟩:=by
 show plM [1] [⟨3,0,[],0,0,[]⟩,⟨2,0,[0],1,0,[]⟩,⟨5,0,[],1,0,[-1]⟩] 0 (bas 0) [0] 0=_
 rw [plM_gate rfl (by decide),plM_gate rfl (by decide),plM_bit (v:=1) (by decide) rfl (by decide) rfl (Or.inr rfl)]
 rfl
theorem small_f:shoF smallC 0 [1]=(0,0):=by
 unfold shoF;rw [small_is]
 have:stF smallC 0=(0,0):=by
  unfold stF;rw [smallC_chk]
  decide
 rw [this]
 rfl
theorem h_at (x:Nat) (hx:x<4):gt ⟨3,0,[],0,0,[]⟩ (bas 0) x=if x<2 then nRt else nZ:=by
 unfold gt;simp only [ons,List.all_nil,if_true,show ¬ ((3:Int)=1) by decide,show ¬ ((3:Int)=4) by decide,show ¬ ((3:Int)=2) by decide,if_false]
 have e:x=0\/x=1\/x=2\/x=3:=by omega
 rcases e with rfl | rfl | rfl | rfl
 ·show lw (nHf (nAdd nZ nOne))=nRt
  exact (lw_one low_rt eq_rt1).symm
 ·show lw (nHf (nAdd nOne (nNeg nZ)))=nRt
  rw [neg_z];exact (lw_one low_rt eq_rt2).symm
 ·show lw (nHf (nAdd nZ nZ))=nZ
  exact lw_z hf_z
 ·show lw (nHf (nAdd nZ (nNeg nZ)))=nZ
  rw [neg_z];exact lw_z hf_z
theorem small_s (x:Nat) (hx:x<4):oc 1 1 (gt ⟨2,0,[0],1,0,[]⟩ (gt ⟨3,0,[],0,0,[]⟩ (bas 0))) x=if x=3 then nRt else nZ:=by
 have e:x=0\/x=1\/x=2\/x=3:=by omega
 rcases e with rfl | rfl | rfl | rfl
 ·rfl
 ·rfl
 ·show gt ⟨3,0,[],0,0,[]⟩ (bas 0) 2=nZ
  rw [h_at 2 (by decide)];rfl
 ·show gt ⟨3,0,[],0,0,[]⟩ (bas 0) 1=nRt
  rw [h_at 1 (by decide)];rfl
theorem small_txt:txL (oc 1 1 (gt ⟨2,0,[0],1,0,[]⟩ (gt ⟨3,0,[],0,0,[]⟩ (bas 0)))) 4=[[48],[48],[48],[48,44,48,44,49,44,48,44,48,44,48,44,45,49,47,49]]:=by
 rw [txL_congr (t:=fun x=>if x=3 then nRt else nZ) (fun x hx=>small_s x hx)]
 show [rtx (nmF nZ),rtx (nmF nZ),rtx (nmF nZ),rtx (nmF nRt)]=_
 rw [tx_zero,rtx_rt]
theorem sameShot_any (l:List (List UInt8)) (bits:List Int) (u:Int) (a1:Option Addr) (n c1:Nat) (a2:Option Addr) (c2:Nat) (b1:Option Addr) (m d1:Nat) (b2:Option Addr) (d2:Nat) (w:World) (h1:StrsAt w a1 n l) (h2:StrsAt w a2 n l) (hn:n<=4096) (i1:IntsAt w b1 m bits) (i2:IntsAt w b2 m bits) (hm:m<=d1) (hm1:d1<=9223372036854775807) :
  Calls Tryz.prog 9 #[.agg #[.slice a1 n c1,.slice b1 m d1,.int .i64 u],.agg #[.slice a2 n c2,.slice b2 m d2,.int .i64 u]] w fun e w'=>e=.returned (.bool true)/\Ext w w':=by
 obtain ⟨H,hH⟩:∃ H,w.heap.size=H:=⟨_,rfl⟩;obtain ⟨W,hW⟩:∃ W,(w.alloc (.cells #[.slice a1 n c1,.slice b1 m d1,.int .i64 u] 29)).alloc (.cells #[.slice a2 n c2,.slice b2 m d2,.int .i64 u] 29)=W:=⟨_,rfl⟩
 have E0:Ext w W:=by rw [<-hW];exact (ext_al w _).trans (ext_al _ _)
 have r1:W.heap[H]?=some (.cells #[.slice a1 n c1,.slice b1 m d1,.int .i64 u] 29 (0,0)):=by
  rw [<-hW,<-hH];exact ((ext_al _ _).block _ (gS.1 (heap_alloc_new w (.cells #[.slice a1 n c1,.slice b1 m d1,.int .i64 u] 29))).1).trans (heap_alloc_new w _)
 have r2:W.heap[H+1]?=some (.cells #[.slice a2 n c2,.slice b2 m d2,.int .i64 u] 29 (0,0)):=by
  have h1:=heap_alloc_new (w.alloc (.cells #[.slice a1 n c1,.slice b1 m d1,.int .i64 u] 29)) (.cells #[.slice a2 n c2,.slice b2 m d2,.int .i64 u] 29);rw [World.size_alloc] at h1;rw [<-hW,<-hH];exact h1
 have c:∀ wx,Ext W wx->((wx.cell? ⟨H,0,none⟩=some (.slice a1 n c1)/\wx.cell? ⟨H,1,none⟩=some (.slice b1 m d1))/\wx.cell? ⟨H,2,none⟩=some (.int .i64 u))/\(wx.cell? ⟨H+1,0,none⟩=some (.slice a2 n c2)/\wx.cell? ⟨H+1,1,none⟩=some (.slice b2 m d2))/\wx.cell? ⟨H+1,2,none⟩=some (.int .i64 u):=fun wx hx=>by
  have k1:=(hx.block _ (gS.1 r1).1).trans r1;have k2:=(hx.block _ (gS.1 r2).1).trans r2;exact ⟨⟨⟨by rw [cell_of_row _ _ 0 _ _ (0,0) k1];rfl,by rw [cell_of_row _ _ 1 _ _ (0,0) k1];rfl⟩,by rw [cell_of_row _ _ 2 _ _ (0,0) k1];rfl⟩,⟨by rw [cell_of_row _ _ 0 _ _ (0,0) k2];rfl,by rw [cell_of_row _ _ 1 _ _ (0,0) k2];rfl⟩,by rw [cell_of_row _ _ 2 _ _ (0,0) k2];rfl⟩
 have Hc:=Lh c;have HS:=Lh (sameTexts_any l a1 n c1 a2 c2 W (h1.ext E0) (h2.ext E0) hn);have HI:=Lh (fun (wx:World) (hx:Ext W wx)=>sameInts_any bits b1 m d1 b2 d2 wx (i1.ext (E0.trans hx)) (i2.ext (E0.trans hx)) hm hm1);have HE0:=Lh E0;have HW:=Lh hW;have HH:=Lh hH;obtain ⟨⟨⟨k0,k1⟩,k2⟩,⟨k3,k4⟩,k5⟩:=c W (Ext.refl _);clear c r1 r2 E0 hW hH h1 h2 i1 i2 hn hm hm1
 go_enter Tryz.func9,Tryz.ntmps9
 go_upto_region 1 with fail
 rw [HW.out,HH.out]
 go_wp2_with fail
 refine HS.out.mono ?_;rintro e w1 ⟨rfl,hx1⟩;have HX1:=Lh hx1;clear k0 k1 k2 k3 k4 k5;obtain ⟨⟨⟨k0,k1⟩,k2⟩,⟨k3,k4⟩,k5⟩:=Hc.out w1 hx1;clear hx1 k0 k3
 go_wp2_with fail
 refine (HI.out w1 HX1.out).mono ?_;rintro e w2 ⟨rfl,hx2⟩;have HX2:=Lh (HX1.out.trans hx2);clear k1 k2 k4 k5 hx2;obtain ⟨⟨⟨k0,k1⟩,k2⟩,⟨k3,k4⟩,k5⟩:=Hc.out w2 HX2.out;clear k0 k1 k3 k4;have HEnd:=Lh (HE0.out.trans HX2.out)
 go_wp2_with fail
 go_ret
 exact ⟨rfl,HEnd.out⟩
theorem stateBegun_any (w:World) (hS:Shp w) (hbr:Bru w) (hT:Ten w) :
  Calls Tryz.prog 8 #[] w fun e w'=>e=.returned (.bool true)/\Ext w w':=by
 have HS:=Lh hS;have HB:=Lh hbr;have HT:=Lh hT;clear hS hbr hT
 go_enter Tryz.func8,Tryz.ntmps8
 go_wp2_with fail
 refine (small_any w).mono ?_;rintro e w1 ⟨⟨ao,rfl,hO⟩,hx1⟩;have E2:=ext_alloc w1 (.cells #[.int .i64 1] 3);have HI1:=Lh (ints_one w1 1);have HO:=Lh (hO.ext E2);have HX2:=Lh (hx1.trans E2);clear hO hx1 E2
 go_wp2_with fail
 generalize w1.alloc (.cells #[.int .i64 1] 3)=W2 at *;have HR:=Lh (Run_any smallC ao 3 3 0 (some ⟨w1.heap.size,0,none⟩) 1 1 [1] W2 HO.out (by decide) (by decide) HI1.out (HS.out.ext HX2.out) (bru_ext HB.out HX2.out) (tab_ext HT.out HX2.out));rw [small_f,small_is,show 2 ^ smallC.qubits.toNat=4 from rfl] at HR;refine HR.out.mono ?_;rintro e w3 ⟨cs,rfl,hx3,hsh,_⟩;obtain ⟨g,bb,rfl,hg,hb⟩:=hsh rfl;clear hsh
 go_upto_region 2 with fail
 obtain ⟨U,hU⟩:∃ U,(w3.alloc (.cells #[.slice (some ⟨g,0,none⟩) 4 4,.slice (some ⟨bb,0,none⟩) 1 1,.int .i64 1] 29)).alloc (.cells #[.int .i64 0,.int .i64 0] 31)=U:=⟨_,rfl⟩
 have EU:Ext w3 U:=by rw [<-hU];exact (ext_al _ _).trans (ext_al _ _)
 have r1:U.heap[w3.heap.size]?=some (.cells #[.slice (some ⟨g,0,none⟩) 4 4,.slice (some ⟨bb,0,none⟩) 1 1,.int .i64 1] 29 (0,0)):=by
  rw [<-hU];exact ((ext_al _ _).block _ (gS.1 (heap_alloc_new w3 (.cells #[.slice (some ⟨g,0,none⟩) 4 4,.slice (some ⟨bb,0,none⟩) 1 1,.int .i64 1] 29))).1).trans (heap_alloc_new w3 _)
 have r2:U.heap[w3.heap.size+1]?=some (.cells #[.int .i64 0,.int .i64 0] 31 (0,0)):=by
  have h1:=heap_alloc_new (w3.alloc (.cells #[.slice (some ⟨g,0,none⟩) 4 4,.slice (some ⟨bb,0,none⟩) 1 1,.int .i64 1] 29)) (.cells #[.int .i64 0,.int .i64 0] 31);rw [World.size_alloc] at h1;rw [<-hU];exact h1
 rw [hU]
 have k0:U.cell? ⟨w3.heap.size,0,none⟩=some (.slice (some ⟨g,0,none⟩) 4 4):=by rw [cell_of_row _ _ 0 _ _ (0,0) r1];rfl
 have k1:U.cell? ⟨w3.heap.size,1,none⟩=some (.slice (some ⟨bb,0,none⟩) 1 1):=by rw [cell_of_row _ _ 1 _ _ (0,0) r1];rfl
 have k2:U.cell? ⟨w3.heap.size,2,none⟩=some (.int .i64 1):=by rw [cell_of_row _ _ 2 _ _ (0,0) r1];rfl
 have k3:U.cell? ⟨w3.heap.size+1,0,none⟩=some (.int .i64 0):=by rw [cell_of_row _ _ 0 _ _ (0,0) r2];rfl
 have HEU:=Lh (HX2.out.trans (hx3.trans EU));have Hg:=Lh (show TxR U g 4 _ from TxR.ext hg EU);have Hb:=Lh ((EU.block bb (gS.1 hb).1).trans hb);generalize w3.heap.size=D at *;clear hU EU r1 r2 hg hb hx3 HR HO HI1;have E3:=ext_alloc U (.cells #[.string ⟨#[48]⟩,.string ⟨#[48]⟩,.string ⟨#[48]⟩,.string ⟨#[48,44,48,44,49,44,48,44,48,44,48,44,45,49,47,49]⟩] 9);have r5:=heap_alloc_new U (.cells #[.string ⟨#[48]⟩,.string ⟨#[48]⟩,.string ⟨#[48]⟩,.string ⟨#[48,44,48,44,49,44,48,44,48,44,48,44,45,49,47,49]⟩] 9);obtain ⟨U3,hU3⟩:∃ U3,U.alloc (.cells #[.string ⟨#[48]⟩,.string ⟨#[48]⟩,.string ⟨#[48]⟩,.string ⟨#[48,44,48,44,49,44,48,44,48,44,48,44,45,49,47,49]⟩] 9)=U3:=⟨_,rfl⟩;rw [hU3] at E3 r5;have E4:=ext_alloc U3 (.cells #[.int .i64 1] 3);have I4:=ints_one U3 1;have r5':=(E4.block _ (gS.1 r5).1).trans r5
 have S2:StrsAt (U3.alloc (.cells #[.int .i64 1] 3)) (some ⟨U.heap.size,0,none⟩) 4 [[48],[48],[48],[48,44,48,44,49,44,48,44,48,44,48,44,45,49,47,49]]:=by
  refine ⟨rfl,Or.inr ⟨_,_,rfl,(gS.1 r5').1,fun t ht=>?_⟩⟩;rw [cell_of_row _ _ _ _ _ (0,0) r5']
  have e:t=0\/t=1\/t=2\/t=3:=by omega
  rcases e with rfl | rfl | rfl | rfl<;>rfl
 have S1:=(TxR.ext Hg.out (E3.trans E4)).strs;rw [small_txt] at S1;have b4:=((E3.trans E4).block bb (gS.1 Hb.out).1).trans Hb.out
 have I1:IntsAt (U3.alloc (.cells #[.int .i64 1] 3)) (some ⟨bb,0,none⟩) 1 [1]:=by
  refine ⟨rfl,Or.inr ⟨_,_,rfl,(gS.1 b4).1,fun t ht=>?_⟩⟩
  obtain rfl:t=0:=by omega
  rw [cell_of_row _ _ _ _ _ (0,0) b4]
  rfl
 have HSh:=Lh (sameShot_any _ [1] 1 _ 4 4 _ 4 _ 1 1 _ 1 _ S1 S2 (by decide) I1 I4 (by decide) (by decide));have HE4:=Lh (HEU.out.trans (E3.trans E4));have HU3:=Lh hU3
 have sz:U3.heap.size=U.heap.size+1:=by rw [<-hU3];simp
 rw [sz] at HSh;clear E3 r5 hU3 E4 I4 r5' S2 S1 b4 I1 HEU Hg Hb sz
 go_wp2_with fail
 rw [HU3.out];refine HSh.out.mono ?_;rintro e w9 ⟨rfl,hx9⟩;have HE9:=Lh (HE4.out.trans hx9);clear hx9 HSh HE4 k0 k1 k2 k3
 go_wp2_with fail
 go_ret
 exact ⟨rfl,HE9.out⟩
def Sz (M K:Nat) (x:Nm):Prop:=x.e<=M/\∀ k,(x.a k).natAbs*2 ^ (M-x.e)<=K
theorem Sz.abs {M K:Nat} {x:Nm} (h:Sz M K x) (k:Int):(x.a k).natAbs<=K :=
 Nat.le_trans (Nat.le_mul_of_pos_right _ (Nat.pow_pos (by decide))) (h.2 k)
theorem Sz.rep {M K:Nat} {x:Nm} (h:Sz M K x):EqN x ⟨fun k=>x.a k*2 ^ (M-x.e),M⟩:=fun k=>by
 show x.a k*2 ^ M=x.a k*2 ^ (M-x.e)*2 ^ x.e
 rw [Int.mul_assoc,<-Int.pow_add,Nat.sub_add_cancel h.1]
theorem Sz.of_rep {M K:Nat} {x:Nm} {A:Int->Int} (hl:Low x) (h:EqN x ⟨A,M⟩) (hA:∀ k,(A k).natAbs<=K):Sz M K x:=by
 have he:x.e<=M:=low_le hl h;refine ⟨he,fun k=>?_⟩;have h1:x.a k*2 ^ M=A k*2 ^ x.e:=h k
 have h2:x.a k*2 ^ (M-x.e)=A k:=by
  have h3:x.a k*2 ^ (M-x.e)*2 ^ x.e=A k*2 ^ x.e:=by rw [Int.mul_assoc,<-Int.pow_add,Nat.sub_add_cancel he,h1]
  exact Int.eq_of_mul_eq_mul_right (two_ne _) h3
 have h4:(x.a k).natAbs*2 ^ (M-x.e)=(A k).natAbs:=by
  rw [<-h2,Int.natAbs_mul,Int.natAbs_pow];rfl
 rw [h4];exact hA k
theorem abs_add {a b:Int} {m n:Nat} (h:a.natAbs<=m) (g:b.natAbs<=n):(a+b).natAbs<=m+n:=Nat.le_trans (Int.natAbs_add_le a b) (Nat.add_le_add h g)
theorem sum8_abs {f:Int->Int} {K:Nat} (h:∀ i,(f i).natAbs<=K):(sum8 f).natAbs<=8*K:=by
 have:=abs_add (abs_add (abs_add (abs_add (abs_add (abs_add (abs_add (h 0) (h 1)) (h 2)) (h 3)) (h 4)) (h 5)) (h 6)) (h 7);unfold sum8;omega
theorem mulR_abs {a b:Int->Int} {K L:Nat} (ha:∀ k,(a k).natAbs<=K) (hb:∀ k,(b k).natAbs<=L) (k:Int):(mulR a b k).natAbs<=8*(K*L) :=
 sum8_abs fun i=>by rw [Int.natAbs_mul];exact Nat.mul_le_mul (ha _) (hb _)
theorem sq_rep {N:Nat} {x:Nm} (h:Bd N x):∃ A:Int->Int,EqN (nMul x (nCj x)) ⟨A,N+N⟩/\∀ k,(A k).natAbs<=2 ^ (4*N+5):=by
 obtain ⟨B,hB,b⟩:∃ B:Int->Int,EqN x ⟨B,N⟩/\∀ j,(B j).natAbs<=2 ^ (2*N+1):=⟨_,h.rep,fun j=>by
  have c1:=h.2 j
  have c3:(x.a j*2 ^ (N-x.e)).natAbs=(x.a j).natAbs*2 ^ (N-x.e):=by rw [Int.natAbs_mul,Int.natAbs_pow];rfl
  exact Nat.le_of_lt (by rw [c3];exact c1)⟩
 have h0:EqN (nMul x (nCj x)) (nMul ⟨B,N⟩ (nCj ⟨B,N⟩)):=EqN.mul hB (EqN.cj hB);refine ⟨mulR B (cjR B),h0,fun k=>?_⟩;have h1:=mulR_abs (b:=cjR B) b (fun j=>b (-j)) k
 have e:8*(2 ^ (2*N+1)*2 ^ (2*N+1))=2 ^ (4*N+5):=by
  rw [show 2 ^ (4*N+5)=2 ^ 3*(2 ^ (2*N+1)*2 ^ (2*N+1)) by rw [<-Nat.pow_add,<-Nat.pow_add];congr 1;omega]
 rw [e] at h1;exact h1
noncomputable def nS (s:Nat->Nm):Nat->Nm
 | 0=>nZ
 | j+1=>lw (nAdd (nS s j) (nMul (s j) (nCj (s j))))
theorem nS_low (s:Nat->Nm):∀ j,Low (nS s j)
 | 0=>low_nZ
 | _+1=>lw_low _
theorem nS_nought {s:Nat->Nm} {j:Nat} (h:s j=nZ):nS s (j+1)=nS s j:=by
 show lw (nAdd (nS s j) (nMul (s j) (nCj (s j))))=_
 have e:EqN (nMul nZ (nCj nZ)) nZ:=fun k=>by
  show mulR nZ.a (nCj nZ).a k*2 ^ 0=0*2 ^ 0
  have:mulR nZ.a (nCj nZ).a k=0:=by unfold mulR sum8;simp [nZ]
  rw [this]
 rw [h,lw_congr (EqN.trans (EqN.add (EqN.refl _) e) (add_z (nS s j))),lw_self (nS_low s j)]
theorem nS_size {N:Nat} {s:Nat->Nm} (h:∀ x,Amp N (s x)):∀ j,Sz (N+N) (j*2 ^ (4*N+5)) (nS s j)
 | 0=>⟨Nat.zero_le _,fun k=>by show (0:Int).natAbs*_<=_;simp⟩
 | j+1=>by
  have ih:=nS_size h j;obtain ⟨A,h1,h2⟩:=sq_rep (h j).bd
  refine Sz.of_rep (lw_low _) ((lw_eq _).trans (add_rep ih.rep h1)) fun k=>?_
  have c1:=ih.2 k;have c2:=h2 k
  have c3:((nS s j).a k*2 ^ (N+N-(nS s j).e)).natAbs=((nS s j).a k).natAbs*2 ^ (N+N-(nS s j).e):=by rw [Int.natAbs_mul,Int.natAbs_pow];rfl
  show ((nS s j).a k*2 ^ (N+N-(nS s j).e)+A k).natAbs<=_
  rw [Nat.succ_mul];omega
theorem nS_bound {N:Nat} {s:Nat->Nm} (h:∀ x,Amp N (s x)) {j:Nat} (hj:j<=4096) (k:Int):((nS s j).a k).natAbs<2 ^ (4*N+18):=by
 have h1:=(nS_size h j).abs k;have h2:j*2 ^ (4*N+5)<=4096*2 ^ (4*N+5):=Nat.mul_le_mul_right _ hj
 have h3:4096*2 ^ (4*N+5)=2 ^ (4*N+17):=by
  rw [show 2 ^ (4*N+17)=2 ^ 12*2 ^ (4*N+5) by rw [<-Nat.pow_add];congr 1;omega]
 have h4:2 ^ (4*N+17)<2 ^ (4*N+18):=Nat.pow_lt_pow_right (by decide) (by omega);omega
end Go.Proofs.YtfjnlopbmkimiaaGreatDoor
