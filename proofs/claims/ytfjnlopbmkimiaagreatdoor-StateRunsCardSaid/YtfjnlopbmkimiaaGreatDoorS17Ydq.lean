/-
  Circuits in memory; the first fault of a circuit, as the program finds it and as the reference does. Levels: the program's walk. The first fault of a circuit, as the reference finds it. Why a circuit is not unitary: Pure of both sides. What a circuit without a fault keeps to; what Count tells of one, in plain numbers. What a shot needs of an operation without a fault. Nothing of the program stands here. Gates and outcomes, done state by state as the program does them: they come to what a gate, an outcome is. Nothing of the program stands here. A round of a range over a function is walked as plain code is: what a region comes to in a plain frame it comes to in a round's, if no operation of it defers. The program: the ranging over basis states (states and its closure), for every loop's body.
-/
import Derived.LoopIn
import Derived.LoopNIn
import Derived.OrdersIn
import Derived.OwnWalkIn
import Derived.RangeFuncBound
import Derived.RangeFuncCalls
import Derived.RangeFuncFrom
import Derived.RangeFuncLeaves
import Derived.Shelf.Abstract
import Derived.TacticsInMore
import Derived.Test.YtfjnlopbmkimiaaGreatDoorS16Cn
namespace Go.Proofs.YtfjnlopbmkimiaaGreatDoor
set_option maxRecDepth 100000
set_option maxHeartbeats 4000000
open Go.RowKit
def OpsAt (w:World) (ao:Option Addr) (n:Nat) (ops:List Gop):Prop :=
 ops.length=n/\(n=0\/∃ b o,ao=some ⟨b,o,none⟩/\b<w.heap.size/\∀ t g,ops[t]?=some g->∃ (a1:Option Addr) (n1 c1:Nat) (a2:Option Addr) (n2 c2:Nat),
  w.cell? ⟨b,o+t*6,none⟩=some (.int .i64 g.kind)/\w.cell? ⟨b,o+t*6+1,none⟩=some (.int .i64 g.k)/\w.cell? ⟨b,o+t*6+2,none⟩=some (.slice a1 n1 c1)/\w.cell? ⟨b,o+t*6+3,none⟩=some (.int .i64 g.q)/\w.cell? ⟨b,o+t*6+4,none⟩=some (.int .i64 g.bit)/\w.cell? ⟨b,o+t*6+5,none⟩=some (.slice a2 n2 c2)/\OpL w g a1 n1 c1 a2 n2 c2)
theorem OpsAt.ext {w w':World} {ao:Option Addr} {n:Nat} {ops:List Gop} (h:OpsAt w ao n ops) (k:Ext w w'):OpsAt w' ao n ops:=by
 refine ⟨h.1,?_⟩
 rcases h.2 with h0 | ⟨b,o,e,hb,hc⟩
 ·exact Or.inl h0
 ·refine Or.inr ⟨b,o,e,Nat.lt_of_lt_of_le hb k.size,fun t g hg=>?_⟩
  obtain ⟨a1,n1,c1,a2,n2,c2,e0,e1,e2,e3,e4,e5,hl⟩:=hc t g hg;exact ⟨a1,n1,c1,a2,n2,c2,cell_ext e0 k,cell_ext e1 k,cell_ext e2 k,cell_ext e3 k,cell_ext e4 k,cell_ext e5 k,hl.ext k⟩
theorem OpsAt.at {w:World} {b o n:Nat} {ops:List Gop} (h:OpsAt w (some ⟨b,o,none⟩) n ops) (t:Nat) (g:Gop) (hg:ops[t]?=some g):∃ (a1:Option Addr) (n1 c1:Nat) (a2:Option Addr) (n2 c2:Nat),
  w.cell? ⟨b,o+t*6,none⟩=some (.int .i64 g.kind)/\w.cell? ⟨b,o+t*6+1,none⟩=some (.int .i64 g.k)/\w.cell? ⟨b,o+t*6+2,none⟩=some (.slice a1 n1 c1)/\w.cell? ⟨b,o+t*6+3,none⟩=some (.int .i64 g.q)/\w.cell? ⟨b,o+t*6+4,none⟩=some (.int .i64 g.bit)/\w.cell? ⟨b,o+t*6+5,none⟩=some (.slice a2 n2 c2)/\OpL w g a1 n1 c1 a2 n2 c2:=by
 rcases h.2 with h0 | ⟨b',o',e,hb,hc⟩
 ·have:=(List.getElem?_eq_some_iff.1 hg).1
  have:=h.1;omega
 ·cases e
  exact hc t g hg
theorem OpsAt.some_of {w:World} {ao:Option Addr} {n:Nat} {ops:List Gop} (h:OpsAt w ao n ops) (hn:0<n):∃ b o,ao=some ⟨b,o,none⟩:=by
 rcases h.2 with h0 | ⟨b,o,e,_⟩
 ·omega
 ·exact ⟨b,o,e⟩
theorem opsCode_step (q b:Int) (ops:List Gop) (i:Nat) (g:Gop) (h:ops[i]?=some g):opsCode q b i (ops.drop i)=if opCode g q b≠0 then (opCode g q b,(i:Int)) else opsCode q b (i+1) (ops.drop (i+1)):=by
 obtain ⟨hi,e⟩:=List.getElem?_eq_some_iff.1 h;rw [List.drop_eq_getElem_cons hi,opsCode,e]
theorem opsCode_end (q b:Int) (ops:List Gop) (i:Nat) (h:ops.length<=i):opsCode q b i (ops.drop i)=(0,0):=by
 rw [List.drop_eq_nil_of_le h];rfl
structure FtB (W:World) (g:Nat) (u v:Int):Prop where
 row:W.heap[g]?=some (.cells #[.int .i64 u,.int .i64 v] 31 (0,0))
theorem FtB.lt {W:World} {g:Nat} {u v:Int} (h:FtB W g u v):g<W.heap.size:=(gS.1 h.row).1
theorem FtB.ext {W W':World} {g:Nat} {u v:Int} (h:FtB W g u v) (k:Ext W W'):FtB W' g u v:=⟨(k.block _ h.lt).trans h.row⟩
theorem FtB.x0 {W:World} {g:Nat} {u v:Int} (h:FtB W g u v):W.cell? ⟨g,0,none⟩=some (.int .i64 u):=by rw [cell_of_row W g 0 _ _ (0,0) h.row];rfl
theorem FtB.x1 {W:World} {g:Nat} {u v:Int} (h:FtB W g u v):W.cell? ⟨g,1,none⟩=some (.int .i64 v):=by rw [cell_of_row W g 1 _ _ (0,0) h.row];rfl
theorem FtB.f {W:World} {g:Nat} {u v:Int} (h:FtB W g u v) (o:Nat):W.frozen? ⟨g,o,none⟩=false:=frozen_of_row W g o _ _ h.row
structure CiB (W:World) (g:Nat) (qb bi:Int) (ao:Option Addr) (n cp:Nat):Prop where
 row:W.heap[g]?=some (.cells #[.int .i64 qb,.int .i64 bi,.slice ao n cp] 24 (0,0))
section
variable {W W':World} {g:Nat} {qb bi:Int} {ao:Option Addr} {n cp:Nat}
theorem CiB.lt (h:CiB W g qb bi ao n cp):g<W.heap.size:=(gS.1 h.row).1
theorem CiB.ext (h:CiB W g qb bi ao n cp) (k:Ext W W'):CiB W' g qb bi ao n cp:=⟨(k.block _ h.lt).trans h.row⟩
theorem CiB.x0 (h:CiB W g qb bi ao n cp):W.cell? ⟨g,0,none⟩=some (.int .i64 qb):=by rw [cell_of_row W g 0 _ _ (0,0) h.row];rfl
theorem CiB.x1 (h:CiB W g qb bi ao n cp):W.cell? ⟨g,1,none⟩=some (.int .i64 bi):=by rw [cell_of_row W g 1 _ _ (0,0) h.row];rfl
theorem CiB.x2 (h:CiB W g qb bi ao n cp):W.cell? ⟨g,2,none⟩=some (.slice ao n cp):=by rw [cell_of_row W g 2 _ _ (0,0) h.row];rfl
end
theorem put2x {w W:World} {g:Nat} (h:Ext w W) (hg:w.heap.size<=g) (u v:Value):Ext w ((W.setCell ⟨g,0,none⟩ u).setCell ⟨g,1,none⟩ v):=Below.setCell (Below.setCell h (p:=⟨g,0,none⟩) hg u) (p:=⟨g,1,none⟩) hg v
theorem countsQubits_any (n:Int) (w:World):Calls Tryz.prog 77 #[.int .i64 n] w fun e w'=>e=.returned (.bool (decide (1<=n) && decide (n<=12)))/\w'=w:=by
 by_cases h0:1<=n
 ·by_cases h1:n<=12
  ·have e:(decide (1<=n) && decide (n<=12))=true:=by simp [h0,h1]
   rw [e];have d0:=dt h0;have d1:=dt h1
   go_enter Tryz.func77,Tryz.ntmps77
   go_wp2
   go_ret
   exact ⟨rfl,rfl⟩
  ·have e:(decide (1<=n) && decide (n<=12))=false:=by simp [h1]
   rw [e];have d0:=dt h0;have d1:=df h1
   go_enter Tryz.func77,Tryz.ntmps77
   go_wp2
   go_ret
   exact ⟨rfl,rfl⟩
 ·have e:(decide (1<=n) && decide (n<=12))=false:=by simp [h0]
  rw [e];have d0:=df h0
  go_enter Tryz.func77,Tryz.ntmps77
  go_wp2
  go_ret
  exact ⟨rfl,rfl⟩
theorem rfault_any (c a:Int) (w:World):Calls Tryz.prog 30 #[.int .i64 c,.int .i64 a] w fun e w'=>e=.returned (.agg #[.int .i64 c,.int .i64 a])/\Ext w w':=by
 go_enter Tryz.func30,Tryz.ntmps30
 go_wp2
 exact bodyPost_ret (v:=.agg #[.int .i64 c,.int .i64 a]) (by simp [results,Tryz.results30,go_sem]) rfl ⟨rfl,ext_al _ _⟩
theorem Check_any (c:Gci) (ao:Option Addr) (n cp:Nat) (w:World) (h:OpsAt w ao n c.ops) (_hn:n<=cp) (_hcp:cp<=9223372036854775807) (hS:Shp w) :
  Calls Tryz.prog 43 #[.agg #[.int .i64 c.qubits,.int .i64 c.bits,.slice ao n cp]] w fun e w'=>e=.returned (.agg #[.int .i64 (chk c).1,.int .i64 (chk c).2])/\Ext w w':=by
 obtain ⟨r,hr⟩:∃ r,chk c=r:=⟨_,rfl⟩;rw [hr];obtain ⟨r0,r1⟩:=r;unfold chk at hr;obtain ⟨qb,bi,ops⟩:=c;have E0:=(ext_al w (.cells #[.int .i64 qb,.int .i64 bi,.slice ao n cp] 24)).trans (ext_al _ (.cells #[.int .i64 0,.int .i64 0] 31));have bC:CiB ((w.alloc (.cells #[.int .i64 qb,.int .i64 bi,.slice ao n cp] 24)).alloc (.cells #[.int .i64 0,.int .i64 0] 31)) w.heap.size qb bi ao n cp:=CiB.ext ⟨heap_alloc_new w _⟩ (ext_al _ _)
 have bF:FtB ((w.alloc (.cells #[.int .i64 qb,.int .i64 bi,.slice ao n cp] 24)).alloc (.cells #[.int .i64 0,.int .i64 0] 31)) (w.heap.size+1) 0 0:=⟨by
  have:=heap_alloc_new (w.alloc (.cells #[.int .i64 qb,.int .i64 bi,.slice ao n cp] 24)) (.cells #[.int .i64 0,.int .i64 0] 31)
  simpa using this⟩
 have Hl:=Lh h.1;simp only at hr Hl ⊢;have HE0:=Lh E0;have HO:=Lh (h.ext E0);have HC:=Lh bC;have HFt:=Lh bF;have HS:=Lh (hS.ext E0);have m0:=bC.x0;have m1:=bC.x1;have m2:=bC.x2;have x0:=bF.x0;have x1:=bF.x1;have g0:=bF.f 0;have g1:=bF.f 1;clear h E0 bC bF hS;have Hcq:=Lh (fun wx=>countsQubits_any qb wx)
 by_cases hq:qb<1\/12<qb
 ·have hz:(r0,r1)=((6:Int),(0:Int)):=by rw [<-hr,if_pos hq]
  have HF0:Hid (r0=6):=congrArg Prod.fst hz;have HF1:Hid (r1=0):=congrArg Prod.snd hz
  have hb:(decide (1<=qb) && decide (qb<=12))=false:=by simp;omega
  rw [hb] at Hcq;clear hr hz hq hb
  go_enter Tryz.func43,Tryz.ntmps43
  go_wp2_with fail
  generalize (w.alloc (.cells #[.int .i64 qb,.int .i64 bi,.slice ao n cp] 24)).alloc (.cells #[.int .i64 0,.int .i64 0] 31)=W0 at *;refine (Hcq.out _).mono ?_;rintro e wz ⟨rfl,rfl⟩
  go_wp2_with fail
  exact bodyPost_ret (v:=.agg #[.int .i64 6,.int .i64 0]) (by simp [results,Tryz.results43,go_sem,x0,x1]) rfl ⟨by rw [HF0.out,HF1.out],put2x HE0.out (by omega) _ _⟩
 rw [if_neg hq] at hr
 have hb:(decide (1<=qb) && decide (qb<=12))=true:=by simp;omega
 rw [hb] at Hcq;clear hb
 by_cases hb1:bi<0
 ·have hz:(r0,r1)=((7:Int),(0:Int)):=by rw [<-hr,if_pos (Or.inl hb1)]
  have HF0:Hid (r0=7):=congrArg Prod.fst hz;have HF1:Hid (r1=0):=congrArg Prod.snd hz;have d1:=dt hb1;clear hr hz
  go_enter Tryz.func43,Tryz.ntmps43
  go_wp2_with fail
  generalize (w.alloc (.cells #[.int .i64 qb,.int .i64 bi,.slice ao n cp] 24)).alloc (.cells #[.int .i64 0,.int .i64 0] 31)=W0 at *;refine (Hcq.out _).mono ?_;rintro e wz ⟨rfl,rfl⟩
  go_wp2_with fail
  exact bodyPost_ret (v:=.agg #[.int .i64 7,.int .i64 0]) (by simp [results,Tryz.results43,go_sem,x0,x1]) rfl ⟨by rw [HF0.out,HF1.out],put2x HE0.out (by omega) _ _⟩
 have d1:=df hb1
 by_cases hb2:12<bi
 ·have hz:(r0,r1)=((7:Int),(0:Int)):=by rw [<-hr,if_pos (Or.inr hb2)]
  have HF0:Hid (r0=7):=congrArg Prod.fst hz;have HF1:Hid (r1=0):=congrArg Prod.snd hz;have d2:=dt hb2;clear hr hz
  go_enter Tryz.func43,Tryz.ntmps43
  go_wp2_with fail
  generalize (w.alloc (.cells #[.int .i64 qb,.int .i64 bi,.slice ao n cp] 24)).alloc (.cells #[.int .i64 0,.int .i64 0] 31)=W0 at *;refine (Hcq.out _).mono ?_;rintro e wz ⟨rfl,rfl⟩
  go_wp2_with fail
  exact bodyPost_ret (v:=.agg #[.int .i64 7,.int .i64 0]) (by simp [results,Tryz.results43,go_sem,x0,x1]) rfl ⟨by rw [HF0.out,HF1.out],put2x HE0.out (by omega) _ _⟩
 have d2:=df hb2;rw [if_neg (by omega),Hl.out] at hr
 by_cases hL:4096<n
 ·have hz:(r0,r1)=((2:Int),(0:Int)):=by rw [<-hr,if_pos hL]
  have HF0:Hid (r0=2):=congrArg Prod.fst hz;have HF1:Hid (r1=0):=congrArg Prod.snd hz
  have d3:(4096:Int)<(n:Int):=by omega
  clear hr hz
  go_enter Tryz.func43,Tryz.ntmps43
  go_wp2_with fail
  generalize (w.alloc (.cells #[.int .i64 qb,.int .i64 bi,.slice ao n cp] 24)).alloc (.cells #[.int .i64 0,.int .i64 0] 31)=W0 at *;refine (Hcq.out _).mono ?_;rintro e wz ⟨rfl,rfl⟩
  go_wp2_with fail
  exact bodyPost_ret (v:=.agg #[.int .i64 2,.int .i64 0]) (by simp [results,Tryz.results43,go_sem,x0,x1]) rfl ⟨by rw [HF0.out,HF1.out],put2x HE0.out (by omega) _ _⟩
 have d3:¬ (4096:Int)<(n:Int):=by omega
 rw [if_neg hL] at hr;have Hr:=Lh hr;clear hr
 have hab:n=0\/∃ b o,ao=some ⟨b,o,none⟩:=by
  by_cases h0:n=0
  ·exact Or.inl h0
  ·exact Or.inr (HO.out.some_of (by omega))
 go_enter Tryz.func43,Tryz.ntmps43
 go_wp2_with fail
 generalize (w.alloc (.cells #[.int .i64 qb,.int .i64 bi,.slice ao n cp] 24)).alloc (.cells #[.int .i64 0,.int .i64 0] 31)=W0 at *;refine (Hcq.out _).mono ?_;rintro e wz ⟨rfl,rfl⟩
 go_wp2_with fail
 go_loopg [31] n (fun kk s31 wr=>Ext wz wr/\∃ i:Nat,s31=.int .i64 (i:Int)/\i<=n/\n-i=kk/\(r0,r1)=opsCode qb bi i (ops.drop i))
 case atStart=>exact ⟨Ext.refl _,0,rfl,by omega,by omega,Hr.out.symm⟩
 case round =>
  obtain ⟨hER,i,rfl,hi,hk,hri⟩:=hrel;have HER:=Lh hER;have v0:=cell_ext m0 hER;have v1:=cell_ext m1 hER;have v2:=cell_ext m2 hER;clear m0 m1 m2 x0 x1 g0 g1 hER
  by_cases hin:i=n
  ·have h2:¬ (i:Int)<(n:Int):=by omega
   have hz:(r0,r1)=((0:Int),(0:Int)):=by rw [hri];exact opsCode_end qb bi ops i (by rw [Hl.out];omega)
   have HF0:Hid (r0=0):=congrArg Prod.fst hz;have HF1:Hid (r1=0):=congrArg Prod.snd hz;have bz:=HFt.out.ext HER.out;have x0':=bz.x0;have x1':=bz.x1;have g0':=bz.f 0;have g1':=bz.f 1;have HEz:=Lh (HE0.out.trans HER.out);clear hz hri bz
   go_wp2_with fail
   exact bodyPost_ret (v:=.agg #[.int .i64 0,.int .i64 0]) (by simp [results,Tryz.results43,go_sem,x0',x1']) rfl ⟨by rw [HF0.out,HF1.out],put2x HEz.out (by omega) _ _⟩
  ·have h2:(i:Int)<(n:Int):=by omega
   have h0:(0:Int)<=(i:Int):=by omega
   rcases hab with h | ⟨b,o,rfl⟩
   ·omega
   obtain ⟨g,hg⟩:∃ g,ops[i]?=some g:=⟨_,List.getElem?_eq_getElem (by rw [Hl.out];omega)⟩;obtain ⟨a1,n1,c1,a2,n2,c2,e0,e1,e2,e3,e4,e5,hL⟩:=(HO.out.ext HER.out).at i g hg;have hst:=opsCode_step qb bi ops i g hg;rw [<-hri] at hst;have Ea:=ext_al wr (.cells #[.int .i64 g.kind,.int .i64 g.k,.slice a1 n1 c1,.int .i64 g.q,.int .i64 g.bit,.slice a2 n2 c2] 60);have bO:=opbx_new wr g.kind g.k a1 n1 c1 g.q g.bit a2 n2 c2;have HCO:=Lh (checkOp_any g a1 n1 c1 a2 n2 c2 qb bi (wr.alloc (.cells #[.int .i64 g.kind,.int .i64 g.k,.slice a1 n1 c1,.int .i64 g.q,.int .i64 g.bit,.slice a2 n2 c2] 60)) (hL.ext Ea) (by omega) (by omega) (HS.out.ext (HER.out.trans Ea)));obtain ⟨oc,hoc⟩:∃ x,opCode g qb bi=x:=⟨_,rfl⟩;rw [hoc] at HCO hst;have Hst:=Lh hst;obtain ⟨kd,kk',ctl,qq,bb,cnd⟩:=g;simp only at e0 e1 e2 e3 e4 e5 HCO bO Ea;have u0:=cell_ext v0 Ea;have u1:=cell_ext v1 Ea;have p0:=bO.x0;have p1:=bO.x1;have p2:=bO.x2;have p3:=bO.x3;have p4:=bO.x4;have p5:=bO.x5;have HEa:=Lh (HER.out.trans Ea);clear hst hoc hri hg hL bO Ea
   go_wp2_with fail
   generalize wr.alloc (.cells #[.int .i64 kd,.int .i64 kk',.slice a1 n1 c1,.int .i64 qq,.int .i64 bb,.slice a2 n2 c2] 60)=w5 at *;refine HCO.out.mono ?_;rintro e w6 ⟨rfl,hx6⟩;have HE6:=Lh (HEa.out.trans hx6);clear v0 v1 v2 u0 u1 p0 p1 p2 p3 p4 p5 e0 e1 e2 e3 e4 e5
   by_cases hc0:oc=0
   ·have hcb:=nf' hc0
    have hz:(r0,r1)=opsCode qb bi (i+1) (ops.drop (i+1)):=by rw [Hst.out,if_neg (by simp [hc0])]
    have HF:=Lh hz;clear hz hc0 Hst
    go_wp2_with fail
    go_roundg (n-(i+1))
    case measure=>omega
    case rel=>exact ⟨HE6.out,i+1,by go_num,by omega,rfl,HF.out⟩
   ·have hcb:=nt hc0
    have hz:(r0,r1)=(oc,(i:Int)):=by rw [Hst.out,if_pos hc0]
    have HF0:Hid (r0=oc):=congrArg Prod.fst hz;have HF1:Hid (r1=(i:Int)):=congrArg Prod.snd hz;have bz:=HFt.out.ext HE6.out;have x0':=bz.x0;have x1':=bz.x1;have g0':=bz.f 0;have g1':=bz.f 1;have HEz:=Lh (HE0.out.trans HE6.out);clear hz hc0 Hst bz
    go_wp2_with fail
    exact bodyPost_ret (v:=.agg #[.int .i64 oc,.int .i64 (i:Int)]) (by simp [results,Tryz.results43,go_sem,x0',x1']) rfl ⟨by rw [HF0.out,HF1.out],put2x HEz.out (by omega) _ _⟩
structure LvFit (o:Gop):Prop where
 kd:1<=o.kind/\o.kind<=6
 bit:0<=o.bit/\o.bit<=12
 cnd:∀ t ∈ o.cnd,-12<=t/\t<=12
 ctl:(o.ctl.length+26)*8<=140737488355328
 few:o.cnd.length<=24
 pl:∀ t ∈ plP o,0<=t/\t<24
theorem RCheck_any (c:Gci) (ao:Option Addr) (n cp:Nat) (w:World) (h:OpsAt w ao n c.ops) (_hn:n<=cp) (_hcp:cp<=9223372036854775807) :
  Calls Tryz.prog 29 #[.agg #[.int .i64 c.qubits,.int .i64 c.bits,.slice ao n cp]] w fun e w'=>e=.returned (.agg #[.int .i64 (chk c).1,.int .i64 (chk c).2])/\Ext w w':=by
 obtain ⟨r,hr⟩:∃ r,chk c=r:=⟨_,rfl⟩;rw [hr];obtain ⟨r0,r1⟩:=r;unfold chk at hr;obtain ⟨qb,bi,ops⟩:=c;have E0:=(ext_al w (.cells #[.int .i64 qb,.int .i64 bi,.slice ao n cp] 24)).trans (ext_al _ (.cells #[.int .i64 0,.int .i64 0] 31));have bC:CiB ((w.alloc (.cells #[.int .i64 qb,.int .i64 bi,.slice ao n cp] 24)).alloc (.cells #[.int .i64 0,.int .i64 0] 31)) w.heap.size qb bi ao n cp:=CiB.ext ⟨heap_alloc_new w _⟩ (ext_al _ _)
 have bF:FtB ((w.alloc (.cells #[.int .i64 qb,.int .i64 bi,.slice ao n cp] 24)).alloc (.cells #[.int .i64 0,.int .i64 0] 31)) (w.heap.size+1) 0 0:=⟨by
  have:=heap_alloc_new (w.alloc (.cells #[.int .i64 qb,.int .i64 bi,.slice ao n cp] 24)) (.cells #[.int .i64 0,.int .i64 0] 31)
  simpa using this⟩
 have Hl:=Lh h.1;simp only at hr Hl ⊢;have HE0:=Lh E0;have HO:=Lh (h.ext E0);have HC:=Lh bC;have HFt:=Lh bF;have m0:=bC.x0;have m1:=bC.x1;have m2:=bC.x2;have x0:=bF.x0;have x1:=bF.x1;have g0:=bF.f 0;have g1:=bF.f 1;clear h E0 bC bF
 by_cases hq1:qb<1
 ·have hz:(r0,r1)=((6:Int),(0:Int)):=by rw [<-hr,if_pos (Or.inl hq1)]
  have HF0:Hid (r0=6):=congrArg Prod.fst hz;have HF1:Hid (r1=0):=congrArg Prod.snd hz;clear hr hz
  go_enter Tryz.func29,Tryz.ntmps29
  go_wp2_with fail
  generalize (w.alloc (.cells #[.int .i64 qb,.int .i64 bi,.slice ao n cp] 24)).alloc (.cells #[.int .i64 0,.int .i64 0] 31)=W0 at *;refine (rfault_any 6 0 _).mono ?_;rintro e wz ⟨rfl,hxz⟩;have bz:=HFt.out.ext hxz;have x0':=bz.x0;have x1':=bz.x1;have g0':=bz.f 0;have g1':=bz.f 1;have HEz:=Lh (HE0.out.trans hxz)
  go_wp2_with fail
  exact bodyPost_ret (v:=.agg #[.int .i64 6,.int .i64 0]) (by simp [results,Tryz.results29,go_sem,x0',x1']) rfl ⟨by rw [HF0.out,HF1.out],put2x HEz.out (by omega) _ _⟩
 have dq1:=df hq1
 by_cases hq2:12<qb
 ·have hz:(r0,r1)=((6:Int),(0:Int)):=by rw [<-hr,if_pos (Or.inr hq2)]
  have HF0:Hid (r0=6):=congrArg Prod.fst hz;have HF1:Hid (r1=0):=congrArg Prod.snd hz;clear hr hz
  go_enter Tryz.func29,Tryz.ntmps29
  go_wp2_with fail
  generalize (w.alloc (.cells #[.int .i64 qb,.int .i64 bi,.slice ao n cp] 24)).alloc (.cells #[.int .i64 0,.int .i64 0] 31)=W0 at *;refine (rfault_any 6 0 _).mono ?_;rintro e wz ⟨rfl,hxz⟩;have bz:=HFt.out.ext hxz;have x0':=bz.x0;have x1':=bz.x1;have g0':=bz.f 0;have g1':=bz.f 1;have HEz:=Lh (HE0.out.trans hxz)
  go_wp2_with fail
  exact bodyPost_ret (v:=.agg #[.int .i64 6,.int .i64 0]) (by simp [results,Tryz.results29,go_sem,x0',x1']) rfl ⟨by rw [HF0.out,HF1.out],put2x HEz.out (by omega) _ _⟩
 have dq2:=df hq2;rw [if_neg (by omega)] at hr
 by_cases hb1:bi<0
 ·have hz:(r0,r1)=((7:Int),(0:Int)):=by rw [<-hr,if_pos (Or.inl hb1)]
  have HF0:Hid (r0=7):=congrArg Prod.fst hz;have HF1:Hid (r1=0):=congrArg Prod.snd hz;have d1:=dt hb1;clear hr hz
  go_enter Tryz.func29,Tryz.ntmps29
  go_wp2_with fail
  generalize (w.alloc (.cells #[.int .i64 qb,.int .i64 bi,.slice ao n cp] 24)).alloc (.cells #[.int .i64 0,.int .i64 0] 31)=W0 at *;refine (rfault_any 7 0 _).mono ?_;rintro e wz ⟨rfl,hxz⟩;have bz:=HFt.out.ext hxz;have x0':=bz.x0;have x1':=bz.x1;have g0':=bz.f 0;have g1':=bz.f 1;have HEz:=Lh (HE0.out.trans hxz)
  go_wp2_with fail
  exact bodyPost_ret (v:=.agg #[.int .i64 7,.int .i64 0]) (by simp [results,Tryz.results29,go_sem,x0',x1']) rfl ⟨by rw [HF0.out,HF1.out],put2x HEz.out (by omega) _ _⟩
 have d1:=df hb1
 by_cases hb2:12<bi
 ·have hz:(r0,r1)=((7:Int),(0:Int)):=by rw [<-hr,if_pos (Or.inr hb2)]
  have HF0:Hid (r0=7):=congrArg Prod.fst hz;have HF1:Hid (r1=0):=congrArg Prod.snd hz;have d2:=dt hb2;clear hr hz
  go_enter Tryz.func29,Tryz.ntmps29
  go_wp2_with fail
  generalize (w.alloc (.cells #[.int .i64 qb,.int .i64 bi,.slice ao n cp] 24)).alloc (.cells #[.int .i64 0,.int .i64 0] 31)=W0 at *;refine (rfault_any 7 0 _).mono ?_;rintro e wz ⟨rfl,hxz⟩;have bz:=HFt.out.ext hxz;have x0':=bz.x0;have x1':=bz.x1;have g0':=bz.f 0;have g1':=bz.f 1;have HEz:=Lh (HE0.out.trans hxz)
  go_wp2_with fail
  exact bodyPost_ret (v:=.agg #[.int .i64 7,.int .i64 0]) (by simp [results,Tryz.results29,go_sem,x0',x1']) rfl ⟨by rw [HF0.out,HF1.out],put2x HEz.out (by omega) _ _⟩
 have d2:=df hb2;rw [if_neg (by omega),Hl.out] at hr
 by_cases hL:4096<n
 ·have hz:(r0,r1)=((2:Int),(0:Int)):=by rw [<-hr,if_pos hL]
  have HF0:Hid (r0=2):=congrArg Prod.fst hz;have HF1:Hid (r1=0):=congrArg Prod.snd hz
  have d3:(4096:Int)<(n:Int):=by omega
  clear hr hz
  go_enter Tryz.func29,Tryz.ntmps29
  go_wp2_with fail
  generalize (w.alloc (.cells #[.int .i64 qb,.int .i64 bi,.slice ao n cp] 24)).alloc (.cells #[.int .i64 0,.int .i64 0] 31)=W0 at *;refine (rfault_any 2 0 _).mono ?_;rintro e wz ⟨rfl,hxz⟩;have bz:=HFt.out.ext hxz;have x0':=bz.x0;have x1':=bz.x1;have g0':=bz.f 0;have g1':=bz.f 1;have HEz:=Lh (HE0.out.trans hxz)
  go_wp2_with fail
  exact bodyPost_ret (v:=.agg #[.int .i64 2,.int .i64 0]) (by simp [results,Tryz.results29,go_sem,x0',x1']) rfl ⟨by rw [HF0.out,HF1.out],put2x HEz.out (by omega) _ _⟩
 have d3:¬ (4096:Int)<(n:Int):=by omega
 rw [if_neg hL] at hr;have Hr:=Lh hr;clear hr
 have hab:n=0\/∃ b o,ao=some ⟨b,o,none⟩:=by
  by_cases h0:n=0
  ·exact Or.inl h0
  ·exact Or.inr (HO.out.some_of (by omega))
 go_enter Tryz.func29,Tryz.ntmps29
 go_wp2_with fail
 generalize (w.alloc (.cells #[.int .i64 qb,.int .i64 bi,.slice ao n cp] 24)).alloc (.cells #[.int .i64 0,.int .i64 0] 31)=W0 at *
 go_loopg [3] n (fun kk s3 wr=>Ext W0 wr/\∃ i:Nat,s3=.int .i64 (i:Int)/\i<=n/\n-i=kk/\(r0,r1)=opsCode qb bi i (ops.drop i))
 case atStart=>exact ⟨Ext.refl _,0,rfl,by omega,by omega,Hr.out.symm⟩
 case round =>
  obtain ⟨hER,i,rfl,hi,hk,hri⟩:=hrel;have HER:=Lh hER;have bC':=HC.out.ext hER;have v0:=bC'.x0;have v1:=bC'.x1;have v2:=bC'.x2;have lC:=bC'.lt;clear m0 m1 m2 x0 x1 g0 g1 hER bC'
  by_cases hin:i=n
  ·have h2:¬ (i:Int)<(n:Int):=by omega
   have hz:(r0,r1)=((0:Int),(0:Int)):=by rw [hri];exact opsCode_end qb bi ops i (by rw [Hl.out];omega)
   have HF0:Hid (r0=0):=congrArg Prod.fst hz;have HF1:Hid (r1=0):=congrArg Prod.snd hz;have bz:=HFt.out.ext HER.out;have x0':=bz.x0;have x1':=bz.x1;have g0':=bz.f 0;have g1':=bz.f 1;have HEz:=Lh (HE0.out.trans HER.out);clear hz hri bz
   go_wp2_with fail
   exact bodyPost_ret (v:=.agg #[.int .i64 0,.int .i64 0]) (by simp [results,Tryz.results29,go_sem,x0',x1']) rfl ⟨by rw [HF0.out,HF1.out],put2x HEz.out (by omega) _ _⟩
  ·have h2:(i:Int)<(n:Int):=by omega
   have h0:(0:Int)<=(i:Int):=by omega
   rcases hab with h | ⟨b,o,rfl⟩
   ·omega
   obtain ⟨g,hg⟩:∃ g,ops[i]?=some g:=⟨_,List.getElem?_eq_getElem (by rw [Hl.out];omega)⟩;obtain ⟨a1,n1,c1,a2,n2,c2,e0,e1,e2,e3,e4,e5,hL⟩:=(HO.out.ext HER.out).at i g hg;have lb:=World.block_lt_of_cell? wr ⟨b,o+i*6,none⟩ e0;have hst:=opsCode_step qb bi ops i g hg;rw [<-hri] at hst;have HCO:=Lh (fun wx (hx:Ext wr wx)=>badOp_any g a1 n1 c1 a2 n2 c2 qb bi wx (hL.ext hx) (by omega) (by omega) (by omega));obtain ⟨oc,hoc⟩:∃ x,opCode g qb bi=x:=⟨_,rfl⟩;rw [hoc] at HCO hst;have Hst:=Lh hst;obtain ⟨kd,kk',ctl,qq,bb,cnd⟩:=g;simp only at e0 e1 e2 e3 e4 e5 HCO;clear hst hoc hri hg hL;have hE0d:Ext wr wr.drew:=Below.drew (Ext.refl _)
   go_wp2_with fail
   go_region_held3 (fun w'=>w'.cell? ⟨w.heap.size,0,none⟩=some (.int .i64 qb)/\w'.cell? ⟨w.heap.size,1,none⟩=some (.int .i64 bi)/\w'.cell? ⟨w.heap.size,2,none⟩=some (.slice (some ⟨b,o,none⟩) n cp)/\w'.cell? ⟨b,o+i*6,none⟩=some (.int .i64 kd)/\w'.cell? ⟨b,o+i*6+1,none⟩=some (.int .i64 kk')/\w'.cell? ⟨b,o+i*6+2,none⟩=some (.slice a1 n1 c1)/\w'.cell? ⟨b,o+i*6+3,none⟩=some (.int .i64 qq)/\w'.cell? ⟨b,o+i*6+4,none⟩=some (.int .i64 bb)/\w'.cell? ⟨b,o+i*6+5,none⟩=some (.slice a2 n2 c2))
    (refine ⟨cell_ext (w:=wr) v0 ?_,cell_ext (w:=wr) v1 ?_,cell_ext (w:=wr) v2 ?_,cell_ext (w:=wr) e0 ?_,cell_ext (w:=wr) e1 ?_,cell_ext (w:=wr) e2 ?_,cell_ext (w:=wr) e3 ?_,cell_ext (w:=wr) e4 ?_,cell_ext (w:=wr) e5 ?_⟩<;>(repeat (first | assumption | refine Below.drew ?_)))
    (first | (go_at_call 63;refine (HCO.out _ (by assumption)).mono ?_;rintro e w6 ⟨rfl,hx6⟩;have he6:Ext wr w6:=Ext.trans (by assumption) hx6))
   have HE6:=Lh (HER.out.trans he6);clear v0 v1 v2 e0 e1 e2 e3 e4 e5 hE0d he6 hx6
   by_cases hc0:oc=0
   ·have hcb:=nf' hc0
    have hz:(r0,r1)=opsCode qb bi (i+1) (ops.drop (i+1)):=by rw [Hst.out,if_neg (by simp [hc0])]
    have HF:=Lh hz;clear hz hc0 Hst
    go_wp2_with fail
    go_roundg (n-(i+1))
    case measure=>omega
    case rel=>exact ⟨HE6.out,i+1,by go_num,by omega,rfl,HF.out⟩
   ·have hcb:=nt hc0
    have hz:(r0,r1)=(oc,(i:Int)):=by rw [Hst.out,if_pos hc0]
    have HF0:Hid (r0=oc):=congrArg Prod.fst hz;have HF1:Hid (r1=(i:Int)):=congrArg Prod.snd hz;clear hz hc0 Hst
    go_wp2_with fail
    refine (rfault_any oc (i:Int) _).mono ?_;rintro e wz ⟨rfl,hxz⟩;have bz:=HFt.out.ext (HE6.out.trans hxz);have x0':=bz.x0;have x1':=bz.x1;have g0':=bz.f 0;have g1':=bz.f 1;have HEz:=Lh (HE0.out.trans (HE6.out.trans hxz));clear bz
    go_wp2_with fail
    exact bodyPost_ret (v:=.agg #[.int .i64 oc,.int .i64 (i:Int)]) (by simp [results,Tryz.results29,go_sem,x0',x1']) rfl ⟨by rw [HF0.out,HF1.out],put2x HEz.out (by omega) _ _⟩
theorem opsCode_zero (q b:Int) (ops:List Gop):∀ i,(opsCode q b i ops).1=0->opsCode q b i ops=(0,0)/\∀ g ∈ ops,opCode g q b=0:=by
 induction ops with
 | nil=>exact fun _ _=>⟨rfl,fun g hg=>by cases hg⟩
 | cons o r ih =>
  intro i h;rw [opsCode] at h ⊢
  by_cases ho:opCode o q b=0
  ·rw [if_neg (by simp [ho])] at h ⊢
   obtain ⟨e1,e2⟩:=ih (i+1) h
   exact ⟨e1,fun g hg=>by
    rcases List.mem_cons.1 hg with rfl | hg
    ·exact ho
    ·exact e2 g hg⟩
  ·rw [if_pos ho] at h
   exact absurd h ho
theorem chk_zero {c:Gci} (h:(chk c).1=0):chk c=(0,0)/\1<=c.qubits/\c.qubits<=12/\0<=c.bits/\c.bits<=12/\c.ops.length<=4096/\∀ g ∈ c.ops,opCode g c.qubits c.bits=0:=by
 unfold chk at h ⊢
 by_cases h1:c.qubits<1\/12<c.qubits
 ·rw [if_pos h1] at h;exact absurd h (by decide)
 rw [if_neg h1] at h ⊢
 by_cases h2:c.bits<0\/12<c.bits
 ·rw [if_pos h2] at h;exact absurd h (by decide)
 rw [if_neg h2] at h ⊢
 by_cases h3:4096<c.ops.length
 ·rw [if_pos h3] at h;exact absurd h (by decide)
 rw [if_neg h3] at h ⊢;obtain ⟨e1,e2⟩:=opsCode_zero _ _ _ _ h;exact ⟨e1,by omega,by omega,by omega,by omega,by omega,e2⟩
theorem pigeon:∀ (k:Nat) (l:List Int),l.Nodup->(∀ c ∈ l,0<=c/\c<(k:Int))->l.length<=k:=by
 intro k
 induction k with
 | zero =>
  intro l _ h
  cases l with
  | nil=>simp
  | cons a r=>have:=h a (by simp);omega
 | succ k ih =>
  intro l hn h
  by_cases hm:(k:Int) ∈ l
  ·have h1:=ih (l.erase (k:Int)) (hn.erase _) (fun c hc=>by
    have hc':=hn.mem_erase_iff.1 hc;have:=h c hc'.2;have:=hc'.1
    omega)
   have h2:=List.length_erase_of_mem hm;omega
  ·have:=ih l hn (fun c hc=>by
    have h3:=h c hc
    have:c≠(k:Int):=fun e=>hm (e ▸ hc)
    omega)
   omega
theorem below_iff {n b:Int}:below n b=true↔0<=n/\n<b:=by simp [below]
theorem ctlCode_zero (q n:Int):∀ (l s:List Int),ctlCode q n s l=0->(∀ c ∈ l,0<=c/\c<n)/\(s.Nodup->(s++l).Nodup):=by
 intro l
 induction l with
 | nil=>intro s _;exact ⟨by simp,by simp⟩
 | cons c r ih =>
  intro s h;rw [ctlCode] at h
  split at h
  ·omega
  ·rename_i hb
   split at h
   ·omega
   ·rename_i hc
    obtain ⟨h1,h2⟩:=ih _ h
    have hb':below c n=true:=by cases hx:below c n with
     | true=>rfl
     | false=>exact absurd hx hb
    refine ⟨?_,?_⟩
    ·intro x hx
     rcases List.mem_cons.1 hx with rfl | hx
     ·exact below_iff.1 hb'
     ·exact h1 x hx
    ·intro hs
     have hcs:c ∉ s:=fun e=>hc (Or.inr e)
     have:=h2 (by
      rw [List.nodup_append];refine ⟨hs,by simp,?_⟩;intro a ha b hb e
      simp at hb
      subst hb;subst e
      exact hcs ha)
     simpa using this
theorem fit_of_code {o:Gop} {n b:Int} (hn:n<=12) (hb0:0<=b) (hb:b<=12) (h:opCode o n b=0):LvFit o/\placesFit o/\o.ctl.length<=12/\(∀ c ∈ o.ctl,0<=c/\c<n):=by
 unfold opCode at h
 split at h
 ·omega
 rename_i hk
 split at h
 ·omega
 split at h
 ·omega
 rename_i hq
 split at h
 ·omega
 split at h
 ·exact absurd h (by assumption)
 rename_i hc
 split at h
 ·omega
 rename_i hbit
 split at h
 ·omega
 rename_i hcn
 have hc0:ctlCode o.q n [] o.ctl=0:=by
  by_cases e:ctlCode o.q n [] o.ctl=0
  ·exact e
  ·exact absurd e hc
 obtain ⟨z1,z2⟩:=ctlCode_zero o.q n o.ctl [] hc0
 have z3:o.ctl.Nodup:=by simpa using z2 (by simp)
 have z4:=pigeon 12 o.ctl z3 (fun c hc=>by have:=z1 c hc;omega)
 have q1:0<=o.q/\o.q<12:=by
  unfold fitsB at hq
  split at hq
  ·have:below o.q n=true:=by simpa using hq
   have:=below_iff.1 this;omega
  ·have:o.q=0:=by simpa using hq
   omega
 have b1:0<=o.bit/\o.bit<=12/\(o.kind=5->o.bit<12):=by
  unfold fitsB at hbit
  split at hbit
  ·have:below o.bit b=true:=by simpa using hbit
   have:=below_iff.1 this;omega
  ·have:o.bit=0:=by simpa using hbit
   omega
 have c1:o.cnd.length<=24/\∀ t ∈ o.cnd,t≠0/\-12<=t/\t<=12:=by
  have:cndOk b o.cnd=true:=by simpa using hcn
  unfold cndOk at this;simp only [Bool.and_eq_true,decide_eq_true_eq,List.all_eq_true] at this;refine ⟨this.1,fun t ht=>?_⟩;have ht':=this.2 t ht;unfold termOk at ht'
  simp at ht'
  omega
 refine ⟨⟨by omega,⟨b1.1,b1.2.1⟩,fun t ht=>(c1.2 t ht).2,by omega,c1.1,?_⟩,⟨fun t ht=>by have:=z1 t ht;omega,q1.2,b1.1,fun t ht=>(c1.2 t ht).1⟩,z4,z1⟩;intro t ht;unfold plP at ht;simp only [List.mem_append] at ht
 rcases ht with ((ht | ht) | ht) | ht
 ·have:=z1 t ht;omega
 ·unfold tchQ at ht
  split at ht
  ·simp at ht
  ·simp at ht;omega
 ·unfold tchB at ht
  split at ht
  ·simp at ht;have:=b1.2.2 (by assumption);omega
  ·simp at ht
 ·unfold tchC at ht
  simp only [List.mem_map] at ht;obtain ⟨u,hu,rfl⟩:=ht;have:=c1.2 u hu;unfold bitOf
  split<;>omega
theorem ctlCode_ne (q n:Int):∀ (l s:List Int),ctlCode q n s l=0->∀ c ∈ l,c≠q
 | [],_,_=>fun c hc=>by simp at hc
 | d :: r,s,h=>by
  unfold ctlCode at h
  split at h
  ·omega
  split at h
  ·omega
  rename_i h1 h2
  intro c hc
  rcases List.mem_cons.1 hc with rfl | hc
  ·exact fun e=>h2 (Or.inl e)
  ·exact ctlCode_ne q n r _ h c hc
structure PlFit (o:Gop) (n b:Int):Prop where
 kd:1<=o.kind/\o.kind<=6
 q:0<=o.q/\o.q<n
 ctl:∀ c ∈ o.ctl,0<=c/\c<n
 ne:∀ c ∈ o.ctl,c≠o.q
 bit:o.kind=5->0<=o.bit/\o.bit<b
 cnd:∀ t ∈ o.cnd,t≠0/\-b<=t/\t<=b
 few:o.cnd.length<=24
theorem plFit_of_code {o:Gop} {n b:Int} (hn1:1<=n) (hn:n<=12) (hb0:0<=b) (hb:b<=12) (h:opCode o n b=0):PlFit o n b:=by
 obtain ⟨f1,_,_,f4⟩:=fit_of_code hn hb0 hb h;unfold opCode at h
 split at h
 ·omega
 split at h
 ·omega
 split at h
 ·omega
 rename_i hq
 split at h
 ·omega
 split at h
 ·exact absurd h (by assumption)
 rename_i hc
 split at h
 ·omega
 rename_i hbit
 split at h
 ·omega
 rename_i hcn
 have hc0:ctlCode o.q n [] o.ctl=0:=by
  by_cases e:ctlCode o.q n [] o.ctl=0
  ·exact e
  ·exact absurd e hc
 refine ⟨f1.kd,?_,f4,ctlCode_ne o.q n o.ctl [] hc0,?_,?_,f1.few⟩
 ·unfold fitsB at hq
  split at hq
  ·have:below o.q n=true:=by simpa using hq
   have:=below_iff.1 this;omega
  ·have:o.q=0:=by simpa using hq
   omega
 ·intro h5
  unfold fitsB at hbit
  split at hbit
  ·have:below o.bit b=true:=by simpa using hbit
   exact below_iff.1 this
  ·rename_i hu
   exact absurd (show usesB o.kind=true by unfold usesB;simp [h5]) hu
 ·intro t ht
  have:cndOk b o.cnd=true:=by simpa using hcn
  unfold cndOk at this;have h2:=(List.all_eq_true.1 (Bool.and_eq_true_iff.1 this).2) t ht;unfold termOk at h2;simp only [Bool.and_eq_true,Bool.not_eq_true',beq_eq_false_iff_ne,decide_eq_true_eq] at h2;exact ⟨h2.1.1,h2.1.2,h2.2⟩
def q1 (q:Int):Nat:=2 ^ q.toNat
theorem q1_bit (q:Int) (i:Nat):(q1 q).testBit i=decide (q.toNat=i):=by unfold q1;exact Nat.testBit_two_pow
theorem msk_one (q:Int):msk [q]=q1 q:=by unfold msk q1;simp
theorem and_q1 (x:Nat) (q:Int):x &&& q1 q=if bt x q then q1 q else 0:=by
 apply Nat.eq_of_testBit_eq
 intro i;rw [Nat.testBit_and,q1_bit];unfold bt
 by_cases e:q.toNat=i
 ·subst e
  cases h:x.testBit q.toNat
  ·simp
  ·simp [q1_bit]
 ·cases h:x.testBit q.toNat<;>simp [q1_bit,e]
theorem q1_pos (q:Int):0<q1 q:=Nat.pow_pos (by decide)
theorem or_q1 {x:Nat} {q:Int} (h:bt x q=false):x ||| q1 q=fl x q:=by
 apply Nat.eq_of_testBit_eq
 intro i;unfold fl;rw [Nat.testBit_or,q1_bit,Nat.testBit_xor,Nat.testBit_two_pow];unfold bt at h
 by_cases e:q.toNat=i
 ·subst e;simp [h]
 ·simp [e]
theorem msk_snd (l:List Int) (q:Int):msk l ||| q1 q=msk (l++[q]):=by rw [msk_snoc];rfl
theorem ons_snoc (x:Nat) (l:List Int) (q:Int):ons x (l++[q])=(ons x l && bt x q):=by unfold ons;simp [List.all_append]
theorem both_on {x:Nat} {l:List Int} {q:Int}:x &&& (msk l ||| q1 q)=msk l ||| q1 q↔ons x l=true/\bt x q=true:=by
 rw [msk_snd,<-ons_msk,ons_snoc,Bool.and_eq_true_iff]
theorem msk_off {l:List Int} {q:Int} (h0:0<=q) (h:∀ c ∈ l,0<=c/\c≠q):(msk l).testBit q.toNat=false:=by
 rw [msk_bit,List.any_eq_false];intro c hc e;have:=h c hc
 have:c.toNat=q.toNat:=by simpa using e
 omega
theorem one_off {x:Nat} {l:List Int} {q:Int} (hq:(msk l).testBit q.toNat=false):x &&& (msk l ||| q1 q)=msk l↔ons x l=true/\bt x q=false:=by
 rw [ons_msk]
 constructor
 ·intro h
  constructor
  ·apply Nat.eq_of_testBit_eq
   intro i;have h1:=congrArg (fun z=>z.testBit i) h;simp only [Nat.testBit_and,Nat.testBit_or,q1_bit] at h1 ⊢
   by_cases e:q.toNat=i
   ·subst e;simp [hq]
   ·simp [e] at h1;simpa using h1
  ·have h1:=congrArg (fun z=>z.testBit q.toNat) h
   simp only [Nat.testBit_and,Nat.testBit_or,q1_bit,hq] at h1;unfold bt
   simpa using h1
 ·rintro ⟨h,hb⟩
  apply Nat.eq_of_testBit_eq
  intro i;have h1:=congrArg (fun z=>z.testBit i) h;simp only [Nat.testBit_and,Nat.testBit_or,q1_bit] at h1 ⊢;unfold bt at hb
  by_cases e:q.toNat=i
  ·subst e;simp [hq,hb]
  ·simp [e];simpa using h1
theorem and_or_left (a b:Nat):a &&& (a ||| b)=a:=by
 apply Nat.eq_of_testBit_eq
 intro i;rw [Nat.testBit_and,Nat.testBit_or]
 cases a.testBit i<;>simp
theorem onsFl {x:Nat} {l:List Int} {q:Int} (h0:0<=q) (h:∀ c ∈ l,0<=c/\c≠q):ons (fl x q) l=ons x l:=ons_fl (fun c hc=>by have:=h c hc;omega)
def tuS (m:Nat) (k:Int) (n:Nat) (s:Nat->Nm):Nat->Nm:=(stL m m n).foldl (fun s x=>up1 s x (nTr k (s x))) s
def drS (o f n:Nat) (s:Nat->Nm):Nat->Nm:=(stL o f n).foldl (fun s x=>up1 s x nZ) s
def exS (c q n:Nat) (s:Nat->Nm):Nat->Nm:=(stL c (c ||| q) n).foldl (fun s x=>up2 s x (s (x ||| q)) (x ||| q) (s x)) s
noncomputable def miS (c q n:Nat) (s:Nat->Nm):Nat->Nm :=
 (stL c (c ||| q) n).foldl (fun s x=>up2 s x (lw (nHf (nAdd (s x) (s (x ||| q))))) (x ||| q) (lw (nHf (nAdd (s x) (nNeg (s (x ||| q))))))) s
theorem tuS_at (m:Nat) (k:Int) (n:Nat) (s:Nat->Nm) {y:Nat} (hy:y<n):tuS m k n s y=if y &&& m=m then nTr k (s y) else s y:=by
 unfold tuS;rw [fold1 (nTr k) _ (stL_nodup _ _ _)]
 by_cases h:y &&& m=m
 ·rw [if_pos h,if_pos (stL_mem.2 ⟨hy,h⟩)]
 ·rw [if_neg h,if_neg (fun e=>h (stL_mem.1 e).2)]
theorem drS_at (o f n:Nat) (s:Nat->Nm) {y:Nat} (hy:y<n):drS o f n s y=if y &&& f=o then nZ else s y:=by
 unfold drS;rw [fold1 (fun _=>nZ) _ (stL_nodup _ _ _)]
 by_cases h:y &&& f=o
 ·rw [if_pos h,if_pos (stL_mem.2 ⟨hy,h⟩)]
 ·rw [if_neg h,if_neg (fun e=>h (stL_mem.1 e).2)]
section
variable {l:List Int} {q:Int} {n:Nat} {s:Nat->Nm}
theorem pairs_at (F G:Nm->Nm->Nm) (h0:0<=q) (hl:∀ c ∈ l,0<=c/\c≠q) (hn:∀ x,x<n->fl x q<n) {y:Nat} (hy:y<n) :
  (stL (msk l) (msk l ||| q1 q) n).foldl (fun s x=>up2 s x (F (s x) (s (x ||| q1 q))) (x ||| q1 q) (G (s x) (s (x ||| q1 q)))) s y
   = if ons y l then (if bt y q then G (s (fl y q)) (s y) else F (s y) (s (fl y q))) else s y:=by
 have hoff:=msk_off h0 hl
 have hmem:∀ x,x ∈ stL (msk l) (msk l ||| q1 q) n↔x<n/\ons x l=true/\bt x q=false:=fun x=>by rw [stL_mem,one_off hoff]
 have hp:∀ x ∈ stL (msk l) (msk l ||| q1 q) n,x ||| q1 q=fl x q:=fun x hx=>or_q1 ((hmem x).1 hx).2.2
 obtain ⟨i1,i2,i3⟩:=fold2 F G (fun x=>x ||| q1 q) (stL (msk l) (msk l ||| q1 q) n) (stL_nodup _ _ _)
  (fun x hx x' hx' e=>by
   have h1:=((hmem x).1 hx).2.2;rw [e] at h1;simp only [hp x' hx',bt_fl,((hmem x').1 hx').2.2] at h1
   cases h1)
  (fun x hx x' hx' e=>by
   simp only [hp x hx,hp x' hx'] at e
   rw [<-fl_fl x q,e,fl_fl]) s
 by_cases h:ons y l=true
 ·rw [if_pos h]
  by_cases hb:bt y q=true
  ·rw [if_pos hb]
   have hx:fl y q ∈ stL (msk l) (msk l ||| q1 q) n:=(hmem _).2 ⟨hn y hy,by rw [onsFl h0 hl];exact h,by rw [bt_fl,hb];rfl⟩;have:=i2 _ hx;simp only [hp _ hx,fl_fl] at this;exact this
  ·rw [if_neg hb]
   have hb':bt y q=false:=by simpa using hb
   have hx:y ∈ stL (msk l) (msk l ||| q1 q) n:=(hmem _).2 ⟨hy,h,hb'⟩;have:=i1 _ hx;simp only [hp _ hx] at this;exact this
 ·rw [if_neg h]
  refine i3 y (fun hx=>h ((hmem y).1 hx).2.1) (fun x hx e=>h ?_);simp only [hp x hx] at e;rw [e,onsFl h0 hl];exact ((hmem x).1 hx).2.1
end
theorem nAddC (x y:Nm):nAdd x y=nAdd y x:=by
 unfold nAdd
 congr 1
 ·funext k;exact Int.add_comm _ _
 ·exact Nat.add_comm _ _
section
variable {o:Gop} {n b:Nat} {s:Nat->Nm} {y:Nat}
theorem x_gt (hf:PlFit o n b) (hk:o.kind=2) (hy:y<2 ^ n):exS (msk o.ctl) (q1 o.q) (2 ^ n) s y=gt o s y:=by
 have hq:=hf.q;have:=pairs_at (s:=s) (fun _ b=>b) (fun a _=>a) hq.1 (fun c hc=>⟨(hf.ctl c hc).1,hf.ne c hc⟩) (fun x hx=>fl_lt hx (by omega)) hy;unfold exS gt;rw [this,hk]
 by_cases h:ons y o.ctl=true
 ·rw [if_pos h,if_pos h]
  simp
 ·rw [if_neg h,if_neg h]
theorem h_gt (hf:PlFit o n b) (hk:o.kind=3) (hy:y<2 ^ n):miS (msk o.ctl) (q1 o.q) (2 ^ n) s y=gt o s y:=by
 have hq:=hf.q;have:=pairs_at (s:=s) (fun a b=>lw (nHf (nAdd a b))) (fun a b=>lw (nHf (nAdd a (nNeg b)))) hq.1 (fun c hc=>⟨(hf.ctl c hc).1,hf.ne c hc⟩) (fun x hx=>fl_lt hx (by omega)) hy;unfold miS gt;rw [this,hk]
 by_cases h:ons y o.ctl=true
 ·rw [if_pos h,if_pos h]
  simp only [show ¬ ((3:Int)=1) by decide,show ¬ ((3:Int)=4) by decide,show ¬ ((3:Int)=2) by decide,if_false]
  by_cases hb:bt y o.q=true
  ·rw [if_pos hb,if_pos hb]
  ·rw [if_neg hb,if_neg hb,nAddC]
 ·rw [if_neg h,if_neg h]
theorem p_gt (hk:o.kind=4) (hy:y<2 ^ n):tuS (msk o.ctl ||| q1 o.q) o.k (2 ^ n) s y=gt o s y:=by
 rw [tuS_at _ _ _ _ hy];unfold gt;rw [hk];simp only [show ¬ ((4:Int)=1) by decide,if_false,if_true]
 by_cases h:ons y o.ctl=true
 ·rw [if_pos h]
  by_cases hb:bt y o.q=true
  ·rw [if_pos hb,if_pos (both_on.2 ⟨h,hb⟩)]
  ·rw [if_neg hb,if_neg (fun e=>hb (both_on.1 e).2)]
 ·rw [if_neg h,if_neg (fun e=>h (both_on.1 e).1)]
theorem ph_gt (hk:o.kind=1) (hc:o.ctl=[]) (hy:y<n):tuS 0 o.k n s y=gt o s y:=by
 rw [tuS_at _ _ _ _ hy];unfold gt;rw [hk,hc]
 simp [ons]
theorem dr_oc {q v:Int} (hv:v=0\/v=1) (hy:y<n):drS (if 1-v=1 then q1 q else 0) (q1 q) n s y=oc q v s y:=by
 rw [drS_at _ _ _ _ hy,and_q1];have:=q1_pos q;unfold oc
 rcases hv with rfl | rfl
 ·cases hb:bt y q<;>simp<;>omega
 ·cases hb:bt y q<;>simp<;>omega
end
theorem phase_free {o:Gop} {n b:Int} (h:opCode o n b=0) (hk:o.kind=1):o.ctl=[]:=by
 unfold opCode at h;rw [hk] at h
 split at h
 ·omega
 split at h
 ·omega
 split at h
 ·omega
 split at h
 ·omega
 rename_i hc
 have:usesC 1=false:=rfl
 by_cases e:0<o.ctl.length
 ·exact absurd ⟨e,this⟩ hc
 ·exact List.eq_nil_of_length_eq_zero (by omega)
theorem up1_amp {N:Nat} {s:Nat->Nm} {x:Nat} {z:Nm} (h:∀ y,Amp N (s y)) (hz:Amp N z) (y:Nat):Amp N (up1 s x z y):=by
 unfold up1
 split
 ·exact hz
 ·exact h y
abbrev Rnd (l:Nat):Fence:=Fence.wide.inRound l
def noDefer (ops:List Oper):Bool:=ops.all fun o=>match o.op with | .defer _=>false | _=>true
theorem noDefer_spec {ops:List Oper} (h:noDefer ops=true) {o:Oper} (ho:o ∈ ops):∀ c,o.op≠.defer c:=by
 intro c e;have:=List.all_eq_true.1 h o ho;rw [e] at this
 cases this
section
variable {P:Program} {ops:Array Oper} {Q:Exit->Act->World->Prop} {l m:Nat}
theorem rows_round {row:String} {args:Array Value} {w:World} {R:Value->World->Prop} (h:Rows P row args w R):RowsIn (Rnd l) m P row args w R:=fun c cs _=>by
 obtain ⟨v,w',hr,hs⟩:=h c cs;exact ⟨v,w',hr,stepsIn_wide.2 hs⟩
theorem oper_round {o:Oper} (hd:∀ c,o.op≠.defer c) {K K':Act->World->Prop} (hK:∀ a w,K a w->K' a w) {a:Act} {w:World} (h:o.wp P a w K Q):o.wpIn (Rnd l) m P a w K' Q:=by
 refine ⟨fun _ _=>trivial,?_⟩
 show o.uponIn (Rnd l) m P a K' Q ((o.semAt (some l) a.eval).run P w)
 rw [Oper.semAt_some l a.eval o hd];unfold Oper.wp at h;generalize (execOp a.eval o).run P w=r at h ⊢
 have hdep:∀ n:Nat,(Rnd l).depth.isSome=true->1<=n:=fun n h=>by cases h
 cases r with
 | ok x w' =>
  cases x with
  | value v=>exact hK _ _ h
  | skip=>exact hK _ _ h
  | defer d=>exact hK _ _ h
  | enter f args =>
   refine ⟨hdep _,CallsIn.inRound l (callsIn_wide.2 (Calls.mono h ?_))⟩;intro e w'' he
   cases e with
   | returned v=>exact hK _ _ he
   | panicked c=>exact he
   | outgrown=>exact he
  | row rw args=>exact ⟨hdep _,rows_round (Rows.mono h fun v w'' he=>hK _ _ he)⟩
  | _=>exact h.elim
 | halt x w' =>
  cases x with
  | panic v=>exact h
  | _=>exact h.elim
theorem list_round {lst:List Oper} (hd:noDefer lst=true) (hQ:¬ LetsOut Q):∀ {a:Act} {w:World},wpList P ops Q lst a w->wpListIn (Rnd l) m P ops Q lst a w:=by
 induction lst with
 | nil=>intro a w h;exact h
 | cons o rest ih =>
  intro a w h
  have hd2:noDefer rest=true:=by
   unfold noDefer at hd ⊢;rw [List.all_cons] at hd;exact (Bool.and_eq_true_iff.1 hd).2
  unfold wpList at h;unfold wpListIn
  by_cases hw:Region.wanted o (yielded ops a.tmps)=true
  ·rw [if_pos hw] at h ⊢
   rcases h with h | h
   ·exact oper_round (noDefer_spec hd (by simp)) (fun a w=>ih hd2) h
   ·exact absurd h.2 hQ
  ·rw [if_neg hw] at h ⊢
   exact ⟨fun _ _=>trivial,ih hd2 h⟩
theorem region_round {id:Nat} {lst:List Oper} {a:Act} {w:World} (hd:noDefer lst=true) (hQ:¬ LetsOut Q) (h:wpList P lst.toArray Q lst a w):(Code.region id lst.toArray false).wpIn (Rnd l) m P Q a w :=
 wpIn_region_lit (list_round hd hQ h)
theorem op_round (hd:noDefer ops.toList=true) (hQ:¬ LetsOut Q) {i:Nat} {K K':Act->World->Prop} (hK:∀ a w,K a w->K' a w) {a:Act} {w:World} (h:wpOp P ops Q i K a w):wpOpIn (Rnd l) m P ops Q i K' a w:=by
 unfold wpOp at h;unfold wpOpIn
 cases ho:ops[i]? with
 | none=>rw [ho] at h;exact hK _ _ h
 | some o =>
  rw [ho] at h;simp only at h ⊢
  have hm:o ∈ ops.toList:=by
   have:=Array.mem_of_getElem? ho
   simpa using this
  by_cases hw:Region.wanted o (yielded ops a.tmps)=true
  ·rw [if_pos hw] at h ⊢
   rcases h with h | h
   ·exact oper_round (noDefer_spec hd hm) hK h
   ·exact absurd h.2 hQ
  ·rw [if_neg hw] at h ⊢
   exact ⟨fun _ _=>trivial,hK _ _ h⟩
theorem any_round {md:Region.Mode} (hd:noDefer ops.toList=true) (hQ:¬ LetsOut Q):∀ (n:Nat) (lst:Array Bool) (a:Act) (w:World),wpAny P md ops Q n lst a w->wpAnyIn (Rnd l) m P md ops Q n lst a w
 | 0,_,_,_,h=>h
 | n+1,_,_,_,h=>⟨h.1,fun i hi=>op_round hd hQ (fun a w=>any_round hd hQ n _ a w) (h.2 i hi)⟩
theorem region_round_any {id:Nat} {a:Act} {w:World} (hm:P.follows .mixedOrders=true) (hd:noDefer ops.toList=true) (hQ:¬ LetsOut Q)
  (h:wpAny P .any ops Q ops.size (Array.replicate ops.size false) a w.drew):(Code.region id ops true).wpIn (Rnd l) m P Q a w :=
 wpIn_region_any hm (any_round hd hQ _ _ _ _ h)
theorem then_shut {K:Act->World->Prop} (h:¬ LetsOut Q):¬ LetsOut (Exit.then K Q):=fun ⟨a,w,g⟩=>h ⟨a,w,g⟩
end
open Go.RowKit Go.Shelf
attribute [local go_sem] Oper.semAt_some
theorem andN_le (t f:Nat):andN t f<=t:=by
 have h:andN t f &&& t=andN t f:=by
  apply Nat.eq_of_testBit_eq
  intro i;rw [Nat.testBit_and,andN_bit]
  cases t.testBit i<;>simp
 rw [<-h];exact Nat.and_le_right
theorem andN_i64 (x y:Nat) (hx:x<1048576) (hy:y<1048576):bits .andNot .i64 (x:Int) (y:Int)=((andN x y:Nat):Int):=by
 show IntKind.i64.wrap ((BitVec.ofInt 64 (x:Int) &&& ~~~ BitVec.ofInt 64 (y:Int)).toNat:Int)=_
 have h1:=ofInt_toNat (x:Int);have h2:=ofInt_toNat (y:Int)
 have h3:(BitVec.ofInt 64 (x:Int)).toNat=x:=by omega
 have h4:(BitVec.ofInt 64 (y:Int)).toNat=y:=by omega
 have key:(BitVec.ofInt 64 (x:Int) &&& ~~~ BitVec.ofInt 64 (y:Int)).toNat=andN x y:=by
  apply Nat.eq_of_testBit_eq
  intro i;rw [andN_bit,<-BitVec.getLsbD,BitVec.getLsbD_and,BitVec.getLsbD_not];unfold BitVec.getLsbD;rw [h3,h4]
  by_cases hi:i<64
  ·simp [hi]
  ·have:x.testBit i=false:=Nat.testBit_lt_two_pow (Nat.lt_of_lt_of_le hx (Nat.le_trans (by decide) (Nat.pow_le_pow_right (n:=2) (by decide) (show 20<=i by omega))))
   simp [this]
 rw [key,IntKind.wrap_i64];have:=andN_le x y;omega
abbrev St (o f n:Nat):Type:={ x:Nat // x<n/\x &&& f=o }
def KpB (b n0:Nat) (W W':World):Prop:=∀ k,k≠b->k<n0->W'.heap[k]?=W.heap[k]?
theorem KpB.refl (b n0:Nat) (W:World):KpB b n0 W W:=fun _ _ _=>rfl
theorem KpB.trans {b n0:Nat} {A B C:World} (h:KpB b n0 A B) (k:KpB b n0 B C):KpB b n0 A C:=fun i h1 h2=>(k i h1 h2).trans (h i h1 h2)
theorem KpB.cell {b n0:Nat} {A B:World} (h:KpB b n0 A B) {g o:Nat} (h1:g≠b) (h2:g<n0):B.cell? ⟨g,o,none⟩=A.cell? ⟨g,o,none⟩:=World.cell?_of_block (a:=⟨g,o,none⟩) (h g h1 h2)
theorem states1_in (m l:Nat) (o f n b n0 Bo Bw Bf:Nat) (ao:Option Addr) (cp:Nat) (J Jx:List (St o f n)->World->Prop)
  (ho:o &&& f=o) (hn:n<=4096) (hf:f<4096) (b1:Bo≠b/\Bo<n0) (b2:Bw≠b/\Bw<n0) (b3:Bf≠b/\Bf<n0)
  (hY:∀ pre x W,J pre W->pre.length<n->YieldAt Fence.wide (m-1) Tryz.prog l #[.int .i64 ((x:St o f n).1:Int)] W fun e W' =>
   (e=.returned (.bool true)/\J (pre++[x]) W'/\KpB b n0 W W')\/(e=.returned (.bool false)/\Jx (pre++[x]) W'))
  (W:World) (c1:W.cell? ⟨Bo,0,none⟩=some (.int .i64 (o:Int))) (c2:W.cell? ⟨Bw,0,none⟩=some (.slice ao n cp)) (c3:W.cell? ⟨Bf,0,none⟩=some (.int .i64 (f:Int))) (h0:J [] W) :
  CallsIn Fence.wide m Tryz.prog 160 #[.func (.yield l) #[] #[],.pointer (some ⟨Bo,0,none⟩),.pointer (some ⟨Bw,0,none⟩),.pointer (some ⟨Bf,0,none⟩)] W fun e W'=>(∃ v,e=.returned v) /\
   ((∃ xs:List (St o f n),xs.map (·.1)=stL o f n/\J xs W')\/(∃ pre:List (St o f n),True/\Jx pre W')):=by
 have ho4:o<=f:=by rw [<-ho];exact Nat.and_le_right
 refine callsIn_of_wp Tryz.func160 rfl trivial ?_ rfl;simp only [Tryz.ntmps160,List.size_toArray,List.length_cons,List.length_nil,Nat.reduceAdd,Nat.reduceSub,Array.replicate_succ,Array.replicate_zero,List.push_toArray,List.append_toArray,List.nil_append,List.cons_append]
 gi_wp2
 gi_loopw [5] (fun p wr=>∃ (y:Nat) (pre:List (St o f n)),p=.int .i64 (y:Int)/\y<8193/\y &&& f=o/\pre.map (·.1)=stL o f (min y n)/\J pre wr/\KpB b n0 W wr)
  (fun p _=>8193-(intOf p).toNat)
 case atStart =>
  refine ⟨o,[],rfl,by omega,ho,?_,h0,KpB.refl _ _ _⟩;have h1:stL o f o=[]:=stL_first
  have h2:stL o f (min o n) <+: stL o f o:=by
   have:min o n<=o:=Nat.min_le_left _ _;obtain ⟨d,hd⟩:∃ d,o=min o n+d:=⟨o-min o n,by omega⟩;have h3:=stL_gap (o:=o) (f:=f) (a:=min o n) d (fun x _ hx e=>by have:=first_least e;omega);rw [<-hd] at h3;rw [h3];exact List.prefix_rfl
  rw [h1] at h2;rw [List.prefix_nil.1 h2];rfl
 case round =>
  obtain ⟨y,pre,rfl,hy,hyf,hp,hJs,hk⟩:=hrel;have d1:=(hk.cell (o:=0) b1.1 b1.2).trans c1;have d2:=(hk.cell (o:=0) b2.1 b2.2).trans c2;have d3:=(hk.cell (o:=0) b3.1 b3.2).trans c3
  by_cases hlt:y<n
  ·have hlen:pre.length<n:=by
    have h1:(pre.map (·.1)).length=pre.length:=List.length_map _;rw [hp] at h1;have:=stL_len o f (min y n);omega
   obtain ⟨fn,tmps,assign,body,hyy,hR⟩:=hY pre ⟨y,hlt,hyf⟩ wr hJs hlen
   dsimp only at hyy
   have q1:(y:Int)<(n:Int):=by omega
   gi_wp2
   refine ⟨fun h=>(by cases h),?_⟩;refine hR.mono ?_;rintro e W3 (⟨rfl,hJ3,hk3⟩ | ⟨rfl,hJx3⟩)
   ·have e1:=(hk3.cell (o:=0) b1.1 b1.2).trans d1
    have e3:=(hk3.cell (o:=0) b3.1 b3.2).trans d3;obtain ⟨t1,ht1⟩:∃ t,y ||| f=t:=⟨_,rfl⟩
    have l1:t1<4096:=by rw [<-ht1];exact Nat.or_lt_two_pow (n:=12) (by omega) hf
    have g1:bits .or .i64 (y:Int) (f:Int)=(t1:Int):=by rw [or_i64 y f (by omega) (by omega),ht1]
    have g2:IntKind.i64.wrap ((t1:Int)+1)=((t1+1:Nat):Int):=by rw [IntKind.wrap_i64];omega
    obtain ⟨t2,ht2⟩:∃ t,t1+1=t:=⟨_,rfl⟩;rw [ht2] at g2;obtain ⟨t3,ht3⟩:∃ t,andN t2 f=t:=⟨_,rfl⟩
    have l3:t3<=4096:=by rw [<-ht3];exact Nat.le_trans (andN_le _ _) (by omega)
    have g3:bits .andNot .i64 (t2:Int) (f:Int)=(t3:Int):=by rw [andN_i64 t2 f (by omega) (by omega),ht3]
    obtain ⟨t4,ht4⟩:∃ t,t3 ||| o=t:=⟨_,rfl⟩
    have g4:bits .or .i64 (t3:Int) (o:Int)=(t4:Int):=by rw [or_i64 t3 o (by omega) (by omega),ht4]
    have l4:t4<8192:=by rw [<-ht4];exact Nat.or_lt_two_pow (n:=13) (by omega) (by omega)
    have hnx:nxt o f y=t4:=by unfold nxt;rw [ht1,ht2,ht3,ht4]
    have hgt:y<t4:=by rw [<-hnx];exact nxt_gt ho hyf
    have Hr:=Lh (show ∃ (y':Nat) (pre':List (St o f n)),Value.int .i64 (t4:Int)=.int .i64 (y':Int)/\y'<8193/\y' &&& f=o/\pre'.map (·.1)=stL o f (min y' n)/\J pre' W3/\KpB b n0 W W3 from ⟨t4,pre++[⟨y,hlt,hyf⟩],rfl,by omega,by rw [<-hnx];exact nxt_in ho y,by
      rw [List.map_append,hp,Nat.min_eq_left (by omega:y<=n)]
      exact (stL_next ho hyf (m:=min t4 n) (by omega) (by rw [hnx];exact Nat.min_le_left _ _)).symm,hJ3,hk.trans hk3⟩)
    have Hm:=Lh hgt;have Hl:=Lh l4;clear hgt hnx ht1 ht2 ht3 ht4 l1 l3 l4 hk hk3 hJ3 hp hJs hlen hyf hyy hR hY
    gi_wp2
    go_roundw
    case rel=>exact Hr.out
    case measure=>have:=Hm.out;have:=Hl.out;simp [intOf];omega
   ·gi_wp2
    refine bodyPost_ret (results_none rfl _ _ _) rfl ?_;exact ⟨⟨_,rfl⟩,.inr ⟨_,trivial,hJx3⟩⟩
  ·have q1:¬ (y:Int)<(n:Int):=by omega
   have Hp:=Lh (show pre.map (·.1)=stL o f n by rw [hp,Nat.min_eq_right (by omega)]);have HJ:=Lh hJs;clear hp hJs hk
   gi_wp2
   go_end0
   exact ⟨⟨_,rfl⟩,.inl ⟨pre,Hp.out,HJ.out⟩⟩
theorem states_stops (m:Nat) (o f n b n0 Bo Bw Bf:Nat) (ao:Option Addr) (cp:Nat) (w:World)
  (ho:o &&& f=o) (hn:n<=4096) (hf:f<4096) (b1:Bo≠b/\Bo<n0) (b2:Bw≠b/\Bw<n0) (b3:Bf≠b/\Bf<n0) (hn0:n0<=w.heap.size)
  (c1:w.cell? ⟨Bo,0,none⟩=some (.int .i64 (o:Int))) (c2:w.cell? ⟨Bw,0,none⟩=some (.slice ao n cp)) (c3:w.cell? ⟨Bf,0,none⟩=some (.int .i64 (f:Int))) :
  SeqStopsK Fence.wide m Tryz.prog 160 #[.pointer (some ⟨Bo,0,none⟩),.pointer (some ⟨Bw,0,none⟩),.pointer (some ⟨Bf,0,none⟩)] (fun x:St o f n=>#[Value.int .i64 (x.1:Int)]) (KpB b n0)
   (fun xs=>xs.map (·.1)=stL o f n) (fun _=>True) n w:=fun l J Jx W hW _ _ hY h0 =>
 states1_in m l o f n b n0 Bo Bw Bf ao cp J Jx ho hn hf b1 b2 b3 hY W
  ((hW.cell (p:=⟨Bo,0,none⟩) (by have:=b1.2;show Bo<_;omega)).trans c1) ((hW.cell (p:=⟨Bw,0,none⟩) (by have:=b2.2;show Bw<_;omega)).trans c2) ((hW.cell (p:=⟨Bf,0,none⟩) (by have:=b3.2;show Bf<_;omega)).trans c3) h0
theorem new1 (w:World) (v:Value) (t:TypeId):(w.alloc (.cells #[v] t)).cell? ⟨w.heap.size,0,none⟩=some v:=by
 rw [cell_of_row _ _ 0 _ _ (0,0) (heap_alloc_new w _)];rfl
theorem old1 {w:World} {g o:Nat} {v:Value} (h:w.cell? ⟨g,o,none⟩=some v) (x:Obj):(w.alloc x).cell? ⟨g,o,none⟩=some v :=
 (((Below.refl _ w).alloc (Nat.le_refl _) x).cell (p:=⟨g,o,none⟩) (World.block_lt_of_cell? w ⟨g,o,none⟩ h)).trans h
theorem states_any (ao:Option Addr) (n cp o q:Nat) (w:World) (ho:o<4096) (hq:q<4096) :
  Calls Tryz.prog 141 #[.slice ao n cp,.int .i64 (o:Int),.int .i64 (q:Int)] w fun e w'=>∃ Bo Bw Bf,
   e=.returned (.func (.func 160) #[] #[.pointer (some ⟨Bo,0,none⟩),.pointer (some ⟨Bw,0,none⟩),.pointer (some ⟨Bf,0,none⟩)])/\Ext w w' /\
   w'.cell? ⟨Bo,0,none⟩=some (.int .i64 (o:Int))/\w'.cell? ⟨Bw,0,none⟩=some (.slice ao n cp)/\w'.cell? ⟨Bf,0,none⟩=some (.int .i64 ((o ||| q:Nat):Int)) /\
   (w.heap.size<=Bo/\Bo<w'.heap.size)/\(w.heap.size<=Bw/\Bw<w'.heap.size)/\(w.heap.size<=Bf/\Bf<w'.heap.size):=by
 obtain ⟨t,ht⟩:∃ t,o ||| q=t:=⟨_,rfl⟩
 have g1:bits .or .i64 (o:Int) (q:Int)=(t:Int):=by rw [or_i64 o q (by omega) (by omega),ht]
 rw [ht];clear ht ho hq
 go_enter Tryz.func141,Tryz.ntmps141
 go_wp2_with fail
 go_ret
 have a1:=new1 w (.slice ao n cp) 66;have a2:=new1 (w.alloc (.cells #[.slice ao n cp] 66)) (.int .i64 (o:Int)) 3;have a3:=new1 ((w.alloc (.cells #[.slice ao n cp] 66)).alloc (.cells #[.int .i64 (o:Int)] 3)) (.int .i64 (t:Int)) 3;simp only [World.size_alloc] at a2 a3;exact ⟨_,_,_,rfl,((Below.refl _ w).alloc (Nat.le_refl _) _).trans (((Below.refl _ _).alloc (by simp only [World.size_alloc];omega) _).trans ((Below.refl _ _).alloc (by simp only [World.size_alloc];omega) _)),old1 a2 _,old1 (old1 a1 _) _,a3,⟨by omega,by simp only [World.size_alloc];omega⟩,⟨by omega,by simp only [World.size_alloc];omega⟩,⟨by omega,by simp only [World.size_alloc];omega⟩⟩
end Go.Proofs.YtfjnlopbmkimiaaGreatDoor
