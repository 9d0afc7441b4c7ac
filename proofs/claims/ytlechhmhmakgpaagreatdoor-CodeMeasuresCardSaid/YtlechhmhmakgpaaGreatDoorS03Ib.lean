/-
  Circuits in memory; the first fault of a circuit, as the program finds it and as the reference does. Levels: the program's walk. The first fault of a circuit, as the reference finds it. Why a circuit is not unitary: Pure of both sides. What a circuit without a fault keeps to; what Count tells of one, in plain numbers. A tally in a variable; what is counted, in plain numbers. The reader: digits and numbers. The program's writer of an operation. The program's Print. The reader: an operation. The reference's writing: ZText. The reference: texts cut at a byte; figures. The reference: which two Paulis don't commute; which texts are Paulis.
-/
import Derived.Test.YtlechhmhmakgpaaGreatDoorProg
import Derived.Deep.Cut
import Derived.Deep.QuietTactic
import Derived.Deep.RegionHeld3
import Derived.Laws.Bits64b
import Derived.Laws.CopyOwn
import Derived.Laws.ResultCell
import Derived.Lib.BitFns
import Derived.Lib.ItoaMem
import Derived.Lib.ItoaNum
import Derived.Lib.Strings
import Derived.Shelf.Bits.Mul64
import Derived.Shelf.Small.Bits
import Derived.Shelf.Small.Strs
import Derived.Shelf.Strings.Search1
import Derived.Test.YtlechhmhmakgpaaGreatDoorS02Cn
import Derived.Test.YtlechhmhmakgpaaGreatDoorShelf
namespace Go.Proofs.YtlechhmhmakgpaaGreatDoor
set_option maxRecDepth 100000
set_option maxHeartbeats 4000000
open Go.RowKit
def OpsAt (w:World) (ao:Option Addr) (n:Nat) (ops:List Gop):Prop :=
 ops.length=n/\(n=0\/∃ b o,ao=some ⟨b,o,none⟩/\b<w.heap.size/\∀ t g,ops[t]?=some g->∃ (a1:Option Addr) (n1 c1:Nat) (a2:Option Addr) (n2 c2:Nat),
  w.cell? ⟨b,o+t*6,none⟩=some (.int .i64 g.kind)/\w.cell? ⟨b,o+t*6+1,none⟩=some (.int .i64 g.k)/\w.cell? ⟨b,o+t*6+2,none⟩=some (.slice a1 n1 c1)/\w.cell? ⟨b,o+t*6+3,none⟩=some (.int .i64 g.q)/\w.cell? ⟨b,o+t*6+4,none⟩=some (.int .i64 g.bit)/\w.cell? ⟨b,o+t*6+5,none⟩=some (.slice a2 n2 c2)/\OpL w g a1 n1 c1 a2 n2 c2)
theorem OpsAt.ext {w w':World} {ao:Option Addr} {n:Nat} {ops:List Gop} (h:OpsAt w ao n ops) (k:Ext w w'):OpsAt w' ao n ops:=by
 refine ⟨h.1,?_⟩
 rcases h.2 with h0 | ⟨b,o,e,hb,hc⟩
 ·exact Or.inl h0
 ·refine Or.inr ⟨b,o,e,Nat.lt_of_lt_of_le hb k.size,fun t g hg=>?_⟩
  obtain ⟨a1,n1,c1,a2,n2,c2,e0,e1,e2,e3,e4,e5,hl⟩:=hc t g hg;exact ⟨a1,n1,c1,a2,n2,c2,cell_ext e0 k,cell_ext e1 k,cell_ext e2 k,cell_ext e3 k,cell_ext e4 k,cell_ext e5 k,hl.ext k⟩
theorem OpsAt.at {w:World} {b o n:Nat} {ops:List Gop} (h:OpsAt w (some ⟨b,o,none⟩) n ops) (t:Nat) (g:Gop) (hg:ops[t]?=some g):∃ (a1:Option Addr) (n1 c1:Nat) (a2:Option Addr) (n2 c2:Nat),
  w.cell? ⟨b,o+t*6,none⟩=some (.int .i64 g.kind)/\w.cell? ⟨b,o+t*6+1,none⟩=some (.int .i64 g.k)/\w.cell? ⟨b,o+t*6+2,none⟩=some (.slice a1 n1 c1)/\w.cell? ⟨b,o+t*6+3,none⟩=some (.int .i64 g.q)/\w.cell? ⟨b,o+t*6+4,none⟩=some (.int .i64 g.bit)/\w.cell? ⟨b,o+t*6+5,none⟩=some (.slice a2 n2 c2)/\OpL w g a1 n1 c1 a2 n2 c2:=by
 rcases h.2 with h0 | ⟨b',o',e,hb,hc⟩
 ·have:=(List.getElem?_eq_some_iff.1 hg).1
  have:=h.1;omega
 ·cases e
  exact hc t g hg
theorem OpsAt.some_of {w:World} {ao:Option Addr} {n:Nat} {ops:List Gop} (h:OpsAt w ao n ops) (hn:0<n):∃ b o,ao=some ⟨b,o,none⟩:=by
 rcases h.2 with h0 | ⟨b,o,e,_⟩
 ·omega
 ·exact ⟨b,o,e⟩
theorem opsCode_step (q b:Int) (ops:List Gop) (i:Nat) (g:Gop) (h:ops[i]?=some g):opsCode q b i (ops.drop i)=if opCode g q b≠0 then (opCode g q b,(i:Int)) else opsCode q b (i+1) (ops.drop (i+1)):=by
 obtain ⟨hi,e⟩:=List.getElem?_eq_some_iff.1 h;rw [List.drop_eq_getElem_cons hi,opsCode,e]
theorem opsCode_end (q b:Int) (ops:List Gop) (i:Nat) (h:ops.length<=i):opsCode q b i (ops.drop i)=(0,0):=by
 rw [List.drop_eq_nil_of_le h];rfl
structure FtB (W:World) (g:Nat) (u v:Int):Prop where
 row:W.heap[g]?=some (.cells #[.int .i64 u,.int .i64 v] 29 (0,0))
theorem FtB.lt {W:World} {g:Nat} {u v:Int} (h:FtB W g u v):g<W.heap.size:=(gS.1 h.row).1
theorem FtB.ext {W W':World} {g:Nat} {u v:Int} (h:FtB W g u v) (k:Ext W W'):FtB W' g u v:=⟨(k.block _ h.lt).trans h.row⟩
theorem FtB.x0 {W:World} {g:Nat} {u v:Int} (h:FtB W g u v):W.cell? ⟨g,0,none⟩=some (.int .i64 u):=by rw [cell_of_row W g 0 _ _ (0,0) h.row];rfl
theorem FtB.x1 {W:World} {g:Nat} {u v:Int} (h:FtB W g u v):W.cell? ⟨g,1,none⟩=some (.int .i64 v):=by rw [cell_of_row W g 1 _ _ (0,0) h.row];rfl
theorem FtB.f {W:World} {g:Nat} {u v:Int} (h:FtB W g u v) (o:Nat):W.frozen? ⟨g,o,none⟩=false:=frozen_of_row W g o _ _ h.row
structure CiB (W:World) (g:Nat) (qb bi:Int) (ao:Option Addr) (n cp:Nat):Prop where
 row:W.heap[g]?=some (.cells #[.int .i64 qb,.int .i64 bi,.slice ao n cp] 24 (0,0))
section
variable {W W':World} {g:Nat} {qb bi:Int} {ao:Option Addr} {n cp:Nat}
theorem CiB.lt (h:CiB W g qb bi ao n cp):g<W.heap.size:=(gS.1 h.row).1
theorem CiB.ext (h:CiB W g qb bi ao n cp) (k:Ext W W'):CiB W' g qb bi ao n cp:=⟨(k.block _ h.lt).trans h.row⟩
theorem CiB.x0 (h:CiB W g qb bi ao n cp):W.cell? ⟨g,0,none⟩=some (.int .i64 qb):=by rw [cell_of_row W g 0 _ _ (0,0) h.row];rfl
theorem CiB.x1 (h:CiB W g qb bi ao n cp):W.cell? ⟨g,1,none⟩=some (.int .i64 bi):=by rw [cell_of_row W g 1 _ _ (0,0) h.row];rfl
theorem CiB.x2 (h:CiB W g qb bi ao n cp):W.cell? ⟨g,2,none⟩=some (.slice ao n cp):=by rw [cell_of_row W g 2 _ _ (0,0) h.row];rfl
end
theorem put2x {w W:World} {g:Nat} (h:Ext w W) (hg:w.heap.size<=g) (u v:Value):Ext w ((W.setCell ⟨g,0,none⟩ u).setCell ⟨g,1,none⟩ v):=Below.setCell (Below.setCell h (p:=⟨g,0,none⟩) hg u) (p:=⟨g,1,none⟩) hg v
theorem countsQubits_any (n:Int) (w:World):Calls Tryz.prog 119 #[.int .i64 n] w fun e w'=>e=.returned (.bool (decide (1<=n) && decide (n<=12)))/\w'=w:=by
 by_cases h0:1<=n
 ·by_cases h1:n<=12
  ·have e:(decide (1<=n) && decide (n<=12))=true:=by simp [h0,h1]
   rw [e];have d0:=dt h0;have d1:=dt h1
   go_enter Tryz.func119,Tryz.ntmps119
   go_wp2
   go_ret
   exact ⟨rfl,rfl⟩
  ·have e:(decide (1<=n) && decide (n<=12))=false:=by simp [h1]
   rw [e];have d0:=dt h0;have d1:=df h1
   go_enter Tryz.func119,Tryz.ntmps119
   go_wp2
   go_ret
   exact ⟨rfl,rfl⟩
 ·have e:(decide (1<=n) && decide (n<=12))=false:=by simp [h0]
  rw [e];have d0:=df h0
  go_enter Tryz.func119,Tryz.ntmps119
  go_wp2
  go_ret
  exact ⟨rfl,rfl⟩
theorem rfault_any (c a:Int) (w:World):Calls Tryz.prog 38 #[.int .i64 c,.int .i64 a] w fun e w'=>e=.returned (.agg #[.int .i64 c,.int .i64 a])/\Ext w w':=by
 go_enter Tryz.func38,Tryz.ntmps38
 go_wp2
 exact bodyPost_ret (v:=.agg #[.int .i64 c,.int .i64 a]) (by simp [results,Tryz.results38,go_sem]) rfl ⟨rfl,ext_al _ _⟩
theorem Check_any (c:Gci) (ao:Option Addr) (n cp:Nat) (w:World) (h:OpsAt w ao n c.ops) (_hn:n<=cp) (_hcp:cp<=9223372036854775807) (hS:Shp w) :
  Calls Tryz.prog 74 #[.agg #[.int .i64 c.qubits,.int .i64 c.bits,.slice ao n cp]] w fun e w'=>e=.returned (.agg #[.int .i64 (chk c).1,.int .i64 (chk c).2])/\Ext w w':=by
 obtain ⟨r,hr⟩:∃ r,chk c=r:=⟨_,rfl⟩;rw [hr];obtain ⟨r0,r1⟩:=r;unfold chk at hr;obtain ⟨qb,bi,ops⟩:=c;have E0:=(ext_al w (.cells #[.int .i64 qb,.int .i64 bi,.slice ao n cp] 24)).trans (ext_al _ (.cells #[.int .i64 0,.int .i64 0] 29));have bC:CiB ((w.alloc (.cells #[.int .i64 qb,.int .i64 bi,.slice ao n cp] 24)).alloc (.cells #[.int .i64 0,.int .i64 0] 29)) w.heap.size qb bi ao n cp:=CiB.ext ⟨heap_alloc_new w _⟩ (ext_al _ _)
 have bF:FtB ((w.alloc (.cells #[.int .i64 qb,.int .i64 bi,.slice ao n cp] 24)).alloc (.cells #[.int .i64 0,.int .i64 0] 29)) (w.heap.size+1) 0 0:=⟨by
  have:=heap_alloc_new (w.alloc (.cells #[.int .i64 qb,.int .i64 bi,.slice ao n cp] 24)) (.cells #[.int .i64 0,.int .i64 0] 29)
  simpa using this⟩
 have Hl:=Lh h.1;simp only at hr Hl ⊢;have HE0:=Lh E0;have HO:=Lh (h.ext E0);have HC:=Lh bC;have HFt:=Lh bF;have HS:=Lh (hS.ext E0);have m0:=bC.x0;have m1:=bC.x1;have m2:=bC.x2;have x0:=bF.x0;have x1:=bF.x1;have g0:=bF.f 0;have g1:=bF.f 1;clear h E0 bC bF hS;have Hcq:=Lh (fun wx=>countsQubits_any qb wx)
 by_cases hq:qb<1\/12<qb
 ·have hz:(r0,r1)=((6:Int),(0:Int)):=by rw [<-hr,if_pos hq]
  have HF0:Hid (r0=6):=congrArg Prod.fst hz;have HF1:Hid (r1=0):=congrArg Prod.snd hz
  have hb:(decide (1<=qb) && decide (qb<=12))=false:=by simp;omega
  rw [hb] at Hcq;clear hr hz hq hb
  go_enter Tryz.func74,Tryz.ntmps74
  go_wp2_with fail
  generalize (w.alloc (.cells #[.int .i64 qb,.int .i64 bi,.slice ao n cp] 24)).alloc (.cells #[.int .i64 0,.int .i64 0] 29)=W0 at *;refine (Hcq.out _).mono ?_;rintro e wz ⟨rfl,rfl⟩
  go_wp2_with fail
  exact bodyPost_ret (v:=.agg #[.int .i64 6,.int .i64 0]) (by simp [results,Tryz.results74,go_sem,x0,x1]) rfl ⟨by rw [HF0.out,HF1.out],put2x HE0.out (by omega) _ _⟩
 rw [if_neg hq] at hr
 have hb:(decide (1<=qb) && decide (qb<=12))=true:=by simp;omega
 rw [hb] at Hcq;clear hb
 by_cases hb1:bi<0
 ·have hz:(r0,r1)=((7:Int),(0:Int)):=by rw [<-hr,if_pos (Or.inl hb1)]
  have HF0:Hid (r0=7):=congrArg Prod.fst hz;have HF1:Hid (r1=0):=congrArg Prod.snd hz;have d1:=dt hb1;clear hr hz
  go_enter Tryz.func74,Tryz.ntmps74
  go_wp2_with fail
  generalize (w.alloc (.cells #[.int .i64 qb,.int .i64 bi,.slice ao n cp] 24)).alloc (.cells #[.int .i64 0,.int .i64 0] 29)=W0 at *;refine (Hcq.out _).mono ?_;rintro e wz ⟨rfl,rfl⟩
  go_wp2_with fail
  exact bodyPost_ret (v:=.agg #[.int .i64 7,.int .i64 0]) (by simp [results,Tryz.results74,go_sem,x0,x1]) rfl ⟨by rw [HF0.out,HF1.out],put2x HE0.out (by omega) _ _⟩
 have d1:=df hb1
 by_cases hb2:12<bi
 ·have hz:(r0,r1)=((7:Int),(0:Int)):=by rw [<-hr,if_pos (Or.inr hb2)]
  have HF0:Hid (r0=7):=congrArg Prod.fst hz;have HF1:Hid (r1=0):=congrArg Prod.snd hz;have d2:=dt hb2;clear hr hz
  go_enter Tryz.func74,Tryz.ntmps74
  go_wp2_with fail
  generalize (w.alloc (.cells #[.int .i64 qb,.int .i64 bi,.slice ao n cp] 24)).alloc (.cells #[.int .i64 0,.int .i64 0] 29)=W0 at *;refine (Hcq.out _).mono ?_;rintro e wz ⟨rfl,rfl⟩
  go_wp2_with fail
  exact bodyPost_ret (v:=.agg #[.int .i64 7,.int .i64 0]) (by simp [results,Tryz.results74,go_sem,x0,x1]) rfl ⟨by rw [HF0.out,HF1.out],put2x HE0.out (by omega) _ _⟩
 have d2:=df hb2;rw [if_neg (by omega),Hl.out] at hr
 by_cases hL:4096<n
 ·have hz:(r0,r1)=((2:Int),(0:Int)):=by rw [<-hr,if_pos hL]
  have HF0:Hid (r0=2):=congrArg Prod.fst hz;have HF1:Hid (r1=0):=congrArg Prod.snd hz
  have d3:(4096:Int)<(n:Int):=by omega
  clear hr hz
  go_enter Tryz.func74,Tryz.ntmps74
  go_wp2_with fail
  generalize (w.alloc (.cells #[.int .i64 qb,.int .i64 bi,.slice ao n cp] 24)).alloc (.cells #[.int .i64 0,.int .i64 0] 29)=W0 at *;refine (Hcq.out _).mono ?_;rintro e wz ⟨rfl,rfl⟩
  go_wp2_with fail
  exact bodyPost_ret (v:=.agg #[.int .i64 2,.int .i64 0]) (by simp [results,Tryz.results74,go_sem,x0,x1]) rfl ⟨by rw [HF0.out,HF1.out],put2x HE0.out (by omega) _ _⟩
 have d3:¬ (4096:Int)<(n:Int):=by omega
 rw [if_neg hL] at hr;have Hr:=Lh hr;clear hr
 have hab:n=0\/∃ b o,ao=some ⟨b,o,none⟩:=by
  by_cases h0:n=0
  ·exact Or.inl h0
  ·exact Or.inr (HO.out.some_of (by omega))
 go_enter Tryz.func74,Tryz.ntmps74
 go_wp2_with fail
 generalize (w.alloc (.cells #[.int .i64 qb,.int .i64 bi,.slice ao n cp] 24)).alloc (.cells #[.int .i64 0,.int .i64 0] 29)=W0 at *;refine (Hcq.out _).mono ?_;rintro e wz ⟨rfl,rfl⟩
 go_wp2_with fail
 go_loopg [31] n (fun kk s31 wr=>Ext wz wr/\∃ i:Nat,s31=.int .i64 (i:Int)/\i<=n/\n-i=kk/\(r0,r1)=opsCode qb bi i (ops.drop i))
 case atStart=>exact ⟨Ext.refl _,0,rfl,by omega,by omega,Hr.out.symm⟩
 case round =>
  obtain ⟨hER,i,rfl,hi,hk,hri⟩:=hrel;have HER:=Lh hER;have v0:=cell_ext m0 hER;have v1:=cell_ext m1 hER;have v2:=cell_ext m2 hER;clear m0 m1 m2 x0 x1 g0 g1 hER
  by_cases hin:i=n
  ·have h2:¬ (i:Int)<(n:Int):=by omega
   have hz:(r0,r1)=((0:Int),(0:Int)):=by rw [hri];exact opsCode_end qb bi ops i (by rw [Hl.out];omega)
   have HF0:Hid (r0=0):=congrArg Prod.fst hz;have HF1:Hid (r1=0):=congrArg Prod.snd hz;have bz:=HFt.out.ext HER.out;have x0':=bz.x0;have x1':=bz.x1;have g0':=bz.f 0;have g1':=bz.f 1;have HEz:=Lh (HE0.out.trans HER.out);clear hz hri bz
   go_wp2_with fail
   exact bodyPost_ret (v:=.agg #[.int .i64 0,.int .i64 0]) (by simp [results,Tryz.results74,go_sem,x0',x1']) rfl ⟨by rw [HF0.out,HF1.out],put2x HEz.out (by omega) _ _⟩
  ·have h2:(i:Int)<(n:Int):=by omega
   have h0:(0:Int)<=(i:Int):=by omega
   rcases hab with h | ⟨b,o,rfl⟩
   ·omega
   obtain ⟨g,hg⟩:∃ g,ops[i]?=some g:=⟨_,List.getElem?_eq_getElem (by rw [Hl.out];omega)⟩;obtain ⟨a1,n1,c1,a2,n2,c2,e0,e1,e2,e3,e4,e5,hL⟩:=(HO.out.ext HER.out).at i g hg;have hst:=opsCode_step qb bi ops i g hg;rw [<-hri] at hst;have Ea:=ext_al wr (.cells #[.int .i64 g.kind,.int .i64 g.k,.slice a1 n1 c1,.int .i64 g.q,.int .i64 g.bit,.slice a2 n2 c2] 52);have bO:=opbx_new wr g.kind g.k a1 n1 c1 g.q g.bit a2 n2 c2;have HCO:=Lh (checkOp_any g a1 n1 c1 a2 n2 c2 qb bi (wr.alloc (.cells #[.int .i64 g.kind,.int .i64 g.k,.slice a1 n1 c1,.int .i64 g.q,.int .i64 g.bit,.slice a2 n2 c2] 52)) (hL.ext Ea) (by omega) (by omega) (HS.out.ext (HER.out.trans Ea)));obtain ⟨oc,hoc⟩:∃ x,opCode g qb bi=x:=⟨_,rfl⟩;rw [hoc] at HCO hst;have Hst:=Lh hst;obtain ⟨kd,kk',ctl,qq,bb,cnd⟩:=g;simp only at e0 e1 e2 e3 e4 e5 HCO bO Ea;have u0:=cell_ext v0 Ea;have u1:=cell_ext v1 Ea;have p0:=bO.x0;have p1:=bO.x1;have p2:=bO.x2;have p3:=bO.x3;have p4:=bO.x4;have p5:=bO.x5;have HEa:=Lh (HER.out.trans Ea);clear hst hoc hri hg hL bO Ea
   go_wp2_with fail
   generalize wr.alloc (.cells #[.int .i64 kd,.int .i64 kk',.slice a1 n1 c1,.int .i64 qq,.int .i64 bb,.slice a2 n2 c2] 52)=w5 at *;refine HCO.out.mono ?_;rintro e w6 ⟨rfl,hx6⟩;have HE6:=Lh (HEa.out.trans hx6);clear v0 v1 v2 u0 u1 p0 p1 p2 p3 p4 p5 e0 e1 e2 e3 e4 e5
   by_cases hc0:oc=0
   ·have hcb:=nf' hc0
    have hz:(r0,r1)=opsCode qb bi (i+1) (ops.drop (i+1)):=by rw [Hst.out,if_neg (by simp [hc0])]
    have HF:=Lh hz;clear hz hc0 Hst
    go_wp2_with fail
    go_roundg (n-(i+1))
    case measure=>omega
    case rel=>exact ⟨HE6.out,i+1,by go_num,by omega,rfl,HF.out⟩
   ·have hcb:=nt hc0
    have hz:(r0,r1)=(oc,(i:Int)):=by rw [Hst.out,if_pos hc0]
    have HF0:Hid (r0=oc):=congrArg Prod.fst hz;have HF1:Hid (r1=(i:Int)):=congrArg Prod.snd hz;have bz:=HFt.out.ext HE6.out;have x0':=bz.x0;have x1':=bz.x1;have g0':=bz.f 0;have g1':=bz.f 1;have HEz:=Lh (HE0.out.trans HE6.out);clear hz hc0 Hst bz
    go_wp2_with fail
    exact bodyPost_ret (v:=.agg #[.int .i64 oc,.int .i64 (i:Int)]) (by simp [results,Tryz.results74,go_sem,x0',x1']) rfl ⟨by rw [HF0.out,HF1.out],put2x HEz.out (by omega) _ _⟩
structure LvFit (o:Gop):Prop where
 kd:1<=o.kind/\o.kind<=6
 bit:0<=o.bit/\o.bit<=12
 cnd:∀ t ∈ o.cnd,-12<=t/\t<=12
 ctl:(o.ctl.length+26)*8<=140737488355328
 few:o.cnd.length<=24
 pl:∀ t ∈ plP o,0<=t/\t<24
theorem RCheck_any (c:Gci) (ao:Option Addr) (n cp:Nat) (w:World) (h:OpsAt w ao n c.ops) (_hn:n<=cp) (_hcp:cp<=9223372036854775807) :
  Calls Tryz.prog 12 #[.agg #[.int .i64 c.qubits,.int .i64 c.bits,.slice ao n cp]] w fun e w'=>e=.returned (.agg #[.int .i64 (chk c).1,.int .i64 (chk c).2])/\Ext w w':=by
 obtain ⟨r,hr⟩:∃ r,chk c=r:=⟨_,rfl⟩;rw [hr];obtain ⟨r0,r1⟩:=r;unfold chk at hr;obtain ⟨qb,bi,ops⟩:=c;have E0:=(ext_al w (.cells #[.int .i64 qb,.int .i64 bi,.slice ao n cp] 24)).trans (ext_al _ (.cells #[.int .i64 0,.int .i64 0] 29));have bC:CiB ((w.alloc (.cells #[.int .i64 qb,.int .i64 bi,.slice ao n cp] 24)).alloc (.cells #[.int .i64 0,.int .i64 0] 29)) w.heap.size qb bi ao n cp:=CiB.ext ⟨heap_alloc_new w _⟩ (ext_al _ _)
 have bF:FtB ((w.alloc (.cells #[.int .i64 qb,.int .i64 bi,.slice ao n cp] 24)).alloc (.cells #[.int .i64 0,.int .i64 0] 29)) (w.heap.size+1) 0 0:=⟨by
  have:=heap_alloc_new (w.alloc (.cells #[.int .i64 qb,.int .i64 bi,.slice ao n cp] 24)) (.cells #[.int .i64 0,.int .i64 0] 29)
  simpa using this⟩
 have Hl:=Lh h.1;simp only at hr Hl ⊢;have HE0:=Lh E0;have HO:=Lh (h.ext E0);have HC:=Lh bC;have HFt:=Lh bF;have m0:=bC.x0;have m1:=bC.x1;have m2:=bC.x2;have x0:=bF.x0;have x1:=bF.x1;have g0:=bF.f 0;have g1:=bF.f 1;clear h E0 bC bF
 by_cases hq1:qb<1
 ·have hz:(r0,r1)=((6:Int),(0:Int)):=by rw [<-hr,if_pos (Or.inl hq1)]
  have HF0:Hid (r0=6):=congrArg Prod.fst hz;have HF1:Hid (r1=0):=congrArg Prod.snd hz;clear hr hz
  go_enter Tryz.func12,Tryz.ntmps12
  go_wp2_with fail
  generalize (w.alloc (.cells #[.int .i64 qb,.int .i64 bi,.slice ao n cp] 24)).alloc (.cells #[.int .i64 0,.int .i64 0] 29)=W0 at *;refine (rfault_any 6 0 _).mono ?_;rintro e wz ⟨rfl,hxz⟩;have bz:=HFt.out.ext hxz;have x0':=bz.x0;have x1':=bz.x1;have g0':=bz.f 0;have g1':=bz.f 1;have HEz:=Lh (HE0.out.trans hxz)
  go_wp2_with fail
  exact bodyPost_ret (v:=.agg #[.int .i64 6,.int .i64 0]) (by simp [results,Tryz.results12,go_sem,x0',x1']) rfl ⟨by rw [HF0.out,HF1.out],put2x HEz.out (by omega) _ _⟩
 have dq1:=df hq1
 by_cases hq2:12<qb
 ·have hz:(r0,r1)=((6:Int),(0:Int)):=by rw [<-hr,if_pos (Or.inr hq2)]
  have HF0:Hid (r0=6):=congrArg Prod.fst hz;have HF1:Hid (r1=0):=congrArg Prod.snd hz;clear hr hz
  go_enter Tryz.func12,Tryz.ntmps12
  go_wp2_with fail
  generalize (w.alloc (.cells #[.int .i64 qb,.int .i64 bi,.slice ao n cp] 24)).alloc (.cells #[.int .i64 0,.int .i64 0] 29)=W0 at *;refine (rfault_any 6 0 _).mono ?_;rintro e wz ⟨rfl,hxz⟩;have bz:=HFt.out.ext hxz;have x0':=bz.x0;have x1':=bz.x1;have g0':=bz.f 0;have g1':=bz.f 1;have HEz:=Lh (HE0.out.trans hxz)
  go_wp2_with fail
  exact bodyPost_ret (v:=.agg #[.int .i64 6,.int .i64 0]) (by simp [results,Tryz.results12,go_sem,x0',x1']) rfl ⟨by rw [HF0.out,HF1.out],put2x HEz.out (by omega) _ _⟩
 have dq2:=df hq2;rw [if_neg (by omega)] at hr
 by_cases hb1:bi<0
 ·have hz:(r0,r1)=((7:Int),(0:Int)):=by rw [<-hr,if_pos (Or.inl hb1)]
  have HF0:Hid (r0=7):=congrArg Prod.fst hz;have HF1:Hid (r1=0):=congrArg Prod.snd hz;have d1:=dt hb1;clear hr hz
  go_enter Tryz.func12,Tryz.ntmps12
  go_wp2_with fail
  generalize (w.alloc (.cells #[.int .i64 qb,.int .i64 bi,.slice ao n cp] 24)).alloc (.cells #[.int .i64 0,.int .i64 0] 29)=W0 at *;refine (rfault_any 7 0 _).mono ?_;rintro e wz ⟨rfl,hxz⟩;have bz:=HFt.out.ext hxz;have x0':=bz.x0;have x1':=bz.x1;have g0':=bz.f 0;have g1':=bz.f 1;have HEz:=Lh (HE0.out.trans hxz)
  go_wp2_with fail
  exact bodyPost_ret (v:=.agg #[.int .i64 7,.int .i64 0]) (by simp [results,Tryz.results12,go_sem,x0',x1']) rfl ⟨by rw [HF0.out,HF1.out],put2x HEz.out (by omega) _ _⟩
 have d1:=df hb1
 by_cases hb2:12<bi
 ·have hz:(r0,r1)=((7:Int),(0:Int)):=by rw [<-hr,if_pos (Or.inr hb2)]
  have HF0:Hid (r0=7):=congrArg Prod.fst hz;have HF1:Hid (r1=0):=congrArg Prod.snd hz;have d2:=dt hb2;clear hr hz
  go_enter Tryz.func12,Tryz.ntmps12
  go_wp2_with fail
  generalize (w.alloc (.cells #[.int .i64 qb,.int .i64 bi,.slice ao n cp] 24)).alloc (.cells #[.int .i64 0,.int .i64 0] 29)=W0 at *;refine (rfault_any 7 0 _).mono ?_;rintro e wz ⟨rfl,hxz⟩;have bz:=HFt.out.ext hxz;have x0':=bz.x0;have x1':=bz.x1;have g0':=bz.f 0;have g1':=bz.f 1;have HEz:=Lh (HE0.out.trans hxz)
  go_wp2_with fail
  exact bodyPost_ret (v:=.agg #[.int .i64 7,.int .i64 0]) (by simp [results,Tryz.results12,go_sem,x0',x1']) rfl ⟨by rw [HF0.out,HF1.out],put2x HEz.out (by omega) _ _⟩
 have d2:=df hb2;rw [if_neg (by omega),Hl.out] at hr
 by_cases hL:4096<n
 ·have hz:(r0,r1)=((2:Int),(0:Int)):=by rw [<-hr,if_pos hL]
  have HF0:Hid (r0=2):=congrArg Prod.fst hz;have HF1:Hid (r1=0):=congrArg Prod.snd hz
  have d3:(4096:Int)<(n:Int):=by omega
  clear hr hz
  go_enter Tryz.func12,Tryz.ntmps12
  go_wp2_with fail
  generalize (w.alloc (.cells #[.int .i64 qb,.int .i64 bi,.slice ao n cp] 24)).alloc (.cells #[.int .i64 0,.int .i64 0] 29)=W0 at *;refine (rfault_any 2 0 _).mono ?_;rintro e wz ⟨rfl,hxz⟩;have bz:=HFt.out.ext hxz;have x0':=bz.x0;have x1':=bz.x1;have g0':=bz.f 0;have g1':=bz.f 1;have HEz:=Lh (HE0.out.trans hxz)
  go_wp2_with fail
  exact bodyPost_ret (v:=.agg #[.int .i64 2,.int .i64 0]) (by simp [results,Tryz.results12,go_sem,x0',x1']) rfl ⟨by rw [HF0.out,HF1.out],put2x HEz.out (by omega) _ _⟩
 have d3:¬ (4096:Int)<(n:Int):=by omega
 rw [if_neg hL] at hr;have Hr:=Lh hr;clear hr
 have hab:n=0\/∃ b o,ao=some ⟨b,o,none⟩:=by
  by_cases h0:n=0
  ·exact Or.inl h0
  ·exact Or.inr (HO.out.some_of (by omega))
 go_enter Tryz.func12,Tryz.ntmps12
 go_wp2_with fail
 generalize (w.alloc (.cells #[.int .i64 qb,.int .i64 bi,.slice ao n cp] 24)).alloc (.cells #[.int .i64 0,.int .i64 0] 29)=W0 at *
 go_loopg [3] n (fun kk s3 wr=>Ext W0 wr/\∃ i:Nat,s3=.int .i64 (i:Int)/\i<=n/\n-i=kk/\(r0,r1)=opsCode qb bi i (ops.drop i))
 case atStart=>exact ⟨Ext.refl _,0,rfl,by omega,by omega,Hr.out.symm⟩
 case round =>
  obtain ⟨hER,i,rfl,hi,hk,hri⟩:=hrel;have HER:=Lh hER;have bC':=HC.out.ext hER;have v0:=bC'.x0;have v1:=bC'.x1;have v2:=bC'.x2;have lC:=bC'.lt;clear m0 m1 m2 x0 x1 g0 g1 hER bC'
  by_cases hin:i=n
  ·have h2:¬ (i:Int)<(n:Int):=by omega
   have hz:(r0,r1)=((0:Int),(0:Int)):=by rw [hri];exact opsCode_end qb bi ops i (by rw [Hl.out];omega)
   have HF0:Hid (r0=0):=congrArg Prod.fst hz;have HF1:Hid (r1=0):=congrArg Prod.snd hz;have bz:=HFt.out.ext HER.out;have x0':=bz.x0;have x1':=bz.x1;have g0':=bz.f 0;have g1':=bz.f 1;have HEz:=Lh (HE0.out.trans HER.out);clear hz hri bz
   go_wp2_with fail
   exact bodyPost_ret (v:=.agg #[.int .i64 0,.int .i64 0]) (by simp [results,Tryz.results12,go_sem,x0',x1']) rfl ⟨by rw [HF0.out,HF1.out],put2x HEz.out (by omega) _ _⟩
  ·have h2:(i:Int)<(n:Int):=by omega
   have h0:(0:Int)<=(i:Int):=by omega
   rcases hab with h | ⟨b,o,rfl⟩
   ·omega
   obtain ⟨g,hg⟩:∃ g,ops[i]?=some g:=⟨_,List.getElem?_eq_getElem (by rw [Hl.out];omega)⟩;obtain ⟨a1,n1,c1,a2,n2,c2,e0,e1,e2,e3,e4,e5,hL⟩:=(HO.out.ext HER.out).at i g hg;have lb:=World.block_lt_of_cell? wr ⟨b,o+i*6,none⟩ e0;have hst:=opsCode_step qb bi ops i g hg;rw [<-hri] at hst;have HCO:=Lh (fun wx (hx:Ext wr wx)=>badOp_any g a1 n1 c1 a2 n2 c2 qb bi wx (hL.ext hx) (by omega) (by omega) (by omega));obtain ⟨oc,hoc⟩:∃ x,opCode g qb bi=x:=⟨_,rfl⟩;rw [hoc] at HCO hst;have Hst:=Lh hst;obtain ⟨kd,kk',ctl,qq,bb,cnd⟩:=g;simp only at e0 e1 e2 e3 e4 e5 HCO;clear hst hoc hri hg hL;have hE0d:Ext wr wr.drew:=Below.drew (Ext.refl _)
   go_wp2_with fail
   go_region_held3 (fun w'=>w'.cell? ⟨w.heap.size,0,none⟩=some (.int .i64 qb)/\w'.cell? ⟨w.heap.size,1,none⟩=some (.int .i64 bi)/\w'.cell? ⟨w.heap.size,2,none⟩=some (.slice (some ⟨b,o,none⟩) n cp)/\w'.cell? ⟨b,o+i*6,none⟩=some (.int .i64 kd)/\w'.cell? ⟨b,o+i*6+1,none⟩=some (.int .i64 kk')/\w'.cell? ⟨b,o+i*6+2,none⟩=some (.slice a1 n1 c1)/\w'.cell? ⟨b,o+i*6+3,none⟩=some (.int .i64 qq)/\w'.cell? ⟨b,o+i*6+4,none⟩=some (.int .i64 bb)/\w'.cell? ⟨b,o+i*6+5,none⟩=some (.slice a2 n2 c2))
    (refine ⟨cell_ext (w:=wr) v0 ?_,cell_ext (w:=wr) v1 ?_,cell_ext (w:=wr) v2 ?_,cell_ext (w:=wr) e0 ?_,cell_ext (w:=wr) e1 ?_,cell_ext (w:=wr) e2 ?_,cell_ext (w:=wr) e3 ?_,cell_ext (w:=wr) e4 ?_,cell_ext (w:=wr) e5 ?_⟩<;>(repeat (first | assumption | refine Below.drew ?_)))
    (first | (go_at_call 39;refine (HCO.out _ (by assumption)).mono ?_;rintro e w6 ⟨rfl,hx6⟩;have he6:Ext wr w6:=Ext.trans (by assumption) hx6))
   have HE6:=Lh (HER.out.trans he6);clear v0 v1 v2 e0 e1 e2 e3 e4 e5 hE0d he6 hx6
   by_cases hc0:oc=0
   ·have hcb:=nf' hc0
    have hz:(r0,r1)=opsCode qb bi (i+1) (ops.drop (i+1)):=by rw [Hst.out,if_neg (by simp [hc0])]
    have HF:=Lh hz;clear hz hc0 Hst
    go_wp2_with fail
    go_roundg (n-(i+1))
    case measure=>omega
    case rel=>exact ⟨HE6.out,i+1,by go_num,by omega,rfl,HF.out⟩
   ·have hcb:=nt hc0
    have hz:(r0,r1)=(oc,(i:Int)):=by rw [Hst.out,if_pos hc0]
    have HF0:Hid (r0=oc):=congrArg Prod.fst hz;have HF1:Hid (r1=(i:Int)):=congrArg Prod.snd hz;clear hz hc0 Hst
    go_wp2_with fail
    refine (rfault_any oc (i:Int) _).mono ?_;rintro e wz ⟨rfl,hxz⟩;have bz:=HFt.out.ext (HE6.out.trans hxz);have x0':=bz.x0;have x1':=bz.x1;have g0':=bz.f 0;have g1':=bz.f 1;have HEz:=Lh (HE0.out.trans (HE6.out.trans hxz));clear bz
    go_wp2_with fail
    exact bodyPost_ret (v:=.agg #[.int .i64 oc,.int .i64 (i:Int)]) (by simp [results,Tryz.results12,go_sem,x0',x1']) rfl ⟨by rw [HF0.out,HF1.out],put2x HEz.out (by omega) _ _⟩
theorem opCode_kind {g:Gop} {q b:Int} (h:opCode g q b=0):1<=g.kind/\g.kind<=6:=by
 unfold opCode at h
 by_cases hk:g.kind<1\/6<g.kind
 ·rw [if_pos hk] at h;exact absurd h (by decide)
 ·omega
theorem opsCode_zero (q b:Int) (ops:List Gop):∀ i,(opsCode q b i ops).1=0->opsCode q b i ops=(0,0)/\∀ g ∈ ops,opCode g q b=0:=by
 induction ops with
 | nil=>exact fun _ _=>⟨rfl,fun g hg=>by cases hg⟩
 | cons o r ih =>
  intro i h;rw [opsCode] at h ⊢
  by_cases ho:opCode o q b=0
  ·rw [if_neg (by simp [ho])] at h ⊢
   obtain ⟨e1,e2⟩:=ih (i+1) h
   exact ⟨e1,fun g hg=>by
    rcases List.mem_cons.1 hg with rfl | hg
    ·exact ho
    ·exact e2 g hg⟩
  ·rw [if_pos ho] at h
   exact absurd h ho
theorem chk_zero {c:Gci} (h:(chk c).1=0):chk c=(0,0)/\1<=c.qubits/\c.qubits<=12/\0<=c.bits/\c.bits<=12/\c.ops.length<=4096/\∀ g ∈ c.ops,opCode g c.qubits c.bits=0:=by
 unfold chk at h ⊢
 by_cases h1:c.qubits<1\/12<c.qubits
 ·rw [if_pos h1] at h;exact absurd h (by decide)
 rw [if_neg h1] at h ⊢
 by_cases h2:c.bits<0\/12<c.bits
 ·rw [if_pos h2] at h;exact absurd h (by decide)
 rw [if_neg h2] at h ⊢
 by_cases h3:4096<c.ops.length
 ·rw [if_pos h3] at h;exact absurd h (by decide)
 rw [if_neg h3] at h ⊢;obtain ⟨e1,e2⟩:=opsCode_zero _ _ _ _ h;exact ⟨e1,by omega,by omega,by omega,by omega,by omega,e2⟩
def purF:Nat->List Gop->Int × Int
 | _,[]=>(0,0)
 | i,o :: r=>if 5<=o.kind\/0<o.cnd.length then (15,(i:Int)) else purF (i+1) r
def pur (c:Gci):Int × Int:=if (chk c).1≠0 then chk c else purF 0 c.ops
theorem purF_step (ops:List Gop) (i:Nat) (g:Gop) (h:ops[i]?=some g):purF i (ops.drop i)=if 5<=g.kind\/0<g.cnd.length then (15,(i:Int)) else purF (i+1) (ops.drop (i+1)):=by
 obtain ⟨hi,e⟩:=List.getElem?_eq_some_iff.1 h;rw [List.drop_eq_getElem_cons hi,purF,e]
theorem purF_end (ops:List Gop) (i:Nat) (h:ops.length<=i):purF i (ops.drop i)=(0,0):=by
 rw [List.drop_eq_nil_of_le h];rfl
theorem meets_any (k0 k1:Int) (a1:Option Addr) (n1 c1:Nat) (k3 k4:Int) (a2:Option Addr) (n2 c2:Nat) (w:World) (h1:1<=k0) (h6:k0<=6) :
  Calls Tryz.prog 131 #[.agg #[.int .i64 k0,.int .i64 k1,.slice a1 n1 c1,.int .i64 k3,.int .i64 k4,.slice a2 n2 c2]] w fun e w'=>e=.returned (.bool (decide (5<=k0)))/\Ext w w':=by
 by_cases h5:k0=5
 ·have e:decide (5<=k0)=true:=dt (by omega)
  have b5:=bt' h5;rw [e];clear e h5 h1 h6
  go_enter Tryz.func131,Tryz.ntmps131
  go_wp2
  go_ret
  exact ⟨rfl,ext_al _ _⟩
 ·have b5:=bf h5
  have e:decide (5<=k0)=(k0 == 6):=by
   by_cases h:k0=6
   ·rw [bt' h];exact dt (by omega)
   ·rw [bf h];exact df (by omega)
  rw [e];clear e h5 h1 h6
  go_enter Tryz.func131,Tryz.ntmps131
  go_wp2
  go_ret
  exact ⟨rfl,ext_al _ _⟩
theorem Pure_any (c:Gci) (ao:Option Addr) (n cp:Nat) (w:World) (h:OpsAt w ao n c.ops) (hn:n<=cp) (hcp:cp<=9223372036854775807) (hS:Shp w) :
  Calls Tryz.prog 85 #[.agg #[.int .i64 c.qubits,.int .i64 c.bits,.slice ao n cp]] w fun e w'=>e=.returned (.agg #[.int .i64 (pur c).1,.int .i64 (pur c).2])/\Ext w w':=by
 obtain ⟨r,hr⟩:∃ r,pur c=r:=⟨_,rfl⟩;rw [hr];obtain ⟨r0,r1⟩:=r;unfold pur at hr;obtain ⟨qb,bi,ops⟩:=c;obtain ⟨f,hf⟩:∃ f,chk ⟨qb,bi,ops⟩=f:=⟨_,rfl⟩;obtain ⟨f0,f1⟩:=f
 have hz0:f0=0->f1=0/\∀ g ∈ ops,1<=g.kind/\g.kind<=6:=by
  intro h0;obtain ⟨e1,_,_,_,_,_,e2⟩:=chk_zero (c:=⟨qb,bi,ops⟩) (by rw [hf];exact h0);rw [hf] at e1;exact ⟨congrArg Prod.snd e1,fun g hg=>opCode_kind (e2 g hg)⟩
 have Hz0:=Lh hz0;rw [hf] at hr;have Hf:=Lh hf;have E0:=(ext_al w (.cells #[.int .i64 qb,.int .i64 bi,.slice ao n cp] 24)).trans (ext_al _ (.cells #[.int .i64 0,.int .i64 0] 29));have bC:CiB ((w.alloc (.cells #[.int .i64 qb,.int .i64 bi,.slice ao n cp] 24)).alloc (.cells #[.int .i64 0,.int .i64 0] 29)) w.heap.size qb bi ao n cp:=CiB.ext ⟨heap_alloc_new w _⟩ (ext_al _ _)
 have bF:FtB ((w.alloc (.cells #[.int .i64 qb,.int .i64 bi,.slice ao n cp] 24)).alloc (.cells #[.int .i64 0,.int .i64 0] 29)) (w.heap.size+1) 0 0:=⟨by
  have:=heap_alloc_new (w.alloc (.cells #[.int .i64 qb,.int .i64 bi,.slice ao n cp] 24)) (.cells #[.int .i64 0,.int .i64 0] 29)
  simpa using this⟩
 have Hl:=Lh h.1;simp only at hr Hl ⊢;have HE0:=Lh E0;have HO:=Lh (h.ext E0);have HC:=Lh bC;have HFt:=Lh bF;have HS:=Lh (hS.ext E0);have m0:=bC.x0;have m1:=bC.x1;have m2:=bC.x2;have Hr:=Lh hr
 have hab:n=0\/∃ b o,ao=some ⟨b,o,none⟩:=by
  by_cases h0:n=0
  ·exact Or.inl h0
  ·exact Or.inr (HO.out.some_of (by omega))
 clear h E0 bC bF hr hf hz0 hS
 go_enter Tryz.func85,Tryz.ntmps85
 go_wp2_with fail
 generalize (w.alloc (.cells #[.int .i64 qb,.int .i64 bi,.slice ao n cp] 24)).alloc (.cells #[.int .i64 0,.int .i64 0] 29)=W0 at *;have HK:=Lh (Check_any ⟨qb,bi,ops⟩ ao n cp W0 HO.out hn hcp HS.out);rw [Hf.out] at HK;refine HK.out.mono ?_;rintro e w1 ⟨rfl,hx1⟩;have Ef:=ext_al w1 (.cells #[.int .i64 f0,.int .i64 f1] 29);have bf1:FtB (w1.alloc (.cells #[.int .i64 f0,.int .i64 f1] 29)) w1.heap.size f0 f1:=⟨heap_alloc_new w1 _⟩;have q0:=bf1.x0;have q1:=bf1.x1;have HX1:=Lh (hx1.trans Ef);have Hf1:=Lh bf1;have bz:=HFt.out.ext HX1.out;have x0':=bz.x0;have x1':=bz.x1;have g0':=bz.f 0;have g1':=bz.f 1;have bc:=HC.out.ext HX1.out;have v2:=bc.x2;clear bz bc m0 m1 m2 hx1 Ef bf1 HK Hf
 by_cases hc0:f0=0
 ·obtain ⟨hf1,hkinds⟩:=Hz0.out hc0
  have hr1:=Hr.out;rw [if_neg (by simp [hc0])] at hr1;have Hr1:=Lh hr1;have Hkinds:=Lh hkinds;have hcb:=nf' hc0;have Hc0:=Lh hc0;have Hf1z:=Lh hf1;clear hr1 Hr hkinds hc0 hf1 Hz0
  go_wp2_with fail
  generalize w1.alloc (.cells #[.int .i64 f0,.int .i64 f1] 29)=W1 at *;generalize w1.heap.size=FB at *;clear q0 q1 x0' x1' g0' g1' v2
  go_loopg [15] n (fun kk sN wr=>Ext W1 wr/\∃ i:Nat,sN=.int .i64 (i:Int)/\i<=n/\n-i=kk/\(r0,r1)=purF i (ops.drop i))
  case atStart=>exact ⟨Ext.refl _,0,rfl,by omega,by omega,Hr1.out.symm⟩
  case round =>
   obtain ⟨hER,i,rfl,hi,hk,hri⟩:=hrel;have HER:=Lh hER;have HE2:=Lh (HX1.out.trans hER);have bz:=HFt.out.ext HE2.out;have x0':=bz.x0;have x1':=bz.x1;have g0':=bz.f 0;have g1':=bz.f 1;have bc:=HC.out.ext HE2.out;have v2:=bc.x2;have bq:=Hf1.out.ext hER;have q0:=bq.x0;have q1:=bq.x1;have HEz:=Lh (HE0.out.trans HE2.out);clear hER bz bc bq
   by_cases hin:i=n
   ·have h2:¬ (i:Int)<(n:Int):=by omega
    have hz:(r0,r1)=((0:Int),(0:Int)):=by rw [hri];exact purF_end ops i (by rw [Hl.out];omega)
    have HF0:Hid (r0=0):=congrArg Prod.fst hz;have HF1:Hid (r1=0):=congrArg Prod.snd hz;clear hz hri
    go_wp2_with fail
    exact bodyPost_ret (v:=.agg #[.int .i64 0,.int .i64 0]) (by simp [results,Tryz.results85,go_sem,x0',x1']) rfl ⟨by rw [HF0.out,HF1.out],put2x HEz.out (by omega) _ _⟩
   ·have h2:(i:Int)<(n:Int):=by omega
    have h0:(0:Int)<=(i:Int):=by omega
    rcases hab with h | ⟨b,o,rfl⟩
    ·omega
    obtain ⟨g,hg⟩:∃ g,ops[i]?=some g:=⟨_,List.getElem?_eq_getElem (by rw [Hl.out];omega)⟩;obtain ⟨a1,n1,c1,a2,n2,c2,e0,e1,e2,e3,e4,e5,hL⟩:=(HO.out.ext HE2.out).at i g hg;have hkd:=Hkinds.out g (List.mem_of_getElem? hg);have hst:=purF_step ops i g hg;rw [<-hri,hL.i2.1] at hst;have Hst:=Lh hst;have Ea:=ext_al wr (.cells #[.int .i64 g.kind,.int .i64 g.k,.slice a1 n1 c1,.int .i64 g.q,.int .i64 g.bit,.slice a2 n2 c2] 52);have bO:=opbx_new wr g.kind g.k a1 n1 c1 g.q g.bit a2 n2 c2;have HM:=Lh (meets_any g.kind g.k a1 n1 c1 g.q g.bit a2 n2 c2 (wr.alloc (.cells #[.int .i64 g.kind,.int .i64 g.k,.slice a1 n1 c1,.int .i64 g.q,.int .i64 g.bit,.slice a2 n2 c2] 52)) hkd.1 hkd.2);obtain ⟨kd,kk',ctl,qq,bb,cnd⟩:=g;simp only at e0 e1 e2 e3 e4 e5 HM bO Ea Hst;obtain ⟨mt,hmt⟩:∃ x,decide (5<=kd)=x:=⟨_,rfl⟩;rw [hmt] at HM;have p0:=bO.x0;have p1:=bO.x1;have p2:=bO.x2;have p3:=bO.x3;have p4:=bO.x4;have p5:=bO.x5;have HO5:=Lh bO;have HEa:=Lh Ea;clear hst hri hg hL bO Ea hkd
    go_wp2_with fail
    generalize wr.alloc (.cells #[.int .i64 kd,.int .i64 kk',.slice a1 n1 c1,.int .i64 qq,.int .i64 bb,.slice a2 n2 c2] 52)=w5 at *;refine HM.out.mono ?_;rintro e w6 ⟨rfl,hx6⟩;have HE6:=Lh (HEa.out.trans hx6);have HE7:=Lh (HE2.out.trans HE6.out);have s5:=(HO5.out.ext hx6).x5;have bz:=HFt.out.ext HE7.out;have y0':=bz.x0;have y1':=bz.x1;have j0':=bz.f 0;have j1':=bz.f 1;have HEy:=Lh (HE0.out.trans HE7.out);clear p0 p1 p2 p3 p4 p5 e0 e1 e2 e3 e4 e5 v2 x0' x1' g0' g1' bz q0 q1
    cases mt
    ·have h5:=of_decide_eq_false hmt
     by_cases hn2:0<n2
     ·have hi2:(0:Int)<(n2:Int):=by omega
      have hz:(r0,r1)=((15:Int),(i:Int)):=by rw [Hst.out,if_pos (Or.inr hn2)]
      have HF0:Hid (r0=15):=congrArg Prod.fst hz;have HF1:Hid (r1=(i:Int)):=congrArg Prod.snd hz;clear hz Hst hmt h5
      go_wp2_with fail
      exact bodyPost_ret (v:=.agg #[.int .i64 15,.int .i64 (i:Int)]) (by simp [results,Tryz.results85,go_sem,y0',y1']) rfl ⟨by rw [HF0.out,HF1.out],put2x HEy.out (by omega) _ _⟩
     ·have hi2:¬ (0:Int)<(n2:Int):=by omega
      have hz:(r0,r1)=purF (i+1) (ops.drop (i+1)):=by rw [Hst.out,if_neg (by omega)]
      have HF:=Lh hz;clear hz Hst hmt h5
      go_wp2_with fail
      go_roundg (n-(i+1))
      case measure=>omega
      case rel=>exact ⟨HER.out.trans HE6.out,i+1,by go_num,by omega,rfl,HF.out⟩
    ·have h5:=of_decide_eq_true hmt
     have hz:(r0,r1)=((15:Int),(i:Int)):=by rw [Hst.out,if_pos (Or.inl h5)]
     have HF0:Hid (r0=15):=congrArg Prod.fst hz;have HF1:Hid (r1=(i:Int)):=congrArg Prod.snd hz;clear hz Hst hmt h5
     go_wp2_with fail
     exact bodyPost_ret (v:=.agg #[.int .i64 15,.int .i64 (i:Int)]) (by simp [results,Tryz.results85,go_sem,y0',y1']) rfl ⟨by rw [HF0.out,HF1.out],put2x HEy.out (by omega) _ _⟩
 ·have hcb:=nt hc0
  have hr1:=Hr.out;rw [if_pos (by exact hc0)] at hr1;have HF0:Hid (r0=f0):=(congrArg Prod.fst hr1).symm;have HF1:Hid (r1=f1):=(congrArg Prod.snd hr1).symm;have HEz:=Lh (HE0.out.trans HX1.out);clear hr1 Hr hc0 Hz0
  go_wp2_with fail
  exact bodyPost_ret (v:=.agg #[.int .i64 f0,.int .i64 f1]) (by simp [results,Tryz.results85,go_sem,x0',x1']) rfl ⟨by rw [HF0.out,HF1.out],put2x HEz.out (by omega) _ _⟩
theorem pigeon:∀ (k:Nat) (l:List Int),l.Nodup->(∀ c ∈ l,0<=c/\c<(k:Int))->l.length<=k:=by
 intro k
 induction k with
 | zero =>
  intro l _ h
  cases l with
  | nil=>simp
  | cons a r=>have:=h a (by simp);omega
 | succ k ih =>
  intro l hn h
  by_cases hm:(k:Int) ∈ l
  ·have h1:=ih (l.erase (k:Int)) (hn.erase _) (fun c hc=>by
    have hc':=hn.mem_erase_iff.1 hc;have:=h c hc'.2;have:=hc'.1
    omega)
   have h2:=List.length_erase_of_mem hm;omega
  ·have:=ih l hn (fun c hc=>by
    have h3:=h c hc
    have:c≠(k:Int):=fun e=>hm (e ▸ hc)
    omega)
   omega
theorem below_iff {n b:Int}:below n b=true↔0<=n/\n<b:=by simp [below]
theorem ctlCode_zero (q n:Int):∀ (l s:List Int),ctlCode q n s l=0->(∀ c ∈ l,0<=c/\c<n)/\(s.Nodup->(s++l).Nodup):=by
 intro l
 induction l with
 | nil=>intro s _;exact ⟨by simp,by simp⟩
 | cons c r ih =>
  intro s h;rw [ctlCode] at h
  split at h
  ·omega
  ·rename_i hb
   split at h
   ·omega
   ·rename_i hc
    obtain ⟨h1,h2⟩:=ih _ h
    have hb':below c n=true:=by cases hx:below c n with
     | true=>rfl
     | false=>exact absurd hx hb
    refine ⟨?_,?_⟩
    ·intro x hx
     rcases List.mem_cons.1 hx with rfl | hx
     ·exact below_iff.1 hb'
     ·exact h1 x hx
    ·intro hs
     have hcs:c ∉ s:=fun e=>hc (Or.inr e)
     have:=h2 (by
      rw [List.nodup_append];refine ⟨hs,by simp,?_⟩;intro a ha b hb e
      simp at hb
      subst hb;subst e
      exact hcs ha)
     simpa using this
theorem fit_of_code {o:Gop} {n b:Int} (hn:n<=12) (hb0:0<=b) (hb:b<=12) (h:opCode o n b=0):LvFit o/\placesFit o/\o.ctl.length<=12/\(∀ c ∈ o.ctl,0<=c/\c<n):=by
 unfold opCode at h
 split at h
 ·omega
 rename_i hk
 split at h
 ·omega
 split at h
 ·omega
 rename_i hq
 split at h
 ·omega
 split at h
 ·exact absurd h (by assumption)
 rename_i hc
 split at h
 ·omega
 rename_i hbit
 split at h
 ·omega
 rename_i hcn
 have hc0:ctlCode o.q n [] o.ctl=0:=by
  by_cases e:ctlCode o.q n [] o.ctl=0
  ·exact e
  ·exact absurd e hc
 obtain ⟨z1,z2⟩:=ctlCode_zero o.q n o.ctl [] hc0
 have z3:o.ctl.Nodup:=by simpa using z2 (by simp)
 have z4:=pigeon 12 o.ctl z3 (fun c hc=>by have:=z1 c hc;omega)
 have q1:0<=o.q/\o.q<12:=by
  unfold fitsB at hq
  split at hq
  ·have:below o.q n=true:=by simpa using hq
   have:=below_iff.1 this;omega
  ·have:o.q=0:=by simpa using hq
   omega
 have b1:0<=o.bit/\o.bit<=12/\(o.kind=5->o.bit<12):=by
  unfold fitsB at hbit
  split at hbit
  ·have:below o.bit b=true:=by simpa using hbit
   have:=below_iff.1 this;omega
  ·have:o.bit=0:=by simpa using hbit
   omega
 have c1:o.cnd.length<=24/\∀ t ∈ o.cnd,t≠0/\-12<=t/\t<=12:=by
  have:cndOk b o.cnd=true:=by simpa using hcn
  unfold cndOk at this;simp only [Bool.and_eq_true,decide_eq_true_eq,List.all_eq_true] at this;refine ⟨this.1,fun t ht=>?_⟩;have ht':=this.2 t ht;unfold termOk at ht'
  simp at ht'
  omega
 refine ⟨⟨by omega,⟨b1.1,b1.2.1⟩,fun t ht=>(c1.2 t ht).2,by omega,c1.1,?_⟩,⟨fun t ht=>by have:=z1 t ht;omega,q1.2,b1.1,fun t ht=>(c1.2 t ht).1⟩,z4,z1⟩;intro t ht;unfold plP at ht;simp only [List.mem_append] at ht
 rcases ht with ((ht | ht) | ht) | ht
 ·have:=z1 t ht;omega
 ·unfold tchQ at ht
  split at ht
  ·simp at ht
  ·simp at ht;omega
 ·unfold tchB at ht
  split at ht
  ·simp at ht;have:=b1.2.2 (by assumption);omega
  ·simp at ht
 ·unfold tchC at ht
  simp only [List.mem_map] at ht;obtain ⟨u,hu,rfl⟩:=ht;have:=c1.2 u hu;unfold bitOf
  split<;>omega
theorem cthen {w w1:World} (he:Ext w w1) (o:Obj):Ext w (w1.alloc o):=he.trans (ext_al _ _)
theorem cput {w W:World} {g o:Nat} (h:Ext w W) (hg:w.heap.size<=g) (u:Value):Ext w (W.setCell ⟨g,o,none⟩ u):=Below.setCell h (p:=⟨g,o,none⟩) hg u
theorem cdrew {w W:World} (h:Ext w W):Ext w W.drew:=Below.drew h
theorem byte_at {T:List UInt8} {k:Nat} {c:UInt8} (h:T[k]?=some c) (hs:k<(⟨T.toArray⟩:ByteArray).size):(⟨T.toArray⟩:ByteArray)[k]'hs=c:=by
 have h1:k<T.length:=(List.getElem?_eq_some_iff.1 h).1;have h2:T[k]=c:=(List.getElem?_eq_some_iff.1 h).2;rw [<-h2]
 rfl
structure PrFit (o:Gop):Prop where
 kd:1<=o.kind/\o.kind<=6
 k:0<=o.k/\o.k<100
 q:0<=o.q/\o.q<100
 bit:0<=o.bit/\o.bit<100
 ctl:∀ c ∈ o.ctl,0<=c/\c<100
 few:o.ctl.length<=12
 cnd:∀ t ∈ o.cnd,t≠0/\-12<=t/\t<=12
 cfew:o.cnd.length<=24
theorem prFit_of_code {o:Gop} {n b:Int} (hn:n<=12) (hb0:0<=b) (hb:b<=12) (h:opCode o n b=0):PrFit o:=by
 obtain ⟨f1,f2,f3,f4⟩:=fit_of_code hn hb0 hb h
 have hk:0<=o.k/\o.k<100:=by
  unfold opCode at h
  split at h
  ·omega
  split at h
  ·omega
  rename_i hk
  unfold fitsB at hk
  split at hk
  ·have:below o.k 16=true:=by simpa using hk
   have:=below_iff.1 this;omega
  ·have:o.k=0:=by simpa using hk
   omega
 have hq:0<=o.q:=by
  unfold opCode at h
  split at h
  ·omega
  split at h
  ·omega
  split at h
  ·omega
  rename_i hk
  unfold fitsB at hk
  split at hk
  ·have:below o.q n=true:=by simpa using hk
   have:=below_iff.1 this;omega
  ·have:o.q=0:=by simpa using hk
   omega
 have:=f1.bit;exact ⟨f1.kd,hk,⟨hq,by have:=f2.2.1;omega⟩,⟨this.1,by omega⟩,fun c hc=>⟨(f4 c hc).1,by have:=(f4 c hc).2;omega⟩,f3,fun t ht=>⟨f2.2.2.2 t ht,f1.cnd t ht⟩,f1.few⟩
theorem row_put {W:World} {g k:Nat} {cs cs':Array Value} {t:TypeId} {u:Value} (h:W.heap[g]?=some (.cells cs t (0,0))) (e:cs.setIfInBounds k u=cs'):(W.setCell ⟨g,k,none⟩ u).heap[g]?=some (.cells cs' t (0,0)):=by
 rw [setCell_eq_setRow W g k _ _ _ _ h,setRow_heap W g _ _ _ _ h,e]
theorem row_far {W:World} {g g' k:Nat} {x:Obj} {u:Value} (h:W.heap[g]?=some x) (hne:g'≠g):(W.setCell ⟨g',k,none⟩ u).heap[g]?=some x:=by
 rw [Below.heap_setCell W ⟨g',k,none⟩ u g (fun e=>hne e.symm)];exact h
theorem str_append (a b:List UInt8):(⟨a.toArray⟩:ByteArray)++(⟨b.toArray⟩:ByteArray)=⟨(a++b).toArray⟩:=by
 apply ByteArray.ext
 simp [ByteArray.data_append]
theorem s_info:(Tryz.prog.info? 9).map (fun i=>(i.zero,i.size,i.bytes))=some (some (.string ⟨#[]⟩),1,16):=by kernel_rfl
def sC (l:List (List UInt8)):List Value:=l.map fun x=>Value.string ⟨x.toArray⟩
theorem sC_length (l:List (List UInt8)):(sC l).length=l.length:=by simp [sC]
theorem sC_snoc (l:List (List UInt8)) (x:List UInt8):sC (l++[x])=sC l++[.string ⟨x.toArray⟩]:=by simp [sC]
def StrsAt (w:World) (ao:Option Addr) (n:Nat) (l:List (List UInt8)):Prop :=
 l.length=n/\(n=0\/∃ b o,ao=some ⟨b,o,none⟩/\b<w.heap.size/\∀ t,t<n->w.cell? ⟨b,o+t,none⟩=some (.string ⟨(l.getD t []).toArray⟩))
theorem StrsAt.ext {w w':World} {ao:Option Addr} {n:Nat} {l:List (List UInt8)} (h:StrsAt w ao n l) (k:Ext w w'):StrsAt w' ao n l:=by
 refine ⟨h.1,?_⟩
 rcases h.2 with h0 | ⟨b,o,e,hb,hc⟩
 ·exact Or.inl h0
 ·exact Or.inr ⟨b,o,e,Nat.lt_of_lt_of_le hb k.size,fun t ht=>(k.cell (p:=⟨b,o+t,none⟩) hb).trans (hc t ht)⟩
theorem StrsAt.at {w:World} {ao:Option Addr} {n:Nat} {l:List (List UInt8)} (h:StrsAt w ao n l) (hn:0<n):∃ b o,ao=some ⟨b,o,none⟩/\b<w.heap.size/\∀ t,t<n->w.cell? ⟨b,o+t,none⟩=some (.string ⟨(l.getD t []).toArray⟩):=by
 rcases h.2 with h0 | h
 ·omega
 ·exact h
theorem strs_of_own {w:World} {base n:Nat} {v:Value} {l:List (List UInt8)} (h:w.ownsRow base 9 1 v n (sC l)):∃ (a:Option Addr) (c:Nat),v=.slice a n c/\n<=c/\c<=maxLen/\StrsAt w a n l:=by
 have hl:l.length=n:=by have:=h.1;simpa [sC] using this
 rcases h.2 with ⟨rfl,rfl⟩ | ⟨g,cap,cur,rfl,_,hg,hnc,hcm,_,htk⟩
 ·exact ⟨none,0,rfl,Nat.le_refl _,Nat.zero_le _,⟨hl,Or.inl rfl⟩⟩
 ·refine ⟨some ⟨g,0,none⟩,cap,rfl,hnc,hcm,⟨hl,Or.inr ⟨g,0,rfl,(gS.1 hg).1,fun t ht=>?_⟩⟩⟩
  rw [cell_of_row w g (0+t) cur _ (0,0) hg,Nat.zero_add]
  have h1:(sC l)[t]?=cur.toList[t]?:=by
   rw [<-htk,List.getElem?_take,if_pos (by omega)]
  rw [<-Array.getElem?_toList,<-h1];simp only [sC,List.getElem?_map,List.getD_eq_getElem?_getD];rw [List.getElem?_eq_getElem (by omega)]
  rfl
theorem new_s (w:World) (x:ByteArray) (e:TypeId):∀ j u,([Value.string x]:List Value)[j]?=some u->(w.alloc (.cells #[.string x] e)).cell? ((⟨w.heap.size,0,none⟩:Addr).add j)=some u:=by
 intro j u hu
 have hadd:(⟨w.heap.size,0,none⟩:Addr).add j=⟨w.heap.size,j,none⟩:=by unfold Addr.add;split<;>simp_all
 rw [hadd,cell_of_row _ _ j _ _ (0,0) (heap_alloc_new w _)]
 match j,hu with
 | 0,hu=>simpa using hu
 | k+1,hu=>simp at hu
theorem one_s (x:ByteArray):∀ u ∈ ([Value.string x]:List Value),u.oneCell'=true:=by
 intro u hu;simp only [List.mem_singleton] at hu;subst hu
 rfl
theorem piece (T:List UInt8) (fr i:Nat):(⟨T.toArray⟩:ByteArray).extract fr i=⟨((T.drop fr).take (i-fr)).toArray⟩:=by
 apply ByteArray.ext
 rw [ByteArray.data_extract]
 simp [List.take_drop]
theorem apN_take:∀ (a b:List UInt8) (i:Nat) (x y:UInt8),a[i]?=some x->b[i]?=some y->apN (a.take (i+1)) (b.take (i+1))=apN (a.take i) (b.take i)+(if apL x y then 1 else 0)
 | [],_,_,_,_,h,_=>by simp at h
 | _ :: _,[],_,_,_,_,h=>by simp at h
 | a :: r,b :: s,0,x,y,h,k=>by
  have e1:a=x:=by simpa using h
  have e2:b=y:=by simpa using k
  subst e1 e2
  simp [apN]
 | a :: r,b :: s,i+1,x,y,h,k=>by
  have:=apN_take r s i x y (by simpa using h) (by simpa using k);simp only [List.take_succ_cons,apN] at this ⊢;omega
theorem apN_le:∀ (a b:List UInt8),apN a b<=a.length
 | [],[]=>Nat.le_refl _
 | [],_ :: _=>Nat.le_refl _
 | _ :: _,[]=>Nat.zero_le _
 | a :: r,b :: s=>by
  have:=apN_le r s;rw [apN,List.length_cons]
  split<;>omega
theorem let_at {l:List UInt8} {i:Nat} {x:UInt8} (h:l[i]?=some x) (hsz:i<(⟨l.toArray⟩:ByteArray).size):((⟨l.toArray⟩:ByteArray)[i]'hsz).toNat=x.toNat:=by rw [byte_at h hsz]
theorem str_lt {l:List UInt8} {i:Nat} (h:i<l.length):i<(⟨l.toArray⟩:ByteArray).size:=by simpa [ByteArray.size] using h
theorem u8_ne {x:UInt8} {k:Nat} (hk:k<256) (h:x≠UInt8.ofNat k):¬ ((x.toNat:Int)=(k:Int)):=fun e=>h (by
 apply UInt8.toNat_inj.1
 rw [UInt8.toNat_ofNat']
 omega)
theorem u8_neq (x k:UInt8):((x.toNat:Int) != (k.toNat:Int))=!(x == k):=by
 by_cases e:x=k
 ·rw [e];simp
 ·rw [nt (fun h=>e (UInt8.toNat_inj.1 (by omega))),beq_eq_false_iff_ne.2 e];rfl
theorem u8_eqb (x k:UInt8):((x.toNat:Int) == (k.toNat:Int))=(x == k):=by
 by_cases e:x=k
 ·rw [e];simp
 ·rw [bf (fun h=>e (UInt8.toNat_inj.1 (by omega))),beq_eq_false_iff_ne.2 e]
theorem Apart_any (a b:List UInt8) (w:World) (hl:a.length=b.length) (hla:a.length<=1000000) :
  Calls Tryz.prog 67 #[.string ⟨a.toArray⟩,.string ⟨b.toArray⟩] w fun e w'=>e=.returned (.bool (((apN a b:Nat):Int).tmod 2 == 1))/\Ext w w':=by
 obtain ⟨n,hn⟩:∃ n,a.length=n:=⟨_,rfl⟩;have Hn:=Lh hn;have Hl:=Lh hl;have Hla:=Lh hla
 have hsa:(⟨a.toArray⟩:ByteArray).size=n:=by rw [<-hn];simp [ByteArray.size]
 have HR:Hid (∀ m:Nat,m=apN a b->(((m:Int).tmod 2 == 1))=(((apN a b:Nat):Int).tmod 2 == 1)):=Lh (fun m h=>by rw [h]);clear hn hl hla
 go_enter Tryz.func67,Tryz.ntmps67
 go_wp2_with fail
 go_loopg [5,6] n (fun k s5 s6 wr=>Ext w wr/\∃ i:Nat,s5=.int .i64 ((apN (a.take i) (b.take i):Nat):Int)/\s6=.int .i64 (i:Int)/\i<=n/\n-i=k)
 case atStart=>exact ⟨Ext.refl _,0,by simp [apN],rfl,Nat.zero_le _,rfl⟩
 case round =>
  obtain ⟨hER,i,rfl,rfl,hi,hk⟩:=hrel;have HER:=Lh hER;have Hk:=Lh hk;clear hER hk
  by_cases hin:i=n
  ·have q1:¬ (i:Int)<(n:Int):=by omega
   have e1:a.take i=a:=List.take_of_length_le (by have:=Hn.out;omega);have e2:b.take i=b:=List.take_of_length_le (by have:=Hn.out;have:=Hl.out;omega);rw [e1,e2];clear e1 e2 hin hi HR
   go_wp2_with fail
   go_ret
   exact ⟨rfl,HER.out⟩
  have hlt:i<n:=by omega
  have q1:(i:Int)<(n:Int):=by omega
  have q0:(0:Int)<=(i:Int):=by omega
  obtain ⟨x,hx⟩:∃ x,a[i]?=some x:=⟨_,List.getElem?_eq_getElem (by have:=Hn.out;omega)⟩;obtain ⟨y,hy⟩:∃ y,b[i]?=some y:=⟨_,List.getElem?_eq_getElem (by have:=Hn.out;have:=Hl.out;omega)⟩;have hsz:i<(⟨a.toArray⟩:ByteArray).size:=str_lt (by have:=Hn.out;omega);have hsy:i<(⟨b.toArray⟩:ByteArray).size:=str_lt (by have:=Hn.out;have:=Hl.out;omega);have hg:=let_at hx hsz;have hg':=let_at hy hsy
  have hsb:(⟨b.toArray⟩:ByteArray).size=n:=by have:=Hl.out;rw [<-Hn.out,Hl.out];simp [ByteArray.size]
  have wk:IntKind.i64.wrap ((i:Int)+1)=((i+1:Nat):Int):=by rw [IntKind.wrap_i64];have:=Hn.out;have:=Hla.out;omega
  have Hst:=Lh (apN_take a b i x y hx hy);have hmx:=apN_le (a.take i) (b.take i);obtain ⟨m,hm⟩:∃ m,apN (a.take i) (b.take i)=m:=⟨_,rfl⟩
  have hmb:m<=i:=by rw [<-hm];exact Nat.le_trans hmx (by rw [List.length_take];omega)
  have wm:IntKind.i64.wrap ((m:Int)+1)=((m+1:Nat):Int):=by rw [IntKind.wrap_i64];have:=Hn.out;have:=Hla.out;omega
  rw [hm] at Hst ⊢;have Hlt:=Lh hlt;clear hx hy hm hmx hmb hin hi HR hlt
  by_cases c1:x=73
  ·have t1:((x.toNat:Int) != 73)=false:=nf' (by rw [c1];rfl)
   have HA:Hid (apL x y=false):=Lh (by unfold apL;rw [c1];rfl);clear c1
   go_upto_region 5 with fail
   go_quiet (fail)
   go_wp2_with fail
   go_roundg (n-(i+1))
   case measure=>have:=Hk.out;have:=Hlt.out;omega
   case rel=>exact ⟨HER.out.trans (ext_drewN wr _),i+1,by rw [Hst.out,HA.out];rfl,rfl,Hlt.out,rfl⟩
  have t1:((x.toNat:Int) != 73)=true:=nt (u8_ne (k:=73) (by decide) c1)
  by_cases c2:y=73
  ·have t2:((y.toNat:Int) != 73)=false:=nf' (by rw [c2];rfl)
   have HA:Hid (apL x y=false):=Lh (by unfold apL;rw [c2];simp);clear c1 c2
   go_upto_region 5 with fail
   go_quiet (fail)
   go_wp2_with fail
   go_roundg (n-(i+1))
   case measure=>have:=Hk.out;have:=Hlt.out;omega
   case rel=>exact ⟨HER.out.trans (ext_drewN wr _),i+1,by rw [Hst.out,HA.out];rfl,rfl,Hlt.out,rfl⟩
  have t2:((y.toNat:Int) != 73)=true:=nt (u8_ne (k:=73) (by decide) c2)
  by_cases c3:x=y
  ·have t3:((x.toNat:Int) != (y.toNat:Int))=false:=nf' (by rw [c3])
   have HA:Hid (apL x y=false):=Lh (by unfold apL;rw [c3];simp);clear c1 c2 c3
   go_upto_region 5 with fail
   go_quiet (fail)
   go_wp2_with fail
   go_roundg (n-(i+1))
   case measure=>have:=Hk.out;have:=Hlt.out;omega
   case rel=>exact ⟨HER.out.trans (ext_drewN wr _),i+1,by rw [Hst.out,HA.out];rfl,rfl,Hlt.out,rfl⟩
  have t3:((x.toNat:Int) != (y.toNat:Int))=true:=nt (fun e=>c3 (UInt8.toNat_inj.1 (by omega)));have HA:Hid (apL x y=true):=Lh (by unfold apL;simp [c1,c2,c3]);clear c1 c2 c3
  go_upto_region 5 with fail
  go_quiet (fail)
  go_wp2_with fail
  go_roundg (n-(i+1))
  case measure=>have:=Hk.out;have:=Hlt.out;omega
  case rel=>exact ⟨HER.out.trans (ext_drewN wr _),i+1,by rw [Hst.out,HA.out];rfl,rfl,Hlt.out,rfl⟩
end Go.Proofs.YtlechhmhmakgpaaGreatDoor
