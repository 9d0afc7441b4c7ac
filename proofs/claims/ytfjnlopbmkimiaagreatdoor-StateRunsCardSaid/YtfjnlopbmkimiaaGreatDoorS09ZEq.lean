/-
  Amplitudes in plain numbers: the lowest form of a number; how great an amplitude can be behind n operations; states, gates, outcomes. Nothing of the program stands here. The cells of a row, and of a number of circuits, as a whole: stored, loaded, answered at once. The reference's numbers: digits to the base 10000 in slices of ints. What memory holds; zmade. The reference's numbers: zsign, dcmp. The reference's numbers: dadd. The reference's numbers: dsub.
-/
import Derived.Deep.MidRow
import Derived.Laws.Rows
import Derived.OwnWalk
import Derived.Test.YtfjnlopbmkimiaaGreatDoorS08Ca
namespace Go.Proofs.YtfjnlopbmkimiaaGreatDoor
set_option maxRecDepth 100000
set_option maxHeartbeats 2000000
open Go.RowKit
theorem low_ex:∀ (e:Nat) (a:Int->Int),∃ y:Nm,Low y/\EqN y ⟨a,e⟩/\(Anti a->Anti y.a)
 | 0,a=>⟨⟨a,0⟩,Or.inl rfl,EqN.refl _,id⟩
 | e+1,a=>by
  by_cases h:∃ k,a k % 2=1
  ·exact ⟨⟨a,e+1⟩,Or.inr h,EqN.refl _,id⟩
  ·have hev:∀ k,a k % 2=0:=fun k=>by
    have:¬ a k % 2=1:=fun g=>h ⟨k,g⟩
    omega
   obtain ⟨y,h1,h2,h3⟩:=low_ex e (fun k=>a k / 2);refine ⟨y,h1,h2.trans (fun k=>?_),fun ha=>h3 fun k=>?_⟩
   ·have:=hev k
    show a k / 2*2 ^ (e+1)=a k*2 ^ e
    rw [Int.pow_succ,Int.mul_comm (2 ^ e) 2,<-Int.mul_assoc]
    congr 1
    omega
   ·have h4:=ha k;have h5:=hev k
    show a (k+8) / 2=-(a k / 2)
    omega
noncomputable def lw (x:Nm):Nm:=Classical.choose (low_ex x.e x.a)
theorem lw_low (x:Nm):Low (lw x):=(Classical.choose_spec (low_ex x.e x.a)).1
theorem lw_eq (x:Nm):EqN (lw x) x:=(Classical.choose_spec (low_ex x.e x.a)).2.1
theorem lw_anti {x:Nm} (h:Anti x.a):Anti (lw x).a:=(Classical.choose_spec (low_ex x.e x.a)).2.2 h
theorem lw_one {x z:Nm} (hz:Low z) (h:EqN z x):z=lw x:=low_one hz (lw_low x) (h.trans (lw_eq x).symm)
theorem lw_congr {x y:Nm} (h:EqN x y):lw x=lw y:=lw_one (lw_low x) ((lw_eq x).trans h)
theorem lw_self {x:Nm} (h:Low x):lw x=x:=(lw_one h (EqN.refl x)).symm
def Bd (N:Nat) (x:Nm):Prop:=x.e<=N/\∀ k,(x.a k).natAbs*2 ^ (N-x.e)<2 ^ (2*N+1)
theorem Bd.abs {N:Nat} {x:Nm} (h:Bd N x) (k:Int):(x.a k).natAbs<2 ^ (2*N+1) :=
 Nat.lt_of_le_of_lt (Nat.le_mul_of_pos_right _ (Nat.pow_pos (by decide))) (h.2 k)
theorem Bd.rep {N:Nat} {x:Nm} (h:Bd N x):EqN x ⟨fun k=>x.a k*2 ^ (N-x.e),N⟩:=fun k=>by
 show x.a k*2 ^ N=x.a k*2 ^ (N-x.e)*2 ^ x.e
 rw [Int.mul_assoc,<-Int.pow_add,Nat.sub_add_cancel h.1]
theorem Bd.of_rep {N:Nat} {x:Nm} {A:Int->Int} (hl:Low x) (h:EqN x ⟨A,N⟩) (hA:∀ k,(A k).natAbs<2 ^ (2*N+1)):Bd N x:=by
 have he:x.e<=N:=low_le hl h;refine ⟨he,fun k=>?_⟩;have h1:x.a k*2 ^ N=A k*2 ^ x.e:=h k
 have h2:x.a k*2 ^ (N-x.e)=A k:=by
  have h3:x.a k*2 ^ (N-x.e)*2 ^ x.e=A k*2 ^ x.e:=by rw [Int.mul_assoc,<-Int.pow_add,Nat.sub_add_cancel he,h1]
  exact Int.eq_of_mul_eq_mul_right (two_ne _) h3
 have h4:(x.a k).natAbs*2 ^ (N-x.e)=(A k).natAbs:=by
  rw [<-h2,Int.natAbs_mul,Int.natAbs_pow];rfl
 rw [h4];exact hA k
theorem Bd.up {N:Nat} {x:Nm} (h:Bd N x):Bd (N+1) x:=by
 refine ⟨Nat.le_succ_of_le h.1,fun k=>?_⟩;have h1:=h.2 k;rw [show N+1-x.e=N-x.e+1 by have:=h.1;omega,Nat.pow_succ,<-Nat.mul_assoc,show 2*(N+1)+1=2*N+1+1+1 by omega,Nat.pow_succ,Nat.pow_succ];omega
theorem Bd.le {N M:Nat} {x:Nm} (h:Bd N x) (hm:N<=M):Bd M x:=by
 obtain ⟨d,rfl⟩:∃ d,M=N+d:=⟨M-N,by omega⟩;clear hm
 induction d with
 | zero=>exact h
 | succ d ih=>exact ih.up
theorem Bd.tr {N:Nat} {x:Nm} (h:Bd N x) (m:Int):Bd N (nTr m x):=⟨h.1,fun k=>h.2 (k-m)⟩
theorem Bd.neg {N:Nat} {x:Nm} (h:Bd N x):Bd N (nNeg x):=⟨h.1,fun k=>by show (-(x.a k)).natAbs*_<_;rw [Int.natAbs_neg];exact h.2 k⟩
theorem Bd.zero (N:Nat):Bd N ⟨fun _=>0,0⟩:=⟨Nat.zero_le _,fun k=>by simp;exact Nat.pow_pos (by decide)⟩
theorem Anti.neg' {x:Nm} (h:Anti x.a):Anti (nNeg x).a:=h.neg
theorem Low.neg {x:Nm} (h:Low x):Low (nNeg x):=by
 rcases h with h | ⟨k,hk⟩
 ·exact Or.inl h
 ·exact Or.inr ⟨k,by show (-(x.a k)) % 2=1;omega⟩
theorem anti_add {x y:Nm} (hx:Anti x.a) (hy:Anti y.a):Anti (nAdd x y).a:=fun k=>by
 show x.a (k+8)*2 ^ y.e+y.a (k+8)*2 ^ x.e=-(x.a k*2 ^ y.e+y.a k*2 ^ x.e)
 rw [hx,hy,Int.neg_mul,Int.neg_mul];omega
theorem anti_hf {x:Nm} (hx:Anti x.a):Anti (nHf x).a:=(hx.tr 2).add (hx.tr (-2))
theorem add_rep {x y:Nm} {A B:Int->Int} {N:Nat} (h:EqN x ⟨A,N⟩) (g:EqN y ⟨B,N⟩):EqN (nAdd x y) ⟨addR A B,N⟩ :=
 (EqN.add h g).trans (fun k=>by simp only [nAdd,addR,Int.pow_add];grind)
theorem Bd.hf {N:Nat} {x y:Nm} (hx:Bd N x) (hy:Bd N y):Bd (N+1) (lw (nHf (nAdd x y))):=by
 have h1:=add_rep hx.rep hy.rep;have h2:EqN (nHf (nAdd x y)) ⟨addR (trR 2 (addR (fun k=>x.a k*2 ^ (N-x.e)) (fun k=>y.a k*2 ^ (N-y.e)))) (trR (-2) (addR (fun k=>x.a k*2 ^ (N-x.e)) (fun k=>y.a k*2 ^ (N-y.e)))),N+1⟩:=EqN.hf h1
 refine Bd.of_rep (lw_low _) ((lw_eq _).trans h2) fun k=>?_
 have b:∀ j:Int,(x.a j*2 ^ (N-x.e)+y.a j*2 ^ (N-y.e)).natAbs<2*2 ^ (2*N+1):=fun j=>by
  have c1:=hx.2 j;have c2:=hy.2 j
  have c3:(x.a j*2 ^ (N-x.e)).natAbs=(x.a j).natAbs*2 ^ (N-x.e):=by rw [Int.natAbs_mul,Int.natAbs_pow];rfl
  have c4:(y.a j*2 ^ (N-y.e)).natAbs=(y.a j).natAbs*2 ^ (N-y.e):=by rw [Int.natAbs_mul,Int.natAbs_pow];rfl
  omega
 have b1:=b (k-2);have b2:=b (k - -2)
 show (x.a (k-2)*2 ^ (N-x.e)+y.a (k-2)*2 ^ (N-y.e)+(x.a (k - -2)*2 ^ (N-x.e)+y.a (k - -2)*2 ^ (N-y.e))).natAbs<2 ^ (2*(N+1)+1)
 rw [show 2*(N+1)+1=2*N+1+1+1 by omega,Nat.pow_succ,Nat.pow_succ];omega
def nZ:Nm:=⟨fun _=>0,0⟩
theorem low_nZ:Low nZ:=Or.inl rfl
theorem anti_nZ:Anti nZ.a:=anti_zero
theorem zero_is {x:Nm} (h:Low x) (hz:∀ k,x.a k=0):x=nZ:=low_one h low_nZ fun k=>by
 show x.a k*2 ^ 0=0*2 ^ x.e
 rw [hz];simp
theorem hf_add (x y:Nm):EqN (nAdd (nHf x) (nHf y)) (nHf (nAdd x y)):=fun k=>by
 simp only [nAdd,nHf,addR,trR,Int.pow_add]
 grind
theorem hf_neg (x:Nm):nHf (nNeg x)=nNeg (nHf x):=by
 unfold nHf nNeg
 congr 1
 funext k
 simp only [addR,trR,negR];omega
structure Amp (N:Nat) (x:Nm):Prop where
 low:Low x
 anti:Anti x.a
 bd:Bd N x
theorem Amp.zero (N:Nat):Amp N nZ:=⟨low_nZ,anti_nZ,Bd.zero N⟩
theorem Amp.le {N M:Nat} {x:Nm} (h:Amp N x) (hm:N<=M):Amp M x:=⟨h.low,h.anti,h.bd.le hm⟩
theorem Amp.tr {N:Nat} {x:Nm} (h:Amp N x) (m:Int):Amp N (nTr m x):=⟨h.low.tr m,h.anti.tr m,h.bd.tr m⟩
theorem Amp.neg {N:Nat} {x:Nm} (h:Amp N x):Amp N (nNeg x):=⟨h.low.neg,h.anti.neg',h.bd.neg⟩
theorem Amp.hf {N:Nat} {x y:Nm} (hx:Amp N x) (hy:Amp N y):Amp (N+1) (lw (nHf (nAdd x y))):=⟨lw_low _,lw_anti (anti_hf (anti_add hx.anti hy.anti)),hx.bd.hf hy.bd⟩
def bt (x:Nat) (q:Int):Bool:=x.testBit q.toNat
def fl (x:Nat) (q:Int):Nat:=x ^^^ 2 ^ q.toNat
def ons (x:Nat) (l:List Int):Bool:=l.all (bt x)
noncomputable def gt (o:Gop) (s:Nat->Nm) (x:Nat):Nm :=
 if ons x o.ctl then
  if o.kind=1 then nTr o.k (s x)
  else if o.kind=4 then (if bt x o.q then nTr o.k (s x) else s x)
  else if o.kind=2 then s (fl x o.q)
  else lw (nHf (nAdd (s (fl x o.q)) (if bt x o.q then nNeg (s x) else s x)))
 else s x
def oc (q b:Int) (s:Nat->Nm) (x:Nat):Nm:=if (if bt x q then (1:Int) else 0)=b then s x else nZ
theorem gt_amp {N:Nat} {o:Gop} {s:Nat->Nm} (h:∀ x,Amp N (s x)) (x:Nat):Amp (N+1) (gt o s x):=by
 unfold gt
 split
 ·split
  ·exact ((h x).tr _).le (Nat.le_succ _)
  ·split
   ·split
    ·exact ((h x).tr _).le (Nat.le_succ _)
    ·exact (h x).le (Nat.le_succ _)
   ·split
    ·exact (h _).le (Nat.le_succ _)
    ·refine (h _).hf ?_
     split
     ·exact (h x).neg
     ·exact h x
 ·exact (h x).le (Nat.le_succ _)
theorem oc_amp {N:Nat} {q b:Int} {s:Nat->Nm} (h:∀ x,Amp N (s x)) (x:Nat):Amp N (oc q b s x):=by
 unfold oc
 by_cases g:(if bt x q then (1:Int) else 0)=b
 ·rw [if_pos g];exact h x
 ·rw [if_neg g];exact Amp.zero N
theorem fl_fl (x:Nat) (q:Int):fl (fl x q) q=x:=by unfold fl;rw [Nat.xor_assoc,Nat.xor_self,Nat.xor_zero]
theorem bt_fl (x:Nat) (q:Int):bt (fl x q) q=!bt x q:=by
 unfold bt fl;rw [Nat.testBit_xor,Nat.testBit_two_pow_self]
 simp
theorem bt_fl_ne {x:Nat} {q c:Int} (h:c.toNat≠q.toNat):bt (fl x q) c=bt x c:=by
 unfold bt fl;rw [Nat.testBit_xor,Nat.testBit_two_pow_of_ne (fun e=>h e.symm)]
 simp
theorem fl_lt {x n:Nat} {q:Int} (hx:x<2 ^ n) (hq:q.toNat<n):fl x q<2 ^ n:=Nat.xor_lt_two_pow hx (Nat.pow_lt_pow_right (by decide) hq)
theorem setRow_only (w:World) (g:Nat) (cs:Array Value):Only g w (w.setRow g cs) where
 os:=rfl
 tape:=rfl
 output:=rfl
 size:=by simp
 block:=fun k hk=>setRow_other w g k cs hk
def CellsA (w:World) (cs:Array Value) (m:Nat) (f:Nat->Int):Prop:=cs.size=2*m /\
 ∀ i,i<m->∃ (s:Int) (a:Option Addr) (n c:Nat),cs[i*2]?=some (.int .i64 s)/\cs[i*2+1]?=some (.slice a n c)/\IsInt w s a n c (f i)
theorem CellsA.ext {w w':World} {cs:Array Value} {m:Nat} {f:Nat->Int} (h:CellsA w cs m f) (k:Ext w w'):CellsA w' cs m f :=
 ⟨h.1,fun i hi=>by obtain ⟨s,a,n,c,q1,q2,q3⟩:=h.2 i hi;exact ⟨s,a,n,c,q1,q2,q3.ext k⟩⟩
theorem CellsA.keep64 {w w':World} {cs:Array Value} {m:Nat} {f:Nat->Int} (h:CellsA w cs m f) (k:Keep64 w w'):CellsA w' cs m f :=
 ⟨h.1,fun i hi=>by obtain ⟨s,a,n,c,q1,q2,q3⟩:=h.2 i hi;exact ⟨s,a,n,c,q1,q2,q3.keep64 k⟩⟩
theorem CellsA.congr {w:World} {cs:Array Value} {m:Nat} {f f':Nat->Int} (h:CellsA w cs m f) (e:∀ i,i<m->f i=f' i):CellsA w cs m f' :=
 ⟨h.1,fun i hi=>by obtain ⟨s,a,n,c,q1,q2,q3⟩:=h.2 i hi;exact ⟨s,a,n,c,q1,q2,q3.cast (e i hi)⟩⟩
theorem CellsA.at {w:World} {cs:Array Value} {m:Nat} {f:Nat->Int} (h:CellsA w cs m f) (j:Nat) (hj:j<cs.size):(∃ s:Int,cs[j]?=some (.int .i64 s))\/∃ (a:Option Addr) (n c:Nat),cs[j]?=some (.slice a n c):=by
 have h1:=h.1;obtain ⟨s,a,n,c,q1,q2,_⟩:=h.2 (j / 2) (by omega)
 by_cases e:j % 2=0
 ·rw [show j / 2*2=j by omega] at q1;exact Or.inl ⟨s,q1⟩
 ·rw [show j / 2*2+1=j by omega] at q2;exact Or.inr ⟨a,n,c,q2⟩
theorem CellsA.one {w:World} {cs:Array Value} {m:Nat} {f:Nat->Int} (h:CellsA w cs m f):cs.all (·.oneCell')=true:=by
 rw [Array.all_eq_true];intro j hj
 rcases h.at j hj with ⟨s,e⟩ | ⟨a,n,c,e⟩
 ·rw [Array.getElem?_eq_getElem hj] at e;rw [Option.some.inj e];rfl
 ·rw [Array.getElem?_eq_getElem hj] at e;rw [Option.some.inj e];rfl
theorem CellsA.words {w:World} {cs:Array Value} {m:Nat} {f:Nat->Int} (h:CellsA w cs m f) (i:Nat) (x:Int):cs[i]?≠some (Value.int .u64 x):=by
 by_cases hi:i<cs.size
 ·rcases h.at i hi with ⟨s,e⟩ | ⟨a,n,c,e⟩<;>(rw [e];intro h;cases h)
 ·rw [Array.getElem?_eq_none (by omega)];intro h;cases h
theorem CellsA.nums {w:World} {g:Nat} {t:TypeId} {cs:Array Value} {m:Nat} {f:Nat->Int} (h:CellsA w cs m f) (hr:w.heap[g]?=some (.cells cs t (0,0))):Nums w g m t f:=⟨cs,hr,h.1,h.2⟩
theorem Nums.cells {w:World} {g:Nat} {t:TypeId} {m:Nat} {f:Nat->Int} (h:Nums w g m t f):∃ cs,w.heap[g]?=some (.cells cs t (0,0))/\CellsA w cs m f:=by
 obtain ⟨cs,h1,h2,h3⟩:=h;exact ⟨cs,h1,h2,h3⟩
theorem CellsA.box {w:World} {cs:Array Value} {m:Nat} {f:Nat->Int} (h:CellsA w cs m f) (t:TypeId):Nums (w.alloc (.cells cs t)) w.heap.size m t f:=(h.ext (Ext.alloc _ _)).nums (heap_alloc_new w _)
theorem CellsA.setRow {w:World} {g:Nat} {t:TypeId} {cs:Array Value} {m m0:Nat} {f f0:Nat->Int} (h:CellsA w cs m f) (h0:Nums w g m0 t f0):Nums (w.setRow g cs) g m t f/\Chg g w (w.setRow g cs)/\(w.setRow g cs).heap[g]?=some (.cells cs t (0,0)):=by
 obtain ⟨c0,hr,hc⟩:=h0.cells;have hk:=keep_only (setRow_only w g cs) hr (CellsA.words hc);have hrow:=setRow_heap w g _ cs t (0,0) hr;exact ⟨(h.keep64 hk).nums hrow,Chg.of_only (setRow_only w g _) hk,hrow⟩
theorem CellsA.row8 {w:World} {cs:Array Value} {m:Nat} {f:Nat->Int} (h:CellsA w cs m f) (hm:8<=m):CellsA w (cs.toList.take 16).toArray 8 f:=by
 have h1:=h.1;refine ⟨by simp;omega,fun i hi=>?_⟩;obtain ⟨s,a,n,c,q1,q2,q3⟩:=h.2 i (by omega);refine ⟨s,a,n,c,?_,?_,q3⟩
 ·simp only [List.getElem?_toArray,List.getElem?_take];rw [if_pos (by omega)];simpa using q1
 ·simp only [List.getElem?_toArray,List.getElem?_take];rw [if_pos (by omega)];simpa using q2
theorem range8 {w:World} {g:Nat} {t:TypeId} {cs:Array Value} (hr:w.heap[g]?=some (.cells cs t (0,0))):w.rangeAt g 0 (cs.toList.take 16):=by
 intro j v hv;rw [cell_of_row w g _ cs t (0,0) hr,Nat.zero_add];rw [List.getElem?_take] at hv
 split at hv
 ·simpa using hv
 ·cases hv
theorem CellsA.snoc {w:World} {cs:Array Value} {f:Nat->Int} {s:Int} {a:Option Addr} {n c:Nat} {z:Int} (h:CellsA w cs 8 f) (hz:IsInt w s a n c z):CellsA w (cs++#[.int .i64 s,.slice a n c]) 9 (fun i=>if i=8 then z else f i):=by
 have h1:=h.1;refine ⟨by simp;omega,fun i hi=>?_⟩
 by_cases e:i=8
 ·subst e
  refine ⟨s,a,n,c,?_,?_,by show IsInt w s a n c (if 8=8 then z else f 8);rw [if_pos rfl];exact hz⟩
  ·rw [Array.getElem?_append_right (by omega),show 8*2-cs.size=0 by omega];rfl
  ·rw [Array.getElem?_append_right (by omega),show 8*2+1-cs.size=1 by omega];rfl
 ·obtain ⟨s',a',n',c',q1,q2,q3⟩:=h.2 i (by omega)
  refine ⟨s',a',n',c',?_,?_,by show IsInt w s' a' n' c' (if i=8 then z else f i);rw [if_neg e];exact q3⟩
  ·rw [Array.getElem?_append_left (by omega)];exact q1
  ·rw [Array.getElem?_append_left (by omega)];exact q2
theorem isInt_zero (w:World):IsInt w 0 none 0 0 0:=Or.inl ⟨rfl,rfl,rfl,rfl,by decide,by decide⟩
abbrev zero9:Array Value:=#[.int .i64 0,.slice none 0 0,.int .i64 0,.slice none 0 0,.int .i64 0,.slice none 0 0,.int .i64 0,.slice none 0 0,.int .i64 0,.slice none 0 0,.int .i64 0,.slice none 0 0,.int .i64 0,.slice none 0 0,.int .i64 0,.slice none 0 0,.int .i64 0,.slice none 0 0]
abbrev zero8:Array Value:=#[.int .i64 0,.slice none 0 0,.int .i64 0,.slice none 0 0,.int .i64 0,.slice none 0 0,.int .i64 0,.slice none 0 0,.int .i64 0,.slice none 0 0,.int .i64 0,.slice none 0 0,.int .i64 0,.slice none 0 0,.int .i64 0,.slice none 0 0]
theorem cells_zero9 (w:World):CellsA w zero9 9 (fun _=>0):=by
 refine ⟨rfl,fun i hi=>⟨0,none,0,0,?_,?_,isInt_zero w⟩⟩
 all_goals
  have e:i=0\/i=1\/i=2\/i=3\/i=4\/i=5\/i=6\/i=7\/i=8:=by omega
  rcases e with rfl | rfl | rfl | rfl | rfl | rfl | rfl | rfl | rfl<;>rfl
theorem cells_zero8 (w:World):CellsA w zero8 8 (fun _=>0):=by
 refine ⟨rfl,fun i hi=>⟨0,none,0,0,?_,?_,isInt_zero w⟩⟩
 all_goals
  have e:i=0\/i=1\/i=2\/i=3\/i=4\/i=5\/i=6\/i=7:=by omega
  rcases e with rfl | rfl | rfl | rfl | rfl | rfl | rfl | rfl<;>rfl
theorem rnum_info:(Tryz.prog.info? 78).map (·.size)=some 18:=by kernel_rfl
theorem rrow_info:(Tryz.prog.info? 76).map (·.size)=some 16:=by kernel_rfl
def nmF (x:Nm):Nat->Int:=fun i=>if i=8 then (x.e:Int) else x.a i
structure NmA (w:World) (cs:Array Value) (x:Nm) (P E:Nat):Prop where
 anti:Anti x.a
 low:Low x
 abs:∀ k,(x.a k).natAbs<2 ^ P
 down:x.e<=E
 val:CellsA w cs 9 (nmF x)
theorem NmA.ext {w w':World} {cs:Array Value} {x:Nm} {P E:Nat} (h:NmA w cs x P E) (k:Ext w w'):NmA w' cs x P E:=⟨h.anti,h.low,h.abs,h.down,h.val.ext k⟩
theorem NmA.keep64 {w w':World} {cs:Array Value} {x:Nm} {P E:Nat} (h:NmA w cs x P E) (k:Keep64 w w'):NmA w' cs x P E:=⟨h.anti,h.low,h.abs,h.down,h.val.keep64 k⟩
theorem ext8_nmF {x:Nm} (h:Anti x.a):ext8 (nmF x)=x.a:=by
 rw [<-ext8_of h]
 exact ext8_congr fun i hi=>if_neg (by omega)
theorem nmF_abs {x:Nm} {P:Nat} (h:∀ k,(x.a k).natAbs<2 ^ P):∀ i,i<8->(nmF x i).natAbs<2 ^ P:=fun i hi=>by
 unfold nmF;rw [if_neg (by omega)];exact h _
variable {Qc:Nat->Prop}
open Go.RowKit
def IBlk (w:World) (b:Nat):Prop:=∃ (cur:Array Value) (fr:Nat × Nat),w.heap[b]?=some (.cells cur 3 fr)
theorem IBlk.lt {w:World} {b:Nat} (h:IBlk w b):b<w.heap.size:=by
 obtain ⟨cur,fr,h⟩:=h;exact (gS.1 h).1
theorem IBlk.block {w w':World} {b:Nat} (h:IBlk w b) (k:w'.heap[b]?=w.heap[b]?):IBlk w' b:=by
 obtain ⟨cur,fr,h⟩:=h;exact ⟨cur,fr,k.trans h⟩
def ISeg (w:World) (ao:Option Addr) (l:List Nat):Prop :=
 (ao=none/\l=[])\/∃ b o,ao=some ⟨b,o,none⟩/\IBlk w b/\∀ t,t<l.length->w.cell? ⟨b,o+t,none⟩=some (.int .i64 (l.getD t 0:Nat))
theorem ISeg.ext {w w':World} {ao:Option Addr} {l:List Nat} (h:ISeg w ao l) (k:Ext w w'):ISeg w' ao l:=by
 rcases h with h | ⟨b,o,rfl,hb,hc⟩
 ·exact Or.inl h
 ·exact Or.inr ⟨b,o,rfl,hb.block (k.block b hb.lt),fun t ht=>(k.cell (p:=⟨b,o+t,none⟩) hb.lt).trans (hc t ht)⟩
theorem ISeg.take {w:World} {ao:Option Addr} {l:List Nat} (h:ISeg w ao l) (n:Nat):ISeg w ao (l.take n):=by
 rcases h with ⟨rfl,rfl⟩ | ⟨b,o,rfl,hb,hc⟩
 ·exact Or.inl ⟨rfl,by simp⟩
 ·refine Or.inr ⟨b,o,rfl,hb,fun t ht=>?_⟩
  rw [List.length_take] at ht;rw [hc t (by omega)];simp only [List.getD_eq_getElem?_getD,List.getElem?_take];rw [if_pos (by omega)]
theorem ISeg.at {w:World} {b o:Nat} {l:List Nat} (h:ISeg w (some ⟨b,o,none⟩) l) (t:Nat) (ht:t<l.length):w.cell? ⟨b,o+t,none⟩=some (.int .i64 (l.getD t 0:Nat)):=by
 rcases h with ⟨h,_⟩ | ⟨b',o',h,_,hc⟩
 ·cases h
 ·simp only [Option.some.injEq,Addr.mk.injEq,and_true] at h
  obtain ⟨rfl,rfl⟩:=h;exact hc t ht
theorem ISeg.some_of {w:World} {ao:Option Addr} {l:List Nat} (h:ISeg w ao l) (hl:0<l.length):∃ b o,ao=some ⟨b,o,none⟩:=by
 rcases h with ⟨_,rfl⟩ | ⟨b,o,h,_⟩
 ·simp at hl
 ·exact ⟨b,o,h⟩
def zval:List Nat->Nat
 | []=>0
 | x :: r=>x+10000*zval r
theorem zval_append (a b:List Nat):zval (a++b)=zval a+10000 ^ a.length*zval b:=by
 induction a with
 | nil=>simp [zval]
 | cons x r ih =>
  rw [List.cons_append,zval,ih,zval,List.length_cons,Nat.pow_succ,Nat.mul_add];rw [Nat.mul_comm (10000 ^ r.length) 10000,Nat.mul_assoc];omega
theorem zval_snoc (l:List Nat) (x:Nat):zval (l++[x])=zval l+10000 ^ l.length*x:=by rw [zval_append];simp [zval]
def ZD (l:List Nat):Prop:=∀ x ∈ l,x<10000
theorem ZD.nil:ZD []:=fun _ h=>by simp at h
theorem ZD.snoc {l:List Nat} {x:Nat} (h:ZD l) (hx:x<10000):ZD (l++[x]):=fun y hy=>by
 simp only [List.mem_append,List.mem_singleton] at hy
 rcases hy with hy | rfl
 ·exact h y hy
 ·exact hx
theorem ZD.take {l:List Nat} (h:ZD l) (n:Nat):ZD (l.take n):=fun x hx=>h x (List.mem_of_mem_take hx)
theorem ZD.get {l:List Nat} (h:ZD l) (t:Nat):l.getD t 0<10000:=by
 rw [List.getD_eq_getElem?_getD]
 by_cases ht:t<l.length
 ·rw [List.getElem?_eq_getElem ht];exact h _ (List.getElem_mem ht)
 ·rw [List.getElem?_eq_none (by omega)];decide
theorem zval_lt {l:List Nat} (h:ZD l):zval l<10000 ^ l.length:=by
 induction l with
 | nil=>simp [zval]
 | cons x r ih =>
  have h1:=h x (List.mem_cons_self ..);have h2:=ih (fun y hy=>h y (List.mem_cons_of_mem _ hy));rw [zval,List.length_cons,Nat.pow_succ];omega
def ZN (l:List Nat):Prop:=l=[]\/l.getD (l.length-1) 0≠0
theorem take_zsucc (l:List Nat) (k:Nat) (h:k<l.length):l.take (k+1)=l.take k++[l.getD k 0]:=by
 rw [List.take_add_one,List.getD_eq_getElem?_getD,List.getElem?_eq_getElem h]
 rfl
def LimQ (Qc:Nat->Prop) (w:World):Prop:=∀ b,w.heap.size<=b->Qc b
theorem LimQ.grow {w w':World} (h:LimQ Qc w) (k:w.heap.size<=w'.heap.size):LimQ Qc w':=fun b hb=>h b (Nat.le_trans k hb)
def ClQ (Qc:Nat->Prop) (w:World) (ao:Option Addr) (z:Int):Prop:=z=0\/(LimQ Qc w/\∀ a,ao=some a->Qc a.block)
theorem ClQ.grow {w w':World} {ao:Option Addr} {z:Int} (h:ClQ Qc w ao z) (k:w.heap.size<=w'.heap.size):ClQ Qc w' ao z:=h.imp id fun h=>⟨h.1.grow k,h.2⟩
theorem ClQ.neg {w:World} {ao:Option Addr} {z:Int} (h:ClQ Qc w ao z):ClQ Qc w ao (-z):=h.imp (fun h=>by rw [h];rfl) id
theorem ClQ.lim {w:World} {ao:Option Addr} {z:Int} (h:ClQ Qc w ao z) (hz:z≠0):LimQ Qc w:=(h.resolve_left hz).1
theorem ClQ.made {w w':World} {ao:Option Addr} {z:Int} (h:LimQ Qc w) (k:w.heap.size<=w'.heap.size) (hf:∀ x,ao=some x->w.heap.size<=x.block):ClQ Qc w' ao z:=Or.inr ⟨h.grow k,fun x hx=>h _ (hf x hx)⟩
def IsZ (Qc:Nat->Prop) (w:World) (neg:Bool) (ao:Option Addr) (n c:Nat) (z:Int):Prop :=
 ∃ l:List Nat,l.length=n/\n<=c/\c<=maxLen/\ISeg w ao l/\ZD l/\ZN l/\z=(if neg then -(zval l:Int) else (zval l:Int))/\(l=[]->neg=false)/\ClQ Qc w ao z
theorem IsZ.ext {w w':World} {neg:Bool} {ao:Option Addr} {n c:Nat} {z:Int} (h:IsZ Qc w neg ao n c z) (k:Ext w w'):IsZ Qc w' neg ao n c z:=by
 obtain ⟨l,h1,h2,h3,h4,h5,h6,h7,h8,h9⟩:=h;exact ⟨l,h1,h2,h3,h4.ext k,h5,h6,h7,h8,h9.grow k.size⟩
theorem IsZ.zero (w:World):IsZ Qc w false none 0 0 0:=⟨[],rfl,Nat.le_refl _,Nat.zero_le _,Or.inl ⟨rfl,rfl⟩,ZD.nil,Or.inl rfl,rfl,fun _=>rfl,Or.inl rfl⟩
theorem IsZ.cast {w:World} {neg:Bool} {ao:Option Addr} {n c:Nat} {z z':Int} (h:IsZ Qc w neg ao n c z) (e:z=z'):IsZ Qc w neg ao n c z':=e ▸ h
theorem ISeg.keepRes {w:World} {g:Nat} {ao:Option Addr} {l:List Nat} {x:Bool} {p:Option Addr} {q r:Nat} {T:TypeId} (h:ISeg w ao l) (hg:w.heap[g]?=some (.cells #[.bool x,.slice p q r] T (0,0))) (u v:Value) :
  ISeg ((w.setCell ⟨g,0,none⟩ u).setCell ⟨g,1,none⟩ v) ao l:=by
 rcases h with h | ⟨b,o,rfl,hb,hc⟩
 ·exact Or.inl h
 ·have hO:Only g w ((w.setCell ⟨g,0,none⟩ u).setCell ⟨g,1,none⟩ v):=((Only.refl _ _).setCell _ _).setCell _ _
  have hbk:IBlk ((w.setCell ⟨g,0,none⟩ u).setCell ⟨g,1,none⟩ v) b:=by
   by_cases hbg:b=g
   ·subst hbg
    obtain ⟨cur,fr,hcur⟩:=hb;rw [hg] at hcur
    cases hcur
    have q1:=heap_setCell_same w b 0 _ _ u hg;have q2:=heap_setCell_same (w.setCell ⟨b,0,none⟩ u) b 1 _ _ v q1;exact ⟨_,_,q2⟩
   ·exact hb.block (hO.block b hbg)
  refine Or.inr ⟨b,o,rfl,hbk,fun t ht=>?_⟩;have h1:=hc t ht
  by_cases hbg:b=g
  ·subst hbg
   rw [cell_of_row w b (o+t) _ T (0,0) hg] at h1
   match o+t,h1 with
   | 0,h1=>simp at h1
   | 1,h1=>simp at h1
   | k+2,h1=>simp at h1
  ·exact (World.cell?_of_block (a:=⟨b,o+t,none⟩) (hO.block b hbg)).trans h1
theorem IsZ.keepRes {w:World} {g:Nat} {neg:Bool} {ao:Option Addr} {n c:Nat} {z:Int} {x:Bool} {p:Option Addr} {q r:Nat} {T:TypeId} (h:IsZ Qc w neg ao n c z) (hg:w.heap[g]?=some (.cells #[.bool x,.slice p q r] T (0,0))) (u v:Value) :
  IsZ Qc ((w.setCell ⟨g,0,none⟩ u).setCell ⟨g,1,none⟩ v) neg ao n c z:=by
 obtain ⟨l,h1,h2,h3,h4,h5,h6,h7,h8,h9⟩:=h;exact ⟨l,h1,h2,h3,h4.keepRes hg u v,h5,h6,h7,h8,h9.grow (Nat.le_of_eq (((Only.refl g w).setCell 0 u).setCell 1 v).size.symm)⟩
structure ZRes (W:World) (g:Nat):Prop where
 row:W.heap[g]?=some (.cells #[.bool false,.slice none 0 0] 45 (0,0))
theorem ZRes.lt {W:World} {g:Nat} (h:ZRes W g):g<W.heap.size:=(gS.1 h.row).1
theorem ZRes.ext {W W':World} {g:Nat} (h:ZRes W g) (k:Ext W W'):ZRes W' g:=⟨(k.block _ h.lt).trans h.row⟩
theorem ZRes.c0 {W:World} {g:Nat} (h:ZRes W g):W.cell? ⟨g,0,none⟩=some (.bool false):=by rw [cell_of_row W g 0 _ _ (0,0) h.row];rfl
theorem ZRes.c1 {W:World} {g:Nat} (h:ZRes W g):W.cell? ⟨g,1,none⟩=some (.slice none 0 0):=by rw [cell_of_row W g 1 _ _ (0,0) h.row];rfl
theorem ZRes.f {W:World} {g:Nat} (h:ZRes W g) (o:Nat):W.frozen? ⟨g,o,none⟩=false:=frozen_of_row W g o _ _ h.row
theorem zres_new (w:World):ZRes (w.alloc (.cells #[.bool false,.slice none 0 0] 45)) w.heap.size:=⟨heap_alloc_new w _⟩
theorem zval_take_zeros (l:List Nat) (k:Nat) (hk:k<=l.length) (h:∀ t,k<=t->t<l.length->l.getD t 0=0):zval (l.take k)=zval l:=by
 induction l generalizing k with
 | nil=>simp
 | cons x r ih =>
  cases k with
  | zero =>
   have hx:x=0:=by have:=h 0 (Nat.le_refl _) (by simp);simpa using this
   have:=ih 0 (by simp) (fun t _ ht=>by have:=h (t+1) (by omega) (by simpa using ht);simpa using this);simp only [List.take_zero] at this ⊢
   show 0=x+10000*zval r
   rw [hx,<-this]
   rfl
  | succ k =>
   have:=ih k (by simpa using hk) (fun t h1 ht=>by have:=h (t+1) (by omega) (by simpa using ht);simpa using this);rw [List.take_succ_cons,zval,zval,this]
theorem ext_alloc (w:World) (o:Obj):Ext w (w.alloc o):=(Below.refl _ _).alloc (Nat.le_refl _) o
def ZRet (Qc:Nat->Prop) (w:World) (z:Int) (n:Nat) (e:Ending) (w':World):Prop:=∃ (b':Bool) (a':Option Addr) (n' c':Nat),e=.returned (.agg #[.bool b',.slice a' n' c'])/\IsZ Qc w' b' a' n' c' z/\n'<=n/\Ext w w'
def ZRetB (Qc:Nat->Prop) (w:World) (z:Int) (n:Nat) (P:Option Addr->Prop) (e:Ending) (w':World):Prop:=∃ (b':Bool) (a':Option Addr) (n' c':Nat),e=.returned (.agg #[.bool b',.slice a' n' c'])/\IsZ Qc w' b' a' n' c' z/\n'<=n/\Ext w w'/\P a'
theorem ZRetB.ret {w:World} {z:Int} {n:Nat} {P:Option Addr->Prop} {e:Ending} {w':World} (h:ZRetB Qc w z n P e w'):ZRet Qc w z n e w':=by
 obtain ⟨b',a',n',c',h1,h2,h3,h4,_⟩:=h;exact ⟨b',a',n',c',h1,h2,h3,h4⟩
theorem zmade_blk (neg:Bool) (ao:Option Addr) (l:List Nat) (n c:Nat) (w:World) (hl:l.length=n) (hs:ISeg w ao l) (hd:ZD l) (hc:n<=c) (hcm:c<=maxLen) (hn:n<=1000000) (z:Int) (hz:z=if neg then -(zval l:Int) else (zval l:Int)) (hcl:ClQ Qc w ao z) :
  Calls Tryz.prog 70 #[.bool neg,.slice ao n c] w (ZRetB Qc w z n (fun a'=>a'=none\/a'=ao)):=by
 have Hz:=Lh hz;have HCl:=Lh hcl;clear hz hcl;have Hl:=Lh hl;have Hs:=Lh hs;have Hd:=Lh hd;have hE:=ext_alloc w (.cells #[.bool false,.slice none 0 0] 45);have hR:=zres_new w
 have hab:n=0\/∃ b o,ao=some ⟨b,o,none⟩:=by
  by_cases h0:n=0
  ·exact Or.inl h0
  ·exact Or.inr (hs.some_of (by omega))
 unfold maxLen at hcm;clear hl hs hd
 go_enter Tryz.func70,Tryz.ntmps70
 go_wp2_with fail
 generalize w.alloc (.cells #[.bool false,.slice none 0 0] 45)=W0 at *;have Hs0:=Lh (Hs.out.ext hE)
 go_loop [5] (fun i=>∃ k:Nat,k<=n/\i=.int .i64 k/\∀ t,k<=t->t<n->l.getD t 0=0) (fun i=>(intOf i).toNat)
 case atStart=>exact ⟨n,Nat.le_refl _,rfl,fun t h1 h2=>by omega⟩
 case round =>
  obtain ⟨k,hk,rfl,hall⟩:=hrel;have Hall:=Lh hall;clear hall;have Hv:Hid (zval (l.take k)=zval l):=zval_take_zeros l k (by rw [Hl.out];exact hk) (by rw [Hl.out];exact Hall.out)
  have fin:∀ (hz:k=0\/l.getD (k-1) 0≠0),ZN (l.take k):=by
   intro hz
   by_cases h0:k=0
   ·subst h0;exact Or.inl (by simp)
   ·right
    have hlen:(l.take k).length=k:=by rw [List.length_take,Hl.out];omega
    rw [hlen,List.getD_eq_getElem?_getD,List.getElem?_take,if_pos (by omega),<-List.getD_eq_getElem?_getD];exact hz.resolve_left h0
  have Fin:=Lh fin;clear fin
  by_cases hk0:k=0
  ·subst hk0
   have hv0:zval l=0:=by rw [<-Hv.out];rfl
   have Hv0:=Lh hv0;have k0:=hR.c0;have k1:=hR.c1;have f0:=hR.f 0;have f1:=hR.f 1;clear hv0
   go_wp2_with fail
   exact bodyPost_ret (v:=.agg #[.bool false,.slice none 0 0]) (by simp [results,Tryz.results70,go_sem,k0,k1]) rfl ⟨false,none,0,0,rfl,(IsZ.zero _).cast (by rw [Hz.out,Hv0.out];split<;>rfl),Nat.zero_le _,(Below.setCell hE (p:=⟨w.heap.size,0,none⟩) (Nat.le_refl _) _).setCell (p:=⟨w.heap.size,1,none⟩) (Nat.le_refl _) _,Or.inl rfl⟩
  ·have ik:(0:Int)<(k:Int):=by omega
   have ik1:(k:Int)-1=((k-1:Nat):Int):=by omega
   obtain ⟨j,rfl⟩:∃ j,k=j+1:=⟨k-1,by omega⟩
   rcases hab with h0 | ⟨b,o,rfl⟩
   ·omega
   have hcl:=Hs0.out.at j (by rw [Hl.out];omega);obtain ⟨x,hx⟩:∃ x,l.getD j 0=x:=⟨_,rfl⟩;rw [hx] at hcl;have Hx:=Lh hx
   have ij:(j:Int)<(n:Int):=by omega
   have ij2:(j:Int)+1<=(c:Int):=by omega
   clear hx ik1 hk0
   by_cases hx0:x=0
   ·subst hx0
    go_wp2_with fail
    go_round
    case rel=>exact ⟨j,by omega,by go_num,fun t h1 h2=>by
     by_cases e:t=j
     ·rw [e];exact Hx.out
     ·exact Hall.out t (by omega) h2⟩
    case measure=>simp [intOf]
   ·have hxb:((x:Int) == 0)=false:=by rw [beq_eq_false_iff_ne];omega
    have hjb:((j:Int)+1 == 0)=false:=by rw [beq_eq_false_iff_ne];omega
    have Hzn:=Lh (Fin.out (Or.inr (by rw [Nat.add_sub_cancel,Hx.out];exact hx0)));have k0:=hR.c0;have k1:=hR.c1;have f0:=hR.f 0;have f1:=hR.f 1;clear hx0
    go_wp2_with fail
    exact bodyPost_ret (v:=.agg #[.bool neg,.slice (some ⟨b,o,none⟩) (j+1) c]) (by simp [results,Tryz.results70,go_sem,k0,k1]) rfl ⟨neg,some ⟨b,o,none⟩,j+1,c,rfl,IsZ.keepRes ⟨l.take (j+1),by rw [List.length_take,Hl.out];omega,by omega,by unfold maxLen;omega,Hs0.out.take _,Hd.out.take _,Hzn.out,by rw [Hz.out,Hv.out],fun h=>by
     have:=congrArg List.length h;rw [List.length_take,Hl.out] at this
     simp at this
     omega,HCl.out.grow hE.size⟩ hR.row _ _,by omega,(Below.setCell hE (p:=⟨w.heap.size,0,none⟩) (Nat.le_refl _) _).setCell (p:=⟨w.heap.size,1,none⟩) (Nat.le_refl _) _,Or.inr rfl⟩
theorem zmade_any (neg:Bool) (ao:Option Addr) (l:List Nat) (n c:Nat) (w:World) (hl:l.length=n) (hs:ISeg w ao l) (hd:ZD l) (hc:n<=c) (hcm:c<=maxLen) (hn:n<=1000000) (z:Int) (hz:z=if neg then -(zval l:Int) else (zval l:Int)) (hcl:ClQ Qc w ao z) :
  Calls Tryz.prog 70 #[.bool neg,.slice ao n c] w (ZRet Qc w z n) :=
 (zmade_blk neg ao l n c w hl hs hd hc hcm hn z hz hcl).mono fun _ _ h=>h.ret
variable {Qc:Nat->Prop}
open Go.RowKit
theorem zext_drewN {w w':World} (h:Ext w w') (n:Nat):Ext w (w'.drewN n):=by
 induction n with
 | zero=>exact h
 | succ n ih=>exact Below.drew ih
def zc (x y:Nat):Int:=if x<y then -1 else if y<x then 1 else 0
theorem zval_split (l:List Nat) (k:Nat) (h:k<l.length):zval l=zval (l.take k)+10000 ^ k*(l.getD k 0+10000*zval (l.drop (k+1))):=by
 have e:l=l.take k++(l.getD k 0 :: l.drop (k+1)):=by
  rw [List.getD_eq_getElem?_getD,List.getElem?_eq_getElem h]
  simp
 have hl:(l.take k).length=k:=by rw [List.length_take];omega
 conv=>lhs;rw [e]
 rw [zval_append,hl,zval]
theorem zval_lt_of {a b:List Nat} {k:Nat} (ha:k<a.length) (hb:k<b.length) (hd:ZD a) (h:a.drop (k+1)=b.drop (k+1)) (hx:a.getD k 0<b.getD k 0):zval a<zval b:=by
 rw [zval_split a k ha,zval_split b k hb,h];have h1:=zval_lt (hd.take k)
 have hl:(a.take k).length=k:=by rw [List.length_take];omega
 rw [hl] at h1;generalize 10000*zval (b.drop (k+1))=u;have h2:10000 ^ k*(a.getD k 0+u+1)<=10000 ^ k*(b.getD k 0+u):=Nat.mul_le_mul_left _ (by omega);rw [Nat.mul_add,Nat.mul_one] at h2;omega
theorem zval_ge {l:List Nat} (h:ZN l) (hl:l≠[]):10000 ^ (l.length-1)<=zval l:=by
 have hpos:0<l.length:=by cases l with | nil=>exact absurd rfl hl | cons x r=>simp
 have hx:=h.resolve_left hl;rw [zval_split l (l.length-1) (by omega)]
 have h1:1<=l.getD (l.length-1) 0+10000*zval (l.drop (l.length-1+1)):=by omega
 have h2:=Nat.mul_le_mul_left (10000 ^ (l.length-1)) h1;rw [Nat.mul_one] at h2;omega
theorem zval_lt_len {a b:List Nat} (hd:ZD a) (hn:ZN b) (h:a.length<b.length):zval a<zval b:=by
 have h1:=zval_lt hd
 have hb:b≠[]:=by intro e;subst e;simp at h
 have h2:=zval_ge hn hb;have h3:10000 ^ a.length<=10000 ^ (b.length-1):=Nat.pow_le_pow_right (by decide) (by omega);omega
theorem zval_zero {l:List Nat} (hn:ZN l):zval l=0↔l=[]:=by
 constructor
 ·intro h
  apply Decidable.byContradiction
  intro hl;have h2:=zval_ge hn hl;have h3:0<10000 ^ (l.length-1):=Nat.pow_pos (by decide);omega
 ·rintro rfl;rfl
theorem dcmp_any (a1 a2:Option Addr) (la lb:List Nat) (n m c1 c2:Nat) (w:World) (h1:la.length=n) (h2:lb.length=m) (s1:ISeg w a1 la) (s2:ISeg w a2 lb) (d1:ZD la) (d2:ZD lb) (e1:ZN la) (e2:ZN lb) (_hc1:n<=c1) (_hc2:m<=c2) (hn:n<=1000000) (hm:m<=1000000) :
  Calls Tryz.prog 105 #[.slice a1 n c1,.slice a2 m c2] w fun e w'=>e=.returned (.int .i64 (zc (zval la) (zval lb)))/\Ext w w':=by
 obtain ⟨z,hz⟩:∃ z,zc (zval la) (zval lb)=z:=⟨_,rfl⟩;rw [hz];have Hz:=Lh hz;clear hz
 by_cases hnm:n=m
 ·subst hnm
  have H1:=Lh h1;have H2:=Lh h2;have S1:=Lh s1;have S2:=Lh s2;have D1:=Lh d1;have D2:=Lh d2;clear h1 h2 d1 d2 e1 e2
  have hab:n=0\/∃ b o b' o',a1=some ⟨b,o,none⟩/\a2=some ⟨b',o',none⟩:=by
   by_cases h0:n=0
   ·exact Or.inl h0
   ·obtain ⟨b,o,h⟩:=s1.some_of (by rw [H1.out];omega)
    obtain ⟨b',o',h'⟩:=s2.some_of (by rw [H2.out];omega);exact Or.inr ⟨b,o,b',o',h,h'⟩
  clear s1 s2
  go_enter Tryz.func105,Tryz.ntmps105
  go_wp2_with fail
  go_loopw [5] (fun i wr=>∃ k:Nat,k<=n/\i=.int .i64 ((k:Int)-1)/\la.drop k=lb.drop k/\Ext w wr) (fun i _=>(intOf i+1).toNat)
  case atStart=>exact ⟨n,Nat.le_refl _,by go_num,by rw [List.drop_of_length_le (by rw [H1.out];exact Nat.le_refl _),List.drop_of_length_le (by rw [H2.out];exact Nat.le_refl _)],Ext.refl _⟩
  case round =>
   obtain ⟨k,hk,rfl,hsame,hEr⟩:=hrel;have Hsame:=Lh hsame;clear hsame
   by_cases hk0:k=0
   ·subst hk0
    have hz0:z=0:=by
     rw [<-Hz.out]
     have:la=lb:=by simpa using Hsame.out
     rw [this];unfold zc;simp
    subst hz0
    go_wp2_with fail
    go_ret
    exact ⟨rfl,hEr⟩
   ·obtain ⟨j,rfl⟩:∃ j,k=j+1:=⟨k-1,by omega⟩
    rcases hab with h0 | ⟨b,o,b',o',rfl,rfl⟩
    ·omega
    have hx:=(S1.out.ext hEr).at j (by rw [H1.out];omega);have hy:=(S2.out.ext hEr).at j (by rw [H2.out];omega);obtain ⟨x,ex⟩:∃ x,la.getD j 0=x:=⟨_,rfl⟩;obtain ⟨y,ey⟩:∃ y,lb.getD j 0=y:=⟨_,rfl⟩;rw [ex] at hx;rw [ey] at hy;have Ex:=Lh ex;have Ey:=Lh ey
    have ij:(j:Int)<(n:Int):=by omega
    have ij0:(0:Int)<=(j:Int):=by omega
    have ej:((j:Int)+1-1)=(j:Int):=by omega
    have ec:(((j+1:Nat):Int)-1)=(j:Int):=by omega
    rw [ec];clear ex ey hk0 ec
    rcases Nat.lt_trichotomy x y with hlt | heq | hgt
    ·have ixy:(x:Int)<(y:Int):=by omega
     have hz1:z=-1:=by
      rw [<-Hz.out];unfold zc;rw [if_pos (zval_lt_of (k:=j) (by rw [H1.out];omega) (by rw [H2.out];omega) D1.out Hsame.out (by rw [Ex.out,Ey.out];exact hlt))]
     subst hz1;clear hlt
     go_wp2_with fail
     go_quiet (fail)
     go_wp2_with fail
     go_ret
     exact ⟨rfl,zext_drewN hEr _⟩
    ·subst heq
     have ixy:¬ (x:Int)<(x:Int):=by omega
     have hnext:la.drop j=lb.drop j:=by
      have f1:la.drop j=la.getD j 0 :: la.drop (j+1):=by
       rw [List.getD_eq_getElem?_getD,List.getElem?_eq_getElem (by rw [H1.out];omega),List.drop_eq_getElem_cons (by rw [H1.out];omega)];rfl
      have f2:lb.drop j=lb.getD j 0 :: lb.drop (j+1):=by
       rw [List.getD_eq_getElem?_getD,List.getElem?_eq_getElem (by rw [H2.out];omega),List.drop_eq_getElem_cons (by rw [H2.out];omega)];rfl
      rw [f1,f2,Ex.out,Ey.out,Hsame.out]
     have Hnext:=Lh hnext;clear hnext
     go_wp2_with fail
     go_quiet (fail)
     go_wp2_with fail
     go_quiet (fail)
     go_wp2_with fail
     go_roundw
     case rel=>exact ⟨j,by omega,by go_num,Hnext.out,zext_drewN hEr _⟩
     case measure=>simp [intOf]
    ·have ixy:¬ (x:Int)<(y:Int):=by omega
     have iyx:(y:Int)<(x:Int):=by omega
     have hz1:z=1:=by
      rw [<-Hz.out];unfold zc;have:=zval_lt_of (k:=j) (by rw [H2.out];omega) (by rw [H1.out];omega) D2.out Hsame.out.symm (by rw [Ex.out,Ey.out];exact hgt);rw [if_neg (by omega),if_pos this]
     subst hz1;clear hgt
     go_wp2_with fail
     go_quiet (fail)
     go_wp2_with fail
     go_quiet (fail)
     go_wp2_with fail
     go_ret
     exact ⟨rfl,zext_drewN (zext_drewN hEr _) _⟩
 ·by_cases hlt:n<m
  ·have hz1:z=-1:=by
    rw [<-Hz.out];unfold zc;rw [if_pos (zval_lt_len d1 e2 (by omega))]
   subst hz1
   have ib:((n:Int) != (m:Int))=true:=by rw [bne_iff_ne];omega
   have il:(n:Int)<(m:Int):=by omega
   clear h1 h2 s1 s2 d1 d2 e1 e2 hnm hlt
   go_enter Tryz.func105,Tryz.ntmps105
   go_wp2_with fail
   go_ret
   exact ⟨rfl,Ext.refl _⟩
  ·have hz1:z=1:=by
    rw [<-Hz.out];unfold zc;have:=zval_lt_len d2 e1 (a:=lb) (b:=la) (by omega);rw [if_neg (by omega),if_pos this]
   subst hz1
   have ib:((n:Int) != (m:Int))=true:=by rw [bne_iff_ne];omega
   have il:¬ (n:Int)<(m:Int):=by omega
   clear h1 h2 s1 s2 d1 d2 e1 e2 hnm hlt
   go_enter Tryz.func105,Tryz.ntmps105
   go_wp2_with fail
   go_ret
   exact ⟨rfl,Ext.refl _⟩
theorem int_info:(Tryz.prog.info? 3).map (fun i=>(i.zero,i.size,i.bytes))=some (some (.int .i64 0),1,8):=by kernel_rfl
def inC (l:List Nat):List Value:=l.map fun x:Nat=>Value.int .i64 (x:Int)
theorem inC_snoc (l:List Nat) (x:Nat):inC (l++[x])=inC l++[.int .i64 (x:Int)]:=by simp [inC]
theorem iseg_of_own {w:World} {base n:Nat} {v:Value} {l:List Nat} (h:w.ownsRow base 3 1 v n (inC l)):∃ (a:Option Addr) (c:Nat),v=.slice a n c/\n<=c/\c<=maxLen/\l.length=n/\ISeg w a l/\∀ x,a=some x->base<=x.block:=by
 have hl:l.length=n:=by have:=h.1;simpa [inC] using this
 rcases h.2 with ⟨rfl,rfl⟩ | ⟨g,cap,cur,rfl,hbs,hg,hnc,hcm,_,htk⟩
 ·exact ⟨none,0,rfl,Nat.le_refl _,Nat.zero_le _,hl,Or.inl ⟨rfl,List.eq_nil_of_length_eq_zero hl⟩,fun x hx=>by cases hx⟩
 ·refine ⟨some ⟨g,0,none⟩,cap,rfl,hnc,hcm,hl,Or.inr ⟨g,0,rfl,⟨cur,(0,0),hg⟩,fun t ht=>?_⟩,fun x hx=>by cases hx;exact hbs⟩
  rw [cell_of_row w g (0+t) cur _ (0,0) hg,Nat.zero_add]
  have h1:(inC l)[t]?=cur.toList[t]?:=by
   rw [<-htk,List.getElem?_take,if_pos (by omega)]
  rw [<-Array.getElem?_toList,<-h1];simp only [inC,List.getElem?_map,List.getD_eq_getElem?_getD];rw [List.getElem?_eq_getElem ht]
  rfl
theorem new_int (w:World) (x:Int) (e:TypeId):∀ j u,([Value.int .i64 x]:List Value)[j]?=some u->(w.alloc (.cells #[.int .i64 x] e)).cell? ((⟨w.heap.size,0,none⟩:Addr).add j)=some u:=by
 intro j u hu
 cases j with
 | zero =>
  simp only [List.getElem?_cons_zero,Option.some.injEq] at hu;rw [<-hu]
  have hadd:(⟨w.heap.size,0,none⟩:Addr).add 0=⟨w.heap.size,0,none⟩:=by unfold Addr.add;split<;>simp_all
  rw [hadd,World.cell?_alloc_new]
  rfl
 | succ k=>simp at hu
theorem one_int (x:Int):∀ u ∈ ([Value.int .i64 x]:List Value),u.oneCell'=true:=by
 intro u hu;simp only [List.mem_singleton] at hu;subst hu
 rfl
theorem ext_grown {w a b:World} {row:Option Nat} (h:Ext w a) (hg:a.grownBy b row) (hr:∀ k,row=some k->w.heap.size<=k):Ext w b:=Below.grown h hg h.size hr
theorem zval_step {l la lb:List Nat} {k c x y:Nat} (hl:l.length=k) (hx:zval (la.take (k+1))=zval (la.take k)+10000 ^ k*x) (hy:zval (lb.take (k+1))=zval (lb.take k)+10000 ^ k*y) (h:zval l+10000 ^ k*c=zval (la.take k)+zval (lb.take k)) :
  zval (l++[(c+x+y) % 10000])+10000 ^ (k+1)*((c+x+y) / 10000)=zval (la.take (k+1))+zval (lb.take (k+1)):=by
 rw [zval_snoc,hl,hx,hy,Nat.pow_succ];have e:=Nat.div_add_mod (c+x+y) 10000
 have e2:10000 ^ k*((c+x+y) % 10000)+10000 ^ k*10000*((c+x+y) / 10000)=10000 ^ k*(c+x+y):=by
  rw [Nat.mul_assoc,<-Nat.mul_add]
  congr 1
  omega
 rw [Nat.mul_add,Nat.mul_add] at e2;omega
theorem zval_take_in {l:List Nat} {k:Nat} (h:k<l.length):zval (l.take (k+1))=zval (l.take k)+10000 ^ k*l.getD k 0:=by
 have hl:(l.take k).length=k:=by rw [List.length_take];omega
 rw [take_zsucc l k h,zval_snoc,hl]
theorem zval_take_out {l:List Nat} {k:Nat} (h:¬ k<l.length):zval (l.take (k+1))=zval (l.take k)+10000 ^ k*0:=by
 rw [List.take_of_length_le (by omega),List.take_of_length_le (by omega),Nat.mul_zero,Nat.add_zero]
theorem dadd_any (a1 a2:Option Addr) (la lb:List Nat) (n m c1 c2:Nat) (w:World) (h1:la.length=n) (h2:lb.length=m) (s1:ISeg w a1 la) (s2:ISeg w a2 lb) (d1:ZD la) (d2:ZD lb) (hn:n<=1000000) (hm:m<=1000000) (base:Nat) (hbase:base<=w.heap.size) :
  Calls Tryz.prog 104 #[.slice a1 n c1,.slice a2 m c2] w fun e w'=>∃ (a':Option Addr) (l':List Nat) (n' c':Nat),e=.returned (.slice a' n' c')/\l'.length=n'/\n'<=c'/\c'<=maxLen/\ISeg w' a' l'/\ZD l'/\Hid (zval l'=zval la+zval lb)/\n'<=max n m+1/\Ext w w'/\∀ x,a'=some x->base<=x.block:=by
 obtain ⟨i0,hi,hz0,hz1,hz2⟩:=info_parts int_info;have Hbase:=Lh hbase;clear hbase;have H1:=Lh h1;have H2:=Lh h2;have S1:=Lh s1;have S2:=Lh s2;have D1:=Lh d1;have D2:=Lh d2
 have hA:n=0\/∃ b o,a1=some ⟨b,o,none⟩:=by
  by_cases h0:n=0
  ·exact Or.inl h0
  ·exact Or.inr (s1.some_of (by omega))
 have hB:m=0\/∃ b o,a2=some ⟨b,o,none⟩:=by
  by_cases h0:m=0
  ·exact Or.inl h0
  ·exact Or.inr (s2.some_of (by omega))
 clear h1 h2 s1 s2 d1 d2
 go_enter Tryz.func104,Tryz.ntmps104
 go_wp2_with fail
 go_loopw [5,6,7] (fun ov cv iv wr=>∃ (k c:Nat) (l:List Nat),iv=.int .i64 k/\cv=.int .i64 c/\c<=1/\k<=max n m+1/\(max n m<k->c=0)/\l.length=k/\ZD l/\wr.ownsRow w.heap.size 3 1 ov k (inC l)/\zval l+10000 ^ k*c=zval (la.take k)+zval (lb.take k)/\Ext w wr) (fun _ _ iv _=>max n m+1-(intOf iv).toNat)
 case atStart=>exact ⟨0,0,[],rfl,rfl,by omega,by omega,fun _=>rfl,rfl,ZD.nil,(show w.ownsRow w.heap.size 3 1 (.slice none 0 0) 0 (inC []) from World.ownsRow_nil _ _ _ _),by simp [zval],Ext.refl _⟩
 case round =>
  obtain ⟨k,c,l,rfl,rfl,hc1,hkm,hkc,hl,hd,hown,hval,hEr⟩:=hrel;have Hl:=Lh hl;have Hd:=Lh hd;have Hval:=Lh hval;have Hkc:=Lh hkc;have Hown:=Lh hown;clear hl hd hval hkc hown
  by_cases hgo:k<n\/k<m\/0<c
  ·have hk2:k<=max n m:=by
    rcases hgo with h | h | h
    ·omega
    ·omega
    ·apply Nat.le_of_not_lt;intro h3;have:=Hkc.out h3;omega
   have hxe:∃ x,x<10000/\zval (la.take (k+1))=zval (la.take k)+10000 ^ k*x/\((k<n/\∃ b o,a1=some ⟨b,o,none⟩/\wr.cell? ⟨b,o+k,none⟩=some (.int .i64 (x:Nat)))\/(¬ k<n/\x=0)):=by
    by_cases h:k<n
    ·rcases hA with h0 | ⟨b,o,rfl⟩
     ·omega
     ·exact ⟨la.getD k 0,D1.out.get k,zval_take_in (by rw [H1.out];exact h),Or.inl ⟨h,b,o,rfl,(S1.out.ext hEr).at k (by rw [H1.out];exact h)⟩⟩
    ·exact ⟨0,by omega,zval_take_out (by rw [H1.out];exact h),Or.inr ⟨h,rfl⟩⟩
   have hye:∃ y,y<10000/\zval (lb.take (k+1))=zval (lb.take k)+10000 ^ k*y/\((k<m/\∃ b o,a2=some ⟨b,o,none⟩/\wr.cell? ⟨b,o+k,none⟩=some (.int .i64 (y:Nat)))\/(¬ k<m/\y=0)):=by
    by_cases h:k<m
    ·rcases hB with h0 | ⟨b,o,rfl⟩
     ·omega
     ·exact ⟨lb.getD k 0,D2.out.get k,zval_take_in (by rw [H2.out];exact h),Or.inl ⟨h,b,o,rfl,(S2.out.ext hEr).at k (by rw [H2.out];exact h)⟩⟩
    ·exact ⟨0,by omega,zval_take_out (by rw [H2.out];exact h),Or.inr ⟨h,rfl⟩⟩
   obtain ⟨x,hx,hxv,hxc⟩:=hxe;obtain ⟨y,hy,hyv,hyc⟩:=hye;have Hstep:=Lh (zval_step Hl.out hxv hyv Hval.out);obtain ⟨dg,hdg⟩:∃ dg,(c+x+y) % 10000=dg:=⟨_,rfl⟩;obtain ⟨c',hc'⟩:∃ c',(c+x+y) / 10000=c':=⟨_,rfl⟩;rw [hdg,hc'] at Hstep
   have hdl:dg<10000:=by omega
   have hcl:c'<=1:=by omega
   have Hc0:Hid (max n m<k+1->c'=0):=by
    intro h3
    rcases hxc with ⟨h,_⟩ | ⟨_,rfl⟩
    ·omega
    ·rcases hyc with ⟨h,_⟩ | ⟨_,rfl⟩
     ·omega
     ·omega
   have rr:((c:Int)+(x:Int)+(y:Int)).tmod 10000=(dg:Int):=by rw [Int.tmod_eq_emod_of_nonneg (by omega)];omega
   have qq:((c:Int)+(x:Int)+(y:Int)).tdiv 10000=(c':Int):=by rw [Int.tdiv_eq_ediv_of_nonneg (by omega)];omega
   clear hdg hc' hxv hyv
   rcases hxc with ⟨hkn,b,o,rfl,hcx⟩ | ⟨hkn,rfl⟩
   ·have ikn:(k:Int)<(n:Int):=by omega
    rcases hyc with ⟨hkm2,b2,o2,rfl,hcy⟩ | ⟨hkm2,rfl⟩
    ·have ikm:(k:Int)<(m:Int):=by omega
     clear hgo
     go_wp2_with (at_builtin;refine wpList_append_own _ rfl _ _ 25 rfl w.heap.size 3 i0 (.int .i64 0) 1 8 Tryz.underlying25 hi hz0 hz1 hz2 rfl (by decide) _ k (inC l) rfl (Hown.out.alloc _) ⟨wr.heap.size,0,none⟩ 1 1 [.int .i64 (dg:Int)] rfl rfl (new_int wr _ _) (one_int _) (by unfold maxLen;omega) (by omega) (Nat.le_trans hEr.size (ext_alloc wr _).size) ?_;intro v' w' hown' hgrow' _)
     go_roundw
     case rel=>exact ⟨k+1,c',l++[dg],by go_num,rfl,hcl,by omega,Hc0.out,by rw [List.length_append,Hl.out];rfl,Hd.out.snoc hdl,by rw [inC_snoc];exact hown',Hstep.out,ext_grown (hEr.trans (ext_alloc wr _)) hgrow' (fun j hj=>(Hown.out.lt j hj).1)⟩
     case measure=>simp [intOf];omega
    ·have ikm:¬ (k:Int)<(m:Int):=by omega
     have rr':((c:Int)+(x:Int)).tmod 10000=(dg:Int):=by simpa using rr
     have qq':((c:Int)+(x:Int)).tdiv 10000=(c':Int):=by simpa using qq
     clear hgo rr qq
     go_wp2_with (at_builtin;refine wpList_append_own _ rfl _ _ 25 rfl w.heap.size 3 i0 (.int .i64 0) 1 8 Tryz.underlying25 hi hz0 hz1 hz2 rfl (by decide) _ k (inC l) rfl (Hown.out.alloc _) ⟨wr.heap.size,0,none⟩ 1 1 [.int .i64 (dg:Int)] rfl rfl (new_int wr _ _) (one_int _) (by unfold maxLen;omega) (by omega) (Nat.le_trans hEr.size (ext_alloc wr _).size) ?_;intro v' w' hown' hgrow' _)
     go_roundw
     case rel=>exact ⟨k+1,c',l++[dg],by go_num,rfl,hcl,by omega,Hc0.out,by rw [List.length_append,Hl.out];rfl,Hd.out.snoc hdl,by rw [inC_snoc];exact hown',Hstep.out,ext_grown (hEr.trans (ext_alloc wr _)) hgrow' (fun j hj=>(Hown.out.lt j hj).1)⟩
     case measure=>simp [intOf];omega
   ·have ikn:¬ (k:Int)<(n:Int):=by omega
    rcases hyc with ⟨hkm2,b2,o2,rfl,hcy⟩ | ⟨hkm2,rfl⟩
    ·have ikm:(k:Int)<(m:Int):=by omega
     have rr':((c:Int)+(y:Int)).tmod 10000=(dg:Int):=by simpa using rr
     have qq':((c:Int)+(y:Int)).tdiv 10000=(c':Int):=by simpa using qq
     clear hgo rr qq
     go_wp2_with (at_builtin;refine wpList_append_own _ rfl _ _ 25 rfl w.heap.size 3 i0 (.int .i64 0) 1 8 Tryz.underlying25 hi hz0 hz1 hz2 rfl (by decide) _ k (inC l) rfl (Hown.out.alloc _) ⟨wr.heap.size,0,none⟩ 1 1 [.int .i64 (dg:Int)] rfl rfl (new_int wr _ _) (one_int _) (by unfold maxLen;omega) (by omega) (Nat.le_trans hEr.size (ext_alloc wr _).size) ?_;intro v' w' hown' hgrow' _)
     go_roundw
     case rel=>exact ⟨k+1,c',l++[dg],by go_num,rfl,hcl,by omega,Hc0.out,by rw [List.length_append,Hl.out];rfl,Hd.out.snoc hdl,by rw [inC_snoc];exact hown',Hstep.out,ext_grown (hEr.trans (ext_alloc wr _)) hgrow' (fun j hj=>(Hown.out.lt j hj).1)⟩
     case measure=>simp [intOf];omega
    ·have ikm:¬ (k:Int)<(m:Int):=by omega
     have ic:(0:Int)<(c:Int):=by omega
     have rr':((c:Int)).tmod 10000=(dg:Int):=by simpa using rr
     have qq':((c:Int)).tdiv 10000=(c':Int):=by simpa using qq
     clear hgo rr qq
     go_wp2_with (at_builtin;refine wpList_append_own _ rfl _ _ 25 rfl w.heap.size 3 i0 (.int .i64 0) 1 8 Tryz.underlying25 hi hz0 hz1 hz2 rfl (by decide) _ k (inC l) rfl (Hown.out.alloc _) ⟨wr.heap.size,0,none⟩ 1 1 [.int .i64 (dg:Int)] rfl rfl (new_int wr _ _) (one_int _) (by unfold maxLen;omega) (by omega) (Nat.le_trans hEr.size (ext_alloc wr _).size) ?_;intro v' w' hown' hgrow' _)
     go_roundw
     case rel=>exact ⟨k+1,c',l++[dg],by go_num,rfl,hcl,by omega,Hc0.out,by rw [List.length_append,Hl.out];rfl,Hd.out.snoc hdl,by rw [inC_snoc];exact hown',Hstep.out,ext_grown (hEr.trans (ext_alloc wr _)) hgrow' (fun j hj=>(Hown.out.lt j hj).1)⟩
     case measure=>simp [intOf];omega
  ·have hfin:zval l=zval la+zval lb:=by
    have hc0:c=0:=by omega
    have hv:=Hval.out;rw [hc0,Nat.mul_zero,Nat.add_zero,List.take_of_length_le (by rw [H1.out];omega),List.take_of_length_le (by rw [H2.out];omega)] at hv;exact hv
   have Hfin:=Lh hfin
   have g1:¬ (k:Int)<(n:Int):=by omega
   have g2:¬ (k:Int)<(m:Int):=by omega
   obtain rfl:c=0:=by omega
   obtain ⟨a',c',rfl,q1,q2,q3,q4,q5⟩:=iseg_of_own Hown.out;clear hgo hfin
   go_wp2_with fail
   go_ret
   exact ⟨a',l,k,c',rfl,q3,q1,q2,q4,Hd.out,Hfin.out,by omega,hEr,fun x hx=>Nat.le_trans Hbase.out (q5 x hx)⟩
theorem zsub_step {l la lb:List Nat} {k c c' x y dg:Nat} (hl:l.length=k) (hx:zval (la.take (k+1))=zval (la.take k)+10000 ^ k*x) (hy:zval (lb.take (k+1))=zval (lb.take k)+10000 ^ k*y) (h:zval l+zval (lb.take k)=zval (la.take k)+10000 ^ k*c) (hd:dg+c+y=x+10000*c') :
  zval (l++[dg])+zval (lb.take (k+1))=zval (la.take (k+1))+10000 ^ (k+1)*c':=by
 rw [zval_snoc,hl,hx,hy,Nat.pow_succ]
 have e2:10000 ^ k*(dg+c+y)=10000 ^ k*(x+10000*c'):=by rw [hd]
 rw [Nat.mul_add,Nat.mul_add,Nat.mul_add,<-Nat.mul_assoc] at e2;omega
theorem dsub_any (a1 a2:Option Addr) (la lb:List Nat) (n m c1 c2:Nat) (w:World) (h1:la.length=n) (h2:lb.length=m) (s1:ISeg w a1 la) (s2:ISeg w a2 lb) (d1:ZD la) (d2:ZD lb) (hn:n<=1000000) (hmn:m<=n) (hle:zval lb<=zval la) (base:Nat) (hbase:base<=w.heap.size) :
  Calls Tryz.prog 106 #[.slice a1 n c1,.slice a2 m c2] w fun e w'=>∃ (a':Option Addr) (l':List Nat) (n' c':Nat),e=.returned (.slice a' n' c')/\l'.length=n'/\n'<=c'/\c'<=maxLen/\ISeg w' a' l'/\ZD l'/\Hid (zval l'+zval lb=zval la)/\n'<=n/\Ext w w'/\∀ x,a'=some x->base<=x.block:=by
 obtain ⟨i0,hi,hz0,hz1,hz2⟩:=info_parts int_info;have Hbase:=Lh hbase;clear hbase;have H1:=Lh h1;have H2:=Lh h2;have S1:=Lh s1;have S2:=Lh s2;have D1:=Lh d1;have D2:=Lh d2;have Hle:=Lh hle
 have hA:n=0\/∃ b o,a1=some ⟨b,o,none⟩:=by
  by_cases h0:n=0
  ·exact Or.inl h0
  ·exact Or.inr (s1.some_of (by omega))
 have hB:m=0\/∃ b o,a2=some ⟨b,o,none⟩:=by
  by_cases h0:m=0
  ·exact Or.inl h0
  ·exact Or.inr (s2.some_of (by omega))
 clear h1 h2 s1 s2 d1 d2 hle
 go_enter Tryz.func106,Tryz.ntmps106
 go_wp2_with fail
 go_loopw [5,6,7] (fun ov cv iv wr=>∃ (k c:Nat) (l:List Nat),iv=.int .i64 k/\cv=.int .i64 c/\c<=1/\k<=n/\l.length=k/\ZD l/\wr.ownsRow w.heap.size 3 1 ov k (inC l)/\zval l+zval (lb.take k)=zval (la.take k)+10000 ^ k*c/\Ext w wr) (fun _ _ iv _=>n-(intOf iv).toNat)
 case atStart=>exact ⟨0,0,[],rfl,rfl,by omega,by omega,rfl,ZD.nil,(show w.ownsRow w.heap.size 3 1 (.slice none 0 0) 0 (inC []) from World.ownsRow_nil _ _ _ _),by simp [zval],Ext.refl _⟩
 case round =>
  obtain ⟨k,c,l,rfl,rfl,hc1,hkn,hl,hd,hown,hval,hEr⟩:=hrel;have Hl:=Lh hl;have Hd:=Lh hd;have Hval:=Lh hval;have Hown:=Lh hown;clear hl hd hval hown
  by_cases hlt:k<n
  ·rcases hA with h0 | ⟨b,o,rfl⟩
   ·omega
   have hcx:=(S1.out.ext hEr).at k (by rw [H1.out];exact hlt);have hx:=D1.out.get k;have hxv:=zval_take_in (l:=la) (k:=k) (by rw [H1.out];exact hlt);obtain ⟨x,ex⟩:∃ x,la.getD k 0=x:=⟨_,rfl⟩;rw [ex] at hcx hx hxv
   have ikn:(k:Int)<(n:Int):=by omega
   have hye:∃ y,y<10000/\zval (lb.take (k+1))=zval (lb.take k)+10000 ^ k*y/\((k<m/\∃ b o,a2=some ⟨b,o,none⟩/\wr.cell? ⟨b,o+k,none⟩=some (.int .i64 (y:Nat)))\/(¬ k<m/\y=0)):=by
    by_cases h:k<m
    ·rcases hB with h0 | ⟨b,o,rfl⟩
     ·omega
     ·exact ⟨lb.getD k 0,D2.out.get k,zval_take_in (by rw [H2.out];exact h),Or.inl ⟨h,b,o,rfl,(S2.out.ext hEr).at k (by rw [H2.out];exact h)⟩⟩
    ·exact ⟨0,by omega,zval_take_out (by rw [H2.out];exact h),Or.inr ⟨h,rfl⟩⟩
   obtain ⟨y,hy,hyv,hyc⟩:=hye;clear ex
   by_cases hneg:x<c+y
   ·obtain ⟨dg,hdg⟩:∃ dg,x+10000-(c+y)=dg:=⟨_,rfl⟩
    have hdl:dg<10000:=by omega
    have Hstep:=Lh (zsub_step (c':=1) (dg:=dg) Hl.out hxv hyv Hval.out (by omega))
    have i1:(x:Int)-(c:Int)-(y:Int)<0:=by omega
    have i2:(x:Int)-(c:Int)-(y:Int)+10000=(dg:Int):=by omega
    clear hdg hxv hyv
    rcases hyc with ⟨hkm2,b2,o2,rfl,hcy⟩ | ⟨hkm2,rfl⟩
    ·have ikm:(k:Int)<(m:Int):=by omega
     clear hneg
     go_wp2_with (at_builtin;refine wpList_append_own _ rfl _ _ 25 rfl w.heap.size 3 i0 (.int .i64 0) 1 8 Tryz.underlying25 hi hz0 hz1 hz2 rfl (by decide) _ k (inC l) rfl (Hown.out.alloc _) ⟨wr.heap.size,0,none⟩ 1 1 [.int .i64 (dg:Int)] rfl rfl (new_int wr _ _) (one_int _) (by unfold maxLen;omega) (by omega) (Nat.le_trans hEr.size (ext_alloc wr _).size) ?_;intro v' w' hown' hgrow' _)
     go_roundw
     case rel=>exact ⟨k+1,1,l++[dg],by go_num,rfl,by omega,by omega,by rw [List.length_append,Hl.out];rfl,Hd.out.snoc hdl,by rw [inC_snoc];exact hown',Hstep.out,ext_grown (hEr.trans (ext_alloc wr _)) hgrow' (fun j hj=>(Hown.out.lt j hj).1)⟩
     case measure=>simp [intOf];omega
    ·have ikm:¬ (k:Int)<(m:Int):=by omega
     have i1':(x:Int)-(c:Int)<0:=by omega
     have i2':(x:Int)-(c:Int)+10000=(dg:Int):=by omega
     clear hneg i1 i2
     go_wp2_with (at_builtin;refine wpList_append_own _ rfl _ _ 25 rfl w.heap.size 3 i0 (.int .i64 0) 1 8 Tryz.underlying25 hi hz0 hz1 hz2 rfl (by decide) _ k (inC l) rfl (Hown.out.alloc _) ⟨wr.heap.size,0,none⟩ 1 1 [.int .i64 (dg:Int)] rfl rfl (new_int wr _ _) (one_int _) (by unfold maxLen;omega) (by omega) (Nat.le_trans hEr.size (ext_alloc wr _).size) ?_;intro v' w' hown' hgrow' _)
     go_roundw
     case rel=>exact ⟨k+1,1,l++[dg],by go_num,rfl,by omega,by omega,by rw [List.length_append,Hl.out];rfl,Hd.out.snoc hdl,by rw [inC_snoc];exact hown',Hstep.out,ext_grown (hEr.trans (ext_alloc wr _)) hgrow' (fun j hj=>(Hown.out.lt j hj).1)⟩
     case measure=>simp [intOf];omega
   ·obtain ⟨dg,hdg⟩:∃ dg,x-(c+y)=dg:=⟨_,rfl⟩
    have hdl:dg<10000:=by omega
    have Hstep:=Lh (zsub_step (c':=0) (dg:=dg) Hl.out hxv hyv Hval.out (by omega))
    have i2:(x:Int)-(c:Int)-(y:Int)=(dg:Int):=by omega
    clear hdg hxv hyv
    rcases hyc with ⟨hkm2,b2,o2,rfl,hcy⟩ | ⟨hkm2,rfl⟩
    ·have ikm:(k:Int)<(m:Int):=by omega
     clear hneg
     go_wp2_with (at_builtin;refine wpList_append_own _ rfl _ _ 25 rfl w.heap.size 3 i0 (.int .i64 0) 1 8 Tryz.underlying25 hi hz0 hz1 hz2 rfl (by decide) _ k (inC l) rfl (Hown.out.alloc _) ⟨wr.heap.size,0,none⟩ 1 1 [.int .i64 (dg:Int)] rfl rfl (new_int wr _ _) (one_int _) (by unfold maxLen;omega) (by omega) (Nat.le_trans hEr.size (ext_alloc wr _).size) ?_;intro v' w' hown' hgrow' _)
     go_roundw
     case rel=>exact ⟨k+1,0,l++[dg],by go_num,rfl,by omega,by omega,by rw [List.length_append,Hl.out];rfl,Hd.out.snoc hdl,by rw [inC_snoc];exact hown',Hstep.out,ext_grown (hEr.trans (ext_alloc wr _)) hgrow' (fun j hj=>(Hown.out.lt j hj).1)⟩
     case measure=>simp [intOf];omega
    ·have ikm:¬ (k:Int)<(m:Int):=by omega
     have i2':(x:Int)-(c:Int)=(dg:Int):=by omega
     clear hneg i2
     go_wp2_with (at_builtin;refine wpList_append_own _ rfl _ _ 25 rfl w.heap.size 3 i0 (.int .i64 0) 1 8 Tryz.underlying25 hi hz0 hz1 hz2 rfl (by decide) _ k (inC l) rfl (Hown.out.alloc _) ⟨wr.heap.size,0,none⟩ 1 1 [.int .i64 (dg:Int)] rfl rfl (new_int wr _ _) (one_int _) (by unfold maxLen;omega) (by omega) (Nat.le_trans hEr.size (ext_alloc wr _).size) ?_;intro v' w' hown' hgrow' _)
     go_roundw
     case rel=>exact ⟨k+1,0,l++[dg],by go_num,rfl,by omega,by omega,by rw [List.length_append,Hl.out];rfl,Hd.out.snoc hdl,by rw [inC_snoc];exact hown',Hstep.out,ext_grown (hEr.trans (ext_alloc wr _)) hgrow' (fun j hj=>(Hown.out.lt j hj).1)⟩
     case measure=>simp [intOf];omega
  ·obtain rfl:k=n:=by omega
   have hfin:zval l+zval lb=zval la:=by
    have hv:=Hval.out;rw [List.take_of_length_le (l:=lb) (by rw [H2.out];exact hmn),List.take_of_length_le (l:=la) (by rw [H1.out];exact Nat.le_refl _)] at hv;have hb:=zval_lt Hd.out;rw [Hl.out] at hb;have:=Hle.out
    have hc:c=0\/c=1:=by omega
    rcases hc with rfl | rfl
    ·simpa using hv
    ·rw [Nat.mul_one] at hv;omega
   have Hfin:=Lh hfin
   have g1:¬ (k:Int)<(k:Int):=by omega
   obtain ⟨a',c',rfl,q1,q2,q3,q4,q5⟩:=iseg_of_own Hown.out;clear hfin
   go_wp2_with fail
   go_ret
   exact ⟨a',l,k,c',rfl,q3,q1,q2,q4,Hd.out,Hfin.out,Nat.le_refl _,hEr,fun x hx=>Nat.le_trans Hbase.out (q5 x hx)⟩
end Go.Proofs.YtfjnlopbmkimiaaGreatDoor
