/-
  Paulis in plain lists: a letter for each qubit; as two numbers, bit by bit; which two don't commute; products. Nothing of the program stands here. What memory holds, said of words: a slice that is read (Seg), a block of words that is written (Row), and what a call leaves as it was (Ext, Only). Circuits: what they are, in plain numbers; what is wrong with one. Lists of ints in memory.
-/
import Derived.Test.YtlechhmhmakgpaaGreatDoorRows
import Derived.Deep.CutRange
import Derived.Deep.LoopGhost
import Derived.Lib.Hide
import Derived.WalkKit
import Derived.WalkLawsBesides
import Derived.WalkSpells
namespace Go.Proofs.YtlechhmhmakgpaaGreatDoor
set_option maxRecDepth 100000
set_option maxHeartbeats 400000
open Go.RowKit
theorem sx0 {α:Type _} {l:List α} {i:Nat} {a:α}:l.toArray.setIfInBounds i a=(l.set i a).toArray:=by simp
theorem sx1 {α:Type _} {x a:α} {l:List α}:(x::l).set 0 a=a::l:=rfl
theorem sx2 {α:Type _} {x a:α} {l:List α} {n:Nat}:(x::l).set (n+1) a=x::l.set n a:=rfl
theorem Lh {p:Prop} (h:p):Go.RowKit.Hid p:=h
theorem gS {α:Type _} {xs:Array α} {i:Nat} {b:α}:xs[i]?=some b↔∃ h:i<xs.size,xs[i]=b:=Array.getElem?_eq_some_iff
def isL (b:UInt8):Bool:=b == 73 || b == 88 || b == 89 || b == 90
def lx (b:UInt8):Bool:=b == 88 || b == 89
def lz (b:UInt8):Bool:=b == 89 || b == 90
def lno (b:UInt8):Nat:=(if lx b then 1 else 0)+(if lz b then 2 else 0)
theorem isL_cases {b:UInt8} (h:isL b=true):b=73\/b=88\/b=89\/b=90:=by
 unfold isL at h;simp only [Bool.or_eq_true,beq_iff_eq] at h
 rcases h with ((h | h) | h) | h
 ·exact Or.inl h
 ·exact Or.inr (Or.inl h)
 ·exact Or.inr (Or.inr (Or.inl h))
 ·exact Or.inr (Or.inr (Or.inr h))
def nX:List UInt8->Nat
 | []=>0
 | b :: r=>(if lx b then 1 else 0)+2*nX r
def nZz:List UInt8->Nat
 | []=>0
 | b :: r=>(if lz b then 1 else 0)+2*nZz r
theorem nX_lt:∀ l:List UInt8,nX l<2 ^ l.length
 | []=>by simp [nX]
 | b :: r=>by
  have:=nX_lt r;rw [List.length_cons,Nat.pow_succ,nX]
  split<;>omega
theorem nZz_lt:∀ l:List UInt8,nZz l<2 ^ l.length
 | []=>by simp [nZz]
 | b :: r=>by
  have:=nZz_lt r;rw [List.length_cons,Nat.pow_succ,nZz]
  split<;>omega
theorem nX_snoc:∀ (l:List UInt8) (b:UInt8),nX (l++[b])=nX l+(if lx b then 1 else 0)*2 ^ l.length
 | [],b=>by simp [nX]
 | c :: r,b=>by
  rw [List.cons_append,nX,nX,nX_snoc r b,List.length_cons,Nat.pow_succ]
  split<;>split<;>omega
theorem nZz_snoc:∀ (l:List UInt8) (b:UInt8),nZz (l++[b])=nZz l+(if lz b then 1 else 0)*2 ^ l.length
 | [],b=>by simp [nZz]
 | c :: r,b=>by
  rw [List.cons_append,nZz,nZz,nZz_snoc r b,List.length_cons,Nat.pow_succ]
  split<;>split<;>omega
theorem lets_ext:∀ (a b:List UInt8),a.length=b.length->(∀ c ∈ a,isL c=true)->(∀ c ∈ b,isL c=true)->nX a=nX b->nZz a=nZz b->a=b
 | [],[],_,_,_,_,_=>rfl
 | [],_ :: _,h,_,_,_,_=>by simp at h
 | _ :: _,[],h,_,_,_,_=>by simp at h
 | c :: r,d :: s,hl,ha,hb,hx,hz=>by
  have h1:=isL_cases (ha c (by simp));have h2:=isL_cases (hb d (by simp));simp only [nX] at hx;simp only [nZz] at hz
  have hr:nX r=nX s/\nZz r=nZz s/\(lx c=lx d)/\(lz c=lz d):=by
   refine ⟨?_,?_,?_,?_⟩
   ·split at hx<;>split at hx<;>omega
   ·split at hz<;>split at hz<;>omega
   ·cases e1:lx c<;>cases e2:lx d<;>simp only [e1,e2,if_true,if_false,Bool.false_eq_true] at hx ⊢<;>omega
   ·cases e1:lz c<;>cases e2:lz d<;>simp only [e1,e2,if_true,if_false,Bool.false_eq_true] at hz ⊢<;>omega
  have hcd:c=d:=by
   obtain ⟨_,_,e1,e2⟩:=hr
   rcases h1 with rfl | rfl | rfl | rfl<;>rcases h2 with rfl | rfl | rfl | rfl<;>first | rfl | (exact absurd e1 (by decide)) | (exact absurd e2 (by decide))
  rw [hcd,lets_ext r s (by simpa using hl) (fun x hx=>ha x (by simp [hx])) (fun x hx=>hb x (by simp [hx])) hr.1 hr.2.1]
def apL (a b:UInt8):Bool:=a != 73 && b != 73 && a != b
theorem apL_bits {a b:UInt8} (ha:isL a=true) (hb:isL b=true):apL a b=((lx a && lz b) ^^ (lz a && lx b)):=by
 rcases isL_cases ha with rfl | rfl | rfl | rfl<;>rcases isL_cases hb with rfl | rfl | rfl | rfl<;>rfl
def apN:List UInt8->List UInt8->Nat
 | a :: r,b :: s=>(if apL a b then 1 else 0)+apN r s
 | _,_=>0
theorem apL_comm (a b:UInt8):apL a b=apL b a:=by
 unfold apL;rw [Bool.and_comm (a != 73),show (a != b)=(b != a) by simp [bne,BEq.comm]]
theorem apN_comm:∀ a b:List UInt8,apN a b=apN b a
 | [],[]=>rfl
 | [],_ :: _=>rfl
 | _ :: _,[]=>rfl
 | a :: r,b :: s=>by rw [apN,apN,apL_comm,apN_comm r s]
def pcF:Nat->Nat->Nat
 | 0,_=>0
 | f+1,x=>x % 2+pcF f (x / 2)
theorem pcF_more:∀ (f x:Nat),x<2 ^ f->∀ g,f<=g->pcF g x=pcF f x
 | 0,x,h,g,_=>by
  have:x=0:=by simpa using h
  subst this
  induction g with
  | zero=>rfl
  | succ g ih=>show 0 % 2+pcF g (0 / 2)=0;simpa [pcF] using ih (Nat.zero_le _)
 | f+1,x,h,g,hg=>by
  obtain ⟨k,rfl⟩:∃ k,g=k+1:=⟨g-1,by omega⟩;rw [pcF,pcF,pcF_more f (x / 2) (by rw [Nat.pow_succ] at h;omega) k (by omega)]
theorem bit_and (i j:Bool) (a b:Nat):((if i then 1 else 0)+2*a) &&& ((if j then 1 else 0)+2*b)=(if i && j then 1 else 0)+2*(a &&& b):=by
 apply Nat.eq_of_testBit_eq
 intro n;rw [Nat.testBit_and]
 cases n with
 | zero=>cases i<;>cases j<;>simp [Nat.testBit_zero]<;>omega
 | succ n =>
  simp only [Nat.testBit_succ]
  rw [show ((if i=true then 1 else 0)+2*a) / 2=a by split<;>omega,show ((if j=true then 1 else 0)+2*b) / 2=b by split<;>omega,show ((if (i && j)=true then 1 else 0)+2*(a &&& b)) / 2=a &&& b by split<;>omega,Nat.testBit_and]
theorem bit_xor (i j:Bool) (a b:Nat):((if i then 1 else 0)+2*a) ^^^ ((if j then 1 else 0)+2*b)=(if i ^^ j then 1 else 0)+2*(a ^^^ b):=by
 apply Nat.eq_of_testBit_eq
 intro n;rw [Nat.testBit_xor]
 cases n with
 | zero=>cases i<;>cases j<;>simp [Nat.testBit_zero]<;>omega
 | succ n =>
  simp only [Nat.testBit_succ]
  rw [show ((if i=true then 1 else 0)+2*a) / 2=a by split<;>omega,show ((if j=true then 1 else 0)+2*b) / 2=b by split<;>omega,show ((if (i ^^ j)=true then 1 else 0)+2*(a ^^^ b)) / 2=a ^^^ b by split<;>omega,Nat.testBit_xor]
theorem ap_pc:∀ (a b:List UInt8),a.length=b.length->(∀ c ∈ a,isL c=true)->(∀ c ∈ b,isL c=true)->apN a b=pcF a.length ((nX a &&& nZz b) ^^^ (nZz a &&& nX b))
 | [],[],_,_,_=>rfl
 | [],_ :: _,h,_,_=>by simp at h
 | _ :: _,[],h,_,_=>by simp at h
 | c :: r,d :: s,hl,ha,hb=>by
  have ih:=ap_pc r s (by simpa using hl) (fun x hx=>ha x (by simp [hx])) (fun x hx=>hb x (by simp [hx]));rw [apN,nX,nZz,nX,nZz,bit_and,bit_and,bit_xor,List.length_cons,pcF,ih,apL_bits (ha c (by simp)) (hb d (by simp))]
  congr 1
  ·split<;>omega
  ·congr 1
   split<;>omega
def mulL (a b:UInt8):UInt8:=if a=73 then b else if a=b then 73 else if b=73 then a else if a≠88/\b≠88 then 88 else if a≠89/\b≠89 then 89 else 90
def mulT (a b:List UInt8):List UInt8:=List.zipWith mulL a b
theorem mulL_is {a b:UInt8} (ha:isL a=true) (hb:isL b=true):isL (mulL a b)=true/\lx (mulL a b)=(lx a ^^ lx b)/\lz (mulL a b)=(lz a ^^ lz b):=by
 rcases isL_cases ha with rfl | rfl | rfl | rfl<;>rcases isL_cases hb with rfl | rfl | rfl | rfl<;>exact ⟨rfl,rfl,rfl⟩
theorem mulT_is:∀ (a b:List UInt8),a.length=b.length->(∀ c ∈ a,isL c=true)->(∀ c ∈ b,isL c=true)->(mulT a b).length=a.length/\(∀ c ∈ mulT a b,isL c=true)/\nX (mulT a b)=nX a ^^^ nX b/\nZz (mulT a b)=nZz a ^^^ nZz b
 | [],[],_,_,_=>⟨rfl,fun c hc=>by simp [mulT] at hc,rfl,rfl⟩
 | [],_ :: _,h,_,_=>by simp at h
 | _ :: _,[],h,_,_=>by simp at h
 | c :: r,d :: s,hl,ha,hb=>by
  obtain ⟨i1,i2,i3,i4⟩:=mulT_is r s (by simpa using hl) (fun x hx=>ha x (by simp [hx])) (fun x hx=>hb x (by simp [hx]));obtain ⟨m1,m2,m3⟩:=mulL_is (ha c (by simp)) (hb d (by simp));have e:mulT (c :: r) (d :: s)=mulL c d :: mulT r s:=rfl;rw [e];refine ⟨by simp [i1],fun x hx=>?_,?_,?_⟩
  ·rcases List.mem_cons.1 hx with rfl | hx
   ·exact m1
   ·exact i2 x hx
  ·rw [nX,nX,nX,bit_xor,i3,m2]
  ·rw [nZz,nZz,nZz,bit_xor,i4,m3]
def oneT (n:Nat):List UInt8:=List.replicate n 73
theorem oneT_is (n:Nat):(oneT n).length=n/\(∀ c ∈ oneT n,isL c=true)/\nX (oneT n)=0/\nZz (oneT n)=0:=by
 induction n with
 | zero=>exact ⟨rfl,fun c hc=>by simp [oneT] at hc,rfl,rfl⟩
 | succ n ih =>
  obtain ⟨h1,h2,h3,h4⟩:=ih;have e:oneT (n+1)=73 :: oneT n:=rfl;rw [e];refine ⟨by simp [h1],fun c hc=>?_,by rw [nX,h3];rfl,by rw [nZz,h4];rfl⟩
  rcases List.mem_cons.1 hc with rfl | hc
  ·rfl
  ·exact h2 c hc
def isP (n:Nat) (T:List UInt8):Bool:=decide (T.length=n+1) && (T.headD 0 == 43 || T.headD 0 == 45) && (T.drop 1).all isL
theorem isP_iff {n:Nat} {T:List UInt8}:isP n T=true↔T.length=n+1/\(T.headD 0=43\/T.headD 0=45)/\∀ c ∈ T.drop 1,isL c=true:=by
 unfold isP;simp only [Bool.and_eq_true,decide_eq_true_eq,Bool.or_eq_true,beq_iff_eq,List.all_eq_true,and_assoc]
def grp (n:Nat) (gens:List (List UInt8)):List (List UInt8):=gens.foldl (fun out g=>out++out.map (fun p=>mulT p g)) [oneT n]
theorem grp_snoc (n:Nat) (gens:List (List UInt8)) (g:List UInt8):grp n (gens++[g])=grp n gens++(grp n gens).map (fun p=>mulT p g):=by
 unfold grp;rw [List.foldl_append]
 rfl
theorem grp_go (n:Nat):∀ (gens out:List (List UInt8)),(∀ g ∈ gens,g.length=n/\∀ c ∈ g,isL c=true)->(∀ p ∈ out,p.length=n/\∀ c ∈ p,isL c=true)->oneT n ∈ out ->
  (∀ p ∈ gens.foldl (fun out g=>out++out.map (fun p=>mulT p g)) out,p.length=n/\∀ c ∈ p,isL c=true)/\oneT n ∈ gens.foldl (fun out g=>out++out.map (fun p=>mulT p g)) out/\(gens.foldl (fun out g=>out++out.map (fun p=>mulT p g)) out).length=out.length*2 ^ gens.length
 | [],out,_,h1,h2=>⟨h1,h2,by simp⟩
 | g :: r,out,hg,h1,h2=>by
  have hgg:=hg g (by simp)
  obtain ⟨i1,i2,i3⟩:=grp_go n r (out++out.map (fun p=>mulT p g)) (fun x hx=>hg x (by simp [hx])) (fun p hp=>by
   rcases List.mem_append.1 hp with hp | hp
   ·exact h1 p hp
   ·obtain ⟨q,hq,rfl⟩:=List.mem_map.1 hp
    have:=h1 q hq;have m:=mulT_is q g (by rw [this.1,hgg.1]) this.2 hgg.2
    exact ⟨m.1.trans this.1,m.2.1⟩) (by simp [h2])
  refine ⟨i1,i2,i3.trans ?_⟩;rw [List.length_append,List.length_map,List.length_cons,Nat.pow_succ,<-Nat.two_mul,Nat.mul_assoc,Nat.mul_comm 2,Nat.mul_assoc]
theorem grp_is (n:Nat) (gens:List (List UInt8)) (h:∀ g ∈ gens,g.length=n/\∀ c ∈ g,isL c=true):(∀ p ∈ grp n gens,p.length=n/\∀ c ∈ p,isL c=true)/\oneT n ∈ grp n gens/\(grp n gens).length=2 ^ gens.length:=by
 have:=grp_go n gens [oneT n] h (fun p hp=>by
  have e:p=oneT n:=by simpa using hp
  rw [e]
  exact ⟨(oneT_is n).1,(oneT_is n).2.1⟩) (by simp)
 simpa [grp] using this
abbrev Ext (w w':World):Prop:=Below w.heap.size w w'
theorem Ext.refl (w:World):Ext w w:=Below.refl _ _
theorem Ext.trans {a b c:World} (h:Ext a b) (k:Ext b c):Ext a c:=Below.trans h (Below.mono k h.size)
structure Only (b:Nat) (w w':World):Prop where
 os:w'.os=w.os
 tape:w'.tape=w.tape
 output:w'.output=w.output
 size:w'.heap.size=w.heap.size
 block:∀ k,k≠b->w'.heap[k]?=w.heap[k]?
theorem Only.refl (b:Nat) (w:World):Only b w w:=⟨rfl,rfl,rfl,rfl,fun _ _=>rfl⟩
theorem Only.trans {b:Nat} {a c d:World} (h:Only b a c) (k:Only b c d):Only b a d :=
 ⟨k.os.trans h.os,k.tape.trans h.tape,k.output.trans h.output,k.size.trans h.size,fun i hi=>(k.block i hi).trans (h.block i hi)⟩
theorem Only.below {b N:Nat} {a c:World} (h:Only b a c) (hb:N<=b):Below N a c :=
 ⟨h.os,h.tape,h.output,by rw [h.size];exact Nat.le_refl _,fun k hk=>h.block k (by omega)⟩
theorem Only.setCell {b:Nat} {a w:World} (h:Only b a w) (o:Nat) (u:Value):Only b a (w.setCell ⟨b,o,none⟩ u) :=
 h.trans ⟨rfl,rfl,rfl,by simp [World.setCell],fun k hk=>Below.heap_setCell _ _ _ _ hk⟩
structure Gop where
 kind:Int
 k:Int
 ctl:List Int
 q:Int
 bit:Int
 cnd:List Int
structure Gci where
 qubits:Int
 bits:Int
 ops:List Gop
def below (n b:Int):Bool:=decide (0<=n) && decide (n<b)
def fitsB (v b:Int) (used:Bool):Bool:=if used then below v b else v == 0
def usesK (k:Int):Bool:=k == 1 || k == 4
def usesQ (k:Int):Bool:=!(k == 1)
def usesC (k:Int):Bool:=k == 2 || k == 3 || k == 4
def usesB (k:Int):Bool:=k == 5
def ctlCode (q n:Int):List Int->List Int->Int
 | _,[]=>0
 | seen,c :: r=>if below c n=false then 10 else if c=q\/c ∈ seen then 12 else ctlCode q n (seen++[c]) r
def termOk (bits t:Int):Bool:=!(t == 0) && decide (-bits<=t) && decide (t<=bits)
def cndOk (bits:Int) (l:List Int):Bool:=decide (l.length<=24) && l.all (termOk bits)
def opCode (o:Gop) (n bits:Int):Int :=
 if o.kind<1\/6<o.kind then 8
 else if fitsB o.k 16 (usesK o.kind)=false then 9
 else if fitsB o.q n (usesQ o.kind)=false then 10
 else if 0<o.ctl.length/\usesC o.kind=false then 11
 else if ctlCode o.q n [] o.ctl≠0 then ctlCode o.q n [] o.ctl
 else if fitsB o.bit bits (usesB o.kind)=false then 13
 else if cndOk bits o.cnd=false then 14
 else 0
def opsCode (n bits:Int):Nat->List Gop->Int × Int
 | _,[]=>(0,0)
 | i,o :: r=>if opCode o n bits≠0 then (opCode o n bits,(i:Int)) else opsCode n bits (i+1) r
def chk (c:Gci):Int × Int :=
 if c.qubits<1\/12<c.qubits then (6,0)
 else if c.bits<0\/12<c.bits then (7,0)
 else if 4096<c.ops.length then (2,0)
 else opsCode c.qubits c.bits 0 c.ops
theorem ctlCode_step (q n:Int) (l:List Int) (i:Nat) (h:i<l.length):ctlCode q n (l.take i) (l.drop i)=if below (l.getD i 0) n=false then 10 else if l.getD i 0=q\/l.getD i 0 ∈ l.take i then 12 else ctlCode q n (l.take (i+1)) (l.drop (i+1)):=by
 have h1:l.drop i=l[i] :: l.drop (i+1):=List.drop_eq_getElem_cons h
 have h2:l.take (i+1)=l.take i++[l[i]]:=by rw [List.take_add_one,List.getElem?_eq_getElem h];rfl
 have h3:l.getD i 0=l[i]:=by rw [List.getD_eq_getElem?_getD,List.getElem?_eq_getElem h];rfl
 rw [h1,ctlCode,<-h2,h3]
theorem ctlCode_end (q n:Int) (l:List Int) (i:Nat) (h:l.length<=i):ctlCode q n (l.take i) (l.drop i)=0:=by
 rw [List.drop_eq_nil_of_le h];rfl
theorem all_step (p:Int->Bool) (l:List Int) (i:Nat) (h:i<l.length):(l.drop i).all p=(p (l.getD i 0) && (l.drop (i+1)).all p):=by
 have h1:l.drop i=l[i] :: l.drop (i+1):=List.drop_eq_getElem_cons h
 have h3:l.getD i 0=l[i]:=by rw [List.getD_eq_getElem?_getD,List.getElem?_eq_getElem h];rfl
 rw [h1,List.all_cons,h3]
def IntsAt (w:World) (ao:Option Addr) (n:Nat) (l:List Int):Prop :=
 l.length=n/\(n=0\/∃ b o,ao=some ⟨b,o,none⟩/\b<w.heap.size/\∀ t,t<n->w.cell? ⟨b,o+t,none⟩=some (.int .i64 (l.getD t 0)))
theorem IntsAt.ext {w w':World} {ao:Option Addr} {n:Nat} {l:List Int} (h:IntsAt w ao n l) (k:Ext w w'):IntsAt w' ao n l:=by
 refine ⟨h.1,?_⟩
 rcases h.2 with h0 | ⟨b,o,e,hb,hc⟩
 ·exact Or.inl h0
 ·exact Or.inr ⟨b,o,e,Nat.lt_of_lt_of_le hb k.size,fun t ht=>(k.cell (p:=⟨b,o+t,none⟩) hb).trans (hc t ht)⟩
theorem IntsAt.take {w:World} {ao:Option Addr} {n:Nat} {l:List Int} (h:IntsAt w ao n l) (m:Nat) (hm:m<=n):IntsAt w ao m (l.take m):=by
 refine ⟨by rw [List.length_take,h.1];omega,?_⟩
 rcases h.2 with h0 | ⟨b,o,e,hb,hc⟩
 ·exact Or.inl (by omega)
 ·refine Or.inr ⟨b,o,e,hb,fun t ht=>?_⟩
  rw [hc t (by omega),List.getD_eq_getElem?_getD,List.getD_eq_getElem?_getD,List.getElem?_take,if_pos ht]
theorem IntsAt.at {w:World} {ao:Option Addr} {n:Nat} {l:List Int} (h:IntsAt w ao n l) (hn:0<n):∃ b o,ao=some ⟨b,o,none⟩/\b<w.heap.size/\∀ t,t<n->w.cell? ⟨b,o+t,none⟩=some (.int .i64 (l.getD t 0)):=by
 rcases h.2 with h0 | h
 ·omega
 ·exact h
theorem isBelow_any (n b:Int) (w:World):Calls Tryz.prog 179 #[.int .i64 n,.int .i64 b] w fun e w'=>e=.returned (.bool (below n b))/\w'=w:=by
 by_cases h0:0<=n
 ·by_cases h1:n<b
  ·have e:below n b=true:=by simp [below,h0,h1]
   rw [e]
   go_enter Tryz.func179,Tryz.ntmps179
   go_wp2
   go_ret
   exact ⟨rfl,rfl⟩
  ·have e:below n b=false:=by simp [below,h1]
   rw [e]
   have h1':decide (n<b)=false:=by simp [h1]
   go_enter Tryz.func179,Tryz.ntmps179
   go_wp2
   go_ret
   exact ⟨rfl,rfl⟩
 ·have e:below n b=false:=by simp [below,h0]
  rw [e]
  have h0':decide (0<=n)=false:=by simp [h0]
  go_enter Tryz.func179,Tryz.ntmps179
  go_wp2
  go_ret
  exact ⟨rfl,rfl⟩
theorem fits_any (v b:Int) (u:Bool) (w:World):Calls Tryz.prog 158 #[.int .i64 v,.int .i64 b,.bool u] w fun e w'=>e=.returned (.bool (fitsB v b u))/\w'=w:=by
 cases u
 ·go_enter Tryz.func158,Tryz.ntmps158
  go_wp2
  go_ret
  exact ⟨rfl,rfl⟩
 ·go_enter Tryz.func158,Tryz.ntmps158
  go_wp2_with fail
  refine (isBelow_any _ _ _).mono ?_;rintro e w1 ⟨rfl,rfl⟩
  go_wp2_with fail
  go_ret
  exact ⟨rfl,rfl⟩
end Go.Proofs.YtlechhmhmakgpaaGreatDoor
