/-
  Paulis in plain lists: a letter for each qubit; as two numbers, bit by bit; which two don't commute; products. Nothing of the program stands here. Plain facts on words (digits to the base 2^64, the lowest first) and the numbers that they make. No program is named here. What memory holds, said of words: a slice that is read (Seg), a block of words that is written (Row), and what a call leaves as it was (Ext, Only). Circuits: what they are, in plain numbers; what is wrong with one. Lists of ints in memory.
-/
import Derived.Test.YtjfomkoedgipjaaGreatDoorRows
import Derived.Deep.CutRange
import Derived.Deep.LoopGhost
import Derived.Lib.Hide
import Derived.WalkKit
import Derived.WalkLawsBesides
import Derived.WalkSpells
namespace Go.Proofs.YtjfomkoedgipjaaGreatDoor
open Go.RowKit
theorem qQ:type_of% @List.getD_eq_getElem?_getD:=@List.getD_eq_getElem?_getD
theorem qZ:type_of% @Nat.le_refl:=@Nat.le_refl
theorem qX:type_of% @List.getElem?_eq_getElem:=@List.getElem?_eq_getElem
theorem qJ:type_of% @bodyPost_ret:=@bodyPost_ret
theorem qK:type_of% @Nat.lt_of_lt_of_le:=@Nat.lt_of_lt_of_le
theorem qV:type_of% @beq_eq_false_iff_ne:=@beq_eq_false_iff_ne
theorem qW:type_of% @heap_alloc_new:=@heap_alloc_new
theorem qY:type_of% @Nat.pow_le_pow_right:=@Nat.pow_le_pow_right
theorem qG:type_of% @Below.drew:=@Below.drew
theorem qH:type_of% @IntKind.wrap_i64:=@IntKind.wrap_i64
theorem qU:type_of% @if_pos:=@if_pos
theorem qB:type_of% @List.take_of_length_le:=@List.take_of_length_le
theorem qC:type_of% @List.length_take:=@List.length_take
theorem qD:type_of% @cell_of_row:=@cell_of_row
theorem qE:type_of% @if_neg:=@if_neg
theorem qF:type_of% @List.length_drop:=@List.length_drop
theorem qI:type_of% @Nat.zero_le:=@Nat.zero_le
theorem qL:type_of% @Nat.le_trans:=@Nat.le_trans
theorem qM:type_of% @Or.inl:=@Or.inl
theorem qN:type_of% @Nat.mul_add:=@Nat.mul_add
theorem qO:type_of% @Or.inr:=@Or.inr
theorem qP:type_of% @Int.natCast_mul:=@Int.natCast_mul
theorem qS:type_of% @Nat.mul_le_mul_right:=@Nat.mul_le_mul_right
theorem qT:type_of% @List.length_append:=@List.length_append
theorem jQ:type_of% @frozen_of_row:=@frozen_of_row
theorem jZ:type_of% @decide_eq_true_eq:=@decide_eq_true_eq
theorem jX:type_of% @Nat.mul_le_mul_left:=@Nat.mul_le_mul_left
theorem jJ:type_of% @decide_eq_true:=@decide_eq_true
theorem jK:type_of% @Nat.pow_succ:=@Nat.pow_succ
theorem jV:type_of% @List.length_set:=@List.length_set
theorem jW:type_of% @Nat.mul_assoc:=@Nat.mul_assoc
theorem jY:type_of% @List.length_map:=@List.length_map
theorem jG:type_of% @List.getElem?_eq_some_iff:=@List.getElem?_eq_some_iff
theorem jH:type_of% @Nat.zero_add:=@Nat.zero_add
theorem jU:type_of% @Nat.mul_comm:=@Nat.mul_comm
theorem jB:type_of% @List.length_cons:=@List.length_cons
theorem jC:type_of% @List.getElem?_take:=@List.getElem?_take
theorem jD:type_of% @List.eq_nil_of_length_eq_zero:=@List.eq_nil_of_length_eq_zero
theorem jE:type_of% @decide_eq_false:=@decide_eq_false
theorem jF:type_of% @Nat.pow_pos:=@Nat.pow_pos
theorem jI:type_of% @List.mem_append:=@List.mem_append
theorem jL:type_of% @List.mem_of_getElem?:=@List.mem_of_getElem?
theorem jM:type_of% @List.getElem?_map:=@List.getElem?_map
theorem jN:type_of% @And.intro:=@And.intro
theorem jO:type_of% @Nat.div_lt_iff_lt_mul:=@Nat.div_lt_iff_lt_mul
theorem jP:type_of% @List.take_add_one:=@List.take_add_one
theorem jR:type_of% @World.cell?_of_block:=@World.cell?_of_block
theorem jS:type_of% @Nat.pow_add:=@Nat.pow_add
theorem jT:type_of% @List.getElem?_eq_none:=@List.getElem?_eq_none
theorem yQ:type_of% @Nat.lt_of_le_of_lt:=@Nat.lt_of_le_of_lt
theorem yZ:type_of% @heap_setCell_same:=@heap_setCell_same
theorem yX:type_of% @Option.some.injEq:=@Option.some.injEq
theorem yJ:type_of% @List.map_append:=@List.map_append
theorem yK:type_of% @List.append_assoc:=@List.append_assoc
theorem yV:type_of% @Nat.add_mul:=@Nat.add_mul
theorem yW:type_of% @List.map_cons:=@List.map_cons
theorem yY:type_of% @beq_iff_eq:=@beq_iff_eq
theorem yG:type_of% @List.mem_singleton:=@List.mem_singleton
theorem yH:type_of% @Int.tmod_eq_emod_of_nonneg:=@Int.tmod_eq_emod_of_nonneg
theorem yU:type_of% @List.mem_map:=@List.mem_map
theorem yB:type_of% @Decidable.byContradiction:=@Decidable.byContradiction
theorem yC:type_of% @Int.tdiv_eq_ediv_of_nonneg:=@Int.tdiv_eq_ediv_of_nonneg
theorem yD:type_of% @Below.setCell:=@Below.setCell
theorem yE:type_of% @List.drop_of_length_le:=@List.drop_of_length_le
theorem yF:type_of% @IntKind.wrap_u64:=@IntKind.wrap_u64
theorem yI:type_of% @List.map_nil:=@List.map_nil
theorem yL:type_of% @wpList_append_own:=@wpList_append_own
theorem yM:type_of% @Tryz.underlying31:=@Tryz.underlying31
theorem yN:type_of% @decide_eq_decide:=@decide_eq_decide
theorem yO:type_of% @World.size_alloc:=@World.size_alloc
theorem yP:type_of% @Nat.le_of_not_lt:=@Nat.le_of_not_lt
theorem yR:type_of% @Int.mul_comm:=@Int.mul_comm
theorem yS:type_of% @Nat.mul_le_mul:=@Nat.mul_le_mul
theorem yT:type_of% @Int.toNat_natCast:=@Int.toNat_natCast
theorem sx0 {α:Type _} {l:List α} {i:Nat} {a:α}:l.toArray.setIfInBounds i a=(l.set i a).toArray:=by simp
theorem sx1 {α:Type _} {x a:α} {l:List α}:(x::l).set 0 a=a::l:=rfl
theorem sx2 {α:Type _} {x a:α} {l:List α} {n:Nat}:(x::l).set (n+1) a=x::l.set n a:=rfl
theorem Lh {p:Prop} (h:p):Go.RowKit.Hid p:=h
theorem gS {α:Type _} {xs:Array α} {i:Nat} {b:α}:xs[i]?=some b↔∃ h:i<xs.size,xs[i]=b:=Array.getElem?_eq_some_iff
def isL (b:UInt8):Bool:=b == 73 || b == 88 || b == 89 || b == 90
def lx (b:UInt8):Bool:=b == 88 || b == 89
def lz (b:UInt8):Bool:=b == 89 || b == 90
def lno (b:UInt8):Nat:=(if lx b then 1 else 0)+(if lz b then 2 else 0)
theorem isL_cases {b:UInt8} (h:isL b=true):b=73\/b=88\/b=89\/b=90:=by
 unfold isL at h;simp only [Bool.or_eq_true,yY] at h
 rcases h with ((h | h) | h) | h
 ·exact qM h
 ·exact qO (qM h)
 ·exact qO (qO (qM h))
 ·exact qO (qO (qO h))
def nX:List UInt8->Nat
 | []=>0
 | b :: r=>(if lx b then 1 else 0)+2*nX r
def nZz:List UInt8->Nat
 | []=>0
 | b :: r=>(if lz b then 1 else 0)+2*nZz r
theorem nX_lt:∀ l:List UInt8,nX l<2 ^ l.length
 | []=>by simp [nX]
 | b :: r=>by
  have:=nX_lt r;rw [jB,jK,nX]
  split<;>omega
theorem nZz_lt:∀ l:List UInt8,nZz l<2 ^ l.length
 | []=>by simp [nZz]
 | b :: r=>by
  have:=nZz_lt r;rw [jB,jK,nZz]
  split<;>omega
theorem nX_snoc:∀ (l:List UInt8) (b:UInt8),nX (l++[b])=nX l+(if lx b then 1 else 0)*2 ^ l.length
 | [],b=>by simp [nX]
 | c :: r,b=>by
  rw [List.cons_append,nX,nX,nX_snoc r b,jB,jK]
  split<;>split<;>omega
theorem nZz_snoc:∀ (l:List UInt8) (b:UInt8),nZz (l++[b])=nZz l+(if lz b then 1 else 0)*2 ^ l.length
 | [],b=>by simp [nZz]
 | c :: r,b=>by
  rw [List.cons_append,nZz,nZz,nZz_snoc r b,jB,jK]
  split<;>split<;>omega
theorem lets_ext:∀ (a b:List UInt8),a.length=b.length->(∀ c ∈ a,isL c=true)->(∀ c ∈ b,isL c=true)->nX a=nX b->nZz a=nZz b->a=b
 | [],[],_,_,_,_,_=>rfl
 | [],_ :: _,h,_,_,_,_=>by simp at h
 | _ :: _,[],h,_,_,_,_=>by simp at h
 | c :: r,d :: s,hl,ha,hb,hx,hz=>by
  have h1:=isL_cases (ha c (by simp));have h2:=isL_cases (hb d (by simp));simp only [nX] at hx;simp only [nZz] at hz
  have hr:nX r=nX s/\nZz r=nZz s/\(lx c=lx d)/\(lz c=lz d):=by
   refine ⟨?_,?_,?_,?_⟩
   ·split at hx<;>split at hx<;>omega
   ·split at hz<;>split at hz<;>omega
   ·cases e1:lx c<;>cases e2:lx d<;>simp only [e1,e2,if_true,if_false,Bool.false_eq_true] at hx ⊢<;>omega
   ·cases e1:lz c<;>cases e2:lz d<;>simp only [e1,e2,if_true,if_false,Bool.false_eq_true] at hz ⊢<;>omega
  have hcd:c=d:=by
   obtain ⟨_,_,e1,e2⟩:=hr
   rcases h1 with rfl | rfl | rfl | rfl<;>rcases h2 with rfl | rfl | rfl | rfl<;>first | rfl | (exact absurd e1 (by decide)) | (exact absurd e2 (by decide))
  rw [hcd,lets_ext r s (by simpa using hl) (fun x hx=>ha x (by simp [hx])) (fun x hx=>hb x (by simp [hx])) hr.1 hr.2.1]
def apL (a b:UInt8):Bool:=a != 73 && b != 73 && a != b
theorem apL_bits {a b:UInt8} (ha:isL a=true) (hb:isL b=true):apL a b=((lx a && lz b) ^^ (lz a && lx b)):=by
 rcases isL_cases ha with rfl | rfl | rfl | rfl<;>rcases isL_cases hb with rfl | rfl | rfl | rfl<;>rfl
def apN:List UInt8->List UInt8->Nat
 | a :: r,b :: s=>(if apL a b then 1 else 0)+apN r s
 | _,_=>0
theorem apL_comm (a b:UInt8):apL a b=apL b a:=by
 unfold apL;rw [Bool.and_comm (a != 73),show (a != b)=(b != a) by simp [bne,BEq.comm]]
theorem apN_comm:∀ a b:List UInt8,apN a b=apN b a
 | [],[]=>rfl
 | [],_ :: _=>rfl
 | _ :: _,[]=>rfl
 | a :: r,b :: s=>by rw [apN,apN,apL_comm,apN_comm r s]
def pcF:Nat->Nat->Nat
 | 0,_=>0
 | f+1,x=>x % 2+pcF f (x / 2)
theorem pcF_more:∀ (f x:Nat),x<2 ^ f->∀ g,f<=g->pcF g x=pcF f x
 | 0,x,h,g,_=>by
  have:x=0:=by simpa using h
  subst this
  induction g with
  | zero=>rfl
  | succ g ih=>show 0 % 2+pcF g (0 / 2)=0;simpa [pcF] using ih (qI _)
 | f+1,x,h,g,hg=>by
  obtain ⟨k,rfl⟩:∃ k,g=k+1:=⟨g-1,by omega⟩;rw [pcF,pcF,pcF_more f (x / 2) (by rw [jK] at h;omega) k (by omega)]
theorem bit_and (i j:Bool) (a b:Nat):((if i then 1 else 0)+2*a) &&& ((if j then 1 else 0)+2*b)=(if i && j then 1 else 0)+2*(a &&& b):=by
 apply Nat.eq_of_testBit_eq
 intro n;rw [Nat.testBit_and]
 cases n with
 | zero=>cases i<;>cases j<;>simp [Nat.testBit_zero]<;>omega
 | succ n =>
  simp only [Nat.testBit_succ]
  rw [show ((if i=true then 1 else 0)+2*a) / 2=a by split<;>omega,show ((if j=true then 1 else 0)+2*b) / 2=b by split<;>omega,show ((if (i && j)=true then 1 else 0)+2*(a &&& b)) / 2=a &&& b by split<;>omega,Nat.testBit_and]
theorem bit_xor (i j:Bool) (a b:Nat):((if i then 1 else 0)+2*a) ^^^ ((if j then 1 else 0)+2*b)=(if i ^^ j then 1 else 0)+2*(a ^^^ b):=by
 apply Nat.eq_of_testBit_eq
 intro n;rw [Nat.testBit_xor]
 cases n with
 | zero=>cases i<;>cases j<;>simp [Nat.testBit_zero]<;>omega
 | succ n =>
  simp only [Nat.testBit_succ]
  rw [show ((if i=true then 1 else 0)+2*a) / 2=a by split<;>omega,show ((if j=true then 1 else 0)+2*b) / 2=b by split<;>omega,show ((if (i ^^ j)=true then 1 else 0)+2*(a ^^^ b)) / 2=a ^^^ b by split<;>omega,Nat.testBit_xor]
theorem ap_pc:∀ (a b:List UInt8),a.length=b.length->(∀ c ∈ a,isL c=true)->(∀ c ∈ b,isL c=true)->apN a b=pcF a.length ((nX a &&& nZz b) ^^^ (nZz a &&& nX b))
 | [],[],_,_,_=>rfl
 | [],_ :: _,h,_,_=>by simp at h
 | _ :: _,[],h,_,_=>by simp at h
 | c :: r,d :: s,hl,ha,hb=>by
  have ih:=ap_pc r s (by simpa using hl) (fun x hx=>ha x (by simp [hx])) (fun x hx=>hb x (by simp [hx]));rw [apN,nX,nZz,nX,nZz,bit_and,bit_and,bit_xor,jB,pcF,ih,apL_bits (ha c (by simp)) (hb d (by simp))]
  congr 1
  ·split<;>omega
  ·congr 1
   split<;>omega
def mulL (a b:UInt8):UInt8:=if a=73 then b else if a=b then 73 else if b=73 then a else if a≠88/\b≠88 then 88 else if a≠89/\b≠89 then 89 else 90
def mulT (a b:List UInt8):List UInt8:=List.zipWith mulL a b
theorem mulL_is {a b:UInt8} (ha:isL a=true) (hb:isL b=true):isL (mulL a b)=true/\lx (mulL a b)=(lx a ^^ lx b)/\lz (mulL a b)=(lz a ^^ lz b):=by
 rcases isL_cases ha with rfl | rfl | rfl | rfl<;>rcases isL_cases hb with rfl | rfl | rfl | rfl<;>exact ⟨rfl,rfl,rfl⟩
theorem mulT_is:∀ (a b:List UInt8),a.length=b.length->(∀ c ∈ a,isL c=true)->(∀ c ∈ b,isL c=true)->(mulT a b).length=a.length/\(∀ c ∈ mulT a b,isL c=true)/\nX (mulT a b)=nX a ^^^ nX b/\nZz (mulT a b)=nZz a ^^^ nZz b
 | [],[],_,_,_=>⟨rfl,fun c hc=>by simp [mulT] at hc,rfl,rfl⟩
 | [],_ :: _,h,_,_=>by simp at h
 | _ :: _,[],h,_,_=>by simp at h
 | c :: r,d :: s,hl,ha,hb=>by
  obtain ⟨i1,i2,i3,i4⟩:=mulT_is r s (by simpa using hl) (fun x hx=>ha x (by simp [hx])) (fun x hx=>hb x (by simp [hx]));obtain ⟨m1,m2,m3⟩:=mulL_is (ha c (by simp)) (hb d (by simp));have e:mulT (c :: r) (d :: s)=mulL c d :: mulT r s:=rfl;rw [e];refine ⟨by simp [i1],fun x hx=>?_,?_,?_⟩
  ·rcases List.mem_cons.1 hx with rfl | hx
   ·exact m1
   ·exact i2 x hx
  ·rw [nX,nX,nX,bit_xor,i3,m2]
  ·rw [nZz,nZz,nZz,bit_xor,i4,m3]
def oneT (n:Nat):List UInt8:=List.replicate n 73
theorem oneT_is (n:Nat):(oneT n).length=n/\(∀ c ∈ oneT n,isL c=true)/\nX (oneT n)=0/\nZz (oneT n)=0:=by
 induction n with
 | zero=>exact ⟨rfl,fun c hc=>by simp [oneT] at hc,rfl,rfl⟩
 | succ n ih =>
  obtain ⟨h1,h2,h3,h4⟩:=ih;have e:oneT (n+1)=73 :: oneT n:=rfl;rw [e];refine ⟨by simp [h1],fun c hc=>?_,by rw [nX,h3];rfl,by rw [nZz,h4];rfl⟩
  rcases List.mem_cons.1 hc with rfl | hc
  ·rfl
  ·exact h2 c hc
def isP (n:Nat) (T:List UInt8):Bool:=decide (T.length=n+1) && (T.headD 0 == 43 || T.headD 0 == 45) && (T.drop 1).all isL
theorem isP_iff {n:Nat} {T:List UInt8}:isP n T=true↔T.length=n+1/\(T.headD 0=43\/T.headD 0=45)/\∀ c ∈ T.drop 1,isL c=true:=by
 unfold isP;simp only [Bool.and_eq_true,jZ,Bool.or_eq_true,yY,List.all_eq_true,and_assoc]
def grp (n:Nat) (gens:List (List UInt8)):List (List UInt8):=gens.foldl (fun out g=>out++out.map (fun p=>mulT p g)) [oneT n]
theorem grp_snoc (n:Nat) (gens:List (List UInt8)) (g:List UInt8):grp n (gens++[g])=grp n gens++(grp n gens).map (fun p=>mulT p g):=by
 unfold grp;rw [List.foldl_append]
 rfl
theorem grp_go (n:Nat):∀ (gens out:List (List UInt8)),(∀ g ∈ gens,g.length=n/\∀ c ∈ g,isL c=true)->(∀ p ∈ out,p.length=n/\∀ c ∈ p,isL c=true)->oneT n ∈ out ->
  (∀ p ∈ gens.foldl (fun out g=>out++out.map (fun p=>mulT p g)) out,p.length=n/\∀ c ∈ p,isL c=true)/\oneT n ∈ gens.foldl (fun out g=>out++out.map (fun p=>mulT p g)) out/\(gens.foldl (fun out g=>out++out.map (fun p=>mulT p g)) out).length=out.length*2 ^ gens.length
 | [],out,_,h1,h2=>⟨h1,h2,by simp⟩
 | g :: r,out,hg,h1,h2=>by
  have hgg:=hg g (by simp)
  obtain ⟨i1,i2,i3⟩:=grp_go n r (out++out.map (fun p=>mulT p g)) (fun x hx=>hg x (by simp [hx])) (fun p hp=>by
   rcases jI.1 hp with hp | hp
   ·exact h1 p hp
   ·obtain ⟨q,hq,rfl⟩:=yU.1 hp
    have:=h1 q hq;have m:=mulT_is q g (by rw [this.1,hgg.1]) this.2 hgg.2
    exact ⟨m.1.trans this.1,m.2.1⟩) (by simp [h2])
  refine ⟨i1,i2,i3.trans ?_⟩;rw [qT,jY,jB,jK,<-Nat.two_mul,jW,jU 2,jW]
theorem grp_is (n:Nat) (gens:List (List UInt8)) (h:∀ g ∈ gens,g.length=n/\∀ c ∈ g,isL c=true):(∀ p ∈ grp n gens,p.length=n/\∀ c ∈ p,isL c=true)/\oneT n ∈ grp n gens/\(grp n gens).length=2 ^ gens.length:=by
 have:=grp_go n gens [oneT n] h (fun p hp=>by
  have e:p=oneT n:=by simpa using hp
  rw [e]
  exact ⟨(oneT_is n).1,(oneT_is n).2.1⟩) (by simp)
 simpa [grp] using this
def B64:Nat:=18446744073709551616
theorem B64_eq:B64=18446744073709551616:=rfl
theorem B64_pos:0<B64:=by unfold B64;omega
def val:List Nat->Nat
 | []=>0
 | x :: r=>x+B64*val r
def Dig (l:List Nat):Prop:=∀ x ∈ l,x<B64
def nlen:List Nat->Nat
 | []=>0
 | x :: r=>if nlen r=0/\x=0 then 0 else nlen r+1
theorem nlen_le (l:List Nat):nlen l<=l.length:=by
 induction l with
 | nil=>simp [nlen]
 | cons x r ih=>simp only [nlen,jB];split<;>omega
def Nrm (l:List Nat):Prop:=nlen l=l.length
theorem val_append (a b:List Nat):val (a++b)=val a+B64 ^ a.length*val b:=by
 induction a with
 | nil=>simp [val]
 | cons x r ih =>
  simp only [List.cons_append,val,ih,jB];rw [Nat.pow_succ',qN,jW];omega
theorem val_take_nlen (l:List Nat):val (l.take (nlen l))=val l:=by
 induction l with
 | nil=>rfl
 | cons x r ih =>
  simp only [nlen]
  split
  ·rename_i h
   obtain ⟨h1,h2⟩:=h;rw [h1] at ih;simp only [List.take_zero,val] at ih ⊢;rw [<-ih,h2];simp
  ·simp only [List.take_succ_cons,val,ih]
theorem nlen_take (l:List Nat):nlen (l.take (nlen l))=nlen l:=by
 induction l with
 | nil=>rfl
 | cons x r ih =>
  simp only [nlen]
  split
  ·simp [nlen]
  ·rename_i h
   simp only [List.take_succ_cons,nlen,ih];rw [qE h]
theorem Nrm_take (l:List Nat):Nrm (l.take (nlen l)):=by
 unfold Nrm;rw [nlen_take,qC];have:=nlen_le l;omega
theorem Dig.take {l:List Nat} (h:Dig l) (n:Nat):Dig (l.take n):=fun x hx=>h x (List.mem_of_mem_take hx)
theorem Dig.drop {l:List Nat} (h:Dig l) (n:Nat):Dig (l.drop n):=fun x hx=>h x (List.mem_of_mem_drop hx)
theorem Dig.append {a b:List Nat} (h:Dig a) (k:Dig b):Dig (a++b):=fun x hx=>(jI.1 hx).elim (h x) (k x)
theorem Dig.nil:Dig []:=fun x hx=>by simp at hx
theorem Dig.cons {x:Nat} {l:List Nat} (hx:x<B64) (h:Dig l):Dig (x :: l):=fun y hy=>by
 rcases List.mem_cons.1 hy with rfl | hy
 ·exact hx
 ·exact h y hy
theorem Dig.getD {l:List Nat} (h:Dig l) (t:Nat):l.getD t 0<B64:=by
 by_cases ht:t<l.length
 ·rw [qQ,qX ht]
  exact h _ (List.getElem_mem ht)
 ·rw [qQ,jT (by omega)]
  exact B64_pos
theorem val_lt {l:List Nat} (h:Dig l):val l<B64 ^ l.length:=by
 induction l with
 | nil=>simp [val]
 | cons x r ih =>
  have hx:x<B64:=h x (List.mem_cons_self ..);have hr:=ih (fun y hy=>h y (List.mem_cons_of_mem _ hy));simp only [val,jB,Nat.pow_succ'];have:B64*(val r+1)<=B64*B64 ^ r.length:=jX _ hr;rw [qN] at this;omega
theorem nlen_of_last (l:List Nat) (n:Nat) (hn:n<=l.length) (h0:∀ t,n<=t->l.getD t 0=0) (h1:n=0\/l.getD (n-1) 0≠0):nlen l=n:=by
 induction l generalizing n with
 | nil=>simp at hn;simp [nlen,hn]
 | cons x r ih =>
  cases n with
  | zero =>
   have hr:nlen r=0:=ih 0 (qI _) (fun t _=>by have:=h0 (t+1) (by omega);simpa using this) (qM rfl)
   have hx:x=0:=by have:=h0 0 (by omega);simpa using this
   simp [nlen,hr,hx]
  | succ m =>
   have hr:nlen r=m:=by
    refine ih m (by simpa using hn) (fun t ht=>by have:=h0 (t+1) (by omega);simpa using this) ?_
    cases m with
    | zero=>exact qM rfl
    | succ k=>right;have:=h1.resolve_left (by omega);simpa using this
   simp only [nlen,hr];rw [qE];rintro ⟨rfl,hx⟩;have:=h1.resolve_left (by omega)
   simp [hx] at this
def seg (L:List Nat) (o n:Nat):List Nat:=(L.drop o).take n
theorem seg_length (L:List Nat) (o n:Nat) (h:o+n<=L.length):(seg L o n).length=n:=by
 unfold seg;rw [qC,qF];omega
theorem seg_zero (L:List Nat) (o:Nat):seg L o 0=[]:=by simp [seg]
theorem seg_succ (L:List Nat) (o n:Nat) (h:o+n<L.length):seg L o (n+1)=seg L o n++[L.getD (o+n) 0]:=by
 unfold seg;rw [List.take_succ_eq_append_getElem (by rw [qF];omega)]
 congr 2
 rw [List.getElem_drop,qQ,qX h]
 rfl
theorem take_succ_getD (l:List Nat) (n:Nat) (h:n<l.length):l.take (n+1)=l.take n++[l.getD n 0]:=by
 rw [List.take_succ_eq_append_getElem h,qQ,qX h]
 rfl
theorem seg_congr (L M:List Nat) (o n:Nat) (hl:L.length=M.length) (h:∀ t,o<=t->t<o+n->L.getD t 0=M.getD t 0):seg L o n=seg M o n:=by
 unfold seg
 apply List.ext_getElem?
 intro i;rw [jC,jC]
 split
 ·rw [List.getElem?_drop,List.getElem?_drop]
  by_cases hi:o+i<L.length
  ·have:=h (o+i) (by omega) (by omega)
   rw [qQ,qQ,qX hi,qX (by omega)] at this;rw [qX hi,qX (by omega)]
   simpa using this
  ·rw [jT (by omega),jT (by omega)]
 ·rfl
theorem getD_set_ne (L:List Nat) (i j x:Nat) (h:i≠j):(L.set i x).getD j 0=L.getD j 0:=by
 rw [qQ,qQ,List.getElem?_set_ne h]
theorem getD_set_eq (L:List Nat) (i x:Nat) (h:i<L.length):(L.set i x).getD i 0=x:=by
 rw [qQ,List.getElem?_set_self h];rfl
theorem Dig.set {L:List Nat} (h:Dig L) (i x:Nat) (hx:x<B64):Dig (L.set i x):=fun y hy=>by
 rcases List.mem_or_eq_of_mem_set hy with h1 | h1
 ·exact h y h1
 ·rw [h1];exact hx
def Turned (L M:List Nat) (o n:Nat):Prop:=M.length=L.length/\∀ t,(t<o\/o+n<=t)->M.getD t 0=L.getD t 0
theorem Turned.refl (L:List Nat) (o n:Nat):Turned L L o n:=⟨rfl,fun _ _=>rfl⟩
theorem Turned.step {L M:List Nat} {o k:Nat} (h:Turned L M o k) (x:Nat):Turned L (M.set (o+k) x) o (k+1) :=
 ⟨by rw [jV];exact h.1,fun t ht=>by rw [getD_set_ne _ _ _ _ (by omega)];exact h.2 t (by omega)⟩
theorem val_snoc (l:List Nat) (x:Nat):val (l++[x])=val l+B64 ^ l.length*x:=by rw [val_append];simp [val]
theorem seg_step {L M:List Nat} {o k:Nat} (h:Turned L M o k) (x:Nat) (hk:o+k<L.length):seg (M.set (o+k) x) o (k+1)=seg M o k++[x]:=by
 rw [seg_succ _ _ _ (by rw [jV,h.1];exact hk),getD_set_eq _ _ _ (by rw [h.1];exact hk)]
 congr 1
 exact seg_congr _ _ _ _ (by rw [jV]) (fun t _ ht=>getD_set_ne _ _ _ _ (by omega))
theorem muladd_step (k P S A x q y d z word over over':Nat) (hinv:P+B64 ^ k*over=S+A*word) (hx:x+B64*over'=y+d*word+over) (hz:z=B64 ^ k)
  (hq:q=P+z*x):q+B64 ^ (k+1)*over'=(S+z*y)+(A+z*d)*word:=by
 subst hz hq
 have e:B64 ^ (k+1)*over'=B64 ^ k*(B64*over'):=by rw [jK,jW]
 have e2:B64 ^ k*(x+B64*over')=B64 ^ k*(y+d*word+over):=by rw [hx]
 rw [qN,qN,qN] at e2
 have e3:(A+B64 ^ k*d)*word=A*word+B64 ^ k*(d*word):=by rw [yV,jW]
 rw [e,e3];omega
theorem addProd_step {L M la:List Nat} {o k word over over' x y d:Nat} (hT:Turned L M o k) (hn:o+la.length<=L.length) (hk:k<la.length)
  (hinv:val (seg M o k)+B64 ^ k*over=val (seg L o k)+val (la.take k)*word) (hy:M.getD (o+k) 0=y) (hd:la.getD k 0=d)
  (hx:x+B64*over'=y+d*word+over) :
  val (seg (M.set (o+k) x) o (k+1))+B64 ^ (k+1)*over'=val (seg L o (k+1))+val (la.take (k+1))*word:=by
 rw [seg_step hT x (by omega),val_snoc,seg_succ L o k (by omega),val_snoc,take_succ_getD la k hk,val_snoc,seg_length M o k (by rw [hT.1];omega),seg_length L o k (by omega)];rw [qC,Nat.min_eq_left (by omega),<-hT.2 (o+k) (by omega),hy,hd];exact muladd_step k _ _ _ x _ y d _ word over over' hinv hx rfl rfl
theorem pow_split (k c:Nat):B64 ^ (k+1)*c=B64 ^ k*(B64*c):=by rw [jK,jW]
theorem carry_step {L M:List Nat} {o k c c' x z X:Nat} (hT:Turned L M o k) (hk:o+k<L.length) (hinv:val (seg M o k)+B64 ^ k*c=X) (hx:x+B64*c'=z+c) :
  val (seg (M.set (o+k) x) o (k+1))+B64 ^ (k+1)*c'=X+B64 ^ k*z:=by
 rw [seg_step hT x hk,val_snoc,seg_length M o k (by rw [hT.1];omega),pow_split]
 have e:B64 ^ k*(x+B64*c')=B64 ^ k*(z+c):=by rw [hx]
 rw [qN,qN] at e;omega
theorem borrow_step {L M:List Nat} {o k c c' x y z X Y:Nat} (hT:Turned L M o k) (hk:o+k<L.length) (hinv:val (seg M o k)+X=Y+B64 ^ k*c) (hx:x+(z+c)=y+B64*c') :
  val (seg (M.set (o+k) x) o (k+1))+(X+B64 ^ k*z)=(Y+B64 ^ k*y)+B64 ^ (k+1)*c':=by
 rw [seg_step hT x hk,val_snoc,seg_length M o k (by rw [hT.1];omega),pow_split]
 have e:B64 ^ k*(x+(z+c))=B64 ^ k*(y+B64*c'):=by rw [hx]
 rw [qN,qN,qN] at e;omega
theorem val_seg_succ (L:List Nat) (o k:Nat) (h:o+k<L.length):val (seg L o (k+1))=val (seg L o k)+B64 ^ k*L.getD (o+k) 0:=by
 rw [seg_succ L o k h,val_snoc,seg_length L o k (by omega)]
theorem val_take_succ (l:List Nat) (k:Nat) (h:k<l.length):val (l.take (k+1))=val (l.take k)+B64 ^ k*l.getD k 0:=by
 rw [take_succ_getD l k h,val_snoc,qC,Nat.min_eq_left (by omega)]
theorem seg_split (L:List Nat) (o j n:Nat) (hj:j<=n):seg L o n=seg L o j++seg L (o+j) (n-j):=by
 unfold seg;rw [<-List.drop_drop,<-List.drop_take]
 have e:(L.drop o).take j=((L.drop o).take n).take j:=by rw [List.take_take,Nat.min_eq_left hj]
 rw [e,List.take_append_drop]
theorem val_seg_split (L:List Nat) (o j n:Nat) (hj:j<=n) (hn:o+n<=L.length):val (seg L o n)=val (seg L o j)+B64 ^ j*val (seg L (o+j) (n-j)):=by
 rw [seg_split L o j n hj,val_append,seg_length L o j (by omega)]
theorem Turned.mono {L M:List Nat} {o k n:Nat} (h:Turned L M o k) (hk:k<=n):Turned L M o n:=⟨h.1,fun t ht=>h.2 t (by omega)⟩
theorem Turned.tail {L M:List Nat} {o k n:Nat} (h:Turned L M o k) (_hk:k<=n):seg M (o+k) (n-k)=seg L (o+k) (n-k) :=
 seg_congr _ _ _ _ h.1 (fun t ht _=>h.2 t (by omega))
theorem val_take_all (l:List Nat):val (l.take l.length)=val l:=by rw [List.take_length]
theorem Nrm.tail {x:Nat} {r:List Nat} (h:Nrm (x :: r)):Nrm r/\¬ (r=[]/\x=0):=by
 unfold Nrm at h ⊢;simp only [nlen,jB] at h
 split at h
 ·omega
 ·rename_i h2
  refine ⟨by omega,?_⟩;rintro ⟨rfl,rfl⟩;exact h2 ⟨rfl,rfl⟩
theorem Nrm.ge {l:List Nat} (h:Nrm l) (h0:l≠[]):B64 ^ (l.length-1)<=val l:=by
 induction l with
 | nil=>exact absurd rfl h0
 | cons x r ih =>
  obtain ⟨hr,hx⟩:=h.tail
  by_cases hr0:r=[]
  ·subst hr0
   have:x≠0:=fun e=>hx ⟨rfl,e⟩
   simp [val];omega
  ·have h1:=ih hr hr0
   have h2:0<r.length:=List.length_pos_iff.2 hr0;simp only [val,jB,Nat.add_sub_cancel]
   have e:B64 ^ r.length=B64*B64 ^ (r.length-1):=by rw [<-Nat.pow_succ'];congr 1;omega
   rw [e];have:=jX B64 h1;omega
theorem Nrm.len_lt {a b:List Nat} (hb:Nrm b) (da:Dig a) (h:a.length<b.length):val a<val b:=by
 have h1:=val_lt da;have h2:=hb.ge (by intro e;subst e;simp at h);have h3:B64 ^ a.length<=B64 ^ (b.length-1):=qY B64_pos (by omega);omega
theorem Nrm.len_le {a b:List Nat} (ha:Nrm a) (db:Dig b) (h:val a<=val b):a.length<=b.length:=by
 by_cases hl:b.length<a.length
 ·have:=ha.len_lt db hl;omega
 ·omega
theorem Nrm.nil:Nrm []:=rfl
theorem val_drop_take (l:List Nat) (n:Nat) (h:n<=l.length):val l=val (l.take n)+B64 ^ n*val (l.drop n):=by
 have e:=val_append (l.take n) (l.drop n);rw [List.take_append_drop,qC,Nat.min_eq_left h] at e;exact e
theorem getD_ext (a b:List Nat) (hl:a.length=b.length) (n:Nat) (h:∀ t,n<=t->a.getD t 0=b.getD t 0):a.drop n=b.drop n:=by
 apply List.ext_getElem?
 intro i;rw [List.getElem?_drop,List.getElem?_drop];have:=h (n+i) (by omega);rw [qQ,qQ] at this
 by_cases hi:n+i<a.length
 ·rw [qX hi,qX (by omega)] at this ⊢
  simpa using this
 ·rw [jT (by omega),jT (by omega)]
theorem val_lt_at {a b:List Nat} (hl:a.length=b.length) (da:Dig a) (i:Nat) (hi:i<a.length) (h:∀ t,i+1<=t->a.getD t 0=b.getD t 0) (hlt:a.getD i 0<b.getD i 0):val a<val b:=by
 rw [val_drop_take a (i+1) (by omega),val_drop_take b (i+1) (by omega),getD_ext a b hl (i+1) h,val_take_succ a i hi,val_take_succ b i (by omega)];have h1:=val_lt (da.take i);rw [qC,Nat.min_eq_left (by omega)] at h1;have h2:B64 ^ i*(a.getD i 0+1)<=B64 ^ i*b.getD i 0:=jX _ hlt;rw [qN] at h2;omega
def Seg (w:World) (ao:Option Addr) (l:List Nat):Prop :=
 (ao=none/\l=[])\/∃ b o,ao=some ⟨b,o,none⟩/\b<w.heap.size/\∀ t,t<l.length->w.cell? ⟨b,o+t,none⟩=some (.int .u64 (l.getD t 0:Nat))
abbrev Ext (w w':World):Prop:=Below w.heap.size w w'
theorem Ext.refl (w:World):Ext w w:=Below.refl _ _
theorem Ext.trans {a b c:World} (h:Ext a b) (k:Ext b c):Ext a c:=Below.trans h (Below.mono k h.size)
theorem Seg.ext {w w':World} {ao:Option Addr} {l:List Nat} (h:Seg w ao l) (k:Ext w w'):Seg w' ao l:=by
 rcases h with h | ⟨b,o,rfl,hb,hc⟩
 ·exact qM h
 ·exact qO ⟨b,o,rfl,qK hb k.size,fun t ht=>(k.cell (p:=⟨b,o+t,none⟩) hb).trans (hc t ht)⟩
theorem Seg.take {w:World} {ao:Option Addr} {l:List Nat} (h:Seg w ao l) (n:Nat):Seg w ao (l.take n):=by
 rcases h with ⟨rfl,rfl⟩ | ⟨b,o,rfl,hb,hc⟩
 ·exact qM ⟨rfl,by simp⟩
 ·refine qO ⟨b,o,rfl,hb,fun t ht=>?_⟩
  rw [qC] at ht;rw [hc t (by omega)];simp only [qQ,jC];rw [qU (by omega)]
def Row (w:World) (b:Nat) (L:List Nat):Prop :=
 ∃ e,w.heap[b]?=some (.cells (L.map fun x=>Value.int .u64 (x:Nat)).toArray e (0,0))
structure Only (b:Nat) (w w':World):Prop where
 os:w'.os=w.os
 tape:w'.tape=w.tape
 output:w'.output=w.output
 size:w'.heap.size=w.heap.size
 block:∀ k,k≠b->w'.heap[k]?=w.heap[k]?
theorem Only.refl (b:Nat) (w:World):Only b w w:=⟨rfl,rfl,rfl,rfl,fun _ _=>rfl⟩
theorem Only.trans {b:Nat} {a c d:World} (h:Only b a c) (k:Only b c d):Only b a d :=
 ⟨k.os.trans h.os,k.tape.trans h.tape,k.output.trans h.output,k.size.trans h.size,fun i hi=>(k.block i hi).trans (h.block i hi)⟩
theorem Only.below {b N:Nat} {a c:World} (h:Only b a c) (hb:N<=b):Below N a c :=
 ⟨h.os,h.tape,h.output,by rw [h.size];exact qZ _,fun k hk=>h.block k (by omega)⟩
theorem Only.setCell {b:Nat} {a w:World} (h:Only b a w) (o:Nat) (u:Value):Only b a (w.setCell ⟨b,o,none⟩ u) :=
 h.trans ⟨rfl,rfl,rfl,by simp [World.setCell],fun k hk=>Below.heap_setCell _ _ _ _ hk⟩
theorem Seg.only {w w':World} {ao:Option Addr} {l:List Nat} {b:Nat} (h:Seg w ao l) (k:Only b w w') (hb:∀ a,ao=some a->a.block≠b):Seg w' ao l:=by
 rcases h with h | ⟨g,o,rfl,hg,hc⟩
 ·exact qM h
 ·exact qO ⟨g,o,rfl,by rw [k.size];exact hg,fun t ht=>(jR (a:=⟨g,o+t,none⟩) (k.block g (hb _ rfl))).trans (hc t ht)⟩
theorem Row.lt {w:World} {b:Nat} {L:List Nat} (h:Row w b L):b<w.heap.size:=by
 obtain ⟨e,h⟩:=h;exact (gS.1 h).1
theorem Row.cell {w:World} {b:Nat} {L:List Nat} (h:Row w b L) (j:Nat) (hj:j<L.length):w.cell? ⟨b,j,none⟩=some (.int .u64 (L.getD j 0:Nat)):=by
 obtain ⟨e,h⟩:=h;rw [qD w b j _ e (0,0) h]
 simp [hj,List.getD_eq_getElem?_getD]
theorem Row.frozen {w:World} {b:Nat} {L:List Nat} (h:Row w b L) (j:Nat):w.frozen? ⟨b,j,none⟩=false:=by
 obtain ⟨e,h⟩:=h;exact jQ w b j _ e h
theorem Row.set {w:World} {b:Nat} {L:List Nat} (h:Row w b L) (j x:Nat):Row (w.setCell ⟨b,j,none⟩ (.int .u64 (x:Nat))) b (L.set j x):=by
 obtain ⟨e,h⟩:=h;refine ⟨e,?_⟩;rw [yZ w b j _ e _ h]
 congr 2
 apply Array.toList_inj.1
 simp [List.map_set]
theorem Row.ext {w w':World} {b:Nat} {L:List Nat} (h:Row w b L) (k:Ext w w'):Row w' b L:=by
 have hb:=h.lt;obtain ⟨e,h⟩:=h;exact ⟨e,(k.block b hb).trans h⟩
theorem Row.only {w w':World} {b g:Nat} {L:List Nat} (h:Row w b L) (k:Only g w w') (hg:b≠g):Row w' b L:=by
 obtain ⟨e,h⟩:=h;exact ⟨e,(k.block b hg).trans h⟩
theorem Row.seg {w:World} {b:Nat} {L:List Nat} (h:Row w b L) (o n:Nat) (hn:o+n<=L.length):Seg w (some ⟨b,o,none⟩) ((L.drop o).take n):=by
 refine qO ⟨b,o,rfl,h.lt,fun t ht=>?_⟩;rw [qC,qF] at ht;rw [h.cell (o+t) (by omega)];simp only [qQ,jC,List.getElem?_drop];rw [qU (by omega)]
def IntsAt (w:World) (ao:Option Addr) (n:Nat) (l:List Int):Prop :=
 l.length=n/\(n=0\/∃ b o,ao=some ⟨b,o,none⟩/\b<w.heap.size/\∀ t,t<n->w.cell? ⟨b,o+t,none⟩=some (.int .i64 (l.getD t 0)))
theorem IntsAt.ext {w w':World} {ao:Option Addr} {n:Nat} {l:List Int} (h:IntsAt w ao n l) (k:Ext w w'):IntsAt w' ao n l:=by
 refine ⟨h.1,?_⟩
 rcases h.2 with h0 | ⟨b,o,e,hb,hc⟩
 ·exact qM h0
 ·exact qO ⟨b,o,e,qK hb k.size,fun t ht=>(k.cell (p:=⟨b,o+t,none⟩) hb).trans (hc t ht)⟩
theorem IntsAt.at {w:World} {ao:Option Addr} {n:Nat} {l:List Int} (h:IntsAt w ao n l) (hn:0<n):∃ b o,ao=some ⟨b,o,none⟩/\b<w.heap.size/\∀ t,t<n->w.cell? ⟨b,o+t,none⟩=some (.int .i64 (l.getD t 0)):=by
 rcases h.2 with h0 | h
 ·omega
 ·exact h
end Go.Proofs.YtjfomkoedgipjaaGreatDoor
