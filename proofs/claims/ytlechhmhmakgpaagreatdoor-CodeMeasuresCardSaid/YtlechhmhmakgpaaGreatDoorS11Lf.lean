/-
  The laws' own example: three qubits that are alike mend one flip. What gates make of Paulis, in plain numbers; which of two do not commute. The program: sets of one qubit; a Pauli with the other sign. The program: what the gates' closures make of a Pauli. The program: what the gates' closures make of a Pauli, more of them. The program: what the gates' closures make of a Pauli, more of them. The program: what the gates' closures make of a Pauli, more of them. The program: gates as values. The program: told; which letters a Pauli has: closures as values.
-/
import Derived.Test.YtlechhmhmakgpaaGreatDoorS10Dd
namespace Go.Proofs.YtlechhmhmakgpaaGreatDoor
set_option maxRecDepth 100000
set_option maxHeartbeats 4000000
open Go.RowKit
def exG:List (List UInt8):=[[43,90,90,73],[43,73,90,90]]
theorem ex_sy:syF 3 exG [43,88,73,73]=(0,0):=by decide +kernel
theorem ex_syn:synL exG [88,73,73]=[1,0]:=by decide +kernel
theorem ex_de:deF 3 exG [1,0]=(0,0):=by decide +kernel
theorem ex_tx:43 :: txL (deP 3 exG [1,0]) 3=[43,88,73,73]:=by decide +kernel
theorem ex_strs (w:World):StrsAt (w.alloc (.cells #[.string ⟨#[43,90,90,73]⟩,.string ⟨#[43,73,90,90]⟩] 9)) (some ⟨w.heap.size,0,none⟩) 2 exG:=by
 have hr:=heap_alloc_new w (.cells #[.string ⟨#[43,90,90,73]⟩,.string ⟨#[43,73,90,90]⟩] 9);refine ⟨rfl,Or.inr ⟨_,0,rfl,(gS.1 hr).1,fun t ht=>?_⟩⟩;rw [cell_of_row _ _ (0+t) _ _ (0,0) hr]
 have h:t=0\/t=1:=by omega
 rcases h with rfl | rfl<;>rfl
theorem ex_ints (w:World):IntsAt (w.alloc (.cells #[.int .i64 1,.int .i64 0] 3)) (some ⟨w.heap.size,0,none⟩) 2 [1,0]:=by
 have hr:=heap_alloc_new w (.cells #[.int .i64 1,.int .i64 0] 3);refine ⟨rfl,Or.inr ⟨_,0,rfl,(gS.1 hr).1,fun t ht=>?_⟩⟩;rw [cell_of_row _ _ (0+t) _ _ (0,0) hr]
 have h:t=0\/t=1:=by omega
 rcases h with rfl | rfl<;>rfl
theorem codeBegun_any (w:World) (hL:LtL w):Calls Tryz.prog 29 #[] w fun e w'=>e=.returned (.bool true)/\Ext w w':=by
 obtain ⟨H,hH⟩:∃ H,w.heap.size=H:=⟨_,rfl⟩;obtain ⟨U,hU⟩:∃ U,w.alloc (.cells #[.string ⟨#[43,90,90,73]⟩,.string ⟨#[43,73,90,90]⟩] 9)=U:=⟨_,rfl⟩;obtain ⟨W0,hW0⟩:∃ W0,U.alloc (.cells #[.int .i64 3,.slice (some ⟨H,0,none⟩) 2 2] 59)=W0:=⟨_,rfl⟩
 have EU:Ext w U:=by rw [<-hU];exact ext_al _ _
 have E0:Ext U W0:=by rw [<-hW0];exact ext_al _ _
 have sU:U.heap.size=H+1:=by rw [<-hU,<-hH];simp
 have C0:CoB W0 (H+1) 3 (some ⟨H,0,none⟩) 2 2:=by rw [<-hW0,<-sU];exact CoB.new _ _ _ _ _
 have hS:StrsAt W0 (some ⟨H,0,none⟩) 2 exG:=by
  have:=(ex_strs w);rw [hU,hH] at this;exact this.ext E0
 have hT:∀ T ∈ exG,T.length<=9223372036854775807:=by decide
 have HSy:=Syndrome_any 3 exG [43,88,73,73] (some ⟨H,0,none⟩) 2 2 W0 hS hT (by decide) (by decide);rw [ex_sy,show ([43,88,73,73]:List UInt8).drop 1=[88,73,73] from rfl,ex_syn] at HSy;have HDe:=Lh (fun (a:Option Addr) (c:Nat) (wx:World) (hx:Ext W0 wx) (hI:IntsAt wx a 2 [1,0])=>Decode_any 3 exG [1,0] (some ⟨H,0,none⟩) 2 2 a 2 c wx (hS.ext hx) hT (by decide) hI (hL.ext ((EU.trans E0).trans hx)));rw [ex_de,show (3:Int).toNat=3 from rfl,ex_tx] at HDe;have HSy:=Lh HSy;have HE0:=Lh (EU.trans E0);have HC:=Lh C0;have HU:=Lh hU;have HW0:=Lh hW0;have HH:=Lh hH;have HsU:=Lh sU;have v0:=C0.x0;have v1:=C0.x1;clear hL hU hW0 EU E0 sU C0 hS hT hH
 go_enter Tryz.func29,Tryz.ntmps29
 go_upto_region 2 with fail
 rw [HU.out,HH.out,HW0.out]
 go_wp2_with fail
 refine HSy.out.mono ?_;rintro e w1 ⟨r,rfl,hx1,hgood,_⟩;obtain ⟨a,c',rfl,hc1,hc2,hI,_⟩:=hgood (by trivial);obtain ⟨W1,hW1⟩:∃ W1,w1.alloc (.cells #[.int .i64 0,.int .i64 0] 29)=W1:=⟨_,rfl⟩;obtain ⟨K,hK⟩:∃ K,w1.heap.size=K:=⟨_,rfl⟩
 have E1:Ext w1 W1:=by rw [<-hW1];exact ext_al _ _
 have F1:FtB W1 K 0 0:=⟨by rw [<-hW1,<-hK];exact heap_alloc_new _ _⟩;have hE1:Ext W0 W1:=hx1.trans E1;have HD1:=Lh (HDe.out a c' W1 hE1 (hI.ext E1));have HI1:=Lh (hI.ext E1);have HE1:=Lh hE1;have HF1:=Lh F1;have HW1:=Lh hW1;have HK:=Lh hK;have Hc:=Lh (And.intro hc1 hc2);have u0:=(HC.out.ext hE1).x0;have u1:=(HC.out.ext hE1).x1;clear hgood hI hx1 hW1 hK E1 F1 hE1 HDe HSy v0 v1 hc1 hc2
 go_upto_region 3 with fail
 rw [HW1.out,HK.out];clear HW1 HK
 go_wp2_with fail
 refine HD1.out.mono ?_;rintro e w2 ⟨rfl,hx2⟩;obtain ⟨W2,hW2⟩:∃ W2,w2.alloc (.cells #[.int .i64 0,.int .i64 0] 29)=W2:=⟨_,rfl⟩;obtain ⟨K2,hK2⟩:∃ K,w2.heap.size=K:=⟨_,rfl⟩
 have E2:Ext W1 W2:=by rw [<-hW2];exact hx2.trans (ext_al _ _)
 have F2:FtB W2 K2 0 0:=⟨by rw [<-hW2,<-hK2];exact heap_alloc_new _ _⟩;have HW2:=Lh hW2;have HK2:=Lh hK2;have HE2:=Lh E2;have m0:=(HF1.out.ext E2).x0;have m1:=F2.x0;have hI3:=ex_ints W2;have E3:Ext W2 (W2.alloc (.cells #[.int .i64 1,.int .i64 0] 3)):=ext_al _ _;have HSm:=Lh (sameInts_any [1,0] a 2 c' (some ⟨W2.heap.size,0,none⟩) 2 _ (HI1.out.ext (E2.trans E3)) hI3 Hc.out.1 Hc.out.2);have HE3:=Lh (HE0.out.trans (HE1.out.trans (E2.trans E3)));clear hx2 hW2 hK2 E2 F2 E3 hI3 u0 u1 HD1;simp only [if_true]
 go_upto_region 4 with fail
 rw [HW2.out,HK2.out];clear HW2 HK2
 go_wp2_with fail
 refine HSm.out.mono ?_;rintro e w4 ⟨rfl,hx4⟩;have HE4:=Lh (HE3.out.trans hx4);clear hx4 HSm m0 m1
 go_wp2_with fail
 go_ret
 exact ⟨rfl,HE4.out⟩
structure QP where
 x:Nat
 z:Nat
 m:Bool
theorem QP.ext' {p q:QP} (h1:p.x=q.x) (h2:p.z=q.z) (h3:p.m=q.m):p=q:=by
 cases p;cases q;simp_all
def flipG (q:Nat) (p:QP):QP:=⟨p.x,p.z,p.m ^^ p.z.testBit q⟩
def forkG (q:Nat) (p:QP):QP:=⟨p.x ^^^ ((p.x ^^^ p.z) &&& 2 ^ q),p.z ^^^ ((p.x ^^^ p.z) &&& 2 ^ q),p.m ^^ (p.x.testBit q && p.z.testBit q)⟩
def quarG (q:Nat) (p:QP):QP:=⟨p.x,p.z ^^^ (p.x &&& 2 ^ q),p.m ^^ (p.x.testBit q && p.z.testBit q)⟩
def onG (q c:Nat) (p:QP):QP:=⟨if p.x.testBit c then p.x ^^^ 2 ^ q else p.x,if p.z.testBit q then p.z ^^^ 2 ^ c else p.z,p.m ^^ (p.x.testBit c && p.z.testBit q && (p.x.testBit q == p.z.testBit c))⟩
theorem fork_x (q j:Nat) (p:QP):(forkG q p).x.testBit j=if q=j then p.z.testBit j else p.x.testBit j:=by
 simp only [forkG,Nat.testBit_xor,Nat.testBit_and,Nat.testBit_two_pow]
 by_cases h:q=j
 ·simp [h]
 ·simp [h]
theorem fork_z (q j:Nat) (p:QP):(forkG q p).z.testBit j=if q=j then p.x.testBit j else p.z.testBit j:=by
 simp only [forkG,Nat.testBit_xor,Nat.testBit_and,Nat.testBit_two_pow]
 by_cases h:q=j
 ·simp only [h,decide_true,Bool.and_true,if_true];cases p.x.testBit j<;>cases p.z.testBit j<;>rfl
 ·simp [h]
theorem quar_z (q j:Nat) (p:QP):(quarG q p).z.testBit j=(p.z.testBit j ^^ (decide (q=j) && p.x.testBit j)):=by
 simp only [quarG,Nat.testBit_xor,Nat.testBit_and,Nat.testBit_two_pow];rw [Bool.and_comm (p.x.testBit j)]
theorem quar_x (q:Nat) (p:QP):(quarG q p).x=p.x:=rfl
theorem on_x (q c j:Nat) (p:QP):(onG q c p).x.testBit j=(p.x.testBit j ^^ (decide (q=j) && p.x.testBit c)):=by
 unfold onG;simp only
 cases p.x.testBit c with
 | true=>simp [Nat.testBit_xor,Nat.testBit_two_pow]
 | false=>simp
theorem on_z (q c j:Nat) (p:QP):(onG q c p).z.testBit j=(p.z.testBit j ^^ (decide (c=j) && p.z.testBit q)):=by
 unfold onG;simp only
 cases p.z.testBit q with
 | true=>simp [Nat.testBit_xor,Nat.testBit_two_pow]
 | false=>simp
theorem flip_flip (q:Nat) (p:QP):flipG q (flipG q p)=p:=by
 refine QP.ext' rfl rfl ?_;simp only [flipG]
 cases p.m<;>cases p.z.testBit q<;>rfl
theorem fork_fork (q:Nat) (p:QP):forkG q (forkG q p)=p:=by
 refine QP.ext' (Nat.eq_of_testBit_eq fun j=>?_) (Nat.eq_of_testBit_eq fun j=>?_) ?_
 ·rw [fork_x,fork_z,fork_x];split<;>rfl
 ·rw [fork_z,fork_x,fork_z];split<;>rfl
 ·show ((p.m ^^ (p.x.testBit q && p.z.testBit q)) ^^ ((forkG q p).x.testBit q && (forkG q p).z.testBit q))=p.m
  rw [fork_x,fork_z,if_pos rfl,if_pos rfl]
  cases p.m<;>cases p.x.testBit q<;>cases p.z.testBit q<;>rfl
theorem quar_four (q:Nat) (p:QP):quarG q (quarG q (quarG q (quarG q p)))=p:=by
 refine QP.ext' rfl (Nat.eq_of_testBit_eq fun j=>?_) ?_
 ·rw [quar_z,quar_z,quar_z,quar_z]
  show ((((p.z.testBit j ^^ (decide (q=j) && p.x.testBit j)) ^^ (decide (q=j) && p.x.testBit j)) ^^ (decide (q=j) && p.x.testBit j)) ^^ (decide (q=j) && p.x.testBit j))=_
  cases p.z.testBit j<;>cases decide (q=j)<;>cases p.x.testBit j<;>rfl
 ·show ((((p.m ^^ (p.x.testBit q && p.z.testBit q)) ^^ (p.x.testBit q && (quarG q p).z.testBit q)) ^^ (p.x.testBit q && (quarG q (quarG q p)).z.testBit q)) ^^ (p.x.testBit q && (quarG q (quarG q (quarG q p))).z.testBit q))=p.m
  simp only [quar_z,quar_x,decide_true,Bool.true_and]
  cases p.m<;>cases p.x.testBit q<;>cases p.z.testBit q<;>simp
theorem on_on {q c:Nat} (h:q≠c) (p:QP):onG q c (onG q c p)=p:=by
 have hd:decide (q=c)=false:=decide_eq_false h;have hd':decide (c=q)=false:=decide_eq_false (Ne.symm h);refine QP.ext' (Nat.eq_of_testBit_eq fun j=>?_) (Nat.eq_of_testBit_eq fun j=>?_) ?_
 ·rw [on_x,on_x,on_x,hd]
  cases p.x.testBit j<;>cases decide (q=j)<;>cases p.x.testBit c<;>rfl
 ·rw [on_z,on_z,on_z,hd']
  cases p.z.testBit j<;>cases decide (c=j)<;>cases p.z.testBit q<;>rfl
 ·show ((p.m ^^ (p.x.testBit c && p.z.testBit q && (p.x.testBit q == p.z.testBit c))) ^^ ((onG q c p).x.testBit c && (onG q c p).z.testBit q && ((onG q c p).x.testBit q == (onG q c p).z.testBit c)))=p.m
  rw [on_x,on_z,on_x,on_z,hd,hd'];simp only [decide_true,Bool.false_and,Bool.true_and,Bool.xor_false]
  cases p.m<;>cases p.x.testBit c<;>cases p.z.testBit q<;>cases p.x.testBit q<;>cases p.z.testBit c<;>rfl
structure Lin (f:QP->QP):Prop where
 x:∀ p r s:QP,s.x=p.x ^^^ r.x->s.z=p.z ^^^ r.z->(f s).x=(f p).x ^^^ (f r).x
 z:∀ p r s:QP,s.x=p.x ^^^ r.x->s.z=p.z ^^^ r.z->(f s).z=(f p).z ^^^ (f r).z
theorem lin_flip (q:Nat):Lin (flipG q):=⟨fun _ _ _ h _=>h,fun _ _ _ _ h=>h⟩
theorem lin_fork (q:Nat):Lin (forkG q):=by
 constructor<;>intro p r s h1 h2<;>refine Nat.eq_of_testBit_eq fun j=>?_
 ·rw [Nat.testBit_xor,fork_x,fork_x,fork_x,h1,h2,Nat.testBit_xor,Nat.testBit_xor];split<;>rfl
 ·rw [Nat.testBit_xor,fork_z,fork_z,fork_z,h1,h2,Nat.testBit_xor,Nat.testBit_xor];split<;>rfl
theorem lin_quar (q:Nat):Lin (quarG q):=by
 constructor<;>intro p r s h1 h2
 ·exact h1
 ·refine Nat.eq_of_testBit_eq fun j=>?_
  rw [Nat.testBit_xor,quar_z,quar_z,quar_z,h1,h2,Nat.testBit_xor,Nat.testBit_xor]
  cases p.z.testBit j<;>cases r.z.testBit j<;>cases decide (q=j)<;>cases p.x.testBit j<;>cases r.x.testBit j<;>rfl
theorem lin_on (q c:Nat):Lin (onG q c):=by
 constructor<;>intro p r s h1 h2<;>refine Nat.eq_of_testBit_eq fun j=>?_
 ·rw [Nat.testBit_xor,on_x,on_x,on_x,h1,Nat.testBit_xor,Nat.testBit_xor]
  cases p.x.testBit j<;>cases r.x.testBit j<;>cases decide (q=j)<;>cases p.x.testBit c<;>cases r.x.testBit c<;>rfl
 ·rw [Nat.testBit_xor,on_z,on_z,on_z,h2,Nat.testBit_xor,Nat.testBit_xor]
  cases p.z.testBit j<;>cases r.z.testBit j<;>cases decide (c=j)<;>cases p.z.testBit q<;>cases r.z.testBit q<;>rfl
theorem Lin.comp {f g:QP->QP} (hf:Lin f) (hg:Lin g):Lin (fun p=>g (f p)) :=
 ⟨fun p r s h1 h2=>hg.x _ _ _ (hf.x p r s h1 h2) (hf.z p r s h1 h2),fun p r s h1 h2=>hg.z _ _ _ (hf.x p r s h1 h2) (hf.z p r s h1 h2)⟩
theorem lin_id:Lin (fun p=>p):=⟨fun _ _ _ h _=>h,fun _ _ _ _ h=>h⟩
def par:Nat->Nat->Bool
 | 0,_=>false
 | f+1,v=>decide (v % 2=1) ^^ par f (v / 2)
theorem par_xor:∀ f a b,par f (a ^^^ b)=(par f a ^^ par f b)
 | 0,_,_=>rfl
 | f+1,a,b=>by
  unfold par
  rw [show (a ^^^ b) / 2=a / 2 ^^^ b / 2 by
   apply Nat.eq_of_testBit_eq;intro j
   rw [<-Nat.testBit_succ,Nat.testBit_xor,Nat.testBit_xor,<-Nat.testBit_succ,<-Nat.testBit_succ],par_xor f]
  have h:decide ((a ^^^ b) % 2=1)=(decide (a % 2=1) ^^ decide (b % 2=1)):=by
   have:=Nat.testBit_xor a b 0
   rwa [Nat.testBit_zero,Nat.testBit_zero,Nat.testBit_zero] at this
  rw [h]
  cases decide (a % 2=1)<;>cases decide (b % 2=1)<;>cases par f (a / 2)<;>cases par f (b / 2)<;>rfl
theorem par_zero:∀ f,par f 0=false
 | 0=>rfl
 | f+1=>by unfold par;rw [show 0 / 2=0 from rfl,par_zero f];rfl
theorem par_pow:∀ f j,par f (2 ^ j)=decide (j<f)
 | 0,j=>by simp [par]
 | f+1,0=>by unfold par;rw [show (2 ^ 0) / 2=0 from rfl,par_zero];rfl
 | f+1,j+1=>by
  unfold par;rw [show 2 ^ (j+1) / 2=2 ^ j by rw [Nat.pow_succ];omega,par_pow f j,show 2 ^ (j+1) % 2=0 by rw [Nat.pow_succ];omega]
  simp
theorem par_bit (f v j:Nat) (hj:j<f):par f (v &&& 2 ^ j)=v.testBit j:=by
 cases h:v.testBit j with
 | true =>
  rw [show v &&& 2 ^ j=2 ^ j by
   apply Nat.eq_of_testBit_eq;intro i
   rw [Nat.testBit_and,Nat.testBit_two_pow]
   by_cases e:j=i
   ·subst e;simp [h]
   ·simp [e],par_pow]
  exact decide_eq_true hj
 | false =>
  rw [show v &&& 2 ^ j=0 by
   apply Nat.eq_of_testBit_eq;intro i
   rw [Nat.testBit_and,Nat.testBit_two_pow]
   by_cases e:j=i
   ·subst e;simp [h]
   ·simp [e],par_zero]
def ant (p r:QP):Bool:=par 16 (p.x &&& r.z) ^^ par 16 (p.z &&& r.x)
theorem ant_word (p r:QP):ant p r=par 16 ((p.x &&& r.z) ^^^ (p.z &&& r.x)):=(par_xor _ _ _).symm
theorem ant_flip (q:Nat) (p r:QP):ant (flipG q p) (flipG q r)=ant p r:=rfl
theorem ant_fork (q:Nat) (p r:QP):ant (forkG q p) (forkG q r)=ant p r:=by
 rw [ant_word,ant_word]
 congr 1
 refine Nat.eq_of_testBit_eq fun j=>?_
 simp only [Nat.testBit_xor,Nat.testBit_and,fork_x,fork_z]
 split
 ·cases p.x.testBit j<;>cases p.z.testBit j<;>cases r.x.testBit j<;>cases r.z.testBit j<;>rfl
 ·rfl
theorem ant_quar (q:Nat) (p r:QP):ant (quarG q p) (quarG q r)=ant p r:=by
 rw [ant_word,ant_word]
 congr 1
 refine Nat.eq_of_testBit_eq fun j=>?_
 simp only [Nat.testBit_xor,Nat.testBit_and,quar_z]
 show ((p.x.testBit j && (r.z.testBit j ^^ (decide (q=j) && r.x.testBit j))) ^^ ((p.z.testBit j ^^ (decide (q=j) && p.x.testBit j)) && r.x.testBit j))=_
 cases p.x.testBit j<;>cases p.z.testBit j<;>cases r.x.testBit j<;>cases r.z.testBit j<;>cases decide (q=j)<;>rfl
theorem on_x_word (q c:Nat) (p:QP):(onG q c p).x=p.x ^^^ (if p.x.testBit c then 2 ^ q else 0):=by unfold onG;simp only;split<;>simp
theorem on_z_word (q c:Nat) (p:QP):(onG q c p).z=p.z ^^^ (if p.z.testBit q then 2 ^ c else 0):=by unfold onG;simp only;split<;>simp
theorem par_and_if (v j:Nat) (b:Bool) (hj:j<16):par 16 (v &&& (if b then 2 ^ j else 0))=(b && v.testBit j):=by
 cases b
 ·simp [par_zero]
 ·simp [par_bit 16 v j hj]
theorem par_if_and (v j:Nat) (b:Bool) (hj:j<16):par 16 ((if b then 2 ^ j else 0) &&& v)=(b && v.testBit j):=by rw [Nat.and_comm];exact par_and_if v j b hj
theorem par_if_if {i j:Nat} (b d:Bool) (h:i≠j):par 16 ((if b then 2 ^ i else 0) &&& (if d then 2 ^ j else 0))=false:=by
 have h0:2 ^ i &&& 2 ^ j=0:=by
  refine Nat.eq_of_testBit_eq fun k=>?_
  rw [Nat.testBit_and,Nat.testBit_two_pow,Nat.testBit_two_pow]
  by_cases e:i=k
  ·subst e;simp [Ne.symm h]
  ·simp [e]
 cases b<;>cases d<;>simp [par_zero,h0]
theorem ant_on {q c:Nat} (h:q≠c) (hq:q<16) (hc:c<16) (p r:QP):ant (onG q c p) (onG q c r)=ant p r:=by
 unfold ant;rw [on_x_word,on_z_word,on_x_word,on_z_word,Nat.and_xor_distrib_left,Nat.and_xor_distrib_right,Nat.and_xor_distrib_right,Nat.and_xor_distrib_left,Nat.and_xor_distrib_right,Nat.and_xor_distrib_right];simp only [par_xor,par_if_if _ _ h,par_if_if _ _ (Ne.symm h)];simp only [par_and_if _ _ _ hq,par_and_if _ _ _ hc,par_if_and _ _ _ hq,par_if_and _ _ _ hc];generalize par 16 (p.x &&& r.z)=A;generalize par 16 (p.z &&& r.x)=B
 cases A<;>cases B<;>cases p.x.testBit c<;>cases r.x.testBit c<;>cases p.z.testBit q<;>cases r.z.testBit q<;>rfl
def QP.ok (p:QP):Prop:=p.x<65536/\p.z<65536
theorem pow_16 {q:Nat} (h:q<16):2 ^ q<65536:=Nat.pow_lt_pow_right (by decide) (show q<16 from h)
theorem xor_16 {a b:Nat} (ha:a<65536) (hb:b<65536):a ^^^ b<65536:=Nat.xor_lt_two_pow (n:=16) ha hb
theorem and_16 {a b:Nat} (ha:a<65536):a &&& b<65536:=Nat.lt_of_le_of_lt Nat.and_le_left ha
theorem ok_flip {q:Nat} {p:QP} (h:p.ok):(flipG q p).ok:=h
theorem ok_fork {q:Nat} {p:QP} (h:p.ok):(forkG q p).ok:=⟨xor_16 h.1 (and_16 (xor_16 h.1 h.2)),xor_16 h.2 (and_16 (xor_16 h.1 h.2))⟩
theorem ok_quar {q:Nat} {p:QP} (h:p.ok):(quarG q p).ok:=⟨h.1,xor_16 h.2 (and_16 h.1)⟩
theorem ok_on {q c:Nat} {p:QP} (hq:q<16) (hc:c<16) (h:p.ok):(onG q c p).ok:=by
 refine ⟨?_,?_⟩
 ·show (if p.x.testBit c then p.x ^^^ 2 ^ q else p.x)<65536
  split
  ·exact xor_16 h.1 (pow_16 hq)
  ·exact h.1
 ·show (if p.z.testBit q then p.z ^^^ 2 ^ c else p.z)<65536
  split
  ·exact xor_16 h.2 (pow_16 hc)
  ·exact h.2
theorem bit_ask (v q:Nat):decide ((v &&& 2 ^ q)=0)=!(v.testBit q):=by
 cases h:v.testBit q with
 | true =>
  refine decide_eq_false fun e=>?_
  have:=congrArg (fun a=>a.testBit q) e
  simp [h] at this
 | false =>
  refine decide_eq_true (Nat.eq_of_testBit_eq fun j=>?_);rw [Nat.testBit_and,Nat.testBit_two_pow,Nat.zero_testBit]
  by_cases e:q=j
  ·subst e;simp [h]
  ·simp [e]
def pvQ (p:QP):Value:=.agg #[.int .u16 (p.x:Int),.int .u16 (p.z:Int),.bool p.m]
theorem Set_any (q:Nat) (hq:q<16) (w:World):Calls Tryz.prog 86 #[.int .i64 (q:Int)] w fun e w'=>e=.returned (.int .u16 ((2 ^ q:Nat):Int))/\w'=w:=by
 have hp:=pow_16 hq
 have hmin:min q 16=q:=by omega
 obtain ⟨V,hV⟩:∃ V,2 ^ q=V:=⟨_,rfl⟩;rw [hV] at hp ⊢
 have r1:IntKind.u16.wrap (2 ^ min q 16)=(V:Int):=by
  rw [hmin,show IntKind.u16.wrap ((2:Int) ^ q)=((2:Int) ^ q % 65536) from rfl,<-hV];rw [<-hV] at hp
  have:((2:Int) ^ q)=((2 ^ q:Nat):Int):=by simp
  omega
 have q0:(0:Int)<=(q:Int):=by omega
 clear hV hp hmin hq
 go_enter Tryz.func86,Tryz.ntmps86
 go_wp2_with fail
 go_ret
 exact ⟨rfl,rfl⟩
theorem PuB.pt0 {w:World} {g x z:Nat} {m:Bool} (h:PuB w g x z m) (x':Nat):PuB (w.setCell ⟨g,0,none⟩ (.int .u16 (x':Int))) g x' z m:=⟨by
 have a:=heap_setCell_same w g 0 _ _ (.int .u16 (x':Int)) h.row
 simpa using a⟩
theorem PuB.pt1 {w:World} {g x z:Nat} {m:Bool} (h:PuB w g x z m) (z':Nat):PuB (w.setCell ⟨g,1,none⟩ (.int .u16 (z':Int))) g x z' m:=⟨by
 have a:=heap_setCell_same w g 1 _ _ (.int .u16 (z':Int)) h.row
 simpa using a⟩
theorem PuB.pt2 {w:World} {g x z:Nat} {m:Bool} (h:PuB w g x z m) (m':Bool):PuB (w.setCell ⟨g,2,none⟩ (.bool m')) g x z m':=⟨by
 have a:=heap_setCell_same w g 2 _ _ (.bool m') h.row
 simpa using a⟩
theorem PuB.only {w w':World} {g x z k:Nat} {m:Bool} (h:PuB w g x z m) (hO:Only k w w') (hk:g≠k):PuB w' g x z m:=⟨(hO.block g hk).trans h.row⟩
structure TwB (u w:World) (H:Nat) (p r:QP):Prop where
 e:Ext u w
 a:PuB w H p.x p.z p.m
 b:PuB w (H+1) r.x r.z r.m
 o:u.heap.size<=H
theorem TwB.ext {u w w':World} {H:Nat} {p r:QP} (h:TwB u w H p r) (x:Ext w w'):TwB u w' H p r:=⟨h.e.trans x,h.a.ext x,h.b.ext x,h.o⟩
theorem TwB.pt0 {u w:World} {H:Nat} {p r:QP} (h:TwB u w H p r) (v:Nat):TwB u (w.setCell ⟨H,0,none⟩ (.int .u16 (v:Int))) H ⟨v,p.z,p.m⟩ r :=
 ⟨Below.setCell h.e (p:=⟨H,0,none⟩) h.o _,h.a.pt0 v,h.b.only ((Only.refl _ _).setCell _ _) (by omega),h.o⟩
theorem TwB.pt1 {u w:World} {H:Nat} {p r:QP} (h:TwB u w H p r) (v:Nat):TwB u (w.setCell ⟨H,1,none⟩ (.int .u16 (v:Int))) H ⟨p.x,v,p.m⟩ r :=
 ⟨Below.setCell h.e (p:=⟨H,1,none⟩) h.o _,h.a.pt1 v,h.b.only ((Only.refl _ _).setCell _ _) (by omega),h.o⟩
theorem TwB.pt2 {u w:World} {H:Nat} {p r:QP} (h:TwB u w H p r) (v:Bool):TwB u (w.setCell ⟨H,2,none⟩ (.bool v)) H ⟨p.x,p.z,v⟩ r :=
 ⟨Below.setCell h.e (p:=⟨H,2,none⟩) h.o _,h.a.pt2 v,h.b.only ((Only.refl _ _).setCell _ _) (by omega),h.o⟩
theorem TwB.pt {u w:World} {H:Nat} {p r:QP} (h:TwB u w H p r) (s:QP):TwB u (((w.setCell ⟨H,0,none⟩ (.int .u16 (s.x:Int))).setCell ⟨H,1,none⟩ (.int .u16 (s.z:Int))).setCell ⟨H,2,none⟩ (.bool s.m)) H s r:=((h.pt0 s.x).pt1 s.z).pt2 s.m
theorem TwB.end {u w:World} {H:Nat} {p r:QP} (h:TwB u w H p r) (a b c:Value):Ext u (((w.setCell ⟨H+1,0,none⟩ a).setCell ⟨H+1,1,none⟩ b).setCell ⟨H+1,2,none⟩ c):=put3x h.e (Nat.le_trans h.o (by omega)) a b c
theorem TwB.new (w:World) (p:QP):TwB w ((w.alloc (.cells #[.int .u16 (p.x:Int),.int .u16 (p.z:Int),.bool p.m] 103)).alloc (.cells #[.int .u16 0,.int .u16 0,.bool false] 103)) w.heap.size p ⟨0,0,false⟩ :=
 ⟨(ext_al w _).trans (ext_al _ _),(PuB.new w p.x p.z p.m).ext (ext_al _ _),⟨by
  have:=heap_alloc_new (w.alloc (.cells #[.int .u16 (p.x:Int),.int .u16 (p.z:Int),.bool p.m] 103)) (.cells #[.int .u16 0,.int .u16 0,.bool false] 103)
  simpa using this⟩,Nat.le_refl _⟩
theorem turnedIf_any (x z:Nat) (m b:Bool) (w:World) :
  Calls Tryz.prog 144 #[.agg #[.int .u16 (x:Int),.int .u16 (z:Int),.bool m],.bool b] w fun e w'=>e=.returned (.agg #[.int .u16 (x:Int),.int .u16 (z:Int),.bool (m ^^ b)])/\Ext w w':=by
 have hT:=TwB.new w ⟨x,z,m⟩;obtain ⟨H,hH⟩:∃ H,w.heap.size=H:=⟨_,rfl⟩;obtain ⟨W0,hW0⟩:∃ W0,(w.alloc (.cells #[.int .u16 (x:Int),.int .u16 (z:Int),.bool m] 103)).alloc (.cells #[.int .u16 0,.int .u16 0,.bool false] 103)=W0:=⟨_,rfl⟩;simp only [hW0,hH] at hT;have k0:=hT.a.x0;have k1:=hT.a.x1;have k2:=hT.a.x2;have f0:=hT.a.f 2;have hT2:=hT.pt2 (m ^^ b);obtain ⟨B,hB⟩:∃ B,(m ^^ b)=B:=⟨_,rfl⟩;have hb:(m != b)=B:=hB
 have hb2:(!(m == b))=B:=by rw [<-hB];cases m<;>cases b<;>rfl
 have hb3:decide (m=b)=!B:=by rw [<-hB];cases m<;>cases b<;>rfl
 rw [hB] at hT2 ⊢;have HT2:=Lh hT2;have HW0:=Lh hW0;have HH:=Lh hH;clear hT hT2 hW0 hH hB
 go_enter Tryz.func144,Tryz.ntmps144
 go_upto_region 1 with fail
 rw [HW0.out,HH.out]
 go_upto_region 2 with fail
 obtain ⟨W2,hW2⟩:∃ V,W0.setCell ⟨H,2,none⟩ (.bool B)=V:=⟨_,rfl⟩;rw [hW2] at HT2 ⊢;have j0:=HT2.out.a.x0;have j1:=HT2.out.a.x1;have j2:=HT2.out.a.x2;have r0:=HT2.out.b.x0;have r1:=HT2.out.b.x1;have r2:=HT2.out.b.x2;have g0:=HT2.out.b.f 0;have g1:=HT2.out.b.f 1;have g2:=HT2.out.b.f 2;clear k0 k1 k2 f0 hW2
 go_wp2_with fail
 exact bodyPost_ret (v:=.agg #[.int .u16 (x:Int),.int .u16 (z:Int),.bool B]) (by simp [results,Tryz.results144,go_sem,r0,r1,r2]) rfl ⟨rfl,HT2.out.end _ _ _⟩
theorem ask_bit {v q:Nat} (hv:v<65536) (hq:q<16):∃ A:Nat,bits .and .u16 (v:Int) ((2 ^ q:Nat):Int)=(A:Int)/\((A:Int) != 0)=v.testBit q/\((A:Int) == 0)=!(v.testBit q):=by
 have h:=bit_ask v q
 have h2:decide (((v &&& 2 ^ q:Nat):Int)=0)=!(v.testBit q):=by
  rw [<-h]
  by_cases e:v &&& 2 ^ q=0
  ·rw [decide_eq_true e,decide_eq_true (by omega)]
  ·rw [decide_eq_false e,decide_eq_false (by omega)]
 have h3:(((v &&& 2 ^ q:Nat):Int) == 0)=!(v.testBit q):=h2;exact ⟨v &&& 2 ^ q,and_u16 hv (pow_16 hq),by rw [bne,h3,Bool.not_not],h3⟩
theorem keep_cell3 {w:World} {g H:Nat} (h:g≠H) (a b c:Value):(((w.setCell ⟨H,0,none⟩ a).setCell ⟨H,1,none⟩ b).setCell ⟨H,2,none⟩ c).cell? ⟨g,0,none⟩=w.cell? ⟨g,0,none⟩ :=
 World.cell?_of_block (a:=⟨g,0,none⟩) (((((Only.refl H w).setCell 0 a).setCell 1 b).setCell 2 c).block g h)
theorem keep_cell1 {w:World} {g H o:Nat} (h:g≠H) (a:Value):(w.setCell ⟨H,o,none⟩ a).cell? ⟨g,0,none⟩=w.cell? ⟨g,0,none⟩ :=
 World.cell?_of_block (a:=⟨g,0,none⟩) (((Only.refl H w).setCell o a).block g h)
theorem flip1_any (q:Nat) (hqq:q<16) (p:QP) (hp:p.ok) (g:Nat) (w:World) (hg:w.cell? ⟨g,0,none⟩=some (.int .u16 ((2 ^ q:Nat):Int))) (lg:g<w.heap.size) :
  Calls Tryz.prog 143 #[pvQ p,.pointer (some ⟨g,0,none⟩)] w fun e w'=>e=.returned (pvQ (flipG q p))/\Ext w w':=by
 obtain ⟨x,z,m⟩:=p;obtain ⟨hx,hz⟩:=hp;simp only at hx hz;obtain ⟨A,a1,a2,a3⟩:=ask_bit hz hqq;have hT:=TwB.new w ⟨x,z,m⟩;obtain ⟨H,hH⟩:∃ H,w.heap.size=H:=⟨_,rfl⟩;obtain ⟨W0,hW0⟩:∃ W0,(w.alloc (.cells #[.int .u16 (x:Int),.int .u16 (z:Int),.bool m] 103)).alloc (.cells #[.int .u16 0,.int .u16 0,.bool false] 103)=W0:=⟨_,rfl⟩;simp only [hW0,hH] at hT;have c0:=(hT.e.cell (p:=⟨g,0,none⟩) lg).trans hg
 show Calls _ _ _ _ fun e w'=>e=.returned (.agg #[.int .u16 (x:Int),.int .u16 (z:Int),.bool (m ^^ z.testBit q)])/\Ext w w'
 obtain ⟨B,hB⟩:∃ B,z.testBit q=B:=⟨_,rfl⟩;obtain ⟨V,hV⟩:∃ V,2 ^ q=V:=⟨_,rfl⟩;rw [hB] at a2 a3 ⊢;rw [hV] at a1 c0;have HT:=Lh hT;have HW0:=Lh hW0;have HH:=Lh hH;have HTu:=Lh (fun wx=>turnedIf_any x z m B wx);obtain ⟨D,hD⟩:∃ D,(m ^^ B)=D:=⟨_,rfl⟩;rw [hD] at HTu ⊢;clear hD;have k0:=hT.a.x0;have k1:=hT.a.x1;have k2:=hT.a.x2;have kf0:=hT.a.f 0;have kf1:=hT.a.f 1;have kf2:=hT.a.f 2;clear hT hW0 hH hg lg hB hV hqq hx hz;unfold pvQ
 go_enter Tryz.func143,Tryz.ntmps143
 go_upto_region 1 with fail
 rw [HW0.out,HH.out]
 go_wp2_with fail
 refine (HTu.out _).mono ?_;rintro e w1 ⟨rfl,x1⟩;have HT:=Lh (HT.out.ext x1);clear x1 k0 k1 k2 kf0 kf1 kf2 c0;have r0:=HT.out.b.x0;have r1:=HT.out.b.x1;have r2:=HT.out.b.x2;have rf0:=HT.out.b.f 0;have rf1:=HT.out.b.f 1;have rf2:=HT.out.b.f 2
 go_wp2_with fail
 exact bodyPost_ret (v:=.agg #[.int .u16 (x:Int),.int .u16 (z:Int),.bool D]) (by simp [results,Tryz.results143,go_sem,r0,r1,r2]) rfl ⟨rfl,HT.out.end _ _ _⟩
theorem fork1_any (q:Nat) (hqq:q<16) (p:QP) (hp:p.ok) (g:Nat) (w:World) (hg:w.cell? ⟨g,0,none⟩=some (.int .u16 ((2 ^ q:Nat):Int))) (lg:g<w.heap.size) :
  Calls Tryz.prog 146 #[pvQ p,.pointer (some ⟨g,0,none⟩)] w fun e w'=>e=.returned (pvQ (forkG q p))/\Ext w w':=by
 obtain ⟨x,z,m⟩:=p;obtain ⟨hx,hz⟩:=hp;simp only at hx hz;have hxz:bits .xor .u16 (x:Int) (z:Int)=((x ^^^ z:Nat):Int):=xor_u16 hx hz;have hE:bits .and .u16 ((x ^^^ z:Nat):Int) ((2 ^ q:Nat):Int)=(((x ^^^ z) &&& 2 ^ q:Nat):Int):=and_u16 (xor_16 hx hz) (pow_16 hqq);have hEl:(x ^^^ z) &&& 2 ^ q<65536:=and_16 (xor_16 hx hz);have han:bits .and .u16 (x:Int) (z:Int)=((x &&& z:Nat):Int):=and_u16 hx hz;obtain ⟨A,a1,a2,a3⟩:=ask_bit (and_16 (b:=z) hx) hqq;rw [Nat.testBit_and] at a2 a3;have hX:bits .xor .u16 (x:Int) (((x ^^^ z) &&& 2 ^ q:Nat):Int)=((x ^^^ ((x ^^^ z) &&& 2 ^ q):Nat):Int):=xor_u16 hx hEl;have hZ:bits .xor .u16 (z:Int) (((x ^^^ z) &&& 2 ^ q:Nat):Int)=((z ^^^ ((x ^^^ z) &&& 2 ^ q):Nat):Int):=xor_u16 hz hEl;have hT:=TwB.new w ⟨x,z,m⟩;obtain ⟨H,hH⟩:∃ H,w.heap.size=H:=⟨_,rfl⟩;obtain ⟨W0,hW0⟩:∃ W0,(w.alloc (.cells #[.int .u16 (x:Int),.int .u16 (z:Int),.bool m] 103)).alloc (.cells #[.int .u16 0,.int .u16 0,.bool false] 103)=W0:=⟨_,rfl⟩;simp only [hW0,hH] at hT;have c0:=(hT.e.cell (p:=⟨g,0,none⟩) lg).trans hg
 show Calls _ _ _ _ fun e w'=>e=.returned (.agg #[.int .u16 ((x ^^^ ((x ^^^ z) &&& 2 ^ q):Nat):Int),.int .u16 ((z ^^^ ((x ^^^ z) &&& 2 ^ q):Nat):Int),.bool (m ^^ (x.testBit q && z.testBit q))])/\Ext w w'
 obtain ⟨B,hB⟩:∃ B,(x.testBit q && z.testBit q)=B:=⟨_,rfl⟩;obtain ⟨X,hXd⟩:∃ X,x ^^^ ((x ^^^ z) &&& 2 ^ q)=X:=⟨_,rfl⟩;obtain ⟨Z,hZd⟩:∃ Z,z ^^^ ((x ^^^ z) &&& 2 ^ q)=Z:=⟨_,rfl⟩;rw [hXd] at hX ⊢;rw [hZd] at hZ ⊢;obtain ⟨E,hEd⟩:∃ E,(x ^^^ z) &&& 2 ^ q=E:=⟨_,rfl⟩;obtain ⟨Y,hY⟩:∃ Y,x ^^^ z=Y:=⟨_,rfl⟩;obtain ⟨N,hN⟩:∃ N,x &&& z=N:=⟨_,rfl⟩;obtain ⟨V,hV⟩:∃ V,2 ^ q=V:=⟨_,rfl⟩;rw [hB] at a2 a3 ⊢;rw [hEd] at hX hZ hE;rw [hY] at hxz hE;rw [hN] at han a1;rw [hV] at a1 c0 hE;have HT:=Lh hT;have HW0:=Lh hW0;have HH:=Lh hH;have HTu:=Lh (fun wx=>turnedIf_any x z m B wx);obtain ⟨D,hD⟩:∃ D,(m ^^ B)=D:=⟨_,rfl⟩;rw [hD] at HTu ⊢;clear hD;have k0:=hT.a.x0;have k1:=hT.a.x1;have k2:=hT.a.x2;have kf0:=hT.a.f 0;have kf1:=hT.a.f 1;have kf2:=hT.a.f 2;clear hT hW0 hH hg lg hB hV hqq hx hz hXd hZd hEd hY hN hEl;unfold pvQ
 go_enter Tryz.func146,Tryz.ntmps146
 go_upto_region 1 with fail
 rw [HW0.out,HH.out]
 go_wp2_with fail
 refine (HTu.out _).mono ?_;rintro e w1 ⟨rfl,x1⟩;have HT:=Lh (HT.out.ext x1);clear x1 k0 k1 k2 kf0 kf1 kf2 c0 a1 a2 a3 HTu hxz hE;have k0:=HT.out.a.x0;have k1:=HT.out.a.x1;have k2:=HT.out.a.x2;have kf0:=HT.out.a.f 0;have kf1:=HT.out.a.f 1;have kf2:=HT.out.a.f 2
 go_upto_region 3 with fail
 have HT:=Lh (HT.out.pt ⟨x,z,D⟩);simp only at HT;obtain ⟨W2,hW2⟩:∃ V,((w1.setCell ⟨H,0,none⟩ (.int .u16 (x:Int))).setCell ⟨H,1,none⟩ (.int .u16 (z:Int))).setCell ⟨H,2,none⟩ (.bool D)=V:=⟨_,rfl⟩;rw [hW2] at HT ⊢;clear k0 k1 k2 kf0 kf1 kf2 hW2;have k0:=HT.out.a.x0;have k1:=HT.out.a.x1;have k2:=HT.out.a.x2;have kf0:=HT.out.a.f 0;have kf1:=HT.out.a.f 1;have kf2:=HT.out.a.f 2
 go_upto_region 4 with fail
 have HT:=Lh (HT.out.pt0 X);simp only at HT;obtain ⟨W3,hW3⟩:∃ V,W2.setCell ⟨H,0,none⟩ (.int .u16 (X:Int))=V:=⟨_,rfl⟩;rw [hW3] at HT ⊢;clear k0 k1 k2 kf0 kf1 kf2 hW3;have k0:=HT.out.a.x0;have k1:=HT.out.a.x1;have k2:=HT.out.a.x2;have kf0:=HT.out.a.f 0;have kf1:=HT.out.a.f 1;have kf2:=HT.out.a.f 2
 go_upto_region 5 with fail
 have HT:=Lh (HT.out.pt1 Z);simp only at HT;obtain ⟨W4,hW4⟩:∃ V,W3.setCell ⟨H,1,none⟩ (.int .u16 (Z:Int))=V:=⟨_,rfl⟩;rw [hW4] at HT ⊢;clear k0 k1 k2 kf0 kf1 kf2 hW4;have k0:=HT.out.a.x0;have k1:=HT.out.a.x1;have k2:=HT.out.a.x2;have kf0:=HT.out.a.f 0;have kf1:=HT.out.a.f 1;have kf2:=HT.out.a.f 2;have r0:=HT.out.b.x0;have r1:=HT.out.b.x1;have r2:=HT.out.b.x2;have rf0:=HT.out.b.f 0;have rf1:=HT.out.b.f 1;have rf2:=HT.out.b.f 2
 go_wp2_with fail
 exact bodyPost_ret (v:=.agg #[.int .u16 (X:Int),.int .u16 (Z:Int),.bool D]) (by simp [results,Tryz.results146,go_sem,r0,r1,r2]) rfl ⟨rfl,HT.out.end _ _ _⟩
theorem quarter1_any (q:Nat) (hqq:q<16) (p:QP) (hp:p.ok) (g:Nat) (w:World) (hg:w.cell? ⟨g,0,none⟩=some (.int .u16 ((2 ^ q:Nat):Int))) (lg:g<w.heap.size) :
  Calls Tryz.prog 149 #[pvQ p,.pointer (some ⟨g,0,none⟩)] w fun e w'=>e=.returned (pvQ (quarG q p))/\Ext w w':=by
 obtain ⟨x,z,m⟩:=p;obtain ⟨hx,hz⟩:=hp;simp only at hx hz;have han:bits .and .u16 (x:Int) (z:Int)=((x &&& z:Nat):Int):=and_u16 hx hz;obtain ⟨A,a1,a2,a3⟩:=ask_bit (and_16 (b:=z) hx) hqq;rw [Nat.testBit_and] at a2 a3;have hE:bits .and .u16 (x:Int) ((2 ^ q:Nat):Int)=((x &&& 2 ^ q:Nat):Int):=and_u16 hx (pow_16 hqq);have hZ:bits .xor .u16 (z:Int) ((x &&& 2 ^ q:Nat):Int)=((z ^^^ (x &&& 2 ^ q):Nat):Int):=xor_u16 hz (and_16 hx);have hT:=TwB.new w ⟨x,z,m⟩;obtain ⟨H,hH⟩:∃ H,w.heap.size=H:=⟨_,rfl⟩;obtain ⟨W0,hW0⟩:∃ W0,(w.alloc (.cells #[.int .u16 (x:Int),.int .u16 (z:Int),.bool m] 103)).alloc (.cells #[.int .u16 0,.int .u16 0,.bool false] 103)=W0:=⟨_,rfl⟩;simp only [hW0,hH] at hT;have c0:=(hT.e.cell (p:=⟨g,0,none⟩) lg).trans hg
 show Calls _ _ _ _ fun e w'=>e=.returned (.agg #[.int .u16 (x:Int),.int .u16 ((z ^^^ (x &&& 2 ^ q):Nat):Int),.bool (m ^^ (x.testBit q && z.testBit q))])/\Ext w w'
 obtain ⟨B,hB⟩:∃ B,(x.testBit q && z.testBit q)=B:=⟨_,rfl⟩;obtain ⟨Z,hZd⟩:∃ Z,z ^^^ (x &&& 2 ^ q)=Z:=⟨_,rfl⟩;rw [hZd] at hZ ⊢;obtain ⟨E,hEd⟩:∃ E,x &&& 2 ^ q=E:=⟨_,rfl⟩;obtain ⟨N,hN⟩:∃ N,x &&& z=N:=⟨_,rfl⟩;obtain ⟨V,hV⟩:∃ V,2 ^ q=V:=⟨_,rfl⟩;rw [hB] at a2 a3 ⊢;rw [hEd] at hZ hE;rw [hN] at han a1;rw [hV] at a1 c0 hE;have HT:=Lh hT;have HW0:=Lh hW0;have HH:=Lh hH;have HTu:=Lh (fun wx=>turnedIf_any x z m B wx);obtain ⟨D,hD⟩:∃ D,(m ^^ B)=D:=⟨_,rfl⟩;rw [hD] at HTu ⊢;clear hD;have Hc:=Lh c0;have k0:=hT.a.x0;have k1:=hT.a.x1;have k2:=hT.a.x2;have kf0:=hT.a.f 0;have kf1:=hT.a.f 1;have kf2:=hT.a.f 2;have Hl:=Lh (Nat.lt_of_lt_of_le lg hT.e.size);have Hne:=Lh (show g≠H by omega);clear hT hW0 hH hg lg hB hV hqq hx hz hZd hEd hN;unfold pvQ
 go_enter Tryz.func149,Tryz.ntmps149
 go_upto_region 1 with fail
 rw [HW0.out,HH.out]
 go_wp2_with fail
 refine (HTu.out _).mono ?_;rintro e w1 ⟨rfl,x1⟩;have c1:=(x1.cell (p:=⟨g,0,none⟩) Hl.out).trans Hc.out;have HT:=Lh (HT.out.ext x1);clear x1 k0 k1 k2 kf0 kf1 kf2 c0 a1 a2 a3 HTu;have k0:=HT.out.a.x0;have k1:=HT.out.a.x1;have k2:=HT.out.a.x2;have kf0:=HT.out.a.f 0;have kf1:=HT.out.a.f 1;have kf2:=HT.out.a.f 2;have Hc1:=Lh c1;clear c1
 go_upto_region 2 with fail
 have HT:=Lh (HT.out.pt ⟨x,z,D⟩);simp only at HT;have c2:(((w1.setCell ⟨H,0,none⟩ (.int .u16 (x:Int))).setCell ⟨H,1,none⟩ (.int .u16 (z:Int))).setCell ⟨H,2,none⟩ (.bool D)).cell? ⟨g,0,none⟩=some (.int .u16 (V:Int)):=(keep_cell3 Hne.out _ _ _).trans Hc1.out;obtain ⟨W2,hW2⟩:∃ V,((w1.setCell ⟨H,0,none⟩ (.int .u16 (x:Int))).setCell ⟨H,1,none⟩ (.int .u16 (z:Int))).setCell ⟨H,2,none⟩ (.bool D)=V:=⟨_,rfl⟩;rw [hW2] at HT c2 ⊢;clear k0 k1 k2 kf0 kf1 kf2 hW2;have k0:=HT.out.a.x0;have k1:=HT.out.a.x1;have k2:=HT.out.a.x2;have kf0:=HT.out.a.f 0;have kf1:=HT.out.a.f 1;have kf2:=HT.out.a.f 2
 go_upto_region 3 with fail
 have HT:=Lh (HT.out.pt1 Z);simp only at HT;obtain ⟨W3,hW3⟩:∃ V,W2.setCell ⟨H,1,none⟩ (.int .u16 (Z:Int))=V:=⟨_,rfl⟩;rw [hW3] at HT ⊢;clear k0 k1 k2 kf0 kf1 kf2 hW3 c2;have k0:=HT.out.a.x0;have k1:=HT.out.a.x1;have k2:=HT.out.a.x2;have kf0:=HT.out.a.f 0;have kf1:=HT.out.a.f 1;have kf2:=HT.out.a.f 2;have r0:=HT.out.b.x0;have r1:=HT.out.b.x1;have r2:=HT.out.b.x2;have rf0:=HT.out.b.f 0;have rf1:=HT.out.b.f 1;have rf2:=HT.out.b.f 2
 go_wp2_with fail
 exact bodyPost_ret (v:=.agg #[.int .u16 (x:Int),.int .u16 (Z:Int),.bool D]) (by simp [results,Tryz.results149,go_sem,r0,r1,r2]) rfl ⟨rfl,HT.out.end _ _ _⟩
theorem flipOn1_any (c q:Nat) (hqc:c<16) (hqq:q<16) (p:QP) (hp:p.ok) (g h:Nat) (w:World) (hg:w.cell? ⟨g,0,none⟩=some (.int .u16 ((2 ^ c:Nat):Int))) (lg:g<w.heap.size) (hh:w.cell? ⟨h,0,none⟩=some (.int .u16 ((2 ^ q:Nat):Int))) (lh:h<w.heap.size) :
  Calls Tryz.prog 145 #[pvQ p,.pointer (some ⟨g,0,none⟩),.pointer (some ⟨h,0,none⟩)] w fun e w'=>e=.returned (pvQ (onG q c p))/\Ext w w':=by
 obtain ⟨x,z,m⟩:=p;obtain ⟨hx,hz⟩:=hp;simp only at hx hz;obtain ⟨A1,d1,d2,d3⟩:=ask_bit hx hqc;obtain ⟨A2,u1,u2,u3⟩:=ask_bit hz hqq;obtain ⟨A3,a1,a2,a3⟩:=ask_bit hx hqq;obtain ⟨A4,b1,b2,b3⟩:=ask_bit hz hqc;have hX:bits .xor .u16 (x:Int) ((2 ^ q:Nat):Int)=((x ^^^ 2 ^ q:Nat):Int):=xor_u16 hx (pow_16 hqq);have hZ:bits .xor .u16 (z:Int) ((2 ^ c:Nat):Int)=((z ^^^ 2 ^ c:Nat):Int):=xor_u16 hz (pow_16 hqc);have hT:=TwB.new w ⟨x,z,m⟩;obtain ⟨H,hH⟩:∃ H,w.heap.size=H:=⟨_,rfl⟩;obtain ⟨W0,hW0⟩:∃ W0,(w.alloc (.cells #[.int .u16 (x:Int),.int .u16 (z:Int),.bool m] 103)).alloc (.cells #[.int .u16 0,.int .u16 0,.bool false] 103)=W0:=⟨_,rfl⟩;simp only [hW0,hH] at hT;have c0:=(hT.e.cell (p:=⟨g,0,none⟩) lg).trans hg;have e0:=(hT.e.cell (p:=⟨h,0,none⟩) lh).trans hh
 show Calls _ _ _ _ fun e w'=>e=.returned (.agg #[.int .u16 ((if x.testBit c=true then x ^^^ 2 ^ q else x:Nat):Int),.int .u16 ((if z.testBit q=true then z ^^^ 2 ^ c else z:Nat):Int),.bool (m ^^ (x.testBit c && z.testBit q && (x.testBit q == z.testBit c)))])/\Ext w w'
 obtain ⟨X,hXd⟩:∃ X,x ^^^ 2 ^ q=X:=⟨_,rfl⟩;obtain ⟨Z,hZd⟩:∃ Z,z ^^^ 2 ^ c=Z:=⟨_,rfl⟩;obtain ⟨dn,hdn⟩:∃ B,x.testBit c=B:=⟨_,rfl⟩;obtain ⟨up,hup⟩:∃ B,z.testBit q=B:=⟨_,rfl⟩;obtain ⟨xq,hxq⟩:∃ B,x.testBit q=B:=⟨_,rfl⟩;obtain ⟨zc,hzc⟩:∃ B,z.testBit c=B:=⟨_,rfl⟩;obtain ⟨al,hal⟩:∃ B,(xq == zc)=B:=⟨_,rfl⟩
 have hal2:decide (xq=zc)=al:=by rw [<-hal];rfl
 rw [hXd] at hX;rw [hZd] at hZ;rw [hdn] at d2 d3;rw [hup] at u2 u3;rw [hxq] at a2 a3;rw [hzc] at b2 b3;rw [hXd,hZd,hdn,hup,hxq,hzc,hal];obtain ⟨V,hV⟩:∃ V,2 ^ q=V:=⟨_,rfl⟩;obtain ⟨C,hC⟩:∃ C,2 ^ c=C:=⟨_,rfl⟩;rw [hV] at u1 a1 hX e0;rw [hC] at d1 b1 hZ c0;have HT:=Lh hT;have HW0:=Lh hW0;have HH:=Lh hH;have HTu:=Lh (fun b wx=>turnedIf_any x z m b wx);have Hl:=Lh (And.intro (Nat.lt_of_lt_of_le lg hT.e.size) (Nat.lt_of_lt_of_le lh hT.e.size));have Hne:=Lh (show g≠H/\h≠H by omega);have Hc:=Lh (And.intro c0 e0);have k0:=hT.a.x0;have k1:=hT.a.x1;have k2:=hT.a.x2;have kf0:=hT.a.f 0;have kf1:=hT.a.f 1;have kf2:=hT.a.f 2;clear hT hW0 hH hg lg hh lh hV hC hqq hqc hx hz hXd hZd hdn hup hxq hzc;unfold pvQ
 go_enter Tryz.func145,Tryz.ntmps145
 go_upto_region 1 with fail
 rw [HW0.out,HH.out]
 go_quiet (fail)
 go_upto_region 3 with fail
 obtain ⟨W1,hW1⟩:∃ V,W0.drewN nq=V:=⟨_,rfl⟩
 have E1:Ext W0 W1:=by rw [<-hW1];exact ext_drewN _ _
 rw [hW1];have HT:=Lh (HT.out.ext E1);have Hc:=Lh (And.intro ((E1.cell (p:=⟨g,0,none⟩) Hl.out.1).trans Hc.out.1) ((E1.cell (p:=⟨h,0,none⟩) Hl.out.2).trans Hc.out.2));have Hl:=Lh (And.intro (Nat.lt_of_lt_of_le Hl.out.1 E1.size) (Nat.lt_of_lt_of_le Hl.out.2 E1.size));clear hW1 E1 k0 k1 k2 kf0 kf1 kf2 c0 e0 a1 a2 a3 b1 b2 b3 d1 d2 d3 u1 u2 u3 hal hal2;have k0:=HT.out.a.x0;have k1:=HT.out.a.x1;have k2:=HT.out.a.x2;have kf0:=HT.out.a.f 0;have kf1:=HT.out.a.f 1;have kf2:=HT.out.a.f 2
 cases dn<;>cases up
 ·obtain ⟨D,hD⟩:∃ D,(m ^^ false)=D:=⟨_,rfl⟩
  have HTu:=Lh (fun wx=>HTu.out false wx);rw [hD] at HTu;have HD:=Lh hD;clear hD
  go_wp2_with fail
  refine (HTu.out _).mono ?_;rintro e w1 ⟨rfl,x1⟩;have c1:=(x1.cell (p:=⟨g,0,none⟩) Hl.out.1).trans Hc.out.1;have e1:=(x1.cell (p:=⟨h,0,none⟩) Hl.out.2).trans Hc.out.2;have HT:=Lh (HT.out.ext x1);clear x1 k0 k1 k2 kf0 kf1 kf2 HTu;have k0:=HT.out.a.x0;have k1:=HT.out.a.x1;have k2:=HT.out.a.x2;have kf0:=HT.out.a.f 0;have kf1:=HT.out.a.f 1;have kf2:=HT.out.a.f 2;have Hc1:=Lh (And.intro c1 e1);clear c1 e1
  go_upto_region 4 with fail
  have HT:=Lh (HT.out.pt ⟨x,z,D⟩);simp only at HT;have c2:=(keep_cell3 (w:=w1) Hne.out.1 (.int .u16 (x:Int)) (.int .u16 (z:Int)) (.bool D)).trans Hc1.out.1;have e2:=(keep_cell3 (w:=w1) Hne.out.2 (.int .u16 (x:Int)) (.int .u16 (z:Int)) (.bool D)).trans Hc1.out.2;obtain ⟨W2,hW2⟩:∃ V,((w1.setCell ⟨H,0,none⟩ (.int .u16 (x:Int))).setCell ⟨H,1,none⟩ (.int .u16 (z:Int))).setCell ⟨H,2,none⟩ (.bool D)=V:=⟨_,rfl⟩;rw [hW2] at HT c2 e2 ⊢;clear k0 k1 k2 kf0 kf1 kf2 hW2;have k0:=HT.out.a.x0;have k1:=HT.out.a.x1;have k2:=HT.out.a.x2;have kf0:=HT.out.a.f 0;have kf1:=HT.out.a.f 1;have kf2:=HT.out.a.f 2;have r0:=HT.out.b.x0;have r1:=HT.out.b.x1;have r2:=HT.out.b.x2;have rf0:=HT.out.b.f 0;have rf1:=HT.out.b.f 1;have rf2:=HT.out.b.f 2
  go_wp2_with fail
  exact bodyPost_ret (v:=.agg #[.int .u16 (x:Int),.int .u16 (z:Int),.bool D]) (by simp [results,Tryz.results145,go_sem,r0,r1,r2]) rfl ⟨by rw [<-HD.out];try simp,HT.out.end _ _ _⟩
 ·obtain ⟨D,hD⟩:∃ D,(m ^^ false)=D:=⟨_,rfl⟩
  have HTu:=Lh (fun wx=>HTu.out false wx);rw [hD] at HTu;have HD:=Lh hD;clear hD
  go_wp2_with fail
  refine (HTu.out _).mono ?_;rintro e w1 ⟨rfl,x1⟩;have c1:=(x1.cell (p:=⟨g,0,none⟩) Hl.out.1).trans Hc.out.1;have e1:=(x1.cell (p:=⟨h,0,none⟩) Hl.out.2).trans Hc.out.2;have HT:=Lh (HT.out.ext x1);clear x1 k0 k1 k2 kf0 kf1 kf2 HTu;have k0:=HT.out.a.x0;have k1:=HT.out.a.x1;have k2:=HT.out.a.x2;have kf0:=HT.out.a.f 0;have kf1:=HT.out.a.f 1;have kf2:=HT.out.a.f 2;have Hc1:=Lh (And.intro c1 e1);clear c1 e1
  go_upto_region 4 with fail
  have HT:=Lh (HT.out.pt ⟨x,z,D⟩);simp only at HT;have c2:=(keep_cell3 (w:=w1) Hne.out.1 (.int .u16 (x:Int)) (.int .u16 (z:Int)) (.bool D)).trans Hc1.out.1;have e2:=(keep_cell3 (w:=w1) Hne.out.2 (.int .u16 (x:Int)) (.int .u16 (z:Int)) (.bool D)).trans Hc1.out.2;obtain ⟨W2,hW2⟩:∃ V,((w1.setCell ⟨H,0,none⟩ (.int .u16 (x:Int))).setCell ⟨H,1,none⟩ (.int .u16 (z:Int))).setCell ⟨H,2,none⟩ (.bool D)=V:=⟨_,rfl⟩;rw [hW2] at HT c2 e2 ⊢;clear k0 k1 k2 kf0 kf1 kf2 hW2;have k0:=HT.out.a.x0;have k1:=HT.out.a.x1;have k2:=HT.out.a.x2;have kf0:=HT.out.a.f 0;have kf1:=HT.out.a.f 1;have kf2:=HT.out.a.f 2
  go_upto_region 8 with fail
  have HT:=Lh (HT.out.pt1 Z);simp only at HT;obtain ⟨W4,hW4⟩:∃ V,W2.setCell ⟨H,1,none⟩ (.int .u16 (Z:Int))=V:=⟨_,rfl⟩;rw [hW4] at HT ⊢;clear k0 k1 k2 kf0 kf1 kf2 hW4;have k0:=HT.out.a.x0;have k1:=HT.out.a.x1;have k2:=HT.out.a.x2;have kf0:=HT.out.a.f 0;have kf1:=HT.out.a.f 1;have kf2:=HT.out.a.f 2;have r0:=HT.out.b.x0;have r1:=HT.out.b.x1;have r2:=HT.out.b.x2;have rf0:=HT.out.b.f 0;have rf1:=HT.out.b.f 1;have rf2:=HT.out.b.f 2
  go_wp2_with fail
  exact bodyPost_ret (v:=.agg #[.int .u16 (x:Int),.int .u16 (Z:Int),.bool D]) (by simp [results,Tryz.results145,go_sem,r0,r1,r2]) rfl ⟨by rw [<-HD.out];try simp,HT.out.end _ _ _⟩
 ·obtain ⟨D,hD⟩:∃ D,(m ^^ false)=D:=⟨_,rfl⟩
  have HTu:=Lh (fun wx=>HTu.out false wx);rw [hD] at HTu;have HD:=Lh hD;clear hD
  go_wp2_with fail
  refine (HTu.out _).mono ?_;rintro e w1 ⟨rfl,x1⟩;have c1:=(x1.cell (p:=⟨g,0,none⟩) Hl.out.1).trans Hc.out.1;have e1:=(x1.cell (p:=⟨h,0,none⟩) Hl.out.2).trans Hc.out.2;have HT:=Lh (HT.out.ext x1);clear x1 k0 k1 k2 kf0 kf1 kf2 HTu;have k0:=HT.out.a.x0;have k1:=HT.out.a.x1;have k2:=HT.out.a.x2;have kf0:=HT.out.a.f 0;have kf1:=HT.out.a.f 1;have kf2:=HT.out.a.f 2;have Hc1:=Lh (And.intro c1 e1);clear c1 e1
  go_upto_region 4 with fail
  have HT:=Lh (HT.out.pt ⟨x,z,D⟩);simp only at HT;have c2:=(keep_cell3 (w:=w1) Hne.out.1 (.int .u16 (x:Int)) (.int .u16 (z:Int)) (.bool D)).trans Hc1.out.1;have e2:=(keep_cell3 (w:=w1) Hne.out.2 (.int .u16 (x:Int)) (.int .u16 (z:Int)) (.bool D)).trans Hc1.out.2;obtain ⟨W2,hW2⟩:∃ V,((w1.setCell ⟨H,0,none⟩ (.int .u16 (x:Int))).setCell ⟨H,1,none⟩ (.int .u16 (z:Int))).setCell ⟨H,2,none⟩ (.bool D)=V:=⟨_,rfl⟩;rw [hW2] at HT c2 e2 ⊢;clear k0 k1 k2 kf0 kf1 kf2 hW2;have k0:=HT.out.a.x0;have k1:=HT.out.a.x1;have k2:=HT.out.a.x2;have kf0:=HT.out.a.f 0;have kf1:=HT.out.a.f 1;have kf2:=HT.out.a.f 2;have Hc2:=Lh c2
  go_upto_region 6 with fail
  have HT:=Lh (HT.out.pt0 X);simp only at HT;have c3:=(keep_cell1 (w:=W2) (o:=0) Hne.out.1 (.int .u16 (X:Int))).trans Hc2.out;obtain ⟨W3,hW3⟩:∃ V,W2.setCell ⟨H,0,none⟩ (.int .u16 (X:Int))=V:=⟨_,rfl⟩;rw [hW3] at HT c3 ⊢;clear k0 k1 k2 kf0 kf1 kf2 hW3 c2 e2;have k0:=HT.out.a.x0;have k1:=HT.out.a.x1;have k2:=HT.out.a.x2;have kf0:=HT.out.a.f 0;have kf1:=HT.out.a.f 1;have kf2:=HT.out.a.f 2;have r0:=HT.out.b.x0;have r1:=HT.out.b.x1;have r2:=HT.out.b.x2;have rf0:=HT.out.b.f 0;have rf1:=HT.out.b.f 1;have rf2:=HT.out.b.f 2
  go_wp2_with fail
  exact bodyPost_ret (v:=.agg #[.int .u16 (X:Int),.int .u16 (z:Int),.bool D]) (by simp [results,Tryz.results145,go_sem,r0,r1,r2]) rfl ⟨by rw [<-HD.out];try simp,HT.out.end _ _ _⟩
 ·obtain ⟨D,hD⟩:∃ D,(m ^^ al)=D:=⟨_,rfl⟩
  have HTu:=Lh (fun wx=>HTu.out al wx);rw [hD] at HTu;have HD:=Lh hD;clear hD
  go_wp2_with fail
  refine (HTu.out _).mono ?_;rintro e w1 ⟨rfl,x1⟩;have c1:=(x1.cell (p:=⟨g,0,none⟩) Hl.out.1).trans Hc.out.1;have e1:=(x1.cell (p:=⟨h,0,none⟩) Hl.out.2).trans Hc.out.2;have HT:=Lh (HT.out.ext x1);clear x1 k0 k1 k2 kf0 kf1 kf2 HTu;have k0:=HT.out.a.x0;have k1:=HT.out.a.x1;have k2:=HT.out.a.x2;have kf0:=HT.out.a.f 0;have kf1:=HT.out.a.f 1;have kf2:=HT.out.a.f 2;have Hc1:=Lh (And.intro c1 e1);clear c1 e1
  go_upto_region 4 with fail
  have HT:=Lh (HT.out.pt ⟨x,z,D⟩);simp only at HT;have c2:=(keep_cell3 (w:=w1) Hne.out.1 (.int .u16 (x:Int)) (.int .u16 (z:Int)) (.bool D)).trans Hc1.out.1;have e2:=(keep_cell3 (w:=w1) Hne.out.2 (.int .u16 (x:Int)) (.int .u16 (z:Int)) (.bool D)).trans Hc1.out.2;obtain ⟨W2,hW2⟩:∃ V,((w1.setCell ⟨H,0,none⟩ (.int .u16 (x:Int))).setCell ⟨H,1,none⟩ (.int .u16 (z:Int))).setCell ⟨H,2,none⟩ (.bool D)=V:=⟨_,rfl⟩;rw [hW2] at HT c2 e2 ⊢;clear k0 k1 k2 kf0 kf1 kf2 hW2;have k0:=HT.out.a.x0;have k1:=HT.out.a.x1;have k2:=HT.out.a.x2;have kf0:=HT.out.a.f 0;have kf1:=HT.out.a.f 1;have kf2:=HT.out.a.f 2;have Hc2:=Lh c2
  go_upto_region 6 with fail
  have HT:=Lh (HT.out.pt0 X);simp only at HT;have c3:=(keep_cell1 (w:=W2) (o:=0) Hne.out.1 (.int .u16 (X:Int))).trans Hc2.out;obtain ⟨W3,hW3⟩:∃ V,W2.setCell ⟨H,0,none⟩ (.int .u16 (X:Int))=V:=⟨_,rfl⟩;rw [hW3] at HT c3 ⊢;clear k0 k1 k2 kf0 kf1 kf2 hW3 c2 e2;have k0:=HT.out.a.x0;have k1:=HT.out.a.x1;have k2:=HT.out.a.x2;have kf0:=HT.out.a.f 0;have kf1:=HT.out.a.f 1;have kf2:=HT.out.a.f 2
  go_upto_region 8 with fail
  have HT:=Lh (HT.out.pt1 Z);simp only at HT;obtain ⟨W4,hW4⟩:∃ V,W3.setCell ⟨H,1,none⟩ (.int .u16 (Z:Int))=V:=⟨_,rfl⟩;rw [hW4] at HT ⊢;clear k0 k1 k2 kf0 kf1 kf2 hW4;have k0:=HT.out.a.x0;have k1:=HT.out.a.x1;have k2:=HT.out.a.x2;have kf0:=HT.out.a.f 0;have kf1:=HT.out.a.f 1;have kf2:=HT.out.a.f 2;have r0:=HT.out.b.x0;have r1:=HT.out.b.x1;have r2:=HT.out.b.x2;have rf0:=HT.out.b.f 0;have rf1:=HT.out.b.f 1;have rf2:=HT.out.b.f 2
  go_wp2_with fail
  exact bodyPost_ret (v:=.agg #[.int .u16 (X:Int),.int .u16 (Z:Int),.bool D]) (by simp [results,Tryz.results145,go_sem,r0,r1,r2]) rfl ⟨by rw [<-HD.out];try simp,HT.out.end _ _ _⟩
def Kb (lo:Nat) (U W:World):Prop:=U.heap.size<=W.heap.size/\∀ b,lo<=b->b<U.heap.size->W.heap[b]?=U.heap[b]?
theorem Kb.of_ext {lo:Nat} {U W:World} (h:Ext U W):Kb lo U W:=⟨h.size,fun b _ hb=>h.block b hb⟩
theorem Kb.ext {lo:Nat} {U W W':World} (h:Kb lo U W) (k:Ext W W'):Kb lo U W':=⟨Nat.le_trans h.1 k.size,fun b h1 h2=>(k.block b (Nat.lt_of_lt_of_le h2 h.1)).trans (h.2 b h1 h2)⟩
theorem Kb.only {lo g:Nat} {U W W':World} (h:Kb lo U W) (hO:Only g W W') (hg:g<lo):Kb lo U W':=⟨by rw [hO.size];exact h.1,fun b h1 h2=>(hO.block b (by omega)).trans (h.2 b h1 h2)⟩
theorem Kb.cell {lo g o:Nat} {U W:World} (h:Kb lo U W) (hl:lo<=g) (hg:g<U.heap.size):W.cell? ⟨g,o,none⟩=U.cell? ⟨g,o,none⟩:=World.cell?_of_block (a:=⟨g,o,none⟩) (h.2 g hl hg)
def GateV (lo:Nat) (U:World) (v:Value) (A:QP->QP):Prop :=
 ∃ (F:FuncId) (caps:Array Value),v=.func (.func F) #[] caps/\(∀ (args:Array Value) (wx:World),(callFunc F args).run Tryz.prog wx=.ok (.enter F args) wx) /\
  ∀ (p:QP) wx,p.ok->Kb lo U wx->Calls Tryz.prog F (#[pvQ p]++caps) wx fun e w'=>e=.returned (pvQ (A p))/\Ext wx w'
theorem GateV.ext {lo:Nat} {U U':World} {v:Value} {A:QP->QP} (h:GateV lo U v A) (k:Ext U U'):GateV lo U' v A:=by
 obtain ⟨F,caps,h1,h2,h3⟩:=h;exact ⟨F,caps,h1,h2,fun p wx hp hx=>h3 p wx hp ⟨Nat.le_trans k.size hx.1,fun b hb1 hb2=>(hx.2 b hb1 (Nat.lt_of_lt_of_le hb2 k.size)).trans (k.block b hb2)⟩⟩
theorem GateV.down {lo lo':Nat} {U:World} {v:Value} {A:QP->QP} (h:GateV lo' U v A) (k:lo<=lo'):GateV lo U v A:=by
 obtain ⟨F,caps,h1,h2,h3⟩:=h;exact ⟨F,caps,h1,h2,fun p wx hp hx=>h3 p wx hp ⟨hx.1,fun b hb1 hb2=>hx.2 b (Nat.le_trans k hb1) hb2⟩⟩
theorem new_u16 (w:World) (v:Nat):(w.alloc (.cells #[.int .u16 (v:Int)] 101)).cell? ⟨w.heap.size,0,none⟩=some (.int .u16 (v:Int)):=by
 rw [cell_of_row _ _ 0 _ _ (0,0) (heap_alloc_new w _)]
 rfl
def GaR (lo:Nat) (A:QP->QP) (w:World) (e:Ending) (w':World):Prop:=∃ v,e=.returned v/\Ext w w'/\GateV lo w' v A
theorem fork_gate {q:Nat} (hq:q<16) (lo:Nat) (U:World) (g:Nat) (hl:lo<=g) (hg:U.cell? ⟨g,0,none⟩=some (.int .u16 ((2 ^ q:Nat):Int))) (lg:g<U.heap.size):GateV lo U (.func (.func 146) #[] #[.pointer (some ⟨g,0,none⟩)]) (forkG q) :=
 ⟨_,_,rfl,enters_of Tryz.func146 (by kernel_rfl) rfl,fun p wx hp hx=>fork1_any q hq p hp g wx ((hx.cell hl lg).trans hg) (Nat.lt_of_lt_of_le lg hx.1)⟩
theorem flip_gate {q:Nat} (hq:q<16) (lo:Nat) (U:World) (g:Nat) (hl:lo<=g) (hg:U.cell? ⟨g,0,none⟩=some (.int .u16 ((2 ^ q:Nat):Int))) (lg:g<U.heap.size):GateV lo U (.func (.func 143) #[] #[.pointer (some ⟨g,0,none⟩)]) (flipG q) :=
 ⟨_,_,rfl,enters_of Tryz.func143 (by kernel_rfl) rfl,fun p wx hp hx=>flip1_any q hq p hp g wx ((hx.cell hl lg).trans hg) (Nat.lt_of_lt_of_le lg hx.1)⟩
theorem quar_gate {q:Nat} (hq:q<16) (lo:Nat) (U:World) (g:Nat) (hl:lo<=g) (hg:U.cell? ⟨g,0,none⟩=some (.int .u16 ((2 ^ q:Nat):Int))) (lg:g<U.heap.size):GateV lo U (.func (.func 149) #[] #[.pointer (some ⟨g,0,none⟩)]) (quarG q) :=
 ⟨_,_,rfl,enters_of Tryz.func149 (by kernel_rfl) rfl,fun p wx hp hx=>quarter1_any q hq p hp g wx ((hx.cell hl lg).trans hg) (Nat.lt_of_lt_of_le lg hx.1)⟩
theorem on_gate {q c:Nat} (hq:q<16) (hc:c<16) (lo:Nat) (U:World) (g h:Nat) (hl:lo<=g) (hl2:lo<=h) (hg:U.cell? ⟨g,0,none⟩=some (.int .u16 ((2 ^ c:Nat):Int))) (lg:g<U.heap.size) (hh:U.cell? ⟨h,0,none⟩=some (.int .u16 ((2 ^ q:Nat):Int))) (lh:h<U.heap.size):GateV lo U (.func (.func 145) #[] #[.pointer (some ⟨g,0,none⟩),.pointer (some ⟨h,0,none⟩)]) (onG q c) :=
 ⟨_,_,rfl,enters_of Tryz.func145 (by kernel_rfl) rfl,fun p wx hp hx=>flipOn1_any c q hc hq p hp g h wx ((hx.cell hl lg).trans hg) (Nat.lt_of_lt_of_le lg hx.1) ((hx.cell hl2 lh).trans hh) (Nat.lt_of_lt_of_le lh hx.1)⟩
theorem fork_any (q:Nat) (hq:q<16) (w:World):Calls Tryz.prog 100 #[.int .u16 ((2 ^ q:Nat):Int)] w fun e w'=>GaR w.heap.size (forkG q) w e w':=by
 have hn:=fork_gate hq w.heap.size _ _ (Nat.le_refl _) (new_u16 w (2 ^ q)) (by simp);obtain ⟨V,hV⟩:∃ V,2 ^ q=V:=⟨_,rfl⟩;rw [hV] at hn ⊢;have Hn:=Lh hn;clear hn hV hq
 go_enter Tryz.func100,Tryz.ntmps100
 go_wp2_with fail
 go_ret
 exact ⟨_,rfl,ext_al _ _,Hn.out⟩
theorem flip_any (q:Nat) (hq:q<16) (w:World):Calls Tryz.prog 98 #[.int .u16 ((2 ^ q:Nat):Int)] w fun e w'=>GaR w.heap.size (flipG q) w e w':=by
 have hn:=flip_gate hq w.heap.size _ _ (Nat.le_refl _) (new_u16 w (2 ^ q)) (by simp);obtain ⟨V,hV⟩:∃ V,2 ^ q=V:=⟨_,rfl⟩;rw [hV] at hn ⊢;have Hn:=Lh hn;clear hn hV hq
 go_enter Tryz.func98,Tryz.ntmps98
 go_wp2_with fail
 go_ret
 exact ⟨_,rfl,ext_al _ _,Hn.out⟩
theorem quarter_any (q:Nat) (hq:q<16) (w:World):Calls Tryz.prog 103 #[.int .u16 ((2 ^ q:Nat):Int)] w fun e w'=>GaR w.heap.size (quarG q) w e w':=by
 have hn:=quar_gate hq w.heap.size _ _ (Nat.le_refl _) (new_u16 w (2 ^ q)) (by simp);obtain ⟨V,hV⟩:∃ V,2 ^ q=V:=⟨_,rfl⟩;rw [hV] at hn ⊢;have Hn:=Lh hn;clear hn hV hq
 go_enter Tryz.func103,Tryz.ntmps103
 go_wp2_with fail
 go_ret
 exact ⟨_,rfl,ext_al _ _,Hn.out⟩
theorem flipOn_any (q c:Nat) (hq:q<16) (hc:c<16) (w:World):Calls Tryz.prog 99 #[.int .u16 ((2 ^ q:Nat):Int),.int .u16 ((2 ^ c:Nat):Int)] w fun e w'=>GaR w.heap.size (onG q c) w e w':=by
 have c1:((w.alloc (.cells #[.int .u16 ((2 ^ q:Nat):Int)] 101)).alloc (.cells #[.int .u16 ((2 ^ c:Nat):Int)] 101)).cell? ⟨w.heap.size,0,none⟩=some (.int .u16 ((2 ^ q:Nat):Int)):=((ext_al _ _).cell (p:=⟨w.heap.size,0,none⟩) (by simp)).trans (new_u16 w (2 ^ q))
 have c2:((w.alloc (.cells #[.int .u16 ((2 ^ q:Nat):Int)] 101)).alloc (.cells #[.int .u16 ((2 ^ c:Nat):Int)] 101)).cell? ⟨w.heap.size+1,0,none⟩=some (.int .u16 ((2 ^ c:Nat):Int)):=by
  have:=new_u16 (w.alloc (.cells #[.int .u16 ((2 ^ q:Nat):Int)] 101)) (2 ^ c)
  rwa [World.size_alloc] at this
 have hn:=on_gate hq hc w.heap.size _ _ _ (by omega) (Nat.le_refl _) c2 (by simp) c1 (by simp only [World.size_alloc];omega);obtain ⟨V,hV⟩:∃ V,2 ^ q=V:=⟨_,rfl⟩;obtain ⟨C,hC⟩:∃ V,2 ^ c=V:=⟨_,rfl⟩;rw [hV,hC] at hn ⊢;have Hn:=Lh hn;clear hn hV hC hq hc c1 c2
 go_enter Tryz.func99,Tryz.ntmps99
 go_wp2_with fail
 go_ret
 exact ⟨_,rfl,(ext_al _ _).trans (ext_al _ _),Hn.out⟩
theorem told_any (q:Nat) (hq:q<16) (o:Int) (w:World):Calls Tryz.prog 122 #[.int .i64 (q:Int),.int .i64 o] w fun e w'=>e=.returned (.agg #[.int .u16 0,.int .u16 ((2 ^ q:Nat):Int),.bool (decide (o=1))])/\Ext w w':=by
 have HS:=Lh (fun wx=>Set_any q hq wx);obtain ⟨V,hV⟩:∃ V,2 ^ q=V:=⟨_,rfl⟩;rw [hV] at HS ⊢;obtain ⟨b,hb⟩:∃ b,decide (o=1)=b:=⟨_,rfl⟩;have b1:(o == 1)=b:=hb;rw [hb];obtain ⟨H,hH⟩:∃ H,w.heap.size=H:=⟨_,rfl⟩;obtain ⟨W0,hW0⟩:∃ W0,w.alloc (.cells #[.int .u16 0,.int .u16 0,.bool false] 103)=W0:=⟨_,rfl⟩
 have E0:Ext w W0:=by rw [<-hW0];exact ext_al _ _
 have hp:PuB W0 H 0 0 false:=by rw [<-hW0,<-hH];exact ⟨heap_alloc_new w _⟩
 have HW0:=Lh hW0;have HH:=Lh hH;have HE:=Lh E0;have c0:=hp.x0;have c1:=hp.x1;have c2:=hp.x2;have f0:=hp.f 0;have f1:=hp.f 1;have f2:=hp.f 2;have HP:=Lh hp;clear hV hb hH hW0 E0 hp hq
 go_enter Tryz.func122,Tryz.ntmps122
 go_upto_region 1 with fail
 rw [HW0.out,HH.out]
 go_wp2_with fail
 refine (HS.out _).mono ?_;rintro e w1 ⟨rfl,hw⟩;obtain rfl:=hw.symm
 go_wp2_with fail
 have hp:PuB (((W0.setCell ⟨H,0,none⟩ (.int .u16 0)).setCell ⟨H,1,none⟩ (.int .u16 (V:Int))).setCell ⟨H,2,none⟩ (.bool b)) H 0 V b:=((HP.out.pt0 0).pt1 V).pt2 b;have y0:=hp.x0;have y1:=hp.x1;have y2:=hp.x2;have hE:Ext w (((W0.setCell ⟨H,0,none⟩ (.int .u16 0)).setCell ⟨H,1,none⟩ (.int .u16 (V:Int))).setCell ⟨H,2,none⟩ (.bool b)):=put3x HE.out (by rw [HH.out];exact Nat.le_refl _) _ _ _;exact bodyPost_ret (v:=.agg #[.int .u16 0,.int .u16 (V:Int),.bool b]) (by simp [results,Tryz.results122,go_sem,y0,y1,y2]) rfl ⟨rfl,hE⟩
def HasV (lo:Nat) (U:World) (v:Value) (h:QP->Bool):Prop :=
 ∃ (F:FuncId) (caps:Array Value),v=.func (.func F) #[] caps/\(∀ (args:Array Value) (wx:World),(callFunc F args).run Tryz.prog wx=.ok (.enter F args) wx) /\
  ∀ (p:QP) wx,p.ok->Kb lo U wx->Calls Tryz.prog F (#[pvQ p]++caps) wx fun e w'=>e=.returned (.bool (h p))/\Ext wx w'
theorem HasV.ext {lo:Nat} {U U':World} {v:Value} {A:QP->Bool} (h:HasV lo U v A) (k:Ext U U'):HasV lo U' v A:=by
 obtain ⟨F,caps,h1,h2,h3⟩:=h;exact ⟨F,caps,h1,h2,fun p wx hp hx=>h3 p wx hp ⟨Nat.le_trans k.size hx.1,fun b hb1 hb2=>(hx.2 b hb1 (Nat.lt_of_lt_of_le hb2 k.size)).trans (k.block b hb2)⟩⟩
theorem HasV.kb {lo:Nat} {U U':World} {v:Value} {A:QP->Bool} (h:HasV lo U v A) (k:Kb lo U U'):HasV lo U' v A:=by
 obtain ⟨F,caps,h1,h2,h3⟩:=h;exact ⟨F,caps,h1,h2,fun p wx hp hx=>h3 p wx hp ⟨Nat.le_trans k.1 hx.1,fun b hb1 hb2=>(hx.2 b hb1 (Nat.lt_of_lt_of_le hb2 k.1)).trans (k.2 b hb1 hb2)⟩⟩
theorem settle1_any (q:Nat) (hqq:q<16) (p:QP) (hp:p.ok) (g:Nat) (w:World) (hg:w.cell? ⟨g,0,none⟩=some (.int .i64 (q:Int))) (lg:g<w.heap.size) :
  Calls Tryz.prog 162 #[pvQ p,.pointer (some ⟨g,0,none⟩)] w fun e w'=>e=.returned (.bool (p.x.testBit q))/\Ext w w':=by
 obtain ⟨x,z,m⟩:=p;obtain ⟨hx,hz⟩:=hp;simp only at hx hz;obtain ⟨A,a1,a2,a3⟩:=ask_bit hx hqq;have HSq:=Lh (fun wx=>Set_any q hqq wx);have hP:=PuB.new w x z m;have E0:=ext_al w (.cells #[.int .u16 (x:Int),.int .u16 (z:Int),.bool m] 103);have k1:=(E0.cell (p:=⟨g,0,none⟩) lg).trans hg;obtain ⟨H,hH⟩:∃ H,w.heap.size=H:=⟨_,rfl⟩;obtain ⟨W0,hW0⟩:∃ W0,w.alloc (.cells #[.int .u16 (x:Int),.int .u16 (z:Int),.bool m] 103)=W0:=⟨_,rfl⟩;simp only [hW0,hH] at hP k1 E0;have k0:=hP.x0
 show Calls _ _ _ _ fun e w'=>e=.returned (.bool (x.testBit q))/\Ext w w'
 obtain ⟨B,hB⟩:∃ B,x.testBit q=B:=⟨_,rfl⟩;obtain ⟨V,hV⟩:∃ V,2 ^ q=V:=⟨_,rfl⟩;rw [hB] at a2 a3 ⊢;rw [hV] at a1 HSq;have HW0:=Lh hW0;have HH:=Lh hH;have HE:=Lh E0;clear hP hW0 hH hg lg hB hV hqq hx hz E0;unfold pvQ
 go_enter Tryz.func162,Tryz.ntmps162
 go_upto_region 1 with fail
 rw [HW0.out,HH.out]
 go_quiet ((go_at_call 86;refine Calls.quiet_of_same (HSq.out _)))
 go_wp2_with fail
 go_ret
 exact ⟨rfl,HE.out.trans (ext_drewN _ _)⟩
theorem column1_any (q:Nat) (hqq:q<16) (p:QP) (hp:p.ok) (g:Nat) (w:World) (hg:w.cell? ⟨g,0,none⟩=some (.int .i64 (q:Int))) (lg:g<w.heap.size) :
  Calls Tryz.prog 164 #[pvQ p,.pointer (some ⟨g,0,none⟩)] w fun e w'=>e=.returned (.bool (p.x.testBit q))/\Ext w w':=by
 obtain ⟨x,z,m⟩:=p;obtain ⟨hx,hz⟩:=hp;simp only at hx hz;obtain ⟨A,a1,a2,a3⟩:=ask_bit hx hqq;have HSq:=Lh (fun wx=>Set_any q hqq wx);have hP:=PuB.new w x z m;have E0:=ext_al w (.cells #[.int .u16 (x:Int),.int .u16 (z:Int),.bool m] 103);have k1:=(E0.cell (p:=⟨g,0,none⟩) lg).trans hg;obtain ⟨H,hH⟩:∃ H,w.heap.size=H:=⟨_,rfl⟩;obtain ⟨W0,hW0⟩:∃ W0,w.alloc (.cells #[.int .u16 (x:Int),.int .u16 (z:Int),.bool m] 103)=W0:=⟨_,rfl⟩;simp only [hW0,hH] at hP k1 E0;have k0:=hP.x0
 show Calls _ _ _ _ fun e w'=>e=.returned (.bool (x.testBit q))/\Ext w w'
 obtain ⟨B,hB⟩:∃ B,x.testBit q=B:=⟨_,rfl⟩;obtain ⟨V,hV⟩:∃ V,2 ^ q=V:=⟨_,rfl⟩;rw [hB] at a2 a3 ⊢;rw [hV] at a1 HSq;have HW0:=Lh hW0;have HH:=Lh hH;have HE:=Lh E0;clear hP hW0 hH hg lg hB hV hqq hx hz E0;unfold pvQ
 go_enter Tryz.func164,Tryz.ntmps164
 go_upto_region 1 with fail
 rw [HW0.out,HH.out]
 go_quiet ((go_at_call 86;refine Calls.quiet_of_same (HSq.out _)))
 go_wp2_with fail
 go_ret
 exact ⟨rfl,HE.out.trans (ext_drewN _ _)⟩
theorem column2_any (q:Nat) (hqq:q<16) (n:Nat) (hn:n<16) (ao:Option Addr) (cp:Nat) (k:Nat) (p:QP) (hp:p.ok) (g:Nat) (w:World) (hg:w.cell? ⟨g,0,none⟩=some (.int .i64 ((n+q:Nat):Int))) (lg:g<w.heap.size) (hk:w.cell? ⟨k,0,none⟩=some (.slice ao n cp)) (lk:k<w.heap.size) :
  Calls Tryz.prog 165 #[pvQ p,.pointer (some ⟨g,0,none⟩),.pointer (some ⟨k,0,none⟩)] w fun e w'=>e=.returned (.bool (p.z.testBit q))/\Ext w w':=by
 obtain ⟨x,z,m⟩:=p;obtain ⟨hx,hz⟩:=hp;simp only at hx hz;obtain ⟨A,a1,a2,a3⟩:=ask_bit hz hqq;have HSq:=Lh (fun wx=>Set_any q hqq wx);have hP:=PuB.new w x z m;have E0:=ext_al w (.cells #[.int .u16 (x:Int),.int .u16 (z:Int),.bool m] 103);have k1:=(E0.cell (p:=⟨g,0,none⟩) lg).trans hg;have k2:=(E0.cell (p:=⟨k,0,none⟩) lk).trans hk
 have wk:IntKind.i64.wrap (((n+q:Nat):Int)-(n:Int))=(q:Int):=by rw [IntKind.wrap_i64];have:=hn;omega
 obtain ⟨H,hH⟩:∃ H,w.heap.size=H:=⟨_,rfl⟩;obtain ⟨W0,hW0⟩:∃ W0,w.alloc (.cells #[.int .u16 (x:Int),.int .u16 (z:Int),.bool m] 103)=W0:=⟨_,rfl⟩;simp only [hW0,hH] at hP k1 E0 k2;have k0:=hP.x1
 show Calls _ _ _ _ fun e w'=>e=.returned (.bool (z.testBit q))/\Ext w w'
 obtain ⟨B,hB⟩:∃ B,z.testBit q=B:=⟨_,rfl⟩;obtain ⟨V,hV⟩:∃ V,2 ^ q=V:=⟨_,rfl⟩;rw [hB] at a2 a3 ⊢;rw [hV] at a1 HSq;obtain ⟨nq,hnq⟩:∃ x,n+q=x:=⟨_,rfl⟩;rw [hnq] at wk k1;have HW0:=Lh hW0;have HH:=Lh hH;have HE:=Lh E0;clear hP hW0 hH hg lg hB hV hqq hx hz E0 hk lk hnq hn;unfold pvQ
 go_enter Tryz.func165,Tryz.ntmps165
 go_upto_region 1 with fail
 rw [HW0.out,HH.out]
 go_quiet ((go_at_call 86;refine Calls.quiet_of_same (HSq.out _)))
 go_wp2_with fail
 go_ret
 exact ⟨rfl,HE.out.trans (ext_drewN _ _)⟩
theorem settle1_has {q:Nat} (hq:q<16) (lo:Nat) (U:World) (g:Nat) (hl:lo<=g) (hg:U.cell? ⟨g,0,none⟩=some (.int .i64 (q:Int))) (lg:g<U.heap.size):HasV lo U (.func (.func 162) #[] #[.pointer (some ⟨g,0,none⟩)]) (fun p=>p.x.testBit q) :=
 ⟨_,_,rfl,enters_of Tryz.func162 (by kernel_rfl) rfl,fun p wx hp hx=>settle1_any q hq p hp g wx ((hx.cell hl lg).trans hg) (Nat.lt_of_lt_of_le lg hx.1)⟩
theorem column1_has {q:Nat} (hq:q<16) (lo:Nat) (U:World) (g:Nat) (hl:lo<=g) (hg:U.cell? ⟨g,0,none⟩=some (.int .i64 (q:Int))) (lg:g<U.heap.size):HasV lo U (.func (.func 164) #[] #[.pointer (some ⟨g,0,none⟩)]) (fun p=>p.x.testBit q) :=
 ⟨_,_,rfl,enters_of Tryz.func164 (by kernel_rfl) rfl,fun p wx hp hx=>column1_any q hq p hp g wx ((hx.cell hl lg).trans hg) (Nat.lt_of_lt_of_le lg hx.1)⟩
theorem column2_has {n q:Nat} (hq:q<16) (hn:n<16) (ao:Option Addr) (cp:Nat) (lo:Nat) (U:World) (g k:Nat) (hl:lo<=g) (hl2:lo<=k) (hg:U.cell? ⟨g,0,none⟩=some (.int .i64 ((n+q:Nat):Int))) (lg:g<U.heap.size) (hk:U.cell? ⟨k,0,none⟩=some (.slice ao n cp)) (lk:k<U.heap.size):HasV lo U (.func (.func 165) #[] #[.pointer (some ⟨g,0,none⟩),.pointer (some ⟨k,0,none⟩)]) (fun p=>p.z.testBit q) :=
 ⟨_,_,rfl,enters_of Tryz.func165 (by kernel_rfl) rfl,fun p wx hp hx=>column2_any q hq n hn ao cp k p hp g wx ((hx.cell hl lg).trans hg) (Nat.lt_of_lt_of_le lg hx.1) ((hx.cell hl2 lk).trans hk) (Nat.lt_of_lt_of_le lk hx.1)⟩
end Go.Proofs.YtlechhmhmakgpaaGreatDoor
