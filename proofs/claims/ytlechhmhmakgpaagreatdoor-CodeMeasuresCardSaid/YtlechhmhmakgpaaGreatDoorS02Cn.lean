/-
  Lists: what stands in one; conditions; controls. (The program's, and the reference's member.) Operations in memory; controls; the first fault of an operation, as the program finds it. Copies: of a list, of an operation. The first fault of an operation, as the reference finds it. What an operation touches, as the reference lists it. The first fault of an operation, as the program finds it. What an operation touches, as the program lists it. Levels: what both sides reckon, as one function of the places that each operation touches; the two numberings of places come to the same.
-/
import Derived.BigQuiet
import Derived.OwnWalk
import Derived.Test.YtlechhmhmakgpaaGreatDoorS00Ca
namespace Go.Proofs.YtlechhmhmakgpaaGreatDoor
set_option maxRecDepth 100000
set_option maxHeartbeats 8000000
open Go.RowKit
theorem mem_take_iff (l:List Int) (x:Int) (i:Nat):x ∈ l.take i↔∃ t,t<i/\t<l.length/\l.getD t 0=x:=by
 constructor
 ·intro h
  obtain ⟨t,ht,e⟩:=List.mem_iff_getElem.1 h;rw [List.length_take] at ht;refine ⟨t,by omega,by omega,?_⟩;rw [List.getD_eq_getElem?_getD,List.getElem?_eq_getElem (by omega)];rw [List.getElem_take] at e;exact e
 ·rintro ⟨t,h1,h2,e⟩
  rw [List.getD_eq_getElem?_getD,List.getElem?_eq_getElem h2] at e;exact List.mem_iff_getElem.2 ⟨t,by rw [List.length_take];omega,by rw [List.getElem_take];exact e⟩
theorem Index_any (ao:Option Addr) (n c:Nat) (l:List Int) (x:Int) (w:World) (h:IntsAt w ao n l) (hnc:n<=c) (hc:c<=9223372036854775807) :
  Calls Tryz.prog 185 #[.slice ao n c,.int .i64 x] w fun e w'=>(∃ k:Int,e=.returned (.int .i64 k)/\(0<=k↔x ∈ l))/\w'=w:=by
 have Hl:=Lh h.1
 have hab:n=0\/∃ b o,ao=some ⟨b,o,none⟩/\∀ t,t<n->w.cell? ⟨b,o+t,none⟩=some (.int .i64 (l.getD t 0)):=by
  rcases h.2 with h0 | ⟨b,o,e,_,hc⟩
  ·exact Or.inl h0
  ·exact Or.inr ⟨b,o,e,hc⟩
 clear h
 go_enter Tryz.func185,Tryz.ntmps185
 go_wp2_with fail
 go_loopg [8] n (fun k s8 wr=>wr=w/\∃ i:Nat,s8=.int .i64 (i:Int)/\i<=n/\n-i=k/\¬ x ∈ l.take i)
 case atStart=>exact ⟨rfl,0,rfl,by omega,by omega,by simp⟩
 case round =>
  obtain ⟨rfl,i,rfl,hi,hk,hno⟩:=hrel;have Hno:=Lh hno;clear hno
  by_cases hin:i=n
  ·have h1:¬ (i:Int)<(n:Int):=by omega
   go_wp2_with fail
   go_ret
   refine ⟨⟨-1,rfl,⟨fun h=>absurd h (by decide),fun h=>?_⟩⟩,rfl⟩;have:=Hno.out;rw [List.take_of_length_le (by rw [Hl.out];omega)] at this;exact absurd h this
  ·have h1:(i:Int)<(n:Int):=by omega
   have h0:(0:Int)<=(i:Int):=by omega
   rcases hab with h | ⟨b,o,rfl,hcell⟩
   ·omega
   have hci:=hcell i (by omega);obtain ⟨y,hy⟩:∃ y,l.getD i 0=y:=⟨_,rfl⟩;rw [hy] at hci;have Hy:=Lh hy;have Hcell:=Lh hcell;clear hcell hy
   by_cases hxy:x=y
   ·have hb:(x == y)=true:=by simp [hxy]
    have Hxy:=Lh hxy;clear hxy
    go_wp2_with fail
    go_ret
    exact ⟨⟨_,rfl,⟨fun _=>by
     rw [Hxy.out,<-Hy.out,List.getD_eq_getElem?_getD,List.getElem?_eq_getElem (by rw [Hl.out];omega)]
     exact List.getElem_mem _,fun _=>h0⟩⟩,rfl⟩
   ·have hb:(x == y)=false:=by simp [hxy]
    have Hxy:=Lh hxy;clear hxy
    go_wp2_with fail
    go_roundg (n-(i+1))
    case measure=>omega
    case rel=>exact ⟨rfl,i+1,by go_num,by omega,rfl,fun h=>by
     obtain ⟨t,h1,h2,h3⟩:=(mem_take_iff l x (i+1)).1 h
     by_cases e:t=i
     ·subst e;exact Hxy.out (by rw [<-Hy.out,h3])
     ·exact Hno.out ((mem_take_iff l x i).2 ⟨t,by omega,h2,h3⟩)⟩
theorem Contains_any (ao:Option Addr) (n c:Nat) (l:List Int) (x:Int) (w:World) (h:IntsAt w ao n l) (hnc:n<=c) (hc:c<=9223372036854775807) :
  Calls Tryz.prog 180 #[.slice ao n c,.int .i64 x] w fun e w'=>e=.returned (.bool (decide (x ∈ l)))/\w'=w:=by
 have Hi:=Lh (Index_any ao n c l x w h hnc hc);clear h
 go_enter Tryz.func180,Tryz.ntmps180
 go_wp2_with fail
 refine Hi.out.mono ?_;rintro e w1 ⟨⟨k,rfl,hk⟩,rfl⟩
 have hb:decide (0<=k)=decide (x ∈ l):=by rw [decide_eq_decide];exact hk
 have Hb:=Lh hb;clear hk hb
 go_wp2_with fail
 go_ret
 exact ⟨congrArg (fun b=>Ending.returned (Value.bool b)) Hb.out,rfl⟩
theorem member_any (ao:Option Addr) (n c:Nat) (l:List Int) (x:Int) (w:World) (h:IntsAt w ao n l) (hnc:n<=c) (hc:c<=9223372036854775807) :
  Calls Tryz.prog 81 #[.slice ao n c,.int .i64 x] w fun e w'=>e=.returned (.bool (decide (x ∈ l)))/\w'=w:=by
 have Hl:=Lh h.1
 have hab:n=0\/∃ b o,ao=some ⟨b,o,none⟩/\∀ t,t<n->w.cell? ⟨b,o+t,none⟩=some (.int .i64 (l.getD t 0)):=by
  rcases h.2 with h0 | ⟨b,o,e,_,hc⟩
  ·exact Or.inl h0
  ·exact Or.inr ⟨b,o,e,hc⟩
 obtain ⟨r,hr⟩:∃ r,decide (x ∈ l)=r:=⟨_,rfl⟩;rw [hr];have Hr:=Lh hr;clear h hr
 go_enter Tryz.func81,Tryz.ntmps81
 go_wp2_with fail
 go_loopg [5] n (fun k s5 wr=>wr=w/\∃ i:Nat,s5=.int .i64 (i:Int)/\i<=n/\n-i=k/\¬ x ∈ l.take i)
 case atStart=>exact ⟨rfl,0,rfl,by omega,by omega,by simp⟩
 case round =>
  obtain ⟨rfl,i,rfl,hi,hk,hno⟩:=hrel;have Hno:=Lh hno;clear hno
  by_cases hin:i=n
  ·have h1:¬ (i:Int)<(n:Int):=by omega
   have hf:r=false:=by
    rw [<-Hr.out,decide_eq_false_iff_not];have:=Hno.out;rw [List.take_of_length_le (by rw [Hl.out];omega)] at this;exact this
   have HF:=Lh hf;clear hf Hr
   go_wp2_with fail
   go_ret
   exact ⟨congrArg (fun b=>Ending.returned (Value.bool b)) HF.out.symm,rfl⟩
  ·have h1:(i:Int)<(n:Int):=by omega
   have h0:(0:Int)<=(i:Int):=by omega
   rcases hab with h | ⟨b,o,rfl,hcell⟩
   ·omega
   have hci:=hcell i (by omega);obtain ⟨y,hy⟩:∃ y,l.getD i 0=y:=⟨_,rfl⟩;rw [hy] at hci;have Hy:=Lh hy;have Hcell:=Lh hcell;clear hcell hy
   by_cases hxy:x=y
   ·have hb:(y == x)=true:=by simp [hxy]
    have ht:r=true:=by
     rw [<-Hr.out,decide_eq_true_iff,hxy,<-Hy.out,List.getD_eq_getElem?_getD,List.getElem?_eq_getElem (by rw [Hl.out];omega)];exact List.getElem_mem _
    have HF:=Lh ht;clear hxy ht Hr
    go_wp2_with fail
    go_ret
    exact ⟨congrArg (fun b=>Ending.returned (Value.bool b)) HF.out.symm,rfl⟩
   ·have hb:(y == x)=false:=by simp [Ne.symm hxy]
    have Hxy:=Lh hxy;clear hxy
    go_wp2_with fail
    go_roundg (n-(i+1))
    case measure=>omega
    case rel=>exact ⟨rfl,i+1,by go_num,by omega,rfl,fun h=>by
     obtain ⟨t,h1,h2,h3⟩:=(mem_take_iff l x (i+1)).1 h
     by_cases e:t=i
     ·subst e;exact Hxy.out (by rw [<-Hy.out,h3])
     ·exact Hno.out ((mem_take_iff l x i).2 ⟨t,by omega,h2,h3⟩)⟩
theorem areConditions_any (ao:Option Addr) (n c:Nat) (l:List Int) (bits:Int) (w:World) (h:IntsAt w ao n l) (_hnc:n<=c) (_hc:c<=9223372036854775807) (hb0:0<=bits) (hb1:bits<=12) :
  Calls Tryz.prog 160 #[.slice ao n c,.int .i64 bits] w fun e w'=>e=.returned (.bool (cndOk bits l))/\w'=w:=by
 have Hl:=Lh h.1
 have hab:n=0\/∃ b o,ao=some ⟨b,o,none⟩/\∀ t,t<n->w.cell? ⟨b,o+t,none⟩=some (.int .i64 (l.getD t 0)):=by
  rcases h.2 with h0 | ⟨b,o,e,_,hc⟩
  ·exact Or.inl h0
  ·exact Or.inr ⟨b,o,e,hc⟩
 obtain ⟨r,hr⟩:∃ r,cndOk bits l=r:=⟨_,rfl⟩;rw [hr];have Hr:=Lh hr;clear h hr
 by_cases hn:24<n
 ·have h1:(24:Int)<(n:Int):=by omega
  have hf:r=false:=by rw [<-Hr.out];unfold cndOk;rw [Hl.out];simp;omega
  have HF:=Lh hf;clear hf Hr hn
  go_enter Tryz.func160,Tryz.ntmps160
  go_wp2_with fail
  go_ret
  exact ⟨congrArg (fun b=>Ending.returned (Value.bool b)) HF.out.symm,rfl⟩
 ·have h1:¬ (24:Int)<(n:Int):=by omega
  have hall:r=l.all (termOk bits):=by
   rw [<-Hr.out];unfold cndOk
   have:decide (l.length<=24)=true:=by rw [Hl.out];simp;omega
   rw [this,Bool.true_and]
  have Hall:=Lh hall
  have hwb:IntKind.i64.wrap (-bits)=-bits:=by rw [IntKind.wrap_i64];omega
  clear hall Hr hn
  go_enter Tryz.func160,Tryz.ntmps160
  go_wp2_with fail
  go_loopg [12] n (fun k s12 wr=>wr=w/\∃ i:Nat,s12=.int .i64 (i:Int)/\i<=n/\n-i=k/\r=(l.drop i).all (termOk bits))
  case atStart=>exact ⟨rfl,0,rfl,by omega,by omega,Hall.out⟩
  case round =>
   obtain ⟨rfl,i,rfl,hi,hk,hr⟩:=hrel
   by_cases hin:i=n
   ·have h2:¬ (i:Int)<(n:Int):=by omega
    have ht:r=true:=by rw [hr,List.drop_eq_nil_of_le (by rw [Hl.out];omega)];rfl
    have HF:=Lh ht;clear hr ht Hall
    go_wp2_with fail
    go_ret
    exact ⟨congrArg (fun b=>Ending.returned (Value.bool b)) HF.out.symm,rfl⟩
   ·have h2:(i:Int)<(n:Int):=by omega
    have h0:(0:Int)<=(i:Int):=by omega
    rcases hab with h | ⟨b,o,rfl,hcell⟩
    ·omega
    have hci:=hcell i (by omega);obtain ⟨y,hy⟩:∃ y,l.getD i 0=y:=⟨_,rfl⟩;rw [hy] at hci;have hst:=all_step (termOk bits) l i (by rw [Hl.out];omega);rw [hy,<-hr] at hst;have Hst:=Lh hst;have Hcell:=Lh hcell;clear hcell hy hr hst
    by_cases y0:y=0
    ·have ht:termOk bits y=false:=by simp [termOk,y0]
     have hf:r=false:=by rw [Hst.out,ht];rfl
     have HF:=Lh hf;subst y0;clear hf ht Hst Hall
     go_wp2_with fail
     go_ret
     exact ⟨congrArg (fun b=>Ending.returned (Value.bool b)) HF.out.symm,rfl⟩
    ·have e0:(y == 0)=false:=by simp [y0]
     by_cases y1:y < -bits
     ·have ht:termOk bits y=false:=by unfold termOk;simp;omega
      have hf:r=false:=by rw [Hst.out,ht];rfl
      have HF:=Lh hf;clear hf ht Hst Hall
      go_wp2_with fail
      go_ret
      exact ⟨congrArg (fun b=>Ending.returned (Value.bool b)) HF.out.symm,rfl⟩
     ·have e1:decide (y < -bits)=false:=by simp;omega
      by_cases y2:bits<y
      ·have ht:termOk bits y=false:=by unfold termOk;simp;omega
       have hf:r=false:=by rw [Hst.out,ht];rfl
       have HF:=Lh hf;clear hf ht Hst Hall
       go_wp2_with fail
       go_ret
       exact ⟨congrArg (fun b=>Ending.returned (Value.bool b)) HF.out.symm,rfl⟩
      ·have e2:decide (bits<y)=false:=by simp;omega
       have ht:termOk bits y=true:=by unfold termOk;simp;omega
       have hst':r=(l.drop (i+1)).all (termOk bits):=by rw [Hst.out,ht];rfl
       have Hst':=Lh hst';clear ht hst' Hst y1 y2
       go_wp2_with fail
       go_roundg (n-(i+1))
       case measure=>omega
       case rel=>exact ⟨rfl,i+1,by go_num,by omega,rfl,Hst'.out⟩
structure OpL (w:World) (o:Gop) (a1:Option Addr) (n1 c1:Nat) (a2:Option Addr) (n2 c2:Nat):Prop where
 i1:IntsAt w a1 n1 o.ctl
 h1:n1<=c1
 m1:c1<=9223372036854775807
 i2:IntsAt w a2 n2 o.cnd
 h2:n2<=c2
 m2:c2<=9223372036854775807
theorem OpL.ext {w w':World} {o:Gop} {a1:Option Addr} {n1 c1:Nat} {a2:Option Addr} {n2 c2:Nat} (h:OpL w o a1 n1 c1 a2 n2 c2) (k:Ext w w'):OpL w' o a1 n1 c1 a2 n2 c2:=⟨h.i1.ext k,h.h1,h.m1,h.i2.ext k,h.h2,h.m2⟩
structure OpBx (W:World) (g:Nat) (k0 k1:Int) (a1:Option Addr) (n1 c1:Nat) (k3 k4:Int) (a2:Option Addr) (n2 c2:Nat):Prop where
 row:W.heap[g]?=some (.cells #[.int .i64 k0,.int .i64 k1,.slice a1 n1 c1,.int .i64 k3,.int .i64 k4,.slice a2 n2 c2] 52 (0,0))
section
variable {W W':World} {g:Nat} {k0 k1:Int} {a1:Option Addr} {n1 c1:Nat} {k3 k4:Int} {a2:Option Addr} {n2 c2:Nat}
theorem OpBx.lt (h:OpBx W g k0 k1 a1 n1 c1 k3 k4 a2 n2 c2):g<W.heap.size:=(gS.1 h.row).1
theorem OpBx.ext (h:OpBx W g k0 k1 a1 n1 c1 k3 k4 a2 n2 c2) (k:Ext W W'):OpBx W' g k0 k1 a1 n1 c1 k3 k4 a2 n2 c2:=⟨(k.block _ h.lt).trans h.row⟩
theorem OpBx.x0 (h:OpBx W g k0 k1 a1 n1 c1 k3 k4 a2 n2 c2):W.cell? ⟨g,0,none⟩=some (.int .i64 k0):=by rw [cell_of_row W g 0 _ _ (0,0) h.row];rfl
theorem OpBx.x1 (h:OpBx W g k0 k1 a1 n1 c1 k3 k4 a2 n2 c2):W.cell? ⟨g,1,none⟩=some (.int .i64 k1):=by rw [cell_of_row W g 1 _ _ (0,0) h.row];rfl
theorem OpBx.x2 (h:OpBx W g k0 k1 a1 n1 c1 k3 k4 a2 n2 c2):W.cell? ⟨g,2,none⟩=some (.slice a1 n1 c1):=by rw [cell_of_row W g 2 _ _ (0,0) h.row];rfl
theorem OpBx.x3 (h:OpBx W g k0 k1 a1 n1 c1 k3 k4 a2 n2 c2):W.cell? ⟨g,3,none⟩=some (.int .i64 k3):=by rw [cell_of_row W g 3 _ _ (0,0) h.row];rfl
theorem OpBx.x4 (h:OpBx W g k0 k1 a1 n1 c1 k3 k4 a2 n2 c2):W.cell? ⟨g,4,none⟩=some (.int .i64 k4):=by rw [cell_of_row W g 4 _ _ (0,0) h.row];rfl
theorem OpBx.x5 (h:OpBx W g k0 k1 a1 n1 c1 k3 k4 a2 n2 c2):W.cell? ⟨g,5,none⟩=some (.slice a2 n2 c2):=by rw [cell_of_row W g 5 _ _ (0,0) h.row];rfl
theorem OpBx.f (h:OpBx W g k0 k1 a1 n1 c1 k3 k4 a2 n2 c2) (o:Nat):W.frozen? ⟨g,o,none⟩=false:=frozen_of_row W g o _ _ h.row
theorem opbx_new (w:World) (k0 k1:Int) (a1:Option Addr) (n1 c1:Nat) (k3 k4:Int) (a2:Option Addr) (n2 c2:Nat):OpBx (w.alloc (.cells #[.int .i64 k0,.int .i64 k1,.slice a1 n1 c1,.int .i64 k3,.int .i64 k4,.slice a2 n2 c2] 52)) w.heap.size k0 k1 a1 n1 c1 k3 k4 a2 n2 c2:=⟨heap_alloc_new w _⟩
end
theorem cell_ext {w w':World} {b o:Nat} {v:Value} (h:w.cell? ⟨b,o,none⟩=some v) (k:Ext w w'):w'.cell? ⟨b,o,none⟩=some v :=
 (k.cell (p:=⟨b,o,none⟩) (World.block_lt_of_cell? w ⟨b,o,none⟩ h)).trans h
theorem ext_al (w:World) (o:Obj):Ext w (w.alloc o):=(Below.refl _ _).alloc (Nat.le_refl _) o
theorem checkControls_any (k0 k1:Int) (a1:Option Addr) (n1 c1:Nat) (q k4:Int) (a2:Option Addr) (n2 c2:Nat) (l:List Int) (n:Int) (w:World) (h:IntsAt w a1 n1 l) (hnc:n1<=c1) (hc:c1<=9223372036854775807) :
  Calls Tryz.prog 159 #[.agg #[.int .i64 k0,.int .i64 k1,.slice a1 n1 c1,.int .i64 q,.int .i64 k4,.slice a2 n2 c2],.int .i64 n] w fun e w'=>e=.returned (.int .i64 (ctlCode q n [] l))/\Ext w w':=by
 have HE:=Lh (ext_al w (.cells #[.int .i64 k0,.int .i64 k1,.slice a1 n1 c1,.int .i64 q,.int .i64 k4,.slice a2 n2 c2] 52));have bx:=opbx_new w k0 k1 a1 n1 c1 q k4 a2 n2 c2;have I0:=h.ext HE.out;have m2:=bx.x2;have m3:=bx.x3;have Hl:=Lh h.1
 have hab:n1=0\/∃ b o,a1=some ⟨b,o,none⟩:=by
  rcases h.2 with h0 | ⟨b,o,e,_,hc⟩
  ·exact Or.inl h0
  ·exact Or.inr ⟨b,o,e⟩
 obtain ⟨r,hr⟩:∃ r,ctlCode q n [] l=r:=⟨_,rfl⟩;rw [hr];have Hr:=Lh hr;clear h hr bx
 go_enter Tryz.func159,Tryz.ntmps159
 go_wp2_with fail
 generalize w.alloc (.cells #[.int .i64 k0,.int .i64 k1,.slice a1 n1 c1,.int .i64 q,.int .i64 k4,.slice a2 n2 c2] 52)=W0 at *;have HI0:=Lh I0;clear I0
 go_loopg [10] n1 (fun k s10 wr=>wr=W0/\∃ i:Nat,s10=.int .i64 (i:Int)/\i<=n1/\n1-i=k/\r=ctlCode q n (l.take i) (l.drop i))
 case atStart=>exact ⟨rfl,0,rfl,by omega,by omega,Hr.out.symm⟩
 case round =>
  obtain ⟨rfl,i,rfl,hi,hk,hri⟩:=hrel
  by_cases hin:i=n1
  ·have h2:¬ (i:Int)<(n1:Int):=by omega
   have hz:r=0:=by rw [hri];exact ctlCode_end q n l i (by rw [Hl.out];omega)
   have HF:=Lh hz;clear hri hz
   go_wp2_with fail
   go_ret
   exact ⟨congrArg (fun b=>Ending.returned (Value.int .i64 b)) HF.out.symm,HE.out⟩
  ·have h2:(i:Int)<(n1:Int):=by omega
   have h0:(0:Int)<=(i:Int):=by omega
   have hic:(i:Int)<=(c1:Int):=by omega
   rcases hab with h | ⟨b,o,rfl⟩
   ·omega
   obtain ⟨b',o',e,_,hcell⟩:=HI0.out.at (by omega)
   cases e
   have hci:=hcell i (by omega);obtain ⟨y,hy⟩:∃ y,l.getD i 0=y:=⟨_,rfl⟩;rw [hy] at hci;have hst:=ctlCode_step q n l i (by rw [Hl.out];omega);rw [<-hri,hy] at hst;have Hst:=Lh hst;have HB:=Lh (isBelow_any y n wr);have HC:=Lh (Contains_any (some ⟨b,o,none⟩) i c1 (l.take i) y wr (HI0.out.take i (by omega)) (by omega) hc);obtain ⟨bl,hbl⟩:∃ x,below y n=x:=⟨_,rfl⟩;rw [hbl] at HB;clear hcell hy hri hst
   cases bl
   ·have hz:r=10:=by rw [Hst.out,if_pos hbl]
    have HF:=Lh hz;clear hz Hst hbl
    go_wp2_with fail
    refine HB.out.mono ?_;rintro e w1 ⟨rfl,rfl⟩
    go_wp2_with fail
    go_ret
    exact ⟨congrArg (fun b=>Ending.returned (Value.int .i64 b)) HF.out.symm,HE.out⟩
   ·have hst1:r=if y=q\/y ∈ l.take i then 12 else ctlCode q n (l.take (i+1)) (l.drop (i+1)):=by rw [Hst.out,if_neg (by rw [hbl];decide)]
    have Hst1:=Lh hst1;clear hst1 Hst hbl
    by_cases hyq:y=q
    ·have hb:(y == q)=true:=by simp [hyq]
     have hz:r=12:=by rw [Hst1.out,if_pos (Or.inl hyq)]
     have HF:=Lh hz;clear hz hyq Hst1
     go_wp2_with fail
     refine HB.out.mono ?_;rintro e w1 ⟨rfl,rfl⟩
     go_wp2_with fail
     go_ret
     exact ⟨congrArg (fun b=>Ending.returned (Value.int .i64 b)) HF.out.symm,HE.out⟩
    ·have hb:(y == q)=false:=by simp [hyq]
     have Hyq:=Lh hyq;obtain ⟨bm,hbm⟩:∃ x,decide (y ∈ l.take i)=x:=⟨_,rfl⟩;rw [hbm] at HC;clear hyq
     cases bm
     ·have hz:r=ctlCode q n (l.take (i+1)) (l.drop (i+1)):=by rw [Hst1.out,if_neg (fun h=>h.elim Hyq.out (of_decide_eq_false hbm))]
      have HF:=Lh hz;clear hz hbm Hst1
      go_wp2_with fail
      refine HB.out.mono ?_;rintro e w1 ⟨rfl,rfl⟩
      go_wp2_with fail
      refine HC.out.mono ?_;rintro e w1 ⟨rfl,rfl⟩
      go_wp2_with fail
      go_roundg (n1-(i+1))
      case measure=>omega
      case rel=>exact ⟨rfl,i+1,by go_num,by omega,rfl,HF.out⟩
     ·have hz:r=12:=by rw [Hst1.out,if_pos (Or.inr (of_decide_eq_true hbm))]
      have HF:=Lh hz;clear hz hbm Hst1
      go_wp2_with fail
      refine HB.out.mono ?_;rintro e w1 ⟨rfl,rfl⟩
      go_wp2_with fail
      refine HC.out.mono ?_;rintro e w1 ⟨rfl,rfl⟩
      go_wp2_with fail
      go_ret
      exact ⟨congrArg (fun b=>Ending.returned (Value.int .i64 b)) HF.out.symm,HE.out⟩
theorem i_info:(Tryz.prog.info? 3).map (fun i=>(i.zero,i.size,i.bytes))=some (some (.int .i64 0),1,8):=by kernel_rfl
def iC (l:List Int):List Value:=l.map fun x=>Value.int .i64 x
theorem iC_length (l:List Int):(iC l).length=l.length:=by simp [iC]
theorem iC_snoc (l:List Int) (x:Int):iC (l++[x])=iC l++[.int .i64 x]:=by simp [iC]
theorem grown_ext {w a b:World} {row:Option Nat} (h:Ext w a) (hg:a.grownBy b row) (hr:∀ k,row=some k->w.heap.size<=k):Ext w b:=Below.grown h hg h.size hr
def TyI (w:World) (a:Option Addr):Prop:=∀ ad,a=some ad->∃ (cur:Array Value) (fr:Nat × Nat),w.heap[ad.block]?=some (.cells cur 3 fr)
theorem TyI.keep {w w':World} {a:Option Addr} (h:TyI w a) (hk:∀ (b:Nat) (cur:Array Value) (fr:Nat × Nat),w.heap[b]?=some (.cells cur 3 fr)->w'.heap[b]?=w.heap[b]?):TyI w' a:=by
 intro ad e;obtain ⟨cur,fr,h1⟩:=h ad e;exact ⟨cur,fr,(hk _ _ _ h1).trans h1⟩
theorem TyI.ext {w w':World} {a:Option Addr} (h:TyI w a) (k:Ext w w'):TyI w' a:=h.keep fun b _ _ e=>k.block b (gS.1 e).1
theorem IntsAt.keep {w w':World} {ao:Option Addr} {n:Nat} {l:List Int} (h:IntsAt w ao n l) (ht:TyI w ao) (hs:w.heap.size<=w'.heap.size) (hk:∀ (b:Nat) (cur:Array Value) (fr:Nat × Nat),w.heap[b]?=some (.cells cur 3 fr)->w'.heap[b]?=w.heap[b]?):IntsAt w' ao n l:=by
 refine ⟨h.1,?_⟩
 rcases h.2 with h0 | ⟨b,o,rfl,hb,hc⟩
 ·exact Or.inl h0
 ·obtain ⟨cur,fr,e⟩:=ht _ rfl
  have hblk:w'.heap[b]?=w.heap[b]?:=hk b cur fr e;exact Or.inr ⟨b,o,rfl,Nat.lt_of_lt_of_le hb hs,fun t ht=>(World.cell?_of_block (a:=⟨b,o+t,none⟩) hblk).trans (hc t ht)⟩
theorem ints_of_own {w:World} {base n:Nat} {v:Value} {l:List Int} (h:w.ownsRow base 3 1 v n (iC l)):∃ (a:Option Addr) (c:Nat),v=.slice a n c/\n<=c/\c<=maxLen/\IntsAt w a n l/\TyI w a:=by
 have hl:l.length=n:=by have:=h.1;simpa [iC] using this
 rcases h.2 with ⟨rfl,rfl⟩ | ⟨g,cap,cur,rfl,_,hg,hnc,hcm,_,htk⟩
 ·exact ⟨none,0,rfl,Nat.le_refl _,Nat.zero_le _,⟨hl,Or.inl rfl⟩,fun ad e=>by cases e⟩
 ·refine ⟨some ⟨g,0,none⟩,cap,rfl,hnc,hcm,⟨hl,Or.inr ⟨g,0,rfl,(gS.1 hg).1,fun t ht=>?_⟩⟩,fun ad e=>by cases e;exact ⟨cur,(0,0),hg⟩⟩
  rw [cell_of_row w g (0+t) cur _ (0,0) hg,Nat.zero_add]
  have h1:(iC l)[t]?=cur.toList[t]?:=by
   rw [<-htk,List.getElem?_take,if_pos (by omega)]
  rw [<-Array.getElem?_toList,<-h1];simp only [iC,List.getElem?_map,List.getD_eq_getElem?_getD];rw [List.getElem?_eq_getElem (by omega)]
  rfl
theorem new_i (w:World) (x:Int) (e:TypeId):∀ j u,([Value.int .i64 x]:List Value)[j]?=some u->(w.alloc (.cells #[.int .i64 x] e)).cell? ((⟨w.heap.size,0,none⟩:Addr).add j)=some u:=by
 intro j u hu
 have hadd:(⟨w.heap.size,0,none⟩:Addr).add j=⟨w.heap.size,j,none⟩:=by unfold Addr.add;split<;>simp_all
 rw [hadd,cell_of_row _ _ j _ _ (0,0) (heap_alloc_new w _)]
 match j,hu with
 | 0,hu=>simpa using hu
 | k+1,hu=>simp at hu
theorem one_i (x:Int):∀ u ∈ ([Value.int .i64 x]:List Value),u.oneCell'=true:=by
 intro u hu;simp only [List.mem_singleton] at hu;subst hu
 rfl
theorem own_lt {w:World} {base n size:Nat} {v:Value} {xs:List Value} {e:TypeId} (h:w.ownsRow base e size v n xs):∀ k,v.ownBlock=some k->base<=k/\k<w.heap.size:=by
 intro k hk
 rcases h.2 with ⟨rfl,_⟩ | ⟨g,cap,cur,rfl,hb,hg,_⟩
 ·simp [Value.ownBlock] at hk
 ·simp [Value.ownBlock] at hk
  subst hk;exact ⟨hb,(gS.1 hg).1⟩
theorem put6 {w W:World} {g:Nat} (h:Ext w W) (hg:w.heap.size<=g) (u0 u1 u2 u3 u4 u5:Value):Ext w ((((((W.setCell ⟨g,0,none⟩ u0).setCell ⟨g,1,none⟩ u1).setCell ⟨g,2,none⟩ u2).setCell ⟨g,3,none⟩ u3).setCell ⟨g,4,none⟩ u4).setCell ⟨g,5,none⟩ u5) :=
 Below.setCell (Below.setCell (Below.setCell (Below.setCell (Below.setCell (Below.setCell h (p:=⟨g,0,none⟩) hg _) (p:=⟨g,1,none⟩) hg _) (p:=⟨g,2,none⟩) hg _) (p:=⟨g,3,none⟩) hg _) (p:=⟨g,4,none⟩) hg _) (p:=⟨g,5,none⟩) hg _
structure OpO (w:World) (o:Gop) (a1:Option Addr) (n1 c1:Nat) (a2:Option Addr) (n2 c2:Nat):Prop where
 l:OpL w o a1 n1 c1 a2 n2 c2
 t1:TyI w a1
 t2:TyI w a2
section
variable {w w':World} {o:Gop} {a1:Option Addr} {n1 c1:Nat} {a2:Option Addr} {n2 c2:Nat}
theorem OpO.ext (h:OpO w o a1 n1 c1 a2 n2 c2) (k:Ext w w'):OpO w' o a1 n1 c1 a2 n2 c2:=⟨h.l.ext k,h.t1.ext k,h.t2.ext k⟩
theorem OpO.keep (h:OpO w o a1 n1 c1 a2 n2 c2) (hs:w.heap.size<=w'.heap.size) (hk:∀ (b:Nat) (cur:Array Value) (fr:Nat × Nat),w.heap[b]?=some (.cells cur 3 fr)->w'.heap[b]?=w.heap[b]?):OpO w' o a1 n1 c1 a2 n2 c2 :=
 ⟨⟨h.l.i1.keep h.t1 hs hk,h.l.h1,h.l.m1,h.l.i2.keep h.t2 hs hk,h.l.h2,h.l.m2⟩,h.t1.keep hk,h.t2.keep hk⟩
end
theorem only_ints {w w':World} {g:Nat} {cs:Array Value} {T:TypeId} {fr:Nat × Nat} (hg:w.heap[g]?=some (.cells cs T fr)) (hT:T≠3) (hO:Only g w w'):∀ (b:Nat) (cur:Array Value) (fr:Nat × Nat),w.heap[b]?=some (.cells cur 3 fr)->w'.heap[b]?=w.heap[b]?:=by
 intro b cur fr' hb;refine hO.block b (fun e=>?_);rw [e,hg] at hb
 cases hb
 exact hT rfl
theorem only1 (w:World) (g o:Nat) (u:Value):Only g w (w.setCell ⟨g,o,none⟩ u):=(Only.refl _ _).setCell _ _
theorem onl6 (w:World) (g:Nat) (u0 u1 u2 u3 u4 u5:Value):Only g w ((((((w.setCell ⟨g,0,none⟩ u0).setCell ⟨g,1,none⟩ u1).setCell ⟨g,2,none⟩ u2).setCell ⟨g,3,none⟩ u3).setCell ⟨g,4,none⟩ u4).setCell ⟨g,5,none⟩ u5):=((((((Only.refl _ _).setCell _ _).setCell _ _).setCell _ _).setCell _ _).setCell _ _).setCell _ _
theorem OpBx.set2 {W:World} {g:Nat} {k0 k1:Int} {a1:Option Addr} {n1 c1:Nat} {k3 k4:Int} {a2:Option Addr} {n2 c2:Nat} (h:OpBx W g k0 k1 a1 n1 c1 k3 k4 a2 n2 c2) (a:Option Addr) (n c:Nat):OpBx (W.setCell ⟨g,2,none⟩ (.slice a n c)) g k0 k1 a n c k3 k4 a2 n2 c2:=⟨heap_setCell_same W g 2 _ _ (.slice a n c) h.row⟩
theorem OpBx.set5 {W:World} {g:Nat} {k0 k1:Int} {a1:Option Addr} {n1 c1:Nat} {k3 k4:Int} {a2:Option Addr} {n2 c2:Nat} (h:OpBx W g k0 k1 a1 n1 c1 k3 k4 a2 n2 c2) (a:Option Addr) (n c:Nat):OpBx (W.setCell ⟨g,5,none⟩ (.slice a n c)) g k0 k1 a1 n1 c1 k3 k4 a n c:=⟨heap_setCell_same W g 5 _ _ (.slice a n c) h.row⟩
theorem dt {p:Prop} [Decidable p] (h:p):decide p=true:=by simp [h]
theorem df {p:Prop} [Decidable p] (h:¬ p):decide p=false:=by simp [h]
theorem bt' {x y:Int} (h:x=y):(x == y)=true:=by simp [h]
theorem bf {x y:Int} (h:¬ x=y):(x == y)=false:=by simp [h]
theorem nt {x y:Int} (h:¬ x=y):(x != y)=true:=by simp [bne,h]
theorem nf' {x y:Int} (h:x=y):(x != y)=false:=by simp [bne,h]
theorem ext_drewN (w:World) (m:Nat):Ext w (w.drewN m):=⟨rfl,rfl,rfl,Nat.le_refl _,fun _ _=>rfl⟩
theorem fitsK_iff (k:Int) (u:Bool):fitsB k 16 u=false↔(k<0\/15<k\/(0<k/\u=false)):=by
 cases u<;>simp [fitsB,below]<;>omega
theorem fitsQ_iff (q n kd:Int) (hn:1<=n):fitsB q n (usesQ kd)=false↔(q<0\/n<=q\/(kd=1/\0<q)):=by
 by_cases h:kd=1
 ·have:usesQ kd=false:=by simp [usesQ,h]
  rw [this];simp [fitsB,h];omega
 ·have:usesQ kd=true:=by simp [usesQ,h]
  rw [this];simp [fitsB,below,h];omega
theorem usesC_iff (kd:Int):usesC kd=false↔(¬ kd=2/\¬ kd=3/\¬ kd=4):=by
 simp [usesC];omega
theorem badOp_any (o:Gop) (a1:Option Addr) (n1 c1:Nat) (a2:Option Addr) (n2 c2:Nat) (n bits:Int) (w:World) (h:OpL w o a1 n1 c1 a2 n2 c2) (hn1:1<=n) (hb0:0<=bits) (hb1:bits<=12) :
  Calls Tryz.prog 39 #[.agg #[.int .i64 o.kind,.int .i64 o.k,.slice a1 n1 c1,.int .i64 o.q,.int .i64 o.bit,.slice a2 n2 c2],.int .i64 n,.int .i64 bits] w fun e w'=>e=.returned (.int .i64 (opCode o n bits))/\Ext w w':=by
 obtain ⟨r,hr⟩:∃ r,opCode o n bits=r:=⟨_,rfl⟩;rw [hr];unfold opCode at hr;obtain ⟨kd,k,ctl,q,bt,cnd⟩:=o;have E0:=ext_al w (.cells #[.int .i64 kd,.int .i64 k,.slice a1 n1 c1,.int .i64 q,.int .i64 bt,.slice a2 n2 c2] 52);have bx:=opbx_new w kd k a1 n1 c1 q bt a2 n2 c2;have L0:=h.ext E0;have m0:=bx.x0;have m1:=bx.x1;have m2:=bx.x2;have m3:=bx.x3;have m4:=bx.x4;have m5:=bx.x5;have Hl:=Lh h.i1.1;have Hl2:=Lh h.i2.1;simp only at hr L0 Hl Hl2 ⊢;have HE0:=Lh E0;have HL0:=Lh L0;have Hbx:=Lh bx;clear h E0 L0 bx
 by_cases hk1:kd<1
 ·have hz:r=8:=by rw [<-hr,if_pos (Or.inl hk1)]
  have HF:=Lh hz;clear hr hz
  go_enter Tryz.func39,Tryz.ntmps39
  go_wp2_with fail
  go_ret
  exact ⟨congrArg (fun b=>Ending.returned (Value.int .i64 b)) HF.out.symm,HE0.out⟩
 by_cases hk6:6<kd
 ·have hz:r=8:=by rw [<-hr,if_pos (Or.inr hk6)]
  have HF:=Lh hz;have d1:=df hk1;clear hr hz hk1
  go_enter Tryz.func39,Tryz.ntmps39
  go_wp2_with fail
  go_ret
  exact ⟨congrArg (fun b=>Ending.returned (Value.int .i64 b)) HF.out.symm,HE0.out⟩
 rw [if_neg (by omega)] at hr;have d1:=df hk1;have d2:=df hk6;have Hr:=Lh hr;clear hr
 go_enter Tryz.func39,Tryz.ntmps39
 go_upto_region 3 with fail
 generalize w.alloc (.cells #[.int .i64 kd,.int .i64 k,.slice a1 n1 c1,.int .i64 q,.int .i64 bt,.slice a2 n2 c2] 52)=W0 at *
 go_cut [7] from 18 to 25 (fun s7 wx=>wx=W0/\s7=.bool (usesK kd))
 case first =>
  by_cases h1:kd=1
  ·have e1:=bt' h1
   have hu:usesK kd=true:=by simp [usesK,h1]
   have Hu:=Lh hu;clear hu h1
   go_wp2_with fail
   go_meet
   exact ⟨rfl,by rw [Hu.out]⟩
  ·have e1:=bf h1
   have hu:usesK kd=(kd == 4):=by simp [usesK,h1]
   have Hu:=Lh hu;clear hu h1
   go_wp2_with fail
   go_meet
   exact ⟨rfl,by rw [Hu.out]⟩
 case rest =>
 obtain ⟨rfl,rfl⟩:=hcut;obtain ⟨uK,huK⟩:∃ x,usesK kd=x:=⟨_,rfl⟩;rw [huK];have hr0:=Hr.out;rw [huK] at hr0;have Hr0:=Lh hr0;clear hr0 Hr huK;obtain ⟨f1,hf1⟩:∃ x,fitsB k 16 uK=x:=⟨_,rfl⟩;have hr1:=Hr0.out;rw [hf1] at hr1;have Hr1:=Lh hr1;have fi:=fitsK_iff k uK;rw [hf1] at fi;clear hr1 Hr0 hf1
 go_upto_region 4 with fail
 go_cut [42] from 26 to 42 (fun s42 wx=>wx=wc/\s42=.bool (!f1))
 case first =>
  have Fi:=Lh fi;clear fi
  by_cases x1:k<0
  ·have y1:=dt x1
   have hz:f1=false:=Fi.out.2 (Or.inl x1);have HF:=Lh hz;clear hz
   go_wp2_with fail
   go_meet
   exact ⟨rfl,by rw [HF.out];rfl⟩
  have y1:=df x1
  by_cases x2:15<k
  ·have y2:=dt x2
   have hz:f1=false:=Fi.out.2 (Or.inr (Or.inl x2));have HF:=Lh hz;clear hz
   go_wp2_with fail
   go_meet
   exact ⟨rfl,by rw [HF.out];rfl⟩
  have y2:=df x2
  by_cases x3:0<k
  ·have y3:=dt x3
   have hz:(!f1)=!uK:=by
    cases uK
    ·rw [Fi.out.2 (Or.inr (Or.inr ⟨x3,rfl⟩))]
    ·cases f1
     ·exact absurd (Fi.out.1 rfl) (by rintro (h | h | ⟨_,h⟩)<;>first | omega | cases h)
     ·rfl
   have HF:=Lh hz;clear hz
   go_wp2_with fail
   go_meet
   exact ⟨rfl,by rw [HF.out]⟩
  ·have y3:=df x3
   have hz:f1=true:=by
    cases f1
    ·exact absurd (Fi.out.1 rfl) (by rintro (h | h | ⟨h,_⟩)<;>omega)
    ·rfl
   have HF:=Lh hz;clear hz
   go_wp2_with fail
   go_meet
   exact ⟨rfl,by rw [HF.out];rfl⟩
 case rest =>
 obtain ⟨rfl,rfl⟩:=hcut;clear fi
 cases f1
 ·have HF:Hid (r=9):=by show r=9;rw [<-Hr1.out];simp
  clear Hr1
  go_wp2_with fail
  go_ret
  exact ⟨congrArg (fun b=>Ending.returned (Value.int .i64 b)) HF.out.symm,HE0.out⟩
 have hr2:=Hr1.out;rw [if_neg (by decide)] at hr2;obtain ⟨f2,hf2⟩:∃ x,fitsB q n (usesQ kd)=x:=⟨_,rfl⟩;have fi:=fitsQ_iff q n kd hn1;rw [hf2] at fi hr2;have Hr2:=Lh hr2;clear hr2 Hr1 hf2
 go_upto_region 6 with fail
 go_cut [61] from 43 to 61 (fun s61 wx=>wx=wc/\s61=.bool (!f2))
 case first =>
  have Fi:=Lh fi;clear fi
  by_cases x1:q<0
  ·have y1:=dt x1
   have hz:f2=false:=Fi.out.2 (Or.inl x1);have HF:=Lh hz;clear hz
   go_wp2_with fail
   go_meet
   exact ⟨rfl,by rw [HF.out];rfl⟩
  have y1:=df x1
  by_cases x2:n<=q
  ·have y2:=dt x2
   have hz:f2=false:=Fi.out.2 (Or.inr (Or.inl x2));have HF:=Lh hz;clear hz
   go_wp2_with fail
   go_meet
   exact ⟨rfl,by rw [HF.out];rfl⟩
  have y2:=df x2
  by_cases x3:kd=1
  ·have y3:=bt' x3
   have hz:(!f2)=decide (0<q):=by
    by_cases x4:0<q
    ·rw [Fi.out.2 (Or.inr (Or.inr ⟨x3,x4⟩)),dt x4];rfl
    ·rw [df x4]
     cases f2
     ·exact absurd (Fi.out.1 rfl) (by rintro (h | h | ⟨_,h⟩)<;>omega)
     ·rfl
   have HF:=Lh hz;clear hz x3
   go_wp2_with fail
   go_meet
   exact ⟨rfl,by rw [HF.out]⟩
  ·have y3:=bf x3
   have hz:f2=true:=by
    cases f2
    ·exact absurd (Fi.out.1 rfl) (by rintro (h | h | ⟨h,_⟩)<;>first | omega | exact x3 h)
    ·rfl
   have HF:=Lh hz;clear hz x3
   go_wp2_with fail
   go_meet
   exact ⟨rfl,by rw [HF.out];rfl⟩
 case rest =>
 obtain ⟨rfl,rfl⟩:=hcut;clear fi
 cases f2
 ·have HF:Hid (r=10):=by show r=10;rw [<-Hr2.out];simp
  clear Hr2
  go_wp2_with fail
  go_ret
  exact ⟨congrArg (fun b=>Ending.returned (Value.int .i64 b)) HF.out.symm,HE0.out⟩
 have hr3:=Hr2.out;rw [if_neg (by decide),Hl.out] at hr3;have Hr3:=Lh hr3;clear hr3 Hr2;obtain ⟨f3,hf3⟩:∃ x,decide (0<n1/\usesC kd=false)=x:=⟨_,rfl⟩
 go_upto_region 8 with fail
 go_cut [80] from 62 to 80 (fun s80 wx=>wx=wc/\s80=.bool f3)
 case first =>
  have Hf3:=Lh hf3;have Hc:=Lh (usesC_iff kd);clear hf3
  by_cases x1:0<n1
  ·have x1':(0:Int)<(n1:Int):=by omega
   have y1:=dt x1'
   by_cases x2:kd=2
   ·have y2:=nf' x2
    have hz:f3=false:=by rw [<-Hf3.out];exact df (fun h=>(Hc.out.1 h.2).1 x2)
    have HF:=Lh hz;clear hz x2
    go_wp2_with fail
    go_meet
    exact ⟨rfl,by rw [HF.out]⟩
   have y2:=nt x2
   by_cases x3:kd=3
   ·have y3:=nf' x3
    have hz:f3=false:=by rw [<-Hf3.out];exact df (fun h=>(Hc.out.1 h.2).2.1 x3)
    have HF:=Lh hz;clear hz x3
    go_wp2_with fail
    go_meet
    exact ⟨rfl,by rw [HF.out]⟩
   have y3:=nt x3
   have hz:f3=(kd != 4):=by
    rw [<-Hf3.out]
    by_cases x4:kd=4
    ·rw [nf' x4];exact df (fun h=>(Hc.out.1 h.2).2.2 x4)
    ·rw [nt x4];exact dt ⟨x1,Hc.out.2 ⟨x2,x3,x4⟩⟩
   have HF:=Lh hz;clear hz
   go_wp2_with fail
   go_meet
   exact ⟨rfl,by rw [HF.out]⟩
  ·have x1':¬ (0:Int)<(n1:Int):=by omega
   have y1:=df x1'
   have hz:f3=false:=by rw [<-Hf3.out];exact df (fun h=>x1 h.1)
   have HF:=Lh hz;clear hz
   go_wp2_with fail
   go_meet
   exact ⟨rfl,by rw [HF.out]⟩
 case rest =>
 obtain ⟨rfl,rfl⟩:=hcut
 cases f3
 case true =>
  have HF:Hid (r=11):=by show r=11;rw [<-Hr3.out,if_pos (of_decide_eq_true hf3)]
  clear Hr3 hf3
  go_wp2_with fail
  go_ret
  exact ⟨congrArg (fun b=>Ending.returned (Value.int .i64 b)) HF.out.symm,HE0.out⟩
 have hr4:=Hr3.out;rw [if_neg (of_decide_eq_false hf3)] at hr4;have Hr4:=Lh hr4;clear hr4 Hr3 hf3;obtain ⟨cc,hcc⟩:∃ x,ctlCode q n [] ctl=x:=⟨_,rfl⟩;have hr5:=Hr4.out;rw [hcc] at hr5;have Hr5:=Lh hr5;have Hcc:=Lh hcc;clear Hr4 hr5 hcc
 have hab:n1=0\/∃ b o,a1=some ⟨b,o,none⟩:=by
  rcases HL0.out.i1.2 with h0 | ⟨b,o,e,_,hc⟩
  ·exact Or.inl h0
  ·exact Or.inr ⟨b,o,e⟩
 have hnc:=HL0.out.h1;have hcm:=HL0.out.m1
 go_wp2_with fail
 go_loopg [8] n1 (fun kk s8 wr=>Ext wc wr/\∃ i:Nat,s8=.int .i64 (i:Int)/\i<=n1/\n1-i=kk/\cc=ctlCode q n (ctl.take i) (ctl.drop i))
 case atStart=>exact ⟨Ext.refl _,0,rfl,by omega,by omega,Hcc.out.symm⟩
 case round =>
  obtain ⟨hER,i,rfl,hi,hk,hri⟩:=hrel;have HER:=Lh hER;have v0:=cell_ext m0 hER;have v1:=cell_ext m1 hER;have v2:=cell_ext m2 hER;have v3:=cell_ext m3 hER;have v4:=cell_ext m4 hER;have v5:=cell_ext m5 hER;clear m0 m1 m2 m3 m4 m5 hER
  by_cases hin:i=n1
  ·have h2:¬ (i:Int)<(n1:Int):=by omega
   have hz:cc=0:=by rw [hri];exact ctlCode_end q n ctl i (by rw [Hl.out];omega)
   have hr6:=Hr5.out;rw [if_neg (by simp [hz])] at hr6;have Hr6:=Lh hr6;clear hri hz hr6 Hr5
   by_cases k5:kd=5
   ·have e5:=bt' k5
    have hu:fitsB bt bits (usesB kd)=below bt bits:=by simp [fitsB,usesB,k5]
    have hr7:=Hr6.out;rw [hu] at hr7;have Hr6':=Lh hr7;clear hr7 hu k5 Hr6
    by_cases b1:bt<0
    ·have c1':=dt b1
     have HF:Hid (r=13):=by show r=13;rw [<-Hr6'.out,if_pos (by simp [below];omega)]
     clear Hr6'
     go_wp2_with fail
     go_ret
     exact ⟨congrArg (fun b=>Ending.returned (Value.int .i64 b)) HF.out.symm,HE0.out.trans HER.out⟩
    have c1':=df b1
    by_cases b2:bits<=bt
    ·have c2':=dt b2
     have HF:Hid (r=13):=by show r=13;rw [<-Hr6'.out,if_pos (by simp [below];omega)]
     clear Hr6'
     go_wp2_with fail
     go_ret
     exact ⟨congrArg (fun b=>Ending.returned (Value.int .i64 b)) HF.out.symm,HE0.out.trans HER.out⟩
    have c2':=df b2;have hr7:=Hr6'.out;rw [if_neg (by simp [below];omega)] at hr7;have Hr7:=Lh hr7;clear hr7 Hr6'
    by_cases hn24:24<n2
    ·have j24:(24:Int)<(n2:Int):=by omega
     have hc:cndOk bits cnd=false:=by unfold cndOk;rw [Hl2.out];simp;omega
     have HF:Hid (r=14):=by show r=14;rw [<-Hr7.out,if_pos hc]
     clear hc Hr7
     go_wp2_with fail
     go_ret
     exact ⟨congrArg (fun b=>Ending.returned (Value.int .i64 b)) HF.out.symm,HE0.out.trans HER.out⟩
    have j24:¬ (24:Int)<(n2:Int):=by omega
    have hall:cndOk bits cnd=cnd.all (termOk bits):=by
     unfold cndOk
     have:decide (cnd.length<=24)=true:=by rw [Hl2.out];simp;omega
     rw [this,Bool.true_and]
    obtain ⟨ok,hok⟩:∃ x,cndOk bits cnd=x:=⟨_,rfl⟩;have hr8:=Hr7.out;rw [hok] at hr8;have Hr8:=Lh hr8
    have Hall:Hid (ok=cnd.all (termOk bits)):=by show ok=_;rw [<-hok,hall]
    have hab2:n2=0\/∃ b o,a2=some ⟨b,o,none⟩/\∀ t,t<n2->wr.cell? ⟨b,o+t,none⟩=some (.int .i64 (cnd.getD t 0)):=by
     rcases (HL0.out.i2.ext HER.out).2 with h0 | ⟨b,o,e,_,hc⟩
     ·exact Or.inl h0
     ·exact Or.inr ⟨b,o,e,hc⟩
    have hwb:IntKind.i64.wrap (-bits)=-bits:=by rw [IntKind.wrap_i64];omega
    clear hall hok hr8 Hr7 hn24
    go_wp2_with fail
    go_loopg [9] n2 (fun kk s9 wq=>wq=wr/\∃ i:Nat,s9=.int .i64 (i:Int)/\i<=n2/\n2-i=kk/\ok=(cnd.drop i).all (termOk bits))
    case atStart=>exact ⟨rfl,0,rfl,by omega,by omega,Hall.out⟩
    case round =>
     obtain ⟨rfl,i2,rfl,hi2,hkk2,hri⟩:=hrel
     by_cases hin2:i2=n2
     ·have h2':¬ (i2:Int)<(n2:Int):=by omega
      have ht:ok=true:=by rw [hri,List.drop_eq_nil_of_le (by rw [Hl2.out];omega)];rfl
      have HF:Hid (r=0):=by show r=0;rw [<-Hr8.out,ht];simp
      clear hri ht Hr8
      go_wp2_with fail
      go_ret
      exact ⟨congrArg (fun b=>Ending.returned (Value.int .i64 b)) HF.out.symm,HE0.out.trans HER.out⟩
     ·have h2':(i2:Int)<(n2:Int):=by omega
      have h0':(0:Int)<=(i2:Int):=by omega
      rcases hab2 with h | ⟨b2,o2,rfl,hcell⟩
      ·omega
      have hci:=hcell i2 (by omega);obtain ⟨y,hy⟩:∃ y,cnd.getD i2 0=y:=⟨_,rfl⟩;rw [hy] at hci;have hst:=all_step (termOk bits) cnd i2 (by rw [Hl2.out];omega);rw [hy,<-hri] at hst;have Hst:=Lh hst;have Hcell:=Lh hcell;clear hcell hy hri hst
      by_cases y0:y=0
      ·have e0:=bt' y0
       have ht:termOk bits y=false:=by simp [termOk,y0]
       have hf:ok=false:=by rw [Hst.out,ht];rfl
       have HF:Hid (r=14):=by show r=14;rw [<-Hr8.out,if_pos hf]
       clear hf ht Hst Hr8 y0
       go_wp2_with fail
       go_ret
       exact ⟨congrArg (fun b=>Ending.returned (Value.int .i64 b)) HF.out.symm,HE0.out.trans HER.out⟩
      have e0:=bf y0
      by_cases y2:bits<y
      ·have e2:=dt y2
       have ht:termOk bits y=false:=by unfold termOk;simp;omega
       have hf:ok=false:=by rw [Hst.out,ht];rfl
       have HF:Hid (r=14):=by show r=14;rw [<-Hr8.out,if_pos hf]
       clear hf ht Hst Hr8 y0
       go_wp2_with fail
       go_ret
       exact ⟨congrArg (fun b=>Ending.returned (Value.int .i64 b)) HF.out.symm,HE0.out.trans HER.out⟩
      have e2:=df y2
      by_cases y1:y < -bits
      ·have e1:=dt y1
       have ht:termOk bits y=false:=by unfold termOk;simp;omega
       have hf:ok=false:=by rw [Hst.out,ht];rfl
       have HF:Hid (r=14):=by show r=14;rw [<-Hr8.out,if_pos hf]
       clear hf ht Hst Hr8 y0
       go_wp2_with fail
       go_ret
       exact ⟨congrArg (fun b=>Ending.returned (Value.int .i64 b)) HF.out.symm,HE0.out.trans HER.out⟩
      have e1:=df y1
      have ht:termOk bits y=true:=by unfold termOk;simp;omega
      have hst':ok=(cnd.drop (i2+1)).all (termOk bits):=by rw [Hst.out,ht];rfl
      have Hst':=Lh hst';clear ht hst' Hst y0
      go_wp2_with fail
      go_roundg (n2-(i2+1))
      case measure=>omega
      case rel=>exact ⟨rfl,i2+1,by go_num,by omega,rfl,Hst'.out⟩
   ·have e5:=bf k5
    have hu:fitsB bt bits (usesB kd)=(bt == 0):=by simp [fitsB,usesB,k5]
    have hr7:=Hr6.out;rw [hu] at hr7;have Hr6':=Lh hr7;clear hr7 hu k5 Hr6
    by_cases b1:bt=0
    ·have c1':=nf' b1
     have hr7:=Hr6'.out;rw [if_neg (by simp [b1])] at hr7;have Hr7:=Lh hr7;clear hr7 Hr6' b1
     by_cases hn24:24<n2
     ·have j24:(24:Int)<(n2:Int):=by omega
      have hc:cndOk bits cnd=false:=by unfold cndOk;rw [Hl2.out];simp;omega
      have HF:Hid (r=14):=by show r=14;rw [<-Hr7.out,if_pos hc]
      clear hc Hr7
      go_wp2_with fail
      go_ret
      exact ⟨congrArg (fun b=>Ending.returned (Value.int .i64 b)) HF.out.symm,HE0.out.trans HER.out⟩
     have j24:¬ (24:Int)<(n2:Int):=by omega
     have hall:cndOk bits cnd=cnd.all (termOk bits):=by
      unfold cndOk
      have:decide (cnd.length<=24)=true:=by rw [Hl2.out];simp;omega
      rw [this,Bool.true_and]
     obtain ⟨ok,hok⟩:∃ x,cndOk bits cnd=x:=⟨_,rfl⟩;have hr8:=Hr7.out;rw [hok] at hr8;have Hr8:=Lh hr8
     have Hall:Hid (ok=cnd.all (termOk bits)):=by show ok=_;rw [<-hok,hall]
     have hab2:n2=0\/∃ b o,a2=some ⟨b,o,none⟩/\∀ t,t<n2->wr.cell? ⟨b,o+t,none⟩=some (.int .i64 (cnd.getD t 0)):=by
      rcases (HL0.out.i2.ext HER.out).2 with h0 | ⟨b,o,e,_,hc⟩
      ·exact Or.inl h0
      ·exact Or.inr ⟨b,o,e,hc⟩
     have hwb:IntKind.i64.wrap (-bits)=-bits:=by rw [IntKind.wrap_i64];omega
     clear hall hok hr8 Hr7 hn24
     go_wp2_with fail
     go_loopg [9] n2 (fun kk s9 wq=>wq=wr/\∃ i:Nat,s9=.int .i64 (i:Int)/\i<=n2/\n2-i=kk/\ok=(cnd.drop i).all (termOk bits))
     case atStart=>exact ⟨rfl,0,rfl,by omega,by omega,Hall.out⟩
     case round =>
      obtain ⟨rfl,i2,rfl,hi2,hkk2,hri⟩:=hrel
      by_cases hin2:i2=n2
      ·have h2':¬ (i2:Int)<(n2:Int):=by omega
       have ht:ok=true:=by rw [hri,List.drop_eq_nil_of_le (by rw [Hl2.out];omega)];rfl
       have HF:Hid (r=0):=by show r=0;rw [<-Hr8.out,ht];simp
       clear hri ht Hr8
       go_wp2_with fail
       go_ret
       exact ⟨congrArg (fun b=>Ending.returned (Value.int .i64 b)) HF.out.symm,HE0.out.trans HER.out⟩
      ·have h2':(i2:Int)<(n2:Int):=by omega
       have h0':(0:Int)<=(i2:Int):=by omega
       rcases hab2 with h | ⟨b2,o2,rfl,hcell⟩
       ·omega
       have hci:=hcell i2 (by omega);obtain ⟨y,hy⟩:∃ y,cnd.getD i2 0=y:=⟨_,rfl⟩;rw [hy] at hci;have hst:=all_step (termOk bits) cnd i2 (by rw [Hl2.out];omega);rw [hy,<-hri] at hst;have Hst:=Lh hst;have Hcell:=Lh hcell;clear hcell hy hri hst
       by_cases y0:y=0
       ·have e0:=bt' y0
        have ht:termOk bits y=false:=by simp [termOk,y0]
        have hf:ok=false:=by rw [Hst.out,ht];rfl
        have HF:Hid (r=14):=by show r=14;rw [<-Hr8.out,if_pos hf]
        clear hf ht Hst Hr8 y0
        go_wp2_with fail
        go_ret
        exact ⟨congrArg (fun b=>Ending.returned (Value.int .i64 b)) HF.out.symm,HE0.out.trans HER.out⟩
       have e0:=bf y0
       by_cases y2:bits<y
       ·have e2:=dt y2
        have ht:termOk bits y=false:=by unfold termOk;simp;omega
        have hf:ok=false:=by rw [Hst.out,ht];rfl
        have HF:Hid (r=14):=by show r=14;rw [<-Hr8.out,if_pos hf]
        clear hf ht Hst Hr8 y0
        go_wp2_with fail
        go_ret
        exact ⟨congrArg (fun b=>Ending.returned (Value.int .i64 b)) HF.out.symm,HE0.out.trans HER.out⟩
       have e2:=df y2
       by_cases y1:y < -bits
       ·have e1:=dt y1
        have ht:termOk bits y=false:=by unfold termOk;simp;omega
        have hf:ok=false:=by rw [Hst.out,ht];rfl
        have HF:Hid (r=14):=by show r=14;rw [<-Hr8.out,if_pos hf]
        clear hf ht Hst Hr8 y0
        go_wp2_with fail
        go_ret
        exact ⟨congrArg (fun b=>Ending.returned (Value.int .i64 b)) HF.out.symm,HE0.out.trans HER.out⟩
       have e1:=df y1
       have ht:termOk bits y=true:=by unfold termOk;simp;omega
       have hst':ok=(cnd.drop (i2+1)).all (termOk bits):=by rw [Hst.out,ht];rfl
       have Hst':=Lh hst';clear ht hst' Hst y0
       go_wp2_with fail
       go_roundg (n2-(i2+1))
       case measure=>omega
       case rel=>exact ⟨rfl,i2+1,by go_num,by omega,rfl,Hst'.out⟩
    ·have c1':=nt b1
     have HF:Hid (r=13):=by show r=13;rw [<-Hr6'.out,if_pos (by simp [b1])]
     clear Hr6' b1
     go_wp2_with fail
     go_ret
     exact ⟨congrArg (fun b=>Ending.returned (Value.int .i64 b)) HF.out.symm,HE0.out.trans HER.out⟩
  ·have h2:(i:Int)<(n1:Int):=by omega
   have h0:(0:Int)<=(i:Int):=by omega
   have hic:(i:Int)<=(c1:Int):=by omega
   rcases hab with h | ⟨b,o,rfl⟩
   ·omega
   have HIr:=Lh (HL0.out.i1.ext HER.out);obtain ⟨b',o',e,_,hcell⟩:=HIr.out.at (by omega)
   cases e
   have hci:=hcell i (by omega);obtain ⟨y,hy⟩:∃ y,ctl.getD i 0=y:=⟨_,rfl⟩;rw [hy] at hci;have hst:=ctlCode_step q n ctl i (by rw [Hl.out];omega);rw [<-hri,hy] at hst;have Hst:=Lh hst;have HC:=Lh (fun m=>member_any (some ⟨b,o,none⟩) i c1 (ctl.take i) y (wr.drewN m) ((HIr.out.take i (by omega)).ext (ext_drewN wr m)) (by omega) hcm)
   have HrC:Hid (¬ cc=0->r=cc):=fun h=>by rw [<-Hr5.out,if_pos h]
   clear hcell hy hri hst Hr5
   by_cases y1:y<0
   ·have z1:=dt y1
    have hb:below y n=false:=by simp [below];omega
    have hz:cc=10:=by rw [Hst.out,if_pos hb]
    have HF:Hid (r=10):=by show r=10;rw [HrC.out (by omega),hz]
    clear hz hb Hst
    go_wp2_with fail
    go_ret
    exact ⟨congrArg (fun b=>Ending.returned (Value.int .i64 b)) HF.out.symm,HE0.out.trans HER.out⟩
   have z1:=df y1
   by_cases y2:n<=y
   ·have z2:=dt y2
    have hb:below y n=false:=by simp [below];omega
    have hz:cc=10:=by rw [Hst.out,if_pos hb]
    have HF:Hid (r=10):=by show r=10;rw [HrC.out (by omega),hz]
    clear hz hb Hst
    go_wp2_with fail
    go_ret
    exact ⟨congrArg (fun b=>Ending.returned (Value.int .i64 b)) HF.out.symm,HE0.out.trans HER.out⟩
   have z2:=df y2
   have hb:¬ below y n=false:=by simp [below];omega
   have hst1:cc=if y=q\/y ∈ ctl.take i then 12 else ctlCode q n (ctl.take (i+1)) (ctl.drop (i+1)):=by rw [Hst.out,if_neg hb]
   have Hst1:=Lh hst1;clear hst1 hb Hst
   by_cases hyq:y=q
   ·have hbq:=bt' hyq
    have hz:cc=12:=by rw [Hst1.out,if_pos (Or.inl hyq)]
    have HF:Hid (r=12):=by show r=12;rw [HrC.out (by omega),hz]
    clear hz hyq Hst1
    go_wp2_with fail
    go_quiet (fail)
    go_wp2_with fail
    go_ret
    exact ⟨congrArg (fun b=>Ending.returned (Value.int .i64 b)) HF.out.symm,HE0.out.trans (HER.out.trans (ext_drewN wr _))⟩
   ·have hbq:=bf hyq
    have Hyq:=Lh hyq;obtain ⟨bm,hbm⟩:∃ x,decide (y ∈ ctl.take i)=x:=⟨_,rfl⟩;rw [hbm] at HC;clear hyq
    cases bm
    ·have hz:cc=ctlCode q n (ctl.take (i+1)) (ctl.drop (i+1)):=by rw [Hst1.out,if_neg (fun h=>h.elim Hyq.out (of_decide_eq_false hbm))]
     have HF:=Lh hz;clear hz hbm Hst1
     go_wp2_with fail
     go_quiet ((go_at_call 81;refine Calls.quiet_of_same (HC.out _)))
     go_wp2_with fail
     go_roundg (n1-(i+1))
     case measure=>omega
     case rel=>exact ⟨HER.out.trans (ext_drewN wr _),i+1,by go_num,by omega,rfl,HF.out⟩
    ·have hz:cc=12:=by rw [Hst1.out,if_pos (Or.inr (of_decide_eq_true hbm))]
     have HF:Hid (r=12):=by show r=12;rw [HrC.out (by omega),hz]
     clear hz hbm Hst1
     go_wp2_with fail
     go_quiet ((go_at_call 81;refine Calls.quiet_of_same (HC.out _)))
     go_wp2_with fail
     go_ret
     exact ⟨congrArg (fun b=>Ending.returned (Value.int .i64 b)) HF.out.symm,HE0.out.trans (HER.out.trans (ext_drewN wr _))⟩
def bitOf (t:Int):Int:=if 0<t then t-1 else -t-1
def tchQ (kd q:Int):List Int:=if kd=1 then [] else [q]
def tchB (z kd bt:Int):List Int:=if kd=5 then [z+bt] else []
def tchC (z:Int) (l:List Int):List Int:=l.map fun t=>z+bitOf t
def wordOf:Nat->ByteArray
 | 1=>⟨#[112,104,97,115,101]⟩
 | 2=>⟨#[120]⟩
 | 3=>⟨#[104]⟩
 | 4=>⟨#[112]⟩
 | 5=>⟨#[109,101,97,115,117,114,101]⟩
 | 6=>⟨#[114,101,115,101,116]⟩
 | _=>⟨#[]⟩
def Shp (w:World):Prop:=∀ k:Nat,1<=k->k<=6 ->
 w.cell? ⟨0,k*5,none⟩=some (.string (wordOf k))/\w.cell? ⟨0,k*5+1,none⟩=some (.bool (usesK k))/\w.cell? ⟨0,k*5+2,none⟩=some (.bool (usesQ k))/\w.cell? ⟨0,k*5+3,none⟩=some (.bool (usesC k))/\w.cell? ⟨0,k*5+4,none⟩=some (.bool (usesB k))
theorem Shp.ext {w w':World} (h:Shp w) (k:Ext w w'):Shp w':=fun n h1 h2=>by
 obtain ⟨e0,e1,e2,e3,e4⟩:=h n h1 h2;exact ⟨cell_ext e0 k,cell_ext e1 k,cell_ext e2 k,cell_ext e3 k,cell_ext e4 k⟩
theorem checkOp_any (o:Gop) (a1:Option Addr) (n1 c1:Nat) (a2:Option Addr) (n2 c2:Nat) (n bits:Int) (w:World) (h:OpL w o a1 n1 c1 a2 n2 c2) (hb0:0<=bits) (hb1:bits<=12) (hS:Shp w) :
  Calls Tryz.prog 120 #[.agg #[.int .i64 o.kind,.int .i64 o.k,.slice a1 n1 c1,.int .i64 o.q,.int .i64 o.bit,.slice a2 n2 c2],.int .i64 n,.int .i64 bits] w fun e w'=>e=.returned (.int .i64 (opCode o n bits))/\Ext w w':=by
 obtain ⟨r,hr⟩:∃ r,opCode o n bits=r:=⟨_,rfl⟩;rw [hr];unfold opCode at hr;obtain ⟨kd,k,ctl,q,bt,cnd⟩:=o;have E0:=ext_al w (.cells #[.int .i64 kd,.int .i64 k,.slice a1 n1 c1,.int .i64 q,.int .i64 bt,.slice a2 n2 c2] 52);have bx:=opbx_new w kd k a1 n1 c1 q bt a2 n2 c2;have L0:=h.ext E0;have S0:=hS.ext E0;have m0:=bx.x0;have m1:=bx.x1;have m2:=bx.x2;have m3:=bx.x3;have m4:=bx.x4;have m5:=bx.x5;have lb:=bx.lt;have Hl:=h.i1.1;simp only at hr L0 Hl ⊢;have HE0:=Lh E0;have HL0:=Lh L0;have HS0:=Lh S0;clear h hS E0 L0 S0
 by_cases hk1:kd<1
 ·have hz:r=8:=by rw [<-hr,if_pos (Or.inl hk1)]
  have HF:=Lh hz;clear hr hz bx
  go_enter Tryz.func120,Tryz.ntmps120
  go_wp2_with fail
  go_ret
  exact ⟨congrArg (fun b=>Ending.returned (Value.int .i64 b)) HF.out.symm,HE0.out⟩
 by_cases hk6:6<kd
 ·have hz:r=8:=by rw [<-hr,if_pos (Or.inr hk6)]
  have HF:=Lh hz
  have d1:decide (kd<1)=false:=by simp;omega
  clear hr hz hk1 bx
  go_enter Tryz.func120,Tryz.ntmps120
  go_wp2_with fail
  go_ret
  exact ⟨congrArg (fun b=>Ending.returned (Value.int .i64 b)) HF.out.symm,HE0.out⟩
 rw [if_neg (by omega)] at hr;obtain ⟨kn,rfl⟩:∃ kn:Nat,kd=(kn:Int):=⟨kd.toNat,by omega⟩
 have d1:decide ((kn:Int)<1)=false:=by simp;omega
 have d2:decide ((6:Int)<(kn:Int))=false:=by simp;omega
 have i0:(0:Int)<=(kn:Int):=by omega
 have i1:(kn:Int)<7:=by omega
 obtain ⟨t0,t1,t2,t3,t4⟩:=HS0.out kn (by omega) (by omega);obtain ⟨uK,huK⟩:∃ x,usesK (kn:Int)=x:=⟨_,rfl⟩;obtain ⟨uQ,huQ⟩:∃ x,usesQ (kn:Int)=x:=⟨_,rfl⟩;obtain ⟨uC,huC⟩:∃ x,usesC (kn:Int)=x:=⟨_,rfl⟩;obtain ⟨uB,huB⟩:∃ x,usesB (kn:Int)=x:=⟨_,rfl⟩;obtain ⟨wd,hwd⟩:∃ x,wordOf kn=x:=⟨_,rfl⟩;rw [huK] at t1 hr;rw [huQ] at t2 hr;rw [huC] at t3 hr;rw [huB] at t4 hr;rw [hwd] at t0;clear huK huQ huC huB hwd hk1 hk6 bx;have HF1:=Lh (fun wx=>fits_any k 16 uK wx);have HF2:=Lh (fun wx=>fits_any q n uQ wx);have HF3:=Lh (fun wx=>fits_any bt bits uB wx);obtain ⟨f1,hf1⟩:∃ x,fitsB k 16 uK=x:=⟨_,rfl⟩;obtain ⟨f2,hf2⟩:∃ x,fitsB q n uQ=x:=⟨_,rfl⟩;obtain ⟨f3,hf3⟩:∃ x,fitsB bt bits uB=x:=⟨_,rfl⟩;rw [hf1] at HF1 hr;rw [hf2] at HF2 hr;rw [hf3] at HF3 hr;clear hf1 hf2 hf3;have E1:=ext_al (w.alloc (.cells #[.int .i64 (kn:Int),.int .i64 k,.slice a1 n1 c1,.int .i64 q,.int .i64 bt,.slice a2 n2 c2] 52)) (.cells #[.string wd,.bool uK,.bool uQ,.bool uC,.bool uB] 191)
 have ub:((w.alloc (.cells #[.int .i64 (kn:Int),.int .i64 k,.slice a1 n1 c1,.int .i64 q,.int .i64 bt,.slice a2 n2 c2] 52)).alloc (.cells #[.string wd,.bool uK,.bool uQ,.bool uC,.bool uB] 191)).heap[w.heap.size+1]?=some (.cells #[.string wd,.bool uK,.bool uQ,.bool uC,.bool uB] 191 (0,0)):=by
  have:=heap_alloc_new (w.alloc (.cells #[.int .i64 (kn:Int),.int .i64 k,.slice a1 n1 c1,.int .i64 q,.int .i64 bt,.slice a2 n2 c2] 52)) (.cells #[.string wd,.bool uK,.bool uQ,.bool uC,.bool uB] 191)
  simpa using this
 have u1:((w.alloc (.cells #[.int .i64 (kn:Int),.int .i64 k,.slice a1 n1 c1,.int .i64 q,.int .i64 bt,.slice a2 n2 c2] 52)).alloc (.cells #[.string wd,.bool uK,.bool uQ,.bool uC,.bool uB] 191)).cell? ⟨w.heap.size+1,1,none⟩=some (.bool uK):=by rw [cell_of_row _ _ 1 _ _ (0,0) ub];rfl
 have u2:((w.alloc (.cells #[.int .i64 (kn:Int),.int .i64 k,.slice a1 n1 c1,.int .i64 q,.int .i64 bt,.slice a2 n2 c2] 52)).alloc (.cells #[.string wd,.bool uK,.bool uQ,.bool uC,.bool uB] 191)).cell? ⟨w.heap.size+1,2,none⟩=some (.bool uQ):=by rw [cell_of_row _ _ 2 _ _ (0,0) ub];rfl
 have u3:((w.alloc (.cells #[.int .i64 (kn:Int),.int .i64 k,.slice a1 n1 c1,.int .i64 q,.int .i64 bt,.slice a2 n2 c2] 52)).alloc (.cells #[.string wd,.bool uK,.bool uQ,.bool uC,.bool uB] 191)).cell? ⟨w.heap.size+1,3,none⟩=some (.bool uC):=by rw [cell_of_row _ _ 3 _ _ (0,0) ub];rfl
 have u4:((w.alloc (.cells #[.int .i64 (kn:Int),.int .i64 k,.slice a1 n1 c1,.int .i64 q,.int .i64 bt,.slice a2 n2 c2] 52)).alloc (.cells #[.string wd,.bool uK,.bool uQ,.bool uC,.bool uB] 191)).cell? ⟨w.heap.size+1,4,none⟩=some (.bool uB):=by rw [cell_of_row _ _ 4 _ _ (0,0) ub];rfl
 have HE1:=Lh (HE0.out.trans E1);have HL1:=Lh (HL0.out.ext E1);have v0:=cell_ext m0 E1;have v1:=cell_ext m1 E1;have v2:=cell_ext m2 E1;have v3:=cell_ext m3 E1;have v4:=cell_ext m4 E1;have v5:=cell_ext m5 E1;have Hr:=Lh hr;have Hl':=Lh Hl;clear ub E1 hr Hl
 go_enter Tryz.func120,Tryz.ntmps120
 go_wp2_with fail
 generalize (w.alloc (.cells #[.int .i64 (kn:Int),.int .i64 k,.slice a1 n1 c1,.int .i64 q,.int .i64 bt,.slice a2 n2 c2] 52)).alloc (.cells #[.string wd,.bool uK,.bool uQ,.bool uC,.bool uB] 191)=W1 at *;clear m0 m1 m2 m3 m4 m5 t0 t1 t2 t3 t4 HE0 HL0 HS0 d1 d2;refine (HF1.out _).mono ?_;rintro e wz ⟨rfl,rfl⟩
 cases f1
 ·have HF:Hid (r=9):=by show r=9;rw [<-Hr.out];simp
  clear Hr
  go_wp2_with fail
  go_ret
  exact ⟨congrArg (fun b=>Ending.returned (Value.int .i64 b)) HF.out.symm,HE1.out⟩
 have hr1:=Hr.out;rw [if_neg (by decide)] at hr1;have Hr1:=Lh hr1;clear Hr hr1
 go_wp2_with fail
 refine (HF2.out _).mono ?_;rintro e wz ⟨rfl,rfl⟩
 cases f2
 ·have HF:Hid (r=10):=by show r=10;rw [<-Hr1.out];simp
  clear Hr1
  go_wp2_with fail
  go_ret
  exact ⟨congrArg (fun b=>Ending.returned (Value.int .i64 b)) HF.out.symm,HE1.out⟩
 have hr2:=Hr1.out;rw [if_neg (by decide)] at hr2;have HCC:=Lh (checkControls_any (kn:Int) k a1 n1 c1 q bt a2 n2 c2 ctl n wz HL1.out.i1 HL1.out.h1 HL1.out.m1);obtain ⟨cc,hcc⟩:∃ x,ctlCode q n [] ctl=x:=⟨_,rfl⟩;rw [hcc] at HCC hr2;have Hr2:=Lh hr2;clear Hr1 hr2 hcc
 by_cases hn0:0<n1/\uC=false
 ·have HF:Hid (r=11):=by show r=11;rw [<-Hr2.out,if_pos ⟨by rw [Hl'.out];exact hn0.1,hn0.2⟩]
  have j0:(0:Int)<(n1:Int):=by omega
  obtain ⟨_,rfl⟩:=hn0;clear Hr2
  go_wp2_with fail
  go_ret
  exact ⟨congrArg (fun b=>Ending.returned (Value.int .i64 b)) HF.out.symm,HE1.out⟩
 have hr3:=Hr2.out;rw [if_neg (by rw [Hl'.out];exact hn0)] at hr3;have Hr3:=Lh hr3
 have HOK:(decide ((0:Int)<(n1:Int))=false)\/((0:Int)<(n1:Int)/\uC=true):=by
  by_cases h0:0<n1
  ·refine Or.inr ⟨by omega,?_⟩
   cases uC
   ·exact absurd ⟨h0,rfl⟩ hn0
   ·rfl
  ·exact Or.inl (by simp;omega)
 clear Hr2 hr3 hn0
 rcases HOK with hd0 | ⟨j0,rfl⟩
 ·have hd1:¬ (0:Int)<(n1:Int):=of_decide_eq_false hd0
  go_wp2_with fail
  refine HCC.out.mono ?_;rintro e w2 ⟨rfl,hx2⟩;have HE2:=Lh (HE1.out.trans hx2);have y4:=cell_ext v4 hx2;have y5:=cell_ext v5 hx2;have z4:=cell_ext u4 hx2;have L2:=HL1.out.ext hx2;have HA:=Lh (areConditions_any a2 n2 c2 cnd bits w2 L2.i2 L2.h2 L2.m2 hb0 hb1);obtain ⟨ok,hok⟩:∃ x,cndOk bits cnd=x:=⟨_,rfl⟩;rw [hok] at HA;have hr3:=Hr3.out;rw [hok] at hr3;have Hr4:=Lh hr3;clear hok hr3 Hr3 v0 v1 v2 v3 v4 v5 u1 u2 u3 u4 L2
  by_cases hc0:cc=0
  ·have hr4:=Hr4.out
   rw [if_neg (by simp [hc0])] at hr4;have Hr5:=Lh hr4
   have hcb:(cc != 0)=false:=by simp [hc0]
   clear hr4 Hr4 hc0
   go_wp2_with fail
   refine (HF3.out _).mono ?_;rintro e wy ⟨rfl,rfl⟩
   cases f3
   ·have HF:Hid (r=13):=by show r=13;rw [<-Hr5.out];simp
    clear Hr5
    go_wp2_with fail
    go_ret
    exact ⟨congrArg (fun b=>Ending.returned (Value.int .i64 b)) HF.out.symm,HE2.out⟩
   ·have hr6:=Hr5.out
    rw [if_neg (by decide)] at hr6;have Hr6:=Lh hr6;clear hr6 Hr5
    go_wp2_with fail
    refine HA.out.mono ?_;rintro e wx ⟨rfl,rfl⟩
    cases ok
    ·have HF:Hid (r=14):=by show r=14;rw [<-Hr6.out];simp
     clear Hr6
     go_wp2_with fail
     go_ret
     exact ⟨congrArg (fun b=>Ending.returned (Value.int .i64 b)) HF.out.symm,HE2.out⟩
    ·have HF:Hid (r=0):=by show r=0;rw [<-Hr6.out];simp
     clear Hr6
     go_wp2_with fail
     go_ret
     exact ⟨congrArg (fun b=>Ending.returned (Value.int .i64 b)) HF.out.symm,HE2.out⟩
  ·have HF:Hid (r=cc):=by show r=cc;rw [<-Hr4.out,if_pos hc0]
   have hcb:(cc != 0)=true:=by simp [hc0]
   clear Hr4 hc0
   go_wp2_with fail
   go_ret
   exact ⟨congrArg (fun b=>Ending.returned (Value.int .i64 b)) HF.out.symm,HE2.out⟩
 ·go_wp2_with fail
  refine HCC.out.mono ?_;rintro e w2 ⟨rfl,hx2⟩;have HE2:=Lh (HE1.out.trans hx2);have y4:=cell_ext v4 hx2;have y5:=cell_ext v5 hx2;have z4:=cell_ext u4 hx2;have L2:=HL1.out.ext hx2;have HA:=Lh (areConditions_any a2 n2 c2 cnd bits w2 L2.i2 L2.h2 L2.m2 hb0 hb1);obtain ⟨ok,hok⟩:∃ x,cndOk bits cnd=x:=⟨_,rfl⟩;rw [hok] at HA;have hr3:=Hr3.out;rw [hok] at hr3;have Hr4:=Lh hr3;clear hok hr3 Hr3 v0 v1 v2 v3 v4 v5 u1 u2 u3 u4 L2
  by_cases hc0:cc=0
  ·have hr4:=Hr4.out
   rw [if_neg (by simp [hc0])] at hr4;have Hr5:=Lh hr4
   have hcb:(cc != 0)=false:=by simp [hc0]
   clear hr4 Hr4 hc0
   go_wp2_with fail
   refine (HF3.out _).mono ?_;rintro e wy ⟨rfl,rfl⟩
   cases f3
   ·have HF:Hid (r=13):=by show r=13;rw [<-Hr5.out];simp
    clear Hr5
    go_wp2_with fail
    go_ret
    exact ⟨congrArg (fun b=>Ending.returned (Value.int .i64 b)) HF.out.symm,HE2.out⟩
   ·have hr6:=Hr5.out
    rw [if_neg (by decide)] at hr6;have Hr6:=Lh hr6;clear hr6 Hr5
    go_wp2_with fail
    refine HA.out.mono ?_;rintro e wx ⟨rfl,rfl⟩
    cases ok
    ·have HF:Hid (r=14):=by show r=14;rw [<-Hr6.out];simp
     clear Hr6
     go_wp2_with fail
     go_ret
     exact ⟨congrArg (fun b=>Ending.returned (Value.int .i64 b)) HF.out.symm,HE2.out⟩
    ·have HF:Hid (r=0):=by show r=0;rw [<-Hr6.out];simp
     clear Hr6
     go_wp2_with fail
     go_ret
     exact ⟨congrArg (fun b=>Ending.returned (Value.int .i64 b)) HF.out.symm,HE2.out⟩
  ·have HF:Hid (r=cc):=by show r=cc;rw [<-Hr4.out,if_pos hc0]
   have hcb:(cc != 0)=true:=by simp [hc0]
   clear Hr4 hc0
   go_wp2_with fail
   go_ret
   exact ⟨congrArg (fun b=>Ending.returned (Value.int .i64 b)) HF.out.symm,HE2.out⟩
theorem copyList_any (ao:Option Addr) (n c:Nat) (l:List Int) (w:World) (h:IntsAt w ao n l) (hb:n*8<=140737488355328) :
  Calls Tryz.prog 169 #[.slice ao n c] w fun e w'=>∃ v':Value,e=.returned v'/\w'.ownsRow w.heap.size 3 1 v' n (iC l)/\Ext w w':=by
 obtain ⟨i0,hi,hz0,hz1,hz2⟩:=info_parts i_info;have Hl:=Lh h.1
 by_cases hn:n=0
 ·subst hn
  have hl0:l=[]:=List.eq_nil_of_length_eq_zero Hl.out;subst hl0;clear h hi hz0 hz1 hz2
  cases ao
  ·go_enter Tryz.func169,Tryz.ntmps169
   go_wp2_with fail
   go_ret
   exact ⟨_,rfl,⟨rfl,Or.inl ⟨rfl,rfl⟩⟩,Ext.refl _⟩
  ·go_enter Tryz.func169,Tryz.ntmps169
   go_wp2_with fail
   go_ret
   exact ⟨_,rfl,⟨rfl,Or.inl ⟨rfl,rfl⟩⟩,Ext.refl _⟩
 ·obtain ⟨b,o,rfl,hbl,hcell⟩:=h.at (by omega)
  have hnews:∀ j u,(iC l)[j]?=some u->w.cell? ((⟨b,o,none⟩:Addr).add j)=some u:=by
   intro j u hu
   have hj:j<l.length:=by have:=(List.getElem?_eq_some_iff.1 hu).1;simpa [iC] using this
   have hadd:(⟨b,o,none⟩:Addr).add j=⟨b,o+j,none⟩:=by unfold Addr.add;split<;>simp_all
   rw [hadd,hcell j (by rw [<-Hl.out];exact hj),<-hu];simp only [iC,List.getElem?_map,List.getD_eq_getElem?_getD];rw [List.getElem?_eq_getElem hj]
   rfl
  have h1:∀ u ∈ iC l,u.oneCell'=true:=by
   intro u hu;obtain ⟨x,_,rfl⟩:=List.mem_map.1 hu
   rfl
  have hown:w.ownsRow w.heap.size 3 1 (.slice none 0 0) 0 []:=⟨rfl,Or.inl ⟨rfl,rfl⟩⟩;have Hnews:=Lh hnews;have H1:=Lh h1;have Hown:=Lh hown
  have hll:(iC l).length=n*1:=by rw [iC_length,Hl.out,Nat.mul_one]
  have Hll:=Lh hll;clear h hcell hnews h1 hown hbl hll
  go_enter Tryz.func169,Tryz.ntmps169
  go_wp2_with (at_builtin;refine wpList_append_own _ rfl _ _ 25 rfl w.heap.size 3 i0 (.int .i64 0) 1 8 Tryz.underlying25 hi hz0 hz1 hz2 rfl (by decide) _ 0 [] rfl Hown.out ⟨b,o,none⟩ n c (iC l) rfl Hll.out Hnews.out H1.out (by unfold maxLen;omega) (by omega) (Nat.le_refl _) ?_;intro v' w7 hown' hgrow' _)
  go_ret
  exact ⟨_,rfl,by simpa using hown',grown_ext (Ext.refl _) hgrow' (fun k hk=>by cases hk)⟩
def plP (o:Gop):List Int:=o.ctl++tchQ o.kind o.q++tchB 12 o.kind o.bit++tchC 12 o.cnd
def placesFit (o:Gop):Prop:=(∀ t ∈ o.ctl,t<12)/\o.q<12/\0<=o.bit/\∀ t ∈ o.cnd,t≠0
end Go.Proofs.YtlechhmhmakgpaaGreatDoor
