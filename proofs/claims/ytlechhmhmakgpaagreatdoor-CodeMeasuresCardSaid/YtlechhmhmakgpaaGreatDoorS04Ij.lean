/-
  The reference: which texts are Paulis. Sets of Paulis in memory: a map whose keys are Paulis; is one in it? The library at Paulis: maps.Keys, its iterator: each key comes once, in some order, for every loop's body. The library at Paulis: slices.AppendSeq and slices.Collect of a map's keys. The program: products of Paulis, without signs; how many bits are 1; which two don't commute. The program: the group grows by a generator: all products with it come to the set. The program: the first generator that does not commute with one ahead of it.
-/
import Derived.DeepKeys4
import Derived.LoopIn
import Derived.LoopNIn
import Derived.Maps.AppendAt
import Derived.Maps.OwnSet
import Derived.OwnWalkIn
import Derived.RangeFuncBound
import Derived.RangeFuncBox
import Derived.RangeFuncCalls
import Derived.RangeFuncGives
import Derived.RangeFuncLeaves
import Derived.RangeFuncNested
import Derived.RangeFuncStops
import Derived.Shelf.Abstract
import Derived.Shelf.RegionOpen
import Derived.Sort.MapsRangeIn
import Derived.TacticsInMore
import Derived.Test.YtlechhmhmakgpaaGreatDoorS03Ib
namespace Go.Proofs.YtlechhmhmakgpaaGreatDoor
set_option maxRecDepth 100000
set_option maxHeartbeats 4000000
open Go.RowKit
structure PaB (w:World) (g:Nat) (mi:Bool) (s:ByteArray):Prop where
 row:w.heap[g]?=some (.cells #[.bool mi,.string s] 40 (0,0))
section
variable {w w':World} {g:Nat} {mi:Bool} {s:ByteArray}
theorem PaB.x0 (h:PaB w g mi s):w.cell? ⟨g,0,none⟩=some (.bool mi):=by rw [cell_of_row w g 0 _ _ (0,0) h.row];rfl
theorem PaB.x1 (h:PaB w g mi s):w.cell? ⟨g,1,none⟩=some (.string s):=by rw [cell_of_row w g 1 _ _ (0,0) h.row];rfl
theorem PaB.f (h:PaB w g mi s) (k:Nat):w.frozen? ⟨g,k,none⟩=false:=frozen_of_row w g k _ _ h.row
theorem PaB.put (h:PaB w g mi s) (b:Bool) (t:ByteArray):PaB ((w.setCell ⟨g,0,none⟩ (.bool b)).setCell ⟨g,1,none⟩ (.string t)) g b t:=⟨by
 have a:=heap_setCell_same w g 0 _ _ (.bool b) h.row;have c:=heap_setCell_same _ g 1 _ _ (.string t) a
 simpa using c⟩
end
def ispB (N:Int) (T:List UInt8):Bool:=decide (1<=N) && isP N.toNat T
def ispM (N:Int) (T:List UInt8):Bool:=ispB N T && (T.headD 0 == 45)
def ispS (N:Int) (T:List UInt8):List UInt8:=if ispB N T then T.drop 1 else []
theorem isp_no {N:Int} {T:List UInt8} (h:ispB N T=false):ispM N T=false/\ispS N T=[]:=by unfold ispM ispS;rw [h];exact ⟨rfl,rfl⟩
theorem isp_small {N:Int} {T:List UInt8} (h:N<1):ispB N T=false:=by unfold ispB;rw [decide_eq_false (by omega)];rfl
theorem isp_len {N:Int} {T:List UInt8} (h:(T.length:Int)≠N+1):ispB N T=false:=by
 unfold ispB isP
 by_cases h1:1<=N
 ·rw [decide_eq_false (p:=T.length=N.toNat+1) (by omega)];simp
 ·rw [decide_eq_false h1];rfl
theorem isp_head {N:Int} {T:List UInt8} (h1:T.headD 0≠43) (h2:T.headD 0≠45):ispB N T=false:=by
 unfold ispB isP;rw [show (T.headD 0 == 43)=false from beq_eq_false_iff_ne.2 h1,show (T.headD 0 == 45)=false from beq_eq_false_iff_ne.2 h2]
 simp
theorem isp_let {N:Int} {T:List UInt8} {i:Nat} {x:UInt8} (hi:1<=i) (hx:T[i]?=some x) (h:isL x=false):ispB N T=false:=by
 by_cases e:ispB N T=false
 ·exact e
 ·exfalso
  have e':ispB N T=true:=by simpa using e
  unfold ispB at e';rw [Bool.and_eq_true] at e'
  have h3:=(isP_iff.1 e'.2).2.2 x (by
   have:(T.drop 1)[i-1]?=some x:=by rw [List.getElem?_drop,show 1+(i-1)=i by omega];exact hx
   exact List.mem_of_getElem? this)
  rw [h] at h3;exact absurd h3 (by decide)
theorem isp_yes {N:Int} {T:List UInt8} (h1:1<=N) (hl:(T.length:Int)=N+1) (hh:T.headD 0=43\/T.headD 0=45) (ha:∀ j,1<=j->j<T.length->isL (T.getD j 0)=true):ispB N T=true:=by
 unfold ispB;rw [decide_eq_true h1,Bool.true_and];refine isP_iff.2 ⟨by omega,hh,fun c hc=>?_⟩;obtain ⟨j,hj,e⟩:=List.mem_iff_getElem.1 hc
 have hjl:1+j<T.length:=by rw [List.length_drop] at hj;omega
 have:=ha (1+j) (by omega) hjl;rw [List.getD_eq_getElem?_getD,List.getElem?_eq_getElem hjl] at this;rw [<-e,List.getElem_drop];exact this
theorem head_at {T:List UInt8} {x:UInt8} (h:T[0]?=some x):T.headD 0=x:=by
 cases T with
 | nil=>simp at h
 | cons a r=>simpa using h
theorem IsPauli_any (T:List UInt8) (N:Int) (w:World) (hN:N<=9223372036854775807) (hT:T.length<=9223372036854775807) :
  Calls Tryz.prog 14 #[.string ⟨T.toArray⟩,.int .i64 N] w fun e w'=>e=.returned (.tuple #[.agg #[.bool (ispM N T),.string ⟨(ispS N T).toArray⟩],.bool (ispB N T)])/\Ext w w':=by
 have hsT:(⟨T.toArray⟩:ByteArray).size=T.length:=by simp [ByteArray.size]
 have hno:ispB N T=false->(ispM N T=false/\ispS N T=[]):=isp_no;obtain ⟨B,hB⟩:∃ B,ispB N T=B:=⟨_,rfl⟩;obtain ⟨M,hM⟩:∃ M,ispM N T=M:=⟨_,rfl⟩;obtain ⟨S,hS⟩:∃ S,ispS N T=S:=⟨_,rfl⟩;have H0:=Lh (show N<1->B=false from fun h=>by rw [<-hB];exact isp_small h);have H1:=Lh (show (T.length:Int)≠N+1->B=false from fun h=>by rw [<-hB];exact isp_len h);have H2:=Lh (show T.headD 0≠43->T.headD 0≠45->B=false from fun h k=>by rw [<-hB];exact isp_head h k);have H3:=Lh (show ∀ (i:Nat) (x:UInt8),1<=i->T[i]?=some x->isL x=false->B=false from fun i x h1 h2 h3=>by rw [<-hB];exact isp_let h1 h2 h3)
 have H4:=Lh (show 1<=N->(T.length:Int)=N+1->(T.headD 0=43\/T.headD 0=45)->(∀ j,1<=j->j<T.length->isL (T.getD j 0)=true)->B=true/\M=(T.headD 0 == 45)/\S=T.drop 1 from fun h1 h2 h3 h4=>by
  have:=isp_yes h1 h2 h3 h4
  refine ⟨by rw [<-hB];exact this,by rw [<-hM];unfold ispM;rw [this];rfl,by rw [<-hS];unfold ispS;rw [this];rfl⟩)
 have H5:=Lh (show B=false->M=false/\S=[] from fun h=>by rw [<-hM,<-hS];exact hno (by rw [hB];exact h));rw [hB,hM,hS];clear hno hB hM hS;obtain ⟨H,hH⟩:∃ H,w.heap.size=H:=⟨_,rfl⟩;obtain ⟨W0,hW0⟩:∃ W0,w.alloc (.cells #[.bool false,.string ⟨#[]⟩] 40)=W0:=⟨_,rfl⟩
 have E0:Ext w W0:=by rw [<-hW0];exact ext_al _ _
 have P0:PaB W0 H false ⟨#[]⟩:=⟨by rw [<-hW0,<-hH];exact heap_alloc_new w _⟩;have c0:=P0.x0;have c1:=P0.x1;have g0:=P0.f 0;have g1:=P0.f 1;have HP0:=Lh P0;have HE0:=Lh E0;have HW0:=Lh hW0;have HH:=Lh hH;have HwH:=Lh (show w.heap.size<=H by omega);have hzz:=P0.put false ⟨#[]⟩;have z0:=hzz.x0;have z1:=hzz.x1;have HEz:=Lh (show Ext w ((W0.setCell ⟨H,0,none⟩ (.bool false)).setCell ⟨H,1,none⟩ (.string ⟨#[]⟩)) from put2x E0 (by omega) _ _);clear P0 E0 hW0 hH hzz
 go_enter Tryz.func14,Tryz.ntmps14
 go_upto_region 1 with fail
 rw [HW0.out,HH.out];clear HW0 HH
 by_cases n1:N<1
 ·obtain ⟨rfl,rfl⟩:=H5.out (H0.out n1)
  have hB:=H0.out n1;subst hB;clear H0 H1 H2 H3 H4 H5
  go_wp2_with fail
  exact bodyPost_ret (v:=.tuple #[.agg #[.bool false,.string ⟨#[]⟩],.bool false]) (by simp [results,Tryz.results14,go_sem,z0,z1]) rfl ⟨rfl,HEz.out⟩
 obtain ⟨v,hv⟩:∃ v,IntKind.i64.wrap (N+1)=v:=⟨_,rfl⟩
 have hvN:v=N+1\/(v<0/\9223372036854775807<N+1):=by rw [<-hv,IntKind.wrap_i64];omega
 by_cases n2:(T.length:Int)=v
 rotate_left 1
 ·have q2:((T.length:Int) != v)=true:=nt n2
  have hB:=H1.out (fun e=>by rcases hvN with h | h<;>omega)
  obtain ⟨rfl,rfl⟩:=H5.out hB;subst hB;clear H0 H1 H2 H3 H4 H5 n2 hvN
  go_wp2_with fail
  exact bodyPost_ret (v:=.tuple #[.agg #[.bool false,.string ⟨#[]⟩],.bool false]) (by simp [results,Tryz.results14,go_sem,z0,z1]) rfl ⟨rfl,HEz.out⟩
 have hvv:v=N+1:=by omega
 subst hvv;have q2:((T.length:Int) != N+1)=false:=nf' n2;obtain ⟨n,hn⟩:∃ n:Nat,N=(n:Int):=⟨N.toNat,by omega⟩;subst hn
 have hTl:T.length=n+1:=by omega
 obtain ⟨x,hx⟩:∃ x,T[0]?=some x:=⟨_,List.getElem?_eq_getElem (by omega)⟩;have hsz0:0<(⟨T.toArray⟩:ByteArray).size:=str_lt (by omega)
 have hsz1:(0:Int)<(T.length:Int):=by omega
 have hg0:=let_at hx hsz0;have hhd:=head_at hx;rw [hhd] at H2 H4
 by_cases n3:x=43\/x=45
 rotate_left 1
 ·have q3:((x.toNat:Int) != 43)=true:=nt (u8_ne (k:=43) (by decide) (fun e=>n3 (Or.inl e)))
  have q4:((x.toNat:Int) != 45)=true:=nt (u8_ne (k:=45) (by decide) (fun e=>n3 (Or.inr e)));have hB:=H2.out (fun e=>n3 (Or.inl e)) (fun e=>n3 (Or.inr e));obtain ⟨rfl,rfl⟩:=H5.out hB;subst hB;clear H0 H1 H2 H3 H4 H5 n2 n3 hvN hx hhd
  go_wp2_with fail
  exact bodyPost_ret (v:=.tuple #[.agg #[.bool false,.string ⟨#[]⟩],.bool false]) (by simp [results,Tryz.results14,go_sem,z0,z1]) rfl ⟨rfl,HEz.out⟩
 have Hmid:=Lh (fun h=>H4.out (by omega) (by omega) n3 h);have HTl:=Lh hTl;have Hq5:=Lh (u8_eqb x 45);have hw1:IntKind.i64.wrap ((n:Int)+1)=(n:Int)+1:=hv;have Hg0:=Lh hg0;clear H0 H1 H2 H4 n2 hvN hhd hx hTl hv;have HZ0:=Lh z0;have HZ1:=Lh z1;clear z0 z1
 go_cut [25] from 7 to 25 (fun s25 wx=>W0=wx/\s25=.bool false)
 case first =>
  rcases n3 with rfl | rfl
  ·have hg1':((⟨T.toArray⟩:ByteArray)[0]'hsz0).toNat=43:=hg0
   clear hg0
   go_wp2_with fail
   go_meet
   exact ⟨rfl,rfl⟩
  ·have hg1':((⟨T.toArray⟩:ByteArray)[0]'hsz0).toNat=45:=hg0
   clear hg0
   go_wp2_with fail
   go_meet
   exact ⟨rfl,rfl⟩
 case rest =>
 obtain ⟨rfl,rfl⟩:=hcut;clear hg0 q2 hw1 n3
 go_upto_region 3 with fail
 go_wp2_with fail
 go_loopg [6] n (fun k s6 wr=>∃ i:Nat,s6=.int .i64 ((i:Int)+1)/\i<=n/\n-i=k/\W0=wr/\∀ j,1<=j->j<i+1->isL (T.getD j 0)=true)
 case atStart=>exact ⟨0,rfl,Nat.zero_le _,rfl,rfl,fun j h1 h2=>by omega⟩
 case round =>
  obtain ⟨i,rfl,hi,hk,rfl,hall⟩:=hrel;have Hk:=Lh hk;have Hall:=Lh hall;clear hk hall
  by_cases hin:i=n
  ·have q1:¬ (i:Int)+1<=(n:Int):=by omega
   obtain ⟨hB,hM,hS⟩:=Hmid.out (fun j h1 h2=>Hall.out j h1 (by have:=HTl.out;omega));have hg0:=Hg0.out;have q5:=Hq5.out;have q5':((x.toNat:Int) == 45)=(x == 45):=q5
   have hS':(⟨T.toArray⟩:ByteArray).extract 1 T.length=⟨S.toArray⟩:=by
    rw [piece,hS,List.take_of_length_le (by rw [List.length_drop];exact Nat.le_refl _)]
   have hsl:(1:Int)<=(T.length:Int):=by have:=HTl.out;omega
   have hy:=HP0.out.put M ⟨S.toArray⟩;have y0:=hy.x0;have y1:=hy.x1;have HEy:=Lh (show Ext w ((W0.setCell ⟨H,0,none⟩ (.bool M)).setCell ⟨H,1,none⟩ (.string ⟨S.toArray⟩)) from put2x HE0.out HwH.out _ _);subst hB;clear hin hi hy Hmid H3 H5 hS q5;rw [<-hM] at q5';clear hM
   go_upto_region 8 with fail
   go_region
   have y0':(((W0.setCell ⟨H,0,none⟩ (.bool M)).setCell ⟨H,1,none⟩ (.string ⟨S.toArray⟩)).drew).cell? ⟨H,0,none⟩=some (.bool M):=y0;have y1':(((W0.setCell ⟨H,0,none⟩ (.bool M)).setCell ⟨H,1,none⟩ (.string ⟨S.toArray⟩)).drew).cell? ⟨H,1,none⟩=some (.string ⟨S.toArray⟩):=y1
   go_wp2_with fail
   exact bodyPost_ret (v:=.tuple #[.agg #[.bool M,.string ⟨S.toArray⟩],.bool true]) (by simp [results,Tryz.results14,go_sem,y0,y1]) rfl ⟨rfl,Below.drew HEy.out⟩
  have hlt:i<n:=by omega
  have q1:(i:Int)+1<=(n:Int):=by omega
  have q0:(0:Int)<=(i:Int)+1:=by omega
  have q9:(i:Int)+1<(T.length:Int):=by have:=HTl.out;omega
  have wk:IntKind.i64.wrap ((i:Int)+1+1)=(i:Int)+1+1:=by rw [IntKind.wrap_i64];omega
  obtain ⟨y,hy⟩:∃ y,T[i+1]?=some y:=⟨_,List.getElem?_eq_getElem (by have:=HTl.out;omega)⟩;have hsy:i+1<(⟨T.toArray⟩:ByteArray).size:=str_lt (by have:=HTl.out;omega);have hgy:=let_at hy hsy
  have htn:((i:Int)+1).toNat=i+1:=by omega
  have Hy:=Lh hy;have Hlt:=Lh hlt;have Hgd:=Lh (show T.getD (i+1) 0=y by rw [List.getD_eq_getElem?_getD,hy];rfl);have t1:=u8_neq y 73;have t2:=u8_neq y 88;have t3:=u8_neq y 89;have t4:=u8_neq y 90;have t1':((y.toNat:Int) != 73)=!(y == 73):=t1;have t2':((y.toNat:Int) != 88)=!(y == 88):=t2;have t3':((y.toNat:Int) != 89)=!(y == 89):=t3;have t4':((y.toNat:Int) != 90)=!(y == 90):=t4;clear t1 t2 t3 t4 hy hin hi hlt
  by_cases hL:isL y=true
  ·have Hstep:=Lh (show ∀ j,1<=j->j<i+1+1->isL (T.getD j 0)=true from fun j h1 h2=>by
    by_cases e:j=i+1
    ·rw [e,Hgd.out];exact hL
    ·exact Hall.out j h1 (by omega))
   clear Hall
   rcases isL_cases hL with rfl | rfl | rfl | rfl
   ·have hgz:((⟨T.toArray⟩:ByteArray)[i+1]'hsy).toNat=73:=hgy
    clear hgy t1' t2' t3' t4' hL
    go_wp2_with fail
    go_roundg (n-(i+1))
    case measure=>have:=Hk.out;have:=Hlt.out;omega
    case rel=>exact ⟨i+1,by congr 1,Hlt.out,rfl,rfl,Hstep.out⟩
   ·have hgz:((⟨T.toArray⟩:ByteArray)[i+1]'hsy).toNat=88:=hgy
    clear hgy t1' t2' t3' t4' hL
    go_wp2_with fail
    go_roundg (n-(i+1))
    case measure=>have:=Hk.out;have:=Hlt.out;omega
    case rel=>exact ⟨i+1,by congr 1,Hlt.out,rfl,rfl,Hstep.out⟩
   ·have hgz:((⟨T.toArray⟩:ByteArray)[i+1]'hsy).toNat=89:=hgy
    clear hgy t1' t2' t3' t4' hL
    go_wp2_with fail
    go_roundg (n-(i+1))
    case measure=>have:=Hk.out;have:=Hlt.out;omega
    case rel=>exact ⟨i+1,by congr 1,Hlt.out,rfl,rfl,Hstep.out⟩
   ·have hgz:((⟨T.toArray⟩:ByteArray)[i+1]'hsy).toNat=90:=hgy
    clear hgy t1' t2' t3' t4' hL
    go_wp2_with fail
    go_roundg (n-(i+1))
    case measure=>have:=Hk.out;have:=Hlt.out;omega
    case rel=>exact ⟨i+1,by congr 1,Hlt.out,rfl,rfl,Hstep.out⟩
  ·have hLf:isL y=false:=by simpa using hL
   have hB:=H3.out (i+1) y (by omega) Hy.out hLf;obtain ⟨rfl,rfl⟩:=H5.out hB;subst hB
   have n1':y≠73:=fun e=>hL (by rw [e];rfl)
   have n2':y≠88:=fun e=>hL (by rw [e];rfl)
   have n3':y≠89:=fun e=>hL (by rw [e];rfl)
   have n4':y≠90:=fun e=>hL (by rw [e];rfl)
   rw [beq_eq_false_iff_ne.2 n1'] at t1';rw [beq_eq_false_iff_ne.2 n2'] at t2';rw [beq_eq_false_iff_ne.2 n3'] at t3';rw [beq_eq_false_iff_ne.2 n4'] at t4';have z0:=HZ0.out;have z1:=HZ1.out;clear n1' n2' n3' n4' hL hLf H3 H5 Hmid Hall
   go_wp2_with fail
   exact bodyPost_ret (v:=.tuple #[.agg #[.bool false,.string ⟨#[]⟩],.bool false]) (by simp [results,Tryz.results14,go_sem,z0,z1]) rfl ⟨rfl,HEz.out⟩
open Go.RowKit Go.Maps Go.WideMaps
theorem laidOutP:laidOutB Tryz.prog=true:=by kernel_rfl
theorem rowP:(103:TypeId)<Tryz.prog.types.size:=of_decide_eq_true (by kernel_rfl)
theorem wideP:(match Tryz.prog.underlying 103 with | some (.array _ _) | some (.struct _)=>true | _=>false)=true:=by rw [Tryz.underlying103]
theorem keyedP:Keyed Tryz.prog 103:=Keyed.of_law (deep_law_laid laidOutP (m:=3) (by omega) rowP (by kernel_rfl) wideP)
def pv (x z:Nat) (m:Bool):Value:=.agg #[.int .u16 (x:Int),.int .u16 (z:Int),.bool m]
theorem wf_u16 {x:Nat} (hx:x<65536):(Lit.int .u16 (x:Int)).wf=true:=by
 show (decide (IntKind.u16.min<=(x:Int)) && decide ((x:Int)<=IntKind.u16.max))=true
 rw [show IntKind.u16.min=0 from rfl,show IntKind.u16.max=65535 from rfl,decide_eq_true (by omega),decide_eq_true (by omega)]
 rfl
theorem pv_key {x z:Nat} (hx:x<65536) (hz:z<65536) (m:Bool):∃ l,keyOf Tryz.prog 103 (pv x z m)=some l:=by
 have c3:Tryz.prog.cellsOf 103=3:=by kernel_rfl
 have c1:Tryz.prog.cellsOf 101=1:=by kernel_rfl
 have cb:Tryz.prog.cellsOf 4=1:=by kernel_rfl
 have hkt:Tryz.prog.keyType 103=true:=by kernel_rfl
 obtain ⟨n,hn⟩:∃ n,Tryz.prog.types.size=n+1:=⟨Tryz.prog.types.size-1,(Nat.sub_add_cancel (Nat.lt_of_le_of_lt (Nat.zero_le _) rowP)).symm⟩;have wx:=wf_u16 hx;have wz:=wf_u16 hz;unfold keyOf pv;simp only [Tryz.underlying103];rw [if_pos (by simp [hkt,Value.formed,Tryz.underlying103,c3]),hn];refine ⟨.string (keyBytes [.int .u16 (x:Int),.int .u16 (z:Int),.bool m]),?_⟩
 simp [Program.keyLits,Tryz.underlying103,Tryz.underlying101,Tryz.underlying4,Value.cells,c3,c1,cb,wx,wz]
noncomputable def kl (x z:Nat) (m:Bool):Lit:=(keyOf Tryz.prog 103 (pv x z m)).getD (.bool false)
theorem kl_eq {x z:Nat} (hx:x<65536) (hz:z<65536) (m:Bool):keyOf Tryz.prog 103 (pv x z m)=some (kl x z m):=by
 obtain ⟨l,hl⟩:=pv_key hx hz m;unfold kl;rw [hl]
 rfl
theorem kl_key {x z:Nat} (hx:x<65536) (hz:z<65536) (m:Bool):WideAt.IsKeyLit (kl x z m):=keyedP.key (kl_eq hx hz m)
theorem kl_inj {x z x' z':Nat} {m m':Bool} (hx:x<65536) (hz:z<65536) (hx':x'<65536) (hz':z'<65536) (h:kl x z m=kl x' z' m'):x=x'/\z=z'/\m=m':=by
 have h1:=kl_eq hx hz m;rw [h] at h1;have h2:=keyedP.inj h1 (kl_eq hx' hz' m');unfold pv at h2;injection h2 with h2;have e0:=congrArg (fun a:Array Value=>a[0]?) h2;have e1:=congrArg (fun a:Array Value=>a[1]?) h2;have e2:=congrArg (fun a:Array Value=>a[2]?) h2;simp only [List.getElem?_toArray,List.getElem?_cons_zero,List.getElem?_cons_succ,Option.some.injEq,Value.int.injEq,Value.bool.injEq,true_and] at e0 e1 e2;exact ⟨by omega,by omega,e2⟩
structure GrpM (w:World) (B:Nat) (keys:List (Nat × Nat)):Prop where
 ok:∀ p ∈ keys,p.1<65536/\p.2<65536
 map:w.ownsMap Tryz.prog 103 (unitElem (H:=Unit)) B keys.length (setOf (.agg []) (keys.map fun p=>kl p.1 p.2 false))
theorem GrpM.lt {w:World} {B:Nat} {keys:List (Nat × Nat)} (h:GrpM w B keys):B<w.heap.size:=by
 obtain ⟨es,cl,h1,_⟩:=h.map;exact (gS.1 h1).1
theorem GrpM.ext {w w':World} {B:Nat} {keys:List (Nat × Nat)} (h:GrpM w B keys) (k:Ext w w'):GrpM w' B keys:=by
 have hl:=h.lt;obtain ⟨es,cl,h1,h2⟩:=h.map;exact ⟨h.ok,es,cl,(k.block _ hl).trans h1,h2⟩
theorem GrpM.has {w:World} {B:Nat} {keys:List (Nat × Nat)} (h:GrpM w B keys) {x z:Nat} (hx:x<65536) (hz:z<65536):Maps.has (setOf (H:=Unit) (.agg []) (keys.map fun p=>kl p.1 p.2 false)) (kl x z false)=decide ((x,z) ∈ keys):=by
 rw [has_setOf _ _ _ (fun l hl=>by
  obtain ⟨p,hp,rfl⟩:=List.mem_map.1 hl
  exact kl_key (h.ok p hp).1 (h.ok p hp).2 false)]
 rw [Bool.eq_iff_iff,List.any_eq_true,decide_eq_true_eq]
 constructor
 ·rintro ⟨l,hl,hs⟩
  obtain ⟨p,hp,rfl⟩:=List.mem_map.1 hl
  have e:kl p.1 p.2 false=kl x z false:=by
   by_cases e:kl p.1 p.2 false=kl x z false
   ·exact e
   ·rw [sameKey_ne e] at hs
    exact absurd hs (by decide)
  obtain ⟨e1,e2,_⟩:=kl_inj (h.ok p hp).1 (h.ok p hp).2 hx hz e
  have:p=(x,z):=by rw [<-e1,<-e2]
  rw [<-this];exact hp
 ·intro hm
  exact ⟨kl x z false,List.mem_map.2 ⟨(x,z),hm,rfl⟩,WideAt.sameKey_self (kl_key hx hz false)⟩
theorem zero_u (w:World):(zeroValue 155).run Tryz.prog w=.ok (.agg #[]) w:=by kernel_rfl
theorem has_any (B:Nat) (keys:List (Nat × Nat)) (x z:Nat) (m:Bool) (w:World) (h:GrpM w B keys) (hx:x<65536) (hz:z<65536) :
  Calls Tryz.prog 153 #[.map (some B),pv x z m] w fun e w'=>e=.returned (.bool (decide ((x,z) ∈ keys)))/\Ext w w':=by
 obtain ⟨D,hD⟩:∃ D,decide ((x,z) ∈ keys)=D:=⟨_,rfl⟩;have hh:=h.has hx hz;rw [hD] at hh ⊢;obtain ⟨H,hH⟩:∃ H,w.heap.size=H:=⟨_,rfl⟩;obtain ⟨W0,hW0⟩:∃ W0,w.alloc (.cells #[.int .u16 (x:Int),.int .u16 (z:Int),.bool false] 103)=W0:=⟨_,rfl⟩
 have E0:Ext w W0:=by rw [<-hW0];exact ext_al _ _
 have hr:W0.heap[H]?=some (.cells #[.int .u16 (x:Int),.int .u16 (z:Int),.bool false] 103 (0,0)):=by rw [<-hW0,<-hH];exact heap_alloc_new w _
 have hM:=(h.ext E0).map;have hkey:=kl_eq hx hz false;have hk2:keyOf Tryz.prog 103 (.agg #[.int .u16 (x:Int),.int .u16 (z:Int),.bool false])=some (kl x z false):=hkey;have HM:=Lh hM;have HW0:=Lh hW0;have HH:=Lh hH;have HE0:=Lh E0;clear h hD hkey hW0 hH E0 hM;unfold pv
 go_enter Tryz.func153,Tryz.ntmps153
 go_upto_region 2 with fail
 rw [HW0.out,HH.out];clear HW0 HH
 have hi3:(Tryz.prog.info? 103).map (·.size)=some (#[Value.int .u16 (x:Int),.int .u16 (z:Int),.bool false]:Array Value).size:=by kernel_rfl
 have hown:=HM.out
 go_wp2_with (first
  | refine wpList_load_row rfl 103 _ rfl H rfl 103 _ (0,0) _ hr Tryz.underlying103 rfl hi3 ?_
  | (at_lookup;refine wpList_lookup_own_unit _ rfl _ _ 113 rfl 103 155 keyedP Tryz.underlying113 (zero_u _) B keys.length _ rfl hown _ _ rfl hk2 ?_;rw [hh]))
 go_ret
 exact ⟨rfl,HE0.out.trans (ext_al _ _)⟩
open Go.RowKit Go.Maps Go.WideMaps Go.Shelf Go.Sort
attribute [local go_sem] Oper.semAt_some
structure PK where
 x:Nat
 z:Nat
 m:Bool
 hx:x<65536
 hz:z<65536
def pvK (p:PK):Value:=.agg #[.int .u16 (p.x:Int),.int .u16 (p.z:Int),.bool p.m]
noncomputable def klK (p:PK):Lit:=kl p.x p.z p.m
theorem klK_eq (p:PK):keyOf Tryz.prog 103 (pvK p)=some (klK p):=kl_eq p.hx p.hz p.m
theorem klK_inj {p q:PK} (h:klK p=klK q):p=q:=by
 obtain ⟨e1,e2,e3⟩:=kl_inj p.hx p.hz q.hx q.hz h;obtain ⟨a,b,c,_,_⟩:=p;obtain ⟨a',b',c',_,_⟩:=q;simp only at e1 e2 e3;subst e1 e2 e3
 rfl
theorem u16_of {a:Int} (h:(Lit.int .u16 a).wf=true):∃ x:Nat,a=(x:Int)/\x<65536:=by
 have h1:(decide (IntKind.u16.min<=a) && decide (a<=IntKind.u16.max))=true:=h;rw [show IntKind.u16.min=0 from rfl,show IntKind.u16.max=65535 from rfl,Bool.and_eq_true,decide_eq_true_eq,decide_eq_true_eq] at h1;exact ⟨a.toNat,by omega,by omega⟩
theorem pvK_of {key:Value} {l:Lit} (h:keyOf Tryz.prog 103 key=some l):∃ p:PK,key=pvK p:=by
 have c3:Tryz.prog.cellsOf 103=3:=by kernel_rfl
 have c1:Tryz.prog.cellsOf 101=1:=by kernel_rfl
 have cb:Tryz.prog.cellsOf 4=1:=by kernel_rfl
 obtain ⟨n,hn⟩:∃ n,Tryz.prog.types.size=n+1:=⟨Tryz.prog.types.size-1,(Nat.sub_add_cancel (Nat.lt_of_le_of_lt (Nat.zero_le _) rowP)).symm⟩;unfold keyOf at h;simp only [Tryz.underlying103] at h
 split at h
 rotate_left 1
 ·simp at h
 rename_i hf
 have hfm:key.formed Tryz.prog 103=true:=by
  rw [Bool.and_eq_true] at hf;exact hf.2
 cases key with
 | agg cs =>
  have hs:cs.size=3:=by simpa [Value.formed,Tryz.underlying103,c3] using hfm
  obtain ⟨l⟩:=cs
  match l,hs with
  | [v0,v1,v2],_ =>
   rw [hn] at h
   simp [Program.keyLits,Tryz.underlying103,Value.cells,c3,c1,cb] at h
   cases v0 with
   | int q0 a0 =>
    by_cases g0:q0=.u16/\(Lit.int .u16 a0).wf=true
    ·cases v1 with
     | int q1 a1 =>
      by_cases g1:q1=.u16/\(Lit.int .u16 a1).wf=true
      ·cases v2 with
       | bool m =>
        obtain ⟨x0,rfl,h0⟩:=u16_of g0.2;obtain ⟨x1,rfl,h1⟩:=u16_of g1.2;obtain ⟨rfl,_⟩:=g0;obtain ⟨rfl,_⟩:=g1;exact ⟨⟨x0,x1,m,h0,h1⟩,rfl⟩
       | _=>simp [g0,g1] at h
      ·simp [g0,g1] at h
     | _=>simp [g0] at h
    ·simp [g0] at h
   | _=>simp at h
 | _=>simp [Value.formed,Tryz.underlying103] at hfm
def ColP (D0:DataW Unit) (left:Lit->Bool) (ss:List PK):Prop:=ss.Nodup/\∀ x,x ∈ ss↔(Maps.has D0 (klK x)=true/\left (klK x)=false)
theorem ColP.start (D0:DataW Unit):ColP D0 (Maps.has D0) []:=⟨List.nodup_nil,fun x=>by cases Maps.has D0 (klK x)<;>simp⟩
theorem ColP.step {D0:DataW Unit} {left:Lit->Bool} {ss:List PK} {x:PK} (h:ColP D0 left ss) (hl:left (klK x)=true) (hx:Maps.has D0 (klK x)=true):ColP D0 (fun z=>left z && !z.sameKey (klK x)) (ss++[x]):=by
 have hk:WideAt.IsKeyLit (klK x):=kl_key x.hx x.hz x.m
 have hn:x ∉ ss:=fun hm=>by
  have:=((h.2 x).1 hm).2;rw [hl] at this;exact absurd this (by decide)
 refine ⟨?_,fun y=>?_⟩
 ·rw [List.nodup_append]
  refine ⟨h.1,by simp,fun a ha b hb=>?_⟩
  have:b=x:=by simpa using hb
  rw [this]
  exact fun e=>hn (e ▸ ha)
 ·simp only [List.mem_append,List.mem_singleton,h.2 y,Bool.and_eq_false_iff,Bool.not_eq_false']
  constructor
  ·rintro (⟨h1,h2⟩ | rfl)
   ·exact ⟨h1,Or.inl h2⟩
   ·exact ⟨hx,Or.inr (WideAt.sameKey_self hk)⟩
  ·rintro ⟨h1,h2 | h2⟩
   ·exact Or.inl ⟨h1,h2⟩
   ·exact Or.inr (klK_inj (WideAt.sameKey_eq h2))
theorem keys1_in (m:Nat) (hm1:1<=m) (l Bm b nn:Nat) (D0:DataW Unit) (J Jx:List PK->World->Prop)
  (hY:∀ pre x W,J pre W->pre.length<Maps.size D0->YieldAt Fence.wide (m-1) Tryz.prog l #[pvK x] W fun e W'=>(e=.returned (.bool true)/\J (pre++[x]) W'/\KeepsWalks W W')\/(e=.returned (.bool false)/\Jx (pre++[x]) W'))
  (W:World) (hJ:AbidesFrom W.heap.size J) (hm:W.cell? ⟨Bm,0,none⟩=some (.map (some b))) (hown:W.ownsMap Tryz.prog 103 (unitElem (H:=Unit)) b nn D0) (h0:J [] W) :
  CallsIn Fence.wide m Tryz.prog 184 #[.func (.yield l) #[] #[],.pointer (some ⟨Bm,0,none⟩)] W fun e W'=>(∃ v,e=.returned v)/\((∃ ss:List PK,(ss.length<=Maps.size D0/\∀ x,x ∈ ss↔Maps.has D0 (klK x)=true)/\J ss W')\/(∃ pre:List PK,True/\Jx pre W')):=by
 refine callsIn_of_wp Tryz.func184 rfl trivial ?_ rfl;simp only [Tryz.ntmps184,List.size_toArray,List.length_cons,List.length_nil,Nat.reduceAdd,Nat.reduceSub,Array.replicate_succ,Array.replicate_zero,List.push_toArray,List.append_toArray,List.nil_append,List.cons_append]
 gi_wp2_with (first
  | (gi_at_range;refine wpListIn_range_own _ rfl _ 113 rfl 103 155 keyedP Tryz.underlying113 _ b nn _ rfl hown ?_;intro w0 hrg0 hg0 hs0)
  | gi_in)
 go_frame
 gi_loopw [3] (fun _ wr=>∃ (left:Lit->Bool) (cnt:Nat) (ss:List PK),wr.ranges Tryz.prog 103 (unitElem (H:=Unit)) b W.heap.size nn D0 left cnt/\ss.length+cnt<=Maps.size D0/\ColP D0 left ss/\J ss wr)
  (fun _ wr=>wr.rangeLeft b W.heap.size)
 case atStart =>
  exact ⟨_,_,[],hrg0,by simp,ColP.start D0,hJ [] W w0 none h0 hg0 (fun r e=>by cases e)⟩
 case round =>
  obtain ⟨left,cnt,ss,hrg,hcs,hC,hJs⟩:=hrel
  gi_wp2_with (first
   | (gi_at_next;refine wpListIn_next_ranges _ rfl _ rfl 103 keyedP (unitElem (H:=Unit)) pvK id (fun key kl hk=>pvK_of hk) (fun v _ _=>⟨v,rfl⟩) b W.heap.size nn _ _ _ rfl hrg ?_ ?_)
   | gi_in)
  ·intro hc0 hl0
   gi_wp2
   go_end0
   exact ⟨⟨_,rfl⟩,Or.inl ⟨ss,⟨by omega,fun x=>by rw [hC.2 x,hl0];simp⟩,hJs⟩⟩
  ·intro x c kl yd yp w2 cnt2 hkey hlk hv hat hrg2 hlt hg2 hs2 hen
   have hkl:kl=klK x:=by
    rw [klK_eq x] at hkey;exact (Option.some.inj hkey).symm
   subst hkl;have hhas:Maps.has D0 (klK x)=true:=has_true_of_atKey hat;have hJ2:J ss w2:=hJ ss wr w2 (some W.heap.size) hJs hg2 (fun r e=>by cases e;exact ⟨Nat.le_refl _,hrg.iter_walk⟩);obtain ⟨W3,hW3⟩:∃ W3,w2.alloc (.cells #[.int .u16 (x.x:Int),.int .u16 (x.z:Int),.bool x.m] 103)=W3:=⟨_,rfl⟩
   have hJ3:J ss W3:=by rw [<-hW3];exact hJ ss w2 _ none hJ2 (World.grownBy_alloc w2 _ none) (fun r e=>by cases e)
   have hrg3:W3.ranges Tryz.prog 103 (unitElem (H:=Unit)) b W.heap.size nn D0 (fun z=>left z && !z.sameKey (klK x)) cnt2:=by rw [<-hW3];exact hrg2.alloc _
   obtain ⟨fn,tmps,assign,body,hy,hR⟩:=hY ss x W3 hJ3 (by omega)
   have hr3:W3.heap[w2.heap.size]?=some (.cells #[.int .u16 (x.x:Int),.int .u16 (x.z:Int),.bool x.m] 103 (0,0)):=by rw [<-hW3];exact heap_alloc_new w2 _
   have k0:W3.cell? ⟨w2.heap.size,0,none⟩=some (.int .u16 (x.x:Int)):=by rw [cell_of_row W3 _ 0 _ _ (0,0) hr3];rfl
   have k1:W3.cell? ⟨w2.heap.size,1,none⟩=some (.int .u16 (x.z:Int)):=by rw [cell_of_row W3 _ 1 _ _ (0,0) hr3];rfl
   have k2:W3.cell? ⟨w2.heap.size,2,none⟩=some (.bool x.m):=by rw [cell_of_row W3 _ 2 _ _ (0,0) hr3];rfl
   unfold pvK at hy hen ⊢;clear hs2 hr3
   gi_wp2
   refine hR.mono ?_;have hC2:=hC.step hlk hhas;rintro e W4 (⟨rfl,hJ4,hk4⟩ | ⟨rfl,hJx4⟩)
   ·gi_wp2
    have hrg4:=hrg3.of_walks hk4
    go_roundw
    case rel=>exact ⟨_,cnt2,ss++[x],hrg4,by simp;omega,hC2,hJ4⟩
    case measure=>rw [hrg4.left_eq,hrg.left_eq];exact hlt
   ·gi_wp2
    refine bodyPost_ret (results_none rfl _ _ _) rfl ?_;exact ⟨⟨_,rfl⟩,Or.inr ⟨ss++[x],trivial,hJx4⟩⟩
theorem keys_stops (m:Nat) (hm1:1<=m) (Bm b nn:Nat) (D0:DataW Unit) (w:World) (hBm:Bm<w.heap.size) (hm:w.cell? ⟨Bm,0,none⟩=some (.map (some b))) (hown:w.ownsMap Tryz.prog 103 (unitElem (H:=Unit)) b nn D0) :
  SeqStopsK Fence.wide m Tryz.prog 184 #[.pointer (some ⟨Bm,0,none⟩)] (fun x:PK=>#[pvK x]) KeepsWalks (fun xs=>xs.length<=Maps.size D0/\∀ x,x ∈ xs↔Maps.has D0 (klK x)=true) (fun _=>True) (Maps.size D0) w:=fun l J Jx W hW hJ _ hY h0=>by
 have hown':W.ownsMap Tryz.prog 103 (unitElem (H:=Unit)) b nn D0:=by
  have hbl:=hown.lt;obtain ⟨es,clock,hb,Ft,hs,hD⟩:=hown;exact ⟨es,clock,(hW.block b hbl).trans hb,Ft,hs,hD⟩
 exact keys1_in m hm1 l Bm b nn D0 J Jx hY W hJ ((hW.cell (p:=⟨Bm,0,none⟩) hBm).trans hm) hown' h0
theorem keys_any (b:Nat) (w:World):Calls Tryz.prog 175 #[.map (some b)] w fun e w'=>e=.returned (.func (.func 184) #[] #[.pointer (some ⟨w.heap.size,0,none⟩)])/\w'=w.alloc (.cells #[.map (some b)] 113):=by
 go_enter Tryz.func175,Tryz.ntmps175
 go_wp2_with fail
 go_ret
 exact ⟨rfl,rfl⟩
open Go.RowKit Go.Maps Go.WideMaps Go.Shelf Go.Sort
attribute [local go_sem] Oper.semAt_some
def pcs (ss:List PK):List Value:=ss.flatMap fun p=>[.int .u16 (p.x:Int),.int .u16 (p.z:Int),.bool p.m]
theorem pcs_snoc (ss:List PK) (x:PK):pcs (ss++[x])=pcs ss++[.int .u16 (x.x:Int),.int .u16 (x.z:Int),.bool x.m]:=by unfold pcs;simp
theorem pcs_len (ss:List PK):(pcs ss).length=ss.length*3:=by
 unfold pcs
 induction ss with
 | nil=>rfl
 | cons a r ih=>rw [List.flatMap_cons,List.length_append,ih,List.length_cons];simp;omega
theorem P_info:(Tryz.prog.info? 103).map (fun i=>(i.zero,i.size,i.bytes))=some (some (.agg #[.int .u16 0,.int .u16 0,.bool false]),3,6):=by kernel_rfl
theorem three_new (w:World) (a b c:Value) (e:TypeId):∀ j u,([a,b,c]:List Value)[j]?=some u->(w.alloc (.cells #[a,b,c] e)).cell? ((⟨w.heap.size,0,none⟩:Addr).add j)=some u:=by
 intro j u hu
 have hadd:(⟨w.heap.size,0,none⟩:Addr).add j=⟨w.heap.size,j,none⟩:=by unfold Addr.add;split<;>simp_all
 rw [hadd,cell_of_row _ _ j _ _ (0,0) (heap_alloc_new w _)]
 match j,hu with
 | 0,hu=>simpa using hu
 | 1,hu=>simpa using hu
 | 2,hu=>simpa using hu
 | k+3,hu=>simp at hu
theorem appendSeq_any (Bm b nn:Nat) (D0:DataW Unit) (w:World) (hBm:Bm<w.heap.size) (hm:w.cell? ⟨Bm,0,none⟩=some (.map (some b))) (hown:w.ownsMap Tryz.prog 103 (unitElem (H:=Unit)) b nn D0) (hN:Maps.size D0<=65536) :
  Calls Tryz.prog 183 #[.slice none 0 0,.func (.func 184) #[] #[.pointer (some ⟨Bm,0,none⟩)]] w fun e W'=>∃ v ss,e=.returned v/\W'.ownsRow w.heap.size 103 3 v ss.length (pcs ss)/\(ss.length<=Maps.size D0/\∀ x,x ∈ ss↔Maps.has D0 (klK x)=true)/\Ext w W':=by
 refine (callsIn_wide (n:=5)).1 ?_;obtain ⟨i0,hi,hz0,hz1,hz2⟩:=info_parts P_info;refine callsIn_of_wp_marks Tryz.func183 rfl trivial ?_ rfl;simp only [Tryz.ntmps183,List.size_toArray,List.length_cons,List.length_nil,Nat.reduceAdd,Nat.reduceSub,Array.replicate_succ,Array.replicate_zero,List.push_toArray,List.append_toArray,List.nil_append,List.cons_append]
 gi_wp2
 obtain ⟨U,hU⟩:∃ U,w.alloc (.cells #[.slice none 0 0] 71)=U:=⟨_,rfl⟩
 have EU:Ext w U:=by rw [<-hU];exact ext_al _ _
 have bO:Boxed U w.heap.size 71 (.slice none 0 0):=by rw [<-hU];exact Boxed.new w _ _
 have sU:U.heap.size=w.heap.size+1:=by rw [<-hU];simp
 have hmU:=cell_ext hm EU
 have hownU:U.ownsMap Tryz.prog 103 (unitElem (H:=Unit)) b nn D0:=by
  have hbl:=hown.lt;obtain ⟨es,clock,hb,Ft,hs,hD⟩:=hown;exact ⟨es,clock,(EU.block b hbl).trans hb,Ft,hs,hD⟩
 rw [hU];refine wpIn_rangeFunc_ownH (F:=Fence.wide) rfl (by omega) (gf:=184) (lb:=#[.pointer (some ⟨Bm,0,none⟩)]) rfl trivial (enters_of Tryz.func184 (by kernel_rfl) rfl)
  (keys_stops 4 (by omega) Bm b nn D0 U (by omega) hmU hownU) walksK_t walksK_b (Below.refl _ _) (fun _=>rfl)
  (fun pre W=>(∃ v,Boxed W w.heap.size 71 v/\W.ownsRow w.heap.size 103 3 v pre.length (pcs pre)/\True)/\Below w.heap.size w W)
  (fun _ _ _=>False)
  (OwnFrom.and (Own.from (holdsRow_own w.heap.size w.heap.size 71 103 3 (fun pre:List PK=>pre.length) (fun pre=>pcs pre) (fun _ _=>True)) _) (ownFrom_below (Nat.le_refl _) (by omega)))
  (fun _ _ _ _ _ hs _ _=>hs)
  ⟨⟨_,bO,World.ownsRow_nil _ _ _ _,trivial⟩,EU⟩
  (fun x a' W=>∃ Bx,W.heap[Bx]?=some (.cells #[.int .u16 (x.x:Int),.int .u16 (x.z:Int),.bool x.m] 103 (0,0))/\a'={ tmps:=#[.slice none 0 0,.func (.func 184) #[] #[.pointer (some ⟨Bm,0,none⟩)],.pointer (some ⟨w.heap.size,0,none⟩),undef,.slice none 0 0,.pointer (some ⟨Bx,0,none⟩),.func (.func 184) #[] #[.pointer (some ⟨Bm,0,none⟩)],pvK x,undef,undef,undef,undef,undef],defers:=[] })
  ?own ?assign ?body ?done ?stop
 case own =>
  rintro x a' _ W W' row ⟨Bx,h1,h2⟩ hg hr;refine ⟨Bx,(hg.block Bx (gS.1 h1).1 (fun e=>?_)).trans h1,h2⟩;obtain ⟨_,o,ho,hc⟩:=hr Bx e.symm;rw [h1] at ho
  cases ho
  cases hc
 case assign =>
  rintro l pre x W K ⟨⟨v,hv,hrow,_⟩,hB⟩ hK;have hpx:pvK x=.agg #[.int .u16 (x.x:Int),.int .u16 (x.z:Int),.bool x.m]:=rfl;rw [hpx]
  gi_wp2
  exact hK _ _ ((KeepsOthers.alloc W _).from _) (KeepsOthers.alloc W _).walks ⟨⟨v,hv.alloc _,hrow.alloc _,trivial⟩,hB.alloc hB.size _⟩ ⟨W.heap.size,heap_alloc_new W _,rfl⟩
 case body =>
  rintro l pre x a' W hl ⟨r,hr⟩ ⟨⟨v,hv,hrow,_⟩,hB⟩ ⟨Bx,hx,rfl⟩ hlt;have hc:=hv.cell
  have k0:W.cell? ⟨Bx,0,none⟩=some (.int .u16 (x.x:Int)):=by rw [cell_of_row W _ 0 _ _ (0,0) hx];rfl
  have k1:W.cell? ⟨Bx,1,none⟩=some (.int .u16 (x.z:Int)):=by rw [cell_of_row W _ 1 _ _ (0,0) hx];rfl
  have k2:W.cell? ⟨Bx,2,none⟩=some (.bool x.m):=by rw [cell_of_row W _ 2 _ _ (0,0) hx];rfl
  have hbs:=hB.size
  gi_wp2_with (gi_at_builtin;refine wpListIn_append_own _ rfl _ _ 71 rfl w.heap.size 103 i0 (.agg #[.int .u16 0,.int .u16 0,.bool false]) 3 6 Tryz.underlying71 hi hz0 hz1 hz2 rfl (by decide) _ pre.length (pcs pre) rfl (hrow.alloc _) ⟨W.heap.size,0,none⟩ 1 1 [.int .u16 (x.x:Int),.int .u16 (x.z:Int),.bool x.m] rfl rfl (three_new _ _ _ _ _) (by simp [Value.oneCell']) (by unfold maxLen;omega) (by omega) (by simp;omega) ?_;intro v' w1 hown' hgrow _;obtain ⟨g',cap',rfl⟩:=ownsRow_succ hown';obtain ⟨hv1,hv2,hr2,hk2,hb2⟩:=hv.appended (by decide) hrow hB.size (Nat.le_refl _) hown' hgrow;have hc1:=hv1.cell;have hf1:=hv1.frozen)
  refine ⟨hk2.from _,hk2.walks,⟨_,hv2,?_,trivial⟩,hB.trans hb2⟩;rw [pcs_snoc,List.length_append];exact hr2
 case done =>
  rintro D ys W hD hS ⟨⟨v,hv,hrow,_⟩,hB⟩ hK;have hc:=hv.cell
  gi_wp2
  refine ⟨by simp,.inl ⟨_,_,rfl,run_takeDeferred hK,?_⟩⟩;exact ⟨_,results_tmp rfl _ _ _,v,ys,rfl,ownsRow_putObj hrow _ hK rfl,hS,hB.trans (belowK_b (w:=w) (Nat.le_refl _) W D _ _ (by omega) hK rfl rfl)⟩
 case stop =>
  rintro D c pre W _ _ h _;exact h.elim
theorem collect_any (Bm b nn:Nat) (D0:DataW Unit) (w:World) (hBm:Bm<w.heap.size) (hm:w.cell? ⟨Bm,0,none⟩=some (.map (some b))) (hown:w.ownsMap Tryz.prog 103 (unitElem (H:=Unit)) b nn D0) (hN:Maps.size D0<=65536) :
  Calls Tryz.prog 174 #[.func (.func 184) #[] #[.pointer (some ⟨Bm,0,none⟩)]] w fun e W'=>∃ v ss,e=.returned v/\W'.ownsRow w.heap.size 103 3 v ss.length (pcs ss)/\(ss.length<=Maps.size D0/\∀ x,x ∈ ss↔Maps.has D0 (klK x)=true)/\Ext w W':=by
 have HA:=Lh (appendSeq_any Bm b nn D0 w hBm hm hown hN);clear hm hown hN
 go_enter Tryz.func174,Tryz.ntmps174
 go_wp2_with fail
 refine HA.out.mono ?_;rintro e W' ⟨v,ss,rfl,h1,h2,h3⟩;have H1:=Lh h1;have H2:=Lh h2;have H3:=Lh h3;clear h1 h2 h3
 go_wp2_with fail
 go_ret
 exact ⟨v,ss,rfl,H1.out,H2.out,H3.out⟩
theorem u16_bv {x:Nat} (hx:x<65536):(BitVec.ofInt 16 (x:Int)).toNat=x:=by
 rw [BitVec.toNat_ofInt];omega
theorem xor_u16 {x y:Nat} (hx:x<65536) (hy:y<65536):bits .xor .u16 (x:Int) (y:Int)=((x ^^^ y:Nat):Int):=by
 show IntKind.u16.wrap ((BitVec.ofInt 16 (x:Int) ^^^ BitVec.ofInt 16 (y:Int)).toNat:Int)=_
 rw [BitVec.toNat_xor,u16_bv hx,u16_bv hy];have:x ^^^ y<2 ^ 16:=Nat.xor_lt_two_pow (n:=16) hx hy;rw [show IntKind.u16.wrap ((x ^^^ y:Nat):Int)=(((x ^^^ y:Nat):Int) % 65536) from rfl];omega
theorem and_u16 {x y:Nat} (hx:x<65536) (hy:y<65536):bits .and .u16 (x:Int) (y:Int)=((x &&& y:Nat):Int):=by
 show IntKind.u16.wrap ((BitVec.ofInt 16 (x:Int) &&& BitVec.ofInt 16 (y:Int)).toNat:Int)=_
 rw [BitVec.toNat_and,u16_bv hx,u16_bv hy];have:x &&& y<2 ^ 16:=Nat.lt_of_le_of_lt Nat.and_le_left hx;rw [show IntKind.u16.wrap ((x &&& y:Nat):Int)=(((x &&& y:Nat):Int) % 65536) from rfl];omega
structure PuB (w:World) (g:Nat) (x z:Nat) (m:Bool):Prop where
 row:w.heap[g]?=some (.cells #[.int .u16 (x:Int),.int .u16 (z:Int),.bool m] 103 (0,0))
section
variable {w w':World} {g x z:Nat} {m:Bool}
theorem PuB.lt (h:PuB w g x z m):g<w.heap.size:=(gS.1 h.row).1
theorem PuB.ext (h:PuB w g x z m) (k:Ext w w'):PuB w' g x z m:=⟨(k.block _ h.lt).trans h.row⟩
theorem PuB.x0 (h:PuB w g x z m):w.cell? ⟨g,0,none⟩=some (.int .u16 (x:Int)):=by rw [cell_of_row w g 0 _ _ (0,0) h.row];rfl
theorem PuB.x1 (h:PuB w g x z m):w.cell? ⟨g,1,none⟩=some (.int .u16 (z:Int)):=by rw [cell_of_row w g 1 _ _ (0,0) h.row];rfl
theorem PuB.x2 (h:PuB w g x z m):w.cell? ⟨g,2,none⟩=some (.bool m):=by rw [cell_of_row w g 2 _ _ (0,0) h.row];rfl
end
theorem PuB.new (w:World) (x z:Nat) (m:Bool):PuB (w.alloc (.cells #[.int .u16 (x:Int),.int .u16 (z:Int),.bool m] 103)) w.heap.size x z m:=⟨heap_alloc_new w _⟩
theorem Letters_any (x z x' z':Nat) (m m':Bool) (w:World) (hx:x<65536) (hz:z<65536) (hx':x'<65536) (hz':z'<65536) :
  Calls Tryz.prog 176 #[pv x z m,pv x' z' m'] w fun e w'=>e=.returned (pv (x ^^^ x') (z ^^^ z') false)/\Ext w w':=by
 have e1:=xor_u16 hx hx';have e2:=xor_u16 hz hz';obtain ⟨X,hX⟩:∃ X,x ^^^ x'=X:=⟨_,rfl⟩;obtain ⟨Z,hZ⟩:∃ Z,z ^^^ z'=Z:=⟨_,rfl⟩;rw [hX] at e1 ⊢;rw [hZ] at e2 ⊢;clear hX hZ hx hz hx' hz';unfold pv
 go_enter Tryz.func176,Tryz.ntmps176
 have hr:=heap_alloc_new ((w.alloc (.cells #[.int .u16 (x:Int),.int .u16 (z:Int),.bool m] 103)).alloc (.cells #[.int .u16 (x':Int),.int .u16 (z':Int),.bool m'] 103)) (.cells #[.int .u16 (X:Int),.int .u16 (Z:Int),.bool false] 103);rw [World.size_alloc,World.size_alloc] at hr;have HR:=Lh hr;clear hr
 go_wp2_with fail
 have hr:=HR.out;refine bodyPost_ret (v:=.agg #[.int .u16 (X:Int),.int .u16 (Z:Int),.bool false]) ?_ rfl ⟨rfl,((ext_al _ _).trans (ext_al _ _)).trans (ext_al _ _)⟩;exact results_cell_row rfl _ _ (w.heap.size+1+1) _ _ _ _ rfl hr Tryz.underlying103 rfl (by kernel_rfl)
theorem pop_at:∀ i:Nat,i<256->∃ h:i<Lib.pop8tab.size,(Lib.pop8tab[i]'h).toNat=pcF 8 i:=by
 have h:∀ i:Fin 256,∃ h:i.1<Lib.pop8tab.size,(Lib.pop8tab[i.1]'h).toNat=pcF 8 i.1:=by decide +kernel
 exact fun i hi=>h ⟨i,hi⟩
theorem pcF_add:∀ (f g x:Nat),pcF (f+g) x=pcF f (x % 2 ^ f)+pcF g (x / 2 ^ f)
 | 0,g,x=>by simp [pcF]
 | f+1,g,x=>by
  rw [show f+1+g=f+g+1 by omega,pcF,pcF_add f g (x / 2),pcF];have e1:x % 2 ^ (f+1) % 2=x % 2:=Nat.mod_mod_of_dvd x ⟨2 ^ f,by rw [Nat.pow_succ,Nat.mul_comm]⟩
  have e2:x % 2 ^ (f+1) / 2=x / 2 % 2 ^ f:=by rw [Nat.pow_succ,Nat.mul_comm,Nat.mod_mul_right_div_self]
  have e3:x / 2 ^ (f+1)=x / 2 / 2 ^ f:=by rw [Nat.pow_succ,Nat.mul_comm,Nat.div_div_eq_div_mul]
  rw [e1,e2,e3];omega
theorem pc_split (x:Nat):pcF 16 x=pcF 8 (x / 256)+pcF 8 (x % 256):=by
 rw [show (16:Nat)=8+8 from rfl,pcF_add 8 8 x,Nat.add_comm]
theorem OnesCount16_any (x:Nat) (w:World) (hx:x<65536) :
  Calls Tryz.prog 155 #[.int .u16 (x:Int)] w fun e w'=>e=.returned (.int .i64 ((pcF 16 x:Nat):Int))/\Ext w w':=by
 have ha:=and_u16 hx (show 255<65536 by decide);rw [show x &&& 255=x % 256 from Nat.and_two_pow_sub_one_eq_mod x 8] at ha;have ha':bits .and .u16 (x:Int) 255=((x % 256:Nat):Int):=ha;obtain ⟨hi,hhi⟩:∃ h,x / 256=h:=⟨_,rfl⟩;obtain ⟨lo,hlo⟩:∃ l,x % 256=l:=⟨_,rfl⟩;obtain ⟨s1,g1⟩:=pop_at hi (by omega);obtain ⟨s2,g2⟩:=pop_at lo (by omega)
 have hd:(x:Int) / 256=(hi:Int):=by omega
 have q1:(0:Int)<=(hi:Int):=by omega
 have q2:(hi:Int)<(Lib.pop8tab.size:Int):=by omega
 have q3:(0:Int)<=(lo:Int):=by omega
 have q4:(lo:Int)<(Lib.pop8tab.size:Int):=by omega
 have Hs:=Lh (show pcF 16 x=pcF 8 hi+pcF 8 lo by rw [pc_split,hhi,hlo]);rw [hlo] at ha';obtain ⟨a,hA⟩:∃ a,pcF 8 hi=a:=⟨_,rfl⟩;obtain ⟨b,hB⟩:∃ b,pcF 8 lo=b:=⟨_,rfl⟩
 have bA:a<=8:=by rw [<-hA];simp only [pcF];omega
 have bB:b<=8:=by rw [<-hB];simp only [pcF];omega
 rw [hA] at g1 Hs;rw [hB] at g2 Hs
 have wk:IntKind.u8.wrap ((a:Int)+(b:Int))=((a+b:Nat):Int):=by
  rw [show IntKind.u8.wrap ((a:Int)+(b:Int))=(((a:Int)+(b:Int)) % 256) from rfl];omega
 have Hb8:=Lh (show a<=8/\b<=8 from ⟨bA,bB⟩);clear ha hhi hlo hx hA hB bA bB
 go_enter Tryz.func155,Tryz.ntmps155
 go_upto_region 1 with fail
 go_region
 have w64:wrap64 ((a:Int)+(b:Int))=((a+b:Nat):Int):=by have:=Hb8.out;unfold wrap64;omega
 rw [w64]
 go_wp2_with fail
 go_ret
 exact ⟨by rw [Hs.out];rfl,Below.drew (Ext.refl _)⟩
theorem Commutes_any (x z x' z':Nat) (m m':Bool) (w:World) (hx:x<65536) (hz:z<65536) (hx':x'<65536) (hz':z'<65536) :
  Calls Tryz.prog 151 #[pv x z m,pv x' z' m'] w fun e w'=>e=.returned (.bool (((pcF 16 ((x &&& z') ^^^ (z &&& x')):Nat):Int).tmod 2 == 0))/\Ext w w':=by
 have e1:=and_u16 hx hz';have e2:=and_u16 hz hx';obtain ⟨X,hX⟩:∃ X,x &&& z'=X:=⟨_,rfl⟩;obtain ⟨Z,hZ⟩:∃ Z,z &&& x'=Z:=⟨_,rfl⟩
 have bX:X<65536:=by rw [<-hX];exact Nat.lt_of_le_of_lt Nat.and_le_left hx
 have bZ:Z<65536:=by rw [<-hZ];exact Nat.lt_of_le_of_lt Nat.and_le_left hz
 rw [hX] at e1 ⊢;rw [hZ] at e2 ⊢;have e3:=xor_u16 bX bZ;obtain ⟨Y,hY⟩:∃ Y,X ^^^ Z=Y:=⟨_,rfl⟩
 have bY:Y<65536:=by rw [<-hY];exact Nat.xor_lt_two_pow (n:=16) bX bZ
 rw [hY] at e3 ⊢;have HO:=Lh (fun wx=>OnesCount16_any Y wx bY);obtain ⟨n,hn⟩:∃ n,pcF 16 Y=n:=⟨_,rfl⟩;rw [hn] at HO ⊢;clear hX hZ hY hn hx hz hx' hz' bX bZ bY;unfold pv
 go_enter Tryz.func151,Tryz.ntmps151
 go_wp2_with fail
 refine (HO.out _).mono ?_;rintro e w1 ⟨rfl,h1⟩;have H1:=Lh h1;clear h1
 go_wp2_with fail
 go_ret
 exact ⟨rfl,((ext_al _ _).trans (ext_al _ _)).trans H1.out⟩
open Go.RowKit Go.Maps
def PsAt (w:World) (ao:Option Addr) (n:Nat) (l:List PK):Prop :=
 l.length=n/\(n=0\/∃ b o,ao=some ⟨b,o,none⟩/\b<w.heap.size/\∀ t p,l[t]?=some p->w.cell? ⟨b,o+t*3,none⟩=some (.int .u16 (p.x:Int))/\w.cell? ⟨b,o+t*3+1,none⟩=some (.int .u16 (p.z:Int))/\w.cell? ⟨b,o+t*3+2,none⟩=some (.bool p.m))
theorem pcs_at:∀ (l:List PK) (t:Nat) (p:PK),l[t]?=some p->(pcs l)[t*3]?=some (.int .u16 (p.x:Int))/\(pcs l)[t*3+1]?=some (.int .u16 (p.z:Int))/\(pcs l)[t*3+2]?=some (.bool p.m)
 | [],t,p,h=>by simp at h
 | a :: r,0,p,h=>by
  have:a=p:=by simpa using h
  subst this;exact ⟨rfl,rfl,rfl⟩
 | a :: r,t+1,p,h=>by
  have ih:=pcs_at r t p (by simpa using h);have e:pcs (a :: r)=.int .u16 (a.x:Int) :: .int .u16 (a.z:Int) :: .bool a.m :: pcs r:=rfl;rw [e,show (t+1)*3=t*3+1+1+1 by omega,show t*3+1+1+1+1=(t*3+1)+1+1+1 by omega,show t*3+1+1+1+2=(t*3+2)+1+1+1 by omega];simp only [List.getElem?_cons_succ];exact ih
theorem ps_of_own {w:World} {base n:Nat} {v:Value} {l:List PK} (h:w.ownsRow base 103 3 v n (pcs l)) (hl:l.length=n):∃ (a:Option Addr) (c:Nat),v=.slice a n c/\n<=c/\c<=9223372036854775807/\PsAt w a n l:=by
 rcases h.2 with ⟨rfl,rfl⟩ | ⟨g,cap,cur,rfl,_,hg,hnc,hcm,_,htk⟩
 ·exact ⟨none,0,rfl,Nat.le_refl _,Nat.zero_le _,hl,Or.inl rfl⟩
 ·refine ⟨some ⟨g,0,none⟩,cap,rfl,hnc,hcm,hl,Or.inr ⟨g,0,rfl,(gS.1 hg).1,fun t p hp=>?_⟩⟩
  have htl:t<l.length:=(List.getElem?_eq_some_iff.1 hp).1;obtain ⟨h0,h1,h2⟩:=pcs_at l t p hp
  have at':∀ j v,(pcs l)[j]?=some v->j<n*3->w.cell? ⟨g,0+j,none⟩=some v:=fun j v hj hlt=>by
   rw [cell_of_row w g (0+j) cur _ (0,0) hg,Nat.zero_add]
   have h1:(pcs l)[j]?=cur.toList[j]?:=by
    rw [<-htk,List.getElem?_take,if_pos (by omega)]
   rw [<-Array.getElem?_toList,<-h1];exact hj
  exact ⟨at' _ _ h0 (by omega),at' _ _ h1 (by omega),at' _ _ h2 (by omega)⟩
structure Tur (B:Nat) (w w':World):Prop where
 os:w'.os=w.os
 tape:w'.tape=w.tape
 output:w'.output=w.output
 size:w.heap.size<=w'.heap.size
 block:∀ k,k<w.heap.size->k≠B->w'.heap[k]?=w.heap[k]?
section
variable {B:Nat} {w w' w'':World}
theorem Tur.refl (B:Nat) (w:World):Tur B w w:=⟨rfl,rfl,rfl,Nat.le_refl _,fun _ _ _=>rfl⟩
theorem Tur.of_ext (h:Ext w w'):Tur B w w':=⟨h.os,h.tape,h.output,h.size,fun k hk _=>h.block k hk⟩
theorem Tur.trans (h:Tur B w w') (k:Tur B w' w''):Tur B w w'':=⟨k.os.trans h.os,k.tape.trans h.tape,k.output.trans h.output,Nat.le_trans h.size k.size,fun i hi hn=>(k.block i (Nat.lt_of_lt_of_le hi h.size) hn).trans (h.block i hi hn)⟩
theorem Tur.ext {u:World} (h:Tur B w w') (k:Ext u w) (hB:u.heap.size<=B):Ext u w':=⟨h.os.trans k.os,h.tape.trans k.tape,h.output.trans k.output,Nat.le_trans k.size h.size,fun i hi=>(h.block i (Nat.lt_of_lt_of_le hi k.size) (by omega)).trans (k.block i hi)⟩
theorem Tur.grown (h:w.grownBy w' (some B)):Tur B w w':=⟨h.os,h.tape,h.output,h.size,fun k hk hn=>h.block k hk (fun e=>hn (Option.some.inj e))⟩
theorem Tur.ps {ao:Option Addr} {n:Nat} {l:List PK} (h:Tur B w w') (hp:PsAt w ao n l) (hm:∃ es cl,w.heap[B]?=some (.map es cl)):PsAt w' ao n l:=by
 refine ⟨hp.1,?_⟩
 rcases hp.2 with h0 | ⟨b,o,e,hb,hc⟩
 ·exact Or.inl h0
 ·obtain ⟨es,cl,hm⟩:=hm
  refine Or.inr ⟨b,o,e,Nat.lt_of_lt_of_le hb h.size,fun t p ht=>?_⟩;obtain ⟨c0,c1,c2⟩:=hc t p ht
  have hne:b≠B:=fun e=>by
   subst e
   have:w.cell? ⟨b,o+t*3,none⟩=none:=by simp [World.cell?,hm]
   rw [this] at c0
   cases c0
  have hbl:=h.block b hb hne
  have same:∀ j,w'.cell? ⟨b,j,none⟩=w.cell? ⟨b,j,none⟩:=fun j=>by simp only [World.cell?,hbl]
  rw [same,same,same];exact ⟨c0,c1,c2⟩
end
theorem GrpM.is {w:World} {B:Nat} {keys:List (Nat × Nat)} (h:GrpM w B keys):∃ es cl,w.heap[B]?=some (.map es cl):=by
 obtain ⟨es,cl,h1,_⟩:=h.map;exact ⟨es,cl,h1⟩
theorem GrpM.mem {w:World} {B:Nat} {keys:List (Nat × Nat)} (h:GrpM w B keys) (p:PK):Maps.has (setOf (H:=Unit) (.agg []) (keys.map fun p=>kl p.1 p.2 false)) (klK p)=true↔(p.x,p.z) ∈ keys/\p.m=false:=by
 rw [has_setOf _ _ _ (fun l hl=>by
  obtain ⟨q,hq,rfl⟩:=List.mem_map.1 hl
  exact kl_key (h.ok q hq).1 (h.ok q hq).2 false),List.any_eq_true]
 constructor
 ·rintro ⟨l,hl,hs⟩
  obtain ⟨q,hq,rfl⟩:=List.mem_map.1 hl;obtain ⟨e1,e2,e3⟩:=kl_inj (h.ok q hq).1 (h.ok q hq).2 p.hx p.hz (WideAt.sameKey_eq hs);refine ⟨?_,e3.symm⟩
  have:q=(p.x,p.z):=by rw [<-e1,<-e2]
  rw [<-this];exact hq
 ·rintro ⟨hm,e⟩
  refine ⟨kl p.x p.z false,List.mem_map.2 ⟨(p.x,p.z),hm,rfl⟩,?_⟩;unfold klK;rw [e];exact WideAt.sameKey_self (kl_key p.hx p.hz false)
theorem xor_lt16 {x y:Nat} (hx:x<65536) (hy:y<65536):x ^^^ y<65536:=Nat.xor_lt_two_pow (n:=16) hx hy
theorem own_ext {w w':World} {B n:Nat} {D:DataW Unit} (h:w.ownsMap Tryz.prog 103 (unitElem (H:=Unit)) B n D) (k:Ext w w'):w'.ownsMap Tryz.prog 103 (unitElem (H:=Unit)) B n D:=by
 have hbl:=h.lt;obtain ⟨es,clock,hb,Ft,hs,hD⟩:=h;exact ⟨es,clock,(k.block B hbl).trans hb,Ft,hs,hD⟩
theorem PuB.tur {B:Nat} {w w':World} {g x z:Nat} {m:Bool} (h:PuB w g x z m) (k:Tur B w w') (hn:g≠B):PuB w' g x z m:=⟨(k.block g h.lt hn).trans h.row⟩
def NewBy (keys new:List (Nat × Nat)) (x z:Nat):Prop:=∀ p,p ∈ new↔∃ q ∈ keys,p=(q.1 ^^^ x,q.2 ^^^ z)
theorem unit_val:unitElem (H:=Unit) (.agg #[])=some (.agg [],[]):=unitElem_mk
theorem grow_any (B:Nat) (keys:List (Nat × Nat)) (x z:Nat) (m:Bool) (w:World) (h:GrpM w B keys) (hx:x<65536) (hz:z<65536) (hk:keys.length<=65536) :
  Calls Tryz.prog 154 #[.map (some B),pv x z m] w fun e w'=>(∃ v,e=.returned v)/\Tur B w w'/\∃ new:List (Nat × Nat),GrpM w' B (keys++new)/\new.length<=keys.length/\NewBy keys new x z:=by
 obtain ⟨D0,hD0⟩:∃ D0,setOf (H:=Unit) (.agg []) (keys.map fun p=>kl p.1 p.2 false)=D0:=⟨_,rfl⟩;have hmem:=h.mem;have hM:=h.map;have hok:=h.ok;have his:=h.is;rw [hD0] at hmem hM;have hsz:Maps.size D0<=keys.length:=hM.size_le;obtain ⟨H,hH⟩:∃ H,w.heap.size=H:=⟨_,rfl⟩;obtain ⟨U0,hU0⟩:∃ U,w.alloc (.cells #[.int .u16 (x:Int),.int .u16 (z:Int),.bool m] 103)=U:=⟨_,rfl⟩
 have E0:Ext w U0:=by rw [<-hU0];exact ext_al _ _
 have P0:PuB U0 H x z m:=by rw [<-hU0,<-hH];exact PuB.new w x z m
 have HE0:=Lh E0;have HP0:=Lh P0;have HU0:=Lh hU0;have HH:=Lh hH;have HM:=Lh hM;have Hmem:=Lh hmem;have Hok:=Lh hok;have Hsz:=Lh hsz;have Hk:=Lh hk;have HD0:=Lh hD0;have His:=Lh his;have Hx:=Lh hx;have Hz:=Lh hz;have hlB:=h.lt;have HlB:=Lh hlB;clear hM hmem hok hsz hk hD0 his hx hz E0 P0 hU0 hH h hlB;unfold pv
 go_enter Tryz.func154,Tryz.ntmps154
 go_upto_region 1 with fail
 rw [HU0.out,HH.out];clear HU0 HH
 go_wp2_with fail
 refine (keys_any B U0).mono ?_;rintro e W1 ⟨rfl,hW1⟩
 have E1:Ext U0 W1:=by rw [hW1];exact ext_al _ _
 have hb1:W1.cell? ⟨U0.heap.size,0,none⟩=some (.map (some B)):=by rw [hW1,cell_of_row _ _ 0 _ _ (0,0) (heap_alloc_new U0 _)];rfl
 have hl1:U0.heap.size<W1.heap.size:=by rw [hW1];simp
 have hM1:W1.ownsMap Tryz.prog 103 (unitElem (H:=Unit)) B keys.length D0:=by
  have hbl:=HM.out.lt;obtain ⟨es,clock,hb,Ft,hs,hD⟩:=HM.out;exact ⟨es,clock,((HE0.out.trans E1).block B hbl).trans hb,Ft,hs,hD⟩
 have HCo:=Lh (collect_any U0.heap.size B keys.length D0 W1 hl1 hb1 hM1 (by have:=Hsz.out;have:=Hk.out;omega));have HE1:=Lh (HE0.out.trans E1);have HP1:=Lh (HP0.out.ext E1);have HM1:=Lh hM1;clear hW1 E1 hb1 hl1 hM1 HE0 HP0
 go_wp2_with fail
 refine HCo.out.mono ?_;rintro e W2 ⟨v,ss,rfl,hrow,⟨hsl,hss⟩,E2⟩;obtain ⟨a,c,rfl,hac,hc,hps⟩:=ps_of_own hrow rfl;obtain ⟨n,hn⟩:∃ n,ss.length=n:=⟨_,rfl⟩;rw [hn] at hps hac
 have hM2:W2.ownsMap Tryz.prog 103 (unitElem (H:=Unit)) B keys.length D0:=by
  have hbl:=HM1.out.lt;obtain ⟨es,clock,hb,Ft,hs,hD⟩:=HM1.out;exact ⟨es,clock,(E2.block B hbl).trans hb,Ft,hs,hD⟩
 have HE2:=Lh (HE1.out.trans E2);have HP2:=Lh (HP1.out.ext E2);have HM2:=Lh hM2;have Hps:=Lh hps;have Hac:=Lh hac;have Hc:=Lh hc;have Hn:=Lh hn;have Hss:=Lh hss;have Hsl:=Lh hsl;rw [hn];clear hrow hsl hss E2 hac hc hps hn hM2 HE1 HP1 HM1 HCo
 go_wp2_with fail
 have HT2:=Lh (show Tur B w W2 from Tur.of_ext HE2.out)
 have HHB:=Lh (show H≠B from fun e=>by
  obtain ⟨es,cl,hm⟩:=His.out;have h1:=HP2.out.row;have h2:=(HE2.out.block B HlB.out).trans hm;rw [e,h2] at h1
  cases h1)
 have HiB:=Lh (show ∃ es cl,W2.heap[B]?=some (.map es cl) from by
  obtain ⟨es,cl,hm⟩:=His.out
  exact ⟨es,cl,(HE2.out.block B HlB.out).trans hm⟩)
 go_loopg [5,10] n (fun kk s5 s10 wr=>∃ i:Nat,s10=.int .i64 (i:Int)/\i<=n/\n-i=kk/\Tur B W2 wr/\wr.ownsMap Tryz.prog 103 (unitElem (H:=Unit)) B (keys.length+i) (setOf (.agg []) ((keys.map fun p=>kl p.1 p.2 false)++(ss.take i).map fun p=>kl (p.x ^^^ x) (p.z ^^^ z) false)))
 case atStart=>exact ⟨0,rfl,Nat.zero_le _,rfl,Tur.refl _ _,by simpa [HD0.out] using HM2.out⟩
 case round =>
  obtain ⟨i,rfl,hi,hkk,hT,hO⟩:=hrel;have Hkk:=Lh hkk;have HT:=Lh hT;have HO:=Lh hO
  by_cases hin:i=n
  ·have q1:¬ (i:Int)<(n:Int):=by omega
   have hst:ss.take i=ss:=List.take_of_length_le (by have:=Hn.out;omega);rw [hst] at HO;have Hin:=Lh hin;clear hkk hi hT hO hst hin
   go_wp2_with fail
   go_end0
   refine ⟨⟨_,rfl⟩,HT2.out.trans HT.out,ss.map (fun p=>(p.x ^^^ x,p.z ^^^ z)),⟨fun p hp=>?_,?_⟩,by rw [List.length_map];have:=Hsl.out;have:=Hsz.out;omega,fun p=>?_⟩
   ·rcases List.mem_append.1 hp with hp | hp
    ·exact Hok.out p hp
    ·obtain ⟨q,_,rfl⟩:=List.mem_map.1 hp
     exact ⟨xor_lt16 q.hx Hx.out,xor_lt16 q.hz Hz.out⟩
   ·have h1:=HO.out
    rw [List.map_append,List.map_map,List.length_append,List.length_map,Hn.out,<-Hin.out];exact h1
   ·rw [List.mem_map]
    constructor
    ·rintro ⟨q,hq,rfl⟩
     exact ⟨(q.x,q.z),((Hmem.out q).1 ((Hss.out q).1 hq)).1,rfl⟩
    ·rintro ⟨q,hq,rfl⟩
     have hqr:=Hok.out q hq;refine ⟨⟨q.1,q.2,false,hqr.1,hqr.2⟩,(Hss.out _).2 ((Hmem.out _).2 ⟨hq,rfl⟩),rfl⟩
  have hlt:i<n:=by omega
  have q1:(i:Int)<(n:Int):=by omega
  have q0:(0:Int)<=(i:Int):=by omega
  have wk:IntKind.i64.wrap ((i:Int)+1)=((i+1:Nat):Int):=by rw [IntKind.wrap_i64];have:=Hac.out;have:=Hc.out;omega
  obtain ⟨p,hp⟩:∃ p,ss[i]?=some p:=⟨_,List.getElem?_eq_getElem (by have:=Hn.out;omega)⟩;have hpsr:=hT.ps Hps.out HiB.out;obtain ⟨b,o,rfl,hb,hcells⟩:=hpsr.2.resolve_left (by omega);obtain ⟨c0,c1,c2⟩:=hcells i p hp;have hPr:=HP2.out.tur hT HHB.out;obtain ⟨W3,hW3⟩:∃ W3,wr.alloc (.cells #[.int .u16 (p.x:Int),.int .u16 (p.z:Int),.bool p.m] 103)=W3:=⟨_,rfl⟩;obtain ⟨G,hG⟩:∃ G,wr.heap.size=G:=⟨_,rfl⟩
  have E3:Ext wr W3:=by rw [<-hW3];exact ext_al _ _
  have Pp:PuB W3 G p.x p.z p.m:=by rw [<-hW3,<-hG];exact PuB.new wr _ _ _
  have Pg:=hPr.ext E3;have HE3:=Lh E3;have HW3:=Lh hW3;have HPp:=Lh Pp;have HPg:=Lh Pg;have Hlt:=Lh hlt;have Hp:=Lh hp;have Htk:=Lh (show ss.take (i+1)=ss.take i++[p] by rw [List.take_add_one,hp];rfl);have HLe:=Lh (fun wx=>Letters_any p.x p.z x z p.m m wx p.hx p.hz Hx.out Hz.out);unfold pv at HLe;clear hkk hi hT hO hin hp hpsr hcells hb hPr hlt E3 Pp Pg hW3
  go_upto_region 4 with fail
  rw [HW3.out];clear c0 c1 c2 HW3 hG;have k0:=HPp.out.x0;have k1:=HPp.out.x1;have k2:=HPp.out.x2;have l0:=HPg.out.x0;have l1:=HPg.out.x1;have l2:=HPg.out.x2
  go_wp2_with fail
  refine (HLe.out W3).mono ?_;rintro e w5 ⟨rfl,h5⟩;have hown5:=own_ext HO.out (HE3.out.trans h5);have hkey:keyOf Tryz.prog 103 (.agg #[.int .u16 ((p.x ^^^ x:Nat):Int),.int .u16 ((p.z ^^^ z:Nat):Int),.bool false])=some (kl (p.x ^^^ x) (p.z ^^^ z) false):=kl_eq (xor_lt16 p.hx Hx.out) (xor_lt16 p.hz Hz.out) false;have HT5:=Lh (HT.out.trans (Tur.of_ext (HE3.out.trans h5)))
  have hbd:keys.length+i<maxLen:=by have:=Hk.out;have:=Hsl.out;have:=Hsz.out;have:=Hn.out;have:=Hlt.out;unfold maxLen;omega
  clear h5 k0 k1 k2 l0 l1 l2 HLe HE3
  go_wp2_with (at_mapUpdate;refine wpList_mapUpdate_own _ rfl _ _ _ 113 rfl 103 155 keyedP Tryz.underlying113 _ B (keys.length+i) _ rfl hown5 hbd _ _ _ rfl rfl hkey _ [] unit_val ?_;intro w6 hown6 hgrow6)
  go_roundg (n-(i+1))
  case measure=>have:=Hkk.out;have:=Hlt.out;omega
  case rel=>exact ⟨i+1,rfl,Hlt.out,rfl,HT5.out.trans (Tur.grown hgrow6),by rw [Htk.out,List.map_append,<-List.append_assoc,List.map_cons,List.map_nil,setOf_snoc];exact hown6⟩
def cmB (p q:PK):Bool:=((pcF 16 ((p.x &&& q.z) ^^^ (p.z &&& q.x)):Nat):Int).tmod 2 == 0
theorem PsAt.ext {w w':World} {ao:Option Addr} {n:Nat} {l:List PK} (h:PsAt w ao n l) (k:Ext w w'):PsAt w' ao n l:=by
 refine ⟨h.1,?_⟩
 rcases h.2 with h0 | ⟨b,o,e,hb,hc⟩
 ·exact Or.inl h0
 ·refine Or.inr ⟨b,o,e,Nat.lt_of_lt_of_le hb k.size,fun t p ht=>?_⟩
  obtain ⟨c0,c1,c2⟩:=hc t p ht;exact ⟨(k.cell (p:=⟨b,o+t*3,none⟩) hb).trans c0,(k.cell (p:=⟨b,o+t*3+1,none⟩) hb).trans c1,(k.cell (p:=⟨b,o+t*3+2,none⟩) hb).trans c2⟩
theorem PsAt.take {w:World} {ao:Option Addr} {n:Nat} {l:List PK} (h:PsAt w ao n l) {i:Nat} (hi:i<=n):PsAt w ao i (l.take i):=by
 refine ⟨by rw [List.length_take];have:=h.1;omega,?_⟩
 rcases h.2 with h0 | ⟨b,o,e,hb,hc⟩
 ·exact Or.inl (by omega)
 ·refine Or.inr ⟨b,o,e,hb,fun t p ht=>hc t p ?_⟩
  rw [List.getElem?_take] at ht
  split at ht
  ·exact ht
  ·cases ht
theorem apart1_any (p q:PK) (g:Nat) (w:World) (h:PuB w g q.x q.z q.m) :
  Calls Tryz.prog 150 #[.agg #[.int .u16 (p.x:Int),.int .u16 (p.z:Int),.bool p.m],.pointer (some ⟨g,0,none⟩)] w fun e w'=>e=.returned (.bool (!(cmB p q)))/\Ext w w':=by
 obtain ⟨U,hU⟩:∃ U,w.alloc (.cells #[.int .u16 (p.x:Int),.int .u16 (p.z:Int),.bool p.m] 103)=U:=⟨_,rfl⟩;obtain ⟨H,hH⟩:∃ H,w.heap.size=H:=⟨_,rfl⟩
 have EU:Ext w U:=by rw [<-hU];exact ext_al _ _
 have P1:PuB U H p.x p.z p.m:=by rw [<-hU,<-hH];exact PuB.new w _ _ _
 have P2:=h.ext EU;have HC:=Lh (Commutes_any p.x p.z q.x q.z p.m q.m U p.hx p.hz q.hx q.hz);unfold pv at HC;obtain ⟨B,hB⟩:∃ B,cmB p q=B:=⟨_,rfl⟩;rw [hB];rw [show (((pcF 16 ((p.x &&& q.z) ^^^ (p.z &&& q.x)):Nat):Int).tmod 2 == 0)=B from hB] at HC;have k0:=P1.x0;have k1:=P1.x1;have k2:=P1.x2;have l0:=P2.x0;have l1:=P2.x1;have l2:=P2.x2;have HEU:=Lh EU;have HU:=Lh hU;have HH:=Lh hH;clear h EU P1 P2 hU hH hB
 go_enter Tryz.func150,Tryz.ntmps150
 go_upto_region 1 with fail
 rw [HU.out,HH.out];clear HU HH
 go_wp2_with fail
 refine HC.out.mono ?_;rintro e w1 ⟨rfl,h1⟩;have H1:=Lh (HEU.out.trans h1);clear h1 k0 k1 k2 l0 l1 l2
 go_wp2_with fail
 go_ret
 exact ⟨rfl,H1.out⟩
theorem indexFunc_any (l:List PK) (q:PK) (g:Nat) (ao:Option Addr) (n c:Nat) (w:World) (hl:PsAt w ao n l) (hn:n<=4096) (h:PuB w g q.x q.z q.m) :
  Calls Tryz.prog 173 #[.slice ao n c,.func (.func 150) #[] #[.pointer (some ⟨g,0,none⟩)]] w fun e w'=>(∃ r:Int,e=.returned (.int .i64 r)/\decide (0<=r)=l.any (fun p=>!(cmB p q)))/\Ext w w':=by
 have Hl:=Lh hl;have Hg:=Lh h;have Hn:=Lh hn;have Hln:=Lh (show l.length=n from hl.1);clear hl h hn
 go_enter Tryz.func173,Tryz.ntmps173
 go_wp2_with fail
 go_loopg [5,8] n (fun kk s5 s8 wr=>∃ i:Nat,s8=.int .i64 (i:Int)/\i<=n/\n-i=kk/\Ext w wr/\(l.take i).any (fun p=>!(cmB p q))=false)
 case atStart=>exact ⟨0,rfl,Nat.zero_le _,rfl,Ext.refl _,by simp⟩
 case round =>
  obtain ⟨i,rfl,hi,hkk,hX,ha⟩:=hrel;have Hkk:=Lh hkk;have HX:=Lh hX;have Ha:=Lh ha
  by_cases hin:i=n
  ·have q1:¬ (i:Int)<(n:Int):=by omega
   have hst:l.take i=l:=List.take_of_length_le (by have:=Hln.out;omega);rw [hst] at Ha;clear hkk hi hX ha hst hin
   go_wp2_with fail
   go_ret
   exact ⟨⟨-1,rfl,by rw [Ha.out];rfl⟩,HX.out⟩
  have hlt:i<n:=by omega
  have q1:(i:Int)<(n:Int):=by omega
  have q0:(0:Int)<=(i:Int):=by omega
  have wk:IntKind.i64.wrap ((i:Int)+1)=((i+1:Nat):Int):=by rw [IntKind.wrap_i64];have:=Hn.out;omega
  obtain ⟨p,hp⟩:∃ p,l[i]?=some p:=⟨_,List.getElem?_eq_getElem (by have:=Hln.out;omega)⟩;obtain ⟨b,o,rfl,hb,hcells⟩:=(Hl.out.ext hX).2.resolve_left (by omega);obtain ⟨c0,c1,c2⟩:=hcells i p hp;have HA:=Lh (apart1_any p q g wr (Hg.out.ext hX));have Htk:=Lh (show l.take (i+1)=l.take i++[p] by rw [List.take_add_one,hp];rfl);have Hp:=Lh hp;obtain ⟨B,hB⟩:∃ B,cmB p q=B:=⟨_,rfl⟩;rw [hB] at HA;have HB:=Lh hB;have Hlt:=Lh hlt;clear hkk hi hX ha hin hp hcells hb hlt hB
  go_wp2_with fail
  refine HA.out.mono ?_;rintro e w1 ⟨rfl,h1⟩;have H1:=Lh (HX.out.trans h1);clear h1 c0 c1 c2 HA
  cases B
  ·go_wp2_with fail
   go_ret
   refine ⟨⟨(i:Int),rfl,?_⟩,H1.out⟩;rw [decide_eq_true (by omega)]
   symm
   rw [List.any_eq_true];exact ⟨p,List.mem_of_getElem? Hp.out,by rw [HB.out];rfl⟩
  ·go_wp2_with fail
   go_roundg (n-(i+1))
   case measure=>have:=Hkk.out;have:=Hlt.out;omega
   case rel=>exact ⟨i+1,rfl,Hlt.out,rfl,H1.out,by rw [Htk.out,List.any_append,Ha.out];simp [HB.out]⟩
theorem containsFunc_any (l:List PK) (q:PK) (g:Nat) (ao:Option Addr) (n c:Nat) (w:World) (hl:PsAt w ao n l) (hn:n<=4096) (h:PuB w g q.x q.z q.m) :
  Calls Tryz.prog 152 #[.slice ao n c,.func (.func 150) #[] #[.pointer (some ⟨g,0,none⟩)]] w fun e w'=>e=.returned (.bool (l.any (fun p=>!(cmB p q))))/\Ext w w':=by
 have HI:=Lh (indexFunc_any l q g ao n c w hl hn h);obtain ⟨B,hB⟩:∃ B,l.any (fun p=>!(cmB p q))=B:=⟨_,rfl⟩;rw [hB] at HI ⊢;clear hl hn h hB
 go_enter Tryz.func152,Tryz.ntmps152
 go_wp2_with fail
 refine HI.out.mono ?_;rintro e w1 ⟨⟨r,rfl,hr⟩,h1⟩;have H1:=Lh h1;have Hr:=Lh hr;clear h1 hr
 go_wp2_with fail
 go_ret
 exact ⟨by rw [<-Hr.out];rfl,H1.out⟩
end Go.Proofs.YtlechhmhmakgpaaGreatDoor
