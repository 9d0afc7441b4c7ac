/-
  The reference's numbers: ZOf. The reference: texts cut at a byte; figures. The reference: which two Paulis don't commute; which texts are Paulis. The reference: which texts are Paulis. Sets of Paulis in memory: a map whose keys are Paulis; is one in it? The library at Paulis: maps.Keys, its iterator: each key comes once, in some order, for every loop's body. The library at Paulis: slices.AppendSeq and slices.Collect of a map's keys. The program: products of Paulis, without signs; how many bits are 1; which two don't commute.
-/
import Derived.DeepKeys4
import Derived.LoopIn
import Derived.LoopNIn
import Derived.Maps.AppendAt
import Derived.Maps.OwnSet
import Derived.OwnWalkIn
import Derived.RangeFuncBound
import Derived.RangeFuncBox
import Derived.RangeFuncCalls
import Derived.RangeFuncGives
import Derived.RangeFuncLeaves
import Derived.RangeFuncNested
import Derived.RangeFuncStops
import Derived.Shelf.Abstract
import Derived.Shelf.RegionOpen
import Derived.Sort.MapsRangeIn
import Derived.TacticsInMore
import Derived.Test.YtjfomkoedgipjaaGreatDoorS08ZM
namespace Go.Proofs.YtjfomkoedgipjaaGreatDoor
set_option maxRecDepth 100000
set_option maxHeartbeats 4000000
open Go.RowKit
theorem zof_few {k u v:Nat} (hu:0<u) (h:10000 ^ k*u<=v) (hv:v<=9223372036854775808):k<5:=by
 apply Nat.lt_of_not_le
 intro hk;have h1:(10000:Nat) ^ 5<=10000 ^ k:=qY (by decide) hk;have h2:10000 ^ k<=10000 ^ k*u:=Nat.le_mul_of_pos_right _ hu;omega
theorem zof_step {l:List Nat} {k u v d q:Nat} (hl:l.length=k) (h:zval l+10000 ^ k*u=v) (hd:u % 10000=d) (hq:u / 10000=q):zval (l++[d])+10000 ^ (k+1)*q=v:=by
 rw [zval_snoc,hl,jK,jW,Nat.add_assoc,<-qN];rw [<-h]
 congr 2
 omega
theorem ZOf_any (n:Int) (h1 : -9223372036854775808<=n) (h2:n<=9223372036854775807) (w:World) :
  Calls Tryz.prog 8 #[.int .i64 n] w (ZRet w n 5):=by
 obtain ⟨i0,hi,hz0,hz1,hz2⟩:=info_parts int_info;have hE:=ext_alloc w (.cells #[.bool false,.slice none 0 0] 33);have hR:=zres_new w;obtain ⟨v,hv⟩:∃ v,n.natAbs=v:=⟨_,rfl⟩
 have hvb:v<=9223372036854775808:=by omega
 by_cases hneg:n<0
 ·obtain ⟨X,hX⟩:∃ X:Nat,IntKind.u64.wrap n=(X:Int):=⟨(IntKind.u64.wrap n).toNat,by rw [yF];omega⟩
  have hX2:IntKind.u64.wrap (-(X:Int))=(v:Int):=by rw [yF] at hX ⊢;omega
  have Hz:Hid (n=if true=true then -(v:Int) else (v:Int)):=by show _=_;simp;omega
  have Hvb:=Lh hvb;clear hv hvb
  go_enter Tryz.func8,Tryz.ntmps8
  go_wp2_with fail
  generalize w.alloc (.cells #[.bool false,.slice none 0 0] 33)=W0 at *;clear hX hX2
  go_loopw [3,4] (fun uv dv wr=>∃ (k u:Nat) (l:List Nat),uv=.int .u64 u/\l.length=k/\k<=5/\ZD l/\wr.ownsRow W0.heap.size 3 1 dv k (inC l)/\zval l+10000 ^ k*u=v/\Ext W0 wr) (fun uv _ _=>(intOf uv).toNat)
  case atStart=>exact ⟨0,v,[],by go_num,rfl,by omega,ZD.nil,(show W0.ownsRow W0.heap.size 3 1 (.slice none 0 0) 0 (inC []) from World.ownsRow_nil _ _ _ _),by simp [zval],Ext.refl _⟩
  case round =>
   obtain ⟨k,u,l,rfl,hl,hk,hd,hown,hval,hEr⟩:=hrel;have Hl:=Lh hl;have Hd:=Lh hd;have Hval:=Lh hval;have Hown:=Lh hown
   by_cases hu:0<u
   ·have hk5:k<5:=zof_few hu (by omega) Hvb.out
    have iu:(0:Int)<(u:Int):=by omega
    obtain ⟨dg,hdg⟩:∃ dg,u % 10000=dg:=⟨_,rfl⟩;obtain ⟨q,hq⟩:∃ q,u / 10000=q:=⟨_,rfl⟩;have Hst:=Lh (zof_step hl hval hdg hq)
    have hdl:dg<10000:=by omega
    have hqu:q<u:=by omega
    have hub:u<=9223372036854775808:=by
     have h0:=Hvb.out;have h1:1<=10000 ^ k:=Nat.one_le_pow _ _ (by decide);have h2:1*u<=10000 ^ k*u:=qS _ h1;omega
    have r1:(u:Int).tmod 10000=(dg:Int):=by rw [yH (by omega)];omega
    have r2:(u:Int) % 10000=(dg:Int):=by omega
    have r3:(u:Int).tdiv 10000=(q:Int):=by rw [yC (by omega)];omega
    have r4:(u:Int) / 10000=(q:Int):=by omega
    clear hdg hq hl hd hown hval
    go_wp2_with (at_builtin;refine yL _ rfl _ _ 31 rfl W0.heap.size 3 i0 (.int .i64 0) 1 8 yM hi hz0 hz1 hz2 rfl (by decide) _ k (inC l) rfl (Hown.out.alloc _) ⟨wr.heap.size,0,none⟩ 1 1 [.int .i64 (dg:Int)] rfl rfl (new_int wr _ _) (one_int _) (by unfold maxLen;omega) (by omega) (qL hEr.size (ext_alloc wr _).size) ?_;intro v' w' hown' hgrow' _)
    go_roundw
    case rel=>exact ⟨k+1,q,l++[dg],by go_num,by rw [qT,Hl.out];rfl,by omega,Hd.out.snoc hdl,by rw [inC_snoc];exact hown',Hst.out,ext_grown (hEr.trans (ext_alloc wr _)) hgrow' (fun j hj=>(Hown.out.lt j hj).1)⟩
    case measure=>simp [intOf];omega
   ·obtain rfl:u=0:=by omega
    have hzl:zval l=v:=by have:=Hval.out;omega
    obtain ⟨a9,c9,rfl,q1,q2,q3,q4⟩:=iseg_of_own Hown.out;have Hm:=Lh (zmade_any true a9 l k c9 wr q3 q4 Hd.out q1 q2 (by omega) n (by rw [hzl];exact Hz.out));clear hl hd hown hval hzl
    go_wp2_with fail
    refine Hm.out.mono ?_;rintro e w9 ⟨b',a',n',c',rfl,hI,hle,hx9⟩;have hR9:=hR.ext (hEr.trans hx9);have k0:=hR9.c0;have k1:=hR9.c1;have f0:=hR9.f 0;have f1:=hR9.f 1
    go_wp2_with fail
    exact qJ (v:=.agg #[.bool b',.slice a' n' c']) (by simp [results,Tryz.results8,go_sem,k0,k1]) rfl ⟨b',a',n',c',rfl,hI.keepRes hR9.row _ _,by omega,zput2 (hE.trans (hEr.trans hx9)) (qZ _) _ _⟩
 ·have hX:IntKind.u64.wrap n=(v:Int):=by rw [yF];omega
  have hnd:decide (n<0)=false:=by rw [decide_eq_false_iff_not];exact hneg
  have Hz:Hid (n=if false=true then -(v:Int) else (v:Int)):=by show _=_;simp;omega
  have Hvb:=Lh hvb;clear hv hvb
  go_enter Tryz.func8,Tryz.ntmps8
  go_wp2_with fail
  generalize w.alloc (.cells #[.bool false,.slice none 0 0] 33)=W0 at *;clear hX
  go_loopw [3,4] (fun uv dv wr=>∃ (k u:Nat) (l:List Nat),uv=.int .u64 u/\l.length=k/\k<=5/\ZD l/\wr.ownsRow W0.heap.size 3 1 dv k (inC l)/\zval l+10000 ^ k*u=v/\Ext W0 wr) (fun uv _ _=>(intOf uv).toNat)
  case atStart=>exact ⟨0,v,[],by go_num,rfl,by omega,ZD.nil,(show W0.ownsRow W0.heap.size 3 1 (.slice none 0 0) 0 (inC []) from World.ownsRow_nil _ _ _ _),by simp [zval],Ext.refl _⟩
  case round =>
   obtain ⟨k,u,l,rfl,hl,hk,hd,hown,hval,hEr⟩:=hrel;have Hl:=Lh hl;have Hd:=Lh hd;have Hval:=Lh hval;have Hown:=Lh hown
   by_cases hu:0<u
   ·have hk5:k<5:=zof_few hu (by omega) Hvb.out
    have iu:(0:Int)<(u:Int):=by omega
    obtain ⟨dg,hdg⟩:∃ dg,u % 10000=dg:=⟨_,rfl⟩;obtain ⟨q,hq⟩:∃ q,u / 10000=q:=⟨_,rfl⟩;have Hst:=Lh (zof_step hl hval hdg hq)
    have hdl:dg<10000:=by omega
    have hqu:q<u:=by omega
    have hub:u<=9223372036854775808:=by
     have h0:=Hvb.out;have h1:1<=10000 ^ k:=Nat.one_le_pow _ _ (by decide);have h2:1*u<=10000 ^ k*u:=qS _ h1;omega
    have r1:(u:Int).tmod 10000=(dg:Int):=by rw [yH (by omega)];omega
    have r2:(u:Int) % 10000=(dg:Int):=by omega
    have r3:(u:Int).tdiv 10000=(q:Int):=by rw [yC (by omega)];omega
    have r4:(u:Int) / 10000=(q:Int):=by omega
    clear hdg hq hl hd hown hval
    go_wp2_with (at_builtin;refine yL _ rfl _ _ 31 rfl W0.heap.size 3 i0 (.int .i64 0) 1 8 yM hi hz0 hz1 hz2 rfl (by decide) _ k (inC l) rfl (Hown.out.alloc _) ⟨wr.heap.size,0,none⟩ 1 1 [.int .i64 (dg:Int)] rfl rfl (new_int wr _ _) (one_int _) (by unfold maxLen;omega) (by omega) (qL hEr.size (ext_alloc wr _).size) ?_;intro v' w' hown' hgrow' _)
    go_roundw
    case rel=>exact ⟨k+1,q,l++[dg],by go_num,by rw [qT,Hl.out];rfl,by omega,Hd.out.snoc hdl,by rw [inC_snoc];exact hown',Hst.out,ext_grown (hEr.trans (ext_alloc wr _)) hgrow' (fun j hj=>(Hown.out.lt j hj).1)⟩
    case measure=>simp [intOf];omega
   ·obtain rfl:u=0:=by omega
    have hzl:zval l=v:=by have:=Hval.out;omega
    obtain ⟨a9,c9,rfl,q1,q2,q3,q4⟩:=iseg_of_own Hown.out;have Hm:=Lh (zmade_any false a9 l k c9 wr q3 q4 Hd.out q1 q2 (by omega) n (by rw [hzl];exact Hz.out));clear hl hd hown hval hzl
    go_wp2_with fail
    refine Hm.out.mono ?_;rintro e w9 ⟨b',a',n',c',rfl,hI,hle,hx9⟩;have hR9:=hR.ext (hEr.trans hx9);have k0:=hR9.c0;have k1:=hR9.c1;have f0:=hR9.f 0;have f1:=hR9.f 1
    go_wp2_with fail
    exact qJ (v:=.agg #[.bool b',.slice a' n' c']) (by simp [results,Tryz.results8,go_sem,k0,k1]) rfl ⟨b',a',n',c',rfl,hI.keepRes hR9.row _ _,by omega,zput2 (hE.trans (hEr.trans hx9)) (qZ _) _ _⟩
theorem s_info:(Tryz.prog.info? 9).map (fun i=>(i.zero,i.size,i.bytes))=some (some (.string ⟨#[]⟩),1,16):=by kernel_rfl
def sC (l:List (List UInt8)):List Value:=l.map fun x=>Value.string ⟨x.toArray⟩
theorem sC_length (l:List (List UInt8)):(sC l).length=l.length:=by simp [sC]
theorem sC_snoc (l:List (List UInt8)) (x:List UInt8):sC (l++[x])=sC l++[.string ⟨x.toArray⟩]:=by simp [sC]
def StrsAt (w:World) (ao:Option Addr) (n:Nat) (l:List (List UInt8)):Prop :=
 l.length=n/\(n=0\/∃ b o,ao=some ⟨b,o,none⟩/\b<w.heap.size/\∀ t,t<n->w.cell? ⟨b,o+t,none⟩=some (.string ⟨(l.getD t []).toArray⟩))
theorem StrsAt.ext {w w':World} {ao:Option Addr} {n:Nat} {l:List (List UInt8)} (h:StrsAt w ao n l) (k:Ext w w'):StrsAt w' ao n l:=by
 refine ⟨h.1,?_⟩
 rcases h.2 with h0 | ⟨b,o,e,hb,hc⟩
 ·exact qM h0
 ·exact qO ⟨b,o,e,qK hb k.size,fun t ht=>(k.cell (p:=⟨b,o+t,none⟩) hb).trans (hc t ht)⟩
theorem StrsAt.at {w:World} {ao:Option Addr} {n:Nat} {l:List (List UInt8)} (h:StrsAt w ao n l) (hn:0<n):∃ b o,ao=some ⟨b,o,none⟩/\b<w.heap.size/\∀ t,t<n->w.cell? ⟨b,o+t,none⟩=some (.string ⟨(l.getD t []).toArray⟩):=by
 rcases h.2 with h0 | h
 ·omega
 ·exact h
theorem strs_of_own {w:World} {base n:Nat} {v:Value} {l:List (List UInt8)} (h:w.ownsRow base 9 1 v n (sC l)):∃ (a:Option Addr) (c:Nat),v=.slice a n c/\n<=c/\c<=maxLen/\StrsAt w a n l:=by
 have hl:l.length=n:=by have:=h.1;simpa [sC] using this
 rcases h.2 with ⟨rfl,rfl⟩ | ⟨g,cap,cur,rfl,_,hg,hnc,hcm,_,htk⟩
 ·exact ⟨none,0,rfl,qZ _,qI _,⟨hl,qM rfl⟩⟩
 ·refine ⟨some ⟨g,0,none⟩,cap,rfl,hnc,hcm,⟨hl,qO ⟨g,0,rfl,(gS.1 hg).1,fun t ht=>?_⟩⟩⟩
  rw [qD w g (0+t) cur _ (0,0) hg,jH]
  have h1:(sC l)[t]?=cur.toList[t]?:=by
   rw [<-htk,jC,qU (by omega)]
  rw [<-Array.getElem?_toList,<-h1];simp only [sC,jM,qQ];rw [qX (by omega)]
  rfl
theorem new_s (w:World) (x:ByteArray) (e:TypeId):∀ j u,([Value.string x]:List Value)[j]?=some u->(w.alloc (.cells #[.string x] e)).cell? ((⟨w.heap.size,0,none⟩:Addr).add j)=some u:=by
 intro j u hu
 have hadd:(⟨w.heap.size,0,none⟩:Addr).add j=⟨w.heap.size,j,none⟩:=by unfold Addr.add;split<;>simp_all
 rw [hadd,qD _ _ j _ _ (0,0) (qW w _)]
 match j,hu with
 | 0,hu=>simpa using hu
 | k+1,hu=>simp at hu
theorem one_s (x:ByteArray):∀ u ∈ ([Value.string x]:List Value),u.oneCell'=true:=by
 intro u hu;simp only [yG] at hu;subst hu
 rfl
theorem piece (T:List UInt8) (fr i:Nat):(⟨T.toArray⟩:ByteArray).extract fr i=⟨((T.drop fr).take (i-fr)).toArray⟩:=by
 apply ByteArray.ext
 rw [ByteArray.data_extract]
 simp [List.take_drop]
theorem apN_take:∀ (a b:List UInt8) (i:Nat) (x y:UInt8),a[i]?=some x->b[i]?=some y->apN (a.take (i+1)) (b.take (i+1))=apN (a.take i) (b.take i)+(if apL x y then 1 else 0)
 | [],_,_,_,_,h,_=>by simp at h
 | _ :: _,[],_,_,_,_,h=>by simp at h
 | a :: r,b :: s,0,x,y,h,k=>by
  have e1:a=x:=by simpa using h
  have e2:b=y:=by simpa using k
  subst e1 e2
  simp [apN]
 | a :: r,b :: s,i+1,x,y,h,k=>by
  have:=apN_take r s i x y (by simpa using h) (by simpa using k);simp only [List.take_succ_cons,apN] at this ⊢;omega
theorem apN_le:∀ (a b:List UInt8),apN a b<=a.length
 | [],[]=>qZ _
 | [],_ :: _=>qZ _
 | _ :: _,[]=>qI _
 | a :: r,b :: s=>by
  have:=apN_le r s;rw [apN,jB]
  split<;>omega
theorem let_at {l:List UInt8} {i:Nat} {x:UInt8} (h:l[i]?=some x) (hsz:i<(⟨l.toArray⟩:ByteArray).size):((⟨l.toArray⟩:ByteArray)[i]'hsz).toNat=x.toNat:=by rw [byte_at h hsz]
theorem str_lt {l:List UInt8} {i:Nat} (h:i<l.length):i<(⟨l.toArray⟩:ByteArray).size:=by simpa [ByteArray.size] using h
theorem u8_ne {x:UInt8} {k:Nat} (hk:k<256) (h:x≠UInt8.ofNat k):¬ ((x.toNat:Int)=(k:Int)):=fun e=>h (by
 apply UInt8.toNat_inj.1
 rw [UInt8.toNat_ofNat']
 omega)
theorem u8_neq (x k:UInt8):((x.toNat:Int) != (k.toNat:Int))=!(x == k):=by
 by_cases e:x=k
 ·rw [e];simp
 ·rw [nt (fun h=>e (UInt8.toNat_inj.1 (by omega))),qV.2 e];rfl
theorem u8_eqb (x k:UInt8):((x.toNat:Int) == (k.toNat:Int))=(x == k):=by
 by_cases e:x=k
 ·rw [e];simp
 ·rw [bf (fun h=>e (UInt8.toNat_inj.1 (by omega))),qV.2 e]
theorem Apart_any (a b:List UInt8) (w:World) (hl:a.length=b.length) (hla:a.length<=1000000) :
  Calls Tryz.prog 24 #[.string ⟨a.toArray⟩,.string ⟨b.toArray⟩] w fun e w'=>e=.returned (.bool (((apN a b:Nat):Int).tmod 2 == 1))/\Ext w w':=by
 obtain ⟨n,hn⟩:∃ n,a.length=n:=⟨_,rfl⟩;have Hn:=Lh hn;have Hl:=Lh hl;have Hla:=Lh hla
 have hsa:(⟨a.toArray⟩:ByteArray).size=n:=by rw [<-hn];simp [ByteArray.size]
 have HR:Hid (∀ m:Nat,m=apN a b->(((m:Int).tmod 2 == 1))=(((apN a b:Nat):Int).tmod 2 == 1)):=Lh (fun m h=>by rw [h]);clear hn hl hla
 go_enter Tryz.func24,Tryz.ntmps24
 go_wp2_with fail
 go_loopg [5,6] n (fun k s5 s6 wr=>Ext w wr/\∃ i:Nat,s5=.int .i64 ((apN (a.take i) (b.take i):Nat):Int)/\s6=.int .i64 (i:Int)/\i<=n/\n-i=k)
 case atStart=>exact ⟨Ext.refl _,0,by simp [apN],rfl,qI _,rfl⟩
 case round =>
  obtain ⟨hER,i,rfl,rfl,hi,hk⟩:=hrel;have HER:=Lh hER;have Hk:=Lh hk;clear hER hk
  by_cases hin:i=n
  ·have q1:¬ (i:Int)<(n:Int):=by omega
   have e1:a.take i=a:=qB (by have:=Hn.out;omega);have e2:b.take i=b:=qB (by have:=Hn.out;have:=Hl.out;omega);rw [e1,e2];clear e1 e2 hin hi HR
   go_wp2_with fail
   go_ret
   exact ⟨rfl,HER.out⟩
  have hlt:i<n:=by omega
  have q1:(i:Int)<(n:Int):=by omega
  have q0:(0:Int)<=(i:Int):=by omega
  obtain ⟨x,hx⟩:∃ x,a[i]?=some x:=⟨_,qX (by have:=Hn.out;omega)⟩;obtain ⟨y,hy⟩:∃ y,b[i]?=some y:=⟨_,qX (by have:=Hn.out;have:=Hl.out;omega)⟩;have hsz:i<(⟨a.toArray⟩:ByteArray).size:=str_lt (by have:=Hn.out;omega);have hsy:i<(⟨b.toArray⟩:ByteArray).size:=str_lt (by have:=Hn.out;have:=Hl.out;omega);have hg:=let_at hx hsz;have hg':=let_at hy hsy
  have hsb:(⟨b.toArray⟩:ByteArray).size=n:=by have:=Hl.out;rw [<-Hn.out,Hl.out];simp [ByteArray.size]
  have wk:IntKind.i64.wrap ((i:Int)+1)=((i+1:Nat):Int):=by rw [qH];have:=Hn.out;have:=Hla.out;omega
  have Hst:=Lh (apN_take a b i x y hx hy);have hmx:=apN_le (a.take i) (b.take i);obtain ⟨m,hm⟩:∃ m,apN (a.take i) (b.take i)=m:=⟨_,rfl⟩
  have hmb:m<=i:=by rw [<-hm];exact qL hmx (by rw [qC];omega)
  have wm:IntKind.i64.wrap ((m:Int)+1)=((m+1:Nat):Int):=by rw [qH];have:=Hn.out;have:=Hla.out;omega
  rw [hm] at Hst ⊢;have Hlt:=Lh hlt;clear hx hy hm hmx hmb hin hi HR hlt
  by_cases c1:x=73
  ·have t1:((x.toNat:Int) != 73)=false:=nf' (by rw [c1];rfl)
   have HA:Hid (apL x y=false):=Lh (by unfold apL;rw [c1];rfl);clear c1
   go_upto_region 5 with fail
   go_quiet (fail)
   go_wp2_with fail
   go_roundg (n-(i+1))
   case measure=>have:=Hk.out;have:=Hlt.out;omega
   case rel=>exact ⟨HER.out.trans (ext_drewN wr _),i+1,by rw [Hst.out,HA.out];rfl,rfl,Hlt.out,rfl⟩
  have t1:((x.toNat:Int) != 73)=true:=nt (u8_ne (k:=73) (by decide) c1)
  by_cases c2:y=73
  ·have t2:((y.toNat:Int) != 73)=false:=nf' (by rw [c2];rfl)
   have HA:Hid (apL x y=false):=Lh (by unfold apL;rw [c2];simp);clear c1 c2
   go_upto_region 5 with fail
   go_quiet (fail)
   go_wp2_with fail
   go_roundg (n-(i+1))
   case measure=>have:=Hk.out;have:=Hlt.out;omega
   case rel=>exact ⟨HER.out.trans (ext_drewN wr _),i+1,by rw [Hst.out,HA.out];rfl,rfl,Hlt.out,rfl⟩
  have t2:((y.toNat:Int) != 73)=true:=nt (u8_ne (k:=73) (by decide) c2)
  by_cases c3:x=y
  ·have t3:((x.toNat:Int) != (y.toNat:Int))=false:=nf' (by rw [c3])
   have HA:Hid (apL x y=false):=Lh (by unfold apL;rw [c3];simp);clear c1 c2 c3
   go_upto_region 5 with fail
   go_quiet (fail)
   go_wp2_with fail
   go_roundg (n-(i+1))
   case measure=>have:=Hk.out;have:=Hlt.out;omega
   case rel=>exact ⟨HER.out.trans (ext_drewN wr _),i+1,by rw [Hst.out,HA.out];rfl,rfl,Hlt.out,rfl⟩
  have t3:((x.toNat:Int) != (y.toNat:Int))=true:=nt (fun e=>c3 (UInt8.toNat_inj.1 (by omega)));have HA:Hid (apL x y=true):=Lh (by unfold apL;simp [c1,c2,c3]);clear c1 c2 c3
  go_upto_region 5 with fail
  go_quiet (fail)
  go_wp2_with fail
  go_roundg (n-(i+1))
  case measure=>have:=Hk.out;have:=Hlt.out;omega
  case rel=>exact ⟨HER.out.trans (ext_drewN wr _),i+1,by rw [Hst.out,HA.out];rfl,rfl,Hlt.out,rfl⟩
structure PaB (w:World) (g:Nat) (mi:Bool) (s:ByteArray):Prop where
 row:w.heap[g]?=some (.cells #[.bool mi,.string s] 67 (0,0))
section
variable {w w':World} {g:Nat} {mi:Bool} {s:ByteArray}
theorem PaB.x0 (h:PaB w g mi s):w.cell? ⟨g,0,none⟩=some (.bool mi):=by rw [qD w g 0 _ _ (0,0) h.row];rfl
theorem PaB.x1 (h:PaB w g mi s):w.cell? ⟨g,1,none⟩=some (.string s):=by rw [qD w g 1 _ _ (0,0) h.row];rfl
theorem PaB.f (h:PaB w g mi s) (k:Nat):w.frozen? ⟨g,k,none⟩=false:=jQ w g k _ _ h.row
theorem PaB.put (h:PaB w g mi s) (b:Bool) (t:ByteArray):PaB ((w.setCell ⟨g,0,none⟩ (.bool b)).setCell ⟨g,1,none⟩ (.string t)) g b t:=⟨by
 have a:=yZ w g 0 _ _ (.bool b) h.row;have c:=yZ _ g 1 _ _ (.string t) a
 simpa using c⟩
end
def ispB (N:Int) (T:List UInt8):Bool:=decide (1<=N) && isP N.toNat T
def ispM (N:Int) (T:List UInt8):Bool:=ispB N T && (T.headD 0 == 45)
def ispS (N:Int) (T:List UInt8):List UInt8:=if ispB N T then T.drop 1 else []
theorem isp_no {N:Int} {T:List UInt8} (h:ispB N T=false):ispM N T=false/\ispS N T=[]:=by unfold ispM ispS;rw [h];exact ⟨rfl,rfl⟩
theorem isp_small {N:Int} {T:List UInt8} (h:N<1):ispB N T=false:=by unfold ispB;rw [jE (by omega)];rfl
theorem isp_len {N:Int} {T:List UInt8} (h:(T.length:Int)≠N+1):ispB N T=false:=by
 unfold ispB isP
 by_cases h1:1<=N
 ·rw [jE (p:=T.length=N.toNat+1) (by omega)];simp
 ·rw [jE h1];rfl
theorem isp_head {N:Int} {T:List UInt8} (h1:T.headD 0≠43) (h2:T.headD 0≠45):ispB N T=false:=by
 unfold ispB isP;rw [show (T.headD 0 == 43)=false from qV.2 h1,show (T.headD 0 == 45)=false from qV.2 h2]
 simp
theorem isp_let {N:Int} {T:List UInt8} {i:Nat} {x:UInt8} (hi:1<=i) (hx:T[i]?=some x) (h:isL x=false):ispB N T=false:=by
 by_cases e:ispB N T=false
 ·exact e
 ·exfalso
  have e':ispB N T=true:=by simpa using e
  unfold ispB at e';rw [Bool.and_eq_true] at e'
  have h3:=(isP_iff.1 e'.2).2.2 x (by
   have:(T.drop 1)[i-1]?=some x:=by rw [List.getElem?_drop,show 1+(i-1)=i by omega];exact hx
   exact jL this)
  rw [h] at h3;exact absurd h3 (by decide)
theorem isp_yes {N:Int} {T:List UInt8} (h1:1<=N) (hl:(T.length:Int)=N+1) (hh:T.headD 0=43\/T.headD 0=45) (ha:∀ j,1<=j->j<T.length->isL (T.getD j 0)=true):ispB N T=true:=by
 unfold ispB;rw [jJ h1,Bool.true_and];refine isP_iff.2 ⟨by omega,hh,fun c hc=>?_⟩;obtain ⟨j,hj,e⟩:=List.mem_iff_getElem.1 hc
 have hjl:1+j<T.length:=by rw [qF] at hj;omega
 have:=ha (1+j) (by omega) hjl;rw [qQ,qX hjl] at this;rw [<-e,List.getElem_drop];exact this
theorem head_at {T:List UInt8} {x:UInt8} (h:T[0]?=some x):T.headD 0=x:=by
 cases T with
 | nil=>simp at h
 | cons a r=>simpa using h
theorem IsPauli_any (T:List UInt8) (N:Int) (w:World) (hN:N<=9223372036854775807) (hT:T.length<=9223372036854775807) :
  Calls Tryz.prog 22 #[.string ⟨T.toArray⟩,.int .i64 N] w fun e w'=>e=.returned (.tuple #[.agg #[.bool (ispM N T),.string ⟨(ispS N T).toArray⟩],.bool (ispB N T)])/\Ext w w':=by
 have hsT:(⟨T.toArray⟩:ByteArray).size=T.length:=by simp [ByteArray.size]
 have hno:ispB N T=false->(ispM N T=false/\ispS N T=[]):=isp_no;obtain ⟨B,hB⟩:∃ B,ispB N T=B:=⟨_,rfl⟩;obtain ⟨M,hM⟩:∃ M,ispM N T=M:=⟨_,rfl⟩;obtain ⟨S,hS⟩:∃ S,ispS N T=S:=⟨_,rfl⟩;have H0:=Lh (show N<1->B=false from fun h=>by rw [<-hB];exact isp_small h);have H1:=Lh (show (T.length:Int)≠N+1->B=false from fun h=>by rw [<-hB];exact isp_len h);have H2:=Lh (show T.headD 0≠43->T.headD 0≠45->B=false from fun h k=>by rw [<-hB];exact isp_head h k);have H3:=Lh (show ∀ (i:Nat) (x:UInt8),1<=i->T[i]?=some x->isL x=false->B=false from fun i x h1 h2 h3=>by rw [<-hB];exact isp_let h1 h2 h3)
 have H4:=Lh (show 1<=N->(T.length:Int)=N+1->(T.headD 0=43\/T.headD 0=45)->(∀ j,1<=j->j<T.length->isL (T.getD j 0)=true)->B=true/\M=(T.headD 0 == 45)/\S=T.drop 1 from fun h1 h2 h3 h4=>by
  have:=isp_yes h1 h2 h3 h4
  refine ⟨by rw [<-hB];exact this,by rw [<-hM];unfold ispM;rw [this];rfl,by rw [<-hS];unfold ispS;rw [this];rfl⟩)
 have H5:=Lh (show B=false->M=false/\S=[] from fun h=>by rw [<-hM,<-hS];exact hno (by rw [hB];exact h));rw [hB,hM,hS];clear hno hB hM hS;obtain ⟨H,hH⟩:∃ H,w.heap.size=H:=⟨_,rfl⟩;obtain ⟨W0,hW0⟩:∃ W0,w.alloc (.cells #[.bool false,.string ⟨#[]⟩] 67)=W0:=⟨_,rfl⟩
 have E0:Ext w W0:=by rw [<-hW0];exact ext_al _ _
 have P0:PaB W0 H false ⟨#[]⟩:=⟨by rw [<-hW0,<-hH];exact qW w _⟩;have c0:=P0.x0;have c1:=P0.x1;have g0:=P0.f 0;have g1:=P0.f 1;have HP0:=Lh P0;have HE0:=Lh E0;have HW0:=Lh hW0;have HH:=Lh hH;have HwH:=Lh (show w.heap.size<=H by omega);have hzz:=P0.put false ⟨#[]⟩;have z0:=hzz.x0;have z1:=hzz.x1;have HEz:=Lh (show Ext w ((W0.setCell ⟨H,0,none⟩ (.bool false)).setCell ⟨H,1,none⟩ (.string ⟨#[]⟩)) from put2x E0 (by omega) _ _);clear P0 E0 hW0 hH hzz
 go_enter Tryz.func22,Tryz.ntmps22
 go_upto_region 1 with fail
 rw [HW0.out,HH.out];clear HW0 HH
 by_cases n1:N<1
 ·obtain ⟨rfl,rfl⟩:=H5.out (H0.out n1)
  have hB:=H0.out n1;subst hB;clear H0 H1 H2 H3 H4 H5
  go_wp2_with fail
  exact qJ (v:=.tuple #[.agg #[.bool false,.string ⟨#[]⟩],.bool false]) (by simp [results,Tryz.results22,go_sem,z0,z1]) rfl ⟨rfl,HEz.out⟩
 obtain ⟨v,hv⟩:∃ v,IntKind.i64.wrap (N+1)=v:=⟨_,rfl⟩
 have hvN:v=N+1\/(v<0/\9223372036854775807<N+1):=by rw [<-hv,qH];omega
 by_cases n2:(T.length:Int)=v
 rotate_left 1
 ·have q2:((T.length:Int) != v)=true:=nt n2
  have hB:=H1.out (fun e=>by rcases hvN with h | h<;>omega)
  obtain ⟨rfl,rfl⟩:=H5.out hB;subst hB;clear H0 H1 H2 H3 H4 H5 n2 hvN
  go_wp2_with fail
  exact qJ (v:=.tuple #[.agg #[.bool false,.string ⟨#[]⟩],.bool false]) (by simp [results,Tryz.results22,go_sem,z0,z1]) rfl ⟨rfl,HEz.out⟩
 have hvv:v=N+1:=by omega
 subst hvv;have q2:((T.length:Int) != N+1)=false:=nf' n2;obtain ⟨n,hn⟩:∃ n:Nat,N=(n:Int):=⟨N.toNat,by omega⟩;subst hn
 have hTl:T.length=n+1:=by omega
 obtain ⟨x,hx⟩:∃ x,T[0]?=some x:=⟨_,qX (by omega)⟩;have hsz0:0<(⟨T.toArray⟩:ByteArray).size:=str_lt (by omega)
 have hsz1:(0:Int)<(T.length:Int):=by omega
 have hg0:=let_at hx hsz0;have hhd:=head_at hx;rw [hhd] at H2 H4
 by_cases n3:x=43\/x=45
 rotate_left 1
 ·have q3:((x.toNat:Int) != 43)=true:=nt (u8_ne (k:=43) (by decide) (fun e=>n3 (qM e)))
  have q4:((x.toNat:Int) != 45)=true:=nt (u8_ne (k:=45) (by decide) (fun e=>n3 (qO e)));have hB:=H2.out (fun e=>n3 (qM e)) (fun e=>n3 (qO e));obtain ⟨rfl,rfl⟩:=H5.out hB;subst hB;clear H0 H1 H2 H3 H4 H5 n2 n3 hvN hx hhd
  go_wp2_with fail
  exact qJ (v:=.tuple #[.agg #[.bool false,.string ⟨#[]⟩],.bool false]) (by simp [results,Tryz.results22,go_sem,z0,z1]) rfl ⟨rfl,HEz.out⟩
 have Hmid:=Lh (fun h=>H4.out (by omega) (by omega) n3 h);have HTl:=Lh hTl;have Hq5:=Lh (u8_eqb x 45);have hw1:IntKind.i64.wrap ((n:Int)+1)=(n:Int)+1:=hv;have Hg0:=Lh hg0;clear H0 H1 H2 H4 n2 hvN hhd hx hTl hv;have HZ0:=Lh z0;have HZ1:=Lh z1;clear z0 z1
 go_cut [25] from 7 to 25 (fun s25 wx=>W0=wx/\s25=.bool false)
 case first =>
  rcases n3 with rfl | rfl
  ·have hg1':((⟨T.toArray⟩:ByteArray)[0]'hsz0).toNat=43:=hg0
   clear hg0
   go_wp2_with fail
   go_meet
   exact ⟨rfl,rfl⟩
  ·have hg1':((⟨T.toArray⟩:ByteArray)[0]'hsz0).toNat=45:=hg0
   clear hg0
   go_wp2_with fail
   go_meet
   exact ⟨rfl,rfl⟩
 case rest =>
 obtain ⟨rfl,rfl⟩:=hcut;clear hg0 q2 hw1 n3
 go_upto_region 3 with fail
 go_wp2_with fail
 go_loopg [6] n (fun k s6 wr=>∃ i:Nat,s6=.int .i64 ((i:Int)+1)/\i<=n/\n-i=k/\W0=wr/\∀ j,1<=j->j<i+1->isL (T.getD j 0)=true)
 case atStart=>exact ⟨0,rfl,qI _,rfl,rfl,fun j h1 h2=>by omega⟩
 case round =>
  obtain ⟨i,rfl,hi,hk,rfl,hall⟩:=hrel;have Hk:=Lh hk;have Hall:=Lh hall;clear hk hall
  by_cases hin:i=n
  ·have q1:¬ (i:Int)+1<=(n:Int):=by omega
   obtain ⟨hB,hM,hS⟩:=Hmid.out (fun j h1 h2=>Hall.out j h1 (by have:=HTl.out;omega));have hg0:=Hg0.out;have q5:=Hq5.out;have q5':((x.toNat:Int) == 45)=(x == 45):=q5
   have hS':(⟨T.toArray⟩:ByteArray).extract 1 T.length=⟨S.toArray⟩:=by
    rw [piece,hS,qB (by rw [qF];exact qZ _)]
   have hsl:(1:Int)<=(T.length:Int):=by have:=HTl.out;omega
   have hy:=HP0.out.put M ⟨S.toArray⟩;have y0:=hy.x0;have y1:=hy.x1;have HEy:=Lh (show Ext w ((W0.setCell ⟨H,0,none⟩ (.bool M)).setCell ⟨H,1,none⟩ (.string ⟨S.toArray⟩)) from put2x HE0.out HwH.out _ _);subst hB;clear hin hi hy Hmid H3 H5 hS q5;rw [<-hM] at q5';clear hM
   go_upto_region 8 with fail
   go_region
   have y0':(((W0.setCell ⟨H,0,none⟩ (.bool M)).setCell ⟨H,1,none⟩ (.string ⟨S.toArray⟩)).drew).cell? ⟨H,0,none⟩=some (.bool M):=y0;have y1':(((W0.setCell ⟨H,0,none⟩ (.bool M)).setCell ⟨H,1,none⟩ (.string ⟨S.toArray⟩)).drew).cell? ⟨H,1,none⟩=some (.string ⟨S.toArray⟩):=y1
   go_wp2_with fail
   exact qJ (v:=.tuple #[.agg #[.bool M,.string ⟨S.toArray⟩],.bool true]) (by simp [results,Tryz.results22,go_sem,y0,y1]) rfl ⟨rfl,qG HEy.out⟩
  have hlt:i<n:=by omega
  have q1:(i:Int)+1<=(n:Int):=by omega
  have q0:(0:Int)<=(i:Int)+1:=by omega
  have q9:(i:Int)+1<(T.length:Int):=by have:=HTl.out;omega
  have wk:IntKind.i64.wrap ((i:Int)+1+1)=(i:Int)+1+1:=by rw [qH];omega
  obtain ⟨y,hy⟩:∃ y,T[i+1]?=some y:=⟨_,qX (by have:=HTl.out;omega)⟩;have hsy:i+1<(⟨T.toArray⟩:ByteArray).size:=str_lt (by have:=HTl.out;omega);have hgy:=let_at hy hsy
  have htn:((i:Int)+1).toNat=i+1:=by omega
  have Hy:=Lh hy;have Hlt:=Lh hlt;have Hgd:=Lh (show T.getD (i+1) 0=y by rw [qQ,hy];rfl);have t1:=u8_neq y 73;have t2:=u8_neq y 88;have t3:=u8_neq y 89;have t4:=u8_neq y 90;have t1':((y.toNat:Int) != 73)=!(y == 73):=t1;have t2':((y.toNat:Int) != 88)=!(y == 88):=t2;have t3':((y.toNat:Int) != 89)=!(y == 89):=t3;have t4':((y.toNat:Int) != 90)=!(y == 90):=t4;clear t1 t2 t3 t4 hy hin hi hlt
  by_cases hL:isL y=true
  ·have Hstep:=Lh (show ∀ j,1<=j->j<i+1+1->isL (T.getD j 0)=true from fun j h1 h2=>by
    by_cases e:j=i+1
    ·rw [e,Hgd.out];exact hL
    ·exact Hall.out j h1 (by omega))
   clear Hall
   rcases isL_cases hL with rfl | rfl | rfl | rfl
   ·have hgz:((⟨T.toArray⟩:ByteArray)[i+1]'hsy).toNat=73:=hgy
    clear hgy t1' t2' t3' t4' hL
    go_wp2_with fail
    go_roundg (n-(i+1))
    case measure=>have:=Hk.out;have:=Hlt.out;omega
    case rel=>exact ⟨i+1,by congr 1,Hlt.out,rfl,rfl,Hstep.out⟩
   ·have hgz:((⟨T.toArray⟩:ByteArray)[i+1]'hsy).toNat=88:=hgy
    clear hgy t1' t2' t3' t4' hL
    go_wp2_with fail
    go_roundg (n-(i+1))
    case measure=>have:=Hk.out;have:=Hlt.out;omega
    case rel=>exact ⟨i+1,by congr 1,Hlt.out,rfl,rfl,Hstep.out⟩
   ·have hgz:((⟨T.toArray⟩:ByteArray)[i+1]'hsy).toNat=89:=hgy
    clear hgy t1' t2' t3' t4' hL
    go_wp2_with fail
    go_roundg (n-(i+1))
    case measure=>have:=Hk.out;have:=Hlt.out;omega
    case rel=>exact ⟨i+1,by congr 1,Hlt.out,rfl,rfl,Hstep.out⟩
   ·have hgz:((⟨T.toArray⟩:ByteArray)[i+1]'hsy).toNat=90:=hgy
    clear hgy t1' t2' t3' t4' hL
    go_wp2_with fail
    go_roundg (n-(i+1))
    case measure=>have:=Hk.out;have:=Hlt.out;omega
    case rel=>exact ⟨i+1,by congr 1,Hlt.out,rfl,rfl,Hstep.out⟩
  ·have hLf:isL y=false:=by simpa using hL
   have hB:=H3.out (i+1) y (by omega) Hy.out hLf;obtain ⟨rfl,rfl⟩:=H5.out hB;subst hB
   have n1':y≠73:=fun e=>hL (by rw [e];rfl)
   have n2':y≠88:=fun e=>hL (by rw [e];rfl)
   have n3':y≠89:=fun e=>hL (by rw [e];rfl)
   have n4':y≠90:=fun e=>hL (by rw [e];rfl)
   rw [qV.2 n1'] at t1';rw [qV.2 n2'] at t2';rw [qV.2 n3'] at t3';rw [qV.2 n4'] at t4';have z0:=HZ0.out;have z1:=HZ1.out;clear n1' n2' n3' n4' hL hLf H3 H5 Hmid Hall
   go_wp2_with fail
   exact qJ (v:=.tuple #[.agg #[.bool false,.string ⟨#[]⟩],.bool false]) (by simp [results,Tryz.results22,go_sem,z0,z1]) rfl ⟨rfl,HEz.out⟩
open Go.RowKit Go.Maps Go.WideMaps
theorem laidOutP:laidOutB Tryz.prog=true:=by kernel_rfl
theorem rowP:(94:TypeId)<Tryz.prog.types.size:=of_decide_eq_true (by kernel_rfl)
theorem wideP:(match Tryz.prog.underlying 94 with | some (.array _ _) | some (.struct _)=>true | _=>false)=true:=by rw [Tryz.underlying94]
theorem keyedP:Keyed Tryz.prog 94:=Keyed.of_law (deep_law_laid laidOutP (m:=3) (by omega) rowP (by kernel_rfl) wideP)
def pv (x z:Nat) (m:Bool):Value:=.agg #[.int .u16 (x:Int),.int .u16 (z:Int),.bool m]
theorem wf_u16 {x:Nat} (hx:x<65536):(Lit.int .u16 (x:Int)).wf=true:=by
 show (decide (IntKind.u16.min<=(x:Int)) && decide ((x:Int)<=IntKind.u16.max))=true
 rw [show IntKind.u16.min=0 from rfl,show IntKind.u16.max=65535 from rfl,jJ (by omega),jJ (by omega)]
 rfl
theorem pv_key {x z:Nat} (hx:x<65536) (hz:z<65536) (m:Bool):∃ l,keyOf Tryz.prog 94 (pv x z m)=some l:=by
 have c3:Tryz.prog.cellsOf 94=3:=by kernel_rfl
 have c1:Tryz.prog.cellsOf 92=1:=by kernel_rfl
 have cb:Tryz.prog.cellsOf 4=1:=by kernel_rfl
 have hkt:Tryz.prog.keyType 94=true:=by kernel_rfl
 obtain ⟨n,hn⟩:∃ n,Tryz.prog.types.size=n+1:=⟨Tryz.prog.types.size-1,(Nat.sub_add_cancel (yQ (qI _) rowP)).symm⟩;have wx:=wf_u16 hx;have wz:=wf_u16 hz;unfold keyOf pv;simp only [Tryz.underlying94];rw [qU (by simp [hkt,Value.formed,Tryz.underlying94,c3]),hn];refine ⟨.string (keyBytes [.int .u16 (x:Int),.int .u16 (z:Int),.bool m]),?_⟩
 simp [Program.keyLits,Tryz.underlying94,Tryz.underlying92,Tryz.underlying4,Value.cells,c3,c1,cb,wx,wz]
noncomputable def kl (x z:Nat) (m:Bool):Lit:=(keyOf Tryz.prog 94 (pv x z m)).getD (.bool false)
theorem kl_eq {x z:Nat} (hx:x<65536) (hz:z<65536) (m:Bool):keyOf Tryz.prog 94 (pv x z m)=some (kl x z m):=by
 obtain ⟨l,hl⟩:=pv_key hx hz m;unfold kl;rw [hl]
 rfl
theorem kl_key {x z:Nat} (hx:x<65536) (hz:z<65536) (m:Bool):WideAt.IsKeyLit (kl x z m):=keyedP.key (kl_eq hx hz m)
theorem kl_inj {x z x' z':Nat} {m m':Bool} (hx:x<65536) (hz:z<65536) (hx':x'<65536) (hz':z'<65536) (h:kl x z m=kl x' z' m'):x=x'/\z=z'/\m=m':=by
 have h1:=kl_eq hx hz m;rw [h] at h1;have h2:=keyedP.inj h1 (kl_eq hx' hz' m');unfold pv at h2;injection h2 with h2;have e0:=congrArg (fun a:Array Value=>a[0]?) h2;have e1:=congrArg (fun a:Array Value=>a[1]?) h2;have e2:=congrArg (fun a:Array Value=>a[2]?) h2;simp only [List.getElem?_toArray,List.getElem?_cons_zero,List.getElem?_cons_succ,yX,Value.int.injEq,Value.bool.injEq,true_and] at e0 e1 e2;exact ⟨by omega,by omega,e2⟩
structure GrpM (w:World) (B:Nat) (keys:List (Nat × Nat)):Prop where
 ok:∀ p ∈ keys,p.1<65536/\p.2<65536
 map:w.ownsMap Tryz.prog 94 (unitElem (H:=Unit)) B keys.length (setOf (.agg []) (keys.map fun p=>kl p.1 p.2 false))
theorem GrpM.lt {w:World} {B:Nat} {keys:List (Nat × Nat)} (h:GrpM w B keys):B<w.heap.size:=by
 obtain ⟨es,cl,h1,_⟩:=h.map;exact (gS.1 h1).1
theorem GrpM.ext {w w':World} {B:Nat} {keys:List (Nat × Nat)} (h:GrpM w B keys) (k:Ext w w'):GrpM w' B keys:=by
 have hl:=h.lt;obtain ⟨es,cl,h1,h2⟩:=h.map;exact ⟨h.ok,es,cl,(k.block _ hl).trans h1,h2⟩
theorem GrpM.has {w:World} {B:Nat} {keys:List (Nat × Nat)} (h:GrpM w B keys) {x z:Nat} (hx:x<65536) (hz:z<65536):Maps.has (setOf (H:=Unit) (.agg []) (keys.map fun p=>kl p.1 p.2 false)) (kl x z false)=decide ((x,z) ∈ keys):=by
 rw [has_setOf _ _ _ (fun l hl=>by
  obtain ⟨p,hp,rfl⟩:=yU.1 hl
  exact kl_key (h.ok p hp).1 (h.ok p hp).2 false)]
 rw [Bool.eq_iff_iff,List.any_eq_true,jZ]
 constructor
 ·rintro ⟨l,hl,hs⟩
  obtain ⟨p,hp,rfl⟩:=yU.1 hl
  have e:kl p.1 p.2 false=kl x z false:=by
   by_cases e:kl p.1 p.2 false=kl x z false
   ·exact e
   ·rw [sameKey_ne e] at hs
    exact absurd hs (by decide)
  obtain ⟨e1,e2,_⟩:=kl_inj (h.ok p hp).1 (h.ok p hp).2 hx hz e
  have:p=(x,z):=by rw [<-e1,<-e2]
  rw [<-this];exact hp
 ·intro hm
  exact ⟨kl x z false,yU.2 ⟨(x,z),hm,rfl⟩,WideAt.sameKey_self (kl_key hx hz false)⟩
theorem zero_u (w:World):(zeroValue 95).run Tryz.prog w=.ok (.agg #[]) w:=by kernel_rfl
theorem has_any (B:Nat) (keys:List (Nat × Nat)) (x z:Nat) (m:Bool) (w:World) (h:GrpM w B keys) (hx:x<65536) (hz:z<65536) :
  Calls Tryz.prog 66 #[.map (some B),pv x z m] w fun e w'=>e=.returned (.bool (decide ((x,z) ∈ keys)))/\Ext w w':=by
 obtain ⟨D,hD⟩:∃ D,decide ((x,z) ∈ keys)=D:=⟨_,rfl⟩;have hh:=h.has hx hz;rw [hD] at hh ⊢;obtain ⟨H,hH⟩:∃ H,w.heap.size=H:=⟨_,rfl⟩;obtain ⟨W0,hW0⟩:∃ W0,w.alloc (.cells #[.int .u16 (x:Int),.int .u16 (z:Int),.bool false] 94)=W0:=⟨_,rfl⟩
 have E0:Ext w W0:=by rw [<-hW0];exact ext_al _ _
 have hr:W0.heap[H]?=some (.cells #[.int .u16 (x:Int),.int .u16 (z:Int),.bool false] 94 (0,0)):=by rw [<-hW0,<-hH];exact qW w _
 have hM:=(h.ext E0).map;have hkey:=kl_eq hx hz false;have hk2:keyOf Tryz.prog 94 (.agg #[.int .u16 (x:Int),.int .u16 (z:Int),.bool false])=some (kl x z false):=hkey;have HM:=Lh hM;have HW0:=Lh hW0;have HH:=Lh hH;have HE0:=Lh E0;clear h hD hkey hW0 hH E0 hM;unfold pv
 go_enter Tryz.func66,Tryz.ntmps66
 go_upto_region 2 with fail
 rw [HW0.out,HH.out];clear HW0 HH
 have hi3:(Tryz.prog.info? 94).map (·.size)=some (#[Value.int .u16 (x:Int),.int .u16 (z:Int),.bool false]:Array Value).size:=by kernel_rfl
 have hown:=HM.out
 go_wp2_with (first
  | refine wpList_load_row rfl 94 _ rfl H rfl 94 _ (0,0) _ hr Tryz.underlying94 rfl hi3 ?_
  | (at_lookup;refine wpList_lookup_own_unit _ rfl _ _ 47 rfl 94 95 keyedP Tryz.underlying47 (zero_u _) B keys.length _ rfl hown _ _ rfl hk2 ?_;rw [hh]))
 go_ret
 exact ⟨rfl,HE0.out.trans (ext_al _ _)⟩
open Go.RowKit Go.Maps Go.WideMaps Go.Shelf Go.Sort
attribute [local go_sem] Oper.semAt_some
structure PK where
 x:Nat
 z:Nat
 m:Bool
 hx:x<65536
 hz:z<65536
def pvK (p:PK):Value:=.agg #[.int .u16 (p.x:Int),.int .u16 (p.z:Int),.bool p.m]
noncomputable def klK (p:PK):Lit:=kl p.x p.z p.m
theorem klK_eq (p:PK):keyOf Tryz.prog 94 (pvK p)=some (klK p):=kl_eq p.hx p.hz p.m
theorem klK_inj {p q:PK} (h:klK p=klK q):p=q:=by
 obtain ⟨e1,e2,e3⟩:=kl_inj p.hx p.hz q.hx q.hz h;obtain ⟨a,b,c,_,_⟩:=p;obtain ⟨a',b',c',_,_⟩:=q;simp only at e1 e2 e3;subst e1 e2 e3
 rfl
theorem u16_of {a:Int} (h:(Lit.int .u16 a).wf=true):∃ x:Nat,a=(x:Int)/\x<65536:=by
 have h1:(decide (IntKind.u16.min<=a) && decide (a<=IntKind.u16.max))=true:=h;rw [show IntKind.u16.min=0 from rfl,show IntKind.u16.max=65535 from rfl,Bool.and_eq_true,jZ,jZ] at h1;exact ⟨a.toNat,by omega,by omega⟩
theorem pvK_of {key:Value} {l:Lit} (h:keyOf Tryz.prog 94 key=some l):∃ p:PK,key=pvK p:=by
 have c3:Tryz.prog.cellsOf 94=3:=by kernel_rfl
 have c1:Tryz.prog.cellsOf 92=1:=by kernel_rfl
 have cb:Tryz.prog.cellsOf 4=1:=by kernel_rfl
 obtain ⟨n,hn⟩:∃ n,Tryz.prog.types.size=n+1:=⟨Tryz.prog.types.size-1,(Nat.sub_add_cancel (yQ (qI _) rowP)).symm⟩;unfold keyOf at h;simp only [Tryz.underlying94] at h
 split at h
 rotate_left 1
 ·simp at h
 rename_i hf
 have hfm:key.formed Tryz.prog 94=true:=by
  rw [Bool.and_eq_true] at hf;exact hf.2
 cases key with
 | agg cs =>
  have hs:cs.size=3:=by simpa [Value.formed,Tryz.underlying94,c3] using hfm
  obtain ⟨l⟩:=cs
  match l,hs with
  | [v0,v1,v2],_ =>
   rw [hn] at h
   simp [Program.keyLits,Tryz.underlying94,Value.cells,c3,c1,cb] at h
   cases v0 with
   | int q0 a0 =>
    by_cases g0:q0=.u16/\(Lit.int .u16 a0).wf=true
    ·cases v1 with
     | int q1 a1 =>
      by_cases g1:q1=.u16/\(Lit.int .u16 a1).wf=true
      ·cases v2 with
       | bool m =>
        obtain ⟨x0,rfl,h0⟩:=u16_of g0.2;obtain ⟨x1,rfl,h1⟩:=u16_of g1.2;obtain ⟨rfl,_⟩:=g0;obtain ⟨rfl,_⟩:=g1;exact ⟨⟨x0,x1,m,h0,h1⟩,rfl⟩
       | _=>simp [g0,g1] at h
      ·simp [g0,g1] at h
     | _=>simp [g0] at h
    ·simp [g0] at h
   | _=>simp at h
 | _=>simp [Value.formed,Tryz.underlying94] at hfm
def ColP (D0:DataW Unit) (left:Lit->Bool) (ss:List PK):Prop:=ss.Nodup/\∀ x,x ∈ ss↔(Maps.has D0 (klK x)=true/\left (klK x)=false)
theorem ColP.start (D0:DataW Unit):ColP D0 (Maps.has D0) []:=⟨List.nodup_nil,fun x=>by cases Maps.has D0 (klK x)<;>simp⟩
theorem ColP.step {D0:DataW Unit} {left:Lit->Bool} {ss:List PK} {x:PK} (h:ColP D0 left ss) (hl:left (klK x)=true) (hx:Maps.has D0 (klK x)=true):ColP D0 (fun z=>left z && !z.sameKey (klK x)) (ss++[x]):=by
 have hk:WideAt.IsKeyLit (klK x):=kl_key x.hx x.hz x.m
 have hn:x ∉ ss:=fun hm=>by
  have:=((h.2 x).1 hm).2;rw [hl] at this;exact absurd this (by decide)
 refine ⟨?_,fun y=>?_⟩
 ·rw [List.nodup_append]
  refine ⟨h.1,by simp,fun a ha b hb=>?_⟩
  have:b=x:=by simpa using hb
  rw [this]
  exact fun e=>hn (e ▸ ha)
 ·simp only [jI,yG,h.2 y,Bool.and_eq_false_iff,Bool.not_eq_false']
  constructor
  ·rintro (⟨h1,h2⟩ | rfl)
   ·exact ⟨h1,qM h2⟩
   ·exact ⟨hx,qO (WideAt.sameKey_self hk)⟩
  ·rintro ⟨h1,h2 | h2⟩
   ·exact qM ⟨h1,h2⟩
   ·exact qO (klK_inj (WideAt.sameKey_eq h2))
theorem keys1_in (m:Nat) (hm1:1<=m) (l Bm b nn:Nat) (D0:DataW Unit) (J Jx:List PK->World->Prop)
  (hY:∀ pre x W,J pre W->pre.length<Maps.size D0->YieldAt Fence.wide (m-1) Tryz.prog l #[pvK x] W fun e W'=>(e=.returned (.bool true)/\J (pre++[x]) W'/\KeepsWalks W W')\/(e=.returned (.bool false)/\Jx (pre++[x]) W'))
  (W:World) (hJ:AbidesFrom W.heap.size J) (hm:W.cell? ⟨Bm,0,none⟩=some (.map (some b))) (hown:W.ownsMap Tryz.prog 94 (unitElem (H:=Unit)) b nn D0) (h0:J [] W) :
  CallsIn Fence.wide m Tryz.prog 145 #[.func (.yield l) #[] #[],.pointer (some ⟨Bm,0,none⟩)] W fun e W'=>(∃ v,e=.returned v)/\((∃ ss:List PK,(ss.length<=Maps.size D0/\∀ x,x ∈ ss↔Maps.has D0 (klK x)=true)/\J ss W')\/(∃ pre:List PK,True/\Jx pre W')):=by
 refine callsIn_of_wp Tryz.func145 rfl trivial ?_ rfl;simp only [Tryz.ntmps145,List.size_toArray,jB,List.length_nil,Nat.reduceAdd,Nat.reduceSub,Array.replicate_succ,Array.replicate_zero,List.push_toArray,List.append_toArray,List.nil_append,List.cons_append]
 gi_wp2_with (first
  | (gi_at_range;refine wpListIn_range_own _ rfl _ 47 rfl 94 95 keyedP Tryz.underlying47 _ b nn _ rfl hown ?_;intro w0 hrg0 hg0 hs0)
  | gi_in)
 go_frame
 gi_loopw [3] (fun _ wr=>∃ (left:Lit->Bool) (cnt:Nat) (ss:List PK),wr.ranges Tryz.prog 94 (unitElem (H:=Unit)) b W.heap.size nn D0 left cnt/\ss.length+cnt<=Maps.size D0/\ColP D0 left ss/\J ss wr)
  (fun _ wr=>wr.rangeLeft b W.heap.size)
 case atStart =>
  exact ⟨_,_,[],hrg0,by simp,ColP.start D0,hJ [] W w0 none h0 hg0 (fun r e=>by cases e)⟩
 case round =>
  obtain ⟨left,cnt,ss,hrg,hcs,hC,hJs⟩:=hrel
  gi_wp2_with (first
   | (gi_at_next;refine wpListIn_next_ranges _ rfl _ rfl 94 keyedP (unitElem (H:=Unit)) pvK id (fun key kl hk=>pvK_of hk) (fun v _ _=>⟨v,rfl⟩) b W.heap.size nn _ _ _ rfl hrg ?_ ?_)
   | gi_in)
  ·intro hc0 hl0
   gi_wp2
   go_end0
   exact ⟨⟨_,rfl⟩,qM ⟨ss,⟨by omega,fun x=>by rw [hC.2 x,hl0];simp⟩,hJs⟩⟩
  ·intro x c kl yd yp w2 cnt2 hkey hlk hv hat hrg2 hlt hg2 hs2 hen
   have hkl:kl=klK x:=by
    rw [klK_eq x] at hkey;exact (Option.some.inj hkey).symm
   subst hkl;have hhas:Maps.has D0 (klK x)=true:=has_true_of_atKey hat;have hJ2:J ss w2:=hJ ss wr w2 (some W.heap.size) hJs hg2 (fun r e=>by cases e;exact ⟨qZ _,hrg.iter_walk⟩);obtain ⟨W3,hW3⟩:∃ W3,w2.alloc (.cells #[.int .u16 (x.x:Int),.int .u16 (x.z:Int),.bool x.m] 94)=W3:=⟨_,rfl⟩
   have hJ3:J ss W3:=by rw [<-hW3];exact hJ ss w2 _ none hJ2 (World.grownBy_alloc w2 _ none) (fun r e=>by cases e)
   have hrg3:W3.ranges Tryz.prog 94 (unitElem (H:=Unit)) b W.heap.size nn D0 (fun z=>left z && !z.sameKey (klK x)) cnt2:=by rw [<-hW3];exact hrg2.alloc _
   obtain ⟨fn,tmps,assign,body,hy,hR⟩:=hY ss x W3 hJ3 (by omega)
   have hr3:W3.heap[w2.heap.size]?=some (.cells #[.int .u16 (x.x:Int),.int .u16 (x.z:Int),.bool x.m] 94 (0,0)):=by rw [<-hW3];exact qW w2 _
   have k0:W3.cell? ⟨w2.heap.size,0,none⟩=some (.int .u16 (x.x:Int)):=by rw [qD W3 _ 0 _ _ (0,0) hr3];rfl
   have k1:W3.cell? ⟨w2.heap.size,1,none⟩=some (.int .u16 (x.z:Int)):=by rw [qD W3 _ 1 _ _ (0,0) hr3];rfl
   have k2:W3.cell? ⟨w2.heap.size,2,none⟩=some (.bool x.m):=by rw [qD W3 _ 2 _ _ (0,0) hr3];rfl
   unfold pvK at hy hen ⊢;clear hs2 hr3
   gi_wp2
   refine hR.mono ?_;have hC2:=hC.step hlk hhas;rintro e W4 (⟨rfl,hJ4,hk4⟩ | ⟨rfl,hJx4⟩)
   ·gi_wp2
    have hrg4:=hrg3.of_walks hk4
    go_roundw
    case rel=>exact ⟨_,cnt2,ss++[x],hrg4,by simp;omega,hC2,hJ4⟩
    case measure=>rw [hrg4.left_eq,hrg.left_eq];exact hlt
   ·gi_wp2
    refine qJ (results_none rfl _ _ _) rfl ?_;exact ⟨⟨_,rfl⟩,qO ⟨ss++[x],trivial,hJx4⟩⟩
theorem keys_stops (m:Nat) (hm1:1<=m) (Bm b nn:Nat) (D0:DataW Unit) (w:World) (hBm:Bm<w.heap.size) (hm:w.cell? ⟨Bm,0,none⟩=some (.map (some b))) (hown:w.ownsMap Tryz.prog 94 (unitElem (H:=Unit)) b nn D0) :
  SeqStopsK Fence.wide m Tryz.prog 145 #[.pointer (some ⟨Bm,0,none⟩)] (fun x:PK=>#[pvK x]) KeepsWalks (fun xs=>xs.length<=Maps.size D0/\∀ x,x ∈ xs↔Maps.has D0 (klK x)=true) (fun _=>True) (Maps.size D0) w:=fun l J Jx W hW hJ _ hY h0=>by
 have hown':W.ownsMap Tryz.prog 94 (unitElem (H:=Unit)) b nn D0:=by
  have hbl:=hown.lt;obtain ⟨es,clock,hb,Ft,hs,hD⟩:=hown;exact ⟨es,clock,(hW.block b hbl).trans hb,Ft,hs,hD⟩
 exact keys1_in m hm1 l Bm b nn D0 J Jx hY W hJ ((hW.cell (p:=⟨Bm,0,none⟩) hBm).trans hm) hown' h0
theorem keys_any (b:Nat) (w:World):Calls Tryz.prog 125 #[.map (some b)] w fun e w'=>e=.returned (.func (.func 145) #[] #[.pointer (some ⟨w.heap.size,0,none⟩)])/\w'=w.alloc (.cells #[.map (some b)] 47):=by
 go_enter Tryz.func125,Tryz.ntmps125
 go_wp2_with fail
 go_ret
 exact ⟨rfl,rfl⟩
open Go.RowKit Go.Maps Go.WideMaps Go.Shelf Go.Sort
attribute [local go_sem] Oper.semAt_some
def pcs (ss:List PK):List Value:=ss.flatMap fun p=>[.int .u16 (p.x:Int),.int .u16 (p.z:Int),.bool p.m]
theorem pcs_snoc (ss:List PK) (x:PK):pcs (ss++[x])=pcs ss++[.int .u16 (x.x:Int),.int .u16 (x.z:Int),.bool x.m]:=by unfold pcs;simp
theorem P_info:(Tryz.prog.info? 94).map (fun i=>(i.zero,i.size,i.bytes))=some (some (.agg #[.int .u16 0,.int .u16 0,.bool false]),3,6):=by kernel_rfl
theorem three_new (w:World) (a b c:Value) (e:TypeId):∀ j u,([a,b,c]:List Value)[j]?=some u->(w.alloc (.cells #[a,b,c] e)).cell? ((⟨w.heap.size,0,none⟩:Addr).add j)=some u:=by
 intro j u hu
 have hadd:(⟨w.heap.size,0,none⟩:Addr).add j=⟨w.heap.size,j,none⟩:=by unfold Addr.add;split<;>simp_all
 rw [hadd,qD _ _ j _ _ (0,0) (qW w _)]
 match j,hu with
 | 0,hu=>simpa using hu
 | 1,hu=>simpa using hu
 | 2,hu=>simpa using hu
 | k+3,hu=>simp at hu
theorem appendSeq_any (Bm b nn:Nat) (D0:DataW Unit) (w:World) (hBm:Bm<w.heap.size) (hm:w.cell? ⟨Bm,0,none⟩=some (.map (some b))) (hown:w.ownsMap Tryz.prog 94 (unitElem (H:=Unit)) b nn D0) (hN:Maps.size D0<=65536) :
  Calls Tryz.prog 144 #[.slice none 0 0,.func (.func 145) #[] #[.pointer (some ⟨Bm,0,none⟩)]] w fun e W'=>∃ v ss,e=.returned v/\W'.ownsRow w.heap.size 94 3 v ss.length (pcs ss)/\(ss.length<=Maps.size D0/\∀ x,x ∈ ss↔Maps.has D0 (klK x)=true)/\Ext w W':=by
 refine (callsIn_wide (n:=5)).1 ?_;obtain ⟨i0,hi,hz0,hz1,hz2⟩:=info_parts P_info;refine callsIn_of_wp_marks Tryz.func144 rfl trivial ?_ rfl;simp only [Tryz.ntmps144,List.size_toArray,jB,List.length_nil,Nat.reduceAdd,Nat.reduceSub,Array.replicate_succ,Array.replicate_zero,List.push_toArray,List.append_toArray,List.nil_append,List.cons_append]
 gi_wp2
 obtain ⟨U,hU⟩:∃ U,w.alloc (.cells #[.slice none 0 0] 45)=U:=⟨_,rfl⟩
 have EU:Ext w U:=by rw [<-hU];exact ext_al _ _
 have bO:Boxed U w.heap.size 45 (.slice none 0 0):=by rw [<-hU];exact Boxed.new w _ _
 have sU:U.heap.size=w.heap.size+1:=by rw [<-hU];simp
 have hmU:=cell_ext hm EU
 have hownU:U.ownsMap Tryz.prog 94 (unitElem (H:=Unit)) b nn D0:=by
  have hbl:=hown.lt;obtain ⟨es,clock,hb,Ft,hs,hD⟩:=hown;exact ⟨es,clock,(EU.block b hbl).trans hb,Ft,hs,hD⟩
 rw [hU];refine wpIn_rangeFunc_ownH (F:=Fence.wide) rfl (by omega) (gf:=145) (lb:=#[.pointer (some ⟨Bm,0,none⟩)]) rfl trivial (enters_of Tryz.func145 (by kernel_rfl) rfl)
  (keys_stops 4 (by omega) Bm b nn D0 U (by omega) hmU hownU) walksK_t walksK_b (Below.refl _ _) (fun _=>rfl)
  (fun pre W=>(∃ v,Boxed W w.heap.size 45 v/\W.ownsRow w.heap.size 94 3 v pre.length (pcs pre)/\True)/\Below w.heap.size w W)
  (fun _ _ _=>False)
  (OwnFrom.and (Own.from (holdsRow_own w.heap.size w.heap.size 45 94 3 (fun pre:List PK=>pre.length) (fun pre=>pcs pre) (fun _ _=>True)) _) (ownFrom_below (qZ _) (by omega)))
  (fun _ _ _ _ _ hs _ _=>hs)
  ⟨⟨_,bO,World.ownsRow_nil _ _ _ _,trivial⟩,EU⟩
  (fun x a' W=>∃ Bx,W.heap[Bx]?=some (.cells #[.int .u16 (x.x:Int),.int .u16 (x.z:Int),.bool x.m] 94 (0,0))/\a'={ tmps:=#[.slice none 0 0,.func (.func 145) #[] #[.pointer (some ⟨Bm,0,none⟩)],.pointer (some ⟨w.heap.size,0,none⟩),undef,.slice none 0 0,.pointer (some ⟨Bx,0,none⟩),.func (.func 145) #[] #[.pointer (some ⟨Bm,0,none⟩)],pvK x,undef,undef,undef,undef,undef],defers:=[] })
  ?own ?assign ?body ?done ?stop
 case own =>
  rintro x a' _ W W' row ⟨Bx,h1,h2⟩ hg hr;refine ⟨Bx,(hg.block Bx (gS.1 h1).1 (fun e=>?_)).trans h1,h2⟩;obtain ⟨_,o,ho,hc⟩:=hr Bx e.symm;rw [h1] at ho
  cases ho
  cases hc
 case assign =>
  rintro l pre x W K ⟨⟨v,hv,hrow,_⟩,hB⟩ hK;have hpx:pvK x=.agg #[.int .u16 (x.x:Int),.int .u16 (x.z:Int),.bool x.m]:=rfl;rw [hpx]
  gi_wp2
  exact hK _ _ ((KeepsOthers.alloc W _).from _) (KeepsOthers.alloc W _).walks ⟨⟨v,hv.alloc _,hrow.alloc _,trivial⟩,hB.alloc hB.size _⟩ ⟨W.heap.size,qW W _,rfl⟩
 case body =>
  rintro l pre x a' W hl ⟨r,hr⟩ ⟨⟨v,hv,hrow,_⟩,hB⟩ ⟨Bx,hx,rfl⟩ hlt;have hc:=hv.cell
  have k0:W.cell? ⟨Bx,0,none⟩=some (.int .u16 (x.x:Int)):=by rw [qD W _ 0 _ _ (0,0) hx];rfl
  have k1:W.cell? ⟨Bx,1,none⟩=some (.int .u16 (x.z:Int)):=by rw [qD W _ 1 _ _ (0,0) hx];rfl
  have k2:W.cell? ⟨Bx,2,none⟩=some (.bool x.m):=by rw [qD W _ 2 _ _ (0,0) hx];rfl
  have hbs:=hB.size
  gi_wp2_with (gi_at_builtin;refine wpListIn_append_own _ rfl _ _ 45 rfl w.heap.size 94 i0 (.agg #[.int .u16 0,.int .u16 0,.bool false]) 3 6 Tryz.underlying45 hi hz0 hz1 hz2 rfl (by decide) _ pre.length (pcs pre) rfl (hrow.alloc _) ⟨W.heap.size,0,none⟩ 1 1 [.int .u16 (x.x:Int),.int .u16 (x.z:Int),.bool x.m] rfl rfl (three_new _ _ _ _ _) (by simp [Value.oneCell']) (by unfold maxLen;omega) (by omega) (by simp;omega) ?_;intro v' w1 hown' hgrow _;obtain ⟨g',cap',rfl⟩:=ownsRow_succ hown';obtain ⟨hv1,hv2,hr2,hk2,hb2⟩:=hv.appended (by decide) hrow hB.size (qZ _) hown' hgrow;have hc1:=hv1.cell;have hf1:=hv1.frozen)
  refine ⟨hk2.from _,hk2.walks,⟨_,hv2,?_,trivial⟩,hB.trans hb2⟩;rw [pcs_snoc,qT];exact hr2
 case done =>
  rintro D ys W hD hS ⟨⟨v,hv,hrow,_⟩,hB⟩ hK;have hc:=hv.cell
  gi_wp2
  refine ⟨by simp,.inl ⟨_,_,rfl,run_takeDeferred hK,?_⟩⟩;exact ⟨_,results_tmp rfl _ _ _,v,ys,rfl,ownsRow_putObj hrow _ hK rfl,hS,hB.trans (belowK_b (w:=w) (qZ _) W D _ _ (by omega) hK rfl rfl)⟩
 case stop =>
  rintro D c pre W _ _ h _;exact h.elim
theorem collect_any (Bm b nn:Nat) (D0:DataW Unit) (w:World) (hBm:Bm<w.heap.size) (hm:w.cell? ⟨Bm,0,none⟩=some (.map (some b))) (hown:w.ownsMap Tryz.prog 94 (unitElem (H:=Unit)) b nn D0) (hN:Maps.size D0<=65536) :
  Calls Tryz.prog 124 #[.func (.func 145) #[] #[.pointer (some ⟨Bm,0,none⟩)]] w fun e W'=>∃ v ss,e=.returned v/\W'.ownsRow w.heap.size 94 3 v ss.length (pcs ss)/\(ss.length<=Maps.size D0/\∀ x,x ∈ ss↔Maps.has D0 (klK x)=true)/\Ext w W':=by
 have HA:=Lh (appendSeq_any Bm b nn D0 w hBm hm hown hN);clear hm hown hN
 go_enter Tryz.func124,Tryz.ntmps124
 go_wp2_with fail
 refine HA.out.mono ?_;rintro e W' ⟨v,ss,rfl,h1,h2,h3⟩;have H1:=Lh h1;have H2:=Lh h2;have H3:=Lh h3;clear h1 h2 h3
 go_wp2_with fail
 go_ret
 exact ⟨v,ss,rfl,H1.out,H2.out,H3.out⟩
theorem u16_bv {x:Nat} (hx:x<65536):(BitVec.ofInt 16 (x:Int)).toNat=x:=by
 rw [BitVec.toNat_ofInt];omega
theorem xor_u16 {x y:Nat} (hx:x<65536) (hy:y<65536):bits .xor .u16 (x:Int) (y:Int)=((x ^^^ y:Nat):Int):=by
 show IntKind.u16.wrap ((BitVec.ofInt 16 (x:Int) ^^^ BitVec.ofInt 16 (y:Int)).toNat:Int)=_
 rw [BitVec.toNat_xor,u16_bv hx,u16_bv hy];have:x ^^^ y<2 ^ 16:=Nat.xor_lt_two_pow (n:=16) hx hy;rw [show IntKind.u16.wrap ((x ^^^ y:Nat):Int)=(((x ^^^ y:Nat):Int) % 65536) from rfl];omega
theorem and_u16 {x y:Nat} (hx:x<65536) (hy:y<65536):bits .and .u16 (x:Int) (y:Int)=((x &&& y:Nat):Int):=by
 show IntKind.u16.wrap ((BitVec.ofInt 16 (x:Int) &&& BitVec.ofInt 16 (y:Int)).toNat:Int)=_
 rw [BitVec.toNat_and,u16_bv hx,u16_bv hy];have:x &&& y<2 ^ 16:=yQ Nat.and_le_left hx;rw [show IntKind.u16.wrap ((x &&& y:Nat):Int)=(((x &&& y:Nat):Int) % 65536) from rfl];omega
structure PuB (w:World) (g:Nat) (x z:Nat) (m:Bool):Prop where
 row:w.heap[g]?=some (.cells #[.int .u16 (x:Int),.int .u16 (z:Int),.bool m] 94 (0,0))
section
variable {w w':World} {g x z:Nat} {m:Bool}
theorem PuB.lt (h:PuB w g x z m):g<w.heap.size:=(gS.1 h.row).1
theorem PuB.ext (h:PuB w g x z m) (k:Ext w w'):PuB w' g x z m:=⟨(k.block _ h.lt).trans h.row⟩
theorem PuB.x0 (h:PuB w g x z m):w.cell? ⟨g,0,none⟩=some (.int .u16 (x:Int)):=by rw [qD w g 0 _ _ (0,0) h.row];rfl
theorem PuB.x1 (h:PuB w g x z m):w.cell? ⟨g,1,none⟩=some (.int .u16 (z:Int)):=by rw [qD w g 1 _ _ (0,0) h.row];rfl
theorem PuB.x2 (h:PuB w g x z m):w.cell? ⟨g,2,none⟩=some (.bool m):=by rw [qD w g 2 _ _ (0,0) h.row];rfl
end
theorem PuB.new (w:World) (x z:Nat) (m:Bool):PuB (w.alloc (.cells #[.int .u16 (x:Int),.int .u16 (z:Int),.bool m] 94)) w.heap.size x z m:=⟨qW w _⟩
theorem Letters_any (x z x' z':Nat) (m m':Bool) (w:World) (hx:x<65536) (hz:z<65536) (hx':x'<65536) (hz':z'<65536) :
  Calls Tryz.prog 67 #[pv x z m,pv x' z' m'] w fun e w'=>e=.returned (pv (x ^^^ x') (z ^^^ z') false)/\Ext w w':=by
 have e1:=xor_u16 hx hx';have e2:=xor_u16 hz hz';obtain ⟨X,hX⟩:∃ X,x ^^^ x'=X:=⟨_,rfl⟩;obtain ⟨Z,hZ⟩:∃ Z,z ^^^ z'=Z:=⟨_,rfl⟩;rw [hX] at e1 ⊢;rw [hZ] at e2 ⊢;clear hX hZ hx hz hx' hz';unfold pv
 go_enter Tryz.func67,Tryz.ntmps67
 have hr:=qW ((w.alloc (.cells #[.int .u16 (x:Int),.int .u16 (z:Int),.bool m] 94)).alloc (.cells #[.int .u16 (x':Int),.int .u16 (z':Int),.bool m'] 94)) (.cells #[.int .u16 (X:Int),.int .u16 (Z:Int),.bool false] 94);rw [yO,yO] at hr;have HR:=Lh hr;clear hr
 go_wp2_with fail
 have hr:=HR.out;refine qJ (v:=.agg #[.int .u16 (X:Int),.int .u16 (Z:Int),.bool false]) ?_ rfl ⟨rfl,((ext_al _ _).trans (ext_al _ _)).trans (ext_al _ _)⟩;exact results_cell_row rfl _ _ (w.heap.size+1+1) _ _ _ _ rfl hr Tryz.underlying94 rfl (by kernel_rfl)
theorem pop_at:∀ i:Nat,i<256->∃ h:i<Lib.pop8tab.size,(Lib.pop8tab[i]'h).toNat=pcF 8 i:=by
 have h:∀ i:Fin 256,∃ h:i.1<Lib.pop8tab.size,(Lib.pop8tab[i.1]'h).toNat=pcF 8 i.1:=by decide +kernel
 exact fun i hi=>h ⟨i,hi⟩
theorem pcF_add:∀ (f g x:Nat),pcF (f+g) x=pcF f (x % 2 ^ f)+pcF g (x / 2 ^ f)
 | 0,g,x=>by simp [pcF]
 | f+1,g,x=>by
  rw [show f+1+g=f+g+1 by omega,pcF,pcF_add f g (x / 2),pcF];have e1:x % 2 ^ (f+1) % 2=x % 2:=Nat.mod_mod_of_dvd x ⟨2 ^ f,by rw [jK,jU]⟩
  have e2:x % 2 ^ (f+1) / 2=x / 2 % 2 ^ f:=by rw [jK,jU,Nat.mod_mul_right_div_self]
  have e3:x / 2 ^ (f+1)=x / 2 / 2 ^ f:=by rw [jK,jU,Nat.div_div_eq_div_mul]
  rw [e1,e2,e3];omega
theorem pc_split (x:Nat):pcF 16 x=pcF 8 (x / 256)+pcF 8 (x % 256):=by
 rw [show (16:Nat)=8+8 from rfl,pcF_add 8 8 x,Nat.add_comm]
theorem OnesCount16_any (x:Nat) (w:World) (hx:x<65536) :
  Calls Tryz.prog 113 #[.int .u16 (x:Int)] w fun e w'=>e=.returned (.int .i64 ((pcF 16 x:Nat):Int))/\Ext w w':=by
 have ha:=and_u16 hx (show 255<65536 by decide);rw [show x &&& 255=x % 256 from Nat.and_two_pow_sub_one_eq_mod x 8] at ha;have ha':bits .and .u16 (x:Int) 255=((x % 256:Nat):Int):=ha;obtain ⟨hi,hhi⟩:∃ h,x / 256=h:=⟨_,rfl⟩;obtain ⟨lo,hlo⟩:∃ l,x % 256=l:=⟨_,rfl⟩;obtain ⟨s1,g1⟩:=pop_at hi (by omega);obtain ⟨s2,g2⟩:=pop_at lo (by omega)
 have hd:(x:Int) / 256=(hi:Int):=by omega
 have q1:(0:Int)<=(hi:Int):=by omega
 have q2:(hi:Int)<(Lib.pop8tab.size:Int):=by omega
 have q3:(0:Int)<=(lo:Int):=by omega
 have q4:(lo:Int)<(Lib.pop8tab.size:Int):=by omega
 have Hs:=Lh (show pcF 16 x=pcF 8 hi+pcF 8 lo by rw [pc_split,hhi,hlo]);rw [hlo] at ha';obtain ⟨a,hA⟩:∃ a,pcF 8 hi=a:=⟨_,rfl⟩;obtain ⟨b,hB⟩:∃ b,pcF 8 lo=b:=⟨_,rfl⟩
 have bA:a<=8:=by rw [<-hA];simp only [pcF];omega
 have bB:b<=8:=by rw [<-hB];simp only [pcF];omega
 rw [hA] at g1 Hs;rw [hB] at g2 Hs
 have wk:IntKind.u8.wrap ((a:Int)+(b:Int))=((a+b:Nat):Int):=by
  rw [show IntKind.u8.wrap ((a:Int)+(b:Int))=(((a:Int)+(b:Int)) % 256) from rfl];omega
 have Hb8:=Lh (show a<=8/\b<=8 from ⟨bA,bB⟩);clear ha hhi hlo hx hA hB bA bB
 go_enter Tryz.func113,Tryz.ntmps113
 go_upto_region 1 with fail
 go_region
 have w64:wrap64 ((a:Int)+(b:Int))=((a+b:Nat):Int):=by have:=Hb8.out;unfold wrap64;omega
 rw [w64]
 go_wp2_with fail
 go_ret
 exact ⟨by rw [Hs.out];rfl,qG (Ext.refl _)⟩
theorem Commutes_any (x z x' z':Nat) (m m':Bool) (w:World) (hx:x<65536) (hz:z<65536) (hx':x'<65536) (hz':z'<65536) :
  Calls Tryz.prog 84 #[pv x z m,pv x' z' m'] w fun e w'=>e=.returned (.bool (((pcF 16 ((x &&& z') ^^^ (z &&& x')):Nat):Int).tmod 2 == 0))/\Ext w w':=by
 have e1:=and_u16 hx hz';have e2:=and_u16 hz hx';obtain ⟨X,hX⟩:∃ X,x &&& z'=X:=⟨_,rfl⟩;obtain ⟨Z,hZ⟩:∃ Z,z &&& x'=Z:=⟨_,rfl⟩
 have bX:X<65536:=by rw [<-hX];exact yQ Nat.and_le_left hx
 have bZ:Z<65536:=by rw [<-hZ];exact yQ Nat.and_le_left hz
 rw [hX] at e1 ⊢;rw [hZ] at e2 ⊢;have e3:=xor_u16 bX bZ;obtain ⟨Y,hY⟩:∃ Y,X ^^^ Z=Y:=⟨_,rfl⟩
 have bY:Y<65536:=by rw [<-hY];exact Nat.xor_lt_two_pow (n:=16) bX bZ
 rw [hY] at e3 ⊢;have HO:=Lh (fun wx=>OnesCount16_any Y wx bY);obtain ⟨n,hn⟩:∃ n,pcF 16 Y=n:=⟨_,rfl⟩;rw [hn] at HO ⊢;clear hX hZ hY hn hx hz hx' hz' bX bZ bY;unfold pv
 go_enter Tryz.func84,Tryz.ntmps84
 go_wp2_with fail
 refine (HO.out _).mono ?_;rintro e w1 ⟨rfl,h1⟩;have H1:=Lh h1;clear h1
 go_wp2_with fail
 go_ret
 exact ⟨rfl,((ext_al _ _).trans (ext_al _ _)).trans H1.out⟩
end Go.Proofs.YtjfomkoedgipjaaGreatDoor
