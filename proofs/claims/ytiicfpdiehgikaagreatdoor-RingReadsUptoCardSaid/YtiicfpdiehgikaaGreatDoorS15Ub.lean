/-
  The reference's numbers: ZOf. The reference's writing, in plain lists. The reference's numbers: ZSmall. The reference's numbers: zodd, zhalf. The reference's numbers: ZTwos. The reference's division, in plain numbers; an append of ints; what a store of the same value leaves. The reference's numbers of circuits in memory: eight numbers by digits and a power, side by side. The reference: is a number nought; -a; an integer.
-/
import Derived.Deep.AppendLies
import Derived.Test.YtiicfpdiehgikaaGreatDoorS14ZM
namespace Go.Proofs.YtiicfpdiehgikaaGreatDoor
set_option maxRecDepth 100000
set_option maxHeartbeats 4000000
open Go.RowKit
theorem zof_few {k u v:Nat} (hu:0<u) (h:10000 ^ k*u≤v) (hv:v≤9223372036854775808):k<5:=by
 apply Nat.lt_of_not_le
 intro hk
 have h1:(10000:Nat) ^ 5≤10000 ^ k:=Nat.pow_le_pow_right (by decide) hk
 have h2:10000 ^ k≤10000 ^ k*u:=Nat.le_mul_of_pos_right _ hu
 omega
theorem zof_step {l:List Nat} {k u v d q:Nat} (hl:l.length=k) (h:zval l+10000 ^ k*u=v) (hd:u % 10000=d) (hq:u / 10000=q):zval (l++[d])+10000 ^ (k+1)*q=v:=by
 rw [zval_snoc,hl,Nat.pow_succ,Nat.mul_assoc,Nat.add_assoc,←Nat.mul_add]
 rw [←h]
 congr 2
 omega
theorem ZOf_any (n:Int) (h1 : -9223372036854775808≤n) (h2:n≤9223372036854775807) (w:World) :
  Calls Tryz.prog 46 #[.int .i64 n] w (ZRet w n 5):=by
 obtain ⟨i0,hi,hz0,hz1,hz2⟩:=info_parts int_info
 have hE:=ext_alloc w (.cells #[.bool false,.slice none 0 0] 35)
 have hR:=zres_new w
 obtain ⟨v,hv⟩:∃ v,n.natAbs=v:=⟨_,rfl⟩
 have hvb:v≤9223372036854775808:=by omega
 by_cases hneg:n<0
 ·obtain ⟨X,hX⟩:∃ X:Nat,IntKind.u64.wrap n=(X:Int):=⟨(IntKind.u64.wrap n).toNat,by rw [IntKind.wrap_u64];omega⟩
  have hX2:IntKind.u64.wrap (-(X:Int))=(v:Int):=by rw [IntKind.wrap_u64] at hX ⊢;omega
  have Hz:Hid (n=if true=true then -(v:Int) else (v:Int)):=by show _=_;simp;omega
  have Hvb:=Lib.hid hvb
  clear hv hvb
  go_enter Tryz.func46,Tryz.ntmps46
  go_wp2_with fail
  generalize w.alloc (.cells #[.bool false,.slice none 0 0] 35)=W0 at *
  clear hX hX2
  go_loopw [3,4] (fun uv dv wr=>∃ (k u:Nat) (l:List Nat),uv=.int .u64 u∧l.length=k∧k≤5∧ZD l∧wr.ownsRow W0.heap.size 3 1 dv k (inC l)∧zval l+10000 ^ k*u=v∧Ext W0 wr) (fun uv _ _=>(intOf uv).toNat)
  case atStart=>exact ⟨0,v,[],by go_num,rfl,by omega,ZD.nil,(show W0.ownsRow W0.heap.size 3 1 (.slice none 0 0) 0 (inC []) from World.ownsRow_nil _ _ _ _),by simp [zval],Ext.refl _⟩
  case round =>
   obtain ⟨k,u,l,rfl,hl,hk,hd,hown,hval,hEr⟩:=hrel
   have Hl:=Lib.hid hl;have Hd:=Lib.hid hd;have Hval:=Lib.hid hval;have Hown:=Lib.hid hown
   by_cases hu:0<u
   ·have hk5:k<5:=zof_few hu (by omega) Hvb.out
    have iu:(0:Int)<(u:Int):=by omega
    obtain ⟨dg,hdg⟩:∃ dg,u % 10000=dg:=⟨_,rfl⟩
    obtain ⟨q,hq⟩:∃ q,u / 10000=q:=⟨_,rfl⟩
    have Hst:=Lib.hid (zof_step hl hval hdg hq)
    have hdl:dg<10000:=by omega
    have hqu:q<u:=by omega
    have hub:u≤9223372036854775808:=by
     have h0:=Hvb.out
     have h1:1≤10000 ^ k:=Nat.one_le_pow _ _ (by decide)
     have h2:1*u≤10000 ^ k*u:=Nat.mul_le_mul_right _ h1
     omega
    have r1:(u:Int).tmod 10000=(dg:Int):=by rw [Int.tmod_eq_emod_of_nonneg (by omega)];omega
    have r2:(u:Int) % 10000=(dg:Int):=by omega
    have r3:(u:Int).tdiv 10000=(q:Int):=by rw [Int.tdiv_eq_ediv_of_nonneg (by omega)];omega
    have r4:(u:Int) / 10000=(q:Int):=by omega
    clear hdg hq hl hd hown hval
    go_wp2_with (at_builtin;refine wpList_append_own _ rfl _ _ 33 rfl W0.heap.size 3 i0 (.int .i64 0) 1 8 Tryz.underlying33 hi hz0 hz1 hz2 rfl (by decide) _ k (inC l) rfl (Hown.out.alloc _) ⟨wr.heap.size,0,none⟩ 1 1 [.int .i64 (dg:Int)] rfl rfl (new_int wr _ _) (one_int _) (by unfold maxLen;omega) (by omega) (Nat.le_trans hEr.size (ext_alloc wr _).size) ?_;intro v' w' hown' hgrow' _)
    go_roundw
    case rel=>exact ⟨k+1,q,l++[dg],by go_num,by rw [List.length_append,Hl.out];rfl,by omega,Hd.out.snoc hdl,by rw [inC_snoc];exact hown',Hst.out,ext_grown (hEr.trans (ext_alloc wr _)) hgrow' (fun j hj=>(Hown.out.lt j hj).1)⟩
    case measure=>simp [intOf];omega
   ·obtain rfl:u=0:=by omega
    have hzl:zval l=v:=by have:=Hval.out;omega
    obtain ⟨a9,c9,rfl,q1,q2,q3,q4⟩:=iseg_of_own Hown.out
    have Hm:=Lib.hid (zmade_any true a9 l k c9 wr q3 q4 Hd.out q1 q2 (by omega) n (by rw [hzl];exact Hz.out))
    clear hl hd hown hval hzl
    go_wp2_with fail
    refine Hm.out.mono ?_
    rintro e w9 ⟨b',a',n',c',rfl,hI,hle,hx9⟩
    have hR9:=hR.ext (hEr.trans hx9)
    have k0:=hR9.c0;have k1:=hR9.c1;have f0:=hR9.f 0;have f1:=hR9.f 1
    go_wp2_with fail
    exact bodyPost_ret (v:=.agg #[.bool b',.slice a' n' c']) (by simp [results,Tryz.results46,go_sem,k0,k1]) rfl ⟨b',a',n',c',rfl,hI.keepRes hR9.row _ _,by omega,zput2 (hE.trans (hEr.trans hx9)) (Nat.le_refl _) _ _⟩
 ·have hX:IntKind.u64.wrap n=(v:Int):=by rw [IntKind.wrap_u64];omega
  have hnd:decide (n<0)=false:=by rw [decide_eq_false_iff_not];exact hneg
  have Hz:Hid (n=if false=true then -(v:Int) else (v:Int)):=by show _=_;simp;omega
  have Hvb:=Lib.hid hvb
  clear hv hvb
  go_enter Tryz.func46,Tryz.ntmps46
  go_wp2_with fail
  generalize w.alloc (.cells #[.bool false,.slice none 0 0] 35)=W0 at *
  clear hX
  go_loopw [3,4] (fun uv dv wr=>∃ (k u:Nat) (l:List Nat),uv=.int .u64 u∧l.length=k∧k≤5∧ZD l∧wr.ownsRow W0.heap.size 3 1 dv k (inC l)∧zval l+10000 ^ k*u=v∧Ext W0 wr) (fun uv _ _=>(intOf uv).toNat)
  case atStart=>exact ⟨0,v,[],by go_num,rfl,by omega,ZD.nil,(show W0.ownsRow W0.heap.size 3 1 (.slice none 0 0) 0 (inC []) from World.ownsRow_nil _ _ _ _),by simp [zval],Ext.refl _⟩
  case round =>
   obtain ⟨k,u,l,rfl,hl,hk,hd,hown,hval,hEr⟩:=hrel
   have Hl:=Lib.hid hl;have Hd:=Lib.hid hd;have Hval:=Lib.hid hval;have Hown:=Lib.hid hown
   by_cases hu:0<u
   ·have hk5:k<5:=zof_few hu (by omega) Hvb.out
    have iu:(0:Int)<(u:Int):=by omega
    obtain ⟨dg,hdg⟩:∃ dg,u % 10000=dg:=⟨_,rfl⟩
    obtain ⟨q,hq⟩:∃ q,u / 10000=q:=⟨_,rfl⟩
    have Hst:=Lib.hid (zof_step hl hval hdg hq)
    have hdl:dg<10000:=by omega
    have hqu:q<u:=by omega
    have hub:u≤9223372036854775808:=by
     have h0:=Hvb.out
     have h1:1≤10000 ^ k:=Nat.one_le_pow _ _ (by decide)
     have h2:1*u≤10000 ^ k*u:=Nat.mul_le_mul_right _ h1
     omega
    have r1:(u:Int).tmod 10000=(dg:Int):=by rw [Int.tmod_eq_emod_of_nonneg (by omega)];omega
    have r2:(u:Int) % 10000=(dg:Int):=by omega
    have r3:(u:Int).tdiv 10000=(q:Int):=by rw [Int.tdiv_eq_ediv_of_nonneg (by omega)];omega
    have r4:(u:Int) / 10000=(q:Int):=by omega
    clear hdg hq hl hd hown hval
    go_wp2_with (at_builtin;refine wpList_append_own _ rfl _ _ 33 rfl W0.heap.size 3 i0 (.int .i64 0) 1 8 Tryz.underlying33 hi hz0 hz1 hz2 rfl (by decide) _ k (inC l) rfl (Hown.out.alloc _) ⟨wr.heap.size,0,none⟩ 1 1 [.int .i64 (dg:Int)] rfl rfl (new_int wr _ _) (one_int _) (by unfold maxLen;omega) (by omega) (Nat.le_trans hEr.size (ext_alloc wr _).size) ?_;intro v' w' hown' hgrow' _)
    go_roundw
    case rel=>exact ⟨k+1,q,l++[dg],by go_num,by rw [List.length_append,Hl.out];rfl,by omega,Hd.out.snoc hdl,by rw [inC_snoc];exact hown',Hst.out,ext_grown (hEr.trans (ext_alloc wr _)) hgrow' (fun j hj=>(Hown.out.lt j hj).1)⟩
    case measure=>simp [intOf];omega
   ·obtain rfl:u=0:=by omega
    have hzl:zval l=v:=by have:=Hval.out;omega
    obtain ⟨a9,c9,rfl,q1,q2,q3,q4⟩:=iseg_of_own Hown.out
    have Hm:=Lib.hid (zmade_any false a9 l k c9 wr q3 q4 Hd.out q1 q2 (by omega) n (by rw [hzl];exact Hz.out))
    clear hl hd hown hval hzl
    go_wp2_with fail
    refine Hm.out.mono ?_
    rintro e w9 ⟨b',a',n',c',rfl,hI,hle,hx9⟩
    have hR9:=hR.ext (hEr.trans hx9)
    have k0:=hR9.c0;have k1:=hR9.c1;have f0:=hR9.f 0;have f1:=hR9.f 1
    go_wp2_with fail
    exact bodyPost_ret (v:=.agg #[.bool b',.slice a' n' c']) (by simp [results,Tryz.results46,go_sem,k0,k1]) rfl ⟨b',a',n',c',rfl,hI.keepRes hR9.row _ _,by omega,zput2 (hE.trans (hEr.trans hx9)) (Nat.le_refl _) _ _⟩
theorem padD_four (x:Nat) (h:x<10000):padD 4 x=[UInt8.ofNat (48+x / 1000),UInt8.ofNat (48+x / 100 % 10),UInt8.ofNat (48+x / 10 % 10),UInt8.ofNat (48+x % 10)]:=by
 have e:x / 1000 % 10=x / 1000:=by omega
 unfold padD Lib.dg
 simp [List.range_succ,e]
theorem dec_step (x v:Nat) (hx:x<10000) (hv:0<v):Lib.decDigits (x+10000*v)=Lib.decDigits v++padD 4 x:=by
 have e1:(x+10000*v) / 10 ^ 4=v:=by omega
 have e2:(x+10000*v) % 10 ^ 4=x:=by omega
 have h:=decDigits_append 4 (x+10000*v) (by rw [e1];exact hv)
 rw [e1,e2] at h
 exact h
theorem dec_first (x:Nat) (hx:x<10000) (h0:0<x):∃ f,f≤3∧(∀ t,t<f→(padD 4 x).getD t 0=48)∧(padD 4 x).getD f 0≠48∧Lib.decDigits x=(padD 4 x).drop f:=by
 have hnd:Lib.nDigits x≤4:=nDigits_le 4 x (by omega) (by omega)
 have hnp:=Lib.nDigits_pos x
 have hp:=padD_fill 4 x hnd
 have hl:(List.replicate (4-Lib.nDigits x) (48:UInt8)).length=4-Lib.nDigits x:=by simp
 refine ⟨4-Lib.nDigits x,by omega,fun t ht=>?_,?_,?_⟩
 ·rw [hp,List.getD_eq_getElem?_getD,List.getElem?_append_left (by rw [hl];exact ht),List.getElem?_replicate,if_pos ht]
  rfl
 ·rw [hp,List.getD_eq_getElem?_getD,List.getElem?_append_right (by rw [hl];exact Nat.le_refl _),hl,Nat.sub_self]
  obtain ⟨d,r,e,_,h2⟩:=decN_head x
  intro hc
  unfold decN at e
  cases hd:Lib.decDigits x with
  | nil=>rw [hd] at e;simp at e
  | cons y ys =>
   rw [hd] at e hc
   simp only [List.map_cons,List.cons.injEq] at e
   simp at hc
   rw [hc] at e
   have:=h2 (by rw [←e.1];rfl)
   omega
 ·rw [hp,List.drop_append_of_le_length (by rw [hl];exact Nat.le_refl _),List.drop_of_length_le (by rw [hl];exact Nat.le_refl _),List.nil_append]
def ztx (l:List Nat) (k:Nat):List UInt8:=if k=l.length then [] else Lib.decDigits (zval (l.drop k))
theorem ztx_end (l:List Nat):ztx l l.length=[]:=by unfold ztx;rw [if_pos rfl]
theorem zval_drop (l:List Nat) (k:Nat) (h:k<l.length):zval (l.drop k)=l.getD k 0+10000*zval (l.drop (k+1)):=by
 rw [List.drop_eq_getElem_cons h,zval,List.getD_eq_getElem?_getD,List.getElem?_eq_getElem h];rfl
theorem ZN.drop {l:List Nat} (h:ZN l) (k:Nat):ZN (l.drop k):=by
 by_cases hk:k<l.length
 ·right
  have hl:l≠[]:=by intro e;subst e;simp at hk
  have:=h.resolve_left hl
  rw [List.length_drop,List.getD_eq_getElem?_getD,List.getElem?_drop,show k+(l.length-k-1)=l.length-1 by omega,←List.getD_eq_getElem?_getD]
  exact this
 ·left;exact List.drop_of_length_le (by omega)
theorem ztx_first {l:List Nat} {j x:Nat} (hl:l.length=j+1) (hx:l.getD j 0=x):ztx l j=Lib.decDigits x:=by
 unfold ztx
 rw [if_neg (by omega),zval_drop l j (by omega),hx,List.drop_of_length_le (by omega)]
 simp [zval]
theorem ztx_next {l:List Nat} {j x:Nat} (hn:ZN l) (hj:j+1<l.length) (hx:l.getD j 0=x) (hx4:x<10000):ztx l j=ztx l (j+1)++padD 4 x:=by
 have hp:0<zval (l.drop (j+1)):=by
  apply Nat.pos_of_ne_zero
  intro e
  have:=(zval_zero (hn.drop (j+1))).1 e
  have:=congrArg List.length this
  rw [List.length_drop] at this
  simp at this
  omega
 unfold ztx
 rw [if_neg (by omega),if_neg (by omega),zval_drop l j (by omega),hx,dec_step x _ hx4 hp]
theorem ztx_all {l:List Nat} (h:l≠[]):ztx l 0=Lib.decDigits (zval l):=by
 unfold ztx
 rw [if_neg (by intro e;exact h (List.eq_nil_of_length_eq_zero e.symm)),List.drop_zero]
theorem zval_drop_le (l:List Nat) (k:Nat):zval (l.drop k)≤zval l:=by
 have h:l=l.take k++l.drop k:=(List.take_append_drop k l).symm
 conv=>rhs;rw [h]
 rw [zval_append]
 have h1:1≤10000 ^ (l.take k).length:=Nat.one_le_pow _ _ (by decide)
 have h2:=Nat.mul_le_mul_right (zval (l.drop k)) h1
 omega
theorem zneg_step {l:List Nat} {j x V V':Nat} (h:j<l.length) (hx:l.getD j 0=x) (hV:zval (l.drop (j+1))=V) (hV':zval (l.drop j)=V'):V'=x+10000*V:=by
 rw [←hV',zval_drop l j h,hx,hV]
def smN (z:Int):Int:=if -9223372036854775808≤z∧z≤9223372036854775807 then z else 0
def smB (z:Int):Bool:=decide (-9223372036854775808≤z∧z≤9223372036854775807)
theorem ZSmall_any (neg:Bool) (ao:Option Addr) (n c:Nat) (z:Int) (w:World) (h:IsZ w neg ao n c z) (hn:n≤400000) :
  Calls Tryz.prog 55 #[.agg #[.bool neg,.slice ao n c]] w fun e w'=>e=.returned (.tuple #[.int .i64 (smN z),.bool (smB z)])∧Ext w w':=by
 have H:=Lib.hid h
 have hE:=ext_alloc w (.cells #[.bool neg,.slice ao n c] 35)
 have bA:=zbx_new w neg ao n c
 have x0:=bA.c0;have x1:=bA.c1
 have lA:=bA.lt
 have HO1:=Lib.hid (fun wx=>ZOf_any (-9223372036854775808) (by decide) (by decide) wx)
 have HO2:=Lib.hid (fun wx=>ZOf_any 9223372036854775807 (by decide) (by decide) wx)
 by_cases hlo:z < -9223372036854775808
 ·have Hs:Hid (smN z=0∧smB z=false):=by
   refine ⟨?_,?_⟩
   ·unfold smN;rw [if_neg (by omega)]
   ·unfold smB;rw [decide_eq_false_iff_not];omega
  rw [Hs.out.1,Hs.out.2]
  obtain ⟨k1,hk1⟩:∃ k1:Int,k1=-1:=⟨_,rfl⟩
  have HC:=Lib.hid (fun wx b2 a2 n2 c2 (hx:Ext w wx) (h2:IsZ wx b2 a2 n2 c2 (-9223372036854775808)) (hn2:n2≤5)=>ZCmp_any neg b2 ao a2 n c n2 c2 z (-9223372036854775808) wx (h.ext hx) h2 (by omega) (by omega) k1 (by rw [if_pos (by omega)];exact hk1))
  have hk1n:decide (k1<0)=true:=by rw [decide_eq_true_eq];omega
  clear h hk1
  go_enter Tryz.func55,Tryz.ntmps55
  go_wp2_with fail
  generalize w.alloc (.cells #[.bool neg,.slice ao n c] 35)=W0 at *
  have h0d:Ext W0 W0.drew:=Below.drew (Ext.refl _)
  go_region_with (first
   | (have _:=q0;go_at_call 54;refine (HC.out _ _ _ _ _ (hE.trans h0) K0 L0).mono ?_;rintro e v1 ⟨rfl,q1⟩;have h1:Ext W0 v1:=h0.trans q1)
   | (go_at_call 46;refine (HO1.out _).mono ?_;rintro e v0 ⟨b0,o0,m0,j0,rfl,K0,L0,q0⟩;have h0:Ext W0 v0:=Ext.trans (by assumption) q0;have y0:=zKeep h0 lA x0;have y1:=zKeep h0 lA x1))
  all_goals
   go_wp2_with fail
   go_ret2
   exact ⟨rfl,hE.trans h1⟩
 ·obtain ⟨k1,hk1⟩:∃ k1:Int,k1=if z - -9223372036854775808<0 then -1 else if 0<z - -9223372036854775808 then 1 else 0:=⟨_,rfl⟩
  have hk1n:decide (k1<0)=false:=by
   rw [decide_eq_false_iff_not,hk1,if_neg (by omega)]
   split<;>omega
  have HC1:=Lib.hid (fun wx b2 a2 n2 c2 (hx:Ext w wx) (h2:IsZ wx b2 a2 n2 c2 (-9223372036854775808)) (hn2:n2≤5)=>ZCmp_any neg b2 ao a2 n c n2 c2 z (-9223372036854775808) wx (h.ext hx) h2 (by omega) (by omega) k1 hk1)
  by_cases hhi:9223372036854775807<z
  ·have Hs:Hid (smN z=0∧smB z=false):=by
    refine ⟨?_,?_⟩
    ·unfold smN;rw [if_neg (by omega)]
    ·unfold smB;rw [decide_eq_false_iff_not];omega
   rw [Hs.out.1,Hs.out.2]
   obtain ⟨k2,hk2⟩:∃ k2:Int,k2=1:=⟨_,rfl⟩
   have HC2:=Lib.hid (fun wx b2 a2 n2 c2 (hx:Ext w wx) (h2:IsZ wx b2 a2 n2 c2 9223372036854775807) (hn2:n2≤5)=>ZCmp_any neg b2 ao a2 n c n2 c2 z 9223372036854775807 wx (h.ext hx) h2 (by omega) (by omega) k2 (by rw [if_neg (by omega),if_pos (by omega)];exact hk2))
   have hk2n:decide (0<k2)=true:=by rw [decide_eq_true_eq];omega
   clear h hk1 hk2
   go_enter Tryz.func55,Tryz.ntmps55
   go_wp2_with fail
   generalize w.alloc (.cells #[.bool neg,.slice ao n c] 35)=W0 at *
   have h0d:Ext W0 W0.drew:=Below.drew (Ext.refl _)
   go_region_held3 (fun w'=>w'.cell? ⟨w.heap.size,0,none⟩=some (.bool neg)∧w'.cell? ⟨w.heap.size,1,none⟩=some (.slice ao n c))
    (exact ⟨zKeep (W:=W0) (by assumption) lA x0,zKeep (W:=W0) (by assumption) lA x1⟩)
    (first
     | (have _:=q2;go_at_call 54;refine (HC2.out _ _ _ _ _ (hE.trans h2) K2 L2).mono ?_;rintro e v3 ⟨rfl,q3⟩;have h3:Ext W0 v3:=h2.trans q3)
     | (have _:=q1;go_at_call 46;refine (HO2.out _).mono ?_;rintro e v2 ⟨b2,o2,m2,j2,rfl,K2,L2,q2⟩;have h2:Ext W0 v2:=h1.trans q2)
     | (have _:=q0;go_at_call 54;refine (HC1.out _ _ _ _ _ (hE.trans h0) K0 L0).mono ?_;rintro e v1 ⟨rfl,q1⟩;have h1:Ext W0 v1:=h0.trans q1)
     | (go_at_call 46;refine (HO1.out _).mono ?_;rintro e v0 ⟨b0,o0,m0,j0,rfl,K0,L0,q0⟩;have h0:Ext W0 v0:=Ext.trans (by assumption) q0))
   go_wp2_with fail
   go_ret2
   exact ⟨rfl,hE.trans h3⟩
  ·have Hs:Hid (smN z=z∧smB z=true):=by
    refine ⟨?_,?_⟩
    ·unfold smN;rw [if_pos (by omega)]
    ·unfold smB;rw [decide_eq_true_eq];omega
   rw [Hs.out.1,Hs.out.2]
   obtain ⟨k2,hk2⟩:∃ k2:Int,k2=if z-9223372036854775807<0 then -1 else if 0<z-9223372036854775807 then 1 else 0:=⟨_,rfl⟩
   have hk2n:decide (0<k2)=false:=by
    rw [decide_eq_false_iff_not,hk2]
    by_cases h:z-9223372036854775807<0
    ·rw [if_pos h];omega
    ·rw [if_neg h,if_neg (by omega)];omega
   have HC2:=Lib.hid (fun wx b2 a2 n2 c2 (hx:Ext w wx) (h2:IsZ wx b2 a2 n2 c2 9223372036854775807) (hn2:n2≤5)=>ZCmp_any neg b2 ao a2 n c n2 c2 z 9223372036854775807 wx (h.ext hx) h2 (by omega) (by omega) k2 hk2)
   obtain ⟨l,p1,p2,p3,p4,p5,p6,p7,p8⟩:=h
   have hvb:zval l≤9223372036854775808:=by
    rw [p7] at hlo hhi
    cases neg<;>simp at hlo hhi<;>omega
   have Hvb:=Lib.hid hvb;have P1:=Lib.hid p1;have P4:=Lib.hid p4;have P5:=Lib.hid p5;have P7:=Lib.hid p7
   have hA:n=0∨∃ b o,ao=some ⟨b,o,none⟩:=by
    by_cases h0:n=0
    ·exact Or.inl h0
    ·exact Or.inr (p4.some_of (by omega))
   have Hhi:=Lib.hid hhi
   clear hk1 hk2 p1 p2 p3 p4 p5 p6 p7 p8 hvb hlo hhi
   go_enter Tryz.func55,Tryz.ntmps55
   go_wp2_with fail
   generalize w.alloc (.cells #[.bool neg,.slice ao n c] 35)=W0 at *
   have h0d:Ext W0 W0.drew:=Below.drew (Ext.refl _)
   go_region_held3 (fun w'=>w'.cell? ⟨w.heap.size,0,none⟩=some (.bool neg)∧w'.cell? ⟨w.heap.size,1,none⟩=some (.slice ao n c))
    (exact ⟨zKeep (W:=W0) (by assumption) lA x0,zKeep (W:=W0) (by assumption) lA x1⟩)
    (first
     | (have _:=q2;go_at_call 54;refine (HC2.out _ _ _ _ _ (hE.trans h2) K2 L2).mono ?_;rintro e v3 ⟨rfl,q3⟩;have h3:Ext W0 v3:=h2.trans q3)
     | (have _:=q1;go_at_call 46;refine (HO2.out _).mono ?_;rintro e v2 ⟨b2,o2,m2,j2,rfl,K2,L2,q2⟩;have h2:Ext W0 v2:=h1.trans q2)
     | (have _:=q0;go_at_call 54;refine (HC1.out _ _ _ _ _ (hE.trans h0) K0 L0).mono ?_;rintro e v1 ⟨rfl,q1⟩;have h1:Ext W0 v1:=h0.trans q1)
     | (go_at_call 46;refine (HO1.out _).mono ?_;rintro e v0 ⟨b0,o0,m0,j0,rfl,K0,L0,q0⟩;have h0:Ext W0 v0:=Ext.trans (by assumption) q0))
   have d0:=zKeep h3 lA x0;have d1:=zKeep h3 lA x1
   have HE3:=Lib.hid (hE.trans h3)
   clear h0 h1 h2 h3 q0 q1 q2 q3 K0 K2 h0d x0 x1 bA lA hE HC1 HC2 HO1 HO2 H
   go_wp2_with fail
   go_loop [4,5] (fun nv iv=>∃ k:Nat,k≤n∧iv=.int .i64 ((k:Int)-1)∧nv=.int .i64 (-(zval (l.drop k):Int))) (fun _ iv=>(intOf iv+1).toNat)
   case atStart=>exact ⟨n,Nat.le_refl _,by go_num,by rw [List.drop_of_length_le (by rw [P1.out];exact Nat.le_refl _)];rfl⟩
   case round =>
    obtain ⟨k,hk,rfl,rfl⟩:=hrel
    by_cases hk0:k=0
    ·subst hk0
     rw [List.drop_zero]
     obtain ⟨V,hV⟩:∃ V,zval l=V:=⟨_,rfl⟩
     have hVb:=Hvb.out
     rw [hV] at hVb
     have HV:=Lib.hid hV
     rw [hV]
     clear hV
     cases neg
     ·have Hf:Hid ((V:Int)=z):=by show _=_;rw [P7.out,HV.out];rfl
      have hV2:V≤9223372036854775807:=by have:=Hf.out;have:=Hhi.out;omega
      go_wp2_with fail
      go_ret2
      refine ⟨?_,HE3.out⟩
      rw [←Hf.out]
      have e1 : - -(V:Int)=(V:Int):=by omega
      first | rfl | (show Ending.returned (.tuple #[.int .i64 (- -(V:Int)),.bool true])=_;rw [e1]) | (simp;done)
     ·have Hf:Hid (-(V:Int)=z):=by show _=_;rw [P7.out,HV.out];rfl
      go_wp2_with fail
      go_ret2
      refine ⟨?_,HE3.out⟩
      rw [←Hf.out]
      rfl
    ·obtain ⟨j,rfl⟩:∃ j,k=j+1:=⟨k-1,by omega⟩
     have ec:(((j+1:Nat):Int)-1)=(j:Int):=by omega
     have ij:(j:Int)<(n:Int):=by omega
     rcases hA with h0 | ⟨b,o,rfl⟩
     ·omega
     have hcl:=(P4.out.ext HE3.out).at j (by rw [P1.out];omega)
     obtain ⟨x,hx⟩:∃ x,l.getD j 0=x:=⟨_,rfl⟩
     have hx4:x<10000:=by rw [←hx];exact P5.out.get j
     rw [hx] at hcl
     obtain ⟨V,hV⟩:∃ V,zval (l.drop (j+1))=V:=⟨_,rfl⟩
     obtain ⟨V',hV'⟩:∃ V',zval (l.drop j)=V':=⟨_,rfl⟩
     have hst:=zneg_step (by rw [P1.out];omega) hx hV hV'
     have hVb:V'≤9223372036854775808:=by have:=zval_drop_le l j;have:=Hvb.out;omega
     have hVs:10000*V+x≤9223372036854775808:=by omega
     rw [ec,hV]
     have HV':=Lib.hid hV'
     have Hst:=Lib.hid hst
     clear hx hV hV' hst hk0 ec
     go_wp2_with fail
     go_round
     case rel=>exact ⟨j,by omega,by go_num,by rw [HV'.out,Hst.out];first | go_num | (congr 1;omega)⟩
     case measure=>simp [intOf]
theorem zval_odd (l:List Nat) (x:Nat) (hx:l.getD 0 0=x):zval l % 2=x % 2:=by
 cases l with
 | nil=>simp at hx;subst hx;rfl
 | cons y r =>
  simp at hx
  subst hx
  rw [zval]
  omega
theorem IsZ.abs {w:World} {neg:Bool} {ao:Option Addr} {n c:Nat} {z:Int} (h:IsZ w neg ao n c z):∃ l:List Nat,l.length=n∧n≤c∧c≤maxLen∧ISeg w ao l∧ZD l∧ZN l∧z.natAbs=zval l∧z=(if neg then -(zval l:Int) else (zval l:Int))∧(l=[]→neg=false):=by
 obtain ⟨l,h1,h2,h3,h4,h5,h6,h7,h8⟩:=h
 exact ⟨l,h1,h2,h3,h4,h5,h6,by rw [h7];cases neg<;>simp,h7,h8⟩
theorem zodd_any (neg:Bool) (ao:Option Addr) (n c:Nat) (z:Int) (w:World) (h:IsZ w neg ao n c z) (bo:Bool) (hbo:decide (z.natAbs % 2=1)=bo) :
  Calls Tryz.prog 88 #[.agg #[.bool neg,.slice ao n c]] w fun e w'=>e=.returned (.bool bo)∧Ext w w':=by
 obtain ⟨l,p1,p2,p3,p4,p5,p6,p7,p8,p9⟩:=h.abs
 have hE:=ext_alloc w (.cells #[.bool neg,.slice ao n c] 35)
 by_cases h0:n=0
 ·have hl:l=[]:=List.eq_nil_of_length_eq_zero (by omega)
  have hf:bo=false:=by rw [←hbo,p7,hl];rfl
  subst h0 hf
  clear hbo p8 p7 h
  go_enter Tryz.func88,Tryz.ntmps88
  go_wp2
  go_ret
  exact ⟨rfl,ext_alloc _ _⟩
 ·obtain ⟨b,o,rfl⟩:=p4.some_of (by omega)
  have hcl:=(p4.ext hE).at 0 (by omega)
  rw [Nat.add_zero] at hcl
  obtain ⟨x,hx⟩:∃ x,l.getD 0 0=x:=⟨_,rfl⟩
  rw [hx] at hcl
  have hx4:x<10000:=by rw [←hx];exact p5.get 0
  have hb:bo=decide (x % 2=1):=by rw [←hbo,p7,zval_odd l x hx]
  have i0:(0:Int)<(n:Int):=by omega
  obtain ⟨r,hr⟩:∃ r,x % 2=r:=⟨_,rfl⟩
  have t1:(x:Int).tmod 2=(r:Int):=by rw [Int.tmod_eq_emod_of_nonneg (by omega)];omega
  have hrb:((r:Int) == 1)=bo:=by
   rw [hb,hr,Bool.eq_iff_iff,beq_iff_eq,decide_eq_true_eq];omega
  clear hbo p8 p7 h hb hr hx p1 p2 p3 p4 p5 p6 p9 h0
  go_enter Tryz.func88,Tryz.ntmps88
  go_wp2
  go_ret
  exact ⟨rfl,hE⟩
theorem drop_set (D:List Nat) (j x:Nat) (h:j<D.length):(D.set j x).drop j=x :: D.drop (j+1):=by
 rw [List.drop_eq_getElem_cons (by rw [List.length_set];exact h),List.getElem_set_self]
 congr 1
 apply List.ext_getElem?
 intro i
 rw [List.getElem?_drop,List.getElem?_drop,List.getElem?_set_ne (by omega)]
theorem zhalf_step {D l:List Nat} {j c x c1 d c2:Nat} (hj:j<D.length) (hjl:j<l.length) (hx:l.getD j 0=x) (hc1:c1=c*10000+x) (hd:c1 / 2=d) (hc2:c1 % 2=c2) (h:zval (D.drop (j+1))*2+c=zval (l.drop (j+1))) :
  zval ((D.set j d).drop j)*2+c2=zval (l.drop j):=by
 rw [drop_set D j d hj,zval,zval_drop l j hjl,hx]
 omega
theorem ZBx.own {W:World} {g:Nat} {b:Bool} {a:Option Addr} {n c:Nat} (h:ZBx W g b a n c) (b':Bool) (a':Option Addr) (n' c':Nat):ZBx ((W.setCell ⟨g,0,none⟩ (.bool b')).setCell ⟨g,1,none⟩ (.slice a' n' c')) g b' a' n' c':=by
 have h1:=heap_setCell_same W g 0 _ _ (.bool b') h.row
 have h2:=heap_setCell_same _ g 1 _ _ (.slice a' n' c') h1
 exact ⟨by rw [h2];rfl⟩
theorem ZBx.f {W:World} {g:Nat} {b:Bool} {a:Option Addr} {n c:Nat} (h:ZBx W g b a n c) (o:Nat):W.frozen? ⟨g,o,none⟩=false:=frozen_of_row W g o _ _ h.row
theorem IsZ.zero_iff {w:World} {neg:Bool} {ao:Option Addr} {n c:Nat} {z:Int} (h:IsZ w neg ao n c z):(n=0↔z.natAbs=0)∧z.natAbs<10000 ^ n:=by
 obtain ⟨l,p1,p2,p3,p4,p5,p6,p7,p8,p9⟩:=h.abs
 refine ⟨⟨fun h0=>?_,fun h0=>?_⟩,?_⟩
 ·have e:l=[]:=List.eq_nil_of_length_eq_zero (by omega)
  rw [p7,e];rfl
 ·rw [p7] at h0
  have:=(zval_zero p6).1 h0
  rw [←p1,this];rfl
 ·rw [p7,←p1];exact zval_lt p5
theorem IsZ.len_of {w:World} {neg:Bool} {ao:Option Addr} {n c m:Nat} {z:Int} (h:IsZ w neg ao n c z) (hz:z.natAbs<10000 ^ m):n≤m:=by
 obtain ⟨l,p1,p2,p3,p4,p5,p6,p7,p8,p9⟩:=h.abs
 by_cases hl:l=[]
 ·rw [←p1,hl];exact Nat.zero_le _
 ·have h1:=zval_ge p6 hl
  rw [←p7,p1] at h1
  have h2:10000 ^ (n-1)<10000 ^ m:=by omega
  have h3:=(Nat.pow_lt_pow_iff_right (a:=10000) (by decide)).1 h2
  omega
theorem keepFault_block {W:World} {g:Nat} {T:TypeId} (hF:W.heap[g]?=some (.cells #[.int .i64 0,.int .i64 0] T (0,0))):∀ k:Nat,((W.setCell ⟨g,0,none⟩ (.int .i64 0)).setCell ⟨g,1,none⟩ (.int .i64 0)).heap[k]?=W.heap[k]?:=by
 intro k
 by_cases hk:k=g
 ·subst hk
  have h1:=heap_setCell_same W k 0 _ _ (.int .i64 0) hF
  have h2:=heap_setCell_same (W.setCell ⟨k,0,none⟩ (.int .i64 0)) k 1 _ _ (.int .i64 0) h1
  rw [hF]
  exact h2
 ·have hO:Only g W ((W.setCell ⟨g,0,none⟩ (.int .i64 0)).setCell ⟨g,1,none⟩ (.int .i64 0)):=((Only.refl _ _).setCell _ _).setCell _ _
  exact hO.block k hk
theorem ISeg.keepFault {W:World} {g:Nat} {T:TypeId} {ao:Option Addr} {l:List Nat} (h:ISeg W ao l) (hF:W.heap[g]?=some (.cells #[.int .i64 0,.int .i64 0] T (0,0))):ISeg ((W.setCell ⟨g,0,none⟩ (.int .i64 0)).setCell ⟨g,1,none⟩ (.int .i64 0)) ao l:=by
 have hb:=keepFault_block hF
 rcases h with h | ⟨b,o,rfl,hlt,hc⟩
 ·exact Or.inl h
 ·exact Or.inr ⟨b,o,rfl,hlt.block (hb b),fun t ht=>(World.cell?_of_block (a:=⟨b,o+t,none⟩) (hb b)).trans (hc t ht)⟩
theorem IsZ.keepFault {W:World} {g:Nat} {T:TypeId} {neg:Bool} {ao:Option Addr} {n c:Nat} {z:Int} (h:IsZ W neg ao n c z) (hF:W.heap[g]?=some (.cells #[.int .i64 0,.int .i64 0] T (0,0))):IsZ ((W.setCell ⟨g,0,none⟩ (.int .i64 0)).setCell ⟨g,1,none⟩ (.int .i64 0)) neg ao n c z:=by
 obtain ⟨l,h1,h2,h3,h4,h5⟩:=h
 exact ⟨l,h1,h2,h3,h4.keepFault hF,h5⟩
theorem ISeg.far {W W':World} {g:Nat} {ao:Option Addr} {l:List Nat} (h:ISeg W ao l) (hO:Only g W W') (hb:∀ a,ao=some a→a.block≠g):ISeg W' ao l:=by
 rcases h with h | ⟨b,o,rfl,hb',hc⟩
 ·exact Or.inl h
 ·exact Or.inr ⟨b,o,rfl,hb'.block (hO.block b (hb _ rfl)),fun t ht=>(World.cell?_of_block (a:=⟨b,o+t,none⟩) (hO.block b (hb _ rfl))).trans (hc t ht)⟩
theorem IsZ.far {W W':World} {g:Nat} {neg:Bool} {ao:Option Addr} {n c:Nat} {z:Int} (h:IsZ W neg ao n c z) (hO:Only g W W') (hb:∀ a,ao=some a→a.block≠g):IsZ W' neg ao n c z:=by
 obtain ⟨l,h1,h2,h3,h4,h5⟩:=h
 exact ⟨l,h1,h2,h3,h4.far hO hb,h5⟩
theorem IsZ.box {W W':World} {g:Nat} {neg:Bool} {ao:Option Addr} {n c:Nat} {z:Int} {cs:Array Value} {T:TypeId} {fr:Nat × Nat} (h:IsZ W neg ao n c z) (hg:W.heap[g]?=some (.cells cs T fr)) (hT:T≠3) (hO:Only g W W'):IsZ W' neg ao n c z:=by
 have h':=h
 obtain ⟨l,_,_,_,h4,_⟩:=h'
 refine h.far hO (fun a ha hb=>?_)
 rcases h4 with ⟨h5,_⟩ | ⟨b,o,h5,⟨cur,fr',hc⟩,_⟩
 ·rw [h5] at ha;cases ha
 ·rw [h5] at ha
  cases ha
  have hb':b=g:=hb
  rw [hb',hg] at hc
  cases hc
  exact hT rfl
theorem append_ints (w:World) (x m c:Nat) (ao:Option Addr) (lr:List Nat) (hm:lr.length=m) (hs:ISeg w ao lr) (hb:m≤1000000) (W:World) (hW:W=(w.alloc (.cells #[.int .i64 (x:Int)] 3)).drew) (hsW:ISeg W ao lr) (ty:TypeId) :
  ∃ g cap w',(Builtin.append_ #[33,33] ty #[.slice (some ⟨w.heap.size,0,none⟩) 1 1,.slice ao m c]).run Tryz.prog W=.ok (.slice (some ⟨g,0,none⟩) (1+m) cap) w'∧ISeg w' (some ⟨g,0,none⟩) ([x]++lr)∧1+m≤cap∧cap≤maxLen∧w.heap.size≤g∧Ext w w':=by
 obtain ⟨i0,hi,hz0,hz1,hz2⟩:=info_parts int_info
 have hE:Ext w W:=by rw [hW];exact Below.drew (ext_alloc _ _)
 have hrow:W.heap[w.heap.size]?=some (.cells #[.int .i64 (x:Int)] 3 (0,0)):=by
  rw [hW];exact heap_alloc_new w _
 have hown:W.ownsRow w.heap.size 3 1 (.slice (some ⟨w.heap.size,0,none⟩) 1 1) 1 (inC [x]) :=
  ⟨rfl,Or.inr ⟨w.heap.size,1,#[.int .i64 (x:Int)],rfl,Nat.le_refl _,hrow,Nat.le_refl _,by unfold maxLen;omega,rfl,rfl⟩⟩
 by_cases h0:m=0
 ·subst h0
  have hl:lr=[]:=List.eq_nil_of_length_eq_zero hm
  subst hl
  refine ⟨w.heap.size,1,W,?_,?_,Nat.le_refl _,by unfold maxLen;omega,Nat.le_refl _,hE⟩
  ·have hsz:(Tryz.prog.info? 3).map (·.size)=some 1:=by rw [hi];simp [hz1]
   cases ao<;>simp [Builtin.append_,Builtin.firstCells,storeCells,go_sem]
  ·have:=iseg_of_own hown
   obtain ⟨a,c',h1,_,_,_,h5⟩:=this
   cases h1
   exact h5
 ·obtain ⟨b,o,rfl⟩:=hs.some_of (by omega)
  obtain ⟨g,cap,w',h1,h2,h3,h4,h5⟩:=run_append_lies (P:=Tryz.prog) W 33 ty w.heap.size 3 i0 (.int .i64 0) 1 8 Tryz.underlying33 hi hz0 hz1 hz2 rfl (by decide) _ 1 (inC [x]) hown ⟨b,o,none⟩ m c (inC lr) (by simp [inC,hm]) (fun j u hu=>by
   have hj:j<lr.length:=by
    have:=(List.getElem?_eq_some_iff.1 hu).1
    simpa [inC] using this
   rw [Addr.add_lit,hsW.at j hj]
   rw [←hu,inC,List.getElem?_map,List.getElem?_eq_getElem hj,List.getD_eq_getElem?_getD,List.getElem?_eq_getElem hj]
   rfl) (fun u hu=>by
   obtain ⟨y,_,rfl⟩:=List.mem_map.1 hu
   rfl) (by omega) (by unfold maxLen;omega) (by omega) hE.size W.heap.size rfl
  have h6:inC [x]++inC lr=inC ([x]++lr):=by simp [inC]
  rw [h6] at h2
  obtain ⟨a,c',e1,e2,e3,_,e5⟩:=iseg_of_own h2
  cases e1
  refine ⟨g,cap,w',h1,e5,e2,e3,?_,ext_grown hE h3 (fun k hk=>?_)⟩
  ·have:=h2.2
   rcases this with ⟨h,_⟩ | ⟨g',cap',cur,hv,hle,_⟩
   ·cases h
   ·cases hv;exact hle
  ·cases hk;exact Nat.le_refl _
theorem step_append_run {ops:Array Oper} {o:Oper} {a:Act} {K:Act→World→Prop} {Q:Exit→Act→World→Prop} {E:Prop} {w w':World} (hgd:o.guard=none) (s x:Operand)
  (ho:o.op=.call { callee:=.builtin .append,args:=#[s,x],argTypes:=#[33,33] }) (ht:o.type=33) (v1 v2 r:Value) (hs:a.eval s=v1) (hx:a.eval x=v2)
  (hap:(Builtin.append_ #[33,33] 33 #[v1,v2]).run Tryz.prog w=.ok r w') (h:K (a.put o.dst r) w') :
  if Region.wanted o (yielded ops a.tmps)=true then Oper.wp Tryz.prog o a w K Q else E:=by
 have hw:Region.wanted o (yielded ops a.tmps)=true:=by simp [Region.wanted,hgd]
 rw [if_pos hw]
 unfold Oper.wp execOp
 simp only [ho,ht,resolve,invoke,builtin,Sem.run_bind,Sem.run_pure,Result.andThen_ok,List.map_toArray,List.map_cons,List.map_nil,hs,hx,hap]
 exact h
theorem zdiv_digit {x R B V Qt:Nat} {lo:Nat} (h1:lo*B≤x+10000*R) (hV:Qt*B+R=V):(lo+10000*Qt)*B+(x+10000*R-lo*B)=x+10000*V:=by
 rw [←hV,Nat.add_mul,Nat.mul_add,←Nat.mul_assoc]
 omega
theorem zdiv_top {x R B:Nat} (hx:x<10000) (hR:R<B):x+10000*R<10000*B:=by omega
def ZCs (w:World) (cs:Array Value) (f:Nat→Int) (e:Int):Prop:=cs.size=17 ∧
 (∀ i,i<8→∃ (b:Bool) (a:Option Addr) (n c:Nat),cs[i*2]?=some (.bool b)∧cs[i*2+1]?=some (.slice a n c)∧IsZ w b a n c (f i))∧cs[16]?=some (.int .i64 e)
theorem ZCs.ext {w w':World} {cs:Array Value} {f:Nat→Int} {e:Int} (h:ZCs w cs f e) (k:Ext w w'):ZCs w' cs f e :=
 ⟨h.1,fun i hi=>by obtain ⟨b,a,n,c,q1,q2,q3⟩:=h.2.1 i hi;exact ⟨b,a,n,c,q1,q2,q3.ext k⟩,h.2.2⟩
theorem ZCs.congr {w:World} {cs:Array Value} {f f':Nat→Int} {e:Int} (h:ZCs w cs f e) (k:∀ i,i<8→f i=f' i):ZCs w cs f' e :=
 ⟨h.1,fun i hi=>by obtain ⟨b,a,n,c,q1,q2,q3⟩:=h.2.1 i hi;exact ⟨b,a,n,c,q1,q2,q3.cast (k i hi)⟩,h.2.2⟩
theorem ZCs.one {w:World} {cs:Array Value} {f:Nat→Int} {e:Int} (h:ZCs w cs f e):cs.all (·.oneCell')=true:=by
 have h1:=h.1
 rw [Array.all_eq_true]
 intro j hj
 by_cases e16:j=16
 ·have:=h.2.2
  rw [←e16,Array.getElem?_eq_getElem hj] at this
  rw [Option.some.inj this];rfl
 ·obtain ⟨b,a,n,c,q1,q2,_⟩:=h.2.1 (j / 2) (by omega)
  by_cases e:j % 2=0
  ·rw [show j / 2*2=j by omega,Array.getElem?_eq_getElem hj] at q1;rw [Option.some.inj q1];rfl
  ·rw [show j / 2*2+1=j by omega,Array.getElem?_eq_getElem hj] at q2;rw [Option.some.inj q2];rfl
structure ChZ (g:Nat) (w w':World):Prop where
 os:w'.os=w.os
 tape:w'.tape=w.tape
 output:w'.output=w.output
 size:w.heap.size≤w'.heap.size
 block:∀ k,k≠g→k<w.heap.size→w'.heap[k]?=w.heap[k]?
theorem ChZ.of_only {g:Nat} {w w':World} (h:Only g w w'):ChZ g w w':=⟨h.os,h.tape,h.output,by rw [h.size];exact Nat.le_refl _,fun i hi _=>h.block i hi⟩
theorem ChZ.ext {g:Nat} {a b c:World} (h:Ext a b) (k:ChZ g b c) (hg:a.heap.size≤g):Ext a c :=
 ⟨k.os.trans h.os,k.tape.trans h.tape,k.output.trans h.output,Nat.le_trans h.size k.size,fun i hi=>(k.block i (by omega) (Nat.lt_of_lt_of_le hi h.size)).trans (h.block i hi)⟩
theorem ChZ.row {g:Nat} {w w':World} (c:ChZ g w w') {k:Nat} {o:Obj} (h:w.heap[k]?=some o) (hne:k≠g):w'.heap[k]?=some o:=(c.block k hne (Array.getElem?_eq_some_iff.1 h).1).trans h
def NoI (w:World) (g:Nat):Prop:=∃ (cs:Array Value) (t:TypeId) (fr:Nat × Nat),w.heap[g]?=some (.cells cs t fr)∧t≠3
theorem IsZ.chz {w w':World} {b:Bool} {a:Option Addr} {n c:Nat} {z:Int} {g:Nat} (h:IsZ w b a n c z) (k:ChZ g w w') (hg:NoI w g):IsZ w' b a n c z:=by
 obtain ⟨l,h1,h2,h3,h4,h5⟩:=h
 refine ⟨l,h1,h2,h3,?_,h5⟩
 rcases h4 with h4 | ⟨bb,o,rfl,hb,hc⟩
 ·exact Or.inl h4
 ·have hne:bb≠g:=by
   rintro rfl
   obtain ⟨cs,t,fr,e1,e2⟩:=hg
   obtain ⟨cur,fr',e3⟩:=hb
   rw [e1] at e3
   injection e3 with e3
   injection e3 with _ e4 _
   exact e2 e4
  have hblk:=k.block bb hne hb.lt
  exact Or.inr ⟨bb,o,rfl,hb.block hblk,fun t ht=>(World.cell?_of_block (a:=⟨bb,o+t,none⟩) hblk).trans (hc t ht)⟩
theorem ZCs.chz {w w':World} {cs:Array Value} {f:Nat→Int} {e:Int} {g:Nat} (h:ZCs w cs f e) (k:ChZ g w w') (hg:NoI w g):ZCs w' cs f e :=
 ⟨h.1,fun i hi=>by obtain ⟨b,a,n,c,q1,q2,q3⟩:=h.2.1 i hi;exact ⟨b,a,n,c,q1,q2,q3.chz k hg⟩,h.2.2⟩
def ZVar (w:World) (g:Nat) (f:Nat→Int) (e:Int):Prop:=∃ cs,w.heap[g]?=some (.cells cs 38 (0,0))∧ZCs w cs f e
theorem ZVar.lt {w:World} {g:Nat} {f:Nat→Int} {e:Int} (h:ZVar w g f e):g<w.heap.size:=by
 obtain ⟨cs,h1,_⟩:=h
 exact (Array.getElem?_eq_some_iff.1 h1).1
theorem ZVar.no {w:World} {g:Nat} {f:Nat→Int} {e:Int} (h:ZVar w g f e):NoI w g:=by
 obtain ⟨cs,h1,_⟩:=h
 exact ⟨cs,_,_,h1,by decide⟩
theorem ZVar.ext {w w':World} {g:Nat} {f:Nat→Int} {e:Int} (h:ZVar w g f e) (k:Ext w w'):ZVar w' g f e:=by
 have hl:=h.lt
 obtain ⟨cs,h1,h2⟩:=h
 exact ⟨cs,(k.block _ hl).trans h1,h2.ext k⟩
theorem ZVar.congr {w:World} {g:Nat} {f f':Nat→Int} {e:Int} (h:ZVar w g f e) (k:∀ i,i<8→f i=f' i):ZVar w g f' e:=by
 obtain ⟨cs,h1,h2⟩:=h
 exact ⟨cs,h1,h2.congr k⟩
theorem ZVar.chz {w w':World} {g k:Nat} {f:Nat→Int} {e:Int} (h:ZVar w k f e) (c:ChZ g w w') (hg:NoI w g) (hne:k≠g):ZVar w' k f e:=by
 obtain ⟨cs,h1,h2⟩:=h
 exact ⟨cs,c.row h1 hne,h2.chz c hg⟩
theorem ZVar.get {w:World} {g:Nat} {f:Nat→Int} {e:Int} (h:ZVar w g f e) (i:Nat) (hi:i<8):∃ (b:Bool) (a:Option Addr) (n c:Nat),
  w.cell? ⟨g,i*2,none⟩=some (.bool b)∧w.cell? ⟨g,i*2+1,none⟩=some (.slice a n c)∧w.frozen? ⟨g,i*2,none⟩=false∧w.frozen? ⟨g,i*2+1,none⟩=false∧IsZ w b a n c (f i):=by
 obtain ⟨cs,h1,h2⟩:=h
 obtain ⟨b,a,n,c,q1,q2,q3⟩:=h2.2.1 i hi
 refine ⟨b,a,n,c,?_,?_,frozen_of_row w g _ _ _ h1,frozen_of_row w g _ _ _ h1,q3⟩
 ·rw [cell_of_row w g _ _ _ (0,0) h1];exact q1
 ·rw [cell_of_row w g _ _ _ (0,0) h1];exact q2
theorem ZVar.gete {w:World} {g:Nat} {f:Nat→Int} {e:Int} (h:ZVar w g f e):w.cell? ⟨g,16,none⟩=some (.int .i64 e)∧w.frozen? ⟨g,16,none⟩=false:=by
 obtain ⟨cs,h1,h2⟩:=h
 exact ⟨by rw [cell_of_row w g _ _ _ (0,0) h1];exact h2.2.2,frozen_of_row w g _ _ _ h1⟩
theorem put2_only (w:World) (g i j:Nat) (u v:Value):Only g w ((w.setCell ⟨g,i,none⟩ u).setCell ⟨g,j,none⟩ v):=((Only.refl _ _).setCell _ _).setCell _ _
theorem ZVar.set {w:World} {g:Nat} {f:Nat→Int} {e:Int} (h:ZVar w g f e) (i:Nat) (hi:i<8) {b':Bool} {a':Option Addr} {n' c':Nat} {z:Int} (hI:IsZ w b' a' n' c' z) :
  ZVar ((w.setCell ⟨g,i*2,none⟩ (.bool b')).setCell ⟨g,i*2+1,none⟩ (.slice a' n' c')) g (updN f i z) e∧ChZ g w ((w.setCell ⟨g,i*2,none⟩ (.bool b')).setCell ⟨g,i*2+1,none⟩ (.slice a' n' c')):=by
 have hno:=h.no
 have hch:ChZ g w ((w.setCell ⟨g,i*2,none⟩ (.bool b')).setCell ⟨g,i*2+1,none⟩ (.slice a' n' c')):=ChZ.of_only (put2_only w g _ _ _ _)
 obtain ⟨cs,h1,h2⟩:=h
 have hsz:=h2.1
 have e1:=heap_setCell_same w g (i*2) _ _ (.bool b') h1
 have e2:=heap_setCell_same (w.setCell ⟨g,i*2,none⟩ (.bool b')) g (i*2+1) _ _ (.slice a' n' c') e1
 refine ⟨⟨_,e2,by simp [hsz],fun j hj=>?_,?_⟩,hch⟩
 ·by_cases hji:j=i
  ·subst hji
   refine ⟨b',a',n',c',?_,?_,?_⟩
   ·rw [Array.getElem?_setIfInBounds_ne (by omega),Array.getElem?_setIfInBounds_self_of_lt (by omega)]
   ·rw [Array.getElem?_setIfInBounds_self_of_lt (by simp;omega)]
   ·unfold updN;rw [if_pos rfl];exact hI.chz hch hno
  ·obtain ⟨s,a,n,c,q1,q2,q3⟩:=h2.2.1 j hj
   refine ⟨s,a,n,c,?_,?_,?_⟩
   ·rw [Array.getElem?_setIfInBounds_ne (by omega),Array.getElem?_setIfInBounds_ne (by omega)];exact q1
   ·rw [Array.getElem?_setIfInBounds_ne (by omega),Array.getElem?_setIfInBounds_ne (by omega)];exact q2
   ·unfold updN;rw [if_neg hji];exact q3.chz hch hno
 ·rw [Array.getElem?_setIfInBounds_ne (by omega),Array.getElem?_setIfInBounds_ne (by omega)];exact h2.2.2
theorem ZVar.sete {w:World} {g:Nat} {f:Nat→Int} {e:Int} (h:ZVar w g f e) (e':Int):ZVar (w.setCell ⟨g,16,none⟩ (.int .i64 e')) g f e'∧ChZ g w (w.setCell ⟨g,16,none⟩ (.int .i64 e')):=by
 have hno:=h.no
 have hch:ChZ g w (w.setCell ⟨g,16,none⟩ (.int .i64 e')):=ChZ.of_only ((Only.refl _ _).setCell _ _)
 obtain ⟨cs,h1,h2⟩:=h
 have hsz:=h2.1
 have e1:=heap_setCell_same w g 16 _ _ (.int .i64 e') h1
 refine ⟨⟨_,e1,by simp [hsz],fun j hj=>?_,?_⟩,hch⟩
 ·obtain ⟨s,a,n,c,q1,q2,q3⟩:=h2.2.1 j hj
  refine ⟨s,a,n,c,?_,?_,q3.chz hch hno⟩
  ·rw [Array.getElem?_setIfInBounds_ne (by omega)];exact q1
  ·rw [Array.getElem?_setIfInBounds_ne (by omega)];exact q2
 ·rw [Array.getElem?_setIfInBounds_self_of_lt (by omega)]
theorem ZCs.box {w:World} {cs:Array Value} {f:Nat→Int} {e:Int} (h:ZCs w cs f e):ZVar (w.alloc (.cells cs 38)) w.heap.size f e:=⟨cs,heap_alloc_new w _,h.ext (Ext.alloc _ _)⟩
theorem ZCs.setRow {w:World} {g:Nat} {cs:Array Value} {f f0:Nat→Int} {e e0:Int} (h:ZCs w cs f e) (h0:ZVar w g f0 e0):ZVar (w.setRow g cs) g f e∧ChZ g w (w.setRow g cs)∧(w.setRow g cs).heap[g]?=some (.cells cs 38 (0,0))∧ZCs (w.setRow g cs) cs f e:=by
 have hno:=h0.no
 have hch:ChZ g w (w.setRow g cs):=ChZ.of_only (setRow_only w g cs)
 obtain ⟨c0,hr,_⟩:=h0
 have hrow:=setRow_heap w g _ cs _ (0,0) hr
 exact ⟨⟨cs,hrow,h.chz hch hno⟩,hch,hrow,h.chz hch hno⟩
abbrev zeroR:Array Value:=#[.bool false,.slice none 0 0,.bool false,.slice none 0 0,.bool false,.slice none 0 0,.bool false,.slice none 0 0,.bool false,.slice none 0 0,.bool false,.slice none 0 0,.bool false,.slice none 0 0,.bool false,.slice none 0 0,.int .i64 0]
theorem zcs_zero (w:World):ZCs w zeroR (fun _=>0) 0:=by
 refine ⟨rfl,fun i hi=>⟨false,none,0,0,?_,?_,IsZ.zero w⟩,rfl⟩
 all_goals
  have e:i=0∨i=1∨i=2∨i=3∨i=4∨i=5∨i=6∨i=7:=by omega
  rcases e with rfl | rfl | rfl | rfl | rfl | rfl | rfl | rfl<;>rfl
theorem zR_info:(Tryz.prog.info? 38).map (·.size)=some 17:=by kernel_rfl
theorem IsZ.nil_iff {w:World} {b:Bool} {a:Option Addr} {n c:Nat} {z:Int} (h:IsZ w b a n c z):n=0↔z=0:=by
 obtain ⟨l,h1,_,_,_,_,h6,h7,_⟩:=h
 constructor
 ·intro h0
  have:l=[]:=List.eq_nil_of_length_eq_zero (by omega)
  subst this
  rw [h7];cases b<;>rfl
 ·intro h0
  by_cases hl:l=[]
  ·rw [←h1,hl];rfl
  ·have h8:=zval_ge h6 hl
   have h9:0<10000 ^ (l.length-1):=Nat.pow_pos (by decide)
   rw [h0] at h7
   cases b
   ·simp only [Bool.false_eq_true,if_false] at h7;omega
   ·simp only [if_true] at h7;omega
theorem IsZ.bits {w:World} {b:Bool} {a:Option Addr} {n c:Nat} {z:Int} (h:IsZ w b a n c z) {P:Nat} (hz:z.natAbs<2 ^ P):n≤P :=
 h.len_of (Nat.lt_of_lt_of_le hz (Nat.pow_le_pow_left (by decide) P))
structure RmA (w:World) (cs:Array Value) (x:Nm) (P E:Nat):Prop where
 anti:Anti x.a
 low:Low x
 abs:∀ k,(x.a k).natAbs<2 ^ P
 down:x.e≤E
 val:ZCs w cs (fun i=>x.a i) (x.e:Int)
theorem RmA.ext {w w':World} {cs:Array Value} {x:Nm} {P E:Nat} (h:RmA w cs x P E) (k:Ext w w'):RmA w' cs x P E:=⟨h.anti,h.low,h.abs,h.down,h.val.ext k⟩
theorem RmA.size {w:World} {cs:Array Value} {x:Nm} {P E:Nat} (h:RmA w cs x P E):cs.size=17:=h.val.1
theorem RmA.info {w:World} {cs:Array Value} {x:Nm} {P E:Nat} (h:RmA w cs x P E):(Tryz.prog.info? 38).map (·.size)=some cs.size:=by rw [h.size];exact zR_info
theorem RmA.le {w:World} {cs:Array Value} {x:Nm} {P E P' E':Nat} (h:RmA w cs x P E) (hP:P≤P') (hE:E≤E'):RmA w cs x P' E' :=
 ⟨h.anti,h.low,fun k=>Nat.lt_of_lt_of_le (h.abs k) (Nat.pow_le_pow_right (by decide) hP),Nat.le_trans h.down hE,h.val⟩
theorem fin_rm {w w1:World} {cr:Array Value} {f:Nat→Int} {e:Int} {g:Nat} {fz:Nat→Int} {ez:Int} (hcr:ZCs w1 cr f e) (hz:ZVar w1 g fz ez) (hE:Ext w w1) (hg:w.heap.size≤g) :
  ∃ c1,w1.heap[g]?=some (.cells c1 38 (0,0))∧c1.size=cr.size∧cr.all (·.oneCell')=true∧(Tryz.prog.info? 38).map (·.size)=some cr.size∧(w1.setRow g cr).heap[g]?=some (.cells cr 38 (0,0))∧ZCs (w1.setRow g cr) cr f e∧Ext w (w1.setRow g cr):=by
 obtain ⟨n1,ch,rr,zz⟩:=hcr.setRow hz
 obtain ⟨c1,hr1,hc1⟩:=hz
 exact ⟨c1,hr1,by rw [hc1.1,hcr.1],hcr.one,by rw [hcr.1];exact zR_info,rr,zz,ch.ext hE hg⟩
theorem QZero_any (cs:Array Value) (f:Nat→Int) (e:Int) (w:World) (h:ZCs w cs f e) (B:Bool) (hB:B=true↔zeroN f) :
  Calls Tryz.prog 16 #[.agg cs] w fun r w'=>r=.returned (.bool B)∧Ext w w':=by
 have h0:=h.box
 have E0:=Ext.alloc w (.cells cs 38)
 obtain ⟨H,hH⟩:∃ H,w.heap.size=H:=⟨_,rfl⟩
 obtain ⟨U,hU⟩:∃ U,w.alloc (.cells cs 38)=U:=⟨_,rfl⟩
 rw [hU,hH] at h0
 rw [hU] at E0
 have HV:=Lib.hid h0;have HE:=Lib.hid E0;have HB:=Lib.hid hB;have HU:=Lib.hid hU;have HH:=Lib.hid hH
 clear h hB h0 E0 hU hH
 go_enter Tryz.func16,Tryz.ntmps16
 go_wp2_with fail
 rw [HU.out,HH.out]
 clear HU
 go_loopg [3] 8 (fun kk s3 wr=>∃ j:Nat,s3=.int .i64 (j:Int)∧j≤8∧8-j=kk∧(∀ i,i<j→f i=0)∧ZVar wr H f e∧Ext w wr)
 case atStart=>exact ⟨0,rfl,by omega,by omega,fun i hi=>by omega,HV.out,HE.out⟩
 case round =>
  clear HV HE
  obtain ⟨j,rfl,hj,hjk,hz,hV,hE⟩:=hrel
  obtain ⟨wo,rfl⟩:∃ wo:World,wo=wr:=⟨_,rfl⟩
  have Hz:=Lib.hid hz;have HV:=Lib.hid hV;have HE:=Lib.hid hE;have Hjk:=Lib.hid hjk
  clear hz hV hE hjk
  by_cases hj8:j=8
  ·subst hj8
   have HBt:=Lib.hid (HB.out.2 Hz.out)
   go_wp2_with fail
   go_ret
   exact ⟨congrArg (fun b=>Ending.returned (Value.bool b)) HBt.out.symm,HE.out⟩
  have hlt:j<8:=by omega
  have q1:(j:Int)<8:=by omega
  have q0:(0:Int)≤(j:Int):=by omega
  have wk:IntKind.i64.wrap ((j:Int)+1)=((j+1:Nat):Int):=by rw [IntKind.wrap_i64];omega
  have Hj1:=Lib.hid (show j+1≤8 by omega)
  have Hlt:=Lib.hid hlt
  obtain ⟨b,a,n,c,y0,y1,_,_,hI⟩:=HV.out.get j hlt
  have hiff:=hI.nil_iff
  clear hI hj8 hj hlt
  by_cases hn:n=0
  ·have q2:¬ (0:Int)<(n:Int):=by omega
   have Hz':=Lib.hid (show ∀ i,i<j+1→f i=0 from fun i hi=>by
    by_cases e:i=j
    ·rw [e];exact hiff.1 hn
    ·exact Hz.out i (by omega))
   clear hn hiff
   go_wp2_with fail
   go_roundg (8-(j+1))
   case measure=>have:=Hjk.out;have:=Hj1.out;omega
   case rel=>exact ⟨j+1,rfl,Hj1.out,rfl,Hz'.out,HV.out,HE.out⟩
  ·have q2:(0:Int)<(n:Int):=by omega
   have HBf:=Lib.hid (show B=false by
    cases hb:B with
    | false=>rfl
    | true=>exact absurd (hiff.2 (HB.out.1 hb j Hlt.out)) hn)
   clear hn hiff
   go_wp2_with fail
   go_ret
   exact ⟨congrArg (fun b=>Ending.returned (Value.bool b)) HBf.out.symm,HE.out⟩
def ngN (f:Nat→Int) (j:Nat):Nat→Int:=fun i=>if i<j then -f i else f i
theorem ngN_step (f:Nat→Int) (j i:Nat):updN (ngN f j) j (-f j) i=ngN f (j+1) i:=by
 unfold updN ngN
 by_cases e:i=j
 ·subst e;simp
 ·rw [if_neg e]
  by_cases h:i<j
  ·rw [if_pos h,if_pos (by omega)]
  ·rw [if_neg h,if_neg (by omega)]
theorem QNeg_nm (ca:Array Value) (x:Nm) (P E:Nat) (w:World) (h:RmA w ca x P E) (hP:P≤400000) :
  Calls Tryz.prog 36 #[.agg ca] w fun r w'=>∃ cr:Array Value,r=.returned (.agg cr)∧RmA w' cr (nNeg x) P E∧Ext w w':=by
 obtain ⟨f,hf⟩:∃ f:Nat→Int,(fun i:Nat=>x.a i)=f:=⟨_,rfl⟩
 have hv:=h.val
 rw [hf] at hv
 have hff:∀ i:Nat,f i=x.a i:=fun i=>by rw [←hf]
 obtain ⟨H,hH⟩:∃ H,w.heap.size=H:=⟨_,rfl⟩
 obtain ⟨U,hU⟩:∃ U,(w.alloc (.cells ca 38)).alloc (.cells zeroR 38)=U:=⟨_,rfl⟩
 have E0:Ext w U:=by rw [←hU];exact (Ext.alloc _ _).trans (Ext.alloc _ _)
 have V0:ZVar U H (ngN f 0) (x.e:Int):=by rw [←hU,←hH];exact (hv.box.ext (Ext.alloc _ _)).congr fun i _=>by simp [ngN]
 have Z0:ZVar U (H+1) (fun _=>0) 0:=by
  have:=(zcs_zero (w.alloc (.cells ca 38))).box
  rw [←hU,←hH]
  simpa using this
 have HU:=Lib.hid hU;have HH:=Lib.hid hH;have Hx:=Lib.hid h;have Hff:=Lib.hid hff;have HP:=Lib.hid hP
 have Hst:=Lib.hid (show ZVar U H (ngN f 0) (x.e:Int)∧ZVar U (H+1) (fun _=>0) 0∧Ext w U from ⟨V0,Z0,E0⟩)
 clear hU hH V0 Z0 E0 h hf hv hff hP
 go_enter Tryz.func36,Tryz.ntmps36
 go_wp2_with fail
 rw [HU.out,HH.out]
 clear HU
 go_loopg [3] 8 (fun kk s3 wr=>∃ j:Nat,s3=.int .i64 (j:Int)∧j≤8∧8-j=kk∧ZVar wr H (ngN f j) (x.e:Int)∧ZVar wr (H+1) (fun _=>0) 0∧Ext w wr)
 case atStart=>exact ⟨0,rfl,by omega,by omega,Hst.out⟩
 case round =>
  clear Hst
  obtain ⟨j,rfl,hj,hjk,hV,hZ,hE⟩:=hrel
  obtain ⟨wo,rfl⟩:∃ wo:World,wo=wr:=⟨_,rfl⟩
  by_cases hj8:j=8
  ·subst hj8
   obtain ⟨cr,hr,hc⟩:=hV
   have hinf:(Tryz.prog.info? 38).map (·.size)=some cr.size:=by rw [hc.1];exact zR_info
   obtain ⟨c1,hr1,hs1,hone,_,rr,hzz,hE'⟩:=fin_rm hc hZ hE (by rw [HH.out];omega)
   have Hend:=Lib.hid (show RmA (wo.setRow (H+1) cr) cr (nNeg x) P E∧Ext w (wo.setRow (H+1) cr) from by
    have hx:=Hx.out
    refine ⟨⟨hx.anti.neg,?_,fun k=>?_,hx.down,hzz.congr fun i hi=>?_⟩,hE'⟩
    ·rw [←nNeg_tr hx.anti];exact hx.low.tr 8
    ·show (-x.a k).natAbs<2 ^ P
     rw [Int.natAbs_neg];exact hx.abs k
    ·unfold ngN;rw [if_pos hi,Hff.out];rfl)
   clear hc hZ hE hzz hE' Hx Hff
   go_wp2_with (first
    | refine wpList_load_row rfl 38 _ rfl H rfl 38 _ (0,0) _ hr Tryz.underlying38 rfl hinf ?_
    | refine wpList_store_row rfl 38 _ _ rfl (H+1) cr rfl rfl 38 _ hr1 hinf hs1 hone ?_)
   refine bodyPost_ret (v:=.agg cr) ?_ rfl ⟨_,rfl,Hend.out⟩
   exact results_cell_row rfl _ _ (H+1) _ _ _ _ rfl rr Tryz.underlying38 rfl hinf
  have hlt:j<8:=by omega
  have q1:(j:Int)<8:=by omega
  have q0:(0:Int)≤(j:Int):=by omega
  have wk:IntKind.i64.wrap ((j:Int)+1)=((j+1:Nat):Int):=by rw [IntKind.wrap_i64];omega
  have Hj1:=Lib.hid (show j+1≤8 by omega)
  have Hlt:=Lib.hid hlt
  obtain ⟨b,a,n,c,y0,y1,_,_,hI⟩:=hV.get j hlt
  have hI2:=hI.cast (show ngN f j j=f j by simp [ngN])
  have hn:n≤P:=hI2.bits (by rw [Hff.out];exact Hx.out.abs j)
  have HNe:=Lib.hid (ZNeg_any b a n c (f j) wo hI2 (by have:=HP.out;omega))
  have HV:=Lib.hid hV;have HZ:=Lib.hid hZ;have HE:=Lib.hid hE;have Hjk:=Lib.hid hjk
  clear hI hI2 hV hZ hE hjk hj8 hj hlt hn
  go_wp2_with fail
  refine HNe.out.mono ?_
  rintro r w2 ⟨b2,a2,n2,c2,rfl,hI2,_,hx2⟩
  have hV2:=HV.out.ext hx2
  obtain ⟨_,_,_,_,z0,z1,fz0,fz1,_⟩:=hV2.get j Hlt.out
  obtain ⟨hs,hch⟩:=hV2.set j Hlt.out hI2
  have Hend:=Lib.hid (show ZVar ((w2.setCell ⟨H,j*2,none⟩ (.bool b2)).setCell ⟨H,j*2+1,none⟩ (.slice a2 n2 c2)) H (ngN f (j+1)) (x.e:Int)∧ZVar ((w2.setCell ⟨H,j*2,none⟩ (.bool b2)).setCell ⟨H,j*2+1,none⟩ (.slice a2 n2 c2)) (H+1) (fun _=>0) 0∧Ext w ((w2.setCell ⟨H,j*2,none⟩ (.bool b2)).setCell ⟨H,j*2+1,none⟩ (.slice a2 n2 c2)) from
   ⟨hs.congr fun i _=>ngN_step f j i,(HZ.out.ext hx2).chz hch hV2.no (by omega),hch.ext (HE.out.trans hx2) (by rw [HH.out];exact Nat.le_refl _)⟩)
  clear hs hch hV2 hI2 hx2 HNe HV HZ HE y0 y1
  go_wp2_with fail
  clear z0 z1 fz0 fz1
  generalize (w2.setCell ⟨H,j*2,none⟩ (.bool b2)).setCell ⟨H,j*2+1,none⟩ (.slice a2 n2 c2)=V at *
  go_roundg (8-(j+1))
  case measure=>have:=Hjk.out;have:=Hj1.out;omega
  case rel=>exact ⟨j+1,rfl,Hj1.out,rfl,Hend.out⟩
theorem QOf_nm (b:Bool) (a:Option Addr) (n c:Nat) (z:Int) (P E:Nat) (w:World) (hI:IsZ w b a n c z) (hz:z.natAbs<2 ^ P) :
  Calls Tryz.prog 45 #[.agg #[.bool b,.slice a n c]] w fun r w'=>∃ cr:Array Value,r=.returned (.agg cr)∧RmA w' cr (nOf z) P E∧Ext w w':=by
 obtain ⟨H,hH⟩:∃ H,w.heap.size=H:=⟨_,rfl⟩
 obtain ⟨U,hU⟩:∃ U,(((w.alloc (.cells #[.bool b,.slice a n c] 35)).alloc (.cells zeroR 38)).alloc (.cells zeroR 38))=U:=⟨_,rfl⟩
 have E0:Ext w U:=by rw [←hU];exact ((Ext.alloc _ _).trans (Ext.alloc _ _)).trans (Ext.alloc _ _)
 have B0:ZBx U H b a n c:=by
  have:ZBx (w.alloc (.cells #[.bool b,.slice a n c] 35)) H b a n c:=⟨by rw [←hH];exact heap_alloc_new w _⟩
  rw [←hU]
  exact this.ext ((Ext.alloc _ _).trans (Ext.alloc _ _))
 have Z1:ZVar U (H+1) (fun _=>0) 0:=by
  have:=((zcs_zero (w.alloc (.cells #[.bool b,.slice a n c] 35))).box).ext (Ext.alloc _ (.cells zeroR 38))
  rw [←hU,←hH]
  simpa using this
 have Z2:ZVar U (H+2) (fun _=>0) 0:=by
  have:=(zcs_zero ((w.alloc (.cells #[.bool b,.slice a n c] 35)).alloc (.cells zeroR 38))).box
  rw [←hU,←hH]
  simpa using this
 have l0:U.cell? ⟨H,0,none⟩=some (.bool b):=by rw [cell_of_row _ _ _ _ _ _ B0.row];rfl
 have l1:U.cell? ⟨H,1,none⟩=some (.slice a n c):=by rw [cell_of_row _ _ _ _ _ _ B0.row];rfl
 obtain ⟨_,_,_,_,y0,y1,fy0,fy1,_⟩:=Z2.get 0 (by decide)
 obtain ⟨hs,hch⟩:=Z2.set 0 (by decide) (hI.ext E0)
 have Z1':=Z1.chz hch Z2.no (by omega)
 have E1:=hch.ext E0 (by rw [hH];omega)
 obtain ⟨V,hV⟩:∃ V,(U.setCell ⟨H+2,0*2,none⟩ (.bool b)).setCell ⟨H+2,0*2+1,none⟩ (.slice a n c)=V:=⟨_,rfl⟩
 rw [hV] at hs Z1' E1
 simp only [Nat.zero_mul,Nat.zero_add] at hV y0 y1 fy0 fy1
 obtain ⟨cr,hr,hc⟩:=hs
 have hinf:(Tryz.prog.info? 38).map (·.size)=some cr.size:=by rw [hc.1];exact zR_info
 obtain ⟨c1,hr1,hs1,hone,_,rr,hzz,hE'⟩:=fin_rm hc Z1' E1 (by rw [hH];omega)
 have Hend:=Lib.hid (show RmA (V.setRow (H+1) cr) cr (nOf z) P E∧Ext w (V.setRow (H+1) cr) from
  ⟨⟨anti_mono 0 z,Or.inl rfl,fun k=>Nat.lt_of_le_of_lt (mono_abs 0 z k) hz,Nat.zero_le _,hzz.congr fun i hi=>by
   show updN (fun _=>0) 0 z i=mono 0 z i
   by_cases e:i=0
   ·subst e;simp [updN,mono]
   ·unfold updN mono
    rw [if_neg e,if_neg (show ¬ ((i:Int)-0) % 16=0 by omega),if_neg (show ¬ ((i:Int)-0) % 16=8 by omega)]⟩,hE'⟩)
 have HU:=Lib.hid hU;have HH:=Lib.hid hH;have HV:=Lib.hid hV
 clear hU hH hV hc Z1 Z2 Z1' E0 E1 hzz hE' hch B0 hI
 go_enter Tryz.func45,Tryz.ntmps45
 go_upto_region 2 with fail
 rw [HU.out,HH.out]
 clear HU HH
 go_upto_region 3 with fail
 rw [HV.out]
 clear HV l0 l1 y0 y1 fy0 fy1
 go_wp2_with (first
  | refine wpList_load_row rfl 38 _ rfl (H+2) rfl 38 _ (0,0) _ hr Tryz.underlying38 rfl hinf ?_
  | refine wpList_store_row rfl 38 _ _ rfl (H+1) cr rfl rfl 38 _ hr1 hinf hs1 hone ?_)
 refine bodyPost_ret (v:=.agg cr) ?_ rfl ⟨_,rfl,Hend.out⟩
 exact results_cell_row rfl _ _ (H+1) _ _ _ _ rfl rr Tryz.underlying38 rfl hinf
end Go.Proofs.YtiicfpdiehgikaaGreatDoor
