/-
  The reference's reading: zread's two loops. The reference's reading of digits, however many. The root of two times a number of circuits, over and over, in plain numbers: how often till nothing is below. Nothing of the program stands here. The reference: is a number of the eighth roots (REven); the roots of one (RRoot).
-/
import Derived.Test.YtiicfpdiehgikaaGreatDoorS18ZH
namespace Go.Proofs.YtiicfpdiehgikaaGreatDoor
set_option maxRecDepth 100000
set_option maxHeartbeats 4000000
open Go.RowKit
def dseg (D:List Nat) (a b:Nat):List Nat:=(D.take b).drop a
theorem dseg_snoc (D:List Nat) (a b:Nat) (h:a≤b) (hb:b<D.length):dseg D a (b+1)=dseg D a b++[D.getD b 0]:=by
 unfold dseg
 rw [take_zsucc D b hb,List.drop_append_of_le_length (by rw [List.length_take];omega)]
theorem dseg_nil (D:List Nat) (a:Nat):dseg D a a=[]:=by
 unfold dseg
 rw [List.drop_eq_nil_iff];rw [List.length_take];omega
theorem dseg_len (D:List Nat) (a b:Nat) (hb:b≤D.length):(dseg D a b).length=b-a:=by
 unfold dseg;rw [List.length_drop,List.length_take];omega
theorem drop_dseg (D:List Nat) (a b:Nat) (h:a≤b):D.drop a=dseg D a b++D.drop b:=by
 unfold dseg
 conv=>lhs;rw [←List.take_append_drop b D]
 by_cases hb:b≤D.length
 ·rw [List.drop_append_of_le_length (by rw [List.length_take];omega)]
 ·rw [List.drop_of_length_le (l:=D) (i:=b) (by omega),List.append_nil,List.append_nil]
theorem zread_step {D l:List Nat} {i k:Nat} (hk:D.length-i=4*k) (hl:l.length=k) (hv:zval l=dval (D.drop i)):zval (l++[dval (dseg D (i-4) i)])=dval (D.drop (i-4)):=by
 rw [zval_snoc,hl,hv,drop_dseg D (i-4) i (by omega),dval_append,List.length_drop,hk]
 have:(10000:Nat) ^ k=10 ^ (4*k):=by rw [Nat.pow_mul]
 rw [this,Nat.mul_comm]
 omega
theorem zread_blk (s:ByteArray) (w:World) (had:AllD ((bs s).drop (sgl (bs s)))) (hs:s.size≤1000000) (z:Int) (hz:z=if sgl (bs s)=1 then -(dval ((bs s).drop (sgl (bs s))):Int) else (dval ((bs s).drop (sgl (bs s))):Int)) :
  Calls Tryz.prog 53 #[.string s] w (ZRetB w z 250001 (fun a'=>∀ x,a'=some x→w.heap.size+1≤x.block)):=by
 obtain ⟨i0,hi,hz0,hz1,hz2⟩:=info_parts int_info
 have Hz:=Lib.hid hz;have Had:=Lib.hid had
 clear hz had
 have hE:=ext_alloc w (.cells #[.bool false,.slice none 0 0] 35)
 have hR:=zres_new w
 by_cases h0:s.size=0
 ·have e:=bs_nil s h0
  subst e
  have hz9:z=0:=by rw [Hz.out];simp [bs,sgl,dval]
  subst hz9
  go_enter Tryz.func53,Tryz.ntmps53
  go_wp2_with fail
  generalize w.alloc (.cells #[.bool false,.slice none 0 0] 35)=W0 at *
  go_loopw [4,5] (fun dv iv wr=>dv=.slice none 0 0∧iv=.int .i64 0∧Ext W0 wr) (fun _ _ _=>0)
  case atStart=>exact ⟨rfl,rfl,Ext.refl _⟩
  case round =>
   obtain ⟨rfl,rfl,hEr⟩:=hrel
   go_wp2_with fail
   refine (zmade_blk false none [] 0 0 wr rfl (Or.inl ⟨rfl,rfl⟩) ZD.nil (Nat.le_refl _) (Nat.zero_le _) (by omega) 0 (by simp [zval])).mono ?_
   rintro e w9 ⟨b',a',n',c',rfl,hI,hle,hx9,hP⟩
   have hR9:=hR.ext (hEr.trans hx9)
   have k0:=hR9.c0;have k1:=hR9.c1;have f0:=hR9.f 0;have f1:=hR9.f 1
   go_wp2_with fail
   exact bodyPost_ret (v:=.agg #[.bool b',.slice a' n' c']) (by simp [results,Tryz.results53,go_sem,k0,k1]) rfl ⟨b',a',n',c',rfl,hI.keepRes hR9.row _ _,by omega,(Below.setCell (hE.trans (hEr.trans hx9)) (p:=⟨w.heap.size,0,none⟩) (Nat.le_refl _) _).setCell (p:=⟨w.heap.size,1,none⟩) (Nat.le_refl _) _,fun x hx=>by rcases hP with h | h<;>rw [h] at hx<;>cases hx⟩
 ·have hp:0<s.size:=by omega
  have ip:(0:Int)<(s.size:Int):=by omega
  have hat:=bs_at s 0 hp
  by_cases h45:(bs s).getD 0 0=45
  ·have hb:((s[0].toNat:Int) == 45)=true:=by rw [beq_iff_eq,hat];omega
   have hsg:sgl (bs s)=1:=by unfold sgl;rw [if_pos h45]
   obtain ⟨t,ht⟩:∃ t,s.extract 1 s.size=t:=⟨_,rfl⟩
   have hbt:bs t=(bs s).drop 1:=by
    rw [←ht,bs_extract,List.take_of_length_le]
    rw [List.length_drop,bs_length];omega
   have hts:t.size≤1000000:=by rw [←bs_length,hbt,List.length_drop,bs_length];omega
   have HadT:Hid (AllD (bs t)):=by
    have:=Had.out
    rw [hsg,←hbt] at this
    exact this
   have HzT:Hid (z=if true=true then -(dval (bs t):Int) else (dval (bs t):Int)):=by
    show _=_
    rw [Hz.out,hsg,if_pos rfl,if_pos rfl,hbt]
   have i1:(1:Int)≤(s.size:Int):=by omega
   clear hat h45 h0 hsg hbt
   go_enter Tryz.func53,Tryz.ntmps53
   go_wp2_with fail
   clear ht hs
   generalize w.alloc (.cells #[.bool false,.slice none 0 0] 35)=W0 at *
   go_loopw [4,5] (fun dv iv wr=>∃ (k:Nat) (i:Int) (l:List Nat),iv=.int .i64 i∧i=(t.size:Int)-4*(k:Int)∧i≤t.size∧-4<i∧l.length=k∧k≤250000∧ZD l∧wr.ownsRow W0.heap.size 3 1 dv k (inC l)∧zval l=dval ((bs t).drop i.toNat)∧Ext W0 wr) (fun _ iv _=>(intOf iv).toNat)
   case atStart=>exact ⟨0,t.size,[],by go_num,by omega,by omega,by omega,rfl,by omega,ZD.nil,(show W0.ownsRow W0.heap.size 3 1 (.slice none 0 0) 0 (inC []) from World.ownsRow_nil _ _ _ _),by rw [List.drop_of_length_le (by rw [bs_length];omega)];rfl,Ext.refl _⟩
   case round =>
    obtain ⟨k,i,l,rfl,hik,hi1,hi2,hl,hkb,hd,hown,hval,hEr⟩:=hrel
    have Hl:=Lib.hid hl;have Hd:=Lib.hid hd;have Hval:=Lib.hid hval;have Hown:=Lib.hid hown;have Hik:=Lib.hid hik
    clear hl hd hval hown hik
    by_cases hgo:0<i
    ·go_wp2_with fail
     go_loop [6,7] (fun nv jv=>∃ (j:Int),jv=.int .i64 j∧i-4≤j∧j≤i∧nv=.int .i64 (dval (dseg (bs t) (i-4).toNat j.toNat):Nat)) (fun _ jv=>(i-intOf jv).toNat)
     case atStart=>exact ⟨i-4,by go_num,by omega,by omega,by rw [dseg_nil];rfl⟩
     case round =>
      obtain ⟨j,rfl,hj1,hj2,rfl⟩:=hrel
      have hnb:j<i→dval (dseg (bs t) (i-4).toNat j.toNat)<1000:=by
       intro hji
       have h1:=dval_lt _ ((HadT.out.take j.toNat).drop (i-4).toNat)
       have h2:=dseg_len (bs t) (i-4).toNat j.toNat (by rw [bs_length];omega)
       unfold dseg at h2 ⊢
       rw [h2] at h1
       have h3:(10:Nat) ^ (j.toNat-(i-4).toNat)≤10 ^ 3:=Nat.pow_le_pow_right (by decide) (by omega)
       omega
      by_cases hji:j<i
      ·have hnb':=hnb hji
       by_cases hj0:0≤j
       ·obtain ⟨jn,rfl⟩:∃ jn:Nat,j=(jn:Int):=⟨j.toNat,by omega⟩
        have hjl:jn<t.size:=by omega
        have hatj:=bs_at t jn hjl
        have hdj:=HadT.out jn (by rw [bs_length];exact hjl)
        simp only [isD,decide_eq_true_eq] at hdj
        have Hst:Hid (dval (dseg (bs t) (i-4).toNat (jn+1))=10*dval (dseg (bs t) (i-4).toNat jn)+((bs t).getD jn 0-48)):=by
         show _=_
         rw [dseg_snoc _ _ _ (by omega) (by rw [bs_length];exact hjl),dval_snoc]
        obtain ⟨x,hx⟩:∃ x,t[jn].toNat=x:=⟨_,rfl⟩
        have hx1:48≤x∧x≤57:=by rw [←hx,hatj];exact hdj
        obtain ⟨hx1,hx2⟩:=hx1
        rw [←hatj,hx] at Hst
        have etn:((jn:Int)).toNat=jn:=by omega
        rw [etn] at hnb' ⊢
        obtain ⟨nn,hnn⟩:∃ nn,dval (dseg (bs t) (i-4).toNat jn)=nn:=⟨_,rfl⟩
        rw [hnn] at Hst hnb' ⊢
        have ehx:(t[jn].toNat:Int)=(x:Int):=by rw [hx]
        have ijl:(jn:Int)<(t.size:Int):=by omega
        clear hnb hatj hdj hx hnn etn
        go_wp2_with fail
        go_round
        case rel=>exact ⟨(jn:Int)+1,by go_num,by omega,by omega,by rw [show ((jn:Int)+1).toNat=jn+1 by omega,Hst.out];go_num⟩
        case measure=>simp [intOf];omega
       ·have e0:j.toNat=0:=by omega
        have e1:(j+1).toNat=0:=by omega
        rw [e0]
        obtain ⟨nn,hnn⟩:∃ nn,dval (dseg (bs t) (i-4).toNat 0)=nn:=⟨_,rfl⟩
        rw [hnn]
        have Hnn:=Lib.hid hnn
        clear hnb hnb' hnn
        go_wp2_with fail
        go_round
        case rel=>exact ⟨j+1,by go_num,by omega,by omega,by rw [e1,Hnn.out]⟩
        case measure=>simp [intOf];omega
      ·obtain rfl:j=i:=by omega
       have Hstep:=Lib.hid (zread_step (D:=bs t) (l:=l) (i:=j.toNat) (k:=k) (by rw [bs_length];have:=Hik.out;omega) Hl.out Hval.out)
       have hdl:dval (dseg (bs t) (j.toNat-4) j.toNat)<10000:=by
        have h1:=dval_lt _ ((HadT.out.take j.toNat).drop (j.toNat-4))
        have h2:=dseg_len (bs t) (j.toNat-4) j.toNat (by rw [bs_length];omega)
        unfold dseg at h2 ⊢
        rw [h2] at h1
        have h3:(10:Nat) ^ (j.toNat-(j.toNat-4))≤10 ^ 4:=Nat.pow_le_pow_right (by decide) (by omega)
        omega
       have e4:(j-4).toNat=j.toNat-4:=by omega
       rw [e4]
       obtain ⟨dg,hdg⟩:∃ dg,dval (dseg (bs t) (j.toNat-4) j.toNat)=dg:=⟨_,rfl⟩
       rw [hdg] at Hstep hdl ⊢
       have Hk4:Hid (k+1≤250000):=by show _≤_;have:=Hik.out;omega
       have hkk:=Hk4.out
       clear hnb hdg
       go_wp2_with (at_builtin;refine wpList_append_own _ rfl _ _ 33 rfl W0.heap.size 3 i0 (.int .i64 0) 1 8 Tryz.underlying33 hi hz0 hz1 hz2 rfl (by decide) _ k (inC l) rfl (Hown.out.alloc _) ⟨wr.heap.size,0,none⟩ 1 1 [.int .i64 (dg:Int)] rfl rfl (new_int wr _ _) (one_int _) (by unfold maxLen;omega) (by omega) (Nat.le_trans hEr.size (ext_alloc wr _).size) ?_;intro v' w' hown' hgrow' _)
       go_roundw
       case rel=>exact ⟨k+1,j-4,l++[dg],by go_num,by have:=Hik.out;omega,by omega,by omega,by rw [List.length_append,Hl.out];rfl,hkk,Hd.out.snoc hdl,by rw [inC_snoc];exact hown',by rw [e4];exact Hstep.out,ext_grown (hEr.trans (ext_alloc wr _)) hgrow' (fun j hj=>(Hown.out.lt j hj).1)⟩
       case measure=>simp [intOf];omega
    ·have hz9:zval l=dval (bs t):=by
      have:=Hval.out
      rw [show i.toNat=0 by omega,List.drop_zero] at this
      exact this
     obtain ⟨a9,c9,rfl,q1,q2,q3,q4⟩:=iseg_of_own Hown.out
     have Hbk:Hid (∀ x,a9=some x→W0.heap.size≤x.block):=fun x hx=>(Hown.out.lt x.block (by rw [hx];rfl)).1
     have lW:w.heap.size+1≤W0.heap.size:=hR.lt
     have Hm:=Lib.hid (zmade_blk true a9 l k c9 wr q3 q4 Hd.out q1 q2 (by omega) z (by rw [hz9];exact HzT.out))
     clear hz9
     go_wp2_with fail
     refine Hm.out.mono ?_
     rintro e w9 ⟨b',a',n',c',rfl,hI,hle,hx9,hP⟩
     have hR9:=hR.ext (hEr.trans hx9)
     have k0:=hR9.c0;have k1:=hR9.c1;have f0:=hR9.f 0;have f1:=hR9.f 1
     go_wp2_with fail
     exact bodyPost_ret (v:=.agg #[.bool b',.slice a' n' c']) (by simp [results,Tryz.results53,go_sem,k0,k1]) rfl ⟨b',a',n',c',rfl,hI.keepRes hR9.row _ _,by omega,(Below.setCell (hE.trans (hEr.trans hx9)) (p:=⟨w.heap.size,0,none⟩) (Nat.le_refl _) _).setCell (p:=⟨w.heap.size,1,none⟩) (Nat.le_refl _) _,fun x hx=>by
      rcases hP with h | h
      ·rw [h] at hx;cases hx
      ·rw [h] at hx;exact Nat.le_trans lW (Hbk.out x hx)⟩
  ·have hb:((s[0].toNat:Int) == 45)=false:=by rw [beq_eq_false_iff_ne,hat];omega
   have hsg:sgl (bs s)=0:=by unfold sgl;rw [if_neg h45]
   have HadT:Hid (AllD (bs s)):=by
    have:=Had.out
    rw [hsg,List.drop_zero] at this
    exact this
   have HzT:Hid (z=if false=true then -(dval (bs s):Int) else (dval (bs s):Int)):=by
    show _=_
    rw [Hz.out,hsg,if_neg (by decide),List.drop_zero];rfl
   clear hat h45 h0 hsg
   go_enter Tryz.func53,Tryz.ntmps53
   go_wp2_with fail
   generalize w.alloc (.cells #[.bool false,.slice none 0 0] 35)=W0 at *
   go_loopw [4,5] (fun dv iv wr=>∃ (k:Nat) (i:Int) (l:List Nat),iv=.int .i64 i∧i=(s.size:Int)-4*(k:Int)∧i≤s.size∧-4<i∧l.length=k∧k≤250000∧ZD l∧wr.ownsRow W0.heap.size 3 1 dv k (inC l)∧zval l=dval ((bs s).drop i.toNat)∧Ext W0 wr) (fun _ iv _=>(intOf iv).toNat)
   case atStart=>exact ⟨0,s.size,[],by go_num,by omega,by omega,by omega,rfl,by omega,ZD.nil,(show W0.ownsRow W0.heap.size 3 1 (.slice none 0 0) 0 (inC []) from World.ownsRow_nil _ _ _ _),by rw [List.drop_of_length_le (by rw [bs_length];omega)];rfl,Ext.refl _⟩
   case round =>
    obtain ⟨k,i,l,rfl,hik,hi1,hi2,hl,hkb,hd,hown,hval,hEr⟩:=hrel
    have Hl:=Lib.hid hl;have Hd:=Lib.hid hd;have Hval:=Lib.hid hval;have Hown:=Lib.hid hown;have Hik:=Lib.hid hik
    clear hl hd hval hown hik
    by_cases hgo:0<i
    ·go_wp2_with fail
     go_loop [6,7] (fun nv jv=>∃ (j:Int),jv=.int .i64 j∧i-4≤j∧j≤i∧nv=.int .i64 (dval (dseg (bs s) (i-4).toNat j.toNat):Nat)) (fun _ jv=>(i-intOf jv).toNat)
     case atStart=>exact ⟨i-4,by go_num,by omega,by omega,by rw [dseg_nil];rfl⟩
     case round =>
      obtain ⟨j,rfl,hj1,hj2,rfl⟩:=hrel
      have hnb:j<i→dval (dseg (bs s) (i-4).toNat j.toNat)<1000:=by
       intro hji
       have h1:=dval_lt _ ((HadT.out.take j.toNat).drop (i-4).toNat)
       have h2:=dseg_len (bs s) (i-4).toNat j.toNat (by rw [bs_length];omega)
       unfold dseg at h2 ⊢
       rw [h2] at h1
       have h3:(10:Nat) ^ (j.toNat-(i-4).toNat)≤10 ^ 3:=Nat.pow_le_pow_right (by decide) (by omega)
       omega
      by_cases hji:j<i
      ·have hnb':=hnb hji
       by_cases hj0:0≤j
       ·obtain ⟨jn,rfl⟩:∃ jn:Nat,j=(jn:Int):=⟨j.toNat,by omega⟩
        have hjl:jn<s.size:=by omega
        have hatj:=bs_at s jn hjl
        have hdj:=HadT.out jn (by rw [bs_length];exact hjl)
        simp only [isD,decide_eq_true_eq] at hdj
        have Hst:Hid (dval (dseg (bs s) (i-4).toNat (jn+1))=10*dval (dseg (bs s) (i-4).toNat jn)+((bs s).getD jn 0-48)):=by
         show _=_
         rw [dseg_snoc _ _ _ (by omega) (by rw [bs_length];exact hjl),dval_snoc]
        obtain ⟨x,hx⟩:∃ x,s[jn].toNat=x:=⟨_,rfl⟩
        have hx1:48≤x∧x≤57:=by rw [←hx,hatj];exact hdj
        obtain ⟨hx1,hx2⟩:=hx1
        rw [←hatj,hx] at Hst
        have etn:((jn:Int)).toNat=jn:=by omega
        rw [etn] at hnb' ⊢
        obtain ⟨nn,hnn⟩:∃ nn,dval (dseg (bs s) (i-4).toNat jn)=nn:=⟨_,rfl⟩
        rw [hnn] at Hst hnb' ⊢
        have ehx:(s[jn].toNat:Int)=(x:Int):=by rw [hx]
        have ijl:(jn:Int)<(s.size:Int):=by omega
        clear hnb hatj hdj hx hnn etn
        go_wp2_with fail
        go_round
        case rel=>exact ⟨(jn:Int)+1,by go_num,by omega,by omega,by rw [show ((jn:Int)+1).toNat=jn+1 by omega,Hst.out];go_num⟩
        case measure=>simp [intOf];omega
       ·have e0:j.toNat=0:=by omega
        have e1:(j+1).toNat=0:=by omega
        rw [e0]
        obtain ⟨nn,hnn⟩:∃ nn,dval (dseg (bs s) (i-4).toNat 0)=nn:=⟨_,rfl⟩
        rw [hnn]
        have Hnn:=Lib.hid hnn
        clear hnb hnb' hnn
        go_wp2_with fail
        go_round
        case rel=>exact ⟨j+1,by go_num,by omega,by omega,by rw [e1,Hnn.out]⟩
        case measure=>simp [intOf];omega
      ·obtain rfl:j=i:=by omega
       have Hstep:=Lib.hid (zread_step (D:=bs s) (l:=l) (i:=j.toNat) (k:=k) (by rw [bs_length];have:=Hik.out;omega) Hl.out Hval.out)
       have hdl:dval (dseg (bs s) (j.toNat-4) j.toNat)<10000:=by
        have h1:=dval_lt _ ((HadT.out.take j.toNat).drop (j.toNat-4))
        have h2:=dseg_len (bs s) (j.toNat-4) j.toNat (by rw [bs_length];omega)
        unfold dseg at h2 ⊢
        rw [h2] at h1
        have h3:(10:Nat) ^ (j.toNat-(j.toNat-4))≤10 ^ 4:=Nat.pow_le_pow_right (by decide) (by omega)
        omega
       have e4:(j-4).toNat=j.toNat-4:=by omega
       rw [e4]
       obtain ⟨dg,hdg⟩:∃ dg,dval (dseg (bs s) (j.toNat-4) j.toNat)=dg:=⟨_,rfl⟩
       rw [hdg] at Hstep hdl ⊢
       have Hk4:Hid (k+1≤250000):=by show _≤_;have:=Hik.out;omega
       have hkk:=Hk4.out
       clear hnb hdg
       go_wp2_with (at_builtin;refine wpList_append_own _ rfl _ _ 33 rfl W0.heap.size 3 i0 (.int .i64 0) 1 8 Tryz.underlying33 hi hz0 hz1 hz2 rfl (by decide) _ k (inC l) rfl (Hown.out.alloc _) ⟨wr.heap.size,0,none⟩ 1 1 [.int .i64 (dg:Int)] rfl rfl (new_int wr _ _) (one_int _) (by unfold maxLen;omega) (by omega) (Nat.le_trans hEr.size (ext_alloc wr _).size) ?_;intro v' w' hown' hgrow' _)
       go_roundw
       case rel=>exact ⟨k+1,j-4,l++[dg],by go_num,by have:=Hik.out;omega,by omega,by omega,by rw [List.length_append,Hl.out];rfl,hkk,Hd.out.snoc hdl,by rw [inC_snoc];exact hown',by rw [e4];exact Hstep.out,ext_grown (hEr.trans (ext_alloc wr _)) hgrow' (fun j hj=>(Hown.out.lt j hj).1)⟩
       case measure=>simp [intOf];omega
    ·have hz9:zval l=dval (bs s):=by
      have:=Hval.out
      rw [show i.toNat=0 by omega,List.drop_zero] at this
      exact this
     obtain ⟨a9,c9,rfl,q1,q2,q3,q4⟩:=iseg_of_own Hown.out
     have Hbk:Hid (∀ x,a9=some x→W0.heap.size≤x.block):=fun x hx=>(Hown.out.lt x.block (by rw [hx];rfl)).1
     have lW:w.heap.size+1≤W0.heap.size:=hR.lt
     have Hm:=Lib.hid (zmade_blk false a9 l k c9 wr q3 q4 Hd.out q1 q2 (by omega) z (by rw [hz9];exact HzT.out))
     clear hz9
     go_wp2_with fail
     refine Hm.out.mono ?_
     rintro e w9 ⟨b',a',n',c',rfl,hI,hle,hx9,hP⟩
     have hR9:=hR.ext (hEr.trans hx9)
     have k0:=hR9.c0;have k1:=hR9.c1;have f0:=hR9.f 0;have f1:=hR9.f 1
     go_wp2_with fail
     exact bodyPost_ret (v:=.agg #[.bool b',.slice a' n' c']) (by simp [results,Tryz.results53,go_sem,k0,k1]) rfl ⟨b',a',n',c',rfl,hI.keepRes hR9.row _ _,by omega,(Below.setCell (hE.trans (hEr.trans hx9)) (p:=⟨w.heap.size,0,none⟩) (Nat.le_refl _) _).setCell (p:=⟨w.heap.size,1,none⟩) (Nat.le_refl _) _,fun x hx=>by
      rcases hP with h | h
      ·rw [h] at hx;cases hx
      ·rw [h] at hx;exact Nat.le_trans lW (Hbk.out x hx)⟩
theorem zmade_long (neg:Bool) (ao:Option Addr) (l:List Nat) (n c:Nat) (w:World) (hl:l.length=n) (hs:ISeg w ao l) (hd:ZD l) (hc:n≤c) (hcm:c≤maxLen) (hn:n≤100000000000000) (z:Int) (hz:z=if neg then -(zval l:Int) else (zval l:Int)) :
  Calls Tryz.prog 84 #[.bool neg,.slice ao n c] w (ZRetB w z n (fun a'=>a'=none∨a'=ao)):=by
 have Hz:=Lib.hid hz
 clear hz
 have Hl:=Lib.hid hl;have Hs:=Lib.hid hs;have Hd:=Lib.hid hd
 have hE:=ext_alloc w (.cells #[.bool false,.slice none 0 0] 35)
 have hR:=zres_new w
 have hab:n=0∨∃ b o,ao=some ⟨b,o,none⟩:=by
  by_cases h0:n=0
  ·exact Or.inl h0
  ·exact Or.inr (hs.some_of (by omega))
 unfold maxLen at hcm
 clear hl hs hd
 go_enter Tryz.func84,Tryz.ntmps84
 go_wp2_with fail
 generalize w.alloc (.cells #[.bool false,.slice none 0 0] 35)=W0 at *
 have Hs0:=Lib.hid (Hs.out.ext hE)
 go_loop [5] (fun i=>∃ k:Nat,k≤n∧i=.int .i64 k∧∀ t,k≤t→t<n→l.getD t 0=0) (fun i=>(intOf i).toNat)
 case atStart=>exact ⟨n,Nat.le_refl _,rfl,fun t h1 h2=>by omega⟩
 case round =>
  obtain ⟨k,hk,rfl,hall⟩:=hrel
  have Hall:=Lib.hid hall
  clear hall
  have Hv:Hid (zval (l.take k)=zval l):=zval_take_zeros l k (by rw [Hl.out];exact hk) (by rw [Hl.out];exact Hall.out)
  have fin:∀ (hz:k=0∨l.getD (k-1) 0≠0),ZN (l.take k):=by
   intro hz
   by_cases h0:k=0
   ·subst h0;exact Or.inl (by simp)
   ·right
    have hlen:(l.take k).length=k:=by rw [List.length_take,Hl.out];omega
    rw [hlen,List.getD_eq_getElem?_getD,List.getElem?_take,if_pos (by omega),←List.getD_eq_getElem?_getD]
    exact hz.resolve_left h0
  have Fin:=Lib.hid fin
  clear fin
  by_cases hk0:k=0
  ·subst hk0
   have hv0:zval l=0:=by rw [←Hv.out];rfl
   have Hv0:=Lib.hid hv0
   have k0:=hR.c0;have k1:=hR.c1;have f0:=hR.f 0;have f1:=hR.f 1
   clear hv0
   go_wp2_with fail
   exact bodyPost_ret (v:=.agg #[.bool false,.slice none 0 0]) (by simp [results,Tryz.results84,go_sem,k0,k1]) rfl ⟨false,none,0,0,rfl,(IsZ.zero _).cast (by rw [Hz.out,Hv0.out];split<;>rfl),Nat.zero_le _,(Below.setCell hE (p:=⟨w.heap.size,0,none⟩) (Nat.le_refl _) _).setCell (p:=⟨w.heap.size,1,none⟩) (Nat.le_refl _) _,Or.inl rfl⟩
  ·have ik:(0:Int)<(k:Int):=by omega
   have ik1:(k:Int)-1=((k-1:Nat):Int):=by omega
   obtain ⟨j,rfl⟩:∃ j,k=j+1:=⟨k-1,by omega⟩
   rcases hab with h0 | ⟨b,o,rfl⟩
   ·omega
   have hcl:=Hs0.out.at j (by rw [Hl.out];omega)
   obtain ⟨x,hx⟩:∃ x,l.getD j 0=x:=⟨_,rfl⟩
   rw [hx] at hcl
   have Hx:=Lib.hid hx
   have ij:(j:Int)<(n:Int):=by omega
   have ij2:(j:Int)+1≤(c:Int):=by omega
   clear hx ik1 hk0
   by_cases hx0:x=0
   ·subst hx0
    go_wp2_with fail
    go_round
    case rel=>exact ⟨j,by omega,by go_num,fun t h1 h2=>by
     by_cases e:t=j
     ·rw [e];exact Hx.out
     ·exact Hall.out t (by omega) h2⟩
    case measure=>simp [intOf]
   ·have hxb:((x:Int) == 0)=false:=by rw [beq_eq_false_iff_ne];omega
    have hjb:((j:Int)+1 == 0)=false:=by rw [beq_eq_false_iff_ne];omega
    have Hzn:=Lib.hid (Fin.out (Or.inr (by rw [Nat.add_sub_cancel,Hx.out];exact hx0)))
    have k0:=hR.c0;have k1:=hR.c1;have f0:=hR.f 0;have f1:=hR.f 1
    clear hx0
    go_wp2_with fail
    exact bodyPost_ret (v:=.agg #[.bool neg,.slice (some ⟨b,o,none⟩) (j+1) c]) (by simp [results,Tryz.results84,go_sem,k0,k1]) rfl ⟨neg,some ⟨b,o,none⟩,j+1,c,rfl,IsZ.keepRes ⟨l.take (j+1),by rw [List.length_take,Hl.out];omega,by omega,by unfold maxLen;omega,Hs0.out.take _,Hd.out.take _,Hzn.out,by rw [Hz.out,Hv.out],fun h=>by
     have:=congrArg List.length h
     rw [List.length_take,Hl.out] at this
     simp at this
     omega⟩ hR.row _ _,by omega,(Below.setCell hE (p:=⟨w.heap.size,0,none⟩) (Nat.le_refl _) _).setCell (p:=⟨w.heap.size,1,none⟩) (Nat.le_refl _) _,Or.inr rfl⟩
theorem zread_long (s:ByteArray) (w:World) (had:AllD ((bs s).drop (sgl (bs s)))) (hs:s.size≤17592186044416) (z:Int) (hz:z=if sgl (bs s)=1 then -(dval ((bs s).drop (sgl (bs s))):Int) else (dval ((bs s).drop (sgl (bs s))):Int)) :
  Calls Tryz.prog 53 #[.string s] w (ZRetB w z 4398046511105 (fun a'=>∀ x,a'=some x→w.heap.size+1≤x.block)):=by
 obtain ⟨i0,hi,hz0,hz1,hz2⟩:=info_parts int_info
 have Hz:=Lib.hid hz;have Had:=Lib.hid had
 clear hz had
 have hE:=ext_alloc w (.cells #[.bool false,.slice none 0 0] 35)
 have hR:=zres_new w
 by_cases h0:s.size=0
 ·have e:=bs_nil s h0
  subst e
  have hz9:z=0:=by rw [Hz.out];simp [bs,sgl,dval]
  subst hz9
  go_enter Tryz.func53,Tryz.ntmps53
  go_wp2_with fail
  generalize w.alloc (.cells #[.bool false,.slice none 0 0] 35)=W0 at *
  go_loopw [4,5] (fun dv iv wr=>dv=.slice none 0 0∧iv=.int .i64 0∧Ext W0 wr) (fun _ _ _=>0)
  case atStart=>exact ⟨rfl,rfl,Ext.refl _⟩
  case round =>
   obtain ⟨rfl,rfl,hEr⟩:=hrel
   go_wp2_with fail
   refine (zmade_long false none [] 0 0 wr rfl (Or.inl ⟨rfl,rfl⟩) ZD.nil (Nat.le_refl _) (Nat.zero_le _) (by omega) 0 (by simp [zval])).mono ?_
   rintro e w9 ⟨b',a',n',c',rfl,hI,hle,hx9,hP⟩
   have hR9:=hR.ext (hEr.trans hx9)
   have k0:=hR9.c0;have k1:=hR9.c1;have f0:=hR9.f 0;have f1:=hR9.f 1
   go_wp2_with fail
   exact bodyPost_ret (v:=.agg #[.bool b',.slice a' n' c']) (by simp [results,Tryz.results53,go_sem,k0,k1]) rfl ⟨b',a',n',c',rfl,hI.keepRes hR9.row _ _,by omega,(Below.setCell (hE.trans (hEr.trans hx9)) (p:=⟨w.heap.size,0,none⟩) (Nat.le_refl _) _).setCell (p:=⟨w.heap.size,1,none⟩) (Nat.le_refl _) _,fun x hx=>by rcases hP with h | h<;>rw [h] at hx<;>cases hx⟩
 ·have hp:0<s.size:=by omega
  have ip:(0:Int)<(s.size:Int):=by omega
  have hat:=bs_at s 0 hp
  by_cases h45:(bs s).getD 0 0=45
  ·have hb:((s[0].toNat:Int) == 45)=true:=by rw [beq_iff_eq,hat];omega
   have hsg:sgl (bs s)=1:=by unfold sgl;rw [if_pos h45]
   obtain ⟨t,ht⟩:∃ t,s.extract 1 s.size=t:=⟨_,rfl⟩
   have hbt:bs t=(bs s).drop 1:=by
    rw [←ht,bs_extract,List.take_of_length_le]
    rw [List.length_drop,bs_length];omega
   have hts:t.size≤17592186044416:=by rw [←bs_length,hbt,List.length_drop,bs_length];omega
   have HadT:Hid (AllD (bs t)):=by
    have:=Had.out
    rw [hsg,←hbt] at this
    exact this
   have HzT:Hid (z=if true=true then -(dval (bs t):Int) else (dval (bs t):Int)):=by
    show _=_
    rw [Hz.out,hsg,if_pos rfl,if_pos rfl,hbt]
   have i1:(1:Int)≤(s.size:Int):=by omega
   clear hat h45 h0 hsg hbt
   go_enter Tryz.func53,Tryz.ntmps53
   go_wp2_with fail
   clear ht hs
   generalize w.alloc (.cells #[.bool false,.slice none 0 0] 35)=W0 at *
   go_loopw [4,5] (fun dv iv wr=>∃ (k:Nat) (i:Int) (l:List Nat),iv=.int .i64 i∧i=(t.size:Int)-4*(k:Int)∧i≤t.size∧-4<i∧l.length=k∧k≤4398046511104∧ZD l∧wr.ownsRow W0.heap.size 3 1 dv k (inC l)∧zval l=dval ((bs t).drop i.toNat)∧Ext W0 wr) (fun _ iv _=>(intOf iv).toNat)
   case atStart=>exact ⟨0,t.size,[],by go_num,by omega,by omega,by omega,rfl,by omega,ZD.nil,(show W0.ownsRow W0.heap.size 3 1 (.slice none 0 0) 0 (inC []) from World.ownsRow_nil _ _ _ _),by rw [List.drop_of_length_le (by rw [bs_length];omega)];rfl,Ext.refl _⟩
   case round =>
    obtain ⟨k,i,l,rfl,hik,hi1,hi2,hl,hkb,hd,hown,hval,hEr⟩:=hrel
    have Hl:=Lib.hid hl;have Hd:=Lib.hid hd;have Hval:=Lib.hid hval;have Hown:=Lib.hid hown;have Hik:=Lib.hid hik
    clear hl hd hval hown hik
    by_cases hgo:0<i
    ·go_wp2_with fail
     go_loop [6,7] (fun nv jv=>∃ (j:Int),jv=.int .i64 j∧i-4≤j∧j≤i∧nv=.int .i64 (dval (dseg (bs t) (i-4).toNat j.toNat):Nat)) (fun _ jv=>(i-intOf jv).toNat)
     case atStart=>exact ⟨i-4,by go_num,by omega,by omega,by rw [dseg_nil];rfl⟩
     case round =>
      obtain ⟨j,rfl,hj1,hj2,rfl⟩:=hrel
      have hnb:j<i→dval (dseg (bs t) (i-4).toNat j.toNat)<1000:=by
       intro hji
       have h1:=dval_lt _ ((HadT.out.take j.toNat).drop (i-4).toNat)
       have h2:=dseg_len (bs t) (i-4).toNat j.toNat (by rw [bs_length];omega)
       unfold dseg at h2 ⊢
       rw [h2] at h1
       have h3:(10:Nat) ^ (j.toNat-(i-4).toNat)≤10 ^ 3:=Nat.pow_le_pow_right (by decide) (by omega)
       omega
      by_cases hji:j<i
      ·have hnb':=hnb hji
       by_cases hj0:0≤j
       ·obtain ⟨jn,rfl⟩:∃ jn:Nat,j=(jn:Int):=⟨j.toNat,by omega⟩
        have hjl:jn<t.size:=by omega
        have hatj:=bs_at t jn hjl
        have hdj:=HadT.out jn (by rw [bs_length];exact hjl)
        simp only [isD,decide_eq_true_eq] at hdj
        have Hst:Hid (dval (dseg (bs t) (i-4).toNat (jn+1))=10*dval (dseg (bs t) (i-4).toNat jn)+((bs t).getD jn 0-48)):=by
         show _=_
         rw [dseg_snoc _ _ _ (by omega) (by rw [bs_length];exact hjl),dval_snoc]
        obtain ⟨x,hx⟩:∃ x,t[jn].toNat=x:=⟨_,rfl⟩
        have hx1:48≤x∧x≤57:=by rw [←hx,hatj];exact hdj
        obtain ⟨hx1,hx2⟩:=hx1
        rw [←hatj,hx] at Hst
        have etn:((jn:Int)).toNat=jn:=by omega
        rw [etn] at hnb' ⊢
        obtain ⟨nn,hnn⟩:∃ nn,dval (dseg (bs t) (i-4).toNat jn)=nn:=⟨_,rfl⟩
        rw [hnn] at Hst hnb' ⊢
        have ehx:(t[jn].toNat:Int)=(x:Int):=by rw [hx]
        have ijl:(jn:Int)<(t.size:Int):=by omega
        clear hnb hatj hdj hx hnn etn
        go_wp2_with fail
        go_round
        case rel=>exact ⟨(jn:Int)+1,by go_num,by omega,by omega,by rw [show ((jn:Int)+1).toNat=jn+1 by omega,Hst.out];go_num⟩
        case measure=>simp [intOf];omega
       ·have e0:j.toNat=0:=by omega
        have e1:(j+1).toNat=0:=by omega
        rw [e0]
        obtain ⟨nn,hnn⟩:∃ nn,dval (dseg (bs t) (i-4).toNat 0)=nn:=⟨_,rfl⟩
        rw [hnn]
        have Hnn:=Lib.hid hnn
        clear hnb hnb' hnn
        go_wp2_with fail
        go_round
        case rel=>exact ⟨j+1,by go_num,by omega,by omega,by rw [e1,Hnn.out]⟩
        case measure=>simp [intOf];omega
      ·obtain rfl:j=i:=by omega
       have Hstep:=Lib.hid (zread_step (D:=bs t) (l:=l) (i:=j.toNat) (k:=k) (by rw [bs_length];have:=Hik.out;omega) Hl.out Hval.out)
       have hdl:dval (dseg (bs t) (j.toNat-4) j.toNat)<10000:=by
        have h1:=dval_lt _ ((HadT.out.take j.toNat).drop (j.toNat-4))
        have h2:=dseg_len (bs t) (j.toNat-4) j.toNat (by rw [bs_length];omega)
        unfold dseg at h2 ⊢
        rw [h2] at h1
        have h3:(10:Nat) ^ (j.toNat-(j.toNat-4))≤10 ^ 4:=Nat.pow_le_pow_right (by decide) (by omega)
        omega
       have e4:(j-4).toNat=j.toNat-4:=by omega
       rw [e4]
       obtain ⟨dg,hdg⟩:∃ dg,dval (dseg (bs t) (j.toNat-4) j.toNat)=dg:=⟨_,rfl⟩
       rw [hdg] at Hstep hdl ⊢
       have Hk4:Hid (k+1≤4398046511104):=by show _≤_;have:=Hik.out;omega
       have hkk:=Hk4.out
       clear hnb hdg
       go_wp2_with (at_builtin;refine wpList_append_own _ rfl _ _ 33 rfl W0.heap.size 3 i0 (.int .i64 0) 1 8 Tryz.underlying33 hi hz0 hz1 hz2 rfl (by decide) _ k (inC l) rfl (Hown.out.alloc _) ⟨wr.heap.size,0,none⟩ 1 1 [.int .i64 (dg:Int)] rfl rfl (new_int wr _ _) (one_int _) (by unfold maxLen;omega) (by omega) (Nat.le_trans hEr.size (ext_alloc wr _).size) ?_;intro v' w' hown' hgrow' _)
       go_roundw
       case rel=>exact ⟨k+1,j-4,l++[dg],by go_num,by have:=Hik.out;omega,by omega,by omega,by rw [List.length_append,Hl.out];rfl,hkk,Hd.out.snoc hdl,by rw [inC_snoc];exact hown',by rw [e4];exact Hstep.out,ext_grown (hEr.trans (ext_alloc wr _)) hgrow' (fun j hj=>(Hown.out.lt j hj).1)⟩
       case measure=>simp [intOf];omega
    ·have hz9:zval l=dval (bs t):=by
      have:=Hval.out
      rw [show i.toNat=0 by omega,List.drop_zero] at this
      exact this
     obtain ⟨a9,c9,rfl,q1,q2,q3,q4⟩:=iseg_of_own Hown.out
     have Hbk:Hid (∀ x,a9=some x→W0.heap.size≤x.block):=fun x hx=>(Hown.out.lt x.block (by rw [hx];rfl)).1
     have lW:w.heap.size+1≤W0.heap.size:=hR.lt
     have Hm:=Lib.hid (zmade_long true a9 l k c9 wr q3 q4 Hd.out q1 q2 (by omega) z (by rw [hz9];exact HzT.out))
     clear hz9
     go_wp2_with fail
     refine Hm.out.mono ?_
     rintro e w9 ⟨b',a',n',c',rfl,hI,hle,hx9,hP⟩
     have hR9:=hR.ext (hEr.trans hx9)
     have k0:=hR9.c0;have k1:=hR9.c1;have f0:=hR9.f 0;have f1:=hR9.f 1
     go_wp2_with fail
     exact bodyPost_ret (v:=.agg #[.bool b',.slice a' n' c']) (by simp [results,Tryz.results53,go_sem,k0,k1]) rfl ⟨b',a',n',c',rfl,hI.keepRes hR9.row _ _,by omega,(Below.setCell (hE.trans (hEr.trans hx9)) (p:=⟨w.heap.size,0,none⟩) (Nat.le_refl _) _).setCell (p:=⟨w.heap.size,1,none⟩) (Nat.le_refl _) _,fun x hx=>by
      rcases hP with h | h
      ·rw [h] at hx;cases hx
      ·rw [h] at hx;exact Nat.le_trans lW (Hbk.out x hx)⟩
  ·have hb:((s[0].toNat:Int) == 45)=false:=by rw [beq_eq_false_iff_ne,hat];omega
   have hsg:sgl (bs s)=0:=by unfold sgl;rw [if_neg h45]
   have HadT:Hid (AllD (bs s)):=by
    have:=Had.out
    rw [hsg,List.drop_zero] at this
    exact this
   have HzT:Hid (z=if false=true then -(dval (bs s):Int) else (dval (bs s):Int)):=by
    show _=_
    rw [Hz.out,hsg,if_neg (by decide),List.drop_zero];rfl
   clear hat h45 h0 hsg
   go_enter Tryz.func53,Tryz.ntmps53
   go_wp2_with fail
   generalize w.alloc (.cells #[.bool false,.slice none 0 0] 35)=W0 at *
   go_loopw [4,5] (fun dv iv wr=>∃ (k:Nat) (i:Int) (l:List Nat),iv=.int .i64 i∧i=(s.size:Int)-4*(k:Int)∧i≤s.size∧-4<i∧l.length=k∧k≤4398046511104∧ZD l∧wr.ownsRow W0.heap.size 3 1 dv k (inC l)∧zval l=dval ((bs s).drop i.toNat)∧Ext W0 wr) (fun _ iv _=>(intOf iv).toNat)
   case atStart=>exact ⟨0,s.size,[],by go_num,by omega,by omega,by omega,rfl,by omega,ZD.nil,(show W0.ownsRow W0.heap.size 3 1 (.slice none 0 0) 0 (inC []) from World.ownsRow_nil _ _ _ _),by rw [List.drop_of_length_le (by rw [bs_length];omega)];rfl,Ext.refl _⟩
   case round =>
    obtain ⟨k,i,l,rfl,hik,hi1,hi2,hl,hkb,hd,hown,hval,hEr⟩:=hrel
    have Hl:=Lib.hid hl;have Hd:=Lib.hid hd;have Hval:=Lib.hid hval;have Hown:=Lib.hid hown;have Hik:=Lib.hid hik
    clear hl hd hval hown hik
    by_cases hgo:0<i
    ·go_wp2_with fail
     go_loop [6,7] (fun nv jv=>∃ (j:Int),jv=.int .i64 j∧i-4≤j∧j≤i∧nv=.int .i64 (dval (dseg (bs s) (i-4).toNat j.toNat):Nat)) (fun _ jv=>(i-intOf jv).toNat)
     case atStart=>exact ⟨i-4,by go_num,by omega,by omega,by rw [dseg_nil];rfl⟩
     case round =>
      obtain ⟨j,rfl,hj1,hj2,rfl⟩:=hrel
      have hnb:j<i→dval (dseg (bs s) (i-4).toNat j.toNat)<1000:=by
       intro hji
       have h1:=dval_lt _ ((HadT.out.take j.toNat).drop (i-4).toNat)
       have h2:=dseg_len (bs s) (i-4).toNat j.toNat (by rw [bs_length];omega)
       unfold dseg at h2 ⊢
       rw [h2] at h1
       have h3:(10:Nat) ^ (j.toNat-(i-4).toNat)≤10 ^ 3:=Nat.pow_le_pow_right (by decide) (by omega)
       omega
      by_cases hji:j<i
      ·have hnb':=hnb hji
       by_cases hj0:0≤j
       ·obtain ⟨jn,rfl⟩:∃ jn:Nat,j=(jn:Int):=⟨j.toNat,by omega⟩
        have hjl:jn<s.size:=by omega
        have hatj:=bs_at s jn hjl
        have hdj:=HadT.out jn (by rw [bs_length];exact hjl)
        simp only [isD,decide_eq_true_eq] at hdj
        have Hst:Hid (dval (dseg (bs s) (i-4).toNat (jn+1))=10*dval (dseg (bs s) (i-4).toNat jn)+((bs s).getD jn 0-48)):=by
         show _=_
         rw [dseg_snoc _ _ _ (by omega) (by rw [bs_length];exact hjl),dval_snoc]
        obtain ⟨x,hx⟩:∃ x,s[jn].toNat=x:=⟨_,rfl⟩
        have hx1:48≤x∧x≤57:=by rw [←hx,hatj];exact hdj
        obtain ⟨hx1,hx2⟩:=hx1
        rw [←hatj,hx] at Hst
        have etn:((jn:Int)).toNat=jn:=by omega
        rw [etn] at hnb' ⊢
        obtain ⟨nn,hnn⟩:∃ nn,dval (dseg (bs s) (i-4).toNat jn)=nn:=⟨_,rfl⟩
        rw [hnn] at Hst hnb' ⊢
        have ehx:(s[jn].toNat:Int)=(x:Int):=by rw [hx]
        have ijl:(jn:Int)<(s.size:Int):=by omega
        clear hnb hatj hdj hx hnn etn
        go_wp2_with fail
        go_round
        case rel=>exact ⟨(jn:Int)+1,by go_num,by omega,by omega,by rw [show ((jn:Int)+1).toNat=jn+1 by omega,Hst.out];go_num⟩
        case measure=>simp [intOf];omega
       ·have e0:j.toNat=0:=by omega
        have e1:(j+1).toNat=0:=by omega
        rw [e0]
        obtain ⟨nn,hnn⟩:∃ nn,dval (dseg (bs s) (i-4).toNat 0)=nn:=⟨_,rfl⟩
        rw [hnn]
        have Hnn:=Lib.hid hnn
        clear hnb hnb' hnn
        go_wp2_with fail
        go_round
        case rel=>exact ⟨j+1,by go_num,by omega,by omega,by rw [e1,Hnn.out]⟩
        case measure=>simp [intOf];omega
      ·obtain rfl:j=i:=by omega
       have Hstep:=Lib.hid (zread_step (D:=bs s) (l:=l) (i:=j.toNat) (k:=k) (by rw [bs_length];have:=Hik.out;omega) Hl.out Hval.out)
       have hdl:dval (dseg (bs s) (j.toNat-4) j.toNat)<10000:=by
        have h1:=dval_lt _ ((HadT.out.take j.toNat).drop (j.toNat-4))
        have h2:=dseg_len (bs s) (j.toNat-4) j.toNat (by rw [bs_length];omega)
        unfold dseg at h2 ⊢
        rw [h2] at h1
        have h3:(10:Nat) ^ (j.toNat-(j.toNat-4))≤10 ^ 4:=Nat.pow_le_pow_right (by decide) (by omega)
        omega
       have e4:(j-4).toNat=j.toNat-4:=by omega
       rw [e4]
       obtain ⟨dg,hdg⟩:∃ dg,dval (dseg (bs s) (j.toNat-4) j.toNat)=dg:=⟨_,rfl⟩
       rw [hdg] at Hstep hdl ⊢
       have Hk4:Hid (k+1≤4398046511104):=by show _≤_;have:=Hik.out;omega
       have hkk:=Hk4.out
       clear hnb hdg
       go_wp2_with (at_builtin;refine wpList_append_own _ rfl _ _ 33 rfl W0.heap.size 3 i0 (.int .i64 0) 1 8 Tryz.underlying33 hi hz0 hz1 hz2 rfl (by decide) _ k (inC l) rfl (Hown.out.alloc _) ⟨wr.heap.size,0,none⟩ 1 1 [.int .i64 (dg:Int)] rfl rfl (new_int wr _ _) (one_int _) (by unfold maxLen;omega) (by omega) (Nat.le_trans hEr.size (ext_alloc wr _).size) ?_;intro v' w' hown' hgrow' _)
       go_roundw
       case rel=>exact ⟨k+1,j-4,l++[dg],by go_num,by have:=Hik.out;omega,by omega,by omega,by rw [List.length_append,Hl.out];rfl,hkk,Hd.out.snoc hdl,by rw [inC_snoc];exact hown',by rw [e4];exact Hstep.out,ext_grown (hEr.trans (ext_alloc wr _)) hgrow' (fun j hj=>(Hown.out.lt j hj).1)⟩
       case measure=>simp [intOf];omega
    ·have hz9:zval l=dval (bs s):=by
      have:=Hval.out
      rw [show i.toNat=0 by omega,List.drop_zero] at this
      exact this
     obtain ⟨a9,c9,rfl,q1,q2,q3,q4⟩:=iseg_of_own Hown.out
     have Hbk:Hid (∀ x,a9=some x→W0.heap.size≤x.block):=fun x hx=>(Hown.out.lt x.block (by rw [hx];rfl)).1
     have lW:w.heap.size+1≤W0.heap.size:=hR.lt
     have Hm:=Lib.hid (zmade_long false a9 l k c9 wr q3 q4 Hd.out q1 q2 (by omega) z (by rw [hz9];exact HzT.out))
     clear hz9
     go_wp2_with fail
     refine Hm.out.mono ?_
     rintro e w9 ⟨b',a',n',c',rfl,hI,hle,hx9,hP⟩
     have hR9:=hR.ext (hEr.trans hx9)
     have k0:=hR9.c0;have k1:=hR9.c1;have f0:=hR9.f 0;have f1:=hR9.f 1
     go_wp2_with fail
     exact bodyPost_ret (v:=.agg #[.bool b',.slice a' n' c']) (by simp [results,Tryz.results53,go_sem,k0,k1]) rfl ⟨b',a',n',c',rfl,hI.keepRes hR9.row _ _,by omega,(Below.setCell (hE.trans (hEr.trans hx9)) (p:=⟨w.heap.size,0,none⟩) (Nat.le_refl _) _).setCell (p:=⟨w.heap.size,1,none⟩) (Nat.le_refl _) _,fun x hx=>by
      rcases hP with h | h
      ·rw [h] at hx;cases hx
      ·rw [h] at hx;exact Nat.le_trans lW (Hbk.out x hx)⟩
def sqR (a:Int→Int):Int→Int:=fun k=>a (k-2)-a (k-6)
def nSq (x:Nm):Nm:=⟨sqR x.a,x.e⟩
theorem sqR_sq {a:Int→Int} (h:Anti a) (k:Int):sqR (sqR a) k=2*a k:=by
 unfold sqR
 have h1:=h.back k
 have h2:=h.back (k-4)
 rw [show k-2-2=k-4 by omega,show k-2-6=k-8 by omega,show k-6-2=k-8 by omega,show k-6-6=k-4-8 by omega,h1,h2]
 omega
theorem n_sq (x:Nm):EqN (nAdd (nTr 2 x) (nNeg (nTr 6 x))) (nSq x):=fun k=>by
 simp only [nAdd,nTr,nNeg,negR,trR,nSq,sqR,Int.pow_add]
 grind
theorem sqR_add {a:Int→Int} (h:Anti a):sqR a=addR (trR 2 a) (trR (-2) a):=by
 funext k
 have h1:=h.back (k+2)
 unfold sqR addR trR
 rw [show k-6=k+2-8 by omega,h1,show k - -2=k+2 by omega]
 omega
theorem sqR_abs {a:Int→Int} {P:Nat} (h:∀ k,(a k).natAbs<2 ^ P) (k:Int):(sqR a k).natAbs<2 ^ (P+1):=by
 have h1:=h (k-2);have h2:=h (k-6)
 unfold sqR
 rw [Nat.pow_succ];omega
def evR (a:Int→Int):Prop:=∀ k,sqR a k % 2=0
theorem evR_iff {a:Int→Int} (h:Anti a):evR a↔∀ i:Nat,i<4→a i % 2=a (i+4:Nat) % 2:=by
 constructor
 ·intro he i hi
  have h1:=he ((i:Int)+6)
  unfold sqR at h1
  rw [show (i:Int)+6-2=((i+4:Nat):Int) by omega,show (i:Int)+6-6=(i:Int) by omega] at h1
  omega
 ·intro hi
  have base:∀ j:Int,0≤j→j<8→a (j+4) % 2=a j % 2:=by
   intro j h0 h1
   by_cases hj:j<4
   ·have:=hi j.toNat (by omega)
    rw [show ((j.toNat:Nat):Int)=j by omega,show ((j.toNat+4:Nat):Int)=j+4 by omega] at this
    omega
   ·have:=hi (j-4).toNat (by omega)
    rw [show (((j-4).toNat:Nat):Int)=j-4 by omega,show (((j-4).toNat+4:Nat):Int)=j by omega] at this
    have h2:=h (j-4)
    rw [show j-4+8=j+4 by omega] at h2
    omega
  have up:∀ m:Nat,∀ j:Int,0≤j→j<8→a (j+8*m+4) % 2=a (j+8*m) % 2∧a (j-8*m+4) % 2=a (j-8*m) % 2:=by
   intro m
   induction m with
   | zero=>intro j h0 h1;simp only [Int.mul_zero,Int.add_zero,Int.sub_zero,Int.natCast_zero];exact ⟨base j h0 h1,base j h0 h1⟩
   | succ m ih =>
    intro j h0 h1
    obtain ⟨i1,i2⟩:=ih j h0 h1
    have e1:=h (j+8*m+4);have e2:=h (j+8*m);have e3:=h.back (j-8*m+4);have e4:=h.back (j-8*m)
    rw [show j+8*((m+1:Nat):Int)+4=j+8*m+4+8 by omega,show j+8*((m+1:Nat):Int)=j+8*m+8 by omega,show j-8*((m+1:Nat):Int)+4=j-8*m+4-8 by omega,show j-8*((m+1:Nat):Int)=j-8*m-8 by omega,e1,e2,e3,e4]
    omega
  have all:∀ j:Int,a (j+4) % 2=a j % 2:=by
   intro k
   by_cases hk:0≤k
   ·have:=(up (k / 8).toNat (k % 8) (by omega) (by omega)).1
    rwa [show k % 8+8*(((k / 8).toNat:Nat):Int)=k by omega] at this
   ·have:=(up (-(k / 8)).toNat (k % 8) (by omega) (by omega)).2
    rwa [show k % 8-8*(((-(k / 8)).toNat:Nat):Int)=k by omega] at this
  intro k
  have:=all (k-6)
  rw [show k-6+4=k-2 by omega] at this
  unfold sqR
  omega
theorem sqR_half {a:Int→Int} (h:Anti a) (he:evR a) (k:Int):sqR (fun j=>sqR a j / 2) k=a k:=by
 have h1:=sqR_sq h k
 have h2:=he (k-2);have h3:=he (k-6)
 show sqR a (k-2) / 2-sqR a (k-6) / 2=a k
 have h4:sqR a (k-2)-sqR a (k-6)=2*a k:=h1
 omega
open Classical in
noncomputable def dep (x:Nm):Nat:=if x.e=0 then 0 else if evR x.a then 2*x.e-1 else 2*x.e
open Classical in
noncomputable def itN (x:Nm) (n:Nat):Nm:=if n % 2=0 then ⟨x.a,x.e-n / 2⟩ else if evR x.a then ⟨fun k=>sqR x.a k / 2,x.e-n / 2-1⟩ else ⟨sqR x.a,x.e-n / 2⟩
theorem itN_zero (x:Nm):itN x 0=x:=by unfold itN;simp
theorem dep_le (x:Nm):dep x≤2*x.e:=by
 unfold dep
 split
 ·omega
 ·split<;>omega
theorem itN_abs {x:Nm} {P:Nat} (h:∀ k,(x.a k).natAbs<2 ^ P) (n:Nat) (k:Int):((itN x n).a k).natAbs<2 ^ (P+1):=by
 have h1:=sqR_abs h k
 have h2:=h k
 unfold itN
 split
 ·show (x.a k).natAbs<2 ^ (P+1)
  rw [Nat.pow_succ];omega
 ·split
  ·show (sqR x.a k / 2).natAbs<2 ^ (P+1)
   omega
  ·exact h1
theorem itN_down (x:Nm) (n:Nat):(itN x n).e≤x.e:=by
 unfold itN
 split
 ·exact Nat.sub_le _ _
 ·split
  ·show x.e-n / 2-1≤x.e
   omega
  ·exact Nat.sub_le _ _
theorem itN_end {x:Nm} {n:Nat} (hn:n≤dep x):(itN x n).e=0↔n=dep x:=by
 unfold dep at hn ⊢
 unfold itN
 by_cases h0:x.e=0
 ·rw [if_pos h0] at hn ⊢
  have:n=0:=by omega
  subst this
  simp [h0]
 ·rw [if_neg h0] at hn ⊢
  by_cases he:evR x.a
  ·rw [if_pos he] at hn ⊢
   split
   ·show x.e-n / 2=0↔_
    omega
   ·show x.e-n / 2-1=0↔_
    omega
  ·rw [if_neg he] at hn ⊢
   split
   ·show x.e-n / 2=0↔_
    omega
   ·show x.e-n / 2=0↔_
    omega
theorem odd_sq {a:Int→Int} (h:Anti a) (he:evR a) (ho:∃ k,a k % 2=1):∃ k,(sqR a k / 2) % 2=1:=by
 refine Classical.byContradiction fun hc=>?_
 obtain ⟨k,hk⟩:=ho
 have h1:=sqR_half h he k
 have h2:∀ j,(sqR a j / 2) % 2=0:=fun j=>by
  have h6:¬ (sqR a j / 2) % 2=1:=fun e=>hc ⟨j,e⟩
  omega
 have h3:=h2 (k-2);have h4:=h2 (k-6)
 have h5:sqR a (k-2) / 2-sqR a (k-6) / 2=a k:=h1
 omega
theorem itN_low {x:Nm} (h:Anti x.a) (hl:Low x) {n:Nat} (hn:n≤dep x):Low (itN x n):=by
 by_cases h0:x.e=0
 ·have h1:n=0:=by unfold dep at hn;rw [if_pos h0] at hn;omega
  subst h1
  rw [itN_zero];exact hl
 ·have ho:∃ k,x.a k % 2=1:=hl.resolve_left h0
  unfold itN
  split
  ·exact Or.inr ho
  ·split
   ·rename_i he
    exact Or.inr (odd_sq h he ho)
   ·rename_i he
    refine Or.inr (Classical.byContradiction fun hc=>he fun k=>?_)
    have h2:¬ sqR x.a k % 2=1:=fun e=>hc ⟨k,e⟩
    omega
theorem itN_step {x:Nm} (h:Anti x.a) {n:Nat} (hn:n<dep x):EqN (nSq (itN x n)) (itN x (n+1)):=by
 have hd:=dep_le x
 by_cases h2:n % 2=0
 ·have e1:itN x n=⟨x.a,x.e-n / 2⟩:=by unfold itN;rw [if_pos h2]
  rw [e1]
  by_cases he:evR x.a
  ·have e2:itN x (n+1)=⟨fun k=>sqR x.a k / 2,x.e-n / 2-1⟩:=by
    unfold itN;rw [if_neg (by omega),if_pos he,show (n+1) / 2=n / 2 by omega]
   rw [e2]
   intro k
   have h3:=he k
   obtain ⟨d,hd⟩:∃ d,x.e-n / 2=d+1:=⟨x.e-n / 2-1,by omega⟩
   show sqR x.a k*2 ^ (x.e-n / 2-1)=sqR x.a k / 2*2 ^ (x.e-n / 2)
   rw [hd,Nat.add_sub_cancel,Int.pow_succ,Int.mul_comm (2 ^ d) 2,←Int.mul_assoc]
   congr 1
   omega
  ·have e2:itN x (n+1)=⟨sqR x.a,x.e-n / 2⟩:=by
    unfold itN;rw [if_neg (by omega),if_neg he,show (n+1) / 2=n / 2 by omega]
   rw [e2]
   exact EqN.refl _
 ·have e2:itN x (n+1)=⟨x.a,x.e-n / 2-1⟩:=by
   unfold itN;rw [if_pos (by omega),show (n+1) / 2=n / 2+1 by omega];rfl
  by_cases he:evR x.a
  ·have e1:itN x n=⟨fun k=>sqR x.a k / 2,x.e-n / 2-1⟩:=by unfold itN;rw [if_neg h2,if_pos he]
   rw [e1,e2]
   refine EqN.of_eq ?_
   show (⟨sqR (fun k=>sqR x.a k / 2),x.e-n / 2-1⟩:Nm)=⟨x.a,x.e-n / 2-1⟩
   rw [show sqR (fun k=>sqR x.a k / 2)=x.a from funext fun k=>sqR_half h he k]
  ·have e1:itN x n=⟨sqR x.a,x.e-n / 2⟩:=by unfold itN;rw [if_neg h2,if_neg he]
   rw [e1,e2]
   intro k
   have h3:=sqR_sq h k
   have hdd:dep x=2*x.e:=by unfold dep;rw [if_neg (by omega),if_neg he]
   obtain ⟨d,hd⟩:∃ d,x.e-n / 2=d+1:=⟨x.e-n / 2-1,by omega⟩
   show sqR (sqR x.a) k*2 ^ (x.e-n / 2-1)=x.a k*2 ^ (x.e-n / 2)
   rw [hd,Nat.add_sub_cancel,Int.pow_succ,h3,Int.mul_comm 2,Int.mul_assoc,Int.mul_comm 2 (2 ^ d)]
theorem QEven_nm (ca:Array Value) (x:Nm) (P E:Nat) (w:World) (h:RmA w ca x P E) (hP:P≤400000) (B:Bool) (hB:B=true↔∀ i:Nat,i<4→x.a (2*i+1:Nat)=0) :
  Calls Tryz.prog 18 #[.agg ca] w fun e w'=>e=.returned (.bool B)∧Ext w w':=by
 obtain ⟨H,hH⟩:∃ H,w.heap.size=H:=⟨_,rfl⟩
 obtain ⟨U,hU⟩:∃ U,w.alloc (.cells ca 38)=U:=⟨_,rfl⟩
 have E0:Ext w U:=by rw [←hU];exact Ext.alloc _ _
 have Z0:ZVar U H (fun i=>x.a i) (x.e:Int):=by rw [←hU,←hH];exact h.val.box
 obtain ⟨b1,a1,n1,c1,_,y1,_,_,I1⟩:=Z0.get 1 (by decide)
 obtain ⟨b3,a3,n3,c3,_,y3,_,_,I3⟩:=Z0.get 3 (by decide)
 obtain ⟨b5,a5,n5,c5,_,y5,_,_,I5⟩:=Z0.get 5 (by decide)
 obtain ⟨b7,a7,n7,c7,_,y7,_,_,I7⟩:=Z0.get 7 (by decide)
 have z1:U.cell? ⟨H,3,none⟩=some (.slice a1 n1 c1):=y1
 have z3:U.cell? ⟨H,7,none⟩=some (.slice a3 n3 c3):=y3
 have z5:U.cell? ⟨H,11,none⟩=some (.slice a5 n5 c5):=y5
 have z7:U.cell? ⟨H,15,none⟩=some (.slice a7 n7 c7):=y7
 have l1:=I1.bits (h.abs _);have l3:=I3.bits (h.abs _);have l5:=I5.bits (h.abs _);have l7:=I7.bits (h.abs _)
 obtain ⟨t3,ht3⟩:∃ t3:Int,(n1:Int)+(n3:Int)=t3:=⟨_,rfl⟩
 obtain ⟨t5,ht5⟩:∃ t5:Int,t3+(n5:Int)=t5:=⟨_,rfl⟩
 obtain ⟨t7,ht7⟩:∃ t7:Int,t5+(n7:Int)=t7:=⟨_,rfl⟩
 have w3:IntKind.i64.wrap ((n1:Int)+(n3:Int))=t3:=by rw [IntKind.wrap_i64];omega
 have w5:IntKind.i64.wrap (t3+(n5:Int))=t5:=by rw [IntKind.wrap_i64];omega
 have w7:IntKind.i64.wrap (t5+(n7:Int))=t7:=by rw [IntKind.wrap_i64];omega
 have HBt:=Lib.hid (show B=(t7 == 0) by
  have e1:=I1.nil_iff;have e3:=I3.nil_iff;have e5:=I5.nil_iff;have e7:=I7.nil_iff
  have hiff:(∀ i:Nat,i<4→x.a (2*i+1:Nat)=0)↔t7=0:=by
   constructor
   ·intro g
    have g0:=g 0 (by decide);have g1:=g 1 (by decide);have g2:=g 2 (by decide);have g3:=g 3 (by decide)
    have k1:=e1.2 g0;have k3:=e3.2 g1;have k5:=e5.2 g2;have k7:=e7.2 g3
    omega
   ·intro g i hi
    have:i=0∨i=1∨i=2∨i=3:=by omega
    rcases this with rfl | rfl | rfl | rfl
    ·exact e1.1 (by omega)
    ·exact e3.1 (by omega)
    ·exact e5.1 (by omega)
    ·exact e7.1 (by omega)
  rw [Bool.eq_iff_iff,hB,hiff,beq_iff_eq])
 have HE:=Lib.hid E0;have HU:=Lib.hid hU;have HH:=Lib.hid hH
 clear hU hH E0 Z0 I1 I3 I5 I7 y1 y3 y5 y7 l1 l3 l5 l7 ht3 ht5 ht7 h hP hB
 go_enter Tryz.func18,Tryz.ntmps18
 go_upto_region 1 with fail
 rw [HU.out,HH.out]
 clear HU
 go_wp2_with fail
 go_ret
 exact ⟨congrArg (fun b=>Ending.returned (Value.bool b)) HBt.out.symm,HE.out⟩
theorem QRoot_nm (k:Int) (w:World) :
  Calls Tryz.prog 26 #[.int .i64 k] w fun e w'=>∃ cr:Array Value,e=.returned (.agg cr)∧RmA w' cr (nTr k nOne) 1 0∧Ext w w':=by
 obtain ⟨H,hH⟩:∃ H,w.heap.size=H:=⟨_,rfl⟩
 obtain ⟨U,hU⟩:∃ U,w.alloc (.cells zeroR 38)=U:=⟨_,rfl⟩
 have E0:Ext w U:=by rw [←hU];exact Ext.alloc _ _
 have Z0:ZVar U H (fun _=>0) 0:=by rw [←hU,←hH];exact (zcs_zero w).box
 have HU:=Lib.hid hU;have HH:=Lib.hid hH;have HZ0:=Lib.hid Z0;have HE0:=Lib.hid E0
 clear hU hH Z0 E0
 go_enter Tryz.func26,Tryz.ntmps26
 go_wp2_with fail
 rw [HU.out,HH.out]
 clear HU
 refine (ZOf_any 1 (by decide) (by decide) U).mono ?_
 rintro e w1 ⟨b,a,n,c,rfl,i1,_,hx1⟩
 go_wp2_with fail
 refine (QOf_nm b a n c 1 1 0 w1 i1 (by decide)).mono ?_
 rintro e w2 ⟨co,rfl,ho,hx2⟩
 rw [nOf_one] at ho
 have he2:=hx1.trans hx2
 clear i1 hx1 hx2
 go_wp2_with fail
 refine (QTurn_nm co nOne 1 0 k w2 ho (by decide)).mono ?_
 rintro e w3 ⟨cr,rfl,hcr,hx3⟩
 have he3:=he2.trans hx3
 obtain ⟨c1,hr1,hs1,hone,hinf,rr,hnm,hE'⟩:=fin_rm hcr.val (HZ0.out.ext he3) (HE0.out.trans he3) (by rw [HH.out];omega)
 have Hend:=Lib.hid (show RmA (w3.setRow H cr) cr (nTr k nOne) 1 0∧Ext w (w3.setRow H cr) from ⟨⟨hcr.anti,hcr.low,hcr.abs,hcr.down,hnm⟩,hE'⟩)
 clear hnm hE' hcr hx3 he3 he2 ho HZ0 HE0
 go_wp2_with (refine wpList_store_row rfl 38 _ _ rfl H cr rfl rfl 38 _ hr1 hinf hs1 hone ?_)
 refine bodyPost_ret (v:=.agg cr) ?_ rfl ⟨_,rfl,Hend.out⟩
 exact results_cell_row rfl _ _ H _ _ _ _ rfl rr Tryz.underlying38 rfl hinf
end Go.Proofs.YtiicfpdiehgikaaGreatDoor
