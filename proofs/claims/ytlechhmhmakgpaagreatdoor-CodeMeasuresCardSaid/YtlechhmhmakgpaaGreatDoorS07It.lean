/-
  The reference: the first fault of a code (CheckCode).
-/
import Derived.Test.YtlechhmhmakgpaaGreatDoorS06Is
namespace Go.Proofs.YtlechhmhmakgpaaGreatDoor
set_option maxRecDepth 100000
set_option maxHeartbeats 16000000
open Go.RowKit
def pbI (n:Nat) (gens:List (List UInt8)):Int:=fstI (fun i=>!(isP n (gens.getD i []))) gens.length 0
def acAt (l:List (List UInt8)) (i:Nat):Bool:=(List.range i).any fun k=>decide (apN (l.getD i []) (l.getD k []) % 2=1)
def acI (l:List (List UInt8)):Int:=fstI (acAt l) l.length 0
def dcAt (n:Nat) (l:List (List UInt8)) (i:Nat):Bool:=decide (l.getD i [] ∈ grp n (l.take i))
def dcI (n:Nat) (l:List (List UInt8)):Int:=fstI (dcAt n l) l.length 0
def ccF (N:Int) (gens:List (List UInt8)):Int × Int :=
 if N<1\/12<N then (6,0) else if N<(gens.length:Int) then (21,0) else if pbI N.toNat gens≠-1 then (33,pbI N.toNat gens) else if acI (barL gens)≠-1 then (34,acI (barL gens)) else if dcI N.toNat (barL gens)≠-1 then (35,dcI N.toNat (barL gens)) else (0,0)
theorem stepK_allocQ {ops:Array Oper} {o:Oper} {a:Act} {K:Act->World->Prop} {Q:Exit->Act->World->Prop} {E:Prop} {w:World} (hgd:o.guard=none) (s:Nat) (hd:o.dst=some s)
  (ho:o.op=.alloc 40) (h:K (a.put (some s) (.pointer (some ⟨w.heap.size,0,none⟩))) (w.alloc (.cells #[.bool false,.string ⟨#[]⟩] 40))) :
  if Region.wanted o (yielded ops a.tmps)=true then Oper.wp Tryz.prog o a w K Q else E:=by
 have hw:Region.wanted o (yielded ops a.tmps)=true:=by simp [Region.wanted,hgd]
 rw [if_pos hw];obtain ⟨od,oo,ot,opp,oa,og⟩:=o;simp only at ho hd;subst ho hd;have HH:=Lh h;clear h;unfold Oper.wp execOp
 go_simp
 exact HH.out
theorem pa_info:(Tryz.prog.info? 40).map (·.size)=some 2:=by kernel_rfl
section
variable {ops:Array Oper} {P:Program} {Q:Exit->Act->World->Prop}
theorem anyK_pairC {md:Region.Mode} {k:Nat} {S:World->Prop} {i j:Nat} {o o':Oper} {n:Nat} {l:Array Bool} {a:Act} {w:World} (hr:Region.ready md ops l=[i,j]) (ho:ops[i]?=some o) (ho':ops[j]?=some o')
  (h:∀ K':Act->World->Prop,Shut (∀ a w,((l.setIfInBounds i true).getD k true=false->S w)->anyK P md ops Q k S n (l.setIfInBounds i true) a w->K' a w)->if Region.wanted o (yielded ops a.tmps)=true then Oper.wp P o a w K' Q else K' (a.put o.dst undef) w)
  (h':∀ K':Act->World->Prop,Shut (∀ a w,((l.setIfInBounds j true).getD k true=false->S w)->anyK P md ops Q k S n (l.setIfInBounds j true) a w->K' a w)->if Region.wanted o' (yielded ops a.tmps)=true then Oper.wp P o' a w K' Q else K' (a.put o'.dst undef) w) :
  anyK P md ops Q k S (n+1) l a w:=by
 refine ⟨fun h0=>(by rw [hr] at h0;cases h0),fun u hu=>?_⟩;rw [hr] at hu
 rcases List.mem_cons.1 hu with rfl | hu
 ·exact wpOp_step ho (fun K' hK=>h K' (fun a w hS hW=>hK a w ⟨hS,hW⟩))
 ·rcases List.mem_singleton.1 hu with rfl
  exact wpOp_step ho' (fun K' hK=>h' K' (fun a w hS hW=>hK a w ⟨hS,hW⟩))
end
theorem lt_rowC {w:World} {a:Nat} {o:Obj} (h:w.heap[a]?=some o):a<w.heap.size:=(gS.1 h).1
theorem rowEC {w w':World} {a:Nat} {o:Obj} (h:w.heap[a]?=some o) (k:Ext w w'):w'.heap[a]?=some o:=(k.block _ (lt_rowC h)).trans h
theorem stepK_storeRowC {ops:Array Oper} {o:Oper} {a:Act} {K:Act->World->Prop} {Q:Exit->Act->World->Prop} {E:Prop} {w:World} (hgd:o.guard=none) (hd:o.dst=none) (ty:TypeId) (p x:Operand)
  (ho:o.op=.store ty p x) (g:Nat) (cells:Array Value) (hp:a.eval p=.pointer (some ⟨g,0,none⟩)) (hx:a.eval x=.agg cells) (t:TypeId) (old:Array Value) (hg:w.heap[g]?=some (.cells old t (0,0)))
  (hi:(Tryz.prog.info? ty).map (·.size)=some cells.size) (hold:old.size=cells.size) (h1:cells.all (·.oneCell')=true) (h:K a (w.setRow g cells)) :
  if Region.wanted o (yielded ops a.tmps)=true then Oper.wp Tryz.prog o a w K Q else E:=by
 have hw:Region.wanted o (yielded ops a.tmps)=true:=by simp [Region.wanted,hgd]
 rw [if_pos hw];refine wp_store_row ty p x ho g cells hp hx t old hg hi hold h1 ?_;rw [hd];exact h
theorem setRow_onlyC (w:World) (g:Nat) (cs:Array Value):Only g w (w.setRow g cs) where
 os:=rfl
 tape:=rfl
 output:=rfl
 size:=setRow_size w g cs
 block:=fun k hk=>setRow_other w g k cs hk
theorem ext_onlyC {w U W:World} {k:Nat} (h:Ext w U) (hO:Only k U W) (hk:w.heap.size<=k):Ext w W :=
 Below.trans h (hO.below hk)
theorem isP_let {n:Nat} {T:List UInt8} (h:isP n T=true):T.length=n+1/\Let n (T.drop 1):=by
 obtain ⟨h1,_,h2⟩:=isP_iff.1 h;exact ⟨h1,by rw [List.length_drop];omega,h2⟩
theorem any_range_succ (f:Nat->Bool) (j:Nat):(List.range (j+1)).any f=((List.range j).any f || f j):=by
 rw [List.range_succ,List.any_append]
 simp
theorem any_range_in {f:Nat->Bool} {i j:Nat} (hj:j<i) (h:f j=true):(List.range i).any f=true:=List.any_eq_true.2 ⟨j,List.mem_range.2 hj,h⟩
theorem strs_take {w:World} {a:Option Addr} {n:Nat} {l:List (List UInt8)} (h:StrsAt w a n l) {i:Nat} (hi:i<=n):StrsAt w a i (l.take i):=by
 refine ⟨by rw [List.length_take,h.1];omega,?_⟩
 by_cases h0:i=0
 ·exact Or.inl h0
 ·obtain ⟨b,o,e,hb,hc⟩:=h.at (by omega)
  refine Or.inr ⟨b,o,e,hb,fun t ht=>?_⟩;rw [hc t (by omega),List.getD_eq_getElem?_getD,List.getD_eq_getElem?_getD,List.getElem?_take,if_pos ht]
theorem known_is {n:Nat} {l:List (List UInt8)} {i:Nat} (t:List UInt8) (hl:∀ g ∈ l.take i,Let n g):((t == oneT n) || (grR n (l.take i)).any (fun p=>p == t))=decide (t ∈ grp n (l.take i)):=by
 have h1:=(grp_is n (l.take i) hl).2.1
 by_cases h0:l.take i=[]
 ·rw [h0]
  unfold grR;rw [if_pos rfl]
  show ((t == oneT n) || false)=decide (t ∈ [oneT n])
  rw [Bool.or_false]
  by_cases e:t=oneT n
  ·rw [e];simp
  ·rw [beq_eq_false_iff_ne.2 e,decide_eq_false (by simpa using e)]
 ·unfold grR
  rw [if_neg h0]
  by_cases e:t ∈ grp n (l.take i)
  ·rw [decide_eq_true e,Bool.or_eq_true]
   exact Or.inr (List.any_eq_true.2 ⟨t,e,by simp⟩)
  ·rw [decide_eq_false e,Bool.or_eq_false_iff]
   refine ⟨beq_eq_false_iff_ne.2 (fun h=>e (h ▸ h1)),?_⟩;rw [<-Bool.not_eq_true,List.any_eq_true];rintro ⟨p,hp,hq⟩;exact e ((beq_iff_eq.1 hq) ▸ hp)
theorem CheckCode_any (N:Int) (gens:List (List UInt8)) (ao:Option Addr) (k c:Nat) (w:World) (hG:StrsAt w ao k gens) (hT:∀ T ∈ gens,T.length<=9223372036854775807) (hk9:k<=9223372036854775806) :
  Calls Tryz.prog 28 #[.agg #[.int .i64 N,.slice ao k c]] w fun r w'=>r=.returned (.agg #[.int .i64 (ccF N gens).1,.int .i64 (ccF N gens).2])/\Ext w w':=by
 obtain ⟨F,hF⟩:∃ F,ccF N gens=F:=⟨_,rfl⟩;obtain ⟨F0,F1⟩:=F;rw [hF];unfold ccF at hF;obtain ⟨H,hH⟩:∃ H,w.heap.size=H:=⟨_,rfl⟩;obtain ⟨W0,hW0⟩:∃ W0,(w.alloc (.cells #[.int .i64 N,.slice ao k c] 59)).alloc (.cells #[.int .i64 0,.int .i64 0] 29)=W0:=⟨_,rfl⟩
 have E0:Ext w W0:=by rw [<-hW0];exact (ext_al w _).trans (ext_al _ _)
 have C0:CoB W0 H N ao k c:=by rw [<-hW0,<-hH];exact (CoB.new w _ _ _ _).ext (ext_al _ _)
 have bF:FtB W0 (H+1) 0 0:=⟨by
  have:=heap_alloc_new (w.alloc (.cells #[.int .i64 N,.slice ao k c] 59)) (.cells #[.int .i64 0,.int .i64 0] 29);rw [<-hW0,<-hH]
  simpa using this⟩
 have hlg:gens.length=k:=hG.1;rw [hlg] at hF;have HE0:=Lh E0;have HC:=Lh C0;have HFt:=Lh bF;have HG:=Lh (hG.ext E0);have HF:=Lh hF;have HW0:=Lh hW0;have HH:=Lh hH;have HwH:=Lh (show w.heap.size<=H+1 by omega);have Hlg:=Lh hlg;have HTl:=Lh hT;have Hk9:=Lh hk9;have v0:=C0.x0;have v1:=C0.x1;clear hG hT hF hH hW0 E0 C0 bF hlg hk9
 go_enter Tryz.func28,Tryz.ntmps28
 go_upto_region 1 with fail
 rw [HW0.out,HH.out];clear HW0 HH
 by_cases h1:N<1
 ·have HF2:=Lh (show F0=6/\F1=0 by have:=HF.out;rw [if_pos (Or.inl h1)] at this;exact ⟨(congrArg Prod.fst this).symm,(congrArg Prod.snd this).symm⟩)
  go_wp2_with fail
  refine (rfault_any 6 0 _).mono ?_;rintro e wz ⟨rfl,hxz⟩;have bz:=HFt.out.ext ((Ext.refl W0).trans hxz);have x0':=bz.x0;have x1':=bz.x1;have g0':=bz.f 0;have g1':=bz.f 1;have HEy:=Lh (HE0.out.trans ((Ext.refl W0).trans hxz));clear bz hxz
  go_wp2_with fail
  exact bodyPost_ret (v:=.agg #[.int .i64 6,.int .i64 0]) (by simp [results,Tryz.results28,go_sem,x0',x1']) rfl ⟨by rw [HF2.out.1,HF2.out.2],put2x HEy.out HwH.out _ _⟩
 by_cases h2:12<N
 ·have HF2:=Lh (show F0=6/\F1=0 by have:=HF.out;rw [if_pos (Or.inr h2)] at this;exact ⟨(congrArg Prod.fst this).symm,(congrArg Prod.snd this).symm⟩)
  go_wp2_with fail
  refine (rfault_any 6 0 _).mono ?_;rintro e wz ⟨rfl,hxz⟩;have bz:=HFt.out.ext ((Ext.refl W0).trans hxz);have x0':=bz.x0;have x1':=bz.x1;have g0':=bz.f 0;have g1':=bz.f 1;have HEy:=Lh (HE0.out.trans ((Ext.refl W0).trans hxz));clear bz hxz
  go_wp2_with fail
  exact bodyPost_ret (v:=.agg #[.int .i64 6,.int .i64 0]) (by simp [results,Tryz.results28,go_sem,x0',x1']) rfl ⟨by rw [HF2.out.1,HF2.out.2],put2x HEy.out HwH.out _ _⟩
 have hF:=HF.out;rw [if_neg (by omega)] at hF
 by_cases h3:N<(k:Int)
 ·have HF2:=Lh (show F0=21/\F1=0 by rw [if_pos h3] at hF;exact ⟨(congrArg Prod.fst hF).symm,(congrArg Prod.snd hF).symm⟩)
  clear hF
  go_wp2_with fail
  refine (rfault_any 21 0 _).mono ?_;rintro e wz ⟨rfl,hxz⟩;have bz:=HFt.out.ext ((Ext.refl W0).trans hxz);have x0':=bz.x0;have x1':=bz.x1;have g0':=bz.f 0;have g1':=bz.f 1;have HEy:=Lh (HE0.out.trans ((Ext.refl W0).trans hxz));clear bz hxz
  go_wp2_with fail
  exact bodyPost_ret (v:=.agg #[.int .i64 21,.int .i64 0]) (by simp [results,Tryz.results28,go_sem,x0',x1']) rfl ⟨by rw [HF2.out.1,HF2.out.2],put2x HEy.out HwH.out _ _⟩
 rw [if_neg h3] at hF;obtain ⟨nn,rfl⟩:∃ nn:Nat,N=(nn:Int):=⟨N.toNat,by omega⟩;simp only [Int.toNat_natCast] at hF;obtain ⟨P,hP⟩:∃ P,pbI nn gens=P:=⟨_,rfl⟩;obtain ⟨A,hA⟩:∃ A,acI (barL gens)=A:=⟨_,rfl⟩;obtain ⟨D,hD⟩:∃ D,dcI nn (barL gens)=D:=⟨_,rfl⟩;rw [hP,hA,hD] at hF;unfold pbI at hP;rw [Hlg.out] at hP;have HP:=Lh hP;have HA:=Lh hA;have HD:=Lh hD;have HF1:=Lh hF;have Hk:=Lh (show k<=nn/\1<=nn/\nn<=12 by omega);clear hP hA hD hF HF;have h1':¬ (nn:Int)<1:=h1
 go_upto_region 5 with fail
 clear v0 v1
 go_wp2_with fail
 go_loopg [3,4,5] k (fun kk s3 _ _ wr=>Ext W0 wr/\∃ i:Nat,s3=.int .i64 (i:Int)/\i<=k/\k-i=kk/\fstI (fun i=>!(isP nn (gens.getD i []))) (k-i) i=P)
 case atStart=>exact ⟨Ext.refl _,0,rfl,Nat.zero_le _,rfl,HP.out⟩
 case round =>
  obtain ⟨hER,i,rfl,hi,hkk,hfs⟩:=hrel;have HER:=Lh hER;have Hkk:=Lh hkk;have Hfs:=Lh hfs;have k0:=(HC.out.ext hER).x0;have k1:=(HC.out.ext hER).x1
  by_cases hin:i=k
  ·have p1:¬ (i:Int)<(k:Int):=by omega
   have hPm:P=-1:=by have h8:=Hfs.out;rw [hin,Nat.sub_self] at h8;exact h8.symm
   have hF:=HF1.out;rw [if_neg (by rw [hPm];simp)] at hF
   have hall:∀ T ∈ gens,T.length=nn+1/\Let nn (T.drop 1):=fun T hT=>by
    obtain ⟨j,hj⟩:=List.getElem?_of_mem hT;have hjl:=(List.getElem?_eq_some_iff.1 hj).1;have h9:=fstI_ne _ _ _ (by rw [HP.out];exact hPm) j (Nat.zero_le _) (by have:=Hlg.out;omega);simp only [List.getD_eq_getElem?_getD,hj,Option.getD_some,Bool.not_eq_false'] at h9;exact isP_let h9
   have hlb:∀ t ∈ barL gens,Let nn t:=fun t ht=>by
    obtain ⟨T,hT,rfl⟩:=List.mem_map.1 ht;exact (hall T hT).2
   have HBr:=Lh (bare_any gens ao k c wr (HG.out.ext hER) (by have:=Hk.out;omega) (fun T hT=>by have:=(hall T hT).1;omega))
   have hbl:(barL gens).length=k:=by rw [barL_len];exact Hlg.out
   obtain ⟨LB,hLB⟩:∃ l,barL gens=l:=⟨_,rfl⟩;rw [hLB] at HBr HA HD hbl hlb;have HlB:=Lh hlb;have HbL:=Lh hbl;have HF2':=Lh hF;have HA2:=Lh (show fstI (acAt LB) k 0=A by have h9:=HA.out;unfold acI at h9;rw [hbl] at h9;exact h9);have HD2:=Lh (show fstI (dcAt nn LB) k 0=D by have h9:=HD.out;unfold dcI at h9;rw [hbl] at h9;exact h9);clear hER hkk hfs hi hin hPm hF hall hlb hbl hLB HF1 HP HA HD Hfs
   go_wp2_with fail
   refine HBr.out.mono ?_;rintro e w11 ⟨⟨v11,rfl,hr11⟩,hx11⟩;obtain ⟨a2,c2,rfl,hkc,hc2,hS2⟩:=strs_of_own hr11;have Hkc:=Lh hkc;have HS2:=Lh hS2;have HE11:=Lh (HER.out.trans hx11);have Hc2:=Lh (show c2<=9223372036854775807 from Nat.le_trans hc2 (by unfold maxLen;decide));clear hr11 hx11 hS2 k0 k1 HBr hc2 hkc
   go_wp2_with fail
   go_loopg [7,8] k (fun kk s7 _ wr=>Ext w11 wr/\∃ i:Nat,s7=.int .i64 (i:Int)/\i<=k/\k-i=kk/\fstI (acAt LB) (k-i) i=A)
   case atStart=>exact ⟨Ext.refl _,0,rfl,Nat.zero_le _,rfl,HA2.out⟩
   case round =>
    obtain ⟨hE2,i,rfl,hi,hkk,hfs⟩:=hrel;have HE2:=Lh hE2;have Hkk:=Lh hkk;have Hfs:=Lh hfs
    by_cases hin:i=k
    ·have p1:¬ (i:Int)<(k:Int):=by omega
     have hAm:A=-1:=by have h8:=Hfs.out;rw [hin,Nat.sub_self] at h8;exact h8.symm
     have hF:=HF2'.out;rw [if_neg (by rw [hAm];simp)] at hF;have HF3:=Lh hF;have HC2:=Lh (HC.out.ext (HE11.out.trans hE2));have HS3:=Lh (HS2.out.ext hE2);have HE12:=Lh (HE11.out.trans hE2);clear hE2 hkk hfs hi hin hAm hF HF2' Hfs HA2
     go_wp2_with fail
     go_loopg [9,10] nn (fun kk s9 s10 wx=>Ext wr wx/\∃ j:Nat,s10=.int .i64 (j:Int)/\j<=nn/\nn-j=kk/\s9=.string ⟨(oneT j).toArray⟩)
     case atStart=>exact ⟨Ext.refl _,0,rfl,Nat.zero_le _,rfl,rfl⟩
     case round =>
      obtain ⟨hEj,j,rfl,hj,hjk,rfl⟩:=hrel;have HEj:=Lh hEj;have Hjk:=Lh hjk;have k0:=(HC2.out.ext hEj).x0
      by_cases hjn:j=nn
      ·have p2:¬ (j:Int)<(nn:Int):=by omega
       subst hjn;have HS4:=Lh (HS3.out.ext hEj);have HE13:=Lh (HE12.out.trans hEj);obtain ⟨oj,hoj⟩:∃ x,oneT j=x:=⟨_,rfl⟩;rw [hoj];have Hoj:=Lh hoj;clear hEj hjk hj HS3 HC2 hoj
       go_wp2_with fail
       clear k0 p2
       go_loopg [11,12,13,14] k (fun kk s11 _ _ _ wx=>Ext wr wx/\∃ i:Nat,s11=.int .i64 (i:Int)/\i<=k/\k-i=kk/\fstI (dcAt j LB) (k-i) i=D)
       case atStart=>exact ⟨Ext.refl _,0,rfl,Nat.zero_le _,rfl,HD2.out⟩
       case round =>
        obtain ⟨hE5,i,rfl,hi,hkk,hfs⟩:=hrel;have HE5:=Lh hE5;have Hkk:=Lh hkk;have Hfs:=Lh hfs
        by_cases hin:i=k
        ·have p3:¬ (i:Int)<(k:Int):=by omega
         have hDm:D=-1:=by have h8:=Hfs.out;rw [hin,Nat.sub_self] at h8;exact h8.symm
         have HF2:=Lh (show F0=0/\F1=0 by
          have h7:=HF3.out;rw [if_neg (by rw [hDm];simp)] at h7
          exact ⟨(congrArg Prod.fst h7).symm,(congrArg Prod.snd h7).symm⟩)
         have bz:=HFt.out.ext (HE13.out.trans hE5);have x0':=bz.x0;have x1':=bz.x1;have g0':=bz.f 0;have g1':=bz.f 1;have HEy:=Lh (HE0.out.trans (HE13.out.trans hE5));clear bz hE5 hkk hfs hi hin hDm
         go_wp2_with fail
         exact bodyPost_ret (v:=.agg #[.int .i64 0,.int .i64 0]) (by simp [results,Tryz.results28,go_sem,x0',x1']) rfl ⟨by rw [HF2.out.1,HF2.out.2],put2x HEy.out HwH.out _ _⟩
        have hlt:i<k:=by omega
        have q1:(i:Int)<(k:Int):=by omega
        have q0:(0:Int)<=(i:Int):=by omega
        have q2:(i:Int)<=(c2:Int):=by have:=Hkc.out;omega
        have wk:IntKind.i64.wrap ((i:Int)+1)=((i+1:Nat):Int):=by rw [IntKind.wrap_i64];have:=Hk.out;omega
        obtain ⟨t,ht⟩:∃ t,LB[i]?=some t:=⟨_,List.getElem?_eq_getElem (by have:=HbL.out;omega)⟩;have hS5:=HS4.out.ext hE5;obtain ⟨b,o,rfl,hb,hcells⟩:=hS5.at (by omega);have c0:=hcells i hlt
        have hgd:LB.getD i []=t:=by rw [List.getD_eq_getElem?_getD,ht];rfl
        rw [hgd] at c0
        have hsu:k-i=(k-(i+1))+1:=by omega
        rw [hsu] at Hfs
        have htk:∀ g ∈ LB.take i,Let j g:=fun g hg=>HlB.out g (List.mem_of_mem_take hg)
        have HGr:=Lh (Group_any (LB.take i) j (some ⟨b,o,none⟩) i c2 wr (strs_take hS5 (by omega)) (by have:=Hk.out;omega) (by have:=Hk.out;omega) htk);have HKn:=Lh (known_is (n:=j) (l:=LB) (i:=i) t htk);obtain ⟨B0,hB0⟩:∃ B0,(t == oneT j)=B0:=⟨_,rfl⟩;rw [hB0] at HKn
        have hm9:(grR j (LB.take i)).length<=4096:=by
         unfold grR
         split
         ·simp
         ·rw [(grp_is j (LB.take i) htk).2.2,List.length_take]
          exact Nat.le_trans (Nat.pow_le_pow_right (by decide) (show min i LB.length<=12 by have:=Hk.out;omega)) (by decide)
        obtain ⟨G3,hG3⟩:∃ G,grR j (LB.take i)=G:=⟨_,rfl⟩;rw [hG3] at HGr HKn hm9;obtain ⟨m3,hm3⟩:∃ m,G3.length=m:=⟨_,rfl⟩;rw [hm3] at HGr hm9;have Hm9:=Lh hm9;have Hm3:=Lh hm3;have Hgd:=Lh hgd;have Hlt:=Lh hlt;have Hc0:=Lh c0;rw [Hoj.out] at hB0;clear hE5 hkk hfs hi hin hlt ht hcells hb hgd hsu hS5 htk hm9 hm3 hG3
        go_wp2_with fail
        refine HGr.out.mono ?_;rintro e w6 ⟨⟨v6,rfl,hr6⟩,hx6⟩;obtain ⟨a6,c6,rfl,_,_,hS6⟩:=strs_of_own hr6;have HS6:=Lh hS6;have HE6:=Lh hx6;have e2:=cell_ext Hc0.out hx6;have He2:=Lh e2;clear hr6 hx6 hS6 HGr e2 c0
        go_wp2_with fail
        clear hB0
        go_loopg [12,14] m3 (fun kk s12 s14 wx=>Ext w6 wx/\∃ y:Nat,s14=.int .i64 (y:Int)/\y<=m3/\m3-y=kk/\s12=.bool (B0 || (G3.take y).any (fun p=>p == t)))
        case atStart=>exact ⟨Ext.refl _,0,rfl,Nat.zero_le _,rfl,by simp⟩
        case round =>
         obtain ⟨hE7,y,rfl,hy,hyk,rfl⟩:=hrel;have HE7:=Lh hE7;have Hyk:=Lh hyk
         by_cases hym:y=m3
         ·have p4:¬ (y:Int)<(m3:Int):=by omega
          have hst:G3.take y=G3:=List.take_of_length_le (by have:=Hm3.out;omega);rw [hst,HKn.out];have HE8:=Lh (HE13.out.trans (HE5.out.trans (HE6.out.trans hE7)));have HE9:=Lh (HE5.out.trans (HE6.out.trans hE7));clear hE7 hyk hy hym hst;obtain ⟨B4,hB4⟩:∃ B,decide (t ∈ grp j (LB.take i))=B:=⟨_,rfl⟩;rw [hB4];have HB4:=Lh (show dcAt j LB i=B4 by unfold dcAt;rw [Hgd.out];exact hB4);clear hB4
          cases B4 with
          | true =>
           have HF2:=Lh (show F0=35/\F1=(i:Int) by
            have h9:D=(i:Int):=by have h8:=Hfs.out;rw [fstI_yes HB4.out] at h8;exact h8.symm
            have h7:=HF3.out;rw [if_pos (by rw [h9];omega),h9] at h7
            exact ⟨(congrArg Prod.fst h7).symm,(congrArg Prod.snd h7).symm⟩)
           go_wp2_with fail
           refine (rfault_any 35 (i:Int) _).mono ?_;rintro e wz ⟨rfl,hxz⟩;have bz:=HFt.out.ext (HE8.out.trans hxz);have x0':=bz.x0;have x1':=bz.x1;have g0':=bz.f 0;have g1':=bz.f 1;have HEy:=Lh (HE0.out.trans (HE8.out.trans hxz));clear bz hxz
           go_wp2_with fail
           exact bodyPost_ret (v:=.agg #[.int .i64 35,.int .i64 (i:Int)]) (by simp [results,Tryz.results28,go_sem,x0',x1']) rfl ⟨by rw [HF2.out.1,HF2.out.2],put2x HEy.out HwH.out _ _⟩
          | false =>
           have HZ:=Lh (show fstI (dcAt j LB) (k-(i+1)) (i+1)=D by
            have h8:=Hfs.out;rw [fstI_no HB4.out] at h8
            exact h8)
           go_wp2_with fail
           go_roundg (k-(i+1))
           case measure=>have:=Hkk.out;have:=Hlt.out;omega
           case rel=>exact ⟨HE9.out,i+1,rfl,Hlt.out,rfl,HZ.out⟩
         have hylt:y<m3:=by omega
         have p4:(y:Int)<(m3:Int):=by omega
         have p0:(0:Int)<=(y:Int):=by omega
         have wy:IntKind.i64.wrap ((y:Int)+1)=((y+1:Nat):Int):=by rw [IntKind.wrap_i64];have:=Hm9.out;omega
         obtain ⟨p,hp⟩:∃ p,G3[y]?=some p:=⟨_,List.getElem?_eq_getElem (by have:=Hm3.out;omega)⟩;obtain ⟨b6,o6,rfl,_,hc6⟩:=(HS6.out.ext hE7).at (by omega);have e1:=hc6 y hylt
         have hpd:G3.getD y []=p:=by rw [List.getD_eq_getElem?_getD,hp];rfl
         rw [hpd] at e1;have e2:=cell_ext He2.out hE7
         have Hst:=Lh (show (B0 || (G3.take (y+1)).any (fun p=>p == t))=((B0 || (G3.take y).any (fun p=>p == t)) || (p == t)) by
          rw [List.take_add_one,hp]
          show (B0 || (G3.take y++[p]).any (fun p=>p == t))=_
          rw [List.any_append]
          simp [Bool.or_assoc])
         have Hylt:=Lh hylt;obtain ⟨B5,hB5⟩:∃ B,(B0 || (G3.take y).any (fun p=>p == t))=B:=⟨_,rfl⟩;rw [hB5] at Hst ⊢;obtain ⟨B6,hB6⟩:∃ B,(p == t)=B:=⟨_,rfl⟩;rw [hB6] at Hst;clear hE7 hyk hy hym hp hc6 hpd hylt hB5
         cases B5 with
         | true =>
          go_upto_region 33 with fail
          go_quiet (fail)
          go_wp2_with fail
          go_roundg (m3-(y+1))
          case measure=>have:=Hyk.out;have:=Hylt.out;omega
          case rel=>exact ⟨HE7.out.trans (ext_drewN wr _),y+1,rfl,Hylt.out,rfl,by rw [Hst.out];rfl⟩
         | false =>
          go_upto_region 33 with fail
          go_quiet (fail)
          go_wp2_with fail
          go_roundg (m3-(y+1))
          case measure=>have:=Hyk.out;have:=Hylt.out;omega
          case rel=>exact ⟨HE7.out.trans (ext_drewN wr _),y+1,rfl,Hylt.out,rfl,by rw [Hst.out];rfl⟩
      have p2:(j:Int)<(nn:Int):=by omega
      have wj:IntKind.i64.wrap ((j:Int)+1)=((j+1:Nat):Int):=by rw [IntKind.wrap_i64];have:=Hk.out;omega
      have hs1:¬ 9223372036854775807<(oneT j).length+1:=by rw [(oneT_is j).1];have:=Hk.out;omega
      have HS:=Lh (oneT_snoc j);have Hj:=Lh (show j+1<=nn by omega);obtain ⟨O,hO⟩:∃ O,oneT j=O:=⟨_,rfl⟩;rw [hO] at hs1 HS ⊢;clear hEj hjk hj hjn hO
      go_wp2_with fail
      go_roundg (nn-(j+1))
      case measure=>have:=Hjk.out;have:=Hj.out;omega
      case rel=>exact ⟨HEj.out,j+1,rfl,Hj.out,rfl,congrArg Value.string HS.out⟩
    have hlt:i<k:=by omega
    have q1:(i:Int)<(k:Int):=by omega
    have q0:(0:Int)<=(i:Int):=by omega
    have wk:IntKind.i64.wrap ((i:Int)+1)=((i+1:Nat):Int):=by rw [IntKind.wrap_i64];have:=Hk.out;omega
    obtain ⟨t,ht⟩:∃ t,LB[i]?=some t:=⟨_,List.getElem?_eq_getElem (by have:=HbL.out;omega)⟩;obtain ⟨b,o,rfl,hb,hcells⟩:=(HS2.out.ext hE2).at (by omega);have c0:=hcells i hlt
    have hgd:LB.getD i []=t:=by rw [List.getD_eq_getElem?_getD,ht];rfl
    rw [hgd] at c0
    have hsu:k-i=(k-(i+1))+1:=by omega
    rw [hsu] at Hfs;have Htl:=Lh (HlB.out t (List.mem_of_getElem? ht));have Hgd:=Lh hgd;have Hlt:=Lh hlt;have Hcs:=Lh hcells;have Hc0:=Lh c0;clear hE2 hkk hfs hi hin hlt ht hcells hb hgd hsu c0
    go_wp2_with fail
    go_loopg [8] i (fun kk s8 wx=>Ext wr wx/\∃ j:Nat,s8=.int .i64 (j:Int)/\j<=i/\i-j=kk/\(List.range j).any (fun k=>decide (apN (LB.getD i []) (LB.getD k []) % 2=1))=false)
    case atStart=>exact ⟨Ext.refl _,0,rfl,Nat.zero_le _,rfl,rfl⟩
    case round =>
     obtain ⟨hE3,j,rfl,hj,hjk,hno⟩:=hrel;have HE3o:=Lh hE3;have HE3:=Lh (HE2.out.trans hE3);have Hjk:=Lh hjk;have Hno:=Lh hno
     by_cases hji:j=i
     ·have p1:¬ (j:Int)<(i:Int):=by omega
      have HZ:=Lh (show fstI (acAt LB) (k-(i+1)) (i+1)=A by
       have h8:=Hfs.out;rw [fstI_no (by unfold acAt;rw [<-hji];rw [<-hji] at Hno;exact Hno.out)] at h8
       exact h8)
      clear hE3 hjk hno hj hji
      go_wp2_with fail
      go_roundg (k-(i+1))
      case measure=>have:=Hkk.out;have:=Hlt.out;omega
      case rel=>exact ⟨HE3.out,i+1,rfl,Hlt.out,rfl,HZ.out⟩
     have hjlt:j<i:=by omega
     have p1:(j:Int)<(i:Int):=by omega
     have p0:(0:Int)<=(j:Int):=by omega
     have p2:(j:Int)<(k:Int):=by omega
     have wj:IntKind.i64.wrap ((j:Int)+1)=((j+1:Nat):Int):=by rw [IntKind.wrap_i64];have:=Hk.out;omega
     obtain ⟨u,hu⟩:∃ u,LB[j]?=some u:=⟨_,List.getElem?_eq_getElem (by have:=HbL.out;have:=Hlt.out;omega)⟩
     have hud:LB.getD j []=u:=by rw [List.getD_eq_getElem?_getD,hu];rfl
     have hul:=HlB.out u (List.mem_of_getElem? hu);have e1:=cell_ext Hc0.out hE3;have e2:=Hcs.out j (by have:=Hlt.out;omega);rw [hud] at e2;have e2:=cell_ext e2 hE3;have HAp:=Lh (fun wx=>Apart_any t u wx (by rw [Htl.out.1,hul.1]) (by rw [Htl.out.1];have:=Hk.out;omega));rw [apart_bool] at HAp;obtain ⟨B,hB⟩:∃ B,decide (apN t u % 2=1)=B:=⟨_,rfl⟩;rw [hB] at HAp;have HBe:=Lh (show decide (apN (LB.getD i []) (LB.getD j []) % 2=1)=B by rw [Hgd.out,hud];exact hB);have Hjlt:=Lh hjlt;clear hE3 hjk hno hj hji hjlt hu hud hul hB
     go_upto_region 18 with fail
     have hd0:Ext wr wr.drew:=Below.drew (Ext.refl _);refine wp_region_K 8 (fun w'=>w'.cell? ⟨b,o+i,none⟩=some (.string ⟨t.toArray⟩)/\w'.cell? ⟨b,o+j,none⟩=some (.string ⟨u.toArray⟩)) (by kernel_rfl) ?_
     show anyK _ _ _ _ _ _ 9 #[false,false,false,false,false,false,false,false,false] _ _
     have hHeld:wr.drew.cell? ⟨b,o+i,none⟩=some (.string ⟨t.toArray⟩)/\wr.drew.cell? ⟨b,o+j,none⟩=some (.string ⟨u.toArray⟩):=⟨cell_ext e1 hd0,cell_ext e2 hd0⟩;refine kT 0 9 (v:=?_) rfl (Or.inl ⟨by rfl,?_⟩) hHeld ?_;rotate_left 1
     ·intro w hSw
      go_simp
      try with_reducible rfl
     show anyK _ _ _ _ _ _ _ _ (Act.put _ (some 67) _) _
     simp only [Act.put,sx0,sx1,sx2];refine kT 1 9 (v:=?_) rfl (Or.inl ⟨by rfl,?_⟩) hHeld ?_;rotate_left 1
     ·intro w hSw
      go_simp
      try with_reducible rfl
     show anyK _ _ _ _ _ _ _ _ (Act.put _ (some 68) _) _
     simp only [Act.put,sx0,sx1,sx2];refine kT 2 9 (v:=?_) rfl (Or.inl ⟨by rfl,?_⟩) hHeld ?_;rotate_left 1
     ·intro w hSw
      go_simp
      try with_reducible rfl
     show anyK _ _ _ _ _ _ _ _ (Act.put _ (some 69) _) _
     simp only [Act.put,sx0,sx1,sx2];refine kT 3 9 (v:=?_) rfl (Or.inl ⟨by rfl,?_⟩) hHeld ?_;rotate_left 1
     ·intro w hSw
      go_simp
      try with_reducible rfl
     show anyK _ _ _ _ _ _ _ _ (Act.put _ (some 70) _) _
     simp only [Act.put,sx0,sx1,sx2];refine kT 4 9 (v:=?_) rfl (Or.inl ⟨by rfl,?_⟩) hHeld ?_;rotate_left 1
     ·intro w hSw
      go_simp
      try with_reducible rfl
     show anyK _ _ _ _ _ _ _ _ (Act.put _ (some 71) _) _
     simp only [Act.put,sx0,sx1,sx2];refine kT 5 9 (v:=?_) rfl (Or.inl ⟨by rfl,?_⟩) hHeld ?_;rotate_left 1
     ·intro w hSw
      go_simp
      try with_reducible rfl
     show anyK _ _ _ _ _ _ _ _ (Act.put _ (some 72) _) _
     simp only [Act.put,sx0,sx1,sx2];refine kT 6 9 (v:=?_) rfl (Or.inl ⟨by rfl,?_⟩) hHeld ?_;rotate_left 1
     ·intro w hSw
      go_simp
      try with_reducible rfl
     show anyK _ _ _ _ _ _ _ _ (Act.put _ (some 73) _) _
     simp only [Act.put,sx0,sx1,sx2];refine kT 7 9 (v:=?_) rfl (Or.inl ⟨by rfl,?_⟩) hHeld ?_;rotate_left 1
     ·intro w hSw
      go_simp
      try with_reducible rfl
     show anyK _ _ _ _ _ _ _ _ (Act.put _ (some 74) _) _
     simp only [Act.put,sx0,sx1,sx2];clear hHeld;refine anyK_one (i:=8) (by kernel_rfl) rfl (fun Kk hKk=>?_)
     go_simp
     (go_at_call 67;refine (HAp.out wr.drew).mono ?_;rintro e w3 ⟨rfl,hx3⟩)
     have HE4:=Lh (HE3.out.trans (hd0.trans hx3));have HE5:=Lh (hd0.trans hx3)
     go_wp2_with fail
     refine hKk.out _ _ (fun h=>Bool.noConfusion (show true=false from h)) ?_;clear hKk Kk HAp hx3 hd0 e1 e2;simp only [sx0,sx1,sx2];refine anyK_done (by kernel_rfl) ?_ _
     cases B with
     | true =>
      have HF2:=Lh (show F0=34/\F1=(i:Int) by
       have h9:A=(i:Int):=by have h8:=Hfs.out;rw [fstI_yes (by unfold acAt;exact any_range_in Hjlt.out HBe.out)] at h8;exact h8.symm
       have h7:=HF2'.out;rw [if_pos (by rw [h9];omega),h9] at h7
       exact ⟨(congrArg Prod.fst h7).symm,(congrArg Prod.snd h7).symm⟩)
      go_wp2_with fail
      refine (rfault_any 34 (i:Int) _).mono ?_;rintro e wz ⟨rfl,hxz⟩;have bz:=HFt.out.ext ((HE11.out.trans HE4.out).trans hxz);have x0':=bz.x0;have x1':=bz.x1;have g0':=bz.f 0;have g1':=bz.f 1;have HEy:=Lh (HE0.out.trans ((HE11.out.trans HE4.out).trans hxz));clear bz hxz
      go_wp2_with fail
      exact bodyPost_ret (v:=.agg #[.int .i64 34,.int .i64 (i:Int)]) (by simp [results,Tryz.results28,go_sem,x0',x1']) rfl ⟨by rw [HF2.out.1,HF2.out.2],put2x HEy.out HwH.out _ _⟩
     | false =>
      have HZ:=Lh (show (List.range (j+1)).any (fun k=>decide (apN (LB.getD i []) (LB.getD k []) % 2=1))=false by rw [any_range_succ,Hno.out,HBe.out];rfl)
      go_wp2_with fail
      go_roundg (i-(j+1))
      case measure=>have:=Hjk.out;have:=Hjlt.out;omega
      case rel=>exact ⟨HE3o.out.trans HE5.out,j+1,rfl,Hjlt.out,rfl,HZ.out⟩
  have hlt:i<k:=by omega
  have q1:(i:Int)<(k:Int):=by omega
  have q0:(0:Int)<=(i:Int):=by omega
  have wk:IntKind.i64.wrap ((i:Int)+1)=((i+1:Nat):Int):=by rw [IntKind.wrap_i64];have:=Hk.out;omega
  obtain ⟨T,hT⟩:∃ T,gens[i]?=some T:=⟨_,List.getElem?_eq_getElem (by have:=Hlg.out;omega)⟩;obtain ⟨b,o,rfl,hb,hcells⟩:=(HG.out.ext hER).at (by omega);have c0:=hcells i hlt
  have hgd:gens.getD i []=T:=by rw [List.getD_eq_getElem?_getD,hT];rfl
  rw [hgd] at c0;have HIs:=Lh (fun wx=>IsPauli_any T (nn:Int) wx (by have:=Hk.out;omega) (HTl.out T (List.mem_of_getElem? hT)))
  have hsu:k-i=(k-(i+1))+1:=by omega
  rw [hsu] at Hfs
  have hB:ispB (nn:Int) T=isP nn T:=by unfold ispB;rw [decide_eq_true (by have:=Hk.out;omega),Int.toNat_natCast];rfl
  have HB:=Lh hB;have Hgd:=Lh hgd;have Hlt:=Lh hlt;clear hER hkk hfs hi hin hlt hT hcells hb hgd hB hsu
  go_upto_region 8 with fail
  go_cut [4,5] from 38 to 48 (fun _ s5 wx=>s5=.bool (ispB (nn:Int) T)/\Ext wr wx)
  case first =>
   have HSj:=Lh (fun (w':World) (hx:Ext wr w')=>(show w'.cell? ⟨H,0,none⟩=some (.int .i64 (nn:Int))/\w'.cell? ⟨H,1,none⟩=some (.slice (some ⟨b,o,none⟩) k c)/\w'.cell? ⟨b,o+i,none⟩=some (.string ⟨T.toArray⟩) from ⟨cell_ext k0 hx,cell_ext k1 hx,cell_ext c0 hx⟩));clear k0 k1 c0;have G_:Ext wr wr.drew:=Below.drew (Ext.refl _);refine wp_region_K 13 (fun w'=>w'.cell? ⟨H,0,none⟩=some (.int .i64 (nn:Int))/\w'.cell? ⟨H,1,none⟩=some (.slice (some ⟨b,o,none⟩) k c)/\w'.cell? ⟨b,o+i,none⟩=some (.string ⟨T.toArray⟩)) (by kernel_rfl) ?_
   show anyK _ _ _ _ _ _ 14 #[false,false,false,false,false,false,false,false,false,false,false,false,false,false] _ _
   refine kT 0 14 (v:=?_) rfl (Or.inl ⟨by rfl,?_⟩) (HSj.out _ G_) ?_;rotate_left 1
   ·intro w hSw
    go_simp
    try with_reducible rfl
   show anyK _ _ _ _ _ _ _ _ (Act.put _ (some 39) _) _
   simp only [Act.put,sx0,sx1,sx2];refine kT 1 14 (v:=?_) rfl (Or.inl ⟨by rfl,?_⟩) (HSj.out _ G_) ?_;rotate_left 1
   ·intro w hSw
    go_simp
    try with_reducible rfl
   show anyK _ _ _ _ _ _ _ _ (Act.put _ (some 40) _) _
   simp only [Act.put,sx0,sx1,sx2];refine kT 2 14 (v:=?_) rfl (Or.inl ⟨by rfl,?_⟩) (HSj.out _ G_) ?_;rotate_left 1
   ·intro w hSw
    go_simp
    try with_reducible rfl
   show anyK _ _ _ _ _ _ _ _ (Act.put _ (some 41) _) _
   simp only [Act.put,sx0,sx1,sx2];refine kT 3 14 (v:=?_) rfl (Or.inl ⟨by rfl,?_⟩) (HSj.out _ G_) ?_;rotate_left 1
   ·intro w hSw
    go_simp
    try with_reducible rfl
   show anyK _ _ _ _ _ _ _ _ (Act.put _ (some 42) _) _
   simp only [Act.put,sx0,sx1,sx2];refine kT 4 14 (v:=?_) rfl (Or.inl ⟨by rfl,?_⟩) (HSj.out _ G_) ?_;rotate_left 1
   ·intro w hSw
    go_simp
    try with_reducible rfl
   show anyK _ _ _ _ _ _ _ _ (Act.put _ (some 43) _) _
   simp only [Act.put,sx0,sx1,sx2];refine kT 5 14 (v:=?_) rfl (Or.inl ⟨by rfl,?_⟩) (HSj.out _ G_) ?_;rotate_left 1
   ·intro w hSw
    go_simp
    try with_reducible rfl
   show anyK _ _ _ _ _ _ _ _ (Act.put _ (some 44) _) _
   simp only [Act.put,sx0,sx1,sx2];refine kT 6 14 (v:=?_) rfl (Or.inl ⟨by rfl,?_⟩) (HSj.out _ G_) ?_;rotate_left 1
   ·intro w hSw
    go_simp
    try with_reducible rfl
   show anyK _ _ _ _ _ _ _ _ (Act.put _ (some 45) _) _
   simp only [Act.put,sx0,sx1,sx2];refine anyK_pairC (i:=7) (j:=11) (by kernel_rfl) rfl rfl (fun Kk hKk=>?_) (fun Kk hKk=>?_)
   ·go_simp
    (go_at_call 14;refine (HIs.out _).mono ?_;rintro e wI ⟨rfl,hy⟩)
    have EI:Ext wr wI:=(G_).trans hy;clear hy
    go_wp2_with fail
    refine hKk.out _ _ (fun _=>HSj.out _ EI) ?_;clear hKk Kk;simp only [sx0,sx1,sx2];refine kT 8 14 (v:=?_) rfl (Or.inl ⟨by rfl,?_⟩) (HSj.out _ EI) ?_;rotate_left 1
    ·intro w hSw
     go_simp
     try with_reducible rfl
    show anyK _ _ _ _ _ _ _ _ (Act.put _ (some 38) _) _
    simp only [Act.put,sx0,sx1,sx2];refine kT 9 14 (v:=?_) rfl (Or.inl ⟨by rfl,?_⟩) (HSj.out _ EI) ?_;rotate_left 1
    ·intro w hSw
     go_simp
     try with_reducible rfl
    show anyK _ _ _ _ _ _ _ _ (Act.put _ (some 47) _) _
    simp only [Act.put,sx0,sx1,sx2];refine kT 10 14 (v:=?_) rfl (Or.inl ⟨by rfl,?_⟩) (HSj.out _ EI) ?_;rotate_left 1
    ·intro w hSw
     go_simp
     try with_reducible rfl
    show anyK _ _ _ _ _ _ _ _ (Act.put _ (some 48) _) _
    simp only [Act.put,sx0,sx1,sx2];refine anyK_one (i:=11) (by kernel_rfl) rfl (fun Kk hKk=>?_);refine stepK_allocQ rfl 4 rfl rfl ?_;refine hKk.out _ _ (fun _=>HSj.out _ (cthen EI _)) ?_;clear hKk Kk;obtain ⟨wA,hwA⟩:∃ V,(wI).alloc (.cells #[.bool false,.string ⟨#[]⟩] 40)=V:=⟨_,rfl⟩;obtain ⟨B3,hB3⟩:∃ B,(wI).heap.size=B:=⟨_,rfl⟩
    have hy:Ext (wI) wA:=by rw [<-hwA];exact ext_al _ _
    have r3:wA.heap[B3]?=some (.cells #[.bool false,.string ⟨#[]⟩] 40 (0,0)):=by rw [<-hwA,<-hB3];exact heap_alloc_new _ _
    have s3:wr.heap.size<=B3:=by rw [<-hB3];exact (EI).size
    have EA:Ext wr wA:=(EI).trans hy
    show anyK _ _ _ _ _ _ _ _ (Act.put _ (some 4) _) _
    simp only [Act.put,sx0,sx1,sx2];rw [hwA,hB3];clear hwA hB3 hy;refine anyK_one (i:=12) (by kernel_rfl) rfl (fun Kk hKk=>?_);refine stepK_storeRowC rfl rfl 40 _ _ rfl B3 #[.bool (ispM (nn:Int) T),.string ⟨(ispS (nn:Int) T).toArray⟩] rfl rfl 40 _ r3 pa_info rfl (by kernel_rfl) ?_;refine hKk.out _ _ (fun _=>HSj.out _ (ext_onlyC EA (setRow_onlyC _ _ _) s3)) ?_;clear hKk Kk;simp only [sx0,sx1,sx2];have Hfin:=Lh (ext_onlyC EA (setRow_onlyC wA B3 #[.bool (ispM (nn:Int) T),.string ⟨(ispS (nn:Int) T).toArray⟩]) s3);generalize wA.setRow B3 #[.bool (ispM (nn:Int) T),.string ⟨(ispS (nn:Int) T).toArray⟩]=wZ at *;refine anyK_one (i:=13) (by kernel_rfl) rfl (fun Kk hKk=>?_)
    go_wp2_with fail
    refine hKk.out _ _ (fun h=>Bool.noConfusion (show true=false from h)) ?_;clear hKk Kk;simp only [sx0,sx1,sx2];refine anyK_done (by kernel_rfl) ?_ _
    go_wp2_with fail
    go_meet
    exact ⟨rfl,Hfin.out⟩
   ·refine stepK_allocQ rfl 4 rfl rfl ?_
    refine hKk.out _ _ (fun _=>HSj.out _ (cthen G_ _)) ?_;clear hKk Kk;obtain ⟨wA,hwA⟩:∃ V,(wr.drew).alloc (.cells #[.bool false,.string ⟨#[]⟩] 40)=V:=⟨_,rfl⟩;obtain ⟨B3,hB3⟩:∃ B,(wr.drew).heap.size=B:=⟨_,rfl⟩
    have hy:Ext (wr.drew) wA:=by rw [<-hwA];exact ext_al _ _
    have r3:wA.heap[B3]?=some (.cells #[.bool false,.string ⟨#[]⟩] 40 (0,0)):=by rw [<-hwA,<-hB3];exact heap_alloc_new _ _
    have s3:wr.heap.size<=B3:=by rw [<-hB3];exact (G_).size
    have EA:Ext wr wA:=(G_).trans hy
    show anyK _ _ _ _ _ _ _ _ (Act.put _ (some 4) _) _
    simp only [Act.put,sx0,sx1,sx2];rw [hwA,hB3];clear hwA hB3 hy;refine anyK_one (i:=7) (by kernel_rfl) rfl (fun Kk hKk=>?_)
    go_simp
    (go_at_call 14;refine (HIs.out _).mono ?_;rintro e wI ⟨rfl,hy⟩)
    have EI:Ext wr wI:=(EA).trans hy;have r3:=rowEC r3 hy;clear hy
    go_wp2_with fail
    refine hKk.out _ _ (fun _=>HSj.out _ EI) ?_;clear hKk Kk;simp only [sx0,sx1,sx2];refine kT 8 14 (v:=?_) rfl (Or.inl ⟨by rfl,?_⟩) (HSj.out _ EI) ?_;rotate_left 1
    ·intro w hSw
     go_simp
     try with_reducible rfl
    show anyK _ _ _ _ _ _ _ _ (Act.put _ (some 38) _) _
    simp only [Act.put,sx0,sx1,sx2];refine kT 9 14 (v:=?_) rfl (Or.inl ⟨by rfl,?_⟩) (HSj.out _ EI) ?_;rotate_left 1
    ·intro w hSw
     go_simp
     try with_reducible rfl
    show anyK _ _ _ _ _ _ _ _ (Act.put _ (some 47) _) _
    simp only [Act.put,sx0,sx1,sx2];refine kT 10 14 (v:=?_) rfl (Or.inl ⟨by rfl,?_⟩) (HSj.out _ EI) ?_;rotate_left 1
    ·intro w hSw
     go_simp
     try with_reducible rfl
    show anyK _ _ _ _ _ _ _ _ (Act.put _ (some 48) _) _
    simp only [Act.put,sx0,sx1,sx2];refine anyK_one (i:=12) (by kernel_rfl) rfl (fun Kk hKk=>?_);refine stepK_storeRowC rfl rfl 40 _ _ rfl B3 #[.bool (ispM (nn:Int) T),.string ⟨(ispS (nn:Int) T).toArray⟩] rfl rfl 40 _ r3 pa_info rfl (by kernel_rfl) ?_;refine hKk.out _ _ (fun _=>HSj.out _ (ext_onlyC EI (setRow_onlyC _ _ _) s3)) ?_;clear hKk Kk;simp only [sx0,sx1,sx2];have Hfin:=Lh (ext_onlyC EI (setRow_onlyC wI B3 #[.bool (ispM (nn:Int) T),.string ⟨(ispS (nn:Int) T).toArray⟩]) s3);generalize wI.setRow B3 #[.bool (ispM (nn:Int) T),.string ⟨(ispS (nn:Int) T).toArray⟩]=wZ at *;refine anyK_one (i:=13) (by kernel_rfl) rfl (fun Kk hKk=>?_)
    go_wp2_with fail
    refine hKk.out _ _ (fun h=>Bool.noConfusion (show true=false from h)) ?_;clear hKk Kk;simp only [sx0,sx1,sx2];refine anyK_done (by kernel_rfl) ?_ _
    go_wp2_with fail
    go_meet
    exact ⟨rfl,Hfin.out⟩
  case rest =>
  obtain ⟨rfl,hE8⟩:=hcut;have HE8:=Lh (HER.out.trans hE8);clear hE8 k0 k1 c0
  cases hbb:isP nn T with
  | false =>
   rw [HB.out,hbb]
   have HF2:=Lh (show F0=33/\F1=(i:Int) by
    have h9:P=(i:Int):=by have h8:=Hfs.out;rw [fstI_yes (by rw [Hgd.out,hbb];rfl)] at h8;exact h8.symm
    have h7:=HF1.out;rw [if_pos (by rw [h9];omega),h9] at h7
    exact ⟨(congrArg Prod.fst h7).symm,(congrArg Prod.snd h7).symm⟩)
   clear hbb
   go_wp2_with fail
   refine (rfault_any 33 (i:Int) _).mono ?_;rintro e wz ⟨rfl,hxz⟩;have bz:=HFt.out.ext (HE8.out.trans hxz);have x0':=bz.x0;have x1':=bz.x1;have g0':=bz.f 0;have g1':=bz.f 1;have HEy:=Lh (HE0.out.trans (HE8.out.trans hxz));clear bz hxz
   go_wp2_with fail
   exact bodyPost_ret (v:=.agg #[.int .i64 33,.int .i64 (i:Int)]) (by simp [results,Tryz.results28,go_sem,x0',x1']) rfl ⟨by rw [HF2.out.1,HF2.out.2],put2x HEy.out HwH.out _ _⟩
  | true =>
   rw [HB.out,hbb]
   have HZ:=Lh (show fstI (fun i=>!(isP nn (gens.getD i []))) (k-(i+1)) (i+1)=P by
    have h8:=Hfs.out;rw [fstI_no (by rw [Hgd.out,hbb];rfl)] at h8
    exact h8)
   clear hbb
   go_wp2_with fail
   go_roundg (k-(i+1))
   case measure=>have:=Hkk.out;have:=Hlt.out;omega
   case rel=>exact ⟨HE8.out,i+1,rfl,Hlt.out,rfl,HZ.out⟩
end Go.Proofs.YtlechhmhmakgpaaGreatDoor
