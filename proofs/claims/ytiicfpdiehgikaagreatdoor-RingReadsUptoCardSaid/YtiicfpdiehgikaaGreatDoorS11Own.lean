/-
  The reader of texts of numbers: positive numerals, and numerals. A text of a number of circuits cut into the texts of its parts and of its power, in plain lists. The reader of texts of numbers: a numeral. Texts are put together: what strings.Builder's writing methods do in this program, where a written builder is never copied. The reader of texts of numbers: the whole text. A row's length: how many parts there are up to the last that is not nought. A slice of bytes that grows: its block is its own and holds bytes alone; appending to it turns no word.
-/
import Derived.Lib.AppendStr
import Derived.Lib.ItoaMem
import Derived.OwnWalk
import Derived.Test.YtiicfpdiehgikaaGreatDoorS10Tf
namespace Go.Proofs.YtiicfpdiehgikaaGreatDoor
set_option maxRecDepth 100000
set_option maxHeartbeats 4000000
open Go.RowKit
def dgRun:List UInt8→Nat
 | []=>0
 | c :: r=>if isDr (some c)=true then dgRun r+1 else 0
theorem dgRun_le:∀ L:List UInt8,dgRun L≤L.length
 | []=>Nat.le_refl _
 | c :: r=>by
  have:=dgRun_le r
  simp only [dgRun]
  split
  ·rw [List.length_cons];omega
  ·omega
theorem dgRun_at {L:List UInt8} {j:Nat} (h:j<dgRun L):isDr L[j]?=true:=by
 induction L generalizing j with
 | nil=>simp [dgRun] at h
 | cons c r ih =>
  simp only [dgRun] at h
  split at h
  ·rename_i hc
   cases j with
   | zero=>simpa using hc
   | succ j=>simp only [List.getElem?_cons_succ];exact ih (by omega)
  ·omega
theorem dgRun_end (L:List UInt8):isDr L[dgRun L]?=false:=by
 induction L with
 | nil=>rfl
 | cons c r ih =>
  simp only [dgRun]
  split
  ·simpa using ih
  ·rename_i hc;simpa using hc
def posN (L:List UInt8):Nat:=if L[0]?=some 48 then 0 else dgRun L
theorem posN_le (L:List UInt8):posN L≤L.length:=by unfold posN;split;omega;exact dgRun_le L
theorem ext_str (T:List UInt8) (a k:Nat):((⟨T.toArray⟩:ByteArray).extract a (a+k))=⟨((T.drop a).take k).toArray⟩:=by
 have:((⟨T.toArray⟩:ByteArray).extract a (a+k)).data=((T.drop a).take k).toArray:=by
  rw [ByteArray.data_extract]
  apply Array.ext'
  simp [List.take_drop]
 cases h:((⟨T.toArray⟩:ByteArray).extract a (a+k)) with
 | mk d=>rw [h] at this;simp only at this;rw [this]
theorem rpositive_any (R:Nat) (T:List UInt8) (at_:Nat) (w:World) (h:RdR w R T at_) (hat:at_≤T.length) (hT:T.length≤4611686018427387904) :
  Calls Tryz.prog 112 #[.pointer (some ⟨R,0,none⟩)] w fun e w'=>Chg R w w'∧((posN (T.drop at_)≠0∧e=.returned (.string ⟨((T.drop at_).take (posN (T.drop at_))).toArray⟩)∧RdR w' R T (at_+posN (T.drop at_)))∨(posN (T.drop at_)=0∧e=.panicked (gupR 1 at_))):=by
 have x0:=h.x0;have x1:=h.x1
 obtain ⟨n,hn⟩:∃ n,posN (T.drop at_)=n:=⟨_,rfl⟩
 have hnl:n≤T.length-at_:=by rw [←hn,←List.length_drop];exact posN_le _
 have hdr:∀ j,(T.drop at_)[j]?=T[at_+j]?:=fun j=>by rw [List.getElem?_drop]
 have hex:=ext_str T at_ n
 rw [hn]
 have Hn:=Lib.hid hn;have Hdr:=Lib.hid hdr;have H:=Lib.hid h;have Hnl:=Lib.hid hnl;have Hex:=Lib.hid hex;have Hat:=Lib.hid hat;have HT:=Lib.hid hT
 have Hf:=Lib.hid (show T[at_]?=some 48→n=0 from fun h=>by rw [←hn];unfold posN;rw [hdr,Nat.add_zero,if_pos h])
 have Hd:=Lib.hid (show ∀ j,j<n→isDr T[at_+j]?=true from fun j hj=>by
  rw [←hdr]
  refine dgRun_at ?_
  rw [←hn] at hj
  unfold posN at hj
  split at hj
  ·omega
  ·exact hj)
 have He:=Lib.hid (show T[at_]?≠some 48→isDr T[at_+n]?=false from fun h=>by
  have:n=dgRun (T.drop at_):=by rw [←hn];unfold posN;rw [hdr,Nat.add_zero,if_neg h]
  rw [this,←hdr]
  exact dgRun_end _)
 clear h hn hdr hnl hex hat hT
 go_enter Tryz.func112,Tryz.ntmps112
 go_wp2_with fail
 clear x0 x1
 go_loopg [] (n+1) (fun kk wr=>∃ j:Nat,j≤n∧n+1-j=kk∧RdR wr R T (at_+j)∧Chg R w wr)
 case atStart=>exact ⟨0,by omega,by omega,H.out,Chg.of_ext (Ext.refl _)⟩
 case round =>
  clear H
  obtain ⟨j,hj,hkk,hr,hC⟩:=hrel
  obtain ⟨wo,rfl⟩:∃ wo:World,wo=wr:=⟨_,rfl⟩
  obtain ⟨a,ha⟩:∃ a,at_+j=a:=⟨_,rfl⟩
  rw [ha] at hr
  have HD:=Lib.hid (rdigit_any R T a wo hr)
  have Hr:=Lib.hid hr;have HC:=Lib.hid hC;have Ha:=Lib.hid ha;have Hkk:=Lib.hid hkk;have Hj:=Lib.hid hj
  clear hr hC ha hkk hj
  go_wp2_with fail
  refine HD.out.mono ?_
  rintro e w1 ⟨rfl,hx1⟩
  have hr1:=Hr.out.ext hx1
  have HR1:=Lib.hid hr1;have HC1:=Lib.hid (HC.out.trans (Chg.of_ext hx1))
  have x0:=hr1.x0;have x1:=hr1.x1;have f1:=hr1.f 1
  clear hx1 hr1 HD Hr HC
  by_cases hgo:j<n
  ·have hdg:isDr T[a]?=true:=by rw [←Ha.out];exact Hd.out j hgo
   obtain ⟨c0,hc0⟩:∃ c0,T[at_]?=some c0:=by
    rcases hx:T[at_]? with _ | c
    ·have:=Hnl.out;have:=List.getElem?_eq_none_iff.1 hx;omega
    ·exact ⟨c,rfl⟩
   have h48:c0≠48:=fun e=>by have:=Hf.out (by rw [hc0,e]);omega
   have hlt:at_<T.length:=(List.getElem?_eq_some_iff.1 hc0).1
   have b0:(0:Int)≤(at_:Int):=by omega
   have b1:(at_:Int)<(T.length:Int):=by omega
   have hsz:at_<(⟨T.toArray⟩:ByteArray).size:=by simpa [ByteArray.size] using hlt
   have hg:(⟨T.toArray⟩:ByteArray)[at_]'hsz=c0:=rbyte_at hc0 hsz
   have q1:((((⟨T.toArray⟩:ByteArray)[at_]'hsz).toNat:Int) != 48)=true:=by
    rw [hg];exact rne_t fun e=>h48 (UInt8.toNat_inj.1 (by have:(48:UInt8).toNat=48:=rfl;omega))
   rw [hdg]
   obtain ⟨k,hk⟩:∃ k:Int,((a+1:Nat):Int)=k:=⟨_,rfl⟩
   have wk:IntKind.i64.wrap ((a:Int)+1)=k:=by have h1:=Ha.out;have h2:=Hnl.out;have h3:=HT.out;have h4:=Hat.out;rw [IntKind.wrap_i64];omega
   have Hrest:=Lib.hid (show j+1≤n∧at_+(j+1)=a+1 by have:=Ha.out;omega)
   have HR2:=Lib.hid (HR1.out.put (a+1));have HC2:=Lib.hid (HC1.out.trans (HR1.out.chg (a+1)))
   rw [hk] at HR2 HC2
   clear hg h48 hc0 hlt hdg hgo HR1 HC1 hk
   go_wp2_with fail
   clear x0 x1 f1
   generalize w1.setCell ⟨R,1,none⟩ (.int .i64 k)=w2 at *
   go_roundg (n+1-(j+1))
   case measure=>have:=Hkk.out;have:=Hrest.out.1;omega
   case rel=>exact ⟨j+1,Hrest.out.1,rfl,by rw [Hrest.out.2];exact HR2.out,HC2.out⟩
  ·have hjn:j=n:=by have:=Hj.out;omega
   have Hjn:=Lib.hid hjn
   clear hgo
   by_cases hj0:j=0
   ·have q2:((a:Int) == (at_:Int))=true:=rbt (by have:=Ha.out;omega)
    have Hz:=Lib.hid (show n=0∧a=at_ by have:=Ha.out;omega)
    have HG:=Lib.hid (fun wx (hx:RdR wx R T a)=>rgiveUp_any R T a wx hx)
    clear hj0 hjn
    rcases hq:isDr T[a]? with _ | _
    ·clear hq
     go_wp2_with fail
     refine (HG.out w1 HR1.out).mono ?_
     rintro e w2 ⟨rfl,rfl⟩
     go_wp2_with fail
     exact ⟨rfl,HC1.out,Or.inr ⟨Hz.out.1,by rw [Hz.out.2]⟩⟩
    ·have h48:T[at_]?=some 48:=by
      by_cases h48:T[at_]?=some 48
      ·exact h48
      ·have h2:=He.out h48
       have h3:at_+n=a:=by have:=Hz.out;omega
       rw [h3,hq] at h2
       cases h2
     have hlt:at_<T.length:=(List.getElem?_eq_some_iff.1 h48).1
     have b0:(0:Int)≤(at_:Int):=by omega
     have b1:(at_:Int)<(T.length:Int):=by omega
     have hsz:at_<(⟨T.toArray⟩:ByteArray).size:=by simpa [ByteArray.size] using hlt
     have hg:(⟨T.toArray⟩:ByteArray)[at_]'hsz=48:=rbyte_at h48 hsz
     have q1:((((⟨T.toArray⟩:ByteArray)[at_]'hsz).toNat:Int) != 48)=false:=by rw [hg];rfl
     clear hg h48 hq hlt
     go_wp2_with fail
     refine (HG.out w1 HR1.out).mono ?_
     rintro e w2 ⟨rfl,rfl⟩
     go_wp2_with fail
     exact ⟨rfl,HC1.out,Or.inr ⟨Hz.out.1,by rw [Hz.out.2]⟩⟩
   ·have q2:((a:Int) == (at_:Int))=false:=rbf (by have:=Ha.out;omega)
    have hq:isDr T[a]?=false:=by
     rw [←Ha.out,hjn]
     exact He.out fun h=>by have:=Hf.out h;omega
    rw [hq]
    have Hz:=Lib.hid (show n≠0∧at_+n=a by have:=Ha.out;omega)
    have b0:(0:Int)≤(at_:Int):=by omega
    have b1:(at_:Int)≤(a:Int):=by have:=Ha.out;omega
    have b2:(a:Int)≤(T.length:Int):=by have h1:=Hz.out;have h2:=Hnl.out;have h3:=Hat.out;omega
    have b3:(0:Int)≤(a:Int):=by omega
    clear hj0 hjn hq
    go_wp2_with fail
    go_quiet (fail)
    go_wp2_with fail
    go_ret
    have e9:=Hex.out
    rw [Hz.out.2] at e9
    exact ⟨HC1.out.trans (Chg.of_ext (rdrewN w1 _)),Or.inl ⟨Hz.out.1,congrArg (fun b=>Ending.returned (Value.string b)) e9,by rw [Hz.out.2];exact HR1.out.ext (rdrewN w1 _)⟩⟩
def numS (L:List UInt8):Nat:=if L[0]?=some 45 then 1 else 0
def numOk (L:List UInt8):Bool:=decide (L[0]?=some 48) || decide (posN (L.drop (numS L))≠0)
def numK (L:List UInt8):Nat:=if L[0]?=some 48 then 1 else numS L+posN (L.drop (numS L))
theorem numK_le (L:List UInt8):numK L≤L.length:=by
 unfold numK
 split
 ·rename_i h
  have:=(List.getElem?_eq_some_iff.1 h).1
  omega
 ·unfold numS
  split
  ·rename_i h
   have h1:=(List.getElem?_eq_some_iff.1 h).1
   have h2:=posN_le (L.drop 1)
   rw [List.length_drop] at h2
   omega
  ·have:=posN_le (L.drop 0)
   rw [List.drop_zero] at this ⊢
   omega
def rdP (T:List UInt8):Nat→List (List UInt8)→Nat→Nat ⊕ (List (List UInt8) × Nat)
 | 0,acc,k=>.inr (acc,k)
 | m+1,acc,k=>if T[k]?=some 44 then (if numOk (T.drop (k+1))=true then rdP T m (acc++[(T.drop (k+1)).take (numK (T.drop (k+1)))]) (k+1+numK (T.drop (k+1))) else .inl (k+1+numK (T.drop (k+1)))) else .inr (acc,k)
def rdE (T:List UInt8) (acc:List (List UInt8)) (k:Nat):Nat ⊕ (List (List UInt8) × List UInt8) :=
 if T[k]?=some 47 then (if posN (T.drop (k+1))=0 then .inl (k+1) else if k+1+posN (T.drop (k+1))<T.length then .inl (k+1+posN (T.drop (k+1))) else .inr (acc,(T.drop (k+1)).take (posN (T.drop (k+1)))))
 else if k<T.length then .inl k else .inr (acc,[48])
def rdF (T:List UInt8):Nat ⊕ (List (List UInt8) × Nat)→Nat ⊕ (List (List UInt8) × List UInt8)
 | .inl k=>.inl k
 | .inr (acc,k)=>rdE T acc k
def rdS (T:List UInt8):Nat ⊕ (List (List UInt8) × List UInt8) :=
 if numOk T=true then rdF T (rdP T 7 [T.take (numK T)] (numK T)) else .inl (numK T)
theorem rdP_hit {T:List UInt8} {m:Nat} {acc:List (List UInt8)} {k:Nat} (h:T[k]?=some 44) (hn:numOk (T.drop (k+1))=true):rdP T (m+1) acc k=rdP T m (acc++[(T.drop (k+1)).take (numK (T.drop (k+1)))]) (k+1+numK (T.drop (k+1))):=by
 simp only [rdP];rw [if_pos h,if_pos hn]
theorem rdP_bad {T:List UInt8} {m:Nat} {acc:List (List UInt8)} {k:Nat} (h:T[k]?=some 44) (hn:numOk (T.drop (k+1))=false):rdP T (m+1) acc k=.inl (k+1+numK (T.drop (k+1))):=by
 simp only [rdP];rw [if_pos h,if_neg (by rw [hn];decide)]
theorem rdP_end {T:List UInt8} {m:Nat} {acc:List (List UInt8)} {k:Nat} (h:m=0∨T[k]?≠some 44):rdP T m acc k=.inr (acc,k):=by
 cases m with
 | zero=>rfl
 | succ m =>
  simp only [rdP]
  rw [if_neg (h.resolve_left (by omega))]
theorem rnumber_any (R:Nat) (T:List UInt8) (at_:Nat) (w:World) (h:RdR w R T at_) (hat:at_≤T.length) (hT:T.length≤4611686018427387904) :
  Calls Tryz.prog 110 #[.pointer (some ⟨R,0,none⟩)] w fun e w'=>Chg R w w'∧((numOk (T.drop at_)=true∧e=.returned (.string ⟨((T.drop at_).take (numK (T.drop at_))).toArray⟩)∧RdR w' R T (at_+numK (T.drop at_)))∨(numOk (T.drop at_)=false∧e=.panicked (gupR 1 ((at_+numK (T.drop at_):Nat):Int)))):=by
 have x1:=h.x1
 obtain ⟨k,hk⟩:∃ k,numK (T.drop at_)=k:=⟨_,rfl⟩
 have hkl:at_+k≤T.length:=by have:=numK_le (T.drop at_);rw [List.length_drop,hk] at this;omega
 rw [hk]
 obtain ⟨ok,hok⟩:∃ ok,numOk (T.drop at_)=ok:=⟨_,rfl⟩
 rw [hok]
 have h0:(T.drop at_)[0]?=T[at_]?:=by rw [List.getElem?_drop,Nat.add_zero]
 have HT0:=Lib.hid (rtake_any R T at_ 48 48 w h hat hT rfl)
 have H:=Lib.hid h;have Hkl:=Lib.hid hkl;have Hat:=Lib.hid hat;have HT:=Lib.hid hT
 by_cases h48:T[at_]?=some 48
 ·have Hz:=Lib.hid (show at_+1=at_+1∧at_+1≤T.length∧k=1∧ok=true from by
   refine ⟨rfl,(List.getElem?_eq_some_iff.1 h48).1,?_,?_⟩
   ·rw [←hk];unfold numK;rw [h0,if_pos h48]
   ·rw [←hok];unfold numOk;rw [h0];simp [h48])
  rw [if_pos h48,show decide (T[at_]?=some 48)=true by simp [h48]] at HT0
  clear h hat hkl hk hok h0 h48 hT
  obtain ⟨z,hz⟩:∃ z,at_+1=z:=⟨_,rfl⟩
  rw [hz] at HT0
  have Hzz:=Lib.hid hz
  clear hz
  go_enter Tryz.func110,Tryz.ntmps110
  go_wp2_with fail
  refine HT0.out.mono ?_
  rintro e w1 ⟨rfl,hr1,hC1⟩
  have y0:=hr1.x0;have y1:=hr1.x1
  have b0:(0:Int)≤(at_:Int):=by omega
  have b1:(at_:Int)≤(z:Int):=by have:=Hzz.out;omega
  have b2:(z:Int)≤(T.length:Int):=by have:=Hzz.out;have:=Hz.out;omega
  have b3:(0:Int)≤(z:Int):=by omega
  have e9:=ext_str T at_ 1
  rw [Hzz.out] at e9
  have He9:=Lib.hid e9;have HR:=Lib.hid hr1;have HC:=Lib.hid hC1
  clear e9 hr1 hC1 HT0 x1
  go_wp2_with fail
  go_quiet (fail)
  go_wp2_with fail
  go_ret
  exact ⟨HC.out.trans (Chg.of_ext (rdrewN w1 _)),Or.inl ⟨Hz.out.2.2.2,by rw [Hz.out.2.2.1];exact congrArg (fun b=>Ending.returned (Value.string b)) He9.out,by rw [Hz.out.2.2.1,Hzz.out];exact HR.out.ext (rdrewN w1 _)⟩⟩
 rw [if_neg h48,show decide (T[at_]?=some 48)=false by simp [h48]] at HT0
 obtain ⟨s,hs⟩:∃ s,numS (T.drop at_)=s:=⟨_,rfl⟩
 have hkk:k=s+posN (T.drop (at_+s)):=by
  rw [←hk];unfold numK;rw [h0,if_neg h48,hs,List.drop_drop]
 have hokk:ok=decide (posN (T.drop (at_+s))≠0):=by
  rw [←hok];unfold numOk;rw [h0,hs,List.drop_drop];simp [h48]
 have hss:(if T[at_]?=some 45 then at_+1 else at_)=at_+s:=by
  rw [←hs];unfold numS;rw [h0];split<;>rfl
 have hsl:at_+s≤T.length:=by omega
 obtain ⟨p,hp⟩:∃ p,posN (T.drop (at_+s))=p:=⟨_,rfl⟩
 rw [hp] at hkk hokk
 have HT1:=Lib.hid (fun wx (hr:RdR wx R T at_)=>rtake_any R T at_ 45 45 wx hr hat hT rfl)
 rw [hss] at HT1
 have HPo:=Lib.hid (fun wx (hr:RdR wx R T (at_+s))=>rpositive_any R T (at_+s) wx hr hsl hT)
 rw [hp] at HPo
 have Hkk:=Lib.hid hkk;have Hok:=Lib.hid hokk
 clear h hat hkl hk hok h0 h48 hT hs hss hsl hp hkk hokk
 go_enter Tryz.func110,Tryz.ntmps110
 go_wp2_with fail
 refine HT0.out.mono ?_
 rintro e w1 ⟨rfl,hr1,hC1⟩
 have HR1:=Lib.hid hr1;have HC1:=Lib.hid hC1
 clear hr1 hC1 HT0 x1
 go_wp2_with fail
 refine (HT1.out w1 HR1.out).mono ?_
 rintro e w2 ⟨rfl,hr2,hC2⟩
 have HR2:=Lib.hid hr2;have HC2:=Lib.hid (HC1.out.trans hC2)
 clear hr2 hC2 HT1 HR1 HC1
 go_wp2_with fail
 refine (HPo.out w2 HR2.out).mono ?_
 rintro e w3 ⟨hC3,(⟨hp0,rfl,hr3⟩ | ⟨hp0,rfl⟩)⟩
 ·obtain ⟨z,hz⟩:∃ z,at_+s+p=z:=⟨_,rfl⟩
  rw [hz] at hr3
  have Hz:=Lib.hid (show at_+k=z∧z≤T.length∧ok=true by
   have h1:=Hkk.out;have h2:=Hkl.out
   refine ⟨by omega,by omega,?_⟩
   rw [Hok.out];simp [hp0])
  have y0:=hr3.x0;have y1:=hr3.x1
  have b0:(0:Int)≤(at_:Int):=by omega
  have b1:(at_:Int)≤(z:Int):=by omega
  have b2:(z:Int)≤(T.length:Int):=by have:=Hz.out;omega
  have b3:(0:Int)≤(z:Int):=by omega
  have e9:=ext_str T at_ k
  rw [Hz.out.1] at e9
  have He9:=Lib.hid e9;have HR:=Lib.hid hr3;have HC:=Lib.hid (HC2.out.trans hC3)
  clear e9 hr3 hC3 HPo HR2 HC2 hp0 hz Hkk Hok
  go_wp2_with fail
  go_quiet (fail)
  go_wp2_with fail
  go_ret
  exact ⟨HC.out.trans (Chg.of_ext (rdrewN w3 _)),Or.inl ⟨Hz.out.2.2,congrArg (fun b=>Ending.returned (Value.string b)) He9.out,by rw [Hz.out.1];exact HR.out.ext (rdrewN w3 _)⟩⟩
 ·have Hz:=Lib.hid (show at_+k=at_+s∧ok=false by
   have h1:=Hkk.out
   refine ⟨by omega,?_⟩
   rw [Hok.out];simp [hp0])
  have HC:=Lib.hid (HC2.out.trans hC3)
  clear hC3 HPo HR2 HC2 hp0 Hkk Hok
  go_wp2_with fail
  exact ⟨rfl,HC.out,Or.inr ⟨Hz.out.2,by rw [Hz.out.1,Int.natCast_add]⟩⟩
theorem byte_info:(Tryz.prog.info? 5).map (fun i=>(i.zero,i.size,i.bytes))=some (some (.int .u8 0),1,1):=by kernel_rfl
theorem bld_size:(Tryz.prog.info? 85).map (·.size)=some 2:=by kernel_rfl
theorem bld_lies:liesAt Tryz.prog Tryz.prog.depth 85 (2 / Tryz.prog.cellsOf 85) 0 85 1=true:=by kernel_rfl
abbrev Bld (w:World) (b:Nat) (bs:List Value):Prop:=Lib.IsBuilderF 85 5 b b bs w
structure Wrt (b:Nat) (w w':World):Prop where
 low:Below b w w'
 oth:Lib.OthersKept 5 (some b) w w'
theorem Wrt.refl (b:Nat) (w:World):Wrt b w w:=⟨Below.refl b w,Lib.OthersKept.refl _ _ w⟩
theorem Wrt.ext {b:Nat} {w0 w w':World} (h:Wrt b w w') (k:Ext w0 w) (hb:w0.heap.size≤b):Ext w0 w':=Below.trans k (h.low.mono hb)
theorem Bld.lt {w:World} {b:Nat} {bs:List Value} (h:Bld w b bs):b<w.heap.size:=by rcases h with h | h<;>exact h.lt
theorem bld_new (w:World):Bld (w.alloc (.cells #[.pointer none,.slice none 0 0] 85)) w.heap.size []:=Lib.IsBuilderF.of (Lib.fresh_isBuilder _ _ w)
theorem copyCheck_used (b:Nat) (w:World) (h0:w.cell? ⟨b,0,none⟩=some (.pointer (some ⟨b,0,none⟩))) :
  Calls Tryz.prog 90 #[.pointer (some ⟨b,0,none⟩)] w fun e w'=>e=.returned (.tuple #[])∧w'=w:=by
 obtain ⟨j,hj,_⟩:=Option.map_eq_some_iff.1 bld_size
 go_enter Tryz.func90,Tryz.ntmps90
 go_wp2
 rw [Lib.run_neq_ptr_same w _ Tryz.underlying82 hj]
 go_wp2
 go_end0
 exact ⟨rfl,rfl⟩
theorem copyCheck_fresh (b:Nat) (w:World) (h0:w.cell? ⟨b,0,none⟩=some (.pointer none)) (hsh:w.shape? b=some (85,2)) (hfz:w.frozen? ⟨b,0,none⟩=false) :
  Calls Tryz.prog 90 #[.pointer (some ⟨b,0,none⟩)] w fun e w'=>e=.returned (.tuple #[])∧w'=w.setCell ⟨b,0,none⟩ (.pointer (some ⟨b,0,none⟩)):=by
 obtain ⟨j,hj,hjs⟩:=Option.map_eq_some_iff.1 bld_size
 go_enter Tryz.func90,Tryz.ntmps90
 go_wp2
 rw [Lib.run_to_unsafe w ⟨b,0,none⟩ Tryz.underlying82 Tryz.underlying144 hj (by rw [hjs];decide) hsh (Nat.zero_lt_succ 1)]
 simp only [Result.andThen]
 rw [Oper.upon_value]
 go_wp2
 rw [run_callFunc_extern Tryz.func115 (by kernel_rfl) (by kernel_rfl) (by kernel_rfl) (e:=Extern.AbiNoEscape.same) (by kernel_rfl),Lib.run_noEscape]
 simp only [Result.andThen]
 rw [Oper.upon_value]
 go_wp2
 rw [Lib.run_from_unsafe w ⟨b,0,none⟩ Tryz.underlying144 Tryz.underlying82 hj hsh bld_lies]
 simp only [Result.andThen]
 rw [Oper.upon_value]
 go_wp2
 go_end0
 exact ⟨rfl,rfl⟩
theorem copyCheck_any (b:Nat) (bs:List Value) (w:World) (h:Bld w b bs) :
  Calls Tryz.prog 90 #[.pointer (some ⟨b,0,none⟩)] w fun e w'=>e=.returned (.tuple #[])∧Lib.BuilderAtF 85 5 b b (.pointer (some ⟨b,0,none⟩)) bs w'∧Wrt b w w':=by
 cases h with
 | inl h =>
  refine (copyCheck_fresh b w h.cell0 h.shape h.frozen0).mono ?_
  intro e w' hh
  obtain ⟨he,hw⟩:=hh
  subst hw
  exact ⟨he,h.used _,⟨Below.setCell (Below.refl b w) (Nat.le_refl b) _,(Lib.OthersKept.refl _ (some b) w).setCell ⟨b,0,none⟩ rfl _⟩⟩
 | inr h =>
  refine (copyCheck_used b w h.cell0).mono ?_
  intro e w' hh
  obtain ⟨he,hw⟩:=hh
  subst hw
  exact ⟨he,h,Wrt.refl b w'⟩
theorem bld_grown {w1 w2:World} {b:Nat} {p v:Value} {bs:List Value} {n:Nat} {row:Option Nat} (hbk:w1.heap[b]?=some (.cells #[p,v] 85 (0,0))) (_hown:w1.ownsRowF b 5 1 v n bs) (hne:v.ownBlock≠some b) (hg:w1.grownBy w2 row) (hr:row=v.ownBlock) :
  w2.heap[b]?=some (.cells #[p,v] 85 (0,0)):=by
 subst hr
 rw [hg.block b (Array.getElem?_eq_some_iff.1 hbk).1 (fun e=>hne e.symm)];exact hbk
theorem writeString_any (b:Nat) (bs:List Value) (s:ByteArray) (w:World) (h:Bld w b bs) (hlen:bs.length+s.size≤140737488355328) :
  Calls Tryz.prog 59 #[.pointer (some ⟨b,0,none⟩),.string s] w fun e w'=>e=.returned (.tuple #[.int .i64 s.size,.nilIface])∧Bld w' b (bs++Lib.strCells s)∧Wrt b w w':=by
 obtain ⟨i0,hi,hz0,hz1,hz2⟩:=info_parts byte_info
 have hbw:=h.lt
 go_enter Tryz.func59,Tryz.ntmps59
 go_wp2_with fail
 refine (copyCheck_any b bs w h).mono ?_
 rintro e w1 ⟨rfl,h1,hW1⟩
 obtain ⟨hB,v,hbk,hown,hne⟩:=h1
 have hs1:=hW1.low.size
 have c0:w1.cell? ⟨b,0,none⟩=some (.pointer (some ⟨b,0,none⟩)):=by rw [Lib.cell_of_heap hbk];rfl
 have c1:w1.cell? ⟨b,1,none⟩=some v:=by rw [Lib.cell_of_heap hbk];rfl
 go_wp2_with (at_builtin;refine Lib.wpList_append_own_stringF _ rfl _ _ 83 9 rfl b 5 i0 Tryz.underlying83 Tryz.underlying9 hi hz0 hz1 hz2 _ _ _ rfl hown s rfl ?b1 ?b2 ?b3 ?_)
 case b1=>unfold maxLen;omega
 case b2=>omega
 case b3=>omega
 intro v' w2 hown' hgrow _
 have hb2:=bld_grown hbk hown hne hgrow rfl
 have d0:w2.cell? ⟨b,0,none⟩=some (.pointer (some ⟨b,0,none⟩)):=by rw [Lib.cell_of_heap hb2];rfl
 have d1:w2.cell? ⟨b,1,none⟩=some v:=by rw [Lib.cell_of_heap hb2];rfl
 have f1:w2.frozen? ⟨b,1,none⟩=false:=Lib.frozen_of_heap hb2 1
 obtain ⟨ao,n',cap,rfl⟩:∃ ao n' cap,v'=.slice ao n' cap:=by
  rcases hown'.2 with ⟨hv,_⟩ | ⟨g,cap,cur,fz,hv,_⟩<;>exact ⟨_,_,_,hv⟩
 have HF:=Lib.hid (show Bld (w2.setCell ⟨b,1,none⟩ (.slice ao n' cap)) b (bs++Lib.strCells s) from Or.inr (Lib.BuilderAtF.put (T:=85) (e:=5) (Nat.le_refl b) hb2 (bs':=bs++Lib.strCells s) (by simpa [Lib.strCells_length] using hown') (by decide)))
 have HW:=Lib.hid (show Wrt b w (w2.setCell ⟨b,1,none⟩ (.slice ao n' cap)) from ⟨(hW1.low.grown hgrow (by omega) (fun k hk=>(hown.lt k hk).1)).setCell (p:=⟨b,1,none⟩) (Nat.le_refl b) _,(hW1.oth.grown hgrow (Lib.ownsRowF_kind hown)).setCell ⟨b,1,none⟩ rfl _⟩)
 go_wp2
 go_ret2
 exact ⟨rfl,HF.out,HW.out⟩
theorem writeByte_any (b:Nat) (bs:List Value) (c:Int) (w:World) (h:Bld w b bs) (hlen:bs.length+1≤140737488355328) :
  Calls Tryz.prog 58 #[.pointer (some ⟨b,0,none⟩),.int .u8 c] w fun e w'=>e=.returned .nilIface∧Bld w' b (bs++[.int .u8 c])∧Wrt b w w':=by
 obtain ⟨i0,hi,hz0,hz1,hz2⟩:=info_parts byte_info
 have hbw:=h.lt
 go_enter Tryz.func58,Tryz.ntmps58
 go_wp2_with fail
 refine (copyCheck_any b bs w h).mono ?_
 rintro e w1 ⟨rfl,h1,hW1⟩
 obtain ⟨hB,v,hbk,hown,hne⟩:=h1
 have hs1:=hW1.low.size
 have c0:w1.cell? ⟨b,0,none⟩=some (.pointer (some ⟨b,0,none⟩)):=by rw [Lib.cell_of_heap hbk];rfl
 have c1:w1.cell? ⟨b,1,none⟩=some v:=by rw [Lib.cell_of_heap hbk];rfl
 go_wp2_with (at_builtin;refine wpList_append_ownF _ rfl _ _ 83 rfl b 5 i0 (.int .u8 0) 1 1 Tryz.underlying83 hi hz0 hz1 hz2 rfl (by decide) _ _ _ rfl (hown.alloc _) ⟨w1.heap.size,0,none⟩ 1 1 [.int .u8 c] rfl rfl ?b0 ?b1 ?b2 ?b3 ?b4 ?_)
 case b0 =>
  intro j u hj
  cases j with
  | zero=>simp at hj;subst hj;simp [Addr.add]
  | succ j=>simp at hj
 case b1=>intro u hu;simp at hu;subst hu;rfl
 case b2=>unfold maxLen;omega
 case b3=>omega
 case b4=>simp;omega
 intro v' w2 hown' hgrow _
 have hbk':(w1.alloc (.cells #[.int .u8 c] 5)).heap[b]?=some (.cells #[.pointer (some ⟨b,0,none⟩),v] 85 (0,0)):=by rw [Lib.alloc_old w1 _ b (by omega)];exact hbk
 have hb2:=bld_grown hbk' (hown.alloc _) hne hgrow rfl
 have d0:w2.cell? ⟨b,0,none⟩=some (.pointer (some ⟨b,0,none⟩)):=by rw [Lib.cell_of_heap hb2];rfl
 have d1:w2.cell? ⟨b,1,none⟩=some v:=by rw [Lib.cell_of_heap hb2];rfl
 have f1:w2.frozen? ⟨b,1,none⟩=false:=Lib.frozen_of_heap hb2 1
 obtain ⟨ao,n',cap,rfl⟩:∃ ao n' cap,v'=.slice ao n' cap:=by
  rcases hown'.2 with ⟨hv,_⟩ | ⟨g,cap,cur,fz,hv,_⟩<;>exact ⟨_,_,_,hv⟩
 have HF:=Lib.hid (show Bld (w2.setCell ⟨b,1,none⟩ (.slice ao n' cap)) b (bs++[.int .u8 c]) from Or.inr (Lib.BuilderAtF.put (T:=85) (e:=5) (Nat.le_refl b) hb2 (bs':=bs++[.int .u8 c]) (by simpa using hown') (by decide)))
 have HW:=Lib.hid (show Wrt b w (w2.setCell ⟨b,1,none⟩ (.slice ao n' cap)) from ⟨((hW1.low.alloc (by omega) _).grown hgrow (by simp;omega) (fun k hk=>(hown.lt k hk).1)).setCell (p:=⟨b,1,none⟩) (Nat.le_refl b) _,((hW1.oth.alloc _).grown hgrow (Lib.ownsRowF_kind (hown.alloc _))).setCell ⟨b,1,none⟩ rfl _⟩)
 go_wp2
 go_ret
 exact ⟨rfl,HF.out,HW.out⟩
theorem rs_info:(Tryz.prog.info? 9).map (fun i=>(i.zero,i.size,i.bytes))=some (some (.string ⟨#[]⟩),1,16):=by kernel_rfl
def rC (l:List (List UInt8)):List Value:=l.map fun x=>Value.string ⟨x.toArray⟩
theorem rC_snoc (l:List (List UInt8)) (x:List UInt8):rC (l++[x])=rC l++[.string ⟨x.toArray⟩]:=by simp [rC]
def RStr (w:World) (ao:Option Addr) (n:Nat) (l:List (List UInt8)):Prop :=
 l.length=n∧(n=0∨∃ b o,ao=some ⟨b,o,none⟩∧b<w.heap.size∧∀ t,t<n→w.cell? ⟨b,o+t,none⟩=some (.string ⟨(l.getD t []).toArray⟩))
theorem RStr.ext {w w':World} {ao:Option Addr} {n:Nat} {l:List (List UInt8)} (h:RStr w ao n l) (k:Ext w w'):RStr w' ao n l:=by
 refine ⟨h.1,?_⟩
 rcases h.2 with h0 | ⟨b,o,e,hb,hc⟩
 ·exact Or.inl h0
 ·exact Or.inr ⟨b,o,e,Nat.lt_of_lt_of_le hb k.size,fun t ht=>(k.cell (p:=⟨b,o+t,none⟩) hb).trans (hc t ht)⟩
theorem rstr_of_own {w:World} {base n:Nat} {v:Value} {l:List (List UInt8)} (h:w.ownsRow base 9 1 v n (rC l)):∃ (a:Option Addr) (c:Nat),v=.slice a n c∧n≤c∧c≤maxLen∧RStr w a n l:=by
 have hl:l.length=n:=by have:=h.1;simpa [rC] using this
 rcases h.2 with ⟨rfl,rfl⟩ | ⟨g,cap,cur,rfl,_,hg,hnc,hcm,_,htk⟩
 ·exact ⟨none,0,rfl,Nat.le_refl _,Nat.zero_le _,⟨hl,Or.inl rfl⟩⟩
 ·refine ⟨some ⟨g,0,none⟩,cap,rfl,hnc,hcm,⟨hl,Or.inr ⟨g,0,rfl,(Array.getElem?_eq_some_iff.1 hg).1,fun t ht=>?_⟩⟩⟩
  rw [cell_of_row w g (0+t) cur _ (0,0) hg,Nat.zero_add]
  have h1:(rC l)[t]?=cur.toList[t]?:=by
   rw [←htk,List.getElem?_take,if_pos (by omega)]
  rw [←Array.getElem?_toList,←h1]
  simp only [rC,List.getElem?_map,List.getD_eq_getElem?_getD]
  rw [List.getElem?_eq_getElem (by omega)]
  rfl
theorem rnew_s (w:World) (x:ByteArray) (e:TypeId):∀ j u,([Value.string x]:List Value)[j]?=some u→(w.alloc (.cells #[.string x] e)).cell? ((⟨w.heap.size,0,none⟩:Addr).add j)=some u:=by
 intro j u hu
 have hadd:(⟨w.heap.size,0,none⟩:Addr).add j=⟨w.heap.size,j,none⟩:=by unfold Addr.add;split<;>simp_all
 rw [hadd,cell_of_row _ _ j _ _ (0,0) (heap_alloc_new w _)]
 match j,hu with
 | 0,hu=>simpa using hu
 | k+1,hu=>simp at hu
theorem rone_s (x:ByteArray):∀ u ∈ ([Value.string x]:List Value),u.oneCell'=true:=by
 intro u hu
 simp only [List.mem_singleton] at hu
 subst hu
 rfl
theorem Chg.below {R:Nat} {w a b:World} (h:Chg R w a) (k:Below w.heap.size a b):Chg R w b:=by
 refine ⟨k.os.trans h.os,k.tape.trans h.tape,k.output.trans h.output,Nat.le_trans h.size k.size,fun i hi hl=>(k.block i hl).trans (h.block i hi hl),⟨Nat.le_trans h.size k.size,fun p o x hx=>?_⟩⟩
 have hp:p<w.heap.size:=by
  apply Nat.lt_of_not_le
  intro hle
  simp [World.cell?,Array.getElem?_eq_none hle] at hx
 have h1:=h.keep.2 p o x hx
 have hb:=k.block p hp
 simp only [World.cell?] at h1 ⊢
 rw [hb];exact h1
theorem own_chg {R base:Nat} {w w':World} {v:Value} {n:Nat} {xs:List Value} (h:w.ownsRow base 9 1 v n xs) (c:Chg R w w') (hR:R<base):w'.ownsRow base 9 1 v n xs:=by
 refine ⟨h.1,?_⟩
 rcases h.2 with h0 | ⟨g,cap,cur,e1,e2,e3,e4⟩
 ·exact Or.inl h0
 ·exact Or.inr ⟨g,cap,cur,e1,e2,(c.block g (by omega) (Array.getElem?_eq_some_iff.1 e3).1).trans e3,e4⟩
theorem rsum_any (R:Nat) (T:List UInt8) (w:World) (h:RdR w R T 0) (hT:T.length≤4611686018427387904) :
  Calls Tryz.prog 85 #[.pointer (some ⟨R,0,none⟩)] w fun e w'=>Chg R w w'∧((∃ (ps:List (List UInt8)) (dn:List UInt8) (a:Option Addr) (c:Nat),rdS T=.inr (ps,dn)∧e=.returned (.tuple #[.slice a ps.length c,.string ⟨dn.toArray⟩])∧ps.length≤c∧c≤maxLen∧RStr w' a ps.length ps∧1≤ps.length∧ps.length≤8)∨(∃ k,rdS T=.inl k∧e=.panicked (gupR 1 (k:Int)))):=by
 obtain ⟨i0,hi,hz0,hz1,hz2⟩:=info_parts rs_info
 obtain ⟨B,hB⟩:∃ B,w.heap.size=B:=⟨_,rfl⟩
 have hRB:R<B:=by rw [←hB];exact h.lt
 obtain ⟨S,hS⟩:∃ S,rdS T=S:=⟨_,rfl⟩
 rw [hS]
 have HNu:=Lib.hid (rnumber_any R T 0 w h (Nat.zero_le _) hT)
 rw [List.drop_zero,Nat.zero_add] at HNu
 have HS:=Lib.hid hS;have HB:=Lib.hid hB;have HT:=Lib.hid hT
 clear h hS hB hT
 go_enter Tryz.func85,Tryz.ntmps85
 go_wp2_with fail
 refine HNu.out.mono ?_
 rintro e w1 ⟨hC1,(⟨hok,rfl,hr1⟩ | ⟨hok,rfl⟩)⟩
 rotate_left 1
 ·have Hf:=Lib.hid (show S=.inl (numK T) by rw [←HS.out];unfold rdS;rw [if_neg (by rw [hok];decide)])
  have HC:=Lib.hid hC1
  clear hC1 hok HNu HS
  go_wp2_with fail
  exact ⟨rfl,HC.out,Or.inr ⟨_,Hf.out,rfl⟩⟩
 have HS2:=Lib.hid (show rdF T (rdP T 7 [T.take (numK T)] (numK T))=S by rw [←HS.out];unfold rdS;rw [if_pos hok])
 have hnk:=numK_le T
 obtain ⟨a1,ha1⟩:∃ a1,numK T=a1:=⟨_,rfl⟩
 rw [ha1] at hr1 HS2 hnk
 obtain ⟨p1,hp1⟩:∃ p1,T.take a1=p1:=⟨_,rfl⟩
 rw [hp1] at HS2
 rw [ha1,hp1]
 have hsz:B≤w1.heap.size:=by rw [←HB.out];exact hC1.size
 have hEa:=Ext.alloc w1 (.cells #[.string ⟨p1.toArray⟩] 9)
 have how:(w1.alloc (.cells #[.string ⟨p1.toArray⟩] 9)).ownsRow B 9 1 (.slice (some ⟨w1.heap.size,0,none⟩) 1 1) 1 (rC [p1]) :=
  ⟨rfl,Or.inr ⟨w1.heap.size,1,#[.string ⟨p1.toArray⟩],rfl,hsz,heap_alloc_new w1 _,Nat.le_refl _,by decide,rfl,rfl⟩⟩
 have Hst:=Lib.hid (show (w1.alloc (.cells #[.string ⟨p1.toArray⟩] 9)).ownsRow B 9 1 (.slice (some ⟨w1.heap.size,0,none⟩) 1 1) 1 (rC [p1])∧RdR (w1.alloc (.cells #[.string ⟨p1.toArray⟩] 9)) R T a1∧Chg R w (w1.alloc (.cells #[.string ⟨p1.toArray⟩] 9)) from ⟨how,hr1.ext hEa,hC1.trans (Chg.of_ext hEa)⟩)
 have Hnk:=Lib.hid hnk;have Hsz:=Lib.hid hsz
 clear how hEa hr1 hC1 hok hnk ha1 hp1 HNu HS hsz
 go_wp2_with fail
 generalize w1.alloc (.cells #[.string ⟨p1.toArray⟩] 9)=V1 at *
 go_loopg [2] 7 (fun kk s2 wr=>∃ (acc:List (List UInt8)) (a c:Nat) (o:Option Addr),s2=.slice o acc.length c∧1≤acc.length∧acc.length≤8∧8-acc.length=kk∧a≤T.length∧rdF T (rdP T (8-acc.length) acc a)=S∧wr.ownsRow B 9 1 (.slice o acc.length c) acc.length (rC acc)∧RdR wr R T a∧Chg R w wr)
 case atStart=>exact ⟨[p1],a1,1,some ⟨w1.heap.size,0,none⟩,rfl,by simp,by simp,rfl,Hnk.out,HS2.out,Hst.out.1,Hst.out.2.1,Hst.out.2.2⟩
 case round =>
  clear Hst HS2 Hnk
  obtain ⟨acc,a,c,o,rfl,h1,h8,hkk,hal,hm,hown,hr,hC⟩:=hrel
  obtain ⟨wo,rfl⟩:∃ wo:World,wo=wr:=⟨_,rfl⟩
  have Hm:=Lib.hid hm;have Hown:=Lib.hid hown;have Hr:=Lib.hid hr;have HC:=Lib.hid hC;have Hkk:=Lib.hid hkk;have Hal:=Lib.hid hal;have H1:=Lib.hid h1;have H8:=Lib.hid h8
  have fin:∀ (wz:World) (Q:Prop),RdR wz R T a→Chg R w wz→wz.ownsRow B 9 1 (.slice o acc.length c) acc.length (rC acc)→rdE T acc a=S→True:=fun _ _ _ _ _ _=>trivial
  clear fin hm hown hr hC hkk hal h1
  by_cases hmore:acc.length<8∧T[a]?=some 44
  ·obtain ⟨hlt,h44⟩:=hmore
   have q1:(acc.length:Int)<8:=by omega
   have HTk:=Lib.hid (rtake_any R T a 44 44 wo Hr.out Hal.out HT.out rfl)
   rw [if_pos h44,show decide (T[a]?=some 44)=true by simp [h44]] at HTk
   have hlta:a<T.length:=(List.getElem?_eq_some_iff.1 h44).1
   have HNu:=Lib.hid (fun wx (hx:RdR wx R T (a+1))=>rnumber_any R T (a+1) wx hx (by omega) HT.out)
   obtain ⟨m,hm8⟩:∃ m,8-acc.length=m+1:=⟨8-acc.length-1,by omega⟩
   have Hm8:=Lib.hid hm8;have H44:=Lib.hid h44;have Hlta:=Lib.hid hlta;have Hlt:=Lib.hid hlt
   clear hlt h44 hm8 hlta h8
   go_wp2_with fail
   refine HTk.out.mono ?_
   rintro e w2 ⟨rfl,hr2,hC2⟩
   have HR2:=Lib.hid hr2;have HC2:=Lib.hid (HC.out.trans hC2);have Hown2:=Lib.hid (own_chg Hown.out hC2 hRB)
   clear hr2 hC2 HTk Hr HC Hown
   go_wp2_with fail
   refine (HNu.out w2 HR2.out).mono ?_
   rintro e w3 ⟨hC3,(⟨hok,rfl,hr3⟩ | ⟨hok,rfl⟩)⟩
   rotate_left 1
   ·have Hf:=Lib.hid (show S=.inl (a+1+numK (T.drop (a+1))) by rw [←Hm.out,Hm8.out,rdP_bad H44.out hok];rfl)
    have HC3:=Lib.hid (HC2.out.trans hC3)
    clear hC3 hok HNu HR2 HC2 Hown2
    go_wp2_with fail
    exact ⟨rfl,HC3.out,Or.inr ⟨_,Hf.out,rfl⟩⟩
   obtain ⟨x,hx⟩:∃ x,(T.drop (a+1)).take (numK (T.drop (a+1)))=x:=⟨_,rfl⟩
   obtain ⟨b,hb⟩:∃ b,a+1+numK (T.drop (a+1))=b:=⟨_,rfl⟩
   have hbl:b≤T.length:=by have h1:=numK_le (T.drop (a+1));have h2:=Hlta.out;rw [List.length_drop] at h1;omega
   have Hnext:=Lib.hid (show rdF T (rdP T m (acc++[x]) b)=S by rw [←Hm.out,Hm8.out,rdP_hit H44.out hok,hx,hb])
   rw [hb] at hr3
   rw [hx]
   have Hown3:=Lib.hid (own_chg Hown2.out hC3 hRB);have HR3:=Lib.hid hr3;have HC3:=Lib.hid (HC2.out.trans hC3)
   have hszB:B≤w3.heap.size:=by rw [←HB.out];exact HC3.out.size
   have Hbl:=Lib.hid hbl
   clear hC3 hr3 hok HNu HR2 HC2 Hown2 hx hb hbl Hm H44
   go_wp2_with (at_builtin;refine wpList_append_own _ rfl _ _ 114 rfl B 9 i0 (.string ⟨#[]⟩) 1 16 Tryz.underlying114 hi hz0 hz1 hz2 rfl (by decide) _ acc.length (rC acc) rfl (Hown3.out.alloc _) ⟨w3.heap.size,0,none⟩ 1 1 [.string ⟨x.toArray⟩] rfl rfl (rnew_s w3 ⟨x.toArray⟩ _) (rone_s ⟨x.toArray⟩) (by unfold maxLen;omega) (by omega) (Nat.le_trans hszB (Ext.alloc w3 _).size) ?_;intro v' w7 hown' hgrow' _)
   have hE3:=Ext.alloc w3 (.cells #[.string ⟨x.toArray⟩] 9)
   have hl7:w7.ownsRow B 9 1 v' (acc++[x]).length (rC (acc++[x])):=by rw [rC_snoc,List.length_append];exact hown'
   have hbelow:Below B w3 w7:=((Below.refl B w3).alloc hszB _).grown hgrow' (by simp;omega) (fun k hk=>(Hown3.out.lt k hk).1)
   have hr7:RdR w7 R T b:=⟨(hbelow.block R hRB).trans HR3.out.row⟩
   have hC7:Chg R w w7:=HC3.out.below (by rw [HB.out];exact hbelow)
   obtain ⟨o',c',e1,_,_,_⟩:=rstr_of_own hl7
   subst e1
   have Hfin:=Lib.hid (And.intro hl7 (And.intro hr7 hC7))
   have Hlen:=Lib.hid (show (acc++[x]).length=acc.length+1 by simp)
   clear hl7 hr7 hC7 hbelow hown' hgrow' hE3 HR3 HC3 Hown3 hszB
   go_wp2_with fail
   go_roundg (8-(acc.length+1))
   case measure=>have:=Hkk.out;have:=Hlt.out;omega
   case rel=>exact ⟨acc++[x],b,c',o',rfl,by rw [Hlen.out];omega,by have:=Hlt.out;rw [Hlen.out];omega,by rw [Hlen.out],Hbl.out,by
    have h9:8-(acc++[x]).length=m:=by have:=Hm8.out;rw [Hlen.out];omega
    rw [h9];exact Hnext.out,Hfin.out.1,Hfin.out.2.1,Hfin.out.2.2⟩
  ·have hE0:rdE T acc a=S:=by
    rw [←Hm.out,rdP_end (by
     by_cases h:acc.length<8
     ·exact Or.inr fun e=>hmore ⟨h,e⟩
     ·exact Or.inl (by omega))]
    rfl
   have HEe:=Lib.hid hE0
   have Hmore:=Lib.hid hmore
   clear hE0 hmore Hm
   have HT47:=Lib.hid (fun wx (hr:RdR wx R T a)=>rtake_any R T a 47 47 wx hr Hal.out HT.out rfl)
   by_cases h8':acc.length<8
   ·have q1:(acc.length:Int)<8:=by omega
    have h44:¬ T[a]?=some 44:=fun e=>Hmore.out ⟨h8',e⟩
    have HTk:=Lib.hid (rtake_any R T a 44 44 wo Hr.out Hal.out HT.out rfl)
    rw [if_neg h44,show decide (T[a]?=some 44)=false by simp [h44]] at HTk
    clear h44 h8' h8
    go_wp2_with fail
    refine HTk.out.mono ?_
    rintro e w4 ⟨rfl,hr4,hC4⟩
    have HR4:=Lib.hid hr4;have HC4:=Lib.hid (HC.out.trans hC4);have Hown4:=Lib.hid (own_chg Hown.out hC4 hRB)
    clear hr4 hC4 HTk Hr HC Hown
    go_wp2_with fail
    refine (HT47.out w4 HR4.out).mono ?_
    rintro e w5 ⟨rfl,hr5,hC5⟩
    have HC5:=Lib.hid (HC4.out.trans hC5);have Hown5:=Lib.hid (own_chg Hown4.out hC5 hRB)
    clear hC5 HC4 Hown4 HR4
    obtain ⟨ob,oc,e1,e2,e3,_⟩:=rstr_of_own Hown5.out
    injection e1 with e1 e1' e1''
    subst e1;subst e1''
    have He2:=Lib.hid e2;have He3:=Lib.hid e3
    clear e2 e3 e1'
    by_cases h47:T[a]?=some 47
    ·rw [if_pos h47] at hr5
     rw [show decide (T[a]?=some 47)=true by simp [h47]]
     have hlta:a<T.length:=(List.getElem?_eq_some_iff.1 h47).1
     have HPo:=Lib.hid (fun wx (hx:RdR wx R T (a+1))=>rpositive_any R T (a+1) wx hx (by omega) HT.out)
     obtain ⟨p,hp⟩:∃ p,posN (T.drop (a+1))=p:=⟨_,rfl⟩
     have hpl:a+1+p≤T.length:=by have h1:=posN_le (T.drop (a+1));rw [List.length_drop,hp] at h1;omega
     have HS3:=Lib.hid (show S=if p=0 then .inl (a+1) else if a+1+p<T.length then .inl (a+1+p) else .inr (acc,(T.drop (a+1)).take p) by rw [←HEe.out];unfold rdE;rw [if_pos h47,hp])
     rw [hp] at HPo
     have HR5:=Lib.hid hr5;have Hpl:=Lib.hid hpl
     clear hr5 hp hpl h47 hlta
     go_wp2_with fail
     refine (HPo.out w5 HR5.out).mono ?_
     rintro e w6 ⟨hC6,(⟨hp0,rfl,hr6⟩ | ⟨hp0,rfl⟩)⟩
     ·have HC6:=Lib.hid (HC5.out.trans hC6);have Hown6:=Lib.hid (own_chg Hown5.out hC6 hRB)
      obtain ⟨z,hz⟩:∃ z,a+1+p=z:=⟨_,rfl⟩
      rw [hz] at hr6 Hpl HS3
      rw [if_neg hp0] at HS3
      have y0:=hr6.x0;have y1:=hr6.x1
      have HR6:=Lib.hid hr6
      clear hC6 hr6 hz hp0 HC5 Hown5 HPo HR5
      obtain ⟨dn,hdn⟩:∃ dn,(T.drop (a+1)).take p=dn:=⟨_,rfl⟩
      rw [hdn] at HS3 ⊢
      clear hdn
      by_cases hzl:z<T.length
      ·have q2:decide ((z:Int)<(T.length:Int))=true:=dec_t (by omega)
       have q3:(z:Int)<(T.length:Int):=by omega
       rw [if_pos hzl] at HS3
       clear hzl
       go_wp2_with fail
       go_region
       have hE7:Ext w6 w6.drew:=Below.drew (Ext.refl _)
       go_wp2_with fail
       refine (rgiveUp_any R T z w6.drew (HR6.out.ext hE7)).mono ?_
       rintro e w8 ⟨rfl,rfl⟩
       go_wp2_with fail
       exact ⟨rfl,HC6.out.trans (Chg.of_ext hE7),Or.inr ⟨z,HS3.out,rfl⟩⟩
      ·have q2:decide ((z:Int)<(T.length:Int))=false:=dec_f (by omega)
       have q3:¬ (z:Int)<(T.length:Int):=by omega
       rw [if_neg hzl] at HS3
       clear hzl
       go_wp2_with fail
       go_region
       have hE7:Ext w6 w6.drew:=Below.drew (Ext.refl _)
       go_wp2_with fail
       go_ret2
       obtain ⟨_,_,e1,_,_,e4⟩:=rstr_of_own Hown6.out
       injection e1 with e1 e1' e1''
       subst e1;subst e1''
       exact ⟨HC6.out.trans (Chg.of_ext hE7),Or.inl ⟨acc,dn,_,_,HS3.out,rfl,He2.out,He3.out,e4.ext hE7,H1.out,H8.out⟩⟩
     ·rw [if_pos hp0] at HS3
      have HC6:=Lib.hid (HC5.out.trans hC6)
      clear hC6 hp0 HC5 Hown5 HPo HR5
      go_wp2_with fail
      exact ⟨rfl,HC6.out,Or.inr ⟨a+1,HS3.out,by rw [Int.natCast_add];rfl⟩⟩
    ·rw [if_neg h47] at hr5
     rw [show decide (T[a]?=some 47)=false by simp [h47]]
     have HS3:=Lib.hid (show S=if a<T.length then .inl a else .inr (acc,[48]) by rw [←HEe.out];unfold rdE;rw [if_neg h47])
     have y0:=hr5.x0;have y1:=hr5.x1
     have HR6:=Lib.hid hr5
     clear hr5 h47
     by_cases hzl:a<T.length
     ·have q2:decide ((a:Int)<(T.length:Int))=true:=dec_t (by omega)
      have q3:(a:Int)<(T.length:Int):=by omega
      rw [if_pos hzl] at HS3
      clear hzl
      go_wp2_with fail
      go_region
      have hE7:Ext w5 w5.drew:=Below.drew (Ext.refl _)
      go_wp2_with fail
      refine (rgiveUp_any R T a w5.drew (HR6.out.ext hE7)).mono ?_
      rintro e w8 ⟨rfl,rfl⟩
      go_wp2_with fail
      exact ⟨rfl,HC5.out.trans (Chg.of_ext hE7),Or.inr ⟨a,HS3.out,rfl⟩⟩
     ·have q2:decide ((a:Int)<(T.length:Int))=false:=dec_f (by omega)
      have q3:¬ (a:Int)<(T.length:Int):=by omega
      rw [if_neg hzl] at HS3
      clear hzl
      go_wp2_with fail
      go_region
      have hE7:Ext w5 w5.drew:=Below.drew (Ext.refl _)
      go_wp2_with fail
      go_ret2
      obtain ⟨_,_,e1,_,_,e4⟩:=rstr_of_own Hown5.out
      injection e1 with e1 e1' e1''
      subst e1;subst e1''
      exact ⟨HC5.out.trans (Chg.of_ext hE7),Or.inl ⟨acc,[48],_,_,HS3.out,rfl,He2.out,He3.out,e4.ext hE7,H1.out,H8.out⟩⟩
   ·have q1:¬ (acc.length:Int)<8:=by omega
    obtain ⟨w4,rfl⟩:∃ w4:World,w4=wo:=⟨_,rfl⟩
    have HR4:=Lib.hid Hr.out;have HC4:=Lib.hid HC.out;have Hown4:=Lib.hid Hown.out
    clear Hr HC Hown h8' h8
    go_wp2_with fail
    refine (HT47.out w4 HR4.out).mono ?_
    rintro e w5 ⟨rfl,hr5,hC5⟩
    have HC5:=Lib.hid (HC4.out.trans hC5);have Hown5:=Lib.hid (own_chg Hown4.out hC5 hRB)
    clear hC5 HC4 Hown4 HR4
    obtain ⟨ob,oc,e1,e2,e3,_⟩:=rstr_of_own Hown5.out
    injection e1 with e1 e1' e1''
    subst e1;subst e1''
    have He2:=Lib.hid e2;have He3:=Lib.hid e3
    clear e2 e3 e1'
    by_cases h47:T[a]?=some 47
    ·rw [if_pos h47] at hr5
     rw [show decide (T[a]?=some 47)=true by simp [h47]]
     have hlta:a<T.length:=(List.getElem?_eq_some_iff.1 h47).1
     have HPo:=Lib.hid (fun wx (hx:RdR wx R T (a+1))=>rpositive_any R T (a+1) wx hx (by omega) HT.out)
     obtain ⟨p,hp⟩:∃ p,posN (T.drop (a+1))=p:=⟨_,rfl⟩
     have hpl:a+1+p≤T.length:=by have h1:=posN_le (T.drop (a+1));rw [List.length_drop,hp] at h1;omega
     have HS3:=Lib.hid (show S=if p=0 then .inl (a+1) else if a+1+p<T.length then .inl (a+1+p) else .inr (acc,(T.drop (a+1)).take p) by rw [←HEe.out];unfold rdE;rw [if_pos h47,hp])
     rw [hp] at HPo
     have HR5:=Lib.hid hr5;have Hpl:=Lib.hid hpl
     clear hr5 hp hpl h47 hlta
     go_wp2_with fail
     refine (HPo.out w5 HR5.out).mono ?_
     rintro e w6 ⟨hC6,(⟨hp0,rfl,hr6⟩ | ⟨hp0,rfl⟩)⟩
     ·have HC6:=Lib.hid (HC5.out.trans hC6);have Hown6:=Lib.hid (own_chg Hown5.out hC6 hRB)
      obtain ⟨z,hz⟩:∃ z,a+1+p=z:=⟨_,rfl⟩
      rw [hz] at hr6 Hpl HS3
      rw [if_neg hp0] at HS3
      have y0:=hr6.x0;have y1:=hr6.x1
      have HR6:=Lib.hid hr6
      clear hC6 hr6 hz hp0 HC5 Hown5 HPo HR5
      obtain ⟨dn,hdn⟩:∃ dn,(T.drop (a+1)).take p=dn:=⟨_,rfl⟩
      rw [hdn] at HS3 ⊢
      clear hdn
      by_cases hzl:z<T.length
      ·have q2:decide ((z:Int)<(T.length:Int))=true:=dec_t (by omega)
       have q3:(z:Int)<(T.length:Int):=by omega
       rw [if_pos hzl] at HS3
       clear hzl
       go_wp2_with fail
       go_region
       have hE7:Ext w6 w6.drew:=Below.drew (Ext.refl _)
       go_wp2_with fail
       refine (rgiveUp_any R T z w6.drew (HR6.out.ext hE7)).mono ?_
       rintro e w8 ⟨rfl,rfl⟩
       go_wp2_with fail
       exact ⟨rfl,HC6.out.trans (Chg.of_ext hE7),Or.inr ⟨z,HS3.out,rfl⟩⟩
      ·have q2:decide ((z:Int)<(T.length:Int))=false:=dec_f (by omega)
       have q3:¬ (z:Int)<(T.length:Int):=by omega
       rw [if_neg hzl] at HS3
       clear hzl
       go_wp2_with fail
       go_region
       have hE7:Ext w6 w6.drew:=Below.drew (Ext.refl _)
       go_wp2_with fail
       go_ret2
       obtain ⟨_,_,e1,_,_,e4⟩:=rstr_of_own Hown6.out
       injection e1 with e1 e1' e1''
       subst e1;subst e1''
       exact ⟨HC6.out.trans (Chg.of_ext hE7),Or.inl ⟨acc,dn,_,_,HS3.out,rfl,He2.out,He3.out,e4.ext hE7,H1.out,H8.out⟩⟩
     ·rw [if_pos hp0] at HS3
      have HC6:=Lib.hid (HC5.out.trans hC6)
      clear hC6 hp0 HC5 Hown5 HPo HR5
      go_wp2_with fail
      exact ⟨rfl,HC6.out,Or.inr ⟨a+1,HS3.out,by rw [Int.natCast_add];rfl⟩⟩
    ·rw [if_neg h47] at hr5
     rw [show decide (T[a]?=some 47)=false by simp [h47]]
     have HS3:=Lib.hid (show S=if a<T.length then .inl a else .inr (acc,[48]) by rw [←HEe.out];unfold rdE;rw [if_neg h47])
     have y0:=hr5.x0;have y1:=hr5.x1
     have HR6:=Lib.hid hr5
     clear hr5 h47
     by_cases hzl:a<T.length
     ·have q2:decide ((a:Int)<(T.length:Int))=true:=dec_t (by omega)
      have q3:(a:Int)<(T.length:Int):=by omega
      rw [if_pos hzl] at HS3
      clear hzl
      go_wp2_with fail
      go_region
      have hE7:Ext w5 w5.drew:=Below.drew (Ext.refl _)
      go_wp2_with fail
      refine (rgiveUp_any R T a w5.drew (HR6.out.ext hE7)).mono ?_
      rintro e w8 ⟨rfl,rfl⟩
      go_wp2_with fail
      exact ⟨rfl,HC5.out.trans (Chg.of_ext hE7),Or.inr ⟨a,HS3.out,rfl⟩⟩
     ·have q2:decide ((a:Int)<(T.length:Int))=false:=dec_f (by omega)
      have q3:¬ (a:Int)<(T.length:Int):=by omega
      rw [if_neg hzl] at HS3
      clear hzl
      go_wp2_with fail
      go_region
      have hE7:Ext w5 w5.drew:=Below.drew (Ext.refl _)
      go_wp2_with fail
      go_ret2
      obtain ⟨_,_,e1,_,_,e4⟩:=rstr_of_own Hown5.out
      injection e1 with e1 e1' e1''
      subst e1;subst e1''
      exact ⟨HC5.out.trans (Chg.of_ext hE7),Or.inl ⟨acc,[48],_,_,HS3.out,rfl,He2.out,He3.out,e4.ext hE7,H1.out,H8.out⟩⟩
def lenN (f:Nat→Int):Nat→Nat
 | 0=>0
 | n+1=>if 0<n∧f n=0 then lenN f n else n+1
theorem lenN_le (f:Nat→Int):∀ n,lenN f n≤n
 | 0=>Nat.le_refl _
 | n+1=>by
  simp only [lenN]
  split
  ·have:=lenN_le f n;omega
  ·exact Nat.le_refl _
theorem lenN_pos (f:Nat→Int):∀ n,0<n→0<lenN f n
 | n+1,_=>by
  simp only [lenN]
  split
  ·rename_i h;exact lenN_pos f n h.1
  ·omega
theorem rowLength_any (g m:Nat) (t:TypeId) (f:Nat→Int) (w:World) (h:Nums w g m t f) (hm:8≤m) :
  Calls Tryz.prog 57 #[.pointer (some ⟨g,0,none⟩)] w fun e w'=>e=.returned (.int .i64 (lenN f 8:Nat))∧Ext w w':=by
 have Hh:=Lib.hid h;have Hm:=Lib.hid hm
 obtain ⟨L,hL⟩:∃ L,lenN f 8=L:=⟨_,rfl⟩
 rw [hL]
 have HL:=Lib.hid hL
 clear h hm hL
 go_enter Tryz.func57,Tryz.ntmps57
 go_wp2_with fail
 go_loopg [3] 8 (fun kk s3 wr=>∃ k:Nat,s3=.int .i64 (k:Int)∧k≤8∧0<k∧k=kk∧Ext w wr∧lenN f k=L)
 case atStart=>exact ⟨8,rfl,by omega,by omega,rfl,Ext.refl _,HL.out⟩
 case round =>
  obtain ⟨k,rfl,hk,hk0,hkk,hx,hz⟩:=hrel
  have Hz:=Lib.hid hz;have Hkk:=Lib.hid hkk
  clear hz hkk
  by_cases hk1:k=1
  ·subst hk1
   have HkL:Hid (1=L):=Lib.hid (by rw [←Hz.out];simp [lenN])
   go_wp2_with fail
   go_ret
   exact ⟨congrArg (fun b:Nat=>Ending.returned (Value.int .i64 (b:Int))) HkL.out,hx⟩
  obtain ⟨j,rfl⟩:∃ j,k=j+1:=⟨k-1,by omega⟩
  have q1:(1:Int)<((j+1:Nat):Int):=by omega
  have wj:IntKind.i64.wrap (((j+1:Nat):Int)-1)=(j:Int):=by rw [IntKind.wrap_i64];omega
  have q2:(0:Int)≤(j:Int):=by omega
  have q3:(j:Int)<8:=by omega
  obtain ⟨s,a,n,c,l1,l2,_,_,hI⟩:=(Hh.out.ext hx).get j (by have:=Hm.out;omega)
  have Hc:=Lib.hid hI.cmp3
  have Hs:=Lib.hid (Sign_any s (.slice a n c))
  have Hx:=Lib.hid hx;have Hj:=Lib.hid (show 0<j∧j+1≤8 by omega)
  clear hI hx hk hk0 hk1
  obtain ⟨wo,rfl⟩:∃ wo:World,wo=wr:=⟨_,rfl⟩
  go_wp2_with fail
  refine (Hs.out wo).mono ?_
  rintro e w2 ⟨rfl,hx2⟩
  have Hx2:=Lib.hid (Hx.out.trans hx2)
  clear hx2 l1 l2 Hs
  rw [Hc.out]
  by_cases hz:f j=0
  ·have b1:(cmp3 (f j) 0 == 0)=true:=by rw [hz];rfl
   have Hn:Hid (lenN f j=L):=Lib.hid (by rw [←Hz.out];simp only [lenN];rw [if_pos ⟨Hj.out.1,hz⟩])
   clear hz Hc
   go_wp2_with fail
   go_roundg j
   case measure=>have:=Hkk.out;omega
   case rel=>exact ⟨j,rfl,by have:=Hj.out;omega,Hj.out.1,rfl,Hx2.out,Hn.out⟩
  ·have b1:(cmp3 (f j) 0 == 0)=false:=by
    have:cmp3 (f j) 0≠0:=fun e=>hz (cmp3_zero.1 e)
    simp [this]
   have HkL:Hid (j+1=L):=Lib.hid (by rw [←Hz.out];simp only [lenN];rw [if_neg (fun h=>hz h.2)])
   clear hz Hc
   go_wp2_with fail
   go_ret
   exact ⟨congrArg (fun b:Nat=>Ending.returned (Value.int .i64 (b:Int))) HkL.out,Hx2.out⟩
def byC (l:List UInt8):List Value:=l.map fun b=>Value.int .u8 (b.toNat:Int)
theorem byC_length (l:List UInt8):(byC l).length=l.length:=by simp [byC]
theorem byC_append (l m:List UInt8):byC (l++m)=byC l++byC m:=by simp [byC]
theorem byC_one (l:List UInt8):∀ u ∈ byC l,u.oneCell'=true:=by
 intro u hu
 simp only [byC,List.mem_map] at hu
 obtain ⟨b,_,rfl⟩:=hu
 rfl
theorem byC_u8 (l:List UInt8):∀ u ∈ byC l,∃ x:Int,u=.int .u8 x:=by
 intro u hu
 simp only [byC,List.mem_map] at hu
 obtain ⟨b,_,rfl⟩:=hu
 exact ⟨_,rfl⟩
theorem strCells_byC (l:List UInt8):Lib.strCells ⟨l.toArray⟩=byC l:=by simp [Lib.strCells,byC]
def Own (w:World) (e:TypeId) (v:Value) (l:List UInt8):Prop :=
 (v=.slice none 0 0∧l=[]) ∨
 ∃ g cap cur,v=.slice (some ⟨g,0,none⟩) l.length cap∧w.heap[g]?=some (.cells cur e (0,0))∧l.length≤cap∧cap≤maxLen∧cur.size=cap∧cur.toList.take l.length=byC l∧∀ u ∈ cur.toList,∃ x:Int,u=.int .u8 x
theorem Own.nil (w:World) (e:TypeId):Own w e (.slice none 0 0) []:=Or.inl ⟨rfl,rfl⟩
structure Apd (w w':World) (v v':Value):Prop where
 grown:w.grownBy w' v.ownBlock
 lies:v'.ownBlock=v.ownBlock∨∃ g,v'.ownBlock=some g∧w.heap.size≤g
theorem Apd.of_ext {w w':World} (h:Ext w w') (v:Value):Apd w w' v v :=
 ⟨⟨h.os,h.tape,h.output,h.size,fun k hk _=>h.block k hk⟩,Or.inl rfl⟩
theorem Apd.trans {a b c:World} {u v x:Value} (h:Apd a b u v) (k:Apd b c v x):Apd a c u x:=by
 refine ⟨⟨k.grown.os.trans h.grown.os,k.grown.tape.trans h.grown.tape,k.grown.output.trans h.grown.output,Nat.le_trans h.grown.size k.grown.size,fun i hi hne=>?_⟩,?_⟩
 ·rw [k.grown.block i (Nat.lt_of_lt_of_le hi h.grown.size) ?_,h.grown.block i hi hne]
  rcases h.lies with e | ⟨g,e,hg⟩
  ·rw [e];exact hne
  ·rw [e];intro h2;injection h2 with h2;omega
 ·rcases k.lies with e | ⟨g,e,hg⟩
  ·rw [e];exact h.lies
  ·exact Or.inr ⟨g,e,Nat.le_trans h.grown.size hg⟩
theorem Apd.ext {w w':World} {v':Value} (h:Apd w w' (.slice none 0 0) v'):Ext w w' :=
 ⟨h.grown.os,h.grown.tape,h.grown.output,h.grown.size,fun k hk=>h.grown.block k hk (by simp [Value.ownBlock])⟩
theorem Own.ext {w w':World} {e:TypeId} {v:Value} {l:List UInt8} (h:Own w e v l) (k:Ext w w'):Own w' e v l:=by
 rcases h with h | ⟨g,cap,cur,rfl,hb,rest⟩
 ·exact Or.inl h
 ·exact Or.inr ⟨g,cap,cur,rfl,(k.block g (Array.getElem?_eq_some_iff.1 hb).1).trans hb,rest⟩
theorem Own.apart {w:World} {e:TypeId} {v:Value} {l:List UInt8} (h:Own w e v l) {b o:Nat} {u:Value} (hc:w.cell? ⟨b,o,none⟩=some u) (hu:∀ x,u≠.int .u8 x):some b≠v.ownBlock:=by
 intro hb
 rcases h with ⟨rfl,_⟩ | ⟨g,cap,cur,rfl,hg,_,_,_,_,hall⟩
 ·simp [Value.ownBlock] at hb
 ·simp only [Value.ownBlock,Option.some.injEq] at hb
  subst hb
  rw [cell_of_row w b o cur e (0,0) hg] at hc
  obtain ⟨x,hx⟩:=hall u (List.mem_of_getElem? (by rw [Array.getElem?_toList];exact hc))
  exact hu x hx
theorem Apd.cell {w w':World} {e:TypeId} {v v':Value} {l:List UInt8} (k:Apd w w' v v') (h:Own w e v l) {b o:Nat} {u:Value} (hc:w.cell? ⟨b,o,none⟩=some u) (hu:∀ x,u≠.int .u8 x):w'.cell? ⟨b,o,none⟩=some u :=
 k.grown.cell hc (h.apart hc hu)
theorem Seg.apd {w w':World} {e:TypeId} {v v':Value} {l:List UInt8} {ao:Option Addr} {la:List Nat} (h:Seg w ao la) (ho:Own w e v l) (k:Apd w w' v v'):Seg w' ao la:=by
 rcases h with h | ⟨b,o,rfl,hb,hc⟩
 ·exact Or.inl h
 ·exact Or.inr ⟨b,o,rfl,Nat.lt_of_lt_of_le hb k.grown.size,fun t ht=>k.cell ho (hc t ht) (fun x hx=>by cases hx)⟩
theorem tab_ext {P:Program} {w w':World} {name:String} {k:IntKind} {zs:List Int} (h:Lib.TabIs P w name k zs) (he:Ext w w'):Lib.TabIs P w' name k zs:=by
 unfold Lib.TabIs World.var? at *
 cases hg:P.globalNamed name with
 | none=>simp [hg] at h
 | some g =>
  simp only [hg,Option.bind_some] at h ⊢
  have hlt:g<w.heap.size:=by
   rcases Nat.lt_or_ge g w.heap.size with h' | h'
   ·exact h'
   ·rw [Array.getElem?_eq_none h'] at h;simp at h
  rw [he.block g hlt]
  exact h
theorem tab_apd {P:Program} {w w':World} {name:String} {zs:List Int} {e:TypeId} {v v':Value} {l:List UInt8} (h:Lib.TabIs P w name .u64 zs) (hz:zs≠[]) (ho:Own w e v l) (k:Apd w w' v v'):Lib.TabIs P w' name .u64 zs:=by
 unfold Lib.TabIs World.var? at *
 cases hg:P.globalNamed name with
 | none=>simp [hg] at h
 | some g =>
  simp only [hg,Option.bind_some] at h ⊢
  cases hw:w.heap[g]? with
  | none=>rw [hw] at h;simp at h
  | some ob =>
   have hlt:g<w.heap.size:=(Array.getElem?_eq_some_iff.1 hw).1
   cases ob with
   | cells cs t fz =>
    rw [hw] at h
    simp only [Option.some.injEq] at h
    have hne:some g≠v.ownBlock:=by
     cases zs with
     | nil=>exact absurd rfl hz
     | cons z r =>
      have hc:w.cell? ⟨g,0,none⟩=some (.int .u64 z):=by
       rw [cell_of_row w g 0 cs t fz hw,h];simp
      exact ho.apart hc (fun x hx=>by cases hx)
    rw [k.grown.block g hlt hne,hw]
    simp [h]
   | _=>rw [hw] at h;simp at h
theorem zero_u8 (n:Nat):∀ u ∈ (Builtin.zeroCells (Value.int .u8 0).cells n).toList,∃ x:Int,u=.int .u8 x:=by
 intro u hu
 simp [Builtin.zeroCells,Value.cells,Nat.mod_one] at hu
 exact ⟨0,hu.2.symm⟩
theorem own_new (w:World) (e:TypeId) (l m:List UInt8) (old:Nat) (v:Value) (hb:l.length+m.length≤140737488355328) :
  Own (w.drew.alloc (.cells ((byC l).toArray++(byC m).toArray++Builtin.zeroCells (Value.int .u8 0).cells (grownCap w (l.length+m.length) old e-(l.length+m.length))) e)) e
    (.slice (some ⟨w.heap.size,0,none⟩) (l.length+m.length) (grownCap w (l.length+m.length) old e)) (l++m) ∧
   Apd w (w.drew.alloc (.cells ((byC l).toArray++(byC m).toArray++Builtin.zeroCells (Value.int .u8 0).cells (grownCap w (l.length+m.length) old e-(l.length+m.length))) e)) v
    (.slice (some ⟨w.heap.size,0,none⟩) (l.length+m.length) (grownCap w (l.length+m.length) old e)):=by
 have hge:=grownCap_ge w (l.length+m.length) old e
 have hcm:grownCap w (l.length+m.length) old e≤maxLen:=grownCap_le_maxLen w _ old e (by unfold maxLen;omega)
 refine ⟨Or.inr ⟨w.heap.size,_,_,by rw [List.length_append],heap_alloc_new w.drew _,by rw [List.length_append];exact hge,hcm,?_,?_,?_⟩,⟨⟨rfl,rfl,rfl,by simp,fun k hk _=>Below.heap_alloc w.drew _ k hk⟩,Or.inr ⟨_,rfl,Nat.le_refl _⟩⟩⟩
 ·have hz1:(Value.int IntKind.u8 0).cells.size=1:=rfl
  simp only [Array.size_append,List.size_toArray,size_zeroCells,hz1,byC_length]
  omega
 ·simp only [Array.toList_append]
  rw [byC_append,←List.length_append,←byC_length (l++m),byC_append]
  exact List.take_left
 ·intro u hu
  simp only [Array.toList_append,List.mem_append] at hu
  rcases hu with (hu | hu) | hu
  ·exact byC_u8 l u hu
  ·exact byC_u8 m u hu
  ·exact zero_u8 _ u hu
theorem own_room (w:World) (e:TypeId) (l m:List UInt8) (g cap:Nat) (cur:Array Value) (hg:w.heap[g]?=some (.cells cur e (0,0))) (hcm:cap≤maxLen) (hcs:cur.size=cap) (ht:cur.toList.take l.length=byC l) (hall:∀ u ∈ cur.toList,∃ x:Int,u=.int .u8 x) (hroom:l.length+m.length≤cap) :
  Own (w.setRow g (cur.toList.take l.length++byC m++cur.toList.drop (l.length+m.length)).toArray) e (.slice (some ⟨g,0,none⟩) (l.length+m.length) cap) (l++m) ∧
   Apd w (w.setRow g (cur.toList.take l.length++byC m++cur.toList.drop (l.length+m.length)).toArray) (.slice (some ⟨g,0,none⟩) l.length cap) (.slice (some ⟨g,0,none⟩) (l.length+m.length) cap):=by
 refine ⟨Or.inr ⟨g,cap,_,by rw [List.length_append],setRow_heap w g cur _ e _ hg,by rw [List.length_append];exact hroom,hcm,?_,?_,?_⟩,⟨⟨rfl,rfl,rfl,by simp,fun k _ hk=>setRow_other w g k _ (fun h=>hk (by simp [Value.ownBlock,h]))⟩,Or.inl rfl⟩⟩
 ·simp only [List.size_toArray,List.length_append,List.length_take,List.length_drop,Array.length_toList,byC_length]
  omega
 ·rw [ht,byC_append,←byC_length (l++m),byC_append]
  exact List.take_left
 ·intro u hu
  simp only [List.mem_append] at hu
  rcases hu with (hu | hu) | hu
  ·exact hall u (List.mem_of_mem_take hu)
  ·exact byC_u8 m u hu
  ·exact hall u (List.mem_of_mem_drop hu)
section
variable {P:Program} (w:World)
theorem Own.holds {e:TypeId} {g:Nat} {l:List UInt8} {cur:Array Value} (hg:w.heap[g]?=some (.cells cur e (0,0))) (ht:cur.toList.take l.length=byC l):∀ j u,(byC l)[j]?=some u→w.cell? ((⟨g,0,none⟩:Addr).add j)=some u:=by
 intro j u hu
 have hadd:(⟨g,0,none⟩:Addr).add j=⟨g,j,none⟩:=by unfold Addr.add;split<;>simp_all
 rw [hadd,cell_of_row w g j cur e (0,0) hg]
 rw [←ht,List.getElem?_take] at hu
 split at hu
 ·simpa using hu
 ·cases hu
theorem run_append_bytes (t ty e:TypeId) (i:TypeInfo) (ht:P.underlying t=some (.slice e)) (hi:P.info? e=some i) (hz:i.zero=some (.int .u8 0)) (hsize:i.size=1) (hby:i.bytes=1)
  (v:Value) (l:List UInt8) (hown:Own w e v l) (a:Addr) (m c:Nat) (news:List UInt8) (hm:news.length=m) (hm0:0<m) (hnews:∀ j u,(byC news)[j]?=some u→w.cell? (a.add j)=some u) (hb:l.length+news.length≤140737488355328) :
  ∃ v' w',(Builtin.append_ #[t,t] ty #[v,.slice (some a) m c]).run P w=.ok v' w'∧Own w' e v' (l++news)∧Apd w w' v v':=by
 subst hm
 have hl:(byC news).length=news.length*i.size:=by rw [byC_length,hsize,Nat.mul_one]
 rcases hown with ⟨rfl,rfl⟩ | ⟨g,cap,cur,rfl,hg,hlc,hcm,hcs,htk,hall⟩
 ·have hr:=run_append_nil (P:=P) w t ty e i (.int .u8 0) ht hi hz a news.length c (byC news) hl hnews hm0 (by simp at hb;omega) (by rw [hby];simp at hb;omega)
  have hn:=own_new w e [] news 0 (.slice none 0 0) hb
  simp only [List.length_nil,Nat.zero_add,List.nil_append,byC,List.map_nil,Array.empty_append] at hn hr ⊢
  exact ⟨_,_,hr,hn.1,hn.2⟩
 ·by_cases hroom:l.length+news.length≤cap
  ·have hr:=run_append_room (P:=P) w t ty e i ht hi g l.length cap cur hg a news.length c (byC news) hl hnews (byC_one news) hroom (by rw [hsize,byC_length,hcs,Nat.mul_one];exact hroom)
   rw [hsize,Nat.mul_one,byC_length] at hr
   have hn:=own_room w e l news g cap cur hg hcm hcs htk hall hroom
   exact ⟨_,_,hr,hn.1,hn.2⟩
  ·have hr:=run_append_grow (P:=P) w t ty e i (.int .u8 0) ht hi hz ⟨g,0,none⟩ l.length cap (byC l) (by rw [byC_length,hsize,Nat.mul_one]) (Own.holds w hg htk) a news.length c (byC news) hl hnews (by omega) (by omega) (by rw [hby];exact growslice_fits (by omega) (by omega))
   have hn:=own_new w e l news cap (.slice (some ⟨g,0,none⟩) l.length cap) hb
   exact ⟨_,_,hr,hn.1,hn.2⟩
theorem run_append_text (t u ty e:TypeId) (i:TypeInfo) (ht:P.underlying t=some (.slice e)) (hu:P.underlying u=some .string) (hi:P.info? e=some i) (hz:i.zero=some (.int .u8 0)) (hsize:i.size=1) (hby:i.bytes=1)
  (v:Value) (l:List UInt8) (hown:Own w e v l) (news:List UInt8) (hm0:0<news.length) (hb:l.length+news.length≤140737488355328) :
  ∃ v' w',(Builtin.append_ #[t,u] ty #[v,.string ⟨news.toArray⟩]).run P w=.ok v' w'∧Own w' e v' (l++news)∧Apd w w' v v':=by
 have hs:(⟨news.toArray⟩:ByteArray).size=news.length:=by simp [ByteArray.size]
 have hsc:=strCells_byC news
 rcases hown with ⟨rfl,rfl⟩ | ⟨g,cap,cur,rfl,hg,hlc,hcm,hcs,htk,hall⟩
 ·have hr:=run_append_nil_string (P:=P) w t u ty e i (.int .u8 0) ht hu hi hz ⟨news.toArray⟩ (by rw [hs];exact hm0) (by rw [hs];simp at hb;omega) (by rw [hs,hby];simp at hb;omega)
  have hn:=own_new w e [] news 0 (.slice none 0 0) hb
  have e1:((⟨news.toArray⟩:ByteArray).data.map fun b=>Value.int .u8 b.toNat)=(byC news).toArray:=by
   apply Array.ext'
   simp [byC]
  rw [hs,e1] at hr
  simp only [List.length_nil,Nat.zero_add,List.nil_append,byC,List.map_nil,Array.empty_append] at hn hr ⊢
  exact ⟨_,_,hr,hn.1,hn.2⟩
 ·by_cases hroom:l.length+news.length≤cap
  ·have hr:=Lib.run_append_room_string (P:=P) w t u ty e i ht hu hi hsize g l.length cap cur hg ⟨news.toArray⟩ (by rw [hs];exact hroom) (by rw [hs,hcs];exact hroom)
   rw [hs,hsc] at hr
   have hn:=own_room w e l news g cap cur hg hcm hcs htk hall hroom
   exact ⟨_,_,hr,hn.1,hn.2⟩
  ·have hr:=Lib.run_append_grow_string (P:=P) w t u ty e i (.int .u8 0) ht hu hi hz ⟨g,0,none⟩ l.length cap (byC l) (by rw [byC_length,hsize,Nat.mul_one]) (Own.holds w hg htk) ⟨news.toArray⟩ (by rw [hs];omega) (by rw [hs];omega) (by rw [hs,hby];exact growslice_fits (by omega) (by omega))
   rw [hs,hsc] at hr
   have hn:=own_new w e l news cap (.slice (some ⟨g,0,none⟩) l.length cap) hb
   exact ⟨_,_,hr,hn.1,hn.2⟩
theorem wpList_append_bytes {ops:Array Oper} {rest:List Oper} {o:Oper} {a:Act} {Q:Exit→Act→World→Prop} (hgd:o.guard=none) (s x:Operand) (t:TypeId)
  (ho:o.op=.call { callee:=.builtin .append,args:=#[s,x],argTypes:=#[t,t] })
  (e:TypeId) (i:TypeInfo) (ht:P.underlying t=some (.slice e)) (hi:P.info? e=some i) (hz:i.zero=some (.int .u8 0)) (hsize:i.size=1) (hby:i.bytes=1)
  (v:Value) (l:List UInt8) (hs:a.eval s=v) (hown:Own w e v l) (ad:Addr) (m c:Nat) (news:List UInt8) (hx:a.eval x=.slice (some ad) m c) (hm:news.length=m) (hm0:0<m) (hnews:∀ j u,(byC news)[j]?=some u→w.cell? (ad.add j)=some u) (hb:l.length+news.length≤140737488355328)
  (h:∀ v' w',Own w' e v' (l++news)→Apd w w' v v'→wpList P ops Q rest (a.put o.dst v') w'):wpList P ops Q (o :: rest) a w:=by
 refine wpList_plain hgd fun _ hK=>?_
 obtain ⟨v',w',hr,h2,h3⟩:=run_append_bytes (P:=P) w t o.type e i ht hi hz hsize hby v l hown ad m c news hm hm0 hnews hb
 unfold Oper.wp execOp
 simp only [ho,resolve,invoke,builtin,Sem.run_bind,Sem.run_pure,Result.andThen_ok,List.map_toArray,List.map_cons,List.map_nil,hs,hx,hr]
 exact hK _ _ (h v' w' h2 h3)
theorem wpList_append_text {ops:Array Oper} {rest:List Oper} {o:Oper} {a:Act} {Q:Exit→Act→World→Prop} (hgd:o.guard=none) (s x:Operand) (t u:TypeId)
  (ho:o.op=.call { callee:=.builtin .append,args:=#[s,x],argTypes:=#[t,u] })
  (e:TypeId) (i:TypeInfo) (ht:P.underlying t=some (.slice e)) (hu:P.underlying u=some .string) (hi:P.info? e=some i) (hz:i.zero=some (.int .u8 0)) (hsize:i.size=1) (hby:i.bytes=1)
  (v:Value) (l:List UInt8) (hs:a.eval s=v) (hown:Own w e v l) (news:List UInt8) (hx:a.eval x=.string ⟨news.toArray⟩) (hm0:0<news.length) (hb:l.length+news.length≤140737488355328)
  (h:∀ v' w',Own w' e v' (l++news)→Apd w w' v v'→wpList P ops Q rest (a.put o.dst v') w'):wpList P ops Q (o :: rest) a w:=by
 refine wpList_plain hgd fun _ hK=>?_
 obtain ⟨v',w',hr,h2,h3⟩:=run_append_text (P:=P) w t u o.type e i ht hu hi hz hsize hby v l hown news hm0 hb
 unfold Oper.wp execOp
 simp only [ho,resolve,invoke,builtin,Sem.run_bind,Sem.run_pure,Result.andThen_ok,List.map_toArray,List.map_cons,List.map_nil,hs,hx,hr]
 exact hK _ _ (h v' w' h2 h3)
end
end Go.Proofs.YtiicfpdiehgikaaGreatDoor
