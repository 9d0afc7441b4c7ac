/-
  Texts of numbers, read again, in plain lists. The reference's numbers: digits to the base 10000 in slices of ints. What memory holds; zmade. The reference's numbers: zsign, dcmp. The reference's writing, in plain lists. The reference's numbers: dadd. The reference's numbers: dsub.
-/
import Derived.Test.YtjfomkoedgipjaaGreatDoorS06TxM
namespace Go.Proofs.YtjfomkoedgipjaaGreatDoor
set_option maxRecDepth 100000
set_option maxHeartbeats 2000000
open Go.RowKit
theorem allD_of_dcount (l:List Nat) (h:dcount l=l.length):AllD l:=by
 induction l with
 | nil=>intro t ht;simp at ht
 | cons x r ih =>
  by_cases hx:isD x=true
  ·have h2:dcount r=r.length:=by
    unfold dcount at h ⊢;rw [List.takeWhile_cons,qU hx] at h
    simpa using h
   intro t ht
   cases t with
   | zero=>simpa using hx
   | succ k=>have:=ih h2 k (by simpa using ht);simpa using this
  ·unfold dcount at h
   rw [List.takeWhile_cons,qE hx] at h
   simp at h
theorem dcount_of_allD (l:List Nat) (h:AllD l):dcount l=l.length :=
 dcount_of l _ (qZ _) h (qM rfl)
theorem allD_of_scan (l:List Nat) (h1:(scanN l).2=true) (h2:¬ (scanN l).1<l.length):AllD (l.drop (sgl l)):=by
 unfold scanN at h1 h2
 by_cases h48:0<l.length/\l.getD 0 0=48
 ·rw [qU h48] at h2
  have hl:l.length=1:=by have:=h48.1;simp at h2;omega
  obtain ⟨x,rfl⟩:=List.length_eq_one_iff.1 hl
  have hx:x=48:=by simpa using h48.2
  subst hx
  have:sgl [48]=0:=by decide
  rw [this];intro t ht
  have ht0:t=0:=by simpa using ht
  subst ht0
  decide
 ·rw [qE h48] at h1 h2
  have hle:=spos_le (l.drop (sgl l));have hsl:=sgl_le l;have hdl:(l.drop (sgl l)).length=l.length-sgl l:=qF
  have hpos:0<spos (l.drop (sgl l)):=by simpa using h1
  have hall:spos (l.drop (sgl l))=(l.drop (sgl l)).length:=by
   simp only [Nat.not_lt] at h2;omega
  unfold spos at hall hpos
  split at hall
  ·rename_i hc
   rw [qU hc] at hpos;exact absurd hpos (Nat.lt_irrefl _)
  ·exact allD_of_dcount _ hall
theorem digit_toNat (k:Nat) (h:k<10):(UInt8.ofNat (48+k)).toNat=48+k:=by
 rw [UInt8.toNat_ofNat'];omega
def decN (v:Nat):List Nat:=(Lib.decDigits v).map UInt8.toNat
theorem decN_small {v:Nat} (h:v<10):decN v=[48+v]:=by
 unfold decN;rw [Lib.decDigits,dif_pos h,yW,yI,digit_toNat v h]
theorem decN_big {v:Nat} (h:¬ v<10):decN v=decN (v / 10)++[48+v % 10]:=by
 unfold decN;rw [Lib.decDigits,dif_neg h,yJ,yW,yI,digit_toNat (v % 10) (by omega)]
theorem decN_length (v:Nat):(decN v).length=Lib.nDigits v:=by unfold decN;rw [jY,Lib.decDigits_length]
theorem decN_dval (v:Nat):dval (decN v)=v:=by
 induction v using Nat.strongRecOn with
 | _ v ih =>
  by_cases h:v<10
  ·rw [decN_small h];simp [dval]
  ·rw [decN_big h,dval_snoc,ih (v / 10) (by omega)];omega
theorem allD_snoc (l:List Nat) (x:Nat) (h:AllD l) (hx:isD x=true):AllD (l++[x]):=by
 intro t ht;rw [qT] at ht
 by_cases h1:t<l.length
 ·have:=h t h1
  rw [qQ] at this ⊢;rw [List.getElem?_append_left h1];exact this
 ·have ht1:t=l.length:=by simp at ht;omega
  subst ht1;rw [qQ,List.getElem?_append_right (qZ _)]
  simpa using hx
theorem isD_digit (k:Nat) (h:k<10):isD (48+k)=true:=by
 simp only [isD,jZ];omega
theorem decN_allD (v:Nat):AllD (decN v):=by
 induction v using Nat.strongRecOn with
 | _ v ih =>
  by_cases h:v<10
  ·rw [decN_small h]
   exact allD_snoc [] _ (fun t ht=>absurd ht (by simp)) (isD_digit v h)
  ·rw [decN_big h];exact allD_snoc _ _ (ih (v / 10) (by omega)) (isD_digit _ (by omega))
theorem decN_head (v:Nat):∃ d r,decN v=d :: r/\isD d=true/\(d=48->v=0):=by
 induction v using Nat.strongRecOn with
 | _ v ih =>
  by_cases h:v<10
  ·exact ⟨48+v,[],decN_small h,isD_digit v h,by omega⟩
  ·obtain ⟨d,r,e,h1,h2⟩:=ih (v / 10) (by omega)
   exact ⟨d,r++[48+v % 10],by rw [decN_big h,e];rfl,h1,fun hd=>by have:=h2 hd;omega⟩
def txt (z:Int):List Nat:=(Lib.itoa z).map UInt8.toNat
theorem txt_neg {z:Int} (h:z<0):txt z=45 :: decN z.natAbs:=by
 unfold txt Lib.itoa decN;rw [qU h];rfl
theorem txt_pos {z:Int} (h:¬ z<0):txt z=decN z.natAbs:=by
 unfold txt Lib.itoa decN;rw [qE h]
 have:z.toNat=z.natAbs:=by omega
 rw [this]
theorem spos_dec (v:Nat) (h:v≠0):spos (decN v)=(decN v).length:=by
 obtain ⟨d,r,e,_,h2⟩:=decN_head v;unfold spos;rw [qE,dcount_of_allD _ (decN_allD v)];rw [e];rintro (hc | hc)
 ·simp at hc
 ·exact h (h2 (by simpa using hc))
theorem txt_sgl (z:Int):sgl (txt z)=if z<0 then 1 else 0:=by
 by_cases h:z<0
 ·rw [txt_neg h,qU h];simp [sgl]
 ·rw [txt_pos h,qE h]
  obtain ⟨d,r,e,h1,_⟩:=decN_head z.natAbs;rw [e];simp only [isD,jZ] at h1;unfold sgl;rw [qE (by simp;omega)]
theorem txt_drop (z:Int):(txt z).drop (sgl (txt z))=decN z.natAbs:=by
 rw [txt_sgl]
 by_cases h:z<0
 ·rw [qU h,txt_neg h];rfl
 ·rw [qE h,txt_pos h];rfl
theorem txt_scan (z:Int):scanN (txt z)=((txt z).length,true):=by
 have hd:=txt_drop z;obtain ⟨d,r,e,h1,h2⟩:=decN_head z.natAbs;simp only [isD,jZ] at h1;unfold scanN
 by_cases h48:0<(txt z).length/\(txt z).getD 0 0=48
 ·rw [qU h48]
  by_cases h:z<0
  ·rw [txt_neg h] at h48;simp at h48
  ·rw [txt_pos h] at h48 ⊢
   rw [e] at h48;have h0:=h2 (by simpa using h48.2);rw [h0,decN_small (by omega)];rfl
 ·rw [qE h48,hd]
  have hz:z.natAbs≠0:=by
   intro h0
   apply h48
   rw [txt_pos (by omega),h0,decN_small (by omega)];exact ⟨by simp,by simp⟩
  have hs:=spos_dec _ hz
  have hl:0<(decN z.natAbs).length:=by rw [e];simp
  rw [hs]
  have hlen:sgl (txt z)+(decN z.natAbs).length=(txt z).length:=by
   rw [txt_sgl]
   by_cases h:z<0
   ·rw [qU h,txt_neg h,jB];omega
   ·rw [qE h,txt_pos h];omega
  rw [hlen,jJ hl]
def limN:Nat:=1000
def Lim:Nat:=10 ^ limN
theorem lim_le (k:Nat) (h:k<=1000):10 ^ k<=Lim:=by
 unfold Lim;exact qY (by decide) h
theorem lim_pos:0<Lim:=by unfold Lim;exact jF (by decide)
theorem txt_val (z:Int):sgn (decide (0<sgl (txt z))) (dval ((txt z).drop (sgl (txt z))))=z:=by
 rw [txt_drop,decN_dval,txt_sgl]
 by_cases h:z<0
 ·rw [qU h];simp [sgn];omega
 ·rw [qE h];simp [sgn];omega
def pz (l:List Nat):Int:=if (scanN l).2=true/\¬ (scanN l).1<l.length/\¬ 1000<l.length-sgl l then sgn (decide (0<sgl l)) (dval (l.drop (sgl l))) else 0
def pcode (l:List Nat):Nat:=if (scanN l).2=true/\¬ (scanN l).1<l.length then (if 1000<l.length-sgl l then 2 else 0) else 1
def pat (l:List Nat):Nat:=if (scanN l).2=true/\¬ (scanN l).1<l.length then 0 else (scanN l).1
theorem pz_lt (l:List Nat):(pz l).natAbs<Lim:=by
 unfold pz
 split
 ·rename_i h
  have ha:=allD_of_scan l h.1 h.2.1;have h1:=dval_lt _ ha;rw [qF] at h1;have h2:=lim_le (l.length-sgl l) (by omega)
  have h3:(sgn (decide (0<sgl l)) (dval (l.drop (sgl l)))).natAbs=dval (l.drop (sgl l)):=by
   unfold sgn;split<;>simp
  rw [h3];exact qK h1 h2
 ·exact lim_pos
def IBlk (w:World) (b:Nat):Prop:=∃ (cur:Array Value) (fr:Nat × Nat),w.heap[b]?=some (.cells cur 3 fr)
theorem IBlk.lt {w:World} {b:Nat} (h:IBlk w b):b<w.heap.size:=by
 obtain ⟨cur,fr,h⟩:=h;exact (gS.1 h).1
theorem IBlk.block {w w':World} {b:Nat} (h:IBlk w b) (k:w'.heap[b]?=w.heap[b]?):IBlk w' b:=by
 obtain ⟨cur,fr,h⟩:=h;exact ⟨cur,fr,k.trans h⟩
def ISeg (w:World) (ao:Option Addr) (l:List Nat):Prop :=
 (ao=none/\l=[])\/∃ b o,ao=some ⟨b,o,none⟩/\IBlk w b/\∀ t,t<l.length->w.cell? ⟨b,o+t,none⟩=some (.int .i64 (l.getD t 0:Nat))
theorem ISeg.ext {w w':World} {ao:Option Addr} {l:List Nat} (h:ISeg w ao l) (k:Ext w w'):ISeg w' ao l:=by
 rcases h with h | ⟨b,o,rfl,hb,hc⟩
 ·exact qM h
 ·exact qO ⟨b,o,rfl,hb.block (k.block b hb.lt),fun t ht=>(k.cell (p:=⟨b,o+t,none⟩) hb.lt).trans (hc t ht)⟩
theorem ISeg.take {w:World} {ao:Option Addr} {l:List Nat} (h:ISeg w ao l) (n:Nat):ISeg w ao (l.take n):=by
 rcases h with ⟨rfl,rfl⟩ | ⟨b,o,rfl,hb,hc⟩
 ·exact qM ⟨rfl,by simp⟩
 ·refine qO ⟨b,o,rfl,hb,fun t ht=>?_⟩
  rw [qC] at ht;rw [hc t (by omega)];simp only [qQ,jC];rw [qU (by omega)]
theorem ISeg.at {w:World} {b o:Nat} {l:List Nat} (h:ISeg w (some ⟨b,o,none⟩) l) (t:Nat) (ht:t<l.length):w.cell? ⟨b,o+t,none⟩=some (.int .i64 (l.getD t 0:Nat)):=by
 rcases h with ⟨h,_⟩ | ⟨b',o',h,_,hc⟩
 ·cases h
 ·simp only [yX,Addr.mk.injEq,and_true] at h
  obtain ⟨rfl,rfl⟩:=h;exact hc t ht
theorem ISeg.some_of {w:World} {ao:Option Addr} {l:List Nat} (h:ISeg w ao l) (hl:0<l.length):∃ b o,ao=some ⟨b,o,none⟩:=by
 rcases h with ⟨_,rfl⟩ | ⟨b,o,h,_⟩
 ·simp at hl
 ·exact ⟨b,o,h⟩
def zval:List Nat->Nat
 | []=>0
 | x :: r=>x+10000*zval r
theorem zval_append (a b:List Nat):zval (a++b)=zval a+10000 ^ a.length*zval b:=by
 induction a with
 | nil=>simp [zval]
 | cons x r ih =>
  rw [List.cons_append,zval,ih,zval,jB,jK,qN];rw [jU (10000 ^ r.length) 10000,jW];omega
theorem zval_snoc (l:List Nat) (x:Nat):zval (l++[x])=zval l+10000 ^ l.length*x:=by rw [zval_append];simp [zval]
def ZD (l:List Nat):Prop:=∀ x ∈ l,x<10000
theorem ZD.nil:ZD []:=fun _ h=>by simp at h
theorem ZD.snoc {l:List Nat} {x:Nat} (h:ZD l) (hx:x<10000):ZD (l++[x]):=fun y hy=>by
 simp only [jI,yG] at hy
 rcases hy with hy | rfl
 ·exact h y hy
 ·exact hx
theorem ZD.take {l:List Nat} (h:ZD l) (n:Nat):ZD (l.take n):=fun x hx=>h x (List.mem_of_mem_take hx)
theorem ZD.get {l:List Nat} (h:ZD l) (t:Nat):l.getD t 0<10000:=by
 rw [qQ]
 by_cases ht:t<l.length
 ·rw [qX ht];exact h _ (List.getElem_mem ht)
 ·rw [jT (by omega)];decide
theorem zval_lt {l:List Nat} (h:ZD l):zval l<10000 ^ l.length:=by
 induction l with
 | nil=>simp [zval]
 | cons x r ih =>
  have h1:=h x (List.mem_cons_self ..);have h2:=ih (fun y hy=>h y (List.mem_cons_of_mem _ hy));rw [zval,jB,jK];omega
def ZN (l:List Nat):Prop:=l=[]\/l.getD (l.length-1) 0≠0
theorem take_zsucc (l:List Nat) (k:Nat) (h:k<l.length):l.take (k+1)=l.take k++[l.getD k 0]:=by
 rw [jP,qQ,qX h]
 rfl
def IsZ (w:World) (neg:Bool) (ao:Option Addr) (n c:Nat) (z:Int):Prop :=
 ∃ l:List Nat,l.length=n/\n<=c/\c<=maxLen/\ISeg w ao l/\ZD l/\ZN l/\z=(if neg then -(zval l:Int) else (zval l:Int))/\(l=[]->neg=false)
theorem IsZ.ext {w w':World} {neg:Bool} {ao:Option Addr} {n c:Nat} {z:Int} (h:IsZ w neg ao n c z) (k:Ext w w'):IsZ w' neg ao n c z:=by
 obtain ⟨l,h1,h2,h3,h4,h5⟩:=h;exact ⟨l,h1,h2,h3,h4.ext k,h5⟩
theorem IsZ.zero (w:World):IsZ w false none 0 0 0:=⟨[],rfl,qZ _,qI _,qM ⟨rfl,rfl⟩,ZD.nil,qM rfl,rfl,fun _=>rfl⟩
theorem IsZ.cast {w:World} {neg:Bool} {ao:Option Addr} {n c:Nat} {z z':Int} (h:IsZ w neg ao n c z) (e:z=z'):IsZ w neg ao n c z':=e ▸ h
theorem ISeg.keepRes {w:World} {g:Nat} {ao:Option Addr} {l:List Nat} {x:Bool} {p:Option Addr} {q r:Nat} {T:TypeId} (h:ISeg w ao l) (hg:w.heap[g]?=some (.cells #[.bool x,.slice p q r] T (0,0))) (u v:Value) :
  ISeg ((w.setCell ⟨g,0,none⟩ u).setCell ⟨g,1,none⟩ v) ao l:=by
 rcases h with h | ⟨b,o,rfl,hb,hc⟩
 ·exact qM h
 ·have hO:Only g w ((w.setCell ⟨g,0,none⟩ u).setCell ⟨g,1,none⟩ v):=((Only.refl _ _).setCell _ _).setCell _ _
  have hbk:IBlk ((w.setCell ⟨g,0,none⟩ u).setCell ⟨g,1,none⟩ v) b:=by
   by_cases hbg:b=g
   ·subst hbg
    obtain ⟨cur,fr,hcur⟩:=hb;rw [hg] at hcur
    cases hcur
    have q1:=yZ w b 0 _ _ u hg;have q2:=yZ (w.setCell ⟨b,0,none⟩ u) b 1 _ _ v q1;exact ⟨_,_,q2⟩
   ·exact hb.block (hO.block b hbg)
  refine qO ⟨b,o,rfl,hbk,fun t ht=>?_⟩;have h1:=hc t ht
  by_cases hbg:b=g
  ·subst hbg
   rw [qD w b (o+t) _ T (0,0) hg] at h1
   match o+t,h1 with
   | 0,h1=>simp at h1
   | 1,h1=>simp at h1
   | k+2,h1=>simp at h1
  ·exact (jR (a:=⟨b,o+t,none⟩) (hO.block b hbg)).trans h1
theorem IsZ.keepRes {w:World} {g:Nat} {neg:Bool} {ao:Option Addr} {n c:Nat} {z:Int} {x:Bool} {p:Option Addr} {q r:Nat} {T:TypeId} (h:IsZ w neg ao n c z) (hg:w.heap[g]?=some (.cells #[.bool x,.slice p q r] T (0,0))) (u v:Value) :
  IsZ ((w.setCell ⟨g,0,none⟩ u).setCell ⟨g,1,none⟩ v) neg ao n c z:=by
 obtain ⟨l,h1,h2,h3,h4,h5⟩:=h;exact ⟨l,h1,h2,h3,h4.keepRes hg u v,h5⟩
structure ZRes (W:World) (g:Nat):Prop where
 row:W.heap[g]?=some (.cells #[.bool false,.slice none 0 0] 33 (0,0))
theorem ZRes.lt {W:World} {g:Nat} (h:ZRes W g):g<W.heap.size:=(gS.1 h.row).1
theorem ZRes.ext {W W':World} {g:Nat} (h:ZRes W g) (k:Ext W W'):ZRes W' g:=⟨(k.block _ h.lt).trans h.row⟩
theorem ZRes.c0 {W:World} {g:Nat} (h:ZRes W g):W.cell? ⟨g,0,none⟩=some (.bool false):=by rw [qD W g 0 _ _ (0,0) h.row];rfl
theorem ZRes.c1 {W:World} {g:Nat} (h:ZRes W g):W.cell? ⟨g,1,none⟩=some (.slice none 0 0):=by rw [qD W g 1 _ _ (0,0) h.row];rfl
theorem ZRes.f {W:World} {g:Nat} (h:ZRes W g) (o:Nat):W.frozen? ⟨g,o,none⟩=false:=jQ W g o _ _ h.row
theorem zres_new (w:World):ZRes (w.alloc (.cells #[.bool false,.slice none 0 0] 33)) w.heap.size:=⟨qW w _⟩
theorem zval_take_zeros (l:List Nat) (k:Nat) (hk:k<=l.length) (h:∀ t,k<=t->t<l.length->l.getD t 0=0):zval (l.take k)=zval l:=by
 induction l generalizing k with
 | nil=>simp
 | cons x r ih =>
  cases k with
  | zero =>
   have hx:x=0:=by have:=h 0 (qZ _) (by simp);simpa using this
   have:=ih 0 (by simp) (fun t _ ht=>by have:=h (t+1) (by omega) (by simpa using ht);simpa using this);simp only [List.take_zero] at this ⊢
   show 0=x+10000*zval r
   rw [hx,<-this]
   rfl
  | succ k =>
   have:=ih k (by simpa using hk) (fun t h1 ht=>by have:=h (t+1) (by omega) (by simpa using ht);simpa using this);rw [List.take_succ_cons,zval,zval,this]
theorem ext_alloc (w:World) (o:Obj):Ext w (w.alloc o):=(Below.refl _ _).alloc (qZ _) o
def ZRet (w:World) (z:Int) (n:Nat) (e:Ending) (w':World):Prop:=∃ (b':Bool) (a':Option Addr) (n' c':Nat),e=.returned (.agg #[.bool b',.slice a' n' c'])/\IsZ w' b' a' n' c' z/\n'<=n/\Ext w w'
def ZRetB (w:World) (z:Int) (n:Nat) (P:Option Addr->Prop) (e:Ending) (w':World):Prop:=∃ (b':Bool) (a':Option Addr) (n' c':Nat),e=.returned (.agg #[.bool b',.slice a' n' c'])/\IsZ w' b' a' n' c' z/\n'<=n/\Ext w w'/\P a'
theorem ZRetB.ret {w:World} {z:Int} {n:Nat} {P:Option Addr->Prop} {e:Ending} {w':World} (h:ZRetB w z n P e w'):ZRet w z n e w':=by
 obtain ⟨b',a',n',c',h1,h2,h3,h4,_⟩:=h;exact ⟨b',a',n',c',h1,h2,h3,h4⟩
theorem zmade_blk (neg:Bool) (ao:Option Addr) (l:List Nat) (n c:Nat) (w:World) (hl:l.length=n) (hs:ISeg w ao l) (hd:ZD l) (hc:n<=c) (hcm:c<=maxLen) (hn:n<=1000000) (z:Int) (hz:z=if neg then -(zval l:Int) else (zval l:Int)) :
  Calls Tryz.prog 30 #[.bool neg,.slice ao n c] w (ZRetB w z n (fun a'=>a'=none\/a'=ao)):=by
 have Hz:=Lh hz;clear hz;have Hl:=Lh hl;have Hs:=Lh hs;have Hd:=Lh hd;have hE:=ext_alloc w (.cells #[.bool false,.slice none 0 0] 33);have hR:=zres_new w
 have hab:n=0\/∃ b o,ao=some ⟨b,o,none⟩:=by
  by_cases h0:n=0
  ·exact qM h0
  ·exact qO (hs.some_of (by omega))
 unfold maxLen at hcm;clear hl hs hd
 go_enter Tryz.func30,Tryz.ntmps30
 go_wp2_with fail
 generalize w.alloc (.cells #[.bool false,.slice none 0 0] 33)=W0 at *;have Hs0:=Lh (Hs.out.ext hE)
 go_loop [5] (fun i=>∃ k:Nat,k<=n/\i=.int .i64 k/\∀ t,k<=t->t<n->l.getD t 0=0) (fun i=>(intOf i).toNat)
 case atStart=>exact ⟨n,qZ _,rfl,fun t h1 h2=>by omega⟩
 case round =>
  obtain ⟨k,hk,rfl,hall⟩:=hrel;have Hall:=Lh hall;clear hall;have Hv:Hid (zval (l.take k)=zval l):=zval_take_zeros l k (by rw [Hl.out];exact hk) (by rw [Hl.out];exact Hall.out)
  have fin:∀ (hz:k=0\/l.getD (k-1) 0≠0),ZN (l.take k):=by
   intro hz
   by_cases h0:k=0
   ·subst h0;exact qM (by simp)
   ·right
    have hlen:(l.take k).length=k:=by rw [qC,Hl.out];omega
    rw [hlen,qQ,jC,qU (by omega),<-qQ];exact hz.resolve_left h0
  have Fin:=Lh fin;clear fin
  by_cases hk0:k=0
  ·subst hk0
   have hv0:zval l=0:=by rw [<-Hv.out];rfl
   have Hv0:=Lh hv0;have k0:=hR.c0;have k1:=hR.c1;have f0:=hR.f 0;have f1:=hR.f 1;clear hv0
   go_wp2_with fail
   exact qJ (v:=.agg #[.bool false,.slice none 0 0]) (by simp [results,Tryz.results30,go_sem,k0,k1]) rfl ⟨false,none,0,0,rfl,(IsZ.zero _).cast (by rw [Hz.out,Hv0.out];split<;>rfl),qI _,(yD hE (p:=⟨w.heap.size,0,none⟩) (qZ _) _).setCell (p:=⟨w.heap.size,1,none⟩) (qZ _) _,qM rfl⟩
  ·have ik:(0:Int)<(k:Int):=by omega
   have ik1:(k:Int)-1=((k-1:Nat):Int):=by omega
   obtain ⟨j,rfl⟩:∃ j,k=j+1:=⟨k-1,by omega⟩
   rcases hab with h0 | ⟨b,o,rfl⟩
   ·omega
   have hcl:=Hs0.out.at j (by rw [Hl.out];omega);obtain ⟨x,hx⟩:∃ x,l.getD j 0=x:=⟨_,rfl⟩;rw [hx] at hcl;have Hx:=Lh hx
   have ij:(j:Int)<(n:Int):=by omega
   have ij2:(j:Int)+1<=(c:Int):=by omega
   clear hx ik1 hk0
   by_cases hx0:x=0
   ·subst hx0
    go_wp2_with fail
    go_round
    case rel=>exact ⟨j,by omega,by go_num,fun t h1 h2=>by
     by_cases e:t=j
     ·rw [e];exact Hx.out
     ·exact Hall.out t (by omega) h2⟩
    case measure=>simp [intOf]
   ·have hxb:((x:Int) == 0)=false:=by rw [qV];omega
    have hjb:((j:Int)+1 == 0)=false:=by rw [qV];omega
    have Hzn:=Lh (Fin.out (qO (by rw [Nat.add_sub_cancel,Hx.out];exact hx0)));have k0:=hR.c0;have k1:=hR.c1;have f0:=hR.f 0;have f1:=hR.f 1;clear hx0
    go_wp2_with fail
    exact qJ (v:=.agg #[.bool neg,.slice (some ⟨b,o,none⟩) (j+1) c]) (by simp [results,Tryz.results30,go_sem,k0,k1]) rfl ⟨neg,some ⟨b,o,none⟩,j+1,c,rfl,IsZ.keepRes ⟨l.take (j+1),by rw [qC,Hl.out];omega,by omega,by unfold maxLen;omega,Hs0.out.take _,Hd.out.take _,Hzn.out,by rw [Hz.out,Hv.out],fun h=>by
     have:=congrArg List.length h;rw [qC,Hl.out] at this
     simp at this
     omega⟩ hR.row _ _,by omega,(yD hE (p:=⟨w.heap.size,0,none⟩) (qZ _) _).setCell (p:=⟨w.heap.size,1,none⟩) (qZ _) _,qO rfl⟩
theorem zmade_any (neg:Bool) (ao:Option Addr) (l:List Nat) (n c:Nat) (w:World) (hl:l.length=n) (hs:ISeg w ao l) (hd:ZD l) (hc:n<=c) (hcm:c<=maxLen) (hn:n<=1000000) (z:Int) (hz:z=if neg then -(zval l:Int) else (zval l:Int)) :
  Calls Tryz.prog 30 #[.bool neg,.slice ao n c] w (ZRet w z n) :=
 (zmade_blk neg ao l n c w hl hs hd hc hcm hn z hz).mono fun _ _ h=>h.ret
theorem zext_drewN {w w':World} (h:Ext w w') (n:Nat):Ext w (w'.drewN n):=by
 induction n with
 | zero=>exact h
 | succ n ih=>exact qG ih
def zc (x y:Nat):Int:=if x<y then -1 else if y<x then 1 else 0
theorem zval_split (l:List Nat) (k:Nat) (h:k<l.length):zval l=zval (l.take k)+10000 ^ k*(l.getD k 0+10000*zval (l.drop (k+1))):=by
 have e:l=l.take k++(l.getD k 0 :: l.drop (k+1)):=by
  rw [qQ,qX h]
  simp
 have hl:(l.take k).length=k:=by rw [qC];omega
 conv=>lhs;rw [e]
 rw [zval_append,hl,zval]
theorem zval_lt_of {a b:List Nat} {k:Nat} (ha:k<a.length) (hb:k<b.length) (hd:ZD a) (h:a.drop (k+1)=b.drop (k+1)) (hx:a.getD k 0<b.getD k 0):zval a<zval b:=by
 rw [zval_split a k ha,zval_split b k hb,h];have h1:=zval_lt (hd.take k)
 have hl:(a.take k).length=k:=by rw [qC];omega
 rw [hl] at h1;generalize 10000*zval (b.drop (k+1))=u;have h2:10000 ^ k*(a.getD k 0+u+1)<=10000 ^ k*(b.getD k 0+u):=jX _ (by omega);rw [qN,Nat.mul_one] at h2;omega
theorem zval_ge {l:List Nat} (h:ZN l) (hl:l≠[]):10000 ^ (l.length-1)<=zval l:=by
 have hpos:0<l.length:=by cases l with | nil=>exact absurd rfl hl | cons x r=>simp
 have hx:=h.resolve_left hl;rw [zval_split l (l.length-1) (by omega)]
 have h1:1<=l.getD (l.length-1) 0+10000*zval (l.drop (l.length-1+1)):=by omega
 have h2:=jX (10000 ^ (l.length-1)) h1;rw [Nat.mul_one] at h2;omega
theorem zval_lt_len {a b:List Nat} (hd:ZD a) (hn:ZN b) (h:a.length<b.length):zval a<zval b:=by
 have h1:=zval_lt hd
 have hb:b≠[]:=by intro e;subst e;simp at h
 have h2:=zval_ge hn hb;have h3:10000 ^ a.length<=10000 ^ (b.length-1):=qY (by decide) (by omega);omega
theorem zval_zero {l:List Nat} (hn:ZN l):zval l=0↔l=[]:=by
 constructor
 ·intro h
  apply yB
  intro hl;have h2:=zval_ge hn hl;have h3:0<10000 ^ (l.length-1):=jF (by decide);omega
 ·rintro rfl;rfl
theorem zsign_any (neg:Bool) (ao:Option Addr) (n c:Nat) (z:Int) (w:World) (h:IsZ w neg ao n c z) (k:Int) (hk:k=if z<0 then -1 else if 0<z then 1 else 0) :
  Calls Tryz.prog 31 #[.agg #[.bool neg,.slice ao n c]] w fun e w'=>e=.returned (.int .i64 k)/\Ext w w':=by
 obtain ⟨l,h1,h2,h3,h4,h5,h6,h7,h8⟩:=h;have hE:=ext_alloc w (.cells #[.bool neg,.slice ao n c] 33)
 by_cases h0:n=0
 ·have hl:l=[]:=jD (by omega)
  have hz:z=0:=by rw [h7,hl];simp [zval]
  have hk0:k=0:=by rw [hk,hz];decide
  subst h0 hk0;clear hk h7
  go_enter Tryz.func31,Tryz.ntmps31
  go_wp2
  go_ret
  exact ⟨rfl,ext_alloc _ _⟩
 ·have hl:l≠[]:=by intro e;subst e;simp at h1;omega
  have hv:0<zval l:=by
   apply Nat.pos_of_ne_zero
   intro e;exact hl ((zval_zero h6).1 e)
  have hb:((n:Int) == 0)=false:=by rw [qV];omega
  cases neg
  ·have hk1:k=1:=by rw [hk,h7];simp;omega
   subst hk1;clear hk h7 h0
   go_enter Tryz.func31,Tryz.ntmps31
   go_wp2
   go_ret
   exact ⟨rfl,hE⟩
  ·have hk1:k=-1:=by rw [hk,h7];simp;omega
   subst hk1;clear hk h7 h0
   go_enter Tryz.func31,Tryz.ntmps31
   go_wp2
   go_ret
   exact ⟨rfl,hE⟩
theorem dcmp_any (a1 a2:Option Addr) (la lb:List Nat) (n m c1 c2:Nat) (w:World) (h1:la.length=n) (h2:lb.length=m) (s1:ISeg w a1 la) (s2:ISeg w a2 lb) (d1:ZD la) (d2:ZD lb) (e1:ZN la) (e2:ZN lb) (_hc1:n<=c1) (_hc2:m<=c2) (hn:n<=1000000) (hm:m<=1000000) :
  Calls Tryz.prog 120 #[.slice a1 n c1,.slice a2 m c2] w fun e w'=>e=.returned (.int .i64 (zc (zval la) (zval lb)))/\Ext w w':=by
 obtain ⟨z,hz⟩:∃ z,zc (zval la) (zval lb)=z:=⟨_,rfl⟩;rw [hz];have Hz:=Lh hz;clear hz
 by_cases hnm:n=m
 ·subst hnm
  have H1:=Lh h1;have H2:=Lh h2;have S1:=Lh s1;have S2:=Lh s2;have D1:=Lh d1;have D2:=Lh d2;clear h1 h2 d1 d2 e1 e2
  have hab:n=0\/∃ b o b' o',a1=some ⟨b,o,none⟩/\a2=some ⟨b',o',none⟩:=by
   by_cases h0:n=0
   ·exact qM h0
   ·obtain ⟨b,o,h⟩:=s1.some_of (by rw [H1.out];omega)
    obtain ⟨b',o',h'⟩:=s2.some_of (by rw [H2.out];omega);exact qO ⟨b,o,b',o',h,h'⟩
  clear s1 s2
  go_enter Tryz.func120,Tryz.ntmps120
  go_wp2_with fail
  go_loopw [5] (fun i wr=>∃ k:Nat,k<=n/\i=.int .i64 ((k:Int)-1)/\la.drop k=lb.drop k/\Ext w wr) (fun i _=>(intOf i+1).toNat)
  case atStart=>exact ⟨n,qZ _,by go_num,by rw [yE (by rw [H1.out];exact qZ _),yE (by rw [H2.out];exact qZ _)],Ext.refl _⟩
  case round =>
   obtain ⟨k,hk,rfl,hsame,hEr⟩:=hrel;have Hsame:=Lh hsame;clear hsame
   by_cases hk0:k=0
   ·subst hk0
    have hz0:z=0:=by
     rw [<-Hz.out]
     have:la=lb:=by simpa using Hsame.out
     rw [this];unfold zc;simp
    subst hz0
    go_wp2_with fail
    go_ret
    exact ⟨rfl,hEr⟩
   ·obtain ⟨j,rfl⟩:∃ j,k=j+1:=⟨k-1,by omega⟩
    rcases hab with h0 | ⟨b,o,b',o',rfl,rfl⟩
    ·omega
    have hx:=(S1.out.ext hEr).at j (by rw [H1.out];omega);have hy:=(S2.out.ext hEr).at j (by rw [H2.out];omega);obtain ⟨x,ex⟩:∃ x,la.getD j 0=x:=⟨_,rfl⟩;obtain ⟨y,ey⟩:∃ y,lb.getD j 0=y:=⟨_,rfl⟩;rw [ex] at hx;rw [ey] at hy;have Ex:=Lh ex;have Ey:=Lh ey
    have ij:(j:Int)<(n:Int):=by omega
    have ij0:(0:Int)<=(j:Int):=by omega
    have ej:((j:Int)+1-1)=(j:Int):=by omega
    have ec:(((j+1:Nat):Int)-1)=(j:Int):=by omega
    rw [ec];clear ex ey hk0 ec
    rcases Nat.lt_trichotomy x y with hlt | heq | hgt
    ·have ixy:(x:Int)<(y:Int):=by omega
     have hz1:z=-1:=by
      rw [<-Hz.out];unfold zc;rw [qU (zval_lt_of (k:=j) (by rw [H1.out];omega) (by rw [H2.out];omega) D1.out Hsame.out (by rw [Ex.out,Ey.out];exact hlt))]
     subst hz1;clear hlt
     go_wp2_with fail
     go_quiet (fail)
     go_wp2_with fail
     go_ret
     exact ⟨rfl,zext_drewN hEr _⟩
    ·subst heq
     have ixy:¬ (x:Int)<(x:Int):=by omega
     have hnext:la.drop j=lb.drop j:=by
      have f1:la.drop j=la.getD j 0 :: la.drop (j+1):=by
       rw [qQ,qX (by rw [H1.out];omega),List.drop_eq_getElem_cons (by rw [H1.out];omega)];rfl
      have f2:lb.drop j=lb.getD j 0 :: lb.drop (j+1):=by
       rw [qQ,qX (by rw [H2.out];omega),List.drop_eq_getElem_cons (by rw [H2.out];omega)];rfl
      rw [f1,f2,Ex.out,Ey.out,Hsame.out]
     have Hnext:=Lh hnext;clear hnext
     go_wp2_with fail
     go_quiet (fail)
     go_wp2_with fail
     go_quiet (fail)
     go_wp2_with fail
     go_roundw
     case rel=>exact ⟨j,by omega,by go_num,Hnext.out,zext_drewN hEr _⟩
     case measure=>simp [intOf]
    ·have ixy:¬ (x:Int)<(y:Int):=by omega
     have iyx:(y:Int)<(x:Int):=by omega
     have hz1:z=1:=by
      rw [<-Hz.out];unfold zc;have:=zval_lt_of (k:=j) (by rw [H2.out];omega) (by rw [H1.out];omega) D2.out Hsame.out.symm (by rw [Ex.out,Ey.out];exact hgt);rw [qE (by omega),qU this]
     subst hz1;clear hgt
     go_wp2_with fail
     go_quiet (fail)
     go_wp2_with fail
     go_quiet (fail)
     go_wp2_with fail
     go_ret
     exact ⟨rfl,zext_drewN (zext_drewN hEr _) _⟩
 ·by_cases hlt:n<m
  ·have hz1:z=-1:=by
    rw [<-Hz.out];unfold zc;rw [qU (zval_lt_len d1 e2 (by omega))]
   subst hz1
   have ib:((n:Int) != (m:Int))=true:=by rw [bne_iff_ne];omega
   have il:(n:Int)<(m:Int):=by omega
   clear h1 h2 s1 s2 d1 d2 e1 e2 hnm hlt
   go_enter Tryz.func120,Tryz.ntmps120
   go_wp2_with fail
   go_ret
   exact ⟨rfl,Ext.refl _⟩
  ·have hz1:z=1:=by
    rw [<-Hz.out];unfold zc;have:=zval_lt_len d2 e1 (a:=lb) (b:=la) (by omega);rw [qE (by omega),qU this]
   subst hz1
   have ib:((n:Int) != (m:Int))=true:=by rw [bne_iff_ne];omega
   have il:¬ (n:Int)<(m:Int):=by omega
   clear h1 h2 s1 s2 d1 d2 e1 e2 hnm hlt
   go_enter Tryz.func120,Tryz.ntmps120
   go_wp2_with fail
   go_ret
   exact ⟨rfl,Ext.refl _⟩
theorem padD_four (x:Nat) (h:x<10000):padD 4 x=[UInt8.ofNat (48+x / 1000),UInt8.ofNat (48+x / 100 % 10),UInt8.ofNat (48+x / 10 % 10),UInt8.ofNat (48+x % 10)]:=by
 have e:x / 1000 % 10=x / 1000:=by omega
 unfold padD Lib.dg
 simp [List.range_succ,e]
theorem dec_step (x v:Nat) (hx:x<10000) (hv:0<v):Lib.decDigits (x+10000*v)=Lib.decDigits v++padD 4 x:=by
 have e1:(x+10000*v) / 10 ^ 4=v:=by omega
 have e2:(x+10000*v) % 10 ^ 4=x:=by omega
 have h:=decDigits_append 4 (x+10000*v) (by rw [e1];exact hv);rw [e1,e2] at h;exact h
theorem dec_first (x:Nat) (hx:x<10000) (h0:0<x):∃ f,f<=3/\(∀ t,t<f->(padD 4 x).getD t 0=48)/\(padD 4 x).getD f 0≠48/\Lib.decDigits x=(padD 4 x).drop f:=by
 have hnd:Lib.nDigits x<=4:=nDigits_le 4 x (by omega) (by omega);have hnp:=Lib.nDigits_pos x;have hp:=padD_fill 4 x hnd
 have hl:(List.replicate (4-Lib.nDigits x) (48:UInt8)).length=4-Lib.nDigits x:=by simp
 refine ⟨4-Lib.nDigits x,by omega,fun t ht=>?_,?_,?_⟩
 ·rw [hp,qQ,List.getElem?_append_left (by rw [hl];exact ht),List.getElem?_replicate,qU ht]
  rfl
 ·rw [hp,qQ,List.getElem?_append_right (by rw [hl];exact qZ _),hl,Nat.sub_self]
  obtain ⟨d,r,e,_,h2⟩:=decN_head x;intro hc;unfold decN at e
  cases hd:Lib.decDigits x with
  | nil=>rw [hd] at e;simp at e
  | cons y ys =>
   rw [hd] at e hc;simp only [yW,List.cons.injEq] at e
   simp at hc
   rw [hc] at e;have:=h2 (by rw [<-e.1];rfl);omega
 ·rw [hp,List.drop_append_of_le_length (by rw [hl];exact qZ _),yE (by rw [hl];exact qZ _),List.nil_append]
def ztx (l:List Nat) (k:Nat):List UInt8:=if k=l.length then [] else Lib.decDigits (zval (l.drop k))
theorem ztx_end (l:List Nat):ztx l l.length=[]:=by unfold ztx;rw [qU rfl]
theorem zval_drop (l:List Nat) (k:Nat) (h:k<l.length):zval (l.drop k)=l.getD k 0+10000*zval (l.drop (k+1)):=by
 rw [List.drop_eq_getElem_cons h,zval,qQ,qX h];rfl
theorem ZN.drop {l:List Nat} (h:ZN l) (k:Nat):ZN (l.drop k):=by
 by_cases hk:k<l.length
 ·right
  have hl:l≠[]:=by intro e;subst e;simp at hk
  have:=h.resolve_left hl;rw [qF,qQ,List.getElem?_drop,show k+(l.length-k-1)=l.length-1 by omega,<-qQ];exact this
 ·left;exact yE (by omega)
theorem ztx_first {l:List Nat} {j x:Nat} (hl:l.length=j+1) (hx:l.getD j 0=x):ztx l j=Lib.decDigits x:=by
 unfold ztx;rw [qE (by omega),zval_drop l j (by omega),hx,yE (by omega)]
 simp [zval]
theorem ztx_next {l:List Nat} {j x:Nat} (hn:ZN l) (hj:j+1<l.length) (hx:l.getD j 0=x) (hx4:x<10000):ztx l j=ztx l (j+1)++padD 4 x:=by
 have hp:0<zval (l.drop (j+1)):=by
  apply Nat.pos_of_ne_zero
  intro e;have:=(zval_zero (hn.drop (j+1))).1 e;have:=congrArg List.length this;rw [qF] at this
  simp at this
  omega
 unfold ztx;rw [qE (by omega),qE (by omega),zval_drop l j (by omega),hx,dec_step x _ hx4 hp]
theorem ztx_all {l:List Nat} (h:l≠[]):ztx l 0=Lib.decDigits (zval l):=by
 unfold ztx;rw [qE (by intro e;exact h (jD e.symm)),List.drop_zero]
theorem int_info:(Tryz.prog.info? 3).map (fun i=>(i.zero,i.size,i.bytes))=some (some (.int .i64 0),1,8):=by kernel_rfl
def inC (l:List Nat):List Value:=l.map fun x:Nat=>Value.int .i64 (x:Int)
theorem inC_snoc (l:List Nat) (x:Nat):inC (l++[x])=inC l++[.int .i64 (x:Int)]:=by simp [inC]
theorem iseg_of_own {w:World} {base n:Nat} {v:Value} {l:List Nat} (h:w.ownsRow base 3 1 v n (inC l)):∃ (a:Option Addr) (c:Nat),v=.slice a n c/\n<=c/\c<=maxLen/\l.length=n/\ISeg w a l:=by
 have hl:l.length=n:=by have:=h.1;simpa [inC] using this
 rcases h.2 with ⟨rfl,rfl⟩ | ⟨g,cap,cur,rfl,_,hg,hnc,hcm,_,htk⟩
 ·exact ⟨none,0,rfl,qZ _,qI _,hl,qM ⟨rfl,jD hl⟩⟩
 ·refine ⟨some ⟨g,0,none⟩,cap,rfl,hnc,hcm,hl,qO ⟨g,0,rfl,⟨cur,(0,0),hg⟩,fun t ht=>?_⟩⟩
  rw [qD w g (0+t) cur _ (0,0) hg,jH]
  have h1:(inC l)[t]?=cur.toList[t]?:=by
   rw [<-htk,jC,qU (by omega)]
  rw [<-Array.getElem?_toList,<-h1];simp only [inC,jM,qQ];rw [qX ht]
  rfl
theorem new_int (w:World) (x:Int) (e:TypeId):∀ j u,([Value.int .i64 x]:List Value)[j]?=some u->(w.alloc (.cells #[.int .i64 x] e)).cell? ((⟨w.heap.size,0,none⟩:Addr).add j)=some u:=by
 intro j u hu
 cases j with
 | zero =>
  simp only [List.getElem?_cons_zero,yX] at hu;rw [<-hu]
  have hadd:(⟨w.heap.size,0,none⟩:Addr).add 0=⟨w.heap.size,0,none⟩:=by unfold Addr.add;split<;>simp_all
  rw [hadd,World.cell?_alloc_new]
  rfl
 | succ k=>simp at hu
theorem one_int (x:Int):∀ u ∈ ([Value.int .i64 x]:List Value),u.oneCell'=true:=by
 intro u hu;simp only [yG] at hu;subst hu
 rfl
theorem ext_grown {w a b:World} {row:Option Nat} (h:Ext w a) (hg:a.grownBy b row) (hr:∀ k,row=some k->w.heap.size<=k):Ext w b:=Below.grown h hg h.size hr
theorem zval_step {l la lb:List Nat} {k c x y:Nat} (hl:l.length=k) (hx:zval (la.take (k+1))=zval (la.take k)+10000 ^ k*x) (hy:zval (lb.take (k+1))=zval (lb.take k)+10000 ^ k*y) (h:zval l+10000 ^ k*c=zval (la.take k)+zval (lb.take k)) :
  zval (l++[(c+x+y) % 10000])+10000 ^ (k+1)*((c+x+y) / 10000)=zval (la.take (k+1))+zval (lb.take (k+1)):=by
 rw [zval_snoc,hl,hx,hy,jK];have e:=Nat.div_add_mod (c+x+y) 10000
 have e2:10000 ^ k*((c+x+y) % 10000)+10000 ^ k*10000*((c+x+y) / 10000)=10000 ^ k*(c+x+y):=by
  rw [jW,<-qN]
  congr 1
  omega
 rw [qN,qN] at e2;omega
theorem zval_take_in {l:List Nat} {k:Nat} (h:k<l.length):zval (l.take (k+1))=zval (l.take k)+10000 ^ k*l.getD k 0:=by
 have hl:(l.take k).length=k:=by rw [qC];omega
 rw [take_zsucc l k h,zval_snoc,hl]
theorem zval_take_out {l:List Nat} {k:Nat} (h:¬ k<l.length):zval (l.take (k+1))=zval (l.take k)+10000 ^ k*0:=by
 rw [qB (by omega),qB (by omega),Nat.mul_zero,Nat.add_zero]
theorem dadd_any (a1 a2:Option Addr) (la lb:List Nat) (n m c1 c2:Nat) (w:World) (h1:la.length=n) (h2:lb.length=m) (s1:ISeg w a1 la) (s2:ISeg w a2 lb) (d1:ZD la) (d2:ZD lb) (hn:n<=1000000) (hm:m<=1000000) :
  Calls Tryz.prog 119 #[.slice a1 n c1,.slice a2 m c2] w fun e w'=>∃ (a':Option Addr) (l':List Nat) (n' c':Nat),e=.returned (.slice a' n' c')/\l'.length=n'/\n'<=c'/\c'<=maxLen/\ISeg w' a' l'/\ZD l'/\Hid (zval l'=zval la+zval lb)/\n'<=max n m+1/\Ext w w':=by
 obtain ⟨i0,hi,hz0,hz1,hz2⟩:=info_parts int_info;have H1:=Lh h1;have H2:=Lh h2;have S1:=Lh s1;have S2:=Lh s2;have D1:=Lh d1;have D2:=Lh d2
 have hA:n=0\/∃ b o,a1=some ⟨b,o,none⟩:=by
  by_cases h0:n=0
  ·exact qM h0
  ·exact qO (s1.some_of (by omega))
 have hB:m=0\/∃ b o,a2=some ⟨b,o,none⟩:=by
  by_cases h0:m=0
  ·exact qM h0
  ·exact qO (s2.some_of (by omega))
 clear h1 h2 s1 s2 d1 d2
 go_enter Tryz.func119,Tryz.ntmps119
 go_wp2_with fail
 go_loopw [5,6,7] (fun ov cv iv wr=>∃ (k c:Nat) (l:List Nat),iv=.int .i64 k/\cv=.int .i64 c/\c<=1/\k<=max n m+1/\(max n m<k->c=0)/\l.length=k/\ZD l/\wr.ownsRow w.heap.size 3 1 ov k (inC l)/\zval l+10000 ^ k*c=zval (la.take k)+zval (lb.take k)/\Ext w wr) (fun _ _ iv _=>max n m+1-(intOf iv).toNat)
 case atStart=>exact ⟨0,0,[],rfl,rfl,by omega,by omega,fun _=>rfl,rfl,ZD.nil,(show w.ownsRow w.heap.size 3 1 (.slice none 0 0) 0 (inC []) from World.ownsRow_nil _ _ _ _),by simp [zval],Ext.refl _⟩
 case round =>
  obtain ⟨k,c,l,rfl,rfl,hc1,hkm,hkc,hl,hd,hown,hval,hEr⟩:=hrel;have Hl:=Lh hl;have Hd:=Lh hd;have Hval:=Lh hval;have Hkc:=Lh hkc;have Hown:=Lh hown;clear hl hd hval hkc hown
  by_cases hgo:k<n\/k<m\/0<c
  ·have hk2:k<=max n m:=by
    rcases hgo with h | h | h
    ·omega
    ·omega
    ·apply yP;intro h3;have:=Hkc.out h3;omega
   have hxe:∃ x,x<10000/\zval (la.take (k+1))=zval (la.take k)+10000 ^ k*x/\((k<n/\∃ b o,a1=some ⟨b,o,none⟩/\wr.cell? ⟨b,o+k,none⟩=some (.int .i64 (x:Nat)))\/(¬ k<n/\x=0)):=by
    by_cases h:k<n
    ·rcases hA with h0 | ⟨b,o,rfl⟩
     ·omega
     ·exact ⟨la.getD k 0,D1.out.get k,zval_take_in (by rw [H1.out];exact h),qM ⟨h,b,o,rfl,(S1.out.ext hEr).at k (by rw [H1.out];exact h)⟩⟩
    ·exact ⟨0,by omega,zval_take_out (by rw [H1.out];exact h),qO ⟨h,rfl⟩⟩
   have hye:∃ y,y<10000/\zval (lb.take (k+1))=zval (lb.take k)+10000 ^ k*y/\((k<m/\∃ b o,a2=some ⟨b,o,none⟩/\wr.cell? ⟨b,o+k,none⟩=some (.int .i64 (y:Nat)))\/(¬ k<m/\y=0)):=by
    by_cases h:k<m
    ·rcases hB with h0 | ⟨b,o,rfl⟩
     ·omega
     ·exact ⟨lb.getD k 0,D2.out.get k,zval_take_in (by rw [H2.out];exact h),qM ⟨h,b,o,rfl,(S2.out.ext hEr).at k (by rw [H2.out];exact h)⟩⟩
    ·exact ⟨0,by omega,zval_take_out (by rw [H2.out];exact h),qO ⟨h,rfl⟩⟩
   obtain ⟨x,hx,hxv,hxc⟩:=hxe;obtain ⟨y,hy,hyv,hyc⟩:=hye;have Hstep:=Lh (zval_step Hl.out hxv hyv Hval.out);obtain ⟨dg,hdg⟩:∃ dg,(c+x+y) % 10000=dg:=⟨_,rfl⟩;obtain ⟨c',hc'⟩:∃ c',(c+x+y) / 10000=c':=⟨_,rfl⟩;rw [hdg,hc'] at Hstep
   have hdl:dg<10000:=by omega
   have hcl:c'<=1:=by omega
   have Hc0:Hid (max n m<k+1->c'=0):=by
    intro h3
    rcases hxc with ⟨h,_⟩ | ⟨_,rfl⟩
    ·omega
    ·rcases hyc with ⟨h,_⟩ | ⟨_,rfl⟩
     ·omega
     ·omega
   have rr:((c:Int)+(x:Int)+(y:Int)).tmod 10000=(dg:Int):=by rw [yH (by omega)];omega
   have qq:((c:Int)+(x:Int)+(y:Int)).tdiv 10000=(c':Int):=by rw [yC (by omega)];omega
   clear hdg hc' hxv hyv
   rcases hxc with ⟨hkn,b,o,rfl,hcx⟩ | ⟨hkn,rfl⟩
   ·have ikn:(k:Int)<(n:Int):=by omega
    rcases hyc with ⟨hkm2,b2,o2,rfl,hcy⟩ | ⟨hkm2,rfl⟩
    ·have ikm:(k:Int)<(m:Int):=by omega
     clear hgo
     go_wp2_with (at_builtin;refine yL _ rfl _ _ 31 rfl w.heap.size 3 i0 (.int .i64 0) 1 8 yM hi hz0 hz1 hz2 rfl (by decide) _ k (inC l) rfl (Hown.out.alloc _) ⟨wr.heap.size,0,none⟩ 1 1 [.int .i64 (dg:Int)] rfl rfl (new_int wr _ _) (one_int _) (by unfold maxLen;omega) (by omega) (qL hEr.size (ext_alloc wr _).size) ?_;intro v' w' hown' hgrow' _)
     go_roundw
     case rel=>exact ⟨k+1,c',l++[dg],by go_num,rfl,hcl,by omega,Hc0.out,by rw [qT,Hl.out];rfl,Hd.out.snoc hdl,by rw [inC_snoc];exact hown',Hstep.out,ext_grown (hEr.trans (ext_alloc wr _)) hgrow' (fun j hj=>(Hown.out.lt j hj).1)⟩
     case measure=>simp [intOf];omega
    ·have ikm:¬ (k:Int)<(m:Int):=by omega
     have rr':((c:Int)+(x:Int)).tmod 10000=(dg:Int):=by simpa using rr
     have qq':((c:Int)+(x:Int)).tdiv 10000=(c':Int):=by simpa using qq
     clear hgo rr qq
     go_wp2_with (at_builtin;refine yL _ rfl _ _ 31 rfl w.heap.size 3 i0 (.int .i64 0) 1 8 yM hi hz0 hz1 hz2 rfl (by decide) _ k (inC l) rfl (Hown.out.alloc _) ⟨wr.heap.size,0,none⟩ 1 1 [.int .i64 (dg:Int)] rfl rfl (new_int wr _ _) (one_int _) (by unfold maxLen;omega) (by omega) (qL hEr.size (ext_alloc wr _).size) ?_;intro v' w' hown' hgrow' _)
     go_roundw
     case rel=>exact ⟨k+1,c',l++[dg],by go_num,rfl,hcl,by omega,Hc0.out,by rw [qT,Hl.out];rfl,Hd.out.snoc hdl,by rw [inC_snoc];exact hown',Hstep.out,ext_grown (hEr.trans (ext_alloc wr _)) hgrow' (fun j hj=>(Hown.out.lt j hj).1)⟩
     case measure=>simp [intOf];omega
   ·have ikn:¬ (k:Int)<(n:Int):=by omega
    rcases hyc with ⟨hkm2,b2,o2,rfl,hcy⟩ | ⟨hkm2,rfl⟩
    ·have ikm:(k:Int)<(m:Int):=by omega
     have rr':((c:Int)+(y:Int)).tmod 10000=(dg:Int):=by simpa using rr
     have qq':((c:Int)+(y:Int)).tdiv 10000=(c':Int):=by simpa using qq
     clear hgo rr qq
     go_wp2_with (at_builtin;refine yL _ rfl _ _ 31 rfl w.heap.size 3 i0 (.int .i64 0) 1 8 yM hi hz0 hz1 hz2 rfl (by decide) _ k (inC l) rfl (Hown.out.alloc _) ⟨wr.heap.size,0,none⟩ 1 1 [.int .i64 (dg:Int)] rfl rfl (new_int wr _ _) (one_int _) (by unfold maxLen;omega) (by omega) (qL hEr.size (ext_alloc wr _).size) ?_;intro v' w' hown' hgrow' _)
     go_roundw
     case rel=>exact ⟨k+1,c',l++[dg],by go_num,rfl,hcl,by omega,Hc0.out,by rw [qT,Hl.out];rfl,Hd.out.snoc hdl,by rw [inC_snoc];exact hown',Hstep.out,ext_grown (hEr.trans (ext_alloc wr _)) hgrow' (fun j hj=>(Hown.out.lt j hj).1)⟩
     case measure=>simp [intOf];omega
    ·have ikm:¬ (k:Int)<(m:Int):=by omega
     have ic:(0:Int)<(c:Int):=by omega
     have rr':((c:Int)).tmod 10000=(dg:Int):=by simpa using rr
     have qq':((c:Int)).tdiv 10000=(c':Int):=by simpa using qq
     clear hgo rr qq
     go_wp2_with (at_builtin;refine yL _ rfl _ _ 31 rfl w.heap.size 3 i0 (.int .i64 0) 1 8 yM hi hz0 hz1 hz2 rfl (by decide) _ k (inC l) rfl (Hown.out.alloc _) ⟨wr.heap.size,0,none⟩ 1 1 [.int .i64 (dg:Int)] rfl rfl (new_int wr _ _) (one_int _) (by unfold maxLen;omega) (by omega) (qL hEr.size (ext_alloc wr _).size) ?_;intro v' w' hown' hgrow' _)
     go_roundw
     case rel=>exact ⟨k+1,c',l++[dg],by go_num,rfl,hcl,by omega,Hc0.out,by rw [qT,Hl.out];rfl,Hd.out.snoc hdl,by rw [inC_snoc];exact hown',Hstep.out,ext_grown (hEr.trans (ext_alloc wr _)) hgrow' (fun j hj=>(Hown.out.lt j hj).1)⟩
     case measure=>simp [intOf];omega
  ·have hfin:zval l=zval la+zval lb:=by
    have hc0:c=0:=by omega
    have hv:=Hval.out;rw [hc0,Nat.mul_zero,Nat.add_zero,qB (by rw [H1.out];omega),qB (by rw [H2.out];omega)] at hv;exact hv
   have Hfin:=Lh hfin
   have g1:¬ (k:Int)<(n:Int):=by omega
   have g2:¬ (k:Int)<(m:Int):=by omega
   obtain rfl:c=0:=by omega
   obtain ⟨a',c',rfl,q1,q2,q3,q4⟩:=iseg_of_own Hown.out;clear hgo hfin
   go_wp2_with fail
   go_ret
   exact ⟨a',l,k,c',rfl,q3,q1,q2,q4,Hd.out,Hfin.out,by omega,hEr⟩
theorem zsub_step {l la lb:List Nat} {k c c' x y dg:Nat} (hl:l.length=k) (hx:zval (la.take (k+1))=zval (la.take k)+10000 ^ k*x) (hy:zval (lb.take (k+1))=zval (lb.take k)+10000 ^ k*y) (h:zval l+zval (lb.take k)=zval (la.take k)+10000 ^ k*c) (hd:dg+c+y=x+10000*c') :
  zval (l++[dg])+zval (lb.take (k+1))=zval (la.take (k+1))+10000 ^ (k+1)*c':=by
 rw [zval_snoc,hl,hx,hy,jK]
 have e2:10000 ^ k*(dg+c+y)=10000 ^ k*(x+10000*c'):=by rw [hd]
 rw [qN,qN,qN,<-jW] at e2;omega
theorem dsub_any (a1 a2:Option Addr) (la lb:List Nat) (n m c1 c2:Nat) (w:World) (h1:la.length=n) (h2:lb.length=m) (s1:ISeg w a1 la) (s2:ISeg w a2 lb) (d1:ZD la) (d2:ZD lb) (hn:n<=1000000) (hmn:m<=n) (hle:zval lb<=zval la) :
  Calls Tryz.prog 121 #[.slice a1 n c1,.slice a2 m c2] w fun e w'=>∃ (a':Option Addr) (l':List Nat) (n' c':Nat),e=.returned (.slice a' n' c')/\l'.length=n'/\n'<=c'/\c'<=maxLen/\ISeg w' a' l'/\ZD l'/\Hid (zval l'+zval lb=zval la)/\n'<=n/\Ext w w':=by
 obtain ⟨i0,hi,hz0,hz1,hz2⟩:=info_parts int_info;have H1:=Lh h1;have H2:=Lh h2;have S1:=Lh s1;have S2:=Lh s2;have D1:=Lh d1;have D2:=Lh d2;have Hle:=Lh hle
 have hA:n=0\/∃ b o,a1=some ⟨b,o,none⟩:=by
  by_cases h0:n=0
  ·exact qM h0
  ·exact qO (s1.some_of (by omega))
 have hB:m=0\/∃ b o,a2=some ⟨b,o,none⟩:=by
  by_cases h0:m=0
  ·exact qM h0
  ·exact qO (s2.some_of (by omega))
 clear h1 h2 s1 s2 d1 d2 hle
 go_enter Tryz.func121,Tryz.ntmps121
 go_wp2_with fail
 go_loopw [5,6,7] (fun ov cv iv wr=>∃ (k c:Nat) (l:List Nat),iv=.int .i64 k/\cv=.int .i64 c/\c<=1/\k<=n/\l.length=k/\ZD l/\wr.ownsRow w.heap.size 3 1 ov k (inC l)/\zval l+zval (lb.take k)=zval (la.take k)+10000 ^ k*c/\Ext w wr) (fun _ _ iv _=>n-(intOf iv).toNat)
 case atStart=>exact ⟨0,0,[],rfl,rfl,by omega,by omega,rfl,ZD.nil,(show w.ownsRow w.heap.size 3 1 (.slice none 0 0) 0 (inC []) from World.ownsRow_nil _ _ _ _),by simp [zval],Ext.refl _⟩
 case round =>
  obtain ⟨k,c,l,rfl,rfl,hc1,hkn,hl,hd,hown,hval,hEr⟩:=hrel;have Hl:=Lh hl;have Hd:=Lh hd;have Hval:=Lh hval;have Hown:=Lh hown;clear hl hd hval hown
  by_cases hlt:k<n
  ·rcases hA with h0 | ⟨b,o,rfl⟩
   ·omega
   have hcx:=(S1.out.ext hEr).at k (by rw [H1.out];exact hlt);have hx:=D1.out.get k;have hxv:=zval_take_in (l:=la) (k:=k) (by rw [H1.out];exact hlt);obtain ⟨x,ex⟩:∃ x,la.getD k 0=x:=⟨_,rfl⟩;rw [ex] at hcx hx hxv
   have ikn:(k:Int)<(n:Int):=by omega
   have hye:∃ y,y<10000/\zval (lb.take (k+1))=zval (lb.take k)+10000 ^ k*y/\((k<m/\∃ b o,a2=some ⟨b,o,none⟩/\wr.cell? ⟨b,o+k,none⟩=some (.int .i64 (y:Nat)))\/(¬ k<m/\y=0)):=by
    by_cases h:k<m
    ·rcases hB with h0 | ⟨b,o,rfl⟩
     ·omega
     ·exact ⟨lb.getD k 0,D2.out.get k,zval_take_in (by rw [H2.out];exact h),qM ⟨h,b,o,rfl,(S2.out.ext hEr).at k (by rw [H2.out];exact h)⟩⟩
    ·exact ⟨0,by omega,zval_take_out (by rw [H2.out];exact h),qO ⟨h,rfl⟩⟩
   obtain ⟨y,hy,hyv,hyc⟩:=hye;clear ex
   by_cases hneg:x<c+y
   ·obtain ⟨dg,hdg⟩:∃ dg,x+10000-(c+y)=dg:=⟨_,rfl⟩
    have hdl:dg<10000:=by omega
    have Hstep:=Lh (zsub_step (c':=1) (dg:=dg) Hl.out hxv hyv Hval.out (by omega))
    have i1:(x:Int)-(c:Int)-(y:Int)<0:=by omega
    have i2:(x:Int)-(c:Int)-(y:Int)+10000=(dg:Int):=by omega
    clear hdg hxv hyv
    rcases hyc with ⟨hkm2,b2,o2,rfl,hcy⟩ | ⟨hkm2,rfl⟩
    ·have ikm:(k:Int)<(m:Int):=by omega
     clear hneg
     go_wp2_with (at_builtin;refine yL _ rfl _ _ 31 rfl w.heap.size 3 i0 (.int .i64 0) 1 8 yM hi hz0 hz1 hz2 rfl (by decide) _ k (inC l) rfl (Hown.out.alloc _) ⟨wr.heap.size,0,none⟩ 1 1 [.int .i64 (dg:Int)] rfl rfl (new_int wr _ _) (one_int _) (by unfold maxLen;omega) (by omega) (qL hEr.size (ext_alloc wr _).size) ?_;intro v' w' hown' hgrow' _)
     go_roundw
     case rel=>exact ⟨k+1,1,l++[dg],by go_num,rfl,by omega,by omega,by rw [qT,Hl.out];rfl,Hd.out.snoc hdl,by rw [inC_snoc];exact hown',Hstep.out,ext_grown (hEr.trans (ext_alloc wr _)) hgrow' (fun j hj=>(Hown.out.lt j hj).1)⟩
     case measure=>simp [intOf];omega
    ·have ikm:¬ (k:Int)<(m:Int):=by omega
     have i1':(x:Int)-(c:Int)<0:=by omega
     have i2':(x:Int)-(c:Int)+10000=(dg:Int):=by omega
     clear hneg i1 i2
     go_wp2_with (at_builtin;refine yL _ rfl _ _ 31 rfl w.heap.size 3 i0 (.int .i64 0) 1 8 yM hi hz0 hz1 hz2 rfl (by decide) _ k (inC l) rfl (Hown.out.alloc _) ⟨wr.heap.size,0,none⟩ 1 1 [.int .i64 (dg:Int)] rfl rfl (new_int wr _ _) (one_int _) (by unfold maxLen;omega) (by omega) (qL hEr.size (ext_alloc wr _).size) ?_;intro v' w' hown' hgrow' _)
     go_roundw
     case rel=>exact ⟨k+1,1,l++[dg],by go_num,rfl,by omega,by omega,by rw [qT,Hl.out];rfl,Hd.out.snoc hdl,by rw [inC_snoc];exact hown',Hstep.out,ext_grown (hEr.trans (ext_alloc wr _)) hgrow' (fun j hj=>(Hown.out.lt j hj).1)⟩
     case measure=>simp [intOf];omega
   ·obtain ⟨dg,hdg⟩:∃ dg,x-(c+y)=dg:=⟨_,rfl⟩
    have hdl:dg<10000:=by omega
    have Hstep:=Lh (zsub_step (c':=0) (dg:=dg) Hl.out hxv hyv Hval.out (by omega))
    have i2:(x:Int)-(c:Int)-(y:Int)=(dg:Int):=by omega
    clear hdg hxv hyv
    rcases hyc with ⟨hkm2,b2,o2,rfl,hcy⟩ | ⟨hkm2,rfl⟩
    ·have ikm:(k:Int)<(m:Int):=by omega
     clear hneg
     go_wp2_with (at_builtin;refine yL _ rfl _ _ 31 rfl w.heap.size 3 i0 (.int .i64 0) 1 8 yM hi hz0 hz1 hz2 rfl (by decide) _ k (inC l) rfl (Hown.out.alloc _) ⟨wr.heap.size,0,none⟩ 1 1 [.int .i64 (dg:Int)] rfl rfl (new_int wr _ _) (one_int _) (by unfold maxLen;omega) (by omega) (qL hEr.size (ext_alloc wr _).size) ?_;intro v' w' hown' hgrow' _)
     go_roundw
     case rel=>exact ⟨k+1,0,l++[dg],by go_num,rfl,by omega,by omega,by rw [qT,Hl.out];rfl,Hd.out.snoc hdl,by rw [inC_snoc];exact hown',Hstep.out,ext_grown (hEr.trans (ext_alloc wr _)) hgrow' (fun j hj=>(Hown.out.lt j hj).1)⟩
     case measure=>simp [intOf];omega
    ·have ikm:¬ (k:Int)<(m:Int):=by omega
     have i2':(x:Int)-(c:Int)=(dg:Int):=by omega
     clear hneg i2
     go_wp2_with (at_builtin;refine yL _ rfl _ _ 31 rfl w.heap.size 3 i0 (.int .i64 0) 1 8 yM hi hz0 hz1 hz2 rfl (by decide) _ k (inC l) rfl (Hown.out.alloc _) ⟨wr.heap.size,0,none⟩ 1 1 [.int .i64 (dg:Int)] rfl rfl (new_int wr _ _) (one_int _) (by unfold maxLen;omega) (by omega) (qL hEr.size (ext_alloc wr _).size) ?_;intro v' w' hown' hgrow' _)
     go_roundw
     case rel=>exact ⟨k+1,0,l++[dg],by go_num,rfl,by omega,by omega,by rw [qT,Hl.out];rfl,Hd.out.snoc hdl,by rw [inC_snoc];exact hown',Hstep.out,ext_grown (hEr.trans (ext_alloc wr _)) hgrow' (fun j hj=>(Hown.out.lt j hj).1)⟩
     case measure=>simp [intOf];omega
  ·obtain rfl:k=n:=by omega
   have hfin:zval l+zval lb=zval la:=by
    have hv:=Hval.out;rw [qB (l:=lb) (by rw [H2.out];exact hmn),qB (l:=la) (by rw [H1.out];exact qZ _)] at hv;have hb:=zval_lt Hd.out;rw [Hl.out] at hb;have:=Hle.out
    have hc:c=0\/c=1:=by omega
    rcases hc with rfl | rfl
    ·simpa using hv
    ·rw [Nat.mul_one] at hv;omega
   have Hfin:=Lh hfin
   have g1:¬ (k:Int)<(k:Int):=by omega
   obtain ⟨a',c',rfl,q1,q2,q3,q4⟩:=iseg_of_own Hown.out;clear hfin
   go_wp2_with fail
   go_ret
   exact ⟨a',l,k,c',rfl,q3,q1,q2,q4,Hd.out,Hfin.out,qZ _,hEr⟩
end Go.Proofs.YtjfomkoedgipjaaGreatDoor
