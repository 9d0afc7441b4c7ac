/-
  Texts of numbers, read again, in plain lists. Reading numbers: Parse. And what results' cells do to words: nothing. divTowardsNought. Div: quotient and rest. withoutSign, halve, double.
-/
import Derived.Test.YtiicfpdiehgikaaGreatDoorS06TxM
namespace Go.Proofs.YtiicfpdiehgikaaGreatDoor
set_option maxRecDepth 100000
set_option maxHeartbeats 2000000
open Go.RowKit
theorem bs_mk (l:List UInt8):bs ⟨l.toArray⟩=l.map UInt8.toNat:=by simp [bs]
theorem allD_of_dcount (l:List Nat) (h:dcount l=l.length):AllD l:=by
 induction l with
 | nil=>intro t ht;simp at ht
 | cons x r ih =>
  by_cases hx:isD x=true
  ·have h2:dcount r=r.length:=by
    unfold dcount at h ⊢
    rw [List.takeWhile_cons,if_pos hx] at h
    simpa using h
   intro t ht
   cases t with
   | zero=>simpa using hx
   | succ k=>have:=ih h2 k (by simpa using ht);simpa using this
  ·unfold dcount at h
   rw [List.takeWhile_cons,if_neg hx] at h
   simp at h
theorem dcount_of_allD (l:List Nat) (h:AllD l):dcount l=l.length :=
 dcount_of l _ (Nat.le_refl _) h (Or.inl rfl)
theorem allD_of_scan (l:List Nat) (h1:(scanN l).2=true) (h2:¬ (scanN l).1<l.length):AllD (l.drop (sgl l)):=by
 unfold scanN at h1 h2
 by_cases h48:0<l.length∧l.getD 0 0=48
 ·rw [if_pos h48] at h2
  have hl:l.length=1:=by have:=h48.1;simp at h2;omega
  obtain ⟨x,rfl⟩:=List.length_eq_one_iff.1 hl
  have hx:x=48:=by simpa using h48.2
  subst hx
  have:sgl [48]=0:=by decide
  rw [this]
  intro t ht
  have ht0:t=0:=by simpa using ht
  subst ht0
  decide
 ·rw [if_neg h48] at h1 h2
  have hle:=spos_le (l.drop (sgl l))
  have hsl:=sgl_le l
  have hdl:(l.drop (sgl l)).length=l.length-sgl l:=List.length_drop
  have hpos:0<spos (l.drop (sgl l)):=by simpa using h1
  have hall:spos (l.drop (sgl l))=(l.drop (sgl l)).length:=by
   simp only [Nat.not_lt] at h2;omega
  unfold spos at hall hpos
  split at hall
  ·rename_i hc
   rw [if_pos hc] at hpos
   exact absurd hpos (Nat.lt_irrefl _)
  ·exact allD_of_dcount _ hall
theorem digit_toNat (k:Nat) (h:k<10):(UInt8.ofNat (48+k)).toNat=48+k:=by
 rw [UInt8.toNat_ofNat']
 omega
def decN (v:Nat):List Nat:=(Lib.decDigits v).map UInt8.toNat
theorem decN_small {v:Nat} (h:v<10):decN v=[48+v]:=by
 unfold decN
 rw [Lib.decDigits,dif_pos h,List.map_cons,List.map_nil,digit_toNat v h]
theorem decN_big {v:Nat} (h:¬ v<10):decN v=decN (v / 10)++[48+v % 10]:=by
 unfold decN
 rw [Lib.decDigits,dif_neg h,List.map_append,List.map_cons,List.map_nil,digit_toNat (v % 10) (by omega)]
theorem decN_length (v:Nat):(decN v).length=Lib.nDigits v:=by unfold decN;rw [List.length_map,Lib.decDigits_length]
theorem decN_dval (v:Nat):dval (decN v)=v:=by
 induction v using Nat.strongRecOn with
 | _ v ih =>
  by_cases h:v<10
  ·rw [decN_small h];simp [dval]
  ·rw [decN_big h,dval_snoc,ih (v / 10) (by omega)];omega
theorem allD_snoc (l:List Nat) (x:Nat) (h:AllD l) (hx:isD x=true):AllD (l++[x]):=by
 intro t ht
 rw [List.length_append] at ht
 by_cases h1:t<l.length
 ·have:=h t h1
  rw [List.getD_eq_getElem?_getD] at this ⊢
  rw [List.getElem?_append_left h1];exact this
 ·have ht1:t=l.length:=by simp at ht;omega
  subst ht1
  rw [List.getD_eq_getElem?_getD,List.getElem?_append_right (Nat.le_refl _)]
  simpa using hx
theorem isD_digit (k:Nat) (h:k<10):isD (48+k)=true:=by
 simp only [isD,decide_eq_true_eq];omega
theorem decN_allD (v:Nat):AllD (decN v):=by
 induction v using Nat.strongRecOn with
 | _ v ih =>
  by_cases h:v<10
  ·rw [decN_small h]
   exact allD_snoc [] _ (fun t ht=>absurd ht (by simp)) (isD_digit v h)
  ·rw [decN_big h];exact allD_snoc _ _ (ih (v / 10) (by omega)) (isD_digit _ (by omega))
theorem decN_head (v:Nat):∃ d r,decN v=d :: r∧isD d=true∧(d=48→v=0):=by
 induction v using Nat.strongRecOn with
 | _ v ih =>
  by_cases h:v<10
  ·exact ⟨48+v,[],decN_small h,isD_digit v h,by omega⟩
  ·obtain ⟨d,r,e,h1,h2⟩:=ih (v / 10) (by omega)
   exact ⟨d,r++[48+v % 10],by rw [decN_big h,e];rfl,h1,fun hd=>by have:=h2 hd;omega⟩
def txt (z:Int):List Nat:=(Lib.itoa z).map UInt8.toNat
theorem txt_neg {z:Int} (h:z<0):txt z=45 :: decN z.natAbs:=by
 unfold txt Lib.itoa decN;rw [if_pos h];rfl
theorem txt_pos {z:Int} (h:¬ z<0):txt z=decN z.natAbs:=by
 unfold txt Lib.itoa decN;rw [if_neg h]
 have:z.toNat=z.natAbs:=by omega
 rw [this]
theorem spos_dec (v:Nat) (h:v≠0):spos (decN v)=(decN v).length:=by
 obtain ⟨d,r,e,_,h2⟩:=decN_head v
 unfold spos
 rw [if_neg,dcount_of_allD _ (decN_allD v)]
 rw [e]
 rintro (hc | hc)
 ·simp at hc
 ·exact h (h2 (by simpa using hc))
theorem txt_sgl (z:Int):sgl (txt z)=if z<0 then 1 else 0:=by
 by_cases h:z<0
 ·rw [txt_neg h,if_pos h];simp [sgl]
 ·rw [txt_pos h,if_neg h]
  obtain ⟨d,r,e,h1,_⟩:=decN_head z.natAbs
  rw [e]
  simp only [isD,decide_eq_true_eq] at h1
  unfold sgl
  rw [if_neg (by simp;omega)]
theorem txt_drop (z:Int):(txt z).drop (sgl (txt z))=decN z.natAbs:=by
 rw [txt_sgl]
 by_cases h:z<0
 ·rw [if_pos h,txt_neg h];rfl
 ·rw [if_neg h,txt_pos h];rfl
theorem txt_scan (z:Int):scanN (txt z)=((txt z).length,true):=by
 have hd:=txt_drop z
 obtain ⟨d,r,e,h1,h2⟩:=decN_head z.natAbs
 simp only [isD,decide_eq_true_eq] at h1
 unfold scanN
 by_cases h48:0<(txt z).length∧(txt z).getD 0 0=48
 ·rw [if_pos h48]
  by_cases h:z<0
  ·rw [txt_neg h] at h48;simp at h48
  ·rw [txt_pos h] at h48 ⊢
   rw [e] at h48
   have h0:=h2 (by simpa using h48.2)
   rw [h0,decN_small (by omega)];rfl
 ·rw [if_neg h48,hd]
  have hz:z.natAbs≠0:=by
   intro h0
   apply h48
   rw [txt_pos (by omega),h0,decN_small (by omega)]
   exact ⟨by simp,by simp⟩
  have hs:=spos_dec _ hz
  have hl:0<(decN z.natAbs).length:=by rw [e];simp
  rw [hs]
  have hlen:sgl (txt z)+(decN z.natAbs).length=(txt z).length:=by
   rw [txt_sgl]
   by_cases h:z<0
   ·rw [if_pos h,txt_neg h,List.length_cons];omega
   ·rw [if_neg h,txt_pos h];omega
  rw [hlen,decide_eq_true hl]
def limN:Nat:=1000
def Lim:Nat:=10 ^ limN
theorem lim_le (k:Nat) (h:k≤1000):10 ^ k≤Lim:=by
 unfold Lim
 exact Nat.pow_le_pow_right (by decide) h
theorem lim_pos:0<Lim:=by unfold Lim;exact Nat.pow_pos (by decide)
theorem txt_val (z:Int):sgn (decide (0<sgl (txt z))) (dval ((txt z).drop (sgl (txt z))))=z:=by
 rw [txt_drop,decN_dval,txt_sgl]
 by_cases h:z<0
 ·rw [if_pos h];simp [sgn];omega
 ·rw [if_neg h];simp [sgn];omega
def pz (l:List Nat):Int:=if (scanN l).2=true∧¬ (scanN l).1<l.length∧¬ 1000<l.length-sgl l then sgn (decide (0<sgl l)) (dval (l.drop (sgl l))) else 0
def pcode (l:List Nat):Nat:=if (scanN l).2=true∧¬ (scanN l).1<l.length then (if 1000<l.length-sgl l then 2 else 0) else 1
def pat (l:List Nat):Nat:=if (scanN l).2=true∧¬ (scanN l).1<l.length then 0 else (scanN l).1
theorem pz_lt (l:List Nat):(pz l).natAbs<Lim:=by
 unfold pz
 split
 ·rename_i h
  have ha:=allD_of_scan l h.1 h.2.1
  have h1:=dval_lt _ ha
  rw [List.length_drop] at h1
  have h2:=lim_le (l.length-sgl l) (by omega)
  have h3:(sgn (decide (0<sgl l)) (dval (l.drop (sgl l)))).natAbs=dval (l.drop (sgl l)):=by
   unfold sgn;split<;>simp
  rw [h3]
  exact Nat.lt_of_lt_of_le h1 h2
 ·exact lim_pos
def Keep64 (w w':World):Prop:=w.heap.size≤w'.heap.size∧∀ b o x,w.cell? ⟨b,o,none⟩=some (.int .u64 x)→w'.cell? ⟨b,o,none⟩=some (.int .u64 x)
theorem Keep64.refl (w:World):Keep64 w w:=⟨Nat.le_refl _,fun _ _ _ h=>h⟩
theorem Keep64.trans {a b c:World} (h:Keep64 a b) (k:Keep64 b c):Keep64 a c:=⟨Nat.le_trans h.1 k.1,fun _ _ _ q=>k.2 _ _ _ (h.2 _ _ _ q)⟩
theorem Keep64.ext {w w':World} (h:Ext w w'):Keep64 w w' :=
 ⟨h.size,fun b o _ q=>(h.cell (p:=⟨b,o,none⟩) (World.block_lt_of_cell? w ⟨b,o,none⟩ q)).trans q⟩
theorem Seg.keep64 {w w':World} {ao:Option Addr} {l:List Nat} (h:Seg w ao l) (k:Keep64 w w'):Seg w' ao l:=by
 rcases h with h | ⟨b,o,rfl,hb,hc⟩
 ·exact Or.inl h
 ·exact Or.inr ⟨b,o,rfl,Nat.lt_of_lt_of_le hb k.1,fun t ht=>k.2 _ _ _ (hc t ht)⟩
theorem IsInt.keep64 {w w':World} {sm:Int} {ao:Option Addr} {n c:Nat} {z:Int} (h:IsInt w sm ao n c z) (k:Keep64 w w'):IsInt w' sm ao n c z:=by
 rcases h with h | ⟨b,o,l,h1,h2,h3,h4,h5,h6⟩
 ·exact Or.inl h
 ·exact Or.inr ⟨b,o,l,h1,h2,h3,h4,h5.keep64 k,h6⟩
def NotW (w:World) (p:Addr):Prop:=∃ u,w.cell? p=some u∧∀ x,u≠.int .u64 x
theorem NotW.i64 {w:World} {p:Addr} {x:Int} (h:w.cell? p=some (.int .i64 x)):NotW w p:=⟨_,h,fun _ h=>by cases h⟩
theorem NotW.slice {w:World} {p:Addr} {a:Option Addr} {n c:Nat} (h:w.cell? p=some (.slice a n c)):NotW w p:=⟨_,h,fun _ h=>by cases h⟩
theorem NotW.set {w:World} {p q:Addr} {v:Value} (h:NotW w q) (hp:NotW w p) (hv:∀ x,v≠.int .u64 x):NotW (w.setCell p v) q:=by
 by_cases e:q=p
 ·subst e
  obtain ⟨u,hu,_⟩:=hp
  exact ⟨v,World.cell?_setCell_same _ _ _ hu,hv⟩
 ·obtain ⟨u,hu,h2⟩:=h
  exact ⟨u,by rw [World.cell?_setCell_other _ _ _ _ (fun h=>e h.symm)];exact hu,h2⟩
theorem Keep64.set {a w:World} {p:Addr} (h:Keep64 a w) (hp:NotW w p) (v:Value):Keep64 a (w.setCell p v):=by
 refine h.trans ⟨by simp [World.setCell],fun b o x hx=>?_⟩
 by_cases e:(⟨b,o,none⟩:Addr)=p
 ·subst e
  obtain ⟨u,hu,h2⟩:=hp
  rw [hu] at hx
  simp only [Option.some.injEq] at hx
  exact absurd hx (h2 x)
 ·rw [World.cell?_setCell_other _ _ _ _ (fun h=>e h.symm)];exact hx
theorem notW_i64 (x y:Int):Value.int .i64 x≠.int .u64 y:=by intro h;cases h
theorem notW_slice (a:Option Addr) (n c:Nat) (y:Int):Value.slice a n c≠.int .u64 y:=by intro h;cases h
theorem Keep64.set2 {w:World} {p q:Addr} {u:Value} (hp:NotW w p) (hq:NotW w q) (hu:∀ x,u≠.int .u64 x) (v:Value):Keep64 w ((w.setCell p u).setCell q v) :=
 ((Keep64.refl w).set hp u).set (hq.set hp hu) v
theorem Keep64.set4 {w:World} {p q r s:Addr} {u v x:Value} (hp:NotW w p) (hq:NotW w q) (hr:NotW w r) (hs:NotW w s) (hu:∀ y,u≠.int .u64 y) (hv:∀ y,v≠.int .u64 y) (hx:∀ y,x≠.int .u64 y) (t:Value) :
  Keep64 w ((((w.setCell p u).setCell q v).setCell r x).setCell s t) :=
 (Keep64.set2 hp hq hu v).trans (Keep64.set2 ((hr.set hp hu).set (hq.set hp hu) hv) ((hs.set hp hu).set (hq.set hp hu) hv) hx t)
theorem Ext.set {w W:World} {p:Addr} (h:Ext w W) (hg:w.heap.size≤p.block) (u:Value):Ext w (W.setCell p u):=Below.setCell h hg u
structure FRes (W:World) (g:Nat):Prop where
 lt:g<W.heap.size
 row:W.heap[g]?=some (.cells #[.int .i64 0,.int .i64 0] 30 (0,0))
theorem FRes.ext {W W':World} {g:Nat} (h:FRes W g) (k:Ext W W'):FRes W' g:=⟨Nat.lt_of_lt_of_le h.lt k.size,(k.block _ h.lt).trans h.row⟩
theorem FRes.c0 {W:World} {g:Nat} (h:FRes W g):W.cell? ⟨g,0,none⟩=some (.int .i64 0):=by rw [cell_of_row W g 0 _ _ (0,0) h.row];rfl
theorem FRes.c1 {W:World} {g:Nat} (h:FRes W g):W.cell? ⟨g,1,none⟩=some (.int .i64 0):=by rw [cell_of_row W g 1 _ _ (0,0) h.row];rfl
theorem FRes.f0 {W:World} {g:Nat} (h:FRes W g):W.frozen? ⟨g,0,none⟩=false:=frozen_of_row W g 0 _ _ h.row
theorem FRes.f1 {W:World} {g:Nat} (h:FRes W g):W.frozen? ⟨g,1,none⟩=false:=frozen_of_row W g 1 _ _ h.row
theorem Parse_any (s:ByteArray) (w:World) (hs:s.size≤9223372036854775807) :
  Calls Tryz.prog 137 #[.string s] w fun e w'=>∃ (sm:Int) (a':Option Addr) (n' c':Nat),e=.returned (.tuple #[.agg #[.int .i64 sm,.slice a' n' c'],.agg #[.int .i64 (pcode (bs s):Nat),.int .i64 (pat (bs s):Nat)]])∧IsInt w' sm a' n' c' (pz (bs s))∧Ext w w':=by
 have Hscan:=hid (fun wx=>scanNumber_any s wx hs)
 have Hlong:=hid (fun wx=>tooLong_any s wx hs)
 have hlen:=bs_length s
 obtain ⟨en,hen⟩:∃ en,(scanN (bs s)).1=en:=⟨_,rfl⟩
 obtain ⟨ok,hok⟩:∃ ok,(scanN (bs s)).2=ok:=⟨_,rfl⟩
 rw [hen,hok] at Hscan
 by_cases hbad:ok=true∧¬ en<s.size
 ·obtain ⟨rfl,hlt⟩:=hbad
  have hil:¬ ((en:Nat):Int)<(s.size:Int):=by omega
  by_cases hlg:1000<s.size-sgl (bs s)
  ·have Hz:Hid (pz (bs s)=0):=by show _=_;unfold pz;rw [if_neg];rw [hlen];exact fun h=>h.2.2 hlg
   have Hc:Hid (pcode (bs s)=2):=by show _=_;unfold pcode;rw [if_pos ⟨hok,by rw [hen,hlen];exact hlt⟩,if_pos (by rw [hlen];exact hlg)]
   have Ha:Hid (pat (bs s)=0):=by show _=_;unfold pat;rw [if_pos ⟨hok,by rw [hen,hlen];exact hlt⟩]
   rw [decide_eq_true hlg] at Hlong
   clear hlg hlt hen hok hlen
   rw [Hz.out,Hc.out,Ha.out]
   go_enter Tryz.func137,Tryz.ntmps137
   go_wp2_with fail
   refine (Hscan.out _).mono ?_
   rintro e w1 ⟨rfl,rfl⟩
   go_wp2_with fail
   refine (Hlong.out _).mono ?_
   rintro e w1 ⟨rfl,rfl⟩
   go_wp2_with fail
   exact bodyPost_ret (v:=.tuple #[.agg #[.int .i64 0,.slice none 0 0],.agg #[.int .i64 2,.int .i64 0]]) (by simp [results,Tryz.results137,go_sem]) rfl ⟨0,none,0,0,rfl,IsInt.small _ _ (by omega) (by omega),(Ext.alloc _ _).then _⟩
  ·have Hz:Hid (pz (bs s)=sgn (decide (0<sgl (bs s))) (dval ((bs s).drop (sgl (bs s))))):=by show _=_;unfold pz;rw [if_pos ⟨hok,by rw [hen,hlen];exact hlt,by rw [hlen];exact hlg⟩]
   have Hc:Hid (pcode (bs s)=0):=by show _=_;unfold pcode;rw [if_pos ⟨hok,by rw [hen,hlen];exact hlt⟩,if_neg (by rw [hlen];exact hlg)]
   have Ha:Hid (pat (bs s)=0):=by show _=_;unfold pat;rw [if_pos ⟨hok,by rw [hen,hlen];exact hlt⟩]
   have Hread:=hid (fun wx=>readNumber_any s wx (by rw [hlen];omega) (allD_of_scan _ hok (by rw [hen,hlen];exact hlt)))
   rw [decide_eq_false hlg] at Hlong
   clear hlg hlt hen hok hlen
   rw [Hc.out,Ha.out]
   have hR:Res ((w.alloc (.cells #[.int .i64 0,.slice none 0 0] 24)).alloc (.cells #[.int .i64 0,.int .i64 0] 30)) w.heap.size :=
    ⟨by simp;omega,(Below.heap_alloc _ _ _ (by simp)).trans (heap_alloc_new w _)⟩
   have hF:FRes ((w.alloc (.cells #[.int .i64 0,.slice none 0 0] 24)).alloc (.cells #[.int .i64 0,.int .i64 0] 30)) (w.heap.size+1):=by
    refine ⟨by simp,?_⟩
    have:=heap_alloc_new (w.alloc (.cells #[.int .i64 0,.slice none 0 0] 24)) (.cells #[.int .i64 0,.int .i64 0] 30)
    simpa using this
   have hE:Ext w ((w.alloc (.cells #[.int .i64 0,.slice none 0 0] 24)).alloc (.cells #[.int .i64 0,.int .i64 0] 30)):=(Ext.alloc _ _).then _
   go_enter Tryz.func137,Tryz.ntmps137
   go_wp2_with fail
   generalize (w.alloc (.cells #[.int .i64 0,.slice none 0 0] 24)).alloc (.cells #[.int .i64 0,.int .i64 0] 30)=W0 at *
   refine (Hscan.out _).mono ?_
   rintro e w1 ⟨rfl,rfl⟩
   go_wp2_with fail
   refine (Hlong.out _).mono ?_
   rintro e w1 ⟨rfl,rfl⟩
   go_wp2_with fail
   refine (Hread.out _).mono ?_
   rintro e w3 ⟨s4,a4,n4,c4,rfl,hI4,he4⟩
   have hr4:=hR.ext he4;have hf4:=hF.ext he4
   have k0:=hr4.c0;have k1:=hr4.c1;have g0:=hr4.f0;have g1:=hr4.f1
   have k2:=hf4.c0;have k3:=hf4.c1;have g2:=hf4.f0;have g3:=hf4.f1
   go_wp2_with fail
   exact bodyPost_ret (v:=.tuple #[.agg #[.int .i64 s4,.slice a4 n4 c4],.agg #[.int .i64 0,.int .i64 0]]) (by simp [results,Tryz.results137,go_sem,k0,k1,k2,k3]) rfl
    ⟨s4,a4,n4,c4,rfl,(hI4.cast Hz.out.symm).keep64 (Keep64.set4 (.i64 k0) (.slice k1) (.i64 k2) (.i64 k3) (notW_i64 _) (notW_slice _ _ _) (notW_i64 _) _),((((hE.trans he4).set (Nat.le_refl _) _).set (Nat.le_refl _) _).set (Nat.le_succ _) _).set (Nat.le_succ _) _⟩
 ·have Hz:Hid (pz (bs s)=0):=by show _=_;unfold pz;rw [if_neg];rw [hok,hen,hlen];exact fun h=>hbad ⟨h.1,h.2.1⟩
  have Hc:Hid (pcode (bs s)=1):=by show _=_;unfold pcode;rw [if_neg];rw [hok,hen,hlen];exact hbad
  have Ha:Hid (pat (bs s)=en):=by show _=_;unfold pat;rw [if_neg,hen];rw [hok,hen,hlen];exact hbad
  rw [Hz.out,Hc.out,Ha.out]
  have hcase:ok=false∨(ok=true∧((en:Nat):Int)<(s.size:Int)):=by
   cases ok
   ·exact Or.inl rfl
   ·right;refine ⟨rfl,?_⟩
    have:en<s.size:=Decidable.byContradiction fun h=>hbad ⟨rfl,h⟩
    omega
  clear hbad hen hok hlen
  rcases hcase with rfl | ⟨rfl,hil⟩
  all_goals
   go_enter Tryz.func137,Tryz.ntmps137
   go_wp2_with fail
   refine (Hscan.out _).mono ?_
   rintro e w1 ⟨rfl,rfl⟩
   go_wp2_with fail
   exact bodyPost_ret (v:=.tuple #[.agg #[.int .i64 0,.slice none 0 0],.agg #[.int .i64 1,.int .i64 (en:Nat)]]) (by simp [results,Tryz.results137,go_sem]) rfl ⟨0,none,0,0,rfl,IsInt.small _ _ (by omega) (by omega),(Ext.alloc _ _).then _⟩
theorem tdiv_range (a b:Int) (hb0:b≠0) (hb1:b≠-1) (h1 : -9223372036854775808≤a) (h2:a≤9223372036854775807) : -9223372036854775808≤a.tdiv b∧a.tdiv b≤9223372036854775807:=by
 have hn:(a.tdiv b).natAbs=a.natAbs / b.natAbs:=Int.natAbs_tdiv a b
 by_cases hb:b=1
 ·subst hb;rw [Int.tdiv_one];exact ⟨h1,h2⟩
 ·have h3:2≤b.natAbs:=by omega
  have h4:a.natAbs / b.natAbs≤a.natAbs / 2:=Nat.div_le_div_left h3 (by omega)
  omega
theorem tmod_range (a b:Int) (hb0:b≠0) (h1 : -9223372036854775808≤b) (h2:b≤9223372036854775807) : -9223372036854775808≤a.tmod b∧a.tmod b≤9223372036854775807:=by
 have hn:(a.tmod b).natAbs=a.natAbs % b.natAbs:=Int.natAbs_tmod a b
 have h3:a.natAbs % b.natAbs<b.natAbs:=Nat.mod_lt _ (by omega)
 omega
theorem tdiv_sgn (b1 b2:Bool) (x y:Nat):(sgn b1 x).tdiv (sgn b2 y)=sgn (!(b1 == b2)) (x / y):=by
 cases b1<;>cases b2<;>simp [sgn,Int.neg_tdiv,Int.tdiv_neg]
theorem tmod_sgn (b1 b2:Bool) (x y:Nat):(sgn b1 x).tmod (sgn b2 y)=sgn b1 (x % y):=by
 cases b1<;>cases b2<;>simp [sgn,Int.neg_tmod,Int.tmod_neg]<;>rfl
structure Boxes22 (w W:World) (x1 y1 x2 y2:Value):Prop where
 ext:Ext w W
 size:W.heap.size=w.heap.size+4
 c0:W.cell? ⟨w.heap.size,0,none⟩=some x1
 c1:W.cell? ⟨w.heap.size,1,none⟩=some y1
 d0:W.cell? ⟨w.heap.size+1,0,none⟩=some x2
 d1:W.cell? ⟨w.heap.size+1,1,none⟩=some y2
 res:Res W (w.heap.size+1+1)
 res':Res W (w.heap.size+1+1+1)
theorem boxes22 (w:World) (x1 y1 x2 y2:Value):Boxes22 w ((((w.alloc (.cells #[x1,y1] 24)).alloc (.cells #[x2,y2] 24)).alloc (.cells #[.int .i64 0,.slice none 0 0] 24)).alloc (.cells #[.int .i64 0,.slice none 0 0] 24)) x1 y1 x2 y2:=by
 have hb:=boxes2 w x1 y1 x2 y2
 generalize hW:((w.alloc (.cells #[x1,y1] 24)).alloc (.cells #[x2,y2] 24)).alloc (.cells #[.int .i64 0,.slice none 0 0] 24)=W at *
 have he:=Ext.alloc W (.cells #[.int .i64 0,.slice none 0 0] 24)
 have hs:=hb.size
 refine ⟨hb.ext.then _,by simp [hs],(he.cell (p:=⟨w.heap.size,0,none⟩) (by show w.heap.size<_;omega)).trans hb.c0,(he.cell (p:=⟨w.heap.size,1,none⟩) (by show w.heap.size<_;omega)).trans hb.c1,(he.cell (p:=⟨w.heap.size+1,0,none⟩) (by show w.heap.size+1<_;omega)).trans hb.d0,(he.cell (p:=⟨w.heap.size+1,1,none⟩) (by show w.heap.size+1<_;omega)).trans hb.d1,hb.res.ext he,⟨by simp [hs],?_⟩⟩
 have:=heap_alloc_new W (.cells #[.int .i64 0,.slice none 0 0] 24)
 rw [hs] at this
 exact this
theorem Ext.put {w W:World} {g o:Nat} (h:Ext w W) (hg:w.heap.size≤g) (u:Value):Ext w (W.setCell ⟨g,o,none⟩ u):=Below.setCell h (p:=⟨g,o,none⟩) hg u
theorem Ext.put2 {w W:World} {g o o':Nat} (h:Ext w W) (hg:w.heap.size≤g) (u v:Value):Ext w ((W.setCell ⟨g,o,none⟩ u).setCell ⟨g,o',none⟩ v):=(h.put hg u).put hg v
theorem keepS {w':World} {B g o:Nat} {u x y x2 y2:Value} (hg:B+1<g) (h:w'.cell? ⟨B,0,none⟩=some x∧w'.cell? ⟨B,1,none⟩=some y∧w'.cell? ⟨B+1,0,none⟩=some x2∧w'.cell? ⟨B+1,1,none⟩=some y2) :
  (w'.setCell ⟨g,o,none⟩ u).cell? ⟨B,0,none⟩=some x∧(w'.setCell ⟨g,o,none⟩ u).cell? ⟨B,1,none⟩=some y∧(w'.setCell ⟨g,o,none⟩ u).cell? ⟨B+1,0,none⟩=some x2∧(w'.setCell ⟨g,o,none⟩ u).cell? ⟨B+1,1,none⟩=some y2:=by
 have hO:Only g w' (w'.setCell ⟨g,o,none⟩ u):=(Only.refl _ _).setCell _ _
 exact ⟨(World.cell?_of_block (a:=⟨B,0,none⟩) (hO.block _ (by simp only;omega))).trans h.1,(World.cell?_of_block (a:=⟨B,1,none⟩) (hO.block _ (by simp only;omega))).trans h.2.1,(World.cell?_of_block (a:=⟨B+1,0,none⟩) (hO.block _ (by simp only;omega))).trans h.2.2.1,(World.cell?_of_block (a:=⟨B+1,1,none⟩) (hO.block _ (by simp only;omega))).trans h.2.2.2⟩
theorem len_pos {l:List Nat} {z:Int} (hv:val l=z.natAbs) (hz:z≠0):1≤l.length:=by
 cases l with
 | nil=>simp [val] at hv;omega
 | cons x r=>simp
theorem Of_from {w:World} (n:Int) (h1 : -9223372036854775808≤n) (h2:n≤9223372036854775807):∀ wx:World,Ext w wx→Calls Tryz.prog 44 #[.int .i64 n] wx fun e w'=>e=.returned (.agg #[.int .i64 n,.slice none 0 0])∧Ext w w'∧Ext wx w' :=
 fun wx hx=>(Of_any n h1 h2 wx).mono fun _ _ h=>⟨h.1,hx.trans h.2.2,h.2.2⟩
theorem divTowards_any (s1 s2:Int) (a1 a2:Option Addr) (n1 c1 n2 c2:Nat) (z1 z2:Int) (w:World) (h1:IsInt w s1 a1 n1 c1 z1) (h2:IsInt w s2 a2 n2 c2 z2) (K:Nat) (hK:K≤4194304) (hf1:Fit K z1) (hf2:Fit K z2) (hz0:z2≠0) :
  Calls Tryz.prog 146 #[.agg #[.int .i64 s1,.slice a1 n1 c1],.agg #[.int .i64 s2,.slice a2 n2 c2]] w fun e w'=>∃ (s3:Int) (a3:Option Addr) (n3 c3:Nat) (s4:Int) (a4:Option Addr) (n4 c4:Nat),e=.returned (.tuple #[.agg #[.int .i64 s3,.slice a3 n3 c3],.agg #[.int .i64 s4,.slice a4 n4 c4]])∧IsInt w' s3 a3 n3 c3 (z1.tdiv z2)∧IsInt w' s4 a4 n4 c4 (z1.tmod z2)∧Ext w w':=by
 have Hf1:=hid hf1;have Hf2:=hid hf2;have H1:=hid h1;have H2:=hid h2
 have hz1:=h1.bool;have hz2:=h2.bool
 clear hf1 hf2 h1 h2
 by_cases hsh:(a1=none∧a2=none)∧s2≠-1
 ·obtain ⟨⟨rfl,rfl⟩,hs2⟩:=hsh
  obtain ⟨rfl,rfl,rfl,r1,r2⟩:=H1.out.none
  obtain ⟨rfl,rfl,rfl,r3,r4⟩:=H2.out.none
  clear hz1 hz2
  have hb2:(s2 != -1)=true:=by rw [bne_iff_ne];exact hs2
  obtain ⟨q1,q2⟩:=tdiv_range s1 s2 hz0 hs2 r1 r2
  obtain ⟨q3,q4⟩:=tmod_range s1 s2 hz0 r3 r4
  obtain ⟨q,hq⟩:∃ q,s1.tdiv s2=q:=⟨_,rfl⟩
  obtain ⟨r,hr⟩:∃ r,s1.tmod s2=r:=⟨_,rfl⟩
  rw [hq] at q1 q2
  rw [hr] at q3 q4
  have hwq:IntKind.i64.wrap q=q:=by rw [IntKind.wrap_i64];omega
  have hwr:IntKind.i64.wrap r=r:=by rw [IntKind.wrap_i64];omega
  have hb0:(s2 == 0)=false:=by rw [beq_eq_false_iff_ne];exact hz0
  rw [hq,hr]
  clear hs2
  go_enter Tryz.func146,Tryz.ntmps146
  go_wp2_with fail
  have hbx:=boxes22 w (.int .i64 s1) (.slice none 0 0) (.int .i64 s2) (.slice none 0 0)
  generalize (((w.alloc (.cells #[.int .i64 s1,.slice none 0 0] 24)).alloc (.cells #[.int .i64 s2,.slice none 0 0] 24)).alloc (.cells #[.int .i64 0,.slice none 0 0] 24)).alloc (.cells #[.int .i64 0,.slice none 0 0] 24)=W0 at *
  have hB:w.heap.size+1<W0.heap.size:=by have:=hbx.size;omega
  refine (short_yes _ _ _ _ _ _ _).mono ?_
  rintro e we ⟨rfl,hxe⟩
  obtain ⟨y0,y1,y2,y3⟩:=keep4 hxe hB hbx.c0 hbx.c1 hbx.d0 hbx.d1
  have hBe:w.heap.size+1<we.heap.size:=by have:=hxe.size;omega
  have heed:Ext we we.drew:=Below.drew (Ext.refl _)
  have Hq:=hid (Of_from (w:=we) q q1 q2);have Hr:=hid (Of_from (w:=we) r q3 q4)
  go_wp2_with fail
  go_region_held3 (fun w'=>w'.cell? ⟨w.heap.size,0,none⟩=some (.int .i64 s1)∧w'.cell? ⟨w.heap.size,1,none⟩=some (.slice none 0 0)∧w'.cell? ⟨w.heap.size+1,0,none⟩=some (.int .i64 s2)∧w'.cell? ⟨w.heap.size+1,1,none⟩=some (.slice none 0 0)) (first | exact keep4 (by assumption) hBe y0 y1 y2 y3 | exact keepS (by omega) (keepS (by omega) (keep4 (by assumption) hBe y0 y1 y2 y3)) | exact keepS (by omega) (keepS (by omega) (keepS (by omega) (keepS (by omega) (keep4 (by assumption) hBe y0 y1 y2 y3)))))
   (first | (go_at_call_of 44 q;refine (Hq.out _ (by assumption)).mono ?_;rintro e wa ⟨rfl,hea,hxa⟩) | (go_at_call_of 44 r;refine (Hr.out _ (by assumption)).mono ?_;rintro e wb ⟨rfl,heb,hxb⟩;have hr4:=hbx.res.ext (hxe.trans heb);have hr5:=hbx.res'.ext (hxe.trans heb);have k0:=hr4.c0;have k1:=hr4.c1;have g0:=hr4.f0;have g1:=hr4.f1;have k2:=hr5.c0;have k3:=hr5.c1;have g2:=hr5.f0;have g3:=hr5.f1))
  all_goals
   go_wp2_with fail
   exact bodyPost_ret (v:=.tuple #[.agg #[.int .i64 q,.slice none 0 0],.agg #[.int .i64 r,.slice none 0 0]]) (by simp [results,Tryz.results146,go_sem,k0,k1,k2,k3]) rfl
    ⟨q,none,0,0,r,none,0,0,rfl,IsInt.small _ _ q1 q2,IsInt.small _ _ q3 q4,(((hbx.ext.trans hxe).trans heb).put2 (by omega) _ _).put2 (by omega) _ _⟩
 ·have hcase:(¬ (a1=none∧a2=none))∨(a1=none∧a2=none∧s2=-1):=by
   by_cases h:a1=none∧a2=none
   ·right
    refine ⟨h.1,h.2,?_⟩
    exact Decidable.byContradiction fun k=>hsh ⟨h,k⟩
   ·exact Or.inl h
  clear hsh
  obtain ⟨b1,hb1⟩:∃ b,decide (s1<0)=b:=⟨_,rfl⟩
  obtain ⟨b2,hb2⟩:∃ b,decide (s2<0)=b:=⟨_,rfl⟩
  have hn1:=fun w0:World=>negative_from (w:=w0) s1 (.slice a1 n1 c1);have hn2:=fun w0:World=>negative_from (w:=w0) s2 (.slice a2 n2 c2)
  rw [hb1] at hz1;rw [hb2] at hz2
  rw [hb1] at hn1;rw [hb2] at hn2
  have Hn1:=hid hn1;have Hn2:=hid hn2;have Hz1:=hid hz1;have Hz2:=hid hz2;have Hz0:=hid hz0
  clear hn1 hn2 hb1 hb2 hz1 hz2 hz0
  have Hsh:Hid (∀ wx:World,Calls Tryz.prog 99 #[.agg #[.int .i64 s1,.slice a1 n1 c1],.agg #[.int .i64 s2,.slice a2 n2 c2]] wx fun e w'=>∃ bb:Bool,e=.returned (.bool bb)∧(bb=true→s2=-1)∧Ext wx w'):=by
   intro wx
   rcases hcase with h | ⟨rfl,rfl,rfl⟩
   ·exact (short_no s1 s2 a1 a2 n1 c1 n2 c2 wx h).mono fun _ _ k=>⟨false,k.1,(fun h=>absurd h (by decide)),k.2⟩
   ·exact (short_yes s1 (-1) n1 c1 n2 c2 wx).mono fun _ _ k=>⟨true,k.1,(fun _=>rfl),k.2⟩
  clear hcase
  go_enter Tryz.func146,Tryz.ntmps146
  go_wp2_with fail
  have hbx:=boxes22 w (.int .i64 s1) (.slice a1 n1 c1) (.int .i64 s2) (.slice a2 n2 c2)
  generalize (((w.alloc (.cells #[.int .i64 s1,.slice a1 n1 c1] 24)).alloc (.cells #[.int .i64 s2,.slice a2 n2 c2] 24)).alloc (.cells #[.int .i64 0,.slice none 0 0] 24)).alloc (.cells #[.int .i64 0,.slice none 0 0] 24)=W0 at *
  have hB:w.heap.size+1<W0.heap.size:=by have:=hbx.size;omega
  refine (Hsh.out _).mono ?_
  rintro e we ⟨bb,rfl,hbb,hxe⟩
  obtain ⟨y0,y1,y2,y3⟩:=keep4 hxe hB hbx.c0 hbx.c1 hbx.d0 hbx.d1
  have hBe:w.heap.size+1<we.heap.size:=by have:=hxe.size;omega
  have Hw1:=hid (words_from (H1.out.ext (hbx.ext.trans hxe)));have Hw2:=hid (words_from (H2.out.ext (hbx.ext.trans hxe)))
  have heed:Ext we we.drew:=Below.drew (Ext.refl _)
  cases bb
  case' true =>
   have hb2:(s2 != -1)=false:=by rw [hbb rfl];rfl
  all_goals
   clear hbb
   go_wp2_with fail
   go_region_held3 (fun w'=>w'.cell? ⟨w.heap.size,0,none⟩=some (.int .i64 s1)∧w'.cell? ⟨w.heap.size,1,none⟩=some (.slice a1 n1 c1)∧w'.cell? ⟨w.heap.size+1,0,none⟩=some (.int .i64 s2)∧w'.cell? ⟨w.heap.size+1,1,none⟩=some (.slice a2 n2 c2)) (exact keep4 (by assumption) hBe y0 y1 y2 y3)
    (first | (go_at_call_of 101 s1;refine (Hw1.out _ (by assumption)).mono ?_;rintro e wa ⟨p1,l1,m1,e1,rfl,hl1,hm1,he1,hsg1',hd1,hr1,Hv1,hea,hxa⟩;have Hl1:=hid hl1;clear hl1) | (go_at_call_of 101 a2;refine (Hw2.out _ (by assumption)).mono ?_;rintro e wb ⟨p2,l2,m2,e2,rfl,hl2,hm2,he2,hsg2',hd2,hr2,Hv2,heb,hxb⟩;have Hl2:=hid hl2;clear hl2) | (go_at_call 118;refine (divWords_any p1 p2 l1 l2 m2 m1 e1 e2 wb Hl1.out Hl2.out (hsg1'.ext hxb) hsg2' hd1 hd2 hr1 hr2 hm1 hm2 he1 (by rw [←Hl2.out];exact len_pos Hv2.out Hz0.out) (by have:=Hf1.out.len hr1 Hv1.out;have:=Hl1.out;omega) (by have:=Hf2.out.len hr2 Hv2.out;have:=Hl2.out;omega)).mono ?_;rintro e wg ⟨v1,v2,rfl,hnq,hnr,hxg⟩;have heg:=heb.trans hxg))
   obtain ⟨p3,l3,m3,e3,rfl,hl3,hm3,he3,hs3,hd3,hr3,hv3⟩:=hnq.named
   obtain ⟨p4,l4,m4,e4,rfl,hl4,hm4,he4,hs4,hd4,hr4,hv4⟩:=hnr.named
   have Hl3:=hid hl3;have Hl4:=hid hl4;have Hv3:=hid hv3;have Hv4:=hid hv4
   obtain ⟨x0,x1,x2,x3⟩:=keep4 heg hBe y0 y1 y2 y3
   have hBg:w.heap.size+1<wg.heap.size:=by have:=heg.size;omega
   have hegd:Ext wg wg.drew:=Below.drew (Ext.refl _)
   have resA:=hbx.res.ext (hxe.trans heg);have resB:=hbx.res'.ext (hxe.trans heg)
   have HEg:=hid ((hbx.ext.trans hxe).trans heg)
   have Hm1:=hid (Hn1.out wg);have Hm2:=hid (Hn2.out wg)
   have Hfq:=hid (fromWords_from (w:=wg) (!(b1 == b2)));have Hfr:=hid (fromWords_from (w:=wg) b1)
   clear y0 y1 y2 y3 hea heb heg hxa hxb hxg heed hnq hnr hl3 hl4 hv3 hv4
   go_wp2_with fail
   go_region_held3 (fun w'=>w'.cell? ⟨w.heap.size,0,none⟩=some (.int .i64 s1)∧w'.cell? ⟨w.heap.size,1,none⟩=some (.slice a1 n1 c1)∧w'.cell? ⟨w.heap.size+1,0,none⟩=some (.int .i64 s2)∧w'.cell? ⟨w.heap.size+1,1,none⟩=some (.slice a2 n2 c2)) (first | exact keep4 (by assumption) hBg x0 x1 x2 x3 | exact keepS (by omega) (keepS (by omega) (keep4 (by assumption) hBg x0 x1 x2 x3)) | exact keepS (by omega) (keepS (by omega) (keepS (by omega) (keepS (by omega) (keep4 (by assumption) hBg x0 x1 x2 x3)))))
    (first | (go_at_call_of 92 s1;refine (Hm1.out _ (by assumption)).mono ?_;rintro e wc ⟨rfl,hec,hxc⟩) | (go_at_call_of 92 a2;refine (Hm2.out _ (by assumption)).mono ?_;rintro e wd ⟨rfl,hed,hxd⟩) | (go_at_call_of 130 p3;refine (Hfq.out _ p3 l3 m3 e3 (by assumption) Hl3.out (hs3.ext (by assumption)) hd3 hm3 he3).mono ?_;rintro e wp ⟨s5,a5,n5,c5,rfl,hI5,hep,hxp⟩) | (go_at_call_of 130 p4;refine (Hfr.out _ p4 l4 m4 e4 (by assumption) Hl4.out (hs4.ext (by assumption)) hd4 hm4 he4).mono ?_;rintro e wq ⟨s6,a6,n6,c6,rfl,hI6,heq,hxq⟩;have hr4':=resA.ext heq;have hr5':=resB.ext heq;have k0:=hr4'.c0;have k1:=hr4'.c1;have g0:=hr4'.f0;have g1:=hr4'.f1;have k2:=hr5'.c0;have k3:=hr5'.c1;have g2:=hr5'.f0;have g3:=hr5'.f1))
   all_goals
    go_wp2_with fail
    have hkk:=Keep64.set4 (w:=wq) (.i64 k0) (.slice k1) (.i64 k2) (.slice k3) (notW_i64 s5) (notW_slice a5 n5 c5) (notW_i64 s6) (.slice a6 n6 c6)
    exact bodyPost_ret (v:=.tuple #[.agg #[.int .i64 s5,.slice a5 n5 c5],.agg #[.int .i64 s6,.slice a6 n6 c6]]) (by simp [results,Tryz.results146,go_sem,k0,k1,k2,k3]) rfl
     ⟨s5,a5,n5,c5,s6,a6,n6,c6,rfl,((hI5.ext (hxc.trans hxq)).cast (by rw [Hz1.out,Hz2.out,tdiv_sgn,Hv3.out,Hv1.out,Hv2.out])).keep64 hkk,(hI6.cast (by rw [Hz1.out,Hz2.out,tmod_sgn,Hv4.out,Hv1.out,Hv2.out])).keep64 hkk,((HEg.out.trans heq).put2 (by omega) _ _).put2 (by omega) _ _⟩
theorem cellKeep {W w':World} (h:Ext W w') {b o:Nat} {v:Value} (hb:b<W.heap.size) (hc:W.cell? ⟨b,o,none⟩=some v):w'.cell? ⟨b,o,none⟩=some v:=(h.cell (p:=⟨b,o,none⟩) hb).trans hc
theorem cellPut {w':World} {g o' b o:Nat} {u v:Value} (hne:b≠g) (hc:w'.cell? ⟨b,o,none⟩=some v):(w'.setCell ⟨g,o',none⟩ u).cell? ⟨b,o,none⟩=some v:=by
 have hO:Only g w' (w'.setCell ⟨g,o',none⟩ u):=(Only.refl _ _).setCell _ _
 exact (World.cell?_of_block (a:=⟨b,o,none⟩) (hO.block _ hne)).trans hc
theorem Sub_from {w:World} {s1:Int} {a1:Option Addr} {n1 c1:Nat} {z1:Int} (h1:IsInt w s1 a1 n1 c1 z1) (K:Nat) (hK:K≤4194304) (hf1:Fit K z1):∀ (wx:World) (s2:Int) (a2:Option Addr) (n2 c2:Nat) (z2:Int),Ext w wx→IsInt wx s2 a2 n2 c2 z2→Fit K z2 →
  Calls Tryz.prog 78 #[.agg #[.int .i64 s1,.slice a1 n1 c1],.agg #[.int .i64 s2,.slice a2 n2 c2]] wx fun e w' =>
  ∃ (s':Int) (a':Option Addr) (n' c':Nat),e=.returned (.agg #[.int .i64 s',.slice a' n' c'])∧IsInt w' s' a' n' c' (z1-z2)∧Ext w w'∧Ext wx w' :=
 fun wx s2 a2 n2 c2 z2 hx h2 hf2=>(Sub_any s1 s2 a1 a2 n1 c1 n2 c2 z1 z2 wx (h1.ext hx) h2 K hK hf1 hf2).mono fun _ _ ⟨s',a',n',c',e1,e2,e3⟩=>⟨s',a',n',c',e1,e2,hx.trans e3,e3⟩
structure IsDiv (a b q r:Int):Prop where
 eq:a=q*b+r
 pos:0≤r
 lt:r<b.natAbs
 le:q.natAbs≤a.natAbs
theorem tdiv_le (a b:Int):(a.tdiv b).natAbs≤a.natAbs:=by
 rw [Int.natAbs_tdiv];exact Nat.div_le_self _ _
theorem isDiv_pos {a b:Int} (hb:b≠0) (h:¬ a.tmod b<0):IsDiv a b (a.tdiv b) (a.tmod b):=by
 refine ⟨?_,by omega,?_,tdiv_le a b⟩
 ·have:=Int.mul_tdiv_add_tmod a b
  rw [Int.mul_comm (a.tdiv b) b];omega
 ·have hn:(a.tmod b).natAbs=a.natAbs % b.natAbs:=Int.natAbs_tmod a b
  have h3:a.natAbs % b.natAbs<b.natAbs:=Nat.mod_lt _ (by omega)
  omega
theorem div_step_le {a b:Int} (hb:b≠0) (h:a.tmod b<0):(a.tdiv b).natAbs+1≤a.natAbs:=by
 have h1:(a.tdiv b).natAbs=a.natAbs / b.natAbs:=Int.natAbs_tdiv a b
 have h2:(a.tmod b).natAbs=a.natAbs % b.natAbs:=Int.natAbs_tmod a b
 have h3:=Nat.div_add_mod a.natAbs b.natAbs
 have h4:a.natAbs / b.natAbs≤b.natAbs*(a.natAbs / b.natAbs):=Nat.le_mul_of_pos_left _ (by omega)
 omega
theorem isDiv_neg {a b:Int} (h:a.tmod b<0) (hb:b<0):IsDiv a b (a.tdiv b+1) (a.tmod b-b):=by
 have hn:(a.tmod b).natAbs=a.natAbs % b.natAbs:=Int.natAbs_tmod a b
 have h3:a.natAbs % b.natAbs<b.natAbs:=Nat.mod_lt _ (by omega)
 have h4:=div_step_le (by omega) h
 refine ⟨?_,by omega,by omega,by omega⟩
 have:=Int.mul_tdiv_add_tmod a b
 rw [Int.add_mul,Int.mul_comm (a.tdiv b) b];omega
theorem isDiv_plus {a b:Int} (h:a.tmod b<0) (hb:0<b):IsDiv a b (a.tdiv b-1) (a.tmod b+b):=by
 have hn:(a.tmod b).natAbs=a.natAbs % b.natAbs:=Int.natAbs_tmod a b
 have h3:a.natAbs % b.natAbs<b.natAbs:=Nat.mod_lt _ (by omega)
 have h4:=div_step_le (by omega) h
 refine ⟨?_,by omega,by omega,by omega⟩
 have:=Int.mul_tdiv_add_tmod a b
 rw [Int.sub_mul,Int.mul_comm (a.tdiv b) b];omega
theorem Fit.le {k:Nat} {x y:Int} (h:Fit k y) (hx:x.natAbs≤y.natAbs):Fit k x:=by unfold Fit at *;omega
theorem Fit.one {k:Nat} (h:1≤k):Fit k 1:=by
 unfold Fit
 have h1:B64 ^ 1≤B64 ^ k:=Nat.pow_le_pow_right B64_pos h
 rw [Nat.pow_one] at h1
 have h2:1<B64:=by rw [B64_eq];decide
 exact Nat.lt_of_lt_of_le h2 h1
structure BoxesD (w W:World) (x1 y1 x2 y2:Value):Prop where
 ext:Ext w W
 size:W.heap.size=w.heap.size+5
 c0:W.cell? ⟨w.heap.size,0,none⟩=some x1
 c1:W.cell? ⟨w.heap.size,1,none⟩=some y1
 d0:W.cell? ⟨w.heap.size+1,0,none⟩=some x2
 d1:W.cell? ⟨w.heap.size+1,1,none⟩=some y2
 res:Res W (w.heap.size+1+1)
 res':Res W (w.heap.size+1+1+1)
 fres:FRes W (w.heap.size+1+1+1+1)
theorem boxesD (w:World) (x1 y1 x2 y2:Value):BoxesD w (((((w.alloc (.cells #[x1,y1] 24)).alloc (.cells #[x2,y2] 24)).alloc (.cells #[.int .i64 0,.slice none 0 0] 24)).alloc (.cells #[.int .i64 0,.slice none 0 0] 24)).alloc (.cells #[.int .i64 0,.int .i64 0] 30)) x1 y1 x2 y2:=by
 have hb:=boxes22 w x1 y1 x2 y2
 generalize hW:(((w.alloc (.cells #[x1,y1] 24)).alloc (.cells #[x2,y2] 24)).alloc (.cells #[.int .i64 0,.slice none 0 0] 24)).alloc (.cells #[.int .i64 0,.slice none 0 0] 24)=W at *
 have he:=Ext.alloc W (.cells #[.int .i64 0,.int .i64 0] 30)
 have hs:=hb.size
 refine ⟨hb.ext.then _,by simp [hs],cellKeep he (by omega) hb.c0,cellKeep he (by omega) hb.c1,cellKeep he (by omega) hb.d0,cellKeep he (by omega) hb.d1,hb.res.ext he,hb.res'.ext he,⟨by simp [hs],?_⟩⟩
 have:=heap_alloc_new W (.cells #[.int .i64 0,.int .i64 0] 30)
 rw [hs] at this
 exact this
theorem Keep64.set6 {w:World} {p q r s t y:Addr} {u v x z k:Value} (hp:NotW w p) (hq:NotW w q) (hr:NotW w r) (hs:NotW w s) (ht:NotW w t) (hy:NotW w y) (hu:∀ y,u≠.int .u64 y) (hv:∀ y,v≠.int .u64 y) (hx:∀ y,x≠.int .u64 y) (hz:∀ y,z≠.int .u64 y) (hk:∀ y,k≠.int .u64 y) (j:Value) :
  Keep64 w ((((((w.setCell p u).setCell q v).setCell r x).setCell s z).setCell t k).setCell y j):=by
 have h1:∀ a,NotW w a→NotW ((w.setCell p u).setCell q v) a:=fun a ha=>(ha.set hp hu).set (hq.set hp hu) hv
 have h2:∀ a,NotW w a→NotW ((((w.setCell p u).setCell q v).setCell r x).setCell s z) a:=fun a ha=>((h1 a ha).set (h1 r hr) hx).set ((h1 s hs).set (h1 r hr) hx) hz
 exact (Keep64.set4 hp hq hr hs hu hv hx z).trans (Keep64.set2 (h2 t ht) (h2 y hy) hk j)
theorem Div_any (s1 s2:Int) (a1 a2:Option Addr) (n1 c1 n2 c2:Nat) (z1 z2:Int) (w:World) (h1:IsInt w s1 a1 n1 c1 z1) (h2:IsInt w s2 a2 n2 c2 z2) (K:Nat) (hK:K≤4194304) (hK1:1≤K) (hf1:Fit K z1) (hf2:Fit K z2) (hz0:z2≠0) :
  Calls Tryz.prog 122 #[.agg #[.int .i64 s1,.slice a1 n1 c1],.agg #[.int .i64 s2,.slice a2 n2 c2]] w fun e w'=>∃ (s3:Int) (a3:Option Addr) (n3 c3:Nat) (s4:Int) (a4:Option Addr) (n4 c4:Nat) (q r:Int),e=.returned (.tuple #[.agg #[.int .i64 s3,.slice a3 n3 c3],.agg #[.int .i64 s4,.slice a4 n4 c4],.agg #[.int .i64 0,.int .i64 0]])∧IsInt w' s3 a3 n3 c3 q∧IsInt w' s4 a4 n4 c4 r∧IsDiv z1 z2 q r∧Ext w w':=by
 have Hf1:=hid hf1;have Hf2:=hid hf2;have H1:=hid h1;have H2:=hid h2;have Hz0:=hid hz0
 have hc:=h2.cmp3
 have hsg:=h2.sign
 have Hs:=hid (Sign_any s2 (.slice a2 n2 c2))
 obtain ⟨sg,hsg'⟩:∃ sg,cmp3 s2 0=sg:=⟨_,rfl⟩
 have hb0:(sg == 0)=false:=by
  rw [beq_eq_false_iff_ne,←hsg',hc]
  unfold cmp3
  split
  ·decide
  ·split
   ·decide
   ·omega
 rw [hsg'] at Hs
 have Hdt:=hid (fun wx (hx:Ext w wx)=>divTowards_any s1 s2 a1 a2 n1 c1 n2 c2 z1 z2 wx (h1.ext hx) (h2.ext hx) K hK hf1 hf2 hz0)
 have Hnb:=hid (fun w0:World=>negative_from (w:=w0) s2 (.slice a2 n2 c2))
 have Hsg:=hid hsg.1
 have Hfq:Hid (Fit K (z1.tdiv z2)):=hf1.le (tdiv_le z1 z2)
 have Hfr:Hid (Fit K (z1.tmod z2)):=by
  refine hf2.le ?_
  rw [Int.natAbs_tmod]
  exact Nat.le_of_lt (Nat.mod_lt _ (by omega))
 clear hf1 hf2 h1 h2 hz0 hc hsg hsg'
 go_enter Tryz.func122,Tryz.ntmps122
 go_wp2_with fail
 have hbx:=boxesD w (.int .i64 s1) (.slice a1 n1 c1) (.int .i64 s2) (.slice a2 n2 c2)
 generalize ((((w.alloc (.cells #[.int .i64 s1,.slice a1 n1 c1] 24)).alloc (.cells #[.int .i64 s2,.slice a2 n2 c2] 24)).alloc (.cells #[.int .i64 0,.slice none 0 0] 24)).alloc (.cells #[.int .i64 0,.slice none 0 0] 24)).alloc (.cells #[.int .i64 0,.int .i64 0] 30)=W0 at *
 have hB:w.heap.size+4<W0.heap.size:=by have:=hbx.size;omega
 refine (Hs.out _).mono ?_
 rintro e we ⟨rfl,hxe⟩
 have y0:=cellKeep hxe (by omega) hbx.c0;have y1:=cellKeep hxe (by omega) hbx.c1;have y2:=cellKeep hxe (by omega) hbx.d0;have y3:=cellKeep hxe (by omega) hbx.d1
 go_wp2_with fail
 refine (Hdt.out _ (hbx.ext.trans hxe)).mono ?_
 rintro e wd ⟨s3,a3,n3,c3,s4,a4,n4,c4,rfl,hI3,hI4,hxd⟩
 have Hn4:=hid (negative_any s4 (.slice a4 n4 c4))
 have hE1:=Ext.alloc wd (.cells #[.int .i64 s3,.slice a3 n3 c3] 24)
 have hE2:=Ext.alloc (wd.alloc (.cells #[.int .i64 s3,.slice a3 n3 c3] 24)) (.cells #[.int .i64 s4,.slice a4 n4 c4] 24)
 have hbq:=boxed2 wd (.int .i64 s3) (.slice a3 n3 c3) (.int .i64 s4) (.slice a4 n4 c4)
 have Hsg4:=hid hI4.sign.1
 have HI3:=hid hI3;have HI4:=hid hI4
 clear hI3 hI4 y0 y1
 go_wp2_with fail
 generalize (wd.alloc (.cells #[.int .i64 s3,.slice a3 n3 c3] 24)).alloc (.cells #[.int .i64 s4,.slice a4 n4 c4] 24)=W1 at *
 refine (Hn4.out _).mono ?_
 rintro e wn ⟨rfl,hxn⟩
 have hBq:wd.heap.size+1<W1.heap.size:=by have:=hbq.size;omega
 have hBd:w.heap.size+4<wd.heap.size:=by have:=hxe.size;have:=hxd.size;omega
 have hBn:wd.heap.size+1<wn.heap.size:=by have:=hxn.size;omega
 obtain ⟨q0,q1,q2,q3⟩:=keepb hxn hbq
 have hdn:Ext wd wn:=hbq.ext.trans hxn
 have b0:=cellKeep (hxd.trans hdn) (by have:=hxe.size;omega) y2;have b1:=cellKeep (hxd.trans hdn) (by have:=hxe.size;omega) y3
 have hxn':Ext W0 wn:=hxe.trans (hxd.trans hdn)
 have rA:=hbx.res.ext hxn';have rB:=hbx.res'.ext hxn';have rF:=hbx.fres.ext hxn'
 have HE:Hid (Ext w wn):=hbx.ext.trans hxn'
 have I3:=HI3.out.ext hdn;have I4:=HI4.out.ext hdn
 have HI2:=hid (H2.out.ext HE.out)
 have hwnd:Ext wn wn.drew:=Below.drew (Ext.refl _)
 clear y2 y3 hE1 hE2 hxe hxd hxn hdn hxn' hbq hbx hBq hB
 by_cases hneg:s4<0
 ·by_cases hnb:s2<0
  ·have hd2:decide (s2<0)=true:=decide_eq_true hnb
   have hd4:decide (s4<0)=true:=decide_eq_true hneg
   have Hfin:Hid (IsDiv z1 z2 (z1.tdiv z2+1) (z1.tmod z2-z2)):=isDiv_neg (Hsg4.out.1 hneg) (Hsg.out.1 hnb)
   rw [hd4]
   clear hd4 hneg
   go_wp2_with fail
   refine (Hnb.out wn _ (Ext.refl _)).mono ?_
   rintro e wm ⟨rfl,hxm,_⟩
   rw [hd2]
   clear hd2 hnb
   have u0:=cellKeep hxm (by omega) q0;have u1:=cellKeep hxm (by omega) q1;have u2:=cellKeep hxm (by omega) q2;have u3:=cellKeep hxm (by omega) q3;have u4:=cellKeep hxm (by omega) b0;have u5:=cellKeep hxm (by omega) b1
   have J3:=I3.ext hxm;have J4:=I4.ext hxm;have J2:=HI2.out.ext hxm
   have Ho:=hid (Of_from (w:=wm) 1 (by omega) (by omega));have Hadd:=hid (Add_from J3 K hK Hfq.out);have Hsub:=hid (Sub_from J4 K hK Hfr.out)
   have hwmd:Ext wm wm.drew:=Below.drew (Ext.refl _)
   have hBm:wd.heap.size+1<wm.heap.size:=by have:=hxm.size;omega
   have rA':=rA.ext hxm;have rB':=rB.ext hxm;have rF':=rF.ext hxm
   clear q0 q1 q2 q3 b0 b1 hwnd rA rB rF
   go_wp2_with fail
   go_region_held3 (fun w'=>w'.cell? ⟨wd.heap.size,0,none⟩=some (.int .i64 s3)∧w'.cell? ⟨wd.heap.size,1,none⟩=some (.slice a3 n3 c3)∧w'.cell? ⟨wd.heap.size+1,0,none⟩=some (.int .i64 s4)∧w'.cell? ⟨wd.heap.size+1,1,none⟩=some (.slice a4 n4 c4)∧w'.cell? ⟨w.heap.size+1,0,none⟩=some (.int .i64 s2)∧w'.cell? ⟨w.heap.size+1,1,none⟩=some (.slice a2 n2 c2))
    (refine ⟨?_,?_,?_,?_,?_,?_⟩<;>(repeat (refine cellPut (by omega) ?_))<;>exact cellKeep (W:=wm) (by assumption) (by omega) (by assumption))
    (first | (go_at_call 44;refine (Ho.out _ (by assumption)).mono ?_;rintro e wa ⟨rfl,hea,hxa⟩) | (go_at_call 72;refine (Hadd.out _ 1 none 0 0 1 (by assumption) (IsInt.small _ _ (by omega) (by omega)) (Fit.one hK1)).mono ?_;rintro e wb ⟨s5,a5,n5,c5,rfl,hI5,heb,hxb⟩) | (go_at_call 78;refine (Hsub.out _ s2 a2 n2 c2 z2 (by assumption) (J2.ext (by assumption)) Hf2.out).mono ?_;rintro e wc ⟨s6,a6,n6,c6,rfl,hI6,hec,hxc⟩;have r1:=rA'.ext hec;have r2:=rB'.ext hec;have r3:=rF'.ext hec;have k0:=r1.c0;have k1:=r1.c1;have g0:=r1.f0;have g1:=r1.f1;have k2:=r2.c0;have k3:=r2.c1;have g2:=r2.f0;have g3:=r2.f1;have k4:=r3.c0;have k5:=r3.c1;have g4:=r3.f0;have g5:=r3.f1))
   all_goals
    go_wp2_with fail
    have hkk:=Keep64.set6 (w:=wc) (.i64 k0) (.slice k1) (.i64 k2) (.slice k3) (.i64 k4) (.i64 k5) (notW_i64 s5) (notW_slice a5 n5 c5) (notW_i64 s6) (notW_slice a6 n6 c6) (notW_i64 0) (.int .i64 0)
    exact bodyPost_ret (v:=.tuple #[.agg #[.int .i64 s5,.slice a5 n5 c5],.agg #[.int .i64 s6,.slice a6 n6 c6],.agg #[.int .i64 0,.int .i64 0]]) (by simp [results,Tryz.results122,go_sem,k0,k1,k2,k3,k4,k5]) rfl
     ⟨s5,a5,n5,c5,s6,a6,n6,c6,_,_,rfl,(hI5.ext hxc).keep64 hkk,hI6.keep64 hkk,Hfin.out,((((HE.out.trans hxm).trans hec).put2 (by omega) _ _).put2 (by omega) _ _).put2 (by omega) _ _⟩
  ·have hd2:decide (s2<0)=false:=decide_eq_false hnb
   have hd4:decide (s4<0)=true:=decide_eq_true hneg
   have Hfin:Hid (IsDiv z1 z2 (z1.tdiv z2-1) (z1.tmod z2+z2)):=isDiv_plus (Hsg4.out.1 hneg) (by have:=Hz0.out;have:=Hsg.out;omega)
   rw [hd4]
   clear hd4 hneg
   go_wp2_with fail
   refine (Hnb.out wn _ (Ext.refl _)).mono ?_
   rintro e wm ⟨rfl,hxm,_⟩
   rw [hd2]
   clear hd2 hnb
   have u0:=cellKeep hxm (by omega) q0;have u1:=cellKeep hxm (by omega) q1;have u2:=cellKeep hxm (by omega) q2;have u3:=cellKeep hxm (by omega) q3;have u4:=cellKeep hxm (by omega) b0;have u5:=cellKeep hxm (by omega) b1
   have J3:=I3.ext hxm;have J4:=I4.ext hxm;have J2:=HI2.out.ext hxm
   have Ho:=hid (Of_from (w:=wm) 1 (by omega) (by omega));have Hsub:=hid (Sub_from J3 K hK Hfq.out);have Hadd:=hid (Add_from J4 K hK Hfr.out)
   have hwmd:Ext wm wm.drew:=Below.drew (Ext.refl _)
   have hBm:wd.heap.size+1<wm.heap.size:=by have:=hxm.size;omega
   have rA':=rA.ext hxm;have rB':=rB.ext hxm;have rF':=rF.ext hxm
   clear q0 q1 q2 q3 b0 b1 hwnd rA rB rF
   go_wp2_with fail
   go_region_held3 (fun w'=>w'.cell? ⟨wd.heap.size,0,none⟩=some (.int .i64 s3)∧w'.cell? ⟨wd.heap.size,1,none⟩=some (.slice a3 n3 c3)∧w'.cell? ⟨wd.heap.size+1,0,none⟩=some (.int .i64 s4)∧w'.cell? ⟨wd.heap.size+1,1,none⟩=some (.slice a4 n4 c4)∧w'.cell? ⟨w.heap.size+1,0,none⟩=some (.int .i64 s2)∧w'.cell? ⟨w.heap.size+1,1,none⟩=some (.slice a2 n2 c2))
    (refine ⟨?_,?_,?_,?_,?_,?_⟩<;>(repeat (refine cellPut (by omega) ?_))<;>exact cellKeep (W:=wm) (by assumption) (by omega) (by assumption))
    (first | (go_at_call 44;refine (Ho.out _ (by assumption)).mono ?_;rintro e wa ⟨rfl,hea,hxa⟩) | (go_at_call 78;refine (Hsub.out _ 1 none 0 0 1 (by assumption) (IsInt.small _ _ (by omega) (by omega)) (Fit.one hK1)).mono ?_;rintro e wb ⟨s5,a5,n5,c5,rfl,hI5,heb,hxb⟩) | (go_at_call 72;refine (Hadd.out _ s2 a2 n2 c2 z2 (by assumption) (J2.ext (by assumption)) Hf2.out).mono ?_;rintro e wc ⟨s6,a6,n6,c6,rfl,hI6,hec,hxc⟩;have r1:=rA'.ext hec;have r2:=rB'.ext hec;have r3:=rF'.ext hec;have k0:=r1.c0;have k1:=r1.c1;have g0:=r1.f0;have g1:=r1.f1;have k2:=r2.c0;have k3:=r2.c1;have g2:=r2.f0;have g3:=r2.f1;have k4:=r3.c0;have k5:=r3.c1;have g4:=r3.f0;have g5:=r3.f1))
   all_goals
    go_wp2_with fail
    have hkk:=Keep64.set6 (w:=wc) (.i64 k0) (.slice k1) (.i64 k2) (.slice k3) (.i64 k4) (.i64 k5) (notW_i64 s5) (notW_slice a5 n5 c5) (notW_i64 s6) (notW_slice a6 n6 c6) (notW_i64 0) (.int .i64 0)
    exact bodyPost_ret (v:=.tuple #[.agg #[.int .i64 s5,.slice a5 n5 c5],.agg #[.int .i64 s6,.slice a6 n6 c6],.agg #[.int .i64 0,.int .i64 0]]) (by simp [results,Tryz.results122,go_sem,k0,k1,k2,k3,k4,k5]) rfl
     ⟨s5,a5,n5,c5,s6,a6,n6,c6,_,_,rfl,(hI5.ext hxc).keep64 hkk,hI6.keep64 hkk,Hfin.out,((((HE.out.trans hxm).trans hec).put2 (by omega) _ _).put2 (by omega) _ _).put2 (by omega) _ _⟩
 ·have Hfin:Hid (IsDiv z1 z2 (z1.tdiv z2) (z1.tmod z2)):=isDiv_pos Hz0.out (fun k=>hneg (Hsg4.out.2 k))
  have hd4:decide (s4<0)=false:=decide_eq_false hneg
  rw [hd4]
  clear hd4 hneg
  have k0:=rA.c0;have k1:=rA.c1;have g0:=rA.f0;have g1:=rA.f1;have k2:=rB.c0;have k3:=rB.c1;have g2:=rB.f0;have g3:=rB.f1;have k4:=rF.c0;have k5:=rF.c1;have g4:=rF.f0;have g5:=rF.f1
  have hkk:=Keep64.set6 (w:=wn) (.i64 k0) (.slice k1) (.i64 k2) (.slice k3) (.i64 k4) (.i64 k5) (notW_i64 s3) (notW_slice a3 n3 c3) (notW_i64 s4) (notW_slice a4 n4 c4) (notW_i64 0) (.int .i64 0)
  go_wp2_with fail
  go_region
  go_wp2_with fail
  exact bodyPost_ret (v:=.tuple #[.agg #[.int .i64 s3,.slice a3 n3 c3],.agg #[.int .i64 s4,.slice a4 n4 c4],.agg #[.int .i64 0,.int .i64 0]]) (by simp [results,Tryz.results122,go_sem,k0,k1,k2,k3,k4,k5]) rfl
   ⟨s3,a3,n3,c3,s4,a4,n4,c4,_,_,rfl,(I3.keep64 hkk).ext (Below.drew (Ext.refl _)),(I4.keep64 hkk).ext (Below.drew (Ext.refl _)),Hfin.out,Below.drew (((HE.out.put2 (by omega) _ _).put2 (by omega) _ _).put2 (by omega) _ _)⟩
theorem withoutSign_any (sm:Int) (ao:Option Addr) (n c:Nat) (z:Int) (w:World) (h:IsInt w sm ao n c z) :
  Calls Tryz.prog 145 #[.agg #[.int .i64 sm,.slice ao n c]] w fun e w'=>∃ (s':Int) (a':Option Addr) (n' c':Nat),e=.returned (.agg #[.int .i64 s',.slice a' n' c'])∧IsInt w' s' a' n' c' (z.natAbs:Nat)∧Ext w w':=by
 have Hsg:=hid h.sign.1
 have H:=hid h
 clear h
 obtain ⟨b,hb⟩:∃ b,decide (sm<0)=b:=⟨_,rfl⟩
 have hn:=negative_any sm (.slice ao n c)
 rw [hb] at hn
 have Hn:=hid hn
 have Hb:Hid ((b=true→(z.natAbs:Int)=-z)∧(b=false→(z.natAbs:Int)=z)):=by
  have:=Hsg.out
  constructor
  ·intro h;rw [←hb] at h;have:=this.1 (by simpa using h);omega
  ·intro h;rw [←hb] at h
   have h2:¬ sm<0:=by simpa using h
   have:¬ z<0:=fun k=>h2 (this.2 k)
   omega
 clear hn hb
 go_enter Tryz.func145,Tryz.ntmps145
 go_wp2_with fail
 have hbx:=boxes1 w (.int .i64 sm) (.slice ao n c)
 generalize (w.alloc (.cells #[.int .i64 sm,.slice ao n c] 24)).alloc (.cells #[.int .i64 0,.slice none 0 0] 24)=W0 at *
 have hB:w.heap.size<W0.heap.size:=by have:=hbx.size;omega
 refine (Hn.out _).mono ?_
 rintro e we ⟨rfl,hxe⟩
 obtain ⟨y0,y1⟩:=keep2 hxe hB hbx.c0 hbx.c1
 have hrr:=hbx.res.ext hxe
 cases b
 ·have k0:=hrr.c0;have k1:=hrr.c1;have g0:=hrr.f0;have g1:=hrr.f1
  go_wp2_with fail
  exact bodyPost_ret (v:=.agg #[.int .i64 sm,.slice ao n c]) (by simp [results,Tryz.results145,go_sem,k0,k1]) rfl ⟨sm,ao,n,c,rfl,((H.out.ext (hbx.ext.trans hxe)).cast (Hb.out.2 (by simp)).symm).keep64 (Keep64.set2 (.i64 k0) (.slice k1) (notW_i64 _) _),(hbx.ext.trans hxe).put2 (by omega) _ _⟩
 ·go_wp2_with fail
  refine (Neg_any sm ao n c z we (H.out.ext (hbx.ext.trans hxe))).mono ?_
  rintro e wf ⟨s4,a4,n4,c4,rfl,hI4,hxf⟩
  have hr4:=hrr.ext hxf
  have k0:=hr4.c0;have k1:=hr4.c1;have g0:=hr4.f0;have g1:=hr4.f1
  go_wp2_with fail
  exact bodyPost_ret (v:=.agg #[.int .i64 s4,.slice a4 n4 c4]) (by simp [results,Tryz.results145,go_sem,k0,k1]) rfl ⟨s4,a4,n4,c4,rfl,(hI4.cast (Hb.out.1 (by simp)).symm).keep64 (Keep64.set2 (.i64 k0) (.slice k1) (notW_i64 _) _),((hbx.ext.trans hxe).trans hxf).put2 (by omega) _ _⟩
theorem shr_small (s:Int) (k:Nat) (h1 : -9223372036854775808≤s) (h2:s≤9223372036854775807):s / 2 ^ min k 64=s / 2 ^ k:=by
 by_cases hk:k≤64
 ·rw [Nat.min_eq_left hk]
 ·rw [Nat.min_eq_right (by omega)]
  have hp:∀ j:Nat,64≤j→s / 2 ^ j=if s<0 then -1 else 0:=by
   intro j hj
   have h3:(2:Int) ^ 64≤2 ^ j:=by
    have:(2:Nat) ^ 64≤2 ^ j:=Nat.pow_le_pow_right (by decide) hj
    exact_mod_cast this
   generalize (2:Int) ^ j=p at *
   have h4:(18446744073709551616:Int)≤p:=h3
   by_cases hs:s<0
   ·rw [if_pos hs]
    exact ((Int.ediv_emod_unique (r:=s+p) (by omega)).2 ⟨by omega,by omega,by omega⟩).1
   ·rw [if_neg hs]
    exact Int.ediv_eq_zero_of_lt (by omega) (by omega)
  rw [hp 64 (by omega),hp k (by omega)]
theorem neg_div (v p:Nat) (hp:0<p):(-(v:Int)) / (p:Int)=if v % p=0 then -((v / p:Nat):Int) else -((v / p:Nat):Int)-1:=by
 have h:=Nat.div_add_mod v p
 have hl:=Nat.mod_lt v hp
 have h':(p:Int)*((v / p:Nat):Int)+((v % p:Nat):Int)=(v:Int):=by exact_mod_cast h
 split
 ·rename_i h0
  rw [h0] at h'
  refine ((Int.ediv_emod_unique (r:=0) (by omega)).2 ⟨?_,by omega,by omega⟩).1
  rw [Int.mul_neg];omega
 ·rename_i h0
  refine ((Int.ediv_emod_unique (r:=(p:Int)-((v % p:Nat):Int)) (by omega)).2 ⟨?_,by omega,by omega⟩).1
  rw [Int.mul_sub,Int.mul_neg,Int.mul_one];omega
theorem shl_back (s:Int) (k:Nat) (h:IntKind.i64.wrap (s*2 ^ min k 64) / 2 ^ min k 64=s):IntKind.i64.wrap (s*2 ^ min k 64)=s*2 ^ k:=by
 by_cases hk:k≤63
 ·have hm:min k 64=k:=Nat.min_eq_left (by omega)
  rw [hm] at h ⊢
  obtain ⟨d,hd⟩:∃ d,64=k+d:=⟨64-k,by omega⟩
  have hp:(0:Int)<2 ^ k:=Int.pow_pos (by decide)
  have e:(18446744073709551616:Int)=2 ^ k*2 ^ d:=by
   rw [←Int.pow_add,←hd];decide
  have hdv:IntKind.i64.wrap (s*2 ^ k) % 2 ^ k=0:=by
   have hw:∃ t:Int,IntKind.i64.wrap (s*2 ^ k)=s*2 ^ k+18446744073709551616*t:=by
    rw [IntKind.wrap_i64]
    refine ⟨-((s*2 ^ k+9223372036854775808) / 18446744073709551616),?_⟩
    have:=Int.mul_ediv_add_emod (s*2 ^ k+9223372036854775808) 18446744073709551616
    omega
   obtain ⟨t,ht⟩:=hw
   rw [ht,e,Int.mul_comm s,Int.mul_assoc,←Int.mul_add]
   exact Int.mul_emod_right _ _
  have h3:=Int.mul_ediv_add_emod (IntKind.i64.wrap (s*2 ^ k)) (2 ^ k)
  rw [h,hdv,Int.add_zero,Int.mul_comm] at h3
  exact h3.symm
 ·have hm:min k 64=64:=Nat.min_eq_right (by omega)
  rw [hm] at h ⊢
  have hw:IntKind.i64.wrap (s*2 ^ 64)=0:=by
   rw [IntKind.wrap_i64];omega
  rw [hw] at h ⊢
  have:s=0:=by rw [←h];decide
  rw [this,Int.zero_mul]
theorem sgn_pow (b:Bool) (x k:Nat):sgn b (x*2 ^ k)=sgn b x*2 ^ k:=by
 cases b<;>simp [sgn,Int.neg_mul]
theorem shiftUp_from {w:World} (k:Nat) (hk:k≤1073741824):∀ (wx:World) (a:Option Addr) (l:List Nat) (n c:Nat),Ext w wx→l.length=n→Seg wx a l→Dig l→n≤c→n≤1073741824 →
  Calls Tryz.prog 148 #[.slice a n c,.int .u64 k] wx fun e w'=>∃ (a':Option Addr) (l':List Nat) (n' c':Nat),e=.returned (.slice a' n' c')∧l'.length=n'∧n'≤c'∧c'≤maxLen∧Seg w' a' l'∧Dig l'∧Nrm l'∧Hid (val l'=val l*2 ^ k)∧Ext w w'∧Ext wx w' :=
 fun wx a l n c hx h1 h2 h3 h4 h5=>(shiftUp_any a l n c k wx h1 h2 h3 h4 h5 hk).mono fun _ _ ⟨v,k1,k2,k3⟩=>by
  obtain ⟨ao',l',c',rfl,h5,h6,h7,h8,h9,h10⟩:=k2
  exact ⟨ao',l',l'.length,c',k1,rfl,h5,h6,h7,h8,h9,h10,hx.trans k3,k3⟩
theorem shiftDown_from {w:World} (k:Nat) (hk:k≤1073741824):∀ (wx:World) (a:Option Addr) (l:List Nat) (n c:Nat),Ext w wx→l.length=n→Seg wx a l→Dig l→n≤c→c≤maxLen→n≤1073741824 →
  Calls Tryz.prog 147 #[.slice a n c,.int .u64 k] wx fun e w'=>∃ (a':Option Addr) (l':List Nat) (n' c':Nat),e=.returned (.slice a' n' c')∧l'.length=n'∧n'≤c'∧c'≤maxLen∧Seg w' a' l'∧Dig l'∧Nrm l'∧Hid (val l'=val l / 2 ^ k)∧Ext w w'∧Ext wx w' :=
 fun wx a l n c hx h1 h2 h3 h4 h4' h5=>(shiftDown_any a l n c k wx h1 h2 h3 h4 h4' h5 hk).mono fun _ _ ⟨v,k1,k2,k3⟩=>by
  obtain ⟨ao',l',c',rfl,h5,h6,h7,h8,h9,h10⟩:=k2
  exact ⟨ao',l',l'.length,c',k1,rfl,h5,h6,h7,h8,h9,h10,hx.trans k3,k3⟩
theorem double_any (sm:Int) (ao:Option Addr) (n c:Nat) (z:Int) (k:Nat) (w:World) (h:IsInt w sm ao n c z) (hk:k≤1073741824) (K:Nat) (hK:K≤4194304) (hf:Fit K z) :
  Calls Tryz.prog 124 #[.agg #[.int .i64 sm,.slice ao n c],.int .u64 k] w fun e w'=>∃ (s':Int) (a':Option Addr) (n' c':Nat),e=.returned (.agg #[.int .i64 s',.slice a' n' c'])∧IsInt w' s' a' n' c' (z*2 ^ k)∧Ext w w':=by
 have q1:=eql_nil ao n c 0 0
 have H:=hid h;have Hf:=hid hf
 have hzb:=h.bool
 obtain ⟨u,hu⟩:∃ u,IntKind.i64.wrap (sm*2 ^ min k 64)=u:=⟨_,rfl⟩
 obtain ⟨q,hq⟩:∃ q,u / 2 ^ min k 64=q:=⟨_,rfl⟩
 by_cases hsh:ao=none∧q=sm
 ·obtain ⟨rfl,rfl⟩:=hsh
  obtain ⟨rfl,rfl,rfl,r1,r2⟩:=h.none
  have hfin:=shl_back q k (by rw [hu];exact hq)
  rw [hu] at hfin
  have hur : -9223372036854775808≤u∧u≤9223372036854775807:=by rw [←hu,IntKind.wrap_i64];omega
  rw [←hfin]
  have hno:(none:Option Addr).isNone=true:=rfl
  clear h hf hzb hfin H Hf
  go_enter Tryz.func124,Tryz.ntmps124
  go_wp2
  exact bodyPost_ret (v:=.agg #[.int .i64 u,.slice none 0 0]) (by simp [results,Tryz.results124,go_sem]) rfl ⟨u,none,0,0,rfl,IsInt.small _ _ hur.1 hur.2,(Ext.alloc _ _).then _⟩
 ·obtain ⟨bb,hbb⟩:∃ bb,decide (sm<0)=bb:=⟨_,rfl⟩
  have hcase:ao.isNone=false∨(ao=none∧(q == sm)=false):=by
   rcases ao with _ | a
   ·right;refine ⟨rfl,?_⟩;rw [beq_eq_false_iff_ne];intro e;exact hsh ⟨rfl,e⟩
   ·left;rfl
  rw [hbb] at hzb
  have Hzb:=hid hzb;have Hbb:=hid hbb
  clear hsh h hf hzb hbb
  rcases hcase with hno | ⟨rfl,hno⟩
  all_goals
   go_enter Tryz.func124,Tryz.ntmps124
   go_wp2_with fail
  ·have hbx:=boxes1 w (.int .i64 sm) (.slice ao n c)
   generalize (w.alloc (.cells #[.int .i64 sm,.slice ao n c] 24)).alloc (.cells #[.int .i64 0,.slice none 0 0] 24)=W0 at *
   have hB:w.heap.size<W0.heap.size:=by have:=hbx.size;omega
   have hnn:=negative_from (w:=W0) sm (.slice ao n c)
   rw [Hbb.out] at hnn
   have Hn:=hid hnn;have Hw:=hid (words_from (H.out.ext hbx.ext));have Hsu:=hid (shiftUp_from (w:=W0) k hk);have Hfw:=hid (fromWords_from (w:=W0) bb)
   have hE0d:Ext W0 W0.drew:=Below.drew (Ext.refl _)
   have c0:=hbx.c0;have c1:=hbx.c1
   clear hnn
   go_region_held3 (fun w'=>w'.cell? ⟨w.heap.size,0,none⟩=some (.int .i64 sm)∧w'.cell? ⟨w.heap.size,1,none⟩=some (.slice ao n c))
    (refine ⟨?_,?_⟩<;>(repeat (refine cellPut (by omega) ?_))<;>exact cellKeep (W:=W0) (by assumption) (by omega) (by assumption))
    (first | (go_at_call 92;refine (Hn.out _ (by assumption)).mono ?_;rintro e w1 ⟨rfl,he1,hx1⟩) | (go_at_call 101;refine (Hw.out _ (by assumption)).mono ?_;rintro e w2 ⟨a2,l2,n2,c2,rfl,hl2,hn2,hc2,hs2,hd2,hm2,Hv2,he2,hx2⟩;have Hl2:=hid hl2;clear hl2) | (go_at_call 148;refine (Hsu.out _ a2 l2 n2 c2 (by assumption) Hl2.out (hs2.ext (Ext.refl _)) hd2 hn2 (by have:=Hf.out.len hm2 Hv2.out;have:=Hl2.out;omega)).mono ?_;rintro e w3 ⟨a3,l3,n3,c3,rfl,hl3,hn3,hc3,hs3,hd3,hm3,Hv3,he3,hx3⟩;have Hl3:=hid hl3;clear hl3) | (go_at_call 130;refine (Hfw.out _ a3 l3 n3 c3 (by assumption) Hl3.out hs3 hd3 hn3 hc3).mono ?_;rintro e w4 ⟨s4,a4,n4,c4,rfl,hI4,he4,hx4⟩;have hr4:=hbx.res.ext he4;have k0:=hr4.c0;have k1:=hr4.c1;have g0:=hr4.f0;have g1:=hr4.f1))
   go_wp2_with fail
   exact bodyPost_ret (v:=.agg #[.int .i64 s4,.slice a4 n4 c4]) (by simp [results,Tryz.results124,go_sem,k0,k1]) rfl ⟨s4,a4,n4,c4,rfl,(hI4.cast (by rw [Hv3.out,Hv2.out,sgn_pow,←Hzb.out])).keep64 (Keep64.set2 (.i64 k0) (.slice k1) (notW_i64 _) _),(hbx.ext.trans he4).put2 (by omega) _ _⟩
  ·have hbx:=boxes1 w (.int .i64 sm) (.slice none n c)
   generalize (w.alloc (.cells #[.int .i64 sm,.slice none n c] 24)).alloc (.cells #[.int .i64 0,.slice none 0 0] 24)=W0 at *
   have hB:w.heap.size<W0.heap.size:=by have:=hbx.size;omega
   have hnn:=negative_from (w:=W0) sm (.slice none n c)
   rw [Hbb.out] at hnn
   have Hn:=hid hnn;have Hw:=hid (words_from (H.out.ext hbx.ext));have Hsu:=hid (shiftUp_from (w:=W0) k hk);have Hfw:=hid (fromWords_from (w:=W0) bb)
   have hE0d:Ext W0 W0.drew:=Below.drew (Ext.refl _)
   have c0:=hbx.c0;have c1:=hbx.c1
   clear hnn
   go_region_held3 (fun w'=>w'.cell? ⟨w.heap.size,0,none⟩=some (.int .i64 sm)∧w'.cell? ⟨w.heap.size,1,none⟩=some (.slice none n c))
    (refine ⟨?_,?_⟩<;>(repeat (refine cellPut (by omega) ?_))<;>exact cellKeep (W:=W0) (by assumption) (by omega) (by assumption))
    (first | (go_at_call 92;refine (Hn.out _ (by assumption)).mono ?_;rintro e w1 ⟨rfl,he1,hx1⟩) | (go_at_call 101;refine (Hw.out _ (by assumption)).mono ?_;rintro e w2 ⟨a2,l2,n2,c2,rfl,hl2,hn2,hc2,hs2,hd2,hm2,Hv2,he2,hx2⟩;have Hl2:=hid hl2;clear hl2) | (go_at_call 148;refine (Hsu.out _ a2 l2 n2 c2 (by assumption) Hl2.out (hs2.ext (Ext.refl _)) hd2 hn2 (by have:=Hf.out.len hm2 Hv2.out;have:=Hl2.out;omega)).mono ?_;rintro e w3 ⟨a3,l3,n3,c3,rfl,hl3,hn3,hc3,hs3,hd3,hm3,Hv3,he3,hx3⟩;have Hl3:=hid hl3;clear hl3) | (go_at_call 130;refine (Hfw.out _ a3 l3 n3 c3 (by assumption) Hl3.out hs3 hd3 hn3 hc3).mono ?_;rintro e w4 ⟨s4,a4,n4,c4,rfl,hI4,he4,hx4⟩;have hr4:=hbx.res.ext he4;have k0:=hr4.c0;have k1:=hr4.c1;have g0:=hr4.f0;have g1:=hr4.f1))
   go_wp2_with fail
   exact bodyPost_ret (v:=.agg #[.int .i64 s4,.slice a4 n4 c4]) (by simp [results,Tryz.results124,go_sem,k0,k1]) rfl ⟨s4,a4,n4,c4,rfl,(hI4.cast (by rw [Hv3.out,Hv2.out,sgn_pow,←Hzb.out])).keep64 (Keep64.set2 (.i64 k0) (.slice k1) (notW_i64 _) _),(hbx.ext.trans he4).put2 (by omega) _ _⟩
end Go.Proofs.YtiicfpdiehgikaaGreatDoor
