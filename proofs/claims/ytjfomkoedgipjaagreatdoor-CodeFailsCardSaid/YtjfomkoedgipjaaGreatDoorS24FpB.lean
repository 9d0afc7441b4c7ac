/-
  Reading fractions: scanFrac, parseWhole. The reference's numbers: zodd, zhalf. The reference's numbers: ZTwos. What is read is written as it stood; ZSign; the number of twos. Fractions' texts: what is read, what is written. Reading fractions: ParseFrac.
-/
import Derived.Test.YtjfomkoedgipjaaGreatDoorS23FqD
namespace Go.Proofs.YtjfomkoedgipjaaGreatDoor
set_option maxRecDepth 100000
set_option maxHeartbeats 4000000
open Go.RowKit
theorem scanN_le (l:List Nat):(scanN l).1<=l.length:=by
 unfold scanN
 split
 ·rename_i h;exact h.1
 ·have h1:=sgl_le l
  have h2:=spos_le (l.drop (sgl l));rw [qF] at h2
  show sgl l+_<=_
  omega
def fsl (l:List Nat):Prop:=(scanN l).2=true/\(scanN l).1<l.length/\l.getD (scanN l).1 0=47
instance (l:List Nat):Decidable (fsl l):=by unfold fsl;exact inferInstance
def fend (l:List Nat):Nat:=if fsl l then (scanN l).1+1+spos (l.drop ((scanN l).1+1)) else (scanN l).1
def fokk (l:List Nat):Bool:=if fsl l then decide (0<spos (l.drop ((scanN l).1+1))) else (scanN l).2
theorem scanFrac_any (s:ByteArray) (w:World) (hs:s.size<=9223372036854775807) :
  Calls Tryz.prog 50 #[.string s] w fun e w'=>e=.returned (.tuple #[.int .i64 ((scanN (bs s)).1:Nat),.int .i64 (fend (bs s):Nat),.bool (fokk (bs s))])/\w=w':=by
 have Hscan:=hid (fun wx=>scanNumber_any s wx hs);have hlen:=bs_length s;have hle:=scanN_le (bs s);rw [hlen] at hle
 by_cases h:fsl (bs s)
 ·have He:Hid (fend (bs s)=(scanN (bs s)).1+1+spos ((bs s).drop ((scanN (bs s)).1+1))):=by show _=_;unfold fend;rw [qU h]
  have Ho:Hid (fokk (bs s)=decide (0<spos ((bs s).drop ((scanN (bs s)).1+1)))):=by show _=_;unfold fokk;rw [qU h]
  obtain ⟨h1,h2,h3⟩:=h;obtain ⟨en,hen⟩:∃ en,(scanN (bs s)).1=en:=⟨_,rfl⟩;rw [h1,hen] at Hscan;rw [hen] at He Ho h2 h3;rw [hlen] at h2
  have hb:((s[en].toNat:Int) == 47)=true:=by rw [yY,bs_at s en h2];omega
  have hext:bs (s.extract (en+1) s.size)=(bs s).drop (en+1):=by
   rw [bs_extract,qB];rw [qF,bs_length];omega
  have hsz:(s.extract (en+1) s.size).size<=9223372036854775807:=by
   rw [<-bs_length,hext,qF,bs_length];omega
  have Hsp:=hid (fun wx=>scanPositive_any (s.extract (en+1) s.size) wx hsz);have hspl:=spos_le ((bs s).drop (en+1));rw [qF,bs_length] at hspl;rw [hext] at Hsp;obtain ⟨d,hd⟩:∃ d,spos ((bs s).drop (en+1))=d:=⟨_,rfl⟩;rw [hd] at He Ho Hsp hspl;rw [hen]
  have hne:((en:Int) == (s.size:Int))=false:=by rw [qV];omega
  have hgi:(en:Int)+1<=(s.size:Int):=by omega
  have hli:(en:Int)<(s.size:Int):=by omega
  have hdl:(en:Int)+1+(d:Int)<=(s.size:Int):=by omega
  clear hext hsz hd h1 h3 hle hlen hen
  go_enter Tryz.func50,Tryz.ntmps50
  go_wp2_with fail
  refine (Hscan.out _).mono ?_;rintro e w1 ⟨rfl,rfl⟩
  go_wp2_with fail
  refine (Hsp.out _).mono ?_;rintro e w2 ⟨rfl,rfl⟩
  go_wp2_with fail
  exact qJ (v:=.tuple #[.int .i64 (en:Int),.int .i64 ((en:Int)+1+(d:Int)),.bool (decide ((0:Int)<(d:Int)))]) (by simp [results,Tryz.results50,go_sem]) rfl ⟨by rw [He.out,Ho.out];simp,rfl⟩
 ·have He:Hid (fend (bs s)=(scanN (bs s)).1):=by show _=_;unfold fend;rw [qE h]
  have Ho:Hid (fokk (bs s)=(scanN (bs s)).2):=by show _=_;unfold fokk;rw [qE h]
  obtain ⟨en,hen⟩:∃ en,(scanN (bs s)).1=en:=⟨_,rfl⟩;obtain ⟨ok,hok⟩:∃ ok,(scanN (bs s)).2=ok:=⟨_,rfl⟩;rw [hok,hen] at Hscan
  have hcase:ok=false\/(ok=true/\((en:Int) == (s.size:Int))=true)\/(ok=true/\∃ h2:en<s.size,((en:Int) == (s.size:Int))=false/\((s[en].toNat:Int) == 47)=false):=by
   cases ok
   ·exact qM rfl
   ·right
    by_cases h2:en<s.size
    ·right
     refine ⟨rfl,h2,by rw [qV];omega,?_⟩;rw [qV,bs_at s en h2];intro hc;exact h ⟨hok,by rw [hen,hlen];exact h2,by rw [hen];omega⟩
    ·left;exact ⟨rfl,by rw [hen] at hle;rw [yY];omega⟩
  rw [hen] at He hle;rw [hok] at Ho;rw [hen];clear h hen hok hlen
  rcases hcase with rfl | ⟨rfl,h1⟩ | ⟨rfl,h2,h3,h4⟩
  ·go_enter Tryz.func50,Tryz.ntmps50
   go_wp2_with fail
   refine (Hscan.out _).mono ?_;rintro e w1 ⟨rfl,rfl⟩
   go_wp2_with fail
   exact qJ (v:=.tuple #[.int .i64 (en:Int),.int .i64 (en:Int),.bool false]) (by simp [results,Tryz.results50,go_sem]) rfl ⟨by rw [He.out,Ho.out],rfl⟩
  ·go_enter Tryz.func50,Tryz.ntmps50
   go_wp2_with fail
   refine (Hscan.out _).mono ?_;rintro e w1 ⟨rfl,rfl⟩
   go_wp2_with fail
   exact qJ (v:=.tuple #[.int .i64 (en:Int),.int .i64 (en:Int),.bool true]) (by simp [results,Tryz.results50,go_sem]) rfl ⟨by rw [He.out,Ho.out],rfl⟩
  ·go_enter Tryz.func50,Tryz.ntmps50
   go_wp2_with fail
   refine (Hscan.out _).mono ?_;rintro e w1 ⟨rfl,rfl⟩
   go_wp2_with fail
   exact qJ (v:=.tuple #[.int .i64 (en:Int),.int .i64 (en:Int),.bool true]) (by simp [results,Tryz.results50,go_sem]) rfl ⟨by rw [He.out,Ho.out],rfl⟩
def QRetG (w:World) (P Q C A:Int) (e:Ending) (w':World):Prop :=
 ∃ (s:Int) (a:Option Addr) (n c:Nat) (s':Int) (a':Option Addr) (n' c':Nat),e=.returned (.tuple #[.agg #[.int .i64 s,.slice a n c,.int .i64 s',.slice a' n' c'],.agg #[.int .i64 C,.int .i64 A]])/\IsFr w' s a n c s' a' n' c' P Q/\Ext w w'
theorem parseWhole_any (s:ByteArray) (w:World) (hs:s.size<=9223372036854775807) (K:Nat) (hK:K<=4194304) (hK1:1<=K) (fz:Fit K (pz (bs s))) (f1:Fit K 1) (hbr:Bru w) :
  Calls Tryz.prog 51 #[.string s] w (QRetG w (pz (bs s)) 1 ((pcode (bs s):Nat):Int) ((pat (bs s):Nat):Int)):=by
 have Hp:=hid (fun wx=>Parse_any s wx hs);have Fz:=hid fz;have F1:=hid f1;have Hbr:=hid hbr
 have hz0:pcode (bs s)≠0->pz (bs s)=0:=by
  intro h;unfold pz;unfold pcode at h;rw [qE];intro hc;rw [qU ⟨hc.1,hc.2.1⟩,qE hc.2.2] at h;exact h rfl
 have ha0:pcode (bs s)=0->pat (bs s)=0:=by
  intro h;unfold pcode at h;unfold pat
  by_cases hc:(scanN (bs s)).2=true/\¬ (scanN (bs s)).1<(bs s).length
  ·rw [qU hc]
  ·rw [qE hc] at h;omega
 obtain ⟨z,ez⟩:∃ z,pz (bs s)=z:=⟨_,rfl⟩;obtain ⟨p,ep⟩:∃ p:Int,((pcode (bs s):Nat):Int)=p:=⟨_,rfl⟩;obtain ⟨p',ep'⟩:∃ p':Int,((pat (bs s):Nat):Int)=p':=⟨_,rfl⟩
 have hz0:p≠0->z=0:=by intro h;rw [<-ez];exact hz0 (by omega)
 have ha0:p=0->p'=0:=by intro h;have:=ha0 (by omega);omega
 rw [ez] at Hp Fz;rw [ep,ep'] at Hp;rw [ez,ep,ep'];have HOf:=hid (fun wx=>Of_any 1 (by omega) (by omega) wx);clear ez ep ep' fz f1 hbr;have hE:Ext w ((w.alloc (.cells #[.int .i64 0,.slice none 0 0,.int .i64 0,.slice none 0 0] 56)).alloc (.cells #[.int .i64 0,.int .i64 0] 26)):=(Ext.alloc w (.cells #[.int .i64 0,.slice none 0 0,.int .i64 0,.slice none 0 0] 56)).then (.cells #[.int .i64 0,.int .i64 0] 26)
 have qr:QRes ((w.alloc (.cells #[.int .i64 0,.slice none 0 0,.int .i64 0,.slice none 0 0] 56)).alloc (.cells #[.int .i64 0,.int .i64 0] 26)) w.heap.size:=by
  have q:QRes (w.alloc (.cells #[.int .i64 0,.slice none 0 0,.int .i64 0,.slice none 0 0] 56)) w.heap.size:=⟨qW w _⟩;exact q.ext (Ext.alloc _ _)
 have fr:FRes ((w.alloc (.cells #[.int .i64 0,.slice none 0 0,.int .i64 0,.slice none 0 0] 56)).alloc (.cells #[.int .i64 0,.int .i64 0] 26)) (w.heap.size+1):=by
  have:=qW (w.alloc (.cells #[.int .i64 0,.slice none 0 0,.int .i64 0,.slice none 0 0] 56)) (.cells #[.int .i64 0,.int .i64 0] 26);exact ⟨by simp,by simpa using this⟩
 by_cases hp:p=0
 ·have hp':=ha0 hp
  subst hp;subst hp';clear hz0 ha0
  go_enter Tryz.func51,Tryz.ntmps51
  go_wp2_with fail
  generalize (w.alloc (.cells #[.int .i64 0,.slice none 0 0,.int .i64 0,.slice none 0 0] 56)).alloc (.cells #[.int .i64 0,.int .i64 0] 26)=W0 at *;refine (Hp.out W0).mono ?_;rintro e u1 ⟨s1,a1,n1,c1,rfl,I1,hx1⟩;have hq1:=(Ext.alloc u1 (.cells #[.int .i64 s1,.slice a1 n1 c1] 54)).then (.cells #[.int .i64 0,.int .i64 0] 26);have b1:=(box_new u1 s1 a1 n1 c1).ext (Ext.alloc _ (.cells #[.int .i64 0,.int .i64 0] 26));have I1:=I1.ext hq1;have lR:w.heap.size+1<u1.heap.size:=qK fr.lt hx1.size;have qr:=qr.ext (hx1.trans hq1);have fr:=fr.ext (hx1.trans hq1);have HE1:=hid (hE.trans (hx1.trans hq1));have LR:=hid lR;clear hq1 hx1 hE lR
  go_wp2_with fail
  generalize (u1.alloc (.cells #[.int .i64 s1,.slice a1 n1 c1] 54)).alloc (.cells #[.int .i64 0,.int .i64 0] 26)=W1 at *;generalize u1.heap.size=A at *;have m0:=b1.c0;have m1:=b1.c1;have lA:=b1.lt;have lR:=LR.out;have h0d:Ext W1 W1.drew:=qG (Ext.refl _)
  go_region_held3 (fun w'=>w'.cell? ⟨A,0,none⟩=some (.int .i64 s1)/\w'.cell? ⟨A,1,none⟩=some (.slice a1 n1 c1))
   (exact ⟨by (repeat (refine cellPut (by omega) ?_));exact cellKeep (W:=W1) (by assumption) lA m0,by (repeat (refine cellPut (by omega) ?_));exact cellKeep (W:=W1) (by assumption) lA m1⟩)
   (first
    | (have _:=qv0;go_at_call 90;refine (lowest_fr s1 1 a1 none n1 c1 0 0 z 1 _ (I1.ext hv0) Kv0 K hK hK1 Fz.out F1.out (by omega) (bru_ext Hbr.out (HE1.out.trans hv0))).mono ?_;rintro e v1 ⟨s9,a9,n9,c9,s8,a8,n8,c8,rfl,I9,qv1⟩;have hv1:Ext W1 v1:=hv0.trans qv1;have R5:=qr.ext hv1;have k0:=R5.c0;have k1:=R5.c1;have k2:=R5.c2;have k3:=R5.c3;have f0:=R5.f0 0;have f1:=R5.f0 1;have f2:=R5.f0 2;have f3:=R5.f0 3;have F5:=fr.ext hv1;have k4:=F5.c0;have k5:=F5.c1;have f4:=F5.f0;have f5:=F5.f1)
    | (go_at_call 56;refine (HOf.out _).mono ?_;rintro e v0 ⟨rfl,Kv0,qv0⟩;have hv0:Ext W1 v0:=Ext.trans (by assumption) qv0))
  have hkk:=Keep64.set6 (w:=v1) (.i64 k0) (.slice k1) (.i64 k2) (.slice k3) (.i64 k4) (.i64 k5) (notW_i64 s9) (notW_slice a9 n9 c9) (notW_i64 s8) (notW_slice a8 n8 c8) (notW_i64 0) (.int .i64 0);have HI9:=hid ((I9.cast (nf_one z).1 (nf_one z).2).keep64 hkk);clear hkk I9
  go_wp2_with fail
  exact qJ (v:=.tuple #[.agg #[.int .i64 s9,.slice a9 n9 c9,.int .i64 s8,.slice a8 n8 c8],.agg #[.int .i64 0,.int .i64 0]]) (by simp [results,Tryz.results51,go_sem,k0,k1,k2,k3,k4,k5]) rfl ⟨s9,a9,n9,c9,s8,a8,n8,c8,rfl,HI9.out,(((HE1.out.trans hv1).put2 (by omega) _ _).put2 (by omega) _ _).put2 (by omega) _ _⟩
 ·have hz:=hz0 hp
  subst hz;clear hz0 ha0
  have hpb:(p == 0)=false:=by rw [qV];exact hp
  go_enter Tryz.func51,Tryz.ntmps51
  go_wp2_with fail
  generalize (w.alloc (.cells #[.int .i64 0,.slice none 0 0,.int .i64 0,.slice none 0 0] 56)).alloc (.cells #[.int .i64 0,.int .i64 0] 26)=W0 at *;refine (Hp.out W0).mono ?_;rintro e u1 ⟨s1,a1,n1,c1,rfl,I1,hx1⟩;have hq1:=(Ext.alloc u1 (.cells #[.int .i64 s1,.slice a1 n1 c1] 54)).then (.cells #[.int .i64 p,.int .i64 p'] 26);have f1:=fbx_new (u1.alloc (.cells #[.int .i64 s1,.slice a1 n1 c1] 54)) p p';rw [show (u1.alloc (.cells #[.int .i64 s1,.slice a1 n1 c1] 54)).heap.size=u1.heap.size+1 from by simp] at f1;have lR:w.heap.size+1<u1.heap.size:=qK fr.lt hx1.size;have qr:=qr.ext (hx1.trans hq1);have fr:=fr.ext (hx1.trans hq1);have HE1:=hid (hE.trans (hx1.trans hq1));have m0:=f1.c0;have m1:=f1.c1;have k0:=qr.c0;have k1:=qr.c1;have k2:=qr.c2;have k3:=qr.c3;have f0:=qr.f0 0;have f1:=qr.f0 1;have f2:=qr.f0 2;have f3:=qr.f0 3;have k4:=fr.c0;have k5:=fr.c1;have f4:=fr.f0;have f5:=fr.f1
  have hn1:u1.heap.size+1≠w.heap.size:=by omega
  have hn2:u1.heap.size+1≠w.heap.size+1:=by omega
  clear hq1 hx1 hE lR I1
  go_wp2_with fail
  go_region
  all_goals
   go_wp2_with fail
   exact qJ (v:=.tuple #[.agg #[.int .i64 0,.slice none 0 0,.int .i64 0,.slice none 0 0],.agg #[.int .i64 p,.int .i64 p']]) (by simp [results,Tryz.results51,go_sem,k0,k1,k2,k3,k4,k5]) rfl ⟨0,none,0,0,0,none,0,0,rfl,IsFr.zero _,qG (((HE1.out.put2 (by omega) _ _).put2 (by omega) _ _).put2 (by omega) _ _)⟩
theorem IsZ.abs {w:World} {neg:Bool} {ao:Option Addr} {n c:Nat} {z:Int} (h:IsZ w neg ao n c z):∃ l:List Nat,l.length=n/\n<=c/\c<=maxLen/\ISeg w ao l/\ZD l/\ZN l/\z.natAbs=zval l/\z=(if neg then -(zval l:Int) else (zval l:Int))/\(l=[]->neg=false):=by
 obtain ⟨l,h1,h2,h3,h4,h5,h6,h7,h8⟩:=h
 exact ⟨l,h1,h2,h3,h4,h5,h6,by rw [h7];cases neg<;>simp,h7,h8⟩
theorem drop_set (D:List Nat) (j x:Nat) (h:j<D.length):(D.set j x).drop j=x :: D.drop (j+1):=by
 rw [List.drop_eq_getElem_cons (by rw [jV];exact h),List.getElem_set_self]
 congr 1
 apply List.ext_getElem?
 intro i;rw [List.getElem?_drop,List.getElem?_drop,List.getElem?_set_ne (by omega)]
theorem ZBx.own {W:World} {g:Nat} {b:Bool} {a:Option Addr} {n c:Nat} (h:ZBx W g b a n c) (b':Bool) (a':Option Addr) (n' c':Nat):ZBx ((W.setCell ⟨g,0,none⟩ (.bool b')).setCell ⟨g,1,none⟩ (.slice a' n' c')) g b' a' n' c':=by
 have h1:=yZ W g 0 _ _ (.bool b') h.row;have h2:=yZ _ g 1 _ _ (.slice a' n' c') h1;exact ⟨by rw [h2];rfl⟩
theorem ZBx.f {W:World} {g:Nat} {b:Bool} {a:Option Addr} {n c:Nat} (h:ZBx W g b a n c) (o:Nat):W.frozen? ⟨g,o,none⟩=false:=jQ W g o _ _ h.row
theorem IsZ.zero_iff {w:World} {neg:Bool} {ao:Option Addr} {n c:Nat} {z:Int} (h:IsZ w neg ao n c z):(n=0↔z.natAbs=0)/\z.natAbs<10000 ^ n:=by
 obtain ⟨l,p1,p2,p3,p4,p5,p6,p7,p8,p9⟩:=h.abs;refine ⟨⟨fun h0=>?_,fun h0=>?_⟩,?_⟩
 ·have e:l=[]:=jD (by omega)
  rw [p7,e];rfl
 ·rw [p7] at h0
  have:=(zval_zero p6).1 h0;rw [<-p1,this];rfl
 ·rw [p7,<-p1];exact zval_lt p5
theorem AllD.snoc_iff {d:List Nat} {x:Nat} (h:AllD (d++[x])):AllD d/\isD x=true:=by
 refine ⟨fun t ht=>?_,?_⟩
 ·have:=h t (by rw [qT];omega)
  rwa [qQ,List.getElem?_append_left ht,<-qQ] at this
 ·have:=h d.length (by simp)
  rwa [qQ,List.getElem?_append_right (qZ _),Nat.sub_self] at this
theorem decN_back:∀ (n:Nat) (d:List Nat),d.length=n+1->AllD d->d.getD 0 0≠48->0<dval d/\decN (dval d)=d:=by
 intro n
 induction n with
 | zero =>
  intro d hl hd h0;obtain ⟨x,rfl⟩:=List.length_eq_one_iff.1 hl;have hx:=hd 0 (by simp);simp only [List.getD_cons_zero,isD,jZ] at hx h0
  have hv:dval [x]=x-48:=by simp [dval]
  rw [hv];refine ⟨by omega,?_⟩;rw [decN_small (by omega)]
  congr 1
  omega
 | succ n ih =>
  intro d hl hd h0
  have hne:d≠[]:=by intro e;subst e;simp at hl
  obtain ⟨d',x,rfl⟩:∃ d' x,d=d'++[x]:=⟨d.dropLast,d.getLast hne,(List.dropLast_concat_getLast hne).symm⟩;obtain ⟨hd',hx⟩:=hd.snoc_iff
  have hl':d'.length=n+1:=by simpa using hl
  have h0':d'.getD 0 0≠48:=by
   rwa [qQ,List.getElem?_append_left (by omega),<-qQ] at h0
  obtain ⟨ih1,ih2⟩:=ih d' hl' hd' h0';simp only [isD,jZ] at hx;rw [dval_snoc];refine ⟨by omega,?_⟩;rw [decN_big (by omega)]
  have e1:(10*dval d'+(x-48)) / 10=dval d':=by omega
  have e2:48+(10*dval d'+(x-48)) % 10=x:=by omega
  rw [e1,e2,ih2]
theorem txt_pz (l:List Nat) (h:pcode l=0):txt (pz l)=l:=by
 unfold pcode at h
 by_cases hc:(scanN l).2=true/\¬ (scanN l).1<l.length
 ·rw [qU hc] at h
  have hlong:¬ 1000<l.length-sgl l:=by
   intro hl;rw [qU hl] at h;omega
  have hpz:pz l=sgn (decide (0<sgl l)) (dval (l.drop (sgl l))):=by unfold pz;rw [qU ⟨hc.1,hc.2,hlong⟩]
  have hall:=allD_of_scan l hc.1 hc.2;obtain ⟨h1,h2⟩:=hc;unfold scanN at h1 h2
  by_cases h48:0<l.length/\l.getD 0 0=48
  ·rw [qU h48] at h2
   have hl:l.length=1:=by have:=h48.1;simp at h2;omega
   obtain ⟨x,rfl⟩:=List.length_eq_one_iff.1 hl
   have hx:x=48:=by simpa using h48.2
   subst hx;rw [hpz]
   decide +kernel
  ·rw [qE h48] at h1
   have hpos:0<spos (l.drop (sgl l)):=by simpa using h1
   unfold spos at hpos
   by_cases hcc:(l.drop (sgl l)).length=0\/(l.drop (sgl l)).getD 0 0=48
   ·rw [qU hcc] at hpos
    omega
   ·have hn0:(l.drop (sgl l)).length≠0:=fun e=>hcc (qM e)
    obtain ⟨k,hk⟩:∃ k,(l.drop (sgl l)).length=k+1:=⟨(l.drop (sgl l)).length-1,by omega⟩;obtain ⟨g1,g2⟩:=decN_back k _ hk hall (fun e=>hcc (qO e));rw [hpz]
    by_cases h45:l.getD 0 0=45
    ·have hs:sgl l=1:=by unfold sgl;rw [qU h45]
     rw [hs] at g1 g2 ⊢;have hz:sgn (decide (0<1)) (dval (l.drop 1))=-(dval (l.drop 1):Int):=rfl;rw [hz,txt_neg (by omega),Int.natAbs_neg,Int.natAbs_natCast,g2]
     cases l with
     | nil=>simp at h45
     | cons y r =>
      simp at h45
      rw [h45];rfl
    ·have hs:sgl l=0:=by unfold sgl;rw [qE h45]
     rw [hs] at g1 g2 ⊢;have hz:sgn (decide (0<0)) (dval (l.drop 0))=(dval (l.drop 0):Int):=rfl;rw [hz,txt_pos (by omega),Int.natAbs_natCast,g2]
     rfl
 ·rw [qE hc] at h
  omega
theorem itoa_back (s:ByteArray) (h:pcode (bs s)=0):(⟨(Lib.itoa (pz (bs s))).toArray⟩:ByteArray)=s:=by
 have h1:=txt_pz (bs s) h;unfold txt bs at h1
 have h2:Lib.itoa (pz (bs s))=s.data.toList:=by
  unfold bs;exact (List.map_inj_right (fun _ _ e=>UInt8.toNat_inj.1 e)).1 h1
 rw [h2]
theorem ZSign_any (neg:Bool) (ao:Option Addr) (n c:Nat) (z:Int) (w:World) (h:IsZ w neg ao n c z) (k:Int) (hk:cmp3 z 0=k) :
  Calls Tryz.prog 9 #[.agg #[.bool neg,.slice ao n c]] w fun e w'=>e=.returned (.int .i64 k)/\Ext w w':=by
 have hE:=ext_alloc w (.cells #[.bool neg,.slice ao n c] 33);have Hz:=Lh (zsign_any neg ao n c z _ (h.ext hE) k (by rw [<-hk];unfold cmp3;rfl));clear h hk
 go_enter Tryz.func9,Tryz.ntmps9
 go_wp2_with fail
 refine Hz.out.mono ?_;rintro e w1 ⟨rfl,hx1⟩
 go_wp2_with fail
 go_ret
 exact ⟨rfl,hE.trans hx1⟩
theorem tw_idem (l:List Nat):(l.takeWhile isD).takeWhile isD=l.takeWhile isD:=by
 induction l with
 | nil=>rfl
 | cons x r ih =>
  by_cases h:isD x=true
  ·simp [h,ih]
  ·simp [h]
theorem sgl_head {a b:List Nat} (h:a.getD 0 0=b.getD 0 0):sgl a=sgl b:=by unfold sgl;rw [h]
theorem spos_take (l:List Nat):spos (l.take (spos l))=spos l:=by
 by_cases h:l.length=0\/l.getD 0 0=48
 ·have e:spos l=0:=by unfold spos;rw [qU h]
  rw [e]
  rfl
 ·have e:spos l=dcount l:=by unfold spos;rw [qE h]
  rw [e];have hp:l.takeWhile isD=l.take (dcount l):=List.prefix_iff_eq_take.1 (List.takeWhile_prefix _)
  by_cases h0:dcount l=0
  ·rw [h0];rfl
  ·have hn:¬ ((l.take (dcount l)).length=0\/(l.take (dcount l)).getD 0 0=48):=by
    intro hc
    rcases hc with hc | hc
    ·rw [qC] at hc
     have:=dcount_le l;omega
    ·rw [qQ,jC,qU (by omega),<-qQ] at hc
     exact h (qO hc)
   unfold spos;rw [qE hn];rw [<-hp];unfold dcount;rw [tw_idem]
theorem scan_take (l:List Nat) (h:(scanN l).2=true):scanN (l.take (scanN l).1)=((scanN l).1,true):=by
 by_cases h48:0<l.length/\l.getD 0 0=48
 ·have e:scanN l=(1,true):=by unfold scanN;rw [qU h48]
  rw [e]
  show scanN (l.take 1)=(1,true)
  unfold scanN;rw [qU];refine ⟨by rw [qC];have:=h48.1;omega,?_⟩;rw [qQ,jC,qU (by omega),<-qQ];exact h48.2
 ·have e:scanN l=(sgl l+spos (l.drop (sgl l)),decide (0<spos (l.drop (sgl l)))):=by unfold scanN;rw [qE h48]
  rw [e] at h ⊢
  have hk:0<spos (l.drop (sgl l)):=by simpa using h
  show scanN (l.take (sgl l+spos (l.drop (sgl l))))=(sgl l+spos (l.drop (sgl l)),true)
  have hat:(l.take (sgl l+spos (l.drop (sgl l)))).getD 0 0=l.getD 0 0:=by
   rw [qQ,jC,qU (by omega),<-qQ]
  have hs:sgl (l.take (sgl l+spos (l.drop (sgl l))))=sgl l:=sgl_head hat
  have hd:(l.take (sgl l+spos (l.drop (sgl l)))).drop (sgl l)=(l.drop (sgl l)).take (spos (l.drop (sgl l))):=by
   rw [List.drop_take]
   congr 1
   omega
  have hle:=scanN_le l;rw [e] at hle;have hle':sgl l+spos (l.drop (sgl l))<=l.length:=hle
  have hne:¬ (0<(l.take (sgl l+spos (l.drop (sgl l)))).length/\(l.take (sgl l+spos (l.drop (sgl l)))).getD 0 0=48):=by
   rintro ⟨q1,q2⟩;rw [hat] at q2;exact h48 ⟨by omega,q2⟩
  unfold scanN;rw [qE hne,hs,hd,spos_take];rw [jJ hk]
theorem below_scan (l:List Nat) (h:spos l=l.length) (h0:0<spos l):scanN l=(l.length,true)/\sgl l=0:=by
 have hc:¬ (l.length=0\/l.getD 0 0=48):=by
  intro hc
  have:spos l=0:=by unfold spos;rw [qU hc]
  omega
 have hd:dcount l=l.length:=by rw [<-h];unfold spos;rw [qE hc]
 have h1:isD (l.getD 0 0)=true:=by
  have hp:l.takeWhile isD=l:=by
   have:=List.prefix_iff_eq_take.1 (List.takeWhile_prefix (l:=l) isD);rw [show (l.takeWhile isD).length=l.length from hd,List.take_length] at this;exact this
  cases l with
  | nil=>simp at hc
  | cons x r =>
   have:isD x=true:=by
    by_cases hx:isD x=true
    ·exact hx
    ·simp [hx] at hp
   simpa using this
 have hs:sgl l=0:=by
  unfold sgl;rw [qE];intro hx;rw [hx] at h1;exact absurd h1 (by decide)
 refine ⟨?_,hs⟩;unfold scanN;rw [qE (fun hx=>hc (qO hx.2)),hs,List.drop_zero,h,jH,jJ (by omega)]
theorem no_bar (z:Int):∀ x ∈ txt z,x≠47:=by
 have hsc:=txt_scan z;have hall:=allD_of_scan (txt z) (by rw [hsc]) (by rw [hsc];simp);intro x hx hb;subst hb;have hsl:=sgl_le (txt z);rw [<-List.take_append_drop (sgl (txt z)) (txt z)] at hx
 rcases jI.1 hx with h1 | h1
 ·by_cases h45:(txt z).getD 0 0=45
  ·have hs:sgl (txt z)=1:=by unfold sgl;rw [qU h45]
   rw [hs] at h1
   cases ht:txt z with
   | nil=>rw [ht] at h1;simp at h1
   | cons y r =>
    rw [ht] at h1 h45
    simp at h1 h45
    omega
  ·have hs:sgl (txt z)=0:=by unfold sgl;rw [qE h45]
   rw [hs] at h1
   simp at h1
 ·obtain ⟨k,hk,e⟩:=List.getElem_of_mem h1
  have:=hall k hk;rw [qQ,qX hk,e] at this;exact absurd this (by decide)
theorem txt_inj {a b:Int} (h:txt a=txt b):a=b:=by
 have h1:=txt_val a;rw [h,txt_val b] at h1;exact h1.symm
theorem split_bar {a b c d:List Nat} (ha:∀ x ∈ a,x≠47) (hc:∀ x ∈ c,x≠47) (h:a++47 :: b=c++47 :: d):b=d:=by
 induction a generalizing c with
 | nil =>
  cases c with
  | nil=>simpa using h
  | cons y r =>
   simp at h
   exact absurd h.1.symm (hc y List.mem_cons_self)
 | cons x r ih =>
  cases c with
  | nil =>
   simp at h
   exact absurd h.1 (ha x List.mem_cons_self)
  | cons y r' =>
   simp at h
   exact ih (fun z hz=>ha z (List.mem_cons_of_mem _ hz)) (fun z hz=>hc z (List.mem_cons_of_mem _ hz)) h.2
def fab (l:List Nat):List Nat:=l.take (scanN l).1
def fbe (l:List Nat):List Nat:=l.drop ((scanN l).1+1)
theorem fsl_split {l:List Nat} (h:fsl l):l=fab l++47 :: fbe l:=by
 obtain ⟨_,h2,h3⟩:=h;unfold fab fbe
 conv=>lhs;rw [<-List.take_append_drop (scanN l).1 l]
 congr 1
 rw [List.drop_eq_getElem_cons h2]
 congr 1
 rw [qQ,qX h2] at h3;exact h3
def fgood (l:List Nat):Prop:=fokk l=true/\¬ fend l<l.length
def flg (l:List Nat):Prop:=1000<(fab l).length-sgl (fab l)\/1000<(fbe l).length-sgl (fbe l)
def ffm (l:List Nat):Prop:=fbe l=[49]\/Nat.gcd (pz (fab l)).natAbs (pz (fbe l)).natAbs≠1
instance (l:List Nat):Decidable (fgood l):=by unfold fgood;exact inferInstance
instance (l:List Nat):Decidable (flg l):=by unfold flg;exact inferInstance
instance (l:List Nat):Decidable (ffm l):=by unfold ffm;exact inferInstance
theorem fab_scan {l:List Nat} (h:fsl l):scanN (fab l)=((fab l).length,true):=by
 have h1:=scan_take l h.1
 have h2:(fab l).length=(scanN l).1:=by
  unfold fab;rw [qC];have:=h.2.1;omega
 rw [h2];exact h1
theorem fbe_scan {l:List Nat} (h:fsl l) (hg:fgood l):scanN (fbe l)=((fbe l).length,true)/\sgl (fbe l)=0/\spos (fbe l)=(fbe l).length/\0<(fbe l).length:=by
 obtain ⟨h1,h2⟩:=hg;unfold fokk at h1;unfold fend at h2;rw [qU h] at h1 h2
 have hk:0<spos (fbe l):=by simpa [fbe] using h1
 have hle:=spos_le (fbe l)
 have hl:(fbe l).length=l.length-((scanN l).1+1):=by unfold fbe;rw [qF]
 have he:spos (fbe l)=(fbe l).length:=by
  have h3:¬ (scanN l).1+1+spos (fbe l)<l.length:=h2;have:=h.2.1;omega
 obtain ⟨g1,g2⟩:=below_scan (fbe l) he hk;exact ⟨g1,g2,he,by omega⟩
theorem code_of {l:List Nat} (h:scanN l=(l.length,true)) (hl:¬ 1000<l.length-sgl l):pcode l=0/\pz l=sgn (decide (0<sgl l)) (dval (l.drop (sgl l))):=by
 refine ⟨?_,?_⟩
 ·unfold pcode;rw [h,qU ⟨rfl,by simp⟩,qE hl]
 ·unfold pz;rw [h,qU ⟨rfl,by simp,hl⟩]
theorem sides {l:List Nat} (h:fsl l) (hg:fgood l) (hl:¬ flg l):txt (pz (fab l))=fab l/\txt (pz (fbe l))=fbe l/\0<pz (fbe l)/\(fbe l=[49]↔pz (fbe l)=1):=by
 have h1:=fab_scan h;obtain ⟨h2,h3,h4,h5⟩:=fbe_scan h hg;obtain ⟨c1,_⟩:=code_of h1 (fun hx=>hl (qM hx));obtain ⟨c2,v2⟩:=code_of h2 (fun hx=>hl (qO hx));have t1:=txt_pz _ c1;have t2:=txt_pz _ c2
 have hnn:0<=pz (fbe l):=by rw [v2,h3];show 0<=((dval _:Nat):Int);omega
 refine ⟨t1,t2,?_,?_⟩
 ·have:pz (fbe l)≠0:=by
   intro h0;rw [h0] at t2
   have e:txt 0=[48]:=by decide +kernel
   rw [e] at t2
   have hs:spos (fbe l)=0:=by rw [<-t2];decide
   omega
  omega
 ·have e:txt 1=[49]:=by
   unfold txt;rw [show Lib.itoa 1=[49] from one_text]
   rfl
  constructor
  ·intro h6
   exact txt_inj (by rw [t2,h6,e])
  ·intro h6
   rw [h6,e] at t2;exact t2.symm
theorem bs_inj {a b:ByteArray} (h:bs a=bs b):a=b:=by
 unfold bs at h
 have h2:a.data.toList=b.data.toList:=by
  refine List.map_inj_right ?_ |>.1 h;intro x y hxy;exact UInt8.toNat_inj.1 hxy
 cases a;cases b
 congr 1
 exact Array.toList_inj.1 h2
theorem bs_ftx (P Q:Int):bs (ftx P Q)=if Q=1 then txt P else txt P++47 :: txt Q:=by
 unfold ftx
 split
 ·rfl
 ·have e:(⟨(Lib.itoa P).toArray⟩++⟨#[47]⟩++⟨(Lib.itoa Q).toArray⟩:ByteArray)=⟨(Lib.itoa P++[47]++Lib.itoa Q).toArray⟩:=by
   rw [show (⟨#[47]⟩:ByteArray)=⟨[47].toArray⟩ from rfl,ByteArray.mk_append_mk,ByteArray.mk_append_mk]
  rw [e];unfold bs txt
  simp
theorem form_iff {s:ByteArray} (h:fsl (bs s)) (hg:fgood (bs s)) (hl:¬ flg (bs s)) :
  ftx (nfp (pz (fab (bs s))) (pz (fbe (bs s)))) (nfq (pz (fab (bs s))) (pz (fbe (bs s))))=s↔¬ ffm (bs s):=by
 obtain ⟨t1,t2,hp,h1⟩:=sides h hg hl;have hsp:=fsl_split h
 have hff:ffm (bs s)↔(pz (fbe (bs s))=1\/Nat.gcd (pz (fab (bs s))).natAbs (pz (fbe (bs s))).natAbs≠1):=by unfold ffm;rw [h1]
 rw [hff];rw [<-t1,<-t2] at hsp;clear t1 t2 h1 hff;generalize pz (fab (bs s))=a at *;generalize pz (fbe (bs s))=b at *
 have hq:∀ z,bs s≠txt z:=by
  intro z hz
  have hm:47 ∈ bs s:=by rw [hsp];simp
  rw [hz] at hm;exact no_bar z 47 hm rfl
 constructor
 ·intro he hf
  have hbs:=bs_ftx (nfp a b) (nfq a b);rw [he] at hbs
  by_cases hn:nfq a b=1
  ·rw [qU hn] at hbs
   exact hq _ hbs
  ·rw [qE hn,hsp] at hbs
   have hd:=txt_inj (split_bar (no_bar _) (no_bar _) hbs)
   rcases hf with hf | hf
   ·rw [hf,(nf_one a).2] at hn
    exact hn rfl
   ·have:=nfq_less hp (z1:=a) hf
    omega
 ·intro hf
  have hb1:b≠1:=fun hx=>hf (qM hx)
  have hg1:Nat.gcd a.natAbs b.natAbs=1:=yB fun hx=>hf (qO hx)
  obtain ⟨g1,g2⟩:=nf_self hp hg1
  apply bs_inj
  rw [g1,g2,bs_ftx,qE hb1,hsp]
def fP (l:List Nat):Int:=if fgood l then (if fsl l then (if flg l\/ffm l then 0 else pz (fab l)) else pz l) else 0
def fQ (l:List Nat):Int:=if fgood l/\fsl l/\¬ flg l/\¬ ffm l then pz (fbe l) else 1
def fcode (l:List Nat):Int:=if fgood l then (if fsl l then (if flg l then 2 else if ffm l then 3 else 0) else ((pcode l:Nat):Int)) else 1
def fat (l:List Nat):Int:=if fgood l then (if fsl l then 0 else ((pat l:Nat):Int)) else ((fend l:Nat):Int)
theorem f_bad {l:List Nat} (h:¬ fgood l):fP l=0/\fQ l=1/\fcode l=1/\fat l=((fend l:Nat):Int):=by
 unfold fP fQ fcode fat;rw [qE h,qE (fun x=>h x.1),qE h,qE h];exact ⟨rfl,rfl,rfl,rfl⟩
theorem f_whole {l:List Nat} (h:fgood l) (hs:¬ fsl l):fP l=pz l/\fQ l=1/\fcode l=((pcode l:Nat):Int)/\fat l=((pat l:Nat):Int):=by
 unfold fP fQ fcode fat;rw [qU h,qE hs,qE (fun x=>hs x.2.1),qU h,qE hs,qU h,qE hs];exact ⟨rfl,rfl,rfl,rfl⟩
theorem f_long {l:List Nat} (h:fgood l) (hs:fsl l) (hl:flg l):fP l=0/\fQ l=1/\fcode l=2/\fat l=0:=by
 unfold fP fQ fcode fat;rw [qU h,qU hs,qU (qM hl),qE (fun x=>x.2.2.1 hl),qU h,qU hs,qU hl,qU h,qU hs];exact ⟨rfl,rfl,rfl,rfl⟩
theorem f_form {l:List Nat} (h:fgood l) (hs:fsl l) (hl:¬ flg l) (hf:ffm l):fP l=0/\fQ l=1/\fcode l=3/\fat l=0:=by
 unfold fP fQ fcode fat;rw [qU h,qU hs,qU (qO hf),qE (fun x=>x.2.2.2 hf),qU h,qU hs,qE hl,qU hf,qU h,qU hs];exact ⟨rfl,rfl,rfl,rfl⟩
theorem f_fine {l:List Nat} (h:fgood l) (hs:fsl l) (hl:¬ flg l) (hf:¬ ffm l):fP l=pz (fab l)/\fQ l=pz (fbe l)/\fcode l=0/\fat l=0:=by
 unfold fP fQ fcode fat;rw [qU h,qU hs,qE (fun x=>x.elim hl hf),qU ⟨h,hs,hl,hf⟩,qU h,qU hs,qE hl,qE hf,qU h,qU hs];exact ⟨rfl,rfl,rfl,rfl⟩
theorem f_lim (l:List Nat):(fP l).natAbs<Lim/\(fQ l).natAbs<Lim/\0<fQ l:=by
 have h1:1<Lim:=qK (by decide) (lim_le 1 (by decide))
 by_cases h:fgood l
 ·by_cases hs:fsl l
  ·by_cases hl:flg l
   ·obtain ⟨a,b,_,_⟩:=f_long h hs hl
    rw [a,b];exact ⟨lim_pos,h1,by omega⟩
   ·by_cases hf:ffm l
    ·obtain ⟨a,b,_,_⟩:=f_form h hs hl hf
     rw [a,b];exact ⟨lim_pos,h1,by omega⟩
    ·obtain ⟨a,b,_,_⟩:=f_fine h hs hl hf
     rw [a,b];exact ⟨pz_lt _,pz_lt _,(sides hs h hl).2.2.1⟩
  ·obtain ⟨a,b,_,_⟩:=f_whole h hs
   rw [a,b];exact ⟨pz_lt _,h1,by omega⟩
 ·obtain ⟨a,b,_,_⟩:=f_bad h
  rw [a,b];exact ⟨lim_pos,h1,by omega⟩
theorem cmp_one {g:Int}:cmp3 g 1=0↔g=1:=by
 unfold cmp3
 by_cases h1:g<1
 ·rw [qU h1];omega
 ·rw [qE h1]
  by_cases h2:1<g
  ·rw [qU h2];omega
  ·rw [qE h2];omega
theorem bs_of_list {s:ByteArray} {l:List UInt8} (h:s.toList=l):bs s=l.map UInt8.toNat:=by
 rw [ByteArray.toList_eq] at h;unfold bs;rw [h]
theorem bs_list {s:ByteArray} {l:List UInt8} (h:bs s=l.map UInt8.toNat):s.toList=l:=by
 have:s=⟨l.toArray⟩:=bs_inj (by rw [h];unfold bs;simp);rw [this,ByteArray.toList_mk]
theorem ParseFrac_any (s:ByteArray) (w:World) (hs:s.size<=9223372036854775807) (K:Nat) (hK:K<=4194304) (hK1:1<=K) (hfit:∀ z:Int,z.natAbs<Lim->Fit K z) (hbr:Bru w) :
  Calls Tryz.prog 15 #[.string s] w (QRetG w (fP (bs s)) (fQ (bs s)) (fcode (bs s)) (fat (bs s))):=by
 have Hscan:=hid (fun wx=>scanFrac_any s wx hs);have Hbr:=hid hbr;have F1:=hid (hfit 1 (qK (by decide) (lim_le 1 (by decide))));have hlen:=bs_length s;have hle:=scanN_le (bs s);rw [hlen] at hle;have hE:Ext w ((w.alloc (.cells #[.int .i64 0,.slice none 0 0,.int .i64 0,.slice none 0 0] 56)).alloc (.cells #[.int .i64 0,.int .i64 0] 26)):=(Ext.alloc w (.cells #[.int .i64 0,.slice none 0 0,.int .i64 0,.slice none 0 0] 56)).then (.cells #[.int .i64 0,.int .i64 0] 26)
 have qr:QRes ((w.alloc (.cells #[.int .i64 0,.slice none 0 0,.int .i64 0,.slice none 0 0] 56)).alloc (.cells #[.int .i64 0,.int .i64 0] 26)) w.heap.size:=by
  have q:QRes (w.alloc (.cells #[.int .i64 0,.slice none 0 0,.int .i64 0,.slice none 0 0] 56)) w.heap.size:=⟨qW w _⟩;exact q.ext (Ext.alloc _ _)
 have fr:FRes ((w.alloc (.cells #[.int .i64 0,.slice none 0 0,.int .i64 0,.slice none 0 0] 56)).alloc (.cells #[.int .i64 0,.int .i64 0] 26)) (w.heap.size+1):=by
  have:=qW (w.alloc (.cells #[.int .i64 0,.slice none 0 0,.int .i64 0,.slice none 0 0] 56)) (.cells #[.int .i64 0,.int .i64 0] 26);exact ⟨by simp,by simpa using this⟩
 by_cases hg:fgood (bs s)
 ·by_cases hsl:fsl (bs s)
  · -- a bar
   have hlt:(scanN (bs s)).1<s.size:=by have:=hsl.2.1;rw [hlen] at this;exact this
   obtain ⟨q1,q2,q3,q4⟩:=fbe_scan hsl hg
   have hfe:fend (bs s)=s.size:=by
    have h1:=hg.2;unfold fend at h1 ⊢;rw [qU hsl] at h1 ⊢
    have h3:(fbe (bs s)).length=s.size-((scanN (bs s)).1+1):=by unfold fbe;rw [qF,hlen]
    have h4:spos ((bs s).drop ((scanN (bs s)).1+1))=(fbe (bs s)).length:=q3;rw [h4,h3];omega
   have hfo:fokk (bs s)=true:=hg.1;have hfab:=fab_scan hsl
   have hx1:bs (s.extract 0 (scanN (bs s)).1)=fab (bs s):=by rw [bs_extract];unfold fab;simp
   have hx2:bs (s.extract ((scanN (bs s)).1+1) s.size)=fbe (bs s):=by
    rw [bs_extract,qB]
    ·rfl
    ·rw [qF,hlen];omega
   have hz1:(s.extract 0 (scanN (bs s)).1).size<=9223372036854775807:=by rw [<-bs_length,hx1];unfold fab;rw [qC,hlen];omega
   have hz2:(s.extract ((scanN (bs s)).1+1) s.size).size<=9223372036854775807:=by rw [<-bs_length,hx2];unfold fbe;rw [qF,hlen];omega
   have Hl1:=hid (fun wx=>tooLong_any (s.extract 0 (scanN (bs s)).1) wx hz1);have Hl2:=hid (fun wx=>tooLong_any (s.extract ((scanN (bs s)).1+1) s.size) wx hz2)
   have e1:(s.extract 0 (scanN (bs s)).1).size=(fab (bs s)).length:=by rw [<-bs_length,hx1]
   have e2:(s.extract ((scanN (bs s)).1+1) s.size).size=(fbe (bs s)).length:=by rw [<-bs_length,hx2]
   rw [e1,hx1] at Hl1;rw [e2,hx2] at Hl2;rw [hfe,hfo] at Hscan
   have hne:(((scanN (bs s)).1:Int) == (s.size:Int))=false:=by rw [qV];omega
   have hgi:((scanN (bs s)).1:Int)+1<=(s.size:Int):=by omega
   have hli:((scanN (bs s)).1:Int)<=(s.size:Int):=by omega
   have hss:¬ (s.size:Int)<(s.size:Int):=by omega
   by_cases hlg:flg (bs s)
   ·obtain ⟨v1,v2,v3,v4⟩:=f_long hg hsl hlg
    rw [v1,v2,v3,v4]
    have hcase:decide (1000<(fab (bs s)).length-sgl (fab (bs s)))=true\/(decide (1000<(fab (bs s)).length-sgl (fab (bs s)))=false/\decide (1000<(fbe (bs s)).length-sgl (fbe (bs s)))=true):=by
     by_cases h1:1000<(fab (bs s)).length-sgl (fab (bs s))
     ·exact qM (jJ h1)
     ·exact qO ⟨jE h1,jJ (hlg.resolve_left h1)⟩
    generalize (scanN (bs s)).1=en at *;generalize decide (1000<(fab (bs s)).length-sgl (fab (bs s)))=o1 at *;generalize decide (1000<(fbe (bs s)).length-sgl (fbe (bs s)))=o2 at *;clear hsl hg hlen hle hfe hfo hfab hx1 hx2 hz1 hz2 e1 e2 q1 q2 q3 q4 hlg v1 v2 v3 v4 hlt hfit hbr F1
    rcases hcase with rfl | ⟨rfl,rfl⟩
    all_goals
     go_enter Tryz.func15,Tryz.ntmps15
     go_wp2_with fail
     generalize (w.alloc (.cells #[.int .i64 0,.slice none 0 0,.int .i64 0,.slice none 0 0] 56)).alloc (.cells #[.int .i64 0,.int .i64 0] 26)=W0 at *;refine (Hscan.out _).mono ?_;rintro e w1 ⟨rfl,rfl⟩
     go_wp2_with fail
     go_region
     have hEd:Ext w W0.drew:=qG hE;have qr:=qr.ext (qG (Ext.refl W0));have fr:=fr.ext (qG (Ext.refl W0));generalize W0.drew=W1 at *;have k0:=qr.c0;have k1:=qr.c1;have k2:=qr.c2;have k3:=qr.c3;have f0:=qr.f0 0;have f1:=qr.f0 1;have f2:=qr.f0 2;have f3:=qr.f0 3;have k4:=fr.c0;have k5:=fr.c1;have f4:=fr.f0;have f5:=fr.f1
     go_wp2_with fail
     refine (Hl1.out _).mono ?_;rintro e w1 ⟨rfl,rfl⟩
     go_wp2_with fail
     try (refine (Hl2.out _).mono ?_;rintro e w1 ⟨rfl,rfl⟩;go_wp2_with fail)
     exact qJ (v:=.tuple #[.agg #[.int .i64 0,.slice none 0 0,.int .i64 0,.slice none 0 0],.agg #[.int .i64 2,.int .i64 0]]) (by simp [results,Tryz.results15,go_sem,k0,k1,k2,k3,k4,k5]) rfl ⟨0,none,0,0,0,none,0,0,rfl,IsFr.zero _,((hEd.put2 (by omega) _ _).put2 (by omega) _ _).put2 (by omega) _ _⟩
   ·obtain ⟨t1,t2,hbp,hb1⟩:=sides hsl hg hlg
    have o1:decide (1000<(fab (bs s)).length-sgl (fab (bs s)))=false:=jE fun h=>hlg (qM h)
    have o2:decide (1000<(fbe (bs s)).length-sgl (fbe (bs s)))=false:=jE fun h=>hlg (qO h)
    rw [o1] at Hl1;rw [o2] at Hl2;have c1:=(code_of hfab (of_decide_eq_false o1)).2;have c2:=(code_of q1 (of_decide_eq_false o2)).2;have Hr1:=hid (fun wx=>readNumber_any (s.extract 0 (scanN (bs s)).1) wx (by rw [hx1];have:=of_decide_eq_false o1;omega) (by rw [hx1];exact allD_of_scan _ (by rw [hfab]) (by rw [hfab];simp)));have Hr2:=hid (fun wx=>readNumber_any (s.extract ((scanN (bs s)).1+1) s.size) wx (by rw [hx2];have:=of_decide_eq_false o2;omega) (by rw [hx2];exact allD_of_scan _ (by rw [q1]) (by rw [q1];simp)));rw [hx1,<-c1] at Hr1;rw [hx2,<-c2] at Hr2;have Fa:=hid (hfit _ (pz_lt (fab (bs s))));have Fb:=hid (hfit _ (pz_lt (fbe (bs s))))
    have hone:fbe (bs s)=[49]↔(s.extract ((scanN (bs s)).1+1) s.size).toList=[49]:=by
     constructor
     ·intro h;exact bs_list (l:=[49]) (by rw [hx2,h];rfl)
     ·intro h
      rw [<-hx2];exact (bs_of_list h).trans rfl
    have HOf:=hid (fun wx=>Of_any 1 (by omega) (by omega) wx)
    by_cases hf:ffm (bs s)
    ·obtain ⟨v1,v2,v3,v4⟩:=f_form hg hsl hlg hf
     rw [v1,v2,v3,v4];unfold ffm at hf;rw [hone] at hf;generalize (scanN (bs s)).1=en at *;generalize pz (fab (bs s))=a at *;generalize pz (fbe (bs s))=b at *;obtain ⟨k,hk⟩:∃ k,cmp3 ((Nat.gcd a.natAbs b.natAbs:Nat):Int) 1=k:=⟨_,rfl⟩;have Ek:=hid hk
     have Fg:Hid (Fit K ((Nat.gcd a.natAbs b.natAbs:Nat):Int)):=by
      show Int.natAbs _<_
      rw [Int.natAbs_natCast];exact yQ (Nat.gcd_le_right _ (by omega)) Fb.out
     have hcase:((s.extract (en+1) s.size).toList == [49])=true\/(((s.extract (en+1) s.size).toList == [49])=false/\(k == 0)=false):=by
      by_cases h1:(s.extract (en+1) s.size).toList=[49]
      ·exact qM (by rw [yY];exact h1)
      ·refine qO ⟨by rw [qV];exact h1,?_⟩
       rw [qV,<-hk];intro h2;have:=cmp_one.1 h2;exact hf.resolve_left h1 (by omega)
     clear hsl hg hlen hle hfe hfo hfab hx1 hx2 hz1 hz2 e1 e2 q1 q2 q3 q4 hlg v1 v2 v3 v4 hlt hfit hbr hone hf t1 t2 hbp hb1 o1 o2 c1 c2 hk
     rcases hcase with hc | ⟨hc,hk0⟩
     ·go_enter Tryz.func15,Tryz.ntmps15
      go_wp2_with fail
      generalize (w.alloc (.cells #[.int .i64 0,.slice none 0 0,.int .i64 0,.slice none 0 0] 56)).alloc (.cells #[.int .i64 0,.int .i64 0] 26)=W0 at *;refine (Hscan.out _).mono ?_;rintro e w1 ⟨rfl,rfl⟩
      go_wp2_with fail
      go_region
      have hEd:Ext w W0.drew:=qG hE;have qr:=qr.ext (qG (Ext.refl W0));have fr:=fr.ext (qG (Ext.refl W0));generalize W0.drew=W1 at *
      go_wp2_with fail
      refine (Hl1.out _).mono ?_;rintro e w1 ⟨rfl,rfl⟩
      go_wp2_with fail
      refine (Hl2.out _).mono ?_;rintro e w1 ⟨rfl,rfl⟩
      go_wp2_with fail
      refine (Hr1.out _).mono ?_;rintro e u1 ⟨s1,a1,n1,c1,rfl,I1,hx1⟩
      go_wp2_with fail
      refine (Hr2.out _).mono ?_;rintro e u2 ⟨s2,a2,n2,c2,rfl,I2,hx2⟩;have hq:=(Ext.alloc u2 (.cells #[.int .i64 s1,.slice a1 n1 c1] 54)).then (.cells #[.int .i64 s2,.slice a2 n2 c2] 54);have I1:=I1.ext (hx2.trans hq);have I2:=I2.ext hq;have HE2:=hid (hEd.trans (hx1.trans (hx2.trans hq)));have qr:=qr.ext (hx1.trans (hx2.trans hq));have fr:=fr.ext (hx1.trans (hx2.trans hq));clear hx1 hx2 hq hE hEd;have k0:=qr.c0;have k1:=qr.c1;have k2:=qr.c2;have k3:=qr.c3;have f0:=qr.f0 0;have f1:=qr.f0 1;have f2:=qr.f0 2;have f3:=qr.f0 3;have k4:=fr.c0;have k5:=fr.c1;have f4:=fr.f0;have f5:=fr.f1
      go_wp2_with fail
      exact qJ (v:=.tuple #[.agg #[.int .i64 0,.slice none 0 0,.int .i64 0,.slice none 0 0],.agg #[.int .i64 3,.int .i64 0]]) (by simp [results,Tryz.results15,go_sem,k0,k1,k2,k3,k4,k5]) rfl ⟨0,none,0,0,0,none,0,0,rfl,IsFr.zero _,((HE2.out.put2 (by omega) _ _).put2 (by omega) _ _).put2 (by omega) _ _⟩
     ·go_enter Tryz.func15,Tryz.ntmps15
      go_wp2_with fail
      generalize (w.alloc (.cells #[.int .i64 0,.slice none 0 0,.int .i64 0,.slice none 0 0] 56)).alloc (.cells #[.int .i64 0,.int .i64 0] 26)=W0 at *;refine (Hscan.out _).mono ?_;rintro e w1 ⟨rfl,rfl⟩
      go_wp2_with fail
      go_region
      have hEd:Ext w W0.drew:=qG hE;have qr:=qr.ext (qG (Ext.refl W0));have fr:=fr.ext (qG (Ext.refl W0));generalize W0.drew=W1 at *
      go_wp2_with fail
      refine (Hl1.out _).mono ?_;rintro e w1 ⟨rfl,rfl⟩
      go_wp2_with fail
      refine (Hl2.out _).mono ?_;rintro e w1 ⟨rfl,rfl⟩
      go_wp2_with fail
      refine (Hr1.out _).mono ?_;rintro e u1 ⟨s1,a1,n1,c1,rfl,I1,hx1⟩
      go_wp2_with fail
      refine (Hr2.out _).mono ?_;rintro e u2 ⟨s2,a2,n2,c2,rfl,I2,hx2⟩;have hq:=(Ext.alloc u2 (.cells #[.int .i64 s1,.slice a1 n1 c1] 54)).then (.cells #[.int .i64 s2,.slice a2 n2 c2] 54);have I1:=I1.ext (hx2.trans hq);have I2:=I2.ext hq;have HE2:=hid (hEd.trans (hx1.trans (hx2.trans hq)));have qr:=qr.ext (hx1.trans (hx2.trans hq));have fr:=fr.ext (hx1.trans (hx2.trans hq));clear hx1 hx2 hq hE hEd
      go_wp2_with fail
      generalize (u2.alloc (.cells #[.int .i64 s1,.slice a1 n1 c1] 54)).alloc (.cells #[.int .i64 s2,.slice a2 n2 c2] 54)=W2 at *;refine (Gcd_all s1 s2 a1 a2 n1 c1 n2 c2 a b W2 I1 I2 K hK hK1 Fa.out Fb.out (bru_ext Hbr.out HE2.out)).mono ?_;rintro e v1 ⟨s3,a3,n3,c3,rfl,I3,hx3⟩
      go_wp2_with fail
      refine (HOf.out _).mono ?_;rintro e v2 ⟨rfl,I4,hx4⟩
      go_wp2_with fail
      refine (Cmp_is k (I3.ext hx4) I4 K hK Fg.out F1.out Ek.out).mono ?_;rintro e v3 ⟨rfl,hx5⟩;have h2r:Ext W2 v3:=hx3.trans (hx4.trans hx5);have qr:=qr.ext h2r;have fr:=fr.ext h2r;have k0:=qr.c0;have k1:=qr.c1;have k2:=qr.c2;have k3:=qr.c3;have f0:=qr.f0 0;have f1:=qr.f0 1;have f2:=qr.f0 2;have f3:=qr.f0 3;have k4:=fr.c0;have k5:=fr.c1;have f4:=fr.f0;have f5:=fr.f1
      go_wp2_with fail
      exact qJ (v:=.tuple #[.agg #[.int .i64 0,.slice none 0 0,.int .i64 0,.slice none 0 0],.agg #[.int .i64 3,.int .i64 0]]) (by simp [results,Tryz.results15,go_sem,k0,k1,k2,k3,k4,k5]) rfl ⟨0,none,0,0,0,none,0,0,rfl,IsFr.zero _,(((HE2.out.trans h2r).put2 (by omega) _ _).put2 (by omega) _ _).put2 (by omega) _ _⟩
    ·obtain ⟨v1,v2,v3,v4⟩:=f_fine hg hsl hlg hf
     rw [v1,v2,v3,v4];unfold ffm at hf
     have hbn:pz (fbe (bs s))≠1:=fun h=>hf (qM (hb1.2 h))
     have hc:((s.extract ((scanN (bs s)).1+1) s.size).toList == [49])=false:=by rw [qV];exact fun h=>hf (qM (hone.2 h))
     have hgc:Nat.gcd (pz (fab (bs s))).natAbs (pz (fbe (bs s))).natAbs=1:=yB fun h=>hf (qO h)
     generalize (scanN (bs s)).1=en at *;generalize pz (fab (bs s))=a at *;generalize pz (fbe (bs s))=b at *
     have ha0:a≠0:=by
      intro h;rw [h] at hgc
      simp at hgc
      omega
     have Ha0:=hid ha0
     have Hgc:Hid (((Nat.gcd a.natAbs b.natAbs:Nat):Int)=1):=by show _=_;rw [hgc];rfl
     have Ek:Hid (cmp3 (1:Int) 1=0):=by show _=_;decide
     clear hsl hg hlen hle hfe hfo hfab hx1 hx2 hz1 hz2 e1 e2 q1 q2 q3 q4 hlg v1 v2 v3 v4 hlt hfit hbr hone hf t1 t2 hbp hb1 o1 o2 c1 c2 hbn hgc ha0
     go_enter Tryz.func15,Tryz.ntmps15
     go_wp2_with fail
     generalize (w.alloc (.cells #[.int .i64 0,.slice none 0 0,.int .i64 0,.slice none 0 0] 56)).alloc (.cells #[.int .i64 0,.int .i64 0] 26)=W0 at *;refine (Hscan.out _).mono ?_;rintro e w1 ⟨rfl,rfl⟩
     go_wp2_with fail
     go_region
     have hEd:Ext w W0.drew:=qG hE;have qr:=qr.ext (qG (Ext.refl W0));have fr:=fr.ext (qG (Ext.refl W0));generalize W0.drew=W1 at *
     go_wp2_with fail
     refine (Hl1.out _).mono ?_;rintro e w1 ⟨rfl,rfl⟩
     go_wp2_with fail
     refine (Hl2.out _).mono ?_;rintro e w1 ⟨rfl,rfl⟩
     go_wp2_with fail
     refine (Hr1.out _).mono ?_;rintro e u1 ⟨s1,a1,n1,c1,rfl,I1,hx1⟩
     go_wp2_with fail
     refine (Hr2.out _).mono ?_;rintro e u2 ⟨s2,a2,n2,c2,rfl,I2,hx2⟩;have hq:=(Ext.alloc u2 (.cells #[.int .i64 s1,.slice a1 n1 c1] 54)).then (.cells #[.int .i64 s2,.slice a2 n2 c2] 54);have b1:=(box_new u2 s1 a1 n1 c1).ext (Ext.alloc _ (.cells #[.int .i64 s2,.slice a2 n2 c2] 54));have b2:=box_new (u2.alloc (.cells #[.int .i64 s1,.slice a1 n1 c1] 54)) s2 a2 n2 c2;rw [show (u2.alloc (.cells #[.int .i64 s1,.slice a1 n1 c1] 54)).heap.size=u2.heap.size+1 from by simp] at b2;have I1:=I1.ext (hx2.trans hq);have I2:=I2.ext hq;have HE2:=hid (hEd.trans (hx1.trans (hx2.trans hq)));have qr:=qr.ext (hx1.trans (hx2.trans hq));have fr:=fr.ext (hx1.trans (hx2.trans hq));clear hx1 hx2 hq hE hEd
     go_wp2_with fail
     generalize (u2.alloc (.cells #[.int .i64 s1,.slice a1 n1 c1] 54)).alloc (.cells #[.int .i64 s2,.slice a2 n2 c2] 54)=W2 at *;generalize u2.heap.size=A at *;refine (Gcd_all s1 s2 a1 a2 n1 c1 n2 c2 a b W2 I1 I2 K hK hK1 Fa.out Fb.out (bru_ext Hbr.out HE2.out)).mono ?_;rintro e v1 ⟨s3,a3,n3,c3,rfl,I3,hx3⟩
     go_wp2_with fail
     refine (HOf.out _).mono ?_;rintro e v2 ⟨rfl,I4,hx4⟩
     go_wp2_with fail
     refine (Cmp_is 0 ((I3.cast Hgc.out).ext hx4) I4 K hK F1.out F1.out Ek.out).mono ?_;rintro e v3 ⟨rfl,hx5⟩;have h2r:Ext W2 v3:=hx3.trans (hx4.trans hx5);have qr:=qr.ext h2r;have fr:=fr.ext h2r;have b1:=b1.ext h2r;have b2:=b2.ext h2r;have d0:=b1.c0;have d1:=b1.c1;have d2:=b2.c0;have d3:=b2.c1;have k0:=qr.c0;have k1:=qr.c1;have k2:=qr.c2;have k3:=qr.c3;have f0:=qr.f0 0;have f1:=qr.f0 1;have f2:=qr.f0 2;have f3:=qr.f0 3;have k4:=fr.c0;have k5:=fr.c1;have f4:=fr.f0;have f5:=fr.f1;have hkk:=Keep64.set6 (w:=v3) (.i64 k0) (.slice k1) (.i64 k2) (.slice k3) (.i64 k4) (.i64 k5) (notW_i64 s1) (notW_slice a1 n1 c1) (notW_i64 s2) (notW_slice a2 n2 c2) (notW_i64 0) (.int .i64 0);have HI:Hid (IsFr v3 s1 a1 n1 c1 s2 a2 n2 c2 a b):=⟨b,I1.ext h2r,I2.ext h2r,by rw [qE Ha0.out]⟩;have HI9:=hid (HI.out.keep64 hkk);clear hkk HI
     go_wp2_with fail
     exact qJ (v:=.tuple #[.agg #[.int .i64 s1,.slice a1 n1 c1,.int .i64 s2,.slice a2 n2 c2],.agg #[.int .i64 0,.int .i64 0]]) (by simp [results,Tryz.results15,go_sem,k0,k1,k2,k3,k4,k5]) rfl ⟨s1,a1,n1,c1,s2,a2,n2,c2,rfl,HI9.out,(((HE2.out.trans h2r).put2 (by omega) _ _).put2 (by omega) _ _).put2 (by omega) _ _⟩
  · -- none
   obtain ⟨v1,v2,v3,v4⟩:=f_whole hg hsl;rw [v1,v2,v3,v4]
   have hfe:fend (bs s)=(scanN (bs s)).1:=by unfold fend;rw [qE hsl]
   have hfo:fokk (bs s)=true:=hg.1;have hge:=hg.2;rw [hlen,hfe] at hge;rw [hfe,hfo] at Hscan;have Hw:=hid (fun wx (hx:Ext w wx)=>parseWhole_any s wx hs K hK hK1 (hfit _ (pz_lt _)) F1.out (bru_ext hbr hx))
   have hil:¬ ((scanN (bs s)).1:Int)<(s.size:Int):=by omega
   have hee:(((scanN (bs s)).1:Int) == ((scanN (bs s)).1:Int))=true:=by simp
   generalize (scanN (bs s)).1=en at *;generalize ((pcode (bs s):Nat):Int)=p at *;generalize ((pat (bs s):Nat):Int)=p' at *;clear hsl hg hlen hle hfe hfo hge v1 v2 v3 v4 hfit hbr F1
   go_enter Tryz.func15,Tryz.ntmps15
   go_wp2_with fail
   generalize (w.alloc (.cells #[.int .i64 0,.slice none 0 0,.int .i64 0,.slice none 0 0] 56)).alloc (.cells #[.int .i64 0,.int .i64 0] 26)=W0 at *;refine (Hscan.out _).mono ?_;rintro e w1 ⟨rfl,rfl⟩
   go_wp2_with fail
   refine (Hw.out W0 hE).mono ?_;rintro e v ⟨s9,a9,n9,c9,s8,a8,n8,c8,rfl,I9,hx⟩;have qr:=qr.ext hx;have fr:=fr.ext hx;have k0:=qr.c0;have k1:=qr.c1;have k2:=qr.c2;have k3:=qr.c3;have f0:=qr.f0 0;have f1:=qr.f0 1;have f2:=qr.f0 2;have f3:=qr.f0 3;have k4:=fr.c0;have k5:=fr.c1;have f4:=fr.f0;have f5:=fr.f1;have hkk:=Keep64.set6 (w:=v) (.i64 k0) (.slice k1) (.i64 k2) (.slice k3) (.i64 k4) (.i64 k5) (notW_i64 s9) (notW_slice a9 n9 c9) (notW_i64 s8) (notW_slice a8 n8 c8) (notW_i64 p) (.int .i64 p');have HI9:=hid (I9.keep64 hkk);clear hkk I9
   go_wp2_with fail
   exact qJ (v:=.tuple #[.agg #[.int .i64 s9,.slice a9 n9 c9,.int .i64 s8,.slice a8 n8 c8],.agg #[.int .i64 p,.int .i64 p']]) (by simp [results,Tryz.results15,go_sem,k0,k1,k2,k3,k4,k5]) rfl ⟨s9,a9,n9,c9,s8,a8,n8,c8,rfl,HI9.out,(((hE.trans hx).put2 (by omega) _ _).put2 (by omega) _ _).put2 (by omega) _ _⟩
 ·obtain ⟨v1,v2,v3,v4⟩:=f_bad hg
  rw [v1,v2,v3,v4];obtain ⟨fe,hfe⟩:∃ fe,fend (bs s)=fe:=⟨_,rfl⟩;obtain ⟨ok,hok⟩:∃ ok,fokk (bs s)=ok:=⟨_,rfl⟩;rw [hfe,hok] at Hscan;rw [hfe]
  have hcase:ok=false\/(ok=true/\((fe:Nat):Int)<(s.size:Int)):=by
   cases ok
   ·exact qM rfl
   ·right;refine ⟨rfl,?_⟩
    have:fe<s.size:=yB fun h=>hg ⟨hok,by rw [hfe,hlen];exact h⟩
    omega
  clear hg hfe hok hlen hle v1 v2 v3 v4 hfit hbr F1 qr fr hE;generalize (scanN (bs s)).1=en at *
  rcases hcase with rfl | ⟨rfl,hil⟩
  all_goals
   go_enter Tryz.func15,Tryz.ntmps15
   go_wp2_with fail
   refine (Hscan.out _).mono ?_;rintro e w1 ⟨rfl,rfl⟩
   go_wp2_with fail
   exact qJ (v:=.tuple #[.agg #[.int .i64 0,.slice none 0 0,.int .i64 0,.slice none 0 0],.agg #[.int .i64 1,.int .i64 (fe:Nat)]]) (by simp [results,Tryz.results15,go_sem]) rfl ⟨0,none,0,0,0,none,0,0,rfl,IsFr.zero _,(Ext.alloc _ _).then _⟩
end Go.Proofs.YtjfomkoedgipjaaGreatDoor
