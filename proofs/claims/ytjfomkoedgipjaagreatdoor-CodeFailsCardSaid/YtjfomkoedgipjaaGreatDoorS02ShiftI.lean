/-
  Operations in memory; controls; the first fault of an operation, as the program finds it. Copies: of a list, of an operation. The first fault of an operation, as the reference finds it. Circuits in memory; the first fault of a circuit, as the program finds it and as the reference does. A tally in a variable; what is counted, in plain numbers. The reader: digits and numbers. The reader: an operation. math/bits: Add64, Sub64, Mul64 by what they answer. addProduct: it adds a times a word to the words of sum, in their place, and answers what does not fit. takeProduct: it takes b times a word from the words of part, in their place, and answers what is still to be taken. addInto: it adds the words b to the words of sum, in their place, and answers what does not fit. make and copy at words, as steps of a walk. trim: what is left of words without the noughts at their end; it lies where they lay. addWords: sums of words. subWords: differences of words. cmp.Compare at int and uint64; compareWords. shiftInto: words times a power of two, laid into noughts.
-/
import Derived.Test.YtjfomkoedgipjaaGreatDoorProg
import Derived.BigQuiet
import Derived.Deep.QuietTactic
import Derived.Deep.RegionHeld3
import Derived.Laws.Bits64b
import Derived.Laws.CopyOwn
import Derived.Lib.ItoaNum
import Derived.Lib.Strings
import Derived.OwnWalk
import Derived.Shelf.Bits.Mul64
import Derived.Shelf.LaysM
import Derived.Shelf.Small.Bits
import Derived.Shelf.Small.Strs
import Derived.Shelf.Small.Wraps
import Derived.Shelf.Spec.BitsCarry
import Derived.Shelf.Spec.TrailingZeros
import Derived.Shelf.Strconv.Itoa0
import Derived.Shelf.Strconv.Itoa1
import Derived.Shelf.Strconv.Itoa2
import Derived.Shelf.Strconv.Itoa3
import Derived.Shelf.Strings.Search1
import Derived.Test.YtjfomkoedgipjaaGreatDoorS00Ca
import Derived.Test.YtjfomkoedgipjaaGreatDoorShelf
namespace Go.Proofs.YtjfomkoedgipjaaGreatDoor
set_option maxRecDepth 100000
set_option maxHeartbeats 600000
open Go.RowKit
theorem cell_ext {w w':World} {b o:Nat} {v:Value} (h:w.cell? ⟨b,o,none⟩=some v) (k:Ext w w'):w'.cell? ⟨b,o,none⟩=some v :=
 (k.cell (p:=⟨b,o,none⟩) (World.block_lt_of_cell? w ⟨b,o,none⟩ h)).trans h
theorem ext_al (w:World) (o:Obj):Ext w (w.alloc o):=(Below.refl _ _).alloc (qZ _) o
theorem i_info:(Tryz.prog.info? 3).map (fun i=>(i.zero,i.size,i.bytes))=some (some (.int .i64 0),1,8):=by kernel_rfl
def iC (l:List Int):List Value:=l.map fun x=>Value.int .i64 x
theorem grown_ext {w a b:World} {row:Option Nat} (h:Ext w a) (hg:a.grownBy b row) (hr:∀ k,row=some k->w.heap.size<=k):Ext w b:=Below.grown h hg h.size hr
def TyI (w:World) (a:Option Addr):Prop:=∀ ad,a=some ad->∃ (cur:Array Value) (fr:Nat × Nat),w.heap[ad.block]?=some (.cells cur 3 fr)
theorem ints_of_own {w:World} {base n:Nat} {v:Value} {l:List Int} (h:w.ownsRow base 3 1 v n (iC l)):∃ (a:Option Addr) (c:Nat),v=.slice a n c/\n<=c/\c<=maxLen/\IntsAt w a n l/\TyI w a:=by
 have hl:l.length=n:=by have:=h.1;simpa [iC] using this
 rcases h.2 with ⟨rfl,rfl⟩ | ⟨g,cap,cur,rfl,_,hg,hnc,hcm,_,htk⟩
 ·exact ⟨none,0,rfl,qZ _,qI _,⟨hl,qM rfl⟩,fun ad e=>by cases e⟩
 ·refine ⟨some ⟨g,0,none⟩,cap,rfl,hnc,hcm,⟨hl,qO ⟨g,0,rfl,(gS.1 hg).1,fun t ht=>?_⟩⟩,fun ad e=>by cases e;exact ⟨cur,(0,0),hg⟩⟩
  rw [qD w g (0+t) cur _ (0,0) hg,jH]
  have h1:(iC l)[t]?=cur.toList[t]?:=by
   rw [<-htk,jC,qU (by omega)]
  rw [<-Array.getElem?_toList,<-h1];simp only [iC,jM,qQ];rw [qX (by omega)]
  rfl
theorem new_i (w:World) (x:Int) (e:TypeId):∀ j u,([Value.int .i64 x]:List Value)[j]?=some u->(w.alloc (.cells #[.int .i64 x] e)).cell? ((⟨w.heap.size,0,none⟩:Addr).add j)=some u:=by
 intro j u hu
 have hadd:(⟨w.heap.size,0,none⟩:Addr).add j=⟨w.heap.size,j,none⟩:=by unfold Addr.add;split<;>simp_all
 rw [hadd,qD _ _ j _ _ (0,0) (qW w _)]
 match j,hu with
 | 0,hu=>simpa using hu
 | k+1,hu=>simp at hu
theorem own_lt {w:World} {base n size:Nat} {v:Value} {xs:List Value} {e:TypeId} (h:w.ownsRow base e size v n xs):∀ k,v.ownBlock=some k->base<=k/\k<w.heap.size:=by
 intro k hk
 rcases h.2 with ⟨rfl,_⟩ | ⟨g,cap,cur,rfl,hb,hg,_⟩
 ·simp [Value.ownBlock] at hk
 ·simp [Value.ownBlock] at hk
  subst hk;exact ⟨hb,(gS.1 hg).1⟩
theorem bt' {x y:Int} (h:x=y):(x == y)=true:=by simp [h]
theorem bf {x y:Int} (h:¬ x=y):(x == y)=false:=by simp [h]
theorem nt {x y:Int} (h:¬ x=y):(x != y)=true:=by simp [bne,h]
theorem nf' {x y:Int} (h:x=y):(x != y)=false:=by simp [bne,h]
theorem ext_drewN (w:World) (m:Nat):Ext w (w.drewN m):=⟨rfl,rfl,rfl,qZ _,fun _ _=>rfl⟩
structure FtB (W:World) (g:Nat) (u v:Int):Prop where
 row:W.heap[g]?=some (.cells #[.int .i64 u,.int .i64 v] 26 (0,0))
theorem FtB.lt {W:World} {g:Nat} {u v:Int} (h:FtB W g u v):g<W.heap.size:=(gS.1 h.row).1
theorem FtB.ext {W W':World} {g:Nat} {u v:Int} (h:FtB W g u v) (k:Ext W W'):FtB W' g u v:=⟨(k.block _ h.lt).trans h.row⟩
theorem FtB.x0 {W:World} {g:Nat} {u v:Int} (h:FtB W g u v):W.cell? ⟨g,0,none⟩=some (.int .i64 u):=by rw [qD W g 0 _ _ (0,0) h.row];rfl
theorem FtB.x1 {W:World} {g:Nat} {u v:Int} (h:FtB W g u v):W.cell? ⟨g,1,none⟩=some (.int .i64 v):=by rw [qD W g 1 _ _ (0,0) h.row];rfl
theorem FtB.f {W:World} {g:Nat} {u v:Int} (h:FtB W g u v) (o:Nat):W.frozen? ⟨g,o,none⟩=false:=jQ W g o _ _ h.row
theorem put2x {w W:World} {g:Nat} (h:Ext w W) (hg:w.heap.size<=g) (u v:Value):Ext w ((W.setCell ⟨g,0,none⟩ u).setCell ⟨g,1,none⟩ v):=yD (yD h (p:=⟨g,0,none⟩) hg u) (p:=⟨g,1,none⟩) hg v
theorem rfault_any (c a:Int) (w:World):Calls Tryz.prog 21 #[.int .i64 c,.int .i64 a] w fun e w'=>e=.returned (.agg #[.int .i64 c,.int .i64 a])/\Ext w w':=by
 go_enter Tryz.func21,Tryz.ntmps21
 go_wp2
 exact qJ (v:=.agg #[.int .i64 c,.int .i64 a]) (by simp [results,Tryz.results21,go_sem]) rfl ⟨rfl,ext_al _ _⟩
theorem cthen {w w1:World} (he:Ext w w1) (o:Obj):Ext w (w1.alloc o):=he.trans (ext_al _ _)
theorem cput {w W:World} {g o:Nat} (h:Ext w W) (hg:w.heap.size<=g) (u:Value):Ext w (W.setCell ⟨g,o,none⟩ u):=yD h (p:=⟨g,o,none⟩) hg u
theorem cdrew {w W:World} (h:Ext w W):Ext w W.drew:=qG h
theorem byte_at {T:List UInt8} {k:Nat} {c:UInt8} (h:T[k]?=some c) (hs:k<(⟨T.toArray⟩:ByteArray).size):(⟨T.toArray⟩:ByteArray)[k]'hs=c:=by
 have h1:k<T.length:=(jG.1 h).1;have h2:T[k]=c:=(jG.1 h).2;rw [<-h2]
 rfl
theorem row_put {W:World} {g k:Nat} {cs cs':Array Value} {t:TypeId} {u:Value} (h:W.heap[g]?=some (.cells cs t (0,0))) (e:cs.setIfInBounds k u=cs'):(W.setCell ⟨g,k,none⟩ u).heap[g]?=some (.cells cs' t (0,0)):=by
 rw [setCell_eq_setRow W g k _ _ _ _ h,setRow_heap W g _ _ _ _ h,e]
theorem add64_ex (x y c:Nat) (hx:x<B64) (hy:y<B64) (hc:c<=1):∃ s d:Nat,s<=18446744073709551615/\d<=1/\Hid (s+B64*d=x+y+c) /\
  ∀ w:World,(callFunc 146 #[.int .u64 x,.int .u64 y,.int .u64 c]).run Tryz.prog w=.ok (.value (.tuple #[.int .u64 (s:Nat),.int .u64 (d:Nat)])) w:=by
 unfold B64 at hx hy;refine ⟨_,_,?_,?_,?_,fun w=>Tryz.bits_Add64 x y c hc w⟩
 ·omega
 ·omega
 ·show _+B64*_=_
  unfold B64;omega
theorem add64_ex0 (x y:Nat) (hx:x<B64) (hy:y<B64):∃ s d:Nat,s<=18446744073709551615/\d<=1/\Hid (s+B64*d=x+y) /\
  ∀ w:World,(callFunc 146 #[.int .u64 x,.int .u64 y,.int .u64 0]).run Tryz.prog w=.ok (.value (.tuple #[.int .u64 (s:Nat),.int .u64 (d:Nat)])) w:=add64_ex x y 0 hx hy (qI _)
theorem add64_ex0y (x c:Nat) (hx:x<B64) (hc:c<=1):∃ s d:Nat,s<=18446744073709551615/\d<=1/\Hid (s+B64*d=x+c) /\
  ∀ w:World,(callFunc 146 #[.int .u64 x,.int .u64 0,.int .u64 c]).run Tryz.prog w=.ok (.value (.tuple #[.int .u64 (s:Nat),.int .u64 (d:Nat)])) w:=add64_ex x 0 c hx B64_pos hc
theorem sub64_ex (x y c:Nat) (hx:x<B64) (hy:y<B64) (hc:c<=1):∃ s d:Nat,s<=18446744073709551615/\d<=1/\Hid (s+y+c=x+B64*d) /\
  ∀ w:World,(callFunc 153 #[.int .u64 x,.int .u64 y,.int .u64 c]).run Tryz.prog w=.ok (.value (.tuple #[.int .u64 (s:Nat),.int .u64 (d:Nat)])) w:=by
 unfold B64 at hx hy;refine ⟨_,_,?_,?_,?_,fun w=>Tryz.bits_Sub64 x y c hc w⟩
 ·omega
 ·split<;>omega
 ·show _+_+_=_+B64*_
  unfold B64;split<;>omega
theorem sub64_ex0 (x y:Nat) (hx:x<B64) (hy:y<B64):∃ s d:Nat,s<=18446744073709551615/\d<=1/\Hid (s+y=x+B64*d) /\
  ∀ w:World,(callFunc 153 #[.int .u64 x,.int .u64 y,.int .u64 0]).run Tryz.prog w=.ok (.value (.tuple #[.int .u64 (s:Nat),.int .u64 (d:Nat)])) w:=sub64_ex x y 0 hx hy (qI _)
theorem sub64_ex0y (x c:Nat) (hx:x<B64) (hc:c<=1):∃ s d:Nat,s<=18446744073709551615/\d<=1/\Hid (s+c=x+B64*d) /\
  ∀ w:World,(callFunc 153 #[.int .u64 x,.int .u64 0,.int .u64 c]).run Tryz.prog w=.ok (.value (.tuple #[.int .u64 (s:Nat),.int .u64 (d:Nat)])) w:=sub64_ex x 0 c hx B64_pos hc
theorem mul64_hl (x y:Nat) (hx:x<B64) (hy:y<B64) (w:World) :
  Calls Tryz.prog 106 #[.int .u64 x,.int .u64 y] w fun e w'=>∃ hi lo:Nat,e=.returned (.tuple #[.int .u64 hi,.int .u64 lo])/\w=w'/\hi<=18446744073709551614/\lo<=18446744073709551615/\Hid (lo+B64*hi=x*y):=by
 refine (Tryz.bits_Mul64 x y hx hy w).mono ?_;rintro e w' ⟨rfl,rfl⟩;refine ⟨_,_,rfl,rfl,?_,?_,?_⟩
 ·have h:x*y<=18446744073709551615*18446744073709551615:=yS (by unfold B64 at hx;omega) (by unfold B64 at hy;omega)
  omega
 ·omega
 ·show _+B64*_=_
  unfold B64;omega
theorem addProduct_any (b o c:Nat) (ao:Option Addr) (c2:Nat) (la L:List Nat) (word:Nat) (w:World) (hr:Row w b L) (hs:Seg w ao la) (hne:∀ a,ao=some a->a.block≠b)
  (hd:Dig L) (hda:Dig la) (hword:word<B64) (hn:o+la.length<=L.length) (hlen:L.length<=maxLen) (hc:la.length<=c) (hc2:la.length<=c2) :
  Calls Tryz.prog 127 #[.slice (some ⟨b,o,none⟩) la.length c,.slice ao la.length c2,.int .u64 word] w fun e w' =>
   ∃ (M:List Nat) (over:Nat),e=.returned (.int .u64 over)/\over<B64/\Row w' b M/\Dig M/\Turned L M o la.length/\Only b w w'/\val (seg M o la.length)+B64 ^ la.length*over=val (seg L o la.length)+val la*word:=by
 unfold maxLen at hlen
 have hword':word<=18446744073709551615:=by unfold B64 at hword;omega
 go_enter Tryz.func127,Tryz.ntmps127
 go_wp2
 go_loopw [7,15] (fun ov i wr=>∃ (k over:Nat) (M:List Nat),k<=la.length/\i=.int .i64 k/\ov=.int .u64 over/\over<B64/\Row wr b M/\Dig M/\Turned L M o k/\Only b w wr/\val (seg M o k)+B64 ^ k*over=val (seg L o k)+val (la.take k)*word)
  (fun _ i _=>la.length-(intOf i).toNat)
 case atStart=>exact ⟨0,0,L,qI _,rfl,rfl,B64_pos,hr,hd,Turned.refl _ _ _,Only.refl _ _,by simp [seg_zero,val]⟩
 case round =>
  obtain ⟨k,over,M,hk,rfl,rfl,hov,hrM,hdM,hT,hO,hinv⟩:=hrel
  by_cases hlt:k<la.length
  ·have hsr:=hs.only hO hne
   rcases hsr with ⟨_,rfl⟩ | ⟨g,o2,rfl,hg,hcell⟩
   ·simp at hlt
   ·have hcl:=hcell k hlt
    have hcM:=hrM.cell (o+k) (by rw [hT.1];omega);have hfz:=hrM.frozen (o+k);have hdig:=hda.getD k;have hyig:=hdM.getD (o+k);obtain ⟨d,hdd⟩:∃ d,la.getD k 0=d:=⟨_,rfl⟩;obtain ⟨y,hy⟩:∃ y,M.getD (o+k) 0=y:=⟨_,rfl⟩;rw [hdd] at hcl hdig;rw [hy] at hcM hyig;have Hd:Hid (la.getD k 0=d):=hdd;have Hy:Hid (M.getD (o+k) 0=y):=hy;have Hinv:Hid (val (seg M o k)+B64 ^ k*over=val (seg L o k)+val (la.take k)*word):=hinv
    have hov':over<=18446744073709551615:=by unfold B64 at hov;omega
    have hy':y<=18446744073709551615:=by unfold B64 at hyig;omega
    clear hinv hdd hy hcell
    go_wp2_with fail
    refine (mul64_hl _ _ hdig hword _).mono ?_;rintro e w' ⟨hi,lo,rfl,rfl,hhi,hlo,Hp⟩;obtain ⟨s1,c1,hs1,hc1,H1,hrun1⟩:=add64_ex0 lo over (by unfold B64;omega) hov;obtain ⟨s2,c2',hs2,hc2',H2,hrun2⟩:=add64_ex0 y s1 hyig (by unfold B64;omega)
    have hb2:hi+c1+c2'<=18446744073709551615:=by
     have h1:=Hp.out;have h2:=H1.out;have h3:=H2.out;have h4:d*word<=18446744073709551615*18446744073709551615:=yS (by unfold B64 at hdig;omega) (by unfold B64 at hword;omega);unfold B64 at h1 h2 h3;omega
    go_wp2
    have hstep:=addProd_step (x:=s2) (over':=hi+c1+c2') hT hn hlt Hinv.out Hy.out Hd.out (by
     have h1:=Hp.out;have h2:=H1.out;have h3:=H2.out
     rw [<-h1,qN,qN];omega)
    go_roundw
    case rel=>exact ⟨k+1,hi+c1+c2',M.set (o+k) s2,by omega,by go_num,by go_num,by unfold B64;omega,hrM.set _ _,hdM.set _ _ (by unfold B64;omega),hT.step _,hO.setCell _ _,hstep⟩
    case measure=>simp [intOf];omega
  ·obtain rfl:k=la.length:=by omega
   go_wp2
   go_ret
   exact ⟨M,over,rfl,hov,hrM,hdM,hT,hO,by rw [hinv,List.take_length]⟩
theorem addProduct_n (b o c:Nat) (ao:Option Addr) (n c2:Nat) (la L:List Nat) (word:Nat) (w:World) (hm:la.length=n) (hr:Row w b L) (hs:Seg w ao la) (hne:∀ a,ao=some a->a.block≠b)
  (hd:Dig L) (hda:Dig la) (hword:word<B64) (hn:o+n<=L.length) (hlen:L.length<=maxLen) (hc:n<=c) (hc2:n<=c2) :
  Calls Tryz.prog 127 #[.slice (some ⟨b,o,none⟩) n c,.slice ao n c2,.int .u64 word] w fun e w' =>
   ∃ (M:List Nat) (over:Nat),e=.returned (.int .u64 over)/\over<B64/\Row w' b M/\Dig M/\Turned L M o n/\Only b w w'/\Hid (val (seg M o n)+B64 ^ n*over=val (seg L o n)+val la*word):=by
 subst hm;exact addProduct_any b o c ao c2 la L word w hr hs hne hd hda hword hn hlen hc hc2
theorem takeProduct_any (b o c:Nat) (ao:Option Addr) (c2:Nat) (la L:List Nat) (word:Nat) (w:World) (hr:Row w b L) (hs:Seg w ao la) (hne:∀ a,ao=some a->a.block≠b)
  (hd:Dig L) (hda:Dig la) (hword:word<B64) (hn:o+la.length<=L.length) (hlen:L.length<=maxLen) (hc:la.length<=c) (hc2:la.length<=c2) :
  Calls Tryz.prog 166 #[.slice (some ⟨b,o,none⟩) la.length c,.slice ao la.length c2,.int .u64 word] w fun e w' =>
   ∃ (M:List Nat) (over:Nat),e=.returned (.int .u64 over)/\over<B64/\Row w' b M/\Dig M/\Turned L M o la.length/\Only b w w'/\val (seg M o la.length)+val la*word=val (seg L o la.length)+B64 ^ la.length*over:=by
 unfold maxLen at hlen
 have hword':word<=18446744073709551615:=by unfold B64 at hword;omega
 go_enter Tryz.func166,Tryz.ntmps166
 go_wp2
 go_loopw [7,15] (fun ov i wr=>∃ (k over:Nat) (M:List Nat),k<=la.length/\i=.int .i64 k/\ov=.int .u64 over/\over<B64/\Row wr b M/\Dig M/\Turned L M o k/\Only b w wr/\val (seg M o k)+val (la.take k)*word=val (seg L o k)+B64 ^ k*over)
  (fun _ i _=>la.length-(intOf i).toNat)
 case atStart=>exact ⟨0,0,L,qI _,rfl,rfl,B64_pos,hr,hd,Turned.refl _ _ _,Only.refl _ _,by simp [seg_zero,val]⟩
 case round =>
  obtain ⟨k,over,M,hk,rfl,rfl,hov,hrM,hdM,hT,hO,hinv⟩:=hrel
  by_cases hlt:k<la.length
  ·have hsr:=hs.only hO hne
   rcases hsr with ⟨_,rfl⟩ | ⟨g,o2,rfl,hg,hcell⟩
   ·simp at hlt
   ·have hcl:=hcell k hlt
    have hcM:=hrM.cell (o+k) (by rw [hT.1];omega);have hfz:=hrM.frozen (o+k);have hdig:=hda.getD k;have hyig:=hdM.getD (o+k);obtain ⟨d,hdd⟩:∃ d,la.getD k 0=d:=⟨_,rfl⟩;obtain ⟨y,hy⟩:∃ y,M.getD (o+k) 0=y:=⟨_,rfl⟩;rw [hdd] at hcl hdig;rw [hy] at hcM hyig;have Hd:Hid (la.getD k 0=d):=hdd;have Hy:Hid (M.getD (o+k) 0=y):=hy;have Hinv:Hid (val (seg M o k)+val (la.take k)*word=val (seg L o k)+B64 ^ k*over):=hinv
    have hov':over<=18446744073709551615:=by unfold B64 at hov;omega
    have hy':y<=18446744073709551615:=by unfold B64 at hyig;omega
    clear hinv hdd hy hcell
    go_wp2_with fail
    refine (mul64_hl _ _ hdig hword _).mono ?_;rintro e w' ⟨hi,lo,rfl,rfl,hhi,hlo,Hp⟩;obtain ⟨s1,c1,hs1,hc1,H1,hrun1⟩:=add64_ex0 lo over (by unfold B64;omega) hov;obtain ⟨s2,c2',hs2,hc2',H2,hrun2⟩:=sub64_ex0 y s1 hyig (by unfold B64;omega)
    have hb2:hi+c1+c2'<=18446744073709551615:=by
     have h1:=Hp.out;have h2:=H1.out;have h3:=H2.out;have h4:d*word<=18446744073709551615*18446744073709551615:=yS (by unfold B64 at hdig;omega) (by unfold B64 at hword;omega);unfold B64 at h1 h2 h3;omega
    go_wp2
    have hstep:=borrow_step (x:=s2) (c':=hi+c1+c2') (z:=d*word) (y:=y) hT (by omega) Hinv.out (by
     have h1:=Hp.out;have h2:=H1.out;have h3:=H2.out
     rw [<-h1,qN,qN];omega)
    have hL:L.getD (o+k) 0=y:=by rw [<-hT.2 (o+k) (by omega)];exact Hy.out
    go_roundw
    case rel=>exact ⟨k+1,hi+c1+c2',M.set (o+k) s2,by omega,by go_num,by go_num,by unfold B64;omega,hrM.set _ _,hdM.set _ _ (by unfold B64;omega),hT.step _,hO.setCell _ _,by
     rw [<-hL,<-val_seg_succ L o k (by omega)] at hstep
     rw [<-hstep,val_take_succ la k hlt,Hd.out,yV,jW]⟩
    case measure=>simp [intOf];omega
  ·obtain rfl:k=la.length:=by omega
   go_wp2
   go_ret
   exact ⟨M,over,rfl,hov,hrM,hdM,hT,hO,by rw [<-hinv,List.take_length]⟩
theorem takeProduct_n (b o c:Nat) (ao:Option Addr) (n c2:Nat) (la L:List Nat) (word:Nat) (w:World) (hm:la.length=n) (hr:Row w b L) (hs:Seg w ao la) (hne:∀ a,ao=some a->a.block≠b)
  (hd:Dig L) (hda:Dig la) (hword:word<B64) (hn:o+n<=L.length) (hlen:L.length<=maxLen) (hc:n<=c) (hc2:n<=c2) :
  Calls Tryz.prog 166 #[.slice (some ⟨b,o,none⟩) n c,.slice ao n c2,.int .u64 word] w fun e w' =>
   ∃ (M:List Nat) (over:Nat),e=.returned (.int .u64 over)/\over<B64/\Row w' b M/\Dig M/\Turned L M o n/\Only b w w'/\Hid (val (seg M o n)+val la*word=val (seg L o n)+B64 ^ n*over):=by
 subst hm;exact takeProduct_any b o c ao c2 la L word w hr hs hne hd hda hword hn hlen hc hc2
theorem addInto_any (b o n c:Nat) (ao:Option Addr) (c2:Nat) (lb L:List Nat) (w:World) (hr:Row w b L) (hs:Seg w ao lb) (hne:∀ a,ao=some a->a.block≠b)
  (hd:Dig L) (hdb:Dig lb) (hn:o+n<=L.length) (hbn:lb.length<=n) (hlen:L.length<=maxLen) (hc:n<=c) (hc2:lb.length<=c2) :
  Calls Tryz.prog 152 #[.slice (some ⟨b,o,none⟩) n c,.slice ao lb.length c2] w fun e w' =>
   ∃ (M:List Nat) (carry:Nat),e=.returned (.int .u64 carry)/\carry<=1/\Row w' b M/\Dig M/\Turned L M o n/\Only b w w'/\val (seg M o n)+B64 ^ n*carry=val (seg L o n)+val lb:=by
 unfold maxLen at hlen
 go_enter Tryz.func152,Tryz.ntmps152
 go_wp2
 go_loopw [5,11] (fun cv i wr=>∃ (k carry:Nat) (M:List Nat),k<=lb.length/\i=.int .i64 k/\cv=.int .u64 carry/\carry<=1/\Row wr b M/\Dig M/\Turned L M o k/\Only b w wr/\val (seg M o k)+B64 ^ k*carry=val (seg L o k)+val (lb.take k))
  (fun _ i _=>lb.length-(intOf i).toNat)
 case atStart=>exact ⟨0,0,L,qI _,rfl,rfl,qI _,hr,hd,Turned.refl _ _ _,Only.refl _ _,by simp [seg_zero,val]⟩
 case round =>
  obtain ⟨k,carry,M,hk,rfl,rfl,hca,hrM,hdM,hT,hO,hinv⟩:=hrel
  by_cases hlt:k<lb.length
  ·have hsr:=hs.only hO hne
   rcases hsr with ⟨_,rfl⟩ | ⟨g,o2,rfl,hg,hcell⟩
   ·simp at hlt
   ·have hcl:=hcell k hlt
    have hcM:=hrM.cell (o+k) (by rw [hT.1];omega);have hfz:=hrM.frozen (o+k);have hdig:=hdb.getD k;have hyig:=hdM.getD (o+k);obtain ⟨d,hdd⟩:∃ d,lb.getD k 0=d:=⟨_,rfl⟩;obtain ⟨y,hy⟩:∃ y,M.getD (o+k) 0=y:=⟨_,rfl⟩;rw [hdd] at hcl hdig;rw [hy] at hcM hyig;have Hd:Hid (lb.getD k 0=d):=hdd;have Hy:Hid (M.getD (o+k) 0=y):=hy;have Hinv:Hid (val (seg M o k)+B64 ^ k*carry=val (seg L o k)+val (lb.take k)):=hinv;clear hinv hdd hy hcell;obtain ⟨s1,c1,hs1,hc1,H1,hrun1⟩:=add64_ex y d carry hyig hdig hca
    go_wp2
    have hstep:=carry_step (x:=s1) (c':=c1) (z:=y+d) hT (by omega) Hinv.out H1.out
    have hL:L.getD (o+k) 0=y:=by rw [<-hT.2 (o+k) (by omega)];exact Hy.out
    go_roundw
    case rel=>exact ⟨k+1,c1,M.set (o+k) s1,by omega,by go_num,rfl,hc1,hrM.set _ _,hdM.set _ _ (by unfold B64;omega),hT.step _,hO.setCell _ _,by
     rw [hstep,val_seg_succ L o k (by omega),val_take_succ lb k hlt,Hd.out,hL,qN];omega⟩
    case measure=>simp [intOf];omega
  ·obtain rfl:k=lb.length:=by omega
   rw [val_take_all] at hinv;have Hinv:Hid (val (seg M o lb.length)+B64 ^ lb.length*carry=val (seg L o lb.length)+val lb):=hinv;clear hinv
   go_wp2
   go_loopw [5,8] (fun cv i wx=>∃ (j carry:Nat) (M:List Nat),lb.length<=j/\j<=n/\i=.int .i64 j/\cv=.int .u64 carry/\carry<=1/\Row wx b M/\Dig M/\Turned L M o j/\Only b w wx/\val (seg M o j)+B64 ^ j*carry=val (seg L o j)+val lb)
    (fun _ i _=>n-(intOf i).toNat)
   case atStart=>exact ⟨lb.length,carry,M,qZ _,hbn,rfl,rfl,hca,hrM,hdM,hT,hO,Hinv.out⟩
   case round =>
    clear Hinv hrM hdM hT hO hca;obtain ⟨j,ca,M,hj1,hj2,rfl,rfl,hca,hrM,hdM,hT,hO,hinv⟩:=hrel
    by_cases hlt:j<n
    ·by_cases hca0:ca=0
     ·subst hca0
      have hfin:val (seg M o n)+B64 ^ n*0=val (seg L o n)+val lb:=by
       rw [val_seg_split M o j n hj2 (by rw [hT.1];exact hn),val_seg_split L o j n hj2 hn,hT.tail hj2];omega
      have Hfin:Hid (val (seg M o n)+B64 ^ n*0=val (seg L o n)+val lb):=hfin;clear hinv hfin
      go_wp2
      go_ret
      exact ⟨M,0,rfl,qI _,hrM,hdM,hT.mono hj2,hO,Hfin.out⟩
     ·have hcM:=hrM.cell (o+j) (by rw [hT.1];omega)
      have hfz:=hrM.frozen (o+j);have hyig:=hdM.getD (o+j);obtain ⟨y,hy⟩:∃ y,M.getD (o+j) 0=y:=⟨_,rfl⟩;rw [hy] at hcM hyig;have Hy:Hid (M.getD (o+j) 0=y):=hy;have Hinv:Hid (val (seg M o j)+B64 ^ j*ca=val (seg L o j)+val lb):=hinv
      have hcab:((ca:Int) != 0)=true:=by rw [bne_iff_ne];omega
      clear hinv hy hca0;obtain ⟨s1,c1,hs1,hc1,H1,hrun1⟩:=add64_ex0y y ca hyig hca
      go_wp2
      have hstep:=carry_step (x:=s1) (c':=c1) (z:=y) hT (by omega) Hinv.out H1.out
      have hL:L.getD (o+j) 0=y:=by rw [<-hT.2 (o+j) (by omega)];exact Hy.out
      go_roundw
      case rel=>exact ⟨j+1,c1,M.set (o+j) s1,by omega,by omega,by go_num,rfl,hc1,hrM.set _ _,hdM.set _ _ (by unfold B64;omega),hT.step _,hO.setCell _ _,by
       rw [hstep,val_seg_succ L o j (by omega),hL];omega⟩
      case measure=>simp [intOf];omega
    ·obtain rfl:j=n:=by omega
     have Hinv:Hid (val (seg M o j)+B64 ^ j*ca=val (seg L o j)+val lb):=hinv;clear hinv
     go_wp2
     go_ret
     exact ⟨M,ca,rfl,hca,hrM,hdM,hT,hO,Hinv.out⟩
theorem addInto_n (b o n c:Nat) (ao:Option Addr) (m c2:Nat) (lb L:List Nat) (w:World) (hm:lb.length=m) (hr:Row w b L) (hs:Seg w ao lb) (hne:∀ a,ao=some a->a.block≠b)
  (hd:Dig L) (hdb:Dig lb) (hn:o+n<=L.length) (hbn:m<=n) (hlen:L.length<=maxLen) (hc:n<=c) (hc2:m<=c2) :
  Calls Tryz.prog 152 #[.slice (some ⟨b,o,none⟩) n c,.slice ao m c2] w fun e w' =>
   ∃ (M:List Nat) (carry:Nat),e=.returned (.int .u64 carry)/\carry<=1/\Row w' b M/\Dig M/\Turned L M o n/\Only b w w'/\Hid (val (seg M o n)+B64 ^ n*carry=val (seg L o n)+val lb):=by
 subst hm;exact addInto_any b o n c ao c2 lb L w hr hs hne hd hdb hn hbn hlen hc hc2
theorem info_u64:(Tryz.prog.info? 77).map (fun i=>(i.zero,i.size,i.bytes))=some (some (.int .u64 0),1,8):=by kernel_rfl
theorem size_u64:(Tryz.prog.info? 77).map (·.size)=some 1:=by kernel_rfl
theorem row_of_made {w w':World} {base n:Nat} {e:TypeId} (h:w'.ownsRow base e 1 (.slice (some ⟨w.heap.size,0,none⟩) n n) n (madeCells (Value.int .u64 0).cells (n*1)).toList) :
  Row w' w.heap.size (List.replicate n 0):=by
 obtain ⟨_,h | ⟨g,cap,cur,hv,_,hh,_,_,hsz,ht⟩⟩:=h
 ·simp at h
 ·simp only [Value.slice.injEq,yX,Addr.mk.injEq,and_true,true_and] at hv
  obtain ⟨hg,rfl⟩:=hv;subst hg;refine ⟨e,?_⟩;rw [hh]
  congr 2
  apply Array.toList_inj.1
  have e1:cur.toList.take (n*1)=cur.toList:=qB (by rw [Array.length_toList,hsz];exact qZ _);have e2:(Value.int .u64 0).cells=#[Value.int .u64 0]:=rfl;rw [e1,e2,Nat.mul_one,toList_madeCells_one] at ht;rw [ht]
  simp
theorem wpList_make_row (w:World) {ops:Array Oper} {rest:List Oper} {o:Oper} {a:Act} {Q:Exit->Act->World->Prop}
  (hg:o.guard=none) (l c:Operand) (hop:o.op=Op.makeSlice 52 l c) (kl kc:IntKind) (L C:Int) (n:Nat) (hl:a.eval l=.int kl L) (hc:a.eval c=.int kc C) (hL:L=(n:Int)) (hC:C=(n:Int)) (b2:n<=1099511627776)
  (hK:∀ w',Row w' w.heap.size (List.replicate n 0)->Ext w w'->w.heap.size<w'.heap.size->wpList Tryz.prog ops Q rest (a.put o.dst (.slice (some ⟨w.heap.size,0,none⟩) n n)) w') :
  wpList Tryz.prog ops Q (o :: rest) a w:=by
 obtain ⟨i0,hi,hz0,hz1,hz2⟩:=info_parts info_u64;refine wpList_make_full w hg l c 52 hop w.heap.size 77 i0 (.int .u64 0) 1 Tryz.underlying52 hi hz0 hz1 kl kc L C n hl hc hL hC (by rw [hz2];omega) (by unfold maxLen;omega) (qZ _) ?_;intro w' hown hgrow;have hr:=row_of_made hown;exact hK w' hr ((Below.refl _ _).grown hgrow (qZ _) (fun k h=>by cases h)) hr.lt
theorem Only.setRow (w:World) (g:Nat) (cs:Array Value):Only g w (w.setRow g cs) :=
 ⟨rfl,rfl,rfl,by simp [World.setRow],fun k hk=>setRow_other w g k cs (by omega)⟩
theorem wpList_copy_row {w:World} {ops:Array Oper} {rest:List Oper} {o:Oper} {a:Act} {Q:Exit->Act->World->Prop} (hgd:o.guard=none) (d s:Operand)
  (ho:o.op=.call { callee:=.builtin .copy,args:=#[d,s],argTypes:=#[52,52] })
  (g off n dCap sCap:Nat) (sp:Option Addr) (L la:List Nat) (hd:a.eval d=.slice (some ⟨g,off,none⟩) n dCap) (hs:a.eval s=.slice sp la.length sCap)
  (hr:Row w g L) (hsrc:Seg w sp la) (hfit:off+la.length<=L.length) (hn:la.length<=n)
  (h:∀ w',Row w' g (L.take off++(la++L.drop (off+la.length)))->Only g w w'->wpList Tryz.prog ops Q rest (a.put o.dst (goInt la.length)) w'):wpList Tryz.prog ops Q (o :: rest) a w:=by
 have hmin:Nat.min la.length n=la.length:=Nat.min_eq_left hn
 by_cases h0:la=[]
 ·subst h0
  refine wpList_copy_nothing hgd d s 52 52 ho 77 Tryz.underlying52 size_u64 _ _ _ _ _ _ hd hs (by simp at hmin ⊢) ?_;exact h w (by simpa using hr) (Only.refl _ _)
 ·rcases hsrc with ⟨_,h1⟩ | ⟨b,o2,rfl,hb,hcell⟩
  ·exact absurd h1 h0
  ·obtain ⟨e,hrow⟩:=hr
   refine wpList_copy_own hgd d s 52 52 ho 77 Tryz.underlying52 size_u64 g off n dCap ⟨b,o2,none⟩ la.length sCap hd hs _ e hrow (la.map fun x=>Value.int .u64 (x:Nat)) (by simpa using hmin.symm) ?_ (by simpa using hfit) ?_ ?_
   ·intro j v hv
    have hj:j<la.length:=by
     have:=(jG.1 hv).1
     simpa using this
    rw [Addr.add_lit,hcell j hj];rw [<-hv,jM,qX hj,qQ,qX hj]
    rfl
   ·intro v hv
    obtain ⟨_,_,rfl⟩:=yU.1 hv
    rfl
   ·rw [jY]
    refine h _ ⟨e,?_⟩ (Only.setRow _ _ _);rw [setRow_heap w g _ _ e (0,0) hrow]
    congr 2
    apply Array.toList_inj.1
    simp [List.map_take,List.map_drop]
theorem wpList_copy_row_n {w:World} {ops:Array Oper} {rest:List Oper} {o:Oper} {a:Act} {Q:Exit->Act->World->Prop} (hgd:o.guard=none) (d s:Operand)
  (ho:o.op=.call { callee:=.builtin .copy,args:=#[d,s],argTypes:=#[52,52] })
  (g off n dCap m sCap:Nat) (sp:Option Addr) (L la:List Nat) (hd:a.eval d=.slice (some ⟨g,off,none⟩) n dCap) (hs:a.eval s=.slice sp m sCap) (hm:la.length=m)
  (hr:Row w g L) (hsrc:Seg w sp la) (hfit:off+m<=L.length) (hn:m<=n)
  (h:∀ w',Row w' g (L.take off++(la++L.drop (off+m)))->Only g w w'->wpList Tryz.prog ops Q rest (a.put o.dst (goInt m)) w'):wpList Tryz.prog ops Q (o :: rest) a w:=by
 subst hm;exact wpList_copy_row hgd d s ho g off n dCap sCap sp L la hd hs hr hsrc hfit hn h
def Num (w:World) (v:Value) (x:Nat):Prop :=
 ∃ (ao:Option Addr) (l:List Nat) (c:Nat),v=.slice ao l.length c/\l.length<=c/\c<=maxLen/\Seg w ao l/\Dig l/\Nrm l/\val l=x
theorem Num.ext {w w':World} {v:Value} {x:Nat} (h:Num w v x) (k:Ext w w'):Num w' v x:=by
 obtain ⟨ao,l,c,h1,h2,h3,h4,h5⟩:=h;exact ⟨ao,l,c,h1,h2,h3,h4.ext k,h5⟩
theorem Num.cast {w:World} {v:Value} {x y:Nat} (h:Num w v x) (e:x=y):Num w v y:=e ▸ h
theorem Ext.only {w w1 w2:World} {g:Nat} (h:Ext w w1) (k:Only g w1 w2) (hg:w.heap.size<=g):Ext w w2:=Below.trans h (k.below hg)
theorem num_trim {w:World} {ao:Option Addr} {l:List Nat} (hs:Seg w ao l) (hd:Dig l) (hm:l.length<=maxLen):Num w (.slice ao (nlen l) (nlen l)) (val l):=by
 have hl:=nlen_le l
 have e:(l.take (nlen l)).length=nlen l:=by rw [qC];omega
 exact ⟨ao,l.take (nlen l),nlen l,by rw [e],by rw [e];exact qZ _,by omega,hs.take _,hd.take _,Nrm_take l,val_take_nlen l⟩
theorem Seg.block_lt {w:World} {ao:Option Addr} {l:List Nat} (h:Seg w ao l):∀ a,ao=some a->a.block<w.heap.size:=by
 rcases h with ⟨rfl,_⟩ | ⟨b,o,rfl,hb,_⟩
 ·intro a ha;cases ha
 ·intro a ha;cases ha;exact hb
theorem Seg.block_ne {w:World} {ao:Option Addr} {l:List Nat} (h:Seg w ao l) {g:Nat} (hg:w.heap.size<=g):∀ a,ao=some a->a.block≠g :=
 fun a ha=>by have:=h.block_lt a ha;omega
theorem Seg.only_new {w w1 w2:World} {ao:Option Addr} {l:List Nat} (h:Seg w ao l) (k1:Ext w w1) {g:Nat} (hg:w.heap.size<=g) (k:Only g w1 w2):Seg w2 ao l :=
 (h.ext k1).only k (h.block_ne hg)
def Fresh (w:World) (v:Value):Prop:=∀ a n c,v=.slice (some a) n c->w.heap.size<=a.block
theorem Fresh.mk {w:World} {b o n c:Nat} (h:w.heap.size<=b):Fresh w (.slice (some ⟨b,o,none⟩) n c):=fun a n' c' e=>by cases e;exact h
theorem Dig.replicate (n:Nat):Dig (List.replicate n 0):=fun x hx=>by rw [List.eq_of_mem_replicate hx];exact B64_pos
theorem val_replicate (n:Nat):val (List.replicate n 0)=0:=by
 induction n with
 | zero=>rfl
 | succ n ih=>rw [List.replicate_succ,val,ih,Nat.mul_zero]
theorem seg_all (L:List Nat):seg L 0 L.length=L:=by simp [seg]
theorem Row.segAll {w:World} {b:Nat} {L:List Nat} (h:Row w b L):Seg w (some ⟨b,0,none⟩) L:=by
 have:=h.seg 0 L.length (by omega)
 simpa using this
theorem trim_any (ao:Option Addr) (l:List Nat) (c:Nat) (w:World) (hc:l.length<=c) (hm:c<=maxLen) (hs:Seg w ao l) :
  Calls Tryz.prog 128 #[.slice ao l.length c] w fun e w'=>e=.returned (.slice ao (nlen l) (nlen l))/\w=w':=by
 unfold maxLen at hm
 go_enter Tryz.func128,Tryz.ntmps128
 go_wp2
 go_loop [3] (fun i=>∃ k:Nat,k<=l.length/\i=.int .i64 k/\∀ t,k<=t->l.getD t 0=0) (fun i=>(intOf i).toNat)
 case atStart=>exact ⟨l.length,qZ _,rfl,fun t ht=>by simp [List.getElem?_eq_none ht]⟩
 case round =>
  obtain ⟨k,hk,rfl,h0⟩:=hrel
  by_cases hp:0<k
  ·rcases hs with ⟨_,rfl⟩ | ⟨b,o,rfl,hb,hcell⟩
   ·simp at hk;omega
   ·have hcl:=hcell (k-1) (by omega)
    go_wp2
    ·have he:l.getD (k-1) 0=0:=by
      have h:((l[k-1]?.getD 0:Nat):Int)=0:=eq_of_beq (by assumption);simp only [qQ];omega
     go_round
     case rel=>exact ⟨k-1,by omega,by go_num,fun t ht=>by
      by_cases e:t=k-1
      ·rw [e];exact he
      ·exact h0 t (by omega)⟩
     case measure=>simp [intOf];omega
    ·have he:l.getD (k-1) 0≠0:=by
      have h:¬ ((l[k-1]?.getD 0:Nat):Int)=0:=ne_of_beq_false (by assumption);simp only [qQ];omega
     have hn:k=nlen l:=(nlen_of_last l k hk h0 (qO he)).symm
     go_ret
     exact ⟨by rw [<-hn];rfl,rfl⟩
  ·obtain rfl:k=0:=by omega
   have hn:0=nlen l:=(nlen_of_last l 0 hk h0 (qM rfl)).symm
   go_wp2
   go_ret
   exact ⟨by rw [<-hn];rfl,rfl⟩
theorem trim_n (ao:Option Addr) (l:List Nat) (n c:Nat) (w:World) (hn:l.length=n) (hc:n<=c) (hm:c<=maxLen) (hs:Seg w ao l) :
  Calls Tryz.prog 128 #[.slice ao n c] w fun e w'=>e=.returned (.slice ao (nlen l) (nlen l))/\w=w':=by
 subst hn;exact trim_any ao l c w hc hm hs
def pad (la:List Nat) (n:Nat):List Nat:=la++List.replicate (n-la.length) 0
theorem pad_length (la:List Nat) (n:Nat) (h:la.length<=n):(pad la n).length=n:=by simp [pad];omega
theorem pad_val (la:List Nat) (n:Nat):val (pad la n)=val la:=by rw [pad,val_append,val_replicate];omega
theorem pad_dig {la:List Nat} (h:Dig la) (n:Nat):Dig (pad la n):=h.append (Dig.replicate _)
theorem val_lt_two {l1 l2:List Nat} (d1:Dig l1) (d2:Dig l2) (h:l2.length<=l1.length):val l1+val l2<B64 ^ (l1.length+1):=by
 have h1:=val_lt d1;have h2:=val_lt d2;have h3:B64 ^ l2.length<=B64 ^ l1.length:=qY B64_pos h;rw [jK];have h4:B64 ^ l1.length*2<=B64 ^ l1.length*B64:=jX _ (by unfold B64;omega);omega
theorem no_carry {V X carry n:Nat} (h:V+B64 ^ n*carry=X) (hX:X<B64 ^ n):carry=0/\V=X:=by
 have:carry=0:=by
  cases carry with
  | zero=>rfl
  | succ k=>rw [qN,Nat.mul_one] at h;omega
 subst this;exact ⟨rfl,by omega⟩
theorem sum_done {l1 l2 M:List Nat} {n carry:Nat} (d1:Dig l1) (d2:Dig l2) (h:l2.length<=l1.length) (hn:n=l1.length+1) (hT:Turned (pad l1 n) M 0 n) (hv:val (seg M 0 n)+B64 ^ n*carry=val (seg (pad l1 n) 0 n)+val l2) :
  M.length=n/\val M=val l1+val l2:=by
 have hlM:M.length=n:=by rw [hT.1,pad_length _ _ (by omega)]
 refine ⟨hlM,?_⟩
 have e1:seg M 0 n=M:=by rw [<-hlM];exact seg_all M
 have e2:seg (pad l1 n) 0 n=pad l1 n:=by
  have:=seg_all (pad l1 n);rwa [pad_length _ _ (by omega)] at this
 rw [e1,e2,pad_val] at hv;have:=(no_carry hv (by rw [hn];exact val_lt_two d1 d2 h)).2;omega
theorem addWords_any (a1 a2:Option Addr) (l1 l2:List Nat) (n1 n2 c1 c2:Nat) (w:World) (hn1:l1.length=n1) (hn2:l2.length=n2) (h1:Seg w a1 l1) (h2:Seg w a2 l2) (d1:Dig l1) (d2:Dig l2) (hc1:n1<=c1) (hc2:n2<=c2) (hm1:n1<=1073741824) (hm2:n2<=1073741824) :
  Calls Tryz.prog 139 #[.slice a1 n1 c1,.slice a2 n2 c2] w fun e w'=>∃ v,e=.returned v/\Num w' v (val l1+val l2)/\Ext w w':=by
 have H1:Hid (l1.length=n1):=hn1;have H2:Hid (l2.length=n2):=hn2;clear hn1 hn2
 by_cases hlt:n1<n2
 ·go_enter Tryz.func139,Tryz.ntmps139
  go_wp2_with (first
   | (at_make;refine wpList_make_row _ rfl _ _ rfl _ _ _ _ (n2+1) rfl rfl (by omega) (by omega) (by omega) ?_;intro w1 hr1 he1 hz1)
   | (refine wpList_copy_row_n rfl (.tmp 17) (.tmp 18) rfl w.heap.size 0 _ _ _ _ _ _ l2 rfl rfl H2.out hr1 (h2.ext he1) (by simp) (by omega) ?_;intro w2 hr2 ho2))
  have h2o:=H2.out;rw [<-h2o,jH,show List.take 0 (List.replicate (l2.length+1) 0)++(l2++List.drop l2.length (List.replicate (l2.length+1) 0))=pad l2 (l2.length+1) from by simp [pad],h2o] at hr2;clear h2o;refine (addInto_n w.heap.size 0 (n2+1) (n2+1) a1 n1 c1 l1 (pad l2 (n2+1)) w2 H1.out hr2 (h1.only_new he1 (qZ _) ho2) (h1.block_ne (qZ _)) (pad_dig d2 _) d1 (by rw [pad_length _ _ (by rw [H2.out];omega)];omega) (by omega) (by rw [pad_length _ _ (by rw [H2.out];omega)];unfold maxLen;omega) (by omega) hc1).mono ?_;rintro e w3 ⟨M,carry,rfl,hca,hr3,hd3,hT3,ho3,Hv⟩;obtain ⟨hlM,hvM⟩:=sum_done d2 d1 (by rw [H1.out,H2.out];omega) (by rw [H2.out]) hT3 Hv.out;have hs3:=hr3.segAll;have HM:Hid (M.length=n2+1):=hlM;have HV:Hid (val M=val l2+val l1):=hvM;clear hlM hvM
  go_wp2_with fail
  refine (trim_n _ M _ _ w3 HM.out (qZ _) (by unfold maxLen;omega) hs3).mono ?_;rintro e w4 ⟨rfl,rfl⟩
  go_wp2_with fail
  go_ret
  refine ⟨_,rfl,?_,?_⟩
  ·exact (num_trim hs3 hd3 (by rw [HM.out];unfold maxLen;omega)).cast (by rw [HV.out];omega)
  ·exact (he1.only ho2 (qZ _)).only ho3 (qZ _)
 ·go_enter Tryz.func139,Tryz.ntmps139
  go_wp2_with (first
   | (at_make;refine wpList_make_row _ rfl _ _ rfl _ _ _ _ (n1+1) rfl rfl (by omega) (by omega) (by omega) ?_;intro w1 hr1 he1 hz1)
   | (refine wpList_copy_row_n rfl (.tmp 17) (.tmp 18) rfl w.heap.size 0 _ _ _ _ _ _ l1 rfl rfl H1.out hr1 (h1.ext he1) (by simp) (by omega) ?_;intro w2 hr2 ho2))
  have h1o:=H1.out;rw [<-h1o,jH,show List.take 0 (List.replicate (l1.length+1) 0)++(l1++List.drop l1.length (List.replicate (l1.length+1) 0))=pad l1 (l1.length+1) from by simp [pad],h1o] at hr2;clear h1o;refine (addInto_n w.heap.size 0 (n1+1) (n1+1) a2 n2 c2 l2 (pad l1 (n1+1)) w2 H2.out hr2 (h2.only_new he1 (qZ _) ho2) (h2.block_ne (qZ _)) (pad_dig d1 _) d2 (by rw [pad_length _ _ (by rw [H1.out];omega)];omega) (by omega) (by rw [pad_length _ _ (by rw [H1.out];omega)];unfold maxLen;omega) (by omega) hc2).mono ?_;rintro e w3 ⟨M,carry,rfl,hca,hr3,hd3,hT3,ho3,Hv⟩;obtain ⟨hlM,hvM⟩:=sum_done d1 d2 (by rw [H2.out,H1.out];omega) (by rw [H1.out]) hT3 Hv.out;have hs3:=hr3.segAll;have HM:Hid (M.length=n1+1):=hlM;have HV:Hid (val M=val l1+val l2):=hvM;clear hlM hvM
  go_wp2_with fail
  refine (trim_n _ M _ _ w3 HM.out (qZ _) (by unfold maxLen;omega) hs3).mono ?_;rintro e w4 ⟨rfl,rfl⟩
  go_wp2_with fail
  go_ret
  refine ⟨_,rfl,?_,?_⟩
  ·exact (num_trim hs3 hd3 (by rw [HM.out];unfold maxLen;omega)).cast (by rw [HV.out])
  ·exact (he1.only ho2 (qZ _)).only ho3 (qZ _)
theorem no_borrow {V X Y c n:Nat} (h:V+X=Y+B64 ^ n*c) (hXY:X<=Y) (hV:V<B64 ^ n):c=0/\V=Y-X:=by
 have:c=0:=by
  cases c with
  | zero=>rfl
  | succ k=>rw [qN,Nat.mul_one] at h;omega
 subst this;exact ⟨rfl,by omega⟩
theorem subWords_any (a1 a2:Option Addr) (l1 l2:List Nat) (n1 n2 c1 c2:Nat) (w:World) (hn1:l1.length=n1) (hn2:l2.length=n2) (h1:Seg w a1 l1) (h2:Seg w a2 l2) (d1:Dig l1) (d2:Dig l2) (hc1:n1<=c1) (hc2:n2<=c2) (hm1:n1<=1073741824) (hle:n2<=n1) (hval:val l2<=val l1) :
  Calls Tryz.prog 140 #[.slice a1 n1 c1,.slice a2 n2 c2] w fun e w'=>∃ v,e=.returned v/\Num w' v (val l1-val l2)/\Ext w w':=by
 have H1:Hid (l1.length=n1):=hn1;have H2:Hid (l2.length=n2):=hn2;clear hn1 hn2
 go_enter Tryz.func140,Tryz.ntmps140
 go_wp2_with (first
  | (at_make;refine wpList_make_row _ rfl _ _ rfl _ _ _ _ n1 rfl rfl (by omega) (by omega) (by omega) ?_;intro w1 hr1 he1 hz1)
  | (refine wpList_copy_row_n rfl (.tmp 13) (.tmp 14) rfl w.heap.size 0 _ _ _ _ _ _ l1 rfl rfl H1.out hr1 (h1.ext he1) (by simp) (by omega) ?_;intro w2 hr2 ho2))
 have hr2':Row w2 w.heap.size l1:=by
  have h1o:=H1.out
  have e:List.take 0 (List.replicate n1 0)++(l1++List.drop (0+n1) (List.replicate n1 0))=l1:=by simp
  rw [e] at hr2;exact hr2
 clear hr2
 go_loopw [6,18] (fun cv i wr=>∃ (k ca:Nat) (M:List Nat),k<=n2/\i=.int .i64 k/\cv=.int .u64 ca/\ca<=1/\Row wr w.heap.size M/\Dig M/\Turned l1 M 0 k/\Only w.heap.size w2 wr/\val (seg M 0 k)+val (l2.take k)=val (seg l1 0 k)+B64 ^ k*ca)
  (fun _ i _=>n2-(intOf i).toNat)
 case atStart=>exact ⟨0,0,l1,qI _,rfl,rfl,qI _,hr2',d1,Turned.refl _ _ _,Only.refl _ _,by simp [seg_zero,val]⟩
 case round =>
  obtain ⟨k,ca,M,hk,rfl,rfl,hca,hrM,hdM,hT,hO,hinv⟩:=hrel
  have hML:M.length=n1:=by rw [hT.1];exact H1.out
  by_cases hlt:k<n2
  ·have hsr:=(h2.only_new he1 (qZ _) ho2).only hO (h2.block_ne (qZ _))
   rcases hsr with ⟨_,rfl⟩ | ⟨g,o2,rfl,hg,hcell⟩
   ·have:=H2.out;simp at this;omega
   ·have hcl:=hcell k (by rw [H2.out];exact hlt)
    have hcM:=hrM.cell k (by omega);have hfz:=hrM.frozen k;have hdig:=d2.getD k;have hyig:=hdM.getD k;obtain ⟨d,hdd⟩:∃ d,l2.getD k 0=d:=⟨_,rfl⟩;obtain ⟨y,hy⟩:∃ y,M.getD k 0=y:=⟨_,rfl⟩;rw [hdd] at hcl hdig;rw [hy] at hcM hyig;have Hd:Hid (l2.getD k 0=d):=hdd;have Hy:Hid (M.getD k 0=y):=hy;have HML:Hid (M.length=n1):=hML;have Hinv:Hid (val (seg M 0 k)+val (l2.take k)=val (seg l1 0 k)+B64 ^ k*ca):=hinv;clear hinv hdd hy hcell hML;obtain ⟨s1,c1',hs1,hc1',HH1,hrun1⟩:=sub64_ex y d ca hyig hdig hca
    go_wp2
    have hl1:l1.length=n1:=H1.out;have hl2:l2.length=n2:=H2.out;have hstep:=borrow_step (x:=s1) (c':=c1') (z:=d) (y:=y) hT (by omega) Hinv.out (by have:=HH1.out;omega)
    have hL:l1.getD (0+k) 0=y:=by rw [<-hT.2 (0+k) (by omega),jH];exact Hy.out
    rw [jH] at hstep
    go_roundw
    case rel=>exact ⟨k+1,c1',M.set k s1,by omega,by go_num,rfl,hc1',hrM.set _ _,hdM.set _ _ (by unfold B64;omega),by have:=hT.step s1;rwa [jH] at this,hO.setCell _ _,by
     rw [<-hL,<-val_seg_succ l1 0 k (by omega)] at hstep
     rw [<-hstep,val_take_succ l2 k (by omega),Hd.out]⟩
    case measure=>simp [intOf];omega
  ·obtain rfl:k=n2:=by omega
   have hl2:l2.length=k:=H2.out;rw [show l2.take k=l2 from by rw [<-hl2];exact List.take_length] at hinv;have Hinv:Hid (val (seg M 0 k)+val l2=val (seg l1 0 k)+B64 ^ k*ca):=hinv;clear hinv hML hl2
   go_wp2_with fail
   go_loopw [6,9] (fun cv i wx=>∃ (j ca:Nat) (M:List Nat),k<=j/\j<=n1/\i=.int .i64 j/\cv=.int .u64 ca/\ca<=1/\Row wx w.heap.size M/\Dig M/\Turned l1 M 0 j/\Only w.heap.size w2 wx/\val (seg M 0 j)+val l2=val (seg l1 0 j)+B64 ^ j*ca)
    (fun _ i _=>n1-(intOf i).toNat)
   case atStart=>exact ⟨k,ca,M,qZ _,hle,rfl,rfl,hca,hrM,hdM,hT,hO,Hinv.out⟩
   case round =>
    clear Hinv hrM hdM hT hO hca;obtain ⟨j,ca,M,hj1,hj2,rfl,rfl,hca,hrM,hdM,hT,hO,hinv⟩:=hrel
    have hML:M.length=n1:=by rw [hT.1];exact H1.out
    have hl1:l1.length=n1:=H1.out
    have hfin:j=n1\/ca=0->Hid (val M=val l1-val l2):=by
     intro hor
     have e:val (seg M 0 n1)+val l2=val (seg l1 0 n1)+B64 ^ n1*(if ca=0 then 0 else ca):=by
      rcases hor with rfl | rfl
      ·rw [hinv];split<;>simp_all
      ·rw [val_seg_split M 0 j n1 hj2 (by omega),val_seg_split l1 0 j n1 hj2 (by omega),hT.tail hj2]
       simp only [if_true];omega
     have e1:seg M 0 n1=M:=by rw [<-hML];exact seg_all M
     have e2:seg l1 0 n1=l1:=by rw [<-hl1];exact seg_all l1
     rw [e1,e2] at e;exact (no_borrow e hval (by rw [<-hML];exact val_lt hdM)).2
    have hs3:=hrM.segAll;have HML:Hid (M.length=n1):=hML
    by_cases hlt:j<n1
    ·by_cases hca0:ca=0
     ·have HV:=hfin (qO hca0)
      subst hca0;clear hinv hfin hML hl1
      go_wp2_with fail
      refine (trim_n _ M _ _ _ HML.out (qZ _) (by unfold maxLen;omega) hs3).mono ?_;rintro e w4 ⟨rfl,rfl⟩
      go_wp2_with fail
      go_ret
      exact ⟨_,rfl,(num_trim hs3 hdM (by rw [HML.out];unfold maxLen;omega)).cast (by rw [HV.out]),(he1.only ho2 (qZ _)).only hO (qZ _)⟩
     ·have hcM:=hrM.cell j (by omega)
      have hfz:=hrM.frozen j;have hyig:=hdM.getD j;obtain ⟨y,hy⟩:∃ y,M.getD j 0=y:=⟨_,rfl⟩;rw [hy] at hcM hyig;have Hy:Hid (M.getD j 0=y):=hy;have Hinv:Hid (val (seg M 0 j)+val l2=val (seg l1 0 j)+B64 ^ j*ca):=hinv
      have hcab:((ca:Int) != 0)=true:=by rw [bne_iff_ne];omega
      clear hinv hy hca0 hfin hML hl1 hs3;obtain ⟨s1,c1',hs1,hc1',HH1,hrun1⟩:=sub64_ex0y y ca hyig hca
      go_wp2
      have hl1:l1.length=n1:=H1.out;have hstep:=borrow_step (x:=s1) (c':=c1') (z:=0) (y:=y) hT (by omega) Hinv.out (by have:=HH1.out;omega)
      have hL:l1.getD (0+j) 0=y:=by rw [<-hT.2 (0+j) (by omega),jH];exact Hy.out
      rw [jH] at hstep
      go_roundw
      case rel=>exact ⟨j+1,c1',M.set j s1,by omega,by omega,by go_num,rfl,hc1',hrM.set _ _,hdM.set _ _ (by unfold B64;omega),by have:=hT.step s1;rwa [jH] at this,hO.setCell _ _,by
       rw [<-hL,<-val_seg_succ l1 0 j (by omega)] at hstep
       rw [<-hstep];omega⟩
      case measure=>simp [intOf];omega
    ·have HV:=hfin (qM (by omega))
     clear hinv hfin hML hl1
     go_wp2_with fail
     refine (trim_n _ M _ _ _ HML.out (qZ _) (by unfold maxLen;omega) hs3).mono ?_;rintro e w4 ⟨rfl,rfl⟩
     go_wp2_with fail
     go_ret
     exact ⟨_,rfl,(num_trim hs3 hdM (by rw [HML.out];unfold maxLen;omega)).cast (by rw [HV.out]),(he1.only ho2 (qZ _)).only hO (qZ _)⟩
def cmp3 (x y:Int):Int:=if x<y then -1 else if y<x then 1 else 0
theorem compareInt_any (x y:Int) (w:World) :
  Calls Tryz.prog 101 #[.int .i64 x,.int .i64 y] w fun e w'=>e=.returned (.int .i64 (cmp3 x y))/\w=w':=by
 rcases Int.lt_trichotomy x y with h | h | h
 ·go_enter Tryz.func101,Tryz.ntmps101
  go_wp2
  go_ret
  exact ⟨by simp [cmp3,h],rfl⟩
 ·subst h
  go_enter Tryz.func101,Tryz.ntmps101
  go_wp2
  go_ret
  exact ⟨by simp [cmp3],rfl⟩
 ·have h':¬ x<y:=by omega
  go_enter Tryz.func101,Tryz.ntmps101
  go_wp2
  go_ret
  exact ⟨by simp [cmp3,h,h'],rfl⟩
theorem compareU64_any (x y:Int) (w:World) :
  Calls Tryz.prog 135 #[.int .u64 x,.int .u64 y] w fun e w'=>e=.returned (.int .i64 (cmp3 x y))/\w=w':=by
 rcases Int.lt_trichotomy x y with h | h | h
 ·go_enter Tryz.func135,Tryz.ntmps135
  go_wp2
  go_ret
  exact ⟨by simp [cmp3,h],rfl⟩
 ·subst h
  go_enter Tryz.func135,Tryz.ntmps135
  go_wp2
  go_ret
  exact ⟨by simp [cmp3],rfl⟩
 ·have h':¬ x<y:=by omega
  go_enter Tryz.func135,Tryz.ntmps135
  go_wp2
  go_ret
  exact ⟨by simp [cmp3,h,h'],rfl⟩
theorem cmp3_lt {x y:Int} (h:x<y):cmp3 x y=-1:=by simp [cmp3,h]
theorem cmp3_gt {x y:Int} (h:y<x):cmp3 x y=1:=by
 have:¬ x<y:=by omega
 simp [cmp3,h,this]
theorem cmp3_eq (x:Int):cmp3 x x=0:=by simp [cmp3]
theorem Ext.drewN {w w':World} (h:Ext w w') (n:Nat):Ext w (w'.drewN n):=by
 induction n with
 | zero=>exact h
 | succ n ih=>exact qG ih
theorem compareU64_same (x y:Int) (w:World) :
  Calls Tryz.prog 135 #[.int .u64 x,.int .u64 y] w fun e w'=>e=.returned (.int .i64 (cmp3 x y))/\w'=w :=
 (compareU64_any x y w).mono (fun _ _ h=>⟨h.1,h.2.symm⟩)
theorem cmp3_at {l1 l2:List Nat} {k x y:Nat} (hl:l1.length=l2.length) (d1:Dig l1) (d2:Dig l2) (hp:0<k) (hk:k<=l1.length) (heq:∀ t,k<=t->l1.getD t 0=l2.getD t 0) (hx:l1.getD (k-1) 0=x) (hy:l2.getD (k-1) 0=y) (hne:x≠y) :
  cmp3 x y=cmp3 (val l1) (val l2):=by
 rcases Nat.lt_or_gt_of_ne hne with h | h
 ·have:=val_lt_at hl d1 (k-1) (by omega) (fun t ht=>heq t (by omega)) (by rw [hx,hy];exact h)
  rw [cmp3_lt (by omega),cmp3_lt (by omega)]
 ·have:=val_lt_at hl.symm d2 (k-1) (by omega) (fun t ht=>(heq t (by omega)).symm) (by rw [hx,hy];exact h)
  rw [cmp3_gt (by omega),cmp3_gt (by omega)]
theorem compareWords_any (a1 a2:Option Addr) (l1 l2:List Nat) (n1 n2 c1 c2:Nat) (w:World) (hn1:l1.length=n1) (hn2:l2.length=n2) (h1:Seg w a1 l1) (h2:Seg w a2 l2) (d1:Dig l1) (d2:Dig l2) (m1:Nrm l1) (m2:Nrm l2) (_hc1:n1<=c1) (_hc2:n2<=c2) (hm1:n1<=1073741824) (hm2:n2<=1073741824) :
  Calls Tryz.prog 103 #[.slice a1 n1 c1,.slice a2 n2 c2] w fun e w'=>e=.returned (.int .i64 (cmp3 (val l1) (val l2)))/\Ext w w':=by
 by_cases hne:n1=n2
 ·subst hne
  have H1:Hid (l1.length=n1):=hn1;have H2:Hid (l2.length=n1):=hn2;clear hn1 hn2
  go_enter Tryz.func103,Tryz.ntmps103
  go_wp2_with fail
  go_loopw [5] (fun i wr=>∃ k:Nat,k<=n1/\i=.int .i64 ((k:Int)-1)/\Ext w wr/\∀ t,k<=t->l1.getD t 0=l2.getD t 0)
   (fun i _=>(intOf i+1).toNat)
  case atStart=>exact ⟨n1,qZ _,rfl,Ext.refl _,fun t ht=>by
   have e1:=H1.out;have e2:=H2.out
   rw [qQ,qQ,jT (by omega),jT (by omega)]⟩
  case round =>
   obtain ⟨k,hk,rfl,hE,heq⟩:=hrel;have Heq:Hid (∀ t,k<=t->l1.getD t 0=l2.getD t 0):=heq;clear heq
   by_cases hp:0<k
   ·rcases h1.ext hE with ⟨_,rfl⟩ | ⟨b1,o1,rfl,hb1,hcell1⟩
    ·have:=H1.out;simp at this;omega
    rcases h2.ext hE with ⟨_,rfl⟩ | ⟨b2,o2,rfl,hb2,hcell2⟩
    ·have:=H2.out;simp at this;omega
    have hcl1:=hcell1 (k-1) (by rw [H1.out];omega);have hcl2:=hcell2 (k-1) (by rw [H2.out];omega);obtain ⟨x,hx⟩:∃ x,l1.getD (k-1) 0=x:=⟨_,rfl⟩;obtain ⟨y,hy⟩:∃ y,l2.getD (k-1) 0=y:=⟨_,rfl⟩;rw [hx] at hcl1;rw [hy] at hcl2;have Hx:Hid (l1.getD (k-1) 0=x):=hx;have Hy:Hid (l2.getD (k-1) 0=y):=hy;clear hx hy hcell1 hcell2
    have hi1:(0:Int)<=(k:Int)-1:=by omega
    have hi2:(k:Int)-1<(n1:Int):=by omega
    by_cases hxy:x=y
    ·subst hxy
     go_wp2_with fail
     go_quiet (fail)
     go_wp2_with fail
     have hx:=Hx.out;have hy:=Hy.out;have heq:=Heq.out
     go_roundw
     case rel=>exact ⟨k-1,by omega,by go_num,Ext.drewN hE _,fun t ht=>by
      by_cases e:t=k-1
      ·rw [e,hx,hy]
      ·exact heq t (by omega)⟩
     case measure=>simp [intOf];omega
    ·have hb:((x:Int) != (y:Int))=true:=by rw [bne_iff_ne];omega
     have Hc:Hid (cmp3 (x:Int) (y:Int)=cmp3 (val l1) (val l2)):=cmp3_at (by rw [H1.out,H2.out]) d1 d2 hp (by rw [H1.out];exact hk) Heq.out Hx.out Hy.out hxy;clear hxy
     go_wp2_with fail
     go_quiet (fail)
     go_wp2_with fail
     have hE2:Ext w (wr.drewN nq):=Ext.drewN hE nq;have hk1:(wr.drewN nq).cell? ⟨b1,o1+(k-1),none⟩=some (.int .u64 (x:Nat)):=hcl1;have hk2:(wr.drewN nq).cell? ⟨b2,o2+(k-1),none⟩=some (.int .u64 (y:Nat)):=hcl2;clear hcl1 hcl2 hE hb1 hb2;generalize wr.drewN nq=w5 at *
     go_quiet ((go_at_call 135;exact Calls.quiet_of_same (compareU64_same _ _ _)))
     go_wp2_with fail
     go_ret
     exact ⟨by rw [<-Hc.out];rfl,Ext.drewN hE2 _⟩
   ·obtain rfl:k=0:=by omega
    have he:val l1=val l2:=by
     have:=getD_ext l1 l2 (by rw [H1.out,H2.out]) 0 (fun t ht=>Heq.out t ht);rw [List.drop_zero,List.drop_zero] at this;rw [this]
    have Hc:Hid (cmp3 (val l1) (val l2)=0):=by show _=_;rw [he];exact cmp3_eq _
    clear he
    go_wp2_with fail
    go_ret
    exact ⟨by rw [Hc.out];rfl,hE⟩
 ·have Hc:Hid (cmp3 (n1:Int) (n2:Int)=cmp3 (val l1) (val l2)):=by
   show _=_
   rcases Nat.lt_or_gt_of_ne hne with h | h
   ·have:=m2.len_lt d1 (by omega)
    rw [cmp3_lt (by omega),cmp3_lt (by omega)]
   ·have:=m1.len_lt d2 (by omega)
    rw [cmp3_gt (by omega),cmp3_gt (by omega)]
  have hb:((n1:Int) != (n2:Int))=true:=by rw [bne_iff_ne];omega
  clear hn1 hn2 hne
  go_enter Tryz.func103,Tryz.ntmps103
  go_wp2_with fail
  refine (compareInt_any _ _ _).mono ?_;rintro e w' ⟨rfl,rfl⟩
  go_wp2_with fail
  go_ret
  exact ⟨by rw [<-Hc.out];rfl,Ext.refl _⟩
theorem B64_pow:B64=2 ^ 64:=rfl
theorem shl_ex (x y s:Nat) (hx:x<B64) (hs:s<=63) (hy:y<2 ^ s):∃ z q:Nat,z<B64/\q<2 ^ s/\Hid (z+B64*q=y+x*2 ^ s) /\
  bits .or .u64 (y:Int) (IntKind.u64.wrap ((x:Int)*2 ^ s))=(z:Int)/\(x:Int) / 2 ^ (64-s)=(q:Int):=by
 have hsplit:B64=2 ^ s*2 ^ (64-s):=by rw [<-jS,B64_pow];congr 1;omega
 have hp:0<2 ^ s:=jF (by omega);have hp2:0<2 ^ (64-s):=jF (by omega)
 have hm:x*2 ^ s % B64=2 ^ s*(x % 2 ^ (64-s)):=by
  rw [hsplit,jU x,Nat.mul_mod_mul_left]
 have hq:x*2 ^ s / B64=x / 2 ^ (64-s):=by
  rw [hsplit,jU x,Nat.mul_div_mul_left _ _ hp]
 have hor:y ||| x*2 ^ s % B64=y+x*2 ^ s % B64:=by
  rw [hm,Nat.or_comm,<-Nat.two_pow_add_eq_or_of_lt hy,Nat.add_comm]
 have hlt:y+x*2 ^ s % B64<B64:=by
  rw [hm];have h1:x % 2 ^ (64-s)<2 ^ (64-s):=Nat.mod_lt _ hp2;have h2:2 ^ s*(x % 2 ^ (64-s)+1)<=2 ^ s*2 ^ (64-s):=jX _ h1;rw [qN,<-hsplit] at h2;omega
 refine ⟨y+x*2 ^ s % B64,x / 2 ^ (64-s),hlt,?_,?_,?_,?_⟩
 ·rw [jO hp2,<-hsplit];exact hx
 ·show _+B64*_=_
  rw [<-hq];have:=Nat.div_add_mod (x*2 ^ s) B64;omega
 ·have e:IntKind.u64.wrap ((x:Int)*2 ^ s)=((x*2 ^ s % B64:Nat):Int):=by
   rw [yF]
   have:(x:Int)*2 ^ s=((x*2 ^ s:Nat):Int):=by simp [Int.natCast_mul,Int.natCast_pow]
   rw [this,B64_eq];omega
  have hyB:y<18446744073709551616:=by have:=hlt;rw [B64_eq] at this;omega
  have hmB:x*2 ^ s % B64<18446744073709551616:=Nat.mod_lt _ (by omega);rw [e,bits_or_u64_nat _ _ hyB hmB,hor]
 ·have:((2:Int) ^ (64-s))=((2 ^ (64-s):Nat):Int):=by simp [Int.natCast_pow]
  rw [this];exact (Int.natCast_ediv _ _).symm
theorem seg_set_out (M:List Nat) (o n i x:Nat) (h:i<o\/o+n<=i):seg (M.set i x) o n=seg M o n :=
 seg_congr _ _ _ _ (by rw [jV]) (fun t _ ht=>getD_set_ne _ _ _ _ (by omega))
theorem shift_step {M:List Nat} {o k x y z q s:Nat} (hk:o+k+1<M.length) (hy:M.getD (o+k) 0=y) (hz:z+B64*q=y+x*2 ^ s) (X:Nat) (hinv:val (seg M o (k+1))=X) :
  val (seg ((M.set (o+k) z).set (o+(k+1)) q) o (k+2))=X+B64 ^ k*(x*2 ^ s):=by
 rw [val_seg_succ _ o (k+1) (by rw [jV,jV];omega),getD_set_eq _ _ _ (by rw [jV];omega),seg_set_out _ _ _ _ _ (by omega)];rw [val_seg_succ _ o k (by rw [jV];omega),getD_set_eq _ _ _ (by omega),seg_set_out _ _ _ _ _ (by omega)];rw [val_seg_succ M o k (by omega),hy] at hinv;rw [pow_split]
 have e:B64 ^ k*(z+B64*q)=B64 ^ k*(y+x*2 ^ s):=by rw [hz]
 rw [qN,qN] at e;omega
theorem shiftInto_any (b o N c:Nat) (ao:Option Addr) (n c2 s:Nat) (la L:List Nat) (w:World) (hm:la.length=n) (hr:Row w b L) (hs:Seg w ao la) (hne:∀ a,ao=some a->a.block≠b)
  (hd:Dig L) (hda:Dig la) (hs63:s<=63) (hL0:L.getD o 0=0) (hn:o+N<=L.length) (hN:n+1<=N) (hlen:L.length<=maxLen) (_hc:N<=c) (_hc2:n<=c2) :
  Calls Tryz.prog 149 #[.slice (some ⟨b,o,none⟩) N c,.slice ao n c2,.int .u64 s] w fun e w' =>
   ∃ M:List Nat,e=.returned (.tuple #[])/\Row w' b M/\Dig M/\Turned L M o (n+1)/\Only b w w'/\Hid (val (seg M o (n+1))=val la*2 ^ s):=by
 unfold maxLen at hlen;have Hm:Hid (la.length=n):=hm;have HL0:Hid (L.getD o 0=0):=hL0
 have h64:(0:Int)<=64-(s:Int):=by omega
 clear hm hL0
 go_enter Tryz.func149,Tryz.ntmps149
 go_wp2
 go_loopw [10] (fun i wr=>∃ (k:Nat) (M:List Nat),k<=n/\i=.int .i64 k/\Row wr b M/\Dig M/\Turned L M o (k+1)/\Only b w wr/\M.getD (o+k) 0<2 ^ s/\val (seg M o (k+1))=val (la.take k)*2 ^ s)
  (fun i _=>n-(intOf i).toNat)
 case atStart=>exact ⟨0,L,qI _,rfl,hr,hd,Turned.refl _ _ _,Only.refl _ _,by rw [Nat.add_zero,HL0.out];exact jF (by omega),by
  rw [val_seg_succ L o 0 (by omega),Nat.add_zero,HL0.out,seg_zero];simp [val]⟩
 case round =>
  obtain ⟨k,M,hk,rfl,hrM,hdM,hT,hO,hlow,hinv⟩:=hrel;have Hinv:Hid (val (seg M o (k+1))=val (la.take k)*2 ^ s):=hinv;clear hinv;have hML:M.length=L.length:=hT.1
  by_cases hlt:k<n
  ·have hsr:=hs.only hO hne
   rcases hsr with ⟨_,rfl⟩ | ⟨g,o2,rfl,hg,hcell⟩
   ·have:=Hm.out;simp at this;omega
   ·have hcl:=hcell k (by rw [Hm.out];exact hlt)
    have hcM:=hrM.cell (o+k) (by omega);have hfz:=hrM.frozen (o+k);have hcM2:=hrM.cell (o+(k+1)) (by omega);have hfz2:=hrM.frozen (o+(k+1));have hdig:=hda.getD k;obtain ⟨x,hx⟩:∃ d,la.getD k 0=d:=⟨_,rfl⟩;obtain ⟨y,hy⟩:∃ y,M.getD (o+k) 0=y:=⟨_,rfl⟩;obtain ⟨y2,hy2⟩:∃ y,M.getD (o+(k+1)) 0=y:=⟨_,rfl⟩;rw [hx] at hcl hdig;rw [hy] at hcM hlow;rw [hy2] at hcM2;have Hx:Hid (la.getD k 0=x):=hx;have Hy:Hid (M.getD (o+k) 0=y):=hy;have HML:Hid (M.length=L.length):=hML;obtain ⟨z,q,hz,hq,Hz,hor,hshr⟩:=shl_ex x y s hdig hs63 hlow;clear hx hy hcell hML hy2 hlow
    go_wp2
    have hML:=HML.out;have hstep:=shift_step (by omega) Hy.out Hz.out _ Hinv.out
    go_roundw
    case rel=>exact ⟨k+1,(M.set (o+k) z).set (o+(k+1)) q,by omega,by go_num,(hrM.set _ _).set _ _,(hdM.set _ _ hz).set _ _ (qK hq (by rw [B64_pow];exact qY (by omega) (by omega))),⟨by rw [jV,jV];exact hML,fun t ht=>by rw [getD_set_ne _ _ _ _ (by omega),getD_set_ne _ _ _ _ (by omega)];exact hT.2 t (by omega)⟩,(hO.setCell _ _).setCell _ _,by rw [getD_set_eq _ _ _ (by rw [jV];omega)];exact hq,by
     rw [show k+1+1=k+2 from rfl,hstep,val_take_succ la k (by rw [Hm.out];exact hlt),Hx.out,yV,jW]⟩
    case measure=>simp [intOf];omega
  ·obtain rfl:k=n:=by omega
   clear hlow hML
   go_wp2
   go_end0
   exact ⟨M,rfl,hrM,hdM,hT,hO,by rw [<-val_take_all la,Hm.out];exact Hinv.out⟩
end Go.Proofs.YtjfomkoedgipjaaGreatDoor
