/-
  The program: the first generator that does not commute with one ahead of it; the group is filled up to the first one that hangs on those ahead of it. The program: a Pauli is read. The program: which generators an error shows at. The program: a syndrome as it is told. The reference: which generators an error shows at; generators without their signs. Paulis as two numbers, and as letters: who commutes with whom, and what is a product, is told alike by both. Nothing of the program stands here. The reference: texts without their signs (bare), the product of two but for its sign (lettersTimes).
-/
import Derived.Test.YtlechhmhmakgpaaGreatDoorS04Ij
namespace Go.Proofs.YtlechhmhmakgpaaGreatDoor
set_option maxRecDepth 100000
set_option maxHeartbeats 4000000
open Go.RowKit
open Go.RowKit Go.Maps
structure FrB (w:World) (g:Nat) (N:Int) (a:Option Addr) (n c:Nat) (mp:Option Nat):Prop where
 row:w.heap[g]?=some (.cells #[.int .i64 N,.slice a n c,.map mp] 115 (0,0))
section
variable {w w':World} {g:Nat} {N:Int} {a:Option Addr} {n c:Nat} {mp:Option Nat}
theorem FrB.lt (h:FrB w g N a n c mp):g<w.heap.size:=(gS.1 h.row).1
theorem FrB.ext (h:FrB w g N a n c mp) (k:Ext w w'):FrB w' g N a n c mp:=⟨(k.block _ h.lt).trans h.row⟩
theorem FrB.tur {B:Nat} (h:FrB w g N a n c mp) (k:Tur B w w') (hn:g≠B):FrB w' g N a n c mp:=⟨(k.block g h.lt hn).trans h.row⟩
theorem FrB.x0 (h:FrB w g N a n c mp):w.cell? ⟨g,0,none⟩=some (.int .i64 N):=by rw [cell_of_row w g 0 _ _ (0,0) h.row];rfl
theorem FrB.x1 (h:FrB w g N a n c mp):w.cell? ⟨g,1,none⟩=some (.slice a n c):=by rw [cell_of_row w g 1 _ _ (0,0) h.row];rfl
theorem FrB.x2 (h:FrB w g N a n c mp):w.cell? ⟨g,2,none⟩=some (.map mp):=by rw [cell_of_row w g 2 _ _ (0,0) h.row];rfl
end
theorem FrB.new (w:World) (N:Int) (a:Option Addr) (n c:Nat) (mp:Option Nat):FrB (w.alloc (.cells #[.int .i64 N,.slice a n c,.map mp] 115)) w.heap.size N a n c mp:=⟨heap_alloc_new w _⟩
def fstI (f:Nat->Bool):Nat->Nat->Int
 | 0,_=>-1
 | k+1,i=>if f i then (i:Int) else fstI f k (i+1)
theorem fstI_yes {f:Nat->Bool} {k i:Nat} (h:f i=true):fstI f (k+1) i=(i:Int):=by rw [fstI,if_pos h]
theorem fstI_no {f:Nat->Bool} {k i:Nat} (h:f i=false):fstI f (k+1) i=fstI f k (i+1):=by rw [fstI,if_neg (by rw [h];decide)]
def apAt (l:List PK) (i:Nat):Bool:=match l[i]? with
 | some q=>(l.take i).any (fun p=>!(cmB p q))
 | none=>false
def apI (l:List PK):Int:=fstI (apAt l) l.length 0
theorem firstApart_any (l:List PK) (N:Int) (ao:Option Addr) (n c:Nat) (mp:Option Nat) (w:World) (hl:PsAt w ao n l) (hn:n<=4096) (hc:n<=c) (hcm:c<=9223372036854775807) :
  Calls Tryz.prog 105 #[.agg #[.int .i64 N,.slice ao n c,.map mp]] w fun e w'=>e=.returned (.int .i64 (apI l))/\Ext w w':=by
 obtain ⟨U,hU⟩:∃ U,w.alloc (.cells #[.int .i64 N,.slice ao n c,.map mp] 115)=U:=⟨_,rfl⟩;obtain ⟨H,hH⟩:∃ H,w.heap.size=H:=⟨_,rfl⟩
 have EU:Ext w U:=by rw [<-hU];exact ext_al _ _
 have F0:FrB U H N ao n c mp:=by rw [<-hU,<-hH];exact FrB.new w _ _ _ _ _
 obtain ⟨R,hR⟩:∃ R,apI l=R:=⟨_,rfl⟩;rw [hR];have HR:=Lh hR;have Hl:=Lh (hl.ext EU);have Hn:=Lh hn;have Hln:=Lh (show l.length=n from hl.1);have Hc:=Lh hc;have Hcm:=Lh hcm;have HEU:=Lh EU;have HF:=Lh F0;have HU:=Lh hU;have HH:=Lh hH;have k1:=F0.x1;clear hl hn hc hcm EU F0 hU hH hR
 go_enter Tryz.func105,Tryz.ntmps105
 go_upto_region 1 with fail
 rw [HU.out,HH.out];clear HU HH
 go_wp2_with fail
 clear k1
 go_loopg [3,4,5,9] n (fun kk s3 s4 s5 s9 wr=>∃ i:Nat,s9=.int .i64 (i:Int)/\i<=n/\n-i=kk/\Ext U wr/\fstI (apAt l) (n-i) i=R)
 case atStart=>exact ⟨0,rfl,Nat.zero_le _,rfl,Ext.refl _,by rw [<-HR.out,<-Hln.out];rfl⟩
 case round =>
  obtain ⟨i,rfl,hi,hkk,hX,ha⟩:=hrel;have Hkk:=Lh hkk;have HX:=Lh hX;have Ha:=Lh ha
  by_cases hin:i=n
  ·have q1:¬ (i:Int)<(n:Int):=by omega
   have Hm:Hid (R=-1):=Lh (by rw [<-Ha.out,hin,Nat.sub_self];rfl);clear hkk hi hX ha hin
   go_wp2_with fail
   go_ret
   exact ⟨congrArg (fun b=>Ending.returned (Value.int .i64 b)) Hm.out.symm,HEU.out.trans HX.out⟩
  have hlt:i<n:=by omega
  have q1:(i:Int)<(n:Int):=by omega
  have q0:(0:Int)<=(i:Int):=by omega
  have q2:(i:Int)<=(n:Int):=by omega
  have q3:(i:Int)<=(c:Int):=by have:=Hc.out;omega
  have wk:IntKind.i64.wrap ((i:Int)+1)=((i+1:Nat):Int):=by rw [IntKind.wrap_i64];have:=Hn.out;omega
  obtain ⟨q,hq⟩:∃ q,l[i]?=some q:=⟨_,List.getElem?_eq_getElem (by have:=Hln.out;omega)⟩;have hlr:=Hl.out.ext hX;obtain ⟨b,o,rfl,hb,hcells⟩:=hlr.2.resolve_left (by omega);obtain ⟨c0,c1,c2⟩:=hcells i q hq;obtain ⟨W3,hW3⟩:∃ W3,wr.alloc (.cells #[.int .u16 (q.x:Int),.int .u16 (q.z:Int),.bool q.m] 103)=W3:=⟨_,rfl⟩;obtain ⟨G,hG⟩:∃ G,wr.heap.size=G:=⟨_,rfl⟩
  have E3:Ext wr W3:=by rw [<-hW3];exact ext_al _ _
  have Pq:PuB W3 G q.x q.z q.m:=by rw [<-hW3,<-hG];exact PuB.new wr _ _ _
  have HCf:=Lh (fun c'=>containsFunc_any (l.take i) q G (some ⟨b,o,none⟩) i c' W3 ((hlr.take (by omega)).ext E3) (by have:=Hn.out;omega) Pq);obtain ⟨B,hB⟩:∃ B,(l.take i).any (fun p=>!(cmB p q))=B:=⟨_,rfl⟩;rw [hB] at HCf;have Hap:=Lh (show apAt l i=B by unfold apAt;rw [hq];exact hB);have HE3:=Lh (HX.out.trans E3);have HW3:=Lh hW3;have Hlt:=Lh hlt;have HF3:=Lh (HF.out.ext (hX.trans E3));obtain ⟨d,hd⟩:∃ d,n-i=d+1:=⟨n-i-1,by omega⟩;have Hd:=Lh hd;clear hkk hi hX ha hin hq hlr hcells hb hlt hB E3 Pq hW3 hd
  go_upto_region 4 with fail
  rw [HW3.out];clear c0 c1 c2 HW3 hG;have k1:=HF3.out.x1
  go_wp2_with fail
  refine (HCf.out _).mono ?_;rintro e w1 ⟨rfl,h1⟩;have H1:=Lh (HE3.out.trans h1);clear h1 k1 HCf
  cases B
  ·go_wp2_with fail
   go_roundg (n-(i+1))
   case measure=>have:=Hkk.out;have:=Hlt.out;omega
   case rel=>exact ⟨i+1,rfl,Hlt.out,rfl,H1.out,by rw [<-Ha.out,Hd.out,fstI_no Hap.out];congr 1;have:=Hd.out;omega⟩
  ·have Hm:Hid (R=(i:Int)):=Lh (by rw [<-Ha.out,Hd.out,fstI_yes Hap.out])
   go_wp2_with fail
   go_ret
   exact ⟨congrArg (fun b=>Ending.returned (Value.int .i64 b)) Hm.out.symm,HEU.out.trans H1.out⟩
def gsL (l:List PK):List (Nat × Nat):=l.foldl (fun out g=>out++out.map (fun q=>(q.1 ^^^ g.x,q.2 ^^^ g.z))) [(0,0)]
theorem gsL_snoc (l:List PK) (g:PK):gsL (l++[g])=gsL l++(gsL l).map (fun q=>(q.1 ^^^ g.x,q.2 ^^^ g.z)):=by
 unfold gsL;rw [List.foldl_append]
 rfl
def SamS (keys:List (Nat × Nat)) (l:List PK):Prop:=∀ p,p ∈ keys↔p ∈ gsL l
theorem SamS.step {keys new:List (Nat × Nat)} {l:List PK} {g:PK} (h:SamS keys l) (hn:NewBy keys new g.x g.z):SamS (keys++new) (l++[g]):=fun p=>by
 rw [gsL_snoc,List.mem_append,List.mem_append,h p,hn p,List.mem_map]
 constructor
 ·rintro (h1 | ⟨q,hq,rfl⟩)
  ·exact Or.inl h1
  ·exact Or.inr ⟨q,(h q).1 hq,rfl⟩
 ·rintro (h1 | ⟨q,hq,rfl⟩)
  ·exact Or.inl h1
  ·exact Or.inr ⟨q,(h q).2 hq,rfl⟩
def dpAt (l:List PK) (i:Nat):Bool:=match l[i]? with
 | some q=>decide ((q.x,q.z) ∈ gsL (l.take i))
 | none=>false
def dpI (l:List PK):Int:=fstI (dpAt l) l.length 0
theorem fstI_ne (f:Nat->Bool):∀ k i,fstI f k i=-1->∀ j,i<=j->j<i+k->f j=false
 | 0,i,_,j,h1,h2=>by omega
 | k+1,i,h,j,h1,h2=>by
  by_cases e:f i=true
  ·rw [fstI_yes e] at h;omega
  ·have e':f i=false:=by simpa using e
   rw [fstI_no e'] at h
   by_cases ej:j=i
   ·rw [ej];exact e'
   ·exact fstI_ne f k (i+1) h j (by omega) (by omega)
theorem fillGroup_any (l:List PK) (N:Int) (ao:Option Addr) (n c B:Nat) (keys:List (Nat × Nat)) (w:World) (hl:PsAt w ao n l) (hn:n<=12) (hM:GrpM w B keys) (hk1:keys.length<=1) (hS:SamS keys []) :
  Calls Tryz.prog 106 #[.agg #[.int .i64 N,.slice ao n c,.map (some B)]] w fun e w'=>e=.returned (.int .i64 (dpI l))/\Tur B w w'/\(dpI l=-1->∃ keys',GrpM w' B keys'/\SamS keys' l):=by
 obtain ⟨U,hU⟩:∃ U,w.alloc (.cells #[.int .i64 N,.slice ao n c,.map (some B)] 115)=U:=⟨_,rfl⟩;obtain ⟨H,hH⟩:∃ H,w.heap.size=H:=⟨_,rfl⟩
 have EU:Ext w U:=by rw [<-hU];exact ext_al _ _
 have F0:FrB U H N ao n c (some B):=by rw [<-hU,<-hH];exact FrB.new w _ _ _ _ _
 have hHB:H≠B:=by have:=hM.lt;omega
 obtain ⟨R,hR⟩:∃ R,dpI l=R:=⟨_,rfl⟩;rw [hR];have HR:=Lh hR;have Hl:=Lh (hl.ext EU);have Hn:=Lh hn;have Hln:=Lh (show l.length=n from hl.1);have HEU:=Lh EU;have HF:=Lh F0;have HU:=Lh hU;have HH:=Lh hH;have HHB:=Lh hHB;have HM:=Lh (hM.ext EU);have Hk1:=Lh hk1;have HS:=Lh hS;have HiB:=Lh (hM.ext EU).is;have k1:=F0.x1;clear hl hn hM hk1 hS EU F0 hU hH hR hHB
 go_enter Tryz.func106,Tryz.ntmps106
 go_upto_region 1 with fail
 rw [HU.out,HH.out];clear HU HH
 go_wp2_with fail
 clear k1
 go_loopg [3,4,8] n (fun kk s3 s4 s8 wr=>∃ (i:Nat) (ks:List (Nat × Nat)),s8=.int .i64 (i:Int)/\i<=n/\n-i=kk/\Tur B U wr/\fstI (dpAt l) (n-i) i=R/\GrpM wr B ks/\ks.length<=2 ^ i/\SamS ks (l.take i))
 case atStart=>exact ⟨0,keys,rfl,Nat.zero_le _,rfl,Tur.refl _ _,by rw [<-HR.out,<-Hln.out];rfl,HM.out,Hk1.out,HS.out⟩
 case round =>
  obtain ⟨i,ks,rfl,hi,hkk,hX,ha,hG,hkl,hks⟩:=hrel;have Hkk:=Lh hkk;have HX:=Lh hX;have Ha:=Lh ha;have HG:=Lh hG;have Hkl:=Lh hkl;have Hks:=Lh hks
  by_cases hin:i=n
  ·have q1:¬ (i:Int)<(n:Int):=by omega
   have Hm:Hid (R=-1):=Lh (by rw [<-Ha.out,hin,Nat.sub_self];rfl);have hst:l.take i=l:=List.take_of_length_le (by have:=Hln.out;omega);rw [hst] at Hks;clear hkk hi hX ha hin hG hkl hks hst
   go_wp2_with fail
   go_ret
   exact ⟨congrArg (fun b=>Ending.returned (Value.int .i64 b)) Hm.out.symm,(Tur.of_ext HEU.out).trans HX.out,fun _=>⟨ks,HG.out,Hks.out⟩⟩
  have hlt:i<n:=by omega
  have q1:(i:Int)<(n:Int):=by omega
  have q0:(0:Int)<=(i:Int):=by omega
  have wk:IntKind.i64.wrap ((i:Int)+1)=((i+1:Nat):Int):=by rw [IntKind.wrap_i64];have:=Hn.out;omega
  obtain ⟨q,hq⟩:∃ q,l[i]?=some q:=⟨_,List.getElem?_eq_getElem (by have:=Hln.out;omega)⟩;have hlr:=hX.ps Hl.out HiB.out;obtain ⟨b,o,rfl,hb,hcells⟩:=hlr.2.resolve_left (by omega);obtain ⟨c0,c1,c2⟩:=hcells i q hq;obtain ⟨W3,hW3⟩:∃ W3,wr.alloc (.cells #[.int .u16 (q.x:Int),.int .u16 (q.z:Int),.bool q.m] 103)=W3:=⟨_,rfl⟩;obtain ⟨G,hGG⟩:∃ G,wr.heap.size=G:=⟨_,rfl⟩
  have E3:Ext wr W3:=by rw [<-hW3];exact ext_al _ _
  have Pq:PuB W3 G q.x q.z q.m:=by rw [<-hW3,<-hGG];exact PuB.new wr _ _ _
  have hb4096:ks.length<=4096:=Nat.le_trans hkl (Nat.le_trans (Nat.pow_le_pow_right (by decide) (show i<=12 by have:=Hn.out;omega)) (by decide));have Hha:=Lh (has_any B ks q.x q.z q.m W3 (hG.ext E3) q.hx q.hz);have Hgr:=Lh (fun wx (hx:Ext W3 wx)=>grow_any B ks q.x q.z q.m wx ((hG.ext E3).ext hx) q.hx q.hz (by omega));unfold pv at Hha Hgr;obtain ⟨Bb,hBb⟩:∃ Bb,decide ((q.x,q.z) ∈ ks)=Bb:=⟨_,rfl⟩;rw [hBb] at Hha
  have Hap:=Lh (show dpAt l i=Bb by
   unfold dpAt;rw [hq,<-hBb]
   exact decide_eq_decide.2 (hks _).symm)
  have HE3:=Lh E3;have HW3:=Lh hW3;have Hlt:=Lh hlt;have HF3:=Lh ((HF.out.tur hX HHB.out).ext E3);have HPq:=Lh Pq;have Htk:=Lh (show l.take (i+1)=l.take i++[q] by rw [List.take_add_one,hq];rfl);obtain ⟨d,hd⟩:∃ d,n-i=d+1:=⟨n-i-1,by omega⟩;have Hd:=Lh hd;clear hkk hi hX ha hin hq hlr hcells hb hlt hBb E3 Pq hW3 hd hG hkl hks hb4096
  go_upto_region 4 with fail
  rw [HW3.out];clear c0 c1 c2 HW3 hGG;have k2:=HF3.out.x2;have p0:=HPq.out.x0;have p1:=HPq.out.x1;have p2:=HPq.out.x2
  go_wp2_with fail
  refine Hha.out.mono ?_;rintro e w1 ⟨rfl,h1⟩;have H1:=Lh h1;clear h1 k2 p0 p1 p2 Hha
  cases Bb
  ·have k2:=(HF3.out.ext H1.out).x2;have p0:=(HPq.out.ext H1.out).x0;have p1:=(HPq.out.ext H1.out).x1;have p2:=(HPq.out.ext H1.out).x2
   go_wp2_with fail
   refine (Hgr.out w1 H1.out).mono ?_;rintro e w2 ⟨⟨v,rfl⟩,hT,new,hG2,hnl,hnb⟩;have HT:=Lh ((HX.out.trans (Tur.of_ext (HE3.out.trans H1.out))).trans hT);have HG2:=Lh hG2;have Hnl:=Lh hnl;have Hnb:=Lh hnb;clear hT hG2 hnl hnb k2 p0 p1 p2 Hgr
   go_wp2_with fail
   go_roundg (n-(i+1))
   case measure=>have:=Hkk.out;have:=Hlt.out;omega
   case rel=>exact ⟨i+1,ks++new,rfl,Hlt.out,rfl,HT.out,by rw [<-Ha.out,Hd.out,fstI_no Hap.out];congr 1;have:=Hd.out;omega,HG2.out,by rw [List.length_append,Nat.pow_succ];have:=Hnl.out;have:=Hkl.out;omega,by rw [Htk.out];exact Hks.out.step Hnb.out⟩
  ·have Hm:Hid (R=(i:Int)):=Lh (by rw [<-Ha.out,Hd.out,fstI_yes Hap.out])
   go_wp2_with fail
   go_ret
   exact ⟨congrArg (fun b=>Ending.returned (Value.int .i64 b)) Hm.out.symm,(Tur.of_ext HEU.out).trans (HX.out.trans (Tur.of_ext (HE3.out.trans H1.out))),fun h=>by have:=Hm.out;omega⟩
def paX (n:Nat) (T:List UInt8):Nat:=if isP n T then nX (T.drop 1) else 0
def paZ (n:Nat) (T:List UInt8):Nat:=if isP n T then nZz (T.drop 1) else 0
def paM (n:Nat) (T:List UInt8):Bool:=isP n T && (T.headD 0 == 45)
theorem PuB.f {w:World} {g x z:Nat} {m:Bool} (h:PuB w g x z m) (k:Nat):w.frozen? ⟨g,k,none⟩=false:=frozen_of_row w g k _ _ h.row
theorem row3 {w:World} {g:Nat} {a b c:Value} (h:w.heap[g]?=some (.cells #[a,b,c] 103 (0,0))) (a' b' c':Value):(((w.setCell ⟨g,0,none⟩ a').setCell ⟨g,1,none⟩ b').setCell ⟨g,2,none⟩ c').heap[g]?=some (.cells #[a',b',c'] 103 (0,0)):=by
 have x:=heap_setCell_same w g 0 _ _ a' h;have y:=heap_setCell_same _ g 1 _ _ b' x;have z:=heap_setCell_same _ g 2 _ _ c' y
 simpa using z
theorem cells3 {w:World} {g:Nat} {a b c:Value} (h:w.heap[g]?=some (.cells #[a,b,c] 103 (0,0))):w.cell? ⟨g,0,none⟩=some a/\w.cell? ⟨g,1,none⟩=some b/\w.cell? ⟨g,2,none⟩=some c/\∀ k,w.frozen? ⟨g,k,none⟩=false :=
 ⟨by rw [cell_of_row w g 0 _ _ (0,0) h];rfl,by rw [cell_of_row w g 1 _ _ (0,0) h];rfl,by rw [cell_of_row w g 2 _ _ (0,0) h];rfl,fun k=>frozen_of_row w g k _ _ h⟩
theorem put3x {w w':World} {g:Nat} (h:Ext w w') (hg:w.heap.size<=g) (a b c:Value):Ext w (((w'.setCell ⟨g,0,none⟩ a).setCell ⟨g,1,none⟩ b).setCell ⟨g,2,none⟩ c):=Below.setCell (Below.setCell (Below.setCell h (p:=⟨g,0,none⟩) hg a) (p:=⟨g,1,none⟩) hg b) (p:=⟨g,2,none⟩) hg c
theorem PuB.put0 {w:World} {g x z:Nat} {m:Bool} (h:PuB w g x z m) (x':Nat):PuB (w.setCell ⟨g,0,none⟩ (.int .u16 (x':Int))).drew g x' z m:=⟨by
 have a:=heap_setCell_same w g 0 _ _ (.int .u16 (x':Int)) h.row
 have b:(w.setCell ⟨g,0,none⟩ (.int .u16 (x':Int))).heap[g]?=some (.cells #[.int .u16 (x':Int),.int .u16 (z:Int),.bool m] 103 (0,0)):=by simpa using a
 exact b⟩
theorem PuB.put1 {w:World} {g x z:Nat} {m:Bool} (h:PuB w g x z m) (z':Nat):PuB (w.setCell ⟨g,1,none⟩ (.int .u16 (z':Int))).drew g x z' m:=⟨by
 have a:=heap_setCell_same w g 1 _ _ (.int .u16 (z':Int)) h.row
 have b:(w.setCell ⟨g,1,none⟩ (.int .u16 (z':Int))).heap[g]?=some (.cells #[.int .u16 (x:Int),.int .u16 (z':Int),.bool m] 103 (0,0)):=by simpa using a
 exact b⟩
theorem put1x {w w':World} {g k:Nat} (h:Ext w w') (hg:w.heap.size<=g) (a:Value):Ext w (w'.setCell ⟨g,k,none⟩ a).drew:=Below.drew (Below.setCell h (p:=⟨g,k,none⟩) hg a)
theorem lno_parts (y:UInt8):lno y % 2=(if lx y then 1 else 0)/\lno y / 2=(if lz y then 1 else 0)/\lno y<4:=by
 unfold lno
 split<;>split<;>omega
theorem and_one {k:Nat} (h:k<4):bits .and .i64 (k:Int) 1=((k % 2:Nat):Int):=by
 match k,h with
 | 0,_=>decide
 | 1,_=>decide
 | 2,_=>decide
 | 3,_=>decide
theorem wrapu {k:Nat} (h:k<65536):IntKind.u16.wrap (k:Int)=(k:Int):=by
 rw [show IntKind.u16.wrap (k:Int)=((k:Int) % 65536) from rfl];omega
theorem ixb {y:UInt8} (h:isL y=true):Lib.indexByte [73,88,90,89] y=(lno y:Int):=by
 rcases isL_cases h with rfl | rfl | rfl | rfl<;>decide
theorem ixb_no {y:UInt8} (h:isL y=false):Lib.indexByte [73,88,90,89] y=-1:=by
 unfold isL at h;simp only [Bool.or_eq_false_iff,beq_eq_false_iff_ne] at h;obtain ⟨⟨⟨h1,h2⟩,h3⟩,h4⟩:=h
 have f:∀ k:UInt8,y≠k->(k == y)=false:=fun k hk=>beq_eq_false_iff_ne.2 (fun e=>hk e.symm)
 simp [Lib.indexByte,f 73 h1,f 88 h2,f 89 h3,f 90 h4]
theorem or_u16 {x y:Nat} (hx:x<65536) (hy:y<65536):bits .or .u16 (x:Int) (y:Int)=((x ||| y:Nat):Int):=by
 show IntKind.u16.wrap ((BitVec.ofInt 16 (x:Int) ||| BitVec.ofInt 16 (y:Int)).toNat:Int)=_
 rw [BitVec.toNat_or,u16_bv hx,u16_bv hy];have:x ||| y<2 ^ 16:=Nat.or_lt_two_pow (n:=16) hx hy;rw [show IntKind.u16.wrap ((x ||| y:Nat):Int)=(((x ||| y:Nat):Int) % 65536) from rfl];omega
theorem or_plus {a i:Nat} (b:Nat) (h:a<2 ^ i):a ||| (b*2 ^ i)=a+b*2 ^ i:=by
 rw [Nat.or_comm,Nat.mul_comm,<-Nat.two_pow_add_eq_or_of_lt h,Nat.add_comm]
theorem pParse_any (T:List UInt8) (n:Nat) (w:World) (hn1:1<=n) (hn:n<=12) (hT:T.length<=9223372036854775807) :
  Calls Tryz.prog 59 #[.string ⟨T.toArray⟩,.int .i64 (n:Int)] w fun e w'=>e=.returned (.tuple #[.agg #[.int .u16 (paX n T:Int),.int .u16 (paZ n T:Int),.bool (paM n T)],.bool (isP n T)])/\Ext w w':=by
 have hsT:(⟨T.toArray⟩:ByteArray).size=T.length:=by simp [ByteArray.size]
 obtain ⟨B,hB⟩:∃ B,isP n T=B:=⟨_,rfl⟩;obtain ⟨X,hX⟩:∃ X,paX n T=X:=⟨_,rfl⟩;obtain ⟨Z,hZ⟩:∃ Z,paZ n T=Z:=⟨_,rfl⟩;obtain ⟨M,hM⟩:∃ M,paM n T=M:=⟨_,rfl⟩;have H1:=Lh (show T.length≠n+1->B=false from fun h=>by rw [<-hB];unfold isP;rw [decide_eq_false h];rfl);have H2:=Lh (show T.headD 0≠43->T.headD 0≠45->B=false from fun h k=>by rw [<-hB];unfold isP;rw [show (T.headD 0 == 43)=false from beq_eq_false_iff_ne.2 h,show (T.headD 0 == 45)=false from beq_eq_false_iff_ne.2 k];simp)
 have H3:=Lh (show ∀ (i:Nat) (y:UInt8),(T.drop 1)[i]?=some y->isL y=false->B=false from fun i y h1 h2=>by
  rw [<-hB]
  by_cases e:isP n T=false
  ·exact e
  ·exfalso
   have:=(isP_iff.1 (by simpa using e)).2.2 y (List.mem_of_getElem? h1);rw [h2] at this
   exact absurd this (by decide))
 have H4:=Lh (show T.length=n+1->(T.headD 0=43\/T.headD 0=45)->(∀ c ∈ T.drop 1,isL c=true)->B=true/\X=nX (T.drop 1)/\Z=nZz (T.drop 1)/\M=(T.headD 0 == 45) from fun h1 h2 h3=>by
  have h:=isP_iff.2 ⟨h1,h2,h3⟩
  refine ⟨by rw [<-hB];exact h,by rw [<-hX];unfold paX;rw [if_pos h],by rw [<-hZ];unfold paZ;rw [if_pos h],by rw [<-hM];unfold paM;rw [h];rfl⟩)
 have H5:=Lh (show B=false->X=0/\Z=0/\M=false from fun h=>by
  have h':isP n T=false:=hB.trans h
  refine ⟨by rw [<-hX];unfold paX;rw [h'];rfl,by rw [<-hZ];unfold paZ;rw [h'];rfl,by rw [<-hM];unfold paM;rw [h'];rfl⟩)
 rw [hB,hX,hZ,hM];clear hB hX hZ hM;obtain ⟨H,hH⟩:∃ H,w.heap.size=H:=⟨_,rfl⟩;obtain ⟨W0,hW0⟩:∃ W0,w.alloc (.cells #[.int .u16 0,.int .u16 0,.bool false] 103)=W0:=⟨_,rfl⟩
 have E0:Ext w W0:=by rw [<-hW0];exact ext_al _ _
 have P0:W0.heap[H]?=some (.cells #[.int .u16 0,.int .u16 0,.bool false] 103 (0,0)):=by rw [<-hW0,<-hH];exact heap_alloc_new w _
 have HR0:=Lh P0;have HE0:=Lh E0;have HW0:=Lh hW0;have HH:=Lh hH;have HwH:=Lh (show w.heap.size<=H by omega);clear P0 E0 hW0 hH
 go_enter Tryz.func59,Tryz.ntmps59
 go_upto_region 1 with fail
 rw [HW0.out,HH.out];clear HW0 HH
 have hv:IntKind.i64.wrap ((n:Int)+1)=(n:Int)+1:=by rw [IntKind.wrap_i64];omega
 by_cases n2:T.length=n+1
 rotate_left 1
 ·have q2:((T.length:Int) != (n:Int)+1)=true:=nt (by omega)
  have hB:=H1.out n2;obtain ⟨rfl,rfl,rfl⟩:=H5.out hB;subst hB;obtain ⟨c0,c1,c2,f⟩:=cells3 HR0.out;have f0:=f 0;have f1:=f 1;have f2:=f 2;obtain ⟨z0,z1,z2,_⟩:=cells3 (row3 HR0.out (.int .u16 0) (.int .u16 0) (.bool false));have HEz:=Lh (put3x HE0.out HwH.out (.int .u16 0) (.int .u16 0) (.bool false));clear H1 H2 H3 H4 H5 n2 f
  go_upto_region 2 with fail
  go_wp2_with fail
  exact bodyPost_ret (v:=.tuple #[.agg #[.int .u16 0,.int .u16 0,.bool false],.bool false]) (by simp [results,Tryz.results59,go_sem,z0,z1,z2]) rfl ⟨rfl,HEz.out⟩
 have HTl:=Lh n2;have q2:((T.length:Int) != (n:Int)+1)=false:=nf' (by omega);obtain ⟨x,hx⟩:∃ x,T[0]?=some x:=⟨_,List.getElem?_eq_getElem (by omega)⟩;have hsz0:0<(⟨T.toArray⟩:ByteArray).size:=str_lt (by omega)
 have hsz1:(0:Int)<(T.length:Int):=by omega
 have hg0:=let_at hx hsz0;have hhd:=head_at hx;rw [hhd] at H2 H4
 by_cases n3:x=43\/x=45
 rotate_left 1
 ·have q3:((x.toNat:Int) != 43)=true:=nt (u8_ne (k:=43) (by decide) (fun e=>n3 (Or.inl e)))
  have q4:((x.toNat:Int) != 45)=true:=nt (u8_ne (k:=45) (by decide) (fun e=>n3 (Or.inr e)));have hB:=H2.out (fun e=>n3 (Or.inl e)) (fun e=>n3 (Or.inr e));obtain ⟨rfl,rfl,rfl⟩:=H5.out hB;subst hB;obtain ⟨c0,c1,c2,f⟩:=cells3 HR0.out;have f0:=f 0;have f1:=f 1;have f2:=f 2;obtain ⟨z0,z1,z2,_⟩:=cells3 (row3 HR0.out (.int .u16 0) (.int .u16 0) (.bool false));have HEz:=Lh (put3x HE0.out HwH.out (.int .u16 0) (.int .u16 0) (.bool false));clear H1 H2 H3 H4 H5 n2 n3 hx hhd f
  go_upto_region 2 with fail
  go_wp2_with fail
  exact bodyPost_ret (v:=.tuple #[.agg #[.int .u16 0,.int .u16 0,.bool false],.bool false]) (by simp [results,Tryz.results59,go_sem,z0,z1,z2]) rfl ⟨rfl,HEz.out⟩
 have Hmid:=Lh (fun h=>H4.out n2 n3 h);have Hg0:=Lh hg0;obtain ⟨mi,hmi⟩:∃ mi:Bool,(x == 45)=mi:=⟨_,rfl⟩;rw [hmi] at Hmid
 have hq5:((x.toNat:Int) == 45)=mi:=by rw [<-hmi];exact u8_eqb x 45
 clear H1 H2 H4 n2 hhd hx hmi
 go_cut [23] from 9 to 23 (fun s23 wx=>W0=wx/\s23=.bool false)
 case first =>
  rcases n3 with rfl | rfl
  ·have hg1':((⟨T.toArray⟩:ByteArray)[0]'hsz0).toNat=43:=hg0
   clear hg0
   go_wp2_with fail
   go_meet
   exact ⟨rfl,rfl⟩
  ·have hg1':((⟨T.toArray⟩:ByteArray)[0]'hsz0).toNat=45:=hg0
   clear hg0
   go_wp2_with fail
   go_meet
   exact ⟨rfl,rfl⟩
 case rest =>
 obtain ⟨rfl,rfl⟩:=hcut;clear q2 n3;obtain ⟨W1,hW1⟩:∃ W1,W0.alloc (.cells #[.int .u16 0,.int .u16 0,.bool mi] 103)=W1:=⟨_,rfl⟩;obtain ⟨G,hG⟩:∃ G,W0.heap.size=G:=⟨_,rfl⟩
 have E1:Ext W0 W1:=by rw [<-hW1];exact ext_al _ _
 have P1:PuB W1 G 0 0 mi:=⟨by rw [<-hW1,<-hG];exact heap_alloc_new W0 _⟩;have HX1:=Lh E1;have HE1:=Lh (HE0.out.trans E1);have HP1:=Lh P1;have HW1:=Lh hW1;have HR1:=Lh ((E1.block H (gS.1 HR0.out).1).trans HR0.out);have HGe:=Lh (show W0.heap.size=G from hG);have HHG:=Lh (show H<G by rw [<-hG];exact (gS.1 HR0.out).1);clear E1 P1 hW1
 go_upto_region 4 with fail
 rw [HW1.out];clear HW1 hG hg0 hq5
 go_wp2_with fail
 go_loopg [7,8,30] n (fun kk s7 s8 s30 wr=>∃ i:Nat,s30=.int .i64 (i:Int)/\i<=n/\n-i=kk/\PuB wr G (nX ((T.drop 1).take i)) (nZz ((T.drop 1).take i)) mi/\Ext W0 wr/\Ext w wr/\∀ c ∈ (T.drop 1).take i,isL c=true)
 case atStart=>exact ⟨0,rfl,Nat.zero_le _,rfl,by simpa [nX,nZz] using HP1.out,HX1.out,HE1.out,fun c hc=>by simp at hc⟩
 case round =>
  obtain ⟨i,rfl,hi,hkk,hP,hX,hE,hall⟩:=hrel;have Hkk:=Lh hkk;have HP:=Lh hP;have HX:=Lh hX;have HE:=Lh hE;have Hall:=Lh hall;have HRr:=Lh ((hX.block H (gS.1 HR0.out).1).trans HR0.out)
  by_cases hin:i=n
  ·have q1:¬ (i:Int)<(n:Int):=by omega
   have hst:(T.drop 1).take i=T.drop 1:=List.take_of_length_le (by rw [List.length_drop];have:=HTl.out;omega);rw [hst] at HP Hall;obtain ⟨hB,hX',hZ',hM'⟩:=Hmid.out Hall.out;rw [<-hX',<-hZ'] at HP;subst hB;subst hM';obtain ⟨c0,c1,c2,f⟩:=cells3 HRr.out;have f0:=f 0;have f1:=f 1;have f2:=f 2;have p0:=HP.out.x0;have p1:=HP.out.x1;have p2:=HP.out.x2;obtain ⟨z0,z1,z2,_⟩:=cells3 (row3 HRr.out (.int .u16 (X:Int)) (.int .u16 (Z:Int)) (.bool M));have HEz:=Lh (put3x HE.out HwH.out (.int .u16 (X:Int)) (.int .u16 (Z:Int)) (.bool M));clear hkk hi hP hX hE hall hst hin f hX' hZ' H3 H5 Hmid
   go_wp2_with fail
   exact bodyPost_ret (v:=.tuple #[.agg #[.int .u16 (X:Int),.int .u16 (Z:Int),.bool M],.bool true]) (by simp [results,Tryz.results59,go_sem,z0,z1,z2]) rfl ⟨rfl,HEz.out⟩
  have hlt:i<n:=by omega
  have q1:(i:Int)<(n:Int):=by omega
  have q0:(0:Int)<=(i:Int)+1:=by omega
  have q00:(0:Int)<=(i:Int):=by omega
  have q9:(i:Int)+1<(T.length:Int):=by have:=HTl.out;omega
  have wk:IntKind.i64.wrap ((i:Int)+1)=(i:Int)+1:=by rw [IntKind.wrap_i64];omega
  obtain ⟨y,hy⟩:∃ y,(T.drop 1)[i]?=some y:=⟨_,List.getElem?_eq_getElem (by rw [List.length_drop];have:=HTl.out;omega)⟩
  have hy':T[i+1]?=some y:=by rw [List.getElem?_drop] at hy;rw [show i+1=1+i by omega];exact hy
  have hsy:i+1<(⟨T.toArray⟩:ByteArray).size:=str_lt (by have:=HTl.out;omega);have hgy:=let_at hy' hsy
  have htn:((i:Int)+1).toNat=i+1:=by omega
  have HIx:=Lh (fun wx=>Tryz.strings_IndexByte ⟨#[73,88,90,89]⟩ (y.toNat:Int) wx)
  have hyy:((y.toNat:Int)).toNat.toUInt8=y:=by simp
  rw [hyy] at HIx;have Hy:=Lh hy;have Hlt:=Lh hlt
  by_cases hL:isL y=true
  rotate_left 1
  ·have hLf:isL y=false:=by simpa using hL
   have hB:=H3.out i y hy hLf;obtain ⟨rfl,rfl,rfl⟩:=H5.out hB;subst hB;rw [show ((⟨#[73,88,90,89]⟩:ByteArray).data.toList)=[73,88,90,89] from rfl,ixb_no hLf] at HIx;obtain ⟨c0,c1,c2,f⟩:=cells3 HRr.out;have f0:=f 0;have f1:=f 1;have f2:=f 2;obtain ⟨z0,z1,z2,_⟩:=cells3 (row3 HRr.out (.int .u16 0) (.int .u16 0) (.bool false));have HEz:=Lh (put3x HE.out HwH.out (.int .u16 0) (.int .u16 0) (.bool false));clear hkk hi hP hX hE hall hin f H3 H5 Hmid hL hLf hy hy' hyy hlt
   go_wp2_with fail
   refine (HIx.out wr).mono ?_;rintro e w1 ⟨rfl,rfl⟩;clear HIx
   go_wp2_with fail
   exact bodyPost_ret (v:=.tuple #[.agg #[.int .u16 0,.int .u16 0,.bool false],.bool false]) (by simp [results,Tryz.results59,go_sem,z0,z1,z2]) rfl ⟨rfl,HEz.out⟩
  rw [show ((⟨#[73,88,90,89]⟩:ByteArray).data.toList)=[73,88,90,89] from rfl,ixb hL] at HIx;obtain ⟨ln,hln⟩:∃ ln,lno y=ln:=⟨_,rfl⟩;rw [hln] at HIx;have hpt:=lno_parts y;rw [hln] at hpt;obtain ⟨xi,hxi⟩:∃ xi,nX ((T.drop 1).take i)=xi:=⟨_,rfl⟩;obtain ⟨zi,hzi⟩:∃ zi,nZz ((T.drop 1).take i)=zi:=⟨_,rfl⟩
  have hli:((T.drop 1).take i).length=i:=by rw [List.length_take,List.length_drop];have:=HTl.out;omega
  have bxi:xi<2 ^ i:=by have:=nX_lt ((T.drop 1).take i);rw [hli,hxi] at this;exact this
  have bzi:zi<2 ^ i:=by have:=nZz_lt ((T.drop 1).take i);rw [hli,hzi] at this;exact this
  have htk:(T.drop 1).take (i+1)=(T.drop 1).take i++[y]:=by rw [List.take_add_one,hy];rfl
  have HxN:=Lh (show nX ((T.drop 1).take (i+1))=xi+ln % 2*2 ^ i by rw [htk,nX_snoc,hxi,hli,hpt.1]);have HzN:=Lh (show nZz ((T.drop 1).take (i+1))=zi+ln / 2*2 ^ i by rw [htk,nZz_snoc,hzi,hli,hpt.2.1])
  have HaN:=Lh (show ∀ c ∈ (T.drop 1).take (i+1),isL c=true from fun c hc=>by
   rw [htk] at hc
   rcases List.mem_append.1 hc with hc | hc
   ·exact Hall.out c hc
   ·have:c=y:=by simpa using hc
    rw [this];exact hL)
  have hpw:2 ^ i<=2 ^ 11:=Nat.pow_le_pow_right (by decide) (by omega)
  have hcast:((2 ^ i:Nat):Int)=(2:Int) ^ i:=by rw [Int.natCast_pow];rfl
  obtain ⟨A,hA⟩:∃ A,ln % 2*2 ^ i=A:=⟨_,rfl⟩;obtain ⟨Bq,hBq⟩:∃ Bq,ln / 2*2 ^ i=Bq:=⟨_,rfl⟩
  have hl2:ln % 2<=1/\ln / 2<=1:=by omega
  have bA:A<=2 ^ i:=by rw [<-hA];exact Nat.le_trans (Nat.mul_le_mul_right _ hl2.1) (by omega)
  have bB:Bq<=2 ^ i:=by rw [<-hBq];exact Nat.le_trans (Nat.mul_le_mul_right _ hl2.2) (by omega)
  have o1:xi ||| A=xi+A:=by rw [<-hA];exact or_plus _ bxi
  have o2:zi ||| Bq=zi+Bq:=by rw [<-hBq];exact or_plus _ bzi
  have r1:=and_one hpt.2.2;obtain ⟨a,ha⟩:∃ a,ln % 2=a:=⟨_,rfl⟩;obtain ⟨b,hb⟩:∃ b,ln / 2=b:=⟨_,rfl⟩;have r2:IntKind.u16.wrap (a:Int)=(a:Int):=wrapu (by omega)
  have r3:IntKind.u16.wrap ((a:Int)*2 ^ i)=(A:Int):=by
   rw [<-hcast,<-Int.natCast_mul,<-ha,hA];exact wrapu (by have h11:(2:Nat) ^ 11=2048:=(by decide);omega)
  have r4:bits .or .u16 (xi:Int) (A:Int)=((xi+A:Nat):Int):=by
   rw [or_u16 (by have h11:(2:Nat) ^ 11=2048:=(by decide);omega) (by have h11:(2:Nat) ^ 11=2048:=(by decide);omega),o1]
  have s1:(ln:Int) / 2=(b:Int):=by omega
  have s2:IntKind.u16.wrap (b:Int)=(b:Int):=wrapu (by omega)
  have s3:IntKind.u16.wrap ((b:Int)*2 ^ i)=(Bq:Int):=by
   rw [<-hcast,<-Int.natCast_mul,<-hb,hBq];exact wrapu (by have h11:(2:Nat) ^ 11=2048:=(by decide);omega)
  have s4:bits .or .u16 (zi:Int) (Bq:Int)=((zi+Bq:Nat):Int):=by
   rw [or_u16 (by have h11:(2:Nat) ^ 11=2048:=(by decide);omega) (by have h11:(2:Nat) ^ 11=2048:=(by decide);omega),o2]
  rw [ha] at r1;rw [hA] at HxN;rw [hBq] at HzN;rw [hxi,hzi] at HP;obtain ⟨xn,hxn⟩:∃ xn,xi+A=xn:=⟨_,rfl⟩;obtain ⟨zn,hzn⟩:∃ zn,zi+Bq=zn:=⟨_,rfl⟩;rw [hxn] at r4 HxN;rw [hzn] at s4 HzN
  have hq4:¬ ((ln:Int)<0):=by omega
  have hq4':decide ((ln:Int)<0)=false:=decide_eq_false hq4;clear hkk hi hP hX hE hall hin H3 H5 Hmid hy hy' hyy hlt hln hpt hxi hzi hli bxi bzi htk hpw hcast hA hBq hl2 bA bB o1 o2 ha hb hxn hzn hL
  go_wp2_with fail
  refine (HIx.out wr).mono ?_;rintro e w1 ⟨rfl,hw1⟩;subst hw1;have p0:=HP.out.x0;have p1:=HP.out.x1;have p2:=HP.out.x2;have f0:=HP.out.f 0;have f1:=HP.out.f 1;have HQ0:=Lh (HP.out.put0 xn);have HwG:=Lh (show W0.heap.size<=G by have:=HGe.out;omega);have HXa:=Lh (put1x (k:=0) HX.out HwG.out (.int .u16 (xn:Int)));have HEa:=Lh (put1x (g:=G) (k:=0) HE.out (by have:=HwH.out;have:=HHG.out;omega) (.int .u16 (xn:Int)));clear HIx
  go_upto_region 10 with fail
  go_region
  clear p0 p1 p2 f0 f1 r1 r2 r3 r4;generalize (w1.setCell ⟨G,0,none⟩ (.int .u16 (xn:Int))).drew=W4 at *;have p0:=HQ0.out.x0;have p1:=HQ0.out.x1;have p2:=HQ0.out.x2;have f0:=HQ0.out.f 0;have f1:=HQ0.out.f 1;have HQ1:=Lh (HQ0.out.put1 zn);have HXb:=Lh (put1x (k:=1) HXa.out HwG.out (.int .u16 (zn:Int)));have HEb:=Lh (put1x (g:=G) (k:=1) HEa.out (by have:=HwH.out;have:=HHG.out;omega) (.int .u16 (zn:Int)))
  go_upto_region 11 with fail
  go_region
  clear p0 p1 p2 f0 f1 s1 s2 s3 s4;generalize (W4.setCell ⟨G,1,none⟩ (.int .u16 (zn:Int))).drew=W5 at *
  go_wp2_with fail
  go_roundg (n-(i+1))
  case measure=>have:=Hkk.out;have:=Hlt.out;omega
  case rel=>exact ⟨i+1,by congr 1,Hlt.out,rfl,by rw [HxN.out,HzN.out];exact HQ1.out,HXb.out,HEb.out,HaN.out⟩
def numB:List Bool->Nat
 | []=>0
 | b :: r=>(if b then 1 else 0)+2*numB r
theorem numB_lt:∀ l:List Bool,numB l<2 ^ l.length
 | []=>by simp [numB]
 | b :: r=>by
  have:=numB_lt r;rw [List.length_cons,Nat.pow_succ,numB]
  split<;>omega
theorem numB_snoc:∀ (l:List Bool) (b:Bool),numB (l++[b])=numB l+(if b then 1 else 0)*2 ^ l.length
 | [],b=>by simp [numB]
 | c :: r,b=>by
  rw [List.cons_append,numB,numB,numB_snoc r b,List.length_cons,Nat.pow_succ]
  split<;>split<;>omega
theorem numB_at:∀ (l:List Bool) (i:Nat) (b:Bool),l[i]?=some b->numB l / 2 ^ i % 2=if b then 1 else 0
 | [],i,b,h=>by simp at h
 | a :: r,0,b,h=>by
  have:a=b:=by simpa using h
  rw [this,numB,Nat.pow_zero,Nat.div_one]
  split<;>omega
 | a :: r,i+1,b,h=>by
  have ih:=numB_at r i b (by simpa using h)
  rw [numB,Nat.pow_succ,Nat.mul_comm (2 ^ i) 2,<-Nat.div_div_eq_div_mul,show ((if a=true then 1 else 0)+2*numB r) / 2=numB r by split<;>omega]
  exact ih
def shN (l:List PK) (p:PK):Nat:=numB (l.map fun g=>!(cmB p g))
theorem shown_any (l:List PK) (p:PK) (N:Int) (ao:Option Addr) (n c:Nat) (mp:Option Nat) (w:World) (hl:PsAt w ao n l) (hn:n<=12) :
  Calls Tryz.prog 109 #[.agg #[.int .i64 N,.slice ao n c,.map mp],.agg #[.int .u16 (p.x:Int),.int .u16 (p.z:Int),.bool p.m]] w fun e w'=>e=.returned (.int .u16 (shN l p:Int))/\Ext w w':=by
 obtain ⟨U1,hU1⟩:∃ U,w.alloc (.cells #[.int .i64 N,.slice ao n c,.map mp] 115)=U:=⟨_,rfl⟩;obtain ⟨U,hU⟩:∃ U,U1.alloc (.cells #[.int .u16 (p.x:Int),.int .u16 (p.z:Int),.bool p.m] 103)=U:=⟨_,rfl⟩;obtain ⟨H,hH⟩:∃ H,w.heap.size=H:=⟨_,rfl⟩
 have s1:U1.heap.size=H+1:=by rw [<-hU1,<-hH];simp
 have E1:Ext w U1:=by rw [<-hU1];exact ext_al _ _
 have E2:Ext U1 U:=by rw [<-hU];exact ext_al _ _
 have F0:FrB U H N ao n c mp:=FrB.ext (by rw [<-hU1,<-hH];exact FrB.new w _ _ _ _ _) E2
 have P0:PuB U (H+1) p.x p.z p.m:=by rw [<-hU,<-s1];exact PuB.new U1 _ _ _
 have Hl:=Lh (hl.ext (E1.trans E2));have Hn:=Lh hn;have Hln:=Lh (show l.length=n from hl.1);have HEU:=Lh (E1.trans E2);have HF:=Lh F0;have HP:=Lh P0;have HU1:=Lh hU1;have HU:=Lh hU;have HH:=Lh hH;have k1:=F0.x1;clear hl hn E1 E2 F0 P0 hU hU1 hH s1
 go_enter Tryz.func109,Tryz.ntmps109
 go_upto_region 2 with fail
 rw [HU1.out,HU.out,HH.out];clear HU1 HU HH
 go_wp2_with fail
 clear k1
 go_loopg [5,6,7,11] n (fun kk s5 s6 s7 s11 wr=>∃ i:Nat,s11=.int .i64 (i:Int)/\s5=.int .u16 (shN (l.take i) p:Int)/\i<=n/\n-i=kk/\Ext U wr)
 case atStart=>exact ⟨0,rfl,by simp [shN,numB],Nat.zero_le _,rfl,Ext.refl _⟩
 case round =>
  obtain ⟨i,rfl,rfl,hi,hkk,hX⟩:=hrel;have Hkk:=Lh hkk;have HX:=Lh hX
  by_cases hin:i=n
  ·have q1:¬ (i:Int)<(n:Int):=by omega
   have hst:l.take i=l:=List.take_of_length_le (by have:=Hln.out;omega);rw [hst];clear hkk hi hX hin hst
   go_wp2_with fail
   go_ret
   exact ⟨rfl,HEU.out.trans HX.out⟩
  have hlt:i<n:=by omega
  have q1:(i:Int)<(n:Int):=by omega
  have q0:(0:Int)<=(i:Int):=by omega
  have wk:IntKind.i64.wrap ((i:Int)+1)=((i+1:Nat):Int):=by rw [IntKind.wrap_i64];have:=Hn.out;omega
  obtain ⟨q,hq⟩:∃ q,l[i]?=some q:=⟨_,List.getElem?_eq_getElem (by have:=Hln.out;omega)⟩;obtain ⟨b,o,rfl,hb,hcells⟩:=(Hl.out.ext hX).2.resolve_left (by omega);obtain ⟨c0,c1,c2⟩:=hcells i q hq;obtain ⟨W3,hW3⟩:∃ W3,wr.alloc (.cells #[.int .u16 (q.x:Int),.int .u16 (q.z:Int),.bool q.m] 103)=W3:=⟨_,rfl⟩;obtain ⟨G,hG⟩:∃ G,wr.heap.size=G:=⟨_,rfl⟩
  have E3:Ext wr W3:=by rw [<-hW3];exact ext_al _ _
  have Pq:PuB W3 G q.x q.z q.m:=by rw [<-hW3,<-hG];exact PuB.new wr _ _ _
  have HC:=Lh (Commutes_any p.x p.z q.x q.z p.m q.m W3 p.hx p.hz q.hx q.hz);unfold pv at HC;obtain ⟨B,hB⟩:∃ B,cmB p q=B:=⟨_,rfl⟩;rw [show (((pcF 16 ((p.x &&& q.z) ^^^ (p.z &&& q.x)):Nat):Int).tmod 2 == 0)=B from hB] at HC
  have hli:((l.take i).map fun g=>!(cmB p g)).length=i:=by rw [List.length_map,List.length_take];have:=Hln.out;omega
  have Hst:=Lh (show shN (l.take (i+1)) p=shN (l.take i) p+(if !B then 1 else 0)*2 ^ i by
   unfold shN;rw [List.take_add_one,hq]
   show numB (((l.take i)++[q]).map _)=_
   rw [List.map_append,List.map_cons,List.map_nil,numB_snoc,hli,hB])
  obtain ⟨s,hs⟩:∃ s,shN (l.take i) p=s:=⟨_,rfl⟩
  have bs:s<2 ^ i:=by rw [<-hs];unfold shN;have:=numB_lt ((l.take i).map fun g=>!(cmB p g));rw [hli] at this;exact this
  have hpw:2 ^ i<=2 ^ 11:=Nat.pow_le_pow_right (by decide) (by have:=Hn.out;omega)
  have h11:(2:Nat) ^ 11=2048:=by decide
  have hcast:((2 ^ i:Nat):Int)=(2:Int) ^ i:=by rw [Int.natCast_pow];rfl
  obtain ⟨P2,hP2⟩:∃ P2,2 ^ i=P2:=⟨_,rfl⟩
  have r3:IntKind.u16.wrap ((2:Int) ^ min i 16)=(P2:Int):=by rw [show min i 16=i by have:=Hn.out;omega,<-hcast,hP2];exact wrapu (by omega)
  have r4:bits .or .u16 (s:Int) (P2:Int)=((s+P2:Nat):Int):=by
   rw [or_u16 (by omega) (by omega)];have:=or_plus 1 bs;rw [Nat.one_mul,hP2] at this;rw [this]
  rw [hs] at Hst ⊢;rw [hP2] at Hst;have HE3:=Lh (HX.out.trans E3);have HW3:=Lh hW3;have HPq:=Lh Pq;have HPp:=Lh (HP.out.ext (hX.trans E3));have Hlt:=Lh hlt;clear hkk hi hX hin hq hcells hb hlt hB E3 Pq hW3 hli hs bs hpw h11 hcast hP2
  go_upto_region 5 with fail
  rw [HW3.out];clear c0 c1 c2 HW3 hG;have k0:=HPp.out.x0;have k1:=HPp.out.x1;have k2:=HPp.out.x2;have p0:=HPq.out.x0;have p1:=HPq.out.x1;have p2:=HPq.out.x2
  go_wp2_with fail
  refine HC.out.mono ?_;rintro e w1 ⟨rfl,h1⟩;have H1:=Lh (HE3.out.trans h1);clear h1 k0 k1 k2 p0 p1 p2 HC
  cases B
  ·go_wp2_with fail
   go_roundg (n-(i+1))
   case measure=>have:=Hkk.out;have:=Hlt.out;omega
   case rel=>exact ⟨i+1,rfl,by rw [Hst.out];simp only [Bool.not_false,if_true,Nat.one_mul,Int.natCast_add],Hlt.out,rfl,H1.out⟩
  ·clear r3 r4
   go_wp2_with fail
   go_roundg (n-(i+1))
   case measure=>have:=Hkk.out;have:=Hlt.out;omega
   case rel=>exact ⟨i+1,rfl,by rw [Hst.out];simp only [Bool.not_true,Bool.false_eq_true,if_false,Nat.zero_mul,Nat.add_zero],Hlt.out,rfl,H1.out⟩
def bitsL (s n:Nat):List Int:=(List.range n).map fun i=>((s / 2 ^ i % 2:Nat):Int)
theorem bitsL_snoc (s n:Nat):bitsL s (n+1)=bitsL s n++[((s / 2 ^ n % 2:Nat):Int)]:=by unfold bitsL;rw [List.range_succ,List.map_append];rfl
theorem bitsL_len (s n:Nat):(bitsL s n).length=n:=by simp [bitsL]
theorem and1_u16 {k:Nat} (h:k<65536):bits .and .u16 (k:Int) 1=((k % 2:Nat):Int):=by
 have:=and_u16 h (show 1<65536 by decide);rw [show k &&& 1=k % 2 from Nat.and_two_pow_sub_one_eq_mod k 1] at this;exact this
theorem list_any (s n:Nat) (w:World) (hs:s<65536) (hn:n<=12) :
  Calls Tryz.prog 110 #[.int .u16 (s:Int),.int .i64 (n:Int)] w fun e w'=>(∃ v,e=.returned v/\w'.ownsRow w.heap.size 3 1 v n (iC (bitsL s n)))/\Ext w w':=by
 obtain ⟨i0,hi0,hz0,hz1,hz2⟩:=info_parts i_info;have Hs:=Lh hs;have Hn:=Lh hn;clear hs hn
 go_enter Tryz.func110,Tryz.ntmps110
 go_wp2_with fail
 go_loopg [5,6,8] n (fun kk s5 s6 s8 wr=>Ext w wr/\∃ i:Nat,s8=.int .i64 (i:Int)/\i<=n/\n-i=kk/\wr.ownsRow w.heap.size 3 1 s5 i (iC (bitsL s i)))
 case atStart=>exact ⟨Ext.refl _,0,rfl,Nat.zero_le _,rfl,⟨rfl,Or.inl ⟨rfl,rfl⟩⟩⟩
 case round =>
  obtain ⟨hER,i,rfl,hi,hk,hown⟩:=hrel;have HER:=Lh hER;have Hk:=Lh hk;have Hown:=Lh hown
  by_cases hin:i=n
  ·have q1:¬ (i:Int)<(n:Int):=by omega
   subst hin;clear hER hk hown hi
   go_wp2_with fail
   go_ret
   exact ⟨⟨_,rfl,Hown.out⟩,HER.out⟩
  have hlt:i<n:=by omega
  have q1:(i:Int)<(n:Int):=by omega
  have q0:(0:Int)<=(i:Int):=by omega
  have wk:IntKind.i64.wrap ((i:Int)+1)=((i+1:Nat):Int):=by rw [IntKind.wrap_i64];have:=Hn.out;omega
  have hcast:((2 ^ i:Nat):Int)=(2:Int) ^ i:=by rw [Int.natCast_pow];rfl
  obtain ⟨d,hd⟩:∃ d,s / 2 ^ i=d:=⟨_,rfl⟩
  have bd:d<65536:=by rw [<-hd];exact Nat.lt_of_le_of_lt (Nat.div_le_self _ _) Hs.out
  have r1:(s:Int) / 2 ^ i=(d:Int):=by rw [<-hcast,<-Int.natCast_ediv,hd]
  have r1':(s:Int) / 2 ^ min i 16=(d:Int):=by rw [show min i 16=i by have:=Hn.out;omega];exact r1
  have r2:=and1_u16 bd;obtain ⟨e,he⟩:∃ e,d % 2=e:=⟨_,rfl⟩;rw [he] at r2
  have r3:wrap64 (e:Int)=(e:Int):=by unfold wrap64;omega
  have Hst:=Lh (show bitsL s (i+1)=bitsL s i++[(e:Int)] by rw [bitsL_snoc,hd,he]);have Hlt:=Lh hlt;clear hER hk hown hi hin hlt hcast hd bd he
  go_wp2_with (at_builtin;refine wpList_append_own _ rfl _ _ 25 rfl w.heap.size 3 i0 (.int .i64 0) 1 8 Tryz.underlying25 hi0 hz0 hz1 hz2 rfl (by decide) _ i (iC (bitsL s i)) rfl (Hown.out.alloc _) ⟨wr.heap.size,0,none⟩ 1 1 [.int .i64 (e:Int)] rfl rfl (new_i wr _ _) (by simp [Value.oneCell']) (by unfold maxLen;have:=Hn.out;have:=Hlt.out;omega) (by have:=Hn.out;have:=Hlt.out;omega) (Nat.le_trans HER.out.size (ext_al wr _).size) ?_;intro v' w7 hown' hgrow' _)
  go_roundg (n-(i+1))
  case measure=>have:=Hk.out;have:=Hlt.out;omega
  case rel=>exact ⟨grown_ext (HER.out.trans (ext_al wr _)) hgrow' (fun k hk=>(own_lt Hown.out k hk).1),i+1,rfl,Hlt.out,rfl,by rw [Hst.out];unfold iC at hown' ⊢;rw [List.map_append];exact hown'⟩
theorem one01_any (b:Bool) (w:World):Calls Tryz.prog 72 #[.bool b] w fun e w'=>e=.returned (.int .i64 (if b then 1 else 0))/\w'=w:=by
 cases b
 ·go_enter Tryz.func72,Tryz.ntmps72
  go_wp2_with fail
  go_ret
  exact ⟨rfl,rfl⟩
 ·go_enter Tryz.func72,Tryz.ntmps72
  go_wp2_with fail
  go_ret
  exact ⟨rfl,rfl⟩
structure CoB (w:World) (g:Nat) (N:Int) (a:Option Addr) (n c:Nat):Prop where
 row:w.heap[g]?=some (.cells #[.int .i64 N,.slice a n c] 59 (0,0))
section
variable {w w':World} {g:Nat} {N:Int} {a:Option Addr} {n c:Nat}
theorem CoB.lt (h:CoB w g N a n c):g<w.heap.size:=(gS.1 h.row).1
theorem CoB.ext (h:CoB w g N a n c) (k:Ext w w'):CoB w' g N a n c:=⟨(k.block _ h.lt).trans h.row⟩
theorem CoB.x0 (h:CoB w g N a n c):w.cell? ⟨g,0,none⟩=some (.int .i64 N):=by rw [cell_of_row w g 0 _ _ (0,0) h.row];rfl
theorem CoB.x1 (h:CoB w g N a n c):w.cell? ⟨g,1,none⟩=some (.slice a n c):=by rw [cell_of_row w g 1 _ _ (0,0) h.row];rfl
end
theorem CoB.new (w:World) (N:Int) (a:Option Addr) (n c:Nat):CoB (w.alloc (.cells #[.int .i64 N,.slice a n c] 59)) w.heap.size N a n c:=⟨heap_alloc_new w _⟩
theorem own_kpt {w w':World} {base n:Nat} {t:TypeId} {v:Value} {l:List Value} (h:w.ownsRow base t 1 v n l) (k:Ext w w'):w'.ownsRow base t 1 v n l:=by
 obtain ⟨h1,h2 | ⟨g,cap,cur,e1,e2,e3,e4⟩⟩:=h
 ·exact ⟨h1,Or.inl h2⟩
 ·exact ⟨h1,Or.inr ⟨g,cap,cur,e1,e2,(k.block g (gS.1 e3).1).trans e3,e4⟩⟩
theorem own_low {w:World} {base base' n:Nat} {t:TypeId} {v:Value} {l:List Value} (h:w.ownsRow base t 1 v n l) (k:base'<=base):w.ownsRow base' t 1 v n l:=by
 obtain ⟨h1,h2 | ⟨g,cap,cur,e1,e2,e3,e4⟩⟩:=h
 ·exact ⟨h1,Or.inl h2⟩
 ·exact ⟨h1,Or.inr ⟨g,cap,cur,e1,Nat.le_trans k e2,e3,e4⟩⟩
def synL (gens:List (List UInt8)) (e:List UInt8):List Int:=gens.map fun T=>if apN (T.drop 1) e % 2=1 then 1 else 0
theorem drop_one_piece (T:List UInt8):(⟨T.toArray⟩:ByteArray).extract 1 T.length=⟨(T.drop 1).toArray⟩:=by
 rw [piece,List.take_of_length_le (by rw [List.length_drop];exact Nat.le_refl _)]
theorem apart_bool (a b:List UInt8):((((apN a b:Nat):Int).tmod 2 == 1))=decide (apN a b % 2=1):=by
 rw [Int.tmod_eq_emod_of_nonneg (by omega)]
 by_cases h:apN a b % 2=1
 ·rw [decide_eq_true h];exact beq_iff_eq.2 (by omega)
 ·rw [decide_eq_false h];exact beq_eq_false_iff_ne.2 (by omega)
theorem SyndromeOf_any (N:Int) (gens:List (List UInt8)) (e:List UInt8) (ao:Option Addr) (k c:Nat) (w:World) (hG:StrsAt w ao k gens) (hk:k<=12) (n:Nat) (hn:n<=12) (hall:∀ T ∈ gens,T.length=n+1) (he:e.length=n) :
  Calls Tryz.prog 32 #[.agg #[.int .i64 N,.slice ao k c],.string ⟨e.toArray⟩] w fun r w'=>(∃ v,r=.returned v/\w'.ownsRow w.heap.size 3 1 v k (iC (synL gens e)))/\Ext w w':=by
 obtain ⟨i0,hi0,hz0,hz1,hz2⟩:=info_parts i_info;obtain ⟨U,hU⟩:∃ U,w.alloc (.cells #[.int .i64 N,.slice ao k c] 59)=U:=⟨_,rfl⟩;obtain ⟨H,hH⟩:∃ H,w.heap.size=H:=⟨_,rfl⟩
 have EU:Ext w U:=by rw [<-hU];exact ext_al _ _
 have C0:CoB U H N ao k c:=by rw [<-hU,<-hH];exact CoB.new w _ _ _ _
 have HG:=Lh (hG.ext EU);have Hk:=Lh hk;have Hn:=Lh hn;have Hall:=Lh hall;have He:=Lh he;have HEU:=Lh EU;have HC:=Lh C0;have HU:=Lh hU;have HH:=Lh hH;have Hlg:=Lh (show gens.length=k from hG.1);clear hG hk hn hall he EU C0 hU hH
 go_enter Tryz.func32,Tryz.ntmps32
 go_upto_region 1 with fail
 rw [HU.out,HH.out]
 go_wp2_with fail
 go_loopg [5,6] k (fun kk s5 s6 wr=>Ext U wr/\∃ i:Nat,s6=.int .i64 (i:Int)/\i<=k/\k-i=kk/\wr.ownsRow U.heap.size 3 1 s5 i (iC (synL (gens.take i) e)))
 case atStart=>exact ⟨Ext.refl _,0,rfl,Nat.zero_le _,rfl,⟨rfl,Or.inl ⟨rfl,rfl⟩⟩⟩
 case round =>
  obtain ⟨hER,i,rfl,hi,hkk,hown⟩:=hrel;have HER:=Lh hER;have Hkk:=Lh hkk;have Hown:=Lh hown;have k1:=(HC.out.ext hER).x1
  by_cases hin:i=k
  ·have q1:¬ (i:Int)<(k:Int):=by omega
   have hst:gens.take i=gens:=List.take_of_length_le (by have:=Hlg.out;omega);rw [hst] at Hown;subst hin;clear hER hkk hown hi hst
   go_wp2_with fail
   go_ret
   exact ⟨⟨_,rfl,own_low Hown.out HEU.out.size⟩,HEU.out.trans HER.out⟩
  have hlt:i<k:=by omega
  have q1:(i:Int)<(k:Int):=by omega
  have q0:(0:Int)<=(i:Int):=by omega
  have wk:IntKind.i64.wrap ((i:Int)+1)=((i+1:Nat):Int):=by rw [IntKind.wrap_i64];have:=Hk.out;omega
  obtain ⟨T,hT⟩:∃ T,gens[i]?=some T:=⟨_,List.getElem?_eq_getElem (by have:=Hlg.out;omega)⟩;obtain ⟨b,o,rfl,hb,hcells⟩:=(HG.out.ext hER).at (by omega);have c0:=hcells i hlt
  have hgd:gens.getD i []=T:=by rw [List.getD_eq_getElem?_getD,hT];rfl
  rw [hgd] at c0;have hTl:=Hall.out T (List.mem_of_getElem? hT)
  have hsT:(⟨T.toArray⟩:ByteArray).size=T.length:=by simp [ByteArray.size]
  have hpc:=drop_one_piece T
  have h1T:(1:Int)<=(T.length:Int):=by omega
  obtain ⟨D,hD⟩:∃ D,T.drop 1=D:=⟨_,rfl⟩;rw [hD] at hpc
  have hDl:D.length=n:=by rw [<-hD,List.length_drop];omega
  have HAp:=Lh (fun wx=>Apart_any D e wx (by rw [hDl,He.out]) (by have:=Hn.out;omega));rw [apart_bool] at HAp;obtain ⟨B,hB⟩:∃ B,decide (apN D e % 2=1)=B:=⟨_,rfl⟩;rw [hB] at HAp;obtain ⟨x,hx⟩:∃ x:Int,(if B then 1 else 0)=x:=⟨_,rfl⟩;have Hon:=Lh (fun wx=>one01_any B wx);rw [hx] at Hon
  have Hst:=Lh (show synL (gens.take (i+1)) e=synL (gens.take i) e++[x] by
   rw [List.take_add_one,hT]
   show synL (gens.take i++[T]) e=_
   unfold synL;rw [List.map_append,List.map_cons,List.map_nil,hD,<-hx,<-hB]
   congr 2
   simp only [decide_eq_true_eq])
  have Hlt:=Lh hlt;clear hER hkk hown hi hin hlt hT hcells hb hgd hTl hD hDl hB hx
  go_wp2_with fail
  refine (HAp.out wr).mono ?_;rintro r w1 ⟨rfl,h1⟩;have HX1:=Lh (HER.out.trans h1);have HE1:=Lh h1;clear h1 HAp c0 k1
  go_wp2_with fail
  refine (Hon.out w1).mono ?_;rintro r w2 ⟨rfl,rfl⟩;have hown1:=own_kpt Hown.out HE1.out;clear Hon
  go_wp2_with (at_builtin;refine wpList_append_own _ rfl _ _ 25 rfl U.heap.size 3 i0 (.int .i64 0) 1 8 Tryz.underlying25 hi0 hz0 hz1 hz2 rfl (by decide) _ i (iC (synL (gens.take i) e)) rfl (hown1.alloc _) ⟨w2.heap.size,0,none⟩ 1 1 [.int .i64 x] rfl rfl (new_i w2 _ _) (by simp [Value.oneCell']) (by unfold maxLen;have:=Hk.out;have:=Hlt.out;omega) (by have:=Hk.out;have:=Hlt.out;omega) (Nat.le_trans HX1.out.size (ext_al w2 _).size) ?_;intro v' w7 hown' hgrow' _)
  go_roundg (k-(i+1))
  case measure=>have:=Hkk.out;have:=Hlt.out;omega
  case rel=>exact ⟨grown_ext (HX1.out.trans (ext_al w2 _)) hgrow' (fun k hk=>(own_lt hown1 k hk).1),i+1,rfl,Hlt.out,rfl,by rw [Hst.out];unfold iC at hown' ⊢;rw [List.map_append];exact hown'⟩
def Let (n:Nat) (a:List UInt8):Prop:=a.length=n/\∀ c ∈ a,isL c=true
def IsT (p:PK) (a:List UInt8):Prop:=p.x=nX a/\p.z=nZz a
theorem cm_ap {n:Nat} (hn:n<=16) {a b:List UInt8} (ha:Let n a) (hb:Let n b) {p q:PK} (hp:IsT p a) (hq:IsT q b):cmB p q=decide (apN a b % 2=0):=by
 unfold cmB;rw [hp.1,hp.2,hq.1,hq.2];have h1:=ap_pc a b (by rw [ha.1,hb.1]) ha.2 hb.2;have hx1:=nX_lt a;have hz1:=nZz_lt a;have hlt:(nX a &&& nZz b) ^^^ (nZz a &&& nX b)<2 ^ a.length:=Nat.xor_lt_two_pow (Nat.lt_of_le_of_lt Nat.and_le_left hx1) (Nat.lt_of_le_of_lt Nat.and_le_left hz1);rw [pcF_more a.length _ hlt 16 (by rw [ha.1];exact hn),<-h1,Int.tmod_eq_emod_of_nonneg (by omega)]
 by_cases h:apN a b % 2=0
 ·rw [decide_eq_true h];exact beq_iff_eq.2 (by omega)
 ·rw [decide_eq_false h];exact beq_eq_false_iff_ne.2 (by omega)
def Both (n:Nat) (out:List (List UInt8)) (ks:List (Nat × Nat)):Prop:=(∀ p ∈ out,Let n p)/\ks=out.map fun p=>(nX p,nZz p)
theorem both_step {n:Nat} {out:List (List UInt8)} {ks:List (Nat × Nat)} (h:Both n out ks) {g:PK} {a:List UInt8} (ha:Let n a) (hg:IsT g a):Both n (out++out.map (fun p=>mulT p a)) (ks++ks.map (fun q=>(q.1 ^^^ g.x,q.2 ^^^ g.z))):=by
 have hm:∀ p ∈ out,(mulT p a).length=p.length/\(∀ c ∈ mulT p a,isL c=true)/\nX (mulT p a)=nX p ^^^ nX a/\nZz (mulT p a)=nZz p ^^^ nZz a:=fun p hp=>mulT_is p a (by rw [(h.1 p hp).1,ha.1]) (h.1 p hp).2 ha.2
 refine ⟨fun p hp=>?_,?_⟩
 ·rcases List.mem_append.1 hp with hp | hp
  ·exact h.1 p hp
  ·obtain ⟨q,hq,rfl⟩:=List.mem_map.1 hp
   have:=hm q hq;exact ⟨this.1.trans (h.1 q hq).1,this.2.1⟩
 ·rw [List.map_append,h.2,List.map_map,List.map_map]
  congr 1
  refine List.map_congr_left fun p hp=>?_
  have:=hm p hp;simp only [Function.comp_apply];rw [this.2.2.1,this.2.2.2,hg.1,hg.2]
theorem both_all {n:Nat}:∀ (ls:List (List UInt8)) (ps:List PK) (out:List (List UInt8)) (ks:List (Nat × Nat)),ls.length=ps.length->(∀ a ∈ ls,Let n a)->(∀ (i:Nat) (a:List UInt8) (p:PK),ls[i]?=some a->ps[i]?=some p->IsT p a)->Both n out ks ->
  Both n (ls.foldl (fun out g=>out++out.map (fun p=>mulT p g)) out) (ps.foldl (fun out g=>out++out.map (fun q=>(q.1 ^^^ g.x,q.2 ^^^ g.z))) ks)
 | [],[],_,_,_,_,_,h=>h
 | [],_ :: _,_,_,hl,_,_,_=>by simp at hl
 | _ :: _,[],_,_,hl,_,_,_=>by simp at hl
 | a :: ls,p :: ps,out,ks,hl,ha,hp,h=>both_all ls ps _ _ (by simpa using hl) (fun x hx=>ha x (by simp [hx])) (fun i x y h1 h2=>hp (i+1) x y (by simpa using h1) (by simpa using h2)) (both_step h (ha a (by simp)) (hp 0 a p (by simp) (by simp)))
theorem grp_gs {n:Nat} {ls:List (List UInt8)} {ps:List PK} (hl:ls.length=ps.length) (ha:∀ a ∈ ls,Let n a) (hp:∀ (i:Nat) (a:List UInt8) (p:PK),ls[i]?=some a->ps[i]?=some p->IsT p a) {t:List UInt8} (ht:Let n t):(nX t,nZz t) ∈ gsL ps↔t ∈ grp n ls:=by
 have h0:Both n [oneT n] [(0,0)]:=⟨fun p hp=>by
  have:p=oneT n:=by simpa using hp
  rw [this]
  exact ⟨(oneT_is n).1,(oneT_is n).2.1⟩,by
  rw [List.map_cons,List.map_nil,(oneT_is n).2.2.1,(oneT_is n).2.2.2]⟩
 obtain ⟨h1,h2⟩:=both_all ls ps _ _ hl ha hp h0
 have e:gsL ps=(grp n ls).map fun p=>(nX p,nZz p):=h2
 rw [e,List.mem_map]
 constructor
 ·rintro ⟨p,hp',he⟩
  have hL:=h1 p hp';injection he with e1 e2;have:=lets_ext p t (by rw [hL.1,ht.1]) hL.2 ht.2 e1 e2;rw [<-this];exact hp'
 ·exact fun h=>⟨t,h,rfl⟩
def barL (gens:List (List UInt8)):List (List UInt8):=gens.map fun T=>T.drop 1
theorem barL_len (gens:List (List UInt8)):(barL gens).length=gens.length:=by simp [barL]
theorem bare_any (gens:List (List UInt8)) (ao:Option Addr) (k c:Nat) (w:World) (hG:StrsAt w ao k gens) (hk:k<=12) (hall:∀ T ∈ gens,1<=T.length) :
  Calls Tryz.prog 66 #[.slice ao k c] w fun r w'=>(∃ v,r=.returned v/\w'.ownsRow w.heap.size 9 1 v k (sC (barL gens)))/\Ext w w':=by
 obtain ⟨i0,hi0,hz0,hz1,hz2⟩:=info_parts s_info;have HG:=Lh hG;have Hk:=Lh hk;have Hall:=Lh hall;have Hlg:=Lh (show gens.length=k from hG.1);clear hG hk hall
 go_enter Tryz.func66,Tryz.ntmps66
 go_wp2_with fail
 go_loopg [3,4] k (fun kk s3 s4 wr=>Ext w wr/\∃ i:Nat,s4=.int .i64 (i:Int)/\i<=k/\k-i=kk/\wr.ownsRow w.heap.size 9 1 s3 i (sC (barL (gens.take i))))
 case atStart=>exact ⟨Ext.refl _,0,rfl,Nat.zero_le _,rfl,⟨rfl,Or.inl ⟨rfl,rfl⟩⟩⟩
 case round =>
  obtain ⟨hER,i,rfl,hi,hkk,hown⟩:=hrel;have HER:=Lh hER;have Hkk:=Lh hkk;have Hown:=Lh hown
  by_cases hin:i=k
  ·have q1:¬ (i:Int)<(k:Int):=by omega
   have hst:gens.take i=gens:=List.take_of_length_le (by have:=Hlg.out;omega);rw [hst] at Hown;subst hin;clear hER hkk hown hi hst
   go_wp2_with fail
   go_ret
   exact ⟨⟨_,rfl,Hown.out⟩,HER.out⟩
  have hlt:i<k:=by omega
  have q1:(i:Int)<(k:Int):=by omega
  have q0:(0:Int)<=(i:Int):=by omega
  have wk:IntKind.i64.wrap ((i:Int)+1)=((i+1:Nat):Int):=by rw [IntKind.wrap_i64];have:=Hk.out;omega
  obtain ⟨T,hT⟩:∃ T,gens[i]?=some T:=⟨_,List.getElem?_eq_getElem (by have:=Hlg.out;omega)⟩;obtain ⟨b,o,rfl,hb,hcells⟩:=(HG.out.ext hER).at (by omega);have c0:=hcells i hlt
  have hgd:gens.getD i []=T:=by rw [List.getD_eq_getElem?_getD,hT];rfl
  rw [hgd] at c0;have hTl:=Hall.out T (List.mem_of_getElem? hT)
  have hsT:(⟨T.toArray⟩:ByteArray).size=T.length:=by simp [ByteArray.size]
  have hpc:=drop_one_piece T
  have h1T:(1:Int)<=(T.length:Int):=by omega
  obtain ⟨D,hD⟩:∃ D,T.drop 1=D:=⟨_,rfl⟩;rw [hD] at hpc
  have Hst:=Lh (show sC (barL (gens.take (i+1)))=sC (barL (gens.take i))++[.string ⟨D.toArray⟩] by
   rw [List.take_add_one,hT]
   show sC (barL (gens.take i++[T]))=_
   unfold barL
   rw [List.map_append,List.map_cons,List.map_nil,hD,sC_snoc])
  have Hlt:=Lh hlt;clear hER hkk hown hi hin hlt hT hcells hb hgd hTl hD
  go_wp2_with (at_builtin;refine wpList_append_own _ rfl _ _ 27 rfl w.heap.size 9 i0 (.string ⟨#[]⟩) 1 16 Tryz.underlying27 hi0 hz0 hz1 hz2 rfl (by decide) _ i (sC (barL (gens.take i))) rfl (Hown.out.alloc _) ⟨wr.heap.size,0,none⟩ 1 1 [.string ⟨D.toArray⟩] rfl rfl (new_s wr _ _) (one_s _) (by unfold maxLen;have:=Hk.out;have:=Hlt.out;omega) (by have:=Hk.out;have:=Hlt.out;omega) (Nat.le_trans HER.out.size (ext_al wr _).size) ?_;intro v' w7 hown' hgrow' _)
  go_roundg (k-(i+1))
  case measure=>have:=Hkk.out;have:=Hlt.out;omega
  case rel=>exact ⟨grown_ext (HER.out.trans (ext_al wr _)) hgrow' (fun k hk=>(own_lt Hown.out k hk).1),i+1,rfl,Hlt.out,rfl,by rw [Hst.out];exact hown'⟩
theorem mulT_take:∀ (a b:List UInt8) (i:Nat) (x y:UInt8),a[i]?=some x->b[i]?=some y->mulT (a.take (i+1)) (b.take (i+1))=mulT (a.take i) (b.take i)++[mulL x y]:=by
 intro a b i x y hx hy;rw [List.take_add_one,List.take_add_one,hx,hy];unfold mulT
 show List.zipWith mulL (a.take i++[x]) (b.take i++[y])=_
 rw [List.zipWith_append (by rw [List.length_take,List.length_take];have h1:=(List.getElem?_eq_some_iff.1 hx).1;have h2:=(List.getElem?_eq_some_iff.1 hy).1;omega)]
 rfl
theorem one_piece {l:List UInt8} {i:Nat} {x:UInt8} (h:l[i]?=some x):(⟨l.toArray⟩:ByteArray).extract i (i+1)=⟨#[x]⟩:=by
 apply ByteArray.ext
 obtain ⟨h1,h2⟩:=List.getElem?_eq_some_iff.1 h
 apply Array.ext
 ·simp [ByteArray.data_extract]
  omega
 ·intro j hj1 hj2
  have:j=0:=by simp at hj2;omega
  subst this
  simp [ByteArray.data_extract,h2]
def thL (x y:UInt8):Nat->UInt8
 | 0=>88
 | k+1=>if ([88,89,90]:List UInt8).getD k 0≠x/\([88,89,90]:List UInt8).getD k 0≠y then ([88,89,90]:List UInt8).getD k 0 else thL x y k
theorem thL_mul {x y:UInt8} (hx:isL x=true) (hy:isL y=true) (h1:x≠73) (h2:x≠y) (h3:y≠73):thL x y 3=mulL x y:=by
 rcases isL_cases hx with rfl | rfl | rfl | rfl<;>rcases isL_cases hy with rfl | rfl | rfl | rfl<;>first | exact absurd rfl h1 | exact absurd rfl h2 | exact absurd rfl h3 | rfl
end Go.Proofs.YtlechhmhmakgpaaGreatDoor
