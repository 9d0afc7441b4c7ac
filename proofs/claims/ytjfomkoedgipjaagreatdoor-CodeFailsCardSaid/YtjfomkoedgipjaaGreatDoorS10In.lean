/-
  The program: the group grows by a generator: all products with it come to the set. The program: the first generator that does not commute with one ahead of it. The program: the first generator that does not commute with one ahead of it; the group is filled up to the first one that hangs on those ahead of it. The program: a Pauli is read. The program: which generators an error shows at. The program: a syndrome as it is told.
-/
import Derived.Test.YtjfomkoedgipjaaGreatDoorS09Ig
namespace Go.Proofs.YtjfomkoedgipjaaGreatDoor
set_option maxRecDepth 100000
set_option maxHeartbeats 4000000
open Go.RowKit
open Go.RowKit Go.Maps
def PsAt (w:World) (ao:Option Addr) (n:Nat) (l:List PK):Prop :=
 l.length=n/\(n=0\/∃ b o,ao=some ⟨b,o,none⟩/\b<w.heap.size/\∀ t p,l[t]?=some p->w.cell? ⟨b,o+t*3,none⟩=some (.int .u16 (p.x:Int))/\w.cell? ⟨b,o+t*3+1,none⟩=some (.int .u16 (p.z:Int))/\w.cell? ⟨b,o+t*3+2,none⟩=some (.bool p.m))
theorem pcs_at:∀ (l:List PK) (t:Nat) (p:PK),l[t]?=some p->(pcs l)[t*3]?=some (.int .u16 (p.x:Int))/\(pcs l)[t*3+1]?=some (.int .u16 (p.z:Int))/\(pcs l)[t*3+2]?=some (.bool p.m)
 | [],t,p,h=>by simp at h
 | a :: r,0,p,h=>by
  have:a=p:=by simpa using h
  subst this;exact ⟨rfl,rfl,rfl⟩
 | a :: r,t+1,p,h=>by
  have ih:=pcs_at r t p (by simpa using h);have e:pcs (a :: r)=.int .u16 (a.x:Int) :: .int .u16 (a.z:Int) :: .bool a.m :: pcs r:=rfl;rw [e,show (t+1)*3=t*3+1+1+1 by omega,show t*3+1+1+1+1=(t*3+1)+1+1+1 by omega,show t*3+1+1+1+2=(t*3+2)+1+1+1 by omega];simp only [List.getElem?_cons_succ];exact ih
theorem ps_of_own {w:World} {base n:Nat} {v:Value} {l:List PK} (h:w.ownsRow base 94 3 v n (pcs l)) (hl:l.length=n):∃ (a:Option Addr) (c:Nat),v=.slice a n c/\n<=c/\c<=9223372036854775807/\PsAt w a n l:=by
 rcases h.2 with ⟨rfl,rfl⟩ | ⟨g,cap,cur,rfl,_,hg,hnc,hcm,_,htk⟩
 ·exact ⟨none,0,rfl,qZ _,qI _,hl,qM rfl⟩
 ·refine ⟨some ⟨g,0,none⟩,cap,rfl,hnc,hcm,hl,qO ⟨g,0,rfl,(gS.1 hg).1,fun t p hp=>?_⟩⟩
  have htl:t<l.length:=(jG.1 hp).1;obtain ⟨h0,h1,h2⟩:=pcs_at l t p hp
  have at':∀ j v,(pcs l)[j]?=some v->j<n*3->w.cell? ⟨g,0+j,none⟩=some v:=fun j v hj hlt=>by
   rw [qD w g (0+j) cur _ (0,0) hg,jH]
   have h1:(pcs l)[j]?=cur.toList[j]?:=by
    rw [<-htk,jC,qU (by omega)]
   rw [<-Array.getElem?_toList,<-h1];exact hj
  exact ⟨at' _ _ h0 (by omega),at' _ _ h1 (by omega),at' _ _ h2 (by omega)⟩
structure Tur (B:Nat) (w w':World):Prop where
 os:w'.os=w.os
 tape:w'.tape=w.tape
 output:w'.output=w.output
 size:w.heap.size<=w'.heap.size
 block:∀ k,k<w.heap.size->k≠B->w'.heap[k]?=w.heap[k]?
section
variable {B:Nat} {w w' w'':World}
theorem Tur.refl (B:Nat) (w:World):Tur B w w:=⟨rfl,rfl,rfl,qZ _,fun _ _ _=>rfl⟩
theorem Tur.of_ext (h:Ext w w'):Tur B w w':=⟨h.os,h.tape,h.output,h.size,fun k hk _=>h.block k hk⟩
theorem Tur.trans (h:Tur B w w') (k:Tur B w' w''):Tur B w w'':=⟨k.os.trans h.os,k.tape.trans h.tape,k.output.trans h.output,qL h.size k.size,fun i hi hn=>(k.block i (qK hi h.size) hn).trans (h.block i hi hn)⟩
theorem Tur.ext {u:World} (h:Tur B w w') (k:Ext u w) (hB:u.heap.size<=B):Ext u w':=⟨h.os.trans k.os,h.tape.trans k.tape,h.output.trans k.output,qL k.size h.size,fun i hi=>(h.block i (qK hi k.size) (by omega)).trans (k.block i hi)⟩
theorem Tur.grown (h:w.grownBy w' (some B)):Tur B w w':=⟨h.os,h.tape,h.output,h.size,fun k hk hn=>h.block k hk (fun e=>hn (Option.some.inj e))⟩
theorem Tur.ps {ao:Option Addr} {n:Nat} {l:List PK} (h:Tur B w w') (hp:PsAt w ao n l) (hm:∃ es cl,w.heap[B]?=some (.map es cl)):PsAt w' ao n l:=by
 refine ⟨hp.1,?_⟩
 rcases hp.2 with h0 | ⟨b,o,e,hb,hc⟩
 ·exact qM h0
 ·obtain ⟨es,cl,hm⟩:=hm
  refine qO ⟨b,o,e,qK hb h.size,fun t p ht=>?_⟩;obtain ⟨c0,c1,c2⟩:=hc t p ht
  have hne:b≠B:=fun e=>by
   subst e
   have:w.cell? ⟨b,o+t*3,none⟩=none:=by simp [World.cell?,hm]
   rw [this] at c0
   cases c0
  have hbl:=h.block b hb hne
  have same:∀ j,w'.cell? ⟨b,j,none⟩=w.cell? ⟨b,j,none⟩:=fun j=>by simp only [World.cell?,hbl]
  rw [same,same,same];exact ⟨c0,c1,c2⟩
end
theorem GrpM.is {w:World} {B:Nat} {keys:List (Nat × Nat)} (h:GrpM w B keys):∃ es cl,w.heap[B]?=some (.map es cl):=by
 obtain ⟨es,cl,h1,_⟩:=h.map;exact ⟨es,cl,h1⟩
theorem GrpM.mem {w:World} {B:Nat} {keys:List (Nat × Nat)} (h:GrpM w B keys) (p:PK):Maps.has (setOf (H:=Unit) (.agg []) (keys.map fun p=>kl p.1 p.2 false)) (klK p)=true↔(p.x,p.z) ∈ keys/\p.m=false:=by
 rw [has_setOf _ _ _ (fun l hl=>by
  obtain ⟨q,hq,rfl⟩:=yU.1 hl
  exact kl_key (h.ok q hq).1 (h.ok q hq).2 false),List.any_eq_true]
 constructor
 ·rintro ⟨l,hl,hs⟩
  obtain ⟨q,hq,rfl⟩:=yU.1 hl;obtain ⟨e1,e2,e3⟩:=kl_inj (h.ok q hq).1 (h.ok q hq).2 p.hx p.hz (WideAt.sameKey_eq hs);refine ⟨?_,e3.symm⟩
  have:q=(p.x,p.z):=by rw [<-e1,<-e2]
  rw [<-this];exact hq
 ·rintro ⟨hm,e⟩
  refine ⟨kl p.x p.z false,yU.2 ⟨(p.x,p.z),hm,rfl⟩,?_⟩;unfold klK;rw [e];exact WideAt.sameKey_self (kl_key p.hx p.hz false)
theorem xor_lt16 {x y:Nat} (hx:x<65536) (hy:y<65536):x ^^^ y<65536:=Nat.xor_lt_two_pow (n:=16) hx hy
theorem own_ext {w w':World} {B n:Nat} {D:DataW Unit} (h:w.ownsMap Tryz.prog 94 (unitElem (H:=Unit)) B n D) (k:Ext w w'):w'.ownsMap Tryz.prog 94 (unitElem (H:=Unit)) B n D:=by
 have hbl:=h.lt;obtain ⟨es,clock,hb,Ft,hs,hD⟩:=h;exact ⟨es,clock,(k.block B hbl).trans hb,Ft,hs,hD⟩
theorem PuB.tur {B:Nat} {w w':World} {g x z:Nat} {m:Bool} (h:PuB w g x z m) (k:Tur B w w') (hn:g≠B):PuB w' g x z m:=⟨(k.block g h.lt hn).trans h.row⟩
def NewBy (keys new:List (Nat × Nat)) (x z:Nat):Prop:=∀ p,p ∈ new↔∃ q ∈ keys,p=(q.1 ^^^ x,q.2 ^^^ z)
theorem unit_val:unitElem (H:=Unit) (.agg #[])=some (.agg [],[]):=unitElem_mk
theorem grow_any (B:Nat) (keys:List (Nat × Nat)) (x z:Nat) (m:Bool) (w:World) (h:GrpM w B keys) (hx:x<65536) (hz:z<65536) (hk:keys.length<=65536) :
  Calls Tryz.prog 86 #[.map (some B),pv x z m] w fun e w'=>(∃ v,e=.returned v)/\Tur B w w'/\∃ new:List (Nat × Nat),GrpM w' B (keys++new)/\new.length<=keys.length/\NewBy keys new x z:=by
 obtain ⟨D0,hD0⟩:∃ D0,setOf (H:=Unit) (.agg []) (keys.map fun p=>kl p.1 p.2 false)=D0:=⟨_,rfl⟩;have hmem:=h.mem;have hM:=h.map;have hok:=h.ok;have his:=h.is;rw [hD0] at hmem hM;have hsz:Maps.size D0<=keys.length:=hM.size_le;obtain ⟨H,hH⟩:∃ H,w.heap.size=H:=⟨_,rfl⟩;obtain ⟨U0,hU0⟩:∃ U,w.alloc (.cells #[.int .u16 (x:Int),.int .u16 (z:Int),.bool m] 94)=U:=⟨_,rfl⟩
 have E0:Ext w U0:=by rw [<-hU0];exact ext_al _ _
 have P0:PuB U0 H x z m:=by rw [<-hU0,<-hH];exact PuB.new w x z m
 have HE0:=Lh E0;have HP0:=Lh P0;have HU0:=Lh hU0;have HH:=Lh hH;have HM:=Lh hM;have Hmem:=Lh hmem;have Hok:=Lh hok;have Hsz:=Lh hsz;have Hk:=Lh hk;have HD0:=Lh hD0;have His:=Lh his;have Hx:=Lh hx;have Hz:=Lh hz;have hlB:=h.lt;have HlB:=Lh hlB;clear hM hmem hok hsz hk hD0 his hx hz E0 P0 hU0 hH h hlB;unfold pv
 go_enter Tryz.func86,Tryz.ntmps86
 go_upto_region 1 with fail
 rw [HU0.out,HH.out];clear HU0 HH
 go_wp2_with fail
 refine (keys_any B U0).mono ?_;rintro e W1 ⟨rfl,hW1⟩
 have E1:Ext U0 W1:=by rw [hW1];exact ext_al _ _
 have hb1:W1.cell? ⟨U0.heap.size,0,none⟩=some (.map (some B)):=by rw [hW1,qD _ _ 0 _ _ (0,0) (qW U0 _)];rfl
 have hl1:U0.heap.size<W1.heap.size:=by rw [hW1];simp
 have hM1:W1.ownsMap Tryz.prog 94 (unitElem (H:=Unit)) B keys.length D0:=by
  have hbl:=HM.out.lt;obtain ⟨es,clock,hb,Ft,hs,hD⟩:=HM.out;exact ⟨es,clock,((HE0.out.trans E1).block B hbl).trans hb,Ft,hs,hD⟩
 have HCo:=Lh (collect_any U0.heap.size B keys.length D0 W1 hl1 hb1 hM1 (by have:=Hsz.out;have:=Hk.out;omega));have HE1:=Lh (HE0.out.trans E1);have HP1:=Lh (HP0.out.ext E1);have HM1:=Lh hM1;clear hW1 E1 hb1 hl1 hM1 HE0 HP0
 go_wp2_with fail
 refine HCo.out.mono ?_;rintro e W2 ⟨v,ss,rfl,hrow,⟨hsl,hss⟩,E2⟩;obtain ⟨a,c,rfl,hac,hc,hps⟩:=ps_of_own hrow rfl;obtain ⟨n,hn⟩:∃ n,ss.length=n:=⟨_,rfl⟩;rw [hn] at hps hac
 have hM2:W2.ownsMap Tryz.prog 94 (unitElem (H:=Unit)) B keys.length D0:=by
  have hbl:=HM1.out.lt;obtain ⟨es,clock,hb,Ft,hs,hD⟩:=HM1.out;exact ⟨es,clock,(E2.block B hbl).trans hb,Ft,hs,hD⟩
 have HE2:=Lh (HE1.out.trans E2);have HP2:=Lh (HP1.out.ext E2);have HM2:=Lh hM2;have Hps:=Lh hps;have Hac:=Lh hac;have Hc:=Lh hc;have Hn:=Lh hn;have Hss:=Lh hss;have Hsl:=Lh hsl;rw [hn];clear hrow hsl hss E2 hac hc hps hn hM2 HE1 HP1 HM1 HCo
 go_wp2_with fail
 have HT2:=Lh (show Tur B w W2 from Tur.of_ext HE2.out)
 have HHB:=Lh (show H≠B from fun e=>by
  obtain ⟨es,cl,hm⟩:=His.out;have h1:=HP2.out.row;have h2:=(HE2.out.block B HlB.out).trans hm;rw [e,h2] at h1
  cases h1)
 have HiB:=Lh (show ∃ es cl,W2.heap[B]?=some (.map es cl) from by
  obtain ⟨es,cl,hm⟩:=His.out
  exact ⟨es,cl,(HE2.out.block B HlB.out).trans hm⟩)
 go_loopg [5,10] n (fun kk s5 s10 wr=>∃ i:Nat,s10=.int .i64 (i:Int)/\i<=n/\n-i=kk/\Tur B W2 wr/\wr.ownsMap Tryz.prog 94 (unitElem (H:=Unit)) B (keys.length+i) (setOf (.agg []) ((keys.map fun p=>kl p.1 p.2 false)++(ss.take i).map fun p=>kl (p.x ^^^ x) (p.z ^^^ z) false)))
 case atStart=>exact ⟨0,rfl,qI _,rfl,Tur.refl _ _,by simpa [HD0.out] using HM2.out⟩
 case round =>
  obtain ⟨i,rfl,hi,hkk,hT,hO⟩:=hrel;have Hkk:=Lh hkk;have HT:=Lh hT;have HO:=Lh hO
  by_cases hin:i=n
  ·have q1:¬ (i:Int)<(n:Int):=by omega
   have hst:ss.take i=ss:=qB (by have:=Hn.out;omega);rw [hst] at HO;have Hin:=Lh hin;clear hkk hi hT hO hst hin
   go_wp2_with fail
   go_end0
   refine ⟨⟨_,rfl⟩,HT2.out.trans HT.out,ss.map (fun p=>(p.x ^^^ x,p.z ^^^ z)),⟨fun p hp=>?_,?_⟩,by rw [jY];have:=Hsl.out;have:=Hsz.out;omega,fun p=>?_⟩
   ·rcases jI.1 hp with hp | hp
    ·exact Hok.out p hp
    ·obtain ⟨q,_,rfl⟩:=yU.1 hp
     exact ⟨xor_lt16 q.hx Hx.out,xor_lt16 q.hz Hz.out⟩
   ·have h1:=HO.out
    rw [yJ,List.map_map,qT,jY,Hn.out,<-Hin.out];exact h1
   ·rw [yU]
    constructor
    ·rintro ⟨q,hq,rfl⟩
     exact ⟨(q.x,q.z),((Hmem.out q).1 ((Hss.out q).1 hq)).1,rfl⟩
    ·rintro ⟨q,hq,rfl⟩
     have hqr:=Hok.out q hq;refine ⟨⟨q.1,q.2,false,hqr.1,hqr.2⟩,(Hss.out _).2 ((Hmem.out _).2 ⟨hq,rfl⟩),rfl⟩
  have hlt:i<n:=by omega
  have q1:(i:Int)<(n:Int):=by omega
  have q0:(0:Int)<=(i:Int):=by omega
  have wk:IntKind.i64.wrap ((i:Int)+1)=((i+1:Nat):Int):=by rw [qH];have:=Hac.out;have:=Hc.out;omega
  obtain ⟨p,hp⟩:∃ p,ss[i]?=some p:=⟨_,qX (by have:=Hn.out;omega)⟩;have hpsr:=hT.ps Hps.out HiB.out;obtain ⟨b,o,rfl,hb,hcells⟩:=hpsr.2.resolve_left (by omega);obtain ⟨c0,c1,c2⟩:=hcells i p hp;have hPr:=HP2.out.tur hT HHB.out;obtain ⟨W3,hW3⟩:∃ W3,wr.alloc (.cells #[.int .u16 (p.x:Int),.int .u16 (p.z:Int),.bool p.m] 94)=W3:=⟨_,rfl⟩;obtain ⟨G,hG⟩:∃ G,wr.heap.size=G:=⟨_,rfl⟩
  have E3:Ext wr W3:=by rw [<-hW3];exact ext_al _ _
  have Pp:PuB W3 G p.x p.z p.m:=by rw [<-hW3,<-hG];exact PuB.new wr _ _ _
  have Pg:=hPr.ext E3;have HE3:=Lh E3;have HW3:=Lh hW3;have HPp:=Lh Pp;have HPg:=Lh Pg;have Hlt:=Lh hlt;have Hp:=Lh hp;have Htk:=Lh (show ss.take (i+1)=ss.take i++[p] by rw [jP,hp];rfl);have HLe:=Lh (fun wx=>Letters_any p.x p.z x z p.m m wx p.hx p.hz Hx.out Hz.out);unfold pv at HLe;clear hkk hi hT hO hin hp hpsr hcells hb hPr hlt E3 Pp Pg hW3
  go_upto_region 4 with fail
  rw [HW3.out];clear c0 c1 c2 HW3 hG;have k0:=HPp.out.x0;have k1:=HPp.out.x1;have k2:=HPp.out.x2;have l0:=HPg.out.x0;have l1:=HPg.out.x1;have l2:=HPg.out.x2
  go_wp2_with fail
  refine (HLe.out W3).mono ?_;rintro e w5 ⟨rfl,h5⟩;have hown5:=own_ext HO.out (HE3.out.trans h5);have hkey:keyOf Tryz.prog 94 (.agg #[.int .u16 ((p.x ^^^ x:Nat):Int),.int .u16 ((p.z ^^^ z:Nat):Int),.bool false])=some (kl (p.x ^^^ x) (p.z ^^^ z) false):=kl_eq (xor_lt16 p.hx Hx.out) (xor_lt16 p.hz Hz.out) false;have HT5:=Lh (HT.out.trans (Tur.of_ext (HE3.out.trans h5)))
  have hbd:keys.length+i<maxLen:=by have:=Hk.out;have:=Hsl.out;have:=Hsz.out;have:=Hn.out;have:=Hlt.out;unfold maxLen;omega
  clear h5 k0 k1 k2 l0 l1 l2 HLe HE3
  go_wp2_with (at_mapUpdate;refine wpList_mapUpdate_own _ rfl _ _ _ 47 rfl 94 95 keyedP Tryz.underlying47 _ B (keys.length+i) _ rfl hown5 hbd _ _ _ rfl rfl hkey _ [] unit_val ?_;intro w6 hown6 hgrow6)
  go_roundg (n-(i+1))
  case measure=>have:=Hkk.out;have:=Hlt.out;omega
  case rel=>exact ⟨i+1,rfl,Hlt.out,rfl,HT5.out.trans (Tur.grown hgrow6),by rw [Htk.out,yJ,<-yK,yW,yI,setOf_snoc];exact hown6⟩
def cmB (p q:PK):Bool:=((pcF 16 ((p.x &&& q.z) ^^^ (p.z &&& q.x)):Nat):Int).tmod 2 == 0
theorem PsAt.ext {w w':World} {ao:Option Addr} {n:Nat} {l:List PK} (h:PsAt w ao n l) (k:Ext w w'):PsAt w' ao n l:=by
 refine ⟨h.1,?_⟩
 rcases h.2 with h0 | ⟨b,o,e,hb,hc⟩
 ·exact qM h0
 ·refine qO ⟨b,o,e,qK hb k.size,fun t p ht=>?_⟩
  obtain ⟨c0,c1,c2⟩:=hc t p ht;exact ⟨(k.cell (p:=⟨b,o+t*3,none⟩) hb).trans c0,(k.cell (p:=⟨b,o+t*3+1,none⟩) hb).trans c1,(k.cell (p:=⟨b,o+t*3+2,none⟩) hb).trans c2⟩
theorem PsAt.take {w:World} {ao:Option Addr} {n:Nat} {l:List PK} (h:PsAt w ao n l) {i:Nat} (hi:i<=n):PsAt w ao i (l.take i):=by
 refine ⟨by rw [qC];have:=h.1;omega,?_⟩
 rcases h.2 with h0 | ⟨b,o,e,hb,hc⟩
 ·exact qM (by omega)
 ·refine qO ⟨b,o,e,hb,fun t p ht=>hc t p ?_⟩
  rw [jC] at ht
  split at ht
  ·exact ht
  ·cases ht
theorem apart1_any (p q:PK) (g:Nat) (w:World) (h:PuB w g q.x q.z q.m) :
  Calls Tryz.prog 83 #[.agg #[.int .u16 (p.x:Int),.int .u16 (p.z:Int),.bool p.m],.pointer (some ⟨g,0,none⟩)] w fun e w'=>e=.returned (.bool (!(cmB p q)))/\Ext w w':=by
 obtain ⟨U,hU⟩:∃ U,w.alloc (.cells #[.int .u16 (p.x:Int),.int .u16 (p.z:Int),.bool p.m] 94)=U:=⟨_,rfl⟩;obtain ⟨H,hH⟩:∃ H,w.heap.size=H:=⟨_,rfl⟩
 have EU:Ext w U:=by rw [<-hU];exact ext_al _ _
 have P1:PuB U H p.x p.z p.m:=by rw [<-hU,<-hH];exact PuB.new w _ _ _
 have P2:=h.ext EU;have HC:=Lh (Commutes_any p.x p.z q.x q.z p.m q.m U p.hx p.hz q.hx q.hz);unfold pv at HC;obtain ⟨B,hB⟩:∃ B,cmB p q=B:=⟨_,rfl⟩;rw [hB];rw [show (((pcF 16 ((p.x &&& q.z) ^^^ (p.z &&& q.x)):Nat):Int).tmod 2 == 0)=B from hB] at HC;have k0:=P1.x0;have k1:=P1.x1;have k2:=P1.x2;have l0:=P2.x0;have l1:=P2.x1;have l2:=P2.x2;have HEU:=Lh EU;have HU:=Lh hU;have HH:=Lh hH;clear h EU P1 P2 hU hH hB
 go_enter Tryz.func83,Tryz.ntmps83
 go_upto_region 1 with fail
 rw [HU.out,HH.out];clear HU HH
 go_wp2_with fail
 refine HC.out.mono ?_;rintro e w1 ⟨rfl,h1⟩;have H1:=Lh (HEU.out.trans h1);clear h1 k0 k1 k2 l0 l1 l2
 go_wp2_with fail
 go_ret
 exact ⟨rfl,H1.out⟩
theorem indexFunc_any (l:List PK) (q:PK) (g:Nat) (ao:Option Addr) (n c:Nat) (w:World) (hl:PsAt w ao n l) (hn:n<=4096) (h:PuB w g q.x q.z q.m) :
  Calls Tryz.prog 123 #[.slice ao n c,.func (.func 83) #[] #[.pointer (some ⟨g,0,none⟩)]] w fun e w'=>(∃ r:Int,e=.returned (.int .i64 r)/\decide (0<=r)=l.any (fun p=>!(cmB p q)))/\Ext w w':=by
 have Hl:=Lh hl;have Hg:=Lh h;have Hn:=Lh hn;have Hln:=Lh (show l.length=n from hl.1);clear hl h hn
 go_enter Tryz.func123,Tryz.ntmps123
 go_wp2_with fail
 go_loopg [5,8] n (fun kk s5 s8 wr=>∃ i:Nat,s8=.int .i64 (i:Int)/\i<=n/\n-i=kk/\Ext w wr/\(l.take i).any (fun p=>!(cmB p q))=false)
 case atStart=>exact ⟨0,rfl,qI _,rfl,Ext.refl _,by simp⟩
 case round =>
  obtain ⟨i,rfl,hi,hkk,hX,ha⟩:=hrel;have Hkk:=Lh hkk;have HX:=Lh hX;have Ha:=Lh ha
  by_cases hin:i=n
  ·have q1:¬ (i:Int)<(n:Int):=by omega
   have hst:l.take i=l:=qB (by have:=Hln.out;omega);rw [hst] at Ha;clear hkk hi hX ha hst hin
   go_wp2_with fail
   go_ret
   exact ⟨⟨-1,rfl,by rw [Ha.out];rfl⟩,HX.out⟩
  have hlt:i<n:=by omega
  have q1:(i:Int)<(n:Int):=by omega
  have q0:(0:Int)<=(i:Int):=by omega
  have wk:IntKind.i64.wrap ((i:Int)+1)=((i+1:Nat):Int):=by rw [qH];have:=Hn.out;omega
  obtain ⟨p,hp⟩:∃ p,l[i]?=some p:=⟨_,qX (by have:=Hln.out;omega)⟩;obtain ⟨b,o,rfl,hb,hcells⟩:=(Hl.out.ext hX).2.resolve_left (by omega);obtain ⟨c0,c1,c2⟩:=hcells i p hp;have HA:=Lh (apart1_any p q g wr (Hg.out.ext hX));have Htk:=Lh (show l.take (i+1)=l.take i++[p] by rw [jP,hp];rfl);have Hp:=Lh hp;obtain ⟨B,hB⟩:∃ B,cmB p q=B:=⟨_,rfl⟩;rw [hB] at HA;have HB:=Lh hB;have Hlt:=Lh hlt;clear hkk hi hX ha hin hp hcells hb hlt hB
  go_wp2_with fail
  refine HA.out.mono ?_;rintro e w1 ⟨rfl,h1⟩;have H1:=Lh (HX.out.trans h1);clear h1 c0 c1 c2 HA
  cases B
  ·go_wp2_with fail
   go_ret
   refine ⟨⟨(i:Int),rfl,?_⟩,H1.out⟩;rw [jJ (by omega)]
   symm
   rw [List.any_eq_true];exact ⟨p,jL Hp.out,by rw [HB.out];rfl⟩
  ·go_wp2_with fail
   go_roundg (n-(i+1))
   case measure=>have:=Hkk.out;have:=Hlt.out;omega
   case rel=>exact ⟨i+1,rfl,Hlt.out,rfl,H1.out,by rw [Htk.out,List.any_append,Ha.out];simp [HB.out]⟩
theorem containsFunc_any (l:List PK) (q:PK) (g:Nat) (ao:Option Addr) (n c:Nat) (w:World) (hl:PsAt w ao n l) (hn:n<=4096) (h:PuB w g q.x q.z q.m) :
  Calls Tryz.prog 85 #[.slice ao n c,.func (.func 83) #[] #[.pointer (some ⟨g,0,none⟩)]] w fun e w'=>e=.returned (.bool (l.any (fun p=>!(cmB p q))))/\Ext w w':=by
 have HI:=Lh (indexFunc_any l q g ao n c w hl hn h);obtain ⟨B,hB⟩:∃ B,l.any (fun p=>!(cmB p q))=B:=⟨_,rfl⟩;rw [hB] at HI ⊢;clear hl hn h hB
 go_enter Tryz.func85,Tryz.ntmps85
 go_wp2_with fail
 refine HI.out.mono ?_;rintro e w1 ⟨⟨r,rfl,hr⟩,h1⟩;have H1:=Lh h1;have Hr:=Lh hr;clear h1 hr
 go_wp2_with fail
 go_ret
 exact ⟨by rw [<-Hr.out];rfl,H1.out⟩
open Go.RowKit Go.Maps
structure FrB (w:World) (g:Nat) (N:Int) (a:Option Addr) (n c:Nat) (mp:Option Nat):Prop where
 row:w.heap[g]?=some (.cells #[.int .i64 N,.slice a n c,.map mp] 49 (0,0))
section
variable {w w':World} {g:Nat} {N:Int} {a:Option Addr} {n c:Nat} {mp:Option Nat}
theorem FrB.lt (h:FrB w g N a n c mp):g<w.heap.size:=(gS.1 h.row).1
theorem FrB.ext (h:FrB w g N a n c mp) (k:Ext w w'):FrB w' g N a n c mp:=⟨(k.block _ h.lt).trans h.row⟩
theorem FrB.tur {B:Nat} (h:FrB w g N a n c mp) (k:Tur B w w') (hn:g≠B):FrB w' g N a n c mp:=⟨(k.block g h.lt hn).trans h.row⟩
theorem FrB.x0 (h:FrB w g N a n c mp):w.cell? ⟨g,0,none⟩=some (.int .i64 N):=by rw [qD w g 0 _ _ (0,0) h.row];rfl
theorem FrB.x1 (h:FrB w g N a n c mp):w.cell? ⟨g,1,none⟩=some (.slice a n c):=by rw [qD w g 1 _ _ (0,0) h.row];rfl
theorem FrB.x2 (h:FrB w g N a n c mp):w.cell? ⟨g,2,none⟩=some (.map mp):=by rw [qD w g 2 _ _ (0,0) h.row];rfl
end
theorem FrB.new (w:World) (N:Int) (a:Option Addr) (n c:Nat) (mp:Option Nat):FrB (w.alloc (.cells #[.int .i64 N,.slice a n c,.map mp] 49)) w.heap.size N a n c mp:=⟨qW w _⟩
def fstI (f:Nat->Bool):Nat->Nat->Int
 | 0,_=>-1
 | k+1,i=>if f i then (i:Int) else fstI f k (i+1)
theorem fstI_yes {f:Nat->Bool} {k i:Nat} (h:f i=true):fstI f (k+1) i=(i:Int):=by rw [fstI,qU h]
theorem fstI_no {f:Nat->Bool} {k i:Nat} (h:f i=false):fstI f (k+1) i=fstI f k (i+1):=by rw [fstI,qE (by rw [h];decide)]
def apAt (l:List PK) (i:Nat):Bool:=match l[i]? with
 | some q=>(l.take i).any (fun p=>!(cmB p q))
 | none=>false
def apI (l:List PK):Int:=fstI (apAt l) l.length 0
theorem firstApart_any (l:List PK) (N:Int) (ao:Option Addr) (n c:Nat) (mp:Option Nat) (w:World) (hl:PsAt w ao n l) (hn:n<=4096) (hc:n<=c) (hcm:c<=9223372036854775807) :
  Calls Tryz.prog 48 #[.agg #[.int .i64 N,.slice ao n c,.map mp]] w fun e w'=>e=.returned (.int .i64 (apI l))/\Ext w w':=by
 obtain ⟨U,hU⟩:∃ U,w.alloc (.cells #[.int .i64 N,.slice ao n c,.map mp] 49)=U:=⟨_,rfl⟩;obtain ⟨H,hH⟩:∃ H,w.heap.size=H:=⟨_,rfl⟩
 have EU:Ext w U:=by rw [<-hU];exact ext_al _ _
 have F0:FrB U H N ao n c mp:=by rw [<-hU,<-hH];exact FrB.new w _ _ _ _ _
 obtain ⟨R,hR⟩:∃ R,apI l=R:=⟨_,rfl⟩;rw [hR];have HR:=Lh hR;have Hl:=Lh (hl.ext EU);have Hn:=Lh hn;have Hln:=Lh (show l.length=n from hl.1);have Hc:=Lh hc;have Hcm:=Lh hcm;have HEU:=Lh EU;have HF:=Lh F0;have HU:=Lh hU;have HH:=Lh hH;have k1:=F0.x1;clear hl hn hc hcm EU F0 hU hH hR
 go_enter Tryz.func48,Tryz.ntmps48
 go_upto_region 1 with fail
 rw [HU.out,HH.out];clear HU HH
 go_wp2_with fail
 clear k1
 go_loopg [3,4,5,9] n (fun kk s3 s4 s5 s9 wr=>∃ i:Nat,s9=.int .i64 (i:Int)/\i<=n/\n-i=kk/\Ext U wr/\fstI (apAt l) (n-i) i=R)
 case atStart=>exact ⟨0,rfl,qI _,rfl,Ext.refl _,by rw [<-HR.out,<-Hln.out];rfl⟩
 case round =>
  obtain ⟨i,rfl,hi,hkk,hX,ha⟩:=hrel;have Hkk:=Lh hkk;have HX:=Lh hX;have Ha:=Lh ha
  by_cases hin:i=n
  ·have q1:¬ (i:Int)<(n:Int):=by omega
   have Hm:Hid (R=-1):=Lh (by rw [<-Ha.out,hin,Nat.sub_self];rfl);clear hkk hi hX ha hin
   go_wp2_with fail
   go_ret
   exact ⟨congrArg (fun b=>Ending.returned (Value.int .i64 b)) Hm.out.symm,HEU.out.trans HX.out⟩
  have hlt:i<n:=by omega
  have q1:(i:Int)<(n:Int):=by omega
  have q0:(0:Int)<=(i:Int):=by omega
  have q2:(i:Int)<=(n:Int):=by omega
  have q3:(i:Int)<=(c:Int):=by have:=Hc.out;omega
  have wk:IntKind.i64.wrap ((i:Int)+1)=((i+1:Nat):Int):=by rw [qH];have:=Hn.out;omega
  obtain ⟨q,hq⟩:∃ q,l[i]?=some q:=⟨_,qX (by have:=Hln.out;omega)⟩;have hlr:=Hl.out.ext hX;obtain ⟨b,o,rfl,hb,hcells⟩:=hlr.2.resolve_left (by omega);obtain ⟨c0,c1,c2⟩:=hcells i q hq;obtain ⟨W3,hW3⟩:∃ W3,wr.alloc (.cells #[.int .u16 (q.x:Int),.int .u16 (q.z:Int),.bool q.m] 94)=W3:=⟨_,rfl⟩;obtain ⟨G,hG⟩:∃ G,wr.heap.size=G:=⟨_,rfl⟩
  have E3:Ext wr W3:=by rw [<-hW3];exact ext_al _ _
  have Pq:PuB W3 G q.x q.z q.m:=by rw [<-hW3,<-hG];exact PuB.new wr _ _ _
  have HCf:=Lh (fun c'=>containsFunc_any (l.take i) q G (some ⟨b,o,none⟩) i c' W3 ((hlr.take (by omega)).ext E3) (by have:=Hn.out;omega) Pq);obtain ⟨B,hB⟩:∃ B,(l.take i).any (fun p=>!(cmB p q))=B:=⟨_,rfl⟩;rw [hB] at HCf;have Hap:=Lh (show apAt l i=B by unfold apAt;rw [hq];exact hB);have HE3:=Lh (HX.out.trans E3);have HW3:=Lh hW3;have Hlt:=Lh hlt;have HF3:=Lh (HF.out.ext (hX.trans E3));obtain ⟨d,hd⟩:∃ d,n-i=d+1:=⟨n-i-1,by omega⟩;have Hd:=Lh hd;clear hkk hi hX ha hin hq hlr hcells hb hlt hB E3 Pq hW3 hd
  go_upto_region 4 with fail
  rw [HW3.out];clear c0 c1 c2 HW3 hG;have k1:=HF3.out.x1
  go_wp2_with fail
  refine (HCf.out _).mono ?_;rintro e w1 ⟨rfl,h1⟩;have H1:=Lh (HE3.out.trans h1);clear h1 k1 HCf
  cases B
  ·go_wp2_with fail
   go_roundg (n-(i+1))
   case measure=>have:=Hkk.out;have:=Hlt.out;omega
   case rel=>exact ⟨i+1,rfl,Hlt.out,rfl,H1.out,by rw [<-Ha.out,Hd.out,fstI_no Hap.out];congr 1;have:=Hd.out;omega⟩
  ·have Hm:Hid (R=(i:Int)):=Lh (by rw [<-Ha.out,Hd.out,fstI_yes Hap.out])
   go_wp2_with fail
   go_ret
   exact ⟨congrArg (fun b=>Ending.returned (Value.int .i64 b)) Hm.out.symm,HEU.out.trans H1.out⟩
def gsL (l:List PK):List (Nat × Nat):=l.foldl (fun out g=>out++out.map (fun q=>(q.1 ^^^ g.x,q.2 ^^^ g.z))) [(0,0)]
theorem gsL_snoc (l:List PK) (g:PK):gsL (l++[g])=gsL l++(gsL l).map (fun q=>(q.1 ^^^ g.x,q.2 ^^^ g.z)):=by
 unfold gsL;rw [List.foldl_append]
 rfl
def SamS (keys:List (Nat × Nat)) (l:List PK):Prop:=∀ p,p ∈ keys↔p ∈ gsL l
theorem SamS.step {keys new:List (Nat × Nat)} {l:List PK} {g:PK} (h:SamS keys l) (hn:NewBy keys new g.x g.z):SamS (keys++new) (l++[g]):=fun p=>by
 rw [gsL_snoc,jI,jI,h p,hn p,yU]
 constructor
 ·rintro (h1 | ⟨q,hq,rfl⟩)
  ·exact qM h1
  ·exact qO ⟨q,(h q).1 hq,rfl⟩
 ·rintro (h1 | ⟨q,hq,rfl⟩)
  ·exact qM h1
  ·exact qO ⟨q,(h q).2 hq,rfl⟩
def dpAt (l:List PK) (i:Nat):Bool:=match l[i]? with
 | some q=>decide ((q.x,q.z) ∈ gsL (l.take i))
 | none=>false
def dpI (l:List PK):Int:=fstI (dpAt l) l.length 0
theorem fstI_ne (f:Nat->Bool):∀ k i,fstI f k i=-1->∀ j,i<=j->j<i+k->f j=false
 | 0,i,_,j,h1,h2=>by omega
 | k+1,i,h,j,h1,h2=>by
  by_cases e:f i=true
  ·rw [fstI_yes e] at h;omega
  ·have e':f i=false:=by simpa using e
   rw [fstI_no e'] at h
   by_cases ej:j=i
   ·rw [ej];exact e'
   ·exact fstI_ne f k (i+1) h j (by omega) (by omega)
theorem fillGroup_any (l:List PK) (N:Int) (ao:Option Addr) (n c B:Nat) (keys:List (Nat × Nat)) (w:World) (hl:PsAt w ao n l) (hn:n<=12) (hM:GrpM w B keys) (hk1:keys.length<=1) (hS:SamS keys []) :
  Calls Tryz.prog 49 #[.agg #[.int .i64 N,.slice ao n c,.map (some B)]] w fun e w'=>e=.returned (.int .i64 (dpI l))/\Tur B w w'/\(dpI l=-1->∃ keys',GrpM w' B keys'/\SamS keys' l):=by
 obtain ⟨U,hU⟩:∃ U,w.alloc (.cells #[.int .i64 N,.slice ao n c,.map (some B)] 49)=U:=⟨_,rfl⟩;obtain ⟨H,hH⟩:∃ H,w.heap.size=H:=⟨_,rfl⟩
 have EU:Ext w U:=by rw [<-hU];exact ext_al _ _
 have F0:FrB U H N ao n c (some B):=by rw [<-hU,<-hH];exact FrB.new w _ _ _ _ _
 have hHB:H≠B:=by have:=hM.lt;omega
 obtain ⟨R,hR⟩:∃ R,dpI l=R:=⟨_,rfl⟩;rw [hR];have HR:=Lh hR;have Hl:=Lh (hl.ext EU);have Hn:=Lh hn;have Hln:=Lh (show l.length=n from hl.1);have HEU:=Lh EU;have HF:=Lh F0;have HU:=Lh hU;have HH:=Lh hH;have HHB:=Lh hHB;have HM:=Lh (hM.ext EU);have Hk1:=Lh hk1;have HS:=Lh hS;have HiB:=Lh (hM.ext EU).is;have k1:=F0.x1;clear hl hn hM hk1 hS EU F0 hU hH hR hHB
 go_enter Tryz.func49,Tryz.ntmps49
 go_upto_region 1 with fail
 rw [HU.out,HH.out];clear HU HH
 go_wp2_with fail
 clear k1
 go_loopg [3,4,8] n (fun kk s3 s4 s8 wr=>∃ (i:Nat) (ks:List (Nat × Nat)),s8=.int .i64 (i:Int)/\i<=n/\n-i=kk/\Tur B U wr/\fstI (dpAt l) (n-i) i=R/\GrpM wr B ks/\ks.length<=2 ^ i/\SamS ks (l.take i))
 case atStart=>exact ⟨0,keys,rfl,qI _,rfl,Tur.refl _ _,by rw [<-HR.out,<-Hln.out];rfl,HM.out,Hk1.out,HS.out⟩
 case round =>
  obtain ⟨i,ks,rfl,hi,hkk,hX,ha,hG,hkl,hks⟩:=hrel;have Hkk:=Lh hkk;have HX:=Lh hX;have Ha:=Lh ha;have HG:=Lh hG;have Hkl:=Lh hkl;have Hks:=Lh hks
  by_cases hin:i=n
  ·have q1:¬ (i:Int)<(n:Int):=by omega
   have Hm:Hid (R=-1):=Lh (by rw [<-Ha.out,hin,Nat.sub_self];rfl);have hst:l.take i=l:=qB (by have:=Hln.out;omega);rw [hst] at Hks;clear hkk hi hX ha hin hG hkl hks hst
   go_wp2_with fail
   go_ret
   exact ⟨congrArg (fun b=>Ending.returned (Value.int .i64 b)) Hm.out.symm,(Tur.of_ext HEU.out).trans HX.out,fun _=>⟨ks,HG.out,Hks.out⟩⟩
  have hlt:i<n:=by omega
  have q1:(i:Int)<(n:Int):=by omega
  have q0:(0:Int)<=(i:Int):=by omega
  have wk:IntKind.i64.wrap ((i:Int)+1)=((i+1:Nat):Int):=by rw [qH];have:=Hn.out;omega
  obtain ⟨q,hq⟩:∃ q,l[i]?=some q:=⟨_,qX (by have:=Hln.out;omega)⟩;have hlr:=hX.ps Hl.out HiB.out;obtain ⟨b,o,rfl,hb,hcells⟩:=hlr.2.resolve_left (by omega);obtain ⟨c0,c1,c2⟩:=hcells i q hq;obtain ⟨W3,hW3⟩:∃ W3,wr.alloc (.cells #[.int .u16 (q.x:Int),.int .u16 (q.z:Int),.bool q.m] 94)=W3:=⟨_,rfl⟩;obtain ⟨G,hGG⟩:∃ G,wr.heap.size=G:=⟨_,rfl⟩
  have E3:Ext wr W3:=by rw [<-hW3];exact ext_al _ _
  have Pq:PuB W3 G q.x q.z q.m:=by rw [<-hW3,<-hGG];exact PuB.new wr _ _ _
  have hb4096:ks.length<=4096:=qL hkl (qL (qY (by decide) (show i<=12 by have:=Hn.out;omega)) (by decide));have Hha:=Lh (has_any B ks q.x q.z q.m W3 (hG.ext E3) q.hx q.hz);have Hgr:=Lh (fun wx (hx:Ext W3 wx)=>grow_any B ks q.x q.z q.m wx ((hG.ext E3).ext hx) q.hx q.hz (by omega));unfold pv at Hha Hgr;obtain ⟨Bb,hBb⟩:∃ Bb,decide ((q.x,q.z) ∈ ks)=Bb:=⟨_,rfl⟩;rw [hBb] at Hha
  have Hap:=Lh (show dpAt l i=Bb by
   unfold dpAt;rw [hq,<-hBb]
   exact yN.2 (hks _).symm)
  have HE3:=Lh E3;have HW3:=Lh hW3;have Hlt:=Lh hlt;have HF3:=Lh ((HF.out.tur hX HHB.out).ext E3);have HPq:=Lh Pq;have Htk:=Lh (show l.take (i+1)=l.take i++[q] by rw [jP,hq];rfl);obtain ⟨d,hd⟩:∃ d,n-i=d+1:=⟨n-i-1,by omega⟩;have Hd:=Lh hd;clear hkk hi hX ha hin hq hlr hcells hb hlt hBb E3 Pq hW3 hd hG hkl hks hb4096
  go_upto_region 4 with fail
  rw [HW3.out];clear c0 c1 c2 HW3 hGG;have k2:=HF3.out.x2;have p0:=HPq.out.x0;have p1:=HPq.out.x1;have p2:=HPq.out.x2
  go_wp2_with fail
  refine Hha.out.mono ?_;rintro e w1 ⟨rfl,h1⟩;have H1:=Lh h1;clear h1 k2 p0 p1 p2 Hha
  cases Bb
  ·have k2:=(HF3.out.ext H1.out).x2;have p0:=(HPq.out.ext H1.out).x0;have p1:=(HPq.out.ext H1.out).x1;have p2:=(HPq.out.ext H1.out).x2
   go_wp2_with fail
   refine (Hgr.out w1 H1.out).mono ?_;rintro e w2 ⟨⟨v,rfl⟩,hT,new,hG2,hnl,hnb⟩;have HT:=Lh ((HX.out.trans (Tur.of_ext (HE3.out.trans H1.out))).trans hT);have HG2:=Lh hG2;have Hnl:=Lh hnl;have Hnb:=Lh hnb;clear hT hG2 hnl hnb k2 p0 p1 p2 Hgr
   go_wp2_with fail
   go_roundg (n-(i+1))
   case measure=>have:=Hkk.out;have:=Hlt.out;omega
   case rel=>exact ⟨i+1,ks++new,rfl,Hlt.out,rfl,HT.out,by rw [<-Ha.out,Hd.out,fstI_no Hap.out];congr 1;have:=Hd.out;omega,HG2.out,by rw [qT,jK];have:=Hnl.out;have:=Hkl.out;omega,by rw [Htk.out];exact Hks.out.step Hnb.out⟩
  ·have Hm:Hid (R=(i:Int)):=Lh (by rw [<-Ha.out,Hd.out,fstI_yes Hap.out])
   go_wp2_with fail
   go_ret
   exact ⟨congrArg (fun b=>Ending.returned (Value.int .i64 b)) Hm.out.symm,(Tur.of_ext HEU.out).trans (HX.out.trans (Tur.of_ext (HE3.out.trans H1.out))),fun h=>by have:=Hm.out;omega⟩
def paX (n:Nat) (T:List UInt8):Nat:=if isP n T then nX (T.drop 1) else 0
def paZ (n:Nat) (T:List UInt8):Nat:=if isP n T then nZz (T.drop 1) else 0
def paM (n:Nat) (T:List UInt8):Bool:=isP n T && (T.headD 0 == 45)
theorem PuB.f {w:World} {g x z:Nat} {m:Bool} (h:PuB w g x z m) (k:Nat):w.frozen? ⟨g,k,none⟩=false:=jQ w g k _ _ h.row
theorem row3 {w:World} {g:Nat} {a b c:Value} (h:w.heap[g]?=some (.cells #[a,b,c] 94 (0,0))) (a' b' c':Value):(((w.setCell ⟨g,0,none⟩ a').setCell ⟨g,1,none⟩ b').setCell ⟨g,2,none⟩ c').heap[g]?=some (.cells #[a',b',c'] 94 (0,0)):=by
 have x:=yZ w g 0 _ _ a' h;have y:=yZ _ g 1 _ _ b' x;have z:=yZ _ g 2 _ _ c' y
 simpa using z
theorem cells3 {w:World} {g:Nat} {a b c:Value} (h:w.heap[g]?=some (.cells #[a,b,c] 94 (0,0))):w.cell? ⟨g,0,none⟩=some a/\w.cell? ⟨g,1,none⟩=some b/\w.cell? ⟨g,2,none⟩=some c/\∀ k,w.frozen? ⟨g,k,none⟩=false :=
 ⟨by rw [qD w g 0 _ _ (0,0) h];rfl,by rw [qD w g 1 _ _ (0,0) h];rfl,by rw [qD w g 2 _ _ (0,0) h];rfl,fun k=>jQ w g k _ _ h⟩
theorem put3x {w w':World} {g:Nat} (h:Ext w w') (hg:w.heap.size<=g) (a b c:Value):Ext w (((w'.setCell ⟨g,0,none⟩ a).setCell ⟨g,1,none⟩ b).setCell ⟨g,2,none⟩ c):=yD (yD (yD h (p:=⟨g,0,none⟩) hg a) (p:=⟨g,1,none⟩) hg b) (p:=⟨g,2,none⟩) hg c
theorem PuB.put0 {w:World} {g x z:Nat} {m:Bool} (h:PuB w g x z m) (x':Nat):PuB (w.setCell ⟨g,0,none⟩ (.int .u16 (x':Int))).drew g x' z m:=⟨by
 have a:=yZ w g 0 _ _ (.int .u16 (x':Int)) h.row
 have b:(w.setCell ⟨g,0,none⟩ (.int .u16 (x':Int))).heap[g]?=some (.cells #[.int .u16 (x':Int),.int .u16 (z:Int),.bool m] 94 (0,0)):=by simpa using a
 exact b⟩
theorem PuB.put1 {w:World} {g x z:Nat} {m:Bool} (h:PuB w g x z m) (z':Nat):PuB (w.setCell ⟨g,1,none⟩ (.int .u16 (z':Int))).drew g x z' m:=⟨by
 have a:=yZ w g 1 _ _ (.int .u16 (z':Int)) h.row
 have b:(w.setCell ⟨g,1,none⟩ (.int .u16 (z':Int))).heap[g]?=some (.cells #[.int .u16 (x:Int),.int .u16 (z':Int),.bool m] 94 (0,0)):=by simpa using a
 exact b⟩
theorem put1x {w w':World} {g k:Nat} (h:Ext w w') (hg:w.heap.size<=g) (a:Value):Ext w (w'.setCell ⟨g,k,none⟩ a).drew:=qG (yD h (p:=⟨g,k,none⟩) hg a)
theorem lno_parts (y:UInt8):lno y % 2=(if lx y then 1 else 0)/\lno y / 2=(if lz y then 1 else 0)/\lno y<4:=by
 unfold lno
 split<;>split<;>omega
theorem and_one {k:Nat} (h:k<4):bits .and .i64 (k:Int) 1=((k % 2:Nat):Int):=by
 match k,h with
 | 0,_=>decide
 | 1,_=>decide
 | 2,_=>decide
 | 3,_=>decide
theorem wrapu {k:Nat} (h:k<65536):IntKind.u16.wrap (k:Int)=(k:Int):=by
 rw [show IntKind.u16.wrap (k:Int)=((k:Int) % 65536) from rfl];omega
theorem ixb {y:UInt8} (h:isL y=true):Lib.indexByte [73,88,90,89] y=(lno y:Int):=by
 rcases isL_cases h with rfl | rfl | rfl | rfl<;>decide
theorem ixb_no {y:UInt8} (h:isL y=false):Lib.indexByte [73,88,90,89] y=-1:=by
 unfold isL at h;simp only [Bool.or_eq_false_iff,qV] at h;obtain ⟨⟨⟨h1,h2⟩,h3⟩,h4⟩:=h
 have f:∀ k:UInt8,y≠k->(k == y)=false:=fun k hk=>qV.2 (fun e=>hk e.symm)
 simp [Lib.indexByte,f 73 h1,f 88 h2,f 89 h3,f 90 h4]
theorem or_u16 {x y:Nat} (hx:x<65536) (hy:y<65536):bits .or .u16 (x:Int) (y:Int)=((x ||| y:Nat):Int):=by
 show IntKind.u16.wrap ((BitVec.ofInt 16 (x:Int) ||| BitVec.ofInt 16 (y:Int)).toNat:Int)=_
 rw [BitVec.toNat_or,u16_bv hx,u16_bv hy];have:x ||| y<2 ^ 16:=Nat.or_lt_two_pow (n:=16) hx hy;rw [show IntKind.u16.wrap ((x ||| y:Nat):Int)=(((x ||| y:Nat):Int) % 65536) from rfl];omega
theorem or_plus {a i:Nat} (b:Nat) (h:a<2 ^ i):a ||| (b*2 ^ i)=a+b*2 ^ i:=by
 rw [Nat.or_comm,jU,<-Nat.two_pow_add_eq_or_of_lt h,Nat.add_comm]
theorem pParse_any (T:List UInt8) (n:Nat) (w:World) (hn1:1<=n) (hn:n<=12) (hT:T.length<=9223372036854775807) :
  Calls Tryz.prog 47 #[.string ⟨T.toArray⟩,.int .i64 (n:Int)] w fun e w'=>e=.returned (.tuple #[.agg #[.int .u16 (paX n T:Int),.int .u16 (paZ n T:Int),.bool (paM n T)],.bool (isP n T)])/\Ext w w':=by
 have hsT:(⟨T.toArray⟩:ByteArray).size=T.length:=by simp [ByteArray.size]
 obtain ⟨B,hB⟩:∃ B,isP n T=B:=⟨_,rfl⟩;obtain ⟨X,hX⟩:∃ X,paX n T=X:=⟨_,rfl⟩;obtain ⟨Z,hZ⟩:∃ Z,paZ n T=Z:=⟨_,rfl⟩;obtain ⟨M,hM⟩:∃ M,paM n T=M:=⟨_,rfl⟩;have H1:=Lh (show T.length≠n+1->B=false from fun h=>by rw [<-hB];unfold isP;rw [jE h];rfl);have H2:=Lh (show T.headD 0≠43->T.headD 0≠45->B=false from fun h k=>by rw [<-hB];unfold isP;rw [show (T.headD 0 == 43)=false from qV.2 h,show (T.headD 0 == 45)=false from qV.2 k];simp)
 have H3:=Lh (show ∀ (i:Nat) (y:UInt8),(T.drop 1)[i]?=some y->isL y=false->B=false from fun i y h1 h2=>by
  rw [<-hB]
  by_cases e:isP n T=false
  ·exact e
  ·exfalso
   have:=(isP_iff.1 (by simpa using e)).2.2 y (jL h1);rw [h2] at this
   exact absurd this (by decide))
 have H4:=Lh (show T.length=n+1->(T.headD 0=43\/T.headD 0=45)->(∀ c ∈ T.drop 1,isL c=true)->B=true/\X=nX (T.drop 1)/\Z=nZz (T.drop 1)/\M=(T.headD 0 == 45) from fun h1 h2 h3=>by
  have h:=isP_iff.2 ⟨h1,h2,h3⟩
  refine ⟨by rw [<-hB];exact h,by rw [<-hX];unfold paX;rw [qU h],by rw [<-hZ];unfold paZ;rw [qU h],by rw [<-hM];unfold paM;rw [h];rfl⟩)
 have H5:=Lh (show B=false->X=0/\Z=0/\M=false from fun h=>by
  have h':isP n T=false:=hB.trans h
  refine ⟨by rw [<-hX];unfold paX;rw [h'];rfl,by rw [<-hZ];unfold paZ;rw [h'];rfl,by rw [<-hM];unfold paM;rw [h'];rfl⟩)
 rw [hB,hX,hZ,hM];clear hB hX hZ hM;obtain ⟨H,hH⟩:∃ H,w.heap.size=H:=⟨_,rfl⟩;obtain ⟨W0,hW0⟩:∃ W0,w.alloc (.cells #[.int .u16 0,.int .u16 0,.bool false] 94)=W0:=⟨_,rfl⟩
 have E0:Ext w W0:=by rw [<-hW0];exact ext_al _ _
 have P0:W0.heap[H]?=some (.cells #[.int .u16 0,.int .u16 0,.bool false] 94 (0,0)):=by rw [<-hW0,<-hH];exact qW w _
 have HR0:=Lh P0;have HE0:=Lh E0;have HW0:=Lh hW0;have HH:=Lh hH;have HwH:=Lh (show w.heap.size<=H by omega);clear P0 E0 hW0 hH
 go_enter Tryz.func47,Tryz.ntmps47
 go_upto_region 1 with fail
 rw [HW0.out,HH.out];clear HW0 HH
 have hv:IntKind.i64.wrap ((n:Int)+1)=(n:Int)+1:=by rw [qH];omega
 by_cases n2:T.length=n+1
 rotate_left 1
 ·have q2:((T.length:Int) != (n:Int)+1)=true:=nt (by omega)
  have hB:=H1.out n2;obtain ⟨rfl,rfl,rfl⟩:=H5.out hB;subst hB;obtain ⟨c0,c1,c2,f⟩:=cells3 HR0.out;have f0:=f 0;have f1:=f 1;have f2:=f 2;obtain ⟨z0,z1,z2,_⟩:=cells3 (row3 HR0.out (.int .u16 0) (.int .u16 0) (.bool false));have HEz:=Lh (put3x HE0.out HwH.out (.int .u16 0) (.int .u16 0) (.bool false));clear H1 H2 H3 H4 H5 n2 f
  go_upto_region 2 with fail
  go_wp2_with fail
  exact qJ (v:=.tuple #[.agg #[.int .u16 0,.int .u16 0,.bool false],.bool false]) (by simp [results,Tryz.results47,go_sem,z0,z1,z2]) rfl ⟨rfl,HEz.out⟩
 have HTl:=Lh n2;have q2:((T.length:Int) != (n:Int)+1)=false:=nf' (by omega);obtain ⟨x,hx⟩:∃ x,T[0]?=some x:=⟨_,qX (by omega)⟩;have hsz0:0<(⟨T.toArray⟩:ByteArray).size:=str_lt (by omega)
 have hsz1:(0:Int)<(T.length:Int):=by omega
 have hg0:=let_at hx hsz0;have hhd:=head_at hx;rw [hhd] at H2 H4
 by_cases n3:x=43\/x=45
 rotate_left 1
 ·have q3:((x.toNat:Int) != 43)=true:=nt (u8_ne (k:=43) (by decide) (fun e=>n3 (qM e)))
  have q4:((x.toNat:Int) != 45)=true:=nt (u8_ne (k:=45) (by decide) (fun e=>n3 (qO e)));have hB:=H2.out (fun e=>n3 (qM e)) (fun e=>n3 (qO e));obtain ⟨rfl,rfl,rfl⟩:=H5.out hB;subst hB;obtain ⟨c0,c1,c2,f⟩:=cells3 HR0.out;have f0:=f 0;have f1:=f 1;have f2:=f 2;obtain ⟨z0,z1,z2,_⟩:=cells3 (row3 HR0.out (.int .u16 0) (.int .u16 0) (.bool false));have HEz:=Lh (put3x HE0.out HwH.out (.int .u16 0) (.int .u16 0) (.bool false));clear H1 H2 H3 H4 H5 n2 n3 hx hhd f
  go_upto_region 2 with fail
  go_wp2_with fail
  exact qJ (v:=.tuple #[.agg #[.int .u16 0,.int .u16 0,.bool false],.bool false]) (by simp [results,Tryz.results47,go_sem,z0,z1,z2]) rfl ⟨rfl,HEz.out⟩
 have Hmid:=Lh (fun h=>H4.out n2 n3 h);have Hg0:=Lh hg0;obtain ⟨mi,hmi⟩:∃ mi:Bool,(x == 45)=mi:=⟨_,rfl⟩;rw [hmi] at Hmid
 have hq5:((x.toNat:Int) == 45)=mi:=by rw [<-hmi];exact u8_eqb x 45
 clear H1 H2 H4 n2 hhd hx hmi
 go_cut [23] from 9 to 23 (fun s23 wx=>W0=wx/\s23=.bool false)
 case first =>
  rcases n3 with rfl | rfl
  ·have hg1':((⟨T.toArray⟩:ByteArray)[0]'hsz0).toNat=43:=hg0
   clear hg0
   go_wp2_with fail
   go_meet
   exact ⟨rfl,rfl⟩
  ·have hg1':((⟨T.toArray⟩:ByteArray)[0]'hsz0).toNat=45:=hg0
   clear hg0
   go_wp2_with fail
   go_meet
   exact ⟨rfl,rfl⟩
 case rest =>
 obtain ⟨rfl,rfl⟩:=hcut;clear q2 n3;obtain ⟨W1,hW1⟩:∃ W1,W0.alloc (.cells #[.int .u16 0,.int .u16 0,.bool mi] 94)=W1:=⟨_,rfl⟩;obtain ⟨G,hG⟩:∃ G,W0.heap.size=G:=⟨_,rfl⟩
 have E1:Ext W0 W1:=by rw [<-hW1];exact ext_al _ _
 have P1:PuB W1 G 0 0 mi:=⟨by rw [<-hW1,<-hG];exact qW W0 _⟩;have HX1:=Lh E1;have HE1:=Lh (HE0.out.trans E1);have HP1:=Lh P1;have HW1:=Lh hW1;have HR1:=Lh ((E1.block H (gS.1 HR0.out).1).trans HR0.out);have HGe:=Lh (show W0.heap.size=G from hG);have HHG:=Lh (show H<G by rw [<-hG];exact (gS.1 HR0.out).1);clear E1 P1 hW1
 go_upto_region 4 with fail
 rw [HW1.out];clear HW1 hG hg0 hq5
 go_wp2_with fail
 go_loopg [7,8,30] n (fun kk s7 s8 s30 wr=>∃ i:Nat,s30=.int .i64 (i:Int)/\i<=n/\n-i=kk/\PuB wr G (nX ((T.drop 1).take i)) (nZz ((T.drop 1).take i)) mi/\Ext W0 wr/\Ext w wr/\∀ c ∈ (T.drop 1).take i,isL c=true)
 case atStart=>exact ⟨0,rfl,qI _,rfl,by simpa [nX,nZz] using HP1.out,HX1.out,HE1.out,fun c hc=>by simp at hc⟩
 case round =>
  obtain ⟨i,rfl,hi,hkk,hP,hX,hE,hall⟩:=hrel;have Hkk:=Lh hkk;have HP:=Lh hP;have HX:=Lh hX;have HE:=Lh hE;have Hall:=Lh hall;have HRr:=Lh ((hX.block H (gS.1 HR0.out).1).trans HR0.out)
  by_cases hin:i=n
  ·have q1:¬ (i:Int)<(n:Int):=by omega
   have hst:(T.drop 1).take i=T.drop 1:=qB (by rw [qF];have:=HTl.out;omega);rw [hst] at HP Hall;obtain ⟨hB,hX',hZ',hM'⟩:=Hmid.out Hall.out;rw [<-hX',<-hZ'] at HP;subst hB;subst hM';obtain ⟨c0,c1,c2,f⟩:=cells3 HRr.out;have f0:=f 0;have f1:=f 1;have f2:=f 2;have p0:=HP.out.x0;have p1:=HP.out.x1;have p2:=HP.out.x2;obtain ⟨z0,z1,z2,_⟩:=cells3 (row3 HRr.out (.int .u16 (X:Int)) (.int .u16 (Z:Int)) (.bool M));have HEz:=Lh (put3x HE.out HwH.out (.int .u16 (X:Int)) (.int .u16 (Z:Int)) (.bool M));clear hkk hi hP hX hE hall hst hin f hX' hZ' H3 H5 Hmid
   go_wp2_with fail
   exact qJ (v:=.tuple #[.agg #[.int .u16 (X:Int),.int .u16 (Z:Int),.bool M],.bool true]) (by simp [results,Tryz.results47,go_sem,z0,z1,z2]) rfl ⟨rfl,HEz.out⟩
  have hlt:i<n:=by omega
  have q1:(i:Int)<(n:Int):=by omega
  have q0:(0:Int)<=(i:Int)+1:=by omega
  have q00:(0:Int)<=(i:Int):=by omega
  have q9:(i:Int)+1<(T.length:Int):=by have:=HTl.out;omega
  have wk:IntKind.i64.wrap ((i:Int)+1)=(i:Int)+1:=by rw [qH];omega
  obtain ⟨y,hy⟩:∃ y,(T.drop 1)[i]?=some y:=⟨_,qX (by rw [qF];have:=HTl.out;omega)⟩
  have hy':T[i+1]?=some y:=by rw [List.getElem?_drop] at hy;rw [show i+1=1+i by omega];exact hy
  have hsy:i+1<(⟨T.toArray⟩:ByteArray).size:=str_lt (by have:=HTl.out;omega);have hgy:=let_at hy' hsy
  have htn:((i:Int)+1).toNat=i+1:=by omega
  have HIx:=Lh (fun wx=>Tryz.strings_IndexByte ⟨#[73,88,90,89]⟩ (y.toNat:Int) wx)
  have hyy:((y.toNat:Int)).toNat.toUInt8=y:=by simp
  rw [hyy] at HIx;have Hy:=Lh hy;have Hlt:=Lh hlt
  by_cases hL:isL y=true
  rotate_left 1
  ·have hLf:isL y=false:=by simpa using hL
   have hB:=H3.out i y hy hLf;obtain ⟨rfl,rfl,rfl⟩:=H5.out hB;subst hB;rw [show ((⟨#[73,88,90,89]⟩:ByteArray).data.toList)=[73,88,90,89] from rfl,ixb_no hLf] at HIx;obtain ⟨c0,c1,c2,f⟩:=cells3 HRr.out;have f0:=f 0;have f1:=f 1;have f2:=f 2;obtain ⟨z0,z1,z2,_⟩:=cells3 (row3 HRr.out (.int .u16 0) (.int .u16 0) (.bool false));have HEz:=Lh (put3x HE.out HwH.out (.int .u16 0) (.int .u16 0) (.bool false));clear hkk hi hP hX hE hall hin f H3 H5 Hmid hL hLf hy hy' hyy hlt
   go_wp2_with fail
   refine (HIx.out wr).mono ?_;rintro e w1 ⟨rfl,rfl⟩;clear HIx
   go_wp2_with fail
   exact qJ (v:=.tuple #[.agg #[.int .u16 0,.int .u16 0,.bool false],.bool false]) (by simp [results,Tryz.results47,go_sem,z0,z1,z2]) rfl ⟨rfl,HEz.out⟩
  rw [show ((⟨#[73,88,90,89]⟩:ByteArray).data.toList)=[73,88,90,89] from rfl,ixb hL] at HIx;obtain ⟨ln,hln⟩:∃ ln,lno y=ln:=⟨_,rfl⟩;rw [hln] at HIx;have hpt:=lno_parts y;rw [hln] at hpt;obtain ⟨xi,hxi⟩:∃ xi,nX ((T.drop 1).take i)=xi:=⟨_,rfl⟩;obtain ⟨zi,hzi⟩:∃ zi,nZz ((T.drop 1).take i)=zi:=⟨_,rfl⟩
  have hli:((T.drop 1).take i).length=i:=by rw [qC,qF];have:=HTl.out;omega
  have bxi:xi<2 ^ i:=by have:=nX_lt ((T.drop 1).take i);rw [hli,hxi] at this;exact this
  have bzi:zi<2 ^ i:=by have:=nZz_lt ((T.drop 1).take i);rw [hli,hzi] at this;exact this
  have htk:(T.drop 1).take (i+1)=(T.drop 1).take i++[y]:=by rw [jP,hy];rfl
  have HxN:=Lh (show nX ((T.drop 1).take (i+1))=xi+ln % 2*2 ^ i by rw [htk,nX_snoc,hxi,hli,hpt.1]);have HzN:=Lh (show nZz ((T.drop 1).take (i+1))=zi+ln / 2*2 ^ i by rw [htk,nZz_snoc,hzi,hli,hpt.2.1])
  have HaN:=Lh (show ∀ c ∈ (T.drop 1).take (i+1),isL c=true from fun c hc=>by
   rw [htk] at hc
   rcases jI.1 hc with hc | hc
   ·exact Hall.out c hc
   ·have:c=y:=by simpa using hc
    rw [this];exact hL)
  have hpw:2 ^ i<=2 ^ 11:=qY (by decide) (by omega)
  have hcast:((2 ^ i:Nat):Int)=(2:Int) ^ i:=by rw [Int.natCast_pow];rfl
  obtain ⟨A,hA⟩:∃ A,ln % 2*2 ^ i=A:=⟨_,rfl⟩;obtain ⟨Bq,hBq⟩:∃ Bq,ln / 2*2 ^ i=Bq:=⟨_,rfl⟩
  have hl2:ln % 2<=1/\ln / 2<=1:=by omega
  have bA:A<=2 ^ i:=by rw [<-hA];exact qL (qS _ hl2.1) (by omega)
  have bB:Bq<=2 ^ i:=by rw [<-hBq];exact qL (qS _ hl2.2) (by omega)
  have o1:xi ||| A=xi+A:=by rw [<-hA];exact or_plus _ bxi
  have o2:zi ||| Bq=zi+Bq:=by rw [<-hBq];exact or_plus _ bzi
  have r1:=and_one hpt.2.2;obtain ⟨a,ha⟩:∃ a,ln % 2=a:=⟨_,rfl⟩;obtain ⟨b,hb⟩:∃ b,ln / 2=b:=⟨_,rfl⟩;have r2:IntKind.u16.wrap (a:Int)=(a:Int):=wrapu (by omega)
  have r3:IntKind.u16.wrap ((a:Int)*2 ^ i)=(A:Int):=by
   rw [<-hcast,<-qP,<-ha,hA];exact wrapu (by have h11:(2:Nat) ^ 11=2048:=(by decide);omega)
  have r4:bits .or .u16 (xi:Int) (A:Int)=((xi+A:Nat):Int):=by
   rw [or_u16 (by have h11:(2:Nat) ^ 11=2048:=(by decide);omega) (by have h11:(2:Nat) ^ 11=2048:=(by decide);omega),o1]
  have s1:(ln:Int) / 2=(b:Int):=by omega
  have s2:IntKind.u16.wrap (b:Int)=(b:Int):=wrapu (by omega)
  have s3:IntKind.u16.wrap ((b:Int)*2 ^ i)=(Bq:Int):=by
   rw [<-hcast,<-qP,<-hb,hBq];exact wrapu (by have h11:(2:Nat) ^ 11=2048:=(by decide);omega)
  have s4:bits .or .u16 (zi:Int) (Bq:Int)=((zi+Bq:Nat):Int):=by
   rw [or_u16 (by have h11:(2:Nat) ^ 11=2048:=(by decide);omega) (by have h11:(2:Nat) ^ 11=2048:=(by decide);omega),o2]
  rw [ha] at r1;rw [hA] at HxN;rw [hBq] at HzN;rw [hxi,hzi] at HP;obtain ⟨xn,hxn⟩:∃ xn,xi+A=xn:=⟨_,rfl⟩;obtain ⟨zn,hzn⟩:∃ zn,zi+Bq=zn:=⟨_,rfl⟩;rw [hxn] at r4 HxN;rw [hzn] at s4 HzN
  have hq4:¬ ((ln:Int)<0):=by omega
  have hq4':decide ((ln:Int)<0)=false:=jE hq4;clear hkk hi hP hX hE hall hin H3 H5 Hmid hy hy' hyy hlt hln hpt hxi hzi hli bxi bzi htk hpw hcast hA hBq hl2 bA bB o1 o2 ha hb hxn hzn hL
  go_wp2_with fail
  refine (HIx.out wr).mono ?_;rintro e w1 ⟨rfl,hw1⟩;subst hw1;have p0:=HP.out.x0;have p1:=HP.out.x1;have p2:=HP.out.x2;have f0:=HP.out.f 0;have f1:=HP.out.f 1;have HQ0:=Lh (HP.out.put0 xn);have HwG:=Lh (show W0.heap.size<=G by have:=HGe.out;omega);have HXa:=Lh (put1x (k:=0) HX.out HwG.out (.int .u16 (xn:Int)));have HEa:=Lh (put1x (g:=G) (k:=0) HE.out (by have:=HwH.out;have:=HHG.out;omega) (.int .u16 (xn:Int)));clear HIx
  go_upto_region 10 with fail
  go_region
  clear p0 p1 p2 f0 f1 r1 r2 r3 r4;generalize (w1.setCell ⟨G,0,none⟩ (.int .u16 (xn:Int))).drew=W4 at *;have p0:=HQ0.out.x0;have p1:=HQ0.out.x1;have p2:=HQ0.out.x2;have f0:=HQ0.out.f 0;have f1:=HQ0.out.f 1;have HQ1:=Lh (HQ0.out.put1 zn);have HXb:=Lh (put1x (k:=1) HXa.out HwG.out (.int .u16 (zn:Int)));have HEb:=Lh (put1x (g:=G) (k:=1) HEa.out (by have:=HwH.out;have:=HHG.out;omega) (.int .u16 (zn:Int)))
  go_upto_region 11 with fail
  go_region
  clear p0 p1 p2 f0 f1 s1 s2 s3 s4;generalize (W4.setCell ⟨G,1,none⟩ (.int .u16 (zn:Int))).drew=W5 at *
  go_wp2_with fail
  go_roundg (n-(i+1))
  case measure=>have:=Hkk.out;have:=Hlt.out;omega
  case rel=>exact ⟨i+1,by congr 1,Hlt.out,rfl,by rw [HxN.out,HzN.out];exact HQ1.out,HXb.out,HEb.out,HaN.out⟩
def numB:List Bool->Nat
 | []=>0
 | b :: r=>(if b then 1 else 0)+2*numB r
theorem numB_lt:∀ l:List Bool,numB l<2 ^ l.length
 | []=>by simp [numB]
 | b :: r=>by
  have:=numB_lt r;rw [jB,jK,numB]
  split<;>omega
theorem numB_snoc:∀ (l:List Bool) (b:Bool),numB (l++[b])=numB l+(if b then 1 else 0)*2 ^ l.length
 | [],b=>by simp [numB]
 | c :: r,b=>by
  rw [List.cons_append,numB,numB,numB_snoc r b,jB,jK]
  split<;>split<;>omega
theorem numB_at:∀ (l:List Bool) (i:Nat) (b:Bool),l[i]?=some b->numB l / 2 ^ i % 2=if b then 1 else 0
 | [],i,b,h=>by simp at h
 | a :: r,0,b,h=>by
  have:a=b:=by simpa using h
  rw [this,numB,Nat.pow_zero,Nat.div_one]
  split<;>omega
 | a :: r,i+1,b,h=>by
  have ih:=numB_at r i b (by simpa using h)
  rw [numB,jK,jU (2 ^ i) 2,<-Nat.div_div_eq_div_mul,show ((if a=true then 1 else 0)+2*numB r) / 2=numB r by split<;>omega]
  exact ih
def shN (l:List PK) (p:PK):Nat:=numB (l.map fun g=>!(cmB p g))
theorem shown_any (l:List PK) (p:PK) (N:Int) (ao:Option Addr) (n c:Nat) (mp:Option Nat) (w:World) (hl:PsAt w ao n l) (hn:n<=12) :
  Calls Tryz.prog 68 #[.agg #[.int .i64 N,.slice ao n c,.map mp],.agg #[.int .u16 (p.x:Int),.int .u16 (p.z:Int),.bool p.m]] w fun e w'=>e=.returned (.int .u16 (shN l p:Int))/\Ext w w':=by
 obtain ⟨U1,hU1⟩:∃ U,w.alloc (.cells #[.int .i64 N,.slice ao n c,.map mp] 49)=U:=⟨_,rfl⟩;obtain ⟨U,hU⟩:∃ U,U1.alloc (.cells #[.int .u16 (p.x:Int),.int .u16 (p.z:Int),.bool p.m] 94)=U:=⟨_,rfl⟩;obtain ⟨H,hH⟩:∃ H,w.heap.size=H:=⟨_,rfl⟩
 have s1:U1.heap.size=H+1:=by rw [<-hU1,<-hH];simp
 have E1:Ext w U1:=by rw [<-hU1];exact ext_al _ _
 have E2:Ext U1 U:=by rw [<-hU];exact ext_al _ _
 have F0:FrB U H N ao n c mp:=FrB.ext (by rw [<-hU1,<-hH];exact FrB.new w _ _ _ _ _) E2
 have P0:PuB U (H+1) p.x p.z p.m:=by rw [<-hU,<-s1];exact PuB.new U1 _ _ _
 have Hl:=Lh (hl.ext (E1.trans E2));have Hn:=Lh hn;have Hln:=Lh (show l.length=n from hl.1);have HEU:=Lh (E1.trans E2);have HF:=Lh F0;have HP:=Lh P0;have HU1:=Lh hU1;have HU:=Lh hU;have HH:=Lh hH;have k1:=F0.x1;clear hl hn E1 E2 F0 P0 hU hU1 hH s1
 go_enter Tryz.func68,Tryz.ntmps68
 go_upto_region 2 with fail
 rw [HU1.out,HU.out,HH.out];clear HU1 HU HH
 go_wp2_with fail
 clear k1
 go_loopg [5,6,7,11] n (fun kk s5 s6 s7 s11 wr=>∃ i:Nat,s11=.int .i64 (i:Int)/\s5=.int .u16 (shN (l.take i) p:Int)/\i<=n/\n-i=kk/\Ext U wr)
 case atStart=>exact ⟨0,rfl,by simp [shN,numB],qI _,rfl,Ext.refl _⟩
 case round =>
  obtain ⟨i,rfl,rfl,hi,hkk,hX⟩:=hrel;have Hkk:=Lh hkk;have HX:=Lh hX
  by_cases hin:i=n
  ·have q1:¬ (i:Int)<(n:Int):=by omega
   have hst:l.take i=l:=qB (by have:=Hln.out;omega);rw [hst];clear hkk hi hX hin hst
   go_wp2_with fail
   go_ret
   exact ⟨rfl,HEU.out.trans HX.out⟩
  have hlt:i<n:=by omega
  have q1:(i:Int)<(n:Int):=by omega
  have q0:(0:Int)<=(i:Int):=by omega
  have wk:IntKind.i64.wrap ((i:Int)+1)=((i+1:Nat):Int):=by rw [qH];have:=Hn.out;omega
  obtain ⟨q,hq⟩:∃ q,l[i]?=some q:=⟨_,qX (by have:=Hln.out;omega)⟩;obtain ⟨b,o,rfl,hb,hcells⟩:=(Hl.out.ext hX).2.resolve_left (by omega);obtain ⟨c0,c1,c2⟩:=hcells i q hq;obtain ⟨W3,hW3⟩:∃ W3,wr.alloc (.cells #[.int .u16 (q.x:Int),.int .u16 (q.z:Int),.bool q.m] 94)=W3:=⟨_,rfl⟩;obtain ⟨G,hG⟩:∃ G,wr.heap.size=G:=⟨_,rfl⟩
  have E3:Ext wr W3:=by rw [<-hW3];exact ext_al _ _
  have Pq:PuB W3 G q.x q.z q.m:=by rw [<-hW3,<-hG];exact PuB.new wr _ _ _
  have HC:=Lh (Commutes_any p.x p.z q.x q.z p.m q.m W3 p.hx p.hz q.hx q.hz);unfold pv at HC;obtain ⟨B,hB⟩:∃ B,cmB p q=B:=⟨_,rfl⟩;rw [show (((pcF 16 ((p.x &&& q.z) ^^^ (p.z &&& q.x)):Nat):Int).tmod 2 == 0)=B from hB] at HC
  have hli:((l.take i).map fun g=>!(cmB p g)).length=i:=by rw [jY,qC];have:=Hln.out;omega
  have Hst:=Lh (show shN (l.take (i+1)) p=shN (l.take i) p+(if !B then 1 else 0)*2 ^ i by
   unfold shN;rw [jP,hq]
   show numB (((l.take i)++[q]).map _)=_
   rw [yJ,yW,yI,numB_snoc,hli,hB])
  obtain ⟨s,hs⟩:∃ s,shN (l.take i) p=s:=⟨_,rfl⟩
  have bs:s<2 ^ i:=by rw [<-hs];unfold shN;have:=numB_lt ((l.take i).map fun g=>!(cmB p g));rw [hli] at this;exact this
  have hpw:2 ^ i<=2 ^ 11:=qY (by decide) (by have:=Hn.out;omega)
  have h11:(2:Nat) ^ 11=2048:=by decide
  have hcast:((2 ^ i:Nat):Int)=(2:Int) ^ i:=by rw [Int.natCast_pow];rfl
  obtain ⟨P2,hP2⟩:∃ P2,2 ^ i=P2:=⟨_,rfl⟩
  have r3:IntKind.u16.wrap ((2:Int) ^ min i 16)=(P2:Int):=by rw [show min i 16=i by have:=Hn.out;omega,<-hcast,hP2];exact wrapu (by omega)
  have r4:bits .or .u16 (s:Int) (P2:Int)=((s+P2:Nat):Int):=by
   rw [or_u16 (by omega) (by omega)];have:=or_plus 1 bs;rw [Nat.one_mul,hP2] at this;rw [this]
  rw [hs] at Hst ⊢;rw [hP2] at Hst;have HE3:=Lh (HX.out.trans E3);have HW3:=Lh hW3;have HPq:=Lh Pq;have HPp:=Lh (HP.out.ext (hX.trans E3));have Hlt:=Lh hlt;clear hkk hi hX hin hq hcells hb hlt hB E3 Pq hW3 hli hs bs hpw h11 hcast hP2
  go_upto_region 5 with fail
  rw [HW3.out];clear c0 c1 c2 HW3 hG;have k0:=HPp.out.x0;have k1:=HPp.out.x1;have k2:=HPp.out.x2;have p0:=HPq.out.x0;have p1:=HPq.out.x1;have p2:=HPq.out.x2
  go_wp2_with fail
  refine HC.out.mono ?_;rintro e w1 ⟨rfl,h1⟩;have H1:=Lh (HE3.out.trans h1);clear h1 k0 k1 k2 p0 p1 p2 HC
  cases B
  ·go_wp2_with fail
   go_roundg (n-(i+1))
   case measure=>have:=Hkk.out;have:=Hlt.out;omega
   case rel=>exact ⟨i+1,rfl,by rw [Hst.out];simp only [Bool.not_false,if_true,Nat.one_mul,Int.natCast_add],Hlt.out,rfl,H1.out⟩
  ·clear r3 r4
   go_wp2_with fail
   go_roundg (n-(i+1))
   case measure=>have:=Hkk.out;have:=Hlt.out;omega
   case rel=>exact ⟨i+1,rfl,by rw [Hst.out];simp only [Bool.not_true,Bool.false_eq_true,if_false,Nat.zero_mul,Nat.add_zero],Hlt.out,rfl,H1.out⟩
def bitsL (s n:Nat):List Int:=(List.range n).map fun i=>((s / 2 ^ i % 2:Nat):Int)
theorem bitsL_snoc (s n:Nat):bitsL s (n+1)=bitsL s n++[((s / 2 ^ n % 2:Nat):Int)]:=by unfold bitsL;rw [List.range_succ,yJ];rfl
theorem bitsL_len (s n:Nat):(bitsL s n).length=n:=by simp [bitsL]
theorem and1_u16 {k:Nat} (h:k<65536):bits .and .u16 (k:Int) 1=((k % 2:Nat):Int):=by
 have:=and_u16 h (show 1<65536 by decide);rw [show k &&& 1=k % 2 from Nat.and_two_pow_sub_one_eq_mod k 1] at this;exact this
theorem list_any (s n:Nat) (w:World) (hs:s<65536) (hn:n<=12) :
  Calls Tryz.prog 73 #[.int .u16 (s:Int),.int .i64 (n:Int)] w fun e w'=>(∃ v,e=.returned v/\w'.ownsRow w.heap.size 3 1 v n (iC (bitsL s n)))/\Ext w w':=by
 obtain ⟨i0,hi0,hz0,hz1,hz2⟩:=info_parts i_info;have Hs:=Lh hs;have Hn:=Lh hn;clear hs hn
 go_enter Tryz.func73,Tryz.ntmps73
 go_wp2_with fail
 go_loopg [5,6,8] n (fun kk s5 s6 s8 wr=>Ext w wr/\∃ i:Nat,s8=.int .i64 (i:Int)/\i<=n/\n-i=kk/\wr.ownsRow w.heap.size 3 1 s5 i (iC (bitsL s i)))
 case atStart=>exact ⟨Ext.refl _,0,rfl,qI _,rfl,⟨rfl,qM ⟨rfl,rfl⟩⟩⟩
 case round =>
  obtain ⟨hER,i,rfl,hi,hk,hown⟩:=hrel;have HER:=Lh hER;have Hk:=Lh hk;have Hown:=Lh hown
  by_cases hin:i=n
  ·have q1:¬ (i:Int)<(n:Int):=by omega
   subst hin;clear hER hk hown hi
   go_wp2_with fail
   go_ret
   exact ⟨⟨_,rfl,Hown.out⟩,HER.out⟩
  have hlt:i<n:=by omega
  have q1:(i:Int)<(n:Int):=by omega
  have q0:(0:Int)<=(i:Int):=by omega
  have wk:IntKind.i64.wrap ((i:Int)+1)=((i+1:Nat):Int):=by rw [qH];have:=Hn.out;omega
  have hcast:((2 ^ i:Nat):Int)=(2:Int) ^ i:=by rw [Int.natCast_pow];rfl
  obtain ⟨d,hd⟩:∃ d,s / 2 ^ i=d:=⟨_,rfl⟩
  have bd:d<65536:=by rw [<-hd];exact yQ (Nat.div_le_self _ _) Hs.out
  have r1:(s:Int) / 2 ^ i=(d:Int):=by rw [<-hcast,<-Int.natCast_ediv,hd]
  have r1':(s:Int) / 2 ^ min i 16=(d:Int):=by rw [show min i 16=i by have:=Hn.out;omega];exact r1
  have r2:=and1_u16 bd;obtain ⟨e,he⟩:∃ e,d % 2=e:=⟨_,rfl⟩;rw [he] at r2
  have r3:wrap64 (e:Int)=(e:Int):=by unfold wrap64;omega
  have Hst:=Lh (show bitsL s (i+1)=bitsL s i++[(e:Int)] by rw [bitsL_snoc,hd,he]);have Hlt:=Lh hlt;clear hER hk hown hi hin hlt hcast hd bd he
  go_wp2_with (at_builtin;refine yL _ rfl _ _ 31 rfl w.heap.size 3 i0 (.int .i64 0) 1 8 yM hi0 hz0 hz1 hz2 rfl (by decide) _ i (iC (bitsL s i)) rfl (Hown.out.alloc _) ⟨wr.heap.size,0,none⟩ 1 1 [.int .i64 (e:Int)] rfl rfl (new_i wr _ _) (by simp [Value.oneCell']) (by unfold maxLen;have:=Hn.out;have:=Hlt.out;omega) (by have:=Hn.out;have:=Hlt.out;omega) (qL HER.out.size (ext_al wr _).size) ?_;intro v' w7 hown' hgrow' _)
  go_roundg (n-(i+1))
  case measure=>have:=Hk.out;have:=Hlt.out;omega
  case rel=>exact ⟨grown_ext (HER.out.trans (ext_al wr _)) hgrow' (fun k hk=>(own_lt Hown.out k hk).1),i+1,rfl,Hlt.out,rfl,by rw [Hst.out];unfold iC at hown' ⊢;rw [yJ];exact hown'⟩
theorem one01_any (b:Bool) (w:World):Calls Tryz.prog 80 #[.bool b] w fun e w'=>e=.returned (.int .i64 (if b then 1 else 0))/\w'=w:=by
 cases b
 ·go_enter Tryz.func80,Tryz.ntmps80
  go_wp2_with fail
  go_ret
  exact ⟨rfl,rfl⟩
 ·go_enter Tryz.func80,Tryz.ntmps80
  go_wp2_with fail
  go_ret
  exact ⟨rfl,rfl⟩
end Go.Proofs.YtjfomkoedgipjaaGreatDoor
