/-
  A run of stabilizers in plain lists; a measurer's operations: each generator's outcome is its sign in the group, and the group is what it was. The program: a qubit is looked at, with an outcome. Ways home, in plain lists. The program: (*homing).turnToZ. The program: (*homing).gather. Ways home lead home: in plain numbers. Ways home lead home: step by step. The program: slices.Clone of Paulis; wayHome.
-/
import Derived.Lib.SliceRun
import Derived.Test.YtlechhmhmakgpaaGreatDoorS17Sm
namespace Go.Proofs.YtlechhmhmakgpaaGreatDoor
set_option maxRecDepth 100000
set_option maxHeartbeats 8000000
open Go.RowKit
theorem bit_lt {n v:Nat}:v<2 ^ n↔∀ j,n<=j->v.testBit j=false:=⟨fun h _ hj=>bit_hi h hj,fun h=>Nat.lt_pow_two_of_testBit v h⟩
structure GtP (n:Nat) (A:QP->QP):Prop where
 aut:Aut A
 ok:∀ {p:QP},p.ok->(A p).ok
 bd:∀ {p:QP},bdQ n p->bdQ n (A p)
theorem GtP.id (n:Nat):GtP n (fun p=>p):=⟨aut_id,fun h=>h,fun h=>h⟩
theorem GtP.comp {n:Nat} {A B:QP->QP} (h:GtP n A) (k:GtP n B):GtP n (fun p=>B (A p)):=⟨h.aut.comp k.aut,fun x=>k.ok (h.ok x),fun x=>k.bd (h.bd x)⟩
theorem gtp_flip (n q:Nat):GtP n (flipG q):=⟨aut_flip q,ok_flip,fun h=>h⟩
theorem gtp_fork {n q:Nat} (hq:q<n) (hn:n<=16):GtP n (forkG q):=⟨aut_fork (by omega),ok_fork,fun {p} h=>by
 refine ⟨bit_lt.2 fun j hj=>?_,bit_lt.2 fun j hj=>?_⟩
 ·rw [fork_x,if_neg (by omega)];exact bit_hi h.1 hj
 ·rw [fork_z,if_neg (by omega)];exact bit_hi h.2 hj⟩
theorem gtp_quar {n q:Nat} (hq:q<n) (hn:n<=16):GtP n (quarG q):=⟨aut_quar (by omega),ok_quar,fun {p} h=>by
 refine ⟨h.1,bit_lt.2 fun j hj=>?_⟩
 rw [quar_z,bit_hi h.2 hj,bit_hi h.1 hj,Bool.and_false];rfl⟩
theorem gtp_on {n q c:Nat} (hqc:q≠c) (hq:q<n) (hc:c<n) (hn:n<=16):GtP n (onG q c):=⟨aut_on hqc (by omega) (by omega),ok_on (by omega) (by omega),fun {p} h=>by
 refine ⟨bit_lt.2 fun j hj=>?_,bit_lt.2 fun j hj=>?_⟩
 ·rw [on_x,bit_hi h.1 hj,decide_eq_false (by omega)];rfl
 ·rw [on_z,bit_hi h.2 hj,decide_eq_false (by omega)];rfl⟩
theorem gtp_cp {n q c:Nat} (hqc:q≠c) (hq:q<n) (hc:c<n) (hn:n<=16):GtP n (cpG q c):=((gtp_fork hq hn).comp (gtp_on hqc hq hc hn)).comp (gtp_fork hq hn)
theorem gtp_it {n:Nat} {A:QP->QP} (h:GtP n A):∀ k,GtP n (itG A k)
 | 0=>GtP.id n
 | k+1=>by
  have:=(gtp_it h k).comp h;exact ⟨aut_it h.aut _,fun x=>by rw [it_succ];exact this.ok x,fun x=>by rw [it_succ];exact this.bd x⟩
theorem GoodS.map {n:Nat} {A:QP->QP} (hA:GtP n A) {l:List QP} (h:GoodS l):GoodS (l.map A):=by
 obtain ⟨d,hd⟩:=h.dua;refine ⟨h.com.map hA.aut,⟨_,hd.map hA.aut⟩,fun p hp=>?_⟩;obtain ⟨r,hr,rfl⟩:=List.mem_map.1 hp;exact hA.ok (h.ok r hr)
theorem bd_map {n:Nat} {A:QP->QP} (hA:GtP n A) {l:List QP} (h:∀ p ∈ l,bdQ n p):∀ p ∈ l.map A,bdQ n p:=fun p hp=>by
 obtain ⟨r,hr,rfl⟩:=List.mem_map.1 hp;exact hA.bd (h r hr)
theorem EqS.bd {n:Nat} {a b:List QP} (h:EqS a b) (k:∀ p ∈ a,bdQ n p):∀ p ∈ b,bdQ n p:=fun p hp=>((h.grp p).1 (.of hp)).bd k
def actN (o:Gop):QP->QP :=
 if o.kind=2 then (match o.ctl with | []=>flipG o.q.toNat | c :: _=>onG o.q.toNat c.toNat) else if o.kind=3 then forkG o.q.toNat else if o.kind=4 then (match o.ctl with | []=>itG (quarG o.q.toNat) (o.k.toNat / 4) | c :: _=>itG (cpG o.q.toNat c.toNat) (o.k.toNat / 8)) else fun p=>p
inductive NOk (n:Nat):Gop->Prop
 | x {q:Nat} (h:q<n) (cd:List Int):NOk n ⟨2,0,[],q,0,cd⟩
 | cx {q c:Nat} (h:q<n) (h2:c<n) (h3:q≠c) (cd:List Int):NOk n ⟨2,0,[(c:Int)],q,0,cd⟩
 | h {q:Nat} (h:q<n) (cd:List Int):NOk n ⟨3,0,[],q,0,cd⟩
 | p {q k:Nat} (h:q<n) (h2:k<4) (cd:List Int):NOk n ⟨4,((4*k:Nat):Int),[],q,0,cd⟩
 | cp {q c k:Nat} (h:q<n) (h2:c<n) (h3:q≠c) (h4:k<2) (cd:List Int):NOk n ⟨4,((8*k:Nat):Int),[(c:Int)],q,0,cd⟩
 | ph {k:Nat} (h:k<16) (cd:List Int):NOk n ⟨1,(k:Int),[],0,0,cd⟩
theorem actN_x (q:Nat) (cd:List Int):actN ⟨2,0,[],q,0,cd⟩=flipG q:=by simp [actN]
theorem actN_cx (q c:Nat) (cd:List Int):actN ⟨2,0,[(c:Int)],q,0,cd⟩=onG q c:=by simp [actN]
theorem actN_h (q:Nat) (cd:List Int):actN ⟨3,0,[],q,0,cd⟩=forkG q:=by simp [actN]
theorem actN_p (q k:Nat) (cd:List Int):actN ⟨4,((4*k:Nat):Int),[],q,0,cd⟩=itG (quarG q) k:=by
 show itG (quarG (q:Int).toNat) (((4*k:Nat):Int).toNat / 4)=_
 rw [Int.toNat_natCast,Int.toNat_natCast,Nat.mul_div_cancel_left k (by decide)]
theorem actN_cp (q c k:Nat) (cd:List Int):actN ⟨4,((8*k:Nat):Int),[(c:Int)],q,0,cd⟩=itG (cpG q c) k:=by
 show itG (cpG (q:Int).toNat (c:Int).toNat) (((8*k:Nat):Int).toNat / 8)=_
 rw [Int.toNat_natCast,Int.toNat_natCast,Int.toNat_natCast,Nat.mul_div_cancel_left k (by decide)]
theorem NOk.gt {n:Nat} (hn:n<=16) {o:Gop} (h:NOk n o):GtP n (actN o):=by
 cases h with
 | x h cd=>rw [actN_x];exact gtp_flip _ _
 | cx h h2 h3 cd=>rw [actN_cx];exact gtp_on h3 h h2 hn
 | h h cd=>rw [actN_h];exact gtp_fork h hn
 | p h h2 cd=>rw [actN_p];exact gtp_it (gtp_quar h hn) _
 | cp h h2 h3 h4 cd=>rw [actN_cp];exact gtp_it (gtp_cp h3 h h2 hn) _
 | ph h cd=>exact GtP.id n
theorem NOk.kind {n:Nat} {o:Gop} (h:NOk n o):0<o.kind/\o.kind<5:=by cases h<;>simp
theorem NOk.of_w {n:Nat} {o:Gop} (h:WOk n o):NOk n o/\o.cnd=[]/\actN o=actW o:=by
 cases h with
 | x h=>exact ⟨.x h [],rfl,(actN_x _ _).trans (act_x _).symm⟩
 | cx h h2 h3=>exact ⟨.cx h h2 h3 [],rfl,(actN_cx _ _ _).trans (act_cx _ _).symm⟩
 | h h=>exact ⟨.h h [],rfl,(actN_h _ _).trans (act_h _).symm⟩
 | p h h2=>exact ⟨.p h (by omega) [],rfl,(actN_p _ _ _).trans (act_p _ _).symm⟩
def actNL (ops:List Gop) (p:QP):QP:=ops.foldl (fun p o=>actN o p) p
theorem actNL_append (a b:List Gop) (p:QP):actNL (a++b) p=actNL b (actNL a p):=by unfold actNL;rw [List.foldl_append]
theorem actNL_gt {n:Nat} (hn:n<=16):∀ {ops:List Gop},(∀ o ∈ ops,NOk n o)->GtP n (actNL ops)
 | [],_=>GtP.id n
 | o :: r,h=>((h o (by simp)).gt hn).comp (actNL_gt hn (ops:=r) fun o ho=>h o (by simp [ho]))
def setQ (l:List QP) (q:Nat) (b:Bool):List QP × Bool:=match l.findIdx? (fun p=>p.x.testBit q) with
 | none=>(orL l,decide (tlQ q b ∈ orL l))
 | some a=>((seL (fun p=>p.x.testBit q) a l).set a (tlQ q b),true)
structure TR where
 l:List QP
 bits:List Int
 used:Nat
def mtT (bits cnd:List Int):Bool:=cnd.all fun t=>if t<0 then decide (bits.getD (-t-1).toNat 0≠1) else decide (bits.getD (t-1).toNat 0≠0)
def lookT (tape:List Int) (o:Gop) (s:TR):TR × Nat:=match tape[s.used]? with
 | none=>(s,19)
 | some v=>if v=0\/v=1 then
   (if (setQ s.l o.q.toNat (decide (v=1))).2=true then (⟨if o.kind=5 then (setQ s.l o.q.toNat (decide (v=1))).1 else (setQ s.l o.q.toNat (decide (v=1))).1.map (rsG o.q.toNat (decide (v=1))),if o.kind=5 then s.bits.set o.bit.toNat v else s.bits,s.used+1⟩,0)
   else (⟨(setQ s.l o.q.toNat (decide (v=1))).1,s.bits,s.used⟩,20)) else (s,20)
def doT (tape:List Int) (o:Gop) (s:TR):TR × Nat:=if mtT s.bits o.cnd=true then (if o.kind=5\/o.kind=6 then lookT tape o s else (⟨s.l.map (actN o),s.bits,s.used⟩,0)) else (s,0)
def runT (tape:List Int):List Gop->Nat->TR->TR × Nat × Nat
 | [],_,s=>(s,0,0)
 | o :: r,i,s=>if (doT tape o s).2=0 then runT tape r (i+1) (doT tape o s).1 else ((doT tape o s).1,(doT tape o s).2,i)
theorem run_cons {tape:List Int} {o:Gop} {r:List Gop} {i:Nat} {s s':TR} (h:doT tape o s=(s',0)):runT tape (o :: r) i s=runT tape r (i+1) s':=by
 show (if (doT tape o s).2=0 then _ else _)=_
 rw [h,if_pos rfl]
theorem run_app {tape:List Int}:∀ {a b:List Gop} {i:Nat} {s s':TR},runT tape a i s=(s',0,0)->runT tape (a++b) i s=runT tape b (i+a.length) s'
 | [],b,i,s,s',h=>by
  have:s=s':=congrArg Prod.fst h;subst this
  rfl
 | o :: r,b,i,s,s',h=>by
  have h1:(if (doT tape o s).2=0 then runT tape r (i+1) (doT tape o s).1 else ((doT tape o s).1,(doT tape o s).2,i))=(s',0,0):=h
  show (if (doT tape o s).2=0 then runT tape (r++b) (i+1) (doT tape o s).1 else _)=_
  by_cases hd:(doT tape o s).2=0
  ·rw [if_pos hd] at h1 ⊢
   rw [run_app h1,List.length_cons]
   congr 1
   omega
  ·rw [if_neg hd] at h1
   exact absurd (congrArg (fun x=>x.2.1) h1) hd
theorem run_gates {tape:List Int} {n:Nat}:∀ {ops:List Gop},(∀ o ∈ ops,NOk n o/\o.cnd=[])->∀ (i:Nat) (s:TR),runT tape ops i s=(⟨s.l.map (actNL ops),s.bits,s.used⟩,0,0)
 | [],_,i,s=>by
  have e:s.l.map (actNL [])=s.l:=List.map_id' s.l;rw [e];rfl
 | o :: r,h,i,s=>by
  obtain ⟨h1,h2⟩:=h o (by simp);have hk:=h1.kind
  have hd:doT tape o s=(⟨s.l.map (actN o),s.bits,s.used⟩,0):=by
   unfold doT;rw [h2,if_pos (show mtT s.bits []=true from rfl),if_neg (by omega)]
  rw [run_cons hd,run_gates (ops:=r) fun o ho=>h o (by simp [ho])]
  show ((⟨(s.l.map (actN o)).map (actNL r),s.bits,s.used⟩,0,0):TR × Nat × Nat)=_
  rw [List.map_map]
  rfl
theorem set_none {l:List QP} {q:Nat} (b:Bool) (h:l.findIdx? (fun p=>p.x.testBit q)=none):setQ l q b=(orL l,decide (tlQ q b ∈ orL l)):=by unfold setQ;rw [h]
theorem set_some {l:List QP} {q a:Nat} (b:Bool) (h:l.findIdx? (fun p=>p.x.testBit q)=some a):setQ l q b=((seL (fun p=>p.x.testBit q) a l).set a (tlQ q b),true):=by unfold setQ;rw [h]
theorem told_q (q:Nat) (hq:q<16) (o:Int) (w:World):Calls Tryz.prog 122 #[.int .i64 (q:Int),.int .i64 o] w fun e w'=>e=.returned (pvQ (tlQ q (decide (o=1))))/\Ext w w':=told_any q hq o w
theorem settle_any (l:List QP) (hl:GoodS l) (g n c q:Nat) (o:Int) (w:World) (hG:GnB w g l) (hn:l.length=n) (hn16:n<=15) (hc:n<=c) (hq:q<16) :
  Calls Tryz.prog 125 #[.slice (some ⟨g,0,none⟩) n c,.int .i64 (q:Int),.int .i64 o] w fun e w'=>e=.returned (.bool (setQ l q (decide (o=1))).2)/\Tur g w w'/\GnB w' g (setQ l q (decide (o=1))).1:=by
 have HTo:=Lh (fun wx=>told_q q hq o wx);obtain ⟨b,hb⟩:∃ b,decide (o=1)=b:=⟨_,rfl⟩;rw [hb] at HTo ⊢;obtain ⟨H,hH⟩:∃ H,w.heap.size=H:=⟨_,rfl⟩;obtain ⟨W0,hW0⟩:∃ V,w.alloc (.cells #[.int .i64 (q:Int)] 3)=V:=⟨_,rfl⟩
 have E0:Ext w W0:=by rw [<-hW0];exact ext_al _ _
 have s0:W0.heap.size=H+1:=by rw [<-hW0,World.size_alloc,hH]
 have c0:W0.cell? ⟨H,0,none⟩=some (.int .i64 (q:Int)):=by rw [<-hW0,<-hH,cell_of_row _ _ 0 _ _ (0,0) (heap_alloc_new w _)];rfl
 have hv:=settle1_has hq H W0 H (Nat.le_refl _) c0 (by omega)
 have hgH:g<H:=by rw [<-hH];exact hG.lt
 have HIx:=Lh (indexG_any l (fun p=>p.x.testBit q) _ g 0 0 n c H rfl (some ⟨g,0,none⟩) W0 (hG.ext E0) (by omega) (by omega) (Or.inr rfl) hl.ok hv);rw [List.drop_zero] at HIx;have HG:=Lh (hG.ext E0);have Hn:=Lh hn;have Hm:=Lh hn16;have Hc:=Lh hc;have Hl:=Lh hl;have HV:=Lh hv;have HE0:=Lh E0;have HW0:=Lh hW0;have HH:=Lh hH;have HgH:=Lh hgH;have HC0:=Lh c0;have Hs0:=Lh s0;have Hk:=Lh (fun (w':World) (k:Kb H W0 w')=>(k.cell (o:=0) (Nat.le_refl H) (by omega:H<W0.heap.size)).trans c0);clear hG hn hn16 hc hl hv E0 hW0 hH hgH hb hq c0 s0
 cases hfi:l.findIdx? (fun p=>p.x.testBit q) with
 | none =>
  rw [hfi] at HIx;have HIx:=Lh (show Calls Tryz.prog 127 #[.slice (some ⟨g,0,none⟩) n c,.func (.func 162) #[] #[.pointer (some ⟨H,0,none⟩)]] W0 fun e w'=>e=.returned (.int .i64 (-1))/\Ext W0 w' from HIx.out);rw [set_none b hfi];obtain ⟨B,hB⟩:∃ B,decide (tlQ q b ∈ orL l)=B:=⟨_,rfl⟩;have HB:=Lh hB;rw [hB];obtain ⟨T,hT⟩:∃ T,tlQ q b=T:=⟨_,rfl⟩;have HTq:=Lh hT;simp only [hT] at HTo;unfold pvQ at HTo;clear hfi hB hT
  go_enter Tryz.func125,Tryz.ntmps125
  go_upto_region 1 with fail
  rw [HW0.out,HH.out]
  go_wp2_with fail
  refine HIx.out.mono ?_;rintro e w1 ⟨rfl,x1⟩;have HX:=Lh (HE0.out.trans x1);have HOr:=Lh (order_any l Hl.out g n c w1 (HG.out.ext x1) Hn.out Hm.out Hc.out);have HK:=Lh (Kb.of_ext (lo:=H) x1);clear x1
  go_wp2_with fail
  refine HOr.out.mono ?_;rintro e w2 ⟨⟨x,rfl⟩,t2,G2⟩;have k1:=Hk.out _ ⟨Nat.le_trans HK.out.1 t2.size,fun b h1 h2=>(t2.block b (Nat.lt_of_lt_of_le h2 HK.out.1) (by have:=HgH.out;omega)).trans (HK.out.2 b h1 h2)⟩;have HT:=Lh ((Tur.of_ext HX.out).trans t2);have HG2:=Lh G2;clear t2 G2
  have HCo:=Lh (fun wx (hx:Ext w2 wx)=>contG_any (orL l) (tlQ q b) g n c (some ⟨g,0,none⟩) wx (HG2.out.ext hx) (by
   obtain ⟨_,h2,_⟩:=orN_form l.length Hl.out (2*l.length);have:=h2.len;unfold orL
   rw [this,Hn.out]) (by have:=Hm.out;omega) (Or.inr rfl))
  rw [HB.out,HTq.out] at HCo;unfold pvQ at HCo
  go_wp2_with fail
  refine (HTo.out _).mono ?_;rintro e w3 ⟨rfl,x3⟩;have HX3:=Lh x3;clear x3 k1
  go_wp2_with fail
  refine (HCo.out _ HX3.out).mono ?_;rintro e w4 ⟨rfl,x4⟩;have HX4:=Lh x4;clear x4
  go_wp2_with fail
  go_ret
  exact ⟨rfl,HT.out.trans (Tur.of_ext (HX3.out.trans HX4.out)),HG2.out.ext (HX3.out.trans HX4.out)⟩
 | some a =>
  rw [hfi] at HIx;have HIx:=Lh (show Calls Tryz.prog 127 #[.slice (some ⟨g,0,none⟩) n c,.func (.func 162) #[] #[.pointer (some ⟨H,0,none⟩)]] W0 fun e w'=>e=.returned (.int .i64 (a:Int))/\Ext W0 w' from HIx.out);rw [set_some b hfi];have Ha:=Lh (show a<n by have:=(List.findIdx?_eq_some_iff_getElem.1 hfi).1;rw [Hn.out] at this;exact this)
  have qa:¬ (a:Int)<0:=by omega
  have qa0:(0:Int)<=(a:Int):=by omega
  have qa1:(a:Int)<(n:Int):=by have:=Ha.out;omega
  clear hfi
  go_enter Tryz.func125,Tryz.ntmps125
  go_upto_region 1 with fail
  rw [HW0.out,HH.out]
  go_wp2_with fail
  refine HIx.out.mono ?_;rintro e w1 ⟨rfl,x1⟩;have HX:=Lh (HE0.out.trans x1);have HOr:=Lh (sweep_any l Hl.out (fun p=>p.x.testBit q) _ g n c H a w1 (HG.out.ext x1) Hn.out (by have:=Hm.out;omega) Ha.out HgH.out (HV.out.ext x1));have HK:=Lh (Kb.of_ext (lo:=H) x1);clear x1
  go_wp2_with fail
  refine HOr.out.mono ?_;rintro e w2 ⟨⟨x,rfl⟩,t2,G2⟩;have k1:=Hk.out _ ⟨Nat.le_trans HK.out.1 t2.size,fun b h1 h2=>(t2.block b (Nat.lt_of_lt_of_le h2 HK.out.1) (by have:=HgH.out;omega)).trans (HK.out.2 b h1 h2)⟩;have HT:=Lh ((Tur.of_ext HX.out).trans t2);have HG2:=Lh G2;clear t2 G2;obtain ⟨T,hT⟩:∃ T,tlQ q b=T:=⟨_,rfl⟩;simp only [hT] at HTo;have HTq:=Lh hT;unfold pvQ at HTo;clear hT
  go_wp2_with fail
  refine (HTo.out _).mono ?_;rintro e w3 ⟨rfl,x3⟩;have HG3:=Lh (HG2.out.ext x3);have HT:=Lh (HT.out.trans (Tur.of_ext x3))
  have hlen:a<(seL (fun p=>p.x.testBit q) a l).length:=by
   unfold seL;rw [seN_len,Hn.out];exact Ha.out
  obtain ⟨pa,hpa⟩:∃ p,(seL (fun p=>p.x.testBit q) a l)[a]?=some p:=⟨_,List.getElem?_eq_getElem hlen⟩;obtain ⟨e0,e1,e2⟩:=HG3.out.c a pa hpa;have f0:=HG3.out.f (a*3);have f1:=HG3.out.f (a*3+1);have f2:=HG3.out.f (a*3+2);have HP:=Lh (HG3.out.put a hlen T);have HXP:=Lh (HT.out.trans (Tur.only (only3 g (a*3) w3 (.int .u16 (T.x:Int)) (.int .u16 (T.z:Int)) (.bool T.m))));clear x3 k1 hlen hpa
  go_wp2_with fail
  go_ret
  exact ⟨rfl,HXP.out,by rw [HTq.out];exact HP.out⟩
def actL (ops:List Gop) (p:QP):QP:=ops.foldl (fun p o=>actW o p) p
theorem actL_nil (p:QP):actL [] p=p:=rfl
theorem actL_cons (o:Gop) (ops:List Gop) (p:QP):actL (o :: ops) p=actL ops (actW o p):=rfl
theorem actL_append (a b:List Gop) (p:QP):actL (a++b) p=actL b (actL a p):=by unfold actL;rw [List.foldl_append]
theorem actL_snoc (a:List Gop) (o:Gop) (p:QP):actL (a++[o]) p=actW o (actL a p):=actL_append a [o] p
theorem map_snoc (l:List QP) (a:List Gop) (o:Gop):(l.map (actL a)).map (actW o)=l.map (actL (a++[o])):=by
 rw [List.map_map]
 exact List.map_congr_left fun p _=>(actL_snoc a o p).symm
theorem actL_ok {n:Nat} (hn:n<=16):∀ {ops:List Gop},(∀ o ∈ ops,WOk n o)->∀ {p:QP},p.ok->(actL ops p).ok
 | [],_,_,hp=>hp
 | o :: r,h,p,hp=>actL_ok hn (fun x hx=>h x (List.mem_cons_of_mem _ hx)) (act_ok hn (h o (by simp)) hp)
theorem list_ok {n:Nat} (hn:n<=16) {ops:List Gop} (h:∀ o ∈ ops,WOk n o) {l:List QP} (hl:∀ p ∈ l,p.ok):∀ p ∈ l.map (actL ops),p.ok:=fun p hp=>by
 obtain ⟨x,hx,rfl⟩:=List.mem_map.1 hp;exact actL_ok hn h (hl x hx)
def tzL:Nat->Nat->QP->List Gop
 | 0,_,_=>[]
 | k+1,q,p=>if p.x.testBit q=false then tzL k (q+1) p else if p.z.testBit q=true then wP 1 q :: wH q :: tzL k (q+1) (actW (wH q) (actW (wP 1 q) p)) else wH q :: tzL k (q+1) (actW (wH q) p)
theorem tzL_ok {n:Nat}:∀ (k q:Nat) (p:QP),q+k<=n->∀ o ∈ tzL k q p,WOk n o
 | 0,_,_,_,o,ho=>by simp [tzL] at ho
 | k+1,q,p,h,o,ho=>by
  unfold tzL at ho
  split at ho
  ·exact tzL_ok k (q+1) p (by omega) o ho
  ·split at ho
   ·rcases List.mem_cons.1 ho with rfl | ho
    ·exact .p (by omega) (Or.inl rfl)
    ·rcases List.mem_cons.1 ho with rfl | ho
     ·exact .h (by omega)
     ·exact tzL_ok k (q+1) _ (by omega) o ho
   ·rcases List.mem_cons.1 ho with rfl | ho
    ·exact .h (by omega)
    ·exact tzL_ok k (q+1) _ (by omega) o ho
theorem tzL_len:∀ (k q:Nat) (p:QP),(tzL k q p).length<=2*k
 | 0,_,_=>by simp [tzL]
 | k+1,q,p=>by
  unfold tzL
  split
  ·have:=tzL_len k (q+1) p;omega
  ·split
   ·have:=tzL_len k (q+1) (actW (wH q) (actW (wP 1 q) p));simp only [List.length_cons];omega
   ·have:=tzL_len k (q+1) (actW (wH q) p);simp only [List.length_cons];omega
def gaA (i:Nat) (p:QP):List Gop:=if p.z.testBit i=true then [] else [wCX (Lib.bitLen p.z-1) i]
def gaL (i:Nat):Nat->Nat->QP->List Gop
 | 0,_,_=>[]
 | k+1,q,p=>if q≠i/\p.z.testBit q=true then wCX i q :: gaL i k (q+1) (actW (wCX i q) p) else gaL i k (q+1) p
theorem gaL_ok {n i:Nat} (hi:i<n):∀ (k q:Nat) (p:QP),q+k<=n->∀ o ∈ gaL i k q p,WOk n o
 | 0,_,_,_,o,ho=>by simp [gaL] at ho
 | k+1,q,p,h,o,ho=>by
  unfold gaL at ho
  split at ho
  ·rename_i hq
   rcases List.mem_cons.1 ho with rfl | ho
   ·exact .cx hi (by omega) (Ne.symm hq.1)
   ·exact gaL_ok hi k (q+1) _ (by omega) o ho
  ·exact gaL_ok hi k (q+1) p (by omega) o ho
theorem gaL_len (i:Nat):∀ (k q:Nat) (p:QP),(gaL i k q p).length<=k
 | 0,_,_=>by simp [gaL]
 | k+1,q,p=>by
  unfold gaL
  split
  ·have:=gaL_len i k (q+1) (actW (wCX i q) p);simp only [List.length_cons];omega
  ·have:=gaL_len i k (q+1) p;omega
def gaS (n i:Nat) (p:QP):List Gop:=gaA i p++gaL i n 0 (actL (gaA i p) p)
def mnS (i:Nat) (p:QP):List Gop:=if p.m=true then [wX i] else []
def wayS (n i:Nat) (p:QP):List Gop :=
 tzL (n-i) i p++(gaS n i (actL (tzL (n-i) i p) p)++mnS i (actL (gaS n i (actL (tzL (n-i) i p) p)) (actL (tzL (n-i) i p) p)))
def wayL (n:Nat) (l:List QP):Nat->List Gop
 | 0=>[]
 | i+1=>wayL n l i++wayS n i (actL (wayL n l i) (l.getD i ⟨0,0,false⟩))
theorem nilO (w:World) {o:Gop} (h1:o.ctl=[]) (h2:o.cnd=[]):OpO w o none 0 0 none 0 0 :=
 ⟨⟨⟨by rw [h1];rfl,Or.inl rfl⟩,Nat.le_refl _,by decide,⟨by rw [h2];rfl,Or.inl rfl⟩,Nat.le_refl _,by decide⟩,(fun ad e=>by cases e),(fun ad e=>by cases e)⟩
theorem do_bare {u w:World} {base B g n ng:Nat} {ag:Option Addr} {cg:Nat} {l:List QP} {v:Value} {ops T:List Gop} (h:HmS u w base B g n ng ag cg (l.map (actL T)) v (ops++T)) (hn:n<=16) (hng:ng<=16) (hok:∀ p ∈ l,p.ok) (hT:∀ o ∈ T,WOk n o) (hlen:ops.length+T.length<=10000)
  {o:Gop} (ho:WOk n o) (h1:o.ctl=[]) (h2:o.cnd=[]) :
  Calls Tryz.prog 118 #[.pointer (some ⟨B,0,none⟩),.agg #[.int .i64 o.kind,.int .i64 o.k,.slice none 0 0,.int .i64 o.q,.int .i64 o.bit,.slice none 0 0]] w fun e w'=>DoR u base B g n ng ag cg (l.map (actL (T++[o]))) (ops++(T++[o])) e w':=by
 have:=do_any h hn hng (list_ok hn hT hok) (by rw [List.length_append];exact hlen) ho none 0 0 none 0 0 (nilO w h1 h2)
 rwa [map_snoc,List.append_assoc] at this
theorem turnToZ_any {u w:World} {base B g n ng:Nat} {ag:Option Addr} {cg:Nat} {l:List QP} {v:Value} {ops:List Gop} (h:HmS u w base B g n ng ag cg l v ops) (hn:n<=16) (hng:ng<=16) (hok:∀ p ∈ l,p.ok) (hlen:ops.length<=9000)
  {i:Nat} {p:QP} (hp:l[i]?=some p) (hi:i<=n) :
  Calls Tryz.prog 116 #[.pointer (some ⟨B,0,none⟩),.int .i64 (i:Int)] w fun e w'=>DoR u base B g n ng ag cg (l.map (actL (tzL (n-i) i p))) (ops++tzL (n-i) i p) e w':=by
 have HTok:=Lh (tzL_ok (n:=n) (n-i) i p (by omega));have HTl:=Lh (tzL_len (n-i) i p);obtain ⟨T,hT⟩:∃ T,tzL (n-i) i p=T:=⟨_,rfl⟩;rw [hT] at HTok HTl ⊢;have HT:=Lh hT;have Hh:=Lh h;have Hn:=Lh hn;have Hng:=Lh hng;have Hok:=Lh hok;have Hlen:=Lh hlen;have Hp:=Lh hp;have Hi:=Lh hi;have HSet:=Lh (fun (q:Nat) (hq:q<n) wx=>Set_any q (Nat.lt_of_lt_of_le hq hn) wx)
 have hin:i<ng:=by rw [<-h.gl];exact (List.getElem?_eq_some_iff.1 hp).1
 have Hin:=Lh hin
 have i0:(0:Int)<=(i:Int):=by omega
 have i1:(i:Int)<(ng:Int):=by omega
 clear h hn hng hok hlen hp hi hT hin
 go_enter Tryz.func116,Tryz.ntmps116
 go_wp2_with fail
 go_loopg [4] (n-i) (fun kk s4 wr=>∃ (q:Nat) (T1:List Gop) (v1:Value),s4=.int .i64 (q:Int)/\i<=q/\q<=n/\n-q=kk/\HmS u wr base B g n ng ag cg (l.map (actL T1)) v1 (ops++T1)/\T1++tzL (n-q) q (actL T1 p)=T)
 case atStart=>exact ⟨i,[],v,rfl,Nat.le_refl _,Hi.out,rfl,by rw [List.append_nil,show actL []=fun p=>p from rfl,List.map_id'];exact Hh.out,HT.out⟩
 case round =>
  obtain ⟨q,T1,v1,rfl,hiq,hqn,hkk,hS,hTT⟩:=hrel;have Hkk:=Lh hkk;have HS:=Lh hS;have HTT:=Lh hTT;have Hiq:=Lh hiq;have HT1:=Lh (show ∀ o ∈ T1,WOk n o from fun o ho=>HTok.out o (by rw [<-hTT];exact List.mem_append_left _ ho));have HT1l:=Lh (show T1.length<=100 by have h1:=congrArg List.length hTT;rw [List.length_append] at h1;have:=HTl.out;have:=Hn.out;omega);have hx0:=hS.x0;have hx1:=hS.x1
  by_cases hqn2:q=n
  ·have p1:¬ (q:Int)<(n:Int):=by omega
   have hfin:T1=T:=by have h1:=hTT;rw [hqn2,Nat.sub_self] at h1;rw [<-h1];simp [tzL]
   rw [hfin] at HS;clear hkk hS hTT hqn hqn2 hiq hfin hx1
   go_wp2_with fail
   go_end0
   exact ⟨⟨_,rfl⟩,v1,HS.out⟩
  have hlt:q<n:=by omega
  have p1:(q:Int)<(n:Int):=by omega
  have wq:IntKind.i64.wrap ((q:Int)+1)=((q+1:Nat):Int):=by rw [IntKind.wrap_i64];have:=Hn.out;omega
  have hpi:(l.map (actL T1))[i]?=some (actL T1 p):=by rw [List.getElem?_map,Hp.out];rfl
  obtain ⟨hag,hGn,_⟩:=hS.at hpi;obtain ⟨e0,e1,e2⟩:=hGn.c i _ hpi;have hpok:=actL_ok Hn.out HT1.out (Hok.out p (List.mem_of_getElem? Hp.out));obtain ⟨A,a1,a2,a3⟩:=ask_bit hpok.1 (q:=q) (by have:=Hn.out;omega);obtain ⟨C,c1,c2,c3⟩:=ask_bit hpok.2 (q:=q) (by have:=Hn.out;omega)
  have hst:tzL (n-q) q (actL T1 p)=if (actL T1 p).x.testBit q=false then tzL (n-(q+1)) (q+1) (actL T1 p) else if (actL T1 p).z.testBit q=true then wP 1 q :: wH q :: tzL (n-(q+1)) (q+1) (actW (wH q) (actW (wP 1 q) (actL T1 p))) else wH q :: tzL (n-(q+1)) (q+1) (actW (wH q) (actL T1 p)):=by
   rw [show n-q=(n-(q+1))+1 by omega,tzL]
  rw [hst] at HTT;have HSq:=Lh (HSet.out q hlt);obtain ⟨V,hV⟩:∃ V,2 ^ q=V:=⟨_,rfl⟩;rw [hV] at a1 c1 HSq;have Hag:=Lh hag;have Hlt:=Lh hlt;rw [hag] at hx1;have Ha:=Lh (And.intro a1 (And.intro a2 a3));have Hc:=Lh (And.intro c1 (And.intro c2 c3));have He:=Lh (And.intro e0 (And.intro e1 e2))
  have hq0:(0:Int)<=(q:Int):=by omega
  clear hkk hS hTT hiq hqn hqn2 hlt hpi hGn hpok hst hV hag e2 c1 c2 c3;obtain ⟨bx,hbx⟩:∃ b,(actL T1 p).x.testBit q=b:=⟨_,rfl⟩;obtain ⟨bz,hbz⟩:∃ b,(actL T1 p).z.testBit q=b:=⟨_,rfl⟩;rw [hbx] at a2 a3 HTT;rw [hbz] at HTT;obtain ⟨px,hpx⟩:∃ x,(actL T1 p).x=x:=⟨_,rfl⟩;obtain ⟨pz,hpz⟩:∃ x,(actL T1 p).z=x:=⟨_,rfl⟩;rw [hpx] at a1 e0;rw [hpz] at e1
  go_upto_region 3 with fail
  go_quiet ((go_at_call 86;refine Calls.quiet_of_same (HSq.out _)))
  obtain ⟨W1,hW1⟩:∃ V,wr.drewN nq=V:=⟨_,rfl⟩
  have E1:Ext wr W1:=by rw [<-hW1];exact ext_drewN _ _
  rw [hW1];have HS:=Lh (HS.out.ext E1);have HE1:=Lh E1;have hx1':=cell_ext hx1 E1;have e1':=cell_ext e1 E1;clear hW1 E1 hx0 hx1 e0 e1 a1 a2 a3 Ha
  cases bx with
  | false =>
   rw [if_pos rfl] at HTT;clear hx1' e1'
   go_wp2_with fail
   go_roundg (n-(q+1))
   case measure=>have:=Hkk.out;have:=Hlt.out;omega
   case rel=>exact ⟨q+1,T1,v1,rfl,by have:=Hiq.out;omega,Hlt.out,rfl,HS.out,HTT.out⟩
  | true =>
   rw [if_neg (by decide)] at HTT;obtain ⟨c1,c2,c3⟩:=Hc.out;rw [hpz] at c1;rw [hbz] at c2 c3;clear Hc
   go_upto_region 4 with fail
   go_quiet ((go_at_call 86;refine Calls.quiet_of_same (HSq.out _)))
   obtain ⟨W2,hW2⟩:∃ V,W1.drewN nq=V:=⟨_,rfl⟩
   have E2:Ext W1 W2:=by rw [<-hW2];exact ext_drewN _ _
   rw [hW2];have HS:=Lh (HS.out.ext E2);clear hW2 E2 hx1' e1' c1 c2 c3
   cases bz with
   | true =>
    rw [if_pos rfl] at HTT;have HD:=Lh (show Calls Tryz.prog 118 #[.pointer (some ⟨B,0,none⟩),.agg #[.int .i64 4,.int .i64 4,.slice none 0 0,.int .i64 (q:Int),.int .i64 0,.slice none 0 0]] W2 _ from do_bare HS.out Hn.out Hng.out Hok.out HT1.out (by have:=HT1l.out;have:=Hlen.out;omega) (o:=wP 1 q) (.p Hlt.out (Or.inl rfl)) rfl rfl)
    go_wp2_with fail
    refine HD.out.mono ?_;rintro e w3 ⟨⟨x3,rfl⟩,v3,hS3⟩;have HS3:=Lh hS3;clear hS3 HD
    have HD:=Lh (show Calls Tryz.prog 118 #[.pointer (some ⟨B,0,none⟩),.agg #[.int .i64 3,.int .i64 0,.slice none 0 0,.int .i64 (q:Int),.int .i64 0,.slice none 0 0]] w3 _ from do_bare HS3.out Hn.out Hng.out Hok.out (fun o ho=>by
     rcases List.mem_append.1 ho with h | h
     ·exact HT1.out o h
     ·rw [List.mem_singleton.1 h];exact .p Hlt.out (Or.inl rfl)) (by rw [List.length_append];have:=HT1l.out;have:=Hlen.out;simp only [List.length_cons,List.length_nil];omega) (o:=wH q) (.h Hlt.out) rfl rfl)
    go_wp2_with fail
    refine HD.out.mono ?_;rintro e w4 ⟨⟨x4,rfl⟩,v4,hS4⟩;have HS4:=Lh hS4;clear hS4 HD
    go_wp2_with fail
    go_roundg (n-(q+1))
    case measure=>have:=Hkk.out;have:=Hlt.out;omega
    case rel=>exact ⟨q+1,T1++[wP 1 q]++[wH q],v4,rfl,by have:=Hiq.out;omega,Hlt.out,rfl,HS4.out,by rw [actL_snoc,actL_snoc,<-HTT.out];simp⟩
   | false =>
    rw [if_neg (by decide)] at HTT;have HD:=Lh (show Calls Tryz.prog 118 #[.pointer (some ⟨B,0,none⟩),.agg #[.int .i64 3,.int .i64 0,.slice none 0 0,.int .i64 (q:Int),.int .i64 0,.slice none 0 0]] W2 _ from do_bare HS.out Hn.out Hng.out Hok.out HT1.out (by have:=HT1l.out;have:=Hlen.out;omega) (o:=wH q) (.h Hlt.out) rfl rfl)
    go_wp2_with fail
    refine HD.out.mono ?_;rintro e w4 ⟨⟨x4,rfl⟩,v4,hS4⟩;have HS4:=Lh hS4;clear hS4 HD
    go_wp2_with fail
    go_roundg (n-(q+1))
    case measure=>have:=Hkk.out;have:=Hlt.out;omega
    case rel=>exact ⟨q+1,T1++[wH q],v4,rfl,by have:=Hiq.out;omega,Hlt.out,rfl,HS4.out,by rw [actL_snoc,<-HTT.out];simp⟩
theorem oneO (w:World) (q c:Nat):OpO (w.alloc (.cells #[.int .i64 (c:Int)] 3)) (wCX q c) (some ⟨w.heap.size,0,none⟩) 1 1 none 0 0:=by
 have hr:=heap_alloc_new w (.cells #[.int .i64 (c:Int)] 3);refine ⟨⟨⟨rfl,Or.inr ⟨_,0,rfl,(gS.1 hr).1,fun t ht=>?_⟩⟩,Nat.le_refl _,by decide,⟨rfl,Or.inl rfl⟩,Nat.le_refl _,by decide⟩,?_,(fun ad e=>by cases e)⟩
 ·rw [cell_of_row _ _ (0+t) _ _ (0,0) hr]
  obtain rfl:t=0:=by omega
  rfl
 ·intro ad e
  cases e
  exact ⟨_,_,hr⟩
theorem do_cx {u w:World} {base B g n ng:Nat} {ag:Option Addr} {cg:Nat} {l:List QP} {v:Value} {ops T:List Gop} (h:HmS u w base B g n ng ag cg (l.map (actL T)) v (ops++T)) (hn:n<=16) (hng:ng<=16) (hok:∀ p ∈ l,p.ok) (hT:∀ o ∈ T,WOk n o) (hlen:ops.length+T.length<=10000)
  {q c:Nat} (ho:WOk n (wCX q c)) :
  Calls Tryz.prog 118 #[.pointer (some ⟨B,0,none⟩),.agg #[.int .i64 2,.int .i64 0,.slice (some ⟨w.heap.size,0,none⟩) 1 1,.int .i64 (q:Int),.int .i64 0,.slice none 0 0]] (w.alloc (.cells #[.int .i64 (c:Int)] 3)) fun e w'=>DoR u base B g n ng ag cg (l.map (actL (T++[wCX q c]))) (ops++(T++[wCX q c])) e w':=by
 have:=do_any (h.ext (ext_al w (.cells #[.int .i64 (c:Int)] 3))) hn hng (list_ok hn hT hok) (by rw [List.length_append];exact hlen) ho _ 1 1 none 0 0 (oneO w q c)
 rwa [map_snoc,List.append_assoc] at this
theorem gather_any {u w:World} {base B g n ng:Nat} {ag:Option Addr} {cg:Nat} {l:List QP} {v:Value} {ops:List Gop} (h:HmS u w base B g n ng ag cg l v ops) (hn:n<=16) (hng:ng<=16) (hok:∀ p ∈ l,p.ok) (hlen:ops.length<=9000)
  {i:Nat} {p:QP} (hp:l[i]?=some p) (hi:i<n) (hgood:p.z.testBit i=false->i<Lib.bitLen p.z-1/\Lib.bitLen p.z-1<n) :
  Calls Tryz.prog 117 #[.pointer (some ⟨B,0,none⟩),.int .i64 (i:Int)] w fun e w'=>DoR u base B g n ng ag cg (l.map (actL (gaS n i p))) (ops++gaS n i p) e w':=by
 have Hh:=Lh h;have Hn:=Lh hn;have Hng:=Lh hng;have Hok:=Lh hok;have Hlen:=Lh hlen;have Hp:=Lh hp;have Hi:=Lh hi;have Hg:=Lh hgood
 have HgA:=Lh (show (∀ o ∈ gaA i p,WOk n o)/\(gaA i p).length<=1 by
  unfold gaA
  split
  ·exact ⟨fun o ho=>by simp at ho,by simp⟩
  ·rename_i hz
   have hz':p.z.testBit i=false:=by simpa using hz
   exact ⟨fun o ho=>by rw [List.mem_singleton.1 ho];exact .cx (hgood hz').2 hi (by have:=(hgood hz').1;omega),by simp⟩)
 have HSet:=Lh (fun (q:Nat) (hq:q<n) wx=>Set_any q (Nat.lt_of_lt_of_le hq hn) wx)
 have hin:i<ng:=by rw [<-h.gl];exact (List.getElem?_eq_some_iff.1 hp).1
 have Hin:=Lh hin
 have i0:(0:Int)<=(i:Int):=by omega
 have i1:(i:Int)<(ng:Int):=by omega
 have hpok:=hok p (List.mem_of_getElem? hp);have HpZ:=Lh hpok.2;clear h hn hng hok hlen hp hi hin hgood hpok
 go_enter Tryz.func117,Tryz.ntmps117
 obtain ⟨hag,hGn,_⟩:=Hh.out.at Hp.out;obtain ⟨e0,e1,e2⟩:=hGn.c i _ Hp.out;obtain ⟨C,c1,c2,c3⟩:=ask_bit HpZ.out (q:=i) (by have:=Hi.out;have:=Hn.out;omega);have HSq:=Lh (HSet.out i Hi.out);obtain ⟨V,hV⟩:∃ V,2 ^ i=V:=⟨_,rfl⟩;rw [hV] at c1 HSq;have hx1:=Hh.out.x1;have Hag:=Lh hag;rw [hag] at hx1;have hga:gaA i p=if p.z.testBit i=true then [] else [wCX (Lib.bitLen p.z-1) i]:=rfl;have Hga:=Lh hga;have HL:=Lh (fun wx=>Tryz.bits_Len16 (p.z:Int) wx (by omega) (by have:=HpZ.out;omega));rw [Int.toNat_natCast] at HL;obtain ⟨bz,hbz⟩:∃ b,p.z.testBit i=b:=⟨_,rfl⟩;rw [hbz] at c2 c3 Hga Hg;obtain ⟨pz,hpz⟩:∃ x,p.z=x:=⟨_,rfl⟩;rw [hpz] at c1 e1 HL Hga Hg;obtain ⟨m,hm⟩:∃ m,Lib.bitLen pz=m:=⟨_,rfl⟩;rw [hm] at HL Hga Hg;clear hag hGn e0 e2 hV hga hbz hpz hm
 go_wp2_with fail
 refine (HSq.out _).mono ?_;rintro e w1 ⟨rfl,hw1⟩;obtain rfl:=hw1.symm
 go_upto_if 18 with fail
 go_cut [] from 19 to 26 (fun wx=>∃ v1,HmS u wx base B g n ng ag cg (l.map (actL (gaA i p))) v1 (ops++gaA i p))
 case first =>
  cases bz with
  | true =>
   rw [if_pos rfl] at Hga
   go_wp2_with fail
   go_meet
   exact ⟨v,by rw [Hga.out,List.append_nil,show actL []=fun p=>p from rfl,List.map_id'];exact Hh.out⟩
  | false =>
   rw [if_neg (by decide)] at Hga;have hgm:=Hg.out rfl
   have wm:IntKind.i64.wrap ((m:Int)-1)=((m-1:Nat):Int):=by rw [IntKind.wrap_i64];have:=Hn.out;omega
   obtain ⟨m1,hm1⟩:∃ m1,m-1=m1:=⟨_,rfl⟩;rw [hm1] at wm hgm Hga;have Hgm:=Lh hgm;clear Hg hgm hm1
   go_wp2_with fail
   refine (HL.out _).mono ?_;rintro e w1 ⟨rfl,hw1⟩;obtain rfl:=hw1.symm;have HD:=Lh (do_cx (T:=[]) (l:=l) (ops:=ops) (by rw [List.append_nil,show actL []=fun p=>p from rfl,List.map_id'];exact Hh.out) Hn.out Hng.out Hok.out (fun o ho=>by simp at ho) (by have:=Hlen.out;simp only [List.length_nil];omega) (q:=m1) (c:=i) (.cx Hgm.out.2 Hi.out (by have:=Hgm.out.1;omega)));clear e1 c1 c2 c3 hx1
   go_wp2_with fail
   refine HD.out.mono ?_;rintro e w4 ⟨⟨x4,rfl⟩,v4,hS4⟩;have HS4:=Lh hS4;clear hS4 HD
   go_wp2_with fail
   go_meet
   exact ⟨v4,by rw [Hga.out];exact HS4.out⟩
 case rest =>
 obtain ⟨v1,hS1⟩:=hcut;have hx0:=hS1.x0;have HS1:=Lh hS1;have HTl:=Lh (gaL_len i n 0 (actL (gaA i p) p))
 have HTok:=Lh (show ∀ o ∈ gaS n i p,WOk n o from fun o ho=>by
  unfold gaS at ho
  rcases List.mem_append.1 ho with h | h
  ·exact HgA.out.1 o h
  ·exact gaL_ok Hi.out n 0 _ (by omega) o h)
 have Hst:=Lh (show gaA i p++gaL i (n-0) 0 (actL (gaA i p) p)=gaS n i p from rfl);have HSl:=Lh (show (gaS n i p).length<=1+n by unfold gaS;rw [List.length_append];have:=HTl.out;have:=HgA.out.2;omega);obtain ⟨T,hT⟩:∃ T,gaS n i p=T:=⟨_,rfl⟩;rw [hT] at HTok Hst HSl;have HTe:=Lh hT;clear hS1 hT HTl e1 c1 c2 c3 hx1 HL Hga
 go_wp2_with fail
 go_loopg [31] n (fun kk s31 wr=>∃ (q:Nat) (T1:List Gop) (v1:Value),s31=.int .i64 (q:Int)/\q<=n/\n-q=kk/\HmS u wr base B g n ng ag cg (l.map (actL T1)) v1 (ops++T1)/\T1++gaL i (n-q) q (actL T1 p)=T)
 case atStart=>exact ⟨0,gaA i p,v1,rfl,Nat.zero_le _,rfl,HS1.out,Hst.out⟩
 case round =>
  obtain ⟨q,T1,v1,rfl,hqn,hkk,hS,hTT⟩:=hrel;have Hkk:=Lh hkk;have HS:=Lh hS;have HTT:=Lh hTT;have HT1:=Lh (show ∀ o ∈ T1,WOk n o from fun o ho=>HTok.out o (by rw [<-hTT];exact List.mem_append_left _ ho));have HT1l:=Lh (show T1.length<=100 by have h1:=congrArg List.length hTT;rw [List.length_append] at h1;have:=HSl.out;have:=Hn.out;omega)
  by_cases hqn2:q=n
  ·have p1:¬ (q:Int)<(n:Int):=by omega
   have hfin:T1=T:=by have h1:=hTT;rw [hqn2,Nat.sub_self] at h1;rw [<-h1];simp [gaL]
   rw [hfin] at HS;clear hkk hS hTT hqn hqn2 hfin
   go_wp2_with fail
   go_end0
   exact ⟨⟨_,rfl⟩,v1,by rw [HTe.out];exact HS.out⟩
  have hlt:q<n:=by omega
  have p1:(q:Int)<(n:Int):=by omega
  have wq:IntKind.i64.wrap ((q:Int)+1)=((q+1:Nat):Int):=by rw [IntKind.wrap_i64];have:=Hn.out;omega
  have hst:gaL i (n-q) q (actL T1 p)=if q≠i/\(actL T1 p).z.testBit q=true then wCX i q :: gaL i (n-(q+1)) (q+1) (actW (wCX i q) (actL T1 p)) else gaL i (n-(q+1)) (q+1) (actL T1 p):=by
   rw [show n-q=(n-(q+1))+1 by omega,gaL]
  rw [hst] at HTT;have Hlt:=Lh hlt
  have hq0:(0:Int)<=(q:Int):=by omega
  by_cases hqi:q=i
  ·have nq1:((q:Int) != (i:Int))=false:=by rw [hqi];simp
   have nq2:((q:Int) == (i:Int))=true:=by rw [hqi];simp
   rw [if_neg (fun h=>h.1 hqi)] at HTT;clear hkk hS hTT hqn hqn2 hlt hst hqi
   go_upto_region 6 with fail
   go_quiet (fail)
   obtain ⟨W1,hW1⟩:∃ V,wr.drewN nq=V:=⟨_,rfl⟩
   have E1:Ext wr W1:=by rw [<-hW1];exact ext_drewN _ _
   rw [hW1];have HS:=Lh (HS.out.ext E1);clear hW1 E1 nq1 nq2
   go_wp2_with fail
   go_roundg (n-(q+1))
   case measure=>have:=Hkk.out;have:=Hlt.out;omega
   case rel=>exact ⟨q+1,T1,v1,rfl,Hlt.out,rfl,HS.out,HTT.out⟩
  have nq1:((q:Int) != (i:Int))=true:=by simp;omega
  have nq2:((q:Int) == (i:Int))=false:=bf (by omega);have Hqi:=Lh hqi
  have hpi:(l.map (actL T1))[i]?=some (actL T1 p):=by rw [List.getElem?_map,Hp.out];rfl
  obtain ⟨hag,hGn,_⟩:=hS.at hpi;obtain ⟨e0,e1,e2⟩:=hGn.c i _ hpi;have hx1:=hS.x1;rw [hag] at hx1;have hpok:=actL_ok Hn.out HT1.out (Hok.out p (List.mem_of_getElem? Hp.out));obtain ⟨C,c1,c2,c3⟩:=ask_bit hpok.2 (q:=q) (by have:=Hn.out;omega);have HSq:=Lh (HSet.out q hlt);obtain ⟨V,hV⟩:∃ V,2 ^ q=V:=⟨_,rfl⟩;rw [hV] at c1 HSq;obtain ⟨bz,hbz⟩:∃ b,(actL T1 p).z.testBit q=b:=⟨_,rfl⟩;rw [hbz] at c2 c3 HTT;obtain ⟨pz,hpz⟩:∃ x,(actL T1 p).z=x:=⟨_,rfl⟩;rw [hpz] at c1 e1;clear hkk hS hTT hqn hqn2 hlt hst hqi hpi hGn hag e0 e2 hpok hV hbz hpz
  go_upto_region 6 with fail
  go_quiet ((go_at_call 86;refine Calls.quiet_of_same (HSq.out _)))
  obtain ⟨W1,hW1⟩:∃ V,wr.drewN nq=V:=⟨_,rfl⟩
  have E1:Ext wr W1:=by rw [<-hW1];exact ext_drewN _ _
  rw [hW1];have HS:=Lh (HS.out.ext E1);clear hW1 E1 nq1 nq2 e1 hx1 c1 c2 c3
  cases bz with
  | false =>
   rw [if_neg (fun h=>by exact absurd h.2 (by decide))] at HTT
   go_wp2_with fail
   go_roundg (n-(q+1))
   case measure=>have:=Hkk.out;have:=Hlt.out;omega
   case rel=>exact ⟨q+1,T1,v1,rfl,Hlt.out,rfl,HS.out,HTT.out⟩
  | true =>
   rw [if_pos ⟨Hqi.out,rfl⟩] at HTT;have HD:=Lh (do_cx HS.out Hn.out Hng.out Hok.out HT1.out (by have:=HT1l.out;have:=Hlen.out;omega) (q:=i) (c:=q) (.cx Hi.out Hlt.out (by have:=Hqi.out;omega)))
   go_wp2_with fail
   refine HD.out.mono ?_;rintro e w4 ⟨⟨x4,rfl⟩,v4,hS4⟩;have HS4:=Lh hS4;clear hS4 HD
   go_wp2_with fail
   go_roundg (n-(q+1))
   case measure=>have:=Hkk.out;have:=Hlt.out;omega
   case rel=>exact ⟨q+1,T1++[wCX i q],v4,rfl,Hlt.out,rfl,HS4.out,by rw [actL_snoc,<-HTT.out];simp⟩
def zQ (j:Nat):QP:=⟨0,2 ^ j,false⟩
theorem bit_pow (i j:Nat):(2 ^ i).testBit j=decide (i=j):=Nat.testBit_two_pow
theorem flip_zQ {q j:Nat} (h:j≠q):flipG q (zQ j)=zQ j:=by
 refine QP.ext' rfl rfl ?_
 show (false ^^ (2 ^ j).testBit q)=false
 rw [bit_pow,decide_eq_false h];rfl
theorem fork_zQ {q j:Nat} (h:j≠q):forkG q (zQ j)=zQ j:=by
 refine QP.ext' (Nat.eq_of_testBit_eq fun k=>?_) (Nat.eq_of_testBit_eq fun k=>?_) ?_
 ·rw [fork_x]
  show (if q=k then (2 ^ j).testBit k else (0:Nat).testBit k)=(0:Nat).testBit k
  rw [Nat.zero_testBit,bit_pow]
  split
  ·exact decide_eq_false (by omega)
  ·rfl
 ·rw [fork_z]
  show (if q=k then (0:Nat).testBit k else (2 ^ j).testBit k)=(2 ^ j).testBit k
  rw [Nat.zero_testBit,bit_pow]
  split
  ·exact (decide_eq_false (by omega)).symm
  ·rfl
 ·show (false ^^ ((0:Nat).testBit q && (2 ^ j).testBit q))=false
  rw [Nat.zero_testBit];rfl
theorem quar_zQ (q j:Nat):quarG q (zQ j)=zQ j:=by
 refine QP.ext' rfl ?_ ?_
 ·show 2 ^ j ^^^ (0 &&& 2 ^ q)=2 ^ j
  rw [Nat.zero_and,Nat.xor_zero]
 ·show (false ^^ ((0:Nat).testBit q && (2 ^ j).testBit q))=false
  rw [Nat.zero_testBit];rfl
theorem on_zQ {q c j:Nat} (h:j≠q):onG q c (zQ j)=zQ j:=by
 have hb:(2 ^ j).testBit q=false:=by rw [bit_pow];exact decide_eq_false h
 refine QP.ext' ?_ ?_ ?_
 ·show (if (0:Nat).testBit c then 0 ^^^ 2 ^ q else 0)=0
  rw [Nat.zero_testBit];rfl
 ·show (if (2 ^ j).testBit q then 2 ^ j ^^^ 2 ^ c else 2 ^ j)=2 ^ j
  rw [hb];rfl
 ·show (false ^^ ((0:Nat).testBit c && (2 ^ j).testBit q && ((0:Nat).testBit q == (2 ^ j).testBit c)))=false
  rw [Nat.zero_testBit];rfl
structure Nice (n:Nat) (f:QP->QP):Prop where
 lin:Lin f
 ant:∀ p r,ant (f p) (f r)=ant p r
 fit:∀ p:QP,p.x<2 ^ n->p.z<2 ^ n->(f p).x<2 ^ n/\(f p).z<2 ^ n
theorem Nice.comp {n:Nat} {f g:QP->QP} (hf:Nice n f) (hg:Nice n g):Nice n (fun p=>g (f p)) :=
 ⟨hf.lin.comp hg.lin,fun p r=>(hg.ant _ _).trans (hf.ant p r),fun p h1 h2=>hg.fit _ (hf.fit p h1 h2).1 (hf.fit p h1 h2).2⟩
theorem nice_id (n:Nat):Nice n (fun p=>p):=⟨lin_id,fun _ _=>rfl,fun _ h1 h2=>⟨h1,h2⟩⟩
theorem pow_fit {q n:Nat} (h:q<n):2 ^ q<2 ^ n:=Nat.pow_lt_pow_right (by decide) h
theorem nice_flip (n q:Nat):Nice n (flipG q):=⟨lin_flip q,ant_flip q,fun _ h1 h2=>⟨h1,h2⟩⟩
theorem nice_fork (n q:Nat):Nice n (forkG q):=⟨lin_fork q,ant_fork q,fun _ h1 h2=>⟨Nat.xor_lt_two_pow h1 (Nat.lt_of_le_of_lt Nat.and_le_left (Nat.xor_lt_two_pow h1 h2)),Nat.xor_lt_two_pow h2 (Nat.lt_of_le_of_lt Nat.and_le_left (Nat.xor_lt_two_pow h1 h2))⟩⟩
theorem nice_quar (n q:Nat):Nice n (quarG q):=⟨lin_quar q,ant_quar q,fun _ h1 h2=>⟨h1,Nat.xor_lt_two_pow h2 (Nat.lt_of_le_of_lt Nat.and_le_left h1)⟩⟩
theorem nice_on {n q c:Nat} (hn:n<=16) (hq:q<n) (hc:c<n) (h:q≠c):Nice n (onG q c):=by
 refine ⟨lin_on q c,ant_on h (by omega) (by omega),fun p h1 h2=>⟨?_,?_⟩⟩
 ·show (if p.x.testBit c then p.x ^^^ 2 ^ q else p.x)<2 ^ n
  split
  ·exact Nat.xor_lt_two_pow h1 (pow_fit hq)
  ·exact h1
 ·show (if p.z.testBit q then p.z ^^^ 2 ^ c else p.z)<2 ^ n
  split
  ·exact Nat.xor_lt_two_pow h2 (pow_fit hc)
  ·exact h2
theorem nice_it {n:Nat} {f:QP->QP} (h:Nice n f):∀ k,Nice n (itG f k)
 | 0=>nice_id n
 | k+1=>h.comp (nice_it h k)
theorem nice_act {n:Nat} (hn:n<=16) {o:Gop} (ho:WOk n o):Nice n (actW o):=by
 cases ho with
 | x _=>rw [act_x];exact nice_flip n _
 | cx h h2 h3=>rw [act_cx];exact nice_on hn h h2 h3
 | h _=>rw [act_h];exact nice_fork n _
 | p _ _=>rw [act_p];exact nice_it (nice_quar n _) _
theorem nice_all {n:Nat} (hn:n<=16):∀ {ops:List Gop},(∀ o ∈ ops,WOk n o)->Nice n (actL ops)
 | [],_=>nice_id n
 | o :: r,h=>(nice_act hn (h o (by simp))).comp (nice_all hn fun x hx=>h x (List.mem_cons_of_mem _ hx))
theorem undo_act {n:Nat} {o:Gop} (ho:WOk n o):WOk n (undoO o)/\∀ p,actW (undoO o) (actW o p)=p:=by
 cases ho with
 | @x q h =>
  rw [show undoO (wX q)=wX q from rfl];exact ⟨.x h,fun p=>by rw [act_x];exact flip_flip q p⟩
 | @cx q c h h2 h3 =>
  rw [show undoO (wCX q c)=wCX q c from rfl];exact ⟨.cx h h2 h3,fun p=>by rw [act_cx];exact on_on h3 p⟩
 | @h q h =>
  rw [show undoO (wH q)=wH q from rfl];exact ⟨.h h,fun p=>by rw [act_h];exact fork_fork q p⟩
 | @p q k h hk =>
  rcases hk with rfl | rfl
  ·rw [show undoO (wP 1 q)=wP 3 q from rfl]
   exact ⟨.p h (Or.inr rfl),fun p=>by rw [act_p,act_p];exact quar_four q p⟩
  ·rw [show undoO (wP 3 q)=wP 1 q from rfl]
   exact ⟨.p h (Or.inl rfl),fun p=>by rw [act_p,act_p];exact quar_four q p⟩
theorem undo_all {n:Nat}:∀ {ops:List Gop},(∀ o ∈ ops,WOk n o)->(∀ o ∈ invO ops,WOk n o)/\∀ p,actL (invO ops) (actL ops p)=p
 | [],_=>⟨fun o ho=>by simp [invO] at ho,fun _=>rfl⟩
 | o :: r,h=>by
  obtain ⟨h1,h2⟩:=undo_all (ops:=r) fun x hx=>h x (List.mem_cons_of_mem _ hx)
  obtain ⟨h3,h4⟩:=undo_act (h o (by simp))
  have e:invO (o :: r)=invO r++[undoO o]:=by unfold invO;rw [List.reverse_cons,List.map_append];rfl
  refine ⟨fun x hx=>?_,fun p=>?_⟩
  ·rw [e] at hx
   rcases List.mem_append.1 hx with hx | hx
   ·exact h1 x hx
   ·rw [List.mem_singleton.1 hx];exact h3
  ·rw [e,actL_snoc,actL_cons,h2]
   exact h4 p
inductive InS (l:List QP):Nat->Nat->Prop
 | zero:InS l 0 0
 | add {x z:Nat} {p:QP} (hp:p ∈ l) (h:InS l x z):InS l (x ^^^ p.x) (z ^^^ p.z)
theorem lin_zero {f:QP->QP} (h:Lin f) (m:Bool):(f ⟨0,0,m⟩).x=0/\(f ⟨0,0,m⟩).z=0:=by
 have hx:=h.x ⟨0,0,m⟩ ⟨0,0,m⟩ ⟨0,0,m⟩ (Nat.xor_self 0).symm (Nat.xor_self 0).symm;have hz:=h.z ⟨0,0,m⟩ ⟨0,0,m⟩ ⟨0,0,m⟩ (Nat.xor_self 0).symm (Nat.xor_self 0).symm;exact ⟨by rw [hx,Nat.xor_self],by rw [hz,Nat.xor_self]⟩
theorem lin_let {f:QP->QP} (h:Lin f) {a b:QP} (h1:a.x=b.x) (h2:a.z=b.z):(f a).x=(f b).x/\(f a).z=(f b).z:=by
 have hx:=h.x b ⟨0,0,false⟩ a (by rw [h1];exact (Nat.xor_zero _).symm) (by rw [h2];exact (Nat.xor_zero _).symm);have hz:=h.z b ⟨0,0,false⟩ a (by rw [h1];exact (Nat.xor_zero _).symm) (by rw [h2];exact (Nat.xor_zero _).symm);rw [(lin_zero h false).1,Nat.xor_zero] at hx;rw [(lin_zero h false).2,Nat.xor_zero] at hz;exact ⟨hx,hz⟩
theorem xor_bit {z i:Nat} (hz:z<2 ^ (i+1)) (hb:z.testBit i=true):z ^^^ 2 ^ i<2 ^ i:=by
 refine Nat.lt_pow_two_of_testBit _ fun j hj=>?_
 rw [Nat.testBit_xor,bit_pow]
 by_cases e:i=j
 ·subst e;rw [hb,decide_eq_true rfl];rfl
 ·rw [decide_eq_false e,Bool.xor_false]
  exact Nat.testBit_lt_two_pow (Nat.lt_of_lt_of_le hz (Nat.pow_le_pow_right (by decide) (by omega)))
theorem no_bit {z i:Nat} (hz:z<2 ^ (i+1)) (hb:z.testBit i=false):z<2 ^ i:=by
 refine Nat.lt_pow_two_of_testBit _ fun j hj=>?_
 by_cases e:i=j
 ·subst e;exact hb
 ·exact Nat.testBit_lt_two_pow (Nat.lt_of_lt_of_le hz (Nat.pow_le_pow_right (by decide) (by omega)))
theorem span_home {f:QP->QP} (hf:Lin f) {l:List QP}:∀ i,i<=l.length->(∀ j,j<i->f (l.getD j ⟨0,0,false⟩)=zQ j)->∀ z,z<2 ^ i->∃ x' z',InS (l.take i) x' z'/\(f ⟨x',z',false⟩).x=0/\(f ⟨x',z',false⟩).z=z
 | 0,_,_,z,hz=>⟨0,0,.zero,(lin_zero hf false).1,by rw [(lin_zero hf false).2];simp at hz;omega⟩
 | i+1,hi,hj,z,hz=>by
  have up:∀ x' z',InS (l.take i) x' z'->InS (l.take (i+1)) x' z':=fun x' z' h=>by
   induction h with
   | zero=>exact .zero
   | add hp _ ih=>exact .add (by rw [List.take_add_one];exact List.mem_append_left _ hp) ih
  cases hb:z.testBit i with
  | false =>
   obtain ⟨x',z',h1,h2,h3⟩:=span_home hf i (by omega) (fun j h=>hj j (by omega)) z (no_bit hz hb);exact ⟨x',z',up _ _ h1,h2,h3⟩
  | true =>
   obtain ⟨x',z',h1,h2,h3⟩:=span_home hf i (by omega) (fun j h=>hj j (by omega)) (z ^^^ 2 ^ i) (xor_bit hz hb);have hg:=List.getElem?_eq_getElem (show i<l.length by omega)
   have hgd:l.getD i ⟨0,0,false⟩=l[i]'(by omega):=by rw [List.getD_eq_getElem?_getD,hg];rfl
   have hm:l.getD i ⟨0,0,false⟩ ∈ l.take (i+1):=by
    rw [hgd,List.take_add_one,hg];exact List.mem_append_right _ (by simp)
   have hfi:=hj i (by omega);refine ⟨_,_,.add hm (up _ _ h1),?_,?_⟩
   ·rw [hf.x ⟨x',z',false⟩ (l.getD i ⟨0,0,false⟩) _ rfl rfl,h2,hfi]
    exact Nat.xor_self 0
   ·rw [hf.z ⟨x',z',false⟩ (l.getD i ⟨0,0,false⟩) _ rfl rfl,h3,hfi]
    show (z ^^^ 2 ^ i) ^^^ 2 ^ i=z
    rw [Nat.xor_assoc,Nat.xor_self,Nat.xor_zero]
theorem tz_x:∀ (k q:Nat) (p:QP),(∀ j,j<q->p.x.testBit j=false)->∀ j,j<q+k->(actL (tzL k q p) p).x.testBit j=false
 | 0,_,_,h,j,hj=>h j (by omega)
 | k+1,q,p,h,j,hj=>by
  unfold tzL
  split
  ·rename_i hx
   exact tz_x k (q+1) p (fun i hi=>by
    by_cases e:i=q
    ·rw [e];exact hx
    ·exact h i (by omega)) j (by omega)
  ·rename_i hx
   split
   ·rename_i hz
    rw [actL_cons,actL_cons];refine tz_x k (q+1) _ (fun i hi=>?_) j (by omega);rw [act_h,act_p]
    show (forkG q (quarG q p)).x.testBit i=false
    rw [fork_x]
    split
    ·rename_i e
     subst e;rw [quar_z,hz]
     have:p.x.testBit q=true:=by simpa using hx
     rw [this]
     simp
    ·exact h i (by omega)
   ·rename_i hz
    rw [actL_cons];refine tz_x k (q+1) _ (fun i hi=>?_) j (by omega);rw [act_h,fork_x]
    split
    ·rename_i e
     subst e
     simpa using hz
    ·exact h i (by omega)
theorem tz_keep {j:Nat}:∀ (k q:Nat) (p:QP),j<q->actL (tzL k q p) (zQ j)=zQ j
 | 0,_,_,_=>rfl
 | k+1,q,p,h=>by
  unfold tzL
  split
  ·exact tz_keep k (q+1) p (by omega)
  ·split
   ·rw [actL_cons,actL_cons,act_p,act_h]
    show actL _ (forkG q (quarG q (zQ j)))=_
    rw [quar_zQ,fork_zQ (by omega)];exact tz_keep k (q+1) _ (by omega)
   ·rw [actL_cons,act_h,fork_zQ (by omega)]
    exact tz_keep k (q+1) _ (by omega)
theorem on_x0 {q c:Nat} {p:QP} (h:p.x=0):(onG q c p).x=0/\(onG q c p).z=(if p.z.testBit q then p.z ^^^ 2 ^ c else p.z):=by
 refine ⟨?_,rfl⟩
 show (if p.x.testBit c then p.x ^^^ 2 ^ q else p.x)=0
 rw [h,Nat.zero_testBit]
 rfl
theorem gaL_z {i:Nat}:∀ (k q:Nat) (p:QP),p.x=0->p.z.testBit i=true->(∀ j,j<q->j≠i->p.z.testBit j=false) ->
  (actL (gaL i k q p) p).x=0/\(actL (gaL i k q p) p).z.testBit i=true/\∀ j,j<q+k->j≠i->(actL (gaL i k q p) p).z.testBit j=false
 | 0,_,_,h1,h2,h3=>⟨h1,h2,fun j hj hne=>h3 j (by omega) hne⟩
 | k+1,q,p,h1,h2,h3=>by
  unfold gaL
  split
  ·rename_i hq
   rw [actL_cons,act_cx]
   have hz:(onG i q p).z=p.z ^^^ 2 ^ q:=by rw [(on_x0 h1).2,if_pos h2]
   have:=gaL_z k (q+1) (onG i q p) (on_x0 h1).1 (by rw [hz,Nat.testBit_xor,bit_pow,h2,decide_eq_false hq.1];rfl) (fun j hj hne=>by
    rw [hz,Nat.testBit_xor,bit_pow]
    by_cases e:q=j
    ·subst e;rw [hq.2,decide_eq_true rfl];rfl
    ·rw [decide_eq_false e,h3 j (by omega) hne];rfl)
   exact ⟨this.1,this.2.1,fun j hj=>this.2.2 j (by omega)⟩
  ·rename_i hq
   have:=gaL_z k (q+1) p h1 h2 (fun j hj hne=>by
    by_cases e:j=q
    ·subst e
     cases hb:p.z.testBit j with
     | false=>rfl
     | true=>exact absurd ⟨hne,hb⟩ hq
    ·exact h3 j (by omega) hne)
   exact ⟨this.1,this.2.1,fun j hj=>this.2.2 j (by omega)⟩
theorem gaL_keep {i j:Nat} (h:j<i):∀ (k q:Nat) (p:QP),actL (gaL i k q p) (zQ j)=zQ j
 | 0,_,_=>rfl
 | k+1,q,p=>by
  unfold gaL
  split
  ·rw [actL_cons,act_cx,on_zQ (by omega)]
   exact gaL_keep h k (q+1) _
  ·exact gaL_keep h k (q+1) p
def GoodZ (n i:Nat) (p:QP):Prop:=p.z.testBit i=false->i<Lib.bitLen p.z-1/\Lib.bitLen p.z-1<n
theorem top_bit {z:Nat} (h0:z≠0) (h:z<65536):z.testBit (Lib.bitLen z-1)=true/\2 ^ (Lib.bitLen z-1)<=z:=by
 obtain ⟨h1,h2,h3⟩:=Lib.bitLenAux_bounds 64 z (Nat.lt_of_lt_of_le h (by decide)) h0;have h2':2 ^ (Lib.bitLen z-1)<=z:=h2;have h3':z<2 ^ Lib.bitLen z:=h3;have h1':1<=Lib.bitLen z:=h1;obtain ⟨m,hm⟩:∃ m,Lib.bitLen z=m+1:=⟨Lib.bitLen z-1,by omega⟩;rw [hm] at h2' h3' ⊢;simp only [Nat.add_sub_cancel] at h2' ⊢;refine ⟨?_,h2'⟩
 cases hb:z.testBit m with
 | true=>rfl
 | false=>exact absurd (no_bit h3' hb) (by omega)
theorem good_of {n i:Nat} {p:QP} (hn:n<=16) (hz:2 ^ i<=p.z) (hzn:p.z<2 ^ n):GoodZ n i p:=fun hb=>by
 have h0:p.z≠0:=by have:=Nat.two_pow_pos i;omega
 obtain ⟨t1,t2⟩:=top_bit h0 (Nat.lt_of_lt_of_le hzn (Nat.pow_le_pow_right (by decide) hn))
 constructor
 ·have h1:¬ Lib.bitLen p.z-1=i:=fun e=>by rw [e,hb] at t1;cases t1
  have h2:¬ Lib.bitLen p.z-1<i:=fun e=>by
   have h3:p.z<2 ^ Lib.bitLen p.z:=(Lib.bitLenAux_bounds 64 p.z (Nat.lt_of_lt_of_le (Nat.lt_of_lt_of_le hzn (Nat.pow_le_pow_right (by decide) hn)) (by decide)) h0).2.2;have h4:2 ^ Lib.bitLen p.z<=2 ^ i:=Nat.pow_le_pow_right (by decide) (by omega);omega
  omega
 ·refine Nat.lt_of_not_le fun e=>?_
  have:=Nat.pow_le_pow_right (show 0<2 by decide) e;omega
theorem one_home {n i:Nat} (hn:n<=16) (hi:i<n) {p:QP} (hx:∀ j,j<i->p.x.testBit j=false) (hf:p.x<2 ^ n/\p.z<2 ^ n) (hg:2 ^ i<=(actL (tzL (n-i) i p) p).z) :
  GoodZ n i (actL (tzL (n-i) i p) p)/\(∀ o ∈ wayS n i p,WOk n o)/\actL (wayS n i p) p=zQ i/\∀ j,j<i->actL (wayS n i p) (zQ j)=zQ j:=by
 have hTok:=tzL_ok (n:=n) (n-i) i p (by omega);have hTf:=(nice_all hn hTok).fit p hf.1 hf.2
 have hT0:(actL (tzL (n-i) i p) p).x=0:=by
  refine Nat.eq_of_testBit_eq fun j=>?_
  rw [Nat.zero_testBit]
  by_cases hj:j<n
  ·exact tz_x (n-i) i p hx j (by omega)
  ·exact Nat.testBit_lt_two_pow (Nat.lt_of_lt_of_le hTf.1 (Nat.pow_le_pow_right (by decide) (by omega)))
 have hTk:=fun j (hj:j<i)=>tz_keep (j:=j) (n-i) i p hj
 have hgood:GoodZ n i (actL (tzL (n-i) i p) p):=good_of hn hg hTf.2;unfold wayS;obtain ⟨T,hT⟩:∃ T,tzL (n-i) i p=T:=⟨_,rfl⟩;rw [hT] at hTok hTf hT0 hTk hgood hg ⊢;obtain ⟨p1,hp1⟩:∃ p1,actL T p=p1:=⟨_,rfl⟩;rw [hp1] at hTf hT0 hgood hg ⊢
 have hA:(∀ o ∈ gaA i p1,WOk n o)/\(actL (gaA i p1) p1).x=0/\(actL (gaA i p1) p1).z.testBit i=true/\∀ j,j<i->actL (gaA i p1) (zQ j)=zQ j:=by
  unfold gaA
  split
  ·rename_i hb
   exact ⟨fun o ho=>by simp at ho,hT0,hb,fun _ _=>rfl⟩
  ·rename_i hb
   have hb':p1.z.testBit i=false:=by simpa using hb
   obtain ⟨g1,g2⟩:=hgood hb'
   have h0:p1.z≠0:=by have:=Nat.two_pow_pos i;omega
   have ht:=(top_bit h0 (Nat.lt_of_lt_of_le hTf.2 (Nat.pow_le_pow_right (by decide) hn))).1;refine ⟨fun o ho=>by rw [List.mem_singleton.1 ho];exact .cx g2 hi (by omega),?_,?_,fun j hj=>?_⟩
   ·rw [actL_cons,actL_nil,act_cx];exact (on_x0 hT0).1
   ·rw [actL_cons,actL_nil,act_cx,(on_x0 hT0).2,if_pos ht,Nat.testBit_xor,hb',bit_pow,decide_eq_true rfl];rfl
   ·rw [actL_cons,actL_nil,act_cx,on_zQ (by omega)]
 obtain ⟨hA1,hA2,hA3,hA4⟩:=hA;have hAf:=(nice_all hn hA1).fit p1 hTf.1 hTf.2;have hLok:=gaL_ok hi n 0 (actL (gaA i p1) p1) (by omega);obtain ⟨l1,l2,l3⟩:=gaL_z n 0 (actL (gaA i p1) p1) hA2 hA3 (fun j hj=>absurd hj (by omega));have hLf:=(nice_all hn hLok).fit _ hAf.1 hAf.2
 have hGok:∀ o ∈ gaS n i p1,WOk n o:=fun o ho=>by
  unfold gaS at ho
  rcases List.mem_append.1 ho with h | h
  ·exact hA1 o h
  ·exact hLok o h
 have hG:actL (gaS n i p1) p1=actL (gaL i n 0 (actL (gaA i p1) p1)) (actL (gaA i p1) p1):=by unfold gaS;rw [actL_append]
 have hGk:∀ j,j<i->actL (gaS n i p1) (zQ j)=zQ j:=fun j hj=>by unfold gaS;rw [actL_append,hA4 j hj];exact gaL_keep hj n 0 _
 rw [<-hG] at l1 l2 l3 hLf;obtain ⟨G,hGe⟩:∃ G,gaS n i p1=G:=⟨_,rfl⟩;rw [hGe] at hGok hGk l1 l2 l3 hLf ⊢;obtain ⟨p2,hp2⟩:∃ p2,actL G p1=p2:=⟨_,rfl⟩;rw [hp2] at l1 l2 l3 hLf ⊢
 have hz2:p2.z=2 ^ i:=by
  refine Nat.eq_of_testBit_eq fun j=>?_
  rw [bit_pow]
  by_cases e:i=j
  ·subst e;rw [l2,decide_eq_true rfl]
  ·rw [decide_eq_false e]
   by_cases hj:j<n
   ·exact l3 j (by omega) (Ne.symm e)
   ·exact Nat.testBit_lt_two_pow (Nat.lt_of_lt_of_le hLf.2 (Nat.pow_le_pow_right (by decide) (by omega)))
 have hMok:∀ o ∈ mnS i p2,WOk n o:=fun o ho=>by
  unfold mnS at ho
  split at ho
  ·rw [List.mem_singleton.1 ho];exact .x hi
  ·simp at ho
 have hM:actL (mnS i p2) p2=zQ i:=by
  unfold mnS
  split
  ·rename_i hm
   rw [actL_cons,actL_nil,act_x];refine QP.ext' l1 hz2 ?_
   show (p2.m ^^ p2.z.testBit i)=false
   rw [hm,l2];rfl
  ·rename_i hm
   exact QP.ext' l1 hz2 (show p2.m=false by simpa using hm)
 have hMk:∀ j,j<i->actL (mnS i p2) (zQ j)=zQ j:=fun j hj=>by
  unfold mnS
  split
  ·rw [actL_cons,actL_nil,act_x,flip_zQ (by omega)]
  ·rfl
 refine ⟨hgood,fun o ho=>?_,?_,fun j hj=>?_⟩
 ·rcases List.mem_append.1 ho with h | h
  ·exact hTok o h
  ·rcases List.mem_append.1 h with h | h
   ·exact hGok o h
   ·exact hMok o h
 ·rw [actL_append,actL_append,hp1,hp2];exact hM
 ·rw [actL_append,actL_append,hTk j hj,hGk j hj];exact hMk j hj
structure GoodL (n:Nat) (l:List QP):Prop where
 len:l.length<=n
 fit:∀ p ∈ l,p.x<2 ^ n/\p.z<2 ^ n
 com:∀ a ∈ l,∀ b ∈ l,ant a b=false
 ind:∀ i p,l[i]?=some p->¬ InS (l.take i) p.x p.z
theorem ant_zQ (p:QP) {j:Nat} (hj:j<16):ant p (zQ j)=p.x.testBit j:=by
 unfold ant zQ;simp only [Nat.and_zero,par_zero,Bool.xor_false];exact par_bit 16 p.x j hj
theorem step_home' {n:Nat} (hn:n<=16) {l:List QP} (hG:GoodL n l) {i:Nat} (h1:∀ o ∈ wayL n l i,WOk n o) (h2:∀ j,j<i->actL (wayL n l i) (l.getD j ⟨0,0,false⟩)=zQ j) (hi:i<l.length) :
  GoodZ n i (actL (tzL (n-i) i (actL (wayL n l i) (l.getD i ⟨0,0,false⟩))) (actL (wayL n l i) (l.getD i ⟨0,0,false⟩)))/\(∀ o ∈ wayS n i (actL (wayL n l i) (l.getD i ⟨0,0,false⟩)),WOk n o)/\actL (wayS n i (actL (wayL n l i) (l.getD i ⟨0,0,false⟩))) (actL (wayL n l i) (l.getD i ⟨0,0,false⟩))=zQ i/\∀ j,j<i->actL (wayS n i (actL (wayL n l i) (l.getD i ⟨0,0,false⟩))) (zQ j)=zQ j:=by
 have hN:=nice_all hn h1;have hgi:=List.getElem?_eq_getElem hi
 have hgd:l.getD i ⟨0,0,false⟩=l[i]:=by rw [List.getD_eq_getElem?_getD,hgi];rfl
 have hmem:l.getD i ⟨0,0,false⟩ ∈ l:=by rw [hgd];exact List.getElem_mem hi
 have hfit:=hG.fit _ hmem;have hlen:=hG.len
 have hx:∀ j,j<i->(actL (wayL n l i) (l.getD i ⟨0,0,false⟩)).x.testBit j=false:=fun j hj=>by
  rw [<-ant_zQ _ (show j<16 by omega),<-h2 j hj,hN.ant];refine hG.com _ hmem _ ?_;rw [List.getD_eq_getElem?_getD,List.getElem?_eq_getElem (show j<l.length by omega)];exact List.getElem_mem _
 have hf:=hN.fit _ hfit.1 hfit.2;refine one_home hn (by omega) hx hf (Nat.le_of_not_lt fun hlow=>?_);have hTok:=tzL_ok (n:=n) (n-i) i (actL (wayL n l i) (l.getD i ⟨0,0,false⟩)) (by omega);have hTx:=tz_x (n-i) i _ hx
 have hTk:=fun j (hj:j<i)=>tz_keep (j:=j) (n-i) i (actL (wayL n l i) (l.getD i ⟨0,0,false⟩)) hj
 have hTf:=(nice_all hn hTok).fit _ hf.1 hf.2;generalize hT:tzL (n-i) i (actL (wayL n l i) (l.getD i ⟨0,0,false⟩))=T at *
 have hWT:∀ o ∈ wayL n l i++T,WOk n o:=fun o ho=>(List.mem_append.1 ho).elim (h1 o) (hTok o)
 have hN2:=nice_all hn hWT
 have hx0:(actL (wayL n l i++T) (l.getD i ⟨0,0,false⟩)).x=0:=by
  rw [actL_append]
  refine Nat.eq_of_testBit_eq fun j=>?_
  rw [Nat.zero_testBit]
  by_cases hj:j<n
  ·exact hTx j (by omega)
  ·exact Nat.testBit_lt_two_pow (Nat.lt_of_lt_of_le hTf.1 (Nat.pow_le_pow_right (by decide) (by omega)))
 have hz0:(actL (wayL n l i++T) (l.getD i ⟨0,0,false⟩)).z<2 ^ i:=by rw [actL_append];exact hlow
 obtain ⟨x',z',s1,s2,s3⟩:=span_home (l:=l) hN2.lin i (by omega) (fun j hj=>by rw [actL_append,h2 j hj];exact hTk j hj) _ hz0;have hU:=(undo_all hWT).2;have hUn:=nice_all hn (undo_all hWT).1;have hl:=lin_let hUn.lin (a:=actL (wayL n l i++T) (l.getD i ⟨0,0,false⟩)) (b:=actL (wayL n l i++T) ⟨x',z',false⟩) (hx0.trans s2.symm) s3.symm;rw [hU,hU] at hl;exact hG.ind i _ hgi (by rw [<-hgd,hl.1,hl.2];exact s1)
theorem way_home {n:Nat} (hn:n<=16) {l:List QP} (hG:GoodL n l):∀ i,i<=l.length->(∀ o ∈ wayL n l i,WOk n o)/\∀ j,j<i->actL (wayL n l i) (l.getD j ⟨0,0,false⟩)=zQ j
 | 0,_=>⟨fun o ho=>by simp [wayL] at ho,fun j hj=>absurd hj (by omega)⟩
 | i+1,hi=>by
  obtain ⟨h1,h2⟩:=way_home hn hG i (by omega);have hs:=step_home' hn hG h1 h2 (by omega);refine ⟨fun o ho=>?_,fun j hj=>?_⟩
  ·unfold wayL at ho
   rcases List.mem_append.1 ho with h | h
   ·exact h1 o h
   ·exact hs.2.1 o h
  ·unfold wayL
   rw [actL_append]
   by_cases e:j=i
   ·subst e;exact hs.2.2.1
   ·rw [h2 j (by omega)]
    exact hs.2.2.2 j (by omega)
def toQ (p:PK):QP:=⟨p.x,p.z,p.m⟩
theorem pcs_div:∀ (l:List PK) (j:Nat) (u:Value),(pcs l)[j]?=some u->∃ p,l[j / 3]?=some p/\((j % 3=0/\u=.int .u16 (p.x:Int))\/(j % 3=1/\u=.int .u16 (p.z:Int))\/(j % 3=2/\u=.bool p.m))
 | [],j,u,h=>by simp [pcs] at h
 | a :: r,j,u,h=>by
  match j,h with
  | 0,h=>exact ⟨a,rfl,Or.inl ⟨rfl,(Option.some.inj h).symm⟩⟩
  | 1,h=>exact ⟨a,rfl,Or.inr (Or.inl ⟨rfl,(Option.some.inj h).symm⟩)⟩
  | 2,h=>exact ⟨a,rfl,Or.inr (Or.inr ⟨rfl,(Option.some.inj h).symm⟩)⟩
  | j+3,h =>
   obtain ⟨p,h1,h2⟩:=pcs_div r j u h;rw [show (j+3) / 3=j / 3+1 by omega,show (j+3) % 3=j % 3 by omega];exact ⟨p,h1,h2⟩
theorem pcs_one (l:List PK):∀ u ∈ pcs l,u.oneCell'=true:=fun u hu=>by
 obtain ⟨j,hj⟩:=List.mem_iff_getElem?.1 hu;obtain ⟨p,_,h⟩:=pcs_div l j u hj
 rcases h with ⟨_,rfl⟩ | ⟨_,rfl⟩ | ⟨_,rfl⟩<;>rfl
def ClR (l:List PK) (k:Nat) (w:World) (e:Ending) (w':World):Prop:=∃ (a':Option Addr) (c':Nat),e=.returned (.slice a' k c')/\Ext w w'/\(k=0\/∃ g,a'=some ⟨g,0,none⟩/\w.heap.size<=g/\GnB w' g (l.map toQ))
theorem ClR.of {l:List PK} {k:Nat} {w w':World} {v:Value} (h:w'.ownsRow w.heap.size 103 3 v k (pcs l)) (hl:l.length=k) (hx:Ext w w'):ClR l k w (.returned v) w':=by
 rcases h.2 with ⟨rfl,rfl⟩ | ⟨g,cap,cur,rfl,hb,hg,hnc,hcm,_,htk⟩
 ·exact ⟨none,0,rfl,hx,Or.inl rfl⟩
 ·refine ⟨_,_,rfl,hx,Or.inr ⟨g,rfl,hb,⟨_,hg⟩,fun t p hp=>?_⟩⟩
  rw [List.getElem?_map] at hp;obtain ⟨p0,hp0,rfl⟩:=Option.map_eq_some_iff.1 hp;have htl:=(List.getElem?_eq_some_iff.1 hp0).1;obtain ⟨h0,h1,h2⟩:=pcs_at l t p0 hp0
  have at':∀ j v,(pcs l)[j]?=some v->j<k*3->w'.cell? ⟨g,j,none⟩=some v:=fun j v hj hlt=>by
   rw [cell_of_row w' g j cur _ (0,0) hg,<-Array.getElem?_toList,<-hj,<-htk,List.getElem?_take,if_pos hlt]
  exact ⟨at' _ _ h0 (by omega),at' _ _ h1 (by omega),at' _ _ h2 (by omega)⟩
theorem clone_p (l:List PK) (ao:Option Addr) (k c:Nat) (w:World) (h:PsAt w ao k l) (hk:k<=16) :
  Calls Tryz.prog 115 #[.slice ao k c] w fun e w'=>ClR l k w e w':=by
 obtain ⟨i0,hi0,hz0,hz1,hz2⟩:=info_parts P_info
 have q22:∀ (w:World) (a:Option Addr) (n c n' c':Nat),(binOp .eql 71 (.slice a n c) (.slice none n' c')).run Tryz.prog w=.ok (.bool a.isNone) w:=fun w a n c n' c'=>Lib.run_eql_slice_nil w _ _ a n c n' c' Tryz.underlying71
 cases ao with
 | none =>
  have hk0:k=0:=by
   rcases h.2 with h0 | ⟨b,o,e,_⟩
   ·exact h0
   ·cases e
  subst hk0;clear h
  go_enter Tryz.func115,Tryz.ntmps115
  go_wp2_with fail
  go_ret
  exact ⟨none,0,rfl,Ext.refl _,Or.inl rfl⟩
 | some ad =>
  have hnews:∀ (w0:World),Ext w w0->∀ j u,(pcs l)[j]?=some u->w0.cell? (ad.add j)=some u:=fun w0 hx j u hj=>by
   obtain ⟨p,hp,hu⟩:=pcs_div l j u hj;have hl:=h.1;have hpl:=(List.getElem?_eq_some_iff.1 hp).1
   rcases h.2 with h0 | ⟨b,o,e,hb,hc⟩
   ·omega
   ·cases e
    have hadd:(⟨b,o,none⟩:Addr).add j=⟨b,o+j,none⟩:=by unfold Addr.add;split<;>simp_all
    obtain ⟨c0,c1,c2⟩:=hc (j / 3) p hp;rw [hadd,hx.cell (p:=⟨b,o+j,none⟩) hb]
    rcases hu with ⟨h3,rfl⟩ | ⟨h3,rfl⟩ | ⟨h3,rfl⟩
    ·rw [show o+j=o+j / 3*3 by omega];exact c0
    ·rw [show o+j=o+j / 3*3+1 by omega];exact c1
    ·rw [show o+j=o+j / 3*3+2 by omega];exact c2
  have Hnews:=Lh hnews;have Hl:=Lh h.1;have Hk:=Lh hk;clear h hnews hk
  go_enter Tryz.func115,Tryz.ntmps115
  go_wp2_with (at_builtin;refine wpList_append_own _ rfl _ _ 71 rfl w.heap.size 103 i0 (.agg #[.int .u16 0,.int .u16 0,.bool false]) 3 6 Tryz.underlying71 hi0 hz0 hz1 hz2 rfl (by decide) _ _ _ rfl (World.ownsRow_made w #[] 0 (Nat.le_refl _) (Nat.zero_le _) (by simp)) ad k c (pcs l) rfl (by rw [pcs_len,Hl.out]) (Hnews.out _ (ext_al w _)) (pcs_one l) (by unfold maxLen;have:=Hk.out;omega) (by have:=Hk.out;omega) (ext_al w _).size ?_;intro v' w1 hown hgrow _)
  go_ret
  rw [Nat.zero_add,List.nil_append] at hown;exact ClR.of hown Hl.out (grown_ext (ext_al w _) hgrow (fun j hj=>Nat.le_of_eq (Option.some.inj hj)))
end Go.Proofs.YtlechhmhmakgpaaGreatDoor
