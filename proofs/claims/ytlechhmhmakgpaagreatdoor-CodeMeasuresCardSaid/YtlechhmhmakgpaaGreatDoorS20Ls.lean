/-
  The program: the group of a basis state. The program: GateOf for all gates among the stabilizer operations. The program: GateOf a P by 8 with a control. The program: a run of stabilizers in memory; conditions that there are none of. A measurer's operations in plain lists: each generator's outcome is its sign in the group, the other is refused, and the group is what it was. The program: a run of stabilizers in memory: an outcome is asked for.
-/
import Derived.Test.YtlechhmhmakgpaaGreatDoorS19Ln
namespace Go.Proofs.YtlechhmhmakgpaaGreatDoor
set_option maxRecDepth 100000
set_option maxHeartbeats 8000000
open Go.RowKit
theorem own_kpt3 {w w':World} {base n:Nat} {t:TypeId} {v:Value} {l:List Value} (h:w.ownsRow base t 3 v n l) (k:Ext w w'):w'.ownsRow base t 3 v n l:=by
 refine ⟨h.1,?_⟩
 rcases h.2 with h0 | ⟨g,cap,cur,e,hb,hg,r⟩
 ·exact Or.inl h0
 ·exact Or.inr ⟨g,cap,cur,e,hb,(k.block g (gS.1 hg).1).trans hg,r⟩
def bsQ (v n:Nat):List QP:=(List.range n).map fun q=>tlQ q (decide (v / 2 ^ q % 2=1))
theorem bsQ_len (v n:Nat):(bsQ v n).length=n:=by simp [bsQ]
def bsK (v q:Nat):PK:=if h:q<16 then ⟨0,2 ^ q,decide (v / 2 ^ q % 2=1),by decide,pow_16 h⟩ else ⟨0,0,false,by decide,by decide⟩
def bsL (v n:Nat):List PK:=(List.range n).map (bsK v)
theorem bsL_snoc (v n:Nat):bsL v (n+1)=bsL v n++[bsK v n]:=by unfold bsL;rw [List.range_succ,List.map_append];rfl
theorem bsL_len (v n:Nat):(bsL v n).length=n:=by simp [bsL]
theorem bsL_q (v:Nat) {n:Nat} (hn:n<=16):(bsL v n).map toQ=bsQ v n:=by
 unfold bsL bsQ;rw [List.map_map]
 refine List.map_congr_left fun q hq=>?_
 have:q<16:=by have:=List.mem_range.1 hq;omega
 show toQ (bsK v q)=_
 unfold bsK;rw [dif_pos this]
 rfl
theorem and_bit {k:Nat} (h:k<65536):bits .and .i64 (k:Int) 1=((k % 2:Nat):Int):=by
 show IntKind.i64.wrap ((BitVec.ofInt 64 (k:Int) &&& BitVec.ofInt 64 (1:Int)).toNat:Int)=_
 rw [BitVec.toNat_and]
 have e1:(BitVec.ofInt 64 (k:Int)).toNat=k:=by rw [BitVec.toNat_ofInt];omega
 have e2:(BitVec.ofInt 64 (1:Int)).toNat=1:=by decide
 rw [e1,e2,Nat.and_one_is_mod,IntKind.wrap_i64];omega
def BsR (n v:Nat) (w:World) (e:Ending) (w':World):Prop:=∃ (g c:Nat),e=.returned (.slice (some ⟨g,0,none⟩) n c)/\n<=c/\w.heap.size<=g/\GnB w' g (bsQ v n)/\Ext w w'
theorem bs_end {n v:Nat} (hn:n<=12) (hn1:1<=n) {w w':World} {x:Value} (h:w'.ownsRow w.heap.size 103 3 x n (pcs (bsL v n))) (hE:Ext w w'):BsR n v w (.returned x) w':=by
 rcases h.2 with ⟨h0,_⟩ | ⟨g,cap,cur,rfl,hb,hg,hnc,hcm,_,htk⟩
 ·omega
 ·refine ⟨g,cap,rfl,hnc,hb,⟨⟨cur,hg⟩,fun t p hp=>?_⟩,hE⟩
  rw [<-bsL_q v (by omega),List.getElem?_map,Option.map_eq_some_iff] at hp;obtain ⟨k,hk,rfl⟩:=hp
  have htl:t<n:=by have:=(List.getElem?_eq_some_iff.1 hk).1;rwa [bsL_len] at this
  obtain ⟨h0,h1,h2⟩:=pcs_at _ t k hk
  have at':∀ j y,(pcs (bsL v n))[j]?=some y->j<n*3->w'.cell? ⟨g,j,none⟩=some y:=fun j y hj hlt=>by
   rw [cell_of_row w' g j cur _ (0,0) hg]
   have h1:(pcs (bsL v n))[j]?=cur.toList[j]?:=by
    rw [<-htk,List.getElem?_take,if_pos (by omega)]
   rw [<-Array.getElem?_toList,<-h1];exact hj
  exact ⟨at' _ _ h0 (by omega),at' _ _ h1 (by omega),at' _ _ h2 (by omega)⟩
theorem basis_any (n v:Nat) (hn:n<=12) (hn1:1<=n) (hv:v<65536) (w:World) :
  Calls Tryz.prog 76 #[.int .i64 (n:Int),.int .i64 (v:Int)] w fun e w'=>BsR n v w e w':=by
 have hpi:(Tryz.prog.info? 103).map (fun i=>(i.zero,i.size,i.bytes))=some (some (.agg #[.int .u16 0,.int .u16 0,.bool false]),3,6):=by kernel_rfl
 obtain ⟨i0,hi0,hz0,hz1,hz2⟩:=info_parts hpi;have Hn:=Lh (And.intro hn hn1);have Hv:=Lh hv;clear hn hn1 hv hpi
 go_enter Tryz.func76,Tryz.ntmps76
 go_wp2_with fail
 go_loopg [5,8] n (fun kk s5 s8 wr=>∃ i:Nat,s8=.int .i64 (i:Int)/\i<=n/\n-i=kk/\Ext w wr/\wr.ownsRow w.heap.size 103 3 s5 i (pcs (bsL v i)))
 case atStart=>exact ⟨0,rfl,Nat.zero_le _,rfl,Ext.refl _,rfl,Or.inl ⟨rfl,rfl⟩⟩
 case round =>
  obtain ⟨i,rfl,hi,hkk,hE,hown⟩:=hrel;have Hkk:=Lh hkk;have HE:=Lh hE;have Hown:=Lh hown
  by_cases hin:i=n
  ·have q1:¬ (i:Int)<(n:Int):=by omega
   rw [hin] at Hown;clear hkk hi hE hown hin
   go_wp2_with fail
   go_ret
   exact bs_end Hn.out.1 Hn.out.2 Hown.out HE.out
  have hlt:i<n:=by omega
  have q1:(i:Int)<(n:Int):=by omega
  have q0:(0:Int)<=(i:Int):=by omega
  have wk:IntKind.i64.wrap ((i:Int)+1)=((i+1:Nat):Int):=by rw [IntKind.wrap_i64];have:=Hn.out;omega
  have HTo:=Lh (fun o wx=>told_any i (by have:=Hn.out;omega) o wx);have Hlt:=Lh hlt
  have hmin:min i 64=i:=by have:=Hn.out;omega
  have hsh:(v:Int) / 2 ^ i=((v / 2 ^ i:Nat):Int):=by rw [Int.natCast_ediv];simp
  have hbd:v / 2 ^ i<65536:=Nat.lt_of_le_of_lt (Nat.div_le_self _ _) Hv.out;have han:=and_bit hbd;obtain ⟨D,hD⟩:∃ D,v / 2 ^ i=D:=⟨_,rfl⟩
  have hbk:bsK v i=⟨0,2 ^ i,decide (D % 2=1),by decide,pow_16 (by have:=Hn.out;omega)⟩:=by unfold bsK;rw [dif_pos (show i<16 by have:=Hn.out;omega),hD]
  have Hsn:=Lh (show pcs (bsL v (i+1))=pcs (bsL v i)++[.int .u16 0,.int .u16 ((2 ^ i:Nat):Int),.bool (decide (((D % 2:Nat):Int)=1))] by
   rw [bsL_snoc,pcs_snoc,hbk];rw [show decide (((D % 2:Nat):Int)=1)=decide (D % 2=1) from decide_eq_decide.2 (by omega)]
   rfl)
  rw [hD] at hsh han;obtain ⟨P,hP⟩:∃ P,2 ^ i=P:=⟨_,rfl⟩;rw [hP] at HTo Hsn;obtain ⟨E,hE2⟩:∃ E,D % 2=E:=⟨_,rfl⟩;rw [hE2] at han Hsn;have HTo:=Lh (fun wx=>HTo.out (E:Int) wx);obtain ⟨B,hB⟩:∃ B,decide ((E:Int)=1)=B:=⟨_,rfl⟩;rw [hB] at HTo Hsn;have Hbl:=Lh (bsL_len v i);clear hkk hi hE hown hin hlt hD hbk hP hE2 hB hbd
  go_wp2_with fail
  refine (HTo.out _).mono ?_;rintro e w5 ⟨rfl,x5⟩;have HE3:=Lh (HE.out.trans x5);have HO:=Lh (own_kpt3 Hown.out x5);have Hsz:=Lh HE3.out.size;clear x5
  go_wp2_with (at_builtin;refine wpList_append_own _ rfl _ _ 72 rfl w.heap.size 103 i0 (.agg #[.int .u16 0,.int .u16 0,.bool false]) 3 6 Tryz.underlying72 hi0 hz0 hz1 hz2 rfl (by decide) _ i (pcs (bsL v i)) rfl (HO.out.alloc _) ⟨w5.heap.size,0,none⟩ 1 1 [.int .u16 0,.int .u16 (P:Int),.bool B] rfl rfl (three_new _ _ _ _ _) (by simp [Value.oneCell']) (by unfold maxLen;have:=Hlt.out;have:=Hn.out;omega) (by have:=Hlt.out;have:=Hn.out;omega) (Nat.le_trans Hsz.out (ext_al w5 _).size) ?_;intro v' w7 hown' hgrow' _)
  go_roundg (n-(i+1))
  case measure=>have:=Hkk.out;have:=Hlt.out;omega
  case rel=>exact ⟨i+1,rfl,Hlt.out,rfl,grown_ext (HE3.out.trans (ext_al w5 _)) hgrow' (fun k hk=>(own_lt HO.out k hk).1),by rw [Hsn.out];exact hown'⟩
structure GtsAt (lo:Nat) (U:World) (b n:Nat) (As:List (QP->QP)):Prop where
 len:As.length=n
 lt:b<U.heap.size
 le:lo<=b
 at':∀ t A,As[t]?=some A->∃ v,U.cell? ⟨b,t,none⟩=some v/\GateV lo U v A
 ok:∀ A ∈ As,∀ p:QP,p.ok->(A p).ok
def foG (As:List (QP->QP)) (p:QP):QP:=As.foldl (fun p A=>A p) p
theorem foG_ok {As:List (QP->QP)} (h:∀ A ∈ As,∀ p:QP,p.ok->(A p).ok) {p:QP} (hp:p.ok):(foG As p).ok:=by
 unfold foG
 induction As generalizing p with
 | nil=>exact hp
 | cons A r ih=>exact ih (fun B hB=>h B (by simp [hB])) (h A (by simp) p hp)
theorem foG_snoc {As:List (QP->QP)} {i:Nat} {A:QP->QP} (h:As[i]?=some A) (p:QP):foG (As.take (i+1)) p=A (foG (As.take i) p):=by
 unfold foG;rw [List.take_add_one,h,List.foldl_append]
 rfl
theorem row1L_any (As:List (QP->QP)) (n:Nat) (hn:n<=100) (g b c lo:Nat) (ao:Option Addr) (hlg:lo<=g) (U:World) (hG:n=0\/(ao=some ⟨b,0,none⟩/\GtsAt lo U b n As)) (h0:As.length=n) (hg:U.cell? ⟨g,0,none⟩=some (.slice ao n c)) (lg:g<U.heap.size) (p:QP) (hp:p.ok) (w:World) (hw:Kb lo U w) :
  Calls Tryz.prog 147 #[pvQ p,.pointer (some ⟨g,0,none⟩)] w fun e w'=>e=.returned (pvQ (foG As p))/\Ext w w':=by
 have hT:=TwB.new w p;obtain ⟨H,hH⟩:∃ H,w.heap.size=H:=⟨_,rfl⟩;obtain ⟨W0,hW0⟩:∃ W0,(w.alloc (.cells #[.int .u16 (p.x:Int),.int .u16 (p.z:Int),.bool p.m] 103)).alloc (.cells #[.int .u16 0,.int .u16 0,.bool false] 103)=W0:=⟨_,rfl⟩;simp only [hW0,hH] at hT;have c0:=((hw.ext hT.e).cell hlg lg (o:=0)).trans hg;have HT:=Lh hT;have HW0:=Lh hW0;have HH:=Lh hH;have Hn:=Lh hn;have Hp:=Lh hp;have Hwu:=Lh hw;have HG:=Lh hG;have H0:=Lh h0;clear hT hW0 hH hg lg hw hn hp hlg hG h0;unfold pvQ
 go_enter Tryz.func147,Tryz.ntmps147
 go_upto_region 1 with fail
 rw [HW0.out,HH.out]
 go_wp2_with fail
 go_loopg [8] n (fun kk s8 wr=>∃ i:Nat,s8=.int .i64 (i:Int)/\i<=n/\n-i=kk/\TwB w wr H (foG (As.take i) p) ⟨0,0,false⟩)
 case atStart=>exact ⟨0,rfl,Nat.zero_le _,rfl,HT.out⟩
 case round =>
  obtain ⟨i,rfl,hi,hkk,hT⟩:=hrel;have Hkk:=Lh hkk;have HT:=Lh hT
  by_cases hin:i=n
  ·have p1:¬ (i:Int)<(n:Int):=by omega
   rw [hin,List.take_of_length_le (by rw [H0.out];exact Nat.le_refl _)] at HT;have k0:=HT.out.a.x0;have k1:=HT.out.a.x1;have k2:=HT.out.a.x2;have r0:=HT.out.b.x0;have r1:=HT.out.b.x1;have r2:=HT.out.b.x2;have g0:=HT.out.b.f 0;have g1:=HT.out.b.f 1;have g2:=HT.out.b.f 2;obtain ⟨P,hP⟩:∃ P,foG As p=P:=⟨_,rfl⟩;rw [hP] at k0 k1 k2;have HP:=Lh hP;clear hkk hT hi hin hP
   go_wp2_with fail
   exact bodyPost_ret (v:=.agg #[.int .u16 (P.x:Int),.int .u16 (P.z:Int),.bool P.m]) (by simp [results,Tryz.results147,go_sem,r0,r1,r2]) rfl ⟨by rw [HP.out],HT.out.end _ _ _⟩
  have hlt:i<n:=by omega
  have p1:(i:Int)<(n:Int):=by omega
  have p0:(0:Int)<=(i:Int):=by omega
  have wi:IntKind.i64.wrap ((i:Int)+1)=((i+1:Nat):Int):=by rw [IntKind.wrap_i64];have:=Hn.out;omega
  obtain ⟨hao,hGt⟩:=HG.out.resolve_left (by omega);obtain ⟨A,hA⟩:∃ A,As[i]?=some A:=⟨_,List.getElem?_eq_getElem (by rw [H0.out];exact hlt)⟩;obtain ⟨v,hv1,hv2⟩:=hGt.at' i A hA;have hKw:=Hwu.out.ext hT.e;have e1:wr.cell? ⟨b,i,none⟩=some v:=(hKw.cell hGt.le hGt.lt).trans hv1;obtain ⟨F,caps,rfl,hEnt,hC⟩:=hv2;have k0:=hT.a.x0;have k1:=hT.a.x1;have k2:=hT.a.x2;have HCc:=Lh (hC (foG (As.take i) p) wr (foG_ok (fun B hB=>hGt.ok B (List.mem_of_mem_take hB)) Hp.out) hKw);rw [<-foG_snoc hA p] at HCc;unfold pvQ at HCc;obtain ⟨P,hP⟩:∃ P,foG (As.take i) p=P:=⟨_,rfl⟩;obtain ⟨Q,hQ⟩:∃ Q,foG (As.take (i+1)) p=Q:=⟨_,rfl⟩;rw [hP] at k0 k1 k2;rw [hP,hQ] at HCc;have HQ:=Lh hQ;have Hlt:=Lh hlt;have Hao:=Lh hao;subst hao;clear hkk hT hi hin hP hQ hlt hC hGt hKw hv1 hA
  go_wp2_with fail
  refine HCc.out.mono ?_;rintro e w3 ⟨rfl,x3⟩;have HT3:=Lh (HT.out.ext x3);have f0:=HT3.out.a.f 0;have f1:=HT3.out.a.f 1;have f2:=HT3.out.a.f 2;have j0:=HT3.out.a.x0;have j1:=HT3.out.a.x1;have j2:=HT3.out.a.x2;clear x3 k0 k1 k2 e1
  go_upto_region 5 with fail
  have HT4:=Lh (HT3.out.pt Q);obtain ⟨W4,hW4⟩:∃ V,((w3.setCell ⟨H,0,none⟩ (.int .u16 (Q.x:Int))).setCell ⟨H,1,none⟩ (.int .u16 (Q.z:Int))).setCell ⟨H,2,none⟩ (.bool Q.m)=V:=⟨_,rfl⟩;rw [hW4] at HT4 ⊢;clear f0 f1 f2 j0 j1 j2 hW4
  go_wp2_with fail
  go_roundg (n-(i+1))
  case measure=>have:=Hkk.out;have:=Hlt.out;omega
  case rel=>exact ⟨i+1,rfl,Hlt.out,rfl,by rw [HQ.out];exact HT4.out⟩
theorem rowL_any (As:List (QP->QP)) (n:Nat) (hn:n<=100) (b c lo:Nat) (ao:Option Addr) (w:World) (hlw:lo<=w.heap.size) (hG:n=0\/(ao=some ⟨b,0,none⟩/\GtsAt lo w b n As)) (h0:As.length=n) :
  Calls Tryz.prog 101 #[.slice ao n c] w fun e w'=>GaR lo (foG As) w e w':=by
 have E:=ext_al w (.cells #[.slice ao n c] 150)
 have hn:GateV lo (w.alloc (.cells #[.slice ao n c] 150)) (.func (.func 147) #[] #[.pointer (some ⟨w.heap.size,0,none⟩)]) (foG As) :=
  ⟨_,_,rfl,enters_of Tryz.func147 (by kernel_rfl) rfl,fun p wx hp hx=>row1L_any As n hn w.heap.size b c lo ao hlw _ (hG.imp id fun k=>⟨k.1,k.2.len,Nat.lt_of_lt_of_le k.2.lt E.size,k.2.le,fun t A hA=>by
   obtain ⟨v,h1,h2⟩:=k.2.at' t A hA
   exact ⟨v,(E.cell (p:=⟨b,t,none⟩) k.2.lt).trans h1,h2.ext E⟩,k.2.ok⟩) h0 (by rw [cell_of_row _ _ 0 _ _ (0,0) (heap_alloc_new w _)];rfl) (by simp) p hp wx hx⟩
 have Hn:=Lh hn;clear hn hG h0 hlw E
 go_enter Tryz.func101,Tryz.ntmps101
 go_wp2_with fail
 go_ret
 exact ⟨_,rfl,ext_al _ _,Hn.out⟩
theorem stepK_buildG3 {ops:Array Oper} {o:Oper} {a:Act} {K:Act->World->Prop} {Q:Exit->Act->World->Prop} {E:Prop} {w:World} (d:Nat) (hd:o.dst=some d) (hgd:o.guard=none) (x y z:Operand) (ho:o.op=.buildSlice 150 3 #[(0,x),(1,y),(2,z)]) (F1 F2 F3:FuncId) (c1 c2 c3:Array Value)
  (hx:a.eval x=.func (.func F1) #[] c1) (hy:a.eval y=.func (.func F2) #[] c2) (hz:a.eval z=.func (.func F3) #[] c3) (h:K ⟨a.tmps.setIfInBounds d (.slice (some ⟨w.heap.size,0,none⟩) 3 3),a.defers⟩ (w.alloc (.cells #[.func (.func F1) #[] c1,.func (.func F2) #[] c2,.func (.func F3) #[] c3] 107))) :
  if Region.wanted o (yielded ops a.tmps)=true then Oper.wp Tryz.prog o a w K Q else E:=by
 have hw:Region.wanted o (yielded ops a.tmps)=true:=by simp [Region.wanted,hgd]
 rw [if_pos hw];obtain ⟨od,oo,ot,opp,oa,og⟩:=o;simp only at ho hd;subst ho;subst hd;have HH:=Lh h;clear h;unfold Oper.wp execOp;simp only [hx,hy,hz,List.map_toArray,List.map_cons,List.map_nil]
 go_simp
 exact HH.out
theorem stepK_callA {P:Program} {ops:Array Oper} {o:Oper} {a:Act} {K:Act->World->Prop} {Q:Exit->Act->World->Prop} {E:Prop} {w:World} (d:Nat) (hd:o.dst=some d) (hgd:o.guard=none) {f:FuncId} {args:Array Value} (hrun:(execOp a.eval o).run P w=.ok (.enter f args) w)
  {R:Value->World->Prop} (hc:Calls P f args w fun e w'=>∃ v,e=.returned v/\R v w') (h:∀ v w',R v w'->K ⟨a.tmps.setIfInBounds d v,a.defers⟩ w'):if Region.wanted o (yielded ops a.tmps)=true then Oper.wp P o a w K Q else E:=by
 rw [if_pos (by simp [Region.wanted,hgd])];unfold Oper.wp;rw [hrun,Oper.upon_enter];refine hc.mono ?_;rintro e w' ⟨v,rfl,hv⟩;have:=h v w' hv;rw [hd];exact this
theorem gate_cp (q c:Nat) (hq:q<16) (hc:c<16) (a1:Option Addr) (c1:Nat) (a2:Option Addr) (n2 c2:Nat) (w:World) (hI:IntsAt w a1 1 [(c:Int)]) :
  Calls Tryz.prog 60 #[.agg #[.int .i64 4,.int .i64 8,.slice a1 1 c1,.int .i64 (q:Int),.int .i64 0,.slice a2 n2 c2]] w fun e w'=>GaR w.heap.size (cpG q c) w e w':=by
 have bx:=opbx_new w 4 8 a1 1 c1 (q:Int) 0 a2 n2 c2;have E0:=ext_al w (.cells #[.int .i64 4,.int .i64 8,.slice a1 1 c1,.int .i64 (q:Int),.int .i64 0,.slice a2 n2 c2] 52);obtain ⟨H,hH⟩:∃ H,w.heap.size=H:=⟨_,rfl⟩;obtain ⟨W0,hW0⟩:∃ V,w.alloc (.cells #[.int .i64 4,.int .i64 8,.slice a1 1 c1,.int .i64 (q:Int),.int .i64 0,.slice a2 n2 c2] 52)=V:=⟨_,rfl⟩;rw [hW0] at bx E0;rw [hH] at bx;have HS:=Lh (fun wx=>Set_any q hq wx);have k0:=bx.x0;have k1:=bx.x1;have k2:=bx.x2;have k3:=bx.x3;have HE0:=Lh E0;have HW0:=Lh hW0;have HH:=Lh hH;have HF:=Lh (fun wx=>fork_any q hq wx);have HG:=Lh (fun wx=>flipOn_any q c hq hc wx);have HS2:=Lh (fun wx=>Set_any c hc wx)
 have Hok:=Lh (show ∀ A ∈ [forkG q,onG q c,forkG q],∀ p:QP,p.ok->(A p).ok from fun A hA p hp=>by
  simp only [List.mem_cons,List.not_mem_nil,or_false] at hA
  rcases hA with rfl | rfl | rfl
  ·exact ok_fork hp
  ·exact ok_on hq hc hp
  ·exact ok_fork hp)
 have Hok2:=Lh (fun (p:QP) (hp:p.ok)=>(ok_fork (ok_on hq hc (ok_fork (q:=q) hp)):(cpG q c p).ok));obtain ⟨V,hV⟩:∃ V,2 ^ q=V:=⟨_,rfl⟩;obtain ⟨C,hC⟩:∃ C,2 ^ c=C:=⟨_,rfl⟩;rw [hV] at HS HF HG;rw [hC] at HS2 HG;obtain ⟨b,o,rfl,hb,hcell⟩:=(hI.ext E0).at (by decide);have c0:=hcell 0 (by decide);simp only [Nat.add_zero,List.getD_cons_zero] at c0;have HSt:=Lh (fun (w':World) (hx:Ext W0 w')=>(And.intro (cell_ext k2 hx) (cell_ext c0 hx):w'.cell? ⟨H,2,none⟩=some (.slice (some ⟨b,o,none⟩) 1 c1)/\w'.cell? ⟨b,o,none⟩=some (.int .i64 (c:Int))));have HK1:=Lh (fun (w':World) (hx:Ext W0 w')=>cell_ext k1 hx);clear bx E0 hW0 hH hV hC hq hc hI hb hcell
 go_enter Tryz.func60,Tryz.ntmps60
 go_upto_region 1 with fail
 rw [HW0.out,HH.out]
 go_wp2_with fail
 refine (HS.out _).mono ?_;rintro e w1 ⟨rfl,hw1⟩;obtain rfl:=hw1.symm
 go_upto_region 12 with fail
 have he0:Ext W0 W0.drew:=Below.drew (Ext.refl _);clear k0 k1 k2 k3 c0;refine wp_region_held (S:=fun w'=>w'.cell? ⟨H,2,none⟩=some (.slice (some ⟨b,o,none⟩) 1 c1)/\w'.cell? ⟨b,o,none⟩=some (.int .i64 (c:Int))) (by kernel_rfl) ?_
 have hA:∀ ops,FlsA Tryz.prog ops []:=fun _=>⟨fun _ h=>(by cases h),by simp⟩
 refine FloA.start [] 14 14 14 (.move HSt.out he0 0 43 (.int .u16 (V:Int)) rfl ?_);refine .move HSt.out he0 2 45 (.int .u16 (V:Int)) rfl ?_;refine .move HSt.out he0 3 46 (.pointer (some ⟨H,2,none⟩)) rfl ?_;refine .take HSt.out he0 4 47 (.slice (some ⟨b,o,none⟩) 1 c1) rfl (fun _ _ h=>exec_cellA h.1 Tryz.underlying25) ?_
 refine .take HSt.out he0 5 48 (.pointer (some ⟨b,o,none⟩)) rfl (fun _ _ _=>by
  simp only [frA,fbA,List.map_nil,List.nil_append,List.foldr,sx0,sx1,sx2]
  go_simp) ?_
 refine .take HSt.out he0 6 49 (.int .i64 (c:Int)) rfl (fun _ _ h=>exec_cellA h.2 Tryz.underlying3) ?_;refine .move HSt.out he0 9 52 (.int .u16 (V:Int)) rfl ?_
 refine .call (hA _) HSt.out he0 1 44 rfl _ _ (R:=fun v w'=>∃ (F:FuncId) (cs:Array Value),v=.func (.func F) #[] cs/\GateV w.heap.size w' v (forkG q)) (fun wx hx=>(HF.out wx).mono fun _ _ h=>by
  obtain ⟨v,h1,h2,F,cs,rfl,h3⟩:=h
  exact ⟨_,h1,⟨F,cs,rfl,GateV.down (show GateV wx.heap.size _ _ (forkG q) from ⟨F,cs,rfl,h3⟩) (Nat.le_trans HE0.out.size (he0.trans hx).size)⟩,h2⟩) ?_
 rintro _ v1 ⟨F1,cs1,rfl,hv1⟩ x1;have e1:=he0.trans x1;refine .call (hA _) HSt.out e1 7 50 rfl _ _ (R:=fun v _=>v=.int .u16 (C:Int)) (fun wx _=>(HS2.out wx).mono fun _ _ h=>⟨_,h.1,rfl,by rw [h.2];exact Ext.refl _⟩) ?_;rintro _ v2 rfl x2;have e2:=e1.trans x2
 refine .call (hA _) HSt.out e2 8 51 rfl _ _ (R:=fun v w'=>∃ (F:FuncId) (cs:Array Value),v=.func (.func F) #[] cs/\GateV w.heap.size w' v (onG q c)) (fun wx hx=>(HG.out wx).mono fun _ _ h=>by
  obtain ⟨v,h1,h2,F,cs,rfl,h3⟩:=h
  exact ⟨_,h1,⟨F,cs,rfl,GateV.down (show GateV wx.heap.size _ _ (onG q c) from ⟨F,cs,rfl,h3⟩) (Nat.le_trans HE0.out.size (e2.trans hx).size)⟩,h2⟩) ?_
 rintro _ v3 ⟨F3,cs3,rfl,hv3⟩ x3;have e3:=e2.trans x3
 refine .call (hA _) HSt.out e3 10 53 rfl _ _ (R:=fun v w'=>∃ (F:FuncId) (cs:Array Value),v=.func (.func F) #[] cs/\GateV w.heap.size w' v (forkG q)) (fun wx hx=>(HF.out wx).mono fun _ _ h=>by
  obtain ⟨v,h1,h2,F,cs,rfl,h3⟩:=h
  exact ⟨_,h1,⟨F,cs,rfl,GateV.down (show GateV wx.heap.size _ _ (forkG q) from ⟨F,cs,rfl,h3⟩) (Nat.le_trans HE0.out.size (e3.trans hx).size)⟩,h2⟩) ?_
 rintro _ v4 ⟨F4,cs4,rfl,hv4⟩ x4;have e4:=e3.trans x4;refine .done (hA _) HSt.out e4 ?_;intro wy hy st hst hl;have hEy:=e4.trans hy;simp only [frA,fbA,List.map_nil,List.nil_append,List.foldr,sx0,sx1,sx2];have y1:=hv1.ext (x2.trans (x3.trans (x4.trans hy)));have y3:=hv3.ext (x4.trans hy);have y4:=hv4.ext hy;clear hv1 hv3 hv4 x1 x2 x3 x4 hy hst hl;refine anyH_oneA (i:=11) (by kernel_rfl) rfl (fun Kk hKk=>?_);refine stepK_buildG3 54 rfl rfl _ _ _ rfl F1 F3 F4 cs1 cs3 cs4 rfl rfl rfl ?_;have E3:=ext_al wy (.cells #[.func (.func F1) #[] cs1,.func (.func F3) #[] cs3,.func (.func F4) #[] cs4] 107);have hr3:=heap_alloc_new wy (.cells #[.func (.func F1) #[] cs1,.func (.func F3) #[] cs3,.func (.func F4) #[] cs4] 107);have y1:=y1.ext E3;have y3:=y3.ext E3;have y4:=y4.ext E3;have hEz:=hEy.trans E3;have hlow:w.heap.size<=wy.heap.size:=Nat.le_trans HE0.out.size hEy.size;obtain ⟨G,hG⟩:∃ G,wy.heap.size=G:=⟨_,rfl⟩;obtain ⟨W2,hW2⟩:∃ V,wy.alloc (.cells #[.func (.func F1) #[] cs1,.func (.func F3) #[] cs3,.func (.func F4) #[] cs4] 107)=V:=⟨_,rfl⟩;rw [hG] at hr3 hlow ⊢;rw [hW2] at hr3 hEz y1 y3 y4 ⊢
 have hgt:GtsAt w.heap.size W2 G 3 [forkG q,onG q c,forkG q]:=⟨rfl,(gS.1 hr3).1,hlow,fun t A hA=>by
  match t,hA with
  | 0,hA=>exact ⟨_,by rw [cell_of_row W2 G 0 _ _ (0,0) hr3];rfl,by rw [<-Option.some.inj (show some (forkG q)=some A from hA)];exact y1⟩
  | 1,hA=>exact ⟨_,by rw [cell_of_row W2 G 1 _ _ (0,0) hr3];rfl,by rw [<-Option.some.inj (show some (onG q c)=some A from hA)];exact y3⟩
  | 2,hA=>exact ⟨_,by rw [cell_of_row W2 G 2 _ _ (0,0) hr3];rfl,by rw [<-Option.some.inj (show some (forkG q)=some A from hA)];exact y4⟩
  | t+3,hA=>simp at hA,Hok.out⟩
 refine hKk.out _ _ (HSt.out _ hEz) ?_;clear hKk Kk y1 y3 y4 hr3 hW2 E3 hEy hG;simp only [sx0,sx1,sx2];refine anyH_oneA (i:=12) (by kernel_rfl) rfl (fun Kk hKk=>?_);have hlow2:w.heap.size<=W2.heap.size:=Nat.le_trans HE0.out.size hEz.size
 refine stepK_callA 55 rfl rfl (by kernel_rfl) (R:=fun v w'=>Ext W2 w'/\∃ (F:FuncId) (cs:Array Value),v=.func (.func F) #[] cs/\GateV w.heap.size w' v (cpG q c)) ((rowL_any _ 3 (by decide) G 3 w.heap.size (some ⟨G,0,none⟩) W2 hlow2 (Or.inr ⟨rfl,hgt⟩) rfl).mono fun _ _ h=>by
  obtain ⟨v,h1,h2,F,cs,rfl,h3⟩:=h
  exact ⟨_,h1,h2,F,cs,rfl,⟨F,cs,rfl,h3⟩⟩) ?_
 rintro _ w5 ⟨x5,F5,cs5,rfl,hv5⟩;have E5:=hEz.trans x5;refine hKk.out _ _ (HSt.out _ E5) ?_;clear hKk Kk hgt hlow hlow2 hEz x5;simp only [sx0,sx1,sx2];refine anyH_oneA (i:=13) (by kernel_rfl) rfl (fun Kk hKk=>?_);refine stepK_val (v:=.func (.func F5) #[] cs5) 4 rfl rfl (by kernel_rfl) ?_;refine hKk.out _ _ (HSt.out _ E5) ?_;clear hKk Kk;refine wpAnyH_done (by kernel_rfl) ?_ _;simp only [sx0,sx1,sx2];have HE5:=Lh E5;have HV5:=Lh hv5;have k1:=HK1.out _ E5;clear E5 hv5
 go_upto_region 13 with fail
 have HRp:=Lh (fun (b:Nat) (wx:World) (h:RepAt wx b 1 (.func (.func F5) #[] cs5))=>(show Calls Tryz.prog 102 #[.slice (some ⟨b,0,none⟩) 1 1,.int .i64 1] wx fun e w'=>RpR 1 (.func (.func F5) #[] cs5) wx e w' from repeatG_any 1 (by decide) (by decide) b F5 cs5 wx h))
 have w11:IntKind.i64.wrap 1=1:=by rw [IntKind.wrap_i64];decide
 have hr5:=rep_new w5 (.func (.func F5) #[] cs5);have hE6:=ext_al w5 (.cells #[.func (.func F5) #[] cs5] 107);have Hr5:=Lh hr5;have HE6:=Lh hE6;have k1':=cell_ext k1 hE6;clear hr5 hE6
 go_wp2_with fail
 refine (HRp.out _ _ Hr5.out).mono ?_;rintro e w6 ⟨g6,rfl,x6,hr6,hl6⟩;have HR6:=Lh hr6;have HX6:=Lh (HE6.out.trans x6);have Hl6:=Lh (show w.heap.size<=g6 from Nat.le_trans HE0.out.size (Nat.le_trans HE5.out.size (Nat.le_trans HE6.out.size hl6)));have HRw:=Lh (row_any (cpG q c) Hok2.out 1 (by decide) (.func (.func F5) #[] cs5) g6 1 w.heap.size Hl6.out w6 (Nat.le_trans HE0.out.size (Nat.le_trans HE5.out.size HX6.out.size)) (HV5.out.ext HX6.out) HR6.out);clear x6 hr6 hl6 k1 k1'
 go_wp2_with fail
 refine HRw.out.mono ?_;rintro e w7 ⟨v7,rfl,x7,hv7⟩;have HX7:=Lh x7;have HV7:=Lh hv7;clear x7 hv7
 go_wp2_with fail
 go_ret
 exact ⟨v7,rfl,((HE0.out.trans HE5.out).trans HX6.out).trans HX7.out,HV7.out⟩
inductive MOk (n:Nat):Gop->Prop
 | x {q:Nat} (h:q<n) (cd:List Int):MOk n ⟨2,0,[],q,0,cd⟩
 | cx {q c:Nat} (h:q<n) (h2:c<n) (h3:q≠c) (cd:List Int):MOk n ⟨2,0,[(c:Int)],q,0,cd⟩
 | h {q:Nat} (h:q<n) (cd:List Int):MOk n ⟨3,0,[],q,0,cd⟩
 | p {q k:Nat} (h:q<n) (h1:1<=k) (h2:k<=3) (cd:List Int):MOk n ⟨4,((4*k:Nat):Int),[],q,0,cd⟩
 | cp {q c:Nat} (h:q<n) (h2:c<n) (h3:q≠c) (cd:List Int):MOk n ⟨4,8,[(c:Int)],q,0,cd⟩
theorem MOk.n {n:Nat} {o:Gop} (h:MOk n o):NOk n o:=by
 cases h with
 | x h cd=>exact .x h cd
 | cx h h2 h3 cd=>exact .cx h h2 h3 cd
 | h h cd=>exact .h h cd
 | p h h1 h2 cd=>exact .p h (by omega) cd
 | cp h h2 h3 cd=>exact .cp (k:=1) h h2 h3 (by decide) cd
theorem GateM_any {n:Nat} (hn:n<=16) {o:Gop} (ho:MOk n o) (a1:Option Addr) (n1 c1:Nat) (a2:Option Addr) (n2 c2:Nat) (w:World) (h:IntsAt w a1 n1 o.ctl) :
  Calls Tryz.prog 60 #[.agg #[.int .i64 o.kind,.int .i64 o.k,.slice a1 n1 c1,.int .i64 o.q,.int .i64 o.bit,.slice a2 n2 c2]] w fun e w'=>GaR w.heap.size (actN o) w e w':=by
 have hl:=h.1
 cases ho with
 | x hq cd =>
  obtain rfl:0=n1:=hl;rw [actN_x];exact gate_x _ (by omega) a1 c1 a2 n2 c2 w
 | cx hq hc _ cd =>
  obtain rfl:1=n1:=hl;rw [actN_cx];exact gate_cx _ _ (by omega) (by omega) a1 c1 a2 n2 c2 w h
 | h hq cd =>
  obtain rfl:0=n1:=hl;rw [actN_h];exact gate_h _ (by omega) a1 c1 a2 n2 c2 w
 | p hq h1 h2 cd =>
  obtain rfl:0=n1:=hl;rw [actN_p];exact gate_p _ _ (by omega) h1 h2 a1 c1 a2 n2 c2 w
 | cp hq hc _ cd =>
  obtain rfl:1=n1:=hl;rw [show actN ⟨4,8,[((_:Nat):Int)],((_:Nat):Int),0,cd⟩=itG (cpG _ _) 1 from actN_cp _ _ 1 cd];exact gate_cp _ _ (by omega) (by omega) a1 c1 a2 n2 c2 w h
theorem idx0_any (a:Option Addr) (c:Nat) (v:Value) (w:World) :
  Calls Tryz.prog 161 #[.slice a 0 c,v] w fun e w'=>e=.returned (.int .i64 (-1))/\Ext w w':=by
 go_enter Tryz.func161,Tryz.ntmps161
 go_wp2_with fail
 go_loopg [5,8] 0 (fun kk s5 s8 wr=>s8=.int .i64 0/\Ext w wr)
 case atStart=>exact ⟨rfl,Ext.refl _⟩
 case round =>
  obtain ⟨rfl,hX⟩:=hrel;have HX:=Lh hX;clear hX
  go_wp2_with fail
  go_ret
  exact ⟨rfl,HX.out⟩
theorem cont0_any (a:Option Addr) (c:Nat) (v:Value) (w:World) :
  Calls Tryz.prog 123 #[.slice a 0 c,v] w fun e w'=>e=.returned (.bool false)/\Ext w w':=by
 have HI:=Lh (idx0_any a c v w)
 go_enter Tryz.func123,Tryz.ntmps123
 go_wp2_with fail
 refine HI.out.mono ?_;rintro e w1 ⟨rfl,x1⟩;have HX:=Lh x1;clear x1
 go_wp2_with fail
 go_ret
 exact ⟨rfl,HX.out⟩
theorem meets0_any (p:Value) (a:Option Addr) (c:Nat) (w:World) (hp:∃ x,p=.pointer (some x)) :
  Calls Tryz.prog 77 #[p,.slice a 0 c] w fun e w'=>e=.returned (.bool true)/\Ext w w':=by
 obtain ⟨x,rfl⟩:=hp;have HC:=Lh (fun v wx=>cont0_any a c v wx);obtain ⟨W0,hW0⟩:∃ V,w.alloc (.cells #[.pointer (some x)] 68)=V:=⟨_,rfl⟩;have HE:=Lh (show Ext w W0 by rw [<-hW0];exact ext_al _ _);have HW:=Lh hW0;clear hW0
 go_enter Tryz.func77,Tryz.ntmps77
 go_upto_region 1 with fail
 rw [HW.out]
 go_wp2_with fail
 refine (HC.out _ _).mono ?_;rintro e w1 ⟨rfl,x1⟩;have HX:=Lh (HE.out.trans x1);clear x1
 go_wp2_with fail
 go_ret
 exact ⟨rfl,HX.out⟩
def wCP (q c:Nat):Gop:=⟨4,8,[(c:Int)],q,0,[]⟩
def wM (q b:Nat):Gop:=⟨5,0,[],q,b,[]⟩
def wR (q:Nat):Gop:=⟨6,0,[],q,0,[]⟩
def dqO (g:QP) (N q:Nat):List Gop:=(if g.z.testBit q=true then [wCP q N] else [])++if g.x.testBit q=true then [wCX q N] else []
def dnO (g:QP) (N:Nat):Nat->List Gop
 | 0=>[]
 | k+1=>dnO g N k++dqO g N k
def tuN (g:QP):Nat:=(4*pcF 16 (g.x &&& g.z)+if g.m=true then 8 else 0) % 16
def tnO (g:QP) (N:Nat):List Gop:=if tuN g=0 then [] else [⟨4,(tuN g:Int),[],N,0,[]⟩]
theorem act_wCP (q c:Nat):actN (wCP q c)=cpG q c:=actN_cp q c 1 []
theorem act_wCX (q c:Nat):actN (wCX q c)=onG q c:=actN_cx q c []
theorem act_wH (q:Nat):actN (wH q)=forkG q:=actN_h q []
theorem dq_ok {N n:Nat} (hN:N<n) (g:QP) {q:Nat} (hq:q<N):∀ o ∈ dqO g N q,NOk n o/\o.cnd=[]:=fun o ho=>by
 unfold dqO at ho
 rcases List.mem_append.1 ho with h | h
 ·split at h
  ·rw [List.mem_singleton.1 h];exact ⟨.cp (k:=1) (by omega) hN (by omega) (by decide) [],rfl⟩
  ·cases h
 ·split at h
  ·rw [List.mem_singleton.1 h];exact ⟨.cx (by omega) hN (by omega) [],rfl⟩
  ·cases h
theorem dn_ok {N n:Nat} (hN:N<n) (g:QP):∀ k,k<=N->∀ o ∈ dnO g N k,NOk n o/\o.cnd=[]
 | 0,_,o,ho=>by cases ho
 | k+1,hk,o,ho=>by
  rcases List.mem_append.1 ho with h | h
  ·exact dn_ok hN g k (by omega) o h
  ·exact dq_ok hN g (by omega) o h
theorem tn_ok {N n:Nat} (hN:N<n) (g:QP):∀ o ∈ tnO g N,NOk n o/\o.cnd=[]:=fun o ho=>by
 unfold tnO at ho
 split at ho
 ·cases ho
 ·rw [List.mem_singleton.1 ho]
  have e:((tuN g:Nat):Int)=((4*(tuN g / 4):Nat):Int):=by unfold tuN;split<;>omega
  rw [e];exact ⟨.p hN (by unfold tuN;omega) [],rfl⟩
theorem act_dn (g:QP) (N:Nat) (p:QP):∀ k,actNL (dnO g N k) p=dnN N g k p
 | 0=>rfl
 | k+1=>by
  show actNL (dnO g N k++dqO g N k) p=_
  rw [actNL_append,act_dn g N p k,dnN_succ];generalize dnN N g k p=r;unfold dqO dnG
  cases g.z.testBit k<;>cases g.x.testBit k<;>simp [actNL,act_wCP,act_wCX]
theorem act_tn {N:Nat} {g:QP} (hN:N<16) (hg:bdQ N g) (p:QP):actNL (tnO g N) p=itG (quarG N) ((ysN g N+2*b1 g.m) % 4) p:=by
 have e:pcF 16 (g.x &&& g.z)=ysN g N:=by
  rw [pc_ys]
  exact smF_less (by omega) fun j hj=>by unfold yj;rw [bit_hi hg.1 hj];rfl
 have e2:tuN g=4*((ysN g N+2*b1 g.m) % 4):=by
  unfold tuN;rw [e]
  cases g.m
  ·show (4*ysN g N+0) % 16=4*((ysN g N+2*0) % 4);omega
  ·show (4*ysN g N+8) % 16=4*((ysN g N+2*1) % 4);omega
 unfold tnO;rw [e2]
 split
 ·rename_i h
  rw [show (ysN g N+2*b1 g.m) % 4=0 by omega];rfl
 ·exact congrFun (actN_p N _ []) p
def blO (g:QP) (N:Nat):List Gop:=[wH N]++(dnO g N N++tnO g N)++[wH N]
theorem bl_ok {N:Nat} (g:QP):∀ o ∈ blO g N,NOk (N+1) o/\o.cnd=[]:=fun o ho=>by
 unfold blO at ho;rw [List.mem_append,List.mem_append,List.mem_append] at ho
 rcases ho with (h | h | h) | h
 ·rw [List.mem_singleton.1 h];exact ⟨.h (by omega) [],rfl⟩
 ·exact dn_ok (by omega) g N (Nat.le_refl N) o h
 ·exact tn_ok (by omega) g o h
 ·rw [List.mem_singleton.1 h];exact ⟨.h (by omega) [],rfl⟩
theorem act_bl {N:Nat} {g:QP} (hN:N<16) (hg:bdQ N g):actNL (blO g N)=blkG N g:=by
 funext p
 unfold blO blkG;rw [actNL_append,actNL_append,actNL_append,act_dn,act_tn hN hg]
 show actN (wH N) (itG _ _ (dnN N g N (actN (wH N) p)))=_
 rw [act_wH]
theorem set_free {l:List QP} {q:Nat} (b:Bool) (h:∀ p ∈ l,p.x.testBit q=false):setQ l q b=(orL l,decide (tlQ q b ∈ orL l)):=by
 unfold setQ;have e:l.findIdx? (fun p=>p.x.testBit q)=none:=List.findIdx?_eq_none_iff.2 h;rw [e]
def oV (s:Bool):Int:=if s then 1 else 0
theorem oV_or (s:Bool):oV s=0\/oV s=1:=by cases s<;>simp [oV]
theorem oV_one (s:Bool):decide (oV s=1)=s:=by cases s<;>rfl
theorem look_yes {tape:List Int} {o:Gop} {s:TR} {b:Bool} (hk:o.kind=5\/o.kind=6) (hc:o.cnd=[]) (ht:tape[s.used]?=some (oV b)) {q:Nat} (hq:o.q=q) {l':List QP} (hs:setQ s.l q b=(l',true)) :
  doT tape o s=(⟨if o.kind=5 then l' else l'.map (rsG q b),if o.kind=5 then s.bits.set o.bit.toNat (oV b) else s.bits,s.used+1⟩,0):=by
 unfold doT;rw [hc,if_pos (show mtT s.bits []=true from rfl),if_pos hk];unfold lookT;rw [ht];simp only [oV_one,if_pos (oV_or b),hq,Int.toNat_natCast,hs,if_true]
theorem look_no {tape:List Int} {o:Gop} {s:TR} {b:Bool} (hk:o.kind=5\/o.kind=6) (hc:o.cnd=[]) (ht:tape[s.used]?=some (oV b)) {q:Nat} (hq:o.q=q) {l':List QP} (hs:setQ s.l q b=(l',false)) :
  (doT tape o s).2=20:=by
 unfold doT;rw [hc,if_pos (show mtT s.bits []=true from rfl),if_pos hk];unfold lookT;rw [ht];simp only [oV_one,if_pos (oV_or b),hq,Int.toNat_natCast,hs,Bool.false_eq_true,if_false]
def mbO (g:QP) (N i:Nat):List Gop:=blO g N++[wM N i,wR N]
structure StS (N:Nat) (l:List QP):Prop where
 good:GoodS l
 len:l.length=N+1
 bd:∀ p ∈ l,bdQ (N+1) p
 z:Grp l (tlQ N false)
theorem mb_first {N:Nat} (hN:N<16) {l:List QP} (h:StS N l) {g:QP} (hg:bdQ N g) {s:Bool} (hs:Grp l ⟨g.x,g.z,g.m ^^ s⟩) :
  GoodS (l.map (blkG N g))/\(∀ p ∈ l.map (blkG N g),bdQ (l.map (blkG N g)).length p)/\∀ b,setQ (l.map (blkG N g)) N b=(orL (l.map (blkG N g)),decide (b=s)):=by
 have hsp:SpS N l g s:=⟨h.good,h.z,hg,hs⟩
 have hgt:GtP (N+1) (blkG N g):=by rw [<-act_bl hN hg];exact actNL_gt (by omega) fun o ho=>(bl_ok g o ho).1
 have h1:=h.good.map hgt
 have h2:∀ p ∈ l.map (blkG N g),bdQ (l.map (blkG N g)).length p:=by rw [List.length_map,h.len];exact bd_map hgt h.bd
 refine ⟨h1,h2,fun b=>?_⟩;rw [set_free b fun p hp=>hsp.free hN (.of hp)]
 have e:(tlQ N b ∈ orL (l.map (blkG N g)))↔b=s:=by
  rw [tl_in h1 h2];exact ⟨fun k=>sign_one h1 k (hsp.sign hN),fun k=>by rw [k];exact hsp.sign hN⟩
 rw [Prod.mk.injEq];exact ⟨rfl,decide_eq_decide.2 e⟩
theorem mb_run {N:Nat} (hN:N<16) {l:List QP} (h:StS N l) {g:QP} (hg:bdQ N g) {s:Bool} (hs:Grp l ⟨g.x,g.z,g.m ^^ s⟩) {tape bits:List Int} {used:Nat} (t1:tape[used]?=some (oV s)) (t2:tape[used+1]?=some (oV s)) (i j:Nat) :
  ∃ l',runT tape (mbO g N i) j ⟨l,bits,used⟩=(⟨l',bits.set i (oV s),used+2⟩,0,0)/\StS N l'/\EqS l l':=by
 have hsp:SpS N l g s:=⟨h.good,h.z,hg,hs⟩;obtain ⟨h1,h2,h3⟩:=mb_first hN h hg hs;obtain ⟨k1,k2,_,_⟩:=or_full h1 h2
 have kb:∀ p ∈ orL (l.map (blkG N g)),bdQ (orL (l.map (blkG N g))).length p:=by rw [k2.len];exact k2.bd h2
 obtain ⟨m1,m2,_,_⟩:=or_full k1 kb;have he:=k2.trans m2;have hb:=hsp.back hN m1 he
 have hgF:GtP (N+1) (rsG N s):=by cases s;exact GtP.id _;exact gtp_flip _ _
 have hfr:∀ p ∈ orL (l.map (blkG N g)),p.x.testBit N=false:=fun p hp=>hsp.free hN ((k2.grp p).1 (.of hp))
 have d1:doT tape (wM N i) ⟨l.map (blkG N g),bits,used⟩=(⟨orL (l.map (blkG N g)),bits.set i (oV s),used+1⟩,0):=by
  have:=look_yes (tape:=tape) (o:=wM N i) (s:=⟨l.map (blkG N g),bits,used⟩) (b:=s) (.inl rfl) rfl t1 (q:=N) rfl ((h3 s).trans (by rw [decide_eq_true rfl]));rw [this]
  simp [wM]
 have d2:doT tape (wR N) ⟨orL (l.map (blkG N g)),bits.set i (oV s),used+1⟩=(⟨(orL (orL (l.map (blkG N g)))).map (rsG N s),bits.set i (oV s),used+2⟩,0):=by
  have e:setQ (orL (l.map (blkG N g))) N s=(orL (orL (l.map (blkG N g))),true):=by
   rw [set_free s hfr];rw [Prod.mk.injEq];exact ⟨rfl,decide_eq_true ((tl_in k1 kb s).2 ((k2.grp _).2 (hsp.sign hN)))⟩
  have:=look_yes (tape:=tape) (o:=wR N) (s:=⟨orL (l.map (blkG N g)),bits.set i (oV s),used+1⟩) (b:=s) (.inr rfl) rfl t2 (q:=N) rfl e;rw [this]
  simp [wR]
 refine ⟨(orL (orL (l.map (blkG N g)))).map (rsG N s),?_,⟨m1.map hgF,by rw [hb.len,h.len],hb.bd h.bd,(hb.grp _).2 h.z⟩,hb⟩;unfold mbO;rw [run_app (run_gates (n:=N+1) (fun o ho=>bl_ok g o ho) j _),act_bl hN hg,run_cons d1,run_cons d2]
 rfl
theorem mb_no {N:Nat} (hN:N<16) {l:List QP} (h:StS N l) {g:QP} (hg:bdQ N g) {s:Bool} (hs:Grp l ⟨g.x,g.z,g.m ^^ s⟩) {tape bits:List Int} {used:Nat} (t1:tape[used]?=some (oV (!s))) (i j:Nat) (r:List Gop) :
  (runT tape (mbO g N i++r) j ⟨l,bits,used⟩).2.1=20:=by
 obtain ⟨h1,h2,h3⟩:=mb_first hN h hg hs
 have d1:=look_no (tape:=tape) (o:=wM N i) (s:=⟨l.map (blkG N g),bits,used⟩) (b:=!s) (.inl rfl) rfl t1 (q:=N) rfl ((h3 (!s)).trans (by cases s<;>rfl))
 unfold mbO;rw [List.append_assoc,run_app (run_gates (n:=N+1) (fun o ho=>bl_ok g o ho) j _),act_bl hN hg]
 show (if (doT tape (wM N i) ⟨l.map (blkG N g),bits,used⟩).2=0 then _ else _:TR × Nat × Nat).2.1=20
 rw [if_neg (by rw [d1];decide)];exact d1
def mgO (N:Nat):List QP->Nat->List Gop
 | [],_=>[]
 | g :: r,i=>mbO g N i++mgO N r (i+1)
theorem mg_run {N:Nat} (hN:N<16) {tape:List Int}:∀ {gens:List QP} {ss:List Bool} {l:List QP} {bits:List Int} {used:Nat} (_:StS N l) (_:ss.length=gens.length) (_:∀ (k:Nat) (g:QP) (s:Bool),gens[k]?=some g->ss[k]?=some s->bdQ N g/\Grp l ⟨g.x,g.z,g.m ^^ s⟩/\tape[used+2*k]?=some (oV s)/\tape[used+2*k+1]?=some (oV s)) (i j:Nat) (_:i+gens.length=bits.length),
  ∃ l',runT tape (mgO N gens i) j ⟨l,bits,used⟩=(⟨l',bits.take i++ss.map oV,used+2*gens.length⟩,0,0)/\StS N l'/\EqS l l'
 | [],ss,l,bits,used,h,hl,_,i,j,hi=>by
  have e:ss=[]:=List.eq_nil_of_length_eq_zero hl;subst e;refine ⟨l,?_,h,EqS.refl l⟩
  show ((⟨l,bits,used⟩,0,0):TR × Nat × Nat)=_
  rw [List.map_nil,List.append_nil,List.take_of_length_le (by simp at hi;omega)]
  rfl
 | g :: r,ss,l,bits,used,h,hl,hk,i,j,hi=>by
  match ss,hl with
  | s :: sr,hl =>
   obtain ⟨b1,b2,b3,b4⟩:=hk 0 g s rfl rfl;have b3:tape[used]?=some (oV s):=b3;have b4:tape[used+1]?=some (oV s):=b4;obtain ⟨l1,e1,h1,q1⟩:=mb_run hN h b1 b2 (bits:=bits) b3 b4 i j;simp only [List.length_cons] at hl hi
   obtain ⟨l2,e2,h2,q2⟩:=mg_run hN (tape:=tape) (gens:=r) (ss:=sr) (l:=l1) (bits:=bits.set i (oV s)) (used:=used+2) h1 (by omega) (fun k g' s' hg' hs'=>by
    obtain ⟨c1,c2,c3,c4⟩:=hk (k+1) g' s' (by simpa using hg') (by simpa using hs')
    exact ⟨c1,(q1.grp _).2 c2,by rw [<-c3];congr 1;omega,by rw [<-c4];congr 1;omega⟩) (i+1) (j+(mbO g N i).length) (by rw [List.length_set];omega)
   refine ⟨l2,?_,h2,q1.trans q2⟩
   show runT tape (mbO g N i++mgO N r (i+1)) j ⟨l,bits,used⟩=_
   rw [run_app e1,e2]
   have et:(bits.set i (oV s)).take (i+1)=bits.take i++[oV s]:=by
    rw [List.take_add_one,List.take_set_of_le (Nat.le_refl i),List.getElem?_set_self (by omega)]
    rfl
   have eu:used+2+2*r.length=used+2*(g :: r).length:=by rw [List.length_cons];omega
   rw [et,List.map_cons,List.append_assoc,List.singleton_append,eu]
structure RuS (u w:World) (R g B n cg nb cb:Nat) (ta:Option Addr) (nt ct:Nat) (tape:List Int) (s:TR):Prop where
 e:Ext u w
 row:w.heap[R]?=some (.cells #[.slice (some ⟨g,0,none⟩) n cg,.slice (some ⟨B,0,none⟩) nb cb,.slice ta nt ct,.int .i64 (s.used:Int)] 74 (0,0))
 gr:GnB w g s.l
 bt:w.heap[B]?=some (.cells (s.bits.map (fun x=>Value.int .i64 x)).toArray 3 (0,0))
 bl:s.bits.length=nb
 tp:IntsAt u ta nt tape
 o:u.heap.size<=R/\u.heap.size<=g/\u.heap.size<=B/\g≠R/\g≠B/\R≠B
section
variable {u w w':World} {R g B n cg nb cb:Nat} {ta:Option Addr} {nt ct:Nat} {tape:List Int} {s:TR}
theorem RuS.lt (h:RuS u w R g B n cg nb cb ta nt ct tape s):R<w.heap.size:=(gS.1 h.row).1
theorem RuS.ltB (h:RuS u w R g B n cg nb cb ta nt ct tape s):B<w.heap.size:=(gS.1 h.bt).1
theorem RuS.ext (h:RuS u w R g B n cg nb cb ta nt ct tape s) (x:Ext w w'):RuS u w' R g B n cg nb cb ta nt ct tape s :=
 ⟨h.e.trans x,(x.block R h.lt).trans h.row,h.gr.ext x,(x.block B h.ltB).trans h.bt,h.bl,h.tp,h.o⟩
theorem RuS.tur (h:RuS u w R g B n cg nb cb ta nt ct tape s) (x:Tur g w w') {l:List QP} (hl:GnB w' g l):RuS u w' R g B n cg nb cb ta nt ct tape ⟨l,s.bits,s.used⟩ :=
 ⟨x.ext h.e h.o.2.1,(x.block R h.lt (Ne.symm h.o.2.2.2.1)).trans h.row,hl,(x.block B h.ltB (Ne.symm h.o.2.2.2.2.1)).trans h.bt,h.bl,h.tp,h.o⟩
theorem RuS.x0 (h:RuS u w R g B n cg nb cb ta nt ct tape s):w.cell? ⟨R,0,none⟩=some (.slice (some ⟨g,0,none⟩) n cg):=by rw [cell_of_row w R 0 _ _ (0,0) h.row];rfl
theorem RuS.x1 (h:RuS u w R g B n cg nb cb ta nt ct tape s):w.cell? ⟨R,1,none⟩=some (.slice (some ⟨B,0,none⟩) nb cb):=by rw [cell_of_row w R 1 _ _ (0,0) h.row];rfl
theorem RuS.x2 (h:RuS u w R g B n cg nb cb ta nt ct tape s):w.cell? ⟨R,2,none⟩=some (.slice ta nt ct):=by rw [cell_of_row w R 2 _ _ (0,0) h.row];rfl
theorem RuS.x3 (h:RuS u w R g B n cg nb cb ta nt ct tape s):w.cell? ⟨R,3,none⟩=some (.int .i64 (s.used:Int)):=by rw [cell_of_row w R 3 _ _ (0,0) h.row];rfl
theorem RuS.f (h:RuS u w R g B n cg nb cb ta nt ct tape s) (k:Nat):w.frozen? ⟨R,k,none⟩=false:=frozen_of_row w R k _ _ h.row
theorem RuS.b (h:RuS u w R g B n cg nb cb ta nt ct tape s) {i:Nat} (hi:i<nb):∃ v,w.cell? ⟨B,i,none⟩=some (.int .i64 v):=by
 rw [cell_of_row w B i _ _ (0,0) h.bt];refine ⟨s.bits[i]'(by rw [h.bl];exact hi),?_⟩;rw [List.getElem?_toArray,List.getElem?_map,List.getElem?_eq_getElem (by rw [h.bl];exact hi)]
 rfl
theorem RuS.fb (h:RuS u w R g B n cg nb cb ta nt ct tape s) (k:Nat):w.frozen? ⟨B,k,none⟩=false:=frozen_of_row w B k _ _ h.bt
theorem RuS.use (h:RuS u w R g B n cg nb cb ta nt ct tape s) (k:Nat):RuS u (w.setCell ⟨R,3,none⟩ (.int .i64 (k:Int))) R g B n cg nb cb ta nt ct tape ⟨s.l,s.bits,k⟩:=by
 have hO:=(Only.refl R w).setCell 3 (.int .i64 (k:Int));refine ⟨ext_onlyC h.e hO h.o.1,?_,h.gr.keep (hO.block g h.o.2.2.2.1),(hO.block B (Ne.symm h.o.2.2.2.2.2)).trans h.bt,h.bl,h.tp,h.o⟩;rw [heap_setCell_same w R 3 _ _ _ h.row]
 rfl
theorem RuS.bit (h:RuS u w R g B n cg nb cb ta nt ct tape s) (i:Nat) (v:Int):RuS u (w.setCell ⟨B,i,none⟩ (.int .i64 v)) R g B n cg nb cb ta nt ct tape ⟨s.l,s.bits.set i v,s.used⟩:=by
 have hO:=(Only.refl B w).setCell i (.int .i64 v);refine ⟨ext_onlyC h.e hO h.o.2.2.1,(hO.block R h.o.2.2.2.2.2).trans h.row,h.gr.keep (hO.block g h.o.2.2.2.2.1),?_,by rw [List.length_set];exact h.bl,h.tp,h.o⟩;rw [heap_setCell_same w B i _ _ _ h.bt,List.setIfInBounds_toArray,List.map_set]
end
theorem stepK_callG {P:Program} {ops:Array Oper} {o:Oper} {a:Act} {K:Act->World->Prop} {Q:Exit->Act->World->Prop} {E:Prop} {w:World} (d:Nat) (hd:o.dst=some d) (hw:Region.wanted o (yielded ops a.tmps)=true) {f:FuncId} {args:Array Value} (hrun:(execOp a.eval o).run P w=.ok (.enter f args) w)
  {R:Value->World->Prop} (hc:Calls P f args w fun e w'=>∃ v,e=.returned v/\R v w') (h:∀ v w',R v w'->K ⟨a.tmps.setIfInBounds d v,a.defers⟩ w'):if Region.wanted o (yielded ops a.tmps)=true then Oper.wp P o a w K Q else E:=by
 rw [if_pos hw];unfold Oper.wp;rw [hrun,Oper.upon_enter];refine hc.mono ?_;rintro e w' ⟨v,rfl,hv⟩;have:=h v w' hv;rw [hd];exact this
theorem stepK_valG {P:Program} {ops:Array Oper} {o:Oper} {a:Act} {K:Act->World->Prop} {Q:Exit->Act->World->Prop} {E:Prop} {w:World} {v:Value} (d:Nat) (hd:o.dst=some d) (hw:Region.wanted o (yielded ops a.tmps)=true) (hrun:(execOp a.eval o).run P w=.ok (.value v) w) (h:K ⟨a.tmps.setIfInBounds d v,a.defers⟩ w) :
  if Region.wanted o (yielded ops a.tmps)=true then Oper.wp P o a w K Q else E:=by
 rw [if_pos hw];unfold Oper.wp;rw [hrun,Oper.upon_value,hd];exact h
section
variable {P:Program} {md:Region.Mode} {ops:Array Oper} {Q:Exit->Act->World->Prop} {S:World->Prop}
theorem FloA.skip {W0 w:World} {fs:List Fl} {N n:Nat} {D:List Nat} {B:Array Value} {L:List (Nat × Value)} (hS:∀ w',Ext W0 w'->S w') (hw:Ext W0 w) (i s:Nat) {o:Oper} (ho:ops[i]?=some o)
  (next:FloA P md ops Q S W0 fs N n (i :: D) B ((s,undef) :: L) w)
  (hr:chkT md ops fs N D i=true:=by kernel_rfl) (hs:Region.noSelect ops=true:=by kernel_rfl) (hwa:∀ T,Region.wanted o (yielded ops (frA fs B L T).tmps)=false:=by intro _;kernel_rfl) (hQ:∀ c a w,Q (.panic c) (a.put o.dst undef) w->Q (.panic c) a w:=by exact fun _ _ _ h=>h)
  (hp:∀ T,(frA fs B L T).put o.dst undef=frA fs B ((s,undef) :: L) T:=by intro _;kernel_rfl):FloA P md ops Q S W0 fs N (n+1) D B L w:=by
 intro wx hx st hst;have hc:=List.all_eq_true.1 hr _ (subsA_filter (fun f=>(st f.d).isSome) fs);rw [Bool.and_eq_true] at hc;rw [show n+1+leftA fs st=(n+leftA fs st)+1 by omega];refine wpAnyH_take ho hs hc.1 hc.2 hQ (Or.inr ⟨hwa _,rfl⟩) (hS _ (hw.trans hx)) ?_;have:=next wx hx st hst;rw [hp,<-show dnA N (i :: ((doneA fs st).map Fl.j++D))=(dnA N ((doneA fs st).map Fl.j++D)).setIfInBounds i true from (dnA_set _ _ _).symm,dnA_congr N (D:=i :: ((doneA fs st).map Fl.j++D)) (E:=(doneA fs st).map Fl.j++i :: D) (fun j=>by simp only [List.mem_cons,List.mem_append];exact or_left_comm)];exact this
end
theorem lk_no {tape:List Int} {o:Gop} {s:TR} {b:Bool} {q:Nat} (hq:o.q=q) (hv:tape[s.used]?=some (oV b)) (h:(setQ s.l q b).2=false):lookT tape o s=(⟨(setQ s.l q b).1,s.bits,s.used⟩,20):=by
 unfold lookT;rw [hv];simp only [oV_one,if_pos (oV_or b),hq,Int.toNat_natCast,h,Bool.false_eq_true,if_false]
theorem lk_yes {tape:List Int} {o:Gop} {s:TR} {b:Bool} {q:Nat} (hq:o.q=q) (hv:tape[s.used]?=some (oV b)) (h:(setQ s.l q b).2=true):lookT tape o s=(⟨if o.kind=5 then (setQ s.l q b).1 else (setQ s.l q b).1.map (rsG q b),if o.kind=5 then s.bits.set o.bit.toNat (oV b) else s.bits,s.used+1⟩,0):=by
 unfold lookT;rw [hv];simp only [oV_one,if_pos (oV_or b),hq,Int.toNat_natCast,h,if_true]
theorem set_len {l:List QP} (hg:GoodS l) {q:Nat} {b:Bool}:(setQ l q b).1.length=l.length:=by
 cases h:l.findIdx? (fun p=>p.x.testBit q) with
 | none=>rw [set_none b h];exact (orN_form l.length hg (2*l.length)).2.1.len
 | some a =>
  rw [set_some b h]
  show (List.set _ _ _).length=_
  rw [List.length_set];exact seN_len _ _ _ _
theorem set_ok {l:List QP} (hg:GoodS l) {q:Nat} (hq:q<16) (b:Bool):∀ p ∈ (setQ l q b).1,p.ok:=by
 cases h:l.findIdx? (fun p=>p.x.testBit q) with
 | none=>rw [set_none b h];exact (orN_form l.length hg (2*l.length)).1.ok
 | some a =>
  rw [set_some b h];intro p hp
  rcases mem_set_of hp with rfl | hp
  ·exact ⟨by show 0<65536;decide,pow_16 hq⟩
  ·exact (seN_good hg (fun p=>p.x.testBit q) (List.findIdx?_eq_some_iff_getElem.1 h).1 l.length).1.ok p hp
def LkR (u:World) (R g B n cg nb cb:Nat) (ta:Option Addr) (nt ct:Nat) (tape:List Int) (x:TR × Nat) (e:Ending) (w':World):Prop:=e=.returned (.int .i64 (x.2:Int))/\RuS u w' R g B n cg nb cb ta nt ct tape x.1
theorem look_any {u w:World} {R g B n cg nb cb:Nat} {ta:Option Addr} {nt ct:Nat} {tape:List Int} {s:TR} (h:RuS u w R g B n cg nb cb ta nt ct tape s) (hg:GoodS s.l) (hl:s.l.length=n) (hn:n<=15) (hc:n<=cg) (hu:s.used<=nt) (hnt:nt<=9223372036854775806)
  (kd:Int) (q:Nat) (bt:Nat) (hk:kd=5\/kd=6) (hq:q<n) (hb:kd=5->bt<nb) (cd ctl:List Int) (a1:Option Addr) (n1 c1:Nat) (a2:Option Addr) (n2 c2:Nat) :
  Calls Tryz.prog 78 #[.pointer (some ⟨R,0,none⟩),.agg #[.int .i64 kd,.int .i64 0,.slice a1 n1 c1,.int .i64 (q:Int),.int .i64 (bt:Int),.slice a2 n2 c2]] w fun e w'=>LkR u R g B n cg nb cb ta nt ct tape (lookT tape ⟨kd,0,ctl,q,bt,cd⟩ s) e w':=by
 have bx:=opbx_new w kd 0 a1 n1 c1 (q:Int) (bt:Int) a2 n2 c2;have E0:=ext_al w (.cells #[.int .i64 kd,.int .i64 0,.slice a1 n1 c1,.int .i64 (q:Int),.int .i64 (bt:Int),.slice a2 n2 c2] 52);obtain ⟨H,hH⟩:∃ H,w.heap.size=H:=⟨_,rfl⟩;obtain ⟨W0,hW0⟩:∃ V,w.alloc (.cells #[.int .i64 kd,.int .i64 0,.slice a1 n1 c1,.int .i64 (q:Int),.int .i64 (bt:Int),.slice a2 n2 c2] 52)=V:=⟨_,rfl⟩;rw [hW0] at bx E0;rw [hH] at bx;have HR:=Lh (h.ext E0);have HB:=Lh bx;have HW0:=Lh hW0;have HH:=Lh hH;have Hg:=Lh hg;have Hl:=Lh hl;have Hn:=Lh hn;have Hc:=Lh hc;have Hq:=Lh hq;have Hb:=Lh hb;have Hu:=Lh hu;have Hnt:=Lh hnt;have Hlt:=Lh h.tp.1;have HRH:=Lh (show R<H/\g<H/\B<H by rw [<-hH];exact ⟨h.lt,h.gr.lt,h.ltB⟩);clear h bx E0 hW0 hH hg hl hn hc hq hb hu hnt;have k0:=HR.out.x2;have k1:=HR.out.x3
 go_enter Tryz.func78,Tryz.ntmps78
 go_upto_region 1 with fail
 rw [HW0.out,HH.out]
 by_cases hun:s.used=nt
 ·have q1:((s.used:Int) == (nt:Int))=true:=by rw [hun];simp
  have q2:(s.used:Int)=(nt:Int):=by omega
  have Hlk:=Lh (show lookT tape ⟨kd,0,ctl,q,bt,cd⟩ s=(s,19) by
   unfold lookT
   rw [List.getElem?_eq_none (by rw [Hlt.out,hun];exact Nat.le_refl _)])
  clear hun
  go_region
  go_wp2_with fail
  go_ret
  rw [Hlk.out];exact ⟨rfl,HR.out.ext (Below.drew (Ext.refl _))⟩
 have q2:¬ (s.used:Int)=(nt:Int):=by omega
 have q1:((s.used:Int) == (nt:Int))=false:=by simpa using q2
 have q3:(s.used:Int)<(nt:Int):=by have:=Hu.out;omega
 have q4:(0:Int)<=(s.used:Int):=by omega
 obtain ⟨ob,oo,rfl,hbl,hcell⟩:=(HR.out.tp.ext HR.out.e).at (by have:=Hu.out;omega);have c0:=hcell s.used (by have:=Hu.out;omega);obtain ⟨v,hv⟩:∃ v,tape[s.used]?=some v:=⟨_,List.getElem?_eq_getElem (by rw [Hlt.out];have:=Hu.out;omega)⟩
 have ev:tape.getD s.used 0=v:=by rw [List.getD_eq_getElem?_getD,hv];rfl
 rw [ev] at c0;have Hv:=Lh hv;clear hun hbl hcell hv ev
 go_region
 go_upto_region 3 with fail
 go_region
 have HR:=Lh (HR.out.ext (Below.drew (Below.drew (Ext.refl W0))));have HB:=Lh (HB.out.ext (Below.drew (Below.drew (Ext.refl W0))));obtain ⟨W1,hW1⟩:∃ V,W0.drew.drew=V:=⟨_,rfl⟩;rw [hW1] at HR HB ⊢;clear hW1 k0 k1 c0 q1 q2 q3 q4;have hk0:=HR.out.x0;have hk1:=HB.out.x3
 by_cases hv01:¬ (v=0\/v=1)
 ·have n0:¬ v=0:=fun e=>hv01 (Or.inl e)
  have n1:¬ v=1:=fun e=>hv01 (Or.inr e)
  have n0':(v != 0)=true:=by simpa using n0
  have n1':(v != 1)=true:=by simpa using n1
  have Hlk:=Lh (show lookT tape ⟨kd,0,ctl,q,bt,cd⟩ s=(s,20) by
   unfold lookT;rw [Hv.out]
   exact if_neg hv01)
  clear hv01
  go_upto_region 4 with fail
  go_region
  go_wp2_with fail
  go_ret
  rw [Hlk.out];exact ⟨rfl,HR.out.ext (Below.drew (Ext.refl _))⟩
 rcases Classical.not_not.1 hv01 with rfl | rfl
 ·have HSe:=Lh (fun wx hx=>settle_any s.l Hg.out g n cg q 0 wx (HR.out.gr.ext hx) Hl.out Hn.out Hc.out (by have:=Hq.out;have:=Hn.out;omega))
  have Hdc:=Lh (show decide ((0:Int)=1)=false by decide);rw [Hdc.out] at HSe;have Hdu:=Lh Hdc;obtain ⟨bb,hbb⟩:∃ bb,(setQ s.l q false).2=bb:=⟨_,rfl⟩;obtain ⟨LL,hLL⟩:∃ LL,(setQ s.l q false).1=LL:=⟨_,rfl⟩;rw [hbb,hLL] at HSe;have Hbb:=Lh hbb;have HLL:=Lh hLL;have HLo:=Lh (show ∀ p ∈ LL,p.ok by rw [<-hLL];exact set_ok Hg.out (by have:=Hq.out;have:=Hn.out;omega) _);have HLn:=Lh (show LL.length=n by rw [<-hLL,set_len Hg.out];exact Hl.out);clear hbb hLL hv01
  go_upto_region 4 with fail
  have he0:Ext W1 W1.drew:=Below.drew (Ext.refl _)
  have HSS:∀ w',Ext W1 w'->w'.cell? ⟨R,0,none⟩=some (.slice (some ⟨g,0,none⟩) n cg)/\w'.cell? ⟨H,3,none⟩=some (.int .i64 (q:Int)):=fun w' hx=>⟨(HR.out.ext hx).x0,(HB.out.ext hx).x3⟩
  refine wp_region_held (S:=fun w'=>w'.cell? ⟨R,0,none⟩=some (.slice (some ⟨g,0,none⟩) n cg)/\w'.cell? ⟨H,3,none⟩=some (.int .i64 (q:Int))) (by kernel_rfl) ?_
  have hA:∀ ops,FlsA Tryz.prog ops []:=fun _=>⟨fun _ h=>(by cases h),by simp⟩
  refine FloA.start [] 17 17 17 (.move HSS he0 0 26 (.int .i64 0) rfl ?_);refine .move HSS he0 1 27 (.bool false) rfl ?_;refine .move HSS he0 2 28 (.bool false) rfl ?_;refine .skip HSS he0 3 29 rfl ?_;refine .skip HSS he0 4 30 rfl ?_;refine .move HSS he0 5 31 (.bool false) rfl ?_;refine .move HSS he0 6 32 (.bool false) rfl ?_;refine .move HSS he0 7 33 (.pointer (some ⟨R,0,none⟩)) rfl ?_;refine .move HSS he0 8 34 (.pointer (some ⟨R,0,none⟩)) rfl ?_;refine .move HSS he0 9 35 (.pointer (some ⟨R,0,none⟩)) rfl ?_;refine .take HSS he0 10 36 (.slice (some ⟨g,0,none⟩) n cg) rfl (fun _ _ h=>exec_cellA h.1 Tryz.underlying72) ?_;refine .move HSS he0 11 37 (.pointer (some ⟨H,3,none⟩)) rfl ?_;refine .take HSS he0 12 38 (.int .i64 (q:Int)) rfl (fun _ _ h=>exec_cellA h.2 Tryz.underlying3) ?_;refine .move HSS he0 13 39 (.int .i64 0) rfl ?_;refine .done (hA _) HSS he0 ?_;intro wy hy st hst hl;have hEy:=he0.trans hy;simp only [frA,fbA,List.map_nil,List.nil_append,List.foldr,sx0,sx1,sx2];refine anyH_oneA (i:=14) (by kernel_rfl) rfl (fun Kk hKk=>?_);refine stepK_callG 40 rfl (by kernel_rfl) (by kernel_rfl) (R:=fun x w'=>x=.bool bb/\RuS u w' R g B n cg nb cb (some ⟨ob,oo,none⟩) nt ct tape ⟨LL,s.bits,s.used⟩/\OpBx w' H kd 0 a1 n1 c1 (q:Int) (bt:Int) a2 n2 c2) ((HSe.out wy hEy).mono fun _ _ h=>⟨_,h.1,rfl,(HR.out.ext hEy).tur h.2.1 h.2.2,⟨(h.2.1.block H (HB.out.ext hEy).lt (by have:=HRH.out;omega)).trans (HB.out.ext hEy).row⟩⟩) ?_;rintro _ w5 ⟨rfl,hr5,hb5⟩;have Hs5:=Lh (And.intro hr5.x0 hb5.x3);refine hKk.out _ _ Hs5.out ?_;clear hKk Kk;simp only [sx0,sx1,sx2];refine anyH_oneA (i:=15) (by kernel_rfl) rfl (fun Kk hKk=>?_);refine stepK_valG (v:=.bool (!bb)) 41 rfl (by kernel_rfl) (by kernel_rfl) ?_;refine hKk.out _ _ Hs5.out ?_;clear hKk Kk;simp only [sx0,sx1,sx2];refine anyH_oneA (i:=16) (by kernel_rfl) rfl (fun Kk hKk=>?_);refine stepK_valG (v:=.bool (!bb)) 42 rfl (by kernel_rfl) (by kernel_rfl) ?_;refine hKk.out _ _ Hs5.out ?_;clear hKk Kk;refine wpAnyH_done (by kernel_rfl) ?_ _;simp only [sx0,sx1,sx2]
  have HR:=Lh hr5;have HB:=Lh hb5;clear hr5 hb5 Hs5 hEy hy hst hl HSS hA he0 HSe hk0 hk1
  cases bb with
  | false =>
   have Hlk:=Lh (show lookT tape ⟨kd,0,ctl,q,bt,cd⟩ s=(⟨LL,s.bits,s.used⟩,20) by
    rw [lk_no (b:=false) (q:=q) rfl Hv.out Hbb.out,HLL.out])
   go_wp2_with fail
   go_ret
   rw [Hlk.out];exact ⟨rfl,HR.out⟩
  | true =>
   obtain ⟨U1,hU1⟩:∃ x,s.used+1=x:=⟨_,rfl⟩;have HU:=Lh hU1
   have wu:IntKind.i64.wrap ((s.used:Int)+1)=(U1:Int):=by rw [IntKind.wrap_i64];have:=Hnt.out;have:=Hu.out;omega
   have Hlk:=Lh (show lookT tape ⟨kd,0,ctl,q,bt,cd⟩ s=(⟨if kd=5 then LL else LL.map (rsG q false),if kd=5 then s.bits.set bt 0 else s.bits,U1⟩,0) by
    rw [lk_yes (b:=false) (q:=q) rfl Hv.out Hbb.out,HLL.out,hU1];rfl)
   clear hU1;have k3:=HR.out.x3;have f3:=HR.out.f 3
   go_upto_region 7 with fail
   have HR2:=Lh (HR.out.use U1);have HB2:=Lh (show OpBx (w5.setCell ⟨R,3,none⟩ (.int .i64 (U1:Int))) H kd 0 a1 n1 c1 (q:Int) (bt:Int) a2 n2 c2 from ⟨(((Only.refl R w5).setCell 3 _).block H (by have:=HRH.out;omega)).trans HB.out.row⟩);obtain ⟨W2,hW2⟩:∃ V,w5.setCell ⟨R,3,none⟩ (.int .i64 (U1:Int))=V:=⟨_,rfl⟩;rw [hW2] at HR2 HB2 ⊢;clear hW2 k3 f3 wu;have kk:=HB2.out.x0
   rcases hk with rfl | rfl
   ·rw [if_pos rfl,if_pos rfl] at Hlk
    obtain ⟨v0,hv0⟩:=HR2.out.b (Hb.out rfl);have kb:=HR2.out.x1;have k4:=HB2.out.x4;have fb:=HR2.out.fb bt
    have q0:(0:Int)<=(bt:Int):=by omega
    have q1:(bt:Int)<(nb:Int):=by have:=Hb.out rfl;omega
    go_upto_region 8 with fail
    go_region
    have HR3:=Lh ((HR2.out.bit bt 0).ext (Below.drew (Ext.refl _)))
    go_wp2_with fail
    go_ret
    rw [Hlk.out];exact ⟨rfl,HR3.out⟩
   ·rw [if_neg (by decide),if_neg (by decide),show LL.map (rsG q false)=LL from List.map_id' LL] at Hlk
    go_wp2_with fail
    go_ret
    rw [Hlk.out];exact ⟨rfl,HR2.out⟩
 ·have HSe:=Lh (fun wx hx=>settle_any s.l Hg.out g n cg q 1 wx (HR.out.gr.ext hx) Hl.out Hn.out Hc.out (by have:=Hq.out;have:=Hn.out;omega))
  have Hdc:=Lh (show decide ((1:Int)=1)=true by decide);rw [Hdc.out] at HSe;have Hdu:=Lh Hdc;obtain ⟨bb,hbb⟩:∃ bb,(setQ s.l q true).2=bb:=⟨_,rfl⟩;obtain ⟨LL,hLL⟩:∃ LL,(setQ s.l q true).1=LL:=⟨_,rfl⟩;rw [hbb,hLL] at HSe;have Hbb:=Lh hbb;have HLL:=Lh hLL;have HLo:=Lh (show ∀ p ∈ LL,p.ok by rw [<-hLL];exact set_ok Hg.out (by have:=Hq.out;have:=Hn.out;omega) _);have HLn:=Lh (show LL.length=n by rw [<-hLL,set_len Hg.out];exact Hl.out);clear hbb hLL hv01
  go_upto_region 4 with fail
  have he0:Ext W1 W1.drew:=Below.drew (Ext.refl _)
  have HSS:∀ w',Ext W1 w'->w'.cell? ⟨R,0,none⟩=some (.slice (some ⟨g,0,none⟩) n cg)/\w'.cell? ⟨H,3,none⟩=some (.int .i64 (q:Int)):=fun w' hx=>⟨(HR.out.ext hx).x0,(HB.out.ext hx).x3⟩
  refine wp_region_held (S:=fun w'=>w'.cell? ⟨R,0,none⟩=some (.slice (some ⟨g,0,none⟩) n cg)/\w'.cell? ⟨H,3,none⟩=some (.int .i64 (q:Int))) (by kernel_rfl) ?_
  have hA:∀ ops,FlsA Tryz.prog ops []:=fun _=>⟨fun _ h=>(by cases h),by simp⟩
  refine FloA.start [] 17 17 17 (.move HSS he0 0 26 (.int .i64 1) rfl ?_);refine .move HSS he0 1 27 (.bool true) rfl ?_;refine .move HSS he0 2 28 (.bool true) rfl ?_;refine .move HSS he0 3 29 (.int .i64 1) rfl ?_;refine .move HSS he0 4 30 (.bool false) rfl ?_;refine .move HSS he0 5 31 (.bool false) rfl ?_;refine .move HSS he0 6 32 (.bool false) rfl ?_;refine .move HSS he0 7 33 (.pointer (some ⟨R,0,none⟩)) rfl ?_;refine .move HSS he0 8 34 (.pointer (some ⟨R,0,none⟩)) rfl ?_;refine .move HSS he0 9 35 (.pointer (some ⟨R,0,none⟩)) rfl ?_;refine .take HSS he0 10 36 (.slice (some ⟨g,0,none⟩) n cg) rfl (fun _ _ h=>exec_cellA h.1 Tryz.underlying72) ?_;refine .move HSS he0 11 37 (.pointer (some ⟨H,3,none⟩)) rfl ?_;refine .take HSS he0 12 38 (.int .i64 (q:Int)) rfl (fun _ _ h=>exec_cellA h.2 Tryz.underlying3) ?_;refine .move HSS he0 13 39 (.int .i64 1) rfl ?_;refine .done (hA _) HSS he0 ?_;intro wy hy st hst hl;have hEy:=he0.trans hy;simp only [frA,fbA,List.map_nil,List.nil_append,List.foldr,sx0,sx1,sx2];refine anyH_oneA (i:=14) (by kernel_rfl) rfl (fun Kk hKk=>?_);refine stepK_callG 40 rfl (by kernel_rfl) (by kernel_rfl) (R:=fun x w'=>x=.bool bb/\RuS u w' R g B n cg nb cb (some ⟨ob,oo,none⟩) nt ct tape ⟨LL,s.bits,s.used⟩/\OpBx w' H kd 0 a1 n1 c1 (q:Int) (bt:Int) a2 n2 c2) ((HSe.out wy hEy).mono fun _ _ h=>⟨_,h.1,rfl,(HR.out.ext hEy).tur h.2.1 h.2.2,⟨(h.2.1.block H (HB.out.ext hEy).lt (by have:=HRH.out;omega)).trans (HB.out.ext hEy).row⟩⟩) ?_;rintro _ w5 ⟨rfl,hr5,hb5⟩;have Hs5:=Lh (And.intro hr5.x0 hb5.x3);refine hKk.out _ _ Hs5.out ?_;clear hKk Kk;simp only [sx0,sx1,sx2];refine anyH_oneA (i:=15) (by kernel_rfl) rfl (fun Kk hKk=>?_);refine stepK_valG (v:=.bool (!bb)) 41 rfl (by kernel_rfl) (by kernel_rfl) ?_;refine hKk.out _ _ Hs5.out ?_;clear hKk Kk;simp only [sx0,sx1,sx2];refine anyH_oneA (i:=16) (by kernel_rfl) rfl (fun Kk hKk=>?_);refine stepK_valG (v:=.bool (!bb)) 42 rfl (by kernel_rfl) (by kernel_rfl) ?_;refine hKk.out _ _ Hs5.out ?_;clear hKk Kk;refine wpAnyH_done (by kernel_rfl) ?_ _
  simp only [sx0,sx1,sx2];have HR:=Lh hr5;have HB:=Lh hb5;clear hr5 hb5 Hs5 hEy hy hst hl HSS hA he0 HSe hk0 hk1
  cases bb with
  | false =>
   have Hlk:=Lh (show lookT tape ⟨kd,0,ctl,q,bt,cd⟩ s=(⟨LL,s.bits,s.used⟩,20) by
    rw [lk_no (b:=true) (q:=q) rfl Hv.out Hbb.out,HLL.out])
   go_wp2_with fail
   go_ret
   rw [Hlk.out];exact ⟨rfl,HR.out⟩
  | true =>
   obtain ⟨U1,hU1⟩:∃ x,s.used+1=x:=⟨_,rfl⟩;have HU:=Lh hU1
   have wu:IntKind.i64.wrap ((s.used:Int)+1)=(U1:Int):=by rw [IntKind.wrap_i64];have:=Hnt.out;have:=Hu.out;omega
   have Hlk:=Lh (show lookT tape ⟨kd,0,ctl,q,bt,cd⟩ s=(⟨if kd=5 then LL else LL.map (rsG q true),if kd=5 then s.bits.set bt 1 else s.bits,U1⟩,0) by
    rw [lk_yes (b:=true) (q:=q) rfl Hv.out Hbb.out,HLL.out,hU1];rfl)
   clear hU1;have k3:=HR.out.x3;have f3:=HR.out.f 3
   go_upto_region 7 with fail
   have HR2:=Lh (HR.out.use U1);have HB2:=Lh (show OpBx (w5.setCell ⟨R,3,none⟩ (.int .i64 (U1:Int))) H kd 0 a1 n1 c1 (q:Int) (bt:Int) a2 n2 c2 from ⟨(((Only.refl R w5).setCell 3 _).block H (by have:=HRH.out;omega)).trans HB.out.row⟩);obtain ⟨W2,hW2⟩:∃ V,w5.setCell ⟨R,3,none⟩ (.int .i64 (U1:Int))=V:=⟨_,rfl⟩;rw [hW2] at HR2 HB2 ⊢;clear hW2 k3 f3 wu;have kk:=HB2.out.x0
   rcases hk with rfl | rfl
   ·rw [if_pos rfl,if_pos rfl] at Hlk
    obtain ⟨v0,hv0⟩:=HR2.out.b (Hb.out rfl);have kb:=HR2.out.x1;have k4:=HB2.out.x4;have fb:=HR2.out.fb bt
    have q0:(0:Int)<=(bt:Int):=by omega
    have q1:(bt:Int)<(nb:Int):=by have:=Hb.out rfl;omega
    go_upto_region 8 with fail
    go_region
    have HR3:=Lh ((HR2.out.bit bt 1).ext (Below.drew (Ext.refl _)))
    go_wp2_with fail
    go_ret
    rw [Hlk.out];exact ⟨rfl,HR3.out⟩
   ·rw [if_neg (by decide),if_neg (by decide),show rsG q true=flipG q from rfl] at Hlk
    go_upto_region 10 with fail
    have HP:=Lh (fun wx (x:Value) (hw:Ext W2 wx) (hx:GateV W2.heap.size wx x (flipG q))=>pass_any LL HLo.out (flipG q) x g n cg W2.heap.size wx (HR2.out.gr.ext hw) HLn.out (by have:=Hn.out;omega) HR2.out.gr.lt hx);have he0:Ext W2 W2.drew:=Below.drew (Ext.refl _)
    have HSS:∀ w',Ext W2 w'->w'.cell? ⟨R,0,none⟩=some (.slice (some ⟨g,0,none⟩) n cg)/\w'.cell? ⟨H,3,none⟩=some (.int .i64 (q:Int)):=fun w' hx=>⟨(HR2.out.ext hx).x0,(HB2.out.ext hx).x3⟩
    refine wp_region_held (S:=fun w'=>w'.cell? ⟨R,0,none⟩=some (.slice (some ⟨g,0,none⟩) n cg)/\w'.cell? ⟨H,3,none⟩=some (.int .i64 (q:Int))) (by kernel_rfl) ?_
    have hA:∀ ops,FlsA Tryz.prog ops []:=fun _=>⟨fun _ h=>(by cases h),by simp⟩
    refine FloA.start [] 9 9 9 (.move HSS he0 0 65 (.pointer (some ⟨R,0,none⟩)) rfl ?_);refine .move HSS he0 1 66 (.pointer (some ⟨R,0,none⟩)) rfl ?_;refine .move HSS he0 2 67 (.pointer (some ⟨R,0,none⟩)) rfl ?_;refine .take HSS he0 3 68 (.slice (some ⟨g,0,none⟩) n cg) rfl (fun _ _ h=>exec_cellA h.1 Tryz.underlying72) ?_;refine .move HSS he0 4 69 (.pointer (some ⟨H,3,none⟩)) rfl ?_;refine .take HSS he0 5 70 (.int .i64 (q:Int)) rfl (fun _ _ h=>exec_cellA h.2 Tryz.underlying3) ?_;refine .move HSS he0 6 71 (.agg #[.int .i64 2,.int .i64 0,.slice none 0 0,.int .i64 (q:Int),.int .i64 0,.slice none 0 0]) rfl ?_
    refine .call (hA _) HSS he0 7 72 rfl _ _ (R:=fun x w'=>GateV W2.heap.size w' x (flipG q)) (fun wx hx=>(gate_x q (by have:=Hq.out;have:=Hn.out;omega) none 0 none 0 0 wx).mono fun _ _ h=>by
     obtain ⟨x,h1,h2,h3⟩:=h
     exact ⟨_,h1,h3.down (he0.trans hx).size,h2⟩) ?_
    rintro _ w6 hx6 x6;have e6:=he0.trans x6;refine .done (hA _) HSS e6 ?_;intro wy hy st hst hl;have hEy:=e6.trans hy;simp only [frA,fbA,List.map_nil,List.nil_append,List.foldr,sx0,sx1,sx2];refine anyH_oneA (i:=8) (by kernel_rfl) rfl (fun Kk hKk=>?_)
    refine stepK_callG 73 rfl (by kernel_rfl) (by kernel_rfl) (R:=fun _ w'=>RuS u w' R g B n cg nb cb (some ⟨ob,oo,none⟩) nt ct tape ⟨LL.map (flipG q),s.bits,U1⟩/\OpBx w' H 6 0 a1 n1 c1 (q:Int) (bt:Int) a2 n2 c2) ((HP.out wy _ hEy (hx6.ext hy)).mono fun _ _ h=>by
     obtain ⟨⟨x,h1⟩,h2,h3⟩:=h
     exact ⟨x,h1,(HR2.out.ext hEy).tur h2 h3,⟨(h2.block H (HB2.out.ext hEy).lt (by have:=HRH.out;omega)).trans (HB2.out.ext hEy).row⟩⟩) ?_
    rintro vx w7 ⟨hr7,hb7⟩;refine hKk.out _ _ ⟨hr7.x0,hb7.x3⟩ ?_;clear hKk Kk;refine wpAnyH_done (by kernel_rfl) ?_ _;simp only [sx0,sx1,sx2];have HR7:=Lh hr7;clear hr7 hb7 hEy hy hst hl hx6 x6 e6 HSS hA he0
    go_wp2_with fail
    go_ret
    rw [Hlk.out];exact ⟨rfl,HR7.out⟩
end Go.Proofs.YtlechhmhmakgpaaGreatDoor
