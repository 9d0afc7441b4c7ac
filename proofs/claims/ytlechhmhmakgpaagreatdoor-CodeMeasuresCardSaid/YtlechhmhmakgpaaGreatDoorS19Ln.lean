/-
  The program: wayHome. A code without a fault: its generators can go home. What undoes a way home is pure. The program: Encoder. The program: a Pauli's text, with its sign; the text of what was read. CodeEncodes, in plain lists: the text of what was read; the Zs' texts; what the encoder makes of them. The program: a group's rows, in their one form, as texts.
-/
import Derived.Test.YtlechhmhmakgpaaGreatDoorS18Pp
namespace Go.Proofs.YtlechhmhmakgpaaGreatDoor
set_option maxRecDepth 100000
set_option maxHeartbeats 8000000
open Go.RowKit
theorem map_app (l:List QP) (a b:List Gop):(l.map (actL a)).map (actL b)=l.map (actL (a++b)):=by
 rw [List.map_map]
 exact List.map_congr_left fun p _=>(actL_append a b p).symm
theorem mnS_len (i:Nat) (p:QP):(mnS i p).length<=1:=by unfold mnS;split<;>simp
theorem gaS_len (n i:Nat) (p:QP):(gaS n i p).length<=n+1:=by
 unfold gaS;rw [List.length_append];have h1:=gaL_len i n 0 (actL (gaA i p) p)
 have h2:(gaA i p).length<=1:=by unfold gaA;split<;>simp
 omega
theorem wayS_len (n i:Nat) (p:QP):(wayS n i p).length<=3*n+2:=by
 unfold wayS;rw [List.length_append,List.length_append];have h1:=tzL_len (n-i) i p;have h2:=gaS_len n i (actL (tzL (n-i) i p) p);have h3:=mnS_len i (actL (gaS n i (actL (tzL (n-i) i p) p)) (actL (tzL (n-i) i p) p));omega
theorem wayL_len (n:Nat) (l:List QP):∀ i,(wayL n l i).length<=i*(3*n+2)
 | 0=>by simp [wayL]
 | i+1=>by
  unfold wayL;rw [List.length_append,Nat.succ_mul];have h1:=wayL_len n l i;have h2:=wayS_len n i (actL (wayL n l i) (l.getD i ⟨0,0,false⟩));omega
theorem stepK_boxH {ops:Array Oper} {o:Oper} {a:Act} {K:Act->World->Prop} {Q:Exit->Act->World->Prop} {E:Prop} {w:World} (hgd:o.guard=none) (x:Operand) (ho:o.op=.box 168 x) (n:Int) (a':Option Addr) (k c':Nat)
  (hx:a.eval x=.agg #[.int .i64 n,.slice a' k c',.slice none 0 0]) (h:K (a.put o.dst (.pointer (some ⟨w.heap.size,0,none⟩))) (w.alloc (.cells #[.int .i64 n,.slice a' k c',.slice none 0 0] 168))) :
  if Region.wanted o (yielded ops a.tmps)=true then Oper.wp Tryz.prog o a w K Q else E:=by
 have hw:Region.wanted o (yielded ops a.tmps)=true:=by simp [Region.wanted,hgd]
 rw [if_pos hw];obtain ⟨od,oo,ot,opp,oa,og⟩:=o;simp only at ho;subst ho;have HH:=Lh h;clear h;unfold Oper.wp execOp;simp only [hx]
 go_simp
 exact HH.out
def WhR (ops:List Gop) (w:World) (e:Ending) (w':World):Prop:=∃ v base,e=.returned v/\Ext w w'/\OpsO w' base v ops
theorem wayHome_any (n:Nat) (hn:n<=12) (ps:List PK) (ao:Option Addr) (k c:Nat) (mp:Option Nat) (w:World) (h:PsAt w ao k ps) (hG:GoodL n (ps.map toQ)) :
  Calls Tryz.prog 71 #[.agg #[.int .i64 (n:Int),.slice ao k c,.map mp]] w fun e w'=>WhR (wayL n (ps.map toQ) k) w e w':=by
 have hlen:(ps.map toQ).length=k:=by rw [List.length_map];exact h.1
 have hkn:k<=n:=by rw [<-hlen];exact hG.len
 have hok:∀ p ∈ ps.map toQ,p.ok:=fun p hp=>by
  obtain ⟨x,_,rfl⟩:=List.mem_map.1 hp;exact ⟨x.hx,x.hz⟩
 have fR:=FrB.new w (n:Int) ao k c mp;have E0:=ext_al w (.cells #[.int .i64 (n:Int),.slice ao k c,.map mp] 115);obtain ⟨H,hH⟩:∃ H,w.heap.size=H:=⟨_,rfl⟩;obtain ⟨W0,hW0⟩:∃ V,w.alloc (.cells #[.int .i64 (n:Int),.slice ao k c,.map mp] 115)=V:=⟨_,rfl⟩;rw [hW0] at fR E0;rw [hH] at fR;have HCl:=Lh (clone_p ps ao k c W0.drew ((h.ext E0).ext (Below.drew (Ext.refl _))) (by omega));obtain ⟨l,hl⟩:∃ l,ps.map toQ=l:=⟨_,rfl⟩;rw [hl] at hlen hok hG ⊢;have Hl:=Lh hl;have HG:=Lh hG;have Hlen:=Lh hlen;have Hok:=Lh hok;have Hn:=Lh hn;have Hkn:=Lh hkn;have HE0:=Lh E0;have HW0:=Lh hW0;have HH:=Lh hH;have HF:=Lh fR;have Hway:=Lh (fun i hi=>way_home (by omega:n<=16) hG i hi);have Hstep:=Lh (fun (i:Nat) (h1:∀ o ∈ wayL n l i,WOk n o) h2 hi=>step_home' (by omega:n<=16) hG (i:=i) h1 h2 hi);clear h hlen hkn hok fR E0 hH hW0 hl hG hn
 go_enter Tryz.func71,Tryz.ntmps71
 go_upto_region 1 with fail
 rw [HW0.out,HH.out];have HSt:=Lh (fun (w':World) (hx:Ext W0 w')=>(show w'.cell? ⟨H,0,none⟩=some (.int .i64 (n:Int))/\w'.cell? ⟨H,1,none⟩=some (.slice ao k c) from ⟨cell_ext HF.out.x0 hx,cell_ext HF.out.x1 hx⟩));have hd0:Ext W0 W0.drew:=Below.drew (Ext.refl _);refine wp_region_K 7 (fun w'=>w'.cell? ⟨H,0,none⟩=some (.int .i64 (n:Int))/\w'.cell? ⟨H,1,none⟩=some (.slice ao k c)) (by kernel_rfl) ?_
 show anyK _ _ _ _ _ _ 8 #[false,false,false,false,false,false,false,false] _ _
 refine kT 0 8 (v:=?_) rfl (Or.inl ⟨by rfl,?_⟩) (HSt.out _ hd0) ?_;rotate_left 1
 ·intro w hSw
  go_simp
  try with_reducible rfl
 show anyK _ _ _ _ _ _ _ _ (Act.put _ (some 5) _) _
 simp only [Act.put,sx0,sx1,sx2];refine kT 1 8 (v:=?_) rfl (Or.inl ⟨by rfl,?_⟩) (HSt.out _ hd0) ?_;rotate_left 1
 ·intro w hSw
  go_simp
  try with_reducible rfl
 show anyK _ _ _ _ _ _ _ _ (Act.put _ (some 6) _) _
 simp only [Act.put,sx0,sx1,sx2];refine kT 2 8 (v:=?_) rfl (Or.inl ⟨by rfl,?_⟩) (HSt.out _ hd0) ?_;rotate_left 1
 ·intro w hSw
  go_simp
  try with_reducible rfl
 show anyK _ _ _ _ _ _ _ _ (Act.put _ (some 7) _) _
 simp only [Act.put,sx0,sx1,sx2];refine kT 3 8 (v:=?_) rfl (Or.inl ⟨by rfl,?_⟩) (HSt.out _ hd0) ?_;rotate_left 1
 ·intro w hSw
  go_simp
  try with_reducible rfl
 show anyK _ _ _ _ _ _ _ _ (Act.put _ (some 8) _) _
 simp only [Act.put,sx0,sx1,sx2];refine anyK_one (i:=4) (by kernel_rfl) rfl (fun Kk hKk=>?_)
 go_simp
 (go_at_call 115;refine HCl.out.mono ?_;rintro e w2 ⟨a',c',rfl,x2,hg⟩)
 have E2:Ext W0 w2:=hd0.trans x2;have Hg:=Lh hg;clear hg x2 HCl
 go_wp2_with fail
 refine hKk.out _ _ (fun _=>HSt.out _ E2) ?_;clear hKk Kk;simp only [sx0,sx1,sx2];refine kT 5 8 (v:=?_) rfl (Or.inl ⟨by rfl,?_⟩) (HSt.out _ E2) ?_;rotate_left 1
 ·intro w hSw
  go_simp
  try with_reducible rfl
 show anyK _ _ _ _ _ _ _ _ (Act.put _ (some 10) _) _
 simp only [Act.put,sx0,sx1,sx2];refine anyK_one (i:=6) (by kernel_rfl) rfl (fun Kk hKk=>?_);refine stepK_boxH rfl _ rfl (n:Int) a' k c' rfl ?_;have E3:Ext W0 (w2.alloc (.cells #[.int .i64 (n:Int),.slice a' k c',.slice none 0 0] 168)):=E2.trans (ext_al _ _);refine hKk.out _ _ (fun _=>HSt.out _ E3) ?_;clear hKk Kk
 show anyK _ _ _ _ _ _ _ _ (Act.put _ (some 11) _) _
 simp only [Act.put,sx0,sx1,sx2];refine anyK_one (i:=7) (by kernel_rfl) rfl (fun Kk hKk=>?_)
 go_wp2_with fail
 refine hKk.out _ _ (fun h=>Bool.noConfusion (show true=false from h)) ?_;clear hKk Kk;simp only [sx0,sx1,sx2];refine anyK_done (by kernel_rfl) ?_ _;obtain ⟨B,hB⟩:∃ B,w2.heap.size=B:=⟨_,rfl⟩;obtain ⟨W3,hW3⟩:∃ V,w2.alloc (.cells #[.int .i64 (n:Int),.slice a' k c',.slice none 0 0] 168)=V:=⟨_,rfl⟩
 have hrowB:W3.heap[B]?=some (.cells #[.int .i64 (n:Int),.slice a' k c',.slice none 0 0] 168 (0,0)):=by rw [<-hW3,<-hB];exact heap_alloc_new w2 _
 have hs3:W3.heap.size=B+1:=by rw [<-hW3,<-hB];simp
 have hE23:Ext w2 W3:=by rw [<-hW3];exact ext_al _ _
 rw [hW3] at E3;rw [hW3,hB]
 have hHB:H<B:=by rw [<-hB];exact Nat.lt_of_lt_of_le HF.out.lt E2.size
 have hwH:w.heap.size<=H:=Nat.le_of_eq HH.out
 have hS:∃ g,HmS w W3 (B+1) B g n k a' c' l (.slice none 0 0) []:=by
  rcases Hg.out with h0 | ⟨g,e1,e2,e3⟩
  ·exact ⟨H,HE0.out.trans E3,hrowB,Hlen.out,Or.inl h0,OpsO.nil _ _,by omega,by omega,by omega,by omega,by omega,by omega⟩
  ·have hgl:=e3.lt
   rw [Hl.out] at e3;have hgw:w.heap.size<=g:=Nat.le_trans HE0.out.size e2;exact ⟨g,HE0.out.trans E3,hrowB,Hlen.out,Or.inr ⟨e1,e3.ext hE23⟩,OpsO.nil _ _,by omega,by omega,hgw,by omega,by omega,by omega⟩
 obtain ⟨g,hS⟩:=hS;have HS:=Lh hS;have hx1:=hS.x1;clear hS hE23 E3 E2 hd0 hrowB hs3 hW3 hHB hwH Hg HSt hB
 go_wp2_with fail
 go_loopg [17] k (fun kk s17 wr=>∃ (i:Nat) (v1:Value),s17=.int .i64 (i:Int)/\i<=k/\k-i=kk/\HmS w wr (B+1) B g n k a' c' (l.map (actL (wayL n l i))) v1 (wayL n l i))
 case atStart=>exact ⟨0,_,rfl,Nat.zero_le _,rfl,by rw [show wayL n l 0=[] from rfl,show actL []=fun p=>p from rfl,List.map_id'];exact HS.out⟩
 case round =>
  obtain ⟨i,v1,rfl,hi,hkk,hS⟩:=hrel;have Hkk:=Lh hkk;have HS:=Lh hS
  by_cases hik:i=k
  ·have p1:¬ (i:Int)<(k:Int):=by omega
   rw [hik] at HS;have hx2:=HS.out.x2;clear hkk hS hi hik hx1
   go_wp2_with fail
   go_ret
   exact ⟨v1,B+1,rfl,HS.out.e,HS.out.os⟩
  have hlt:i<k:=by omega
  have p1:(i:Int)<(k:Int):=by omega
  have i0:(0:Int)<=(i:Int):=by omega
  have wi:IntKind.i64.wrap ((i:Int)+1)=((i+1:Nat):Int):=by rw [IntKind.wrap_i64];have:=Hn.out;have:=Hkn.out;omega
  obtain ⟨h1,h2⟩:=Hway.out i (by rw [Hlen.out];omega);obtain ⟨g1,g2,_,_⟩:=Hstep.out i h1 h2 (by rw [Hlen.out];exact hlt)
  have hFl:(wayL n l i).length<=500:=by
   have h3:=wayL_len n l i;have h4:i*(3*n+2)<=12*38:=Nat.mul_le_mul (by have:=Hn.out;have:=Hkn.out;omega) (by have:=Hn.out;omega);omega
  obtain ⟨pp,hpp⟩:∃ p,l[i]?=some p:=⟨_,List.getElem?_eq_getElem (by rw [Hlen.out];exact hlt)⟩
  have hgd:l.getD i ⟨0,0,false⟩=pp:=by rw [List.getD_eq_getElem?_getD,hpp];rfl
  have hw1:wayL n l (i+1)=wayL n l i++wayS n i (actL (wayL n l i) pp):=by rw [<-hgd];rfl
  rw [hgd] at g1 g2;obtain ⟨F,hF⟩:∃ F,wayL n l i=F:=⟨_,rfl⟩;rw [hF] at hw1 g1 g2 h1 hFl HS;obtain ⟨p,hp⟩:∃ p,actL F pp=p:=⟨_,rfl⟩;rw [hp] at hw1 g1 g2
  have hpi:(l.map (actL F))[i]?=some p:=by rw [List.getElem?_map,hpp,<-hp];rfl
  have hok1:=list_ok (by have:=Hn.out;omega) h1 Hok.out;have hTok:=tzL_ok (n:=n) (n-i) i p (by have:=Hkn.out;omega);have hTl:=tzL_len (n-i) i p;have hok2:=list_ok (by have:=Hn.out;omega) hTok hok1;have hGl:=gaS_len n i (actL (tzL (n-i) i p) p)
  have hpi2:((l.map (actL F)).map (actL (tzL (n-i) i p)))[i]?=some (actL (tzL (n-i) i p) p):=by rw [List.getElem?_map,hpi];rfl
  have HTz:=Lh (turnToZ_any HS.out (by have:=Hn.out;omega) (by have:=Hn.out;have:=Hkn.out;omega) hok1 (by omega) hpi (by have:=Hkn.out;omega));have HGa:=Lh (fun wx v (h:HmS w wx (B+1) B g n k a' c' ((l.map (actL F)).map (actL (tzL (n-i) i p))) v (F++tzL (n-i) i p))=>gather_any h (by have:=Hn.out;omega) (by have:=Hn.out;have:=Hkn.out;omega) hok2 (by rw [List.length_append];have:=Hn.out;omega) hpi2 (by have:=Hkn.out;omega) g1);unfold wayS at hw1 g2;obtain ⟨T,hT⟩:∃ T,tzL (n-i) i p=T:=⟨_,rfl⟩;rw [hT] at hw1 g2 hTl hGl hpi2 HTz HGa hok2 hTok;obtain ⟨q1,hq1⟩:∃ q,actL T p=q:=⟨_,rfl⟩;rw [hq1] at hw1 g2 hGl hpi2 HGa;obtain ⟨G,hGe⟩:∃ G,gaS n i q1=G:=⟨_,rfl⟩;rw [hGe] at hw1 g2 hGl HGa
  have hpi3:(((l.map (actL F)).map (actL T)).map (actL G))[i]?=some (actL G q1):=by rw [List.getElem?_map,hpi2];rfl
  obtain ⟨q2,hq2⟩:∃ q,actL G q1=q:=⟨_,rfl⟩;rw [hq2] at hw1 g2 hpi3;have hok3:=list_ok (by have:=Hn.out;omega) (fun o ho=>g2 o (List.mem_append_right _ (List.mem_append_left _ ho))) hok2;have HX:=Lh (fun wx v (h:HmS w wx (B+1) B g n k a' c' (((l.map (actL F)).map (actL T)).map (actL G)) v ((F++T)++G))=>do_any h (by have:=Hn.out;omega) (by have:=Hn.out;have:=Hkn.out;omega) hok3 (by rw [List.length_append,List.length_append];have:=Hn.out;omega) (.x (q:=i) (by have:=Hkn.out;omega)) none 0 0 none 0 0 (nilO wx rfl rfl));have Hw1:=Lh hw1;have Hpi3:=Lh hpi3;have Hlt:=Lh hlt;clear hkk hS hi hik hlt h1 h2 g1 g2 hFl hpp hgd hw1 hF hp hpi hok1 hTok hTl hok2 hGl hpi2 hT hq1 hGe hpi3 hq2 hok3 hx1
  go_wp2_with fail
  refine HTz.out.mono ?_;rintro e w5 ⟨⟨x5,rfl⟩,v5,hS5⟩;have HGa5:=Lh (HGa.out w5 v5 hS5);clear hS5 HGa HTz
  go_wp2_with fail
  refine HGa5.out.mono ?_;rintro e w6 ⟨⟨x6,rfl⟩,v6,hS6⟩;have HS6:=Lh hS6;obtain ⟨hag,hGn,_⟩:=hS6.at Hpi3.out;obtain ⟨_,_,e2⟩:=hGn.c i _ Hpi3.out;have hx1:=hS6.x1;have Hag:=Lh hag;rw [hag] at hx1;clear hS6 HGa5 hag hGn
  cases hm:q2.m with
  | false =>
   rw [hm] at e2;have Hm:=Lh hm;clear hm
   go_wp2_with fail
   go_roundg (k-(i+1))
   case measure=>have:=Hkk.out;have:=Hlt.out;omega
   case rel =>
    refine ⟨i+1,v6,rfl,Hlt.out,rfl,?_⟩
    have e3:wayL n l (i+1)=(F++T)++G:=by rw [Hw1.out];unfold mnS;rw [if_neg (by rw [Hm.out];decide),List.append_nil,List.append_assoc]
    rw [e3,<-map_app,<-map_app];exact HS6.out
  | true =>
   rw [hm] at e2;have Hm:=Lh hm;have HX6:=Lh (show Calls Tryz.prog 118 #[.pointer (some ⟨B,0,none⟩),.agg #[.int .i64 2,.int .i64 0,.slice none 0 0,.int .i64 (i:Int),.int .i64 0,.slice none 0 0]] w6 _ from HX.out w6 v6 HS6.out);clear hm
   go_wp2_with fail
   refine HX6.out.mono ?_;rintro e w7 ⟨⟨x7,rfl⟩,v7,hS7⟩;have HS7:=Lh hS7;clear hS7 HX6 e2 hx1
   go_wp2_with fail
   go_roundg (k-(i+1))
   case measure=>have:=Hkk.out;have:=Hlt.out;omega
   case rel =>
    refine ⟨i+1,v7,rfl,Hlt.out,rfl,?_⟩
    have e3:wayL n l (i+1)=((F++T)++G)++[wX i]:=by rw [Hw1.out];unfold mnS;rw [if_pos Hm.out,List.append_assoc,List.append_assoc]
    rw [e3,<-map_app,<-map_app,<-map_app];exact HS7.out
theorem par_pc:∀ f v,par f v=decide (pcF f v % 2=1)
 | 0,_=>rfl
 | f+1,v=>by
  rw [par,pcF,par_pc f]
  have h:v % 2=0\/v % 2=1:=by omega
  rcases h with h | h<;>rw [h]
  ·simp
  ·have h2:pcF f (v / 2) % 2=0\/pcF f (v / 2) % 2=1:=by omega
   rcases h2 with h2 | h2
   ·rw [h2,decide_eq_true (show (1+pcF f (v / 2)) % 2=1 by omega)];rfl
   ·rw [h2,decide_eq_false (show ¬ (1+pcF f (v / 2)) % 2=1 by omega)];rfl
theorem ant_cm (p q:PK):ant (toQ p) (toQ q)=!(cmB p q):=by
 rw [ant_word,par_pc];unfold cmB;rw [Int.tmod_eq_emod_of_nonneg (by omega)]
 show decide (pcF 16 ((p.x &&& q.z) ^^^ (p.z &&& q.x)) % 2=1)=_
 generalize pcF 16 ((p.x &&& q.z) ^^^ (p.z &&& q.x))=m
 have h2:m % 2=0\/m % 2=1:=by omega
 rcases h2 with h2 | h2
 ·rw [decide_eq_false (by omega),show (((m:Nat):Int) % 2 == 0)=true from beq_iff_eq.2 (by omega)];rfl
 ·rw [decide_eq_true h2,show (((m:Nat):Int) % 2 == 0)=false from beq_eq_false_iff_ne.2 (by omega)];rfl
theorem ant_comm (p r:QP):ant p r=ant r p:=by
 unfold ant;rw [Nat.and_comm p.x,Nat.and_comm p.z,Bool.xor_comm]
theorem ant_self (p:QP):ant p p=false:=by
 unfold ant;rw [Nat.and_comm p.z,Bool.xor_self]
theorem gs_zero (l:List PK):∀ i,(0,0) ∈ gsL (l.take i)
 | 0=>by simp [gsL]
 | i+1=>by
  rw [List.take_add_one]
  cases h:l[i]? with
  | none=>rw [Option.toList_none,List.append_nil];exact gs_zero l i
  | some g=>rw [Option.toList_some,gsL_snoc];exact List.mem_append_left _ (gs_zero l i)
theorem gs_add (l:List PK):∀ (i:Nat) (g:PK),g ∈ l.take i->∀ x z,(x,z) ∈ gsL (l.take i)->(x ^^^ g.x,z ^^^ g.z) ∈ gsL (l.take i)
 | 0,g,hg,_,_,_=>by simp at hg
 | i+1,g,hg,x,z,h=>by
  rw [List.take_add_one] at hg h ⊢
  cases e:l[i]? with
  | none =>
   rw [e,Option.toList_none,List.append_nil] at hg h;rw [Option.toList_none,List.append_nil];exact gs_add l i g hg x z h
  | some a =>
   rw [e,Option.toList_some] at hg h;rw [Option.toList_some];rw [gsL_snoc] at h ⊢
   rcases List.mem_append.1 hg with hg | hg
   ·rcases List.mem_append.1 h with h | h
    ·exact List.mem_append_left _ (gs_add l i g hg x z h)
    ·obtain ⟨q,hq,hqe⟩:=List.mem_map.1 h
     injection hqe with e1 e2;subst e1 e2;refine List.mem_append_right _ (List.mem_map.2 ⟨_,gs_add l i g hg q.1 q.2 hq,?_⟩);rw [Nat.xor_assoc,Nat.xor_comm g.x,<-Nat.xor_assoc,Nat.xor_assoc q.2,Nat.xor_comm g.z,<-Nat.xor_assoc]
   ·rw [List.mem_singleton.1 hg]
    rcases List.mem_append.1 h with h | h
    ·exact List.mem_append_right _ (List.mem_map.2 ⟨_,h,rfl⟩)
    ·obtain ⟨q,hq,hqe⟩:=List.mem_map.1 h
     injection hqe with e1 e2;subst e1 e2;rw [Nat.xor_assoc,Nat.xor_self,Nat.xor_zero,Nat.xor_assoc,Nat.xor_self,Nat.xor_zero];exact List.mem_append_left _ hq
theorem ins_gs (l:List PK) (i:Nat) {x z:Nat} (h:InS ((l.map toQ).take i) x z):(x,z) ∈ gsL (l.take i):=by
 induction h with
 | zero=>exact gs_zero l i
 | add hp _ ih =>
  rw [<-List.map_take] at hp;obtain ⟨g,hg,rfl⟩:=List.mem_map.1 hp;exact gs_add l i g hg _ _ ih
theorem good_code {N:Int} {gens:List (List UInt8)} (h:(ccF N gens).1=0):GoodL N.toNat ((psL N.toNat gens).map toQ):=by
 obtain ⟨h1,h12,hkN,hall⟩:=cc_zero h
 have hn:N.toNat<=12:=by omega
 rw [<-rd_cc] at h;unfold rdF at h;rw [if_neg (by omega),if_neg (by omega)] at h
 have hpb:¬ pbI N.toNat gens≠-1:=fun e=>by rw [if_pos e] at h;exact absurd h (by show ¬ (33:Int)=0;decide)
 rw [if_neg hpb] at h
 have hap:¬ 0<=apI (psL N.toNat gens):=fun e=>by rw [if_pos e] at h;exact absurd h (by show ¬ (34:Int)=0;decide)
 rw [if_neg hap] at h
 have hdp:¬ 0<=dpI (psL N.toNat gens):=fun e=>by rw [if_pos e] at h;exact absurd h (by show ¬ (35:Int)=0;decide)
 have ha:∀ j,j<(psL N.toNat gens).length->apAt (psL N.toNat gens) j=false:=fun j hj=>by
  refine fstI_ne _ (psL N.toNat gens).length 0 ?_ j (by omega) (by omega)
  rcases fstI_sign (apAt (psL N.toNat gens)) (psL N.toNat gens).length 0 with e | e
  ·exact e
  ·exact absurd e hap
 have hd:∀ j,j<(psL N.toNat gens).length->dpAt (psL N.toNat gens) j=false:=fun j hj=>by
  refine fstI_ne _ (psL N.toNat gens).length 0 ?_ j (by omega) (by omega)
  rcases fstI_sign (dpAt (psL N.toNat gens)) (psL N.toNat gens).length 0 with e | e
  ·exact e
  ·exact absurd e hdp
 have hfit:∀ p ∈ (psL N.toNat gens).map toQ,p.x<2 ^ N.toNat/\p.z<2 ^ N.toNat:=fun p hp=>by
  obtain ⟨a,haa,rfl⟩:=List.mem_map.1 hp;obtain ⟨T,hT,rfl⟩:=List.mem_map.1 haa;obtain ⟨e1,e2,_⟩:=pkO_is hn T;have hi:=hall T hT;have hl:(T.drop 1).length=N.toNat:=(isP_let hi).2.1
  show (pkO N.toNat T).x<_/\(pkO N.toNat T).z<_
  rw [e1,e2];unfold paX paZ;rw [if_pos hi,if_pos hi,<-hl];exact ⟨nX_lt _,nZz_lt _⟩
 obtain ⟨l,hl⟩:∃ l,psL N.toNat gens=l:=⟨_,rfl⟩
 have hll:l.length=gens.length:=by rw [<-hl];unfold psL;rw [List.length_map]
 rw [hl] at ha hd hfit ⊢;refine ⟨by rw [List.length_map];omega,hfit,fun a hai b hbi=>?_,fun i p hp hin=>?_⟩
 ·obtain ⟨pa,hpa,rfl⟩:=List.mem_map.1 hai
  obtain ⟨pb,hpb',rfl⟩:=List.mem_map.1 hbi;obtain ⟨i,hi⟩:=List.mem_iff_getElem?.1 hpa;obtain ⟨j,hj⟩:=List.mem_iff_getElem?.1 hpb'
  have key:∀ (i j:Nat) (p q:PK),l[i]?=some p->l[j]?=some q->i<j->ant (toQ p) (toQ q)=false:=fun i j p q hi hj hij=>by
   have hjl:=(List.getElem?_eq_some_iff.1 hj).1;have h9:=ha j hjl;unfold apAt at h9;rw [hj] at h9;simp only at h9;rw [List.any_eq_false] at h9;have h8:=h9 p (List.mem_of_getElem? (i:=i) (by rw [List.getElem?_take,if_pos hij];exact hi));rw [ant_cm]
   simpa using h8
  rcases Nat.lt_trichotomy i j with e | e | e
  ·exact key i j pa pb hi hj e
  ·subst e
   rw [hi] at hj
   cases hj
   exact ant_self _
  ·rw [ant_comm]
   exact key j i pb pa hj hi e
 ·rw [List.getElem?_map] at hp
  obtain ⟨q,hq,rfl⟩:=Option.map_eq_some_iff.1 hp;have hil:=(List.getElem?_eq_some_iff.1 hq).1;have h9:=hd i hil;unfold dpAt at h9;rw [hq] at h9;simp only at h9;exact of_decide_eq_false h9 (ins_gs l i hin)
theorem way_code {n:Nat} (_:n<=12) {o:Gop} (ho:WOk n o):opCode o (n:Int) 0=0/\o.kind<5/\o.cnd=[]:=by
 cases ho with
 | @x q h =>
  refine ⟨?_,by show (2:Int)<5;decide,rfl⟩
  have h1:below (q:Int) (n:Int)=true:=by unfold below;rw [decide_eq_true (by omega),decide_eq_true (by omega)];rfl
  simp [opCode,wX,fitsB,usesK,usesQ,usesC,usesB,ctlCode,cndOk,h1]
 | @cx q c h h2 h3 =>
  refine ⟨?_,by show (2:Int)<5;decide,rfl⟩
  have h1:below (q:Int) (n:Int)=true:=by unfold below;rw [decide_eq_true (by omega),decide_eq_true (by omega)];rfl
  have h4:below (c:Int) (n:Int)=true:=by unfold below;rw [decide_eq_true (by omega),decide_eq_true (by omega)];rfl
  have h5:¬ (c:Int)=(q:Int):=by omega
  simp [opCode,wCX,fitsB,usesK,usesQ,usesC,usesB,ctlCode,cndOk,h1,h4,h5]
 | @h q h =>
  refine ⟨?_,by show (3:Int)<5;decide,rfl⟩
  have h1:below (q:Int) (n:Int)=true:=by unfold below;rw [decide_eq_true (by omega),decide_eq_true (by omega)];rfl
  simp [opCode,wH,fitsB,usesK,usesQ,usesC,usesB,ctlCode,cndOk,h1]
 | @p q k h hk =>
  refine ⟨?_,by show (4:Int)<5;decide,rfl⟩
  rcases hk with rfl | rfl<;>simp [opCode,wP,fitsB,usesK,usesQ,usesC,usesB,ctlCode,cndOk,below,h]
theorem way_pur {n:Nat} (h1:1<=n) (hn:n<=12) {ops:List Gop} (ho:∀ o ∈ ops,WOk n o) (hl:ops.length<=4096):pur ⟨(n:Int),0,ops⟩=(0,0):=by
 have hops:∀ (l:List Gop) (i:Nat),(∀ o ∈ l,WOk n o)->opsCode (n:Int) 0 i l=(0,0):=by
  intro l
  induction l with
  | nil=>intro i _;rfl
  | cons o r ih=>intro i h;rw [opsCode,if_neg (by rw [(way_code hn (h o (by simp))).1];decide)];exact ih _ fun x hx=>h x (List.mem_cons_of_mem _ hx)
 have hpf:∀ (l:List Gop) (i:Nat),(∀ o ∈ l,WOk n o)->purF i l=(0,0):=by
  intro l
  induction l with
  | nil=>intro i _;rfl
  | cons o r ih =>
   intro i h;have hw:=way_code hn (h o (by simp));rw [purF,if_neg (by rw [hw.2.2];have:=hw.2.1;simp;omega)]
   exact ih _ fun x hx=>h x (List.mem_cons_of_mem _ hx)
 have hck:chk ⟨(n:Int),0,ops⟩=(0,0):=by
  unfold chk;simp only;rw [if_neg (by omega),if_neg (by omega),if_neg (by omega)];exact hops ops 0 ho
 unfold pur;rw [hck];exact hpf ops 0 ho
theorem cic_info:(Tryz.prog.info? 24).map (·.size)=some 3:=by kernel_rfl
def wayC (n:Nat) (gens:List (List UInt8)):List Gop:=wayL n ((psL n gens).map toQ) gens.length
theorem wayC_ok {n:Nat} {gens:List (List UInt8)} (h:(ccF (n:Int) gens).1=0):(∀ o ∈ wayC n gens,WOk n o)/\(wayC n gens).length<=gens.length*(3*n+2):=by
 have hG:=good_code h;rw [Int.toNat_natCast] at hG;obtain ⟨_,h12,_,_⟩:=cc_zero h;exact ⟨(way_home (by omega) hG gens.length (by rw [List.length_map];unfold psL;rw [List.length_map];exact Nat.le_refl _)).1,wayL_len _ _ _⟩
theorem Encoder_bad (N:Int) (gens:List (List UInt8)) (ao:Option Addr) (k c:Nat) (w:World) (hG:StrsAt w ao k gens) (hT:∀ T ∈ gens,T.length<=9223372036854775807) (hk9:k<=9223372036854775806) (hz:¬ (ccF N gens).1=0) :
  Calls Tryz.prog 30 #[.agg #[.int .i64 N,.slice ao k c]] w fun e w'=>e=.returned (.tuple #[.agg #[.int .i64 0,.int .i64 0,.slice none 0 0],.agg #[.int .i64 (ccF N gens).1,.int .i64 (ccF N gens).2]])/\Ext w w':=by
 obtain ⟨H,hH⟩:∃ H,w.heap.size=H:=⟨_,rfl⟩;obtain ⟨W0,hW0⟩:∃ W0,((w.alloc (.cells #[.int .i64 N,.slice ao k c] 59)).alloc (.cells #[.int .i64 0,.int .i64 0,.slice none 0 0] 24)).alloc (.cells #[.int .i64 0,.int .i64 0] 29)=W0:=⟨_,rfl⟩
 have E0:Ext w W0:=by rw [<-hW0];exact ((ext_al w _).trans (ext_al _ _)).trans (ext_al _ _)
 have C0:CoB W0 H N ao k c:=by rw [<-hW0,<-hH];exact ((CoB.new w _ _ _ _).ext (ext_al _ _)).ext (ext_al _ _)
 have s1:(w.alloc (.cells #[.int .i64 N,.slice ao k c] 59)).heap.size=H+1:=by rw [<-hH];simp
 have s2:((w.alloc (.cells #[.int .i64 N,.slice ao k c] 59)).alloc (.cells #[.int .i64 0,.int .i64 0,.slice none 0 0] 24)).heap.size=H+2:=by rw [World.size_alloc,s1]
 have R0:CiB W0 (H+1) 0 0 none 0 0:=by rw [<-hW0,<-s1];exact CiB.ext ⟨heap_alloc_new _ _⟩ (ext_al _ _)
 have bF:FtB W0 (H+2) 0 0:=⟨by rw [<-hW0,<-s2];exact heap_alloc_new _ _⟩;have HRd:=Lh (read_any N gens ao k c W0 (hG.ext E0) hT hk9);unfold RdP at HRd;rw [rd_cc] at HRd;obtain ⟨F,hF⟩:∃ F,ccF N gens=F:=⟨_,rfl⟩;obtain ⟨F0,F1⟩:=F;have Hcc:=Lh hF;have Hlk:=Lh (show gens.length=k from hG.1);rw [hF] at HRd hz ⊢;simp only at HRd hz ⊢;have HE0:=Lh E0;have HFt:=Lh bF;have HRt:=Lh R0;have HC:=Lh C0;have HW0:=Lh hW0;have HH:=Lh hH;have Hz:=Lh hz;have HwH:=Lh (show w.heap.size<=H+1/\w.heap.size<=H+2 by omega);have v0:=C0.x0;have v1:=C0.x1;clear hG hT hk9 hH hW0 E0 C0 bF R0 hF s1 s2 hz
 go_enter Tryz.func30,Tryz.ntmps30
 go_upto_region 1 with fail
 rw [HW0.out,HH.out]
 go_wp2_with fail
 refine HRd.out.mono ?_;rintro e w1 ⟨N',a,n,c',mp,rfl,hx1,hrd⟩;obtain ⟨U,hU⟩:∃ U,(w1.alloc (.cells #[.int .i64 N',.slice a n c',.map mp] 115)).alloc (.cells #[.int .i64 F0,.int .i64 F1] 29)=U:=⟨_,rfl⟩;obtain ⟨K,hK⟩:∃ K,w1.heap.size=K:=⟨_,rfl⟩
 have E1U:Ext w1 U:=by rw [<-hU];exact (ext_al _ _).trans (ext_al _ _)
 have EU:Ext W0 U:=hx1.trans E1U
 have fU:FrB U K N' a n c' mp:=by rw [<-hU,<-hK];exact (FrB.new _ _ _ _ _ _).ext (ext_al _ _)
 have bU:FtB U (K+1) F0 F1:=⟨by
  have:=heap_alloc_new (w1.alloc (.cells #[.int .i64 N',.slice a n c',.map mp] 115)) (.cells #[.int .i64 F0,.int .i64 F1] 29);rw [<-hU,<-hK]
  simpa using this⟩
 have hKH:H+2<K:=by rw [<-hK];exact Nat.lt_of_lt_of_le HFt.out.lt hx1.size
 have HKH:=Lh hKH;have HU:=Lh hU;have HK:=Lh hK;have HEU:=Lh EU;have Hrd:=Lh hrd;have HE1U:=Lh E1U
 have e1:¬ K=H:=by omega
 have e2:¬ H=K:=by omega
 have e3:¬ K=H+1:=by omega
 have e4:¬ H+1=K:=by omega
 have e5:¬ K=H+2:=by omega
 have e6:¬ H+2=K:=by omega
 clear hKH;have u0:=bU.x0;have u1:=bU.x1;have f0:=fU.x0;have f1:=fU.x1;have f2:=fU.x2;have d0:=(HC.out.ext EU).x0;have Hbz:=Lh (HFt.out.ext EU);have Hrz:=Lh (HRt.out.ext EU);have HEy:=Lh (HE0.out.trans EU);have HbU:=Lh bU;have HfU:=Lh fU;clear hx1 hU hK EU bU fU v0 v1 HRd hrd E1U
 go_upto_region 2 with fail
 rw [HU.out,HK.out];clear HU HK;have hcb:=bf Hz.out
 have hcb2:((F0:Int) != 0)=true:=by rw [bne,hcb];rfl
 have HSj:=Lh (fun (w':World) (hx:Ext U w')=>(show w'.cell? ⟨H,0,none⟩=some (.int .i64 N)/\w'.cell? ⟨K,0,none⟩=some (.int .i64 N')/\w'.cell? ⟨K,1,none⟩=some (.slice a n c')/\w'.cell? ⟨K,2,none⟩=some (.map mp)/\w'.cell? ⟨K+1,0,none⟩=some (.int .i64 F0)/\w'.cell? ⟨K+1,1,none⟩=some (.int .i64 F1) from ⟨cell_ext d0 hx,cell_ext f0 hx,cell_ext f1 hx,cell_ext f2 hx,cell_ext u0 hx,cell_ext u1 hx⟩))
 have HSl:=Lh (fun (wy:World) (w':World) (hy:Ext U wy) (hO:Only (H+1) wy w')=>(show w'.cell? ⟨H,0,none⟩=some (.int .i64 N)/\w'.cell? ⟨K,0,none⟩=some (.int .i64 N')/\w'.cell? ⟨K,1,none⟩=some (.slice a n c')/\w'.cell? ⟨K,2,none⟩=some (.map mp)/\w'.cell? ⟨K+1,0,none⟩=some (.int .i64 F0)/\w'.cell? ⟨K+1,1,none⟩=some (.int .i64 F1) from (by
  have hc:∀ g o',g≠H+1->w'.cell? ⟨g,o',none⟩=wy.cell? ⟨g,o',none⟩:=fun g o' hg=>World.cell?_of_block (a:=⟨g,o',none⟩) (hO.block g hg)
  have hK:=HKH.out
  exact ⟨(hc H 0 (by omega)).trans (cell_ext d0 hy),(hc K 0 e3).trans (cell_ext f0 hy),(hc K 1 e3).trans (cell_ext f1 hy),(hc K 2 e3).trans (cell_ext f2 hy),(hc (K+1) 0 (by omega)).trans (cell_ext u0 hy),(hc (K+1) 1 (by omega)).trans (cell_ext u1 hy)⟩)))
 go_upto_region 3 with fail
 have G_:Ext U U.drew:=Below.drew (Ext.refl _);refine wp_region_K 3 (fun w'=>w'.cell? ⟨H,0,none⟩=some (.int .i64 N)/\w'.cell? ⟨K,0,none⟩=some (.int .i64 N')/\w'.cell? ⟨K,1,none⟩=some (.slice a n c')/\w'.cell? ⟨K,2,none⟩=some (.map mp)/\w'.cell? ⟨K+1,0,none⟩=some (.int .i64 F0)/\w'.cell? ⟨K+1,1,none⟩=some (.int .i64 F1)) (by kernel_rfl) ?_
 show anyK _ _ _ _ _ _ 4 #[false,false,false,false] _ _
 refine kT 0 4 (v:=?_) rfl (Or.inl ⟨by rfl,?_⟩) (HSj.out _ G_) ?_;rotate_left 1
 ·intro w hSw
  go_simp
  try with_reducible rfl
 show anyK _ _ _ _ _ _ _ _ (Act.put _ (some 14) _) _
 simp only [Act.put,sx0,sx1,sx2];refine kT 1 4 (v:=?_) rfl (Or.inl ⟨by rfl,?_⟩) (HSj.out _ G_) ?_;rotate_left 1
 ·intro w hSw
  go_simp
  try with_reducible rfl
 show anyK _ _ _ _ _ _ _ _ (Act.put _ (some 15) _) _
 simp only [Act.put,sx0,sx1,sx2];refine anyK_one (i:=2) (by kernel_rfl) rfl (fun Kk hKk=>?_);refine stepK_storeRowC rfl rfl 24 _ _ rfl (H+1) #[.int .i64 0,.int .i64 0,.slice none 0 0] rfl rfl 24 _ (Hrz.out.ext G_).row cic_info rfl (by kernel_rfl) ?_;have on1:=setRow_onlyC U.drew (H+1) #[.int .i64 0,.int .i64 0,.slice none 0 0];refine hKk.out _ _ (fun _=>HSl.out _ _ G_ on1) ?_;clear hKk Kk;simp only [sx0,sx1,sx2];have b2:=(on1.block (H+2) (by omega)).trans (Hbz.out.ext G_).row;refine anyK_one (i:=3) (by kernel_rfl) rfl (fun Kk hKk=>?_);refine stepK_storeRowC rfl rfl 29 _ _ rfl (H+2) #[.int .i64 F0,.int .i64 F1] rfl rfl 29 _ b2 ftc_info rfl (by kernel_rfl) ?_;refine hKk.out _ _ (fun h=>Bool.noConfusion (show true=false from h)) ?_;clear hKk Kk;simp only [sx0,sx1,sx2];refine anyK_done (by kernel_rfl) ?_ _;have on2:=setRow_onlyC (U.drew.setRow (H+1) #[.int .i64 0,.int .i64 0,.slice none 0 0]) (H+2) #[.int .i64 F0,.int .i64 F1];have Hr1:=Lh ((on2.block (H+1) (by omega)).trans (setRow_heap U.drew (H+1) _ #[.int .i64 0,.int .i64 0,.slice none 0 0] _ _ (Hrz.out.ext G_).row));have Hr2:=Lh (setRow_heap (U.drew.setRow (H+1) #[.int .i64 0,.int .i64 0,.slice none 0 0]) (H+2) _ #[.int .i64 F0,.int .i64 F1] _ _ b2);have HEz:=Lh (ext_onlyC (ext_onlyC (HEy.out.trans G_) on1 HwH.out.1) on2 HwH.out.2);generalize ((U.drew.setRow (H+1) #[.int .i64 0,.int .i64 0,.slice none 0 0]).setRow (H+2) #[.int .i64 F0,.int .i64 F1])=WF at *;clear on1 on2 b2 HSj HSl f0 f1 f2 u0 u1 d0
 go_wp2_with fail
 refine bodyPost_ret (v:=.tuple #[.agg #[.int .i64 0,.int .i64 0,.slice none 0 0],.agg #[.int .i64 F0,.int .i64 F1]]) ?_ rfl ⟨rfl,HEz.out⟩;exact results_two2 rfl _ _ (H+1) (H+2) _ _ _ _ _ _ _ _ rfl Hr1.out Tryz.underlying24 rfl cic_info rfl Hr2.out Tryz.underlying29 rfl ftc_info
def EnR (n:Nat) (gens:List (List UInt8)) (w:World) (e:Ending) (w':World):Prop:=∃ (a:Option Addr) (m c:Nat),e=.returned (.tuple #[.agg #[.int .i64 (n:Int),.int .i64 0,.slice a m c],.agg #[.int .i64 0,.int .i64 0]])/\m<=c/\c<=9223372036854775807/\OpsAt w' a m (invO (wayC n gens))/\Ext w w'
theorem Encoder_good (N:Int) (gens:List (List UInt8)) (ao:Option Addr) (k c:Nat) (w:World) (hG:StrsAt w ao k gens) (hT:∀ T ∈ gens,T.length<=9223372036854775807) (hk9:k<=9223372036854775806) (hz:(ccF N gens).1=0) (hS:Shp w) :
  Calls Tryz.prog 30 #[.agg #[.int .i64 N,.slice ao k c]] w fun e w'=>EnR N.toNat gens w e w':=by
 obtain ⟨H,hH⟩:∃ H,w.heap.size=H:=⟨_,rfl⟩;obtain ⟨W0,hW0⟩:∃ W0,((w.alloc (.cells #[.int .i64 N,.slice ao k c] 59)).alloc (.cells #[.int .i64 0,.int .i64 0,.slice none 0 0] 24)).alloc (.cells #[.int .i64 0,.int .i64 0] 29)=W0:=⟨_,rfl⟩
 have E0:Ext w W0:=by rw [<-hW0];exact ((ext_al w _).trans (ext_al _ _)).trans (ext_al _ _)
 have C0:CoB W0 H N ao k c:=by rw [<-hW0,<-hH];exact ((CoB.new w _ _ _ _).ext (ext_al _ _)).ext (ext_al _ _)
 have s1:(w.alloc (.cells #[.int .i64 N,.slice ao k c] 59)).heap.size=H+1:=by rw [<-hH];simp
 have s2:((w.alloc (.cells #[.int .i64 N,.slice ao k c] 59)).alloc (.cells #[.int .i64 0,.int .i64 0,.slice none 0 0] 24)).heap.size=H+2:=by rw [World.size_alloc,s1]
 have R0:CiB W0 (H+1) 0 0 none 0 0:=by rw [<-hW0,<-s1];exact CiB.ext ⟨heap_alloc_new _ _⟩ (ext_al _ _)
 have bF:FtB W0 (H+2) 0 0:=⟨by rw [<-hW0,<-s2];exact heap_alloc_new _ _⟩;have HRd:=Lh (read_any N gens ao k c W0 (hG.ext E0) hT hk9);unfold RdP at HRd;rw [rd_cc] at HRd;obtain ⟨F,hF⟩:∃ F,ccF N gens=F:=⟨_,rfl⟩;obtain ⟨F0,F1⟩:=F;have Hcc:=Lh hF;have HSh:=Lh (hS.ext E0);have Hlk:=Lh (show gens.length=k from hG.1);rw [hF] at HRd hz;simp only at HRd hz;have HE0:=Lh E0;have HFt:=Lh bF;have HRt:=Lh R0;have HC:=Lh C0;have HW0:=Lh hW0;have HH:=Lh hH;have Hz:=Lh hz;have HwH:=Lh (show w.heap.size<=H+1/\w.heap.size<=H+2 by omega);have v0:=C0.x0;have v1:=C0.x1;clear hG hT hk9 hS hH hW0 E0 C0 bF R0 hF s1 s2 hz
 go_enter Tryz.func30,Tryz.ntmps30
 go_upto_region 1 with fail
 rw [HW0.out,HH.out]
 go_wp2_with fail
 refine HRd.out.mono ?_;rintro e w1 ⟨N',a,n,c',mp,rfl,hx1,hrd⟩;obtain ⟨U,hU⟩:∃ U,(w1.alloc (.cells #[.int .i64 N',.slice a n c',.map mp] 115)).alloc (.cells #[.int .i64 F0,.int .i64 F1] 29)=U:=⟨_,rfl⟩;obtain ⟨K,hK⟩:∃ K,w1.heap.size=K:=⟨_,rfl⟩
 have E1U:Ext w1 U:=by rw [<-hU];exact (ext_al _ _).trans (ext_al _ _)
 have EU:Ext W0 U:=hx1.trans E1U
 have fU:FrB U K N' a n c' mp:=by rw [<-hU,<-hK];exact (FrB.new _ _ _ _ _ _).ext (ext_al _ _)
 have bU:FtB U (K+1) F0 F1:=⟨by
  have:=heap_alloc_new (w1.alloc (.cells #[.int .i64 N',.slice a n c',.map mp] 115)) (.cells #[.int .i64 F0,.int .i64 F1] 29);rw [<-hU,<-hK]
  simpa using this⟩
 have hKH:H+2<K:=by rw [<-hK];exact Nat.lt_of_lt_of_le HFt.out.lt hx1.size
 have HKH:=Lh hKH;have HU:=Lh hU;have HK:=Lh hK;have HEU:=Lh EU;have Hrd:=Lh hrd;have HE1U:=Lh E1U
 have e1:¬ K=H:=by omega
 have e2:¬ H=K:=by omega
 have e3:¬ K=H+1:=by omega
 have e4:¬ H+1=K:=by omega
 have e5:¬ K=H+2:=by omega
 have e6:¬ H+2=K:=by omega
 clear hKH;have u0:=bU.x0;have u1:=bU.x1;have f0:=fU.x0;have f1:=fU.x1;have f2:=fU.x2;have d0:=(HC.out.ext EU).x0;have Hbz:=Lh (HFt.out.ext EU);have Hrz:=Lh (HRt.out.ext EU);have HEy:=Lh (HE0.out.trans EU);have HbU:=Lh bU;have HfU:=Lh fU;clear hx1 hU hK EU bU fU v0 v1 HRd hrd E1U
 go_upto_region 2 with fail
 rw [HU.out,HK.out];clear HU HK;obtain ⟨hN1,hN12,hkN,hall⟩:=cc_zero (N:=N) (gens:=gens) (by rw [Hcc.out];exact Hz.out);obtain ⟨nn,hnn⟩:∃ nn:Nat,N=(nn:Int):=⟨N.toNat,by omega⟩;subst hnn;rw [Int.toNat_natCast] at Hrd;have HN:=Lh (show 1<=nn/\nn<=12/\gens.length<=nn by omega)
 have hcz:(ccF (nn:Int) gens).1=0:=by rw [Hcc.out];exact Hz.out
 have hG:=good_code hcz;rw [Int.toNat_natCast] at hG;have hwok:=wayC_ok hcz
 have hwl:(wayC nn gens).length<=4096:=by
  have h2:=Nat.mul_le_mul (show gens.length<=12 by omega) (show 3*nn+2<=38 by omega);omega
 have hpur:=way_pur (by omega) HN.out.2.1 hwok.1 hwl;obtain ⟨hN',hps,hac,hcm,B,keys,hmp,hGr,hSm⟩:=Hrd.out Hz.out;subst hN';have Hps:=Lh (hps.ext HE1U.out);have HGd:=Lh hG;have Hpur:=Lh hpur;clear hN1 hN12 hkN hall hcz hG hwok hwl hpur hps hac hcm hGr hSm hmp Hrd;have hcb:=bt' Hz.out;have HSj:=Lh (fun (w':World) (hx:Ext U w')=>(show w'.cell? ⟨H,0,none⟩=some (.int .i64 (nn:Int))/\w'.cell? ⟨K,0,none⟩=some (.int .i64 (nn:Int))/\w'.cell? ⟨K,1,none⟩=some (.slice a n c')/\w'.cell? ⟨K,2,none⟩=some (.map mp)/\w'.cell? ⟨K+1,0,none⟩=some (.int .i64 F0)/\w'.cell? ⟨K+1,1,none⟩=some (.int .i64 F1) from ⟨cell_ext d0 hx,cell_ext f0 hx,cell_ext f1 hx,cell_ext f2 hx,cell_ext u0 hx,cell_ext u1 hx⟩))
 have HSl:=Lh (fun (wy:World) (w':World) (hy:Ext U wy) (hO:Only (H+1) wy w')=>(show w'.cell? ⟨H,0,none⟩=some (.int .i64 (nn:Int))/\w'.cell? ⟨K,0,none⟩=some (.int .i64 (nn:Int))/\w'.cell? ⟨K,1,none⟩=some (.slice a n c')/\w'.cell? ⟨K,2,none⟩=some (.map mp)/\w'.cell? ⟨K+1,0,none⟩=some (.int .i64 F0)/\w'.cell? ⟨K+1,1,none⟩=some (.int .i64 F1) from (by
  have hc:∀ g o',g≠H+1->w'.cell? ⟨g,o',none⟩=wy.cell? ⟨g,o',none⟩:=fun g o' hg=>World.cell?_of_block (a:=⟨g,o',none⟩) (hO.block g hg)
  have hK:=HKH.out
  exact ⟨(hc H 0 (by omega)).trans (cell_ext d0 hy),(hc K 0 e3).trans (cell_ext f0 hy),(hc K 1 e3).trans (cell_ext f1 hy),(hc K 2 e3).trans (cell_ext f2 hy),(hc (K+1) 0 (by omega)).trans (cell_ext u0 hy),(hc (K+1) 1 (by omega)).trans (cell_ext u1 hy)⟩)))
 go_upto_region 4 with fail
 have G_:Ext U U.drew:=Below.drew (Ext.refl _);refine wp_region_K 9 (fun w'=>w'.cell? ⟨H,0,none⟩=some (.int .i64 (nn:Int))/\w'.cell? ⟨K,0,none⟩=some (.int .i64 (nn:Int))/\w'.cell? ⟨K,1,none⟩=some (.slice a n c')/\w'.cell? ⟨K,2,none⟩=some (.map mp)/\w'.cell? ⟨K+1,0,none⟩=some (.int .i64 F0)/\w'.cell? ⟨K+1,1,none⟩=some (.int .i64 F1)) (by kernel_rfl) ?_
 show anyK _ _ _ _ _ _ 10 #[false,false,false,false,false,false,false,false,false,false] _ _
 refine kT 0 10 (v:=?_) rfl (Or.inl ⟨by rfl,?_⟩) (HSj.out _ G_) ?_;rotate_left 1
 ·intro w hSw
  go_simp
  try with_reducible rfl
 show anyK _ _ _ _ _ _ _ _ (Act.put _ (some 16) _) _
 simp only [Act.put,sx0,sx1,sx2];refine kT 1 10 (v:=?_) rfl (Or.inl ⟨by rfl,?_⟩) (HSj.out _ G_) ?_;rotate_left 1
 ·intro w hSw
  go_simp
  try with_reducible rfl
 show anyK _ _ _ _ _ _ _ _ (Act.put _ (some 17) _) _
 simp only [Act.put,sx0,sx1,sx2];refine kT 2 10 (v:=?_) rfl (Or.inl ⟨by rfl,?_⟩) (HSj.out _ G_) ?_;rotate_left 1
 ·intro w hSw
  go_simp
  try with_reducible rfl
 show anyK _ _ _ _ _ _ _ _ (Act.put _ (some 18) _) _
 simp only [Act.put,sx0,sx1,sx2];have HWh:=Lh (wayHome_any nn HN.out.2.1 (psL nn gens) a n c' mp U.drew (Hps.out.ext G_) HGd.out);rw [show wayL nn ((psL nn gens).map toQ) n=wayC nn gens by unfold wayC;rw [<-Hps.out.1];unfold psL;rw [List.length_map]] at HWh;refine anyK_one (i:=3) (by kernel_rfl) rfl (fun Kk hKk=>?_)
 go_simp
 (go_at_call 71;refine HWh.out.mono ?_;rintro e w2 ⟨vo,base,rfl,x2,hos⟩)
 have E2:Ext U w2:=G_.trans x2;obtain ⟨a2,c2,rfl,hmc,hcm2,hoa⟩:=hos.at;obtain ⟨m2,hm2⟩:∃ m,(wayC nn gens).length=m:=⟨_,rfl⟩;rw [hm2] at hmc hoa ⊢;have Hoa:=Lh hoa;have Hmc:=Lh (And.intro hmc hcm2);have Hm2:=Lh hm2;clear hos hmc hcm2 hoa hm2 x2 HWh
 go_wp2_with fail
 refine hKk.out _ _ (fun _=>HSj.out _ E2) ?_;clear hKk Kk;simp only [sx0,sx1,sx2];refine kT 4 10 (v:=?_) rfl (Or.inl ⟨by rfl,?_⟩) (HSj.out _ E2) ?_;rotate_left 1
 ·intro w hSw
  go_simp
  try with_reducible rfl
 show anyK _ _ _ _ _ _ _ _ (Act.put _ (some 20) _) _
 simp only [Act.put,sx0,sx1,sx2];have HIn:=Lh (Inverse_N ⟨(nn:Int),0,wayC nn gens⟩ a2 m2 c2 w2 Hoa.out Hmc.out.1 (by have:=Hmc.out.2;unfold maxLen at this;omega) (HSh.out.ext (HEU.out.trans E2)) (by rw [Hpur.out]));refine anyK_one (i:=5) (by kernel_rfl) rfl (fun Kk hKk=>?_)
 go_simp
 (go_at_call 51;refine HIn.out.mono ?_;rintro e w3 ⟨⟨a3,c3,rfl,hon⟩,x3⟩)
 have E3:Ext U w3:=E2.trans x3;have Hon:=Lh hon;clear hon x3 HIn E2 G_
 go_wp2_with fail
 refine hKk.out _ _ (fun _=>HSj.out _ E3) ?_;clear hKk Kk;simp only [sx0,sx1,sx2];refine kT 6 10 (v:=?_) rfl (Or.inl ⟨by rfl,?_⟩) (HSj.out _ E3) ?_;rotate_left 1
 ·intro w hSw
  go_simp
  try with_reducible rfl
 show anyK _ _ _ _ _ _ _ _ (Act.put _ (some 22) _) _
 simp only [Act.put,sx0,sx1,sx2];refine kT 7 10 (v:=?_) rfl (Or.inl ⟨by rfl,?_⟩) (HSj.out _ E3) ?_;rotate_left 1
 ·intro w hSw
  go_simp
  try with_reducible rfl
 show anyK _ _ _ _ _ _ _ _ (Act.put _ (some 23) _) _
 simp only [Act.put,sx0,sx1,sx2];refine anyK_one (i:=8) (by kernel_rfl) rfl (fun Kk hKk=>?_);refine stepK_storeRowC rfl rfl 24 _ _ rfl (H+1) #[.int .i64 (nn:Int),.int .i64 0,.slice a3 m2 c3] rfl rfl 24 _ (Hrz.out.ext E3).row cic_info rfl (by kernel_rfl) ?_;have on1:=setRow_onlyC w3 (H+1) #[.int .i64 (nn:Int),.int .i64 0,.slice a3 m2 c3];refine hKk.out _ _ (fun _=>HSl.out _ _ E3 on1) ?_;clear hKk Kk;simp only [sx0,sx1,sx2];have b2:=(on1.block (H+2) (by omega)).trans (Hbz.out.ext E3).row;refine anyK_one (i:=9) (by kernel_rfl) rfl (fun Kk hKk=>?_);refine stepK_storeRowC rfl rfl 29 _ _ rfl (H+2) #[.int .i64 0,.int .i64 0] rfl rfl 29 _ b2 ftc_info rfl (by kernel_rfl) ?_;refine hKk.out _ _ (fun h=>Bool.noConfusion (show true=false from h)) ?_;clear hKk Kk;simp only [sx0,sx1,sx2];refine anyK_done (by kernel_rfl) ?_ _;have on2:=setRow_onlyC (w3.setRow (H+1) #[.int .i64 (nn:Int),.int .i64 0,.slice a3 m2 c3]) (H+2) #[.int .i64 0,.int .i64 0];have Hr1:=Lh ((on2.block (H+1) (by omega)).trans (setRow_heap w3 (H+1) _ #[.int .i64 (nn:Int),.int .i64 0,.slice a3 m2 c3] _ _ (Hrz.out.ext E3).row));have Hr2:=Lh (setRow_heap (w3.setRow (H+1) #[.int .i64 (nn:Int),.int .i64 0,.slice a3 m2 c3]) (H+2) _ #[.int .i64 0,.int .i64 0] _ _ b2);have HEz:=Lh (ext_onlyC (ext_onlyC (HEy.out.trans E3) on1 HwH.out.1) on2 HwH.out.2);have Hfn:=Lh ((Hon.out.far (Hrz.out.ext E3).row (by decide) (by decide) on1).far b2 (by decide) (by decide) on2);generalize ((w3.setRow (H+1) #[.int .i64 (nn:Int),.int .i64 0,.slice a3 m2 c3]).setRow (H+2) #[.int .i64 0,.int .i64 0])=WF at *;clear on1 on2 b2 HSj HSl f0 f1 f2 u0 u1 d0
 go_wp2_with fail
 obtain ⟨_,q2,q3,q4⟩:=Hfn.out.at;refine bodyPost_ret (v:=.tuple #[.agg #[.int .i64 (nn:Int),.int .i64 0,.slice a3 m2 c3],.agg #[.int .i64 0,.int .i64 0]]) ?_ rfl ⟨a3,m2,c3,rfl,q2,q3,q4,HEz.out⟩;exact results_two2 rfl _ _ (H+1) (H+2) _ _ _ _ _ _ _ _ rfl Hr1.out Tryz.underlying24 rfl cic_info rfl Hr2.out Tryz.underlying29 rfl ftc_info
theorem pTextM_any (p:PK) (hm:p.m=true) (n:Nat) (hn:n<=12) (w:World) :
  Calls Tryz.prog 61 #[pvK p,.int .i64 (n:Int)] w fun e w'=>e=.returned (.string ⟨(45 :: txL p n).toArray⟩)/\Ext w w':=by
 obtain ⟨i0,hi0,hz0,hz1,hz2⟩:=info_parts b_infoC;unfold pvK;rw [hm];obtain ⟨H,hH⟩:∃ H,w.heap.size=H:=⟨_,rfl⟩;obtain ⟨U,hU⟩:∃ U,(w.alloc (.cells #[.int .u16 (p.x:Int),.int .u16 (p.z:Int),.bool true] 103))=U:=⟨_,rfl⟩;obtain ⟨W0,hW0⟩:∃ W0,U.alloc (.cells #[.int .u8 43] 5)=W0:=⟨_,rfl⟩
 have E0:Ext w W0:=by rw [<-hW0,<-hU];exact (ext_al w _).trans (ext_al _ _)
 have sU:U.heap.size=H+1:=by rw [<-hU,<-hH];simp
 have P0:PuB W0 H p.x p.z true:=by rw [<-hW0,<-hU,<-hH];exact (PuB.new _ _ _ _).ext (ext_al _ _)
 have O0:Own W0 5 (.slice (some ⟨H+1,0,none⟩) 1 1) [43]:=by rw [<-hW0,<-sU];exact own_oneB U 43
 have r0:W0.heap[H+1]?=some (.cells #[.int .u8 43] 5 (0,0)):=by rw [<-hW0,<-sU];exact heap_alloc_new U _
 obtain ⟨W1,hW1⟩:∃ V,W0.setCell ⟨H+1,0,none⟩ (.int .u8 45)=V:=⟨_,rfl⟩
 have hO1:Only (H+1) W0 W1:=by rw [<-hW1];exact (Only.refl _ _).setCell _ _
 have r1:W1.heap[H+1]?=some (.cells #[.int .u8 45] 5 (0,0)):=by
  have:=heap_setCell_same W0 (H+1) 0 _ _ (.int .u8 45) r0;rw [hW1] at this
  simpa using this
 have E1:Ext w W1:=by rw [<-hW1];exact cput E0 (show w.heap.size<=H+1 by omega) _
 have P1:PuB W1 H p.x p.z true:=P0.only hO1 (by omega);have O1:Own W1 5 (.slice (some ⟨H+1,0,none⟩) 1 1) [45]:=Or.inr ⟨H+1,1,#[.int .u8 45],rfl,r1,Nat.le_refl _,by unfold maxLen;decide,rfl,rfl,fun u hu=>⟨45,by simpa using hu⟩⟩
 have q43:W0.cell? ⟨H+1,0,none⟩=some (.int .u8 43):=by rw [cell_of_row W0 (H+1) 0 _ _ (0,0) r0];rfl
 have f43:W0.frozen? ⟨H+1,0,none⟩=false:=frozen_of_row W0 (H+1) 0 _ _ r0;have HW1:=Lh hW1;have HE0:=Lh E1;have HU:=Lh hU;have HW0:=Lh hW0;have HH:=Lh hH;have HsU:=Lh sU;have HP:=Lh P1;have HO:=Lh O1;have Hn:=Lh hn;have HxH:=Lh (show w.heap.size<=H+1 by omega);have k2:=P0.x2;clear E0 P0 O0 hU hW0 hH sU hn hm r0 r1 hO1 E1 P1 O1 hW1
 go_enter Tryz.func61,Tryz.ntmps61
 go_upto_region 1 with fail
 rw [HU.out,HH.out]
 go_upto_region 2 with fail
 rw [HW0.out,HsU.out]
 go_upto_region 4 with fail
 rw [HW1.out];clear q43 f43
 go_wp2_with fail
 clear k2
 go_loopg [5,13] n (fun kk s5 s13 wr=>∃ i:Nat,s13=.int .i64 (i:Int)/\i<=n/\n-i=kk/\Own wr 5 s5 (45 :: txL p i)/\Apd W1 wr (.slice (some ⟨H+1,0,none⟩) 1 1) s5)
 case atStart=>exact ⟨0,rfl,Nat.zero_le _,rfl,HO.out,Apd.refl _ _⟩
 case round =>
  obtain ⟨i,rfl,hi,hkk,hO,hA⟩:=hrel;have Hkk:=Lh hkk;have HOi:=Lh hO;have HAi:=Lh hA
  by_cases hin:i=n
  ·have q1:¬ (i:Int)<(n:Int):=by omega
   subst hin;have hcv:=run_convert_ownC hO (by simp);clear hi hkk hO hA
   go_wp2_with fail
   go_ret
   have hg:=HAi.out.grown;refine ⟨rfl,ext_grownC HE0.out hg HxH.out⟩
  have hlt:i<n:=by omega
  have q1:(i:Int)<(n:Int):=by omega
  have q0:(0:Int)<=(i:Int):=by omega
  have wk:IntKind.i64.wrap ((i:Int)+1)=((i+1:Nat):Int):=by rw [IntKind.wrap_i64];have:=Hn.out;omega
  have hcast:((2 ^ i:Nat):Int)=(2:Int) ^ i:=by rw [Int.natCast_pow];rfl
  have hmin:min i 16=i:=by have:=Hn.out;omega
  obtain ⟨dx,hdx⟩:∃ d,p.x / 2 ^ i=d:=⟨_,rfl⟩;obtain ⟨dz,hdz⟩:∃ d,p.z / 2 ^ i=d:=⟨_,rfl⟩
  have bx:dx<65536:=by rw [<-hdx];exact Nat.lt_of_le_of_lt (Nat.div_le_self _ _) p.hx
  have bz:dz<65536:=by rw [<-hdz];exact Nat.lt_of_le_of_lt (Nat.div_le_self _ _) p.hz
  have r1:(p.x:Int) / 2 ^ i=(dx:Int):=by rw [<-hcast,<-Int.natCast_ediv,hdx]
  have r1':(p.x:Int) / 2 ^ min i 16=(dx:Int):=by rw [hmin];exact r1
  have s1:(p.z:Int) / 2 ^ i=(dz:Int):=by rw [<-hcast,<-Int.natCast_ediv,hdz]
  have s1':(p.z:Int) / 2 ^ min i 16=(dz:Int):=by rw [hmin];exact s1
  have r2:=and1_u16 bx;have s2:=and1_u16 bz;obtain ⟨ex,hex⟩:∃ e,dx % 2=e:=⟨_,rfl⟩;obtain ⟨ez,hez⟩:∃ e,dz % 2=e:=⟨_,rfl⟩;rw [hex] at r2;rw [hez] at s2
  have s3:IntKind.u16.wrap ((ez:Int)*2)=((ez*2:Nat):Int):=by rw [show (ez:Int)*2=((ez*2:Nat):Int) by omega];exact wrapu (by omega)
  obtain ⟨e2,he2⟩:∃ e,ez*2=e:=⟨_,rfl⟩;rw [he2] at s3;obtain ⟨k,hk⟩:∃ k,ex+e2=k:=⟨_,rfl⟩
  have r4:bits .or .u16 (ex:Int) (e2:Int)=(k:Int):=by rw [or_u16 (by omega) (by omega),<-he2,or_two (by omega) (by omega),he2,hk]
  have hk4:k<4:=by omega
  have hidx:=let4_idx k hk4
  have hltk:ltK p i=k:=by unfold ltK;rw [hdx,hdz,hex,hez,he2,hk]
  obtain ⟨b,hb⟩:∃ b,lt4 k=b:=⟨_,rfl⟩;rw [hb] at hidx;have Hst:=Lh (show 45 :: txL p (i+1)=(45 :: txL p i)++[b] by rw [txL_snoc,hltk,hb];rfl);have Hlt:=Lh hlt;have hPw:PuB wr H p.x p.z true:=⟨(hA.grown.block H (HP.out.lt) (by simp [Value.ownBlock])).trans HP.out.row⟩;have c0:=hPw.x0;have c1:=hPw.x1;clear hi hkk hin hlt hcast hmin hdx hdz bx bz hex hez he2 hk hk4 hltk hb hPw hO hA
  go_upto_region 7 with fail
  obtain ⟨v',w',hap,hown',hapd⟩:=run_append_bytes (P:=Tryz.prog) ((wr.alloc (.cells #[.int .u8 (b.toNat:Int)] 5)).drew) 152 152 5 i0 Tryz.underlying152 hi0 hz0 hz1 hz2 _ (45 :: txL p i) (HOi.out.ext (Below.drew (ext_al _ _))) ⟨wr.heap.size,0,none⟩ 1 1 [b] rfl (by decide) (fun j u hj=>by
   have hr:=((Below.drew (Ext.refl _):Ext (wr.alloc (.cells #[.int .u8 (b.toNat:Int)] 5)) _).block wr.heap.size (by simp)).trans (heap_alloc_new _ _)
   cases j with
   | zero =>
    have:Value.int .u8 (b.toNat:Int)=u:=by simpa [byC] using hj
    rw [<-this]
    show World.cell? _ ⟨wr.heap.size,0,none⟩=_
    rw [cell_of_row _ _ 0 _ _ (0,0) hr];rfl
   | succ j=>simp [byC] at hj) (by simp only [List.length_cons,List.length_nil,txL_len];have:=Hn.out;have:=Hlt.out;omega)
  have Hnew:=Lh (And.intro hown' ((HAi.out.trans (Apd.of_ext (Below.drew (ext_al _ _)) _)).trans hapd));have Hap:=Lh hap;clear hap hown' hapd
  go_region_law (refine stepB_append_run (by rfl) _ _ (by rfl) (by rfl) _ _ _ (by rfl) (by rfl) Hap.out ?_)
  all_goals
   clear Hap c0 c1 hidx r1 r1' s1 s1' r2 s2 s3 r4
   go_wp2_with fail
   go_roundg (n-(i+1))
   case measure=>have:=Hkk.out;have:=Hlt.out;omega
   case rel=>exact ⟨i+1,rfl,Hlt.out,rfl,by rw [Hst.out];exact Hnew.out.1,Hnew.out.2⟩
def txQ (n:Nat) (p:PK):List UInt8:=(if p.m then 45 else 43) :: txL p n
theorem pTextQ_any (p:PK) (n:Nat) (hn:n<=12) (w:World) :
  Calls Tryz.prog 61 #[pvK p,.int .i64 (n:Int)] w fun e w'=>e=.returned (.string ⟨(txQ n p).toArray⟩)/\Ext w w':=by
 unfold txQ
 cases h:p.m with
 | false=>exact pText_any p h n hn w
 | true=>exact pTextM_any p h n hn w
theorem nX_bitE:∀ (a:List UInt8) (i:Nat) (c:UInt8),a[i]?=some c->nX a / 2 ^ i % 2=if lx c then 1 else 0
 | [],i,c,h=>by simp at h
 | b :: r,0,c,h=>by
  have:b=c:=by simpa using h
  rw [this,nX,Nat.pow_zero,Nat.div_one]
  split<;>omega
 | b :: r,i+1,c,h=>by
  have ih:=nX_bitE r i c (by simpa using h)
  rw [nX,Nat.pow_succ,Nat.mul_comm (2 ^ i) 2,<-Nat.div_div_eq_div_mul,show ((if lx b=true then 1 else 0)+2*nX r) / 2=nX r by split<;>omega]
  exact ih
theorem nZ_bitE:∀ (a:List UInt8) (i:Nat) (c:UInt8),a[i]?=some c->nZz a / 2 ^ i % 2=if lz c then 1 else 0
 | [],i,c,h=>by simp at h
 | b :: r,0,c,h=>by
  have:b=c:=by simpa using h
  rw [this,nZz,Nat.pow_zero,Nat.div_one]
  split<;>omega
 | b :: r,i+1,c,h=>by
  have ih:=nZ_bitE r i c (by simpa using h)
  rw [nZz,Nat.pow_succ,Nat.mul_comm (2 ^ i) 2,<-Nat.div_div_eq_div_mul,show ((if lz b=true then 1 else 0)+2*nZz r) / 2=nZz r by split<;>omega]
  exact ih
def zK (i:Nat) (h:i<16):PK:=⟨0,2 ^ i,false,by decide,pow_16 h⟩
theorem enc_is {n:Nat} {gens:List (List UInt8)} (h:(ccF (n:Int) gens).1=0) {i:Nat} {T:List UInt8} (hT:gens[i]?=some T) (hi:i<16):actL (invO (wayC n gens)) (toQ (zK i hi))=toQ (pkO n T):=by
 have hG:=good_code h;rw [Int.toNat_natCast] at hG;obtain ⟨_,h12,_,_⟩:=cc_zero h;have hil:=(List.getElem?_eq_some_iff.1 hT).1;obtain ⟨w1,w2⟩:=way_home (n:=n) (by omega) hG gens.length (by rw [List.length_map];unfold psL;rw [List.length_map];exact Nat.le_refl _);have h2:=w2 i hil
 have hgd:((psL n gens).map toQ).getD i ⟨0,0,false⟩=toQ (pkO n T):=by
  rw [List.getD_eq_getElem?_getD,List.getElem?_map];unfold psL;rw [List.getElem?_map,hT]
  rfl
 rw [hgd] at h2
 show actL (invO (wayC n gens)) (zQ i)=_
 rw [<-h2];exact (undo_all w1).2 (toQ (pkO n T))
theorem cc_fst {N:Int} {gens:List (List UInt8)} (h:(ccF N gens).1=0):ccF N gens=(0,0):=by
 unfold ccF at h ⊢
 split
 ·rename_i h1;rw [if_pos h1] at h;exact absurd h (by decide)
 ·rename_i h1
  rw [if_neg h1] at h
  split
  ·rename_i h2;rw [if_pos h2] at h;exact absurd h (by decide)
  ·rename_i h2
   rw [if_neg h2] at h
   split
   ·rename_i h3;rw [if_pos h3] at h;exact absurd h (by show ¬ (33:Int)=0;decide)
   ·rename_i h3
    rw [if_neg h3] at h
    split
    ·rename_i h4;rw [if_pos h4] at h;exact absurd h (by show ¬ (34:Int)=0;decide)
    ·rename_i h4
     rw [if_neg h4] at h
     split
     ·rename_i h5;rw [if_pos h5] at h;exact absurd h (by show ¬ (35:Int)=0;decide)
     ·rfl
def qToK (p:QP):PK:=if h:p.x<65536/\p.z<65536 then ⟨p.x,p.z,p.m,h.1,h.2⟩ else ⟨0,0,false,by decide,by decide⟩
theorem pvK_qto {p:QP} (h:p.ok):pvK (qToK p)=pvQ p:=by
 unfold qToK;rw [dif_pos (show p.x<65536/\p.z<65536 from h)]
 rfl
def txP (n:Nat) (p:QP):List UInt8:=txQ n (qToK p)
theorem textP_any (p:QP) (hp:p.ok) (n:Nat) (hn:n<=12) (w:World):Calls Tryz.prog 61 #[pvQ p,.int .i64 (n:Int)] w fun e w'=>e=.returned (.string ⟨(txP n p).toArray⟩)/\Ext w w':=by
 have:=pTextQ_any (qToK p) n hn w;rw [pvK_qto hp] at this;exact this
def TxsR (g n:Nat) (T:List (List UInt8)) (w:World) (e:Ending) (w':World):Prop:=∃ (a:Option Addr) (c:Nat),e=.returned (.slice a n c)/\StrsAt w' a n T/\Tur g w w'/\∀ ad,a=some ad->w.heap.size<=ad.block
theorem gtexts_any (l:List QP) (hl:GoodS l) (g n c:Nat) (w:World) (hG:GnB w g l) (hn:l.length=n) (hn12:n<=12) (hc:n<=c) :
  Calls Tryz.prog 37 #[.slice (some ⟨g,0,none⟩) n c] w fun e w'=>TxsR g n ((orL l).map (txP n)) w e w':=by
 obtain ⟨i0,hi0,hz0,hz1,hz2⟩:=info_parts s_info;have HOr:=Lh (order_any l hl g n c w hG hn (by omega) hc);have hor:=orN_form l.length hl (2*l.length);have Hlen:=Lh (show (orL l).length=n by unfold orL;rw [hor.2.1.len,hn]);have Hok:=Lh (show ∀ p ∈ orL l,p.ok from hor.1.ok);have Hn:=Lh hn12;obtain ⟨L,hL⟩:∃ L,orL l=L:=⟨_,rfl⟩;rw [hL] at HOr Hlen Hok ⊢;clear hor hG hn hn12 hc hl hL
 go_enter Tryz.func37,Tryz.ntmps37
 go_wp2_with fail
 refine HOr.out.mono ?_;rintro e w2 ⟨⟨x,rfl⟩,t2,G2⟩;have HT:=Lh t2;have HG:=Lh G2;clear t2 G2
 go_wp2_with fail
 go_loopg [3,10] n (fun kk s3 s10 wr=>∃ i:Nat,s10=.int .i64 (i:Int)/\i<=n/\n-i=kk/\Ext w2 wr/\wr.ownsRow w2.heap.size 9 1 s3 i (sC ((L.take i).map (txP n))))
 case atStart=>exact ⟨0,rfl,Nat.zero_le _,rfl,Ext.refl _,rfl,Or.inl ⟨rfl,rfl⟩⟩
 case round =>
  obtain ⟨i,rfl,hi,hkk,hE,hown⟩:=hrel;have Hkk:=Lh hkk;have HE:=Lh hE;have Hown:=Lh hown
  by_cases hin:i=n
  ·have q1:¬ (i:Int)<(n:Int):=by omega
   rw [hin] at Hown;obtain ⟨a,c',rfl,hc2,hm2,hs2⟩:=strs_of_own Hown.out
   have hs2:StrsAt wr a n (L.map (txP n)):=by rwa [List.take_of_length_le (by rw [Hlen.out];exact Nat.le_refl _)] at hs2
   have Hs:=Lh hs2;have Hfr:=Lh (show ∀ ad,a=some ad->w.heap.size<=ad.block from fun ad e=>Nat.le_trans HT.out.size (own_lt Hown.out ad.block (by rw [e];rfl)).1);clear hkk hi hE hown hin hc2 hm2 hs2
   go_wp2_with fail
   go_ret
   exact ⟨a,c',rfl,Hs.out,HT.out.trans (Tur.of_ext HE.out),Hfr.out⟩
  have hlt:i<n:=by omega
  have q1:(i:Int)<(n:Int):=by omega
  have q0:(0:Int)<=(i:Int):=by omega
  have wk:IntKind.i64.wrap ((i:Int)+1)=((i+1:Nat):Int):=by rw [IntKind.wrap_i64];have:=Hn.out;omega
  obtain ⟨p,hp⟩:∃ p,L[i]?=some p:=⟨_,List.getElem?_eq_getElem (by rw [Hlen.out];exact hlt)⟩;obtain ⟨e0,e1,e2⟩:=(HG.out.ext hE).c i p hp;have Htk:=Lh (show (L.take (i+1)).map (txP n)=(L.take i).map (txP n)++[txP n p] by rw [List.take_add_one,hp,List.map_append];rfl);have HTx:=Lh (fun wx=>textP_any p (Hok.out p (List.mem_of_getElem? hp)) n Hn.out wx);obtain ⟨P,hP⟩:∃ P,txP n p=P:=⟨_,rfl⟩;rw [hP] at Htk HTx;unfold pvQ at HTx;have Hlt:=Lh hlt;clear hkk hi hE hown hin hlt hp hP
  go_upto_region 6 with fail
  obtain ⟨J,hJ⟩:∃ J,wr.heap.size=J:=⟨_,rfl⟩;obtain ⟨Wj,hWj⟩:∃ V,wr.alloc (.cells #[.int .u16 (p.x:Int),.int .u16 (p.z:Int),.bool p.m] 103)=V:=⟨_,rfl⟩
  have Ej:Ext wr Wj:=by rw [<-hWj];exact ext_al _ _
  have hbP:PuB Wj J p.x p.z p.m:=by rw [<-hWj,<-hJ];exact PuB.new _ _ _ _
  rw [hJ,hWj];clear hJ hWj;have r1:=hbP.row;have HEj:=Lh Ej;clear Ej hbP e0 e1 e2
  go_wp2_with (refine wpList_load_row rfl 103 _ rfl J rfl 103 _ (0,0) _ r1 Tryz.underlying103 rfl (by kernel_rfl) ?_)
  refine (HTx.out _).mono ?_;rintro e w5 ⟨rfl,x5⟩;have HE3:=Lh ((HE.out.trans HEj.out).trans x5);have HO:=Lh (own_kpt Hown.out (HEj.out.trans x5));have Hsz:=Lh HE3.out.size;have Hwl:=Lh (show ((L.take i).map (txP n)).length=i by rw [List.length_map,List.length_take,Hlen.out];have:=Hlt.out;omega);clear x5 r1
  go_wp2_with (at_builtin;refine wpList_append_own _ rfl _ _ 27 rfl w2.heap.size 9 i0 (.string ⟨#[]⟩) 1 16 Tryz.underlying27 hi0 hz0 hz1 hz2 rfl (by decide) _ i (sC ((L.take i).map (txP n))) rfl (HO.out.alloc _) ⟨w5.heap.size,0,none⟩ 1 1 [.string ⟨P.toArray⟩] rfl rfl (new_s w5 _ _) (one_s _) (by unfold maxLen;have:=Hlt.out;have:=Hn.out;omega) (by have:=Hlt.out;have:=Hn.out;omega) (Nat.le_trans Hsz.out (ext_al w5 _).size) ?_;intro v' w7 hown' hgrow' _)
  go_roundg (n-(i+1))
  case measure=>have:=Hkk.out;have:=Hlt.out;omega
  case rel=>exact ⟨i+1,rfl,Hlt.out,rfl,grown_ext (HE3.out.trans (ext_al w5 _)) hgrow' (fun k hk=>(own_lt HO.out k hk).1),by rw [Htk.out,sC_snoc];exact hown'⟩
end Go.Proofs.YtlechhmhmakgpaaGreatDoor
