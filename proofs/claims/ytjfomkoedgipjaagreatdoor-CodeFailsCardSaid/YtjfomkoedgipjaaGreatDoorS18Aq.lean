/-
  The reference: lists of ints that are alike; the first error of least weight with a syndrome (DecodeOf). The reference: a code's distance (DistanceOf). Both sides' errors in one order; the first of which something holds; distances and least errors are the same. Nothing of the program's runs stands here. Letters as a space with a form: whoever is not a product of some can be told from their products by an error; so every syndrome is an error's. Nothing of the program stands here. Least errors and distances: both sides tell the same.
-/
import Derived.Test.YtjfomkoedgipjaaGreatDoorS17Al
namespace Go.Proofs.YtjfomkoedgipjaaGreatDoor
set_option maxRecDepth 100000
set_option maxHeartbeats 16000000
open Go.RowKit
theorem sameInts_dec (l1 l2:List Int) (a1:Option Addr) (n1 c1:Nat) (a2:Option Addr) (n2 c2:Nat) (w:World) (h1:IntsAt w a1 n1 l1) (h2:IntsAt w a2 n2 l2) (hn:n1<=9223372036854775806) :
  Calls Tryz.prog 36 #[.slice a1 n1 c1,.slice a2 n2 c2] w fun e w'=>e=.returned (.bool (decide (l1=l2)))/\Ext w w':=by
 have H1:=Lh h1;have H2:=Lh h2;have Hn:=Lh hn;have Hl:=Lh (jN h1.1 h2.1);obtain ⟨B,hB⟩:∃ B,decide (l1=l2)=B:=⟨_,rfl⟩;rw [hB];have HB:=Lh hB;clear h1 h2 hn hB
 go_enter Tryz.func36,Tryz.ntmps36
 by_cases hne:n1=n2
 rotate_left 1
 ·have hcb:=nt (show ¬ (n1:Int)=(n2:Int) by omega)
  have HBf:=Lh (show B=false by rw [<-HB.out];exact jE (fun e=>hne (by have:=Hl.out;rw [<-this.1,<-this.2,e])));clear hne
  go_wp2_with fail
  go_ret
  exact ⟨congrArg (fun b=>Ending.returned (Value.bool b)) HBf.out.symm,Ext.refl _⟩
 subst hne;have hcb:=nf' (show (n1:Int)=(n1:Int) from rfl)
 go_wp2_with fail
 go_loopg [5] n1 (fun kk s5 wr=>Ext w wr/\∃ i:Nat,s5=.int .i64 (i:Int)/\i<=n1/\n1-i=kk/\l1.take i=l2.take i)
 case atStart=>exact ⟨Ext.refl _,0,rfl,qI _,rfl,rfl⟩
 case round =>
  obtain ⟨hER,i,rfl,hi,hkk,hq⟩:=hrel;have HER:=Lh hER;have Hkk:=Lh hkk;have Hq:=Lh hq
  by_cases hin:i=n1
  ·have q1:¬ (i:Int)<(n1:Int):=by omega
   have HBt:=Lh (show B=true by
    rw [<-HB.out];refine jJ ?_;have e1:l1.take i=l1:=qB (by have:=Hl.out;omega);have e2:l2.take i=l2:=qB (by have:=Hl.out;omega)
    rw [<-e1,<-e2];exact hq)
   clear hin hi hER hkk hq
   go_wp2_with fail
   go_ret
   exact ⟨congrArg (fun b=>Ending.returned (Value.bool b)) HBt.out.symm,HER.out⟩
  have hlt:i<n1:=by omega
  have q1:(i:Int)<(n1:Int):=by omega
  have q0:(0:Int)<=(i:Int):=by omega
  have wk:IntKind.i64.wrap ((i:Int)+1)=((i+1:Nat):Int):=by rw [qH];have:=Hn.out;omega
  obtain ⟨x,hx⟩:∃ x,l1[i]?=some x:=⟨_,qX (by have:=Hl.out;omega)⟩;obtain ⟨y,hy⟩:∃ y,l2[i]?=some y:=⟨_,qX (by have:=Hl.out;omega)⟩;obtain ⟨b1,o1,rfl,_,hcs⟩:=(H1.out.ext hER).at (by omega);obtain ⟨b2,o2,rfl,_,hcs2⟩:=(H2.out.ext hER).at (by omega);have c0:=hcs i hlt;have d0:=hcs2 i hlt;rw [show l1.getD i 0=x by rw [qQ,hx];rfl] at c0;rw [show l2.getD i 0=y by rw [qQ,hy];rfl] at d0;have Hlt:=Lh hlt;have Hx:=Lh hx;have Hy:=Lh hy;clear hER hkk hq hi hin hlt hcs hcs2 hx hy hcb
  by_cases h0:x=y
  ·have t1:=nf' h0
   have Hst:=Lh (show l1.take (i+1)=l2.take (i+1) by rw [jP,jP,Hx.out,Hy.out,Hq.out,h0]);clear h0
   go_upto_region 6 with fail
   go_region
   go_wp2_with fail
   go_roundg (n1-(i+1))
   case measure=>have:=Hkk.out;have:=Hlt.out;omega
   case rel=>exact ⟨HER.out.trans (qG (Ext.refl _)),i+1,rfl,Hlt.out,rfl,Hst.out⟩
  ·have t1:=nt h0
   have HBf:=Lh (show B=false by
    rw [<-HB.out];refine jE (fun e=>h0 ?_);have h9:=Hx.out;rw [e,Hy.out] at h9
    exact (Option.some.inj h9).symm)
   clear h0
   go_upto_region 6 with fail
   go_region
   go_wp2_with fail
   go_ret
   exact ⟨congrArg (fun b=>Ending.returned (Value.bool b)) HBf.out.symm,HER.out.trans (qG (Ext.refl _))⟩
def synQ (gens:List (List UInt8)) (s:List Int) (e:List UInt8):Bool:=decide (synL gens e=s)
def betB (Q:List UInt8->Bool) (o:Option (List UInt8)) (e:List UInt8):Bool:=match o with
 | none=>Q e
 | some b=>Q e && decide (wtT e<wtT b)
theorem bst_bet (Q:List UInt8->Bool) (L:List (List UInt8)) (e:List UInt8):bst wtT Q (L++[e])=if betB Q (bst wtT Q L) e then some e else bst wtT Q L:=by
 rw [bst_snoc]
 cases bst wtT Q L<;>rfl
theorem DecodeOf_any (N:Int) (gens:List (List UInt8)) (s:List Int) (es:List (List UInt8)) (ao:Option Addr) (k c:Nat) (bo:Option Addr) (bn bc:Nat) (eo:Option Addr) (en ec:Nat) (w:World) (hG:StrsAt w ao k gens) (hk:k<=12) (n:Nat) (hn:n<=12) (hn1:1<=n) (hall:∀ T ∈ gens,T.length=n+1)
  (hI:IntsAt w bo bn s) (hE:StrsAt w eo en es) (hen:en<=9223372036854775806) (hel:∀ e ∈ es,e.length=n) :
  Calls Tryz.prog 41 #[.agg #[.int .i64 N,.slice ao k c],.slice bo bn bc,.slice eo en ec] w fun r w'=>r=.returned (.string ⟨((bst wtT (synQ gens s) es).getD []).toArray⟩)/\Ext w w':=by
 obtain ⟨U,hU⟩:∃ U,w.alloc (.cells #[.int .i64 N,.slice ao k c] 24)=U:=⟨_,rfl⟩;obtain ⟨H,hH⟩:∃ H,w.heap.size=H:=⟨_,rfl⟩
 have EU:Ext w U:=by rw [<-hU];exact ext_al _ _
 have C0:CoB U H N ao k c:=by rw [<-hU,<-hH];exact CoB.new w _ _ _ _
 have HG:=Lh (hG.ext EU);have Hk:=Lh hk;have Hn:=Lh (jN hn hn1);have Hall:=Lh hall;have HEU:=Lh EU;have HC:=Lh C0;have HU:=Lh hU;have HH:=Lh hH;have HI:=Lh (hI.ext EU);have HE:=Lh (hE.ext EU);have Hen:=Lh hen;have Hel:=Lh hel;have Hlg:=Lh (show es.length=en from hE.1);obtain ⟨R,hR⟩:∃ R,(bst wtT (synQ gens s) es).getD []=R:=⟨_,rfl⟩;rw [hR];have HR:=Lh hR;clear hG hk hn hn1 hall EU C0 hU hH hI hE hen hel hR
 go_enter Tryz.func41,Tryz.ntmps41
 go_upto_region 1 with fail
 rw [HU.out,HH.out];clear HU HH
 go_wp2_with fail
 go_loopg [7,8] en (fun kk s7 s8 wr=>Ext U wr/\∃ i:Nat,s8=.int .i64 (i:Int)/\i<=en/\en-i=kk/\s7=.string ⟨((bst wtT (synQ gens s) (es.take i)).getD []).toArray⟩)
 case atStart=>exact ⟨Ext.refl _,0,rfl,qI _,rfl,rfl⟩
 case round =>
  obtain ⟨hER,i,rfl,hi,hkk,rfl⟩:=hrel;have HER:=Lh hER;have Hkk:=Lh hkk
  by_cases hin:i=en
  ·have q1:¬ (i:Int)<(en:Int):=by omega
   have e1:es.take i=es:=qB (by have:=Hlg.out;omega);rw [e1,HR.out];clear e1 hin hi hER hkk
   go_wp2_with fail
   go_ret
   exact ⟨rfl,HEU.out.trans HER.out⟩
  have hlt:i<en:=by omega
  have q1:(i:Int)<(en:Int):=by omega
  have q0:(0:Int)<=(i:Int):=by omega
  have wk:IntKind.i64.wrap ((i:Int)+1)=((i+1:Nat):Int):=by rw [qH];have:=Hen.out;omega
  obtain ⟨e,he⟩:∃ e,es[i]?=some e:=⟨_,qX (by have:=Hlg.out;omega)⟩;obtain ⟨b3,o3,rfl,_,hcs⟩:=(HE.out.ext hER).at (by omega);have c0:=hcs i hlt;rw [show es.getD i []=e by rw [qQ,he];rfl] at c0;have hlen:=Hel.out e (jL he);have hbst:=bst_bet (synQ gens s) (es.take i) e
  have htk:es.take i++[e]=es.take (i+1):=by rw [jP,he];rfl
  rw [htk] at hbst;have hsp:=bst_spec wtT (synQ gens s) (es.take i);obtain ⟨o,ho⟩:∃ o,bst wtT (synQ gens s) (es.take i)=o:=⟨_,rfl⟩;rw [ho] at hbst hsp ⊢
  have hob:∀ b,o=some b->b.length=n:=fun b h=>by
   rw [h] at hsp;exact Hel.out b (List.mem_of_mem_take hsp.1)
  obtain ⟨C,hC⟩:∃ C,betB (synQ gens s) o e=C:=⟨_,rfl⟩;rw [hC] at hbst;have Hbst:=Lh hbst;have HC2:=Lh hC;have Hob:=Lh hob;have Hlt:=Lh hlt;have v0:=(HC.out.ext hER).x0;have v1:=(HC.out.ext hER).x1;have HSj:=Lh (fun (w':World) (hx:Ext wr w')=>(show w'.cell? ⟨H,0,none⟩=some (.int .i64 N)/\w'.cell? ⟨H,1,none⟩=some (.slice ao k c)/\w'.cell? ⟨b3,o3+i,none⟩=some (.string ⟨e.toArray⟩) from ⟨cell_ext v0 hx,cell_ext v1 hx,cell_ext c0 hx⟩));have HSO:=Lh (fun (wx:World) (hx:Ext wr wx)=>SyndromeOf_any N gens e ao k c wx (HG.out.ext (hER.trans hx)) Hk.out n Hn.out.1 Hall.out hlen);have HWe:=Lh (fun wx=>rWeight_any e wx (by have:=Hn.out;omega));clear hER hkk hi hin hlt he hcs hlen hbst htk hsp ho hob hC
  go_upto_region 5 with fail
  go_cut [36] from 9 to 40 (fun s36 wx=>s36=.bool C/\Ext wr wx)
  case first =>
   clear v0 v1 c0
   cases o with
   | none =>
    have HCq:=Lh (show decide (synL gens e=s)=C from HC2.out);obtain ⟨we,hwe⟩:∃ we,wtT e=we:=⟨_,rfl⟩;rw [hwe] at HWe;clear hwe;simp only [Option.getD_none];have Ew0:Ext wr wr.drew:=qG (Ext.refl _);refine wp_region_K 21 (fun w'=>w'.cell? ⟨H,0,none⟩=some (.int .i64 N)/\w'.cell? ⟨H,1,none⟩=some (.slice ao k c)/\w'.cell? ⟨b3,o3+i,none⟩=some (.string ⟨e.toArray⟩)) (by kernel_rfl) ?_
    show anyK _ _ _ _ _ _ 22 #[false,false,false,false,false,false,false,false,false,false,false,false,false,false,false,false,false,false,false,false,false,false] _ _
    refine kU 0 22 rfl (HSj.out _ Ew0) ?_
    show anyK _ _ _ _ _ _ _ _ (Act.put _ (some 15) _) _
    simp only [Act.put,sx0,sx1,sx2];refine kU 1 22 rfl (HSj.out _ Ew0) ?_
    show anyK _ _ _ _ _ _ _ _ (Act.put _ (some 16) _) _
    simp only [Act.put,sx0,sx1,sx2];refine kU 2 22 rfl (HSj.out _ Ew0) ?_
    show anyK _ _ _ _ _ _ _ _ (Act.put _ (some 17) _) _
    simp only [Act.put,sx0,sx1,sx2];refine kT 3 22 (v:=undef) rfl (qO ⟨by rfl,rfl⟩) (HSj.out _ Ew0) ?_
    show anyK _ _ _ _ _ _ _ _ (Act.put _ (some 18) _) _
    simp only [Act.put,sx0,sx1,sx2];refine kT 4 22 (v:=undef) rfl (qO ⟨by rfl,rfl⟩) (HSj.out _ Ew0) ?_
    show anyK _ _ _ _ _ _ _ _ (Act.put _ (some 19) _) _
    simp only [Act.put,sx0,sx1,sx2];refine kT 5 22 (v:=undef) rfl (qO ⟨by rfl,rfl⟩) (HSj.out _ Ew0) ?_
    show anyK _ _ _ _ _ _ _ _ (Act.put _ (some 20) _) _
    simp only [Act.put,sx0,sx1,sx2];refine kT 6 22 (v:=undef) rfl (qO ⟨by rfl,rfl⟩) (HSj.out _ Ew0) ?_
    show anyK _ _ _ _ _ _ _ _ (Act.put _ (some 21) _) _
    simp only [Act.put,sx0,sx1,sx2];refine kT 7 22 (v:=undef) rfl (qO ⟨by rfl,rfl⟩) (HSj.out _ Ew0) ?_
    show anyK _ _ _ _ _ _ _ _ (Act.put _ (some 22) _) _
    simp only [Act.put,sx0,sx1,sx2];refine kT 8 22 (v:=undef) rfl (qO ⟨by rfl,rfl⟩) (HSj.out _ Ew0) ?_
    show anyK _ _ _ _ _ _ _ _ (Act.put _ (some 23) _) _
    simp only [Act.put,sx0,sx1,sx2];refine kT 9 22 (v:=undef) rfl (qO ⟨by rfl,rfl⟩) (HSj.out _ Ew0) ?_
    show anyK _ _ _ _ _ _ _ _ (Act.put _ (some 24) _) _
    simp only [Act.put,sx0,sx1,sx2];refine kT 10 22 (v:=undef) rfl (qO ⟨by rfl,rfl⟩) (HSj.out _ Ew0) ?_
    show anyK _ _ _ _ _ _ _ _ (Act.put _ (some 25) _) _
    simp only [Act.put,sx0,sx1,sx2];refine kU 11 22 rfl (HSj.out _ Ew0) ?_
    show anyK _ _ _ _ _ _ _ _ (Act.put _ (some 26) _) _
    simp only [Act.put,sx0,sx1,sx2];refine kU 12 22 rfl (HSj.out _ Ew0) ?_
    show anyK _ _ _ _ _ _ _ _ (Act.put _ (some 27) _) _
    simp only [Act.put,sx0,sx1,sx2];refine kU 13 22 rfl (HSj.out _ Ew0) ?_
    show anyK _ _ _ _ _ _ _ _ (Act.put _ (some 28) _) _
    simp only [Act.put,sx0,sx1,sx2];refine kU 14 22 rfl (HSj.out _ Ew0) ?_
    show anyK _ _ _ _ _ _ _ _ (Act.put _ (some 29) _) _
    simp only [Act.put,sx0,sx1,sx2];refine kU 15 22 rfl (HSj.out _ Ew0) ?_
    show anyK _ _ _ _ _ _ _ _ (Act.put _ (some 30) _) _
    simp only [Act.put,sx0,sx1,sx2];refine kU 16 22 rfl (HSj.out _ Ew0) ?_
    show anyK _ _ _ _ _ _ _ _ (Act.put _ (some 31) _) _
    simp only [Act.put,sx0,sx1,sx2];refine kU 17 22 rfl (HSj.out _ Ew0) ?_
    show anyK _ _ _ _ _ _ _ _ (Act.put _ (some 32) _) _
    simp only [Act.put,sx0,sx1,sx2];refine kU 19 22 rfl (HSj.out _ Ew0) ?_
    show anyK _ _ _ _ _ _ _ _ (Act.put _ (some 34) _) _
    simp only [Act.put,sx0,sx1,sx2];refine anyK_one (i:=18) (by kernel_rfl) rfl (fun Kk hKk=>?_)
    go_simp
    (go_at_call 42;refine (HSO.out _ Ew0).mono ?_;rintro e w8 ⟨⟨v8,rfl,hr8⟩,hx⟩)
    have Ew8:Ext wr w8:=Ew0.trans hx;obtain ⟨a8,c8,rfl,hac8,hcm8,hI8,_⟩:=ints_of_own hr8
    go_wp2_with fail
    refine hKk.out _ _ (fun _=>HSj.out _ Ew8) ?_;clear hKk Kk hx;simp only [sx0,sx1,sx2];refine anyK_one (i:=20) (by kernel_rfl) rfl (fun Kk hKk=>?_)
    go_simp
    (go_at_call 36;refine (sameInts_dec _ _ a8 k c8 bo bn bc w8 hI8 (HI.out.ext (HER.out.trans Ew8)) (by have:=Hk.out;omega)).mono ?_;rintro e w9 ⟨rfl,hx⟩)
    have Ew9:Ext wr w9:=Ew8.trans hx
    go_wp2_with fail
    refine hKk.out _ _ (fun _=>HSj.out _ Ew9) ?_;clear hKk Kk hx;simp only [sx0,sx1,sx2];refine anyK_one (i:=21) (by kernel_rfl) rfl (fun Kk hKk=>?_)
    go_wp2_with fail
    refine hKk.out _ _ (fun h=>Bool.noConfusion (show true=false from h)) ?_;clear hKk Kk;simp only [sx0,sx1,sx2];refine anyK_done (by kernel_rfl) ?_ _
    go_wp2_with fail
    go_meet
    exact ⟨congrArg Value.bool HCq.out,Ew9⟩
   | some b =>
    have hbl:=Hob.out b rfl
    have hbne:(b == [])=false:=by
     cases b with
     | nil=>have:=Hn.out;simp at hbl;omega
     | cons x r=>rfl
    have HWb:=Lh (fun wx=>rWeight_any b wx (by have:=Hn.out;omega));simp only [Option.getD_some];obtain ⟨we,hwe⟩:∃ we,wtT e=we:=⟨_,rfl⟩;obtain ⟨wb,hwb⟩:∃ wb,wtT b=wb:=⟨_,rfl⟩;rw [hwe] at HWe;rw [hwb] at HWb
    have hCC:(decide (synL gens e=s) && decide (we<wb))=C:=by rw [<-hwe,<-hwb];exact HC2.out
    have HCC:=Lh hCC;clear hwe hwb hbl hCC
    by_cases hlw:we<wb
    ·have q2:(we:Int)<(wb:Int):=by omega
     have HCq:=Lh (show decide (synL gens e=s)=C by rw [<-HCC.out,jJ hlw,Bool.and_true]);clear hlw;have Ew0:Ext wr wr.drew:=qG (Ext.refl _);refine wp_region_K 21 (fun w'=>w'.cell? ⟨H,0,none⟩=some (.int .i64 N)/\w'.cell? ⟨H,1,none⟩=some (.slice ao k c)/\w'.cell? ⟨b3,o3+i,none⟩=some (.string ⟨e.toArray⟩)) (by kernel_rfl) ?_
     show anyK _ _ _ _ _ _ 22 #[false,false,false,false,false,false,false,false,false,false,false,false,false,false,false,false,false,false,false,false,false,false] _ _
     refine kU 0 22 rfl (HSj.out _ Ew0) ?_
     show anyK _ _ _ _ _ _ _ _ (Act.put _ (some 15) _) _
     simp only [Act.put,sx0,sx1,sx2];refine kU 1 22 rfl (HSj.out _ Ew0) ?_
     show anyK _ _ _ _ _ _ _ _ (Act.put _ (some 16) _) _
     simp only [Act.put,sx0,sx1,sx2];refine kU 2 22 rfl (HSj.out _ Ew0) ?_
     show anyK _ _ _ _ _ _ _ _ (Act.put _ (some 17) _) _
     simp only [Act.put,sx0,sx1,sx2];refine kU 3 22 rfl (HSj.out _ Ew0) ?_
     show anyK _ _ _ _ _ _ _ _ (Act.put _ (some 18) _) _
     simp only [Act.put,sx0,sx1,sx2];refine kU 4 22 rfl (HSj.out _ Ew0) ?_
     show anyK _ _ _ _ _ _ _ _ (Act.put _ (some 19) _) _
     simp only [Act.put,sx0,sx1,sx2];refine kU 5 22 rfl (HSj.out _ Ew0) ?_
     show anyK _ _ _ _ _ _ _ _ (Act.put _ (some 20) _) _
     simp only [Act.put,sx0,sx1,sx2];refine kU 6 22 rfl (HSj.out _ Ew0) ?_
     show anyK _ _ _ _ _ _ _ _ (Act.put _ (some 21) _) _
     simp only [Act.put,sx0,sx1,sx2];refine kU 8 22 rfl (HSj.out _ Ew0) ?_
     show anyK _ _ _ _ _ _ _ _ (Act.put _ (some 23) _) _
     simp only [Act.put,sx0,sx1,sx2];refine anyK_one (i:=7) (by kernel_rfl) rfl (fun Kk hKk=>?_)
     go_simp
     (go_at_call 45;refine (HWe.out _).mono ?_;rintro e w5 ⟨rfl,hx⟩)
     have Ew5:Ext wr w5:=Ew0.trans hx
     go_wp2_with fail
     refine hKk.out _ _ (fun _=>HSj.out _ Ew5) ?_;clear hKk Kk hx;simp only [sx0,sx1,sx2];refine anyK_one (i:=9) (by kernel_rfl) rfl (fun Kk hKk=>?_)
     go_simp
     (go_at_call 45;refine (HWb.out _).mono ?_;rintro e w6 ⟨rfl,hx⟩)
     have Ew6:Ext wr w6:=Ew5.trans hx
     go_wp2_with fail
     refine hKk.out _ _ (fun _=>HSj.out _ Ew6) ?_;clear hKk Kk hx;simp only [sx0,sx1,sx2];refine kU 10 22 rfl (HSj.out _ Ew6) ?_
     show anyK _ _ _ _ _ _ _ _ (Act.put _ (some 25) _) _
     simp only [Act.put,sx0,sx1,sx2];refine kU 11 22 rfl (HSj.out _ Ew6) ?_
     show anyK _ _ _ _ _ _ _ _ (Act.put _ (some 26) _) _
     simp only [Act.put,sx0,sx1,sx2];refine kU 12 22 rfl (HSj.out _ Ew6) ?_
     show anyK _ _ _ _ _ _ _ _ (Act.put _ (some 27) _) _
     simp only [Act.put,sx0,sx1,sx2];refine kU 13 22 rfl (HSj.out _ Ew6) ?_
     show anyK _ _ _ _ _ _ _ _ (Act.put _ (some 28) _) _
     simp only [Act.put,sx0,sx1,sx2];refine kU 14 22 rfl (HSj.out _ Ew6) ?_
     show anyK _ _ _ _ _ _ _ _ (Act.put _ (some 29) _) _
     simp only [Act.put,sx0,sx1,sx2];refine kU 15 22 rfl (HSj.out _ Ew6) ?_
     show anyK _ _ _ _ _ _ _ _ (Act.put _ (some 30) _) _
     simp only [Act.put,sx0,sx1,sx2];refine kU 16 22 rfl (HSj.out _ Ew6) ?_
     show anyK _ _ _ _ _ _ _ _ (Act.put _ (some 31) _) _
     simp only [Act.put,sx0,sx1,sx2];refine kU 17 22 rfl (HSj.out _ Ew6) ?_
     show anyK _ _ _ _ _ _ _ _ (Act.put _ (some 32) _) _
     simp only [Act.put,sx0,sx1,sx2];refine kU 19 22 rfl (HSj.out _ Ew6) ?_
     show anyK _ _ _ _ _ _ _ _ (Act.put _ (some 34) _) _
     simp only [Act.put,sx0,sx1,sx2];refine anyK_one (i:=18) (by kernel_rfl) rfl (fun Kk hKk=>?_)
     go_simp
     (go_at_call 42;refine (HSO.out _ Ew6).mono ?_;rintro e w8 ⟨⟨v8,rfl,hr8⟩,hx⟩)
     have Ew8:Ext wr w8:=Ew6.trans hx;obtain ⟨a8,c8,rfl,hac8,hcm8,hI8,_⟩:=ints_of_own hr8
     go_wp2_with fail
     refine hKk.out _ _ (fun _=>HSj.out _ Ew8) ?_;clear hKk Kk hx;simp only [sx0,sx1,sx2];refine anyK_one (i:=20) (by kernel_rfl) rfl (fun Kk hKk=>?_)
     go_simp
     (go_at_call 36;refine (sameInts_dec _ _ a8 k c8 bo bn bc w8 hI8 (HI.out.ext (HER.out.trans Ew8)) (by have:=Hk.out;omega)).mono ?_;rintro e w9 ⟨rfl,hx⟩)
     have Ew9:Ext wr w9:=Ew8.trans hx
     go_wp2_with fail
     refine hKk.out _ _ (fun _=>HSj.out _ Ew9) ?_;clear hKk Kk hx;simp only [sx0,sx1,sx2];refine anyK_one (i:=21) (by kernel_rfl) rfl (fun Kk hKk=>?_)
     go_wp2_with fail
     refine hKk.out _ _ (fun h=>Bool.noConfusion (show true=false from h)) ?_;clear hKk Kk;simp only [sx0,sx1,sx2];refine anyK_done (by kernel_rfl) ?_ _
     go_wp2_with fail
     go_meet
     exact ⟨congrArg Value.bool HCq.out,Ew9⟩
    ·have q2:decide ((we:Int)<(wb:Int))=false:=jE (by omega)
     have q2':decide (we<wb)=false:=jE hlw;have HCq:=Lh (show false=C by rw [<-HCC.out,jE hlw,Bool.and_false]);clear hlw;have Ew0:Ext wr wr.drew:=qG (Ext.refl _);refine wp_region_K 21 (fun w'=>w'.cell? ⟨H,0,none⟩=some (.int .i64 N)/\w'.cell? ⟨H,1,none⟩=some (.slice ao k c)/\w'.cell? ⟨b3,o3+i,none⟩=some (.string ⟨e.toArray⟩)) (by kernel_rfl) ?_
     show anyK _ _ _ _ _ _ 22 #[false,false,false,false,false,false,false,false,false,false,false,false,false,false,false,false,false,false,false,false,false,false] _ _
     refine kU 0 22 rfl (HSj.out _ Ew0) ?_
     show anyK _ _ _ _ _ _ _ _ (Act.put _ (some 15) _) _
     simp only [Act.put,sx0,sx1,sx2];refine kU 1 22 rfl (HSj.out _ Ew0) ?_
     show anyK _ _ _ _ _ _ _ _ (Act.put _ (some 16) _) _
     simp only [Act.put,sx0,sx1,sx2];refine kU 2 22 rfl (HSj.out _ Ew0) ?_
     show anyK _ _ _ _ _ _ _ _ (Act.put _ (some 17) _) _
     simp only [Act.put,sx0,sx1,sx2];refine kU 3 22 rfl (HSj.out _ Ew0) ?_
     show anyK _ _ _ _ _ _ _ _ (Act.put _ (some 18) _) _
     simp only [Act.put,sx0,sx1,sx2];refine kU 4 22 rfl (HSj.out _ Ew0) ?_
     show anyK _ _ _ _ _ _ _ _ (Act.put _ (some 19) _) _
     simp only [Act.put,sx0,sx1,sx2];refine kU 5 22 rfl (HSj.out _ Ew0) ?_
     show anyK _ _ _ _ _ _ _ _ (Act.put _ (some 20) _) _
     simp only [Act.put,sx0,sx1,sx2];refine kU 6 22 rfl (HSj.out _ Ew0) ?_
     show anyK _ _ _ _ _ _ _ _ (Act.put _ (some 21) _) _
     simp only [Act.put,sx0,sx1,sx2];refine kU 8 22 rfl (HSj.out _ Ew0) ?_
     show anyK _ _ _ _ _ _ _ _ (Act.put _ (some 23) _) _
     simp only [Act.put,sx0,sx1,sx2];refine anyK_one (i:=7) (by kernel_rfl) rfl (fun Kk hKk=>?_)
     go_simp
     (go_at_call 45;refine (HWe.out _).mono ?_;rintro e w5 ⟨rfl,hx⟩)
     have Ew5:Ext wr w5:=Ew0.trans hx
     go_wp2_with fail
     refine hKk.out _ _ (fun _=>HSj.out _ Ew5) ?_;clear hKk Kk hx;simp only [sx0,sx1,sx2];refine anyK_one (i:=9) (by kernel_rfl) rfl (fun Kk hKk=>?_)
     go_simp
     (go_at_call 45;refine (HWb.out _).mono ?_;rintro e w6 ⟨rfl,hx⟩)
     have Ew6:Ext wr w6:=Ew5.trans hx
     go_wp2_with fail
     refine hKk.out _ _ (fun _=>HSj.out _ Ew6) ?_;clear hKk Kk hx;simp only [sx0,sx1,sx2];refine kU 10 22 rfl (HSj.out _ Ew6) ?_
     show anyK _ _ _ _ _ _ _ _ (Act.put _ (some 25) _) _
     simp only [Act.put,sx0,sx1,sx2];refine kU 11 22 rfl (HSj.out _ Ew6) ?_
     show anyK _ _ _ _ _ _ _ _ (Act.put _ (some 26) _) _
     simp only [Act.put,sx0,sx1,sx2];refine kU 12 22 rfl (HSj.out _ Ew6) ?_
     show anyK _ _ _ _ _ _ _ _ (Act.put _ (some 27) _) _
     simp only [Act.put,sx0,sx1,sx2];refine kT 13 22 (v:=undef) rfl (qO ⟨by rfl,rfl⟩) (HSj.out _ Ew6) ?_
     show anyK _ _ _ _ _ _ _ _ (Act.put _ (some 28) _) _
     simp only [Act.put,sx0,sx1,sx2];refine kT 14 22 (v:=undef) rfl (qO ⟨by rfl,rfl⟩) (HSj.out _ Ew6) ?_
     show anyK _ _ _ _ _ _ _ _ (Act.put _ (some 29) _) _
     simp only [Act.put,sx0,sx1,sx2];refine kT 15 22 (v:=undef) rfl (qO ⟨by rfl,rfl⟩) (HSj.out _ Ew6) ?_
     show anyK _ _ _ _ _ _ _ _ (Act.put _ (some 30) _) _
     simp only [Act.put,sx0,sx1,sx2];refine kT 16 22 (v:=undef) rfl (qO ⟨by rfl,rfl⟩) (HSj.out _ Ew6) ?_
     show anyK _ _ _ _ _ _ _ _ (Act.put _ (some 31) _) _
     simp only [Act.put,sx0,sx1,sx2];refine kT 17 22 (v:=undef) rfl (qO ⟨by rfl,rfl⟩) (HSj.out _ Ew6) ?_
     show anyK _ _ _ _ _ _ _ _ (Act.put _ (some 32) _) _
     simp only [Act.put,sx0,sx1,sx2];refine kT 18 22 (v:=undef) rfl (qO ⟨by rfl,rfl⟩) (HSj.out _ Ew6) ?_
     show anyK _ _ _ _ _ _ _ _ (Act.put _ (some 33) _) _
     simp only [Act.put,sx0,sx1,sx2];refine kT 19 22 (v:=undef) rfl (qO ⟨by rfl,rfl⟩) (HSj.out _ Ew6) ?_
     show anyK _ _ _ _ _ _ _ _ (Act.put _ (some 34) _) _
     simp only [Act.put,sx0,sx1,sx2];refine kT 20 22 (v:=undef) rfl (qO ⟨by rfl,rfl⟩) (HSj.out _ Ew6) ?_
     show anyK _ _ _ _ _ _ _ _ (Act.put _ (some 35) _) _
     simp only [Act.put,sx0,sx1,sx2];refine anyK_one (i:=21) (by kernel_rfl) rfl (fun Kk hKk=>?_)
     go_wp2_with fail
     refine hKk.out _ _ (fun h=>Bool.noConfusion (show true=false from h)) ?_;clear hKk Kk;simp only [sx0,sx1,sx2];refine anyK_done (by kernel_rfl) ?_ _
     go_wp2_with fail
     go_meet
     exact ⟨congrArg Value.bool HCq.out,Ew6⟩
  case rest =>
   obtain ⟨rfl,hx⟩:=hcut;have HX:=Lh (HER.out.trans hx);have c0':=cell_ext c0 hx;clear hx c0 v0 v1
   cases C
   ·have Hb2:=Lh (show bst wtT (synQ gens s) (es.take (i+1))=o by have:=Hbst.out;simpa using this)
    go_wp2_with fail
    go_roundg (en-(i+1))
    case measure=>have:=Hkk.out;have:=Hlt.out;omega
    case rel=>exact ⟨HX.out,i+1,rfl,Hlt.out,rfl,by rw [Hb2.out]⟩
   ·have Hb2:=Lh (show bst wtT (synQ gens s) (es.take (i+1))=some e by have:=Hbst.out;simpa using this)
    go_wp2_with fail
    go_roundg (en-(i+1))
    case measure=>have:=Hkk.out;have:=Hlt.out;omega
    case rel=>exact ⟨HX.out,i+1,rfl,Hlt.out,rfl,by rw [Hb2.out];rfl⟩
theorem bar_let {n:Nat} {gens:List (List UInt8)} (hall:∀ T ∈ gens,isP n T=true):∀ T ∈ barL gens,Let n T:=fun T hT=>by
 obtain ⟨G,hG,rfl⟩:=yU.1 hT;exact (isP_let (hall G hG)).2
def tP (a:List UInt8):PK:=PK.of (nX a) (nZz a)
theorem tP_is {n:Nat} (hn:n<=16) {a:List UInt8} (h:Let n a):IsT (tP a) a:=by
 have h1:=nX_lt a;have h2:=nZz_lt a;have h3:2 ^ a.length<=2 ^ 16:=qY (by decide) (by rw [h.1];exact hn)
 have h4:(2:Nat) ^ 16=65536:=by decide
 exact ⟨Nat.mod_eq_of_lt (by omega),Nat.mod_eq_of_lt (by omega)⟩
theorem tP_nx {q:Nat} {a:List UInt8} (hq:q<12) (h:Let q a) (j:Nat) (c:UInt8) (hj:([88,89,90]:List UInt8)[j]?=some c):nxP (tP a) q j=tP (a++[c]):=by
 have hi:=tP_is (n:=q) (by omega) h
 have hx:nX (a++[c])=nX a+lX j*2 ^ q:=by
  rw [nX_snoc,h.1]
  match j,hj with
  | 0,hj=>have:(88:UInt8)=c:=(by simpa using hj);subst this;rfl
  | 1,hj=>have:(89:UInt8)=c:=(by simpa using hj);subst this;rfl
  | 2,hj=>have:(90:UInt8)=c:=(by simpa using hj);subst this;rfl
  | j+3,hj=>simp at hj
 have hz:nZz (a++[c])=nZz a+lZ j*2 ^ q:=by
  rw [nZz_snoc,h.1]
  match j,hj with
  | 0,hj=>have:(88:UInt8)=c:=(by simpa using hj);subst this;rfl
  | 1,hj=>have:(89:UInt8)=c:=(by simpa using hj);subst this;rfl
  | 2,hj=>have:(90:UInt8)=c:=(by simpa using hj);subst this;rfl
  | j+3,hj=>simp at hj
 unfold nxP;rw [hi.1,hi.2];unfold tP;rw [hx,hz]
theorem tP_i (a:List UInt8):tP (a++[73])=tP a:=by
 unfold tP;rw [nX_snoc,nZz_snoc,show lx 73=false from rfl,show lz 73=false from rfl]
 simp
theorem let_snoc {q:Nat} {a:List UInt8} (h:Let q a) {c:UInt8} (hc:isL c=true):Let (q+1) (a++[c]) :=
 ⟨by rw [qT,h.1];rfl,fun x hx=>(jI.1 hx).elim (h.2 x) fun hx=>by
  have:x=c:=by simpa using hx
  rw [this];exact hc⟩
theorem spP_spT:∀ (k q:Nat) (a:List UInt8) (wt:Nat),q+k<=12->Let q a->spP k q (tP a) wt=(spT k a wt).map tP
 | 0,q,a,wt,_,_=>rfl
 | k+1,q,a,wt,hq,h=>by
  rw [spP_succ,spT,yJ]
  congr 1
  ·by_cases hw:wt<k+1
   ·rw [qU hw,qU hw,<-spP_spT k (q+1) (a++[73]) wt (by omega) (let_snoc h rfl),tP_i a]
   ·rw [qE hw,qE hw];rfl
  ·by_cases hw:wt=0
   ·rw [qU hw,qU hw];rfl
   ·rw [qE hw,qE hw]
    have e0:=tP_nx (by omega) h 0 88 rfl;have e1:=tP_nx (by omega) h 1 89 rfl;have e2:=tP_nx (by omega) h 2 90 rfl;have h0:=spP_spT k (q+1) (a++[88]) (wt-1) (by omega) (let_snoc h rfl);have h1:=spP_spT k (q+1) (a++[89]) (wt-1) (by omega) (let_snoc h rfl);have h2:=spP_spT k (q+1) (a++[90]) (wt-1) (by omega) (let_snoc h rfl);simp only [List.range_succ,List.range_zero,List.nil_append,List.flatMap_append,List.flatMap_cons,List.flatMap_nil,List.append_nil,yJ];rw [e0,e1,e2,h0,h1,h2,yK]
theorem errP_errT {n:Nat} (hn:n<=12):errP n=(errT n).map tP:=by
 unfold errP errT;have h0:PK.of 0 0=tP []:=rfl;rw [List.map_flatMap]
 congr 1
 funext wt
 rw [h0];exact spP_spT n 0 [] wt (by omega) ⟨rfl,fun c hc=>by cases hc⟩
theorem fstP_bst {n:Nat} (hn:n<=12) (h:PK->Bool) (Q:List UInt8->Bool) (hQ:∀ a,Let n a->h (tP a)=Q a):fstP h n=((bst wtT Q (erR n)).map tP).getD (PK.of 0 0):=by
 unfold fstP;rw [errP_errT hn,<-find_errT,List.find?_map]
 have e:(errT n).find? (h ∘ tP)=(errT n).find? Q:=by
  have key:∀ L:List (List UInt8),(∀ a ∈ L,Let n a)->L.find? (h ∘ tP)=L.find? Q:=by
   intro L
   induction L with
   | nil=>intro _;rfl
   | cons a r ih =>
    intro hL;rw [List.find?_cons,List.find?_cons,Function.comp_apply,hQ a (hL a (by simp)),ih fun x hx=>hL x (by simp [hx])]
  refine key _ fun a ha=>?_
  rw [errT_is] at ha;obtain ⟨w,_,hw⟩:=List.mem_flatMap.1 ha;exact (erR_let n a).1 (List.mem_filter.1 hw).1
 rw [e]
theorem bit_or (i j:Bool) (a b:Nat):((if i then 1 else 0)+2*a) ||| ((if j then 1 else 0)+2*b)=(if i || j then 1 else 0)+2*(a ||| b):=by
 apply Nat.eq_of_testBit_eq
 intro n;rw [Nat.testBit_or]
 cases n with
 | zero=>cases i<;>cases j<;>simp [Nat.testBit_zero]<;>omega
 | succ n =>
  simp only [Nat.testBit_succ]
  rw [show ((if i=true then 1 else 0)+2*a) / 2=a by split<;>omega,show ((if j=true then 1 else 0)+2*b) / 2=b by split<;>omega,show ((if (i || j)=true then 1 else 0)+2*(a ||| b)) / 2=a ||| b by split<;>omega,Nat.testBit_or]
theorem wt_pc:∀ a:List UInt8,(∀ c ∈ a,isL c=true)->wtT a=pcF a.length (nX a ||| nZz a)
 | [],_=>rfl
 | c :: r,h=>by
  have ih:=wt_pc r fun x hx=>h x (by simp [hx])
  rw [wtT,nX,nZz,bit_or,jB,pcF,ih]
  have hc:(if c=73 then 0 else 1)=if (lx c || lz c) then 1 else 0:=by
   rcases isL_cases (h c (by simp)) with rfl | rfl | rfl | rfl<;>rfl
  rw [hc]
  congr 1
  ·split<;>omega
  ·congr 1
   split<;>omega
theorem wt_tP {n:Nat} (hn:n<=16) {a:List UInt8} (h:Let n a):pcF 16 ((tP a).x ||| (tP a).z)=wtT a:=by
 have hi:=tP_is hn h;rw [hi.1,hi.2,wt_pc a h.2];have hx:=nX_lt a;have hz:=nZz_lt a;exact pcF_more a.length _ (Nat.or_lt_two_pow hx hz) 16 (by rw [h.1];exact hn)
def apB:List UInt8->List UInt8->Bool
 | a :: r,b :: s=>apL a b ^^ apB r s
 | _,_=>false
theorem apB_ap:∀ a b:List UInt8,apB a b=decide (apN a b % 2=1)
 | [],[]=>rfl
 | [],_ :: _=>rfl
 | _ :: _,[]=>rfl
 | a :: r,b :: s=>by
  rw [apB,apN,apB_ap r s]
  cases apL a b
  ·simp
  ·rw [qU rfl,Bool.true_xor,<-decide_not]
   congr 1
   exact propext ⟨fun h=>by omega,fun h=>by omega⟩
theorem apB_comm:∀ a b:List UInt8,apB a b=apB b a
 | [],[]=>rfl
 | [],_ :: _=>rfl
 | _ :: _,[]=>rfl
 | a :: r,b :: s=>by rw [apB,apB,apL_comm,apB_comm r s]
theorem apL_mul {a b c:UInt8} (ha:isL a=true) (hb:isL b=true) (hc:isL c=true):apL (mulL a b) c=(apL a c ^^ apL b c):=by
 rcases isL_cases ha with rfl | rfl | rfl | rfl<;>rcases isL_cases hb with rfl | rfl | rfl | rfl<;>rcases isL_cases hc with rfl | rfl | rfl | rfl<;>rfl
theorem mulL_back {a b:UInt8} (ha:isL a=true) (hb:isL b=true):mulL (mulL a b) b=a:=by
 rcases isL_cases ha with rfl | rfl | rfl | rfl<;>rcases isL_cases hb with rfl | rfl | rfl | rfl<;>rfl
theorem mulT_back:∀ (a b:List UInt8),a.length=b.length->(∀ c ∈ a,isL c=true)->(∀ c ∈ b,isL c=true)->mulT (mulT a b) b=a
 | [],[],_,_,_=>rfl
 | [],_ :: _,h,_,_=>by simp at h
 | _ :: _,[],h,_,_=>by simp at h
 | c :: r,d :: s,hl,ha,hb=>by
  have e:mulT (c :: r) (d :: s)=mulL c d :: mulT r s:=rfl;have e2:mulT (mulL c d :: mulT r s) (d :: s)=mulL (mulL c d) d :: mulT (mulT r s) s:=rfl;rw [e,e2,mulL_back (ha c (by simp)) (hb d (by simp)),mulT_back r s (by simpa using hl) (fun x hx=>ha x (by simp [hx])) (fun x hx=>hb x (by simp [hx]))]
theorem apB_mul:∀ (a b c:List UInt8),a.length=b.length->a.length=c.length->(∀ x ∈ a,isL x=true)->(∀ x ∈ b,isL x=true)->(∀ x ∈ c,isL x=true)->apB (mulT a b) c=(apB a c ^^ apB b c)
 | [],[],_,_,_,_,_,_=>by simp [mulT,apB]
 | [],_ :: _,_,h,_,_,_,_=>by simp at h
 | _ :: _,[],_,h,_,_,_,_=>by simp at h
 | _ :: _,_ :: _,[],_,h,_,_,_=>by simp at h
 | a :: r,b :: s,c :: t,h1,h2,ha,hb,hc=>by
  have e:mulT (a :: r) (b :: s)=mulL a b :: mulT r s:=rfl;rw [e,apB,apB,apB,apL_mul (ha a (by simp)) (hb b (by simp)) (hc c (by simp)),apB_mul r s t (by simpa using h1) (by simpa using h2) (fun x hx=>ha x (by simp [hx])) (fun x hx=>hb x (by simp [hx])) (fun x hx=>hc x (by simp [hx]))]
  cases apL a c<;>cases apL b c<;>cases apB r t<;>cases apB s t<;>rfl
theorem let_mul {n:Nat} {a b:List UInt8} (ha:Let n a) (hb:Let n b):Let n (mulT a b):=by
 have:=mulT_is a b (by rw [ha.1,hb.1]) ha.2 hb.2;exact ⟨this.1.trans ha.1,this.2.1⟩
theorem let_one (n:Nat):Let n (oneT n):=⟨(oneT_is n).1,(oneT_is n).2.1⟩
theorem apB_one:∀ (n:Nat) (e:List UInt8),apB (oneT n) e=false
 | 0,e=>by cases e<;>rfl
 | n+1,[]=>rfl
 | n+1,c :: r=>by
  have e:oneT (n+1)=73 :: oneT n:=rfl;rw [e,apB,apB_one n r]
  rfl
theorem nondeg:∀ (n:Nat) (g:List UInt8),Let n g->(∀ e,Let n e->apB g e=false)->g=oneT n
 | 0,g,h,_=>List.length_eq_zero_iff.1 h.1
 | n+1,[],h,_=>by have:=h.1;simp at this
 | n+1,c :: r,h,hh=>by
  have e:oneT (n+1)=73 :: oneT n:=rfl;have hr:Let n r:=⟨by simpa using h.1,fun x hx=>h.2 x (by simp [hx])⟩
  have hc:c=73:=by
   have h1:=hh (88 :: oneT n) ⟨by simp [(oneT_is n).1],fun x hx=>by
    rcases List.mem_cons.1 hx with rfl | hx
    ·rfl
    ·exact (oneT_is n).2.1 x hx⟩
   have h2:=hh (90 :: oneT n) ⟨by simp [(oneT_is n).1],fun x hx=>by
    rcases List.mem_cons.1 hx with rfl | hx
    ·rfl
    ·exact (oneT_is n).2.1 x hx⟩
   rw [apB,apB_comm r,apB_one,Bool.xor_false] at h1 h2
   rcases isL_cases (h.2 c (by simp)) with rfl | rfl | rfl | rfl
   ·rfl
   ·exact absurd h2 (by decide)
   ·exact absurd h1 (by decide)
   ·exact absurd h1 (by decide)
  rw [e,hc,nondeg n r hr fun x hx=>by
   have:=hh (73 :: x) ⟨by simp [hx.1],fun y hy=>by
    rcases List.mem_cons.1 hy with rfl | hy
    ·rfl
    ·exact hx.2 y hy⟩
   rw [apB,show apL c 73=false by unfold apL;simp,Bool.false_xor] at this
   exact this]
theorem grp_mem_snoc {n:Nat} {gs:List (List UInt8)} {h x:List UInt8}:x ∈ grp n (gs++[h])↔x ∈ grp n gs\/∃ p ∈ grp n gs,x=mulT p h:=by
 rw [grp_snoc,jI,yU]
 constructor
 ·rintro (h1 | ⟨p,h1,h2⟩)
  ·exact qM h1
  ·exact qO ⟨p,h1,h2.symm⟩
 ·rintro (h1 | ⟨p,h1,h2⟩)
  ·exact qM h1
  ·exact qO ⟨p,h1,h2.symm⟩
theorem dbl {n:Nat} (gs:List (List UInt8)):(∀ g ∈ gs,Let n g)->∀ g,Let n g->(∀ e,Let n e->(∀ h ∈ gs,apB h e=false)->apB g e=false)->g ∈ grp n gs:=by
 induction gs using snoc_ind with
 | h0 =>
  intro _ g hg hh;rw [nondeg n g hg fun e he=>hh e he fun h hx=>by cases hx];exact yG.2 rfl
 | h1 gs h ih =>
  intro hL g hg hh
  have hLs:∀ x ∈ gs,Let n x:=fun x hx=>hL x (by simp [hx])
  have hLh:Let n h:=hL h (by simp)
  by_cases hA:∀ e,Let n e->(∀ x ∈ gs,apB x e=false)->apB h e=false
  ·refine grp_mem_snoc.2 (qM (ih hLs g hg fun e he hx=>hh e he fun x hm=>?_))
   rcases jI.1 hm with hm | hm
   ·exact hx x hm
   ·have:x=h:=by simpa using hm
    rw [this];exact hA e he hx
  ·have:∃ e1,Let n e1/\(∀ x ∈ gs,apB x e1=false)/\apB h e1=true:=by
    apply Classical.byContradiction
    intro hn
    refine hA fun e he hx=>?_
    cases hb:apB h e with
    | false=>rfl
    | true=>exact absurd ⟨e,he,hx,hb⟩ hn
   obtain ⟨e1,hl1,hx1,hh1⟩:=this
   have key:∀ e,Let n e->(∀ x ∈ gs,apB x e=false)->apB g e=(apB h e && apB g e1):=by
    intro e he hx
    cases hd:apB h e with
    | false =>
     rw [Bool.false_and]
     refine hh e he fun x hm=>?_
     rcases jI.1 hm with hm | hm
     ·exact hx x hm
     ·have:x=h:=by simpa using hm
      rw [this];exact hd
    | true =>
     rw [Bool.true_and]
     have hm':∀ y,Let n y->apB y (mulT e e1)=(apB y e ^^ apB y e1):=fun y hy=>by
      rw [apB_comm,apB_mul e e1 y (by rw [he.1,hl1.1]) (by rw [he.1,hy.1]) he.2 hl1.2 hy.2,apB_comm e,apB_comm e1]
     have h9:=hh (mulT e e1) (let_mul he hl1) fun x hm=>by
      rcases jI.1 hm with hm | hm
      ·rw [hm' x (hLs x hm),hx x hm,hx1 x hm];rfl
      ·have:x=h:=by simpa using hm
       rw [this,hm' h hLh,hd,hh1];rfl
     rw [hm' g hg] at h9
     cases h1:apB g e<;>cases h2:apB g e1<;>rw [h1,h2] at h9<;>first | rfl | exact absurd h9 (by decide)
   cases hc:apB g e1 with
   | false =>
    refine grp_mem_snoc.2 (qM (ih hLs g hg fun e he hx=>?_));rw [key e he hx,hc,Bool.and_false]
   | true =>
    refine grp_mem_snoc.2 (qO ⟨mulT g h,ih hLs (mulT g h) (let_mul hg hLh) fun e he hx=>?_,(mulT_back g h (by rw [hg.1,hLh.1]) hg.2 hLh.2).symm⟩);rw [apB_mul g h e (by rw [hg.1,hLh.1]) (by rw [hg.1,he.1]) hg.2 hLh.2 he.2,key e he hx,hc,Bool.and_true,Bool.xor_self]
theorem surj {n:Nat} (gs:List (List UInt8)):(∀ g ∈ gs,Let n g)->(∀ (i:Nat) (g:List UInt8),gs[i]?=some g->g ∉ grp n (gs.take i))->∀ s:List Bool,s.length=gs.length->∃ e,Let n e/\gs.map (fun g=>apB g e)=s:=by
 induction gs using snoc_ind with
 | h0 =>
  intro _ _ s hs;exact ⟨oneT n,let_one n,(List.length_eq_zero_iff.1 hs).symm⟩
 | h1 gs h ih =>
  intro hL hI s hs
  have hLs:∀ x ∈ gs,Let n x:=fun x hx=>hL x (by simp [hx])
  have hLh:Let n h:=hL h (by simp)
  have hne:s≠[]:=by rintro rfl;simp at hs
  obtain ⟨s',b,rfl⟩:∃ s' b,s=s'++[b]:=⟨s.dropLast,s.getLast hne,(List.dropLast_concat_getLast hne).symm⟩
  obtain ⟨e',he',hm'⟩:=ih hLs (fun i g hg=>by
   have hi:=(jG.1 hg).1;have h9:=hI i g (by rw [List.getElem?_append_left hi];exact hg)
   rwa [List.take_append_of_le_length (by omega)] at h9) s' (by simpa using hs)
  by_cases hb:apB h e'=b
  ·exact ⟨e',he',by rw [yJ,hm',yW,yI,hb]⟩
  ·have hnot:=hI gs.length h (by simp)
   rw [List.take_append_of_le_length (qZ _),List.take_length] at hnot
   have:∃ e0,Let n e0/\(∀ x ∈ gs,apB x e0=false)/\apB h e0=true:=by
    apply Classical.byContradiction
    intro hn;refine hnot (dbl gs hLs h hLh fun e he hx=>?_)
    cases hb:apB h e with
    | false=>rfl
    | true=>exact absurd ⟨e,he,hx,hb⟩ hn
   obtain ⟨e0,hl0,hx0,hh0⟩:=this
   have hmul:∀ y,Let n y->apB y (mulT e' e0)=(apB y e' ^^ apB y e0):=fun y hy=>by
    rw [apB_comm,apB_mul e' e0 y (by rw [he'.1,hl0.1]) (by rw [he'.1,hy.1]) he'.2 hl0.2 hy.2,apB_comm e',apB_comm e0]
   refine ⟨mulT e' e0,let_mul he' hl0,?_⟩;rw [yJ,yW,yI,hmul h hLh,hh0,<-hm']
   congr 1
   ·refine List.map_congr_left fun x hx=>?_
    rw [hmul x (hLs x hx),hx0 x hx,Bool.xor_false]
   ·cases h1:apB h e'<;>cases b<;>rw [h1] at hb<;>first | rfl | exact absurd rfl hb
theorem syB (gens:List (List UInt8)) (a:List UInt8):synL gens a=((barL gens).map fun g=>apB g a).map fun b=>if b then 1 else 0:=by
 unfold synL barL;rw [List.map_map,List.map_map]
 refine List.map_congr_left fun T _=>?_
 simp only [Function.comp_apply,apB_ap,jZ]
theorem shB {n:Nat} (hn:n<=12) {gens:List (List UInt8)} (hall:∀ T ∈ gens,isP n T=true) {a:List UInt8} (ha:Let n a):((psL n gens).map fun g=>!(cmB (tP a) g))=(barL gens).map fun g=>apB g a:=by
 apply List.ext_getElem?
 intro i
 by_cases hi:i<gens.length
 ·obtain ⟨T,hT⟩:∃ T,gens[i]?=some T:=⟨_,qX hi⟩
  obtain ⟨g1,g2,g3,g4⟩:=ps_at hn hall hT;rw [jM,jM,g1,g2]
  show some (!(cmB (tP a) (pkO n T)))=some (apB (T.drop 1) a)
  rw [cm_ap (by omega) ha g3 (tP_is (by omega) ha) g4,apB_ap,apN_comm a]
  congr 1
  by_cases h:apN (T.drop 1) a % 2=0
  ·rw [jJ h,jE (by omega)];rfl
  ·rw [jE h,jJ (by omega)];rfl
 ·rw [jT (by unfold psL;rw [jY,jY];omega),jT (by unfold barL;rw [jY,jY];omega)]
theorem numB_inj:∀ (a b:List Bool),a.length=b.length->numB a=numB b->a=b
 | [],[],_,_=>rfl
 | [],_ :: _,h,_=>by simp at h
 | _ :: _,[],h,_=>by simp at h
 | x :: r,y :: s,hl,h=>by
  rw [numB,numB] at h
  have hx:x=y/\numB r=numB s:=by
   cases x<;>cases y<;>simp at h ⊢<;>omega
  rw [hx.1,numB_inj r s (by simpa using hl) hx.2]
theorem sh_mk {n:Nat} (hn:n<=12) {gens:List (List UInt8)} (hall:∀ T ∈ gens,isP n T=true) {s:List Int} (hl:s.length=gens.length) (hs:∀ x ∈ s,x=0\/x=1) {a:List UInt8} (ha:Let n a):(shN (psL n gens) (tP a) == mkN s)=synQ gens s a:=by
 unfold shN mkN synQ;rw [shB hn hall ha,syB gens a]
 have hsb:s=(s.map fun x=>x == 1).map fun b=>if b then 1 else 0:=by
  rw [List.map_map];refine (List.map_id s).symm.trans (List.map_congr_left fun x hx=>?_)
  rcases hs x hx with rfl | rfl<;>rfl
 rw [Bool.eq_iff_iff,yY,jZ]
 constructor
 ·intro h
  have e:=numB_inj _ _ (by rw [jY,jY,hl];unfold barL;rw [jY]) h;rw [e,<-hsb]
 ·intro h
  rw [<-h,List.map_map]
  congr 1
  refine (List.map_id _).symm.trans (List.map_congr_left fun b _=>?_)
  cases b<;>rfl
theorem cc_ind {n:Nat} {gens:List (List UInt8)} (h:(ccF (n:Int) gens).1=0):∀ (i:Nat) (g:List UInt8),(barL gens)[i]?=some g->g ∉ grp n ((barL gens).take i):=by
 have hd:dcI n (barL gens)=-1:=by
  unfold ccF at h;rw [yT] at h
  split at h
  ·exact absurd h (by decide)
  split at h
  ·exact absurd h (by decide)
  split at h
  ·exact absurd h (by simp)
  split at h
  ·exact absurd h (by simp)
  split at h
  ·exact absurd h (by simp)
  omega
 intro i g hg hm;have hi:=(jG.1 hg).1;have h9:=fstI_ne _ _ _ hd i (qI _) (by omega);unfold dcAt at h9;rw [show (barL gens).getD i []=g by rw [qQ,hg];rfl] at h9;exact of_decide_eq_false h9 hm
theorem barL_lenA (gens:List (List UInt8)):(barL gens).length=gens.length:=by unfold barL;rw [jY]
theorem bst_syn {n:Nat} {gens:List (List UInt8)} (h:(ccF (n:Int) gens).1=0) {s:List Int} (hl:s.length=gens.length) (hs:∀ x ∈ s,x=0\/x=1):∃ b,bst wtT (synQ gens s) (erR n)=some b/\Let n b/\synL gens b=s:=by
 obtain ⟨_,_,_,hall⟩:=cc_zero h;rw [yT] at hall;have hbl:=bar_let hall;obtain ⟨e,he,hm⟩:=surj (barL gens) hbl (cc_ind h) (s.map fun x=>x == 1) (by rw [jY,hl,barL_lenA])
 have hq:synQ gens s e=true:=by
  unfold synQ;rw [syB,hm,List.map_map];refine jJ ((List.map_congr_left fun x hx=>?_).trans (List.map_id s))
  rcases hs x hx with rfl | rfl<;>rfl
 have hsp:=bst_spec wtT (synQ gens s) (erR n)
 cases hb:bst wtT (synQ gens s) (erR n) with
 | none =>
  rw [hb] at hsp;rw [hsp e ((erR_let n e).2 he)] at hq
  cases hq
 | some b =>
  rw [hb] at hsp;exact ⟨b,rfl,(erR_let n b).1 hsp.1,of_decide_eq_true hsp.2.1⟩
theorem wt_zero {n:Nat}:∀ {a:List UInt8},Let n a->(wtT a=0↔a=oneT n):=by
 induction n with
 | zero =>
  intro a h;have:a=[]:=List.length_eq_zero_iff.1 h.1;subst this;exact ⟨fun _=>rfl,fun _=>rfl⟩
 | succ n ih =>
  intro a h
  cases a with
  | nil=>have:=h.1;simp at this
  | cons c r =>
   have hr:Let n r:=⟨by simpa using h.1,fun x hx=>h.2 x (by simp [hx])⟩;have e:oneT (n+1)=73 :: oneT n:=rfl;rw [wtT,e,List.cons.injEq,<-ih hr]
   by_cases hc:c=73
   ·rw [qU hc];simp [hc]
   ·rw [qE hc];simp [hc]
theorem in_grp {n:Nat} {gens:List (List UInt8)} (hall:∀ T ∈ gens,isP n T=true) {a:List UInt8} (ha:Let n a):inG (grR n (barL gens)) a=decide (a ∈ grp n (barL gens)):=by
 unfold inG grR
 by_cases h:barL gens=[]
 ·rw [qU h,h]
  show (false || (true && wtT a == 0))=decide (a ∈ [oneT n])
  rw [Bool.false_or,Bool.true_and,Bool.eq_iff_iff,yY,jZ,yG];exact wt_zero ha
 ·rw [qE h]
  have hl:(grp n (barL gens)).length≠0:=by
   rw [(grp_is n (barL gens) (bar_let hall)).2.2];exact Nat.pos_iff_ne_zero.1 (jF (by decide))
  rw [qV.2 hl,Bool.false_and,Bool.or_false,Bool.eq_iff_iff,List.any_eq_true,jZ];exact ⟨fun ⟨p,h1,h2⟩=>by rw [<-yY.1 h2];exact h1,fun h1=>⟨a,h1,yY.2 rfl⟩⟩
end Go.Proofs.YtjfomkoedgipjaaGreatDoor
