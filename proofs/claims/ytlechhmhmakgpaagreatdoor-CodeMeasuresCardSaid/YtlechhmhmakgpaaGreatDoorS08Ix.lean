/-
  The program: a code as it is reckoned with (read): the frame that it begins with. Codes: both sides find the same first fault. The program: the syndrome of an error.
-/
import Derived.Test.YtlechhmhmakgpaaGreatDoorS07It
namespace Go.Proofs.YtlechhmhmakgpaaGreatDoor
set_option maxRecDepth 100000
set_option maxHeartbeats 16000000
open Go.RowKit
theorem stepK_makeMapG {ops:Array Oper} {o:Oper} {a:Act} {K:Act->World->Prop} {Q:Exit->Act->World->Prop} {E:Prop} {w:World} (hgd:o.guard=none)
  (ho:o.op=.makeMap 113 none) (h:K (a.put o.dst (.map (some w.heap.size))) (w.alloc (.map #[] 0))) :
  if Region.wanted o (yielded ops a.tmps)=true then Oper.wp Tryz.prog o a w K Q else E:=by
 have hw:Region.wanted o (yielded ops a.tmps)=true:=by simp [Region.wanted,hgd]
 rw [if_pos hw];obtain ⟨od,oo,ot,opp,oa,og⟩:=o;simp only at ho;subst ho;have HH:=Lh h;clear h;unfold Oper.wp execOp
 go_simp
 exact HH.out
theorem stepK_allocFr {ops:Array Oper} {o:Oper} {a:Act} {K:Act->World->Prop} {Q:Exit->Act->World->Prop} {E:Prop} {w:World} (hgd:o.guard=none) (s:Nat) (hd:o.dst=some s)
  (ho:o.op=.alloc 115) (h:K (a.put (some s) (.pointer (some ⟨w.heap.size,0,none⟩))) (w.alloc (.cells #[.int .i64 0,.slice none 0 0,.map none] 115))) :
  if Region.wanted o (yielded ops a.tmps)=true then Oper.wp Tryz.prog o a w K Q else E:=by
 have hw:Region.wanted o (yielded ops a.tmps)=true:=by simp [Region.wanted,hgd]
 rw [if_pos hw];obtain ⟨od,oo,ot,opp,oa,og⟩:=o;simp only at ho hd;subst ho hd;have HH:=Lh h;clear h;unfold Oper.wp execOp
 go_simp
 exact HH.out
theorem stepK_insertG {ops:Array Oper} {o:Oper} {a:Act} {K:Act->World->Prop} {Q:Exit->Act->World->Prop} {E:Prop} {w w':World} (hgd:o.guard=none) (hd:o.dst=none) (m x v:Operand)
  (ho:o.op=.insert 113 m x v) (b:Nat) (key val:Value) (hm:a.eval m=.map (some b)) (hx:a.eval x=key) (hv:a.eval v=val)
  (hrun:(Instr.mapUpdate 113 (.map (some b)) key val).run Tryz.prog w=.ok () w') (h:K a w') :
  if Region.wanted o (yielded ops a.tmps)=true then Oper.wp Tryz.prog o a w K Q else E:=by
 have hw:Region.wanted o (yielded ops a.tmps)=true:=by simp [Region.wanted,hgd]
 rw [if_pos hw];unfold Oper.wp
 simp [execOp,ho,hm,hx,hv,hrun,Result.andThen]
 show K (a.put o.dst undef) w'
 rw [hd];exact h
theorem fr_info:(Tryz.prog.info? 115).map (·.size)=some 3:=by kernel_rfl
theorem own_ne {w:World} {B n:Nat} {D:DataW Unit} (h:w.ownsMap Tryz.prog 103 (unitElem (H:=Unit)) B n D) {c:Array Value} {t:TypeId} {f:Nat × Nat} (r:w.heap[B]?=some (.cells c t f)):False:=by
 obtain ⟨es,cl,h1,_⟩:=h;rw [h1] at r
 cases r
theorem own_only {w w':World} {B k n:Nat} {D:DataW Unit} (h:w.ownsMap Tryz.prog 103 (unitElem (H:=Unit)) B n D) (hO:Only k w w') (hk:B≠k):w'.ownsMap Tryz.prog 103 (unitElem (H:=Unit)) B n D:=by
 obtain ⟨es,cl,h1,h2⟩:=h;exact ⟨es,cl,(hO.block B hk).trans h1,h2⟩
def pkO (n:Nat) (T:List UInt8):PK:=if h:paX n T<65536/\paZ n T<65536 then ⟨paX n T,paZ n T,paM n T,h.1,h.2⟩ else ⟨0,0,false,by decide,by decide⟩
theorem pa_lt {n:Nat} (hn:n<=12) (T:List UInt8):paX n T<65536/\paZ n T<65536:=by
 have hp:2 ^ n<=4096:=Nat.le_trans (Nat.pow_le_pow_right (by decide) hn) (by decide);unfold paX paZ
 split
 ·rename_i h
  obtain ⟨h1,_⟩:=isP_iff.1 h;have h2:=nX_lt (T.drop 1);have h3:=nZz_lt (T.drop 1);rw [List.length_drop,h1,Nat.add_sub_cancel] at h2 h3;omega
 ·omega
theorem pkO_is {n:Nat} (hn:n<=12) (T:List UInt8):(pkO n T).x=paX n T/\(pkO n T).z=paZ n T/\(pkO n T).m=paM n T:=by
 unfold pkO;rw [dif_pos (pa_lt hn T)];exact ⟨rfl,rfl,rfl⟩
def psL (n:Nat) (gens:List (List UInt8)):List PK:=gens.map (pkO n)
def rdF (N:Int) (gens:List (List UInt8)):Int × Int :=
 if N<1\/12<N then (6,0) else if N<(gens.length:Int) then (21,0) else if pbI N.toNat gens≠-1 then (33,pbI N.toNat gens) else if 0<=apI (psL N.toNat gens) then (34,apI (psL N.toNat gens)) else if 0<=dpI (psL N.toNat gens) then (35,dpI (psL N.toNat gens)) else (0,0)
theorem put3f {w W:World} {g:Nat} (h:Ext w W) (hg:w.heap.size<=g) (a b c:Value):Ext w (((W.setCell ⟨g,0,none⟩ a).setCell ⟨g,1,none⟩ b).setCell ⟨g,2,none⟩ c):=Below.setCell (Below.setCell (Below.setCell h (p:=⟨g,0,none⟩) hg a) (p:=⟨g,1,none⟩) hg b) (p:=⟨g,2,none⟩) hg c
def RdP (N:Int) (gens:List (List UInt8)) (w:World) (e:Ending) (w':World):Prop :=
 ∃ (N':Int) (a:Option Addr) (n c:Nat) (mp:Option Nat),e=.returned (.tuple #[.agg #[.int .i64 N',.slice a n c,.map mp],.agg #[.int .i64 (rdF N gens).1,.int .i64 (rdF N gens).2]])/\Ext w w' /\
  ((rdF N gens).1=0->N'=N/\PsAt w' a n (psL N.toNat gens)/\n<=c/\c<=9223372036854775807/\∃ B keys,mp=some B/\GrpM w' B keys/\SamS keys (psL N.toNat gens))
theorem psL_take (n:Nat) (gens:List (List UInt8)) {i:Nat} {T:List UInt8} (h:gens[i]?=some T):psL n (gens.take (i+1))=psL n (gens.take i)++[pkO n T]:=by
 rw [List.take_add_one,h]
 show psL n (gens.take i++[T])=_
 unfold psL;rw [List.map_append,List.map_cons,List.map_nil]
theorem own_kp3 {w w':World} {base n:Nat} {t:TypeId} {v:Value} {l:List Value} (h:w.ownsRow base t 3 v n l) (k:Ext w w'):w'.ownsRow base t 3 v n l:=by
 obtain ⟨h1,h2 | ⟨g,cap,cur,e1,e2,e3,e4⟩⟩:=h
 ·exact ⟨h1,Or.inl h2⟩
 ·exact ⟨h1,Or.inr ⟨g,cap,cur,e1,e2,(k.block g (gS.1 e3).1).trans e3,e4⟩⟩
theorem FrB.put1 {w:World} {g:Nat} {N:Int} {a:Option Addr} {n c:Nat} {mp:Option Nat} (h:FrB w g N a n c mp) (a':Option Addr) (n' c':Nat):FrB (w.setCell ⟨g,1,none⟩ (.slice a' n' c')) g N a' n' c' mp:=⟨by
 have:=heap_setCell_same w g 1 _ _ (.slice a' n' c') h.row
 simpa using this⟩
theorem rdst_step {W0 wa w7:World} {B B3 base:Nat} {N:Int} {a a':Option Addr} {i cc i' cap:Nat} {R R':List Value} (hB:W0.heap.size<=B/\W0.heap.size<=B3/\B≠B3/\B<base/\B3<base) (hF:FrB wa B3 N a i cc (some B)) (hG:GrpM wa B [(0,0)]) (hE:Ext W0 wa) (ho:wa.ownsRow base 103 3 (.slice a i cc) i R)
  (ho':w7.ownsRow base 103 3 (.slice a' i' cap) i' R') (hg:wa.grownBy w7 (Value.slice a i cc).ownBlock) :
  w7.cell? ⟨B3,1,none⟩=some (.slice a i cc)/\w7.frozen? ⟨B3,1,none⟩=false/\FrB (w7.setCell ⟨B3,1,none⟩ (.slice a' i' cap)) B3 N a' i' cap (some B)/\(w7.setCell ⟨B3,1,none⟩ (.slice a' i' cap)).ownsRow base 103 3 (.slice a' i' cap) i' R'/\GrpM (w7.setCell ⟨B3,1,none⟩ (.slice a' i' cap)) B [(0,0)]/\Ext W0 (w7.setCell ⟨B3,1,none⟩ (.slice a' i' cap))/\wa.heap.size<=(w7.setCell ⟨B3,1,none⟩ (.slice a' i' cap)).heap.size:=by
 have hne:∀ k,k<base->some k≠(Value.slice a i cc).ownBlock:=fun k hk e=>by have:=(own_lt ho k e.symm).1;omega
 have hF7:FrB w7 B3 N a i cc (some B):=⟨(hg.block B3 hF.lt (hne B3 hB.2.2.2.2)).trans hF.row⟩
 have hG7:GrpM w7 B [(0,0)]:=by
  have hl:=hG.lt;obtain ⟨es,cl,e1,e2⟩:=hG.map;exact ⟨hG.ok,es,cl,(hg.block B hl (hne B hB.2.2.2.1)).trans e1,e2⟩
 have hE7:Ext W0 w7:=grown_ext hE hg (fun k hk=>Nat.le_trans (by have h1:=hB.1;have h2:=hB.2.2.2.1;omega) (own_lt ho k hk).1);have on1:Only B3 w7 (w7.setCell ⟨B3,1,none⟩ (.slice a' i' cap)):=(Only.refl _ _).setCell _ _;refine ⟨hF7.x1,frozen_of_row _ B3 1 _ _ hF7.row,hF7.put1 _ _ _,ownsRow_setCell_below ho' hB.2.2.2.2 _,⟨hG.ok,own_only hG7.map on1 hB.2.2.1⟩,cput hE7 hB.2.1 _,?_⟩;rw [on1.size];exact hg.size
theorem own_tur3 {w w':World} {base n B:Nat} {t:TypeId} {v:Value} {l:List Value} (h:w.ownsRow base t 3 v n l) (k:Tur B w w') (hB:B<base):w'.ownsRow base t 3 v n l:=by
 obtain ⟨h1,h2 | ⟨g,cap,cur,e1,e2,e3,e4⟩⟩:=h
 ·exact ⟨h1,Or.inl h2⟩
 ·exact ⟨h1,Or.inr ⟨g,cap,cur,e1,e2,(k.block g (gS.1 e3).1 (by omega)).trans e3,e4⟩⟩
theorem fstI_sign (f:Nat->Bool):∀ k i,fstI f k i=-1\/0<=fstI f k i
 | 0,_=>Or.inl rfl
 | k+1,i=>by
  by_cases e:f i=true
  ·rw [fstI_yes e];right;omega
  ·have e':f i=false:=by simpa using e
   rw [fstI_no e'];exact fstI_sign f k (i+1)
theorem GrpM.only {w w':World} {B k:Nat} {keys:List (Nat × Nat)} (h:GrpM w B keys) (hO:Only k w w') (hk:B≠k):GrpM w' B keys:=⟨h.ok,own_only h.map hO hk⟩
theorem rd_end {w4:World} {base i cc B H:Nat} {a:Option Addr} {l:List PK} {keys:List (Nat × Nat)} {x y z:Value} (ho:w4.ownsRow base 103 3 (.slice a i cc) i (pcs l)) (hG:GrpM w4 B keys) (h2:H+2<base) (hB:H+2<B) (hl:l.length=i) :
  PsAt (((((w4.setCell ⟨H+1,0,none⟩ x).setCell ⟨H+1,1,none⟩ y).setCell ⟨H+1,2,none⟩ z).setCell ⟨H+2,0,none⟩ (.int .i64 0)).setCell ⟨H+2,1,none⟩ (.int .i64 0)) a i l/\GrpM (((((w4.setCell ⟨H+1,0,none⟩ x).setCell ⟨H+1,1,none⟩ y).setCell ⟨H+1,2,none⟩ z).setCell ⟨H+2,0,none⟩ (.int .i64 0)).setCell ⟨H+2,1,none⟩ (.int .i64 0)) B keys:=by
 have l1:H+1<base:=by omega
 have o5:=ownsRow_setCell_below (ownsRow_setCell_below (ownsRow_setCell_below (ownsRow_setCell_below (ownsRow_setCell_below ho (a:=⟨H+1,0,none⟩) l1 x) (a:=⟨H+1,1,none⟩) l1 y) (a:=⟨H+1,2,none⟩) l1 z) (a:=⟨H+2,0,none⟩) h2 (.int .i64 0)) (a:=⟨H+2,1,none⟩) h2 (.int .i64 0);obtain ⟨a2,c2,e2,_,_,hps⟩:=ps_of_own o5 hl
 cases e2
 refine ⟨hps,?_⟩;have on1:Only (H+1) w4 (((w4.setCell ⟨H+1,0,none⟩ x).setCell ⟨H+1,1,none⟩ y).setCell ⟨H+1,2,none⟩ z):=(((Only.refl _ _).setCell _ _).setCell _ _).setCell _ _;exact (hG.only on1 (by omega)).only (((Only.refl _ _).setCell _ _).setCell _ _) (by omega)
theorem samS_one:SamS [(0,0)] []:=fun p=>by
 show p ∈ [(0,0)]↔p ∈ gsL []
 rfl
theorem read_any (N:Int) (gens:List (List UInt8)) (ao:Option Addr) (k c:Nat) (w:World) (hG:StrsAt w ao k gens) (hT:∀ T ∈ gens,T.length<=9223372036854775807) (hk9:k<=9223372036854775806) :
  Calls Tryz.prog 64 #[.agg #[.int .i64 N,.slice ao k c]] w fun e w'=>RdP N gens w e w':=by
 unfold RdP;obtain ⟨F,hF⟩:∃ F,rdF N gens=F:=⟨_,rfl⟩;obtain ⟨F0,F1⟩:=F;rw [hF];unfold rdF at hF;obtain ⟨H,hH⟩:∃ H,w.heap.size=H:=⟨_,rfl⟩;obtain ⟨W0,hW0⟩:∃ W0,((w.alloc (.cells #[.int .i64 N,.slice ao k c] 59)).alloc (.cells #[.int .i64 0,.slice none 0 0,.map none] 115)).alloc (.cells #[.int .i64 0,.int .i64 0] 29)=W0:=⟨_,rfl⟩
 have E0:Ext w W0:=by rw [<-hW0];exact ((ext_al w _).trans (ext_al _ _)).trans (ext_al _ _)
 have C0:CoB W0 H N ao k c:=by rw [<-hW0,<-hH];exact ((CoB.new w _ _ _ _).ext (ext_al _ _)).ext (ext_al _ _)
 have s1:(w.alloc (.cells #[.int .i64 N,.slice ao k c] 59)).heap.size=H+1:=by rw [<-hH];simp
 have s2:((w.alloc (.cells #[.int .i64 N,.slice ao k c] 59)).alloc (.cells #[.int .i64 0,.slice none 0 0,.map none] 115)).heap.size=H+2:=by rw [World.size_alloc,s1]
 have R0:FrB W0 (H+1) 0 none 0 0 none:=by rw [<-hW0,<-s1];exact (FrB.new _ _ _ _ _ _).ext (ext_al _ _)
 have bF:FtB W0 (H+2) 0 0:=⟨by rw [<-hW0,<-s2];exact heap_alloc_new _ _⟩;have hlg:gens.length=k:=hG.1;rw [hlg] at hF;have HE0:=Lh E0;have HC:=Lh C0;have HRt:=Lh R0;have HFt:=Lh bF;have HG:=Lh (hG.ext E0);have HF:=Lh hF;have HW0:=Lh hW0;have HH:=Lh hH;have Hlg:=Lh hlg;have HTl:=Lh hT;have Hk9:=Lh hk9;have HwH:=Lh (show w.heap.size<=H+1/\w.heap.size<=H+2 by omega);have v0:=C0.x0;have v1:=C0.x1;clear hG hT hF hH hW0 E0 C0 bF R0 hlg hk9 s1 s2
 go_enter Tryz.func64,Tryz.ntmps64
 go_upto_region 1 with fail
 rw [HW0.out,HH.out];clear HW0 HH
 by_cases h1:N<1
 ·have HF2:=Lh (show F0=6/\F1=0 by have:=HF.out;rw [if_pos (Or.inl h1)] at this;exact ⟨(congrArg Prod.fst this).symm,(congrArg Prod.snd this).symm⟩)
  have bz:=HFt.out.ext (Ext.refl W0);have rz:=HRt.out.ext (Ext.refl W0);have x0':=bz.x0;have x1':=bz.x1;have g0':=bz.f 0;have g1':=bz.f 1;have y0':=rz.x0;have y1':=rz.x1;have y2':=rz.x2;have h0':=frozen_of_row _ (H+1) 0 _ _ rz.row;have h1':=frozen_of_row _ (H+1) 1 _ _ rz.row;have h2':=frozen_of_row _ (H+1) 2 _ _ rz.row;have HEy:=Lh (HE0.out.trans (Ext.refl W0));clear bz rz
  go_wp2_with fail
  exact bodyPost_ret (v:=.tuple #[.agg #[.int .i64 0,.slice none 0 0,.map none],.agg #[.int .i64 6,.int .i64 0]]) (by simp [results,Tryz.results64,go_sem,x0',x1',y0',y1',y2']) rfl ⟨_,_,_,_,_,by rw [HF2.out.1,HF2.out.2],put2x (put3f HEy.out HwH.out.1 _ _ _) HwH.out.2 _ _,fun h=>absurd (HF2.out.1.symm.trans h) (by decide)⟩
 by_cases h2:12<N
 ·have HF2:=Lh (show F0=6/\F1=0 by have:=HF.out;rw [if_pos (Or.inr h2)] at this;exact ⟨(congrArg Prod.fst this).symm,(congrArg Prod.snd this).symm⟩)
  have bz:=HFt.out.ext (Ext.refl W0);have rz:=HRt.out.ext (Ext.refl W0);have x0':=bz.x0;have x1':=bz.x1;have g0':=bz.f 0;have g1':=bz.f 1;have y0':=rz.x0;have y1':=rz.x1;have y2':=rz.x2;have h0':=frozen_of_row _ (H+1) 0 _ _ rz.row;have h1':=frozen_of_row _ (H+1) 1 _ _ rz.row;have h2':=frozen_of_row _ (H+1) 2 _ _ rz.row;have HEy:=Lh (HE0.out.trans (Ext.refl W0));clear bz rz
  go_wp2_with fail
  exact bodyPost_ret (v:=.tuple #[.agg #[.int .i64 0,.slice none 0 0,.map none],.agg #[.int .i64 6,.int .i64 0]]) (by simp [results,Tryz.results64,go_sem,x0',x1',y0',y1',y2']) rfl ⟨_,_,_,_,_,by rw [HF2.out.1,HF2.out.2],put2x (put3f HEy.out HwH.out.1 _ _ _) HwH.out.2 _ _,fun h=>absurd (HF2.out.1.symm.trans h) (by decide)⟩
 have hF:=HF.out;rw [if_neg (by omega)] at hF
 by_cases h3:N<(k:Int)
 ·have HF2:=Lh (show F0=21/\F1=0 by rw [if_pos h3] at hF;exact ⟨(congrArg Prod.fst hF).symm,(congrArg Prod.snd hF).symm⟩)
  clear hF;have bz:=HFt.out.ext (Ext.refl W0);have rz:=HRt.out.ext (Ext.refl W0);have x0':=bz.x0;have x1':=bz.x1;have g0':=bz.f 0;have g1':=bz.f 1;have y0':=rz.x0;have y1':=rz.x1;have y2':=rz.x2;have h0':=frozen_of_row _ (H+1) 0 _ _ rz.row;have h1':=frozen_of_row _ (H+1) 1 _ _ rz.row;have h2':=frozen_of_row _ (H+1) 2 _ _ rz.row;have HEy:=Lh (HE0.out.trans (Ext.refl W0));clear bz rz
  go_wp2_with fail
  exact bodyPost_ret (v:=.tuple #[.agg #[.int .i64 0,.slice none 0 0,.map none],.agg #[.int .i64 21,.int .i64 0]]) (by simp [results,Tryz.results64,go_sem,x0',x1',y0',y1',y2']) rfl ⟨_,_,_,_,_,by rw [HF2.out.1,HF2.out.2],put2x (put3f HEy.out HwH.out.1 _ _ _) HwH.out.2 _ _,fun h=>absurd (HF2.out.1.symm.trans h) (by decide)⟩
 rw [if_neg h3] at hF;have HF1:=Lh hF;have Hk:=Lh (show (k:Int)<=N/\1<=N/\N<=12 by omega);clear hF HF
 go_upto_region 5 with fail
 go_cut [4] from 31 to 37 (fun s4 wx=>∃ B3 B:Nat,s4=.pointer (some ⟨B3,0,none⟩)/\FrB wx B3 N none 0 0 (some B)/\GrpM wx B [(0,0)]/\Ext W0 wx/\W0.heap.size<=B/\W0.heap.size<=B3/\B≠B3)
 case first =>
  have HSj:=Lh (fun (w':World) (hx:Ext W0 w')=>(show w'.cell? ⟨H,0,none⟩=some (.int .i64 N) from cell_ext v0 hx));clear v0 v1;have G_:Ext W0 W0.drew:=Below.drew (Ext.refl _);refine wp_region_K 9 (fun w'=>w'.cell? ⟨H,0,none⟩=some (.int .i64 N)) (by kernel_rfl) ?_
  show anyK _ _ _ _ _ _ 10 #[false,false,false,false,false,false,false,false,false,false] _ _
  refine kT 0 10 (v:=?_) rfl (Or.inl ⟨by rfl,?_⟩) (HSj.out _ G_) ?_;rotate_left 1
  ·intro w hSw
   go_simp
   try with_reducible rfl
  show anyK _ _ _ _ _ _ _ _ (Act.put _ (some 31) _) _
  simp only [Act.put,sx0,sx1,sx2];refine kT 1 10 (v:=?_) rfl (Or.inl ⟨by rfl,?_⟩) (HSj.out _ G_) ?_;rotate_left 1
  ·intro w hSw
   go_simp
   try with_reducible rfl
  show anyK _ _ _ _ _ _ _ _ (Act.put _ (some 32) _) _
  simp only [Act.put,sx0,sx1,sx2];refine kT 3 10 (v:=?_) rfl (Or.inl ⟨by rfl,?_⟩) (HSj.out _ G_) ?_;rotate_left 1
  ·intro w hSw
   go_simp
   try with_reducible rfl
  show anyK _ _ _ _ _ _ _ _ (Act.put _ (some 34) _) _
  simp only [Act.put,sx0,sx1,sx2];refine kT 4 10 (v:=?_) rfl (Or.inl ⟨by rfl,?_⟩) (HSj.out _ G_) ?_;rotate_left 1
  ·intro w hSw
   go_simp
   try with_reducible rfl
  show anyK _ _ _ _ _ _ _ _ (Act.put _ (some 35) _) _
  simp only [Act.put,sx0,sx1,sx2];refine anyK_pairC (i:=2) (j:=8) (by kernel_rfl) rfl rfl (fun Kk hKk=>?_) (fun Kk hKk=>?_)
  ·refine stepK_makeMapG rfl rfl ?_
   refine hKk.out _ _ (fun _=>HSj.out _ (cthen G_ _)) ?_;clear hKk Kk;obtain ⟨wM,hwM⟩:∃ V,(W0.drew).alloc (.map #[] 0)=V:=⟨_,rfl⟩;obtain ⟨B,hB⟩:∃ B,(W0.drew).heap.size=B:=⟨_,rfl⟩
   have hy:Ext (W0.drew) wM:=by rw [<-hwM];exact ext_al _ _
   have hm:wM.ownsMap Tryz.prog 103 (unitElem (H:=Unit)) B 0 (.map []):=by rw [<-hwM,<-hB];exact World.ownsMap_made _ _ _ _
   have sB:W0.heap.size<=B:=by rw [<-hB];exact (G_).size
   have EM:Ext W0 wM:=(G_).trans hy
   show anyK _ _ _ _ _ _ _ _ (Act.put _ (some 33) _) _
   simp only [Act.put,sx0,sx1,sx2];rw [hwM,hB];clear hwM hB hy;refine anyK_pairC (i:=5) (j:=8) (by kernel_rfl) rfl rfl (fun Kk hKk=>?_) (fun Kk hKk=>?_)
   ·obtain ⟨wI,hrun,hm,hgr⟩:=hm.update keyedP Tryz.underlying113 (by unfold maxLen;decide) (kl_eq (x:=0) (z:=0) (by decide) (by decide) false) unit_val
    refine stepK_insertG rfl rfl _ _ _ rfl B _ _ rfl rfl rfl hrun ?_;have EI:Ext W0 wI:=grown_ext EM hgr (fun k hk=>by cases hk;exact sB);refine hKk.out _ _ (fun _=>HSj.out _ EI) ?_;clear hKk Kk;simp only [sx0,sx1,sx2];refine kT 6 10 (v:=?_) rfl (Or.inl ⟨by rfl,?_⟩) (HSj.out _ EI) ?_;rotate_left 1
    ·intro w hSw
     go_simp
     try with_reducible rfl
    show anyK _ _ _ _ _ _ _ _ (Act.put _ (some 36) _) _
    simp only [Act.put,sx0,sx1,sx2];refine kT 7 10 (v:=?_) rfl (Or.inl ⟨by rfl,?_⟩) (HSj.out _ EI) ?_;rotate_left 1
    ·intro w hSw
     go_simp
     try with_reducible rfl
    show anyK _ _ _ _ _ _ _ _ (Act.put _ (some 37) _) _
    simp only [Act.put,sx0,sx1,sx2];refine anyK_one (i:=8) (by kernel_rfl) rfl (fun Kk hKk=>?_);refine stepK_allocFr rfl 4 rfl rfl ?_;refine hKk.out _ _ (fun _=>HSj.out _ (cthen EI _)) ?_;clear hKk Kk;obtain ⟨wA,hwA⟩:∃ V,(wI).alloc (.cells #[.int .i64 0,.slice none 0 0,.map none] 115)=V:=⟨_,rfl⟩;obtain ⟨B3,hB3⟩:∃ B,(wI).heap.size=B:=⟨_,rfl⟩
    have hy:Ext (wI) wA:=by rw [<-hwA];exact ext_al _ _
    have r3:wA.heap[B3]?=some (.cells #[.int .i64 0,.slice none 0 0,.map none] 115 (0,0)):=by rw [<-hwA,<-hB3];exact heap_alloc_new _ _
    have s3:W0.heap.size<=B3:=by rw [<-hB3];exact (EI).size
    have EA:Ext W0 wA:=(EI).trans hy;have hm:=own_ext hm hy
    show anyK _ _ _ _ _ _ _ _ (Act.put _ (some 4) _) _
    simp only [Act.put,sx0,sx1,sx2];rw [hwA,hB3];clear hwA hB3 hy
    have hne:B≠B3:=by intro e;subst e;exact own_ne hm r3
    refine anyK_one (i:=9) (by kernel_rfl) rfl (fun Kk hKk=>?_);refine stepK_storeRowC rfl rfl 115 _ _ rfl B3 #[.int .i64 N,.slice none 0 0,.map (some B)] rfl rfl 115 _ r3 fr_info rfl (by kernel_rfl) ?_;refine hKk.out _ _ (fun h=>Bool.noConfusion (show true=false from h)) ?_;clear hKk Kk;simp only [sx0,sx1,sx2];refine anyK_done (by kernel_rfl) ?_ _;have Hfin:=Lh (And.intro (show FrB (wA.setRow B3 #[.int .i64 N,.slice none 0 0,.map (some B)]) B3 N none 0 0 (some B) from ⟨setRow_heap wA B3 _ #[.int .i64 N,.slice none 0 0,.map (some B)] _ _ r3⟩) (And.intro (show GrpM (wA.setRow B3 #[.int .i64 N,.slice none 0 0,.map (some B)]) B [(0,0)] from ⟨fun p hp=>by cases List.mem_singleton.1 hp;exact ⟨by decide,by decide⟩,own_only hm (setRow_onlyC wA B3 #[.int .i64 N,.slice none 0 0,.map (some B)]) hne⟩) (ext_onlyC EA (setRow_onlyC wA B3 #[.int .i64 N,.slice none 0 0,.map (some B)]) s3)))
    go_wp2_with fail
    go_meet
    exact ⟨B3,B,rfl,Hfin.out.1,Hfin.out.2.1,Hfin.out.2.2,sB,s3,hne⟩
   ·refine stepK_allocFr rfl 4 rfl rfl ?_
    refine hKk.out _ _ (fun _=>HSj.out _ (cthen EM _)) ?_;clear hKk Kk;obtain ⟨wA,hwA⟩:∃ V,(wM).alloc (.cells #[.int .i64 0,.slice none 0 0,.map none] 115)=V:=⟨_,rfl⟩;obtain ⟨B3,hB3⟩:∃ B,(wM).heap.size=B:=⟨_,rfl⟩
    have hy:Ext (wM) wA:=by rw [<-hwA];exact ext_al _ _
    have r3:wA.heap[B3]?=some (.cells #[.int .i64 0,.slice none 0 0,.map none] 115 (0,0)):=by rw [<-hwA,<-hB3];exact heap_alloc_new _ _
    have s3:W0.heap.size<=B3:=by rw [<-hB3];exact (EM).size
    have EA:Ext W0 wA:=(EM).trans hy;have hm:=own_ext hm hy
    show anyK _ _ _ _ _ _ _ _ (Act.put _ (some 4) _) _
    simp only [Act.put,sx0,sx1,sx2];rw [hwA,hB3];clear hwA hB3 hy;refine anyK_one (i:=5) (by kernel_rfl) rfl (fun Kk hKk=>?_);have hmo:=hm;obtain ⟨wI,hrun,hm,hgr⟩:=hm.update keyedP Tryz.underlying113 (by unfold maxLen;decide) (kl_eq (x:=0) (z:=0) (by decide) (by decide) false) unit_val;refine stepK_insertG rfl rfl _ _ _ rfl B _ _ rfl rfl rfl hrun ?_;have EI:Ext W0 wI:=grown_ext EA hgr (fun k hk=>by cases hk;exact sB);have r3:=((Tur.grown hgr).block B3 (lt_rowC r3) (by intro e;subst e;exact own_ne hmo r3)).trans r3;refine hKk.out _ _ (fun _=>HSj.out _ EI) ?_;clear hKk Kk;simp only [sx0,sx1,sx2];refine kT 6 10 (v:=?_) rfl (Or.inl ⟨by rfl,?_⟩) (HSj.out _ EI) ?_;rotate_left 1
    ·intro w hSw
     go_simp
     try with_reducible rfl
    show anyK _ _ _ _ _ _ _ _ (Act.put _ (some 36) _) _
    simp only [Act.put,sx0,sx1,sx2];refine kT 7 10 (v:=?_) rfl (Or.inl ⟨by rfl,?_⟩) (HSj.out _ EI) ?_;rotate_left 1
    ·intro w hSw
     go_simp
     try with_reducible rfl
    show anyK _ _ _ _ _ _ _ _ (Act.put _ (some 37) _) _
    simp only [Act.put,sx0,sx1,sx2]
    have hne:B≠B3:=by intro e;subst e;exact own_ne hm r3
    refine anyK_one (i:=9) (by kernel_rfl) rfl (fun Kk hKk=>?_);refine stepK_storeRowC rfl rfl 115 _ _ rfl B3 #[.int .i64 N,.slice none 0 0,.map (some B)] rfl rfl 115 _ r3 fr_info rfl (by kernel_rfl) ?_;refine hKk.out _ _ (fun h=>Bool.noConfusion (show true=false from h)) ?_;clear hKk Kk;simp only [sx0,sx1,sx2];refine anyK_done (by kernel_rfl) ?_ _;have Hfin:=Lh (And.intro (show FrB (wI.setRow B3 #[.int .i64 N,.slice none 0 0,.map (some B)]) B3 N none 0 0 (some B) from ⟨setRow_heap wI B3 _ #[.int .i64 N,.slice none 0 0,.map (some B)] _ _ r3⟩) (And.intro (show GrpM (wI.setRow B3 #[.int .i64 N,.slice none 0 0,.map (some B)]) B [(0,0)] from ⟨fun p hp=>by cases List.mem_singleton.1 hp;exact ⟨by decide,by decide⟩,own_only hm (setRow_onlyC wI B3 #[.int .i64 N,.slice none 0 0,.map (some B)]) hne⟩) (ext_onlyC EI (setRow_onlyC wI B3 #[.int .i64 N,.slice none 0 0,.map (some B)]) s3)))
    go_wp2_with fail
    go_meet
    exact ⟨B3,B,rfl,Hfin.out.1,Hfin.out.2.1,Hfin.out.2.2,sB,s3,hne⟩
  ·refine stepK_allocFr rfl 4 rfl rfl ?_
   refine hKk.out _ _ (fun _=>HSj.out _ (cthen G_ _)) ?_;clear hKk Kk;obtain ⟨wA,hwA⟩:∃ V,(W0.drew).alloc (.cells #[.int .i64 0,.slice none 0 0,.map none] 115)=V:=⟨_,rfl⟩;obtain ⟨B3,hB3⟩:∃ B,(W0.drew).heap.size=B:=⟨_,rfl⟩
   have hy:Ext (W0.drew) wA:=by rw [<-hwA];exact ext_al _ _
   have r3:wA.heap[B3]?=some (.cells #[.int .i64 0,.slice none 0 0,.map none] 115 (0,0)):=by rw [<-hwA,<-hB3];exact heap_alloc_new _ _
   have s3:W0.heap.size<=B3:=by rw [<-hB3];exact (G_).size
   have EA:Ext W0 wA:=(G_).trans hy
   show anyK _ _ _ _ _ _ _ _ (Act.put _ (some 4) _) _
   simp only [Act.put,sx0,sx1,sx2];rw [hwA,hB3];clear hwA hB3 hy;refine anyK_one (i:=2) (by kernel_rfl) rfl (fun Kk hKk=>?_);refine stepK_makeMapG rfl rfl ?_;refine hKk.out _ _ (fun _=>HSj.out _ (cthen EA _)) ?_;clear hKk Kk;obtain ⟨wM,hwM⟩:∃ V,(wA).alloc (.map #[] 0)=V:=⟨_,rfl⟩;obtain ⟨B,hB⟩:∃ B,(wA).heap.size=B:=⟨_,rfl⟩
   have hy:Ext (wA) wM:=by rw [<-hwM];exact ext_al _ _
   have hm:wM.ownsMap Tryz.prog 103 (unitElem (H:=Unit)) B 0 (.map []):=by rw [<-hwM,<-hB];exact World.ownsMap_made _ _ _ _
   have sB:W0.heap.size<=B:=by rw [<-hB];exact (EA).size
   have EM:Ext W0 wM:=(EA).trans hy;have r3:=rowEC r3 hy
   show anyK _ _ _ _ _ _ _ _ (Act.put _ (some 33) _) _
   simp only [Act.put,sx0,sx1,sx2];rw [hwM,hB];clear hwM hB hy;refine anyK_one (i:=5) (by kernel_rfl) rfl (fun Kk hKk=>?_);have hmo:=hm;obtain ⟨wI,hrun,hm,hgr⟩:=hm.update keyedP Tryz.underlying113 (by unfold maxLen;decide) (kl_eq (x:=0) (z:=0) (by decide) (by decide) false) unit_val;refine stepK_insertG rfl rfl _ _ _ rfl B _ _ rfl rfl rfl hrun ?_;have EI:Ext W0 wI:=grown_ext EM hgr (fun k hk=>by cases hk;exact sB);have r3:=((Tur.grown hgr).block B3 (lt_rowC r3) (by intro e;subst e;exact own_ne hmo r3)).trans r3;refine hKk.out _ _ (fun _=>HSj.out _ EI) ?_;clear hKk Kk;simp only [sx0,sx1,sx2];refine kT 6 10 (v:=?_) rfl (Or.inl ⟨by rfl,?_⟩) (HSj.out _ EI) ?_;rotate_left 1
   ·intro w hSw
    go_simp
    try with_reducible rfl
   show anyK _ _ _ _ _ _ _ _ (Act.put _ (some 36) _) _
   simp only [Act.put,sx0,sx1,sx2];refine kT 7 10 (v:=?_) rfl (Or.inl ⟨by rfl,?_⟩) (HSj.out _ EI) ?_;rotate_left 1
   ·intro w hSw
    go_simp
    try with_reducible rfl
   show anyK _ _ _ _ _ _ _ _ (Act.put _ (some 37) _) _
   simp only [Act.put,sx0,sx1,sx2]
   have hne:B≠B3:=by intro e;subst e;exact own_ne hm r3
   refine anyK_one (i:=9) (by kernel_rfl) rfl (fun Kk hKk=>?_);refine stepK_storeRowC rfl rfl 115 _ _ rfl B3 #[.int .i64 N,.slice none 0 0,.map (some B)] rfl rfl 115 _ r3 fr_info rfl (by kernel_rfl) ?_;refine hKk.out _ _ (fun h=>Bool.noConfusion (show true=false from h)) ?_;clear hKk Kk;simp only [sx0,sx1,sx2];refine anyK_done (by kernel_rfl) ?_ _;have Hfin:=Lh (And.intro (show FrB (wI.setRow B3 #[.int .i64 N,.slice none 0 0,.map (some B)]) B3 N none 0 0 (some B) from ⟨setRow_heap wI B3 _ #[.int .i64 N,.slice none 0 0,.map (some B)] _ _ r3⟩) (And.intro (show GrpM (wI.setRow B3 #[.int .i64 N,.slice none 0 0,.map (some B)]) B [(0,0)] from ⟨fun p hp=>by cases List.mem_singleton.1 hp;exact ⟨by decide,by decide⟩,own_only hm (setRow_onlyC wI B3 #[.int .i64 N,.slice none 0 0,.map (some B)]) hne⟩) (ext_onlyC EI (setRow_onlyC wI B3 #[.int .i64 N,.slice none 0 0,.map (some B)]) s3)))
   go_wp2_with fail
   go_meet
   exact ⟨B3,B,rfl,Hfin.out.1,Hfin.out.2.1,Hfin.out.2.2,sB,s3,hne⟩
 case rest =>
 obtain ⟨B3,B,rfl,hFr,hGM,hE1,hB,hB3,hne⟩:=hcut;obtain ⟨nn,rfl⟩:∃ nn:Nat,N=(nn:Int):=⟨N.toNat,by have:=Hk.out;omega⟩;obtain ⟨i0,hi0,hz0,hz1,hz2⟩:=info_parts P_info;have hF:=HF1.out;simp only [Int.toNat_natCast] at hF;obtain ⟨P,hP⟩:∃ P,pbI nn gens=P:=⟨_,rfl⟩;obtain ⟨A,hA⟩:∃ A,apI (psL nn gens)=A:=⟨_,rfl⟩;obtain ⟨D,hD⟩:∃ D,dpI (psL nn gens)=D:=⟨_,rfl⟩;rw [hP,hA,hD] at hF;unfold pbI at hP;rw [Hlg.out] at hP;have HP:=Lh hP;have HA:=Lh hA;have HD:=Lh hD;have HF3:=Lh hF;have HFr:=Lh hFr;have HGM:=Lh hGM;have HE1:=Lh hE1;have HB:=Lh (show W0.heap.size<=B/\W0.heap.size<=B3/\B≠B3/\B<wc.heap.size/\B3<wc.heap.size from ⟨hB,hB3,hne,hGM.lt,hFr.lt⟩);have HW2:=Lh (show H+2<W0.heap.size from HFt.out.lt);have k1:=(HC.out.ext hE1).x1;clear hF hP hA hD hFr hGM hE1 hB hB3 hne v0 v1 HF1 h1 h2 h3
 go_wp2_with fail
 clear k1
 go_loopg [5,6,7,8,41] k (fun kk _ _ _ _ s41 wr=>∃ (i:Nat) (a:Option Addr) (cc:Nat),s41=.int .i64 (i:Int)/\i<=k/\k-i=kk/\fstI (fun i=>!(isP nn (gens.getD i []))) (k-i) i=P/\FrB wr B3 (nn:Int) a i cc (some B)/\wr.ownsRow wc.heap.size 103 3 (.slice a i cc) i (pcs (psL nn (gens.take i)))/\GrpM wr B [(0,0)]/\Ext W0 wr/\wc.heap.size<=wr.heap.size)
 case atStart=>exact ⟨0,none,0,rfl,Nat.zero_le _,rfl,HP.out,HFr.out,⟨rfl,Or.inl ⟨rfl,rfl⟩⟩,HGM.out,HE1.out,Nat.le_refl _⟩
 case round =>
  obtain ⟨i,a,cc,rfl,hi,hkk,hfs,hFr,hown,hGM,hE,hsz⟩:=hrel;have HFr2:=Lh hFr;have Hown:=Lh hown;have HGM2:=Lh hGM;have HE:=Lh hE;have Hsz:=Lh hsz;have Hkk:=Lh hkk;have Hfs:=Lh hfs;clear HFr HGM HE1
  by_cases hin:i=k
  ·have p1:¬ (i:Int)<(k:Int):=by omega
   have hPm:P=-1:=by have h8:=Hfs.out;rw [hin,Nat.sub_self] at h8;exact h8.symm
   have hF:=HF3.out;rw [if_neg (by rw [hPm];simp)] at hF;have HF4:=Lh hF;have hst:gens.take i=gens:=List.take_of_length_le (by have:=Hlg.out;omega);rw [hst] at Hown
   have hpl:(psL nn gens).length=i:=by unfold psL;rw [List.length_map,Hlg.out,hin]
   have Hpl:=Lh hpl;obtain ⟨a2,c2,e2,hac,hcm,hps⟩:=ps_of_own Hown.out hpl
   cases e2
   have HAp:=Lh (firstApart_any (psL nn gens) (nn:Int) a i cc (some B) wr hps (by have:=Hk.out;omega) hac hcm);rw [HA.out] at HAp;have Hac:=Lh (And.intro hac hcm);have Hi:=Lh (show i<=12 by have:=Hk.out;omega);have y0:=HFr2.out.x0;have y1:=HFr2.out.x1;have y2:=HFr2.out.x2;clear hi hkk hfs hFr hown hGM hE hsz hin hPm hF hst hpl hac hcm hps Hfs
   go_wp2_with fail
   refine HAp.out.mono ?_;rintro e w3 ⟨rfl,hx3⟩;have HE3:=Lh (HE.out.trans hx3);have HFr3:=Lh (HFr2.out.ext hx3);have HG3:=Lh (HGM2.out.ext hx3);have HO3:=Lh (own_kp3 Hown.out hx3);have Hs3:=Lh (Nat.le_trans Hsz.out hx3.size);clear hx3 y0 y1 y2 HAp
   by_cases hA0:0<=A
   ·have HF2:=Lh (show F0=34/\F1=A by
     have h7:=HF4.out;rw [if_pos hA0] at h7
     exact ⟨(congrArg Prod.fst h7).symm,(congrArg Prod.snd h7).symm⟩)
    have bz:=HFt.out.ext HE3.out;have rz:=HRt.out.ext HE3.out;have x0':=bz.x0;have x1':=bz.x1;have g0':=bz.f 0;have g1':=bz.f 1;have y0':=rz.x0;have y1':=rz.x1;have y2':=rz.x2;have h0':=frozen_of_row _ (H+1) 0 _ _ rz.row;have h1':=frozen_of_row _ (H+1) 1 _ _ rz.row;have h2':=frozen_of_row _ (H+1) 2 _ _ rz.row;have HEy:=Lh (HE0.out.trans HE3.out);clear bz rz
    go_wp2_with fail
    exact bodyPost_ret (v:=.tuple #[.agg #[.int .i64 0,.slice none 0 0,.map none],.agg #[.int .i64 34,.int .i64 A]]) (by simp [results,Tryz.results64,go_sem,x0',x1',y0',y1',y2']) rfl ⟨_,_,_,_,_,by rw [HF2.out.1,HF2.out.2],put2x (put3f HEy.out HwH.out.1 _ _ _) HwH.out.2 _ _,fun h=>absurd (HF2.out.1.symm.trans h) (by decide)⟩
   have hF:=HF4.out;rw [if_neg hA0] at hF;have HF5:=Lh hF;obtain ⟨a2,c2,e2,_,_,hps⟩:=ps_of_own HO3.out Hpl.out
   cases e2
   have HFg:=Lh (fillGroup_any (psL nn gens) (nn:Int) a i cc B [(0,0)] w3 hps Hi.out HG3.out (by simp) samS_one);rw [HD.out] at HFg;have y0:=HFr3.out.x0;have y1:=HFr3.out.x1;have y2:=HFr3.out.x2;clear hF hps
   go_wp2_with fail
   refine HFg.out.mono ?_;rintro e w4 ⟨rfl,hTu,hKy⟩;have HE4:=Lh (hTu.ext HE3.out HB.out.1);have HFr4:=Lh (HFr3.out.tur hTu (Ne.symm HB.out.2.2.1));have HO4:=Lh (own_tur3 HO3.out hTu HB.out.2.2.2.1);have HKy:=Lh hKy;clear hTu hKy y0 y1 y2 HFg
   by_cases hD0:0<=D
   ·have HF2:=Lh (show F0=35/\F1=D by
     have h7:=HF5.out;rw [if_pos hD0] at h7
     exact ⟨(congrArg Prod.fst h7).symm,(congrArg Prod.snd h7).symm⟩)
    have bz:=HFt.out.ext HE4.out;have rz:=HRt.out.ext HE4.out;have x0':=bz.x0;have x1':=bz.x1;have g0':=bz.f 0;have g1':=bz.f 1;have y0':=rz.x0;have y1':=rz.x1;have y2':=rz.x2;have h0':=frozen_of_row _ (H+1) 0 _ _ rz.row;have h1':=frozen_of_row _ (H+1) 1 _ _ rz.row;have h2':=frozen_of_row _ (H+1) 2 _ _ rz.row;have HEy:=Lh (HE0.out.trans HE4.out);clear bz rz
    go_wp2_with fail
    exact bodyPost_ret (v:=.tuple #[.agg #[.int .i64 0,.slice none 0 0,.map none],.agg #[.int .i64 35,.int .i64 D]]) (by simp [results,Tryz.results64,go_sem,x0',x1',y0',y1',y2']) rfl ⟨_,_,_,_,_,by rw [HF2.out.1,HF2.out.2],put2x (put3f HEy.out HwH.out.1 _ _ _) HwH.out.2 _ _,fun h=>absurd (HF2.out.1.symm.trans h) (by decide)⟩
   have hDm:D=-1:=by
    have h9:=fstI_sign (dpAt (psL nn gens)) (psL nn gens).length 0;rw [show fstI (dpAt (psL nn gens)) (psL nn gens).length 0=D from HD.out] at h9;omega
   have HF2:=Lh (show F0=0/\F1=0 by
    have h7:=HF5.out;rw [if_neg hD0] at h7
    exact ⟨(congrArg Prod.fst h7).symm,(congrArg Prod.snd h7).symm⟩)
   obtain ⟨keys',hK1,hK2⟩:=HKy.out hDm;have HK1:=Lh hK1;have HK2:=Lh hK2;have bz:=HFt.out.ext HE4.out;have rz:=HRt.out.ext HE4.out;have x0':=bz.x0;have x1':=bz.x1;have g0':=bz.f 0;have g1':=bz.f 1;have y0':=rz.x0;have y1':=rz.x1;have y2':=rz.x2;have h0':=frozen_of_row _ (H+1) 0 _ _ rz.row;have h1':=frozen_of_row _ (H+1) 1 _ _ rz.row;have h2':=frozen_of_row _ (H+1) 2 _ _ rz.row;have z0:=HFr4.out.x0;have z1:=HFr4.out.x1;have z2:=HFr4.out.x2;have HEy:=Lh (HE0.out.trans HE4.out)
   have hsB:H+2<wc.heap.size:=by have h9:=HW2.out;have h8:=HB.out;omega
   have HX:=Lh (rd_end (H:=H) (x:=.int .i64 (nn:Int)) (y:=.slice a i cc) (z:=.map (some B)) HO4.out hK1 (by omega) (by have h9:=HW2.out;have h8:=HB.out;omega) Hpl.out);clear bz rz hDm hK1 hK2 hsB
   go_wp2_with fail
   exact bodyPost_ret (v:=.tuple #[.agg #[.int .i64 (nn:Int),.slice a i cc,.map (some B)],.agg #[.int .i64 0,.int .i64 0]]) (by simp [results,Tryz.results64,go_sem,x0',x1',y0',y1',y2']) rfl ⟨_,_,_,_,_,by rw [HF2.out.1,HF2.out.2],put2x (put3f HEy.out HwH.out.1 _ _ _) HwH.out.2 _ _,fun _=>⟨rfl,by rw [Int.toNat_natCast];exact HX.out.1,Hac.out.1,Hac.out.2,B,keys',rfl,HX.out.2,by rw [Int.toNat_natCast];exact HK2.out⟩⟩
  have hlt:i<k:=by omega
  have q1:(i:Int)<(k:Int):=by omega
  have q0:(0:Int)<=(i:Int):=by omega
  have wk:IntKind.i64.wrap ((i:Int)+1)=((i+1:Nat):Int):=by rw [IntKind.wrap_i64];have:=Hk.out;omega
  obtain ⟨T,hT⟩:∃ T,gens[i]?=some T:=⟨_,List.getElem?_eq_getElem (by have:=Hlg.out;omega)⟩;obtain ⟨b,o,rfl,hb,hcells⟩:=(HG.out.ext hE).at (by omega);have c0:=hcells i hlt
  have hgd:gens.getD i []=T:=by rw [List.getD_eq_getElem?_getD,hT];rfl
  rw [hgd] at c0;have k0:=(HC.out.ext hE).x0;have HPa:=Lh (pParse_any T nn wr (by have:=Hk.out;omega) (by have:=Hk.out;omega) (HTl.out T (List.mem_of_getElem? hT)));have hpk:=pkO_is (n:=nn) (by have:=Hk.out;omega) T;have Hps:=Lh (psL_take nn gens hT);obtain ⟨pk,hpke⟩:∃ pk,pkO nn T=pk:=⟨_,rfl⟩;rw [hpke] at hpk Hps;rw [<-hpk.1,<-hpk.2.1,<-hpk.2.2] at HPa
  have hsu:k-i=(k-(i+1))+1:=by omega
  rw [hsu] at Hfs;have Hgd:=Lh hgd;have Hlt:=Lh hlt;clear hi hkk hfs hFr hown hGM hE hsz hin hlt hT hcells hb hgd hpk hpke hsu
  go_wp2_with fail
  refine HPa.out.mono ?_;rintro e w2 ⟨rfl,hx2⟩;obtain ⟨K2,hK2⟩:∃ K,w2.heap.size=K:=⟨_,rfl⟩;obtain ⟨U2,hU2⟩:∃ U,w2.alloc (.cells #[.int .u16 (pk.x:Int),.int .u16 (pk.z:Int),.bool pk.m] 103)=U:=⟨_,rfl⟩
  have EU2:Ext wr U2:=by rw [<-hU2];exact hx2.trans (ext_al _ _)
  have bP:PuB U2 K2 pk.x pk.z pk.m:=by rw [<-hU2,<-hK2];exact PuB.new w2 _ _ _
  have HEU:=Lh EU2;have HbP:=Lh bP;have HU2:=Lh hU2;have HK2:=Lh hK2;clear hx2 EU2 bP hU2 hK2 HPa c0 k0
  go_upto_region 10 with fail
  rw [HU2.out,HK2.out];clear HU2 HK2;have HE4:=Lh (HE.out.trans HEU.out)
  cases hbb:isP nn T with
  | false =>
   have HF2:=Lh (show F0=33/\F1=(i:Int) by
    have h9:P=(i:Int):=by have h8:=Hfs.out;rw [fstI_yes (by rw [Hgd.out,hbb];rfl)] at h8;exact h8.symm
    have h7:=HF3.out;rw [if_pos (by rw [h9];omega),h9] at h7
    exact ⟨(congrArg Prod.fst h7).symm,(congrArg Prod.snd h7).symm⟩)
   clear hbb;have bz:=HFt.out.ext HE4.out;have rz:=HRt.out.ext HE4.out;have x0':=bz.x0;have x1':=bz.x1;have g0':=bz.f 0;have g1':=bz.f 1;have y0':=rz.x0;have y1':=rz.x1;have y2':=rz.x2;have h0':=frozen_of_row _ (H+1) 0 _ _ rz.row;have h1':=frozen_of_row _ (H+1) 1 _ _ rz.row;have h2':=frozen_of_row _ (H+1) 2 _ _ rz.row;have HEy:=Lh (HE0.out.trans HE4.out);clear bz rz
   go_wp2_with fail
   exact bodyPost_ret (v:=.tuple #[.agg #[.int .i64 0,.slice none 0 0,.map none],.agg #[.int .i64 33,.int .i64 (i:Int)]]) (by simp [results,Tryz.results64,go_sem,x0',x1',y0',y1',y2']) rfl ⟨_,_,_,_,_,by rw [HF2.out.1,HF2.out.2],put2x (put3f HEy.out HwH.out.1 _ _ _) HwH.out.2 _ _,fun h=>absurd (HF2.out.1.symm.trans h) (by decide)⟩
  | true =>
   have HZ:=Lh (show fstI (fun i=>!(isP nn (gens.getD i []))) (k-(i+1)) (i+1)=P by
    have h8:=Hfs.out;rw [fstI_no (by rw [Hgd.out,hbb];rfl)] at h8
    exact h8)
   have f1:=(HFr2.out.ext HEU.out).x1;have p0:=HbP.out.x0;have p1:=HbP.out.x1;have p2:=HbP.out.x2;have hown2:=own_kp3 Hown.out HEU.out;have HO2:=Lh hown2;have HFr3:=Lh (HFr2.out.ext HEU.out);have HGM3:=Lh (HGM2.out.ext HEU.out);obtain ⟨R,hR⟩:∃ R,pcs (psL nn (gens.take i))=R:=⟨_,rfl⟩;rw [hR] at HO2;have Hps2:=Lh (show pcs (psL nn (gens.take (i+1)))=R++[.int .u16 (pk.x:Int),.int .u16 (pk.z:Int),.bool pk.m] by rw [Hps.out,pcs_snoc,hR]);clear hbb hown2 hR
   go_wp2_with (at_builtin;refine wpList_append_own _ rfl _ _ 71 rfl wc.heap.size 103 i0 (.agg #[.int .u16 0,.int .u16 0,.bool false]) 3 6 Tryz.underlying71 hi0 hz0 hz1 hz2 rfl (by decide) _ i R rfl (HO2.out.alloc _) ⟨U2.heap.size,0,none⟩ 1 1 [.int .u16 (pk.x:Int),.int .u16 (pk.z:Int),.bool pk.m] rfl rfl (three_new _ _ _ _ _) (by simp [Value.oneCell']) (by unfold maxLen;have:=Hk.out;have:=Hlt.out;omega) (by have:=Hk.out;have:=Hlt.out;omega) (Nat.le_trans Hsz.out (Nat.le_trans HEU.out.size (ext_al U2 _).size)) ?_;intro v' w7 hown' hgrow' _;obtain ⟨g',cap',rfl⟩:=ownsRow_succ hown';have Hst:=Lh (rdst_step HB.out (HFr3.out.ext (ext_al U2 _)) (HGM3.out.ext (ext_al U2 _)) (HE4.out.trans (ext_al U2 _)) (HO2.out.alloc _) hown' hgrow');have z1:=Hst.out.1;have z2:=Hst.out.2.1;clear hown' hgrow')
   go_roundg (k-(i+1))
   case measure=>have:=Hkk.out;have:=Hlt.out;omega
   case rel=>exact ⟨i+1,_,_,rfl,Hlt.out,rfl,HZ.out,Hst.out.2.2.1,by rw [Hps2.out];exact Hst.out.2.2.2.1,Hst.out.2.2.2.2.1,Hst.out.2.2.2.2.2.1,Nat.le_trans (Nat.le_trans Hsz.out (Nat.le_trans HEU.out.size (ext_al U2 _).size)) Hst.out.2.2.2.2.2.2⟩
theorem fstI_congr {f g:Nat->Bool}:∀ (k i:Nat),(∀ j,i<=j->j<i+k->f j=g j)->fstI f k i=fstI g k i
 | 0,_,_=>rfl
 | k+1,i,h=>by
  unfold fstI;rw [h i (Nat.le_refl _) (by omega),fstI_congr k (i+1) (fun j h1 h2=>h j (by omega) (by omega))]
section
variable {n:Nat} {gens:List (List UInt8)} (hn:n<=12) (hall:∀ T ∈ gens,isP n T=true)
include hn hall
theorem ps_at {i:Nat} {T:List UInt8} (h:gens[i]?=some T):(psL n gens)[i]?=some (pkO n T)/\(barL gens)[i]?=some (T.drop 1)/\Let n (T.drop 1)/\IsT (pkO n T) (T.drop 1):=by
 have hT:=hall T (List.mem_of_getElem? h);obtain ⟨e1,e2,_⟩:=pkO_is hn T;refine ⟨by unfold psL;rw [List.getElem?_map,h];rfl,by unfold barL;rw [List.getElem?_map,h];rfl,(isP_let hT).2,?_,?_⟩
 ·rw [e1];unfold paX;rw [if_pos hT]
 ·rw [e2];unfold paZ;rw [if_pos hT]
theorem ap_ac {i:Nat} (hi:i<gens.length):apAt (psL n gens) i=acAt (barL gens) i:=by
 obtain ⟨T,hT⟩:∃ T,gens[i]?=some T:=⟨_,List.getElem?_eq_getElem hi⟩;obtain ⟨h1,h2,h3,h4⟩:=ps_at hn hall hT
 have hd:(barL gens).getD i []=T.drop 1:=by rw [List.getD_eq_getElem?_getD,h2];rfl
 unfold apAt acAt;rw [h1,hd]
 show ((psL n gens).take i).any (fun p=>!(cmB p (pkO n T)))=_
 rw [Bool.eq_iff_iff,List.any_eq_true,List.any_eq_true]
 constructor
 ·rintro ⟨p,hp,hq⟩
  obtain ⟨k,hk⟩:=List.getElem?_of_mem hp
  have hki:k<i:=by have:=(List.getElem?_eq_some_iff.1 hk).1;rw [List.length_take] at this;omega
  obtain ⟨S,hS⟩:∃ S,gens[k]?=some S:=⟨_,List.getElem?_eq_getElem (by omega)⟩;obtain ⟨g1,g2,g3,g4⟩:=ps_at hn hall hS;rw [List.getElem?_take,if_pos hki,g1] at hk
  cases hk
  refine ⟨k,List.mem_range.2 hki,?_⟩
  have hd':(barL gens).getD k []=S.drop 1:=by rw [List.getD_eq_getElem?_getD,g2];rfl
  rw [hd',apN_comm];rw [cm_ap (by omega) g3 h3 g4 h4] at hq
  simp at hq ⊢
  omega
 ·rintro ⟨k,hk,hq⟩
  have hki:=List.mem_range.1 hk;obtain ⟨S,hS⟩:∃ S,gens[k]?=some S:=⟨_,List.getElem?_eq_getElem (by omega)⟩;obtain ⟨g1,g2,g3,g4⟩:=ps_at hn hall hS;refine ⟨pkO n S,List.mem_of_getElem? (i:=k) (by rw [List.getElem?_take,if_pos hki,g1]),?_⟩
  have hd':(barL gens).getD k []=S.drop 1:=by rw [List.getD_eq_getElem?_getD,g2];rfl
  rw [hd',apN_comm] at hq;rw [cm_ap (by omega) g3 h3 g4 h4]
  simp at hq ⊢
  omega
theorem dp_dc {i:Nat} (hi:i<gens.length):dpAt (psL n gens) i=dcAt n (barL gens) i:=by
 obtain ⟨T,hT⟩:∃ T,gens[i]?=some T:=⟨_,List.getElem?_eq_getElem hi⟩;obtain ⟨h1,h2,h3,h4⟩:=ps_at hn hall hT
 have hd:(barL gens).getD i []=T.drop 1:=by rw [List.getD_eq_getElem?_getD,h2];rfl
 unfold dpAt dcAt;rw [h1,hd]
 have hg:=grp_gs (n:=n) (ls:=(barL gens).take i) (ps:=(psL n gens).take i) (by rw [List.length_take,List.length_take];unfold barL psL;rw [List.length_map,List.length_map]) (fun a ha=>by
   obtain ⟨S,hS,rfl⟩:=List.mem_map.1 (List.mem_of_mem_take ha)
   exact (isP_let (hall S hS)).2) (fun k a p hk hp=>by
   have hki:k<i:=by have:=(List.getElem?_eq_some_iff.1 hk).1;rw [List.length_take] at this;omega
   obtain ⟨S,hS⟩:∃ S,gens[k]?=some S:=⟨_,List.getElem?_eq_getElem (by omega)⟩;obtain ⟨g1,g2,g3,g4⟩:=ps_at hn hall hS;rw [List.getElem?_take,if_pos hki,g2] at hk;rw [List.getElem?_take,if_pos hki,g1] at hp
   cases hk;cases hp
   exact g4) h3
 show decide (((pkO n T).x,(pkO n T).z) ∈ gsL ((psL n gens).take i))=_
 rw [h4.1,h4.2];exact decide_eq_decide.2 hg
end
theorem rd_cc (N:Int) (gens:List (List UInt8)):rdF N gens=ccF N gens:=by
 unfold rdF ccF
 by_cases h1:N<1\/12<N
 ·rw [if_pos h1,if_pos h1]
 rw [if_neg h1,if_neg h1]
 by_cases h2:N<(gens.length:Int)
 ·rw [if_pos h2,if_pos h2]
 rw [if_neg h2,if_neg h2]
 by_cases h3:pbI N.toNat gens≠-1
 ·rw [if_pos h3,if_pos h3]
 rw [if_neg h3,if_neg h3]
 have h3:pbI N.toNat gens=-1:=by omega
 have hall:∀ T ∈ gens,isP N.toNat T=true:=fun T hT=>by
  obtain ⟨j,hj⟩:=List.getElem?_of_mem hT;have hjl:=(List.getElem?_eq_some_iff.1 hj).1;have h9:=fstI_ne _ _ _ h3 j (Nat.zero_le _) (by omega)
  simpa only [List.getD_eq_getElem?_getD,hj,Option.getD_some,Bool.not_eq_false'] using h9
 have hA:apI (psL N.toNat gens)=acI (barL gens):=by
  unfold apI acI;rw [show (psL N.toNat gens).length=gens.length by simp [psL],barL_len];exact fstI_congr _ _ (fun j _ hj=>ap_ac (by omega) hall (by omega))
 have hD:dpI (psL N.toNat gens)=dcI N.toNat (barL gens):=by
  unfold dpI dcI;rw [show (psL N.toNat gens).length=gens.length by simp [psL],barL_len];exact fstI_congr _ _ (fun j _ hj=>dp_dc (by omega) hall (by omega))
 have s1:=fstI_sign (acAt (barL gens)) (barL gens).length 0;have s2:=fstI_sign (dcAt N.toNat (barL gens)) (barL gens).length 0;rw [hA,hD];have e1:(0<=acI (barL gens))=(acI (barL gens)≠-1):=propext (by unfold acI;omega);have e2:(0<=dcI N.toNat (barL gens))=(dcI N.toNat (barL gens)≠-1):=propext (by unfold dcI;omega);simp only [e1,e2]
theorem ftc_info:(Tryz.prog.info? 29).map (·.size)=some 2:=by kernel_rfl
theorem cc_zero {N:Int} {gens:List (List UInt8)} (h:(ccF N gens).1=0):1<=N/\N<=12/\(gens.length:Int)<=N/\∀ T ∈ gens,isP N.toNat T=true:=by
 unfold ccF at h
 by_cases h1:N<1\/12<N
 ·rw [if_pos h1] at h;exact absurd h (by decide)
 rw [if_neg h1] at h
 by_cases h2:N<(gens.length:Int)
 ·rw [if_pos h2] at h;exact absurd h (by decide)
 rw [if_neg h2] at h
 by_cases h3:pbI N.toNat gens≠-1
 ·rw [if_pos h3] at h;exact absurd h (by simp)
 have h3:pbI N.toNat gens=-1:=by omega
 refine ⟨by omega,by omega,by omega,fun T hT=>?_⟩;obtain ⟨j,hj⟩:=List.getElem?_of_mem hT;have hjl:=(List.getElem?_eq_some_iff.1 hj).1;have h9:=fstI_ne _ _ _ h3 j (Nat.zero_le _) (by omega)
 simpa only [List.getD_eq_getElem?_getD,hj,Option.getD_some,Bool.not_eq_false'] using h9
theorem syn_bits {n:Nat} {gens:List (List UInt8)} (hn:n<=12) (hall:∀ T ∈ gens,isP n T=true) {T:List UInt8} (hT:isP n T=true):bitsL (shN (psL n gens) (pkO n T)) gens.length=synL gens (T.drop 1):=by
 have hp:IsT (pkO n T) (T.drop 1):=by
  obtain ⟨e1,e2,_⟩:=pkO_is hn T;exact ⟨by rw [e1];unfold paX;rw [if_pos hT],by rw [e2];unfold paZ;rw [if_pos hT]⟩
 apply List.ext_getElem?
 intro i
 by_cases hi:i<gens.length
 ·obtain ⟨G,hG⟩:∃ G,gens[i]?=some G:=⟨_,List.getElem?_eq_getElem hi⟩
  obtain ⟨g1,g2,g3,g4⟩:=ps_at hn hall hG
  have hb:((psL n gens).map fun g=>!(cmB (pkO n T) g))[i]?=some (!(cmB (pkO n T) (pkO n G))):=by rw [List.getElem?_map,g1];rfl
  have h9:=numB_at _ i _ hb;unfold bitsL synL;rw [List.getElem?_map,List.getElem?_map,List.getElem?_range hi,hG]
  show some (((shN (psL n gens) (pkO n T) / 2 ^ i % 2:Nat):Int))=some (if apN (G.drop 1) (T.drop 1) % 2=1 then 1 else 0)
  unfold shN;rw [h9,cm_ap (by omega) (isP_let hT).2 g3 hp g4,apN_comm]
  by_cases e:apN (G.drop 1) (T.drop 1) % 2=1
  ·rw [if_pos e,decide_eq_false (by omega)];rfl
  ·rw [if_neg e,decide_eq_true (by omega)];rfl
 ·rw [List.getElem?_eq_none (by rw [bitsL_len];omega),List.getElem?_eq_none (by unfold synL;rw [List.length_map];omega)]
theorem shN_lt {l:List PK} {p:PK} (h:l.length<=12):shN l p<65536:=by
 unfold shN;have h1:=numB_lt (l.map fun g=>!(cmB p g));rw [List.length_map] at h1;have h2:2 ^ l.length<=2 ^ 12:=Nat.pow_le_pow_right (by decide) h;omega
theorem ints_own_only {w w':World} {base n k:Nat} {a:Option Addr} {c:Nat} {l:List Int} (h:w.ownsRow base 3 1 (.slice a n c) n (iC l)) (hO:Only k w w') (hk:k<base):IntsAt w' a n l:=by
 have h':w'.ownsRow base 3 1 (.slice a n c) n (iC l):=by
  obtain ⟨h1,h2 | ⟨g,cap,cur,e1,e2,e3,e4⟩⟩:=h
  ·exact ⟨h1,Or.inl h2⟩
  ·exact ⟨h1,Or.inr ⟨g,cap,cur,e1,e2,(hO.block g (by omega)).trans e3,e4⟩⟩
 obtain ⟨a2,c2,e,_,_,hI,_⟩:=ints_of_own h'
 cases e
 exact hI
theorem put2d {w W:World} {g:Nat} (h:Ext w W) (hg:w.heap.size<=g) (u v:Value):Ext w ((W.drew.setCell ⟨g,0,none⟩ u).setCell ⟨g,1,none⟩ v):=put2x (h.trans (Below.drew (Ext.refl _))) hg u v
def syF (N:Int) (gens:List (List UInt8)) (T:List UInt8):Int × Int:=if (ccF N gens).1≠0 then ccF N gens else if isP N.toNat T then (0,0) else (33,0)
theorem Syndrome_any (N:Int) (gens:List (List UInt8)) (T:List UInt8) (ao:Option Addr) (k c:Nat) (w:World) (hG:StrsAt w ao k gens) (hT:∀ T ∈ gens,T.length<=9223372036854775807) (hk9:k<=9223372036854775806) (hTl:T.length<=9223372036854775807) :
  Calls Tryz.prog 69 #[.agg #[.int .i64 N,.slice ao k c],.string ⟨T.toArray⟩] w fun e w'=>∃ r,e=.returned (.tuple #[r,.agg #[.int .i64 (syF N gens T).1,.int .i64 (syF N gens T).2]])/\Ext w w'/\((syF N gens T).1=0->∃ a c',r=.slice a k c'/\k<=c'/\c'<=9223372036854775807/\IntsAt w' a k (synL gens (T.drop 1))/\∀ ad,a=some ad->w.heap.size<=ad.block)/\((syF N gens T).1≠0->r=.slice none 0 0):=by
 obtain ⟨Y,hY⟩:∃ Y,syF N gens T=Y:=⟨_,rfl⟩;rw [hY];unfold syF at hY;obtain ⟨H,hH⟩:∃ H,w.heap.size=H:=⟨_,rfl⟩;obtain ⟨W0,hW0⟩:∃ W0,(w.alloc (.cells #[.int .i64 N,.slice ao k c] 59)).alloc (.cells #[.int .i64 0,.int .i64 0] 29)=W0:=⟨_,rfl⟩
 have E0:Ext w W0:=by rw [<-hW0];exact (ext_al w _).trans (ext_al _ _)
 have C0:CoB W0 H N ao k c:=by rw [<-hW0,<-hH];exact (CoB.new w _ _ _ _).ext (ext_al _ _)
 have bF:FtB W0 (H+1) 0 0:=⟨by
  have:=heap_alloc_new (w.alloc (.cells #[.int .i64 N,.slice ao k c] 59)) (.cells #[.int .i64 0,.int .i64 0] 29);rw [<-hW0,<-hH]
  simpa using this⟩
 have HRd:=Lh (read_any N gens ao k c W0 (hG.ext E0) hT hk9);unfold RdP at HRd;rw [rd_cc] at HRd;have hz:=cc_zero (N:=N) (gens:=gens);obtain ⟨F,hF⟩:∃ F,ccF N gens=F:=⟨_,rfl⟩;obtain ⟨F0,F1⟩:=F;rw [hF] at HRd hY hz;simp only at HRd hY hz;have HE0:=Lh E0;have HFt:=Lh bF;have HC:=Lh C0;have HW0:=Lh hW0;have HH:=Lh hH;have HwH:=Lh (show w.heap.size<=H+1 by omega);have HY:=Lh hY;have Hz:=Lh hz;have HTl:=Lh hTl;have Hlg:=Lh (show gens.length=k from hG.1);have v0:=C0.x0;have v1:=C0.x1;clear hG hT hk9 hH hW0 E0 C0 bF hF hY hz hTl
 go_enter Tryz.func69,Tryz.ntmps69
 go_upto_region 1 with fail
 rw [HW0.out,HH.out]
 go_wp2_with fail
 refine HRd.out.mono ?_;rintro e w1 ⟨N',a,n,c',mp,rfl,hx1,hrd⟩;obtain ⟨U,hU⟩:∃ U,(w1.alloc (.cells #[.int .i64 N',.slice a n c',.map mp] 115)).alloc (.cells #[.int .i64 F0,.int .i64 F1] 29)=U:=⟨_,rfl⟩;obtain ⟨K,hK⟩:∃ K,w1.heap.size=K:=⟨_,rfl⟩
 have E1U:Ext w1 U:=by rw [<-hU];exact (ext_al _ _).trans (ext_al _ _)
 have EU:Ext W0 U:=hx1.trans E1U
 have fU:FrB U K N' a n c' mp:=by rw [<-hU,<-hK];exact (FrB.new _ _ _ _ _ _).ext (ext_al _ _)
 have bU:FtB U (K+1) F0 F1:=⟨by
  have:=heap_alloc_new (w1.alloc (.cells #[.int .i64 N',.slice a n c',.map mp] 115)) (.cells #[.int .i64 F0,.int .i64 F1] 29);rw [<-hU,<-hK]
  simpa using this⟩
 have HU:=Lh hU;have HK:=Lh hK;have HfU:=Lh fU;have HEU:=Lh EU;have Hrd:=Lh hrd;have HE1U:=Lh E1U;have u0:=bU.x0;have u1:=bU.x1;clear hx1 hU hK EU bU fU v0 v1 HRd hrd E1U
 go_upto_region 2 with fail
 rw [HU.out,HK.out];clear HU HK
 by_cases hz:F0=0
 rotate_left 1
 ·have hcb:=nt hz
  have hYe:=HY.out;rw [if_pos hz] at hYe;have HYe:=Lh hYe;have bz:=HFt.out.ext HEU.out;have x0':=bz.x0;have x1':=bz.x1;have g0':=bz.f 0;have g1':=bz.f 1;have HEy:=Lh (HE0.out.trans HEU.out);have Hnz:=Lh hz;clear bz hYe hz
  go_upto_region 3 with fail
  go_region
  go_wp2_with fail
  exact bodyPost_ret (v:=.tuple #[.slice none 0 0,.agg #[.int .i64 F0,.int .i64 F1]]) (by simp [results,Tryz.results69,go_sem,x0',x1']) rfl ⟨_,by rw [<-HYe.out],put2d HEy.out HwH.out _ _,fun h=>absurd (by rw [<-HYe.out] at h;exact h) Hnz.out,fun _=>rfl⟩
 have hcb:=nf' hz;obtain ⟨hN',hps,hac,hcm,_⟩:=Hrd.out hz;subst hN';obtain ⟨n1,n12,nk,hall⟩:=Hz.out hz;rw [Hlg.out] at nk;obtain ⟨nn,rfl⟩:∃ nn:Nat,N'=(nn:Int):=⟨N'.toNat,by omega⟩;simp only [Int.toNat_natCast] at hps hall;have hYe:=HY.out;rw [if_neg (by simp [hz])] at hYe;simp only [Int.toNat_natCast] at hYe
 have hnk:n=k:=by have h9:=hps.1;unfold psL at h9;rw [List.length_map,Hlg.out] at h9;omega
 have hnn:nn<=12/\1<=nn:=by omega
 have HPa:=Lh (pParse_any T nn U (by omega) (by omega) HTl.out);have hpk:=pkO_is (n:=nn) (by omega) T;obtain ⟨pk,hpke⟩:∃ pk,pkO nn T=pk:=⟨_,rfl⟩;rw [hpke] at hpk;rw [<-hpk.1,<-hpk.2.1,<-hpk.2.2] at HPa;have Hsy:=Lh (fun (h:isP nn T=true)=>syn_bits (n:=nn) (gens:=gens) (by omega) hall h);rw [hpke,Hlg.out] at Hsy;have HSh:=Lh (fun (wx:World) (hx:Ext U wx)=>shown_any (psL nn gens) pk (nn:Int) a n c' mp wx ((hps.ext HE1U.out).ext hx) (by omega))
 have hk12:n<=12:=by omega
 have hsl:shN (psL nn gens) pk<65536:=shN_lt (by unfold psL;rw [List.length_map,Hlg.out];omega);obtain ⟨sh,hsh⟩:∃ s,shN (psL nn gens) pk=s:=⟨_,rfl⟩;rw [hsh] at HSh Hsy hsl;have HLi:=Lh (fun wx=>list_any sh n wx hsl hk12);have HYe:=Lh hYe;have Hnk:=Lh hnk;have d0:=(HC.out.ext HEU.out).x0;clear hz hps hac hcm n1 n12 nk hall hYe hnk hnn hpk hpke hk12 hsl hsh HY Hz Hrd u1
 go_wp2_with fail
 refine HPa.out.mono ?_;rintro e w2 ⟨rfl,hx2⟩;obtain ⟨K4,hK4⟩:∃ K,w2.heap.size=K:=⟨_,rfl⟩;obtain ⟨U4,hU4⟩:∃ U,w2.alloc (.cells #[.int .u16 (pk.x:Int),.int .u16 (pk.z:Int),.bool pk.m] 103)=U:=⟨_,rfl⟩
 have E4:Ext U U4:=by rw [<-hU4];exact hx2.trans (ext_al _ _)
 have bP:PuB U4 K4 pk.x pk.z pk.m:=by rw [<-hU4,<-hK4];exact PuB.new w2 _ _ _
 have p0:=bP.x0;have p1:=bP.x1;have p2:=bP.x2;have f0:=(HfU.out.ext E4).x0;have f1:=(HfU.out.ext E4).x1;have f2:=(HfU.out.ext E4).x2;have HE4:=Lh (HEU.out.trans E4);have HSh4:=Lh (fun (wx:World) (hx:Ext U4 wx)=>HSh.out wx (E4.trans hx));have HU4:=Lh hU4;have HK4:=Lh hK4;have HH4:=Lh (show H+1<U4.heap.size from ((HFt.out.ext (HEU.out.trans E4)).lt));clear hx2 E4 bP hU4 hK4 HPa d0 HSh u0 hcb;have HSh:=HSh4;clear HSh4
 go_upto_region 5 with fail
 rw [HU4.out,HK4.out];clear HU4 HK4
 cases hbb:isP nn T with
 | false =>
  have HF2:=Lh (show Y=(33,0) by have h9:=HYe.out;rw [if_neg (by rw [hbb];decide)] at h9;exact h9.symm);have bz:=HFt.out.ext HE4.out;have x0':=bz.x0;have x1':=bz.x1;have g0':=bz.f 0;have g1':=bz.f 1;have HEy:=Lh (HE0.out.trans HE4.out);clear bz hbb
  go_wp2_with fail
  exact bodyPost_ret (v:=.tuple #[.slice none 0 0,.agg #[.int .i64 33,.int .i64 0]]) (by simp [results,Tryz.results69,go_sem,x0',x1']) rfl ⟨_,by rw [HF2.out],put2x HEy.out HwH.out _ _,fun h=>absurd (by rw [HF2.out] at h;exact h) (by decide),fun _=>rfl⟩
 | true =>
  have HF2:=Lh (show Y=(0,0) by have h9:=HYe.out;rw [if_pos hbb] at h9;exact h9.symm);have Hsyn:=Lh (Hsy.out hbb);clear hbb
  go_upto_region 7 with fail
  have HSj:=Lh (fun (w':World) (hx:Ext U4 w')=>(show w'.cell? ⟨K,0,none⟩=some (.int .i64 (nn:Int))/\w'.cell? ⟨K,1,none⟩=some (.slice a n c')/\w'.cell? ⟨K,2,none⟩=some (.map mp)/\w'.cell? ⟨K4,0,none⟩=some (.int .u16 (pk.x:Int))/\w'.cell? ⟨K4,1,none⟩=some (.int .u16 (pk.z:Int))/\w'.cell? ⟨K4,2,none⟩=some (.bool pk.m) from ⟨cell_ext f0 hx,cell_ext f1 hx,cell_ext f2 hx,cell_ext p0 hx,cell_ext p1 hx,cell_ext p2 hx⟩));have G_:Ext U4 U4.drew:=Below.drew (Ext.refl _);clear f0 f1 f2 p0 p1 p2;refine wp_region_K 9 (fun w'=>w'.cell? ⟨K,0,none⟩=some (.int .i64 (nn:Int))/\w'.cell? ⟨K,1,none⟩=some (.slice a n c')/\w'.cell? ⟨K,2,none⟩=some (.map mp)/\w'.cell? ⟨K4,0,none⟩=some (.int .u16 (pk.x:Int))/\w'.cell? ⟨K4,1,none⟩=some (.int .u16 (pk.z:Int))/\w'.cell? ⟨K4,2,none⟩=some (.bool pk.m)) (by kernel_rfl) ?_
  show anyK _ _ _ _ _ _ 10 #[false,false,false,false,false,false,false,false,false,false] _ _
  refine kT 0 10 (v:=?_) rfl (Or.inl ⟨by rfl,?_⟩) (HSj.out _ G_) ?_;rotate_left 1
  ·intro w hSw
   go_simp
   try with_reducible rfl
  show anyK _ _ _ _ _ _ _ _ (Act.put _ (some 29) _) _
  simp only [Act.put,sx0,sx1,sx2];refine kT 1 10 (v:=?_) rfl (Or.inl ⟨by rfl,?_⟩) (HSj.out _ G_) ?_;rotate_left 1
  ·intro w hSw
   go_simp
   try with_reducible rfl
  show anyK _ _ _ _ _ _ _ _ (Act.put _ (some 30) _) _
  simp only [Act.put,sx0,sx1,sx2];refine kT 3 10 (v:=?_) rfl (Or.inl ⟨by rfl,?_⟩) (HSj.out _ G_) ?_;rotate_left 1
  ·intro w hSw
   go_simp
   try with_reducible rfl
  show anyK _ _ _ _ _ _ _ _ (Act.put _ (some 32) _) _
  simp only [Act.put,sx0,sx1,sx2];refine kT 4 10 (v:=?_) rfl (Or.inl ⟨by rfl,?_⟩) (HSj.out _ G_) ?_;rotate_left 1
  ·intro w hSw
   go_simp
   try with_reducible rfl
  show anyK _ _ _ _ _ _ _ _ (Act.put _ (some 33) _) _
  simp only [Act.put,sx0,sx1,sx2];refine kT 5 10 (v:=?_) rfl (Or.inl ⟨by rfl,?_⟩) (HSj.out _ G_) ?_;rotate_left 1
  ·intro w hSw
   go_simp
   try with_reducible rfl
  show anyK _ _ _ _ _ _ _ _ (Act.put _ (some 34) _) _
  simp only [Act.put,sx0,sx1,sx2];refine kT 7 10 (v:=?_) rfl (Or.inl ⟨by rfl,?_⟩) (HSj.out _ G_) ?_;rotate_left 1
  ·intro w hSw
   go_simp
   try with_reducible rfl
  show anyK _ _ _ _ _ _ _ _ (Act.put _ (some 36) _) _
  simp only [Act.put,sx0,sx1,sx2];refine anyK_one (i:=2) (by kernel_rfl) rfl (fun Kk hKk=>?_)
  go_simp
  (go_at_call 109;refine (HSh.out _ G_).mono ?_;rintro e w5 ⟨rfl,hx5⟩)
  have E5:Ext U4 w5:=G_.trans hx5
  go_wp2_with fail
  refine hKk.out _ _ (fun _=>HSj.out _ E5) ?_;clear hKk Kk hx5;simp only [sx0,sx1,sx2];refine anyK_one (i:=6) (by kernel_rfl) rfl (fun Kk hKk=>?_)
  go_simp
  (go_at_call 110;refine (HLi.out w5).mono ?_;rintro e w6 ⟨⟨v6,rfl,hr6⟩,hx6⟩)
  have E6:Ext U4 w6:=E5.trans hx6;obtain ⟨a6,c6,rfl,hac6,hcm6,hI6,_⟩:=ints_of_own hr6
  go_wp2_with fail
  refine hKk.out _ _ (fun _=>HSj.out _ E6) ?_;clear hKk Kk hx6;simp only [sx0,sx1,sx2];refine anyK_one (i:=8) (by kernel_rfl) rfl (fun Kk hKk=>?_)
  go_wp2_with fail
  refine hKk.out _ _ (fun _=>HSj.out _ E6) ?_;clear hKk Kk;simp only [sx0,sx1,sx2];have bz:=HFt.out.ext (HE4.out.trans E6);refine anyK_one (i:=9) (by kernel_rfl) rfl (fun Kk hKk=>?_);refine stepK_storeRowC rfl rfl 29 _ _ rfl (H+1) #[.int .i64 0,.int .i64 0] rfl rfl 29 _ bz.row ftc_info rfl (by kernel_rfl) ?_;refine hKk.out _ _ (fun h=>Bool.noConfusion (show true=false from h)) ?_;clear hKk Kk;simp only [sx0,sx1,sx2];refine anyK_done (by kernel_rfl) ?_ _;have on1:=setRow_onlyC w6 (H+1) #[.int .i64 0,.int .i64 0];have bX:FtB (w6.setRow (H+1) #[.int .i64 0,.int .i64 0]) (H+1) 0 0:=⟨setRow_heap w6 (H+1) _ _ _ _ bz.row⟩;have x0':=bX.x0;have x1':=bX.x1;have HIx:=Lh (ints_own_only hr6 on1 (by have h9:=HH4.out;have h8:=E5.size;omega));have HEx:=Lh (ext_onlyC (HE0.out.trans (HE4.out.trans E6)) on1 HwH.out);have HLoc:=Lh (fun (ad:Addr) (h:a6=some ad)=>show w.heap.size<=ad.block from Nat.le_trans (HE0.out.trans (HE4.out.trans E5)).size (own_lt hr6 ad.block (by rw [h];rfl)).1);generalize w6.setRow (H+1) #[.int .i64 0,.int .i64 0]=wX at *;clear bz bX on1 hr6 hI6 E5 E6 G_ HSj
  go_wp2_with fail
  exact bodyPost_ret (v:=.tuple #[.slice a6 n c6,.agg #[.int .i64 0,.int .i64 0]]) (by simp [results,Tryz.results69,go_sem,x0',x1']) rfl ⟨_,by rw [HF2.out],HEx.out,fun _=>⟨a6,c6,by rw [Hnk.out],Hnk.out ▸ hac6,Nat.le_trans hcm6 (by unfold maxLen;decide),by rw [<-Hsyn.out,<-Hnk.out];exact HIx.out,HLoc.out⟩,fun h=>absurd (by rw [HF2.out]) h⟩
end Go.Proofs.YtlechhmhmakgpaaGreatDoor
