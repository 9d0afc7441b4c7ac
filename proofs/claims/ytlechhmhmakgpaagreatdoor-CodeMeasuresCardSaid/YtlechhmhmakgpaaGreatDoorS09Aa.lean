/-
  The law's own: a code copied; are two codes alike? The program: a code of which all errors can be gone through (readSearched). The program: a syndrome as it is told, as a number (readMarks). The program: the errors of one weight in their order, for every loop's body (spread), and all errors (errors).
-/
import Derived.Test.YtlechhmhmakgpaaGreatDoorS08Ix
namespace Go.Proofs.YtlechhmhmakgpaaGreatDoor
set_option maxRecDepth 100000
set_option maxHeartbeats 8000000
open Go.RowKit
theorem co_info:(Tryz.prog.info? 59).map (·.size)=some 2:=by kernel_rfl
theorem cells_ofo {w:World} {b o n:Nat} {l:List (List UInt8)} (hl:l.length=n) (h:∀ t,t<n->w.cell? ⟨b,o+t,none⟩=some (.string ⟨(l.getD t []).toArray⟩)):∀ j u,(sC l)[j]?=some u->w.cell? ((⟨b,o,none⟩:Addr).add j)=some u:=by
 intro j u hu
 have hadd:(⟨b,o,none⟩:Addr).add j=⟨b,o+j,none⟩:=by unfold Addr.add;split<;>simp_all
 obtain ⟨h1,_⟩:=List.getElem?_eq_some_iff.1 hu;rw [sC_length] at h1;rw [hadd,h j (by omega)];unfold sC at hu;rw [List.getElem?_map,List.getElem?_eq_getElem h1] at hu;rw [List.getD_eq_getElem?_getD,List.getElem?_eq_getElem h1];exact hu
theorem own_keepS {w w':World} {base:Nat} {e:TypeId} {size:Nat} {v:Value} {n:Nat} {xs:List Value} (h:w.ownsRow base e size v n xs) (hk:∀ (g:Nat) (cur:Array Value),base<=g->w.heap[g]?=some (.cells cur e (0,0))->w'.heap[g]?=w.heap[g]?):w'.ownsRow base e size v n xs:=by
 refine ⟨h.1,?_⟩
 rcases h.2 with h | ⟨g,cap,cur,hv,hb,hg,rest⟩
 ·exact Or.inl h
 ·exact Or.inr ⟨g,cap,cur,hv,hb,(hk g cur hb hg).trans hg,rest⟩
theorem copyCode_any (N:Int) (gens:List (List UInt8)) (ao:Option Addr) (n cp:Nat) (w:World) (h:StrsAt w ao n gens) (hb:n*16<=140737488355328) (hnil:ao=none->cp=0) :
  Calls Tryz.prog 27 #[.agg #[.int .i64 N,.slice ao n cp]] w fun e w'=>∃ a' c',e=.returned (.agg #[.int .i64 N,.slice a' n c'])/\(StrsAt w' a' n gens/\n<=c'/\c'<=9223372036854775807)/\Ext w w':=by
 obtain ⟨i0,hi,hz0,hz1,hz2⟩:=info_parts s_info;obtain ⟨H,hH⟩:∃ H,w.heap.size=H:=⟨_,rfl⟩;obtain ⟨W0,hW0⟩:∃ W0,(w.alloc (.cells #[.int .i64 N,.slice ao n cp] 59)).alloc (.cells #[.int .i64 0,.slice none 0 0] 59)=W0:=⟨_,rfl⟩
 have E0:Ext w W0:=by rw [<-hW0];exact (ext_al w _).trans (ext_al _ _)
 have bD:CoB W0 H N ao n cp:=by rw [<-hW0,<-hH];exact CoB.ext ⟨heap_alloc_new w _⟩ (ext_al _ _)
 have bR:CoB W0 (H+1) 0 none 0 0:=⟨by
  have:=heap_alloc_new (w.alloc (.cells #[.int .i64 N,.slice ao n cp] 59)) (.cells #[.int .i64 0,.slice none 0 0] 59);rw [<-hW0,<-hH]
  simpa using this⟩
 have hs0:W0.heap.size=H+2:=by rw [<-hW0,World.size_alloc,World.size_alloc,hH]
 have hl:=h.1;have hL:=h.ext E0;have HE0:=Lh E0;have HW0:=Lh hW0;have HH:=Lh hH;have HwH:=Lh (show w.heap.size<=H+1 by omega)
 have key:∃ v' w1,(Builtin.append_ #[27,27] 27 #[.slice none 0 0,.slice ao n cp]).run Tryz.prog W0.drew=.ok v' w1/\w1.ownsRow W0.drew.heap.size 9 1 v' n (sC gens)/\Ext W0.drew w1:=by
  have hO0:W0.drew.ownsRow W0.drew.heap.size 9 1 (.slice none 0 0) 0 []:=⟨rfl,Or.inl ⟨rfl,rfl⟩⟩
  cases ao with
  | none =>
   have hn0:n=0:=by
    rcases hL.2 with h0 | ⟨b,o,e,_⟩
    ·exact h0
    ·cases e
   subst hn0;have hc0:=hnil rfl;subst hc0;have hgs:gens=[]:=List.length_eq_zero_iff.1 hl;subst hgs;exact ⟨_,W0.drew,run_append_owned_none W0.drew W0.drew.heap.size _ _ 9 i0 1 Tryz.underlying27 hi (.slice none 0 0) 0 [] hO0,hO0,Ext.refl _⟩
  | some ad =>
   have hcell:∀ j u,(sC gens)[j]?=some u->W0.drew.cell? (ad.add j)=some u:=fun j u hu=>by
    by_cases hn0:n=0
    ·have:=(List.getElem?_eq_some_iff.1 hu).1
     rw [sC_length,hl,hn0] at this;omega
    ·obtain ⟨b,o,e,_,hc⟩:=hL.at (by omega)
     cases e
     exact cells_ofo hl hc j u hu
   obtain ⟨v',w1,e1,e2,e3,_,_⟩:=run_append_own_at (P:=Tryz.prog) W0.drew W0.drew.heap.size 27 27 9 i0 _ 1 16 Tryz.underlying27 hi hz0 hz1 hz2 rfl (by decide) (.slice none 0 0) 0 [] hO0 ad n cp (sC gens) (by rw [sC_length,hl,Nat.mul_one]) hcell (one_all gens) (by unfold maxLen;omega) (by omega) (Nat.le_refl _);rw [Nat.zero_add,List.nil_append] at e2;exact ⟨v',w1,e1,e2,(Below.refl _ _).grown e3 (Nat.le_refl _) (fun k h=>by cases h)⟩
 obtain ⟨v1,w1,r1,ho1,E1⟩:=key;obtain ⟨a1,c1,rfl,hnc,hcm,hLk⟩:=strs_of_own ho1;have Ed:Ext W0 W0.drew:=Below.drew (Ext.refl _);have E01:=Ed.trans E1;have rR:=(bR.ext E01).row;have t0:=bD.x0;have t1:=bD.x1;have Hr1:=Lh r1;have HLk:=Lh hLk;have Hnc:=Lh hnc;have Hcm:=Lh hcm;have on1:=setRow_onlyC w1 (H+1) #[.int .i64 N,.slice a1 n c1];have Hf1:=Lh (setRow_heap w1 (H+1) _ #[.int .i64 N,.slice a1 n c1] _ _ rR);have HEf:=Lh (show Ext w (w1.setRow (H+1) #[.int .i64 N,.slice a1 n c1]) from ext_onlyC (HE0.out.trans E01) on1 HwH.out)
 have HLf:=Lh (show StrsAt (w1.setRow (H+1) #[.int .i64 N,.slice a1 n c1]) a1 n gens from by
  obtain ⟨a9,c9,e9,_,_,h9⟩:=strs_of_own (own_keepS ho1 fun g _ hb9 _=>on1.block g (by have:W0.drew.heap.size=H+2:=hs0;omega));injection e9 with ea _ _;rw [<-ea] at h9
  exact h9)
 have HrR:=Lh rR;have HE1:=Lh E1;have HE01:=Lh E01;clear h hb hnil E0 bD bR hs0 hl hL r1 ho1 hLk hnc hcm on1 hW0 hH E1 E01 rR
 go_enter Tryz.func27,Tryz.ntmps27
 go_upto_region 1 with fail
 rw [HW0.out,HH.out];refine wp_region_K 6 (fun w'=>w'.cell? ⟨H,0,none⟩=some (.int .i64 N)/\w'.cell? ⟨H,1,none⟩=some (.slice ao n cp)) (by kernel_rfl) ?_
 show anyK _ _ _ _ _ _ 7 #[false,false,false,false,false,false,false] _ _
 have hHeld:W0.drew.cell? ⟨H,0,none⟩=some (.int .i64 N)/\W0.drew.cell? ⟨H,1,none⟩=some (.slice ao n cp):=⟨cell_ext t0 Ed,cell_ext t1 Ed⟩;refine kT 0 7 (v:=?_) rfl (Or.inl ⟨by rfl,?_⟩) hHeld ?_;rotate_left 1
 ·intro w hSw
  go_simp
  try with_reducible rfl
 show anyK _ _ _ _ _ _ _ _ (Act.put _ (some 3) _) _
 simp only [Act.put,sx0,sx1,sx2];refine kT 1 7 (v:=?_) rfl (Or.inl ⟨by rfl,?_⟩) hHeld ?_;rotate_left 1
 ·intro w hSw
  go_simp
  try with_reducible rfl
 show anyK _ _ _ _ _ _ _ _ (Act.put _ (some 4) _) _
 simp only [Act.put,sx0,sx1,sx2];refine kT 2 7 (v:=?_) rfl (Or.inl ⟨by rfl,?_⟩) hHeld ?_;rotate_left 1
 ·intro w hSw
  go_simp
  try with_reducible rfl
 show anyK _ _ _ _ _ _ _ _ (Act.put _ (some 5) _) _
 simp only [Act.put,sx0,sx1,sx2];refine kT 3 7 (v:=?_) rfl (Or.inl ⟨by rfl,?_⟩) hHeld ?_;rotate_left 1
 ·intro w hSw
  go_simp
  try with_reducible rfl
 show anyK _ _ _ _ _ _ _ _ (Act.put _ (some 6) _) _
 simp only [Act.put,sx0,sx1,sx2];clear hHeld;refine anyK_one (i:=4) (by kernel_rfl) rfl (fun Kk hKk=>?_);refine stepK_append rfl _ _ 27 rfl (.slice none 0 0) (.slice ao n cp) _ rfl rfl Hr1.out ?_;refine hKk.out _ _ (fun _=>⟨cell_ext t0 HE01.out,cell_ext t1 HE01.out⟩) ?_;clear hKk Kk
 show anyK _ _ _ _ _ _ _ _ (Act.put _ (some 7) _) _
 simp only [Act.put,sx0,sx1,sx2];have hHeld:w1.cell? ⟨H,0,none⟩=some (.int .i64 N)/\w1.cell? ⟨H,1,none⟩=some (.slice ao n cp):=⟨cell_ext t0 HE01.out,cell_ext t1 HE01.out⟩;refine kT 5 7 (v:=?_) rfl (Or.inl ⟨by rfl,?_⟩) hHeld ?_;rotate_left 1
 ·intro w hSw
  go_simp
  try with_reducible rfl
 show anyK _ _ _ _ _ _ _ _ (Act.put _ (some 8) _) _
 simp only [Act.put,sx0,sx1,sx2];clear hHeld;refine anyK_one (i:=6) (by kernel_rfl) rfl (fun Kk hKk=>?_);refine stepK_storeRowC rfl rfl 59 _ _ rfl (H+1) #[.int .i64 N,.slice a1 n c1] rfl rfl 59 _ HrR.out co_info rfl (by kernel_rfl) ?_;refine hKk.out _ _ (fun h=>Bool.noConfusion (show true=false from h)) ?_;clear hKk Kk;simp only [sx0,sx1,sx2];refine anyK_done (by kernel_rfl) ?_ _;clear t0 t1 Ed HE1 HE01 HrR HLk;generalize w1.setRow (H+1) #[.int .i64 N,.slice a1 n c1]=WF at *
 go_wp2_with fail
 refine bodyPost_ret (v:=.agg #[.int .i64 N,.slice a1 n c1]) ?_ rfl ⟨a1,c1,rfl,⟨HLf.out,Hnc.out,by have:=Hcm.out;unfold maxLen at this;omega⟩,HEf.out⟩;exact results_cell_row rfl _ _ (H+1) _ _ _ _ rfl Hf1.out Tryz.underlying59 rfl co_info
theorem sameTexts_all (l:List (List UInt8)) (a1:Option Addr) (n c1:Nat) (a2:Option Addr) (c2:Nat) (w:World) (h1:StrsAt w a1 n l) (h2:StrsAt w a2 n l) (hn:n<=9223372036854775806) :
  Calls Tryz.prog 15 #[.slice a1 n c1,.slice a2 n c2] w fun e w'=>e=.returned (.bool true)/\Ext w w':=by
 have H1:=Lh h1;have H2:=Lh h2;have Hn:=Lh hn;clear h1 h2 hn
 go_enter Tryz.func15,Tryz.ntmps15
 go_wp2_with fail
 go_loopg [5] n (fun kk s5 wx=>∃ i:Nat,s5=.int .i64 (i:Int)/\i<=n/\n-i=kk/\Ext w wx)
 case atStart=>exact ⟨0,rfl,by omega,by omega,Ext.refl w⟩
 case round =>
  obtain ⟨i,rfl,hi1,hk,hE⟩:=hrel;have HE:=Lh hE;have Hk:=Lh hk
  by_cases hin:i=n
  ·have h2:¬ (i:Int)<(n:Int):=by omega
   clear hE hk hi1
   go_wp2_with fail
   go_ret
   exact ⟨rfl,HE.out⟩
  ·have h2:(i:Int)<(n:Int):=by omega
   have h0:(0:Int)<=(i:Int):=by omega
   have wk:IntKind.i64.wrap ((i:Int)+1)=((i+1:Nat):Int):=by rw [IntKind.wrap_i64];have:=Hn.out;omega
   obtain ⟨b1,o1,rfl,_,k1⟩:=(H1.out.ext hE).at (by omega);obtain ⟨b2,o2,rfl,_,k2⟩:=(H2.out.ext hE).at (by omega);have e1:=k1 i (by omega);have e2:=k2 i (by omega);obtain ⟨x,hx⟩:∃ x:ByteArray,(⟨(l.getD i []).toArray⟩:ByteArray)=x:=⟨_,rfl⟩;rw [hx] at e1 e2;have HEd:=Lh (HE.out.trans (Below.drew (Ext.refl wr)));have Hlt:=Lh (show i+1<=n by omega);clear hE hx k1 k2 hk hi1 hin
   go_wp2_with fail
   go_region
   go_wp2_with fail
   go_roundg (n-(i+1))
   case measure=>have:=Hk.out;have:=Hlt.out;omega
   case rel=>exact ⟨i+1,rfl,Hlt.out,rfl,HEd.out⟩
theorem PsAt.far {w w':World} {a:Option Addr} {n k:Nat} {l:List PK} (h:PsAt w a n l) (hO:Only k w w') {cs:Array Value} {t:TypeId} (hr:w.heap[k]?=some (.cells cs t (0,0))) (hc:∀ (j:Nat) (x:Int),cs[j]?≠some (.int .u16 x)):PsAt w' a n l:=by
 refine ⟨h.1,?_⟩
 rcases h.2 with h0 | ⟨b,o,e,hb,hcs⟩
 ·exact Or.inl h0
 ·by_cases hn0:n=0
  ·exact Or.inl hn0
  refine Or.inr ⟨b,o,e,by rw [hO.size];exact hb,?_⟩
  have hne:b≠k:=by
   rintro rfl;obtain ⟨p,hp⟩:∃ p,l[0]?=some p:=⟨_,List.getElem?_eq_getElem (by have:=h.1;omega)⟩;have h9:=(hcs 0 p hp).1;rw [cell_of_row w b _ cs _ (0,0) hr] at h9;exact hc _ _ h9
  intro t p hp;have hbk:=hO.block b hne
  have hce:∀ o',w'.cell? ⟨b,o',none⟩=w.cell? ⟨b,o',none⟩:=fun o'=>World.cell?_of_block (a:=⟨b,o',none⟩) hbk
  obtain ⟨k1,k2,k3⟩:=hcs t p hp;exact ⟨(hce _).trans k1,(hce _).trans k2,(hce _).trans k3⟩
theorem GrpM.far {w w':World} {B k:Nat} {keys:List (Nat × Nat)} (h:GrpM w B keys) (hO:Only k w w') {cs:Array Value} {t:TypeId} (hr:w.heap[k]?=some (.cells cs t (0,0))):GrpM w' B keys :=
 h.only hO (by rintro rfl;exact own_ne h.map hr)
theorem no16 {N:Int} {a:Option Addr} {n c:Nat} {mp:Option Nat}:∀ (j:Nat) (x:Int),(#[.int .i64 N,.slice a n c,.map mp]:Array Value)[j]?≠some (.int .u16 x):=by
 intro j x h
 match j,h with
 | 0,h=>simp at h
 | 1,h=>simp at h
 | 2,h=>simp at h
 | j+3,h=>simp at h
theorem no16' {u v:Int}:∀ (j:Nat) (x:Int),(#[.int .i64 u,.int .i64 v]:Array Value)[j]?≠some (.int .u16 x):=by
 intro j x h
 match j,h with
 | 0,h=>simp at h
 | 1,h=>simp at h
 | j+2,h=>simp at h
def rsF (N:Int) (gens:List (List UInt8)):Int × Int:=if (ccF N gens).1=0/\9<N then (21,0) else ccF N gens
def RsP (N:Int) (gens:List (List UInt8)) (w:World) (e:Ending) (w':World):Prop :=
 ∃ (N':Int) (a:Option Addr) (n c:Nat) (mp:Option Nat),e=.returned (.tuple #[.agg #[.int .i64 N',.slice a n c,.map mp],.agg #[.int .i64 (rsF N gens).1,.int .i64 (rsF N gens).2]])/\Ext w w' /\
  ((rsF N gens).1=0->N'=N/\PsAt w' a n (psL N.toNat gens)/\n<=c/\c<=9223372036854775807/\∃ B keys,mp=some B/\GrpM w' B keys/\SamS keys (psL N.toNat gens))
theorem results_two2 {P:Program} {fn:Func} {p q:Tmp} {ty1 ty2:TypeId} (h:fn.results=#[.cell p ty1,.cell q ty2]) (tmps:Array Value) (w:World) (g1 g2:Nat) (t1 t2:TypeId) (c1 c2:Array Value) (f1 f2:Nat × Nat) (d1 d2:TypeDesc)
  (hp:tmps.getD p undef=.pointer (some ⟨g1,0,none⟩)) (hg1:w.heap[g1]?=some (.cells c1 t1 f1)) (hu1:P.underlying ty1=some d1) (hd1:(match d1 with | .struct _ | .array _ _=>true | _=>false)=true) (hi1:(P.info? ty1).map (·.size)=some c1.size)
  (hq:tmps.getD q undef=.pointer (some ⟨g2,0,none⟩)) (hg2:w.heap[g2]?=some (.cells c2 t2 f2)) (hu2:P.underlying ty2=some d2) (hd2:(match d2 with | .struct _ | .array _ _=>true | _=>false)=true) (hi2:(P.info? ty2).map (·.size)=some c2.size) :
  (results fn tmps).run P w=.ok (.tuple #[.agg c1,.agg c2]) w:=by
 have hp':tmps[p]?.getD undef=.pointer (some ⟨g1,0,none⟩):=by simpa using hp
 have hq':tmps[q]?.getD undef=.pointer (some ⟨g2,0,none⟩):=by simpa using hq
 simp [results,h,hp',hq',asAddr,run_loadVar_row w g1 t1 ty1 c1 f1 d1 hg1 hu1 hd1 hi1,run_loadVar_row w g2 t2 ty2 c2 f2 d2 hg2 hu2 hd2 hi2]
theorem readSearched_any (N:Int) (gens:List (List UInt8)) (ao:Option Addr) (k c:Nat) (w:World) (hG:StrsAt w ao k gens) (hT:∀ T ∈ gens,T.length<=9223372036854775807) (hk9:k<=9223372036854775806) :
  Calls Tryz.prog 111 #[.agg #[.int .i64 N,.slice ao k c]] w fun e w'=>RsP N gens w e w':=by
 unfold RsP;obtain ⟨Y,hY⟩:∃ Y,rsF N gens=Y:=⟨_,rfl⟩;rw [hY];unfold rsF at hY;obtain ⟨H,hH⟩:∃ H,w.heap.size=H:=⟨_,rfl⟩;obtain ⟨W0,hW0⟩:∃ W0,((w.alloc (.cells #[.int .i64 N,.slice ao k c] 59)).alloc (.cells #[.int .i64 0,.slice none 0 0,.map none] 115)).alloc (.cells #[.int .i64 0,.int .i64 0] 29)=W0:=⟨_,rfl⟩
 have E0:Ext w W0:=by rw [<-hW0];exact ((ext_al w _).trans (ext_al _ _)).trans (ext_al _ _)
 have C0:CoB W0 H N ao k c:=by rw [<-hW0,<-hH];exact ((CoB.new w _ _ _ _).ext (ext_al _ _)).ext (ext_al _ _)
 have s1:(w.alloc (.cells #[.int .i64 N,.slice ao k c] 59)).heap.size=H+1:=by rw [<-hH];simp
 have s2:((w.alloc (.cells #[.int .i64 N,.slice ao k c] 59)).alloc (.cells #[.int .i64 0,.slice none 0 0,.map none] 115)).heap.size=H+2:=by rw [World.size_alloc,s1]
 have R0:FrB W0 (H+1) 0 none 0 0 none:=by rw [<-hW0,<-s1];exact (FrB.new _ _ _ _ _ _).ext (ext_al _ _)
 have bF:FtB W0 (H+2) 0 0:=⟨by rw [<-hW0,<-s2];exact heap_alloc_new _ _⟩;have HRd:=Lh (read_any N gens ao k c W0 (hG.ext E0) hT hk9);unfold RdP at HRd;rw [rd_cc] at HRd;obtain ⟨F,hF⟩:∃ F,ccF N gens=F:=⟨_,rfl⟩;obtain ⟨F0,F1⟩:=F;rw [hF] at HRd hY;simp only at HRd hY;have HE0:=Lh E0;have HFt:=Lh bF;have HRt:=Lh R0;have HC:=Lh C0;have HW0:=Lh hW0;have HH:=Lh hH;have HY:=Lh hY;have HwH:=Lh (show w.heap.size<=H+1/\w.heap.size<=H+2 by omega);have v0:=C0.x0;have v1:=C0.x1;clear hG hT hk9 hH hW0 E0 C0 bF R0 hF hY s1 s2
 go_enter Tryz.func111,Tryz.ntmps111
 go_upto_region 1 with fail
 rw [HW0.out,HH.out]
 go_wp2_with fail
 refine HRd.out.mono ?_;rintro e w1 ⟨N',a,n,c',mp,rfl,hx1,hrd⟩;obtain ⟨U,hU⟩:∃ U,(w1.alloc (.cells #[.int .i64 N',.slice a n c',.map mp] 115)).alloc (.cells #[.int .i64 F0,.int .i64 F1] 29)=U:=⟨_,rfl⟩;obtain ⟨K,hK⟩:∃ K,w1.heap.size=K:=⟨_,rfl⟩
 have E1U:Ext w1 U:=by rw [<-hU];exact (ext_al _ _).trans (ext_al _ _)
 have EU:Ext W0 U:=hx1.trans E1U
 have fU:FrB U K N' a n c' mp:=by rw [<-hU,<-hK];exact (FrB.new _ _ _ _ _ _).ext (ext_al _ _)
 have bU:FtB U (K+1) F0 F1:=⟨by
  have:=heap_alloc_new (w1.alloc (.cells #[.int .i64 N',.slice a n c',.map mp] 115)) (.cells #[.int .i64 F0,.int .i64 F1] 29);rw [<-hU,<-hK]
  simpa using this⟩
 have hKH:H+2<K:=by rw [<-hK];exact Nat.lt_of_lt_of_le HFt.out.lt hx1.size
 have HU:=Lh hU;have HK:=Lh hK;have HEU:=Lh EU;have Hrd:=Lh hrd;have HE1U:=Lh E1U
 have e1:¬ K=H:=by omega
 have e2:¬ H=K:=by omega
 have e3:¬ K=H+1:=by omega
 have e4:¬ H+1=K:=by omega
 have e5:¬ K=H+2:=by omega
 have e6:¬ H+2=K:=by omega
 have e7:¬ K+1=H+2:=by omega
 have e8:¬ H+2=K+1:=by omega
 clear hKH;have u0:=bU.x0;have u1:=bU.x1;have f0:=fU.x0;have f1:=fU.x1;have f2:=fU.x2;have d0:=(HC.out.ext EU).x0;have bz:=HFt.out.ext EU;have rz:=HRt.out.ext EU;have x0':=bz.x0;have x1':=bz.x1;have g0':=bz.f 0;have g1':=bz.f 1;have y0':=rz.x0;have y1':=rz.x1;have y2':=rz.x2;have h0':=frozen_of_row _ (H+1) 0 _ _ rz.row;have h1':=frozen_of_row _ (H+1) 1 _ _ rz.row;have h2':=frozen_of_row _ (H+1) 2 _ _ rz.row;have HEy:=Lh (HE0.out.trans EU);have Hbz:=Lh bz;have Hrz:=Lh rz;clear hx1 hU hK EU bU fU v0 v1 HRd hrd E1U bz rz
 go_upto_region 2 with fail
 rw [HU.out,HK.out];clear HU HK
 by_cases hm:F0=0/\9<N
 ·have hcb:=bt' hm.1
  have h9:=hm.2;have HY2:=Lh (show Y=(21,0) by have:=HY.out;rw [if_pos hm] at this;exact this.symm);clear hm f0 f1 f2 u1
  go_wp2_with fail
  exact bodyPost_ret (v:=.tuple #[.agg #[.int .i64 0,.slice none 0 0,.map none],.agg #[.int .i64 21,.int .i64 0]]) (by simp [results,Tryz.results111,go_sem,x0',x1',y0',y1',y2']) rfl ⟨_,_,_,_,_,by rw [HY2.out],put2x (put3f HEy.out HwH.out.1 _ _ _) HwH.out.2 _ _,fun h=>absurd (by rw [HY2.out] at h;exact h) (by decide)⟩
 have HY2:=Lh (show Y=(F0,F1) by have:=HY.out;rw [if_neg hm] at this;exact this.symm)
 by_cases hz:F0=0
 ·have hcb:=bt' hz
  have h9:¬ 9<N:=fun h=>hm ⟨hz,h⟩
  obtain ⟨hN',hps,hac,hcm,B,keys,hmp,hGr,hSm⟩:=Hrd.out hz;have Hpg:=Lh (And.intro (hps.ext HE1U.out) (hGr.ext HE1U.out));have Hot:=Lh (And.intro hN' (And.intro hac (And.intro hcm (And.intro hmp hSm))));clear hm hps hac hcm hGr hSm hN' hmp hz;have HSj:=Lh (fun (w':World) (hx:Ext U w')=>(show w'.cell? ⟨K,0,none⟩=some (.int .i64 N')/\w'.cell? ⟨K,1,none⟩=some (.slice a n c')/\w'.cell? ⟨K,2,none⟩=some (.map mp)/\w'.cell? ⟨K+1,0,none⟩=some (.int .i64 F0)/\w'.cell? ⟨K+1,1,none⟩=some (.int .i64 F1) from ⟨cell_ext f0 hx,cell_ext f1 hx,cell_ext f2 hx,cell_ext u0 hx,cell_ext u1 hx⟩))
  have HSl:=Lh (fun (w':World) (hO:Only (H+1) U.drew w')=>(show w'.cell? ⟨K,0,none⟩=some (.int .i64 N')/\w'.cell? ⟨K,1,none⟩=some (.slice a n c')/\w'.cell? ⟨K,2,none⟩=some (.map mp)/\w'.cell? ⟨K+1,0,none⟩=some (.int .i64 F0)/\w'.cell? ⟨K+1,1,none⟩=some (.int .i64 F1) from (by
   have hc:∀ g o',g≠H+1->w'.cell? ⟨g,o',none⟩=U.cell? ⟨g,o',none⟩:=fun g o' hg=>World.cell?_of_block (a:=⟨g,o',none⟩) (hO.block g hg)
   exact ⟨(hc K 0 e3).trans f0,(hc K 1 e3).trans f1,(hc K 2 e3).trans f2,(hc (K+1) 0 (by omega)).trans u0,(hc (K+1) 1 (by omega)).trans u1⟩)))
  go_upto_region 4 with fail
  have G_:Ext U U.drew:=Below.drew (Ext.refl _);refine wp_region_K 3 (fun w'=>w'.cell? ⟨K,0,none⟩=some (.int .i64 N')/\w'.cell? ⟨K,1,none⟩=some (.slice a n c')/\w'.cell? ⟨K,2,none⟩=some (.map mp)/\w'.cell? ⟨K+1,0,none⟩=some (.int .i64 F0)/\w'.cell? ⟨K+1,1,none⟩=some (.int .i64 F1)) (by kernel_rfl) ?_
  show anyK _ _ _ _ _ _ 4 #[false,false,false,false] _ _
  refine kT 0 4 (v:=?_) rfl (Or.inl ⟨by rfl,?_⟩) (HSj.out _ G_) ?_;rotate_left 1
  ·intro w hSw
   go_simp
   try with_reducible rfl
  show anyK _ _ _ _ _ _ _ _ (Act.put _ (some 21) _) _
  simp only [Act.put,sx0,sx1,sx2];refine kT 1 4 (v:=?_) rfl (Or.inl ⟨by rfl,?_⟩) (HSj.out _ G_) ?_;rotate_left 1
  ·intro w hSw
   go_simp
   try with_reducible rfl
  show anyK _ _ _ _ _ _ _ _ (Act.put _ (some 22) _) _
  simp only [Act.put,sx0,sx1,sx2];refine anyK_one (i:=2) (by kernel_rfl) rfl (fun Kk hKk=>?_);refine stepK_storeRowC rfl rfl 115 _ _ rfl (H+1) #[.int .i64 N',.slice a n c',.map mp] rfl rfl 115 _ (Hrz.out.ext G_).row fr_info rfl (by kernel_rfl) ?_;have on1:=setRow_onlyC U.drew (H+1) #[.int .i64 N',.slice a n c',.map mp];refine hKk.out _ _ (fun _=>HSl.out _ on1) ?_;clear hKk Kk;simp only [sx0,sx1,sx2];have b2:=(on1.block (H+2) (by omega)).trans (Hbz.out.ext G_).row;refine anyK_one (i:=3) (by kernel_rfl) rfl (fun Kk hKk=>?_);refine stepK_storeRowC rfl rfl 29 _ _ rfl (H+2) #[.int .i64 F0,.int .i64 F1] rfl rfl 29 _ b2 ftc_info rfl (by kernel_rfl) ?_;refine hKk.out _ _ (fun h=>Bool.noConfusion (show true=false from h)) ?_;clear hKk Kk;simp only [sx0,sx1,sx2];refine anyK_done (by kernel_rfl) ?_ _;have on2:=setRow_onlyC (U.drew.setRow (H+1) #[.int .i64 N',.slice a n c',.map mp]) (H+2) #[.int .i64 F0,.int .i64 F1];have Hr1:=Lh ((on2.block (H+1) (by omega)).trans (setRow_heap U.drew (H+1) _ #[.int .i64 N',.slice a n c',.map mp] _ _ (Hrz.out.ext G_).row));have Hr2:=Lh (setRow_heap (U.drew.setRow (H+1) #[.int .i64 N',.slice a n c',.map mp]) (H+2) _ #[.int .i64 F0,.int .i64 F1] _ _ b2);have HEz:=Lh (ext_onlyC (ext_onlyC (HEy.out.trans G_) on1 HwH.out.1) on2 HwH.out.2);have Hfin:=Lh (show PsAt ((U.drew.setRow (H+1) #[.int .i64 N',.slice a n c',.map mp]).setRow (H+2) #[.int .i64 F0,.int .i64 F1]) a n (psL N.toNat gens)/\GrpM ((U.drew.setRow (H+1) #[.int .i64 N',.slice a n c',.map mp]).setRow (H+2) #[.int .i64 F0,.int .i64 F1]) B keys from ⟨((Hpg.out.1.ext G_).far on1 (Hrz.out.ext G_).row no16).far on2 b2 no16',((Hpg.out.2.ext G_).far on1 (Hrz.out.ext G_).row).far on2 b2⟩);generalize ((U.drew.setRow (H+1) #[.int .i64 N',.slice a n c',.map mp]).setRow (H+2) #[.int .i64 F0,.int .i64 F1])=WF at *;clear on1 on2 b2 G_ HSj HSl f0 f1 f2 u0 u1 x0' x1' g0' g1' y0' y1' y2' h0' h1' h2' d0
  go_wp2_with fail
  refine bodyPost_ret (v:=.tuple #[.agg #[.int .i64 N',.slice a n c',.map mp],.agg #[.int .i64 F0,.int .i64 F1]]) ?_ rfl ⟨_,_,_,_,_,by rw [HY2.out],HEz.out,fun _=>⟨Hot.out.1,Hfin.out.1,Hot.out.2.1,Hot.out.2.2.1,B,Hot.out.2.2.2.1,keys,Hfin.out.2,Hot.out.2.2.2.2⟩⟩;exact results_two2 rfl _ _ (H+1) (H+2) _ _ _ _ _ _ _ _ rfl Hr1.out Tryz.underlying115 rfl fr_info rfl Hr2.out Tryz.underlying29 rfl ftc_info
 ·have hcb:=bf hz
  have Hnz:=Lh hz;clear hm hz;have HSj:=Lh (fun (w':World) (hx:Ext U w')=>(show w'.cell? ⟨K,0,none⟩=some (.int .i64 N')/\w'.cell? ⟨K,1,none⟩=some (.slice a n c')/\w'.cell? ⟨K,2,none⟩=some (.map mp)/\w'.cell? ⟨K+1,0,none⟩=some (.int .i64 F0)/\w'.cell? ⟨K+1,1,none⟩=some (.int .i64 F1) from ⟨cell_ext f0 hx,cell_ext f1 hx,cell_ext f2 hx,cell_ext u0 hx,cell_ext u1 hx⟩))
  have HSl:=Lh (fun (w':World) (hO:Only (H+1) U.drew w')=>(show w'.cell? ⟨K,0,none⟩=some (.int .i64 N')/\w'.cell? ⟨K,1,none⟩=some (.slice a n c')/\w'.cell? ⟨K,2,none⟩=some (.map mp)/\w'.cell? ⟨K+1,0,none⟩=some (.int .i64 F0)/\w'.cell? ⟨K+1,1,none⟩=some (.int .i64 F1) from (by
   have hc:∀ g o',g≠H+1->w'.cell? ⟨g,o',none⟩=U.cell? ⟨g,o',none⟩:=fun g o' hg=>World.cell?_of_block (a:=⟨g,o',none⟩) (hO.block g hg)
   exact ⟨(hc K 0 e3).trans f0,(hc K 1 e3).trans f1,(hc K 2 e3).trans f2,(hc (K+1) 0 (by omega)).trans u0,(hc (K+1) 1 (by omega)).trans u1⟩)))
  go_upto_region 4 with fail
  have G_:Ext U U.drew:=Below.drew (Ext.refl _);refine wp_region_K 3 (fun w'=>w'.cell? ⟨K,0,none⟩=some (.int .i64 N')/\w'.cell? ⟨K,1,none⟩=some (.slice a n c')/\w'.cell? ⟨K,2,none⟩=some (.map mp)/\w'.cell? ⟨K+1,0,none⟩=some (.int .i64 F0)/\w'.cell? ⟨K+1,1,none⟩=some (.int .i64 F1)) (by kernel_rfl) ?_
  show anyK _ _ _ _ _ _ 4 #[false,false,false,false] _ _
  refine kT 0 4 (v:=?_) rfl (Or.inl ⟨by rfl,?_⟩) (HSj.out _ G_) ?_;rotate_left 1
  ·intro w hSw
   go_simp
   try with_reducible rfl
  show anyK _ _ _ _ _ _ _ _ (Act.put _ (some 21) _) _
  simp only [Act.put,sx0,sx1,sx2];refine kT 1 4 (v:=?_) rfl (Or.inl ⟨by rfl,?_⟩) (HSj.out _ G_) ?_;rotate_left 1
  ·intro w hSw
   go_simp
   try with_reducible rfl
  show anyK _ _ _ _ _ _ _ _ (Act.put _ (some 22) _) _
  simp only [Act.put,sx0,sx1,sx2];refine anyK_one (i:=2) (by kernel_rfl) rfl (fun Kk hKk=>?_);refine stepK_storeRowC rfl rfl 115 _ _ rfl (H+1) #[.int .i64 N',.slice a n c',.map mp] rfl rfl 115 _ (Hrz.out.ext G_).row fr_info rfl (by kernel_rfl) ?_;have on1:=setRow_onlyC U.drew (H+1) #[.int .i64 N',.slice a n c',.map mp];refine hKk.out _ _ (fun _=>HSl.out _ on1) ?_;clear hKk Kk;simp only [sx0,sx1,sx2];have b2:=(on1.block (H+2) (by omega)).trans (Hbz.out.ext G_).row;refine anyK_one (i:=3) (by kernel_rfl) rfl (fun Kk hKk=>?_);refine stepK_storeRowC rfl rfl 29 _ _ rfl (H+2) #[.int .i64 F0,.int .i64 F1] rfl rfl 29 _ b2 ftc_info rfl (by kernel_rfl) ?_;refine hKk.out _ _ (fun h=>Bool.noConfusion (show true=false from h)) ?_;clear hKk Kk;simp only [sx0,sx1,sx2];refine anyK_done (by kernel_rfl) ?_ _;have on2:=setRow_onlyC (U.drew.setRow (H+1) #[.int .i64 N',.slice a n c',.map mp]) (H+2) #[.int .i64 F0,.int .i64 F1];have Hr1:=Lh ((on2.block (H+1) (by omega)).trans (setRow_heap U.drew (H+1) _ #[.int .i64 N',.slice a n c',.map mp] _ _ (Hrz.out.ext G_).row));have Hr2:=Lh (setRow_heap (U.drew.setRow (H+1) #[.int .i64 N',.slice a n c',.map mp]) (H+2) _ #[.int .i64 F0,.int .i64 F1] _ _ b2);have HEz:=Lh (ext_onlyC (ext_onlyC (HEy.out.trans G_) on1 HwH.out.1) on2 HwH.out.2);generalize ((U.drew.setRow (H+1) #[.int .i64 N',.slice a n c',.map mp]).setRow (H+2) #[.int .i64 F0,.int .i64 F1])=WF at *;clear on1 on2 b2 G_ HSj HSl f0 f1 f2 u0 u1 x0' x1' g0' g1' y0' y1' y2' h0' h1' h2' d0
  go_wp2_with fail
  refine bodyPost_ret (v:=.tuple #[.agg #[.int .i64 N',.slice a n c',.map mp],.agg #[.int .i64 F0,.int .i64 F1]]) ?_ rfl ⟨_,_,_,_,_,by rw [HY2.out],HEz.out,fun h=>absurd (by rw [HY2.out] at h;exact h) Hnz.out⟩;exact results_two2 rfl _ _ (H+1) (H+2) _ _ _ _ _ _ _ _ rfl Hr1.out Tryz.underlying115 rfl fr_info rfl Hr2.out Tryz.underlying29 rfl ftc_info
def mkAt (l:List Int) (i:Nat):Bool:=decide (l.getD i 0≠0/\l.getD i 0≠1)
def rmF (l:List Int) (k:Int):Int × Int:=if (l.length:Int)≠k then (25,0) else if fstI (mkAt l) l.length 0≠-1 then (20,fstI (mkAt l) l.length 0) else (0,0)
def mkN (l:List Int):Nat:=numB (l.map fun x=>x == 1)
theorem mkN_take {l:List Int} {i:Nat} {x:Int} (h:l[i]?=some x):mkN (l.take (i+1))=mkN (l.take i)+(if x=1 then 1 else 0)*2 ^ i:=by
 unfold mkN;rw [List.take_add_one,h]
 show numB ((l.take i++[x]).map fun x=>x == 1)=_
 rw [List.map_append,List.map_cons,List.map_nil,numB_snoc,List.length_map,List.length_take]
 have:min i l.length=i:=by have:=(List.getElem?_eq_some_iff.1 h).1;omega
 rw [this]
 by_cases e:x=1
 ·simp [e]
 ·simp [e]
theorem readMarks_any (l:List Int) (k:Int) (ao:Option Addr) (n c:Nat) (w:World) (hI:IntsAt w ao n l) (hk:k<=12) :
  Calls Tryz.prog 112 #[.slice ao n c,.int .i64 k] w fun e w'=>∃ m:Nat,e=.returned (.tuple #[.int .u16 (m:Int),.agg #[.int .i64 (rmF l k).1,.int .i64 (rmF l k).2]])/\Ext w w'/\((rmF l k).1=0->m=mkN l):=by
 obtain ⟨F,hF⟩:∃ F,rmF l k=F:=⟨_,rfl⟩;obtain ⟨F0,F1⟩:=F;rw [hF];unfold rmF at hF;obtain ⟨H,hH⟩:∃ H,w.heap.size=H:=⟨_,rfl⟩;obtain ⟨W0,hW0⟩:∃ W0,w.alloc (.cells #[.int .i64 0,.int .i64 0] 29)=W0:=⟨_,rfl⟩
 have E0:Ext w W0:=by rw [<-hW0];exact ext_al w _
 have bF:FtB W0 H 0 0:=⟨by rw [<-hW0,<-hH];exact heap_alloc_new w _⟩;have hl:=hI.1;rw [hl] at hF;have HI:=Lh (hI.ext E0);have HE0:=Lh E0;have HFt:=Lh bF;have HF:=Lh hF;have HW0:=Lh hW0;have HH:=Lh hH;have Hl:=Lh hl;have Hk:=Lh hk;have HwH:=Lh (show w.heap.size<=H by omega);clear hI hk E0 bF hF hW0 hH hl
 go_enter Tryz.func112,Tryz.ntmps112
 go_upto_region 1 with fail
 rw [HW0.out,HH.out]
 by_cases h1:(n:Int)=k
 rotate_left 1
 ·have hcb:=nt h1
  have HF2:=Lh (show F0=25/\F1=0 by have:=HF.out;rw [if_pos h1] at this;exact ⟨(congrArg Prod.fst this).symm,(congrArg Prod.snd this).symm⟩);have bz:=HFt.out;have x0':=bz.x0;have x1':=bz.x1;have g0':=bz.f 0;have g1':=bz.f 1;clear bz h1
  go_wp2_with fail
  exact bodyPost_ret (v:=.tuple #[.int .u16 0,.agg #[.int .i64 25,.int .i64 0]]) (by simp [results,Tryz.results112,go_sem,x0',x1']) rfl ⟨0,by rw [HF2.out.1,HF2.out.2];rfl,put2x HE0.out HwH.out _ _,fun h=>absurd (HF2.out.1.symm.trans h) (by decide)⟩
 have hcb:=nf' h1;have hF:=HF.out;rw [if_neg (by simp [h1])] at hF;obtain ⟨P,hP⟩:∃ P,fstI (mkAt l) n 0=P:=⟨_,rfl⟩;rw [hP] at hF;have HF1:=Lh hF;have HP:=Lh hP;have Hn:=Lh (show n<=12 by have:=Hk.out;omega);clear hF hP h1 HF
 go_wp2_with fail
 clear hcb
 go_loopg [6,7,8,16] n (fun kk s6 _ _ s16 wr=>Ext W0 wr/\∃ i:Nat,s16=.int .i64 (i:Int)/\i<=n/\n-i=kk/\s6=.int .u16 ((mkN (l.take i):Nat):Int)/\fstI (mkAt l) (n-i) i=P)
 case atStart=>exact ⟨Ext.refl _,0,rfl,Nat.zero_le _,rfl,rfl,HP.out⟩
 case round =>
  obtain ⟨hE,i,rfl,hi,hkk,rfl,hfs⟩:=hrel;have HE:=Lh hE;have Hkk:=Lh hkk;have Hfs:=Lh hfs
  by_cases hin:i=n
  ·have p1:¬ (i:Int)<(n:Int):=by omega
   have hPm:P=-1:=by have h8:=Hfs.out;rw [hin,Nat.sub_self] at h8;exact h8.symm
   have HF2:=Lh (show F0=0/\F1=0 by have h7:=HF1.out;rw [if_neg (by rw [hPm];simp)] at h7;exact ⟨(congrArg Prod.fst h7).symm,(congrArg Prod.snd h7).symm⟩);have hst:l.take i=l:=List.take_of_length_le (by have:=Hl.out;omega);rw [hst];have bz:=HFt.out.ext hE;have x0':=bz.x0;have x1':=bz.x1;have g0':=bz.f 0;have g1':=bz.f 1;have HEy:=Lh (HE0.out.trans hE);obtain ⟨m,hm⟩:∃ m,mkN l=m:=⟨_,rfl⟩;rw [hm];have Hm:=Lh hm;clear bz hE hkk hfs hi hin hPm hst hm
   go_wp2_with fail
   exact bodyPost_ret (v:=.tuple #[.int .u16 (m:Int),.agg #[.int .i64 0,.int .i64 0]]) (by simp [results,Tryz.results112,go_sem,x0',x1']) rfl ⟨m,by rw [HF2.out.1,HF2.out.2],put2x HEy.out HwH.out _ _,fun _=>Hm.out.symm⟩
  have hlt:i<n:=by omega
  have q1:(i:Int)<(n:Int):=by omega
  have q0:(0:Int)<=(i:Int):=by omega
  have wk:IntKind.i64.wrap ((i:Int)+1)=((i+1:Nat):Int):=by rw [IntKind.wrap_i64];have:=Hn.out;omega
  obtain ⟨x,hx⟩:∃ x,l[i]?=some x:=⟨_,List.getElem?_eq_getElem (by have:=Hl.out;omega)⟩;obtain ⟨b,o,rfl,_,hcs⟩:=(HI.out.ext hE).at (by omega);have c0:=hcs i hlt
  have hgd:l.getD i 0=x:=by rw [List.getD_eq_getElem?_getD,hx];rfl
  rw [hgd] at c0
  have hsu:n-i=(n-(i+1))+1:=by omega
  rw [hsu] at Hfs;have Hst:=Lh (mkN_take hx)
  have hml:mkN (l.take i)<2 ^ i:=by
   unfold mkN;have h9:=numB_lt ((l.take i).map fun x=>x == 1);rw [List.length_map,List.length_take] at h9
   have:min i l.length=i:=by have:=Hl.out;omega
   rw [this] at h9;exact h9
  have hpw:2 ^ i<=2 ^ 11:=Nat.pow_le_pow_right (by decide) (by have:=Hn.out;omega)
  have hcast:((2 ^ i:Nat):Int)=(2:Int) ^ i:=by rw [Int.natCast_pow];rfl
  have hmin:min i 16=i:=by have:=Hn.out;omega
  obtain ⟨m,hm⟩:∃ m,mkN (l.take i)=m:=⟨_,rfl⟩;rw [hm] at Hst hml ⊢;have Hgd:=Lh hgd;have Hlt:=Lh hlt;clear hE hkk hfs hi hin hlt hx hcs hgd hsu hm
  by_cases hx0:x=0
  ·subst hx0
   have HZ:=Lh (show fstI (mkAt l) (n-(i+1)) (i+1)=P by have h8:=Hfs.out;rw [fstI_no (by unfold mkAt;rw [Hgd.out];rfl)] at h8;exact h8)
   have r4:bits .or .u16 (m:Int) 0=(m:Int):=by
    have:=or_u16 (x:=m) (y:=0) (by omega) (by omega)
    simpa using this
   have HN:=Lh (show m=mkN (l.take (i+1)) by rw [Hst.out];simp);clear hml hpw hcast hmin
   go_wp2_with fail
   go_roundg (n-(i+1))
   case measure=>have:=Hkk.out;have:=Hlt.out;omega
   case rel=>exact ⟨HE.out,i+1,rfl,Hlt.out,rfl,by rw [<-HN.out],HZ.out⟩
  by_cases hx1:x=1
  ·subst hx1
   have HZ:=Lh (show fstI (mkAt l) (n-(i+1)) (i+1)=P by have h8:=Hfs.out;rw [fstI_no (by unfold mkAt;rw [Hgd.out];rfl)] at h8;exact h8);obtain ⟨P2,hP2⟩:∃ P2,2 ^ i=P2:=⟨_,rfl⟩
   have r3:IntKind.u16.wrap ((2:Int) ^ min i 16)=(P2:Int):=by rw [hmin,<-hcast,hP2];exact wrapu (by omega)
   have r4:bits .or .u16 (m:Int) (P2:Int)=((m+P2:Nat):Int):=by
    rw [or_u16 (by omega) (by omega)];have:=or_plus 1 hml;rw [Nat.one_mul,hP2] at this;rw [this]
   have HN:=Lh (show m+P2=mkN (l.take (i+1)) by rw [Hst.out,if_pos rfl,Nat.one_mul,hP2]);clear hml hpw hcast hmin hP2
   go_wp2_with fail
   go_roundg (n-(i+1))
   case measure=>have:=Hkk.out;have:=Hlt.out;omega
   case rel=>exact ⟨HE.out,i+1,rfl,Hlt.out,rfl,congrArg (Value.int .u16) (by have:=HN.out;omega),HZ.out⟩
  have n0:=nt hx0;have n1:=nt hx1
  have HF2:=Lh (show F0=20/\F1=(i:Int) by
   have h9:P=(i:Int):=by have h8:=Hfs.out;rw [fstI_yes (by unfold mkAt;rw [Hgd.out];exact decide_eq_true ⟨hx0,hx1⟩)] at h8;exact h8.symm
   have h7:=HF1.out;rw [if_pos (by rw [h9];omega),h9] at h7
   exact ⟨(congrArg Prod.fst h7).symm,(congrArg Prod.snd h7).symm⟩)
  have bz:=HFt.out.ext HE.out;have x0':=bz.x0;have x1':=bz.x1;have g0':=bz.f 0;have g1':=bz.f 1;have HEy:=Lh (HE0.out.trans HE.out);clear bz hx0 hx1 hml hpw hcast hmin
  go_wp2_with fail
  exact bodyPost_ret (v:=.tuple #[.int .u16 0,.agg #[.int .i64 20,.int .i64 (i:Int)]]) (by simp [results,Tryz.results112,go_sem,x0',x1']) rfl ⟨0,by rw [HF2.out.1,HF2.out.2];rfl,put2x HEy.out HwH.out _ _,fun h=>absurd (HF2.out.1.symm.trans h) (by decide)⟩
open Go.RowKit Go.Shelf
attribute [local go_sem] Oper.semAt_some
def PK.of (x z:Nat):PK:=⟨x % 65536,z % 65536,false,Nat.mod_lt _ (by decide),Nat.mod_lt _ (by decide)⟩
def lX (j:Nat):Nat:=if j=2 then 0 else 1
def lZ (j:Nat):Nat:=if j=0 then 0 else 1
def nxP (p:PK) (q j:Nat):PK:=PK.of (p.x+lX j*2 ^ q) (p.z+lZ j*2 ^ q)
def spP:Nat->Nat->PK->Nat->List PK
 | 0,_,p,_=>[p]
 | k+1,q,p,wt=>(if wt<k+1 then spP k (q+1) p wt else [])++(if wt=0 then [] else (List.range 3).flatMap fun j=>spP k (q+1) (nxP p q j) (wt-1))
def errP (n:Nat):List PK:=(List.range (n+1)).flatMap (spP n 0 (PK.of 0 0))
structure LtL (w:World):Prop where
 row:∃ t,w.heap[(3:Nat)]?=some (.cells #[.int .u16 1,.int .u16 0,.bool false,.int .u16 1,.int .u16 1,.bool false,.int .u16 0,.int .u16 1,.bool false] t (0,0))
theorem LtL.lt {w:World} (h:LtL w):(3:Nat)<w.heap.size:=by
 obtain ⟨t,h⟩:=h.row;exact (gS.1 h).1
theorem LtL.ext {w w':World} (h:LtL w) (k:Ext w w'):LtL w':=by
 obtain ⟨t,hr⟩:=h.row;exact ⟨t,(k.block _ h.lt).trans hr⟩
def keptT (t:TypeId):Bool:=t == 115 || t == 103
structure KpC (w w':World):Prop where
 size:w.heap.size<=w'.heap.size
 row:∀ (k:Nat) (cs:Array Value) (t:TypeId) (f:Nat × Nat),keptT t=true->w.heap[k]?=some (.cells cs t f)->w'.heap[k]?=some (.cells cs t f)
 glo:∀ (cs:Array Value) (t:TypeId) (f:Nat × Nat),w.heap[(3:Nat)]?=some (.cells cs t f)->w'.heap[(3:Nat)]?=some (.cells cs t f)
theorem KpC.refl (w:World):KpC w w:=⟨Nat.le_refl _,fun _ _ _ _ _ h=>h,fun _ _ _ h=>h⟩
theorem KpC.trans {a b c:World} (h:KpC a b) (k:KpC b c):KpC a c:=⟨Nat.le_trans h.size k.size,fun i cs t f ht hr=>k.row i cs t f ht (h.row i cs t f ht hr),fun cs t f hr=>k.glo cs t f (h.glo cs t f hr)⟩
theorem KpC.of_ext {a b:World} (h:Ext a b):KpC a b:=⟨h.size,fun i _ _ _ _ hr=>(h.block i (gS.1 hr).1).trans hr,fun _ _ _ hr=>(h.block _ (gS.1 hr).1).trans hr⟩
theorem KpC.fr {w w':World} {g:Nat} {N:Int} {a:Option Addr} {n c:Nat} {mp:Option Nat} (k:KpC w w') (h:FrB w g N a n c mp):FrB w' g N a n c mp:=⟨k.row _ _ _ _ rfl h.row⟩
theorem KpC.pu {w w':World} {g x z:Nat} {m:Bool} (k:KpC w w') (h:PuB w g x z m):PuB w' g x z m:=⟨k.row _ _ _ _ rfl h.row⟩
theorem KpC.lt {w w':World} (k:KpC w w') (h:LtL w):LtL w':=by
 obtain ⟨t,hr⟩:=h.row;exact ⟨t,k.glo _ _ _ hr⟩
theorem kpC_b {w:World} (W:World) (l:Nat) (o o':Obj) (_:w.heap.size<=l) (h:W.heap[l]?=some o) (hc:o.isCells=false) (_:o.isWalk=false):KpC W (W.putObj l o') :=
 ⟨by simp,fun k cs t f _ hr=>by
  by_cases e:k=l
  ·subst e;rw [h] at hr;cases hr;cases hc
  ·exact (World.putObj_heap_other e).trans hr,fun cs t f hr=>by
  by_cases e:(3:Nat)=l
  ·subst e;rw [h] at hr;cases hr;cases hc
  ·exact (World.putObj_heap_other e).trans hr⟩
def RndR (J Jx:List PK->World->Prop) (pre:List PK) (x:PK) (W:World) (e:Ending) (W':World):Prop :=
 (e=.returned (.bool true)/\J (pre++[x]) W'/\KpC W W')\/(e=.returned (.bool false)/\Jx (pre++[x]) W')
def SprR (J Jx:List PK->World->Prop) (pre xs:List PK) (W:World) (e:Ending) (W':World):Prop :=
 (e=.returned (.bool true)/\J (pre++xs) W'/\KpC W W')\/(e=.returned (.bool false)/\∃ q,q <+: xs/\Jx (pre++q) W')
theorem let_idx (j:Nat) (hj:j<3) (w:World):(Instr.index 212 (.agg #[.int .u16 1,.int .u16 0,.bool false,.int .u16 1,.int .u16 1,.bool false,.int .u16 0,.int .u16 1,.bool false]) (.int .i64 (j:Int))).run Tryz.prog w=.ok (.agg #[.int .u16 (lX j:Int),.int .u16 (lZ j:Int),.bool false]) w:=by
 have i0:∀ w,(Instr.index 212 (.agg #[.int .u16 1,.int .u16 0,.bool false,.int .u16 1,.int .u16 1,.bool false,.int .u16 0,.int .u16 1,.bool false]) (.int .i64 0)).run Tryz.prog w=.ok (.agg #[.int .u16 1,.int .u16 0,.bool false]) w:=fun _=>by kernel_rfl
 have i1:∀ w,(Instr.index 212 (.agg #[.int .u16 1,.int .u16 0,.bool false,.int .u16 1,.int .u16 1,.bool false,.int .u16 0,.int .u16 1,.bool false]) (.int .i64 1)).run Tryz.prog w=.ok (.agg #[.int .u16 1,.int .u16 1,.bool false]) w:=fun _=>by kernel_rfl
 have i2:∀ w,(Instr.index 212 (.agg #[.int .u16 1,.int .u16 0,.bool false,.int .u16 1,.int .u16 1,.bool false,.int .u16 0,.int .u16 1,.bool false]) (.int .i64 2)).run Tryz.prog w=.ok (.agg #[.int .u16 0,.int .u16 1,.bool false]) w:=fun _=>by kernel_rfl
 have h:j=0\/j=1\/j=2:=by omega
 rcases h with rfl | rfl | rfl
 ·exact i0 w
 ·exact i1 w
 ·exact i2 w
theorem anyDepthC {m:Nat} (m':Nat) {P:Program} {l:Nat} {args:Array Value} {W:World} {R:Ending->World->Prop} (h:YieldAt Fence.wide m P l args W R):YieldAt Fence.wide m' P l args W R:=by
 obtain ⟨fn,tmps,assign,body,hy,hR⟩:=h;exact ⟨fn,tmps,assign,body,hy,hR.1,fun c cs _=>hR.2 c cs (fun d h=>by cases h)⟩
theorem spread_zero (l:Nat) (L:List PK) (J Jx:List PK->World->Prop) (hJ:∀ s W W',J s W->Ext W W'->J s W')
  (hY:∀ m pre x W,J pre W->pre++[x] <+: L->YieldAt Fence.wide m Tryz.prog l #[pvK x] W (RndR J Jx pre x W))
  (n:Nat) (wt:Nat) (p:PK) (ao:Option Addr) (ng c:Nat) (mp:Option Nat) (pre:List PK) (W:World) (h0:J pre W) (hM:pre++[p] <+: L) :
  Calls Tryz.prog 178 #[.agg #[.int .i64 (n:Int),.slice ao ng c,.map mp],pvK p,.int .i64 (n:Int),.int .i64 (wt:Int),.func (.yield l) #[] #[]] W (SprR J Jx pre (spP 0 n p wt) W):=by
 unfold pvK;obtain ⟨H,hH⟩:∃ H,W.heap.size=H:=⟨_,rfl⟩;obtain ⟨W0,hW0⟩:∃ W0,(W.alloc (.cells #[.int .i64 (n:Int),.slice ao ng c,.map mp] 115)).alloc (.cells #[.int .u16 (p.x:Int),.int .u16 (p.z:Int),.bool p.m] 103)=W0:=⟨_,rfl⟩
 have E0:Ext W W0:=by rw [<-hW0];exact (ext_al W _).trans (ext_al _ _)
 have s1:(W.alloc (.cells #[.int .i64 (n:Int),.slice ao ng c,.map mp] 115)).heap.size=H+1:=by rw [<-hH];simp
 have R0:FrB W0 H n ao ng c mp:=by rw [<-hW0,<-hH];exact (FrB.new _ _ _ _ _ _).ext (ext_al _ _)
 have P0:PuB W0 (H+1) p.x p.z p.m:=by rw [<-hW0,<-s1];exact PuB.new _ _ _ _
 obtain ⟨fn,tmps,assign,body,hy,hR⟩:=hY 5 pre p W0 (hJ _ _ _ h0 E0) hM;unfold pvK at hy;have HE0:=Lh E0;have HW0:=Lh hW0;have HH:=Lh hH;have k0:=R0.x0;have p0:=P0.x0;have p1:=P0.x1;have p2:=P0.x2;clear hY hJ h0 hM E0 s1 R0 P0 hH hW0
 go_enter Tryz.func178,Tryz.ntmps178
 go_upto_region 2 with fail
 rw [HW0.out,HH.out];refine (wpIn_wide (n:=6)).1 ?_
 gi_wp2
 refine hR.mono ?_;rintro e w1 (⟨rfl,hj,hk⟩ | ⟨rfl,hx⟩)
 ·have Hj:=Lh (And.intro hj ((KpC.of_ext HE0.out).trans hk))
  clear hj hk hy hR k0 p0 p1 p2
  gi_wp2
  go_wp2_with fail
  go_ret
  exact Or.inl ⟨rfl,Hj.out⟩
 ·have Hx:=Lh hx
  clear hx hy hR k0 p0 p1 p2
  gi_wp2
  go_wp2_with fail
  go_ret
  exact Or.inr ⟨rfl,_,List.prefix_rfl,Hx.out⟩
theorem spP_succ (k q:Nat) (p:PK) (wt:Nat):spP (k+1) q p wt=(if wt<k+1 then spP k (q+1) p wt else [])++(if wt=0 then [] else (List.range 3).flatMap fun j=>spP k (q+1) (nxP p q j) (wt-1)):=rfl
theorem nxP_x {p:PK} {q j:Nat} (hx:p.x<2 ^ q) (hq:q<12):(nxP p q j).x=p.x+lX j*2 ^ q/\(nxP p q j).x<2 ^ (q+1):=by
 have h1:2 ^ q<=2 ^ 11:=Nat.pow_le_pow_right (by decide) (by omega)
 have h2:(2:Nat) ^ 11=2048:=by decide
 have h3:lX j<=1:=by unfold lX;split<;>omega
 have h4:lX j*2 ^ q<=2 ^ q:=by have:=Nat.mul_le_mul_right (2 ^ q) h3;omega
 have h5:(nxP p q j).x=(p.x+lX j*2 ^ q) % 65536:=rfl;rw [h5,Nat.mod_eq_of_lt (by omega),Nat.pow_succ];exact ⟨rfl,by omega⟩
theorem nxP_z {p:PK} {q j:Nat} (hx:p.z<2 ^ q) (hq:q<12):(nxP p q j).z=p.z+lZ j*2 ^ q/\(nxP p q j).z<2 ^ (q+1):=by
 have h1:2 ^ q<=2 ^ 11:=Nat.pow_le_pow_right (by decide) (by omega)
 have h2:(2:Nat) ^ 11=2048:=by decide
 have h3:lZ j<=1:=by unfold lZ;split<;>omega
 have h4:lZ j*2 ^ q<=2 ^ q:=by have:=Nat.mul_le_mul_right (2 ^ q) h3;omega
 have h5:(nxP p q j).z=(p.z+lZ j*2 ^ q) % 65536:=rfl;rw [h5,Nat.mod_eq_of_lt (by omega),Nat.pow_succ];exact ⟨rfl,by omega⟩
theorem spread_succ (l:Nat) (L:List PK) (J Jx:List PK->World->Prop) (hJ:∀ s W W',J s W->Ext W W'->J s W')
  (n:Nat) (hn:n<=12) (ao:Option Addr) (ng c:Nat) (mp:Option Nat) (k q:Nat) (hqk:q+(k+1)=n)
  (ih:∀ (wt:Nat) (p:PK) (pre:List PK) (W:World),LtL W->J pre W->p.x<2 ^ (q+1)->p.z<2 ^ (q+1)->wt<=k->pre++spP k (q+1) p wt <+: L ->
   Calls Tryz.prog 178 #[.agg #[.int .i64 (n:Int),.slice ao ng c,.map mp],.agg #[.int .u16 (p.x:Int),.int .u16 (p.z:Int),.bool p.m],.int .i64 ((q+1:Nat):Int),.int .i64 (wt:Int),.func (.yield l) #[] #[]] W (SprR J Jx pre (spP k (q+1) p wt) W))
  (wt:Nat) (p:PK) (pre:List PK) (W:World) (hL:LtL W) (h0:J pre W) (hx:p.x<2 ^ q) (hz:p.z<2 ^ q) (hwt:wt<=k+1) (hM:pre++spP (k+1) q p wt <+: L) :
  Calls Tryz.prog 178 #[.agg #[.int .i64 (n:Int),.slice ao ng c,.map mp],.agg #[.int .u16 (p.x:Int),.int .u16 (p.z:Int),.bool p.m],.int .i64 (q:Int),.int .i64 (wt:Int),.func (.yield l) #[] #[]] W (SprR J Jx pre (spP (k+1) q p wt) W):=by
 obtain ⟨A,hA⟩:∃ A,(if wt<k+1 then spP k (q+1) p wt else [])=A:=⟨_,rfl⟩;obtain ⟨f,hf⟩:∃ f,(fun j=>spP k (q+1) (nxP p q j) (wt-1))=f:=⟨_,rfl⟩;obtain ⟨X,hX⟩:∃ X,spP (k+1) q p wt=X:=⟨_,rfl⟩
 have hX2:A++(if wt=0 then [] else (List.range 3).flatMap f)=X:=by rw [<-hX,spP_succ,hA,hf]
 rw [hX] at hM ⊢;obtain ⟨H,hH⟩:∃ H,W.heap.size=H:=⟨_,rfl⟩;obtain ⟨W0,hW0⟩:∃ W0,(W.alloc (.cells #[.int .i64 (n:Int),.slice ao ng c,.map mp] 115)).alloc (.cells #[.int .u16 (p.x:Int),.int .u16 (p.z:Int),.bool p.m] 103)=W0:=⟨_,rfl⟩
 have E0:Ext W W0:=by rw [<-hW0];exact (ext_al W _).trans (ext_al _ _)
 have s1:(W.alloc (.cells #[.int .i64 (n:Int),.slice ao ng c,.map mp] 115)).heap.size=H+1:=by rw [<-hH];simp
 have R0:FrB W0 H n ao ng c mp:=by rw [<-hW0,<-hH];exact (FrB.new _ _ _ _ _ _).ext (ext_al _ _)
 have P0:PuB W0 (H+1) p.x p.z p.m:=by rw [<-hW0,<-s1];exact PuB.new _ _ _ _
 have HJ0:=Lh (hJ _ _ _ h0 E0);have HL:=Lh (hL.ext E0);have HE0:=Lh E0;have HW0:=Lh hW0;have HH:=Lh hH;have HR:=Lh R0;have HP:=Lh P0;have HA:=Lh hA;have Hf:=Lh hf;have HX2:=Lh hX2;have HM:=Lh hM;have Hih:=Lh ih;have HJm:=Lh hJ;have Hb:=Lh (And.intro hx (And.intro hz (And.intro hwt (And.intro hqk hn))))
 have wk1:IntKind.i64.wrap ((n:Int)-(q:Int))=((k+1:Nat):Int):=by rw [IntKind.wrap_i64];omega
 have wk2:IntKind.i64.wrap ((q:Int)+1)=((q+1:Nat):Int):=by rw [IntKind.wrap_i64];omega
 have hne:¬ (q:Int)=(n:Int):=by omega
 have hcb:=bf hne;have k0:=R0.x0;have k1:=R0.x1;have k2:=R0.x2;have p0:=P0.x0;have p1:=P0.x1;have p2:=P0.x2;clear hJ h0 E0 s1 R0 P0 hH hW0 hA hf hX2 hX hM ih hL hx hz hqk hn hne
 go_enter Tryz.func178,Tryz.ntmps178
 go_upto_region 3 with fail
 rw [HW0.out,HH.out];clear HW0 HH hcb
 go_cut [36] from 21 to 36 (fun s36 wx=>∃ b:Bool,s36=.bool b/\(b=false->J (pre++A) wx/\KpC W0 wx)/\(b=true->∃ q',q' <+: A/\Jx (pre++q') wx))
 case first =>
  by_cases hw:wt<k+1
  ·have q1:(wt:Int)<((k+1:Nat):Int):=by omega
   have HC:=Lh (Hih.out wt p pre W0 HL.out HJ0.out (by have:=Hb.out.1;rw [Nat.pow_succ];omega) (by have:=Hb.out.2.1;rw [Nat.pow_succ];omega) (by omega) (by
    have h1:=HA.out;rw [if_pos hw] at h1;have h2:=HM.out;rw [<-HX2.out] at h2;rw [h1];refine List.IsPrefix.trans ?_ h2;rw [<-List.append_assoc]
    exact List.prefix_append _ _))
   have HA2:=Lh (show spP k (q+1) p wt=A by have h1:=HA.out;rw [if_pos hw] at h1;exact h1);rw [HA2.out] at HC;clear hw hwt
   go_wp2_with fail
   refine HC.out.mono ?_;rintro e w1 (⟨rfl,hj,hk⟩ | ⟨rfl,hq⟩)
   ·have Hj:=Lh (And.intro hj hk)
    clear hj hk k0 k1 k2 p0 p1 p2
    go_wp2_with fail
    go_meet
    exact ⟨false,rfl,fun _=>Hj.out,fun h=>by cases h⟩
   ·have Hq:=Lh hq
    clear hq k0 k1 k2 p0 p1 p2
    go_wp2_with fail
    go_meet
    exact ⟨true,rfl,fun h=>(by cases h),fun _=>Hq.out⟩
  ·have q1:¬ (wt:Int)<((k+1:Nat):Int):=by omega
   have HA2:=Lh (show A=[] by have h1:=HA.out;rw [if_neg hw] at h1;exact h1.symm);clear hw hwt
   go_wp2_with fail
   go_meet
   exact ⟨false,rfl,fun _=>⟨by rw [HA2.out,List.append_nil];exact HJ0.out,KpC.refl _⟩,fun h=>by cases h⟩
 case rest =>
  obtain ⟨b,rfl,hf,ht⟩:=hcut
  cases b
  · -- all of these have come
   obtain ⟨hj,hk⟩:=hf rfl;have Hj:=Lh hj;have Hk:=Lh hk;clear hf ht wk1 k0 k1 k2 p0 p1 p2
   by_cases hw0:wt=0
   ·subst hw0
    have HX3:=Lh (show A=X by have:=HX2.out;rw [if_pos rfl,List.append_nil] at this;exact this);have HKp:=Lh ((KpC.of_ext HE0.out).trans hk);clear hj hk hwt
    go_wp2_with fail
    go_ret
    exact Or.inl ⟨rfl,by rw [<-HX3.out];exact Hj.out,HKp.out⟩
   have hcb:=bf (show ¬ (wt:Int)=0 by omega)
   have wk3:IntKind.i64.wrap ((wt:Int)-1)=((wt-1:Nat):Int):=by rw [IntKind.wrap_i64];have:=Hb.out.2.2.2;omega
   have HX3:=Lh (show A++(List.range 3).flatMap f=X by have:=HX2.out;rw [if_neg hw0] at this;exact this);obtain ⟨v,hv⟩:∃ v,wt-1=v:=⟨_,rfl⟩;rw [hv] at wk3 Hf;have Hv:=Lh (show v<=k by omega);have HLx:=Lh (hk.lt HL.out);obtain ⟨tt,hrow⟩:=HLx.out.row
   have hi9:(Tryz.prog.info? 212).map (·.size)=some (#[Value.int .u16 1,.int .u16 0,.bool false,.int .u16 1,.int .u16 1,.bool false,.int .u16 0,.int .u16 1,.bool false]:Array Value).size:=by kernel_rfl
   clear hj hk hwt hw0 hv
   go_upto_region 7 with fail
   clear hcb
   go_wp2_with (refine wpList_load_row rfl 212 _ rfl 3 rfl tt _ (0,0) _ hrow Tryz.underlying212 rfl hi9 ?_)
   clear hrow hi9
   go_loopg [40] 3 (fun kk s40 wr=>∃ j:Nat,s40=.int .i64 (j:Int)/\j<=3/\3-j=kk/\J (pre++A++(List.range j).flatMap f) wr/\KpC W0 wr)
   case atStart=>exact ⟨0,rfl,by decide,rfl,by rw [List.range_zero,List.flatMap_nil,List.append_nil];exact Hj.out,Hk.out⟩
   case round =>
    obtain ⟨j,rfl,hj3,hkk,hj,hk⟩:=hrel;have Hkk:=Lh hkk;have HJw:=Lh hj;have HKw:=Lh hk
    by_cases hin:j=3
    ·subst hin
     have HKp:=Lh ((KpC.of_ext HE0.out).trans hk);clear hj3 hkk hj hk
     go_wp2_with fail
     go_ret
     exact Or.inl ⟨rfl,by rw [<-HX3.out,<-List.append_assoc];exact HJw.out,HKp.out⟩
    have hlt:j<3:=by omega
    have q1:(j:Int)<3:=by omega
    have wk:IntKind.i64.wrap ((j:Int)+1)=((j+1:Nat):Int):=by rw [IntKind.wrap_i64];omega
    have hidx:=let_idx j hlt;obtain ⟨W3,hW3⟩:∃ W3,wr.alloc (.cells #[.int .u16 (lX j:Int),.int .u16 (lZ j:Int),.bool false] 103)=W3:=⟨_,rfl⟩;obtain ⟨G,hG⟩:∃ G,wr.heap.size=G:=⟨_,rfl⟩
    have E3:Ext wr W3:=by rw [<-hW3];exact ext_al _ _
    have Pl:PuB W3 G (lX j) (lZ j) false:=by rw [<-hW3,<-hG];exact PuB.new wr _ _ _
    have HW3:=Lh hW3;have HG:=Lh hG;have HE3:=Lh E3;have HPl:=Lh Pl;have Hlt:=Lh hlt;have HPp:=Lh ((hk.pu HP.out).ext E3);have HRf:=Lh ((hk.fr HR.out).ext E3);have HL3:=Lh ((hk.lt HL.out).ext E3);have HJ3:=Lh (HJm.out _ _ _ hj E3);clear hj3 hkk hj hk hin hlt E3 Pl hW3 hG
    go_upto_region 10 with fail
    rw [HW3.out,HG.out]
    have hq11:q<=11:=by have:=Hb.out.2.2.2;omega
    have hnx:=nxP_x (j:=j) Hb.out.1 (by omega);have hnz:=nxP_z (j:=j) Hb.out.2.1 (by omega);have hpw:2 ^ q<=2 ^ 11:=Nat.pow_le_pow_right (by decide) hq11
    have h11:(2:Nat) ^ 11=2048:=by decide
    have hcast:((2 ^ q:Nat):Int)=(2:Int) ^ q:=by rw [Int.natCast_pow];rfl
    have hfj:spP k (q+1) (nxP p q j) v=f j:=congrFun Hf.out j;have hmf:nxP p q j=⟨(nxP p q j).x,(nxP p q j).z,false,(nxP p q j).hx,(nxP p q j).hz⟩:=rfl;obtain ⟨p',hp'⟩:∃ p',nxP p q j=p':=⟨_,rfl⟩
    have hm':p'.m=false:=by rw [<-hp'];rfl
    rw [hp'] at hnx hnz hfj;clear hmf;obtain ⟨a,ha⟩:∃ a,lX j=a:=⟨_,rfl⟩;obtain ⟨b,hb⟩:∃ b,lZ j=b:=⟨_,rfl⟩
    have ha1:a<=1:=by rw [<-ha];unfold lX;split<;>omega
    have hb1:b<=1:=by rw [<-hb];unfold lZ;split<;>omega
    rw [ha] at hnx hidx HPl HW3;rw [hb] at hnz hidx HPl HW3;obtain ⟨AX,hAX⟩:∃ AX,a*2 ^ q=AX:=⟨_,rfl⟩;obtain ⟨AZ,hAZ⟩:∃ AZ,b*2 ^ q=AZ:=⟨_,rfl⟩
    have bAX:AX<=2 ^ q:=by rw [<-hAX];exact Nat.le_trans (Nat.mul_le_mul_right _ ha1) (by omega)
    have bAZ:AZ<=2 ^ q:=by rw [<-hAZ];exact Nat.le_trans (Nat.mul_le_mul_right _ hb1) (by omega)
    have r3:IntKind.u16.wrap ((a:Int)*2 ^ q)=(AX:Int):=by rw [<-hcast,<-Int.natCast_mul,hAX];exact wrapu (by omega)
    have s3:IntKind.u16.wrap ((b:Int)*2 ^ q)=(AZ:Int):=by rw [<-hcast,<-Int.natCast_mul,hAZ];exact wrapu (by omega)
    have hmin:min q 16=q:=by omega
    have r3':IntKind.u16.wrap ((a:Int)*2 ^ min q 16)=(AX:Int):=by rw [hmin];exact r3
    have s3':IntKind.u16.wrap ((b:Int)*2 ^ min q 16)=(AZ:Int):=by rw [hmin];exact s3
    have r4:bits .or .u16 (p.x:Int) (AX:Int)=(p'.x:Int):=by
     rw [or_u16 (by have:=Hb.out.1;omega) (by omega),hnx.1];have:=or_plus a Hb.out.1;rw [hAX] at this;rw [this,hAX]
    have s4:bits .or .u16 (p.z:Int) (AZ:Int)=(p'.z:Int):=by
     rw [or_u16 (by have:=Hb.out.2.1;omega) (by omega),hnz.1];have:=or_plus b Hb.out.2.1;rw [hAZ] at this;rw [this,hAZ]
    have p0:=HPp.out.x0;have p1:=HPp.out.x1;have l0:=HPl.out.x0;have l1:=HPl.out.x1
    have q0:(0:Int)<=(q:Int):=by omega
    have Hnx:=Lh (And.intro hnx.2 hnz.2);have Hfj:=Lh hfj;have Hm':=Lh hm';clear hq11 hnx hnz hpw h11 hcast hfj hp' hm' ha hb ha1 hb1 hAX hAZ bAX bAZ hmin
    go_cut [13] from 43 to 57 (fun s13 wx=>∃ B,s13=.pointer (some ⟨B,0,none⟩)/\PuB wx B p'.x p'.z false/\Ext W3 wx)
    case first =>
     have p0a:=fun o=>(HPp.out.ext (ext_al W3 o)).x0
     have p1a:=fun o=>(HPp.out.ext (ext_al W3 o)).x1
     have l0a:=fun o=>(HPl.out.ext (ext_al W3 o)).x0
     have l1a:=fun o=>(HPl.out.ext (ext_al W3 o)).x1
     go_region
     go_wp2_with fail
     go_meet
     have e1:Ext W3 (W3.alloc (.cells #[.int .u16 (p'.x:Int),.int .u16 (p'.z:Int),.bool false] 103)).drew:=Below.drew (ext_al _ _);exact ⟨_,rfl,⟨(Below.drew (Ext.refl _):Ext (W3.alloc (.cells #[.int .u16 (p'.x:Int),.int .u16 (p'.z:Int),.bool false] 103)) _).block _ (by simp) |>.trans (heap_alloc_new _ _)⟩,e1⟩
    case rest =>
    obtain ⟨B,rfl,hPB,hEx⟩:=hcut;have hfr:=HRf.out.ext hEx;have k0:=hfr.x0;have k1:=hfr.x1;have k2:=hfr.x2;have b0:=hPB.x0;have b1:=hPB.x1;have b2:=hPB.x2
    have HC:=Lh (Hih.out v p' (pre++A++(List.range j).flatMap f) _ (HL3.out.ext hEx) (HJm.out _ _ _ HJ3.out hEx) Hnx.out.1 Hnx.out.2 Hv.out (by
     have h2:=HM.out;rw [<-HX3.out] at h2
     have h3:(List.range 3).flatMap f=(List.range j).flatMap f++(f j++(List.range (2-j)).flatMap (fun i=>f (j+1+i))):=by
      have h4:j=0\/j=1\/j=2:=by have:=Hlt.out;omega
      rcases h4 with rfl | rfl | rfl<;>simp [List.range_succ]
     rw [h3] at h2;rw [Hfj.out];refine List.IsPrefix.trans ?_ h2;rw [<-List.append_assoc,<-List.append_assoc,<-List.append_assoc]
     exact List.prefix_append _ _))
    rw [Hfj.out,Hm'.out] at HC;have HKx:=Lh (HKw.out.trans (KpC.of_ext (HE3.out.trans hEx)));clear hfr hPB hEx r3 s3 r3' s3' r4 s4 p0 p1 l0 l1
    go_wp2_with fail
    refine HC.out.mono ?_;rintro e w1 (⟨rfl,hj1,hk1⟩ | ⟨rfl,q',hq',hx'⟩)
    ·have Hj1:=Lh hj1;have Hk1:=Lh (HKx.out.trans hk1)
     clear hj1 hk1 HC k0 k1 k2 b0 b1 b2
     go_wp2_with fail
     go_roundg (3-(j+1))
     case measure=>have:=Hkk.out;have:=Hlt.out;omega
     case rel=>exact ⟨j+1,rfl,Hlt.out,rfl,by rw [List.range_succ,List.flatMap_append,List.flatMap_cons,List.flatMap_nil,List.append_nil,<-List.append_assoc];exact Hj1.out,Hk1.out⟩
    ·have Hq:=Lh hq';have Hx:=Lh hx'
     clear hq' hx' HC k0 k1 k2 b0 b1 b2
     go_wp2_with fail
     go_ret
     refine Or.inr ⟨rfl,A++((List.range j).flatMap f++q'),?_,by rw [<-List.append_assoc,<-List.append_assoc];exact Hx.out⟩;obtain ⟨r,hr⟩:=Hq.out;rw [<-HX3.out]
     have h3:(List.range 3).flatMap f=(List.range j).flatMap f++(f j++(List.range (2-j)).flatMap (fun i=>f (j+1+i))):=by
      have h4:j=0\/j=1\/j=2:=by have:=Hlt.out;omega
      rcases h4 with rfl | rfl | rfl<;>simp [List.range_succ]
     rw [h3,<-hr];exact ⟨r++(List.range (2-j)).flatMap (fun i=>f (j+1+i)),by simp [List.append_assoc]⟩
  · -- no more are wanted
   have Ht:=Lh (ht rfl);clear hf ht wk1 wk2 k0 k1 k2 p0 p1 p2
   go_wp2_with fail
   go_ret
   obtain ⟨q',hq,hx⟩:=Ht.out;exact Or.inr ⟨rfl,q',hq.trans (by rw [<-HX2.out];exact List.prefix_append _ _),hx⟩
theorem spread_any (l:Nat) (L:List PK) (J Jx:List PK->World->Prop) (hJ:∀ s W W',J s W->Ext W W'->J s W')
  (hY:∀ m pre x W,J pre W->pre++[x] <+: L->YieldAt Fence.wide m Tryz.prog l #[pvK x] W (RndR J Jx pre x W))
  (n:Nat) (hn:n<=12) (ao:Option Addr) (ng c:Nat) (mp:Option Nat):∀ (k q:Nat),q+k=n->∀ (wt:Nat) (p:PK) (pre:List PK) (W:World),LtL W->J pre W->p.x<2 ^ q->p.z<2 ^ q->wt<=k->pre++spP k q p wt <+: L ->
   Calls Tryz.prog 178 #[.agg #[.int .i64 (n:Int),.slice ao ng c,.map mp],.agg #[.int .u16 (p.x:Int),.int .u16 (p.z:Int),.bool p.m],.int .i64 (q:Int),.int .i64 (wt:Int),.func (.yield l) #[] #[]] W (SprR J Jx pre (spP k q p wt) W)
 | 0,q,hq,wt,p,pre,W,_,h0,_,_,_,hM=>by
  have e:q=n:=by omega
  subst e;exact spread_zero l L J Jx hJ hY q wt p ao ng c mp pre W h0 (by simpa [spP] using hM)
 | k+1,q,hq,wt,p,pre,W,hL,h0,hx,hz,hwt,hM =>
  spread_succ l L J Jx hJ n hn ao ng c mp k q hq (fun wt p pre W hL h0 hx hz hwt hM=>spread_any l L J Jx hJ hY n hn ao ng c mp k (q+1) (by omega) wt p pre W hL h0 hx hz hwt hM) wt p pre W hL h0 hx hz hwt hM
end Go.Proofs.YtlechhmhmakgpaaGreatDoor
