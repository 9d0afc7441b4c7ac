/-
  The program: the chance of errors of which there are so many of each weight.
-/
import Derived.Test.YtjfomkoedgipjaaGreatDoorS22Qw
namespace Go.Proofs.YtjfomkoedgipjaaGreatDoor
set_option maxRecDepth 100000
set_option maxHeartbeats 8000000
open Go.RowKit
structure ChB (K n:Nat) (cnt:Nat->Nat) (z1 z2 z3:Int):Prop where
 hK:K<=4194304
 hK1:1<=K
 f1:Fit K z1
 f2:Fit K z2
 f3:Fit K z3
 p1:∀ i,i<=n->Fit K (z1 ^ i)
 p2:∀ i,i<=n->Fit K (z2 ^ i)
 p3:∀ i,i<=n->Fit K (z3 ^ i)
 fc:∀ i,i<=n->Fit K (cnt i:Int)
 c64:∀ i,cnt i<=1099511627776
 fg:∀ i,i<=n->Fit K (z1 ^ i*z2 ^ (n-i))
 fx:∀ i,i<=n->Fit K (cnt i*(z1 ^ i*z2 ^ (n-i)))
 fs:∀ m,m<=n+1->Fit K (gsm cnt z1 z2 n m)
theorem gsm_step {cnt:Nat->Nat} {a v:Int} {n m:Nat} (h:m<=n):gsm cnt a v n m+cnt m*(a ^ m*v ^ (n-m))=gsm cnt a v n (m+1):=by
 show _=gsm cnt a v n m+cnt m*gtm a v m n
 rw [gtm_all h]
theorem keep_onlyI {w w':World} {g:Nat} {cs:Array Value} {t:TypeId} (ho:Only g w w') (h:w.heap[g]?=some (.cells cs t (0,0))) (hn:∀ (i:Nat) (x:Int),cs[i]?≠some (Value.int .u64 x)):Keep64 w w':=by
 refine ⟨by rw [ho.size];exact Nat.le_refl _,fun b o x hx=>?_⟩
 by_cases hb:b=g
 ·subst hb
  rw [cell_of_row w b o cs t (0,0) h] at hx;exact absurd hx (hn o x)
 ·have:=ho.block b hb
  simp only [World.cell?] at hx ⊢;rw [this];exact hx
theorem noword2 (s:Int) (a:Option Addr) (n c:Nat) (i:Nat) (x:Int):(#[.int .i64 s,.slice a n c]:Array Value)[i]?≠some (Value.int .u64 x):=by
 match i with
 | 0=>simp
 | 1=>simp
 | k+2=>simp
theorem vari_put {w:World} {g:Nat} {s0:Int} {a0:Option Addr} {m0 c0:Nat} (h:w.heap[g]?=some (.cells #[.int .i64 s0,.slice a0 m0 c0] 54 (0,0))) {s:Int} {a:Option Addr} {n c:Nat} {z:Int} (hI:IsInt w s a n c z):VarI (w.setRow g #[.int .i64 s,.slice a n c]) g z :=
 ⟨s,a,n,c,⟨setRow_heap w g _ _ _ _ h⟩,hI.keep64 (keep_onlyI (setRow_onlyC w g _) h (noword2 _ _ _ _))⟩
theorem QBx.onlyI {W W':World} {g k:Nat} {s:Int} {a:Option Addr} {n c:Nat} {s':Int} {a':Option Addr} {n' c':Nat} (h:QBx W g s a n c s' a' n' c') (hO:Only k W W') (hne:g≠k):QBx W' g s a n c s' a' n' c':=⟨(hO.block _ hne).trans h.row⟩
theorem in_info:(Tryz.prog.info? 54).map (·.size)=some 2:=by kernel_rfl
theorem stepK_allocI {ops:Array Oper} {o:Oper} {a:Act} {K:Act->World->Prop} {Q:Exit->Act->World->Prop} {E:Prop} {w:World} (hgd:o.guard=none) (s:Nat) (hd:o.dst=some s)
  (ho:o.op=.alloc 54) (h:K (a.put (some s) (.pointer (some ⟨w.heap.size,0,none⟩))) (w.alloc (.cells #[.int .i64 0,.slice none 0 0] 54))) :
  if Region.wanted o (yielded ops a.tmps)=true then Oper.wp Tryz.prog o a w K Q else E:=by
 have hw:Region.wanted o (yielded ops a.tmps)=true:=by simp [Region.wanted,hgd]
 rw [if_pos hw];obtain ⟨od,oo,ot,opp,oa,og⟩:=o;simp only at ho hd;subst ho hd;have HH:=Lh h;clear h;unfold Oper.wp execOp
 go_simp
 exact HH.out
section
variable {ops:Array Oper} {P:Program} {Q:Exit->Act->World->Prop}
theorem anyK_threeC {md:Region.Mode} {k:Nat} {S:World->Prop} {i j t:Nat} {o o' o'':Oper} {n:Nat} {l:Array Bool} {a:Act} {w:World} (hr:Region.ready md ops l=[i,j,t]) (ho:ops[i]?=some o) (ho':ops[j]?=some o') (ho'':ops[t]?=some o'')
  (h:∀ K':Act->World->Prop,Shut (∀ a w,((l.setIfInBounds i true).getD k true=false->S w)->anyK P md ops Q k S n (l.setIfInBounds i true) a w->K' a w)->if Region.wanted o (yielded ops a.tmps)=true then Oper.wp P o a w K' Q else K' (a.put o.dst undef) w)
  (h':∀ K':Act->World->Prop,Shut (∀ a w,((l.setIfInBounds j true).getD k true=false->S w)->anyK P md ops Q k S n (l.setIfInBounds j true) a w->K' a w)->if Region.wanted o' (yielded ops a.tmps)=true then Oper.wp P o' a w K' Q else K' (a.put o'.dst undef) w)
  (h'':∀ K':Act->World->Prop,Shut (∀ a w,((l.setIfInBounds t true).getD k true=false->S w)->anyK P md ops Q k S n (l.setIfInBounds t true) a w->K' a w)->if Region.wanted o'' (yielded ops a.tmps)=true then Oper.wp P o'' a w K' Q else K' (a.put o''.dst undef) w) :
  anyK P md ops Q k S (n+1) l a w:=by
 refine ⟨fun h0=>(by rw [hr] at h0;cases h0),fun u hu=>?_⟩;rw [hr] at hu
 rcases List.mem_cons.1 hu with rfl | hu
 ·exact wpOp_step ho (fun K' hK=>h K' (fun a w hS hW=>hK a w ⟨hS,hW⟩))
 rcases List.mem_cons.1 hu with rfl | hu
 ·exact wpOp_step ho' (fun K' hK=>h' K' (fun a w hS hW=>hK a w ⟨hS,hW⟩))
 ·rcases List.mem_singleton.1 hu with rfl
  exact wpOp_step ho'' (fun K' hK=>h'' K' (fun a w hS hW=>hK a w ⟨hS,hW⟩))
end
theorem stepK_allocFC {ops:Array Oper} {o:Oper} {a:Act} {K:Act->World->Prop} {Q:Exit->Act->World->Prop} {E:Prop} {w:World} (hgd:o.guard=none) (s:Nat) (hd:o.dst=some s)
  (ho:o.op=.alloc 26) (h:K (a.put (some s) (.pointer (some ⟨w.heap.size,0,none⟩))) (w.alloc (.cells #[.int .i64 0,.int .i64 0] 26))) :
  if Region.wanted o (yielded ops a.tmps)=true then Oper.wp Tryz.prog o a w K Q else E:=by
 have hw:Region.wanted o (yielded ops a.tmps)=true:=by simp [Region.wanted,hgd]
 rw [if_pos hw];obtain ⟨od,oo,ot,opp,oa,og⟩:=o;simp only at ho hd;subst ho hd;have HH:=Lh h;clear h;unfold Oper.wp execOp
 go_simp
 exact HH.out
theorem stepK_allocFracC {ops:Array Oper} {o:Oper} {a:Act} {K:Act->World->Prop} {Q:Exit->Act->World->Prop} {E:Prop} {w:World} (hgd:o.guard=none) (s:Nat) (hd:o.dst=some s)
  (ho:o.op=.alloc 56) (h:K (a.put (some s) (.pointer (some ⟨w.heap.size,0,none⟩))) (w.alloc (.cells #[.int .i64 0,.slice none 0 0,.int .i64 0,.slice none 0 0] 56))) :
  if Region.wanted o (yielded ops a.tmps)=true then Oper.wp Tryz.prog o a w K Q else E:=by
 have hw:Region.wanted o (yielded ops a.tmps)=true:=by simp [Region.wanted,hgd]
 rw [if_pos hw];obtain ⟨od,oo,ot,opp,oa,og⟩:=o;simp only at ho hd;subst ho hd;have HH:=Lh h;clear h;unfold Oper.wp execOp
 go_simp
 exact HH.out
theorem frac_infoC:(Tryz.prog.info? 56).map (·.size)=some 4:=by kernel_rfl
theorem fault_infoC:(Tryz.prog.info? 26).map (·.size)=some 2:=by kernel_rfl
theorem ne_rowsC {w:World} {a b:Nat} {c c':Array Value} {t t':TypeId} {f f':Nat × Nat} (h:w.heap[a]?=some (.cells c t f)) (h':w.heap[b]?=some (.cells c' t' f')) (ht:t≠t'):a≠b:=by
 rintro rfl;rw [h] at h';injection h' with h';injection h' with _ h' _;exact ht h'
theorem noword4 (s:Int) (a:Option Addr) (n c:Nat) (s':Int) (a':Option Addr) (n' c':Nat) (i:Nat) (x:Int):(#[.int .i64 s,.slice a n c,.int .i64 s',.slice a' n' c']:Array Value)[i]?≠some (Value.int .u64 x):=by
 match i with
 | 0=>simp
 | 1=>simp
 | 2=>simp
 | 3=>simp
 | k+4=>simp
theorem nowordF (u v:Int) (i:Nat) (x:Int):(#[.int .i64 u,.int .i64 v]:Array Value)[i]?≠some (Value.int .u64 x):=by
 match i with
 | 0=>simp
 | 1=>simp
 | k+2=>simp
theorem chance_any (s1:Int) (a1:Option Addr) (n1 c1:Nat) (s2:Int) (a2:Option Addr) (n2 c2:Nat) (s3:Int) (a3:Option Addr) (n3 c3:Nat) (z1 z2 z3:Int) (ao:Option Addr) (c n:Nat) (hn:n<=12) (cnt:Nat->Nat) (K:Nat) (hB:ChB K n cnt z1 z2 z3)
  (w:World) (h1:IsInt w s1 a1 n1 c1 z1) (h2:IsInt w s2 a2 n2 c2 z2) (h3:IsInt w s3 a3 n3 c3 z3) (hL:IntsAt w ao (n+1) ((List.range (n+1)).map fun i=>(cnt i:Int))) (hbr:Bru w) :
  Calls Tryz.prog 18 #[.agg #[.int .i64 s1,.slice a1 n1 c1,.int .i64 s2,.slice a2 n2 c2,.int .i64 s3,.slice a3 n3 c3],.slice ao (n+1) c] w (QRet w (nfp (gsm cnt z1 z2 n (n+1)) (z3 ^ n)) (nfq (gsm cnt z1 z2 n (n+1)) (z3 ^ n))):=by
 obtain ⟨b,o,rfl,hbl,hcell⟩:=hL.at (Nat.succ_pos n)
 have hcell':∀ m,m<=n->w.cell? ⟨b,o+m,none⟩=some (.int .i64 (cnt m:Int)):=fun m hm=>by
  rw [hcell m (by omega)]
  simp [List.getD_eq_getElem?_getD,List.getElem?_map,List.getElem?_range (show m<n+1 by omega)]
 obtain ⟨H,hH⟩:∃ H,w.heap.size=H:=⟨_,rfl⟩;obtain ⟨W0,hW0⟩:∃ W0,(w.alloc (.cells #[.int .i64 s1,.slice a1 n1 c1,.int .i64 s2,.slice a2 n2 c2,.int .i64 s3,.slice a3 n3 c3] 60)).alloc (.cells #[.int .i64 0,.slice none 0 0,.int .i64 0,.slice none 0 0] 56)=W0:=⟨_,rfl⟩
 have s0:W0.heap.size=H+1+1:=by rw [<-hW0,<-hH];simp
 have E0:Ext w W0:=by rw [<-hW0];exact (Ext.alloc w _).then _
 have B0:OdB W0 H s1 a1 n1 c1 s2 a2 n2 c2 s3 a3 n3 c3:=by
  rw [<-hW0,<-hH];exact OdB.ext ⟨heap_alloc_new w _⟩ (Ext.alloc _ _)
 have R0:QBx W0 (H+1) 0 none 0 0 0 none 0 0:=by
  have:=qbx_new (w.alloc (.cells #[.int .i64 s1,.slice a1 n1 c1,.int .i64 s2,.slice a2 n2 c2,.int .i64 s3,.slice a3 n3 c3] 60)) 0 none 0 0 0 none 0 0;rw [hW0,World.size_alloc,hH] at this;exact this
 have HE0:=hid E0;have HO:=hid B0;have HR:=hid R0;have HW0:=hid hW0;have HH:=hid hH;have Hs0:=hid s0;have H1:=hid h1;have H2:=hid h2;have H3:=hid h3;have HB:=hid hB;have Hbr:=hid hbr;have Hn:=hid hn;have HC:=hid hcell';have Hbl:=hid hbl
 have wk1:wrap64 (n:Int)=(n:Int):=by unfold wrap64;omega
 clear E0 B0 R0 hW0 hH s0 h1 h2 h3 hB hbr hn hcell hcell' hL hbl
 go_enter Tryz.func18,Tryz.ntmps18
 go_upto_region 1 with fail
 rw [HW0.out,HH.out]
 go_upto_region 3 with fail
 obtain ⟨W1,hW1⟩:∃ W1,W0.alloc (.cells #[.int .i64 0,.slice none 0 0] 54)=W1:=⟨_,rfl⟩
 have E1:Ext W0 W1:=by rw [<-hW1];exact Ext.alloc _ _
 have BS:Box W1 (H+1+1) 0 none 0 0:=by rw [<-hW1,<-Hs0.out];exact box_new W0 0 none 0 0
 have HBS:=hid BS;have HE1:=hid (HE0.out.trans E1);have HO1:=hid (HO.out.ext E1);have HR1:=hid (HR.out.ext E1);rw [Hs0.out,hW1];simp only [wk1];clear hW1 E1 BS HO HR HE0 Hs0 HW0
 go_wp2_with fail
 go_loopg [17] (n+1) (fun kk s17 wr=>∃ m:Nat,s17=.int .i64 (m:Int)/\m<=n+1/\n+1-m=kk/\VarI wr (H+1+1) (gsm cnt z1 z2 n m)/\OdB wr H s1 a1 n1 c1 s2 a2 n2 c2 s3 a3 n3 c3/\QBx wr (H+1) 0 none 0 0 0 none 0 0/\Ext w wr)
 case atStart=>exact ⟨0,rfl,Nat.zero_le _,rfl,⟨0,none,0,0,HBS.out,IsInt.small _ 0 (by decide) (by decide)⟩,HO1.out,HR1.out,HE1.out⟩
 case round =>
  obtain ⟨m,rfl,hm,hkk,⟨s4,a4,n4,c4,b4,i4⟩,bO,bR,hx⟩:=hrel;have Hkk:=hid hkk;have Hb4:=hid b4;have Hi4:=hid i4;have HbO:=hid bO;have HbR:=hid bR;have Hx:=hid hx;have Hm:=hid hm
  by_cases hmn:m=n+1
  ·have q1:¬ (m:Int)<((n+1:Nat):Int):=by omega
   subst hmn;clear hkk hm b4 i4 bO bR hx
   go_upto_region 9 with fail
   have kO:=HbO.out;have m0:=Hb4.out.c0;have m1:=Hb4.out.c1;have m2:=kO.x4;have m3:=kO.x5;have P3:=hid (fun (wx:World) (hx:Ext wr wx)=>power_any s3 a3 n3 c3 z3 n (by have:=Hn.out;omega) wx (H3.out.ext (Hx.out.trans hx)) K HB.out.hK HB.out.f3 (fun i hi=>HB.out.p3 i hi));have HOv:=hid (fun (wx:World) (hx:Ext wr wx) (sv:Int) (ov:Option Addr) (mv jv:Nat) (h:IsInt wx sv ov mv jv (z3 ^ n))=>Over_fr s4 sv a4 ov n4 c4 mv jv (gsm cnt z1 z2 n (n+1)) (z3 ^ n) wx (Hi4.out.ext hx) h K HB.out.hK HB.out.hK1 (HB.out.fs (n+1) (Nat.le_refl _)) (HB.out.p3 n (Nat.le_refl _)) (bru_ext Hbr.out (Hx.out.trans hx)));clear kO q1
   go_cut [10,11] from 40 to 48 (fun s10 s11 wx=>∃ U,U=wx/\∃ G,s10=.pointer (some ⟨G,0,none⟩)/\∃ (t1:Int) (b1:Option Addr) (m1 k1:Nat) (t2:Int) (b2:Option Addr) (m2 k2:Nat),QBx U G t1 b1 m1 k1 t2 b2 m2 k2/\IsFr U t1 b1 m1 k1 t2 b2 m2 k2 (nfp (gsm cnt z1 z2 n (n+1)) (z3 ^ n)) (nfq (gsm cnt z1 z2 n (n+1)) (z3 ^ n))/\wr.heap.size<=G/\Ext wr U)
   case first =>
    have HSj:=Lh (fun (w':World) (hx:Ext wr w')=>(show w'.cell? ⟨H+1+1,0,none⟩=some (.int .i64 s4)/\w'.cell? ⟨H+1+1,1,none⟩=some (.slice a4 n4 c4)/\w'.cell? ⟨H,4,none⟩=some (.int .i64 s3)/\w'.cell? ⟨H,5,none⟩=some (.slice a3 n3 c3) from ⟨cell_ext m0 hx,cell_ext m1 hx,cell_ext m2 hx,cell_ext m3 hx⟩));clear m0 m1 m2 m3;have G_:Ext wr wr.drew:=Below.drew (Ext.refl _);refine wp_region_K 12 (fun w'=>w'.cell? ⟨H+1+1,0,none⟩=some (.int .i64 s4)/\w'.cell? ⟨H+1+1,1,none⟩=some (.slice a4 n4 c4)/\w'.cell? ⟨H,4,none⟩=some (.int .i64 s3)/\w'.cell? ⟨H,5,none⟩=some (.slice a3 n3 c3)) (by kernel_rfl) ?_
    show anyK _ _ _ _ _ _ 13 #[false,false,false,false,false,false,false,false,false,false,false,false,false] _ _
    refine kT 0 13 (v:=?_) rfl (Or.inl ⟨by rfl,?_⟩) (HSj.out _ G_) ?_;rotate_left 1
    ·intro w hSw
     go_simp
     try with_reducible rfl
    show anyK _ _ _ _ _ _ _ _ (Act.put _ (some 41) _) _
    simp only [Act.put,sx0,sx1,sx2];refine kT 1 13 (v:=?_) rfl (Or.inl ⟨by rfl,?_⟩) (HSj.out _ G_) ?_;rotate_left 1
    ·intro w hSw
     go_simp
     try with_reducible rfl
    show anyK _ _ _ _ _ _ _ _ (Act.put _ (some 42) _) _
    simp only [Act.put,sx0,sx1,sx2];refine kT 2 13 (v:=?_) rfl (Or.inl ⟨by rfl,?_⟩) (HSj.out _ G_) ?_;rotate_left 1
    ·intro w hSw
     go_simp
     try with_reducible rfl
    show anyK _ _ _ _ _ _ _ _ (Act.put _ (some 43) _) _
    simp only [Act.put,sx0,sx1,sx2];refine kT 3 13 (v:=?_) rfl (Or.inl ⟨by rfl,?_⟩) (HSj.out _ G_) ?_;rotate_left 1
    ·intro w hSw
     go_simp
     try with_reducible rfl
    show anyK _ _ _ _ _ _ _ _ (Act.put _ (some 44) _) _
    simp only [Act.put,sx0,sx1,sx2];refine anyK_threeC (i:=4) (j:=9) (t:=10) (by kernel_rfl) rfl rfl rfl (fun Kk hKk=>?_) (fun Kk hKk=>?_) (fun Kk hKk=>?_)
    ·go_simp
     (go_at_call 61;refine (P3.out _ (G_)).mono ?_;rintro e wC0 ⟨sv0,ov0,mv0,jv0,rfl,Kv0,hy⟩)
     have EI0:Ext wr wC0:=(G_).trans hy;clear hy
     go_wp2_with fail
     refine hKk.out _ _ (fun _=>HSj.out _ EI0) ?_;clear hKk Kk;simp only [sx0,sx1,sx2];refine anyK_threeC (i:=5) (j:=9) (t:=10) (by kernel_rfl) rfl rfl rfl (fun Kk hKk=>?_) (fun Kk hKk=>?_) (fun Kk hKk=>?_)
     ·go_simp
      (go_at_call 63;refine (HOv.out _ (EI0) sv0 ov0 mv0 jv0 Kv0).mono ?_;rintro e wC1 ⟨sv1,ov1,mv1,jv1,sv2,ov2,mv2,jv2,rfl,Kv1,hy⟩)
      have EI1:Ext wr wC1:=(EI0).trans hy;clear hy
      go_wp2_with fail
      refine hKk.out _ _ (fun _=>HSj.out _ EI1) ?_;clear hKk Kk;simp only [sx0,sx1,sx2];refine kT 6 13 (v:=?_) rfl (Or.inl ⟨by rfl,?_⟩) (HSj.out _ EI1) ?_;rotate_left 1
      ·intro w hSw
       go_simp
       try with_reducible rfl
      show anyK _ _ _ _ _ _ _ _ (Act.put _ (some 40) _) _
      simp only [Act.put,sx0,sx1,sx2];refine kT 7 13 (v:=?_) rfl (Or.inl ⟨by rfl,?_⟩) (HSj.out _ EI1) ?_;rotate_left 1
      ·intro w hSw
       go_simp
       try with_reducible rfl
      show anyK _ _ _ _ _ _ _ _ (Act.put _ (some 47) _) _
      simp only [Act.put,sx0,sx1,sx2];refine kT 8 13 (v:=?_) rfl (Or.inl ⟨by rfl,?_⟩) (HSj.out _ EI1) ?_;rotate_left 1
      ·intro w hSw
       go_simp
       try with_reducible rfl
      show anyK _ _ _ _ _ _ _ _ (Act.put _ (some 48) _) _
      simp only [Act.put,sx0,sx1,sx2];refine anyK_pairC (i:=9) (j:=10) (by kernel_rfl) rfl rfl (fun Kk hKk=>?_) (fun Kk hKk=>?_)
      ·refine stepK_allocFracC rfl 10 rfl rfl ?_
       refine hKk.out _ _ (fun _=>HSj.out _ (cthen EI1 _)) ?_;clear hKk Kk;obtain ⟨w9_2,hwA⟩:∃ V,(wC1).alloc (.cells #[.int .i64 0,.slice none 0 0,.int .i64 0,.slice none 0 0] 56)=V:=⟨_,rfl⟩;obtain ⟨B9,hB9⟩:∃ B,(wC1).heap.size=B:=⟨_,rfl⟩
       have hy:Ext (wC1) w9_2:=by rw [<-hwA];exact ext_al _ _
       have Kv1:=Kv1.ext hy
       have r9:w9_2.heap[B9]?=some (.cells #[.int .i64 0,.slice none 0 0,.int .i64 0,.slice none 0 0] 56 (0,0)):=by rw [<-hwA,<-hB9];exact heap_alloc_new _ _
       have s9:wr.heap.size<=B9:=by rw [<-hB9];exact (EI1).size
       have E9_2:Ext wr w9_2:=(EI1).trans hy
       show anyK _ _ _ _ _ _ _ _ (Act.put _ (some 10) _) _
       simp only [Act.put,sx0,sx1,sx2];rw [hwA,hB9];clear hwA hB9 hy;refine anyK_one (i:=10) (by kernel_rfl) rfl (fun Kk hKk=>?_);refine stepK_allocFC rfl 11 rfl rfl ?_;refine hKk.out _ _ (fun _=>HSj.out _ (cthen E9_2 _)) ?_;clear hKk Kk;obtain ⟨w10_2,hwA⟩:∃ V,(w9_2).alloc (.cells #[.int .i64 0,.int .i64 0] 26)=V:=⟨_,rfl⟩;obtain ⟨B10,hB9⟩:∃ B,(w9_2).heap.size=B:=⟨_,rfl⟩
       have hy:Ext (w9_2) w10_2:=by rw [<-hwA];exact ext_al _ _
       have r9:=rowEC r9 hy;have Kv1:=Kv1.ext hy
       have r10:w10_2.heap[B10]?=some (.cells #[.int .i64 0,.int .i64 0] 26 (0,0)):=by rw [<-hwA,<-hB9];exact heap_alloc_new _ _
       have s10:wr.heap.size<=B10:=by rw [<-hB9];exact (E9_2).size
       have E10_2:Ext wr w10_2:=(E9_2).trans hy
       show anyK _ _ _ _ _ _ _ _ (Act.put _ (some 11) _) _
       simp only [Act.put,sx0,sx1,sx2];rw [hwA,hB9];clear hwA hB9 hy;have n9:=ne_rowsC r9 r10 (by decide);refine anyK_one (i:=11) (by kernel_rfl) rfl (fun Kk hKk=>?_);refine stepK_storeRowC rfl rfl 56 _ _ rfl B9 #[.int .i64 sv1,.slice ov1 mv1 jv1,.int .i64 sv2,.slice ov2 mv2 jv2] rfl rfl 56 _ r9 frac_infoC rfl (by kernel_rfl) ?_;refine hKk.out _ _ (fun _=>HSj.out _ (ext_onlyC E10_2 (setRow_onlyC _ _ _) s9)) ?_;clear hKk Kk;simp only [sx0,sx1,sx2];have r10':=((setRow_onlyC w10_2 B9 #[.int .i64 sv1,.slice ov1 mv1 jv1,.int .i64 sv2,.slice ov2 mv2 jv2]).block B10 (Ne.symm n9)).trans r10;have r9':=setRow_heap w10_2 B9 _ #[.int .i64 sv1,.slice ov1 mv1 jv1,.int .i64 sv2,.slice ov2 mv2 jv2] _ _ r9;have Kv1:=Kv1.keep64 (keep_onlyI (setRow_onlyC w10_2 B9 #[.int .i64 sv1,.slice ov1 mv1 jv1,.int .i64 sv2,.slice ov2 mv2 jv2]) r9 (noword4 _ _ _ _ _ _ _ _));have EE:=ext_onlyC E10_2 (setRow_onlyC w10_2 B9 #[.int .i64 sv1,.slice ov1 mv1 jv1,.int .i64 sv2,.slice ov2 mv2 jv2]) s9;generalize (w10_2).setRow B9 #[.int .i64 sv1,.slice ov1 mv1 jv1,.int .i64 sv2,.slice ov2 mv2 jv2]=wY at *;refine anyK_one (i:=12) (by kernel_rfl) rfl (fun Kk hKk=>?_);refine stepK_storeRowC rfl rfl 26 _ _ rfl B10 #[.int .i64 (ovc (z3 ^ n)),.int .i64 0] rfl rfl 26 _ r10' fault_infoC rfl (by kernel_rfl) ?_;refine hKk.out _ _ (fun h=>Bool.noConfusion (show true=false from h)) ?_;clear hKk Kk;simp only [sx0,sx1,sx2];refine anyK_done (by kernel_rfl) ?_ _;have Hq:=Lh (((setRow_onlyC wY B10 #[.int .i64 (ovc (z3 ^ n)),.int .i64 0]).block B9 n9).trans r9');have Hk:=Lh (Kv1.keep64 (keep_onlyI (setRow_onlyC wY B10 #[.int .i64 (ovc (z3 ^ n)),.int .i64 0]) r10' (nowordF _ _)));have He:=Lh (ext_onlyC EE (setRow_onlyC wY B10 #[.int .i64 (ovc (z3 ^ n)),.int .i64 0]) s10);generalize wY.setRow B10 #[.int .i64 (ovc (z3 ^ n)),.int .i64 0]=wZ at *
       go_wp2_with fail
       go_meet
       exact ⟨_,rfl,B9,rfl,_,_,_,_,_,_,_,_,⟨Hq.out⟩,Hk.out,s9,He.out⟩
      ·refine stepK_allocFC rfl 11 rfl rfl ?_
       refine hKk.out _ _ (fun _=>HSj.out _ (cthen EI1 _)) ?_;clear hKk Kk;obtain ⟨w10_2,hwA⟩:∃ V,(wC1).alloc (.cells #[.int .i64 0,.int .i64 0] 26)=V:=⟨_,rfl⟩;obtain ⟨B10,hB9⟩:∃ B,(wC1).heap.size=B:=⟨_,rfl⟩
       have hy:Ext (wC1) w10_2:=by rw [<-hwA];exact ext_al _ _
       have Kv1:=Kv1.ext hy
       have r10:w10_2.heap[B10]?=some (.cells #[.int .i64 0,.int .i64 0] 26 (0,0)):=by rw [<-hwA,<-hB9];exact heap_alloc_new _ _
       have s10:wr.heap.size<=B10:=by rw [<-hB9];exact (EI1).size
       have E10_2:Ext wr w10_2:=(EI1).trans hy
       show anyK _ _ _ _ _ _ _ _ (Act.put _ (some 11) _) _
       simp only [Act.put,sx0,sx1,sx2];rw [hwA,hB9];clear hwA hB9 hy;refine anyK_one (i:=9) (by kernel_rfl) rfl (fun Kk hKk=>?_);refine stepK_allocFracC rfl 10 rfl rfl ?_;refine hKk.out _ _ (fun _=>HSj.out _ (cthen E10_2 _)) ?_;clear hKk Kk;obtain ⟨w9_2,hwA⟩:∃ V,(w10_2).alloc (.cells #[.int .i64 0,.slice none 0 0,.int .i64 0,.slice none 0 0] 56)=V:=⟨_,rfl⟩;obtain ⟨B9,hB9⟩:∃ B,(w10_2).heap.size=B:=⟨_,rfl⟩
       have hy:Ext (w10_2) w9_2:=by rw [<-hwA];exact ext_al _ _
       have r10:=rowEC r10 hy;have Kv1:=Kv1.ext hy
       have r9:w9_2.heap[B9]?=some (.cells #[.int .i64 0,.slice none 0 0,.int .i64 0,.slice none 0 0] 56 (0,0)):=by rw [<-hwA,<-hB9];exact heap_alloc_new _ _
       have s9:wr.heap.size<=B9:=by rw [<-hB9];exact (E10_2).size
       have E9_2:Ext wr w9_2:=(E10_2).trans hy
       show anyK _ _ _ _ _ _ _ _ (Act.put _ (some 10) _) _
       simp only [Act.put,sx0,sx1,sx2];rw [hwA,hB9];clear hwA hB9 hy;have n9:=ne_rowsC r9 r10 (by decide);refine anyK_one (i:=11) (by kernel_rfl) rfl (fun Kk hKk=>?_);refine stepK_storeRowC rfl rfl 56 _ _ rfl B9 #[.int .i64 sv1,.slice ov1 mv1 jv1,.int .i64 sv2,.slice ov2 mv2 jv2] rfl rfl 56 _ r9 frac_infoC rfl (by kernel_rfl) ?_;refine hKk.out _ _ (fun _=>HSj.out _ (ext_onlyC E9_2 (setRow_onlyC _ _ _) s9)) ?_;clear hKk Kk;simp only [sx0,sx1,sx2];have r10':=((setRow_onlyC w9_2 B9 #[.int .i64 sv1,.slice ov1 mv1 jv1,.int .i64 sv2,.slice ov2 mv2 jv2]).block B10 (Ne.symm n9)).trans r10;have r9':=setRow_heap w9_2 B9 _ #[.int .i64 sv1,.slice ov1 mv1 jv1,.int .i64 sv2,.slice ov2 mv2 jv2] _ _ r9;have Kv1:=Kv1.keep64 (keep_onlyI (setRow_onlyC w9_2 B9 #[.int .i64 sv1,.slice ov1 mv1 jv1,.int .i64 sv2,.slice ov2 mv2 jv2]) r9 (noword4 _ _ _ _ _ _ _ _));have EE:=ext_onlyC E9_2 (setRow_onlyC w9_2 B9 #[.int .i64 sv1,.slice ov1 mv1 jv1,.int .i64 sv2,.slice ov2 mv2 jv2]) s9;generalize (w9_2).setRow B9 #[.int .i64 sv1,.slice ov1 mv1 jv1,.int .i64 sv2,.slice ov2 mv2 jv2]=wY at *;refine anyK_one (i:=12) (by kernel_rfl) rfl (fun Kk hKk=>?_);refine stepK_storeRowC rfl rfl 26 _ _ rfl B10 #[.int .i64 (ovc (z3 ^ n)),.int .i64 0] rfl rfl 26 _ r10' fault_infoC rfl (by kernel_rfl) ?_;refine hKk.out _ _ (fun h=>Bool.noConfusion (show true=false from h)) ?_;clear hKk Kk;simp only [sx0,sx1,sx2];refine anyK_done (by kernel_rfl) ?_ _;have Hq:=Lh (((setRow_onlyC wY B10 #[.int .i64 (ovc (z3 ^ n)),.int .i64 0]).block B9 n9).trans r9');have Hk:=Lh (Kv1.keep64 (keep_onlyI (setRow_onlyC wY B10 #[.int .i64 (ovc (z3 ^ n)),.int .i64 0]) r10' (nowordF _ _)));have He:=Lh (ext_onlyC EE (setRow_onlyC wY B10 #[.int .i64 (ovc (z3 ^ n)),.int .i64 0]) s10);generalize wY.setRow B10 #[.int .i64 (ovc (z3 ^ n)),.int .i64 0]=wZ at *
       go_wp2_with fail
       go_meet
       exact ⟨_,rfl,B9,rfl,_,_,_,_,_,_,_,_,⟨Hq.out⟩,Hk.out,s9,He.out⟩
     ·refine stepK_allocFracC rfl 10 rfl rfl ?_
      refine hKk.out _ _ (fun _=>HSj.out _ (cthen EI0 _)) ?_;clear hKk Kk;obtain ⟨w9_1,hwA⟩:∃ V,(wC0).alloc (.cells #[.int .i64 0,.slice none 0 0,.int .i64 0,.slice none 0 0] 56)=V:=⟨_,rfl⟩;obtain ⟨B9,hB9⟩:∃ B,(wC0).heap.size=B:=⟨_,rfl⟩
      have hy:Ext (wC0) w9_1:=by rw [<-hwA];exact ext_al _ _
      have Kv0:=Kv0.ext hy
      have r9:w9_1.heap[B9]?=some (.cells #[.int .i64 0,.slice none 0 0,.int .i64 0,.slice none 0 0] 56 (0,0)):=by rw [<-hwA,<-hB9];exact heap_alloc_new _ _
      have s9:wr.heap.size<=B9:=by rw [<-hB9];exact (EI0).size
      have E9_1:Ext wr w9_1:=(EI0).trans hy
      show anyK _ _ _ _ _ _ _ _ (Act.put _ (some 10) _) _
      simp only [Act.put,sx0,sx1,sx2];rw [hwA,hB9];clear hwA hB9 hy;refine anyK_pairC (i:=5) (j:=10) (by kernel_rfl) rfl rfl (fun Kk hKk=>?_) (fun Kk hKk=>?_)
      ·go_simp
       (go_at_call 63;refine (HOv.out _ (E9_1) sv0 ov0 mv0 jv0 Kv0).mono ?_;rintro e wC1 ⟨sv1,ov1,mv1,jv1,sv2,ov2,mv2,jv2,rfl,Kv1,hy⟩)
       have EI1:Ext wr wC1:=(E9_1).trans hy;have r9:=rowEC r9 hy;clear hy
       go_wp2_with fail
       refine hKk.out _ _ (fun _=>HSj.out _ EI1) ?_;clear hKk Kk;simp only [sx0,sx1,sx2];refine kT 6 13 (v:=?_) rfl (Or.inl ⟨by rfl,?_⟩) (HSj.out _ EI1) ?_;rotate_left 1
       ·intro w hSw
        go_simp
        try with_reducible rfl
       show anyK _ _ _ _ _ _ _ _ (Act.put _ (some 40) _) _
       simp only [Act.put,sx0,sx1,sx2];refine kT 7 13 (v:=?_) rfl (Or.inl ⟨by rfl,?_⟩) (HSj.out _ EI1) ?_;rotate_left 1
       ·intro w hSw
        go_simp
        try with_reducible rfl
       show anyK _ _ _ _ _ _ _ _ (Act.put _ (some 47) _) _
       simp only [Act.put,sx0,sx1,sx2];refine kT 8 13 (v:=?_) rfl (Or.inl ⟨by rfl,?_⟩) (HSj.out _ EI1) ?_;rotate_left 1
       ·intro w hSw
        go_simp
        try with_reducible rfl
       show anyK _ _ _ _ _ _ _ _ (Act.put _ (some 48) _) _
       simp only [Act.put,sx0,sx1,sx2];refine anyK_one (i:=10) (by kernel_rfl) rfl (fun Kk hKk=>?_);refine stepK_allocFC rfl 11 rfl rfl ?_;refine hKk.out _ _ (fun _=>HSj.out _ (cthen EI1 _)) ?_;clear hKk Kk;obtain ⟨w10_2,hwA⟩:∃ V,(wC1).alloc (.cells #[.int .i64 0,.int .i64 0] 26)=V:=⟨_,rfl⟩;obtain ⟨B10,hB9⟩:∃ B,(wC1).heap.size=B:=⟨_,rfl⟩
       have hy:Ext (wC1) w10_2:=by rw [<-hwA];exact ext_al _ _
       have r9:=rowEC r9 hy;have Kv1:=Kv1.ext hy
       have r10:w10_2.heap[B10]?=some (.cells #[.int .i64 0,.int .i64 0] 26 (0,0)):=by rw [<-hwA,<-hB9];exact heap_alloc_new _ _
       have s10:wr.heap.size<=B10:=by rw [<-hB9];exact (EI1).size
       have E10_2:Ext wr w10_2:=(EI1).trans hy
       show anyK _ _ _ _ _ _ _ _ (Act.put _ (some 11) _) _
       simp only [Act.put,sx0,sx1,sx2];rw [hwA,hB9];clear hwA hB9 hy;have n9:=ne_rowsC r9 r10 (by decide);refine anyK_one (i:=11) (by kernel_rfl) rfl (fun Kk hKk=>?_);refine stepK_storeRowC rfl rfl 56 _ _ rfl B9 #[.int .i64 sv1,.slice ov1 mv1 jv1,.int .i64 sv2,.slice ov2 mv2 jv2] rfl rfl 56 _ r9 frac_infoC rfl (by kernel_rfl) ?_;refine hKk.out _ _ (fun _=>HSj.out _ (ext_onlyC E10_2 (setRow_onlyC _ _ _) s9)) ?_;clear hKk Kk;simp only [sx0,sx1,sx2];have r10':=((setRow_onlyC w10_2 B9 #[.int .i64 sv1,.slice ov1 mv1 jv1,.int .i64 sv2,.slice ov2 mv2 jv2]).block B10 (Ne.symm n9)).trans r10;have r9':=setRow_heap w10_2 B9 _ #[.int .i64 sv1,.slice ov1 mv1 jv1,.int .i64 sv2,.slice ov2 mv2 jv2] _ _ r9;have Kv1:=Kv1.keep64 (keep_onlyI (setRow_onlyC w10_2 B9 #[.int .i64 sv1,.slice ov1 mv1 jv1,.int .i64 sv2,.slice ov2 mv2 jv2]) r9 (noword4 _ _ _ _ _ _ _ _));have EE:=ext_onlyC E10_2 (setRow_onlyC w10_2 B9 #[.int .i64 sv1,.slice ov1 mv1 jv1,.int .i64 sv2,.slice ov2 mv2 jv2]) s9;generalize (w10_2).setRow B9 #[.int .i64 sv1,.slice ov1 mv1 jv1,.int .i64 sv2,.slice ov2 mv2 jv2]=wY at *;refine anyK_one (i:=12) (by kernel_rfl) rfl (fun Kk hKk=>?_);refine stepK_storeRowC rfl rfl 26 _ _ rfl B10 #[.int .i64 (ovc (z3 ^ n)),.int .i64 0] rfl rfl 26 _ r10' fault_infoC rfl (by kernel_rfl) ?_;refine hKk.out _ _ (fun h=>Bool.noConfusion (show true=false from h)) ?_;clear hKk Kk;simp only [sx0,sx1,sx2];refine anyK_done (by kernel_rfl) ?_ _;have Hq:=Lh (((setRow_onlyC wY B10 #[.int .i64 (ovc (z3 ^ n)),.int .i64 0]).block B9 n9).trans r9');have Hk:=Lh (Kv1.keep64 (keep_onlyI (setRow_onlyC wY B10 #[.int .i64 (ovc (z3 ^ n)),.int .i64 0]) r10' (nowordF _ _)));have He:=Lh (ext_onlyC EE (setRow_onlyC wY B10 #[.int .i64 (ovc (z3 ^ n)),.int .i64 0]) s10);generalize wY.setRow B10 #[.int .i64 (ovc (z3 ^ n)),.int .i64 0]=wZ at *
       go_wp2_with fail
       go_meet
       exact ⟨_,rfl,B9,rfl,_,_,_,_,_,_,_,_,⟨Hq.out⟩,Hk.out,s9,He.out⟩
      ·refine stepK_allocFC rfl 11 rfl rfl ?_
       refine hKk.out _ _ (fun _=>HSj.out _ (cthen E9_1 _)) ?_;clear hKk Kk;obtain ⟨w10_1,hwA⟩:∃ V,(w9_1).alloc (.cells #[.int .i64 0,.int .i64 0] 26)=V:=⟨_,rfl⟩;obtain ⟨B10,hB9⟩:∃ B,(w9_1).heap.size=B:=⟨_,rfl⟩
       have hy:Ext (w9_1) w10_1:=by rw [<-hwA];exact ext_al _ _
       have r9:=rowEC r9 hy;have Kv0:=Kv0.ext hy
       have r10:w10_1.heap[B10]?=some (.cells #[.int .i64 0,.int .i64 0] 26 (0,0)):=by rw [<-hwA,<-hB9];exact heap_alloc_new _ _
       have s10:wr.heap.size<=B10:=by rw [<-hB9];exact (E9_1).size
       have E10_1:Ext wr w10_1:=(E9_1).trans hy
       show anyK _ _ _ _ _ _ _ _ (Act.put _ (some 11) _) _
       simp only [Act.put,sx0,sx1,sx2];rw [hwA,hB9];clear hwA hB9 hy;refine anyK_one (i:=5) (by kernel_rfl) rfl (fun Kk hKk=>?_)
       go_simp
       (go_at_call 63;refine (HOv.out _ (E10_1) sv0 ov0 mv0 jv0 Kv0).mono ?_;rintro e wC1 ⟨sv1,ov1,mv1,jv1,sv2,ov2,mv2,jv2,rfl,Kv1,hy⟩)
       have EI1:Ext wr wC1:=(E10_1).trans hy;have r9:=rowEC r9 hy;have r10:=rowEC r10 hy;clear hy
       go_wp2_with fail
       refine hKk.out _ _ (fun _=>HSj.out _ EI1) ?_;clear hKk Kk;simp only [sx0,sx1,sx2];refine kT 6 13 (v:=?_) rfl (Or.inl ⟨by rfl,?_⟩) (HSj.out _ EI1) ?_;rotate_left 1
       ·intro w hSw
        go_simp
        try with_reducible rfl
       show anyK _ _ _ _ _ _ _ _ (Act.put _ (some 40) _) _
       simp only [Act.put,sx0,sx1,sx2];refine kT 7 13 (v:=?_) rfl (Or.inl ⟨by rfl,?_⟩) (HSj.out _ EI1) ?_;rotate_left 1
       ·intro w hSw
        go_simp
        try with_reducible rfl
       show anyK _ _ _ _ _ _ _ _ (Act.put _ (some 47) _) _
       simp only [Act.put,sx0,sx1,sx2];refine kT 8 13 (v:=?_) rfl (Or.inl ⟨by rfl,?_⟩) (HSj.out _ EI1) ?_;rotate_left 1
       ·intro w hSw
        go_simp
        try with_reducible rfl
       show anyK _ _ _ _ _ _ _ _ (Act.put _ (some 48) _) _
       simp only [Act.put,sx0,sx1,sx2];have n9:=ne_rowsC r9 r10 (by decide);refine anyK_one (i:=11) (by kernel_rfl) rfl (fun Kk hKk=>?_);refine stepK_storeRowC rfl rfl 56 _ _ rfl B9 #[.int .i64 sv1,.slice ov1 mv1 jv1,.int .i64 sv2,.slice ov2 mv2 jv2] rfl rfl 56 _ r9 frac_infoC rfl (by kernel_rfl) ?_;refine hKk.out _ _ (fun _=>HSj.out _ (ext_onlyC EI1 (setRow_onlyC _ _ _) s9)) ?_;clear hKk Kk;simp only [sx0,sx1,sx2];have r10':=((setRow_onlyC wC1 B9 #[.int .i64 sv1,.slice ov1 mv1 jv1,.int .i64 sv2,.slice ov2 mv2 jv2]).block B10 (Ne.symm n9)).trans r10;have r9':=setRow_heap wC1 B9 _ #[.int .i64 sv1,.slice ov1 mv1 jv1,.int .i64 sv2,.slice ov2 mv2 jv2] _ _ r9;have Kv1:=Kv1.keep64 (keep_onlyI (setRow_onlyC wC1 B9 #[.int .i64 sv1,.slice ov1 mv1 jv1,.int .i64 sv2,.slice ov2 mv2 jv2]) r9 (noword4 _ _ _ _ _ _ _ _));have EE:=ext_onlyC EI1 (setRow_onlyC wC1 B9 #[.int .i64 sv1,.slice ov1 mv1 jv1,.int .i64 sv2,.slice ov2 mv2 jv2]) s9;generalize (wC1).setRow B9 #[.int .i64 sv1,.slice ov1 mv1 jv1,.int .i64 sv2,.slice ov2 mv2 jv2]=wY at *;refine anyK_one (i:=12) (by kernel_rfl) rfl (fun Kk hKk=>?_);refine stepK_storeRowC rfl rfl 26 _ _ rfl B10 #[.int .i64 (ovc (z3 ^ n)),.int .i64 0] rfl rfl 26 _ r10' fault_infoC rfl (by kernel_rfl) ?_;refine hKk.out _ _ (fun h=>Bool.noConfusion (show true=false from h)) ?_;clear hKk Kk;simp only [sx0,sx1,sx2];refine anyK_done (by kernel_rfl) ?_ _;have Hq:=Lh (((setRow_onlyC wY B10 #[.int .i64 (ovc (z3 ^ n)),.int .i64 0]).block B9 n9).trans r9');have Hk:=Lh (Kv1.keep64 (keep_onlyI (setRow_onlyC wY B10 #[.int .i64 (ovc (z3 ^ n)),.int .i64 0]) r10' (nowordF _ _)));have He:=Lh (ext_onlyC EE (setRow_onlyC wY B10 #[.int .i64 (ovc (z3 ^ n)),.int .i64 0]) s10);generalize wY.setRow B10 #[.int .i64 (ovc (z3 ^ n)),.int .i64 0]=wZ at *
       go_wp2_with fail
       go_meet
       exact ⟨_,rfl,B9,rfl,_,_,_,_,_,_,_,_,⟨Hq.out⟩,Hk.out,s9,He.out⟩
     ·refine stepK_allocFC rfl 11 rfl rfl ?_
      refine hKk.out _ _ (fun _=>HSj.out _ (cthen EI0 _)) ?_;clear hKk Kk;obtain ⟨w10_1,hwA⟩:∃ V,(wC0).alloc (.cells #[.int .i64 0,.int .i64 0] 26)=V:=⟨_,rfl⟩;obtain ⟨B10,hB9⟩:∃ B,(wC0).heap.size=B:=⟨_,rfl⟩
      have hy:Ext (wC0) w10_1:=by rw [<-hwA];exact ext_al _ _
      have Kv0:=Kv0.ext hy
      have r10:w10_1.heap[B10]?=some (.cells #[.int .i64 0,.int .i64 0] 26 (0,0)):=by rw [<-hwA,<-hB9];exact heap_alloc_new _ _
      have s10:wr.heap.size<=B10:=by rw [<-hB9];exact (EI0).size
      have E10_1:Ext wr w10_1:=(EI0).trans hy
      show anyK _ _ _ _ _ _ _ _ (Act.put _ (some 11) _) _
      simp only [Act.put,sx0,sx1,sx2];rw [hwA,hB9];clear hwA hB9 hy;refine anyK_pairC (i:=5) (j:=9) (by kernel_rfl) rfl rfl (fun Kk hKk=>?_) (fun Kk hKk=>?_)
      ·go_simp
       (go_at_call 63;refine (HOv.out _ (E10_1) sv0 ov0 mv0 jv0 Kv0).mono ?_;rintro e wC1 ⟨sv1,ov1,mv1,jv1,sv2,ov2,mv2,jv2,rfl,Kv1,hy⟩)
       have EI1:Ext wr wC1:=(E10_1).trans hy;have r10:=rowEC r10 hy;clear hy
       go_wp2_with fail
       refine hKk.out _ _ (fun _=>HSj.out _ EI1) ?_;clear hKk Kk;simp only [sx0,sx1,sx2];refine kT 6 13 (v:=?_) rfl (Or.inl ⟨by rfl,?_⟩) (HSj.out _ EI1) ?_;rotate_left 1
       ·intro w hSw
        go_simp
        try with_reducible rfl
       show anyK _ _ _ _ _ _ _ _ (Act.put _ (some 40) _) _
       simp only [Act.put,sx0,sx1,sx2];refine kT 7 13 (v:=?_) rfl (Or.inl ⟨by rfl,?_⟩) (HSj.out _ EI1) ?_;rotate_left 1
       ·intro w hSw
        go_simp
        try with_reducible rfl
       show anyK _ _ _ _ _ _ _ _ (Act.put _ (some 47) _) _
       simp only [Act.put,sx0,sx1,sx2];refine kT 8 13 (v:=?_) rfl (Or.inl ⟨by rfl,?_⟩) (HSj.out _ EI1) ?_;rotate_left 1
       ·intro w hSw
        go_simp
        try with_reducible rfl
       show anyK _ _ _ _ _ _ _ _ (Act.put _ (some 48) _) _
       simp only [Act.put,sx0,sx1,sx2];refine anyK_one (i:=9) (by kernel_rfl) rfl (fun Kk hKk=>?_);refine stepK_allocFracC rfl 10 rfl rfl ?_;refine hKk.out _ _ (fun _=>HSj.out _ (cthen EI1 _)) ?_;clear hKk Kk;obtain ⟨w9_2,hwA⟩:∃ V,(wC1).alloc (.cells #[.int .i64 0,.slice none 0 0,.int .i64 0,.slice none 0 0] 56)=V:=⟨_,rfl⟩;obtain ⟨B9,hB9⟩:∃ B,(wC1).heap.size=B:=⟨_,rfl⟩
       have hy:Ext (wC1) w9_2:=by rw [<-hwA];exact ext_al _ _
       have r10:=rowEC r10 hy;have Kv1:=Kv1.ext hy
       have r9:w9_2.heap[B9]?=some (.cells #[.int .i64 0,.slice none 0 0,.int .i64 0,.slice none 0 0] 56 (0,0)):=by rw [<-hwA,<-hB9];exact heap_alloc_new _ _
       have s9:wr.heap.size<=B9:=by rw [<-hB9];exact (EI1).size
       have E9_2:Ext wr w9_2:=(EI1).trans hy
       show anyK _ _ _ _ _ _ _ _ (Act.put _ (some 10) _) _
       simp only [Act.put,sx0,sx1,sx2];rw [hwA,hB9];clear hwA hB9 hy;have n9:=ne_rowsC r9 r10 (by decide);refine anyK_one (i:=11) (by kernel_rfl) rfl (fun Kk hKk=>?_);refine stepK_storeRowC rfl rfl 56 _ _ rfl B9 #[.int .i64 sv1,.slice ov1 mv1 jv1,.int .i64 sv2,.slice ov2 mv2 jv2] rfl rfl 56 _ r9 frac_infoC rfl (by kernel_rfl) ?_;refine hKk.out _ _ (fun _=>HSj.out _ (ext_onlyC E9_2 (setRow_onlyC _ _ _) s9)) ?_;clear hKk Kk;simp only [sx0,sx1,sx2];have r10':=((setRow_onlyC w9_2 B9 #[.int .i64 sv1,.slice ov1 mv1 jv1,.int .i64 sv2,.slice ov2 mv2 jv2]).block B10 (Ne.symm n9)).trans r10;have r9':=setRow_heap w9_2 B9 _ #[.int .i64 sv1,.slice ov1 mv1 jv1,.int .i64 sv2,.slice ov2 mv2 jv2] _ _ r9;have Kv1:=Kv1.keep64 (keep_onlyI (setRow_onlyC w9_2 B9 #[.int .i64 sv1,.slice ov1 mv1 jv1,.int .i64 sv2,.slice ov2 mv2 jv2]) r9 (noword4 _ _ _ _ _ _ _ _));have EE:=ext_onlyC E9_2 (setRow_onlyC w9_2 B9 #[.int .i64 sv1,.slice ov1 mv1 jv1,.int .i64 sv2,.slice ov2 mv2 jv2]) s9;generalize (w9_2).setRow B9 #[.int .i64 sv1,.slice ov1 mv1 jv1,.int .i64 sv2,.slice ov2 mv2 jv2]=wY at *;refine anyK_one (i:=12) (by kernel_rfl) rfl (fun Kk hKk=>?_);refine stepK_storeRowC rfl rfl 26 _ _ rfl B10 #[.int .i64 (ovc (z3 ^ n)),.int .i64 0] rfl rfl 26 _ r10' fault_infoC rfl (by kernel_rfl) ?_;refine hKk.out _ _ (fun h=>Bool.noConfusion (show true=false from h)) ?_;clear hKk Kk;simp only [sx0,sx1,sx2];refine anyK_done (by kernel_rfl) ?_ _;have Hq:=Lh (((setRow_onlyC wY B10 #[.int .i64 (ovc (z3 ^ n)),.int .i64 0]).block B9 n9).trans r9');have Hk:=Lh (Kv1.keep64 (keep_onlyI (setRow_onlyC wY B10 #[.int .i64 (ovc (z3 ^ n)),.int .i64 0]) r10' (nowordF _ _)));have He:=Lh (ext_onlyC EE (setRow_onlyC wY B10 #[.int .i64 (ovc (z3 ^ n)),.int .i64 0]) s10);generalize wY.setRow B10 #[.int .i64 (ovc (z3 ^ n)),.int .i64 0]=wZ at *
       go_wp2_with fail
       go_meet
       exact ⟨_,rfl,B9,rfl,_,_,_,_,_,_,_,_,⟨Hq.out⟩,Hk.out,s9,He.out⟩
      ·refine stepK_allocFracC rfl 10 rfl rfl ?_
       refine hKk.out _ _ (fun _=>HSj.out _ (cthen E10_1 _)) ?_;clear hKk Kk;obtain ⟨w9_1,hwA⟩:∃ V,(w10_1).alloc (.cells #[.int .i64 0,.slice none 0 0,.int .i64 0,.slice none 0 0] 56)=V:=⟨_,rfl⟩;obtain ⟨B9,hB9⟩:∃ B,(w10_1).heap.size=B:=⟨_,rfl⟩
       have hy:Ext (w10_1) w9_1:=by rw [<-hwA];exact ext_al _ _
       have r10:=rowEC r10 hy;have Kv0:=Kv0.ext hy
       have r9:w9_1.heap[B9]?=some (.cells #[.int .i64 0,.slice none 0 0,.int .i64 0,.slice none 0 0] 56 (0,0)):=by rw [<-hwA,<-hB9];exact heap_alloc_new _ _
       have s9:wr.heap.size<=B9:=by rw [<-hB9];exact (E10_1).size
       have E9_1:Ext wr w9_1:=(E10_1).trans hy
       show anyK _ _ _ _ _ _ _ _ (Act.put _ (some 10) _) _
       simp only [Act.put,sx0,sx1,sx2];rw [hwA,hB9];clear hwA hB9 hy;refine anyK_one (i:=5) (by kernel_rfl) rfl (fun Kk hKk=>?_)
       go_simp
       (go_at_call 63;refine (HOv.out _ (E9_1) sv0 ov0 mv0 jv0 Kv0).mono ?_;rintro e wC1 ⟨sv1,ov1,mv1,jv1,sv2,ov2,mv2,jv2,rfl,Kv1,hy⟩)
       have EI1:Ext wr wC1:=(E9_1).trans hy;have r10:=rowEC r10 hy;have r9:=rowEC r9 hy;clear hy
       go_wp2_with fail
       refine hKk.out _ _ (fun _=>HSj.out _ EI1) ?_;clear hKk Kk;simp only [sx0,sx1,sx2];refine kT 6 13 (v:=?_) rfl (Or.inl ⟨by rfl,?_⟩) (HSj.out _ EI1) ?_;rotate_left 1
       ·intro w hSw
        go_simp
        try with_reducible rfl
       show anyK _ _ _ _ _ _ _ _ (Act.put _ (some 40) _) _
       simp only [Act.put,sx0,sx1,sx2];refine kT 7 13 (v:=?_) rfl (Or.inl ⟨by rfl,?_⟩) (HSj.out _ EI1) ?_;rotate_left 1
       ·intro w hSw
        go_simp
        try with_reducible rfl
       show anyK _ _ _ _ _ _ _ _ (Act.put _ (some 47) _) _
       simp only [Act.put,sx0,sx1,sx2];refine kT 8 13 (v:=?_) rfl (Or.inl ⟨by rfl,?_⟩) (HSj.out _ EI1) ?_;rotate_left 1
       ·intro w hSw
        go_simp
        try with_reducible rfl
       show anyK _ _ _ _ _ _ _ _ (Act.put _ (some 48) _) _
       simp only [Act.put,sx0,sx1,sx2];have n9:=ne_rowsC r9 r10 (by decide);refine anyK_one (i:=11) (by kernel_rfl) rfl (fun Kk hKk=>?_);refine stepK_storeRowC rfl rfl 56 _ _ rfl B9 #[.int .i64 sv1,.slice ov1 mv1 jv1,.int .i64 sv2,.slice ov2 mv2 jv2] rfl rfl 56 _ r9 frac_infoC rfl (by kernel_rfl) ?_;refine hKk.out _ _ (fun _=>HSj.out _ (ext_onlyC EI1 (setRow_onlyC _ _ _) s9)) ?_;clear hKk Kk;simp only [sx0,sx1,sx2];have r10':=((setRow_onlyC wC1 B9 #[.int .i64 sv1,.slice ov1 mv1 jv1,.int .i64 sv2,.slice ov2 mv2 jv2]).block B10 (Ne.symm n9)).trans r10;have r9':=setRow_heap wC1 B9 _ #[.int .i64 sv1,.slice ov1 mv1 jv1,.int .i64 sv2,.slice ov2 mv2 jv2] _ _ r9;have Kv1:=Kv1.keep64 (keep_onlyI (setRow_onlyC wC1 B9 #[.int .i64 sv1,.slice ov1 mv1 jv1,.int .i64 sv2,.slice ov2 mv2 jv2]) r9 (noword4 _ _ _ _ _ _ _ _));have EE:=ext_onlyC EI1 (setRow_onlyC wC1 B9 #[.int .i64 sv1,.slice ov1 mv1 jv1,.int .i64 sv2,.slice ov2 mv2 jv2]) s9;generalize (wC1).setRow B9 #[.int .i64 sv1,.slice ov1 mv1 jv1,.int .i64 sv2,.slice ov2 mv2 jv2]=wY at *;refine anyK_one (i:=12) (by kernel_rfl) rfl (fun Kk hKk=>?_);refine stepK_storeRowC rfl rfl 26 _ _ rfl B10 #[.int .i64 (ovc (z3 ^ n)),.int .i64 0] rfl rfl 26 _ r10' fault_infoC rfl (by kernel_rfl) ?_;refine hKk.out _ _ (fun h=>Bool.noConfusion (show true=false from h)) ?_;clear hKk Kk;simp only [sx0,sx1,sx2];refine anyK_done (by kernel_rfl) ?_ _;have Hq:=Lh (((setRow_onlyC wY B10 #[.int .i64 (ovc (z3 ^ n)),.int .i64 0]).block B9 n9).trans r9');have Hk:=Lh (Kv1.keep64 (keep_onlyI (setRow_onlyC wY B10 #[.int .i64 (ovc (z3 ^ n)),.int .i64 0]) r10' (nowordF _ _)));have He:=Lh (ext_onlyC EE (setRow_onlyC wY B10 #[.int .i64 (ovc (z3 ^ n)),.int .i64 0]) s10);generalize wY.setRow B10 #[.int .i64 (ovc (z3 ^ n)),.int .i64 0]=wZ at *
       go_wp2_with fail
       go_meet
       exact ⟨_,rfl,B9,rfl,_,_,_,_,_,_,_,_,⟨Hq.out⟩,Hk.out,s9,He.out⟩
    ·refine stepK_allocFracC rfl 10 rfl rfl ?_
     refine hKk.out _ _ (fun _=>HSj.out _ (cthen G_ _)) ?_;clear hKk Kk;obtain ⟨w9_0,hwA⟩:∃ V,(wr.drew).alloc (.cells #[.int .i64 0,.slice none 0 0,.int .i64 0,.slice none 0 0] 56)=V:=⟨_,rfl⟩;obtain ⟨B9,hB9⟩:∃ B,(wr.drew).heap.size=B:=⟨_,rfl⟩
     have hy:Ext (wr.drew) w9_0:=by rw [<-hwA];exact ext_al _ _
     have r9:w9_0.heap[B9]?=some (.cells #[.int .i64 0,.slice none 0 0,.int .i64 0,.slice none 0 0] 56 (0,0)):=by rw [<-hwA,<-hB9];exact heap_alloc_new _ _
     have s9:wr.heap.size<=B9:=by rw [<-hB9];exact (G_).size
     have E9_0:Ext wr w9_0:=(G_).trans hy
     show anyK _ _ _ _ _ _ _ _ (Act.put _ (some 10) _) _
     simp only [Act.put,sx0,sx1,sx2];rw [hwA,hB9];clear hwA hB9 hy;refine anyK_pairC (i:=4) (j:=10) (by kernel_rfl) rfl rfl (fun Kk hKk=>?_) (fun Kk hKk=>?_)
     ·go_simp
      (go_at_call 61;refine (P3.out _ (E9_0)).mono ?_;rintro e wC0 ⟨sv0,ov0,mv0,jv0,rfl,Kv0,hy⟩)
      have EI0:Ext wr wC0:=(E9_0).trans hy;have r9:=rowEC r9 hy;clear hy
      go_wp2_with fail
      refine hKk.out _ _ (fun _=>HSj.out _ EI0) ?_;clear hKk Kk;simp only [sx0,sx1,sx2];refine anyK_pairC (i:=5) (j:=10) (by kernel_rfl) rfl rfl (fun Kk hKk=>?_) (fun Kk hKk=>?_)
      ·go_simp
       (go_at_call 63;refine (HOv.out _ (EI0) sv0 ov0 mv0 jv0 Kv0).mono ?_;rintro e wC1 ⟨sv1,ov1,mv1,jv1,sv2,ov2,mv2,jv2,rfl,Kv1,hy⟩)
       have EI1:Ext wr wC1:=(EI0).trans hy;have r9:=rowEC r9 hy;clear hy
       go_wp2_with fail
       refine hKk.out _ _ (fun _=>HSj.out _ EI1) ?_;clear hKk Kk;simp only [sx0,sx1,sx2];refine kT 6 13 (v:=?_) rfl (Or.inl ⟨by rfl,?_⟩) (HSj.out _ EI1) ?_;rotate_left 1
       ·intro w hSw
        go_simp
        try with_reducible rfl
       show anyK _ _ _ _ _ _ _ _ (Act.put _ (some 40) _) _
       simp only [Act.put,sx0,sx1,sx2];refine kT 7 13 (v:=?_) rfl (Or.inl ⟨by rfl,?_⟩) (HSj.out _ EI1) ?_;rotate_left 1
       ·intro w hSw
        go_simp
        try with_reducible rfl
       show anyK _ _ _ _ _ _ _ _ (Act.put _ (some 47) _) _
       simp only [Act.put,sx0,sx1,sx2];refine kT 8 13 (v:=?_) rfl (Or.inl ⟨by rfl,?_⟩) (HSj.out _ EI1) ?_;rotate_left 1
       ·intro w hSw
        go_simp
        try with_reducible rfl
       show anyK _ _ _ _ _ _ _ _ (Act.put _ (some 48) _) _
       simp only [Act.put,sx0,sx1,sx2];refine anyK_one (i:=10) (by kernel_rfl) rfl (fun Kk hKk=>?_);refine stepK_allocFC rfl 11 rfl rfl ?_;refine hKk.out _ _ (fun _=>HSj.out _ (cthen EI1 _)) ?_;clear hKk Kk;obtain ⟨w10_2,hwA⟩:∃ V,(wC1).alloc (.cells #[.int .i64 0,.int .i64 0] 26)=V:=⟨_,rfl⟩;obtain ⟨B10,hB9⟩:∃ B,(wC1).heap.size=B:=⟨_,rfl⟩
       have hy:Ext (wC1) w10_2:=by rw [<-hwA];exact ext_al _ _
       have r9:=rowEC r9 hy;have Kv1:=Kv1.ext hy
       have r10:w10_2.heap[B10]?=some (.cells #[.int .i64 0,.int .i64 0] 26 (0,0)):=by rw [<-hwA,<-hB9];exact heap_alloc_new _ _
       have s10:wr.heap.size<=B10:=by rw [<-hB9];exact (EI1).size
       have E10_2:Ext wr w10_2:=(EI1).trans hy
       show anyK _ _ _ _ _ _ _ _ (Act.put _ (some 11) _) _
       simp only [Act.put,sx0,sx1,sx2];rw [hwA,hB9];clear hwA hB9 hy;have n9:=ne_rowsC r9 r10 (by decide);refine anyK_one (i:=11) (by kernel_rfl) rfl (fun Kk hKk=>?_);refine stepK_storeRowC rfl rfl 56 _ _ rfl B9 #[.int .i64 sv1,.slice ov1 mv1 jv1,.int .i64 sv2,.slice ov2 mv2 jv2] rfl rfl 56 _ r9 frac_infoC rfl (by kernel_rfl) ?_;refine hKk.out _ _ (fun _=>HSj.out _ (ext_onlyC E10_2 (setRow_onlyC _ _ _) s9)) ?_;clear hKk Kk;simp only [sx0,sx1,sx2];have r10':=((setRow_onlyC w10_2 B9 #[.int .i64 sv1,.slice ov1 mv1 jv1,.int .i64 sv2,.slice ov2 mv2 jv2]).block B10 (Ne.symm n9)).trans r10;have r9':=setRow_heap w10_2 B9 _ #[.int .i64 sv1,.slice ov1 mv1 jv1,.int .i64 sv2,.slice ov2 mv2 jv2] _ _ r9;have Kv1:=Kv1.keep64 (keep_onlyI (setRow_onlyC w10_2 B9 #[.int .i64 sv1,.slice ov1 mv1 jv1,.int .i64 sv2,.slice ov2 mv2 jv2]) r9 (noword4 _ _ _ _ _ _ _ _));have EE:=ext_onlyC E10_2 (setRow_onlyC w10_2 B9 #[.int .i64 sv1,.slice ov1 mv1 jv1,.int .i64 sv2,.slice ov2 mv2 jv2]) s9;generalize (w10_2).setRow B9 #[.int .i64 sv1,.slice ov1 mv1 jv1,.int .i64 sv2,.slice ov2 mv2 jv2]=wY at *;refine anyK_one (i:=12) (by kernel_rfl) rfl (fun Kk hKk=>?_);refine stepK_storeRowC rfl rfl 26 _ _ rfl B10 #[.int .i64 (ovc (z3 ^ n)),.int .i64 0] rfl rfl 26 _ r10' fault_infoC rfl (by kernel_rfl) ?_;refine hKk.out _ _ (fun h=>Bool.noConfusion (show true=false from h)) ?_;clear hKk Kk;simp only [sx0,sx1,sx2];refine anyK_done (by kernel_rfl) ?_ _;have Hq:=Lh (((setRow_onlyC wY B10 #[.int .i64 (ovc (z3 ^ n)),.int .i64 0]).block B9 n9).trans r9');have Hk:=Lh (Kv1.keep64 (keep_onlyI (setRow_onlyC wY B10 #[.int .i64 (ovc (z3 ^ n)),.int .i64 0]) r10' (nowordF _ _)));have He:=Lh (ext_onlyC EE (setRow_onlyC wY B10 #[.int .i64 (ovc (z3 ^ n)),.int .i64 0]) s10);generalize wY.setRow B10 #[.int .i64 (ovc (z3 ^ n)),.int .i64 0]=wZ at *
       go_wp2_with fail
       go_meet
       exact ⟨_,rfl,B9,rfl,_,_,_,_,_,_,_,_,⟨Hq.out⟩,Hk.out,s9,He.out⟩
      ·refine stepK_allocFC rfl 11 rfl rfl ?_
       refine hKk.out _ _ (fun _=>HSj.out _ (cthen EI0 _)) ?_;clear hKk Kk;obtain ⟨w10_1,hwA⟩:∃ V,(wC0).alloc (.cells #[.int .i64 0,.int .i64 0] 26)=V:=⟨_,rfl⟩;obtain ⟨B10,hB9⟩:∃ B,(wC0).heap.size=B:=⟨_,rfl⟩
       have hy:Ext (wC0) w10_1:=by rw [<-hwA];exact ext_al _ _
       have r9:=rowEC r9 hy;have Kv0:=Kv0.ext hy
       have r10:w10_1.heap[B10]?=some (.cells #[.int .i64 0,.int .i64 0] 26 (0,0)):=by rw [<-hwA,<-hB9];exact heap_alloc_new _ _
       have s10:wr.heap.size<=B10:=by rw [<-hB9];exact (EI0).size
       have E10_1:Ext wr w10_1:=(EI0).trans hy
       show anyK _ _ _ _ _ _ _ _ (Act.put _ (some 11) _) _
       simp only [Act.put,sx0,sx1,sx2];rw [hwA,hB9];clear hwA hB9 hy;refine anyK_one (i:=5) (by kernel_rfl) rfl (fun Kk hKk=>?_)
       go_simp
       (go_at_call 63;refine (HOv.out _ (E10_1) sv0 ov0 mv0 jv0 Kv0).mono ?_;rintro e wC1 ⟨sv1,ov1,mv1,jv1,sv2,ov2,mv2,jv2,rfl,Kv1,hy⟩)
       have EI1:Ext wr wC1:=(E10_1).trans hy;have r9:=rowEC r9 hy;have r10:=rowEC r10 hy;clear hy
       go_wp2_with fail
       refine hKk.out _ _ (fun _=>HSj.out _ EI1) ?_;clear hKk Kk;simp only [sx0,sx1,sx2];refine kT 6 13 (v:=?_) rfl (Or.inl ⟨by rfl,?_⟩) (HSj.out _ EI1) ?_;rotate_left 1
       ·intro w hSw
        go_simp
        try with_reducible rfl
       show anyK _ _ _ _ _ _ _ _ (Act.put _ (some 40) _) _
       simp only [Act.put,sx0,sx1,sx2];refine kT 7 13 (v:=?_) rfl (Or.inl ⟨by rfl,?_⟩) (HSj.out _ EI1) ?_;rotate_left 1
       ·intro w hSw
        go_simp
        try with_reducible rfl
       show anyK _ _ _ _ _ _ _ _ (Act.put _ (some 47) _) _
       simp only [Act.put,sx0,sx1,sx2];refine kT 8 13 (v:=?_) rfl (Or.inl ⟨by rfl,?_⟩) (HSj.out _ EI1) ?_;rotate_left 1
       ·intro w hSw
        go_simp
        try with_reducible rfl
       show anyK _ _ _ _ _ _ _ _ (Act.put _ (some 48) _) _
       simp only [Act.put,sx0,sx1,sx2];have n9:=ne_rowsC r9 r10 (by decide);refine anyK_one (i:=11) (by kernel_rfl) rfl (fun Kk hKk=>?_);refine stepK_storeRowC rfl rfl 56 _ _ rfl B9 #[.int .i64 sv1,.slice ov1 mv1 jv1,.int .i64 sv2,.slice ov2 mv2 jv2] rfl rfl 56 _ r9 frac_infoC rfl (by kernel_rfl) ?_;refine hKk.out _ _ (fun _=>HSj.out _ (ext_onlyC EI1 (setRow_onlyC _ _ _) s9)) ?_;clear hKk Kk;simp only [sx0,sx1,sx2];have r10':=((setRow_onlyC wC1 B9 #[.int .i64 sv1,.slice ov1 mv1 jv1,.int .i64 sv2,.slice ov2 mv2 jv2]).block B10 (Ne.symm n9)).trans r10;have r9':=setRow_heap wC1 B9 _ #[.int .i64 sv1,.slice ov1 mv1 jv1,.int .i64 sv2,.slice ov2 mv2 jv2] _ _ r9;have Kv1:=Kv1.keep64 (keep_onlyI (setRow_onlyC wC1 B9 #[.int .i64 sv1,.slice ov1 mv1 jv1,.int .i64 sv2,.slice ov2 mv2 jv2]) r9 (noword4 _ _ _ _ _ _ _ _));have EE:=ext_onlyC EI1 (setRow_onlyC wC1 B9 #[.int .i64 sv1,.slice ov1 mv1 jv1,.int .i64 sv2,.slice ov2 mv2 jv2]) s9;generalize (wC1).setRow B9 #[.int .i64 sv1,.slice ov1 mv1 jv1,.int .i64 sv2,.slice ov2 mv2 jv2]=wY at *;refine anyK_one (i:=12) (by kernel_rfl) rfl (fun Kk hKk=>?_);refine stepK_storeRowC rfl rfl 26 _ _ rfl B10 #[.int .i64 (ovc (z3 ^ n)),.int .i64 0] rfl rfl 26 _ r10' fault_infoC rfl (by kernel_rfl) ?_;refine hKk.out _ _ (fun h=>Bool.noConfusion (show true=false from h)) ?_;clear hKk Kk;simp only [sx0,sx1,sx2];refine anyK_done (by kernel_rfl) ?_ _;have Hq:=Lh (((setRow_onlyC wY B10 #[.int .i64 (ovc (z3 ^ n)),.int .i64 0]).block B9 n9).trans r9');have Hk:=Lh (Kv1.keep64 (keep_onlyI (setRow_onlyC wY B10 #[.int .i64 (ovc (z3 ^ n)),.int .i64 0]) r10' (nowordF _ _)));have He:=Lh (ext_onlyC EE (setRow_onlyC wY B10 #[.int .i64 (ovc (z3 ^ n)),.int .i64 0]) s10);generalize wY.setRow B10 #[.int .i64 (ovc (z3 ^ n)),.int .i64 0]=wZ at *
       go_wp2_with fail
       go_meet
       exact ⟨_,rfl,B9,rfl,_,_,_,_,_,_,_,_,⟨Hq.out⟩,Hk.out,s9,He.out⟩
     ·refine stepK_allocFC rfl 11 rfl rfl ?_
      refine hKk.out _ _ (fun _=>HSj.out _ (cthen E9_0 _)) ?_;clear hKk Kk;obtain ⟨w10_0,hwA⟩:∃ V,(w9_0).alloc (.cells #[.int .i64 0,.int .i64 0] 26)=V:=⟨_,rfl⟩;obtain ⟨B10,hB9⟩:∃ B,(w9_0).heap.size=B:=⟨_,rfl⟩
      have hy:Ext (w9_0) w10_0:=by rw [<-hwA];exact ext_al _ _
      have r9:=rowEC r9 hy
      have r10:w10_0.heap[B10]?=some (.cells #[.int .i64 0,.int .i64 0] 26 (0,0)):=by rw [<-hwA,<-hB9];exact heap_alloc_new _ _
      have s10:wr.heap.size<=B10:=by rw [<-hB9];exact (E9_0).size
      have E10_0:Ext wr w10_0:=(E9_0).trans hy
      show anyK _ _ _ _ _ _ _ _ (Act.put _ (some 11) _) _
      simp only [Act.put,sx0,sx1,sx2];rw [hwA,hB9];clear hwA hB9 hy;refine anyK_one (i:=4) (by kernel_rfl) rfl (fun Kk hKk=>?_)
      go_simp
      (go_at_call 61;refine (P3.out _ (E10_0)).mono ?_;rintro e wC0 ⟨sv0,ov0,mv0,jv0,rfl,Kv0,hy⟩)
      have EI0:Ext wr wC0:=(E10_0).trans hy;have r9:=rowEC r9 hy;have r10:=rowEC r10 hy;clear hy
      go_wp2_with fail
      refine hKk.out _ _ (fun _=>HSj.out _ EI0) ?_;clear hKk Kk;simp only [sx0,sx1,sx2];refine anyK_one (i:=5) (by kernel_rfl) rfl (fun Kk hKk=>?_)
      go_simp
      (go_at_call 63;refine (HOv.out _ (EI0) sv0 ov0 mv0 jv0 Kv0).mono ?_;rintro e wC1 ⟨sv1,ov1,mv1,jv1,sv2,ov2,mv2,jv2,rfl,Kv1,hy⟩)
      have EI1:Ext wr wC1:=(EI0).trans hy;have r9:=rowEC r9 hy;have r10:=rowEC r10 hy;clear hy
      go_wp2_with fail
      refine hKk.out _ _ (fun _=>HSj.out _ EI1) ?_;clear hKk Kk;simp only [sx0,sx1,sx2];refine kT 6 13 (v:=?_) rfl (Or.inl ⟨by rfl,?_⟩) (HSj.out _ EI1) ?_;rotate_left 1
      ·intro w hSw
       go_simp
       try with_reducible rfl
      show anyK _ _ _ _ _ _ _ _ (Act.put _ (some 40) _) _
      simp only [Act.put,sx0,sx1,sx2];refine kT 7 13 (v:=?_) rfl (Or.inl ⟨by rfl,?_⟩) (HSj.out _ EI1) ?_;rotate_left 1
      ·intro w hSw
       go_simp
       try with_reducible rfl
      show anyK _ _ _ _ _ _ _ _ (Act.put _ (some 47) _) _
      simp only [Act.put,sx0,sx1,sx2];refine kT 8 13 (v:=?_) rfl (Or.inl ⟨by rfl,?_⟩) (HSj.out _ EI1) ?_;rotate_left 1
      ·intro w hSw
       go_simp
       try with_reducible rfl
      show anyK _ _ _ _ _ _ _ _ (Act.put _ (some 48) _) _
      simp only [Act.put,sx0,sx1,sx2];have n9:=ne_rowsC r9 r10 (by decide);refine anyK_one (i:=11) (by kernel_rfl) rfl (fun Kk hKk=>?_);refine stepK_storeRowC rfl rfl 56 _ _ rfl B9 #[.int .i64 sv1,.slice ov1 mv1 jv1,.int .i64 sv2,.slice ov2 mv2 jv2] rfl rfl 56 _ r9 frac_infoC rfl (by kernel_rfl) ?_;refine hKk.out _ _ (fun _=>HSj.out _ (ext_onlyC EI1 (setRow_onlyC _ _ _) s9)) ?_;clear hKk Kk;simp only [sx0,sx1,sx2];have r10':=((setRow_onlyC wC1 B9 #[.int .i64 sv1,.slice ov1 mv1 jv1,.int .i64 sv2,.slice ov2 mv2 jv2]).block B10 (Ne.symm n9)).trans r10;have r9':=setRow_heap wC1 B9 _ #[.int .i64 sv1,.slice ov1 mv1 jv1,.int .i64 sv2,.slice ov2 mv2 jv2] _ _ r9;have Kv1:=Kv1.keep64 (keep_onlyI (setRow_onlyC wC1 B9 #[.int .i64 sv1,.slice ov1 mv1 jv1,.int .i64 sv2,.slice ov2 mv2 jv2]) r9 (noword4 _ _ _ _ _ _ _ _));have EE:=ext_onlyC EI1 (setRow_onlyC wC1 B9 #[.int .i64 sv1,.slice ov1 mv1 jv1,.int .i64 sv2,.slice ov2 mv2 jv2]) s9;generalize (wC1).setRow B9 #[.int .i64 sv1,.slice ov1 mv1 jv1,.int .i64 sv2,.slice ov2 mv2 jv2]=wY at *;refine anyK_one (i:=12) (by kernel_rfl) rfl (fun Kk hKk=>?_);refine stepK_storeRowC rfl rfl 26 _ _ rfl B10 #[.int .i64 (ovc (z3 ^ n)),.int .i64 0] rfl rfl 26 _ r10' fault_infoC rfl (by kernel_rfl) ?_;refine hKk.out _ _ (fun h=>Bool.noConfusion (show true=false from h)) ?_;clear hKk Kk;simp only [sx0,sx1,sx2];refine anyK_done (by kernel_rfl) ?_ _;have Hq:=Lh (((setRow_onlyC wY B10 #[.int .i64 (ovc (z3 ^ n)),.int .i64 0]).block B9 n9).trans r9');have Hk:=Lh (Kv1.keep64 (keep_onlyI (setRow_onlyC wY B10 #[.int .i64 (ovc (z3 ^ n)),.int .i64 0]) r10' (nowordF _ _)));have He:=Lh (ext_onlyC EE (setRow_onlyC wY B10 #[.int .i64 (ovc (z3 ^ n)),.int .i64 0]) s10);generalize wY.setRow B10 #[.int .i64 (ovc (z3 ^ n)),.int .i64 0]=wZ at *
      go_wp2_with fail
      go_meet
      exact ⟨_,rfl,B9,rfl,_,_,_,_,_,_,_,_,⟨Hq.out⟩,Hk.out,s9,He.out⟩
    ·refine stepK_allocFC rfl 11 rfl rfl ?_
     refine hKk.out _ _ (fun _=>HSj.out _ (cthen G_ _)) ?_;clear hKk Kk;obtain ⟨w10_0,hwA⟩:∃ V,(wr.drew).alloc (.cells #[.int .i64 0,.int .i64 0] 26)=V:=⟨_,rfl⟩;obtain ⟨B10,hB9⟩:∃ B,(wr.drew).heap.size=B:=⟨_,rfl⟩
     have hy:Ext (wr.drew) w10_0:=by rw [<-hwA];exact ext_al _ _
     have r10:w10_0.heap[B10]?=some (.cells #[.int .i64 0,.int .i64 0] 26 (0,0)):=by rw [<-hwA,<-hB9];exact heap_alloc_new _ _
     have s10:wr.heap.size<=B10:=by rw [<-hB9];exact (G_).size
     have E10_0:Ext wr w10_0:=(G_).trans hy
     show anyK _ _ _ _ _ _ _ _ (Act.put _ (some 11) _) _
     simp only [Act.put,sx0,sx1,sx2];rw [hwA,hB9];clear hwA hB9 hy;refine anyK_pairC (i:=4) (j:=9) (by kernel_rfl) rfl rfl (fun Kk hKk=>?_) (fun Kk hKk=>?_)
     ·go_simp
      (go_at_call 61;refine (P3.out _ (E10_0)).mono ?_;rintro e wC0 ⟨sv0,ov0,mv0,jv0,rfl,Kv0,hy⟩)
      have EI0:Ext wr wC0:=(E10_0).trans hy;have r10:=rowEC r10 hy;clear hy
      go_wp2_with fail
      refine hKk.out _ _ (fun _=>HSj.out _ EI0) ?_;clear hKk Kk;simp only [sx0,sx1,sx2];refine anyK_pairC (i:=5) (j:=9) (by kernel_rfl) rfl rfl (fun Kk hKk=>?_) (fun Kk hKk=>?_)
      ·go_simp
       (go_at_call 63;refine (HOv.out _ (EI0) sv0 ov0 mv0 jv0 Kv0).mono ?_;rintro e wC1 ⟨sv1,ov1,mv1,jv1,sv2,ov2,mv2,jv2,rfl,Kv1,hy⟩)
       have EI1:Ext wr wC1:=(EI0).trans hy;have r10:=rowEC r10 hy;clear hy
       go_wp2_with fail
       refine hKk.out _ _ (fun _=>HSj.out _ EI1) ?_;clear hKk Kk;simp only [sx0,sx1,sx2];refine kT 6 13 (v:=?_) rfl (Or.inl ⟨by rfl,?_⟩) (HSj.out _ EI1) ?_;rotate_left 1
       ·intro w hSw
        go_simp
        try with_reducible rfl
       show anyK _ _ _ _ _ _ _ _ (Act.put _ (some 40) _) _
       simp only [Act.put,sx0,sx1,sx2];refine kT 7 13 (v:=?_) rfl (Or.inl ⟨by rfl,?_⟩) (HSj.out _ EI1) ?_;rotate_left 1
       ·intro w hSw
        go_simp
        try with_reducible rfl
       show anyK _ _ _ _ _ _ _ _ (Act.put _ (some 47) _) _
       simp only [Act.put,sx0,sx1,sx2];refine kT 8 13 (v:=?_) rfl (Or.inl ⟨by rfl,?_⟩) (HSj.out _ EI1) ?_;rotate_left 1
       ·intro w hSw
        go_simp
        try with_reducible rfl
       show anyK _ _ _ _ _ _ _ _ (Act.put _ (some 48) _) _
       simp only [Act.put,sx0,sx1,sx2];refine anyK_one (i:=9) (by kernel_rfl) rfl (fun Kk hKk=>?_);refine stepK_allocFracC rfl 10 rfl rfl ?_;refine hKk.out _ _ (fun _=>HSj.out _ (cthen EI1 _)) ?_;clear hKk Kk;obtain ⟨w9_2,hwA⟩:∃ V,(wC1).alloc (.cells #[.int .i64 0,.slice none 0 0,.int .i64 0,.slice none 0 0] 56)=V:=⟨_,rfl⟩;obtain ⟨B9,hB9⟩:∃ B,(wC1).heap.size=B:=⟨_,rfl⟩
       have hy:Ext (wC1) w9_2:=by rw [<-hwA];exact ext_al _ _
       have r10:=rowEC r10 hy;have Kv1:=Kv1.ext hy
       have r9:w9_2.heap[B9]?=some (.cells #[.int .i64 0,.slice none 0 0,.int .i64 0,.slice none 0 0] 56 (0,0)):=by rw [<-hwA,<-hB9];exact heap_alloc_new _ _
       have s9:wr.heap.size<=B9:=by rw [<-hB9];exact (EI1).size
       have E9_2:Ext wr w9_2:=(EI1).trans hy
       show anyK _ _ _ _ _ _ _ _ (Act.put _ (some 10) _) _
       simp only [Act.put,sx0,sx1,sx2];rw [hwA,hB9];clear hwA hB9 hy;have n9:=ne_rowsC r9 r10 (by decide);refine anyK_one (i:=11) (by kernel_rfl) rfl (fun Kk hKk=>?_);refine stepK_storeRowC rfl rfl 56 _ _ rfl B9 #[.int .i64 sv1,.slice ov1 mv1 jv1,.int .i64 sv2,.slice ov2 mv2 jv2] rfl rfl 56 _ r9 frac_infoC rfl (by kernel_rfl) ?_;refine hKk.out _ _ (fun _=>HSj.out _ (ext_onlyC E9_2 (setRow_onlyC _ _ _) s9)) ?_;clear hKk Kk;simp only [sx0,sx1,sx2];have r10':=((setRow_onlyC w9_2 B9 #[.int .i64 sv1,.slice ov1 mv1 jv1,.int .i64 sv2,.slice ov2 mv2 jv2]).block B10 (Ne.symm n9)).trans r10;have r9':=setRow_heap w9_2 B9 _ #[.int .i64 sv1,.slice ov1 mv1 jv1,.int .i64 sv2,.slice ov2 mv2 jv2] _ _ r9;have Kv1:=Kv1.keep64 (keep_onlyI (setRow_onlyC w9_2 B9 #[.int .i64 sv1,.slice ov1 mv1 jv1,.int .i64 sv2,.slice ov2 mv2 jv2]) r9 (noword4 _ _ _ _ _ _ _ _));have EE:=ext_onlyC E9_2 (setRow_onlyC w9_2 B9 #[.int .i64 sv1,.slice ov1 mv1 jv1,.int .i64 sv2,.slice ov2 mv2 jv2]) s9;generalize (w9_2).setRow B9 #[.int .i64 sv1,.slice ov1 mv1 jv1,.int .i64 sv2,.slice ov2 mv2 jv2]=wY at *;refine anyK_one (i:=12) (by kernel_rfl) rfl (fun Kk hKk=>?_);refine stepK_storeRowC rfl rfl 26 _ _ rfl B10 #[.int .i64 (ovc (z3 ^ n)),.int .i64 0] rfl rfl 26 _ r10' fault_infoC rfl (by kernel_rfl) ?_;refine hKk.out _ _ (fun h=>Bool.noConfusion (show true=false from h)) ?_;clear hKk Kk;simp only [sx0,sx1,sx2];refine anyK_done (by kernel_rfl) ?_ _;have Hq:=Lh (((setRow_onlyC wY B10 #[.int .i64 (ovc (z3 ^ n)),.int .i64 0]).block B9 n9).trans r9');have Hk:=Lh (Kv1.keep64 (keep_onlyI (setRow_onlyC wY B10 #[.int .i64 (ovc (z3 ^ n)),.int .i64 0]) r10' (nowordF _ _)));have He:=Lh (ext_onlyC EE (setRow_onlyC wY B10 #[.int .i64 (ovc (z3 ^ n)),.int .i64 0]) s10);generalize wY.setRow B10 #[.int .i64 (ovc (z3 ^ n)),.int .i64 0]=wZ at *
       go_wp2_with fail
       go_meet
       exact ⟨_,rfl,B9,rfl,_,_,_,_,_,_,_,_,⟨Hq.out⟩,Hk.out,s9,He.out⟩
      ·refine stepK_allocFracC rfl 10 rfl rfl ?_
       refine hKk.out _ _ (fun _=>HSj.out _ (cthen EI0 _)) ?_;clear hKk Kk;obtain ⟨w9_1,hwA⟩:∃ V,(wC0).alloc (.cells #[.int .i64 0,.slice none 0 0,.int .i64 0,.slice none 0 0] 56)=V:=⟨_,rfl⟩;obtain ⟨B9,hB9⟩:∃ B,(wC0).heap.size=B:=⟨_,rfl⟩
       have hy:Ext (wC0) w9_1:=by rw [<-hwA];exact ext_al _ _
       have r10:=rowEC r10 hy;have Kv0:=Kv0.ext hy
       have r9:w9_1.heap[B9]?=some (.cells #[.int .i64 0,.slice none 0 0,.int .i64 0,.slice none 0 0] 56 (0,0)):=by rw [<-hwA,<-hB9];exact heap_alloc_new _ _
       have s9:wr.heap.size<=B9:=by rw [<-hB9];exact (EI0).size
       have E9_1:Ext wr w9_1:=(EI0).trans hy
       show anyK _ _ _ _ _ _ _ _ (Act.put _ (some 10) _) _
       simp only [Act.put,sx0,sx1,sx2];rw [hwA,hB9];clear hwA hB9 hy;refine anyK_one (i:=5) (by kernel_rfl) rfl (fun Kk hKk=>?_)
       go_simp
       (go_at_call 63;refine (HOv.out _ (E9_1) sv0 ov0 mv0 jv0 Kv0).mono ?_;rintro e wC1 ⟨sv1,ov1,mv1,jv1,sv2,ov2,mv2,jv2,rfl,Kv1,hy⟩)
       have EI1:Ext wr wC1:=(E9_1).trans hy;have r10:=rowEC r10 hy;have r9:=rowEC r9 hy;clear hy
       go_wp2_with fail
       refine hKk.out _ _ (fun _=>HSj.out _ EI1) ?_;clear hKk Kk;simp only [sx0,sx1,sx2];refine kT 6 13 (v:=?_) rfl (Or.inl ⟨by rfl,?_⟩) (HSj.out _ EI1) ?_;rotate_left 1
       ·intro w hSw
        go_simp
        try with_reducible rfl
       show anyK _ _ _ _ _ _ _ _ (Act.put _ (some 40) _) _
       simp only [Act.put,sx0,sx1,sx2];refine kT 7 13 (v:=?_) rfl (Or.inl ⟨by rfl,?_⟩) (HSj.out _ EI1) ?_;rotate_left 1
       ·intro w hSw
        go_simp
        try with_reducible rfl
       show anyK _ _ _ _ _ _ _ _ (Act.put _ (some 47) _) _
       simp only [Act.put,sx0,sx1,sx2];refine kT 8 13 (v:=?_) rfl (Or.inl ⟨by rfl,?_⟩) (HSj.out _ EI1) ?_;rotate_left 1
       ·intro w hSw
        go_simp
        try with_reducible rfl
       show anyK _ _ _ _ _ _ _ _ (Act.put _ (some 48) _) _
       simp only [Act.put,sx0,sx1,sx2];have n9:=ne_rowsC r9 r10 (by decide);refine anyK_one (i:=11) (by kernel_rfl) rfl (fun Kk hKk=>?_);refine stepK_storeRowC rfl rfl 56 _ _ rfl B9 #[.int .i64 sv1,.slice ov1 mv1 jv1,.int .i64 sv2,.slice ov2 mv2 jv2] rfl rfl 56 _ r9 frac_infoC rfl (by kernel_rfl) ?_;refine hKk.out _ _ (fun _=>HSj.out _ (ext_onlyC EI1 (setRow_onlyC _ _ _) s9)) ?_;clear hKk Kk;simp only [sx0,sx1,sx2];have r10':=((setRow_onlyC wC1 B9 #[.int .i64 sv1,.slice ov1 mv1 jv1,.int .i64 sv2,.slice ov2 mv2 jv2]).block B10 (Ne.symm n9)).trans r10;have r9':=setRow_heap wC1 B9 _ #[.int .i64 sv1,.slice ov1 mv1 jv1,.int .i64 sv2,.slice ov2 mv2 jv2] _ _ r9;have Kv1:=Kv1.keep64 (keep_onlyI (setRow_onlyC wC1 B9 #[.int .i64 sv1,.slice ov1 mv1 jv1,.int .i64 sv2,.slice ov2 mv2 jv2]) r9 (noword4 _ _ _ _ _ _ _ _));have EE:=ext_onlyC EI1 (setRow_onlyC wC1 B9 #[.int .i64 sv1,.slice ov1 mv1 jv1,.int .i64 sv2,.slice ov2 mv2 jv2]) s9;generalize (wC1).setRow B9 #[.int .i64 sv1,.slice ov1 mv1 jv1,.int .i64 sv2,.slice ov2 mv2 jv2]=wY at *;refine anyK_one (i:=12) (by kernel_rfl) rfl (fun Kk hKk=>?_);refine stepK_storeRowC rfl rfl 26 _ _ rfl B10 #[.int .i64 (ovc (z3 ^ n)),.int .i64 0] rfl rfl 26 _ r10' fault_infoC rfl (by kernel_rfl) ?_;refine hKk.out _ _ (fun h=>Bool.noConfusion (show true=false from h)) ?_;clear hKk Kk;simp only [sx0,sx1,sx2];refine anyK_done (by kernel_rfl) ?_ _;have Hq:=Lh (((setRow_onlyC wY B10 #[.int .i64 (ovc (z3 ^ n)),.int .i64 0]).block B9 n9).trans r9');have Hk:=Lh (Kv1.keep64 (keep_onlyI (setRow_onlyC wY B10 #[.int .i64 (ovc (z3 ^ n)),.int .i64 0]) r10' (nowordF _ _)));have He:=Lh (ext_onlyC EE (setRow_onlyC wY B10 #[.int .i64 (ovc (z3 ^ n)),.int .i64 0]) s10);generalize wY.setRow B10 #[.int .i64 (ovc (z3 ^ n)),.int .i64 0]=wZ at *
       go_wp2_with fail
       go_meet
       exact ⟨_,rfl,B9,rfl,_,_,_,_,_,_,_,_,⟨Hq.out⟩,Hk.out,s9,He.out⟩
     ·refine stepK_allocFracC rfl 10 rfl rfl ?_
      refine hKk.out _ _ (fun _=>HSj.out _ (cthen E10_0 _)) ?_;clear hKk Kk;obtain ⟨w9_0,hwA⟩:∃ V,(w10_0).alloc (.cells #[.int .i64 0,.slice none 0 0,.int .i64 0,.slice none 0 0] 56)=V:=⟨_,rfl⟩;obtain ⟨B9,hB9⟩:∃ B,(w10_0).heap.size=B:=⟨_,rfl⟩
      have hy:Ext (w10_0) w9_0:=by rw [<-hwA];exact ext_al _ _
      have r10:=rowEC r10 hy
      have r9:w9_0.heap[B9]?=some (.cells #[.int .i64 0,.slice none 0 0,.int .i64 0,.slice none 0 0] 56 (0,0)):=by rw [<-hwA,<-hB9];exact heap_alloc_new _ _
      have s9:wr.heap.size<=B9:=by rw [<-hB9];exact (E10_0).size
      have E9_0:Ext wr w9_0:=(E10_0).trans hy
      show anyK _ _ _ _ _ _ _ _ (Act.put _ (some 10) _) _
      simp only [Act.put,sx0,sx1,sx2];rw [hwA,hB9];clear hwA hB9 hy;refine anyK_one (i:=4) (by kernel_rfl) rfl (fun Kk hKk=>?_)
      go_simp
      (go_at_call 61;refine (P3.out _ (E9_0)).mono ?_;rintro e wC0 ⟨sv0,ov0,mv0,jv0,rfl,Kv0,hy⟩)
      have EI0:Ext wr wC0:=(E9_0).trans hy;have r10:=rowEC r10 hy;have r9:=rowEC r9 hy;clear hy
      go_wp2_with fail
      refine hKk.out _ _ (fun _=>HSj.out _ EI0) ?_;clear hKk Kk;simp only [sx0,sx1,sx2];refine anyK_one (i:=5) (by kernel_rfl) rfl (fun Kk hKk=>?_)
      go_simp
      (go_at_call 63;refine (HOv.out _ (EI0) sv0 ov0 mv0 jv0 Kv0).mono ?_;rintro e wC1 ⟨sv1,ov1,mv1,jv1,sv2,ov2,mv2,jv2,rfl,Kv1,hy⟩)
      have EI1:Ext wr wC1:=(EI0).trans hy;have r10:=rowEC r10 hy;have r9:=rowEC r9 hy;clear hy
      go_wp2_with fail
      refine hKk.out _ _ (fun _=>HSj.out _ EI1) ?_;clear hKk Kk;simp only [sx0,sx1,sx2];refine kT 6 13 (v:=?_) rfl (Or.inl ⟨by rfl,?_⟩) (HSj.out _ EI1) ?_;rotate_left 1
      ·intro w hSw
       go_simp
       try with_reducible rfl
      show anyK _ _ _ _ _ _ _ _ (Act.put _ (some 40) _) _
      simp only [Act.put,sx0,sx1,sx2];refine kT 7 13 (v:=?_) rfl (Or.inl ⟨by rfl,?_⟩) (HSj.out _ EI1) ?_;rotate_left 1
      ·intro w hSw
       go_simp
       try with_reducible rfl
      show anyK _ _ _ _ _ _ _ _ (Act.put _ (some 47) _) _
      simp only [Act.put,sx0,sx1,sx2];refine kT 8 13 (v:=?_) rfl (Or.inl ⟨by rfl,?_⟩) (HSj.out _ EI1) ?_;rotate_left 1
      ·intro w hSw
       go_simp
       try with_reducible rfl
      show anyK _ _ _ _ _ _ _ _ (Act.put _ (some 48) _) _
      simp only [Act.put,sx0,sx1,sx2];have n9:=ne_rowsC r9 r10 (by decide);refine anyK_one (i:=11) (by kernel_rfl) rfl (fun Kk hKk=>?_);refine stepK_storeRowC rfl rfl 56 _ _ rfl B9 #[.int .i64 sv1,.slice ov1 mv1 jv1,.int .i64 sv2,.slice ov2 mv2 jv2] rfl rfl 56 _ r9 frac_infoC rfl (by kernel_rfl) ?_;refine hKk.out _ _ (fun _=>HSj.out _ (ext_onlyC EI1 (setRow_onlyC _ _ _) s9)) ?_;clear hKk Kk;simp only [sx0,sx1,sx2];have r10':=((setRow_onlyC wC1 B9 #[.int .i64 sv1,.slice ov1 mv1 jv1,.int .i64 sv2,.slice ov2 mv2 jv2]).block B10 (Ne.symm n9)).trans r10;have r9':=setRow_heap wC1 B9 _ #[.int .i64 sv1,.slice ov1 mv1 jv1,.int .i64 sv2,.slice ov2 mv2 jv2] _ _ r9;have Kv1:=Kv1.keep64 (keep_onlyI (setRow_onlyC wC1 B9 #[.int .i64 sv1,.slice ov1 mv1 jv1,.int .i64 sv2,.slice ov2 mv2 jv2]) r9 (noword4 _ _ _ _ _ _ _ _));have EE:=ext_onlyC EI1 (setRow_onlyC wC1 B9 #[.int .i64 sv1,.slice ov1 mv1 jv1,.int .i64 sv2,.slice ov2 mv2 jv2]) s9;generalize (wC1).setRow B9 #[.int .i64 sv1,.slice ov1 mv1 jv1,.int .i64 sv2,.slice ov2 mv2 jv2]=wY at *;refine anyK_one (i:=12) (by kernel_rfl) rfl (fun Kk hKk=>?_);refine stepK_storeRowC rfl rfl 26 _ _ rfl B10 #[.int .i64 (ovc (z3 ^ n)),.int .i64 0] rfl rfl 26 _ r10' fault_infoC rfl (by kernel_rfl) ?_;refine hKk.out _ _ (fun h=>Bool.noConfusion (show true=false from h)) ?_;clear hKk Kk;simp only [sx0,sx1,sx2];refine anyK_done (by kernel_rfl) ?_ _;have Hq:=Lh (((setRow_onlyC wY B10 #[.int .i64 (ovc (z3 ^ n)),.int .i64 0]).block B9 n9).trans r9');have Hk:=Lh (Kv1.keep64 (keep_onlyI (setRow_onlyC wY B10 #[.int .i64 (ovc (z3 ^ n)),.int .i64 0]) r10' (nowordF _ _)));have He:=Lh (ext_onlyC EE (setRow_onlyC wY B10 #[.int .i64 (ovc (z3 ^ n)),.int .i64 0]) s10);generalize wY.setRow B10 #[.int .i64 (ovc (z3 ^ n)),.int .i64 0]=wZ at *
      go_wp2_with fail
      go_meet
      exact ⟨_,rfl,B9,rfl,_,_,_,_,_,_,_,_,⟨Hq.out⟩,Hk.out,s9,He.out⟩
   case rest =>
    obtain ⟨U,rfl,G,rfl,s9,a9,n9,c9,s8,a8,n8,c8,q9,I9,hG,EU⟩:=hcut;have qr:=HbR.out.ext EU;have k0:=q9.c0;have k1:=q9.c1;have k2:=q9.c2;have k3:=q9.c3;have r0:=qr.c0;have r1:=qr.c1;have r2:=qr.c2;have r3:=qr.c3;have f0:=frozen_of_row U (H+1) 0 _ _ qr.row;have f1:=frozen_of_row U (H+1) 1 _ _ qr.row;have f2:=frozen_of_row U (H+1) 2 _ _ qr.row;have f3:=frozen_of_row U (H+1) 3 _ _ qr.row;have hkk:=Keep64.set4 (w:=U) (.i64 r0) (.slice r1) (.i64 r2) (.slice r3) (notW_i64 s9) (notW_slice a9 n9 c9) (notW_i64 s8) (.slice a8 n8 c8);have HI9:=hid (I9.keep64 hkk);have HEU:=hid (Hx.out.trans EU);have lH:=hid (show w.heap.size<=H+1 by have:=HH.out;omega);clear hkk I9 hG EU q9 qr m0 m1 m2 m3
    go_wp2_with fail
    exact bodyPost_ret (v:=.agg #[.int .i64 s9,.slice a9 n9 c9,.int .i64 s8,.slice a8 n8 c8]) (by simp [results,Tryz.results18,go_sem,r0,r1,r2,r3]) rfl ⟨s9,a9,n9,c9,s8,a8,n8,c8,rfl,HI9.out,(HEU.out.put2 lH.out _ _).put2 lH.out _ _⟩
  have hlt:m<=n:=by omega
  have q1:(m:Int)<((n+1:Nat):Int):=by omega
  have q2:m<n+1:=by omega
  have wk:IntKind.i64.wrap ((m:Int)+1)=((m+1:Nat):Int):=by rw [IntKind.wrap_i64];have:=Hn.out;omega
  have wk2:IntKind.i64.wrap ((n:Int)-(m:Int))=((n-m:Nat):Int):=by rw [IntKind.wrap_i64];have:=Hn.out;omega
  have x0:wr.cell? ⟨b,o+m,none⟩=some (.int .i64 (cnt m:Int)):=(hx.cell (p:=⟨b,o+m,none⟩) Hbl.out).trans (HC.out m hlt);have Hlt:=hid hlt;clear hkk hm b4 i4 bO bR hx hlt hmn;have hdm:decide ((m:Int)<(n:Int)+1)=true:=decide_eq_true (by omega)
  go_upto_region 6 with fail
  clear hdm;have kO:=HbO.out;have m0:=kO.x0;have m1:=kO.x1;have m2:=kO.x2;have m3:=kO.x3;have lH:=kO.lt;have P1:=hid (fun (wx:World) (hx:Ext wr wx)=>power_any s1 a1 n1 c1 z1 m (by have:=Hlt.out;have:=Hn.out;omega) wx (H1.out.ext (Hx.out.trans hx)) K HB.out.hK HB.out.f1 (fun i hi=>HB.out.p1 i (by have:=Hlt.out;omega)));have P2:=hid (fun (wx:World) (hx:Ext wr wx)=>power_any s2 a2 n2 c2 z2 (n-m) (by have:=Hlt.out;have:=Hn.out;omega) wx (H2.out.ext (Hx.out.trans hx)) K HB.out.hK HB.out.f2 (fun i hi=>HB.out.p2 i (by have:=Hlt.out;omega)));have F1:=hid (HB.out.p1 m Hlt.out);have F2:=hid (HB.out.p2 (n-m) (by have:=Hlt.out;omega));have K':=HB.out.hK;clear kO
  go_cut [9] from 22 to 32 (fun s9 wx=>∃ U,U=wx/\∃ G,s9=.pointer (some ⟨G,0,none⟩)/\VarI U G (z1 ^ m*z2 ^ (n-m))/\wr.heap.size<=G/\Ext wr U)
  case first =>
   have HSj:=Lh (fun (w':World) (hx:Ext wr w')=>(show w'.cell? ⟨H,0,none⟩=some (.int .i64 s1)/\w'.cell? ⟨H,1,none⟩=some (.slice a1 n1 c1)/\w'.cell? ⟨H,2,none⟩=some (.int .i64 s2)/\w'.cell? ⟨H,3,none⟩=some (.slice a2 n2 c2) from ⟨cell_ext m0 hx,cell_ext m1 hx,cell_ext m2 hx,cell_ext m3 hx⟩));clear m0 m1 m2 m3;have G_:Ext wr wr.drew:=Below.drew (Ext.refl _);refine wp_region_K 12 (fun w'=>w'.cell? ⟨H,0,none⟩=some (.int .i64 s1)/\w'.cell? ⟨H,1,none⟩=some (.slice a1 n1 c1)/\w'.cell? ⟨H,2,none⟩=some (.int .i64 s2)/\w'.cell? ⟨H,3,none⟩=some (.slice a2 n2 c2)) (by kernel_rfl) ?_
   show anyK _ _ _ _ _ _ 13 #[false,false,false,false,false,false,false,false,false,false,false,false,false] _ _
   refine kT 0 13 (v:=?_) rfl (Or.inl ⟨by rfl,?_⟩) (HSj.out _ G_) ?_;rotate_left 1
   ·intro w hSw
    go_simp
    try with_reducible rfl
   show anyK _ _ _ _ _ _ _ _ (Act.put _ (some 22) _) _
   simp only [Act.put,sx0,sx1,sx2];refine kT 1 13 (v:=?_) rfl (Or.inl ⟨by rfl,?_⟩) (HSj.out _ G_) ?_;rotate_left 1
   ·intro w hSw
    go_simp
    try with_reducible rfl
   show anyK _ _ _ _ _ _ _ _ (Act.put _ (some 23) _) _
   simp only [Act.put,sx0,sx1,sx2];refine kT 2 13 (v:=?_) rfl (Or.inl ⟨by rfl,?_⟩) (HSj.out _ G_) ?_;rotate_left 1
   ·intro w hSw
    go_simp
    try with_reducible rfl
   show anyK _ _ _ _ _ _ _ _ (Act.put _ (some 24) _) _
   simp only [Act.put,sx0,sx1,sx2];refine kT 4 13 (v:=?_) rfl (Or.inl ⟨by rfl,?_⟩) (HSj.out _ G_) ?_;rotate_left 1
   ·intro w hSw
    go_simp
    try with_reducible rfl
   show anyK _ _ _ _ _ _ _ _ (Act.put _ (some 26) _) _
   simp only [Act.put,sx0,sx1,sx2];refine kT 5 13 (v:=?_) rfl (Or.inl ⟨by rfl,?_⟩) (HSj.out _ G_) ?_;rotate_left 1
   ·intro w hSw
    go_simp
    try with_reducible rfl
   show anyK _ _ _ _ _ _ _ _ (Act.put _ (some 27) _) _
   simp only [Act.put,sx0,sx1,sx2];refine kT 6 13 (v:=?_) rfl (Or.inl ⟨by rfl,?_⟩) (HSj.out _ G_) ?_;rotate_left 1
   ·intro w hSw
    go_simp
    try with_reducible rfl
   show anyK _ _ _ _ _ _ _ _ (Act.put _ (some 28) _) _
   simp only [Act.put,sx0,sx1,sx2];refine kT 7 13 (v:=?_) rfl (Or.inl ⟨by rfl,?_⟩) (HSj.out _ G_) ?_;rotate_left 1
   ·intro w hSw
    go_simp
    try with_reducible rfl
   show anyK _ _ _ _ _ _ _ _ (Act.put _ (some 29) _) _
   simp only [Act.put,sx0,sx1,sx2];refine kT 8 13 (v:=?_) rfl (Or.inl ⟨by rfl,?_⟩) (HSj.out _ G_) ?_;rotate_left 1
   ·intro w hSw
    go_simp
    try with_reducible rfl
   show anyK _ _ _ _ _ _ _ _ (Act.put _ (some 30) _) _
   simp only [Act.put,sx0,sx1,sx2]
   try rw [wk2]
   refine anyK_pairC (i:=3) (j:=11) (by kernel_rfl) rfl rfl (fun Kk hKk=>?_) (fun Kk hKk=>?_)
   ·go_simp
    (go_at_call 61;refine (P1.out _ G_).mono ?_;rintro e wC0 ⟨sv0,ov0,mv0,jv0,rfl,Kv0,hy⟩)
    have EI0:Ext wr wC0:=(G_).trans hy;clear hy
    go_wp2_with fail
    refine hKk.out _ _ (fun _=>HSj.out _ EI0) ?_;clear hKk Kk;simp only [sx0,sx1,sx2];refine anyK_pairC (i:=9) (j:=11) (by kernel_rfl) rfl rfl (fun Kk hKk=>?_) (fun Kk hKk=>?_)
    ·go_simp
     (go_at_call 61;refine (P2.out _ EI0).mono ?_;rintro e wC1 ⟨sv1,ov1,mv1,jv1,rfl,Kv1,hy⟩)
     have EI1:Ext wr wC1:=(EI0).trans hy;have Kv0:=Kv0.ext hy;clear hy
     go_wp2_with fail
     refine hKk.out _ _ (fun _=>HSj.out _ EI1) ?_;clear hKk Kk;simp only [sx0,sx1,sx2];refine anyK_pairC (i:=10) (j:=11) (by kernel_rfl) rfl rfl (fun Kk hKk=>?_) (fun Kk hKk=>?_)
     ·go_simp
      (go_at_call 59;refine (Mul_any sv0 sv1 ov0 ov1 mv0 jv0 mv1 jv1 (z1 ^ m) (z2 ^ (n-m)) _ Kv0 Kv1 K K' F1.out F2.out).mono ?_;rintro e wC2 ⟨sv2,ov2,mv2,jv2,rfl,Kv2,hy⟩)
      have EI2:Ext wr wC2:=(EI1).trans hy;have Kv0:=Kv0.ext hy;have Kv1:=Kv1.ext hy;clear hy
      go_wp2_with fail
      refine hKk.out _ _ (fun _=>HSj.out _ EI2) ?_;clear hKk Kk;simp only [sx0,sx1,sx2];refine anyK_one (i:=11) (by kernel_rfl) rfl (fun Kk hKk=>?_);refine stepK_allocI rfl 9 rfl rfl ?_;refine hKk.out _ _ (fun _=>HSj.out _ (cthen EI2 _)) ?_;clear hKk Kk;obtain ⟨wA,hwA⟩:∃ V,(wC2).alloc (.cells #[.int .i64 0,.slice none 0 0] 54)=V:=⟨_,rfl⟩;obtain ⟨B9,hB9⟩:∃ B,(wC2).heap.size=B:=⟨_,rfl⟩
      have hy:Ext (wC2) wA:=by rw [<-hwA];exact ext_al _ _
      have r9:wA.heap[B9]?=some (.cells #[.int .i64 0,.slice none 0 0] 54 (0,0)):=by rw [<-hwA,<-hB9];exact heap_alloc_new _ _
      have s9:wr.heap.size<=B9:=by rw [<-hB9];exact (EI2).size
      have EA:Ext wr wA:=(EI2).trans hy
      show anyK _ _ _ _ _ _ _ _ (Act.put _ (some 9) _) _
      simp only [Act.put,sx0,sx1,sx2];rw [hwA,hB9];clear hwA hB9;have Kv0:=Kv0.ext hy;have Kv1:=Kv1.ext hy;have Kv2:=Kv2.ext hy;clear hy;refine anyK_one (i:=12) (by kernel_rfl) rfl (fun Kk hKk=>?_);refine stepK_storeRowC rfl rfl 54 _ _ rfl B9 #[.int .i64 sv2,.slice ov2 mv2 jv2] rfl rfl 54 _ r9 in_info rfl (by kernel_rfl) ?_;refine hKk.out _ _ (fun h=>Bool.noConfusion (show true=false from h)) ?_;clear hKk Kk;simp only [sx0,sx1,sx2];refine anyK_done (by kernel_rfl) ?_ _;have Hfin:=Lh (vari_put r9 Kv2);have Hfe:=Lh (ext_onlyC EA (setRow_onlyC wA B9 #[.int .i64 sv2,.slice ov2 mv2 jv2]) s9);generalize (wA).setRow B9 #[.int .i64 sv2,.slice ov2 mv2 jv2]=wZ at *
      go_wp2_with fail
      go_meet
      exact ⟨_,rfl,B9,rfl,Hfin.out,s9,Hfe.out⟩
     ·refine stepK_allocI rfl 9 rfl rfl ?_
      refine hKk.out _ _ (fun _=>HSj.out _ (cthen EI1 _)) ?_;clear hKk Kk;obtain ⟨wA,hwA⟩:∃ V,(wC1).alloc (.cells #[.int .i64 0,.slice none 0 0] 54)=V:=⟨_,rfl⟩;obtain ⟨B9,hB9⟩:∃ B,(wC1).heap.size=B:=⟨_,rfl⟩
      have hy:Ext (wC1) wA:=by rw [<-hwA];exact ext_al _ _
      have r9:wA.heap[B9]?=some (.cells #[.int .i64 0,.slice none 0 0] 54 (0,0)):=by rw [<-hwA,<-hB9];exact heap_alloc_new _ _
      have s9:wr.heap.size<=B9:=by rw [<-hB9];exact (EI1).size
      have EA:Ext wr wA:=(EI1).trans hy
      show anyK _ _ _ _ _ _ _ _ (Act.put _ (some 9) _) _
      simp only [Act.put,sx0,sx1,sx2];rw [hwA,hB9];clear hwA hB9;have Kv0:=Kv0.ext hy;have Kv1:=Kv1.ext hy;clear hy;refine anyK_one (i:=10) (by kernel_rfl) rfl (fun Kk hKk=>?_)
      go_simp
      (go_at_call 59;refine (Mul_any sv0 sv1 ov0 ov1 mv0 jv0 mv1 jv1 (z1 ^ m) (z2 ^ (n-m)) _ Kv0 Kv1 K K' F1.out F2.out).mono ?_;rintro e wC2 ⟨sv2,ov2,mv2,jv2,rfl,Kv2,hy⟩)
      have EI2:Ext wr wC2:=(EA).trans hy;have Kv0:=Kv0.ext hy;have Kv1:=Kv1.ext hy;have r9:=rowEC r9 hy;clear hy
      go_wp2_with fail
      refine hKk.out _ _ (fun _=>HSj.out _ EI2) ?_;clear hKk Kk;simp only [sx0,sx1,sx2];refine anyK_one (i:=12) (by kernel_rfl) rfl (fun Kk hKk=>?_);refine stepK_storeRowC rfl rfl 54 _ _ rfl B9 #[.int .i64 sv2,.slice ov2 mv2 jv2] rfl rfl 54 _ r9 in_info rfl (by kernel_rfl) ?_;refine hKk.out _ _ (fun h=>Bool.noConfusion (show true=false from h)) ?_;clear hKk Kk;simp only [sx0,sx1,sx2];refine anyK_done (by kernel_rfl) ?_ _;have Hfin:=Lh (vari_put r9 Kv2);have Hfe:=Lh (ext_onlyC EI2 (setRow_onlyC wC2 B9 #[.int .i64 sv2,.slice ov2 mv2 jv2]) s9);generalize (wC2).setRow B9 #[.int .i64 sv2,.slice ov2 mv2 jv2]=wZ at *
      go_wp2_with fail
      go_meet
      exact ⟨_,rfl,B9,rfl,Hfin.out,s9,Hfe.out⟩
    ·refine stepK_allocI rfl 9 rfl rfl ?_
     refine hKk.out _ _ (fun _=>HSj.out _ (cthen EI0 _)) ?_;clear hKk Kk;obtain ⟨wA,hwA⟩:∃ V,(wC0).alloc (.cells #[.int .i64 0,.slice none 0 0] 54)=V:=⟨_,rfl⟩;obtain ⟨B9,hB9⟩:∃ B,(wC0).heap.size=B:=⟨_,rfl⟩
     have hy:Ext (wC0) wA:=by rw [<-hwA];exact ext_al _ _
     have r9:wA.heap[B9]?=some (.cells #[.int .i64 0,.slice none 0 0] 54 (0,0)):=by rw [<-hwA,<-hB9];exact heap_alloc_new _ _
     have s9:wr.heap.size<=B9:=by rw [<-hB9];exact (EI0).size
     have EA:Ext wr wA:=(EI0).trans hy
     show anyK _ _ _ _ _ _ _ _ (Act.put _ (some 9) _) _
     simp only [Act.put,sx0,sx1,sx2];rw [hwA,hB9];clear hwA hB9;have Kv0:=Kv0.ext hy;clear hy;refine anyK_one (i:=9) (by kernel_rfl) rfl (fun Kk hKk=>?_)
     go_simp
     (go_at_call 61;refine (P2.out _ EA).mono ?_;rintro e wC1 ⟨sv1,ov1,mv1,jv1,rfl,Kv1,hy⟩)
     have EI1:Ext wr wC1:=(EA).trans hy;have Kv0:=Kv0.ext hy;have r9:=rowEC r9 hy;clear hy
     go_wp2_with fail
     refine hKk.out _ _ (fun _=>HSj.out _ EI1) ?_;clear hKk Kk;simp only [sx0,sx1,sx2];refine anyK_one (i:=10) (by kernel_rfl) rfl (fun Kk hKk=>?_)
     go_simp
     (go_at_call 59;refine (Mul_any sv0 sv1 ov0 ov1 mv0 jv0 mv1 jv1 (z1 ^ m) (z2 ^ (n-m)) _ Kv0 Kv1 K K' F1.out F2.out).mono ?_;rintro e wC2 ⟨sv2,ov2,mv2,jv2,rfl,Kv2,hy⟩)
     have EI2:Ext wr wC2:=(EI1).trans hy;have Kv0:=Kv0.ext hy;have Kv1:=Kv1.ext hy;have r9:=rowEC r9 hy;clear hy
     go_wp2_with fail
     refine hKk.out _ _ (fun _=>HSj.out _ EI2) ?_;clear hKk Kk;simp only [sx0,sx1,sx2];refine anyK_one (i:=12) (by kernel_rfl) rfl (fun Kk hKk=>?_);refine stepK_storeRowC rfl rfl 54 _ _ rfl B9 #[.int .i64 sv2,.slice ov2 mv2 jv2] rfl rfl 54 _ r9 in_info rfl (by kernel_rfl) ?_;refine hKk.out _ _ (fun h=>Bool.noConfusion (show true=false from h)) ?_;clear hKk Kk;simp only [sx0,sx1,sx2];refine anyK_done (by kernel_rfl) ?_ _;have Hfin:=Lh (vari_put r9 Kv2);have Hfe:=Lh (ext_onlyC EI2 (setRow_onlyC wC2 B9 #[.int .i64 sv2,.slice ov2 mv2 jv2]) s9);generalize (wC2).setRow B9 #[.int .i64 sv2,.slice ov2 mv2 jv2]=wZ at *
     go_wp2_with fail
     go_meet
     exact ⟨_,rfl,B9,rfl,Hfin.out,s9,Hfe.out⟩
   ·refine stepK_allocI rfl 9 rfl rfl ?_
    refine hKk.out _ _ (fun _=>HSj.out _ (cthen G_ _)) ?_;clear hKk Kk;obtain ⟨wA,hwA⟩:∃ V,(wr.drew).alloc (.cells #[.int .i64 0,.slice none 0 0] 54)=V:=⟨_,rfl⟩;obtain ⟨B9,hB9⟩:∃ B,(wr.drew).heap.size=B:=⟨_,rfl⟩
    have hy:Ext (wr.drew) wA:=by rw [<-hwA];exact ext_al _ _
    have r9:wA.heap[B9]?=some (.cells #[.int .i64 0,.slice none 0 0] 54 (0,0)):=by rw [<-hwA,<-hB9];exact heap_alloc_new _ _
    have s9:wr.heap.size<=B9:=by rw [<-hB9];exact (G_).size
    have EA:Ext wr wA:=(G_).trans hy
    show anyK _ _ _ _ _ _ _ _ (Act.put _ (some 9) _) _
    simp only [Act.put,sx0,sx1,sx2];rw [hwA,hB9];clear hwA hB9;clear hy;refine anyK_one (i:=3) (by kernel_rfl) rfl (fun Kk hKk=>?_)
    go_simp
    (go_at_call 61;refine (P1.out _ EA).mono ?_;rintro e wC0 ⟨sv0,ov0,mv0,jv0,rfl,Kv0,hy⟩)
    have EI0:Ext wr wC0:=(EA).trans hy;have r9:=rowEC r9 hy;clear hy
    go_wp2_with fail
    refine hKk.out _ _ (fun _=>HSj.out _ EI0) ?_;clear hKk Kk;simp only [sx0,sx1,sx2];refine anyK_one (i:=9) (by kernel_rfl) rfl (fun Kk hKk=>?_)
    go_simp
    (go_at_call 61;refine (P2.out _ EI0).mono ?_;rintro e wC1 ⟨sv1,ov1,mv1,jv1,rfl,Kv1,hy⟩)
    have EI1:Ext wr wC1:=(EI0).trans hy;have Kv0:=Kv0.ext hy;have r9:=rowEC r9 hy;clear hy
    go_wp2_with fail
    refine hKk.out _ _ (fun _=>HSj.out _ EI1) ?_;clear hKk Kk;simp only [sx0,sx1,sx2];refine anyK_one (i:=10) (by kernel_rfl) rfl (fun Kk hKk=>?_)
    go_simp
    (go_at_call 59;refine (Mul_any sv0 sv1 ov0 ov1 mv0 jv0 mv1 jv1 (z1 ^ m) (z2 ^ (n-m)) _ Kv0 Kv1 K K' F1.out F2.out).mono ?_;rintro e wC2 ⟨sv2,ov2,mv2,jv2,rfl,Kv2,hy⟩)
    have EI2:Ext wr wC2:=(EI1).trans hy;have Kv0:=Kv0.ext hy;have Kv1:=Kv1.ext hy;have r9:=rowEC r9 hy;clear hy
    go_wp2_with fail
    refine hKk.out _ _ (fun _=>HSj.out _ EI2) ?_;clear hKk Kk;simp only [sx0,sx1,sx2];refine anyK_one (i:=12) (by kernel_rfl) rfl (fun Kk hKk=>?_);refine stepK_storeRowC rfl rfl 54 _ _ rfl B9 #[.int .i64 sv2,.slice ov2 mv2 jv2] rfl rfl 54 _ r9 in_info rfl (by kernel_rfl) ?_;refine hKk.out _ _ (fun h=>Bool.noConfusion (show true=false from h)) ?_;clear hKk Kk;simp only [sx0,sx1,sx2];refine anyK_done (by kernel_rfl) ?_ _;have Hfin:=Lh (vari_put r9 Kv2);have Hfe:=Lh (ext_onlyC EI2 (setRow_onlyC wC2 B9 #[.int .i64 sv2,.slice ov2 mv2 jv2]) s9);generalize (wC2).setRow B9 #[.int .i64 sv2,.slice ov2 mv2 jv2]=wZ at *
    go_wp2_with fail
    go_meet
    exact ⟨_,rfl,B9,rfl,Hfin.out,s9,Hfe.out⟩
  case rest =>
  obtain ⟨U,rfl,G,rfl,⟨s9,a9,n9,c9,b9,i9⟩,hG,hE9⟩:=hcut;have bS:=Hb4.out.ext hE9;have m0:=bS.c0;have m1:=bS.c1;have m2:=b9.c0;have m3:=b9.c1;have HSum:=hid (Hi4.out.ext hE9);have HI9:=hid i9;have HbS:=hid bS;have HEU:=hid hE9;have hcm:=HB.out.c64 m;have HOf:=hid (fun wx=>(Of_any (cnt m:Int) (by omega) (by omega) wx).mono (R':=IRet wx (cnt m:Int)) fun _ _ ⟨h1,h2,h3⟩=>⟨_,_,_,_,h1,h2,h3⟩);have FC:=hid (HB.out.fc m Hlt.out);have FG:=hid (HB.out.fg m Hlt.out);have FX:=hid (HB.out.fx m Hlt.out);have FS:=hid (HB.out.fs m Hm.out);have K':=HB.out.hK;have HwH:=hid (show w.heap.size<=H+1+1 by have:=HH.out;omega);clear bS b9 i9 hG hE9 hcm
  go_upto_region 7 with fail
  have HSj:=Lh (fun (w':World) (hx:Ext U w')=>(show w'.cell? ⟨H+1+1,0,none⟩=some (.int .i64 s4)/\w'.cell? ⟨H+1+1,1,none⟩=some (.slice a4 n4 c4)/\w'.cell? ⟨G,0,none⟩=some (.int .i64 s9)/\w'.cell? ⟨G,1,none⟩=some (.slice a9 n9 c9) from ⟨cell_ext m0 hx,cell_ext m1 hx,cell_ext m2 hx,cell_ext m3 hx⟩));clear m0 m1 m2 m3;have G_:Ext U U.drew:=Below.drew (Ext.refl _);refine wp_region_K 6 (fun w'=>w'.cell? ⟨H+1+1,0,none⟩=some (.int .i64 s4)/\w'.cell? ⟨H+1+1,1,none⟩=some (.slice a4 n4 c4)/\w'.cell? ⟨G,0,none⟩=some (.int .i64 s9)/\w'.cell? ⟨G,1,none⟩=some (.slice a9 n9 c9)) (by kernel_rfl) ?_
  show anyK _ _ _ _ _ _ 7 #[false,false,false,false,false,false,false] _ _
  refine kT 0 7 (v:=?_) rfl (Or.inl ⟨by rfl,?_⟩) (HSj.out _ G_) ?_;rotate_left 1
  ·intro w hSw
   go_simp
   try with_reducible rfl
  show anyK _ _ _ _ _ _ _ _ (Act.put _ (some 33) _) _
  simp only [Act.put,sx0,sx1,sx2];refine kT 1 7 (v:=?_) rfl (Or.inl ⟨by rfl,?_⟩) (HSj.out _ G_) ?_;rotate_left 1
  ·intro w hSw
   go_simp
   try with_reducible rfl
  show anyK _ _ _ _ _ _ _ _ (Act.put _ (some 34) _) _
  simp only [Act.put,sx0,sx1,sx2];refine kT 3 7 (v:=?_) rfl (Or.inl ⟨by rfl,?_⟩) (HSj.out _ G_) ?_;rotate_left 1
  ·intro w hSw
   go_simp
   try with_reducible rfl
  show anyK _ _ _ _ _ _ _ _ (Act.put _ (some 36) _) _
  simp only [Act.put,sx0,sx1,sx2];refine anyK_one (i:=2) (by kernel_rfl) rfl (fun Kk hKk=>?_)
  go_simp
  (go_at_call 56;refine (HOf.out _).mono ?_;rintro e wC0 ⟨sv0,ov0,mv0,jv0,rfl,Kv0,hy⟩)
  have EI0:Ext U wC0:=(G_).trans hy;clear hy
  go_wp2_with fail
  refine hKk.out _ _ (fun _=>HSj.out _ EI0) ?_;clear hKk Kk;simp only [sx0,sx1,sx2];refine anyK_one (i:=4) (by kernel_rfl) rfl (fun Kk hKk=>?_)
  go_simp
  (go_at_call 59;refine (Mul_any sv0 s9 ov0 a9 mv0 jv0 n9 c9 (cnt m:Int) (z1 ^ m*z2 ^ (n-m)) _ Kv0 (HI9.out.ext EI0) K K' FC.out FG.out).mono ?_;rintro e wC1 ⟨sv1,ov1,mv1,jv1,rfl,Kv1,hy⟩)
  have EI1:Ext U wC1:=(EI0).trans hy;have Kv0:=Kv0.ext hy;clear hy
  go_wp2_with fail
  refine hKk.out _ _ (fun _=>HSj.out _ EI1) ?_;clear hKk Kk;simp only [sx0,sx1,sx2];refine anyK_one (i:=5) (by kernel_rfl) rfl (fun Kk hKk=>?_)
  go_simp
  (go_at_call 62;refine (Add_any s4 sv1 a4 ov1 n4 c4 mv1 jv1 (gsm cnt z1 z2 n m) (cnt m*(z1 ^ m*z2 ^ (n-m))) _ (HSum.out.ext EI1) Kv1 K K' FS.out FX.out).mono ?_;rintro e wC2 ⟨sv2,ov2,mv2,jv2,rfl,Kv2,hy⟩)
  have EI2:Ext U wC2:=(EI1).trans hy;have Kv0:=Kv0.ext hy;have Kv1:=Kv1.ext hy;clear hy
  go_wp2_with fail
  refine hKk.out _ _ (fun _=>HSj.out _ EI2) ?_;clear hKk Kk;simp only [sx0,sx1,sx2];refine anyK_one (i:=6) (by kernel_rfl) rfl (fun Kk hKk=>?_);have rS:=rowEC HbS.out.row EI2;refine stepK_storeRowC rfl rfl 54 _ _ rfl (H+1+1) #[.int .i64 sv2,.slice ov2 mv2 jv2] rfl rfl 54 _ rS in_info rfl (by kernel_rfl) ?_;refine hKk.out _ _ (fun h=>Bool.noConfusion (show true=false from h)) ?_;clear hKk Kk;simp only [sx0,sx1,sx2];refine anyK_done (by kernel_rfl) ?_ _;rw [gsm_step Hlt.out] at Kv2;have Hfin:=Lh (vari_put rS Kv2);have hO:=setRow_onlyC wC2 (H+1+1) #[.int .i64 sv2,.slice ov2 mv2 jv2];have EE:=HEU.out.trans EI2;have Hfe:=Lh (ext_onlyC (Hx.out.trans EE) hO HwH.out);have Hfo:=Lh ((HbO.out.ext EE).only hO (by omega));have Hfq:=Lh ((HbR.out.ext EE).onlyI hO (by omega));clear hO EE rS;generalize (wC2).setRow (H+1+1) #[.int .i64 sv2,.slice ov2 mv2 jv2]=wZ at *
  go_wp2_with fail
  go_roundg (n+1-(m+1))
  case measure=>have:=Hkk.out;have:=Hlt.out;omega
  case rel=>exact ⟨m+1,rfl,by have:=Hlt.out;omega,rfl,Hfin.out,Hfo.out,Hfq.out,Hfe.out⟩
end Go.Proofs.YtjfomkoedgipjaaGreatDoor
