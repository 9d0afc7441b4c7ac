/-
  The program: norm: the sum of the squares of a wave's amplitudes. The program: Chance. The reference: products.
-/
import Derived.Test.YtfjnlopbmkimiaaGreatDoorS26Xj
namespace Go.Proofs.YtfjnlopbmkimiaaGreatDoor
set_option maxRecDepth 100000
set_option maxHeartbeats 8000000
open Go.RowKit
structure PSt (w wr:World) (H:Nat) (ca:Array Value) (x:Nm) (P E:Nat):Prop where
 row:wr.heap[H+1]?=some (.cells ca 78 (0,0))
 val:NmA wr ca x P E
 res:Nums wr H 9 78 (fun _=>0)
 ext:Ext w wr
theorem PSt.more {w wr w':World} {H:Nat} {ca:Array Value} {x:Nm} {P E:Nat} (h:PSt w wr H ca x P E) (k:Ext wr w'):PSt w w' H ca x P E :=
 ⟨(k.block _ (gS.1 h.row).1).trans h.row,h.val.ext k,h.res.ext k,h.ext.trans k⟩
theorem PSt.put {w wr:World} {H:Nat} {ca:Array Value} {x:Nm} {P E:Nat} (h:PSt w wr H ca x P E) {cr:Array Value} {z:Nm} (hz:NmA wr cr z P E) (hw:w.heap.size<=H+1):PSt w (wr.setRow (H+1) cr) H cr z P E:=by
 obtain ⟨_,ch,rr⟩:=hz.val.setRow (show Nums wr (H+1) 9 78 (nmF x) from h.val.val.nums h.row);exact ⟨rr,hz.keep64 ch.keep,h.res.chg ch (by omega),ch.ext h.ext hw⟩
theorem norm_any (b n cp:Nat) (s:Nat->Nm) (N:Nat) (w:World) (h:WvA w b n s N) (hn:n<=4096) (hN:N<=10000) (hbr:Bru w) :
  Calls Tryz.prog 27 #[.slice (some ⟨b,0,none⟩) n cp] w fun e w'=>∃ cr:Array Value,e=.returned (.agg cr)/\NmA w' cr (nS s n) (4*N+18) (N+N)/\Ext w w':=by
 obtain ⟨H,hH⟩:∃ H,w.heap.size=H:=⟨_,rfl⟩;obtain ⟨U,hU⟩:∃ U,(w.alloc (.cells zero9 78)).alloc (.cells zero9 78)=U:=⟨_,rfl⟩
 have E0:Ext w U:=by rw [<-hU];exact (ext_alloc _ _).trans (ext_alloc _ _)
 have z0:Nums U H 9 78 (fun _=>0):=by
  have:=((cells_zero9 w).box 78).ext (ext_alloc _ (.cells zero9 78));rw [<-hU,<-hH];exact this
 have r1:U.heap[H+1]?=some (.cells zero9 78 (0,0)):=by
  have:=heap_alloc_new (w.alloc (.cells zero9 78)) (.cells zero9 78);rw [World.size_alloc] at this;rw [<-hU,<-hH];exact this
 have HG0:=Lh (show PSt w U H zero9 (nS s 0) (4*N+18) (N+N) from ⟨r1,nm_zero9 _ _ _,z0,E0⟩);have Hh:=Lh h;have HN:=Lh hN;have Hbr:=Lh hbr;have Hn:=Lh hn;have HH:=Lh hH;have HU:=Lh hU;clear h hN hbr hn hH hU E0 z0 r1
 go_enter Tryz.func27,Tryz.ntmps27
 go_upto_region 2 with fail
 rw [HU.out,HH.out];clear HU
 go_wp2_with fail
 go_loopg [5,8] n (fun kk _ sx wr=>∃ i:Nat,sx=.int .i64 (i:Int)/\i<=n/\n-i=kk/\∃ ca,PSt w wr H ca (nS s i) (4*N+18) (N+N))
 case atStart=>exact ⟨0,rfl,Nat.zero_le _,rfl,_,HG0.out⟩
 case round =>
  obtain ⟨i,rfl,hi,hk,ca,hG⟩:=hrel;clear HG0;have HG:=Lh hG;have Hk:=Lh hk;clear hG hk
  by_cases hin:i=n
  ·have q1:¬ (i:Int)<(n:Int):=by omega
   have hrow:=HG.out.row;have hica:=HG.out.val.info;obtain ⟨c1,hr1,hs1,hone,hinf,rr,hN',hE⟩:=fin_num (w:=w) HG.out.val HG.out.res HG.out.ext (by rw [HH.out];exact Nat.le_refl _);have Hend:=Lh (show NmA (wr.setRow H ca) ca (nS s n) (4*N+18) (N+N)/\Ext w (wr.setRow H ca) from ⟨by rw [<-hin];exact hN',hE⟩);clear hin hi hN' hE HG
   go_wp2_with (first | refine wpList_load_row rfl 78 _ rfl (H+1) rfl 78 _ (0,0) _ hrow Tryz.underlying78 rfl hica ?_ | refine wpList_store_row rfl 78 _ _ rfl H ca rfl rfl 78 _ hr1 hinf hs1 hone ?_)
   refine bodyPost_ret (v:=.agg ca) ?_ rfl ⟨_,rfl,Hend.out⟩;exact results_cell_row rfl _ _ H _ _ _ _ rfl rr Tryz.underlying78 rfl hinf
  have hlt:i<n:=by omega
  have q1:(i:Int)<(n:Int):=by omega
  have q0:(0:Int)<=(i:Int):=by omega
  have wk:IntKind.i64.wrap ((i:Int)+1)=((i+1:Nat):Int):=by rw [IntKind.wrap_i64];have:=Hn.out;omega
  obtain ⟨p,y0,_,hp⟩:=(Hh.out.ext HG.out.ext).at'.get hlt;have Hlt:=Lh hlt;clear hin hi hlt
  rcases hp with ⟨rfl,hz⟩ | ⟨g,c,rfl,hr,hNm,hz⟩
  ·have HG1:=Lh (show PSt w wr H ca (nS s (i+1)) (4*N+18) (N+N) by rw [nS_nought hz];exact HG.out)
   clear hz HG
   go_wp2_with fail
   go_roundg (n-(i+1))
   case measure=>have:=Hk.out;have:=Hlt.out;omega
   case rel=>exact ⟨i+1,rfl,Hlt.out,rfl,_,HG1.out⟩
  have hinf:=hNm.info;have hica:=HG.out.val.info;have Hrow:=Lh HG.out.row;have lG:=(gS.1 HG.out.row).1;have lg:=(gS.1 hr).1;have HNr:=Lh (fun (wx:World) (hx:Ext wr wx)=>RNorm_nm c (s i) _ _ wx (hNm.ext hx) 2000 (by decide) (by have:=HN.out;omega) (by have:=HN.out;omega) (bru_ext Hbr.out (HG.out.ext.trans hx)));have HAd:=Lh (fun (wx:World) (hx:Ext wr wx) (cn:Array Value) (zq:Nm) (hn:NmA wx cn zq (2*N+1+(2*N+1)+6) (N+N))=>RAdd_nm ca cn _ zq _ _ _ _ wx (HG.out.val.ext hx) hn 2000 (by decide) (by have:=HN.out;omega) (by have:=HN.out;omega) (bru_ext Hbr.out (HG.out.ext.trans hx)));clear hz hNm
  go_upto_region 6 with fail
  have hd0:Ext wr wr.drew:=Below.drew (Ext.refl _);clear y0;refine wp_region_K 6 (fun w'=>w'.heap[H+1]?=some (.cells ca 78 (0,0))/\w'.heap[g]?=some (.cells c 78 (0,0))) (by kernel_rfl) ?_
  show anyK _ _ _ _ _ _ 7 #[false,false,false,false,false,false,false] _ _
  have hHeld:wr.drew.heap[H+1]?=some (.cells ca 78 (0,0))/\wr.drew.heap[g]?=some (.cells c 78 (0,0)):=⟨(hd0.block _ lG).trans Hrow.out,(hd0.block _ lg).trans hr⟩;refine kT 0 7 (v:=.agg ca) rfl (Or.inl ⟨by rfl,fun _ h=>exec_load_row 78 _ rfl (H+1) rfl 78 _ (0,0) _ h.1 Tryz.underlying78 rfl hica⟩) hHeld ?_
  show anyK _ _ _ _ _ _ _ _ (Act.put _ (some 14) _) _
  simp only [Act.put,sx0,sx1,sx2];refine kT 1 7 (v:=?_) rfl (Or.inl ⟨by rfl,?_⟩) hHeld ?_;rotate_left 1
  ·intro w hSw
   go_simp
   try with_reducible rfl
  show anyK _ _ _ _ _ _ _ _ (Act.put _ (some 15) _) _
  simp only [Act.put,sx0,sx1,sx2];refine kT 2 7 (v:=?_) rfl (Or.inl ⟨by rfl,?_⟩) hHeld ?_;rotate_left 1
  ·intro w hSw
   go_simp
   try with_reducible rfl
  show anyK _ _ _ _ _ _ _ _ (Act.put _ (some 16) _) _
  simp only [Act.put,sx0,sx1,sx2];refine kT 3 7 (v:=.agg c) rfl (Or.inl ⟨by rfl,fun _ h=>exec_load_row 78 _ rfl g rfl 78 _ (0,0) _ h.2 Tryz.underlying78 rfl hinf⟩) hHeld ?_
  show anyK _ _ _ _ _ _ _ _ (Act.put _ (some 17) _) _
  simp only [Act.put,sx0,sx1,sx2];clear hHeld;refine anyK_one (i:=4) (by kernel_rfl) rfl (fun Kk hKk=>?_)
  go_simp
  (go_at_call 56;refine (HNr.out wr.drew hd0).mono ?_;rintro e w2 ⟨cn,zq,rfl,hcn,hq,hx2⟩)
  have he2:=hd0.trans hx2
  go_wp2_with fail
  refine hKk.out _ _ (fun _=>⟨(he2.block _ lG).trans Hrow.out,(he2.block _ lg).trans hr⟩) ?_;clear hKk Kk;simp only [sx0,sx1,sx2]
  skip
  refine anyK_one (i:=5) (by kernel_rfl) rfl (fun Kk hKk=>?_)
  go_simp
  (go_at_call 55;refine (HAd.out w2 he2 cn zq hcn).mono ?_;rintro e w3 ⟨cr,z,rfl,hcr,hy,hx3⟩)
  have he3:=he2.trans hx3
  go_wp2_with fail
  refine hKk.out _ _ (fun _=>⟨(he3.block _ lG).trans Hrow.out,(he3.block _ lg).trans hr⟩) ?_;clear hKk Kk;simp only [sx0,sx1,sx2];have hzz:z=nS s (i+1):=lw_one hcr.low (hy.trans (EqN.add (EqN.refl _) hq))
  have hz:NmA w3 cr (nS s (i+1)) (4*N+18) (N+N):=by
   rw [hzz] at hcr;exact ⟨hcr.anti,hcr.low,fun k=>nS_bound Hh.out.amp (by have:=Hlt.out;have:=Hn.out;omega) k,(nS_size Hh.out.amp (i+1)).1,hcr.val⟩
  have HG4:=Lh ((HG.out.more he3).put hz (by rw [HH.out];omega))
  have hr3:=(HG.out.more he3).row;have hinf3:=hz.info;have hone:=hz.val.one;have hszz:ca.size=cr.size:=by rw [hz.size,HG.out.val.size]
  refine anyK_one (i:=6) (by kernel_rfl) rfl (fun Kk hKk=>?_);refine stepK_storeR rfl rfl 78 _ _ rfl (H+1) cr rfl rfl 78 _ hr3 hinf3 hszz hone ?_;refine hKk.out _ _ (fun h=>Bool.noConfusion (show true=false from h)) ?_;clear hKk Kk;simp only [sx0,sx1,sx2];refine anyK_done (by kernel_rfl) ?_ _;clear hr3 hinf3 hone hszz hz hzz hy hq hcr hcn he3 he2 hd0 hx2 hx3 HG Hrow lG lg hr hinf hica HNr HAd;generalize w3.setRow (H+1) cr=w4 at *
  go_wp2_with fail
  go_roundg (n-(i+1))
  case measure=>have:=Hk.out;have:=Hlt.out;omega
  case rel=>exact ⟨i+1,rfl,Hlt.out,rfl,_,HG4.out⟩
noncomputable def chT (c:Gci) (x:Int) (want:List Int):List UInt8:=if (shoF c x want).1=0 then rtx (nmF (nS (shoR c x want).s (2 ^ c.qubits.toNat))) else []
theorem shoF_small {c:Gci} {x:Int} {want:List Int} (h0:(shoF c x want).1=0):2 ^ c.qubits.toNat<=4096:=by
 have h1:(chk c).1=0:=by
  unfold shoF stF at h0
  by_cases hc:(chk c).1=0
  ·exact hc
  ·rw [if_pos hc,if_pos hc] at h0
   exact absurd h0 hc
 obtain ⟨_,_,h2,_⟩:=chk_zero h1;exact Nat.le_trans (Nat.pow_le_pow_right (by decide) (show c.qubits.toNat<=12 by omega)) (by decide)
theorem shoF_second {c:Gci} {x:Int} {want:List Int} (h0:(shoF c x want).1=0):(shoF c x want).2=0:=by
 unfold shoF at h0 ⊢
 by_cases hc:(stF c x).1=0
 ·rw [if_neg (by simp [hc])] at h0 ⊢
  exact plM_zero want _ _ _ _ _ h0
 ·rw [if_pos hc] at h0
  exact absurd h0 hc
theorem Chance_any (c:Gci) (ao:Option Addr) (n cp:Nat) (x:Int) (ta:Option Addr) (tn tc:Nat) (want:List Int) (w:World) (h:OpsAt w ao n c.ops) (hn:n<=cp) (hcp:cp<=9223372036854775807) (hT:IntsAt w ta tn want) (hS:Shp w) (hbr:Bru w) (hTen:Ten w) :
  Calls Tryz.prog 12 #[.agg #[.int .i64 c.qubits,.int .i64 c.bits,.slice ao n cp],.int .i64 x,.slice ta tn tc] w fun e w'=>e=.returned (.tuple #[.string ⟨(chT c x want).toArray⟩,.agg #[.int .i64 (shoF c x want).1,.int .i64 (shoF c x want).2]])/\Ext w w':=by
 have hq4:(shoF c x want).1=0->2 ^ c.qubits.toNat<=4096:=shoF_small;have hf1z:(shoF c x want).1=0->(shoF c x want).2=0:=shoF_second;have hch:chT c x want=if (shoF c x want).1=0 then rtx (nmF (nS (shoR c x want).s (2 ^ c.qubits.toNat))) else []:=rfl;obtain ⟨T,hTx⟩:∃ T,chT c x want=T:=⟨_,rfl⟩;obtain ⟨F,hF⟩:∃ F,shoF c x want=F:=⟨_,rfl⟩;obtain ⟨F0,F1⟩:=F;obtain ⟨M,hM⟩:∃ M,shoR c x want=M:=⟨_,rfl⟩;obtain ⟨m,hm⟩:∃ m,2 ^ c.qubits.toNat=m:=⟨_,rfl⟩;rw [hF,hm] at hq4;rw [hF] at hf1z;rw [hTx,hF,hM,hm] at hch;simp only at hq4 hf1z hch;obtain ⟨H,hH⟩:∃ H,w.heap.size=H:=⟨_,rfl⟩;obtain ⟨W,hW⟩:∃ W,(w.alloc (.cells #[.int .i64 c.qubits,.int .i64 c.bits,.slice ao n cp] 24)).alloc (.cells #[.int .i64 0,.int .i64 0] 31)=W:=⟨_,rfl⟩
 have E0:Ext w W:=by rw [<-hW];exact (ext_al w _).trans (ext_al _ _)
 have bCi:CiB W H c.qubits c.bits ao n cp:=by rw [<-hW,<-hH];exact CiB.ext ⟨heap_alloc_new w _⟩ (ext_al _ _)
 have bF:FtB W (H+1) 0 0:=⟨by
  have h1:=heap_alloc_new (w.alloc (.cells #[.int .i64 c.qubits,.int .i64 c.bits,.slice ao n cp] 24)) (.cells #[.int .i64 0,.int .i64 0] 31);rw [World.size_alloc] at h1
  rw [<-hW,<-hH];exact h1⟩
 have m0:=bCi.x0;have m1:=bCi.x1;have m2:=bCi.x2;have HP:=Lh (play_any c ao n cp x ta tn tc want W (h.ext E0) hn hcp (hT.ext E0) (hS.ext E0) (bru_ext hbr E0));rw [hF,hM,hm] at HP;rw [hF,hTx];obtain ⟨qb,bi,ops⟩:=c;simp only at m0 m1 m2 HP hW ⊢;have HE0:=Lh E0;have HH:=Lh hH;have HW:=Lh hW;have HbF:=Lh bF;have HTen:=Lh (tab_ext hTen E0);have HBru:=Lh (bru_ext hbr E0);have Hq4:=Lh hq4;have Hf1z0:=Lh hf1z;have Hch:=Lh hch;have HwH:=Lh (show w.heap.size<=H by omega);clear h hT hS hbr hTen hF hM hm hH hW E0 bCi bF hq4 hf1z hTx hch
 go_enter Tryz.func12,Tryz.ntmps12
 go_upto_region 1 with fail
 rw [HW.out,HH.out]
 go_wp2_with fail
 refine HP.out.mono ?_;rintro e w1 ⟨p,rfl,hx1,hrun⟩;have Ef:=ext_al w1 (.cells #[.int .i64 F0,.int .i64 F1] 31);have bf1:FtB (w1.alloc (.cells #[.int .i64 F0,.int .i64 F1] 31)) w1.heap.size F0 F1:=⟨heap_alloc_new w1 _⟩;have q0:=bf1.x0;have q1:=bf1.x1;have HX1:=Lh (hx1.trans Ef);have HX0:=Lh hx1;have bz:=HbF.out.ext HX1.out;have x0':=bz.x0;have x1':=bz.x1;have g0':=bz.f 0;have g1':=bz.f 1;have Hbz:=Lh bz;have Hef:=Lh Ef;have HEz:=Lh (HE0.out.trans HX1.out);have Hrun:=Lh hrun;clear bz m0 m1 m2 hx1 Ef bf1 HP HH HW hrun
 by_cases hc0:F0=0
 ·have hcb:=nf' hc0
  obtain ⟨B,R,i,bw,bb,tv,rfl,hr,hi4⟩:=Hrun.out hc0;have Hq:=Lh (Hq4.out hc0);have Hr:=Lh (hr.ext' Hef.out);have Hi4:=Lh hi4;have Hc0:=Lh hc0;have HF1:=Lh (Hf1z0.out hc0);have HT':=Lh (show T=rtx (nmF (nS M.s m)) by have:=Hch.out;rw [if_pos hc0] at this;exact this);clear hr Hrun hc0 hi4 q1 Hf1z0 Hch
  go_upto_region 4 with fail
  clear x0' x1' g0' g1' q0;generalize w1.alloc (.cells #[.int .i64 F0,.int .i64 F1] 31)=W1 at *;generalize w1.heap.size=FB at *;have c2:=Hr.out.c2;have HNm:=Lh (norm_any bw m m M.s i W1 Hr.out.wav Hq.out (by have:=Hi4.out;omega) (bru_ext HBru.out HX1.out))
  go_wp2_with fail
  refine HNm.out.mono ?_;rintro e w2 ⟨cr,rfl,hcr,hx2⟩;have Hcr:=Lh hcr;have Hx2:=Lh hx2;clear hcr hx2 HNm c2
  go_wp2_with fail
  refine (RText_nm cr _ _ _ w2 Hcr.out 1000 (by decide) (by decide) (by have:=Hi4.out;omega) (by have:=Hi4.out;omega) (tab_ext HTen.out (HX1.out.trans Hx2.out))).mono ?_;rintro e w3 ⟨rfl,hx3⟩;have he:=Hx2.out.trans hx3;have bz3:=Hbz.out.ext he;have x0':=bz3.x0;have x1':=bz3.x1;have g0':=bz3.f 0;have g1':=bz3.f 1;have HE3:=Lh (HEz.out.trans he);clear hx3 he bz3 Hcr Hx2
  go_wp2_with fail
  refine bodyPost_ret (v:=.tuple #[.string ⟨(rtx (nmF (nS M.s m))).toArray⟩,.agg #[.int .i64 0,.int .i64 0]]) (by simp [results,Tryz.results12,go_sem,x0',x1']) rfl ⟨by rw [Hc0.out,HF1.out,HT'.out],?_⟩;have:=HwH.out;exact Ext.put (Ext.put HE3.out (by omega) _) (by omega) _
 ·have hcb:=nt hc0
  have Hc0:=Lh hc0;have HT':=Lh (show T=[] by have:=Hch.out;rw [if_neg hc0] at this;exact this);have e2:=HbF.out.lt;have e3:=HX0.out.size
  have ne2:H+1≠w1.heap.size:=by omega
  have ne4:w1.heap.size≠H+1:=by omega
  clear hc0 Hrun Hq4 e2 e3 Hch
  go_upto_region 3 with fail
  go_region
  go_wp2_with fail
  refine bodyPost_ret (v:=.tuple #[.string ⟨#[]⟩,.agg #[.int .i64 F0,.int .i64 F1]]) (by simp [results,Tryz.results12,go_sem,x0',x1']) rfl ⟨by rw [HT'.out],?_⟩;have:=HwH.out;refine Below.drew ?_;exact Ext.put (Ext.put HEz.out (by omega) _) (by omega) _
variable {Qc:Nat->Prop}
open Go.RowKit
section
variable {P:Program} {ops:Array Oper} {Q:Exit->Act->World->Prop}
theorem wpList_load_rowQ {rest:List Oper} {o:Oper} {a:Act} {w:World} (hw:Region.wanted o (yielded ops a.tmps)=true) (ty:TypeId) (x:Operand) (ho:o.op=.load ty x)
  (g:Nat) (hx:a.eval x=.pointer (some ⟨g,0,none⟩)) (t:TypeId) (cs:Array Value) (fr:Nat × Nat) (d:TypeDesc) (hg:w.heap[g]?=some (.cells cs t fr))
  (hu:P.underlying ty=some d) (hd:(match d with | .struct _ | .array _ _=>true | _=>false)=true) (hi:(P.info? ty).map (·.size)=some cs.size)
  (h:wpList P ops Q rest (a.put o.dst (.agg cs)) w):wpList P ops Q (o :: rest) a w:=by
 unfold wpList;rw [if_pos hw];exact Or.inl (wp_load_row ty x ho g hx t cs fr d hg hu hd hi h)
theorem anyK_two {md:Region.Mode} {k:Nat} {S:World->Prop} {i j:Nat} {o o':Oper} {n:Nat} {l:Array Bool} {a:Act} {w:World} (hr:Region.ready md ops l=[i,j]) (ho:ops[i]?=some o) (ho':ops[j]?=some o')
  (h:∀ K':Act->World->Prop,Shut (∀ a w,((l.setIfInBounds i true).getD k true=false->S w)->anyK P md ops Q k S n (l.setIfInBounds i true) a w->K' a w)->if Region.wanted o (yielded ops a.tmps)=true then Oper.wp P o a w K' Q else K' (a.put o.dst undef) w)
  (h':∀ K':Act->World->Prop,Shut (∀ a w,((l.setIfInBounds j true).getD k true=false->S w)->anyK P md ops Q k S n (l.setIfInBounds j true) a w->K' a w)->if Region.wanted o' (yielded ops a.tmps)=true then Oper.wp P o' a w K' Q else K' (a.put o'.dst undef) w) :
  anyK P md ops Q k S (n+1) l a w:=by
 refine ⟨fun h0=>(by rw [hr] at h0;cases h0),fun t ht=>?_⟩;rw [hr] at ht
 rcases List.mem_cons.1 ht with rfl | ht
 ·exact wpOp_step ho (fun K' hK=>h K' (fun a w hS hW=>hK a w ⟨hS,hW⟩))
 ·rcases List.mem_singleton.1 ht with rfl
  exact wpOp_step ho' (fun K' hK=>h' K' (fun a w hS hW=>hK a w ⟨hS,hW⟩))
end
theorem eqN_zero_mul {x y:Nm} (h:∀ k,x.a k=0):EqN ⟨ext8 (fun _=>0),0⟩ (nMul x y):=fun k=>by
 have e:mulR x.a y.a k=0:=by simp [mulR,sum8,h]
 show ext8 (fun _=>0) k*2 ^ (x.e+y.e)=mulR x.a y.a k*2 ^ 0
 rw [e,ext8_zero];simp
theorem eqN_mul_zero {x y:Nm} (h:∀ k,y.a k=0):EqN ⟨ext8 (fun _=>0),0⟩ (nMul x y):=fun k=>by
 have e:mulR x.a y.a k=0:=by simp [mulR,sum8,h]
 show ext8 (fun _=>0) k*2 ^ (x.e+y.e)=mulR x.a y.a k*2 ^ 0
 rw [e,ext8_zero];simp
theorem mul_part (X Y:Nat->Int) (P1 P2:Nat) (hX:∀ i,i<8->(X i).natAbs<2 ^ P1) (hY:∀ i,i<8->(Y i).natAbs<2 ^ P2):∀ i j,i<8->j<=8->∀ t,t<8->(mulN (prN X Y i) i (X i) Y j t).natAbs<2 ^ (P1+P2+6):=fun i j hi hj t ht=>by
 have hp:∀ i j,i<8->j<8->(X i*Y j).natAbs<=2 ^ (P1+P2)-1:=fun i j hi hj=>by
  have h1:=hX i hi;have h2:=hY j hj;have h3:=Nat.mul_lt_mul'' h1 h2;rw [Int.natAbs_mul,Nat.pow_add];omega
 have h1:=mulN_abs (prN X Y i) i (X i) Y (i*(8*(2 ^ (P1+P2)-1))) (2 ^ (P1+P2)-1) (prN_abs X Y _ hp i (by omega)) (fun t ht=>hp i t hi ht) j hj t ht;have h0:0<2 ^ (P1+P2):=Nat.pow_pos (by decide);have h2:i*(8*(2 ^ (P1+P2)-1))<=7*(8*(2 ^ (P1+P2)-1)):=Nat.mul_le_mul_right _ (by omega);have h3:j*(2 ^ (P1+P2)-1)<=8*(2 ^ (P1+P2)-1):=Nat.mul_le_mul_right _ hj;rw [Nat.pow_add _ (P1+P2) 6];omega
theorem QMul_nm (ca cb:Array Value) (x y:Nm) (P1 E1 P2 E2:Nat) (w:World) (h:RmA Qc w ca x P1 E1) (g:RmA Qc w cb y P2 E2) (hP:P1+P2+6<=400000) (hE:E1+E2<=1099511627776) :
  Calls Tryz.prog 74 #[.agg ca,.agg cb] w fun r w'=>∃ (cr:Array Value) (z:Nm),r=.returned (.agg cr)/\RmA Qc w' cr z (P1+P2+6) (E1+E2)/\EqN z (nMul x y)/\Ext w w':=by
 obtain ⟨X,hX⟩:∃ X:Nat->Int,(fun i:Nat=>x.a i)=X:=⟨_,rfl⟩;obtain ⟨Y,hY⟩:∃ Y:Nat->Int,(fun i:Nat=>y.a i)=Y:=⟨_,rfl⟩;obtain ⟨ex,hex⟩:∃ ex,x.e=ex:=⟨_,rfl⟩;obtain ⟨ey,hey⟩:∃ ey,y.e=ey:=⟨_,rfl⟩;obtain ⟨es,hes⟩:∃ es,ex+ey=es:=⟨_,rfl⟩;have hv:=h.val;have gv:=g.val;rw [hX,hex] at hv;rw [hY,hey] at gv
 have hXa:∀ i,i<8->(X i).natAbs<2 ^ P1:=fun i _=>by rw [<-hX];exact h.abs i
 have hYa:∀ i,i<8->(Y i).natAbs<2 ^ P2:=fun i _=>by rw [<-hY];exact g.abs i
 have hdn:ex<=E1/\ey<=E2/\ex+ey=es:=⟨by rw [<-hex];exact h.down,by rw [<-hey];exact g.down,hes⟩;obtain ⟨H,hH⟩:∃ H,w.heap.size=H:=⟨_,rfl⟩;obtain ⟨U,hU⟩:∃ U,((w.alloc (.cells ca 48)).alloc (.cells cb 48)).alloc (.cells zeroR 48)=U:=⟨_,rfl⟩
 have E0:Ext w U:=by rw [<-hU];exact ((Ext.alloc _ _).trans (Ext.alloc _ _)).trans (Ext.alloc _ _)
 have A0:ZVar Qc U H X (ex:Int):=by rw [<-hU,<-hH];exact (hv.box.ext (Ext.alloc _ _)).ext (Ext.alloc _ _)
 have B0:ZVar Qc U (H+1) Y (ey:Int):=by
  have:=((gv.ext (Ext.alloc w (.cells ca 48))).box).ext (Ext.alloc _ (.cells zeroR 48));rw [<-hU,<-hH]
  simpa using this
 have Z0:ZVar Qc U (H+2) (fun _=>0) 0:=by
  have:=(zcs_zero (Qc:=Qc) ((w.alloc (.cells ca 48)).alloc (.cells cb 48))).box;rw [<-hU,<-hH]
  simpa using this
 have HU:=Lh hU;have HH:=Lh hH;have HP:=Lh hP;have HEE:=Lh hE;have HXa:=Lh hXa;have HYa:=Lh hYa;have Hh:=Lh h;have Hg:=Lh g;have HX:=Lh hX;have HY:=Lh hY;have Hdn:=Lh hdn;have Hab:=Lh (mul_part X Y P1 P2 hXa hYa);have Hex:=Lh hex;have Hey:=Lh hey;have HA:=Lh A0;have HB:=Lh B0;have HZ:=Lh Z0;have HE:=Lh E0;clear hU hH A0 B0 Z0 E0 h g hP hE hXa hYa hX hY hv gv hex hey hdn hes
 go_enter Tryz.func74,Tryz.ntmps74
 go_upto_region 1 with fail
 rw [HU.out,HH.out];clear HU;obtain ⟨cA,rA,zA⟩:=HA.out
 have iA:(Tryz.prog.info? 48).map (·.size)=some cA.size:=by rw [zA.1];exact zR_info
 by_cases hx0:zeroN X
 ·have HQ:=Lh (QZero_any cA X _ U zA true (by simp [hx0]))
  have Hx0:=Lh hx0;clear zA hx0
  go_wp2_with (refine wpList_load_row rfl 48 _ rfl (H) rfl 48 _ (0,0) _ rA Tryz.underlying48 rfl iA ?_)
  refine HQ.out.mono ?_;rintro r w2 ⟨rfl,hx2⟩;clear rA iA HQ;obtain ⟨c1,hr1,hs1,hone,hinf,rr,hzz,hE'⟩:=fin_rm (zcs_zero (Qc:=Qc) w2) (HZ.out.ext hx2) (HE.out.trans hx2) (by rw [HH.out];omega)
  have Hend:=Lh (show RmA Qc (w2.setRow (H+2) zeroR) zeroR ⟨ext8 (fun _=>0),0⟩ (P1+P2+6) (E1+E2)/\EqN ⟨ext8 (fun _=>0),0⟩ (nMul x y)/\Ext w (w2.setRow (H+2) zeroR) from
   ⟨⟨anti_ext8 (fun _=>0),Or.inl rfl,fun k=>by rw [ext8_zero];exact Nat.pow_pos (by decide),Nat.zero_le _,hzz.congr fun i _=>by show (0:Int)=ext8 (fun _=>0) (i:Int);rw [ext8_zero]⟩,eqN_zero_mul (zero_of_zeroN Hh.out.anti (by rw [HX.out];exact Hx0.out)),hE'⟩)
  clear hzz hE'
  go_wp2_with (refine wpList_store_row rfl 48 _ _ rfl (H+2) zeroR rfl rfl 48 _ hr1 hinf hs1 hone ?_)
  refine bodyPost_ret (v:=.agg zeroR) ?_ rfl ⟨_,_,rfl,Hend.out⟩;exact results_cell_row rfl _ _ (H+2) _ _ _ _ rfl rr Tryz.underlying48 rfl hinf
 have HQ:=Lh (QZero_any cA X _ U zA false (by simp [hx0]));clear zA hx0
 go_wp2_with (refine wpList_load_row rfl 48 _ rfl (H) rfl 48 _ (0,0) _ rA Tryz.underlying48 rfl iA ?_)
 refine HQ.out.mono ?_;rintro r w2 ⟨rfl,hx2⟩;have HA2:=Lh (HA.out.ext hx2);have HB2:=Lh (HB.out.ext hx2);have HZ2:=Lh (HZ.out.ext hx2);have HE2:=Lh (HE.out.trans hx2);clear HA HB HZ HE hx2 rA iA HQ;obtain ⟨cB,rB,zB⟩:=HB2.out
 have iB:(Tryz.prog.info? 48).map (·.size)=some cB.size:=by rw [zB.1];exact zR_info
 by_cases hy0:zeroN Y
 ·have HQ:=Lh (QZero_any cB Y _ w2 zB true (by simp [hy0]))
  have Hy0:=Lh hy0;clear zB hy0
  go_wp2_with (refine wpList_load_rowQ rfl 48 _ rfl (H+1) rfl 48 _ (0,0) _ rB Tryz.underlying48 rfl iB ?_)
  refine HQ.out.mono ?_;rintro r w3 ⟨rfl,hx3⟩;clear rB iB HQ;obtain ⟨c1,hr1,hs1,hone,hinf,rr,hzz,hE'⟩:=fin_rm (zcs_zero (Qc:=Qc) w3) (HZ2.out.ext hx3) (HE2.out.trans hx3) (by rw [HH.out];omega)
  have Hend:=Lh (show RmA Qc (w3.setRow (H+2) zeroR) zeroR ⟨ext8 (fun _=>0),0⟩ (P1+P2+6) (E1+E2)/\EqN ⟨ext8 (fun _=>0),0⟩ (nMul x y)/\Ext w (w3.setRow (H+2) zeroR) from
   ⟨⟨anti_ext8 (fun _=>0),Or.inl rfl,fun k=>by rw [ext8_zero];exact Nat.pow_pos (by decide),Nat.zero_le _,hzz.congr fun i _=>by show (0:Int)=ext8 (fun _=>0) (i:Int);rw [ext8_zero]⟩,eqN_mul_zero (zero_of_zeroN Hg.out.anti (by rw [HY.out];exact Hy0.out)),hE'⟩)
  clear hzz hE'
  go_wp2_with (refine wpList_store_row rfl 48 _ _ rfl (H+2) zeroR rfl rfl 48 _ hr1 hinf hs1 hone ?_)
  refine bodyPost_ret (v:=.agg zeroR) ?_ rfl ⟨_,_,rfl,Hend.out⟩;exact results_cell_row rfl _ _ (H+2) _ _ _ _ rfl rr Tryz.underlying48 rfl hinf
 have HQ:=Lh (QZero_any cB Y _ w2 zB false (by simp [hy0]));clear zB hy0
 go_wp2_with (refine wpList_load_rowQ rfl 48 _ rfl (H+1) rfl 48 _ (0,0) _ rB Tryz.underlying48 rfl iB ?_)
 refine HQ.out.mono ?_;rintro r w3 ⟨rfl,hx3⟩;have eA:=hx3.trans (Ext.alloc w3 (.cells zeroR 48));have O0:=(zcs_zero (Qc:=Qc) w3).box;have hO:H+2<w3.heap.size:=Nat.lt_of_lt_of_le HZ2.out.lt hx3.size;obtain ⟨O,hOO⟩:∃ O,w3.heap.size=O:=⟨_,rfl⟩;obtain ⟨U2,hU2⟩:∃ U2,w3.alloc (.cells zeroR 48)=U2:=⟨_,rfl⟩;rw [hU2] at eA O0;rw [hOO] at O0 hO;have hA2:=HA2.out.ext eA;have hB2:=HB2.out.ext eA;have hZ2:=HZ2.out.ext eA;have x16:=hA2.gete.1;have x17:=hB2.gete.1;have y16:=O0.gete.1;have g16:=O0.gete.2
 have wE:IntKind.i64.wrap ((ex:Int)+(ey:Int))=(es:Int):=by have:=Hdn.out;have:=HEE.out;rw [IntKind.wrap_i64];omega
 obtain ⟨hs,hch⟩:=O0.sete (es:Int)
 have Hst:=Lh (show ZVar Qc (U2.setCell ⟨O,16,none⟩ (.int .i64 (es:Int))) O (prN X Y 0) (es:Int)/\ZVar Qc (U2.setCell ⟨O,16,none⟩ (.int .i64 (es:Int))) H X (ex:Int)/\ZVar Qc (U2.setCell ⟨O,16,none⟩ (.int .i64 (es:Int))) (H+1) Y (ey:Int)/\ZVar Qc (U2.setCell ⟨O,16,none⟩ (.int .i64 (es:Int))) (H+2) (fun _=>0) 0/\Ext w (U2.setCell ⟨O,16,none⟩ (.int .i64 (es:Int))) from
  ⟨hs,hA2.chz hch O0.no (by omega),hB2.chz hch O0.no (by omega),hZ2.chz hch O0.no (by omega),hch.ext (HE2.out.trans eA) (by rw [HH.out];omega)⟩)
 have HU2:=Lh hU2;have HOO:=Lh hOO;have HO:=Lh hO;clear hs hch hA2 hB2 hZ2 O0 eA hU2 hOO hO HA2 HB2 HZ2 HE2 hx3 HQ rB iB
 go_upto_region 4 with fail
 rw [HU2.out,HOO.out];clear HU2 HOO
 go_wp2_with fail
 clear x16 x17 y16 g16 wE;generalize U2.setCell ⟨O,16,none⟩ (.int .i64 (es:Int))=V at *
 go_loopg [6,7,8] 8 (fun kk s6 s7 s8 wr=>∃ i:Nat,s6=.int .i64 (i:Int)/\i<=8/\8-i=kk/\ZVar Qc wr O (prN X Y i) (es:Int)/\ZVar Qc wr H X (ex:Int)/\ZVar Qc wr (H+1) Y (ey:Int)/\ZVar Qc wr (H+2) (fun _=>0) 0/\Ext w wr)
 case atStart=>exact ⟨0,rfl,by omega,by omega,Hst.out⟩
 case round =>
  clear Hst;obtain ⟨i,rfl,hi,hik,hV⟩:=hrel;obtain ⟨wo,rfl⟩:∃ wo:World,wo=wr:=⟨_,rfl⟩
  by_cases hi8:i=8
  ·subst hi8
   obtain ⟨cA,rA,zA⟩:=hV.1
   have iA:(Tryz.prog.info? 48).map (·.size)=some cA.size:=by rw [zA.1];exact zR_info
   have HV:=Lh hV;have HQ2:=Lh (Qleast_any cA _ es wo zA (P1+P2+6) (E1+E2) HP.out (fun i hi=>Hab.out 7 8 (by omega) (by omega) i hi) (by have:=Hdn.out;omega) HEE.out);clear zA hV hik hi
   go_wp2_with (refine wpList_load_row rfl 48 _ rfl (O) rfl 48 _ (0,0) _ rA Tryz.underlying48 rfl iA ?_)
   refine HQ2.out.mono ?_;rintro r w3 ⟨cr,yy,rfl,hcr,hq3,hx3⟩;obtain ⟨c1,hr1,hs1,hone,hinf,rr,hzz,hE'⟩:=fin_rm hcr.val (HV.out.2.2.2.1.ext hx3) (HV.out.2.2.2.2.trans hx3) (by rw [HH.out];omega)
   have Hend:=Lh (show RmA Qc (w3.setRow (H+2) cr) cr yy (P1+P2+6) (E1+E2)/\EqN yy (nMul x y)/\Ext w (w3.setRow (H+2) cr) from
    ⟨⟨hcr.anti,hcr.low,hcr.abs,hcr.down,hzz⟩,hq3.trans (EqN.of_eq (by
     rw [ext8_prN,<-HX.out,<-HY.out,ext8_of Hh.out.anti,ext8_of Hg.out.anti,<-Hdn.out.2.2,<-Hex.out,<-Hey.out];rfl)),hE'⟩)
   clear hcr hq3 hzz hE' hx3 HQ2 HV rA iA
   go_wp2_with (refine wpList_store_row rfl 48 _ _ rfl (H+2) cr rfl rfl 48 _ hr1 hinf hs1 hone ?_)
   refine bodyPost_ret (v:=.agg cr) ?_ rfl ⟨_,_,rfl,Hend.out⟩;exact results_cell_row rfl _ _ (H+2) _ _ _ _ rfl rr Tryz.underlying48 rfl hinf
  have hi7:i<8:=by omega
  have q1:(i:Int)<8:=by omega
  have q0:(0:Int)<=(i:Int):=by omega
  have wki:IntKind.i64.wrap ((i:Int)+1)=((i+1:Nat):Int):=by rw [IntKind.wrap_i64];omega
  have Hi1:=Lh (show i+1<=8 by omega);have Hi7:=Lh hi7;have Hik:=Lh hik;have Hst:=Lh hV;clear hV hi hi8 hi7 hik
  go_wp2_with fail
  clear q1
  go_loopg [7,8] 8 (fun kk s7 s8 wr=>∃ j:Nat,s7=.int .i64 (j:Int)/\j<=8/\8-j=kk/\ZVar Qc wr O (mulN (prN X Y i) i (X i) Y j) (es:Int)/\ZVar Qc wr H X (ex:Int)/\ZVar Qc wr (H+1) Y (ey:Int)/\ZVar Qc wr (H+2) (fun _=>0) 0/\Ext w wr)
  case atStart=>exact ⟨0,rfl,by omega,by omega,Hst.out⟩
  case round =>
   clear Hst;obtain ⟨j,rfl,hj,hjk,hV⟩:=hrel;obtain ⟨wo,rfl⟩:∃ wo:World,wo=wr:=⟨_,rfl⟩
   by_cases hj8:j=8
   ·subst hj8
    have Hend:=Lh hV;clear hV hj hjk
    go_wp2_with fail
    go_roundg (8-(i+1))
    case measure=>have:=Hik.out;have:=Hi1.out;omega
    case rel=>exact ⟨i+1,rfl,Hi1.out,rfl,Hend.out⟩
   have hlt:j<8:=by omega
   have q1:(i:Int)<8:=by have:=Hi7.out;omega
   have q2:(j:Int)<8:=by omega
   have q3:(0:Int)<=(j:Int):=by omega
   have wk:IntKind.i64.wrap ((j:Int)+1)=((j+1:Nat):Int):=by rw [IntKind.wrap_i64];omega
   have Hj1:=Lh (show j+1<=8 by omega);have Hlt:=Lh hlt;have Hjk:=Lh hjk;obtain ⟨b1,a1,n1,c1,y0,y1,_,_,hI1⟩:=hV.2.1.get i Hi7.out;obtain ⟨b2,a2,n2,c2,l0,l1,_,_,hI2⟩:=hV.2.2.1.get j hlt
   have Hstep0:=Lh (show X i*Y j=0->∀ t,mulN (prN X Y i) i (X i) Y j t=mulN (prN X Y i) i (X i) Y (j+1) t from fun e t=>by
    simp only [mulN,e];exact addN_zero _ _ _)
   have HV:=Lh hV;clear hV hj8 hj hlt hjk
   by_cases hn1:n1=0
   ·have q4:¬ (0:Int)<(n1:Int):=by omega
    have Hz:=Lh (show X i*Y j=0 by rw [hI1.nil_iff.1 hn1];simp);clear hn1 hI1 hI2
    go_wp2_with fail
    go_roundg (8-(j+1))
    case measure=>have:=Hjk.out;have:=Hj1.out;omega
    case rel=>exact ⟨j+1,rfl,Hj1.out,rfl,HV.out.1.congr fun t _=>Hstep0.out Hz.out t,HV.out.2⟩
   have q4:(0:Int)<(n1:Int):=by omega
   clear hn1
   by_cases hn2:n2=0
   ·have q5:¬ (0:Int)<(n2:Int):=by omega
    have Hz:=Lh (show X i*Y j=0 by rw [hI2.nil_iff.1 hn2];simp);clear hn2 hI1 hI2
    go_wp2_with fail
    go_roundg (8-(j+1))
    case measure=>have:=Hjk.out;have:=Hj1.out;omega
    case rel=>exact ⟨j+1,rfl,Hj1.out,rfl,HV.out.1.congr fun t _=>Hstep0.out Hz.out t,HV.out.2⟩
   have q5:(0:Int)<(n2:Int):=by omega
   have q5n:0<n2:=by omega
   clear hn2 Hstep0;have hb1:n1<=P1:=hI1.bits (HXa.out i Hi7.out);have hb2:n2<=P2:=hI2.bits (HYa.out j Hlt.out);have HMu:=Lh (fun wx (hx:Ext wo wx)=>ZMul_any b1 b2 a1 a2 n1 c1 n2 c2 (X i) (Y j) wx (hI1.ext hx) (hI2.ext hx) (by have:=HP.out;omega) (by have:=HP.out;omega));have Hnn:=Lh (show n1+n2+1<=P1+P2+1 by omega);have lH:=HV.out.2.1.lt;have lB:=HV.out.2.2.1.lt;clear hI1 hI2 hb1 hb2
   go_upto_region 12 with fail
   go_cut [8] from 47 to 55 (fun s8 wx=>∃ (G:Nat) (b3:Bool) (a3:Option Addr) (n3 c3:Nat),s8=.pointer (some ⟨G,0,none⟩)/\ZBx wx G b3 a3 n3 c3/\IsZ Qc wx b3 a3 n3 c3 (X i*Y j)/\n3<=P1+P2+1/\ZVar Qc wx O (mulN (prN X Y i) i (X i) Y j) (es:Int)/\ZVar Qc wx H X (ex:Int)/\ZVar Qc wx (H+1) Y (ey:Int)/\ZVar Qc wx (H+2) (fun _=>0) 0/\Ext w wx)
   case first =>
    clear q4 q5 q5n;have hd0:Ext wo wo.drew:=Below.drew (Ext.refl _);have hdz:wo.heap.size<=wo.drew.heap.size:=hd0.size;refine wp_region_K 10 (fun w'=>(w'.cell? ⟨H,i*2,none⟩=some (.bool b1)/\w'.cell? ⟨H,i*2+1,none⟩=some (.slice a1 n1 c1))/\w'.cell? ⟨H+1,j*2,none⟩=some (.bool b2)/\w'.cell? ⟨H+1,j*2+1,none⟩=some (.slice a2 n2 c2)) (by kernel_rfl) ?_
    show anyK _ _ _ _ _ _ 11 #[false,false,false,false,false,false,false,false,false,false,false] _ _
    have hHeld:(wo.drew.cell? ⟨H,i*2,none⟩=some (.bool b1)/\wo.drew.cell? ⟨H,i*2+1,none⟩=some (.slice a1 n1 c1))/\wo.drew.cell? ⟨H+1,j*2,none⟩=some (.bool b2)/\wo.drew.cell? ⟨H+1,j*2+1,none⟩=some (.slice a2 n2 c2):=⟨⟨cellKeep hd0 lH y0,cellKeep hd0 lH y1⟩,cellKeep hd0 lB l0,cellKeep hd0 lB l1⟩;refine kT 0 11 (v:=?_) rfl (Or.inl ⟨by rfl,?_⟩) hHeld ?_;rotate_left 1
    ·intro w hSw
     go_simp
     try with_reducible rfl
    show anyK _ _ _ _ _ _ _ _ (Act.put _ (some 47) _) _
    simp only [Act.put,sx0,sx1,sx2];refine kT 1 11 (v:=?_) rfl (Or.inl ⟨by rfl,?_⟩) hHeld ?_;rotate_left 1
    ·intro w hSw
     go_simp
     try with_reducible rfl
    show anyK _ _ _ _ _ _ _ _ (Act.put _ (some 48) _) _
    simp only [Act.put,sx0,sx1,sx2];refine kT 2 11 (v:=?_) rfl (Or.inl ⟨by rfl,?_⟩) hHeld ?_;rotate_left 1
    ·intro w hSw
     go_simp
     try with_reducible rfl
    show anyK _ _ _ _ _ _ _ _ (Act.put _ (some 49) _) _
    simp only [Act.put,sx0,sx1,sx2];refine kT 3 11 (v:=?_) rfl (Or.inl ⟨by rfl,?_⟩) hHeld ?_;rotate_left 1
    ·intro w hSw
     go_simp
     try with_reducible rfl
    show anyK _ _ _ _ _ _ _ _ (Act.put _ (some 50) _) _
    simp only [Act.put,sx0,sx1,sx2];refine kT 4 11 (v:=?_) rfl (Or.inl ⟨by rfl,?_⟩) hHeld ?_;rotate_left 1
    ·intro w hSw
     go_simp
     try with_reducible rfl
    show anyK _ _ _ _ _ _ _ _ (Act.put _ (some 51) _) _
    simp only [Act.put,sx0,sx1,sx2];refine kT 5 11 (v:=?_) rfl (Or.inl ⟨by rfl,?_⟩) hHeld ?_;rotate_left 1
    ·intro w hSw
     go_simp
     try with_reducible rfl
    show anyK _ _ _ _ _ _ _ _ (Act.put _ (some 52) _) _
    simp only [Act.put,sx0,sx1,sx2];refine kT 6 11 (v:=?_) rfl (Or.inl ⟨by rfl,?_⟩) hHeld ?_;rotate_left 1
    ·intro w hSw
     go_simp
     try with_reducible rfl
    show anyK _ _ _ _ _ _ _ _ (Act.put _ (some 53) _) _
    simp only [Act.put,sx0,sx1,sx2];refine kT 7 11 (v:=?_) rfl (Or.inl ⟨by rfl,?_⟩) hHeld ?_;rotate_left 1
    ·intro w hSw
     go_simp
     try with_reducible rfl
    show anyK _ _ _ _ _ _ _ _ (Act.put _ (some 54) _) _
    simp only [Act.put,sx0,sx1,sx2];clear hHeld;refine anyK_two (i:=8) (j:=9) (by kernel_rfl) rfl rfl (fun Kk hKk=>?_) (fun Kk hKk=>?_)
    ·go_simp
     (go_at_call 103;refine (HMu.out wo.drew hd0).mono ?_;rintro e w3 ⟨b3,a3,n3,c3,rfl,hI3,hn3,hx3⟩)
     have he3:=hd0.trans hx3
     go_wp2_with fail
     refine hKk.out _ _ (fun _=>⟨⟨cellKeep he3 lH y0,cellKeep he3 lH y1⟩,cellKeep he3 lB l0,cellKeep he3 lB l1⟩) ?_;clear hKk Kk;simp only [sx0,sx1,sx2];have eP:=Ext.alloc w3 (.cells #[.bool false,.slice none 0 0] 45);have bx:=zbx_new w3 false none 0 0;have he4:=he3.trans eP;have hI4:=hI3.ext eP;have hG:wo.heap.size<=w3.heap.size:=he3.size;refine anyK_one (i:=9) (by kernel_rfl) rfl (fun Kk hKk=>?_)
     go_wp2_with fail
     refine hKk.out _ _ (fun _=>⟨⟨cellKeep he4 lH y0,cellKeep he4 lH y1⟩,cellKeep he4 lB l0,cellKeep he4 lB l1⟩) ?_;clear hKk Kk;simp only [sx0,sx1,sx2];generalize w3.alloc (.cells #[.bool false,.slice none 0 0] 45)=w4 at *;generalize w3.heap.size=G at *;refine anyK_one (i:=10) (by kernel_rfl) rfl (fun Kk hKk=>?_);refine stepK_storeZ rfl rfl _ _ rfl G 0 b3 a3 n3 c3 _ _ rfl rfl bx.c0 bx.c1 (bx.f 0) (bx.f 1) ?_;refine hKk.out _ _ (fun h=>Bool.noConfusion (show true=false from h)) ?_;clear hKk Kk;simp only [sx0,sx1,sx2];refine anyK_done (by kernel_rfl) ?_ _;have hB3:=bx.own b3 a3 n3 c3;have hch:=ChZ.of_only (put2_only w4 G 0 1 (.bool b3) (.slice a3 n3 c3));have hno:NoI w4 G:=⟨_,_,_,bx.row,by decide⟩;have hI5:=hI4.chz hch hno;have hWo:=hch.ext he4 hG
     have hn5:n3<=P1+P2+1:=by have:=Hnn.out;omega
     generalize ((w4.setCell ⟨G,0,none⟩ (.bool b3)).setCell ⟨G,1,none⟩ (.slice a3 n3 c3))=W at *;have Hend:=Lh (And.intro hB3 (And.intro hI5 (And.intro hn5 (show ZVar Qc W O (mulN (prN X Y i) i (X i) Y j) (es:Int)/\ZVar Qc W H X (ex:Int)/\ZVar Qc W (H+1) Y (ey:Int)/\ZVar Qc W (H+2) (fun _=>0) 0/\Ext w W from ⟨HV.out.1.ext hWo,HV.out.2.1.ext hWo,HV.out.2.2.1.ext hWo,HV.out.2.2.2.1.ext hWo,HV.out.2.2.2.2.trans hWo⟩))));clear hB3 hI5 hn5 hWo hno hch
     go_wp2_with fail
     go_meet
     exact ⟨G,b3,a3,n3,c3,rfl,Hend.out⟩
    ·have heP:Ext wo (wo.alloc (.cells #[.bool false,.slice none 0 0] 45)).drew:=Below.drew (Ext.alloc wo _)
     have hdr:Ext (wo.alloc (.cells #[.bool false,.slice none 0 0] 45)) (wo.alloc (.cells #[.bool false,.slice none 0 0] 45)).drew:=Below.drew (Ext.refl _);have bx0:=(zbx_new wo false none 0 0).ext hdr
     go_wp2_with fail
     refine hKk.out _ _ (fun _=>⟨⟨cellKeep heP lH y0,cellKeep heP lH y1⟩,cellKeep heP lB l0,cellKeep heP lB l1⟩) ?_;clear hKk Kk;simp only [sx0,sx1,sx2];obtain ⟨wA,hwA⟩:∃ wA,(wo.alloc (.cells #[.bool false,.slice none 0 0] 45)).drew=wA:=⟨_,rfl⟩;obtain ⟨G,hGG⟩:∃ G,wo.heap.size=G:=⟨_,rfl⟩;rw [hwA,hGG];rw [hwA] at heP bx0;rw [hGG] at bx0
     have hG:wo.heap.size<=G:=by rw [hGG];exact Nat.le_refl _
     clear hwA hGG hdr;refine anyK_one (i:=8) (by kernel_rfl) rfl (fun Kk hKk=>?_)
     go_simp
     (go_at_call 103;refine (HMu.out wA heP).mono ?_;rintro e w4 ⟨b3,a3,n3,c3,rfl,hI4,hn3,hx4⟩)
     have he4:=heP.trans hx4;have bx:=bx0.ext hx4
     go_wp2_with fail
     refine hKk.out _ _ (fun _=>⟨⟨cellKeep he4 lH y0,cellKeep he4 lH y1⟩,cellKeep he4 lB l0,cellKeep he4 lB l1⟩) ?_;clear hKk Kk;simp only [sx0,sx1,sx2];refine anyK_one (i:=10) (by kernel_rfl) rfl (fun Kk hKk=>?_);refine stepK_storeZ rfl rfl _ _ rfl G 0 b3 a3 n3 c3 _ _ rfl rfl bx.c0 bx.c1 (bx.f 0) (bx.f 1) ?_;refine hKk.out _ _ (fun h=>Bool.noConfusion (show true=false from h)) ?_;clear hKk Kk;simp only [sx0,sx1,sx2];refine anyK_done (by kernel_rfl) ?_ _;have hB3:=bx.own b3 a3 n3 c3;have hch:=ChZ.of_only (put2_only w4 G 0 1 (.bool b3) (.slice a3 n3 c3));have hno:NoI w4 G:=⟨_,_,_,bx.row,by decide⟩;have hI5:=hI4.chz hch hno;have hWo:=hch.ext he4 hG
     have hn5:n3<=P1+P2+1:=by have:=Hnn.out;omega
     generalize ((w4.setCell ⟨G,0,none⟩ (.bool b3)).setCell ⟨G,1,none⟩ (.slice a3 n3 c3))=W at *;have Hend:=Lh (And.intro hB3 (And.intro hI5 (And.intro hn5 (show ZVar Qc W O (mulN (prN X Y i) i (X i) Y j) (es:Int)/\ZVar Qc W H X (ex:Int)/\ZVar Qc W (H+1) Y (ey:Int)/\ZVar Qc W (H+2) (fun _=>0) 0/\Ext w W from ⟨HV.out.1.ext hWo,HV.out.2.1.ext hWo,HV.out.2.2.1.ext hWo,HV.out.2.2.2.1.ext hWo,HV.out.2.2.2.2.trans hWo⟩))));clear hB3 hI5 hn5 hWo hno hch
     go_wp2_with fail
     go_meet
     exact ⟨G,b3,a3,n3,c3,rfl,Hend.out⟩
   case rest =>
   obtain ⟨G,b3,a3,n3,c3,rfl,hB3,hI3,hn3,hV3⟩:=hcut;obtain ⟨W,rfl⟩:∃ W:World,W=wc:=⟨_,rfl⟩;clear HMu HV y0 y1 l0 l1 lH lB q4 q5 q5n;have HV:=Lh hV3;have HI3:=Lh hI3;have Hn3:=Lh hn3;have l0:=hB3.c0;have l1:=hB3.c1;have lG:=hB3.lt;clear hV3 hI3 hn3 hB3;have lO:=HV.out.1.lt;obtain ⟨k,hk⟩:∃ k,i+j=k:=⟨_,rfl⟩
   have wij:IntKind.i64.wrap ((i:Int)+(j:Int))=(k:Int):=by have:=Hi7.out;rw [IntKind.wrap_i64];omega
   by_cases hk8:k<8
   ·have q6:(k:Int)<8:=by omega
    have q7:(0:Int)<=(k:Int):=by omega
    obtain ⟨m,rfl⟩:∃ m,m=k:=⟨_,rfl⟩;obtain ⟨b4,a4,n4,c4,y0,y1,_,_,hI4⟩:=HV.out.1.get m hk8;have hn4:n4<=P1+P2+6:=hI4.bits (Hab.out i j Hi7.out (by have:=Hlt.out;omega) m hk8);have Hm8:=Lh hk8;have Hk:=Lh hk;clear hk hk8;have HAd:=Lh (fun wx (hx:Ext W wx)=>ZAdd_any b4 b3 a4 a3 n4 c4 n3 c3 (mulN (prN X Y i) i (X i) Y j m) (X i*Y j) wx (hI4.ext hx) (HI3.out.ext hx) (by have:=HP.out;omega) (by have:=HP.out;have:=Hn3.out;omega));clear hI4 hn4
    go_upto_region 14 with fail
    have hd0:Ext W W.drew:=Below.drew (Ext.refl _);refine wp_region_K 13 (fun w'=>(w'.cell? ⟨O,m*2,none⟩=some (.bool b4)/\w'.cell? ⟨O,m*2+1,none⟩=some (.slice a4 n4 c4))/\w'.cell? ⟨G,0,none⟩=some (.bool b3)/\w'.cell? ⟨G,1,none⟩=some (.slice a3 n3 c3)) (by kernel_rfl) ?_
    show anyK _ _ _ _ _ _ 14 #[false,false,false,false,false,false,false,false,false,false,false,false,false,false] _ _
    have hHeld:(W.drew.cell? ⟨O,m*2,none⟩=some (.bool b4)/\W.drew.cell? ⟨O,m*2+1,none⟩=some (.slice a4 n4 c4))/\W.drew.cell? ⟨G,0,none⟩=some (.bool b3)/\W.drew.cell? ⟨G,1,none⟩=some (.slice a3 n3 c3):=⟨⟨cellKeep hd0 lO y0,cellKeep hd0 lO y1⟩,cellKeep hd0 lG l0,cellKeep hd0 lG l1⟩;refine kT 0 14 (v:=?_) rfl (Or.inl ⟨by rfl,?_⟩) hHeld ?_;rotate_left 1
    ·intro w hSw
     go_simp
     try with_reducible rfl
    show anyK _ _ _ _ _ _ _ _ (Act.put _ (some 60) _) _
    simp only [Act.put,sx0,sx1,sx2];refine kT 1 14 (v:=?_) rfl (Or.inl ⟨by rfl,?_⟩) hHeld ?_;rotate_left 1
    ·intro w hSw
     go_simp
     try with_reducible rfl
    show anyK _ _ _ _ _ _ _ _ (Act.put _ (some 61) _) _
    simp only [Act.put,sx0,sx1,sx2];refine kT 2 14 (v:=?_) rfl (Or.inl ⟨by rfl,?_⟩) hHeld ?_;rotate_left 1
    ·intro w hSw
     go_simp
     try with_reducible rfl
    show anyK _ _ _ _ _ _ _ _ (Act.put _ (some 62) _) _
    simp only [Act.put,sx0,sx1,sx2];refine kT 3 14 (v:=?_) rfl (Or.inl ⟨by rfl,?_⟩) hHeld ?_;rotate_left 1
    ·intro w hSw
     go_simp
     try with_reducible rfl
    show anyK _ _ _ _ _ _ _ _ (Act.put _ (some 63) _) _
    simp only [Act.put,sx0,sx1,sx2];refine kT 4 14 (v:=?_) rfl (Or.inl ⟨by rfl,?_⟩) hHeld ?_;rotate_left 1
    ·intro w hSw
     go_simp
     try with_reducible rfl
    show anyK _ _ _ _ _ _ _ _ (Act.put _ (some 64) _) _
    simp only [Act.put,sx0,sx1,sx2];refine kT 5 14 (v:=?_) rfl (Or.inl ⟨by rfl,?_⟩) hHeld ?_;rotate_left 1
    ·intro w hSw
     go_simp
     try with_reducible rfl
    show anyK _ _ _ _ _ _ _ _ (Act.put _ (some 65) _) _
    simp only [Act.put,sx0,sx1,sx2];refine kT 6 14 (v:=?_) rfl (Or.inl ⟨by rfl,?_⟩) hHeld ?_;rotate_left 1
    ·intro w hSw
     go_simp
     try with_reducible rfl
    show anyK _ _ _ _ _ _ _ _ (Act.put _ (some 66) _) _
    simp only [Act.put,sx0,sx1,sx2];refine kT 7 14 (v:=?_) rfl (Or.inl ⟨by rfl,?_⟩) hHeld ?_;rotate_left 1
    ·intro w hSw
     go_simp
     try with_reducible rfl
    show anyK _ _ _ _ _ _ _ _ (Act.put _ (some 67) _) _
    simp only [Act.put,sx0,sx1,sx2];refine kT 8 14 (v:=?_) rfl (Or.inl ⟨by rfl,?_⟩) hHeld ?_;rotate_left 1
    ·intro w hSw
     go_simp
     try with_reducible rfl
    show anyK _ _ _ _ _ _ _ _ (Act.put _ (some 68) _) _
    simp only [Act.put,sx0,sx1,sx2];refine kT 9 14 (v:=?_) rfl (Or.inl ⟨by rfl,?_⟩) hHeld ?_;rotate_left 1
    ·intro w hSw
     go_simp
     try with_reducible rfl
    show anyK _ _ _ _ _ _ _ _ (Act.put _ (some 69) _) _
    simp only [Act.put,sx0,sx1,sx2];refine kT 11 14 (v:=?_) rfl (Or.inl ⟨by rfl,?_⟩) hHeld ?_;rotate_left 1
    ·intro w hSw
     go_simp
     try with_reducible rfl
    show anyK _ _ _ _ _ _ _ _ (Act.put _ (some 71) _) _
    simp only [Act.put,sx0,sx1,sx2];clear hHeld;refine anyK_one (i:=10) (by kernel_rfl) rfl (fun Kk hKk=>?_)
    go_simp
    (go_at_call 72;refine (HAd.out W.drew hd0).mono ?_;rintro e w5 ⟨b5,a5,n5,c5,rfl,hI5,_,hx5⟩)
    have he5:=hd0.trans hx5
    go_wp2_with fail
    refine hKk.out _ _ (fun _=>⟨⟨cellKeep he5 lO y0,cellKeep he5 lO y1⟩,cellKeep he5 lG l0,cellKeep he5 lG l1⟩) ?_;clear hKk Kk;simp only [sx0,sx1,sx2];have hHeld:(w5.cell? ⟨O,m*2,none⟩=some (.bool b4)/\w5.cell? ⟨O,m*2+1,none⟩=some (.slice a4 n4 c4))/\w5.cell? ⟨G,0,none⟩=some (.bool b3)/\w5.cell? ⟨G,1,none⟩=some (.slice a3 n3 c3):=⟨⟨cellKeep he5 lO y0,cellKeep he5 lO y1⟩,cellKeep he5 lG l0,cellKeep he5 lG l1⟩;refine kT 12 14 (v:=?_) rfl (Or.inl ⟨by rfl,?_⟩) hHeld ?_;rotate_left 1
    ·intro w hSw
     go_simp
     try with_reducible rfl
    show anyK _ _ _ _ _ _ _ _ (Act.put _ (some 72) _) _
    simp only [Act.put,sx0,sx1,sx2];clear hHeld;have hV2:=HV.out.1.ext he5;obtain ⟨_,_,_,_,z0,z1,fz0,fz1,_⟩:=hV2.get m Hm8.out;obtain ⟨hs,hch⟩:=hV2.set m Hm8.out hI5;refine anyK_one (i:=13) (by kernel_rfl) rfl (fun Kk hKk=>?_);refine stepK_storeZ rfl rfl _ _ rfl O (m*2) b5 a5 n5 c5 _ _ rfl rfl z0 z1 fz0 fz1 ?_;refine hKk.out _ _ (fun h=>Bool.noConfusion (show true=false from h)) ?_;clear hKk Kk;simp only [sx0,sx1,sx2];refine anyK_done (by kernel_rfl) ?_ _
    have Hend:=Lh (show ZVar Qc ((w5.setCell ⟨O,m*2,none⟩ (.bool b5)).setCell ⟨O,m*2+1,none⟩ (.slice a5 n5 c5)) O (mulN (prN X Y i) i (X i) Y (j+1)) (es:Int)/\ZVar Qc ((w5.setCell ⟨O,m*2,none⟩ (.bool b5)).setCell ⟨O,m*2+1,none⟩ (.slice a5 n5 c5)) H X (ex:Int)/\ZVar Qc ((w5.setCell ⟨O,m*2,none⟩ (.bool b5)).setCell ⟨O,m*2+1,none⟩ (.slice a5 n5 c5)) (H+1) Y (ey:Int)/\ZVar Qc ((w5.setCell ⟨O,m*2,none⟩ (.bool b5)).setCell ⟨O,m*2+1,none⟩ (.slice a5 n5 c5)) (H+2) (fun _=>0) 0/\Ext w ((w5.setCell ⟨O,m*2,none⟩ (.bool b5)).setCell ⟨O,m*2+1,none⟩ (.slice a5 n5 c5)) from
     ⟨hs.congr fun t _=>by
      have hk:=Hk.out;have:=Hm8.out;simp only [mulN,addN]
      rw [show (((i:Int)+(j:Int)) % 8).toNat=m by omega,show sgK ((i:Int)+(j:Int)) (X i*Y j)=X i*Y j by unfold sgK;rw [if_pos (by omega)]],(HV.out.2.1.ext he5).chz hch hV2.no (by have:=HO.out;omega),(HV.out.2.2.1.ext he5).chz hch hV2.no (by have:=HO.out;omega),(HV.out.2.2.2.1.ext he5).chz hch hV2.no (by have:=HO.out;omega),hch.ext (HV.out.2.2.2.2.trans he5) (by have:=HO.out;rw [HH.out];omega)⟩)
    clear hs hch hV2 hI5 hx5 he5 hd0 HAd HV y0 y1 l0 l1 lO lG z0 z1 fz0 fz1;generalize ((w5.setCell ⟨O,m*2,none⟩ (.bool b5)).setCell ⟨O,m*2+1,none⟩ (.slice a5 n5 c5))=V at *
    go_wp2_with fail
    go_roundg (8-(j+1))
    case measure=>have:=Hjk.out;have:=Hj1.out;omega
    case rel=>exact ⟨j+1,rfl,Hj1.out,rfl,Hend.out⟩
   ·have q6:¬ (k:Int)<8:=by omega
    obtain ⟨m,hm⟩:∃ m,k=m+8:=⟨k-8,by omega⟩
    have hm8:m<8:=by have:=Hi7.out;have:=Hlt.out;omega
    have wm:IntKind.i64.wrap ((k:Int)-8)=(m:Int):=by have:=Hi7.out;have:=Hlt.out;rw [IntKind.wrap_i64];omega
    have q7:(0:Int)<=(m:Int):=by omega
    have q8:(m:Int)<8:=by omega
    obtain ⟨b4,a4,n4,c4,y0,y1,_,_,hI4⟩:=HV.out.1.get m hm8;have hn4:n4<=P1+P2+6:=hI4.bits (Hab.out i j Hi7.out (by have:=Hlt.out;omega) m hm8);have Hm8:=Lh hm8;have Hk:=Lh (show i+j=m+8 by omega);clear hk hk8 hm hm8;have HAd:=Lh (fun wx (hx:Ext W wx)=>ZSub_any b4 b3 a4 a3 n4 c4 n3 c3 (mulN (prN X Y i) i (X i) Y j m) (X i*Y j) wx (hI4.ext hx) (HI3.out.ext hx) (by have:=HP.out;omega) (by have:=HP.out;have:=Hn3.out;omega));clear hI4 hn4
    go_upto_region 15 with fail
    have hd0:Ext W W.drew:=Below.drew (Ext.refl _);refine wp_region_K 15 (fun w'=>(w'.cell? ⟨O,m*2,none⟩=some (.bool b4)/\w'.cell? ⟨O,m*2+1,none⟩=some (.slice a4 n4 c4))/\w'.cell? ⟨G,0,none⟩=some (.bool b3)/\w'.cell? ⟨G,1,none⟩=some (.slice a3 n3 c3)) (by kernel_rfl) ?_
    show anyK _ _ _ _ _ _ 16 #[false,false,false,false,false,false,false,false,false,false,false,false,false,false,false,false] _ _
    have hHeld:(W.drew.cell? ⟨O,m*2,none⟩=some (.bool b4)/\W.drew.cell? ⟨O,m*2+1,none⟩=some (.slice a4 n4 c4))/\W.drew.cell? ⟨G,0,none⟩=some (.bool b3)/\W.drew.cell? ⟨G,1,none⟩=some (.slice a3 n3 c3):=⟨⟨cellKeep hd0 lO y0,cellKeep hd0 lO y1⟩,cellKeep hd0 lG l0,cellKeep hd0 lG l1⟩;refine kT 0 16 (v:=?_) rfl (Or.inl ⟨by rfl,?_⟩) hHeld ?_;rotate_left 1
    ·intro w hSw
     go_simp
     try with_reducible rfl
    show anyK _ _ _ _ _ _ _ _ (Act.put _ (some 73) _) _
    simp only [Act.put,sx0,sx1,sx2];refine kT 1 16 (v:=?_) rfl (Or.inl ⟨by rfl,?_⟩) hHeld ?_;rotate_left 1
    ·intro w hSw
     go_simp
     try with_reducible rfl
    show anyK _ _ _ _ _ _ _ _ (Act.put _ (some 74) _) _
    simp only [Act.put,sx0,sx1,sx2];refine kT 2 16 (v:=?_) rfl (Or.inl ⟨by rfl,?_⟩) hHeld ?_;rotate_left 1
    ·intro w hSw
     go_simp
     try with_reducible rfl
    show anyK _ _ _ _ _ _ _ _ (Act.put _ (some 75) _) _
    simp only [Act.put,sx0,sx1,sx2];refine kT 3 16 (v:=?_) rfl (Or.inl ⟨by rfl,?_⟩) hHeld ?_;rotate_left 1
    ·intro w hSw
     go_simp
     try with_reducible rfl
    show anyK _ _ _ _ _ _ _ _ (Act.put _ (some 76) _) _
    simp only [Act.put,sx0,sx1,sx2];refine kT 4 16 (v:=?_) rfl (Or.inl ⟨by rfl,?_⟩) hHeld ?_;rotate_left 1
    ·intro w hSw
     go_simp
     try with_reducible rfl
    show anyK _ _ _ _ _ _ _ _ (Act.put _ (some 77) _) _
    simp only [Act.put,sx0,sx1,sx2];refine kT 5 16 (v:=?_) rfl (Or.inl ⟨by rfl,?_⟩) hHeld ?_;rotate_left 1
    ·intro w hSw
     go_simp
     try with_reducible rfl
    show anyK _ _ _ _ _ _ _ _ (Act.put _ (some 78) _) _
    simp only [Act.put,sx0,sx1,sx2];refine kT 6 16 (v:=?_) rfl (Or.inl ⟨by rfl,?_⟩) hHeld ?_;rotate_left 1
    ·intro w hSw
     go_simp
     try with_reducible rfl
    show anyK _ _ _ _ _ _ _ _ (Act.put _ (some 79) _) _
    simp only [Act.put,sx0,sx1,sx2];refine kT 7 16 (v:=?_) rfl (Or.inl ⟨by rfl,?_⟩) hHeld ?_;rotate_left 1
    ·intro w hSw
     go_simp
     try with_reducible rfl
    show anyK _ _ _ _ _ _ _ _ (Act.put _ (some 80) _) _
    simp only [Act.put,sx0,sx1,sx2];refine kT 8 16 (v:=?_) rfl (Or.inl ⟨by rfl,?_⟩) hHeld ?_;rotate_left 1
    ·intro w hSw
     go_simp
     try with_reducible rfl
    show anyK _ _ _ _ _ _ _ _ (Act.put _ (some 81) _) _
    simp only [Act.put,sx0,sx1,sx2];refine kT 9 16 (v:=?_) rfl (Or.inl ⟨by rfl,?_⟩) hHeld ?_;rotate_left 1
    ·intro w hSw
     go_simp
     try with_reducible rfl
    show anyK _ _ _ _ _ _ _ _ (Act.put _ (some 82) _) _
    simp only [Act.put,sx0,sx1,sx2];refine kT 10 16 (v:=?_) rfl (Or.inl ⟨by rfl,?_⟩) hHeld ?_;rotate_left 1
    ·intro w hSw
     go_simp
     try with_reducible rfl
    show anyK _ _ _ _ _ _ _ _ (Act.put _ (some 83) _) _
    simp only [Act.put,sx0,sx1,sx2];refine kT 11 16 (v:=?_) rfl (Or.inl ⟨by rfl,?_⟩) hHeld ?_;rotate_left 1
    ·intro w hSw
     go_simp
     try with_reducible rfl
    show anyK _ _ _ _ _ _ _ _ (Act.put _ (some 84) _) _
    simp only [Act.put,sx0,sx1,sx2];refine kT 13 16 (v:=?_) rfl (Or.inl ⟨by rfl,?_⟩) hHeld ?_;rotate_left 1
    ·intro w hSw
     go_simp
     try with_reducible rfl
    show anyK _ _ _ _ _ _ _ _ (Act.put _ (some 86) _) _
    simp only [Act.put,sx0,sx1,sx2];clear hHeld;refine anyK_one (i:=12) (by kernel_rfl) rfl (fun Kk hKk=>?_)
    go_simp
    (go_at_call 109;refine (HAd.out W.drew hd0).mono ?_;rintro e w5 ⟨b5,a5,n5,c5,rfl,hI5,_,hx5⟩)
    have he5:=hd0.trans hx5
    go_wp2_with fail
    refine hKk.out _ _ (fun _=>⟨⟨cellKeep he5 lO y0,cellKeep he5 lO y1⟩,cellKeep he5 lG l0,cellKeep he5 lG l1⟩) ?_;clear hKk Kk;simp only [sx0,sx1,sx2];have hHeld:(w5.cell? ⟨O,m*2,none⟩=some (.bool b4)/\w5.cell? ⟨O,m*2+1,none⟩=some (.slice a4 n4 c4))/\w5.cell? ⟨G,0,none⟩=some (.bool b3)/\w5.cell? ⟨G,1,none⟩=some (.slice a3 n3 c3):=⟨⟨cellKeep he5 lO y0,cellKeep he5 lO y1⟩,cellKeep he5 lG l0,cellKeep he5 lG l1⟩;refine kT 14 16 (v:=?_) rfl (Or.inl ⟨by rfl,?_⟩) hHeld ?_;rotate_left 1
    ·intro w hSw
     go_simp
     try with_reducible rfl
    show anyK _ _ _ _ _ _ _ _ (Act.put _ (some 87) _) _
    simp only [Act.put,sx0,sx1,sx2];clear hHeld;have hV2:=HV.out.1.ext he5;obtain ⟨_,_,_,_,z0,z1,fz0,fz1,_⟩:=hV2.get m Hm8.out;obtain ⟨hs,hch⟩:=hV2.set m Hm8.out hI5;refine anyK_one (i:=15) (by kernel_rfl) rfl (fun Kk hKk=>?_);refine stepK_storeZ rfl rfl _ _ rfl O (m*2) b5 a5 n5 c5 _ _ rfl rfl z0 z1 fz0 fz1 ?_;refine hKk.out _ _ (fun h=>Bool.noConfusion (show true=false from h)) ?_;clear hKk Kk;simp only [sx0,sx1,sx2];refine anyK_done (by kernel_rfl) ?_ _
    have Hend:=Lh (show ZVar Qc ((w5.setCell ⟨O,m*2,none⟩ (.bool b5)).setCell ⟨O,m*2+1,none⟩ (.slice a5 n5 c5)) O (mulN (prN X Y i) i (X i) Y (j+1)) (es:Int)/\ZVar Qc ((w5.setCell ⟨O,m*2,none⟩ (.bool b5)).setCell ⟨O,m*2+1,none⟩ (.slice a5 n5 c5)) H X (ex:Int)/\ZVar Qc ((w5.setCell ⟨O,m*2,none⟩ (.bool b5)).setCell ⟨O,m*2+1,none⟩ (.slice a5 n5 c5)) (H+1) Y (ey:Int)/\ZVar Qc ((w5.setCell ⟨O,m*2,none⟩ (.bool b5)).setCell ⟨O,m*2+1,none⟩ (.slice a5 n5 c5)) (H+2) (fun _=>0) 0/\Ext w ((w5.setCell ⟨O,m*2,none⟩ (.bool b5)).setCell ⟨O,m*2+1,none⟩ (.slice a5 n5 c5)) from
     ⟨hs.congr fun t _=>by
      have hk:=Hk.out;have:=Hm8.out;simp only [mulN,addN]
      rw [show (((i:Int)+(j:Int)) % 8).toNat=m by omega,show sgK ((i:Int)+(j:Int)) (X i*Y j)=-(X i*Y j) by unfold sgK;rw [if_neg (by omega)],Int.sub_eq_add_neg],(HV.out.2.1.ext he5).chz hch hV2.no (by have:=HO.out;omega),(HV.out.2.2.1.ext he5).chz hch hV2.no (by have:=HO.out;omega),(HV.out.2.2.2.1.ext he5).chz hch hV2.no (by have:=HO.out;omega),hch.ext (HV.out.2.2.2.2.trans he5) (by have:=HO.out;rw [HH.out];omega)⟩)
    clear hs hch hV2 hI5 hx5 he5 hd0 HAd HV y0 y1 l0 l1 lO lG z0 z1 fz0 fz1;generalize ((w5.setCell ⟨O,m*2,none⟩ (.bool b5)).setCell ⟨O,m*2+1,none⟩ (.slice a5 n5 c5))=V at *
    go_wp2_with fail
    go_roundg (8-(j+1))
    case measure=>have:=Hjk.out;have:=Hj1.out;omega
    case rel=>exact ⟨j+1,rfl,Hj1.out,rfl,Hend.out⟩
end Go.Proofs.YtfjnlopbmkimiaaGreatDoor
