/-
  The program: an operation of a run of stabilizers, without conditions. The program: a run begins. The program: a run begins: its group is that of a basis state. Both sides: stabilizer operations, measurements and resets among them, are found so. The program: what a run of stabilizers is asked first. In plain lists: behind an outcome the rows commute, each with its dual. The program: any stabilizer operation of a run; what stays true of a run. The program: a run of stabilizers. In plain lists: the group of a basis state.
-/
import Derived.Test.YtlechhmhmakgpaaGreatDoorS20Ls
namespace Go.Proofs.YtlechhmhmakgpaaGreatDoor
set_option maxRecDepth 100000
set_option maxHeartbeats 8000000
open Go.RowKit
theorem doG_any {u w:World} {R g B n cg nb cb:Nat} {ta:Option Addr} {nt ct:Nat} {tape:List Int} {s:TR} (h:RuS u w R g B n cg nb cb ta nt ct tape s) (hg:GoodS s.l) (hl:s.l.length=n) (hn:n<=15)
  {o:Gop} (ho:MOk n o) (a1:Option Addr) (n1 c1:Nat) (a2:Option Addr) (c2:Nat) (hI:IntsAt u a1 n1 o.ctl) :
  Calls Tryz.prog 36 #[.pointer (some ⟨R,0,none⟩),.agg #[.int .i64 o.kind,.int .i64 o.k,.slice a1 n1 c1,.int .i64 o.q,.int .i64 o.bit,.slice a2 0 c2]] w fun e w'=>LkR u R g B n cg nb cb ta nt ct tape (⟨s.l.map (actN o),s.bits,s.used⟩,0) e w':=by
 have HGo:=Lh (fun wx (hx:Ext u wx)=>GateM_any (by omega) ho a1 n1 c1 a2 0 c2 wx (hI.ext hx));have hkd:=ho.n.kind;obtain ⟨A,hA⟩:∃ A,actN o=A:=⟨_,rfl⟩;rw [hA] at HGo ⊢;obtain ⟨kd,k,ctl,q,bt,cnd⟩:=o;simp only at HGo hkd ⊢
 have q5:(kd == 5)=false:=by simp;omega
 have q6:(kd == 6)=false:=by simp;omega
 have p5:¬ kd=5:=by omega
 have p6:¬ kd=6:=by omega
 have bx:=opbx_new w kd k a1 n1 c1 q bt a2 0 c2;have E0:=ext_al w (.cells #[.int .i64 kd,.int .i64 k,.slice a1 n1 c1,.int .i64 q,.int .i64 bt,.slice a2 0 c2] 52);obtain ⟨H,hH⟩:∃ H,w.heap.size=H:=⟨_,rfl⟩;obtain ⟨W0,hW0⟩:∃ V,w.alloc (.cells #[.int .i64 kd,.int .i64 k,.slice a1 n1 c1,.int .i64 q,.int .i64 bt,.slice a2 0 c2] 52)=V:=⟨_,rfl⟩;rw [hW0] at bx E0;rw [hH] at bx;have HR:=Lh (h.ext E0);have HB:=Lh bx;have HW0:=Lh hW0;have HH:=Lh hH;have Hg:=Lh hg;have Hl:=Lh hl;have Hn:=Lh hn;have HM:=Lh (fun wx=>meets0_any (.pointer (some ⟨R,0,none⟩)) a2 c2 wx ⟨_,rfl⟩);have HHlt:=Lh (show g≠H by have:=h.gr.lt;omega);have kk:=bx.x5;clear h bx E0 hW0 hH hg hl hn hkd hA ho hI
 go_enter Tryz.func36,Tryz.ntmps36
 go_upto_region 1 with fail
 rw [HW0.out,HH.out]
 go_wp2_with fail
 refine (HM.out _).mono ?_;rintro e w1 ⟨rfl,x1⟩;have HR:=Lh (HR.out.ext x1);have HB:=Lh (HB.out.ext x1);have k0:=HB.out.x0;clear x1 kk
 go_upto_region 5 with fail
 have HP:=Lh (fun wx (x:Value) (hw:Ext w1 wx) (hx:GateV w1.heap.size wx x A)=>pass_any s.l Hg.out.ok A x g n cg w1.heap.size wx (HR.out.gr.ext hw) Hl.out (by have:=Hn.out;omega) HR.out.gr.lt hx);have he0:Ext w1 w1.drew:=Below.drew (Ext.refl _)
 have HSS:∀ w',Ext w1 w'->w'.cell? ⟨R,0,none⟩=some (.slice (some ⟨g,0,none⟩) n cg)/\OpBx w' H kd k a1 n1 c1 q bt a2 0 c2:=fun w' hx=>⟨(HR.out.ext hx).x0,HB.out.ext hx⟩
 clear k0;refine wp_region_held (S:=fun w'=>w'.cell? ⟨R,0,none⟩=some (.slice (some ⟨g,0,none⟩) n cg)/\OpBx w' H kd k a1 n1 c1 q bt a2 0 c2) (by kernel_rfl) ?_
 have hA:∀ ops,FlsA Tryz.prog ops []:=fun _=>⟨fun _ h=>(by cases h),by simp⟩
 refine FloA.start [] 7 7 7 (.move HSS he0 0 23 (.pointer (some ⟨R,0,none⟩)) rfl ?_);refine .move HSS he0 1 24 (.pointer (some ⟨R,0,none⟩)) rfl ?_;refine .move HSS he0 2 25 (.pointer (some ⟨R,0,none⟩)) rfl ?_;refine .take HSS he0 3 26 (.slice (some ⟨g,0,none⟩) n cg) rfl (fun _ _ h=>exec_cellA h.1 Tryz.underlying72) ?_;refine .take HSS he0 4 27 (.agg #[.int .i64 kd,.int .i64 k,.slice a1 n1 c1,.int .i64 q,.int .i64 bt,.slice a2 0 c2]) rfl (fun _ _ h=>exec_rowA h.2.row Tryz.underlying52 (by kernel_rfl)) ?_
 refine .call (hA _) HSS he0 5 28 rfl _ _ (R:=fun x w'=>GateV w1.heap.size w' x A) (fun wx hx=>(HGo.out wx (HR.out.e.trans (he0.trans hx))).mono fun _ _ h=>by
  obtain ⟨x,h1,h2,h3⟩:=h
  exact ⟨_,h1,h3.down (he0.trans hx).size,h2⟩) ?_
 rintro _ w6 hx6 x6;have e6:=he0.trans x6;refine .done (hA _) HSS e6 ?_;intro wy hy st hst hl;have hEy:=e6.trans hy;simp only [frA,fbA,List.map_nil,List.nil_append,List.foldr,sx0,sx1,sx2];refine anyH_oneA (i:=6) (by kernel_rfl) rfl (fun Kk hKk=>?_)
 refine stepK_callG 29 rfl (by kernel_rfl) (by kernel_rfl) (R:=fun _ w'=>RuS u w' R g B n cg nb cb ta nt ct tape ⟨s.l.map A,s.bits,s.used⟩/\OpBx w' H kd k a1 n1 c1 q bt a2 0 c2) ((HP.out wy _ hEy (hx6.ext hy)).mono fun _ _ h=>by
  obtain ⟨⟨x,h1⟩,h2,h3⟩:=h
  exact ⟨x,h1,(HR.out.ext hEy).tur h2 h3,⟨(h2.block H (HB.out.ext hEy).lt (Ne.symm HHlt.out)).trans (HB.out.ext hEy).row⟩⟩) ?_
 rintro vx w7 ⟨hr7,hb7⟩;refine hKk.out _ _ ⟨hr7.x0,hb7⟩ ?_;clear hKk Kk;refine wpAnyH_done (by kernel_rfl) ?_ _;simp only [sx0,sx1,sx2];have HR7:=Lh hr7;clear hr7 hb7 hEy hy hst hl hx6 x6 e6 HSS hA he0
 go_wp2_with fail
 go_ret
 exact ⟨rfl,HR7.out⟩
theorem doL_any {u w:World} {R g B n cg nb cb:Nat} {ta:Option Addr} {nt ct:Nat} {tape:List Int} {s:TR} (h:RuS u w R g B n cg nb cb ta nt ct tape s) (hg:GoodS s.l) (hl:s.l.length=n) (hn:n<=15) (hc:n<=cg) (hu:s.used<=nt) (hnt:nt<=9223372036854775806)
  (kd:Int) (q:Nat) (bt:Nat) (hk:kd=5\/kd=6) (hq:q<n) (hb:kd=5->bt<nb) (a1:Option Addr) (n1 c1:Nat) (a2:Option Addr) (c2:Nat) :
  Calls Tryz.prog 36 #[.pointer (some ⟨R,0,none⟩),.agg #[.int .i64 kd,.int .i64 0,.slice a1 n1 c1,.int .i64 (q:Int),.int .i64 (bt:Int),.slice a2 0 c2]] w fun e w'=>LkR u R g B n cg nb cb ta nt ct tape (lookT tape ⟨kd,0,[],q,bt,[]⟩ s) e w':=by
 have bx:=opbx_new w kd 0 a1 n1 c1 (q:Int) (bt:Int) a2 0 c2;have E0:=ext_al w (.cells #[.int .i64 kd,.int .i64 0,.slice a1 n1 c1,.int .i64 (q:Int),.int .i64 (bt:Int),.slice a2 0 c2] 52);obtain ⟨H,hH⟩:∃ H,w.heap.size=H:=⟨_,rfl⟩;obtain ⟨W0,hW0⟩:∃ V,w.alloc (.cells #[.int .i64 kd,.int .i64 0,.slice a1 n1 c1,.int .i64 (q:Int),.int .i64 (bt:Int),.slice a2 0 c2] 52)=V:=⟨_,rfl⟩;rw [hW0] at bx E0;rw [hH] at bx;have HR:=Lh (h.ext E0);have HB:=Lh bx;have HW0:=Lh hW0;have HH:=Lh hH;have HM:=Lh (fun wx=>meets0_any (.pointer (some ⟨R,0,none⟩)) a2 c2 wx ⟨_,rfl⟩);have HLk:=Lh (fun wx hx=>look_any (HR.out.ext (w':=wx) hx) hg hl hn hc hu hnt kd q bt hk hq hb [] [] a1 n1 c1 a2 0 c2);have kk:=bx.x5;clear h bx E0 hW0 hH hg hl hn hc hu hnt hq hb
 go_enter Tryz.func36,Tryz.ntmps36
 go_upto_region 1 with fail
 rw [HW0.out,HH.out]
 go_wp2_with fail
 refine (HM.out _).mono ?_;rintro e w1 ⟨rfl,x1⟩;have HB:=Lh (HB.out.ext x1);have HX1:=Lh x1;have k0:=HB.out.x0;have r1:=HB.out.row;clear x1 kk
 rcases hk with rfl | rfl
 all_goals
  go_wp2_with (refine wpList_load_row rfl 52 _ rfl H rfl 52 _ (0,0) _ r1 Tryz.underlying52 rfl (by kernel_rfl) ?_)
  refine (HLk.out _ HX1.out).mono ?_;rintro e w2 ⟨rfl,hr2⟩;have HR2:=Lh hr2;clear hr2 k0 r1
  go_wp2_with fail
  go_ret
  exact ⟨rfl,HR2.out⟩
theorem int_infoT:(Tryz.prog.info? 3).map (fun i=>(i.zero,i.size,i.bytes))=some (some (.int .i64 0),1,8):=by kernel_rfl
theorem run_makeIT (n:Nat) (hn:n<=100) (w:World):(Instr.makeSlice 25 (.int .i64 (n:Int)) (.int .i64 (n:Int))).run Tryz.prog w=.ok (.slice (some ⟨w.heap.size,0,none⟩) n n) (w.alloc (.cells (List.replicate n (Value.int .i64 0)).toArray 3)):=by
 obtain ⟨i0,hi,hz0,hz1,hz2⟩:=info_parts int_infoT;have:=run_makeSlice (P:=Tryz.prog) w 25 3 i0 (.int .i64 0) Tryz.underlying25 hi hz0 .i64 .i64 n n (by omega) (by omega) (by rw [hz1,Int.toNat_natCast];omega) (by rw [hz2];omega) (by omega)
 have hm:madeCells #[Value.int .i64 0] n=(List.replicate n (Value.int .i64 0)).toArray:=by
  apply Array.toList_inj.1
  rw [toList_madeCells_one]
 rw [this,hz1,<-hm,Int.toNat_natCast,Nat.mul_one]
 rfl
section
variable {P:Program} {md:Region.Mode} {ops:Array Oper} {Q:Exit->Act->World->Prop} {S:World->Prop}
theorem anyH_twoA {i j:Nat} {oi oj:Oper} {n:Nat} {l:Array Bool} {a:Act} {w:World} (hr:Region.ready md ops l=[i,j]) (hoi:ops[i]?=some oi) (hoj:ops[j]?=some oj)
  (hi:∀ K':Act->World->Prop,Shut (∀ a w,S w->wpAnyH P md ops Q S n (l.setIfInBounds i true) a w->K' a w)->if Region.wanted oi (yielded ops a.tmps)=true then Oper.wp P oi a w K' Q else K' (a.put oi.dst undef) w)
  (hj:∀ K':Act->World->Prop,Shut (∀ a w,S w->wpAnyH P md ops Q S n (l.setIfInBounds j true) a w->K' a w)->if Region.wanted oj (yielded ops a.tmps)=true then Oper.wp P oj a w K' Q else K' (a.put oj.dst undef) w) :
  wpAnyH P md ops Q S (n+1) l a w:=by
 refine ⟨fun h0=>(by rw [hr] at h0;cases h0),fun k hk=>?_⟩;rw [hr] at hk
 rcases List.mem_cons.1 hk with rfl | hk
 ·exact wpOp_step hoi (fun K' hK=>hi K' (fun a w hS hW=>hK a w ⟨hS,hW⟩))
 ·rcases List.mem_singleton.1 hk with rfl
  exact wpOp_step hoj (fun K' hK=>hj K' (fun a w hS hW=>hK a w ⟨hS,hW⟩))
theorem stepK_valM {o:Oper} {a:Act} {K:Act->World->Prop} {E:Prop} {w w':World} {v:Value} (d:Nat) (hd:o.dst=some d) (hw:Region.wanted o (yielded ops a.tmps)=true) (hrun:(execOp a.eval o).run P w=.ok (.value v) w') (h:K ⟨a.tmps.setIfInBounds d v,a.defers⟩ w') :
  if Region.wanted o (yielded ops a.tmps)=true then Oper.wp P o a w K Q else E:=by
 rw [if_pos hw];unfold Oper.wp;rw [hrun,Oper.upon_value,hd];exact h
end
theorem exec_makeIT {ρ:Operand->Value} {o:Oper} {x y:Operand} {n:Nat} (hn:n<=100) (w:World) (ho:o.op=.makeSlice 25 x y) (hx:ρ x=.int .i64 (n:Int)) (hy:ρ y=.int .i64 (n:Int)):(execOp ρ o).run Tryz.prog w=.ok (.value (.slice (some ⟨w.heap.size,0,none⟩) n n)) (w.alloc (.cells (List.replicate n (Value.int .i64 0)).toArray 3)):=by
 unfold execOp;simp only [ho,hx,hy,Sem.run_bind,Sem.run_pure,run_makeIT n hn w,Result.andThen_ok]
def StR (nq nb v:Nat) (ta:Option Addr) (nt ct:Nat) (tape:List Int) (w:World) (e:Ending) (w':World):Prop :=
 ∃ R g B cg,e=.returned (.pointer (some ⟨R,0,none⟩))/\RuS w w' R g B nq cg nb nb ta nt ct tape ⟨bsQ v nq,List.replicate nb 0,0⟩/\nq<=cg
theorem tstart_any (nq nb v:Nat) (h1:1<=nq) (hq:nq<=12) (hb:nb<=100) (hv:v<65536) (vo:Value) (ao:Option Addr) (no co:Nat) (hvo:vo=.slice ao no co) (ta:Option Addr) (nt ct:Nat) (tape:List Int) (w:World) (hT:IntsAt w ta nt tape) :
  Calls Tryz.prog 35 #[.agg #[.int .i64 (nq:Int),.int .i64 (nb:Int),vo],.int .i64 (v:Int),.slice ta nt ct] w fun e w'=>StR nq nb v ta nt ct tape w e w':=by
 subst hvo;obtain ⟨H,hH⟩:∃ H,w.heap.size=H:=⟨_,rfl⟩;have hr:=heap_alloc_new w (.cells #[.int .i64 (nq:Int),.int .i64 (nb:Int),.slice ao no co] 24);have E0:=ext_al w (.cells #[.int .i64 (nq:Int),.int .i64 (nb:Int),.slice ao no co] 24);obtain ⟨W0,hW0⟩:∃ V,w.alloc (.cells #[.int .i64 (nq:Int),.int .i64 (nb:Int),.slice ao no co] 24)=V:=⟨_,rfl⟩;rw [hW0] at hr E0;rw [hH] at hr;have HBs:=Lh (fun wx=>basis_any nq v hq h1 hv wx);have HE0:=Lh E0;have HW0:=Lh hW0;have HH:=Lh hH;have HTp:=Lh hT;have Hb:=Lh hb
 have HSS:∀ w',Ext W0 w'->w'.cell? ⟨H,0,none⟩=some (.int .i64 (nq:Int))/\w'.cell? ⟨H,1,none⟩=some (.int .i64 (nb:Int)):=fun w' hx=>⟨cell_ext (by rw [cell_of_row W0 H 0 _ _ (0,0) hr];rfl) hx,cell_ext (by rw [cell_of_row W0 H 1 _ _ (0,0) hr];rfl) hx⟩
 have HSH:=Lh HSS;clear hr E0 hW0 hH hT hb h1 hq hv HSS
 go_enter Tryz.func35,Tryz.ntmps35
 go_upto_region 1 with fail
 rw [HW0.out,HH.out];have HSS:=HSH.out;have he0:Ext W0 W0.drew:=Below.drew (Ext.refl _);refine wp_region_held (S:=fun w'=>w'.cell? ⟨H,0,none⟩=some (.int .i64 (nq:Int))/\w'.cell? ⟨H,1,none⟩=some (.int .i64 (nb:Int))) (by kernel_rfl) ?_
 have hA:∀ ops,FlsA Tryz.prog ops []:=fun _=>⟨fun _ h=>(by cases h),by simp⟩
 refine FloA.start [] 11 11 11 (.move HSS he0 0 7 (.pointer (some ⟨H,0,none⟩)) rfl ?_);refine .take HSS he0 1 8 (.int .i64 (nq:Int)) rfl (fun _ _ h=>exec_cellA h.1 Tryz.underlying3) ?_;refine .move HSS he0 2 9 (.int .i64 (v:Int)) rfl ?_;refine .move HSS he0 4 11 (.pointer (some ⟨H,1,none⟩)) rfl ?_;refine .take HSS he0 5 12 (.int .i64 (nb:Int)) rfl (fun _ _ h=>exec_cellA h.2 Tryz.underlying3) ?_;refine .move HSS he0 7 14 (.slice ta nt ct) rfl ?_;refine .done (hA _) HSS he0 ?_;intro wy hy st hst hl;have hEy:=he0.trans hy;simp only [frA,fbA,List.map_nil,List.nil_append,List.foldr,sx0,sx1,sx2];clear hst hl hy he0 hA;refine anyH_twoA (i:=3) (j:=6) (by kernel_rfl) rfl rfl (fun Kk hKk=>?_) (fun Kk hKk=>?_)
 ·refine stepK_callG 10 rfl (by kernel_rfl) (by kernel_rfl) (R:=fun x w'=>∃ g cg,x=.slice (some ⟨g,0,none⟩) nq cg/\nq<=cg/\wy.heap.size<=g/\GnB w' g (bsQ v nq)/\Ext wy w') ((HBs.out wy).mono fun _ _ h=>by
   obtain ⟨g,cg,h1,h2⟩:=h
   exact ⟨_,h1,g,cg,rfl,h2⟩) ?_
  rintro _ w3 ⟨g,cg,rfl,hcg,hg3,hgz,x3⟩;refine hKk.out _ _ (HSS _ (hEy.trans x3)) ?_;clear hKk Kk;simp only [sx0,sx1,sx2];refine anyH_oneA (i:=6) (by kernel_rfl) rfl (fun Kk hKk=>?_);have E6:=ext_al w3 (.cells (List.replicate nb (Value.int .i64 0)).toArray 3);have r6:=heap_alloc_new w3 (.cells (List.replicate nb (Value.int .i64 0)).toArray 3);refine stepK_valM (w':=w3.alloc (.cells (List.replicate nb (Value.int .i64 0)).toArray 3)) (v:=.slice (some ⟨w3.heap.size,0,none⟩) nb nb) 13 rfl (by kernel_rfl) (exec_makeIT Hb.out w3 rfl rfl rfl) ?_
  ·have hgl:w.heap.size<=g:=Nat.le_trans (HE0.out.trans hEy).size hg3
   have hBl:w.heap.size<=w3.heap.size:=((HE0.out.trans hEy).trans x3).size
   have hgB:g≠w3.heap.size:=by have:=hgz.lt;omega
   have hgz:=hgz.ext E6;have hEz:=(hEy.trans x3).trans E6;obtain ⟨wz,hwz⟩:∃ V,w3.alloc (.cells (List.replicate nb (Value.int .i64 0)).toArray 3)=V:=⟨_,rfl⟩;obtain ⟨B,hB⟩:∃ x,w3.heap.size=x:=⟨_,rfl⟩;rw [hwz] at hgz hEz r6 ⊢;rw [hB] at r6 hBl hgB ⊢;have hBz:=r6;clear E6 r6 hwz hB x3 hg3 hEy;have hEz:Ext W0 wz:=hEz;refine hKk.out _ _ (HSS _ hEz) ?_;clear hKk Kk;simp only [sx0,sx1,sx2];refine anyH_oneA (i:=8) (by kernel_rfl) rfl (fun Kk hKk=>?_);refine stepK_valG (v:=.agg #[.slice (some ⟨g,0,none⟩) nq cg,.slice (some ⟨B,0,none⟩) nb nb,.slice ta nt ct,.int .i64 0]) 15 rfl (by kernel_rfl) (by kernel_rfl) ?_;refine hKk.out _ _ (HSS _ hEz) ?_;clear hKk Kk;simp only [sx0,sx1,sx2];refine anyH_oneA (i:=9) (by kernel_rfl) rfl (fun Kk hKk=>?_);have E9:=ext_al wz (.cells #[.slice (some ⟨g,0,none⟩) nq cg,.slice (some ⟨B,0,none⟩) nb nb,.slice ta nt ct,.int .i64 0] 74);have r9:=heap_alloc_new wz (.cells #[.slice (some ⟨g,0,none⟩) nq cg,.slice (some ⟨B,0,none⟩) nb nb,.slice ta nt ct,.int .i64 0] 74);refine stepK_valM (w':=wz.alloc (.cells #[.slice (some ⟨g,0,none⟩) nq cg,.slice (some ⟨B,0,none⟩) nb nb,.slice ta nt ct,.int .i64 0] 74)) (v:=.pointer (some ⟨wz.heap.size,0,none⟩)) 16 rfl (by kernel_rfl) (by kernel_rfl) ?_;refine hKk.out _ _ (HSS _ (hEz.trans E9)) ?_;clear hKk Kk;simp only [sx0,sx1,sx2]
   have HRu:=Lh (show RuS w (wz.alloc (.cells #[.slice (some ⟨g,0,none⟩) nq cg,.slice (some ⟨B,0,none⟩) nb nb,.slice ta nt ct,.int .i64 0] 74)) wz.heap.size g B nq cg nb nb ta nt ct tape ⟨bsQ v nq,List.replicate nb 0,0⟩ from
    ⟨(HE0.out.trans hEz).trans E9,r9,hgz.ext E9,(E9.block B (gS.1 hBz).1).trans (by rw [hBz,List.map_replicate]),List.length_replicate,HTp.out,(HE0.out.trans hEz).size,hgl,hBl,(by have:=hgz.lt;omega),hgB,(by have:=(gS.1 hBz).1;omega)⟩)
   obtain ⟨W9,hW9⟩:∃ V,wz.alloc (.cells #[.slice (some ⟨g,0,none⟩) nq cg,.slice (some ⟨B,0,none⟩) nb nb,.slice ta nt ct,.int .i64 0] 74)=V:=⟨_,rfl⟩;have hS9:=HSS _ (hEz.trans E9);obtain ⟨Rn,hRn⟩:∃ x,wz.heap.size=x:=⟨_,rfl⟩;rw [hW9] at HRu hS9 ⊢;rw [hRn] at HRu ⊢;have Hc:=Lh hcg;clear E9 r9 hW9 hRn hgz hBz hgl hBl hgB hcg;refine anyH_oneA (i:=10) (by kernel_rfl) rfl (fun Kk hKk=>?_);refine stepK_valG (v:=.pointer (some ⟨Rn,0,none⟩)) 6 rfl (by kernel_rfl) (by kernel_rfl) ?_;refine hKk.out _ _ hS9 ?_;clear hKk Kk hS9 HSS;refine wpAnyH_done (by kernel_rfl) ?_ _;simp only [sx0,sx1,sx2]
   go_wp2_with fail
   go_ret
   exact ⟨Rn,g,B,cg,rfl,HRu.out,Hc.out⟩
 ·have E6:=ext_al wy (.cells (List.replicate nb (Value.int .i64 0)).toArray 3)
  have r6:=heap_alloc_new wy (.cells (List.replicate nb (Value.int .i64 0)).toArray 3);refine stepK_valM (w':=wy.alloc (.cells (List.replicate nb (Value.int .i64 0)).toArray 3)) (v:=.slice (some ⟨wy.heap.size,0,none⟩) nb nb) 13 rfl (by kernel_rfl) (exec_makeIT Hb.out wy rfl rfl rfl) ?_;refine hKk.out _ _ (HSS _ (hEy.trans E6)) ?_;clear hKk Kk;simp only [sx0,sx1,sx2];refine anyH_oneA (i:=3) (by kernel_rfl) rfl (fun Kk hKk=>?_);have hE6:=hEy.trans E6;have hBl:w.heap.size<=wy.heap.size:=(HE0.out.trans hEy).size;obtain ⟨w6,hw6⟩:∃ V,wy.alloc (.cells (List.replicate nb (Value.int .i64 0)).toArray 3)=V:=⟨_,rfl⟩;obtain ⟨B,hB⟩:∃ x,wy.heap.size=x:=⟨_,rfl⟩;rw [hw6] at hE6 r6 ⊢;rw [hB] at r6 hBl ⊢;have hB6:=(gS.1 r6).1
  refine stepK_callG 10 rfl (by kernel_rfl) (by kernel_rfl) (R:=fun x w'=>∃ g cg,x=.slice (some ⟨g,0,none⟩) nq cg/\nq<=cg/\w6.heap.size<=g/\GnB w' g (bsQ v nq)/\Ext w6 w') ((HBs.out w6).mono fun _ _ h=>by
   obtain ⟨g,cg,h1,h2⟩:=h
   exact ⟨_,h1,g,cg,rfl,h2⟩) ?_
  rintro _ wz ⟨g,cg,rfl,hcg,hg3,hgz,x3⟩
  ·have hgl:w.heap.size<=g:=Nat.le_trans (HE0.out.trans hE6).size hg3
   have hgB:g≠B:=by omega
   have hEz:=hE6.trans x3;have hBz:=(x3.block B hB6).trans r6;clear E6 r6 hw6 hB x3 hg3 hEy hE6 hB6;have hEz:Ext W0 wz:=hEz;refine hKk.out _ _ (HSS _ hEz) ?_;clear hKk Kk;simp only [sx0,sx1,sx2];refine anyH_oneA (i:=8) (by kernel_rfl) rfl (fun Kk hKk=>?_);refine stepK_valG (v:=.agg #[.slice (some ⟨g,0,none⟩) nq cg,.slice (some ⟨B,0,none⟩) nb nb,.slice ta nt ct,.int .i64 0]) 15 rfl (by kernel_rfl) (by kernel_rfl) ?_;refine hKk.out _ _ (HSS _ hEz) ?_;clear hKk Kk;simp only [sx0,sx1,sx2];refine anyH_oneA (i:=9) (by kernel_rfl) rfl (fun Kk hKk=>?_);have E9:=ext_al wz (.cells #[.slice (some ⟨g,0,none⟩) nq cg,.slice (some ⟨B,0,none⟩) nb nb,.slice ta nt ct,.int .i64 0] 74);have r9:=heap_alloc_new wz (.cells #[.slice (some ⟨g,0,none⟩) nq cg,.slice (some ⟨B,0,none⟩) nb nb,.slice ta nt ct,.int .i64 0] 74);refine stepK_valM (w':=wz.alloc (.cells #[.slice (some ⟨g,0,none⟩) nq cg,.slice (some ⟨B,0,none⟩) nb nb,.slice ta nt ct,.int .i64 0] 74)) (v:=.pointer (some ⟨wz.heap.size,0,none⟩)) 16 rfl (by kernel_rfl) (by kernel_rfl) ?_;refine hKk.out _ _ (HSS _ (hEz.trans E9)) ?_;clear hKk Kk;simp only [sx0,sx1,sx2]
   have HRu:=Lh (show RuS w (wz.alloc (.cells #[.slice (some ⟨g,0,none⟩) nq cg,.slice (some ⟨B,0,none⟩) nb nb,.slice ta nt ct,.int .i64 0] 74)) wz.heap.size g B nq cg nb nb ta nt ct tape ⟨bsQ v nq,List.replicate nb 0,0⟩ from
    ⟨(HE0.out.trans hEz).trans E9,r9,hgz.ext E9,(E9.block B (gS.1 hBz).1).trans (by rw [hBz,List.map_replicate]),List.length_replicate,HTp.out,(HE0.out.trans hEz).size,hgl,hBl,(by have:=hgz.lt;omega),hgB,(by have:=(gS.1 hBz).1;omega)⟩)
   obtain ⟨W9,hW9⟩:∃ V,wz.alloc (.cells #[.slice (some ⟨g,0,none⟩) nq cg,.slice (some ⟨B,0,none⟩) nb nb,.slice ta nt ct,.int .i64 0] 74)=V:=⟨_,rfl⟩;have hS9:=HSS _ (hEz.trans E9);obtain ⟨Rn,hRn⟩:∃ x,wz.heap.size=x:=⟨_,rfl⟩;rw [hW9] at HRu hS9 ⊢;rw [hRn] at HRu ⊢;have Hc:=Lh hcg;clear E9 r9 hW9 hRn hgz hBz hgl hBl hgB hcg;refine anyH_oneA (i:=10) (by kernel_rfl) rfl (fun Kk hKk=>?_);refine stepK_valG (v:=.pointer (some ⟨Rn,0,none⟩)) 6 rfl (by kernel_rfl) (by kernel_rfl) ?_;refine hKk.out _ _ hS9 ?_;clear hKk Kk hS9 HSS;refine wpAnyH_done (by kernel_rfl) ?_ _;simp only [sx0,sx1,sx2]
   go_wp2_with fail
   go_ret
   exact ⟨Rn,g,B,cg,rfl,HRu.out,Hc.out⟩
inductive QOk (n nb:Nat):Gop->Prop
 | g {o:Gop} (h:MOk n o) (hc:o.cnd=[]):QOk n nb o
 | m {q b:Nat} (h:q<n) (hb:b<nb):QOk n nb (wM q b)
 | r {q:Nat} (h:q<n):QOk n nb (wR q)
theorem isNormalQ_any {n nb:Nat} {o:Gop} (ho:QOk n nb o) (a1:Option Addr) (n1 c1:Nat) (a2:Option Addr) (n2 c2:Nat) (w:World) (hl:o.ctl.length=n1) :
  Calls Tryz.prog 121 #[.agg #[.int .i64 o.kind,.int .i64 o.k,.slice a1 n1 c1,.int .i64 o.q,.int .i64 o.bit,.slice a2 n2 c2]] w fun e w'=>e=.returned (.bool true)/\Ext w w':=by
 cases ho with
 | g ho hc =>
  cases ho with
  | @x q h cd =>
   obtain rfl:0=n1:=hl;clear hc
   show Calls Tryz.prog 121 #[.agg #[.int .i64 2,.int .i64 0,.slice a1 0 c1,.int .i64 (q:Int),.int .i64 0,.slice a2 n2 c2]] w _
   clear h
   go_enter Tryz.func121,Tryz.ntmps121
   go_wp2_with fail
   go_ret
   exact ⟨rfl,ext_al _ _⟩
  | @cx q c h h2 h3 cd =>
   obtain rfl:1=n1:=hl;clear hc h2 h3
   show Calls Tryz.prog 121 #[.agg #[.int .i64 2,.int .i64 0,.slice a1 1 c1,.int .i64 (q:Int),.int .i64 0,.slice a2 n2 c2]] w _
   clear h
   go_enter Tryz.func121,Tryz.ntmps121
   go_wp2_with fail
   go_ret
   exact ⟨rfl,ext_al _ _⟩
  | @h q h cd =>
   obtain rfl:0=n1:=hl;clear hc
   show Calls Tryz.prog 121 #[.agg #[.int .i64 3,.int .i64 0,.slice a1 0 c1,.int .i64 (q:Int),.int .i64 0,.slice a2 n2 c2]] w _
   clear h
   go_enter Tryz.func121,Tryz.ntmps121
   go_wp2_with fail
   go_ret
   exact ⟨rfl,ext_al _ _⟩
  | @p q k h h1 h2 cd =>
   obtain rfl:0=n1:=hl;clear hc
   rcases (show k=1\/k=2\/k=3 by omega) with rfl | rfl | rfl
   ·clear h1 h2
    show Calls Tryz.prog 121 #[.agg #[.int .i64 4,.int .i64 4,.slice a1 0 c1,.int .i64 (q:Int),.int .i64 0,.slice a2 n2 c2]] w _
    clear h
    go_enter Tryz.func121,Tryz.ntmps121
    go_wp2_with fail
    go_ret
    exact ⟨rfl,ext_al _ _⟩
   ·clear h1 h2
    show Calls Tryz.prog 121 #[.agg #[.int .i64 4,.int .i64 8,.slice a1 0 c1,.int .i64 (q:Int),.int .i64 0,.slice a2 n2 c2]] w _
    clear h
    go_enter Tryz.func121,Tryz.ntmps121
    go_wp2_with fail
    go_ret
    exact ⟨rfl,ext_al _ _⟩
   ·clear h1 h2
    show Calls Tryz.prog 121 #[.agg #[.int .i64 4,.int .i64 12,.slice a1 0 c1,.int .i64 (q:Int),.int .i64 0,.slice a2 n2 c2]] w _
    clear h
    go_enter Tryz.func121,Tryz.ntmps121
    go_wp2_with fail
    go_ret
    exact ⟨rfl,ext_al _ _⟩
  | @cp q c h h2 h3 cd =>
   obtain rfl:1=n1:=hl;clear hc h2 h3
   show Calls Tryz.prog 121 #[.agg #[.int .i64 4,.int .i64 8,.slice a1 1 c1,.int .i64 (q:Int),.int .i64 0,.slice a2 n2 c2]] w _
   clear h
   go_enter Tryz.func121,Tryz.ntmps121
   go_wp2_with fail
   go_ret
   exact ⟨rfl,ext_al _ _⟩
 | @m q b h hb =>
  obtain rfl:0=n1:=hl;clear hb
  show Calls Tryz.prog 121 #[.agg #[.int .i64 5,.int .i64 0,.slice a1 0 c1,.int .i64 (q:Int),.int .i64 (b:Int),.slice a2 n2 c2]] w _
  clear h
  go_enter Tryz.func121,Tryz.ntmps121
  go_wp2_with fail
  go_ret
  exact ⟨rfl,ext_al _ _⟩
 | @r q h =>
  obtain rfl:0=n1:=hl
  show Calls Tryz.prog 121 #[.agg #[.int .i64 6,.int .i64 0,.slice a1 0 c1,.int .i64 (q:Int),.int .i64 0,.slice a2 n2 c2]] w _
  clear h
  go_enter Tryz.func121,Tryz.ntmps121
  go_wp2_with fail
  go_ret
  exact ⟨rfl,ext_al _ _⟩
theorem normalOpQ_any {n nb:Nat} {o:Gop} (ho:QOk n nb o) (a1:Option Addr) (n1 c1:Nat) (a2:Option Addr) (n2 c2:Nat) (w:World) (hl:o.ctl.length=n1) :
  Calls Tryz.prog 52 #[.agg #[.int .i64 o.kind,.int .i64 o.k,.slice a1 n1 c1,.int .i64 o.q,.int .i64 o.bit,.slice a2 n2 c2]] w fun e w'=>e=.returned (.bool true)/\Ext w w':=by
 cases ho with
 | g ho hc =>
  cases ho with
  | @x q h cd =>
   obtain rfl:0=n1:=hl;clear hc
   show Calls Tryz.prog 52 #[.agg #[.int .i64 2,.int .i64 0,.slice a1 0 c1,.int .i64 (q:Int),.int .i64 0,.slice a2 n2 c2]] w _
   clear h
   go_enter Tryz.func52,Tryz.ntmps52
   go_wp2_with fail
   go_ret
   exact ⟨rfl,ext_al _ _⟩
  | @cx q c h h2 h3 cd =>
   obtain rfl:1=n1:=hl;clear hc h2 h3
   show Calls Tryz.prog 52 #[.agg #[.int .i64 2,.int .i64 0,.slice a1 1 c1,.int .i64 (q:Int),.int .i64 0,.slice a2 n2 c2]] w _
   clear h
   go_enter Tryz.func52,Tryz.ntmps52
   go_wp2_with fail
   go_ret
   exact ⟨rfl,ext_al _ _⟩
  | @h q h cd =>
   obtain rfl:0=n1:=hl;clear hc
   show Calls Tryz.prog 52 #[.agg #[.int .i64 3,.int .i64 0,.slice a1 0 c1,.int .i64 (q:Int),.int .i64 0,.slice a2 n2 c2]] w _
   clear h
   go_enter Tryz.func52,Tryz.ntmps52
   go_wp2_with fail
   go_ret
   exact ⟨rfl,ext_al _ _⟩
  | @p q k h h1 h2 cd =>
   obtain rfl:0=n1:=hl;clear hc
   rcases (show k=1\/k=2\/k=3 by omega) with rfl | rfl | rfl
   ·clear h1 h2
    show Calls Tryz.prog 52 #[.agg #[.int .i64 4,.int .i64 4,.slice a1 0 c1,.int .i64 (q:Int),.int .i64 0,.slice a2 n2 c2]] w _
    clear h
    go_enter Tryz.func52,Tryz.ntmps52
    go_wp2_with fail
    go_ret
    exact ⟨rfl,ext_al _ _⟩
   ·clear h1 h2
    show Calls Tryz.prog 52 #[.agg #[.int .i64 4,.int .i64 8,.slice a1 0 c1,.int .i64 (q:Int),.int .i64 0,.slice a2 n2 c2]] w _
    clear h
    go_enter Tryz.func52,Tryz.ntmps52
    go_wp2_with fail
    go_ret
    exact ⟨rfl,ext_al _ _⟩
   ·clear h1 h2
    show Calls Tryz.prog 52 #[.agg #[.int .i64 4,.int .i64 12,.slice a1 0 c1,.int .i64 (q:Int),.int .i64 0,.slice a2 n2 c2]] w _
    clear h
    go_enter Tryz.func52,Tryz.ntmps52
    go_wp2_with fail
    go_ret
    exact ⟨rfl,ext_al _ _⟩
  | @cp q c h h2 h3 cd =>
   obtain rfl:1=n1:=hl;clear hc h2 h3
   show Calls Tryz.prog 52 #[.agg #[.int .i64 4,.int .i64 8,.slice a1 1 c1,.int .i64 (q:Int),.int .i64 0,.slice a2 n2 c2]] w _
   clear h
   go_enter Tryz.func52,Tryz.ntmps52
   go_wp2_with fail
   go_ret
   exact ⟨rfl,ext_al _ _⟩
 | @m q b h hb =>
  obtain rfl:0=n1:=hl;clear hb
  show Calls Tryz.prog 52 #[.agg #[.int .i64 5,.int .i64 0,.slice a1 0 c1,.int .i64 (q:Int),.int .i64 (b:Int),.slice a2 n2 c2]] w _
  clear h
  go_enter Tryz.func52,Tryz.ntmps52
  go_wp2_with fail
  go_ret
  exact ⟨rfl,ext_al _ _⟩
 | @r q h =>
  obtain rfl:0=n1:=hl
  show Calls Tryz.prog 52 #[.agg #[.int .i64 6,.int .i64 0,.slice a1 0 c1,.int .i64 (q:Int),.int .i64 0,.slice a2 n2 c2]] w _
  clear h
  go_enter Tryz.func52,Tryz.ntmps52
  go_wp2_with fail
  go_ret
  exact ⟨rfl,ext_al _ _⟩
theorem checkNormalQ_any {n nb:Nat} (ops:List Gop) (hok:∀ o ∈ ops,QOk n nb o) (ao:Option Addr) (m c:Nat) (w:World) (h:OpsAt w ao m ops) (hm:m<=10000) :
  Calls Tryz.prog 75 #[.slice ao m c] w fun e w'=>e=.returned (.agg #[.int .i64 0,.int .i64 0])/\Ext w w':=by
 obtain ⟨W0,hW0⟩:∃ V,w.alloc (.cells #[.int .i64 0,.int .i64 0] 29)=V:=⟨_,rfl⟩;obtain ⟨H,hH⟩:∃ H,w.heap.size=H:=⟨_,rfl⟩
 have E0:Ext w W0:=by rw [<-hW0];exact ext_al _ _
 have bF:FtB W0 H 0 0:=by rw [<-hW0,<-hH];exact ⟨heap_alloc_new w _⟩
 have Hh:=Lh (h.ext E0);have HF:=Lh bF;have HE0:=Lh E0;have HW0:=Lh hW0;have HH:=Lh hH;have Hok:=Lh hok;have Hm:=Lh hm;have Hl:=Lh h.1;clear h bF E0 hW0 hH hok hm
 go_enter Tryz.func75,Tryz.ntmps75
 go_upto_region 1 with fail
 rw [HW0.out,HH.out]
 go_wp2_with fail
 go_loopg [7] m (fun kk s7 wr=>∃ i:Nat,s7=.int .i64 (i:Int)/\i<=m/\m-i=kk/\Ext W0 wr)
 case atStart=>exact ⟨0,rfl,Nat.zero_le _,rfl,Ext.refl _⟩
 case round =>
  obtain ⟨i,rfl,hi,hkk,hE⟩:=hrel;have Hkk:=Lh hkk;have HE:=Lh hE
  by_cases him:i=m
  ·have p1:¬ (i:Int)<(m:Int):=by omega
   have bz:=HF.out.ext hE;have x0':=bz.x0;have x1':=bz.x1;have g0':=bz.f 0;have g1':=bz.f 1;clear hkk hE hi him bz
   go_wp2_with fail
   exact bodyPost_ret (v:=.agg #[.int .i64 0,.int .i64 0]) (by simp [results,Tryz.results75,go_sem,x0',x1']) rfl ⟨rfl,put2x (HE0.out.trans HE.out) (Nat.le_of_eq HH.out) _ _⟩
  have hlt:i<m:=by omega
  have p1:(i:Int)<(m:Int):=by omega
  have p0:(0:Int)<=(i:Int):=by omega
  have wi:IntKind.i64.wrap ((i:Int)+1)=((i+1:Nat):Int):=by rw [IntKind.wrap_i64];have:=Hm.out;omega
  obtain ⟨b,o,rfl⟩:=Hh.out.some_of (by omega);obtain ⟨g,hg⟩:∃ g,ops[i]?=some g:=⟨_,List.getElem?_eq_getElem (by rw [Hl.out];exact hlt)⟩;obtain ⟨a1,n1,c1,a2,n2,c2,e0,e1,e2,e3,e4,e5,hol⟩:=(Hh.out.ext hE).at i g hg;have HN:=Lh (fun wx=>isNormalQ_any (Hok.out g (List.mem_of_getElem? hg)) a1 n1 c1 a2 n2 c2 wx hol.i1.1);have Hlt:=Lh hlt;clear hkk hE hi him hlt hg hol
  go_wp2_with fail
  refine (HN.out _).mono ?_;rintro e w3 ⟨rfl,x3⟩;have H3:=Lh ((HE.out.trans (ext_al wr _)).trans x3);clear x3 e0 e1 e2 e3 e4 e5
  go_wp2_with fail
  go_roundg (m-(i+1))
  case measure=>have:=Hkk.out;have:=Hlt.out;omega
  case rel=>exact ⟨i+1,rfl,Hlt.out,rfl,H3.out⟩
theorem q_belowT {q n:Nat} (h:q<n):below (q:Int) (n:Int)=true:=by unfold below;rw [decide_eq_true (by omega),decide_eq_true (by omega)];rfl
theorem q_code {n nb:Nat} {o:Gop} (ho:QOk n nb o):opCode o (n:Int) (nb:Int)=0:=by
 cases ho with
 | g ho hc =>
  cases ho with
  | @x q h cd =>
   obtain rfl:cd=[]:=hc
   simp [opCode,fitsB,usesK,usesQ,usesC,usesB,ctlCode,cndOk,q_belowT h]
  | @cx q c h h2 h3 cd =>
   obtain rfl:cd=[]:=hc
   have h5:¬ (c:Int)=(q:Int):=by omega
   simp [opCode,fitsB,usesK,usesQ,usesC,usesB,ctlCode,cndOk,q_belowT h,q_belowT h2,h5]
  | @h q h cd =>
   obtain rfl:cd=[]:=hc
   simp [opCode,fitsB,usesK,usesQ,usesC,usesB,ctlCode,cndOk,q_belowT h]
  | @p q k h h1 h2 cd =>
   obtain rfl:cd=[]:=hc
   rcases (show k=1\/k=2\/k=3 by omega) with rfl | rfl | rfl<;>simp [opCode,fitsB,usesK,usesQ,usesC,usesB,ctlCode,cndOk,below,h]
  | @cp q c h h2 h3 cd =>
   obtain rfl:cd=[]:=hc
   have h5:¬ (c:Int)=(q:Int):=by omega
   have h6:below 8 16=true:=by decide
   simp [opCode,fitsB,usesK,usesQ,usesC,usesB,ctlCode,cndOk,q_belowT h,q_belowT h2,h5,h6]
 | @m q b h hb=>simp [opCode,wM,fitsB,usesK,usesQ,usesC,usesB,ctlCode,cndOk,q_belowT h,q_belowT hb]
 | @r q h=>simp [opCode,wR,fitsB,usesK,usesQ,usesC,usesB,ctlCode,cndOk,q_belowT h]
theorem q_chk {n nb:Nat} (h1:1<=n) (hn:n<=12) (hb:nb<=12) {ops:List Gop} (ho:∀ o ∈ ops,QOk n nb o) (hl:ops.length<=4096):chk ⟨(n:Int),(nb:Int),ops⟩=(0,0):=by
 have hops:∀ (l:List Gop) (i:Nat),(∀ o ∈ l,QOk n nb o)->opsCode (n:Int) (nb:Int) i l=(0,0):=by
  intro l
  induction l with
  | nil=>intro i _;rfl
  | cons o r ih=>intro i h;rw [opsCode,if_neg (by rw [q_code (h o (by simp))];decide)];exact ih _ fun x hx=>h x (List.mem_cons_of_mem _ hx)
 unfold chk;simp only;rw [if_neg (by omega),if_neg (by omega),if_neg (by omega)];exact hops ops 0 ho
theorem checkRunQ_any {n nb:Nat} (h1:1<=n) (hn:n<=12) (hb:nb<=12) (ops:List Gop) (hok:∀ o ∈ ops,QOk n nb o) (v:Nat) (hv:v<2 ^ n) (ao:Option Addr) (m c:Nat) (w:World) (h:OpsAt w ao m ops) (hm:m<=4096) (hmc:m<=c) (hc:c<=9223372036854775807) (hS:Shp w) :
  Calls Tryz.prog 34 #[.agg #[.int .i64 (n:Int),.int .i64 (nb:Int),.slice ao m c],.int .i64 (v:Int)] w fun e w'=>e=.returned (.agg #[.int .i64 0,.int .i64 0])/\Ext w w':=by
 obtain ⟨W0,hW0⟩:∃ V,(w.alloc (.cells #[.int .i64 (n:Int),.int .i64 (nb:Int),.slice ao m c] 24)).alloc (.cells #[.int .i64 0,.int .i64 0] 29)=V:=⟨_,rfl⟩;obtain ⟨H,hH⟩:∃ H,w.heap.size=H:=⟨_,rfl⟩
 have E0:Ext w W0:=by rw [<-hW0];exact (ext_al _ _).trans (ext_al _ _)
 have bC:CiB W0 H (n:Int) (nb:Int) ao m c:=by rw [<-hW0,<-hH];exact CiB.ext ⟨heap_alloc_new w _⟩ (ext_al _ _)
 have bF:FtB W0 (H+1) 0 0:=⟨by
  have:=heap_alloc_new (w.alloc (.cells #[.int .i64 (n:Int),.int .i64 (nb:Int),.slice ao m c] 24)) (.cells #[.int .i64 0,.int .i64 0] 29);rw [<-hW0,<-hH]
  simpa using this⟩
 have hp:=Check_any ⟨(n:Int),(nb:Int),ops⟩ ao m c W0 (h.ext E0) hmc hc (hS.ext E0);rw [q_chk h1 hn hb hok (by rw [h.1];exact hm)] at hp;have HP:=Lh hp;have HCn:=Lh (fun wx (hx:Ext W0 wx)=>checkNormalQ_any ops hok ao m c wx ((h.ext E0).ext hx) (by omega));have HF:=Lh bF;have HC:=Lh bC;have HE0:=Lh E0;have HW0:=Lh hW0;have HH:=Lh hH;have v0:=bC.x0;have v1:=bC.x1;have v2:=bC.x2;have hp2:2 ^ n<=2 ^ 12:=Nat.pow_le_pow_right (by decide) hn
 have hmin:min n 64=n:=by omega
 obtain ⟨D,hD⟩:∃ D,2 ^ n=D:=⟨_,rfl⟩;rw [hD] at hv hp2
 have hpw:(2:Int) ^ n=(D:Int):=by rw [<-hD];simp
 have wD:IntKind.i64.wrap (D:Int)=(D:Int):=by rw [IntKind.wrap_i64];omega
 have q0:¬ (v:Int)<0:=by omega
 have q1:¬ (D:Int)<=(v:Int):=by omega
 have q2:(v:Int)<(D:Int):=by omega
 clear h bF bC E0 hW0 hH hok hm hmc hc hS hp h1 hb hv hD hn hp2
 go_enter Tryz.func34,Tryz.ntmps34
 go_upto_region 1 with fail
 rw [HW0.out,HH.out]
 go_wp2_with fail
 refine HP.out.mono ?_;rintro e w1 ⟨rfl,x1⟩;have Hx1:=Lh x1;clear x1
 go_upto_region 2 with fail
 obtain ⟨W1,hW1⟩:∃ V,w1.alloc (.cells #[.int .i64 0,.int .i64 0] 29)=V:=⟨_,rfl⟩
 have E1:Ext W0 W1:=by rw [<-hW1];exact Hx1.out.trans (ext_al _ _)
 have b1:FtB W1 w1.heap.size 0 0:=by rw [<-hW1];exact ⟨heap_alloc_new w1 _⟩
 have HE1:=Lh E1;have HCc:=Lh (HCn.out W1 E1);have u0:=b1.x0;have c2:=(HC.out.ext E1).x2;have c0:=(HC.out.ext E1).x0;rw [hW1];clear E1 b1 v0 v1 v2 hW1
 go_wp2_with fail
 refine HCc.out.mono ?_;rintro e w2 ⟨rfl,x2⟩;have bz:=HF.out.ext (HE1.out.trans x2);have x0':=bz.x0;have x1':=bz.x1;have g0':=bz.f 0;have g1':=bz.f 1;have H2:=Lh (HE0.out.trans (HE1.out.trans x2));clear x2 bz u0 c2 c0
 go_wp2_with fail
 exact bodyPost_ret (v:=.agg #[.int .i64 0,.int .i64 0]) (by simp [results,Tryz.results34,go_sem,x0',x1']) rfl ⟨rfl,put2x H2.out (by have:=HH.out;omega) _ _⟩
theorem ant_tl (p:QP) {q:Nat} (hq:q<16) (b:Bool):ant p (tlQ q b)=p.x.testBit q:=ant_zQ p hq
theorem set_good {l:List QP} (hg:GoodS l) {q:Nat} (hq:q<16) (b:Bool):GoodS (setQ l q b).1:=by
 have hok:=set_ok hg hq b
 cases hf:l.findIdx? (fun p=>p.x.testBit q) with
 | none=>rw [set_none b hf];exact (orN_form l.length hg (2*l.length)).1
 | some a =>
  rw [set_some b hf] at hok ⊢;obtain ⟨ha,hha,_⟩:=List.findIdx?_eq_some_iff_getElem.1 hf;obtain ⟨g,hga⟩:∃ g,l[a]?=some g:=⟨_,List.getElem?_eq_getElem ha⟩
  have hgx:g.x.testBit q=true:=by rw [<- (List.getElem?_eq_some_iff.1 hga).2];exact hha
  have hat:=seN_at (fun p=>p.x.testBit q) hga l.length;obtain ⟨hm,_⟩:=seN_good hg (fun p=>p.x.testBit q) ha l.length;have hml:=seN_len (fun p=>p.x.testBit q) a l l.length
  show GoodS ((seN (fun p=>p.x.testBit q) a l l.length).set a (tlQ q b))
  have hok:∀ p ∈ (seN (fun p=>p.x.testBit q) a l l.length).set a (tlQ q b),p.ok:=hok;obtain ⟨m,hmd⟩:∃ m,seN (fun p=>p.x.testBit q) a l l.length=m:=⟨_,rfl⟩;rw [hmd] at hat hm hml hok ⊢
  have hma:m[a]?=some g:=by rw [hat a,hga];show some (if _ then _ else g)=_;rw [if_neg (fun k=>k.2.1 rfl)]
  have hF:∀ i p,i≠a->m[i]?=some p->p.x.testBit q=false:=fun i p hi hp=>by
   rw [hat i] at hp;obtain ⟨r,hr,rfl⟩:=Option.map_eq_some_iff.1 hp;have hil:=(List.getElem?_eq_some_iff.1 hr).1
   by_cases hx:r.x.testBit q=true
   ·rw [if_pos ⟨hil,hi,hx⟩]
    show (r.x ^^^ g.x).testBit q=false
    rw [Nat.testBit_xor,hx,hgx];rfl
   ·rw [if_neg (fun k=>hx k.2.2)]
    simpa using hx
  obtain ⟨Z,hZ⟩:∃ Z,tlQ q b=Z:=⟨_,rfl⟩
  have hZa:∀ p:QP,ant p Z=p.x.testBit q:=fun p=>by rw [<-hZ];exact ant_tl p hq b
  rw [hZ] at hok ⊢
  have hst:∀ i p,(m.set a Z)[i]?=some p->(i=a/\p=Z)\/(i≠a/\m[i]?=some p):=fun i p hp=>by
   by_cases e:a=i
   ·subst e
    rw [List.getElem?_set_self (by rw [hml];exact ha)] at hp;exact Or.inl ⟨rfl,(Option.some.inj hp).symm⟩
   ·rw [List.getElem?_set_ne e] at hp
    exact Or.inr ⟨Ne.symm e,hp⟩
  have hcm:∀ i j p r,m[i]?=some p->m[j]?=some r->ant p r=false:=fun i j p r hp hr=>hm.com p (List.mem_of_getElem? hp) r (List.mem_of_getElem? hr)
  refine ⟨fun p hp r hr=>?_,?_,hok⟩
  ·obtain ⟨i,hi⟩:=List.getElem?_of_mem hp
   obtain ⟨j,hj⟩:=List.getElem?_of_mem hr
   rcases hst i p hi with ⟨_,rfl⟩ | ⟨h1,h2⟩<;>rcases hst j r hj with ⟨_,rfl⟩ | ⟨h3,h4⟩
   ·exact ant_selfQ _
   ·rw [ant_symm,hZa];exact hF j r h3 h4
   ·rw [hZa];exact hF i p h1 h2
   ·exact hcm i j p r h2 h4
  ·obtain ⟨d,hd⟩:=hm.dua
   refine ⟨(d.map fun r=>if ant r Z=true then lpQ r g else r).set a g,by rw [List.length_set,List.length_map,List.length_set,hd.len],fun i j p r hp hr=>?_⟩
   have hda:a<(d.map fun r=>if ant r Z=true then lpQ r g else r).length:=by rw [List.length_map,hd.len,hml];exact ha
   by_cases hj:a=j
   ·subst hj
    rw [List.getElem?_set_self hda] at hr;obtain rfl:=Option.some.inj hr
    rcases hst i p hp with ⟨rfl,rfl⟩ | ⟨h1,h2⟩
    ·rw [ant_symm,hZa,hgx,decide_eq_true rfl]
    ·rw [hcm i a p g h2 hma,decide_eq_false h1]
   ·rw [List.getElem?_set_ne hj,List.getElem?_map] at hr
    obtain ⟨t,ht,rfl⟩:=Option.map_eq_some_iff.1 hr
    rcases hst i p hp with ⟨rfl,h9⟩ | ⟨h1,h2⟩
    ·rw [decide_eq_false hj,h9]
     by_cases hz:ant t Z=true
     ·rw [if_pos hz,ant_lp,ant_symm Z t,hz,ant_symm Z g,hZa,hgx];rfl
     ·rw [if_neg hz,ant_symm];simpa using hz
    ·have hd1:=hd.at' i j p t h2 ht
     by_cases hz:ant t Z=true
     ·rw [if_pos hz,ant_lp,hd1,hcm i a p g h2 hma,Bool.xor_false]
     ·rw [if_neg hz];exact hd1
structure InT (n nb nt:Nat) (s:TR):Prop where
 good:GoodS s.l
 len:s.l.length=n
 bits:s.bits.length=nb
 used:s.used<=nt
theorem doT_g {n:Nat} {o:Gop} (ho:MOk n o) (hc:o.cnd=[]) (tape:List Int) (s:TR):doT tape o s=(⟨s.l.map (actN o),s.bits,s.used⟩,0):=by
 have hk:=ho.n.kind;unfold doT;rw [hc,if_pos (show mtT s.bits []=true from rfl),if_neg (by omega)]
theorem doT_l {o:Gop} (hk:o.kind=5\/o.kind=6) (hc:o.cnd=[]) (tape:List Int) (s:TR):doT tape o s=lookT tape o s:=by
 unfold doT;rw [hc,if_pos (show mtT s.bits []=true from rfl),if_pos hk]
theorem look_in {n nb nt:Nat} (hn:n<=16) {tape:List Int} (ht:tape.length=nt) {s:TR} (h:InT n nb nt s) {o:Gop} {q:Nat} (hq:o.q=q) (hqn:q<n):InT n nb nt (lookT tape o s).1:=by
 unfold lookT
 cases e:tape[s.used]? with
 | none=>exact h
 | some v =>
  have hu:s.used<nt:=by rw [<-ht];exact (List.getElem?_eq_some_iff.1 e).1
  have hsg:=fun b=>set_good h.good (show q<16 by omega) b
  have hsl:=fun b=>(set_len h.good (q:=q) (b:=b)).trans h.len
  simp only [hq,Int.toNat_natCast]
  split
  ·split
   ·refine ⟨?_,?_,?_,hu⟩
    ·show GoodS (if o.kind=5 then _ else _)
     split
     ·exact hsg _
     ·have hgt:GtP n (rsG q (decide (v=1))):=by cases decide (v=1);exact GtP.id n;exact gtp_flip n q
      exact (hsg _).map hgt
    ·show (if o.kind=5 then _ else _:List QP).length=n
     split
     ·exact hsl _
     ·rw [List.length_map];exact hsl _
    ·show (if o.kind=5 then _ else _:List Int).length=nb
     split
     ·rw [List.length_set];exact h.bits
     ·exact h.bits
   ·exact ⟨hsg _,hsl _,h.bits,h.used⟩
  ·exact h
theorem do_in {n nb nt:Nat} (hn:n<=16) {tape:List Int} (ht:tape.length=nt) {s:TR} (h:InT n nb nt s) {o:Gop} (ho:QOk n nb o):InT n nb nt (doT tape o s).1:=by
 cases ho with
 | g ho hc =>
  rw [doT_g ho hc];exact ⟨h.good.map (ho.n.gt hn),by show (s.l.map _).length=n;rw [List.length_map];exact h.len,h.bits,h.used⟩
 | @m q b hq hb=>rw [doT_l (.inl rfl) rfl];exact look_in hn ht h (q:=q) rfl hq
 | @r q hq=>rw [doT_l (.inr rfl) rfl];exact look_in hn ht h (q:=q) rfl hq
theorem doQ_any {u w:World} {R g B n cg nb cb:Nat} {ta:Option Addr} {nt ct:Nat} {tape:List Int} {s:TR} (h:RuS u w R g B n cg nb cb ta nt ct tape s) (hI:InT n nb nt s) (hn:n<=15) (hc:n<=cg) (hnt:nt<=9223372036854775806)
  {o:Gop} (ho:QOk n nb o) (a1:Option Addr) (n1 c1:Nat) (a2:Option Addr) (n2 c2:Nat) (hO:OpL u o a1 n1 c1 a2 n2 c2) :
  Calls Tryz.prog 36 #[.pointer (some ⟨R,0,none⟩),.agg #[.int .i64 o.kind,.int .i64 o.k,.slice a1 n1 c1,.int .i64 o.q,.int .i64 o.bit,.slice a2 n2 c2]] w fun e w'=>LkR u R g B n cg nb cb ta nt ct tape (doT tape o s) e w':=by
 have h2:=hO.i2.1
 cases ho with
 | g ho hcn =>
  obtain rfl:0=n2:=by rw [<-h2,hcn];rfl
  rw [doT_g ho hcn];exact doG_any h hI.good hI.len hn ho a1 n1 c1 a2 c2 hO.i1
 | @m q b hq hb =>
  obtain rfl:0=n2:=h2;rw [doT_l (.inl rfl) rfl];exact doL_any h hI.good hI.len hn hc hI.used hnt 5 q b (.inl rfl) hq (fun _=>hb) a1 n1 c1 a2 c2
 | @r q hq =>
  obtain rfl:0=n2:=h2;rw [doT_l (.inr rfl) rfl];exact doL_any h hI.good hI.len hn hc hI.used hnt 6 q 0 (.inr rfl) hq (fun e=>absurd e (by decide)) a1 n1 c1 a2 c2
theorem strs_farT {w w':World} {a:Option Addr} {n k:Nat} {l:List (List UInt8)} (h:StrsAt w a n l) (hO:Only k w w') {cs:Array Value} {t:TypeId} (hr:w.heap[k]?=some (.cells cs t (0,0))) (hc:∀ (j:Nat) (x:ByteArray),cs[j]?≠some (.string x)):StrsAt w' a n l:=by
 refine ⟨h.1,?_⟩
 rcases h.2 with h0 | ⟨b,o,e,hb,hcell⟩
 ·exact Or.inl h0
 ·by_cases hn:n=0
  ·exact Or.inl hn
  ·have hbk:b≠k:=fun e1=>by
    have:=hcell 0 (by omega);rw [e1,cell_of_row w k _ cs t (0,0) hr] at this;exact hc _ _ this
   exact Or.inr ⟨b,o,e,by rw [hO.size];exact hb,fun t ht=>(World.cell?_of_block (a:=⟨b,o+t,none⟩) (hO.block b hbk)).trans (hcell t ht)⟩
def RnR (n nb:Nat) (x:TR × Nat × Nat) (w:World) (e:Ending) (w':World):Prop :=
 (x.2.1=0->∃ (a:Option Addr) (c B:Nat),e=.returned (.tuple #[.slice a n c,.slice (some ⟨B,0,none⟩) nb nb,.int .i64 (x.1.used:Int),.agg #[.int .i64 0,.int .i64 0]])/\StrsAt w' a n ((orL x.1.l).map (txP n))/\w'.heap[B]?=some (.cells (x.1.bits.map (fun y=>Value.int .i64 y)).toArray 3 (0,0))/\Ext w w'/\∀ ad,a=some ad->w.heap.size<=ad.block) /\
 (x.2.1≠0->e=.returned (.tuple #[.slice none 0 0,.slice none 0 0,.int .i64 0,.agg #[.int .i64 (x.2.1:Int),.int .i64 (x.2.2:Int)]])/\Ext w w')
theorem run_take {tape:List Int} {ops:List Gop} {i:Nat} {o:Gop} (ho:ops[i]?=some o) {s0 s:TR} (h:runT tape (ops.take i) 0 s0=(s,0,0)):runT tape (ops.take (i+1)) 0 s0=(if (doT tape o s).2=0 then ((doT tape o s).1,0,0) else ((doT tape o s).1,(doT tape o s).2,i))/\((doT tape o s).2≠0->runT tape ops 0 s0=((doT tape o s).1,(doT tape o s).2,i)):=by
 have hi:=(List.getElem?_eq_some_iff.1 ho).1
 have hl:(ops.take i).length=i:=by rw [List.length_take];omega
 constructor
 ·rw [List.take_add_one,ho]
  show runT tape (ops.take i++[o]) 0 s0=_
  rw [run_app h,hl,Nat.zero_add]
  rfl
 ·intro hd
  have e:ops=ops.take i++o :: ops.drop (i+1):=by
   have e2:=List.drop_eq_getElem_cons hi;rw [(List.getElem?_eq_some_iff.1 ho).2] at e2;rw [<-e2,List.take_append_drop]
  rw [e,run_app h,hl,Nat.zero_add]
  show (if (doT tape o s).2=0 then _ else _:TR × Nat × Nat)=_
  rw [if_neg hd]
theorem RunQ_any {n nb:Nat} (h1:1<=n) (hn:n<=12) (hb:nb<=12) (ops:List Gop) (hok:∀ o ∈ ops,QOk n nb o) (v:Nat) (hv:v<2 ^ n) (ao:Option Addr) (m c:Nat) (ta:Option Addr) (nt ct:Nat) (tape:List Int) (w:World) (h:OpsAt w ao m ops) (hm:m<=4096) (hmc:m<=c) (hc:c<=9223372036854775807) (hS:Shp w) (hT:IntsAt w ta nt tape) (hnt:nt<=9223372036854775806) (hI0:InT n nb nt ⟨bsQ v n,List.replicate nb 0,0⟩) :
  Calls Tryz.prog 8 #[.agg #[.int .i64 (n:Int),.int .i64 (nb:Int),.slice ao m c],.int .i64 (v:Int),.slice ta nt ct] w fun e w'=>RnR n nb (runT tape ops 0 ⟨bsQ v n,List.replicate nb 0,0⟩) w e w':=by
 obtain ⟨W0,hW0⟩:∃ V,(w.alloc (.cells #[.int .i64 (n:Int),.int .i64 (nb:Int),.slice ao m c] 24)).alloc (.cells #[.int .i64 0,.int .i64 0] 29)=V:=⟨_,rfl⟩;obtain ⟨H,hH⟩:∃ H,w.heap.size=H:=⟨_,rfl⟩
 have E0:Ext w W0:=by rw [<-hW0];exact (ext_al _ _).trans (ext_al _ _)
 have bC:CiB W0 H (n:Int) (nb:Int) ao m c:=by rw [<-hW0,<-hH];exact CiB.ext ⟨heap_alloc_new w _⟩ (ext_al _ _)
 have bF:FtB W0 (H+1) 0 0:=⟨by
  have:=heap_alloc_new (w.alloc (.cells #[.int .i64 (n:Int),.int .i64 (nb:Int),.slice ao m c] 24)) (.cells #[.int .i64 0,.int .i64 0] 29);rw [<-hW0,<-hH]
  simpa using this⟩
 have HP:=Lh (fun wx (hx:Ext W0 wx)=>checkRunQ_any h1 hn hb ops hok v hv ao m c wx ((h.ext E0).ext hx) hm hmc hc ((hS.ext E0).ext hx));have hv16:v<65536:=Nat.lt_of_lt_of_le hv (Nat.le_trans (Nat.pow_le_pow_right (by decide) hn) (by decide));have HSt:=Lh (fun wx (hx:Ext W0 wx)=>tstart_any n nb v h1 hn (by omega) hv16 (.slice ao m c) ao m c rfl ta nt ct tape wx ((hT.ext E0).ext hx));have Hh:=Lh (h.ext E0);have HF:=Lh bF;have HC:=Lh bC;have HE0:=Lh E0;have HW0:=Lh hW0;have HH:=Lh hH;have Hok:=Lh hok;have Hm:=Lh hm;have Hl:=Lh h.1;have Hn:=Lh hn;have Hnt:=Lh hnt;have HI0:=Lh hI0;have Htl:=Lh hT.1;have v0:=bC.x0;have v1:=bC.x1;have v2:=bC.x2;obtain ⟨s0,hs0⟩:∃ s,(⟨bsQ v n,List.replicate nb 0,0⟩:TR)=s:=⟨_,rfl⟩;have Hs0:=Lh hs0;rw [hs0] at HI0 ⊢;clear h bF bC E0 hW0 hH hok hm hmc hc hS h1 hb hv hn hT hnt hI0 hv16 hs0
 go_enter Tryz.func8,Tryz.ntmps8
 go_upto_region 1 with fail
 rw [HW0.out,HH.out]
 go_wp2_with fail
 refine (HP.out W0 (Ext.refl _)).mono ?_;rintro e w1 ⟨rfl,x1⟩;have Hx1:=Lh x1;clear x1
 go_upto_region 2 with fail
 obtain ⟨W1,hW1⟩:∃ V,w1.alloc (.cells #[.int .i64 0,.int .i64 0] 29)=V:=⟨_,rfl⟩
 have E1:Ext W0 W1:=by rw [<-hW1];exact Hx1.out.trans (ext_al _ _)
 have b1:FtB W1 w1.heap.size 0 0:=by rw [<-hW1];exact ⟨heap_alloc_new w1 _⟩
 have HE1:=Lh E1;have HStc:=Lh (HSt.out W1 E1);have u0:=b1.x0;have c2:=(HC.out.ext E1).x2;have c1:=(HC.out.ext E1).x1;have c0:=(HC.out.ext E1).x0;rw [hW1];clear E1 b1 v0 v1 v2 hW1
 go_wp2_with fail
 refine HStc.out.mono ?_;rintro e w2 ⟨R,g,B,cg,rfl,hru,hcg⟩;have HRu:=Lh (Hs0.out ▸ hru);have Hcg:=Lh hcg;have d2:=(HC.out.ext (HE1.out.trans hru.e)).x2;clear hru hcg u0 c2 c1 c0
 go_upto_region 6 with fail
 go_loopg [29] m (fun kk s29 wr=>∃ (i:Nat) (s:TR),s29=.int .i64 (i:Int)/\i<=m/\m-i=kk/\RuS W1 wr R g B n cg nb nb ta nt ct tape s/\InT n nb nt s/\runT tape (ops.take i) 0 s0=(s,0,0))
 case atStart=>exact ⟨0,s0,rfl,Nat.zero_le _,rfl,HRu.out,HI0.out,rfl⟩
 case round =>
  obtain ⟨i,s,rfl,hi,hkk,hR,hI,hr⟩:=hrel;have Hkk:=Lh hkk;have HR:=Lh hR;have HI:=Lh hI;have Hr:=Lh hr
  by_cases him:i=m
  ·have p1:¬ (i:Int)<(m:Int):=by omega
   have HRn:=Lh (show runT tape ops 0 s0=(s,0,0) by rw [him,List.take_of_length_le (by rw [Hl.out];exact Nat.le_refl _)] at hr;exact hr);clear hkk hR hI hr hi him
   go_upto_region 12 with fail
   have HX:=Lh (gtexts_any s.l HI.out.good g n cg);have he0:Ext wr wr.drew:=Below.drew (Ext.refl _)
   have HSS:∀ w',Ext wr w'->w'.cell? ⟨R,0,none⟩=some (.slice (some ⟨g,0,none⟩) n cg)/\w'.cell? ⟨R,1,none⟩=some (.slice (some ⟨B,0,none⟩) nb nb)/\w'.cell? ⟨R,3,none⟩=some (.int .i64 (s.used:Int)):=fun w' hx=>⟨(HR.out.ext hx).x0,(HR.out.ext hx).x1,(HR.out.ext hx).x3⟩
   refine wp_region_held (S:=fun w'=>w'.cell? ⟨R,0,none⟩=some (.slice (some ⟨g,0,none⟩) n cg)/\w'.cell? ⟨R,1,none⟩=some (.slice (some ⟨B,0,none⟩) nb nb)/\w'.cell? ⟨R,3,none⟩=some (.int .i64 (s.used:Int))) (by kernel_rfl) ?_
   have hA:∀ ops,FlsA Tryz.prog ops []:=fun _=>⟨fun _ h=>(by cases h),by simp⟩
   refine FloA.start [] 18 18 18 (.move HSS he0 0 43 (.pointer (some ⟨R,0,none⟩)) rfl ?_);refine .move HSS he0 1 44 (.pointer (some ⟨R,0,none⟩)) rfl ?_;refine .move HSS he0 2 45 (.pointer (some ⟨R,0,none⟩)) rfl ?_;refine .take HSS he0 3 46 (.slice (some ⟨g,0,none⟩) n cg) rfl (fun _ _ h=>exec_cellA h.1 Tryz.underlying72) ?_;refine .move HSS he0 5 48 (.pointer (some ⟨R,0,none⟩)) rfl ?_;refine .move HSS he0 6 49 (.pointer (some ⟨R,0,none⟩)) rfl ?_;refine .move HSS he0 7 50 (.pointer (some ⟨R,1,none⟩)) rfl ?_;refine .take HSS he0 8 51 (.slice (some ⟨B,0,none⟩) nb nb) rfl (fun _ _ h=>exec_cellA h.2.1 Tryz.underlying25) ?_;refine .move HSS he0 9 52 (.pointer (some ⟨R,0,none⟩)) rfl ?_;refine .move HSS he0 10 53 (.pointer (some ⟨R,0,none⟩)) rfl ?_;refine .move HSS he0 11 54 (.pointer (some ⟨R,3,none⟩)) rfl ?_;refine .take HSS he0 12 55 (.int .i64 (s.used:Int)) rfl (fun _ _ h=>exec_cellA h.2.2 Tryz.underlying3) ?_;refine .move HSS he0 13 56 (.agg #[.int .i64 0,.int .i64 0]) rfl ?_;refine .done (hA _) HSS he0 ?_;intro wy hy st hst hl;have hEy:=he0.trans hy;simp only [frA,fbA,List.map_nil,List.nil_append,List.foldr,sx0,sx1,sx2]
   have hgH:g≠H+1:=by have:=HRu.out.o.2.1;have:=(HF.out.ext HE1.out).lt;omega
   refine anyH_oneA (i:=4) (by kernel_rfl) rfl (fun Kk hKk=>?_)
   refine stepK_callG 47 rfl (by kernel_rfl) (by kernel_rfl) (R:=fun x w'=>∃ (a:Option Addr) (ct':Nat),x=.slice a n ct'/\StrsAt w' a n ((orL s.l).map (txP n))/\Tur g wr w'/\∀ ad,a=some ad->w.heap.size<=ad.block) ((HX.out wy (HR.out.ext hEy).gr HI.out.len Hn.out Hcg.out).mono fun _ _ h=>by
    obtain ⟨a,ct',h1,h2,h3,h4⟩:=h
    exact ⟨_,h1,a,ct',rfl,h2,(Tur.of_ext hEy).trans h3,fun ad e=>Nat.le_trans (Nat.le_trans (HE0.out.trans HE1.out).size (Nat.le_trans HR.out.e.size hEy.size)) (h4 ad e)⟩) ?_
   rintro _ w5 ⟨a,ct',rfl,hs5,ht5,hfr5⟩;have hrow5:=(ht5.block R HR.out.lt (Ne.symm HR.out.o.2.2.2.1)).trans HR.out.row;have hS5:w5.cell? ⟨R,0,none⟩=some (.slice (some ⟨g,0,none⟩) n cg)/\w5.cell? ⟨R,1,none⟩=some (.slice (some ⟨B,0,none⟩) nb nb)/\w5.cell? ⟨R,3,none⟩=some (.int .i64 (s.used:Int)):=⟨by rw [cell_of_row w5 R 0 _ _ (0,0) hrow5];rfl,by rw [cell_of_row w5 R 1 _ _ (0,0) hrow5];rfl,by rw [cell_of_row w5 R 3 _ _ (0,0) hrow5];rfl⟩
   have hft5:FtB w5 (H+1) 0 0:=by
    have hb:=HF.out.ext (HE1.out.trans HR.out.e);exact ⟨(ht5.block (H+1) hb.lt (Ne.symm hgH)).trans hb.row⟩
   have hbt5:=(ht5.block B HR.out.ltB (Ne.symm HR.out.o.2.2.2.2.1)).trans HR.out.bt;have hE5:Ext w w5:=(HE0.out.trans HE1.out).trans (ht5.ext HR.out.e HR.out.o.2.1);refine hKk.out _ _ hS5 ?_;clear hKk Kk;simp only [sx0,sx1,sx2];refine anyH_oneA (i:=14) (by kernel_rfl) rfl (fun Kk hKk=>?_);refine stepK_valG (v:=.slice a n ct') 6 rfl (by kernel_rfl) (by kernel_rfl) ?_;refine hKk.out _ _ hS5 ?_;clear hKk Kk;simp only [sx0,sx1,sx2];refine anyH_oneA (i:=15) (by kernel_rfl) rfl (fun Kk hKk=>?_);refine stepK_valG (v:=.slice (some ⟨B,0,none⟩) nb nb) 7 rfl (by kernel_rfl) (by kernel_rfl) ?_;refine hKk.out _ _ hS5 ?_;clear hKk Kk;simp only [sx0,sx1,sx2];refine anyH_oneA (i:=16) (by kernel_rfl) rfl (fun Kk hKk=>?_);refine stepK_valG (v:=.int .i64 (s.used:Int)) 8 rfl (by kernel_rfl) (by kernel_rfl) ?_;refine hKk.out _ _ hS5 ?_;clear hKk Kk;simp only [sx0,sx1,sx2];refine anyH_oneA (i:=17) (by kernel_rfl) rfl (fun Kk hKk=>?_);refine stepK_storeRowC rfl rfl 29 _ _ rfl (H+1) #[.int .i64 0,.int .i64 0] rfl rfl 29 _ hft5.row (by kernel_rfl) rfl (by simp [Value.oneCell']) ?_;have on5:=setRow_onlyC w5 (H+1) #[.int .i64 0,.int .i64 0]
   have hRH:R≠H+1:=by have:=HRu.out.o.1;have:=(HF.out.ext HE1.out).lt;omega
   have hBH:B≠H+1:=by have:=HRu.out.o.2.2.1;have:=(HF.out.ext HE1.out).lt;omega
   have hrow6:=(on5.block R hRH).trans hrow5;have hbt6:=(on5.block B hBH).trans hbt5
   have hs6:=strs_farT hs5 on5 hft5.row (fun j x=>by
    match j with
    | 0=>simp
    | 1=>simp
    | j+2=>simp)
   have hE6:Ext w (w5.setRow (H+1) #[.int .i64 0,.int .i64 0]):=ext_onlyC hE5 on5 (by rw [HH.out];omega);have hft6:FtB (w5.setRow (H+1) #[.int .i64 0,.int .i64 0]) (H+1) 0 0:=⟨setRow_heap w5 (H+1) _ _ _ _ hft5.row⟩;obtain ⟨W6,hW6⟩:∃ V,w5.setRow (H+1) #[.int .i64 0,.int .i64 0]=V:=⟨_,rfl⟩;rw [hW6] at hrow6 hbt6 hs6 hE6 hft6 ⊢;refine hKk.out _ _ ⟨by rw [cell_of_row W6 R 0 _ _ (0,0) hrow6];rfl,by rw [cell_of_row W6 R 1 _ _ (0,0) hrow6];rfl,by rw [cell_of_row W6 R 3 _ _ (0,0) hrow6];rfl⟩ ?_;clear hKk Kk;refine wpAnyH_done (by kernel_rfl) ?_ _;have HEnd:=Lh (And.intro hs6 (And.intro hbt6 (And.intro hE6 hfr5)));have x0':=hft6.x0;have x1':=hft6.x1;clear hfr5 hrow6 hbt6 hs6 hE6 hft6 hW6 hE5 hbt5 hft5 hS5 hrow5 hs5 ht5 on5 hRH hBH hgH hEy hy hst hl HSS hA he0 HX
   go_wp2_with fail
   refine bodyPost_ret (v:=.tuple #[.slice a n ct',.slice (some ⟨B,0,none⟩) nb nb,.int .i64 (s.used:Int),.agg #[.int .i64 0,.int .i64 0]]) (by simp [results,Tryz.results8,go_sem,x0',x1']) rfl ?_;rw [HRn.out];exact ⟨fun _=>⟨a,ct',B,rfl,HEnd.out⟩,fun e=>absurd rfl e⟩
  have hlt:i<m:=by omega
  have p1:(i:Int)<(m:Int):=by omega
  have p0:(0:Int)<=(i:Int):=by omega
  have wi:IntKind.i64.wrap ((i:Int)+1)=((i+1:Nat):Int):=by rw [IntKind.wrap_i64];have:=Hm.out;omega
  obtain ⟨ob,oo,rfl⟩:=Hh.out.some_of (by omega);obtain ⟨o,ho⟩:∃ g,ops[i]?=some g:=⟨_,List.getElem?_eq_getElem (by rw [Hl.out];exact hlt)⟩;obtain ⟨a1,n1,c1,a2,n2,c2,e0,e1,e2,e3,e4,e5,hol⟩:=(Hh.out.ext (HE1.out.trans hR.e)).at i o ho
  have holu:OpL W1 o a1 n1 c1 a2 n2 c2:=by
   obtain ⟨a1',n1',c1',a2',n2',c2',e0',e1',e2',e3',e4',e5',hol'⟩:=(Hh.out.ext HE1.out).at i o ho;have z2:=cell_ext e2' hR.e;have z5:=cell_ext e5' hR.e;rw [e2] at z2;rw [e5] at z5
   cases z2
   cases z5
   exact hol'
  have HD:=Lh (fun wx hx=>doQ_any (hR.ext (w':=wx) hx) hI (by have:=Hn.out;omega) Hcg.out Hnt.out (Hok.out o (List.mem_of_getElem? ho)) a1 n1 c1 a2 n2 c2 holu);have HIn:=Lh (do_in (by have:=Hn.out;omega) Htl.out hI (Hok.out o (List.mem_of_getElem? ho)));have Htk:=Lh (run_take ho hr);have Hlt:=Lh hlt;clear hkk hR hI hr hi him hlt ho hol holu
  go_upto_region 8 with fail
  obtain ⟨J,hJ⟩:∃ J,wr.heap.size=J:=⟨_,rfl⟩;obtain ⟨Wj,hWj⟩:∃ V,wr.alloc (.cells #[.int .i64 o.kind,.int .i64 o.k,.slice a1 n1 c1,.int .i64 o.q,.int .i64 o.bit,.slice a2 n2 c2] 52)=V:=⟨_,rfl⟩
  have Ej:Ext wr Wj:=by rw [<-hWj];exact ext_al _ _
  have rj:Wj.heap[J]?=some (.cells #[.int .i64 o.kind,.int .i64 o.k,.slice a1 n1 c1,.int .i64 o.q,.int .i64 o.bit,.slice a2 n2 c2] 52 (0,0)):=by rw [<-hWj,<-hJ];exact heap_alloc_new wr _
  rw [hJ,hWj];have HDc:=Lh (HD.out Wj Ej);obtain ⟨⟨s',x⟩,hD⟩:∃ D,doT tape o s=D:=⟨_,rfl⟩;rw [hD] at HDc HIn Htk;clear hJ hWj e0 e1 e2 e3 e4 e5 Ej hD HD
  go_wp2_with (refine wpList_load_row rfl 52 _ rfl J rfl 52 _ (0,0) _ rj Tryz.underlying52 rfl (by kernel_rfl) ?_)
  refine HDc.out.mono ?_;rintro e w5 ⟨rfl,hr5⟩;have HR5:=Lh hr5;simp only;clear hr5 rj
  by_cases hx:x=0
  ·have Htk:=Lh (show runT tape (ops.take (i+1)) 0 s0=(s',0,0) by have:=Htk.out.1;simp only [hx,if_true] at this;exact this)
   have q1:(x:Int)=0:=by omega
   have q2:((x:Int) != 0)=false:=by rw [q1];rfl
   clear hx
   go_wp2_with fail
   go_roundg (m-(i+1))
   case measure=>have:=Hkk.out;have:=Hlt.out;omega
   case rel=>exact ⟨i+1,s',rfl,Hlt.out,rfl,HR5.out,HIn.out,Htk.out⟩
  ·have Htk:=Lh (show runT tape ops 0 s0=(s',x,i) from Htk.out.2 hx)
   have q1:¬ (x:Int)=0:=by omega
   have q2:((x:Int) != 0)=true:=by simpa using q1
   have Hx:=Lh hx;have bz:=HF.out.ext (HE1.out.trans HR5.out.e);have x0':=bz.x0;have x1':=bz.x1;have g0':=bz.f 0;have g1':=bz.f 1;have H2:=Lh (HE0.out.trans (HE1.out.trans HR5.out.e));clear hx bz
   go_wp2_with fail
   refine bodyPost_ret (v:=.tuple #[.slice none 0 0,.slice none 0 0,.int .i64 0,.agg #[.int .i64 (x:Int),.int .i64 (i:Int)]]) (by simp [results,Tryz.results8,go_sem,x0',x1']) rfl ?_;rw [Htk.out];exact ⟨fun e=>absurd e Hx.out,fun _=>⟨rfl,put2x H2.out (by have:=HH.out;omega) _ _⟩⟩
theorem bsQ_at {v n i:Nat} {p:QP} (h:(bsQ v n)[i]?=some p):i<n/\p=tlQ i (decide (v / 2 ^ i % 2=1)):=by
 unfold bsQ at h;rw [List.getElem?_map,Option.map_eq_some_iff] at h;obtain ⟨q,hq,rfl⟩:=h
 have hi:i<n:=by have:=(List.getElem?_eq_some_iff.1 hq).1;simpa using this
 rw [List.getElem?_range hi] at hq
 cases hq
 exact ⟨hi,rfl⟩
theorem bsQ_good {v n:Nat} (hn:n<=16):GoodS (bsQ v n):=by
 refine ⟨fun p hp r hr=>?_,⟨(List.range n).map fun q=>⟨2 ^ q,0,false⟩,by rw [List.length_map,List.length_range,bsQ_len],fun i j p r hp hr=>?_⟩,fun p hp=>?_⟩
 ·obtain ⟨i,hi⟩:=List.getElem?_of_mem hp
  obtain ⟨j,hj⟩:=List.getElem?_of_mem hr;obtain ⟨h1,rfl⟩:=bsQ_at hi;obtain ⟨h2,rfl⟩:=bsQ_at hj;rw [ant_tl _ (by omega)]
  show (0:Nat).testBit j=false
  exact Nat.zero_testBit j
 ·obtain ⟨h1,rfl⟩:=bsQ_at hp
  rw [List.getElem?_map,Option.map_eq_some_iff] at hr;obtain ⟨q,hq,rfl⟩:=hr
  have hj:j<n:=by have:=(List.getElem?_eq_some_iff.1 hq).1;simpa using this
  rw [List.getElem?_range hj] at hq
  cases hq
  rw [ant_symm,ant_tl _ (by omega)]
  show (2 ^ j).testBit i=decide (i=j)
  rw [Nat.testBit_two_pow];exact decide_eq_decide.2 eq_comm
 ·obtain ⟨i,hi⟩:=List.getElem?_of_mem hp
  obtain ⟨h1,rfl⟩:=bsQ_at hi;exact ⟨by show 0<65536;decide,pow_16 (by omega)⟩
theorem bsQ_bd {v n:Nat}:∀ p ∈ bsQ v n,bdQ n p:=fun p hp=>by
 obtain ⟨i,hi⟩:=List.getElem?_of_mem hp;obtain ⟨h1,rfl⟩:=bsQ_at hi;exact ⟨Nat.pow_pos (by decide),Nat.pow_lt_pow_right (by decide) h1⟩
theorem bsQ_in (v:Nat) {n nb nt:Nat} (hn:n<=16):InT n nb nt ⟨bsQ v n,List.replicate nb 0,0⟩:=⟨bsQ_good hn,bsQ_len v n,List.length_replicate,Nat.zero_le _⟩
theorem bsQ_grp {v n i:Nat} (h:i<n):Grp (bsQ v n) (tlQ i (decide (v / 2 ^ i % 2=1))):=by
 refine .of (List.mem_map.2 ⟨i,List.mem_range.2 h,rfl⟩)
theorem bsQ_spare {v N:Nat} (hv:v<2 ^ N):Grp (bsQ v (N+1)) (tlQ N false):=by
 have:=bsQ_grp (v:=v) (n:=N+1) (i:=N) (by omega);rw [Nat.div_eq_of_lt hv] at this;exact this
theorem tl_keep {N:Nat} {o:Gop} (ho:MOk N o):actN o (tlQ N false)=tlQ N false:=by
 have hx:∀ q,(tlQ N false).x.testBit q=false:=fun q=>Nat.zero_testBit q
 have hz:∀ q,q<N->(tlQ N false).z.testBit q=false:=fun q hq=>by show (2 ^ N).testBit q=false;rw [Nat.testBit_two_pow,decide_eq_false (by omega)]
 have hon:∀ q c,q<N->onG q c (tlQ N false)=tlQ N false:=fun q c hq=>by
  refine QP.ext' (Nat.eq_of_testBit_eq fun j=>?_) (Nat.eq_of_testBit_eq fun j=>?_) ?_
  ·rw [on_x,hx c];simp
  ·rw [on_z,hz q hq];simp
  ·show (false ^^ ((tlQ N false).x.testBit c && (tlQ N false).z.testBit q && _))=false
   rw [hx c];rfl
 cases ho with
 | @x q h cd =>
  rw [actN_x];exact QP.ext' rfl rfl (by show (false ^^ (tlQ N false).z.testBit q)=false;rw [hz q h];rfl)
 | @cx q c h h2 h3 cd=>rw [actN_cx];exact hon q c h
 | @h q h cd=>rw [actN_h];exact fork_free (hx q) (hz q h)
 | @p q k h h1 h2 cd=>rw [actN_p];exact it_quar_free (hx q) k
 | @cp q c h h2 h3 cd =>
  rw [show actN ⟨4,8,[(c:Int)],(q:Int),0,cd⟩=itG (cpG q c) 1 from actN_cp q c 1 cd]
  show cpG q c (tlQ N false)=_
  unfold cpG;rw [fork_free (hx q) (hz q h),hon q c h,fork_free (hx q) (hz q h)]
theorem tl_keepL {N:Nat}:∀ {ops:List Gop},(∀ o ∈ ops,MOk N o)->actNL ops (tlQ N false)=tlQ N false
 | [],_=>rfl
 | o :: r,h=>by
  show actNL r (actN o (tlQ N false))=_
  rw [tl_keep (h o (by simp))]
  exact tl_keepL fun x hx=>h x (by simp [hx])
end Go.Proofs.YtlechhmhmakgpaaGreatDoor
