/-
  The program: (*homing).do: one gate more, and all generators taken through it. The program: a group's rows are taken through a gate; one row is taken from all others that have a column. The program: one row is taken from all others that have a column. The program: a column as a closure. The program: a group is brought to its one form. A group of signed Paulis behind a generator measured by a spare qubit: the outcome is the sign that the group gives the generator, and behind the spare's reset the group is what it was.
-/
import Derived.BigRegion
import Derived.Test.YtlechhmhmakgpaaGreatDoorS16Le
namespace Go.Proofs.YtlechhmhmakgpaaGreatDoor
set_option maxRecDepth 100000
set_option maxHeartbeats 8000000
open Go.RowKit
theorem stepK_buildW {ops:Array Oper} {o:Oper} {a:Act} {K:Act->World->Prop} {Q:Exit->Act->World->Prop} {E:Prop} {w:World} (hgd:o.guard=none) (x:Operand) (ho:o.op=.buildSlice 22 1 #[(0,x)]) (k0 k1:Int) (a1:Option Addr) (n1 c1:Nat) (k3 k4:Int) (a2:Option Addr) (n2 c2:Nat)
  (hx:a.eval x=.agg #[.int .i64 k0,.int .i64 k1,.slice a1 n1 c1,.int .i64 k3,.int .i64 k4,.slice a2 n2 c2]) (h:K (a.put o.dst (.slice (some ⟨w.heap.size,0,none⟩) 1 1)) (w.alloc (.cells #[.int .i64 k0,.int .i64 k1,.slice a1 n1 c1,.int .i64 k3,.int .i64 k4,.slice a2 n2 c2] 52))) :
  if Region.wanted o (yielded ops a.tmps)=true then Oper.wp Tryz.prog o a w K Q else E:=by
 have hw:Region.wanted o (yielded ops a.tmps)=true:=by simp [Region.wanted,hgd]
 rw [if_pos hw];obtain ⟨od,oo,ot,opp,oa,og⟩:=o;simp only at ho;subst ho;have HH:=Lh h;clear h;unfold Oper.wp execOp;simp only [hx,List.map_toArray,List.map_cons,List.map_nil]
 go_simp
 exact HH.out
def doL (A:QP->QP) (l:List QP) (i:Nat):List QP:=(l.take i).map A++l.drop i
theorem doL_len (A:QP->QP) (l:List QP) (i:Nat):(doL A l i).length=l.length:=by
 unfold doL;simp only [List.length_append,List.length_map,List.length_take,List.length_drop];omega
theorem doL_at (A:QP->QP) (l:List QP) (i:Nat):(doL A l i)[i]?=l[i]?:=by
 unfold doL
 by_cases h:i<=l.length
 ·rw [List.getElem?_append_right (by simp;omega),List.length_map,List.length_take,Nat.min_eq_left h,Nat.sub_self,List.getElem?_drop,Nat.add_zero]
 ·rw [List.getElem?_eq_none (by simp;omega),List.getElem?_eq_none (by omega)]
theorem doL_set (A:QP->QP) (l:List QP) {i:Nat} {p:QP} (h:l[i]?=some p):(doL A l i).set i (A p)=doL A l (i+1):=by
 obtain ⟨hi,he⟩:=List.getElem?_eq_some_iff.1 h
 refine List.ext_getElem? fun j=>?_
 unfold doL
 by_cases e:i=j
 ·subst e
  rw [List.getElem?_set_self (by simp;omega),List.getElem?_append_left (by simp;omega),List.getElem?_map,List.getElem?_take,if_pos (by omega),h]
  rfl
 ·rw [List.getElem?_set_ne e]
  by_cases hj:j<i
  ·rw [List.getElem?_append_left (by simp;omega),List.getElem?_append_left (by simp;omega),List.getElem?_map,List.getElem?_map,List.getElem?_take,List.getElem?_take,if_pos hj,if_pos (by omega)]
  ·rw [List.getElem?_append_right (by simp;omega),List.getElem?_append_right (by simp;omega),List.getElem?_drop,List.getElem?_drop]
   congr 1
   simp
   omega
theorem doL_all (A:QP->QP) (l:List QP):doL A l l.length=l.map A:=by simp [doL]
theorem doL_zero (A:QP->QP) (l:List QP):doL A l 0=l:=by simp [doL]
theorem act_ok {n:Nat} (hn:n<=16) {o:Gop} (ho:WOk n o) {p:QP} (hp:p.ok):(actW o p).ok:=by
 cases ho with
 | x _=>rw [act_x];exact ok_flip hp
 | cx h h2 _=>rw [act_cx];exact ok_on (by omega) (by omega) hp
 | h _=>rw [act_h];exact ok_fork hp
 | p _ _=>rw [act_p];exact itG_ok (fun _ k=>ok_quar k) _ _ hp
def DoR (u:World) (base B g n ng:Nat) (ag:Option Addr) (cg:Nat) (l:List QP) (ops:List Gop) (e:Ending) (w':World):Prop:=(∃ x,e=.returned x)/\∃ v',HmS u w' base B g n ng ag cg l v' ops
theorem do_any {u w:World} {base B g n ng:Nat} {ag:Option Addr} {cg:Nat} {l:List QP} {v:Value} {ops:List Gop} (h:HmS u w base B g n ng ag cg l v ops) (hn:n<=16) (hng:ng<=16) (hok:∀ p ∈ l,p.ok) (hlen:ops.length<=10000)
  {o:Gop} (ho:WOk n o) (a1:Option Addr) (n1 c1:Nat) (a2:Option Addr) (n2 c2:Nat) (hO:OpO w o a1 n1 c1 a2 n2 c2) :
  Calls Tryz.prog 118 #[.pointer (some ⟨B,0,none⟩),.agg #[.int .i64 o.kind,.int .i64 o.k,.slice a1 n1 c1,.int .i64 o.q,.int .i64 o.bit,.slice a2 n2 c2]] w fun e w'=>DoR u base B g n ng ag cg (l.map (actW o)) (ops++[o]) e w':=by
 have HG:=Lh (fun wx hx=>GateOf_any hn ho a1 n1 c1 a2 n2 c2 wx hx);have Hact:=Lh (fun (p:QP) (hp:p.ok)=>act_ok hn ho hp);obtain ⟨A,hA⟩:∃ A,actW o=A:=⟨_,rfl⟩;rw [hA] at HG Hact ⊢;obtain ⟨kd,k,ctl,q,bt,cnd⟩:=o;simp only at HG ⊢;have bx:=opbx_new w kd k a1 n1 c1 q bt a2 n2 c2;have E0:=ext_al w (.cells #[.int .i64 kd,.int .i64 k,.slice a1 n1 c1,.int .i64 q,.int .i64 bt,.slice a2 n2 c2] 52);obtain ⟨H,hH⟩:∃ H,w.heap.size=H:=⟨_,rfl⟩;obtain ⟨W0,hW0⟩:∃ V,w.alloc (.cells #[.int .i64 kd,.int .i64 k,.slice a1 n1 c1,.int .i64 q,.int .i64 bt,.slice a2 n2 c2] 52)=V:=⟨_,rfl⟩;rw [hW0] at bx E0;rw [hH] at bx;have Hh:=Lh (h.ext E0);have HO:=Lh (hO.ext E0);have Hbx:=Lh bx;have HW0:=Lh hW0;have HH:=Lh hH;have Hng:=Lh hng;have Hok:=Lh hok;have Hlen:=Lh hlen;have Hvl:=Lh (show ∀ j,v.ownBlock=some j->j<H from fun j hj=>by obtain ⟨xs,hx,_⟩:=h.os;rw [<-hH];exact (own_lt hx j hj).2);have Hgl:=Lh h.gl;have HbH:=Lh (show base<=H by rw [<-hH];exact h.o.2.2.2.2.2);clear h hO bx E0 hW0 hH hng hok hn ho hA hlen
 go_enter Tryz.func118,Tryz.ntmps118
 go_upto_region 1 with fail
 rw [HW0.out,HH.out];have HSt:=Lh (fun (w':World) (hx:Ext W0 w')=>(show w'.cell? ⟨B,2,none⟩=some v/\w'.cell? ⟨H,0,none⟩=some (.int .i64 kd)/\w'.cell? ⟨H,1,none⟩=some (.int .i64 k)/\w'.cell? ⟨H,2,none⟩=some (.slice a1 n1 c1)/\w'.cell? ⟨H,3,none⟩=some (.int .i64 q)/\w'.cell? ⟨H,4,none⟩=some (.int .i64 bt)/\w'.cell? ⟨H,5,none⟩=some (.slice a2 n2 c2) from ⟨cell_ext Hh.out.x2 hx,cell_ext Hbx.out.x0 hx,cell_ext Hbx.out.x1 hx,cell_ext Hbx.out.x2 hx,cell_ext Hbx.out.x3 hx,cell_ext Hbx.out.x4 hx,cell_ext Hbx.out.x5 hx⟩));have hd0:Ext W0 W0.drew:=Below.drew (Ext.refl _);refine wp_region_K 10 (fun w'=>w'.cell? ⟨B,2,none⟩=some v/\w'.cell? ⟨H,0,none⟩=some (.int .i64 kd)/\w'.cell? ⟨H,1,none⟩=some (.int .i64 k)/\w'.cell? ⟨H,2,none⟩=some (.slice a1 n1 c1)/\w'.cell? ⟨H,3,none⟩=some (.int .i64 q)/\w'.cell? ⟨H,4,none⟩=some (.int .i64 bt)/\w'.cell? ⟨H,5,none⟩=some (.slice a2 n2 c2)) (by kernel_rfl) ?_
 show anyK _ _ _ _ _ _ 11 #[false,false,false,false,false,false,false,false,false,false,false] _ _
 refine kT 0 11 (v:=?_) rfl (Or.inl ⟨by rfl,?_⟩) (HSt.out _ hd0) ?_;rotate_left 1
 ·intro w hSw
  go_simp
  try with_reducible rfl
 show anyK _ _ _ _ _ _ _ _ (Act.put _ (some 7) _) _
 simp only [Act.put,sx0,sx1,sx2];refine kT 1 11 (v:=?_) rfl (Or.inl ⟨by rfl,?_⟩) (HSt.out _ hd0) ?_;rotate_left 1
 ·intro w hSw
  go_simp
  try with_reducible rfl
 show anyK _ _ _ _ _ _ _ _ (Act.put _ (some 8) _) _
 simp only [Act.put,sx0,sx1,sx2];refine kT 2 11 (v:=?_) rfl (Or.inl ⟨by rfl,?_⟩) (HSt.out _ hd0) ?_;rotate_left 1
 ·intro w hSw
  go_simp
  try with_reducible rfl
 show anyK _ _ _ _ _ _ _ _ (Act.put _ (some 9) _) _
 simp only [Act.put,sx0,sx1,sx2];refine kT 3 11 (v:=?_) rfl (Or.inl ⟨by rfl,?_⟩) (HSt.out _ hd0) ?_;rotate_left 1
 ·intro w hSw
  go_simp
  try with_reducible rfl
 show anyK _ _ _ _ _ _ _ _ (Act.put _ (some 10) _) _
 simp only [Act.put,sx0,sx1,sx2];refine kT 4 11 (v:=?_) rfl (Or.inl ⟨by rfl,?_⟩) (HSt.out _ hd0) ?_;rotate_left 1
 ·intro w hSw
  go_simp
  try with_reducible rfl
 show anyK _ _ _ _ _ _ _ _ (Act.put _ (some 11) _) _
 simp only [Act.put,sx0,sx1,sx2];refine kT 5 11 (v:=?_) rfl (Or.inl ⟨by rfl,?_⟩) (HSt.out _ hd0) ?_;rotate_left 1
 ·intro w hSw
  go_simp
  try with_reducible rfl
 show anyK _ _ _ _ _ _ _ _ (Act.put _ (some 12) _) _
 simp only [Act.put,sx0,sx1,sx2];refine anyK_one (i:=6) (by kernel_rfl) rfl (fun Kk hKk=>?_);refine stepK_buildW rfl _ rfl kd k a1 n1 c1 q bt a2 n2 c2 rfl ?_;have E2:Ext W0 (W0.drew.alloc (.cells #[.int .i64 kd,.int .i64 k,.slice a1 n1 c1,.int .i64 q,.int .i64 bt,.slice a2 n2 c2] 52)):=hd0.trans (ext_al _ _);refine hKk.out _ _ (fun _=>HSt.out _ E2) ?_;clear hKk Kk
 show anyK _ _ _ _ _ _ _ _ (Act.put _ (some 13) _) _
 simp only [Act.put,sx0,sx1,sx2];obtain ⟨i0,hi0,hz0,hz1,hz2⟩:=info_parts op_info;have hs2:=Hh.out.ext E2;obtain ⟨xs,hown,hrows⟩:=hs2.os;have hO2:=HO.out.ext E2;obtain ⟨v7,w7,hrun,hown7,hgrow7,_⟩:=run_append_own (P:=Tryz.prog) (W0.drew.alloc (.cells #[.int .i64 kd,.int .i64 k,.slice a1 n1 c1,.int .i64 q,.int .i64 bt,.slice a2 n2 c2] 52)) base 22 22 52 i0 (.agg #[.int .i64 0,.int .i64 0,.slice none 0 0,.int .i64 0,.int .i64 0,.slice none 0 0]) 6 80 Tryz.underlying22 hi0 hz0 hz1 hz2 rfl (by decide) v ops.length xs hown ⟨W0.drew.heap.size,0,none⟩ 1 1 [.int .i64 kd,.int .i64 k,.slice a1 n1 c1,.int .i64 q,.int .i64 bt,.slice a2 n2 c2] rfl (new_op _ _ _ _ _ _ _ _ _ _ _ _) (one_op _ _ _ _ _ _ _ _ _ _) (by unfold maxLen;have:=Hlen.out;omega) (by have:=Hlen.out;omega) hs2.o.2.2.2.2.2;obtain ⟨g7,cap7,rfl⟩:=ownsRow_succ hown7;have HST:=Lh (hm_step (o:=⟨kd,k,ctl,q,bt,cnd⟩) hs2 hown hrows hO2 hown7 hgrow7)
 have hk7:∀ (b:Nat) (cur:Array Value) (fr:Nat × Nat),(W0.drew.alloc (.cells #[.int .i64 kd,.int .i64 k,.slice a1 n1 c1,.int .i64 q,.int .i64 bt,.slice a2 n2 c2] 52)).heap[b]?=some (.cells cur 3 fr)->w7.heap[b]?=(W0.drew.alloc (.cells #[.int .i64 kd,.int .i64 k,.slice a1 n1 c1,.int .i64 q,.int .i64 bt,.slice a2 n2 c2] 52)).heap[b]?:=fun b cur fr hb=>hgrow7.block b (gS.1 hb).1 (fun e=>by
  obtain ⟨_,cs',fr',e2⟩:=PtKind hown b e.symm;rw [hb] at e2
  cases e2)
 have hO7:=hO2.keep hgrow7.size hk7;have hb7:OpBx w7 H kd k a1 n1 c1 q bt a2 n2 c2:=⟨(hgrow7.block H (Nat.lt_of_lt_of_le Hbx.out.lt E2.size) (fun e=>by have:=Hvl.out H e.symm;omega)).trans (Hbx.out.ext E2).row⟩;have on1:Only B w7 (w7.setCell ⟨B,2,none⟩ (.slice (some ⟨g7,0,none⟩) (ops.length+1) cap7)):=(Only.refl _ _).setCell _ _;have hBr7:∃ cs,w7.heap[B]?=some (.cells cs 168 (0,0)):=⟨_,(hgrow7.block B (Nat.lt_of_lt_of_le Hh.out.lt E2.size) (fun e=>by have:=(own_lt hown B e.symm).1;have:=Hh.out.o.2.1;omega)).trans ((E2.block B Hh.out.lt).trans Hh.out.row)⟩;obtain ⟨csB,hBr⟩:=hBr7;have HO8:=Lh (hO7.keep (by rw [on1.size];exact Nat.le_refl _) (only_ints hBr (by decide) on1));have Hb8:=Lh (show OpBx (w7.setCell ⟨B,2,none⟩ (.slice (some ⟨g7,0,none⟩) (ops.length+1) cap7)) H kd k a1 n1 c1 q bt a2 n2 c2 from ⟨(on1.block H (by have:=HbH.out;have:=Hh.out.o.2.1;omega)).trans hb7.row⟩);have hH7:w7.cell? ⟨B,2,none⟩=some v/\w7.cell? ⟨H,0,none⟩=some (.int .i64 kd)/\w7.cell? ⟨H,1,none⟩=some (.int .i64 k)/\w7.cell? ⟨H,2,none⟩=some (.slice a1 n1 c1)/\w7.cell? ⟨H,3,none⟩=some (.int .i64 q)/\w7.cell? ⟨H,4,none⟩=some (.int .i64 bt)/\w7.cell? ⟨H,5,none⟩=some (.slice a2 n2 c2):=⟨HST.out.1,hb7.x0,hb7.x1,hb7.x2,hb7.x3,hb7.x4,hb7.x5⟩;refine anyK_one (i:=7) (by kernel_rfl) rfl (fun Kk hKk=>?_);refine stepK_append rfl _ _ 22 rfl v (.slice (some ⟨W0.drew.heap.size,0,none⟩) 1 1) _ rfl rfl hrun ?_;refine hKk.out _ _ (fun _=>hH7) ?_;clear hKk Kk hrun hown hrows hown7 hgrow7 hO2 hs2 hk7 hO7 hb7 on1 hBr E2 hd0
 show anyK _ _ _ _ _ _ _ _ (Act.put _ (some 14) _) _
 simp only [Act.put,sx0,sx1,sx2];refine kT 8 11 (v:=?_) rfl (Or.inl ⟨by rfl,?_⟩) hH7 ?_;rotate_left 1
 ·intro w hSw
  go_simp
  try with_reducible rfl
 show anyK _ _ _ _ _ _ _ _ (Act.put _ (some 15) _) _
 simp only [Act.put,sx0,sx1,sx2];refine kT 9 11 (v:=?_) rfl (Or.inl ⟨by rfl,?_⟩) hH7 ?_;rotate_left 1
 ·intro w hSw
  go_simp
  try with_reducible rfl
 show anyK _ _ _ _ _ _ _ _ (Act.put _ (some 16) _) _
 simp only [Act.put,sx0,sx1,sx2];clear hH7;refine anyK_one (i:=10) (by kernel_rfl) rfl (fun Kk hKk=>?_);refine stepK_store rfl rfl _ _ rfl B 2 _ _ _ v rfl rfl HST.out.1 HST.out.2.1 ?_;refine hKk.out _ _ (fun h=>Bool.noConfusion (show true=false from h)) ?_;clear hKk Kk;simp only [sx0,sx1,sx2];refine anyK_done (by kernel_rfl) ?_ _;have HS8:=Lh HST.out.2.2;obtain ⟨W8,hW8⟩:∃ V,w7.setCell ⟨B,2,none⟩ (.slice (some ⟨g7,0,none⟩) (ops.length+1) cap7)=V:=⟨_,rfl⟩;obtain ⟨v8,hv8⟩:∃ v,Value.slice (some ⟨g7,0,none⟩) (ops.length+1) cap7=v:=⟨_,rfl⟩;rw [hW8,hv8] at HS8;rw [hW8] at HO8 Hb8 ⊢;clear HST hW8 HSt;have k0:=Hb8.out.x0;have k1:=Hb8.out.x1;have k2:=Hb8.out.x2;have k3:=Hb8.out.x3;have k4:=Hb8.out.x4;have k5:=Hb8.out.x5;have HGo:=Lh (HG.out W8 HO8.out.l)
 go_wp2_with fail
 refine HGo.out.mono ?_;rintro e w9 ⟨vg,rfl,x9,hvg⟩;obtain ⟨F,caps,rfl,hEnt,hC⟩:=hvg;have HC:=Lh hC;have HS9:=Lh (HS8.out.ext x9);have h1:=HS9.out.x1;have Hlo:=Lh (show g<W8.heap.size from Nat.lt_of_lt_of_le HS8.out.o.2.2.2.1 HS8.out.o.2.2.2.2.2);obtain ⟨lo,hlo⟩:∃ lo,W8.heap.size=lo:=⟨_,rfl⟩;rw [hlo] at HC Hlo;clear x9 hC k0 k1 k2 k3 k4 k5 HGo hlo
 go_wp2_with fail
 go_loopg [24] ng (fun kk s24 wr=>∃ i:Nat,s24=.int .i64 (i:Int)/\i<=ng/\ng-i=kk/\HmS u wr base B g n ng ag cg (doL A l i) v8 (ops++[⟨kd,k,ctl,q,bt,cnd⟩])/\Kb lo w9 wr)
 case atStart=>exact ⟨0,rfl,Nat.zero_le _,rfl,by rw [doL_zero];exact HS9.out,Kb.of_ext (Ext.refl _)⟩
 case round =>
  obtain ⟨i,rfl,hi,hkk,hS,hK⟩:=hrel;have Hkk:=Lh hkk;have HS:=Lh hS;have HK:=Lh hK
  by_cases hin:i=ng
  ·have p1:¬ (i:Int)<(ng:Int):=by omega
   rw [hin,<-Hgl.out,doL_all,Hgl.out] at HS;clear hkk hS hK hi hin hEnt
   go_wp2_with fail
   go_end0
   exact ⟨⟨_,rfl⟩,v8,HS.out⟩
  have hlt:i<ng:=by omega
  have p1:(i:Int)<(ng:Int):=by omega
  have p0:(0:Int)<=(i:Int):=by omega
  have wi:IntKind.i64.wrap ((i:Int)+1)=((i+1:Nat):Int):=by rw [IntKind.wrap_i64];have:=Hng.out;omega
  obtain ⟨p,hp⟩:∃ p,l[i]?=some p:=⟨_,List.getElem?_eq_getElem (by rw [Hgl.out];exact hlt)⟩;have hpi:(doL A l i)[i]?=some p:=(doL_at A l i).trans hp;obtain ⟨hag,hGn,_⟩:=hS.at hpi;obtain ⟨e0,e1,e2⟩:=hGn.c i p hpi;have Hpok:=Lh (Hok.out p (List.mem_of_getElem? hp));have Hset:=Lh (doL_set A l hp);have Hlt:=Lh hlt;have Hpi:=Lh hp;have Hag:=Lh hag;have h1:=hS.x1;rw [hag] at h1 ⊢;clear hkk hS hK hi hin hlt hp hpi hGn hag
  go_upto_region 6 with fail
  obtain ⟨J,hJ⟩:∃ J,wr.heap.size=J:=⟨_,rfl⟩;obtain ⟨Wj,hWj⟩:∃ V,wr.alloc (.cells #[.int .u16 (p.x:Int),.int .u16 (p.z:Int),.bool p.m] 103)=V:=⟨_,rfl⟩
  have Ej:Ext wr Wj:=by rw [<-hWj];exact ext_al _ _
  have hbP:PuB Wj J p.x p.z p.m:=by rw [<-hWj,<-hJ];exact PuB.new _ _ _ _
  rw [hJ,hWj];clear hJ hWj;have HS:=Lh (HS.out.ext Ej);have HK:=Lh (HK.out.ext Ej);have HbP:=Lh hbP;clear hbP Ej h1 e0 e1 e2;have HSt:=Lh (fun (w':World) (hx:Ext Wj w')=>(show w'.cell? ⟨B,1,none⟩=some (.slice (some ⟨g,0,none⟩) ng cg)/\w'.cell? ⟨J,0,none⟩=some (.int .u16 (p.x:Int))/\w'.cell? ⟨J,1,none⟩=some (.int .u16 (p.z:Int))/\w'.cell? ⟨J,2,none⟩=some (.bool p.m) from ⟨by rw [<-Hag.out];exact cell_ext HS.out.x1 hx,cell_ext HbP.out.x0 hx,cell_ext HbP.out.x1 hx,cell_ext HbP.out.x2 hx⟩));have hd0:Ext Wj Wj.drew:=Below.drew (Ext.refl _);refine wp_region_K 9 (fun w'=>w'.cell? ⟨B,1,none⟩=some (.slice (some ⟨g,0,none⟩) ng cg)/\w'.cell? ⟨J,0,none⟩=some (.int .u16 (p.x:Int))/\w'.cell? ⟨J,1,none⟩=some (.int .u16 (p.z:Int))/\w'.cell? ⟨J,2,none⟩=some (.bool p.m)) (by kernel_rfl) ?_
  show anyK _ _ _ _ _ _ 10 #[false,false,false,false,false,false,false,false,false,false] _ _
  refine kT 0 10 (v:=?_) rfl (Or.inl ⟨by rfl,?_⟩) (HSt.out _ hd0) ?_;rotate_left 1
  ·intro w hSw
   go_simp
   try with_reducible rfl
  show anyK _ _ _ _ _ _ _ _ (Act.put _ (some 29) _) _
  simp only [Act.put,sx0,sx1,sx2];refine kT 1 10 (v:=?_) rfl (Or.inl ⟨by rfl,?_⟩) (HSt.out _ hd0) ?_;rotate_left 1
  ·intro w hSw
   go_simp
   try with_reducible rfl
  show anyK _ _ _ _ _ _ _ _ (Act.put _ (some 30) _) _
  simp only [Act.put,sx0,sx1,sx2];refine kT 2 10 (v:=?_) rfl (Or.inl ⟨by rfl,?_⟩) (HSt.out _ hd0) ?_;rotate_left 1
  ·intro w hSw
   go_simp
   try with_reducible rfl
  show anyK _ _ _ _ _ _ _ _ (Act.put _ (some 31) _) _
  simp only [Act.put,sx0,sx1,sx2];refine kT 3 10 (v:=?_) rfl (Or.inl ⟨by rfl,?_⟩) (HSt.out _ hd0) ?_;rotate_left 1
  ·intro w hSw
   go_simp
   try with_reducible rfl
  show anyK _ _ _ _ _ _ _ _ (Act.put _ (some 32) _) _
  simp only [Act.put,sx0,sx1,sx2];refine kT 4 10 (v:=?_) rfl (Or.inl ⟨by rfl,?_⟩) (HSt.out _ hd0) ?_;rotate_left 1
  ·intro w hSw
   go_simp
   try with_reducible rfl
  show anyK _ _ _ _ _ _ _ _ (Act.put _ (some 33) _) _
  simp only [Act.put,sx0,sx1,sx2];refine kT 5 10 (v:=?_) rfl (Or.inl ⟨by rfl,?_⟩) (HSt.out _ hd0) ?_;rotate_left 1
  ·intro w hSw
   go_simp
   try with_reducible rfl
  show anyK _ _ _ _ _ _ _ _ (Act.put _ (some 34) _) _
  simp only [Act.put,sx0,sx1,sx2];refine kT 6 10 (v:=?_) rfl (Or.inl ⟨by rfl,?_⟩) (HSt.out _ hd0) ?_;rotate_left 1
  ·intro w hSw
   go_simp
   try with_reducible rfl
  show anyK _ _ _ _ _ _ _ _ (Act.put _ (some 35) _) _
  simp only [Act.put,sx0,sx1,sx2];have HCc:=Lh (HC.out p Wj.drew Hpok.out (HK.out.ext hd0));unfold pvQ at HCc;obtain ⟨Q,hQ⟩:∃ Q,A p=Q:=⟨_,rfl⟩;rw [hQ] at HCc Hset;clear hQ;refine anyK_one (i:=7) (by kernel_rfl) rfl (fun Kk hKk=>?_)
  go_simp
  (refine HCc.out.mono ?_;rintro e wA ⟨rfl,xA⟩)
  have EA:Ext Wj wA:=hd0.trans xA
  go_wp2_with fail
  refine hKk.out _ _ (fun _=>HSt.out _ EA) ?_;clear hKk Kk;simp only [sx0,sx1,sx2];refine kT 8 10 (v:=?_) rfl (Or.inl ⟨by rfl,?_⟩) (HSt.out _ EA) ?_;rotate_left 1
  ·intro w hSw
   go_simp
   try with_reducible rfl
  show anyK _ _ _ _ _ _ _ _ (Act.put _ (some 37) _) _
  simp only [Act.put,sx0,sx1,sx2];have HSA:=Lh (HS.out.ext EA);have HKA:=Lh (HK.out.ext EA);clear EA hd0 xA HCc;have hgA:=(HSA.out.at (i:=i) (p:=p) (by rw [doL_at];exact Hpi.out)).2.1;obtain ⟨e0,e1,e2⟩:=hgA.c i p (by rw [doL_at];exact Hpi.out);have f0:=hgA.f (i*3);have f1:=hgA.f (i*3+1);have f2:=hgA.f (i*3+2);have HP:=Lh (HSA.out.put Hlt.out Q);rw [Hset.out] at HP;have HKP:=Lh (HKA.out.only ((((Only.refl g wA).setCell (i*3) (.int .u16 (Q.x:Int))).setCell (i*3+1) (.int .u16 (Q.z:Int))).setCell (i*3+2) (.bool Q.m)) Hlo.out);clear hgA;refine anyK_one (i:=9) (by kernel_rfl) rfl (fun Kk hKk=>?_)
  go_wp2_with fail
  refine hKk.out _ _ (fun h=>Bool.noConfusion (show true=false from h)) ?_;clear hKk Kk;simp only [sx0,sx1,sx2];refine anyK_done (by kernel_rfl) ?_ _;clear e0 e1 e2 f0 f1 f2
  go_wp2_with fail
  rw [<-Hag.out]
  go_roundg (ng-(i+1))
  case measure=>have:=Hkk.out;have:=Hlt.out;omega
  case rel=>exact ⟨i+1,rfl,Hlt.out,rfl,HP.out,HKP.out⟩
theorem Tur.only {B:Nat} {w w':World} (h:Only B w w'):Tur B w w':=⟨h.os,h.tape,h.output,by rw [h.size];exact Nat.le_refl _,fun k _ hn=>h.block k hn⟩
theorem Tur.kb {B lo:Nat} {w w':World} (h:Tur B w w') (hB:B<lo):Kb lo w w':=⟨h.size,fun b h1 h2=>h.block b h2 (by omega)⟩
theorem only3 (g o:Nat) (w:World) (a b c:Value):Only g w (((w.setCell ⟨g,o,none⟩ a).setCell ⟨g,o+1,none⟩ b).setCell ⟨g,o+2,none⟩ c):=(((Only.refl g w).setCell o a).setCell (o+1) b).setCell (o+2) c
theorem contG_any (l:List QP) (r:QP) (g m c:Nat) (ao:Option Addr) (w:World) (hG:GnB w g l) (hk:m=l.length) (hm:m<=64) (hao:m=0\/ao=some ⟨g,0,none⟩) :
  Calls Tryz.prog 163 #[.slice ao m c,pvQ r] w fun e w'=>e=.returned (.bool (decide (r ∈ l)))/\Ext w w':=by
 have E0:=ext_al w (.cells #[.int .u16 (r.x:Int),.int .u16 (r.z:Int),.bool r.m] 103);have hP:=PuB.new w r.x r.z r.m;have HI:=Lh (fun wx hx=>idxG_any l r g m c ao wx (hG.ext hx) hk hm hao);obtain ⟨I,hI⟩:∃ I,ixV (l.findIdx? (fun p=>decide (p=r)))=I:=⟨_,rfl⟩;obtain ⟨B,hB⟩:∃ B,decide (r ∈ l)=B:=⟨_,rfl⟩
 have hIB:decide (0<=I)=B:=by
  rw [<-hI,<-hB]
  cases e:l.findIdx? (fun p=>decide (p=r)) with
  | none =>
   have h1:=List.findIdx?_eq_none_iff.1 e
   have:¬ r ∈ l:=fun k=>by have:=h1 r k;simp at this
   rw [decide_eq_false this];rfl
  | some i =>
   obtain ⟨hi,h1,_⟩:=List.findIdx?_eq_some_iff_getElem.1 e
   have:r ∈ l:=by rw [<-of_decide_eq_true h1];exact List.getElem_mem hi
   rw [decide_eq_true this];exact decide_eq_true (by show (0:Int)<=(i:Int);omega)
 rw [hI] at HI;rw [hB]
 have b2:(I<0)=(B=false):=by
  by_cases h:0<=I
  ·rw [decide_eq_true h] at hIB;rw [<-hIB];simp;omega
  ·rw [decide_eq_false h] at hIB;rw [<-hIB];simp;omega
 obtain ⟨x,z,b⟩:=r;obtain ⟨W0,hW0⟩:∃ W0,w.alloc (.cells #[.int .u16 (x:Int),.int .u16 (z:Int),.bool b] 103)=W0:=⟨_,rfl⟩;obtain ⟨H,hH⟩:∃ H,w.heap.size=H:=⟨_,rfl⟩;simp only [hW0,hH] at hP E0;have HW0:=Lh hW0;have HH:=Lh hH;have HE0:=Lh E0;have r1:=hP.row;clear hI hB hW0 hH hP E0 hG hk hm hao;unfold pvQ at HI ⊢
 go_enter Tryz.func163,Tryz.ntmps163
 go_upto_region 1 with fail
 rw [HW0.out,HH.out]
 go_wp2_with (refine wpList_load_row rfl 103 _ rfl H rfl 103 _ (0,0) _ r1 Tryz.underlying103 rfl (by kernel_rfl) ?_)
 refine (HI.out _ HE0.out).mono ?_;rintro e w1 ⟨rfl,x1⟩;have HX:=Lh (HE0.out.trans x1);clear x1 r1
 cases B
 ·have q1:¬ 0<=I:=by intro h;rw [decide_eq_true h] at hIB;cases hIB
  have q2:I<0:=by omega
  have q3:decide (0<=I)=false:=decide_eq_false q1;clear hIB b2
  go_wp2_with fail
  go_ret
  exact ⟨rfl,HX.out⟩
 ·have q1:0<=I:=of_decide_eq_true hIB
  have q2:¬ I<0:=by omega
  have q3:decide (0<=I)=true:=decide_eq_true q1;clear hIB b2
  go_wp2_with fail
  go_ret
  exact ⟨rfl,HX.out⟩
theorem pass_any (l:List QP) (hok:∀ p ∈ l,p.ok) (A:QP->QP) (v:Value) (g n c lo:Nat) (w:World) (hG:GnB w g l) (hn:l.length=n) (hn16:n<=64) (hg:g<lo) (hv:GateV lo w v A) :
  Calls Tryz.prog 79 #[.slice (some ⟨g,0,none⟩) n c,v] w fun e w'=>(∃ x,e=.returned x)/\Tur g w w'/\GnB w' g (l.map A):=by
 obtain ⟨F,caps,rfl,hEnt,hC⟩:=hv;have HG:=Lh hG;have Hn:=Lh hn;have Hm:=Lh hn16;have Hok:=Lh hok;have HC:=Lh hC;have Hg:=Lh hg;clear hG hn hn16 hok hC hg
 go_enter Tryz.func79,Tryz.ntmps79
 go_wp2_with fail
 go_loopg [8] n (fun kk s8 wr=>∃ i:Nat,s8=.int .i64 (i:Int)/\i<=n/\n-i=kk/\Tur g w wr/\GnB wr g (doL A l i))
 case atStart=>exact ⟨0,rfl,Nat.zero_le _,rfl,Tur.refl _ _,by rw [doL_zero];exact HG.out⟩
 case round =>
  obtain ⟨i,rfl,hi,hkk,hX,hD⟩:=hrel;have Hkk:=Lh hkk;have HX:=Lh hX;have HD:=Lh hD
  by_cases hin:i=n
  ·have q1:¬ (i:Int)<(n:Int):=by omega
   rw [hin,<-Hn.out,doL_all] at HD;clear hkk hi hX hD hin hEnt
   go_wp2_with fail
   go_end0
   exact ⟨⟨_,rfl⟩,HX.out,HD.out⟩
  have hlt:i<n:=by omega
  have q1:(i:Int)<(n:Int):=by omega
  have q0:(0:Int)<=(i:Int):=by omega
  have wk:IntKind.i64.wrap ((i:Int)+1)=((i+1:Nat):Int):=by rw [IntKind.wrap_i64];have:=Hm.out;omega
  obtain ⟨p,hp⟩:∃ p,l[i]?=some p:=⟨_,List.getElem?_eq_getElem (by rw [Hn.out];exact hlt)⟩;have hpi:(doL A l i)[i]?=some p:=(doL_at A l i).trans hp;obtain ⟨e0,e1,e2⟩:=hD.c i p hpi;have Hset:=Lh (doL_set A l hp);have Hlt:=Lh hlt;have Hpi:=Lh hpi;have Hpok:=Lh (Hok.out p (List.mem_of_getElem? hp));clear hkk hi hX hD hin hlt hp hpi
  go_upto_region 3 with fail
  obtain ⟨J,hJ⟩:∃ J,wr.heap.size=J:=⟨_,rfl⟩;obtain ⟨Wj,hWj⟩:∃ V,wr.alloc (.cells #[.int .u16 (p.x:Int),.int .u16 (p.z:Int),.bool p.m] 103)=V:=⟨_,rfl⟩
  have Ej:Ext wr Wj:=by rw [<-hWj];exact ext_al _ _
  have hbP:PuB Wj J p.x p.z p.m:=by rw [<-hWj,<-hJ];exact PuB.new _ _ _ _
  rw [hJ,hWj];clear hJ hWj;have HX:=Lh (HX.out.trans (Tur.of_ext Ej));have HD:=Lh (HD.out.ext Ej);have r1:=hbP.row;have HCc:=Lh (HC.out p Wj Hpok.out (HX.out.kb Hg.out));unfold pvQ at HCc;obtain ⟨Q,hQ⟩:∃ Q,A p=Q:=⟨_,rfl⟩;rw [hQ] at HCc Hset;clear hQ Ej hbP e0 e1 e2
  go_wp2_with (refine wpList_load_row rfl 103 _ rfl J rfl 103 _ (0,0) _ r1 Tryz.underlying103 rfl (by kernel_rfl) ?_)
  refine HCc.out.mono ?_;rintro e wA ⟨rfl,xA⟩;have HX:=Lh (HX.out.trans (Tur.of_ext xA));have HD:=Lh (HD.out.ext xA);obtain ⟨e0,e1,e2⟩:=HD.out.c i p Hpi.out;have f0:=HD.out.f (i*3);have f1:=HD.out.f (i*3+1);have f2:=HD.out.f (i*3+2);have HP:=Lh (HD.out.put i (by rw [doL_len,Hn.out];exact Hlt.out) Q);rw [Hset.out] at HP;have HXP:=Lh (HX.out.trans (Tur.only (only3 g (i*3) wA (.int .u16 (Q.x:Int)) (.int .u16 (Q.z:Int)) (.bool Q.m))));clear xA HCc r1
  go_upto_region 4 with fail
  obtain ⟨W4,hW4⟩:∃ V,((wA.setCell ⟨g,i*3,none⟩ (.int .u16 (Q.x:Int))).setCell ⟨g,i*3+1,none⟩ (.int .u16 (Q.z:Int))).setCell ⟨g,i*3+2,none⟩ (.bool Q.m)=V:=⟨_,rfl⟩;rw [hW4] at HP HXP ⊢;clear e0 e1 e2 f0 f1 f2 hW4
  go_wp2_with fail
  go_roundg (n-(i+1))
  case measure=>have:=Hkk.out;have:=Hlt.out;omega
  case rel=>exact ⟨i+1,rfl,Hlt.out,rfl,HXP.out,HP.out⟩
theorem exec_midB {P:Program} {ρ:Operand->Value} {o:Oper} {w:World} {ty:TypeId} {x:Operand} {b off:Nat} (cs:List Value) {d:TypeDesc} (hr:w.rangeAt b off cs) (hu:P.underlying ty=some d) (hi:(P.info? ty).map (·.size)=some cs.length)
  (hd:d.isRow=true:=by rfl) (ho:o.op=.load ty x:=by rfl) (hx:ρ x=.pointer (some ⟨b,off,none⟩):=by kernel_rfl):(execOp ρ o).run P w=.ok (.value (.agg cs.toArray)) w:=by
 unfold execOp;simp only [ho,hx,Instr.loadAt,Instr.sureAddr,Sem.run_bind,Sem.run_pure,Result.andThen_ok,run_loadVar_mid w b off ty cs d hr hu hd hi]
theorem GnB.range {w:World} {g:Nat} {l:List QP} (h:GnB w g l) {i:Nat} {p:QP} (hp:l[i]?=some p):w.rangeAt g (i*3) [.int .u16 (p.x:Int),.int .u16 (p.z:Int),.bool p.m]:=by
 obtain ⟨e0,e1,e2⟩:=h.c i p hp;intro j v hj
 match j,hj with
 | 0,hj=>rw [<-show some _=some v from hj];exact e0
 | 1,hj=>rw [<-show some _=some v from hj];exact e1
 | 2,hj=>rw [<-show some _=some v from hj];exact e2
 | j+3,hj=>simp at hj
theorem range_apart {w:World} {g a i:Nat} {cs:List Value} (h:w.rangeAt g (a*3) cs) (hc:cs.length=3) (hia:i≠a) (x y z:Value):(((w.setCell ⟨g,i*3,none⟩ x).setCell ⟨g,i*3+1,none⟩ y).setCell ⟨g,i*3+2,none⟩ z).rangeAt g (a*3) cs:=by
 intro j v hj
 have hjl:j<3:=by rw [<-hc];exact (List.getElem?_eq_some_iff.1 hj).1
 have hne:∀ k,k<3->(⟨g,i*3+k,none⟩:Addr)≠⟨g,a*3+j,none⟩:=fun k hk e=>by
  have:i*3+k=a*3+j:=congrArg Addr.off e;omega
 have hne0:(⟨g,i*3,none⟩:Addr)≠⟨g,a*3+j,none⟩:=hne 0 (by decide);rw [World.cell?_setCell_other _ _ _ _ (hne 2 (by decide)),World.cell?_setCell_other _ _ _ _ (hne 1 (by decide)),World.cell?_setCell_other _ _ _ _ hne0];exact h j v hj
theorem sweep_any (l:List QP) (hl:GoodS l) (h:QP->Bool) (v:Value) (g n c lo a:Nat) (w:World) (hG:GnB w g l) (hn:l.length=n) (hn16:n<=64) (ha:a<n) (hg:g<lo) (hv:HasV lo w v h) :
  Calls Tryz.prog 128 #[.slice (some ⟨g,0,none⟩) n c,.int .i64 (a:Int),v] w fun e w'=>(∃ x,e=.returned x)/\Tur g w w'/\GnB w' g (seL h a l):=by
 obtain ⟨F,caps,rfl,hEnt,hC⟩:=hv;have HS:=Lh (fun k=>(seN_good hl h (a:=a) (by omega) k).1);have HG:=Lh hG;have Hn:=Lh hn;have Hm:=Lh hn16;have HC:=Lh hC;have Hg:=Lh hg;have Ha:=Lh ha
 have qa0:(0:Int)<=(a:Int):=by omega
 have qa1:(a:Int)<(n:Int):=by omega
 clear hG hn hn16 hl hC hg ha
 go_enter Tryz.func128,Tryz.ntmps128
 go_wp2_with fail
 go_loopg [10] n (fun kk s10 wr=>∃ i:Nat,s10=.int .i64 (i:Int)/\i<=n/\n-i=kk/\Tur g w wr/\GnB wr g (seN h a l i))
 case atStart=>exact ⟨0,rfl,Nat.zero_le _,rfl,Tur.refl _ _,HG.out⟩
 case round =>
  obtain ⟨i,rfl,hi,hkk,hX,hD⟩:=hrel;have Hkk:=Lh hkk;have HX:=Lh hX;have HD:=Lh hD
  by_cases hin:i=n
  ·have q1:¬ (i:Int)<(n:Int):=by omega
   have HD:=Lh (show GnB wr g (seL h a l) by unfold seL;rw [Hn.out,<-hin];exact hD);clear hkk hi hX hD hin hEnt
   go_wp2_with fail
   go_end0
   exact ⟨⟨_,rfl⟩,HX.out,HD.out⟩
  have hlt:i<n:=by omega
  have q1:(i:Int)<(n:Int):=by omega
  have q0:(0:Int)<=(i:Int):=by omega
  have wk:IntKind.i64.wrap ((i:Int)+1)=((i+1:Nat):Int):=by rw [IntKind.wrap_i64];have:=Hm.out;omega
  have hlen:(seN h a l i).length=n:=by rw [seN_len];exact Hn.out
  have hst:=seN_succ h a l i;have hgood:=HS.out i;obtain ⟨L,hL⟩:∃ L,seN h a l i=L:=⟨_,rfl⟩;rw [hL] at hlen hst hD hgood HD;obtain ⟨p,hp⟩:∃ p,L[i]?=some p:=⟨_,List.getElem?_eq_getElem (by rw [hlen];exact hlt)⟩;obtain ⟨r,hr⟩:∃ p,L[a]?=some p:=⟨_,List.getElem?_eq_getElem (by rw [hlen];exact Ha.out)⟩
  have gp:L.getD i idQ=p:=by rw [List.getD_eq_getElem?_getD,hp];rfl
  have gr:L.getD a idQ=r:=by rw [List.getD_eq_getElem?_getD,hr];rfl
  unfold seS at hst;rw [gp,gr] at hst;obtain ⟨e0,e1,e2⟩:=hD.c i p hp;have Hst:=Lh hst;have Hlt:=Lh hlt;have Hpi:=Lh hp;have Hri:=Lh hr;have Hgood:=Lh hgood;have Hlen:=Lh hlen;have Hpok:=Lh (hgood.ok p (List.mem_of_getElem? hp));have Hrok:=Lh (hgood.ok r (List.mem_of_getElem? hr));clear hkk hi hX hD hin hlt hp hr gp gr hst hL hlen hgood
  go_upto_region 3 with fail
  obtain ⟨J,hJ⟩:∃ J,wr.heap.size=J:=⟨_,rfl⟩;obtain ⟨Wj,hWj⟩:∃ V,wr.alloc (.cells #[.int .u16 (p.x:Int),.int .u16 (p.z:Int),.bool p.m] 103)=V:=⟨_,rfl⟩
  have Ej:Ext wr Wj:=by rw [<-hWj];exact ext_al _ _
  have hbP:PuB Wj J p.x p.z p.m:=by rw [<-hWj,<-hJ];exact PuB.new _ _ _ _
  have HJg:=Lh (show g≠J by rw [<-hJ];have:=HD.out.lt;omega);rw [hJ,hWj];clear hJ hWj;have HX:=Lh (HX.out.trans (Tur.of_ext Ej));have HD:=Lh (HD.out.ext Ej);have HbP:=Lh hbP;have k0:=hbP.x0;have k1:=hbP.x1;have k2:=hbP.x2;clear Ej hbP e0 e1 e2
  by_cases hia:i=a
  ·have q3:((i:Int) != (a:Int))=false:=by rw [show (i:Int)=(a:Int) by omega];simp
   rw [if_neg (fun k=>k.1 hia)] at Hst;clear hia
   go_wp2_with fail
   go_roundg (n-(i+1))
   case measure=>have:=Hkk.out;have:=Hlt.out;omega
   case rel=>exact ⟨i+1,rfl,Hlt.out,rfl,HX.out,by rw [Hst.out];exact HD.out⟩
  have q2:¬ (i:Int)=(a:Int):=fun k=>hia (by omega)
  have q3:((i:Int) != (a:Int))=true:=by rw [bne_iff_ne];exact q2
  have HCc:=Lh (HC.out p Wj Hpok.out (HX.out.kb Hg.out));unfold pvQ at HCc;have Hia:=Lh hia;clear hia
  go_wp2_with fail
  refine HCc.out.mono ?_;rintro e wB ⟨rfl,xB⟩;have HX:=Lh (HX.out.trans (Tur.of_ext xB));have HD:=Lh (HD.out.ext xB);have HbP:=Lh (HbP.out.ext xB);obtain ⟨B,hB⟩:∃ B,h p=B:=⟨_,rfl⟩;rw [hB] at Hst ⊢;clear hB xB k0 k1 k2 HCc q2 q3
  cases B
  ·rw [if_neg (fun k=>Bool.noConfusion k.2)] at Hst
   go_wp2_with fail
   go_roundg (n-(i+1))
   case measure=>have:=Hkk.out;have:=Hlt.out;omega
   case rel=>exact ⟨i+1,rfl,Hlt.out,rfl,HX.out,by rw [Hst.out];exact HD.out⟩
  rw [if_pos ⟨Hia.out,rfl⟩] at Hst;have HTm:=Lh (fun wx=>Times_any p r Hpok.out Hrok.out (Hgood.out.com p (List.mem_of_getElem? Hpi.out) r (List.mem_of_getElem? Hri.out)) wx);obtain ⟨T,hT⟩:∃ T,timQ p r=T:=⟨_,rfl⟩;rw [hT] at Hst HTm;clear hT;unfold pvQ at HTm
  go_upto_region 4 with fail
  have he0:Ext wB wB.drew:=Below.drew (Ext.refl _)
  have HSS:∀ w',Ext wB w'->PuB w' J p.x p.z p.m/\w'.rangeAt g (a*3) [.int .u16 (r.x:Int),.int .u16 (r.z:Int),.bool r.m]:=fun w' hx=>⟨HbP.out.ext hx,(HD.out.ext hx).range Hri.out⟩
  refine wp_region_held (S:=fun w'=>PuB w' J p.x p.z p.m/\w'.rangeAt g (a*3) [.int .u16 (r.x:Int),.int .u16 (r.z:Int),.bool r.m]) (by kernel_rfl) ?_
  have hA:∀ ops,FlsA Tryz.prog ops []:=fun _=>⟨fun _ h=>(by cases h),by simp⟩
  refine FloA.start [] 10 10 10 (.move HSS he0 0 23 (.slice (some ⟨g,0,none⟩) n c) rfl ?_);refine .move HSS he0 1 24 (.int .i64 (i:Int)) rfl ?_;refine .take HSS he0 2 25 (.agg #[.int .u16 (p.x:Int),.int .u16 (p.z:Int),.bool p.m]) rfl (fun _ _ h=>exec_rowA h.1.row Tryz.underlying103 pq_info) ?_;refine .move HSS he0 3 26 (.slice (some ⟨g,0,none⟩) n c) rfl ?_;refine .move HSS he0 4 27 (.int .i64 (a:Int)) rfl ?_
  refine .take HSS he0 5 28 (.pointer (some ⟨g,a*3,none⟩)) rfl (fun _ _ _=>by
   simp only [frA,fbA,List.map_nil,List.nil_append,List.foldr,sx0,sx1,sx2]
   go_simp) ?_
  refine .take HSS he0 6 29 (.agg #[.int .u16 (r.x:Int),.int .u16 (r.z:Int),.bool r.m]) rfl (fun _ _ h=>exec_midB [.int .u16 (r.x:Int),.int .u16 (r.z:Int),.bool r.m] h.2 Tryz.underlying103 pq_info) ?_;refine .call (hA _) HSS he0 7 30 rfl _ _ (R:=fun v _=>v=.agg #[.int .u16 (T.x:Int),.int .u16 (T.z:Int),.bool T.m]) (fun wx _=>(HTm.out wx).mono fun _ _ h=>⟨_,h.1,rfl,h.2⟩) ?_;rintro _ v1 rfl x1;have e1:=he0.trans x1
  refine .take HSS e1 8 31 (.pointer (some ⟨g,i*3,none⟩)) rfl (fun _ _ _=>by
   simp only [frA,fbA,List.map_nil,List.nil_append,List.foldr,sx0,sx1,sx2]
   go_simp) ?_
  refine .done (hA _) HSS e1 ?_;intro wy hy st hst hl;have hEy:=e1.trans hy;simp only [frA,fbA,List.map_nil,List.nil_append,List.foldr,sx0,sx1,sx2];have HX:=Lh (HX.out.trans (Tur.of_ext hEy));have HD:=Lh (HD.out.ext hEy);obtain ⟨e0,e1,e2⟩:=HD.out.c i p Hpi.out;have f0:=HD.out.f (i*3);have f1:=HD.out.f (i*3+1);have f2:=HD.out.f (i*3+2);have HP:=Lh (HD.out.put i (by rw [Hlen.out];exact Hlt.out) T);have on1:=only3 g (i*3) wy (.int .u16 (T.x:Int)) (.int .u16 (T.z:Int)) (.bool T.m);have HXP:=Lh (HX.out.trans (Tur.only on1));have HSn:=Lh (show PuB (((wy.setCell ⟨g,i*3,none⟩ (.int .u16 (T.x:Int))).setCell ⟨g,i*3+1,none⟩ (.int .u16 (T.z:Int))).setCell ⟨g,i*3+2,none⟩ (.bool T.m)) J p.x p.z p.m/\(((wy.setCell ⟨g,i*3,none⟩ (.int .u16 (T.x:Int))).setCell ⟨g,i*3+1,none⟩ (.int .u16 (T.z:Int))).setCell ⟨g,i*3+2,none⟩ (.bool T.m)).rangeAt g (a*3) [.int .u16 (r.x:Int),.int .u16 (r.z:Int),.bool r.m] from ⟨(HbP.out.ext hEy).only on1 HJg.out.symm,range_apart (HSS _ hEy).2 rfl Hia.out _ _ _⟩);clear on1 hEy hy hst hl HSS;refine anyH_oneA (i:=9) (by kernel_rfl) rfl (fun Kk hKk=>?_)
  go_wp2_with fail
  refine hKk.out _ _ HSn.out ?_;clear hKk Kk;refine wpAnyH_done (by kernel_rfl) ?_ _;obtain ⟨W4,hW4⟩:∃ V,((wy.setCell ⟨g,i*3,none⟩ (.int .u16 (T.x:Int))).setCell ⟨g,i*3+1,none⟩ (.int .u16 (T.z:Int))).setCell ⟨g,i*3+2,none⟩ (.bool T.m)=V:=⟨_,rfl⟩;rw [hW4] at HP HXP ⊢;clear e0 e1 e2 f0 f1 f2 hW4 HSn
  go_wp2_with fail
  go_roundg (n-(i+1))
  case measure=>have:=Hkk.out;have:=Hlt.out;omega
  case rel=>exact ⟨i+1,rfl,Hlt.out,rfl,HXP.out,by rw [Hst.out];exact HP.out⟩
theorem column_any (n cN:Nat) (hn:n<=15) (hc:cN<2*n) (ao:Option Addr) (cp:Nat) (w:World) :
  Calls Tryz.prog 126 #[.slice ao n cp,.int .i64 (cN:Int)] w fun e w'=>∃ v,e=.returned v/\Ext w w'/\HasV w.heap.size w' v (colQ n cN):=by
 obtain ⟨H,hH⟩:∃ H,w.heap.size=H:=⟨_,rfl⟩;obtain ⟨V1,hV1⟩:∃ V,w.alloc (.cells #[.slice ao n cp] 72)=V:=⟨_,rfl⟩;obtain ⟨V2,hV2⟩:∃ V,V1.alloc (.cells #[.int .i64 (cN:Int)] 3)=V:=⟨_,rfl⟩
 have s1:V1.heap.size=H+1:=by rw [<-hV1,World.size_alloc,hH]
 have s2:V2.heap.size=H+2:=by rw [<-hV2,World.size_alloc,s1]
 have x1:Ext w V1:=by rw [<-hV1];exact ext_al _ _
 have x2:Ext V1 V2:=by rw [<-hV2];exact ext_al _ _
 have c1:V1.cell? ⟨H,0,none⟩=some (.slice ao n cp):=by rw [<-hV1,<-hH,cell_of_row _ _ 0 _ _ (0,0) (heap_alloc_new w _)];rfl
 have c2:V2.cell? ⟨H+1,0,none⟩=some (.int .i64 (cN:Int)):=by rw [<-hV2,<-s1,cell_of_row _ _ 0 _ _ (0,0) (heap_alloc_new V1 _)];rfl
 have c1:V2.cell? ⟨H,0,none⟩=some (.slice ao n cp):=(x2.cell (p:=⟨H,0,none⟩) (by show H<V1.heap.size;omega)).trans c1;have hE:=x1.trans x2;rw [hH]
 by_cases h:cN<n
 ·have hv:=column1_has (q:=cN) (by omega) H V2 (H+1) (by omega) c2 (by omega)
  have e:(fun p:QP=>p.x.testBit cN)=colQ n cN:=by funext p;unfold colQ;rw [if_pos h]
  rw [e] at hv
  have q1:(cN:Int)<(n:Int):=by omega
  have Hv:=Lh hv;have HE:=Lh hE;have HV:=Lh hV2;have HV1:=Lh hV1;have HH:=Lh hH;have Hs1:=Lh s1;clear hv hE h e hV2 hV1 hH x1 x2 s1 s2 hc hn
  go_enter Tryz.func126,Tryz.ntmps126
  go_upto_region 1 with fail
  rw [HH.out,HV1.out,HV.out]
  go_wp2_with fail
  go_ret
  exact ⟨_,rfl,HE.out,Hv.out⟩
 ·have hq:n+(cN-n)=cN:=by omega
  have hv:=column2_has (n:=n) (q:=cN-n) (by omega) (by omega) ao cp H V2 (H+1) H (by omega) (Nat.le_refl _) (by rw [hq];exact c2) (by omega) c1 (by omega)
  have e:(fun p:QP=>p.z.testBit (cN-n))=colQ n cN:=by funext p;unfold colQ;rw [if_neg h]
  rw [e] at hv
  have q1:¬ (cN:Int)<(n:Int):=by omega
  have Hv:=Lh hv;have HE:=Lh hE;have HV:=Lh hV2;have HV1:=Lh hV1;have HH:=Lh hH;have Hs1:=Lh s1;clear hv hE h e hV2 hV1 hH x1 x2 s1 s2 hc hn hq
  go_enter Tryz.func126,Tryz.ntmps126
  go_upto_region 1 with fail
  rw [HH.out,HV1.out,HV.out]
  go_wp2_with fail
  go_ret
  exact ⟨_,rfl,HE.out,Hv.out⟩
theorem ors_none {n:Nat} {l:List QP} {r c:Nat} (h:(l.drop r).findIdx? (colQ n c)=none):orS n (l,r) c=(l,r):=by unfold orS;rw [h]
theorem ors_some {n:Nat} {l:List QP} {r c a:Nat} (h:(l.drop r).findIdx? (colQ n c)=some a):orS n (l,r) c=(seL (colQ n c) r (swL l r (r+a)),r+1):=by unfold orS;rw [h]
theorem order_any (l:List QP) (hl:GoodS l) (g n c:Nat) (w:World) (hG:GnB w g l) (hn:l.length=n) (hn16:n<=15) (hc:n<=c) :
  Calls Tryz.prog 80 #[.slice (some ⟨g,0,none⟩) n c] w fun e w'=>(∃ x,e=.returned x)/\Tur g w w'/\GnB w' g (orL l):=by
 have HF:=Lh (fun k=>(show GoodS (orN n l k).1/\(orN n l k).1.length=n from by
  obtain ⟨h1,h2,_⟩:=orN_form n hl k
  exact ⟨h1,by rw [h2.len,hn]⟩))
 have HG:=Lh hG;have Hn:=Lh hn;have Hm:=Lh hn16;have Hc:=Lh hc
 have hw2:IntKind.i64.wrap (2*(n:Int))=((2*n:Nat):Int):=by rw [IntKind.wrap_i64];omega
 clear hG hn hn16 hl hc
 go_enter Tryz.func80,Tryz.ntmps80
 go_wp2_with fail
 go_loopg [2,9] (2*n) (fun kk s2 s9 wr=>∃ (i r:Nat) (L:List QP),s9=.int .i64 (i:Int)/\s2=.int .i64 (r:Int)/\i<=2*n/\2*n-i=kk/\Tur g w wr/\orN n l i=(L,r)/\r<=n/\GnB wr g L)
 case atStart=>exact ⟨0,0,l,rfl,rfl,Nat.zero_le _,rfl,Tur.refl _ _,rfl,Nat.zero_le _,HG.out⟩
 case round =>
  obtain ⟨i,r,L,rfl,rfl,hi,hkk,hX,hO,hrn,hD⟩:=hrel;have Hkk:=Lh hkk;have HX:=Lh hX;have HD:=Lh hD;have Hrn:=Lh hrn;have HO:=Lh hO
  by_cases hin:i=2*n
  ·have q1:¬ (i:Int)<((2*n:Nat):Int):=by omega
   have HD:=Lh (show GnB wr g (orL l) by unfold orL;rw [Hn.out,<-hin,hO];exact hD);clear hkk hi hX hD hin hrn hO
   go_wp2_with fail
   go_end0
   exact ⟨⟨_,rfl⟩,HX.out,HD.out⟩
  have hlt:i<2*n:=by omega
  have q1:(i:Int)<((2*n:Nat):Int):=by omega
  have q0:(0:Int)<=(i:Int):=by omega
  have wk:IntKind.i64.wrap ((i:Int)+1)=((i+1:Nat):Int):=by rw [IntKind.wrap_i64];have:=Hm.out;omega
  obtain ⟨hg,hlen⟩:=HF.out i;rw [hO] at hg hlen;have Hgood:=Lh hg;have Hlen:=Lh hlen;have Hlt:=Lh hlt;have HCo:=Lh (column_any n i (by have:=Hm.out;omega) hlt (some ⟨g,0,none⟩) c wr);have Hgl:=Lh hD.lt;clear hkk hi hX hD hin hlt hrn hO hg hlen
  go_wp2_with fail
  refine HCo.out.mono ?_;rintro e w1 ⟨v,rfl,x1,hv⟩;have HX1:=Lh x1;have HV:=Lh hv;have HX:=Lh (HX.out.trans (Tur.of_ext x1));have HD:=Lh (HD.out.ext x1)
  have qr0:(0:Int)<=(r:Int):=by omega
  have qr1:(r:Int)<=(c:Int):=by have:=Hrn.out;have:=Hc.out;omega
  have qr2:(r:Int)<=(n:Int):=by have:=Hrn.out;omega
  have qr3:¬ (n:Int)<(r:Int):=by omega
  have qr4:¬ (c:Int)<(r:Int):=by omega
  have qr5:¬ (c:Int)<(n:Int):=by have:=Hc.out;omega
  clear x1 hv HCo
  by_cases hnr:r=n
  ·have HIx:=Lh (fun (ao:Option Addr) (cc:Nat)=>(show Calls Tryz.prog 127 #[.slice ao (n-r) cc,v] w1 fun e w'=>e=.returned (.int .i64 (-1))/\Ext w1 w' from by
    have h1:(L.drop r).findIdx? (colQ n i)=none:=by rw [List.drop_of_length_le (by rw [Hlen.out];omega)];rfl
    have:=indexG_any L (colQ n i) v g r (r*3) (n-r) cc _ rfl ao w1 HD.out (by rw [Hlen.out];omega) (by have:=Hm.out;omega) (Or.inl (by omega)) Hgood.out.ok HV.out;rw [h1] at this
    exact this))
   have HO:=Lh (show orN n l (i+1)=(L,r) by
    rw [orN_succ,HO.out,ors_none]
    rw [List.drop_of_length_le (by rw [Hlen.out];omega)];rfl)
   clear hnr
   by_cases hcr:c=r
   ·subst hcr
    go_wp2_with fail
    refine (HIx.out _ _).mono ?_;rintro e w2 ⟨rfl,x2⟩;have HX:=Lh (HX.out.trans (Tur.of_ext x2));have HD:=Lh (HD.out.ext x2);clear x2
    go_wp2_with fail
    go_roundg (2*n-(i+1))
    case measure=>have:=Hkk.out;have:=Hlt.out;omega
    case rel=>exact ⟨i+1,c,L,rfl,rfl,Hlt.out,rfl,HX.out,HO.out,Hrn.out,HD.out⟩
   ·go_wp2_with fail
    refine (HIx.out _ _).mono ?_;rintro e w2 ⟨rfl,x2⟩;have HX:=Lh (HX.out.trans (Tur.of_ext x2));have HD:=Lh (HD.out.ext x2);clear x2
    go_wp2_with fail
    go_roundg (2*n-(i+1))
    case measure=>have:=Hkk.out;have:=Hlt.out;omega
    case rel=>exact ⟨i+1,r,L,rfl,rfl,Hlt.out,rfl,HX.out,HO.out,Hrn.out,HD.out⟩
  have hcr:¬ c=r:=by have:=Hrn.out;have:=Hc.out;omega
  have HIx:=Lh (indexG_any L (colQ n i) v g r (r*3) (n-r) (c-r) _ rfl (some ⟨g,r*3,none⟩) w1 HD.out (by rw [Hlen.out];have:=Hrn.out;omega) (by have:=Hm.out;omega) (Or.inr rfl) Hgood.out.ok HV.out);have Hnr:=Lh hnr;have HON:=Lh (orN_succ n l i);rw [HO.out] at HON
  cases hfi:(L.drop r).findIdx? (colQ n i) with
  | none =>
   rw [hfi] at HIx;rw [ors_none hfi] at HON;have HIx:=Lh (show Calls Tryz.prog 127 #[.slice (some ⟨g,r*3,none⟩) (n-r) (c-r),v] w1 fun e w'=>e=.returned (.int .i64 (-1))/\Ext w1 w' from HIx.out);clear hfi hnr
   go_wp2_with fail
   refine HIx.out.mono ?_;rintro e w2 ⟨rfl,x2⟩;have HX:=Lh (HX.out.trans (Tur.of_ext x2));have HD:=Lh (HD.out.ext x2);clear x2
   go_wp2_with fail
   go_roundg (2*n-(i+1))
   case measure=>have:=Hkk.out;have:=Hlt.out;omega
   case rel=>exact ⟨i+1,r,L,rfl,rfl,Hlt.out,rfl,HX.out,HON.out,Hrn.out,HD.out⟩
  | some a =>
   rw [hfi] at HIx;rw [ors_some hfi] at HON
   have Hal:=Lh (show r+a<n by
    have:=(List.findIdx?_eq_some_iff_getElem.1 hfi).1;rw [List.length_drop,Hlen.out] at this
    omega)
   have HIx:=Lh (show Calls Tryz.prog 127 #[.slice (some ⟨g,r*3,none⟩) (n-r) (c-r),v] w1 fun e w'=>e=.returned (.int .i64 (a:Int))/\Ext w1 w' from HIx.out)
   have qa:¬ (a:Int)<0:=by omega
   have wra:IntKind.i64.wrap ((r:Int)+(a:Int))=((r+a:Nat):Int):=by rw [IntKind.wrap_i64];have:=Hm.out;have:=Hal.out;omega
   have qs0:(0:Int)<=((r+a:Nat):Int):=by omega
   have qs1:((r+a:Nat):Int)<(n:Int):=by have:=Hal.out;omega
   have qs2:(r:Int)<(n:Int):=by have:=Hal.out;omega
   have wr1:IntKind.i64.wrap ((r:Int)+1)=((r+1:Nat):Int):=by rw [IntKind.wrap_i64];have:=Hm.out;have:=Hal.out;omega
   clear hfi hnr
   go_wp2_with fail
   refine HIx.out.mono ?_;rintro e w2 ⟨rfl,x2⟩;have HX:=Lh (HX.out.trans (Tur.of_ext x2));have HD:=Lh (HD.out.ext x2);have HV:=Lh (HV.out.ext x2);clear x2
   go_upto_region 7 with fail
   obtain ⟨p,hp⟩:∃ p,L[r]?=some p:=⟨_,List.getElem?_eq_getElem (by rw [Hlen.out];have:=Hal.out;omega)⟩;obtain ⟨t,ht⟩:∃ p,L[r+a]?=some p:=⟨_,List.getElem?_eq_getElem (by rw [Hlen.out];exact Hal.out)⟩;obtain ⟨e0,e1,e2⟩:=HD.out.c r p hp;obtain ⟨d0,d1,d2⟩:=HD.out.c (r+a) t ht;have f0:=HD.out.f (r*3);have f1:=HD.out.f (r*3+1);have f2:=HD.out.f (r*3+2);have g0:=HD.out.f ((r+a)*3);have g1:=HD.out.f ((r+a)*3+1);have g2:=HD.out.f ((r+a)*3+2);have Hp:=Lh hp;have Ht:=Lh ht;clear hp ht
   by_cases ha0:a=0
   ·subst ha0
    rw [Nat.add_zero] at wra qs0 qs1 HON Hal d0 d1 d2 g0 g1 g2 Ht
    have wr0:IntKind.i64.wrap (r:Int)=(r:Int):=by rw [IntKind.wrap_i64];have:=Hm.out;have:=Hal.out;omega
    obtain rfl:t=p:=Option.some.inj (Ht.out.symm.trans Hp.out);clear d0 d1 d2 g0 g1 g2
    go_region
    have HL:=Lh (sw_good Hgood.out (i:=r) (j:=r) (by rw [Hlen.out];have:=Hal.out;omega) (by rw [Hlen.out];exact Hal.out))
    have gp:L.getD r idQ=t:=by rw [List.getD_eq_getElem?_getD,Hp.out];rfl
    have hP:GnB ((((((w2.setCell ⟨g,r*3,none⟩ (.int .u16 (t.x:Int))).setCell ⟨g,r*3+1,none⟩ (.int .u16 (t.z:Int))).setCell ⟨g,r*3+2,none⟩ (.bool t.m)).setCell ⟨g,r*3,none⟩ (.int .u16 (t.x:Int))).setCell ⟨g,r*3+1,none⟩ (.int .u16 (t.z:Int))).setCell ⟨g,r*3+2,none⟩ (.bool t.m)) g (swL L r r):=by
     have h1:=(HD.out.put r (by rw [Hlen.out];have:=Hal.out;omega) t).put r (by rw [List.length_set,Hlen.out];exact Hal.out) t;unfold swL;rw [gp];exact h1
    have HP:=Lh (hP.ext (Below.drew (Ext.refl _)));have HT:=Lh (((Tur.only (only3 g (r*3) w2 (.int .u16 (t.x:Int)) (.int .u16 (t.z:Int)) (.bool t.m))).trans (Tur.only (only3 g (r*3) _ (.int .u16 (t.x:Int)) (.int .u16 (t.z:Int)) (.bool t.m)))).trans (Tur.of_ext (Below.drew (Ext.refl _))));obtain ⟨W3,hW3⟩:∃ V,((((((w2.setCell ⟨g,r*3,none⟩ (.int .u16 (t.x:Int))).setCell ⟨g,r*3+1,none⟩ (.int .u16 (t.z:Int))).setCell ⟨g,r*3+2,none⟩ (.bool t.m)).setCell ⟨g,r*3,none⟩ (.int .u16 (t.x:Int))).setCell ⟨g,r*3+1,none⟩ (.int .u16 (t.z:Int))).setCell ⟨g,r*3+2,none⟩ (.bool t.m)).drew=V:=⟨_,rfl⟩;rw [hW3] at HP HT ⊢;have HX:=Lh (HX.out.trans HT.out);have HV:=Lh (HV.out.kb (HT.out.kb Hgl.out));have HSw:=Lh (sweep_any (swL L r r) HL.out.1 (colQ n i) v g n c _ r W3 HP.out (by rw [swL_len];exact Hlen.out) (by have:=Hm.out;omega) (by have:=Hal.out;omega) Hgl.out HV.out);clear hP hW3 HT e0 e1 e2 f0 f1 f2 gp
    go_wp2_with fail
    refine HSw.out.mono ?_;rintro e w4 ⟨⟨x,rfl⟩,t4,G4⟩;have HX:=Lh (HX.out.trans t4);have H4:=Lh G4;clear t4 G4
    go_wp2_with fail
    go_roundg (2*n-(i+1))
    case measure=>have:=Hkk.out;have:=Hlt.out;omega
    case rel=>exact ⟨i+1,r+1,_,rfl,rfl,Hlt.out,rfl,HX.out,HON.out,by have:=Hal.out;omega,H4.out⟩
   obtain ⟨s,hs⟩:∃ s,r+a=s:=⟨_,rfl⟩;have Hs:=Lh hs
   have a00:¬ r*3=s*3:=by omega
   have a01:¬ r*3=s*3+1:=by omega
   have a02:¬ r*3=s*3+2:=by omega
   have a10:¬ r*3+1=s*3:=by omega
   have a11:¬ r=s:=by omega
   have a12:¬ r*3+1=s*3+2:=by omega
   have a20:¬ r*3+2=s*3:=by omega
   have a21:¬ r*3+2=s*3+1:=by omega
   rw [hs] at wra qs0 qs1 HON Hal d0 d1 d2 g0 g1 g2 Ht;clear hs ha0
   go_region
   have HL:=Lh (sw_good Hgood.out (i:=r) (j:=s) (by rw [Hlen.out];have:=Hal.out;omega) (by rw [Hlen.out];exact Hal.out))
   have gp:L.getD r idQ=p:=by rw [List.getD_eq_getElem?_getD,Hp.out];rfl
   have gt:L.getD s idQ=t:=by rw [List.getD_eq_getElem?_getD,Ht.out];rfl
   have hP:GnB ((((((w2.setCell ⟨g,r*3,none⟩ (.int .u16 (t.x:Int))).setCell ⟨g,r*3+1,none⟩ (.int .u16 (t.z:Int))).setCell ⟨g,r*3+2,none⟩ (.bool t.m)).setCell ⟨g,s*3,none⟩ (.int .u16 (p.x:Int))).setCell ⟨g,s*3+1,none⟩ (.int .u16 (p.z:Int))).setCell ⟨g,s*3+2,none⟩ (.bool p.m)) g (swL L r s):=by
    have h1:=(HD.out.put r (by rw [Hlen.out];have:=Hal.out;omega) t).put s (by rw [List.length_set,Hlen.out];exact Hal.out) p;unfold swL;rw [gp,gt];exact h1
   have HP:=Lh (hP.ext (Below.drew (Ext.refl _)));have HT:=Lh (((Tur.only (only3 g (r*3) w2 (.int .u16 (t.x:Int)) (.int .u16 (t.z:Int)) (.bool t.m))).trans (Tur.only (only3 g (s*3) _ (.int .u16 (p.x:Int)) (.int .u16 (p.z:Int)) (.bool p.m)))).trans (Tur.of_ext (Below.drew (Ext.refl _))));obtain ⟨W3,hW3⟩:∃ V,((((((w2.setCell ⟨g,r*3,none⟩ (.int .u16 (t.x:Int))).setCell ⟨g,r*3+1,none⟩ (.int .u16 (t.z:Int))).setCell ⟨g,r*3+2,none⟩ (.bool t.m)).setCell ⟨g,s*3,none⟩ (.int .u16 (p.x:Int))).setCell ⟨g,s*3+1,none⟩ (.int .u16 (p.z:Int))).setCell ⟨g,s*3+2,none⟩ (.bool p.m)).drew=V:=⟨_,rfl⟩;rw [hW3] at HP HT ⊢;have HX:=Lh (HX.out.trans HT.out);have HV:=Lh (HV.out.kb (HT.out.kb Hgl.out));have HSw:=Lh (sweep_any (swL L r s) HL.out.1 (colQ n i) v g n c _ r W3 HP.out (by rw [swL_len];exact Hlen.out) (by have:=Hm.out;omega) (by have:=Hal.out;omega) Hgl.out HV.out);clear hP hW3 HT e0 e1 e2 d0 d1 d2 f0 f1 f2 g0 g1 g2 gp gt
   go_wp2_with fail
   refine HSw.out.mono ?_;rintro e w4 ⟨⟨x,rfl⟩,t4,G4⟩;have HX:=Lh (HX.out.trans t4);have H4:=Lh G4;clear t4 G4
   go_wp2_with fail
   go_roundg (2*n-(i+1))
   case measure=>have:=Hkk.out;have:=Hlt.out;omega
   case rel=>exact ⟨i+1,r+1,_,rfl,rfl,Hlt.out,rfl,HX.out,HON.out,by have:=Hal.out;omega,H4.out⟩
theorem prd_tl {N:Nat} {g:QP} (hg:bdQ N g) (s t:Bool):Prd (tlQ N s) ⟨g.x,g.z,t⟩ ⟨g.x,g.z ^^^ 2 ^ N,t ^^ s⟩:=by
 have hgx:g.x.testBit N=false:=bit_hi hg.1 (Nat.le_refl N);refine ⟨(Nat.zero_xor _).symm,Nat.xor_comm _ _,?_⟩
 have e1:phQ (tlQ N s)=2*b1 s:=by
  show 2*b1 s+smF (yj (tlQ N s)) 16=_
  rw [show smF (yj (tlQ N s)) 16=smF (fun _=>0) 16 from smF_congr fun j _=>by unfold yj tlQ;rw [Nat.zero_testBit];rfl]
  rfl
 have e2:smF (cj (tlQ N s) ⟨g.x,g.z,t⟩) 16=0:=by
  rw [show smF (cj (tlQ N s) ⟨g.x,g.z,t⟩) 16=smF (fun _=>0) 16 from smF_congr fun j _=>by
   show 2*b1 ((2 ^ N).testBit j && g.x.testBit j)=0
   rw [Nat.testBit_two_pow]
   by_cases h:N=j
   ·subst h;rw [hgx,Bool.and_false];rfl
   ·rw [decide_eq_false h];rfl]
  rfl
 have e3:smF (yj ⟨g.x,g.z ^^^ 2 ^ N,t ^^ s⟩) 16=smF (yj ⟨g.x,g.z,t⟩) 16:=smF_congr fun j _=>by
  show b1 (g.x.testBit j && (g.z ^^^ 2 ^ N).testBit j)=b1 (g.x.testBit j && g.z.testBit j)
  rw [Nat.testBit_xor,Nat.testBit_two_pow]
  by_cases h:N=j
  ·subst h;rw [hgx];rfl
  ·rw [decide_eq_false h,Bool.xor_false]
 rw [e1,e2];unfold phQ;rw [e3]
 cases s<;>cases t<;>simp [b1]<;>omega
theorem x_free {N:Nat} (hN:N<16) {p:QP} (s:Bool) (h:ant p (tlQ N s)=false):p.x.testBit N=false:=by
 rw [ant_smF,decide_eq_false_iff_not] at h
 have e:=smF_off (f:=fun j=>b1 (p.x.testBit j && (tlQ N s).z.testBit j)+b1 (p.z.testBit j && (tlQ N s).x.testBit j)) (g:=fun _=>0) hN (fun j _ hj=>by
  show b1 (p.x.testBit j && (2 ^ N).testBit j)+b1 (p.z.testBit j && (0:Nat).testBit j)=0
  rw [Nat.testBit_two_pow,decide_eq_false (Ne.symm hj),Nat.zero_testBit,Bool.and_false,Bool.and_false];rfl)
 have e0:smF (fun _=>0) 16=0:=rfl
 have e1:b1 (p.x.testBit N && (tlQ N s).z.testBit N)+b1 (p.z.testBit N && (tlQ N s).x.testBit N)=b1 (p.x.testBit N):=by
  show b1 (p.x.testBit N && (2 ^ N).testBit N)+b1 (p.z.testBit N && (0:Nat).testBit N)=_
  rw [Nat.testBit_two_pow,decide_eq_true rfl,Nat.zero_testBit,Bool.and_false,Bool.and_true];rfl
 rw [e0] at e;have e:_+(0:Nat)=0+(b1 (p.x.testBit N && (tlQ N s).z.testBit N)+b1 (p.z.testBit N && (tlQ N s).x.testBit N)):=e;rw [e1] at e
 cases hx:p.x.testBit N
 ·rfl
 ·rw [hx] at e
  have e:_+(0:Nat)=0+1:=e;omega
theorem tim_of {p r:QP} (h:ant p r=false):Prd (timQ p r) r p:=(prd_self r).assoc' (prd_one p) (prd_tim h)
structure SpS (N:Nat) (l:List QP) (g:QP) (s:Bool):Prop where
 good:GoodS l
 z:Grp l (tlQ N false)
 bd:bdQ N g
 g:Grp l ⟨g.x,g.z,g.m ^^ s⟩
theorem SpS.ant {N:Nat} {l:List QP} {g:QP} {s:Bool} (h:SpS N l g s) {p:QP} (hp:Grp l p):Go.Proofs.YtlechhmhmakgpaaGreatDoor.ant p g=false:=by
 have:=hp.com h.good.com h.g;rw [ant_symm] at this;rw [ant_symm,<-this];exact ant_letters rfl rfl p
theorem SpS.x {N:Nat} (hN:N<16) {l:List QP} {g:QP} {s:Bool} (h:SpS N l g s) {p:QP} (hp:Grp l p):p.x.testBit N=false:=x_free hN false (hp.com h.good.com h.z)
theorem SpS.fix {N:Nat} (hN:N<16) {l:List QP} {g:QP} {s:Bool} (h:SpS N l g s) {p:QP} (hp:Grp l p) (hz:p.z.testBit N=false):blkG N g p=p:=blk_free hN h.bd (h.x hN hp) hz (h.ant hp)
theorem SpS.sign {N:Nat} (hN:N<16) {l:List QP} {g:QP} {s:Bool} (h:SpS N l g s):Grp (l.map (blkG N g)) (tlQ N s):=by
 have hA:=aut_blk hN g;have hc:=h.good.com.map hA;have h1:=h.g.map hA;rw [h.fix hN h.g (bit_hi h.bd.2 (Nat.le_refl N))] at h1;have h2:=h.z.map hA;rw [blk_z hN h.bd] at h2;have hp:=prd_tl h.bd s (g.m ^^ s);rw [Bool.xor_assoc,Bool.xor_self,Bool.xor_false] at hp;exact h2.prd hc h1 ((prd_self _).assoc' (prd_one _) hp)
theorem SpS.free {N:Nat} (hN:N<16) {l:List QP} {g:QP} {s:Bool} (h:SpS N l g s) {p:QP} (hp:Grp (l.map (blkG N g)) p):p.x.testBit N=false:=x_free hN s (hp.com (h.good.com.map (aut_blk hN g)) (h.sign hN))
def rsG (N:Nat) (s:Bool) (p:QP):QP:=if s then flipG N p else p
theorem aut_rs (N:Nat) (s:Bool):Aut (rsG N s):=by
 cases s
 ·exact aut_id
 ·exact aut_flip N
theorem rs_z {N:Nat} {s:Bool} {p:QP} (h:p.z.testBit N=false):rsG N s p=p:=by
 cases s
 ·rfl
 ·exact QP.ext' rfl rfl (by show (p.m ^^ p.z.testBit N)=p.m;rw [h,Bool.xor_false])
theorem rs_u {N:Nat} {s:Bool} {p:QP} (h:p.z.testBit N=true):rsG N s p=⟨p.x,p.z,p.m ^^ s⟩:=by
 cases s
 ·exact QP.ext' rfl rfl (Bool.xor_false _).symm
 ·exact QP.ext' rfl rfl (by show (p.m ^^ p.z.testBit N)=(p.m ^^ true);rw [h])
theorem SpS.back {N:Nat} (hN:N<16) {l:List QP} {g:QP} {s:Bool} (h:SpS N l g s) {l2:List QP} (hg:GoodS l2) (he:EqS (l.map (blkG N g)) l2):EqS l (l2.map (rsG N s)):=by
 have hA:=aut_blk hN g;have hF:=aut_rs N s;have hc:=hg.com.map hF;have hcl:=h.good.com
 have hzz:(tlQ N false).z.testBit N=true:=by show (2 ^ N).testBit N=true;rw [Nat.testBit_two_pow,decide_eq_true rfl]
 have hgN:g.z.testBit N=false:=bit_hi h.bd.2 (Nat.le_refl N)
 have hsp:∀ p,Grp l p->p.z.testBit N=true->Grp l (timQ p (tlQ N false))/\(timQ p (tlQ N false)).z.testBit N=false/\Prd (timQ p (tlQ N false)) (tlQ N false) p:=fun p hp hz=>by
  have ha:=hp.com hcl h.z;refine ⟨hp.prd hcl h.z (prd_tim ha),?_,tim_of ha⟩
  show (p.z ^^^ (tlQ N false).z).testBit N=false
  rw [Nat.testBit_xor,hz,hzz];rfl
 have hst:∀ p,Grp l p->p.z.testBit N=false->Grp (l2.map (rsG N s)) p:=fun p hp hz=>by
  have h1:=hp.map hA;rw [h.fix hN hp hz] at h1;have h2:=((he.grp p).2 h1).map hF
  rwa [rs_z hz] at h2
 refine ⟨?_,fun p=>⟨fun hp=>?_,fun hp=>?_⟩⟩
 ·rw [List.length_map,he.len,List.length_map]
 rotate_left
 ·cases hz:p.z.testBit N with
  | false=>exact hst p hp hz
  | true =>
   obtain ⟨h1,h2,h3⟩:=hsp p hp hz;have h4:=((he.grp _).2 (h.sign hN)).map hF;rw [rs_u (show (tlQ N s).z.testBit N=true from hzz)] at h4
   have h4:Grp (l2.map (rsG N s)) (tlQ N false):=by
    have e:(⟨(tlQ N s).x,(tlQ N s).z,(tlQ N s).m ^^ s⟩:QP)=tlQ N false:=QP.ext' rfl rfl (Bool.xor_self s)
    rwa [e] at h4
   exact (hst _ h1 h2).prd hc h4 h3
 ·obtain ⟨r,hr,rfl⟩:=hp.unmap hF hg.com
  obtain ⟨r',hr',rfl⟩:=Grp.unmap hA hcl ((he.grp r).1 hr)
  cases hz:r'.z.testBit N with
  | false=>rw [h.fix hN hr' hz,rs_z hz];exact hr'
  | true =>
   obtain ⟨h1,h2,h3⟩:=hsp r' hr' hz;have h5:=hF.prd (hA.prd h3);rw [h.fix hN h1 h2,rs_z h2,blk_z hN h.bd,rs_u (show (g.z ^^^ 2 ^ N).testBit N=true by rw [Nat.testBit_xor,hgN,Nat.testBit_two_pow,decide_eq_true rfl];rfl)] at h5;have h6:=prd_tl h.bd false (g.m ^^ s);rw [Bool.xor_false] at h6;exact h1.prd hcl (h.z.prd hcl h.g h6) h5
end Go.Proofs.YtlechhmhmakgpaaGreatDoor
