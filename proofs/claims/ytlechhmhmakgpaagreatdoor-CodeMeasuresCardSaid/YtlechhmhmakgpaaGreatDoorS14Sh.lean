/-
  The program: GateOf for the operations that bring generators home, and those that undo them. The program: what brings generators home, in memory. Signed Paulis in plain numbers: what a product of two is; gates take products to products. Groups of signed Paulis that commute, in plain lists.
-/
import Derived.Test.YtlechhmhmakgpaaGreatDoorS13Km
namespace Go.Proofs.YtlechhmhmakgpaaGreatDoor
set_option maxRecDepth 100000
set_option maxHeartbeats 8000000
open Go.RowKit
def wX (q:Nat):Gop:=⟨2,0,[],q,0,[]⟩
def wCX (q c:Nat):Gop:=⟨2,0,[(c:Int)],q,0,[]⟩
def wH (q:Nat):Gop:=⟨3,0,[],q,0,[]⟩
def wP (k q:Nat):Gop:=⟨4,((4*k:Nat):Int),[],q,0,[]⟩
inductive WOk (n:Nat):Gop->Prop
 | x {q:Nat} (h:q<n):WOk n (wX q)
 | cx {q c:Nat} (h:q<n) (h2:c<n) (h3:q≠c):WOk n (wCX q c)
 | h {q:Nat} (h:q<n):WOk n (wH q)
 | p {q k:Nat} (h:q<n) (h2:k=1\/k=3):WOk n (wP k q)
def actW (o:Gop):QP->QP :=
 if o.kind=2 then (match o.ctl with | []=>flipG o.q.toNat | c :: _=>onG o.q.toNat c.toNat) else if o.kind=3 then forkG o.q.toNat else if o.kind=4 then itG (quarG o.q.toNat) (o.k.toNat / 4) else fun p=>p
theorem act_x (q:Nat):actW (wX q)=flipG q:=by simp [actW,wX]
theorem act_cx (q c:Nat):actW (wCX q c)=onG q c:=by simp [actW,wCX]
theorem act_h (q:Nat):actW (wH q)=forkG q:=by simp [actW,wH]
theorem act_p (k q:Nat):actW (wP k q)=itG (quarG q) k:=by
 show itG (quarG (q:Int).toNat) (((4*k:Nat):Int).toNat / 4)=_
 rw [Int.toNat_natCast,Int.toNat_natCast,Nat.mul_div_cancel_left k (by decide)]
theorem stepK_buildG {ops:Array Oper} {o:Oper} {a:Act} {K:Act->World->Prop} {Q:Exit->Act->World->Prop} {E:Prop} {w:World} (hgd:o.guard=none) (x:Operand) (ho:o.op=.buildSlice 150 1 #[(0,x)]) (F:FuncId) (caps:Array Value)
  (hx:a.eval x=.func (.func F) #[] caps) (h:K (a.put o.dst (.slice (some ⟨w.heap.size,0,none⟩) 1 1)) (w.alloc (.cells #[.func (.func F) #[] caps] 107))) :
  if Region.wanted o (yielded ops a.tmps)=true then Oper.wp Tryz.prog o a w K Q else E:=by
 have hw:Region.wanted o (yielded ops a.tmps)=true:=by simp [Region.wanted,hgd]
 rw [if_pos hw];obtain ⟨od,oo,ot,opp,oa,og⟩:=o;simp only at ho;subst ho;have HH:=Lh h;clear h;unfold Oper.wp execOp;simp only [hx,List.map_toArray,List.map_cons,List.map_nil]
 go_simp
 exact HH.out
theorem rep_new (w:World) (v:Value):RepAt (w.alloc (.cells #[v] 107)) w.heap.size 1 v :=
 rep_of_row (l:=[v]) (heap_alloc_new w _) rfl
theorem gate_x (q:Nat) (hq:q<16) (a1:Option Addr) (c1:Nat) (a2:Option Addr) (n2 c2:Nat) (w:World)  :
  Calls Tryz.prog 60 #[.agg #[.int .i64 2,.int .i64 0,.slice a1 0 c1,.int .i64 (q:Int),.int .i64 0,.slice a2 n2 c2]] w fun e w'=>GaR w.heap.size (flipG q) w e w':=by
 have bx:=opbx_new w 2 0 a1 0 c1 (q:Int) 0 a2 n2 c2;have E0:=ext_al w (.cells #[.int .i64 2,.int .i64 0,.slice a1 0 c1,.int .i64 (q:Int),.int .i64 0,.slice a2 n2 c2] 52);obtain ⟨H,hH⟩:∃ H,w.heap.size=H:=⟨_,rfl⟩;obtain ⟨W0,hW0⟩:∃ V,w.alloc (.cells #[.int .i64 2,.int .i64 0,.slice a1 0 c1,.int .i64 (q:Int),.int .i64 0,.slice a2 n2 c2] 52)=V:=⟨_,rfl⟩;rw [hW0] at bx E0;rw [hH] at bx;have HS:=Lh (fun wx=>Set_any q hq wx);have k0:=bx.x0;have k1:=bx.x1;have k2:=bx.x2;have k3:=bx.x3;have Hbx:=Lh bx;have HE0:=Lh E0;have HW0:=Lh hW0;have HH:=Lh hH;obtain ⟨V,hV⟩:∃ V,2 ^ q=V:=⟨_,rfl⟩;rw [hV] at HS;have HG:=Lh (flip_any q hq W0);rw [hV] at HG;clear bx E0 hW0 hH hV hq
 go_enter Tryz.func60,Tryz.ntmps60
 go_upto_region 1 with fail
 rw [HW0.out,HH.out]
 go_wp2_with fail
 refine (HS.out _).mono ?_;rintro e w1 ⟨rfl,hw1⟩;obtain rfl:=hw1.symm
 go_wp2_with fail
 refine HG.out.mono ?_;rintro e w2 ⟨v,rfl,x2,hv⟩;have Hx:=Lh (HE0.out.trans x2);have Hv:=Lh (hv.down HE0.out.size);clear x2 hv
 go_wp2_with fail
 go_ret
 exact ⟨v,rfl,Hx.out,Hv.out⟩
theorem gate_h (q:Nat) (hq:q<16) (a1:Option Addr) (c1:Nat) (a2:Option Addr) (n2 c2:Nat) (w:World)  :
  Calls Tryz.prog 60 #[.agg #[.int .i64 3,.int .i64 0,.slice a1 0 c1,.int .i64 (q:Int),.int .i64 0,.slice a2 n2 c2]] w fun e w'=>GaR w.heap.size (forkG q) w e w':=by
 have bx:=opbx_new w 3 0 a1 0 c1 (q:Int) 0 a2 n2 c2;have E0:=ext_al w (.cells #[.int .i64 3,.int .i64 0,.slice a1 0 c1,.int .i64 (q:Int),.int .i64 0,.slice a2 n2 c2] 52);obtain ⟨H,hH⟩:∃ H,w.heap.size=H:=⟨_,rfl⟩;obtain ⟨W0,hW0⟩:∃ V,w.alloc (.cells #[.int .i64 3,.int .i64 0,.slice a1 0 c1,.int .i64 (q:Int),.int .i64 0,.slice a2 n2 c2] 52)=V:=⟨_,rfl⟩;rw [hW0] at bx E0;rw [hH] at bx;have HS:=Lh (fun wx=>Set_any q hq wx);have k0:=bx.x0;have k1:=bx.x1;have k2:=bx.x2;have k3:=bx.x3;have Hbx:=Lh bx;have HE0:=Lh E0;have HW0:=Lh hW0;have HH:=Lh hH;obtain ⟨V,hV⟩:∃ V,2 ^ q=V:=⟨_,rfl⟩;rw [hV] at HS;have HG:=Lh (fork_any q hq W0);rw [hV] at HG;clear bx E0 hW0 hH hV hq
 go_enter Tryz.func60,Tryz.ntmps60
 go_upto_region 1 with fail
 rw [HW0.out,HH.out]
 go_wp2_with fail
 refine (HS.out _).mono ?_;rintro e w1 ⟨rfl,hw1⟩;obtain rfl:=hw1.symm
 go_wp2_with fail
 refine HG.out.mono ?_;rintro e w2 ⟨v,rfl,x2,hv⟩;have Hx:=Lh (HE0.out.trans x2);have Hv:=Lh (hv.down HE0.out.size);clear x2 hv
 go_wp2_with fail
 go_ret
 exact ⟨v,rfl,Hx.out,Hv.out⟩
theorem gate_cx (q c:Nat) (hq:q<16) (hc:c<16) (a1:Option Addr) (c1:Nat) (a2:Option Addr) (n2 c2:Nat) (w:World) (hI:IntsAt w a1 1 [(c:Int)]) :
  Calls Tryz.prog 60 #[.agg #[.int .i64 2,.int .i64 0,.slice a1 1 c1,.int .i64 (q:Int),.int .i64 0,.slice a2 n2 c2]] w fun e w'=>GaR w.heap.size (onG q c) w e w':=by
 have bx:=opbx_new w 2 0 a1 1 c1 (q:Int) 0 a2 n2 c2;have E0:=ext_al w (.cells #[.int .i64 2,.int .i64 0,.slice a1 1 c1,.int .i64 (q:Int),.int .i64 0,.slice a2 n2 c2] 52);obtain ⟨H,hH⟩:∃ H,w.heap.size=H:=⟨_,rfl⟩;obtain ⟨W0,hW0⟩:∃ V,w.alloc (.cells #[.int .i64 2,.int .i64 0,.slice a1 1 c1,.int .i64 (q:Int),.int .i64 0,.slice a2 n2 c2] 52)=V:=⟨_,rfl⟩;rw [hW0] at bx E0;rw [hH] at bx;have HS:=Lh (fun wx=>Set_any q hq wx);have k0:=bx.x0;have k1:=bx.x1;have k2:=bx.x2;have k3:=bx.x3;have Hbx:=Lh bx;have HE0:=Lh E0;have HW0:=Lh hW0;have HH:=Lh hH;obtain ⟨V,hV⟩:∃ V,2 ^ q=V:=⟨_,rfl⟩;rw [hV] at HS;have HG:=Lh (flipOn_any q c hq hc W0);have HS2:=Lh (fun wx=>Set_any c hc wx);obtain ⟨C,hC⟩:∃ C,2 ^ c=C:=⟨_,rfl⟩;rw [hV,hC] at HG;rw [hC] at HS2;obtain ⟨b,o,rfl,hb,hcell⟩:=(hI.ext E0).at (by decide);have c0:=hcell 0 (by decide);simp only [Nat.add_zero,List.getD_cons_zero] at c0;clear bx E0 hW0 hH hV hC hq hc hI hb hcell
 go_enter Tryz.func60,Tryz.ntmps60
 go_upto_region 1 with fail
 rw [HW0.out,HH.out]
 go_wp2_with fail
 refine (HS.out _).mono ?_;rintro e w1 ⟨rfl,hw1⟩;obtain rfl:=hw1.symm
 go_wp2_with fail
 refine (HS2.out _).mono ?_;rintro e w1 ⟨rfl,hw1⟩;obtain rfl:=hw1.symm
 go_wp2_with fail
 refine HG.out.mono ?_;rintro e w2 ⟨v,rfl,x2,hv⟩;have Hx:=Lh (HE0.out.trans x2);have Hv:=Lh (hv.down HE0.out.size);clear x2 hv
 go_wp2_with fail
 go_ret
 exact ⟨v,rfl,Hx.out,Hv.out⟩
theorem gate_p (q k:Nat) (hq:q<16) (hk:1<=k) (hk3:k<=3) (a1:Option Addr) (c1:Nat) (a2:Option Addr) (n2 c2:Nat) (w:World)  :
  Calls Tryz.prog 60 #[.agg #[.int .i64 4,.int .i64 ((4*k:Nat):Int),.slice a1 0 c1,.int .i64 (q:Int),.int .i64 0,.slice a2 n2 c2]] w fun e w'=>GaR w.heap.size (itG (quarG q) k) w e w':=by
 have bx:=opbx_new w 4 ((4*k:Nat):Int) a1 0 c1 (q:Int) 0 a2 n2 c2;have E0:=ext_al w (.cells #[.int .i64 4,.int .i64 ((4*k:Nat):Int),.slice a1 0 c1,.int .i64 (q:Int),.int .i64 0,.slice a2 n2 c2] 52);obtain ⟨H,hH⟩:∃ H,w.heap.size=H:=⟨_,rfl⟩;obtain ⟨W0,hW0⟩:∃ V,w.alloc (.cells #[.int .i64 4,.int .i64 ((4*k:Nat):Int),.slice a1 0 c1,.int .i64 (q:Int),.int .i64 0,.slice a2 n2 c2] 52)=V:=⟨_,rfl⟩;rw [hW0] at bx E0;rw [hH] at bx;have HS:=Lh (fun wx=>Set_any q hq wx);have k0:=bx.x0;have k1:=bx.x1;have k2:=bx.x2;have k3:=bx.x3;have Hbx:=Lh bx;have HE0:=Lh E0;have HW0:=Lh hW0;have HH:=Lh hH;obtain ⟨V,hV⟩:∃ V,2 ^ q=V:=⟨_,rfl⟩;rw [hV] at HS;have HG:=Lh (fun wx=>quarter_any q hq wx);rw [hV] at HG;obtain ⟨K4,hK4⟩:∃ K4,4*k=K4:=⟨_,rfl⟩;rw [hK4] at k1 hW0 ⊢
 have wq:(K4:Int).tdiv 4=(k:Int):=by rw [<-hK4,show (4:Int)=((4:Nat):Int) from rfl,<-Int.ofNat_tdiv,Nat.mul_div_cancel_left k (by decide)]
 have ww:IntKind.i64.wrap (k:Int)=(k:Int):=by rw [IntKind.wrap_i64];omega
 have HW0:=Lh hW0;have Hk:=Lh (And.intro hk hk3);have Hok:=Lh (fun (p:QP) (hp:p.ok)=>ok_quar (q:=q) hp);have Hk1:=Lh k1;clear bx E0 hW0 hH hV hq hK4 hk hk3
 go_enter Tryz.func60,Tryz.ntmps60
 go_upto_region 1 with fail
 rw [HW0.out,HH.out]
 go_wp2_with fail
 refine (HS.out _).mono ?_;rintro e w1 ⟨rfl,hw1⟩;obtain rfl:=hw1.symm
 go_upto_region 11 with fail
 have hS0:W0.drew.cell? ⟨H,1,none⟩=some (.int .i64 (K4:Int)):=Hk1.out;have HSt:=Lh (fun (w':World) (hx:Ext W0 w')=>(cell_ext Hk1.out hx:w'.cell? ⟨H,1,none⟩=some (.int .i64 (K4:Int))));have hd0:Ext W0 W0.drew:=Below.drew (Ext.refl _);clear k0 k1 k2 k3;refine wp_region_K 8 (fun w'=>w'.cell? ⟨H,1,none⟩=some (.int .i64 (K4:Int))) (by kernel_rfl) ?_
 show anyK _ _ _ _ _ _ 9 #[false,false,false,false,false,false,false,false,false] _ _
 refine kT 0 9 (v:=?_) rfl (Or.inl ⟨by rfl,?_⟩) hS0 ?_;rotate_left 1
 ·intro w hSw
  go_simp
  try with_reducible rfl
 show anyK _ _ _ _ _ _ _ _ (Act.put _ (some 35) _) _
 simp only [Act.put,sx0,sx1,sx2];refine kT 3 9 (v:=?_) rfl (Or.inl ⟨by rfl,?_⟩) hS0 ?_;rotate_left 1
 ·intro w hSw
  go_simp
  try with_reducible rfl
 show anyK _ _ _ _ _ _ _ _ (Act.put _ (some 38) _) _
 simp only [Act.put,sx0,sx1,sx2];refine kT 4 9 (v:=?_) rfl (Or.inl ⟨by rfl,?_⟩) hS0 ?_;rotate_left 1
 ·intro w hSw
  go_simp
  try with_reducible rfl
 show anyK _ _ _ _ _ _ _ _ (Act.put _ (some 39) _) _
 simp only [Act.put,sx0,sx1,sx2];refine kT 5 9 (v:=?_) rfl (Or.inl ⟨by rfl,?_⟩) hS0 ?_;rotate_left 1
 ·intro w hSw
  go_simp
  try with_reducible rfl
 show anyK _ _ _ _ _ _ _ _ (Act.put _ (some 40) _) _
 simp only [Act.put,sx0,sx1,sx2];clear hS0;refine anyK_one (i:=1) (by kernel_rfl) rfl (fun Kk hKk=>?_)
 go_simp
 (go_at_call 103;refine (HG.out _).mono ?_;rintro e w2 ⟨v,rfl,x2,hv⟩)
 have E2:Ext W0 w2:=hd0.trans x2;obtain ⟨F,caps,rfl,hF1,hF2⟩:=hv;have Hv:=Lh (GateV.down (show GateV W0.drew.heap.size w2 (.func (.func F) #[] caps) (quarG q) from ⟨F,caps,rfl,hF1,hF2⟩) HE0.out.size);clear hF1 hF2
 go_wp2_with fail
 refine hKk.out _ _ (fun _=>HSt.out _ E2) ?_;clear hKk Kk x2;simp only [sx0,sx1,sx2];refine anyK_one (i:=2) (by kernel_rfl) rfl (fun Kk hKk=>?_);refine stepK_buildG rfl _ rfl F caps rfl ?_;have Hl2:=Lh (show w.heap.size<=w2.heap.size from Nat.le_trans HE0.out.size E2.size);have E3:=E2.trans (ext_al w2 (.cells #[.func (.func F) #[] caps] 107));have Hr3:=Lh (rep_new w2 (.func (.func F) #[] caps));have Hv3:=Lh (Hv.out.ext (ext_al w2 (.cells #[.func (.func F) #[] caps] 107)));obtain ⟨w3,hw3⟩:∃ V,w2.alloc (.cells #[.func (.func F) #[] caps] 107)=V:=⟨_,rfl⟩;obtain ⟨G3,hG3⟩:∃ G,w2.heap.size=G:=⟨_,rfl⟩;rw [hw3] at E3 Hr3 Hv3 ⊢;rw [hG3] at Hr3 ⊢;refine hKk.out _ _ (fun _=>HSt.out _ E3) ?_;clear hKk Kk hw3 hG3 E2
 show anyK _ _ _ _ _ _ _ _ (Act.put _ (some 37) _) _
 simp only [Act.put,sx0,sx1,sx2];have HRp:=Lh (repeatG_any k Hk.out.1 (by have:=Hk.out.2;omega) G3 F caps w3 Hr3.out);refine anyK_one (i:=6) (by kernel_rfl) rfl (fun Kk hKk=>?_)
 go_simp
 (go_at_call 102;refine HRp.out.mono ?_;rintro e w4 ⟨g4,rfl,x4,hr4,hl4⟩)
 have E4:=E3.trans x4;have Hr4:=Lh hr4;have Hl4:=Lh (show w.heap.size<=g4 from Nat.le_trans HE0.out.size (Nat.le_trans E3.size hl4));have Hl5:=Lh (show w.heap.size<=w4.heap.size from Nat.le_trans HE0.out.size E4.size);have Hv4:=Lh (Hv3.out.ext x4);clear hr4 x4 HRp hl4
 go_wp2_with fail
 refine hKk.out _ _ (fun _=>HSt.out _ E4) ?_;clear hKk Kk E3;simp only [sx0,sx1,sx2];have HRw:=Lh (row_any (quarG q) Hok.out k (by have:=Hk.out.2;omega) (.func (.func F) #[] caps) g4 k w.heap.size Hl4.out w4 Hl5.out Hv4.out Hr4.out);refine anyK_one (i:=7) (by kernel_rfl) rfl (fun Kk hKk=>?_)
 go_simp
 (go_at_call 101;refine HRw.out.mono ?_;rintro e w5 ⟨v5,rfl,x5,hv5⟩)
 have E5:=E4.trans x5;have Hv5:=Lh hv5;clear hv5 x5 HRw
 go_wp2_with fail
 refine hKk.out _ _ (fun _=>HSt.out _ E5) ?_;clear hKk Kk E4;simp only [sx0,sx1,sx2];have HE5:=Lh E5;clear E5;refine anyK_one (i:=8) (by kernel_rfl) rfl (fun Kk hKk=>?_)
 go_wp2_with fail
 refine hKk.out _ _ (fun h=>Bool.noConfusion (show true=false from h)) ?_;clear hKk Kk;simp only [sx0,sx1,sx2];refine anyK_done (by kernel_rfl) ?_ _
 go_wp2_with fail
 go_ret
 exact ⟨v5,rfl,HE0.out.trans HE5.out,Hv5.out⟩
theorem GateOf_any {n:Nat} (hn:n<=16) {o:Gop} (ho:WOk n o) (a1:Option Addr) (n1 c1:Nat) (a2:Option Addr) (n2 c2:Nat) (w:World) (h:OpL w o a1 n1 c1 a2 n2 c2) :
  Calls Tryz.prog 60 #[.agg #[.int .i64 o.kind,.int .i64 o.k,.slice a1 n1 c1,.int .i64 o.q,.int .i64 o.bit,.slice a2 n2 c2]] w fun e w'=>GaR w.heap.size (actW o) w e w':=by
 have hl:=h.i1.1;have hi:=h.i1
 cases ho with
 | x hq =>
  obtain rfl:0=n1:=hl;rw [act_x];exact gate_x _ (by omega) a1 c1 a2 n2 c2 w
 | cx hq hc _ =>
  obtain rfl:1=n1:=hl;rw [act_cx];exact gate_cx _ _ (by omega) (by omega) a1 c1 a2 n2 c2 w hi
 | h hq =>
  obtain rfl:0=n1:=hl;rw [act_h];exact gate_h _ (by omega) a1 c1 a2 n2 c2 w
 | p hq hk =>
  obtain rfl:0=n1:=hl;rw [act_p];exact gate_p _ _ (by omega) (by omega) (by omega) a1 c1 a2 n2 c2 w
structure GnB (w:World) (g:Nat) (l:List QP):Prop where
 row:∃ cur,w.heap[g]?=some (.cells cur 103 (0,0))
 c:∀ t p,l[t]?=some p->w.cell? ⟨g,t*3,none⟩=some (.int .u16 (p.x:Int))/\w.cell? ⟨g,t*3+1,none⟩=some (.int .u16 (p.z:Int))/\w.cell? ⟨g,t*3+2,none⟩=some (.bool p.m)
section
variable {w w':World} {g:Nat} {l:List QP}
theorem GnB.lt (h:GnB w g l):g<w.heap.size:=by obtain ⟨cur,hc⟩:=h.row;exact (gS.1 hc).1
theorem GnB.keep (h:GnB w g l) (hk:w'.heap[g]?=w.heap[g]?):GnB w' g l:=by
 obtain ⟨cur,hc⟩:=h.row
 exact ⟨⟨cur,hk.trans hc⟩,fun t p ht=>by
  obtain ⟨a,b,c⟩:=h.c t p ht
  exact ⟨(World.cell?_of_block (a:=⟨g,t*3,none⟩) hk).trans a,(World.cell?_of_block (a:=⟨g,t*3+1,none⟩) hk).trans b,(World.cell?_of_block (a:=⟨g,t*3+2,none⟩) hk).trans c⟩⟩
theorem GnB.ext (h:GnB w g l) (k:Ext w w'):GnB w' g l:=h.keep (k.block g h.lt)
theorem GnB.f (h:GnB w g l) (o:Nat):w.frozen? ⟨g,o,none⟩=false:=by obtain ⟨cur,hc⟩:=h.row;exact frozen_of_row w g o _ _ hc
theorem GnB.put (h:GnB w g l) (i:Nat) (hi:i<l.length) (q:QP):GnB (((w.setCell ⟨g,i*3,none⟩ (.int .u16 (q.x:Int))).setCell ⟨g,i*3+1,none⟩ (.int .u16 (q.z:Int))).setCell ⟨g,i*3+2,none⟩ (.bool q.m)) g (l.set i q):=by
 obtain ⟨cur,hc⟩:=h.row;have r1:=heap_setCell_same w g (i*3) _ _ (.int .u16 (q.x:Int)) hc;have r2:=heap_setCell_same _ g (i*3+1) _ _ (.int .u16 (q.z:Int)) r1;have r3:=heap_setCell_same _ g (i*3+2) _ _ (.bool q.m) r2;obtain ⟨e0,e1,e2⟩:=h.c i _ (List.getElem?_eq_getElem hi);rw [cell_of_row w g (i*3) _ _ (0,0) hc] at e0;rw [cell_of_row w g (i*3+1) _ _ (0,0) hc] at e1;rw [cell_of_row w g (i*3+2) _ _ (0,0) hc] at e2;have hs0:=(gS.1 e0).1;have hs1:=(gS.1 e1).1;have hs2:=(gS.1 e2).1;refine ⟨⟨_,r3⟩,fun t p ht=>?_⟩;rw [cell_of_row _ g (t*3) _ _ (0,0) r3,cell_of_row _ g (t*3+1) _ _ (0,0) r3,cell_of_row _ g (t*3+2) _ _ (0,0) r3];simp only [Array.getElem?_setIfInBounds,Array.size_setIfInBounds]
 by_cases e:i=t
 ·subst e
  rw [List.getElem?_set_self hi] at ht
  cases ht
  refine ⟨?_,?_,?_⟩
  ·rw [if_neg (by omega),if_neg (by omega),if_pos rfl,if_pos hs0]
  ·rw [if_neg (by omega),if_pos rfl,if_pos hs1]
  ·rw [if_pos rfl,if_pos hs2]
 ·rw [List.getElem?_set_ne e] at ht
  obtain ⟨a,b,c⟩:=h.c t p ht;rw [cell_of_row w g (t*3) _ _ (0,0) hc] at a;rw [cell_of_row w g (t*3+1) _ _ (0,0) hc] at b;rw [cell_of_row w g (t*3+2) _ _ (0,0) hc] at c;refine ⟨?_,?_,?_⟩
  ·rw [if_neg (by omega),if_neg (by omega),if_neg (by omega)];exact a
  ·rw [if_neg (by omega),if_neg (by omega),if_neg (by omega)];exact b
  ·rw [if_neg (by omega),if_neg (by omega),if_neg (by omega)];exact c
end
structure HmS (u w:World) (base B g n ng:Nat) (ag:Option Addr) (cg:Nat) (l:List QP) (v:Value) (ops:List Gop):Prop where
 e:Ext u w
 row:w.heap[B]?=some (.cells #[.int .i64 (n:Int),.slice ag ng cg,v] 168 (0,0))
 gl:l.length=ng
 ga:ng=0\/(ag=some ⟨g,0,none⟩/\GnB w g l)
 os:OpsO w base v ops
 o:u.heap.size<=B/\B<base/\u.heap.size<=g/\g<base/\g≠B/\base<=w.heap.size
section
variable {u w w':World} {base B g n ng:Nat} {ag:Option Addr} {cg:Nat} {l:List QP} {v:Value} {ops:List Gop}
theorem HmS.lt (h:HmS u w base B g n ng ag cg l v ops):B<w.heap.size:=(gS.1 h.row).1
theorem HmS.ext (h:HmS u w base B g n ng ag cg l v ops) (x:Ext w w'):HmS u w' base B g n ng ag cg l v ops:=by
 obtain ⟨o1,o2,o3,o4,o5,o6⟩:=h.o;exact ⟨h.e.trans x,(x.block B h.lt).trans h.row,h.gl,h.ga.imp id fun k=>⟨k.1,k.2.ext x⟩,h.os.ext x,o1,o2,o3,o4,o5,Nat.le_trans o6 x.size⟩
theorem HmS.x0 (h:HmS u w base B g n ng ag cg l v ops):w.cell? ⟨B,0,none⟩=some (.int .i64 (n:Int)):=by rw [cell_of_row w B 0 _ _ (0,0) h.row];rfl
theorem HmS.x1 (h:HmS u w base B g n ng ag cg l v ops):w.cell? ⟨B,1,none⟩=some (.slice ag ng cg):=by rw [cell_of_row w B 1 _ _ (0,0) h.row];rfl
theorem HmS.x2 (h:HmS u w base B g n ng ag cg l v ops):w.cell? ⟨B,2,none⟩=some v:=by rw [cell_of_row w B 2 _ _ (0,0) h.row];rfl
theorem HmS.at (h:HmS u w base B g n ng ag cg l v ops) {i:Nat} {p:QP} (hp:l[i]?=some p):ag=some ⟨g,0,none⟩/\GnB w g l/\i<ng:=by
 have hi:=(List.getElem?_eq_some_iff.1 hp).1;rw [h.gl] at hi
 rcases h.ga with h0 | h0
 ·omega
 ·exact ⟨h0.1,h0.2,hi⟩
theorem HmS.put (h:HmS u w base B g n ng ag cg l v ops) {i:Nat} (hi:i<ng) (q:QP):HmS u (((w.setCell ⟨g,i*3,none⟩ (.int .u16 (q.x:Int))).setCell ⟨g,i*3+1,none⟩ (.int .u16 (q.z:Int))).setCell ⟨g,i*3+2,none⟩ (.bool q.m)) base B g n ng ag cg (l.set i q) v ops:=by
 obtain ⟨o1,o2,o3,o4,o5,o6⟩:=h.o
 rcases h.ga with h0 | ⟨ha,hg⟩
 ·omega
 obtain ⟨cur,hc⟩:=hg.row;have hO:Only g w (((w.setCell ⟨g,i*3,none⟩ (.int .u16 (q.x:Int))).setCell ⟨g,i*3+1,none⟩ (.int .u16 (q.z:Int))).setCell ⟨g,i*3+2,none⟩ (.bool q.m)):=(((Only.refl g w).setCell _ _).setCell _ _).setCell _ _;refine ⟨Below.setCell (Below.setCell (Below.setCell h.e (p:=⟨g,i*3,none⟩) o3 _) (p:=⟨g,i*3+1,none⟩) o3 _) (p:=⟨g,i*3+2,none⟩) o3 _,(hO.block B (Ne.symm o5)).trans h.row,by rw [List.length_set];exact h.gl,Or.inr ⟨ha,hg.put i (by rw [h.gl];exact hi) q⟩,h.os.far hc (by decide) (by decide) hO,o1,o2,o3,o4,o5,by rw [hO.size];exact o6⟩
end
theorem hm_step {u wa w7:World} {base B g n ng:Nat} {ag:Option Addr} {cg:Nat} {l:List QP} {v v7:Value} {ops:List Gop} {xs:List Value} {o:Gop} {a1:Option Addr} {n1 c1:Nat} {a2:Option Addr} {n2 c2:Nat}
  (h:HmS u wa base B g n ng ag cg l v ops) (hown:wa.ownsRow base 52 6 v ops.length xs)
  (hrows:∀ t g,ops[t]?=some g->∃ (a1:Option Addr) (n1 c1:Nat) (a2:Option Addr) (n2 c2:Nat),xs[t*6]?=some (.int .i64 g.kind)/\xs[t*6+1]?=some (.int .i64 g.k)/\xs[t*6+2]?=some (.slice a1 n1 c1)/\xs[t*6+3]?=some (.int .i64 g.q)/\xs[t*6+4]?=some (.int .i64 g.bit)/\xs[t*6+5]?=some (.slice a2 n2 c2)/\OpO wa g a1 n1 c1 a2 n2 c2)
  (hO:OpO wa o a1 n1 c1 a2 n2 c2) (h7:w7.ownsRow base 52 6 v7 (ops.length+1) (xs++[.int .i64 o.kind,.int .i64 o.k,.slice a1 n1 c1,.int .i64 o.q,.int .i64 o.bit,.slice a2 n2 c2])) (hg:wa.grownBy w7 v.ownBlock) :
  w7.cell? ⟨B,2,none⟩=some v/\w7.frozen? ⟨B,2,none⟩=false/\HmS u (w7.setCell ⟨B,2,none⟩ v7) base B g n ng ag cg l v7 (ops++[o]):=by
 obtain ⟨o1,o2,o3,o4,o5,o6⟩:=h.o
 have hne:∀ k,k<base->some k≠v.ownBlock:=fun k hk e=>by have:=(own_lt hown k e.symm).1;omega
 have hB7:=(hg.block B h.lt (hne B o2)).trans h.row;have hE7:Ext u w7:=grown_ext h.e hg (fun j hj=>Nat.le_trans (by omega) (own_lt hown j hj).1)
 have hk:∀ (b:Nat) (cur:Array Value) (fr:Nat × Nat),wa.heap[b]?=some (.cells cur 3 fr)->w7.heap[b]?=wa.heap[b]?:=fun b cur fr hb=>hg.block b (gS.1 hb).1 (fun e=>by
  obtain ⟨_,cs',fr',e2⟩:=PtKind hown b e.symm;rw [hb] at e2
  cases e2)
 have os7:OpsO w7 base v7 (ops++[o]):=OpsO.snoc h7 hown.1 hrows (fun _ _ _ _ _ _ _ k=>k.keep hg.size hk) (hO.keep hg.size hk);have on1:Only B w7 (w7.setCell ⟨B,2,none⟩ v7):=(Only.refl _ _).setCell _ _;refine ⟨by rw [cell_of_row w7 B 2 _ _ (0,0) hB7];rfl,frozen_of_row _ B 2 _ _ hB7,cput hE7 o1 _,?_,h.gl,?_,os7.only hB7 (by decide) on1 (by rw [on1.size];exact Nat.le_refl _) o2,o1,o2,o3,o4,o5,by rw [on1.size];exact Nat.le_trans o6 hg.size⟩
 ·have:=heap_setCell_same w7 B 2 _ _ v7 hB7
  simpa using this
 ·refine h.ga.imp id fun k=>⟨k.1,(k.2.keep (hg.block g k.2.lt (hne g o4))).keep (on1.block g o5)⟩
def smF (f:Nat->Nat):Nat->Nat
 | 0=>0
 | n+1=>smF f n+f n
theorem smF_congr {f g:Nat->Nat}:∀ {n:Nat},(∀ j,j<n->f j=g j)->smF f n=smF g n
 | 0,_=>rfl
 | n+1,h=>by unfold smF;rw [smF_congr (fun j hj=>h j (by omega)),h n (by omega)]
theorem smF_off {f g:Nat->Nat} {q:Nat}:∀ {n:Nat},q<n->(∀ j,j<n->j≠q->f j=g j)->smF f n+g q=smF g n+f q
 | 0,h,_=>by omega
 | n+1,h,hj=>by
  unfold smF
  by_cases e:q=n
  ·subst e
   rw [smF_congr (fun j h1=>hj j (by omega) (by omega))];omega
  ·have:=smF_off (n:=n) (by omega) (fun j h1 h2=>hj j (by omega) h2)
   rw [hj n (by omega) (Ne.symm e)];omega
theorem smF_off2 {f g:Nat->Nat} {q c:Nat} (hqc:q≠c) {n:Nat} (hq:q<n) (hc:c<n) (h:∀ j,j<n->j≠q->j≠c->f j=g j):smF f n+(g q+g c)=smF g n+(f q+f c):=by
 have h1:=smF_off (f:=f) (g:=fun j=>if j=q then g q else f j) hq (fun j _ h2=>by simp [h2])
 have h2:=smF_off (f:=fun j=>if j=q then g q else f j) (g:=g) hc (fun j h1 h2=>by
  by_cases e:j=q
  ·simp [e]
  ·simp only [if_neg e];exact h j h1 e h2)
 simp only [if_true] at h1;simp only [if_neg (Ne.symm hqc)] at h2;omega
def b1 (b:Bool):Nat:=if b then 1 else 0
def yj (p:QP) (j:Nat):Nat:=b1 (p.x.testBit j && p.z.testBit j)
def phQ (p:QP):Nat:=2*b1 p.m+smF (yj p) 16
def cj (p r:QP) (j:Nat):Nat:=2*b1 (p.z.testBit j && r.x.testBit j)
structure Prd (p r s:QP):Prop where
 x:s.x=p.x ^^^ r.x
 z:s.z=p.z ^^^ r.z
 ph:phQ s % 4=(phQ p+phQ r+smF (cj p r) 16) % 4
theorem Prd.uniq {p r s t:QP} (h:Prd p r s) (k:Prd p r t):s=t:=by
 have hx:=h.x.trans k.x.symm;have hz:=h.z.trans k.z.symm;refine QP.ext' hx hz ?_;have hp:=h.ph.trans k.ph.symm;unfold phQ at hp;rw [show smF (yj s) 16=smF (yj t) 16 from smF_congr (fun j _=>by unfold yj;rw [hx,hz])] at hp
 cases hs:s.m<;>cases ht:t.m<;>rw [hs,ht] at hp<;>simp [b1] at hp ⊢<;>omega
theorem ph_flip (q:Nat) (p:QP):phQ (flipG q p) % 4=(phQ p+2*b1 (p.z.testBit q)) % 4:=by
 unfold phQ;rw [show smF (yj (flipG q p)) 16=smF (yj p) 16 from smF_congr (fun _ _=>rfl)]
 show (2*b1 (p.m ^^ p.z.testBit q)+_) % 4=_
 cases p.m<;>cases p.z.testBit q<;>simp [b1]<;>omega
theorem prd_flip (q:Nat) {p r s:QP} (h:Prd p r s):Prd (flipG q p) (flipG q r) (flipG q s):=by
 refine ⟨h.x,h.z,?_⟩;have h0:=h.ph;have h1:=ph_flip q p;have h2:=ph_flip q r;have h3:=ph_flip q s;rw [show smF (cj (flipG q p) (flipG q r)) 16=smF (cj p r) 16 from rfl]
 have hz:s.z.testBit q=(p.z.testBit q ^^ r.z.testBit q):=by rw [h.z,Nat.testBit_xor]
 rw [hz] at h3;generalize phQ (flipG q p)=A at *;generalize phQ (flipG q r)=B at *;generalize phQ (flipG q s)=C at *;clear h;generalize phQ p=A0 at *;generalize phQ r=B0 at *;generalize phQ s=C0 at *;generalize smF (cj p r) 16=D at *;clear hz;generalize p.z.testBit q=x2 at *;generalize r.z.testBit q=y2 at *
 cases x2<;>cases y2<;>simp [b1] at h1 h2 h3<;>omega
theorem ph_fork (q:Nat) (p:QP):phQ (forkG q p) % 4=(phQ p+2*b1 (p.x.testBit q && p.z.testBit q)) % 4:=by
 unfold phQ
 rw [show smF (yj (forkG q p)) 16=smF (yj p) 16 from smF_congr (fun j _=>by
  unfold yj;rw [fork_x,fork_z];split
  ·rw [Bool.and_comm]
  ·rfl)]
 show (2*b1 (p.m ^^ (p.x.testBit q && p.z.testBit q))+_) % 4=_
 cases p.m<;>cases p.x.testBit q<;>cases p.z.testBit q<;>simp [b1]<;>omega
theorem prd_fork {q:Nat} (hq:q<16) {p r s:QP} (h:Prd p r s):Prd (forkG q p) (forkG q r) (forkG q s):=by
 refine ⟨(lin_fork q).x p r s h.x h.z,(lin_fork q).z p r s h.x h.z,?_⟩;have h0:=h.ph;have h1:=ph_fork q p;have h2:=ph_fork q r;have h3:=ph_fork q s
 have hz:s.z.testBit q=(p.z.testBit q ^^ r.z.testBit q):=by rw [h.z,Nat.testBit_xor]
 have hx:s.x.testBit q=(p.x.testBit q ^^ r.x.testBit q):=by rw [h.x,Nat.testBit_xor]
 have hc:=smF_off (f:=cj (forkG q p) (forkG q r)) (g:=cj p r) hq (fun j _ hj=>by unfold cj;rw [fork_z,fork_x,if_neg (Ne.symm hj),if_neg (Ne.symm hj)])
 have c1:cj (forkG q p) (forkG q r) q=2*b1 (p.x.testBit q && r.z.testBit q):=by unfold cj;rw [fork_z,fork_x,if_pos rfl,if_pos rfl]
 have c2:cj p r q=2*b1 (p.z.testBit q && r.x.testBit q):=rfl;rw [c1,c2] at hc;rw [hz,hx] at h3;generalize phQ (forkG q p)=A at *;generalize phQ (forkG q r)=B at *;generalize phQ (forkG q s)=C at *;clear h;generalize phQ p=A0 at *;generalize phQ r=B0 at *;generalize phQ s=C0 at *;generalize smF (cj p r) 16=D at *;generalize smF (cj (forkG q p) (forkG q r)) 16=E at *;clear c1 c2;generalize p.z.testBit q=x2 at *;generalize r.z.testBit q=y2 at *;generalize p.x.testBit q=x1 at *;generalize r.x.testBit q=y1 at *
 cases x1<;>cases x2<;>cases y1<;>cases y2<;>simp [b1] at h1 h2 h3 hc<;>omega
theorem ph_quar {q:Nat} (hq:q<16) (p:QP):phQ (quarG q p) % 4=(phQ p+b1 (p.x.testBit q)) % 4:=by
 have hc:=smF_off (f:=yj (quarG q p)) (g:=yj p) hq (fun j _ hj=>by unfold yj;rw [quar_z,quar_x,decide_eq_false (Ne.symm hj),Bool.false_and,Bool.xor_false])
 have c1:yj (quarG q p) q=b1 (p.x.testBit q && !p.z.testBit q):=by unfold yj;rw [quar_z,quar_x,decide_eq_true rfl,Bool.true_and];cases p.x.testBit q<;>cases p.z.testBit q<;>rfl
 have c2:yj p q=b1 (p.x.testBit q && p.z.testBit q):=rfl;rw [c1,c2] at hc;unfold phQ;have hm:(quarG q p).m=(p.m ^^ (p.x.testBit q && p.z.testBit q)):=rfl;rw [hm];generalize smF (yj (quarG q p)) 16=A at *;generalize smF (yj p) 16=B at *;clear c1 c2;generalize p.z.testBit q=x2 at *;generalize p.x.testBit q=x1 at *
 cases p.m<;>cases x1<;>cases x2<;>simp [b1] at hc ⊢<;>omega
theorem prd_quar {q:Nat} (hq:q<16) {p r s:QP} (h:Prd p r s):Prd (quarG q p) (quarG q r) (quarG q s):=by
 refine ⟨(lin_quar q).x p r s h.x h.z,(lin_quar q).z p r s h.x h.z,?_⟩;have h0:=h.ph;have h1:=ph_quar hq p;have h2:=ph_quar hq r;have h3:=ph_quar hq s
 have hx:s.x.testBit q=(p.x.testBit q ^^ r.x.testBit q):=by rw [h.x,Nat.testBit_xor]
 have hc:=smF_off (f:=cj (quarG q p) (quarG q r)) (g:=cj p r) hq (fun j _ hj=>by unfold cj;rw [quar_z,quar_x,decide_eq_false (Ne.symm hj),Bool.false_and,Bool.xor_false])
 have c1:cj (quarG q p) (quarG q r) q=2*b1 ((p.z.testBit q ^^ p.x.testBit q) && r.x.testBit q):=by unfold cj;rw [quar_z,quar_x,decide_eq_true rfl,Bool.true_and]
 have c2:cj p r q=2*b1 (p.z.testBit q && r.x.testBit q):=rfl;rw [c1,c2] at hc;rw [hx] at h3;generalize phQ (quarG q p)=A at *;generalize phQ (quarG q r)=B at *;generalize phQ (quarG q s)=C at *;clear h;generalize phQ p=A0 at *;generalize phQ r=B0 at *;generalize phQ s=C0 at *;generalize smF (cj p r) 16=D at *;generalize smF (cj (quarG q p) (quarG q r)) 16=E at *;clear c1 c2;generalize p.z.testBit q=x2 at *;generalize r.z.testBit q=y2 at *;generalize p.x.testBit q=x1 at *;generalize r.x.testBit q=y1 at *
 cases x1<;>cases x2<;>cases y1<;>cases y2<;>simp [b1] at h1 h2 h3 hc<;>omega
def dOn (xq zq xc zc:Bool):Nat:=2*b1 (xc && zq && (xq == zc))+b1 ((xq ^^ xc) && zq)+b1 (xc && (zc ^^ zq))+3*b1 (xq && zq)+3*b1 (xc && zc)
theorem ph_on {q c:Nat} (hqc:q≠c) (hq:q<16) (hc:c<16) (p:QP):phQ (onG q c p) % 4=(phQ p+dOn (p.x.testBit q) (p.z.testBit q) (p.x.testBit c) (p.z.testBit c)) % 4:=by
 have hd:decide (q=c)=false:=decide_eq_false hqc;have hd':decide (c=q)=false:=decide_eq_false (Ne.symm hqc)
 have hy:smF (yj (onG q c p)) 16+(yj p q+yj p c)=smF (yj p) 16+(yj (onG q c p) q+yj (onG q c p) c) :=
  smF_off2 hqc hq hc (fun j _ h1 h2=>by unfold yj;rw [on_x,on_z,decide_eq_false (Ne.symm h1),decide_eq_false (Ne.symm h2)];simp)
 have c1:yj (onG q c p) q=b1 ((p.x.testBit q ^^ p.x.testBit c) && p.z.testBit q):=by unfold yj;rw [on_x,on_z,hd',decide_eq_true rfl];simp
 have c2:yj (onG q c p) c=b1 (p.x.testBit c && (p.z.testBit c ^^ p.z.testBit q)):=by unfold yj;rw [on_x,on_z,hd,decide_eq_true rfl];simp
 have c3:yj p q=b1 (p.x.testBit q && p.z.testBit q):=rfl;have c4:yj p c=b1 (p.x.testBit c && p.z.testBit c):=rfl;have hm:(onG q c p).m=(p.m ^^ (p.x.testBit c && p.z.testBit q && (p.x.testBit q == p.z.testBit c))):=rfl;rw [c1,c2,c3,c4] at hy;unfold phQ dOn;rw [hm];generalize smF (yj (onG q c p)) 16=A at *;generalize smF (yj p) 16=B at *;clear c1 c2 c3 c4;generalize p.z.testBit q=x2 at *;generalize p.x.testBit q=x1 at *;generalize p.z.testBit c=x4 at *;generalize p.x.testBit c=x3 at *
 cases p.m<;>cases x1<;>cases x2<;>cases x3<;>cases x4<;>simp [b1] at hy ⊢<;>omega
theorem prd_on {q c:Nat} (hqc:q≠c) (hq:q<16) (hc:c<16) {p r s:QP} (h:Prd p r s):Prd (onG q c p) (onG q c r) (onG q c s):=by
 refine ⟨(lin_on q c).x p r s h.x h.z,(lin_on q c).z p r s h.x h.z,?_⟩;have h0:=h.ph;have hd:decide (q=c)=false:=decide_eq_false hqc;have hd':decide (c=q)=false:=decide_eq_false (Ne.symm hqc);have h1:=ph_on hqc hq hc p;have h2:=ph_on hqc hq hc r;have h3:=ph_on hqc hq hc s;have hj:=smF_off2 (f:=cj (onG q c p) (onG q c r)) (g:=cj p r) hqc hq hc (fun j _ h1 h2=>by unfold cj;rw [on_x,on_z,decide_eq_false (Ne.symm h1),decide_eq_false (Ne.symm h2)];simp)
 have c1:cj (onG q c p) (onG q c r) q=2*b1 (p.z.testBit q && (r.x.testBit q ^^ r.x.testBit c)):=by unfold cj;rw [on_x,on_z,hd',decide_eq_true rfl];simp
 have c2:cj (onG q c p) (onG q c r) c=2*b1 ((p.z.testBit c ^^ p.z.testBit q) && r.x.testBit c):=by unfold cj;rw [on_x,on_z,hd,decide_eq_true rfl];simp
 have c3:cj p r q=2*b1 (p.z.testBit q && r.x.testBit q):=rfl;have c4:cj p r c=2*b1 (p.z.testBit c && r.x.testBit c):=rfl
 have e1:s.x.testBit q=(p.x.testBit q ^^ r.x.testBit q):=by rw [h.x,Nat.testBit_xor]
 have e2:s.x.testBit c=(p.x.testBit c ^^ r.x.testBit c):=by rw [h.x,Nat.testBit_xor]
 have e3:s.z.testBit q=(p.z.testBit q ^^ r.z.testBit q):=by rw [h.z,Nat.testBit_xor]
 have e4:s.z.testBit c=(p.z.testBit c ^^ r.z.testBit c):=by rw [h.z,Nat.testBit_xor]
 rw [c1,c2,c3,c4] at hj;rw [e1,e2,e3,e4] at h3;clear c1 c2 c3 c4 e1 e2 e3 e4 h hd hd';generalize phQ (onG q c p)=A at *;generalize phQ (onG q c r)=B at *;generalize phQ (onG q c s)=C at *;generalize phQ p=A0 at *;generalize phQ r=B0 at *;generalize phQ s=C0 at *;generalize smF (cj p r) 16=D at *;generalize smF (cj (onG q c p) (onG q c r)) 16=E at *;generalize p.x.testBit q=x1 at *;generalize p.z.testBit q=x2 at *;generalize p.x.testBit c=x3 at *;generalize p.z.testBit c=x4 at *;generalize r.x.testBit q=y1 at *;generalize r.z.testBit q=y2 at *;generalize r.x.testBit c=y3 at *;generalize r.z.testBit c=y4 at *
 cases x1<;>cases x2<;>cases x3<;>cases x4<;>cases y1<;>cases y2<;>cases y3<;>cases y4<;>simp [b1,dOn] at h1 h2 h3 hj<;>omega
def idQ:QP:=⟨0,0,false⟩
theorem smF_mod {f g h:Nat->Nat}:∀ {n:Nat},(∀ j,j<n->f j % 4=(g j+h j) % 4)->smF f n % 4=(smF g n+smF h n) % 4
 | 0,_=>rfl
 | n+1,k=>by
  have h1:=smF_mod (n:=n) (fun j hj=>k j (by omega));have h2:=k n (by omega);unfold smF;omega
theorem smF_par {f:Nat->Nat} {n:Nat} {g:Nat->Nat} (h:∀ j,j<n->f j % 2=g j % 2):smF f n % 2=smF g n % 2:=by
 induction n with
 | zero=>rfl
 | succ n ih =>
  have h1:=ih (fun j hj=>h j (by omega));have h2:=h n (by omega);unfold smF;omega
theorem smF_add (f g:Nat->Nat):∀ n,smF (fun j=>f j+g j) n=smF f n+smF g n
 | 0=>rfl
 | n+1=>by unfold smF;rw [smF_add f g n];omega
theorem smF_two (f:Nat->Nat):∀ n,smF (fun j=>2*f j) n=2*smF f n
 | 0=>rfl
 | n+1=>by unfold smF;rw [smF_two f n];omega
theorem smF_front (f:Nat->Nat):∀ n,smF f (n+1)=f 0+smF (fun j=>f (j+1)) n
 | 0=>by simp [smF]
 | n+1=>by
  have:=smF_front f n;rw [show smF f (n+1+1)=smF f (n+1)+f (n+1) from rfl,this]
  show _=f 0+(smF (fun j=>f (j+1)) n+f (n+1))
  omega
theorem par_smF:∀ (n v:Nat),par n v=decide (smF (fun j=>b1 (v.testBit j)) n % 2=1)
 | 0,_=>rfl
 | n+1,v=>by
  rw [smF_front];unfold par;rw [par_smF n (v / 2)]
  have e:smF (fun j=>b1 ((v / 2).testBit j)) n=smF (fun j=>b1 (v.testBit (j+1))) n:=smF_congr fun j _=>by rw [<-Nat.testBit_succ]
  rw [e,Nat.testBit_zero];generalize smF (fun j=>b1 (v.testBit (j+1))) n=A
  by_cases h1:v % 2=1<;>by_cases h2:A % 2=1<;>simp [h1,h2,b1]<;>omega
theorem ant_smF (p r:QP):ant p r=decide (smF (fun j=>b1 (p.x.testBit j && r.z.testBit j)+b1 (p.z.testBit j && r.x.testBit j)) 16 % 2=1):=by
 unfold ant;rw [par_smF,par_smF,smF_add]
 have e1:smF (fun j=>b1 ((p.x &&& r.z).testBit j)) 16=smF (fun j=>b1 (p.x.testBit j && r.z.testBit j)) 16:=smF_congr fun j _=>by rw [Nat.testBit_and]
 have e2:smF (fun j=>b1 ((p.z &&& r.x).testBit j)) 16=smF (fun j=>b1 (p.z.testBit j && r.x.testBit j)) 16:=smF_congr fun j _=>by rw [Nat.testBit_and]
 rw [e1,e2];generalize smF (fun j=>b1 (p.x.testBit j && r.z.testBit j)) 16=A;generalize smF (fun j=>b1 (p.z.testBit j && r.x.testBit j)) 16=B
 by_cases h1:A % 2=1<;>by_cases h2:B % 2=1<;>simp [h1,h2]<;>omega
def lpQ (p r:QP):QP:=⟨p.x ^^^ r.x,p.z ^^^ r.z,false⟩
def qtQ (p r:QP):Nat:=phQ p+phQ r+smF (cj p r) 16+3*smF (yj (lpQ p r)) 16
theorem qt_even (p r:QP):qtQ p r % 2=b1 (ant p r):=by
 have h:smF (fun j=>yj p j+(yj r j+yj (lpQ p r) j)) 16 % 2=smF (fun j=>b1 (p.x.testBit j && r.z.testBit j)+b1 (p.z.testBit j && r.x.testBit j)) 16 % 2:=smF_par fun j _=>by
  have e:yj (lpQ p r) j=b1 ((p.x.testBit j ^^ r.x.testBit j) && (p.z.testBit j ^^ r.z.testBit j)):=by unfold yj lpQ;simp only [Nat.testBit_xor]
  rw [e];unfold yj
  cases p.x.testBit j<;>cases p.z.testBit j<;>cases r.x.testBit j<;>cases r.z.testBit j<;>rfl
 rw [smF_add,smF_add] at h;have hc:smF (cj p r) 16=2*smF (fun j=>b1 (p.z.testBit j && r.x.testBit j)) 16:=smF_two _ _;rw [ant_smF];unfold qtQ phQ;rw [hc];generalize smF (fun j=>b1 (p.x.testBit j && r.z.testBit j)+b1 (p.z.testBit j && r.x.testBit j)) 16=A at *
 by_cases hA:A % 2=1
 ·rw [decide_eq_true hA];show _=1;omega
 ·rw [decide_eq_false hA];show _=0;omega
def timQ (p r:QP):QP:=⟨p.x ^^^ r.x,p.z ^^^ r.z,decide (qtQ p r % 4=2)⟩
theorem prd_tim {p r:QP} (h:ant p r=false):Prd p r (timQ p r):=by
 refine ⟨rfl,rfl,?_⟩;have he:=qt_even p r;rw [h] at he;have he:qtQ p r % 2=0:=he;unfold phQ
 have hy:smF (yj (timQ p r)) 16=smF (yj (lpQ p r)) 16:=smF_congr fun _ _=>rfl
 rw [hy]
 show (2*b1 (decide (qtQ p r % 4=2))+_) % 4=_
 have hq:qtQ p r=(2*b1 p.m+smF (yj p) 16)+(2*b1 r.m+smF (yj r) 16)+smF (cj p r) 16+3*smF (yj (lpQ p r)) 16:=rfl
 by_cases h2:qtQ p r % 4=2
 ·rw [decide_eq_true h2];simp only [b1,if_true] at *;omega
 ·rw [decide_eq_false h2];simp only [b1,Bool.false_eq_true,if_false] at *;omega
theorem cj_left {p r a:QP} (t:QP) (h:a.z=p.z ^^^ r.z):smF (cj a t) 16 % 4=(smF (cj p t) 16+smF (cj r t) 16) % 4:=smF_mod fun j _=>by
 unfold cj;rw [h,Nat.testBit_xor]
 cases p.z.testBit j<;>cases r.z.testBit j<;>cases t.x.testBit j<;>rfl
theorem cj_right (p:QP) {r t b:QP} (h:b.x=r.x ^^^ t.x):smF (cj p b) 16 % 4=(smF (cj p r) 16+smF (cj p t) 16) % 4:=smF_mod fun j _=>by
 unfold cj;rw [h,Nat.testBit_xor]
 cases p.z.testBit j<;>cases r.x.testBit j<;>cases t.x.testBit j<;>rfl
theorem Prd.assoc {p r t a b s:QP} (h1:Prd p r a) (h2:Prd a t s) (h3:Prd r t b):Prd p b s:=by
 refine ⟨by rw [h2.x,h1.x,h3.x,Nat.xor_assoc],by rw [h2.z,h1.z,h3.z,Nat.xor_assoc],?_⟩;have e1:=h1.ph;have e2:=h2.ph;have e3:=h3.ph;have c1:=cj_left t h1.z;have c2:=cj_right p h3.x;omega
theorem Prd.assoc' {p r t a b s:QP} (h1:Prd r t b) (h2:Prd p b s) (h3:Prd p r a):Prd a t s:=by
 refine ⟨by rw [h2.x,h1.x,h3.x,Nat.xor_assoc],by rw [h2.z,h1.z,h3.z,Nat.xor_assoc],?_⟩;have e1:=h1.ph;have e2:=h2.ph;have e3:=h3.ph;have c1:=cj_left t h3.z;have c2:=cj_right p h1.x;omega
theorem Prd.comm {p r s:QP} (h:Prd p r s) (hc:ant p r=false):Prd r p s:=by
 refine ⟨by rw [h.x,Nat.xor_comm],by rw [h.z,Nat.xor_comm],?_⟩;have e:=h.ph;rw [ant_smF,decide_eq_false_iff_not,smF_add] at hc;have e1:smF (cj p r) 16=2*smF (fun j=>b1 (p.z.testBit j && r.x.testBit j)) 16:=smF_two _ _
 have e2:smF (cj r p) 16=2*smF (fun j=>b1 (p.x.testBit j && r.z.testBit j)) 16:=by
  rw [<-smF_two];exact smF_congr fun j _=>by unfold cj;rw [Bool.and_comm]
 omega
theorem prd_one (p:QP):Prd p idQ p:=by
 refine ⟨by simp [idQ],by simp [idQ],?_⟩;have e1:phQ idQ=0:=rfl
 have e2:smF (cj p idQ) 16=0:=by
  rw [show smF (cj p idQ) 16=smF (fun _=>0) 16 from smF_congr fun j _=>by unfold cj idQ;simp [b1]]
  rfl
 rw [e1,e2]
 rfl
theorem one_prd (p:QP):Prd idQ p p:=by
 refine ⟨by simp [idQ],by simp [idQ],?_⟩;have e1:phQ idQ=0:=rfl
 have e2:smF (cj idQ p) 16=0:=by
  rw [show smF (cj idQ p) 16=smF (fun _=>0) 16 from smF_congr fun j _=>by unfold cj idQ;simp [b1]]
  rfl
 rw [e1,e2];omega
theorem prd_self (p:QP):Prd p p idQ:=by
 refine ⟨by simp [idQ],by simp [idQ],?_⟩;have e1:phQ idQ=0:=rfl
 have e2:smF (cj p p) 16=2*smF (yj p) 16:=by
  rw [<-smF_two];exact smF_congr fun j _=>by unfold cj yj;rw [Bool.and_comm]
 rw [e1,e2];unfold phQ;omega
theorem ant_prd {p r s:QP} (h:Prd p r s) (t:QP):ant s t=(ant p t ^^ ant r t):=by
 unfold ant;rw [h.x,h.z,Nat.and_xor_distrib_right,Nat.and_xor_distrib_right,par_xor,par_xor]
 cases par 16 (p.x &&& t.z)<;>cases par 16 (r.x &&& t.z)<;>cases par 16 (p.z &&& t.x)<;>cases par 16 (r.z &&& t.x)<;>rfl
theorem ant_symm (p r:QP):ant p r=ant r p:=by
 unfold ant;rw [Nat.and_comm p.x,Nat.and_comm p.z,Bool.xor_comm]
theorem ant_selfQ (p:QP):ant p p=false:=by
 unfold ant;rw [Nat.and_comm p.z p.x,Bool.xor_self]
theorem ant_one (r:QP):ant idQ r=false:=by simp [ant,idQ,par_zero]
inductive Grp (l:List QP):QP->Prop
 | one:Grp l idQ
 | mul {p g s:QP} (h:Grp l p) (hg:g ∈ l) (hp:Prd p g s):Grp l s
def Com (l:List QP):Prop:=∀ p ∈ l,∀ r ∈ l,ant p r=false
theorem Grp.of {l:List QP} {g:QP} (h:g ∈ l):Grp l g:=.mul .one h (one_prd g)
theorem Grp.ant {l:List QP} {p:QP} (h:Grp l p) (r:QP) (hr:∀ g ∈ l,ant g r=false):ant p r=false:=by
 induction h with
 | one=>exact ant_one r
 | mul h hg hp ih=>rw [ant_prd hp,ih,hr _ hg];rfl
theorem Grp.com {l:List QP} (hl:Com l) {p r:QP} (h:Grp l p) (k:Grp l r):Go.Proofs.YtlechhmhmakgpaaGreatDoor.ant p r=false :=
 h.ant r fun g hg=>by rw [ant_symm];exact k.ant g fun f hf=>hl f hf g hg
theorem Grp.prd {l:List QP} (hl:Com l) {p r s:QP} (h:Grp l p) (k:Grp l r) (hp:Prd p r s):Grp l s:=by
 induction k generalizing s with
 | one=>rw [hp.uniq (prd_one p)];exact h
 | mul k hg hp' ih =>
  have ha:=prd_tim (h.com hl k);exact .mul (ih ha) hg (hp'.assoc' hp ha)
theorem Grp.le {l l':List QP} (hl:Com l') (h:∀ g ∈ l,Grp l' g) {p:QP} (k:Grp l p):Grp l' p:=by
 induction k with
 | one=>exact .one
 | mul _ hg hp ih=>exact ih.prd hl (h _ hg) hp
structure Aut (A:QP->QP):Prop where
 prd:∀ {p r s:QP},Prd p r s->Prd (A p) (A r) (A s)
 ant:∀ p r:QP,ant (A p) (A r)=ant p r
theorem Aut.one {A:QP->QP} (h:Aut A):A idQ=idQ:=by
 have h1:=h.prd (one_prd idQ);exact (h1.uniq (prd_self (A idQ)))
theorem Aut.comp {A B:QP->QP} (h:Aut A) (k:Aut B):Aut (fun p=>B (A p)):=⟨fun hp=>k.prd (h.prd hp),fun p r=>(k.ant _ _).trans (h.ant p r)⟩
theorem aut_id:Aut (fun p=>p):=⟨fun h=>h,fun _ _=>rfl⟩
theorem aut_flip (q:Nat):Aut (flipG q):=⟨prd_flip q,fun _ _=>rfl⟩
theorem aut_fork {q:Nat} (hq:q<16):Aut (forkG q):=⟨prd_fork hq,ant_fork q⟩
theorem aut_quar {q:Nat} (hq:q<16):Aut (quarG q):=⟨prd_quar hq,ant_quar q⟩
theorem aut_on {q c:Nat} (h:q≠c) (hq:q<16) (hc:c<16):Aut (onG q c):=⟨prd_on h hq hc,ant_on h hq hc⟩
theorem Grp.map {l:List QP} {A:QP->QP} (hA:Aut A) {p:QP} (h:Grp l p):Grp (l.map A) (A p):=by
 induction h with
 | one=>rw [hA.one];exact .one
 | mul _ hg hp ih=>exact .mul ih (List.mem_map.2 ⟨_,hg,rfl⟩) (hA.prd hp)
theorem Grp.unmap {l:List QP} {A:QP->QP} (hA:Aut A) (hl:Com l) {p:QP} (h:Grp (l.map A) p):∃ r,Grp l r/\p=A r:=by
 induction h with
 | one=>exact ⟨idQ,.one,hA.one.symm⟩
 | mul h hg hp ih =>
  obtain ⟨r,hr,rfl⟩:=ih;obtain ⟨g,hg1,rfl⟩:=List.mem_map.1 hg;have hg:=hg1;have ht:=prd_tim (hr.com hl (.of hg));exact ⟨timQ r g,.mul hr hg ht,hp.uniq (hA.prd ht)⟩
theorem Com.map {l:List QP} {A:QP->QP} (hA:Aut A) (h:Com l):Com (l.map A):=fun p hp r hr=>by
 obtain ⟨p,hp',rfl⟩:=List.mem_map.1 hp;obtain ⟨r,hr',rfl⟩:=List.mem_map.1 hr;rw [hA.ant];exact h p hp' r hr'
inductive Rep:List QP->List Bool->QP->Prop
 | nil:Rep [] [] idQ
 | no {g:QP} {l:List QP} {b:List Bool} {p:QP} (h:Rep l b p):Rep (g :: l) (false :: b) p
 | yes {g:QP} {l:List QP} {b:List Bool} {p s:QP} (h:Rep l b p) (hp:Prd p g s):Rep (g :: l) (true :: b) s
theorem Rep.len {l:List QP} {b:List Bool} {p:QP} (h:Rep l b p):b.length=l.length:=by
 induction h with
 | nil=>rfl
 | no _ ih=>simp [ih]
 | yes _ _ ih=>simp [ih]
theorem Rep.grp {l:List QP} {b:List Bool} {p:QP} (h:Rep l b p):Grp l p:=by
 have up:∀ {g:QP} {l:List QP} {p:QP},Grp l p->Grp (g :: l) p:=fun k=>by
  induction k with
  | one=>exact .one
  | mul _ hg hp ih=>exact .mul ih (List.mem_cons_of_mem _ hg) hp
 induction h with
 | nil=>exact .one
 | no _ ih=>exact up ih
 | yes _ hp ih=>exact .mul (up ih) (List.mem_cons_self ..) hp
theorem rep_none (l:List QP):Rep l (List.replicate l.length false) idQ:=by
 induction l with
 | nil=>exact .nil
 | cons g l ih=>exact .no ih
theorem Rep.uniq {l:List QP} {b:List Bool} {p r:QP} (h:Rep l b p) (k:Rep l b r):p=r:=by
 induction h generalizing r with
 | nil=>cases k;rfl
 | no _ ih=>cases k with | no k=>exact ih k
 | yes _ hp ih=>cases k with | yes k kp=>rw [ih k] at hp;exact hp.uniq kp
theorem Rep.flip {l:List QP} (hl:Com l) {b:List Bool} {p g s:QP} (h:Rep l b p) (i:Nat) (hg:l[i]?=some g) (hs:Prd p g s):∃ v,b[i]?=some v/\Rep l (b.set i (!v)) s:=by
 induction h generalizing i s with
 | nil=>simp at hg
 | @no f l b p h ih =>
  have hl':Com l:=fun p hp r hr=>hl p (List.mem_cons_of_mem _ hp) r (List.mem_cons_of_mem _ hr)
  cases i with
  | zero =>
   simp only [List.getElem?_cons_zero,Option.some.injEq] at hg;subst hg;exact ⟨false,rfl,.yes h hs⟩
  | succ i =>
   rw [List.getElem?_cons_succ] at hg;obtain ⟨v,h1,h2⟩:=ih hl' i hg hs;exact ⟨v,by simpa using h1,.no h2⟩
 | @yes f l b p t h hp ih =>
  have hl':Com l:=fun p hp r hr=>hl p (List.mem_cons_of_mem _ hp) r (List.mem_cons_of_mem _ hr)
  cases i with
  | zero =>
   simp only [List.getElem?_cons_zero,Option.some.injEq] at hg;subst hg;refine ⟨true,rfl,?_⟩;have h1:Prd p idQ s:=hp.assoc hs (prd_self f);rw [h1.uniq (prd_one p)];exact .no h
  | succ i =>
   rw [List.getElem?_cons_succ] at hg;have hgl:=List.mem_of_getElem? hg
   have hpg:ant p g=false:=h.grp.ant g fun x hx=>hl' x hx g hgl
   have ha:=prd_tim hpg;obtain ⟨v,h1,h2⟩:=ih hl' i hg ha;refine ⟨v,by simpa using h1,?_⟩;have hfg:ant f g=false:=hl f (List.mem_cons_self ..) g (List.mem_cons_of_mem _ hgl);have hb:=prd_tim hfg;have h3:Prd p (timQ f g) s:=hp.assoc hs hb;have h4:Prd (timQ p g) f s:=(hb.comm hfg).assoc' h3 ha;exact .yes h2 h4
theorem Grp.rep {l:List QP} (hl:Com l) {p:QP} (h:Grp l p):∃ b,Rep l b p:=by
 induction h with
 | one=>exact ⟨_,rep_none l⟩
 | mul _ hg hp ih =>
  obtain ⟨b,hb⟩:=ih;obtain ⟨i,hi⟩:=List.getElem?_of_mem hg;obtain ⟨v,_,h2⟩:=hb.flip hl i hi hp;exact ⟨_,h2⟩
theorem Rep.sum {l:List QP} {b:List Bool} {p:QP} (h:Rep l b p) (f:QP->Bool) (h0:f idQ=false) (hf:∀ {p r s:QP},Prd p r s->f s=(f p ^^ f r)) {i:Nat} (hi:∀ j g,l[j]?=some g->f g=decide (i=j)):f p=b.getD i false:=by
 induction h generalizing i with
 | nil=>simpa using h0
 | @no g l b p h ih =>
  cases i with
  | zero =>
   rw [List.getD_cons_zero]
   have:∀ (l:List QP) (b:List Bool) (p:QP),Rep l b p->(∀ g ∈ l,f g=false)->f p=false:=fun l b p k=>by
    induction k with
    | nil=>intro _;exact h0
    | no _ ih=>exact fun k=>ih fun g hg=>k g (List.mem_cons_of_mem _ hg)
    | yes _ hp ih=>exact fun k=>by rw [hf hp,ih fun g hg=>k g (List.mem_cons_of_mem _ hg),k _ (List.mem_cons_self ..)];rfl
   refine this l b p h fun g hg=>?_
   obtain ⟨j,hj⟩:=List.getElem?_of_mem hg;rw [hi (j+1) g (by simpa using hj)]
   simp
  | succ i =>
   rw [List.getD_cons_succ]
   exact ih fun j g hj=>by rw [hi (j+1) g (by simpa using hj)];simp
 | @yes g l b p s h hp ih =>
  cases i with
  | zero =>
   rw [List.getD_cons_zero]
   have:∀ (l:List QP) (b:List Bool) (p:QP),Rep l b p->(∀ g ∈ l,f g=false)->f p=false:=fun l b p k=>by
    induction k with
    | nil=>intro _;exact h0
    | no _ ih=>exact fun k=>ih fun g hg=>k g (List.mem_cons_of_mem _ hg)
    | yes _ hp ih=>exact fun k=>by rw [hf hp,ih fun g hg=>k g (List.mem_cons_of_mem _ hg),k _ (List.mem_cons_self ..)];rfl
   rw [hf hp,this l b p h fun g hg=>by
    obtain ⟨j,hj⟩:=List.getElem?_of_mem hg;rw [hi (j+1) g (by simpa using hj)]
    simp,hi 0 g rfl]
   rfl
  | succ i =>
   rw [List.getD_cons_succ,hf hp,hi 0 g rfl,ih (i:=i) fun j g hj=>by rw [hi (j+1) g (by simpa using hj)];simp]
   simp
structure Dua (l d:List QP):Prop where
 len:d.length=l.length
 at':∀ (i j:Nat) (p r:QP),l[i]?=some p->d[j]?=some r->ant p r=decide (i=j)
theorem Dua.map {l d:List QP} {A:QP->QP} (hA:Aut A) (h:Dua l d):Dua (l.map A) (d.map A):=by
 refine ⟨by rw [List.length_map,List.length_map,h.len],fun i j p r hp hr=>?_⟩;rw [List.getElem?_map,Option.map_eq_some_iff] at hp hr;obtain ⟨p,hp,rfl⟩:=hp;obtain ⟨r,hr,rfl⟩:=hr;rw [hA.ant];exact h.at' i j p r hp hr
theorem Rep.mark {l d:List QP} (hd:Dua l d) {b:List Bool} {p:QP} (h:Rep l b p) {i:Nat} {r:QP} (hr:d[i]?=some r):ant p r=b.getD i false :=
 h.sum (fun p=>ant p r) (ant_one r) (fun hp=>ant_prd hp r) fun j g hg=>by
  rw [hd.at' j i g r hg hr];exact decide_eq_decide.2 eq_comm
theorem ant_letters {p r:QP} (hx:p.x=r.x) (hz:p.z=r.z) (t:QP):ant p t=ant r t:=by unfold ant;rw [hx,hz]
theorem grp_sign {l d:List QP} (hl:Com l) (hd:Dua l d) {p r:QP} (hp:Grp l p) (hr:Grp l r) (hx:p.x=r.x) (hz:p.z=r.z):p=r:=by
 obtain ⟨b,hb⟩:=hp.rep hl;obtain ⟨c,hc⟩:=hr.rep hl
 have e:b=c:=by
  apply List.ext_getElem?
  intro i
  by_cases hi:i<l.length
  ·obtain ⟨t,ht⟩:∃ t,d[i]?=some t:=⟨_,List.getElem?_eq_getElem (by rw [hd.len];exact hi)⟩
   have h1:=hb.mark hd ht;have h2:=hc.mark hd ht;rw [ant_letters hx hz t,h2] at h1
   have lb:i<b.length:=by rw [hb.len];exact hi
   have lc:i<c.length:=by rw [hc.len];exact hi
   rw [List.getElem?_eq_getElem lb,List.getElem?_eq_getElem lc];rw [List.getD_eq_getElem?_getD,List.getD_eq_getElem?_getD,List.getElem?_eq_getElem lb,List.getElem?_eq_getElem lc] at h1;exact congrArg some h1.symm
  ·rw [List.getElem?_eq_none (by rw [hb.len];omega),List.getElem?_eq_none (by rw [hc.len];omega)]
 subst e;exact hb.uniq hc
end Go.Proofs.YtlechhmhmakgpaaGreatDoor
