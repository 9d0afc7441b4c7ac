/-
  The program: measurer: the circuit that measures all generators. In plain lists: what the law counts in a measurer; its basis state; its tape. The program: Measurer. CodeMeasures' walk where the code has a fault, or no room for its measurer.
-/
import Derived.Test.YtlechhmhmakgpaaGreatDoorS22Su
namespace Go.Proofs.YtlechhmhmakgpaaGreatDoor
set_option maxRecDepth 100000
set_option maxHeartbeats 16000000
open Go.RowKit
structure MsM (w0 w:World) (O:Nat) (q b:Int) (a:Option Addr) (n c:Nat) (ops:List Gop):Prop where
 ext:Ext w0 w
 hO:w0.heap.size<=O
 row:CiB w O q b a n c
 ops:OpsO w w0.heap.size (.slice a n c) ops
section
variable {w0 w w':World} {O:Nat} {q b:Int} {a:Option Addr} {n c:Nat} {ops:List Gop}
theorem MsM.on (h:MsM w0 w O q b a n c ops) (k:Ext w w'):MsM w0 w' O q b a n c ops:=⟨h.ext.trans k,h.hO,h.row.ext k,h.ops.ext k⟩
theorem MsM.len (h:MsM w0 w O q b a n c ops):ops.length=n:=by
 obtain ⟨a',c',e,_⟩:=h.ops.at;injection e with _ e2 _;exact e2.symm
theorem MsM.own (h:MsM w0 w O q b a n c ops):∃ xs,w.ownsRow w0.heap.size 52 6 (.slice a n c) ops.length xs/\RowO w xs ops:=h.ops
theorem MsM.grown {w7:World} (h:MsM w0 w O q b a n c ops) {xs:List Value} (ho:w.ownsRow w0.heap.size 52 6 (.slice a n c) ops.length xs) (hg:w.grownBy w7 (Value.slice a n c).ownBlock):CiB w7 O q b a n c/\Ext w0 w7 :=
 ⟨CiB_grownK hg (PtKind ho) h.row,grown_ext h.ext hg (fun k hk=>(own_lt ho k hk).1)⟩
theorem MsM.more {w7:World} (h:MsM w0 w O q b a n c ops) {xs:List Value} (ho:w.ownsRow w0.heap.size 52 6 (.slice a n c) ops.length xs) (hg:w.grownBy w7 (Value.slice a n c).ownBlock) {a7:Option Addr} {n7 c7:Nat} {B:List Gop} (h7:OpsO w7 w0.heap.size (.slice a7 n7 c7) (ops++B)) :
  MsM w0 (w7.setCell ⟨O,2,none⟩ (.slice a7 n7 c7)) O q b a7 n7 c7 (ops++B):=by
 obtain ⟨k1,k2⟩:=h.grown ho hg;have hO:=only1 w7 O 2 (.slice a7 n7 c7);exact ⟨ext_onlyC k2 hO h.hO,h.hO,k1.set2 a7 n7 c7,h7.far k1.row (by decide) (by decide) hO⟩
end
theorem new_cells (w:World) (cs:Array Value) (e:TypeId):∀ j u,cs.toList[j]?=some u->(w.alloc (.cells cs e)).cell? ((⟨w.heap.size,0,none⟩:Addr).add j)=some u:=by
 intro j u hu;rw [Addr.add_lit,cell_of_row _ _ _ _ _ (0,0) (heap_alloc_new w _),Nat.zero_add]
 simpa using hu
theorem mbO_len (g:QP) (N i:Nat):(mbO g N i).length<=2*N+5:=by
 unfold mbO blO;have h:=dn_len g N N
 have h2:(tnO g N).length<=1:=by unfold tnO;split<;>simp
 simp only [List.length_append,List.length_cons,List.length_nil];omega
theorem mgO_len (N:Nat):∀ (l:List QP) (i:Nat),(mgO N l i).length<=l.length*(2*N+5)
 | [],_=>by simp [mgO]
 | g :: r,i=>by
  show (mbO g N i++mgO N r (i+1)).length<=_
  rw [List.length_append,List.length_cons,Nat.succ_mul];have h1:=mbO_len g N i;have h2:=mgO_len N r (i+1);omega
theorem mgO_snoc (N:Nat):∀ (l:List QP) (g:QP) (i:Nat),mgO N (l++[g]) i=mgO N l i++mbO g N (i+l.length)
 | [],g,i=>by show mbO g N i++[]=[]++mbO g N (i+0);rw [List.append_nil,List.nil_append,Nat.add_zero]
 | x :: r,g,i=>by
  show mbO x N i++mgO N (r++[g]) (i+1)=(mbO x N i++mgO N r (i+1))++mbO g N (i+(r.length+1))
  rw [mgO_snoc N r g (i+1),List.append_assoc,show i+1+r.length=i+(r.length+1) by omega]
def MsR (N k:Nat) (ops:List Gop) (w:World) (e:Ending) (w':World):Prop:=∃ (a:Option Addr) (n c:Nat),e=.returned (.agg #[.int .i64 ((N+1:Nat):Int),.int .i64 (k:Int),.slice a n c])/\OpsO w' w.heap.size (.slice a n c) ops/\Ext w w'
theorem app_src {wa:World} {base:Nat} {v:Value} {n:Nat} {xs:List Value} (ho:wa.ownsRow base 52 6 v n xs) {a:Option Addr} {m c:Nat} {ys:List Value} (hl:ys.length=m*6) (hc:∀ ad,a=some ad->∀ j x,ys[j]?=some x->wa.cell? (ad.add j)=some x) (h1:∀ x ∈ ys,x.oneCell'=true) (hn:a=none->m=0) (hlen:n+m<=100000) (hb:base<=wa.heap.size) :
  ∃ v7 w7,(Builtin.append_ #[22,22] 22 #[v,.slice a m c]).run Tryz.prog wa=.ok v7 w7/\w7.ownsRow base 52 6 v7 (n+m) (xs++ys)/\wa.grownBy w7 v.ownBlock:=by
 obtain ⟨i0,hi0,hz0,hz1,hz2⟩:=info_parts op_info
 cases a with
 | none =>
  have h0:=hn rfl;subst h0;have hy:ys=[]:=List.eq_nil_of_length_eq_zero (by omega);subst hy;refine ⟨v,wa,?_,by rw [List.append_nil];exact ho,⟨rfl,rfl,rfl,Nat.le_refl _,fun _ _ _=>rfl⟩⟩
  rcases ho.2 with ⟨rfl,rfl⟩ | ⟨g,cap,cur,rfl,_,_,hnc,_⟩
  ·simp [Builtin.append_,run_underlying Tryz.underlying22,sizeOf,typeInfo,hi0,Builtin.lenOf,Builtin.firstCells]
  ·simp [Builtin.append_,run_underlying Tryz.underlying22,sizeOf,typeInfo,hi0,Builtin.lenOf,Builtin.firstCells,hnc,storeCells]
 | some ad =>
  obtain ⟨v7,w7,h2,h3,h4,_⟩:=run_append_own (P:=Tryz.prog) wa base 22 22 52 i0 (.agg #[.int .i64 0,.int .i64 0,.slice none 0 0,.int .i64 0,.int .i64 0,.slice none 0 0]) 6 80 Tryz.underlying22 hi0 hz0 hz1 hz2 rfl (by decide) v n xs ho ad m c ys hl (hc ad rfl) h1 (by unfold maxLen;omega) (by omega) hb;exact ⟨v7,w7,h2,h3,h4⟩
theorem ms_far {base n O g:Nat} {v x:Value} {xs:List Value} {wa w7:World} (ho:wa.ownsRow base 52 6 v n xs) (hg:wa.grownBy w7 v.ownBlock) {cs:Array Value} {t:TypeId} {fr:Nat × Nat} (hr:wa.heap[g]?=some (.cells cs t fr)) (ht:t≠52) (hne:g≠O):(w7.setCell ⟨O,2,none⟩ x).heap[g]?=some (.cells cs t fr):=by
 have h1:w7.heap[g]?=wa.heap[g]?:=hg.block g (gS.1 hr).1 (fun e=>by
  obtain ⟨_,cs',fr',e2⟩:=PtKind ho g e.symm;rw [hr] at e2
  cases e2
  exact ht rfl)
 exact ((only1 w7 O 2 x).block g hne).trans (h1.trans hr)
theorem measurer_any {N:Nat} (hN:N<=12) (ps:List PK) (ao:Option Addr) (k c:Nat) (mp:Option Nat) (w:World) (h:PsAt w ao k ps) (hk:k<=12) :
  Calls Tryz.prog 65 #[.agg #[.int .i64 (N:Int),.slice ao k c,.map mp]] w fun e w'=>MsR N k (mgO N (ps.map toQ) 0) w e w':=by
 obtain ⟨i0,hi0,hz0,hz1,hz2⟩:=info_parts op_info;have fR:=FrB.new w (N:Int) ao k c mp;obtain ⟨H,hH⟩:∃ H,w.heap.size=H:=⟨_,rfl⟩;obtain ⟨W0,hW0⟩:∃ V,(w.alloc (.cells #[.int .i64 (N:Int),.slice ao k c,.map mp] 115)).alloc (.cells #[.int .i64 0,.int .i64 0,.slice none 0 0] 24)=V:=⟨_,rfl⟩
 have E0:Ext w W0:=by rw [<-hW0];exact (ext_al w _).trans (ext_al _ _)
 have fW:FrB W0 H (N:Int) ao k c mp:=by rw [<-hW0,<-hH];exact fR.ext (ext_al _ _)
 have s1:(w.alloc (.cells #[.int .i64 (N:Int),.slice ao k c,.map mp] 115)).heap.size=H+1:=by rw [<-hH];simp
 have rW:CiB W0 (H+1) 0 0 none 0 0:=by rw [<-hW0,<-s1];exact CiB.ext ⟨heap_alloc_new _ _⟩ (Ext.refl _)
 have sW:W0.heap.size=H+2:=by rw [<-hW0,World.size_alloc,s1]
 obtain ⟨W2,hW2⟩:∃ V,W0.alloc (.cells #[.int .i64 3,.int .i64 0,.slice none 0 0,.int .i64 (N:Int),.int .i64 0,.slice none 0 0] 52)=V:=⟨_,rfl⟩
 have E2:Ext W0 W2:=by rw [<-hW2];exact ext_al _ _
 have oW:OpBx W2 (H+2) 3 0 none 0 0 (N:Int) 0 none 0 0:=by rw [<-hW2,<-sW];exact opbx_new W0 _ _ _ _ _ _ _ _ _ _
 have s2:W2.heap.size=H+3:=by rw [<-hW2,World.size_alloc,sW]
 obtain ⟨W3,hW3⟩:∃ V,W2.alloc (.cells #[.int .i64 ((N+1:Nat):Int),.int .i64 (k:Int),.slice none 0 0] 24)=V:=⟨_,rfl⟩
 have E3:Ext W2 W3:=by rw [<-hW3];exact ext_al _ _
 have M3:MsM W2 W3 (H+3) ((N+1:Nat):Int) (k:Int) none 0 0 []:=⟨E3,by omega,by rw [<-hW3,<-s2];exact CiB.ext ⟨heap_alloc_new _ _⟩ (Ext.refl _),OpsO.nil _ _⟩
 have wn1:IntKind.i64.wrap ((N:Int)+1)=((N+1:Nat):Int):=by rw [IntKind.wrap_i64];omega
 have HE0:=Lh E0;have HE2:=Lh E2;have HW0:=Lh hW0;have HW2:=Lh hW2;have HW3:=Lh hW3;have HH:=Lh hH;have HsW:=Lh sW;have Hs2:=Lh s2;have HF:=Lh (fW.ext E2);have HR:=Lh (rW.ext E2);have HO:=Lh oW;have HM3:=Lh M3;have HP:=Lh ((h.ext E0).ext E2);have Hk:=Lh hk;have HN:=Lh hN;have Hlk:=Lh (show ps.length=k from h.1);have v0:=fW.x0;have v1:=fW.x1;obtain ⟨n1,hn1⟩:∃ n1,N+1=n1:=⟨_,rfl⟩;rw [hn1] at wn1 HW3 HM3;have Hn1:=Lh hn1;clear h hN hk fR hH hW0 E0 fW s1 rW sW hW2 E2 oW s2 hW3 E3 M3 hn1
 go_enter Tryz.func65,Tryz.ntmps65
 go_upto_region 1 with fail
 rw [HW0.out,HH.out]
 go_upto_region 3 with fail
 rw [HsW.out,HW2.out];have v0:=HF.out.x0;have v1:=HF.out.x1
 go_upto_region 4 with fail
 rw [Hs2.out,HW3.out];have v0:=(HF.out.ext HM3.out.ext).x0;have v1:=(HF.out.ext HM3.out.ext).x1;clear wn1
 go_wp2_with fail
 clear v0 v1
 go_loopg [6,7,21] k (fun kk s6 s7 s21 wr=>∃ (i:Nat) (a:Option Addr) (n c:Nat),s21=.int .i64 (i:Int)/\i<=k/\k-i=kk/\MsM W2 wr (H+3) (n1:Int) (k:Int) a n c (mgO N ((ps.take i).map toQ) 0))
 case atStart=>exact ⟨0,none,0,0,rfl,Nat.zero_le _,rfl,HM3.out⟩
 case round =>
  obtain ⟨i,a,n,c',rfl,hi,hkk,hM⟩:=hrel;have Hkk:=Lh hkk;have HM:=Lh hM
  by_cases hik:i=k
  ·have q1:¬ (i:Int)<(k:Int):=by omega
   have hst:ps.take i=ps:=List.take_of_length_le (by have:=Hlk.out;omega);rw [hst] at HM;have y0:=HM.out.row.x0;have y1:=HM.out.row.x1;have y2:=HM.out.row.x2;have hRr:=(HR.out.ext HM.out.ext);have z0:=hRr.x0;have z1:=hRr.x1;have z2:=hRr.x2;have f0:=hRr.f 0;have f1:=hRr.f 1;have f2:=hRr.f 2;have HRr:=Lh hRr;clear hkk hi hM hst hik hRr;have hr1:=((HRr.out.set0 (n1:Int)).set1 (k:Int)).set2 a n c';have o3:=((only1 wr (H+1) 0 (.int .i64 (n1:Int))).setCell 1 (.int .i64 (k:Int))).setCell 2 (.slice a n c');have Hr1:=Lh hr1;have HOz:=Lh ((HM.out.ops.far HRr.out.row (by decide) (by decide) o3).mono (HE0.out.trans HE2.out).size);have HEz:=Lh (ext_onlyC ((HE0.out.trans HE2.out).trans HM.out.ext) o3 (by have:=HH.out;omega));clear hr1 o3
   go_wp2_with fail
   refine bodyPost_ret (v:=.agg #[.int .i64 (n1:Int),.int .i64 (k:Int),.slice a n c']) ?_ rfl ⟨a,n,c',by rw [Hn1.out],HOz.out,HEz.out⟩;exact results_cell_row rfl _ _ (H+1) _ _ _ _ rfl Hr1.out.row Tryz.underlying24 rfl (by kernel_rfl)
  have hlt:i<k:=by omega
  have q1:(i:Int)<(k:Int):=by omega
  have q0:(0:Int)<=(i:Int):=by omega
  have wk:IntKind.i64.wrap ((i:Int)+1)=((i+1:Nat):Int):=by rw [IntKind.wrap_i64];have:=Hk.out;omega
  obtain ⟨p,hp⟩:∃ p,ps[i]?=some p:=⟨_,List.getElem?_eq_getElem (by have:=Hlk.out;omega)⟩
  have Htk:=Lh (show mgO N ((ps.take (i+1)).map toQ) 0=mgO N ((ps.take i).map toQ) 0++mbO (toQ p) N i by
   rw [List.take_add_one,hp,Option.toList_some,List.map_append,List.map_cons,List.map_nil,mgO_snoc,List.length_map,List.length_take,Nat.min_eq_left (by have:=Hlk.out;omega),Nat.zero_add])
  have hlr:=HP.out.ext hM.ext;obtain ⟨b,o,hao,hb,hcells⟩:=hlr.2.resolve_left (by omega);obtain ⟨c0,c1,c2⟩:=hcells i p hp;subst hao;obtain ⟨W5,hW5⟩:∃ V,wr.alloc (.cells #[.int .u16 (p.x:Int),.int .u16 (p.z:Int),.bool p.m] 103)=V:=⟨_,rfl⟩;obtain ⟨G,hG⟩:∃ G,wr.heap.size=G:=⟨_,rfl⟩
  have E5:Ext wr W5:=by rw [<-hW5];exact ext_al _ _
  have HPq:=Lh (show PuB W5 G p.x p.z p.m by rw [<-hW5,<-hG];exact PuB.new wr _ _ _);have HMlt:=Lh (show H+3<wr.heap.size from hM.row.lt);have HM5:=Lh (hM.on E5);have HW5:=Lh hW5;have HG:=Lh hG
  have Hgl:=Lh (show (mgO N ((ps.take i).map toQ) 0).length<=348 by
   have h1:=mgO_len N ((ps.take i).map toQ) 0;rw [List.length_map,List.length_take] at h1;have h2:=Nat.mul_le_mul (show min i ps.length<=12 by have:=Hk.out;omega) (show 2*N+5<=29 by have:=HN.out;omega)
   omega)
  obtain ⟨A,hA⟩:∃ A,mgO N ((ps.take i).map toQ) 0=A:=⟨_,rfl⟩;rw [hA] at HM5 Htk Hgl;have HDn:=Lh (fun wx=>doneOn_any (m:=p.m) HN.out p.hx p.hz wx);have Hlt:=Lh hlt;clear hkk hi hM hik hlt hp hlr hb hcells hW5 hG E5 hA HM
  go_upto_region 7 with fail
  rw [HW5.out,HG.out];have Hlk:=Lh HM5.out.len;have HGO:=Lh (show G≠H+3 by have:=HG.out;have:=HM5.out.ext.size;have:=Hs2.out;have h3:=HMlt.out;omega);have hox:=HO.out.ext HM5.out.ext;have k0:=hox.x0;have k1:=hox.x1;have k2:=hox.x2;have k3:=hox.x3;have k4:=hox.x4;have k5:=hox.x5;have y2:=HM5.out.row.x2;obtain ⟨xs,ho,hro⟩:=HM5.out.own;have ea:=ext_al W5 (.cells #[.int .i64 3,.int .i64 0,.slice none 0 0,.int .i64 (N:Int),.int .i64 0,.slice none 0 0] 52);obtain ⟨v7,w7,hrun,h7,hg7⟩:=app_src (wa:=W5.alloc (.cells #[.int .i64 3,.int .i64 0,.slice none 0 0,.int .i64 (N:Int),.int .i64 0,.slice none 0 0] 52)) (ho.alloc _) (a:=some ⟨W5.heap.size,0,none⟩) (m:=1) (c:=1) (ys:=[.int .i64 3,.int .i64 0,.slice none 0 0,.int .i64 (N:Int),.int .i64 0,.slice none 0 0]) rfl (fun ad e=>by cases e;exact new_op _ _ _ _ _ _ _ _ _ _ _ _) (one_op _ _ _ _ _ _ _ _ _ _) (fun e=>by cases e) (by have:=Hgl.out;omega) (Nat.le_trans HM5.out.ext.size ea.size);have hm5:=HM5.out.on ea;have hg5:=OpsO.grow (ho.alloc _) (hro.ext ea) (RowO.one (g:=wH N) (nilO _ rfl rfl)) rfl h7 hg7;obtain ⟨g7,c7,rfl⟩:=slice_of_own h7 (by omega);have hm7:=hm5.more (ho.alloc _) hg7 hg5;have hc7:=(hm5.grown (ho.alloc _) hg7).1;have hq7:=ms_far (x:=.slice (some ⟨g7,0,none⟩) (A.length+1) c7) (ho.alloc _) hg7 ((HPq.out.ext ea).row) (by decide) HGO.out;obtain ⟨U7,hU7⟩:∃ V,w7.setCell ⟨H+3,2,none⟩ (.slice (some ⟨g7,0,none⟩) (A.length+1) c7)=V:=⟨_,rfl⟩;rw [hU7] at hm7 hq7;have y7:=hc7.x2;have f7:=hc7.f 2;have Hrun:=Lh hrun;have HM7:=Lh hm7;have HQ7:=Lh (show PuB U7 G p.x p.z p.m from ⟨hq7⟩);have HU7:=Lh hU7;clear hox ho hro ea hrun h7 hg7 hm5 hg5 hm7 hc7 hq7 hU7
  go_upto_region 8 with (at_builtin;refine Lib.wpList_append_run _ rfl _ _ _ _ rfl _ _ rfl rfl _ _ Hrun.out ?_)
  rw [HU7.out];clear y7 f7 HU7 Hrun k0 k1 k2 k3 k4 k5 y2;have HSj:=Lh (fun (w':World) (hx:Ext U7 w')=>(show w'.cell? ⟨H+3,2,none⟩=some (.slice (some ⟨g7,0,none⟩) (A.length+1) c7)/\w'.cell? ⟨G,0,none⟩=some (.int .u16 (p.x:Int))/\w'.cell? ⟨G,1,none⟩=some (.int .u16 (p.z:Int))/\w'.cell? ⟨G,2,none⟩=some (.bool p.m) from ⟨(HM7.out.on hx).row.x2,(HQ7.out.ext hx).x0,(HQ7.out.ext hx).x1,(HQ7.out.ext hx).x2⟩));have G_:Ext U7 U7.drew:=Below.drew (Ext.refl _);refine wp_region_K 7 (fun w'=>w'.cell? ⟨H+3,2,none⟩=some (.slice (some ⟨g7,0,none⟩) (A.length+1) c7)/\w'.cell? ⟨G,0,none⟩=some (.int .u16 (p.x:Int))/\w'.cell? ⟨G,1,none⟩=some (.int .u16 (p.z:Int))/\w'.cell? ⟨G,2,none⟩=some (.bool p.m)) (by kernel_rfl) ?_
  show anyK _ _ _ _ _ _ 8 #[false,false,false,false,false,false,false,false] _ _
  refine kT 0 8 (v:=?_) rfl (Or.inl ⟨by rfl,?_⟩) (HSj.out _ G_) ?_;rotate_left 1
  ·intro w hSw
   go_simp
   try with_reducible rfl
  show anyK _ _ _ _ _ _ _ _ (Act.put _ (some 32) _) _
  simp only [Act.put,sx0,sx1,sx2];refine kT 1 8 (v:=?_) rfl (Or.inl ⟨by rfl,?_⟩) (HSj.out _ G_) ?_;rotate_left 1
  ·intro w hSw
   go_simp
   try with_reducible rfl
  show anyK _ _ _ _ _ _ _ _ (Act.put _ (some 33) _) _
  simp only [Act.put,sx0,sx1,sx2];refine kT 2 8 (v:=?_) rfl (Or.inl ⟨by rfl,?_⟩) (HSj.out _ G_) ?_;rotate_left 1
  ·intro w hSw
   go_simp
   try with_reducible rfl
  show anyK _ _ _ _ _ _ _ _ (Act.put _ (some 34) _) _
  simp only [Act.put,sx0,sx1,sx2];refine kT 3 8 (v:=?_) rfl (Or.inl ⟨by rfl,?_⟩) (HSj.out _ G_) ?_;rotate_left 1
  ·intro w hSw
   go_simp
   try with_reducible rfl
  show anyK _ _ _ _ _ _ _ _ (Act.put _ (some 35) _) _
  simp only [Act.put,sx0,sx1,sx2];refine anyK_one (i:=4) (by kernel_rfl) rfl (fun Kk hKk=>?_)
  go_simp
  (go_at_call 107;refine (HDn.out _).mono ?_;rintro e w2 ⟨v2,rfl,ho2,x2⟩)
  obtain ⟨D,hD⟩:∃ D,dnO ⟨p.x,p.z,p.m⟩ N N++tnO ⟨p.x,p.z,p.m⟩ N=D:=⟨_,rfl⟩;rw [hD] at ho2;obtain ⟨a2,c2,rfl,_,_,_⟩:=ho2.at;have Hho2:=Lh ho2;have E2:=G_.trans x2;have HE2:=Lh E2;have HD:=Lh hD
  have Hdl:=Lh (show D.length<=25 by
   rw [<-hD,List.length_append];have h1:=dn_len ⟨p.x,p.z,p.m⟩ N N
   have h2:(tnO ⟨p.x,p.z,p.m⟩ N).length<=1:=by unfold tnO;split<;>simp
   have:=HN.out;omega)
  clear ho2 x2 hD E2
  go_wp2_with fail
  refine hKk.out _ _ (fun _=>HSj.out _ HE2.out) ?_;clear hKk Kk;simp only [sx0,sx1,sx2];obtain ⟨_,hn2,ys,hl2,hc2,h12,hr2⟩:=opsO_src Hho2.out;have hm2:=HM7.out.on HE2.out;obtain ⟨xs,ho,hro⟩:=hm2.own;rw [show (A++[wH N]).length=A.length+1 by simp] at ho;obtain ⟨v8,w8,hrun,h8,hg8⟩:=app_src ho hl2 hc2 h12 (fun e=>(hn2 e).1) (by have:=Hgl.out;have:=Hdl.out;omega) hm2.ext.size
  have ho':w2.ownsRow W2.heap.size 52 6 (.slice (some ⟨g7,0,none⟩) (A.length+1) c7) (A++[wH N]).length xs:=by rw [show (A++[wH N]).length=A.length+1 by simp];exact ho
  have hg9:=OpsO.grow ho' hro hr2 rfl (by rw [show (A++[wH N]).length=A.length+1 by simp];exact h8) hg8;obtain ⟨g8,c8,rfl⟩:=slice_of_own h8 (by omega);have hm8:=hm2.more ho' hg8 hg9;have hc8:=(hm2.grown ho' hg8).1;have hq8:=ms_far (x:=.slice (some ⟨g8,0,none⟩) (A.length+1+D.length) c8) ho' hg8 ((HQ7.out.ext HE2.out).row) (by decide) HGO.out
  have hq7:PuB w8 G p.x p.z p.m:=⟨(hg8.block G (HQ7.out.ext HE2.out).lt (fun e=>by
   obtain ⟨_,cs',fr',e2⟩:=PtKind ho' G e.symm;rw [(HQ7.out.ext HE2.out).row] at e2
   cases e2)).trans (HQ7.out.ext HE2.out).row⟩
  refine anyK_one (i:=5) (by kernel_rfl) rfl (fun Kk hKk=>?_);refine stepK_append rfl _ _ 22 rfl (.slice (some ⟨g7,0,none⟩) (A.length+1) c7) (.slice a2 D.length c2) _ rfl rfl hrun ?_;have HSk:=Lh (fun (w':World) (hx:Ext w8 w')=>(show w'.cell? ⟨H+3,2,none⟩=some (.slice (some ⟨g7,0,none⟩) (A.length+1) c7)/\w'.cell? ⟨G,0,none⟩=some (.int .u16 (p.x:Int))/\w'.cell? ⟨G,1,none⟩=some (.int .u16 (p.z:Int))/\w'.cell? ⟨G,2,none⟩=some (.bool p.m) from ⟨(hc8.ext hx).x2,(hq7.ext hx).x0,(hq7.ext hx).x1,(hq7.ext hx).x2⟩));refine hKk.out _ _ (fun _=>HSk.out _ (Ext.refl _)) ?_;clear hKk Kk
  show anyK _ _ _ _ _ _ _ _ (Act.put _ (some 37) _) _
  simp only [Act.put,sx0,sx1,sx2];refine kT 6 8 (v:=?_) rfl (Or.inl ⟨by rfl,?_⟩) (HSk.out _ (Ext.refl _)) ?_;rotate_left 1
  ·intro w hSw
   go_simp
   try with_reducible rfl
  show anyK _ _ _ _ _ _ _ _ (Act.put _ (some 38) _) _
  simp only [Act.put,sx0,sx1,sx2];refine anyK_one (i:=7) (by kernel_rfl) rfl (fun Kk hKk=>?_);refine stepK_store rfl rfl _ _ rfl (H+3) 2 (some ⟨g8,0,none⟩) (A.length+1+D.length) c8 _ rfl rfl hc8.x2 (hc8.f 2) ?_;refine hKk.out _ _ (fun h=>Bool.noConfusion (show true=false from h)) ?_;clear hKk Kk;refine anyK_done (by kernel_rfl) ?_ _;obtain ⟨U8,hU8⟩:∃ V,w8.setCell ⟨H+3,2,none⟩ (.slice (some ⟨g8,0,none⟩) (A.length+1+D.length) c8)=V:=⟨_,rfl⟩;rw [hU8] at hm8 hq8 ⊢;have HM8:=Lh hm8;clear hn2 hl2 hc2 h12 hr2 hm2 ho hro hrun h8 hg8 ho' hg9 hm8 hc8 hq8 hq7 HSj HSk HM7 HQ7 Hho2 HE2 G_ hU8
  have hlen8:(A++[wH N]++D).length=A.length+1+D.length:=by simp;omega
  obtain ⟨L8,hL8⟩:∃ L,A++[wH N]++D=L:=⟨_,rfl⟩;obtain ⟨n8,hn8⟩:∃ x,A.length+1+D.length=x:=⟨_,rfl⟩;rw [hL8,hn8] at HM8 hlen8;have Hl8:=Lh (show n8<=400 by rw [<-hn8];have:=Hgl.out;have:=Hdl.out;omega)
  have Hfin:=Lh (show mgO N ((ps.take (i+1)).map toQ) 0=L8++[wH N,wM N i,wR N] by
   rw [Htk.out,<-hL8,<-HD.out]
   show A++(([wH N]++(dnO (toQ p) N N++tnO (toQ p) N)++[wH N])++[wM N i,wR N])=A++[wH N]++(dnO (toQ p) N N++tnO (toQ p) N)++[wH N,wM N i,wR N]
   simp only [List.append_assoc,List.cons_append,List.nil_append])
  have hox:=HO.out.ext HM8.out.ext;have k0:=hox.x0;have k1:=hox.x1;have k2:=hox.x2;have k3:=hox.x3;have k4:=hox.x4;have k5:=hox.x5;have y2:=HM8.out.row.x2;obtain ⟨xs,ho,hro⟩:=HM8.out.own;rw [hlen8] at ho;obtain ⟨cs,hcs⟩:∃ cs:Array Value,#[.int .i64 3,.int .i64 0,.slice none 0 0,.int .i64 (N:Int),.int .i64 0,.slice none 0 0,.int .i64 5,.int .i64 0,.slice none 0 0,.int .i64 (N:Int),.int .i64 (i:Int),.slice none 0 0,.int .i64 6,.int .i64 0,.slice none 0 0,.int .i64 (N:Int),.int .i64 0,.slice none 0 0]=cs:=⟨_,rfl⟩
  have hcl:cs.toList=[.int .i64 3,.int .i64 0,.slice none 0 0,.int .i64 (N:Int),.int .i64 0,.slice none 0 0]++([.int .i64 5,.int .i64 0,.slice none 0 0,.int .i64 (N:Int),.int .i64 (i:Int),.slice none 0 0]++[.int .i64 6,.int .i64 0,.slice none 0 0,.int .i64 (N:Int),.int .i64 0,.slice none 0 0]):=by rw [<-hcs];rfl
  have ea:=ext_al U8 (.cells cs 52);have hnc:=new_cells U8 cs 52
  have h1s:∀ x ∈ cs.toList,x.oneCell'=true:=by
   rw [hcl];intro x hx
   rcases List.mem_append.1 hx with hx | hx
   ·exact one_op _ _ _ _ _ _ _ _ _ _ x hx
   ·rcases List.mem_append.1 hx with hx | hx
    ·exact one_op _ _ _ _ _ _ _ _ _ _ x hx
    ·exact one_op _ _ _ _ _ _ _ _ _ _ x hx
  have hr3:RowO (U8.alloc (.cells cs 52)) cs.toList [wH N,wM N i,wR N]:=by
   rw [hcl];exact RowO.append (A:=[wH N]) (RowO.one (g:=wH N) (nilO _ rfl rfl)) (RowO.append (A:=[wM N i]) (RowO.one (g:=wM N i) (nilO _ rfl rfl)) (RowO.one (g:=wR N) (nilO _ rfl rfl)) rfl) rfl
  obtain ⟨v9,w9,hrun,h9,hg9⟩:=app_src (wa:=U8.alloc (.cells cs 52)) (ho.alloc _) (a:=some ⟨U8.heap.size,0,none⟩) (m:=3) (c:=3) (ys:=cs.toList) (by rw [hcl];rfl) (fun ad e=>by cases e;exact hnc) h1s (fun e=>by cases e) (by have:=Hl8.out;omega) (Nat.le_trans HM8.out.ext.size ea.size);have hm8:=HM8.out.on ea
  have ho':(U8.alloc (.cells cs 52)).ownsRow W2.heap.size 52 6 (.slice (some ⟨g8,0,none⟩) n8 c8) L8.length xs:=by rw [hlen8];exact ho.alloc _
  have hgg:=OpsO.grow ho' (hro.ext ea) hr3 rfl (by rw [hlen8];exact h9) hg9;obtain ⟨g9,c9,rfl⟩:=slice_of_own h9 (by omega);have hm9:=hm8.more ho' hg9 hgg;have hc9:=(hm8.grown ho' hg9).1;have y9:=hc9.x2;have f9:=hc9.f 2;have Hrun:=Lh hrun;have HM9:=Lh hm9;subst hcs;clear hox ho hro ea hnc h1s hr3 hcl hrun h9 hg9 hm8 ho' hgg hm9 hc9 hlen8 hL8 hn8
  go_wp2_with (at_builtin;refine Lib.wpList_append_run _ rfl _ _ _ _ rfl _ _ rfl rfl _ _ Hrun.out ?_)
  go_roundg (k-(i+1))
  case measure=>have:=Hkk.out;have:=Hlt.out;omega
  case rel=>exact ⟨i+1,_,_,_,rfl,Hlt.out,rfl,by rw [Hfin.out];exact HM9.out⟩
theorem dq_mok {N n:Nat} (hN:N<n) (g:QP) {q:Nat} (hq:q<N):∀ o ∈ dqO g N q,MOk n o/\o.cnd=[]:=fun o ho=>by
 unfold dqO at ho
 rcases List.mem_append.1 ho with h | h
 ·split at h
  ·rw [List.mem_singleton.1 h];exact ⟨.cp (by omega) hN (by omega) [],rfl⟩
  ·cases h
 ·split at h
  ·rw [List.mem_singleton.1 h];exact ⟨.cx (by omega) hN (by omega) [],rfl⟩
  ·cases h
theorem dn_mok {N n:Nat} (hN:N<n) (g:QP):∀ k,k<=N->∀ o ∈ dnO g N k,MOk n o/\o.cnd=[]
 | 0,_,o,ho=>by cases ho
 | k+1,hk,o,ho=>by
  rcases List.mem_append.1 ho with h | h
  ·exact dn_mok hN g k (by omega) o h
  ·exact dq_mok hN g (by omega) o h
theorem tn_mok {N n:Nat} (hN:N<n) (g:QP):∀ o ∈ tnO g N,MOk n o/\o.cnd=[]:=fun o ho=>by
 unfold tnO at ho
 split at ho
 ·cases ho
 ·rename_i h0
  rw [List.mem_singleton.1 ho]
  have e:((tuN g:Nat):Int)=((4*(tuN g / 4):Nat):Int):=by unfold tuN;split<;>omega
  rw [e];refine ⟨.p hN ?_ (by unfold tuN;omega) [],rfl⟩
  have h4:tuN g % 4=0:=by unfold tuN;split<;>omega
  omega
theorem bl_mok {N:Nat} (g:QP):∀ o ∈ blO g N,MOk (N+1) o/\o.cnd=[]:=fun o ho=>by
 unfold blO at ho;rw [List.mem_append,List.mem_append,List.mem_append] at ho
 rcases ho with (h | h | h) | h
 ·rw [List.mem_singleton.1 h];exact ⟨.h (by omega) [],rfl⟩
 ·exact dn_mok (by omega) g N (Nat.le_refl N) o h
 ·exact tn_mok (by omega) g o h
 ·rw [List.mem_singleton.1 h];exact ⟨.h (by omega) [],rfl⟩
theorem mg_q {N nb:Nat}:∀ (gens:List QP) (i:Nat),i+gens.length<=nb->∀ o ∈ mgO N gens i,QOk (N+1) nb o
 | [],_,_,o,ho=>by cases ho
 | g :: r,i,hi,o,ho=>by
  rw [List.length_cons] at hi;have ho:o ∈ mbO g N i++mgO N r (i+1):=ho
  rcases List.mem_append.1 ho with h | h
  ·unfold mbO at h
   rcases List.mem_append.1 h with h | h
   ·exact .g (bl_mok g o h).1 (bl_mok g o h).2
   ·simp only [List.mem_cons,List.not_mem_nil,or_false] at h
    rcases h with rfl | rfl
    ·exact .m (by omega) (by omega)
    ·exact .r (by omega)
  ·exact mg_q r (i+1) (by omega) o h
def MtL (N:Nat):List Gop->Nat->Prop
 | [],_=>True
 | o :: r,m=>o.cnd=[]/\((o.kind<5/\MtL N r m)\/(m % 2=0/\o=wM N (m / 2)/\MtL N r (m+1))\/(m % 2=1/\o=wR N/\MtL N r (m+1)))
def cM:List Gop->Nat
 | []=>0
 | o :: r=>(if 5<=o.kind then 1 else 0)+cM r
theorem mt_gates {N m:Nat} {r:List Gop}:∀ {A:List Gop},(∀ o ∈ A,o.kind<5/\o.cnd=[])->MtL N r m->MtL N (A++r) m/\cM (A++r)=cM r
 | [],_,h=>⟨h,rfl⟩
 | o :: A,hA,h=>by
  obtain ⟨h1,h2⟩:=mt_gates (A:=A) (fun x hx=>hA x (List.mem_cons_of_mem _ hx)) h;obtain ⟨k1,k2⟩:=hA o (by simp);refine ⟨⟨k2,Or.inl ⟨k1,h1⟩⟩,?_⟩
  show (if 5<=o.kind then 1 else 0)+cM (A++r)=cM r
  rw [if_neg (by omega),h2,Nat.zero_add]
theorem mt_mb {N i:Nat} (g:QP) {r:List Gop} (h:MtL N r (2*(i+1))):MtL N (mbO g N i++r) (2*i)/\cM (mbO g N i++r)=2+cM r:=by
 unfold mbO;rw [List.append_assoc]
 have h2:MtL N ([wM N i,wR N]++r) (2*i):=by
  refine ⟨rfl,Or.inr (Or.inl ⟨by omega,by rw [show 2*i / 2=i by omega],?_⟩)⟩;refine ⟨rfl,Or.inr (Or.inr ⟨by omega,rfl,?_⟩)⟩;exact h
 obtain ⟨k1,k2⟩:=mt_gates (A:=blO g N) (fun o ho=>⟨(bl_mok g o ho).1.n.kind.2,(bl_mok g o ho).2⟩) h2;refine ⟨k1,k2.trans ?_⟩
 show (if (5:Int)<=5 then 1 else 0)+((if (5:Int)<=6 then 1 else 0)+cM r)=2+cM r
 rw [if_pos (by decide),if_pos (by decide)];omega
theorem mt_mg {N:Nat}:∀ (gens:List QP) (i:Nat),MtL N (mgO N gens i) (2*i)/\cM (mgO N gens i)=2*gens.length
 | [],_=>⟨trivial,rfl⟩
 | g :: r,i=>by
  obtain ⟨h1,h2⟩:=mt_mg r (i+1);obtain ⟨k1,k2⟩:=mt_mb (i:=i) g h1;refine ⟨k1,k2.trans ?_⟩;rw [h2,List.length_cons];omega
theorem mt_at {N m i:Nat} {ops:List Gop} {o:Gop} (h:MtL N (ops.drop i) m) (ho:ops[i]?=some o):o.cnd=[]/\((o.kind<5/\MtL N (ops.drop (i+1)) m/\cM (ops.drop i)=cM (ops.drop (i+1)))\/(m % 2=0/\o=wM N (m / 2)/\MtL N (ops.drop (i+1)) (m+1)/\cM (ops.drop i)=cM (ops.drop (i+1))+1)\/(m % 2=1/\o=wR N/\MtL N (ops.drop (i+1)) (m+1)/\cM (ops.drop i)=cM (ops.drop (i+1))+1)):=by
 obtain ⟨hi,he⟩:=List.getElem?_eq_some_iff.1 ho;have e:=List.drop_eq_getElem_cons hi;rw [he] at e;rw [e] at h ⊢;obtain ⟨h1,h2⟩:=h;have hc:cM (o :: ops.drop (i+1))=(if 5<=o.kind then 1 else 0)+cM (ops.drop (i+1)):=rfl;refine ⟨h1,?_⟩
 rcases h2 with ⟨a,b⟩ | ⟨a,rfl,b⟩ | ⟨a,rfl,b⟩
 ·exact Or.inl ⟨a,b,by rw [hc,if_neg (by omega),Nat.zero_add]⟩
 ·exact Or.inr (Or.inl ⟨a,rfl,b,by rw [hc,if_pos (show (5:Int)<=(wM N (m / 2)).kind from (by decide:(5:Int)<=5))];omega⟩)
 ·exact Or.inr (Or.inr ⟨a,rfl,b,by rw [hc,if_pos (show (5:Int)<=(wR N).kind from (by decide:(5:Int)<=6))];omega⟩)
def lowN (x:Int) (N:Nat):Nat:=(x % ((2 ^ N:Nat):Int)).toNat
theorem lowN_lt (x:Int) (N:Nat):lowN x N<2 ^ N:=by
 unfold lowN
 have hp:(0:Int)<((2 ^ N:Nat):Int):=by have:=Nat.pow_pos (n:=N) (show 0<2 by decide);omega
 have h1:=Int.emod_nonneg x (show ((2 ^ N:Nat):Int)≠0 by omega);have h2:=Int.emod_lt_of_pos x hp;omega
theorem and_low (x:Int) {N:Nat} (hN:N<=16):bits .and .i64 x ((2 ^ N-1:Nat):Int)=(lowN x N:Int):=by
 show IntKind.i64.wrap ((BitVec.ofInt 64 x &&& BitVec.ofInt 64 ((2 ^ N-1:Nat):Int)).toNat:Int)=_
 have hp:2 ^ N<=65536:=Nat.le_trans (Nat.pow_le_pow_right (by decide) hN) (by decide);have hp0:=Nat.pow_pos (n:=N) (show 0<2 by decide)
 have h2:(BitVec.ofInt 64 ((2 ^ N-1:Nat):Int)).toNat=2 ^ N-1:=by
  rw [BitVec.toNat_ofInt];omega
 have h1:((BitVec.ofInt 64 x).toNat:Int)=x % 18446744073709551616:=by rw [BitVec.toNat_ofInt];omega
 rw [BitVec.toNat_and,h2,Nat.and_two_pow_sub_one_eq_mod]
 have hd:((2 ^ N:Nat):Int) ∣ 18446744073709551616:=by
  refine ⟨((2 ^ (64-N):Nat):Int),?_⟩;rw [<-Int.natCast_mul,<-Nat.pow_add,show N+(64-N)=64 by omega]
  decide
 have h3:(((BitVec.ofInt 64 x).toNat % 2 ^ N:Nat):Int)=x % ((2 ^ N:Nat):Int):=by
  rw [Int.natCast_emod,h1,Int.emod_emod_of_dvd _ hd]
 have h4:=Int.emod_nonneg x (show ((2 ^ N:Nat):Int)≠0 by omega);have h5:=Int.emod_lt_of_pos x (show (0:Int)<((2 ^ N:Nat):Int) by omega);rw [h3,IntKind.wrap_i64];unfold lowN;omega
theorem free_low (v:Nat) {g k:Nat} (h:k<g):v / 2 ^ g*2 ^ g / 2 ^ k % 2=0:=by
 have e:2 ^ g=2 ^ (g-k)*2 ^ k:=by rw [<-Nat.pow_add];congr 1;omega
 have e2:2 ^ (g-k)=2*2 ^ (g-k-1):=by rw [<-Nat.pow_succ'];congr 1;omega
 have e3:v / 2 ^ g*2 ^ g / 2 ^ k=v / 2 ^ g*2 ^ (g-k):=by
  rw [e,<-Nat.mul_assoc,Nat.mul_div_cancel _ (Nat.pow_pos (by decide))]
 rw [e3,e2,<-Nat.mul_assoc,Nat.mul_comm _ 2,Nat.mul_assoc];omega
def tpL:List Int->List Int
 | []=>[]
 | x :: r=>x :: x :: tpL r
theorem tp_tw:∀ ss:List Bool,tpL (ss.map oV)=twT ss
 | []=>rfl
 | s :: r=>by show oV s :: oV s :: tpL (r.map oV)=_;rw [tp_tw r];rfl
theorem tp_snoc:∀ (l:List Int) (x:Int),tpL (l++[x])=tpL l++[x,x]
 | [],x=>rfl
 | y :: r,x=>by show y :: y :: tpL (r++[x])=y :: y :: (tpL r++[x,x]);rw [tp_snoc r x]
theorem Measurer_bad (N:Int) (gens:List (List UInt8)) (ao:Option Addr) (k c:Nat) (w:World) (hG:StrsAt w ao k gens) (hT:∀ T ∈ gens,T.length<=9223372036854775807) (hk9:k<=9223372036854775806) (hz:¬ (ccF N gens).1=0) :
  Calls Tryz.prog 26 #[.agg #[.int .i64 N,.slice ao k c]] w fun e w'=>e=.returned (.tuple #[.agg #[.int .i64 0,.int .i64 0,.slice none 0 0],.agg #[.int .i64 (ccF N gens).1,.int .i64 (ccF N gens).2]])/\Ext w w':=by
 obtain ⟨H,hH⟩:∃ H,w.heap.size=H:=⟨_,rfl⟩;obtain ⟨W0,hW0⟩:∃ W0,((w.alloc (.cells #[.int .i64 N,.slice ao k c] 59)).alloc (.cells #[.int .i64 0,.int .i64 0,.slice none 0 0] 24)).alloc (.cells #[.int .i64 0,.int .i64 0] 29)=W0:=⟨_,rfl⟩
 have E0:Ext w W0:=by rw [<-hW0];exact ((ext_al w _).trans (ext_al _ _)).trans (ext_al _ _)
 have C0:CoB W0 H N ao k c:=by rw [<-hW0,<-hH];exact ((CoB.new w _ _ _ _).ext (ext_al _ _)).ext (ext_al _ _)
 have s1:(w.alloc (.cells #[.int .i64 N,.slice ao k c] 59)).heap.size=H+1:=by rw [<-hH];simp
 have s2:((w.alloc (.cells #[.int .i64 N,.slice ao k c] 59)).alloc (.cells #[.int .i64 0,.int .i64 0,.slice none 0 0] 24)).heap.size=H+2:=by rw [World.size_alloc,s1]
 have R0:CiB W0 (H+1) 0 0 none 0 0:=by rw [<-hW0,<-s1];exact CiB.ext ⟨heap_alloc_new _ _⟩ (ext_al _ _)
 have bF:FtB W0 (H+2) 0 0:=⟨by rw [<-hW0,<-s2];exact heap_alloc_new _ _⟩;have HRd:=Lh (read_any N gens ao k c W0 (hG.ext E0) hT hk9);unfold RdP at HRd;rw [rd_cc] at HRd;obtain ⟨F,hF⟩:∃ F,ccF N gens=F:=⟨_,rfl⟩;obtain ⟨F0,F1⟩:=F;have Hcc:=Lh hF;have Hlk:=Lh (show gens.length=k from hG.1);rw [hF] at HRd hz ⊢;simp only at HRd hz ⊢;have HE0:=Lh E0;have HFt:=Lh bF;have HRt:=Lh R0;have HC:=Lh C0;have HW0:=Lh hW0;have HH:=Lh hH;have Hz:=Lh hz;have HwH:=Lh (show w.heap.size<=H+1/\w.heap.size<=H+2 by omega);have v0:=C0.x0;have v1:=C0.x1;clear hG hT hk9 hH hW0 E0 C0 bF R0 hF s1 s2 hz
 go_enter Tryz.func26,Tryz.ntmps26
 go_upto_region 1 with fail
 rw [HW0.out,HH.out]
 go_wp2_with fail
 refine HRd.out.mono ?_;rintro e w1 ⟨N',a,n,c',mp,rfl,hx1,hrd⟩;obtain ⟨U,hU⟩:∃ U,(w1.alloc (.cells #[.int .i64 N',.slice a n c',.map mp] 115)).alloc (.cells #[.int .i64 F0,.int .i64 F1] 29)=U:=⟨_,rfl⟩;obtain ⟨K,hK⟩:∃ K,w1.heap.size=K:=⟨_,rfl⟩
 have E1U:Ext w1 U:=by rw [<-hU];exact (ext_al _ _).trans (ext_al _ _)
 have EU:Ext W0 U:=hx1.trans E1U
 have fU:FrB U K N' a n c' mp:=by rw [<-hU,<-hK];exact (FrB.new _ _ _ _ _ _).ext (ext_al _ _)
 have bU:FtB U (K+1) F0 F1:=⟨by
  have:=heap_alloc_new (w1.alloc (.cells #[.int .i64 N',.slice a n c',.map mp] 115)) (.cells #[.int .i64 F0,.int .i64 F1] 29);rw [<-hU,<-hK]
  simpa using this⟩
 have hKH:H+2<K:=by rw [<-hK];exact Nat.lt_of_lt_of_le HFt.out.lt hx1.size
 have HKH:=Lh hKH;have HU:=Lh hU;have HK:=Lh hK;have HEU:=Lh EU;have Hrd:=Lh hrd;have HE1U:=Lh E1U
 have e1:¬ K=H:=by omega
 have e2:¬ H=K:=by omega
 have e3:¬ K=H+1:=by omega
 have e4:¬ H+1=K:=by omega
 have e5:¬ K=H+2:=by omega
 have e6:¬ H+2=K:=by omega
 clear hKH;have u0:=bU.x0;have u1:=bU.x1;have f0:=fU.x0;have f1:=fU.x1;have f2:=fU.x2;have d0:=(HC.out.ext EU).x0;have Hbz:=Lh (HFt.out.ext EU);have Hrz:=Lh (HRt.out.ext EU);have HEy:=Lh (HE0.out.trans EU);have HbU:=Lh bU;have HfU:=Lh fU;clear hx1 hU hK EU bU fU v0 v1 HRd hrd E1U
 go_upto_region 2 with fail
 rw [HU.out,HK.out];clear HU HK;have hcb:=bf Hz.out
 have hcb2:((F0:Int) != 0)=true:=by rw [bne,hcb];rfl
 have HSj:=Lh (fun (w':World) (hx:Ext U w')=>(show w'.cell? ⟨H,0,none⟩=some (.int .i64 N)/\w'.cell? ⟨K,0,none⟩=some (.int .i64 N')/\w'.cell? ⟨K,1,none⟩=some (.slice a n c')/\w'.cell? ⟨K,2,none⟩=some (.map mp)/\w'.cell? ⟨K+1,0,none⟩=some (.int .i64 F0)/\w'.cell? ⟨K+1,1,none⟩=some (.int .i64 F1) from ⟨cell_ext d0 hx,cell_ext f0 hx,cell_ext f1 hx,cell_ext f2 hx,cell_ext u0 hx,cell_ext u1 hx⟩))
 have HSl:=Lh (fun (wy:World) (w':World) (hy:Ext U wy) (hO:Only (H+1) wy w')=>(show w'.cell? ⟨H,0,none⟩=some (.int .i64 N)/\w'.cell? ⟨K,0,none⟩=some (.int .i64 N')/\w'.cell? ⟨K,1,none⟩=some (.slice a n c')/\w'.cell? ⟨K,2,none⟩=some (.map mp)/\w'.cell? ⟨K+1,0,none⟩=some (.int .i64 F0)/\w'.cell? ⟨K+1,1,none⟩=some (.int .i64 F1) from (by
  have hc:∀ g o',g≠H+1->w'.cell? ⟨g,o',none⟩=wy.cell? ⟨g,o',none⟩:=fun g o' hg=>World.cell?_of_block (a:=⟨g,o',none⟩) (hO.block g hg)
  have hK:=HKH.out
  exact ⟨(hc H 0 (by omega)).trans (cell_ext d0 hy),(hc K 0 e3).trans (cell_ext f0 hy),(hc K 1 e3).trans (cell_ext f1 hy),(hc K 2 e3).trans (cell_ext f2 hy),(hc (K+1) 0 (by omega)).trans (cell_ext u0 hy),(hc (K+1) 1 (by omega)).trans (cell_ext u1 hy)⟩)))
 go_upto_region 3 with fail
 have G_:Ext U U.drew:=Below.drew (Ext.refl _);refine wp_region_K 3 (fun w'=>w'.cell? ⟨H,0,none⟩=some (.int .i64 N)/\w'.cell? ⟨K,0,none⟩=some (.int .i64 N')/\w'.cell? ⟨K,1,none⟩=some (.slice a n c')/\w'.cell? ⟨K,2,none⟩=some (.map mp)/\w'.cell? ⟨K+1,0,none⟩=some (.int .i64 F0)/\w'.cell? ⟨K+1,1,none⟩=some (.int .i64 F1)) (by kernel_rfl) ?_
 show anyK _ _ _ _ _ _ 4 #[false,false,false,false] _ _
 refine kT 0 4 (v:=?_) rfl (Or.inl ⟨by rfl,?_⟩) (HSj.out _ G_) ?_;rotate_left 1
 ·intro w hSw
  go_simp
  try with_reducible rfl
 show anyK _ _ _ _ _ _ _ _ (Act.put _ (some 14) _) _
 simp only [Act.put,sx0,sx1,sx2];refine kT 1 4 (v:=?_) rfl (Or.inl ⟨by rfl,?_⟩) (HSj.out _ G_) ?_;rotate_left 1
 ·intro w hSw
  go_simp
  try with_reducible rfl
 show anyK _ _ _ _ _ _ _ _ (Act.put _ (some 15) _) _
 simp only [Act.put,sx0,sx1,sx2];refine anyK_one (i:=2) (by kernel_rfl) rfl (fun Kk hKk=>?_);refine stepK_storeRowC rfl rfl 24 _ _ rfl (H+1) #[.int .i64 0,.int .i64 0,.slice none 0 0] rfl rfl 24 _ (Hrz.out.ext G_).row cic_info rfl (by kernel_rfl) ?_;have on1:=setRow_onlyC U.drew (H+1) #[.int .i64 0,.int .i64 0,.slice none 0 0];refine hKk.out _ _ (fun _=>HSl.out _ _ G_ on1) ?_;clear hKk Kk;simp only [sx0,sx1,sx2];have b2:=(on1.block (H+2) (by omega)).trans (Hbz.out.ext G_).row;refine anyK_one (i:=3) (by kernel_rfl) rfl (fun Kk hKk=>?_);refine stepK_storeRowC rfl rfl 29 _ _ rfl (H+2) #[.int .i64 F0,.int .i64 F1] rfl rfl 29 _ b2 ftc_info rfl (by kernel_rfl) ?_;refine hKk.out _ _ (fun h=>Bool.noConfusion (show true=false from h)) ?_;clear hKk Kk;simp only [sx0,sx1,sx2];refine anyK_done (by kernel_rfl) ?_ _;have on2:=setRow_onlyC (U.drew.setRow (H+1) #[.int .i64 0,.int .i64 0,.slice none 0 0]) (H+2) #[.int .i64 F0,.int .i64 F1];have Hr1:=Lh ((on2.block (H+1) (by omega)).trans (setRow_heap U.drew (H+1) _ #[.int .i64 0,.int .i64 0,.slice none 0 0] _ _ (Hrz.out.ext G_).row));have Hr2:=Lh (setRow_heap (U.drew.setRow (H+1) #[.int .i64 0,.int .i64 0,.slice none 0 0]) (H+2) _ #[.int .i64 F0,.int .i64 F1] _ _ b2);have HEz:=Lh (ext_onlyC (ext_onlyC (HEy.out.trans G_) on1 HwH.out.1) on2 HwH.out.2);generalize ((U.drew.setRow (H+1) #[.int .i64 0,.int .i64 0,.slice none 0 0]).setRow (H+2) #[.int .i64 F0,.int .i64 F1])=WF at *;clear on1 on2 b2 HSj HSl f0 f1 f2 u0 u1 d0
 go_wp2_with fail
 refine bodyPost_ret (v:=.tuple #[.agg #[.int .i64 0,.int .i64 0,.slice none 0 0],.agg #[.int .i64 F0,.int .i64 F1]]) ?_ rfl ⟨rfl,HEz.out⟩;exact results_two2 rfl _ _ (H+1) (H+2) _ _ _ _ _ _ _ _ rfl Hr1.out Tryz.underlying24 rfl cic_info rfl Hr2.out Tryz.underlying29 rfl ftc_info
def MeR (n:Nat) (gens:List (List UInt8)) (w:World) (e:Ending) (w':World):Prop:=∃ (a:Option Addr) (m c:Nat),e=.returned (.tuple #[.agg #[.int .i64 ((n+1:Nat):Int),.int .i64 (gens.length:Int),.slice a m c],.agg #[.int .i64 0,.int .i64 0]])/\m<=c/\c<=9223372036854775807/\OpsAt w' a m (mgO n (gsQ n gens) 0)/\Ext w w'
theorem Measurer_room (N:Int) (gens:List (List UInt8)) (ao:Option Addr) (k c:Nat) (w:World) (hG:StrsAt w ao k gens) (hT:∀ T ∈ gens,T.length<=9223372036854775807) (hk9:k<=9223372036854775806) (hz:(ccF N gens).1=0) (hN:12<N+1) :
  Calls Tryz.prog 26 #[.agg #[.int .i64 N,.slice ao k c]] w fun e w'=>e=.returned (.tuple #[.agg #[.int .i64 0,.int .i64 0,.slice none 0 0],.agg #[.int .i64 36,.int .i64 0]])/\Ext w w':=by
 obtain ⟨H,hH⟩:∃ H,w.heap.size=H:=⟨_,rfl⟩;obtain ⟨W0,hW0⟩:∃ W0,((w.alloc (.cells #[.int .i64 N,.slice ao k c] 59)).alloc (.cells #[.int .i64 0,.int .i64 0,.slice none 0 0] 24)).alloc (.cells #[.int .i64 0,.int .i64 0] 29)=W0:=⟨_,rfl⟩
 have E0:Ext w W0:=by rw [<-hW0];exact ((ext_al w _).trans (ext_al _ _)).trans (ext_al _ _)
 have C0:CoB W0 H N ao k c:=by rw [<-hW0,<-hH];exact ((CoB.new w _ _ _ _).ext (ext_al _ _)).ext (ext_al _ _)
 have s1:(w.alloc (.cells #[.int .i64 N,.slice ao k c] 59)).heap.size=H+1:=by rw [<-hH];simp
 have s2:((w.alloc (.cells #[.int .i64 N,.slice ao k c] 59)).alloc (.cells #[.int .i64 0,.int .i64 0,.slice none 0 0] 24)).heap.size=H+2:=by rw [World.size_alloc,s1]
 have R0:CiB W0 (H+1) 0 0 none 0 0:=by rw [<-hW0,<-s1];exact CiB.ext ⟨heap_alloc_new _ _⟩ (ext_al _ _)
 have bF:FtB W0 (H+2) 0 0:=⟨by rw [<-hW0,<-s2];exact heap_alloc_new _ _⟩;have HRd:=Lh (read_any N gens ao k c W0 (hG.ext E0) hT hk9);unfold RdP at HRd;rw [rd_cc] at HRd;obtain ⟨F,hF⟩:∃ F,ccF N gens=F:=⟨_,rfl⟩;obtain ⟨F0,F1⟩:=F;have Hcc:=Lh hF;have HNN:=Lh hN;have Hlk:=Lh (show gens.length=k from hG.1);rw [hF] at HRd hz;simp only at HRd hz;have HE0:=Lh E0;have HFt:=Lh bF;have HRt:=Lh R0;have HC:=Lh C0;have HW0:=Lh hW0;have HH:=Lh hH;have Hz:=Lh hz;have HwH:=Lh (show w.heap.size<=H+1/\w.heap.size<=H+2 by omega);have v0:=C0.x0;have v1:=C0.x1;clear hG hT hk9 hN hH hW0 E0 C0 bF R0 hF s1 s2 hz
 go_enter Tryz.func26,Tryz.ntmps26
 go_upto_region 1 with fail
 rw [HW0.out,HH.out]
 go_wp2_with fail
 refine HRd.out.mono ?_;rintro e w1 ⟨N',a,n,c',mp,rfl,hx1,hrd⟩;obtain ⟨U,hU⟩:∃ U,(w1.alloc (.cells #[.int .i64 N',.slice a n c',.map mp] 115)).alloc (.cells #[.int .i64 F0,.int .i64 F1] 29)=U:=⟨_,rfl⟩;obtain ⟨K,hK⟩:∃ K,w1.heap.size=K:=⟨_,rfl⟩
 have E1U:Ext w1 U:=by rw [<-hU];exact (ext_al _ _).trans (ext_al _ _)
 have EU:Ext W0 U:=hx1.trans E1U
 have fU:FrB U K N' a n c' mp:=by rw [<-hU,<-hK];exact (FrB.new _ _ _ _ _ _).ext (ext_al _ _)
 have bU:FtB U (K+1) F0 F1:=⟨by
  have:=heap_alloc_new (w1.alloc (.cells #[.int .i64 N',.slice a n c',.map mp] 115)) (.cells #[.int .i64 F0,.int .i64 F1] 29);rw [<-hU,<-hK]
  simpa using this⟩
 have hKH:H+2<K:=by rw [<-hK];exact Nat.lt_of_lt_of_le HFt.out.lt hx1.size
 have HKH:=Lh hKH;have HU:=Lh hU;have HK:=Lh hK;have HEU:=Lh EU;have Hrd:=Lh hrd;have HE1U:=Lh E1U
 have e1:¬ K=H:=by omega
 have e2:¬ H=K:=by omega
 have e3:¬ K=H+1:=by omega
 have e4:¬ H+1=K:=by omega
 have e5:¬ K=H+2:=by omega
 have e6:¬ H+2=K:=by omega
 clear hKH;have u0:=bU.x0;have u1:=bU.x1;have f0:=fU.x0;have f1:=fU.x1;have f2:=fU.x2;have d0:=(HC.out.ext EU).x0;have Hbz:=Lh (HFt.out.ext EU);have Hrz:=Lh (HRt.out.ext EU);have HEy:=Lh (HE0.out.trans EU);have HbU:=Lh bU;have HfU:=Lh fU;clear hx1 hU hK EU bU fU v0 v1 HRd hrd E1U
 go_upto_region 2 with fail
 rw [HU.out,HK.out];clear HU HK;obtain ⟨hN1,hN12,hkN,hall⟩:=cc_zero (N:=N) (gens:=gens) (by rw [Hcc.out];exact Hz.out);obtain ⟨nn,hnn⟩:∃ nn:Nat,N=(nn:Int):=⟨N.toNat,by omega⟩;subst hnn;rw [Int.toNat_natCast] at Hrd;have HN:=Lh (show 1<=nn/\nn<=12/\gens.length<=nn by omega)
 have hcz:(ccF (nn:Int) gens).1=0:=by rw [Hcc.out];exact Hz.out
 obtain ⟨hN',hps,hac,hcm,B,keys,hmp,hGr,hSm⟩:=Hrd.out Hz.out;subst hN';have Hps:=Lh (hps.ext HE1U.out);have Han:=Lh (show gens.length=n by have:=hps.1;unfold psL at this;rw [List.length_map] at this;exact this);have Hco:=Lh (And.intro hac hcm);clear hN1 hN12 hkN hall hcz hps hac hcm hGr hSm hmp Hrd;have hcb:=bt' Hz.out
 have wn1:IntKind.i64.wrap ((nn:Int)+1)=((nn+1:Nat):Int):=by rw [IntKind.wrap_i64];have:=HN.out;omega
 obtain ⟨n1,hn1⟩:∃ n1,nn+1=n1:=⟨_,rfl⟩;rw [hn1] at wn1;have Hn1:=Lh hn1;clear hn1
 have q12:(12:Int)<(n1:Int):=by have:=HNN.out;have:=Hn1.out;omega
 have r0:=Hrz.out.x0;have r1:=Hrz.out.x1;have r2:=Hrz.out.x2;have g0:=Hrz.out.f 0;have g1:=Hrz.out.f 1;have g2:=Hrz.out.f 2;have t0:=Hbz.out.x0;have t1:=Hbz.out.x1;have h0:=Hbz.out.f 0;have h1:=Hbz.out.f 1;have hr1:=((Hrz.out.set0 0).set1 0).set2 none 0 0;have o3:=((only1 U (H+1) 0 (.int .i64 0)).setCell 1 (.int .i64 0)).setCell 2 (.slice none 0 0);have hf5:=(Hbz.out.kept o3 (by omega)).put 36 0;have o5:=(only1 (((U.setCell ⟨H+1,0,none⟩ (.int .i64 0)).setCell ⟨H+1,1,none⟩ (.int .i64 0)).setCell ⟨H+1,2,none⟩ (.slice none 0 0)) (H+2) 0 (.int .i64 36)).setCell 1 (.int .i64 0);have Hr1:=Lh (hr1.kept o5 (by omega));have Hf5:=Lh hf5;have HEz:=Lh (ext_onlyC (ext_onlyC HEy.out o3 HwH.out.1) o5 HwH.out.2);clear hr1 o3 hf5 o5
 go_wp2_with fail
 refine bodyPost_ret (v:=.tuple #[.agg #[.int .i64 0,.int .i64 0,.slice none 0 0],.agg #[.int .i64 36,.int .i64 0]]) ?_ rfl ⟨rfl,HEz.out⟩;exact results_two2 rfl _ _ (H+1) (H+2) _ _ _ _ _ _ _ _ rfl Hr1.out.row Tryz.underlying24 rfl cic_info rfl Hf5.out.row Tryz.underlying29 rfl ftc_info
theorem Measurer_good (N:Int) (gens:List (List UInt8)) (ao:Option Addr) (k c:Nat) (w:World) (hG:StrsAt w ao k gens) (hT:∀ T ∈ gens,T.length<=9223372036854775807) (hk9:k<=9223372036854775806) (hz:(ccF N gens).1=0) (hN:N+1<=12) :
  Calls Tryz.prog 26 #[.agg #[.int .i64 N,.slice ao k c]] w fun e w'=>MeR N.toNat gens w e w':=by
 obtain ⟨H,hH⟩:∃ H,w.heap.size=H:=⟨_,rfl⟩;obtain ⟨W0,hW0⟩:∃ W0,((w.alloc (.cells #[.int .i64 N,.slice ao k c] 59)).alloc (.cells #[.int .i64 0,.int .i64 0,.slice none 0 0] 24)).alloc (.cells #[.int .i64 0,.int .i64 0] 29)=W0:=⟨_,rfl⟩
 have E0:Ext w W0:=by rw [<-hW0];exact ((ext_al w _).trans (ext_al _ _)).trans (ext_al _ _)
 have C0:CoB W0 H N ao k c:=by rw [<-hW0,<-hH];exact ((CoB.new w _ _ _ _).ext (ext_al _ _)).ext (ext_al _ _)
 have s1:(w.alloc (.cells #[.int .i64 N,.slice ao k c] 59)).heap.size=H+1:=by rw [<-hH];simp
 have s2:((w.alloc (.cells #[.int .i64 N,.slice ao k c] 59)).alloc (.cells #[.int .i64 0,.int .i64 0,.slice none 0 0] 24)).heap.size=H+2:=by rw [World.size_alloc,s1]
 have R0:CiB W0 (H+1) 0 0 none 0 0:=by rw [<-hW0,<-s1];exact CiB.ext ⟨heap_alloc_new _ _⟩ (ext_al _ _)
 have bF:FtB W0 (H+2) 0 0:=⟨by rw [<-hW0,<-s2];exact heap_alloc_new _ _⟩;have HRd:=Lh (read_any N gens ao k c W0 (hG.ext E0) hT hk9);unfold RdP at HRd;rw [rd_cc] at HRd;obtain ⟨F,hF⟩:∃ F,ccF N gens=F:=⟨_,rfl⟩;obtain ⟨F0,F1⟩:=F;have Hcc:=Lh hF;have HNN:=Lh hN;have Hlk:=Lh (show gens.length=k from hG.1);rw [hF] at HRd hz;simp only at HRd hz;have HE0:=Lh E0;have HFt:=Lh bF;have HRt:=Lh R0;have HC:=Lh C0;have HW0:=Lh hW0;have HH:=Lh hH;have Hz:=Lh hz;have HwH:=Lh (show w.heap.size<=H+1/\w.heap.size<=H+2 by omega);have v0:=C0.x0;have v1:=C0.x1;clear hG hT hk9 hN hH hW0 E0 C0 bF R0 hF s1 s2 hz
 go_enter Tryz.func26,Tryz.ntmps26
 go_upto_region 1 with fail
 rw [HW0.out,HH.out]
 go_wp2_with fail
 refine HRd.out.mono ?_;rintro e w1 ⟨N',a,n,c',mp,rfl,hx1,hrd⟩;obtain ⟨U,hU⟩:∃ U,(w1.alloc (.cells #[.int .i64 N',.slice a n c',.map mp] 115)).alloc (.cells #[.int .i64 F0,.int .i64 F1] 29)=U:=⟨_,rfl⟩;obtain ⟨K,hK⟩:∃ K,w1.heap.size=K:=⟨_,rfl⟩
 have E1U:Ext w1 U:=by rw [<-hU];exact (ext_al _ _).trans (ext_al _ _)
 have EU:Ext W0 U:=hx1.trans E1U
 have fU:FrB U K N' a n c' mp:=by rw [<-hU,<-hK];exact (FrB.new _ _ _ _ _ _).ext (ext_al _ _)
 have bU:FtB U (K+1) F0 F1:=⟨by
  have:=heap_alloc_new (w1.alloc (.cells #[.int .i64 N',.slice a n c',.map mp] 115)) (.cells #[.int .i64 F0,.int .i64 F1] 29);rw [<-hU,<-hK]
  simpa using this⟩
 have hKH:H+2<K:=by rw [<-hK];exact Nat.lt_of_lt_of_le HFt.out.lt hx1.size
 have HKH:=Lh hKH;have HU:=Lh hU;have HK:=Lh hK;have HEU:=Lh EU;have Hrd:=Lh hrd;have HE1U:=Lh E1U
 have e1:¬ K=H:=by omega
 have e2:¬ H=K:=by omega
 have e3:¬ K=H+1:=by omega
 have e4:¬ H+1=K:=by omega
 have e5:¬ K=H+2:=by omega
 have e6:¬ H+2=K:=by omega
 clear hKH;have u0:=bU.x0;have u1:=bU.x1;have f0:=fU.x0;have f1:=fU.x1;have f2:=fU.x2;have d0:=(HC.out.ext EU).x0;have Hbz:=Lh (HFt.out.ext EU);have Hrz:=Lh (HRt.out.ext EU);have HEy:=Lh (HE0.out.trans EU);have HbU:=Lh bU;have HfU:=Lh fU;clear hx1 hU hK EU bU fU v0 v1 HRd hrd E1U
 go_upto_region 2 with fail
 rw [HU.out,HK.out];clear HU HK;obtain ⟨hN1,hN12,hkN,hall⟩:=cc_zero (N:=N) (gens:=gens) (by rw [Hcc.out];exact Hz.out);obtain ⟨nn,hnn⟩:∃ nn:Nat,N=(nn:Int):=⟨N.toNat,by omega⟩;subst hnn;rw [Int.toNat_natCast] at Hrd;have HN:=Lh (show 1<=nn/\nn<=12/\gens.length<=nn by omega)
 have hcz:(ccF (nn:Int) gens).1=0:=by rw [Hcc.out];exact Hz.out
 obtain ⟨hN',hps,hac,hcm,B,keys,hmp,hGr,hSm⟩:=Hrd.out Hz.out;subst hN';have Hps:=Lh (hps.ext HE1U.out);have Han:=Lh (show gens.length=n by have:=hps.1;unfold psL at this;rw [List.length_map] at this;exact this);have Hco:=Lh (And.intro hac hcm);clear hN1 hN12 hkN hall hcz hps hac hcm hGr hSm hmp Hrd;have hcb:=bt' Hz.out
 have wn1:IntKind.i64.wrap ((nn:Int)+1)=((nn+1:Nat):Int):=by rw [IntKind.wrap_i64];have:=HN.out;omega
 obtain ⟨n1,hn1⟩:∃ n1,nn+1=n1:=⟨_,rfl⟩;rw [hn1] at wn1;have Hn1:=Lh hn1;clear hn1
 have q12:¬ (12:Int)<(n1:Int):=by have:=HNN.out;have:=Hn1.out;omega
 have HMs:=measurer_any (N:=nn) (by have:=HN.out;omega) (psL nn gens) a n c' mp U Hps.out (by have:=HN.out;have:=Han.out;omega);unfold MsR at HMs;rw [Hn1.out] at HMs;have HMs:=Lh HMs
 go_wp2_with fail
 refine HMs.out.mono ?_;rintro e w2 ⟨a2,m2,c2,rfl,ho2,x2⟩;have bR:=Hrz.out.ext x2;have bF:=Hbz.out.ext x2;have r0:=bR.x0;have r1:=bR.x1;have r2:=bR.x2;have g0:=bR.f 0;have g1:=bR.f 1;have g2:=bR.f 2;have t0:=bF.x0;have t1:=bF.x1;have h0:=bF.f 0;have h1:=bF.f 1;have hr1:=((bR.set0 (n1:Int)).set1 (n:Int)).set2 a2 m2 c2;have o3:=((only1 w2 (H+1) 0 (.int .i64 (n1:Int))).setCell 1 (.int .i64 (n:Int))).setCell 2 (.slice a2 m2 c2);have hf5:=(bF.kept o3 (by omega)).put 0 0;have o5:=(only1 (((w2.setCell ⟨H+1,0,none⟩ (.int .i64 (n1:Int))).setCell ⟨H+1,1,none⟩ (.int .i64 (n:Int))).setCell ⟨H+1,2,none⟩ (.slice a2 m2 c2)) (H+2) 0 (.int .i64 0)).setCell 1 (.int .i64 0);have HO:=Lh ((ho2.far bR.row (by decide) (by decide) o3).far (bF.kept o3 (by omega)).row (by decide) (by decide) o5);have Hr1:=Lh (hr1.kept o5 (by omega));have Hf5:=Lh hf5;have HEz:=Lh (ext_onlyC (ext_onlyC (HEy.out.trans x2) o3 HwH.out.1) o5 HwH.out.2)
 have hwr:(nn:Int)+1=(n1:Int):=by have:=Hn1.out;omega
 clear hr1 o3 hf5 o5 bR bF ho2 x2
 go_wp2_with fail
 obtain ⟨_,_,e7,q2,q3,q4⟩:=HO.out.at;injection e7 with e71 e72 e73;subst e71;subst e73;refine bodyPost_ret (v:=.tuple #[.agg #[.int .i64 (n1:Int),.int .i64 (n:Int),.slice a2 m2 c2],.agg #[.int .i64 0,.int .i64 0]]) ?_ rfl ⟨a2,m2,c2,by rw [Int.toNat_natCast,Hn1.out,Han.out],by rw [<-e72] at q2;exact q2,q3,by rw [<-e72] at q4;exact q4,HEz.out⟩;exact results_two2 rfl _ _ (H+1) (H+2) _ _ _ _ _ _ _ _ rfl Hr1.out.row Tryz.underlying24 rfl cic_info rfl Hf5.out.row Tryz.underlying29 rfl ftc_info
theorem NormalFaultB_any {n nb:Nat} (qb bi:Int) (ops:List Gop) (hok:∀ o ∈ ops,QOk n nb o) (ao:Option Addr) (m c:Nat) (w:World) (h:OpsAt w ao m ops) (hm:m<=10000) :
  Calls Tryz.prog 21 #[.agg #[.int .i64 qb,.int .i64 bi,.slice ao m c]] w fun e w'=>e=.returned (.agg #[.int .i64 0,.int .i64 0])/\Ext w w':=by
 obtain ⟨W0,hW0⟩:∃ V,(w.alloc (.cells #[.int .i64 qb,.int .i64 bi,.slice ao m c] 24)).alloc (.cells #[.int .i64 0,.int .i64 0] 29)=V:=⟨_,rfl⟩;obtain ⟨H,hH⟩:∃ H,w.heap.size=H:=⟨_,rfl⟩
 have E0:Ext w W0:=by rw [<-hW0];exact (ext_al _ _).trans (ext_al _ _)
 have bC:CiB W0 H qb bi ao m c:=by rw [<-hW0,<-hH];exact CiB.ext ⟨heap_alloc_new w _⟩ (ext_al _ _)
 have bF:FtB W0 (H+1) 0 0:=⟨by
  have:=heap_alloc_new (w.alloc (.cells #[.int .i64 qb,.int .i64 bi,.slice ao m c] 24)) (.cells #[.int .i64 0,.int .i64 0] 29);rw [<-hW0,<-hH]
  simpa using this⟩
 have Hh:=Lh (h.ext E0);have HF:=Lh bF;have HC:=Lh bC;have HE0:=Lh E0;have HW0:=Lh hW0;have HH:=Lh hH;have Hok:=Lh hok;have Hm:=Lh hm;have Hl:=Lh h.1;clear h bF bC E0 hW0 hH hok hm
 go_enter Tryz.func21,Tryz.ntmps21
 go_upto_region 1 with fail
 rw [HW0.out,HH.out]
 go_wp2_with fail
 go_loopg [3] m (fun kk s3 wr=>∃ i:Nat,s3=.int .i64 (i:Int)/\i<=m/\m-i=kk/\Ext W0 wr)
 case atStart=>exact ⟨0,rfl,Nat.zero_le _,rfl,Ext.refl _⟩
 case round =>
  obtain ⟨i,rfl,hi,hkk,hE⟩:=hrel;have Hkk:=Lh hkk;have HE:=Lh hE;have hc2:=(HC.out.ext hE).x2
  by_cases him:i=m
  ·have p1:¬ (i:Int)<(m:Int):=by omega
   have bz:=HF.out.ext hE;have x0':=bz.x0;have x1':=bz.x1;have g0':=bz.f 0;have g1':=bz.f 1;clear hkk hE hi him bz
   go_wp2_with fail
   exact bodyPost_ret (v:=.agg #[.int .i64 0,.int .i64 0]) (by simp [results,Tryz.results21,go_sem,x0',x1']) rfl ⟨rfl,put2x (HE0.out.trans HE.out) (by have:=HH.out;omega) _ _⟩
  have hlt:i<m:=by omega
  have p1:(i:Int)<(m:Int):=by omega
  have p0:(0:Int)<=(i:Int):=by omega
  have wi:IntKind.i64.wrap ((i:Int)+1)=((i+1:Nat):Int):=by rw [IntKind.wrap_i64];have:=Hm.out;omega
  obtain ⟨b,o,rfl⟩:=Hh.out.some_of (by omega);obtain ⟨g,hg⟩:∃ g,ops[i]?=some g:=⟨_,List.getElem?_eq_getElem (by rw [Hl.out];exact hlt)⟩;obtain ⟨a1,n1,c1,a2,n2,c2,e0,e1,e2,e3,e4,e5,hol⟩:=(Hh.out.ext hE).at i g hg;have HN:=Lh (fun wx=>normalOpQ_any (Hok.out g (List.mem_of_getElem? hg)) a1 n1 c1 a2 n2 c2 wx hol.i1.1);have Hlt:=Lh hlt;clear hkk hE hi him hlt hg hol
  go_wp2_with fail
  refine (HN.out _).mono ?_;rintro e w3 ⟨rfl,x3⟩;have H3:=Lh (HE.out.trans x3);clear x3 e0 e1 e2 e3 e4 e5 hc2
  go_wp2_with fail
  go_roundg (m-(i+1))
  case measure=>have:=Hkk.out;have:=Hlt.out;omega
  case rel=>exact ⟨i+1,rfl,Hlt.out,rfl,H3.out⟩
theorem measures_bad (N:Int) (gens:List (List UInt8)) (ao:Option Addr) (k cp:Nat) (T:List UInt8) (x:Int) (w:World) (hG:StrsAt w ao k gens) (hT:∀ T ∈ gens,T.length<=9223372036854775807) (hk9:k*16<=140737488355328) (hnil:ao=none->cp=0) (hL:LtL w) (hz:¬ (ccF N gens).1=0) :
  Calls Tryz.prog 6 #[.agg #[.int .i64 N,.slice ao k cp],.string ⟨T.toArray⟩,.int .i64 x] w fun e w'=>e=.returned (.bool true)/\Ext w w':=by
 have hk6:k<=9223372036854775806:=by omega
 obtain ⟨H,hH⟩:∃ H,w.heap.size=H:=⟨_,rfl⟩;obtain ⟨W0,hW0⟩:∃ W0,w.alloc (.cells #[.int .i64 N,.slice ao k cp] 59)=W0:=⟨_,rfl⟩
 have E0:Ext w W0:=by rw [<-hW0];exact ext_al w _
 have C0:CoB W0 H N ao k cp:=by rw [<-hW0,<-hH];exact CoB.new w _ _ _ _
 have HCp:=Lh (copyCode_any N gens ao k cp W0 (hG.ext E0) hk9 hnil);have HE0:=Lh E0;have HD:=Lh C0;have HW0:=Lh hW0;have HH:=Lh hH;have Hh:=Lh (hG.ext E0);have HL:=Lh (hL.ext E0);have HT:=Lh hT;have Hk6:=Lh hk6;have Hz:=Lh hz;have v0:=C0.x0;have v1:=C0.x1;clear hG hT hk9 hnil hL E0 C0 hW0 hH hk6
 go_enter Tryz.func6,Tryz.ntmps6
 go_upto_region 1 with fail
 rw [HW0.out,HH.out]
 go_wp2_with fail
 refine HCp.out.mono ?_;rintro e w1 ⟨a1,c1,rfl,⟨hL1,hc1,hm1⟩,hx1⟩;have HEn:=Lh (Measurer_bad N gens a1 k c1 w1 hL1 HT.out Hk6.out Hz.out);have HCk:=Lh (fun wx (hx:Ext W0 wx)=>CheckCode_any N gens ao k cp wx (Hh.out.ext hx) HT.out Hk6.out);obtain ⟨F,hF⟩:∃ F,ccF N gens=F:=⟨_,rfl⟩;obtain ⟨F0,F1⟩:=F;rw [hF] at HEn HCk hz;simp only at HEn HCk hz;have Hx1:=Lh hx1;have Hnz:=Lh hz;clear hL1 hc1 hm1 hx1 hF hz HCp
 go_wp2_with fail
 refine HEn.out.mono ?_;rintro e w2 ⟨rfl,x2⟩;have Hx2:=Lh (Hx1.out.trans x2);clear x2 HEn
 go_upto_region 2 with fail
 obtain ⟨K,hK⟩:∃ K,w2.heap.size=K:=⟨_,rfl⟩;obtain ⟨W2,hW2⟩:∃ V,(w2.alloc (.cells #[.int .i64 0,.int .i64 0,.slice none 0 0] 24)).alloc (.cells #[.int .i64 F0,.int .i64 F1] 29)=V:=⟨_,rfl⟩
 have E2:Ext W0 W2:=by rw [<-hW2];exact Hx2.out.trans ((ext_al _ _).trans (ext_al _ _))
 have bC:CiB W2 K 0 0 none 0 0:=by rw [<-hW2,<-hK];exact CiB.ext ⟨heap_alloc_new _ _⟩ (ext_al _ _)
 have bF:FtB W2 (K+1) F0 F1:=⟨by
  have:=heap_alloc_new (w2.alloc (.cells #[.int .i64 0,.int .i64 0,.slice none 0 0] 24)) (.cells #[.int .i64 F0,.int .i64 F1] 29);rw [<-hW2,<-hK]
  simpa using this⟩
 rw [hK,hW2];have HE2:=Lh E2;have HC:=Lh bC;have HF:=Lh bF;have HCc:=Lh (HCk.out W2 E2);have v0:=(HD.out.ext E2).x0;have v1:=(HD.out.ext E2).x1;clear E2 bC bF hK hW2 HCk
 go_wp2_with fail
 refine HCc.out.mono ?_;rintro e w3 ⟨rfl,x3⟩;have Hx3:=Lh x3;clear x3 HCc
 go_upto_region 3 with fail
 obtain ⟨K3,hK3⟩:∃ K,w3.heap.size=K:=⟨_,rfl⟩;obtain ⟨W3,hW3⟩:∃ V,w3.alloc (.cells #[.int .i64 F0,.int .i64 F1] 29)=V:=⟨_,rfl⟩
 have E3:Ext W2 W3:=by rw [<-hW3];exact Hx3.out.trans (ext_al _ _)
 have bG:FtB W3 K3 F0 F1:=by rw [<-hW3,<-hK3];exact ⟨heap_alloc_new _ _⟩
 rw [hK3,hW3];have HB:=Lh (codeBegun_any W3 (HL.out.ext (HE2.out.trans E3)));have HE3:=Lh E3;have HG:=Lh bG;have hna:=bf Hnz.out;have z0:=bG.x0;clear E3 bG hK3 hW3 v0 v1
 go_wp2_with fail
 refine HB.out.mono ?_;rintro e w4 ⟨rfl,x4⟩;have E4:=HE3.out.trans x4;have y0:=(HF.out.ext E4).x0;have y1:=(HF.out.ext E4).x1;have z0:=(HG.out.ext x4).x0;have z1:=(HG.out.ext x4).x1;have t0:=(HC.out.ext E4).x0;have t1:=(HC.out.ext E4).x1;have t2:=(HC.out.ext E4).x2;have HE4:=Lh (HE0.out.trans (HE2.out.trans E4));have HSc:=Lh (sameCircuit_any ⟨0,0,[]⟩ none 0 0 none 0 w4 ⟨rfl,Or.inl rfl⟩ ⟨rfl,Or.inl rfl⟩ (Nat.le_refl _) (by decide) (Nat.le_refl _) (by decide));have hnb:=bf Hnz.out
 have hnb2:((F0:Int) != 0)=true:=by rw [bne,hnb];rfl
 clear E4 x4
 go_wp2_with fail
 refine HSc.out.mono ?_;rintro e w5 ⟨rfl,x5⟩;have H5:=Lh (HE4.out.trans x5);clear x5
 go_wp2_with fail
 go_ret
 exact ⟨rfl,H5.out⟩
theorem measures_room (N:Int) (gens:List (List UInt8)) (ao:Option Addr) (k cp:Nat) (T:List UInt8) (x:Int) (w:World) (hG:StrsAt w ao k gens) (hT:∀ T ∈ gens,T.length<=9223372036854775807) (hk9:k*16<=140737488355328) (hnil:ao=none->cp=0) (hL:LtL w) (hz:(ccF N gens).1=0) (hN:12<N+1) :
  Calls Tryz.prog 6 #[.agg #[.int .i64 N,.slice ao k cp],.string ⟨T.toArray⟩,.int .i64 x] w fun e w'=>e=.returned (.bool true)/\Ext w w':=by
 have hk6:k<=9223372036854775806:=by omega
 obtain ⟨H,hH⟩:∃ H,w.heap.size=H:=⟨_,rfl⟩;obtain ⟨W0,hW0⟩:∃ W0,w.alloc (.cells #[.int .i64 N,.slice ao k cp] 59)=W0:=⟨_,rfl⟩
 have E0:Ext w W0:=by rw [<-hW0];exact ext_al w _
 have C0:CoB W0 H N ao k cp:=by rw [<-hW0,<-hH];exact CoB.new w _ _ _ _
 have HCp:=Lh (copyCode_any N gens ao k cp W0 (hG.ext E0) hk9 hnil);have HE0:=Lh E0;have HD:=Lh C0;have HW0:=Lh hW0;have HH:=Lh hH;have Hh:=Lh (hG.ext E0);have HL:=Lh (hL.ext E0);have HT:=Lh hT;have Hk6:=Lh hk6;have Hz:=Lh hz;have HN:=Lh hN;have v0:=C0.x0;have v1:=C0.x1;clear hG hT hk9 hnil hL hN E0 C0 hW0 hH hk6
 go_enter Tryz.func6,Tryz.ntmps6
 go_upto_region 1 with fail
 rw [HW0.out,HH.out]
 go_wp2_with fail
 refine HCp.out.mono ?_;rintro e w1 ⟨a1,c1,rfl,⟨hL1,hc1,hm1⟩,hx1⟩;have HEn:=Lh (Measurer_room N gens a1 k c1 w1 hL1 HT.out Hk6.out Hz.out HN.out);have HCk:=Lh (fun wx (hx:Ext W0 wx)=>CheckCode_any N gens ao k cp wx (Hh.out.ext hx) HT.out Hk6.out);rw [cc_fst Hz.out] at HCk;have Hx1:=Lh hx1;clear hL1 hc1 hm1 hx1 hz HCp
 go_wp2_with fail
 refine HEn.out.mono ?_;rintro e w2 ⟨rfl,x2⟩;have Hx2:=Lh (Hx1.out.trans x2);clear x2 HEn
 go_upto_region 2 with fail
 obtain ⟨K,hK⟩:∃ K,w2.heap.size=K:=⟨_,rfl⟩;obtain ⟨W2,hW2⟩:∃ V,(w2.alloc (.cells #[.int .i64 0,.int .i64 0,.slice none 0 0] 24)).alloc (.cells #[.int .i64 36,.int .i64 0] 29)=V:=⟨_,rfl⟩
 have E2:Ext W0 W2:=by rw [<-hW2];exact Hx2.out.trans ((ext_al _ _).trans (ext_al _ _))
 have bC:CiB W2 K 0 0 none 0 0:=by rw [<-hW2,<-hK];exact CiB.ext ⟨heap_alloc_new _ _⟩ (ext_al _ _)
 have bF:FtB W2 (K+1) 36 0:=⟨by
  have:=heap_alloc_new (w2.alloc (.cells #[.int .i64 0,.int .i64 0,.slice none 0 0] 24)) (.cells #[.int .i64 36,.int .i64 0] 29);rw [<-hW2,<-hK]
  simpa using this⟩
 rw [hK,hW2];have HE2:=Lh E2;have HC:=Lh bC;have HF:=Lh bF;have HCc:=Lh (HCk.out W2 E2);have v0:=(HD.out.ext E2).x0;have v1:=(HD.out.ext E2).x1;clear E2 bC bF hK hW2 HCk
 go_wp2_with fail
 refine HCc.out.mono ?_;rintro e w3 ⟨rfl,x3⟩;have Hx3:=Lh x3;clear x3 HCc
 go_upto_region 3 with fail
 obtain ⟨K3,hK3⟩:∃ K,w3.heap.size=K:=⟨_,rfl⟩;obtain ⟨W3,hW3⟩:∃ V,w3.alloc (.cells #[.int .i64 0,.int .i64 0] 29)=V:=⟨_,rfl⟩
 have E3:Ext W2 W3:=by rw [<-hW3];exact Hx3.out.trans (ext_al _ _)
 have bG:FtB W3 K3 0 0:=by rw [<-hW3,<-hK3];exact ⟨heap_alloc_new _ _⟩
 have sz3:W2.heap.size<=K3:=by rw [<-hK3];exact Hx3.out.size
 rw [hK3,hW3];have z0:=bG.x0;have z1:=bG.x1;have h0:=bG.f 0;have h1:=bG.f 1
 have q11:(11:Int)<N:=by have:=HN.out;omega
 have v0:=(HD.out.ext (HE2.out.trans E3)).x0;have bP:=bG.put 36 0;have E4:=put2x E3 sz3 (.int .i64 36) (.int .i64 0);obtain ⟨W4,hW4⟩:∃ V,(W3.setCell ⟨K3,0,none⟩ (.int .i64 36)).setCell ⟨K3,1,none⟩ (.int .i64 0)=V:=⟨_,rfl⟩;rw [hW4] at bP E4;have HB:=Lh (codeBegun_any W4 (HL.out.ext (HE2.out.trans E4)));have HE3:=Lh E4;have HG:=Lh bP;have HW4:=Lh hW4;clear E3 E4 bG bP hK3 hW3 hW4 v1 sz3
 go_upto_region 5 with fail
 rw [HW4.out];clear z0 z1 h0 h1 v0 HW4
 go_wp2_with fail
 refine HB.out.mono ?_;rintro e w4 ⟨rfl,x4⟩;have E4:=HE3.out.trans x4;have y0:=(HF.out.ext E4).x0;have y1:=(HF.out.ext E4).x1;have z0:=(HG.out.ext x4).x0;have z1:=(HG.out.ext x4).x1;have t0:=(HC.out.ext E4).x0;have t1:=(HC.out.ext E4).x1;have t2:=(HC.out.ext E4).x2;have HE4:=Lh (HE0.out.trans (HE2.out.trans E4));have HSc:=Lh (sameCircuit_any ⟨0,0,[]⟩ none 0 0 none 0 w4 ⟨rfl,Or.inl rfl⟩ ⟨rfl,Or.inl rfl⟩ (Nat.le_refl _) (by decide) (Nat.le_refl _) (by decide));clear E4 x4
 go_wp2_with fail
 refine HSc.out.mono ?_;rintro e w5 ⟨rfl,x5⟩;have H5:=Lh (HE4.out.trans x5);clear x5
 go_wp2_with fail
 go_ret
 exact ⟨rfl,H5.out⟩
end Go.Proofs.YtlechhmhmakgpaaGreatDoor
