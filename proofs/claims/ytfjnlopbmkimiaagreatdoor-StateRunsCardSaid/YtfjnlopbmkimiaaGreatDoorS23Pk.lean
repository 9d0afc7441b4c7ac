/-
  The program: take: an outcome is taken. The program: check: the first fault of a circuit and of the basis state that it is to begin in. The program: the wave of a basis state. The program: start: a run begins. The program: play: a circuit is run to its end, with the outcomes of the tape. The reference: a shot in memory: its state in one block, its bits in another.
-/
import Derived.Test.YtfjnlopbmkimiaaGreatDoorS22Ymq
namespace Go.Proofs.YtfjnlopbmkimiaaGreatDoor
set_option maxRecDepth 100000
set_option maxHeartbeats 8000000
open Go.RowKit
theorem xop_fit {q:Int} {n:Nat} (b:Nat) (h0:0<=q) (hq:q<n):PlFit (xOp q) n b :=
 ⟨⟨by simp [xOp],by simp [xOp]⟩,⟨h0,hq⟩,(fun c hc=>by simp [xOp] at hc),(fun c hc=>by simp [xOp] at hc),(fun h=>by simp [xOp] at h),(fun t ht=>by simp [xOp] at ht),by simp [xOp]⟩
theorem ownI_some {w:World} {e:TypeId} {v:Value} {l:List Int} {x:Int} (h:OwnI w e v (l++[x])):∃ g n cap,v=.slice (some ⟨g,0,none⟩) n cap:=by
 rcases h with ⟨_,h⟩ | ⟨g,cap,cur,h,_⟩
 ·simp at h
 ·exact ⟨g,_,cap,h⟩
theorem cell4 {w:World} {R:Nat} {v0 v1 v2 v3 v4:Value} {t:TypeId} (h:w.heap[R]?=some (.cells #[v0,v1,v2,v3,v4] t (0,0))):w.cell? ⟨R,4,none⟩=some v4:=by
 rw [cell_of_row w R 4 _ _ (0,0) h];rfl
theorem run_tape {w0 w:World} {B R:Nat} {oa:Option Addr} {no co i bw n cw bb:Nat} {bits:List Int} {tv:Value} {u:Nat} {s:Nat->Nm} {N:Nat} (h:RunA w0 w B R oa no co i bw n cw bb bits tv u s N):∃ ta tc,tv=.slice ta u tc:=by
 obtain ⟨tl,t1,t2 | ⟨g,cap,cur,hv,_⟩,_⟩:=h.own
 ·obtain ⟨h1,h2⟩:=t2
  rw [h2] at t1;exact ⟨none,0,by rw [h1,<-t1];rfl⟩
 ·exact ⟨_,cap,by rw [hv,t1]⟩
noncomputable def tkS (o:Gop) (v:Int) (s:Nat->Nm):Nat->Nm:=if o.kind=5 then oc o.q v s else if v=1 then gt (xOp o.q) (oc o.q 1 s) else oc o.q 0 s
def tkB (o:Gop) (v:Int) (bits:List Int):List Int:=if o.kind=5 then bits.set o.bit.toNat v else bits
theorem wtake_any (bw cw qn nb:Nat) (o:Gop) (a1:Option Addr) (n1 c1:Nat) (a2:Option Addr) (n2 c2:Nat) (v:Int) (hv:v=0\/v=1) (s:Nat->Nm) (N:Nat) (w:World) (h:WvA w bw (2 ^ qn) s N) (hqn:qn<=12) (hpl:PlFit o qn nb) (hk5:¬ o.kind<5) :
  Calls Tryz.prog 84 #[.slice (some ⟨bw,0,none⟩) (2 ^ qn) cw,.agg #[.int .i64 o.kind,.int .i64 o.k,.slice a1 n1 c1,.int .i64 o.q,.int .i64 o.bit,.slice a2 n2 c2],.int .i64 v] w fun e w'=>(∃ x,e=.returned x)/\WvA w' bw (2 ^ qn) (tkS o v s) (N+1)/\Chg bw w w':=by
 have hn4:2 ^ qn<=4096:=Nat.le_trans (Nat.pow_le_pow_right (by decide) hqn) (by decide);have hq1:=q1_lt hpl.q.1 hpl.q.2 hqn
 have hin:∀ x,x<2 ^ qn->x ||| q1 o.q<2 ^ qn:=fun x hx=>Nat.or_lt_two_pow hx (by unfold q1;exact Nat.pow_lt_pow_right (by decide) (by have:=hpl.q;omega))
 have hne:∀ x,x &&& (0 ||| q1 o.q)=0->x≠x ||| q1 o.q:=fun x hx e=>by
  rw [Nat.zero_or,and_q1] at hx;have hp:=q1_pos o.q
  have hb:bt x o.q=false:=by
   cases hb:bt x o.q
   ·rfl
   ·rw [hb] at hx;simp at hx;omega
  have h2:=congrArg (fun z=>z.testBit o.q.toNat) e;simp only [Nat.testBit_or,q1_bit] at h2;unfold bt at hb;rw [hb] at h2
  simp at h2
 have hqs:∀ c ∈ [o.q],0<=c/\c<19:=fun c hc=>by
  rw [List.mem_singleton] at hc;have:=hpl.q;omega
 have Xd:=Lh (fun (wx:World) (hx:WvA wx bw (2 ^ qn) s N)=>drop_any bw (2 ^ qn) cw (q1 o.q) (1-v) (by omega) s N wx hx hn4 hq1);have Xx:=Lh (fun (wx:World) (sx:Nat->Nm) (ix:Nat) (hx:WvA wx bw (2 ^ qn) sx ix)=>exchange_any bw (2 ^ qn) cw 0 (q1 o.q) sx ix wx hx hn4 (by decide) hq1 hin hne);have Go1:=Lh (fun (wx:World) (hx:WvA wx bw (2 ^ qn) (drS (if 1-v=1 then q1 o.q else 0) (q1 o.q) (2 ^ qn) s) (N+4096))=>hx.is (M:=N) (fun y hy=>dr_oc hv hy) (oc_amp h.amp));have Gx:=Lh (fun (wx:World) (sx:Nat->Nm) (ix:Nat) (ha:∀ x,Amp ix (sx x)) (hx:WvA wx bw (2 ^ qn) (exS 0 (q1 o.q) (2 ^ qn) sx) (ix+4096))=>hx.is (M:=ix+1) (fun y hy=>x_gt (o:=xOp o.q) (xop_fit nb hpl.q.1 hpl.q.2) rfl hy) (gt_amp ha));have Hset2:=Lh (fun (wx:World) (ao:Option Addr) (hx:IntsAt wx ao 1 [o.q])=>set_any ao 1 1 [o.q] wx hx (by decide) hqs);rw [msk_one] at Hset2;obtain ⟨mq,hmq⟩:∃ mq,q1 o.q=mq:=⟨_,rfl⟩;obtain ⟨n,hnn⟩:∃ n,2 ^ qn=n:=⟨_,rfl⟩;rw [hnn] at h Xd Xx Go1 Gx ⊢;rw [hmq] at Xd Xx Go1 Gx Hset2;have HR:=Lh h;have Hv:=Lh hv
 have hkd56:o.kind=5\/o.kind=6:=by have:=hpl.kd;omega
 obtain ⟨kd,hkd⟩:∃ kd,o.kind=kd:=⟨_,rfl⟩;obtain ⟨ka,hka⟩:∃ ka,o.k=ka:=⟨_,rfl⟩;obtain ⟨kq,hkq⟩:∃ kq,o.q=kq:=⟨_,rfl⟩;obtain ⟨kb,hkb⟩:∃ kb,o.bit=kb:=⟨_,rfl⟩;have HtS:=Lh (show tkS o v s=if kd=5 then oc kq v s else if v=1 then gt (xOp kq) (oc kq 1 s) else oc kq 0 s by unfold tkS;rw [hkd,hkq]);obtain ⟨s2,hs2⟩:∃ s2:Nat->Nm,tkS o v s=s2:=⟨_,rfl⟩;rw [hs2] at HtS ⊢;clear hs2;rw [hkd,hka,hkq,hkb];rw [hkd] at hkd56;rw [hkq] at Hset2 Go1 Gx;obtain ⟨v1,hv1⟩:∃ v1,1-v=v1:=⟨_,rfl⟩
 have w1:IntKind.i64.wrap (1-v)=v1:=by rw [IntKind.wrap_i64];omega
 rw [hv1] at Xd Go1;obtain ⟨D,hD⟩:∃ D,w.heap.size=D:=⟨_,rfl⟩;obtain ⟨V,hV⟩:∃ V,w.alloc (.cells #[.int .i64 kd,.int .i64 ka,.slice a1 n1 c1,.int .i64 kq,.int .i64 kb,.slice a2 n2 c2] 60)=V:=⟨_,rfl⟩
 have EV:Ext w V:=by rw [<-hV];exact ext_alloc _ _
 have rD:V.heap[D]?=some (.cells #[.int .i64 kd,.int .i64 ka,.slice a1 n1 c1,.int .i64 kq,.int .i64 kb,.slice a2 n2 c2] 60 (0,0)):=by rw [<-hV,<-hD];exact heap_alloc_new w _
 have hDb:D≠bw:=by
  have:=h.at'.lt;omega
 have HV:=Lh (h.ext EV)
 have d3:V.cell? ⟨D,3,none⟩=some (.int .i64 kq):=by rw [cell_of_row V D 3 _ _ (0,0) rD];rfl
 have HDb:=Lh hDb;have HrD:=Lh rD;have HEV:=Lh EV;have HhV:=Lh hV;have HhD:=Lh hD;clear h hqn hpl hk5 hn4 hq1 hin hne hqs hmq hnn hkd hka hkq hkb hv hv1 hV hD EV hDb rD
 go_enter Tryz.func84,Tryz.ntmps84
 go_upto_region 1 with fail
 rw [HhV.out,HhD.out]
 go_wp2_with fail
 refine (Hset2.out _ _ (ints_one V kq)).mono ?_;rintro e w2 ⟨rfl,rfl⟩;have EU:=ext_alloc V (.cells #[.int .i64 kq] 3);have HU:=Lh (HV.out.ext EU);have HrU:=Lh ((EU.block D (gS.1 HrD.out).1).trans HrD.out);have HEU:=Lh (HEV.out.trans EU);generalize V.alloc (.cells #[.int .i64 kq] 3)=U at *;clear d3 EU HV Hset2 HrD HhV HhD HEV
 go_wp2_with fail
 refine (Xd.out U HU.out).mono ?_;rintro e w3 ⟨⟨x3,rfl⟩,hw3,hc3⟩;have H3:=Lh (Go1.out w3 hw3);have HC3:=Lh ((Chg.of_ext (g:=bw) HEU.out).trans hc3);have r3:=(hc3.block D HDb.out (gS.1 HrU.out).1).trans HrU.out
 have d0:w3.cell? ⟨D,0,none⟩=some (.int .i64 kd):=by rw [cell_of_row w3 D 0 _ _ (0,0) r3];rfl
 clear hw3 hc3 r3 Xd Go1 HU HrU
 rcases hkd56 with rfl | rfl
 ·have Hend:=Lh (show WvA w3 bw n s2 (N+1) by rw [HtS.out,if_pos rfl];exact H3.out.le (Nat.le_succ _))
  clear H3 Xx Gx Hv HtS
  go_wp2_with fail
  go_end0
  exact ⟨⟨_,rfl⟩,Hend.out,HC3.out⟩
 rcases Hv.out with rfl | rfl
 ·have Hend:=Lh (show WvA w3 bw n s2 (N+1) by rw [HtS.out,if_neg (by decide),if_neg (by decide)];exact H3.out.le (Nat.le_succ _))
  clear H3 Xx Gx Hv HtS
  go_wp2_with fail
  go_end0
  exact ⟨⟨_,rfl⟩,Hend.out,HC3.out⟩
 ·have Hx1:=Lh (Xx.out w3 _ N H3.out)
  go_wp2_with fail
  refine Hx1.out.mono ?_;rintro e w5 ⟨⟨x5,rfl⟩,hw5,hc5⟩;have Hend:=Lh (show WvA w5 bw n s2 (N+1) by rw [show s2=gt (xOp kq) (oc kq 1 s) by rw [HtS.out];simp];exact Gx.out w5 _ N H3.out.amp hw5);have HC5:=Lh (HC3.out.trans hc5);clear H3 Xx Gx Hv HtS hw5 hc5 d0 Hx1
  go_wp2_with fail
  go_end0
  exact ⟨⟨_,rfl⟩,Hend.out,HC5.out⟩
theorem take_any (w0 w:World) (B R:Nat) (oa:Option Addr) (no co i bw qn cw bb:Nat) (bits:List Int) (tv:Value) (u:Nat) (s:Nat->Nm) (ops:List Gop) (v:Int) (hv:v=0\/v=1) (o:Gop)
  (h:RunA w0 w B R oa no co i bw (2 ^ qn) cw bb bits tv u s i) (hO:OpsAt w0 oa no ops) (hqn:qn<=12) (hno:no<=4096) (ho:ops[i]?=some o) (hpl:PlFit o qn bits.length) (hk5:¬ o.kind<5) (hu:u<=5000) :
  Calls Tryz.prog 53 #[.pointer (some ⟨R,0,none⟩),.int .i64 v] w fun e w'=>(∃ x,e=.returned x)/\∃ tv',RunA w0 w' B R oa no co (i+1) bw (2 ^ qn) cw bb (tkB o v bits) tv' (u+1) (tkS o v s) (i+1):=by
 obtain ⟨ta,tc,rfl⟩:∃ ta tc,tv=.slice ta u tc:=run_tape h;have hn4:2 ^ qn<=4096:=Nat.le_trans (Nat.pow_le_pow_right (by decide) hqn) (by decide)
 have hi:i<no:=by
  have h1:=(List.getElem?_eq_some_iff.1 ho).1;have:=hO.1;omega
 have Htk:=Lh (fun (wx:World) (a1:Option Addr) (n1 c1:Nat) (a2:Option Addr) (n2 c2:Nat) (hx:WvA wx bw (2 ^ qn) s i)=>wtake_any bw cw qn bits.length o a1 n1 c1 a2 n2 c2 v hv s i wx hx hqn hpl hk5);obtain ⟨n,hnn⟩:∃ n,2 ^ qn=n:=⟨_,rfl⟩;rw [hnn] at h Htk ⊢;have HR:=Lh h;have Hhi:=Lh hi;have Hno:=Lh hno;have Hu:=Lh hu;have Hv:=Lh hv;have hbit:=hpl.bit;obtain ⟨b,off,rfl,hb,hc⟩:=(hO.ext h.ext).2.resolve_left (by omega);obtain ⟨a1,n1,c1,a2,n2,c2,k0,k1,k2,k3,k4,k5,hL⟩:=hc i o ho;have x0:=h.c0;have x1:=h.c1
 have hkd56:o.kind=5\/o.kind=6:=by have:=hpl.kd;omega
 obtain ⟨kd,hkd⟩:∃ kd,o.kind=kd:=⟨_,rfl⟩;obtain ⟨ka,hka⟩:∃ ka,o.k=ka:=⟨_,rfl⟩;obtain ⟨kq,hkq⟩:∃ kq,o.q=kq:=⟨_,rfl⟩;obtain ⟨kb,hkb⟩:∃ kb,o.bit=kb:=⟨_,rfl⟩;have HtB:=Lh (show tkB o v bits=if kd=5 then bits.set kb.toNat v else bits by unfold tkB;rw [hkd,hkb]);obtain ⟨b2,s2,hb2,hs2⟩:∃ (b2:List Int) (s2:Nat->Nm),tkB o v bits=b2/\tkS o v s=s2:=⟨_,_,rfl,rfl⟩;rw [hb2,hs2];rw [hb2] at HtB;rw [hs2] at Htk;clear hb2 hs2;rw [hkd] at k0 hbit hkd56;rw [hka] at k1;rw [hkq] at k3;rw [hkb] at k4 hbit;rw [hkd,hka,hkq,hkb] at Htk;have Hbit:=Lh hbit
 have q1':(i:Int)<(no:Int):=by omega
 have q0:(0:Int)<=(i:Int):=by omega
 have wk:IntKind.i64.wrap ((i:Int)+1)=((i+1:Nat):Int):=by rw [IntKind.wrap_i64];omega
 clear h hO hqn hno ho hpl hk5 hu hn4 hi hnn hbit hc hb hL hkd hka hkq hkb hv
 have y0:=fun ob=>old1 x0 ob;have y1:=fun ob=>old1 x1 ob
 have j0:=fun ob=>old1 k0 ob;have j1:=fun ob=>old1 k1 ob;have j2:=fun ob=>old1 k2 ob;have j3:=fun ob=>old1 k3 ob;have j4:=fun ob=>old1 k4 ob;have j5:=fun ob=>old1 k5 ob
 go_enter Tryz.func53,Tryz.ntmps53
 go_upto_region 0 with fail
 go_region
 clear y0 y1 j0 j1 j2 j3 j4 j5 k0 k1 k2 k3 k4 k5 x0 x1 q0 q1'
 go_upto_region 1 with fail
 obtain ⟨D,hD⟩:∃ D,w.heap.size=D:=⟨_,rfl⟩;obtain ⟨V,hV⟩:∃ V,(w.alloc (.cells #[.int .i64 kd,.int .i64 ka,.slice a1 n1 c1,.int .i64 kq,.int .i64 kb,.slice a2 n2 c2] 60)).drew=V:=⟨_,rfl⟩
 have EV:Ext w V:=by rw [<-hV];exact Below.drew (ext_alloc _ _)
 have rD:V.heap[D]?=some (.cells #[.int .i64 kd,.int .i64 ka,.slice a1 n1 c1,.int .i64 kq,.int .i64 kb,.slice a2 n2 c2] 60 (0,0)):=by rw [<-hV,<-hD];exact heap_alloc_new w _
 rw [hV,hD];have HV:=Lh (HR.out.ext' EV);have HrD:=Lh rD
 have hDb:D≠bw:=by
  rintro rfl;obtain ⟨cs,h1,_⟩:=HV.out.wav.at'.row;rw [h1] at rD;injection rD with rD;injection rD with _ rD _;exact absurd rD (by decide)
 have HDb:=Lh hDb;have m2:=HV.out.c2;have hd0:Ext V V.drew:=Below.drew (Ext.refl _);clear hV hD EV hDb;refine wp_region_K 6 (fun w'=>w'.cell? ⟨R,2,none⟩=some (.slice (some ⟨bw,0,none⟩) n cw)/\w'.heap[D]?=some (.cells #[.int .i64 kd,.int .i64 ka,.slice a1 n1 c1,.int .i64 kq,.int .i64 kb,.slice a2 n2 c2] 60 (0,0))) (by kernel_rfl) ?_
 show anyK _ _ _ _ _ _ 7 #[false,false,false,false,false,false,false] _ _
 have hHeld:V.drew.cell? ⟨R,2,none⟩=some (.slice (some ⟨bw,0,none⟩) n cw)/\V.drew.heap[D]?=some (.cells #[.int .i64 kd,.int .i64 ka,.slice a1 n1 c1,.int .i64 kq,.int .i64 kb,.slice a2 n2 c2] 60 (0,0)):=⟨cell_ext m2 hd0,(hd0.block D (gS.1 rD).1).trans rD⟩;refine kT 0 7 (v:=?_) rfl (Or.inl ⟨by rfl,?_⟩) hHeld ?_;rotate_left 1
 ·intro w hSw
  go_simp
  try with_reducible rfl
 show anyK _ _ _ _ _ _ _ _ (Act.put _ (some 15) _) _
 simp only [Act.put,sx0,sx1,sx2];refine kT 1 7 (v:=?_) rfl (Or.inl ⟨by rfl,?_⟩) hHeld ?_;rotate_left 1
 ·intro w hSw
  go_simp
  try with_reducible rfl
 show anyK _ _ _ _ _ _ _ _ (Act.put _ (some 16) _) _
 simp only [Act.put,sx0,sx1,sx2];refine kT 2 7 (v:=?_) rfl (Or.inl ⟨by rfl,?_⟩) hHeld ?_;rotate_left 1
 ·intro w hSw
  go_simp
  try with_reducible rfl
 show anyK _ _ _ _ _ _ _ _ (Act.put _ (some 17) _) _
 simp only [Act.put,sx0,sx1,sx2];refine kT 3 7 (v:=?_) rfl (Or.inl ⟨by rfl,?_⟩) hHeld ?_;rotate_left 1
 ·intro w hSw
  go_simp
  try with_reducible rfl
 show anyK _ _ _ _ _ _ _ _ (Act.put _ (some 18) _) _
 simp only [Act.put,sx0,sx1,sx2];refine kT 4 7 (v:=.agg #[.int .i64 kd,.int .i64 ka,.slice a1 n1 c1,.int .i64 kq,.int .i64 kb,.slice a2 n2 c2]) rfl (Or.inl ⟨by rfl,fun _ h=>exec_load_row 60 _ rfl D rfl 60 _ (0,0) _ h.2 Tryz.underlying60 rfl opS_info⟩) hHeld ?_
 show anyK _ _ _ _ _ _ _ _ (Act.put _ (some 19) _) _
 simp only [Act.put,sx0,sx1,sx2];refine kT 5 7 (v:=?_) rfl (Or.inl ⟨by rfl,?_⟩) hHeld ?_;rotate_left 1
 ·intro w hSw
  go_simp
  try with_reducible rfl
 show anyK _ _ _ _ _ _ _ _ (Act.put _ (some 20) _) _
 simp only [Act.put,sx0,sx1,sx2];clear hHeld;refine anyK_one (i:=6) (by kernel_rfl) rfl (fun Kk hKk=>?_)
 go_simp
 (go_at_call 84;refine (Htk.out V.drew a1 n1 c1 a2 n2 c2 (HV.out.wav.ext hd0)).mono ?_;rintro e w3 ⟨⟨x3,rfl⟩,hw3,hc3⟩)
 go_wp2_with fail
 refine hKk.out _ _ (fun h=>Bool.noConfusion (show true=false from h)) ?_;clear hKk Kk Htk;simp only [sx0,sx1,sx2];refine anyK_done (by kernel_rfl) ?_ _;have H3:=Lh ((HV.out.ext' hd0).wave hc3 hw3);have r3:=(hc3.block D HDb.out (Nat.lt_of_lt_of_le (gS.1 HrD.out).1 hd0.size)).trans ((hd0.block D (gS.1 HrD.out).1).trans HrD.out)
 have d0:w3.cell? ⟨D,0,none⟩=some (.int .i64 kd):=by rw [cell_of_row w3 D 0 _ _ (0,0) r3];rfl
 have d4:w3.cell? ⟨D,4,none⟩=some (.int .i64 kb):=by rw [cell_of_row w3 D 4 _ _ (0,0) r3];rfl
 clear hw3 hc3 r3 m2 hd0 HV HrD rD;obtain ⟨i0,hi,hz0,hz1,hz2⟩:=info_parts int_info
 rcases hkd56 with rfl | rfl
 ·have hkb:=Hbit.out (by trivial)
  obtain ⟨j,rfl⟩:∃ j:Nat,kb=(j:Int):=⟨kb.toNat,by omega⟩
  have hj:j<bits.length:=by omega
  have m3:=H3.out.c3
  have bc:w3.cell? ⟨bb,j,none⟩=some (.int .i64 (bits.getD j 0)):=by
   obtain ⟨_,h1 | ⟨b',o',e',_,h2⟩⟩:=H3.out.bits'
   ·omega
   ·injection e' with e'
    injection e' with e1 e2 _;subst e1 e2;have:=h2 j hj;rw [Nat.zero_add] at this;exact this
  have bf:w3.frozen? ⟨bb,j,none⟩=false:=frozen_of_row w3 bb j _ _ H3.out.bit
  have g0:(0:Int)<=(j:Int):=by omega
  have g1:(j:Int)<(bits.length:Int):=by omega
  have HS:=Lh ((H3.out.setBit j v hj).ext' (Below.drew (Ext.refl _)))
  have H4:=Lh (show RunA w0 ((w3.setCell ⟨bb,j,none⟩ (.int .i64 v)).drew) B R (some ⟨b,off,none⟩) no co i bw n cw bb b2 (.slice ta u tc) u s2 (i+1) by
   rw [HtB.out,if_pos rfl,Int.toNat_natCast];exact HS.out)
  obtain ⟨nb,hnb⟩:∃ nb,bits.length=nb:=⟨_,rfl⟩;rw [hnb] at m3 g1;clear HS H3 Hbit hkb hj hnb
  go_upto_region 3 with fail
  go_region
  generalize (w3.setCell ⟨bb,j,none⟩ (.int .i64 v)).drew=W4 at *;clear m3 bc bf g0 g1 d0 d4
  go_upto_region 4 with fail
  obtain ⟨tl,t1,t2,t3⟩:=H4.out.own;have m4:=H4.out.c4;have EA:=ext_alloc W4 (.cells #[.int .i64 v] 3);have HA:=Lh (H4.out.ext' EA);have T2:=Lh (t2.keep (w':=W4.alloc (.cells #[.int .i64 v] 3)) (fun g _ hg=>EA.block g hg));have T1:=Lh t1;have T3:=Lh t3;have hvn:=new1 W4 (.int .i64 v) 3;clear EA t1 t2 t3
  go_wp2_with (at_builtin;refine wpList_append_int _ rfl _ _ 25 rfl 3 i0 Tryz.underlying25 hi hz0 hz1 hz2 (.slice ta u tc) tl rfl T2.out ⟨W4.heap.size,0,none⟩ 1 v rfl hvn (Lib.add_plain _ _ _) (by have:=T1.out;have:=Hu.out;omega) ?_;intro tv' w7 ho7 ha7;obtain ⟨g7,n7,cap7,rfl⟩:=ownI_some ho7;have Hap:=Lh (HA.out.apd T1.out T2.out T3.out ho7 ha7);clear ho7 ha7;have c7:=cell4 Hap.out.1;have f7:=frozen_of_row w7 R 4 _ _ Hap.out.1;have Hend:=Lh (Hap.out.2.at' (i+1));have m8:=Hap.out.2.c1;have f8:=Hap.out.2.f 1;clear Hap)
  go_end0
  exact ⟨⟨_,rfl⟩,_,Hend.out⟩
 ·clear Hbit d4
  have H4:=Lh (show RunA w0 w3 B R (some ⟨b,off,none⟩) no co i bw n cw bb b2 (.slice ta u tc) u s2 (i+1) by
   rw [show b2=bits by rw [HtB.out];simp];exact H3.out)
  clear H3
  go_upto_region 4 with fail
  obtain ⟨tl,t1,t2,t3⟩:=H4.out.own;have m4:=H4.out.c4;have EA:=ext_alloc w3 (.cells #[.int .i64 v] 3);have HA:=Lh (H4.out.ext' EA);have T2:=Lh (t2.keep (w':=w3.alloc (.cells #[.int .i64 v] 3)) (fun g _ hg=>EA.block g hg));have T1:=Lh t1;have T3:=Lh t3;have hvn:=new1 w3 (.int .i64 v) 3;clear EA t1 t2 t3
  go_wp2_with (at_builtin;refine wpList_append_int _ rfl _ _ 25 rfl 3 i0 Tryz.underlying25 hi hz0 hz1 hz2 (.slice ta u tc) tl rfl T2.out ⟨w3.heap.size,0,none⟩ 1 v rfl hvn (Lib.add_plain _ _ _) (by have:=T1.out;have:=Hu.out;omega) ?_;intro tv' w7 ho7 ha7;obtain ⟨g7,n7,cap7,rfl⟩:=ownI_some ho7;have Hap:=Lh (HA.out.apd T1.out T2.out T3.out ho7 ha7);clear ho7 ha7;have c7:=cell4 Hap.out.1;have f7:=frozen_of_row w7 R 4 _ _ Hap.out.1;have Hend:=Lh (Hap.out.2.at' (i+1));have m8:=Hap.out.2.c1;have f8:=Hap.out.2.f 1;clear Hap)
  go_end0
  exact ⟨⟨_,rfl⟩,_,Hend.out⟩
def stF (c:Gci) (x:Int):Int × Int:=if (chk c).1≠0 then chk c else if x<0\/((2 ^ c.qubits.toNat:Nat):Int)<=x then (18,0) else (0,0)
theorem scheck_any (c:Gci) (ao:Option Addr) (n cp:Nat) (x:Int) (w:World) (h:OpsAt w ao n c.ops) (hn:n<=cp) (hcp:cp<=9223372036854775807) (hS:Shp w) :
  Calls Tryz.prog 50 #[.agg #[.int .i64 c.qubits,.int .i64 c.bits,.slice ao n cp],.int .i64 x] w fun e w'=>e=.returned (.agg #[.int .i64 (stF c x).1,.int .i64 (stF c x).2])/\Ext w w':=by
 obtain ⟨r,hr⟩:∃ r,stF c x=r:=⟨_,rfl⟩;rw [hr];obtain ⟨r0,r1⟩:=r;unfold stF at hr;obtain ⟨qb,bi,ops⟩:=c;obtain ⟨f,hf⟩:∃ f,chk ⟨qb,bi,ops⟩=f:=⟨_,rfl⟩;obtain ⟨f0,f1⟩:=f
 have hz0:f0=0->1<=qb/\qb<=12:=by
  intro h0;obtain ⟨_,h1,h2,_⟩:=chk_zero (c:=⟨qb,bi,ops⟩) (by rw [hf];exact h0);exact ⟨by simpa using h1,by simpa using h2⟩
 rw [hf] at hr;have Hz0:=Lh hz0;have Hf:=Lh hf;have Hr:=Lh hr;have E0:=(ext_al w (.cells #[.int .i64 qb,.int .i64 bi,.slice ao n cp] 24)).trans (ext_al _ (.cells #[.int .i64 0,.int .i64 0] 31));have bC:CiB ((w.alloc (.cells #[.int .i64 qb,.int .i64 bi,.slice ao n cp] 24)).alloc (.cells #[.int .i64 0,.int .i64 0] 31)) w.heap.size qb bi ao n cp:=CiB.ext ⟨heap_alloc_new w _⟩ (ext_al _ _)
 have bF:FtB ((w.alloc (.cells #[.int .i64 qb,.int .i64 bi,.slice ao n cp] 24)).alloc (.cells #[.int .i64 0,.int .i64 0] 31)) (w.heap.size+1) 0 0:=⟨by
  have:=heap_alloc_new (w.alloc (.cells #[.int .i64 qb,.int .i64 bi,.slice ao n cp] 24)) (.cells #[.int .i64 0,.int .i64 0] 31)
  simpa using this⟩
 have HE0:=Lh E0;have HO:=Lh (h.ext E0);have HC:=Lh bC;have HFt:=Lh bF;have HS:=Lh (hS.ext E0);have m0:=bC.x0;have m1:=bC.x1;have m2:=bC.x2;clear h E0 bC bF hr hf hz0 hS
 go_enter Tryz.func50,Tryz.ntmps50
 go_wp2_with fail
 generalize (w.alloc (.cells #[.int .i64 qb,.int .i64 bi,.slice ao n cp] 24)).alloc (.cells #[.int .i64 0,.int .i64 0] 31)=W0 at *;have HK:=Lh (Check_any ⟨qb,bi,ops⟩ ao n cp W0 HO.out hn hcp HS.out);rw [Hf.out] at HK;refine HK.out.mono ?_;rintro e w1 ⟨rfl,hx1⟩;have Ef:=ext_al w1 (.cells #[.int .i64 f0,.int .i64 f1] 31);have bf1:FtB (w1.alloc (.cells #[.int .i64 f0,.int .i64 f1] 31)) w1.heap.size f0 f1:=⟨heap_alloc_new w1 _⟩;have q0:=bf1.x0;have q1:=bf1.x1;have HX1:=Lh (hx1.trans Ef);have bz:=HFt.out.ext HX1.out;have x0':=bz.x0;have x1':=bz.x1;have g0':=bz.f 0;have g1':=bz.f 1;have bc:=HC.out.ext HX1.out;have v0:=bc.x0;have HEz:=Lh (HE0.out.trans HX1.out);clear bz bc m0 m1 m2 hx1 Ef bf1 HK Hf
 by_cases hc0:f0=0
 ·obtain ⟨hq1,hq2⟩:=Hz0.out hc0
  obtain ⟨qn,rfl⟩:∃ qn:Nat,qb=(qn:Int):=⟨qb.toNat,by omega⟩;have hs:=shl1 (q:=qn) (by omega);obtain ⟨t,ht⟩:∃ t:Nat,2 ^ qn=t:=⟨_,rfl⟩;rw [ht] at hs;have hr1:=Hr.out;rw [if_neg (by simp [hc0])] at hr1;simp only [Int.toNat_natCast,ht] at hr1;have Hr1:=Lh hr1;have hcb:=nf' hc0
  have qz:(0:Int)<=(qn:Int):=by omega
  clear hr1 Hr hc0 Hz0 hq1 hq2 ht
  by_cases hx0:x<0
  ·have HF:=Lh (show r0=18/\r1=0 by
    have:=Hr1.out;rw [if_pos (Or.inl hx0)] at this
    exact ⟨(congrArg Prod.fst this).symm,(congrArg Prod.snd this).symm⟩)
   clear Hr1
   go_wp2_with fail
   exact bodyPost_ret (v:=.agg #[.int .i64 18,.int .i64 0]) (by simp [results,Tryz.results50,go_sem,x0',x1']) rfl ⟨by rw [HF.out.1,HF.out.2],put2x HEz.out (by omega) _ _⟩
  by_cases hx1:(t:Int)<=x
  ·have HF:=Lh (show r0=18/\r1=0 by
    have:=Hr1.out;rw [if_pos (Or.inr hx1)] at this
    exact ⟨(congrArg Prod.fst this).symm,(congrArg Prod.snd this).symm⟩)
   clear Hr1
   go_wp2_with fail
   exact bodyPost_ret (v:=.agg #[.int .i64 18,.int .i64 0]) (by simp [results,Tryz.results50,go_sem,x0',x1']) rfl ⟨by rw [HF.out.1,HF.out.2],put2x HEz.out (by omega) _ _⟩
  ·have HF:=Lh (show r0=0/\r1=0 by
    have:=Hr1.out;rw [if_neg (by omega)] at this
    exact ⟨(congrArg Prod.fst this).symm,(congrArg Prod.snd this).symm⟩)
   clear Hr1
   go_wp2_with fail
   exact bodyPost_ret (v:=.agg #[.int .i64 0,.int .i64 0]) (by simp [results,Tryz.results50,go_sem,x0',x1']) rfl ⟨by rw [HF.out.1,HF.out.2],put2x HEz.out (by omega) _ _⟩
 ·have hcb:=nt hc0
  have HF:=Lh (show r0=f0/\r1=f1 by
   have:=Hr.out;rw [if_pos hc0] at this
   exact ⟨(congrArg Prod.fst this).symm,(congrArg Prod.snd this).symm⟩)
  clear Hr hc0 Hz0
  go_wp2_with fail
  exact bodyPost_ret (v:=.agg #[.int .i64 f0,.int .i64 f1]) (by simp [results,Tryz.results50,go_sem,x0',x1']) rfl ⟨by rw [HF.out.1,HF.out.2],put2x HEz.out (by omega) _ _⟩
theorem basis_wave (q x:Nat) (w:World) (hq:q<=12) (hx:x<2 ^ q) (P E:Nat) (hP:1<=P) :
  Calls Tryz.prog 81 #[.int .i64 (q:Int),.int .i64 (x:Int)] w fun e w'=>∃ b,e=.returned (.slice (some ⟨b,0,none⟩) (2 ^ q) (2 ^ q))/\WvAt w' b (2 ^ q) (bas x) P E/\w.heap.size<=b/\Ext w w':=by
 obtain ⟨n,hn⟩:∃ n,2 ^ q=n:=⟨_,rfl⟩
 have hn2:n<=4096:=by rw [<-hn];exact Nat.le_trans (Nat.pow_le_pow_right (by decide) hq) (by decide)
 have hs:=shl1 (q:=q) (by omega);rw [hn] at hs hx ⊢
 have q0:(0:Int)<=(q:Int):=by omega
 have q1:(0:Int)<=(x:Int):=by omega
 have q2:(x:Int)<(n:Int):=by omega
 have HP:=Lh hP;have Hx:=Lh hx;clear hn hq hP hx
 go_enter Tryz.func81,Tryz.ntmps81
 go_wp2_with (refine wpList_make_W w rfl _ _ rfl .i64 .i64 (wrap64 (2 ^ min q 64)) (wrap64 (2 ^ min q 64)) n rfl rfl hs hs (by omega) ?_;intro w1 hR hE hl)
 refine (RRoot_nm 0 w1).mono ?_;rintro e w2 ⟨c1,rfl,hI,hE2⟩
 go_wp2_with fail
 refine (kept_any c1 _ P E w2 (hI.le HP.out (Nat.zero_le _))).mono ?_;rintro e w3 ⟨p,rfl,hp,hE3⟩;have hR3:=((hR P E).ext hE2).ext hE3;obtain ⟨p0,y0,fz,_⟩:=hR3.get Hx.out;obtain ⟨hS1,_⟩:=hR3.set Hx.out hp
 have e0:nTr 0 nOne=nOne:=by unfold nTr nOne;congr 1;funext k;unfold trR;simp
 have Hend:=Lh (show WvAt (w3.setCell ⟨w.heap.size,x,none⟩ (.pointer p)) w.heap.size n (bas x) P E/\w.heap.size<=w.heap.size/\Ext w (w3.setCell ⟨w.heap.size,x,none⟩ (.pointer p)) from ⟨by
   obtain ⟨cs,g1,g2,g3⟩:=hS1.row;refine ⟨cs,g1,g2,fun y hy=>?_⟩;have:=g3 y hy;unfold bas;rw [e0] at this
   exact this,Nat.le_refl _,Ext.put ((hE.trans hE2).trans hE3) (Nat.le_refl _) _⟩)
 clear hS1 hR3 hR hE hE2 hE3 hp hI
 go_wp2_with fail
 go_ret
 exact ⟨_,rfl,Hend.out⟩
theorem stepK_makeI {ops:Array Oper} {o:Oper} {a:Act} {K:Act->World->Prop} {Q:Exit->Act->World->Prop} {E:Prop} {w:World} (hgd:o.guard=none) (l c:Operand) (hop:o.op=Op.makeSlice 25 l c) (kl kc:IntKind) (L C:Int) (n:Nat)
  (hl:a.eval l=.int kl L) (hc:a.eval c=.int kc C) (hL:L=(n:Int)) (hC:C=(n:Int)) (b2:n<=1048576)
  (hK:∀ w',w'.heap[w.heap.size]?=some (.cells (bC (List.replicate n 0)) 3 (0,0))->Ext w w'->K (a.put o.dst (.slice (some ⟨w.heap.size,0,none⟩) n n)) w') :
  if Region.wanted o (yielded ops a.tmps)=true then Oper.wp Tryz.prog o a w K Q else E:=by
 have hw:Region.wanted o (yielded ops a.tmps)=true:=by simp [Region.wanted,hgd]
 rw [if_pos hw];obtain ⟨i0,hi,hz0,hz1,hz2⟩:=info_parts int_info;obtain ⟨w',hrun,hown,hgrow⟩:=run_make_full (P:=Tryz.prog) w w.heap.size 25 3 i0 (.int .i64 0) 1 Tryz.underlying25 hi hz0 hz1 kl kc n (by rw [hz2];omega) (by unfold maxLen;omega) (Nat.le_refl _);subst hL;subst hC
 have key:w'.heap[w.heap.size]?=some (.cells (bC (List.replicate n 0)) 3 (0,0)):=by
  obtain ⟨_,h | ⟨g,cap,cur,hv,_,hh,_,_,hsz,ht⟩⟩:=hown
  ·simp at h
  ·simp only [Value.slice.injEq,Option.some.injEq,Addr.mk.injEq,and_true,true_and] at hv
   obtain ⟨hg,rfl⟩:=hv;subst hg;rw [hh]
   congr 2
   apply Array.toList_inj.1
   have e1:cur.toList.take (n*1)=cur.toList:=List.take_of_length_le (by rw [Array.length_toList,hsz];exact Nat.le_refl _);rw [e1] at ht;rw [ht]
   simp [Value.cells,toList_madeCells_one,bC]
 unfold Oper.wp
 simp [execOp,hop,hl,hc,hrun,Result.andThen]
 exact hK w' key ((Below.refl _ _).grown hgrow (Nat.le_refl _) (fun k h=>by cases h))
theorem start_any (qn nb x:Nat) (ao:Option Addr) (n cp:Nat) (w:World) (hq:qn<=12) (hnb:nb<=12) (hx:x<2 ^ qn) :
  Calls Tryz.prog 51 #[.agg #[.int .i64 (qn:Int),.int .i64 (nb:Int),.slice ao n cp],.int .i64 (x:Int)] w fun e w'=>∃ B R bw bb,e=.returned (.pointer (some ⟨R,0,none⟩))/\RunA w w' B R ao n cp 0 bw (2 ^ qn) (2 ^ qn) bb (List.replicate nb 0) (.slice none 0 0) 0 (bas x) 0:=by
 obtain ⟨H,hH⟩:∃ H,w.heap.size=H:=⟨_,rfl⟩;obtain ⟨W,hW⟩:∃ W,w.alloc (.cells #[.int .i64 (qn:Int),.int .i64 (nb:Int),.slice ao n cp] 24)=W:=⟨_,rfl⟩
 have E1:Ext w W:=by rw [<-hW];exact ext_alloc _ _
 have bCi:CiB W H (qn:Int) (nb:Int) ao n cp:=by rw [<-hW,<-hH];exact ⟨heap_alloc_new w _⟩
 have v0:=bCi.x0;have v1:=bCi.x1;have v2:=bCi.x2;have lH:=bCi.lt;have HB:=Lh (fun (wx:World)=>basis_wave qn x wx hq hx 1 0 (Nat.le_refl _));have HA:=Lh (show ∀ y,Amp 0 (bas x y) from fun y=>bas_amp x y);obtain ⟨m,hm⟩:∃ m,2 ^ qn=m:=⟨_,rfl⟩;rw [hm] at HB ⊢;have HW:=Lh hW;have HH:=Lh hH;have HE1:=Lh E1;clear hW hH E1 bCi hm hq hx
 go_enter Tryz.func51,Tryz.ntmps51
 go_upto_region 1 with fail
 rw [HW.out,HH.out];have d0:Ext W W.drew:=Below.drew (Ext.refl _);refine wp_region_any (by kernel_rfl) (anyT_plain (k:=99) (S:=fun w'=>True) (T:=fun w'=>(w'.cell? ⟨H,0,none⟩=some (.int .i64 (qn:Int))/\w'.cell? ⟨H,1,none⟩=some (.int .i64 (nb:Int)))/\w'.cell? ⟨H,2,none⟩=some (.slice ao n cp)) _ _ _ _ ?_)
 show anyT _ _ _ _ _ _ _ 12 #[false,false,false,false,false,false,false,false,false,false,false,false] _ _
 have hT:(W.drew.cell? ⟨H,0,none⟩=some (.int .i64 (qn:Int))/\W.drew.cell? ⟨H,1,none⟩=some (.int .i64 (nb:Int)))/\W.drew.cell? ⟨H,2,none⟩=some (.slice ao n cp):=⟨⟨cellKeep d0 lH v0,cellKeep d0 lH v1⟩,cellKeep d0 lH v2⟩;have hHeld:True:=trivial;refine tT 0 (v:=?_) rfl (Or.inl ⟨by rfl,?_⟩) hT (fun _=>hHeld) ?_;rotate_left 1
 ·intro w hSw
  go_simp
  try with_reducible rfl
 show anyT _ _ _ _ _ _ _ _ _ (Act.put _ (some 5) _) _
 simp only [Act.put,sx0,sx1,sx2];refine tT 1 (v:=?_) rfl (Or.inl ⟨by rfl,?_⟩) hT (fun _=>hHeld) ?_;rotate_left 1
 ·intro w hSw
  go_simp
  try with_reducible rfl
 show anyT _ _ _ _ _ _ _ _ _ (Act.put _ (some 6) _) _
 simp only [Act.put,sx0,sx1,sx2];refine tT 2 (v:=?_) rfl (Or.inl ⟨by rfl,?_⟩) hT (fun _=>hHeld) ?_;rotate_left 1
 ·intro w hSw
  go_simp
  try with_reducible rfl
 show anyT _ _ _ _ _ _ _ _ _ (Act.put _ (some 7) _) _
 simp only [Act.put,sx0,sx1,sx2];refine tT 3 (v:=?_) rfl (Or.inl ⟨by rfl,?_⟩) hT (fun _=>hHeld) ?_;rotate_left 1
 ·intro w hSw
  go_simp
  try with_reducible rfl
 show anyT _ _ _ _ _ _ _ _ _ (Act.put _ (some 8) _) _
 simp only [Act.put,sx0,sx1,sx2];refine tT 4 (v:=?_) rfl (Or.inl ⟨by rfl,?_⟩) hT (fun _=>hHeld) ?_;rotate_left 1
 ·intro w hSw
  go_simp
  try with_reducible rfl
 show anyT _ _ _ _ _ _ _ _ _ (Act.put _ (some 9) _) _
 simp only [Act.put,sx0,sx1,sx2];refine tT 6 (v:=?_) rfl (Or.inl ⟨by rfl,?_⟩) hT (fun _=>hHeld) ?_;rotate_left 1
 ·intro w hSw
  go_simp
  try with_reducible rfl
 show anyT _ _ _ _ _ _ _ _ _ (Act.put _ (some 11) _) _
 simp only [Act.put,sx0,sx1,sx2];refine tT 7 (v:=?_) rfl (Or.inl ⟨by rfl,?_⟩) hT (fun _=>hHeld) ?_;rotate_left 1
 ·intro w hSw
  go_simp
  try with_reducible rfl
 show anyT _ _ _ _ _ _ _ _ _ (Act.put _ (some 12) _) _
 simp only [Act.put,sx0,sx1,sx2];clear hT hHeld;refine anyT_two (i:=5) (j:=8) (by kernel_rfl) rfl rfl (fun Kk hKk=>?_) (fun Kk hKk=>?_)
 ·go_simp
  (go_at_call 81;refine (HB.out W.drew).mono ?_;rintro e w2 ⟨bw,rfl,hwv,hbw,hx2⟩)
  have he2:=d0.trans hx2
  go_wp2_with fail
  refine hKk.out _ _ (⟨⟨cellKeep he2 lH v0,cellKeep he2 lH v1⟩,cellKeep he2 lH v2⟩) (fun _=>trivial) ?_;clear hKk Kk;simp only [sx0,sx1,sx2];refine anyT_one (i:=8) (by kernel_rfl) rfl (fun Kk hKk=>?_);refine stepK_makeI rfl _ _ rfl .i64 .i64 (nb:Int) (nb:Int) nb rfl rfl rfl rfl (by omega) ?_;intro w3 hb3 hx3;have he:=he2.trans hx3;refine hKk.out _ _ (⟨⟨cellKeep he lH v0,cellKeep he lH v1⟩,cellKeep he lH v2⟩) (fun _=>trivial) ?_;clear hKk Kk;simp only [Act.put,sx0,sx1,sx2];have hwv3:=hwv.ext hx3;have hbb:W.heap.size<=w2.heap.size:=he2.size;have hbw2:W.heap.size<=bw:=Nat.le_trans d0.size hbw;obtain ⟨bb,hbbe⟩:∃ bb,w2.heap.size=bb:=⟨_,rfl⟩;rw [hbbe] at hb3 hbb ⊢;clear hbbe;have hT:(w3.cell? ⟨H,0,none⟩=some (.int .i64 (qn:Int))/\w3.cell? ⟨H,1,none⟩=some (.int .i64 (nb:Int)))/\w3.cell? ⟨H,2,none⟩=some (.slice ao n cp):=⟨⟨cellKeep he lH v0,cellKeep he lH v1⟩,cellKeep he lH v2⟩;have hHeld:True:=trivial;refine tT 9 (v:=?_) rfl (Or.inl ⟨by rfl,?_⟩) hT (fun _=>hHeld) ?_;rotate_left 1
  ·intro w hSw
   go_simp
   try with_reducible rfl
  show anyT _ _ _ _ _ _ _ _ _ (Act.put _ (some 14) _) _
  simp only [Act.put,sx0,sx1,sx2];clear hT hHeld;have EX:=ext_alloc w3 (.cells #[.slice ao n cp,.int .i64 0,.slice (some ⟨bw,0,none⟩) m m,.slice (some ⟨bb,0,none⟩) nb nb,.slice none 0 0] 68);have hX:=heap_alloc_new w3 (.cells #[.slice ao n cp,.int .i64 0,.slice (some ⟨bw,0,none⟩) m m,.slice (some ⟨bb,0,none⟩) nb nb,.slice none 0 0] 68);have Hend:=Lh (show RunA w (w3.alloc (.cells #[.slice ao n cp,.int .i64 0,.slice (some ⟨bw,0,none⟩) m m,.slice (some ⟨bb,0,none⟩) nb nb,.slice none 0 0] 68)) (w3.heap.size+1) w3.heap.size ao n cp 0 bw m m bb (List.replicate nb 0) (.slice none 0 0) 0 (bas x) 0 from ⟨(HE1.out.trans he).trans EX,by rw [List.length_replicate];exact hX,(EX.block _ (gS.1 hb3).1).trans hb3,⟨[],rfl,Or.inl ⟨rfl,rfl⟩,fun g hg=>by cases hg⟩,((hwv3).ext EX).amp HA.out,⟨by have:=(HE1.out.trans he).size;omega,by omega⟩,⟨by have:=HE1.out.size;have:=d0.size;omega,by have:=(gS.1 hb3).1;omega⟩,⟨by have:=HE1.out.size;have:=d0.size;omega,by have:=(hwv3).lt;omega⟩,by simp⟩);have he':=he.trans EX;refine anyT_one (i:=10) (by kernel_rfl) rfl (fun Kk hKk=>?_)
  go_simp
  go_wp2_with fail
  refine hKk.out _ _ (⟨⟨cellKeep he' lH v0,cellKeep he' lH v1⟩,cellKeep he' lH v2⟩) (fun _=>trivial) ?_;clear hKk Kk;simp only [sx0,sx1,sx2];generalize w3.alloc (.cells #[.slice ao n cp,.int .i64 0,.slice (some ⟨bw,0,none⟩) m m,.slice (some ⟨bb,0,none⟩) nb nb,.slice none 0 0] 68)=WX at *;have hT:(WX.cell? ⟨H,0,none⟩=some (.int .i64 (qn:Int))/\WX.cell? ⟨H,1,none⟩=some (.int .i64 (nb:Int)))/\WX.cell? ⟨H,2,none⟩=some (.slice ao n cp):=⟨⟨cellKeep he' lH v0,cellKeep he' lH v1⟩,cellKeep he' lH v2⟩;have hHeld:True:=trivial;refine tT 11 (v:=?_) rfl (Or.inl ⟨by rfl,?_⟩) hT (fun _=>hHeld) ?_;rotate_left 1
  ·intro w hSw
   go_simp
   try with_reducible rfl
  show anyT _ _ _ _ _ _ _ _ _ (Act.put _ (some 4) _) _
  simp only [Act.put,sx0,sx1,sx2];refine anyT_done (by kernel_rfl) ?_ _;clear hT hHeld EX hX he he'
  go_wp2_with fail
  go_ret
  exact ⟨_,_,_,_,rfl,Hend.out⟩
 ·refine stepK_makeI rfl _ _ rfl .i64 .i64 (nb:Int) (nb:Int) nb rfl rfl rfl rfl (by omega) ?_
  intro w2 hb2 hx2;have he2:=d0.trans hx2;refine hKk.out _ _ (⟨⟨cellKeep he2 lH v0,cellKeep he2 lH v1⟩,cellKeep he2 lH v2⟩) (fun _=>trivial) ?_;clear hKk Kk;simp only [Act.put,sx0,sx1,sx2];refine anyT_one (i:=5) (by kernel_rfl) rfl (fun Kk hKk=>?_)
  go_simp
  (go_at_call 81;refine (HB.out w2).mono ?_;rintro e w3 ⟨bw,rfl,hwv,hbw,hx3⟩)
  have he:=he2.trans hx3
  go_wp2_with fail
  refine hKk.out _ _ (⟨⟨cellKeep he lH v0,cellKeep he lH v1⟩,cellKeep he lH v2⟩) (fun _=>trivial) ?_;clear hKk Kk;simp only [sx0,sx1,sx2];have hb3:=(hx3.block _ (gS.1 hb2).1).trans hb2;have hbw2:W.heap.size<=bw:=Nat.le_trans he2.size hbw;obtain ⟨bb,hbbe⟩:∃ bb,W.heap.size=bb:=⟨_,rfl⟩
  have hbb:W.heap.size<=bb:=by omega
  have lH2:H<W.heap.size:=lH;rw [hbbe] at hb3 ⊢;clear hbbe hb2;have hT:(w3.cell? ⟨H,0,none⟩=some (.int .i64 (qn:Int))/\w3.cell? ⟨H,1,none⟩=some (.int .i64 (nb:Int)))/\w3.cell? ⟨H,2,none⟩=some (.slice ao n cp):=⟨⟨cellKeep he lH v0,cellKeep he lH v1⟩,cellKeep he lH v2⟩;have hHeld:True:=trivial;refine tT 9 (v:=?_) rfl (Or.inl ⟨by rfl,?_⟩) hT (fun _=>hHeld) ?_;rotate_left 1
  ·intro w hSw
   go_simp
   try with_reducible rfl
  show anyT _ _ _ _ _ _ _ _ _ (Act.put _ (some 14) _) _
  simp only [Act.put,sx0,sx1,sx2];clear hT hHeld;have EX:=ext_alloc w3 (.cells #[.slice ao n cp,.int .i64 0,.slice (some ⟨bw,0,none⟩) m m,.slice (some ⟨bb,0,none⟩) nb nb,.slice none 0 0] 68);have hX:=heap_alloc_new w3 (.cells #[.slice ao n cp,.int .i64 0,.slice (some ⟨bw,0,none⟩) m m,.slice (some ⟨bb,0,none⟩) nb nb,.slice none 0 0] 68);have Hend:=Lh (show RunA w (w3.alloc (.cells #[.slice ao n cp,.int .i64 0,.slice (some ⟨bw,0,none⟩) m m,.slice (some ⟨bb,0,none⟩) nb nb,.slice none 0 0] 68)) (w3.heap.size+1) w3.heap.size ao n cp 0 bw m m bb (List.replicate nb 0) (.slice none 0 0) 0 (bas x) 0 from ⟨(HE1.out.trans he).trans EX,by rw [List.length_replicate];exact hX,(EX.block _ (gS.1 hb3).1).trans hb3,⟨[],rfl,Or.inl ⟨rfl,rfl⟩,fun g hg=>by cases hg⟩,((hwv).ext EX).amp HA.out,⟨by have:=(HE1.out.trans he).size;omega,by omega⟩,⟨by have:=HE1.out.size;have:=d0.size;omega,by have:=(gS.1 hb3).1;omega⟩,⟨by have:=HE1.out.size;have:=d0.size;omega,by have:=(hwv).lt;omega⟩,by simp⟩);have he':=he.trans EX;refine anyT_one (i:=10) (by kernel_rfl) rfl (fun Kk hKk=>?_)
  go_simp
  go_wp2_with fail
  refine hKk.out _ _ (⟨⟨cellKeep he' lH v0,cellKeep he' lH v1⟩,cellKeep he' lH v2⟩) (fun _=>trivial) ?_;clear hKk Kk;simp only [sx0,sx1,sx2];generalize w3.alloc (.cells #[.slice ao n cp,.int .i64 0,.slice (some ⟨bw,0,none⟩) m m,.slice (some ⟨bb,0,none⟩) nb nb,.slice none 0 0] 68)=WX at *;have hT:(WX.cell? ⟨H,0,none⟩=some (.int .i64 (qn:Int))/\WX.cell? ⟨H,1,none⟩=some (.int .i64 (nb:Int)))/\WX.cell? ⟨H,2,none⟩=some (.slice ao n cp):=⟨⟨cellKeep he' lH v0,cellKeep he' lH v1⟩,cellKeep he' lH v2⟩;have hHeld:True:=trivial;refine tT 11 (v:=?_) rfl (Or.inl ⟨by rfl,?_⟩) hT (fun _=>hHeld) ?_;rotate_left 1
  ·intro w hSw
   go_simp
   try with_reducible rfl
  show anyT _ _ _ _ _ _ _ _ _ (Act.put _ (some 4) _) _
  simp only [Act.put,sx0,sx1,sx2];refine anyT_done (by kernel_rfl) ?_ _;clear hT hHeld EX hX he he'
  go_wp2_with fail
  go_ret
  exact ⟨_,_,_,_,rfl,Hend.out⟩
theorem plM_take {want:List Int} {o:Gop} {r:List Gop} {i:Nat} {s:Nat->Nm} {bits:List Int} {u:Nat} {v:Int} (hc:cnM bits o.cnd=true) (hk:¬ o.kind<5) (hu:¬ u=want.length) (hv:want.getD u 0=v) (hb:v=0\/v=1) :
  plM want (o :: r) i s bits u=plM want r (i+1) (tkS o v s) (tkB o v bits) (u+1):=by
 unfold tkS tkB
 by_cases h5:o.kind=5
 ·rw [plM_bit hc h5 hu hv hb,if_pos h5,if_pos h5]
 ·rw [if_neg h5,if_neg h5]
  rcases hb with rfl | rfl
  ·rw [plM_nought hc hk h5 hu hv,if_neg (by decide)]
  ·rw [plM_one hc hk h5 hu hv,if_pos rfl]
theorem tkB_len (o:Gop) (v:Int) (bits:List Int):(tkB o v bits).length=bits.length:=by unfold tkB;split<;>simp
noncomputable def shoR (c:Gci) (x:Int) (want:List Int):Sho:=plM want c.ops 0 (bas x.toNat) (List.replicate c.bits.toNat 0) 0
noncomputable def shoF (c:Gci) (x:Int) (want:List Int):Int × Int:=if (stF c x).1≠0 then stF c x else (shoR c x want).f
theorem play_any (c:Gci) (ao:Option Addr) (n cp:Nat) (x:Int) (ta:Option Addr) (tn tc:Nat) (want:List Int) (w:World) (h:OpsAt w ao n c.ops) (hn:n<=cp) (hcp:cp<=9223372036854775807) (hT:IntsAt w ta tn want) (hS:Shp w) (hbr:Bru w) :
  Calls Tryz.prog 23 #[.agg #[.int .i64 c.qubits,.int .i64 c.bits,.slice ao n cp],.int .i64 x,.slice ta tn tc] w fun e w'=>∃ p,e=.returned (.tuple #[.pointer p,.agg #[.int .i64 (shoF c x want).1,.int .i64 (shoF c x want).2]])/\Ext w w' /\
   ((shoF c x want).1=0->∃ B R i bw bb tv,p=some ⟨R,0,none⟩/\RunA w w' B R ao n cp i bw (2 ^ c.qubits.toNat) (2 ^ c.qubits.toNat) bb (shoR c x want).bits tv (shoR c x want).u (shoR c x want).s i/\i<=4096):=by
 obtain ⟨F,hF⟩:∃ F,shoF c x want=F:=⟨_,rfl⟩;obtain ⟨F0,F1⟩:=F;obtain ⟨M,hM⟩:∃ M,shoR c x want=M:=⟨_,rfl⟩;rw [hF,hM];unfold shoF at hF;rw [hM] at hF;unfold shoR at hM;obtain ⟨qb,bi,ops⟩:=c;obtain ⟨f,hf⟩:∃ f,stF ⟨qb,bi,ops⟩ x=f:=⟨_,rfl⟩;obtain ⟨f0,f1⟩:=f
 have hz:f0=0->f1=0/\(1<=qb/\qb<=12)/\(0<=bi/\bi<=12)/\ops.length<=4096/\(∀ g ∈ ops,opCode g qb bi=0)/\0<=x/\x<((2 ^ qb.toNat:Nat):Int):=by
  intro h0;unfold stF at hf
  by_cases hc:(chk ⟨qb,bi,ops⟩).1=0
  ·rw [if_neg (by simp [hc])] at hf
   obtain ⟨_,h1,h2,h3,h4,h5,h6⟩:=chk_zero hc
   by_cases hx:x<0\/((2 ^ qb.toNat:Nat):Int)<=x
   ·rw [if_pos hx] at hf
    have:=congrArg Prod.fst hf
    simp at this
    omega
   ·rw [if_neg hx] at hf
    exact ⟨(congrArg Prod.snd hf).symm,⟨h1,h2⟩,⟨h3,h4⟩,h5,h6,by omega,by omega⟩
  ·rw [if_pos hc] at hf
   have:=congrArg Prod.fst hf;exact absurd (this.trans h0) hc
 have Hz:=Lh hz;have Hf:=Lh hf;have HF:=Lh hF;have HM:=Lh hM;rw [hf] at HF;obtain ⟨H,hH⟩:∃ H,w.heap.size=H:=⟨_,rfl⟩;obtain ⟨W0,hW0⟩:∃ W0,(w.alloc (.cells #[.int .i64 qb,.int .i64 bi,.slice ao n cp] 24)).alloc (.cells #[.int .i64 0,.int .i64 0] 31)=W0:=⟨_,rfl⟩
 have E0:Ext w W0:=by rw [<-hW0];exact (ext_al w _).trans (ext_al _ _)
 have bC:CiB W0 H qb bi ao n cp:=by rw [<-hW0,<-hH];exact CiB.ext ⟨heap_alloc_new w _⟩ (ext_al _ _)
 have bF:FtB W0 (H+1) 0 0:=⟨by
  have:=heap_alloc_new (w.alloc (.cells #[.int .i64 qb,.int .i64 bi,.slice ao n cp] 24)) (.cells #[.int .i64 0,.int .i64 0] 31);rw [<-hW0,<-hH]
  simpa using this⟩
 have HE0:=Lh E0;have HO:=Lh (h.ext E0);have HC:=Lh bC;have HFt:=Lh bF;have HS:=Lh (hS.ext E0);have HT:=Lh (hT.ext E0);have HBr:=Lh (bru_ext hbr E0);have m0:=bC.x0;have m1:=bC.x1;have m2:=bC.x2;have HH:=Lh hH;have HW0:=Lh hW0;have HwH:=Lh (show w.heap.size<=H+1 by omega);clear h E0 bC bF hF hf hz hS hT hbr hM hH hW0
 go_enter Tryz.func23,Tryz.ntmps23
 go_upto_region 1 with fail
 rw [HW0.out,HH.out];have HK:=Lh (scheck_any ⟨qb,bi,ops⟩ ao n cp x W0 HO.out hn hcp HS.out);rw [Hf.out] at HK
 go_wp2_with fail
 refine HK.out.mono ?_;rintro e w1 ⟨rfl,hx1⟩;have Ef:=ext_al w1 (.cells #[.int .i64 f0,.int .i64 f1] 31);have bf1:FtB (w1.alloc (.cells #[.int .i64 f0,.int .i64 f1] 31)) w1.heap.size f0 f1:=⟨heap_alloc_new w1 _⟩;have q0:=bf1.x0;have q1:=bf1.x1;have HX1:=Lh (hx1.trans Ef);have bz:=HFt.out.ext HX1.out;have x0':=bz.x0;have x1':=bz.x1;have g0':=bz.f 0;have g1':=bz.f 1;have bc:=HC.out.ext HX1.out;have v0:=bc.x0;have v1:=bc.x1;have v2:=bc.x2;have HEz:=Lh (HE0.out.trans HX1.out);clear bz bc m0 m1 m2 hx1 Ef bf1 HK Hf HW0 HH
 by_cases hc0:f0=0
 ·obtain ⟨hf1,⟨hq1,hq2⟩,⟨hb1,hb2⟩,hlen,hcode,hx0,hx1⟩:=Hz.out hc0
  obtain ⟨qn,rfl⟩:∃ qn:Nat,qb=(qn:Int):=⟨qb.toNat,by omega⟩;obtain ⟨nb,rfl⟩:∃ nb:Nat,bi=(nb:Int):=⟨bi.toNat,by omega⟩;obtain ⟨xn,rfl⟩:∃ xn:Nat,x=(xn:Int):=⟨x.toNat,by omega⟩;simp only [Int.toNat_natCast] at hx1;have HM':=Lh (show plM want ops 0 (bas xn) (List.replicate nb 0) 0=M from HM.out)
  have HFF:=Lh (show M.f=(F0,F1) by
   have:=HF.out;rw [if_neg (by simp [hc0])] at this
   exact this)
  have hcb:=nf' hc0;have hnl:=HO.out.1
  have hfit:∀ bits:List Int,bits.length=nb->∀ o ∈ ops,opCode o qn bits.length=0/\PlFit o qn bits.length:=fun bits hbl o ho=>by
   rw [hbl];exact ⟨hcode o ho,plFit_of_code (by omega) (by omega) (by omega) (by omega) (hcode o ho)⟩
  have Hfit:=Lh hfit;have Hqn:=Lh (show qn<=12 by omega);have Hnb:=Lh (show nb<=12 by omega);have Hn4:=Lh (show n<=4096 by omega);have Hxn:=Lh (show xn<2 ^ qn by omega);have Hnl:=Lh hnl;have lH1:=HFt.out.lt;clear hf1 hq1 hq2 hb1 hb2 hlen hcode hx0 hx1 HF hc0 Hz HM hfit hnl;have HOw:=Lh (HO.out.ext HX1.out);have HTw:=Lh (HT.out.ext HX1.out);have HBw:=Lh (bru_ext HBr.out HX1.out);have HFw:=Lh (HFt.out.ext HX1.out);clear HO HT HBr HFt HC HS x0' x1' g0' g1' lH1 HX1 HE0
  go_upto_region 4 with fail
  generalize w1.alloc (.cells #[.int .i64 f0,.int .i64 f1] 31)=W1 at *;generalize w1.heap.size=FB at *;have HSt:=Lh (start_any qn nb xn ao n cp W1 Hqn.out Hnb.out Hxn.out);clear q0 q1
  go_wp2_with fail
  refine HSt.out.mono ?_;rintro e w2 ⟨B,R,bw,bb,rfl,hrun⟩;have Hrun:=Lh hrun;clear hrun HSt v0 v1 v2
  go_wp2_with fail
  go_loopg [10] (n+1) (fun kk _ wr=>∃ (i:Nat) (bits:List Int) (tv:Value) (u:Nat) (s:Nat->Nm),RunA W1 wr B R ao n cp i bw (2 ^ qn) (2 ^ qn) bb bits tv u s i/\i<=n/\n+1-i=kk/\bits.length=nb/\u<=i/\u<=tn/\plM want (ops.drop i) i s bits u=M)
  case atStart=>exact ⟨0,_,_,0,_,Hrun.out,Nat.zero_le _,rfl,List.length_replicate,Nat.le_refl _,Nat.zero_le _,HM'.out⟩
  case round =>
   obtain ⟨i,bits,tv,u,s,hr,hi,hk,hbl,hui,hut,hpl⟩:=hrel;obtain ⟨ta2,tc2,rfl⟩:=run_tape hr;obtain ⟨⟨Bq,iq,sq⟩,hq⟩:∃ q,askM bits (ops.drop i) i s=q:=⟨_,rfl⟩;obtain ⟨hiq,hFa,hTr⟩:=plM_ask want bits u ops _ i s rfl Bq iq sq hq;have HAs:=Lh (asks_any W1 wr B R ao n cp i bw qn (2 ^ qn) bb bits (.slice ta2 u tc2) u s ops hr HOw.out Hqn.out Hn4.out (by rw [hbl];exact Hnb.out) (Hfit.out bits hbl) HBw.out hi Bq iq sq hq);obtain ⟨m,hm⟩:∃ m,2 ^ qn=m:=⟨_,rfl⟩;rw [hm] at HAs;have Hm:=Lh hm;have Hk:=Lh hk;have Hbl:=Lh hbl;have Hui:=Lh hui;have Hut:=Lh hut;have Hpl:=Lh hpl;have Hiq:=Lh hiq;clear hr hi hk hbl hui hut hpl hiq hq hm
   cases Bq with
   | false =>
    have Hfa:=Lh (hFa rfl);clear hFa hTr
    go_wp2_with fail
    refine HAs.out.mono ?_;rintro e w3 ⟨rfl,hr3,_⟩;have bz:=HFw.out.ext hr3.ext;have x0':=bz.x0;have x1':=bz.x1;have g0':=bz.f 0;have g1':=bz.f 1;have Hr3:=Lh hr3;have Hbz:=Lh bz;clear bz hr3 HAs;have HMe:=Lh (show M=⟨(0,0),sq,bits,u⟩ from Hpl.out.symm.trans Hfa.out)
    have HF2:=Lh (show F0=0/\F1=0 by
     have:=HFF.out;rw [HMe.out] at this
     exact ⟨(congrArg Prod.fst this).symm,(congrArg Prod.snd this).symm⟩)
    have lF:=HFw.out.lt
    have cg:Chg (H+1) w3 ((w3.setCell ⟨H+1,0,none⟩ (.int .i64 0)).setCell ⟨H+1,1,none⟩ (.int .i64 0)) :=
     Chg.of_only (((Only.refl (H+1) w3).setCell 0 _).setCell 1 _) (((Keep64.refl w3).set (NotW.i64 x0') _).set (NotW.set (NotW.i64 x1') (NotW.i64 x0') (fun _ h=>by cases h)) _)
    have Hend:=Lh ((Hr3.out.base HEz.out).put cg ⟨_,_,_,Hbz.out.row,by decide,by decide⟩ HwH.out (by have:=Hr3.out.hR;omega) (by have:=Hr3.out.hb;omega) (by have:=Hr3.out.hR;omega));have Hiq4:=Lh (show iq<=4096 by have:=Hn4.out;omega);have HEf:=Lh (HEz.out.trans Hr3.out.ext);clear cg lF
    go_wp2_with fail
    refine bodyPost_ret (v:=.tuple #[.pointer (some ⟨R,0,none⟩),.agg #[.int .i64 0,.int .i64 0]]) (by simp [results,Tryz.results23,go_sem,x0',x1']) rfl ⟨_,by rw [HF2.out.1,HF2.out.2],put2x HEf.out HwH.out _ _,fun _=>⟨B,R,iq,bw,bb,.slice ta2 u tc2,rfl,?_,Hiq4.out⟩⟩;rw [HMe.out];have:=Hend.out;rw [<-Hm.out] at this;exact this
   | true =>
    obtain ⟨hpl2,o,hoo,hcn,hk5⟩:=hTr rfl;have hil:iq<ops.length:=(List.getElem?_eq_some_iff.1 hoo).1
    have hdr:ops.drop iq=o :: ops.drop (iq+1):=by
     rw [List.drop_eq_getElem_cons hil,(List.getElem?_eq_some_iff.1 hoo).2]
    have HMo:=Lh (show M=plM want (o :: ops.drop (iq+1)) iq sq bits u by rw [<-Hpl.out,hpl2,hdr]);have Hwl:=Lh (show want.length=tn from HTw.out.1);have Hoo:=Lh hoo;have Hcn:=Lh hcn;have Hk5:=Lh hk5;have Hplf:=Lh (Hfit.out bits Hbl.out o (List.mem_of_getElem? hoo)).2;have Hiql:=Lh (show iq<n by have:=Hnl.out;omega);clear hFa hTr hpl2 hoo hcn hk5 hil hdr
    by_cases hu:u=tn
    ·have HMe:=Lh (HMo.out.trans (plM_out Hcn.out Hk5.out (by rw [Hwl.out];exact hu)))
     have HF2:=Lh (show F0=19/\F1=(iq:Int) by
      have:=HFF.out;rw [HMe.out] at this
      exact ⟨(congrArg Prod.fst this).symm,(congrArg Prod.snd this).symm⟩)
     have bq:((u:Int) == (tn:Int))=true:=by simp [hu]
     clear hu
     go_wp2_with fail
     refine HAs.out.mono ?_;rintro e w3 ⟨rfl,hr3,_⟩;have bz:=HFw.out.ext hr3.ext;have x0':=bz.x0;have x1':=bz.x1;have g0':=bz.f 0;have g1':=bz.f 1;have m4:=hr3.c4;have m1:=hr3.c1;have HEf:=Lh (HEz.out.trans hr3.ext);clear bz hr3 HAs
     go_upto_region 7 with fail
     go_region
     go_wp2_with fail
     exact bodyPost_ret (v:=.tuple #[.pointer none,.agg #[.int .i64 19,.int .i64 (iq:Int)]]) (by simp [results,Tryz.results23,go_sem,x0',x1']) rfl ⟨none,by rw [HF2.out.1,HF2.out.2],Below.drew (put2x HEf.out HwH.out _ _),fun h=>absurd (HF2.out.1 ▸ h) (by decide)⟩
    ·have hlt:u<tn:=by have:=Hut.out;omega
     obtain ⟨tb,to',hta,htb,htc⟩:=HTw.out.2.resolve_left (by omega);subst hta;obtain ⟨v,hv⟩:∃ v,want.getD u 0=v:=⟨_,rfl⟩;have y0:=htc u hlt;rw [hv] at y0
     have bq:((u:Int) == (tn:Int))=false:=by simp;omega
     have u0:(0:Int)<=(u:Int):=by omega
     have u1:(u:Int)<(tn:Int):=by omega
     have Hv:=Lh hv;have Hune:=Lh hu;clear htb htc hu hlt hv
     go_wp2_with fail
     refine HAs.out.mono ?_;rintro e w3 ⟨rfl,hr3,hiqn⟩;have bz:=HFw.out.ext hr3.ext;have x0':=bz.x0;have x1':=bz.x1;have g0':=bz.f 0;have g1':=bz.f 1;have m4:=hr3.c4;have m1:=hr3.c1;have y3:=cellKeep hr3.ext (World.block_lt_of_cell? W1 ⟨tb,to'+u,none⟩ y0) y0;have HEf:=Lh (HEz.out.trans hr3.ext);have Hr3:=Lh (show RunA W1 w3 B R ao n cp iq bw (2 ^ qn) (2 ^ qn) bb bits (.slice ta2 u tc2) u sq iq by rw [Hm.out];exact hr3);have Hiqn:=Lh hiqn;clear bz hr3 HAs y0 hiqn
     by_cases hv01:v=0\/v=1
     ·clear x0' x1' g0' g1' HEf
      rcases hv01 with rfl | rfl
      ·have HMt:=Lh (HMo.out.trans (plM_take Hcn.out (by have:=Hk5.out;omega) (by rw [Hwl.out];exact Hune.out) Hv.out (by decide)))
       have HTk:=Lh (fun (wx:World) (hx:RunA W1 wx B R ao n cp iq bw (2 ^ qn) (2 ^ qn) bb bits (.slice ta2 u tc2) u sq iq)=>take_any W1 wx B R ao n cp iq bw qn (2 ^ qn) bb bits (.slice ta2 u tc2) u sq ops 0 (by decide) o hx HOw.out Hqn.out Hn4.out Hoo.out Hplf.out (by have:=Hk5.out;omega) (by have:=Hui.out;have:=Hiq.out;have:=Hiqn.out;have:=Hn4.out;omega));rw [Hm.out] at HTk
       go_wp2_with fail
       refine (HTk.out w3 (by have h3:=Hr3.out;rw [Hm.out] at h3;exact h3)).mono ?_;rintro e w4 ⟨⟨x4,rfl⟩,tv4,hr4⟩;have H4:=Lh hr4;clear hr4 HTk m4 m1 y3
       go_wp2_with fail
       go_roundg (n+1-(iq+1))
       case measure=>have:=Hk.out;have:=Hiq.out;have:=Hiqn.out;omega
       case rel=>exact ⟨iq+1,_,tv4,u+1,_,by rw [Hm.out];exact H4.out,by have:=Hiql.out;omega,rfl,by rw [tkB_len];exact Hbl.out,by have:=Hui.out;have:=Hiq.out;omega,by have:=Hune.out;have:=Hut.out;omega,HMt.out.symm⟩
      ·have HMt:=Lh (HMo.out.trans (plM_take Hcn.out (by have:=Hk5.out;omega) (by rw [Hwl.out];exact Hune.out) Hv.out (by decide)))
       have HTk:=Lh (fun (wx:World) (hx:RunA W1 wx B R ao n cp iq bw (2 ^ qn) (2 ^ qn) bb bits (.slice ta2 u tc2) u sq iq)=>take_any W1 wx B R ao n cp iq bw qn (2 ^ qn) bb bits (.slice ta2 u tc2) u sq ops 1 (by decide) o hx HOw.out Hqn.out Hn4.out Hoo.out Hplf.out (by have:=Hk5.out;omega) (by have:=Hui.out;have:=Hiq.out;have:=Hiqn.out;have:=Hn4.out;omega));rw [Hm.out] at HTk
       go_wp2_with fail
       refine (HTk.out w3 (by have h3:=Hr3.out;rw [Hm.out] at h3;exact h3)).mono ?_;rintro e w4 ⟨⟨x4,rfl⟩,tv4,hr4⟩;have H4:=Lh hr4;clear hr4 HTk m4 m1 y3
       go_wp2_with fail
       go_roundg (n+1-(iq+1))
       case measure=>have:=Hk.out;have:=Hiq.out;have:=Hiqn.out;omega
       case rel=>exact ⟨iq+1,_,tv4,u+1,_,by rw [Hm.out];exact H4.out,by have:=Hiql.out;omega,rfl,by rw [tkB_len];exact Hbl.out,by have:=Hui.out;have:=Hiq.out;omega,by have:=Hune.out;have:=Hut.out;omega,HMt.out.symm⟩
     ·have kn0:(v != 0)=true:=by simp;omega
      have kn1:(v != 1)=true:=by simp;omega
      have HMe:=Lh (HMo.out.trans (plM_bad Hcn.out (by have:=Hk5.out;omega) (by rw [Hwl.out];exact Hune.out) Hv.out (by omega)))
      have HF2:=Lh (show F0=20/\F1=(iq:Int) by
       have:=HFF.out;rw [HMe.out] at this
       exact ⟨(congrArg Prod.fst this).symm,(congrArg Prod.snd this).symm⟩)
      clear hv01
      go_upto_region 10 with fail
      go_region
      go_wp2_with fail
      exact bodyPost_ret (v:=.tuple #[.pointer none,.agg #[.int .i64 20,.int .i64 (iq:Int)]]) (by simp [results,Tryz.results23,go_sem,x0',x1']) rfl ⟨none,by rw [HF2.out.1,HF2.out.2],Below.drew (put2x HEf.out HwH.out _ _),fun h=>absurd (HF2.out.1 ▸ h) (by decide)⟩
 ·have hcb:=nt hc0
  have HFF:=Lh (show F0=f0/\F1=f1 by
   have:=HF.out;rw [if_pos hc0] at this
   exact ⟨(congrArg Prod.fst this).symm,(congrArg Prod.snd this).symm⟩)
  have Hc0:=Lh hc0;clear HF hc0 Hz
  go_upto_region 3 with fail
  go_region
  go_wp2_with fail
  exact bodyPost_ret (v:=.tuple #[.pointer none,.agg #[.int .i64 f0,.int .i64 f1]]) (by simp [results,Tryz.results23,go_sem,x0',x1']) rfl ⟨none,by rw [HFF.out.1,HFF.out.2],Below.drew (put2x HEz.out HwH.out _ _),fun h=>absurd (HFF.out.1 ▸ h) Hc0.out⟩
theorem bC_set (bits:List Int) (k:Nat) (v:Int):bC (bits.set k v)=(bC bits).setIfInBounds k (.int .i64 v):=by
 unfold bC
 simp [List.map_set]
theorem bC_get (bits:List Int) {k:Nat} (h:k<bits.length):(bC bits)[k]?=some (.int .i64 (bits.getD k 0)):=by
 unfold bC;rw [List.getElem?_toArray,List.getElem?_map,List.getElem?_eq_getElem h,List.getD_eq_getElem?_getD,List.getElem?_eq_getElem h]
 rfl
structure PlA (w0 w:World) (g b m:Nat) (s:Nat->Nm) (bits:List Int) (N:Nat):Prop where
 ext:Ext w0 w
 bit:w.heap[g]?=some (.cells (bC bits) 3 (0,0))
 st:RsAt (fun k=>k≠g) w b m s 8200 4100
 hg:w0.heap.size<=g
 amp:∀ x,Amp N (s x)
section
variable {w0 w w':World} {g b m:Nat} {s s':Nat->Nm} {bits:List Int} {N N':Nat}
theorem PlA.ltg (h:PlA w0 w g b m s bits N):g<w.heap.size:=(gS.1 h.bit).1
theorem PlA.lim (h:PlA w0 w g b m s bits N):LimQ (fun k=>k≠g) w:=LimQ.but h.ltg
theorem PlA.ne (h:PlA w0 w g b m s bits N):b≠g:=by
 intro e;obtain ⟨cs,t,fr,h1,h2⟩:=h.st.no;rw [e,h.bit] at h1;injection h1 with h1;injection h1 with _ h1 _;exact h2 h1.symm
theorem PlA.ext' (h:PlA w0 w g b m s bits N) (k:Ext w w'):PlA w0 w' g b m s bits N:=⟨h.ext.trans k,(k.block _ h.ltg).trans h.bit,h.st.ext k,h.hg,h.amp⟩
theorem PlA.le (h:PlA w0 w g b m s bits N) (k:N<=N'):PlA w0 w g b m s bits N':=⟨h.ext,h.bit,h.st,h.hg,fun x=>(h.amp x).le k⟩
theorem PlA.to (h:PlA w0 w g b m s bits N) (k:Ext w w') {b':Nat} (hs:RsAt (fun k=>k≠g) w' b' m s' 8200 4100) (ha:∀ x,Amp N' (s' x)):PlA w0 w' g b' m s' bits N':=⟨h.ext.trans k,(k.block _ h.ltg).trans h.bit,hs,h.hg,ha⟩
theorem PlA.ints (h:PlA w0 w g b m s bits N) {nb:Nat} (hb:bits.length=nb):IntsAt w (some ⟨g,0,none⟩) nb bits:=by
 refine ⟨hb,?_⟩
 by_cases e:nb=0
 ·exact Or.inl e
 ·refine Or.inr ⟨g,0,rfl,h.ltg,fun t ht=>?_⟩
  rw [cell_of_row w g (0+t) _ _ (0,0) h.bit,Nat.zero_add,bC_get bits (by omega)]
theorem PlA.cell (h:PlA w0 w g b m s bits N) {k:Nat} (hk:k<bits.length):w.cell? ⟨g,k,none⟩=some (.int .i64 (bits.getD k 0)):=by
 rw [cell_of_row w g k _ _ (0,0) h.bit,bC_get bits hk]
theorem PlA.fr (h:PlA w0 w g b m s bits N) (k:Nat):w.frozen? ⟨g,k,none⟩=false:=frozen_of_row w g k _ _ h.bit
theorem PlA.put (h:PlA w0 w g b m s bits N) (k:Nat) (v:Int):PlA w0 (w.setCell ⟨g,k,none⟩ (.int .i64 v)) g b m s (bits.set k v) N:=by
 have hb:=heap_setCell_same w g k _ _ (.int .i64 v) h.bit;rw [<-bC_set] at hb;have hc:ChZ g w (w.setCell ⟨g,k,none⟩ (.int .i64 v)):=ChZ.of_only ((Only.refl g w).setCell k _);exact ⟨hc.ext h.ext h.hg,hb,h.st.apart hc (fun e=>e rfl) (fun _=>⟨_,_,hb⟩) h.ne,h.hg,h.amp⟩
theorem PlA.base {W:World} (h:PlA W w g b m s bits N) (k:Ext w0 W):PlA w0 w g b m s bits N:=⟨k.trans h.ext,h.bit,h.st,Nat.le_trans k.size h.hg,h.amp⟩
theorem PlA.far (h:PlA w0 w g b m s bits N) {k:Nat} (hc:ChZ k w w') (hn:NoI w k) (h0:w0.heap.size<=k) (h1:g≠k) (h2:b≠k):PlA w0 w' g b m s bits N:=⟨hc.ext h.ext h0,hc.row h.bit h1,h.st.chz hc hn h2,h.hg,h.amp⟩
end
theorem PlA.new {w0 w1 w2:World} {b m nb:Nat} {s:Nat->Nm} {Qc:Nat->Prop} (h:RsAt Qc w1 b m s 8200 4100) (he:Ext w0 w1) (hr:IRow w2 w1.heap.size (List.replicate nb 0)) (k:Ext w1 w2) (ha:∀ x,Amp 0 (s x)):PlA w0 w2 w1.heap.size b m s (List.replicate nb 0) 0:=by
 refine ⟨he.trans k,?_,h.fresh k (Nat.le_refl _) hr.lt,he.size,ha⟩;obtain ⟨⟨e,rfl⟩,h1⟩:=hr;rw [h1];unfold bC
 simp
end Go.Proofs.YtfjnlopbmkimiaaGreatDoor
