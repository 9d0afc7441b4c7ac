/-
  The program: a gate is done (do). A slice of ints that grows by one: its block holds ints alone. The program: a run that is under way, in memory. The program: are an operation's conditions met. The program: asks: operations are done up to the next one that asks for an outcome.
-/
import Derived.Test.YtfjnlopbmkimiaaGreatDoorS21Yjq
namespace Go.Proofs.YtfjnlopbmkimiaaGreatDoor
set_option maxRecDepth 100000
set_option maxHeartbeats 4000000
open Go.RowKit
open Go.RowKit Go.Shelf
theorem anyT_two {P:Program} {ops:Array Oper} {Q:Exit->Act->World->Prop} {md:Region.Mode} {S T:World->Prop} {k:Nat} {i j:Nat} {o o':Oper} {n:Nat} {l:Array Bool} {a:Act} {w:World} (hr:Region.ready md ops l=[i,j]) (ho:ops[i]?=some o) (ho':ops[j]?=some o')
  (h:∀ K':Act->World->Prop,Shut (∀ a w,T w->((l.setIfInBounds i true).getD k true=false->S w)->anyT P md ops Q k S T n (l.setIfInBounds i true) a w->K' a w)->if Region.wanted o (yielded ops a.tmps)=true then Oper.wp P o a w K' Q else K' (a.put o.dst undef) w)
  (h':∀ K':Act->World->Prop,Shut (∀ a w,T w->((l.setIfInBounds j true).getD k true=false->S w)->anyT P md ops Q k S T n (l.setIfInBounds j true) a w->K' a w)->if Region.wanted o' (yielded ops a.tmps)=true then Oper.wp P o' a w K' Q else K' (a.put o'.dst undef) w) :
  anyT P md ops Q k S T (n+1) l a w:=by
 refine ⟨fun h0=>(by rw [hr] at h0;cases h0),fun t ht=>?_⟩;rw [hr] at ht
 rcases List.mem_cons.1 ht with rfl | ht
 ·exact wpOp_step ho (fun K' hK=>h K' (fun a w hT hS hW=>hK a w ⟨hT,hS,hW⟩))
 ·rcases List.mem_singleton.1 ht with rfl
  exact wpOp_step ho' (fun K' hK=>h' K' (fun a w hT hS hW=>hK a w ⟨hT,hS,hW⟩))
theorem ints_one (w:World) (x:Int):IntsAt (w.alloc (.cells #[.int .i64 x] 3)) (some ⟨w.heap.size,0,none⟩) 1 [x] :=
 ⟨rfl,Or.inr ⟨w.heap.size,0,rfl,by simp,fun t ht=>by
  obtain rfl:t=0:=by omega
  exact new1 w _ _⟩⟩
theorem q1_lt {q:Int} {n:Nat} (_h0:0<=q) (hq:q<n) (hn:n<=12):q1 q<4096:=by
 unfold q1;exact Nat.lt_of_lt_of_le (Nat.pow_lt_pow_right (by decide) (show q.toNat<12 by omega)) (by decide)
theorem msk_4096 {l:List Int} {n:Nat} (h:∀ c ∈ l,0<=c/\c<(n:Int)) (hn:n<=12):msk l<4096:=msk_lt (n:=12) (fun c hc=>by have:=h c hc;omega)
theorem do_any (b cp qn bb:Nat) (o:Gop) (a1:Option Addr) (n1 c1:Nat) (a2:Option Addr) (n2 c2:Nat) (s:Nat->Nm) (N:Nat) (w:World) (h:WvA w b (2 ^ qn) s N) (hqn:qn<=12) (hN:N<=90000) (hbr:Bru w)
  (hf:PlFit o qn bb) (hph:o.kind=1->o.ctl=[]) (hk:o.kind<5) (hI:IntsAt w a1 n1 o.ctl) (hn1:n1<=1000) :
  Calls Tryz.prog 83 #[.slice (some ⟨b,0,none⟩) (2 ^ qn) cp,.agg #[.int .i64 o.kind,.int .i64 o.k,.slice a1 n1 c1,.int .i64 o.q,.int .i64 o.bit,.slice a2 n2 c2]] w fun e w'=>(∃ v,e=.returned v)/\WvA w' b (2 ^ qn) (gt o s) (N+1)/\Chg b w w':=by
 have hm:=msk_4096 hf.ctl hqn;have hq1:=q1_lt hf.q.1 hf.q.2 hqn;have hn4:2 ^ qn<=4096:=Nat.le_trans (Nat.pow_le_pow_right (by decide) hqn) (by decide)
 have hctl19:∀ c ∈ o.ctl,0<=c/\c<19:=fun c hc=>by have:=hf.ctl c hc;omega
 have hq19:∀ c ∈ [o.q],0<=c/\c<19:=fun c hc=>by
  rw [List.mem_singleton] at hc;have:=hf.q;omega
 have hin:∀ x,x<2 ^ qn->x ||| q1 o.q<2 ^ qn:=fun x hx=>Nat.or_lt_two_pow hx (by unfold q1;exact Nat.pow_lt_pow_right (by decide) (by have:=hf.q;omega))
 have hoff:(msk o.ctl).testBit o.q.toNat=false:=msk_off hf.q.1 (fun c hc=>⟨(hf.ctl c hc).1,hf.ne c hc⟩)
 have hne:∀ x,x &&& (msk o.ctl ||| q1 o.q)=msk o.ctl->x≠x ||| q1 o.q:=fun x hx e=>by
  have h1:=((one_off hoff).1 hx).2;have h2:=congrArg (fun z=>z.testBit o.q.toNat) e;simp only [Nat.testBit_or,q1_bit] at h2;unfold bt at h1;rw [h1] at h2
  simp at h2
 have X2:=Lh (fun (w':World) (s':Nat->Nm) (hw:WvA w' b (2 ^ qn) s' N)=>exchange_any b (2 ^ qn) cp (msk o.ctl) (q1 o.q) s' N w' hw hn4 hm hq1 hin hne);have X3:=Lh (fun (w':World) (s':Nat->Nm) (hw:WvA w' b (2 ^ qn) s' N) (hB:Bru w')=>mix_any b (2 ^ qn) cp (msk o.ctl) (q1 o.q) s' N w' hw hn4 hm hq1 hN hB hin hne);have X1:=Lh (fun (w':World) (m:Nat) (hm:m<4096) (s':Nat->Nm) (hw:WvA w' b (2 ^ qn) s' N)=>turn_any b (2 ^ qn) cp m o.k s' N w' hw hn4 hm (by omega));have G1:=Lh (fun (w':World) (hw:WvA w' b (2 ^ qn) (tuS 0 o.k (2 ^ qn) s) (N+4096)) (e:o.kind=1)=>hw.is (M:=N+1) (fun y hy=>ph_gt e (hph e) hy) (gt_amp h.amp));have G4:=Lh (fun (w':World) (hw:WvA w' b (2 ^ qn) (tuS (msk o.ctl ||| q1 o.q) o.k (2 ^ qn) s) (N+4096)) (e:o.kind=4)=>hw.is (M:=N+1) (fun y hy=>p_gt (o:=o) e hy) (gt_amp h.amp));have G2:=Lh (fun (w':World) (hw:WvA w' b (2 ^ qn) (exS (msk o.ctl) (q1 o.q) (2 ^ qn) s) (N+4096)) (e:o.kind=2)=>hw.is (M:=N+1) (fun y hy=>x_gt hf e hy) (gt_amp h.amp));have G3:=Lh (fun (w':World) (hw:WvA w' b (2 ^ qn) (miS (msk o.ctl) (q1 o.q) (2 ^ qn) s) (N+4096)) (e:o.kind=3)=>hw.is (M:=N+1) (fun y hy=>h_gt hf e hy) (gt_amp h.amp));obtain ⟨kd,hkd⟩:∃ kd,o.kind=kd:=⟨_,rfl⟩;obtain ⟨k,hkk⟩:∃ k,o.k=k:=⟨_,rfl⟩;obtain ⟨q,hq⟩:∃ q,o.q=q:=⟨_,rfl⟩;obtain ⟨bt0,hbt⟩:∃ bt0,o.bit=bt0:=⟨_,rfl⟩;obtain ⟨mk,hmk⟩:∃ mk,msk o.ctl=mk:=⟨_,rfl⟩;obtain ⟨mq,hmq⟩:∃ mq,q1 o.q=mq:=⟨_,rfl⟩;obtain ⟨n,hnn⟩:∃ n,2 ^ qn=n:=⟨_,rfl⟩
 have hkd4:kd=1\/kd=2\/kd=3\/kd=4:=by have:=hf.kd;omega
 rw [hkd,hkk,hq,hbt];rw [hnn] at h X1 X2 X3 G1 G2 G3 G4 ⊢;rw [hmk,hmq] at X2 X3 G2 G3 G4;rw [hmk] at hm;rw [hmq] at hq1;rw [hkk] at X1 G1 G4;rw [hkd] at G1 G2 G3 G4;have Hset1:=Lh (fun (wx:World) (hx:IntsAt wx a1 n1 o.ctl)=>set_any a1 n1 c1 o.ctl wx hx hn1 hctl19);have Hset2:=Lh (fun (wx:World) (ao:Option Addr) (hx:IntsAt wx ao 1 [o.q])=>set_any ao 1 1 [o.q] wx hx (by decide) hq19);rw [hmk] at Hset1;rw [msk_one,hmq,hq] at Hset2;have ho4:mk ||| mq<4096:=Nat.or_lt_two_pow (n:=12) hm hq1;have ho8:bits .or .i64 (mk:Int) (mq:Int)=((mk ||| mq:Nat):Int):=or_i64 mk mq (by omega) (by omega);obtain ⟨mo,hmo⟩:∃ mo,mk ||| mq=mo:=⟨_,rfl⟩;rw [hmo] at ho8 ho4 G4;obtain ⟨H,hH⟩:∃ H,w.heap.size=H:=⟨_,rfl⟩;obtain ⟨W,hW⟩:∃ W,w.alloc (.cells #[.int .i64 kd,.int .i64 k,.slice a1 n1 c1,.int .i64 q,.int .i64 bt0,.slice a2 n2 c2] 60)=W:=⟨_,rfl⟩
 have E1:Ext w W:=by rw [<-hW];exact ext_alloc _ _
 have rH:W.heap[H]?=some (.cells #[.int .i64 kd,.int .i64 k,.slice a1 n1 c1,.int .i64 q,.int .i64 bt0,.slice a2 n2 c2] 60 (0,0)):=by rw [<-hW,<-hH];exact heap_alloc_new w _
 have lH:=(gS.1 rH).1
 have v0:W.cell? ⟨H,0,none⟩=some (.int .i64 kd):=by rw [cell_of_row W H 0 _ _ (0,0) rH];rfl
 have v1:W.cell? ⟨H,1,none⟩=some (.int .i64 k):=by rw [cell_of_row W H 1 _ _ (0,0) rH];rfl
 have v2:W.cell? ⟨H,2,none⟩=some (.slice a1 n1 c1):=by rw [cell_of_row W H 2 _ _ (0,0) rH];rfl
 have v3:W.cell? ⟨H,3,none⟩=some (.int .i64 q):=by rw [cell_of_row W H 3 _ _ (0,0) rH];rfl
 have HW:=Lh hW;have HH:=Lh hH;have HI:=Lh (hI.ext E1);have HwA:=Lh (h.ext E1);have HBr:=Lh (bru_ext hbr E1);have HE1:=Lh E1;have Hm4:=Lh ho4;clear hW hH hI h hbr E1 rH hf hph hk hn1 hqn hN hm hq1 hn4 hctl19 hq19 hin hoff hne hkd hkk hq hbt hmk hmq hnn hmo ho4
 go_enter Tryz.func83,Tryz.ntmps83
 go_upto_region 1 with fail
 rw [HW.out,HH.out];have d0:Ext W W.drew:=Below.drew (Ext.refl _);refine wp_mono (Q:=fun e a' w'=>e=.normal/\Ext W w'/\∃ u11,a'=⟨#[.slice (some ⟨b,0,none⟩) n cp,.agg #[.int .i64 kd,.int .i64 k,.slice a1 n1 c1,.int .i64 q,.int .i64 bt0,.slice a2 n2 c2],undef,.pointer (some ⟨H,0,none⟩),.int .i64 (mk:Int),.int .i64 (mq:Int),.pointer (some ⟨H,2,none⟩),.slice a1 n1 c1,.int .i64 (mk:Int),.pointer (some ⟨H,3,none⟩),.int .i64 q,u11,.int .i64 (mq:Int),undef,undef,undef,undef,undef,undef,undef,undef,undef,undef,undef,undef,undef,undef,undef,undef,undef,undef,undef,undef,undef,undef,undef,undef,undef,undef,undef,undef,undef],[]⟩) ?_ ?_
 ·refine wp_region_any (by kernel_rfl) (anyT_plain (k:=99) (S:=fun w'=>True) (T:=fun w'=>w'.cell? ⟨H,2,none⟩=some (.slice a1 n1 c1)/\w'.cell? ⟨H,3,none⟩=some (.int .i64 q)) _ _ _ _ ?_)
  show anyT _ _ _ _ _ _ _ 9 #[false,false,false,false,false,false,false,false,false] _ _
  have hT:W.drew.cell? ⟨H,2,none⟩=some (.slice a1 n1 c1)/\W.drew.cell? ⟨H,3,none⟩=some (.int .i64 q):=⟨cellKeep d0 lH v2,cellKeep d0 lH v3⟩;have hHeld:True:=trivial;refine anyT_takeT (i:=0) (v:=?_) rfl (by decide) (by kernel_rfl) (by kernel_rfl) (by kernel_rfl) (fun _ _ _ h=>nomatch h.1) (Or.inl ⟨by rfl,?_⟩) hT (fun _=>hHeld) ?_;rotate_left 1
  ·intro w hSw
   go_simp
   try with_reducible rfl
  show anyT _ _ _ _ _ _ _ _ _ (Act.put _ (some 6) _) _
  simp only [Act.put,sx0,sx1,sx2];refine anyT_takeT (i:=1) (v:=?_) rfl (by decide) (by kernel_rfl) (by kernel_rfl) (by kernel_rfl) (fun _ _ _ h=>nomatch h.1) (Or.inl ⟨by rfl,?_⟩) hT (fun _=>hHeld) ?_;rotate_left 1
  ·intro w hSw
   go_simp
   try with_reducible rfl
  show anyT _ _ _ _ _ _ _ _ _ (Act.put _ (some 7) _) _
  simp only [Act.put,sx0,sx1,sx2];refine anyT_takeT (i:=3) (v:=?_) rfl (by decide) (by kernel_rfl) (by kernel_rfl) (by kernel_rfl) (fun _ _ _ h=>nomatch h.1) (Or.inl ⟨by rfl,?_⟩) hT (fun _=>hHeld) ?_;rotate_left 1
  ·intro w hSw
   go_simp
   try with_reducible rfl
  show anyT _ _ _ _ _ _ _ _ _ (Act.put _ (some 9) _) _
  simp only [Act.put,sx0,sx1,sx2];refine anyT_takeT (i:=4) (v:=?_) rfl (by decide) (by kernel_rfl) (by kernel_rfl) (by kernel_rfl) (fun _ _ _ h=>nomatch h.1) (Or.inl ⟨by rfl,?_⟩) hT (fun _=>hHeld) ?_;rotate_left 1
  ·intro w hSw
   go_simp
   try with_reducible rfl
  show anyT _ _ _ _ _ _ _ _ _ (Act.put _ (some 10) _) _
  simp only [Act.put,sx0,sx1,sx2];clear hT hHeld;refine anyT_two (i:=2) (j:=5) (by kernel_rfl) rfl rfl (fun Kk hKk=>?_) (fun Kk hKk=>?_)
  ·go_simp
   (go_at_call 117;refine (Hset1.out W.drew (HI.out.ext d0)).mono ?_;rintro e w2 ⟨rfl,rfl⟩)
   go_wp2_with fail
   refine hKk.out _ _ (⟨cellKeep d0 lH v2,cellKeep d0 lH v3⟩) (fun _=>trivial) ?_;clear hKk Kk;simp only [sx0,sx1,sx2];have d1:Ext W (W.drew.alloc (.cells #[.int .i64 q] 3)):=d0.trans (ext_alloc _ _);refine anyT_one (i:=5) (by kernel_rfl) rfl (fun Kk hKk=>?_)
   go_simp
   go_wp2_with fail
   refine hKk.out _ _ (⟨cellKeep d1 lH v2,cellKeep d1 lH v3⟩) (fun _=>trivial) ?_;clear hKk Kk;simp only [sx0,sx1,sx2];refine anyT_one (i:=6) (by kernel_rfl) rfl (fun Kk hKk=>?_)
   go_simp
   (go_at_call 117;refine (Hset2.out _ _ (ints_one W.drew q)).mono ?_;rintro e w2 ⟨rfl,rfl⟩)
   go_wp2_with fail
   refine hKk.out _ _ (⟨cellKeep d1 lH v2,cellKeep d1 lH v3⟩) (fun _=>trivial) ?_;clear hKk Kk;simp only [sx0,sx1,sx2];have hT:(W.drew.alloc (.cells #[.int .i64 q] 3)).cell? ⟨H,2,none⟩=some (.slice a1 n1 c1)/\(W.drew.alloc (.cells #[.int .i64 q] 3)).cell? ⟨H,3,none⟩=some (.int .i64 q):=⟨cellKeep d1 lH v2,cellKeep d1 lH v3⟩;have hHeld:True:=trivial;refine anyT_takeT (i:=7) (v:=?_) rfl (by decide) (by kernel_rfl) (by kernel_rfl) (by kernel_rfl) (fun _ _ _ h=>nomatch h.1) (Or.inl ⟨by rfl,?_⟩) hT (fun _=>hHeld) ?_;rotate_left 1
   ·intro w hSw
    go_simp
    try with_reducible rfl
   show anyT _ _ _ _ _ _ _ _ _ (Act.put _ (some 4) _) _
   simp only [Act.put,sx0,sx1,sx2];refine anyT_takeT (i:=8) (v:=?_) rfl (by decide) (by kernel_rfl) (by kernel_rfl) (by kernel_rfl) (fun _ _ _ h=>nomatch h.1) (Or.inl ⟨by rfl,?_⟩) hT (fun _=>hHeld) ?_;rotate_left 1
   ·intro w hSw
    go_simp
    try with_reducible rfl
   show anyT _ _ _ _ _ _ _ _ _ (Act.put _ (some 5) _) _
   simp only [Act.put,sx0,sx1,sx2];refine anyT_done (by kernel_rfl) ?_ _;exact ⟨rfl,d1,_,rfl⟩
  ·go_simp
   go_wp2_with fail
   have d1:Ext W (W.drew.alloc (.cells #[.int .i64 q] 3)):=d0.trans (ext_alloc _ _);refine hKk.out _ _ (⟨cellKeep d1 lH v2,cellKeep d1 lH v3⟩) (fun _=>trivial) ?_;clear hKk Kk;simp only [sx0,sx1,sx2];refine anyT_one (i:=2) (by kernel_rfl) rfl (fun Kk hKk=>?_)
   go_simp
   (go_at_call 117;refine (Hset1.out _ (HI.out.ext d1)).mono ?_;rintro e w2 ⟨rfl,rfl⟩)
   go_wp2_with fail
   refine hKk.out _ _ (⟨cellKeep d1 lH v2,cellKeep d1 lH v3⟩) (fun _=>trivial) ?_;clear hKk Kk;simp only [sx0,sx1,sx2];refine anyT_one (i:=6) (by kernel_rfl) rfl (fun Kk hKk=>?_)
   go_simp
   (go_at_call 117;refine (Hset2.out _ _ (ints_one W.drew q)).mono ?_;rintro e w2 ⟨rfl,rfl⟩)
   go_wp2_with fail
   refine hKk.out _ _ (⟨cellKeep d1 lH v2,cellKeep d1 lH v3⟩) (fun _=>trivial) ?_;clear hKk Kk;simp only [sx0,sx1,sx2];have hT:(W.drew.alloc (.cells #[.int .i64 q] 3)).cell? ⟨H,2,none⟩=some (.slice a1 n1 c1)/\(W.drew.alloc (.cells #[.int .i64 q] 3)).cell? ⟨H,3,none⟩=some (.int .i64 q):=⟨cellKeep d1 lH v2,cellKeep d1 lH v3⟩;have hHeld:True:=trivial;refine anyT_takeT (i:=7) (v:=?_) rfl (by decide) (by kernel_rfl) (by kernel_rfl) (by kernel_rfl) (fun _ _ _ h=>nomatch h.1) (Or.inl ⟨by rfl,?_⟩) hT (fun _=>hHeld) ?_;rotate_left 1
   ·intro w hSw
    go_simp
    try with_reducible rfl
   show anyT _ _ _ _ _ _ _ _ _ (Act.put _ (some 4) _) _
   simp only [Act.put,sx0,sx1,sx2];refine anyT_takeT (i:=8) (v:=?_) rfl (by decide) (by kernel_rfl) (by kernel_rfl) (by kernel_rfl) (fun _ _ _ h=>nomatch h.1) (Or.inl ⟨by rfl,?_⟩) hT (fun _=>hHeld) ?_;rotate_left 1
   ·intro w hSw
    go_simp
    try with_reducible rfl
   show anyT _ _ _ _ _ _ _ _ _ (Act.put _ (some 5) _) _
   simp only [Act.put,sx0,sx1,sx2];refine anyT_done (by kernel_rfl) ?_ _;exact ⟨rfl,d1,_,rfl⟩
 rintro e a' V ⟨rfl,hV,u11,rfl⟩;have v0:=cellKeep hV lH v0;have v1:=cellKeep hV lH v1;have HwV:=Lh (HwA.out.ext hV);have HBV:=Lh (bru_ext HBr.out hV);have HEV:=Lh (HE1.out.trans hV);clear v2 v3 hV HwA HBr d0 lH HI HW HH HE1 Hset1 Hset2
 rcases hkd4 with rfl | rfl | rfl | rfl
 ·clear G2 G3 G4 X2 X3 ho8 Hm4 HBV
  go_wp2_with fail
  refine (X1.out V 0 (by decide) s HwV.out).mono ?_;rintro e w2 ⟨⟨v,rfl⟩,hw,hc⟩;have Hend:=Lh (show WvA w2 b n (gt o s) (N+1)/\Chg b w w2 from ⟨G1.out w2 hw (by trivial),(Chg.of_ext HEV.out).trans hc⟩);clear hw hc G1 X1 v0 v1
  go_wp2_with fail
  go_end0
  exact ⟨⟨_,rfl⟩,Hend.out⟩
 ·clear G1 G3 G4 X1 X3 ho8 Hm4 HBV
  go_wp2_with fail
  refine (X2.out V s HwV.out).mono ?_;rintro e w2 ⟨⟨v,rfl⟩,hw,hc⟩;have Hend:=Lh (show WvA w2 b n (gt o s) (N+1)/\Chg b w w2 from ⟨G2.out w2 hw (by trivial),(Chg.of_ext HEV.out).trans hc⟩);clear hw hc G2 X2 v0 v1
  go_wp2_with fail
  go_end0
  exact ⟨⟨_,rfl⟩,Hend.out⟩
 ·clear G1 G2 G4 X1 X2 ho8 Hm4
  go_wp2_with fail
  refine (X3.out V s HwV.out HBV.out).mono ?_;rintro e w2 ⟨⟨v,rfl⟩,hw,hc⟩;have Hend:=Lh (show WvA w2 b n (gt o s) (N+1)/\Chg b w w2 from ⟨G3.out w2 hw (by trivial),(Chg.of_ext HEV.out).trans hc⟩);clear hw hc G3 X3 v0 v1
  go_wp2_with fail
  go_end0
  exact ⟨⟨_,rfl⟩,Hend.out⟩
 ·clear G1 G2 G3 X2 X3 HBV
  go_wp2_with fail
  refine (X1.out V mo Hm4.out s HwV.out).mono ?_;rintro e w2 ⟨⟨v,rfl⟩,hw,hc⟩;have Hend:=Lh (show WvA w2 b n (gt o s) (N+1)/\Chg b w w2 from ⟨G4.out w2 hw (by trivial),(Chg.of_ext HEV.out).trans hc⟩);clear hw hc G4 X1 v0 v1 ho8
  go_wp2_with fail
  go_end0
  exact ⟨⟨_,rfl⟩,Hend.out⟩
def OwnI (w:World) (e:TypeId) (v:Value) (l:List Int):Prop :=
 (v=.slice none 0 0/\l=[]) \/
 ∃ g cap cur,v=.slice (some ⟨g,0,none⟩) l.length cap/\w.heap[g]?=some (.cells cur e (0,0))/\l.length<=cap/\cap<=maxLen/\cur.size=cap/\cur.toList.take l.length=iC l/\∀ u ∈ cur.toList,∃ x:Int,u=.int .i64 x
theorem iC_i64 (l:List Int):∀ u ∈ iC l,∃ x:Int,u=.int .i64 x:=fun u hu=>by
 unfold iC at hu;obtain ⟨x,_,rfl⟩:=List.mem_map.1 hu;exact ⟨x,rfl⟩
theorem zero_i64 (n:Nat):∀ u ∈ (Builtin.zeroCells (Value.int .i64 0).cells n).toList,∃ x:Int,u=.int .i64 x:=by
 intro u hu
 simp [Builtin.zeroCells,Value.cells,Nat.mod_one] at hu
 exact ⟨0,hu.2.symm⟩
theorem ownI_new (w:World) (e:TypeId) (l:List Int) (x:Int) (old:Nat) (v:Value) (hb:l.length<=1000000) :
  OwnI (w.drew.alloc (.cells ((iC l).toArray++(iC [x]).toArray++Builtin.zeroCells (Value.int .i64 0).cells (grownCap w (l.length+1) old e-(l.length+1))) e)) e
    (.slice (some ⟨w.heap.size,0,none⟩) (l.length+1) (grownCap w (l.length+1) old e)) (l++[x]) /\
   Apd w (w.drew.alloc (.cells ((iC l).toArray++(iC [x]).toArray++Builtin.zeroCells (Value.int .i64 0).cells (grownCap w (l.length+1) old e-(l.length+1))) e)) v
    (.slice (some ⟨w.heap.size,0,none⟩) (l.length+1) (grownCap w (l.length+1) old e)):=by
 have hge:=grownCap_ge w (l.length+1) old e;have hcm:grownCap w (l.length+1) old e<=maxLen:=grownCap_le_maxLen w _ old e (by unfold maxLen;omega);refine ⟨Or.inr ⟨w.heap.size,_,_,by rw [List.length_append];rfl,heap_alloc_new w.drew _,by rw [List.length_append];exact hge,hcm,?_,?_,?_⟩,⟨⟨rfl,rfl,rfl,by simp,fun k hk _=>Below.heap_alloc w.drew _ k hk⟩,Or.inr ⟨_,rfl,Nat.le_refl _⟩⟩⟩
 ·have hz1:(Value.int IntKind.i64 0).cells.size=1:=rfl
  simp only [Array.size_append,List.size_toArray,size_zeroCells,hz1,iC_length,List.length_singleton];omega
 ·simp only [Array.toList_append]
  have e1:iC l++iC [x]=iC (l++[x]):=by unfold iC;rw [List.map_append]
  rw [e1,<-iC_length (l++[x])];exact List.take_left
 ·intro u hu
  simp only [Array.toList_append,List.mem_append] at hu
  rcases hu with (hu | hu) | hu
  ·exact iC_i64 l u hu
  ·exact iC_i64 [x] u hu
  ·exact zero_i64 _ u hu
theorem ownI_room (w:World) (e:TypeId) (l:List Int) (x:Int) (g cap:Nat) (cur:Array Value) (hg:w.heap[g]?=some (.cells cur e (0,0))) (hcm:cap<=maxLen) (hcs:cur.size=cap) (ht:cur.toList.take l.length=iC l) (hall:∀ u ∈ cur.toList,∃ x:Int,u=.int .i64 x) (hroom:l.length+1<=cap) :
  OwnI (w.setRow g (cur.toList.take l.length++iC [x]++cur.toList.drop (l.length+1)).toArray) e (.slice (some ⟨g,0,none⟩) (l.length+1) cap) (l++[x]) /\
   Apd w (w.setRow g (cur.toList.take l.length++iC [x]++cur.toList.drop (l.length+1)).toArray) (.slice (some ⟨g,0,none⟩) l.length cap) (.slice (some ⟨g,0,none⟩) (l.length+1) cap):=by
 refine ⟨Or.inr ⟨g,cap,_,by rw [List.length_append];rfl,setRow_heap w g cur _ e _ hg,by rw [List.length_append];exact hroom,hcm,?_,?_,?_⟩,⟨⟨rfl,rfl,rfl,by simp,fun k _ hk=>setRow_other w g k _ (fun h=>hk (by simp [Value.ownBlock,h]))⟩,Or.inl rfl⟩⟩
 ·simp only [List.size_toArray,List.length_append,List.length_take,List.length_drop,Array.length_toList,iC_length,List.length_singleton]
  omega
 ·have e1:iC l++iC [x]=iC (l++[x]):=by unfold iC;rw [List.map_append]
  rw [ht,e1,<-iC_length (l++[x])];exact List.take_left
 ·intro u hu
  simp only [List.mem_append] at hu
  rcases hu with (hu | hu) | hu
  ·exact hall u (List.mem_of_mem_take hu)
  ·exact iC_i64 [x] u hu
  ·exact hall u (List.mem_of_mem_drop hu)
section
variable {P:Program} (w:World)
theorem run_append_int (t ty e:TypeId) (i:TypeInfo) (ht:P.underlying t=some (.slice e)) (hi:P.info? e=some i) (hz:i.zero=some (.int .i64 0)) (hsize:i.size=1) (hby:i.bytes=8)
  (v:Value) (l:List Int) (hown:OwnI w e v l) (a:Addr) (c:Nat) (x:Int) (hnew:w.cell? a=some (.int .i64 x)) (hno:a.add 0=a) (hb:l.length<=1000000) :
  ∃ v' w',(Builtin.append_ #[t,t] ty #[v,.slice (some a) 1 c]).run P w=.ok v' w'/\OwnI w' e v' (l++[x])/\Apd w w' v v':=by
 have hl:(iC [x]).length=1*i.size:=by rw [iC_length,hsize];rfl
 have hnews:∀ j u,(iC [x])[j]?=some u->w.cell? (a.add j)=some u:=by
  intro j u hu
  cases j with
  | zero =>
   simp only [iC,List.map_cons,List.map_nil,List.getElem?_cons_zero,Option.some.injEq] at hu;rw [<-hu,hno];exact hnew
  | succ k=>simp [iC] at hu
 have h1:∀ u ∈ iC [x],u.oneCell'=true:=by
  intro u hu;simp only [iC,List.map_cons,List.map_nil,List.mem_singleton] at hu;subst hu
  rfl
 rcases hown with ⟨rfl,rfl⟩ | ⟨g,cap,cur,rfl,hg,hlc,hcm,hcs,htk,hall⟩
 ·have hr:=run_append_nil (P:=P) w t ty e i (.int .i64 0) ht hi hz a 1 c (iC [x]) hl hnews (by decide) (by decide) (by rw [hby];decide)
  have hn:=ownI_new w e [] x 0 (.slice none 0 0) hb;simp only [List.length_nil,Nat.zero_add,List.nil_append,iC,List.map_nil,Array.empty_append] at hn hr ⊢;exact ⟨_,_,hr,hn.1,hn.2⟩
 ·by_cases hroom:l.length+1<=cap
  ·have hr:=run_append_room (P:=P) w t ty e i ht hi g l.length cap cur hg a 1 c (iC [x]) hl hnews h1 hroom (by rw [hsize,iC_length,hcs,Nat.mul_one];exact hroom)
   rw [hsize,Nat.mul_one,iC_length] at hr;have hn:=ownI_room w e l x g cap cur hg hcm hcs htk hall hroom;exact ⟨_,_,hr,hn.1,hn.2⟩
  ·have holds:∀ j u,(iC l)[j]?=some u->w.cell? ((⟨g,0,none⟩:Addr).add j)=some u:=by
    intro j u hu;rw [Lib.add_plain,cell_of_row w g _ cur e (0,0) hg,Nat.zero_add];rw [<-htk,List.getElem?_take] at hu
    split at hu
    ·simpa using hu
    ·cases hu
   have hr:=run_append_grow (P:=P) w t ty e i (.int .i64 0) ht hi hz ⟨g,0,none⟩ l.length cap (iC l) (by rw [iC_length,hsize,Nat.mul_one]) holds a 1 c (iC [x]) hl hnews (by omega) (by omega) (by rw [hby];exact growslice_fits (by omega) (by omega));have hn:=ownI_new w e l x cap (.slice (some ⟨g,0,none⟩) l.length cap) hb;exact ⟨_,_,hr,hn.1,hn.2⟩
theorem wpList_append_int {ops:Array Oper} {rest:List Oper} {o:Oper} {a:Act} {Q:Exit->Act->World->Prop} (hgd:o.guard=none) (s x:Operand) (t:TypeId)
  (ho:o.op=.call { callee:=.builtin .append,args:=#[s,x],argTypes:=#[t,t] })
  (e:TypeId) (i:TypeInfo) (ht:P.underlying t=some (.slice e)) (hi:P.info? e=some i) (hz:i.zero=some (.int .i64 0)) (hsize:i.size=1) (hby:i.bytes=8)
  (v:Value) (l:List Int) (hs:a.eval s=v) (hown:OwnI w e v l) (ad:Addr) (c:Nat) (y:Int) (hx:a.eval x=.slice (some ad) 1 c) (hnew:w.cell? ad=some (.int .i64 y)) (hno:ad.add 0=ad) (hb:l.length<=1000000)
  (h:∀ v' w',OwnI w' e v' (l++[y])->Apd w w' v v'->wpList P ops Q rest (a.put o.dst v') w'):wpList P ops Q (o :: rest) a w:=by
 refine wpList_plain hgd fun _ hK=>?_
 obtain ⟨v',w',hr,h2,h3⟩:=run_append_int (P:=P) w t o.type e i ht hi hz hsize hby v l hown ad c y hnew hno hb;unfold Oper.wp execOp;simp only [ho,resolve,invoke,builtin,Sem.run_bind,Sem.run_pure,Result.andThen_ok,List.map_toArray,List.map_cons,List.map_nil,hs,hx,hr];exact hK _ _ (h v' w' h2 h3)
end
def Oth (w:World) (g:Nat):Prop:=∃ (cs:Array Value) (t:TypeId) (fr:Nat × Nat),w.heap[g]?=some (.cells cs t fr)/\t≠105/\t≠78
theorem WvAt.far {w w':World} {b n g:Nat} {s:Nat->Nm} {P E:Nat} (h:WvAt w b n s P E) (c:Chg g w w') (hg:Oth w g):WvAt w' b n s P E:=by
 obtain ⟨cs,t,fr,e1,e2,e3⟩:=hg;obtain ⟨c0,h1,h2,h3⟩:=h.row
 have hb:b≠g:=by
  rintro rfl;rw [h1] at e1;injection e1 with e1;injection e1 with _ e1 _;exact e2 e1.symm
 refine ⟨c0,(c.block b hb (gS.1 h1).1).trans h1,h2,fun x hx=>?_⟩;obtain ⟨p,g1,g2⟩:=h3 x hx;refine ⟨p,g1,?_⟩
 rcases g2 with g2 | ⟨g',c',f1,f2,f3,f4⟩
 ·exact Or.inl g2
 ·have hne:g'≠g:=by
   rintro rfl;rw [f2] at e1;injection e1 with e1;injection e1 with _ e1 _;exact e3 e1.symm
  exact Or.inr ⟨g',c',f1,(c.block g' hne (gS.1 f2).1).trans f2,f3.keep64 c.keep,f4⟩
theorem WvA.far {w w':World} {b n g:Nat} {s:Nat->Nm} {N:Nat} (h:WvA w b n s N) (c:Chg g w w') (hg:Oth w g):WvA w' b n s N:=⟨h.at'.far c hg,h.amp⟩
theorem OwnI.keep {w w':World} {e:TypeId} {v:Value} {l:List Int} (h:OwnI w e v l) (hk:∀ g,v.ownBlock=some g->g<w.heap.size->w'.heap[g]?=w.heap[g]?):OwnI w' e v l:=by
 rcases h with h | ⟨g,cap,cur,hv,hh,r⟩
 ·exact Or.inl h
 ·exact Or.inr ⟨g,cap,cur,hv,(hk g (by rw [hv];rfl) (gS.1 hh).1).trans hh,r⟩
def bC (bits:List Int):Array Value:=(bits.map fun x=>Value.int .i64 x).toArray
structure RunA (w0 w:World) (B R:Nat) (oa:Option Addr) (no co i bw n cw bb:Nat) (bits:List Int) (tv:Value) (u:Nat) (s:Nat->Nm) (N:Nat):Prop where
 ext:Ext w0 w
 row:w.heap[R]?=some (.cells #[.slice oa no co,.int .i64 (i:Int),.slice (some ⟨bw,0,none⟩) n cw,.slice (some ⟨bb,0,none⟩) bits.length bits.length,tv] 68 (0,0))
 bit:w.heap[bb]?=some (.cells (bC bits) 3 (0,0))
 own:∃ tl:List Int,tl.length=u/\OwnI w 3 tv tl/\∀ g,tv.ownBlock=some g->B<=g
 wav:WvA w bw n s N
 hR:w0.heap.size<=R/\R<B
 hb:w0.heap.size<=bb/\bb<B
 hw:w0.heap.size<=bw/\bw<B
 hB:B<=w.heap.size
section
variable {w0 w w':World} {B R:Nat} {oa:Option Addr} {no co i bw n cw bb:Nat} {bits:List Int} {tv:Value} {u:Nat} {s s':Nat->Nm} {N N':Nat}
theorem RunA.ext' (h:RunA w0 w B R oa no co i bw n cw bb bits tv u s N) (k:Ext w w'):RunA w0 w' B R oa no co i bw n cw bb bits tv u s N:=by
 obtain ⟨tl,t1,t2,t3⟩:=h.own;exact ⟨h.ext.trans k,(k.block _ (gS.1 h.row).1).trans h.row,(k.block _ (gS.1 h.bit).1).trans h.bit,⟨tl,t1,t2.keep (fun g _ hg=>k.block g hg),t3⟩,h.wav.ext k,h.hR,h.hb,h.hw,Nat.le_trans h.hB k.size⟩
theorem RunA.oR (h:RunA w0 w B R oa no co i bw n cw bb bits tv u s N):Oth w R:=⟨_,_,_,h.row,by decide,by decide⟩
theorem RunA.oB (h:RunA w0 w B R oa no co i bw n cw bb bits tv u s N):Oth w bb:=⟨_,_,_,h.bit,by decide,by decide⟩
theorem RunA.neR (h:RunA w0 w B R oa no co i bw n cw bb bits tv u s N):R≠bw:=by
 rintro rfl;obtain ⟨cs,h1,_⟩:=h.wav.at'.row;have h2:=h.row;rw [h1] at h2;injection h2 with h2;injection h2 with _ h2 _;exact absurd h2 (by decide)
theorem RunA.neB (h:RunA w0 w B R oa no co i bw n cw bb bits tv u s N):bb≠bw:=by
 rintro rfl;obtain ⟨cs,h1,_⟩:=h.wav.at'.row;have h2:=h.bit;rw [h1] at h2;injection h2 with h2;injection h2 with _ h2 _;exact absurd h2 (by decide)
theorem RunA.neRB (h:RunA w0 w B R oa no co i bw n cw bb bits tv u s N):R≠bb:=by
 rintro rfl;have h1:=h.row;have h2:=h.bit;rw [h1] at h2;injection h2 with h2;injection h2 with _ h2 _;exact absurd h2 (by decide)
theorem RunA.wave (h:RunA w0 w B R oa no co i bw n cw bb bits tv u s N) (c:Chg bw w w') (hw:WvA w' bw n s' N'):RunA w0 w' B R oa no co i bw n cw bb bits tv u s' N':=by
 obtain ⟨tl,t1,t2,t3⟩:=h.own;have hh:=h.hw
 exact ⟨c.ext h.ext hh.1,(c.block _ h.neR (gS.1 h.row).1).trans h.row,(c.block _ h.neB (gS.1 h.bit).1).trans h.bit,
  ⟨tl,t1,t2.keep (fun g hg1 hg=>c.block g (by have:=t3 g hg1;omega) hg),t3⟩,hw,h.hR,h.hb,h.hw,Nat.le_trans h.hB c.size⟩
theorem RunA.chgR (_h:RunA w0 w B R oa no co i bw n cw bb bits tv u s N) {o:Nat} {v0:Value} (v:Value) (h0:w.cell? ⟨R,o,none⟩=some v0) (hv:∀ x,v0≠.int .u64 x):Chg R w (w.setCell ⟨R,o,none⟩ v) :=
 Chg.of_only ((Only.refl R w).setCell o _) ((Keep64.refl w).set ⟨_,h0,hv⟩ v)
theorem RunA.keepR (h:RunA w0 w B R oa no co i bw n cw bb bits tv u s N) (c:Chg R w w') {i':Nat} {tv':Value} {u':Nat} (hr:w'.heap[R]?=some (.cells #[.slice oa no co,.int .i64 (i':Int),.slice (some ⟨bw,0,none⟩) n cw,.slice (some ⟨bb,0,none⟩) bits.length bits.length,tv'] 68 (0,0)))
  (ho:∃ tl:List Int,tl.length=u'/\OwnI w 3 tv' tl/\∀ g,tv'.ownBlock=some g->B<=g):RunA w0 w' B R oa no co i' bw n cw bb bits tv' u' s N:=by
 obtain ⟨tl,t1,t2,t3⟩:=ho;have hh:=h.hR;exact ⟨c.ext h.ext hh.1,hr,(c.block _ (fun e=>h.neRB e.symm) (gS.1 h.bit).1).trans h.bit,⟨tl,t1,t2.keep (fun g hg1 hg=>c.block g (by have:=t3 g hg1;omega) hg),t3⟩,h.wav.far c h.oR,h.hR,h.hb,h.hw,Nat.le_trans h.hB c.size⟩
theorem RunA.c0 (h:RunA w0 w B R oa no co i bw n cw bb bits tv u s N):w.cell? ⟨R,0,none⟩=some (.slice oa no co):=by rw [cell_of_row w R 0 _ _ (0,0) h.row];rfl
theorem RunA.c1 (h:RunA w0 w B R oa no co i bw n cw bb bits tv u s N):w.cell? ⟨R,1,none⟩=some (.int .i64 (i:Int)):=by rw [cell_of_row w R 1 _ _ (0,0) h.row];rfl
theorem RunA.c2 (h:RunA w0 w B R oa no co i bw n cw bb bits tv u s N):w.cell? ⟨R,2,none⟩=some (.slice (some ⟨bw,0,none⟩) n cw):=by rw [cell_of_row w R 2 _ _ (0,0) h.row];rfl
theorem RunA.c3 (h:RunA w0 w B R oa no co i bw n cw bb bits tv u s N):w.cell? ⟨R,3,none⟩=some (.slice (some ⟨bb,0,none⟩) bits.length bits.length):=by rw [cell_of_row w R 3 _ _ (0,0) h.row];rfl
theorem RunA.c4 (h:RunA w0 w B R oa no co i bw n cw bb bits tv u s N):w.cell? ⟨R,4,none⟩=some tv:=by rw [cell_of_row w R 4 _ _ (0,0) h.row];rfl
theorem RunA.f (h:RunA w0 w B R oa no co i bw n cw bb bits tv u s N) (o:Nat):w.frozen? ⟨R,o,none⟩=false:=frozen_of_row w R o _ _ h.row
theorem RunA.at' (h:RunA w0 w B R oa no co i bw n cw bb bits tv u s N) (i':Nat):RunA w0 (w.setCell ⟨R,1,none⟩ (.int .i64 (i':Int))) B R oa no co i' bw n cw bb bits tv u s N :=
 h.keepR (h.chgR _ h.c1 (fun _ e=>by cases e)) (heap_setCell_same w R 1 _ _ _ h.row) h.own
theorem RunA.bits' (h:RunA w0 w B R oa no co i bw n cw bb bits tv u s N):IntsAt w (some ⟨bb,0,none⟩) bits.length bits:=by
 refine ⟨rfl,?_⟩
 by_cases e:bits.length=0
 ·exact Or.inl e
 ·refine Or.inr ⟨bb,0,rfl,(gS.1 h.bit).1,fun t ht=>?_⟩
  rw [cell_of_row w bb (0+t) _ _ (0,0) h.bit,Nat.zero_add];unfold bC;rw [List.getElem?_toArray,List.getElem?_map,List.getElem?_eq_getElem ht,List.getD_eq_getElem?_getD,List.getElem?_eq_getElem ht]
  rfl
theorem RunA.setBit (h:RunA w0 w B R oa no co i bw n cw bb bits tv u s N) (j:Nat) (v:Int) (hj:j<bits.length):RunA w0 (w.setCell ⟨bb,j,none⟩ (.int .i64 v)) B R oa no co i bw n cw bb (bits.set j v) tv u s N:=by
 obtain ⟨tl,t1,t2,t3⟩:=h.own
 have hc:w.cell? ⟨bb,j,none⟩=some (.int .i64 (bits.getD j 0)):=by
  rw [cell_of_row w bb j _ _ (0,0) h.bit];unfold bC;rw [List.getElem?_toArray,List.getElem?_map,List.getElem?_eq_getElem hj,List.getD_eq_getElem?_getD,List.getElem?_eq_getElem hj]
  rfl
 have c:Chg bb w (w.setCell ⟨bb,j,none⟩ (.int .i64 v)):=Chg.of_only ((Only.refl bb w).setCell j _) ((Keep64.refl w).set (NotW.i64 hc) _);have hh:=h.hb;refine ⟨c.ext h.ext hh.1,?_,?_,⟨tl,t1,t2.keep (fun g hg1 hg=>c.block g (by have:=t3 g hg1;omega) hg),t3⟩,h.wav.far c h.oB,h.hR,h.hb,h.hw,Nat.le_trans h.hB c.size⟩
 ·rw [List.length_set]
  exact (c.block _ h.neRB (gS.1 h.row).1).trans h.row
 ·rw [heap_setCell_same w bb j _ _ (.int .i64 v) h.bit]
  unfold bC
  congr 2
  rw [List.map_set,List.setIfInBounds_toArray]
theorem RunA.apd (h:RunA w0 w B R oa no co i bw n cw bb bits tv u s N) {tv':Value} {tl:List Int} {x:Int} (_h1:tl.length=u) (h2:OwnI w 3 tv tl) (h3:∀ g,tv.ownBlock=some g->B<=g) (_h4:OwnI w' 3 tv' (tl++[x])) (h5:Apd w w' tv tv') :
  w'.heap[R]?=some (.cells #[.slice oa no co,.int .i64 (i:Int),.slice (some ⟨bw,0,none⟩) n cw,.slice (some ⟨bb,0,none⟩) bits.length bits.length,tv] 68 (0,0)) /\
  RunA w0 (w'.setCell ⟨R,4,none⟩ tv') B R oa no co i bw n cw bb bits tv' (u+1) s N:=by
 have hB:=h.hB;have hR:=h.hR;have hb:=h.hb;have hw:=h.hw;have hE:Ext w0 w':=⟨h5.grown.os.trans h.ext.os,h5.grown.tape.trans h.ext.tape,h5.grown.output.trans h.ext.output,Nat.le_trans h.ext.size h5.grown.size,fun k hk=>(h5.grown.block k (Nat.lt_of_lt_of_le hk h.ext.size) (fun e=>by have:=h3 k e.symm;omega)).trans (h.ext.block k hk)⟩;have row':w'.heap[R]?=some (.cells #[.slice oa no co,.int .i64 (i:Int),.slice (some ⟨bw,0,none⟩) n cw,.slice (some ⟨bb,0,none⟩) bits.length bits.length,tv] 68 (0,0)):=(h5.grown.block R (by omega) (fun e=>by have:=h3 R e.symm;omega)).trans h.row;have bit':=(h5.grown.block bb (by omega) (fun e=>by have:=h3 bb e.symm;omega)).trans h.bit
 have hW:WvA w' bw n s N:=by
  rcases h2 with ⟨rfl,rfl⟩ | ⟨g,cap,cur,rfl,hg,_,_,_,_,hall⟩
  ·exact h.wav.ext h5.ext
  ·refine h.wav.far (g:=g) ⟨h5.grown.os,h5.grown.tape,h5.grown.output,h5.grown.size,fun k hk hl=>h5.grown.block k hl (fun e=>hk (by simpa [Value.ownBlock] using e)),h5.grown.size,fun b' o' x' hx=>?_⟩ ⟨_,_,_,hg,by decide,by decide⟩
   have hne:b'≠g:=by
    rintro rfl;rw [cell_of_row w b' o' cur _ (0,0) hg] at hx;obtain ⟨y,hy⟩:=hall _ (List.mem_of_getElem? (by rw [Array.getElem?_toList];exact hx))
    cases hy
   exact (World.cell?_of_block (a:=⟨b',o',none⟩) (h5.grown.block b' (World.block_lt_of_cell? w ⟨b',o',none⟩ hx) (fun e=>hne (by simpa [Value.ownBlock] using e)))).trans hx
 have own':∃ tl:List Int,tl.length=u+1/\OwnI w' 3 tv' tl/\∀ g,tv'.ownBlock=some g->B<=g:=⟨tl++[x],by rw [List.length_append,_h1];rfl,_h4,fun g hg=>by
  rcases h5.lies with e | ⟨g',e,hg'⟩
  ·exact h3 g (by rw [<-e];exact hg)
  ·rw [e] at hg;injection hg with hg;omega⟩
 have c4:w'.cell? ⟨R,4,none⟩=some tv:=by rw [cell_of_row w' R 4 _ _ (0,0) row'];rfl
 have ntv:∀ x,tv≠.int .u64 x:=fun x e=>by
  rcases h2 with ⟨h,_⟩ | ⟨g,cap,cur,h,_⟩
  ·rw [e] at h;cases h
  ·rw [e] at h;cases h
 have c:Chg R w' (w'.setCell ⟨R,4,none⟩ tv'):=Chg.of_only ((Only.refl R w').setCell 4 _) ((Keep64.refl w').set ⟨_,c4,ntv⟩ tv');obtain ⟨tl2,t1,t2,t3⟩:=own';have oR:Oth w' R:=⟨_,_,_,row',by decide,by decide⟩;exact ⟨row',c.ext hE hR.1,heap_setCell_same w' R 4 _ _ _ row',(c.block _ (fun e=>h.neRB e.symm) (gS.1 bit').1).trans bit',⟨tl2,t1,t2.keep (fun g hg1 hg=>c.block g (by have:=t3 g hg1;omega) hg),t3⟩,hW.far c oR,h.hR,h.hb,h.hw,Nat.le_trans hB (Nat.le_trans h5.grown.size c.size)⟩
theorem RunA.base {w00:World} (h:RunA w0 w B R oa no co i bw n cw bb bits tv u s N) (k:Ext w00 w0):RunA w00 w B R oa no co i bw n cw bb bits tv u s N:=by
 have h1:=h.hR;have h2:=h.hb;have h3:=h.hw;have h4:=k.size;exact ⟨k.trans h.ext,h.row,h.bit,h.own,h.wav,⟨by omega,h1.2⟩,⟨by omega,h2.2⟩,⟨by omega,h3.2⟩,h.hB⟩
theorem RunA.put {g:Nat} (h:RunA w0 w B R oa no co i bw n cw bb bits tv u s N) (c:Chg g w w') (ho:Oth w g) (h1:w0.heap.size<=g) (h2:R≠g) (h3:bb≠g) (h4:g<B):RunA w0 w' B R oa no co i bw n cw bb bits tv u s N:=by
 obtain ⟨tl,t1,t2,t3⟩:=h.own;exact ⟨c.ext h.ext h1,(c.block _ h2 (gS.1 h.row).1).trans h.row,(c.block _ h3 (gS.1 h.bit).1).trans h.bit,⟨tl,t1,t2.keep (fun g' hg1 hg=>c.block g' (by have:=t3 g' hg1;omega) hg),t3⟩,h.wav.far c ho,h.hR,h.hb,h.hw,Nat.le_trans h.hB c.size⟩
end
theorem meets_run (R:Nat) (a2 ab:Option Addr) (n2 c2 nb cb:Nat) (cnd bits:List Int) (w:World) (hI:IntsAt w a2 n2 cnd) (hB:IntsAt w ab nb bits) (hn2:n2<=1000) (hnb:nb<=12)
  (hf:w.cell? ⟨R,3,none⟩=some (.slice ab nb cb)) (hok:∀ t ∈ cnd,t≠0/\-(nb:Int)<=t/\t<=(nb:Int)) :
  Calls Tryz.prog 82 #[.pointer (some ⟨R,0,none⟩),.slice a2 n2 c2] w fun e w'=>e=.returned (.bool (cnM bits cnd))/\w'=w:=by
 obtain ⟨B,hBB⟩:∃ B,cnM bits cnd=B:=⟨_,rfl⟩;rw [hBB];have HBB:=Lh hBB;have HI:=Lh hI;have HB:=Lh hB;have Hnb:=Lh hnb;have Hok:=Lh hok;have Hn2:=Lh hn2;clear hBB hI hB hnb hok hn2
 go_enter Tryz.func82,Tryz.ntmps82
 go_wp2_with fail
 go_loopg [6,7,8,11] n2 (fun kk s6 s7 s8 s11 wr=>∃ i:Nat,s11=.int .i64 (i:Int)/\i<=n2/\n2-i=kk/\(∀ t,t<i->tm bits (cnd.getD t 0)=true)/\wr=w)
 case atStart=>exact ⟨0,rfl,by omega,by omega,fun t ht=>by omega,rfl⟩
 case round =>
  obtain ⟨i,rfl,hi,hk,hal,rfl⟩:=hrel;have Hal:=Lh hal;have Hk:=Lh hk;clear hal hk
  by_cases hin:i=n2
  ·have HBt:=Lh (show true=B by
    rw [<-HBB.out]
    exact (cnM_true (fun t ht=>Hal.out t (by have:=HI.out.1;omega))).symm)
   have q1:¬ (i:Int)<(n2:Int):=by omega
   clear hin hi
   go_wp2_with fail
   go_ret
   exact ⟨congrArg (fun b=>Ending.returned (Value.bool b)) HBt.out,rfl⟩
  have hlt:i<n2:=by omega
  have q1:(i:Int)<(n2:Int):=by omega
  have q0:(0:Int)<=(i:Int):=by omega
  have wk:IntKind.i64.wrap ((i:Int)+1)=((i+1:Nat):Int):=by rw [IntKind.wrap_i64];have:=Hn2.out;omega
  obtain ⟨b,o,rfl,hb,hcc⟩:=HI.out.2.resolve_left (by omega);have y0:=hcc i hlt;obtain ⟨t,ht⟩:∃ t,cnd.getD i 0=t:=⟨_,rfl⟩;rw [ht] at y0
  have hil:i<cnd.length:=by have:=HI.out.1;omega
  have ht3:t≠0/\-(nb:Int)<=t/\t<=(nb:Int):=by
   refine Hok.out t ?_;rw [<-ht,List.getD_eq_getElem?_getD,List.getElem?_eq_getElem hil];exact List.getElem_mem hil
  obtain ⟨bb,ob,rfl,hbb,hcb⟩:=HB.out.2.resolve_left (by omega);have hnb12:=Hnb.out;have Ht:=Lh ht;have Hlt:=Lh hlt;have Hil:=Lh hil;clear ht hlt hil hcc hb hbb hin hi
  by_cases htp:0<t
  ·obtain ⟨u,rfl⟩:∃ u:Nat,t=((u+1:Nat):Int):=⟨(t-1).toNat,by omega⟩
   have hub:u<nb:=by omega
   have z0:=hcb u hub;obtain ⟨v,hv⟩:∃ v,bits.getD u 0=v:=⟨_,rfl⟩;rw [hv] at z0
   have htm:tm bits ((u+1:Nat):Int)=(v == 1):=by
    unfold tm;rw [if_pos htp,show (((u+1:Nat):Int)-1).toNat=u by omega,hv]
   obtain ⟨T,hT⟩:∃ T:Int,((u+1:Nat):Int)=T:=⟨_,rfl⟩
   have wt:IntKind.i64.wrap (T-1)=(u:Int):=by rw [IntKind.wrap_i64];omega
   rw [hT] at y0 htp htm Ht ht3
   have u0:(0:Int)<=(u:Int):=by omega
   have u1:(u:Int)<(nb:Int):=by omega
   have tn:¬ T<0:=by omega
   clear hcb hT ht3 hub hv hnb12 htp
   by_cases hv1:v=1
   ·subst hv1
    have Htm:=Lh (show tm bits T=true by rw [htm];rfl);clear htm
    go_wp2_with fail
    go_roundg (n2-(i+1))
    case measure=>have:=Hk.out;have:=Hlt.out;omega
    case rel=>exact ⟨i+1,rfl,Hlt.out,rfl,fun t ht=>by
     by_cases e:t=i
     ·rw [e,Ht.out];exact Htm.out
     ·exact Hal.out t (by omega),rfl⟩
   ·have kn:(v == 1)=false:=by simpa using hv1
    have HBf:=Lh (show false=B by rw [<-HBB.out];exact (cnM_false Hil.out Ht.out (by rw [htm];exact kn)).symm);clear htm
    go_wp2_with fail
    go_ret
    exact ⟨congrArg (fun b=>Ending.returned (Value.bool b)) HBf.out,rfl⟩
  ·obtain ⟨u,rfl⟩:∃ u:Nat,t=-((u+1:Nat):Int):=⟨(-t-1).toNat,by omega⟩
   have hub:u<nb:=by omega
   have z0:=hcb u hub;obtain ⟨v,hv⟩:∃ v,bits.getD u 0=v:=⟨_,rfl⟩;rw [hv] at z0
   have htm:tm bits (-((u+1:Nat):Int))=(v == 0):=by
    unfold tm;rw [if_neg htp,show (-(-((u+1:Nat):Int))-1).toNat=u by omega,hv]
   obtain ⟨T,hT⟩:∃ T:Int,-((u+1:Nat):Int)=T:=⟨_,rfl⟩;obtain ⟨M,hM⟩:∃ M:Int,((u+1:Nat):Int)=M:=⟨_,rfl⟩
   have wn:IntKind.i64.wrap (-T)=M:=by rw [IntKind.wrap_i64];omega
   have wt:IntKind.i64.wrap (M-1)=(u:Int):=by rw [IntKind.wrap_i64];omega
   rw [hT] at y0 htp htm Ht ht3
   have u0:(0:Int)<=(u:Int):=by omega
   have u1:(u:Int)<(nb:Int):=by omega
   have tn:T<0:=by omega
   clear hcb hT hM ht3 hub hv hnb12 htp
   by_cases hv1:v=0
   ·subst hv1
    have Htm:=Lh (show tm bits T=true by rw [htm];rfl);clear htm
    go_wp2_with fail
    go_roundg (n2-(i+1))
    case measure=>have:=Hk.out;have:=Hlt.out;omega
    case rel=>exact ⟨i+1,rfl,Hlt.out,rfl,fun t ht=>by
     by_cases e:t=i
     ·rw [e,Ht.out];exact Htm.out
     ·exact Hal.out t (by omega),rfl⟩
   ·have kn:(v == 0)=false:=by simpa using hv1
    have HBf:=Lh (show false=B by rw [<-HBB.out];exact (cnM_false Hil.out Ht.out (by rw [htm];exact kn)).symm);clear htm
    go_wp2_with fail
    go_ret
    exact ⟨congrArg (fun b=>Ending.returned (Value.bool b)) HBf.out,rfl⟩
noncomputable def askM (bits:List Int):List Gop->Nat->(Nat->Nm)->Bool × Nat × (Nat->Nm)
 | [],i,s=>(false,i,s)
 | o :: r,i,s=>if cnM bits o.cnd=false then askM bits r (i+1) s else if o.kind<5 then askM bits r (i+1) (gt o s) else (true,i,s)
theorem askM_end {bits:List Int} {ops:List Gop} {i:Nat} {s:Nat->Nm} (h:ops.length<=i):askM bits (ops.drop i) i s=(false,i,s):=by rw [List.drop_eq_nil_of_le h];rfl
theorem askM_step {bits:List Int} {ops:List Gop} {i:Nat} {s:Nat->Nm} {o:Gop} (h:ops[i]?=some o):askM bits (ops.drop i) i s=if cnM bits o.cnd=false then askM bits (ops.drop (i+1)) (i+1) s else if o.kind<5 then askM bits (ops.drop (i+1)) (i+1) (gt o s) else (true,i,s):=by
 obtain ⟨hi,e⟩:=List.getElem?_eq_some_iff.1 h;rw [List.drop_eq_getElem_cons hi,askM,e]
theorem plM_ask (want bits:List Int) (u:Nat) (ops:List Gop):∀ (d i:Nat) (s:Nat->Nm),ops.length-i=d->∀ (B:Bool) (i':Nat) (s':Nat->Nm),askM bits (ops.drop i) i s=(B,i',s') ->
  i<=i'/\(B=false->plM want (ops.drop i) i s bits u=⟨(0,0),s',bits,u⟩)/\(B=true->plM want (ops.drop i) i s bits u=plM want (ops.drop i') i' s' bits u/\∃ o,ops[i']?=some o/\cnM bits o.cnd=true/\¬ o.kind<5):=by
 intro d
 induction d with
 | zero =>
  intro i s hd B i' s' h;rw [askM_end (by omega)] at h;injection h with h1 h;injection h with h2 h3;subst h1 h2 h3;refine ⟨Nat.le_refl _,fun _=>?_,fun e=>by cases e⟩;rw [List.drop_eq_nil_of_le (by omega)]
  rfl
 | succ d ih =>
  intro i s hd B i' s' h
  have hi:i<ops.length:=by omega
  have ho:ops[i]?=some ops[i]:=List.getElem?_eq_getElem hi;have hdr:=List.drop_eq_getElem_cons hi;rw [askM_step ho] at h
  by_cases hc:cnM bits (ops[i]).cnd=false
  ·rw [if_pos hc] at h
   obtain ⟨h1,h2,h3⟩:=ih (i+1) s (by omega) B i' s' h;rw [hdr,plM_skip hc];exact ⟨by omega,h2,h3⟩
  ·rw [if_neg hc] at h
   have hc':cnM bits (ops[i]).cnd=true:=by simpa using hc
   by_cases hk:(ops[i]).kind<5
   ·rw [if_pos hk] at h
    obtain ⟨h1,h2,h3⟩:=ih (i+1) _ (by omega) B i' s' h;rw [hdr,plM_gate hc' hk];exact ⟨by omega,h2,h3⟩
   ·rw [if_neg hk] at h
    injection h with h1 h;injection h with h2 h3;subst h1 h2 h3;exact ⟨Nat.le_refl _,(fun e=>by cases e),fun _=>⟨rfl,_,ho,hc',hk⟩⟩
theorem opS_info:(Tryz.prog.info? 60).map (·.size)=some (#[Value.bool true,Value.bool true,Value.bool true,Value.bool true,Value.bool true,Value.bool true]:Array Value).size:=by kernel_rfl
theorem asks_any (w0 w:World) (B R:Nat) (oa:Option Addr) (no co i bw qn cw bb:Nat) (bits:List Int) (tv:Value) (u:Nat) (s:Nat->Nm) (ops:List Gop)
  (h:RunA w0 w B R oa no co i bw (2 ^ qn) cw bb bits tv u s i) (hO:OpsAt w0 oa no ops) (hqn:qn<=12) (hno:no<=4096) (hbl:bits.length<=12) (hfit:∀ o ∈ ops,opCode o qn bits.length=0/\PlFit o qn bits.length) (hbr:Bru w0) (hi:i<=no)
  (Bq:Bool) (iq:Nat) (sq:Nat->Nm) (hq:askM bits (ops.drop i) i s=(Bq,iq,sq)) :
  Calls Tryz.prog 52 #[.pointer (some ⟨R,0,none⟩)] w fun e w'=>e=.returned (.bool Bq)/\RunA w0 w' B R oa no co iq bw (2 ^ qn) cw bb bits tv u sq iq/\iq<=no:=by
 obtain ⟨n,hn⟩:∃ n,2 ^ qn=n:=⟨_,rfl⟩
 have Hdo:=Lh (fun (wx:World) (o:Gop) (a1:Option Addr) (n1 c1:Nat) (a2:Option Addr) (n2 c2:Nat) (sx:Nat->Nm) (ix:Nat) (hx:WvA wx bw (2 ^ qn) sx ix) (hix:ix<=4096) (hb:Bru wx) (ho:o ∈ ops) (hk:o.kind<5) (hI:IntsAt wx a1 n1 o.ctl) (hn1:n1<=1000) =>
  do_any bw cw qn bits.length o a1 n1 c1 a2 n2 c2 sx ix wx hx hqn (by omega) hb (hfit o ho).2 (fun e=>phase_free (hfit o ho).1 e) hk hI hn1)
 rw [hn] at h Hdo ⊢;have HO:=Lh hO;have Hno:=Lh hno;have Hbl:=Lh hbl;have Hfit:=Lh hfit;have Hbr:=Lh hbr;have Hq:=Lh hq;have Hh:=Lh h;have Hi:=Lh hi;have Hqn:=Lh hqn;clear hO hno hbl hfit hbr hq h hi hn hqn
 go_enter Tryz.func52,Tryz.ntmps52
 go_wp2_with fail
 go_loopg [3] (no+1-i) (fun kk _ wr=>∃ (ix:Nat) (sx:Nat->Nm),RunA w0 wr B R oa no co ix bw n cw bb bits tv u sx ix/\ix<=no/\no+1-ix=kk/\askM bits (ops.drop ix) ix sx=(Bq,iq,sq))
 case atStart=>exact ⟨i,s,Hh.out,Hi.out,rfl,Hq.out⟩
 case round =>
  obtain ⟨ix,sx,hr,hix,hk,ha⟩:=hrel;have HR:=Lh hr;have Hix:=Lh hix;have Hk:=Lh hk;have Ha:=Lh ha;have x0:=hr.c0;have x1:=hr.c1;have x2:=hr.c2;clear hr hix hk ha
  by_cases hlt:ix=no
  ·have q1:¬ (ix:Int)<(no:Int):=by omega
   have HBq:=Lh (show false=Bq/\ix=iq/\sx=sq by
    have:=Ha.out;rw [askM_end (by have:=HO.out.1;omega)] at this;injection this with h1 h;injection h with h2 h3
    exact ⟨h1,h2,h3⟩)
   clear hlt x2
   go_upto_region 1 with fail
   go_region
   have Hend:=Lh (show RunA w0 wr.drew B R oa no co iq bw n cw bb bits tv u sq iq/\iq<=no by
    obtain ⟨_,h2,h3⟩:=HBq.out;rw [<-h2,<-h3]
    exact ⟨HR.out.ext' (Below.drew (Ext.refl _)),Hix.out⟩)
   clear x0 x1 Hdo
   go_wp2_with fail
   go_ret
   exact ⟨congrArg (fun b=>Ending.returned (Value.bool b)) HBq.out.1,Hend.out⟩
  ·have hlt':ix<no:=by have:=Hix.out;omega
   have hl:=HO.out.1;have ho:ops[ix]?=some ops[ix]:=List.getElem?_eq_getElem (by omega);obtain ⟨o,hoo⟩:∃ o,ops[ix]=o:=⟨_,rfl⟩;rw [hoo] at ho
   have hmem:o ∈ ops:=by rw [<-hoo];exact List.getElem_mem _
   obtain ⟨b,off,rfl,hb,hc⟩:=(HO.out.ext HR.out.ext).2.resolve_left (by omega);obtain ⟨a1,n1,c1,a2,n2,c2,k0,k1,k2,k3,k4,k5,hL⟩:=hc ix o ho;obtain ⟨kd,hkd⟩:∃ kd,o.kind=kd:=⟨_,rfl⟩;obtain ⟨ka,hka⟩:∃ ka,o.k=ka:=⟨_,rfl⟩;obtain ⟨kq,hkq⟩:∃ kq,o.q=kq:=⟨_,rfl⟩;obtain ⟨kb,hkb⟩:∃ kb,o.bit=kb:=⟨_,rfl⟩;rw [hkd] at k0;rw [hka] at k1;rw [hkq] at k3;rw [hkb] at k4
   have q1:(ix:Int)<(no:Int):=by omega
   have q0:(0:Int)<=(ix:Int):=by omega
   clear hc hb hl hoo hlt hlt'
   go_upto_region 1 with fail
   go_region
   go_upto_region 3 with fail
   have y0:=fun ob=>old1 x0 ob;have y1:=fun ob=>old1 x1 ob
   have j0:=fun ob=>old1 k0 ob;have j1:=fun ob=>old1 k1 ob;have j2:=fun ob=>old1 k2 ob;have j3:=fun ob=>old1 k3 ob;have j4:=fun ob=>old1 k4 ob;have j5:=fun ob=>old1 k5 ob
   go_region
   clear y0 y1 j0 j1 j2 j3 j4 j5 k0 k1 k2 k3 k4 k5
   go_upto_region 4 with fail
   obtain ⟨D,hD⟩:∃ D,wr.heap.size=D:=⟨_,rfl⟩;obtain ⟨V,hV⟩:∃ V,(wr.alloc (.cells #[.int .i64 kd,.int .i64 ka,.slice a1 n1 c1,.int .i64 kq,.int .i64 kb,.slice a2 n2 c2] 60)).drew.drew=V:=⟨_,rfl⟩
   have EV:Ext wr V:=by rw [<-hV];exact Below.drew (Below.drew (ext_alloc _ _))
   have rD:V.heap[D]?=some (.cells #[.int .i64 kd,.int .i64 ka,.slice a1 n1 c1,.int .i64 kq,.int .i64 kb,.slice a2 n2 c2] 60 (0,0)):=by rw [<-hV,<-hD];exact heap_alloc_new wr _
   rw [hV,hD];have HV:=Lh (HR.out.ext' EV);have HLV:=Lh (hL.ext EV);obtain ⟨hcode,hpl⟩:=Hfit.out o hmem;obtain ⟨_,_,hf12,_⟩:=fit_of_code (n:=qn) (by have:=Hqn.out;omega) (by omega) (by have:=Hbl.out;omega) hcode;have Hn1:=Lh (show n1<=1000 by have:=hL.i1.1;omega);have Hme:=Lh (meets_run R a2 (some ⟨bb,0,none⟩) n2 c2 bits.length bits.length o.cnd bits V HLV.out.i2 HV.out.bits' (by have:=hL.i2.1;have:=hpl.few;omega) Hbl.out HV.out.c3 hpl.cnd);have Hst:=Lh (askM_step (bits:=bits) (s:=sx) ho);have Hkd:=Lh hpl.kd;have m1:=HV.out.c1;have m2:=HV.out.c2;have mf:=HV.out.f 1
   have d0:V.cell? ⟨D,0,none⟩=some (.int .i64 kd):=by rw [cell_of_row V D 0 _ _ (0,0) rD];rfl
   have d5:V.cell? ⟨D,5,none⟩=some (.slice a2 n2 c2):=by rw [cell_of_row V D 5 _ _ (0,0) rD];rfl
   have Hkk:=Lh (show o.kind=kd/\o.k=ka/\o.q=kq/\o.bit=kb from ⟨hkd,hka,hkq,hkb⟩);have Hmem:=Lh hmem;have HD:=Lh hD;have HEV:=Lh EV
   have wk:IntKind.i64.wrap ((ix:Int)+1)=((ix+1:Nat):Int):=by rw [IntKind.wrap_i64];have:=Hno.out;have:=Hix.out;omega
   have Hlt:=Lh (show ix+1<=no by omega);clear hV hD EV hL hcode hpl hf12 hkd hka hkq hkb hmem ho x0 x1 x2 q0 q1
   cases hcn:cnM bits o.cnd with
   | false =>
    rw [hcn] at Hme;have Hr:=Lh (show askM bits (ops.drop (ix+1)) (ix+1) sx=(Bq,iq,sq) by rw [<-Ha.out,Hst.out,if_pos hcn]);clear hcn
    go_wp2_with fail
    refine Hme.out.mono ?_;rintro e w2 ⟨rfl,rfl⟩;have Hend:=Lh ((HV.out.at' (ix+1)));clear Hme
    go_wp2_with fail
    go_roundg (no+1-(ix+1))
    case measure=>have:=Hk.out;have:=Hlt.out;omega
    case rel=>exact ⟨ix+1,sx,⟨Hend.out.ext,Hend.out.row,Hend.out.bit,Hend.out.own,Hend.out.wav.le (Nat.le_succ _),Hend.out.hR,Hend.out.hb,Hend.out.hw,Hend.out.hB⟩,Hlt.out,rfl,Hr.out⟩
   | true =>
    rw [hcn] at Hme
    by_cases hk5:kd<5
    ·have Hr:=Lh (show askM bits (ops.drop (ix+1)) (ix+1) (gt o sx)=(Bq,iq,sq) by rw [<-Ha.out,Hst.out,if_neg (by rw [hcn];decide),if_pos (by rw [Hkk.out.1];exact hk5)])
     have b5:(kd == 5)=false:=by simp;omega
     have b6:(kd == 6)=false:=by simp;omega
     have Hk5:=Lh hk5;clear hcn hk5
     go_wp2_with fail
     refine Hme.out.mono ?_;rintro e w2 ⟨rfl,hw2⟩;have hw2:=hw2.symm;subst hw2;clear Hme
     go_upto_region 7 with fail
     have hd0:Ext V V.drew:=Below.drew (Ext.refl _);have lR:=World.block_lt_of_cell? V ⟨R,2,none⟩ m2;have lD:=(gS.1 rD).1;refine wp_region_K 5 (fun w'=>w'.cell? ⟨R,2,none⟩=some (.slice (some ⟨bw,0,none⟩) n cw)/\w'.heap[D]?=some (.cells #[.int .i64 kd,.int .i64 ka,.slice a1 n1 c1,.int .i64 kq,.int .i64 kb,.slice a2 n2 c2] 60 (0,0))) (by kernel_rfl) ?_
     show anyK _ _ _ _ _ _ 6 #[false,false,false,false,false,false] _ _
     have hHeld:V.drew.cell? ⟨R,2,none⟩=some (.slice (some ⟨bw,0,none⟩) n cw)/\V.drew.heap[D]?=some (.cells #[.int .i64 kd,.int .i64 ka,.slice a1 n1 c1,.int .i64 kq,.int .i64 kb,.slice a2 n2 c2] 60 (0,0)):=⟨cellKeep hd0 lR m2,(hd0.block D lD).trans rD⟩;refine kT 0 6 (v:=?_) rfl (Or.inl ⟨by rfl,?_⟩) hHeld ?_;rotate_left 1
     ·intro w hSw
      go_simp
      try with_reducible rfl
     show anyK _ _ _ _ _ _ _ _ (Act.put _ (some 44) _) _
     simp only [Act.put,sx0,sx1,sx2];refine kT 1 6 (v:=?_) rfl (Or.inl ⟨by rfl,?_⟩) hHeld ?_;rotate_left 1
     ·intro w hSw
      go_simp
      try with_reducible rfl
     show anyK _ _ _ _ _ _ _ _ (Act.put _ (some 45) _) _
     simp only [Act.put,sx0,sx1,sx2];refine kT 2 6 (v:=?_) rfl (Or.inl ⟨by rfl,?_⟩) hHeld ?_;rotate_left 1
     ·intro w hSw
      go_simp
      try with_reducible rfl
     show anyK _ _ _ _ _ _ _ _ (Act.put _ (some 46) _) _
     simp only [Act.put,sx0,sx1,sx2];refine kT 3 6 (v:=?_) rfl (Or.inl ⟨by rfl,?_⟩) hHeld ?_;rotate_left 1
     ·intro w hSw
      go_simp
      try with_reducible rfl
     show anyK _ _ _ _ _ _ _ _ (Act.put _ (some 47) _) _
     simp only [Act.put,sx0,sx1,sx2];refine kT 4 6 (v:=.agg #[.int .i64 kd,.int .i64 ka,.slice a1 n1 c1,.int .i64 kq,.int .i64 kb,.slice a2 n2 c2]) rfl (Or.inl ⟨by rfl,fun _ h=>exec_load_row 60 _ rfl D rfl 60 _ (0,0) _ h.2 Tryz.underlying60 rfl opS_info⟩) hHeld ?_
     show anyK _ _ _ _ _ _ _ _ (Act.put _ (some 48) _) _
     simp only [Act.put,sx0,sx1,sx2];clear hHeld;refine anyK_one (i:=5) (by kernel_rfl) rfl (fun Kk hKk=>?_)
     go_simp
     have Hd:=Lh (Hdo.out V.drew o a1 n1 c1 a2 n2 c2 sx ix (HV.out.wav.ext hd0) (by have:=Hno.out;have:=Hix.out;omega) (bru_ext Hbr.out (HV.out.ext.trans hd0)) Hmem.out (by rw [Hkk.out.1];exact Hk5.out) (HLV.out.i1.ext hd0) Hn1.out);rw [Hkk.out.1,Hkk.out.2.1,Hkk.out.2.2.1,Hkk.out.2.2.2] at Hd
     (go_at_call 83;refine Hd.out.mono ?_;rintro e w3 ⟨⟨v3,rfl⟩,hw3,hc3⟩)
     go_wp2_with fail
     refine hKk.out _ _ (fun h=>Bool.noConfusion (show true=false from h)) ?_;clear hKk Kk Hd;simp only [sx0,sx1,sx2];refine anyK_done (by kernel_rfl) ?_ _;have H3:=Lh ((HV.out.ext' hd0).wave hc3 hw3);have m1:=H3.out.c1;have mf:=H3.out.f 1;have Hend:=Lh (H3.out.at' (ix+1));clear hw3 hc3 hd0 lR lD rD m2 d0 d5 b5 b6
     go_wp2_with fail
     go_roundg (no+1-(ix+1))
     case measure=>have:=Hk.out;have:=Hlt.out;omega
     case rel=>exact ⟨ix+1,gt o sx,Hend.out,Hlt.out,rfl,Hr.out⟩
    ·have HBq:=Lh (show true=Bq/\ix=iq/\sx=sq by
      have h0:=Ha.out;rw [Hst.out,if_neg (by rw [hcn];decide),if_neg (by rw [Hkk.out.1];exact hk5)] at h0;injection h0 with h1 h;injection h with h2 h3
      exact ⟨h1,h2,h3⟩)
     have Hend:=Lh (show RunA w0 V B R (some ⟨b,off,none⟩) no co iq bw n cw bb bits tv u sq iq/\iq<=no by
      obtain ⟨_,h2,h3⟩:=HBq.out;rw [<-h2,<-h3]
      exact ⟨HV.out,Hix.out⟩)
     have hk56:kd=5\/kd=6:=by have:=Hkd.out;have:=Hkk.out.1;omega
     clear hcn hk5
     rcases hk56 with rfl | rfl
     ·go_wp2_with fail
      refine Hme.out.mono ?_;rintro e w2 ⟨rfl,rfl⟩;clear Hme
      go_wp2_with fail
      go_ret
      exact ⟨congrArg (fun b=>Ending.returned (Value.bool b)) HBq.out.1,Hend.out⟩
     ·go_wp2_with fail
      refine Hme.out.mono ?_;rintro e w2 ⟨rfl,rfl⟩;clear Hme
      go_wp2_with fail
      go_ret
      exact ⟨congrArg (fun b=>Ending.returned (Value.bool b)) HBq.out.1,Hend.out⟩
end Go.Proofs.YtfjnlopbmkimiaaGreatDoor
