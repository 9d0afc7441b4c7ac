/-
  The reference: Texts: the amplitudes as they are written. The program: Run. Texts in memory. A tally in a variable; what is counted, in plain numbers. The reference's SameInts and SameCircuit, of alike lists and circuits. The law's own: is a state a basis state (only); are two rows of texts alike (SameTexts), two shots (SameShot).
-/
import Derived.Test.YtfjnlopbmkimiaaGreatDoorS24Ysq
namespace Go.Proofs.YtfjnlopbmkimiaaGreatDoor
set_option maxRecDepth 100000
set_option maxHeartbeats 8000000
open Go.RowKit
variable {Qc:Nat->Prop}
open Go.RowKit
def txV (s:Nat->Nm) (j:Nat):List Value:=(List.range j).map fun x=>txA (s x)
theorem txV_snoc (s:Nat->Nm) (j:Nat):txV s (j+1)=txV s j++[txA (s j)]:=by unfold txV;rw [List.range_succ,List.map_append];rfl
theorem new_t (w:World) (x:Value) (e:TypeId):∀ j u,([x]:List Value)[j]?=some u->(w.alloc (.cells #[x] e)).cell? ((⟨w.heap.size,0,none⟩:Addr).add j)=some u:=by
 intro j u hu
 have hadd:(⟨w.heap.size,0,none⟩:Addr).add j=⟨w.heap.size,j,none⟩:=by unfold Addr.add;split<;>simp_all
 rw [hadd,cell_of_row _ _ j _ _ (0,0) (heap_alloc_new w _)]
 match j,hu with
 | 0,hu=>simpa using hu
 | k+1,hu=>simp at hu
theorem one_t (x:ByteArray):∀ u ∈ ([Value.string x]:List Value),u.oneCell'=true:=by
 intro u hu;simp only [List.mem_singleton] at hu;subst hu
 rfl
theorem own_kept {w w':World} {base n:Nat} {t:TypeId} {v:Value} {l:List Value} (h:w.ownsRow base t 1 v n l) (k:Ext w w'):w'.ownsRow base t 1 v n l:=by
 obtain ⟨h1,h2 | ⟨g,cap,cur,e1,e2,e3,e4⟩⟩:=h
 ·exact ⟨h1,Or.inl h2⟩
 ·exact ⟨h1,Or.inr ⟨g,cap,cur,e1,e2,(k.block g (gS.1 e3).1).trans e3,e4⟩⟩
theorem QTexts_any (b n cp:Nat) (s:Nat->Nm) (P E:Nat) (w:World) (h:RsAt Qc w b n s P E) (hn:n<=4096) (hP:P<=400000) (hE:E<=1099511627776) :
  Calls Tryz.prog 25 #[.slice (some ⟨b,0,none⟩) n cp] w fun e w'=>∃ v,e=.returned v/\w'.ownsRow w.heap.size 9 1 v n (txV s n)/\Ext w w':=by
 obtain ⟨i0,hi,hz0,hz1,hz2⟩:=info_parts S_info;have Hh:=Lh h;have HP:=Lh hP;have HE:=Lh hE;have Hn:=Lh hn;clear h hP hE hn
 go_enter Tryz.func25,Tryz.ntmps25
 go_wp2_with fail
 go_loopg [3,4] n (fun k s3 s4 wr=>Ext w wr/\∃ i:Nat,s4=.int .i64 (i:Int)/\i<=n/\n-i=k/\wr.ownsRow w.heap.size 9 1 s3 i (txV s i))
 case atStart=>exact ⟨Ext.refl _,0,rfl,Nat.zero_le _,rfl,⟨rfl,Or.inl ⟨rfl,rfl⟩⟩⟩
 case round =>
  obtain ⟨hER,i,rfl,hil,hk,hown⟩:=hrel;have HER:=Lh hER;have Hown:=Lh hown;have Hk:=Lh hk;clear hER hown hk
  by_cases hin:i=n
  ·have q1:¬ (i:Int)<(n:Int):=by omega
   have Hend:=Lh (show wr.ownsRow w.heap.size 9 1 u3 n (txV s n)/\Ext w wr from ⟨hin ▸ Hown.out,HER.out⟩);clear hin hil Hown
   go_wp2_with fail
   go_ret
   exact ⟨_,rfl,Hend.out⟩
  have hlt:i<n:=by omega
  have q1:(i:Int)<(n:Int):=by omega
  have q0:(0:Int)<=(i:Int):=by omega
  have wk:IntKind.i64.wrap ((i:Int)+1)=((i+1:Nat):Int):=by rw [IntKind.wrap_i64];have:=Hn.out;omega
  obtain ⟨cl,hcl,hRl,hln⟩:=(Hh.out.ext HER.out).at hlt
  have hil':(Tryz.prog.info? 48).map (·.size)=some cl.length:=by rw [hln];exact R_size
  have Hlt:=Lh hlt;have HRl:=Lh hRl;clear hin hil hlt hRl hln
  go_wp2_with (refine wpList_load_mid rfl 48 _ rfl b (i*17) rfl cl _ hcl Tryz.underlying48 rfl hil' ?_)
  refine (QText_nm cl.toArray _ _ _ wr HRl.out HP.out HE.out).mono ?_;rintro e w2 ⟨rfl,hx2⟩;have HE2:=Lh (HER.out.trans hx2);have Hown2:=Lh (own_kept Hown.out hx2);clear hx2 hcl hil' HRl Hown
  go_wp2_with (at_builtin;refine wpList_append_own _ rfl _ _ 27 rfl w.heap.size 9 i0 (.string ⟨#[]⟩) 1 16 Tryz.underlying27 hi hz0 hz1 hz2 rfl (by decide) _ i (txV s i) rfl (Hown2.out.alloc _) ⟨w2.heap.size,0,none⟩ 1 1 [txA (s i)] rfl rfl (new_t w2 _ _) (one_t _) (by unfold maxLen;have:=Hn.out;have:=Hlt.out;omega) (by have:=Hn.out;have:=Hlt.out;omega) (Nat.le_trans HE2.out.size (ext_alloc w2 _).size) ?_;intro v' w7 hown' hgrow' _)
  go_roundg (n-(i+1))
  case measure=>have:=Hk.out;have:=Hlt.out;omega
  case rel=>exact ⟨ext_grown (HE2.out.trans (ext_alloc w2 _)) hgrow' (fun k hk=>(Hown2.out.lt k hk).1),i+1,rfl,Hlt.out,rfl,by rw [txV_snoc];exact hown'⟩
theorem shot_info:(Tryz.prog.info? 29).map (·.size)=some 3:=by kernel_rfl
def ShA (w:World) (cs:Array Value) (n:Nat) (M:Sho):Prop:=∃ g bb,cs=#[.slice (some ⟨g,0,none⟩) n n,.slice (some ⟨bb,0,none⟩) M.bits.length M.bits.length,.int .i64 (M.u:Int)]/\w.heap[g]?=some (.cells (txC M.s n n) 9 (0,0))/\w.heap[bb]?=some (.cells (bC M.bits) 3 (0,0))
theorem plM_zero (want:List Int):∀ (ops:List Gop) (i:Nat) (s:Nat->Nm) (bits:List Int) (u:Nat),(plM want ops i s bits u).f.1=0->(plM want ops i s bits u).f.2=0
 | [],_,_,_,_,_=>rfl
 | o :: r,i,s,bits,u,h=>by
  revert h
  have ih:=plM_zero want r;rw [plM]
  split
  ·exact ih _ _ _ _
  split
  ·exact ih _ _ _ _
  split
  ·intro h;simp at h
  split
  ·intro h;simp at h
  split
  ·exact ih _ _ _ _
  split
  ·exact ih _ _ _ _
  ·exact ih _ _ _ _
def noSh:Array Value:=#[.slice none 0 0,.slice none 0 0,.int .i64 0]
theorem Run_any (c:Gci) (ao:Option Addr) (n cp:Nat) (x:Int) (ta:Option Addr) (tn tc:Nat) (want:List Int) (w:World) (h:OpsAt w ao n c.ops) (hn:n<=cp) (hcp:cp<=9223372036854775807) (hT:IntsAt w ta tn want) (hS:Shp w) (hbr:Bru w) (hTen:Ten w) :
  Calls Tryz.prog 6 #[.agg #[.int .i64 c.qubits,.int .i64 c.bits,.slice ao n cp],.int .i64 x,.slice ta tn tc] w fun e w'=>∃ cs,e=.returned (.tuple #[.agg cs,.agg #[.int .i64 (shoF c x want).1,.int .i64 (shoF c x want).2]])/\Ext w w' /\
   ((shoF c x want).1=0->ShA w' cs (2 ^ c.qubits.toNat) (shoR c x want))/\((shoF c x want).1≠0->cs=noSh):=by
 obtain ⟨F,hF⟩:∃ F,shoF c x want=F:=⟨_,rfl⟩;obtain ⟨F0,F1⟩:=F;obtain ⟨M,hM⟩:∃ M,shoR c x want=M:=⟨_,rfl⟩
 have hq4:F0=0->2 ^ c.qubits.toNat<=4096:=by
  intro h0
  have h1:(chk c).1=0:=by
   unfold shoF stF at hF
   by_cases hc:(chk c).1=0
   ·exact hc
   ·rw [if_pos hc,if_pos hc] at hF
    exact absurd ((congrArg Prod.fst hF).trans h0) hc
  obtain ⟨_,_,h2,_⟩:=chk_zero h1;exact Nat.le_trans (Nat.pow_le_pow_right (by decide) (show c.qubits.toNat<=12 by omega)) (by decide)
 have hf1z:F0=0->F1=0:=by
  intro h0;unfold shoF at hF;rw [hM] at hF;have hplz:∀ (ops:List Gop) (i:Nat) (s:Nat->Nm) (bits:List Int) (u:Nat),(plM want ops i s bits u).f.1=0->(plM want ops i s bits u).f.2=0:=plM_zero want
  by_cases hc:(stF c x).1=0
  ·rw [if_neg (by simp [hc])] at hF
   have h1:=congrArg Prod.fst hF;have h2:=congrArg Prod.snd hF;rw [<-hM] at h1 h2;unfold shoR at h1 h2;have:=hplz _ _ _ _ _ (h1.trans h0);rw [this] at h2;exact h2.symm
  ·rw [if_pos hc] at hF
   exact absurd ((congrArg Prod.fst hF).trans h0) hc
 obtain ⟨m,hm⟩:∃ m,2 ^ c.qubits.toNat=m:=⟨_,rfl⟩;rw [hm] at hq4;obtain ⟨H,hH⟩:∃ H,w.heap.size=H:=⟨_,rfl⟩;obtain ⟨W,hW⟩:∃ W,((w.alloc (.cells #[.int .i64 c.qubits,.int .i64 c.bits,.slice ao n cp] 24)).alloc (.cells #[.slice none 0 0,.slice none 0 0,.int .i64 0] 29)).alloc (.cells #[.int .i64 0,.int .i64 0] 31)=W:=⟨_,rfl⟩
 have E0:Ext w W:=by rw [<-hW];exact ((ext_al w _).trans (ext_al _ _)).trans (ext_al _ _)
 have bCi:CiB W H c.qubits c.bits ao n cp:=by rw [<-hW,<-hH];exact CiB.ext (CiB.ext ⟨heap_alloc_new w _⟩ (ext_al _ _)) (ext_al _ _)
 have rS:W.heap[H+1]?=some (.cells #[.slice none 0 0,.slice none 0 0,.int .i64 0] 29 (0,0)):=by
  have h1:=heap_alloc_new (w.alloc (.cells #[.int .i64 c.qubits,.int .i64 c.bits,.slice ao n cp] 24)) (.cells #[.slice none 0 0,.slice none 0 0,.int .i64 0] 29);have h2:=((ext_al ((w.alloc (.cells #[.int .i64 c.qubits,.int .i64 c.bits,.slice ao n cp] 24)).alloc (.cells #[.slice none 0 0,.slice none 0 0,.int .i64 0] 29)) (.cells #[.int .i64 0,.int .i64 0] 31)).block _ (gS.1 h1).1).trans h1;rw [World.size_alloc] at h2;rw [<-hW,<-hH];exact h2
 have bF:FtB W (H+2) 0 0:=⟨by
  have h1:=heap_alloc_new ((w.alloc (.cells #[.int .i64 c.qubits,.int .i64 c.bits,.slice ao n cp] 24)).alloc (.cells #[.slice none 0 0,.slice none 0 0,.int .i64 0] 29)) (.cells #[.int .i64 0,.int .i64 0] 31);rw [World.size_alloc,World.size_alloc] at h1
  rw [<-hW,<-hH];exact h1⟩
 have m0:=bCi.x0;have m1:=bCi.x1;have m2:=bCi.x2;have HP:=Lh (play_any c ao n cp x ta tn tc want W (h.ext E0) hn hcp (hT.ext E0) (hS.ext E0) (bru_ext hbr E0));rw [hF,hM,hm] at HP;rw [hF,hM,hm];obtain ⟨qb,bi,ops⟩:=c;simp only at m0 m1 m2 HP hW ⊢;have HE0:=Lh E0;have HH:=Lh hH;have HW:=Lh hW;have HrS:=Lh rS;have HbF:=Lh bF;have HTen:=Lh (tab_ext hTen E0);have Hq4:=Lh hq4;have Hf1z0:=Lh hf1z;have HwH:=Lh (show w.heap.size<=H by omega);clear h hT hS hbr hTen hF hM hm hH hW E0 bCi rS bF hq4 hf1z
 go_enter Tryz.func6,Tryz.ntmps6
 go_upto_region 1 with fail
 rw [HW.out,HH.out]
 go_wp2_with fail
 refine HP.out.mono ?_;rintro e w1 ⟨p,rfl,hx1,hrun⟩;have Ef:=ext_al w1 (.cells #[.int .i64 F0,.int .i64 F1] 31);have bf1:FtB (w1.alloc (.cells #[.int .i64 F0,.int .i64 F1] 31)) w1.heap.size F0 F1:=⟨heap_alloc_new w1 _⟩;have q0:=bf1.x0;have q1:=bf1.x1;have HX1:=Lh (hx1.trans Ef);have HX0:=Lh hx1;have bz:=HbF.out.ext HX1.out;have x0':=bz.x0;have x1':=bz.x1;have g0':=bz.f 0;have g1':=bz.f 1;have rS:=(HX1.out.block _ (gS.1 HrS.out).1).trans HrS.out;have HrS1:=Lh rS;have Hbz:=Lh bz;have Hef:=Lh Ef
 have s0:(w1.alloc (.cells #[.int .i64 F0,.int .i64 F1] 31)).cell? ⟨H+1,0,none⟩=some (.slice none 0 0):=by rw [cell_of_row _ _ 0 _ _ (0,0) rS];rfl
 have s1:(w1.alloc (.cells #[.int .i64 F0,.int .i64 F1] 31)).cell? ⟨H+1,1,none⟩=some (.slice none 0 0):=by rw [cell_of_row _ _ 1 _ _ (0,0) rS];rfl
 have s2:(w1.alloc (.cells #[.int .i64 F0,.int .i64 F1] 31)).cell? ⟨H+1,2,none⟩=some (.int .i64 0):=by rw [cell_of_row _ _ 2 _ _ (0,0) rS];rfl
 have t0:=frozen_of_row _ (H+1) 0 _ _ rS;have t1:=frozen_of_row _ (H+1) 1 _ _ rS;have t2:=frozen_of_row _ (H+1) 2 _ _ rS;have HEz:=Lh (HE0.out.trans HX1.out);have Hrun:=Lh hrun;clear bz m0 m1 m2 hx1 Ef bf1 HP HH HW rS hrun
 by_cases hc0:F0=0
 ·have hcb:=nf' hc0
  obtain ⟨B,R,i,bw,bb,tv,rfl,hr,hi4⟩:=Hrun.out hc0;obtain ⟨ta2,tc2,rfl⟩:=run_tape hr;have Hq:=Lh (Hq4.out hc0);have Hr:=Lh (hr.ext' Hef.out);have Hi4:=Lh hi4;have Hc0:=Lh hc0;have Hf1z:F1=0:=Hf1z0.out hc0;have HF1:=Lh Hf1z;clear hr Hrun hc0 hi4 q1 Hf1z Hf1z0
  go_upto_region 4 with fail
  clear s0 s1 s2 t0 t1 t2 x0' x1' g0' g1' q0;generalize w1.alloc (.cells #[.int .i64 F0,.int .i64 F1] 31)=W1 at *;generalize w1.heap.size=FB at *;have c2:=Hr.out.c2;have c3:=Hr.out.c3;have c4:=Hr.out.c4;have lR:=World.block_lt_of_cell? W1 ⟨R,2,none⟩ c2;have d0:Ext W1 W1.drew:=Below.drew (Ext.refl _);have HTx:=Lh (texts_any bw m m M.s i W1.drew (Hr.out.wav.ext d0) Hq.out (by have:=Hi4.out;omega) (tab_ext HTen.out (HX1.out.trans d0)));obtain ⟨nb,hnb⟩:∃ nb,M.bits.length=nb:=⟨_,rfl⟩;obtain ⟨uu,huu⟩:∃ uu,M.u=uu:=⟨_,rfl⟩;rw [hnb] at c3;rw [huu] at c4;have Hnb:=Lh hnb;have Huu:=Lh huu;clear hnb huu;refine wp_region_any (by kernel_rfl) (anyT_plain (k:=99) (S:=fun w'=>True) (T:=fun w'=>(w'.cell? ⟨R,2,none⟩=some (.slice (some ⟨bw,0,none⟩) m m)/\w'.cell? ⟨R,3,none⟩=some (.slice (some ⟨bb,0,none⟩) nb nb))/\w'.cell? ⟨R,4,none⟩=some (.slice ta2 uu tc2)) _ _ _ _ ?_)
  show anyT _ _ _ _ _ _ _ 18 #[false,false,false,false,false,false,false,false,false,false,false,false,false,false,false,false,false,false] _ _
  have hT:(W1.drew.cell? ⟨R,2,none⟩=some (.slice (some ⟨bw,0,none⟩) m m)/\W1.drew.cell? ⟨R,3,none⟩=some (.slice (some ⟨bb,0,none⟩) nb nb))/\W1.drew.cell? ⟨R,4,none⟩=some (.slice ta2 uu tc2):=⟨⟨cellKeep d0 lR c2,cellKeep d0 lR c3⟩,cellKeep d0 lR c4⟩;have hHeld:True:=trivial;refine tT 0 (v:=?_) rfl (Or.inl ⟨by rfl,?_⟩) hT (fun _=>hHeld) ?_;rotate_left 1
  ·intro w hSw
   go_simp
   try with_reducible rfl
  show anyT _ _ _ _ _ _ _ _ _ (Act.put _ (some 22) _) _
  simp only [Act.put,sx0,sx1,sx2];refine tT 1 (v:=?_) rfl (Or.inl ⟨by rfl,?_⟩) hT (fun _=>hHeld) ?_;rotate_left 1
  ·intro w hSw
   go_simp
   try with_reducible rfl
  show anyT _ _ _ _ _ _ _ _ _ (Act.put _ (some 23) _) _
  simp only [Act.put,sx0,sx1,sx2];refine tT 2 (v:=?_) rfl (Or.inl ⟨by rfl,?_⟩) hT (fun _=>hHeld) ?_;rotate_left 1
  ·intro w hSw
   go_simp
   try with_reducible rfl
  show anyT _ _ _ _ _ _ _ _ _ (Act.put _ (some 24) _) _
  simp only [Act.put,sx0,sx1,sx2];refine tT 3 (v:=?_) rfl (Or.inl ⟨by rfl,?_⟩) hT (fun _=>hHeld) ?_;rotate_left 1
  ·intro w hSw
   go_simp
   try with_reducible rfl
  show anyT _ _ _ _ _ _ _ _ _ (Act.put _ (some 25) _) _
  simp only [Act.put,sx0,sx1,sx2];refine tT 5 (v:=?_) rfl (Or.inl ⟨by rfl,?_⟩) hT (fun _=>hHeld) ?_;rotate_left 1
  ·intro w hSw
   go_simp
   try with_reducible rfl
  show anyT _ _ _ _ _ _ _ _ _ (Act.put _ (some 27) _) _
  simp only [Act.put,sx0,sx1,sx2];refine tT 6 (v:=?_) rfl (Or.inl ⟨by rfl,?_⟩) hT (fun _=>hHeld) ?_;rotate_left 1
  ·intro w hSw
   go_simp
   try with_reducible rfl
  show anyT _ _ _ _ _ _ _ _ _ (Act.put _ (some 28) _) _
  simp only [Act.put,sx0,sx1,sx2];refine tT 7 (v:=?_) rfl (Or.inl ⟨by rfl,?_⟩) hT (fun _=>hHeld) ?_;rotate_left 1
  ·intro w hSw
   go_simp
   try with_reducible rfl
  show anyT _ _ _ _ _ _ _ _ _ (Act.put _ (some 29) _) _
  simp only [Act.put,sx0,sx1,sx2];refine tT 8 (v:=?_) rfl (Or.inl ⟨by rfl,?_⟩) hT (fun _=>hHeld) ?_;rotate_left 1
  ·intro w hSw
   go_simp
   try with_reducible rfl
  show anyT _ _ _ _ _ _ _ _ _ (Act.put _ (some 30) _) _
  simp only [Act.put,sx0,sx1,sx2];refine tT 9 (v:=?_) rfl (Or.inl ⟨by rfl,?_⟩) hT (fun _=>hHeld) ?_;rotate_left 1
  ·intro w hSw
   go_simp
   try with_reducible rfl
  show anyT _ _ _ _ _ _ _ _ _ (Act.put _ (some 31) _) _
  simp only [Act.put,sx0,sx1,sx2];refine tT 10 (v:=?_) rfl (Or.inl ⟨by rfl,?_⟩) hT (fun _=>hHeld) ?_;rotate_left 1
  ·intro w hSw
   go_simp
   try with_reducible rfl
  show anyT _ _ _ _ _ _ _ _ _ (Act.put _ (some 32) _) _
  simp only [Act.put,sx0,sx1,sx2];refine tT 11 (v:=?_) rfl (Or.inl ⟨by rfl,?_⟩) hT (fun _=>hHeld) ?_;rotate_left 1
  ·intro w hSw
   go_simp
   try with_reducible rfl
  show anyT _ _ _ _ _ _ _ _ _ (Act.put _ (some 33) _) _
  simp only [Act.put,sx0,sx1,sx2];refine tT 12 (v:=?_) rfl (Or.inl ⟨by rfl,?_⟩) hT (fun _=>hHeld) ?_;rotate_left 1
  ·intro w hSw
   go_simp
   try with_reducible rfl
  show anyT _ _ _ _ _ _ _ _ _ (Act.put _ (some 34) _) _
  simp only [Act.put,sx0,sx1,sx2];refine tT 13 (v:=?_) rfl (Or.inl ⟨by rfl,?_⟩) hT (fun _=>hHeld) ?_;rotate_left 1
  ·intro w hSw
   go_simp
   try with_reducible rfl
  show anyT _ _ _ _ _ _ _ _ _ (Act.put _ (some 35) _) _
  simp only [Act.put,sx0,sx1,sx2];refine tT 15 (v:=?_) rfl (Or.inl ⟨by rfl,?_⟩) hT (fun _=>hHeld) ?_;rotate_left 1
  ·intro w hSw
   go_simp
   try with_reducible rfl
  show anyT _ _ _ _ _ _ _ _ _ (Act.put _ (some 37) _) _
  simp only [Act.put,sx0,sx1,sx2];clear hT hHeld;refine anyT_one (i:=4) (by kernel_rfl) rfl (fun Kk hKk=>?_)
  go_simp
  (go_at_call 24;refine HTx.out.mono ?_;rintro e w2 ⟨g,rfl,hg,hgs,hx2⟩)
  have he:=d0.trans hx2
  go_wp2_with fail
  refine hKk.out _ _ (⟨⟨cellKeep he lR c2,cellKeep he lR c3⟩,cellKeep he lR c4⟩) (fun _=>trivial) ?_;clear hKk Kk;simp only [sx0,sx1,sx2];have hT:(w2.cell? ⟨R,2,none⟩=some (.slice (some ⟨bw,0,none⟩) m m)/\w2.cell? ⟨R,3,none⟩=some (.slice (some ⟨bb,0,none⟩) nb nb))/\w2.cell? ⟨R,4,none⟩=some (.slice ta2 uu tc2):=⟨⟨cellKeep he lR c2,cellKeep he lR c3⟩,cellKeep he lR c4⟩;have hHeld:True:=trivial;refine tT 14 (v:=?_) rfl (Or.inl ⟨by rfl,?_⟩) hT (fun _=>hHeld) ?_;rotate_left 1
  ·intro w hSw
   go_simp
   try with_reducible rfl
  show anyT _ _ _ _ _ _ _ _ _ (Act.put _ (some 36) _) _
  simp only [Act.put,sx0,sx1,sx2];clear hT hHeld;have r6:=(he.block _ (gS.1 HrS1.out).1).trans HrS1.out;have r7:=(he.block _ (gS.1 Hbz.out.row).1).trans Hbz.out.row;have rb:=(he.block _ (gS.1 Hr.out.bit).1).trans Hr.out.bit;have rR:=(he.block _ (gS.1 Hr.out.row).1).trans Hr.out.row;have o6:=setRow_only w2 (H+1) #[.slice (some ⟨g,0,none⟩) m m,.slice (some ⟨bb,0,none⟩) nb nb,.int .i64 (uu:Int)];have k6:=setRow_heap w2 (H+1) _ #[.slice (some ⟨g,0,none⟩) m m,.slice (some ⟨bb,0,none⟩) nb nb,.int .i64 (uu:Int)] _ _ r6;have o7:=setRow_only (w2.setRow (H+1) #[.slice (some ⟨g,0,none⟩) m m,.slice (some ⟨bb,0,none⟩) nb nb,.int .i64 (uu:Int)]) (H+2) #[.int .i64 0,.int .i64 0];have r7':=(o6.block (H+2) (by omega)).trans r7;have k7:=setRow_heap (w2.setRow (H+1) #[.slice (some ⟨g,0,none⟩) m m,.slice (some ⟨bb,0,none⟩) nb nb,.int .i64 (uu:Int)]) (H+2) _ #[.int .i64 0,.int .i64 0] _ _ r7';have k6':=(o7.block (H+1) (by omega)).trans k6
  have n1:R≠H+1/\R≠H+2/\bb≠H+1/\bb≠H+2/\g≠H+1/\g≠H+2:=by
   have e1:=(gS.1 HrS1.out).1;have e2:=Hbz.out.lt;have e3:=d0.size;refine ⟨?_,?_,?_,?_,by omega,by omega⟩
   ·rintro rfl;rw [rR] at r6;injection r6 with r6;injection r6 with _ r6 _;exact absurd r6 (by decide)
   ·rintro rfl;rw [rR] at r7;injection r7 with r7;injection r7 with _ r7 _;exact absurd r7 (by decide)
   ·rintro rfl;rw [rb] at r6;injection r6 with r6;injection r6 with _ r6 _;exact absurd r6 (by decide)
   ·rintro rfl;rw [rb] at r7;injection r7 with r7;injection r7 with _ r7 _;exact absurd r7 (by decide)
  have kg:=(o7.block g n1.2.2.2.2.2).trans ((o6.block g n1.2.2.2.2.1).trans hg);have kb:=(o7.block bb n1.2.2.2.1).trans ((o6.block bb n1.2.2.1).trans rb);have kR:=(o6.block R n1.1).trans rR;have kR':=(o7.block R n1.2.1).trans kR;have tS1:((w2.setRow (H+1) #[.slice (some ⟨g,0,none⟩) m m,.slice (some ⟨bb,0,none⟩) nb nb,.int .i64 (uu:Int)]).cell? ⟨R,2,none⟩=some (.slice (some ⟨bw,0,none⟩) m m)/\(w2.setRow (H+1) #[.slice (some ⟨g,0,none⟩) m m,.slice (some ⟨bb,0,none⟩) nb nb,.int .i64 (uu:Int)]).cell? ⟨R,3,none⟩=some (.slice (some ⟨bb,0,none⟩) nb nb))/\(w2.setRow (H+1) #[.slice (some ⟨g,0,none⟩) m m,.slice (some ⟨bb,0,none⟩) nb nb,.int .i64 (uu:Int)]).cell? ⟨R,4,none⟩=some (.slice ta2 uu tc2):=⟨⟨by rw [cell_of_row _ R 2 _ _ (0,0) kR];rfl,by rw [cell_of_row _ R 3 _ _ (0,0) kR,<-Hnb.out];rfl⟩,by rw [cell_of_row _ R 4 _ _ (0,0) kR,<-Huu.out];rfl⟩;have tS2:(((w2.setRow (H+1) #[.slice (some ⟨g,0,none⟩) m m,.slice (some ⟨bb,0,none⟩) nb nb,.int .i64 (uu:Int)]).setRow (H+2) #[.int .i64 0,.int .i64 0]).cell? ⟨R,2,none⟩=some (.slice (some ⟨bw,0,none⟩) m m)/\((w2.setRow (H+1) #[.slice (some ⟨g,0,none⟩) m m,.slice (some ⟨bb,0,none⟩) nb nb,.int .i64 (uu:Int)]).setRow (H+2) #[.int .i64 0,.int .i64 0]).cell? ⟨R,3,none⟩=some (.slice (some ⟨bb,0,none⟩) nb nb))/\((w2.setRow (H+1) #[.slice (some ⟨g,0,none⟩) m m,.slice (some ⟨bb,0,none⟩) nb nb,.int .i64 (uu:Int)]).setRow (H+2) #[.int .i64 0,.int .i64 0]).cell? ⟨R,4,none⟩=some (.slice ta2 uu tc2):=⟨⟨by rw [cell_of_row _ R 2 _ _ (0,0) kR'];rfl,by rw [cell_of_row _ R 3 _ _ (0,0) kR',<-Hnb.out];rfl⟩,by rw [cell_of_row _ R 4 _ _ (0,0) kR',<-Huu.out];rfl⟩
  have hE9:Ext w ((w2.setRow (H+1) #[.slice (some ⟨g,0,none⟩) m m,.slice (some ⟨bb,0,none⟩) nb nb,.int .i64 (uu:Int)]).setRow (H+2) #[.int .i64 0,.int .i64 0]):=by
   have a1:=(HEz.out.trans he);have a2:=HwH.out;refine ⟨o7.os.trans (o6.os.trans a1.os),o7.tape.trans (o6.tape.trans a1.tape),o7.output.trans (o6.output.trans a1.output),by rw [o7.size,o6.size];exact a1.size,fun k hk=>?_⟩;exact (o7.block k (by omega)).trans ((o6.block k (by omega)).trans (a1.block k hk))
  have Hend:=Lh (show ShA ((w2.setRow (H+1) #[.slice (some ⟨g,0,none⟩) m m,.slice (some ⟨bb,0,none⟩) nb nb,.int .i64 (uu:Int)]).setRow (H+2) #[.int .i64 0,.int .i64 0]) #[.slice (some ⟨g,0,none⟩) m m,.slice (some ⟨bb,0,none⟩) nb nb,.int .i64 (uu:Int)] m M from ⟨g,bb,by rw [Hnb.out,Huu.out],kg,kb⟩);have HE9:=Lh hE9;refine anyT_one (i:=16) (by kernel_rfl) rfl (fun Kk hKk=>?_);refine stepK_storeR rfl rfl 29 _ _ rfl (H+1) #[.slice (some ⟨g,0,none⟩) m m,.slice (some ⟨bb,0,none⟩) nb nb,.int .i64 (uu:Int)] rfl rfl 29 _ r6 shot_info rfl (by simp [Value.oneCell']) ?_;refine hKk.out _ _ tS1 (fun _=>trivial) ?_;clear hKk Kk;refine anyT_one (i:=17) (by kernel_rfl) rfl (fun Kk hKk=>?_);refine stepK_storeR rfl rfl 31 _ _ rfl (H+2) #[.int .i64 0,.int .i64 0] rfl rfl 31 _ r7' fault_info rfl (fault_one _ _) ?_;refine hKk.out _ _ tS2 (fun _=>trivial) ?_;clear hKk Kk;refine anyT_done (by kernel_rfl) ?_ _;generalize (w2.setRow (H+1) #[.slice (some ⟨g,0,none⟩) m m,.slice (some ⟨bb,0,none⟩) nb nb,.int .i64 (uu:Int)]).setRow (H+2) #[.int .i64 0,.int .i64 0]=W9 at *
  have z0:W9.cell? ⟨H+1,0,none⟩=some (.slice (some ⟨g,0,none⟩) m m):=by rw [cell_of_row _ _ 0 _ _ (0,0) k6'];rfl
  have z1:W9.cell? ⟨H+1,1,none⟩=some (.slice (some ⟨bb,0,none⟩) nb nb):=by rw [cell_of_row _ _ 1 _ _ (0,0) k6'];rfl
  have z2:W9.cell? ⟨H+1,2,none⟩=some (.int .i64 (uu:Int)):=by rw [cell_of_row _ _ 2 _ _ (0,0) k6'];rfl
  have z3:W9.cell? ⟨H+2,0,none⟩=some (.int .i64 0):=by rw [cell_of_row _ _ 0 _ _ (0,0) k7];rfl
  have z4:W9.cell? ⟨H+2,1,none⟩=some (.int .i64 0):=by rw [cell_of_row _ _ 1 _ _ (0,0) k7];rfl
  clear r6 r7 rb rR o6 k6 o7 r7' k7 k6' n1 kg kb kR kR' tS1 tS2 hE9 he hx2 hg hgs c2 c3 c4 lR d0
  go_wp2_with fail
  exact bodyPost_ret (v:=.tuple #[.agg #[.slice (some ⟨g,0,none⟩) m m,.slice (some ⟨bb,0,none⟩) nb nb,.int .i64 (uu:Int)],.agg #[.int .i64 0,.int .i64 0]]) (by simp [results,Tryz.results6,go_sem,z0,z1,z2,z3,z4]) rfl ⟨_,by rw [Hc0.out,HF1.out],HE9.out,fun _=>Hend.out,fun h=>absurd Hc0.out h⟩
 ·have hcb:=nt hc0
  have Hc0:=Lh hc0;have e1:=(gS.1 HrS.out).1;have e2:=HbF.out.lt;have e3:=HX0.out.size
  have ne1:H+1≠w1.heap.size:=by omega
  have ne2:H+2≠w1.heap.size:=by omega
  have ne3:w1.heap.size≠H+1:=by omega
  have ne4:w1.heap.size≠H+2:=by omega
  clear hc0 Hrun Hq4 e1 e2 e3
  go_upto_region 3 with fail
  go_region
  go_wp2_with fail
  refine bodyPost_ret (v:=.tuple #[.agg noSh,.agg #[.int .i64 F0,.int .i64 F1]]) (by simp [results,Tryz.results6,go_sem,s0,s1,s2,x0',x1',noSh]) rfl ⟨noSh,rfl,?_,fun h=>absurd h Hc0.out,fun _=>rfl⟩;have:=HwH.out;refine Below.drew ?_;exact Ext.put (Ext.put (Ext.put (Ext.put (Ext.put HEz.out (by omega) _) (by omega) _) (by omega) _) (by omega) _) (by omega) _
def sC (l:List (List UInt8)):List Value:=l.map fun x=>Value.string ⟨x.toArray⟩
def StrsAt (w:World) (ao:Option Addr) (n:Nat) (l:List (List UInt8)):Prop :=
 l.length=n/\(n=0\/∃ b o,ao=some ⟨b,o,none⟩/\b<w.heap.size/\∀ t,t<n->w.cell? ⟨b,o+t,none⟩=some (.string ⟨(l.getD t []).toArray⟩))
theorem StrsAt.ext {w w':World} {ao:Option Addr} {n:Nat} {l:List (List UInt8)} (h:StrsAt w ao n l) (k:Ext w w'):StrsAt w' ao n l:=by
 refine ⟨h.1,?_⟩
 rcases h.2 with h0 | ⟨b,o,e,hb,hc⟩
 ·exact Or.inl h0
 ·exact Or.inr ⟨b,o,e,Nat.lt_of_lt_of_le hb k.size,fun t ht=>(k.cell (p:=⟨b,o+t,none⟩) hb).trans (hc t ht)⟩
theorem strs_of_own {w:World} {base n:Nat} {v:Value} {l:List (List UInt8)} (h:w.ownsRow base 9 1 v n (sC l)):∃ (a:Option Addr) (c:Nat),v=.slice a n c/\n<=c/\c<=maxLen/\StrsAt w a n l:=by
 have hl:l.length=n:=by have:=h.1;simpa [sC] using this
 rcases h.2 with ⟨rfl,rfl⟩ | ⟨g,cap,cur,rfl,_,hg,hnc,hcm,_,htk⟩
 ·exact ⟨none,0,rfl,Nat.le_refl _,Nat.zero_le _,⟨hl,Or.inl rfl⟩⟩
 ·refine ⟨some ⟨g,0,none⟩,cap,rfl,hnc,hcm,⟨hl,Or.inr ⟨g,0,rfl,(gS.1 hg).1,fun t ht=>?_⟩⟩⟩
  rw [cell_of_row w g (0+t) cur _ (0,0) hg,Nat.zero_add]
  have h1:(sC l)[t]?=cur.toList[t]?:=by
   rw [<-htk,List.getElem?_take,if_pos (by omega)]
  rw [<-Array.getElem?_toList,<-h1];simp only [sC,List.getElem?_map,List.getD_eq_getElem?_getD];rw [List.getElem?_eq_getElem (by omega)]
  rfl
theorem cdrew {w W:World} (h:Ext w W):Ext w W.drew:=Below.drew h
theorem sameInts_any (l:List Int) (a1:Option Addr) (n c1:Nat) (a2:Option Addr) (c2:Nat) (w:World) (h1:IntsAt w a1 n l) (h2:IntsAt w a2 n l) (hc1:n<=c1) (hm1:c1<=9223372036854775807) :
  Calls Tryz.prog 11 #[.slice a1 n c1,.slice a2 n c2] w fun e w'=>e=.returned (.bool true)/\Ext w w':=by
 have H1:=Lh h1;have H2:=Lh h2;clear h1 h2
 go_enter Tryz.func11,Tryz.ntmps11
 go_wp2_with fail
 go_loopg [5] n (fun kk s5 wx=>∃ i:Nat,s5=.int .i64 (i:Int)/\i<=n/\n-i=kk/\Ext w wx)
 case atStart=>exact ⟨0,rfl,by omega,by omega,Ext.refl w⟩
 case round =>
  obtain ⟨i,rfl,hi1,hk,hE⟩:=hrel;have HE:=Lh hE
  by_cases hin:i=n
  ·have h2:¬ (i:Int)<(n:Int):=by omega
   clear hE
   go_wp2_with fail
   go_ret
   exact ⟨rfl,HE.out⟩
  ·have h2:(i:Int)<(n:Int):=by omega
   have h0:(0:Int)<=(i:Int):=by omega
   obtain ⟨b1,o1,rfl,hb1,hc1'⟩:=(H1.out.ext hE).at (by omega);obtain ⟨b2,o2,rfl,hb2,hc2'⟩:=(H2.out.ext hE).at (by omega);have e1:=hc1' i (by omega);have e2:=hc2' i (by omega);obtain ⟨x,hx⟩:∃ x,l.getD i 0=x:=⟨_,rfl⟩;rw [hx] at e1 e2;have HEd:=Lh (cdrew hE);clear hE hc1' hc2' hx
   go_wp2_with fail
   go_region
   go_wp2_with fail
   go_roundg (n-(i+1))
   case measure=>omega
   case rel=>exact ⟨i+1,by go_num,by omega,rfl,HEd.out⟩
theorem sameCircuit_any (c:Gci) (a1:Option Addr) (n c1:Nat) (a2:Option Addr) (c2:Nat) (w:World) (h1:OpsAt w a1 n c.ops) (h2:OpsAt w a2 n c.ops) (hn1:n<=c1) (hm1:c1<=9223372036854775807) (_hn2:n<=c2) (_hm2:c2<=9223372036854775807) :
  Calls Tryz.prog 10 #[.agg #[.int .i64 c.qubits,.int .i64 c.bits,.slice a1 n c1],.agg #[.int .i64 c.qubits,.int .i64 c.bits,.slice a2 n c2]] w fun e w'=>e=.returned (.bool true)/\Ext w w':=by
 obtain ⟨qb,bi,ops⟩:=c;simp only at h1 h2 ⊢;obtain ⟨A1,hA1⟩:∃ A1,w.alloc (.cells #[.int .i64 qb,.int .i64 bi,.slice a1 n c1] 24)=A1:=⟨_,rfl⟩;obtain ⟨A2,hA2⟩:∃ A2,A1.alloc (.cells #[.int .i64 qb,.int .i64 bi,.slice a2 n c2] 24)=A2:=⟨_,rfl⟩
 have s1:A1.heap.size=w.heap.size+1:=by rw [<-hA1];simp
 have x1:Ext w A1:=by rw [<-hA1];exact ext_al _ _
 have x2:Ext A1 A2:=by rw [<-hA2];exact ext_al _ _
 have bC:CiB A2 w.heap.size qb bi a1 n c1:=by
  have:CiB A1 w.heap.size qb bi a1 n c1:=by rw [<-hA1];exact ⟨heap_alloc_new w _⟩
  exact this.ext x2
 have bD:CiB A2 (w.heap.size+1) qb bi a2 n c2:=by rw [<-hA2,<-s1];exact ⟨heap_alloc_new A1 _⟩
 have hA:(w.alloc (.cells #[.int .i64 qb,.int .i64 bi,.slice a1 n c1] 24)).alloc (.cells #[.int .i64 qb,.int .i64 bi,.slice a2 n c2] 24)=A2:=by rw [hA1,hA2]
 have E0:=x1.trans x2;have m0:=bC.x0;have m1:=bC.x1;have m2:=bC.x2;have k0:=bD.x0;have k1:=bD.x1;have k2:=bD.x2;rw [<-hA] at m0 m1 m2 k0 k1 k2;have HA:=Lh hA;have HC:=Lh bC;have HD:=Lh bD;have HE0:=Lh E0;have H1:=Lh h1;have H2:=Lh h2;have Hl:=Lh h1.1;clear h1 h2 hA1 hA2 s1 x1 x2 bC bD hA E0
 go_enter Tryz.func10,Tryz.ntmps10
 go_wp2_with fail
 rw [HA.out];clear m0 m1 m2 k0 k1 k2
 go_loopg [5] n (fun kk s5 wx=>∃ i:Nat,s5=.int .i64 (i:Int)/\i<=n/\n-i=kk/\Ext A2 wx)
 case atStart=>exact ⟨0,rfl,by omega,by omega,Ext.refl A2⟩
 case round =>
  obtain ⟨i,rfl,hi1,hk,hE⟩:=hrel;have m2:=(HC.out.ext hE).x2;have k2:=(HD.out.ext hE).x2
  by_cases hin:i=n
  ·have h2:¬ (i:Int)<(n:Int):=by omega
   have HE:=Lh (HE0.out.trans hE);clear hE
   go_wp2_with fail
   go_ret
   exact ⟨rfl,HE.out⟩
  ·have h2:(i:Int)<(n:Int):=by omega
   have h0:(0:Int)<=(i:Int):=by omega
   obtain ⟨b,o,rfl⟩:=H1.out.some_of (by omega);obtain ⟨b',o',rfl⟩:=H2.out.some_of (by omega);obtain ⟨g,hg⟩:∃ g,ops[i]?=some g:=⟨_,List.getElem?_eq_getElem (by rw [Hl.out];omega)⟩;obtain ⟨p1,q1,r1,p2,q2,r2,e0,e1,e2,e3,e4,e5,hL⟩:=((H1.out.ext HE0.out).ext hE).at i g hg;obtain ⟨p1',q1',r1',p2',q2',r2',d0,d1,d2,d3,d4,d5,hL'⟩:=((H2.out.ext HE0.out).ext hE).at i g hg;have hq1:=hL.i1.1.symm.trans hL'.i1.1;have hq2:=hL.i2.1.symm.trans hL'.i2.1;subst hq1;subst hq2;have Ea:=ext_al wr (.cells #[.int .i64 g.kind,.int .i64 g.k,.slice p1 q1 r1,.int .i64 g.q,.int .i64 g.bit,.slice p2 q2 r2] 60);have bO:=opbx_new wr g.kind g.k p1 q1 r1 g.q g.bit p2 q2 r2;obtain ⟨X1,hX1⟩:∃ X,wr.alloc (.cells #[.int .i64 g.kind,.int .i64 g.k,.slice p1 q1 r1,.int .i64 g.q,.int .i64 g.bit,.slice p2 q2 r2] 60)=X:=⟨_,rfl⟩
   have sX:X1.heap.size=wr.heap.size+1:=by rw [<-hX1];simp
   rw [hX1] at Ea bO;have Eb:=ext_al X1 (.cells #[.int .i64 g.kind,.int .i64 g.k,.slice p1' q1 r1',.int .i64 g.q,.int .i64 g.bit,.slice p2' q2 r2'] 60);have bP:=opbx_new X1 g.kind g.k p1' q1 r1' g.q g.bit p2' q2 r2';rw [sX] at bP;obtain ⟨X2,hX2⟩:∃ X,X1.alloc (.cells #[.int .i64 g.kind,.int .i64 g.k,.slice p1' q1 r1',.int .i64 g.q,.int .i64 g.bit,.slice p2' q2 r2'] 60)=X:=⟨_,rfl⟩;rw [hX2] at Eb bP;have bO2:=bO.ext Eb;have EX:=Ea.trans Eb
   have HXX:Hid ((wr.alloc (.cells #[.int .i64 g.kind,.int .i64 g.k,.slice p1 q1 r1,.int .i64 g.q,.int .i64 g.bit,.slice p2 q2 r2] 60)).alloc (.cells #[.int .i64 g.kind,.int .i64 g.k,.slice p1' q1 r1',.int .i64 g.q,.int .i64 g.bit,.slice p2' q2 r2'] 60)=X2):=by show _=_;rw [hX1,hX2]
   have d0':=cell_ext d0 Ea;have d1':=cell_ext d1 Ea;have d2':=cell_ext d2 Ea;have d3':=cell_ext d3 Ea;have d4':=cell_ext d4 Ea;have d5':=cell_ext d5 Ea;have k2':=cell_ext k2 Ea;rw [<-hX1] at d0' d1' d2' d3' d4' d5' k2';have HS1:=Lh (fun wx (hx:Ext X2 wx)=>sameInts_any g.ctl p1 q1 r1 p1' r1' wx ((hL.i1.ext EX).ext hx) ((hL'.i1.ext EX).ext hx) hL.h1 hL.m1);have HS2:=Lh (fun wx (hx:Ext X2 wx)=>sameInts_any g.cnd p2 q2 r2 p2' r2' wx ((hL.i2.ext EX).ext hx) ((hL'.i2.ext EX).ext hx) hL.h2 hL.m2);obtain ⟨kd,kk',ctl,qq,bb,cnd⟩:=g;simp only at e0 e1 e2 e3 e4 e5 d0' d1' d2' d3' d4' d5' k2' bO2 bP HXX HS1 HS2;have p_0:=bO2.x0;have p_1:=bO2.x1;have p_2:=bO2.x2;have p_3:=bO2.x3;have p_4:=bO2.x4;have p_5:=bO2.x5;have q_0:=bP.x0;have q_1:=bP.x1;have q_2:=bP.x2;have q_3:=bP.x3;have q_4:=bP.x4;have q_5:=bP.x5;rw [<-HXX.out] at p_0 p_1 p_2 p_3 p_4 p_5 q_0 q_1 q_2 q_3 q_4 q_5;have HbO:=Lh bO2;have HbP:=Lh bP;have HEX:=Lh (hE.trans EX);clear hg hL hL' d0 d1 d2 d3 d4 d5 Ea Eb bO bP bO2 hX1 hX2 sX EX hE k2
   go_wp2_with fail
   rw [HXX.out];refine (HS1.out X2 (Ext.refl X2)).mono ?_;rintro e w5 ⟨rfl,hx5⟩;have p_5:=(HbO.out.ext hx5).x5;have q_5:=(HbP.out.ext hx5).x5;have HX5:=Lh hx5;clear hx5
   go_wp2_with fail
   refine (HS2.out w5 HX5.out).mono ?_;rintro e w6 ⟨rfl,hx6⟩;have HE6:=Lh ((HEX.out.trans HX5.out).trans hx6);clear hx6
   go_wp2_with fail
   go_roundg (n-(i+1))
   case measure=>omega
   case rel=>exact ⟨i+1,by go_num,by omega,rfl,HE6.out⟩
def TxR (w:World) (g n:Nat) (s:Nat->Nm):Prop:=w.heap[g]?=some (.cells (txC s n n) 9 (0,0))
theorem TxR.ext {w w':World} {g n:Nat} {s:Nat->Nm} (h:TxR w g n s) (k:Ext w w'):TxR w' g n s:=(k.block _ (gS.1 h).1).trans h
theorem TxR.get {w:World} {g n:Nat} {s:Nat->Nm} (h:TxR w g n s) {x:Nat} (hx:x<n):w.cell? ⟨g,x,none⟩=some (txA (s x)):=by
 rw [cell_of_row w g x _ _ (0,0) h,txC_get s hx,if_pos hx]
def txL (s:Nat->Nm) (n:Nat):List (List UInt8):=(List.range n).map fun x=>rtx (nmF (s x))
theorem txL_get (s:Nat->Nm) {n x:Nat} (hx:x<n):(txL s n).getD x []=rtx (nmF (s x)):=by
 unfold txL;rw [List.getD_eq_getElem?_getD,List.getElem?_map,List.getElem?_range hx]
 rfl
theorem txL_congr {s t:Nat->Nm} {n:Nat} (h:∀ x,x<n->s x=t x):txL s n=txL t n:=by
 unfold txL
 exact List.map_congr_left fun x hx=>by rw [h x (List.mem_range.1 hx)]
theorem TxR.strs {w:World} {g n:Nat} {s:Nat->Nm} (h:TxR w g n s):StrsAt w (some ⟨g,0,none⟩) n (txL s n):=by
 refine ⟨by unfold txL;simp,?_⟩
 by_cases e:n=0
 ·exact Or.inl e
 ·refine Or.inr ⟨g,0,rfl,(gS.1 h).1,fun t ht=>?_⟩
  rw [Nat.zero_add,h.get ht,txL_get s ht]
  rfl
theorem tx_zero:rtx (nmF nZ)=[48]:=by
 have h0:nmF nZ 0=0:=by decide
 have h8:nmF nZ 8=0:=by decide
 have hL:lenN (nmF nZ) 8=1:=by decide
 unfold rtx;rw [hL];simp only [jnT];rw [h0,h8,itoa_0]
 rfl
theorem sameTexts_any (l:List (List UInt8)) (a1:Option Addr) (n c1:Nat) (a2:Option Addr) (c2:Nat) (w:World) (h1:StrsAt w a1 n l) (h2:StrsAt w a2 n l) (hn:n<=4096) :
  Calls Tryz.prog 21 #[.slice a1 n c1,.slice a2 n c2] w fun e w'=>e=.returned (.bool true)/\Ext w w':=by
 have H1:=Lh h1;have H2:=Lh h2;have Hn:=Lh hn;clear h1 h2 hn
 go_enter Tryz.func21,Tryz.ntmps21
 go_wp2_with fail
 go_loopg [5] n (fun kk s5 wx=>∃ i:Nat,s5=.int .i64 (i:Int)/\i<=n/\n-i=kk/\Ext w wx)
 case atStart=>exact ⟨0,rfl,by omega,by omega,Ext.refl w⟩
 case round =>
  obtain ⟨i,rfl,hi1,hk,hE⟩:=hrel;have HE:=Lh hE
  by_cases hin:i=n
  ·have h2:¬ (i:Int)<(n:Int):=by omega
   clear hE
   go_wp2_with fail
   go_ret
   exact ⟨rfl,HE.out⟩
  ·have h2:(i:Int)<(n:Int):=by omega
   have h0:(0:Int)<=(i:Int):=by omega
   have wk:IntKind.i64.wrap ((i:Int)+1)=((i+1:Nat):Int):=by rw [IntKind.wrap_i64];have:=Hn.out;omega
   obtain ⟨b1,o1,rfl,hb1,hc1'⟩:=(H1.out.ext hE).2.resolve_left (by omega);obtain ⟨b2,o2,rfl,hb2,hc2'⟩:=(H2.out.ext hE).2.resolve_left (by omega);have e1:=hc1' i (by omega);have e2:=hc2' i (by omega);obtain ⟨x,hx⟩:∃ x,(⟨(l.getD i []).toArray⟩:ByteArray)=x:=⟨_,rfl⟩;rw [hx] at e1 e2;have HEd:=Lh (cdrew hE);clear hE hc1' hc2' hx hb1 hb2
   go_wp2_with fail
   go_region
   go_wp2_with fail
   go_roundg (n-(i+1))
   case measure=>omega
   case rel=>exact ⟨i+1,rfl,by omega,rfl,HEd.out⟩
end Go.Proofs.YtfjnlopbmkimiaaGreatDoor
