/-
  The reference: a gate's work. The basis states in which some qubits are fixed, in their order: the next one. Nothing of the program stands here. The program: a set of qubits as a number.
-/
import Derived.Test.YtfjnlopbmkimiaaGreatDoorS14Xiq
namespace Go.Proofs.YtfjnlopbmkimiaaGreatDoor
set_option maxRecDepth 100000
set_option maxHeartbeats 8000000
open Go.RowKit
variable {Qc:Nat->Prop}
open Go.RowKit
theorem QGate_any (o:Gop) (s:Nat->Nm) (n m N b cp:Nat) (a1 a2:Option Addr) (n1 c1 n2 c2:Nat) (P E:Nat) (w:World)
  (hS:RsAt Qc w b m s P E) (hA:∀ x,Amp N (s x)) (hm:2 ^ n=m) (hn:n<=12) (hq0:0<=o.q) (hqn:o.q.toNat<n)
  (hI:IntsAt w a1 n1 o.ctl) (hc1:n1<=c1) (hc2:c1<=9223372036854775807) (hct:∀ c ∈ o.ctl,0<=c/\c<=60) (hne:∀ c ∈ o.ctl,c.toNat≠o.q.toNat)
  (hP:2*(N+1)+1<=P) (hP2:P+E+1<=400000) (hE:N+1<=E) (hE2:E<=9000) (hL:LimQ Qc w) :
  Calls Tryz.prog 33 #[.slice (some ⟨b,0,none⟩) m cp,.agg #[.int .i64 o.kind,.int .i64 o.k,.slice a1 n1 c1,.int .i64 o.q,.int .i64 o.bit,.slice a2 n2 c2]] w fun e w'=>∃ b',e=.returned (.slice (some ⟨b',0,none⟩) m m)/\RsAt Qc w' b' m (gt o s) P E/\w.heap.size<=b'/\Ext w w':=by
 have hm2:m<=4096:=by rw [<-hm];exact Nat.le_trans (Nat.pow_le_pow_right (by decide) hn) (by decide)
 obtain ⟨kd,hkd⟩:∃ x,o.kind=x:=⟨_,rfl⟩;obtain ⟨k,hk⟩:∃ x,o.k=x:=⟨_,rfl⟩;obtain ⟨qn,hq⟩:∃ qn:Nat,o.q=(qn:Int):=⟨o.q.toNat,by omega⟩;obtain ⟨bi,hbi⟩:∃ x,o.bit=x:=⟨_,rfl⟩;obtain ⟨ctl,hctl⟩:∃ x,o.ctl=x:=⟨_,rfl⟩;rw [hq] at hq0 hqn hne;rw [hctl] at hI hct hne;rw [hkd,hk,hq,hbi];obtain ⟨H,hH⟩:∃ H,w.heap.size=H:=⟨_,rfl⟩;obtain ⟨C,hC⟩:∃ C:Array Value,#[.int .i64 kd,.int .i64 k,.slice a1 n1 c1,.int .i64 (qn:Int),.int .i64 bi,.slice a2 n2 c2]=C:=⟨_,rfl⟩;obtain ⟨U,hU⟩:∃ U,w.alloc (.cells #[.int .i64 kd,.int .i64 k,.slice a1 n1 c1,.int .i64 (qn:Int),.int .i64 bi,.slice a2 n2 c2] 60)=U:=⟨_,rfl⟩
 have hEU:Ext w U:=by rw [<-hU];exact ext_alloc _ _
 have hrU:U.heap[H]?=some (.cells C 60 (0,0)):=by rw [<-hU,<-hH,<-hC];exact heap_alloc_new w _
 have hsU:U.heap.size=H+1:=by rw [<-hU,<-hH];simp
 have hbH:b<H:=by rw [<-hH];exact hS.lt
 have Hm:=Lh hm;have Hn:=Lh hn;have HS:=Lh hS;have HA:=Lh hA;have Hq0:=Lh hq0;have Hqn:=Lh hqn;have HI:=Lh hI;have Hc1:=Lh hc1;have Hc2:=Lh hc2;have Hct:=Lh hct;have Hne:=Lh hne;have HP:=Lh hP;have HP2:=Lh hP2;have HE:=Lh hE;have HE2:=Lh hE2;have Hm2:=Lh hm2;have HLm:=Lh hL;clear hL;have Hkd:=Lh hkd;have Hk:=Lh hk;have Hq:=Lh hq;have Hctl:=Lh hctl;have HH:=Lh hH;have HC:=Lh hC;have HU:=Lh hU;have HEU:=Lh hEU;have HrU:=Lh hrU;have HsU:=Lh hsU;have HbH:=Lh hbH;clear hm hn hS hA hq0 hqn hI hc1 hc2 hct hne hP hP2 hE hE2 hm2 hkd hk hq hctl hH hC hU hEU hrU hsU hbH hbi
 go_enter Tryz.func33,Tryz.ntmps33
 go_upto_region 1 with fail
 rw [HU.out,HH.out]
 go_wp2_with (refine wpList_make_R (Qc:=Qc) U rfl _ _ rfl .i64 .i64 (m:Int) (m:Int) m rfl rfl rfl rfl (by have:=Hm2.out;omega) ?_;intro w1 hR hE1 hl1)
 rw [HsU.out] at hR hl1 ⊢;have HG0:=Lh (show GSt Qc w w1 H (H+1) b m C s (gp o s 0) P E from ⟨(HS.out.ext HEU.out).ext hE1,(hR P E).congr (fun y _=>(gp_zero o s y).symm),(hE1.block _ (gS.1 HrU.out).1).trans HrU.out,HEU.out.trans hE1⟩);clear hR hE1 hl1 HU HrU HEU HsU HS
 go_loopg [6,7,8] m (fun kk s6 s7 s8 wr=>∃ j:Nat,s6=.int .i64 (j:Int)/\j<=m/\m-j=kk/\GSt Qc w wr H (H+1) b m C s (gp o s j) P E)
 case atStart=>exact ⟨0,rfl,by omega,by omega,HG0.out⟩
 case round =>
  obtain ⟨j,rfl,hj,hkk,hG⟩:=hrel;clear HG0;have HG:=Lh hG;have Hkk:=Lh hkk;clear hG hkk
  by_cases hjm:j=m
  ·have Hend:=Lh (show RsAt Qc wr (H+1) m (gt o s) P E/\w.heap.size<=H+1/\Ext w wr from ⟨HG.out.out.congr (fun y hy=>by rw [hjm,<-Hm.out];exact gp_end (by rw [Hm.out];exact hy) (by rw [Hq.out];exact Hqn.out)),by rw [HH.out];omega,HG.out.ext⟩)
   have q1:¬ (j:Int)<(m:Int):=by omega
   clear hjm hj
   go_wp2_with fail
   go_ret
   exact ⟨_,rfl,Hend.out⟩
  have hlt:j<m:=by omega
  have q1:(j:Int)<(m:Int):=by omega
  have q0:(0:Int)<=(j:Int):=by omega
  have wk:IntKind.i64.wrap ((j:Int)+1)=((j+1:Nat):Int):=by rw [IntKind.wrap_i64];have:=Hm2.out;omega
  obtain ⟨cl,hcl,hRl,hln⟩:=HG.out.src.at hlt
  have hinl:(Tryz.prog.info? 48).map (·.size)=some cl.length:=by rw [hln];exact R_size
  have Hlt:=Lh hlt;have HRl:=Lh hRl;have Hln:=Lh hln;clear hjm hj hlt hRl hln
  by_cases hz:s j=nZ
  ·have Hz:=Lh (QZero_any cl.toArray _ _ wr HRl.out.val true ⟨fun _=>(zero_iff HRl.out).2 hz,fun _=>rfl⟩)
   have Hzz:=Lh hz;clear hz
   go_wp2_with (refine wpList_load_mid rfl 48 _ rfl b (j*17) rfl cl _ hcl Tryz.underlying48 rfl hinl ?_)
   refine Hz.out.mono ?_;rintro e w1 ⟨rfl,hE1⟩;have HG1:=Lh ((HG.out.more hE1).same (gp_nought Hzz.out));clear hE1 hcl hinl Hz HG HRl
   go_wp2_with fail
   go_roundg (m-(j+1))
   case measure=>have:=Hkk.out;have:=Hlt.out;omega
   case rel=>exact ⟨j+1,rfl,Hlt.out,rfl,HG1.out⟩
  have Hz:=Lh (QZero_any cl.toArray _ _ wr HRl.out.val false ⟨fun h=>by simp at h,fun h=>absurd ((zero_iff HRl.out).1 h) hz⟩);clear hz
  go_wp2_with (refine wpList_load_mid rfl 48 _ rfl b (j*17) rfl cl _ hcl Tryz.underlying48 rfl hinl ?_)
  refine Hz.out.mono ?_;rintro e w1 ⟨rfl,hE1⟩;have HG1:=Lh (HG.out.more hE1);have HR1:=Lh (HRl.out.ext hE1);clear hE1 hcl Hz HG HRl;obtain ⟨cl',hcl,hRl',hln'⟩:=HG1.out.src.at Hlt.out;have f2:w1.cell? ⟨H,2,none⟩=some (.slice a1 n1 c1):=HG1.out.cell 2 (by rw [<-HC.out];rfl);have Hao:=Lh (allOne_any j a1 n1 c1 ctl w1 (HI.out.ext HG1.out.ext) Hc1.out Hc2.out Hct.out)
  cases hon:ons j ctl with
  | false =>
   rw [hon] at Hao;have Hon:=Lh hon;clear hon;have Hof:=Lh (show ons (fl j (qn:Int)) ctl=false by rw [ons_fl Hne.out];exact Hon.out);obtain ⟨co,hco,hRo,hlo⟩:=HG1.out.out.at Hlt.out
   have hio:(Tryz.prog.info? 48).map (·.size)=some co.length:=by rw [hlo];exact R_size
   have hil:(Tryz.prog.info? 48).map (·.size)=some cl'.length:=by rw [hln'];exact R_size
   have HAd:=Lh (fun (wx:World) (hx:Ext w1 wx)=>QAdd_nm co.toArray cl'.toArray _ _ P E wx (hRo.ext hx) (hRl'.ext hx) HP2.out (by have:=HE2.out;omega) (HLm.out.grow (HG1.out.ext.trans hx).size));have lD:=HG1.out.out.lt;have lb:=HG1.out.src.lt;clear hRo hRl' hln' hlo HR1
   go_wp2_with fail
   refine Hao.out.mono ?_;rintro e w2 ⟨rfl,rfl⟩;clear Hao f2
   go_upto_region 7 with fail
   have hd0:Ext w2 w2.drew:=Below.drew (Ext.refl _);refine wp_region_K 12 (fun w'=>w'.rangeAt (H+1) (j*17) co/\w'.rangeAt b (j*17) cl') (by kernel_rfl) ?_
   show anyK _ _ _ _ _ _ 13 #[false,false,false,false,false,false,false,false,false,false,false,false,false] _ _
   have hHeld:w2.drew.rangeAt (H+1) (j*17) co/\w2.drew.rangeAt b (j*17) cl':=⟨range_keep hco lD hd0,range_keep hcl lb hd0⟩;refine kT 0 13 (v:=?_) rfl (Or.inl ⟨by rfl,?_⟩) hHeld ?_;rotate_left 1
   ·intro w hSw
    go_simp
    try with_reducible rfl
   show anyK _ _ _ _ _ _ _ _ (Act.put _ (some 28) _) _
   simp only [Act.put,sx0,sx1,sx2];refine kT 1 13 (v:=?_) rfl (Or.inl ⟨by rfl,?_⟩) hHeld ?_;rotate_left 1
   ·intro w hSw
    go_simp
    try with_reducible rfl
   show anyK _ _ _ _ _ _ _ _ (Act.put _ (some 29) _) _
   simp only [Act.put,sx0,sx1,sx2];refine kT 2 13 (v:=?_) rfl (Or.inl ⟨by rfl,?_⟩) hHeld ?_;rotate_left 1
   ·intro w hSw
    go_simp
    try with_reducible rfl
   show anyK _ _ _ _ _ _ _ _ (Act.put _ (some 30) _) _
   simp only [Act.put,sx0,sx1,sx2];refine kT 3 13 (v:=?_) rfl (Or.inl ⟨by rfl,?_⟩) hHeld ?_;rotate_left 1
   ·intro w hSw
    go_simp
    try with_reducible rfl
   show anyK _ _ _ _ _ _ _ _ (Act.put _ (some 31) _) _
   simp only [Act.put,sx0,sx1,sx2];refine kT 4 13 (v:=?_) rfl (Or.inl ⟨by rfl,?_⟩) hHeld ?_;rotate_left 1
   ·intro w hSw
    go_simp
    try with_reducible rfl
   show anyK _ _ _ _ _ _ _ _ (Act.put _ (some 32) _) _
   simp only [Act.put,sx0,sx1,sx2];refine kT 5 13 (v:=.agg co.toArray) rfl (yieldsIf_load_mid (by rfl) 48 _ rfl (H+1) (j*17) rfl co _ (fun _ h=>h.1) Tryz.underlying48 rfl hio) hHeld ?_
   show anyK _ _ _ _ _ _ _ _ (Act.put _ (some 33) _) _
   simp only [Act.put,sx0,sx1,sx2];refine kT 6 13 (v:=?_) rfl (Or.inl ⟨by rfl,?_⟩) hHeld ?_;rotate_left 1
   ·intro w hSw
    go_simp
    try with_reducible rfl
   show anyK _ _ _ _ _ _ _ _ (Act.put _ (some 34) _) _
   simp only [Act.put,sx0,sx1,sx2];refine kT 7 13 (v:=?_) rfl (Or.inl ⟨by rfl,?_⟩) hHeld ?_;rotate_left 1
   ·intro w hSw
    go_simp
    try with_reducible rfl
   show anyK _ _ _ _ _ _ _ _ (Act.put _ (some 35) _) _
   simp only [Act.put,sx0,sx1,sx2];refine kT 8 13 (v:=?_) rfl (Or.inl ⟨by rfl,?_⟩) hHeld ?_;rotate_left 1
   ·intro w hSw
    go_simp
    try with_reducible rfl
   show anyK _ _ _ _ _ _ _ _ (Act.put _ (some 36) _) _
   simp only [Act.put,sx0,sx1,sx2];refine kT 9 13 (v:=.agg cl'.toArray) rfl (yieldsIf_load_mid (by rfl) 48 _ rfl b (j*17) rfl cl' _ (fun _ h=>h.2) Tryz.underlying48 rfl hil) hHeld ?_
   show anyK _ _ _ _ _ _ _ _ (Act.put _ (some 37) _) _
   simp only [Act.put,sx0,sx1,sx2];clear hHeld;refine anyK_one (i:=10) (by kernel_rfl) rfl (fun Kk hKk=>?_)
   go_simp
   (go_at_call 38;refine (HAd.out w2.drew hd0).mono ?_;rintro e w3 ⟨cr,z,rfl,hcr,hy,hx3⟩)
   have he3:=hd0.trans hx3
   go_wp2_with fail
   refine hKk.out _ _ (fun _=>⟨range_keep hco lD he3,range_keep hcl lb he3⟩) ?_;clear hKk Kk;simp only [sx0,sx1,sx2];have hHeld:w3.rangeAt (H+1) (j*17) co/\w3.rangeAt b (j*17) cl':=⟨range_keep hco lD he3,range_keep hcl lb he3⟩;refine kT 11 13 (v:=?_) rfl (Or.inl ⟨by rfl,?_⟩) hHeld ?_;rotate_left 1
   ·intro w hSw
    go_simp
    try with_reducible rfl
   show anyK _ _ _ _ _ _ _ _ (Act.put _ (some 39) _) _
   simp only [Act.put,sx0,sx1,sx2];clear hHeld;have hzz:z=s j:=eq_z_add hcr.low (HA.out j).low (by rw [gp_self_plain (o:=o) (s:=s) (by rw [Hctl.out];exact Hon.out)] at hy;exact hy);have hz:RmA Qc w3 cr (s j) P E:=(hzz ▸ hcr).amp (HA.out j) (by have:=HP.out;omega) (by have:=HE.out;omega)
   have ht:w3.there (H+1) (j*17) cr.size:=by rw [hcr.size];exact (HG1.out.more he3).out.there Hlt.out
   have hinf:=hcr.info;have hone:=hcr.val.one;have HG4:=Lh ((HG1.out.more he3).put (g':=gp o s (j+1)) Hlt.out hz (by have:=HbH.out;omega) (by omega) (by rw [HH.out];omega) (gp_plain (by rw [Hctl.out];exact Hon.out) (by rw [Hctl.out,Hq.out];exact Hof.out)));clear hz hcr;refine anyK_one (i:=12) (by kernel_rfl) rfl (fun Kk hKk=>?_);refine stepK_storeM rfl rfl 48 _ _ rfl (H+1) (j*17) cr rfl rfl ht hinf hone ?_;refine hKk.out _ _ (fun h=>Bool.noConfusion (show true=false from h)) ?_;clear hKk Kk;simp only [sx0,sx1,sx2];refine anyK_done (by kernel_rfl) ?_ _;clear ht hinf hone he3 hd0;generalize w3.setCells (H+1) (j*17) cr.toList=w4 at *;clear hco hcl hio hil lD lb HAd HG1 hy hzz hx3
   go_wp2_with fail
   go_roundg (m-(j+1))
   case measure=>have:=Hkk.out;have:=Hlt.out;omega
   case rel=>exact ⟨j+1,rfl,Hlt.out,rfl,HG4.out⟩
  | true =>
   rw [hon] at Hao;have Hon:=Lh hon;clear hon;have Hof:=Lh (show ons (fl j (qn:Int)) ctl=true by rw [ons_fl Hne.out];exact Hon.out)
   have hq40:qn<=40:=by have h1:=Hqn.out;have h2:=Hn.out;have h3:(qn:Int).toNat=qn:=rfl;omega
   obtain ⟨t,ht⟩:∃ t:Nat,2 ^ qn=t:=⟨_,rfl⟩
   have hs8:wrap64 (2 ^ min qn 64)=(t:Int):=by rw [<-ht];exact shl1 hq40
   obtain ⟨y,hy⟩:∃ y:Nat,fl j (qn:Int)=y:=⟨_,rfl⟩
   have hyt:j ^^^ t=y:=by rw [<-hy,<-ht];rfl
   have hyj:y≠j:=by rw [<-hy];exact fl_ne _ _
   have hym:y<m:=by rw [<-hy,<-Hm.out];exact fl_lt (by rw [Hm.out];exact Hlt.out) Hqn.out
   have htm:t<4097:=by rw [<-ht];have h1:qn<=12:=(by have h1:=Hqn.out;have h2:=Hn.out;have h3:(qn:Int).toNat=qn:=rfl;omega);have h2:2 ^ qn<=2 ^ 12:=Nat.pow_le_pow_right (by decide) h1;have h3:(2:Nat) ^ 12=4096:=(by decide);omega
   have hx8:bits .xor .i64 (j:Int) (t:Int)=(y:Int):=by rw [xor_i64 j t (by have:=Hlt.out;have:=Hm2.out;omega) (by omega),hyt]
   have y0:(0:Int)<=(y:Int):=by omega
   have y1:(y:Int)<(m:Int):=by omega
   have qz:(0:Int)<=(qn:Int):=by omega
   have Hyf:=Lh hy;have Hyj:=Lh hyj;have Hym:=Lh hym
   have hq60:(qn:Int)<=60:=by omega
   have Hb:=Lh (fun (wx:World)=>bitOf_st j (qn:Int) wx qz hq60);rw [Hyf.out] at Hof;clear hy hyj hym htm ht hyt hq40 hq60
   have hil:(Tryz.prog.info? 48).map (·.size)=some cl'.length:=by rw [hln'];exact R_size
   have HRl:=Lh hRl';have Hln':=Lh hln';clear hRl' hln' HR1;have f0:w1.cell? ⟨H,0,none⟩=some (.int .i64 kd):=HG1.out.cell 0 (by rw [<-HC.out];rfl);have f3:w1.cell? ⟨H,3,none⟩=some (.int .i64 (qn:Int)):=HG1.out.cell 3 (by rw [<-HC.out];rfl);have lD:=HG1.out.out.lt;have lb:=HG1.out.src.lt
   by_cases e1:kd=1
   ·subst e1
    have HTu:=Lh (fun (wx:World) (hx:Ext w1 wx)=>QTurn_nm cl'.toArray _ P E k wx (HRl.out.ext hx) (by have:=HP2.out;omega));have f1:w1.cell? ⟨H,1,none⟩=some (.int .i64 k):=HG1.out.cell 1 (by rw [<-HC.out];rfl);have lH:=(gS.1 HG1.out.box).1
    go_wp2_with fail
    refine Hao.out.mono ?_;rintro e w2 ⟨rfl,rfl⟩;clear Hao f2
    go_upto_region 10 with fail
    have hd0:Ext w2 w2.drew:=Below.drew (Ext.refl _);refine wp_region_K 10 (fun w'=>w'.rangeAt b (j*17) cl'/\w'.cell? ⟨H,1,none⟩=some (.int .i64 k)) (by kernel_rfl) ?_
    show anyK _ _ _ _ _ _ 11 #[false,false,false,false,false,false,false,false,false,false,false] _ _
    have hHeld:w2.drew.rangeAt b (j*17) cl'/\w2.drew.cell? ⟨H,1,none⟩=some (.int .i64 k):=⟨range_keep hcl lb hd0,cellKeep hd0 lH f1⟩;refine kT 0 11 (v:=?_) rfl (Or.inl ⟨by rfl,?_⟩) hHeld ?_;rotate_left 1
    ·intro w hSw
     go_simp
     try with_reducible rfl
    show anyK _ _ _ _ _ _ _ _ (Act.put _ (some 60) _) _
    simp only [Act.put,sx0,sx1,sx2];refine kT 1 11 (v:=?_) rfl (Or.inl ⟨by rfl,?_⟩) hHeld ?_;rotate_left 1
    ·intro w hSw
     go_simp
     try with_reducible rfl
    show anyK _ _ _ _ _ _ _ _ (Act.put _ (some 61) _) _
    simp only [Act.put,sx0,sx1,sx2];refine kT 2 11 (v:=?_) rfl (Or.inl ⟨by rfl,?_⟩) hHeld ?_;rotate_left 1
    ·intro w hSw
     go_simp
     try with_reducible rfl
    show anyK _ _ _ _ _ _ _ _ (Act.put _ (some 62) _) _
    simp only [Act.put,sx0,sx1,sx2];refine kT 3 11 (v:=?_) rfl (Or.inl ⟨by rfl,?_⟩) hHeld ?_;rotate_left 1
    ·intro w hSw
     go_simp
     try with_reducible rfl
    show anyK _ _ _ _ _ _ _ _ (Act.put _ (some 63) _) _
    simp only [Act.put,sx0,sx1,sx2];refine kT 4 11 (v:=?_) rfl (Or.inl ⟨by rfl,?_⟩) hHeld ?_;rotate_left 1
    ·intro w hSw
     go_simp
     try with_reducible rfl
    show anyK _ _ _ _ _ _ _ _ (Act.put _ (some 64) _) _
    simp only [Act.put,sx0,sx1,sx2];refine kT 5 11 (v:=.agg cl'.toArray) rfl (yieldsIf_load_mid (by rfl) 48 _ rfl b (j*17) rfl cl' _ (fun _ h=>h.1) Tryz.underlying48 rfl hil) hHeld ?_
    show anyK _ _ _ _ _ _ _ _ (Act.put _ (some 65) _) _
    simp only [Act.put,sx0,sx1,sx2];refine kT 6 11 (v:=?_) rfl (Or.inl ⟨by rfl,?_⟩) hHeld ?_;rotate_left 1
    ·intro w hSw
     go_simp
     try with_reducible rfl
    show anyK _ _ _ _ _ _ _ _ (Act.put _ (some 66) _) _
    simp only [Act.put,sx0,sx1,sx2];refine kT 7 11 (v:=?_) rfl (Or.inl ⟨by rfl,?_⟩) hHeld ?_;rotate_left 1
    ·intro w hSw
     go_simp
     try with_reducible rfl
    show anyK _ _ _ _ _ _ _ _ (Act.put _ (some 67) _) _
    simp only [Act.put,sx0,sx1,sx2];clear hHeld;refine anyK_one (i:=8) (by kernel_rfl) rfl (fun Kk hKk=>?_)
    go_simp
    (go_at_call 67;refine (HTu.out w2.drew hd0).mono ?_;rintro e w3 ⟨cr,rfl,hcr,hx3⟩)
    have he3:=hd0.trans hx3
    go_wp2_with fail
    refine hKk.out _ _ (fun _=>⟨range_keep hcl lb he3,cellKeep he3 lH f1⟩) ?_;clear hKk Kk;simp only [sx0,sx1,sx2];have hHeld:w3.rangeAt b (j*17) cl'/\w3.cell? ⟨H,1,none⟩=some (.int .i64 k):=⟨range_keep hcl lb he3,cellKeep he3 lH f1⟩;refine kT 9 11 (v:=?_) rfl (Or.inl ⟨by rfl,?_⟩) hHeld ?_;rotate_left 1
    ·intro w hSw
     go_simp
     try with_reducible rfl
    show anyK _ _ _ _ _ _ _ _ (Act.put _ (some 69) _) _
    simp only [Act.put,sx0,sx1,sx2];clear hHeld;have hz:RmA Qc w3 cr (nTr k (s j)) P E:=hcr.amp ((HA.out j).tr k) (by have:=HP.out;omega) (by have:=HE.out;omega)
    have ht:w3.there (H+1) (j*17) cr.size:=by rw [hcr.size];exact (HG1.out.more he3).out.there Hlt.out
    have hinf:=hcr.info;have hone:=hcr.val.one;have HG4:=Lh ((HG1.out.more he3).put (g':=gp o s (j+1)) Hlt.out hz (by have:=HbH.out;omega) (by omega) (by rw [HH.out];omega) (fun y=>by rw [gp_turn (by rw [Hctl.out];exact Hon.out) (Or.inl Hkd.out),Hk.out]));clear hz hcr;refine anyK_one (i:=10) (by kernel_rfl) rfl (fun Kk hKk=>?_);refine stepK_storeM rfl rfl 48 _ _ rfl (H+1) (j*17) cr rfl rfl ht hinf hone ?_;refine hKk.out _ _ (fun h=>Bool.noConfusion (show true=false from h)) ?_;clear hKk Kk;simp only [sx0,sx1,sx2];refine anyK_done (by kernel_rfl) ?_ _;clear ht hinf hone he3 hd0;generalize w3.setCells (H+1) (j*17) cr.toList=w4 at *;clear hcl hil lD lb lH f1 HTu HG1 hx3
    go_wp2_with fail
    go_roundg (m-(j+1))
    case measure=>have:=Hkk.out;have:=Hlt.out;omega
    case rel=>exact ⟨j+1,rfl,Hlt.out,rfl,HG4.out⟩
   have kn1:(kd == 1)=false:=by simpa using e1
   by_cases e4:kd=4
   ·subst e4
    cases hbt:bt j (qn:Int) with
    | true =>
     have HTu:=Lh (fun (wx:World) (hx:Ext w1 wx)=>QTurn_nm cl'.toArray _ P E k wx (HRl.out.ext hx) (by have:=HP2.out;omega));have f1:w1.cell? ⟨H,1,none⟩=some (.int .i64 k):=HG1.out.cell 1 (by rw [<-HC.out];rfl);have lH:=(gS.1 HG1.out.box).1;rw [hbt] at Hb;have Hbt:=Lh hbt;clear hbt
     go_wp2_with fail
     refine Hao.out.mono ?_;rintro e w2 ⟨rfl,rfl⟩;clear Hao f2
     go_wp2_with fail
     refine (Hb.out w2).mono ?_;rintro e w5 ⟨rfl,rfl⟩
     go_upto_region 10 with fail
     have hd0:Ext w5 w5.drew:=Below.drew (Ext.refl _);refine wp_region_K 10 (fun w'=>w'.rangeAt b (j*17) cl'/\w'.cell? ⟨H,1,none⟩=some (.int .i64 k)) (by kernel_rfl) ?_
     show anyK _ _ _ _ _ _ 11 #[false,false,false,false,false,false,false,false,false,false,false] _ _
     have hHeld:w5.drew.rangeAt b (j*17) cl'/\w5.drew.cell? ⟨H,1,none⟩=some (.int .i64 k):=⟨range_keep hcl lb hd0,cellKeep hd0 lH f1⟩;refine kT 0 11 (v:=?_) rfl (Or.inl ⟨by rfl,?_⟩) hHeld ?_;rotate_left 1
     ·intro w hSw
      go_simp
      try with_reducible rfl
     show anyK _ _ _ _ _ _ _ _ (Act.put _ (some 60) _) _
     simp only [Act.put,sx0,sx1,sx2];refine kT 1 11 (v:=?_) rfl (Or.inl ⟨by rfl,?_⟩) hHeld ?_;rotate_left 1
     ·intro w hSw
      go_simp
      try with_reducible rfl
     show anyK _ _ _ _ _ _ _ _ (Act.put _ (some 61) _) _
     simp only [Act.put,sx0,sx1,sx2];refine kT 2 11 (v:=?_) rfl (Or.inl ⟨by rfl,?_⟩) hHeld ?_;rotate_left 1
     ·intro w hSw
      go_simp
      try with_reducible rfl
     show anyK _ _ _ _ _ _ _ _ (Act.put _ (some 62) _) _
     simp only [Act.put,sx0,sx1,sx2];refine kT 3 11 (v:=?_) rfl (Or.inl ⟨by rfl,?_⟩) hHeld ?_;rotate_left 1
     ·intro w hSw
      go_simp
      try with_reducible rfl
     show anyK _ _ _ _ _ _ _ _ (Act.put _ (some 63) _) _
     simp only [Act.put,sx0,sx1,sx2];refine kT 4 11 (v:=?_) rfl (Or.inl ⟨by rfl,?_⟩) hHeld ?_;rotate_left 1
     ·intro w hSw
      go_simp
      try with_reducible rfl
     show anyK _ _ _ _ _ _ _ _ (Act.put _ (some 64) _) _
     simp only [Act.put,sx0,sx1,sx2];refine kT 5 11 (v:=.agg cl'.toArray) rfl (yieldsIf_load_mid (by rfl) 48 _ rfl b (j*17) rfl cl' _ (fun _ h=>h.1) Tryz.underlying48 rfl hil) hHeld ?_
     show anyK _ _ _ _ _ _ _ _ (Act.put _ (some 65) _) _
     simp only [Act.put,sx0,sx1,sx2];refine kT 6 11 (v:=?_) rfl (Or.inl ⟨by rfl,?_⟩) hHeld ?_;rotate_left 1
     ·intro w hSw
      go_simp
      try with_reducible rfl
     show anyK _ _ _ _ _ _ _ _ (Act.put _ (some 66) _) _
     simp only [Act.put,sx0,sx1,sx2];refine kT 7 11 (v:=?_) rfl (Or.inl ⟨by rfl,?_⟩) hHeld ?_;rotate_left 1
     ·intro w hSw
      go_simp
      try with_reducible rfl
     show anyK _ _ _ _ _ _ _ _ (Act.put _ (some 67) _) _
     simp only [Act.put,sx0,sx1,sx2];clear hHeld;refine anyK_one (i:=8) (by kernel_rfl) rfl (fun Kk hKk=>?_)
     go_simp
     (go_at_call 67;refine (HTu.out w5.drew hd0).mono ?_;rintro e w3 ⟨cr,rfl,hcr,hx3⟩)
     have he3:=hd0.trans hx3
     go_wp2_with fail
     refine hKk.out _ _ (fun _=>⟨range_keep hcl lb he3,cellKeep he3 lH f1⟩) ?_;clear hKk Kk;simp only [sx0,sx1,sx2];have hHeld:w3.rangeAt b (j*17) cl'/\w3.cell? ⟨H,1,none⟩=some (.int .i64 k):=⟨range_keep hcl lb he3,cellKeep he3 lH f1⟩;refine kT 9 11 (v:=?_) rfl (Or.inl ⟨by rfl,?_⟩) hHeld ?_;rotate_left 1
     ·intro w hSw
      go_simp
      try with_reducible rfl
     show anyK _ _ _ _ _ _ _ _ (Act.put _ (some 69) _) _
     simp only [Act.put,sx0,sx1,sx2];clear hHeld;have hz:RmA Qc w3 cr (nTr k (s j)) P E:=hcr.amp ((HA.out j).tr k) (by have:=HP.out;omega) (by have:=HE.out;omega)
     have ht:w3.there (H+1) (j*17) cr.size:=by rw [hcr.size];exact (HG1.out.more he3).out.there Hlt.out
     have hinf:=hcr.info;have hone:=hcr.val.one;have HG4:=Lh ((HG1.out.more he3).put (g':=gp o s (j+1)) Hlt.out hz (by have:=HbH.out;omega) (by omega) (by rw [HH.out];omega) (fun y=>by rw [gp_turn (by rw [Hctl.out];exact Hon.out) (Or.inr ⟨Hkd.out,by rw [Hq.out];exact Hbt.out⟩),Hk.out]));clear hz hcr;refine anyK_one (i:=10) (by kernel_rfl) rfl (fun Kk hKk=>?_);refine stepK_storeM rfl rfl 48 _ _ rfl (H+1) (j*17) cr rfl rfl ht hinf hone ?_;refine hKk.out _ _ (fun h=>Bool.noConfusion (show true=false from h)) ?_;clear hKk Kk;simp only [sx0,sx1,sx2];refine anyK_done (by kernel_rfl) ?_ _;clear ht hinf hone he3 hd0;generalize w3.setCells (H+1) (j*17) cr.toList=w4 at *;clear hcl hil lD lb lH f1 HTu HG1 hx3
     go_wp2_with fail
     go_roundg (m-(j+1))
     case measure=>have:=Hkk.out;have:=Hlt.out;omega
     case rel=>exact ⟨j+1,rfl,Hlt.out,rfl,HG4.out⟩
    | false =>
     rw [hbt] at Hb;have Hbt:=Lh hbt;clear hbt
     have ht:w1.there (H+1) (j*17) cl'.toArray.size:=by rw [HRl.out.size];exact HG1.out.out.there Hlt.out
     have hinf:=HRl.out.info;have hone:=HRl.out.val.one;have HG4:=Lh (HG1.out.put (g':=gp o s (j+1)) Hlt.out HRl.out (by have:=HbH.out;omega) (by omega) (by rw [HH.out];omega) (gp_keep (by rw [Hctl.out];exact Hon.out) Hkd.out (by rw [Hq.out];exact Hbt.out)))
     go_wp2_with fail
     refine Hao.out.mono ?_;rintro e w2 ⟨rfl,rfl⟩;clear Hao f2
     go_wp2_with fail
     refine (Hb.out w2).mono ?_;rintro e w5 ⟨rfl,rfl⟩
     go_wp2_with (first | refine wpList_load_mid rfl 48 _ rfl b (j*17) rfl cl' _ hcl Tryz.underlying48 rfl hil ?_ | refine wpList_store_mid rfl 48 _ _ rfl (H+1) (j*17) cl'.toArray rfl rfl ht hinf hone ?_)
     go_roundg (m-(j+1))
     case measure=>have:=Hkk.out;have:=Hlt.out;omega
     case rel=>exact ⟨j+1,rfl,Hlt.out,rfl,HG4.out⟩
   have kn4:(kd == 4)=false:=by simpa using e4
   by_cases e2:kd=2
   ·subst e2
    have ht:w1.there (H+1) (y*17) cl'.toArray.size:=by rw [HRl.out.size];exact HG1.out.out.there Hym.out
    have hinf:=HRl.out.info;have hone:=HRl.out.val.one;have HG4:=Lh (HG1.out.put (g':=gp o s (j+1)) Hym.out HRl.out (by have:=HbH.out;omega) (by omega) (by rw [HH.out];omega) (fun y'=>by rw [gp_swap (by rw [Hctl.out,Hq.out,Hyf.out];exact Hof.out) (by rw [Hctl.out];exact Hon.out) Hkd.out,Hq.out,Hyf.out]))
    go_wp2_with fail
    refine Hao.out.mono ?_;rintro e w2 ⟨rfl,rfl⟩;clear Hao f2
    go_wp2_with (first | refine wpList_load_mid rfl 48 _ rfl b (j*17) rfl cl' _ hcl Tryz.underlying48 rfl hil ?_ | refine wpList_store_mid rfl 48 _ _ rfl (H+1) (y*17) cl'.toArray rfl rfl ht hinf hone ?_)
    go_roundg (m-(j+1))
    case measure=>have:=Hkk.out;have:=Hlt.out;omega
    case rel=>exact ⟨j+1,rfl,Hlt.out,rfl,HG4.out⟩
   have kn2:(kd == 2)=false:=by simpa using e2
   have HHf:=Lh (fun (wx:World) (hx:Ext w1 wx)=>QHalf_nm cl'.toArray _ P E wx (HRl.out.ext hx) HP2.out (by have:=HE2.out;omega) (HLm.out.grow (HG1.out.ext.trans hx).size));have Hnk:=Lh (show o.kind≠1/\o.kind≠4/\o.kind≠2 from ⟨by rw [Hkd.out];exact e1,by rw [Hkd.out];exact e4,by rw [Hkd.out];exact e2⟩);clear e1 e4 e2
   go_wp2_with fail
   refine Hao.out.mono ?_;rintro e w2 ⟨rfl,rfl⟩;clear Hao f2
   go_wp2_with (refine wpList_load_mid rfl 48 _ rfl b (j*17) rfl cl' _ hcl Tryz.underlying48 rfl hil ?_)
   refine (HHf.out w2 (Ext.refl _)).mono ?_;rintro e w5 ⟨ch,h,rfl,hch,hhf,hx5⟩
   have Z0:ZVar Qc (w5.alloc (.cells zeroR 48)) w5.heap.size (fun _=>0) 0:=by simpa using (zcs_zero (Qc:=Qc) w5).box
   have hAh:Amp (N+1) h:=by
    have e:h=lw (nHf (nAdd (s j) nZ)):=lw_one hch.low (hhf.trans (EqN.hf (add_z (s j)).symm));rw [e];exact (HA.out j).hf (Amp.zero N)
   obtain ⟨c9,hr9,hs9,hone,hinf,hrow,hzc,hE9⟩:=fin_rm (w:=w5) (hch.val.ext (ext_alloc w5 (.cells zeroR 48))) Z0 (ext_alloc _ _) (Nat.le_refl _);have HG5:=Lh (HG1.out.more (hx5.trans hE9));have HRh:=Lh (show RmA Qc ((w5.alloc (.cells zeroR 48)).setRow w5.heap.size ch) ch h P E from RmA.amp ⟨hch.anti,hch.low,hch.abs,hch.down,hzc⟩ hAh (by have:=HP.out;omega) (by have:=HE.out;omega));have HAh:=Lh hAh;have Hhf:=Lh hhf;have hDG:H+1<w5.heap.size:=Nat.lt_of_lt_of_le lD hx5.size;have HDG:=Lh hDG;clear hDG hzc hE9 hAh hhf hch Z0 HG1 HHf hx5 lD lb HRl
   go_wp2_with (refine wpList_store_row rfl 48 _ _ rfl w5.heap.size ch rfl rfl 48 _ hr9 hinf hs9 hone ?_)
   obtain ⟨G,hG⟩:∃ G,w5.heap.size=G:=⟨_,rfl⟩;obtain ⟨w6,h6⟩:∃ w6,(w5.alloc (.cells zeroR 48)).setRow G ch=w6:=⟨_,rfl⟩;rw [hG] at HG5 HRh hrow HDG ⊢;rw [h6] at HG5 HRh hrow ⊢;clear h6 hr9 hs9 hone hinf hG;simp only [Act.put];have Hrow:=Lh hrow;have lG:=(gS.1 hrow).1;have lD:=HG5.out.out.lt;obtain ⟨co,hco,hRo,hlo⟩:=HG5.out.out.at Hym.out
   have hio:(Tryz.prog.info? 48).map (·.size)=some co.length:=by rw [hlo];exact R_size
   have hich:=HRh.out.info;have HAd:=Lh (fun (wx:World) (hx:Ext w6 wx)=>QAdd_nm co.toArray ch _ _ P E wx (hRo.ext hx) (HRh.out.ext hx) HP2.out (by have:=HE2.out;omega) (HLm.out.grow (HG5.out.ext.trans hx).size));clear hRo hlo hcl hil f0 f3;have hd0:Ext w6 w6.drew:=Below.drew (Ext.refl _);refine wp_region_K 9 (fun w'=>w'.rangeAt (H+1) (y*17) co/\w'.heap[G]?=some (.cells ch 48 (0,0))) (by kernel_rfl) ?_
   show anyK _ _ _ _ _ _ 10 #[false,false,false,false,false,false,false,false,false,false] _ _
   have hHeld:w6.drew.rangeAt (H+1) (y*17) co/\w6.drew.heap[G]?=some (.cells ch 48 (0,0)):=⟨range_keep hco lD hd0,(hd0.block _ lG).trans Hrow.out⟩;refine kT 0 10 (v:=?_) rfl (Or.inl ⟨by rfl,?_⟩) hHeld ?_;rotate_left 1
   ·intro w hSw
    go_simp
    try with_reducible rfl
   show anyK _ _ _ _ _ _ _ _ (Act.put _ (some 95) _) _
   simp only [Act.put,sx0,sx1,sx2];refine kT 1 10 (v:=?_) rfl (Or.inl ⟨by rfl,?_⟩) hHeld ?_;rotate_left 1
   ·intro w hSw
    go_simp
    try with_reducible rfl
   show anyK _ _ _ _ _ _ _ _ (Act.put _ (some 96) _) _
   simp only [Act.put,sx0,sx1,sx2];refine kT 2 10 (v:=?_) rfl (Or.inl ⟨by rfl,?_⟩) hHeld ?_;rotate_left 1
   ·intro w hSw
    go_simp
    try with_reducible rfl
   show anyK _ _ _ _ _ _ _ _ (Act.put _ (some 97) _) _
   simp only [Act.put,sx0,sx1,sx2];refine kT 3 10 (v:=?_) rfl (Or.inl ⟨by rfl,?_⟩) hHeld ?_;rotate_left 1
   ·intro w hSw
    go_simp
    try with_reducible rfl
   show anyK _ _ _ _ _ _ _ _ (Act.put _ (some 98) _) _
   simp only [Act.put,sx0,sx1,sx2];refine kT 4 10 (v:=?_) rfl (Or.inl ⟨by rfl,?_⟩) hHeld ?_;rotate_left 1
   ·intro w hSw
    go_simp
    try with_reducible rfl
   show anyK _ _ _ _ _ _ _ _ (Act.put _ (some 99) _) _
   simp only [Act.put,sx0,sx1,sx2];refine kT 5 10 (v:=.agg co.toArray) rfl (yieldsIf_load_mid (by rfl) 48 _ rfl (H+1) (y*17) rfl co _ (fun _ h=>h.1) Tryz.underlying48 rfl hio) hHeld ?_
   show anyK _ _ _ _ _ _ _ _ (Act.put _ (some 100) _) _
   simp only [Act.put,sx0,sx1,sx2];refine kT 6 10 (v:=.agg ch) rfl (Or.inl ⟨by rfl,fun _ h=>exec_load_row 48 _ rfl G rfl 48 _ (0,0) _ (h.2) Tryz.underlying48 rfl hich⟩) hHeld ?_
   show anyK _ _ _ _ _ _ _ _ (Act.put _ (some 101) _) _
   simp only [Act.put,sx0,sx1,sx2];clear hHeld;refine anyK_one (i:=7) (by kernel_rfl) rfl (fun Kk hKk=>?_)
   go_simp
   (go_at_call 38;refine (HAd.out w6.drew hd0).mono ?_;rintro e w3 ⟨cr,z,rfl,hcr,hyy,hx3⟩)
   have he3:=hd0.trans hx3
   go_wp2_with fail
   refine hKk.out _ _ (fun _=>⟨range_keep hco lD he3,(he3.block _ lG).trans Hrow.out⟩) ?_;clear hKk Kk;simp only [sx0,sx1,sx2];have hHeld:w3.rangeAt (H+1) (y*17) co/\w3.heap[G]?=some (.cells ch 48 (0,0)):=⟨range_keep hco lD he3,(he3.block _ lG).trans Hrow.out⟩;refine kT 8 10 (v:=?_) rfl (Or.inl ⟨by rfl,?_⟩) hHeld ?_;rotate_left 1
   ·intro w hSw
    go_simp
    try with_reducible rfl
   show anyK _ _ _ _ _ _ _ _ (Act.put _ (some 103) _) _
   simp only [Act.put,sx0,sx1,sx2];clear hHeld;have hmix:=gp_mix (o:=o) (s:=s) (j:=j) (h:=h) (z1:=z) (z2:=lw (nAdd (gp o s j j) (if bt j (qn:Int) then nNeg h else h))) (by rw [Hctl.out,Hq.out,Hyf.out];exact Hof.out) (by rw [Hctl.out];exact Hon.out) Hnk.out Hhf.out hcr.low (lw_low _) (by rw [Hq.out,Hyf.out];exact hyy) (by rw [Hq.out];exact lw_eq _);rw [Hq.out,Hyf.out] at hmix
   have hzz:gp o s (j+1) y=z:=by rw [hmix,if_neg Hyj.out,if_pos rfl]
   have hz:RmA Qc w3 cr (z) P E:=hcr.amp (hzz ▸ gp_amp HA.out (j+1) y) (by have:=HP.out;omega) (by have:=HE.out;omega)
   have ht:w3.there (H+1) (y*17) cr.size:=by rw [hcr.size];exact (HG5.out.more he3).out.there Hym.out
   have hinf:=hcr.info;have hone:=hcr.val.one;have HG6:=Lh ((HG5.out.more he3).put (g':=fun y'=>if y'=y then z else gp o s j y') Hym.out hz (by have:=HbH.out;omega) (by omega) (by rw [HH.out];omega) (fun _=>rfl));have k2:=((HG5.out.more he3).out.set Hym.out hz).2;have hrow4:=k2.row ((he3.block _ lG).trans Hrow.out) (by have:=HDG.out;omega);have HRh4:=Lh ((HRh.out.ext he3).chz k2 (HG5.out.more he3).out.no);have Hmix:=Lh hmix;clear hz hcr k2 hmix hzz hyy;refine anyK_one (i:=9) (by kernel_rfl) rfl (fun Kk hKk=>?_);refine stepK_storeM rfl rfl 48 _ _ rfl (H+1) (y*17) cr rfl rfl ht hinf hone ?_;refine hKk.out _ _ (fun h=>Bool.noConfusion (show true=false from h)) ?_;clear hKk Kk;simp only [sx0,sx1,sx2];refine anyK_done (by kernel_rfl) ?_ _;clear ht hinf hone he3 hd0;generalize w3.setCells (H+1) (y*17) cr.toList=w4 at *;clear hco hio hich lD lG HAd HG5 HRh hx3 Hrow hrow;have f3:w4.cell? ⟨H,3,none⟩=some (.int .i64 (qn:Int)):=HG6.out.cell 3 (by rw [<-HC.out];rfl)
   cases hbt:bt j (qn:Int) with
   | true =>
    rw [hbt] at Hb;have Hbt:=Lh hbt;clear hbt;have hich:=HRh4.out.info
    go_wp2_with fail
    refine (Hb.out w4).mono ?_;rintro e w8 ⟨rfl,rfl⟩
    go_wp2_with (refine wpList_load_row rfl 48 _ rfl G rfl 48 _ (0,0) _ hrow4 Tryz.underlying48 rfl hich ?_)
    refine (QNeg_nm ch h P E w8 HRh4.out (by have:=HP2.out;omega)).mono ?_;rintro e w7 ⟨cn,rfl,hcn,hx7⟩;have hrow7:=(hx7.block _ (gS.1 hrow4).1).trans hrow4;have Zg:ZVar Qc w7 G _ _:=⟨ch,hrow7,(HRh4.out.ext hx7).val⟩;obtain ⟨hno,kch,hrr,hzc⟩:=hcn.val.setRow Zg;have HG7:=Lh ((HG6.out.more hx7).chz kch ⟨_,_,_,hrow7,by decide⟩ (by have:=HbH.out;have:=HDG.out;omega) (by have:=HDG.out;omega) (by have:=HDG.out;omega) (by rw [HH.out];have:=HDG.out;omega));have HRn:=Lh (show RmA Qc (w7.setRow G cn) cn (nNeg h) P E from ⟨hcn.anti,hcn.low,hcn.abs,hcn.down,hzc⟩)
    have hinf:=hcn.info;have hone:=hcn.val.one;have hszz:ch.size=cn.size:=by rw [hcn.size,HRh4.out.size]
    clear hcn hx7 hrow4 hich Zg hno kch hzc HG6 HRh4 f3
    go_wp2_with (refine wpList_store_row rfl 48 _ _ rfl G cn rfl rfl 48 _ hrow7 hinf hszz hone ?_)
    obtain ⟨w9,h9⟩:∃ w9,w7.setRow G cn=w9:=⟨_,rfl⟩;rw [h9] at HG7 HRn hrr ⊢;clear h9 hrow7 hinf hszz hone;have Hrr:=Lh hrr;have lG:=(gS.1 hrr).1;have lD:=HG7.out.out.lt;obtain ⟨co,hco,hRo,hlo⟩:=HG7.out.out.at Hlt.out
    have hio:(Tryz.prog.info? 48).map (·.size)=some co.length:=by rw [hlo];exact R_size
    have hich:=HRn.out.info;have HAd:=Lh (fun (wx:World) (hx:Ext w9 wx)=>QAdd_nm co.toArray cn _ _ P E wx (hRo.ext hx) (HRn.out.ext hx) HP2.out (by have:=HE2.out;omega) (HLm.out.grow (HG7.out.ext.trans hx).size));clear hRo hlo
    go_upto_region 19 with fail
    have hd0:Ext w9 w9.drew:=Below.drew (Ext.refl _);refine wp_region_K 9 (fun w'=>w'.rangeAt (H+1) (j*17) co/\w'.heap[G]?=some (.cells cn 48 (0,0))) (by kernel_rfl) ?_
    show anyK _ _ _ _ _ _ 10 #[false,false,false,false,false,false,false,false,false,false] _ _
    have hHeld:w9.drew.rangeAt (H+1) (j*17) co/\w9.drew.heap[G]?=some (.cells cn 48 (0,0)):=⟨range_keep hco lD hd0,(hd0.block _ lG).trans Hrr.out⟩;refine kT 0 10 (v:=?_) rfl (Or.inl ⟨by rfl,?_⟩) hHeld ?_;rotate_left 1
    ·intro w hSw
     go_simp
     try with_reducible rfl
    show anyK _ _ _ _ _ _ _ _ (Act.put _ (some 111) _) _
    simp only [Act.put,sx0,sx1,sx2];refine kT 1 10 (v:=?_) rfl (Or.inl ⟨by rfl,?_⟩) hHeld ?_;rotate_left 1
    ·intro w hSw
     go_simp
     try with_reducible rfl
    show anyK _ _ _ _ _ _ _ _ (Act.put _ (some 112) _) _
    simp only [Act.put,sx0,sx1,sx2];refine kT 2 10 (v:=?_) rfl (Or.inl ⟨by rfl,?_⟩) hHeld ?_;rotate_left 1
    ·intro w hSw
     go_simp
     try with_reducible rfl
    show anyK _ _ _ _ _ _ _ _ (Act.put _ (some 113) _) _
    simp only [Act.put,sx0,sx1,sx2];refine kT 3 10 (v:=?_) rfl (Or.inl ⟨by rfl,?_⟩) hHeld ?_;rotate_left 1
    ·intro w hSw
     go_simp
     try with_reducible rfl
    show anyK _ _ _ _ _ _ _ _ (Act.put _ (some 114) _) _
    simp only [Act.put,sx0,sx1,sx2];refine kT 4 10 (v:=?_) rfl (Or.inl ⟨by rfl,?_⟩) hHeld ?_;rotate_left 1
    ·intro w hSw
     go_simp
     try with_reducible rfl
    show anyK _ _ _ _ _ _ _ _ (Act.put _ (some 115) _) _
    simp only [Act.put,sx0,sx1,sx2];refine kT 5 10 (v:=.agg co.toArray) rfl (yieldsIf_load_mid (by rfl) 48 _ rfl (H+1) (j*17) rfl co _ (fun _ h=>h.1) Tryz.underlying48 rfl hio) hHeld ?_
    show anyK _ _ _ _ _ _ _ _ (Act.put _ (some 116) _) _
    simp only [Act.put,sx0,sx1,sx2];refine kT 6 10 (v:=.agg cn) rfl (Or.inl ⟨by rfl,fun _ h=>exec_load_row 48 _ rfl G rfl 48 _ (0,0) _ (h.2) Tryz.underlying48 rfl hich⟩) hHeld ?_
    show anyK _ _ _ _ _ _ _ _ (Act.put _ (some 117) _) _
    simp only [Act.put,sx0,sx1,sx2];clear hHeld;refine anyK_one (i:=7) (by kernel_rfl) rfl (fun Kk hKk=>?_)
    go_simp
    (go_at_call 38;refine (HAd.out w9.drew hd0).mono ?_;rintro e w3 ⟨cr,z2,rfl,hcr,hyy,hx3⟩)
    have he3:=hd0.trans hx3
    go_wp2_with fail
    refine hKk.out _ _ (fun _=>⟨range_keep hco lD he3,(he3.block _ lG).trans Hrr.out⟩) ?_;clear hKk Kk;simp only [sx0,sx1,sx2];have hHeld:w3.rangeAt (H+1) (j*17) co/\w3.heap[G]?=some (.cells cn 48 (0,0)):=⟨range_keep hco lD he3,(he3.block _ lG).trans Hrr.out⟩;refine kT 8 10 (v:=?_) rfl (Or.inl ⟨by rfl,?_⟩) hHeld ?_;rotate_left 1
    ·intro w hSw
     go_simp
     try with_reducible rfl
    show anyK _ _ _ _ _ _ _ _ (Act.put _ (some 119) _) _
    simp only [Act.put,sx0,sx1,sx2];clear hHeld;have hz2:z2=lw (nAdd (gp o s j j) (if bt j (qn:Int) then nNeg h else h)):=lw_one hcr.low (by rw [Hbt.out];have h1:=hyy;rw [if_neg (Ne.symm Hyj.out)] at h1;exact h1)
    have hzz:gp o s (j+1) j=z2:=by rw [Hmix.out,if_pos rfl,hz2]
    have hz:RmA Qc w3 cr (z2) P E:=hcr.amp (hzz ▸ gp_amp HA.out (j+1) j) (by have:=HP.out;omega) (by have:=HE.out;omega)
    have ht:w3.there (H+1) (j*17) cr.size:=by rw [hcr.size];exact (HG7.out.more he3).out.there Hlt.out
    have hinf:=hcr.info;have hone:=hcr.val.one;have HG4:=Lh ((HG7.out.more he3).put (g':=gp o s (j+1)) Hlt.out hz (by have:=HbH.out;omega) (by omega) (by rw [HH.out];omega) (fun y'=>by rw [Hmix.out,hz2]));clear hz hcr;refine anyK_one (i:=9) (by kernel_rfl) rfl (fun Kk hKk=>?_);refine stepK_storeM rfl rfl 48 _ _ rfl (H+1) (j*17) cr rfl rfl ht hinf hone ?_;refine hKk.out _ _ (fun h=>Bool.noConfusion (show true=false from h)) ?_;clear hKk Kk;simp only [sx0,sx1,sx2];refine anyK_done (by kernel_rfl) ?_ _;clear ht hinf hone he3 hd0;generalize w3.setCells (H+1) (j*17) cr.toList=w4 at *;clear hco hio hich lD lG HAd hx3 hzz hz2 hyy
    go_wp2_with fail
    go_roundg (m-(j+1))
    case measure=>have:=Hkk.out;have:=Hlt.out;omega
    case rel=>exact ⟨j+1,rfl,Hlt.out,rfl,HG4.out⟩
   | false =>
    rw [hbt] at Hb;have Hbt:=Lh hbt;clear hbt;have Hrr:=Lh hrow4;have lG:=(gS.1 hrow4).1;have lD:=HG6.out.out.lt;obtain ⟨co,hco,hRo,hlo⟩:=HG6.out.out.at Hlt.out
    have hio:(Tryz.prog.info? 48).map (·.size)=some co.length:=by rw [hlo];exact R_size
    have hich:=HRh4.out.info;have HAd:=Lh (fun (wx:World) (hx:Ext w4 wx)=>QAdd_nm co.toArray ch _ _ P E wx (hRo.ext hx) (HRh4.out.ext hx) HP2.out (by have:=HE2.out;omega) (HLm.out.grow (HG6.out.ext.trans hx).size));clear hRo hlo
    go_wp2_with fail
    refine (Hb.out w4).mono ?_;rintro e w8 ⟨rfl,rfl⟩
    go_upto_region 19 with fail
    have hd0:Ext w8 w8.drew:=Below.drew (Ext.refl _);refine wp_region_K 9 (fun w'=>w'.rangeAt (H+1) (j*17) co/\w'.heap[G]?=some (.cells ch 48 (0,0))) (by kernel_rfl) ?_
    show anyK _ _ _ _ _ _ 10 #[false,false,false,false,false,false,false,false,false,false] _ _
    have hHeld:w8.drew.rangeAt (H+1) (j*17) co/\w8.drew.heap[G]?=some (.cells ch 48 (0,0)):=⟨range_keep hco lD hd0,(hd0.block _ lG).trans Hrr.out⟩;refine kT 0 10 (v:=?_) rfl (Or.inl ⟨by rfl,?_⟩) hHeld ?_;rotate_left 1
    ·intro w hSw
     go_simp
     try with_reducible rfl
    show anyK _ _ _ _ _ _ _ _ (Act.put _ (some 111) _) _
    simp only [Act.put,sx0,sx1,sx2];refine kT 1 10 (v:=?_) rfl (Or.inl ⟨by rfl,?_⟩) hHeld ?_;rotate_left 1
    ·intro w hSw
     go_simp
     try with_reducible rfl
    show anyK _ _ _ _ _ _ _ _ (Act.put _ (some 112) _) _
    simp only [Act.put,sx0,sx1,sx2];refine kT 2 10 (v:=?_) rfl (Or.inl ⟨by rfl,?_⟩) hHeld ?_;rotate_left 1
    ·intro w hSw
     go_simp
     try with_reducible rfl
    show anyK _ _ _ _ _ _ _ _ (Act.put _ (some 113) _) _
    simp only [Act.put,sx0,sx1,sx2];refine kT 3 10 (v:=?_) rfl (Or.inl ⟨by rfl,?_⟩) hHeld ?_;rotate_left 1
    ·intro w hSw
     go_simp
     try with_reducible rfl
    show anyK _ _ _ _ _ _ _ _ (Act.put _ (some 114) _) _
    simp only [Act.put,sx0,sx1,sx2];refine kT 4 10 (v:=?_) rfl (Or.inl ⟨by rfl,?_⟩) hHeld ?_;rotate_left 1
    ·intro w hSw
     go_simp
     try with_reducible rfl
    show anyK _ _ _ _ _ _ _ _ (Act.put _ (some 115) _) _
    simp only [Act.put,sx0,sx1,sx2];refine kT 5 10 (v:=.agg co.toArray) rfl (yieldsIf_load_mid (by rfl) 48 _ rfl (H+1) (j*17) rfl co _ (fun _ h=>h.1) Tryz.underlying48 rfl hio) hHeld ?_
    show anyK _ _ _ _ _ _ _ _ (Act.put _ (some 116) _) _
    simp only [Act.put,sx0,sx1,sx2];refine kT 6 10 (v:=.agg ch) rfl (Or.inl ⟨by rfl,fun _ h=>exec_load_row 48 _ rfl G rfl 48 _ (0,0) _ (h.2) Tryz.underlying48 rfl hich⟩) hHeld ?_
    show anyK _ _ _ _ _ _ _ _ (Act.put _ (some 117) _) _
    simp only [Act.put,sx0,sx1,sx2];clear hHeld;refine anyK_one (i:=7) (by kernel_rfl) rfl (fun Kk hKk=>?_)
    go_simp
    (go_at_call 38;refine (HAd.out w8.drew hd0).mono ?_;rintro e w3 ⟨cr,z2,rfl,hcr,hyy,hx3⟩)
    have he3:=hd0.trans hx3
    go_wp2_with fail
    refine hKk.out _ _ (fun _=>⟨range_keep hco lD he3,(he3.block _ lG).trans Hrr.out⟩) ?_;clear hKk Kk;simp only [sx0,sx1,sx2];have hHeld:w3.rangeAt (H+1) (j*17) co/\w3.heap[G]?=some (.cells ch 48 (0,0)):=⟨range_keep hco lD he3,(he3.block _ lG).trans Hrr.out⟩;refine kT 8 10 (v:=?_) rfl (Or.inl ⟨by rfl,?_⟩) hHeld ?_;rotate_left 1
    ·intro w hSw
     go_simp
     try with_reducible rfl
    show anyK _ _ _ _ _ _ _ _ (Act.put _ (some 119) _) _
    simp only [Act.put,sx0,sx1,sx2];clear hHeld;have hz2:z2=lw (nAdd (gp o s j j) (if bt j (qn:Int) then nNeg h else h)):=lw_one hcr.low (by rw [Hbt.out];have h1:=hyy;rw [if_neg (Ne.symm Hyj.out)] at h1;exact h1)
    have hzz:gp o s (j+1) j=z2:=by rw [Hmix.out,if_pos rfl,hz2]
    have hz:RmA Qc w3 cr (z2) P E:=hcr.amp (hzz ▸ gp_amp HA.out (j+1) j) (by have:=HP.out;omega) (by have:=HE.out;omega)
    have ht:w3.there (H+1) (j*17) cr.size:=by rw [hcr.size];exact (HG6.out.more he3).out.there Hlt.out
    have hinf:=hcr.info;have hone:=hcr.val.one;have HG4:=Lh ((HG6.out.more he3).put (g':=gp o s (j+1)) Hlt.out hz (by have:=HbH.out;omega) (by omega) (by rw [HH.out];omega) (fun y'=>by rw [Hmix.out,hz2]));clear hz hcr;refine anyK_one (i:=9) (by kernel_rfl) rfl (fun Kk hKk=>?_);refine stepK_storeM rfl rfl 48 _ _ rfl (H+1) (j*17) cr rfl rfl ht hinf hone ?_;refine hKk.out _ _ (fun h=>Bool.noConfusion (show true=false from h)) ?_;clear hKk Kk;simp only [sx0,sx1,sx2];refine anyK_done (by kernel_rfl) ?_ _;clear ht hinf hone he3 hd0;generalize w3.setCells (H+1) (j*17) cr.toList=w4 at *;clear hco hio hich lD lG HAd hx3 hzz hz2 hyy
    go_wp2_with fail
    go_roundg (m-(j+1))
    case measure=>have:=Hkk.out;have:=Hlt.out;omega
    case rel=>exact ⟨j+1,rfl,Hlt.out,rfl,HG4.out⟩
theorem and_half {m f:Nat} (h:m &&& f=f):(m / 2) &&& (f / 2)=f / 2:=by rw [<-Nat.and_div_two,h]
theorem and_low {m f:Nat} (h:m &&& f=f) (hf:f % 2=1):m % 2=1:=by
 have h1:f.testBit 0=true:=by simp [hf]
 rw [<-h,Nat.testBit_and] at h1;have h2:=(Bool.and_eq_true_iff.1 h1).1
 simpa using h2
theorem or_low (x y:Nat):(x ||| y) % 2=if x % 2=1\/y % 2=1 then 1 else 0:=by
 have h:=Nat.or_mod_two_eq_one (a:=x) (b:=y)
 by_cases e:x % 2=1\/y % 2=1
 ·rw [if_pos e];exact h.2 e
 ·rw [if_neg e]
  have:¬ (x ||| y) % 2=1:=fun g=>e (h.1 g)
  omega
theorem next_sup:∀ (m f z:Nat),m &&& f=f->z &&& f=f->m<z->(m+1) ||| f<=z:=by
 intro m
 induction m using Nat.strongRecOn with
 | ind m ih =>
  intro f z hm hz hlt;have hd:((m+1) ||| f) / 2=(m+1) / 2 ||| f / 2:=Nat.or_div_two;have hl:=or_low (m+1) f
  by_cases h0:m % 2=0
  ·have hf:f % 2=0:=by
    by_cases e:f % 2=1
    ·have:=and_low hm e;omega
    ·omega
   have e1:(m+1) / 2=m / 2:=by omega
   have e2:m / 2 ||| f / 2=m / 2:=by
    have:=and_half hm
    apply Nat.eq_of_testBit_eq
    intro i;rw [Nat.testBit_or]
    have h3:(f / 2).testBit i=((m / 2).testBit i && (f / 2).testBit i):=by rw [<-Nat.testBit_and,this]
    cases ha:(m / 2).testBit i<;>simp_all
   rw [e1,e2] at hd
   have:((m+1) ||| f) % 2<=1:=by omega
   omega
  ·have e1:(m+1) / 2=m / 2+1:=by omega
   rw [e1] at hd
   have hc:m / 2<z / 2:=by omega
   have h1:=ih (m / 2) (by omega) (f / 2) (z / 2) (and_half hm) (and_half hz) hc
   by_cases e:f % 2=1
   ·have:=and_low hz e
    omega
   ·rw [if_neg (by omega)] at hl
    omega
theorem or_and (a b:Nat):(a ||| b)+(a &&& b)=a+b:=by
 induction a using Nat.strongRecOn generalizing b with
 | ind a ih =>
  by_cases h:a=0
  ·subst h;simp
  have h1:=ih (a / 2) (by omega) (b / 2);have d1:(a ||| b) / 2=a / 2 ||| b / 2:=Nat.or_div_two;have d2:(a &&& b) / 2=a / 2 &&& b / 2:=Nat.and_div_two;have l1:=or_low a b
  have l2:(a &&& b) % 2=if a % 2=1/\b % 2=1 then 1 else 0:=by
   have h:=Nat.and_mod_two_eq_one (a:=a) (b:=b)
   by_cases e:a % 2=1/\b % 2=1
   ·rw [if_pos e];exact h.2 e
   ·rw [if_neg e]
    have:¬ (a &&& b) % 2=1:=fun g=>e (h.1 g)
    omega
  rw [<-d1,<-d2] at h1;obtain ⟨O,hO⟩:∃ O,a ||| b=O:=⟨_,rfl⟩;obtain ⟨A,hA⟩:∃ A,a &&& b=A:=⟨_,rfl⟩;rw [hO] at h1 l1 ⊢;rw [hA] at h1 l2 ⊢;clear hO hA d1 d2 ih
  by_cases ha:a % 2=1
  ·by_cases hb:b % 2=1
   ·rw [if_pos (Or.inl ha)] at l1;rw [if_pos ⟨ha,hb⟩] at l2;omega
   ·rw [if_pos (Or.inl ha)] at l1;rw [if_neg (fun e=>hb e.2)] at l2;omega
  ·by_cases hb:b % 2=1
   ·rw [if_pos (Or.inr hb)] at l1;rw [if_neg (fun e=>ha e.1)] at l2;omega
   ·rw [if_neg (fun e=>e.elim ha hb)] at l1;rw [if_neg (fun e=>ha e.1)] at l2;omega
def andN (t f:Nat):Nat:=t ^^^ (t &&& f)
theorem andN_bit (t f i:Nat):(andN t f).testBit i=(t.testBit i && !f.testBit i):=by
 unfold andN;rw [Nat.testBit_xor,Nat.testBit_and]
 cases t.testBit i<;>cases f.testBit i<;>rfl
def nxt (o f y:Nat):Nat:=andN ((y ||| f)+1) f ||| o
theorem nxt_in {o f:Nat} (ho:o &&& f=o) (y:Nat):nxt o f y &&& f=o:=by
 apply Nat.eq_of_testBit_eq
 intro i
 have h3:o.testBit i=(o.testBit i && f.testBit i):=by rw [<-Nat.testBit_and,ho]
 unfold nxt;rw [Nat.testBit_and,Nat.testBit_or,andN_bit]
 cases ha:o.testBit i<;>cases hb:f.testBit i<;>simp_all
theorem nxt_or {o f:Nat} (ho:o &&& f=o) (y:Nat):nxt o f y ||| f=((y ||| f)+1) ||| f:=by
 apply Nat.eq_of_testBit_eq
 intro i
 have h3:o.testBit i=(o.testBit i && f.testBit i):=by rw [<-Nat.testBit_and,ho]
 unfold nxt;rw [Nat.testBit_or,Nat.testBit_or,Nat.testBit_or,andN_bit]
 cases ha:o.testBit i<;>cases hb:f.testBit i<;>simp_all
theorem sup_of (y f:Nat):(y ||| f) &&& f=f:=by
 apply Nat.eq_of_testBit_eq
 intro i;rw [Nat.testBit_and,Nat.testBit_or]
 cases y.testBit i<;>cases f.testBit i<;>rfl
theorem nxt_gt {o f y:Nat} (ho:o &&& f=o) (hy:y &&& f=o):y<nxt o f y:=by
 have h1:=or_and y f;have h2:=or_and (nxt o f y) f;rw [hy] at h1;rw [nxt_in ho,nxt_or ho] at h2;have h3:(y ||| f)+1<=((y ||| f)+1) ||| f:=Nat.left_le_or;omega
theorem nxt_least {o f y z:Nat} (ho:o &&& f=o) (hy:y &&& f=o) (hz:z &&& f=o) (h:y<z):nxt o f y<=z:=by
 have h1:=or_and y f;have h2:=or_and (nxt o f y) f;have h3:=or_and z f;rw [hy] at h1;rw [hz] at h3;rw [nxt_in ho,nxt_or ho] at h2;have h4:=next_sup (y ||| f) f (z ||| f) (sup_of _ _) (sup_of _ _) (by omega);omega
theorem first_least {o f z:Nat} (hz:z &&& f=o):o<=z:=by rw [<-hz];exact Nat.and_le_left
theorem or_i64 (x y:Nat) (hx:x<1048576) (hy:y<1048576):bits .or .i64 (x:Int) (y:Int)=((x ||| y:Nat):Int):=by
 show IntKind.i64.wrap ((BitVec.ofInt 64 (x:Int) ||| BitVec.ofInt 64 (y:Int)).toNat:Int)=_
 have h1:=ofInt_toNat (x:Int);have h2:=ofInt_toNat (y:Int)
 have h3:(BitVec.ofInt 64 (x:Int)).toNat=x:=by omega
 have h4:(BitVec.ofInt 64 (y:Int)).toNat=y:=by omega
 have h5:x ||| y<2 ^ 20:=Nat.or_lt_two_pow hx hy;rw [BitVec.toNat_or,h3,h4,IntKind.wrap_i64];omega
def msk (l:List Int):Nat:=l.foldl (fun a c=>a ||| 2 ^ c.toNat) 0
theorem msk_snoc (l:List Int) (c:Int):msk (l++[c])=msk l ||| 2 ^ c.toNat:=by unfold msk;rw [List.foldl_append];rfl
theorem msk_take {l:List Int} {i:Nat} (h:i<l.length):msk (l.take (i+1))=msk (l.take i) ||| 2 ^ (l.getD i 0).toNat:=by
 rw [List.take_succ_eq_append_getElem h,msk_snoc,List.getD_eq_getElem?_getD,List.getElem?_eq_getElem h]
 rfl
theorem msk_bit_from (l:List Int) (a i:Nat):(l.foldl (fun a c=>a ||| 2 ^ c.toNat) a).testBit i=(a.testBit i || l.any (fun c=>c.toNat == i)):=by
 induction l generalizing a with
 | nil=>simp
 | cons c r ih =>
  rw [List.foldl_cons,ih,Nat.testBit_or,Nat.testBit_two_pow,List.any_cons,Bool.or_assoc]
  congr 2
theorem msk_bit (l:List Int) (i:Nat):(msk l).testBit i=l.any (fun c=>c.toNat == i):=by
 unfold msk;rw [msk_bit_from]
 simp
theorem msk_lt {l:List Int} {n:Nat} (h:∀ c ∈ l,c.toNat<n):msk l<2 ^ n:=by
 refine Nat.lt_pow_two_of_testBit _ fun i hi=>?_
 rw [msk_bit,List.any_eq_false];intro c hc;have:=h c hc;simp only [beq_iff_eq];omega
theorem ons_msk (x:Nat) (l:List Int):ons x l=true↔x &&& msk l=msk l:=by
 unfold ons;rw [List.all_eq_true]
 constructor
 ·intro h
  apply Nat.eq_of_testBit_eq
  intro i;rw [Nat.testBit_and,msk_bit]
  cases hb:l.any (fun c=>c.toNat == i) with
  | false=>simp
  | true =>
   obtain ⟨c,hc,e⟩:=List.any_eq_true.1 hb;have h1:=h c hc
   have h2:c.toNat=i:=by simpa using e
   unfold bt at h1;rw [h2] at h1;rw [h1];rfl
 ·intro h c hc
  have h1:(msk l).testBit c.toNat=true:=by
   rw [msk_bit];exact List.any_eq_true.2 ⟨c,hc,by simp⟩
  rw [<-h,Nat.testBit_and] at h1;exact (Bool.and_eq_true_iff.1 h1).1
theorem set_any (ao:Option Addr) (n cp:Nat) (l:List Int) (w:World) (h:IntsAt w ao n l) (hn:n<=1000) (h0:∀ c ∈ l,0<=c/\c<19) :
  Calls Tryz.prog 117 #[.slice ao n cp] w fun e w'=>e=.returned (.int .i64 (msk l:Int))/\w'=w:=by
 have hlen:=h.1;have Hh:=Lh h;have H0:=Lh h0;have Hlen:=Lh hlen;have Hn:=Lh hn;clear h h0 hlen hn;obtain ⟨R,hR⟩:∃ R:Int,(msk l:Int)=R:=⟨_,rfl⟩;rw [hR];have HR:=Lh hR;clear hR
 go_enter Tryz.func117,Tryz.ntmps117
 go_wp2_with fail
 go_loopg [3,8] n (fun kk s3 s8 wr=>∃ i a:Nat,s8=.int .i64 (i:Int)/\s3=.int .i64 (a:Int)/\a=msk (l.take i)/\i<=n/\n-i=kk/\wr=w)
 case atStart=>exact ⟨0,0,rfl,rfl,rfl,by omega,by omega,rfl⟩
 case round =>
  obtain ⟨i,a,rfl,rfl,ha,hi,hk,rfl⟩:=hrel;have Ha:=Lh ha;have Hk:=Lh hk;clear ha hk
  by_cases hin:i=n
  ·have Hr:=Lh (show (a:Int)=R by
    rw [<-HR.out,Ha.out,hin,List.take_of_length_le (by rw [Hlen.out];exact Nat.le_refl _)])
   have q1:¬ (i:Int)<(n:Int):=by omega
   clear hin hi
   go_wp2_with fail
   go_ret
   exact ⟨congrArg (fun b=>Ending.returned (Value.int .i64 b)) Hr.out,rfl⟩
  have hlt:i<n:=by omega
  have q1:(i:Int)<(n:Int):=by omega
  have q0:(0:Int)<=(i:Int):=by omega
  have wk:IntKind.i64.wrap ((i:Int)+1)=((i+1:Nat):Int):=by rw [IntKind.wrap_i64];have:=Hn.out;omega
  obtain ⟨b,o,rfl,hb,hc⟩:=Hh.out.2.resolve_left (by omega);have y0:=hc i hlt
  have hil:i<l.length:=by rw [Hlen.out];exact hlt
  have hc0:0<=l.getD i 0/\l.getD i 0<19:=by
   rw [List.getD_eq_getElem?_getD,List.getElem?_eq_getElem hil];exact H0.out _ (List.getElem_mem hil)
  obtain ⟨c,hcc⟩:∃ c:Nat,l.getD i 0=(c:Int):=⟨(l.getD i 0).toNat,by omega⟩;rw [hcc] at y0 hc0;obtain ⟨t,ht⟩:∃ t:Nat,2 ^ c=t:=⟨_,rfl⟩
  have hs:wrap64 (2 ^ min c 64)=(t:Int):=by rw [<-ht];exact shl1 (by omega)
  have ht2:t<1048576:=by rw [<-ht];exact Nat.lt_of_le_of_lt (Nat.pow_le_pow_right (by decide) (show c<=19 by omega)) (by decide)
  have ha2:a<1048576:=by
   rw [Ha.out];exact msk_lt (n:=20) (fun d hd=>by have:=H0.out d (List.mem_of_mem_take hd);omega)
  obtain ⟨a',ha'⟩:∃ a':Nat,a ||| t=a':=⟨_,rfl⟩
  have ho:bits .or .i64 (a:Int) (t:Int)=(a':Int):=by rw [or_i64 a t ha2 ht2,ha']
  have c0:(0:Int)<=(c:Int):=by omega
  have Hn2:=Lh (show a'=msk (l.take (i+1)) by rw [msk_take hil,hcc,<-ha',Ha.out,<-ht];rfl);have Hlt:=Lh hlt;clear hcc hc0 hb hc hin hi ht ht2 ha2 ha' hil
  go_wp2_with fail
  go_roundg (n-(i+1))
  case measure=>have:=Hk.out;have:=Hlt.out;omega
  case rel=>exact ⟨i+1,a',rfl,rfl,Hn2.out,Hlt.out,rfl,rfl⟩
end Go.Proofs.YtfjnlopbmkimiaaGreatDoor
