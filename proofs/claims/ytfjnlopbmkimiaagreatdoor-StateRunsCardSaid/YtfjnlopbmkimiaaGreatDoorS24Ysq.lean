/-
  The reference: Play: a circuit is run to its end, with the outcomes of the tape. The reference's writing: ZText. The reference: the text of a number. The program: texts: all amplitudes as they are written.
-/
import Derived.Test.YtfjnlopbmkimiaaGreatDoorS23Pk
namespace Go.Proofs.YtfjnlopbmkimiaaGreatDoor
set_option maxRecDepth 100000
set_option maxHeartbeats 8000000
open Go.RowKit
theorem QPlay_any (c:Gci) (ao:Option Addr) (n cp:Nat) (x:Int) (ta:Option Addr) (tn tc:Nat) (want:List Int) (w:World) (h:OpsAt w ao n c.ops) (hn:n<=cp) (hcp:cp<=9223372036854775807) (hT:IntsAt w ta tn want) :
  Calls Tryz.prog 13 #[.agg #[.int .i64 c.qubits,.int .i64 c.bits,.slice ao n cp],.int .i64 x,.slice ta tn tc] w fun e w'=>∃ r0 r1 r2,e=.returned (.tuple #[r0,r1,r2,.agg #[.int .i64 (shoF c x want).1,.int .i64 (shoF c x want).2]])/\Ext w w' /\
   ((shoF c x want).1=0->∃ b g,r0=.slice (some ⟨b,0,none⟩) (2 ^ c.qubits.toNat) (2 ^ c.qubits.toNat)/\r1=.slice (some ⟨g,0,none⟩) (shoR c x want).bits.length (shoR c x want).bits.length/\r2=.int .i64 ((shoR c x want).u:Int)/\PlA w w' g b (2 ^ c.qubits.toNat) (shoR c x want).s (shoR c x want).bits 4096):=by
 obtain ⟨F,hF⟩:∃ F,shoF c x want=F:=⟨_,rfl⟩;obtain ⟨F0,F1⟩:=F;obtain ⟨M,hM⟩:∃ M,shoR c x want=M:=⟨_,rfl⟩;rw [hF,hM];unfold shoF at hF;rw [hM] at hF;unfold shoR at hM;obtain ⟨qb,bi,ops⟩:=c;obtain ⟨m,hm⟩:∃ m:Nat,2 ^ qb.toNat=m:=⟨_,rfl⟩;simp only [hm];have Hm0:=Lh hm;clear hm;obtain ⟨f,hf⟩:∃ f,chk ⟨qb,bi,ops⟩=f:=⟨_,rfl⟩;obtain ⟨f0,f1⟩:=f
 have hst:(f0≠0->stF ⟨qb,bi,ops⟩ x=(f0,f1))/\(f0=0->(x<0\/((2 ^ qb.toNat:Nat):Int)<=x)->stF ⟨qb,bi,ops⟩ x=(18,0))/\(f0=0->¬ (x<0\/((2 ^ qb.toNat:Nat):Int)<=x)->stF ⟨qb,bi,ops⟩ x=(0,0)):=by
  unfold stF;rw [hf];exact ⟨fun h=>if_pos h,fun h k=>by rw [if_neg (fun e=>e h),if_pos k],fun h k=>by rw [if_neg (fun e=>e h),if_neg k]⟩
 have hFs:∀ a b:Int,stF ⟨qb,bi,ops⟩ x=(a,b)->(a≠0->F0=a/\F1=b)/\(a=0->M.f=(F0,F1)):=by
  intro a b e;rw [e] at hF;refine ⟨fun h=>?_,fun h=>?_⟩
  ·rw [if_pos h] at hF
   exact ⟨(congrArg Prod.fst hF).symm,(congrArg Prod.snd hF).symm⟩
  ·rw [if_neg (fun k=>k h)] at hF
   exact hF
 have hz:f0=0->f1=0/\(1<=qb/\qb<=12)/\(0<=bi/\bi<=12)/\ops.length<=4096/\(∀ g ∈ ops,opCode g qb bi=0):=by
  intro h0
  have hc:(chk ⟨qb,bi,ops⟩).1=0:=by rw [hf];exact h0
  obtain ⟨hc0,h1,h2,h3,h4,h5,h6⟩:=chk_zero hc;rw [hf] at hc0;exact ⟨congrArg Prod.snd hc0,⟨h1,h2⟩,⟨h3,h4⟩,h5,h6⟩
 have Hz:=Lh hz;have Hf:=Lh hf;have HM:=Lh hM;have Hst:=Lh hst;have HFs:=Lh hFs;obtain ⟨H,hH⟩:∃ H,w.heap.size=H:=⟨_,rfl⟩;obtain ⟨W0,hW0⟩:∃ W0,(w.alloc (.cells #[.int .i64 qb,.int .i64 bi,.slice ao n cp] 24)).alloc (.cells #[.int .i64 0,.int .i64 0] 31)=W0:=⟨_,rfl⟩
 have E0:Ext w W0:=by rw [<-hW0];exact (ext_al w _).trans (ext_al _ _)
 have bC:CiB W0 H qb bi ao n cp:=by rw [<-hW0,<-hH];exact CiB.ext ⟨heap_alloc_new w _⟩ (ext_al _ _)
 have bF:FtB W0 (H+1) 0 0:=⟨by
  have:=heap_alloc_new (w.alloc (.cells #[.int .i64 qb,.int .i64 bi,.slice ao n cp] 24)) (.cells #[.int .i64 0,.int .i64 0] 31);rw [<-hW0,<-hH]
  simpa using this⟩
 have HE0:=Lh E0;have HO:=Lh (h.ext E0);have HC:=Lh bC;have HFt:=Lh bF;have HT:=Lh (hT.ext E0);have m0:=bC.x0;have m1:=bC.x1;have m2:=bC.x2;have HH:=Lh hH;have HW0:=Lh hW0;have HwH:=Lh (show w.heap.size<=H+1 by omega);clear h E0 bC bF hF hf hz hT hM hH hW0 hst hFs
 go_enter Tryz.func13,Tryz.ntmps13
 go_upto_region 1 with fail
 rw [HW0.out,HH.out];have HK:=Lh (RCheck_any ⟨qb,bi,ops⟩ ao n cp W0 HO.out hn hcp);rw [Hf.out] at HK
 go_wp2_with fail
 refine HK.out.mono ?_;rintro e w1 ⟨rfl,hx1⟩;have Ef:=ext_al w1 (.cells #[.int .i64 f0,.int .i64 f1] 31);have bf1:FtB (w1.alloc (.cells #[.int .i64 f0,.int .i64 f1] 31)) w1.heap.size f0 f1:=⟨heap_alloc_new w1 _⟩;have q0:=bf1.x0;have q1:=bf1.x1;have HX1:=Lh (hx1.trans Ef);have bz:=HFt.out.ext HX1.out;have x0':=bz.x0;have x1':=bz.x1;have g0':=bz.f 0;have g1':=bz.f 1;have bc:=HC.out.ext HX1.out;have v0:=bc.x0;have v1:=bc.x1;have v2:=bc.x2;have HEz:=Lh (HE0.out.trans HX1.out);clear bz bc m0 m1 m2 hx1 Ef bf1 HK Hf HW0 HH
 by_cases hc0:f0=0
 ·obtain ⟨hf1,⟨hq1,hq2⟩,⟨hb1,hb2⟩,hlen,hcode⟩:=Hz.out hc0
  obtain ⟨qn,rfl⟩:∃ qn:Nat,qb=(qn:Int):=⟨qb.toNat,by omega⟩;obtain ⟨nb,rfl⟩:∃ nb:Nat,bi=(nb:Int):=⟨bi.toNat,by omega⟩;have hcb:=nf' hc0;have hnl:=HO.out.1;have hs:=shl1 (q:=qn) (by omega);have hs1:=Hst.out.2.1 hc0;have hs2:=Hst.out.2.2 hc0;simp only [Int.toNat_natCast] at hs1 hs2 HM
  have hm:2 ^ qn=m:=by have:=Hm0.out;simpa using this
  have Hqn:=Lh (show qn<=12 by omega);have Hnb:=Lh (show nb<=12 by omega);have Hn4:=Lh (show n<=4096 by omega);rw [hm] at hs hs1 hs2;have Hm:=Lh hm;have Hfit:=Lh (fun (o:Gop) (ho:o ∈ ops)=>plFit_of_code (o:=o) (n:=(qn:Int)) (b:=(nb:Int)) (by omega) (by omega) (by omega) (by omega) (hcode o ho));clear hm Hm0 hf1 hq1 hq2 hb1 hb2 hcode hc0 Hz
  by_cases hx0:x<0
  ·have HF2:=Lh ((HFs.out 18 0 (hs1 (Or.inl hx0))).1 (by decide))
   have Hz:=Lh (HFt.out.ext HX1.out);clear hs1 hs2 Hst HFs HM v1 v2 x0' x1' g0' g1' HFt HX1
   go_wp2_with fail
   refine (rfault_any 18 0 _).mono ?_;rintro e wz ⟨rfl,hxz⟩;have bz:=Hz.out.ext hxz;have x0':=bz.x0;have x1':=bz.x1;have g0':=bz.f 0;have g1':=bz.f 1;have HEy:=Lh (HEz.out.trans hxz);clear bz hxz
   go_wp2_with fail
   exact bodyPost_ret (v:=.tuple #[.slice none 0 0,.slice none 0 0,.int .i64 0,.agg #[.int .i64 18,.int .i64 0]]) (by simp [results,Tryz.results13,go_sem,x0',x1']) rfl ⟨_,_,_,by rw [HF2.out.1,HF2.out.2],put2x HEy.out HwH.out _ _,fun h=>absurd (HF2.out.1 ▸ h) (by decide)⟩
  by_cases hx1:((m:Nat):Int)<=x
  ·have HF2:=Lh ((HFs.out 18 0 (hs1 (Or.inr hx1))).1 (by decide))
   have qz:(0:Int)<=(qn:Int):=by omega
   have Hz:=Lh (HFt.out.ext HX1.out);clear hs1 hs2 Hst HFs HM v1 v2 x0' x1' g0' g1' HFt HX1
   go_wp2_with fail
   refine (rfault_any 18 0 _).mono ?_;rintro e wz ⟨rfl,hxz⟩;have bz:=Hz.out.ext hxz;have x0':=bz.x0;have x1':=bz.x1;have g0':=bz.f 0;have g1':=bz.f 1;have HEy:=Lh (HEz.out.trans hxz);clear bz hxz
   go_wp2_with fail
   exact bodyPost_ret (v:=.tuple #[.slice none 0 0,.slice none 0 0,.int .i64 0,.agg #[.int .i64 18,.int .i64 0]]) (by simp [results,Tryz.results13,go_sem,x0',x1']) rfl ⟨_,_,_,by rw [HF2.out.1,HF2.out.2],put2x HEy.out HwH.out _ _,fun h=>absurd (HF2.out.1 ▸ h) (by decide)⟩
  obtain ⟨xn,rfl⟩:∃ xn:Nat,x=(xn:Int):=⟨x.toNat,by omega⟩;have HFF:=Lh ((HFs.out 0 0 (hs2 (by omega))).2 rfl);have HM':=Lh (show plM want ops 0 (bas xn) (List.replicate nb 0) 0=M from HM.out);have Hxn:=Lh (show xn<m by omega)
  have qz:(0:Int)<=(qn:Int):=by omega
  clear HM hs1 hs2 Hst HFs;have HOw:=Lh (HO.out.ext HX1.out);have HTw:=Lh (HT.out.ext HX1.out);have HFw:=Lh (HFt.out.ext HX1.out);have HCw:=Lh (HC.out.ext HX1.out);have Hnl:=Lh hnl;have Hlen:=Lh hlen;clear HO HT HFt HC x0' x1' g0' g1' HX1 HE0 hnl hlen
  go_upto_region 6 with fail
  generalize w1.alloc (.cells #[.int .i64 f0,.int .i64 f1] 31)=W1 at *;generalize w1.heap.size=FB at *;have HB:=Lh (Basis_any (Qc:=fun _=>True) qn xn W1 Hqn.out (by rw [Hm.out];exact Hxn.out) 8200 4100 (by decide) (fun _ _=>trivial));rw [Hm.out] at HB;clear q0 q1 hs
  go_wp2_with fail
  refine HB.out.mono ?_;rintro e w2 ⟨b0,rfl,hS2,_,hE2⟩;have HS2:=Lh hS2;have HE2:=Lh hE2;have bc:=HCw.out.ext hE2;clear v0 v1 v2 hS2 HB;have v1:=bc.x1;have v2:=bc.x2;clear hE2 bc
  go_wp2_with (refine wpList_make_irow w2 rfl _ _ rfl .i64 .i64 (nb:Int) (nb:Int) nb rfl rfl rfl rfl (by have:=Hnb.out;omega) ?_;intro w3 hR3 hE3 hl3)
  have HP3:=Lh (PlA.new HS2.out HE2.out hR3 hE3 (fun y=>bas_amp xn y));generalize w2.heap.size=g at *;clear HS2 hR3 hE3 hl3 v1 v2 HE2
  go_loopg [11,13,14,15,16] (n+1) (fun kk s11 s13 s14 _ _ wr=>∃ (i u b:Nat) (s:Nat->Nm) (bits:List Int),s11=.slice (some ⟨b,0,none⟩) m m/\s13=.int .i64 (u:Int)/\s14=.int .i64 (i:Int)/\PlA W1 wr g b m s bits i/\i<=n/\n+1-i=kk/\bits.length=nb/\u<=i/\u<=tn/\plM want (ops.drop i) i s bits u=M)
  case atStart=>exact ⟨0,0,b0,_,_,rfl,rfl,rfl,HP3.out,Nat.zero_le _,rfl,List.length_replicate,Nat.le_refl _,Nat.zero_le _,HM'.out⟩
  case round =>
   obtain ⟨i,u,b,s,bits,rfl,rfl,rfl,hp,hi,hk,hbl,hui,hut,hpl⟩:=hrel;have bc:=HCw.out.ext hp.ext;have v1:=bc.x1;have v2:=bc.x2;have v0:=bc.x0;have Hp:=Lh hp;have Hk:=Lh hk;have Hbl:=Lh hbl;have Hui:=Lh hui;have Hut:=Lh hut;have Hpl:=Lh hpl;clear bc hp hk hbl hui hut hpl HP3 HM' v1 v0
   by_cases hin:i=n
   ·have q1:¬ (i:Int)<(n:Int):=by omega
    have HMe:=Lh (show M=⟨(0,0),s,bits,u⟩ by
     rw [<-Hpl.out,List.drop_eq_nil_of_le (by have:=Hnl.out;omega)]
     rfl)
    have HF2:=Lh (show F0=0/\F1=0 by
     have:=HFF.out;rw [HMe.out] at this
     exact ⟨(congrArg Prod.fst this).symm,(congrArg Prod.snd this).symm⟩)
    have bz:=HFw.out.ext Hp.out.ext;have x0':=bz.x0;have x1':=bz.x1;have g0':=bz.f 0;have g1':=bz.f 1;have cg:ChZ (H+1) wr ((wr.setCell ⟨H+1,0,none⟩ (.int .i64 0)).setCell ⟨H+1,1,none⟩ (.int .i64 0)):=ChZ.of_only (((Only.refl (H+1) wr).setCell 0 _).setCell 1 _);have Hno:=Lh (show NoI wr (H+1) from ⟨_,_,_,bz.row,by decide⟩)
    have Hend:=Lh ((((Hp.out.base HEz.out).le (show i<=4096 by have:=Hn4.out;omega)).far cg Hno.out HwH.out (by have:=HFw.out.lt;have:=Hp.out.hg;omega) (by
     rintro rfl;obtain ⟨cs,h1,_⟩:=Hp.out.st.row;have h2:=bz.row;rw [h1] at h2;injection h2 with h2;injection h2 with _ h2 _
     exact absurd h2 (by decide))))
    clear cg bz hin hi
    go_wp2_with fail
    refine bodyPost_ret (v:=.tuple #[.slice (some ⟨b,0,none⟩) m m,.slice (some ⟨g,0,none⟩) nb nb,.int .i64 (u:Int),.agg #[.int .i64 0,.int .i64 0]]) (by simp [results,Tryz.results13,go_sem,x0',x1']) rfl ⟨_,_,_,by rw [HF2.out.1,HF2.out.2],Hend.out.ext,fun _=>⟨b,rfl,g,?_,?_,?_⟩⟩
    ·rw [HMe.out,<-Hbl.out]
    ·rw [HMe.out]
    ·rw [HMe.out];exact Hend.out
   have hlt:i<n:=by omega
   have q1:(i:Int)<(n:Int):=by omega
   have q0:(0:Int)<=(i:Int):=by omega
   have wk:IntKind.i64.wrap ((i:Int)+1)=((i+1:Nat):Int):=by rw [IntKind.wrap_i64];have:=Hn4.out;omega
   have hil:i<ops.length:=by have:=Hnl.out;omega
   obtain ⟨o,ho⟩:∃ o,ops[i]?=some o:=⟨_,List.getElem?_eq_getElem hil⟩
   have hdr:ops.drop i=o :: ops.drop (i+1):=by
    rw [List.drop_eq_getElem_cons hil,(List.getElem?_eq_some_iff.1 ho).2]
   have Hpo:=Lh (show plM want (o :: ops.drop (i+1)) i s bits u=M by rw [<-hdr];exact Hpl.out);obtain ⟨bo,oo,rfl⟩:=HOw.out.some_of (by omega);obtain ⟨a1,n1,c1,a2,n2,c2,e0,e1,e2,e3,e4,e5,hL⟩:=((HOw.out.ext Hp.out.ext).at i o ho);have hft:=Hfit.out o (List.mem_of_getElem? ho);obtain ⟨kd,k,ctl,q,bt,cnd⟩:=o;simp only at e0 e1 e2 e3 e4 e5;have Hft:=Lh hft;have HL:=Lh hL;have Hlt:=Lh hlt;have Ea:=ext_al wr (.cells #[.int .i64 kd,.int .i64 k,.slice a1 n1 c1,.int .i64 q,.int .i64 bt,.slice a2 n2 c2] 60);have bO:=opbx_new wr kd k a1 n1 c1 q bt a2 n2 c2;have HEa:=Lh Ea;have HbO:=Lh bO;have p0:=bO.x0;have p1:=bO.x1;have p2:=bO.x2;have p3:=bO.x3;have p4:=bO.x4;have p5:=bO.x5;clear hft hL hlt hdr ho hil hin hi Hpl bO Ea
   go_upto_region 13 with fail
   generalize wr.alloc (.cells #[.int .i64 kd,.int .i64 k,.slice a1 n1 c1,.int .i64 q,.int .i64 bt,.slice a2 n2 c2] 60)=w5 at *;generalize wr.heap.size=OB at *;have HQ:=Lh (Qcondition_any kd k q bt a1 a2 (some ⟨g,0,none⟩) n1 c1 n2 c2 nb nb cnd bits w5 (HL.out.i2.ext HEa.out) ((Hp.out.ints Hbl.out).ext HEa.out) HL.out.h2 HL.out.m2 (by have:=Hft.out.few;have h2:=HL.out.i2.1;simp only at this h2;omega) Hnb.out Hft.out.cnd);obtain ⟨B,hB⟩:∃ B,cnM bits cnd=B:=⟨_,rfl⟩;rw [hB] at HQ;have HBB:=Lh hB;clear hB e0 e1 e2 e3 e4 e5 v2
   go_wp2_with fail
   refine HQ.out.mono ?_;rintro e w6 ⟨rfl,hx6⟩;have Hp6:=Lh (Hp.out.ext' (HEa.out.trans hx6));have HL6:=Lh (HL.out.ext (HEa.out.trans hx6));have b6:=HbO.out.ext hx6;clear p0 p1 p2 p3 p4 p5;have p0:=b6.x0;have p1:=b6.x1;have p2:=b6.x2;have p3:=b6.x3;have p4:=b6.x4;have p5:=b6.x5;have Hb6:=Lh b6;clear b6 hx6 HQ Hp HL HEa HbO
   cases B with
   | false =>
    have Hpn:=Lh (Hpo.out.symm.trans (plM_skip HBB.out)).symm;clear p0 p1 p2 p3 p4 p5
    go_wp2_with fail
    go_roundg (n+1-(i+1))
    case measure=>have:=Hk.out;have:=Hlt.out;omega
    case rel=>exact ⟨i+1,u,b,s,bits,rfl,rfl,rfl,Hp6.out.le (Nat.le_succ _),Hlt.out,rfl,Hbl.out,by have:=Hui.out;omega,Hut.out,Hpn.out⟩
   | true =>
    have hct:∀ c ∈ ctl,0<=c/\c<=60:=fun c hc=>by have:=Hft.out.ctl c hc;have:=Hqn.out;omega
    have hq12:=Hft.out.q;simp only at hq12;obtain ⟨qv,rfl⟩:∃ qv:Nat,q=(qv:Int):=⟨q.toNat,by omega⟩;have Hqv:=Lh (show qv<qn by omega)
    have hne:∀ c ∈ ctl,c.toNat≠((qv:Nat):Int).toNat:=fun c hc e=>by
     have h1:=Hft.out.ne c hc;have h2:=hct c hc;simp only at h1;omega
    have HGt:=Lh (QGate_any (Qc:=fun k=>k≠g) ⟨kd,k,ctl,(qv:Int),bt,cnd⟩ s qn m i b m a1 a2 n1 c1 n2 c2 8200 4100 w6 Hp6.out.st Hp6.out.amp Hm.out Hqn.out (by simp) (by simpa using Hqv.out) HL6.out.i1 HL6.out.h1 HL6.out.m1 hct hne (by have:=Hlt.out;have:=Hn4.out;omega) (by decide) (by have:=Hlt.out;have:=Hn4.out;omega) (by decide) Hp6.out.lim);simp only at HGt;clear hq12 hct hne
    by_cases hk5:kd<5
    ·have Hpn:=Lh (Hpo.out.symm.trans (plM_gate HBB.out hk5)).symm
     go_wp2_with fail
     refine HGt.out.mono ?_;rintro e w7 ⟨b7,rfl,hS7,_,hx7⟩;have H7:=Lh (Hp6.out.to hx7 hS7 (gt_amp Hp6.out.amp));clear hS7 hx7 HGt p0 p1 p2 p3 p4 p5
     go_wp2_with fail
     go_roundg (n+1-(i+1))
     case measure=>have:=Hk.out;have:=Hlt.out;omega
     case rel=>exact ⟨i+1,u,b7,_,bits,rfl,rfl,rfl,H7.out,Hlt.out,rfl,Hbl.out,by have:=Hui.out;omega,Hut.out,Hpn.out⟩
    have Hk5:=Lh hk5;clear HGt p1 p2;have Hwl:=Lh (show want.length=tn from HTw.out.1)
    by_cases hu:u=tn
    ·have HMe:=Lh (Hpo.out.symm.trans (plM_out HBB.out hk5 (by rw [Hwl.out];exact hu)))
     have HF2:=Lh (show F0=19/\F1=(i:Int) by
      have:=HFF.out;rw [HMe.out] at this
      exact ⟨(congrArg Prod.fst this).symm,(congrArg Prod.snd this).symm⟩)
     have bq:((u:Int) == (tn:Int))=true:=by simp [hu]
     have Hz:=Lh (HFw.out.ext Hp6.out.ext);have HE6:=Lh (HEz.out.trans Hp6.out.ext);clear hu
     go_wp2_with fail
     refine (rfault_any 19 (i:Int) _).mono ?_;rintro e wz ⟨rfl,hxz⟩;have bz:=Hz.out.ext hxz;have x0':=bz.x0;have x1':=bz.x1;have g0':=bz.f 0;have g1':=bz.f 1;have HEy:=Lh (HE6.out.trans hxz);clear bz hxz p0 p3 p4 p5
     go_wp2_with fail
     exact bodyPost_ret (v:=.tuple #[.slice none 0 0,.slice none 0 0,.int .i64 0,.agg #[.int .i64 19,.int .i64 (i:Int)]]) (by simp [results,Tryz.results13,go_sem,x0',x1']) rfl ⟨_,_,_,by rw [HF2.out.1,HF2.out.2],put2x HEy.out HwH.out _ _,fun h=>absurd (HF2.out.1 ▸ h) (by decide)⟩
    have hlt2:u<tn:=by have:=Hut.out;omega
    obtain ⟨tb,to',hta,htb,htc⟩:=HTw.out.2.resolve_left (by omega);subst hta;obtain ⟨v,hv⟩:∃ v,want.getD u 0=v:=⟨_,rfl⟩;have y0:=htc u hlt2;rw [hv] at y0;have y3:=cellKeep Hp6.out.ext (World.block_lt_of_cell? W1 ⟨tb,to'+u,none⟩ y0) y0
    have bq:((u:Int) == (tn:Int))=false:=by simp;omega
    have u0:(0:Int)<=(u:Int):=by omega
    have u1:(u:Int)<(tn:Int):=by omega
    have wu:IntKind.i64.wrap ((u:Int)+1)=((u+1:Nat):Int):=by rw [IntKind.wrap_i64];have:=Hn4.out;have:=Hui.out;have:=Hlt.out;omega
    have Hv:=Lh hv;have Hune:=Lh hu;have Hlt2:=Lh hlt2;clear htb htc hu hlt2 hv y0
    by_cases hvb:v≠0/\v≠1
    ·have HMe:=Lh (Hpo.out.symm.trans (plM_bad HBB.out hk5 (by rw [Hwl.out];exact Hune.out) Hv.out hvb))
     have HF2:=Lh (show F0=20/\F1=(i:Int) by
      have:=HFF.out;rw [HMe.out] at this
      exact ⟨(congrArg Prod.fst this).symm,(congrArg Prod.snd this).symm⟩)
     have kn0:(v != 0)=true:=by simp;omega
     have kn1:(v != 1)=true:=by simp;omega
     have Hz:=Lh (HFw.out.ext Hp6.out.ext);have HE6:=Lh (HEz.out.trans Hp6.out.ext);clear hvb
     go_wp2_with fail
     refine (rfault_any 20 (i:Int) _).mono ?_;rintro e wz ⟨rfl,hxz⟩;have bz:=Hz.out.ext hxz;have x0':=bz.x0;have x1':=bz.x1;have g0':=bz.f 0;have g1':=bz.f 1;have HEy:=Lh (HE6.out.trans hxz);clear bz hxz p0 p3 p4 p5 y3
     go_wp2_with fail
     exact bodyPost_ret (v:=.tuple #[.slice none 0 0,.slice none 0 0,.int .i64 0,.agg #[.int .i64 20,.int .i64 (i:Int)]]) (by simp [results,Tryz.results13,go_sem,x0',x1']) rfl ⟨_,_,_,by rw [HF2.out.1,HF2.out.2],put2x HEy.out HwH.out _ _,fun h=>absurd (HF2.out.1 ▸ h) (by decide)⟩
    have hv01:v=0\/v=1:=by omega
    have HOu:=Lh (QOutcome_any (Qc:=fun k=>k≠g) s m b m qv v 8200 4100 w6 Hp6.out.st (by rw [<-Hm.out];exact Nat.le_trans (Nat.pow_le_pow_right (by decide) Hqn.out) (by decide)) (by have:=Hqv.out;have:=Hqn.out;omega));have Hoa:=Lh (oc_amp (q:=(qv:Int)) (b:=v) Hp6.out.amp);have Hlim:=Lh Hp6.out.lim
    by_cases h5:kd=5
    ·have hbb:=Hft.out.bit h5
     simp only at hbb;obtain ⟨bn,rfl⟩:∃ bn:Nat,bt=(bn:Int):=⟨bt.toNat,by omega⟩;have Hbn:=Lh (show bn<bits.length by rw [Hbl.out];omega);have Hpn:=Lh (Hpo.out.symm.trans (plM_bit HBB.out h5 (by rw [Hwl.out];exact Hune.out) Hv.out hv01)).symm
     have z0:(0:Int)<=(bn:Int):=by omega
     have z1:(bn:Int)<(nb:Int):=by omega
     have bk:(kd == 5)=true:=by simp [h5]
     have dk:¬ kd<5:=by omega
     clear hbb h5
     rcases hv01 with rfl | rfl
     all_goals
      clear hvb
      go_wp2_with fail
      refine HOu.out.mono ?_;rintro e w7 ⟨b7,rfl,hS7,_,hx7⟩;have H7:=Lh (Hp6.out.to hx7 hS7 Hoa.out);have b7:=Hb6.out.ext hx7;clear hS7 hx7 HOu p0 p3 p4 p5 y3;have p0:=b7.x0;have p4:=b7.x4;have t0:=H7.out.cell Hbn.out;have t1:=H7.out.fr bn;clear b7
      go_wp2_with fail
      go_roundg (n+1-(i+1))
      case measure=>have:=Hk.out;have:=Hlt.out;omega
      case rel=>exact ⟨i+1,u+1,_,_,_,rfl,rfl,rfl,(H7.out.put bn _).le (Nat.le_succ _),Hlt.out,rfl,by rw [List.length_set];exact Hbl.out,by have:=Hui.out;omega,Hlt2.out,Hpn.out⟩
    have bk:(kd == 5)=false:=by simpa using h5
    rcases hv01 with rfl | rfl
    ·have Hpn:=Lh (Hpo.out.symm.trans (plM_nought HBB.out hk5 h5 (by rw [Hwl.out];exact Hune.out) Hv.out)).symm
     clear hvb h5
     go_wp2_with fail
     refine HOu.out.mono ?_;rintro e w7 ⟨b7,rfl,hS7,_,hx7⟩;have H7:=Lh (Hp6.out.to hx7 hS7 Hoa.out);have o7:=Hb6.out.ext hx7;clear hS7 hx7 HOu p0 p3 p4 p5 y3;have p0:=o7.x0;clear o7
     go_wp2_with fail
     go_roundg (n+1-(i+1))
     case measure=>have:=Hk.out;have:=Hlt.out;omega
     case rel=>exact ⟨i+1,u+1,b7,_,bits,rfl,rfl,rfl,H7.out.le (Nat.le_succ _),Hlt.out,rfl,Hbl.out,by have:=Hui.out;omega,Hlt2.out,Hpn.out⟩
    ·have Hpn:=Lh (Hpo.out.symm.trans (plM_one HBB.out hk5 h5 (by rw [Hwl.out];exact Hune.out) Hv.out)).symm
     clear hvb h5
     go_wp2_with fail
     refine HOu.out.mono ?_;rintro e w7 ⟨b7,rfl,hS7,_,hx7⟩;have H7:=Lh (Hp6.out.to hx7 hS7 Hoa.out);have o7:=Hb6.out.ext hx7;clear hS7 hx7 HOu p0 p3 p4 p5 y3;have p0:=o7.x0;have p3:=o7.x3;clear o7;have HG7:=Lh (QGate_any (Qc:=fun k=>k≠g) (xOp (qv:Int)) (oc (qv:Int) 1 s) qn m i b7 m none none 0 0 0 0 8200 4100 w7 H7.out.st H7.out.amp Hm.out Hqn.out (show (0:Int)<=(qv:Int) by omega) (by show ((qv:Nat):Int).toNat<qn;simpa using Hqv.out) ⟨rfl,Or.inl rfl⟩ (Nat.le_refl _) (by decide) (fun c hc=>by simp [xOp] at hc) (fun c hc=>by simp [xOp] at hc) (by have:=Hlt.out;have:=Hn4.out;omega) (by decide) (by have:=Hlt.out;have:=Hn4.out;omega) (by decide) H7.out.lim);simp only [xOp] at HG7
     go_wp2_with fail
     refine HG7.out.mono ?_;rintro e w8 ⟨b8,rfl,hS8,_,hx8⟩;have H8:=Lh (H7.out.to hx8 hS8 (gt_amp H7.out.amp));clear hS8 hx8 HG7 p0 p3
     go_wp2_with fail
     go_roundg (n+1-(i+1))
     case measure=>have:=Hk.out;have:=Hlt.out;omega
     case rel=>exact ⟨i+1,u+1,b8,_,bits,rfl,rfl,rfl,H8.out,Hlt.out,rfl,Hbl.out,by have:=Hui.out;omega,Hlt2.out,Hpn.out⟩
 ·have hcb:=nt hc0
  have HFF:=Lh ((HFs.out f0 f1 (Hst.out.1 hc0)).1 hc0);have Hc0:=Lh hc0;clear hc0 Hz Hst HFs Hm0
  go_upto_region 3 with fail
  go_region
  go_wp2_with fail
  exact bodyPost_ret (v:=.tuple #[.slice none 0 0,.slice none 0 0,.int .i64 0,.agg #[.int .i64 f0,.int .i64 f1]]) (by simp [results,Tryz.results13,go_sem,x0',x1']) rfl ⟨_,_,_,by rw [HFF.out.1,HFF.out.2],Below.drew (put2x HEz.out HwH.out _ _),fun h=>absurd (HFF.out.1 ▸ h) Hc0.out⟩
variable {Qc:Nat->Prop}
open Go.RowKit
theorem str_append (a b:List UInt8):(⟨a.toArray⟩:ByteArray)++(⟨b.toArray⟩:ByteArray)=⟨(a++b).toArray⟩:=by
 apply ByteArray.ext
 simp [ByteArray.data_append]
theorem ISeg.blt {w:World} {b o:Nat} {l:List Nat} (h:ISeg w (some ⟨b,o,none⟩) l):b<w.heap.size:=by
 rcases h with ⟨h,_⟩ | ⟨b',o',h,hb,_⟩
 ·cases h
 ·simp only [Option.some.injEq,Addr.mk.injEq,and_true] at h
  obtain ⟨rfl,rfl⟩:=h;exact hb.lt
theorem ztx_len {l:List Nat} (hd:ZD l) (k:Nat):(ztx l k).length<=4*l.length+1:=by
 unfold ztx
 split
 ·simp
 ·rw [Lib.decDigits_length]
  have h1:zval (l.drop k)<10000 ^ (l.drop k).length:=zval_lt (fun x hx=>hd x (List.mem_of_mem_drop hx));rw [List.length_drop] at h1
  have h2:(10000:Nat) ^ (l.length-k)<=10 ^ (4*l.length+1):=by
   rw [show (10000:Nat)=10 ^ 4 by decide,<-Nat.pow_mul];exact Nat.pow_le_pow_right (by decide) (by omega)
  exact nDigits_le _ _ (by omega) (by omega)
theorem conv_tail (W:World) (G f m:Nat) (l:List UInt8) (hl:l.length=m) (h:∀ j,(hj:j<l.length)->W.cell? ⟨G,f+j,none⟩=some (.int .u8 (l[j].toNat:Int))):(convert 108 9 (.slice (some ⟨G,f,none⟩) m m)).run Tryz.prog W=.ok (.string ⟨l.toArray⟩) W:=by
 subst hl;refine run_convert_bytes_back (P:=Tryz.prog) W 108 9 5 ⟨G,f,none⟩ l.length l Tryz.underlying108 Tryz.underlying5 Tryz.underlying9 (fun j hj=>?_);rw [Lib.add_plain];exact h j hj
theorem four_conv {W:World} {G B3 B2 B1 B0:Nat} (k3:W.cell? ⟨G,0,none⟩=some (.int .u8 B3)) (k2:W.cell? ⟨G,1,none⟩=some (.int .u8 B2)) (k1:W.cell? ⟨G,2,none⟩=some (.int .u8 B1)) (k0:W.cell? ⟨G,3,none⟩=some (.int .u8 B0)) (hB:B3<256/\B2<256/\B1<256/\B0<256) :
  (∀ t,t<4->W.cell? ⟨G,t,none⟩=some (.int .u8 (([UInt8.ofNat B3,UInt8.ofNat B2,UInt8.ofNat B1,UInt8.ofNat B0].getD t 0).toNat:Int))) /\
  ∀ f,f<=3->(convert 108 9 (.slice (some ⟨G,f,none⟩) (4-f) (4-f))).run Tryz.prog W=.ok (.string ⟨([UInt8.ofNat B3,UInt8.ofNat B2,UInt8.ofNat B1,UInt8.ofNat B0].drop f).toArray⟩) W:=by
 have e:∀ B:Nat,B<256->((UInt8.ofNat B).toNat:Int)=(B:Int):=by
  intro B h
  have:(UInt8.ofNat B).toNat=B:=by rw [UInt8.toNat_ofNat'];omega
  rw [this]
 have hc:∀ t,t<4->W.cell? ⟨G,t,none⟩=some (.int .u8 (([UInt8.ofNat B3,UInt8.ofNat B2,UInt8.ofNat B1,UInt8.ofNat B0].getD t 0).toNat:Int)):=by
  intro t ht
  match t,ht with
  | 0,_=>rw [k3];show _=some (Value.int .u8 ((UInt8.ofNat B3).toNat:Int));rw [e _ hB.1]
  | 1,_=>rw [k2];show _=some (Value.int .u8 ((UInt8.ofNat B2).toNat:Int));rw [e _ hB.2.1]
  | 2,_=>rw [k1];show _=some (Value.int .u8 ((UInt8.ofNat B1).toNat:Int));rw [e _ hB.2.2.1]
  | 3,_=>rw [k0];show _=some (Value.int .u8 ((UInt8.ofNat B0).toNat:Int));rw [e _ hB.2.2.2]
  | k+4,h=>omega
 refine ⟨hc,fun f hf=>?_⟩;refine conv_tail W G f (4-f) _ (by rw [List.length_drop];rfl) (fun j hj=>?_);rw [List.length_drop] at hj;have h4:[UInt8.ofNat B3,UInt8.ofNat B2,UInt8.ofNat B1,UInt8.ofNat B0].length=4:=rfl;rw [hc (f+j) (by omega)];rw [List.getElem_drop,List.getD_eq_getElem?_getD,List.getElem?_eq_getElem (by omega)]
 rfl
theorem four_cells (w:World) (u0 u1 u2 u3:Value) (e:TypeId):(w.alloc (.cells #[u0,u1,u2,u3] e)).cell? ⟨w.heap.size,0,none⟩=some u0/\(w.alloc (.cells #[u0,u1,u2,u3] e)).cell? ⟨w.heap.size,1,none⟩=some u1/\(w.alloc (.cells #[u0,u1,u2,u3] e)).cell? ⟨w.heap.size,2,none⟩=some u2/\(w.alloc (.cells #[u0,u1,u2,u3] e)).cell? ⟨w.heap.size,3,none⟩=some u3:=by
 refine ⟨?_,?_,?_,?_⟩<;>(rw [World.cell?_alloc_new];rfl)
theorem ZText_any (neg:Bool) (ao:Option Addr) (n c:Nat) (z:Int) (w:World) (h:IsZ Qc w neg ao n c z) (hn:n<=1000000) :
  Calls Tryz.prog 35 #[.agg #[.bool neg,.slice ao n c]] w fun e w'=>e=.returned (.string ⟨(Lib.itoa z).toArray⟩)/\Ext w w':=by
 obtain ⟨l,h1,h2,h3,h4,h5,h6,h7,h8⟩:=h;have hE:=ext_alloc w (.cells #[.bool neg,.slice ao n c] 45);have bA:=zbx_new w neg ao n c;have x0:=bA.c0;have x1:=bA.c1
 by_cases h0:n=0
 ·have hl:l=[]:=List.eq_nil_of_length_eq_zero (by omega)
  have hz:z=0:=by rw [h7,hl];simp [zval]
  have Ht:Hid (Lib.itoa z=[48]):=by show _=_;rw [hz];unfold Lib.itoa;rw [if_neg (by omega),Lib.decDigits];simp
  subst h0;clear h7 h1 h2 h3 h4 h5 h6 h8 hl hz x0
  go_enter Tryz.func35,Tryz.ntmps35
  go_wp2_with fail
  go_ret
  exact ⟨by rw [Ht.out];rfl,hE⟩
 ·have hl:l≠[]:=by intro e;subst e;simp at h1;omega
  have hb:((n:Int) == 0)=false:=by rw [beq_eq_false_iff_ne];omega
  obtain ⟨b,o,rfl⟩:=h4.some_of (by omega)
  have Hz:Hid (Lib.itoa z=(if neg then [45] else [])++ztx l 0):=by
   show _=_
   rw [ztx_all hl,h7]
   have hv:0<zval l:=by
    apply Nat.pos_of_ne_zero
    intro e;exact hl ((zval_zero h6).1 e)
   unfold Lib.itoa
   cases neg
   ·rw [if_neg (by simp)];simp
   ·rw [if_pos (by simp;omega)];simp
  obtain ⟨sg,hsg⟩:∃ sg:List UInt8,(if neg then [45] else [])=sg:=⟨_,rfl⟩;rw [hsg] at Hz;have H1:=Lh h1;have H4:=Lh h4;have H5:=Lh h5;have H6:=Lh h6;have Hl:=Lh hl;clear h1 h4 h5 h6 h7 h8 h2 h3 hl
  cases neg
  ·have Hsg:=Lh hsg
   clear hsg
   go_enter Tryz.func35,Tryz.ntmps35
   go_wp2_with fail
   generalize w.alloc (.cells #[.bool false,.slice (some ⟨b,o,none⟩) n c] 45)=W0 at *
   go_loopw [3,4] (fun tv iv wr=>∃ k:Nat,k<=n/\iv=.int .i64 ((k:Int)-1)/\tv=.string ⟨(sg++ztx l k).toArray⟩/\Ext W0 wr) (fun _ iv _=>(intOf iv+1).toNat)
   case atStart=>exact ⟨n,Nat.le_refl _,by go_num,by have:=ztx_end l;rw [H1.out] at this;rw [this,<-Hsg.out];rfl,Ext.refl _⟩
   case round =>
    obtain ⟨k,hk,rfl,rfl,hEr⟩:=hrel;have HEr:=Lh hEr;have d1:=zKeep hEr bA.lt x1;clear hEr;obtain ⟨tl,htl⟩:∃ tl,sg++ztx l k=tl:=⟨_,rfl⟩;rw [htl]
    have htl8:tl.length<=4000010:=by
     have h1:=ztx_len H5.out k
     have h2:sg.length<=1:=by rw [<-Hsg.out];decide
     rw [H1.out] at h1;rw [<-htl,List.length_append];omega
    have Htl:=Lh htl;clear htl
    by_cases hk0:k=0
    ·subst hk0
     go_wp2_with fail
     go_ret
     exact ⟨by rw [Hz.out,Htl.out];rfl,hE.trans HEr.out⟩
    ·obtain ⟨j,rfl⟩:∃ j,k=j+1:=⟨k-1,by omega⟩
     have ec:(((j+1:Nat):Int)-1)=(j:Int):=by omega
     have ij:(j:Int)<(n:Int):=by omega
     rw [ec];have hcl:=(H4.out.ext (hE.trans HEr.out)).at j (by rw [H1.out];omega);obtain ⟨x,hx⟩:∃ x,l.getD j 0=x:=⟨_,rfl⟩
     have hx4:x<10000:=by rw [<-hx];exact H5.out.get j
     rw [hx] at hcl;have Hx:=Lh hx;obtain ⟨q3,g3⟩:∃ q,x / 1000=q:=⟨_,rfl⟩;obtain ⟨q2,g2⟩:∃ q,x / 100=q:=⟨_,rfl⟩;obtain ⟨r2,e2⟩:∃ q,q2 % 10=q:=⟨_,rfl⟩;obtain ⟨q1,g1⟩:∃ q,x / 10=q:=⟨_,rfl⟩;obtain ⟨r1,e1⟩:∃ q,q1 % 10=q:=⟨_,rfl⟩;obtain ⟨r0,e0⟩:∃ q,x % 10=q:=⟨_,rfl⟩
     have t3:(x:Int).tdiv 1000=(q3:Int):=by rw [Int.tdiv_eq_ediv_of_nonneg (by omega)];omega
     have t2:(x:Int).tdiv 100=(q2:Int):=by rw [Int.tdiv_eq_ediv_of_nonneg (by omega)];omega
     have t1:(x:Int).tdiv 10=(q1:Int):=by rw [Int.tdiv_eq_ediv_of_nonneg (by omega)];omega
     have m2:(q2:Int).tmod 10=(r2:Int):=by rw [Int.tmod_eq_emod_of_nonneg (by omega)];omega
     have m1:(q1:Int).tmod 10=(r1:Int):=by rw [Int.tmod_eq_emod_of_nonneg (by omega)];omega
     have m0:(x:Int).tmod 10=(r0:Int):=by rw [Int.tmod_eq_emod_of_nonneg (by omega)];omega
     have b3:q3<=9:=by omega
     have b2:r2<=9:=by omega
     have b1:r1<=9:=by omega
     have b0:r0<=9:=by omega
     obtain ⟨B3,hB3⟩:∃ B,48+q3=B:=⟨_,rfl⟩;obtain ⟨B2,hB2⟩:∃ B,48+r2=B:=⟨_,rfl⟩;obtain ⟨B1,hB1⟩:∃ B,48+r1=B:=⟨_,rfl⟩;obtain ⟨B0,hB0⟩:∃ B,48+r0=B:=⟨_,rfl⟩
     have v3:IntKind.i64.wrap (q3:Int)=(q3:Int):=by rw [IntKind.wrap_i64];omega
     have v2:IntKind.i64.wrap (q2:Int)=(q2:Int):=by rw [IntKind.wrap_i64];omega
     have v1:IntKind.i64.wrap (q1:Int)=(q1:Int):=by rw [IntKind.wrap_i64];omega
     have s3:IntKind.i64.wrap (48+(q3:Int))=(B3:Int):=by rw [IntKind.wrap_i64];omega
     have s2:IntKind.i64.wrap (48+(r2:Int))=(B2:Int):=by rw [IntKind.wrap_i64];omega
     have s1:IntKind.i64.wrap (48+(r1:Int))=(B1:Int):=by rw [IntKind.wrap_i64];omega
     have s0:IntKind.i64.wrap (48+(r0:Int))=(B0:Int):=by rw [IntKind.wrap_i64];omega
     have y3:IntKind.u8.wrap (B3:Int)=(B3:Int):=by rw [IntKind.wrap_u8];omega
     have y2:IntKind.u8.wrap (B2:Int)=(B2:Int):=by rw [IntKind.wrap_u8];omega
     have y1:IntKind.u8.wrap (B1:Int)=(B1:Int):=by rw [IntKind.wrap_u8];omega
     have y0:IntKind.u8.wrap (B0:Int)=(B0:Int):=by rw [IntKind.wrap_u8];omega
     have Hpad:Hid (padD 4 x=[UInt8.ofNat B3,UInt8.ofNat B2,UInt8.ofNat B1,UInt8.ofNat B0]):=by
      show _=_
      rw [padD_four x hx4,g3,g2,e2,g1,e1,e0,hB3,hB2,hB1,hB0]
     have z3:B3<256:=by omega
     have z2:B2<256:=by omega
     have z1:B1<256:=by omega
     have z0:B0<256:=by omega
     have HB:=Lh (And.intro z3 (And.intro z2 (And.intro z1 z0)));clear hx g3 g2 e2 g1 e1 e0 hk0 hB3 hB2 hB1 hB0 z3 z2 z1 z0;have hrd:Ext wr wr.drew:=Below.drew (Ext.refl _);have lB:=Nat.lt_of_lt_of_le bA.lt HEr.out.size;have lb:=(H4.out.ext (hE.trans HEr.out)).blt
     go_wp2_with fail
     go_region_held3 (fun w'=>w'.cell? ⟨w.heap.size,1,none⟩=some (.slice (some ⟨b,o,none⟩) n c)/\w'.cell? ⟨b,o+j,none⟩=some (.int .i64 (x:Nat)))
      (first | exact ⟨zKeep (W:=wr) (by assumption) lB d1,zKeep (W:=wr) (by assumption) lb hcl⟩ | exact ⟨zKeep (W:=wr) (hrd.trans (ext_alloc _ _)) lB d1,zKeep (W:=wr) (hrd.trans (ext_alloc _ _)) lb hcl⟩)
      (first | fail)
     have hx2:Ext wr (wr.alloc (.cells #[.int .u8 B3,.int .u8 B2,.int .u8 B1,.int .u8 B0] 5)).drew:=Below.drew (ext_alloc wr _);have d5:=zKeep hx2 lB d1;have HE2:=Lh (HEr.out.trans hx2);obtain ⟨k3,k2,k1,k0⟩:=four_cells wr (.int .u8 B3) (.int .u8 B2) (.int .u8 B1) (.int .u8 B0) 5;have hdd:Ext (wr.alloc (.cells #[.int .u8 B3,.int .u8 B2,.int .u8 B1,.int .u8 B0] 5)) (wr.alloc (.cells #[.int .u8 B3,.int .u8 B2,.int .u8 B1,.int .u8 B0] 5)).drew:=Below.drew (Ext.refl _)
     have lG:wr.heap.size<(wr.alloc (.cells #[.int .u8 B3,.int .u8 B2,.int .u8 B1,.int .u8 B0] 5)).heap.size:=by simp
     have k3:=zKeep hdd lG k3;have k2:=zKeep hdd lG k2;have k1:=zKeep hdd lG k1;have k0:=zKeep hdd lG k0;clear d1 hcl hrd lB lb hdd lG hx2 t3 t2 t1 m2 m1 m0 b3 b2 b1 b0 v3 v2 v1 s3 s2 s1 s0 y3 y2 y1 y0
     go_wp2_with fail
     generalize (wr.alloc (.cells #[.int .u8 B3,.int .u8 B2,.int .u8 B1,.int .u8 B0] 5)).drew=W2 at *;generalize wr.heap.size=G at *;obtain ⟨hcell,hconv⟩:=four_conv k3 k2 k1 k0 HB.out;have Hcell:=Lh hcell;have Hconv:=Lh hconv;clear hcell hconv k3 k2 k1 k0 HB;obtain ⟨bl,hbl⟩:∃ bl,[UInt8.ofNat B3,UInt8.ofNat B2,UInt8.ofNat B1,UInt8.ofNat B0]=bl:=⟨_,rfl⟩
     have hbl4:bl.length<=4:=by rw [<-hbl];exact Nat.le_refl _
     rw [hbl] at Hcell Hconv Hpad;clear hbl
     by_cases hfirst:j+1=n
     ·have hx0:0<x:=by
       have h6:=H6.out.resolve_left Hl.out;rw [H1.out,<-hfirst,Nat.add_sub_cancel,Hx.out] at h6;omega
      obtain ⟨f,hf3,hall,hne,hdec⟩:=dec_first x hx4 hx0;rw [Hpad.out] at hall hne hdec;have Hall:=Lh hall;have Hne:=Lh hne
      have Hfin:Hid (tl++bl.drop f=sg++ztx l j):=by
       show _=_
       rw [ztx_first (by rw [H1.out];exact hfirst.symm) Hx.out,hdec,<-Htl.out,hfirst];have:=ztx_end l;rw [H1.out] at this;rw [this,List.append_nil]
      have ej:((j:Int) == (n:Int)-1)=true:=by rw [beq_iff_eq];omega
      clear hall hne hdec hfirst hx0 Htl
      go_loop [6] (fun v=>∃ k:Nat,k<=f/\v=.int .i64 k) (fun v=>f-(intOf v).toNat)
      case atStart=>exact ⟨0,Nat.zero_le _,rfl⟩
      case round =>
       obtain ⟨k,hk,rfl⟩:=hrel
       by_cases hkf:k<f
       ·have hc:W2.cell? ⟨G,k,none⟩=some (.int .u8 48):=by
         rw [Hcell.out k (by omega),Hall.out k hkf];rfl
        have ik:(k:Int)<3:=by omega
        go_wp2_with fail
        go_round
        case rel=>exact ⟨k+1,by omega,by go_num⟩
        case measure=>simp [intOf];omega
       ·obtain rfl:k=f:=by omega
        have hcv:=Hconv.out k hf3
        by_cases hk3:k=3
        ·subst hk3
         go_wp2_with fail
         go_roundw
         case rel=>exact ⟨j,by omega,by go_num,by rw [str_append,Hfin.out],HE2.out⟩
         case measure=>simp [intOf]
        ·have ik:(k:Int)<3:=by omega
         obtain ⟨q,hq,hc⟩:∃ q:Nat,((q:Int) == 48)=false/\W2.cell? ⟨G,k,none⟩=some (.int .u8 (q:Nat)):=by
          refine ⟨(bl.getD k 0).toNat,?_,Hcell.out k (by omega)⟩;rw [beq_eq_false_iff_ne];intro hc;exact Hne.out (UInt8.toNat_inj.1 (by have:(48:UInt8).toNat=48:=rfl;rw [this];omega))
         go_wp2_with fail
         go_roundw
         case rel=>exact ⟨j,by omega,by go_num,by rw [str_append,Hfin.out],HE2.out⟩
         case measure=>simp [intOf]
     ·have ej:((j:Int) == (n:Int)-1)=false:=by rw [beq_eq_false_iff_ne];omega
      have Hfin:Hid (tl++bl=sg++ztx l j):=by
       show _=_
       rw [ztx_next H6.out (by rw [H1.out];omega) Hx.out hx4,Hpad.out,<-Htl.out,List.append_assoc]
      have hcv:=Hconv.out 0 (by omega);rw [List.drop_zero] at hcv;clear hfirst Htl
      go_loop [6] (fun v=>v=.int .i64 0) (fun v=>0)
      case atStart=>rfl
      case round =>
       subst hrel
       go_wp2_with fail
       go_roundw
       case rel=>exact ⟨j,by omega,by go_num,by rw [str_append,Hfin.out],HE2.out⟩
       case measure=>simp [intOf]
  ·have Hsg:=Lh hsg
   clear hsg
   go_enter Tryz.func35,Tryz.ntmps35
   go_wp2_with fail
   generalize w.alloc (.cells #[.bool true,.slice (some ⟨b,o,none⟩) n c] 45)=W0 at *
   go_loopw [3,4] (fun tv iv wr=>∃ k:Nat,k<=n/\iv=.int .i64 ((k:Int)-1)/\tv=.string ⟨(sg++ztx l k).toArray⟩/\Ext W0 wr) (fun _ iv _=>(intOf iv+1).toNat)
   case atStart=>exact ⟨n,Nat.le_refl _,by go_num,by have:=ztx_end l;rw [H1.out] at this;rw [this,<-Hsg.out];rfl,Ext.refl _⟩
   case round =>
    obtain ⟨k,hk,rfl,rfl,hEr⟩:=hrel;have HEr:=Lh hEr;have d1:=zKeep hEr bA.lt x1;clear hEr;obtain ⟨tl,htl⟩:∃ tl,sg++ztx l k=tl:=⟨_,rfl⟩;rw [htl]
    have htl8:tl.length<=4000010:=by
     have h1:=ztx_len H5.out k
     have h2:sg.length<=1:=by rw [<-Hsg.out];decide
     rw [H1.out] at h1;rw [<-htl,List.length_append];omega
    have Htl:=Lh htl;clear htl
    by_cases hk0:k=0
    ·subst hk0
     go_wp2_with fail
     go_ret
     exact ⟨by rw [Hz.out,Htl.out];rfl,hE.trans HEr.out⟩
    ·obtain ⟨j,rfl⟩:∃ j,k=j+1:=⟨k-1,by omega⟩
     have ec:(((j+1:Nat):Int)-1)=(j:Int):=by omega
     have ij:(j:Int)<(n:Int):=by omega
     rw [ec];have hcl:=(H4.out.ext (hE.trans HEr.out)).at j (by rw [H1.out];omega);obtain ⟨x,hx⟩:∃ x,l.getD j 0=x:=⟨_,rfl⟩
     have hx4:x<10000:=by rw [<-hx];exact H5.out.get j
     rw [hx] at hcl;have Hx:=Lh hx;obtain ⟨q3,g3⟩:∃ q,x / 1000=q:=⟨_,rfl⟩;obtain ⟨q2,g2⟩:∃ q,x / 100=q:=⟨_,rfl⟩;obtain ⟨r2,e2⟩:∃ q,q2 % 10=q:=⟨_,rfl⟩;obtain ⟨q1,g1⟩:∃ q,x / 10=q:=⟨_,rfl⟩;obtain ⟨r1,e1⟩:∃ q,q1 % 10=q:=⟨_,rfl⟩;obtain ⟨r0,e0⟩:∃ q,x % 10=q:=⟨_,rfl⟩
     have t3:(x:Int).tdiv 1000=(q3:Int):=by rw [Int.tdiv_eq_ediv_of_nonneg (by omega)];omega
     have t2:(x:Int).tdiv 100=(q2:Int):=by rw [Int.tdiv_eq_ediv_of_nonneg (by omega)];omega
     have t1:(x:Int).tdiv 10=(q1:Int):=by rw [Int.tdiv_eq_ediv_of_nonneg (by omega)];omega
     have m2:(q2:Int).tmod 10=(r2:Int):=by rw [Int.tmod_eq_emod_of_nonneg (by omega)];omega
     have m1:(q1:Int).tmod 10=(r1:Int):=by rw [Int.tmod_eq_emod_of_nonneg (by omega)];omega
     have m0:(x:Int).tmod 10=(r0:Int):=by rw [Int.tmod_eq_emod_of_nonneg (by omega)];omega
     have b3:q3<=9:=by omega
     have b2:r2<=9:=by omega
     have b1:r1<=9:=by omega
     have b0:r0<=9:=by omega
     obtain ⟨B3,hB3⟩:∃ B,48+q3=B:=⟨_,rfl⟩;obtain ⟨B2,hB2⟩:∃ B,48+r2=B:=⟨_,rfl⟩;obtain ⟨B1,hB1⟩:∃ B,48+r1=B:=⟨_,rfl⟩;obtain ⟨B0,hB0⟩:∃ B,48+r0=B:=⟨_,rfl⟩
     have v3:IntKind.i64.wrap (q3:Int)=(q3:Int):=by rw [IntKind.wrap_i64];omega
     have v2:IntKind.i64.wrap (q2:Int)=(q2:Int):=by rw [IntKind.wrap_i64];omega
     have v1:IntKind.i64.wrap (q1:Int)=(q1:Int):=by rw [IntKind.wrap_i64];omega
     have s3:IntKind.i64.wrap (48+(q3:Int))=(B3:Int):=by rw [IntKind.wrap_i64];omega
     have s2:IntKind.i64.wrap (48+(r2:Int))=(B2:Int):=by rw [IntKind.wrap_i64];omega
     have s1:IntKind.i64.wrap (48+(r1:Int))=(B1:Int):=by rw [IntKind.wrap_i64];omega
     have s0:IntKind.i64.wrap (48+(r0:Int))=(B0:Int):=by rw [IntKind.wrap_i64];omega
     have y3:IntKind.u8.wrap (B3:Int)=(B3:Int):=by rw [IntKind.wrap_u8];omega
     have y2:IntKind.u8.wrap (B2:Int)=(B2:Int):=by rw [IntKind.wrap_u8];omega
     have y1:IntKind.u8.wrap (B1:Int)=(B1:Int):=by rw [IntKind.wrap_u8];omega
     have y0:IntKind.u8.wrap (B0:Int)=(B0:Int):=by rw [IntKind.wrap_u8];omega
     have Hpad:Hid (padD 4 x=[UInt8.ofNat B3,UInt8.ofNat B2,UInt8.ofNat B1,UInt8.ofNat B0]):=by
      show _=_
      rw [padD_four x hx4,g3,g2,e2,g1,e1,e0,hB3,hB2,hB1,hB0]
     have z3:B3<256:=by omega
     have z2:B2<256:=by omega
     have z1:B1<256:=by omega
     have z0:B0<256:=by omega
     have HB:=Lh (And.intro z3 (And.intro z2 (And.intro z1 z0)));clear hx g3 g2 e2 g1 e1 e0 hk0 hB3 hB2 hB1 hB0 z3 z2 z1 z0;have hrd:Ext wr wr.drew:=Below.drew (Ext.refl _);have lB:=Nat.lt_of_lt_of_le bA.lt HEr.out.size;have lb:=(H4.out.ext (hE.trans HEr.out)).blt
     go_wp2_with fail
     go_region_held3 (fun w'=>w'.cell? ⟨w.heap.size,1,none⟩=some (.slice (some ⟨b,o,none⟩) n c)/\w'.cell? ⟨b,o+j,none⟩=some (.int .i64 (x:Nat)))
      (first | exact ⟨zKeep (W:=wr) (by assumption) lB d1,zKeep (W:=wr) (by assumption) lb hcl⟩ | exact ⟨zKeep (W:=wr) (hrd.trans (ext_alloc _ _)) lB d1,zKeep (W:=wr) (hrd.trans (ext_alloc _ _)) lb hcl⟩)
      (first | fail)
     have hx2:Ext wr (wr.alloc (.cells #[.int .u8 B3,.int .u8 B2,.int .u8 B1,.int .u8 B0] 5)).drew:=Below.drew (ext_alloc wr _);have d5:=zKeep hx2 lB d1;have HE2:=Lh (HEr.out.trans hx2);obtain ⟨k3,k2,k1,k0⟩:=four_cells wr (.int .u8 B3) (.int .u8 B2) (.int .u8 B1) (.int .u8 B0) 5;have hdd:Ext (wr.alloc (.cells #[.int .u8 B3,.int .u8 B2,.int .u8 B1,.int .u8 B0] 5)) (wr.alloc (.cells #[.int .u8 B3,.int .u8 B2,.int .u8 B1,.int .u8 B0] 5)).drew:=Below.drew (Ext.refl _)
     have lG:wr.heap.size<(wr.alloc (.cells #[.int .u8 B3,.int .u8 B2,.int .u8 B1,.int .u8 B0] 5)).heap.size:=by simp
     have k3:=zKeep hdd lG k3;have k2:=zKeep hdd lG k2;have k1:=zKeep hdd lG k1;have k0:=zKeep hdd lG k0;clear d1 hcl hrd lB lb hdd lG hx2 t3 t2 t1 m2 m1 m0 b3 b2 b1 b0 v3 v2 v1 s3 s2 s1 s0 y3 y2 y1 y0
     go_wp2_with fail
     generalize (wr.alloc (.cells #[.int .u8 B3,.int .u8 B2,.int .u8 B1,.int .u8 B0] 5)).drew=W2 at *;generalize wr.heap.size=G at *;obtain ⟨hcell,hconv⟩:=four_conv k3 k2 k1 k0 HB.out;have Hcell:=Lh hcell;have Hconv:=Lh hconv;clear hcell hconv k3 k2 k1 k0 HB;obtain ⟨bl,hbl⟩:∃ bl,[UInt8.ofNat B3,UInt8.ofNat B2,UInt8.ofNat B1,UInt8.ofNat B0]=bl:=⟨_,rfl⟩
     have hbl4:bl.length<=4:=by rw [<-hbl];exact Nat.le_refl _
     rw [hbl] at Hcell Hconv Hpad;clear hbl
     by_cases hfirst:j+1=n
     ·have hx0:0<x:=by
       have h6:=H6.out.resolve_left Hl.out;rw [H1.out,<-hfirst,Nat.add_sub_cancel,Hx.out] at h6;omega
      obtain ⟨f,hf3,hall,hne,hdec⟩:=dec_first x hx4 hx0;rw [Hpad.out] at hall hne hdec;have Hall:=Lh hall;have Hne:=Lh hne
      have Hfin:Hid (tl++bl.drop f=sg++ztx l j):=by
       show _=_
       rw [ztx_first (by rw [H1.out];exact hfirst.symm) Hx.out,hdec,<-Htl.out,hfirst];have:=ztx_end l;rw [H1.out] at this;rw [this,List.append_nil]
      have ej:((j:Int) == (n:Int)-1)=true:=by rw [beq_iff_eq];omega
      clear hall hne hdec hfirst hx0 Htl
      go_loop [6] (fun v=>∃ k:Nat,k<=f/\v=.int .i64 k) (fun v=>f-(intOf v).toNat)
      case atStart=>exact ⟨0,Nat.zero_le _,rfl⟩
      case round =>
       obtain ⟨k,hk,rfl⟩:=hrel
       by_cases hkf:k<f
       ·have hc:W2.cell? ⟨G,k,none⟩=some (.int .u8 48):=by
         rw [Hcell.out k (by omega),Hall.out k hkf];rfl
        have ik:(k:Int)<3:=by omega
        go_wp2_with fail
        go_round
        case rel=>exact ⟨k+1,by omega,by go_num⟩
        case measure=>simp [intOf];omega
       ·obtain rfl:k=f:=by omega
        have hcv:=Hconv.out k hf3
        by_cases hk3:k=3
        ·subst hk3
         go_wp2_with fail
         go_roundw
         case rel=>exact ⟨j,by omega,by go_num,by rw [str_append,Hfin.out],HE2.out⟩
         case measure=>simp [intOf]
        ·have ik:(k:Int)<3:=by omega
         obtain ⟨q,hq,hc⟩:∃ q:Nat,((q:Int) == 48)=false/\W2.cell? ⟨G,k,none⟩=some (.int .u8 (q:Nat)):=by
          refine ⟨(bl.getD k 0).toNat,?_,Hcell.out k (by omega)⟩;rw [beq_eq_false_iff_ne];intro hc;exact Hne.out (UInt8.toNat_inj.1 (by have:(48:UInt8).toNat=48:=rfl;rw [this];omega))
         go_wp2_with fail
         go_roundw
         case rel=>exact ⟨j,by omega,by go_num,by rw [str_append,Hfin.out],HE2.out⟩
         case measure=>simp [intOf]
     ·have ej:((j:Int) == (n:Int)-1)=false:=by rw [beq_eq_false_iff_ne];omega
      have Hfin:Hid (tl++bl=sg++ztx l j):=by
       show _=_
       rw [ztx_next H6.out (by rw [H1.out];omega) Hx.out hx4,Hpad.out,<-Htl.out,List.append_assoc]
      have hcv:=Hconv.out 0 (by omega);rw [List.drop_zero] at hcv;clear hfirst Htl
      go_loop [6] (fun v=>v=.int .i64 0) (fun v=>0)
      case atStart=>rfl
      case round =>
       subst hrel
       go_wp2_with fail
       go_roundw
       case rel=>exact ⟨j,by omega,by go_num,by rw [str_append,Hfin.out],HE2.out⟩
       case measure=>simp [intOf]
variable {Qc:Nat->Prop}
open Go.RowKit
def lstN (f:Nat->Int):Nat->Nat
 | 0=>0
 | n+1=>if f n=0 then lstN f n else n
theorem lstN_lt (f:Nat->Int):∀ n,0<n->lstN f n<n
 | 0,h=>absurd h (Nat.lt_irrefl 0)
 | 1,_=>by simp only [lstN];split<;>omega
 | n+2,_=>by
  have:=lstN_lt f (n+1) (by omega)
  rw [lstN];split<;>omega
theorem lstN_len (f:Nat->Int):∀ n,0<n->lenN f n=lstN f n+1
 | 0,h=>absurd h (Nat.lt_irrefl 0)
 | 1,_=>by simp [lenN,lstN]
 | n+2,_=>by
  have:=lstN_len f (n+1) (by omega);rw [lenN,lstN]
  by_cases h:f (n+1)=0
  ·rw [if_pos ⟨by omega,h⟩,if_pos h,this]
  ·rw [if_neg (fun k=>h k.2),if_neg h]
theorem jnT_more (f:Nat->Int) (j:Nat) (h:0<j):(⟨(jnT f j).toArray⟩:ByteArray)++(⟨#[44]⟩++⟨(Lib.itoa (f j)).toArray⟩)=⟨(jnT f (j+1)).toArray⟩:=by
 apply ByteArray.ext
 simp [jnT,h]
theorem QText_nm (ca:Array Value) (x:Nm) (P E:Nat) (w:World) (h:RmA Qc w ca x P E) (hP:P<=400000) (hE:E<=1099511627776) :
  Calls Tryz.prog 14 #[.agg ca] w fun r w'=>r=.returned (.string ⟨(rtx (nmF x)).toArray⟩)/\Ext w w':=by
 obtain ⟨f,hf⟩:∃ f,nmF x=f:=⟨_,rfl⟩;obtain ⟨e,he⟩:∃ e,x.e=e:=⟨_,rfl⟩
 have hv:ZCs Qc w ca f (e:Int):=by rw [<-he];exact h.val.congr fun i hi=>by rw [<-hf];unfold nmF;rw [if_neg (by omega)]
 have h8:f 8=(e:Int):=by rw [<-hf,<-he];rfl
 have hab:∀ i,i<8->(f i).natAbs<2 ^ P:=fun i hi=>by rw [<-hf];unfold nmF;rw [if_neg (by omega)];exact h.abs i
 have hdn:e<=E:=by rw [<-he];exact h.down
 have h0:=hv.box;have E0:=Ext.alloc w (.cells ca 48);obtain ⟨H,hH⟩:∃ H,w.heap.size=H:=⟨_,rfl⟩;obtain ⟨U,hU⟩:∃ U,w.alloc (.cells ca 48)=U:=⟨_,rfl⟩;rw [hU,hH] at h0;rw [hU] at E0;rw [hf];have hlen:=lstN_len f 8 (by decide);have hlt8:=lstN_lt f 8 (by decide);have Hrt:=Lh (show rtx f=jnT f (lstN f 8+1)++(if f 8=0 then [] else 47 :: Lib.itoa (f 8)) by unfold rtx;rw [hlen]);have HV:=Lh h0;have HE:=Lh E0;have HU:=Lh hU;have HH:=Lh hH;have HP:=Lh hP;have HEE:=Lh hE;have H8:=Lh h8;have Hab:=Lh hab;have Hdn:=Lh hdn;have Hlt8:=Lh hlt8;clear h hv hf he h0 E0 hU hH hP hE h8 hab hdn hlen hlt8
 go_enter Tryz.func14,Tryz.ntmps14
 go_wp2_with fail
 rw [HU.out,HH.out];clear HU
 go_loopg [3,4] 8 (fun kk s3 s4 wr=>∃ j:Nat,s3=.int .i64 ((lstN f j:Nat):Int)/\s4=.int .i64 (j:Int)/\j<=8/\8-j=kk/\ZVar Qc wr H f (e:Int)/\Ext w wr)
 case atStart=>exact ⟨0,rfl,rfl,by omega,by omega,HV.out,HE.out⟩
 case round =>
  clear HV HE;obtain ⟨j,rfl,rfl,hj,hjk,hV,hE⟩:=hrel;obtain ⟨wo,rfl⟩:∃ wo:World,wo=wr:=⟨_,rfl⟩;have HV:=Lh hV;have HE:=Lh hE;have Hjk:=Lh hjk
  by_cases hj8:j=8
  ·subst hj8
   obtain ⟨b,a,n,c,y0,y1,_,_,hI⟩:=hV.get 0 (by decide);have hn:n<=P:=hI.bits (Hab.out 0 (by decide));have HT:=Lh (ZText_any b a n c (f 0) wo hI (by have:=HP.out;omega));clear hI hn hV hE hj hjk Hjk
   go_wp2_with fail
   refine HT.out.mono ?_;rintro r w1 ⟨rfl,hx1⟩;have HV1:=Lh (HV.out.ext hx1);have HE1:=Lh (HE.out.trans hx1);clear HV HE HT hx1 y0 y1;obtain ⟨m,hm⟩:∃ m,lstN f 8=m:=⟨_,rfl⟩;rw [hm] at Hlt8 Hrt ⊢
   go_wp2_with fail
   go_loopg [5,6] m (fun kk s5 s6 wr=>∃ j:Nat,s5=.string ⟨(jnT f j).toArray⟩/\s6=.int .i64 (j:Int)/\1<=j/\j<=m+1/\m+1-j=kk/\ZVar Qc wr H f (e:Int)/\Ext w wr)
   case atStart=>exact ⟨1,by simp [jnT],rfl,by omega,by omega,by omega,HV1.out,HE1.out⟩
   case round =>
    clear HV1 HE1;obtain ⟨j,rfl,rfl,hj0,hj,hjk,hV,hE⟩:=hrel;obtain ⟨wo,rfl⟩:∃ wo:World,wo=wr:=⟨_,rfl⟩
    by_cases hjm:j=m+1
    ·have q1:¬ (j:Int)<=(m:Int):=by omega
     have x16:=hV.gete.1;subst hjm
     by_cases he0:e=0
     ·subst he0
      have Hend:=Lh (show rtx f=jnT f (m+1) by rw [Hrt.out,H8.out];simp);have HE:=Lh hE;clear hV hE hj hj0 hjk
      go_wp2_with fail
      go_ret
      exact ⟨congrArg (fun l:List UInt8=>Ending.returned (Value.string ⟨l.toArray⟩)) Hend.out.symm,HE.out⟩
     ·have q2:(0:Int)<(e:Int):=by omega
      have q3:0<e:=by omega
      have HZo:=Lh (ZOf_any (Qc:=fun _=>True) (e:Int) (by omega) (by have:=Hdn.out;have:=HEE.out;omega) wo (fun _ _=>trivial))
      have Hend:=Lh (show (⟨(rtx f).toArray⟩:ByteArray)=⟨(jnT f (m+1)).toArray⟩++(⟨#[47]⟩++⟨(Lib.itoa (e:Int)).toArray⟩) by
       rw [Hrt.out,H8.out,if_neg (by omega)]
       apply ByteArray.ext
       simp)
      have HE:=Lh hE;have hq1:=ritoa_len (e:Int) 41 (by have:=Hdn.out;have:=HEE.out;rw [Int.natAbs_natCast];exact Nat.lt_of_le_of_lt (show e<=1099511627776 by omega) (by decide));have hq2:=Nat.le_trans (jnT_len f P Hab.out (m+1) Hlt8.out) (Nat.mul_le_mul_right (P+3) (show m+1<=8 from Hlt8.out));have Hs:=Lh (show ¬ 9223372036854775807<1+(Lib.itoa (e:Int)).length/\¬ 9223372036854775807<(jnT f (m+1)).length+(1+(Lib.itoa (e:Int)).length) by have:=HP.out;omega);clear hV hE hj hj0 hjk he0 hq1 hq2
      go_wp2_with fail
      refine HZo.out.mono ?_;rintro r w2 ⟨b2,a2,n2,c2,rfl,hI2,hn2,hx2⟩;have HT2:=Lh (ZText_any b2 a2 n2 c2 (e:Int) w2 hI2 (by omega));have HE2:=Lh (HE.out.trans hx2);clear hI2 hn2 hx2 HE HZo x16
      go_wp2_with fail
      refine HT2.out.mono ?_;rintro r w3 ⟨rfl,hx3⟩;have hs1:=Hs.out.1;have hs2:=Hs.out.2;have HE3:=Lh (HE2.out.trans hx3);clear hx3 HE2 HT2
      go_wp2_with fail
      go_ret
      exact ⟨congrArg (fun b:ByteArray=>Ending.returned (Value.string b)) Hend.out.symm,HE3.out⟩
    have q1:(j:Int)<=(m:Int):=by omega
    have q2:(0:Int)<=(j:Int):=by omega
    have hj8:j<8:=by have:=Hlt8.out;omega
    have q3:(j:Int)<8:=by omega
    have wk:IntKind.i64.wrap ((j:Int)+1)=((j+1:Nat):Int):=by rw [IntKind.wrap_i64];omega
    have Hmore:=Lh (jnT_more f j hj0);have Hj1:=Lh (show 1<=j+1/\j+1<=m+1 by omega);have Hjk:=Lh hjk;obtain ⟨b,a,n,c,y0,y1,_,_,hI⟩:=hV.get j hj8;have hn:n<=P:=hI.bits (Hab.out j hj8);have HT:=Lh (ZText_any b a n c (f j) wo hI (by have:=HP.out;omega));have HV:=Lh hV;have HE:=Lh hE;have hq1:=ritoa_len (f j) P (Hab.out j hj8);have hq2:=Nat.le_trans (jnT_len f P Hab.out j (by omega)) (Nat.mul_le_mul_right (P+3) (show j<=8 by omega));have Hs:=Lh (show ¬ 9223372036854775807<1+(Lib.itoa (f j)).length/\¬ 9223372036854775807<(jnT f j).length+(1+(Lib.itoa (f j)).length) by have:=HP.out;omega);clear hI hn hV hE hj hj0 hjk hjm hj8 hq1 hq2
    go_wp2_with fail
    refine HT.out.mono ?_;rintro r w1 ⟨rfl,hx1⟩;have hs1:=Hs.out.1;have hs2:=Hs.out.2;have HV1:=Lh (HV.out.ext hx1);have HE1:=Lh (HE.out.trans hx1);clear HV HE HT hx1 y0 y1
    go_wp2_with fail
    go_roundg (m+1-(j+1))
    case measure=>have:=Hjk.out;have:=Hj1.out;omega
    case rel=>exact ⟨j+1,congrArg Value.string Hmore.out,rfl,Hj1.out.1,Hj1.out.2,rfl,HV1.out,HE1.out⟩
  have hlt:j<8:=by omega
  have q1:(j:Int)<8:=by omega
  have q0:(0:Int)<=(j:Int):=by omega
  have wk:IntKind.i64.wrap ((j:Int)+1)=((j+1:Nat):Int):=by rw [IntKind.wrap_i64];omega
  have Hj1:=Lh (show j+1<=8 by omega);obtain ⟨b,a,n,c,y0,y1,_,_,hI⟩:=hV.get j hlt;have hiff:=hI.nil_iff;clear hI hj8 hj hlt hV hE hjk
  by_cases hn:n=0
  ·have q2:¬ (0:Int)<(n:Int):=by omega
   have Hl:=Lh (show lstN f (j+1)=lstN f j by rw [lstN,if_pos (hiff.1 hn)]);clear hn hiff
   go_wp2_with fail
   go_roundg (8-(j+1))
   case measure=>have:=Hjk.out;have:=Hj1.out;omega
   case rel=>exact ⟨j+1,by rw [Hl.out],rfl,Hj1.out,rfl,HV.out,HE.out⟩
  ·have q2:(0:Int)<(n:Int):=by omega
   have Hl:=Lh (show lstN f (j+1)=j by rw [lstN,if_neg (fun k=>hn (hiff.2 k))]);clear hn hiff
   go_wp2_with fail
   go_roundg (8-(j+1))
   case measure=>have:=Hjk.out;have:=Hj1.out;omega
   case rel=>exact ⟨j+1,by rw [Hl.out],rfl,Hj1.out,rfl,HV.out,HE.out⟩
def txA (z:Nm):Value:=.string ⟨(rtx (nmF z)).toArray⟩
def txC (s:Nat->Nm) (n i:Nat):Array Value:=((List.range n).map fun x=>if x<i then txA (s x) else .string ⟨#[]⟩).toArray
theorem txC_get (s:Nat->Nm) {n i x:Nat} (hx:x<n):(txC s n i)[x]?=some (if x<i then txA (s x) else .string ⟨#[]⟩):=by
 unfold txC;rw [List.getElem?_toArray,List.getElem?_map,List.getElem?_range hx]
 rfl
theorem txC_set (s:Nat->Nm) {n i:Nat}:(txC s n i).setIfInBounds i (txA (s i))=txC s n (i+1):=by
 unfold txC;rw [List.setIfInBounds_toArray]
 congr 1
 apply List.ext_getElem?
 intro x;rw [List.getElem?_set,List.getElem?_map,List.getElem?_map]
 by_cases hx:x<n
 ·rw [List.getElem?_range hx]
  by_cases e:i=x
  ·subst e
   rw [if_pos rfl]
   simp [hx]
  ·rw [if_neg e]
   simp only [Option.map_some,Option.some.injEq];have:(x<i+1)=(x<i):=propext (by omega);simp only [this]
 ·rw [List.getElem?_eq_none (by simp;omega)]
  split
  ·rename_i e
   simp
   omega
  ·rfl
theorem S_info:(Tryz.prog.info? 9).map (fun i=>(i.zero,i.size,i.bytes))=some (some (.string ⟨#[]⟩),1,16):=by kernel_rfl
theorem wpList_make_S (w:World) {ops:Array Oper} {rest:List Oper} {o:Oper} {a:Act} {Q:Exit->Act->World->Prop} (s:Nat->Nm)
  (hg:o.guard=none) (l c:Operand) (hop:o.op=Op.makeSlice 27 l c) (kl kc:IntKind) (L C:Int) (n:Nat) (hl:a.eval l=.int kl L) (hc:a.eval c=.int kc C) (hL:L=(n:Int)) (hC:C=(n:Int)) (b2:n<=1048576)
  (hK:∀ w',w'.heap[w.heap.size]?=some (.cells (txC s n 0) 9 (0,0))->Ext w w'->wpList Tryz.prog ops Q rest (a.put o.dst (.slice (some ⟨w.heap.size,0,none⟩) n n)) w') :
  wpList Tryz.prog ops Q (o :: rest) a w:=by
 obtain ⟨i0,hi,hz0,hz1,hz2⟩:=info_parts S_info;refine wpList_make_full w hg l c 27 hop w.heap.size 9 i0 (.string ⟨#[]⟩) 1 Tryz.underlying27 hi hz0 hz1 kl kc L C n hl hc hL hC (by rw [hz2];omega) (by unfold maxLen;omega) (Nat.le_refl _) ?_;intro w' hown hgrow
 have key:w'.heap[w.heap.size]?=some (.cells (txC s n 0) 9 (0,0)):=by
  obtain ⟨_,h | ⟨g,cap,cur,hv,_,hh,_,_,hsz,ht⟩⟩:=hown
  ·simp at h
  ·simp only [Value.slice.injEq,Option.some.injEq,Addr.mk.injEq,and_true,true_and] at hv
   obtain ⟨hg,rfl⟩:=hv;subst hg;rw [hh]
   congr 2
   apply Array.toList_inj.1
   have e1:cur.toList.take (n*1)=cur.toList:=List.take_of_length_le (by rw [Array.length_toList,hsz];exact Nat.le_refl _);rw [e1] at ht;rw [ht];unfold txC
   simp [Value.cells,toList_madeCells_one,List.map_const']
 exact hK w' key ((Below.refl _ _).grown hgrow (Nat.le_refl _) (fun k h=>by cases h))
theorem texts_any (b n cp:Nat) (s:Nat->Nm) (N:Nat) (w:World) (h:WvA w b n s N) (hn:n<=4096) (hN:N<=10000) (hT:Ten w) :
  Calls Tryz.prog 24 #[.slice (some ⟨b,0,none⟩) n cp] w fun e w'=>∃ g,e=.returned (.slice (some ⟨g,0,none⟩) n n)/\w'.heap[g]?=some (.cells (txC s n n) 9 (0,0))/\w.heap.size<=g/\Ext w w':=by
 have Hh:=Lh h;have HN:=Lh hN;have HT:=Lh hT;have Hn:=Lh hn;clear h hN hT
 go_enter Tryz.func24,Tryz.ntmps24
 go_wp2_with (refine wpList_make_S w s rfl _ _ rfl .i64 .i64 (n:Int) (n:Int) n rfl rfl rfl rfl (by omega) ?_;intro w1 hr1 hE1)
 obtain ⟨G,hG⟩:∃ G,w.heap.size=G:=⟨_,rfl⟩;rw [hG] at hr1 ⊢;have HG:=Lh hG;have Hr1:=Lh hr1;have HE1:=Lh hE1;clear hG hr1 hE1 hn
 go_loopg [4,10] n (fun kk _ sx wr=>∃ i:Nat,sx=.int .i64 (i:Int)/\i<=n/\n-i=kk/\wr.heap[G]?=some (.cells (txC s n i) 9 (0,0))/\Ext w wr)
 case atStart=>exact ⟨0,rfl,Nat.zero_le _,rfl,Hr1.out,HE1.out⟩
 case round =>
  obtain ⟨i,rfl,hi,hk,hr,hE⟩:=hrel;have Hr:=Lh hr;have HE:=Lh hE;have Hk:=Lh hk;clear hr hE hk
  by_cases hin:i=n
  ·have q1:¬ (i:Int)<(n:Int):=by omega
   have Hend:=Lh (show wr.heap[G]?=some (.cells (txC s n n) 9 (0,0))/\w.heap.size<=G/\Ext w wr from ⟨by rw [<-hin];rw [<-hin] at Hr;exact Hr.out,by rw [HG.out];exact Nat.le_refl _,HE.out⟩);clear hin hi
   go_wp2_with fail
   go_ret
   exact ⟨_,rfl,Hend.out⟩
  have hlt:i<n:=by omega
  have q1:(i:Int)<(n:Int):=by omega
  have q0:(0:Int)<=(i:Int):=by omega
  have wk:IntKind.i64.wrap ((i:Int)+1)=((i+1:Nat):Int):=by rw [IntKind.wrap_i64];have:=Hn.out;omega
  have Hlt:=Lh hlt;clear hin hi hlt
  go_wp2_with fail
  refine (at_any s n b cp i _ _ wr (Hh.out.at'.ext HE.out) Hlt.out).mono ?_;rintro e w2 ⟨ca,rfl,hca,hE2⟩;have Hca:=Lh hca;have HE2:=Lh hE2;clear hca hE2
  go_wp2_with fail
  refine (RText_nm ca _ _ _ w2 Hca.out 1000 (by decide) (by decide) (by have:=HN.out;omega) (by have:=HN.out;omega) (tab_ext HT.out (HE.out.trans HE2.out))).mono ?_;rintro e w3 ⟨rfl,hE3⟩;have hE23:=HE2.out.trans hE3;have r3:=(hE23.block G (gS.1 Hr.out).1).trans Hr.out
  have y3:w3.cell? ⟨G,i,none⟩=some (.string ⟨#[]⟩):=by
   rw [cell_of_row w3 G i _ _ (0,0) r3,txC_get s Hlt.out,if_neg (by omega)]
  have f3:=frozen_of_row w3 G i _ _ r3
  have Hend:=Lh (show (w3.setCell ⟨G,i,none⟩ (.string ⟨(rtx (nmF (s i))).toArray⟩)).heap[G]?=some (.cells (txC s n (i+1)) 9 (0,0))/\Ext w (w3.setCell ⟨G,i,none⟩ (.string ⟨(rtx (nmF (s i))).toArray⟩)) from ⟨by
   rw [heap_setCell_same w3 G i _ _ _ r3]
   congr 2
   exact txC_set s,Ext.put (HE.out.trans hE23) (by rw [HG.out];exact Nat.le_refl _) _⟩)
  clear r3 hE23 hE3 Hca
  go_wp2_with fail
  go_roundg (n-(i+1))
  case measure=>have:=Hk.out;have:=Hlt.out;omega
  case rel=>exact ⟨i+1,rfl,Hlt.out,rfl,Hend.out⟩
end Go.Proofs.YtfjnlopbmkimiaaGreatDoor
