/-
  A number of circuits made of the texts of its parts and of its power: makeNumber. A text read: read. What Text wrote is read as the same number, in plain lists. Make in one; Zero; how the ring begins. A text read, or refused: Parse. The laws of the ring: the walk. The reference's numbers: digits to the base 10000 in slices of ints. What memory holds; zmade.
-/
import Derived.Test.YtiicfpdiehgikaaGreatDoorS12Tk
namespace Go.Proofs.YtiicfpdiehgikaaGreatDoor
set_option maxRecDepth 100000
set_option maxHeartbeats 4000000
open Go.RowKit
def pF (ps:List (List UInt8)) (j:Nat):Nat→Int:=fun i=>if i<j then pzU (ps.getD i []) else 0
structure MkGood (ps:List (List UInt8)) (dn:List UInt8) (x:Nm):Prop where
 parts:∀ i,i<ps.length→pcU (ps.getD i [])=0
 down:pcU dn=0
 small:pzU dn≤10000
 eq:x=⟨ext8 (pF ps ps.length),(pzU dn).toNat⟩
 low:Low x
 len:lenN (pF ps ps.length) 8=ps.length
def MkBad (ps:List (List UInt8)) (dn:List UInt8) (c k:Nat):Prop :=
 (∃ i,i<ps.length∧(∀ j,j<i→pcU (ps.getD j [])=0)∧pcU (ps.getD i [])≠0∧c=pcU (ps.getD i [])∧k=paU (ps.getD i [])) ∨
 ((∀ i,i<ps.length→pcU (ps.getD i [])=0)∧((pcU dn≠0∧c=pcU dn∧k=paU dn)∨(pcU dn=0∧((10000<pzU dn∧c=2∧k=0) ∨
  (pzU dn≤10000∧c=3∧k=0∧¬ (Low ⟨ext8 (pF ps ps.length),(pzU dn).toNat⟩∧lenN (pF ps ps.length) 8=ps.length))))))
theorem lenN_congr {f g:Nat→Int}:∀ n,(∀ i,i<n→f i=g i)→lenN f n=lenN g n
 | 0,_=>rfl
 | n+1,h=>by simp only [lenN];rw [h n (by omega),lenN_congr n fun i hi=>h i (by omega)]
theorem pF_step (ps:List (List UInt8)) (j i:Nat):updN (pF ps j) j (pzU (ps.getD j [])) i=pF ps (j+1) i:=by
 unfold updN pF
 by_cases e:i=j
 ·subst e;simp
 ·rw [if_neg e]
  by_cases h:i<j
  ·rw [if_pos h,if_pos (by omega)]
  ·rw [if_neg h,if_neg (by omega)]
theorem pF_abs (ps:List (List UInt8)) (j P:Nat) (hP:3334≤P) (i:Nat):(pF ps j i).natAbs<2 ^ P:=by
 unfold pF
 split
 ·exact pzU_lt _ P hP
 ·exact Nat.pow_pos (by decide)
theorem makeNumber_any (ps:List (List UInt8)) (dn:List UInt8) (ao:Option Addr) (n cp:Nat) (w:World) (hs:RStr w ao n ps) (h1:1≤n) (h8:n≤8) (hl:∀ i,i<n→(ps.getD i []).length≤9223372036854775807) (hdl:dn.length≤9223372036854775807) (hd0:0≤pzU dn)
  (P E K:Nat) (hK:K≤4194304) (hP0:3334≤P) (hP:P≤64*K) (hE0:10000≤E) (hE:E≤1099511627776) (hbr:Bru w) :
  Calls Tryz.prog 86 #[.slice ao n cp,.string ⟨dn.toArray⟩] w fun e w'=>Ext w w'∧((∃ c k:Nat,MkBad ps dn c k∧e=.panicked (gupR c k))∨(∃ (cr:Array Value) (x:Nm),MkGood ps dn x∧e=.returned (.agg cr)∧NmA w' cr x P E)):=by
 have hK1:1≤K:=by omega
 have hpl:=hs.1
 obtain ⟨H,hH⟩:∃ H,w.heap.size=H:=⟨_,rfl⟩
 obtain ⟨U,hU⟩:∃ U,(w.alloc (.cells zero9 28)).alloc (.cells zero8 26)=U:=⟨_,rfl⟩
 have E0:Ext w U:=by rw [←hU];exact (Ext.alloc _ _).trans (Ext.alloc _ _)
 have N0:Nums U H 9 28 (fun _=>0):=by rw [←hU,←hH];exact ((cells_zero9 w).box 28).ext (Ext.alloc _ _)
 have R0:Nums U (H+1) 8 26 (pF ps 0):=by
  have:=(cells_zero8 (w.alloc (.cells zero9 28))).box 26
  rw [←hU,←hH]
  have e:pF ps 0=fun _=>0:=by funext i;simp [pF]
  rw [e]
  simpa using this
 have HU:=Lib.hid hU;have HH:=Lib.hid hH;have Hs:=Lib.hid hs;have Hl:=Lib.hid hl;have Hdl:=Lib.hid hdl;have Hd0:=Lib.hid hd0;have HK:=Lib.hid hK;have HK1:=Lib.hid hK1;have HP0:=Lib.hid hP0;have HP:=Lib.hid hP;have HE0:=Lib.hid hE0;have HEE:=Lib.hid hE;have Hbr:=Lib.hid hbr;have Hpl:=Lib.hid hpl;have Hn1:=Lib.hid h1;have Hn8:=Lib.hid h8
 have Hst:=Lib.hid (show Nums U (H+1) 8 26 (pF ps 0)∧Nums U H 9 28 (fun _=>0)∧Ext w U from ⟨R0,N0,E0⟩)
 clear hU hH hs hl hdl hd0 hK hK1 hP0 hP hE0 hE hbr hpl R0 N0 E0 h1
 go_enter Tryz.func86,Tryz.ntmps86
 go_wp2_with fail
 rw [HU.out,HH.out]
 clear HU
 go_loopg [6,7,12] n (fun kk s6 s7 s12 wr=>∃ j:Nat,s12=.int .i64 (j:Int)∧j≤n∧n-j=kk∧(∀ i,i<j→pcU (ps.getD i [])=0)∧Nums wr (H+1) 8 26 (pF ps j)∧Nums wr H 9 28 (fun _=>0)∧Ext w wr)
 case atStart=>exact ⟨0,rfl,by omega,by omega,fun i hi=>by omega,Hst.out⟩
 case round =>
  clear Hst
  obtain ⟨j,rfl,hj,hjk,hall,hN,hZ,hE⟩:=hrel
  obtain ⟨wo,rfl⟩:∃ wo:World,wo=wr:=⟨_,rfl⟩
  have Hall:=Lib.hid hall
  clear hall
  by_cases hjn:j=n
  ·subst hjn
   have HRd:=Lib.hid (readWhole_any dn wo Hdl.out)
   have HN:=Lib.hid hN;have HZ:=Lib.hid hZ;have HE:=Lib.hid hE
   clear hN hZ hE hjk hj
   go_wp2_with fail
   refine HRd.out.mono ?_
   rintro e w2 ⟨hx2,(⟨hc0,s,a,m,c,rfl,hI⟩ | ⟨hc0,rfl⟩)⟩
   rotate_left 1
   ·have Hbad:=Lib.hid (show MkBad ps dn (pcU dn) (paU dn) from Or.inr ⟨by rw [Hpl.out];exact Hall.out,Or.inl ⟨hc0,rfl,rfl⟩⟩)
    have HE2:=Lib.hid (HE.out.trans hx2)
    clear hc0 hx2 HRd HE HN HZ
    go_wp2_with fail
    exact ⟨rfl,HE2.out,Or.inl ⟨_,_,Hbad.out,rfl⟩⟩
   obtain ⟨d,hd⟩:∃ d:Nat,pzU dn=(d:Int):=⟨(pzU dn).toNat,by have:=Hd0.out;omega⟩
   have hI':=hI.cast hd
   have hfd:Fit K (d:Int):=by rw [←hd];exact fit_pow (pzU_lt dn P HP0.out) HP.out
   obtain ⟨D,hD⟩:∃ D,w2.heap.size=D:=⟨_,rfl⟩
   obtain ⟨V,hV⟩:∃ V,w2.alloc (.cells #[.int .i64 s,.slice a m c] 24)=V:=⟨_,rfl⟩
   have eV:Ext w2 V:=by rw [←hV];exact Ext.alloc _ _
   have bV:Box V D s a m c:=by rw [←hV,←hD];exact box_new w2 s a m c
   have HNV:=Lib.hid ((HN.out.ext hx2).ext eV);have HZV:=Lib.hid ((HZ.out.ext hx2).ext eV);have HEV:=Lib.hid ((HE.out.trans hx2).trans eV);have HIV:=Lib.hid (hI'.ext eV);have HbV:=Lib.hid bV
   have Hc0:=Lib.hid hc0;have Hd:=Lib.hid hd;have Hfd:=Lib.hid hfd
   have l0:=bV.c0;have l1:=bV.c1;have lD:=bV.lt
   have HV:=Lib.hid hV;have HD:=Lib.hid hD
   obtain ⟨k,hk⟩:∃ k,cmp3 (d:Int) 10000=k:=⟨_,rfl⟩
   have Hk:=Lib.hid hk
   clear hc0 hd hI hI' hfd hD hV eV bV hx2 HRd HN HZ HE hk
   go_upto_region 8 with fail
   rw [HV.out,HD.out]
   clear HV
   have h0d:Ext V V.drew:=Below.drew (Ext.refl _)
   go_region_held3 (fun w'=>w'.cell? ⟨D,0,none⟩=some (.int .i64 s)∧w'.cell? ⟨D,1,none⟩=some (.slice a m c))
    (exact ⟨cellKeep (W:=V) (by assumption) lD l0,cellKeep (W:=V) (by assumption) lD l1⟩)
    (first
     | (have _:=qv0;go_at_call 70;refine (CmpK_is k (HIV.out.ext hv0) Kv0 K HK.out Hfd.out (fit_small (z:=10000) (by decide) HK1.out) Hk.out).mono ?_;rintro e v1 ⟨rfl,qv1⟩;have hv1:Ext V v1:=hv0.trans qv1)
     | (go_at_call 44;refine (Of_any 10000 (by decide) (by decide) _).mono ?_;rintro e v0 ⟨rfl,Kv0,qv0⟩;have hv0:Ext V v0:=Ext.trans (by assumption) qv0))
   clear Kv0
   have HNv:=Lib.hid (HNV.out.ext hv1);have HZv:=Lib.hid (HZV.out.ext hv1);have HEv:=Lib.hid (HEV.out.trans hv1);have HIv:=Lib.hid (HIV.out.ext hv1);have Hbv:=Lib.hid (HbV.out.ext hv1)
   clear HNV HZV HEV HIV HbV l0 l1 lD h0d
   by_cases hbig:10000<d
   ·have q1:(0:Int)<k:=by rw [←Hk.out,cmp3_gt (by omega)];decide
    have Hbad:=Lib.hid (show MkBad ps dn 2 0 from Or.inr ⟨by rw [Hpl.out];exact Hall.out,Or.inr ⟨Hc0.out,Or.inl ⟨by rw [Hd.out];omega,rfl,rfl⟩⟩⟩)
    clear hbig hv1 qv1 hv0 qv0
    go_wp2_with fail
    exact ⟨rfl,HEv.out,Or.inl ⟨_,_,Hbad.out,rfl⟩⟩
   have q1:¬ (0:Int)<k:=by
    rw [←Hk.out];unfold cmp3
    split
    ·decide
    ·rw [if_neg (by omega)];decide
   have Hsm:=Lib.hid (show d≤10000 by omega)
   clear hbig hv1 qv1 hv0 qv0
   obtain ⟨cq,hrq,hcq⟩:=HNv.out.cells
   have hinfq:(Tryz.prog.info? 26).map (·.size)=some cq.size:=by rw [hcq.1];exact rrow_info
   have HLo:=Lib.hid (rlowest_any cq s a m c (pF ps j) d v1 hcq HIv.out K P E HK.out HK1.out HP.out HEE.out (fun i _=>pF_abs ps j P HP0.out i) (by have:=Hsm.out;have:=HE0.out;omega) (bru_ext Hbr.out HEv.out))
   have y0:=Hbv.out.c0;have y1:=Hbv.out.c1
   clear hcq
   go_wp2_with (refine wpList_load_row rfl 26 _ rfl (H+1) rfl 26 _ (0,0) _ hrq Tryz.underlying26 rfl hinfq ?_)
   refine HLo.out.mono ?_
   rintro e w5 ⟨cr,x,rfl,hcr,hx,hx5⟩
   clear q1 y0 y1 hrq hinfq HLo
   have hs18:cr.size=18:=hcr.size
   have hinf:=hcr.info
   have hone:=hcr.val.one
   obtain ⟨G,hG⟩:∃ G,w5.heap.size=G:=⟨_,rfl⟩
   have r2:(w5.alloc (.cells zero9 28)).heap[w5.heap.size]?=some (.cells zero9 28 (0,0)):=heap_alloc_new w5 _
   have hs9:(zero9:Array Value).size=cr.size:=by rw [hs18];rfl
   obtain ⟨V2,hV2⟩:∃ V2,(w5.alloc (.cells zero9 28)).setRow w5.heap.size cr=V2:=⟨_,rfl⟩
   have hst:=((hcr.val.ext (Ext.alloc w5 (.cells zero9 28))).setRow ((cells_zero9 _).nums r2))
   rw [hV2] at hst
   obtain ⟨nG,cG,rG⟩:=hst
   have e52:Ext w5 V2:=cG.ext (Ext.alloc _ _) (Nat.le_refl _)
   have lG:=nG.lt
   rw [hG] at nG rG lG
   have HnG:=Lib.hid nG;have HrG:=Lib.hid rG
   have Hcr2:=Lib.hid (hcr.ext e52);have HE2:=Lib.hid ((HEv.out.trans hx5).trans e52);have HZ2:=Lib.hid ((HZv.out.ext hx5).ext e52);have HI2:=Lib.hid ((HIv.out.ext hx5).ext e52);have Hb2:=Lib.hid ((Hbv.out.ext hx5).ext e52)
   have HV2:=Lib.hid hV2;have HG:=Lib.hid hG;have Hx:=Lib.hid hx
   clear hV2 hG nG cG rG e52 hx5 hcr hx HNv HZv HEv HIv Hbv lG
   go_upto_region 11 with (refine wpList_store_row rfl 28 _ _ rfl w5.heap.size cr rfl rfl 28 _ r2 hinf hs9 hone ?_)
   rw [HV2.out,HG.out]
   clear HV2 HG r2 hs9
   have HLn:=Lib.hid (rowLength_any G 9 28 (nmF x) V2 HnG.out (by decide))
   obtain ⟨L,hL⟩:∃ L,lenN (nmF x) 8=L:=⟨_,rfl⟩
   rw [hL] at HLn
   have HL:=Lib.hid hL
   clear hL
   go_wp2_with fail
   refine HLn.out.mono ?_
   rintro e w6 ⟨rfl,hx6⟩
   have HE6:=Lib.hid (HE2.out.trans hx6);have HZ6:=Lib.hid (HZ2.out.ext hx6);have Hcr6:=Lib.hid (Hcr2.out.ext hx6)
   have r6:w6.heap[G]?=some (.cells cr 28 (0,0)):=(hx6.block _ (Array.getElem?_eq_some_iff.1 HrG.out).1).trans HrG.out
   obtain ⟨s8,a8,n8,c8,l16,l17,_,_,hI8⟩:=(HnG.out.ext hx6).get 8 (by decide)
   have hI8':IsInt w6 s8 a8 n8 c8 ((x.e:Nat):Int):=hI8
   have b6:=Hb2.out.ext hx6
   have y0:=b6.c0;have y1:=b6.c1
   have HI6:=Lib.hid (HI2.out.ext hx6);have HI8:=Lib.hid hI8'
   have Hx8:=Lib.hid (show x=⟨ext8 (pF ps j),d⟩∨¬ Low ⟨ext8 (pF ps j),d⟩ from by
    by_cases hlo:Low ⟨ext8 (pF ps j),d⟩
    ·exact Or.inl (low_one Hcr6.out.low hlo Hx.out)
    ·exact Or.inr hlo)
   have HdN:=Lib.hid (show (pzU dn).toNat=d by rw [Hd.out];rfl)
   have hne:∀ P:Prop,(x=⟨ext8 (pF ps j),d⟩→lenN (pF ps j) 8=j→P)→¬ P→¬ (Low ⟨ext8 (pF ps j),d⟩∧lenN (pF ps j) 8=j):=fun P h1 h2 ⟨h3,h4⟩=>by
    rcases Hx8.out with h5 | h5
    ·exact h2 (h1 h5 h4)
    ·exact h5 h3
   have Hlx:=Lib.hid (show x=⟨ext8 (pF ps j),d⟩→L=lenN (pF ps j) 8 from fun h=>by
    rw [←HL.out,h]
    refine lenN_congr 8 fun i hi=>?_
    unfold nmF
    rw [if_neg (by omega)]
    show ext8 (pF ps j) (i:Int)=_
    rw [ext8_at _ _ (by omega) (by omega)];rfl)
   have Hbad3:=Lib.hid (show ¬ (Low ⟨ext8 (pF ps j),d⟩∧lenN (pF ps j) 8=j)→MkBad ps dn 3 0 from fun h=>Or.inr ⟨by rw [Hpl.out];exact Hall.out,Or.inr ⟨Hc0.out,Or.inr ⟨by rw [Hd.out];have:=Hsm.out;omega,rfl,rfl,by rw [Hpl.out,HdN.out];exact h⟩⟩⟩)
   have Hne:=Lib.hid hne
   clear hne hI8 hI8' b6 hx6 HLn HE2 HZ2 Hcr2 HnG HrG HI2 Hb2
   by_cases hLn:L=j
   rotate_left 1
   ·have q1:((L:Int) != (j:Int))=true:=rne_t (by omega)
    have Hbad:=Lib.hid (Hbad3.out (Hne.out (L=j) (fun h1 h2=>(Hlx.out h1).trans h2) hLn))
    clear hLn
    go_wp2_with fail
    exact ⟨rfl,HE6.out,Or.inl ⟨_,_,Hbad.out,rfl⟩⟩
   have q1:((L:Int) != (j:Int))=false:=rne_f (by omega)
   have HLj:=Lib.hid hLn
   obtain ⟨k2,hk2⟩:∃ k2,cmp3 ((x.e:Nat):Int) (d:Int)=k2:=⟨_,rfl⟩
   have Hxe:=Lib.hid (show x.e≤1099511627776 by have:=Hcr6.out.down;have:=HEE.out;omega)
   have HC2:=Lib.hid (CmpK_is k2 HI8.out HI6.out K HK.out (fit_small (z:=((x.e:Nat):Int)) (by have:=Hxe.out;omega) HK1.out) Hfd.out hk2)
   have Hk2:=Lib.hid hk2
   clear hk2 hLn
   go_wp2_with fail
   refine HC2.out.mono ?_
   rintro e w7 ⟨rfl,hx7⟩
   have HE7:=Lib.hid (HE6.out.trans hx7);have HZ7:=Lib.hid (HZ6.out.ext hx7);have Hcr7:=Lib.hid (Hcr6.out.ext hx7)
   have r7:w7.heap[G]?=some (.cells cr 28 (0,0)):=(hx7.block _ (Array.getElem?_eq_some_iff.1 r6).1).trans r6
   clear hx7 r6 l16 l17 y0 y1 HC2 HE6 HZ6 Hcr6 HI6 HI8
   by_cases hk0:k2=0
   rotate_left 1
   ·have q2:(k2 != 0)=true:=rne_t hk0
    have Hbad:=Lib.hid (Hbad3.out (Hne.out (k2=0) (fun h1 _=>by rw [←Hk2.out,h1];exact cmp3_eq _) hk0))
    clear hk0
    go_wp2_with fail
    exact ⟨rfl,HE7.out,Or.inl ⟨_,_,Hbad.out,rfl⟩⟩
   have q2:(k2 != 0)=false:=rne_f hk0
   have hxe:x.e=d:=by
    have h1:=Hk2.out
    rw [hk0] at h1
    have h2:((x.e:Nat):Int)=(d:Int):=by
     unfold cmp3 at h1
     split at h1
     ·omega
     ·split at h1
      ·omega
      ·omega
    omega
   have hxx:x=⟨ext8 (pF ps j),d⟩:=by
    have h1:=Hx.out
    obtain ⟨xa,xe⟩:=x
    simp only at hxe
    subst hxe
    congr 1
    funext k
    exact Int.eq_of_mul_eq_mul_right (two_ne _) (h1 k)
   have Hgood:=Lib.hid (show MkGood ps dn x from ⟨by rw [Hpl.out];exact Hall.out,Hc0.out,by rw [Hd.out];have:=Hsm.out;omega,by rw [Hpl.out,HdN.out];exact hxx,Hcr7.out.low,by rw [Hpl.out,←Hlx.out hxx];exact HLj.out⟩)
   obtain ⟨c1,hr1,hs1,_,_,rr,hnm,hE'⟩:=fin_num Hcr7.out HZ7.out HE7.out (by rw [HH.out];exact Nat.le_refl _)
   have Hend:=Lib.hid (And.intro hnm hE')
   clear hnm hE' hxx hxe hk0 Hne Hbad3 Hlx Hx8 Hx Hcr7 HZ7 HE7
   go_wp2_with (first
    | refine wpList_load_row rfl 28 _ rfl G rfl 28 _ (0,0) _ r7 Tryz.underlying28 rfl hinf ?_
    | refine wpList_store_row rfl 28 _ _ rfl H cr rfl rfl 28 _ hr1 hinf hs1 hone ?_)
   refine bodyPost_ret (v:=.agg cr) ?_ rfl ⟨Hend.out.2,Or.inr ⟨cr,x,Hgood.out,rfl,Hend.out.1⟩⟩
   exact results_cell_row rfl _ _ H _ _ _ _ rfl rr Tryz.underlying28 rfl hinf
  have hlt:j<n:=by omega
  have q1:(j:Int)<(n:Int):=by omega
  have q0:(0:Int)≤(j:Int):=by omega
  have q8:(j:Int)<8:=by omega
  obtain ⟨b,o,rfl,hbl,hcell⟩:=((Hs.out.ext hE).2.resolve_left (by omega))
  have y0:=hcell j hlt
  obtain ⟨l,hl⟩:∃ l,ps.getD j []=l:=⟨_,rfl⟩
  rw [hl] at y0
  have HRd:=Lib.hid (readWhole_any l wo (by rw [←hl];exact Hl.out j hlt))
  have wk:IntKind.i64.wrap ((j:Int)+1)=((j+1:Nat):Int):=by rw [IntKind.wrap_i64];omega
  have Hj1:=Lib.hid (show j+1≤n by omega)
  have Hjl:=Lib.hid hlt;have Hll:=Lib.hid hl
  have HN:=Lib.hid hN;have HZ:=Lib.hid hZ;have HE:=Lib.hid hE;have Hjk:=Lib.hid hjk
  clear hN hZ hE hjk hjn hj hlt hl hcell hbl
  go_wp2_with fail
  refine HRd.out.mono ?_
  rintro e w2 ⟨hx2,(⟨hc0,s,a,m,c,rfl,hI⟩ | ⟨hc0,rfl⟩)⟩
  rotate_left 1
  ·have Hbad:=Lib.hid (show MkBad ps dn (pcU l) (paU l) from Or.inl ⟨j,by rw [Hpl.out];exact Hjl.out,Hall.out,by rw [Hll.out];exact hc0,by rw [Hll.out],by rw [Hll.out]⟩)
   have HE2:=Lib.hid (HE.out.trans hx2)
   clear hc0 hx2 HRd HE HN HZ y0
   go_wp2_with fail
   exact ⟨rfl,HE2.out,Or.inl ⟨_,_,Hbad.out,rfl⟩⟩
  have hN2:=HN.out.ext hx2
  obtain ⟨s4,a4,n4,c4,z0,z1,fz0,fz1,_⟩:=hN2.get j (by have:=Hjl.out;have:=Hn8.out;omega)
  have hset:=hN2.set j (by have:=Hjl.out;have:=Hn8.out;omega) hI
  have hkp:=hN2.keep j (by have:=Hjl.out;have:=Hn8.out;omega) s (.slice a m c)
  have hO:Only (H+1) w2 ((w2.setCell ⟨H+1,j*2,none⟩ (.int .i64 s)).setCell ⟨H+1,j*2+1,none⟩ (.slice a m c)):=((Only.refl _ _).setCell _ _).setCell _ _
  have Hend:=Lib.hid (show Nums ((w2.setCell ⟨H+1,j*2,none⟩ (.int .i64 s)).setCell ⟨H+1,j*2+1,none⟩ (.slice a m c)) (H+1) 8 26 (pF ps (j+1))∧Nums ((w2.setCell ⟨H+1,j*2,none⟩ (.int .i64 s)).setCell ⟨H+1,j*2+1,none⟩ (.slice a m c)) H 9 28 (fun _=>0)∧Ext w ((w2.setCell ⟨H+1,j*2,none⟩ (.int .i64 s)).setCell ⟨H+1,j*2+1,none⟩ (.slice a m c)) from
   ⟨hset.congr fun i _=>by rw [←Hll.out];exact pF_step ps j i,(HZ.out.ext hx2).put hO (by omega) hkp,(Chg.of_only hO hkp).ext (HE.out.trans hx2) (by rw [HH.out];omega)⟩)
  have Hall':=Lib.hid (show ∀ i,i<j+1→pcU (ps.getD i [])=0 from fun i hi=>by
   by_cases e:i=j
   ·rw [e,Hll.out];exact hc0
   ·exact Hall.out i (by omega))
  clear hset hkp hO hN2 hI hx2 hc0 HRd HN HZ HE y0
  go_wp2_with fail
  clear z0 z1 fz0 fz1
  generalize (w2.setCell ⟨H+1,j*2,none⟩ (.int .i64 s)).setCell ⟨H+1,j*2+1,none⟩ (.slice a m c)=V at *
  go_roundg (n-(j+1))
  case measure=>have:=Hjk.out;have:=Hj1.out;omega
  case rel=>exact ⟨j+1,rfl,Hj1.out,rfl,Hall'.out,Hend.out⟩
def RdBad (T:List UInt8) (c k:Nat):Prop:=(rdS T=.inl k∧c=1)∨∃ ps dn,rdS T=.inr (ps,dn)∧MkBad ps dn c k
def RdGood (T:List UInt8) (x:Nm):Prop:=∃ ps dn,rdS T=.inr (ps,dn)∧MkGood ps dn x
theorem MkBad.ne {ps:List (List UInt8)} {dn:List UInt8} {c k:Nat} (h:MkBad ps dn c k):c≠0:=by
 rcases h with ⟨i,_,_,h1,h2,_⟩ | ⟨_,(⟨h1,h2,_⟩ | ⟨_,(⟨_,h2,_⟩ | ⟨_,h2,_⟩)⟩)⟩
 ·rw [h2];exact h1
 ·rw [h2];exact h1
 ·omega
 ·omega
theorem RdBad.ne {T:List UInt8} {c k:Nat} (h:RdBad T c k):c≠0:=by
 rcases h with ⟨_,h⟩ | ⟨_,_,_,h⟩
 ·omega
 ·exact h.ne
theorem pzU_nn (l:List UInt8) (h:l[0]?≠some 45):0≤pzU l:=by
 have h1:sgl (l.map UInt8.toNat)=0:=by
  unfold sgl
  rw [if_neg]
  cases l with
  | nil=>decide
  | cons c r =>
   intro e
   apply h
   simp only [List.getElem?_cons_zero,Option.some.injEq]
   apply UInt8.toNat_inj.1
   simpa using e
 unfold pzU pz
 rw [h1]
 split
 ·simp [sgn]
 ·exact Int.le_refl _
theorem rdP_fit (T:List UInt8):∀ (m:Nat) (acc:List (List UInt8)) (k:Nat) (acc':List (List UInt8)) (k':Nat),(∀ x ∈ acc,x.length≤T.length)→rdP T m acc k=.inr (acc',k')→∀ x ∈ acc',x.length≤T.length
 | 0,acc,k,acc',k',h,e=>by simp only [rdP] at e;injection e with e;injection e with e1 _;rw [←e1];exact h
 | m+1,acc,k,acc',k',h,e=>by
  simp only [rdP] at e
  split at e
  ·split at e
   ·refine rdP_fit T m _ _ acc' k' ?_ e
    intro x hx
    rcases List.mem_append.1 hx with hx | hx
    ·exact h x hx
    ·rw [List.mem_singleton.1 hx,List.length_take,List.length_drop];omega
   ·cases e
  ·injection e with e;injection e with e1 _;rw [←e1];exact h
theorem isDr_sign {c:UInt8} (h:isDr (some c)=true):some c≠some 45:=by
 intro e
 injection e with e
 subst e
 exact absurd h (by decide)
theorem posN_sign (L:List UInt8) (h:posN L≠0):(L.take (posN L))[0]?≠some 45:=by
 have h1:isDr L[0]?=true:=dgRun_at (by
  unfold posN at h
  split at h
  ·omega
  ·omega)
 rw [List.getElem?_take,if_pos (by omega)]
 cases hc:L[0]? with
 | none=>simp
 | some c=>rw [hc] at h1;exact isDr_sign h1
theorem rdS_fit {T:List UInt8} {ps:List (List UInt8)} {dn:List UInt8} (h:rdS T=.inr (ps,dn)):(∀ x ∈ ps,x.length≤T.length)∧dn.length≤T.length+1∧0≤pzU dn:=by
 unfold rdS at h
 split at h
 ·cases hp:rdP T 7 [T.take (numK T)] (numK T) with
  | inl k=>rw [hp] at h;cases h
  | inr q =>
   obtain ⟨acc,k⟩:=q
   rw [hp] at h
   have hf:=rdP_fit T 7 _ _ acc k (by
    intro x hx
    rw [List.mem_singleton.1 hx,List.length_take];omega) hp
   simp only [rdF] at h
   unfold rdE at h
   split at h
   ·split at h
    ·cases h
    ·rename_i hp0
     split at h
     ·cases h
     ·injection h with h
      injection h with e1 e2
      subst e1;subst e2
      exact ⟨hf,by rw [List.length_take,List.length_drop];omega,pzU_nn _ (posN_sign _ hp0)⟩
   ·split at h
    ·cases h
    ·injection h with h
     injection h with e1 e2
     subst e1;subst e2
     exact ⟨hf,by simp,pzU_nn _ (by simp)⟩
 ·cases h
theorem mem_getD {ps:List (List UInt8)} {i:Nat} (h:i<ps.length):ps.getD i [] ∈ ps:=by
 rw [List.getD_eq_getElem?_getD,List.getElem?_eq_getElem h];exact List.getElem_mem h
theorem read_any (T:List UInt8) (w:World) (hT:T.length≤4611686018427387904) (P E K:Nat) (hK:K≤4194304) (hP0:3334≤P) (hP:P≤64*K) (hE0:10000≤E) (hE:E≤1099511627776) (hbr:Bru w) :
  Calls Tryz.prog 50 #[.string ⟨T.toArray⟩] w fun e w'=>Ext w w'∧((∃ c k:Nat,RdBad T c k∧e=.panicked (gupR c k))∨(∃ (cr:Array Value) (x:Nm),RdGood T x∧e=.returned (.agg cr)∧NmA w' cr x P E)):=by
 obtain ⟨H,hH⟩:∃ H,w.heap.size=H:=⟨_,rfl⟩
 obtain ⟨W0,hW0⟩:∃ W0,w.alloc (.cells zero9 28)=W0:=⟨_,rfl⟩
 obtain ⟨U,hU⟩:∃ U,W0.alloc (.cells #[.string ⟨T.toArray⟩,.int .i64 0] 113)=U:=⟨_,rfl⟩
 have s0:W0.heap.size=H+1:=by rw [←hW0,←hH];simp
 have e0:Ext w W0:=by rw [←hW0];exact Ext.alloc _ _
 have e1:Ext W0 U:=by rw [←hU];exact Ext.alloc _ _
 have N0:Nums W0 H 9 28 (fun _=>0):=by rw [←hW0,←hH];exact (cells_zero9 w).box 28
 have r0:RdR U (H+1) T 0:=⟨by rw [←hU,←s0];exact heap_alloc_new W0 _⟩
 have hUU:((w.alloc (.cells zero9 28)).alloc (.cells #[.string ⟨T.toArray⟩,.int .i64 0] 113))=U:=by rw [hW0,hU]
 have HSm:=Lib.hid (rsum_any (H+1) T U r0 hT)
 have HU:=Lib.hid hUU;have HH:=Lib.hid hH;have HN0:=Lib.hid N0;have He0:=Lib.hid e0;have He1:=Lib.hid e1;have Hs0:=Lib.hid s0;have HT:=Lib.hid hT
 have HMk:=Lib.hid (fun (ps:List (List UInt8)) (dn:List UInt8) (ao:Option Addr) (cp:Nat) (wx:World) (hx:Ext w wx) (hs:RStr wx ao ps.length ps) (h1:1≤ps.length) (h8:ps.length≤8) (hr:rdS T=.inr (ps,dn)) =>
  makeNumber_any ps dn ao ps.length cp wx hs h1 h8 (fun i hi=>by have:=(rdS_fit hr).1 _ (mem_getD hi);omega) (by have:=(rdS_fit hr).2.1;omega) (rdS_fit hr).2.2 P E K hK hP0 hP hE0 hE (bru_ext hbr hx))
 clear hUU hU hW0 hH s0 e0 e1 N0 r0 hT hK hP0 hP hE0 hE hbr
 go_enter Tryz.func50,Tryz.ntmps50
 go_wp2_with fail
 rw [HU.out,HH.out]
 clear HU
 refine HSm.out.mono ?_
 rintro e w1 ⟨hC1,(⟨ps,dn,a,c,hrs,rfl,hc1,hc2,hst,h1,h8⟩ | ⟨k,hrs,rfl⟩)⟩
 rotate_left 1
 ·have HE:=Lib.hid (He0.out.trans (hC1.ext He1.out (Nat.le_of_eq Hs0.out)))
  have Hr:=Lib.hid hrs
  clear hC1 hrs HSm
  go_wp2_with fail
  exact ⟨rfl,HE.out,Or.inl ⟨1,k,Or.inl ⟨Hr.out,rfl⟩,rfl⟩⟩
 have E1:Ext W0 w1:=hC1.ext He1.out (Nat.le_of_eq Hs0.out)
 have HM:=Lib.hid (HMk.out ps dn a c w1 (He0.out.trans E1) hst h1 h8 hrs)
 have HE1:=Lib.hid E1;have Hrs:=Lib.hid hrs
 clear E1 hC1 hrs hc1 hc2 hst h1 h8 HMk HSm
 go_wp2_with fail
 refine HM.out.mono ?_
 rintro e w2 ⟨hx2,(⟨c',k',hb,rfl⟩ | ⟨cr,x,hg,rfl,hcr⟩)⟩
 ·have HE2:=Lib.hid ((He0.out.trans HE1.out).trans hx2)
  have Hb:=Lib.hid (show RdBad T c' k' from Or.inr ⟨ps,dn,Hrs.out,hb⟩)
  clear hx2 hb HM HE1
  go_wp2_with fail
  exact ⟨rfl,HE2.out,Or.inl ⟨c',k',Hb.out,rfl⟩⟩
 obtain ⟨c1,hr1,hs1,hone,hinf,rr,hnm,hE'⟩:=fin_num hcr ((HN0.out.ext HE1.out).ext hx2) ((He0.out.trans HE1.out).trans hx2) (by rw [HH.out];exact Nat.le_refl _)
 have Hend:=Lib.hid (And.intro hnm hE')
 have Hg:=Lib.hid (show RdGood T x from ⟨ps,dn,Hrs.out,hg⟩)
 clear hnm hE' hcr hg hx2 HM HE1 HN0
 go_wp2_with (refine wpList_store_row rfl 28 _ _ rfl H cr rfl rfl 28 _ hr1 hinf hs1 hone ?_)
 refine bodyPost_ret (v:=.agg cr) ?_ rfl ⟨Hend.out.2,Or.inr ⟨cr,x,Hg.out,rfl,Hend.out.1⟩⟩
 exact results_cell_row rfl _ _ H _ _ _ _ rfl rr Tryz.underlying28 rfl hinf
theorem isDr_of_isD {c:UInt8} (h:isD c.toNat=true):isDr (some c)=true:=by
 simp only [isD,decide_eq_true_eq] at h
 simp [isDr];omega
theorem dd_all (v:Nat):∀ c ∈ Lib.decDigits v,isDr (some c)=true:=by
 intro c hc
 obtain ⟨j,hj,e⟩:=List.getElem_of_mem hc
 have h:=decN_allD v j (by unfold decN;rw [List.length_map];exact hj)
 refine isDr_of_isD ?_
 rw [List.getD_eq_getElem?_getD] at h
 unfold decN at h
 rw [List.getElem?_map,List.getElem?_eq_getElem hj,e] at h
 exact h
theorem dd_head (v:Nat):∃ c r,Lib.decDigits v=c :: r∧(c=48→v=0)∧c≠45:=by
 obtain ⟨d,r,e,h1,h2⟩:=decN_head v
 unfold decN at e
 cases hd:Lib.decDigits v with
 | nil=>rw [hd] at e;cases e
 | cons c q =>
  rw [hd,List.map_cons] at e
  injection e with e1 e2
  refine ⟨c,q,rfl,fun h=>h2 ?_,fun h=>?_⟩
  ·rw [←e1,h];rfl
  ·rw [←e1,h] at h1;exact absurd h1 (by decide)
theorem itoa_0:Lib.itoa 0=[48]:=by unfold Lib.itoa;rw [if_neg (by decide),Lib.decDigits,dif_pos (by decide)];rfl
theorem itoa_1:Lib.itoa 1=[49]:=by unfold Lib.itoa;rw [if_neg (by decide),Lib.decDigits,dif_pos (by decide)];rfl
theorem itoa_m1:Lib.itoa (-1)=[45,49]:=by unfold Lib.itoa;rw [if_pos (by decide),Lib.decDigits,dif_pos (by decide)];rfl
theorem dgRun_app {l rest:List UInt8} (h:∀ c ∈ l,isDr (some c)=true) (hr:isDr rest[0]?=false):dgRun (l++rest)=l.length:=by
 induction l with
 | nil =>
  cases rest with
  | nil=>rfl
  | cons c r =>
   simp only [List.nil_append,dgRun,List.length_nil]
   rw [if_neg (by simpa using hr)]
 | cons c l ih =>
  simp only [List.cons_append,dgRun,List.length_cons]
  rw [if_pos (h c (by simp)),ih fun d hd=>h d (by simp [hd])]
theorem posN_dd {v:Nat} (hv:v≠0) {rest:List UInt8} (hr:isDr rest[0]?=false):posN (Lib.decDigits v++rest)=(Lib.decDigits v).length:=by
 obtain ⟨c,r,e,h1,_⟩:=dd_head v
 unfold posN
 rw [if_neg,dgRun_app (dd_all v) hr]
 rw [e]
 simp only [List.cons_append,List.getElem?_cons_zero,Option.some.injEq]
 exact fun h=>hv (h1 h)
theorem dd_len (v:Nat):(Lib.decDigits v).length≠0:=by
 obtain ⟨c,r,e,_⟩:=dd_head v
 rw [e];simp
theorem num_itoa (z:Int) {rest:List UInt8} (hr:isDr rest[0]?=false):numOk (Lib.itoa z++rest)=true∧numK (Lib.itoa z++rest)=(Lib.itoa z).length:=by
 by_cases hz:z<0
 ·have e:Lib.itoa z=45 :: Lib.decDigits z.natAbs:=by unfold Lib.itoa;rw [if_pos hz]
  have hp:=posN_dd (v:=z.natAbs) (by omega) hr
  have hl:=dd_len z.natAbs
  have hs:numS (45 :: (Lib.decDigits z.natAbs++rest))=1:=by unfold numS;simp
  rw [e,List.cons_append]
  constructor
  ·unfold numOk
   rw [hs]
   simp only [List.drop_succ_cons,List.drop_zero,hp,Bool.or_eq_true,decide_eq_true_eq]
   exact Or.inr hl
  ·unfold numK
   rw [hs,if_neg (by simp)]
   simp only [List.drop_succ_cons,List.drop_zero,hp,List.length_cons]
   omega
 ·have e:Lib.itoa z=Lib.decDigits z.toNat:=by unfold Lib.itoa;rw [if_neg hz]
  by_cases h0:z=0
  ·subst h0
   have e0:Lib.itoa 0=[48]:=itoa_0
   rw [e0]
   exact ⟨by unfold numOk;simp,by unfold numK;simp⟩
  ·have hp:=posN_dd (v:=z.toNat) (by omega) hr
   have hl:=dd_len z.toNat
   obtain ⟨c,r,e2,h48,h45⟩:=dd_head z.toNat
   have hh:(Lib.decDigits z.toNat++rest)[0]?=some c:=by rw [e2];rfl
   have hs:numS (Lib.decDigits z.toNat++rest)=0:=by unfold numS;rw [hh,if_neg (by simpa using h45)]
   have hc:¬ (some c=some (48:UInt8)):=fun h=>by injection h with h;have:=h48 h;omega
   rw [e]
   constructor
   ·unfold numOk
    rw [hs,List.drop_zero,hp]
    simp [hl]
   ·unfold numK
    rw [hh,if_neg hc,hs,List.drop_zero,hp]
    omega
def rst (f:Nat→Int) (tl:List UInt8):Nat→Nat→List UInt8
 | _,0=>tl
 | i,m+1=>44 :: (Lib.itoa (f i)++rst f tl (i+1) m)
def its (f:Nat→Int):Nat→Nat→List (List UInt8)
 | _,0=>[]
 | i,m+1=>Lib.itoa (f i) :: its f (i+1) m
theorem its_length (f:Nat→Int):∀ i m,(its f i m).length=m
 | _,0=>rfl
 | i,m+1=>by simp only [its,List.length_cons,its_length f (i+1) m]
theorem its_getD (f:Nat→Int):∀ i m t,t<m→(its f i m).getD t []=Lib.itoa (f (i+t))
 | i,m+1,0,_=>by simp [its]
 | i,m+1,t+1,h=>by
  simp only [its,List.getD_cons_succ]
  rw [its_getD f (i+1) m t (by omega),show i+1+t=i+(t+1) by omega]
theorem jnT_rst (f:Nat→Int) (tl:List UInt8):∀ m i,1≤i→jnT f (i+m)++tl=jnT f i++rst f tl i m
 | 0,i,_=>rfl
 | m+1,i,hi=>by
  rw [show i+(m+1)=(i+1)+m by omega,jnT_rst f tl m (i+1) (by omega)]
  simp only [jnT,rst]
  rw [if_pos (by omega)]
  simp
theorem rst_head {f:Nat→Int} {tl:List UInt8} (ht:isDr tl[0]?=false):∀ m i,isDr (rst f tl i m)[0]?=false
 | 0,_=>ht
 | m+1,i=>by simp only [rst,List.getElem?_cons_zero];decide
theorem rdP_rst (f:Nat→Int) (tl:List UInt8) (ht:isDr tl[0]?=false) (ht44:tl[0]?≠some 44) (T:List UInt8):∀ (m i M:Nat) (acc:List (List UInt8)) (pre:List UInt8),m≤M→T=pre++rst f tl i m →
  ∃ k,rdP T M acc pre.length=.inr (acc++its f i m,k)∧T.drop k=tl∧k≤T.length
 | 0,i,M,acc,pre,_,e=>by
  have hd:T.drop pre.length=tl:=by rw [e];simp [rst]
  have hT:T[pre.length]?=tl[0]?:=by rw [←hd,List.getElem?_drop,Nat.add_zero]
  exact ⟨pre.length,by rw [rdP_end (Or.inr (by rw [hT];exact ht44))];simp [its],hd,by rw [e];simp⟩
 | m+1,i,M,acc,pre,hM,e=>by
  obtain ⟨M',rfl⟩:∃ M',M=M'+1:=⟨M-1,by omega⟩
  have hh:=rst_head (f:=f) ht m (i+1)
  have hn:=num_itoa (f i) hh
  have h44:T[pre.length]?=some 44:=by rw [e];simp [rst]
  have hd:T.drop (pre.length+1)=Lib.itoa (f i)++rst f tl (i+1) m:=by
   rw [e,←List.drop_drop];simp [rst]
  have hp:rdP T (M'+1) acc pre.length=rdP T M' (acc++[Lib.itoa (f i)]) (pre++44 :: Lib.itoa (f i)).length:=by
   rw [rdP_hit h44 (by rw [hd];exact hn.1),hd,hn.2]
   simp only [List.take_left',List.length_append,List.length_cons]
   congr 1
   omega
  obtain ⟨k,h1,h2,h3⟩:=rdP_rst f tl ht ht44 T m (i+1) M' (acc++[Lib.itoa (f i)]) (pre++44 :: Lib.itoa (f i)) (by omega) (by rw [e];simp [rst])
  refine ⟨k,?_,h2,h3⟩
  rw [hp,h1]
  simp [its]
theorem lenN_zero (f:Nat→Int):∀ n i,lenN f n≤i→i<n→f i=0
 | n+1,i,h1,h2=>by
  simp only [lenN] at h1
  split at h1
  ·rename_i h
   by_cases e:i=n
   ·rw [e];exact h.2
   ·exact lenN_zero f n i h1 (by omega)
  ·omega
def dnT (f:Nat→Int):List UInt8:=if f 8=0 then [48] else Lib.itoa (f 8)
theorem rdS_rtx (f:Nat→Int) (h8:0≤f 8):rdS (rtx f)=.inr (its f 0 (lenN f 8),dnT f):=by
 obtain ⟨tl,htl⟩:∃ tl,(if f 8=0 then ([]:List UInt8) else 47 :: Lib.itoa (f 8))=tl:=⟨_,rfl⟩
 have ht:isDr tl[0]?=false:=by rw [←htl];split<;>rfl
 have ht44:tl[0]?≠some 44:=by rw [←htl];split<;>simp
 obtain ⟨m,hm⟩:∃ m,lenN f 8=1+m:=⟨lenN f 8-1,by have:=lenN_pos f 8 (by decide);omega⟩
 have hm7:m≤7:=by have:=lenN_le f 8;omega
 obtain ⟨T,hT⟩:∃ T,rtx f=T:=⟨_,rfl⟩
 have hT1:T=Lib.itoa (f 0)++rst f tl 1 m:=by
  rw [←hT];unfold rtx
  rw [htl,hm,jnT_rst f tl m 1 (Nat.le_refl _)]
  simp [jnT]
 have hn:=num_itoa (f 0) (rst_head (f:=f) ht m 1)
 rw [←hT1] at hn
 have htk:T.take (Lib.itoa (f 0)).length=Lib.itoa (f 0):=by rw [hT1];simp
 obtain ⟨k,h1,h2,h3⟩:=rdP_rst f tl ht ht44 T m 1 7 [Lib.itoa (f 0)] (Lib.itoa (f 0)) hm7 hT1
 rw [hT]
 unfold rdS
 rw [if_pos hn.1,hn.2,htk,h1]
 simp only [rdF]
 have hk:T[k]?=tl[0]?:=by rw [←h2,List.getElem?_drop,Nat.add_zero]
 have hits:[Lib.itoa (f 0)]++its f 1 m=its f 0 (lenN f 8):=by rw [hm,Nat.add_comm];simp [its]
 unfold rdE dnT
 rw [hk,hits]
 by_cases h0:f 8=0
 ·rw [if_pos h0] at htl
  subst htl
  have hkl:¬ k<T.length:=by
   intro h
   have:=congrArg List.length h2
   rw [List.length_drop,List.length_nil] at this
   omega
  rw [if_pos h0,if_neg (by simp),if_neg hkl]
 ·rw [if_neg h0] at htl
  subst htl
  have e:Lib.itoa (f 8)=Lib.decDigits (f 8).toNat:=by unfold Lib.itoa;rw [if_neg (by omega)]
  have hd:T.drop (k+1)=Lib.decDigits (f 8).toNat++[]:=by rw [←List.drop_drop,h2,List.append_nil,←e];rfl
  have hp:posN (T.drop (k+1))=(Lib.decDigits (f 8).toNat).length:=by rw [hd];exact posN_dd (by omega) rfl
  have hl:=dd_len (f 8).toNat
  have hlen:k+1+(Lib.decDigits (f 8).toNat).length=T.length:=by
   have h5:=congrArg List.length hd
   rw [List.length_drop,List.length_append,List.length_nil] at h5
   omega
  rw [if_neg h0,if_pos (by simp),hp,if_neg hl,if_neg (by omega),hd,List.append_nil,List.take_length,e]
theorem pzU_itoa (z:Int) (h:pcU (Lib.itoa z)=0):pzU (Lib.itoa z)=z:=by
 have hs:=txt_scan z
 have hv:=txt_val z
 have h':pcode (txt z)=0:=h
 show pz (txt z)=z
 unfold pcode at h'
 rw [hs] at h'
 unfold pz
 rw [hs]
 simp only [Nat.lt_irrefl,not_false_eq_true,and_self,if_true,true_and] at h' ⊢
 split at h'
 ·cases h'
 ·rename_i h1
  rw [if_pos h1];exact hv
theorem nm_zero {x:Nm} (hx:Anti x.a):zeroN (nmF x)↔∀ k,x.a k=0:=by
 constructor
 ·intro h
  refine all_zero hx fun j h0 h1=>?_
  have:=h j.toNat (by omega)
  unfold nmF at this
  rw [if_neg (by omega)] at this
  rwa [show ((j.toNat:Nat):Int)=j by omega] at this
 ·intro h i hi
  unfold nmF
  rw [if_neg (by omega)];exact h _
theorem Zero_nm (ca:Array Value) (x:Nm) (P E:Nat) (w:World) (h:NmA w ca x P E) (B:Bool) (hB:B=true↔∀ k,x.a k=0) :
  Calls Tryz.prog 15 #[.agg ca] w fun e w'=>e=.returned (.bool B)∧Ext w w':=by
 have hn:=h.val.box 28
 have HZ:=Lib.hid (rowZero_yes _ 9 _ _ _ hn (by decide) B (hB.trans (nm_zero h.anti).symm))
 have HE:=Lib.hid (Ext.alloc w (.cells ca 28))
 clear hn h hB
 go_enter Tryz.func15,Tryz.ntmps15
 go_wp2_with fail
 refine HZ.out.mono ?_
 rintro e w1 ⟨rfl,hx⟩
 have HE1:=Lib.hid (HE.out.trans hx)
 clear hx HZ HE
 go_wp2_with fail
 go_ret
 exact ⟨rfl,HE1.out⟩
theorem rtx_rt:rtx (nmF nRt)=[48,44,48,44,49,44,48,44,48,44,48,44,45,49,47,49]:=by
 have h0:nmF nRt 0=0:=by decide
 have h1:nmF nRt 1=0:=by decide
 have h2:nmF nRt 2=1:=by decide
 have h3:nmF nRt 3=0:=by decide
 have h4:nmF nRt 4=0:=by decide
 have h5:nmF nRt 5=0:=by decide
 have h6:nmF nRt 6=-1:=by decide
 have h8:nmF nRt 8=1:=by decide
 have hL:lenN (nmF nRt) 8=7:=by decide
 unfold rtx
 rw [hL]
 simp only [jnT]
 rw [h0,h1,h2,h3,h4,h5,h6,h8,itoa_0,itoa_1,itoa_m1]
 decide
theorem ringBegun_any (w:World) (hbr:Bru w) (hT:Ten w) :
  Calls Tryz.prog 8 #[] w fun e w'=>e=.returned (.bool true)∧Ext w w':=by
 go_enter Tryz.func8,Tryz.ntmps8
 go_wp2_with fail
 refine (RRt_nm w hbr).mono ?_
 rintro e w1 ⟨cr,rfl,hcr,hx1⟩
 have HTx:=Lib.hid (RText_nm cr nRt 5 1 w1 hcr 1 (by decide) (by decide) (by decide) (by decide) (tab_ext hT hx1))
 rw [rtx_rt] at HTx
 clear hcr
 go_wp2_with fail
 refine HTx.out.mono ?_
 rintro e w2 ⟨rfl,hx2⟩
 have HE:=Lib.hid (hx1.trans hx2)
 have q:(([48,44,48,44,49,44,48,44,48,44,48,44,45,49,47,49]:List UInt8) == [48,44,48,44,49,44,48,44,48,44,48,44,45,49,47,49])=true:=by decide
 clear hx1 hx2 HTx
 go_wp2_with fail
 go_ret
 exact ⟨rfl,HE.out⟩
theorem rfaultOf_any (a b:Int) (w:World) :
  Calls Tryz.prog 49 #[.iface 110 (.agg #[.int .i64 a,.int .i64 b])] w fun e w'=>e=.returned (.agg #[.int .i64 a,.int .i64 b])∧Ext w w':=by
 have hta:∀ (t:TypeId) (w:World),Sem.run Tryz.prog (Instr.typeAssert (.iface 110 (.agg #[.int .i64 a,.int .i64 b])) t 110 true) w=.ok (.tuple #[.agg #[.int .i64 a,.int .i64 b],.bool true]) w:=fun _ _=>by kernel_rfl
 go_enter Tryz.func49,Tryz.ntmps49
 have HX:=Lib.hid ((Ext.alloc w (.cells #[.int .i64 a,.int .i64 b] 30)).trans (Ext.alloc _ (.cells #[.int .i64 a,.int .i64 b] 110)))
 go_wp2_with fail
 exact bodyPost_ret (v:=.agg #[.int .i64 a,.int .i64 b]) (by simp [results,Tryz.results49,go_sem]) rfl ⟨rfl,HX.out⟩
theorem rparse1_idle (q:Addr) (w:World) :
  CallsD Tryz.prog 48 #[.pointer (some q)] .returning w fun e u' w'=>e=.returned (.tuple #[])∧u'=.returning∧w'=w:=by
 refine callsD_of_wpS Tryz.func48 rfl fun c₀ cs hu=>?_
 apply wpS_seq
 apply wpS_region
 simp [wpOpsS,go_sem,recoverD,hu,Tryz.ntmps48,Exit.thenS]
 apply wpS_seq
 apply wpS_region
 simp [wpOpsS,go_sem,Exit.thenS]
 refine wpS_cond (t:=false) (by simp [Act.eval,Array.replicate]) ?_
 simp only [if_false,Bool.false_eq_true]
 refine wpS_of_wp (wp_skip ?_)
 cases c₀
 simp_all [bodyPostS,results,Tryz.results48]
theorem rparse1_catch (B:Nat) (c k:Int) (w:World) (h:w.heap[B]?=some (.cells #[.int .i64 0,.int .i64 0] 30 (0,0))) :
  CallsD Tryz.prog 48 #[.pointer (some ⟨B,0,none⟩)] (.panicking (gupR c k)) w fun e u' w'=>e=.returned (.tuple #[])∧(u'=.panicking [{ v:=.iface 110 (.agg #[.int .i64 c,.int .i64 k]),recovered:=true }])∧∃ w1,Ext w w1∧w'=w1.setRow B #[.int .i64 c,.int .i64 k]:=by
 unfold gupR
 refine callsD_of_wpS Tryz.func48 rfl fun c₀ cs hu=>?_
 apply wpS_seq
 apply wpS_region
 simp [wpOpsS,go_sem,recoverD,hu,Tryz.ntmps48,Exit.thenS]
 apply wpS_seq
 apply wpS_region
 simp [wpOpsS,go_sem,Exit.thenS]
 refine wpS_cond (t:=true) (by simp [Act.eval,Array.replicate]) ?_
 simp only [if_true]
 refine wpS_of_wp ?_
 show Code.wp _ _ _ { tmps:=#[.pointer (some ⟨B,0,none⟩),.iface 110 (.agg #[.int .i64 c,.int .i64 k]),.iface 110 (.agg #[.int .i64 c,.int .i64 k]),.iface 110 (.agg #[.int .i64 c,.int .i64 k]),.bool true,undef,undef],defers:=[] } w
 have HF:=Lib.hid h
 clear h
 go_wp2_with fail
 refine (rfaultOf_any c k w).mono ?_
 rintro e w1 ⟨rfl,hx⟩
 have hF1:w1.heap[B]?=some (.cells #[.int .i64 0,.int .i64 0] 30 (0,0)):=(hx.block _ (Array.getElem?_eq_some_iff.1 HF.out).1).trans HF.out
 have hone:=fault_one c k
 have HX:=Lib.hid hx
 clear hx
 go_wp2_with (refine wpList_store_row rfl 30 _ _ rfl B #[.int .i64 c,.int .i64 k] rfl rfl 30 _ hF1 fault_info rfl hone ?_)
 cases c₀
 simp_all [bodyPostS,results,Tryz.results48]
 exact ⟨w1,HX.out,rfl⟩
theorem RParse_any (T:List UInt8) (w:World) (hT:T.length≤4611686018427387904) (P E K:Nat) (hK:K≤4194304) (hP0:3334≤P) (hP:P≤64*K) (hE0:10000≤E) (hE:E≤1099511627776) (hbr:Bru w) :
  Calls Tryz.prog 6 #[.string ⟨T.toArray⟩] w fun e w'=>Ext w w'∧((∃ c k:Nat,RdBad T c k∧e=.returned (.tuple #[.agg zero9,.agg #[.int .i64 (c:Int),.int .i64 (k:Int)]]))∨(∃ (cr:Array Value) (x:Nm),RdGood T x∧e=.returned (.tuple #[.agg cr,.agg #[.int .i64 0,.int .i64 0]])∧NmA w' cr x P E)):=by
 have hmf:∀ (fn:Fn) (first cap:Array Value) (w:World),(Instr.makeFunc fn first cap).run Tryz.prog w=.ok (.func fn first cap) w:=fun _ _ _ _=>rfl
 obtain ⟨H,hH⟩:∃ H,w.heap.size=H:=⟨_,rfl⟩
 obtain ⟨U,hU⟩:∃ U,((w.alloc (.cells zero9 28)).alloc (.cells #[.int .i64 0,.int .i64 0] 30))=U:=⟨_,rfl⟩
 have E0:Ext w U:=by rw [←hU];exact (Ext.alloc _ _).trans (Ext.alloc _ _)
 have N0:Nums U H 9 28 (fun _=>0):=by rw [←hU,←hH];exact ((cells_zero9 w).box 28).ext (Ext.alloc _ _)
 have Z0:U.heap[H]?=some (.cells zero9 28 (0,0)):=by rw [←hU,←hH];exact ((Ext.alloc _ _).block _ (Array.getElem?_eq_some_iff.1 (heap_alloc_new w (.cells zero9 28))).1).trans (heap_alloc_new w _)
 have F0:U.heap[H+1]?=some (.cells #[.int .i64 0,.int .i64 0] 30 (0,0)):=by
  have h3:=heap_alloc_new (w.alloc (.cells zero9 28)) (.cells #[.int .i64 0,.int .i64 0] 30)
  rw [←hU,←hH]
  simpa using h3
 have HRd:=Lib.hid (read_any T U hT P E K hK hP0 hP hE0 hE (bru_ext hbr E0))
 have HU:=Lib.hid hU;have HH:=Lib.hid hH;have HN0:=Lib.hid N0;have HF0:=Lib.hid F0;have HE0:=Lib.hid E0;have HZ0:=Lib.hid Z0
 clear hU hH N0 F0 E0 Z0 hT hK hP0 hP hE0 hE hbr
 go_enter_defers Tryz.func6,Tryz.ntmps6
 go_wp2_with fail
 rw [HU.out,HH.out]
 clear HU
 refine HRd.out.mono ?_
 rintro e w1 ⟨hx1,(⟨c,k,hb,rfl⟩ | ⟨cr,x,hg,rfl,hcr⟩)⟩
 ·have Hb:=Lib.hid hb
  have hF1:w1.heap[H+1]?=some (.cells #[.int .i64 0,.int .i64 0] 30 (0,0)):=(hx1.block _ (Array.getElem?_eq_some_iff.1 HF0.out).1).trans HF0.out
  have hZ1:w1.heap[H]?=some (.cells zero9 28 (0,0)):=(hx1.block _ (Array.getElem?_eq_some_iff.1 HZ0.out).1).trans HZ0.out
  have HE1:=Lib.hid (HE0.out.trans hx1);have HF1:=Lib.hid hF1;have HZ1:=Lib.hid hZ1
  clear hb hx1 hF1 hZ1 HRd HN0 HF0 HE0 HZ0
  go_wp2_with fail
  refine leaves_cons (f:=48) (args:=#[.pointer (some ⟨H+1,0,none⟩)]) (by simp) (by simp [go_sem]) ?_
  refine (rparse1_catch (H+1) c k w1 HF1.out).mono ?_
  rintro e u' w'' ⟨rfl,rfl,w2,hx2,rfl⟩
  have hF2:w2.heap[H+1]?=some (.cells #[.int .i64 0,.int .i64 0] 30 (0,0)):=(hx2.block _ (Array.getElem?_eq_some_iff.1 HF1.out).1).trans HF1.out
  have g1:(w2.setRow (H+1) #[.int .i64 (c:Int),.int .i64 (k:Int)]).heap[H+1]?=some (.cells #[.int .i64 (c:Int),.int .i64 (k:Int)] 30 (0,0)):=setRow_heap _ _ _ _ _ _ hF2
  have g0:(w2.setRow (H+1) #[.int .i64 (c:Int),.int .i64 (k:Int)]).heap[H]?=some (.cells zero9 28 (0,0)):=(setRow_other _ _ _ _ (by omega)).trans ((hx2.block _ (Array.getElem?_eq_some_iff.1 HZ1.out).1).trans HZ1.out)
  have HE2:=Lib.hid (show Ext w (w2.setRow (H+1) #[.int .i64 (c:Int),.int .i64 (k:Int)]) from by
   have c2:=setRow_only w2 (H+1) #[.int .i64 (c:Int),.int .i64 (k:Int)]
   have E2:=HE1.out.trans hx2
   refine ⟨c2.os.trans E2.os,c2.tape.trans E2.tape,c2.output.trans E2.output,by rw [c2.size];exact E2.size,fun k hk=>?_⟩
   rw [c2.block k (by rw [HH.out] at hk;omega)]
   exact E2.block k hk)
  clear hF2 hx2
  generalize w2.setRow (H+1) #[.int .i64 (c:Int),.int .i64 (k:Int)]=Wz at *
  have hres:=fun (tm:Array Value) (h1:tm.getD 2 undef=.pointer (some ⟨H,0,none⟩)) (h2:tm.getD 3 undef=.pointer (some ⟨H+1,0,none⟩))=>results_row2 (P:=Tryz.prog) (fn:=Tryz.f6) (p:=2) (q:=3) rfl tm Wz H (H+1) _ _ _ _ _ _ _ _ h1 h2 g0 g1 Tryz.underlying28 rfl rnum_info Tryz.underlying30 rfl fault_info
  show Leaves _ _ _ _ [] .returning Wz
  exact ⟨_,hres _ rfl rfl,HE2.out,Or.inl ⟨c,k,Hb.out,rfl⟩⟩
 obtain ⟨c1,hr1,hs1,hone,hinf,rr,hnm,hE'⟩:=fin_num hcr (HN0.out.ext hx1) (HE0.out.trans hx1) (by rw [HH.out];exact Nat.le_refl _)
 have hF5:(w1.setRow H cr).heap[H+1]?=some (.cells #[.int .i64 0,.int .i64 0] 30 (0,0)):=(setRow_other w1 H (H+1) cr (by omega)).trans ((hx1.block _ (Array.getElem?_eq_some_iff.1 HF0.out).1).trans HF0.out)
 have hself:=setRow_self (w1.setRow H cr) (H+1) _ _ _ hF5
 have honeF:=fault_one 0 0
 have Hend:=Lib.hid (And.intro hnm hE');have Hg:=Lib.hid hg;have Hself:=Lib.hid hself
 clear hnm hE' hcr hg hx1 HRd HN0 HF0 HE0 HZ0 hself
 go_wp2_with (first
  | refine wpList_store_row rfl 28 _ _ rfl H cr rfl rfl 28 _ hr1 hinf hs1 hone ?_
  | refine wpList_store_row rfl 30 _ _ rfl (H+1) #[.int .i64 0,.int .i64 0] rfl rfl 30 _ hF5 fault_info rfl honeF ?_)
 rw [Hself.out]
 clear Hself
 refine leaves_cons (f:=48) (args:=#[.pointer (some ⟨H+1,0,none⟩)]) (by simp) (by simp [go_sem]) ?_
 refine (rparse1_idle ⟨H+1,0,none⟩ _).mono ?_
 rintro e u' w'' ⟨rfl,rfl,rfl⟩
 generalize w1.setRow H cr=Wz at *
 have hres:=fun (tm:Array Value) (h1:tm.getD 2 undef=.pointer (some ⟨H,0,none⟩)) (h2:tm.getD 3 undef=.pointer (some ⟨H+1,0,none⟩))=>results_row2 (P:=Tryz.prog) (fn:=Tryz.f6) (p:=2) (q:=3) rfl tm Wz H (H+1) _ _ _ _ _ _ _ _ h1 h2 rr hF5 Tryz.underlying28 rfl hinf Tryz.underlying30 rfl fault_info
 show Leaves _ _ _ _ [] .returning Wz
 exact ⟨_,hres _ rfl rfl,Hend.out.2,Or.inr ⟨cr,x,Hg.out,rfl,Hend.out.1⟩⟩
section
variable {P:Program} {md:Region.Mode} {ops:Array Oper} {Q:Exit→Act→World→Prop} {S:World→Prop}
theorem anyH_call {i:Nat} {o:Oper} {n:Nat} {l:Array Bool} {a:Act} {w:World} (hr:Region.ready md ops l=[i]) (ho:ops[i]?=some o) (hw:Region.wanted o (yielded ops a.tmps)=true) (f:FuncId) (args:Array Value)
  (hrun:(execOp a.eval o).run P w=.ok (.enter f args) w) {R:Value→World→Prop} (hc:Calls P f args w fun e w'=>∃ v,e=.returned v∧R v w')
  (h:∀ v w',R v w'→S w'∧wpAnyH P md ops Q S n (l.setIfInBounds i true) (a.put o.dst v) w'):wpAnyH P md ops Q S (n+1) l a w:=by
 refine ⟨fun h0=>(by rw [hr] at h0;cases h0),fun j hj=>?_⟩
 rw [hr] at hj
 rcases List.mem_singleton.1 hj with rfl
 refine wpOp_step ho fun K' hK=>?_
 rw [if_pos hw]
 unfold Oper.wp
 rw [hrun,Oper.upon_enter]
 refine hc.mono ?_
 rintro e w' ⟨v,rfl,hv⟩
 exact hK _ _ (h v w' hv)
theorem anyH_cast {n:Nat} {l l':Array Bool} {a a':Act} {w:World} (ha:a=a') (hl:l=l') (h:wpAnyH P md ops Q S n l' a' w):wpAnyH P md ops Q S n l a w:=by subst ha hl;exact h
theorem anyH_done {l:Array Bool} {a:Act} {w:World} (hr:Region.ready md ops l=[]) (h:Q .normal a w) (n:Nat):wpAnyH P md ops Q S n l a w:=by
 cases n with
 | zero=>exact ⟨hr,h⟩
 | succ n=>exact ⟨fun _=>h,by rw [hr];intro i hi;cases hi⟩
theorem act_cast {a a':Act} {w:World} (ha:a=a') (h:Q .normal a' w):Q .normal a w:=by subst ha;exact h
end
theorem new2_a (w:World):((w.alloc (.cells zero9 28)).alloc (.cells #[.int .i64 0,.int .i64 0] 30)).heap[w.heap.size]?=some (.cells zero9 28 (0,0)):=((Ext.alloc _ _).block _ (Array.getElem?_eq_some_iff.1 (heap_alloc_new w (.cells zero9 28))).1).trans (heap_alloc_new w _)
theorem new2_c (w:World):((w.alloc (.cells zero9 28)).alloc (.cells #[.int .i64 0,.int .i64 0] 30)).heap[w.heap.size+1]?=some (.cells #[.int .i64 0,.int .i64 0] 30 (0,0)):=by
 have h3:=heap_alloc_new (w.alloc (.cells zero9 28)) (.cells #[.int .i64 0,.int .i64 0] 30)
 simpa using h3
theorem new2_b (w:World) (cr:Array Value):(((w.alloc (.cells zero9 28)).alloc (.cells #[.int .i64 0,.int .i64 0] 30)).setRow w.heap.size cr).heap[w.heap.size+1]?=some (.cells #[.int .i64 0,.int .i64 0] 30 (0,0)):=(setRow_other _ _ _ _ (by omega)).trans (new2_c w)
theorem new2 (w:World) (cr fl:Array Value):∃ V,(((w.alloc (.cells zero9 28)).alloc (.cells #[.int .i64 0,.int .i64 0] 30)).setRow w.heap.size cr).setRow (w.heap.size+1) fl=V∧Ext w V∧V.heap[w.heap.size]?=some (.cells cr 28 (0,0))∧V.heap[w.heap.size+1]?=some (.cells fl 30 (0,0)):=by
 refine ⟨_,rfl,?_,?_,?_⟩
 ·have E0:Ext w ((w.alloc (.cells zero9 28)).alloc (.cells #[.int .i64 0,.int .i64 0] 30)):=(Ext.alloc _ _).trans (Ext.alloc _ _)
  have c1:=setRow_only ((w.alloc (.cells zero9 28)).alloc (.cells #[.int .i64 0,.int .i64 0] 30)) w.heap.size cr
  have c2:=setRow_only (((w.alloc (.cells zero9 28)).alloc (.cells #[.int .i64 0,.int .i64 0] 30)).setRow w.heap.size cr) (w.heap.size+1) fl
  refine ⟨c2.os.trans (c1.os.trans E0.os),c2.tape.trans (c1.tape.trans E0.tape),c2.output.trans (c1.output.trans E0.output),by rw [c2.size,c1.size];exact E0.size,fun k hk=>?_⟩
  rw [c2.block k (by omega),c1.block k (by omega)]
  exact E0.block k hk
 ·exact (setRow_other _ _ _ _ (by omega)).trans (setRow_heap _ _ _ _ _ _ (new2_a w))
 ·exact setRow_heap _ _ _ _ _ _ (new2_b w cr)
def IBlk (w:World) (b:Nat):Prop:=∃ (cur:Array Value) (fr:Nat × Nat),w.heap[b]?=some (.cells cur 3 fr)
theorem IBlk.lt {w:World} {b:Nat} (h:IBlk w b):b<w.heap.size:=by
 obtain ⟨cur,fr,h⟩:=h
 exact (Array.getElem?_eq_some_iff.1 h).1
theorem IBlk.block {w w':World} {b:Nat} (h:IBlk w b) (k:w'.heap[b]?=w.heap[b]?):IBlk w' b:=by
 obtain ⟨cur,fr,h⟩:=h
 exact ⟨cur,fr,k.trans h⟩
def ISeg (w:World) (ao:Option Addr) (l:List Nat):Prop :=
 (ao=none∧l=[])∨∃ b o,ao=some ⟨b,o,none⟩∧IBlk w b∧∀ t,t<l.length→w.cell? ⟨b,o+t,none⟩=some (.int .i64 (l.getD t 0:Nat))
theorem ISeg.ext {w w':World} {ao:Option Addr} {l:List Nat} (h:ISeg w ao l) (k:Ext w w'):ISeg w' ao l:=by
 rcases h with h | ⟨b,o,rfl,hb,hc⟩
 ·exact Or.inl h
 ·exact Or.inr ⟨b,o,rfl,hb.block (k.block b hb.lt),fun t ht=>(k.cell (p:=⟨b,o+t,none⟩) hb.lt).trans (hc t ht)⟩
theorem ISeg.take {w:World} {ao:Option Addr} {l:List Nat} (h:ISeg w ao l) (n:Nat):ISeg w ao (l.take n):=by
 rcases h with ⟨rfl,rfl⟩ | ⟨b,o,rfl,hb,hc⟩
 ·exact Or.inl ⟨rfl,by simp⟩
 ·refine Or.inr ⟨b,o,rfl,hb,fun t ht=>?_⟩
  rw [List.length_take] at ht
  rw [hc t (by omega)]
  simp only [List.getD_eq_getElem?_getD,List.getElem?_take]
  rw [if_pos (by omega)]
theorem ISeg.at {w:World} {b o:Nat} {l:List Nat} (h:ISeg w (some ⟨b,o,none⟩) l) (t:Nat) (ht:t<l.length):w.cell? ⟨b,o+t,none⟩=some (.int .i64 (l.getD t 0:Nat)):=by
 rcases h with ⟨h,_⟩ | ⟨b',o',h,_,hc⟩
 ·cases h
 ·simp only [Option.some.injEq,Addr.mk.injEq,and_true] at h
  obtain ⟨rfl,rfl⟩:=h
  exact hc t ht
theorem ISeg.some_of {w:World} {ao:Option Addr} {l:List Nat} (h:ISeg w ao l) (hl:0<l.length):∃ b o,ao=some ⟨b,o,none⟩:=by
 rcases h with ⟨_,rfl⟩ | ⟨b,o,h,_⟩
 ·simp at hl
 ·exact ⟨b,o,h⟩
def zval:List Nat→Nat
 | []=>0
 | x :: r=>x+10000*zval r
theorem zval_append (a b:List Nat):zval (a++b)=zval a+10000 ^ a.length*zval b:=by
 induction a with
 | nil=>simp [zval]
 | cons x r ih =>
  rw [List.cons_append,zval,ih,zval,List.length_cons,Nat.pow_succ,Nat.mul_add]
  rw [Nat.mul_comm (10000 ^ r.length) 10000,Nat.mul_assoc]
  omega
theorem zval_snoc (l:List Nat) (x:Nat):zval (l++[x])=zval l+10000 ^ l.length*x:=by rw [zval_append];simp [zval]
def ZD (l:List Nat):Prop:=∀ x ∈ l,x<10000
theorem ZD.nil:ZD []:=fun _ h=>by simp at h
theorem ZD.snoc {l:List Nat} {x:Nat} (h:ZD l) (hx:x<10000):ZD (l++[x]):=fun y hy=>by
 simp only [List.mem_append,List.mem_singleton] at hy
 rcases hy with hy | rfl
 ·exact h y hy
 ·exact hx
theorem ZD.take {l:List Nat} (h:ZD l) (n:Nat):ZD (l.take n):=fun x hx=>h x (List.mem_of_mem_take hx)
theorem ZD.get {l:List Nat} (h:ZD l) (t:Nat):l.getD t 0<10000:=by
 rw [List.getD_eq_getElem?_getD]
 by_cases ht:t<l.length
 ·rw [List.getElem?_eq_getElem ht];exact h _ (List.getElem_mem ht)
 ·rw [List.getElem?_eq_none (by omega)];decide
theorem zval_lt {l:List Nat} (h:ZD l):zval l<10000 ^ l.length:=by
 induction l with
 | nil=>simp [zval]
 | cons x r ih =>
  have h1:=h x (List.mem_cons_self ..)
  have h2:=ih (fun y hy=>h y (List.mem_cons_of_mem _ hy))
  rw [zval,List.length_cons,Nat.pow_succ]
  omega
def ZN (l:List Nat):Prop:=l=[]∨l.getD (l.length-1) 0≠0
theorem take_zsucc (l:List Nat) (k:Nat) (h:k<l.length):l.take (k+1)=l.take k++[l.getD k 0]:=by
 rw [List.take_add_one,List.getD_eq_getElem?_getD,List.getElem?_eq_getElem h]
 rfl
def IsZ (w:World) (neg:Bool) (ao:Option Addr) (n c:Nat) (z:Int):Prop :=
 ∃ l:List Nat,l.length=n∧n≤c∧c≤maxLen∧ISeg w ao l∧ZD l∧ZN l∧z=(if neg then -(zval l:Int) else (zval l:Int))∧(l=[]→neg=false)
theorem IsZ.ext {w w':World} {neg:Bool} {ao:Option Addr} {n c:Nat} {z:Int} (h:IsZ w neg ao n c z) (k:Ext w w'):IsZ w' neg ao n c z:=by
 obtain ⟨l,h1,h2,h3,h4,h5⟩:=h
 exact ⟨l,h1,h2,h3,h4.ext k,h5⟩
theorem IsZ.zero (w:World):IsZ w false none 0 0 0:=⟨[],rfl,Nat.le_refl _,Nat.zero_le _,Or.inl ⟨rfl,rfl⟩,ZD.nil,Or.inl rfl,rfl,fun _=>rfl⟩
theorem IsZ.cast {w:World} {neg:Bool} {ao:Option Addr} {n c:Nat} {z z':Int} (h:IsZ w neg ao n c z) (e:z=z'):IsZ w neg ao n c z':=e ▸ h
theorem ISeg.keepRes {w:World} {g:Nat} {ao:Option Addr} {l:List Nat} {x:Bool} {p:Option Addr} {q r:Nat} {T:TypeId} (h:ISeg w ao l) (hg:w.heap[g]?=some (.cells #[.bool x,.slice p q r] T (0,0))) (u v:Value) :
  ISeg ((w.setCell ⟨g,0,none⟩ u).setCell ⟨g,1,none⟩ v) ao l:=by
 rcases h with h | ⟨b,o,rfl,hb,hc⟩
 ·exact Or.inl h
 ·have hO:Only g w ((w.setCell ⟨g,0,none⟩ u).setCell ⟨g,1,none⟩ v):=((Only.refl _ _).setCell _ _).setCell _ _
  have hbk:IBlk ((w.setCell ⟨g,0,none⟩ u).setCell ⟨g,1,none⟩ v) b:=by
   by_cases hbg:b=g
   ·subst hbg
    obtain ⟨cur,fr,hcur⟩:=hb
    rw [hg] at hcur
    cases hcur
    have q1:=heap_setCell_same w b 0 _ _ u hg
    have q2:=heap_setCell_same (w.setCell ⟨b,0,none⟩ u) b 1 _ _ v q1
    exact ⟨_,_,q2⟩
   ·exact hb.block (hO.block b hbg)
  refine Or.inr ⟨b,o,rfl,hbk,fun t ht=>?_⟩
  have h1:=hc t ht
  by_cases hbg:b=g
  ·subst hbg
   rw [cell_of_row w b (o+t) _ T (0,0) hg] at h1
   match o+t,h1 with
   | 0,h1=>simp at h1
   | 1,h1=>simp at h1
   | k+2,h1=>simp at h1
  ·exact (World.cell?_of_block (a:=⟨b,o+t,none⟩) (hO.block b hbg)).trans h1
theorem IsZ.keepRes {w:World} {g:Nat} {neg:Bool} {ao:Option Addr} {n c:Nat} {z:Int} {x:Bool} {p:Option Addr} {q r:Nat} {T:TypeId} (h:IsZ w neg ao n c z) (hg:w.heap[g]?=some (.cells #[.bool x,.slice p q r] T (0,0))) (u v:Value) :
  IsZ ((w.setCell ⟨g,0,none⟩ u).setCell ⟨g,1,none⟩ v) neg ao n c z:=by
 obtain ⟨l,h1,h2,h3,h4,h5⟩:=h
 exact ⟨l,h1,h2,h3,h4.keepRes hg u v,h5⟩
structure ZRes (W:World) (g:Nat):Prop where
 row:W.heap[g]?=some (.cells #[.bool false,.slice none 0 0] 35 (0,0))
theorem ZRes.lt {W:World} {g:Nat} (h:ZRes W g):g<W.heap.size:=(Array.getElem?_eq_some_iff.1 h.row).1
theorem ZRes.ext {W W':World} {g:Nat} (h:ZRes W g) (k:Ext W W'):ZRes W' g:=⟨(k.block _ h.lt).trans h.row⟩
theorem ZRes.c0 {W:World} {g:Nat} (h:ZRes W g):W.cell? ⟨g,0,none⟩=some (.bool false):=by rw [cell_of_row W g 0 _ _ (0,0) h.row];rfl
theorem ZRes.c1 {W:World} {g:Nat} (h:ZRes W g):W.cell? ⟨g,1,none⟩=some (.slice none 0 0):=by rw [cell_of_row W g 1 _ _ (0,0) h.row];rfl
theorem ZRes.f {W:World} {g:Nat} (h:ZRes W g) (o:Nat):W.frozen? ⟨g,o,none⟩=false:=frozen_of_row W g o _ _ h.row
theorem zres_new (w:World):ZRes (w.alloc (.cells #[.bool false,.slice none 0 0] 35)) w.heap.size:=⟨heap_alloc_new w _⟩
theorem zval_take_zeros (l:List Nat) (k:Nat) (hk:k≤l.length) (h:∀ t,k≤t→t<l.length→l.getD t 0=0):zval (l.take k)=zval l:=by
 induction l generalizing k with
 | nil=>simp
 | cons x r ih =>
  cases k with
  | zero =>
   have hx:x=0:=by have:=h 0 (Nat.le_refl _) (by simp);simpa using this
   have:=ih 0 (by simp) (fun t _ ht=>by have:=h (t+1) (by omega) (by simpa using ht);simpa using this)
   simp only [List.take_zero] at this ⊢
   show 0=x+10000*zval r
   rw [hx,←this]
   rfl
  | succ k =>
   have:=ih k (by simpa using hk) (fun t h1 ht=>by have:=h (t+1) (by omega) (by simpa using ht);simpa using this)
   rw [List.take_succ_cons,zval,zval,this]
theorem ext_alloc (w:World) (o:Obj):Ext w (w.alloc o):=(Below.refl _ _).alloc (Nat.le_refl _) o
def ZRet (w:World) (z:Int) (n:Nat) (e:Ending) (w':World):Prop:=∃ (b':Bool) (a':Option Addr) (n' c':Nat),e=.returned (.agg #[.bool b',.slice a' n' c'])∧IsZ w' b' a' n' c' z∧n'≤n∧Ext w w'
def ZRetB (w:World) (z:Int) (n:Nat) (P:Option Addr→Prop) (e:Ending) (w':World):Prop:=∃ (b':Bool) (a':Option Addr) (n' c':Nat),e=.returned (.agg #[.bool b',.slice a' n' c'])∧IsZ w' b' a' n' c' z∧n'≤n∧Ext w w'∧P a'
theorem ZRetB.ret {w:World} {z:Int} {n:Nat} {P:Option Addr→Prop} {e:Ending} {w':World} (h:ZRetB w z n P e w'):ZRet w z n e w':=by
 obtain ⟨b',a',n',c',h1,h2,h3,h4,_⟩:=h
 exact ⟨b',a',n',c',h1,h2,h3,h4⟩
theorem zmade_blk (neg:Bool) (ao:Option Addr) (l:List Nat) (n c:Nat) (w:World) (hl:l.length=n) (hs:ISeg w ao l) (hd:ZD l) (hc:n≤c) (hcm:c≤maxLen) (hn:n≤1000000) (z:Int) (hz:z=if neg then -(zval l:Int) else (zval l:Int)) :
  Calls Tryz.prog 84 #[.bool neg,.slice ao n c] w (ZRetB w z n (fun a'=>a'=none∨a'=ao)):=by
 have Hz:=Lib.hid hz
 clear hz
 have Hl:=Lib.hid hl;have Hs:=Lib.hid hs;have Hd:=Lib.hid hd
 have hE:=ext_alloc w (.cells #[.bool false,.slice none 0 0] 35)
 have hR:=zres_new w
 have hab:n=0∨∃ b o,ao=some ⟨b,o,none⟩:=by
  by_cases h0:n=0
  ·exact Or.inl h0
  ·exact Or.inr (hs.some_of (by omega))
 unfold maxLen at hcm
 clear hl hs hd
 go_enter Tryz.func84,Tryz.ntmps84
 go_wp2_with fail
 generalize w.alloc (.cells #[.bool false,.slice none 0 0] 35)=W0 at *
 have Hs0:=Lib.hid (Hs.out.ext hE)
 go_loop [5] (fun i=>∃ k:Nat,k≤n∧i=.int .i64 k∧∀ t,k≤t→t<n→l.getD t 0=0) (fun i=>(intOf i).toNat)
 case atStart=>exact ⟨n,Nat.le_refl _,rfl,fun t h1 h2=>by omega⟩
 case round =>
  obtain ⟨k,hk,rfl,hall⟩:=hrel
  have Hall:=Lib.hid hall
  clear hall
  have Hv:Hid (zval (l.take k)=zval l):=zval_take_zeros l k (by rw [Hl.out];exact hk) (by rw [Hl.out];exact Hall.out)
  have fin:∀ (hz:k=0∨l.getD (k-1) 0≠0),ZN (l.take k):=by
   intro hz
   by_cases h0:k=0
   ·subst h0;exact Or.inl (by simp)
   ·right
    have hlen:(l.take k).length=k:=by rw [List.length_take,Hl.out];omega
    rw [hlen,List.getD_eq_getElem?_getD,List.getElem?_take,if_pos (by omega),←List.getD_eq_getElem?_getD]
    exact hz.resolve_left h0
  have Fin:=Lib.hid fin
  clear fin
  by_cases hk0:k=0
  ·subst hk0
   have hv0:zval l=0:=by rw [←Hv.out];rfl
   have Hv0:=Lib.hid hv0
   have k0:=hR.c0;have k1:=hR.c1;have f0:=hR.f 0;have f1:=hR.f 1
   clear hv0
   go_wp2_with fail
   exact bodyPost_ret (v:=.agg #[.bool false,.slice none 0 0]) (by simp [results,Tryz.results84,go_sem,k0,k1]) rfl ⟨false,none,0,0,rfl,(IsZ.zero _).cast (by rw [Hz.out,Hv0.out];split<;>rfl),Nat.zero_le _,(Below.setCell hE (p:=⟨w.heap.size,0,none⟩) (Nat.le_refl _) _).setCell (p:=⟨w.heap.size,1,none⟩) (Nat.le_refl _) _,Or.inl rfl⟩
  ·have ik:(0:Int)<(k:Int):=by omega
   have ik1:(k:Int)-1=((k-1:Nat):Int):=by omega
   obtain ⟨j,rfl⟩:∃ j,k=j+1:=⟨k-1,by omega⟩
   rcases hab with h0 | ⟨b,o,rfl⟩
   ·omega
   have hcl:=Hs0.out.at j (by rw [Hl.out];omega)
   obtain ⟨x,hx⟩:∃ x,l.getD j 0=x:=⟨_,rfl⟩
   rw [hx] at hcl
   have Hx:=Lib.hid hx
   have ij:(j:Int)<(n:Int):=by omega
   have ij2:(j:Int)+1≤(c:Int):=by omega
   clear hx ik1 hk0
   by_cases hx0:x=0
   ·subst hx0
    go_wp2_with fail
    go_round
    case rel=>exact ⟨j,by omega,by go_num,fun t h1 h2=>by
     by_cases e:t=j
     ·rw [e];exact Hx.out
     ·exact Hall.out t (by omega) h2⟩
    case measure=>simp [intOf]
   ·have hxb:((x:Int) == 0)=false:=by rw [beq_eq_false_iff_ne];omega
    have hjb:((j:Int)+1 == 0)=false:=by rw [beq_eq_false_iff_ne];omega
    have Hzn:=Lib.hid (Fin.out (Or.inr (by rw [Nat.add_sub_cancel,Hx.out];exact hx0)))
    have k0:=hR.c0;have k1:=hR.c1;have f0:=hR.f 0;have f1:=hR.f 1
    clear hx0
    go_wp2_with fail
    exact bodyPost_ret (v:=.agg #[.bool neg,.slice (some ⟨b,o,none⟩) (j+1) c]) (by simp [results,Tryz.results84,go_sem,k0,k1]) rfl ⟨neg,some ⟨b,o,none⟩,j+1,c,rfl,IsZ.keepRes ⟨l.take (j+1),by rw [List.length_take,Hl.out];omega,by omega,by unfold maxLen;omega,Hs0.out.take _,Hd.out.take _,Hzn.out,by rw [Hz.out,Hv.out],fun h=>by
     have:=congrArg List.length h
     rw [List.length_take,Hl.out] at this
     simp at this
     omega⟩ hR.row _ _,by omega,(Below.setCell hE (p:=⟨w.heap.size,0,none⟩) (Nat.le_refl _) _).setCell (p:=⟨w.heap.size,1,none⟩) (Nat.le_refl _) _,Or.inr rfl⟩
theorem zmade_any (neg:Bool) (ao:Option Addr) (l:List Nat) (n c:Nat) (w:World) (hl:l.length=n) (hs:ISeg w ao l) (hd:ZD l) (hc:n≤c) (hcm:c≤maxLen) (hn:n≤1000000) (z:Int) (hz:z=if neg then -(zval l:Int) else (zval l:Int)) :
  Calls Tryz.prog 84 #[.bool neg,.slice ao n c] w (ZRet w z n) :=
 (zmade_blk neg ao l n c w hl hs hd hc hcm hn z hz).mono fun _ _ h=>h.ret
end Go.Proofs.YtiicfpdiehgikaaGreatDoor
