/-
  The reference reads numbers of circuits: RParse.
-/
import Derived.Deep.CutBlock
import Derived.Test.YtiicfpdiehgikaaGreatDoorS21FpW
namespace Go.Proofs.YtiicfpdiehgikaaGreatDoor
set_option maxRecDepth 100000
set_option maxHeartbeats 8000000
open Go.RowKit
def QPost (T:List UInt8) (w:World) (e:Ending) (w':World):Prop :=
 Ext w w'∧((∃ c k:Nat,RdBad T c k∧e=.returned (.tuple #[.agg zeroR,.agg #[.int .i64 (c:Int),.int .i64 (k:Int)]]))∨(∃ (cr:Array Value) (x:Nm),RdGood T x∧e=.returned (.tuple #[.agg cr,.agg #[.int .i64 0,.int .i64 0]])∧RmA w' cr x 3400 10000))
theorem bs_list (T:List UInt8):bs ⟨T.toArray⟩=T.map UInt8.toNat:=rfl
theorem cut_bs {S:ByteArray} {T:List UInt8} (h:bs S=T.map UInt8.toNat) (a b:Nat):bs (S.extract a b)=((T.drop a).take (b-a)).map UInt8.toNat:=by
 rw [bs_extract,h,List.map_take,List.map_drop]
theorem char_at {S:ByteArray} {T:List UInt8} (h:bs S=T.map UInt8.toNat) {k:Nat} (hk:k<S.size) (n:Nat) (hn:n<256):S[k].toNat=n↔T[k]?=some (UInt8.ofNat n):=by
 have h1:=bs_at S k hk
 have h2:k<T.length:=by have:=congrArg List.length h;rw [bs_length,List.length_map] at this;omega
 rw [h1,h,List.getD_eq_getElem?_getD,List.getElem?_map,List.getElem?_eq_getElem h2]
 simp only [Option.map_some,Option.getD_some,Option.some.injEq]
 exact (tn_eq hn).symm
theorem zcs_row {w:World} {cs:Array Value} {f:Nat→Int} {e:Int} (h:ZCs w cs f e) {g:Nat} {c0:Array Value} {t:TypeId} (hr:w.heap[g]?=some (.cells c0 t (0,0))) (ht:t≠3) (cs':Array Value):ZCs (w.setRow g cs') cs f e:=h.chz (ChZ.of_only (setRow_only w g cs')) ⟨_,_,_,hr,ht⟩
theorem QParse_any (T:List UInt8) (w:World) (hT:T.length≤17592186044416) :
  Calls Tryz.prog 7 #[.string ⟨T.toArray⟩] w (QPost T w):=by
 obtain ⟨S,hS⟩:∃ S:ByteArray,(⟨T.toArray⟩:ByteArray)=S:=⟨_,rfl⟩
 have HbS:=Lib.hid (show bs S=T.map UInt8.toNat by rw [←hS];exact bs_list T)
 rw [hS]
 have hSz:S.size=T.length:=by rw [←bs_length,HbS.out,List.length_map]
 have HSz:=Lib.hid hSz;have HT:=Lib.hid hT;have HS:=Lib.hid hS
 have HN:=Lib.hid hSz
 obtain ⟨P,hP⟩:∃ P:Nat,P=3400:=⟨_,rfl⟩
 have HP:=Lib.hid hP
 obtain ⟨H,hH⟩:∃ H,w.heap.size=H:=⟨_,rfl⟩
 obtain ⟨U,hU⟩:∃ U,((w.alloc (.cells zeroR 38)).alloc (.cells #[.int .i64 0,.int .i64 0] 30)).alloc (.cells zeroR 38)=U:=⟨_,rfl⟩
 have E0:Ext w U:=by rw [←hU];exact ((Ext.alloc _ _).trans (Ext.alloc _ _)).trans (Ext.alloc _ _)
 have Z0:ZVar U H (fun _=>0) 0:=by rw [←hU,←hH];exact ((zcs_zero w).box.ext (Ext.alloc _ _)).ext (Ext.alloc _ _)
 have F0':U.heap[H+1]?=some (.cells #[.int .i64 0,.int .i64 0] 30 (0,0)):=by
  have h3:=heap_alloc_new (w.alloc (.cells zeroR 38)) (.cells #[.int .i64 0,.int .i64 0] 30)
  have h4:=((Ext.alloc ((w.alloc (.cells zeroR 38)).alloc (.cells #[.int .i64 0,.int .i64 0] 30)) (.cells zeroR 38)).block _ (Array.getElem?_eq_some_iff.1 h3).1).trans h3
  rw [←hU,←hH]
  simpa using h4
 have O0:ZVar U (H+2) (pF [] 0) 0:=by
  have:=(zcs_zero ((w.alloc (.cells zeroR 38)).alloc (.cells #[.int .i64 0,.int .i64 0] 30))).box
  rw [←hU,←hH]
  have e:pF [] 0=fun _=>0:=by funext i;simp [pF]
  rw [e]
  simpa using this
 have sz:((w.alloc (.cells zeroR 38)).alloc (.cells #[.int .i64 0,.int .i64 0] 30)).heap.size=H+2:=by rw [←hH];simp
 have Hst:=Lib.hid (show ZVar U (H+2) (pF [] 0) 0∧ZVar U H (fun _=>0) 0∧U.heap[H+1]?=some (.cells #[.int .i64 0,.int .i64 0] 30 (0,0))∧Ext w U from ⟨O0,Z0,F0',E0⟩)
 have HU:=Lib.hid hU;have HH:=Lib.hid hH;have Hsz:=Lib.hid sz
 clear hU hH Z0 F0' O0 E0 sz hSz hT hS hP
 go_enter Tryz.func7,Tryz.ntmps7
 go_wp2_with fail
 rw [HU.out]
 try rw [Hsz.out]
 rw [HH.out]
 clear HU Hsz
 go_loopg [5,6,7] 8 (fun kk s5 s6 s7 wr=>∃ (i k:Nat) (acc:List (List UInt8)) (lg:Bool),s5=.int .i64 (k:Int)∧s6=.bool lg∧s7=.int .i64 (i:Int)∧acc.length=i∧i≤7∧8-i=kk∧k≤T.length∧rdS T=rdL T i acc k∧(∀ p ∈ acc,NumT p)∧(lg=true↔LongP acc)∧ZVar wr (H+2) (pF acc i) 0∧ZVar wr H (fun _=>0) 0∧wr.heap[H+1]?=some (.cells #[.int .i64 0,.int .i64 0] 30 (0,0))∧Ext w wr)
 case atStart=>exact ⟨0,0,[],false,rfl,rfl,rfl,rfl,by omega,by omega,Nat.zero_le _,rdL_start T,by simp,by simp [LongP],Hst.out⟩
 case round =>
  clear Hst
  obtain ⟨i,k,acc,lg,rfl,rfl,rfl,hi,hi7,hkk,hkT,hrd,hnum,hlg,hA,hZ,hF,hEw⟩:=hrel
  obtain ⟨wo,rfl⟩:∃ wo:World,wo=wr:=⟨_,rfl⟩
  have q1:(i:Int)<8:=by omega
  have q0:(0:Int)≤(i:Int):=by omega
  have k0:(0:Int)≤(k:Int):=by omega
  have kN:(k:Int)≤(S.size:Int):=by have:=HN.out;omega
  obtain ⟨L,hL⟩:∃ L,T.drop k=L:=⟨_,rfl⟩
  have hLl:L.length=T.length-k:=by rw [←hL,List.length_drop]
  obtain ⟨t,ht⟩:∃ t,S.extract k S.size=t:=⟨_,rfl⟩
  have hbt:bs t=L.map UInt8.toNat:=by
   rw [←ht,cut_bs HbS.out,hL,List.take_of_length_le (by have:=HN.out;omega)]
  have hts:t.size=L.length:=by rw [←bs_length,hbt,List.length_map]
  obtain ⟨n,hn⟩:∃ n,numK L=n:=⟨_,rfl⟩
  have hnL:=numK_le L
  obtain ⟨m,hm⟩:∃ m,k+n=m:=⟨_,rfl⟩
  have hmT:m≤T.length:=by omega
  have wm:IntKind.i64.wrap ((k:Int)+(n:Int))=(m:Int):=by have:=HT.out;rw [IntKind.wrap_i64];omega
  have kI:(k:Int)≤(m:Int):=by omega
  have mN:(m:Int)≤(S.size:Int):=by have:=HN.out;omega
  have hW:=word_any t wo (by have:=HT.out;omega)
  rw [hbt,scan_eq] at hW
  dsimp only at hW
  rw [hn] at hW
  have Hi:=Lib.hid hi;have Hi7:=Lib.hid hi7;have Hkk:=Lib.hid hkk;have HkT:=Lib.hid hkT;have Hrd:=Lib.hid hrd;have Hnum:=Lib.hid hnum;have Hlg:=Lib.hid hlg;have HA:=Lib.hid hA;have HL:=Lib.hid hL;have Hm:=Lib.hid hm;have HmT:=Lib.hid hmT;have Hn:=Lib.hid hn;have HLl:=Lib.hid hLl;have HnL:=Lib.hid hnL
  cases hok:numOk L with
  | false =>
   rw [hok] at hW
   have HW:=Lib.hid hW
   have Hbad:=Lib.hid (show RdBad T 1 m from Or.inl ⟨by rw [hrd,rdL_bad hL hn hok,hm],rfl⟩)
   have HZ:=Lib.hid hZ;have HF:=Lib.hid hF;have HEw:=Lib.hid hEw
   clear hW hi hi7 hkk hkT hrd hnum hlg hA hL hLl hbt hts hn hnL hm hmT hok hZ hF hEw
   go_wp2_with fail
   refine HW.out.mono ?_
   rintro e w2 ⟨rfl,rfl⟩
   have hZ:=HZ.out;have hF:=HF.out;have hEw:=HEw.out
   clear HW HZ HF HEw ht q0 k0 kN kI mN
   obtain ⟨c0,N0,s0⟩:=hZ
   have F1:(wo.setRow H zeroR).heap[H+1]?=some (.cells #[.int .i64 0,.int .i64 0] 30 (0,0)):=(setRow_other wo H (H+1) zeroR (by omega)).trans hF
   have G0:((wo.setRow H zeroR).setRow (H+1) #[.int .i64 1,.int .i64 (m:Int)]).heap[H]?=some (.cells zeroR 38 (0,0)):=(setRow_other _ (H+1) H _ (by omega)).trans (setRow_heap wo H _ zeroR _ _ N0)
   have G1:((wo.setRow H zeroR).setRow (H+1) #[.int .i64 1,.int .i64 (m:Int)]).heap[H+1]?=some (.cells #[.int .i64 1,.int .i64 (m:Int)] 30 (0,0)):=setRow_heap _ (H+1) _ _ _ _ F1
   have hE':Ext w ((wo.setRow H zeroR).setRow (H+1) #[.int .i64 1,.int .i64 (m:Int)]):=ext_setRowQ (ext_setRowQ hEw (g:=H) (by rw [HH.out];exact Nat.le_refl _) _) (g:=H+1) (by rw [HH.out];omega) _
   have hszz:c0.size=zeroR.size:=by rw [s0.1];rfl
   have honeR:=(zcs_zero wo).one
   have hinfR:=zR_info
   have honeF:=fault_one 1 (m:Int)
   have Hend:=Lib.hid (show QPost T w (.returned (.tuple #[.agg zeroR,.agg #[.int .i64 1,.int .i64 (m:Int)]])) ((wo.setRow H zeroR).setRow (H+1) #[.int .i64 1,.int .i64 (m:Int)]) from ⟨hE',Or.inl ⟨_,_,Hbad.out,rfl⟩⟩)
   clear hE' s0
   go_wp2_with (first
    | refine wpList_store_row rfl 38 _ _ rfl H zeroR rfl rfl 38 _ N0 hinfR hszz honeR ?_
    | refine wpList_store_row rfl 30 _ _ rfl (H+1) #[.int .i64 1,.int .i64 (m:Int)] rfl rfl 30 _ F1 fault_info rfl honeF ?_)
   refine bodyPost_ret (v:=.tuple #[.agg zeroR,.agg #[.int .i64 1,.int .i64 (m:Int)]]) ?_ rfl Hend.out
   exact results_row2 rfl _ _ H (H+1) _ _ _ _ _ _ _ _ rfl rfl G0 G1 Tryz.underlying38 rfl hinfR Tryz.underlying30 rfl fault_info
  | true =>
  rw [hok] at hW
  have HW:=Lib.hid hW;have Hok:=Lib.hid hok
  obtain ⟨p,hp⟩:∃ p,L.take n=p:=⟨_,rfl⟩
  obtain ⟨t2,ht2⟩:∃ t2,S.extract k m=t2:=⟨_,rfl⟩
  have hbt2:bs t2=p.map UInt8.toNat:=by
   rw [←ht2,cut_bs HbS.out,hL,←hp,show m-k=n by omega]
  have hts2:t2.size=p.length:=by rw [←bs_length,hbt2,List.length_map]
  have hpT:NumT p:=by rw [←hp,←hn];exact numT_take hok
  have hpl:p.length≤T.length:=by rw [←hp,List.length_take];omega
  have hD:=fun wx=>digitsOf_any t2 wx (by have:=HT.out;omega)
  obtain ⟨dd,hdd⟩:∃ dd,t2.size-sgl (bs t2)=dd:=⟨_,rfl⟩
  rw [hdd] at hD
  have hddc:pcU p=0↔¬ 1000<dd:=by rw [hpT.pc.2.2,←hdd,hts2,hbt2]
  have HD:=Lib.hid hD;have Hp:=Lib.hid hp;have HpT:=Lib.hid hpT;have Hbt2:=Lib.hid hbt2;have Hts2:=Lib.hid hts2;have Hddc:=Lib.hid hddc
  have HZ:=Lib.hid hZ;have HF:=Lib.hid hF;have HEw:=Lib.hid hEw
  clear hW hi hi7 hkk hkT hrd hnum hlg hA hL hLl hbt hts hn hnL hm hmT hok hZ hF hEw hp hbt2 hts2 hpT hpl hD hdd hddc
  go_wp2_with fail
  refine HW.out.mono ?_
  rintro e w2 ⟨rfl,rfl⟩
  clear HW ht kN
  go_wp2_with fail
  refine (HD.out wo).mono ?_
  rintro e w2 ⟨rfl,rfl⟩
  clear HD
  go_upto_if 39 with fail
  go_cut [6] from 39 to 49 (fun s6 wx=>∃ lg':Bool,s6=.bool lg'∧(lg'=true↔LongP (acc++[p]))∧ZVar wx (H+2) (pF (acc++[p]) (acc++[p]).length) 0∧ZVar wx H (fun _=>0) 0∧wx.heap[H+1]?=some (.cells #[.int .i64 0,.int .i64 0] 30 (0,0))∧Ext w wx)
  case first =>
   by_cases hlong:1000<dd
   ·have b1:(1000:Int)<(dd:Int):=by omega
    have hpc:pcU p≠0:=fun g=>Hddc.out.1 g hlong
    have HR:=Lib.hid (show ∃ lg':Bool,Value.bool true=.bool lg'∧(lg'=true↔LongP (acc++[p]))∧ZVar wo (H+2) (pF (acc++[p]) (acc++[p]).length) 0∧ZVar wo H (fun _=>0) 0∧wo.heap[H+1]?=some (.cells #[.int .i64 0,.int .i64 0] 30 (0,0))∧Ext w wo from
     ⟨true,rfl,by rw [longP_snoc];simp [hpc],HA.out.congr (fun j _=>by rw [←Hi.out];exact pF_same acc (pz_long HpT.out hpc) j),HZ.out,HF.out,HEw.out⟩)
    clear hlong hpc
    go_wp2_with fail
    go_meet
    exact HR.out
   ·have b1:¬ (1000:Int)<(dd:Int):=by omega
    have hpc:pcU p=0:=Hddc.out.2 hlong
    have hsl:=(sgl_le (p.map UInt8.toNat)).2
    have hsz2:t2.size≤1000000:=by
     have h1:=HpT.out.pc.2.2.1 hpc
     rw [Hts2.out];omega
    have hR:=zread_blk t2 wo (allD_of_scan _ (by rw [Hbt2.out,HpT.out.code]) (by rw [Hbt2.out,HpT.out.code];simp)) hsz2 (pzU p) (by rw [Hbt2.out];exact pz_val HpT.out hpc)
    have HRd:=Lib.hid hR
    have Hpc:=Lib.hid hpc
    clear hlong hpc hsl hsz2 hR
    obtain ⟨o2,ho2⟩:∃ o2,i*2=o2:=⟨_,rfl⟩
    go_wp2_with fail
    refine HRd.out.mono ?_
    rintro e w3 ⟨b3,a3,n3,c3,rfl,hI3,-,hx3,-⟩
    have hV3:=HA.out.ext hx3
    obtain ⟨bb,aa,nn,cc,y0,y1,g0,g1,_⟩:=hV3.get i (by omega)
    have hset:=hV3.set i (by omega) hI3
    have hX9:Ext w ((w3.setCell ⟨H+2,i*2,none⟩ (.bool b3)).setCell ⟨H+2,i*2+1,none⟩ (.slice a3 n3 c3)):=hset.2.ext (HEw.out.trans hx3) (by rw [HH.out];omega)
    have HR:=Lib.hid (show ∃ lg':Bool,Value.bool lg=.bool lg'∧(lg'=true↔LongP (acc++[p]))∧ZVar ((w3.setCell ⟨H+2,i*2,none⟩ (.bool b3)).setCell ⟨H+2,i*2+1,none⟩ (.slice a3 n3 c3)) (H+2) (pF (acc++[p]) (acc++[p]).length) 0∧ZVar ((w3.setCell ⟨H+2,i*2,none⟩ (.bool b3)).setCell ⟨H+2,i*2+1,none⟩ (.slice a3 n3 c3)) H (fun _=>0) 0∧((w3.setCell ⟨H+2,i*2,none⟩ (.bool b3)).setCell ⟨H+2,i*2+1,none⟩ (.slice a3 n3 c3)).heap[H+1]?=some (.cells #[.int .i64 0,.int .i64 0] 30 (0,0))∧Ext w ((w3.setCell ⟨H+2,i*2,none⟩ (.bool b3)).setCell ⟨H+2,i*2+1,none⟩ (.slice a3 n3 c3)) from
     ⟨lg,rfl,by rw [longP_snoc];simp [Hpc.out,Hlg.out],hset.1.congr (fun j _=>by rw [←pF_snoc acc p j,Hi.out]),(HZ.out.ext hx3).chz hset.2 hV3.no (by omega),hset.2.row ((hx3.block _ (Array.getElem?_eq_some_iff.1 HF.out).1).trans HF.out) (by omega),hX9⟩)
    clear hset hX9 hV3 hI3 hx3 HRd ho2
    go_wp2_with fail
    go_meet
    exact HR.out
  case rest =>
  obtain ⟨lg',rfl,hlg',hA',hZ',hF',hE'⟩:=hcut
  obtain ⟨wo2,hwo2⟩:∃ wo2,wo2=wc:=⟨_,rfl⟩
  rw [←hwo2] at hA' hZ' hF' hE' ⊢
  obtain ⟨acc',hacc'⟩:∃ acc',acc++[p]=acc':=⟨_,rfl⟩
  rw [hacc'] at hlg' hA'
  have hlen':acc'.length=i+1:=by rw [←hacc',List.length_append,Hi.out];rfl
  have hnum':∀ q ∈ acc',NumT q:=by
   rw [←hacc']
   intro q hq
   rcases List.mem_append.1 hq with hq | hq
   ·exact Hnum.out q hq
   ·rw [List.mem_singleton.1 hq];exact HpT.out
  have Hmore:=Lib.hid (show i<7→T[m]?=some 44→rdS T=rdL T (i+1) acc' (m+1) from fun h1 h2=>by
   rw [Hrd.out,←hacc',←Hp.out,←Hm.out];exact rdL_more HL.out Hn.out Hok.out h1 (by rw [Hm.out];exact h2))
  have Hlast:=Lib.hid (show (7≤i∨T[m]?≠some 44)→rdS T=rdE T acc' m from fun h1=>by
   rw [Hrd.out,←hacc',←Hp.out,←Hm.out];exact rdL_last HL.out Hn.out Hok.out (by rw [Hm.out];exact h1))
  have Hlg2:=Lib.hid hlg';have HA2:=Lib.hid hA';have HZ2:=Lib.hid hZ';have HF2:=Lib.hid hF';have HE2:=Lib.hid hE';have Hnum2:=Lib.hid hnum';have Hlen2:=Lib.hid hlen'
  clear hlg' hA' hZ' hF' hE' hwo2 hacc' hlen' hnum' Hp HpT Hbt2 Hts2 Hddc ht2 kI HZ HF HEw HA Hlg Hnum Hrd HL Hok Hn HnL HLl
  go_upto_region 14 with fail
  obtain ⟨br,hbr⟩:∃ br:Bool,br=true↔(7≤i∨T[m]?≠some 44):=by
   by_cases h:7≤i∨T[m]?≠some 44
   ·exact ⟨true,by simp [h]⟩
   ·exact ⟨false,by simp only [Bool.false_eq_true,false_iff];exact h⟩
  have Hbr:=Lib.hid hbr
  clear hbr
  go_cut [66] from 53 to 65 (fun s66 wx=>s66=.bool br∧wo2=wx)
  case first =>
   by_cases h7:i=7
   ·have hb:br=true:=Hbr.out.2 (Or.inl (by omega))
    subst hb
    have b1:((i:Int) == 7)=true:=by rw [beq_iff_eq];omega
    clear h7
    go_wp2_with fail
    go_meet
    exact ⟨rfl,rfl⟩
   have b1:((i:Int) == 7)=false:=by rw [beq_eq_false_iff_ne];omega
   by_cases hmN:m=S.size
   ·have hb:br=true:=Hbr.out.2 (Or.inr (by rw [List.getElem?_eq_none (by have:=HN.out;omega)];simp))
    subst hb
    have b2:((m:Int) == (S.size:Int))=true:=by rw [beq_iff_eq];omega
    clear h7 hmN
    go_wp2_with fail
    go_meet
    exact ⟨rfl,rfl⟩
   have b2:((m:Int) == (S.size:Int))=false:=by rw [beq_eq_false_iff_ne];omega
   have mlt:(m:Int)<(S.size:Int):=by omega
   have m0:(0:Int)≤(m:Int):=by omega
   have hmS:m<S.size:=by have:=HSz.out;have:=HN.out;omega
   have hch:=char_at HbS.out hmS 44 (by decide)
   obtain ⟨x,hx⟩:∃ x,S[m].toNat=x:=⟨_,rfl⟩
   rw [hx] at hch
   have ehx:(S[m].toNat:Int)=(x:Int):=by rw [hx]
   by_cases h44:x=44
   ·have hb:br=false:=by
     cases hb:br with
     | false=>rfl
     | true =>
      rcases Hbr.out.1 hb with h | h
      ·omega
      ·exact absurd (hch.1 h44) h
    subst hb
    have b3:((x:Int) != 44)=false:=by rw [h44];rfl
    clear h7 hmN hch hx h44
    go_wp2_with fail
    go_meet
    exact ⟨rfl,rfl⟩
   ·have hb:br=true:=Hbr.out.2 (Or.inr (fun g=>h44 (hch.2 g)))
    subst hb
    have b3:((x:Int) != 44)=true:=by
     have:(x:Int)≠44:=by omega
     simp [this]
    clear h7 hmN hch hx h44
    go_wp2_with fail
    go_meet
    exact ⟨rfl,rfl⟩
  case rest =>
  obtain ⟨rfl,rfl⟩:=hcut
  cases br with
  | false =>
   have hnot:i<7∧T[m]?=some 44:=by
    have h1:=Hbr.out
    simp only [Bool.false_eq_true,false_iff] at h1
    exact ⟨by omega,Classical.byContradiction fun g=>h1 (Or.inr g)⟩
   have Hnot:=Lib.hid hnot
   have wm1:IntKind.i64.wrap ((m:Int)+1)=((m+1:Nat):Int):=by have:=HT.out;have:=HmT.out;rw [IntKind.wrap_i64];omega
   have wi1:IntKind.i64.wrap ((i:Int)+1)=((i+1:Nat):Int):=by rw [IntKind.wrap_i64];omega
   clear hnot Hbr
   go_wp2_with fail
   go_roundg (8-(i+1))
   case measure=>have:=Hkk.out;have:=Hi7.out;omega
   case rel =>
    have h1:=Hnot.out
    have hmlt:=(List.getElem?_eq_some_iff.1 h1.2).1
    have hA2:=HA2.out
    rw [Hlen2.out] at hA2
    exact ⟨i+1,m+1,acc',lg',rfl,rfl,rfl,Hlen2.out,by omega,rfl,by omega,Hmore.out h1.1 h1.2,Hnum2.out,Hlg2.out,hA2,HZ2.out,HF2.out,HE2.out⟩
  | true =>
  have HrdE:=Lib.hid (Hlast.out (Hbr.out.1 rfl))
  have Hi8:=Lib.hid (show acc'.length≤8 by rw [Hlen2.out];have:=Hi7.out;omega)
  clear Hlast Hmore Hbr Hkk q1 q0 Hi7 Hlen2
  go_upto_region 16 with fail
  obtain ⟨bar,hbar⟩:∃ bar:Bool,bar=true↔T[m]?=some 47:=by
   by_cases h:T[m]?=some 47
   ·exact ⟨true,by simp [h]⟩
   ·exact ⟨false,by simp only [Bool.false_eq_true,false_iff];exact h⟩
  have Hbar:=Lib.hid hbar
  clear hbar
  go_cut [78] from 69 to 77 (fun s78 wx=>s78=.bool bar∧wo2=wx)
  case first =>
   by_cases hmN:m=S.size
   ·have hb:bar=false:=by
     cases hb:bar with
     | false=>rfl
     | true =>
      have h1:=Hbar.out.1 hb
      rw [List.getElem?_eq_none (by have:=HN.out;omega)] at h1
      cases h1
    subst hb
    have b2:¬ (m:Int)<(S.size:Int):=by omega
    have b2d:decide ((m:Int)<(S.size:Int))=false:=by simp;omega
    clear hmN
    go_wp2_with fail
    go_meet
    exact ⟨rfl,rfl⟩
   have mlt:(m:Int)<(S.size:Int):=by omega
   have m0:(0:Int)≤(m:Int):=by omega
   have hmS:m<S.size:=by have:=HSz.out;have:=HN.out;omega
   have hch:=char_at HbS.out hmS 47 (by decide)
   obtain ⟨x,hx⟩:∃ x,S[m].toNat=x:=⟨_,rfl⟩
   rw [hx] at hch
   have ehx:(S[m].toNat:Int)=(x:Int):=by rw [hx]
   by_cases h47:x=47
   ·have hb:bar=true:=Hbar.out.2 (hch.1 h47)
    subst hb
    have b3:((x:Int) == 47)=true:=by rw [h47];rfl
    clear hmN hch hx h47
    go_wp2_with fail
    go_meet
    exact ⟨rfl,rfl⟩
   ·have hb:bar=false:=by
     cases hb:bar with
     | false=>rfl
     | true=>exact absurd (hch.2 (Hbar.out.1 hb)) h47
    subst hb
    have b3:((x:Int) == 47)=false:=by rw [beq_eq_false_iff_ne];omega
    clear hmN hch hx h47
    go_wp2_with fail
    go_meet
    exact ⟨rfl,rfl⟩
  case rest =>
  obtain ⟨rfl,rfl⟩:=hcut
  go_upto_if 78 with fail
  go_cut [5,6] from 78 to 121 (fun s5 s6 wx=>∃ (kE:Nat) (lgE:Bool) (eE:Int),s5=.int .i64 (kE:Int)∧s6=.bool lgE∧kE≤T.length∧ZVar wx (H+2) (pF acc' acc'.length) eE∧ZVar wx H (fun _=>0) 0∧wx.heap[H+1]?=some (.cells #[.int .i64 0,.int .i64 0] 30 (0,0))∧Ext w wx∧((kE<T.length∧rdS T=.inl kE)∨(kE=T.length∧∃ dn,rdS T=.inr (acc',dn)∧(lgE=true↔LongP acc'∨LongD dn)∧(lgE=false→eE=((pzU dn).toNat:Int)))))
  case first =>
   cases bar with
   | false =>
    have hn47:T[m]?≠some 47:=fun g=>by have:=Hbar.out.2 g;cases this
    have HR:=Lib.hid (show ∃ (kE:Nat) (lgE:Bool) (eE:Int),Value.int .i64 (m:Int)=.int .i64 (kE:Int)∧Value.bool lg'=.bool lgE∧kE≤T.length∧ZVar wo2 (H+2) (pF acc' acc'.length) eE∧ZVar wo2 H (fun _=>0) 0∧wo2.heap[H+1]?=some (.cells #[.int .i64 0,.int .i64 0] 30 (0,0))∧Ext w wo2∧((kE<T.length∧rdS T=.inl kE)∨(kE=T.length∧∃ dn,rdS T=.inr (acc',dn)∧(lgE=true↔LongP acc'∨LongD dn)∧(lgE=false→eE=((pzU dn).toNat:Int)))) from by
     refine ⟨m,lg',0,rfl,rfl,HmT.out,HA2.out,HZ2.out,HF2.out,HE2.out,?_⟩
     have h1:=HrdE.out
     rw [rdE_none hn47] at h1
     by_cases h2:m<T.length
     ·rw [if_pos h2] at h1;exact Or.inl ⟨h2,h1⟩
     ·rw [if_neg h2] at h1
      have h3:pzU [48]=0:=by decide
      have h4:pcU [48]=0:=by decide
      have h5:¬ LongD [48]:=by unfold LongD;rw [h3,h4];omega
      exact Or.inr ⟨by have:=HmT.out;omega,[48],h1,by rw [Hlg2.out];simp [h5],fun _=>by rw [h3];rfl⟩)
    clear hn47
    go_wp2_with fail
    go_meet
    exact HR.out
   | true =>
    have h47:=Hbar.out.1 rfl
    have hmlt:=(List.getElem?_eq_some_iff.1 h47).1
    obtain ⟨m1,hm1⟩:∃ m1,m+1=m1:=⟨_,rfl⟩
    have wm1:IntKind.i64.wrap ((m:Int)+1)=(m1:Int):=by have:=HT.out;rw [IntKind.wrap_i64];omega
    have m10:(0:Int)≤(m1:Int):=by omega
    have m1N:(m1:Int)≤(S.size:Int):=by have:=HN.out;omega
    obtain ⟨M,hM⟩:∃ M,T.drop m1=M:=⟨_,rfl⟩
    have hMl:M.length=T.length-m1:=by rw [←hM,List.length_drop]
    obtain ⟨t3,ht3⟩:∃ t3,S.extract m1 S.size=t3:=⟨_,rfl⟩
    have hbt3:bs t3=M.map UInt8.toNat:=by
     rw [←ht3,cut_bs HbS.out,hM,List.take_of_length_le (by have:=HN.out;omega)]
    have hts3:t3.size=M.length:=by rw [←bs_length,hbt3,List.length_map]
    obtain ⟨d,hd⟩:∃ d,posN M=d:=⟨_,rfl⟩
    have hdM:=posN_le M
    have hW:=word_ff t3 wo2 (by have:=HT.out;omega)
    rw [hbt3,←posN_eq,hd] at hW
    obtain ⟨e1,he1⟩:∃ e1,m1+d=e1:=⟨_,rfl⟩
    have we1:IntKind.i64.wrap ((m1:Int)+(d:Int))=(e1:Int):=by have:=HT.out;rw [IntKind.wrap_i64];omega
    have m1e:(m1:Int)≤(e1:Int):=by omega
    have e1N:(e1:Int)≤(S.size:Int):=by have:=HN.out;omega
    have He1T:=Lib.hid (show e1≤T.length by omega)
    obtain ⟨d1,hd1⟩:∃ d1,1+d=d1:=⟨_,rfl⟩
    have wd1:IntKind.i64.wrap (1+(d:Int))=(d1:Int):=by have:=HT.out;rw [IntKind.wrap_i64];omega
    have wd2:IntKind.i64.wrap ((m:Int)+(d1:Int))=(e1:Int):=by have:=HT.out;rw [IntKind.wrap_i64];omega
    have Hm1:=Lib.hid hm1;have HM:=Lib.hid hM;have Hd:=Lib.hid hd;have H47:=Lib.hid h47;have He1:=Lib.hid he1
    by_cases hd0:d=0
    ·have b0:decide (0<d)=false:=by simp;omega
     rw [b0] at hW
     have HW:=Lib.hid hW
     have Hbad:=Lib.hid (show RdBad T 1 e1 from Or.inl ⟨by rw [HrdE.out,rdE_bar0 (L:=M) h47 (by rw [hm1];exact hM) (by omega)];congr 1;omega,rfl⟩)
     clear hW b0 hd0 h47 hmlt hm1 hM hMl hbt3 hts3 hd hdM he1 hd1
     go_wp2_with fail
     refine HW.out.mono ?_
     rintro e w2 ⟨rfl,rfl⟩
     have hZ:=HZ2.out;have hF:=HF2.out;have hEw:=HE2.out
     clear HW ht3
     obtain ⟨c0,N0,s0⟩:=hZ
     have F1:(wo2.setRow H zeroR).heap[H+1]?=some (.cells #[.int .i64 0,.int .i64 0] 30 (0,0)):=(setRow_other wo2 H (H+1) zeroR (by omega)).trans hF
     have G0:((wo2.setRow H zeroR).setRow (H+1) #[.int .i64 1,.int .i64 (e1:Int)]).heap[H]?=some (.cells zeroR 38 (0,0)):=(setRow_other _ (H+1) H _ (by omega)).trans (setRow_heap wo2 H _ zeroR _ _ N0)
     have G1:((wo2.setRow H zeroR).setRow (H+1) #[.int .i64 1,.int .i64 (e1:Int)]).heap[H+1]?=some (.cells #[.int .i64 1,.int .i64 (e1:Int)] 30 (0,0)):=setRow_heap _ (H+1) _ _ _ _ F1
     have hE':Ext w ((wo2.setRow H zeroR).setRow (H+1) #[.int .i64 1,.int .i64 (e1:Int)]):=ext_setRowQ (ext_setRowQ hEw (g:=H) (by rw [HH.out];exact Nat.le_refl _) _) (g:=H+1) (by rw [HH.out];omega) _
     have hszz:c0.size=zeroR.size:=by rw [s0.1];rfl
     have honeR:=(zcs_zero wo2).one
     have hinfR:=zR_info
     have honeF:=fault_one 1 (e1:Int)
     have Hend:=Lib.hid (show QPost T w (.returned (.tuple #[.agg zeroR,.agg #[.int .i64 1,.int .i64 (e1:Int)]])) ((wo2.setRow H zeroR).setRow (H+1) #[.int .i64 1,.int .i64 (e1:Int)]) from ⟨hE',Or.inl ⟨_,_,Hbad.out,rfl⟩⟩)
     clear hE' s0
     go_wp2_with (first
      | refine wpList_store_row rfl 38 _ _ rfl H zeroR rfl rfl 38 _ N0 hinfR hszz honeR ?_
      | refine wpList_store_row rfl 30 _ _ rfl (H+1) #[.int .i64 1,.int .i64 (e1:Int)] rfl rfl 30 _ F1 fault_info rfl honeF ?_)
     refine bodyPost_ret (v:=.tuple #[.agg zeroR,.agg #[.int .i64 1,.int .i64 (e1:Int)]]) ?_ rfl Hend.out
     exact results_row2 rfl _ _ H (H+1) _ _ _ _ _ _ _ _ rfl rfl G0 G1 Tryz.underlying38 rfl hinfR Tryz.underlying30 rfl fault_info
    ·have b0:decide (0<d)=true:=by simp;omega
     rw [b0] at hW
     have HW:=Lib.hid hW
     obtain ⟨dn,hdn⟩:∃ dn,M.take d=dn:=⟨_,rfl⟩
     have hdnT:NumT dn:=by rw [←hdn,←hd];exact numT_pos (by omega)
     have hdnl:dn.length=d:=by rw [←hdn,←hd];exact posN_len
     have hsg:sgl (dn.map UInt8.toNat)=0:=by rw [←hdn,←hd];exact posN_sgl (by omega)
     obtain ⟨t4,ht4⟩:∃ t4,S.extract m1 e1=t4:=⟨_,rfl⟩
     have hbt4:bs t4=dn.map UInt8.toNat:=by
      rw [←ht4,cut_bs HbS.out,hM,←hdn,show e1-m1=d by omega]
     have hts4:t4.size=d:=by rw [←bs_length,hbt4,List.length_map,hdnl]
     have had:AllD ((bs t4).drop (sgl (bs t4))):=allD_of_scan _ (by rw [hbt4,hdnT.code]) (by rw [hbt4,hdnT.code];simp)
     have hrd1:=HrdE.out
     rw [rdE_bar1 (L:=M) h47 (by rw [hm1];exact hM) (by omega),hd,hdn,hm1,he1] at hrd1
     have Hrd1:=Lib.hid hrd1
     have Hfin:=Lib.hid (show ∀ lgE:Bool,∀ eE:Int,(lgE=true↔LongP acc'∨LongD dn)→(lgE=false→eE=((pzU dn).toNat:Int))→((e1<T.length∧rdS T=.inl e1)∨(e1=T.length∧∃ dn,rdS T=.inr (acc',dn)∧(lgE=true↔LongP acc'∨LongD dn)∧(lgE=false→eE=((pzU dn).toNat:Int)))) from fun lgE eE h1 h2=>by
      by_cases h3:e1<T.length
      ·rw [if_pos h3] at hrd1;exact Or.inl ⟨h3,hrd1⟩
      ·rw [if_neg h3] at hrd1;exact Or.inr ⟨by have:=He1T.out;omega,dn,hrd1,h1,h2⟩)
     have hMd:M.take (posN M)=dn:=by rw [hd];exact hdn
     have d5:(d:Int)<9223372036854775807:=by have:=HT.out;omega
     by_cases hd5:5<d
     ·have b5:(5:Int)<(d:Int):=by omega
      have hlD:LongD dn:=by rw [←hMd];exact long_of_six (by omega) (by omega)
      obtain ⟨zz,hzz⟩:∃ zz:Int,zz=if sgl (bs t4)=1 then -(dval ((bs t4).drop (sgl (bs t4))):Int) else (dval ((bs t4).drop (sgl (bs t4))):Int):=⟨_,rfl⟩
      have HRd:=Lib.hid (zread_long t4 wo2 had (by have:=HT.out;omega) zz hzz)
      have HlD:=Lib.hid hlD
      clear hW b0 hd0 h47 hmlt hm1 hM hMl hbt3 hts3 hd hdM he1 hd1 hdn hdnT hdnl hsg hbt4 hts4 had hrd1 hMd hd5 hlD hzz d5
      go_wp2_with fail
      refine HW.out.mono ?_
      rintro e w2 ⟨rfl,rfl⟩
      clear HW ht3 m1N
      go_wp2_with fail
      refine HRd.out.mono ?_
      rintro e w3 ⟨b3,a3,n3,c3,rfl,_,-,hx3,-⟩
      have hx4:=hx3.trans (Ext.alloc w3 (.cells #[.bool b3,.slice a3 n3 c3] 35))
      have HR:=Lib.hid (show ∀ wx,Ext (w3.alloc (.cells #[.bool b3,.slice a3 n3 c3] 35)) wx→∃ (kE:Nat) (lgE:Bool) (eE:Int),Value.int .i64 (e1:Int)=.int .i64 (kE:Int)∧Value.bool true=.bool lgE∧kE≤T.length∧ZVar wx (H+2) (pF acc' acc'.length) eE∧ZVar wx H (fun _=>0) 0∧wx.heap[H+1]?=some (.cells #[.int .i64 0,.int .i64 0] 30 (0,0))∧Ext w wx∧((kE<T.length∧rdS T=.inl kE)∨(kE=T.length∧∃ dn,rdS T=.inr (acc',dn)∧(lgE=true↔LongP acc'∨LongD dn)∧(lgE=false→eE=((pzU dn).toNat:Int)))) from fun wx hx=>by
       have hy:=hx4.trans hx
       exact ⟨e1,true,0,rfl,rfl,He1T.out,HA2.out.ext hy,HZ2.out.ext hy,(hy.block _ (Array.getElem?_eq_some_iff.1 HF2.out).1).trans HF2.out,HE2.out.trans hy,Hfin.out true 0 (by simp [HlD.out]) (fun h=>by cases h)⟩)
      clear hx3 hx4 HRd ht4
      go_upto_region 21 with fail
      generalize w3.alloc (.cells #[.bool b3,.slice a3 n3 c3] 35)=V3 at *
      go_quiet (fail)
      go_wp2_with fail
      go_meet
      exact HR.out _ (below_drewN (Ext.refl _) _)
     ·have b5:¬ (5:Int)<(d:Int):=by omega
      have hpc:pcU dn=0:=by rw [←hMd];exact code_short (by omega) (by omega)
      have hpos:0<pzU dn:=posN_pos hpc (by rw [←hMd,posN_take];omega)
      have HRd:=Lib.hid (zread_blk t4 wo2 had (by omega) (pzU dn) (by rw [hbt4];exact pz_val hdnT hpc))
      have hlD:LongD dn↔10000<pzU dn:=by unfold LongD;simp [hpc]
      have HlD:=Lib.hid hlD;have Hpos:=Lib.hid hpos
      have hlt:pzU dn<100000:=by
       have h1:=itoa_pz hpc
       refine Classical.byContradiction fun g=>?_
       have h2:5<Lib.nDigits (pzU dn).toNat:=by
        refine Classical.byContradiction fun g2=>?_
        have h3:(pzU dn).toNat<10 ^ Lib.nDigits (pzU dn).toNat:=Lib.lt_pow_nDigits _
        have h4:10 ^ Lib.nDigits (pzU dn).toNat≤10 ^ 5:=Nat.pow_le_pow_right (by decide) (by omega)
        omega
       have h5:(Lib.itoa (pzU dn)).length=Lib.nDigits (pzU dn).toNat:=by unfold Lib.itoa;rw [if_neg (by omega),Lib.decDigits_length]
       rw [h1,hdnl] at h5
       omega
      have Hlt:=Lib.hid hlt
      have b5d:decide ((5:Int)<(d:Int))=false:=by simp;omega
      clear hW b0 hd0 h47 hmlt hm1 hM hMl hbt3 hts3 hd hdM he1 hd1 hdn hdnT hdnl hsg hbt4 hts4 had hrd1 hMd hd5 hlD hpc hpos hlt d5
      go_wp2_with fail
      refine HW.out.mono ?_
      rintro e w2 ⟨rfl,rfl⟩
      clear HW ht3 m1N
      go_wp2_with fail
      refine HRd.out.mono ?_
      rintro e w3 ⟨b3,a3,n3,c3,rfl,hI3,hn3,hx3,-⟩
      obtain ⟨V3,hV3⟩:∃ V3,w3.alloc (.cells #[.bool b3,.slice a3 n3 c3] 35)=V3:=⟨_,rfl⟩
      obtain ⟨D,hD⟩:∃ D,w3.heap.size=D:=⟨_,rfl⟩
      have eV3:Ext w3 V3:=by rw [←hV3];exact Ext.alloc _ _
      have bx:ZBx V3 D b3 a3 n3 c3:=by rw [←hV3,←hD];exact zbx_new w3 b3 a3 n3 c3
      have hx4:=hx3.trans eV3
      have HV3:=Lib.hid hV3;have HDD:=Lib.hid hD;have HI3:=Lib.hid (hI3.ext eV3);have Hx4:=Lib.hid hx4;have Hbx:=Lib.hid bx
      have l0:=bx.c0;have l1:=bx.c1;have lD:=bx.lt
      clear hV3 hD eV3 bx hx4 hI3 hx3 HRd ht4
      go_upto_region 21 with fail
      rw [HV3.out,HDD.out]
      clear HV3 HDD
      obtain ⟨kc,hkc⟩:∃ kc:Int,kc=if pzU dn-10000<0 then -1 else if 0<pzU dn-10000 then 1 else 0:=⟨_,rfl⟩
      have Hkc:=Lib.hid (show (0:Int)<kc↔10000<pzU dn by rw [hkc];split<;>(try split)<;>omega)
      have HO:=Lib.hid (fun wx=>ZOf_any 10000 (by decide) (by decide) wx)
      have HC:=Lib.hid (fun (wx:World) (hx:Ext V3 wx) (b:Bool) (a:Option Addr) (n c:Nat) (hI:IsZ wx b a n c 10000) (hn:n≤5)=>ZCmp_any b3 b a3 a n3 c3 n c (pzU dn) 10000 wx (HI3.out.ext hx) hI (by omega) (by omega) kc hkc)
      clear hkc
      have h0d:Ext V3 V3.drew:=Below.drew (Ext.refl _)
      go_cut [111] from 104 to 110 (fun s111 wx=>s111=.bool (decide ((0:Int)<kc))∧Ext V3 wx)
      case first =>
       go_region_held3 (fun w'=>w'.cell? ⟨D,0,none⟩=some (.bool b3)∧w'.cell? ⟨D,1,none⟩=some (.slice a3 n3 c3))
        (exact ⟨cellKeep (W:=V3) (by assumption) lD l0,cellKeep (W:=V3) (by assumption) lD l1⟩)
        (first
         | (have _:=qv0;go_at_call 54;refine (HC.out _ hv0 b5x a5x n5x c5x Kv0 hn5x).mono ?_;rintro e v1 ⟨rfl,qv1⟩;have hv1:Ext V3 v1:=hv0.trans qv1)
         | (go_at_call 46;refine (HO.out _).mono ?_;rintro e v0 ⟨b5x,a5x,n5x,c5x,rfl,Kv0,hn5x,qv0⟩;have hv0:Ext V3 v0:=Ext.trans (by assumption) qv0))
       go_wp2_with fail
       go_meet
       exact ⟨rfl,hv1⟩
      case rest =>
      obtain ⟨rfl,hxc⟩:=hcut
      obtain ⟨Y,hY⟩:∃ Y,Y=wc:=⟨_,rfl⟩
      rw [←hY] at hxc ⊢
      have HYx:=Lib.hid hxc
      have HY:=Lib.hid (Hx4.out.trans hxc)
      clear hY hxc HO HC
      by_cases hbig:10000<pzU dn
      ·have b6:decide ((0:Int)<kc)=true:=by simp;exact Hkc.out.2 hbig
       rw [b6]
       have HR:=Lib.hid (show ∃ (kE:Nat) (lgE:Bool) (eE:Int),Value.int .i64 (e1:Int)=.int .i64 (kE:Int)∧Value.bool true=.bool lgE∧kE≤T.length∧ZVar Y (H+2) (pF acc' acc'.length) eE∧ZVar Y H (fun _=>0) 0∧Y.heap[H+1]?=some (.cells #[.int .i64 0,.int .i64 0] 30 (0,0))∧Ext w Y∧((kE<T.length∧rdS T=.inl kE)∨(kE=T.length∧∃ dn,rdS T=.inr (acc',dn)∧(lgE=true↔LongP acc'∨LongD dn)∧(lgE=false→eE=((pzU dn).toNat:Int)))) from
        ⟨e1,true,0,rfl,rfl,He1T.out,HA2.out.ext HY.out,HZ2.out.ext HY.out,(HY.out.block _ (Array.getElem?_eq_some_iff.1 HF2.out).1).trans HF2.out,HE2.out.trans HY.out,Hfin.out true 0 (by simp [HlD.out,hbig]) (fun h=>by cases h)⟩)
       clear b6 hbig
       go_wp2_with fail
       go_meet
       exact HR.out
      ·have b6:decide ((0:Int)<kc)=false:=by simp;exact Classical.byContradiction fun g=>hbig (Hkc.out.1 (by omega))
       rw [b6]
       have bY:=Hbx.out.ext HYx.out
       have z0:=bY.c0;have z1:=bY.c1
       have hsm:smN (pzU dn)=pzU dn:=by unfold smN;rw [if_pos (by have:=Hlt.out;have:=Hpos.out;omega)]
       have hSm:=ZSmall_any b3 a3 n3 c3 (pzU dn) Y (HI3.out.ext HYx.out) (by omega)
       rw [hsm] at hSm
       obtain ⟨pz,hpz⟩:∃ pz,pzU dn=pz:=⟨_,rfl⟩
       obtain ⟨sb,hsb⟩:∃ sb,smB (pzU dn)=sb:=⟨_,rfl⟩
       rw [hsb,hpz] at hSm
       have HSm:=Lib.hid hSm
       have Hpz:=Lib.hid hpz;have Hbig:=Lib.hid hbig
       clear b6 hbig bY hsm hSm hpz hsb
       go_wp2_with fail
       refine HSm.out.mono ?_
       rintro e w5 ⟨rfl,hx5⟩
       have hy:=HY.out.trans hx5
       have hV5:=HA2.out.ext hy
       have y16:=hV5.gete.1;have g16:=hV5.gete.2
       obtain ⟨hV6,hC6⟩:=hV5.sete pz
       have HR:=Lib.hid (show ∃ (kE:Nat) (lgE:Bool) (eE:Int),Value.int .i64 (e1:Int)=.int .i64 (kE:Int)∧Value.bool lg'=.bool lgE∧kE≤T.length∧ZVar (w5.setCell ⟨H+2,16,none⟩ (.int .i64 pz)) (H+2) (pF acc' acc'.length) eE∧ZVar (w5.setCell ⟨H+2,16,none⟩ (.int .i64 pz)) H (fun _=>0) 0∧(w5.setCell ⟨H+2,16,none⟩ (.int .i64 pz)).heap[H+1]?=some (.cells #[.int .i64 0,.int .i64 0] 30 (0,0))∧Ext w (w5.setCell ⟨H+2,16,none⟩ (.int .i64 pz))∧((kE<T.length∧rdS T=.inl kE)∨(kE=T.length∧∃ dn,rdS T=.inr (acc',dn)∧(lgE=true↔LongP acc'∨LongD dn)∧(lgE=false→eE=((pzU dn).toNat:Int)))) from
        ⟨e1,lg',pz,rfl,rfl,He1T.out,hV6,(HZ2.out.ext hy).chz hC6 hV5.no (by omega),hC6.row ((hy.block _ (Array.getElem?_eq_some_iff.1 HF2.out).1).trans HF2.out) (by omega),hC6.ext (HE2.out.trans hy) (by rw [HH.out];omega),Hfin.out lg' pz (by rw [Hlg2.out];exact ⟨Or.inl,fun g=>g.elim id (fun g=>absurd (HlD.out.1 g) (by have:=Hbig.out;omega))⟩) (fun _=>by rw [←Hpz.out];have:=Hpos.out;omega)⟩)
       clear hV6 hC6 hV5 hy hx5 HSm z0 z1
       go_wp2_with fail
       go_meet
       exact HR.out
  case rest =>
  obtain ⟨kE,lgE,eE,rfl,rfl,hkE,hA3,hZ3,hF3,hE3,hfin⟩:=hcut
  obtain ⟨Y,hY⟩:∃ Y,Y=wc:=⟨_,rfl⟩
  rw [←hY] at hA3 hZ3 hF3 hE3 ⊢
  clear hY HA2 HZ2 HF2 HE2 Hlg2 HrdE Hbar wm HmT mN Hm
  rcases hfin with ⟨hlt,hrd⟩ | ⟨heq,dn,hrd,hlgE,heE⟩
  ·have b1:(kE:Int)<(S.size:Int):=by have:=HN.out;omega
   have Hbad:=Lib.hid (show RdBad T 1 kE from Or.inl ⟨hrd,rfl⟩)
   have hZ:=hZ3;have hF:=hF3;have hEw:=hE3
   clear hlt hrd hA3 hZ3 hF3 hE3 hkE
   obtain ⟨c0,N0,s0⟩:=hZ
   have F1:(Y.setRow H zeroR).heap[H+1]?=some (.cells #[.int .i64 0,.int .i64 0] 30 (0,0)):=(setRow_other Y H (H+1) zeroR (by omega)).trans hF
   have G0:((Y.setRow H zeroR).setRow (H+1) #[.int .i64 1,.int .i64 (kE:Int)]).heap[H]?=some (.cells zeroR 38 (0,0)):=(setRow_other _ (H+1) H _ (by omega)).trans (setRow_heap Y H _ zeroR _ _ N0)
   have G1:((Y.setRow H zeroR).setRow (H+1) #[.int .i64 1,.int .i64 (kE:Int)]).heap[H+1]?=some (.cells #[.int .i64 1,.int .i64 (kE:Int)] 30 (0,0)):=setRow_heap _ (H+1) _ _ _ _ F1
   have hE':Ext w ((Y.setRow H zeroR).setRow (H+1) #[.int .i64 1,.int .i64 (kE:Int)]):=ext_setRowQ (ext_setRowQ hEw (g:=H) (by rw [HH.out];exact Nat.le_refl _) _) (g:=H+1) (by rw [HH.out];omega) _
   have hszz:c0.size=zeroR.size:=by rw [s0.1];rfl
   have honeR:=(zcs_zero Y).one
   have hinfR:=zR_info
   have honeF:=fault_one 1 (kE:Int)
   have Hend:=Lib.hid (show QPost T w (.returned (.tuple #[.agg zeroR,.agg #[.int .i64 1,.int .i64 (kE:Int)]])) ((Y.setRow H zeroR).setRow (H+1) #[.int .i64 1,.int .i64 (kE:Int)]) from ⟨hE',Or.inl ⟨_,_,Hbad.out,rfl⟩⟩)
   clear hE' s0
   go_wp2_with (first
    | refine wpList_store_row rfl 38 _ _ rfl H zeroR rfl rfl 38 _ N0 hinfR hszz honeR ?_
    | refine wpList_store_row rfl 30 _ _ rfl (H+1) #[.int .i64 1,.int .i64 (kE:Int)] rfl rfl 30 _ F1 fault_info rfl honeF ?_)
   refine bodyPost_ret (v:=.tuple #[.agg zeroR,.agg #[.int .i64 1,.int .i64 (kE:Int)]]) ?_ rfl Hend.out
   exact results_row2 rfl _ _ H (H+1) _ _ _ _ _ _ _ _ rfl rfl G0 G1 Tryz.underlying38 rfl hinfR Tryz.underlying30 rfl fault_info
  have b1:¬ (kE:Int)<(S.size:Int):=by have:=HN.out;omega
  cases lgE with
  | true =>
   have Hbad:=Lib.hid (rd_long hrd (hlgE.1 rfl))
   have hZ:=hZ3;have hF:=hF3;have hEw:=hE3
   clear hrd hA3 hZ3 hF3 hE3 hkE heq hlgE heE
   obtain ⟨c0,N0,s0⟩:=hZ
   have F1:(Y.setRow H zeroR).heap[H+1]?=some (.cells #[.int .i64 0,.int .i64 0] 30 (0,0)):=(setRow_other Y H (H+1) zeroR (by omega)).trans hF
   have G0:((Y.setRow H zeroR).setRow (H+1) #[.int .i64 2,.int .i64 0]).heap[H]?=some (.cells zeroR 38 (0,0)):=(setRow_other _ (H+1) H _ (by omega)).trans (setRow_heap Y H _ zeroR _ _ N0)
   have G1:((Y.setRow H zeroR).setRow (H+1) #[.int .i64 2,.int .i64 0]).heap[H+1]?=some (.cells #[.int .i64 2,.int .i64 0] 30 (0,0)):=setRow_heap _ (H+1) _ _ _ _ F1
   have hE':Ext w ((Y.setRow H zeroR).setRow (H+1) #[.int .i64 2,.int .i64 0]):=ext_setRowQ (ext_setRowQ hEw (g:=H) (by rw [HH.out];exact Nat.le_refl _) _) (g:=H+1) (by rw [HH.out];omega) _
   have hszz:c0.size=zeroR.size:=by rw [s0.1];rfl
   have honeR:=(zcs_zero Y).one
   have hinfR:=zR_info
   have honeF:=fault_one 2 0
   have Hend:=Lib.hid (show QPost T w (.returned (.tuple #[.agg zeroR,.agg #[.int .i64 2,.int .i64 0]])) ((Y.setRow H zeroR).setRow (H+1) #[.int .i64 2,.int .i64 0]) from ⟨hE',Or.inl ⟨_,_,Hbad.out,rfl⟩⟩)
   clear hE' s0
   go_wp2_with (first
    | refine wpList_store_row rfl 38 _ _ rfl H zeroR rfl rfl 38 _ N0 hinfR hszz honeR ?_
    | refine wpList_store_row rfl 30 _ _ rfl (H+1) #[.int .i64 2,.int .i64 0] rfl rfl 30 _ F1 fault_info rfl honeF ?_)
   refine bodyPost_ret (v:=.tuple #[.agg zeroR,.agg #[.int .i64 2,.int .i64 0]]) ?_ rfl Hend.out
   exact results_row2 rfl _ _ H (H+1) _ _ _ _ _ _ _ _ rfl rfl G0 G1 Tryz.underlying38 rfl hinfR Tryz.underlying30 rfl fault_info
  | false =>
  have hnl:¬ LongP acc'∧¬ LongD dn:=⟨fun g=>Bool.noConfusion (hlgE.2 (Or.inl g)),fun g=>Bool.noConfusion (hlgE.2 (Or.inr g))⟩
  have hpc:∀ i,i<acc'.length→pcU (acc'.getD i [])=0:=not_long hnl.1
  have hdc:pcU dn=0:=Classical.byContradiction fun g=>hnl.2 (Or.inl g)
  have hds:pzU dn≤10000:=Classical.byContradiction fun g=>hnl.2 (Or.inr (by omega))
  have Hsame:=Lib.hid (fun (y:Nm) (hy:Anti y.a) (hl:Low y) (hq:EqN y ⟨ext8 (pF acc' acc'.length),(pzU dn).toNat⟩)=>rd_same hrd hy hl hq hpc hdc hds)
  obtain ⟨eN,heN⟩:∃ eN,(pzU dn).toNat=eN:=⟨_,rfl⟩
  rw [heN] at Hsame
  have hA4:ZVar Y (H+2) (pF acc' acc'.length) (eN:Int):=by rw [heE rfl,heN] at hA3;exact hA3
  have HeN:=Lib.hid (show eN≤10000 by omega)
  obtain ⟨X,hX⟩:∃ X,pF acc' acc'.length=X:=⟨_,rfl⟩
  rw [hX] at hA4 Hsame
  have HXa:=Lib.hid (show ∀ i,i<8→(X i).natAbs<2 ^ P from fun i _=>by rw [←hX];exact pF_abs _ _ P (by have:=HP.out;omega) i)
  have HZ:=Lib.hid hZ3;have HF:=Lib.hid hF3;have HEw:=Lib.hid hE3
  obtain ⟨ca,rA,zA⟩:=hA4
  have iA:(Tryz.prog.info? 38).map (·.size)=some ca.size:=by rw [zA.1];exact zR_info
  have HzA:=Lib.hid zA;have HrA:=Lib.hid rA
  clear hX heN hds hdc hpc hnl hlgE heE hrd heq hkE hA3 hZ3 hF3 hE3
  go_upto_region 29 with fail
  obtain ⟨B,hB⟩:∃ B:Bool,B=true↔zeroN X:=by
   by_cases h:zeroN X
   ·exact ⟨true,by simp [h]⟩
   ·exact ⟨false,by simp only [Bool.false_eq_true,false_iff];exact h⟩
  have HB:=Lib.hid hB
  have HQ:=Lib.hid (QZero_any ca X _ Y zA B hB)
  clear zA hB
  go_wp2_with (refine wpList_load_row rfl 38 _ rfl (H+2) rfl 38 _ (0,0) _ rA Tryz.underlying38 rfl iA ?_)
  refine HQ.out.mono ?_
  rintro r w2 ⟨rfl,hx2⟩
  have Hx2:=Lib.hid hx2
  have rA2:=(hx2.block _ (Array.getElem?_eq_some_iff.1 HrA.out).1).trans HrA.out
  clear hx2 HQ rA
  go_upto_if 134 with fail
  go_cut [] from 134 to 137 (fun wx=>(∃ (c:Array Value) (y:Nm),wx.heap[H+2]?=some (.cells c 38 (0,0))∧RmA wx c y P 10000∧EqN y ⟨ext8 X,eN⟩)∧ZVar wx H (fun _=>0) 0∧wx.heap[H+1]?=some (.cells #[.int .i64 0,.int .i64 0] 30 (0,0))∧Ext w wx)
  case first =>
   have hx2:=Hx2.out
   cases B with
   | true =>
    have hV2:ZVar w2 (H+2) X (eN:Int):=⟨ca,rA2,HzA.out.ext hx2⟩
    obtain ⟨_,hch,rr,zz⟩:=(zcs_zero w2).setRow hV2
    have HR:=Lib.hid (show (∃ (c:Array Value) (y:Nm),(w2.setRow (H+2) zeroR).heap[H+2]?=some (.cells c 38 (0,0))∧RmA (w2.setRow (H+2) zeroR) c y P 10000∧EqN y ⟨ext8 X,eN⟩)∧ZVar (w2.setRow (H+2) zeroR) H (fun _=>0) 0∧(w2.setRow (H+2) zeroR).heap[H+1]?=some (.cells #[.int .i64 0,.int .i64 0] 30 (0,0))∧Ext w (w2.setRow (H+2) zeroR) from
     ⟨⟨zeroR,⟨ext8 (fun _=>0),0⟩,rr,⟨anti_ext8 (fun _=>0),Or.inl rfl,fun k=>by rw [ext8_zero];exact Nat.pow_pos (by decide),Nat.zero_le _,zz.congr fun i _=>by show (0:Int)=ext8 (fun _=>0) (i:Int);rw [ext8_zero]⟩,(low_nil (HB.out.1 rfl) eN).2⟩,(HZ.out.ext hx2).chz hch hV2.no (by omega),hch.row ((hx2.block _ (Array.getElem?_eq_some_iff.1 HF.out).1).trans HF.out) (by omega),hch.ext (HEw.out.trans hx2) (by rw [HH.out];omega)⟩)
    have hs1:ca.size=(zeroR:Array Value).size:=by rw [HzA.out.1];rfl
    have hone:=(zcs_zero w2).one
    clear hch rr zz hV2 hx2
    go_wp2_with (refine wpList_store_row rfl 38 _ _ rfl (H+2) zeroR rfl rfl 38 _ rA2 zR_info hs1 hone ?_)
    go_meet
    exact HR.out
   | false =>
    have HQ2:=Lib.hid (Qleast_any ca X eN w2 (HzA.out.ext hx2) P 10000 (by have:=HP.out;omega) HXa.out HeN.out (by decide))
    clear hx2
    go_wp2_with (refine wpList_load_row rfl 38 _ rfl (H+2) rfl 38 _ (0,0) _ rA2 Tryz.underlying38 rfl iA ?_)
    refine HQ2.out.mono ?_
    rintro r w3 ⟨cr,y,rfl,hcr,hq3,hx3⟩
    have hx:=Hx2.out.trans hx3
    have rA3:=(hx3.block _ (Array.getElem?_eq_some_iff.1 rA2).1).trans rA2
    have hV3:ZVar w3 (H+2) X (eN:Int):=⟨ca,rA3,HzA.out.ext hx⟩
    obtain ⟨_,hch,rr,zz⟩:=hcr.val.setRow hV3
    have HR:=Lib.hid (show (∃ (c:Array Value) (y:Nm),(w3.setRow (H+2) cr).heap[H+2]?=some (.cells c 38 (0,0))∧RmA (w3.setRow (H+2) cr) c y P 10000∧EqN y ⟨ext8 X,eN⟩)∧ZVar (w3.setRow (H+2) cr) H (fun _=>0) 0∧(w3.setRow (H+2) cr).heap[H+1]?=some (.cells #[.int .i64 0,.int .i64 0] 30 (0,0))∧Ext w (w3.setRow (H+2) cr) from
     ⟨⟨cr,y,rr,⟨hcr.anti,hcr.low,hcr.abs,hcr.down,zz⟩,hq3⟩,(HZ.out.ext hx).chz hch hV3.no (by omega),hch.row ((hx.block _ (Array.getElem?_eq_some_iff.1 HF.out).1).trans HF.out) (by omega),hch.ext (HEw.out.trans hx) (by rw [HH.out];omega)⟩)
    have hs1:ca.size=cr.size:=by rw [HzA.out.1,hcr.size]
    have hone:=hcr.val.one
    have hinf:=hcr.info
    clear hch rr zz hV3 hx hx3 hcr hq3 HQ2 rA2
    go_wp2_with (refine wpList_store_row rfl 38 _ _ rfl (H+2) cr rfl rfl 38 _ rA3 hinf hs1 hone ?_)
    go_meet
    exact HR.out
  case rest =>
  obtain ⟨⟨cr,y,rr,hcr,hq⟩,hZ,hF,hEw⟩:=hcut
  obtain ⟨V,hV⟩:∃ V,V=wc:=⟨_,rfl⟩
  rw [←hV] at rr hcr hZ hF hEw ⊢
  have Hs:=Lib.hid (Hsame.out y hcr.anti hcr.low hq)
  have hQT:=QText_nm cr y P 10000 V hcr (by have:=HP.out;omega) (by decide)
  obtain ⟨tx,htx⟩:∃ tx,rtx (nmF y)=tx:=⟨_,rfl⟩
  rw [htx] at hQT Hs
  have HQT:=Lib.hid hQT
  have Hcr:=Lib.hid hcr;have HZV:=Lib.hid hZ;have HFV:=Lib.hid hF;have HEV:=Lib.hid hEw;have Hrr:=Lib.hid rr
  have icr:=hcr.info
  clear hV hQT htx hq hcr hZ hF hEw Hsame HXa HeN HZ HF HEw HzA HrA rA2 iA Hx2 HB
  rw [←HS.out]
  go_wp2_with (refine wpList_load_row rfl 38 _ rfl (H+2) rfl 38 _ (0,0) _ rr Tryz.underlying38 rfl icr ?_)
  refine HQT.out.mono ?_
  rintro r w2 ⟨rfl,hx2⟩
  have hZ:=HZV.out.ext hx2;have hF:=(hx2.block _ (Array.getElem?_eq_some_iff.1 HFV.out).1).trans HFV.out;have hEw:=HEV.out.trans hx2
  by_cases htT:tx=T
  ·have b3:(tx == T)=true:=by simp [htT]
   have Hg:=Lib.hid (Hs.out.1 htT)
   have r2:=(hx2.block _ (Array.getElem?_eq_some_iff.1 Hrr.out).1).trans Hrr.out
   have n2:=Hcr.out.ext hx2
   clear htT hx2 rr
   go_upto_if 141 with fail
   try rw [b3]
   clear HZV HFV HEV HQT
   obtain ⟨c0,N0,s0⟩:=hZ
   have F1:(w2.setRow H cr).heap[H+1]?=some (.cells #[.int .i64 0,.int .i64 0] 30 (0,0)):=(setRow_other w2 H (H+1) cr (by omega)).trans hF
   have G0:((w2.setRow H cr).setRow (H+1) #[.int .i64 0,.int .i64 0]).heap[H]?=some (.cells cr 38 (0,0)):=(setRow_other _ (H+1) H _ (by omega)).trans (setRow_heap w2 H _ cr _ _ N0)
   have G1:((w2.setRow H cr).setRow (H+1) #[.int .i64 0,.int .i64 0]).heap[H+1]?=some (.cells #[.int .i64 0,.int .i64 0] 30 (0,0)):=setRow_heap _ (H+1) _ _ _ _ F1
   have hE':Ext w ((w2.setRow H cr).setRow (H+1) #[.int .i64 0,.int .i64 0]):=ext_setRowQ (ext_setRowQ hEw (g:=H) (by rw [HH.out];exact Nat.le_refl _) _) (g:=H+1) (by rw [HH.out];omega) _
   have hszz:c0.size=cr.size:=by rw [s0.1];rw [n2.size]
   have honeR:=n2.val.one
   have hinfR:=n2.info
   have honeF:=fault_one 0 0
   have Hend:=Lib.hid (show QPost T w (.returned (.tuple #[.agg cr,.agg #[.int .i64 0,.int .i64 0]])) ((w2.setRow H cr).setRow (H+1) #[.int .i64 0,.int .i64 0]) from ⟨hE',Or.inr ⟨cr,y,Hg.out,rfl,⟨n2.anti,n2.low,fun k=>by have:=n2.abs k;rw [HP.out] at this;exact this,n2.down,zcs_row (zcs_row n2.val N0 (by decide) cr) F1 (by decide) _⟩⟩⟩)
   clear hE' s0 n2
   go_wp2_with (first
    | refine wpList_load_row rfl 38 _ rfl (H+2) rfl 38 _ (0,0) _ r2 Tryz.underlying38 rfl hinfR ?_
    | refine wpList_store_row rfl 38 _ _ rfl H cr rfl rfl 38 _ N0 hinfR hszz honeR ?_
    | refine wpList_store_row rfl 30 _ _ rfl (H+1) #[.int .i64 0,.int .i64 0] rfl rfl 30 _ F1 fault_info rfl honeF ?_)
   refine bodyPost_ret (v:=.tuple #[.agg cr,.agg #[.int .i64 0,.int .i64 0]]) ?_ rfl Hend.out
   exact results_row2 rfl _ _ H (H+1) _ _ _ _ _ _ _ _ rfl rfl G0 G1 Tryz.underlying38 rfl hinfR Tryz.underlying30 rfl fault_info
  ·have b3:(tx == T)=false:=by simp [htT]
   have Hbad:=Lib.hid (Hs.out.2 htT)
   clear htT hx2 rr
   go_upto_if 141 with fail
   try rw [b3]
   clear HZV HFV HEV HQT
   obtain ⟨c0,N0,s0⟩:=hZ
   have F1:(w2.setRow H zeroR).heap[H+1]?=some (.cells #[.int .i64 0,.int .i64 0] 30 (0,0)):=(setRow_other w2 H (H+1) zeroR (by omega)).trans hF
   have G0:((w2.setRow H zeroR).setRow (H+1) #[.int .i64 3,.int .i64 0]).heap[H]?=some (.cells zeroR 38 (0,0)):=(setRow_other _ (H+1) H _ (by omega)).trans (setRow_heap w2 H _ zeroR _ _ N0)
   have G1:((w2.setRow H zeroR).setRow (H+1) #[.int .i64 3,.int .i64 0]).heap[H+1]?=some (.cells #[.int .i64 3,.int .i64 0] 30 (0,0)):=setRow_heap _ (H+1) _ _ _ _ F1
   have hE':Ext w ((w2.setRow H zeroR).setRow (H+1) #[.int .i64 3,.int .i64 0]):=ext_setRowQ (ext_setRowQ hEw (g:=H) (by rw [HH.out];exact Nat.le_refl _) _) (g:=H+1) (by rw [HH.out];omega) _
   have hszz:c0.size=zeroR.size:=by rw [s0.1];rfl
   have honeR:=(zcs_zero w2).one
   have hinfR:=zR_info
   have honeF:=fault_one 3 0
   have Hend:=Lib.hid (show QPost T w (.returned (.tuple #[.agg zeroR,.agg #[.int .i64 3,.int .i64 0]])) ((w2.setRow H zeroR).setRow (H+1) #[.int .i64 3,.int .i64 0]) from ⟨hE',Or.inl ⟨_,_,Hbad.out,rfl⟩⟩)
   clear hE' s0
   go_wp2_with (first
    | refine wpList_store_row rfl 38 _ _ rfl H zeroR rfl rfl 38 _ N0 hinfR hszz honeR ?_
    | refine wpList_store_row rfl 30 _ _ rfl (H+1) #[.int .i64 3,.int .i64 0] rfl rfl 30 _ F1 fault_info rfl honeF ?_)
   refine bodyPost_ret (v:=.tuple #[.agg zeroR,.agg #[.int .i64 3,.int .i64 0]]) ?_ rfl Hend.out
   exact results_row2 rfl _ _ H (H+1) _ _ _ _ _ _ _ _ rfl rfl G0 G1 Tryz.underlying38 rfl hinfR Tryz.underlying30 rfl fault_info
end Go.Proofs.YtiicfpdiehgikaaGreatDoor
