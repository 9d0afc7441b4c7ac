/-
  What is read, and what is asked of one number of circuits, on both sides: the law's walk.
-/
import Derived.Test.YtiicfpdiehgikaaGreatDoorS25FzD
namespace Go.Proofs.YtiicfpdiehgikaaGreatDoor
set_option maxRecDepth 100000
set_option maxHeartbeats 8000000
open Go.RowKit
theorem anyH_pass {P:Program} {md:Region.Mode} {ops:Array Oper} {Q:Exit→Act→World→Prop} {S:World→Prop} {i:Nat} {o:Oper} {n:Nat} {l:Array Bool} {a:Act} {w:World} (hr:Region.ready md ops l=[i]) (ho:ops[i]?=some o) (hw:Region.wanted o (yielded ops a.tmps)=false) (hS:S w)
  (h:wpAnyH P md ops Q S n (l.setIfInBounds i true) (a.put o.dst undef) w):wpAnyH P md ops Q S (n+1) l a w:=by
 refine ⟨fun h0=>(by rw [hr] at h0;cases h0),fun j hj=>?_⟩
 rw [hr] at hj
 rcases List.mem_singleton.1 hj with rfl
 refine wpOp_step ho fun K' hK=>?_
 rw [if_neg (by rw [hw];decide)]
 exact hK _ _ ⟨hS,h⟩
def PrsK (T:List UInt8) (x:Nm) (fc fk:Int):Prop:=(∃ c k:Nat,RdBad T c k∧fc=c∧fk=k∧x=⟨ext8 fun _=>0,0⟩)∨(fc=0∧fk=0∧RdGood T x)
theorem PrsK.one {T:List UInt8} {x x':Nm} {fc fk fc' fk':Int} (h:PrsK T x fc fk) (g:PrsK T x' fc' fk'):x=x'∧fc=fc'∧fk=fk':=by
 rcases h with ⟨c,k,h1,rfl,rfl,rfl⟩ | ⟨rfl,rfl,h1⟩
 ·rcases g with ⟨c',k',g1,rfl,rfl,rfl⟩ | ⟨_,_,g1⟩
  ·obtain ⟨e1,e2⟩:=h1.one g1
   exact ⟨rfl,by rw [e1],by rw [e2]⟩
  ·exact (h1.not_good g1).elim
 ·rcases g with ⟨c',k',g1,_⟩ | ⟨rfl,rfl,g1⟩
  ·exact (g1.not_good h1).elim
  ·exact ⟨h1.one g1,rfl,rfl⟩
theorem PrsK.text {T:List UInt8} {x:Nm} {fc fk:Int} (h:PrsK T x fc fk) (h0:fc=0):rtx (nmF x)=T:=by
 rcases h with ⟨c,k,h1,h2,_⟩ | ⟨_,_,h1⟩
 ·exact absurd (by omega) h1.ne
 ·exact h1.text
theorem Parse_nm (T:List UInt8) (w:World) (hT:T.length≤4611686018427387904) (P E K:Nat) (hK:K≤4194304) (hP0:3334≤P) (hP:P≤64*K) (hE0:10000≤E) (hE:E≤1099511627776) (hbr:Bru w) :
  Calls Tryz.prog 6 #[.string ⟨T.toArray⟩] w fun e w'=>∃ (c1:Array Value) (x:Nm) (fc fk:Int),e=.returned (.tuple #[.agg c1,.agg #[.int .i64 fc,.int .i64 fk]])∧NmA w' c1 x P E∧PrsK T x fc fk∧Ext w w':=by
 refine (RParse_any T w hT P E K hK hP0 hP hE0 hE hbr).mono ?_
 rintro e w' ⟨hx,(⟨c,k,hb,rfl⟩ | ⟨cr,x,hg,rfl,hn⟩)⟩
 ·exact ⟨zero9,⟨ext8 fun _=>0,0⟩,c,k,rfl,⟨anti_ext8 (fun _=>0),Or.inl rfl,fun k=>by rw [ext8_zero];exact Nat.pow_pos (by decide),Nat.zero_le _,(cells_zero9 w').congr fun i hi=>by
   unfold nmF
   split
   ·rfl
   ·rw [ext8_zero]⟩,Or.inl ⟨c,k,hb,rfl,rfl,rfl⟩,hx⟩
 ·exact ⟨cr,x,0,0,rfl,hn,Or.inr ⟨rfl,rfl,hg⟩,hx⟩
theorem QParse_nm (T:List UInt8) (w:World) (hT:T.length≤17592186044416) (P2 E:Nat) (hP2:P2=3400) (hE:E=10000) :
  Calls Tryz.prog 7 #[.string ⟨T.toArray⟩] w fun e w'=>∃ (c1:Array Value) (x:Nm) (fc fk:Int),e=.returned (.tuple #[.agg c1,.agg #[.int .i64 fc,.int .i64 fk]])∧RmA w' c1 x P2 E∧PrsK T x fc fk∧Ext w w':=by
 refine (QParse_any T w hT).mono ?_
 rintro e w' ⟨hx,(⟨c,k,hb,rfl⟩ | ⟨cr,x,hg,rfl,hn⟩)⟩
 ·exact ⟨zeroR,⟨ext8 fun _=>0,0⟩,c,k,rfl,⟨anti_ext8 (fun _=>0),Or.inl rfl,fun k=>by rw [ext8_zero];exact Nat.pow_pos (by decide),Nat.zero_le _,(zcs_zero w').congr fun i _=>by show (0:Int)=ext8 (fun _=>0) (i:Int);rw [ext8_zero]⟩,Or.inl ⟨c,k,hb,rfl,rfl,rfl⟩,hx⟩
 ·exact ⟨cr,x,0,0,rfl,by rw [hP2,hE];exact hn,Or.inr ⟨rfl,rfl,hg⟩,hx⟩
theorem ringreads_walk (T:List UInt8) (k:Int) (W:World) (hTl:T.length≤17592186044416) (hbr:Bru W) (hT:Ten W) :
  Calls Tryz.prog 3 #[.string ⟨T.toArray⟩,.int .i64 k] W fun r W'=>r=.returned (.bool true)∧Ext W W':=by
 obtain ⟨P,hP⟩:∃ P:Nat,P=10112:=⟨_,rfl⟩
 obtain ⟨P2,hP2⟩:∃ P2:Nat,P2=3400:=⟨_,rfl⟩
 obtain ⟨E,hE⟩:∃ E:Nat,E=10000:=⟨_,rfl⟩
 obtain ⟨K,hK⟩:∃ K:Nat,K=65536:=⟨_,rfl⟩
 have HB:=Lib.hid (show P=10112∧E=10000∧K=65536∧P2=3400 from ⟨hP,hE,hK,hP2⟩)
 have M1:=Lib.hid (fun wx (hx:Ext W wx)=>Parse_nm T wx (by omega) P E K (by omega) (by omega) (by omega) (by omega) (by omega) (bru_ext hbr hx))
 have M2:=Lib.hid (fun wx=>QParse_nm T wx hTl P2 E hP2 hE)
 have Hbr:=Lib.hid hbr;have HT:=Lib.hid hT
 clear hTl hbr hT hP hE hK hP2
 go_enter Tryz.func3,Tryz.ntmps3
 go_wp2_with fail
 obtain ⟨V0,hV0⟩:∃ V0,V0=W:=⟨_,rfl⟩
 have HEV0:=Lib.hid (show Ext W V0 by rw [hV0];exact Ext.refl _)
 rw [←hV0]
 clear hV0
 refine (M1.out V0 HEV0.out).mono ?_
 rintro r w ⟨c1,x,fc,fk,rfl,hn,hpk,hx⟩
 have HPK:=Lib.hid hpk
 have Hsz:=Lib.hid hn.size
 have I1:=Lib.hid hn.info
 obtain ⟨V1,hV,eV,rV,rF⟩:=new2 w c1 #[.int .i64 fc,.int .i64 fk]
 clear hpk
 have r1:=new2_a w
 have r2:=new2_b w c1
 have hinf:=hn.info
 have hone:=hn.val.one
 have honeF:=fault_one fc fk
 have hs9:(zero9:Array Value).size=c1.size:=Hsz.out.symm
 go_upto_region 2 with (first
  | refine wpList_store_row rfl 28 _ _ rfl w.heap.size c1 rfl rfl 28 _ r1 hinf hs9 hone ?_
  | refine wpList_store_row rfl 30 _ _ rfl (w.heap.size+1) #[.int .i64 fc,.int .i64 fk] rfl rfl 30 _ r2 fault_info rfl honeF ?_)
 try simp only [Act.put]
 clear r1 r2 hinf hone honeF hs9
 rw [hV]
 obtain ⟨D1,hD⟩:∃ D1,w.heap.size=D1:=⟨_,rfl⟩
 rw [hD] at rV rF ⊢
 have N1:=Lib.hid (hn.ext eV);have R1:=Lib.hid rV;have R2:=Lib.hid rF;have HEV1:=Lib.hid ((HEV0.out.trans hx).trans eV)
 clear hn hx hV eV rV rF hD Hsz M1 HEV0
 go_wp2_with fail
 refine (M2.out V1).mono ?_
 rintro r w ⟨c2,x',fc',fk',rfl,hn,hpk,hx⟩
 obtain ⟨e1,e2,e3⟩:=HPK.out.one hpk
 subst e1;subst e2;subst e3
 have Hsz:=Lib.hid hn.size
 have I2:=Lib.hid hn.info
 obtain ⟨V2,hV,eV,rV,rF⟩:=nw2 w c2 #[.int .i64 fc,.int .i64 fk]
 clear hpk
 have r1:=nw2_a w
 have r2:=nw2_b w c2
 have hinf:=hn.info
 have hone:=hn.val.one
 have honeF:=fault_one fc fk
 have hs9:(zeroR:Array Value).size=c2.size:=Hsz.out.symm
 go_upto_region 3 with (first
  | refine wpList_store_row rfl 38 _ _ rfl w.heap.size c2 rfl rfl 38 _ r1 hinf hs9 hone ?_
  | refine wpList_store_row rfl 30 _ _ rfl (w.heap.size+1) #[.int .i64 fc,.int .i64 fk] rfl rfl 30 _ r2 fault_info rfl honeF ?_)
 try simp only [Act.put]
 clear r1 r2 hinf hone honeF hs9
 rw [hV]
 obtain ⟨D2,hD⟩:∃ D2,w.heap.size=D2:=⟨_,rfl⟩
 rw [hD] at rV rF ⊢
 have T2:=hx.trans eV
 have N1:=Lib.hid (N1.out.ext T2);have R1:=Lib.hid ((T2.block _ (Array.getElem?_eq_some_iff.1 R1.out).1).trans R1.out);have R2:=Lib.hid ((T2.block _ (Array.getElem?_eq_some_iff.1 R2.out).1).trans R2.out)
 have N2:=Lib.hid (hn.ext eV);have R3:=Lib.hid rV;have R4:=Lib.hid rF;have HEV2:=Lib.hid (HEV1.out.trans T2)
 clear hn hx hV eV rV rF hD Hsz M2 HEV1 T2
 have L1:=Lib.hid (Array.getElem?_eq_some_iff.1 R1.out).1
 have L2:=Lib.hid (Array.getElem?_eq_some_iff.1 R2.out).1
 have L3:=Lib.hid (Array.getElem?_eq_some_iff.1 R3.out).1
 have L4:=Lib.hid (Array.getElem?_eq_some_iff.1 R4.out).1
 obtain ⟨Y3,hY3⟩:∃ Y3,Y3=V2:=⟨_,rfl⟩
 rw [←hY3]
 have HEY30:=Lib.hid (show Ext W Y3 by rw [hY3];exact HEV2.out)
 have HEY3:=Lib.hid (show Ext V2 Y3 by rw [hY3];exact Ext.refl _)
 clear hY3
 go_cut [47] from 23 to 46 (fun s47 wx=>s47=.bool false∧Ext Y3 wx)
 case first =>
  by_cases hf0:fc=0
  ·have bz:(fc == 0)=true:=by rw [hf0];rfl
   have Htxt:=Lib.hid (HPK.out.text hf0)
   clear hf0
   have he0:Ext Y3 Y3.drew:=Below.drew (Ext.refl _)
   refine wp_region_held (S:=fun w'=>w'.heap[D1]?=some (.cells c1 28 (0,0))∧w'.heap[D1+1]?=some (.cells #[.int .i64 fc,.int .i64 fk] 30 (0,0))∧w'.heap[D2]?=some (.cells c2 38 (0,0))∧w'.heap[D2+1]?=some (.cells #[.int .i64 fc,.int .i64 fk] 30 (0,0))) (by kernel_rfl) ?_
   show wpAnyH _ _ _ _ _ 25 #[false,false,false,false,false,false,false,false,false,false,false,false,false,false,false,false,false,false,false,false,false,false,false,false,false] _ Y3.drew
   refine anyH_call (i:=0) (by kernel_rfl) rfl (by kernel_rfl) 8 #[] (by kernel_rfl) (R:=fun v w'=>v=.bool true∧Ext Y3.drew w') ((ringBegun_any Y3.drew (bru_ext Hbr.out (HEY30.out.trans he0)) (tab_ext HT.out (HEY30.out.trans he0))).mono (by rintro e w' ⟨rfl,hx⟩;exact ⟨_,rfl,rfl,hx⟩)) ?_
   rintro v w1 ⟨rfl,hx1⟩
   have he1:=he0.trans hx1
   refine ⟨⟨((HEY3.out.trans he1).block _ L1.out).trans R1.out,((HEY3.out.trans he1).block _ L2.out).trans R2.out,((HEY3.out.trans he1).block _ L3.out).trans R3.out,((HEY3.out.trans he1).block _ L4.out).trans R4.out⟩,?_⟩
   refine anyH_cast (a':=⟨#[.string ⟨T.toArray⟩,.int .i64 k,undef,undef,.bool false,.pointer (some ⟨D1,0,none⟩),.pointer (some ⟨D1+1,0,none⟩),.pointer (some ⟨D2,0,none⟩),.pointer (some ⟨D2+1,0,none⟩),undef,undef,undef,undef,.tuple #[.agg c1,.agg #[.int .i64 fc,.int .i64 fk]],.string ⟨T.toArray⟩,.tuple #[.agg c1,.agg #[.int .i64 fc,.int .i64 fk]],.agg c1,.agg #[.int .i64 fc,.int .i64 fk],.tuple #[.agg c2,.agg #[.int .i64 fc,.int .i64 fk]],.string ⟨T.toArray⟩,.tuple #[.agg c2,.agg #[.int .i64 fc,.int .i64 fk]],.agg c2,.agg #[.int .i64 fc,.int .i64 fk],.bool true,undef,undef,undef,undef,undef,undef,undef,undef,undef,undef,undef,undef,undef,undef,undef,undef,undef,undef,undef,undef,undef,undef,undef,undef,undef,undef,undef,undef,undef,undef,undef,undef,undef,undef,undef,undef,undef,undef,undef,undef,undef,undef,undef,undef,undef,undef,undef,undef,undef,undef,undef,undef,undef,undef,undef,undef,undef,undef,undef,undef,undef,undef,undef,undef,undef,undef,undef,undef,undef,undef,undef,undef,undef,undef,undef,undef,undef,undef,undef,undef,undef,undef,undef,undef,undef,undef,undef,undef,undef,undef,undef,undef],[]⟩) (l':=#[true,false,false,false,false,false,false,false,false,false,false,false,false,false,false,false,false,false,false,false,false,false,false,false,false]) (by kernel_rfl) (by kernel_rfl) ?_
   have hHeld:w1.heap[D1]?=some (.cells c1 28 (0,0))∧w1.heap[D1+1]?=some (.cells #[.int .i64 fc,.int .i64 fk] 30 (0,0))∧w1.heap[D2]?=some (.cells c2 38 (0,0))∧w1.heap[D2+1]?=some (.cells #[.int .i64 fc,.int .i64 fk] 30 (0,0)):=⟨((HEY3.out.trans he1).block _ L1.out).trans R1.out,((HEY3.out.trans he1).block _ L2.out).trans R2.out,((HEY3.out.trans he1).block _ L3.out).trans R3.out,((HEY3.out.trans he1).block _ L4.out).trans R4.out⟩
   refine wpAnyH_take (i:=1) (v:=.bool false) rfl (by kernel_rfl) (by kernel_rfl) (by kernel_rfl) (fun _ _ _ h=>h) (Or.inl ⟨by kernel_rfl,?_⟩) hHeld ?_
   ·intro w hSw
    kernel_rfl
   refine wpAnyH_take (i:=2) (v:=.bool false) rfl (by kernel_rfl) (by kernel_rfl) (by kernel_rfl) (fun _ _ _ h=>h) (Or.inl ⟨by kernel_rfl,?_⟩) hHeld ?_
   ·intro w hSw
    kernel_rfl
   refine wpAnyH_take (i:=3) (v:=.agg #[.int .i64 fc,.int .i64 fk]) rfl (by kernel_rfl) (by kernel_rfl) (by kernel_rfl) (fun _ _ _ h=>h) (Or.inl ⟨by kernel_rfl,?_⟩) hHeld ?_
   ·intro w hSw
    exact exec_load_row 30 _ rfl (D1+1) (by kernel_rfl) 30 _ (0,0) _ hSw.2.1 Tryz.underlying30 rfl fault_info
   refine wpAnyH_take (i:=4) (v:=.agg #[.int .i64 fc,.int .i64 fk]) rfl (by kernel_rfl) (by kernel_rfl) (by kernel_rfl) (fun _ _ _ h=>h) (Or.inl ⟨by kernel_rfl,?_⟩) hHeld ?_
   ·intro w hSw
    exact exec_load_row 30 _ rfl (D2+1) (by kernel_rfl) 30 _ (0,0) _ hSw.2.2.2 Tryz.underlying30 rfl fault_info
   refine wpAnyH_take (i:=5) (v:=.bool false) rfl (by kernel_rfl) (by kernel_rfl) (by kernel_rfl) (fun _ _ _ h=>h) (Or.inl ⟨by kernel_rfl,?_⟩) hHeld ?_
   ·intro w hSw
    go_simp
    try with_reducible rfl
   refine wpAnyH_take (i:=6) (v:=.bool false) rfl (by kernel_rfl) (by kernel_rfl) (by kernel_rfl) (fun _ _ _ h=>h) (Or.inl ⟨by kernel_rfl,?_⟩) hHeld ?_
   ·intro w hSw
    kernel_rfl
   refine wpAnyH_take (i:=7) (v:=.bool false) rfl (by kernel_rfl) (by kernel_rfl) (by kernel_rfl) (fun _ _ _ h=>h) (Or.inl ⟨by kernel_rfl,?_⟩) hHeld ?_
   ·intro w hSw
    kernel_rfl
   refine wpAnyH_take (i:=8) (v:=.agg c1) rfl (by kernel_rfl) (by kernel_rfl) (by kernel_rfl) (fun _ _ _ h=>h) (Or.inl ⟨by kernel_rfl,?_⟩) hHeld ?_
   ·intro w hSw
    exact exec_load_row 28 _ rfl (D1) (by kernel_rfl) 28 _ (0,0) _ hSw.1 Tryz.underlying28 rfl I1.out
   refine wpAnyH_take (i:=10) (v:=.agg c2) rfl (by kernel_rfl) (by kernel_rfl) (by kernel_rfl) (fun _ _ _ h=>h) (Or.inl ⟨by kernel_rfl,?_⟩) hHeld ?_
   ·intro w hSw
    exact exec_load_row 38 _ rfl (D2) (by kernel_rfl) 38 _ (0,0) _ hSw.2.2.1 Tryz.underlying38 rfl I2.out
   clear hHeld
   refine anyH_call (i:=9) (by kernel_rfl) rfl (by kernel_rfl) 9 #[.agg c1] (by kernel_rfl) (R:=fun v w'=>v=.string ⟨T.toArray⟩∧Ext w1 w') (((Htxt.out ▸ (RText_nm c1 x P E w1 (N1.out.ext (HEY3.out.trans he1)) K (by have:=HB.out;omega) (by have:=HB.out;omega) (by have:=HB.out;omega) (by have:=HB.out;omega) (tab_ext HT.out (HEY30.out.trans he1))):Calls Tryz.prog 9 #[.agg c1] w1 fun e w'=>e=.returned (.string ⟨T.toArray⟩)∧Ext w1 w')).mono (by rintro e w' ⟨rfl,hx⟩;exact ⟨_,rfl,rfl,hx⟩)) ?_
   rintro v w2 ⟨rfl,hx2⟩
   have he2:=he1.trans hx2
   refine ⟨⟨((HEY3.out.trans he2).block _ L1.out).trans R1.out,((HEY3.out.trans he2).block _ L2.out).trans R2.out,((HEY3.out.trans he2).block _ L3.out).trans R3.out,((HEY3.out.trans he2).block _ L4.out).trans R4.out⟩,?_⟩
   refine anyH_cast (a':=⟨#[.string ⟨T.toArray⟩,.int .i64 k,undef,undef,.bool false,.pointer (some ⟨D1,0,none⟩),.pointer (some ⟨D1+1,0,none⟩),.pointer (some ⟨D2,0,none⟩),.pointer (some ⟨D2+1,0,none⟩),undef,undef,undef,undef,.tuple #[.agg c1,.agg #[.int .i64 fc,.int .i64 fk]],.string ⟨T.toArray⟩,.tuple #[.agg c1,.agg #[.int .i64 fc,.int .i64 fk]],.agg c1,.agg #[.int .i64 fc,.int .i64 fk],.tuple #[.agg c2,.agg #[.int .i64 fc,.int .i64 fk]],.string ⟨T.toArray⟩,.tuple #[.agg c2,.agg #[.int .i64 fc,.int .i64 fk]],.agg c2,.agg #[.int .i64 fc,.int .i64 fk],.bool true,.bool false,.bool false,.agg #[.int .i64 fc,.int .i64 fk],.agg #[.int .i64 fc,.int .i64 fk],.bool false,.bool false,.bool false,.agg c1,.string ⟨T.toArray⟩,.agg c2,undef,undef,undef,undef,undef,undef,undef,undef,undef,undef,undef,undef,undef,undef,undef,undef,undef,undef,undef,undef,undef,undef,undef,undef,undef,undef,undef,undef,undef,undef,undef,undef,undef,undef,undef,undef,undef,undef,undef,undef,undef,undef,undef,undef,undef,undef,undef,undef,undef,undef,undef,undef,undef,undef,undef,undef,undef,undef,undef,undef,undef,undef,undef,undef,undef,undef,undef,undef,undef,undef,undef,undef,undef,undef,undef,undef,undef,undef,undef,undef,undef,undef],[]⟩) (l':=#[true,true,true,true,true,true,true,true,true,true,true,false,false,false,false,false,false,false,false,false,false,false,false,false,false]) (by kernel_rfl) (by kernel_rfl) ?_
   refine anyH_call (i:=11) (by kernel_rfl) rfl (by kernel_rfl) 10 #[.agg c2] (by kernel_rfl) (R:=fun v w'=>v=.string ⟨T.toArray⟩∧Ext w2 w') (((Htxt.out ▸ (QText_nm c2 x P2 E w2 (N2.out.ext (HEY3.out.trans he2)) (by have:=HB.out;omega) (by have:=HB.out;omega)):Calls Tryz.prog 10 #[.agg c2] w2 fun e w'=>e=.returned (.string ⟨T.toArray⟩)∧Ext w2 w')).mono (by rintro e w' ⟨rfl,hx⟩;exact ⟨_,rfl,rfl,hx⟩)) ?_
   rintro v w3 ⟨rfl,hx3⟩
   have he3:=he2.trans hx3
   refine ⟨⟨((HEY3.out.trans he3).block _ L1.out).trans R1.out,((HEY3.out.trans he3).block _ L2.out).trans R2.out,((HEY3.out.trans he3).block _ L3.out).trans R3.out,((HEY3.out.trans he3).block _ L4.out).trans R4.out⟩,?_⟩
   refine anyH_cast (a':=⟨#[.string ⟨T.toArray⟩,.int .i64 k,undef,undef,.bool false,.pointer (some ⟨D1,0,none⟩),.pointer (some ⟨D1+1,0,none⟩),.pointer (some ⟨D2,0,none⟩),.pointer (some ⟨D2+1,0,none⟩),undef,undef,undef,undef,.tuple #[.agg c1,.agg #[.int .i64 fc,.int .i64 fk]],.string ⟨T.toArray⟩,.tuple #[.agg c1,.agg #[.int .i64 fc,.int .i64 fk]],.agg c1,.agg #[.int .i64 fc,.int .i64 fk],.tuple #[.agg c2,.agg #[.int .i64 fc,.int .i64 fk]],.string ⟨T.toArray⟩,.tuple #[.agg c2,.agg #[.int .i64 fc,.int .i64 fk]],.agg c2,.agg #[.int .i64 fc,.int .i64 fk],.bool true,.bool false,.bool false,.agg #[.int .i64 fc,.int .i64 fk],.agg #[.int .i64 fc,.int .i64 fk],.bool false,.bool false,.bool false,.agg c1,.string ⟨T.toArray⟩,.agg c2,.string ⟨T.toArray⟩,undef,undef,undef,undef,undef,undef,undef,undef,undef,undef,undef,undef,undef,undef,undef,undef,undef,undef,undef,undef,undef,undef,undef,undef,undef,undef,undef,undef,undef,undef,undef,undef,undef,undef,undef,undef,undef,undef,undef,undef,undef,undef,undef,undef,undef,undef,undef,undef,undef,undef,undef,undef,undef,undef,undef,undef,undef,undef,undef,undef,undef,undef,undef,undef,undef,undef,undef,undef,undef,undef,undef,undef,undef,undef,undef,undef,undef,undef,undef,undef,undef],[]⟩) (l':=#[true,true,true,true,true,true,true,true,true,true,true,true,false,false,false,false,false,false,false,false,false,false,false,false,false]) (by kernel_rfl) (by kernel_rfl) ?_
   have hHeld:w3.heap[D1]?=some (.cells c1 28 (0,0))∧w3.heap[D1+1]?=some (.cells #[.int .i64 fc,.int .i64 fk] 30 (0,0))∧w3.heap[D2]?=some (.cells c2 38 (0,0))∧w3.heap[D2+1]?=some (.cells #[.int .i64 fc,.int .i64 fk] 30 (0,0)):=⟨((HEY3.out.trans he3).block _ L1.out).trans R1.out,((HEY3.out.trans he3).block _ L2.out).trans R2.out,((HEY3.out.trans he3).block _ L3.out).trans R3.out,((HEY3.out.trans he3).block _ L4.out).trans R4.out⟩
   refine wpAnyH_take (i:=12) (v:=.bool false) rfl (by kernel_rfl) (by kernel_rfl) (by kernel_rfl) (fun _ _ _ h=>h) (Or.inl ⟨by kernel_rfl,?_⟩) hHeld ?_
   ·intro w hSw
    go_simp
    try with_reducible rfl
   refine wpAnyH_take (i:=13) (v:=.bool false) rfl (by kernel_rfl) (by kernel_rfl) (by kernel_rfl) (fun _ _ _ h=>h) (Or.inl ⟨by kernel_rfl,?_⟩) hHeld ?_
   ·intro w hSw
    kernel_rfl
   refine wpAnyH_take (i:=14) (v:=.bool false) rfl (by kernel_rfl) (by kernel_rfl) (by kernel_rfl) (fun _ _ _ h=>h) (Or.inl ⟨by kernel_rfl,?_⟩) hHeld ?_
   ·intro w hSw
    kernel_rfl
   refine wpAnyH_take (i:=15) (v:=.pointer (some ⟨D1+1,0,none⟩)) rfl (by kernel_rfl) (by kernel_rfl) (by kernel_rfl) (fun _ _ _ h=>h) (Or.inl ⟨by kernel_rfl,?_⟩) hHeld ?_
   ·intro w hSw
    kernel_rfl
   refine wpAnyH_take (i:=16) (v:=.int .i64 fc) rfl (by kernel_rfl) (by kernel_rfl) (by kernel_rfl) (fun _ _ _ h=>h) (Or.inl ⟨by kernel_rfl,?_⟩) hHeld ?_
   ·intro w hSw
    have kc:=cell_of_row _ (D1+1) 0 _ _ _ hSw.2.1
    rw [show (#[.int .i64 fc,.int .i64 fk]:Array Value)[0]?=some (.int .i64 fc) from rfl] at kc
    go_simp
    try with_reducible rfl
   refine wpAnyH_take (i:=17) (v:=.bool true) rfl (by kernel_rfl) (by kernel_rfl) (by kernel_rfl) (fun _ _ _ h=>h) (Or.inl ⟨by kernel_rfl,?_⟩) hHeld ?_
   ·intro w hSw
    go_simp
    try with_reducible rfl
   refine wpAnyH_take (i:=18) (v:=.bool true) rfl (by kernel_rfl) (by kernel_rfl) (by kernel_rfl) (fun _ _ _ h=>h) (Or.inl ⟨by kernel_rfl,?_⟩) hHeld ?_
   ·intro w hSw
    kernel_rfl
   refine wpAnyH_take (i:=19) (v:=.agg c1) rfl (by kernel_rfl) (by kernel_rfl) (by kernel_rfl) (fun _ _ _ h=>h) (Or.inl ⟨by kernel_rfl,?_⟩) hHeld ?_
   ·intro w hSw
    exact exec_load_row 28 _ rfl (D1) (by kernel_rfl) 28 _ (0,0) _ hSw.1 Tryz.underlying28 rfl I1.out
   refine wpAnyH_take (i:=21) (v:=.string ⟨T.toArray⟩) rfl (by kernel_rfl) (by kernel_rfl) (by kernel_rfl) (fun _ _ _ h=>h) (Or.inl ⟨by kernel_rfl,?_⟩) hHeld ?_
   ·intro w hSw
    kernel_rfl
   clear hHeld
   refine anyH_call (i:=20) (by kernel_rfl) rfl (by kernel_rfl) 9 #[.agg c1] (by kernel_rfl) (R:=fun v w'=>v=.string ⟨T.toArray⟩∧Ext w3 w') (((Htxt.out ▸ (RText_nm c1 x P E w3 (N1.out.ext (HEY3.out.trans he3)) K (by have:=HB.out;omega) (by have:=HB.out;omega) (by have:=HB.out;omega) (by have:=HB.out;omega) (tab_ext HT.out (HEY30.out.trans he3))):Calls Tryz.prog 9 #[.agg c1] w3 fun e w'=>e=.returned (.string ⟨T.toArray⟩)∧Ext w3 w')).mono (by rintro e w' ⟨rfl,hx⟩;exact ⟨_,rfl,rfl,hx⟩)) ?_
   rintro v w4 ⟨rfl,hx4⟩
   have he4:=he3.trans hx4
   refine ⟨⟨((HEY3.out.trans he4).block _ L1.out).trans R1.out,((HEY3.out.trans he4).block _ L2.out).trans R2.out,((HEY3.out.trans he4).block _ L3.out).trans R3.out,((HEY3.out.trans he4).block _ L4.out).trans R4.out⟩,?_⟩
   refine anyH_cast (a':=⟨#[.string ⟨T.toArray⟩,.int .i64 k,undef,undef,.bool false,.pointer (some ⟨D1,0,none⟩),.pointer (some ⟨D1+1,0,none⟩),.pointer (some ⟨D2,0,none⟩),.pointer (some ⟨D2+1,0,none⟩),undef,undef,undef,undef,.tuple #[.agg c1,.agg #[.int .i64 fc,.int .i64 fk]],.string ⟨T.toArray⟩,.tuple #[.agg c1,.agg #[.int .i64 fc,.int .i64 fk]],.agg c1,.agg #[.int .i64 fc,.int .i64 fk],.tuple #[.agg c2,.agg #[.int .i64 fc,.int .i64 fk]],.string ⟨T.toArray⟩,.tuple #[.agg c2,.agg #[.int .i64 fc,.int .i64 fk]],.agg c2,.agg #[.int .i64 fc,.int .i64 fk],.bool true,.bool false,.bool false,.agg #[.int .i64 fc,.int .i64 fk],.agg #[.int .i64 fc,.int .i64 fk],.bool false,.bool false,.bool false,.agg c1,.string ⟨T.toArray⟩,.agg c2,.string ⟨T.toArray⟩,.bool false,.bool false,.bool false,.pointer (some ⟨D1+1,0,none⟩),.int .i64 fc,.bool true,.bool true,.agg c1,.string ⟨T.toArray⟩,.string ⟨T.toArray⟩,undef,undef,undef,undef,undef,undef,undef,undef,undef,undef,undef,undef,undef,undef,undef,undef,undef,undef,undef,undef,undef,undef,undef,undef,undef,undef,undef,undef,undef,undef,undef,undef,undef,undef,undef,undef,undef,undef,undef,undef,undef,undef,undef,undef,undef,undef,undef,undef,undef,undef,undef,undef,undef,undef,undef,undef,undef,undef,undef,undef,undef,undef,undef,undef,undef,undef,undef,undef,undef,undef,undef],[]⟩) (l':=#[true,true,true,true,true,true,true,true,true,true,true,true,true,true,true,true,true,true,true,true,true,true,false,false,false]) (by kernel_rfl) (by kernel_rfl) ?_
   have hHeld:w4.heap[D1]?=some (.cells c1 28 (0,0))∧w4.heap[D1+1]?=some (.cells #[.int .i64 fc,.int .i64 fk] 30 (0,0))∧w4.heap[D2]?=some (.cells c2 38 (0,0))∧w4.heap[D2+1]?=some (.cells #[.int .i64 fc,.int .i64 fk] 30 (0,0)):=⟨((HEY3.out.trans he4).block _ L1.out).trans R1.out,((HEY3.out.trans he4).block _ L2.out).trans R2.out,((HEY3.out.trans he4).block _ L3.out).trans R3.out,((HEY3.out.trans he4).block _ L4.out).trans R4.out⟩
   refine wpAnyH_take (i:=22) (v:=.bool false) rfl (by kernel_rfl) (by kernel_rfl) (by kernel_rfl) (fun _ _ _ h=>h) (Or.inl ⟨by kernel_rfl,?_⟩) hHeld ?_
   ·intro w hSw
    go_simp
    try with_reducible rfl
   refine wpAnyH_take (i:=23) (v:=.bool false) rfl (by kernel_rfl) (by kernel_rfl) (by kernel_rfl) (fun _ _ _ h=>h) (Or.inl ⟨by kernel_rfl,?_⟩) hHeld ?_
   ·intro w hSw
    kernel_rfl
   refine wpAnyH_take (i:=24) (v:=.bool false) rfl (by kernel_rfl) (by kernel_rfl) (by kernel_rfl) (fun _ _ _ h=>h) (Or.inl ⟨by kernel_rfl,?_⟩) hHeld ?_
   ·intro w hSw
    kernel_rfl
   clear hHeld
   refine anyH_done (by kernel_rfl) ?_ _
   refine act_cast (a':=⟨#[.string ⟨T.toArray⟩,.int .i64 k,undef,undef,.bool false,.pointer (some ⟨D1,0,none⟩),.pointer (some ⟨D1+1,0,none⟩),.pointer (some ⟨D2,0,none⟩),.pointer (some ⟨D2+1,0,none⟩),undef,undef,undef,undef,.tuple #[.agg c1,.agg #[.int .i64 fc,.int .i64 fk]],.string ⟨T.toArray⟩,.tuple #[.agg c1,.agg #[.int .i64 fc,.int .i64 fk]],.agg c1,.agg #[.int .i64 fc,.int .i64 fk],.tuple #[.agg c2,.agg #[.int .i64 fc,.int .i64 fk]],.string ⟨T.toArray⟩,.tuple #[.agg c2,.agg #[.int .i64 fc,.int .i64 fk]],.agg c2,.agg #[.int .i64 fc,.int .i64 fk],.bool true,.bool false,.bool false,.agg #[.int .i64 fc,.int .i64 fk],.agg #[.int .i64 fc,.int .i64 fk],.bool false,.bool false,.bool false,.agg c1,.string ⟨T.toArray⟩,.agg c2,.string ⟨T.toArray⟩,.bool false,.bool false,.bool false,.pointer (some ⟨D1+1,0,none⟩),.int .i64 fc,.bool true,.bool true,.agg c1,.string ⟨T.toArray⟩,.string ⟨T.toArray⟩,.bool false,.bool false,.bool false,undef,undef,undef,undef,undef,undef,undef,undef,undef,undef,undef,undef,undef,undef,undef,undef,undef,undef,undef,undef,undef,undef,undef,undef,undef,undef,undef,undef,undef,undef,undef,undef,undef,undef,undef,undef,undef,undef,undef,undef,undef,undef,undef,undef,undef,undef,undef,undef,undef,undef,undef,undef,undef,undef,undef,undef,undef,undef,undef,undef,undef,undef,undef,undef,undef,undef,undef,undef],[]⟩) (by kernel_rfl) ?_
   go_wp2_with fail
   go_meet
   exact ⟨rfl,he4⟩
  ·have bz:(fc == 0)=false:=by rw [beq_eq_false_iff_ne];exact hf0
   clear hf0
   have he0:Ext Y3 Y3.drew:=Below.drew (Ext.refl _)
   refine wp_region_held (S:=fun w'=>w'.heap[D1]?=some (.cells c1 28 (0,0))∧w'.heap[D1+1]?=some (.cells #[.int .i64 fc,.int .i64 fk] 30 (0,0))∧w'.heap[D2]?=some (.cells c2 38 (0,0))∧w'.heap[D2+1]?=some (.cells #[.int .i64 fc,.int .i64 fk] 30 (0,0))) (by kernel_rfl) ?_
   show wpAnyH _ _ _ _ _ 25 #[false,false,false,false,false,false,false,false,false,false,false,false,false,false,false,false,false,false,false,false,false,false,false,false,false] _ Y3.drew
   refine anyH_call (i:=0) (by kernel_rfl) rfl (by kernel_rfl) 8 #[] (by kernel_rfl) (R:=fun v w'=>v=.bool true∧Ext Y3.drew w') ((ringBegun_any Y3.drew (bru_ext Hbr.out (HEY30.out.trans he0)) (tab_ext HT.out (HEY30.out.trans he0))).mono (by rintro e w' ⟨rfl,hx⟩;exact ⟨_,rfl,rfl,hx⟩)) ?_
   rintro v w1 ⟨rfl,hx1⟩
   have he1:=he0.trans hx1
   refine ⟨⟨((HEY3.out.trans he1).block _ L1.out).trans R1.out,((HEY3.out.trans he1).block _ L2.out).trans R2.out,((HEY3.out.trans he1).block _ L3.out).trans R3.out,((HEY3.out.trans he1).block _ L4.out).trans R4.out⟩,?_⟩
   refine anyH_cast (a':=⟨#[.string ⟨T.toArray⟩,.int .i64 k,undef,undef,.bool false,.pointer (some ⟨D1,0,none⟩),.pointer (some ⟨D1+1,0,none⟩),.pointer (some ⟨D2,0,none⟩),.pointer (some ⟨D2+1,0,none⟩),undef,undef,undef,undef,.tuple #[.agg c1,.agg #[.int .i64 fc,.int .i64 fk]],.string ⟨T.toArray⟩,.tuple #[.agg c1,.agg #[.int .i64 fc,.int .i64 fk]],.agg c1,.agg #[.int .i64 fc,.int .i64 fk],.tuple #[.agg c2,.agg #[.int .i64 fc,.int .i64 fk]],.string ⟨T.toArray⟩,.tuple #[.agg c2,.agg #[.int .i64 fc,.int .i64 fk]],.agg c2,.agg #[.int .i64 fc,.int .i64 fk],.bool true,undef,undef,undef,undef,undef,undef,undef,undef,undef,undef,undef,undef,undef,undef,undef,undef,undef,undef,undef,undef,undef,undef,undef,undef,undef,undef,undef,undef,undef,undef,undef,undef,undef,undef,undef,undef,undef,undef,undef,undef,undef,undef,undef,undef,undef,undef,undef,undef,undef,undef,undef,undef,undef,undef,undef,undef,undef,undef,undef,undef,undef,undef,undef,undef,undef,undef,undef,undef,undef,undef,undef,undef,undef,undef,undef,undef,undef,undef,undef,undef,undef,undef,undef,undef,undef,undef,undef,undef,undef,undef,undef,undef],[]⟩) (l':=#[true,false,false,false,false,false,false,false,false,false,false,false,false,false,false,false,false,false,false,false,false,false,false,false,false]) (by kernel_rfl) (by kernel_rfl) ?_
   have hHeld:w1.heap[D1]?=some (.cells c1 28 (0,0))∧w1.heap[D1+1]?=some (.cells #[.int .i64 fc,.int .i64 fk] 30 (0,0))∧w1.heap[D2]?=some (.cells c2 38 (0,0))∧w1.heap[D2+1]?=some (.cells #[.int .i64 fc,.int .i64 fk] 30 (0,0)):=⟨((HEY3.out.trans he1).block _ L1.out).trans R1.out,((HEY3.out.trans he1).block _ L2.out).trans R2.out,((HEY3.out.trans he1).block _ L3.out).trans R3.out,((HEY3.out.trans he1).block _ L4.out).trans R4.out⟩
   refine wpAnyH_take (i:=1) (v:=.bool false) rfl (by kernel_rfl) (by kernel_rfl) (by kernel_rfl) (fun _ _ _ h=>h) (Or.inl ⟨by kernel_rfl,?_⟩) hHeld ?_
   ·intro w hSw
    kernel_rfl
   refine wpAnyH_take (i:=2) (v:=.bool false) rfl (by kernel_rfl) (by kernel_rfl) (by kernel_rfl) (fun _ _ _ h=>h) (Or.inl ⟨by kernel_rfl,?_⟩) hHeld ?_
   ·intro w hSw
    kernel_rfl
   refine wpAnyH_take (i:=3) (v:=.agg #[.int .i64 fc,.int .i64 fk]) rfl (by kernel_rfl) (by kernel_rfl) (by kernel_rfl) (fun _ _ _ h=>h) (Or.inl ⟨by kernel_rfl,?_⟩) hHeld ?_
   ·intro w hSw
    exact exec_load_row 30 _ rfl (D1+1) (by kernel_rfl) 30 _ (0,0) _ hSw.2.1 Tryz.underlying30 rfl fault_info
   refine wpAnyH_take (i:=4) (v:=.agg #[.int .i64 fc,.int .i64 fk]) rfl (by kernel_rfl) (by kernel_rfl) (by kernel_rfl) (fun _ _ _ h=>h) (Or.inl ⟨by kernel_rfl,?_⟩) hHeld ?_
   ·intro w hSw
    exact exec_load_row 30 _ rfl (D2+1) (by kernel_rfl) 30 _ (0,0) _ hSw.2.2.2 Tryz.underlying30 rfl fault_info
   refine wpAnyH_take (i:=5) (v:=.bool false) rfl (by kernel_rfl) (by kernel_rfl) (by kernel_rfl) (fun _ _ _ h=>h) (Or.inl ⟨by kernel_rfl,?_⟩) hHeld ?_
   ·intro w hSw
    go_simp
    try with_reducible rfl
   refine wpAnyH_take (i:=6) (v:=.bool false) rfl (by kernel_rfl) (by kernel_rfl) (by kernel_rfl) (fun _ _ _ h=>h) (Or.inl ⟨by kernel_rfl,?_⟩) hHeld ?_
   ·intro w hSw
    kernel_rfl
   refine wpAnyH_take (i:=7) (v:=.bool false) rfl (by kernel_rfl) (by kernel_rfl) (by kernel_rfl) (fun _ _ _ h=>h) (Or.inl ⟨by kernel_rfl,?_⟩) hHeld ?_
   ·intro w hSw
    kernel_rfl
   refine wpAnyH_take (i:=8) (v:=.agg c1) rfl (by kernel_rfl) (by kernel_rfl) (by kernel_rfl) (fun _ _ _ h=>h) (Or.inl ⟨by kernel_rfl,?_⟩) hHeld ?_
   ·intro w hSw
    exact exec_load_row 28 _ rfl (D1) (by kernel_rfl) 28 _ (0,0) _ hSw.1 Tryz.underlying28 rfl I1.out
   refine wpAnyH_take (i:=10) (v:=.agg c2) rfl (by kernel_rfl) (by kernel_rfl) (by kernel_rfl) (fun _ _ _ h=>h) (Or.inl ⟨by kernel_rfl,?_⟩) hHeld ?_
   ·intro w hSw
    exact exec_load_row 38 _ rfl (D2) (by kernel_rfl) 38 _ (0,0) _ hSw.2.2.1 Tryz.underlying38 rfl I2.out
   clear hHeld
   obtain ⟨T32,HT32⟩:∃ T,rtx (nmF x)=T:=⟨_,rfl⟩
   have HH32:=Lib.hid HT32
   clear HT32
   refine anyH_call (i:=9) (by kernel_rfl) rfl (by kernel_rfl) 9 #[.agg c1] (by kernel_rfl) (R:=fun v w'=>v=.string ⟨T32.toArray⟩∧Ext w1 w') (((HH32.out ▸ (RText_nm c1 x P E w1 (N1.out.ext (HEY3.out.trans he1)) K (by have:=HB.out;omega) (by have:=HB.out;omega) (by have:=HB.out;omega) (by have:=HB.out;omega) (tab_ext HT.out (HEY30.out.trans he1))):Calls Tryz.prog 9 #[.agg c1] w1 fun e w'=>e=.returned (.string ⟨T32.toArray⟩)∧Ext w1 w')).mono (by rintro e w' ⟨rfl,hx⟩;exact ⟨_,rfl,rfl,hx⟩)) ?_
   rintro v w2 ⟨rfl,hx2⟩
   have he2:=he1.trans hx2
   refine ⟨⟨((HEY3.out.trans he2).block _ L1.out).trans R1.out,((HEY3.out.trans he2).block _ L2.out).trans R2.out,((HEY3.out.trans he2).block _ L3.out).trans R3.out,((HEY3.out.trans he2).block _ L4.out).trans R4.out⟩,?_⟩
   refine anyH_cast (a':=⟨#[.string ⟨T.toArray⟩,.int .i64 k,undef,undef,.bool false,.pointer (some ⟨D1,0,none⟩),.pointer (some ⟨D1+1,0,none⟩),.pointer (some ⟨D2,0,none⟩),.pointer (some ⟨D2+1,0,none⟩),undef,undef,undef,undef,.tuple #[.agg c1,.agg #[.int .i64 fc,.int .i64 fk]],.string ⟨T.toArray⟩,.tuple #[.agg c1,.agg #[.int .i64 fc,.int .i64 fk]],.agg c1,.agg #[.int .i64 fc,.int .i64 fk],.tuple #[.agg c2,.agg #[.int .i64 fc,.int .i64 fk]],.string ⟨T.toArray⟩,.tuple #[.agg c2,.agg #[.int .i64 fc,.int .i64 fk]],.agg c2,.agg #[.int .i64 fc,.int .i64 fk],.bool true,.bool false,.bool false,.agg #[.int .i64 fc,.int .i64 fk],.agg #[.int .i64 fc,.int .i64 fk],.bool false,.bool false,.bool false,.agg c1,.string ⟨T32.toArray⟩,.agg c2,undef,undef,undef,undef,undef,undef,undef,undef,undef,undef,undef,undef,undef,undef,undef,undef,undef,undef,undef,undef,undef,undef,undef,undef,undef,undef,undef,undef,undef,undef,undef,undef,undef,undef,undef,undef,undef,undef,undef,undef,undef,undef,undef,undef,undef,undef,undef,undef,undef,undef,undef,undef,undef,undef,undef,undef,undef,undef,undef,undef,undef,undef,undef,undef,undef,undef,undef,undef,undef,undef,undef,undef,undef,undef,undef,undef,undef,undef,undef,undef,undef,undef],[]⟩) (l':=#[true,true,true,true,true,true,true,true,true,true,true,false,false,false,false,false,false,false,false,false,false,false,false,false,false]) (by kernel_rfl) (by kernel_rfl) ?_
   refine anyH_call (i:=11) (by kernel_rfl) rfl (by kernel_rfl) 10 #[.agg c2] (by kernel_rfl) (R:=fun v w'=>v=.string ⟨T32.toArray⟩∧Ext w2 w') (((HH32.out ▸ (QText_nm c2 x P2 E w2 (N2.out.ext (HEY3.out.trans he2)) (by have:=HB.out;omega) (by have:=HB.out;omega)):Calls Tryz.prog 10 #[.agg c2] w2 fun e w'=>e=.returned (.string ⟨T32.toArray⟩)∧Ext w2 w')).mono (by rintro e w' ⟨rfl,hx⟩;exact ⟨_,rfl,rfl,hx⟩)) ?_
   rintro v w3 ⟨rfl,hx3⟩
   have he3:=he2.trans hx3
   refine ⟨⟨((HEY3.out.trans he3).block _ L1.out).trans R1.out,((HEY3.out.trans he3).block _ L2.out).trans R2.out,((HEY3.out.trans he3).block _ L3.out).trans R3.out,((HEY3.out.trans he3).block _ L4.out).trans R4.out⟩,?_⟩
   refine anyH_cast (a':=⟨#[.string ⟨T.toArray⟩,.int .i64 k,undef,undef,.bool false,.pointer (some ⟨D1,0,none⟩),.pointer (some ⟨D1+1,0,none⟩),.pointer (some ⟨D2,0,none⟩),.pointer (some ⟨D2+1,0,none⟩),undef,undef,undef,undef,.tuple #[.agg c1,.agg #[.int .i64 fc,.int .i64 fk]],.string ⟨T.toArray⟩,.tuple #[.agg c1,.agg #[.int .i64 fc,.int .i64 fk]],.agg c1,.agg #[.int .i64 fc,.int .i64 fk],.tuple #[.agg c2,.agg #[.int .i64 fc,.int .i64 fk]],.string ⟨T.toArray⟩,.tuple #[.agg c2,.agg #[.int .i64 fc,.int .i64 fk]],.agg c2,.agg #[.int .i64 fc,.int .i64 fk],.bool true,.bool false,.bool false,.agg #[.int .i64 fc,.int .i64 fk],.agg #[.int .i64 fc,.int .i64 fk],.bool false,.bool false,.bool false,.agg c1,.string ⟨T32.toArray⟩,.agg c2,.string ⟨T32.toArray⟩,undef,undef,undef,undef,undef,undef,undef,undef,undef,undef,undef,undef,undef,undef,undef,undef,undef,undef,undef,undef,undef,undef,undef,undef,undef,undef,undef,undef,undef,undef,undef,undef,undef,undef,undef,undef,undef,undef,undef,undef,undef,undef,undef,undef,undef,undef,undef,undef,undef,undef,undef,undef,undef,undef,undef,undef,undef,undef,undef,undef,undef,undef,undef,undef,undef,undef,undef,undef,undef,undef,undef,undef,undef,undef,undef,undef,undef,undef,undef,undef,undef],[]⟩) (l':=#[true,true,true,true,true,true,true,true,true,true,true,true,false,false,false,false,false,false,false,false,false,false,false,false,false]) (by kernel_rfl) (by kernel_rfl) ?_
   have hHeld:w3.heap[D1]?=some (.cells c1 28 (0,0))∧w3.heap[D1+1]?=some (.cells #[.int .i64 fc,.int .i64 fk] 30 (0,0))∧w3.heap[D2]?=some (.cells c2 38 (0,0))∧w3.heap[D2+1]?=some (.cells #[.int .i64 fc,.int .i64 fk] 30 (0,0)):=⟨((HEY3.out.trans he3).block _ L1.out).trans R1.out,((HEY3.out.trans he3).block _ L2.out).trans R2.out,((HEY3.out.trans he3).block _ L3.out).trans R3.out,((HEY3.out.trans he3).block _ L4.out).trans R4.out⟩
   refine wpAnyH_take (i:=12) (v:=.bool false) rfl (by kernel_rfl) (by kernel_rfl) (by kernel_rfl) (fun _ _ _ h=>h) (Or.inl ⟨by kernel_rfl,?_⟩) hHeld ?_
   ·intro w hSw
    go_simp
    try with_reducible rfl
   refine wpAnyH_take (i:=13) (v:=.bool false) rfl (by kernel_rfl) (by kernel_rfl) (by kernel_rfl) (fun _ _ _ h=>h) (Or.inl ⟨by kernel_rfl,?_⟩) hHeld ?_
   ·intro w hSw
    kernel_rfl
   refine wpAnyH_take (i:=14) (v:=.bool false) rfl (by kernel_rfl) (by kernel_rfl) (by kernel_rfl) (fun _ _ _ h=>h) (Or.inl ⟨by kernel_rfl,?_⟩) hHeld ?_
   ·intro w hSw
    kernel_rfl
   refine wpAnyH_take (i:=15) (v:=.pointer (some ⟨D1+1,0,none⟩)) rfl (by kernel_rfl) (by kernel_rfl) (by kernel_rfl) (fun _ _ _ h=>h) (Or.inl ⟨by kernel_rfl,?_⟩) hHeld ?_
   ·intro w hSw
    kernel_rfl
   refine wpAnyH_take (i:=16) (v:=.int .i64 fc) rfl (by kernel_rfl) (by kernel_rfl) (by kernel_rfl) (fun _ _ _ h=>h) (Or.inl ⟨by kernel_rfl,?_⟩) hHeld ?_
   ·intro w hSw
    have kc:=cell_of_row _ (D1+1) 0 _ _ _ hSw.2.1
    rw [show (#[.int .i64 fc,.int .i64 fk]:Array Value)[0]?=some (.int .i64 fc) from rfl] at kc
    go_simp
    try with_reducible rfl
   refine wpAnyH_take (i:=17) (v:=.bool false) rfl (by kernel_rfl) (by kernel_rfl) (by kernel_rfl) (fun _ _ _ h=>h) (Or.inl ⟨by kernel_rfl,?_⟩) hHeld ?_
   ·intro w hSw
    go_simp
    try with_reducible rfl
   refine wpAnyH_take (i:=18) (v:=.bool false) rfl (by kernel_rfl) (by kernel_rfl) (by kernel_rfl) (fun _ _ _ h=>h) (Or.inl ⟨by kernel_rfl,?_⟩) hHeld ?_
   ·intro w hSw
    kernel_rfl
   refine wpAnyH_take (i:=19) (v:=undef) rfl (by kernel_rfl) (by kernel_rfl) (by kernel_rfl) (fun _ _ _ h=>h) (Or.inr ⟨by kernel_rfl,rfl⟩) hHeld ?_
   refine wpAnyH_take (i:=21) (v:=undef) rfl (by kernel_rfl) (by kernel_rfl) (by kernel_rfl) (fun _ _ _ h=>h) (Or.inr ⟨by kernel_rfl,rfl⟩) hHeld ?_
   refine anyH_pass (i:=20) (by kernel_rfl) rfl (by kernel_rfl) hHeld ?_
   refine anyH_cast (a':=⟨#[.string ⟨T.toArray⟩,.int .i64 k,undef,undef,.bool false,.pointer (some ⟨D1,0,none⟩),.pointer (some ⟨D1+1,0,none⟩),.pointer (some ⟨D2,0,none⟩),.pointer (some ⟨D2+1,0,none⟩),undef,undef,undef,undef,.tuple #[.agg c1,.agg #[.int .i64 fc,.int .i64 fk]],.string ⟨T.toArray⟩,.tuple #[.agg c1,.agg #[.int .i64 fc,.int .i64 fk]],.agg c1,.agg #[.int .i64 fc,.int .i64 fk],.tuple #[.agg c2,.agg #[.int .i64 fc,.int .i64 fk]],.string ⟨T.toArray⟩,.tuple #[.agg c2,.agg #[.int .i64 fc,.int .i64 fk]],.agg c2,.agg #[.int .i64 fc,.int .i64 fk],.bool true,.bool false,.bool false,.agg #[.int .i64 fc,.int .i64 fk],.agg #[.int .i64 fc,.int .i64 fk],.bool false,.bool false,.bool false,.agg c1,.string ⟨T32.toArray⟩,.agg c2,.string ⟨T32.toArray⟩,.bool false,.bool false,.bool false,.pointer (some ⟨D1+1,0,none⟩),.int .i64 fc,.bool false,.bool false,undef,undef,undef,undef,undef,undef,undef,undef,undef,undef,undef,undef,undef,undef,undef,undef,undef,undef,undef,undef,undef,undef,undef,undef,undef,undef,undef,undef,undef,undef,undef,undef,undef,undef,undef,undef,undef,undef,undef,undef,undef,undef,undef,undef,undef,undef,undef,undef,undef,undef,undef,undef,undef,undef,undef,undef,undef,undef,undef,undef,undef,undef,undef,undef,undef,undef,undef,undef,undef,undef,undef,undef,undef,undef],[]⟩) (l':=#[true,true,true,true,true,true,true,true,true,true,true,true,true,true,true,true,true,true,true,true,true,true,false,false,false]) (by kernel_rfl) (by kernel_rfl) ?_
   refine wpAnyH_take (i:=22) (v:=undef) rfl (by kernel_rfl) (by kernel_rfl) (by kernel_rfl) (fun _ _ _ h=>h) (Or.inr ⟨by kernel_rfl,rfl⟩) hHeld ?_
   refine wpAnyH_take (i:=23) (v:=.bool false) rfl (by kernel_rfl) (by kernel_rfl) (by kernel_rfl) (fun _ _ _ h=>h) (Or.inl ⟨by kernel_rfl,?_⟩) hHeld ?_
   ·intro w hSw
    kernel_rfl
   refine wpAnyH_take (i:=24) (v:=.bool false) rfl (by kernel_rfl) (by kernel_rfl) (by kernel_rfl) (fun _ _ _ h=>h) (Or.inl ⟨by kernel_rfl,?_⟩) hHeld ?_
   ·intro w hSw
    kernel_rfl
   clear hHeld
   refine anyH_done (by kernel_rfl) ?_ _
   refine act_cast (a':=⟨#[.string ⟨T.toArray⟩,.int .i64 k,undef,undef,.bool false,.pointer (some ⟨D1,0,none⟩),.pointer (some ⟨D1+1,0,none⟩),.pointer (some ⟨D2,0,none⟩),.pointer (some ⟨D2+1,0,none⟩),undef,undef,undef,undef,.tuple #[.agg c1,.agg #[.int .i64 fc,.int .i64 fk]],.string ⟨T.toArray⟩,.tuple #[.agg c1,.agg #[.int .i64 fc,.int .i64 fk]],.agg c1,.agg #[.int .i64 fc,.int .i64 fk],.tuple #[.agg c2,.agg #[.int .i64 fc,.int .i64 fk]],.string ⟨T.toArray⟩,.tuple #[.agg c2,.agg #[.int .i64 fc,.int .i64 fk]],.agg c2,.agg #[.int .i64 fc,.int .i64 fk],.bool true,.bool false,.bool false,.agg #[.int .i64 fc,.int .i64 fk],.agg #[.int .i64 fc,.int .i64 fk],.bool false,.bool false,.bool false,.agg c1,.string ⟨T32.toArray⟩,.agg c2,.string ⟨T32.toArray⟩,.bool false,.bool false,.bool false,.pointer (some ⟨D1+1,0,none⟩),.int .i64 fc,.bool false,.bool false,undef,undef,undef,undef,.bool false,.bool false,undef,undef,undef,undef,undef,undef,undef,undef,undef,undef,undef,undef,undef,undef,undef,undef,undef,undef,undef,undef,undef,undef,undef,undef,undef,undef,undef,undef,undef,undef,undef,undef,undef,undef,undef,undef,undef,undef,undef,undef,undef,undef,undef,undef,undef,undef,undef,undef,undef,undef,undef,undef,undef,undef,undef,undef,undef,undef,undef,undef,undef,undef,undef,undef,undef,undef,undef,undef],[]⟩) (by kernel_rfl) ?_
   go_wp2_with fail
   go_meet
   exact ⟨rfl,he3⟩
 case rest =>
 obtain ⟨rfl,hx⟩:=hcut
 obtain ⟨Z3,hZ⟩:∃ Z3,Z3=wc:=⟨_,rfl⟩
 rw [←hZ] at hx ⊢
 have HEZ3W:=Lib.hid (HEY30.out.trans hx);have HEZ3V:=Lib.hid (HEY3.out.trans hx)
 clear hx hZ HEY30 HEY3 HPK
 go_upto_region 5 with fail
 obtain ⟨B,hBB⟩:∃ B:Bool,B=true↔lenN (nmF x) 8=1:=by
  by_cases h:lenN (nmF x) 8=1
  ·exact ⟨true,by simp [h]⟩
  ·exact ⟨false,by simp [h]⟩
 obtain ⟨FP,hFP⟩:∃ FP,(if B then nfp (x.a 0) ((2 ^ x.e:Nat):Int) else 0)=FP:=⟨_,rfl⟩
 obtain ⟨FQ,hFQ⟩:∃ FQ,(if B then nfq (x.a 0) ((2 ^ x.e:Nat):Int) else 1)=FQ:=⟨_,rfl⟩
 have HfP:=Lib.hid (show Fit K FP by
  rw [←hFP]
  split
  ·exact fit_pow (P:=P) (Nat.lt_of_le_of_lt (nfp_le _ _) (N1.out.abs 0)) (by have:=HB.out;omega)
  ·exact fit_small (by decide) (by have:=HB.out;omega))
 have HfQ:=Lib.hid (show Fit K FQ by
  rw [←hFQ]
  split
  ·refine fit_pow (P:=x.e+1) (Nat.lt_of_le_of_lt (nfq_le _ _ (by have:0<2 ^ x.e:=Nat.pow_pos (by decide);omega)) ?_) (by have:=HB.out;have:=N1.out.down;omega)
   rw [Int.natAbs_natCast];exact Nat.pow_lt_pow_right (by decide) (by omega)
  ·exact fit_small (by decide) (by have:=HB.out;omega))
 have rz:Z3.heap[D1]?=some (.cells c1 28 (0,0)):=(HEZ3V.out.block _ L1.out).trans R1.out
 have hi1:=I1.out
 have hRa:=Rational_nm c1 x P E Z3 (N1.out.ext HEZ3V.out) K (by have:=HB.out;omega) (by have:=HB.out;omega) (by have:=HB.out;omega) (by have:=HB.out;omega) (by have:=HB.out;omega) (bru_ext Hbr.out HEZ3W.out) B hBB
 rw [hFP,hFQ] at hRa
 have hRb:=fun (wx:World) (hx:Ext V2 wx)=>QRational_nm c2 x P2 E wx (N2.out.ext hx) (by have:=HB.out;omega) (by have:=HB.out;omega) B hBB
 rw [hFP,hFQ] at hRb
 have HRa:=Lib.hid hRa;have HRb:=Lib.hid hRb
 clear hRa hRb hFP hFQ hBB
 go_wp2_with (refine wpList_load_row rfl 28 _ rfl D1 rfl 28 _ (0,0) _ rz Tryz.underlying28 rfl hi1 ?_)
 refine HRa.out.mono ?_
 rintro r w ⟨r1,r2,r3,r4,r5,r6,r7,r8,rfl,hfr,hx⟩
 obtain ⟨D3,hD⟩:∃ D3,w.heap.size=D3:=⟨_,rfl⟩
 obtain ⟨V3,hV⟩:∃ V3,w.alloc (.cells #[.int .i64 r1,.slice r2 r3 r4,.int .i64 r5,.slice r6 r7 r8] 45)=V3:=⟨_,rfl⟩
 have eV:Ext w V3:=by rw [←hV];exact Ext.alloc _ _
 have R5:=Lib.hid (show V3.heap[D3]?=some (.cells #[.int .i64 r1,.slice r2 r3 r4,.int .i64 r5,.slice r6 r7 r8] 45 (0,0)) by rw [←hV,←hD];exact heap_alloc_new w _)
 have HFr:=Lib.hid (hfr.ext eV)
 have HW3:=Lib.hid ((HEZ3W.out.trans hx).trans eV);have HV3:=Lib.hid ((HEZ3V.out.trans hx).trans eV)
 have HV:=Lib.hid hV;have HD:=Lib.hid hD
 clear rz hi1 hx eV hV hD hfr HRa HEZ3W HEZ3V
 go_upto_region 6 with fail
 rw [HV.out,HD.out]
 clear HV HD
 have rz:V3.heap[D2]?=some (.cells c2 38 (0,0)):=(HV3.out.block _ L3.out).trans R3.out
 have hi2:=I2.out
 go_wp2_with (refine wpList_load_row rfl 38 _ rfl D2 rfl 38 _ (0,0) _ rz Tryz.underlying38 rfl hi2 ?_)
 refine (HRb.out V3 HV3.out).mono ?_
 rintro r w ⟨q1,q2,q3,q4,q5,q6,q7,q8,rfl,hz1,hz2,hq3,hq7,hx⟩
 obtain ⟨D4,hD⟩:∃ D4,w.heap.size=D4:=⟨_,rfl⟩
 obtain ⟨V4,hV⟩:∃ V4,w.alloc (.cells #[.bool q1,.slice q2 q3 q4,.bool q5,.slice q6 q7 q8] 49)=V4:=⟨_,rfl⟩
 have eV:Ext w V4:=by rw [←hV];exact Ext.alloc _ _
 have R6:=Lib.hid (show V4.heap[D4]?=some (.cells #[.bool q1,.slice q2 q3 q4,.bool q5,.slice q6 q7 q8] 49 (0,0)) by rw [←hV,←hD];exact heap_alloc_new w _)
 have HZp:=Lib.hid (hz1.ext eV);have HZq:=Lib.hid (hz2.ext eV);have Hq3:=Lib.hid hq3;have Hq7:=Lib.hid hq7
 have hT4:=hx.trans eV
 have HW4:=Lib.hid (HW3.out.trans hT4);have HV4:=Lib.hid (HV3.out.trans hT4)
 have HFr:=Lib.hid (HFr.out.ext hT4)
 have R5:=Lib.hid ((hT4.block _ (Array.getElem?_eq_some_iff.1 R5.out).1).trans R5.out)
 have HV:=Lib.hid hV;have HD:=Lib.hid hD
 clear rz hi2 hx eV hV hD hz1 hz2 hq3 hq7 HRb hT4 HW3 HV3
 go_upto_region 7 with fail
 rw [HV.out,HD.out]
 clear HV HD
 have N1:=Lib.hid (N1.out.ext HV4.out);have N2:=Lib.hid (N2.out.ext HV4.out)
 have R1:=Lib.hid ((HV4.out.block _ L1.out).trans R1.out);have R3:=Lib.hid ((HV4.out.block _ L3.out).trans R3.out)
 have L1:=Lib.hid (Array.getElem?_eq_some_iff.1 R1.out).1;have L3:=Lib.hid (Array.getElem?_eq_some_iff.1 R3.out).1;have L5:=Lib.hid (Array.getElem?_eq_some_iff.1 R5.out).1;have L6:=Lib.hid (Array.getElem?_eq_some_iff.1 R6.out).1
 clear HV4 R2 R4 L2 L4
 obtain ⟨Bz,hBz⟩:∃ Bz:Bool,Bz=true↔∀ k,x.a k=0:=by
  by_cases h:∀ k,x.a k=0
  ·exact ⟨true,by simp [h]⟩
  ·exact ⟨false,by simp only [Bool.false_eq_true,false_iff];exact h⟩
 obtain ⟨Be,hBe⟩:∃ Be:Bool,Be=true↔∀ i:Nat,i<4→x.a (2*i+1:Nat)=0:=by
  by_cases h:∀ i:Nat,i<4→x.a (2*i+1:Nat)=0
  ·exact ⟨true,by simp only [true_iff];exact h⟩
  ·exact ⟨false,by simp only [Bool.false_eq_true,false_iff];exact h⟩
 obtain ⟨dp,hdp⟩:∃ dp,dep x=dp:=⟨_,rfl⟩
 have HBz:=Lib.hid hBz;have HBe:=Lib.hid hBe;have Hdp:=Lib.hid hdp
 clear hBz hBe hdp
 obtain ⟨Y7,hY7⟩:∃ Y7,Y7=V4:=⟨_,rfl⟩
 rw [←hY7]
 have HEY70:=Lib.hid (show Ext W Y7 by rw [hY7];exact HW4.out)
 have HEY7:=Lib.hid (show Ext V4 Y7 by rw [hY7];exact Ext.refl _)
 clear hY7
 go_cut [88] from 58 to 87 (fun s88 wx=>s88=.bool false∧Ext Y7 wx)
 case first =>
  have he0:Ext Y7 Y7.drew:=Below.drew (Ext.refl _)
  refine wp_region_held (S:=fun w'=>w'.heap[D1]?=some (.cells c1 28 (0,0))∧w'.heap[D2]?=some (.cells c2 38 (0,0))∧w'.heap[D3]?=some (.cells #[.int .i64 r1,.slice r2 r3 r4,.int .i64 r5,.slice r6 r7 r8] 45 (0,0))∧w'.heap[D4]?=some (.cells #[.bool q1,.slice q2 q3 q4,.bool q5,.slice q6 q7 q8] 49 (0,0))) (by kernel_rfl) ?_
  show wpAnyH _ _ _ _ _ 31 #[false,false,false,false,false,false,false,false,false,false,false,false,false,false,false,false,false,false,false,false,false,false,false,false,false,false,false,false,false,false,false] _ Y7.drew
  have hHeld:Y7.drew.heap[D1]?=some (.cells c1 28 (0,0))∧Y7.drew.heap[D2]?=some (.cells c2 38 (0,0))∧Y7.drew.heap[D3]?=some (.cells #[.int .i64 r1,.slice r2 r3 r4,.int .i64 r5,.slice r6 r7 r8] 45 (0,0))∧Y7.drew.heap[D4]?=some (.cells #[.bool q1,.slice q2 q3 q4,.bool q5,.slice q6 q7 q8] 49 (0,0)):=⟨((HEY7.out.trans he0).block _ L1.out).trans R1.out,((HEY7.out.trans he0).block _ L3.out).trans R3.out,((HEY7.out.trans he0).block _ L5.out).trans R5.out,((HEY7.out.trans he0).block _ L6.out).trans R6.out⟩
  refine wpAnyH_take (i:=0) (v:=.bool B) rfl (by kernel_rfl) (by kernel_rfl) (by kernel_rfl) (fun _ _ _ h=>h) (Or.inl ⟨by kernel_rfl,?_⟩) hHeld ?_
  ·intro w hSw
   kernel_rfl
  refine wpAnyH_take (i:=1) (v:=.bool B) rfl (by kernel_rfl) (by kernel_rfl) (by kernel_rfl) (fun _ _ _ h=>h) (Or.inl ⟨by kernel_rfl,?_⟩) hHeld ?_
  ·intro w hSw
   kernel_rfl
  refine wpAnyH_take (i:=2) (v:=.bool false) rfl (by kernel_rfl) (by kernel_rfl) (by kernel_rfl) (fun _ _ _ h=>h) (Or.inl ⟨by kernel_rfl,?_⟩) hHeld ?_
  ·intro w hSw
   cases B<;>kernel_rfl
  refine wpAnyH_take (i:=3) (v:=.bool false) rfl (by kernel_rfl) (by kernel_rfl) (by kernel_rfl) (fun _ _ _ h=>h) (Or.inl ⟨by kernel_rfl,?_⟩) hHeld ?_
  ·intro w hSw
   kernel_rfl
  refine wpAnyH_take (i:=4) (v:=.agg #[.int .i64 r1,.slice r2 r3 r4,.int .i64 r5,.slice r6 r7 r8]) rfl (by kernel_rfl) (by kernel_rfl) (by kernel_rfl) (fun _ _ _ h=>h) (Or.inl ⟨by kernel_rfl,?_⟩) hHeld ?_
  ·intro w hSw
   exact exec_load_row 45 _ rfl (D3) (by kernel_rfl) 45 _ (0,0) _ hSw.2.2.1 Tryz.underlying45 rfl fr_info
  refine wpAnyH_take (i:=6) (v:=.agg #[.bool q1,.slice q2 q3 q4,.bool q5,.slice q6 q7 q8]) rfl (by kernel_rfl) (by kernel_rfl) (by kernel_rfl) (fun _ _ _ h=>h) (Or.inl ⟨by kernel_rfl,?_⟩) hHeld ?_
  ·intro w hSw
   exact exec_load_row 49 _ rfl (D4) (by kernel_rfl) 49 _ (0,0) _ hSw.2.2.2 Tryz.underlying49 rfl zF_info
  clear hHeld
  refine anyH_call (i:=5) (by kernel_rfl) rfl (by kernel_rfl) 13 #[.agg #[.int .i64 r1,.slice r2 r3 r4,.int .i64 r5,.slice r6 r7 r8]] (by kernel_rfl) (R:=fun v w'=>v=.string (ftx FP FQ)∧Ext Y7.drew w') ((QText_any r1 r2 r3 r4 r5 r6 r7 r8 FP FQ Y7.drew (HFr.out.ext (HEY7.out.trans he0)) K (by have:=HB.out;omega) (by have:=HB.out;omega) HfP.out HfQ.out (tab_ext HT.out (HEY70.out.trans he0))).mono (by rintro e w' ⟨rfl,hx⟩;exact ⟨_,rfl,rfl,hx⟩)) ?_
  rintro v w1 ⟨rfl,hx1⟩
  have he1:=he0.trans hx1
  refine ⟨⟨((HEY7.out.trans he1).block _ L1.out).trans R1.out,((HEY7.out.trans he1).block _ L3.out).trans R3.out,((HEY7.out.trans he1).block _ L5.out).trans R5.out,((HEY7.out.trans he1).block _ L6.out).trans R6.out⟩,?_⟩
  refine anyH_cast (a':=⟨#[.string ⟨T.toArray⟩,.int .i64 k,undef,undef,.bool false,.pointer (some ⟨D1,0,none⟩),.pointer (some ⟨D1+1,0,none⟩),.pointer (some ⟨D2,0,none⟩),.pointer (some ⟨D2+1,0,none⟩),.pointer (some ⟨D3,0,none⟩),.bool B,.pointer (some ⟨D4,0,none⟩),.bool B,.tuple #[.agg c1,.agg #[.int .i64 fc,.int .i64 fk]],.string ⟨T.toArray⟩,.tuple #[.agg c1,.agg #[.int .i64 fc,.int .i64 fk]],.agg c1,.agg #[.int .i64 fc,.int .i64 fk],.tuple #[.agg c2,.agg #[.int .i64 fc,.int .i64 fk]],.string ⟨T.toArray⟩,.tuple #[.agg c2,.agg #[.int .i64 fc,.int .i64 fk]],.agg c2,.agg #[.int .i64 fc,.int .i64 fk],u23,u24,u25,u26,u27,u28,u29,u30,u31,u32,u33,u34,u35,u36,u37,u38,u39,u40,u41,u42,u43,u44,u45,u46,.bool false,.tuple #[.agg #[.int .i64 r1,.slice r2 r3 r4,.int .i64 r5,.slice r6 r7 r8],.bool B],.agg c1,.tuple #[.agg #[.int .i64 r1,.slice r2 r3 r4,.int .i64 r5,.slice r6 r7 r8],.bool B],.agg #[.int .i64 r1,.slice r2 r3 r4,.int .i64 r5,.slice r6 r7 r8],.bool B,.tuple #[.agg #[.bool q1,.slice q2 q3 q4,.bool q5,.slice q6 q7 q8],.bool B],.agg c2,.tuple #[.agg #[.bool q1,.slice q2 q3 q4,.bool q5,.slice q6 q7 q8],.bool B],.agg #[.bool q1,.slice q2 q3 q4,.bool q5,.slice q6 q7 q8],.bool B,.bool B,.bool B,.bool false,.bool false,.agg #[.int .i64 r1,.slice r2 r3 r4,.int .i64 r5,.slice r6 r7 r8],.string (ftx FP FQ),.agg #[.bool q1,.slice q2 q3 q4,.bool q5,.slice q6 q7 q8],undef,undef,undef,undef,undef,undef,undef,undef,undef,undef,undef,undef,undef,undef,undef,undef,undef,undef,undef,undef,undef,undef,undef,undef,undef,undef,undef,undef,undef,undef,undef,undef,undef,undef,undef,undef,undef,undef,undef,undef,undef,undef,undef,undef,undef,undef,undef,undef,undef,undef,undef],[]⟩) (l':=#[true,true,true,true,true,true,true,false,false,false,false,false,false,false,false,false,false,false,false,false,false,false,false,false,false,false,false,false,false,false,false]) (by kernel_rfl) (by kernel_rfl) ?_
  refine anyH_call (i:=7) (by kernel_rfl) rfl (by kernel_rfl) 14 #[.agg #[.bool q1,.slice q2 q3 q4,.bool q5,.slice q6 q7 q8]] (by kernel_rfl) (R:=fun v w'=>v=.string (ftx FP FQ)∧Ext w1 w') ((FText_any q1 q2 q3 q4 q5 q6 q7 q8 FP FQ w1 (HZp.out.ext (HEY7.out.trans he1)) (HZq.out.ext (HEY7.out.trans he1)) (by have:=Hq3.out;omega) (by have:=Hq7.out;omega) K (by have:=HB.out;omega) (by have:=HB.out;omega) HfP.out HfQ.out).mono (by rintro e w' ⟨rfl,hx⟩;exact ⟨_,rfl,rfl,hx⟩)) ?_
  rintro v w2 ⟨rfl,hx2⟩
  have he2:=he1.trans hx2
  refine ⟨⟨((HEY7.out.trans he2).block _ L1.out).trans R1.out,((HEY7.out.trans he2).block _ L3.out).trans R3.out,((HEY7.out.trans he2).block _ L5.out).trans R5.out,((HEY7.out.trans he2).block _ L6.out).trans R6.out⟩,?_⟩
  refine anyH_cast (a':=⟨#[.string ⟨T.toArray⟩,.int .i64 k,undef,undef,.bool false,.pointer (some ⟨D1,0,none⟩),.pointer (some ⟨D1+1,0,none⟩),.pointer (some ⟨D2,0,none⟩),.pointer (some ⟨D2+1,0,none⟩),.pointer (some ⟨D3,0,none⟩),.bool B,.pointer (some ⟨D4,0,none⟩),.bool B,.tuple #[.agg c1,.agg #[.int .i64 fc,.int .i64 fk]],.string ⟨T.toArray⟩,.tuple #[.agg c1,.agg #[.int .i64 fc,.int .i64 fk]],.agg c1,.agg #[.int .i64 fc,.int .i64 fk],.tuple #[.agg c2,.agg #[.int .i64 fc,.int .i64 fk]],.string ⟨T.toArray⟩,.tuple #[.agg c2,.agg #[.int .i64 fc,.int .i64 fk]],.agg c2,.agg #[.int .i64 fc,.int .i64 fk],u23,u24,u25,u26,u27,u28,u29,u30,u31,u32,u33,u34,u35,u36,u37,u38,u39,u40,u41,u42,u43,u44,u45,u46,.bool false,.tuple #[.agg #[.int .i64 r1,.slice r2 r3 r4,.int .i64 r5,.slice r6 r7 r8],.bool B],.agg c1,.tuple #[.agg #[.int .i64 r1,.slice r2 r3 r4,.int .i64 r5,.slice r6 r7 r8],.bool B],.agg #[.int .i64 r1,.slice r2 r3 r4,.int .i64 r5,.slice r6 r7 r8],.bool B,.tuple #[.agg #[.bool q1,.slice q2 q3 q4,.bool q5,.slice q6 q7 q8],.bool B],.agg c2,.tuple #[.agg #[.bool q1,.slice q2 q3 q4,.bool q5,.slice q6 q7 q8],.bool B],.agg #[.bool q1,.slice q2 q3 q4,.bool q5,.slice q6 q7 q8],.bool B,.bool B,.bool B,.bool false,.bool false,.agg #[.int .i64 r1,.slice r2 r3 r4,.int .i64 r5,.slice r6 r7 r8],.string (ftx FP FQ),.agg #[.bool q1,.slice q2 q3 q4,.bool q5,.slice q6 q7 q8],.string (ftx FP FQ),undef,undef,undef,undef,undef,undef,undef,undef,undef,undef,undef,undef,undef,undef,undef,undef,undef,undef,undef,undef,undef,undef,undef,undef,undef,undef,undef,undef,undef,undef,undef,undef,undef,undef,undef,undef,undef,undef,undef,undef,undef,undef,undef,undef,undef,undef,undef,undef,undef,undef],[]⟩) (l':=#[true,true,true,true,true,true,true,true,false,false,false,false,false,false,false,false,false,false,false,false,false,false,false,false,false,false,false,false,false,false,false]) (by kernel_rfl) (by kernel_rfl) ?_
  have hHeld:w2.heap[D1]?=some (.cells c1 28 (0,0))∧w2.heap[D2]?=some (.cells c2 38 (0,0))∧w2.heap[D3]?=some (.cells #[.int .i64 r1,.slice r2 r3 r4,.int .i64 r5,.slice r6 r7 r8] 45 (0,0))∧w2.heap[D4]?=some (.cells #[.bool q1,.slice q2 q3 q4,.bool q5,.slice q6 q7 q8] 49 (0,0)):=⟨((HEY7.out.trans he2).block _ L1.out).trans R1.out,((HEY7.out.trans he2).block _ L3.out).trans R3.out,((HEY7.out.trans he2).block _ L5.out).trans R5.out,((HEY7.out.trans he2).block _ L6.out).trans R6.out⟩
  refine wpAnyH_take (i:=8) (v:=.bool false) rfl (by kernel_rfl) (by kernel_rfl) (by kernel_rfl) (fun _ _ _ h=>h) (Or.inl ⟨by kernel_rfl,?_⟩) hHeld ?_
  ·intro w hSw
   go_simp
   try with_reducible rfl
  refine wpAnyH_take (i:=9) (v:=.bool false) rfl (by kernel_rfl) (by kernel_rfl) (by kernel_rfl) (fun _ _ _ h=>h) (Or.inl ⟨by kernel_rfl,?_⟩) hHeld ?_
  ·intro w hSw
   kernel_rfl
  refine wpAnyH_take (i:=10) (v:=.bool false) rfl (by kernel_rfl) (by kernel_rfl) (by kernel_rfl) (fun _ _ _ h=>h) (Or.inl ⟨by kernel_rfl,?_⟩) hHeld ?_
  ·intro w hSw
   kernel_rfl
  refine wpAnyH_take (i:=11) (v:=.agg c1) rfl (by kernel_rfl) (by kernel_rfl) (by kernel_rfl) (fun _ _ _ h=>h) (Or.inl ⟨by kernel_rfl,?_⟩) hHeld ?_
  ·intro w hSw
   exact exec_load_row 28 _ rfl (D1) (by kernel_rfl) 28 _ (0,0) _ hSw.1 Tryz.underlying28 rfl I1.out
  refine wpAnyH_take (i:=13) (v:=.agg c2) rfl (by kernel_rfl) (by kernel_rfl) (by kernel_rfl) (fun _ _ _ h=>h) (Or.inl ⟨by kernel_rfl,?_⟩) hHeld ?_
  ·intro w hSw
   exact exec_load_row 38 _ rfl (D2) (by kernel_rfl) 38 _ (0,0) _ hSw.2.1 Tryz.underlying38 rfl I2.out
  clear hHeld
  refine anyH_call (i:=12) (by kernel_rfl) rfl (by kernel_rfl) 15 #[.agg c1] (by kernel_rfl) (R:=fun v w'=>v=.bool Bz∧Ext w2 w') ((Zero_nm c1 x P E w2 (N1.out.ext (HEY7.out.trans he2)) Bz HBz.out).mono (by rintro e w' ⟨rfl,hx⟩;exact ⟨_,rfl,rfl,hx⟩)) ?_
  rintro v w3 ⟨rfl,hx3⟩
  have he3:=he2.trans hx3
  refine ⟨⟨((HEY7.out.trans he3).block _ L1.out).trans R1.out,((HEY7.out.trans he3).block _ L3.out).trans R3.out,((HEY7.out.trans he3).block _ L5.out).trans R5.out,((HEY7.out.trans he3).block _ L6.out).trans R6.out⟩,?_⟩
  refine anyH_cast (a':=⟨#[.string ⟨T.toArray⟩,.int .i64 k,undef,undef,.bool false,.pointer (some ⟨D1,0,none⟩),.pointer (some ⟨D1+1,0,none⟩),.pointer (some ⟨D2,0,none⟩),.pointer (some ⟨D2+1,0,none⟩),.pointer (some ⟨D3,0,none⟩),.bool B,.pointer (some ⟨D4,0,none⟩),.bool B,.tuple #[.agg c1,.agg #[.int .i64 fc,.int .i64 fk]],.string ⟨T.toArray⟩,.tuple #[.agg c1,.agg #[.int .i64 fc,.int .i64 fk]],.agg c1,.agg #[.int .i64 fc,.int .i64 fk],.tuple #[.agg c2,.agg #[.int .i64 fc,.int .i64 fk]],.string ⟨T.toArray⟩,.tuple #[.agg c2,.agg #[.int .i64 fc,.int .i64 fk]],.agg c2,.agg #[.int .i64 fc,.int .i64 fk],u23,u24,u25,u26,u27,u28,u29,u30,u31,u32,u33,u34,u35,u36,u37,u38,u39,u40,u41,u42,u43,u44,u45,u46,.bool false,.tuple #[.agg #[.int .i64 r1,.slice r2 r3 r4,.int .i64 r5,.slice r6 r7 r8],.bool B],.agg c1,.tuple #[.agg #[.int .i64 r1,.slice r2 r3 r4,.int .i64 r5,.slice r6 r7 r8],.bool B],.agg #[.int .i64 r1,.slice r2 r3 r4,.int .i64 r5,.slice r6 r7 r8],.bool B,.tuple #[.agg #[.bool q1,.slice q2 q3 q4,.bool q5,.slice q6 q7 q8],.bool B],.agg c2,.tuple #[.agg #[.bool q1,.slice q2 q3 q4,.bool q5,.slice q6 q7 q8],.bool B],.agg #[.bool q1,.slice q2 q3 q4,.bool q5,.slice q6 q7 q8],.bool B,.bool B,.bool B,.bool false,.bool false,.agg #[.int .i64 r1,.slice r2 r3 r4,.int .i64 r5,.slice r6 r7 r8],.string (ftx FP FQ),.agg #[.bool q1,.slice q2 q3 q4,.bool q5,.slice q6 q7 q8],.string (ftx FP FQ),.bool false,.bool false,.bool false,.agg c1,.bool Bz,.agg c2,undef,undef,undef,undef,undef,undef,undef,undef,undef,undef,undef,undef,undef,undef,undef,undef,undef,undef,undef,undef,undef,undef,undef,undef,undef,undef,undef,undef,undef,undef,undef,undef,undef,undef,undef,undef,undef,undef,undef,undef,undef,undef,undef,undef],[]⟩) (l':=#[true,true,true,true,true,true,true,true,true,true,true,true,true,true,false,false,false,false,false,false,false,false,false,false,false,false,false,false,false,false,false]) (by kernel_rfl) (by kernel_rfl) ?_
  refine anyH_call (i:=14) (by kernel_rfl) rfl (by kernel_rfl) 16 #[.agg c2] (by kernel_rfl) (R:=fun v w'=>v=.bool Bz∧Ext w3 w') ((QZero_any c2 (fun i=>x.a i) _ w3 (N2.out.ext (HEY7.out.trans he3)).val Bz (HBz.out.trans ⟨fun g i _=>g i,fun g=>zero_of_zeroN N1.out.anti g⟩)).mono (by rintro e w' ⟨rfl,hx⟩;exact ⟨_,rfl,rfl,hx⟩)) ?_
  rintro v w4 ⟨rfl,hx4⟩
  have he4:=he3.trans hx4
  refine ⟨⟨((HEY7.out.trans he4).block _ L1.out).trans R1.out,((HEY7.out.trans he4).block _ L3.out).trans R3.out,((HEY7.out.trans he4).block _ L5.out).trans R5.out,((HEY7.out.trans he4).block _ L6.out).trans R6.out⟩,?_⟩
  refine anyH_cast (a':=⟨#[.string ⟨T.toArray⟩,.int .i64 k,undef,undef,.bool false,.pointer (some ⟨D1,0,none⟩),.pointer (some ⟨D1+1,0,none⟩),.pointer (some ⟨D2,0,none⟩),.pointer (some ⟨D2+1,0,none⟩),.pointer (some ⟨D3,0,none⟩),.bool B,.pointer (some ⟨D4,0,none⟩),.bool B,.tuple #[.agg c1,.agg #[.int .i64 fc,.int .i64 fk]],.string ⟨T.toArray⟩,.tuple #[.agg c1,.agg #[.int .i64 fc,.int .i64 fk]],.agg c1,.agg #[.int .i64 fc,.int .i64 fk],.tuple #[.agg c2,.agg #[.int .i64 fc,.int .i64 fk]],.string ⟨T.toArray⟩,.tuple #[.agg c2,.agg #[.int .i64 fc,.int .i64 fk]],.agg c2,.agg #[.int .i64 fc,.int .i64 fk],u23,u24,u25,u26,u27,u28,u29,u30,u31,u32,u33,u34,u35,u36,u37,u38,u39,u40,u41,u42,u43,u44,u45,u46,.bool false,.tuple #[.agg #[.int .i64 r1,.slice r2 r3 r4,.int .i64 r5,.slice r6 r7 r8],.bool B],.agg c1,.tuple #[.agg #[.int .i64 r1,.slice r2 r3 r4,.int .i64 r5,.slice r6 r7 r8],.bool B],.agg #[.int .i64 r1,.slice r2 r3 r4,.int .i64 r5,.slice r6 r7 r8],.bool B,.tuple #[.agg #[.bool q1,.slice q2 q3 q4,.bool q5,.slice q6 q7 q8],.bool B],.agg c2,.tuple #[.agg #[.bool q1,.slice q2 q3 q4,.bool q5,.slice q6 q7 q8],.bool B],.agg #[.bool q1,.slice q2 q3 q4,.bool q5,.slice q6 q7 q8],.bool B,.bool B,.bool B,.bool false,.bool false,.agg #[.int .i64 r1,.slice r2 r3 r4,.int .i64 r5,.slice r6 r7 r8],.string (ftx FP FQ),.agg #[.bool q1,.slice q2 q3 q4,.bool q5,.slice q6 q7 q8],.string (ftx FP FQ),.bool false,.bool false,.bool false,.agg c1,.bool Bz,.agg c2,.bool Bz,undef,undef,undef,undef,undef,undef,undef,undef,undef,undef,undef,undef,undef,undef,undef,undef,undef,undef,undef,undef,undef,undef,undef,undef,undef,undef,undef,undef,undef,undef,undef,undef,undef,undef,undef,undef,undef,undef,undef,undef,undef,undef,undef],[]⟩) (l':=#[true,true,true,true,true,true,true,true,true,true,true,true,true,true,true,false,false,false,false,false,false,false,false,false,false,false,false,false,false,false,false]) (by kernel_rfl) (by kernel_rfl) ?_
  have hHeld:w4.heap[D1]?=some (.cells c1 28 (0,0))∧w4.heap[D2]?=some (.cells c2 38 (0,0))∧w4.heap[D3]?=some (.cells #[.int .i64 r1,.slice r2 r3 r4,.int .i64 r5,.slice r6 r7 r8] 45 (0,0))∧w4.heap[D4]?=some (.cells #[.bool q1,.slice q2 q3 q4,.bool q5,.slice q6 q7 q8] 49 (0,0)):=⟨((HEY7.out.trans he4).block _ L1.out).trans R1.out,((HEY7.out.trans he4).block _ L3.out).trans R3.out,((HEY7.out.trans he4).block _ L5.out).trans R5.out,((HEY7.out.trans he4).block _ L6.out).trans R6.out⟩
  refine wpAnyH_take (i:=15) (v:=.bool false) rfl (by kernel_rfl) (by kernel_rfl) (by kernel_rfl) (fun _ _ _ h=>h) (Or.inl ⟨by kernel_rfl,?_⟩) hHeld ?_
  ·intro w hSw
   cases Bz<;>kernel_rfl
  refine wpAnyH_take (i:=16) (v:=.bool false) rfl (by kernel_rfl) (by kernel_rfl) (by kernel_rfl) (fun _ _ _ h=>h) (Or.inl ⟨by kernel_rfl,?_⟩) hHeld ?_
  ·intro w hSw
   kernel_rfl
  refine wpAnyH_take (i:=17) (v:=.bool false) rfl (by kernel_rfl) (by kernel_rfl) (by kernel_rfl) (fun _ _ _ h=>h) (Or.inl ⟨by kernel_rfl,?_⟩) hHeld ?_
  ·intro w hSw
   kernel_rfl
  refine wpAnyH_take (i:=18) (v:=.agg c1) rfl (by kernel_rfl) (by kernel_rfl) (by kernel_rfl) (fun _ _ _ h=>h) (Or.inl ⟨by kernel_rfl,?_⟩) hHeld ?_
  ·intro w hSw
   exact exec_load_row 28 _ rfl (D1) (by kernel_rfl) 28 _ (0,0) _ hSw.1 Tryz.underlying28 rfl I1.out
  refine wpAnyH_take (i:=20) (v:=.agg c2) rfl (by kernel_rfl) (by kernel_rfl) (by kernel_rfl) (fun _ _ _ h=>h) (Or.inl ⟨by kernel_rfl,?_⟩) hHeld ?_
  ·intro w hSw
   exact exec_load_row 38 _ rfl (D2) (by kernel_rfl) 38 _ (0,0) _ hSw.2.1 Tryz.underlying38 rfl I2.out
  clear hHeld
  refine anyH_call (i:=19) (by kernel_rfl) rfl (by kernel_rfl) 17 #[.agg c1] (by kernel_rfl) (R:=fun v w'=>v=.bool Be∧Ext w4 w') ((Even_nm c1 x P E w4 (N1.out.ext (HEY7.out.trans he4)) Be HBe.out).mono (by rintro e w' ⟨rfl,hx⟩;exact ⟨_,rfl,rfl,hx⟩)) ?_
  rintro v w5 ⟨rfl,hx5⟩
  have he5:=he4.trans hx5
  refine ⟨⟨((HEY7.out.trans he5).block _ L1.out).trans R1.out,((HEY7.out.trans he5).block _ L3.out).trans R3.out,((HEY7.out.trans he5).block _ L5.out).trans R5.out,((HEY7.out.trans he5).block _ L6.out).trans R6.out⟩,?_⟩
  refine anyH_cast (a':=⟨#[.string ⟨T.toArray⟩,.int .i64 k,undef,undef,.bool false,.pointer (some ⟨D1,0,none⟩),.pointer (some ⟨D1+1,0,none⟩),.pointer (some ⟨D2,0,none⟩),.pointer (some ⟨D2+1,0,none⟩),.pointer (some ⟨D3,0,none⟩),.bool B,.pointer (some ⟨D4,0,none⟩),.bool B,.tuple #[.agg c1,.agg #[.int .i64 fc,.int .i64 fk]],.string ⟨T.toArray⟩,.tuple #[.agg c1,.agg #[.int .i64 fc,.int .i64 fk]],.agg c1,.agg #[.int .i64 fc,.int .i64 fk],.tuple #[.agg c2,.agg #[.int .i64 fc,.int .i64 fk]],.string ⟨T.toArray⟩,.tuple #[.agg c2,.agg #[.int .i64 fc,.int .i64 fk]],.agg c2,.agg #[.int .i64 fc,.int .i64 fk],u23,u24,u25,u26,u27,u28,u29,u30,u31,u32,u33,u34,u35,u36,u37,u38,u39,u40,u41,u42,u43,u44,u45,u46,.bool false,.tuple #[.agg #[.int .i64 r1,.slice r2 r3 r4,.int .i64 r5,.slice r6 r7 r8],.bool B],.agg c1,.tuple #[.agg #[.int .i64 r1,.slice r2 r3 r4,.int .i64 r5,.slice r6 r7 r8],.bool B],.agg #[.int .i64 r1,.slice r2 r3 r4,.int .i64 r5,.slice r6 r7 r8],.bool B,.tuple #[.agg #[.bool q1,.slice q2 q3 q4,.bool q5,.slice q6 q7 q8],.bool B],.agg c2,.tuple #[.agg #[.bool q1,.slice q2 q3 q4,.bool q5,.slice q6 q7 q8],.bool B],.agg #[.bool q1,.slice q2 q3 q4,.bool q5,.slice q6 q7 q8],.bool B,.bool B,.bool B,.bool false,.bool false,.agg #[.int .i64 r1,.slice r2 r3 r4,.int .i64 r5,.slice r6 r7 r8],.string (ftx FP FQ),.agg #[.bool q1,.slice q2 q3 q4,.bool q5,.slice q6 q7 q8],.string (ftx FP FQ),.bool false,.bool false,.bool false,.agg c1,.bool Bz,.agg c2,.bool Bz,.bool false,.bool false,.bool false,.agg c1,.bool Be,.agg c2,undef,undef,undef,undef,undef,undef,undef,undef,undef,undef,undef,undef,undef,undef,undef,undef,undef,undef,undef,undef,undef,undef,undef,undef,undef,undef,undef,undef,undef,undef,undef,undef,undef,undef,undef,undef,undef],[]⟩) (l':=#[true,true,true,true,true,true,true,true,true,true,true,true,true,true,true,true,true,true,true,true,true,false,false,false,false,false,false,false,false,false,false]) (by kernel_rfl) (by kernel_rfl) ?_
  refine anyH_call (i:=21) (by kernel_rfl) rfl (by kernel_rfl) 18 #[.agg c2] (by kernel_rfl) (R:=fun v w'=>v=.bool Be∧Ext w5 w') ((QEven_nm c2 x P2 E w5 (N2.out.ext (HEY7.out.trans he5)) (by have:=HB.out;omega) Be HBe.out).mono (by rintro e w' ⟨rfl,hx⟩;exact ⟨_,rfl,rfl,hx⟩)) ?_
  rintro v w6 ⟨rfl,hx6⟩
  have he6:=he5.trans hx6
  refine ⟨⟨((HEY7.out.trans he6).block _ L1.out).trans R1.out,((HEY7.out.trans he6).block _ L3.out).trans R3.out,((HEY7.out.trans he6).block _ L5.out).trans R5.out,((HEY7.out.trans he6).block _ L6.out).trans R6.out⟩,?_⟩
  refine anyH_cast (a':=⟨#[.string ⟨T.toArray⟩,.int .i64 k,undef,undef,.bool false,.pointer (some ⟨D1,0,none⟩),.pointer (some ⟨D1+1,0,none⟩),.pointer (some ⟨D2,0,none⟩),.pointer (some ⟨D2+1,0,none⟩),.pointer (some ⟨D3,0,none⟩),.bool B,.pointer (some ⟨D4,0,none⟩),.bool B,.tuple #[.agg c1,.agg #[.int .i64 fc,.int .i64 fk]],.string ⟨T.toArray⟩,.tuple #[.agg c1,.agg #[.int .i64 fc,.int .i64 fk]],.agg c1,.agg #[.int .i64 fc,.int .i64 fk],.tuple #[.agg c2,.agg #[.int .i64 fc,.int .i64 fk]],.string ⟨T.toArray⟩,.tuple #[.agg c2,.agg #[.int .i64 fc,.int .i64 fk]],.agg c2,.agg #[.int .i64 fc,.int .i64 fk],u23,u24,u25,u26,u27,u28,u29,u30,u31,u32,u33,u34,u35,u36,u37,u38,u39,u40,u41,u42,u43,u44,u45,u46,.bool false,.tuple #[.agg #[.int .i64 r1,.slice r2 r3 r4,.int .i64 r5,.slice r6 r7 r8],.bool B],.agg c1,.tuple #[.agg #[.int .i64 r1,.slice r2 r3 r4,.int .i64 r5,.slice r6 r7 r8],.bool B],.agg #[.int .i64 r1,.slice r2 r3 r4,.int .i64 r5,.slice r6 r7 r8],.bool B,.tuple #[.agg #[.bool q1,.slice q2 q3 q4,.bool q5,.slice q6 q7 q8],.bool B],.agg c2,.tuple #[.agg #[.bool q1,.slice q2 q3 q4,.bool q5,.slice q6 q7 q8],.bool B],.agg #[.bool q1,.slice q2 q3 q4,.bool q5,.slice q6 q7 q8],.bool B,.bool B,.bool B,.bool false,.bool false,.agg #[.int .i64 r1,.slice r2 r3 r4,.int .i64 r5,.slice r6 r7 r8],.string (ftx FP FQ),.agg #[.bool q1,.slice q2 q3 q4,.bool q5,.slice q6 q7 q8],.string (ftx FP FQ),.bool false,.bool false,.bool false,.agg c1,.bool Bz,.agg c2,.bool Bz,.bool false,.bool false,.bool false,.agg c1,.bool Be,.agg c2,.bool Be,undef,undef,undef,undef,undef,undef,undef,undef,undef,undef,undef,undef,undef,undef,undef,undef,undef,undef,undef,undef,undef,undef,undef,undef,undef,undef,undef,undef,undef,undef,undef,undef,undef,undef,undef,undef],[]⟩) (l':=#[true,true,true,true,true,true,true,true,true,true,true,true,true,true,true,true,true,true,true,true,true,true,false,false,false,false,false,false,false,false,false]) (by kernel_rfl) (by kernel_rfl) ?_
  have hHeld:w6.heap[D1]?=some (.cells c1 28 (0,0))∧w6.heap[D2]?=some (.cells c2 38 (0,0))∧w6.heap[D3]?=some (.cells #[.int .i64 r1,.slice r2 r3 r4,.int .i64 r5,.slice r6 r7 r8] 45 (0,0))∧w6.heap[D4]?=some (.cells #[.bool q1,.slice q2 q3 q4,.bool q5,.slice q6 q7 q8] 49 (0,0)):=⟨((HEY7.out.trans he6).block _ L1.out).trans R1.out,((HEY7.out.trans he6).block _ L3.out).trans R3.out,((HEY7.out.trans he6).block _ L5.out).trans R5.out,((HEY7.out.trans he6).block _ L6.out).trans R6.out⟩
  refine wpAnyH_take (i:=22) (v:=.bool false) rfl (by kernel_rfl) (by kernel_rfl) (by kernel_rfl) (fun _ _ _ h=>h) (Or.inl ⟨by kernel_rfl,?_⟩) hHeld ?_
  ·intro w hSw
   cases Be<;>kernel_rfl
  refine wpAnyH_take (i:=23) (v:=.bool false) rfl (by kernel_rfl) (by kernel_rfl) (by kernel_rfl) (fun _ _ _ h=>h) (Or.inl ⟨by kernel_rfl,?_⟩) hHeld ?_
  ·intro w hSw
   kernel_rfl
  refine wpAnyH_take (i:=24) (v:=.bool false) rfl (by kernel_rfl) (by kernel_rfl) (by kernel_rfl) (fun _ _ _ h=>h) (Or.inl ⟨by kernel_rfl,?_⟩) hHeld ?_
  ·intro w hSw
   kernel_rfl
  refine wpAnyH_take (i:=25) (v:=.agg c1) rfl (by kernel_rfl) (by kernel_rfl) (by kernel_rfl) (fun _ _ _ h=>h) (Or.inl ⟨by kernel_rfl,?_⟩) hHeld ?_
  ·intro w hSw
   exact exec_load_row 28 _ rfl (D1) (by kernel_rfl) 28 _ (0,0) _ hSw.1 Tryz.underlying28 rfl I1.out
  refine wpAnyH_take (i:=27) (v:=.agg c2) rfl (by kernel_rfl) (by kernel_rfl) (by kernel_rfl) (fun _ _ _ h=>h) (Or.inl ⟨by kernel_rfl,?_⟩) hHeld ?_
  ·intro w hSw
   exact exec_load_row 38 _ rfl (D2) (by kernel_rfl) 38 _ (0,0) _ hSw.2.1 Tryz.underlying38 rfl I2.out
  clear hHeld
  refine anyH_call (i:=26) (by kernel_rfl) rfl (by kernel_rfl) 19 #[.agg c1] (by kernel_rfl) (R:=fun v w'=>v=.int .i64 (dp:Nat)∧Ext w6 w') (((Hdp.out ▸ (Depth_nm c1 x P E w6 (N1.out.ext (HEY7.out.trans he6)) K (by have:=HB.out;omega) (by have:=HB.out;omega) (by have:=HB.out;omega) (by have:=HB.out;omega) (bru_ext Hbr.out (HEY70.out.trans he6))):Calls Tryz.prog 19 #[.agg c1] w6 fun e w'=>e=.returned (.int .i64 (dp:Nat))∧Ext w6 w')).mono (by rintro e w' ⟨rfl,hx⟩;exact ⟨_,rfl,rfl,hx⟩)) ?_
  rintro v w7 ⟨rfl,hx7⟩
  have he7:=he6.trans hx7
  refine ⟨⟨((HEY7.out.trans he7).block _ L1.out).trans R1.out,((HEY7.out.trans he7).block _ L3.out).trans R3.out,((HEY7.out.trans he7).block _ L5.out).trans R5.out,((HEY7.out.trans he7).block _ L6.out).trans R6.out⟩,?_⟩
  refine anyH_cast (a':=⟨#[.string ⟨T.toArray⟩,.int .i64 k,undef,undef,.bool false,.pointer (some ⟨D1,0,none⟩),.pointer (some ⟨D1+1,0,none⟩),.pointer (some ⟨D2,0,none⟩),.pointer (some ⟨D2+1,0,none⟩),.pointer (some ⟨D3,0,none⟩),.bool B,.pointer (some ⟨D4,0,none⟩),.bool B,.tuple #[.agg c1,.agg #[.int .i64 fc,.int .i64 fk]],.string ⟨T.toArray⟩,.tuple #[.agg c1,.agg #[.int .i64 fc,.int .i64 fk]],.agg c1,.agg #[.int .i64 fc,.int .i64 fk],.tuple #[.agg c2,.agg #[.int .i64 fc,.int .i64 fk]],.string ⟨T.toArray⟩,.tuple #[.agg c2,.agg #[.int .i64 fc,.int .i64 fk]],.agg c2,.agg #[.int .i64 fc,.int .i64 fk],u23,u24,u25,u26,u27,u28,u29,u30,u31,u32,u33,u34,u35,u36,u37,u38,u39,u40,u41,u42,u43,u44,u45,u46,.bool false,.tuple #[.agg #[.int .i64 r1,.slice r2 r3 r4,.int .i64 r5,.slice r6 r7 r8],.bool B],.agg c1,.tuple #[.agg #[.int .i64 r1,.slice r2 r3 r4,.int .i64 r5,.slice r6 r7 r8],.bool B],.agg #[.int .i64 r1,.slice r2 r3 r4,.int .i64 r5,.slice r6 r7 r8],.bool B,.tuple #[.agg #[.bool q1,.slice q2 q3 q4,.bool q5,.slice q6 q7 q8],.bool B],.agg c2,.tuple #[.agg #[.bool q1,.slice q2 q3 q4,.bool q5,.slice q6 q7 q8],.bool B],.agg #[.bool q1,.slice q2 q3 q4,.bool q5,.slice q6 q7 q8],.bool B,.bool B,.bool B,.bool false,.bool false,.agg #[.int .i64 r1,.slice r2 r3 r4,.int .i64 r5,.slice r6 r7 r8],.string (ftx FP FQ),.agg #[.bool q1,.slice q2 q3 q4,.bool q5,.slice q6 q7 q8],.string (ftx FP FQ),.bool false,.bool false,.bool false,.agg c1,.bool Bz,.agg c2,.bool Bz,.bool false,.bool false,.bool false,.agg c1,.bool Be,.agg c2,.bool Be,.bool false,.bool false,.bool false,.agg c1,.int .i64 (dp:Nat),.agg c2,undef,undef,undef,undef,undef,undef,undef,undef,undef,undef,undef,undef,undef,undef,undef,undef,undef,undef,undef,undef,undef,undef,undef,undef,undef,undef,undef,undef,undef,undef],[]⟩) (l':=#[true,true,true,true,true,true,true,true,true,true,true,true,true,true,true,true,true,true,true,true,true,true,true,true,true,true,true,true,false,false,false]) (by kernel_rfl) (by kernel_rfl) ?_
  refine anyH_call (i:=28) (by kernel_rfl) rfl (by kernel_rfl) 20 #[.agg c2] (by kernel_rfl) (R:=fun v w'=>v=.int .i64 (dp:Nat)∧Ext w7 w') (((Hdp.out ▸ (QDepth_nm c2 x P2 E w7 (N2.out.ext (HEY7.out.trans he7)) (by have:=HB.out;omega) (by have:=HB.out;omega)):Calls Tryz.prog 20 #[.agg c2] w7 fun e w'=>e=.returned (.int .i64 (dp:Nat))∧Ext w7 w')).mono (by rintro e w' ⟨rfl,hx⟩;exact ⟨_,rfl,rfl,hx⟩)) ?_
  rintro v w8 ⟨rfl,hx8⟩
  have he8:=he7.trans hx8
  refine ⟨⟨((HEY7.out.trans he8).block _ L1.out).trans R1.out,((HEY7.out.trans he8).block _ L3.out).trans R3.out,((HEY7.out.trans he8).block _ L5.out).trans R5.out,((HEY7.out.trans he8).block _ L6.out).trans R6.out⟩,?_⟩
  refine anyH_cast (a':=⟨#[.string ⟨T.toArray⟩,.int .i64 k,undef,undef,.bool false,.pointer (some ⟨D1,0,none⟩),.pointer (some ⟨D1+1,0,none⟩),.pointer (some ⟨D2,0,none⟩),.pointer (some ⟨D2+1,0,none⟩),.pointer (some ⟨D3,0,none⟩),.bool B,.pointer (some ⟨D4,0,none⟩),.bool B,.tuple #[.agg c1,.agg #[.int .i64 fc,.int .i64 fk]],.string ⟨T.toArray⟩,.tuple #[.agg c1,.agg #[.int .i64 fc,.int .i64 fk]],.agg c1,.agg #[.int .i64 fc,.int .i64 fk],.tuple #[.agg c2,.agg #[.int .i64 fc,.int .i64 fk]],.string ⟨T.toArray⟩,.tuple #[.agg c2,.agg #[.int .i64 fc,.int .i64 fk]],.agg c2,.agg #[.int .i64 fc,.int .i64 fk],u23,u24,u25,u26,u27,u28,u29,u30,u31,u32,u33,u34,u35,u36,u37,u38,u39,u40,u41,u42,u43,u44,u45,u46,.bool false,.tuple #[.agg #[.int .i64 r1,.slice r2 r3 r4,.int .i64 r5,.slice r6 r7 r8],.bool B],.agg c1,.tuple #[.agg #[.int .i64 r1,.slice r2 r3 r4,.int .i64 r5,.slice r6 r7 r8],.bool B],.agg #[.int .i64 r1,.slice r2 r3 r4,.int .i64 r5,.slice r6 r7 r8],.bool B,.tuple #[.agg #[.bool q1,.slice q2 q3 q4,.bool q5,.slice q6 q7 q8],.bool B],.agg c2,.tuple #[.agg #[.bool q1,.slice q2 q3 q4,.bool q5,.slice q6 q7 q8],.bool B],.agg #[.bool q1,.slice q2 q3 q4,.bool q5,.slice q6 q7 q8],.bool B,.bool B,.bool B,.bool false,.bool false,.agg #[.int .i64 r1,.slice r2 r3 r4,.int .i64 r5,.slice r6 r7 r8],.string (ftx FP FQ),.agg #[.bool q1,.slice q2 q3 q4,.bool q5,.slice q6 q7 q8],.string (ftx FP FQ),.bool false,.bool false,.bool false,.agg c1,.bool Bz,.agg c2,.bool Bz,.bool false,.bool false,.bool false,.agg c1,.bool Be,.agg c2,.bool Be,.bool false,.bool false,.bool false,.agg c1,.int .i64 (dp:Nat),.agg c2,.int .i64 (dp:Nat),undef,undef,undef,undef,undef,undef,undef,undef,undef,undef,undef,undef,undef,undef,undef,undef,undef,undef,undef,undef,undef,undef,undef,undef,undef,undef,undef,undef,undef],[]⟩) (l':=#[true,true,true,true,true,true,true,true,true,true,true,true,true,true,true,true,true,true,true,true,true,true,true,true,true,true,true,true,true,false,false]) (by kernel_rfl) (by kernel_rfl) ?_
  have hHeld:w8.heap[D1]?=some (.cells c1 28 (0,0))∧w8.heap[D2]?=some (.cells c2 38 (0,0))∧w8.heap[D3]?=some (.cells #[.int .i64 r1,.slice r2 r3 r4,.int .i64 r5,.slice r6 r7 r8] 45 (0,0))∧w8.heap[D4]?=some (.cells #[.bool q1,.slice q2 q3 q4,.bool q5,.slice q6 q7 q8] 49 (0,0)):=⟨((HEY7.out.trans he8).block _ L1.out).trans R1.out,((HEY7.out.trans he8).block _ L3.out).trans R3.out,((HEY7.out.trans he8).block _ L5.out).trans R5.out,((HEY7.out.trans he8).block _ L6.out).trans R6.out⟩
  refine wpAnyH_take (i:=29) (v:=.bool false) rfl (by kernel_rfl) (by kernel_rfl) (by kernel_rfl) (fun _ _ _ h=>h) (Or.inl ⟨by kernel_rfl,?_⟩) hHeld ?_
  ·intro w hSw
   go_simp
   try with_reducible rfl
  refine wpAnyH_take (i:=30) (v:=.bool false) rfl (by kernel_rfl) (by kernel_rfl) (by kernel_rfl) (fun _ _ _ h=>h) (Or.inl ⟨by kernel_rfl,?_⟩) hHeld ?_
  ·intro w hSw
   kernel_rfl
  clear hHeld
  refine anyH_done (by kernel_rfl) ?_ _
  refine act_cast (a':=⟨#[.string ⟨T.toArray⟩,.int .i64 k,undef,undef,.bool false,.pointer (some ⟨D1,0,none⟩),.pointer (some ⟨D1+1,0,none⟩),.pointer (some ⟨D2,0,none⟩),.pointer (some ⟨D2+1,0,none⟩),.pointer (some ⟨D3,0,none⟩),.bool B,.pointer (some ⟨D4,0,none⟩),.bool B,.tuple #[.agg c1,.agg #[.int .i64 fc,.int .i64 fk]],.string ⟨T.toArray⟩,.tuple #[.agg c1,.agg #[.int .i64 fc,.int .i64 fk]],.agg c1,.agg #[.int .i64 fc,.int .i64 fk],.tuple #[.agg c2,.agg #[.int .i64 fc,.int .i64 fk]],.string ⟨T.toArray⟩,.tuple #[.agg c2,.agg #[.int .i64 fc,.int .i64 fk]],.agg c2,.agg #[.int .i64 fc,.int .i64 fk],u23,u24,u25,u26,u27,u28,u29,u30,u31,u32,u33,u34,u35,u36,u37,u38,u39,u40,u41,u42,u43,u44,u45,u46,.bool false,.tuple #[.agg #[.int .i64 r1,.slice r2 r3 r4,.int .i64 r5,.slice r6 r7 r8],.bool B],.agg c1,.tuple #[.agg #[.int .i64 r1,.slice r2 r3 r4,.int .i64 r5,.slice r6 r7 r8],.bool B],.agg #[.int .i64 r1,.slice r2 r3 r4,.int .i64 r5,.slice r6 r7 r8],.bool B,.tuple #[.agg #[.bool q1,.slice q2 q3 q4,.bool q5,.slice q6 q7 q8],.bool B],.agg c2,.tuple #[.agg #[.bool q1,.slice q2 q3 q4,.bool q5,.slice q6 q7 q8],.bool B],.agg #[.bool q1,.slice q2 q3 q4,.bool q5,.slice q6 q7 q8],.bool B,.bool B,.bool B,.bool false,.bool false,.agg #[.int .i64 r1,.slice r2 r3 r4,.int .i64 r5,.slice r6 r7 r8],.string (ftx FP FQ),.agg #[.bool q1,.slice q2 q3 q4,.bool q5,.slice q6 q7 q8],.string (ftx FP FQ),.bool false,.bool false,.bool false,.agg c1,.bool Bz,.agg c2,.bool Bz,.bool false,.bool false,.bool false,.agg c1,.bool Be,.agg c2,.bool Be,.bool false,.bool false,.bool false,.agg c1,.int .i64 (dp:Nat),.agg c2,.int .i64 (dp:Nat),.bool false,.bool false,undef,undef,undef,undef,undef,undef,undef,undef,undef,undef,undef,undef,undef,undef,undef,undef,undef,undef,undef,undef,undef,undef,undef,undef,undef,undef,undef],[]⟩) (by kernel_rfl) ?_
  go_wp2_with fail
  go_meet
  exact ⟨rfl,he8⟩
 case rest =>
 obtain ⟨rfl,hx⟩:=hcut
 obtain ⟨Y9,hZ⟩:∃ Y9,Y9=wc:=⟨_,rfl⟩
 rw [←hZ] at hx ⊢
 have HEY90:=Lib.hid (HEY70.out.trans hx);have HEY9:=Lib.hid (HEY7.out.trans hx)
 clear hx hZ HEY70 HEY7
 go_upto_region 9 with fail
 have he0:Ext Y9 Y9.drew:=Below.drew (Ext.refl _)
 refine wp_region_held (S:=fun w'=>w'.heap[D1]?=some (.cells c1 28 (0,0))∧w'.heap[D2]?=some (.cells c2 38 (0,0))) (by kernel_rfl) ?_
 show wpAnyH _ _ _ _ _ 28 #[false,false,false,false,false,false,false,false,false,false,false,false,false,false,false,false,false,false,false,false,false,false,false,false,false,false,false,false] _ Y9.drew
 have hHeld:Y9.drew.heap[D1]?=some (.cells c1 28 (0,0))∧Y9.drew.heap[D2]?=some (.cells c2 38 (0,0)):=⟨((HEY9.out.trans he0).block _ L1.out).trans R1.out,((HEY9.out.trans he0).block _ L3.out).trans R3.out⟩
 refine wpAnyH_take (i:=0) (v:=.agg c1) rfl (by kernel_rfl) (by kernel_rfl) (by kernel_rfl) (fun _ _ _ h=>h) (Or.inl ⟨by kernel_rfl,?_⟩) hHeld ?_
 ·intro w hSw
  exact exec_load_row 28 _ rfl (D1) (by kernel_rfl) 28 _ (0,0) _ hSw.1 Tryz.underlying28 rfl I1.out
 refine wpAnyH_take (i:=1) (v:=.int .i64 k) rfl (by kernel_rfl) (by kernel_rfl) (by kernel_rfl) (fun _ _ _ h=>h) (Or.inl ⟨by kernel_rfl,?_⟩) hHeld ?_
 ·intro w hSw
  kernel_rfl
 refine wpAnyH_take (i:=4) (v:=.agg c2) rfl (by kernel_rfl) (by kernel_rfl) (by kernel_rfl) (fun _ _ _ h=>h) (Or.inl ⟨by kernel_rfl,?_⟩) hHeld ?_
 ·intro w hSw
  exact exec_load_row 38 _ rfl (D2) (by kernel_rfl) 38 _ (0,0) _ hSw.2 Tryz.underlying38 rfl I2.out
 refine wpAnyH_take (i:=5) (v:=.int .i64 k) rfl (by kernel_rfl) (by kernel_rfl) (by kernel_rfl) (fun _ _ _ h=>h) (Or.inl ⟨by kernel_rfl,?_⟩) hHeld ?_
 ·intro w hSw
  kernel_rfl
 clear hHeld
 refine anyH_call (i:=2) (by kernel_rfl) rfl (by kernel_rfl) 21 #[.agg c1,.int .i64 k] (by kernel_rfl) (R:=fun v w'=>∃ c,v=.agg c∧NmA w' c (nTr k x) P E∧Ext Y9.drew w') ((Turn_nm c1 x P E k Y9.drew (N1.out.ext (HEY9.out.trans he0)) K (by have:=HB.out;omega) (by have:=HB.out;omega)).mono (by rintro e w' ⟨c,rfl,n,hx⟩;exact ⟨_,rfl,c,rfl,n,hx⟩)) ?_
 rintro v w1 ⟨c91,rfl,n91,hx1⟩
 have he1:=he0.trans hx1
 have NN91:=Lib.hid n91
 clear n91
 refine ⟨⟨((HEY9.out.trans he1).block _ L1.out).trans R1.out,((HEY9.out.trans he1).block _ L3.out).trans R3.out⟩,?_⟩
 refine anyH_cast (a':=⟨#[.string ⟨T.toArray⟩,.int .i64 k,undef,undef,.bool false,.pointer (some ⟨D1,0,none⟩),.pointer (some ⟨D1+1,0,none⟩),.pointer (some ⟨D2,0,none⟩),.pointer (some ⟨D2+1,0,none⟩),.pointer (some ⟨D3,0,none⟩),.bool B,.pointer (some ⟨D4,0,none⟩),.bool B,.tuple #[.agg c1,.agg #[.int .i64 fc,.int .i64 fk]],.string ⟨T.toArray⟩,.tuple #[.agg c1,.agg #[.int .i64 fc,.int .i64 fk]],.agg c1,.agg #[.int .i64 fc,.int .i64 fk],.tuple #[.agg c2,.agg #[.int .i64 fc,.int .i64 fk]],.string ⟨T.toArray⟩,.tuple #[.agg c2,.agg #[.int .i64 fc,.int .i64 fk]],.agg c2,.agg #[.int .i64 fc,.int .i64 fk],u23,u24,u25,u26,u27,u28,u29,u30,u31,u32,u33,u34,u35,u36,u37,u38,u39,u40,u41,u42,u43,u44,u45,u46,.bool false,.tuple #[.agg #[.int .i64 r1,.slice r2 r3 r4,.int .i64 r5,.slice r6 r7 r8],.bool B],.agg c1,.tuple #[.agg #[.int .i64 r1,.slice r2 r3 r4,.int .i64 r5,.slice r6 r7 r8],.bool B],.agg #[.int .i64 r1,.slice r2 r3 r4,.int .i64 r5,.slice r6 r7 r8],.bool B,.tuple #[.agg #[.bool q1,.slice q2 q3 q4,.bool q5,.slice q6 q7 q8],.bool B],.agg c2,.tuple #[.agg #[.bool q1,.slice q2 q3 q4,.bool q5,.slice q6 q7 q8],.bool B],.agg #[.bool q1,.slice q2 q3 q4,.bool q5,.slice q6 q7 q8],.bool B,u58,u59,u60,u61,u62,u63,u64,u65,u66,u67,u68,u69,u70,u71,u72,u73,u74,u75,u76,u77,u78,u79,u80,u81,u82,u83,u84,u85,u86,u87,.bool false,.agg c1,.int .i64 k,.agg c91,undef,.agg c2,.int .i64 k,undef,undef,undef,undef,undef,undef,undef,undef,undef,undef,undef,undef,undef,undef,undef,undef,undef,undef,undef,undef,undef],[]⟩) (l':=#[true,true,true,false,true,true,false,false,false,false,false,false,false,false,false,false,false,false,false,false,false,false,false,false,false,false,false,false]) (by kernel_rfl) (by kernel_rfl) ?_
 obtain ⟨T92,HT92⟩:∃ T,rtx (nmF (nTr k x))=T:=⟨_,rfl⟩
 have HH92:=Lib.hid HT92
 clear HT92
 refine anyH_call (i:=3) (by kernel_rfl) rfl (by kernel_rfl) 9 #[.agg c91] (by kernel_rfl) (R:=fun v w'=>v=.string ⟨T92.toArray⟩∧Ext w1 w') (((HH92.out ▸ (RText_nm c91 (nTr k x) P E w1 NN91.out K (by have:=HB.out;omega) (by have:=HB.out;omega) (by have:=HB.out;omega) (by have:=HB.out;omega) (tab_ext HT.out (HEY90.out.trans he1))):Calls Tryz.prog 9 #[.agg c91] w1 fun e w'=>e=.returned (.string ⟨T92.toArray⟩)∧Ext w1 w')).mono (by rintro e w' ⟨rfl,hx⟩;exact ⟨_,rfl,rfl,hx⟩)) ?_
 rintro v w2 ⟨rfl,hx2⟩
 have he2:=he1.trans hx2
 refine ⟨⟨((HEY9.out.trans he2).block _ L1.out).trans R1.out,((HEY9.out.trans he2).block _ L3.out).trans R3.out⟩,?_⟩
 refine anyH_cast (a':=⟨#[.string ⟨T.toArray⟩,.int .i64 k,undef,undef,.bool false,.pointer (some ⟨D1,0,none⟩),.pointer (some ⟨D1+1,0,none⟩),.pointer (some ⟨D2,0,none⟩),.pointer (some ⟨D2+1,0,none⟩),.pointer (some ⟨D3,0,none⟩),.bool B,.pointer (some ⟨D4,0,none⟩),.bool B,.tuple #[.agg c1,.agg #[.int .i64 fc,.int .i64 fk]],.string ⟨T.toArray⟩,.tuple #[.agg c1,.agg #[.int .i64 fc,.int .i64 fk]],.agg c1,.agg #[.int .i64 fc,.int .i64 fk],.tuple #[.agg c2,.agg #[.int .i64 fc,.int .i64 fk]],.string ⟨T.toArray⟩,.tuple #[.agg c2,.agg #[.int .i64 fc,.int .i64 fk]],.agg c2,.agg #[.int .i64 fc,.int .i64 fk],u23,u24,u25,u26,u27,u28,u29,u30,u31,u32,u33,u34,u35,u36,u37,u38,u39,u40,u41,u42,u43,u44,u45,u46,.bool false,.tuple #[.agg #[.int .i64 r1,.slice r2 r3 r4,.int .i64 r5,.slice r6 r7 r8],.bool B],.agg c1,.tuple #[.agg #[.int .i64 r1,.slice r2 r3 r4,.int .i64 r5,.slice r6 r7 r8],.bool B],.agg #[.int .i64 r1,.slice r2 r3 r4,.int .i64 r5,.slice r6 r7 r8],.bool B,.tuple #[.agg #[.bool q1,.slice q2 q3 q4,.bool q5,.slice q6 q7 q8],.bool B],.agg c2,.tuple #[.agg #[.bool q1,.slice q2 q3 q4,.bool q5,.slice q6 q7 q8],.bool B],.agg #[.bool q1,.slice q2 q3 q4,.bool q5,.slice q6 q7 q8],.bool B,u58,u59,u60,u61,u62,u63,u64,u65,u66,u67,u68,u69,u70,u71,u72,u73,u74,u75,u76,u77,u78,u79,u80,u81,u82,u83,u84,u85,u86,u87,.bool false,.agg c1,.int .i64 k,.agg c91,.string ⟨T92.toArray⟩,.agg c2,.int .i64 k,undef,undef,undef,undef,undef,undef,undef,undef,undef,undef,undef,undef,undef,undef,undef,undef,undef,undef,undef,undef,undef],[]⟩) (l':=#[true,true,true,true,true,true,false,false,false,false,false,false,false,false,false,false,false,false,false,false,false,false,false,false,false,false,false,false]) (by kernel_rfl) (by kernel_rfl) ?_
 refine anyH_call (i:=6) (by kernel_rfl) rfl (by kernel_rfl) 22 #[.agg c2,.int .i64 k] (by kernel_rfl) (R:=fun v w'=>∃ c,v=.agg c∧RmA w' c (nTr k x) P2 E∧Ext w2 w') ((QTurn_nm c2 x P2 E k w2 (N2.out.ext (HEY9.out.trans he2)) (by have:=HB.out;omega)).mono (by rintro e w' ⟨c,rfl,n,hx⟩;exact ⟨_,rfl,c,rfl,n,hx⟩)) ?_
 rintro v w3 ⟨c95,rfl,n95,hx3⟩
 have he3:=he2.trans hx3
 have NN95:=Lib.hid n95
 clear n95
 refine ⟨⟨((HEY9.out.trans he3).block _ L1.out).trans R1.out,((HEY9.out.trans he3).block _ L3.out).trans R3.out⟩,?_⟩
 refine anyH_cast (a':=⟨#[.string ⟨T.toArray⟩,.int .i64 k,undef,undef,.bool false,.pointer (some ⟨D1,0,none⟩),.pointer (some ⟨D1+1,0,none⟩),.pointer (some ⟨D2,0,none⟩),.pointer (some ⟨D2+1,0,none⟩),.pointer (some ⟨D3,0,none⟩),.bool B,.pointer (some ⟨D4,0,none⟩),.bool B,.tuple #[.agg c1,.agg #[.int .i64 fc,.int .i64 fk]],.string ⟨T.toArray⟩,.tuple #[.agg c1,.agg #[.int .i64 fc,.int .i64 fk]],.agg c1,.agg #[.int .i64 fc,.int .i64 fk],.tuple #[.agg c2,.agg #[.int .i64 fc,.int .i64 fk]],.string ⟨T.toArray⟩,.tuple #[.agg c2,.agg #[.int .i64 fc,.int .i64 fk]],.agg c2,.agg #[.int .i64 fc,.int .i64 fk],u23,u24,u25,u26,u27,u28,u29,u30,u31,u32,u33,u34,u35,u36,u37,u38,u39,u40,u41,u42,u43,u44,u45,u46,.bool false,.tuple #[.agg #[.int .i64 r1,.slice r2 r3 r4,.int .i64 r5,.slice r6 r7 r8],.bool B],.agg c1,.tuple #[.agg #[.int .i64 r1,.slice r2 r3 r4,.int .i64 r5,.slice r6 r7 r8],.bool B],.agg #[.int .i64 r1,.slice r2 r3 r4,.int .i64 r5,.slice r6 r7 r8],.bool B,.tuple #[.agg #[.bool q1,.slice q2 q3 q4,.bool q5,.slice q6 q7 q8],.bool B],.agg c2,.tuple #[.agg #[.bool q1,.slice q2 q3 q4,.bool q5,.slice q6 q7 q8],.bool B],.agg #[.bool q1,.slice q2 q3 q4,.bool q5,.slice q6 q7 q8],.bool B,u58,u59,u60,u61,u62,u63,u64,u65,u66,u67,u68,u69,u70,u71,u72,u73,u74,u75,u76,u77,u78,u79,u80,u81,u82,u83,u84,u85,u86,u87,.bool false,.agg c1,.int .i64 k,.agg c91,.string ⟨T92.toArray⟩,.agg c2,.int .i64 k,.agg c95,undef,undef,undef,undef,undef,undef,undef,undef,undef,undef,undef,undef,undef,undef,undef,undef,undef,undef,undef,undef],[]⟩) (l':=#[true,true,true,true,true,true,true,false,false,false,false,false,false,false,false,false,false,false,false,false,false,false,false,false,false,false,false,false]) (by kernel_rfl) (by kernel_rfl) ?_
 refine anyH_call (i:=7) (by kernel_rfl) rfl (by kernel_rfl) 10 #[.agg c95] (by kernel_rfl) (R:=fun v w'=>v=.string ⟨T92.toArray⟩∧Ext w3 w') (((HH92.out ▸ (QText_nm c95 (nTr k x) P2 E w3 NN95.out (by have:=HB.out;omega) (by have:=HB.out;omega)):Calls Tryz.prog 10 #[.agg c95] w3 fun e w'=>e=.returned (.string ⟨T92.toArray⟩)∧Ext w3 w')).mono (by rintro e w' ⟨rfl,hx⟩;exact ⟨_,rfl,rfl,hx⟩)) ?_
 rintro v w4 ⟨rfl,hx4⟩
 have he4:=he3.trans hx4
 refine ⟨⟨((HEY9.out.trans he4).block _ L1.out).trans R1.out,((HEY9.out.trans he4).block _ L3.out).trans R3.out⟩,?_⟩
 refine anyH_cast (a':=⟨#[.string ⟨T.toArray⟩,.int .i64 k,undef,undef,.bool false,.pointer (some ⟨D1,0,none⟩),.pointer (some ⟨D1+1,0,none⟩),.pointer (some ⟨D2,0,none⟩),.pointer (some ⟨D2+1,0,none⟩),.pointer (some ⟨D3,0,none⟩),.bool B,.pointer (some ⟨D4,0,none⟩),.bool B,.tuple #[.agg c1,.agg #[.int .i64 fc,.int .i64 fk]],.string ⟨T.toArray⟩,.tuple #[.agg c1,.agg #[.int .i64 fc,.int .i64 fk]],.agg c1,.agg #[.int .i64 fc,.int .i64 fk],.tuple #[.agg c2,.agg #[.int .i64 fc,.int .i64 fk]],.string ⟨T.toArray⟩,.tuple #[.agg c2,.agg #[.int .i64 fc,.int .i64 fk]],.agg c2,.agg #[.int .i64 fc,.int .i64 fk],u23,u24,u25,u26,u27,u28,u29,u30,u31,u32,u33,u34,u35,u36,u37,u38,u39,u40,u41,u42,u43,u44,u45,u46,.bool false,.tuple #[.agg #[.int .i64 r1,.slice r2 r3 r4,.int .i64 r5,.slice r6 r7 r8],.bool B],.agg c1,.tuple #[.agg #[.int .i64 r1,.slice r2 r3 r4,.int .i64 r5,.slice r6 r7 r8],.bool B],.agg #[.int .i64 r1,.slice r2 r3 r4,.int .i64 r5,.slice r6 r7 r8],.bool B,.tuple #[.agg #[.bool q1,.slice q2 q3 q4,.bool q5,.slice q6 q7 q8],.bool B],.agg c2,.tuple #[.agg #[.bool q1,.slice q2 q3 q4,.bool q5,.slice q6 q7 q8],.bool B],.agg #[.bool q1,.slice q2 q3 q4,.bool q5,.slice q6 q7 q8],.bool B,u58,u59,u60,u61,u62,u63,u64,u65,u66,u67,u68,u69,u70,u71,u72,u73,u74,u75,u76,u77,u78,u79,u80,u81,u82,u83,u84,u85,u86,u87,.bool false,.agg c1,.int .i64 k,.agg c91,.string ⟨T92.toArray⟩,.agg c2,.int .i64 k,.agg c95,.string ⟨T92.toArray⟩,undef,undef,undef,undef,undef,undef,undef,undef,undef,undef,undef,undef,undef,undef,undef,undef,undef,undef,undef],[]⟩) (l':=#[true,true,true,true,true,true,true,true,false,false,false,false,false,false,false,false,false,false,false,false,false,false,false,false,false,false,false,false]) (by kernel_rfl) (by kernel_rfl) ?_
 have hHeld:w4.heap[D1]?=some (.cells c1 28 (0,0))∧w4.heap[D2]?=some (.cells c2 38 (0,0)):=⟨((HEY9.out.trans he4).block _ L1.out).trans R1.out,((HEY9.out.trans he4).block _ L3.out).trans R3.out⟩
 refine wpAnyH_take (i:=8) (v:=.bool true) rfl (by kernel_rfl) (by kernel_rfl) (by kernel_rfl) (fun _ _ _ h=>h) (Or.inl ⟨by kernel_rfl,?_⟩) hHeld ?_
 ·intro w hSw
  go_simp
  try with_reducible rfl
 refine wpAnyH_take (i:=9) (v:=.bool true) rfl (by kernel_rfl) (by kernel_rfl) (by kernel_rfl) (fun _ _ _ h=>h) (Or.inl ⟨by kernel_rfl,?_⟩) hHeld ?_
 ·intro w hSw
  kernel_rfl
 refine wpAnyH_take (i:=10) (v:=.agg c1) rfl (by kernel_rfl) (by kernel_rfl) (by kernel_rfl) (fun _ _ _ h=>h) (Or.inl ⟨by kernel_rfl,?_⟩) hHeld ?_
 ·intro w hSw
  exact exec_load_row 28 _ rfl (D1) (by kernel_rfl) 28 _ (0,0) _ hSw.1 Tryz.underlying28 rfl I1.out
 refine wpAnyH_take (i:=13) (v:=.agg c2) rfl (by kernel_rfl) (by kernel_rfl) (by kernel_rfl) (fun _ _ _ h=>h) (Or.inl ⟨by kernel_rfl,?_⟩) hHeld ?_
 ·intro w hSw
  exact exec_load_row 38 _ rfl (D2) (by kernel_rfl) 38 _ (0,0) _ hSw.2 Tryz.underlying38 rfl I2.out
 clear hHeld
 refine anyH_call (i:=11) (by kernel_rfl) rfl (by kernel_rfl) 23 #[.agg c1] (by kernel_rfl) (R:=fun v w'=>∃ c z,v=.agg c∧NmA w' c z (P+4) (E+1)∧EqN z (nHf x)∧Ext w4 w') ((Half_nm c1 x P E w4 (N1.out.ext (HEY9.out.trans he4)) K (by have:=HB.out;omega) (by have:=HB.out;omega) (by have:=HB.out;omega) (bru_ext Hbr.out (HEY90.out.trans he4))).mono (by rintro e w' ⟨c,z,rfl,n,q,hx⟩;exact ⟨_,rfl,c,z,rfl,n,q,hx⟩)) ?_
 rintro v w5 ⟨c100,z100,rfl,n100,q100,hx5⟩
 have he5:=he4.trans hx5
 have NN100:=Lib.hid n100;have Q100:=Lib.hid q100
 clear n100 q100
 refine ⟨⟨((HEY9.out.trans he5).block _ L1.out).trans R1.out,((HEY9.out.trans he5).block _ L3.out).trans R3.out⟩,?_⟩
 refine anyH_cast (a':=⟨#[.string ⟨T.toArray⟩,.int .i64 k,undef,undef,.bool false,.pointer (some ⟨D1,0,none⟩),.pointer (some ⟨D1+1,0,none⟩),.pointer (some ⟨D2,0,none⟩),.pointer (some ⟨D2+1,0,none⟩),.pointer (some ⟨D3,0,none⟩),.bool B,.pointer (some ⟨D4,0,none⟩),.bool B,.tuple #[.agg c1,.agg #[.int .i64 fc,.int .i64 fk]],.string ⟨T.toArray⟩,.tuple #[.agg c1,.agg #[.int .i64 fc,.int .i64 fk]],.agg c1,.agg #[.int .i64 fc,.int .i64 fk],.tuple #[.agg c2,.agg #[.int .i64 fc,.int .i64 fk]],.string ⟨T.toArray⟩,.tuple #[.agg c2,.agg #[.int .i64 fc,.int .i64 fk]],.agg c2,.agg #[.int .i64 fc,.int .i64 fk],u23,u24,u25,u26,u27,u28,u29,u30,u31,u32,u33,u34,u35,u36,u37,u38,u39,u40,u41,u42,u43,u44,u45,u46,.bool false,.tuple #[.agg #[.int .i64 r1,.slice r2 r3 r4,.int .i64 r5,.slice r6 r7 r8],.bool B],.agg c1,.tuple #[.agg #[.int .i64 r1,.slice r2 r3 r4,.int .i64 r5,.slice r6 r7 r8],.bool B],.agg #[.int .i64 r1,.slice r2 r3 r4,.int .i64 r5,.slice r6 r7 r8],.bool B,.tuple #[.agg #[.bool q1,.slice q2 q3 q4,.bool q5,.slice q6 q7 q8],.bool B],.agg c2,.tuple #[.agg #[.bool q1,.slice q2 q3 q4,.bool q5,.slice q6 q7 q8],.bool B],.agg #[.bool q1,.slice q2 q3 q4,.bool q5,.slice q6 q7 q8],.bool B,u58,u59,u60,u61,u62,u63,u64,u65,u66,u67,u68,u69,u70,u71,u72,u73,u74,u75,u76,u77,u78,u79,u80,u81,u82,u83,u84,u85,u86,u87,.bool false,.agg c1,.int .i64 k,.agg c91,.string ⟨T92.toArray⟩,.agg c2,.int .i64 k,.agg c95,.string ⟨T92.toArray⟩,.bool true,.bool true,.agg c1,.agg c100,undef,.agg c2,undef,undef,undef,undef,undef,undef,undef,undef,undef,undef,undef,undef,undef],[]⟩) (l':=#[true,true,true,true,true,true,true,true,true,true,true,true,false,true,false,false,false,false,false,false,false,false,false,false,false,false,false,false]) (by kernel_rfl) (by kernel_rfl) ?_
 obtain ⟨T101,HT101⟩:∃ T,rtx (nmF z100)=T:=⟨_,rfl⟩
 have HH101:=Lib.hid HT101
 clear HT101
 refine anyH_call (i:=12) (by kernel_rfl) rfl (by kernel_rfl) 9 #[.agg c100] (by kernel_rfl) (R:=fun v w'=>v=.string ⟨T101.toArray⟩∧Ext w5 w') (((HH101.out ▸ (RText_nm c100 z100 (P+4) (E+1) w5 NN100.out K (by have:=HB.out;omega) (by have:=HB.out;omega) (by have:=HB.out;omega) (by have:=HB.out;omega) (tab_ext HT.out (HEY90.out.trans he5))):Calls Tryz.prog 9 #[.agg c100] w5 fun e w'=>e=.returned (.string ⟨T101.toArray⟩)∧Ext w5 w')).mono (by rintro e w' ⟨rfl,hx⟩;exact ⟨_,rfl,rfl,hx⟩)) ?_
 rintro v w6 ⟨rfl,hx6⟩
 have he6:=he5.trans hx6
 refine ⟨⟨((HEY9.out.trans he6).block _ L1.out).trans R1.out,((HEY9.out.trans he6).block _ L3.out).trans R3.out⟩,?_⟩
 refine anyH_cast (a':=⟨#[.string ⟨T.toArray⟩,.int .i64 k,undef,undef,.bool false,.pointer (some ⟨D1,0,none⟩),.pointer (some ⟨D1+1,0,none⟩),.pointer (some ⟨D2,0,none⟩),.pointer (some ⟨D2+1,0,none⟩),.pointer (some ⟨D3,0,none⟩),.bool B,.pointer (some ⟨D4,0,none⟩),.bool B,.tuple #[.agg c1,.agg #[.int .i64 fc,.int .i64 fk]],.string ⟨T.toArray⟩,.tuple #[.agg c1,.agg #[.int .i64 fc,.int .i64 fk]],.agg c1,.agg #[.int .i64 fc,.int .i64 fk],.tuple #[.agg c2,.agg #[.int .i64 fc,.int .i64 fk]],.string ⟨T.toArray⟩,.tuple #[.agg c2,.agg #[.int .i64 fc,.int .i64 fk]],.agg c2,.agg #[.int .i64 fc,.int .i64 fk],u23,u24,u25,u26,u27,u28,u29,u30,u31,u32,u33,u34,u35,u36,u37,u38,u39,u40,u41,u42,u43,u44,u45,u46,.bool false,.tuple #[.agg #[.int .i64 r1,.slice r2 r3 r4,.int .i64 r5,.slice r6 r7 r8],.bool B],.agg c1,.tuple #[.agg #[.int .i64 r1,.slice r2 r3 r4,.int .i64 r5,.slice r6 r7 r8],.bool B],.agg #[.int .i64 r1,.slice r2 r3 r4,.int .i64 r5,.slice r6 r7 r8],.bool B,.tuple #[.agg #[.bool q1,.slice q2 q3 q4,.bool q5,.slice q6 q7 q8],.bool B],.agg c2,.tuple #[.agg #[.bool q1,.slice q2 q3 q4,.bool q5,.slice q6 q7 q8],.bool B],.agg #[.bool q1,.slice q2 q3 q4,.bool q5,.slice q6 q7 q8],.bool B,u58,u59,u60,u61,u62,u63,u64,u65,u66,u67,u68,u69,u70,u71,u72,u73,u74,u75,u76,u77,u78,u79,u80,u81,u82,u83,u84,u85,u86,u87,.bool false,.agg c1,.int .i64 k,.agg c91,.string ⟨T92.toArray⟩,.agg c2,.int .i64 k,.agg c95,.string ⟨T92.toArray⟩,.bool true,.bool true,.agg c1,.agg c100,.string ⟨T101.toArray⟩,.agg c2,undef,undef,undef,undef,undef,undef,undef,undef,undef,undef,undef,undef,undef],[]⟩) (l':=#[true,true,true,true,true,true,true,true,true,true,true,true,true,true,false,false,false,false,false,false,false,false,false,false,false,false,false,false]) (by kernel_rfl) (by kernel_rfl) ?_
 refine anyH_call (i:=14) (by kernel_rfl) rfl (by kernel_rfl) 24 #[.agg c2] (by kernel_rfl) (R:=fun v w'=>∃ c z,v=.agg c∧RmA w' c z (P2+E+1) (E+1)∧EqN z (nHf x)∧Ext w6 w') ((QHalf_nm c2 x P2 E w6 (N2.out.ext (HEY9.out.trans he6)) (by have:=HB.out;omega) (by have:=HB.out;omega)).mono (by rintro e w' ⟨c,z,rfl,n,q,hx⟩;exact ⟨_,rfl,c,z,rfl,n,q,hx⟩)) ?_
 rintro v w7 ⟨c103,z103,rfl,n103,q103,hx7⟩
 have he7:=he6.trans hx7
 have ee103:z100=z103:=same_kept NN100.out n103 (Q100.out) q103
 subst ee103
 have NN103:=Lib.hid n103
 clear n103 q103
 refine ⟨⟨((HEY9.out.trans he7).block _ L1.out).trans R1.out,((HEY9.out.trans he7).block _ L3.out).trans R3.out⟩,?_⟩
 refine anyH_cast (a':=⟨#[.string ⟨T.toArray⟩,.int .i64 k,undef,undef,.bool false,.pointer (some ⟨D1,0,none⟩),.pointer (some ⟨D1+1,0,none⟩),.pointer (some ⟨D2,0,none⟩),.pointer (some ⟨D2+1,0,none⟩),.pointer (some ⟨D3,0,none⟩),.bool B,.pointer (some ⟨D4,0,none⟩),.bool B,.tuple #[.agg c1,.agg #[.int .i64 fc,.int .i64 fk]],.string ⟨T.toArray⟩,.tuple #[.agg c1,.agg #[.int .i64 fc,.int .i64 fk]],.agg c1,.agg #[.int .i64 fc,.int .i64 fk],.tuple #[.agg c2,.agg #[.int .i64 fc,.int .i64 fk]],.string ⟨T.toArray⟩,.tuple #[.agg c2,.agg #[.int .i64 fc,.int .i64 fk]],.agg c2,.agg #[.int .i64 fc,.int .i64 fk],u23,u24,u25,u26,u27,u28,u29,u30,u31,u32,u33,u34,u35,u36,u37,u38,u39,u40,u41,u42,u43,u44,u45,u46,.bool false,.tuple #[.agg #[.int .i64 r1,.slice r2 r3 r4,.int .i64 r5,.slice r6 r7 r8],.bool B],.agg c1,.tuple #[.agg #[.int .i64 r1,.slice r2 r3 r4,.int .i64 r5,.slice r6 r7 r8],.bool B],.agg #[.int .i64 r1,.slice r2 r3 r4,.int .i64 r5,.slice r6 r7 r8],.bool B,.tuple #[.agg #[.bool q1,.slice q2 q3 q4,.bool q5,.slice q6 q7 q8],.bool B],.agg c2,.tuple #[.agg #[.bool q1,.slice q2 q3 q4,.bool q5,.slice q6 q7 q8],.bool B],.agg #[.bool q1,.slice q2 q3 q4,.bool q5,.slice q6 q7 q8],.bool B,u58,u59,u60,u61,u62,u63,u64,u65,u66,u67,u68,u69,u70,u71,u72,u73,u74,u75,u76,u77,u78,u79,u80,u81,u82,u83,u84,u85,u86,u87,.bool false,.agg c1,.int .i64 k,.agg c91,.string ⟨T92.toArray⟩,.agg c2,.int .i64 k,.agg c95,.string ⟨T92.toArray⟩,.bool true,.bool true,.agg c1,.agg c100,.string ⟨T101.toArray⟩,.agg c2,.agg c103,undef,undef,undef,undef,undef,undef,undef,undef,undef,undef,undef,undef],[]⟩) (l':=#[true,true,true,true,true,true,true,true,true,true,true,true,true,true,true,false,false,false,false,false,false,false,false,false,false,false,false,false]) (by kernel_rfl) (by kernel_rfl) ?_
 refine anyH_call (i:=15) (by kernel_rfl) rfl (by kernel_rfl) 10 #[.agg c103] (by kernel_rfl) (R:=fun v w'=>v=.string ⟨T101.toArray⟩∧Ext w7 w') (((HH101.out ▸ (QText_nm c103 z100 (P2+E+1) (E+1) w7 NN103.out (by have:=HB.out;omega) (by have:=HB.out;omega)):Calls Tryz.prog 10 #[.agg c103] w7 fun e w'=>e=.returned (.string ⟨T101.toArray⟩)∧Ext w7 w')).mono (by rintro e w' ⟨rfl,hx⟩;exact ⟨_,rfl,rfl,hx⟩)) ?_
 rintro v w8 ⟨rfl,hx8⟩
 have he8:=he7.trans hx8
 refine ⟨⟨((HEY9.out.trans he8).block _ L1.out).trans R1.out,((HEY9.out.trans he8).block _ L3.out).trans R3.out⟩,?_⟩
 refine anyH_cast (a':=⟨#[.string ⟨T.toArray⟩,.int .i64 k,undef,undef,.bool false,.pointer (some ⟨D1,0,none⟩),.pointer (some ⟨D1+1,0,none⟩),.pointer (some ⟨D2,0,none⟩),.pointer (some ⟨D2+1,0,none⟩),.pointer (some ⟨D3,0,none⟩),.bool B,.pointer (some ⟨D4,0,none⟩),.bool B,.tuple #[.agg c1,.agg #[.int .i64 fc,.int .i64 fk]],.string ⟨T.toArray⟩,.tuple #[.agg c1,.agg #[.int .i64 fc,.int .i64 fk]],.agg c1,.agg #[.int .i64 fc,.int .i64 fk],.tuple #[.agg c2,.agg #[.int .i64 fc,.int .i64 fk]],.string ⟨T.toArray⟩,.tuple #[.agg c2,.agg #[.int .i64 fc,.int .i64 fk]],.agg c2,.agg #[.int .i64 fc,.int .i64 fk],u23,u24,u25,u26,u27,u28,u29,u30,u31,u32,u33,u34,u35,u36,u37,u38,u39,u40,u41,u42,u43,u44,u45,u46,.bool false,.tuple #[.agg #[.int .i64 r1,.slice r2 r3 r4,.int .i64 r5,.slice r6 r7 r8],.bool B],.agg c1,.tuple #[.agg #[.int .i64 r1,.slice r2 r3 r4,.int .i64 r5,.slice r6 r7 r8],.bool B],.agg #[.int .i64 r1,.slice r2 r3 r4,.int .i64 r5,.slice r6 r7 r8],.bool B,.tuple #[.agg #[.bool q1,.slice q2 q3 q4,.bool q5,.slice q6 q7 q8],.bool B],.agg c2,.tuple #[.agg #[.bool q1,.slice q2 q3 q4,.bool q5,.slice q6 q7 q8],.bool B],.agg #[.bool q1,.slice q2 q3 q4,.bool q5,.slice q6 q7 q8],.bool B,u58,u59,u60,u61,u62,u63,u64,u65,u66,u67,u68,u69,u70,u71,u72,u73,u74,u75,u76,u77,u78,u79,u80,u81,u82,u83,u84,u85,u86,u87,.bool false,.agg c1,.int .i64 k,.agg c91,.string ⟨T92.toArray⟩,.agg c2,.int .i64 k,.agg c95,.string ⟨T92.toArray⟩,.bool true,.bool true,.agg c1,.agg c100,.string ⟨T101.toArray⟩,.agg c2,.agg c103,.string ⟨T101.toArray⟩,undef,undef,undef,undef,undef,undef,undef,undef,undef,undef,undef],[]⟩) (l':=#[true,true,true,true,true,true,true,true,true,true,true,true,true,true,true,true,false,false,false,false,false,false,false,false,false,false,false,false]) (by kernel_rfl) (by kernel_rfl) ?_
 have hHeld:w8.heap[D1]?=some (.cells c1 28 (0,0))∧w8.heap[D2]?=some (.cells c2 38 (0,0)):=⟨((HEY9.out.trans he8).block _ L1.out).trans R1.out,((HEY9.out.trans he8).block _ L3.out).trans R3.out⟩
 refine wpAnyH_take (i:=16) (v:=.bool true) rfl (by kernel_rfl) (by kernel_rfl) (by kernel_rfl) (fun _ _ _ h=>h) (Or.inl ⟨by kernel_rfl,?_⟩) hHeld ?_
 ·intro w hSw
  go_simp
  try with_reducible rfl
 refine wpAnyH_take (i:=17) (v:=.bool true) rfl (by kernel_rfl) (by kernel_rfl) (by kernel_rfl) (fun _ _ _ h=>h) (Or.inl ⟨by kernel_rfl,?_⟩) hHeld ?_
 ·intro w hSw
  kernel_rfl
 refine wpAnyH_take (i:=18) (v:=.bool true) rfl (by kernel_rfl) (by kernel_rfl) (by kernel_rfl) (fun _ _ _ h=>h) (Or.inl ⟨by kernel_rfl,?_⟩) hHeld ?_
 ·intro w hSw
  kernel_rfl
 refine wpAnyH_take (i:=19) (v:=.int .i64 k) rfl (by kernel_rfl) (by kernel_rfl) (by kernel_rfl) (fun _ _ _ h=>h) (Or.inl ⟨by kernel_rfl,?_⟩) hHeld ?_
 ·intro w hSw
  kernel_rfl
 refine wpAnyH_take (i:=22) (v:=.int .i64 k) rfl (by kernel_rfl) (by kernel_rfl) (by kernel_rfl) (fun _ _ _ h=>h) (Or.inl ⟨by kernel_rfl,?_⟩) hHeld ?_
 ·intro w hSw
  kernel_rfl
 clear hHeld
 refine anyH_call (i:=20) (by kernel_rfl) rfl (by kernel_rfl) 25 #[.int .i64 k] (by kernel_rfl) (R:=fun v w'=>∃ c,v=.agg c∧NmA w' c (nTr k nOne) 1 0∧Ext w8 w') ((RRoot_nm k w8).mono (by rintro e w' ⟨c,rfl,n,hx⟩;exact ⟨_,rfl,c,rfl,n,hx⟩)) ?_
 rintro v w9 ⟨c109,rfl,n109,hx9⟩
 have he9:=he8.trans hx9
 have NN109:=Lib.hid n109
 clear n109
 refine ⟨⟨((HEY9.out.trans he9).block _ L1.out).trans R1.out,((HEY9.out.trans he9).block _ L3.out).trans R3.out⟩,?_⟩
 refine anyH_cast (a':=⟨#[.string ⟨T.toArray⟩,.int .i64 k,undef,undef,.bool false,.pointer (some ⟨D1,0,none⟩),.pointer (some ⟨D1+1,0,none⟩),.pointer (some ⟨D2,0,none⟩),.pointer (some ⟨D2+1,0,none⟩),.pointer (some ⟨D3,0,none⟩),.bool B,.pointer (some ⟨D4,0,none⟩),.bool B,.tuple #[.agg c1,.agg #[.int .i64 fc,.int .i64 fk]],.string ⟨T.toArray⟩,.tuple #[.agg c1,.agg #[.int .i64 fc,.int .i64 fk]],.agg c1,.agg #[.int .i64 fc,.int .i64 fk],.tuple #[.agg c2,.agg #[.int .i64 fc,.int .i64 fk]],.string ⟨T.toArray⟩,.tuple #[.agg c2,.agg #[.int .i64 fc,.int .i64 fk]],.agg c2,.agg #[.int .i64 fc,.int .i64 fk],u23,u24,u25,u26,u27,u28,u29,u30,u31,u32,u33,u34,u35,u36,u37,u38,u39,u40,u41,u42,u43,u44,u45,u46,.bool false,.tuple #[.agg #[.int .i64 r1,.slice r2 r3 r4,.int .i64 r5,.slice r6 r7 r8],.bool B],.agg c1,.tuple #[.agg #[.int .i64 r1,.slice r2 r3 r4,.int .i64 r5,.slice r6 r7 r8],.bool B],.agg #[.int .i64 r1,.slice r2 r3 r4,.int .i64 r5,.slice r6 r7 r8],.bool B,.tuple #[.agg #[.bool q1,.slice q2 q3 q4,.bool q5,.slice q6 q7 q8],.bool B],.agg c2,.tuple #[.agg #[.bool q1,.slice q2 q3 q4,.bool q5,.slice q6 q7 q8],.bool B],.agg #[.bool q1,.slice q2 q3 q4,.bool q5,.slice q6 q7 q8],.bool B,u58,u59,u60,u61,u62,u63,u64,u65,u66,u67,u68,u69,u70,u71,u72,u73,u74,u75,u76,u77,u78,u79,u80,u81,u82,u83,u84,u85,u86,u87,.bool false,.agg c1,.int .i64 k,.agg c91,.string ⟨T92.toArray⟩,.agg c2,.int .i64 k,.agg c95,.string ⟨T92.toArray⟩,.bool true,.bool true,.agg c1,.agg c100,.string ⟨T101.toArray⟩,.agg c2,.agg c103,.string ⟨T101.toArray⟩,.bool true,.bool true,.bool true,.int .i64 k,.agg c109,undef,.int .i64 k,undef,undef,undef,undef],[]⟩) (l':=#[true,true,true,true,true,true,true,true,true,true,true,true,true,true,true,true,true,true,true,true,true,false,true,false,false,false,false,false]) (by kernel_rfl) (by kernel_rfl) ?_
 obtain ⟨T110,HT110⟩:∃ T,rtx (nmF (nTr k nOne))=T:=⟨_,rfl⟩
 have HH110:=Lib.hid HT110
 clear HT110
 refine anyH_call (i:=21) (by kernel_rfl) rfl (by kernel_rfl) 9 #[.agg c109] (by kernel_rfl) (R:=fun v w'=>v=.string ⟨T110.toArray⟩∧Ext w9 w') (((HH110.out ▸ (RText_nm c109 (nTr k nOne) 1 0 w9 NN109.out K (by have:=HB.out;omega) (by have:=HB.out;omega) (by have:=HB.out;omega) (by have:=HB.out;omega) (tab_ext HT.out (HEY90.out.trans he9))):Calls Tryz.prog 9 #[.agg c109] w9 fun e w'=>e=.returned (.string ⟨T110.toArray⟩)∧Ext w9 w')).mono (by rintro e w' ⟨rfl,hx⟩;exact ⟨_,rfl,rfl,hx⟩)) ?_
 rintro v w10 ⟨rfl,hx10⟩
 have he10:=he9.trans hx10
 refine ⟨⟨((HEY9.out.trans he10).block _ L1.out).trans R1.out,((HEY9.out.trans he10).block _ L3.out).trans R3.out⟩,?_⟩
 refine anyH_cast (a':=⟨#[.string ⟨T.toArray⟩,.int .i64 k,undef,undef,.bool false,.pointer (some ⟨D1,0,none⟩),.pointer (some ⟨D1+1,0,none⟩),.pointer (some ⟨D2,0,none⟩),.pointer (some ⟨D2+1,0,none⟩),.pointer (some ⟨D3,0,none⟩),.bool B,.pointer (some ⟨D4,0,none⟩),.bool B,.tuple #[.agg c1,.agg #[.int .i64 fc,.int .i64 fk]],.string ⟨T.toArray⟩,.tuple #[.agg c1,.agg #[.int .i64 fc,.int .i64 fk]],.agg c1,.agg #[.int .i64 fc,.int .i64 fk],.tuple #[.agg c2,.agg #[.int .i64 fc,.int .i64 fk]],.string ⟨T.toArray⟩,.tuple #[.agg c2,.agg #[.int .i64 fc,.int .i64 fk]],.agg c2,.agg #[.int .i64 fc,.int .i64 fk],u23,u24,u25,u26,u27,u28,u29,u30,u31,u32,u33,u34,u35,u36,u37,u38,u39,u40,u41,u42,u43,u44,u45,u46,.bool false,.tuple #[.agg #[.int .i64 r1,.slice r2 r3 r4,.int .i64 r5,.slice r6 r7 r8],.bool B],.agg c1,.tuple #[.agg #[.int .i64 r1,.slice r2 r3 r4,.int .i64 r5,.slice r6 r7 r8],.bool B],.agg #[.int .i64 r1,.slice r2 r3 r4,.int .i64 r5,.slice r6 r7 r8],.bool B,.tuple #[.agg #[.bool q1,.slice q2 q3 q4,.bool q5,.slice q6 q7 q8],.bool B],.agg c2,.tuple #[.agg #[.bool q1,.slice q2 q3 q4,.bool q5,.slice q6 q7 q8],.bool B],.agg #[.bool q1,.slice q2 q3 q4,.bool q5,.slice q6 q7 q8],.bool B,u58,u59,u60,u61,u62,u63,u64,u65,u66,u67,u68,u69,u70,u71,u72,u73,u74,u75,u76,u77,u78,u79,u80,u81,u82,u83,u84,u85,u86,u87,.bool false,.agg c1,.int .i64 k,.agg c91,.string ⟨T92.toArray⟩,.agg c2,.int .i64 k,.agg c95,.string ⟨T92.toArray⟩,.bool true,.bool true,.agg c1,.agg c100,.string ⟨T101.toArray⟩,.agg c2,.agg c103,.string ⟨T101.toArray⟩,.bool true,.bool true,.bool true,.int .i64 k,.agg c109,.string ⟨T110.toArray⟩,.int .i64 k,undef,undef,undef,undef],[]⟩) (l':=#[true,true,true,true,true,true,true,true,true,true,true,true,true,true,true,true,true,true,true,true,true,true,true,false,false,false,false,false]) (by kernel_rfl) (by kernel_rfl) ?_
 refine anyH_call (i:=23) (by kernel_rfl) rfl (by kernel_rfl) 26 #[.int .i64 k] (by kernel_rfl) (R:=fun v w'=>∃ c,v=.agg c∧RmA w' c (nTr k nOne) 1 0∧Ext w10 w') ((QRoot_nm k w10).mono (by rintro e w' ⟨c,rfl,n,hx⟩;exact ⟨_,rfl,c,rfl,n,hx⟩)) ?_
 rintro v w11 ⟨c112,rfl,n112,hx11⟩
 have he11:=he10.trans hx11
 have NN112:=Lib.hid n112
 clear n112
 refine ⟨⟨((HEY9.out.trans he11).block _ L1.out).trans R1.out,((HEY9.out.trans he11).block _ L3.out).trans R3.out⟩,?_⟩
 refine anyH_cast (a':=⟨#[.string ⟨T.toArray⟩,.int .i64 k,undef,undef,.bool false,.pointer (some ⟨D1,0,none⟩),.pointer (some ⟨D1+1,0,none⟩),.pointer (some ⟨D2,0,none⟩),.pointer (some ⟨D2+1,0,none⟩),.pointer (some ⟨D3,0,none⟩),.bool B,.pointer (some ⟨D4,0,none⟩),.bool B,.tuple #[.agg c1,.agg #[.int .i64 fc,.int .i64 fk]],.string ⟨T.toArray⟩,.tuple #[.agg c1,.agg #[.int .i64 fc,.int .i64 fk]],.agg c1,.agg #[.int .i64 fc,.int .i64 fk],.tuple #[.agg c2,.agg #[.int .i64 fc,.int .i64 fk]],.string ⟨T.toArray⟩,.tuple #[.agg c2,.agg #[.int .i64 fc,.int .i64 fk]],.agg c2,.agg #[.int .i64 fc,.int .i64 fk],u23,u24,u25,u26,u27,u28,u29,u30,u31,u32,u33,u34,u35,u36,u37,u38,u39,u40,u41,u42,u43,u44,u45,u46,.bool false,.tuple #[.agg #[.int .i64 r1,.slice r2 r3 r4,.int .i64 r5,.slice r6 r7 r8],.bool B],.agg c1,.tuple #[.agg #[.int .i64 r1,.slice r2 r3 r4,.int .i64 r5,.slice r6 r7 r8],.bool B],.agg #[.int .i64 r1,.slice r2 r3 r4,.int .i64 r5,.slice r6 r7 r8],.bool B,.tuple #[.agg #[.bool q1,.slice q2 q3 q4,.bool q5,.slice q6 q7 q8],.bool B],.agg c2,.tuple #[.agg #[.bool q1,.slice q2 q3 q4,.bool q5,.slice q6 q7 q8],.bool B],.agg #[.bool q1,.slice q2 q3 q4,.bool q5,.slice q6 q7 q8],.bool B,u58,u59,u60,u61,u62,u63,u64,u65,u66,u67,u68,u69,u70,u71,u72,u73,u74,u75,u76,u77,u78,u79,u80,u81,u82,u83,u84,u85,u86,u87,.bool false,.agg c1,.int .i64 k,.agg c91,.string ⟨T92.toArray⟩,.agg c2,.int .i64 k,.agg c95,.string ⟨T92.toArray⟩,.bool true,.bool true,.agg c1,.agg c100,.string ⟨T101.toArray⟩,.agg c2,.agg c103,.string ⟨T101.toArray⟩,.bool true,.bool true,.bool true,.int .i64 k,.agg c109,.string ⟨T110.toArray⟩,.int .i64 k,.agg c112,undef,undef,undef],[]⟩) (l':=#[true,true,true,true,true,true,true,true,true,true,true,true,true,true,true,true,true,true,true,true,true,true,true,true,false,false,false,false]) (by kernel_rfl) (by kernel_rfl) ?_
 refine anyH_call (i:=24) (by kernel_rfl) rfl (by kernel_rfl) 10 #[.agg c112] (by kernel_rfl) (R:=fun v w'=>v=.string ⟨T110.toArray⟩∧Ext w11 w') (((HH110.out ▸ (QText_nm c112 (nTr k nOne) 1 0 w11 NN112.out (by have:=HB.out;omega) (by have:=HB.out;omega)):Calls Tryz.prog 10 #[.agg c112] w11 fun e w'=>e=.returned (.string ⟨T110.toArray⟩)∧Ext w11 w')).mono (by rintro e w' ⟨rfl,hx⟩;exact ⟨_,rfl,rfl,hx⟩)) ?_
 rintro v w12 ⟨rfl,hx12⟩
 have he12:=he11.trans hx12
 refine ⟨⟨((HEY9.out.trans he12).block _ L1.out).trans R1.out,((HEY9.out.trans he12).block _ L3.out).trans R3.out⟩,?_⟩
 refine anyH_cast (a':=⟨#[.string ⟨T.toArray⟩,.int .i64 k,undef,undef,.bool false,.pointer (some ⟨D1,0,none⟩),.pointer (some ⟨D1+1,0,none⟩),.pointer (some ⟨D2,0,none⟩),.pointer (some ⟨D2+1,0,none⟩),.pointer (some ⟨D3,0,none⟩),.bool B,.pointer (some ⟨D4,0,none⟩),.bool B,.tuple #[.agg c1,.agg #[.int .i64 fc,.int .i64 fk]],.string ⟨T.toArray⟩,.tuple #[.agg c1,.agg #[.int .i64 fc,.int .i64 fk]],.agg c1,.agg #[.int .i64 fc,.int .i64 fk],.tuple #[.agg c2,.agg #[.int .i64 fc,.int .i64 fk]],.string ⟨T.toArray⟩,.tuple #[.agg c2,.agg #[.int .i64 fc,.int .i64 fk]],.agg c2,.agg #[.int .i64 fc,.int .i64 fk],u23,u24,u25,u26,u27,u28,u29,u30,u31,u32,u33,u34,u35,u36,u37,u38,u39,u40,u41,u42,u43,u44,u45,u46,.bool false,.tuple #[.agg #[.int .i64 r1,.slice r2 r3 r4,.int .i64 r5,.slice r6 r7 r8],.bool B],.agg c1,.tuple #[.agg #[.int .i64 r1,.slice r2 r3 r4,.int .i64 r5,.slice r6 r7 r8],.bool B],.agg #[.int .i64 r1,.slice r2 r3 r4,.int .i64 r5,.slice r6 r7 r8],.bool B,.tuple #[.agg #[.bool q1,.slice q2 q3 q4,.bool q5,.slice q6 q7 q8],.bool B],.agg c2,.tuple #[.agg #[.bool q1,.slice q2 q3 q4,.bool q5,.slice q6 q7 q8],.bool B],.agg #[.bool q1,.slice q2 q3 q4,.bool q5,.slice q6 q7 q8],.bool B,u58,u59,u60,u61,u62,u63,u64,u65,u66,u67,u68,u69,u70,u71,u72,u73,u74,u75,u76,u77,u78,u79,u80,u81,u82,u83,u84,u85,u86,u87,.bool false,.agg c1,.int .i64 k,.agg c91,.string ⟨T92.toArray⟩,.agg c2,.int .i64 k,.agg c95,.string ⟨T92.toArray⟩,.bool true,.bool true,.agg c1,.agg c100,.string ⟨T101.toArray⟩,.agg c2,.agg c103,.string ⟨T101.toArray⟩,.bool true,.bool true,.bool true,.int .i64 k,.agg c109,.string ⟨T110.toArray⟩,.int .i64 k,.agg c112,.string ⟨T110.toArray⟩,undef,undef],[]⟩) (l':=#[true,true,true,true,true,true,true,true,true,true,true,true,true,true,true,true,true,true,true,true,true,true,true,true,true,false,false,false]) (by kernel_rfl) (by kernel_rfl) ?_
 have hHeld:w12.heap[D1]?=some (.cells c1 28 (0,0))∧w12.heap[D2]?=some (.cells c2 38 (0,0)):=⟨((HEY9.out.trans he12).block _ L1.out).trans R1.out,((HEY9.out.trans he12).block _ L3.out).trans R3.out⟩
 refine wpAnyH_take (i:=25) (v:=.bool true) rfl (by kernel_rfl) (by kernel_rfl) (by kernel_rfl) (fun _ _ _ h=>h) (Or.inl ⟨by kernel_rfl,?_⟩) hHeld ?_
 ·intro w hSw
  go_simp
  try with_reducible rfl
 refine wpAnyH_take (i:=26) (v:=.bool true) rfl (by kernel_rfl) (by kernel_rfl) (by kernel_rfl) (fun _ _ _ h=>h) (Or.inl ⟨by kernel_rfl,?_⟩) hHeld ?_
 ·intro w hSw
  kernel_rfl
 refine wpAnyH_take (i:=27) (v:=.bool true) rfl (by kernel_rfl) (by kernel_rfl) (by kernel_rfl) (fun _ _ _ h=>h) (Or.inl ⟨by kernel_rfl,?_⟩) hHeld ?_
 ·intro w hSw
  kernel_rfl
 clear hHeld
 refine anyH_done (by kernel_rfl) ?_ _
 refine act_cast (a':=⟨#[.string ⟨T.toArray⟩,.int .i64 k,undef,undef,.bool true,.pointer (some ⟨D1,0,none⟩),.pointer (some ⟨D1+1,0,none⟩),.pointer (some ⟨D2,0,none⟩),.pointer (some ⟨D2+1,0,none⟩),.pointer (some ⟨D3,0,none⟩),.bool B,.pointer (some ⟨D4,0,none⟩),.bool B,.tuple #[.agg c1,.agg #[.int .i64 fc,.int .i64 fk]],.string ⟨T.toArray⟩,.tuple #[.agg c1,.agg #[.int .i64 fc,.int .i64 fk]],.agg c1,.agg #[.int .i64 fc,.int .i64 fk],.tuple #[.agg c2,.agg #[.int .i64 fc,.int .i64 fk]],.string ⟨T.toArray⟩,.tuple #[.agg c2,.agg #[.int .i64 fc,.int .i64 fk]],.agg c2,.agg #[.int .i64 fc,.int .i64 fk],u23,u24,u25,u26,u27,u28,u29,u30,u31,u32,u33,u34,u35,u36,u37,u38,u39,u40,u41,u42,u43,u44,u45,u46,.bool false,.tuple #[.agg #[.int .i64 r1,.slice r2 r3 r4,.int .i64 r5,.slice r6 r7 r8],.bool B],.agg c1,.tuple #[.agg #[.int .i64 r1,.slice r2 r3 r4,.int .i64 r5,.slice r6 r7 r8],.bool B],.agg #[.int .i64 r1,.slice r2 r3 r4,.int .i64 r5,.slice r6 r7 r8],.bool B,.tuple #[.agg #[.bool q1,.slice q2 q3 q4,.bool q5,.slice q6 q7 q8],.bool B],.agg c2,.tuple #[.agg #[.bool q1,.slice q2 q3 q4,.bool q5,.slice q6 q7 q8],.bool B],.agg #[.bool q1,.slice q2 q3 q4,.bool q5,.slice q6 q7 q8],.bool B,u58,u59,u60,u61,u62,u63,u64,u65,u66,u67,u68,u69,u70,u71,u72,u73,u74,u75,u76,u77,u78,u79,u80,u81,u82,u83,u84,u85,u86,u87,.bool false,.agg c1,.int .i64 k,.agg c91,.string ⟨T92.toArray⟩,.agg c2,.int .i64 k,.agg c95,.string ⟨T92.toArray⟩,.bool true,.bool true,.agg c1,.agg c100,.string ⟨T101.toArray⟩,.agg c2,.agg c103,.string ⟨T101.toArray⟩,.bool true,.bool true,.bool true,.int .i64 k,.agg c109,.string ⟨T110.toArray⟩,.int .i64 k,.agg c112,.string ⟨T110.toArray⟩,.bool true,.bool true],[]⟩) (by kernel_rfl) ?_
 go_wp2_with fail
 go_ret
 exact ⟨rfl,HEY90.out.trans he12⟩
end Go.Proofs.YtiicfpdiehgikaaGreatDoor
