/-
  What CodeMeasures' walk keeps in memory: a circuit whose operations grow, from older lists; a fault stored as it is. CodeMeasures' walk where the code has no fault, and its measurer room. CodeMeasures' walk. A circuit that was handed in, opened: its operations and their lists as they lie in memory. The table of kinds, as it is laid; what is asked behind a call that leaves all that lay there as it was.
-/
import Derived.Carry
import Derived.ChangeSame
import Derived.Deep.Slices
import Derived.FnData
import Derived.Laws.OwnMore
import Derived.OpenShut
import Derived.SizedLaws
import Derived.Stop.LaidErr
import Derived.Test.YtlechhmhmakgpaaGreatDoorS23Sz
namespace Go.Proofs.YtlechhmhmakgpaaGreatDoor
set_option maxRecDepth 100000
set_option maxHeartbeats 16000000
open Go.RowKit
theorem ft_same {w:World} {g:Nat} {x y:Int} (h:FtB w g x y):Ext w ((w.setCell ⟨g,0,none⟩ (.int .i64 x)).setCell ⟨g,1,none⟩ (.int .i64 y)):=by
 have hO:=only2 w g (.int .i64 x) (.int .i64 y);have hp:=h.put x y;refine ⟨rfl,rfl,rfl,by rw [hO.size];exact Nat.le_refl _,fun k _=>?_⟩
 by_cases e:k=g
 ·subst e;exact hp.row.trans h.row.symm
 ·exact hO.block k e
theorem OpsY.far {w w':World} {base k:Nat} {v:Value} {ops:List Gop} {cs:Array Value} {T:TypeId} {fr:Nat × Nat} (h:OpsY w base v ops) (hk:w.heap[k]?=some (.cells cs T fr)) (hT:T≠3) (hT2:T≠52) (hb:base<=k) (hO:Only k w w'):OpsY w' base v ops:=by
 obtain ⟨xs,h1,h2⟩:=h;refine ⟨xs,own_keep h1 (fun g cur _ e=>hO.block g (fun e2=>by subst e2;rw [hk] at e;cases e;exact hT2 rfl)),h2.on ⟨by rw [hO.size];exact Nat.le_refl _,fun b _ hb2=>hO.block b (by omega),fun b cur fr' e=>hO.block b (fun e2=>by subst e2;rw [hk] at e;cases e;exact hT rfl)⟩⟩
structure MsY (w0 w:World) (O:Nat) (q b:Int) (a:Option Addr) (n c:Nat) (ops:List Gop):Prop where
 ext:Ext w0 w
 hO:w0.heap.size<=O
 row:CiB w O q b a n c
 ops:OpsY w w0.heap.size (.slice a n c) ops
section
variable {w0 w w':World} {O:Nat} {q b:Int} {a:Option Addr} {n c:Nat} {ops:List Gop}
theorem MsY.on (h:MsY w0 w O q b a n c ops) (k:Ext w w'):MsY w0 w' O q b a n c ops:=⟨h.ext.trans k,h.hO,h.row.ext k,h.ops.ext k⟩
theorem MsY.at (h:MsY w0 w O q b a n c ops):ops.length=n/\n<=c/\c<=maxLen/\OpsAt w a n ops:=by
 obtain ⟨a',c',e,h1,h2,h3⟩:=h.ops.at;injection e with e1 e2 e3;subst e1;subst e2;subst e3;exact ⟨rfl,h1,h2,h3⟩
theorem MsY.own (h:MsY w0 w O q b a n c ops):∃ xs,w.ownsRow w0.heap.size 52 6 (.slice a n c) ops.length xs/\RowY w0.heap.size w xs ops:=h.ops
theorem MsY.grown {w7:World} (h:MsY w0 w O q b a n c ops) {xs:List Value} (ho:w.ownsRow w0.heap.size 52 6 (.slice a n c) ops.length xs) (hg:w.grownBy w7 (Value.slice a n c).ownBlock):CiB w7 O q b a n c/\Ext w0 w7 :=
 ⟨CiB_grownK hg (PtKind ho) h.row,grown_ext h.ext hg (fun k hk=>(own_lt ho k hk).1)⟩
theorem MsY.more {w7:World} (h:MsY w0 w O q b a n c ops) {xs:List Value} (ho:w.ownsRow w0.heap.size 52 6 (.slice a n c) ops.length xs) (hg:w.grownBy w7 (Value.slice a n c).ownBlock) {a7:Option Addr} {n7 c7:Nat} {B:List Gop} (h7:OpsY w7 w0.heap.size (.slice a7 n7 c7) (ops++B)) :
  MsY w0 (w7.setCell ⟨O,2,none⟩ (.slice a7 n7 c7)) O q b a7 n7 c7 (ops++B):=by
 obtain ⟨k1,k2⟩:=h.grown ho hg;have hO:=only1 w7 O 2 (.slice a7 n7 c7);exact ⟨ext_onlyC k2 hO h.hO,h.hO,k1.set2 a7 n7 c7,h7.far k1.row (by decide) (by decide) h.hO hO⟩
theorem strs_young {u w w7:World} {O:Nat} {v x:Value} {a:Option Addr} {m:Nat} {T:List (List UInt8)} (h:StrsAt w a m T) (hf:∀ ad,a=some ad->u.heap.size<=ad.block) (hv:∀ k,v.ownBlock=some k->k<u.heap.size) (hg:w.grownBy w7 v.ownBlock) (hO:O<u.heap.size):StrsAt (w7.setCell ⟨O,2,none⟩ x) a m T:=by
 refine ⟨h.1,?_⟩
 rcases h.2 with h0 | ⟨b,o,e,hb,hcs⟩
 ·exact Or.inl h0
 ·have hub:=hf _ e
  have hk:(w7.setCell ⟨O,2,none⟩ x).heap[b]?=w.heap[b]?:=((only1 w7 O 2 x).block b (by have:u.heap.size<=b:=hub;omega)).trans (hg.block b hb (fun e2=>by have:=hv b e2.symm;have:u.heap.size<=b:=hub;omega));refine Or.inr ⟨b,o,e,?_,fun t ht=>?_⟩
  ·have h1:=(only1 w7 O 2 x).size
   rw [h1];exact Nat.lt_of_lt_of_le hb hg.size
  ·rw [World.cell?_of_block (a:=⟨b,o+t,none⟩) hk]
   exact hcs t ht
end
theorem stepK_buildI2 {ops:Array Oper} {o:Oper} {a:Act} {K:Act->World->Prop} {Q:Exit->Act->World->Prop} {E:Prop} {w:World} (hgd:o.guard=none) (x y:Operand) (ho:o.op=.buildSlice 25 2 #[(0,x),(1,y)]) (z t:Int)
  (hx:a.eval x=.int .i64 z) (hy:a.eval y=.int .i64 t) (h:K (a.put o.dst (.slice (some ⟨w.heap.size,0,none⟩) 2 2)) (w.alloc (.cells #[.int .i64 z,.int .i64 t] 3))) :
  if Region.wanted o (yielded ops a.tmps)=true then Oper.wp Tryz.prog o a w K Q else E:=by
 have hw:Region.wanted o (yielded ops a.tmps)=true:=by simp [Region.wanted,hgd]
 rw [if_pos hw];obtain ⟨od,oo,ot,opp,oa,og⟩:=o;simp only at ho;subst ho;have HH:=Lh h;clear h;unfold Oper.wp execOp;simp only [hx,hy,List.map_toArray,List.map_cons,List.map_nil]
 go_simp
 exact HH.out
theorem ispL {n:Nat} {T:List UInt8} (h:isP n T=true):Let n (T.drop 1):=(isP_let h).2
theorem isp_isM {n:Nat} (hn:1<=n) (T:List UInt8):ispB (n:Int) T=isP n T:=by
 unfold ispB;rw [decide_eq_true (by omega),Int.toNat_natCast,Bool.true_and]
theorem pow_cast (m:Nat):(2:Int) ^ m=((2 ^ m:Nat):Int):=by rw [Int.natCast_pow];rfl
theorem low_bits (x:Int) {N:Nat} (hN:N<=16):bits BinOp.and IntKind.i64 x (wrap64 (wrap64 (2 ^ N)-1))=(lowN x N:Int):=by
 have hp:2 ^ N<=65536:=Nat.le_trans (Nat.pow_le_pow_right (by decide) hN) (by decide);have hp0:=Nat.pow_pos (n:=N) (show 0<2 by decide)
 have h1:wrap64 (2 ^ N)=((2 ^ N:Nat):Int):=by
  rw [pow_cast];unfold wrap64;omega
 have h2:wrap64 (((2 ^ N:Nat):Int)-1)=((2 ^ N-1:Nat):Int):=by
  unfold wrap64;omega
 rw [h1,h2,and_low x hN]
theorem low_free {v k n:Nat} (hk:k<=16) (hv:v<2 ^ n) (hn:n<=16):wrap64 ((v:Int) / 2 ^ min k 64*2 ^ min k 64)=((v / 2 ^ k*2 ^ k:Nat):Int):=by
 have hp:2 ^ n<=65536:=Nat.le_trans (Nat.pow_le_pow_right (by decide) hn) (by decide);rw [Nat.min_eq_left (by omega),pow_cast,<-Int.natCast_ediv,<-Int.natCast_mul];have h1:=Nat.div_mul_le_self v (2 ^ k);unfold wrap64;omega
theorem q_of_m {n nb:Nat} {ops:List Gop} (h:∀ o ∈ ops,MOk n o/\o.cnd=[]):∀ o ∈ ops,QOk (n+1) nb o:=fun o ho=>.g ((h o ho).1.mono (Nat.le_succ n)) (h o ho).2
theorem own_drew {w:World} {base n size:Nat} {e:TypeId} {v:Value} {xs:List Value} (h:w.ownsRow base e size v n xs):w.drew.ownsRow base e size v n xs:=h
theorem app_two {w:World} {base n:Nat} {a:Option Addr} {c:Nat} {l:List Int} {x y:Int} (h:w.ownsRow base 3 1 (.slice a n c) n (iC l)) (hn:n<=1000) (hb:base<=w.heap.size) :
  ∃ v7 w7,(Builtin.append_ #[25,25] 25 #[.slice a n c,.slice (some ⟨w.drew.heap.size,0,none⟩) 2 2]).run Tryz.prog (w.drew.alloc (.cells #[.int .i64 x,.int .i64 y] 3))=.ok v7 w7/\w7.ownsRow base 3 1 v7 (n+2) (iC (l++[x,y]))/\(w.drew.alloc (.cells #[.int .i64 x,.int .i64 y] 3)).grownBy w7 (Value.slice a n c).ownBlock:=by
 obtain ⟨j0,hj,hy0,hy1,hy2⟩:=info_parts i_info;have ea:=ext_al w.drew (.cells #[.int .i64 x,.int .i64 y] 3);have hd:Ext w w.drew:=Below.drew (Ext.refl _)
 obtain ⟨v7,w7,hrun,hown7,hg7,_⟩:=run_append_own (P:=Tryz.prog) (w.drew.alloc (.cells #[.int .i64 x,.int .i64 y] 3)) base 25 25 3 j0 (.int .i64 0) 1 8 Tryz.underlying25 hj hy0 hy1 hy2 rfl (by decide) (.slice a n c) n (iC l) ((own_drew h).alloc _) ⟨w.drew.heap.size,0,none⟩ 2 2 [.int .i64 x,.int .i64 y] rfl (new_cells w.drew #[.int .i64 x,.int .i64 y] 3) (by intro u hu;simp only [List.mem_cons,List.not_mem_nil,or_false] at hu;rcases hu with rfl | rfl<;>rfl) (by unfold maxLen;omega) (by omega) (Nat.le_trans hb (Nat.le_trans hd.size ea.size))
 refine ⟨v7,w7,hrun,?_,hg7⟩
 have e:iC (l++[x,y])=iC l++[.int .i64 x,.int .i64 y]:=by unfold iC;rw [List.map_append];rfl
 rw [e];exact hown7
theorem ints_of_row {w:World} {B:Nat} {l:List Int} (h:w.heap[B]?=some (.cells (l.map (fun y=>Value.int .i64 y)).toArray 3 (0,0))):IntsAt w (some ⟨B,0,none⟩) l.length l:=by
 refine ⟨rfl,Or.inr ⟨B,0,rfl,(gS.1 h).1,fun t ht=>?_⟩⟩;rw [cell_of_row w B (0+t) _ _ (0,0) h,Nat.zero_add,List.getElem?_toArray,List.getElem?_map,List.getElem?_eq_getElem ht,List.getD_eq_getElem?_getD,List.getElem?_eq_getElem ht]
 rfl
theorem own_first {w:World} {base g n cap:Nat} {l:List Int} {z:Int} (h:w.ownsRow base 3 1 (.slice (some ⟨g,0,none⟩) n cap) n (iC l)) (hz:l[0]?=some z) (hn:0<n) (y:Int) :
  base<=g/\w.cell? ⟨g,0,none⟩=some (.int .i64 z)/\w.frozen? ⟨g,0,none⟩=false/\(w.setCell ⟨g,0,none⟩ (.int .i64 y)).ownsRow base 3 1 (.slice (some ⟨g,0,none⟩) n cap) n (iC (l.set 0 y)):=by
 refine ⟨(own_lt h g rfl).1,?_,h.frozenAt 0,?_⟩
 ·rw [h.cellAt 0 (by omega)]
  unfold iC;rw [List.getElem?_map,hz];rfl
 ·have h2:=(h.stored 0 (.int .i64 y)).1
  have e:iC (l.set 0 y)=(iC l).set 0 (.int .i64 y):=by unfold iC;rw [List.map_set]
  rw [e];exact h2
theorem tw_first {ss:List Bool} {s:Bool} (h:ss[0]?=some s):(twT ss)[0]?=some (oV s)/\((twT ss).set 0 (oV (!s)))[0]?=some (oV (!s)):=by
 have h1:=(twT_at ss 0 s h).1;have h1:(twT ss)[0]?=some (oV s):=h1;refine ⟨h1,?_⟩;rw [List.getElem?_set_self (List.getElem?_eq_some_iff.1 h1).1]
theorem oV_not (s:Bool):IntKind.i64.wrap (1-oV s)=oV (!s):=by cases s<;>rfl
theorem measures_good (nn:Nat) (gens:List (List UInt8)) (ao:Option Addr) (k cp:Nat) (T:List UInt8) (x:Int) (w:World) (hG:StrsAt w ao k gens) (hT:∀ T ∈ gens,T.length<=9223372036854775807) (hT2:T.length<=9223372036854775807) (hk9:k*16<=140737488355328) (hnil:ao=none->cp=0) (hL:LtL w) (hS:Shp w) (hz:(ccF (nn:Int) gens).1=0) (hN:nn+1<=12) :
  Calls Tryz.prog 6 #[.agg #[.int .i64 (nn:Int),.slice ao k cp],.string ⟨T.toArray⟩,.int .i64 x] w fun e w'=>e=.returned (.bool true)/\Ext w w':=by
 have hk6:k<=9223372036854775806:=by omega
 obtain ⟨hn1,hn12,hkn,hall⟩:=cc_zero hz;rw [Int.toNat_natCast] at hall;have hlk:gens.length=k:=hG.1;obtain ⟨MO,hMO⟩:∃ ops,mgO nn (gsQ nn gens) 0=ops:=⟨_,rfl⟩
 have hmq:∀ o ∈ MO,QOk (nn+1) k o:=by rw [<-hMO];exact mg_q _ 0 (by rw [gsQ_len];omega)
 have hml:MO.length<=400:=by
  rw [<-hMO];have h1:=mgO_len nn (gsQ nn gens) 0;rw [gsQ_len] at h1;have h2:=Nat.mul_le_mul (show gens.length<=11 by omega) (show 2*nn+5<=27 by omega);omega
 have hmt:MtL nn MO 0/\cM MO=2*k:=by
  rw [<-hMO];have h1:=mt_mg (N:=nn) (gsQ nn gens) 0;rw [gsQ_len,hlk] at h1;exact h1
 have hck:=q_chk (n:=nn+1) (nb:=k) (by omega) (by omega) (by omega) hmq (by omega)
 have wn1:IntKind.i64.wrap ((nn:Int)+1)=((nn+1:Nat):Int):=by rw [IntKind.wrap_i64];omega
 have wk2:IntKind.i64.wrap (2*(k:Int))=((2*k:Nat):Int):=by rw [IntKind.wrap_i64];omega
 have q11:¬ (11:Int)<(nn:Int):=by omega
 have HNk:=Lh (show 1<=nn/\nn<=11/\k<=nn by omega);obtain ⟨H,hH⟩:∃ H,w.heap.size=H:=⟨_,rfl⟩;obtain ⟨W0,hW0⟩:∃ W0,w.alloc (.cells #[.int .i64 (nn:Int),.slice ao k cp] 59)=W0:=⟨_,rfl⟩
 have E0:Ext w W0:=by rw [<-hW0];exact ext_al w _
 have C0:CoB W0 H (nn:Int) ao k cp:=by rw [<-hW0,<-hH];exact CoB.new w _ _ _ _
 have HCp:=Lh (fun wx (hx:Ext W0 wx)=>copyCode_any (nn:Int) gens ao k cp wx ((hG.ext E0).ext hx) hk9 hnil);have HE0:=Lh E0;have HD:=Lh C0;have HW0:=Lh hW0;have HH:=Lh hH;have Hh:=Lh (hG.ext E0);have HL:=Lh (hL.ext E0);have HT:=Lh hT;have HT2:=Lh hT2;have Hk6:=Lh hk6;have Hz:=Lh hz;have HS:=Lh (hS.ext E0);have Hlk:=Lh hlk;have Hall:=Lh hall;have HMO:=Lh hMO;have Hmq:=Lh hmq;have Hml:=Lh hml;have Hmt:=Lh hmt;have HN:=Lh hN;have v0:=C0.x0;have v1:=C0.x1;obtain ⟨n1,hn1⟩:∃ n1,nn+1=n1:=⟨_,rfl⟩;obtain ⟨k2,hk2⟩:∃ k2,2*k=k2:=⟨_,rfl⟩;rw [hn1] at wn1 hck;rw [hk2] at wk2;have Hn1:=Lh hn1;have Hk2:=Lh hk2;have Hck:=Lh hck;clear hG hT hT2 hk9 hnil hL hS E0 C0 hW0 hH hk6 hz hn1 hn12 hkn hall hlk hMO hmq hml hmt hck hN hk2
 go_enter Tryz.func6,Tryz.ntmps6
 go_upto_region 1 with fail
 rw [HW0.out,HH.out]
 go_wp2_with fail
 refine (HCp.out _ (Ext.refl _)).mono ?_;rintro e w1 ⟨a1,c1,rfl,⟨hL1,hc1,hm1⟩,hx1⟩;have HMg:=Measurer_good (nn:Int) gens a1 k c1 w1 hL1 HT.out Hk6.out Hz.out (by have:=HN.out;omega);unfold MeR at HMg;rw [Int.toNat_natCast,Hlk.out,Hn1.out,HMO.out] at HMg;have HMg:=Lh HMg;have HCk:=Lh (fun wx (hx:Ext W0 wx)=>CheckCode_any (nn:Int) gens ao k cp wx (Hh.out.ext hx) HT.out Hk6.out);rw [cc_fst Hz.out] at HCk;have Hx1:=Lh hx1;clear hL1 hc1 hm1 hx1
 go_wp2_with fail
 refine HMg.out.mono ?_;rintro e w2 ⟨a2,m2,c2,rfl,hmc,hcm,hoa,x2⟩;have Hmc:=Lh (And.intro hmc hcm);have Hx2:=Lh (Hx1.out.trans x2);have Hoa:=Lh hoa;have Hm2:=Lh (show MO.length=m2 from hoa.1);clear x2 HMg hmc hcm hoa
 go_upto_region 2 with fail
 obtain ⟨K,hK⟩:∃ K,w2.heap.size=K:=⟨_,rfl⟩;obtain ⟨W1,hW1⟩:∃ V,(w2.alloc (.cells #[.int .i64 (n1:Int),.int .i64 (k:Int),.slice a2 m2 c2] 24)).alloc (.cells #[.int .i64 0,.int .i64 0] 29)=V:=⟨_,rfl⟩
 have E21:Ext w2 W1:=by rw [<-hW1];exact (ext_al _ _).trans (ext_al _ _)
 have E1:Ext W0 W1:=Hx2.out.trans E21
 have bC:CiB W1 K (n1:Int) (k:Int) a2 m2 c2:=by rw [<-hW1,<-hK];exact CiB.ext ⟨heap_alloc_new _ _⟩ (ext_al _ _)
 have bF:FtB W1 (K+1) 0 0:=⟨by
  have:=heap_alloc_new (w2.alloc (.cells #[.int .i64 (n1:Int),.int .i64 (k:Int),.slice a2 m2 c2] 24)) (.cells #[.int .i64 0,.int .i64 0] 29);rw [<-hW1,<-hK]
  simpa using this⟩
 rw [hK,hW1];have HE1:=Lh E1;have HC:=Lh bC;have HF:=Lh bF;have Hoa:=Lh (Hoa.out.ext E21);have HKw:=Lh (show w.heap.size<=K by rw [<-hK];exact Nat.le_trans HE0.out.size Hx2.out.size);have HCc:=Lh (HCk.out W1 E1);have v0:=(HD.out.ext E1).x0;have v1:=(HD.out.ext E1).x1;clear E1 E21 bC bF hK hW1 HCk Hx2 Hx1
 go_wp2_with fail
 refine HCc.out.mono ?_;rintro e w3 ⟨rfl,x3⟩;have Hx3:=Lh x3;clear x3 HCc
 go_upto_region 3 with fail
 obtain ⟨K3,hK3⟩:∃ K,w3.heap.size=K:=⟨_,rfl⟩;obtain ⟨W3,hW3⟩:∃ V,w3.alloc (.cells #[.int .i64 0,.int .i64 0] 29)=V:=⟨_,rfl⟩
 have E3:Ext W1 W3:=by rw [<-hW3];exact Hx3.out.trans (ext_al _ _)
 have bG:FtB W3 K3 0 0:=by rw [<-hW3,<-hK3];exact ⟨heap_alloc_new _ _⟩
 rw [hK3,hW3];have HB:=Lh (codeBegun_any W3 (HL.out.ext (HE1.out.trans E3)));have HE3:=Lh E3;have HG:=Lh bG;have v0:=(HD.out.ext (HE1.out.trans E3)).x0;have z0:=bG.x0;clear E3 bG hK3 hW3 v1
 go_wp2_with fail
 refine HB.out.mono ?_;rintro e w4 ⟨rfl,x4⟩;have E4:=HE3.out.trans x4;have y0:=(HF.out.ext E4).x0;have y1:=(HF.out.ext E4).x1;have z0:=(HG.out.ext x4).x0;have z1:=(HG.out.ext x4).x1;have t0:=(HC.out.ext E4).x0;have t1:=(HC.out.ext E4).x1;have t2:=(HC.out.ext E4).x2;have HE4:=Lh E4;have HRC:=RCheck_any ⟨(n1:Int),(k:Int),MO⟩ a2 m2 c2 w4 (Hoa.out.ext E4) Hmc.out.1 Hmc.out.2;rw [Hck.out] at HRC;have HRC:=Lh HRC;clear E4 x4 HB v0
 go_wp2_with fail
 refine HRC.out.mono ?_;rintro e w5 ⟨rfl,x5⟩;have Hx5:=Lh x5;clear x5 y0 y1 z0 z1 t0 t1 t2 HRC
 go_upto_region 10 with fail
 obtain ⟨K5,hK5⟩:∃ K,w5.heap.size=K:=⟨_,rfl⟩;obtain ⟨W5,hW5⟩:∃ V,w5.alloc (.cells #[.int .i64 0,.int .i64 0] 29)=V:=⟨_,rfl⟩
 have E5:Ext W1 W5:=by rw [<-hW5];exact HE4.out.trans (Hx5.out.trans (ext_al _ _))
 have b5:FtB W5 K5 0 0:=by rw [<-hW5,<-hK5];exact ⟨heap_alloc_new _ _⟩
 rw [hK5,hW5];have HE5:=Lh E5;have HF5:=Lh b5;have t0:=(HC.out.ext E5).x0;have t1:=(HC.out.ext E5).x1;have t2:=(HC.out.ext E5).x2;have HNf:=Lh (NormalFaultB_any (n1:Int) (k:Int) MO Hmq.out a2 m2 c2 W5 (Hoa.out.ext E5) (by have:=Hml.out;have:=Hm2.out;omega));clear E5 b5 hK5 hW5
 go_wp2_with fail
 refine HNf.out.mono ?_;rintro e w6 ⟨rfl,x6⟩;have Hx6:=Lh x6;clear x6 t0 t1 t2 HNf
 go_upto_region 11 with fail
 obtain ⟨K6,hK6⟩:∃ K,w6.heap.size=K:=⟨_,rfl⟩;obtain ⟨W6,hW6⟩:∃ V,w6.alloc (.cells #[.int .i64 0,.int .i64 0] 29)=V:=⟨_,rfl⟩
 have E56:Ext W5 W6:=by rw [<-hW6];exact Hx6.out.trans (ext_al _ _)
 have E6:Ext W1 W6:=HE5.out.trans E56
 have b6:FtB W6 K6 0 0:=by rw [<-hW6,<-hK6];exact ⟨heap_alloc_new _ _⟩
 have b5:=HF5.out.ext E56;rw [hK6,hW6];have y0:=b5.x0;have z0:=b6.x0;have t0:=(HC.out.ext E6).x0;have t1:=(HC.out.ext E6).x1;have t2:=(HC.out.ext E6).x2;have v0:=(HD.out.ext (HE1.out.trans E6)).x0;have v1:=(HD.out.ext (HE1.out.trans E6)).x1;have HE6:=Lh E6;clear E56 E6 b6 b5 hK6 hW6 HE5 HF5 Hx6 HE3 HG HE4 Hx5
 go_upto_region 13 with fail
 clear y0 z0 t0 t1 v0 v1
 go_upto_region 15 with fail
 clear t2
 go_loopg [12,13,14] m2 (fun kk s12 s13 s14 wr=>∃ i mt:Nat,s13=.int .i64 (i:Int)/\i<=m2/\m2-i=kk/\s12=.int .i64 (mt:Int)/\MtL nn (MO.drop i) mt/\mt+cM (MO.drop i)=2*k/\Ext W6 wr)
 case atStart=>exact ⟨0,0,rfl,Nat.zero_le _,rfl,rfl,Hmt.out.1,by rw [List.drop_zero,Hmt.out.2,Nat.zero_add],Ext.refl _⟩
 case round =>
  obtain ⟨i,mt,rfl,hi,hkk,rfl,hM,hC,hE⟩:=hrel;have Hkk:=Lh hkk;have HE:=Lh hE;have HM:=Lh hM;have HCm:=Lh hC;have E1r:=HE6.out.trans hE;have t2:=(HC.out.ext E1r).x2
  by_cases him:i=m2
  ·have p1:¬ (i:Int)<(m2:Int):=by omega
   have hdr:MO.drop i=[]:=List.drop_eq_nil_of_le (by have:=Hm2.out;omega);rw [hdr] at hC
   have hmk:mt=k2:=by have:=Hk2.out;simpa [cM] using hC.trans this
   subst hmk;have HE1r:=Lh E1r;clear hkk hM hC hE him hi hdr E1r HE HM HCm;have v0:=(HD.out.ext (HE1.out.trans HE1r.out)).x0;have HIP:=Lh (IsPauli_any T (nn:Int) wr (by have:=HNk.out;omega) HT2.out);obtain ⟨B,hB⟩:∃ B,ispB (nn:Int) T=B:=⟨_,rfl⟩;obtain ⟨Ms,hMs⟩:∃ M,ispM (nn:Int) T=M:=⟨_,rfl⟩;obtain ⟨Sx,hSx⟩:∃ M,ispS (nn:Int) T=M:=⟨_,rfl⟩;rw [hB,hMs,hSx] at HIP;have HBe:=Lh hB;clear hB hMs hSx
   go_wp2_with fail
   refine HIP.out.mono ?_;rintro e w8 ⟨rfl,x8⟩;obtain ⟨W8,hW8⟩:∃ V,w8.alloc (.cells #[.bool Ms,.string ⟨Sx.toArray⟩] 40)=V:=⟨_,rfl⟩
   have E8:Ext W1 W8:=by rw [<-hW8];exact HE1r.out.trans (x8.trans (ext_al _ _))
   have HW8:=Lh hW8;have HE8:=Lh E8;have v1:=(HD.out.ext (HE1.out.trans E8)).x1;clear x8 hW8 HIP E8 t2 p1 v0
   go_upto_region 25 with fail
   rw [HW8.out]
   cases B
   ·go_wp2_with fail
    go_ret
    exact ⟨rfl,HE0.out.trans (HE1.out.trans HE8.out)⟩
   have hip:isP nn T=true:=by rw [<-isp_isM HNk.out.1 T];exact HBe.out
   have Hip:=Lh hip;clear hip;have v0:=(HD.out.ext (HE1.out.trans HE8.out)).x0;have HCp8:=Lh (HCp.out W8 (HE1.out.trans HE8.out))
   go_upto_region 27 with fail
   go_wp2_with fail
   refine HCp8.out.mono ?_;rintro e w9 ⟨a5,c5,rfl,⟨hL5,hc5,hm5⟩,x9⟩;have HEn:=Encoder_good (nn:Int) gens a5 k c5 w9 hL5 HT.out Hk6.out Hz.out (HS.out.ext (HE1.out.trans (HE8.out.trans x9)));unfold EnR at HEn;rw [Int.toNat_natCast] at HEn;have HEn:=Lh HEn;have Hx9:=Lh (HE8.out.trans x9);clear hL5 hc5 hm5 x9 HCp8 v0 v1
   go_wp2_with fail
   refine HEn.out.mono ?_;rintro e w10 ⟨a6,m6,c6,rfl,hmc6,hcm6,hoa6,x10⟩;have E10:=Hx9.out.trans x10;have Hmc6:=Lh (And.intro hmc6 hcm6);have Hoa6:=Lh hoa6;obtain ⟨KE,hKE⟩:∃ K,w10.heap.size=K:=⟨_,rfl⟩;obtain ⟨L,hL⟩:∃ L,invO (wayC nn gens)=L:=⟨_,rfl⟩;rw [hL] at Hoa6;have HLe:=Lh hL;have ft10:FtB w10 (K+1) 0 0:=HF.out.ext E10;have hs10:=ft_same ft10;have sz10:=(only2 w10 (K+1) (.int .i64 0) (.int .i64 0)).size;obtain ⟨Wx,hWx⟩:∃ V,((w10.setCell ⟨K+1,0,none⟩ (.int .i64 0)).setCell ⟨K+1,1,none⟩ (.int .i64 0))=V:=⟨_,rfl⟩;rw [hWx] at hs10 sz10;obtain ⟨W10,hW10⟩:∃ V,Wx.alloc (.cells #[.int .i64 (nn:Int),.int .i64 0,.slice a6 m6 c6] 24)=V:=⟨_,rfl⟩
   have bE:CiB W10 KE (nn:Int) 0 a6 m6 c6:=by rw [<-hW10,<-hKE,<-sz10];exact CiB.ext ⟨heap_alloc_new _ _⟩ (Ext.refl _)
   have E1b:Ext w10 W10:=by rw [<-hW10];exact hs10.trans (ext_al _ _)
   have HWx:=Lh hWx;have y0:=(HF.out.ext E10).x0;have y1:=(HF.out.ext E10).x1;have h0:=(HF.out.ext E10).f 0;have h1:=(HF.out.ext E10).f 1;have klt:K+1<w10.heap.size:=(HF.out.ext E10).lt;have HW10:=Lh hW10;have HbE:=Lh bE;have HE10b:=Lh E1b;have HE10:=Lh (E10.trans E1b);have HKE:=Lh hKE;clear hmc6 hcm6 hoa6 x10 E10 hL ft10 hs10 sz10 bE E1b hW10 hKE hWx HEn
   go_upto_region 28 with fail
   rw [HKE.out,HWx.out,HW10.out];clear y0 y1 h0 h1 klt;have y0:=(HF.out.ext HE10.out).x0;have v0:=(HD.out.ext (HE1.out.trans HE10.out)).x0;have v1:=(HD.out.ext (HE1.out.trans HE10.out)).x1;have t2:=HbE.out.x2
   go_upto_region 31 with fail
   obtain ⟨KA,hKA⟩:∃ K,W10.heap.size=K:=⟨_,rfl⟩;obtain ⟨W11,hW11⟩:∃ V,W10.alloc (.cells #[.int .i64 (n1:Int),.int .i64 (k:Int),.slice a6 m6 c6] 24)=V:=⟨_,rfl⟩
   have E11:Ext W10 W11:=by rw [<-hW11];exact ext_al _ _
   have bA:CiB W11 KA (n1:Int) (k:Int) a6 m6 c6:=by rw [<-hW11,<-hKA];exact CiB.ext ⟨heap_alloc_new _ _⟩ (Ext.refl _)
   rw [hKA,hW11];have HE11:=Lh E11;have HbA:=Lh bA;have HKA:=Lh hKA;clear E11 bA hKA hW11 y0 v0 v1 t2;have hTn:T.length=nn+1:=(isP_let Hip.out).1;have hDl:=ispL Hip.out
   have hsT:(⟨T.toArray⟩:ByteArray).size=T.length:=by simp [ByteArray.size]
   have hpc:=drop_one_piece T
   have h1T:(1:Int)<=(T.length:Int):=by omega
   obtain ⟨D,hD⟩:∃ D,T.drop 1=D:=⟨_,rfl⟩;rw [hD] at hpc hDl;have HDl:=Lh hDl;have Hplen:=Lh (show (poL D nn).length<=24 by have:=poL_len D nn;have:=HNk.out;omega)
   have HLlen:=Lh (show L.length<=418 by
    rw [<-HLe.out];have h1:=(wayC_ok Hz.out).2
    have h2:(invO (wayC nn gens)).length=(wayC nn gens).length:=by unfold invO;rw [List.length_map,List.length_reverse]
    have h3:=Nat.mul_le_mul (show gens.length<=11 by have:=Hlk.out;have:=HNk.out;omega) (show 3*nn+2<=38 by have:=HNk.out;omega)
    omega)
   have HPo:=Lh (fun wx=>PauliOps_any D (by rw [hDl.1];have:=HNk.out;omega) hDl.2 wx);rw [hDl.1] at HPo;have Hsrc:=Lh (fun wx (hx:Ext W11 wx)=>ops_src (base:=W10.heap.size) Hoa6.out (HE10b.out.trans (HE11.out.trans hx)) HE10b.out.size);have Hm6:=Lh (show L.length=m6 from Hoa6.out.1)
   have Hn6:=Lh (show a6=none->m6=0 from fun e=>by
    rcases Hoa6.out.2 with h | ⟨b,o,e2,_⟩
    ·exact h
    ·rw [e] at e2;cases e2)
   clear hTn hDl hD
   go_cut [] from 180 to 187 (fun wx=>∃ (a:Option Addr) (n c:Nat),MsY W10 wx KA (n1:Int) (k:Int) a n c (L++poL D nn))
   case first =>
    have HSj:=Lh (fun (w':World) (hx:Ext W11 w')=>(show w'.cell? ⟨KE,2,none⟩=some (.slice a6 m6 c6) from (HbE.out.ext (HE11.out.trans hx)).x2));have G_:Ext W11 W11.drew:=Below.drew (Ext.refl _);refine wp_region_K 8 (fun w'=>w'.cell? ⟨KE,2,none⟩=some (.slice a6 m6 c6)) (by kernel_rfl) ?_
    show anyK _ _ _ _ _ _ 9 #[false,false,false,false,false,false,false,false,false] _ _
    refine kT 0 9 (v:=?_) rfl (Or.inl ⟨by rfl,?_⟩) (HSj.out _ G_) ?_;rotate_left 1
    ·intro w hSw
     go_simp
     try with_reducible rfl
    show anyK _ _ _ _ _ _ _ _ (Act.put _ (some 180) _) _
    simp only [Act.put,sx0,sx1,sx2];refine kT 1 9 (v:=?_) rfl (Or.inl ⟨by rfl,?_⟩) (HSj.out _ G_) ?_;rotate_left 1
    ·intro w hSw
     go_simp
     try with_reducible rfl
    show anyK _ _ _ _ _ _ _ _ (Act.put _ (some 181) _) _
    simp only [Act.put,sx0,sx1,sx2];refine kT 3 9 (v:=?_) rfl (Or.inl ⟨by rfl,?_⟩) (HSj.out _ G_) ?_;rotate_left 1
    ·intro w hSw
     go_simp
     try with_reducible rfl
    show anyK _ _ _ _ _ _ _ _ (Act.put _ (some 183) _) _
    simp only [Act.put,sx0,sx1,sx2];refine kT 4 9 (v:=?_) rfl (Or.inl ⟨by rfl,?_⟩) (HSj.out _ G_) ?_;rotate_left 1
    ·intro w hSw
     go_simp
     try with_reducible rfl
    show anyK _ _ _ _ _ _ _ _ (Act.put _ (some 184) _) _
    simp only [Act.put,sx0,sx1,sx2]
    have hap:∀ wx,Ext W11 wx->∃ a7 c7 wA,(Builtin.append_ #[22,22] 22 #[.slice none 0 0,.slice a6 m6 c6]).run Tryz.prog wx=.ok (.slice a7 m6 c7) wA/\OpsY wA W10.heap.size (.slice a7 m6 c7) L/\Ext wx wA:=fun wx hx=>by
     obtain ⟨ys,hl,hc,h1,hr⟩:=Hsrc.out wx hx;have hb:=(HE11.out.trans hx).size;obtain ⟨v7,wA,hrun,h7,hg7⟩:=app_src (World.ownsRow_nil wx W10.heap.size 52 6) hl hc h1 Hn6.out (by have:=HLlen.out;have:=Hm6.out;omega) hb;have hY:=OpsY.grow (A:=[]) (World.ownsRow_nil wx W10.heap.size 52 6) RowY.nil hr Hm6.out.symm h7 hg7;rw [List.nil_append] at hY;obtain ⟨a7,c7,rfl,_⟩:=hY.at;rw [Hm6.out] at hrun hY;exact ⟨a7,c7,wA,hrun,hY,grown_ext (Ext.refl _) hg7 (fun k e=>by cases e)⟩
    have Hap:=Lh hap;clear hap;refine anyK_one (i:=2) (by kernel_rfl) rfl (fun Kk hKk=>?_)
    ·obtain ⟨a7,c7,wA,hrun7,hY7,x7⟩:=Hap.out _ G_
     refine stepK_append rfl _ _ 22 rfl (.slice none 0 0) (.slice a6 m6 c6) _ rfl rfl hrun7 ?_;have EA:=G_.trans x7;refine hKk.out _ _ (fun _=>HSj.out _ EA) ?_;clear hKk Kk
     show anyK _ _ _ _ _ _ _ _ (Act.put _ (some 182) _) _
     simp only [Act.put,sx0,sx1,sx2];have HY7:=Lh hY7;have HEA:=Lh EA;clear hrun7 hY7 x7 EA;refine anyK_one (i:=5) (by kernel_rfl) rfl (fun Kk hKk=>?_)
     go_simp
     (go_at_call 31;refine (HPo.out _).mono ?_;rintro e wB ⟨vP,rfl,hOP,xB⟩)
     have HOP:=Lh hOP;have HEB:=Lh (HEA.out.trans xB);have HYB:=Lh (HY7.out.ext xB);clear hOP xB
     go_wp2_with fail
     refine hKk.out _ _ (fun _=>HSj.out _ HEB.out) ?_;clear hKk Kk;simp only [sx0,sx1,sx2];have hOP:=HOP.out;have hEB:=HEB.out;have hYB:=HYB.out;obtain ⟨ap,cq,rfl,_,_,_⟩:=hOP.at;obtain ⟨hlp,hnp,zs,hzl,hzc,hz1,hzr⟩:=opsO_src hOP;obtain ⟨xs,ho,hro⟩:=hYB;obtain ⟨v8,w8',hrun8,h8,hg8⟩:=app_src ho hzl hzc hz1 (fun e=>(hnp e).1) (by have:=HLlen.out;have:=Hplen.out;omega) (HE11.out.trans hEB).size;have hY8:=OpsY.grow ho hro hzr.y rfl h8 hg8;have hcA:=CiB_grownK hg8 (PtKind ho) (HbA.out.ext hEB);have hE8':Ext W10 w8':=grown_ext (HE11.out.trans hEB) hg8 (fun k hk=>(own_lt ho k hk).1);obtain ⟨a8,c8,rfl,_⟩:=hY8.at
     have hn8:(L++poL D nn).length=m6+(poL D nn).length:=by rw [List.length_append,Hm6.out]
     rw [hn8] at hrun8 hY8;refine anyK_one (i:=6) (by kernel_rfl) rfl (fun Kk hKk=>?_);refine stepK_append rfl _ _ 22 rfl (.slice a7 m6 c7) (.slice ap (poL D nn).length cq) _ rfl rfl hrun8 ?_;have hcE:=HbE.out.ext hE8';refine hKk.out _ _ (fun _=>hcE.x2) ?_;clear hKk Kk
     show anyK _ _ _ _ _ _ _ _ (Act.put _ (some 186) _) _
     simp only [Act.put,sx0,sx1,sx2];have HSk:=Lh (fun (w':World) (hx:Ext w8' w')=>(show w'.cell? ⟨KE,2,none⟩=some (.slice a6 m6 c6) from (hcE.ext hx).x2));refine kT 7 9 (v:=?_) rfl (Or.inl ⟨by rfl,?_⟩) (HSk.out _ (Ext.refl _)) ?_;rotate_left 1
     ·intro w hSw
      go_simp
      try with_reducible rfl
     show anyK _ _ _ _ _ _ _ _ (Act.put _ (some 187) _) _
     simp only [Act.put,sx0,sx1,sx2];refine anyK_one (i:=8) (by kernel_rfl) rfl (fun Kk hKk=>?_);refine stepK_store rfl rfl _ _ rfl KA 2 a8 (m6+(poL D nn).length) c8 _ rfl rfl hcA.x2 (hcA.f 2) ?_;refine hKk.out _ _ (fun h=>Bool.noConfusion (show true=false from h)) ?_;clear hKk Kk;refine anyK_done (by kernel_rfl) ?_ _;have hOnly:=only1 w8' KA 2 (.slice a8 (m6+(poL D nn).length) c8);have hfin:MsY W10 (w8'.setCell ⟨KA,2,none⟩ (.slice a8 (m6+(poL D nn).length) c8)) KA (n1:Int) (k:Int) a8 (m6+(poL D nn).length) c8 (L++poL D nn):=⟨ext_onlyC hE8' hOnly (by rw [HKA.out];exact Nat.le_refl _),by rw [HKA.out];exact Nat.le_refl _,hcA.set2 _ _ _,hY8.far hcA.row (by decide) (by decide) (by rw [HKA.out];exact Nat.le_refl _) hOnly⟩
     go_wp2_with fail
     go_meet
     exact ⟨_,_,_,hfin⟩
   case rest =>
   obtain ⟨a9,n9,c9,hMs⟩:=hcut;have HMs:=Lh hMs;clear hMs HPo Hsrc Hn6 HEn;have hat:=HMs.out.at
   have hn9:n9<=442:=by have h1:=hat.1;rw [List.length_append] at h1;have:=HLlen.out;have:=Hplen.out;omega
   have hm2:m2<=400:=by have:=Hml.out;have:=Hm2.out;omega
   have HB9:=Lh (And.intro hn9 hm2);have E1c:=HE10.out.trans HMs.out.ext;have v0:=(HD.out.ext (HE1.out.trans E1c)).x0;have t2:=(HC.out.ext E1c).x2;have u2:=HMs.out.row.x2
   have ws:IntKind.i64.wrap ((n9:Int)+(m2:Int))=((n9+m2:Nat):Int):=by rw [IntKind.wrap_i64];omega
   obtain ⟨s9,hs9⟩:∃ s,n9+m2=s:=⟨_,rfl⟩;rw [hs9] at ws
   have q4:¬ (4096:Int)<(s9:Int):=by omega
   clear hat hn9 hm2 E1c hs9
   go_upto_region 35 with fail
   rw [low_bits x (show nn<=16 by have:=HNk.out;omega)];obtain ⟨vN,hvN⟩:∃ v,lowN x nn=v:=⟨_,rfl⟩;rw [hvN];have HvN:=Lh (show vN<2 ^ nn by rw [<-hvN];exact lowN_lt x nn);clear hvN q4 ws t2 u2 v0;have v1:=(HD.out.ext (HE1.out.trans (HE10.out.trans HMs.out.ext))).x1
   have hk0:(0:Int)<=(k:Int):=by omega
   go_quiet (fail)
   rw [low_free (n:=nn) (by have:=HNk.out;omega) HvN.out (by have:=HNk.out;omega)];obtain ⟨fr,hfr⟩:∃ f,vN / 2 ^ k*2 ^ k=f:=⟨_,rfl⟩;rw [hfr];have Hfr:=Lh (show fr<2 ^ nn/\∀ j,j<gens.length->fr / 2 ^ j % 2=0 from ⟨by rw [<-hfr];exact Nat.lt_of_le_of_lt (Nat.div_mul_le_self _ _) HvN.out,fun j hj=>by rw [<-hfr];exact free_low vN (by rw [<-Hlk.out];exact hj)⟩);obtain ⟨W12,hW12⟩:∃ V,World.drewN wc nq=V:=⟨_,rfl⟩;have E12:=ext_drewN wc nq;rw [hW12] at E12;rw [hW12];have HMs:=Lh (HMs.out.on E12);clear E12 hW12 hfr v1 hk0 HvN;have HE12:=Lh (HE10.out.trans HMs.out.ext);have Haeq:=Lh (show aeO nn gens D=L++poL D nn by unfold aeO;rw [HLe.out]);have Hqae:=Lh (show ∀ o ∈ L++poL D nn,QOk (nn+1) k o by rw [<-Haeq.out];exact q_of_m (ae_ok Hz.out HDl.out));have hR1:=RunQ_any (n:=nn+1) (nb:=k) (by omega) (by have:=HNk.out;omega) (by have:=HNk.out;omega) (L++poL D nn) Hqae.out fr (Nat.lt_of_lt_of_le Hfr.out.1 (Nat.pow_le_pow_right (by decide) (Nat.le_succ nn))) a9 n9 c9 none 0 0 [] W12 HMs.out.at.2.2.2 (by have:=HB9.out;omega) HMs.out.at.2.1 HMs.out.at.2.2.1 (HS.out.ext (HE1.out.trans HE12.out)) ⟨rfl,Or.inl rfl⟩ (by omega) (bsQ_in fr (by have:=HNk.out;omega));have hrn:=ms_none Hz.out HDl.out fr (List.replicate k 0);rw [Haeq.out] at hrn;rw [hrn,Hn1.out] at hR1;have HR1:=Lh hR1;have b0:=HMs.out.row.x0;have b1:=HMs.out.row.x1;have b2:=HMs.out.row.x2;clear hR1 hrn
   go_wp2_with fail
   refine HR1.out.mono ?_;rintro e w13 ⟨hr1,_⟩;obtain ⟨TX,hTX⟩:∃ X,(orL ((bsQ fr n1).map (actNL (L++poL D nn)))).map (txP n1)=X:=⟨_,rfl⟩;obtain ⟨a13,c13,B13,rfl,hs13,_,x13,hf13⟩:=hr1 rfl
   have hs13:StrsAt w13 a13 n1 TX:=by rw [<-hTX];exact hs13
   have HTX:=Lh hTX;clear hTX;have ft13:FtB w13 (K+1) 0 0:=HF.out.ext (HE12.out.trans x13);have hs:=ft_same ft13;have y0:=ft13.x0;have y1:=ft13.x1;have h0:=ft13.f 0;have h1:=ft13.f 1;obtain ⟨W13,hW13⟩:∃ V,((w13.setCell ⟨K+1,0,none⟩ (.int .i64 0)).setCell ⟨K+1,1,none⟩ (.int .i64 0))=V:=⟨_,rfl⟩;rw [hW13] at hs;have HW13:=Lh hW13;have HX13:=Lh (x13.trans hs);have Hs13:=Lh (hs13.ext hs);have Hf13:=Lh hf13;clear hr1 hs13 x13 hf13 ft13 hs hW13 HR1 b0 b1 b2
   go_upto_region 37 with fail
   rw [HW13.out];clear y0 y1 h0 h1;have y0:=(HF.out.ext (HE12.out.trans HX13.out)).x0
   go_upto_region 39 with fail
   clear y0;have HMs13:=Lh (HMs.out.on HX13.out);have E13:=HE12.out.trans HX13.out;have t2:=(HC.out.ext E13).x2;have u2:=HMs13.out.row.x2;obtain ⟨ys,hl,hcc,h1s,hry⟩:=ops_src (base:=W10.heap.size) Hoa.out E13 HE10.out.size;obtain ⟨xs,ho,hro⟩:=HMs13.out.own;obtain ⟨xs2,ho2,_⟩:=HMs.out.own;have hn9:(L++poL D nn).length=n9:=HMs.out.at.1
   obtain ⟨v14,w14,hrun,h14,hg14⟩:=app_src (c:=c2) ho hl hcc h1s (fun e=>by
    rcases Hoa.out.2 with h | ⟨b,o,e2,_⟩
    ·exact h
    ·rw [e] at e2;cases e2) (by rw [hn9];have:=HB9.out;omega) HMs13.out.ext.size
   have hg15:=OpsY.grow ho hro hry Hm2.out.symm h14 hg14;obtain ⟨a14,c14,rfl,_⟩:=hg15.at
   have hn14:((L++poL D nn)++MO).length=n9+m2:=by rw [List.length_append,hn9,Hm2.out]
   rw [hn14] at hrun hg15;have hm14:=HMs13.out.more ho hg14 hg15;have hc14:=(HMs13.out.grown ho hg14).1
   have hv12:∀ kk,(Value.slice a9 n9 c9).ownBlock=some kk->kk<W12.heap.size:=fun kk e=>(own_lt ho2 kk e).2
   have hst:StrsAt (w14.setCell ⟨KA,2,none⟩ (.slice a14 (n9+m2) c14)) a13 n1 TX:=strs_young (u:=W12) (w:=W13) (O:=KA) (v:=.slice a9 n9 c9) Hs13.out Hf13.out hv12 hg14 HMs.out.row.lt;have hxx:Ext W10 w14:=(HMs13.out.grown ho hg14).2;obtain ⟨W14,hW14⟩:∃ V,w14.setCell ⟨KA,2,none⟩ (.slice a14 (n9+m2) c14)=V:=⟨_,rfl⟩;rw [hW14] at hm14 hst;obtain ⟨n14,hn14'⟩:∃ n,n9+m2=n:=⟨_,rfl⟩;rw [hn14'] at hm14 hrun hW14;have Hn14:=Lh (show n14<=4096 by rw [<-hn14'];have:=HB9.out;omega);have y14:=hc14.x2;have f14:=hc14.f 2;have Hrun:=Lh hrun;have HM14:=Lh hm14;have Hs14:=Lh hst;have HW14:=Lh hW14;clear hl hcc h1s hry ho hro ho2 hn9 hrun h14 hg14 hg15 hn14 hm14 hc14 hst hxx hW14 hn14' E13
   go_upto_region 40 with (at_builtin;refine Lib.wpList_append_run _ rfl _ _ _ _ rfl _ _ rfl rfl _ _ Hrun.out ?_)
   rw [HW14.out];clear y14 f14 HW14 Hrun t2 u2;have E14:=HE10.out.trans HM14.out.ext;have HE14:=Lh E14;have v0:=(HD.out.ext (HE1.out.trans E14)).x0;have v1:=(HD.out.ext (HE1.out.trans E14)).x1;have HSj:=Lh (fun (w':World) (hx:Ext W14 w')=>(show w'.cell? ⟨H,0,none⟩=some (.int .i64 (nn:Int))/\w'.cell? ⟨H,1,none⟩=some (.slice ao k cp) from ⟨cell_ext v0 hx,cell_ext v1 hx⟩));have G_:Ext W14 W14.drew:=Below.drew (Ext.refl _);have HSO:=Lh (SyndromeOf_any (nn:Int) gens D ao k cp W14.drew (Hh.out.ext (HE1.out.trans (E14.trans G_))) (by have:=HNk.out;omega) nn (by have:=HNk.out;omega) (fun T hT=>(isP_let (Hall.out T hT)).1) HDl.out.1);clear v0 v1 E14;refine wp_region_K 4 (fun w'=>w'.cell? ⟨H,0,none⟩=some (.int .i64 (nn:Int))/\w'.cell? ⟨H,1,none⟩=some (.slice ao k cp)) (by kernel_rfl) ?_
   show anyK _ _ _ _ _ _ 5 #[false,false,false,false,false] _ _
   refine kT 0 5 (v:=?_) rfl (Or.inl ⟨by rfl,?_⟩) (HSj.out _ G_) ?_;rotate_left 1
   ·intro w hSw
    go_simp
    try with_reducible rfl
   show anyK _ _ _ _ _ _ _ _ (Act.put _ (some 228) _) _
   simp only [Act.put,sx0,sx1,sx2];refine kT 1 5 (v:=?_) rfl (Or.inl ⟨by rfl,?_⟩) (HSj.out _ G_) ?_;rotate_left 1
   ·intro w hSw
    go_simp
    try with_reducible rfl
   show anyK _ _ _ _ _ _ _ _ (Act.put _ (some 229) _) _
   simp only [Act.put,sx0,sx1,sx2];refine kT 2 5 (v:=?_) rfl (Or.inl ⟨by rfl,?_⟩) (HSj.out _ G_) ?_;rotate_left 1
   ·intro w hSw
    go_simp
    try with_reducible rfl
   show anyK _ _ _ _ _ _ _ _ (Act.put _ (some 230) _) _
   simp only [Act.put,sx0,sx1,sx2];refine anyK_one (i:=3) (by kernel_rfl) rfl (fun Kk hKk=>?_)
   go_simp
   (go_at_call 32;refine HSO.out.mono ?_;rintro e w15 ⟨⟨v15,rfl,hr15⟩,x15⟩)
   have E15:Ext W14 w15:=G_.trans x15;obtain ⟨a15,c15,rfl,hac15,hcm15,hI15,_⟩:=ints_of_own hr15;obtain ⟨SY,hSY⟩:∃ S,synL gens D=S:=⟨_,rfl⟩;rw [hSY] at hI15;have HI15:=Lh hI15;have Hc15:=Lh (And.intro hac15 hcm15);have HE15:=Lh E15;have HSY:=Lh hSY;have HSl:=Lh (show SY.length=k from hI15.1);clear hr15 hac15 hcm15 hI15 hSY x15 E15
   go_wp2_with fail
   refine hKk.out _ _ (fun _=>HSj.out _ HE15.out) ?_;clear hKk Kk;simp only [sx0,sx1,sx2];refine anyK_one (i:=4) (by kernel_rfl) rfl (fun Kk hKk=>?_)
   go_wp2_with fail
   refine hKk.out _ _ (fun h=>Bool.noConfusion (show true=false from h)) ?_;clear hKk Kk;simp only [sx0,sx1,sx2];refine anyK_done (by kernel_rfl) ?_ _;clear G_ HSj HSO hsT hpc h1T
   go_wp2_with fail
   go_loopg [24,25] k (fun kk s24 s25 wr=>∃ i:Nat,s25=.int .i64 (i:Int)/\i<=k/\k-i=kk/\wr.ownsRow w15.heap.size 3 1 s24 (2*i) (iC (tpL (SY.take i)))/\Ext w15 wr)
   case atStart=>exact ⟨0,rfl,Nat.zero_le _,rfl,⟨rfl,Or.inl ⟨rfl,rfl⟩⟩,Ext.refl _⟩
   case round =>
   obtain ⟨i,rfl,hi,hkk,hown,hE⟩:=hrel;obtain ⟨a24,c24,rfl,hc24,hm24,_,_⟩:=ints_of_own hown;have Hkk:=Lh hkk;have HE:=Lh hE;have Hown:=Lh hown;have Hc24:=Lh (And.intro hc24 hm24);clear hc24 hm24
   by_cases hik:i=k
   rotate_left 1
   ·have hlt:i<k:=by omega
    have p1:(i:Int)<(k:Int):=by omega
    have p0:(0:Int)<=(i:Int):=by omega
    have wi:IntKind.i64.wrap ((i:Int)+1)=((i+1:Nat):Int):=by rw [IntKind.wrap_i64];have:=HNk.out;omega
    obtain ⟨b15,o15,ha15,hb15,hc15⟩:=HI15.out.2.resolve_left (by omega);subst ha15;have e0:=hc15 i hlt;obtain ⟨sy,hsy⟩:∃ s,SY.getD i 0=s:=⟨_,rfl⟩;rw [hsy] at e0
    have hsi:SY[i]?=some sy:=by
     have hl:i<SY.length:=by rw [HSl.out];exact hlt
     rw [List.getElem?_eq_getElem hl,<-hsy,List.getD_eq_getElem?_getD,List.getElem?_eq_getElem hl];rfl
    have Htk:=Lh (show tpL (SY.take (i+1))=tpL (SY.take i)++[sy,sy] by rw [List.take_add_one,hsi];exact tp_snoc _ _);have Hlt:=Lh hlt;have HSj:=Lh (fun (w':World) (hx:Ext w15 w')=>(show w'.cell? ⟨b15,o15+i,none⟩=some (.int .i64 sy) from cell_ext e0 hx));have G_:Ext w15 wr.drew:=Below.drew hE;clear hkk hi hik hown hE hlt hc15 hb15 hsy hsi e0
    go_upto_region 45 with fail
    refine wp_region_K 11 (fun w'=>w'.cell? ⟨b15,o15+i,none⟩=some (.int .i64 sy)) (by kernel_rfl) ?_
    show anyK _ _ _ _ _ _ 12 #[false,false,false,false,false,false,false,false,false,false,false,false] _ _
    refine kT 0 12 (v:=?_) rfl (Or.inl ⟨by rfl,?_⟩) (HSj.out _ G_) ?_;rotate_left 1
    ·intro w hSw
     go_simp
     try with_reducible rfl
    show anyK _ _ _ _ _ _ _ _ (Act.put _ (some 238) _) _
    simp only [Act.put,sx0,sx1,sx2];refine kT 1 12 (v:=?_) rfl (Or.inl ⟨by rfl,?_⟩) (HSj.out _ G_) ?_;rotate_left 1
    ·intro w hSw
     go_simp
     try with_reducible rfl
    show anyK _ _ _ _ _ _ _ _ (Act.put _ (some 239) _) _
    simp only [Act.put,sx0,sx1,sx2];refine kT 2 12 (v:=?_) rfl (Or.inl ⟨by rfl,?_⟩) (HSj.out _ G_) ?_;rotate_left 1
    ·intro w hSw
     go_simp
     try with_reducible rfl
    show anyK _ _ _ _ _ _ _ _ (Act.put _ (some 240) _) _
    simp only [Act.put,sx0,sx1,sx2];refine kT 3 12 (v:=?_) rfl (Or.inl ⟨by rfl,?_⟩) (HSj.out _ G_) ?_;rotate_left 1
    ·intro w hSw
     go_simp
     try with_reducible rfl
    show anyK _ _ _ _ _ _ _ _ (Act.put _ (some 241) _) _
    simp only [Act.put,sx0,sx1,sx2];refine kT 4 12 (v:=?_) rfl (Or.inl ⟨by rfl,?_⟩) (HSj.out _ G_) ?_;rotate_left 1
    ·intro w hSw
     go_simp
     try with_reducible rfl
    show anyK _ _ _ _ _ _ _ _ (Act.put _ (some 242) _) _
    simp only [Act.put,sx0,sx1,sx2];refine kT 5 12 (v:=?_) rfl (Or.inl ⟨by rfl,?_⟩) (HSj.out _ G_) ?_;rotate_left 1
    ·intro w hSw
     go_simp
     try with_reducible rfl
    show anyK _ _ _ _ _ _ _ _ (Act.put _ (some 243) _) _
    simp only [Act.put,sx0,sx1,sx2];refine kT 6 12 (v:=?_) rfl (Or.inl ⟨by rfl,?_⟩) (HSj.out _ G_) ?_;rotate_left 1
    ·intro w hSw
     go_simp
     try with_reducible rfl
    show anyK _ _ _ _ _ _ _ _ (Act.put _ (some 244) _) _
    simp only [Act.put,sx0,sx1,sx2];refine kT 7 12 (v:=?_) rfl (Or.inl ⟨by rfl,?_⟩) (HSj.out _ G_) ?_;rotate_left 1
    ·intro w hSw
     go_simp
     try with_reducible rfl
    show anyK _ _ _ _ _ _ _ _ (Act.put _ (some 245) _) _
    simp only [Act.put,sx0,sx1,sx2];refine kT 8 12 (v:=?_) rfl (Or.inl ⟨by rfl,?_⟩) (HSj.out _ G_) ?_;rotate_left 1
    ·intro w hSw
     go_simp
     try with_reducible rfl
    show anyK _ _ _ _ _ _ _ _ (Act.put _ (some 246) _) _
    simp only [Act.put,sx0,sx1,sx2];refine anyK_one (i:=9) (by kernel_rfl) rfl (fun Kk hKk=>?_);refine stepK_buildI2 rfl _ _ rfl sy sy rfl rfl ?_;have ea:=ext_al wr.drew (.cells #[.int .i64 sy,.int .i64 sy] 3);refine hKk.out _ _ (fun _=>HSj.out _ (G_.trans ea)) ?_;clear hKk Kk
    show anyK _ _ _ _ _ _ _ _ (Act.put _ (some 247) _) _
    simp only [Act.put,sx0,sx1,sx2];obtain ⟨v7,w7,hrun,hown7,hg7⟩:=app_two (x:=sy) (y:=sy) Hown.out (by have:=Hlt.out;have:=HNk.out;omega) HE.out.size;refine anyK_one (i:=10) (by kernel_rfl) rfl (fun Kk hKk=>?_);refine stepK_append rfl _ _ 25 rfl (.slice a24 (2*i) c24) (.slice (some ⟨wr.drew.heap.size,0,none⟩) 2 2) _ rfl rfl hrun ?_;have E7:Ext w15 w7:=grown_ext (G_.trans ea) hg7 (fun kk e=>(own_lt Hown.out kk e).1);have HO7:=Lh hown7;have HE7:=Lh E7;clear hown7 hg7 hrun ea G_ E7;refine hKk.out _ _ (fun _=>HSj.out _ HE7.out) ?_;clear hKk Kk
    show anyK _ _ _ _ _ _ _ _ (Act.put _ (some 248) _) _
    simp only [Act.put,sx0,sx1,sx2];refine anyK_one (i:=11) (by kernel_rfl) rfl (fun Kk hKk=>?_)
    skip --m1
    refine stepK_valG (v:=v7) 24 rfl (by kernel_rfl) (by kernel_rfl) ?_
    skip --m2
    refine hKk.out _ _ (fun h=>Bool.noConfusion (show true=false from h)) ?_;clear hKk Kk;simp only [sx0,sx1,sx2]
    skip --m3
    refine anyK_done (by kernel_rfl) ?_ _;clear HSj
    skip --m4
    go_wp2_with fail
    go_roundg (k-(i+1))
    case measure=>have:=Hkk.out;have:=Hlt.out;omega
    case rel=>exact ⟨i+1,rfl,Hlt.out,rfl,by rw [Htk.out];exact HO7.out,HE7.out⟩
   have p1:¬ (i:Int)<(k:Int):=by omega
   have htake:SY.take i=SY:=List.take_of_length_le (by rw [HSl.out];omega);obtain rfl:=hik.symm;rw [htake,Hk2.out] at Hown;rw [Hk2.out]
   have htl:mt<=24:=by have:=Hk2.out;have:=HNk.out;omega
   have Hmt24:=Lh htl;obtain ⟨TP,hTP⟩:∃ t,tpL SY=t:=⟨_,rfl⟩;rw [hTP] at Hown
   have htw:twT (ssL gens D)=TP:=by rw [<-tp_tw,ss_syn,HSY.out,hTP]
   have Htw:=Lh htw;have HE16:=Lh (HE14.out.trans (HE15.out.trans hE));have HM16:=Lh (HM14.out.on (HE15.out.trans hE));have HE15b:=Lh hE
   have hI16:IntsAt wr a24 mt TP:=by
    obtain ⟨a',c',e,_,_,h,_⟩:=ints_of_own Hown.out;injection e with e1 e2 e3;subst e1;exact h
   have Hqall:=Lh (show ∀ o ∈ (L++poL D nn)++MO,QOk (nn+1) k o from fun o ho=>by
    rcases List.mem_append.1 ho with h | h
    ·exact Hqae.out o h
    ·exact Hmq.out o h)
   have Hv1:=Lh (show fr<2 ^ (nn+1) from Nat.lt_of_lt_of_le Hfr.out.1 (Nat.pow_le_pow_right (by decide) (Nat.le_succ nn)));have hR2:=RunQ_any (n:=nn+1) (nb:=k) (by omega) (by have:=HNk.out;omega) (by have:=HNk.out;omega) ((L++poL D nn)++MO) Hqall.out fr Hv1.out a14 n14 c14 a24 mt c24 TP wr HM16.out.at.2.2.2 Hn14.out HM16.out.at.2.1 HM16.out.at.2.2.1 (HS.out.ext (HE1.out.trans HE16.out)) hI16 (by omega) (bsQ_in fr (by have:=HNk.out;omega));obtain ⟨l',e1,e2⟩:=ms_yes Hz.out HDl.out Hfr.out.1 Hfr.out.2;rw [htw,Haeq.out,HMO.out,Hlk.out,HSY.out,Hk2.out] at e1;rw [Haeq.out,Hn1.out] at e2;rw [e1,Hn1.out] at hR2;have HR2:=Lh hR2;have He2:=Lh e2;have b0:=HM16.out.row.x0;have b1:=HM16.out.row.x1;have b2:=HM16.out.row.x2;clear hR2 e1 e2 hkk hi hown hE htake htw hTP hI16
   go_wp2_with fail
   refine HR2.out.mono ?_;rintro e w17 ⟨hr1,_⟩;obtain ⟨a17,c17,B17,rfl,hs17,hb17,x17,_⟩:=hr1 rfl
   have hs17:StrsAt w17 a17 n1 TX:=by rw [<-HTX.out,<-He2.out];exact hs17
   have hb17:w17.heap[B17]?=some (.cells (SY.map (fun y=>Value.int .i64 y)).toArray 3 (0,0)):=hb17;have ft17:FtB w17 (K+1) 0 0:=HF.out.ext (HE16.out.trans x17);have hs:=ft_same ft17;have y0:=ft17.x0;have y1:=ft17.x1;have h0:=ft17.f 0;have h1:=ft17.f 1;obtain ⟨W17,hW17⟩:∃ V,((w17.setCell ⟨K+1,0,none⟩ (.int .i64 0)).setCell ⟨K+1,1,none⟩ (.int .i64 0))=V:=⟨_,rfl⟩;rw [hW17] at hs
   have hI17:IntsAt w17 (some ⟨B17,0,none⟩) k SY:=by have h:=ints_of_row hb17;rw [HSl.out] at h;exact h
   have HW17:=Lh hW17;have HX17:=Lh (x17.trans hs);have Hs17:=Lh (hs17.ext hs);have HI17:=Lh (hI17.ext hs);have HE17:=Lh (HE16.out.trans (x17.trans hs));clear hr1 hs17 hb17 x17 ft17 hs hW17 hI17 HR2 b0 b1 b2
   go_upto_region 47 with fail
   rw [HW17.out];clear y0 y1 h0 h1;have y0:=(HF.out.ext HE17.out).x0;have HSi:=Lh (sameInts_any SY (some ⟨B17,0,none⟩) k k a15 c15 W17 HI17.out (HI15.out.ext (HE15b.out.trans HX17.out)) (Nat.le_refl k) (by have:=HNk.out;omega));have HSt:=Lh (fun wx (hx:Ext W17 wx)=>sameTexts_all TX a13 n1 c13 a17 c17 wx ((Hs14.out.ext (HE15.out.trans (HE15b.out.trans HX17.out))).ext hx) (Hs17.out.ext hx) (by have:=HN.out;have:=Hn1.out;omega))
   go_wp2_with fail
   refine HSi.out.mono ?_;rintro e w18 ⟨rfl,x18⟩;have HX18:=Lh x18;clear x18 y0 HSi
   go_wp2_with fail
   refine (HSt.out _ HX18.out).mono ?_;rintro e w19 ⟨rfl,x19⟩;have HX19:=Lh (HX17.out.trans (HX18.out.trans x19));clear x19 HSt
   by_cases hm0:mt=0
   ·have q0:((mt:Int) == 0)=true:=bt' (by omega)
    have HEz:=Lh (HE0.out.trans (HE1.out.trans (HE16.out.trans HX19.out)));clear hm0
    go_wp2_with fail
    go_ret
    exact ⟨rfl,HEz.out⟩
   have q0:((mt:Int) == 0)=false:=bf (by omega)
   have m0:(0:Int)<(mt:Int):=by omega
   have hown19:=(show World.ownsRow w19 w15.heap.size 3 1 (.slice a24 mt c24) mt (iC TP) from own_kpt Hown.out HX19.out);obtain ⟨g24,cc,e24⟩:=slice_of_own hown19 (by omega);injection e24 with e24 _ e26;subst e24;subst e26
   have hgne:gens≠[]:=by
    intro e;have h1:=Hlk.out;rw [e] at h1;have:=Hk2.out
    simp at h1
    omega
   obtain ⟨s0,hs0⟩:∃ s,(ssL gens D)[0]?=some s:=by
    cases hg:gens with
    | nil=>exact absurd hg hgne
    | cons T r=>exact ⟨_,rfl⟩
   obtain ⟨ht0,ht1⟩:=tw_first hs0;rw [Htw.out] at ht0 ht1;obtain ⟨hbg,hcell,hfz,hset⟩:=own_first hown19 ht0 (by omega) (oV (!s0));have wo:=oV_not s0;have hX21:Ext w15 (w19.setCell ⟨g24,0,none⟩ (.int .i64 (oV (!s0)))):=Below.setCell (HE15b.out.trans HX19.out) (p:=⟨g24,0,none⟩) hbg _;obtain ⟨W19,hW19⟩:∃ V,w19.setCell ⟨g24,0,none⟩ (.int .i64 (oV (!s0)))=V:=⟨_,rfl⟩;rw [hW19] at hset hX21;obtain ⟨tz,htz⟩:∃ z,oV s0=z:=⟨_,rfl⟩;obtain ⟨ty,hty⟩:∃ z,oV (!s0)=z:=⟨_,rfl⟩;rw [htz] at hcell wo;rw [hty] at wo hset hW19
   have hrun:(runT (TP.set 0 ty) ((L++poL D nn)++MO) 0 ⟨bsQ fr (nn+1),List.replicate k 0,0⟩).2.1=20:=by
    have h:=ms_no Hz.out HDl.out Hfr.out.1 Hfr.out.2 hgne (tape:=TP.set 0 ty) (bits:=List.replicate k 0) hs0 (by rw [<-hty];exact ht1);rw [Haeq.out,HMO.out] at h;exact h
   have hI20:IntsAt W19 (some ⟨g24,0,none⟩) mt (TP.set 0 ty):=by
    obtain ⟨a',c',e,_,_,h,_⟩:=ints_of_own hset;injection e with e1 e2 e3;rw [e1];exact h
   have HM19:=Lh (HM14.out.on (HE15.out.trans hX21));have HE19:=Lh (HE14.out.trans (HE15.out.trans hX21));have hR3:=RunQ_any (n:=nn+1) (nb:=k) (by omega) (by have:=HNk.out;omega) (by have:=HNk.out;omega) ((L++poL D nn)++MO) Hqall.out fr Hv1.out a14 n14 c14 (some ⟨g24,0,none⟩) mt c24 (TP.set 0 ty) W19 HM19.out.at.2.2.2 Hn14.out HM19.out.at.2.1 HM19.out.at.2.2.1 (HS.out.ext (HE1.out.trans HE19.out)) hI20 (by omega) (bsQ_in fr (by have:=HNk.out;omega));obtain ⟨X,hX⟩:∃ X,runT (TP.set 0 ty) ((L++poL D nn)++MO) 0 ⟨bsQ fr (nn+1),List.replicate k 0,0⟩=X:=⟨_,rfl⟩;rw [hX] at hrun hR3;rw [Hn1.out] at hR3;have HR3:=Lh hR3;have HX20:=Lh hrun;have HW19:=Lh hW19;have b0:=HM19.out.row.x0;have b1:=HM19.out.row.x1;have b2:=HM19.out.row.x2;clear hown19 hgne hs0 ht0 ht1 hbg hset hX21 hW19 htz hty hrun hI20 hR3 hX hm0
   go_upto_region 52 with fail
   rw [HW19.out];clear hcell hfz wo HW19
   go_wp2_with fail
   refine HR3.out.mono ?_;rintro e w20 ⟨_,hr2⟩;obtain ⟨rfl,x20⟩:=hr2 (by rw [HX20.out];decide);rw [show ((X.2.1:Nat):Int)=20 by rw [HX20.out];rfl];have ft20:FtB w20 (K+1) 0 0:=HF.out.ext (HE19.out.trans x20);have y0:=ft20.x0;have y1:=ft20.x1;have h0:=ft20.f 0;have h1:=ft20.f 1;obtain ⟨x2,hx2⟩:∃ z:Int,((X.2.2:Nat):Int)=z:=⟨_,rfl⟩;rw [hx2];have hft:=ft20.put 20 x2;have hez:Ext w ((w20.setCell ⟨K+1,0,none⟩ (.int .i64 20)).setCell ⟨K+1,1,none⟩ (.int .i64 x2)):=put2x (HE0.out.trans (HE1.out.trans (HE19.out.trans x20))) (by have:=HKw.out;omega) _ _;obtain ⟨W21,hW21⟩:∃ V,(w20.setCell ⟨K+1,0,none⟩ (.int .i64 20)).setCell ⟨K+1,1,none⟩ (.int .i64 x2)=V:=⟨_,rfl⟩;rw [hW21] at hft hez;have HW21:=Lh hW21;have Hft:=Lh hft;have Hez:=Lh hez;clear hr2 x20 ft20 hx2 hft hez hW21 HR3 b0 b1 b2
   go_upto_region 53 with fail
   rw [HW21.out];clear y0 y1 h0 h1;have y0:=Hft.out.x0
   go_wp2_with fail
   go_ret
   exact ⟨rfl,Hez.out⟩
  have hlt:i<m2:=by omega
  have p1:(i:Int)<(m2:Int):=by omega
  have p0:(0:Int)<=(i:Int):=by omega
  have wi:IntKind.i64.wrap ((i:Int)+1)=((i+1:Nat):Int):=by rw [IntKind.wrap_i64];have:=Hml.out;have:=Hm2.out;omega
  obtain ⟨ob,oo,hao⟩:=(Hoa.out).some_of (by omega);subst hao;obtain ⟨o,ho⟩:∃ g,MO[i]?=some g:=⟨_,List.getElem?_eq_getElem (by rw [Hm2.out];exact hlt)⟩;obtain ⟨ga1,gn1,gc1,ga2,gn2,gc2,e0,e1,e2,e3,e4,e5,hol⟩:=(Hoa.out.ext E1r).at i o ho;obtain ⟨hcnd,hcase⟩:=mt_at hM ho
  have hgn:gn2=0:=by rw [<-hol.i2.1,hcnd];rfl
  subst hgn;have v0:=(HD.out.ext (HE1.out.trans E1r)).x0;have Hlt:=Lh hlt;have Hhol:=Lh (hol.i1.1);clear hkk hM hC him hi hlt ho hol;obtain ⟨G,hG⟩:∃ G,wr.heap.size=G:=⟨_,rfl⟩;obtain ⟨kd,ok,ctl,oq,bt,cnd⟩:=o;simp only at e0 e1 e2 e3 e4 e5 hcnd hcase;obtain ⟨W7,hW7⟩:∃ V,wr.alloc (.cells #[.int .i64 kd,.int .i64 ok,.slice ga1 gn1 gc1,.int .i64 oq,.int .i64 bt,.slice ga2 0 gc2] 52)=V:=⟨_,rfl⟩
  have E7:Ext wr W7:=by rw [<-hW7];exact ext_al _ _
  have b7:OpBx W7 G kd ok ga1 gn1 gc1 oq bt ga2 0 gc2:=by rw [<-hW7,<-hG];exact opbx_new _ _ _ _ _ _ _ _ _ _ _
  have Hcs:=Lh hcase;have HW7:=Lh hW7;have HG7:=Lh hG;clear hG hW7 hcase
  go_upto_region 18 with fail
  rw [HW7.out,HG7.out];have x0:=b7.x0;have x3:=b7.x3;have x4:=b7.x4;have x5:=b7.x5;have v0:=(HD.out.ext (HE1.out.trans (E1r.trans E7))).x0;have HE7:=Lh (hE.trans E7);clear e0 e1 e2 e3 e4 e5 t2 b7 E7 E1r hE
  rcases Hcs.out with ⟨hk5,h1,h2⟩ | ⟨hm,ho,h1,h2⟩ | ⟨hm,ho,h1,h2⟩
  ·have q5:¬ (5:Int)<=kd:=by omega
   have H1:=Lh h1;have H2:=Lh h2;clear hk5 h1 h2 Hcs
   go_wp2_with fail
   go_roundg (m2-(i+1))
   case measure=>have:=Hkk.out;have:=Hlt.out;omega
   case rel=>exact ⟨i+1,mt,rfl,Hlt.out,rfl,rfl,H1.out,by rw [<-H2.out];exact HCm.out,HE7.out⟩
  ·unfold wM at ho
   injection ho with ho1 ho2 ho3 ho4 ho5 ho6;subst ho1;subst ho4;subst ho5
   have r2:((mt:Int)).tmod 2=0:=by rw [Int.tmod_eq_emod_of_nonneg (by omega)];omega
   have d2:((mt:Int)).tdiv 2=((mt / 2:Nat):Int):=by rw [Int.tdiv_eq_ediv_of_nonneg (by omega)];omega
   have hmb:mt<=2*k:=by have:=HCm.out;omega
   have wm:IntKind.i64.wrap ((mt:Int)+1)=((mt+1:Nat):Int):=by rw [IntKind.wrap_i64];have:=HNk.out;omega
   obtain ⟨dd,hdd⟩:∃ d,mt / 2=d:=⟨_,rfl⟩;rw [hdd] at d2 x4 ⊢
   have wdd:IntKind.i64.wrap (dd:Int)=(dd:Int):=by rw [IntKind.wrap_i64];have:=HNk.out;omega
   have H1:=Lh h1;have H2:=Lh h2;clear hm h1 h2 Hcs ho2 ho3 ho6 hmb
   go_wp2_with fail
   go_roundg (m2-(i+1))
   case measure=>have:=Hkk.out;have:=Hlt.out;omega
   case rel=>exact ⟨i+1,mt+1,rfl,Hlt.out,rfl,rfl,H1.out,by have:=H2.out;have:=HCm.out;omega,HE7.out⟩
  ·unfold wR at ho
   injection ho with ho1 ho2 ho3 ho4 ho5 ho6;subst ho1;subst ho4;subst ho5
   have r2:((mt:Int)).tmod 2=1:=by rw [Int.tmod_eq_emod_of_nonneg (by omega)];omega
   have hmb:mt<=2*k:=by have:=HCm.out;omega
   have wm:IntKind.i64.wrap ((mt:Int)+1)=((mt+1:Nat):Int):=by rw [IntKind.wrap_i64];have:=HNk.out;omega
   have H1:=Lh h1;have H2:=Lh h2;clear hm h1 h2 Hcs ho2 ho3 ho6 hmb
   go_wp2_with fail
   go_roundg (m2-(i+1))
   case measure=>have:=Hkk.out;have:=Hlt.out;omega
   case rel=>exact ⟨i+1,mt+1,rfl,Hlt.out,rfl,rfl,H1.out,by have:=H2.out;have:=HCm.out;omega,HE7.out⟩
theorem measures_walk (N:Int) (gens:List (List UInt8)) (T:List UInt8) (x:Int) (ao:Option Addr) (k cp:Nat) (w:World) (hG:StrsAt w ao k gens) (hT:∀ T ∈ gens,T.length<=9223372036854775807) (hT2:T.length<=9223372036854775807) (hk9:k*16<=140737488355328) (hnil:ao=none->cp=0) (hL:LtL w) (hS:Shp w) :
  Calls Tryz.prog 6 #[.agg #[.int .i64 N,.slice ao k cp],.string ⟨T.toArray⟩,.int .i64 x] w fun e w'=>e=.returned (.bool true)/\Ext w w':=by
 by_cases hz:(ccF N gens).1=0
 ·obtain ⟨h1,_,_,_⟩:=cc_zero hz
  obtain ⟨nn,rfl⟩:∃ n:Nat,N=(n:Int):=⟨N.toNat,by omega⟩
  by_cases hN:nn+1<=12
  ·exact measures_good nn gens ao k cp T x w hG hT hT2 hk9 hnil hL hS hz hN
  ·exact measures_room (nn:Int) gens ao k cp T x w hG hT hk9 hnil hL hz (by omega)
 ·exact measures_bad N gens ao k cp T x w hG hT hk9 hnil hL hz
open Go.RowKit Go.ChangeShapes Go.WideShapes Go.Deep
instance:Inhabited Gop:=⟨⟨0,0,[],0,0,[]⟩⟩
theorem addr_at (b o t:Nat):(⟨b,o,none⟩:Addr).add t=⟨b,o+t,none⟩:=by
 unfold Addr.add
 by_cases h:t=0<;>simp [h]
section
variable {H:Type} {enc:TypeId × Value->H} {W:World}
end
open Go.RowKit Go.ChangeShapes Go.WideShapes
theorem shape_row {H:Type} {enc:TypeId × Value->H} {W:World} {base:Nat} {sp:Nat->Bool} {held:Bool} {fuel:Nat} {cs:List Value} {s:List UInt8} {a b c d:Bool} {p:List MemPlace}
  (h:DataW.trod enc Tryz.prog W base sp held fuel 191 cs=some (.agg [.lit (.string s),.lit (.bool a),.lit (.bool b),.lit (.bool c),.lit (.bool d)],p)) :
  cs=[.string ⟨s.toArray⟩,.bool a,.bool b,.bool c,.bool d]:=by
 obtain ⟨xs,n,_,hx,hl,hlen,hf⟩:=DataW.trod_struct Tryz.underlying191 h
 have hc:Tryz.prog.cellsOf 191=5:=by kernel_rfl
 rw [hc] at hl
 match xs,hlen,cs,hl with
 | [y0,y1,y2,y3,y4],_,[v0,v1,v2,v3,v4],_ =>
  have g0:=hf 0 _ rfl;have g1:=hf 1 _ rfl;have g2:=hf 2 _ rfl;have g3:=hf 3 _ rfl;have g4:=hf 4 _ rfl;simp only [List.getElem?_cons_zero,List.getElem?_cons_succ] at g0 g1 g2 g3 g4;obtain ⟨s0,e0,z0,_⟩:=DataW.trod_string Tryz.underlying9 g0;obtain ⟨b1,e1,z1⟩:=DataW.trod_bool Tryz.underlying4 g1;obtain ⟨b2,e2,z2⟩:=DataW.trod_bool Tryz.underlying4 g2;obtain ⟨b3,e3,z3⟩:=DataW.trod_bool Tryz.underlying4 g3;obtain ⟨b4,e4,z4⟩:=DataW.trod_bool Tryz.underlying4 g4;subst z0;subst z1;subst z2;subst z3;subst z4;injection hx with hd _;simp only [List.map_cons,List.map_nil,DataW.agg.injEq,List.cons.injEq,DataW.lit.injEq,Lit.string.injEq,Lit.bool.injEq,and_true] at hd;obtain ⟨rfl,rfl,rfl,rfl,rfl⟩:=hd;injection e0 with e0;injection e1 with e1;injection e2 with e2;injection e3 with e3;injection e4 with e4;rw [e0,e1,e2,e3,e4]
theorem shp_of_laid {W : World} (h : laidMet Tryz.prog [("qloom/circ.shapes", Rows.laid_qloom_circ_shapes)] W) : Shp W := by
 obtain ⟨ps,⟨g',t',cs,fuel,p,q,hg',ht',hvar,hd,_,_⟩,_⟩:=h
 obtain rfl := Option.some.inj ((show Tryz.prog.globalNamed "qloom/circ.shapes" = some 0 by kernel_rfl).symm.trans hg')
 obtain rfl:=Option.some.inj ((show (Tryz.prog.globals[0]?).map (·.type)=some 192 by kernel_rfl).symm.trans ht');obtain ⟨xs,m,_,hx,hl,hlen,hf⟩:=DataW.trod_array Tryz.underlying192 hd
 have hc:Tryz.prog.cellsOf 191=5:=by kernel_rfl
 rw [hc] at hf
 match xs,hlen with
 | [y0,y1,y2,y3,y4,y5,y6],_ =>
  injection hx with hx _;unfold Rows.laid_qloom_circ_shapes at hx;simp only [List.map_cons,List.map_nil,DataW.agg.injEq,List.cons.injEq,and_true] at hx;obtain ⟨_,x1,x2,x3,x4,x5,x6⟩:=hx;have key:∀ (k:Nat) (y:DataW Unit × List MemPlace) (s:List UInt8) (a b c d:Bool),k<7->[y0,y1,y2,y3,y4,y5,y6][k]?=some y->.agg [.lit (.string s),.lit (.bool a),.lit (.bool b),.lit (.bool c),.lit (.bool d)]=y.1 ->
    W.cell? ⟨0,k*5,none⟩=some (.string ⟨s.toArray⟩)/\W.cell? ⟨0,k*5+1,none⟩=some (.bool a)/\W.cell? ⟨0,k*5+2,none⟩=some (.bool b)/\W.cell? ⟨0,k*5+3,none⟩=some (.bool c)/\W.cell? ⟨0,k*5+4,none⟩=some (.bool d):=by
   intro k y s a b c d hk hy he;have h1:=hf k hk;rw [hy] at h1;obtain ⟨yd,yp⟩:=y;simp only at he;subst he;have h2:=shape_row h1
   have h3:∀ j,j<5->W.cell? ⟨0,k*5+j,none⟩=([.string ⟨s.toArray⟩,.bool a,.bool b,.bool c,.bool d]:List Value)[j]?:=by
    intro j hj;rw [World.var?_cell hg' hvar,<-h2,List.getElem?_take,if_pos hj,List.getElem?_drop,Array.getElem?_toList]
   exact ⟨h3 0 (by omega),h3 1 (by omega),h3 2 (by omega),h3 3 (by omega),h3 4 (by omega)⟩
  intro k h1 h6
  have hk:k=1\/k=2\/k=3\/k=4\/k=5\/k=6:=by omega
  rcases hk with rfl | rfl | rfl | rfl | rfl | rfl
  ·exact key 1 y1 _ _ _ _ _ (by omega) rfl x1
  ·exact key 2 y2 _ _ _ _ _ (by omega) rfl x2
  ·exact key 3 y3 _ _ _ _ _ (by omega) rfl x3
  ·exact key 4 y4 _ _ _ _ _ (by omega) rfl x4
  ·exact key 5 y5 _ _ _ _ _ (by omega) rfl x5
  ·exact key 6 y6 _ _ _ _ _ (by omega) rfl x6
theorem post_kept {H:Type} {enc:TypeId × Value->H} {P:Program} {f:Func} {s:ChangeSpec} {apart fresh handsOn again:Bool} {W W':World} {args:Array Value} {v:Value} {ds gs:List (DataW H)} {ps:List MemPlace}
  (hW:DataW.Whole enc P f.params.toList s.vars apart W args.toList ds gs ps)
  (hres:∀ (b:Nat) (sp:Nat->Bool) (hd:Bool),DataW.TrodAll enc P W' b sp hd f.resultTypes.toList (v.resultList f.resultTypes.size) (s.fn H (ds++gs)).results [])
  (hargs:∀ sp:Nat->Bool,(∀ x ∈ ps,sp x.block=true)->DataW.TrodAll enc P W' 0 sp true f.params.toList args.toList (s.fn H (ds++gs)).args ps)
  (hvars:∀ sp:Nat->Bool,DataW.TrodVars enc P W' sp s.vars (s.fn H (ds++gs)).vars [])
  (hb:Ext W W')
  (hok:∀ (j:Nat) (t:TypeId) (r:Value),f.resultTypes[j]?=some t->(v.resultList f.resultTypes.size)[j]?=some r->Value.okWide P W' .any 0 t r) :
  s.post enc P f apart fresh handsOn again W args v W':=by
 have hlt:=hW.lt
 have hold:∀ x ∈ ps,decide (x.block<W.heap.size)=true:=fun x hx=>by simpa using hlt x hx
 have hall:∀ x ∈ ps,(fun _:Nat=>true) x.block=true:=fun _ _=>rfl
 have hn:W.noneFrozen ps/\(apart=true->ps.Nodup):=by
  obtain ⟨_,_,_,_,rfl,h1,h2⟩:=hW;exact ⟨h1,h2⟩
 refine ⟨ds,gs,ps,[],ps,[],hW,hres _ _ _,hargs _ hold,hvars _,Below.frame hb _,fun _=>?_⟩;refine ⟨hok,_,_,([]++ps)++[],⟨[]++ps,[],trodAll_append (hargs (fun _=>true) hall) (hres _ _ _),hvars _,rfl,?_,?_⟩,?_⟩
 ·intro b off hp
  have hp':MemPlace.cell b off ∈ ps:=by simpa using hp
  rw [Below.frozen hb (p:=⟨b,off,none⟩) (hlt _ hp')];exact hn.1 b off hp'
 ·intro ha
  simpa using hn.2 ha
 ·intro x hx _
  simpa using hx
end Go.Proofs.YtlechhmhmakgpaaGreatDoor
