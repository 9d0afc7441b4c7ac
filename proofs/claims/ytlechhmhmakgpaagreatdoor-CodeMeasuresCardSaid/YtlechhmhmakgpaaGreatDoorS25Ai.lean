/-
  A code that was handed in, opened: its generators as they lie in memory; the table of letters, as it is laid.
-/
import Derived.Test.YtlechhmhmakgpaaGreatDoorS24Cw
namespace Go.Proofs.YtlechhmhmakgpaaGreatDoor
set_option maxRecDepth 100000
open Go.RowKit
open Go.RowKit Go.ChangeShapes Go.WideShapes Go.Deep
section
variable {H:Type} {enc:TypeId × Value->H} {W:World}
theorem bytes_strC:Tryz.prog.bytesOf 9=16:=by kernel_rfl
theorem cells_strC:Tryz.prog.cellsOf 9=1:=by kernel_rfl
theorem cells_co:Tryz.prog.cellsOf 59=2:=by kernel_rfl
theorem open_code {v:Value} {d:DataW H} {p:List MemPlace} {base:Nat} (hok:Value.okWide Tryz.prog W .any base 59 v) (h:DataW.Trod enc Tryz.prog W 0 (fun _=>true) true 59 v d p) (hz:∀ k ∈ d.weights Tryz.prog 59,k<=reachBytes) :
  ∃ (N:Int) (gens:List (List UInt8)) (ao:Option Addr) (n cp:Nat),v=.agg #[.int .i64 N,.slice ao n cp]/\StrsAt W ao n gens/\(∀ T ∈ gens,T.length<=9223372036854775807)/\n*16<=140737488355328/\(ao=none->cp=0)/\N<=9223372036854775807:=by
 obtain ⟨fuel,h⟩:=h
 have hv:∃ cs:Array Value,v=.agg cs:=by
  unfold Value.okWide at hok;rw [Tryz.underlying59] at hok;obtain ⟨cs,e,_⟩:=hok;exact ⟨cs,e⟩
 obtain ⟨cs,rfl⟩:=hv;obtain ⟨xs,n,_,hx0,hl,hlen,hf⟩:=DataW.trod_struct Tryz.underlying59 h;obtain ⟨cl⟩:=cs;have hcl:(Value.agg ⟨cl⟩).cells.toList=cl:=rfl;rw [hcl] at hl hf;rw [cells_co] at hl
 match xs,hlen,cl,hl with
 | [y0,y1],_,[v0,v1],_ =>
  injection hx0 with hd hp;subst hd;have g0:=hf 0 _ rfl;have g1:=hf 1 _ rfl;simp only [List.getElem?_cons_zero,List.getElem?_cons_succ] at g0 g1;obtain ⟨N,e0,_,hwf⟩:=DataW.trod_int Tryz.underlying3 g0;injection e0 with e0
  have hN:N<=9223372036854775807:=by
   have h1:(decide (IntKind.i64.min<=N) && decide (N<=IntKind.i64.max))=true:=hwf;rw [Bool.and_eq_true,decide_eq_true_eq,decide_eq_true_eq] at h1;exact h1.2
  have hz2:∀ k ∈ y1.1.weights Tryz.prog 27,k<=reachBytes:=fun k hk=>hz k (by simp [DataW.weights,Tryz.underlying59,DataW.weightsEach,hk])
  rcases open_slice1 Tryz.underlying27 cells_strC g1 with ⟨e2,_⟩ | ⟨a,len,cap,m,n',V,D,Pl,e2,_,hl2,hm2,hmm,hy2,hx⟩
  ·injection e2 with e2
   exact ⟨N,[],none,0,0,by rw [e0,e2],⟨rfl,Or.inl rfl⟩,fun T hT=>(by cases hT),by omega,fun _=>rfl,hN⟩
  ·injection e2 with e2
   have hmc:m=cap:=by simpa using hmm
   subst hmc;subst hy2
   have hr:reachBytes<=140737488355328:=by decide
   have hb:=hz2 ((len+(m-len))*Tryz.prog.bytesOf 9) (by simp [DataW.weights,Tryz.underlying27]);rw [bytes_strC] at hb
   obtain ⟨F,hF⟩:=choose_lt (α:=List UInt8) (n:=m) (p:=fun i z=>W.cell? (a.add i)=some (.string ⟨z.toArray⟩)/\z.length<=9223372036854775807) (fun i hi=>by
    obtain ⟨h1,h2⟩:=hx i hi;obtain ⟨s,e,_,hs⟩:=DataW.trod_string Tryz.underlying9 h2;injection e with e;refine ⟨s.data.toList,?_,?_⟩
    ·rw [h1,e]
    ·have hm:maxLen<=9223372036854775807:=by unfold maxLen;decide
     have h8:s.data.toList.length=s.size:=by rw [Array.length_toList];rfl
     rw [h8]
     exact Nat.le_trans hs hm)
   obtain ⟨b,o,spot⟩:=a;refine ⟨N,(List.range len).map F,some ⟨b,o,spot⟩,len,m,by rw [e0,e2],⟨by simp,?_⟩,fun T hT=>?_,by omega,fun e=>(by cases e),hN⟩
   ·by_cases h0:len=0
    ·exact Or.inl h0
    ·have h1:=(hF 0 (by omega)).1
     have hs:spot=none:=by simpa [Addr.add] using World.cell?_spot h1
     subst hs;refine Or.inr ⟨b,o,rfl,World.block_lt_of_cell? W _ h1,fun t ht=>?_⟩;have:=(hF t (by omega)).1;rw [addr_at] at this;rw [this,List.getD_eq_getElem?_getD,List.getElem?_map,List.getElem?_range ht]
     rfl
   ·obtain ⟨i,hi,rfl⟩:=List.mem_map.1 hT
    exact (hF i (by have:=List.mem_range.1 hi;omega)).2
end
theorem letter_row {H:Type} {enc:TypeId × Value->H} {W:World} {base:Nat} {sp:Nat->Bool} {held:Bool} {fuel:Nat} {cs:List Value} {a b:Int} {c:Bool} {p:List MemPlace}
  (h:DataW.trod enc Tryz.prog W base sp held fuel 103 cs=some (.agg [.lit (.int .u16 a),.lit (.int .u16 b),.lit (.bool c)],p)) :
  cs=[.int .u16 a,.int .u16 b,.bool c]:=by
 obtain ⟨xs,n,_,hx,hl,hlen,hf⟩:=DataW.trod_struct Tryz.underlying103 h
 have hc:Tryz.prog.cellsOf 103=3:=by kernel_rfl
 rw [hc] at hl
 match xs,hlen,cs,hl with
 | [y0,y1,y2],_,[v0,v1,v2],_ =>
  have g0:=hf 0 _ rfl;have g1:=hf 1 _ rfl;have g2:=hf 2 _ rfl;simp only [List.getElem?_cons_zero,List.getElem?_cons_succ] at g0 g1 g2;obtain ⟨b0,e0,z0,_⟩:=DataW.trod_int Tryz.underlying101 g0;obtain ⟨b1,e1,z1,_⟩:=DataW.trod_int Tryz.underlying101 g1;obtain ⟨b2,e2,z2⟩:=DataW.trod_bool Tryz.underlying4 g2;subst z0;subst z1;subst z2;injection hx with hd _;simp only [List.map_cons,List.map_nil,DataW.agg.injEq,List.cons.injEq,DataW.lit.injEq,Lit.int.injEq,Lit.bool.injEq,true_and,and_true] at hd;obtain ⟨rfl,rfl,rfl⟩:=hd;injection e0 with e0;injection e1 with e1;injection e2 with e2;rw [e0,e1,e2]
theorem ltl_of_laid {W : World} (h : laidMet Tryz.prog [("qloom/code.letters", Rows.laid_qloom_code_letters)] W) : LtL W := by
 obtain ⟨ps,⟨g',t',cs,fuel,p,q,hg',ht',hvar,hd,_,hps⟩,_,hfz⟩:=h
 obtain rfl := Option.some.inj ((show Tryz.prog.globalNamed "qloom/code.letters" = some 3 by kernel_rfl).symm.trans hg')
 obtain rfl:=Option.some.inj ((show (Tryz.prog.globals[3]?).map (·.type)=some 212 by kernel_rfl).symm.trans ht')
 have hblk:∃ t,W.heap[(3:Nat)]?=some (.cells cs t (0,0)):=by
  have hv:=hvar;simp only [World.var?,hg',Option.bind_some] at hv
  split at hv
  ·rename_i c t f hc
   obtain rfl:=Option.some.inj hv;obtain ⟨xs,m,_,hx,hl,hlen,_⟩:=DataW.trod_array Tryz.underlying212 hd
   have hc9:Tryz.prog.cellsOf 212=9:=by kernel_rfl
   rw [hc9] at hl
   have hs:c.size=9:=by simpa using hl
   obtain ⟨⟨c',t',h'⟩,_⟩:=hfz 3 0 (by
    rw [hps,hs];refine List.mem_append_left _ (List.mem_append_left _ ?_)
    simp [MemPlace.row])
   rw [hc] at h';injection h' with h';injection h' with h1 h2 h3;exact ⟨t,by rw [hc,h3]⟩
  ·cases hv
 obtain ⟨t,ht⟩:=hblk;obtain ⟨xs,m,_,hx,hl,hlen,hf⟩:=DataW.trod_array Tryz.underlying212 hd
 have hc9:Tryz.prog.cellsOf 212=9:=by kernel_rfl
 have hc3:Tryz.prog.cellsOf 103=3:=by kernel_rfl
 rw [hc9] at hl;rw [hc3] at hf
 match xs,hlen with
 | [y0,y1,y2],_ =>
  injection hx with hx _;unfold Rows.laid_qloom_code_letters at hx;simp only [List.map_cons,List.map_nil,DataW.agg.injEq,List.cons.injEq,and_true] at hx;obtain ⟨x0,x1,x2⟩:=hx
  have key:∀ (k:Nat) (y:DataW Unit × List MemPlace) (a b:Int) (c:Bool),k<3->[y0,y1,y2][k]?=some y->.agg [.lit (.int .u16 a),.lit (.int .u16 b),.lit (.bool c)]=y.1->(cs.toList.drop (k*3)).take 3=[.int .u16 a,.int .u16 b,.bool c]:=by
   intro k y a b c hk hy he;have h1:=hf k hk;rw [hy] at h1;obtain ⟨yd,yp⟩:=y;simp only at he;subst he;exact letter_row h1
  have k0:=key 0 y0 _ _ _ (by omega) rfl x0;have k1:=key 1 y1 _ _ _ (by omega) rfl x1;have k2:=key 2 y2 _ _ _ (by omega) rfl x2;refine ⟨t,?_⟩;rw [ht]
  congr 2
  apply Array.toList_inj.1
  have e:cs.toList=(cs.toList.drop (0*3)).take 3++((cs.toList.drop (1*3)).take 3++(cs.toList.drop (2*3)).take 3):=by
   apply List.ext_getElem?
   intro i;have hl9:cs.toList.length=9:=hl;simp only [List.getElem?_append,List.getElem?_take,List.getElem?_drop,List.length_take,List.length_drop,hl9]
   by_cases h3:i<3
   ·simp [h3]
   ·by_cases h6:i<6
    ·have:i-3<3:=by omega
     simp [h3,this]
     congr 1;omega
    ·by_cases h9:i<9
     ·have a1:¬ i-3<3:=by omega
      have a2:i-3-3<3:=by omega
      simp [h3,a1,a2]
      congr 1;omega
     ·have a1:¬ i-3<3:=by omega
      have a2:¬ i-3-3<3:=by omega
      simp [h3,a1,a2]
      have:cs.size=9:=by simpa using hl9
      omega
  rw [e,k0,k1,k2]
  rfl
end Go.Proofs.YtlechhmhmakgpaaGreatDoor
