/-
  A list of ints that was handed in, opened: where it has no address it is empty. The table of kinds, as it is laid; what is asked behind a call that leaves all that lay there as it was.
-/
import Derived.Carry
import Derived.ChangeSame
import Derived.FnData
import Derived.OpenShut
import Derived.Stop.LaidErr
import Derived.Test.YtfjnlopbmkimiaaGreatDoorS28Ky
namespace Go.Proofs.YtfjnlopbmkimiaaGreatDoor
set_option maxRecDepth 100000
open Go.RowKit
open Go.RowKit Go.ChangeShapes Go.WideShapes Go.Deep
section
variable {H:Type} {enc:TypeId × Value->H} {W:World}
theorem open_list_n {v:Value} {d:DataW H} {p:List MemPlace} {base:Nat} (hok:Value.okWide Tryz.prog W .any base 25 v) (h:DataW.Trod enc Tryz.prog W 0 (fun _=>true) true 25 v d p) (hz:∀ k ∈ d.weights Tryz.prog 25,k<=reachBytes) :
  ∃ (ao:Option Addr) (n cp:Nat) (l:List Int),v=.slice ao n cp/\n<=cp/\cp<=9223372036854775807/\IntsAt W ao n l/\n*8<=140737488355328/\(ao=none->cp=0):=by
 obtain ⟨ao,n,cp,l,rfl,h1,h2,h3,h4⟩:=open_list hok h hz;refine ⟨ao,n,cp,l,rfl,h1,h2,h3,h4,?_⟩;obtain ⟨fuel,h⟩:=h;have hc:(Value.slice ao n cp).cells.toList=[.slice ao n cp]:=rfl
 rcases open_slice Tryz.underlying25 h with ⟨e2,_⟩ | ⟨a,len,cap,m,n',D,Pl,e2,_⟩
 ·rw [hc] at e2
  injection e2 with e2;injection e2 with _ _ e3
  exact fun _=>e3
 ·rw [hc] at e2
  injection e2 with e2;injection e2 with e1 _ _
  exact fun e=>by rw [e] at e1;cases e1
end
open Go.RowKit Go.ChangeShapes Go.WideShapes
theorem shape_row {H:Type} {enc:TypeId × Value->H} {W:World} {base:Nat} {sp:Nat->Bool} {held:Bool} {fuel:Nat} {cs:List Value} {s:List UInt8} {a b c d:Bool} {p:List MemPlace}
  (h:DataW.trod enc Tryz.prog W base sp held fuel 129 cs=some (.agg [.lit (.string s),.lit (.bool a),.lit (.bool b),.lit (.bool c),.lit (.bool d)],p)) :
  cs=[.string ⟨s.toArray⟩,.bool a,.bool b,.bool c,.bool d]:=by
 obtain ⟨xs,n,_,hx,hl,hlen,hf⟩:=DataW.trod_struct Tryz.underlying129 h
 have hc:Tryz.prog.cellsOf 129=5:=by kernel_rfl
 rw [hc] at hl
 match xs,hlen,cs,hl with
 | [y0,y1,y2,y3,y4],_,[v0,v1,v2,v3,v4],_ =>
  have g0:=hf 0 _ rfl;have g1:=hf 1 _ rfl;have g2:=hf 2 _ rfl;have g3:=hf 3 _ rfl;have g4:=hf 4 _ rfl;simp only [List.getElem?_cons_zero,List.getElem?_cons_succ] at g0 g1 g2 g3 g4;obtain ⟨s0,e0,z0,_⟩:=DataW.trod_string Tryz.underlying9 g0;obtain ⟨b1,e1,z1⟩:=DataW.trod_bool Tryz.underlying4 g1;obtain ⟨b2,e2,z2⟩:=DataW.trod_bool Tryz.underlying4 g2;obtain ⟨b3,e3,z3⟩:=DataW.trod_bool Tryz.underlying4 g3;obtain ⟨b4,e4,z4⟩:=DataW.trod_bool Tryz.underlying4 g4;subst z0;subst z1;subst z2;subst z3;subst z4;injection hx with hd _;simp only [List.map_cons,List.map_nil,DataW.agg.injEq,List.cons.injEq,DataW.lit.injEq,Lit.string.injEq,Lit.bool.injEq,and_true] at hd;obtain ⟨rfl,rfl,rfl,rfl,rfl⟩:=hd;injection e0 with e0;injection e1 with e1;injection e2 with e2;injection e3 with e3;injection e4 with e4;rw [e0,e1,e2,e3,e4]
theorem shp_of_laid {W : World} (h : laidMet Tryz.prog [("qloom/circ.shapes", Rows.laid_qloom_circ_shapes)] W) : Shp W := by
 obtain ⟨ps,⟨g',t',cs,fuel,p,q,hg',ht',hvar,hd,_,_⟩,_⟩:=h
 obtain rfl := Option.some.inj ((show Tryz.prog.globalNamed "qloom/circ.shapes" = some 0 by kernel_rfl).symm.trans hg')
 obtain rfl:=Option.some.inj ((show (Tryz.prog.globals[0]?).map (·.type)=some 130 by kernel_rfl).symm.trans ht');obtain ⟨xs,m,_,hx,hl,hlen,hf⟩:=DataW.trod_array Tryz.underlying130 hd
 have hc:Tryz.prog.cellsOf 129=5:=by kernel_rfl
 rw [hc] at hf
 match xs,hlen with
 | [y0,y1,y2,y3,y4,y5,y6],_ =>
  injection hx with hx _;unfold Rows.laid_qloom_circ_shapes at hx;simp only [List.map_cons,List.map_nil,DataW.agg.injEq,List.cons.injEq,and_true] at hx;obtain ⟨_,x1,x2,x3,x4,x5,x6⟩:=hx;have key:∀ (k:Nat) (y:DataW Unit × List MemPlace) (s:List UInt8) (a b c d:Bool),k<7->[y0,y1,y2,y3,y4,y5,y6][k]?=some y->.agg [.lit (.string s),.lit (.bool a),.lit (.bool b),.lit (.bool c),.lit (.bool d)]=y.1 ->
    W.cell? ⟨0,k*5,none⟩=some (.string ⟨s.toArray⟩)/\W.cell? ⟨0,k*5+1,none⟩=some (.bool a)/\W.cell? ⟨0,k*5+2,none⟩=some (.bool b)/\W.cell? ⟨0,k*5+3,none⟩=some (.bool c)/\W.cell? ⟨0,k*5+4,none⟩=some (.bool d):=by
   intro k y s a b c d hk hy he;have h1:=hf k hk;rw [hy] at h1;obtain ⟨yd,yp⟩:=y;simp only at he;subst he;have h2:=shape_row h1
   have h3:∀ j,j<5->W.cell? ⟨0,k*5+j,none⟩=([.string ⟨s.toArray⟩,.bool a,.bool b,.bool c,.bool d]:List Value)[j]?:=by
    intro j hj;rw [World.var?_cell hg' hvar,<-h2,List.getElem?_take,if_pos hj,List.getElem?_drop,Array.getElem?_toList]
   exact ⟨h3 0 (by omega),h3 1 (by omega),h3 2 (by omega),h3 3 (by omega),h3 4 (by omega)⟩
  intro k h1 h6
  have hk:k=1\/k=2\/k=3\/k=4\/k=5\/k=6:=by omega
  rcases hk with rfl | rfl | rfl | rfl | rfl | rfl
  ·exact key 1 y1 _ _ _ _ _ (by omega) rfl x1
  ·exact key 2 y2 _ _ _ _ _ (by omega) rfl x2
  ·exact key 3 y3 _ _ _ _ _ (by omega) rfl x3
  ·exact key 4 y4 _ _ _ _ _ (by omega) rfl x4
  ·exact key 5 y5 _ _ _ _ _ (by omega) rfl x5
  ·exact key 6 y6 _ _ _ _ _ (by omega) rfl x6
theorem post_kept {H:Type} {enc:TypeId × Value->H} {P:Program} {f:Func} {s:ChangeSpec} {apart fresh handsOn again:Bool} {W W':World} {args:Array Value} {v:Value} {ds gs:List (DataW H)} {ps:List MemPlace}
  (hW:DataW.Whole enc P f.params.toList s.vars apart W args.toList ds gs ps)
  (hres:∀ (b:Nat) (sp:Nat->Bool) (hd:Bool),DataW.TrodAll enc P W' b sp hd f.resultTypes.toList (v.resultList f.resultTypes.size) (s.fn H (ds++gs)).results [])
  (hargs:∀ sp:Nat->Bool,(∀ x ∈ ps,sp x.block=true)->DataW.TrodAll enc P W' 0 sp true f.params.toList args.toList (s.fn H (ds++gs)).args ps)
  (hvars:∀ sp:Nat->Bool,DataW.TrodVars enc P W' sp s.vars (s.fn H (ds++gs)).vars [])
  (hb:Ext W W')
  (hok:∀ (j:Nat) (t:TypeId) (r:Value),f.resultTypes[j]?=some t->(v.resultList f.resultTypes.size)[j]?=some r->Value.okWide P W' .any 0 t r) :
  s.post enc P f apart fresh handsOn again W args v W':=by
 have hlt:=hW.lt
 have hold:∀ x ∈ ps,decide (x.block<W.heap.size)=true:=fun x hx=>by simpa using hlt x hx
 have hall:∀ x ∈ ps,(fun _:Nat=>true) x.block=true:=fun _ _=>rfl
 have hn:W.noneFrozen ps/\(apart=true->ps.Nodup):=by
  obtain ⟨_,_,_,_,rfl,h1,h2⟩:=hW;exact ⟨h1,h2⟩
 refine ⟨ds,gs,ps,[],ps,[],hW,hres _ _ _,hargs _ hold,hvars _,Below.frame hb _,fun _=>?_⟩;refine ⟨hok,_,_,([]++ps)++[],⟨[]++ps,[],trodAll_append (hargs (fun _=>true) hall) (hres _ _ _),hvars _,rfl,?_,?_⟩,?_⟩
 ·intro b off hp
  have hp':MemPlace.cell b off ∈ ps:=by simpa using hp
  rw [Below.frozen hb (p:=⟨b,off,none⟩) (hlt _ hp')];exact hn.1 b off hp'
 ·intro ha
  simpa using hn.2 ha
 ·intro x hx _
  simpa using hx
end Go.Proofs.YtfjnlopbmkimiaaGreatDoor
