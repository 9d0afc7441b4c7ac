/-
  A slice of bytes that grows: its block is its own and holds bytes alone; appending to it turns no word. The program: a Pauli without a sign as it is written (Text). The program: the closures of Decode and Distance; a Pauli's weight. The program: how many errors are not mended, by their weight.
-/
import Derived.Lib.AppendStr
import Derived.Test.YtjfomkoedgipjaaGreatDoorS15Wd
namespace Go.Proofs.YtjfomkoedgipjaaGreatDoor
set_option maxRecDepth 100000
set_option maxHeartbeats 8000000
open Go.RowKit
def byC (l:List UInt8):List Value:=l.map fun b=>Value.int .u8 (b.toNat:Int)
theorem byC_length (l:List UInt8):(byC l).length=l.length:=by simp [byC]
theorem byC_append (l m:List UInt8):byC (l++m)=byC l++byC m:=by simp [byC]
theorem byC_one (l:List UInt8):∀ u ∈ byC l,u.oneCell'=true:=by
 intro u hu;simp only [byC,yU] at hu;obtain ⟨b,_,rfl⟩:=hu
 rfl
theorem byC_u8 (l:List UInt8):∀ u ∈ byC l,∃ x:Int,u=.int .u8 x:=by
 intro u hu;simp only [byC,yU] at hu;obtain ⟨b,_,rfl⟩:=hu;exact ⟨_,rfl⟩
theorem strCells_byC (l:List UInt8):Lib.strCells ⟨l.toArray⟩=byC l:=by simp [Lib.strCells,byC]
def Own (w:World) (e:TypeId) (v:Value) (l:List UInt8):Prop :=
 (v=.slice none 0 0/\l=[]) \/
 ∃ g cap cur,v=.slice (some ⟨g,0,none⟩) l.length cap/\w.heap[g]?=some (.cells cur e (0,0))/\l.length<=cap/\cap<=maxLen/\cur.size=cap/\cur.toList.take l.length=byC l/\∀ u ∈ cur.toList,∃ x:Int,u=.int .u8 x
theorem Own.nil (w:World) (e:TypeId):Own w e (.slice none 0 0) []:=qM ⟨rfl,rfl⟩
structure Apd (w w':World) (v v':Value):Prop where
 grown:w.grownBy w' v.ownBlock
 lies:v'.ownBlock=v.ownBlock\/∃ g,v'.ownBlock=some g/\w.heap.size<=g
theorem Apd.of_ext {w w':World} (h:Ext w w') (v:Value):Apd w w' v v :=
 ⟨⟨h.os,h.tape,h.output,h.size,fun k hk _=>h.block k hk⟩,qM rfl⟩
theorem Apd.refl (w:World) (v:Value):Apd w w v v:=Apd.of_ext (Ext.refl w) v
theorem Apd.trans {a b c:World} {u v x:Value} (h:Apd a b u v) (k:Apd b c v x):Apd a c u x:=by
 refine ⟨⟨k.grown.os.trans h.grown.os,k.grown.tape.trans h.grown.tape,k.grown.output.trans h.grown.output,qL h.grown.size k.grown.size,fun i hi hne=>?_⟩,?_⟩
 ·rw [k.grown.block i (qK hi h.grown.size) ?_,h.grown.block i hi hne]
  rcases h.lies with e | ⟨g,e,hg⟩
  ·rw [e];exact hne
  ·rw [e];intro h2;injection h2 with h2;omega
 ·rcases k.lies with e | ⟨g,e,hg⟩
  ·rw [e];exact h.lies
  ·exact qO ⟨g,e,qL h.grown.size hg⟩
theorem Apd.ext {w w':World} {v':Value} (h:Apd w w' (.slice none 0 0) v'):Ext w w' :=
 ⟨h.grown.os,h.grown.tape,h.grown.output,h.grown.size,fun k hk=>h.grown.block k hk (by simp [Value.ownBlock])⟩
theorem Own.ext {w w':World} {e:TypeId} {v:Value} {l:List UInt8} (h:Own w e v l) (k:Ext w w'):Own w' e v l:=by
 rcases h with h | ⟨g,cap,cur,rfl,hb,rest⟩
 ·exact qM h
 ·exact qO ⟨g,cap,cur,rfl,(k.block g (gS.1 hb).1).trans hb,rest⟩
theorem Own.apart {w:World} {e:TypeId} {v:Value} {l:List UInt8} (h:Own w e v l) {b o:Nat} {u:Value} (hc:w.cell? ⟨b,o,none⟩=some u) (hu:∀ x,u≠.int .u8 x):some b≠v.ownBlock:=by
 intro hb
 rcases h with ⟨rfl,_⟩ | ⟨g,cap,cur,rfl,hg,_,_,_,_,hall⟩
 ·simp [Value.ownBlock] at hb
 ·simp only [Value.ownBlock,yX] at hb
  subst hb;rw [qD w b o cur e (0,0) hg] at hc;obtain ⟨x,hx⟩:=hall u (jL (by rw [Array.getElem?_toList];exact hc));exact hu x hx
theorem Apd.cell {w w':World} {e:TypeId} {v v':Value} {l:List UInt8} (k:Apd w w' v v') (h:Own w e v l) {b o:Nat} {u:Value} (hc:w.cell? ⟨b,o,none⟩=some u) (hu:∀ x,u≠.int .u8 x):w'.cell? ⟨b,o,none⟩=some u :=
 k.grown.cell hc (h.apart hc hu)
theorem Seg.apd {w w':World} {e:TypeId} {v v':Value} {l:List UInt8} {ao:Option Addr} {la:List Nat} (h:Seg w ao la) (ho:Own w e v l) (k:Apd w w' v v'):Seg w' ao la:=by
 rcases h with h | ⟨b,o,rfl,hb,hc⟩
 ·exact qM h
 ·exact qO ⟨b,o,rfl,qK hb k.grown.size,fun t ht=>k.cell ho (hc t ht) (fun x hx=>by cases hx)⟩
theorem tab_ext {P:Program} {w w':World} {name:String} {k:IntKind} {zs:List Int} (h:Lib.TabIs P w name k zs) (he:Ext w w'):Lib.TabIs P w' name k zs:=by
 unfold Lib.TabIs World.var? at *
 cases hg:P.globalNamed name with
 | none=>simp [hg] at h
 | some g =>
  simp only [hg,Option.bind_some] at h ⊢
  have hlt:g<w.heap.size:=by
   rcases Nat.lt_or_ge g w.heap.size with h' | h'
   ·exact h'
   ·rw [Array.getElem?_eq_none h'] at h;simp at h
  rw [he.block g hlt];exact h
theorem tab_apd {P:Program} {w w':World} {name:String} {zs:List Int} {e:TypeId} {v v':Value} {l:List UInt8} (h:Lib.TabIs P w name .u64 zs) (hz:zs≠[]) (ho:Own w e v l) (k:Apd w w' v v'):Lib.TabIs P w' name .u64 zs:=by
 unfold Lib.TabIs World.var? at *
 cases hg:P.globalNamed name with
 | none=>simp [hg] at h
 | some g =>
  simp only [hg,Option.bind_some] at h ⊢
  cases hw:w.heap[g]? with
  | none=>rw [hw] at h;simp at h
  | some ob =>
   have hlt:g<w.heap.size:=(gS.1 hw).1
   cases ob with
   | cells cs t fz =>
    rw [hw] at h;simp only [yX] at h
    have hne:some g≠v.ownBlock:=by
     cases zs with
     | nil=>exact absurd rfl hz
     | cons z r =>
      have hc:w.cell? ⟨g,0,none⟩=some (.int .u64 z):=by
       rw [qD w g 0 cs t fz hw,h];simp
      exact ho.apart hc (fun x hx=>by cases hx)
    rw [k.grown.block g hlt hne,hw]
    simp [h]
   | _=>rw [hw] at h;simp at h
theorem zero_u8 (n:Nat):∀ u ∈ (Builtin.zeroCells (Value.int .u8 0).cells n).toList,∃ x:Int,u=.int .u8 x:=by
 intro u hu
 simp [Builtin.zeroCells,Value.cells,Nat.mod_one] at hu
 exact ⟨0,hu.2.symm⟩
theorem own_new (w:World) (e:TypeId) (l m:List UInt8) (old:Nat) (v:Value) (hb:l.length+m.length<=140737488355328) :
  Own (w.drew.alloc (.cells ((byC l).toArray++(byC m).toArray++Builtin.zeroCells (Value.int .u8 0).cells (grownCap w (l.length+m.length) old e-(l.length+m.length))) e)) e
    (.slice (some ⟨w.heap.size,0,none⟩) (l.length+m.length) (grownCap w (l.length+m.length) old e)) (l++m) /\
   Apd w (w.drew.alloc (.cells ((byC l).toArray++(byC m).toArray++Builtin.zeroCells (Value.int .u8 0).cells (grownCap w (l.length+m.length) old e-(l.length+m.length))) e)) v
    (.slice (some ⟨w.heap.size,0,none⟩) (l.length+m.length) (grownCap w (l.length+m.length) old e)):=by
 have hge:=grownCap_ge w (l.length+m.length) old e;have hcm:grownCap w (l.length+m.length) old e<=maxLen:=grownCap_le_maxLen w _ old e (by unfold maxLen;omega);refine ⟨qO ⟨w.heap.size,_,_,by rw [qT],qW w.drew _,by rw [qT];exact hge,hcm,?_,?_,?_⟩,⟨⟨rfl,rfl,rfl,by simp,fun k hk _=>Below.heap_alloc w.drew _ k hk⟩,qO ⟨_,rfl,qZ _⟩⟩⟩
 ·have hz1:(Value.int IntKind.u8 0).cells.size=1:=rfl
  simp only [Array.size_append,List.size_toArray,size_zeroCells,hz1,byC_length];omega
 ·simp only [Array.toList_append]
  rw [byC_append,<-qT,<-byC_length (l++m),byC_append];exact List.take_left
 ·intro u hu
  simp only [Array.toList_append,jI] at hu
  rcases hu with (hu | hu) | hu
  ·exact byC_u8 l u hu
  ·exact byC_u8 m u hu
  ·exact zero_u8 _ u hu
theorem own_room (w:World) (e:TypeId) (l m:List UInt8) (g cap:Nat) (cur:Array Value) (hg:w.heap[g]?=some (.cells cur e (0,0))) (hcm:cap<=maxLen) (hcs:cur.size=cap) (ht:cur.toList.take l.length=byC l) (hall:∀ u ∈ cur.toList,∃ x:Int,u=.int .u8 x) (hroom:l.length+m.length<=cap) :
  Own (w.setRow g (cur.toList.take l.length++byC m++cur.toList.drop (l.length+m.length)).toArray) e (.slice (some ⟨g,0,none⟩) (l.length+m.length) cap) (l++m) /\
   Apd w (w.setRow g (cur.toList.take l.length++byC m++cur.toList.drop (l.length+m.length)).toArray) (.slice (some ⟨g,0,none⟩) l.length cap) (.slice (some ⟨g,0,none⟩) (l.length+m.length) cap):=by
 refine ⟨qO ⟨g,cap,_,by rw [qT],setRow_heap w g cur _ e _ hg,by rw [qT];exact hroom,hcm,?_,?_,?_⟩,⟨⟨rfl,rfl,rfl,by simp,fun k _ hk=>setRow_other w g k _ (fun h=>hk (by simp [Value.ownBlock,h]))⟩,qM rfl⟩⟩
 ·simp only [List.size_toArray,qT,qC,qF,Array.length_toList,byC_length]
  omega
 ·rw [ht,byC_append,<-byC_length (l++m),byC_append]
  exact List.take_left
 ·intro u hu
  simp only [jI] at hu
  rcases hu with (hu | hu) | hu
  ·exact hall u (List.mem_of_mem_take hu)
  ·exact byC_u8 m u hu
  ·exact hall u (List.mem_of_mem_drop hu)
section
variable {P:Program} (w:World)
theorem Own.holds {e:TypeId} {g:Nat} {l:List UInt8} {cur:Array Value} (hg:w.heap[g]?=some (.cells cur e (0,0))) (ht:cur.toList.take l.length=byC l):∀ j u,(byC l)[j]?=some u->w.cell? ((⟨g,0,none⟩:Addr).add j)=some u:=by
 intro j u hu
 have hadd:(⟨g,0,none⟩:Addr).add j=⟨g,j,none⟩:=by unfold Addr.add;split<;>simp_all
 rw [hadd,qD w g j cur e (0,0) hg];rw [<-ht,jC] at hu
 split at hu
 ·simpa using hu
 ·cases hu
theorem run_append_bytes (t ty e:TypeId) (i:TypeInfo) (ht:P.underlying t=some (.slice e)) (hi:P.info? e=some i) (hz:i.zero=some (.int .u8 0)) (hsize:i.size=1) (hby:i.bytes=1)
  (v:Value) (l:List UInt8) (hown:Own w e v l) (a:Addr) (m c:Nat) (news:List UInt8) (hm:news.length=m) (hm0:0<m) (hnews:∀ j u,(byC news)[j]?=some u->w.cell? (a.add j)=some u) (hb:l.length+news.length<=140737488355328) :
  ∃ v' w',(Builtin.append_ #[t,t] ty #[v,.slice (some a) m c]).run P w=.ok v' w'/\Own w' e v' (l++news)/\Apd w w' v v':=by
 subst hm
 have hl:(byC news).length=news.length*i.size:=by rw [byC_length,hsize,Nat.mul_one]
 rcases hown with ⟨rfl,rfl⟩ | ⟨g,cap,cur,rfl,hg,hlc,hcm,hcs,htk,hall⟩
 ·have hr:=run_append_nil (P:=P) w t ty e i (.int .u8 0) ht hi hz a news.length c (byC news) hl hnews hm0 (by simp at hb;omega) (by rw [hby];simp at hb;omega)
  have hn:=own_new w e [] news 0 (.slice none 0 0) hb;simp only [List.length_nil,jH,List.nil_append,byC,yI,Array.empty_append] at hn hr ⊢;exact ⟨_,_,hr,hn.1,hn.2⟩
 ·by_cases hroom:l.length+news.length<=cap
  ·have hr:=run_append_room (P:=P) w t ty e i ht hi g l.length cap cur hg a news.length c (byC news) hl hnews (byC_one news) hroom (by rw [hsize,byC_length,hcs,Nat.mul_one];exact hroom)
   rw [hsize,Nat.mul_one,byC_length] at hr;have hn:=own_room w e l news g cap cur hg hcm hcs htk hall hroom;exact ⟨_,_,hr,hn.1,hn.2⟩
  ·have hr:=run_append_grow (P:=P) w t ty e i (.int .u8 0) ht hi hz ⟨g,0,none⟩ l.length cap (byC l) (by rw [byC_length,hsize,Nat.mul_one]) (Own.holds w hg htk) a news.length c (byC news) hl hnews (by omega) (by omega) (by rw [hby];exact growslice_fits (by omega) (by omega))
   have hn:=own_new w e l news cap (.slice (some ⟨g,0,none⟩) l.length cap) hb;exact ⟨_,_,hr,hn.1,hn.2⟩
theorem run_append_text (t u ty e:TypeId) (i:TypeInfo) (ht:P.underlying t=some (.slice e)) (hu:P.underlying u=some .string) (hi:P.info? e=some i) (hz:i.zero=some (.int .u8 0)) (hsize:i.size=1) (hby:i.bytes=1)
  (v:Value) (l:List UInt8) (hown:Own w e v l) (news:List UInt8) (hm0:0<news.length) (hb:l.length+news.length<=140737488355328) :
  ∃ v' w',(Builtin.append_ #[t,u] ty #[v,.string ⟨news.toArray⟩]).run P w=.ok v' w'/\Own w' e v' (l++news)/\Apd w w' v v':=by
 have hs:(⟨news.toArray⟩:ByteArray).size=news.length:=by simp [ByteArray.size]
 have hsc:=strCells_byC news
 rcases hown with ⟨rfl,rfl⟩ | ⟨g,cap,cur,rfl,hg,hlc,hcm,hcs,htk,hall⟩
 ·have hr:=run_append_nil_string (P:=P) w t u ty e i (.int .u8 0) ht hu hi hz ⟨news.toArray⟩ (by rw [hs];exact hm0) (by rw [hs];simp at hb;omega) (by rw [hs,hby];simp at hb;omega)
  have hn:=own_new w e [] news 0 (.slice none 0 0) hb
  have e1:((⟨news.toArray⟩:ByteArray).data.map fun b=>Value.int .u8 b.toNat)=(byC news).toArray:=by
   apply Array.ext'
   simp [byC]
  rw [hs,e1] at hr;simp only [List.length_nil,jH,List.nil_append,byC,yI,Array.empty_append] at hn hr ⊢;exact ⟨_,_,hr,hn.1,hn.2⟩
 ·by_cases hroom:l.length+news.length<=cap
  ·have hr:=Lib.run_append_room_string (P:=P) w t u ty e i ht hu hi hsize g l.length cap cur hg ⟨news.toArray⟩ (by rw [hs];exact hroom) (by rw [hs,hcs];exact hroom)
   rw [hs,hsc] at hr;have hn:=own_room w e l news g cap cur hg hcm hcs htk hall hroom;exact ⟨_,_,hr,hn.1,hn.2⟩
  ·have hr:=Lib.run_append_grow_string (P:=P) w t u ty e i (.int .u8 0) ht hu hi hz ⟨g,0,none⟩ l.length cap (byC l) (by rw [byC_length,hsize,Nat.mul_one]) (Own.holds w hg htk) ⟨news.toArray⟩ (by rw [hs];omega) (by rw [hs];omega) (by rw [hs,hby];exact growslice_fits (by omega) (by omega))
   rw [hs,hsc] at hr;have hn:=own_new w e l news cap (.slice (some ⟨g,0,none⟩) l.length cap) hb;exact ⟨_,_,hr,hn.1,hn.2⟩
theorem wpList_append_bytes {ops:Array Oper} {rest:List Oper} {o:Oper} {a:Act} {Q:Exit->Act->World->Prop} (hgd:o.guard=none) (s x:Operand) (t:TypeId)
  (ho:o.op=.call { callee:=.builtin .append,args:=#[s,x],argTypes:=#[t,t] })
  (e:TypeId) (i:TypeInfo) (ht:P.underlying t=some (.slice e)) (hi:P.info? e=some i) (hz:i.zero=some (.int .u8 0)) (hsize:i.size=1) (hby:i.bytes=1)
  (v:Value) (l:List UInt8) (hs:a.eval s=v) (hown:Own w e v l) (ad:Addr) (m c:Nat) (news:List UInt8) (hx:a.eval x=.slice (some ad) m c) (hm:news.length=m) (hm0:0<m) (hnews:∀ j u,(byC news)[j]?=some u->w.cell? (ad.add j)=some u) (hb:l.length+news.length<=140737488355328)
  (h:∀ v' w',Own w' e v' (l++news)->Apd w w' v v'->wpList P ops Q rest (a.put o.dst v') w'):wpList P ops Q (o :: rest) a w:=by
 refine wpList_plain hgd fun _ hK=>?_
 obtain ⟨v',w',hr,h2,h3⟩:=run_append_bytes (P:=P) w t o.type e i ht hi hz hsize hby v l hown ad m c news hm hm0 hnews hb;unfold Oper.wp execOp;simp only [ho,resolve,invoke,builtin,Sem.run_bind,Sem.run_pure,Result.andThen_ok,List.map_toArray,yW,yI,hs,hx,hr];exact hK _ _ (h v' w' h2 h3)
theorem wpList_append_text {ops:Array Oper} {rest:List Oper} {o:Oper} {a:Act} {Q:Exit->Act->World->Prop} (hgd:o.guard=none) (s x:Operand) (t u:TypeId)
  (ho:o.op=.call { callee:=.builtin .append,args:=#[s,x],argTypes:=#[t,u] })
  (e:TypeId) (i:TypeInfo) (ht:P.underlying t=some (.slice e)) (hu:P.underlying u=some .string) (hi:P.info? e=some i) (hz:i.zero=some (.int .u8 0)) (hsize:i.size=1) (hby:i.bytes=1)
  (v:Value) (l:List UInt8) (hs:a.eval s=v) (hown:Own w e v l) (news:List UInt8) (hx:a.eval x=.string ⟨news.toArray⟩) (hm0:0<news.length) (hb:l.length+news.length<=140737488355328)
  (h:∀ v' w',Own w' e v' (l++news)->Apd w w' v v'->wpList P ops Q rest (a.put o.dst v') w'):wpList P ops Q (o :: rest) a w:=by
 refine wpList_plain hgd fun _ hK=>?_
 obtain ⟨v',w',hr,h2,h3⟩:=run_append_text (P:=P) w t u o.type e i ht hu hi hz hsize hby v l hown news hm0 hb;unfold Oper.wp execOp;simp only [ho,resolve,invoke,builtin,Sem.run_bind,Sem.run_pure,Result.andThen_ok,List.map_toArray,yW,yI,hs,hx,hr];exact hK _ _ (h v' w' h2 h3)
end
def lt4 (k:Nat):UInt8:=if k=0 then 73 else if k=1 then 88 else if k=2 then 90 else 89
def ltK (p:PK) (q:Nat):Nat:=p.x / 2 ^ q % 2+p.z / 2 ^ q % 2*2
def txL (p:PK) (n:Nat):List UInt8:=(List.range n).map fun q=>lt4 (ltK p q)
theorem txL_snoc (p:PK) (n:Nat):txL p (n+1)=txL p n++[lt4 (ltK p n)]:=by unfold txL;rw [List.range_succ,yJ];rfl
theorem txL_len (p:PK) (n:Nat):(txL p n).length=n:=by simp [txL]
theorem run_convert_ownC {w:World} {v:Value} {l:List UInt8} (h:Own w 5 v l) (hl:l≠[]):(convert 126 9 v).run Tryz.prog w=.ok (.string ⟨l.toArray⟩) w:=by
 rcases h with ⟨_,rfl⟩ | ⟨g,cap,cur,rfl,hg,hlc,hcm,hcs,htk,hall⟩
 ·exact absurd rfl hl
 ·refine run_convert_bytes_back (P:=Tryz.prog) w 126 9 5 ⟨g,0,none⟩ cap l Tryz.underlying126 Tryz.underlying5 Tryz.underlying9 (fun j hj=>?_)
  have ha:(⟨g,0,none⟩:Addr).add j=⟨g,j,none⟩:=by
   unfold Addr.add
   by_cases h:j=0<;>simp [h]
  rw [ha,qD w g j cur _ (0,0) hg]
  have h1:(byC l)[j]?=some (Value.int .u8 (l[j].toNat:Int)):=by simp [byC,hj]
  rw [<-htk,jC,qU hj,Array.getElem?_toList] at h1;exact h1
theorem own_oneB (w:World) (b:UInt8):Own (w.alloc (.cells #[.int .u8 (b.toNat:Int)] 5)) 5 (.slice (some ⟨w.heap.size,0,none⟩) 1 1) [b] :=
 qO ⟨w.heap.size,1,_,rfl,qW w _,qZ _,by unfold maxLen;decide,rfl,rfl,fun u hu=>by
  have:u=.int .u8 (b.toNat:Int):=by simpa using hu
  exact ⟨_,this⟩⟩
theorem b_infoC:(Tryz.prog.info? 5).map (fun i=>(i.zero,i.size,i.bytes))=some (some (.int .u8 0),1,1):=by kernel_rfl
theorem let4_idx (k:Nat) (hk:k<4) (w:World):(Instr.index 9 (.string ⟨#[73,88,90,89]⟩) (.int .u16 (k:Int))).run Tryz.prog w=.ok (.int .u8 ((lt4 k).toNat:Int)) w:=by
 have i0:∀ w,(Instr.index 9 (.string ⟨#[73,88,90,89]⟩) (.int .u16 0)).run Tryz.prog w=.ok (.int .u8 73) w:=fun _=>by kernel_rfl
 have i1:∀ w,(Instr.index 9 (.string ⟨#[73,88,90,89]⟩) (.int .u16 1)).run Tryz.prog w=.ok (.int .u8 88) w:=fun _=>by kernel_rfl
 have i2:∀ w,(Instr.index 9 (.string ⟨#[73,88,90,89]⟩) (.int .u16 2)).run Tryz.prog w=.ok (.int .u8 90) w:=fun _=>by kernel_rfl
 have i3:∀ w,(Instr.index 9 (.string ⟨#[73,88,90,89]⟩) (.int .u16 3)).run Tryz.prog w=.ok (.int .u8 89) w:=fun _=>by kernel_rfl
 have h:k=0\/k=1\/k=2\/k=3:=by omega
 rcases h with rfl | rfl | rfl | rfl
 ·exact i0 w
 ·exact i1 w
 ·exact i2 w
 ·exact i3 w
theorem stepB_append_run {ops:Array Oper} {o:Oper} {a:Act} {K:Act->World->Prop} {Q:Exit->Act->World->Prop} {E:Prop} {w w':World} (hgd:o.guard=none) (s x:Operand)
  (ho:o.op=.call { callee:=.builtin .append,args:=#[s,x],argTypes:=#[126,126] }) (ht:o.type=126) (v1 v2 r:Value) (hs:a.eval s=v1) (hx:a.eval x=v2)
  (hap:(Builtin.append_ #[126,126] 126 #[v1,v2]).run Tryz.prog w=.ok r w') (h:K (a.put o.dst r) w') :
  if Region.wanted o (yielded ops a.tmps)=true then Oper.wp Tryz.prog o a w K Q else E:=by
 have hw:Region.wanted o (yielded ops a.tmps)=true:=by simp [Region.wanted,hgd]
 rw [qU hw];unfold Oper.wp execOp;simp only [ho,ht,resolve,invoke,builtin,Sem.run_bind,Sem.run_pure,Result.andThen_ok,List.map_toArray,yW,yI,hs,hx,hap];exact h
theorem ext_grownC {w U W:World} {k:Nat} (h:Ext w U) (hg:U.grownBy W (some k)) (hk:w.heap.size<=k):Ext w W :=
 ⟨hg.os.trans h.os,hg.tape.trans h.tape,hg.output.trans h.output,qL h.size hg.size,fun i hi=>(hg.block i (qK hi h.size) (fun e=>by cases e;omega)).trans (h.block i hi)⟩
theorem or_two {a b:Nat} (ha:a<=1) (hb:b<=1):a ||| (b*2)=a+b*2:=by
 have h1:a=0\/a=1:=by omega
 have h2:b=0\/b=1:=by omega
 rcases h1 with rfl | rfl<;>rcases h2 with rfl | rfl<;>rfl
theorem pText_any (p:PK) (hm:p.m=false) (n:Nat) (hn:n<=12) (w:World) :
  Calls Tryz.prog 78 #[pvK p,.int .i64 (n:Int)] w fun e w'=>e=.returned (.string ⟨(43 :: txL p n).toArray⟩)/\Ext w w':=by
 obtain ⟨i0,hi0,hz0,hz1,hz2⟩:=info_parts b_infoC;unfold pvK;rw [hm];obtain ⟨H,hH⟩:∃ H,w.heap.size=H:=⟨_,rfl⟩;obtain ⟨U,hU⟩:∃ U,(w.alloc (.cells #[.int .u16 (p.x:Int),.int .u16 (p.z:Int),.bool false] 94))=U:=⟨_,rfl⟩;obtain ⟨W0,hW0⟩:∃ W0,U.alloc (.cells #[.int .u8 43] 5)=W0:=⟨_,rfl⟩
 have E0:Ext w W0:=by rw [<-hW0,<-hU];exact (ext_al w _).trans (ext_al _ _)
 have sU:U.heap.size=H+1:=by rw [<-hU,<-hH];simp
 have P0:PuB W0 H p.x p.z false:=by rw [<-hW0,<-hU,<-hH];exact (PuB.new _ _ _ _).ext (ext_al _ _)
 have O0:Own W0 5 (.slice (some ⟨H+1,0,none⟩) 1 1) [43]:=by rw [<-hW0,<-sU];exact own_oneB U 43
 have HE0:=Lh E0;have HU:=Lh hU;have HW0:=Lh hW0;have HH:=Lh hH;have HsU:=Lh sU;have HP:=Lh P0;have HO:=Lh O0;have Hn:=Lh hn;have HxH:=Lh (show w.heap.size<=H+1 by omega);have k2:=P0.x2;clear E0 P0 O0 hU hW0 hH sU hn hm
 go_enter Tryz.func78,Tryz.ntmps78
 go_upto_region 1 with fail
 rw [HU.out,HH.out]
 go_upto_region 2 with fail
 rw [HW0.out,HsU.out]
 go_wp2_with fail
 clear k2
 go_loopg [5,13] n (fun kk s5 s13 wr=>∃ i:Nat,s13=.int .i64 (i:Int)/\i<=n/\n-i=kk/\Own wr 5 s5 (43 :: txL p i)/\Apd W0 wr (.slice (some ⟨H+1,0,none⟩) 1 1) s5)
 case atStart=>exact ⟨0,rfl,qI _,rfl,HO.out,Apd.refl _ _⟩
 case round =>
  obtain ⟨i,rfl,hi,hkk,hO,hA⟩:=hrel;have Hkk:=Lh hkk;have HOi:=Lh hO;have HAi:=Lh hA
  by_cases hin:i=n
  ·have q1:¬ (i:Int)<(n:Int):=by omega
   subst hin;have hcv:=run_convert_ownC hO (by simp);clear hi hkk hO hA
   go_wp2_with fail
   go_ret
   have hg:=HAi.out.grown;refine ⟨rfl,ext_grownC HE0.out hg HxH.out⟩
  have hlt:i<n:=by omega
  have q1:(i:Int)<(n:Int):=by omega
  have q0:(0:Int)<=(i:Int):=by omega
  have wk:IntKind.i64.wrap ((i:Int)+1)=((i+1:Nat):Int):=by rw [qH];have:=Hn.out;omega
  have hcast:((2 ^ i:Nat):Int)=(2:Int) ^ i:=by rw [Int.natCast_pow];rfl
  have hmin:min i 16=i:=by have:=Hn.out;omega
  obtain ⟨dx,hdx⟩:∃ d,p.x / 2 ^ i=d:=⟨_,rfl⟩;obtain ⟨dz,hdz⟩:∃ d,p.z / 2 ^ i=d:=⟨_,rfl⟩
  have bx:dx<65536:=by rw [<-hdx];exact yQ (Nat.div_le_self _ _) p.hx
  have bz:dz<65536:=by rw [<-hdz];exact yQ (Nat.div_le_self _ _) p.hz
  have r1:(p.x:Int) / 2 ^ i=(dx:Int):=by rw [<-hcast,<-Int.natCast_ediv,hdx]
  have r1':(p.x:Int) / 2 ^ min i 16=(dx:Int):=by rw [hmin];exact r1
  have s1:(p.z:Int) / 2 ^ i=(dz:Int):=by rw [<-hcast,<-Int.natCast_ediv,hdz]
  have s1':(p.z:Int) / 2 ^ min i 16=(dz:Int):=by rw [hmin];exact s1
  have r2:=and1_u16 bx;have s2:=and1_u16 bz;obtain ⟨ex,hex⟩:∃ e,dx % 2=e:=⟨_,rfl⟩;obtain ⟨ez,hez⟩:∃ e,dz % 2=e:=⟨_,rfl⟩;rw [hex] at r2;rw [hez] at s2
  have s3:IntKind.u16.wrap ((ez:Int)*2)=((ez*2:Nat):Int):=by rw [show (ez:Int)*2=((ez*2:Nat):Int) by omega];exact wrapu (by omega)
  obtain ⟨e2,he2⟩:∃ e,ez*2=e:=⟨_,rfl⟩;rw [he2] at s3;obtain ⟨k,hk⟩:∃ k,ex+e2=k:=⟨_,rfl⟩
  have r4:bits .or .u16 (ex:Int) (e2:Int)=(k:Int):=by rw [or_u16 (by omega) (by omega),<-he2,or_two (by omega) (by omega),he2,hk]
  have hk4:k<4:=by omega
  have hidx:=let4_idx k hk4
  have hltk:ltK p i=k:=by unfold ltK;rw [hdx,hdz,hex,hez,he2,hk]
  obtain ⟨b,hb⟩:∃ b,lt4 k=b:=⟨_,rfl⟩;rw [hb] at hidx;have Hst:=Lh (show 43 :: txL p (i+1)=(43 :: txL p i)++[b] by rw [txL_snoc,hltk,hb];rfl);have Hlt:=Lh hlt;have hPw:PuB wr H p.x p.z false:=⟨(hA.grown.block H (HP.out.lt) (by simp [Value.ownBlock])).trans HP.out.row⟩;have c0:=hPw.x0;have c1:=hPw.x1;clear hi hkk hin hlt hcast hmin hdx hdz bx bz hex hez he2 hk hk4 hltk hb hPw hO hA
  go_upto_region 7 with fail
  obtain ⟨v',w',hap,hown',hapd⟩:=run_append_bytes (P:=Tryz.prog) ((wr.alloc (.cells #[.int .u8 (b.toNat:Int)] 5)).drew) 126 126 5 i0 Tryz.underlying126 hi0 hz0 hz1 hz2 _ (43 :: txL p i) (HOi.out.ext (qG (ext_al _ _))) ⟨wr.heap.size,0,none⟩ 1 1 [b] rfl (by decide) (fun j u hj=>by
   have hr:=((qG (Ext.refl _):Ext (wr.alloc (.cells #[.int .u8 (b.toNat:Int)] 5)) _).block wr.heap.size (by simp)).trans (qW _ _)
   cases j with
   | zero =>
    have:Value.int .u8 (b.toNat:Int)=u:=by simpa [byC] using hj
    rw [<-this]
    show World.cell? _ ⟨wr.heap.size,0,none⟩=_
    rw [qD _ _ 0 _ _ (0,0) hr];rfl
   | succ j=>simp [byC] at hj) (by simp only [jB,List.length_nil,txL_len];have:=Hn.out;have:=Hlt.out;omega)
  have Hnew:=Lh (jN hown' ((HAi.out.trans (Apd.of_ext (qG (ext_al _ _)) _)).trans hapd));have Hap:=Lh hap;clear hap hown' hapd
  go_region_law (refine stepB_append_run (by rfl) _ _ (by rfl) (by rfl) _ _ _ (by rfl) (by rfl) Hap.out ?_)
  all_goals
   clear Hap c0 c1 hidx r1 r1' s1 s1' r2 s2 s3 r4
   go_wp2_with fail
   go_roundg (n-(i+1))
   case measure=>have:=Hkk.out;have:=Hlt.out;omega
   case rel=>exact ⟨i+1,rfl,Hlt.out,rfl,by rw [Hst.out];exact Hnew.out.1,Hnew.out.2⟩
theorem or_le {x y:Nat} (hx:x<65536) (hy:y<65536):x ||| y<65536:=Nat.or_lt_two_pow (n:=16) hx hy
theorem Weight_any (p:PK) (w:World):Calls Tryz.prog 69 #[pvK p] w fun e w'=>e=.returned (.int .i64 ((pcF 16 (p.x ||| p.z):Nat):Int))/\Ext w w':=by
 have e1:=or_u16 p.hx p.hz;obtain ⟨Y,hY⟩:∃ Y,p.x ||| p.z=Y:=⟨_,rfl⟩
 have bY:Y<65536:=by rw [<-hY];exact or_le p.hx p.hz
 rw [hY] at e1 ⊢;have HO:=Lh (fun wx=>OnesCount16_any Y wx bY);obtain ⟨n,hn⟩:∃ n,pcF 16 Y=n:=⟨_,rfl⟩;rw [hn] at HO ⊢;clear hY hn bY;unfold pvK
 go_enter Tryz.func69,Tryz.ntmps69
 go_wp2_with fail
 refine (HO.out _).mono ?_;rintro e w1 ⟨rfl,h1⟩;have H1:=Lh h1;clear h1
 go_wp2_with fail
 go_ret
 exact ⟨rfl,(ext_al _ _).trans H1.out⟩
theorem decode1_any (p:PK) (l:List PK) (N:Int) (ao:Option Addr) (n c:Nat) (mp:Option Nat) (Bf Bw m:Nat) (w:World) (hl:PsAt w ao n l) (hn:n<=12) (hF:FrB w Bf N ao n c mp) (hw:w.cell? ⟨Bw,0,none⟩=some (.int .u16 (m:Int))) :
  Calls Tryz.prog 76 #[.agg #[.int .u16 (p.x:Int),.int .u16 (p.z:Int),.bool p.m],.pointer (some ⟨Bf,0,none⟩),.pointer (some ⟨Bw,0,none⟩)] w fun e w'=>e=.returned (.bool (shN l p == m))/\Ext w w':=by
 obtain ⟨s,hs⟩:∃ s,shN l p=s:=⟨_,rfl⟩;obtain ⟨B,hB⟩:∃ B,(s == m)=B:=⟨_,rfl⟩
 have hb:((s:Int) == (m:Int))=B:=by rw [<-hB,Bool.eq_iff_iff,yY,yY];omega
 have hb':decide ((s:Int)=(m:Int))=B:=by rw [<-hb];rfl
 rw [hs,hB];obtain ⟨H,hH⟩:∃ H,w.heap.size=H:=⟨_,rfl⟩;obtain ⟨U,hU⟩:∃ U,w.alloc (.cells #[.int .u16 (p.x:Int),.int .u16 (p.z:Int),.bool p.m] 94)=U:=⟨_,rfl⟩
 have EU:Ext w U:=by rw [<-hU];exact ext_al _ _
 have P0:PuB U H p.x p.z p.m:=by rw [<-hU,<-hH];exact PuB.new w _ _ _
 have HS:=Lh (fun (wx:World) (hx:Ext U wx)=>shown_any l p N ao n c mp wx ((hl.ext EU).ext hx) hn);rw [hs] at HS;have FU:=hF.ext EU;have k0:=FU.x0;have k1:=FU.x1;have k2:=FU.x2;have p0:=P0.x0;have p1:=P0.x1;have p2:=P0.x2;have m0:=cell_ext hw EU;have HEU:=Lh EU;have HU:=Lh hU;have HH:=Lh hH;have Hm:=Lh m0;have G_:Ext U U.drew:=qG (Ext.refl _);clear hl hF hw EU P0 FU hU hH hs hB
 go_enter Tryz.func76,Tryz.ntmps76
 go_upto_region 1 with fail
 rw [HU.out,HH.out];clear HU HH
 go_region_with (first
  | (go_at_call 68;refine (HS.out _ G_).mono ?_;rintro e w1 ⟨rfl,h1⟩;have m1:=cell_ext Hm.out (G_.trans h1);go_wp2_with fail))
 all_goals
  go_wp2_with fail
  go_ret
  exact ⟨rfl,HEU.out.trans (G_.trans h1)⟩
open Go.RowKit Go.Shelf
attribute [local go_sem] Oper.semAt_some
def icL (l:List Int):Array Value:=(l.map fun x=>Value.int .i64 x).toArray
theorem icL_at {l:List Int} {i:Nat} {z:Int} (h:l[i]?=some z):(icL l)[i]?=some (.int .i64 z):=by
 unfold icL;rw [List.getElem?_toArray,jM,h]
 rfl
theorem icL_set (l:List Int) (i:Nat) (z:Int):(icL l).setIfInBounds i (.int .i64 z)=icL (l.set i z):=by
 unfold icL;rw [List.setIfInBounds_toArray,List.map_set]
theorem ints_ic {w:World} {b:Nat} {l:List Int} {t:TypeId} (h:w.heap[b]?=some (.cells (icL l) t (0,0))):IntsAt w (some ⟨b,0,none⟩) l.length l:=by
 refine ⟨rfl,qO ⟨b,0,rfl,lt_rowC h,fun t' ht=>?_⟩⟩;rw [qD w b (0+t') _ _ (0,0) h,jH];exact icL_at (by rw [qQ,qX ht];rfl)
theorem wpList_make_U (w:World) {ops:Array Oper} {rest:List Oper} {o:Oper} {a:Act} {Q:Exit->Act->World->Prop}
  (hg:o.guard=none) (l c:Operand) (hop:o.op=Op.makeSlice 31 l c) (kl kc:IntKind) (L C:Int) (n:Nat) (hl:a.eval l=.int kl L) (hc:a.eval c=.int kc C) (hL:L=(n:Int)) (hC:C=(n:Int)) (b2:n<=1048576)
  (hK:∀ w',w'.heap[w.heap.size]?=some (.cells (icL (List.replicate n 0)) 3 (0,0))->Ext w w'->wpList Tryz.prog ops Q rest (a.put o.dst (.slice (some ⟨w.heap.size,0,none⟩) n n)) w') :
  wpList Tryz.prog ops Q (o :: rest) a w:=by
 obtain ⟨i0,hi,hz0,hz1,hz2⟩:=info_parts int_info;refine wpList_make_full w hg l c 31 hop w.heap.size 3 i0 (.int .i64 0) 1 yM hi hz0 hz1 kl kc L C n hl hc hL hC (by rw [hz2];omega) (by unfold maxLen;omega) (qZ _) ?_;intro w' hown hgrow
 have key:w'.heap[w.heap.size]?=some (.cells (icL (List.replicate n 0)) 3 (0,0)):=by
  obtain ⟨_,h | ⟨g,cap,cur,hv,_,hh,_,_,hsz,ht⟩⟩:=hown
  ·simp at h
  ·simp only [Value.slice.injEq,yX,Addr.mk.injEq,and_true,true_and] at hv
   obtain ⟨hg,rfl⟩:=hv;subst hg;rw [hh]
   congr 2
   apply Array.toList_inj.1
   have e1:cur.toList.take (n*1)=cur.toList:=qB (by rw [Array.length_toList,hsz];exact qZ _);rw [e1] at ht;rw [ht];unfold icL
   simp [Value.cells,toList_madeCells_one]
 exact hK w' key ((Below.refl _ _).grown hgrow (qZ _) (fun k h=>by cases h))
theorem stepK_storeU {ops:Array Oper} {o:Oper} {a:Act} {K:Act->World->Prop} {Q:Exit->Act->World->Prop} {E:Prop} {w:World} (hgd:o.guard=none) (hd:o.dst=none) (p x:Operand)
  (ho:o.op=.store 3 p x) (b off:Nat) (z:Int) (u:Value) (hp:a.eval p=.pointer (some ⟨b,off,none⟩)) (hx:a.eval x=.int .i64 z)
  (hcell:w.cell? ⟨b,off,none⟩=some u) (hfz:w.frozen? ⟨b,off,none⟩=false) (h:K a (w.setCell ⟨b,off,none⟩ (.int .i64 z))) :
  if Region.wanted o (yielded ops a.tmps)=true then Oper.wp Tryz.prog o a w K Q else E:=by
 have hw:Region.wanted o (yielded ops a.tmps)=true:=by simp [Region.wanted,hgd]
 rw [qU hw];obtain ⟨od,oo,ot,opp,oa,og⟩:=o;simp only at ho hd;subst ho hd;have HH:=Lh h;clear h;unfold Oper.wp execOp;simp only [hp,hx]
 go_simp
 exact HH.out
theorem row_putU {W:World} {g k:Nat} {cs cs':Array Value} {t:TypeId} {u:Value} (h:W.heap[g]?=some (.cells cs t (0,0))) (e:cs.setIfInBounds k u=cs'):(W.setCell ⟨g,k,none⟩ u).heap[g]?=some (.cells cs' t (0,0)):=by
 rw [setCell_eq_setRow W g k _ _ _ _ h,setRow_heap W g _ _ _ _ h,e]
def unK (keys:List (Nat × Nat)) (ps:List PK) (n:Nat) (p:PK):Bool:=!decide ((p.x ^^^ ((fsM ps (errP n) (shN ps p)).getD (PK.of 0 0)).x,p.z ^^^ ((fsM ps (errP n) (shN ps p)).getD (PK.of 0 0)).z) ∈ keys)
def cnK (keys:List (Nat × Nat)) (ps:List PK) (n:Nat) (pre:List PK) (w:Nat):Nat:=pre.countP fun p=>pcF 16 (p.x ||| p.z) == w && unK keys ps n p
def cnL (keys:List (Nat × Nat)) (ps:List PK) (n:Nat) (pre:List PK):List Int:=(List.range (n+1)).map fun i=>(cnK keys ps n pre i:Int)
theorem cnK_snoc (keys:List (Nat × Nat)) (ps:List PK) (n:Nat) (pre:List PK) (p:PK) (w:Nat):cnK keys ps n (pre++[p]) w=cnK keys ps n pre w+if (pcF 16 (p.x ||| p.z) == w && unK keys ps n p)=true then 1 else 0:=by
 unfold cnK;rw [List.countP_append,List.countP_cons,List.countP_nil,jH]
theorem cnK_le (keys:List (Nat × Nat)) (ps:List PK) (n:Nat) (pre:List PK) (w:Nat):cnK keys ps n pre w<=pre.length:=List.countP_le_length
theorem cnL_nil (keys:List (Nat × Nat)) (ps:List PK) (n:Nat):cnL keys ps n []=List.replicate (n+1) 0:=by
 unfold cnL cnK
 simp [List.map_const']
theorem cnL_at {keys:List (Nat × Nat)} {ps:List PK} {n:Nat} {pre:List PK} {w:Nat} (h:w<=n):(cnL keys ps n pre)[w]?=some (cnK keys ps n pre w:Int):=by
 unfold cnL;rw [jM,List.getElem?_range (by omega)]
 rfl
theorem cnL_len (keys:List (Nat × Nat)) (ps:List PK) (n:Nat) (pre:List PK):(cnL keys ps n pre).length=n+1:=by simp [cnL]
theorem cnL_skip {keys:List (Nat × Nat)} {ps:List PK} {n:Nat} {pre:List PK} {p:PK} (h:unK keys ps n p=false):cnL keys ps n (pre++[p])=cnL keys ps n pre:=by
 unfold cnL
 refine List.map_congr_left fun i _=>?_
 rw [cnK_snoc,h,Bool.and_false,qE (by decide)]
 rfl
theorem cnL_add {keys:List (Nat × Nat)} {ps:List PK} {n:Nat} {pre:List PK} {p:PK} {v:Nat} (h:unK keys ps n p=true) (hv:pcF 16 (p.x ||| p.z)=v):cnL keys ps n (pre++[p])=(cnL keys ps n pre).set v ((cnK keys ps n pre v+1:Nat):Int):=by
 apply List.ext_getElem?
 intro i
 by_cases hi:i<=n
 ·rw [cnL_at hi,List.getElem?_set,cnK_snoc,h,Bool.and_true,hv]
  by_cases e:v=i
  ·subst e
   rw [qU rfl,qU (by simp),qU (by rw [cnL_len];omega)]
  ·rw [qE e,cnL_at hi,qE (by simpa using e)]
   rfl
 ·rw [jT (by rw [cnL_len];omega),jT (by rw [jV,cnL_len];omega)]
theorem KpC.of_int {w:World} {b k:Nat} {cs:Array Value} {v:Value} (h:w.heap[b]?=some (.cells cs 3 (0,0))) (hne:(0:Nat)≠b):KpC w (w.setCell ⟨b,k,none⟩ v):=by
 have hs:(w.setCell ⟨b,k,none⟩ v).heap.size=w.heap.size:=by simp [World.setCell]
 refine ⟨by rw [hs];exact qZ _,fun i cs' t f ht hr=>?_,fun cs' t f hr=>?_⟩
 ·rw [Below.heap_setCell w ⟨b,k,none⟩ v i (fun e=>?_)]
  ·exact hr
  ·have e':i=b:=e
   subst e';rw [h] at hr;injection hr with hr;injection hr with _ hr _;subst hr;exact absurd ht (by decide)
 ·rw [Below.heap_setCell w ⟨b,k,none⟩ v _ hne];exact hr
def UnI (w0 w:World) (H M V S Bm:Nat) (n:Nat) (ao:Option Addr) (ng c:Nat) (mp:Option Nat) (keys:List (Nat × Nat)) (ps pre:List PK):Prop :=
 (FrB w H n ao ng c mp/\w.heap[M]?=some (.cells #[.map (some Bm)] 111 (0,0))/\w.heap[V]?=some (.cells #[.slice (some ⟨S,0,none⟩) (n+1) (n+1)] 31 (0,0))/\w.heap[S]?=some (.cells (icL (cnL keys ps n pre)) 3 (0,0))/\MdM w Bm ps (errP n))/\Below w0.heap.size w0 w
theorem unmended_any (n ng c Bg:Nat) (hn:n<=12) (hmx:(errP n).length<1000000) (hwt:∀ p ∈ errP n,pcF 16 (p.x ||| p.z)<=n) (ao:Option Addr) (keys:List (Nat × Nat)) (ps:List PK) (w:World) (hL:LtL w) (hps:PsAt w ao ng ps) (hng:ng<=12) (hG:GrpM w Bg keys) :
  Calls Tryz.prog 19 #[.agg #[.int .i64 (n:Int),.slice ao ng c,.map (some Bg)]] w fun e w'=>∃ S,e=.returned (.slice (some ⟨S,0,none⟩) (n+1) (n+1))/\IntsAt w' (some ⟨S,0,none⟩) (n+1) (cnL keys ps n (errP n))/\w.heap.size<=S/\Ext w w':=by
 refine (callsIn_wide (n:=5)).1 ?_;refine callsIn_of_wp_marks Tryz.func19 rfl trivial ?_ rfl;simp only [Tryz.ntmps19,List.size_toArray,jB,List.length_nil,Nat.reduceAdd,Nat.reduceSub,Array.replicate_succ,Array.replicate_zero,List.push_toArray,List.append_toArray,List.nil_append,List.cons_append];refine wpIn_wide.2 ?_;obtain ⟨mp,hmp⟩:∃ mp,some Bg=mp:=⟨_,rfl⟩;rw [hmp];obtain ⟨H,hH⟩:∃ H,w.heap.size=H:=⟨_,rfl⟩;obtain ⟨W0,hW0⟩:∃ W0,w.alloc (.cells #[.int .i64 (n:Int),.slice ao ng c,.map mp] 49)=W0:=⟨_,rfl⟩
 have E0:Ext w W0:=by rw [<-hW0];exact ext_al w _
 have R0:FrB W0 H n ao ng c mp:=by rw [<-hW0,<-hH];exact FrB.new _ _ _ _ _ _
 have HE0:=Lh E0;have HW0:=Lh hW0;have HH:=Lh hH;have HR:=Lh R0;have Hmp:=Lh hmp;have k0:=R0.x0;have k1:=R0.x1;have k2:=R0.x2;have HMd:=Lh (mends_any n ng c hn hmx ao mp ps W0 (hL.ext E0) (hps.ext E0) hng)
 have wk:IntKind.i64.wrap ((n:Int)+1)=((n+1:Nat):Int):=by rw [qH];omega
 clear E0 R0 hW0 hH hmp
 go_upto_region 1 with fail
 rw [HW0.out,HH.out]
 go_wp2_with fail
 refine HMd.out.mono ?_;rintro e w1 ⟨Bm,rfl,hM1,hBm,hx1⟩;obtain ⟨M,hM⟩:∃ M,w1.heap.size=M:=⟨_,rfl⟩;obtain ⟨W1,hW1⟩:∃ W1,w1.alloc (.cells #[.map (some Bm)] 111)=W1:=⟨_,rfl⟩
 have e1:Ext w1 W1:=by rw [<-hW1];exact ext_al _ _
 have rM:W1.heap[M]?=some (.cells #[.map (some Bm)] 111 (0,0)):=by rw [<-hW1,<-hM];exact qW _ _
 have HE1:=Lh (hx1.trans e1);have HM1:=Lh (hM1.ext e1);have HrM:=Lh rM;have HR1:=Lh (HR.out.ext (hx1.trans e1));have HhM:=Lh hM;have HhW1:=Lh hW1;have HBmM:=Lh (show W0.heap.size<=Bm/\Bm<M from ⟨hBm,by rw [<-hM];exact hM1.lt⟩);have j0:=HR1.out.x0;clear hM1 hBm hx1 hM hW1 e1 rM HMd k0 k1 k2 HW0
 go_upto_region 2 with fail
 rw [HhM.out,HhW1.out];clear HhW1;have HhS:∃ S,W1.heap.size=S:=⟨_,rfl⟩;obtain ⟨S,hS⟩:=HhS;have HhS:=Lh hS;clear hS
 go_upto_region 3 with (refine wpList_make_U W1 rfl _ _ rfl .i64 .i64 _ _ (n+1) rfl rfl (by first | rfl | exact wk) (by first | rfl | exact wk) (by omega) ?_;intro w2 hr2 hE2;rw [HhS.out] at hr2 ⊢)
 obtain ⟨V,hV⟩:∃ V,w2.heap.size=V:=⟨_,rfl⟩;obtain ⟨W3,hW3⟩:∃ W3,w2.alloc (.cells #[.slice (some ⟨S,0,none⟩) (n+1) (n+1)] 31)=W3:=⟨_,rfl⟩
 have e3:Ext w2 W3:=by rw [<-hW3];exact ext_al _ _
 have rV:W3.heap[V]?=some (.cells #[.slice (some ⟨S,0,none⟩) (n+1) (n+1)] 31 (0,0)):=by rw [<-hW3,<-hV];exact qW _ _
 have e23:Ext W1 W3:=hE2.trans e3;have HR3:=Lh (HR1.out.ext e23);have k0:=HR3.out.x0;have k1:=HR3.out.x1;have k2:=HR3.out.x2;have HE:=Lh (errors_any n ao ng c mp W3);have HrS:=Lh (rowEC hr2 e3);have HrV:=Lh rV;have HrM3:=Lh (rowEC HrM.out e23);have HM3:=Lh (HM1.out.ext e23);have HE3:=Lh (HE0.out.trans (HE1.out.trans e23))
 have Hord:=Lh (show H<Bm/\Bm<M/\M<S/\S<V/\V<W3.heap.size by
  have h1:=HBmM.out;have h2:H<W0.heap.size:=HR.out.lt;have h3:M<W1.heap.size:=lt_rowC HrM.out;have h4:=HhS.out;have h5:S<w2.heap.size:=lt_rowC hr2;have h6:V<W3.heap.size:=lt_rowC rV
  omega)
 rw [hV,hW3];clear hr2 hE2 hV hW3 e3 rV e23 HE1 HM1 HrM HR1 HhM HBmM j0 HhS wk HE0 HR
 go_wp2_with fail
 refine HE.out.mono ?_;rintro e U ⟨rfl,hU⟩
 have EU:Ext W3 U:=by rw [hU];exact ext_al _ _
 obtain ⟨G,hG⟩:∃ G,W3.heap.size=G:=⟨_,rfl⟩
 have FU:FrB U G n ao ng c mp:=by rw [hU,<-hG];exact FrB.new _ _ _ _ _ _
 have sU:U.heap.size=G+1:=by rw [hU,<-hG];simp
 have eU:Ext w U:=HE3.out.trans EU;have LU:LtL U:=hL.ext eU;have HI0:=Lh (show UnI w U H M V S Bm n ao ng c mp keys ps [] from ⟨⟨HR3.out.ext EU,rowEC HrM3.out EU,rowEC HrV.out EU,by rw [cnL_nil];exact rowEC HrS.out EU,HM3.out.ext EU⟩,eU⟩);have HlU:=Lh (show V<U.heap.size/\H<Bm/\Bm<M/\M<S/\S<V by have:=Hord.out;omega);have Hlet:=Lh hL.lt;rw [hG];clear hU HE k0 k1 k2 HrS HrV HrM3 HM3 HR3 Hord sU hG
 go_wp2_with fail
 refine wpIn_wide.1 (wpIn_rangeFunc_ownH (n:=5) (F:=Fence.wide) rfl (by omega) (gf:=111) (lb:=#[.pointer (some ⟨G,0,none⟩)]) rfl trivial (enters_of Tryz.func111 (by kernel_rfl) rfl)
  (errorsX_stops 4 n G ng c hn ao mp U LU FU) KpC.trans kpC_b (Below.refl _ _) (fun _=>rfl)
  (fun pre W=>UnI w W H M V S Bm n ao ng c mp keys ps (pre.map ErX.p))
  (fun _ _ _=>False)
  (OwnFrom.and (fun s A B row hs hg hr=>⟨⟨cells_own _ _ _ _ s A B row hs.1.row hg (fun r e=>(hr r e).2)⟩,cells_own _ _ _ _ s A B row hs.2.1 hg (fun r e=>(hr r e).2),cells_own _ _ _ _ s A B row hs.2.2.1 hg (fun r e=>(hr r e).2),cells_own _ _ _ _ s A B row hs.2.2.2.1 hg (fun r e=>(hr r e).2),hs.2.2.2.2.kept (hg.block _ hs.2.2.2.2.lt (fun e=>by have:=(hr _ e.symm).1;have:=HlU.out;omega))⟩) (ownFrom_below (qZ _) eU.size))
  (fun _=>fun _ _ _ _ hs _ _=>hs)
  HI0.out
  (fun (x:ErX n) a' W=>∃ Bx,W.heap[Bx]?=some (.cells #[.int .u16 (x.p.x:Int),.int .u16 (x.p.z:Int),.bool x.p.m] 94 (0,0))/\a'={ tmps:=#[.agg #[.int .i64 (n:Int),.slice ao ng c,.map mp],.pointer (some ⟨H,0,none⟩),.slice none 0 0,.pointer (some ⟨M,0,none⟩),.pointer (some ⟨V,0,none⟩),.pointer (some ⟨Bx,0,none⟩),.agg #[.int .i64 (n:Int),.slice ao ng c,.map mp],.map (some Bm),.pointer (some ⟨H,0,none⟩),.int .i64 (n:Int),.int .i64 ((n:Int)+1),.slice (some ⟨S,0,none⟩) (n+1) (n+1),.agg #[.int .i64 (n:Int),.slice ao ng c,.map mp],.func (.func 111) #[] #[.pointer (some ⟨G,0,none⟩)],pvK x.p,undef,undef,undef,undef,undef,undef,undef,undef,undef,undef,undef,undef,undef,undef,undef,undef,undef,undef,undef],defers:=[] })
  ?own ?assign ?body ?done ?stop)
 case own =>
  rintro x a' _ W W' row ⟨Bx,h1,h2⟩ hg hr;exact ⟨Bx,cells_own Bx _ _ _ () W W' row h1 hg (fun r e=>(hr r e).2),h2⟩
 case assign =>
  rintro l pre ⟨x,hxm⟩ W K ⟨⟨i1,i2,i3,i4,i5⟩,hB'⟩ hK;have hpx:pvK x=.agg #[.int .u16 (x.x:Int),.int .u16 (x.z:Int),.bool x.m]:=rfl
  show Code.wpIn _ _ _ _ _ _ _
  simp only;rw [hpx];have Hi:=Lh (jN i1 (jN i2 (jN i3 (jN i4 i5))));have HB2:=Lh hB';clear i1 i2 i3 i4 i5 hB'
  gi_wp2
  have ea:=ext_al W (.cells #[.int .u16 (x.x:Int),.int .u16 (x.z:Int),.bool x.m] 94);exact hK _ _ ((KeepsOthers.alloc W _).from _) (KpC.of_ext ea) ⟨⟨Hi.out.1.ext ea,rowEC Hi.out.2.1 ea,rowEC Hi.out.2.2.1 ea,rowEC Hi.out.2.2.2.1 ea,Hi.out.2.2.2.2.ext ea⟩,HB2.out.trans (ea.mono HB2.out.size)⟩ ⟨W.heap.size,qW W _,rfl⟩
 case body =>
  rintro l pre ⟨x,hxm⟩ a' W hl ⟨r,hr⟩ ⟨⟨iF,iM,iV,iS,iD⟩,hB'⟩ ⟨Bx,hx,rfl⟩ hlt;simp only at hx;obtain ⟨pr,hpr⟩:∃ pr,pre.map ErX.p=pr:=⟨_,rfl⟩;rw [hpr] at iS
  have hprl:pr.length<1000000:=by rw [<-hpr,jY];omega
  have hap:(pre++[(⟨x,hxm⟩:ErX n)]).map ErX.p=pr++[x]:=by rw [yJ,hpr];rfl
  have m0:W.cell? ⟨M,0,none⟩=some (.map (some Bm)):=by rw [qD W _ 0 _ _ (0,0) iM];rfl
  have v0:W.cell? ⟨V,0,none⟩=some (.slice (some ⟨S,0,none⟩) (n+1) (n+1)):=by rw [qD W _ 0 _ _ (0,0) iV];rfl
  have f0:=iF.x0;have f1:=iF.x1
  have f2:W.cell? ⟨H,2,none⟩=some (.map (some Bg)):=by rw [Hmp.out];exact iF.x2
  have p0:W.cell? ⟨Bx,0,none⟩=some (.int .u16 (x.x:Int)):=by rw [qD W _ 0 _ _ (0,0) hx];rfl
  have p1:W.cell? ⟨Bx,1,none⟩=some (.int .u16 (x.z:Int)):=by rw [qD W _ 1 _ _ (0,0) hx];rfl
  have p2:W.cell? ⟨Bx,2,none⟩=some (.bool x.m):=by rw [qD W _ 2 _ _ (0,0) hx];rfl
  have hlen:ps.length<=12:=by rw [hps.1];exact hng
  have hsx:=sh_lt hlen x;have hv:=hwt x hxm;have HSh:=Lh (fun (wx:World) (hx:Ext W wx)=>shown_any ps x n ao ng c (some Bg) wx (hps.ext (hB'.trans (hx.mono hB'.size))) hng);obtain ⟨qk,hqk⟩:∃ q,(fsM ps (errP n) (shN ps x)).getD (PK.of 0 0)=q:=⟨_,rfl⟩;have HLk:=Lh (fun (w9:World) (h9:MdM w9 Bm ps (errP n))=>(show (Instr.lookup 111 (.map (some Bm)) (.int .u16 (shN ps x:Int)) false).run Tryz.prog w9=.ok (pvK qk) w9 from by rw [<-hqk];exact h9.look hsx));have HLe:=Lh (fun (wx:World)=>Letters_any x.x x.z qk.x qk.z x.m qk.m wx x.hx x.hz qk.hx qk.hz);obtain ⟨dn,hdn⟩:∃ b,decide ((x.x ^^^ qk.x,x.z ^^^ qk.z) ∈ keys)=b:=⟨_,rfl⟩;have HHa:=Lh (fun (wx:World) (hy:Ext W wx)=>has_any Bg keys (x.x ^^^ qk.x) (x.z ^^^ qk.z) false wx (hG.ext (hB'.trans (hy.mono hB'.size))) (xor_lt16 x.hx qk.hx) (xor_lt16 x.hz qk.hz));rw [hdn] at HHa
  have hun:unK keys ps n x=!dn:=by unfold unK;rw [hqk,hdn]
  obtain ⟨bn,hbn⟩:∃ b,(!dn)=b:=⟨_,rfl⟩;rw [hbn] at hun;obtain ⟨v,hvv⟩:∃ v,pcF 16 (x.x ||| x.z)=v:=⟨_,rfl⟩;have HWt:=Lh (fun (wx:World)=>Weight_any x wx);rw [hvv] at hv HWt;obtain ⟨cv,hcv⟩:∃ k,cnK keys ps n pr v=k:=⟨_,rfl⟩
  have c0:W.cell? ⟨S,v,none⟩=some (.int .i64 (cv:Int)):=by rw [qD W _ v _ _ (0,0) iS];exact icL_at (by rw [cnL_at hv,hcv])
  have hcl:cv<1000000:=by have:=cnK_le keys ps n pr v;omega
  have wk9:=Lh (show IntKind.i64.wrap ((cv:Int)+1)=((cv+1:Nat):Int) by rw [qH];omega);have Hadd:=Lh (fun (h:bn=true)=>(show (cnL keys ps n pr).set v ((cv+1:Nat):Int)=cnL keys ps n ((pre++[(⟨x,hxm⟩:ErX n)]).map ErX.p) by rw [hap,cnL_add (by rw [hun];exact h) hvv,hcv]));have Hskp:=Lh (fun (h:bn=false)=>(show cnL keys ps n pr=cnL keys ps n ((pre++[(⟨x,hxm⟩:ErX n)]).map ErX.p) by rw [hap,cnL_skip (by rw [hun];exact h)]));have HiF:=Lh iF;have HiM:=Lh iM;have HiV:=Lh iV;have HiS:=Lh iS;have HiD:=Lh iD;have HB2:=Lh hB';have Hx:=Lh hx;have Hne:=Lh (show H≠S/\M≠S/\V≠S/\Bm≠S/\(0:Nat)≠S by have:=HlU.out;have:=Hlet.out;have:=HH.out;omega);have HwS:=Lh (show w.heap.size<=S by have:=HlU.out;have:=HH.out;omega);have Hvn:=Lh hv;obtain ⟨s,hs⟩:∃ s,shN ps x=s:=⟨_,rfl⟩;rw [hs] at HSh HLk;unfold pv at HLe HHa;have HSj:=Lh (fun (w':World) (hx:Ext W w')=>(show (w'.cell? ⟨M,0,none⟩=some (.map (some Bm))/\w'.cell? ⟨H,0,none⟩=some (.int .i64 (n:Int))/\w'.cell? ⟨H,1,none⟩=some (.slice ao ng c)/\w'.cell? ⟨H,2,none⟩=some (.map (some Bg))/\w'.cell? ⟨Bx,0,none⟩=some (.int .u16 (x.x:Int))/\w'.cell? ⟨Bx,1,none⟩=some (.int .u16 (x.z:Int))/\w'.cell? ⟨Bx,2,none⟩=some (.bool x.m))/\MdM w' Bm ps (errP n) from ⟨⟨cell_ext m0 hx,cell_ext f0 hx,cell_ext f1 hx,cell_ext f2 hx,cell_ext p0 hx,cell_ext p1 hx,cell_ext p2 hx⟩,HiD.out.ext hx⟩));have HSi:=Lh (fun (w':World) (hx:Ext W w')=>(show w'.cell? ⟨V,0,none⟩=some (.slice (some ⟨S,0,none⟩) (n+1) (n+1))/\w'.cell? ⟨Bx,0,none⟩=some (.int .u16 (x.x:Int))/\w'.cell? ⟨Bx,1,none⟩=some (.int .u16 (x.z:Int))/\w'.cell? ⟨Bx,2,none⟩=some (.bool x.m)/\w'.cell? ⟨S,v,none⟩=some (.int .i64 (cv:Int)) from ⟨cell_ext v0 hx,cell_ext p0 hx,cell_ext p1 hx,cell_ext p2 hx,cell_ext c0 hx⟩));clear iF iM iV iS iD hB' hx hr hl hlt hlen hsx hqk hs hdn hun hvv hcv hcl hv m0 v0 f0 f1 f2 p0 p1 p2 c0 FU LU EU hL hps HI0 hpr hprl hap hwt hG;refine wpIn_block (wpIn_seq (wpIn_mono (Q:=fun e a' w'=>e=.normal/\(∃ u15 u16 u17 u18 u19 u20 u21 u22 u23 u24:Value,a'=⟨#[.agg #[.int .i64 (n:Int),.slice ao ng c,.map mp],.pointer (some ⟨H,0,none⟩),.slice none 0 0,.pointer (some ⟨M,0,none⟩),.pointer (some ⟨V,0,none⟩),.pointer (some ⟨Bx,0,none⟩),.agg #[.int .i64 (n:Int),.slice ao ng c,.map mp],.map (some Bm),.pointer (some ⟨H,0,none⟩),.int .i64 (n:Int),.int .i64 ((n:Int)+1),.slice (some ⟨S,0,none⟩) (n+1) (n+1),.agg #[.int .i64 (n:Int),.slice ao ng c,.map mp],.func (.func 111) #[] #[.pointer (some ⟨G,0,none⟩)],pvK x,u15,u16,u17,u18,u19,u20,u21,u22,u23,u24,.bool bn,undef,undef,undef,undef,undef,undef,undef,undef],[]⟩)/\Ext W w') ?_ ?_))
  ·refine region_round_any (by kernel_rfl) (by rfl) (fun ⟨_,_,h⟩=>by cases h.1) (anyK_plain (k:=10) (S:=fun w'=>(w'.cell? ⟨M,0,none⟩=some (.map (some Bm))/\w'.cell? ⟨H,0,none⟩=some (.int .i64 (n:Int))/\w'.cell? ⟨H,1,none⟩=some (.slice ao ng c)/\w'.cell? ⟨H,2,none⟩=some (.map (some Bg))/\w'.cell? ⟨Bx,0,none⟩=some (.int .u16 (x.x:Int))/\w'.cell? ⟨Bx,1,none⟩=some (.int .u16 (x.z:Int))/\w'.cell? ⟨Bx,2,none⟩=some (.bool x.m))/\MdM w' Bm ps (errP n)) _ _ _ _ ?_)
   show anyK _ _ _ _ _ _ 11 #[false,false,false,false,false,false,false,false,false,false,false] _ _
   have G_:Ext W W.drew:=qG (Ext.refl _);refine anyK_take (i:=0) (v:=?_) rfl (by kernel_rfl) (by kernel_rfl) (by kernel_rfl) (N:=11) (by kernel_rfl) (by kernel_rfl) (by kernel_rfl) (fun _ _ _ h=>nomatch h.1) (qM ⟨by rfl,?_⟩) (HSj.out _ G_) ?_;rotate_left 1
   ·intro w hSw
    go_simp
    try with_reducible rfl
   show anyK _ _ _ _ _ _ _ _ (Act.put _ (some 15) _) _
   simp only [Act.put,sx0,sx1,sx2];refine anyK_take (i:=1) (v:=?_) rfl (by kernel_rfl) (by kernel_rfl) (by kernel_rfl) (N:=11) (by kernel_rfl) (by kernel_rfl) (by kernel_rfl) (fun _ _ _ h=>nomatch h.1) (qM ⟨by rfl,?_⟩) (HSj.out _ G_) ?_;rotate_left 1
   ·intro w hSw
    go_simp
    try with_reducible rfl
   show anyK _ _ _ _ _ _ _ _ (Act.put _ (some 16) _) _
   simp only [Act.put,sx0,sx1,sx2];refine anyK_take (i:=2) (v:=?_) rfl (by kernel_rfl) (by kernel_rfl) (by kernel_rfl) (N:=11) (by kernel_rfl) (by kernel_rfl) (by kernel_rfl) (fun _ _ _ h=>nomatch h.1) (qM ⟨by rfl,?_⟩) (HSj.out _ G_) ?_;rotate_left 1
   ·intro w hSw
    go_simp
    try with_reducible rfl
   show anyK _ _ _ _ _ _ _ _ (Act.put _ (some 17) _) _
   simp only [Act.put,sx0,sx1,sx2];refine anyK_take (i:=3) (v:=?_) rfl (by kernel_rfl) (by kernel_rfl) (by kernel_rfl) (N:=11) (by kernel_rfl) (by kernel_rfl) (by kernel_rfl) (fun _ _ _ h=>nomatch h.1) (qM ⟨by rfl,?_⟩) (HSj.out _ G_) ?_;rotate_left 1
   ·intro w hSw
    go_simp
    try with_reducible rfl
   show anyK _ _ _ _ _ _ _ _ (Act.put _ (some 18) _) _
   simp only [Act.put,sx0,sx1,sx2];refine anyK_take (i:=4) (v:=?_) rfl (by kernel_rfl) (by kernel_rfl) (by kernel_rfl) (N:=11) (by kernel_rfl) (by kernel_rfl) (by kernel_rfl) (fun _ _ _ h=>nomatch h.1) (qM ⟨by rfl,?_⟩) (HSj.out _ G_) ?_;rotate_left 1
   ·intro w hSw
    go_simp
    try with_reducible rfl
   show anyK _ _ _ _ _ _ _ _ (Act.put _ (some 19) _) _
   simp only [Act.put,sx0,sx1,sx2];refine anyK_take (i:=5) (v:=?_) rfl (by kernel_rfl) (by kernel_rfl) (by kernel_rfl) (N:=11) (by kernel_rfl) (by kernel_rfl) (by kernel_rfl) (fun _ _ _ h=>nomatch h.1) (qM ⟨by rfl,?_⟩) (HSj.out _ G_) ?_;rotate_left 1
   ·intro w hSw
    go_simp
    try with_reducible rfl
   show anyK _ _ _ _ _ _ _ _ (Act.put _ (some 20) _) _
   simp only [Act.put,sx0,sx1,sx2];refine anyK_one (i:=6) (by kernel_rfl) rfl (fun Kk hKk=>?_)
   go_simp
   (go_at_call 68;refine (HSh.out _ (G_)).mono ?_;rintro e wC ⟨rfl,hy⟩)
   have EC:Ext W wC:=(G_).trans hy;clear hy
   go_wp2_with fail
   refine hKk.out _ _ (fun _=>HSj.out _ EC) ?_;clear hKk Kk;simp only [sx0,sx1,sx2];refine anyK_take (i:=7) (v:=pvK qk) rfl (by kernel_rfl) (by kernel_rfl) (by kernel_rfl) (N:=11) (by kernel_rfl) (by kernel_rfl) (by kernel_rfl) (fun _ _ _ h=>nomatch h.1) (qM ⟨by rfl,fun w9 h9=>exec_look rfl rfl rfl (HLk.out w9 h9.2)⟩) (HSj.out _ EC) ?_
   show anyK _ _ _ _ _ _ _ _ (Act.put _ (some 22) _) _
   simp only [Act.put,sx0,sx1,sx2];refine anyK_one (i:=8) (by kernel_rfl) rfl (fun Kk hKk=>?_)
   go_simp
   (go_at_call 67;refine (HLe.out _).mono ?_;rintro e wD ⟨rfl,hy⟩)
   have ED:Ext W wD:=(EC).trans hy;clear hy
   go_wp2_with fail
   refine hKk.out _ _ (fun _=>HSj.out _ ED) ?_;clear hKk Kk;simp only [sx0,sx1,sx2];refine anyK_one (i:=9) (by kernel_rfl) rfl (fun Kk hKk=>?_)
   go_simp
   (go_at_call 66;refine (HHa.out _ ED).mono ?_;rintro e wE ⟨rfl,hy⟩)
   have EE:Ext W wE:=(ED).trans hy;clear hy
   go_wp2_with fail
   refine hKk.out _ _ (fun _=>HSj.out _ EE) ?_;clear hKk Kk;simp only [sx0,sx1,sx2];refine anyK_one (i:=10) (by kernel_rfl) rfl (fun Kk hKk=>?_)
   go_wp2_with fail
   refine hKk.out _ _ (fun h=>Bool.noConfusion (show true=false from h)) ?_;clear hKk Kk;simp only [sx0,sx1,sx2];refine anyK_done (by kernel_rfl) ?_ _;exact ⟨rfl,⟨_,_,_,_,_,_,_,_,_,_,rfl⟩,EE⟩
  rintro e a' W4 ⟨rfl,⟨u15,u16,u17,u18,u19,u20,u21,u22,u23,u24,rfl⟩,hE4⟩;have HE4:=Lh hE4;clear hE4
  cases bn
  ·refine wpIn_cond_false rfl (wpIn_skip ?_)
   have E8:=HE4.out;exact ⟨(ext_keepsOthers E8).from _,KpC.of_ext E8,⟨HiF.out.ext E8,rowEC HiM.out E8,rowEC HiV.out E8,by rw [<-Hskp.out rfl];exact rowEC HiS.out E8,HiD.out.ext E8⟩,HB2.out.trans (E8.mono HB2.out.size)⟩
  ·refine wpIn_cond_true rfl ?_
   have HSj6:=Lh (fun (w':World) (hx:Ext W4 w')=>HSi.out w' (HE4.out.trans hx))
   have q0:(0:Int)<=(v:Int):=by omega
   have q1:(v:Int)<(n:Int)+1:=by have:=Hvn.out;omega
   have wk9':=wk9.out
   have q2:v<n+1:=by have:=Hvn.out;omega
   refine region_round_any (by kernel_rfl) (by rfl) gShut (anyK_plain (k:=7) (S:=fun w'=>w'.cell? ⟨V,0,none⟩=some (.slice (some ⟨S,0,none⟩) (n+1) (n+1))/\w'.cell? ⟨Bx,0,none⟩=some (.int .u16 (x.x:Int))/\w'.cell? ⟨Bx,1,none⟩=some (.int .u16 (x.z:Int))/\w'.cell? ⟨Bx,2,none⟩=some (.bool x.m)/\w'.cell? ⟨S,v,none⟩=some (.int .i64 (cv:Int))) _ _ _ _ ?_)
   show anyK _ _ _ _ _ _ 8 #[false,false,false,false,false,false,false,false] _ _
   have E6:Ext W4 W4.drew:=qG (Ext.refl _);refine kU 0 8 rfl (HSj6.out _ E6) ?_
   show anyK _ _ _ _ _ _ _ _ (Act.put _ (some 26) _) _
   simp only [Act.put,sx0,sx1,sx2];refine kU 1 8 rfl (HSj6.out _ E6) ?_
   show anyK _ _ _ _ _ _ _ _ (Act.put _ (some 27) _) _
   simp only [Act.put,sx0,sx1,sx2];refine anyK_one (i:=2) (by kernel_rfl) rfl (fun Kk hKk=>?_)
   go_simp
   (go_at_call 69;refine (HWt.out _).mono ?_;rintro e w6 ⟨rfl,hy⟩)
   have E7:Ext W4 w6:=(E6).trans hy;clear hy
   go_wp2_with fail
   refine hKk.out _ _ (fun _=>HSj6.out _ E7) ?_;clear hKk Kk;simp only [sx0,sx1,sx2];refine kU 3 8 rfl (HSj6.out _ E7) ?_
   show anyK _ _ _ _ _ _ _ _ (Act.put _ (some 29) _) _
   simp only [Act.put,sx0,sx1,sx2];refine kU 4 8 rfl (HSj6.out _ E7) ?_
   show anyK _ _ _ _ _ _ _ _ (Act.put _ (some 30) _) _
   simp only [Act.put,sx0,sx1,sx2];refine kU 5 8 rfl (HSj6.out _ E7) ?_
   show anyK _ _ _ _ _ _ _ _ (Act.put _ (some 31) _) _
   simp only [Act.put,sx0,sx1,sx2];refine kU 6 8 rfl (HSj6.out _ E7) ?_
   show anyK _ _ _ _ _ _ _ _ (Act.put _ (some 32) _) _
   simp only [Act.put,sx0,sx1,sx2];have E8:=HE4.out.trans E7;have rS:=rowEC HiS.out E8;refine anyK_one (i:=7) (by kernel_rfl) rfl (fun Kk hKk=>?_);refine stepK_storeU rfl rfl _ _ rfl S v ((cv+1:Nat):Int) _ rfl (by first | rfl | exact congrArg (Value.int .i64) wk9.out) (HSj6.out _ E7).2.2.2.2 (jQ _ _ _ _ _ rS) ?_;refine hKk.out _ _ (fun h=>Bool.noConfusion (show true=false from h)) ?_;clear hKk Kk;simp only [sx0,sx1,sx2];refine anyK_done (by kernel_rfl) ?_ _;have hO:=Below.heap_setCell w6 ⟨S,v,none⟩ (.int .i64 ((cv+1:Nat):Int));have hbf:=HB2.out.trans (E8.mono HB2.out.size);have hne:=Hne.out;refine ⟨((ext_keepsOthers E8).trans (KeepsOthers.setCell _ _ _)).from _,(KpC.of_ext E8).trans (KpC.of_int rS hne.2.2.2.2),⟨⟨(hO _ hne.1).trans (HiF.out.ext E8).row⟩,(hO _ hne.2.1).trans (rowEC HiM.out E8),(hO _ hne.2.2.1).trans (rowEC HiV.out E8),row_putU rS (by rw [icL_set,Hadd.out trivial]),((HSj.out _ E8).2).kept (hO _ hne.2.2.2.1)⟩,?_⟩;exact yD hbf (p:=⟨S,v,none⟩) (by show w.heap.size<=S;have:=HwS.out;omega) _
 case done =>
  rintro D ys W hD hS ⟨⟨i1,i2,i3,i4,i5⟩,hB'⟩ hK
  have v0:W.cell? ⟨V,0,none⟩=some (.slice (some ⟨S,0,none⟩) (n+1) (n+1)):=by rw [qD W _ 0 _ _ (0,0) i3];rfl
  have HSr:=Lh (show W.heap[S]?=some (.cells (icL (cnL keys ps n (errP n))) 3 (0,0)) by rw [<-show ys.map ErX.p=errP n from hS];exact i4);have HB2:=Lh hB';have HK:=Lh hK;have Hne:=Lh (show S≠D/\w.heap.size<=D/\w.heap.size<=S by have:=HH.out;have:=HlU.out;omega);clear i1 i2 i3 i4 i5 hS hB' hK hD FU LU hL
  go_wp2_with fail
  refine ⟨by simp,.inl ⟨_,_,rfl,run_takeDeferred HK.out,?_⟩⟩;refine ⟨_,by simp [results,Tryz.results19,go_sem],S,rfl,?_,Hne.out.2.2,Below.trans HB2.out (belowK_b (w:=w) (qZ _) W D _ _ Hne.out.2.1 HK.out rfl rfl)⟩
  have key:=fun o=>ints_ic (w:=W.putObj D o) ((World.putObj_heap_other Hne.out.1).trans HSr.out)
  simp only [cnL_len] at key;exact key _
 case stop =>
  rintro D cd pre W hD hp h hK;exact h.elim
end Go.Proofs.YtjfomkoedgipjaaGreatDoor
