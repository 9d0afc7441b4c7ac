/-
  The reference's FailsOf: its numbers have room; its counts; fractions in variables. A region that draws its order, calls one function behind the other, and makes one or two variables that wait for nothing: the variables may be made ahead of, between or behind the calls. What is asked of the calls is asked once, in every world that extends the one at hand.
-/
import Derived.OrdersHeld
import Derived.ProofKit
import Derived.RegionTactic
import Derived.Test.YtjfomkoedgipjaaGreatDoorS28FpC
namespace Go.Proofs.YtjfomkoedgipjaaGreatDoor
open Go.RowKit
def digB:Nat:=1502
def Big (z:Int):Prop:=z.natAbs<10000 ^ digB
theorem big_lim:28672*(Lim ^ 6:Nat)<10000 ^ digB:=by
 unfold Lim;rw [<-Nat.pow_mul];have h1:=dig_room (5+limN*6) digB (by unfold limN digB;decide);rw [Nat.pow_add] at h1;have h2:0<10 ^ (limN*6):=Nat.pow_pos (by decide)
 have h3:(10:Nat) ^ 5=100000:=by decide
 rw [h3] at h1;generalize 10 ^ (limN*6)=p at *;generalize 10000 ^ digB=q at *;omega
theorem big_of {z:Int} (h:z.natAbs<=28672*(Lim ^ 6:Nat)):Big z:=Nat.lt_of_le_of_lt h big_lim
theorem Big.len {w:World} {neg:Bool} {ao:Option Addr} {n c:Nat} {z:Int} (hb:Big z) (h:IsZ w neg ao n c z):n<=40000:=by
 have:=h.len_of hb;unfold digB at this;omega
structure FaN (a b:Int):Prop where
 ha:0<=a
 hv:0<=b-3*a
 hb:0<b
 hl:b.natAbs<Lim
 ep:a=nfp a b
 eq:b=nfq a b
theorem lim6h:1<=Lim/\Lim<=(Lim ^ 6:Nat):=by
 have h1:1<=Lim:=Nat.le_of_lt (Nat.lt_of_lt_of_le (by decide) (lim_le 1 (by decide)));generalize Lim=L at *;refine ⟨h1,?_⟩;have:=Nat.pow_le_pow_right h1 (show 1<=6 by decide);rw [Nat.pow_one] at this;exact this
theorem FaN.one {a b:Int} (h:FaN a b):Big a/\Big b/\Big (nfp (3*a) (1*b))/\Big (nfq (3*a) (1*b))/\Big (nfp (b-3*a) b)/\Big (nfq (b-3*a) b):=by
 have h1:=h.ha;have h2:=h.hv;have h3:=h.hb;have h4:=h.hl;have h6:=lim6h;have g1:=nfp_le (3*a) (1*b);have g2:=nfq_le (3*a) (1*b) (by omega);have g3:=nfp_le (b-3*a) b;have g4:=nfq_le (b-3*a) b (by omega);refine ⟨big_of ?_,big_of ?_,big_of ?_,big_of ?_,big_of ?_,big_of ?_⟩
 all_goals (generalize (Lim ^ 6:Nat)=L at *;generalize Lim=L1 at *;omega)
theorem FaN.pow {a b:Int} (h:FaN a b) {n i:Nat} (hn:n<=6) (hi:i<=n):b ^ i<=((Lim ^ 6:Nat):Int)/\0<b ^ i :=
 ⟨Int.le_trans (pow_upF (by have:=h.hb;omega) hi) (pow_limF h.hb h.hl hn),pow_posF h.hb i⟩
theorem FaN.term {a b:Int} (h:FaN a b) {n:Nat} (hn:n<=6) {c:Nat} (hc:c<=4096) (m:Nat) {i:Nat} (hi:i<=n):Big (nfp ((c:Int)*gtm a (b-3*a) m i) (b ^ i))/\Big (nfq ((c:Int)*gtm a (b-3*a) m i) (b ^ i)):=by
 obtain ⟨h1,h2⟩:=h.pow hn hi;obtain ⟨h3,h4⟩:=gtm_le h.ha (by have:=h.ha;have:=h.hv;omega) h.hv (by have:=h.ha;omega) (b:=b) m i;have h5:(c:Int)*gtm a (b-3*a) m i<=4096*((Lim ^ 6:Nat):Int):=Int.mul_le_mul (by omega) (by omega) h3 (by omega);have h6:0<=(c:Int)*gtm a (b-3*a) m i:=Int.mul_nonneg (by omega) h3;have g1:=nfp_le ((c:Int)*gtm a (b-3*a) m i) (b ^ i);have g2:=nfq_le ((c:Int)*gtm a (b-3*a) m i) (b ^ i) (by omega);refine ⟨big_of ?_,big_of ?_⟩
 all_goals (generalize (Lim ^ 6:Nat)=L at *;omega)
theorem FaN.sum {a b:Int} (h:FaN a b) {n:Nat} (hn:n<=6) {cnt:Nat->Nat} (hc:∀ w,cnt w<=4096) {m:Nat} (hm:m<=n+1):Big (nfp (gsm cnt a (b-3*a) n m) (b ^ n))/\Big (nfq (gsm cnt a (b-3*a) n m) (b ^ n)):=by
 obtain ⟨h1,h2⟩:=h.pow hn (Nat.le_refl n);obtain ⟨h3,h4⟩:=gsm_le h.ha (by have:=h.ha;have:=h.hv;omega) h.hv (by have:=h.ha;omega) (b:=b) n 4096 hc m;have h5:(((m*4096:Nat):Int))*b ^ n<=28672*((Lim ^ 6:Nat):Int):=Int.mul_le_mul (by omega) h1 (by omega) (by omega);have g1:=nfp_le (gsm cnt a (b-3*a) n m) (b ^ n);have g2:=nfq_le (gsm cnt a (b-3*a) n m) (b ^ n) (by omega);refine ⟨big_of ?_,big_of ?_⟩
 all_goals (generalize (Lim ^ 6:Nat)=L at *;omega)
theorem FRet.sharp {w w':World} {P Q:Int} {N:Nat} {e:Ending} (h:FRet w P Q N e w') (hP:Big P) (hQ:Big Q):FRet w P Q 40000 e w':=by
 obtain ⟨b,a,n,c,b',a',n',c',h1,h2,h3,_,_,h4⟩:=h;exact ⟨b,a,n,c,b',a',n',c',h1,h2,h3,hP.len h2,hQ.len h3,h4⟩
def FzV (w:World) (g:Nat) (P Q:Int):Prop :=
 ∃ (b:Bool) (a:Option Addr) (n c:Nat) (b':Bool) (a':Option Addr) (n' c':Nat),FZBx w g b a n c b' a' n' c'/\IsZ w b a n c P/\IsZ w b' a' n' c' Q/\n<=40000/\n'<=40000
theorem FzV.ext {w w':World} {g:Nat} {P Q:Int} (h:FzV w g P Q) (k:Ext w w'):FzV w' g P Q:=by
 obtain ⟨b,a,n,c,b',a',n',c',h1,h2,h3,h4,h5⟩:=h;exact ⟨b,a,n,c,b',a',n',c',h1.ext k,h2.ext k,h3.ext k,h4,h5⟩
abbrev putF4 (w:World) (g:Nat) (b:Bool) (a:Option Addr) (n c:Nat) (b':Bool) (a':Option Addr) (n' c':Nat):World:=(((w.setCell ⟨g,0,none⟩ (.bool b)).setCell ⟨g,1,none⟩ (.slice a n c)).setCell ⟨g,2,none⟩ (.bool b')).setCell ⟨g,3,none⟩ (.slice a' n' c')
theorem putF4_only (w:World) (g:Nat) (b:Bool) (a:Option Addr) (n c:Nat) (b':Bool) (a':Option Addr) (n' c':Nat):Only g w (putF4 w g b a n c b' a' n' c'):=((((Only.refl _ _).setCell _ _).setCell _ _).setCell _ _).setCell _ _
theorem putF4_ext {w0 w:World} {g:Nat} (h:Ext w0 w) (hg:w0.heap.size<=g) (b:Bool) (a:Option Addr) (n c:Nat) (b':Bool) (a':Option Addr) (n' c':Nat):Ext w0 (putF4 w g b a n c b' a' n' c'):=ext_onlyC h (putF4_only w g b a n c b' a' n' c') hg
theorem FzV.own {w:World} {g:Nat} {x:Bool} {y:Option Addr} {m d:Nat} {x':Bool} {y':Option Addr} {m' d':Nat} (hb:FZBx w g x y m d x' y' m' d') {P Q:Int} {b:Bool} {a:Option Addr} {n c:Nat} {b':Bool} {a':Option Addr} {n' c':Nat} (h1:IsZ w b a n c P) (h2:IsZ w b' a' n' c' Q) (h3:n<=40000) (h4:n'<=40000):FzV (putF4 w g b a n c b' a' n' c') g P Q :=
 ⟨b,a,n,c,b',a',n',c',hb.own4 b a n c b' a' n' c',h1.put4 hb _ _ _ _,h2.put4 hb _ _ _ _,h3,h4⟩
theorem FzV.new {w:World} {P Q:Int} {b:Bool} {a:Option Addr} {n c:Nat} {b':Bool} {a':Option Addr} {n' c':Nat} (h1:IsZ w b a n c P) (h2:IsZ w b' a' n' c' Q) (h3:n<=40000) (h4:n'<=40000):FzV (w.alloc (.cells #[.bool b,.slice a n c,.bool b',.slice a' n' c'] 35)) w.heap.size P Q :=
 ⟨b,a,n,c,b',a',n',c',fzbx_new w b a n c b' a' n' c',h1.ext (ext_al _ _),h2.ext (ext_al _ _),h3,h4⟩
def cqN (n:Nat) (gens:List (List UInt8)) (pre:List (List UInt8)) (w:Nat):Nat:=pre.countP fun e=>wtT e == w && unT n gens e
def cqL (n:Nat) (gens:List (List UInt8)) (pre:List (List UInt8)):List Int:=(List.range (n+1)).map fun i=>(cqN n gens pre i:Int)
theorem cq_all (n:Nat) (gens:List (List UInt8)) (w:Nat):cqN n gens (erR n) w=cntT n gens w:=rfl
theorem cq_snoc (n:Nat) (gens:List (List UInt8)) (pre:List (List UInt8)) (e:List UInt8) (w:Nat):cqN n gens (pre++[e]) w=cqN n gens pre w+if (wtT e == w && unT n gens e)=true then 1 else 0:=by
 unfold cqN;rw [List.countP_append,List.countP_cons,List.countP_nil,Nat.zero_add]
theorem cq_le (n:Nat) (gens:List (List UInt8)) (pre:List (List UInt8)) (w:Nat):cqN n gens pre w<=pre.length:=List.countP_le_length
theorem cqL_nil (n:Nat) (gens:List (List UInt8)):cqL n gens []=List.replicate (n+1) 0:=by
 unfold cqL cqN
 simp [List.map_const']
theorem cqL_at {n:Nat} {gens:List (List UInt8)} {pre:List (List UInt8)} {w:Nat} (h:w<=n):(cqL n gens pre)[w]?=some (cqN n gens pre w:Int):=by
 unfold cqL;rw [List.getElem?_map,List.getElem?_range (by omega)]
 rfl
theorem cqL_len (n:Nat) (gens:List (List UInt8)) (pre:List (List UInt8)):(cqL n gens pre).length=n+1:=by simp [cqL]
theorem cqL_skip {n:Nat} {gens:List (List UInt8)} {pre:List (List UInt8)} {e:List UInt8} (h:unT n gens e=false):cqL n gens (pre++[e])=cqL n gens pre:=by
 unfold cqL
 refine List.map_congr_left fun i _=>?_
 rw [cq_snoc,h,Bool.and_false,if_neg (by decide)]
 rfl
theorem cqL_add {n:Nat} {gens:List (List UInt8)} {pre:List (List UInt8)} {e:List UInt8} {v:Nat} (h:unT n gens e=true) (hv:wtT e=v):cqL n gens (pre++[e])=(cqL n gens pre).set v ((cqN n gens pre v+1:Nat):Int):=by
 apply List.ext_getElem?
 intro i
 by_cases hi:i<=n
 ·rw [cqL_at hi,List.getElem?_set,cq_snoc,h,Bool.and_true,hv]
  by_cases e:v=i
  ·subst e
   rw [if_pos rfl,if_pos (by simp),if_pos (by rw [cqL_len];omega)]
  ·rw [if_neg e,cqL_at hi,if_neg (by simpa using e)]
   rfl
 ·rw [List.getElem?_eq_none (by rw [cqL_len];omega),List.getElem?_eq_none (by rw [List.length_set,cqL_len];omega)]
theorem cntT_le {n:Nat} (hn:n<=6) (gens:List (List UInt8)) (w:Nat):cntT n gens w<=4096:=by
 refine Nat.le_trans (cq_le n gens (erR n) w) ?_;rw [erR_len];exact Nat.le_trans (Nat.pow_le_pow_right (by decide) hn) (by decide)
theorem extN (w:World) (o:Obj):Ext w (w.alloc o):=(Below.refl _ _).alloc (Nat.le_refl _) o
section
variable {P:Program} {md:Region.Mode} {ops:Array Oper} {Q:Exit->Act->World->Prop} {S:World->Prop}
theorem anyH_one {i:Nat} {o:Oper} {n:Nat} {l:Array Bool} {a:Act} {w:World} (hr:Region.ready md ops l=[i]) (ho:ops[i]?=some o)
  (h:∀ K':Act->World->Prop,Shut (∀ a w,S w->wpAnyH P md ops Q S n (l.setIfInBounds i true) a w->K' a w)->if Region.wanted o (yielded ops a.tmps)=true then Oper.wp P o a w K' Q else K' (a.put o.dst undef) w) :
  wpAnyH P md ops Q S (n+1) l a w:=by
 refine ⟨fun h0=>(by rw [hr] at h0;cases h0),fun j hj=>?_⟩;rw [hr] at hj
 rcases List.mem_singleton.1 hj with rfl
 exact wpOp_step ho (fun K' hK=>h K' (fun a w hS hW=>hK a w ⟨hS,hW⟩))
def IsAlloc (P:Program) (ops:Array Oper) (j d:Nat) (ty:TypeId) (z:Array Value):Prop :=
 ∃ o,ops[j]?=some o/\o.dst=some d/\(∀ a:Act,Region.wanted o (yielded ops a.tmps)=true)/\∀ (a:Act) (w:World),(execOp a.eval o).run P w=.ok (.value (.pointer (some ⟨w.heap.size,0,none⟩))) (w.alloc (.cells z ty))
theorem wpOp_alloc {j d:Nat} {ty:TypeId} {z:Array Value} (hA:IsAlloc P ops j d ty z) {K:Act->World->Prop} {a:Act} {w:World} (h:K (a.put (some d) (.pointer (some ⟨w.heap.size,0,none⟩))) (w.alloc (.cells z ty))):wpOp P ops Q j K a w:=by
 obtain ⟨o,ho,hd,hw,hrun⟩:=hA
 refine wpOp_step ho fun K' hK=>?_
 rw [if_pos (hw a)];unfold Oper.wp;rw [hrun,Oper.upon_value,hd];exact hK _ _ h
theorem wpOp_call {i:Nat} {o:Oper} {a:Act} {w:World} (ho:ops[i]?=some o) (hw:Region.wanted o (yielded ops a.tmps)=true) {f:FuncId} {args:Array Value}
  (hrun:(execOp a.eval o).run P w=.ok (.enter f args) w) {R:Value->World->Prop} (hc:Calls P f args w fun e w'=>∃ v,e=.returned v/\R v w') {K:Act->World->Prop} (h:∀ v w',R v w'->K (a.put o.dst v) w'):wpOp P ops Q i K a w:=by
 refine wpOp_step ho fun K' hK=>?_
 rw [if_pos hw];unfold Oper.wp;rw [hrun,Oper.upon_enter];refine hc.mono ?_;rintro e w' ⟨v,rfl,hv⟩;exact hK _ _ (h v w' hv)
def NewV (W0 w:World) (ty:TypeId) (z:Array Value) (D:Nat):Prop:=W0.heap.size<=D/\w.heap[D]?=some (.cells z ty (0,0))
theorem NewV.ext {W0 w w':World} {ty:TypeId} {z:Array Value} {D:Nat} (h:NewV W0 w ty z D) (k:Ext w w'):NewV W0 w' ty z D:=⟨h.1,(k.block _ (gS.1 h.2).1).trans h.2⟩
theorem newV_alloc {W0 w:World} (h:Ext W0 w) (ty:TypeId) (z:Array Value):NewV W0 (w.alloc (.cells z ty)) ty z w.heap.size:=⟨h.size,heap_alloc_new w _⟩
abbrev ptrV (D:Nat):Value:=.pointer (some ⟨D,0,none⟩)
def Flo1 (P:Program) (md:Region.Mode) (ops:Array Oper) (Q:Exit->Act->World->Prop) (S:World->Prop) (W0:World) (ty:TypeId) (z:Array Value) (n:Nat) (l:Bool->Array Bool) (fr:Value->Act) (w:World):Prop :=
 ∀ wx,Ext w wx->wpAnyH P md ops Q S (n+1) (l false) (fr undef) wx/\∀ D,NewV W0 wx ty z D->wpAnyH P md ops Q S n (l true) (fr (ptrV D)) wx
theorem Flo1.start {W0 w:World} {ty:TypeId} {z:Array Value} {n:Nat} {l:Bool->Array Bool} {fr:Value->Act} (h:Flo1 P md ops Q S W0 ty z n l fr w):wpAnyH P md ops Q S (n+1) (l false) (fr undef) w:=(h w (Ext.refl _)).1
theorem Flo1.call {W0 w:World} {ty:TypeId} {z:Array Value} {n:Nat} {l:Bool->Array Bool} {fr:Value->Act} {j d:Nat} (hA:IsAlloc P ops j d ty z) (hS:∀ w',Ext W0 w'->S w') (hw:Ext W0 w) (i:Nat) {o:Oper} (ho:ops[i]?=some o)
  (hr:∀ p,Region.ready md ops (l p)=i :: (if p then [] else [j])) (hl:(l false).setIfInBounds j true=l true) (hfr:∀ t v,(fr t).put (some d) v=fr v)
  (hwa:∀ t,Region.wanted o (yielded ops (fr t).tmps)=true) (f:FuncId) (args:Array Value) (hrun:∀ t wx,(execOp (fr t).eval o).run P wx=.ok (.enter f args) wx)
  {R:Value->World->Prop} (hc:∀ wx,Ext w wx->Calls P f args wx fun e w'=>∃ v,e=.returned v/\R v w'/\Ext wx w') (l':Bool->Array Bool) (hl':∀ p,(l p).setIfInBounds i true=l' p) (fr':Value->Value->Act) (hf':∀ v t,(fr t).put o.dst v=fr' v t)
  (next:∀ v w',R v w'->Ext w w'->Flo1 P md ops Q S W0 ty z n l' (fr' v) w'):Flo1 P md ops Q S W0 ty z (n+1) l fr w:=by
 have two:∀ wx,Ext w wx->∀ D,NewV W0 wx ty z D->wpAnyH P md ops Q S (n+1) (l true) (fr (ptrV D)) wx:=fun wx hx D hD=>by
  have hr1:Region.ready md ops (l true)=[i]:=hr true;refine ⟨fun h0=>(by rw [hr1] at h0;cases h0),fun t ht=>?_⟩;rw [hr1] at ht
  rcases List.mem_singleton.1 ht with rfl
  refine wpOp_call ho (hwa _) (hrun _ _) (hc wx hx) fun v w' ⟨hv,hx'⟩=>?_
  rw [hl',hf'];exact ⟨hS _ ((hw.trans hx).trans hx'),(next v w' hv (hx.trans hx') w' (Ext.refl _)).2 D (hD.ext hx')⟩
 intro wx hx;refine ⟨?_,two wx hx⟩;have hr0:Region.ready md ops (l false)=[i,j]:=hr false;refine ⟨fun h0=>(by rw [hr0] at h0;cases h0),fun t ht=>?_⟩;rw [hr0] at ht
 rcases List.mem_cons.1 ht with rfl | ht
 ·refine wpOp_call ho (hwa _) (hrun _ _) (hc wx hx) fun v w' ⟨hv,hx'⟩=>?_
  rw [hl',hf'];exact ⟨hS _ ((hw.trans hx).trans hx'),(next v w' hv (hx.trans hx') w' (Ext.refl _)).1⟩
 ·rcases List.mem_singleton.1 ht with rfl
  refine wpOp_alloc hA ?_;rw [hl,hfr];have he:=extN wx (.cells z ty);exact ⟨hS _ ((hw.trans hx).trans he),two _ (hx.trans he) _ (newV_alloc (hw.trans hx) ty z)⟩
theorem Flo1.take {W0 w:World} {ty:TypeId} {z:Array Value} {n:Nat} {l:Bool->Array Bool} {fr:Value->Act} (hS:∀ w',Ext W0 w'->S w') (hw:Ext W0 w) (i:Nat) {o:Oper} (v:Value) (ho:ops[i]?=some o) (hs:Region.noSelect ops=true)
  (hf:∀ p,Region.free md ops (l p) i=true) (hr:∀ p,(Region.ready md ops (l p)).contains i=true) (hQ:∀ c a w,Q (.panic c) (a.put o.dst v) w->Q (.panic c) a w) (hy:∀ t,YieldsIf P ops S o v (fr t))
  (l':Bool->Array Bool) (hl':∀ p,(l p).setIfInBounds i true=l' p) (fr':Value->Act) (hf':∀ t,(fr t).put o.dst v=fr' t)
  (next:Flo1 P md ops Q S W0 ty z n l' fr' w):Flo1 P md ops Q S W0 ty z (n+1) l fr w:=fun wx hx =>
 ⟨wpAnyH_take ho hs (hf _) (hr _) hQ (hy _) (hS _ (hw.trans hx)) (by rw [hl',hf'];exact (next wx hx).1),fun D hD=>wpAnyH_take ho hs (hf _) (hr _) hQ (hy _) (hS _ (hw.trans hx)) (by rw [hl',hf'];exact (next wx hx).2 D hD)⟩
theorem Flo1.done {W0 w:World} {ty:TypeId} {z:Array Value} {n:Nat} {l:Bool->Array Bool} {fr:Value->Act} {j d:Nat} (hA:IsAlloc P ops j d ty z) (hS:∀ w',Ext W0 w'->S w') (hw:Ext W0 w)
  (hr:Region.ready md ops (l false)=[j]) (hl:(l false).setIfInBounds j true=l true) (hfr:∀ t v,(fr t).put (some d) v=fr v)
  (h:∀ wx,Ext w wx->∀ D,NewV W0 wx ty z D->wpAnyH P md ops Q S n (l true) (fr (ptrV D)) wx):Flo1 P md ops Q S W0 ty z n l fr w:=by
 intro wx hx;refine ⟨?_,h wx hx⟩;refine ⟨fun h0=>(by rw [hr] at h0;cases h0),fun t ht=>?_⟩;rw [hr] at ht
 rcases List.mem_singleton.1 ht with rfl
 refine wpOp_alloc hA ?_;rw [hl,hfr];have he:=extN wx (.cells z ty);exact ⟨hS _ ((hw.trans hx).trans he),h _ (hx.trans he) _ (newV_alloc (hw.trans hx) ty z)⟩
end
end Go.Proofs.YtjfomkoedgipjaaGreatDoor
