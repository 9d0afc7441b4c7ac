/-
  In plain lists: gates, then a measurer: the bits are the signs that the gates give the generators, the group is what it was, and no other outcome comes. In plain lists: an error as gates turns the sign of what does not commute with it. The reference: an error as operations. In plain lists: the encoder and an error as gates: what they make of the Zs at home; how the measurer's run ends behind them. Operations in memory: an owned row to which operations from elsewhere are appended. The program: doneOn: a Pauli done where a control is 1.
-/
import Derived.Test.YtlechhmhmakgpaaGreatDoorS21Sp
namespace Go.Proofs.YtlechhmhmakgpaaGreatDoor
set_option maxRecDepth 100000
set_option maxHeartbeats 8000000
open Go.RowKit
theorem MOk.mono {n m:Nat} (h:n<=m) {o:Gop} (ho:MOk n o):MOk m o:=by
 cases ho with
 | x k cd=>exact .x (by omega) cd
 | cx k k2 k3 cd=>exact .cx (by omega) (by omega) k3 cd
 | h k cd=>exact .h (by omega) cd
 | p k k1 k2 cd=>exact .p (by omega) k1 k2 cd
 | cp k k2 k3 cd=>exact .cp (by omega) (by omega) k3 cd
def twT:List Bool->List Int
 | []=>[]
 | s :: r=>oV s :: oV s :: twT r
theorem twT_at:∀ (ss:List Bool) (k:Nat) (s:Bool),ss[k]?=some s->(twT ss)[2*k]?=some (oV s)/\(twT ss)[2*k+1]?=some (oV s)
 | [],k,s,h=>by simp at h
 | t :: r,0,s,h=>by
  obtain rfl:t=s:=by simpa using h
  exact ⟨rfl,rfl⟩
 | t :: r,k+1,s,h=>by
  have h':r[k]?=some s:=by simpa using h
  obtain ⟨h1,h2⟩:=twT_at r k s h';rw [show 2*(k+1)=2*k+1+1 by omega];exact ⟨by show (twT r)[2*k]?=_;exact h1,by show (twT r)[2*k+1]?=_;exact h2⟩
theorem start_st {N v:Nat} (hN:N<16) (hv:v<2 ^ N) {A:List Gop} (hA:∀ o ∈ A,MOk N o):StS N ((bsQ v (N+1)).map (actNL A)):=by
 have hgt:GtP (N+1) (actNL A):=actNL_gt (by omega) fun o ho=>((hA o ho).mono (Nat.le_succ N)).n
 refine ⟨(bsQ_good (by omega)).map hgt,by rw [List.length_map,bsQ_len],bd_map hgt bsQ_bd,?_⟩;have:=(bsQ_spare hv).map hgt.aut
 rwa [tl_keepL hA] at this
theorem meas_yes {N v:Nat} (hN:N<16) (hv:v<2 ^ N) {A:List Gop} (hA:∀ o ∈ A,MOk N o/\o.cnd=[]) {gens:List QP} {ss:List Bool} (hl:ss.length=gens.length) (hk:gens.length<=N)
  (hg:∀ (k:Nat) (g:QP) (s:Bool),gens[k]?=some g->ss[k]?=some s->bdQ N g/\actNL A (tlQ k (decide (v / 2 ^ k % 2=1)))=⟨g.x,g.z,g.m ^^ s⟩) :
  ∃ l',runT (twT ss) (A++mgO N gens 0) 0 ⟨bsQ v (N+1),List.replicate gens.length 0,0⟩=(⟨l',ss.map oV,2*gens.length⟩,0,0)/\orL l'=orL ((bsQ v (N+1)).map (actNL A)):=by
 have hst:=start_st hN hv fun o ho=>(hA o ho).1
 have hgt:GtP (N+1) (actNL A):=actNL_gt (by omega) fun o ho=>((hA o ho).1.mono (Nat.le_succ N)).n
 obtain ⟨l',e,h1,h2⟩:=mg_run hN (tape:=twT ss) (gens:=gens) (ss:=ss) (bits:=List.replicate gens.length 0) (used:=0) hst hl (fun k g s hgk hsk=>by
  obtain ⟨b1,b2⟩:=hg k g s hgk hsk;obtain ⟨t1,t2⟩:=twT_at ss k s hsk;have hkl:=(List.getElem?_eq_some_iff.1 hgk).1;refine ⟨b1,?_,by rw [Nat.zero_add];exact t1,by rw [Nat.zero_add];exact t2⟩;rw [<-b2]
  exact (bsQ_grp (v:=v) (n:=N+1) (i:=k) (by omega)).map hgt.aut) 0 (0+A.length) (by rw [List.length_replicate];omega)
 refine ⟨l',?_,?_⟩
 ·rw [run_app (run_gates (n:=N) (fun o ho=>⟨(hA o ho).1.n,(hA o ho).2⟩) 0 _),e]
  simp
 ·exact (or_same hst.good h1.good (by rw [hst.len];exact hst.bd) h2).symm
theorem meas_no {N v:Nat} (hN:N<16) (hv:v<2 ^ N) {A:List Gop} (hA:∀ o ∈ A,MOk N o/\o.cnd=[]) {g:QP} {gr:List QP} {s:Bool} {bits tape:List Int} (hk:1<=N)
  (hg:bdQ N g/\actNL A (tlQ 0 (decide (v / 2 ^ 0 % 2=1)))=⟨g.x,g.z,g.m ^^ s⟩) (ht:tape[0]?=some (oV (!s))) :
  (runT tape (A++mgO N (g :: gr) 0) 0 ⟨bsQ v (N+1),bits,0⟩).2.1=20:=by
 have hst:=start_st hN hv fun o ho=>(hA o ho).1
 have hgt:GtP (N+1) (actNL A):=actNL_gt (by omega) fun o ho=>((hA o ho).1.mono (Nat.le_succ N)).n
 rw [run_app (run_gates (n:=N) (fun o ho=>⟨(hA o ho).1.n,(hA o ho).2⟩) 0 _)];refine mb_no hN hst hg.1 (s:=s) ?_ ht 0 _ _;rw [<-hg.2];exact (bsQ_grp (v:=v) (n:=N+1) (i:=0) (by omega)).map hgt.aut
def eqO (e:QP) (q:Nat):List Gop:=(if e.z.testBit q=true then [wP 2 q] else [])++if e.x.testBit q=true then [wX q] else []
def erO (e:QP):Nat->List Gop
 | 0=>[]
 | k+1=>erO e k++eqO e k
theorem erO_ok {N:Nat} (e:QP):∀ k,k<=N->∀ o ∈ erO e k,MOk N o/\o.cnd=[]
 | 0,_,o,ho=>by cases ho
 | k+1,hk,o,ho=>by
  rcases List.mem_append.1 ho with h | h
  ·exact erO_ok e k (by omega) o h
  ·unfold eqO at h
   rcases List.mem_append.1 h with h | h
   ·split at h
    ·rw [List.mem_singleton.1 h];exact ⟨.p (k:=2) (by omega) (by decide) (by decide) [],rfl⟩
    ·cases h
   ·split at h
    ·rw [List.mem_singleton.1 h];exact ⟨.x (by omega) [],rfl⟩
    ·cases h
theorem quar_two (q:Nat) (p:QP):quarG q (quarG q p)=⟨p.x,p.z,p.m ^^ p.x.testBit q⟩:=by
 refine QP.ext' rfl (Nat.eq_of_testBit_eq fun j=>?_) ?_
 ·rw [quar_z,quar_z,quar_x]
  cases p.z.testBit j<;>cases decide (q=j)<;>cases p.x.testBit j<;>rfl
 ·show ((p.m ^^ (p.x.testBit q && p.z.testBit q)) ^^ (p.x.testBit q && (quarG q p).z.testBit q))=(p.m ^^ p.x.testBit q)
  rw [quar_z,decide_eq_true rfl]
  cases p.m<;>cases p.x.testBit q<;>cases p.z.testBit q<;>rfl
theorem eq_act (e:QP) (q:Nat) (p:QP):actNL (eqO e q) p=⟨p.x,p.z,p.m ^^ ((p.x.testBit q && e.z.testBit q) ^^ (p.z.testBit q && e.x.testBit q))⟩:=by
 have h1:∀ r:QP,actN (wP 2 q) r=⟨r.x,r.z,r.m ^^ r.x.testBit q⟩:=fun r=>by
  rw [show actN (wP 2 q)=itG (quarG q) 2 from actN_p q 2 []];exact quar_two q r
 have h2:∀ r:QP,actN (wX q) r=⟨r.x,r.z,r.m ^^ r.z.testBit q⟩:=fun r=>by
  rw [show actN (wX q)=flipG q from actN_x q []]
  rfl
 unfold eqO
 cases e.z.testBit q<;>cases e.x.testBit q<;>simp [actNL,h1,h2]
theorem er_act (e p:QP):∀ k,actNL (erO e k) p=⟨p.x,p.z,p.m ^^ decide (atN p e k % 2=1)⟩
 | 0=>QP.ext' rfl rfl (by show p.m=(p.m ^^ false);rw [Bool.xor_false])
 | k+1=>by
  show actNL (erO e k++eqO e k) p=_
  rw [actNL_append,er_act e p k,eq_act];refine QP.ext' rfl rfl ?_
  show ((p.m ^^ decide (atN p e k % 2=1)) ^^ ((p.x.testBit k && e.z.testBit k) ^^ (p.z.testBit k && e.x.testBit k)))=(p.m ^^ decide (atN p e (k+1) % 2=1))
  have hs:atN p e (k+1)=atN p e k+(b1 (p.x.testBit k && e.z.testBit k)+b1 (p.z.testBit k && e.x.testBit k)):=rfl;rw [hs];generalize atN p e k=T;generalize (p.x.testBit k && e.z.testBit k)=a;generalize (p.z.testBit k && e.x.testBit k)=b;rw [Bool.xor_assoc]
  congr 1
  by_cases hT:T % 2=1<;>cases a<;>cases b<;>simp [hT,b1]<;>omega
theorem er_all {N:Nat} (hN:N<=16) {e:QP} (he:bdQ N e) (p:QP):actNL (erO e N) p=⟨p.x,p.z,p.m ^^ ant p e⟩:=by
 rw [er_act,ant_smF];rw [show smF (fun j=>b1 (p.x.testBit j && e.z.testBit j)+b1 (p.z.testBit j && e.x.testBit j)) 16=atN p e N from smF_less hN fun j hj=>by rw [bit_hi he.1 hj,bit_hi he.2 hj,Bool.and_false,Bool.and_false];rfl]
theorem opsO_more {wa w7:World} {base:Nat} {v v7:Value} {ops:List Gop} {xs:List Value} {o:Gop} {a1:Option Addr} {n1 c1:Nat} {a2:Option Addr} {n2 c2:Nat} (hown:wa.ownsRow base 52 6 v ops.length xs)
  (hrows:∀ t g,ops[t]?=some g->∃ (a1:Option Addr) (n1 c1:Nat) (a2:Option Addr) (n2 c2:Nat),xs[t*6]?=some (.int .i64 g.kind)/\xs[t*6+1]?=some (.int .i64 g.k)/\xs[t*6+2]?=some (.slice a1 n1 c1)/\xs[t*6+3]?=some (.int .i64 g.q)/\xs[t*6+4]?=some (.int .i64 g.bit)/\xs[t*6+5]?=some (.slice a2 n2 c2)/\OpO wa g a1 n1 c1 a2 n2 c2)
  (hO:OpO wa o a1 n1 c1 a2 n2 c2) (h7:w7.ownsRow base 52 6 v7 (ops.length+1) (xs++[.int .i64 o.kind,.int .i64 o.k,.slice a1 n1 c1,.int .i64 o.q,.int .i64 o.bit,.slice a2 n2 c2])) (hg:wa.grownBy w7 v.ownBlock):OpsO w7 base v7 (ops++[o]):=by
 have hk:∀ (b:Nat) (cur:Array Value) (fr:Nat × Nat),wa.heap[b]?=some (.cells cur 3 fr)->w7.heap[b]?=wa.heap[b]?:=fun b cur fr hb=>hg.block b (gS.1 hb).1 (fun e=>by
  obtain ⟨_,cs',fr',e2⟩:=PtKind hown b e.symm;rw [hb] at e2
  cases e2)
 exact OpsO.snoc h7 hown.1 hrows (fun _ _ _ _ _ _ _ k=>k.keep hg.size hk) (hO.keep hg.size hk)
def pcO (c:UInt8) (q:Nat):List Gop:=(if c=90\/c=89 then [wP 2 q] else [])++if c=88\/c=89 then [wX q] else []
def poL (T:List UInt8):Nat->List Gop
 | 0=>[]
 | k+1=>poL T k++pcO (T.getD k 73) k
theorem poL_len (T:List UInt8):∀ k,(poL T k).length<=2*k
 | 0=>Nat.le_refl _
 | k+1=>by
  have h:=poL_len T k
  have h2:(pcO (T.getD k 73) k).length<=2:=by unfold pcO;split<;>split<;>simp
  show (poL T k++pcO (T.getD k 73) k).length<=_
  rw [List.length_append];omega
theorem PauliOps_any (T:List UInt8) (hT:T.length<=12) (hL:∀ c ∈ T,isL c=true) (w:World) :
  Calls Tryz.prog 31 #[.string ⟨T.toArray⟩] w fun e w'=>∃ v,e=.returned v/\OpsO w' w.heap.size v (poL T T.length)/\Ext w w':=by
 have hsz:(⟨T.toArray⟩:ByteArray).size=T.length:=by simp [ByteArray.size]
 obtain ⟨i0,hi0,hz0,hz1,hz2⟩:=info_parts op_info;have HT:=Lh hT;have HL:=Lh hL;clear hT hL
 go_enter Tryz.func31,Tryz.ntmps31
 go_wp2_with fail
 go_loopg [3,4] T.length (fun kk s3 s4 wr=>∃ i:Nat,s4=.int .i64 (i:Int)/\i<=T.length/\T.length-i=kk/\OpsO wr w.heap.size s3 (poL T i)/\Ext w wr)
 case atStart=>exact ⟨0,rfl,Nat.zero_le _,rfl,OpsO.nil _ _,Ext.refl _⟩
 case round =>
  obtain ⟨i,rfl,hi,hkk,hO,hE⟩:=hrel;have Hkk:=Lh hkk;have HO:=Lh hO;have HE:=Lh hE
  by_cases hin:i=T.length
  ·have q1:¬ (i:Int)<(T.length:Int):=by omega
   rw [hin] at HO;clear hkk hi hO hE hin
   go_wp2_with fail
   go_ret
   exact ⟨_,rfl,HO.out,HE.out⟩
  have hlt:i<T.length:=by omega
  have q1:(i:Int)<(T.length:Int):=by omega
  have q0:(0:Int)<=(i:Int):=by omega
  have wk:IntKind.i64.wrap ((i:Int)+1)=((i+1:Nat):Int):=by rw [IntKind.wrap_i64];have:=HT.out;omega
  obtain ⟨c,hc⟩:∃ c,T[i]?=some c:=⟨_,List.getElem?_eq_getElem hlt⟩;have hszi:=str_lt hlt;have hg:=let_at hc hszi;have Hgd:=Lh (show T.getD i 73=c by rw [List.getD_eq_getElem?_getD,hc];rfl);have hl:=HL.out c (List.mem_of_getElem? hc);have Hlt:=Lh hlt;have Hlen:=Lh (poL_len T i);obtain ⟨xs,hown,hrows⟩:=hO;have Hown:=Lh hown;have Hrows:=Lh hrows;have HE:=Lh HE.out;clear hkk hi hE hin hc hown hrows
  have h4:c=73\/c=88\/c=89\/c=90:=by
   simp only [isL,Bool.or_eq_true,beq_iff_eq] at hl
   rcases hl with ((h | h) | h) | h
   all_goals first | exact Or.inl h | exact Or.inr (Or.inl h) | exact Or.inr (Or.inr (Or.inl h)) | exact Or.inr (Or.inr (Or.inr h))
  clear hl
  rcases h4 with rfl | rfl | rfl | rfl
  ·have HP:=Lh (show poL T (i+1)=poL T i by show poL T i++pcO (T.getD i 73) i=_;rw [Hgd.out];exact List.append_nil _)
   have hg:_=73:=hg
   go_wp2_with fail
   go_roundg (T.length-(i+1))
   case measure=>have:=Hkk.out;have:=Hlt.out;omega
   case rel=>exact ⟨i+1,rfl,Hlt.out,rfl,by rw [HP.out];exact HO.out,HE.out⟩
  ·have HP:=Lh (show poL T (i+1)=poL T i++[wX i] by show poL T i++pcO (T.getD i 73) i=_;rw [Hgd.out];rfl)
   have hg:_=88:=hg
   go_wp2_with (at_builtin;refine wpList_append_own _ rfl _ _ 22 rfl w.heap.size 52 i0 (.agg #[.int .i64 0,.int .i64 0,.slice none 0 0,.int .i64 0,.int .i64 0,.slice none 0 0]) 6 80 Tryz.underlying22 hi0 hz0 hz1 hz2 rfl (by decide) _ (poL T i).length xs rfl (Hown.out.alloc _) ⟨wr.heap.size,0,none⟩ 1 1 [.int .i64 2,.int .i64 0,.slice none 0 0,.int .i64 (i:Int),.int .i64 0,.slice none 0 0] rfl rfl (new_op wr _ _ _ _ _ _ _ _ _ _ _) (one_op _ _ _ _ _ _ _ _ _ _) (by unfold maxLen;have:=Hlen.out;have:=Hlt.out;have:=HT.out;omega) (by have:=Hlen.out;have:=Hlt.out;have:=HT.out;omega) (Nat.le_trans HE.out.size (ext_al wr _).size) ?_;intro v' w7 hown' hgrow' _)
   go_roundg (T.length-(i+1))
   case measure=>have:=Hkk.out;have:=Hlt.out;omega
   case rel=>exact ⟨i+1,rfl,Hlt.out,rfl,by rw [HP.out];exact opsO_more (o:=wX i) (Hown.out.alloc _) (fun t g hg=>by obtain ⟨b1,b2,b3,b4,b5,b6,b7⟩:=Hrows.out t g hg;exact ⟨b1,b2,b3,b4,b5,b6,b7.1,b7.2.1,b7.2.2.1,b7.2.2.2.1,b7.2.2.2.2.1,b7.2.2.2.2.2.1,b7.2.2.2.2.2.2.ext (ext_al wr _)⟩) (nilO _ rfl rfl) hown' hgrow',grown_ext (HE.out.trans (ext_al wr _)) hgrow' (fun k hk=>(own_lt Hown.out k hk).1)⟩
  ·have HP:=Lh (show poL T (i+1)=(poL T i++[wP 2 i])++[wX i] by show poL T i++pcO (T.getD i 73) i=_;rw [Hgd.out,List.append_assoc];rfl)
   have hg:_=89:=hg
   go_upto_region 7 with (at_builtin;refine wpList_append_own _ rfl _ _ 22 rfl w.heap.size 52 i0 (.agg #[.int .i64 0,.int .i64 0,.slice none 0 0,.int .i64 0,.int .i64 0,.slice none 0 0]) 6 80 Tryz.underlying22 hi0 hz0 hz1 hz2 rfl (by decide) _ (poL T i).length xs rfl (Hown.out.alloc _) ⟨wr.heap.size,0,none⟩ 1 1 [.int .i64 4,.int .i64 8,.slice none 0 0,.int .i64 (i:Int),.int .i64 0,.slice none 0 0] rfl rfl (new_op wr _ _ _ _ _ _ _ _ _ _ _) (one_op _ _ _ _ _ _ _ _ _ _) (by unfold maxLen;have:=Hlen.out;have:=Hlt.out;have:=HT.out;omega) (by have:=Hlen.out;have:=Hlt.out;have:=HT.out;omega) (Nat.le_trans HE.out.size (ext_al wr _).size) ?_;intro v' w7 hown' hgrow' _)
   have hO2:=opsO_more (o:=wP 2 i) (Hown.out.alloc _) (fun t g hg=>by obtain ⟨b1,b2,b3,b4,b5,b6,b7⟩:=Hrows.out t g hg;exact ⟨b1,b2,b3,b4,b5,b6,b7.1,b7.2.1,b7.2.2.1,b7.2.2.2.1,b7.2.2.2.2.1,b7.2.2.2.2.2.1,b7.2.2.2.2.2.2.ext (ext_al wr _)⟩) (nilO _ rfl rfl) hown' hgrow';have HE2:=Lh (grown_ext (HE.out.trans (ext_al wr _)) hgrow' (fun k hk=>(own_lt Hown.out k hk).1));have Hlen2:=Lh (show (poL T i++[wP 2 i]).length<=2*i+1 by rw [List.length_append];have:=Hlen.out;simp;omega);obtain ⟨xs2,hown2,hrows2⟩:=hO2;have Hown2:=Lh hown2;have Hrows2:=Lh hrows2;clear hown2 hrows2 hown' hgrow';obtain ⟨w6,hw6⟩:∃ x,x=w7:=⟨_,rfl⟩;subst hw6
   go_wp2_with (at_builtin;refine wpList_append_own _ rfl _ _ 22 rfl w.heap.size 52 i0 (.agg #[.int .i64 0,.int .i64 0,.slice none 0 0,.int .i64 0,.int .i64 0,.slice none 0 0]) 6 80 Tryz.underlying22 hi0 hz0 hz1 hz2 rfl (by decide) _ (poL T i++[wP 2 i]).length xs2 rfl (Hown2.out.alloc _) ⟨w6.heap.size,0,none⟩ 1 1 [.int .i64 2,.int .i64 0,.slice none 0 0,.int .i64 (i:Int),.int .i64 0,.slice none 0 0] rfl rfl (new_op w6 _ _ _ _ _ _ _ _ _ _ _) (one_op _ _ _ _ _ _ _ _ _ _) (by unfold maxLen;have:=Hlen2.out;have:=Hlt.out;have:=HT.out;omega) (by have:=Hlen2.out;have:=Hlt.out;have:=HT.out;omega) (Nat.le_trans HE2.out.size (ext_al w6 _).size) ?_;intro v' w7 hown' hgrow' _)
   go_roundg (T.length-(i+1))
   case measure=>have:=Hkk.out;have:=Hlt.out;omega
   case rel=>exact ⟨i+1,rfl,Hlt.out,rfl,by rw [HP.out];exact opsO_more (o:=wX i) (Hown2.out.alloc _) (fun t g hg=>by obtain ⟨b1,b2,b3,b4,b5,b6,b7⟩:=Hrows2.out t g hg;exact ⟨b1,b2,b3,b4,b5,b6,b7.1,b7.2.1,b7.2.2.1,b7.2.2.2.1,b7.2.2.2.2.1,b7.2.2.2.2.2.1,b7.2.2.2.2.2.2.ext (ext_al w6 _)⟩) (nilO _ rfl rfl) hown' hgrow',grown_ext (HE2.out.trans (ext_al w6 _)) hgrow' (fun k hk=>(own_lt Hown2.out k hk).1)⟩
  ·have HP:=Lh (show poL T (i+1)=poL T i++[wP 2 i] by show poL T i++pcO (T.getD i 73) i=_;rw [Hgd.out];rfl)
   have hg:_=90:=hg
   go_wp2_with (at_builtin;refine wpList_append_own _ rfl _ _ 22 rfl w.heap.size 52 i0 (.agg #[.int .i64 0,.int .i64 0,.slice none 0 0,.int .i64 0,.int .i64 0,.slice none 0 0]) 6 80 Tryz.underlying22 hi0 hz0 hz1 hz2 rfl (by decide) _ (poL T i).length xs rfl (Hown.out.alloc _) ⟨wr.heap.size,0,none⟩ 1 1 [.int .i64 4,.int .i64 8,.slice none 0 0,.int .i64 (i:Int),.int .i64 0,.slice none 0 0] rfl rfl (new_op wr _ _ _ _ _ _ _ _ _ _ _) (one_op _ _ _ _ _ _ _ _ _ _) (by unfold maxLen;have:=Hlen.out;have:=Hlt.out;have:=HT.out;omega) (by have:=Hlen.out;have:=Hlt.out;have:=HT.out;omega) (Nat.le_trans HE.out.size (ext_al wr _).size) ?_;intro v' w7 hown' hgrow' _)
   go_roundg (T.length-(i+1))
   case measure=>have:=Hkk.out;have:=Hlt.out;omega
   case rel=>exact ⟨i+1,rfl,Hlt.out,rfl,by rw [HP.out];exact opsO_more (o:=wP 2 i) (Hown.out.alloc _) (fun t g hg=>by obtain ⟨b1,b2,b3,b4,b5,b6,b7⟩:=Hrows.out t g hg;exact ⟨b1,b2,b3,b4,b5,b6,b7.1,b7.2.1,b7.2.2.1,b7.2.2.2.1,b7.2.2.2.2.1,b7.2.2.2.2.2.1,b7.2.2.2.2.2.2.ext (ext_al wr _)⟩) (nilO _ rfl rfl) hown' hgrow',grown_ext (HE.out.trans (ext_al wr _)) hgrow' (fun k hk=>(own_lt Hown.out k hk).1)⟩
theorem act_of_w {n:Nat}:∀ {ops:List Gop},(∀ o ∈ ops,WOk n o)->∀ p,actNL ops p=actL ops p
 | [],_,_=>rfl
 | o :: r,h,p=>by
  show actNL r (actN o p)=actL r (actW o p)
  rw [(NOk.of_w (h o (by simp))).2.2];exact act_of_w (fun x hx=>h x (List.mem_cons_of_mem _ hx)) _
theorem MOk.of_w {n:Nat} {o:Gop} (h:WOk n o):MOk n o/\o.cnd=[]:=by
 cases h with
 | x h=>exact ⟨.x h [],rfl⟩
 | cx h h2 h3=>exact ⟨.cx h h2 h3 [],rfl⟩
 | h h=>exact ⟨.h h [],rfl⟩
 | p h h2=>exact ⟨.p h (by omega) (by omega) [],rfl⟩
def eQ (D:List UInt8):QP:=⟨nX D,nZz D,false⟩
theorem bit_x {D:List UInt8} {k:Nat} {c:UInt8} (h:D[k]?=some c):(nX D).testBit k=lx c:=by
 rw [Nat.testBit_eq_decide_div_mod_eq,nX_bitE D k c h]
 cases lx c<;>rfl
theorem bit_z {D:List UInt8} {k:Nat} {c:UInt8} (h:D[k]?=some c):(nZz D).testBit k=lz c:=by
 rw [Nat.testBit_eq_decide_div_mod_eq,nZ_bitE D k c h]
 cases lz c<;>rfl
theorem po_er {n:Nat} {D:List UInt8} (hD:Let n D):∀ k,k<=n->poL D k=erO (eQ D) k
 | 0,_=>rfl
 | k+1,hk=>by
  show poL D k++pcO (D.getD k 73) k=erO (eQ D) k++eqO (eQ D) k
  rw [po_er hD k (by omega)]
  congr 1
  obtain ⟨c,hc⟩:∃ c,D[k]?=some c:=⟨_,List.getElem?_eq_getElem (by rw [hD.1];omega)⟩;rw [List.getD_eq_getElem?_getD,hc,Option.getD_some];unfold pcO eqO eQ;rw [bit_x hc,bit_z hc];have hl:=hD.2 c (List.mem_of_getElem? hc)
  rcases isL_cases hl with rfl | rfl | rfl | rfl<;>rfl
theorem eQ_bd {n:Nat} {D:List UInt8} (hD:Let n D):bdQ n (eQ D):=by
 have h1:=nX_lt D;have h2:=nZz_lt D;rw [hD.1] at h1 h2;exact ⟨h1,h2⟩
theorem ant_eQ {n:Nat} (hn:n<=12) {T D:List UInt8} (hT:isP n T=true) (hD:Let n D):ant (toQ (pkO n T)) (eQ D)=decide (apN (T.drop 1) D % 2=1):=by
 obtain ⟨e1,e2,e3⟩:=pkO_is hn T;obtain ⟨h1,h2⟩:=isP_let hT;have hTi:IsT (pkO n T) (T.drop 1):=⟨by rw [e1];unfold paX;rw [if_pos hT],by rw [e2];unfold paZ;rw [if_pos hT]⟩;have b:=eQ_bd hD;have hp:2 ^ n<=65536:=Nat.le_trans (Nat.pow_le_pow_right (by decide) hn) (by decide);have hb:eQ D=toQ ⟨nX D,nZz D,false,Nat.lt_of_lt_of_le b.1 hp,Nat.lt_of_lt_of_le b.2 hp⟩:=rfl;rw [hb,ant_cm,cm_ap (n:=n) (by omega) h2 hD hTi ⟨rfl,rfl⟩]
 have h2:apN (T.drop 1) D % 2=0\/apN (T.drop 1) D % 2=1:=by omega
 rcases h2 with h | h
 ·rw [decide_eq_true h,decide_eq_false (by omega)];rfl
 ·rw [decide_eq_true h,decide_eq_false (by omega)];rfl
def ssL (gens:List (List UInt8)) (D:List UInt8):List Bool:=gens.map fun T=>decide (apN (T.drop 1) D % 2=1)
theorem ss_syn (gens:List (List UInt8)) (D:List UInt8):(ssL gens D).map oV=synL gens D:=by
 unfold ssL synL;rw [List.map_map]
 refine List.map_congr_left fun T _=>?_
 show oV (decide (apN (T.drop 1) D % 2=1))=if apN (T.drop 1) D % 2=1 then 1 else 0
 by_cases h:apN (T.drop 1) D % 2=1
 ·rw [decide_eq_true h,if_pos h];rfl
 ·rw [decide_eq_false h,if_neg h];rfl
def gsQ (n:Nat) (gens:List (List UInt8)):List QP:=(psL n gens).map toQ
theorem gsQ_at {n:Nat} {gens:List (List UInt8)} {k:Nat} {g:QP} (h:(gsQ n gens)[k]?=some g):∃ T,gens[k]?=some T/\g=toQ (pkO n T):=by
 unfold gsQ psL at h;rw [List.getElem?_map,List.getElem?_map] at h
 cases hT:gens[k]? with
 | none=>rw [hT] at h;cases h
 | some T=>rw [hT] at h;exact ⟨T,rfl,(by cases h;rfl)⟩
theorem gsQ_len (n:Nat) (gens:List (List UInt8)):(gsQ n gens).length=gens.length:=by unfold gsQ psL;rw [List.length_map,List.length_map]
theorem gsQ_bd {n:Nat} {gens:List (List UInt8)} (h:(ccF (n:Int) gens).1=0):∀ g ∈ gsQ n gens,bdQ n g:=fun g hg=>by
 have hG:=good_code h;rw [Int.toNat_natCast] at hG;exact hG.fit g hg
def aeO (n:Nat) (gens:List (List UInt8)) (D:List UInt8):List Gop:=invO (wayC n gens)++poL D n
theorem ae_ok {n:Nat} {gens:List (List UInt8)} (h:(ccF (n:Int) gens).1=0) {D:List UInt8} (hD:Let n D):∀ o ∈ aeO n gens D,MOk n o/\o.cnd=[]:=fun o ho=>by
 unfold aeO at ho
 rcases List.mem_append.1 ho with ho | ho
 ·exact MOk.of_w ((undo_all (wayC_ok h).1).1 o ho)
 ·rw [po_er hD n (Nat.le_refl n)] at ho
  exact erO_ok _ n (Nat.le_refl n) o ho
theorem ae_sign {n:Nat} {gens:List (List UInt8)} (h:(ccF (n:Int) gens).1=0) {D:List UInt8} (hD:Let n D) {v:Nat} (hv:∀ k,k<gens.length->v / 2 ^ k % 2=0) {k:Nat} {g:QP} {s:Bool} (hg:(gsQ n gens)[k]?=some g) (hs:(ssL gens D)[k]?=some s) :
  bdQ n g/\actNL (aeO n gens D) (tlQ k (decide (v / 2 ^ k % 2=1)))=⟨g.x,g.z,g.m ^^ s⟩:=by
 obtain ⟨h11,h12,hkn,hall⟩:=cc_zero h
 have hn:n<=12:=by omega
 have hb:=gsQ_bd h g (List.mem_of_getElem? hg);obtain ⟨T,hT,rfl⟩:=gsQ_at hg;have hk:=(List.getElem?_eq_some_iff.1 hT).1;refine ⟨hb,?_⟩
 have hs2:s=decide (apN (T.drop 1) D % 2=1):=by
  unfold ssL at hs;rw [List.getElem?_map,hT] at hs
  cases hs;rfl
 have hi:k<16:=by omega
 have e:tlQ k (decide (v / 2 ^ k % 2=1))=toQ (zK k hi):=by
  rw [hv k hk];rfl
 unfold aeO;rw [actNL_append,e,act_of_w (undo_all (wayC_ok h).1).1,enc_is h hT hi,po_er hD n (Nat.le_refl n),er_all (by omega) (eQ_bd hD),ant_eQ hn (hall T (List.mem_of_getElem? hT)) hD,hs2]
theorem ms_yes {n:Nat} {gens:List (List UInt8)} (h:(ccF (n:Int) gens).1=0) {D:List UInt8} (hD:Let n D) {v:Nat} (hv:v<2 ^ n) (hz:∀ k,k<gens.length->v / 2 ^ k % 2=0) :
  ∃ l',runT (twT (ssL gens D)) (aeO n gens D++mgO n (gsQ n gens) 0) 0 ⟨bsQ v (n+1),List.replicate gens.length 0,0⟩=(⟨l',synL gens D,2*gens.length⟩,0,0)/\orL l'=orL ((bsQ v (n+1)).map (actNL (aeO n gens D))):=by
 obtain ⟨h11,h12,hkn,hall⟩:=cc_zero h
 have hl:(ssL gens D).length=(gsQ n gens).length:=by rw [gsQ_len];unfold ssL;rw [List.length_map]
 obtain ⟨l',e1,e2⟩:=meas_yes (N:=n) (by omega) hv (ae_ok h hD) (gens:=gsQ n gens) hl (by rw [gsQ_len];omega) fun k g s hg hs=>ae_sign h hD hz hg hs
 rw [gsQ_len,ss_syn] at e1;exact ⟨l',e1,e2⟩
theorem ms_no {n:Nat} {gens:List (List UInt8)} (h:(ccF (n:Int) gens).1=0) {D:List UInt8} (hD:Let n D) {v:Nat} (hv:v<2 ^ n) (hz:∀ k,k<gens.length->v / 2 ^ k % 2=0) (hne:gens≠[]) {tape bits:List Int} {s:Bool} (hs:(ssL gens D)[0]?=some s) (ht:tape[0]?=some (oV (!s))) :
  (runT tape (aeO n gens D++mgO n (gsQ n gens) 0) 0 ⟨bsQ v (n+1),bits,0⟩).2.1=20:=by
 obtain ⟨h11,h12,hkn,hall⟩:=cc_zero h
 cases hg:gsQ n gens with
 | nil =>
  have:=gsQ_len n gens;rw [hg] at this;exact absurd (List.eq_nil_of_length_eq_zero this.symm) hne
 | cons g gr =>
  exact meas_no (N:=n) (by omega) hv (ae_ok h hD) (by omega) (ae_sign h hD hz (by rw [hg];rfl) hs) ht
theorem ms_none {n:Nat} {gens:List (List UInt8)} (h:(ccF (n:Int) gens).1=0) {D:List UInt8} (hD:Let n D) (v:Nat) (bits:List Int):runT [] (aeO n gens D) 0 ⟨bsQ v (n+1),bits,0⟩=(⟨(bsQ v (n+1)).map (actNL (aeO n gens D)),bits,0⟩,0,0) :=
 run_gates (n:=n) (fun o ho=>⟨(ae_ok h hD o ho).1.n,(ae_ok h hD o ho).2⟩) 0 _
structure Stay (base:Nat) (w w':World):Prop where
 size:w.heap.size<=w'.heap.size
 old:∀ b,b<w.heap.size->b<base->w'.heap[b]?=w.heap[b]?
 ints:∀ (b:Nat) (cur:Array Value) (fr:Nat × Nat),w.heap[b]?=some (.cells cur 3 fr)->w'.heap[b]?=w.heap[b]?
theorem Stay.refl (base:Nat) (w:World):Stay base w w:=⟨Nat.le_refl _,fun _ _ _=>rfl,fun _ _ _ _=>rfl⟩
theorem Stay.trans {base:Nat} {w w' w'':World} (h:Stay base w w') (k:Stay base w' w''):Stay base w w'' :=
 ⟨Nat.le_trans h.size k.size,fun b h1 h2=>(k.old b (Nat.lt_of_lt_of_le h1 h.size) h2).trans (h.old b h1 h2),fun b cur fr e=>(k.ints b cur fr ((h.ints b cur fr e).trans e)).trans (h.ints b cur fr e)⟩
theorem Stay.of {base:Nat} {w w':World} (h:Ext w w'):Stay base w w':=⟨h.size,fun b h1 _=>h.block b h1,fun b _ _ e=>h.block b (gS.1 e).1⟩
theorem Stay.grown {base n:Nat} {v:Value} {xs:List Value} {w w':World} (ho:w.ownsRow base 52 6 v n xs) (hg:w.grownBy w' v.ownBlock):Stay base w w' :=
 ⟨hg.size,fun b h1 h2=>hg.block b h1 (fun e=>by have:=(own_lt ho b e.symm).1;omega),fun b cur fr hb=>hg.block b (gS.1 hb).1 (fun e=>by
  obtain ⟨_,cs',fr',e2⟩:=PtKind ho b e.symm;rw [hb] at e2
  cases e2)⟩
def OpY (base:Nat) (w:World) (g:Gop) (a1:Option Addr) (n1 c1:Nat) (a2:Option Addr) (n2 c2:Nat):Prop:=∀ w',Stay base w w'->OpL w' g a1 n1 c1 a2 n2 c2
theorem OpY.of_O {base:Nat} {w:World} {g:Gop} {a1:Option Addr} {n1 c1:Nat} {a2:Option Addr} {n2 c2:Nat} (h:OpO w g a1 n1 c1 a2 n2 c2):OpY base w g a1 n1 c1 a2 n2 c2:=fun _ k=>(h.keep k.size k.ints).l
theorem ints_old {base:Nat} {u w w':World} {a:Option Addr} {n:Nat} {l:List Int} (h:IntsAt u a n l) (hx:Ext u w) (hb:u.heap.size<=base) (k:Stay base w w'):IntsAt w' a n l:=by
 refine ⟨h.1,?_⟩
 rcases h.2 with h0 | ⟨b,o,e,hlt,hc⟩
 ·exact Or.inl h0
 ·have h1:b<w.heap.size:=Nat.lt_of_lt_of_le hlt hx.size
  refine Or.inr ⟨b,o,e,Nat.lt_of_lt_of_le h1 k.size,fun t ht=>?_⟩;rw [World.cell?_of_block (a:=⟨b,o+t,none⟩) ((k.old b h1 (by omega)).trans (hx.block b hlt))];exact hc t ht
theorem OpY.of_L {base:Nat} {u w:World} {g:Gop} {a1:Option Addr} {n1 c1:Nat} {a2:Option Addr} {n2 c2:Nat} (h:OpL u g a1 n1 c1 a2 n2 c2) (hx:Ext u w) (hb:u.heap.size<=base):OpY base w g a1 n1 c1 a2 n2 c2:=fun _ k =>
 ⟨ints_old h.i1 hx hb k,h.h1,h.m1,ints_old h.i2 hx hb k,h.h2,h.m2⟩
def RowY (base:Nat) (w:World) (xs:List Value) (ops:List Gop):Prop :=
 ∀ t g,ops[t]?=some g->∃ (a1:Option Addr) (n1 c1:Nat) (a2:Option Addr) (n2 c2:Nat),
  xs[t*6]?=some (.int .i64 g.kind)/\xs[t*6+1]?=some (.int .i64 g.k)/\xs[t*6+2]?=some (.slice a1 n1 c1)/\xs[t*6+3]?=some (.int .i64 g.q)/\xs[t*6+4]?=some (.int .i64 g.bit)/\xs[t*6+5]?=some (.slice a2 n2 c2)/\OpY base w g a1 n1 c1 a2 n2 c2
section
variable {base:Nat} {w w':World} {xs ys:List Value} {A B:List Gop}
theorem RowY.on (h:RowY base w xs A) (k:Stay base w w'):RowY base w' xs A:=fun t g hg=>by
 obtain ⟨a1,n1,c1,a2,n2,c2,e0,e1,e2,e3,e4,e5,e6⟩:=h t g hg;exact ⟨a1,n1,c1,a2,n2,c2,e0,e1,e2,e3,e4,e5,fun w'' k2=>e6 w'' (k.trans k2)⟩
theorem RowY.append (h:RowY base w xs A) (k:RowY base w ys B) (hx:xs.length=A.length*6):RowY base w (xs++ys) (A++B):=fun t g hg=>by
 by_cases ht:t<A.length
 ·rw [List.getElem?_append_left ht] at hg
  obtain ⟨a1,n1,c1,a2,n2,c2,e0,e1,e2,e3,e4,e5,e6⟩:=h t g hg
  have hr:∀ j,j<6->(xs++ys)[t*6+j]?=xs[t*6+j]?:=fun j hj=>List.getElem?_append_left (by omega)
  exact ⟨a1,n1,c1,a2,n2,c2,(hr 0 (by omega)).trans e0,(hr 1 (by omega)).trans e1,(hr 2 (by omega)).trans e2,(hr 3 (by omega)).trans e3,(hr 4 (by omega)).trans e4,(hr 5 (by omega)).trans e5,e6⟩
 ·rw [List.getElem?_append_right (by omega)] at hg
  obtain ⟨a1,n1,c1,a2,n2,c2,e0,e1,e2,e3,e4,e5,e6⟩:=k _ g hg
  have hr:∀ j,(xs++ys)[t*6+j]?=ys[(t-A.length)*6+j]?:=fun j=>by
   rw [List.getElem?_append_right (by omega),hx]
   congr 1
   have h1:(t-A.length)*6+A.length*6=t*6:=by rw [<-Nat.add_mul];congr 1;omega
   omega
  exact ⟨a1,n1,c1,a2,n2,c2,(hr 0).trans e0,(hr 1).trans e1,(hr 2).trans e2,(hr 3).trans e3,(hr 4).trans e4,(hr 5).trans e5,e6⟩
theorem RowY.nil:RowY base w [] []:=fun t g h=>by simp at h
end
def RowO (w:World) (xs:List Value) (ops:List Gop):Prop :=
 ∀ t g,ops[t]?=some g->∃ (a1:Option Addr) (n1 c1:Nat) (a2:Option Addr) (n2 c2:Nat),
  xs[t*6]?=some (.int .i64 g.kind)/\xs[t*6+1]?=some (.int .i64 g.k)/\xs[t*6+2]?=some (.slice a1 n1 c1)/\xs[t*6+3]?=some (.int .i64 g.q)/\xs[t*6+4]?=some (.int .i64 g.bit)/\xs[t*6+5]?=some (.slice a2 n2 c2)/\OpO w g a1 n1 c1 a2 n2 c2
section
variable {w w':World} {xs ys:List Value} {A B:List Gop}
theorem RowO.map (h:RowO w xs A) (hk:∀ g a1 n1 c1 a2 n2 c2,OpO w g a1 n1 c1 a2 n2 c2->OpO w' g a1 n1 c1 a2 n2 c2):RowO w' xs A:=fun t g hg=>by
 obtain ⟨a1,n1,c1,a2,n2,c2,e0,e1,e2,e3,e4,e5,e6⟩:=h t g hg;exact ⟨a1,n1,c1,a2,n2,c2,e0,e1,e2,e3,e4,e5,hk _ _ _ _ _ _ _ e6⟩
theorem RowO.ext (h:RowO w xs A) (k:Ext w w'):RowO w' xs A:=h.map fun _ _ _ _ _ _ _ e=>e.ext k
theorem RowO.append (h:RowO w xs A) (k:RowO w ys B) (hx:xs.length=A.length*6):RowO w (xs++ys) (A++B):=fun t g hg=>by
 by_cases ht:t<A.length
 ·rw [List.getElem?_append_left ht] at hg
  obtain ⟨a1,n1,c1,a2,n2,c2,e0,e1,e2,e3,e4,e5,e6⟩:=h t g hg
  have hr:∀ j,j<6->(xs++ys)[t*6+j]?=xs[t*6+j]?:=fun j hj=>List.getElem?_append_left (by omega)
  exact ⟨a1,n1,c1,a2,n2,c2,(hr 0 (by omega)).trans e0,(hr 1 (by omega)).trans e1,(hr 2 (by omega)).trans e2,(hr 3 (by omega)).trans e3,(hr 4 (by omega)).trans e4,(hr 5 (by omega)).trans e5,e6⟩
 ·rw [List.getElem?_append_right (by omega)] at hg
  obtain ⟨a1,n1,c1,a2,n2,c2,e0,e1,e2,e3,e4,e5,e6⟩:=k _ g hg
  have hr:∀ j,(xs++ys)[t*6+j]?=ys[(t-A.length)*6+j]?:=fun j=>by
   rw [List.getElem?_append_right (by omega),hx]
   congr 1
   have h1:(t-A.length)*6+A.length*6=t*6:=by rw [<-Nat.add_mul];congr 1;omega
   omega
  exact ⟨a1,n1,c1,a2,n2,c2,(hr 0).trans e0,(hr 1).trans e1,(hr 2).trans e2,(hr 3).trans e3,(hr 4).trans e4,(hr 5).trans e5,e6⟩
theorem RowO.one {g:Gop} {a1:Option Addr} {n1 c1:Nat} {a2:Option Addr} {n2 c2:Nat} (h:OpO w g a1 n1 c1 a2 n2 c2):RowO w [.int .i64 g.kind,.int .i64 g.k,.slice a1 n1 c1,.int .i64 g.q,.int .i64 g.bit,.slice a2 n2 c2] [g]:=fun t x hx=>by
 have ht:t=0:=by have:=(List.getElem?_eq_some_iff.1 hx).1;simpa using this
 subst ht
 have:g=x:=by simpa using hx
 subst this;exact ⟨a1,n1,c1,a2,n2,c2,rfl,rfl,rfl,rfl,rfl,rfl,h⟩
theorem RowO.y {base:Nat} (h:RowO w xs A):RowY base w xs A:=fun t g hg=>by
 obtain ⟨a1,n1,c1,a2,n2,c2,e0,e1,e2,e3,e4,e5,e6⟩:=h t g hg;exact ⟨a1,n1,c1,a2,n2,c2,e0,e1,e2,e3,e4,e5,OpY.of_O e6⟩
end
theorem OpsO.mono {w:World} {base base':Nat} {v:Value} {ops:List Gop} (h:OpsO w base v ops) (hb:base'<=base):OpsO w base' v ops:=by
 obtain ⟨xs,h1,h2⟩:=h;refine ⟨xs,⟨h1.1,?_⟩,h2⟩
 rcases h1.2 with h | ⟨g,cap,cur,e1,e2,e3⟩
 ·exact Or.inl h
 ·exact Or.inr ⟨g,cap,cur,e1,Nat.le_trans hb e2,e3⟩
theorem OpsO.grow {base:Nat} {wa w7:World} {v v7:Value} {xs ys:List Value} {A B:List Gop} {m:Nat} (ho:wa.ownsRow base 52 6 v A.length xs) (hA:RowO wa xs A) (hB:RowO wa ys B) (hm:m=B.length) (h7:w7.ownsRow base 52 6 v7 (A.length+m) (xs++ys)) (hg:wa.grownBy w7 v.ownBlock):OpsO w7 base v7 (A++B):=by
 have hs:=Stay.grown ho hg;refine ⟨xs++ys,?_,(hA.append hB ho.1).map fun _ _ _ _ _ _ _ e=>e.keep hs.size hs.ints⟩;rw [List.length_append,<-hm];exact h7
theorem ops_more {wa w7:World} {base:Nat} {v v7:Value} {ops:List Gop} {xs:List Value} {o:Gop} {a1:Option Addr} {n1 c1:Nat} {a2:Option Addr} {n2 c2:Nat} (hown:wa.ownsRow base 52 6 v ops.length xs) (hrows:RowO wa xs ops)
  (hO:OpO wa o a1 n1 c1 a2 n2 c2) (h7:w7.ownsRow base 52 6 v7 (ops.length+1) (xs++[.int .i64 o.kind,.int .i64 o.k,.slice a1 n1 c1,.int .i64 o.q,.int .i64 o.bit,.slice a2 n2 c2])) (hg:wa.grownBy w7 v.ownBlock):OpsO w7 base v7 (ops++[o]) :=
 OpsO.grow hown hrows (RowO.one hO) rfl h7 hg
def OpsY (w:World) (base:Nat) (v:Value) (ops:List Gop):Prop:=∃ xs:List Value,w.ownsRow base 52 6 v ops.length xs/\RowY base w xs ops
theorem OpsY.ext {w w':World} {base:Nat} {v:Value} {ops:List Gop} (h:OpsY w base v ops) (k:Ext w w'):OpsY w' base v ops:=by
 obtain ⟨xs,h1,h2⟩:=h;exact ⟨xs,own_keep h1 (fun g cur _ e=>k.block g (gS.1 e).1),h2.on (Stay.of k)⟩
theorem OpsY.at {w:World} {base:Nat} {v:Value} {ops:List Gop} (h:OpsY w base v ops):∃ (a:Option Addr) (c:Nat),v=.slice a ops.length c/\ops.length<=c/\c<=maxLen/\OpsAt w a ops.length ops:=by
 obtain ⟨xs,h1,h2⟩:=h
 rcases h1.2 with ⟨rfl,h0⟩ | ⟨g,cap,cur,hv,hb,hg,hn,hcm,_,htk⟩
 ·rw [h0]
  exact ⟨none,0,rfl,Nat.le_refl _,Nat.zero_le _,h0,Or.inl rfl⟩
 ·refine ⟨some ⟨g,0,none⟩,cap,hv,hn,hcm,rfl,Or.inr ⟨g,0,rfl,(gS.1 hg).1,fun t gg hgg=>?_⟩⟩
  obtain ⟨a1,n1,c1,a2,n2,c2,e0,e1,e2,e3,e4,e5,e6⟩:=h2 t gg hgg;have ht:=(List.getElem?_eq_some_iff.1 hgg).1
  have hc:∀ j,j<ops.length*6->w.cell? ⟨g,0+j,none⟩=xs[j]?:=by
   intro j hj;rw [Nat.zero_add,cell_of_row w g j cur _ (0,0) hg,<-Array.getElem?_toList,<-htk,List.getElem?_take,if_pos hj]
  exact ⟨a1,n1,c1,a2,n2,c2,by rw [hc _ (by omega)];exact e0,by rw [Nat.add_assoc,hc _ (by omega)];exact e1,by rw [Nat.add_assoc,hc _ (by omega)];exact e2,by rw [Nat.add_assoc,hc _ (by omega)];exact e3,by rw [Nat.add_assoc,hc _ (by omega)];exact e4,by rw [Nat.add_assoc,hc _ (by omega)];exact e5,e6 w (Stay.refl _ _)⟩
theorem OpsY.grow {base:Nat} {wa w7:World} {v v7:Value} {xs ys:List Value} {A B:List Gop} {m:Nat} (ho:wa.ownsRow base 52 6 v A.length xs) (hA:RowY base wa xs A) (hB:RowY base wa ys B) (hm:m=B.length) (h7:w7.ownsRow base 52 6 v7 (A.length+m) (xs++ys)) (hg:wa.grownBy w7 v.ownBlock):OpsY w7 base v7 (A++B):=by
 have hs:=Stay.grown ho hg;refine ⟨xs++ys,?_,(hA.append hB ho.1).on hs⟩;rw [List.length_append,<-hm];exact h7
theorem ops_src {base:Nat} {u w:World} {a:Option Addr} {n:Nat} {B:List Gop} (h:OpsAt u a n B) (hx:Ext u w) (hb:u.heap.size<=base):∃ ys:List Value,ys.length=n*6/\(∀ ad,a=some ad->∀ j x,ys[j]?=some x->w.cell? (ad.add j)=some x)/\(∀ x ∈ ys,x.oneCell'=true)/\RowY base w ys B:=by
 obtain ⟨ys,k1,k2,k3,k4⟩:=srcCells h;refine ⟨ys,k1,fun ad e j x hj=>(hx.cell (p:=ad.add j) (World.block_lt_of_cell? _ _ (k2 ad e j x hj))).trans (k2 ad e j x hj),k3,fun t g hg=>?_⟩;obtain ⟨a1,n1,c1,a2,n2,c2,e0,e1,e2,e3,e4,e5,e6⟩:=k4 t g hg;exact ⟨a1,n1,c1,a2,n2,c2,e0,e1,e2,e3,e4,e5,OpY.of_L e6 hx hb⟩
theorem opsO_src {b2:Nat} {w:World} {a:Option Addr} {n c:Nat} {B:List Gop} (h:OpsO w b2 (.slice a n c) B):B.length=n/\(a=none->n=0/\c=0)/\∃ ys:List Value,ys.length=n*6/\(∀ ad,a=some ad->∀ j x,ys[j]?=some x->w.cell? (ad.add j)=some x)/\(∀ x ∈ ys,x.oneCell'=true)/\RowO w ys B:=by
 have h0:=h;obtain ⟨a',c',e,_,_,hat⟩:=h0.at;injection e with e1 e2 e3;subst e1;subst e2;subst e3;obtain ⟨xs,h1,h2⟩:=h;refine ⟨rfl,?_,?_⟩
 ·rintro rfl
  rcases h1.2 with ⟨e,_⟩ | ⟨g,cap,cur,e,_⟩
  ·injection e with _ e2 e3
   exact ⟨e2,e3⟩
  ·injection e with e1 _ _
   cases e1
 ·obtain ⟨ys,k1,k2,k3,k4⟩:=srcCells hat
  refine ⟨ys,k1,k2,k3,fun t g hg=>?_⟩;obtain ⟨a1,n1,c1,a2,n2,c2,e0,e1,e2,e3,e4,e5,_⟩:=k4 t g hg;obtain ⟨b1,m1,d1,b2,m2,d2,f0,f1,f2,f3,f4,f5,f6⟩:=h2 t g hg;have hlt:=(List.getElem?_eq_some_iff.1 hg).1
  have hsame:∀ j,j<B.length*6->xs[j]?=ys[j]?:=by
   intro j hj
   rcases h1.2 with ⟨_,e⟩ | ⟨g',cap,cur,e,hb,hg',hn,hcm,_,htk⟩
   ·omega
   ·injection e with e1 _ _
    subst e1
    have hy:j<ys.length:=by rw [k1];exact hj
    have:=k2 _ rfl j ys[j] (List.getElem?_eq_getElem hy);rw [Addr.add_lit,cell_of_row w g' (0+j) cur _ (0,0) hg',Nat.zero_add] at this;rw [List.getElem?_eq_getElem hy,<-this,<-Array.getElem?_toList,<-htk,List.getElem?_take,if_pos hj]
  have h2':=hsame (t*6+2) (by omega);have h5':=hsame (t*6+5) (by omega);rw [f2,e2] at h2';rw [f5,e5] at h5';injection h2' with h2';injection h2' with p1 p2 p3;injection h5' with h5';injection h5' with q1 q2 q3;subst p1;subst p2;subst p3;subst q1;subst q2;subst q3;exact ⟨_,_,_,_,_,_,e0,e1,e2,e3,e4,e5,f6⟩
theorem dn_len (g:QP) (N:Nat):∀ k,(dnO g N k).length<=2*k
 | 0=>Nat.le_refl _
 | k+1=>by
  have h:=dn_len g N k
  have h2:(dqO g N k).length<=2:=by unfold dqO;split<;>split<;>simp
  show (dnO g N k++dqO g N k).length<=_
  rw [List.length_append];omega
theorem pcF_le (x:Nat):∀ k,pcF k x<=k:=by
 intro k
 induction k generalizing x with
 | zero=>exact Nat.le_refl _
 | succ k ih=>unfold pcF;have:=ih (x / 2);omega
theorem new_op2 (w:World) (o:Obj) (k0 k1:Int) (a1:Option Addr) (n1 c1:Nat) (k3 k4:Int) (a2:Option Addr) (n2 c2:Nat) (e:TypeId):∀ j u,([.int .i64 k0,.int .i64 k1,.slice a1 n1 c1,.int .i64 k3,.int .i64 k4,.slice a2 n2 c2]:List Value)[j]?=some u->((w.alloc o).alloc (.cells #[.int .i64 k0,.int .i64 k1,.slice a1 n1 c1,.int .i64 k3,.int .i64 k4,.slice a2 n2 c2] e)).cell? ((⟨w.heap.size+1,0,none⟩:Addr).add j)=some u:=by
 have h:=new_op (w.alloc o) k0 k1 a1 n1 c1 k3 k4 a2 n2 c2 e;rw [World.size_alloc] at h;exact h
theorem ctlO (w:World) (N:Nat) (o:Obj) {g:Gop} (h1:g.ctl=[(N:Int)]) (h2:g.cnd=[]):OpO ((w.alloc (.cells #[.int .i64 (N:Int)] 3)).alloc o) g (some ⟨w.heap.size,0,none⟩) 1 1 none 0 0:=by
 have h:=oneO w 0 N;have h3:OpO (w.alloc (.cells #[.int .i64 (N:Int)] 3)) g (some ⟨w.heap.size,0,none⟩) 1 1 none 0 0:=⟨⟨by rw [h1];exact h.l.i1,h.l.h1,h.l.m1,by rw [h2];exact h.l.i2,h.l.h2,h.l.m2⟩,h.t1,h.t2⟩;exact h3.ext (ext_al _ o)
theorem doneOn_any {N x z:Nat} {m:Bool} (hN:N<=12) (hx:x<65536) (hz:z<65536) (w:World) :
  Calls Tryz.prog 107 #[.agg #[.int .u16 (x:Int),.int .u16 (z:Int),.bool m],.int .i64 (N:Int)] w fun e w'=>∃ v,e=.returned v/\OpsO w' w.heap.size v (dnO ⟨x,z,m⟩ N N++tnO ⟨x,z,m⟩ N)/\Ext w w':=by
 obtain ⟨i0,hi0,hz0,hz1,hz2⟩:=info_parts op_info;have HSet:=Lh (fun (q:Nat) (hq:q<N) wx=>Set_any q (by omega) wx);have HC:=Lh (fun wx=>OnesCount16_any (x &&& z) wx (and_16 hx));have hand:=and_u16 hx hz;have HXl:=Lh hx;have HZl:=Lh hz;have HN:=Lh hN;obtain ⟨H,hH⟩:∃ H,w.heap.size=H:=⟨_,rfl⟩;obtain ⟨W0,hW0⟩:∃ W0,w.alloc (.cells #[.int .u16 (x:Int),.int .u16 (z:Int),.bool m] 103)=W0:=⟨_,rfl⟩
 have E0:Ext w W0:=by rw [<-hW0];exact ext_al w _
 have B0:PuB W0 H x z m:=⟨by rw [<-hW0,<-hH];exact heap_alloc_new _ _⟩;obtain ⟨pc,hpc⟩:∃ pc,pcF 16 (x &&& z)=pc:=⟨_,rfl⟩
 have hpl:pc<=16:=by rw [<-hpc];exact pcF_le _ 16
 have w4:IntKind.i64.wrap (4*(pc:Int))=((4*pc:Nat):Int):=by rw [IntKind.wrap_i64];omega
 obtain ⟨p4,hp4⟩:∃ x,4*pc=x:=⟨_,rfl⟩
 have w8:IntKind.i64.wrap ((p4:Int)+8)=((p4+8:Nat):Int):=by rw [IntKind.wrap_i64];omega
 obtain ⟨T,hT⟩:∃ T,(if m=true then p4+8 else p4)=T:=⟨_,rfl⟩;obtain ⟨t,ht⟩:∃ t,tuN ⟨x,z,m⟩=t:=⟨_,rfl⟩
 have htm:T % 16=t:=by
  rw [<-ht,<-hT,<-hp4,<-hpc];unfold tuN
  cases m
  ·show (4*pcF 16 (x &&& z)) % 16=(4*pcF 16 (x &&& z)+0) % 16;rfl
  ·rfl
 have htl:t<16:=by omega
 have hrm:((T:Int)).tmod 16=(t:Int):=by rw [Int.tmod_eq_emod_of_nonneg (by omega),<-htm];rfl
 rw [hp4] at w4;rw [hpc] at HC;obtain ⟨xz,hxz⟩:∃ v,x &&& z=v:=⟨_,rfl⟩;rw [hxz] at hand HC;have HB:=Lh B0;have HE0:=Lh E0;have HW0:=Lh hW0;have HH:=Lh hH;have Ht:=Lh ht;have Htl:=Lh htl;have HT:=Lh hT;have v0:=B0.x0;have v1:=B0.x1;have v2:=B0.x2;clear hx hz hN hH hW0 E0 B0 hpc hpl hp4 hT ht htm htl hxz
 go_enter Tryz.func107,Tryz.ntmps107
 go_upto_region 1 with fail
 rw [HW0.out,HH.out]
 go_wp2_with fail
 refine (HC.out _).mono ?_;rintro e w1 ⟨rfl,x1⟩;have HB:=Lh (HB.out.ext x1);have HE1:=Lh (HE0.out.trans x1);have v0:=HB.out.x0;have v1:=HB.out.x1;have v2:=HB.out.x2;clear x1 hand
 go_upto_region 3 with fail
 have HTT:∀ (b:Bool),b=m->(if b=true then p4+8 else p4)=T:=fun b e=>by rw [e];exact HT.out
 have HTT:=Lh HTT;clear HT
 go_upto_if 16 with fail
 go_cut [6] from 17 to 18 (fun s6 wx=>s6=.int .i64 (T:Int)/\wx=w1)
 case first =>
  cases m with
  | true =>
   have hT:=HTT.out true rfl;rw [if_pos rfl] at hT
   go_wp2_with fail
   go_meet
   exact ⟨by rw [<-hT],rfl⟩
  | false =>
   have hT:=HTT.out false rfl;rw [if_neg (by decide)] at hT
   go_wp2_with fail
   go_meet
   exact ⟨by rw [<-hT],rfl⟩
 case rest =>
 obtain ⟨rfl,hcw⟩:=hcut;obtain rfl:=hcw.symm;clear HTT w4 w8 HC v2
 go_wp2_with fail
 go_loopg [5,7,20] N (fun kk s5 s7 s20 wr=>∃ q:Nat,s20=.int .i64 (q:Int)/\q<=N/\N-q=kk/\OpsO wr w1.heap.size s5 (dnO ⟨x,z,m⟩ N q)/\Ext w1 wr)
 case atStart=>exact ⟨0,rfl,Nat.zero_le _,rfl,OpsO.nil _ _,Ext.refl _⟩
 case round =>
  obtain ⟨q,rfl,hq,hkk,hO,hE⟩:=hrel;have Hkk:=Lh hkk;have HE:=Lh hE;have Hlen:=Lh (show (dnO ⟨x,z,m⟩ N q).length<=24 by have:=dn_len ⟨x,z,m⟩ N q;have:=HN.out;omega)
  by_cases hqN:q=N
  ·have p1:¬ (q:Int)<(N:Int):=by omega
   have HEz:=Lh (HE1.out.trans hE);have HEy:=Lh hE;rw [hqN] at hO Hlen;obtain ⟨L,hL⟩:∃ L,dnO ⟨x,z,m⟩ N N=L:=⟨_,rfl⟩;rw [hL] at hO Hlen;have HL:=Lh hL;have Htn:=Lh (show tnO ⟨x,z,m⟩ N=if t=0 then [] else [⟨4,(t:Int),[],N,0,[]⟩] by unfold tnO;rw [Ht.out]);clear hkk hq hE v0 v1
   by_cases h0:t=0
   ·have t0:((t:Int) != 0)=false:=by rw [h0];rfl
    have Hf:=Lh hO;have H0:=Lh h0;clear hO hqN h0 hL
    go_wp2_with fail
    go_ret
    exact ⟨_,rfl,by rw [HL.out,Htn.out,if_pos H0.out,List.append_nil];exact Hf.out.mono HE1.out.size,HEz.out⟩
   ·have t0:((t:Int) != 0)=true:=by simp;omega
    have HA:=Lh (show L++tnO ⟨x,z,m⟩ N=L++[⟨4,(t:Int),[],N,0,[]⟩] by rw [Htn.out,if_neg h0]);obtain ⟨xs,hown,hrows⟩:=hO;have Hown:=Lh hown;have Hrows:=Lh (show RowO _ xs _ from hrows);clear hown hrows hqN h0 hL
    go_wp2_with (at_builtin;refine wpList_append_own _ rfl _ _ 22 rfl w1.heap.size 52 i0 (.agg #[.int .i64 0,.int .i64 0,.slice none 0 0,.int .i64 0,.int .i64 0,.slice none 0 0]) 6 80 Tryz.underlying22 hi0 hz0 hz1 hz2 rfl (by decide) _ (L).length xs rfl (Hown.out.alloc _) _ 1 1 [.int .i64 4,.int .i64 (t:Int),.slice none 0 0,.int .i64 (N:Int),.int .i64 0,.slice none 0 0] rfl rfl (new_op _ _ _ _ _ _ _ _ _ _ _ _) (one_op _ _ _ _ _ _ _ _ _ _) (by unfold maxLen;have:=Hlen.out;omega) (by have:=Hlen.out;omega) (Nat.le_trans HEy.out.size (ext_al wr _).size) ?_;intro v7 w7 hown7 hgrow7 _)
    go_ret
    exact ⟨_,rfl,by rw [HL.out,HA.out];exact (ops_more (o:=⟨4,(t:Int),[],N,0,[]⟩) (Hown.out.alloc _) (Hrows.out.ext (ext_al wr _)) (nilO _ rfl rfl) hown7 hgrow7).mono HE1.out.size,grown_ext (HEz.out.trans (ext_al wr _)) hgrow7 (fun k hk=>Nat.le_trans HE1.out.size (own_lt Hown.out k hk).1)⟩
  have hlt:q<N:=by omega
  have p1:(q:Int)<(N:Int):=by omega
  have p0:(0:Int)<=(q:Int):=by omega
  have wq:IntKind.i64.wrap ((q:Int)+1)=((q+1:Nat):Int):=by rw [IntKind.wrap_i64];have:=HN.out;omega
  have Hlt:=Lh hlt;have HSq:=Lh (HSet.out q hlt);obtain ⟨A,a1,a2,a3⟩:=ask_bit (v:=z) HZl.out (q:=q) (by have:=HN.out;omega);obtain ⟨C,c1,c2,c3⟩:=ask_bit (v:=x) HXl.out (q:=q) (by have:=HN.out;omega);have Hst:=Lh (show dnO ⟨x,z,m⟩ N (q+1)=dnO ⟨x,z,m⟩ N q++((if z.testBit q=true then [wCP q N] else [])++if x.testBit q=true then [wCX q N] else []) from rfl);obtain ⟨bz,hbz⟩:∃ b,z.testBit q=b:=⟨_,rfl⟩;obtain ⟨bx,hbx⟩:∃ b,x.testBit q=b:=⟨_,rfl⟩;obtain ⟨V,hV⟩:∃ V,2 ^ q=V:=⟨_,rfl⟩;rw [hbz] at a2 a3 Hst;rw [hbx] at c2 c3 Hst;rw [hV] at a1 c1 HSq;obtain ⟨L,hL⟩:∃ L,dnO ⟨x,z,m⟩ N q=L:=⟨_,rfl⟩;rw [hL] at hO Hlen Hst;have HEw:=Lh (HE1.out.trans hE);have v0:=(HB.out.ext hE).x0;have v1:=(HB.out.ext hE).x1;have HBr:=Lh (HB.out.ext hE);have HO:=Lh hO;clear hkk hq hE hqN hlt hbz hbx hV hL hO
  go_upto_region 8 with fail
  go_quiet ((go_at_call 86;refine Calls.quiet_of_same (HSq.out _)))
  obtain ⟨W1,hW1⟩:∃ V,wr.drewN nq=V:=⟨_,rfl⟩
  have E1:Ext wr W1:=by rw [<-hW1];exact ext_drewN _ _
  rw [hW1];have HBr:=Lh (HBr.out.ext E1);have HO:=Lh (HO.out.ext E1);have HEw:=Lh (HEw.out.trans E1);have HE:=Lh (HE.out.trans E1);have v0:=HBr.out.x0;have v1:=HBr.out.x1;clear hW1 E1 a1 a3
  go_upto_if 28 with fail
  go_cut [5] from 29 to 35 (fun s5 wx=>OpsO wx w1.heap.size s5 (L++if bz=true then [wCP q N] else [])/\Ext w wx/\Ext w1 wx)
  case first =>
   cases bz with
   | true =>
    obtain ⟨xs,hown,hrows⟩:=HO.out;have Hown:=Lh hown;have Hrows:=Lh (show RowO _ xs _ from hrows);clear hown hrows
    go_wp2_with (at_builtin;refine wpList_append_own _ rfl _ _ 22 rfl w1.heap.size 52 i0 (.agg #[.int .i64 0,.int .i64 0,.slice none 0 0,.int .i64 0,.int .i64 0,.slice none 0 0]) 6 80 Tryz.underlying22 hi0 hz0 hz1 hz2 rfl (by decide) _ (L).length xs rfl ((Hown.out.alloc _).alloc _) ⟨W1.heap.size+1,0,none⟩ 1 1 [.int .i64 4,.int .i64 8,.slice (some ⟨W1.heap.size,0,none⟩) 1 1,.int .i64 (q:Int),.int .i64 0,.slice none 0 0] rfl rfl (new_op2 _ _ _ _ _ _ _ _ _ _ _ _ _) (one_op _ _ _ _ _ _ _ _ _ _) (by unfold maxLen;have:=Hlen.out;omega) (by have:=Hlen.out;omega) (Nat.le_trans HE.out.size (Nat.le_trans (ext_al W1 _).size (ext_al _ _).size)) ?_;intro v7 w7 hown7 hgrow7 _)
    have HO2:=Lh (ops_more (o:=wCP q N) ((Hown.out.alloc _).alloc _) (Hrows.out.ext ((ext_al W1 _).trans (ext_al _ _))) (ctlO W1 N _ rfl rfl) hown7 hgrow7);have HE2:=Lh (grown_ext ((HEw.out.trans (ext_al W1 _)).trans (ext_al _ _)) hgrow7 (fun k hk=>Nat.le_trans HE1.out.size (own_lt Hown.out k hk).1));have HE3:=Lh (grown_ext ((HE.out.trans (ext_al W1 _)).trans (ext_al _ _)) hgrow7 (fun k hk=>(own_lt Hown.out k hk).1))
    go_meet
    exact ⟨by simp only [reduceIte];exact HO2.out,HE2.out,HE3.out⟩
   | false =>
    go_wp2_with fail
    go_meet
    exact ⟨by simp only [reduceIte,Bool.false_eq_true,List.append_nil];exact HO.out,HEw.out,HE.out⟩
  case rest =>
  obtain ⟨hO1,hW1,hE1⟩:=hcut;obtain ⟨M,hM⟩:∃ M,(L++if bz=true then [wCP q N] else [])=M:=⟨_,rfl⟩;rw [hM] at hO1
  have Hlen:=Lh (show M.length<=25 by rw [<-hM,List.length_append];have:=Hlen.out;cases bz<;>simp<;>omega)
  have Hst:=Lh (show dnO ⟨x,z,m⟩ N (q+1)=M++if bx=true then [wCX q N] else [] by rw [Hst.out,<-List.append_assoc,hM]);have HO:=Lh hO1;have HEw:=Lh hW1;have HE:=Lh hE1;have HBr:=Lh (HB.out.ext hE1);have v0:=HBr.out.x0;have v1:=HBr.out.x1;clear hO1 hW1 hE1 hM a2
  go_upto_region 10 with fail
  go_quiet ((go_at_call 86;refine Calls.quiet_of_same (HSq.out _)))
  obtain ⟨W2,hW2⟩:∃ V,World.drewN wc nq=V:=⟨_,rfl⟩;have E2:=ext_drewN wc nq;rw [hW2] at E2;rw [hW2];have HO:=Lh (HO.out.ext E2);have HEw:=Lh (HEw.out.trans E2);have HE:=Lh (HE.out.trans E2);clear hW2 E2 v0 v1
  cases bx with
  | true =>
   obtain ⟨xs,hown,hrows⟩:=HO.out;have Hown:=Lh hown;have Hrows:=Lh (show RowO _ xs _ from hrows);clear hown hrows
   go_wp2_with (at_builtin;refine wpList_append_own _ rfl _ _ 22 rfl w1.heap.size 52 i0 (.agg #[.int .i64 0,.int .i64 0,.slice none 0 0,.int .i64 0,.int .i64 0,.slice none 0 0]) 6 80 Tryz.underlying22 hi0 hz0 hz1 hz2 rfl (by decide) _ (M).length xs rfl ((Hown.out.alloc _).alloc _) ⟨W2.heap.size+1,0,none⟩ 1 1 [.int .i64 2,.int .i64 0,.slice (some ⟨W2.heap.size,0,none⟩) 1 1,.int .i64 (q:Int),.int .i64 0,.slice none 0 0] rfl rfl (new_op2 _ _ _ _ _ _ _ _ _ _ _ _ _) (one_op _ _ _ _ _ _ _ _ _ _) (by unfold maxLen;have:=Hlen.out;omega) (by have:=Hlen.out;omega) (Nat.le_trans HE.out.size (Nat.le_trans (ext_al W2 _).size (ext_al _ _).size)) ?_;intro v7 w7 hown7 hgrow7 _)
   have HO2:=Lh (ops_more (o:=wCX q N) ((Hown.out.alloc _).alloc _) (Hrows.out.ext ((ext_al W2 _).trans (ext_al _ _))) (ctlO W2 N _ rfl rfl) hown7 hgrow7);have HE2:=Lh (grown_ext ((HEw.out.trans (ext_al W2 _)).trans (ext_al _ _)) hgrow7 (fun k hk=>Nat.le_trans HE1.out.size (own_lt Hown.out k hk).1));have HE3:=Lh (grown_ext ((HE.out.trans (ext_al W2 _)).trans (ext_al _ _)) hgrow7 (fun k hk=>(own_lt Hown.out k hk).1))
   go_roundg (N-(q+1))
   case measure=>have:=Hkk.out;have:=Hlt.out;omega
   case rel=>exact ⟨q+1,rfl,Hlt.out,rfl,by rw [Hst.out];simp only [reduceIte];exact HO2.out,HE3.out⟩
  | false =>
   go_wp2_with fail
   go_roundg (N-(q+1))
   case measure=>have:=Hkk.out;have:=Hlt.out;omega
   case rel=>exact ⟨q+1,rfl,Hlt.out,rfl,by rw [Hst.out];simp only [reduceIte,Bool.false_eq_true,List.append_nil];exact HO.out,HE.out⟩
end Go.Proofs.YtlechhmhmakgpaaGreatDoor
