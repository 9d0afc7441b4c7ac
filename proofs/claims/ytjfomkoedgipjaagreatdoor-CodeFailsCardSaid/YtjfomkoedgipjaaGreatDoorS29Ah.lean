/-
  The reference's FailsOf: its numbers have room; its counts; fractions in variables. The reference: the chance that what is decoded leaves something behind (FailsOf). A circuit that was handed in, opened: its operations and their lists as they lie in memory. The table of kinds, as it is laid; what is asked behind a call that leaves all that lay there as it was. A code that was handed in, opened: its generators as they lie in memory; the table of letters, as it is laid. The reference's SameInts and SameCircuit, of alike lists and circuits. The laws' own example: three qubits that are alike mend one flip. CodeChecks' walk.
-/
import Derived.Carry
import Derived.ChangeSame
import Derived.Deep.Slices
import Derived.FnData
import Derived.OpenShut
import Derived.SizedLaws
import Derived.Stop.LaidErr
import Derived.Test.YtjfomkoedgipjaaGreatDoorS28FpC
namespace Go.Proofs.YtjfomkoedgipjaaGreatDoor
set_option maxRecDepth 100000
set_option maxHeartbeats 32000000
open Go.RowKit
def digB:Nat:=1502
def Big (z:Int):Prop:=z.natAbs<10000 ^ digB
theorem big_lim:28672*(Lim ^ 6:Nat)<10000 ^ digB:=by
 unfold Lim;rw [<-Nat.pow_mul];have h1:=dig_room (5+limN*6) digB (by unfold limN digB;decide);rw [jS] at h1;have h2:0<10 ^ (limN*6):=jF (by decide)
 have h3:(10:Nat) ^ 5=100000:=by decide
 rw [h3] at h1;generalize 10 ^ (limN*6)=p at *;generalize 10000 ^ digB=q at *;omega
theorem big_of {z:Int} (h:z.natAbs<=28672*(Lim ^ 6:Nat)):Big z:=yQ h big_lim
theorem Big.len {w:World} {neg:Bool} {ao:Option Addr} {n c:Nat} {z:Int} (hb:Big z) (h:IsZ w neg ao n c z):n<=40000:=by
 have:=h.len_of hb;unfold digB at this;omega
structure FaN (a b:Int):Prop where
 ha:0<=a
 hv:0<=b-3*a
 hb:0<b
 hl:b.natAbs<Lim
 ep:a=nfp a b
 eq:b=nfq a b
theorem lim6h:1<=Lim/\Lim<=(Lim ^ 6:Nat):=by
 have h1:1<=Lim:=Nat.le_of_lt (qK (by decide) (lim_le 1 (by decide)));generalize Lim=L at *;refine ⟨h1,?_⟩;have:=qY h1 (show 1<=6 by decide);rw [Nat.pow_one] at this;exact this
theorem FaN.one {a b:Int} (h:FaN a b):Big a/\Big b/\Big (nfp (3*a) (1*b))/\Big (nfq (3*a) (1*b))/\Big (nfp (b-3*a) b)/\Big (nfq (b-3*a) b):=by
 have h1:=h.ha;have h2:=h.hv;have h3:=h.hb;have h4:=h.hl;have h6:=lim6h;have g1:=nfp_le (3*a) (1*b);have g2:=nfq_le (3*a) (1*b) (by omega);have g3:=nfp_le (b-3*a) b;have g4:=nfq_le (b-3*a) b (by omega);refine ⟨big_of ?_,big_of ?_,big_of ?_,big_of ?_,big_of ?_,big_of ?_⟩
 all_goals (generalize (Lim ^ 6:Nat)=L at *;generalize Lim=L1 at *;omega)
theorem FaN.pow {a b:Int} (h:FaN a b) {n i:Nat} (hn:n<=6) (hi:i<=n):b ^ i<=((Lim ^ 6:Nat):Int)/\0<b ^ i :=
 ⟨Int.le_trans (pow_upF (by have:=h.hb;omega) hi) (pow_limF h.hb h.hl hn),pow_posF h.hb i⟩
theorem FaN.term {a b:Int} (h:FaN a b) {n:Nat} (hn:n<=6) {c:Nat} (hc:c<=4096) (m:Nat) {i:Nat} (hi:i<=n):Big (nfp ((c:Int)*gtm a (b-3*a) m i) (b ^ i))/\Big (nfq ((c:Int)*gtm a (b-3*a) m i) (b ^ i)):=by
 obtain ⟨h1,h2⟩:=h.pow hn hi;obtain ⟨h3,h4⟩:=gtm_le h.ha (by have:=h.ha;have:=h.hv;omega) h.hv (by have:=h.ha;omega) (b:=b) m i;have h5:(c:Int)*gtm a (b-3*a) m i<=4096*((Lim ^ 6:Nat):Int):=Int.mul_le_mul (by omega) (by omega) h3 (by omega);have h6:0<=(c:Int)*gtm a (b-3*a) m i:=Int.mul_nonneg (by omega) h3;have g1:=nfp_le ((c:Int)*gtm a (b-3*a) m i) (b ^ i);have g2:=nfq_le ((c:Int)*gtm a (b-3*a) m i) (b ^ i) (by omega);refine ⟨big_of ?_,big_of ?_⟩
 all_goals (generalize (Lim ^ 6:Nat)=L at *;omega)
theorem FaN.sum {a b:Int} (h:FaN a b) {n:Nat} (hn:n<=6) {cnt:Nat->Nat} (hc:∀ w,cnt w<=4096) {m:Nat} (hm:m<=n+1):Big (nfp (gsm cnt a (b-3*a) n m) (b ^ n))/\Big (nfq (gsm cnt a (b-3*a) n m) (b ^ n)):=by
 obtain ⟨h1,h2⟩:=h.pow hn (qZ n);obtain ⟨h3,h4⟩:=gsm_le h.ha (by have:=h.ha;have:=h.hv;omega) h.hv (by have:=h.ha;omega) (b:=b) n 4096 hc m;have h5:(((m*4096:Nat):Int))*b ^ n<=28672*((Lim ^ 6:Nat):Int):=Int.mul_le_mul (by omega) h1 (by omega) (by omega);have g1:=nfp_le (gsm cnt a (b-3*a) n m) (b ^ n);have g2:=nfq_le (gsm cnt a (b-3*a) n m) (b ^ n) (by omega);refine ⟨big_of ?_,big_of ?_⟩
 all_goals (generalize (Lim ^ 6:Nat)=L at *;omega)
theorem FRet.sharp {w w':World} {P Q:Int} {N:Nat} {e:Ending} (h:FRet w P Q N e w') (hP:Big P) (hQ:Big Q):FRet w P Q 40000 e w':=by
 obtain ⟨b,a,n,c,b',a',n',c',h1,h2,h3,_,_,h4⟩:=h;exact ⟨b,a,n,c,b',a',n',c',h1,h2,h3,hP.len h2,hQ.len h3,h4⟩
def FzV (w:World) (g:Nat) (P Q:Int):Prop :=
 ∃ (b:Bool) (a:Option Addr) (n c:Nat) (b':Bool) (a':Option Addr) (n' c':Nat),FZBx w g b a n c b' a' n' c'/\IsZ w b a n c P/\IsZ w b' a' n' c' Q/\n<=40000/\n'<=40000
theorem FzV.ext {w w':World} {g:Nat} {P Q:Int} (h:FzV w g P Q) (k:Ext w w'):FzV w' g P Q:=by
 obtain ⟨b,a,n,c,b',a',n',c',h1,h2,h3,h4,h5⟩:=h;exact ⟨b,a,n,c,b',a',n',c',h1.ext k,h2.ext k,h3.ext k,h4,h5⟩
abbrev putF4 (w:World) (g:Nat) (b:Bool) (a:Option Addr) (n c:Nat) (b':Bool) (a':Option Addr) (n' c':Nat):World:=(((w.setCell ⟨g,0,none⟩ (.bool b)).setCell ⟨g,1,none⟩ (.slice a n c)).setCell ⟨g,2,none⟩ (.bool b')).setCell ⟨g,3,none⟩ (.slice a' n' c')
theorem putF4_only (w:World) (g:Nat) (b:Bool) (a:Option Addr) (n c:Nat) (b':Bool) (a':Option Addr) (n' c':Nat):Only g w (putF4 w g b a n c b' a' n' c'):=((((Only.refl _ _).setCell _ _).setCell _ _).setCell _ _).setCell _ _
theorem putF4_ext {w0 w:World} {g:Nat} (h:Ext w0 w) (hg:w0.heap.size<=g) (b:Bool) (a:Option Addr) (n c:Nat) (b':Bool) (a':Option Addr) (n' c':Nat):Ext w0 (putF4 w g b a n c b' a' n' c'):=ext_onlyC h (putF4_only w g b a n c b' a' n' c') hg
theorem FzV.own {w:World} {g:Nat} {x:Bool} {y:Option Addr} {m d:Nat} {x':Bool} {y':Option Addr} {m' d':Nat} (hb:FZBx w g x y m d x' y' m' d') {P Q:Int} {b:Bool} {a:Option Addr} {n c:Nat} {b':Bool} {a':Option Addr} {n' c':Nat} (h1:IsZ w b a n c P) (h2:IsZ w b' a' n' c' Q) (h3:n<=40000) (h4:n'<=40000):FzV (putF4 w g b a n c b' a' n' c') g P Q :=
 ⟨b,a,n,c,b',a',n',c',hb.own4 b a n c b' a' n' c',h1.put4 hb _ _ _ _,h2.put4 hb _ _ _ _,h3,h4⟩
theorem FzV.new {w:World} {P Q:Int} {b:Bool} {a:Option Addr} {n c:Nat} {b':Bool} {a':Option Addr} {n' c':Nat} (h1:IsZ w b a n c P) (h2:IsZ w b' a' n' c' Q) (h3:n<=40000) (h4:n'<=40000):FzV (w.alloc (.cells #[.bool b,.slice a n c,.bool b',.slice a' n' c'] 35)) w.heap.size P Q :=
 ⟨b,a,n,c,b',a',n',c',fzbx_new w b a n c b' a' n' c',h1.ext (ext_al _ _),h2.ext (ext_al _ _),h3,h4⟩
def cqN (n:Nat) (gens:List (List UInt8)) (pre:List (List UInt8)) (w:Nat):Nat:=pre.countP fun e=>wtT e == w && unT n gens e
def cqL (n:Nat) (gens:List (List UInt8)) (pre:List (List UInt8)):List Int:=(List.range (n+1)).map fun i=>(cqN n gens pre i:Int)
theorem cq_all (n:Nat) (gens:List (List UInt8)) (w:Nat):cqN n gens (erR n) w=cntT n gens w:=rfl
theorem cq_snoc (n:Nat) (gens:List (List UInt8)) (pre:List (List UInt8)) (e:List UInt8) (w:Nat):cqN n gens (pre++[e]) w=cqN n gens pre w+if (wtT e == w && unT n gens e)=true then 1 else 0:=by
 unfold cqN;rw [List.countP_append,List.countP_cons,List.countP_nil,jH]
theorem cq_le (n:Nat) (gens:List (List UInt8)) (pre:List (List UInt8)) (w:Nat):cqN n gens pre w<=pre.length:=List.countP_le_length
theorem cqL_nil (n:Nat) (gens:List (List UInt8)):cqL n gens []=List.replicate (n+1) 0:=by
 unfold cqL cqN
 simp [List.map_const']
theorem cqL_at {n:Nat} {gens:List (List UInt8)} {pre:List (List UInt8)} {w:Nat} (h:w<=n):(cqL n gens pre)[w]?=some (cqN n gens pre w:Int):=by
 unfold cqL;rw [jM,List.getElem?_range (by omega)]
 rfl
theorem cqL_len (n:Nat) (gens:List (List UInt8)) (pre:List (List UInt8)):(cqL n gens pre).length=n+1:=by simp [cqL]
theorem cqL_skip {n:Nat} {gens:List (List UInt8)} {pre:List (List UInt8)} {e:List UInt8} (h:unT n gens e=false):cqL n gens (pre++[e])=cqL n gens pre:=by
 unfold cqL
 refine List.map_congr_left fun i _=>?_
 rw [cq_snoc,h,Bool.and_false,qE (by decide)]
 rfl
theorem cqL_add {n:Nat} {gens:List (List UInt8)} {pre:List (List UInt8)} {e:List UInt8} {v:Nat} (h:unT n gens e=true) (hv:wtT e=v):cqL n gens (pre++[e])=(cqL n gens pre).set v ((cqN n gens pre v+1:Nat):Int):=by
 apply List.ext_getElem?
 intro i
 by_cases hi:i<=n
 ·rw [cqL_at hi,List.getElem?_set,cq_snoc,h,Bool.and_true,hv]
  by_cases e:v=i
  ·subst e
   rw [qU rfl,qU (by simp),qU (by rw [cqL_len];omega)]
  ·rw [qE e,cqL_at hi,qE (by simpa using e)]
   rfl
 ·rw [jT (by rw [cqL_len];omega),jT (by rw [jV,cqL_len];omega)]
theorem cntT_le {n:Nat} (hn:n<=6) (gens:List (List UInt8)) (w:Nat):cntT n gens w<=4096:=by
 refine qL (cq_le n gens (erR n) w) ?_;rw [erR_len];exact qL (qY (by decide) hn) (by decide)
theorem ZRet.val {w w':World} {z:Int} {N:Nat} {e:Ending} (h:ZRet w z N e w'):∃ v,e=.returned v/\(∃ (b:Bool) (a:Option Addr) (n c:Nat),v=.agg #[.bool b,.slice a n c]/\IsZ w' b a n c z/\n<=N)/\Ext w w':=by
 obtain ⟨b,a,n,c,rfl,h1,h2,h3⟩:=h;exact ⟨_,rfl,⟨b,a,n,c,rfl,h1,h2⟩,h3⟩
theorem FRet.val {w w':World} {P Q:Int} {N:Nat} {e:Ending} (h:FRet w P Q N e w'):∃ v,e=.returned v/\(∃ (b:Bool) (a:Option Addr) (n c:Nat) (b':Bool) (a':Option Addr) (n' c':Nat),v=.agg #[.bool b,.slice a n c,.bool b',.slice a' n' c']/\IsZ w' b a n c P/\IsZ w' b' a' n' c' Q/\n<=N/\n'<=N)/\Ext w w':=by
 obtain ⟨b,a,n,c,b',a',n',c',rfl,h1,h2,h3,h4,h5⟩:=h;exact ⟨_,rfl,⟨b,a,n,c,b',a',n',c',rfl,h1,h2,h3,h4⟩,h5⟩
def SumV (w:World) (g n:Nat) (gens:List (List UInt8)) (za zb:Int) (m:Nat):Prop:=FzV w g (nfp (gsm (cntT n gens) za (zb-3*za) n m) (zb ^ n)) (nfq (gsm (cntT n gens) za (zb-3*za) n m) (zb ^ n))
def TermV (w:World) (g:Nat) (cm:Nat) (za zb:Int) (m i:Nat):Prop:=FzV w g (nfp ((cm:Int)*gtm za (zb-3*za) m i) (zb ^ i)) (nfq ((cm:Int)*gtm za (zb-3*za) m i) (zb ^ i))
theorem SumV.zero {w:World} {g n:Nat} {gens:List (List UInt8)} {za zb:Int} (h:FzV w g 0 1) (hb:0<zb):SumV w g n gens za zb 0:=by
 have hz:=sum_zero (y:=zb ^ n) (Int.pow_ne_zero (by omega));have e:gsm (cntT n gens) za (zb-3*za) n 0=0:=rfl;unfold SumV;rw [e,<-hz.1,<-hz.2];exact h
theorem TermV.zero {w:World} {g cm:Nat} {za zb:Int} {m:Nat} (h:FzV w g (cm:Int) 1):TermV w g cm za zb m 0:=by
 have hz:=term_zero (cm:Int) za (zb-3*za) zb m;unfold TermV;rw [<-hz.1,<-hz.2];exact h
theorem term_mul {w:World} {cm:Nat} {za zb:Int} {n m i:Nat} (hF:FaN za zb) (hn:n<=6) (hc:cm<=4096) (hi:i+1<=n) {b1:Bool} {a1:Option Addr} {n1 c1:Nat} {b2:Bool} {a2:Option Addr} {n2 c2:Nat} {b3:Bool} {a3:Option Addr} {n3 c3:Nat} {b4:Bool} {a4:Option Addr} {n4 c4:Nat} {r s:Int}
  (h1:IsZ w b1 a1 n1 c1 (nfp ((cm:Int)*gtm za (zb-3*za) m i) (zb ^ i))) (h2:IsZ w b2 a2 n2 c2 (nfq ((cm:Int)*gtm za (zb-3*za) m i) (zb ^ i))) (hl1:n1<=40000) (hl2:n2<=40000) (h3:IsZ w b3 a3 n3 c3 r) (h4:IsZ w b4 a4 n4 c4 s) (hl3:n3<=40000) (hl4:n4<=40000)
  (hr:r=nfp (if i<m then za else zb-3*za) zb) (hs:s=nfq (if i<m then za else zb-3*za) zb) :
  Calls Tryz.prog 40 #[.agg #[.bool b1,.slice a1 n1 c1,.bool b2,.slice a2 n2 c2],.agg #[.bool b3,.slice a3 n3 c3,.bool b4,.slice a4 n4 c4]] w (FRet w (nfp ((cm:Int)*gtm za (zb-3*za) m (i+1)) (zb ^ (i+1))) (nfq ((cm:Int)*gtm za (zb-3*za) m (i+1)) (zb ^ (i+1))) 40000):=by
 have hst:=term_step (c:=(cm:Int)) (a:=za) (v:=zb-3*za) (b:=zb) (w:=m) (i:=i) (by have:=hF.hb;omega) rfl rfl hr hs;have hB:=hF.term hn hc m hi
 refine (FMul_any b1 a1 n1 c1 b2 a2 n2 c2 b3 a3 n3 c3 b4 a4 n4 c4 _ _ r s w h1 h2 h3 h4 hl1 hl2 hl3 hl4).mono fun e w' h=>?_
 rw [hst.1,hst.2] at h;exact h.sharp hB.1 hB.2
theorem sum_add {w:World} {za zb:Int} {n m:Nat} {gens:List (List UInt8)} (hF:FaN za zb) (hn:n<=6) (hm:m+1<=n+1) {b1:Bool} {a1:Option Addr} {n1 c1:Nat} {b2:Bool} {a2:Option Addr} {n2 c2:Nat} {b3:Bool} {a3:Option Addr} {n3 c3:Nat} {b4:Bool} {a4:Option Addr} {n4 c4:Nat}
  (h1:IsZ w b1 a1 n1 c1 (nfp (gsm (cntT n gens) za (zb-3*za) n m) (zb ^ n))) (h2:IsZ w b2 a2 n2 c2 (nfq (gsm (cntT n gens) za (zb-3*za) n m) (zb ^ n))) (hl1:n1<=40000) (hl2:n2<=40000)
  (h3:IsZ w b3 a3 n3 c3 (nfp ((cntT n gens m:Int)*gtm za (zb-3*za) m n) (zb ^ n))) (h4:IsZ w b4 a4 n4 c4 (nfq ((cntT n gens m:Int)*gtm za (zb-3*za) m n) (zb ^ n))) (hl3:n3<=40000) (hl4:n4<=40000) :
  Calls Tryz.prog 46 #[.agg #[.bool b1,.slice a1 n1 c1,.bool b2,.slice a2 n2 c2],.agg #[.bool b3,.slice a3 n3 c3,.bool b4,.slice a4 n4 c4]] w (FRet w (nfp (gsm (cntT n gens) za (zb-3*za) n (m+1)) (zb ^ n)) (nfq (gsm (cntT n gens) za (zb-3*za) n (m+1)) (zb ^ n)) 40000):=by
 have hst:=sum_step (cnt:=cntT n gens) (a:=za) (v:=zb-3*za) (b:=zb) (n:=n) (w:=m) (by have:=hF.hb;omega) rfl rfl rfl rfl;have hB:=hF.sum hn (fun w=>cntT_le hn gens w) hm
 refine (FAdd_any b1 a1 n1 c1 b2 a2 n2 c2 b3 a3 n3 c3 b4 a4 n4 c4 _ _ _ _ w h1 h2 h3 h4 hl1 hl2 hl3 hl4).mono fun e w' h=>?_
 rw [hst.1,hst.2] at h;exact h.sharp hB.1 hB.2
theorem zF_infoI:(Tryz.prog.info? 35).map (·.size)=some 4:=by kernel_rfl
theorem FailsOf_any (gens:List (List UInt8)) (ao:Option Addr) (k c:Nat) (b1:Bool) (a1:Option Addr) (n1 c1:Nat) (b2:Bool) (a2:Option Addr) (n2 c2:Nat) (za zb:Int) (w:World) (hG:StrsAt w ao k gens) (n:Nat) (hn:n<=4) (hcc:(ccF (n:Int) gens).1=0)
  (h1:IsZ w b1 a1 n1 c1 za) (h2:IsZ w b2 a2 n2 c2 zb) (hl1:n1<=40000) (hl2:n2<=40000) (hF:FaN za zb) :
  Calls Tryz.prog 13 #[.agg #[.int .i64 (n:Int),.slice ao k c],.agg #[.bool b1,.slice a1 n1 c1,.bool b2,.slice a2 n2 c2]] w (FRet w (nfp (gsm (cntT n gens) za (zb-3*za) n (n+1)) (zb ^ n)) (nfq (gsm (cntT n gens) za (zb-3*za) n (n+1)) (zb ^ n)) 40000):=by
 obtain ⟨hn1,h12,hkn,hall⟩:=cc_zero hcc;rw [yT] at hall;have hlg:gens.length=k:=hG.1
 have hk:k<=n:=by omega
 obtain ⟨U,hU⟩:∃ U,((w.alloc (.cells #[.int .i64 (n:Int),.slice ao k c] 24)).alloc (.cells #[.bool b1,.slice a1 n1 c1,.bool b2,.slice a2 n2 c2] 35)).alloc (.cells #[.bool false,.slice none 0 0,.bool false,.slice none 0 0] 35)=U:=⟨_,rfl⟩;obtain ⟨H,hH⟩:∃ H,w.heap.size=H:=⟨_,rfl⟩
 have EU:Ext w U:=by rw [<-hU];exact ((ext_al _ _).trans (ext_al _ _)).trans (ext_al _ _)
 have C0:CoB U H n ao k c:=by rw [<-hU,<-hH];exact (CoB.new w _ _ _ _).ext ((ext_al _ _).trans (ext_al _ _))
 have T0:FZBx U (H+1) b1 a1 n1 c1 b2 a2 n2 c2:=by
  have:=fzbx_new (w.alloc (.cells #[.int .i64 (n:Int),.slice ao k c] 24)) b1 a1 n1 c1 b2 a2 n2 c2;rw [yO] at this;rw [<-hU,<-hH];exact this.ext (ext_al _ _)
 have R0:FZBx U (H+2) false none 0 0 false none 0 0:=by
  have:=fzbx_new ((w.alloc (.cells #[.int .i64 (n:Int),.slice ao k c] 24)).alloc (.cells #[.bool b1,.slice a1 n1 c1,.bool b2,.slice a2 n2 c2] 35)) false none 0 0 false none 0 0;rw [yO,yO] at this;rw [<-hU,<-hH];exact this
 have HG:=Lh (hG.ext EU);have Hk:=Lh hk;have Hn:=Lh (jN hn (show 1<=n by omega));have Hall:=Lh hall;have HEU:=Lh EU;have HC:=Lh C0;have HU:=Lh hU;have HH:=Lh hH;have HT:=Lh T0;have HR:=Lh R0;have HZ1:=Lh (h1.ext EU);have HZ2:=Lh (h2.ext EU);have HlZ:=Lh (jN hl1 hl2);have HF:=Lh hF;have Hcc:=Lh hcc;have Hlg:=Lh hlg;have k0:=C0.x0;have k1:=C0.x1;clear hG hn hn1 hkn hk hall h12 EU C0 T0 R0 hU hH h1 h2 hl1 hl2 hF hcc hlg
 go_enter Tryz.func13,Tryz.ntmps13
 go_upto_region 1 with fail
 rw [HU.out,HH.out];clear HU;have HBa:=Lh (bare_any gens ao k c U HG.out (by have:=Hn.out;have:=Hk.out;omega) (fun T hT=>by have:=(isP_let (Hall.out T hT)).1;omega))
 go_wp2_with fail
 refine HBa.out.mono ?_;rintro e w1 ⟨⟨v1,rfl,hr1⟩,hx1⟩;obtain ⟨ag,cg,rfl,hac1,hcm1,hS1⟩:=strs_of_own hr1;have HGr:=Lh (Group_any (barL gens) n ag k cg w1 hS1 (by have:=Hn.out;have:=Hk.out;omega) (by have:=Hn.out;omega) (bar_let Hall.out));have Hx1:=Lh hx1;have k0':=cell_ext k0 hx1;clear hr1 hx1 hac1 hcm1 hS1 HBa k0 k1
 go_wp2_with fail
 refine HGr.out.mono ?_;rintro e w2 ⟨⟨v2,rfl,hr2⟩,hx2⟩;obtain ⟨aG,cG,rfl,hac2,hcm2,hS2⟩:=strs_of_own hr2;obtain ⟨gn,hgn⟩:∃ gn,(grR n (barL gens)).length=gn:=⟨_,rfl⟩;rw [hgn] at hS2 ⊢
 have hgn6:gn<=9223372036854775806:=by
  have h5:gn<=4096:=by
   rw [<-hgn];unfold grR
   split
   ·simp
   ·rw [(grp_is n (barL gens) (bar_let Hall.out)).2.2]
    have:(barL gens).length<=5:=by unfold barL;rw [jY,Hlg.out];have:=Hn.out;have:=Hk.out;omega
    have:2 ^ (barL gens).length<=2 ^ 5:=qY (by decide) this;omega
  omega
 have k0:=cell_ext k0' hx2;have Hx2:=Lh (Hx1.out.trans hx2);have HS2:=Lh hS2;have Hgn:=Lh hgn6;have HEr:=Lh (Errors_any n w2 (by have:=Hn.out;omega));obtain ⟨en,hen⟩:∃ en,(erR n).length=en:=⟨_,rfl⟩;rw [hen] at HEr
 have hen6:en<=1024:=by
  rw [<-hen,erR_len];have:4 ^ n<=4 ^ 4:=qY (by decide) Hn.out.1
  have h:(4:Nat) ^ 4=256:=by decide
  omega
 have Hen:=Lh (jN hen hen6);clear hr2 hx2 hac2 hcm2 hS2 hgn hgn6 HGr k0' hen hen6
 go_wp2_with fail
 refine HEr.out.mono ?_;rintro e w3 ⟨⟨v3,rfl,hr3⟩,hx3⟩;obtain ⟨aE,cE,rfl,hac3,hcm3,hS3⟩:=strs_of_own hr3;have Hx3:=Lh (Hx2.out.trans hx3);have HE:=Lh hS3;have HS2:=Lh (HS2.out.ext hx3);clear hr3 hx3 hac3 hcm3 hS3 HEr k0 Hx1 Hx2;have HO0:=Lh (ZOf_any 0 (by decide) (by decide) w3)
 go_wp2_with fail
 refine HO0.out.mono ?_;rintro e w4 ⟨s4,a4,n4,c4,rfl,hz4,hl4,hx4⟩;have HO1:=Lh (ZOf_any 1 (by decide) (by decide) w4);have Hz4:=Lh hz4;have Hl4:=Lh hl4;have Hx4:=Lh hx4;clear hz4 hl4 hx4 HO0
 go_wp2_with fail
 refine HO1.out.mono ?_;rintro e w5 ⟨s5,a5,n5,c5,rfl,hz5,hl5,hx5⟩;obtain ⟨K7,hK7⟩:∃ K,w5.heap.size=K:=⟨_,rfl⟩;obtain ⟨W6,hW6⟩:∃ W,w5.alloc (.cells #[.bool s4,.slice a4 n4 c4,.bool s5,.slice a5 n5 c5] 35)=W:=⟨_,rfl⟩
 have E56:Ext w5 W6:=by rw [<-hW6];exact ext_al _ _
 have HV7:=Lh (show FzV W6 K7 0 1 by rw [<-hW6,<-hK7];exact FzV.new (Hz4.out.ext hx5) hz5 (by have:=Hl4.out;omega) (by omega));have HX6:=Lh ((Hx3.out.trans Hx4.out).trans (hx5.trans E56));have HE:=Lh (HE.out.ext ((Hx4.out.trans hx5).trans E56));have HS2:=Lh (HS2.out.ext ((Hx4.out.trans hx5).trans E56));have HW6:=Lh hW6;have HK7:=Lh hK7;clear hz5 hl5 hx5 hW6 hK7 E56 HO1 Hz4 Hl4 Hx4 Hx3
 go_upto_region 4 with fail
 rw [HW6.out,HK7.out];clear HW6 HK7;have HB1:=Lh HF.out.one;have he0:Ext W6 W6.drew:=qG (Ext.refl _)
 have HS:∀ w',Ext W6 w'->w'.heap[H+1]?=some (.cells #[.bool b1,.slice a1 n1 c1,.bool b2,.slice a2 n2 c2] 35 (0,0)):=fun w' hx=>(HT.out.ext (HX6.out.trans hx)).row
 refine wp_region_held (S:=fun w'=>w'.heap[H+1]?=some (.cells #[.bool b1,.slice a1 n1 c1,.bool b2,.slice a2 n2 c2] 35 (0,0))) (by kernel_rfl) ?_;generalize hops:(#[_,_,_,_,_,_,_,_,_,_,_]:Array Oper)=ops
 have hA:FlsA Tryz.prog ops [⟨9,8,35,#[.bool false,.slice none 0 0,.bool false,.slice none 0 0]⟩]:=by
  subst hops;exact .of1 ⟨_,rfl,rfl,fun _=>rfl,fun _ _=>by kernel_rfl⟩
 subst hops;refine FloA.start [⟨9,8,35,#[.bool false,.slice none 0 0,.bool false,.slice none 0 0]⟩] 11 10 11 (.take HS he0 6 32 (.agg #[.bool b1,.slice a1 n1 c1,.bool b2,.slice a2 n2 c2]) rfl (fun _ _ h=>exec_rowA h Tryz.underlying35 zF_infoI) ?_);refine .call hA HS he0 0 26 rfl _ _ (fun wx _=>(ZOf_any 1 (by decide) (by decide) wx).mono fun _ _ h=>h.val) ?_;rintro _ v26 ⟨s26,a26,n26,c26,rfl,I26,l26⟩ q26;have e26:=he0.trans q26;refine .call hA HS e26 1 27 rfl _ _ (fun wx _=>(ZOf_any 1 (by decide) (by decide) wx).mono fun _ _ h=>h.val) ?_;rintro _ v27 ⟨s27,a27,n27,c27,rfl,I27,l27⟩ q27;have e27:=e26.trans q27;refine .move HS e27 2 28 (.agg #[.bool s26,.slice a26 n26 c26,.bool s27,.slice a27 n27 c27]) rfl ?_;refine .call hA HS e27 3 29 rfl _ _ (fun wx _=>(ZOf_any 3 (by decide) (by decide) wx).mono fun _ _ h=>h.val) ?_;rintro _ v29 ⟨s29,a29,n29,c29,rfl,I29,l29⟩ q29;have e29:=e27.trans q29;refine .call hA HS e29 4 30 rfl _ _ (fun wx _=>(ZOf_any 1 (by decide) (by decide) wx).mono fun _ _ h=>h.val) ?_;rintro _ v30 ⟨s30,a30,n30,c30,rfl,I30,l30⟩ q30;have e30:=e29.trans q30;refine .move HS e30 5 31 (.agg #[.bool s29,.slice a29 n29 c29,.bool s30,.slice a30 n30 c30]) rfl ?_;refine .call hA HS e30 7 33 rfl _ _ (fun wx hx=>(FMul_any s29 a29 n29 c29 s30 a30 n30 c30 b1 a1 n1 c1 b2 a2 n2 c2 3 1 za zb wx (I29.ext (q30.trans hx)) (I30.ext hx) (HZ1.out.ext (HX6.out.trans (e30.trans hx))) (HZ2.out.ext (HX6.out.trans (e30.trans hx))) (by omega) (by omega) HlZ.out.1 HlZ.out.2).mono fun _ _ h=>(h.sharp HB1.out.2.2.1 HB1.out.2.2.2.1).val) ?_;rintro _ v33 ⟨s33,a33,n33,c33,s34,a34,n34,c34,rfl,I33,I34,l33,l34⟩ q33;have e33:=e30.trans q33;refine .call hA HS e33 8 34 rfl _ _ (fun wx hx=>(FSub_any s26 a26 n26 c26 s27 a27 n27 c27 s33 a33 n33 c33 s34 a34 n34 c34 1 1 (nfp (3*za) (1*zb)) (nfq (3*za) (1*zb)) wx (I26.ext (q27.trans (q29.trans (q30.trans (q33.trans hx))))) (I27.ext (q29.trans (q30.trans (q33.trans hx)))) (I33.ext hx) (I34.ext hx) (by omega) (by omega) l33 l34).mono fun _ _ h=>(FRet.sharp (by rw [(well_is (a:=za) (b:=zb) (by have:=HF.out.hb;omega)).1,(well_is (a:=za) (b:=zb) (by have:=HF.out.hb;omega)).2] at h;exact h) HB1.out.2.2.2.2.1 HB1.out.2.2.2.2.2).val) ?_
 rintro _ v35 ⟨s35,a35,n35,c35,s36,a36,n36,c36,rfl,hI35,hI36,hl35,hl36⟩ q35;have e35:=e33.trans q35;refine .done1 hA HS e35 ?_;intro wy hy D8 hD;have hEy:=e35.trans hy;simp only [fbA,List.foldr,sx0,sx1,sx2,ptrA];refine anyH_oneA (i:=10) (by kernel_rfl) rfl (fun Kk hKk=>?_);refine stepK_storeRowC rfl rfl 35 _ _ rfl D8 #[.bool s35,.slice a35 n35 c35,.bool s36,.slice a36 n36 c36] rfl rfl 35 _ hD.2 zF_infoI rfl (by simp [Value.oneCell']) ?_;have on1:=setRow_onlyC wy D8 #[.bool s35,.slice a35 n35 c35,.bool s36,.slice a36 n36 c36];have hX7:Ext W6 (wy.setRow D8 #[.bool s35,.slice a35 n35 c35,.bool s36,.slice a36 n36 c36]):=ext_onlyC hEy on1 hD.1;refine hKk.out _ _ (HS _ hX7) ?_;clear hKk Kk;refine wpAnyH_done (by kernel_rfl) ?_ _;have HV8:=Lh (show FzV (wy.setRow D8 #[.bool s35,.slice a35 n35 c35,.bool s36,.slice a36 n36 c36]) D8 (nfp (zb-3*za) zb) (nfq (zb-3*za) zb) from ⟨_,_,_,_,_,_,_,_,⟨setRow_heap wy D8 _ _ _ _ hD.2⟩,(hI35.ext hy).box hD.2 (by decide) on1,(hI36.ext hy).box hD.2 (by decide) on1,hl35,hl36⟩);have HX7:=Lh (HX6.out.trans hX7);have HV7:=Lh (HV7.out.ext hX7);have HE:=Lh (HE.out.ext hX7);have HS2:=Lh (HS2.out.ext hX7);generalize wy.setRow D8 #[.bool s35,.slice a35 n35 c35,.bool s36,.slice a36 n36 c36]=W7 at *;clear hX7 on1 hD hy hEy hI35 hI36 hl35 hl36 hA HS he0 e26 e27 e29 e30 e33 e35 q26 q27 q29 q30 q33 q35 I26 I27 I29 I30 I33 I34 l26 l27 l29 l30 l33 l34;have k0:=(HC.out.ext HX7.out).x0
 have wk:IntKind.i64.wrap ((n:Int)+1)=((n+1:Nat):Int):=by rw [qH];have:=Hn.out;omega
 have hn4:=Hn.out.1;obtain ⟨S,hS⟩:∃ S,W7.heap.size=S:=⟨_,rfl⟩;have HhS:=Lh hS;clear hS
 go_upto_region 6 with (refine wpList_make_U W7 rfl _ _ rfl .i64 .i64 _ _ (n+1) rfl rfl (by first | rfl | exact wk) (by first | rfl | exact wk) (by omega) ?_;intro w8 hr8 hE8;rw [HhS.out] at hr8 ⊢)
 clear wk hn4 k0
 go_wp2_with fail
 go_loopg [10] en (fun kk s10 wr=>Ext W7 wr/\∃ i:Nat,s10=.int .i64 (i:Int)/\i<=en/\en-i=kk/\wr.heap[S]?=some (.cells (icL (cqL n gens ((erR n).take i))) 3 (0,0)))
 case atStart=>exact ⟨hE8,0,rfl,qI _,rfl,by rw [List.take_zero,cqL_nil];exact hr8⟩
 case round =>
  obtain ⟨hER,i,rfl,hi,hkk,hrow⟩:=hrel;have HER:=Lh hER;have Hkk:=Lh hkk;have Hrow:=Lh hrow
  by_cases hin:i=en
  ·have q1:¬ (i:Int)<(en:Int):=by omega
   have HRow:=Lh (show wr.heap[S]?=some (.cells (icL (cqL n gens (erR n))) 3 (0,0)) by rw [qB (by have:=Hen.out.1;omega)] at hrow;exact hrow);clear hin hi hER hkk hrow Hrow hr8 hE8 Hkk;obtain ⟨X,hX⟩:∃ X,X=wr:=⟨_,rfl⟩;subst hX;have HX:=Lh (HX7.out.trans HER.out);obtain ⟨nb,na,nn,nc,nb',na',nn',nc',nbx,nz1,nz2,nl1,nl2⟩:=HV7.out.ext HER.out;obtain ⟨K12,hK12⟩:∃ K,X.heap.size=K:=⟨_,rfl⟩;obtain ⟨Y,hY⟩:∃ Y,X.alloc (.cells #[.bool nb,.slice na nn nc,.bool nb',.slice na' nn' nc'] 35)=Y:=⟨_,rfl⟩;have HV12:=Lh (show SumV Y K12 n gens za zb 0 by rw [<-hY,<-hK12];exact SumV.zero (FzV.new nz1 nz2 nl1 nl2) HF.out.hb);have HEY:=Lh (show Ext X Y by rw [<-hY];exact ext_al _ _);have d0:=nbx.c0;have d1:=nbx.c1;have d2:=nbx.c2;have d3:=nbx.c3;have HK12:=Lh hK12;have HY:=Lh hY;clear nbx nz1 nz2 nl1 nl2 hK12 hY
   go_upto_region 13 with fail
   rw [HY.out,HK12.out];clear HY d0 d1 d2 d3
   go_wp2_with fail
   go_loopg [13] (n+1) (fun kk s13 wr=>Ext X wr/\∃ m:Nat,s13=.int .i64 (m:Int)/\m<=n+1/\n+1-m=kk/\SumV wr K12 n gens za zb m)
   case atStart=>exact ⟨HEY.out,0,rfl,qI _,rfl,HV12.out⟩
   case round =>
    obtain ⟨hEXA,m,rfl,hm,hkk2,hsum⟩:=hrel;obtain ⟨A,hA⟩:∃ A,A=wr:=⟨_,rfl⟩;subst hA;have HEXA:=Lh hEXA;have Hkk2:=Lh hkk2;have HSum:=Lh hsum;have HXA:=Lh (HX.out.trans hEXA);have k0:=(HC.out.ext HXA.out).x0
    by_cases hmn:m=n+1
    ·have q1:¬ (m:Int)<=(n:Int):=by omega
     obtain ⟨sb,sa,sn,sc,sb',sa',sn',sc',sbx,sz1,sz2,sl1,sl2⟩:=hsum;have g0:=sbx.c0;have g1:=sbx.c1;have g2:=sbx.c2;have g3:=sbx.c3;have bR:=HR.out.ext HXA.out;have r0:=bR.c0;have r1:=bR.c1;have r2:=bR.c2;have r3:=bR.c3;have f0:=bR.f 0;have f1:=bR.f 1;have f2:=bR.f 2;have f3:=bR.f 3;subst hmn;have HI9:=Lh (sz1.put4 bR (.bool sb) (.slice sa sn sc) (.bool sb') (.slice sa' sn' sc'));have HI8:=Lh (sz2.put4 bR (.bool sb) (.slice sa sn sc) (.bool sb') (.slice sa' sn' sc'));have HEn:=Lh (putF4_ext (HEU.out.trans HXA.out) (show w.heap.size<=H+1+1 by rw [HH.out];omega) sb sa sn sc sb' sa' sn' sc');have Hsl:=Lh (jN sl1 sl2);clear sbx sz1 sz2 sl1 sl2 bR hEXA hm hkk2
     go_wp2_with fail
     exact qJ (v:=.agg #[.bool sb,.slice sa sn sc,.bool sb',.slice sa' sn' sc']) (by simp [results,Tryz.results13,go_sem,r0,r1,r2,r3]) rfl ⟨sb,sa,sn,sc,sb',sa',sn',sc',rfl,HI9.out,HI8.out,Hsl.out.1,Hsl.out.2,HEn.out⟩
    have Hmn:=Lh (show m<=n by omega)
    have q1:(m:Int)<=(n:Int):=by omega
    have q2:(0:Int)<=(m:Int):=by omega
    have q3:(m:Int)<(n:Int)+1:=by omega
    have q4:m<n+1:=by omega
    have HwkM:=Lh (show IntKind.i64.wrap ((m:Int)+1)=((m+1:Nat):Int) by rw [qH];have:=Hn.out;omega);obtain ⟨cm,hcm⟩:∃ c,cntT n gens m=c:=⟨_,rfl⟩;have Hcm:=Lh hcm;have Hc4:=Lh (show cm<=4096 by rw [<-hcm];exact cntT_le (by have:=Hn.out;omega) gens m);have c2:A.cell? ⟨S,m,none⟩=some (.int .i64 (cm:Int)):=cell_ext (by rw [qD X _ m _ _ (0,0) HRow.out];exact icL_at (by rw [cqL_at Hmn.out,cq_all,hcm])) hEXA;have HOc:=Lh (ZOf_any (cm:Int) (by omega) (by have:=Hc4.out;omega) A);clear hcm hsum hEXA hm hkk2 hmn
    go_wp2_with fail
    refine HOc.out.mono ?_;rintro r w16 ⟨xb,xa,xn,xc,rfl,xz,xl,hx16⟩;have HO1:=Lh (ZOf_any 1 (by decide) (by decide) w16);have Hxz:=Lh xz;have Hxl:=Lh xl;have Hx16:=Lh hx16;clear xz xl hx16 HOc c2
    go_wp2_with fail
    refine HO1.out.mono ?_;rintro r w17 ⟨yb,ya,yn,yc,rfl,yz,yl,hx17⟩;obtain ⟨K14,hK14⟩:∃ K,w17.heap.size=K:=⟨_,rfl⟩;obtain ⟨B,hB⟩:∃ B,w17.alloc (.cells #[.bool xb,.slice xa xn xc,.bool yb,.slice ya yn yc] 35)=B:=⟨_,rfl⟩;have HV14:=Lh (show TermV B K14 cm za zb m 0 by rw [<-hB,<-hK14];exact TermV.zero (FzV.new (Hxz.out.ext hx17) yz (by have:=Hxl.out;omega) (by omega)));have HE17:=Lh (Hx16.out.trans hx17);have HEA17:=Lh (HXA.out.trans HE17.out);have HEB:=Lh (show Ext w17 B by rw [<-hB];exact ext_al _ _);have HK14:=Lh hK14;have HB:=Lh hB;clear hK14 hB yz yl hx17 Hxz Hxl Hx16 HO1
    go_upto_region 17 with fail
    rw [HB.out,HK14.out];clear HB
    go_wp2_with fail
    go_loopg [15] n (fun kk s15 wr=>Ext w17 wr/\∃ i:Nat,s15=.int .i64 (i:Int)/\i<=n/\n-i=kk/\TermV wr K14 cm za zb m i)
    case atStart=>exact ⟨HEB.out,0,rfl,qI _,rfl,HV14.out⟩
    case round =>
     obtain ⟨hER3,i,rfl,hi,hkk3,hterm⟩:=hrel;have HE3:=Lh hER3;have Hkk3:=Lh hkk3;have HEwr:=Lh (HEA17.out.trans hER3);have k0:=(HC.out.ext HEwr.out).x0;obtain ⟨tb,ta,tn,tc,tb',ta',tn',tc',tbx,tz1,tz2,tl1,tl2⟩:=hterm;have t0:=tbx.c0;have t1:=tbx.c1;have t2:=tbx.c2;have t3:=tbx.c3;have HtB:=Lh tbx
     by_cases hin:i=n
     ·have q1:¬ (i:Int)<(n:Int):=by omega
      subst hin;obtain ⟨sb,sa,sn,sc,sb',sa',sn',sc',sbx,sz1,sz2,sl1,sl2⟩:=(HSum.out.ext HE17.out).ext hER3;have HMu:=Lh (sum_add (gens:=gens) HF.out (by have:=Hn.out;omega) (by have:=Hmn.out;omega) sz1 sz2 sl1 sl2 (by rw [Hcm.out];exact tz1) (by rw [Hcm.out];exact tz2) tl1 tl2);have g0:=sbx.c0;have g1:=sbx.c1;have g2:=sbx.c2;have g3:=sbx.c3;have HsB:=Lh sbx;have wkm:=HwkM.out;clear hER3 hkk3 hi tz1 tz2 tl1 tl2 tbx sz1 sz2 sl1 sl2 sbx
      go_wp2_with fail
      refine HMu.out.mono ?_;rintro r w18 ⟨pb,pa,pn,pc,pb',pa',pn',pc',rfl,pz1,pz2,pl1,pl2,hx18⟩;have bT:=HsB.out.ext hx18;have g0:=bT.c0;have g1:=bT.c1;have g2:=bT.c2;have g3:=bT.c3;have f0:=bT.f 0;have f1:=bT.f 1;have f2:=bT.f 2;have f3:=bT.f 3;have Hnew:=Lh (FzV.own bT pz1 pz2 pl1 pl2);have HEn:=Lh (putF4_ext ((HEXA.out.trans HE17.out).trans (HE3.out.trans hx18)) (show X.heap.size<=K12 by rw [HK12.out];exact qZ _) pb pa pn pc pb' pa' pn' pc');clear bT pz1 pz2 pl1 pl2 hx18 HMu
      go_wp2_with fail
      go_roundg (i+1-(m+1))
      case measure=>have:=Hkk2.out;have:=Hmn.out;omega
      case rel=>exact ⟨HEn.out,m+1,rfl,by have:=Hmn.out;omega,rfl,Hnew.out⟩
     ·have q1:(i:Int)<(n:Int):=by omega
      have Hin:=Lh (show i+1<=n by omega)
      have wki:IntKind.i64.wrap ((i:Int)+1)=((i+1:Nat):Int):=by rw [qH];have:=Hn.out;omega
      by_cases him:(i:Int)<(m:Int)
      ·have uB:=HT.out.ext HEwr.out
       have HMu:=Lh (term_mul (n:=n) (m:=m) HF.out (by have:=Hn.out;omega) Hc4.out Hin.out tz1 tz2 tl1 tl2 (HZ1.out.ext HEwr.out) (HZ2.out.ext HEwr.out) HlZ.out.1 HlZ.out.2 (by rw [qU (by omega)];exact HF.out.ep) (by rw [qU (by omega)];exact HF.out.eq));have u0:=uB.c0;have u1:=uB.c1;have u2:=uB.c2;have u3:=uB.c3;clear hER3 hkk3 hi hin tz1 tz2 tl1 tl2 tbx uB
       go_wp2_with fail
       refine HMu.out.mono ?_;rintro r w18 ⟨pb,pa,pn,pc,pb',pa',pn',pc',rfl,pz1,pz2,pl1,pl2,hx18⟩;have bT:=HtB.out.ext hx18;have t0:=bT.c0;have t1:=bT.c1;have t2:=bT.c2;have t3:=bT.c3;have f0:=bT.f 0;have f1:=bT.f 1;have f2:=bT.f 2;have f3:=bT.f 3;have Hnew:=Lh (FzV.own bT pz1 pz2 pl1 pl2);have HEn:=Lh (putF4_ext (HE3.out.trans hx18) (show w17.heap.size<=K14 by rw [HK14.out];exact qZ _) pb pa pn pc pb' pa' pn' pc');clear bT pz1 pz2 pl1 pl2 hx18 HMu
       go_wp2_with fail
       go_roundg (n-(i+1))
       case measure=>have:=Hkk3.out;have:=Hin.out;omega
       case rel=>exact ⟨HEn.out,i+1,rfl,Hin.out,rfl,Hnew.out⟩
      ·obtain ⟨vb,va,vn,vc,vb',va',vn',vc',vbx,vz1,vz2,vl1,vl2⟩:=(HV8.out.ext HER.out).ext (HEXA.out.trans (HE17.out.trans hER3))
       have HMu:=Lh (term_mul (n:=n) (m:=m) HF.out (by have:=Hn.out;omega) Hc4.out Hin.out tz1 tz2 tl1 tl2 vz1 vz2 vl1 vl2 (by rw [qE (by omega)]) (by rw [qE (by omega)]));have u0:=vbx.c0;have u1:=vbx.c1;have u2:=vbx.c2;have u3:=vbx.c3;clear hER3 hkk3 hi hin tz1 tz2 tl1 tl2 tbx vz1 vz2 vl1 vl2 vbx
       go_wp2_with fail
       refine HMu.out.mono ?_;rintro r w18 ⟨pb,pa,pn,pc,pb',pa',pn',pc',rfl,pz1,pz2,pl1,pl2,hx18⟩;have bT:=HtB.out.ext hx18;have t0:=bT.c0;have t1:=bT.c1;have t2:=bT.c2;have t3:=bT.c3;have f0:=bT.f 0;have f1:=bT.f 1;have f2:=bT.f 2;have f3:=bT.f 3;have Hnew:=Lh (FzV.own bT pz1 pz2 pl1 pl2);have HEn:=Lh (putF4_ext (HE3.out.trans hx18) (show w17.heap.size<=K14 by rw [HK14.out];exact qZ _) pb pa pn pc pb' pa' pn' pc');clear bT pz1 pz2 pl1 pl2 hx18 HMu
       go_wp2_with fail
       go_roundg (n-(i+1))
       case measure=>have:=Hkk3.out;have:=Hin.out;omega
       case rel=>exact ⟨HEn.out,i+1,rfl,Hin.out,rfl,Hnew.out⟩
  have hlt:i<en:=by omega
  have q1:(i:Int)<(en:Int):=by omega
  have q0:(0:Int)<=(i:Int):=by omega
  have wk:IntKind.i64.wrap ((i:Int)+1)=((i+1:Nat):Int):=by rw [qH];have:=Hen.out;omega
  obtain ⟨e,he⟩:∃ e,(erR n)[i]?=some e:=⟨_,qX (by have:=Hen.out.1;omega)⟩;obtain ⟨b3,o3,hae,_,hcs⟩:=(HE.out.ext hER).at (by omega);have c0:=hcs i hlt;rw [show (erR n).getD i []=e by rw [qQ,he];rfl] at c0;have hLe:Let n e:=(erR_let n e).1 (jL he)
  have htk:(erR n).take i++[e]=(erR n).take (i+1):=by rw [jP,he];rfl
  obtain ⟨d,hd1,hd2,_⟩:=bst_syn Hcc.out (syn_lenF gens e) (syn_01F gens e)
  have hun:unT n gens e=!inG (grR n (barL gens)) (mulT d e):=by unfold unT dcT;rw [hd1];rfl
  obtain ⟨md,hmd⟩:∃ m,mulT d e=m:=⟨_,rfl⟩;rw [hmd] at hun;obtain ⟨ge,hge⟩:∃ ge,inG (grR n (barL gens)) md=ge:=⟨_,rfl⟩;rw [hge] at hun;obtain ⟨v,hv⟩:∃ v,wtT e=v:=⟨_,rfl⟩
  have hvn:v<=n:=by have:=wtT_le e;have:=hLe.1;omega
  obtain ⟨cv,hcv⟩:∃ k,cqN n gens ((erR n).take i) v=k:=⟨_,rfl⟩
  have hcl:cv<=1024:=by have:=cq_le n gens ((erR n).take i) v;rw [qC] at this;have:=Hen.out;omega
  have wk9:=Lh (show IntKind.i64.wrap ((cv:Int)+1)=((cv+1:Nat):Int) by rw [qH];omega);have Hadd:=Lh (fun (h:ge=false)=>(show (cqL n gens ((erR n).take i)).set v ((cv+1:Nat):Int)=cqL n gens ((erR n).take (i+1)) by rw [<-htk,cqL_add (by rw [hun,h];rfl) hv,hcv]));have Hskp:=Lh (fun (h:ge=true)=>(show cqL n gens ((erR n).take i)=cqL n gens ((erR n).take (i+1)) by rw [<-htk,cqL_skip (by rw [hun,h];rfl)]));have Hcs:=Lh (fun (w':World) (hx:Ext wr w')=>(show w'.cell? ⟨S,v,none⟩=some (.int .i64 (cv:Int)) from cell_ext (by rw [qD wr _ v _ _ (0,0) hrow];exact icL_at (by rw [cqL_at hvn,hcv])) hx));have hEw:=HX7.out.trans hER;have HEw:=Lh hEw;have v0:=(HC.out.ext hEw).x0;have v1:=(HC.out.ext hEw).x1;have HSO:=Lh (fun (wx:World) (hx:Ext wr wx)=>SyndromeOf_any (n:Int) gens e ao k c wx (HG.out.ext (HEw.out.trans hx)) (by have:=Hn.out;have:=Hk.out;omega) n (by have:=Hn.out;omega) (fun T hT=>(isP_let (Hall.out T hT)).1) hLe.1);have HDe:=Lh (fun (a8:Option Addr) (c8:Nat) (w8:World) (hx:Ext wr w8) (hI:IntsAt w8 a8 k (synL gens e))=>DecodeOf_any (n:Int) gens (synL gens e) (erR n) ao k c a8 k c8 aE en cE w8 (HG.out.ext (HEw.out.trans hx)) (by have:=Hn.out;have:=Hk.out;omega) n (by have:=Hn.out;omega) Hn.out.2 (fun T hT=>(isP_let (Hall.out T hT)).1) hI (HE.out.ext (HER.out.trans hx)) (by have:=Hen.out;omega) (fun e he=>((erR_let n e).1 he).1));rw [hd1] at HDe;simp only [Option.getD_some] at HDe;have HLt:=Lh (fun wx=>lettersTimes_any d e n wx hd2 hLe (by have:=Hn.out;omega));rw [hmd] at HLt
  have hmdl:md.length<=9223372036854775807:=by rw [<-hmd];have:=(let_mul hd2 hLe).1;have:=Hn.out;omega
  have HIn:=Lh (fun (wx:World) (hx:Ext wr wx)=>InGroup_any (grR n (barL gens)) md aG gn cG wx ((HS2.out.ext HER.out).ext hx) Hgn.out hmdl);rw [hge] at HIn;have HWe:=Lh (fun wx=>rWeight_any e wx (by have:=hLe.1;have:=Hn.out;omega));rw [hv] at HWe;have Hvn:=Lh hvn;have Hlt:=Lh hlt;have Hc0:=Lh c0;subst hae;clear hER hi hkk hrow hin hlt he hcs hLe htk hd1 hd2 hun hmd hge hv hvn hcv hcl hEw hmdl hr8 hE8;have HSj:=Lh (fun (w':World) (hx:Ext wr w')=>(show w'.cell? ⟨H,0,none⟩=some (.int .i64 (n:Int))/\w'.cell? ⟨H,1,none⟩=some (.slice ao k c)/\w'.cell? ⟨b3,o3+i,none⟩=some (.string ⟨e.toArray⟩) from ⟨cell_ext v0 hx,cell_ext v1 hx,cell_ext Hc0.out hx⟩))
  go_upto_region 9 with fail
  clear v0 v1 c0;have Ew0:Ext wr wr.drew:=qG (Ext.refl _);refine wp_region_K 9 (fun w'=>w'.cell? ⟨H,0,none⟩=some (.int .i64 (n:Int))/\w'.cell? ⟨H,1,none⟩=some (.slice ao k c)/\w'.cell? ⟨b3,o3+i,none⟩=some (.string ⟨e.toArray⟩)) (by kernel_rfl) ?_
  show anyK _ _ _ _ _ _ 10 #[false,false,false,false,false,false,false,false,false,false] _ _
  refine kU 0 10 rfl (HSj.out _ Ew0) ?_
  show anyK _ _ _ _ _ _ _ _ (Act.put _ (some 45) _) _
  simp only [Act.put,sx0,sx1,sx2];refine kU 1 10 rfl (HSj.out _ Ew0) ?_
  show anyK _ _ _ _ _ _ _ _ (Act.put _ (some 46) _) _
  simp only [Act.put,sx0,sx1,sx2];refine kU 2 10 rfl (HSj.out _ Ew0) ?_
  show anyK _ _ _ _ _ _ _ _ (Act.put _ (some 47) _) _
  simp only [Act.put,sx0,sx1,sx2];refine kU 3 10 rfl (HSj.out _ Ew0) ?_
  show anyK _ _ _ _ _ _ _ _ (Act.put _ (some 48) _) _
  simp only [Act.put,sx0,sx1,sx2];refine kU 4 10 rfl (HSj.out _ Ew0) ?_
  show anyK _ _ _ _ _ _ _ _ (Act.put _ (some 49) _) _
  simp only [Act.put,sx0,sx1,sx2];refine kU 5 10 rfl (HSj.out _ Ew0) ?_
  show anyK _ _ _ _ _ _ _ _ (Act.put _ (some 50) _) _
  simp only [Act.put,sx0,sx1,sx2];refine kU 7 10 rfl (HSj.out _ Ew0) ?_
  show anyK _ _ _ _ _ _ _ _ (Act.put _ (some 52) _) _
  simp only [Act.put,sx0,sx1,sx2];refine anyK_one (i:=6) (by kernel_rfl) rfl (fun Kk hKk=>?_)
  go_simp
  (go_at_call 42;refine (HSO.out _ Ew0).mono ?_;rintro e w9 ⟨⟨v8,rfl,hr8⟩,hx⟩)
  have Ew9:Ext wr w9:=Ew0.trans hx;obtain ⟨a8,c8,rfl,hac8,hcm8,hI8,_⟩:=ints_of_own hr8
  go_wp2_with fail
  refine hKk.out _ _ (fun _=>HSj.out _ Ew9) ?_;clear hKk Kk hx;simp only [sx0,sx1,sx2];refine anyK_one (i:=8) (by kernel_rfl) rfl (fun Kk hKk=>?_)
  go_simp
  (go_at_call 41;refine (HDe.out a8 c8 w9 Ew9 hI8).mono ?_;rintro e w10 ⟨rfl,hx⟩)
  have Ew10:Ext wr w10:=Ew9.trans hx
  go_wp2_with fail
  refine hKk.out _ _ (fun _=>HSj.out _ Ew10) ?_;clear hKk Kk hx;simp only [sx0,sx1,sx2];refine anyK_one (i:=9) (by kernel_rfl) rfl (fun Kk hKk=>?_)
  go_wp2_with fail
  refine hKk.out _ _ (fun h=>Bool.noConfusion (show true=false from h)) ?_;clear hKk Kk;simp only [sx0,sx1,sx2];refine anyK_done (by kernel_rfl) ?_ _;have c0:=(HSj.out _ Ew10).2.2;have HI10:=Lh (HIn.out);have HE10:=Lh Ew10;clear Ew0 Ew9 Ew10 hr8 hI8 hac8 hcm8 HSO HDe
  go_wp2_with fail
  refine (HLt.out _).mono ?_;rintro r w11 ⟨rfl,hx11⟩;have HE11:=Lh (HE10.out.trans hx11);clear hx11 c0 HLt HE10
  go_wp2_with fail
  refine (HI10.out w11 HE11.out).mono ?_;rintro r w12 ⟨rfl,hx12⟩;have HE12:=Lh (HE11.out.trans hx12);clear hx12 HE11 HI10 HIn
  cases ge
  ·have c0:=(HSj.out _ HE12.out).2.2
   go_wp2_with fail
   refine (HWe.out _).mono ?_;rintro r w13 ⟨rfl,hx13⟩;have HE13:=Lh (HE12.out.trans hx13);have c2:=Hcs.out _ HE13.out;have r13:=(HE13.out.block _ (lt_rowC Hrow.out)).trans Hrow.out;have g2:w13.frozen? ⟨S,v,none⟩=false:=jQ w13 S v _ _ r13
   have q2:(0:Int)<=(v:Int):=by omega
   have q3:(v:Int)<(n:Int)+1:=by have:=Hvn.out;omega
   have q4:v<n+1:=by have:=Hvn.out;omega
   have wk9':=wk9.out;have Hr13:=Lh (row_putU (k:=v) (u:=.int .i64 ((cv+1:Nat):Int)) r13 (by rw [icL_set,Hadd.out (by first | rfl | trivial)]));have HEz:=Lh (show Ext W7 (w13.setCell ⟨S,v,none⟩ (.int .i64 ((cv+1:Nat):Int))) from yD (HER.out.trans HE13.out) (p:=⟨S,v,none⟩) (by rw [HhS.out];exact qZ _) _);clear r13 hx13 c0
   go_wp2_with fail
   go_roundg (en-(i+1))
   case measure=>have:=Hkk.out;have:=Hlt.out;omega
   case rel=>exact ⟨HEz.out,i+1,rfl,Hlt.out,rfl,Hr13.out⟩
  ·have Hr12:=Lh (show w12.heap[S]?=some (.cells (icL (cqL n gens ((erR n).take (i+1)))) 3 (0,0)) by rw [<-Hskp.out (by first | rfl | trivial)];exact (HE12.out.block _ (lt_rowC Hrow.out)).trans Hrow.out)
   go_wp2_with fail
   go_roundg (en-(i+1))
   case measure=>have:=Hkk.out;have:=Hlt.out;omega
   case rel=>exact ⟨HER.out.trans HE12.out,i+1,rfl,Hlt.out,rfl,Hr12.out⟩
open Go.RowKit Go.ChangeShapes Go.WideShapes Go.Deep
theorem addr_at (b o t:Nat):(⟨b,o,none⟩:Addr).add t=⟨b,o+t,none⟩:=by
 unfold Addr.add
 by_cases h:t=0<;>simp [h]
section
variable {H:Type} {enc:TypeId × Value->H} {W:World}
end
open Go.RowKit Go.ChangeShapes Go.WideShapes
theorem post_kept {H:Type} {enc:TypeId × Value->H} {P:Program} {f:Func} {s:ChangeSpec} {apart fresh handsOn again:Bool} {W W':World} {args:Array Value} {v:Value} {ds gs:List (DataW H)} {ps:List MemPlace}
  (hW:DataW.Whole enc P f.params.toList s.vars apart W args.toList ds gs ps)
  (hres:∀ (b:Nat) (sp:Nat->Bool) (hd:Bool),DataW.TrodAll enc P W' b sp hd f.resultTypes.toList (v.resultList f.resultTypes.size) (s.fn H (ds++gs)).results [])
  (hargs:∀ sp:Nat->Bool,(∀ x ∈ ps,sp x.block=true)->DataW.TrodAll enc P W' 0 sp true f.params.toList args.toList (s.fn H (ds++gs)).args ps)
  (hvars:∀ sp:Nat->Bool,DataW.TrodVars enc P W' sp s.vars (s.fn H (ds++gs)).vars [])
  (hb:Ext W W')
  (hok:∀ (j:Nat) (t:TypeId) (r:Value),f.resultTypes[j]?=some t->(v.resultList f.resultTypes.size)[j]?=some r->Value.okWide P W' .any 0 t r) :
  s.post enc P f apart fresh handsOn again W args v W':=by
 have hlt:=hW.lt
 have hold:∀ x ∈ ps,decide (x.block<W.heap.size)=true:=fun x hx=>by simpa using hlt x hx
 have hall:∀ x ∈ ps,(fun _:Nat=>true) x.block=true:=fun _ _=>rfl
 have hn:W.noneFrozen ps/\(apart=true->ps.Nodup):=by
  obtain ⟨_,_,_,_,rfl,h1,h2⟩:=hW;exact ⟨h1,h2⟩
 refine ⟨ds,gs,ps,[],ps,[],hW,hres _ _ _,hargs _ hold,hvars _,Below.frame hb _,fun _=>?_⟩;refine ⟨hok,_,_,([]++ps)++[],⟨[]++ps,[],trodAll_append (hargs (fun _=>true) hall) (hres _ _ _),hvars _,rfl,?_,?_⟩,?_⟩
 ·intro b off hp
  have hp':MemPlace.cell b off ∈ ps:=by simpa using hp
  rw [Below.frozen hb (p:=⟨b,off,none⟩) (hlt _ hp')];exact hn.1 b off hp'
 ·intro ha
  simpa using hn.2 ha
 ·intro x hx _
  simpa using hx
open Go.RowKit Go.ChangeShapes Go.WideShapes Go.Deep
section
variable {H:Type} {enc:TypeId × Value->H} {W:World}
theorem bytes_strC:Tryz.prog.bytesOf 9=16:=by kernel_rfl
theorem cells_strC:Tryz.prog.cellsOf 9=1:=by kernel_rfl
theorem cells_co:Tryz.prog.cellsOf 24=2:=by kernel_rfl
theorem open_code {v:Value} {d:DataW H} {p:List MemPlace} {base:Nat} (hok:Value.okWide Tryz.prog W .any base 24 v) (h:DataW.Trod enc Tryz.prog W 0 (fun _=>true) true 24 v d p) (hz:∀ k ∈ d.weights Tryz.prog 24,k<=reachBytes) :
  ∃ (N:Int) (gens:List (List UInt8)) (ao:Option Addr) (n cp:Nat),v=.agg #[.int .i64 N,.slice ao n cp]/\StrsAt W ao n gens/\(∀ T ∈ gens,T.length<=9223372036854775807)/\n*16<=140737488355328/\(ao=none->cp=0)/\N<=9223372036854775807:=by
 obtain ⟨fuel,h⟩:=h
 have hv:∃ cs:Array Value,v=.agg cs:=by
  unfold Value.okWide at hok;rw [Tryz.underlying24] at hok;obtain ⟨cs,e,_⟩:=hok;exact ⟨cs,e⟩
 obtain ⟨cs,rfl⟩:=hv;obtain ⟨xs,n,_,hx0,hl,hlen,hf⟩:=DataW.trod_struct Tryz.underlying24 h;obtain ⟨cl⟩:=cs;have hcl:(Value.agg ⟨cl⟩).cells.toList=cl:=rfl;rw [hcl] at hl hf;rw [cells_co] at hl
 match xs,hlen,cl,hl with
 | [y0,y1],_,[v0,v1],_ =>
  injection hx0 with hd hp;subst hd;have g0:=hf 0 _ rfl;have g1:=hf 1 _ rfl;simp only [List.getElem?_cons_zero,List.getElem?_cons_succ] at g0 g1;obtain ⟨N,e0,_,hwf⟩:=DataW.trod_int Tryz.underlying3 g0;injection e0 with e0
  have hN:N<=9223372036854775807:=by
   have h1:(decide (IntKind.i64.min<=N) && decide (N<=IntKind.i64.max))=true:=hwf;rw [Bool.and_eq_true,jZ,jZ] at h1;exact h1.2
  have hz2:∀ k ∈ y1.1.weights Tryz.prog 22,k<=reachBytes:=fun k hk=>hz k (by simp [DataW.weights,Tryz.underlying24,DataW.weightsEach,hk])
  rcases open_slice1 Tryz.underlying22 cells_strC g1 with ⟨e2,_⟩ | ⟨a,len,cap,m,n',V,D,Pl,e2,_,hl2,hm2,hmm,hy2,hx⟩
  ·injection e2 with e2
   exact ⟨N,[],none,0,0,by rw [e0,e2],⟨rfl,qM rfl⟩,fun T hT=>(by cases hT),by omega,fun _=>rfl,hN⟩
  ·injection e2 with e2
   have hmc:m=cap:=by simpa using hmm
   subst hmc;subst hy2
   have hr:reachBytes<=140737488355328:=by decide
   have hb:=hz2 ((len+(m-len))*Tryz.prog.bytesOf 9) (by simp [DataW.weights,Tryz.underlying22]);rw [bytes_strC] at hb
   obtain ⟨F,hF⟩:=choose_lt (α:=List UInt8) (n:=m) (p:=fun i z=>W.cell? (a.add i)=some (.string ⟨z.toArray⟩)/\z.length<=9223372036854775807) (fun i hi=>by
    obtain ⟨h1,h2⟩:=hx i hi;obtain ⟨s,e,_,hs⟩:=DataW.trod_string Tryz.underlying9 h2;injection e with e;refine ⟨s.data.toList,?_,?_⟩
    ·rw [h1,e]
    ·have hm:maxLen<=9223372036854775807:=by unfold maxLen;decide
     have h8:s.data.toList.length=s.size:=by rw [Array.length_toList];rfl
     rw [h8]
     exact qL hs hm)
   obtain ⟨b,o,spot⟩:=a;refine ⟨N,(List.range len).map F,some ⟨b,o,spot⟩,len,m,by rw [e0,e2],⟨by simp,?_⟩,fun T hT=>?_,by omega,fun e=>(by cases e),hN⟩
   ·by_cases h0:len=0
    ·exact qM h0
    ·have h1:=(hF 0 (by omega)).1
     have hs:spot=none:=by simpa [Addr.add] using World.cell?_spot h1
     subst hs;refine qO ⟨b,o,rfl,World.block_lt_of_cell? W _ h1,fun t ht=>?_⟩;have:=(hF t (by omega)).1;rw [addr_at] at this;rw [this,qQ,jM,List.getElem?_range ht]
     rfl
   ·obtain ⟨i,hi,rfl⟩:=yU.1 hT
    exact (hF i (by have:=List.mem_range.1 hi;omega)).2
end
theorem letter_row {H:Type} {enc:TypeId × Value->H} {W:World} {base:Nat} {sp:Nat->Bool} {held:Bool} {fuel:Nat} {cs:List Value} {a b:Int} {c:Bool} {p:List MemPlace}
  (h:DataW.trod enc Tryz.prog W base sp held fuel 94 cs=some (.agg [.lit (.int .u16 a),.lit (.int .u16 b),.lit (.bool c)],p)) :
  cs=[.int .u16 a,.int .u16 b,.bool c]:=by
 obtain ⟨xs,n,_,hx,hl,hlen,hf⟩:=DataW.trod_struct Tryz.underlying94 h
 have hc:Tryz.prog.cellsOf 94=3:=by kernel_rfl
 rw [hc] at hl
 match xs,hlen,cs,hl with
 | [y0,y1,y2],_,[v0,v1,v2],_ =>
  have g0:=hf 0 _ rfl;have g1:=hf 1 _ rfl;have g2:=hf 2 _ rfl;simp only [List.getElem?_cons_zero,List.getElem?_cons_succ] at g0 g1 g2;obtain ⟨b0,e0,z0,_⟩:=DataW.trod_int Tryz.underlying92 g0;obtain ⟨b1,e1,z1,_⟩:=DataW.trod_int Tryz.underlying92 g1;obtain ⟨b2,e2,z2⟩:=DataW.trod_bool Tryz.underlying4 g2;subst z0;subst z1;subst z2;injection hx with hd _;simp only [yW,yI,DataW.agg.injEq,List.cons.injEq,DataW.lit.injEq,Lit.int.injEq,Lit.bool.injEq,true_and,and_true] at hd;obtain ⟨rfl,rfl,rfl⟩:=hd;injection e0 with e0;injection e1 with e1;injection e2 with e2;rw [e0,e1,e2]
theorem ltl_of_laid {W : World} (h : laidMet Tryz.prog [("qloom/code.letters", Rows.laid_qloom_code_letters)] W) : LtL W := by
 obtain ⟨ps,⟨g',t',cs,fuel,p,q,hg',ht',hvar,hd,_,hps⟩,_,hfz⟩:=h
 obtain rfl := Option.some.inj ((show Tryz.prog.globalNamed "qloom/code.letters" = some 0 by kernel_rfl).symm.trans hg')
 obtain rfl:=Option.some.inj ((show (Tryz.prog.globals[0]?).map (·.type)=some 178 by kernel_rfl).symm.trans ht')
 have hblk:∃ t,W.heap[(0:Nat)]?=some (.cells cs t (0,0)):=by
  have hv:=hvar;simp only [World.var?,hg',Option.bind_some] at hv
  split at hv
  ·rename_i c t f hc
   obtain rfl:=Option.some.inj hv;obtain ⟨xs,m,_,hx,hl,hlen,_⟩:=DataW.trod_array Tryz.underlying178 hd
   have hc9:Tryz.prog.cellsOf 178=9:=by kernel_rfl
   rw [hc9] at hl
   have hs:c.size=9:=by simpa using hl
   obtain ⟨⟨c',t',h'⟩,_⟩:=hfz 0 0 (by
    rw [hps,hs];refine List.mem_append_left _ (List.mem_append_left _ ?_)
    simp [MemPlace.row])
   rw [hc] at h';injection h' with h';injection h' with h1 h2 h3;exact ⟨t,by rw [hc,h3]⟩
  ·cases hv
 obtain ⟨t,ht⟩:=hblk;obtain ⟨xs,m,_,hx,hl,hlen,hf⟩:=DataW.trod_array Tryz.underlying178 hd
 have hc9:Tryz.prog.cellsOf 178=9:=by kernel_rfl
 have hc3:Tryz.prog.cellsOf 94=3:=by kernel_rfl
 rw [hc9] at hl;rw [hc3] at hf
 match xs,hlen with
 | [y0,y1,y2],_ =>
  injection hx with hx _;unfold Rows.laid_qloom_code_letters at hx;simp only [yW,yI,DataW.agg.injEq,List.cons.injEq,and_true] at hx;obtain ⟨x0,x1,x2⟩:=hx
  have key:∀ (k:Nat) (y:DataW Unit × List MemPlace) (a b:Int) (c:Bool),k<3->[y0,y1,y2][k]?=some y->.agg [.lit (.int .u16 a),.lit (.int .u16 b),.lit (.bool c)]=y.1->(cs.toList.drop (k*3)).take 3=[.int .u16 a,.int .u16 b,.bool c]:=by
   intro k y a b c hk hy he;have h1:=hf k hk;rw [hy] at h1;obtain ⟨yd,yp⟩:=y;simp only at he;subst he;exact letter_row h1
  have k0:=key 0 y0 _ _ _ (by omega) rfl x0;have k1:=key 1 y1 _ _ _ (by omega) rfl x1;have k2:=key 2 y2 _ _ _ (by omega) rfl x2;refine ⟨t,?_⟩;rw [ht]
  congr 2
  apply Array.toList_inj.1
  have e:cs.toList=(cs.toList.drop (0*3)).take 3++((cs.toList.drop (1*3)).take 3++(cs.toList.drop (2*3)).take 3):=by
   apply List.ext_getElem?
   intro i;have hl9:cs.toList.length=9:=hl;simp only [List.getElem?_append,jC,List.getElem?_drop,qC,qF,hl9]
   by_cases h3:i<3
   ·simp [h3]
   ·by_cases h6:i<6
    ·have:i-3<3:=by omega
     simp [h3,this]
     congr 1;omega
    ·by_cases h9:i<9
     ·have a1:¬ i-3<3:=by omega
      have a2:i-3-3<3:=by omega
      simp [h3,a1,a2]
      congr 1;omega
     ·have a1:¬ i-3<3:=by omega
      have a2:¬ i-3-3<3:=by omega
      simp [h3,a1,a2]
      have:cs.size=9:=by simpa using hl9
      omega
  rw [e,k0,k1,k2]
  rfl
theorem sameInts_any (l:List Int) (a1:Option Addr) (n c1:Nat) (a2:Option Addr) (c2:Nat) (w:World) (h1:IntsAt w a1 n l) (h2:IntsAt w a2 n l) (hc1:n<=c1) (hm1:c1<=9223372036854775807) :
  Calls Tryz.prog 36 #[.slice a1 n c1,.slice a2 n c2] w fun e w'=>e=.returned (.bool true)/\Ext w w':=by
 have H1:=Lh h1;have H2:=Lh h2;clear h1 h2
 go_enter Tryz.func36,Tryz.ntmps36
 go_wp2_with fail
 go_loopg [5] n (fun kk s5 wx=>∃ i:Nat,s5=.int .i64 (i:Int)/\i<=n/\n-i=kk/\Ext w wx)
 case atStart=>exact ⟨0,rfl,by omega,by omega,Ext.refl w⟩
 case round =>
  obtain ⟨i,rfl,hi1,hk,hE⟩:=hrel;have HE:=Lh hE
  by_cases hin:i=n
  ·have h2:¬ (i:Int)<(n:Int):=by omega
   clear hE
   go_wp2_with fail
   go_ret
   exact ⟨rfl,HE.out⟩
  ·have h2:(i:Int)<(n:Int):=by omega
   have h0:(0:Int)<=(i:Int):=by omega
   obtain ⟨b1,o1,rfl,hb1,hc1'⟩:=(H1.out.ext hE).at (by omega);obtain ⟨b2,o2,rfl,hb2,hc2'⟩:=(H2.out.ext hE).at (by omega);have e1:=hc1' i (by omega);have e2:=hc2' i (by omega);obtain ⟨x,hx⟩:∃ x,l.getD i 0=x:=⟨_,rfl⟩;rw [hx] at e1 e2;have HEd:=Lh (cdrew hE);clear hE hc1' hc2' hx
   go_wp2_with fail
   go_region
   go_wp2_with fail
   go_roundg (n-(i+1))
   case measure=>omega
   case rel=>exact ⟨i+1,by go_num,by omega,rfl,HEd.out⟩
def exG:List (List UInt8):=[[43,90,90,73],[43,73,90,90]]
theorem ex_sy:syF 3 exG [43,88,73,73]=(0,0):=by decide +kernel
theorem ex_syn:synL exG [88,73,73]=[1,0]:=by decide +kernel
theorem ex_de:deF 3 exG [1,0]=(0,0):=by decide +kernel
theorem ex_tx:43 :: txL (deP 3 exG [1,0]) 3=[43,88,73,73]:=by decide +kernel
theorem ex_strs (w:World):StrsAt (w.alloc (.cells #[.string ⟨#[43,90,90,73]⟩,.string ⟨#[43,73,90,90]⟩] 9)) (some ⟨w.heap.size,0,none⟩) 2 exG:=by
 have hr:=qW w (.cells #[.string ⟨#[43,90,90,73]⟩,.string ⟨#[43,73,90,90]⟩] 9);refine ⟨rfl,qO ⟨_,0,rfl,(gS.1 hr).1,fun t ht=>?_⟩⟩;rw [qD _ _ (0+t) _ _ (0,0) hr]
 have h:t=0\/t=1:=by omega
 rcases h with rfl | rfl<;>rfl
theorem ex_ints (w:World):IntsAt (w.alloc (.cells #[.int .i64 1,.int .i64 0] 3)) (some ⟨w.heap.size,0,none⟩) 2 [1,0]:=by
 have hr:=qW w (.cells #[.int .i64 1,.int .i64 0] 3);refine ⟨rfl,qO ⟨_,0,rfl,(gS.1 hr).1,fun t ht=>?_⟩⟩;rw [qD _ _ (0+t) _ _ (0,0) hr]
 have h:t=0\/t=1:=by omega
 rcases h with rfl | rfl<;>rfl
theorem codeBegun_any (w:World) (hL:LtL w):Calls Tryz.prog 11 #[] w fun e w'=>e=.returned (.bool true)/\Ext w w':=by
 obtain ⟨H,hH⟩:∃ H,w.heap.size=H:=⟨_,rfl⟩;obtain ⟨U,hU⟩:∃ U,w.alloc (.cells #[.string ⟨#[43,90,90,73]⟩,.string ⟨#[43,73,90,90]⟩] 9)=U:=⟨_,rfl⟩;obtain ⟨W0,hW0⟩:∃ W0,U.alloc (.cells #[.int .i64 3,.slice (some ⟨H,0,none⟩) 2 2] 24)=W0:=⟨_,rfl⟩
 have EU:Ext w U:=by rw [<-hU];exact ext_al _ _
 have E0:Ext U W0:=by rw [<-hW0];exact ext_al _ _
 have sU:U.heap.size=H+1:=by rw [<-hU,<-hH];simp
 have C0:CoB W0 (H+1) 3 (some ⟨H,0,none⟩) 2 2:=by rw [<-hW0,<-sU];exact CoB.new _ _ _ _ _
 have hS:StrsAt W0 (some ⟨H,0,none⟩) 2 exG:=by
  have:=(ex_strs w);rw [hU,hH] at this;exact this.ext E0
 have hT:∀ T ∈ exG,T.length<=9223372036854775807:=by decide
 have HSy:=Syndrome_any 3 exG [43,88,73,73] (some ⟨H,0,none⟩) 2 2 W0 hS hT (by decide) (by decide);rw [ex_sy,show ([43,88,73,73]:List UInt8).drop 1=[88,73,73] from rfl,ex_syn] at HSy;have HDe:=Lh (fun (a:Option Addr) (c:Nat) (wx:World) (hx:Ext W0 wx) (hI:IntsAt wx a 2 [1,0])=>Decode_any 3 exG [1,0] (some ⟨H,0,none⟩) 2 2 a 2 c wx (hS.ext hx) hT (by decide) hI (hL.ext ((EU.trans E0).trans hx)));rw [ex_de,show (3:Int).toNat=3 from rfl,ex_tx] at HDe;have HSy:=Lh HSy;have HE0:=Lh (EU.trans E0);have HC:=Lh C0;have HU:=Lh hU;have HW0:=Lh hW0;have HH:=Lh hH;have HsU:=Lh sU;have v0:=C0.x0;have v1:=C0.x1;clear hL hU hW0 EU E0 sU C0 hS hT hH
 go_enter Tryz.func11,Tryz.ntmps11
 go_upto_region 2 with fail
 rw [HU.out,HH.out,HW0.out]
 go_wp2_with fail
 refine HSy.out.mono ?_;rintro e w1 ⟨r,rfl,hx1,hgood,_⟩;obtain ⟨a,c',rfl,hc1,hc2,hI,_⟩:=hgood (by trivial);obtain ⟨W1,hW1⟩:∃ W1,w1.alloc (.cells #[.int .i64 0,.int .i64 0] 26)=W1:=⟨_,rfl⟩;obtain ⟨K,hK⟩:∃ K,w1.heap.size=K:=⟨_,rfl⟩
 have E1:Ext w1 W1:=by rw [<-hW1];exact ext_al _ _
 have F1:FtB W1 K 0 0:=⟨by rw [<-hW1,<-hK];exact qW _ _⟩;have hE1:Ext W0 W1:=hx1.trans E1;have HD1:=Lh (HDe.out a c' W1 hE1 (hI.ext E1));have HI1:=Lh (hI.ext E1);have HE1:=Lh hE1;have HF1:=Lh F1;have HW1:=Lh hW1;have HK:=Lh hK;have Hc:=Lh (jN hc1 hc2);have u0:=(HC.out.ext hE1).x0;have u1:=(HC.out.ext hE1).x1;clear hgood hI hx1 hW1 hK E1 F1 hE1 HDe HSy v0 v1 hc1 hc2
 go_upto_region 3 with fail
 rw [HW1.out,HK.out];clear HW1 HK
 go_wp2_with fail
 refine HD1.out.mono ?_;rintro e w2 ⟨rfl,hx2⟩;obtain ⟨W2,hW2⟩:∃ W2,w2.alloc (.cells #[.int .i64 0,.int .i64 0] 26)=W2:=⟨_,rfl⟩;obtain ⟨K2,hK2⟩:∃ K,w2.heap.size=K:=⟨_,rfl⟩
 have E2:Ext W1 W2:=by rw [<-hW2];exact hx2.trans (ext_al _ _)
 have F2:FtB W2 K2 0 0:=⟨by rw [<-hW2,<-hK2];exact qW _ _⟩;have HW2:=Lh hW2;have HK2:=Lh hK2;have HE2:=Lh E2;have m0:=(HF1.out.ext E2).x0;have m1:=F2.x0;have hI3:=ex_ints W2;have E3:Ext W2 (W2.alloc (.cells #[.int .i64 1,.int .i64 0] 3)):=ext_al _ _;have HSm:=Lh (sameInts_any [1,0] a 2 c' (some ⟨W2.heap.size,0,none⟩) 2 _ (HI1.out.ext (E2.trans E3)) hI3 Hc.out.1 Hc.out.2);have HE3:=Lh (HE0.out.trans (HE1.out.trans (E2.trans E3)));clear hx2 hW2 hK2 E2 F2 E3 hI3 u0 u1 HD1;simp only [if_true]
 go_upto_region 4 with fail
 rw [HW2.out,HK2.out];clear HW2 HK2
 go_wp2_with fail
 refine HSm.out.mono ?_;rintro e w4 ⟨rfl,hx4⟩;have HE4:=Lh (HE3.out.trans hx4);clear hx4 HSm m0 m1
 go_wp2_with fail
 go_ret
 exact ⟨rfl,HE4.out⟩
theorem cc_snd {N:Int} {gens:List (List UInt8)} {d1:Int} (h:ccF N gens=(0,d1)):d1=0:=by
 unfold ccF at h
 split at h
 ·exact absurd (congrArg Prod.fst h) (by simp)
 split at h
 ·exact absurd (congrArg Prod.fst h) (by simp)
 split at h
 ·exact absurd (congrArg Prod.fst h) (by simp)
 split at h
 ·exact absurd (congrArg Prod.fst h) (by simp)
 split at h
 ·exact absurd (congrArg Prod.fst h) (by simp)
 exact (congrArg Prod.snd h).symm
end Go.Proofs.YtjfomkoedgipjaaGreatDoor
