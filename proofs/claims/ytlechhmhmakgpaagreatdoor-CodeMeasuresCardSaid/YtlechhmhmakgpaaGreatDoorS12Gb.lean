/-
  The program: slices.Repeat of one gate; a row of gates. The reference reads a line loosely: what it holds meanwhile. The reference reads a line loosely. The reader: a circuit, read. Operations turned round in place. Lists and operations whose memory is their own: no two of them lie in one block. Copies of lists and operations, in memory of their own: as the reference makes them, and as the program does. slices.Reverse of operations. A circuit that has a fault is not answered; what the deferred closure makes of a reader that gave up.
-/
import Derived.Defers
import Derived.Recover
import Derived.Test.YtlechhmhmakgpaaGreatDoorS11Lf
namespace Go.Proofs.YtlechhmhmakgpaaGreatDoor
set_option maxRecDepth 100000
set_option maxHeartbeats 4000000
open Go.RowKit
def RepAt (U:World) (b:Nat) (n:Nat) (v:Value):Prop:=b<U.heap.size/\∀ t,t<n->U.cell? ⟨b,t,none⟩=some v
theorem RepAt.ext {U U':World} {b n:Nat} {v:Value} (h:RepAt U b n v) (k:Ext U U'):RepAt U' b n v:=⟨Nat.lt_of_lt_of_le h.1 k.size,fun t ht=>(k.cell (p:=⟨b,t,none⟩) h.1).trans (h.2 t ht)⟩
theorem RepAt.kb {lo:Nat} {U U':World} {b n:Nat} {v:Value} (h:RepAt U b n v) (k:Kb lo U U') (hl:lo<=b):RepAt U' b n v:=⟨Nat.lt_of_lt_of_le h.1 k.1,fun t ht=>(k.cell hl h.1).trans (h.2 t ht)⟩
theorem RepAt.only {U U':World} {b n H:Nat} {v:Value} (h:RepAt U b n v) (hO:Only H U U') (hb:b≠H):RepAt U' b n v:=⟨by rw [hO.size];exact h.1,fun t ht=>(World.cell?_of_block (a:=⟨b,t,none⟩) (hO.block b hb)).trans (h.2 t ht)⟩
def itG (A:QP->QP):Nat->QP->QP
 | 0,p=>p
 | n+1,p=>itG A n (A p)
theorem itG_snoc (A:QP->QP):∀ n p,itG A (n+1) p=A (itG A n p)
 | 0,_=>rfl
 | n+1,p=>itG_snoc A n (A p)
theorem itG_ok {A:QP->QP} (h:∀ p:QP,p.ok->(A p).ok):∀ n (p:QP),p.ok->(itG A n p).ok
 | 0,_,hp=>hp
 | n+1,p,hp=>itG_ok h n (A p) (h p hp)
theorem row1_any (A:QP->QP) (hA:∀ p:QP,p.ok->(A p).ok) (n:Nat) (hn:n<=100) (v:Value) (g b c lo:Nat) (hlb:lo<=b) (hlg:lo<=g) (U:World) (hv:GateV lo U v A) (hR:RepAt U b n v) (hg:U.cell? ⟨g,0,none⟩=some (.slice (some ⟨b,0,none⟩) n c)) (lg:g<U.heap.size) (p:QP) (hp:p.ok) (w:World) (hw:Kb lo U w) :
  Calls Tryz.prog 147 #[pvQ p,.pointer (some ⟨g,0,none⟩)] w fun e w'=>e=.returned (pvQ (itG A n p))/\Ext w w':=by
 obtain ⟨F,caps,rfl,hEnt,hC⟩:=hv;have hT:=TwB.new w p;obtain ⟨H,hH⟩:∃ H,w.heap.size=H:=⟨_,rfl⟩;obtain ⟨W0,hW0⟩:∃ W0,(w.alloc (.cells #[.int .u16 (p.x:Int),.int .u16 (p.z:Int),.bool p.m] 103)).alloc (.cells #[.int .u16 0,.int .u16 0,.bool false] 103)=W0:=⟨_,rfl⟩;simp only [hW0,hH] at hT;have c0:=((hw.ext hT.e).cell hlg lg (o:=0)).trans hg;have HT:=Lh hT;have HW0:=Lh hW0;have HH:=Lh hH;have HR:=Lh (hR.kb (hw.ext hT.e) hlb);have HC:=Lh hC;have Hn:=Lh hn;have HA:=Lh hA;have Hp:=Lh hp;have Hwu:=Lh hw;have Hbl:=Lh (show b≠H by have:=hR.1;have:=hw.1;omega);clear hT hW0 hH hg lg hR hC hw hn hA hp hlb hlg;unfold pvQ
 go_enter Tryz.func147,Tryz.ntmps147
 go_upto_region 1 with fail
 rw [HW0.out,HH.out]
 go_wp2_with fail
 go_loopg [8] n (fun kk s8 wr=>∃ i:Nat,s8=.int .i64 (i:Int)/\i<=n/\n-i=kk/\TwB w wr H (itG A i p) ⟨0,0,false⟩/\RepAt wr b n (.func (.func F) #[] caps))
 case atStart=>exact ⟨0,rfl,Nat.zero_le _,rfl,HT.out,HR.out⟩
 case round =>
  obtain ⟨i,rfl,hi,hkk,hT,hR⟩:=hrel;have Hkk:=Lh hkk;have HT:=Lh hT;have HR:=Lh hR
  by_cases hin:i=n
  ·have p1:¬ (i:Int)<(n:Int):=by omega
   rw [hin] at HT;have k0:=HT.out.a.x0;have k1:=HT.out.a.x1;have k2:=HT.out.a.x2;have r0:=HT.out.b.x0;have r1:=HT.out.b.x1;have r2:=HT.out.b.x2;have g0:=HT.out.b.f 0;have g1:=HT.out.b.f 1;have g2:=HT.out.b.f 2;obtain ⟨P,hP⟩:∃ P,itG A n p=P:=⟨_,rfl⟩;rw [hP] at k0 k1 k2;have HP:=Lh hP;clear hkk hT hR hi hin hP hEnt
   go_wp2_with fail
   exact bodyPost_ret (v:=.agg #[.int .u16 (P.x:Int),.int .u16 (P.z:Int),.bool P.m]) (by simp [results,Tryz.results147,go_sem,r0,r1,r2]) rfl ⟨by rw [HP.out],HT.out.end _ _ _⟩
  have hlt:i<n:=by omega
  have p1:(i:Int)<(n:Int):=by omega
  have p0:(0:Int)<=(i:Int):=by omega
  have wi:IntKind.i64.wrap ((i:Int)+1)=((i+1:Nat):Int):=by rw [IntKind.wrap_i64];have:=Hn.out;omega
  have e1:=hR.2 i hlt;have k0:=hT.a.x0;have k1:=hT.a.x1;have k2:=hT.a.x2;have HCc:=Lh (HC.out (itG A i p) wr (itG_ok HA.out i p Hp.out) (Hwu.out.ext hT.e));rw [<-itG_snoc A i p] at HCc;unfold pvQ at HCc;obtain ⟨P,hP⟩:∃ P,itG A i p=P:=⟨_,rfl⟩;obtain ⟨Q,hQ⟩:∃ Q,itG A (i+1) p=Q:=⟨_,rfl⟩;rw [hP] at k0 k1 k2;rw [hP,hQ] at HCc;have HQ:=Lh hQ;have Hlt:=Lh hlt;clear hkk hT hR hi hin hP hQ hlt
  go_wp2_with fail
  refine HCc.out.mono ?_;rintro e w3 ⟨rfl,x3⟩;have HT3:=Lh (HT.out.ext x3);have HR3:=Lh (HR.out.ext x3);have f0:=HT3.out.a.f 0;have f1:=HT3.out.a.f 1;have f2:=HT3.out.a.f 2;have j0:=HT3.out.a.x0;have j1:=HT3.out.a.x1;have j2:=HT3.out.a.x2;clear x3 k0 k1 k2 e1
  go_upto_region 5 with fail
  have HT4:=Lh (HT3.out.pt Q);have HR4:=Lh (HR3.out.only ((((Only.refl H w3).setCell 0 (.int .u16 (Q.x:Int))).setCell 1 (.int .u16 (Q.z:Int))).setCell 2 (.bool Q.m)) Hbl.out);obtain ⟨W4,hW4⟩:∃ V,((w3.setCell ⟨H,0,none⟩ (.int .u16 (Q.x:Int))).setCell ⟨H,1,none⟩ (.int .u16 (Q.z:Int))).setCell ⟨H,2,none⟩ (.bool Q.m)=V:=⟨_,rfl⟩;rw [hW4] at HT4 HR4 ⊢;clear f0 f1 f2 j0 j1 j2 hW4
  go_wp2_with fail
  go_roundg (n-(i+1))
  case measure=>have:=Hkk.out;have:=Hlt.out;omega
  case rel=>exact ⟨i+1,rfl,Hlt.out,rfl,by rw [HQ.out];exact HT4.out,HR4.out⟩
theorem row_gate {A:QP->QP} (hA:∀ p:QP,p.ok->(A p).ok) {n:Nat} (hn:n<=100) {v:Value} {g b c lo:Nat} (hlb:lo<=b) (hlg:lo<=g) {U:World} (hv:GateV lo U v A) (hR:RepAt U b n v) (hg:U.cell? ⟨g,0,none⟩=some (.slice (some ⟨b,0,none⟩) n c)) (lg:g<U.heap.size):GateV lo U (.func (.func 147) #[] #[.pointer (some ⟨g,0,none⟩)]) (itG A n) :=
 ⟨_,_,rfl,enters_of Tryz.func147 (by kernel_rfl) rfl,fun p wx hp hx=>row1_any A hA n hn v g b c lo hlb hlg U hv hR hg lg p hp wx hx⟩
theorem row_any (A:QP->QP) (hA:∀ p:QP,p.ok->(A p).ok) (n:Nat) (hn:n<=100) (v:Value) (b c lo:Nat) (hlb:lo<=b) (w:World) (hlw:lo<=w.heap.size) (hv:GateV lo w v A) (hR:RepAt w b n v) :
  Calls Tryz.prog 101 #[.slice (some ⟨b,0,none⟩) n c] w fun e w'=>GaR lo (itG A n) w e w':=by
 have hn:=row_gate hA hn hlb hlw (hv.ext (ext_al w (.cells #[.slice (some ⟨b,0,none⟩) n c] 150))) (hR.ext (ext_al w _)) (g:=w.heap.size) (c:=c) (by rw [cell_of_row _ _ 0 _ _ (0,0) (heap_alloc_new w _)];rfl) (by simp);have Hn:=Lh hn;clear hn hv hR hA hlb hlw
 go_enter Tryz.func101,Tryz.ntmps101
 go_wp2_with fail
 go_ret
 exact ⟨_,rfl,ext_al _ _,Hn.out⟩
theorem rep_of_row {w:World} {g n:Nat} {l:List Value} {v:Value} {t:TypeId} (h:w.heap[g]?=some (.cells l.toArray t (0,0))) (hl:l=List.replicate n v):RepAt w g n v:=by
 refine ⟨(gS.1 h).1,fun k hk=>?_⟩;rw [cell_of_row w g k _ _ (0,0) h];subst hl
 simp [hk]
def RpR (n:Nat) (v:Value) (w:World) (e:Ending) (w':World):Prop:=∃ g,e=.returned (.slice (some ⟨g,0,none⟩) n n)/\Ext w w'/\RepAt w' g n v/\w.heap.size<=g
theorem g_info:(Tryz.prog.info? 107).map (fun i=>(i.zero,i.size,i.bytes))=some (some .nilFunc,1,8):=by kernel_rfl
theorem g_size:(Tryz.prog.info? 107).map (·.size)=some 1:=by kernel_rfl
theorem madeG (n:Nat):madeCells #[Value.nilFunc] n=(List.replicate n Value.nilFunc).toArray:=by
 apply Array.toList_inj.1
 rw [toList_madeCells_one]
theorem run_makeG (n:Nat) (hn:n<=100) (w:World):(Instr.makeSlice 150 (.int .i64 (n:Int)) (.int .i64 (n:Int))).run Tryz.prog w=.ok (.slice (some ⟨w.heap.size,0,none⟩) n n) (w.alloc (.cells (List.replicate n Value.nilFunc).toArray 107)):=by
 obtain ⟨i0,hi,hz0,hz1,hz2⟩:=info_parts g_info;have:=run_makeSlice (P:=Tryz.prog) w 150 107 i0 .nilFunc Tryz.underlying150 hi hz0 .i64 .i64 n n (by omega) (by omega) (by rw [hz1,Int.toNat_natCast];omega) (by rw [hz2];omega) (by omega);rw [this,hz1,<-madeG,Int.toNat_natCast,Nat.mul_one]
 rfl
theorem stepC_copy_run {ops:Array Oper} {o:Oper} {a:Act} {K:Act->World->Prop} {Q:Exit->Act->World->Prop} {E:Prop} {w w':World} (hgd:o.guard=none) (s x:Operand)
  (ho:o.op=.call { callee:=.builtin .copy,args:=#[s,x],argTypes:=#[150,150] }) (ht:o.type=3) (v1 v2 r:Value) (hs:a.eval s=v1) (hx:a.eval x=v2)
  (hap:(Builtin.copy_ #[150,150] 3 #[v1,v2]).run Tryz.prog w=.ok r w') (h:K (a.put o.dst r) w') :
  if Region.wanted o (yielded ops a.tmps)=true then Oper.wp Tryz.prog o a w K Q else E:=by
 have hw:Region.wanted o (yielded ops a.tmps)=true:=by simp [Region.wanted,hgd]
 rw [if_pos hw];unfold Oper.wp execOp;simp only [ho,ht,resolve,invoke,builtin,Sem.run_bind,Sem.run_pure,Result.andThen_ok,List.map_toArray,List.map_cons,List.map_nil,hs,hx,hap];exact h
def fillR (v:Value) (n i:Nat):List Value:=List.replicate i v++List.replicate (n-i) Value.nilFunc
theorem fill_splice (v:Value) {n i k:Nat} (h:i+k<=n):splice (fillR v n i) i (List.replicate k v)=fillR v n (i+k):=by
 unfold splice fillR;rw [List.take_append_of_le_length (by simp),List.take_of_length_le (by simp),List.length_replicate,List.drop_append,List.drop_of_length_le (by simp),List.length_replicate,List.drop_replicate,List.nil_append,<-List.append_assoc,List.replicate_append_replicate]
 congr 2
 omega
theorem fill_at (v:Value) {n i j:Nat} (hj:j<i):(fillR v n i)[j]?=some v:=by
 unfold fillR;rw [List.getElem?_append_left (by simpa using hj)]
 simp [hj]
theorem fill_len (v:Value) {n i:Nat} (h:i<=n):(fillR v n i).length=n:=by
 unfold fillR
 simp
 omega
theorem repeatG_any (n:Nat) (h1:1<=n) (hn:n<=100) (b:Nat) (F:FuncId) (caps:Array Value) (w:World) (hR:RepAt w b 1 (.func (.func F) #[] caps)) :
  Calls Tryz.prog 102 #[.slice (some ⟨b,0,none⟩) 1 1,.int .i64 (n:Int)] w fun e w'=>RpR n (.func (.func F) #[] caps) w e w':=by
 have hM:=fun wx=>Tryz.bits_Mul 1 n (by decide) (by omega) wx
 rw [Nat.one_mul,Nat.div_eq_of_lt (by omega),Nat.mod_eq_of_lt (by omega)] at hM;have HM:=Lh hM;have hMk:=run_makeG n hn w;obtain ⟨v,hv⟩:∃ v,Value.func (.func F) #[] caps=v:=⟨_,rfl⟩
 have hone:v.oneCell'=true:=by rw [<-hv];rfl
 rw [hv] at hR ⊢
 have wn1:IntKind.u64.wrap (n:Int)=(n:Int):=by simp [IntKind.wrap,IntKind.bits,IntKind.signed];omega
 have wn2:IntKind.i64.wrap (n:Int)=(n:Int):=by rw [IntKind.wrap_i64];omega
 have t1:¬ (n:Int)<0:=by omega
 have t2:¬ (9223372036854775807:Int)<(n:Int):=by omega
 have q0:(0:Int)<=(n:Int):=by omega
 obtain ⟨G,hG⟩:∃ G,w.heap.size=G:=⟨_,rfl⟩;obtain ⟨W1,hW1⟩:∃ W,w.alloc (.cells (List.replicate n Value.nilFunc).toArray 107)=W:=⟨_,rfl⟩
 have E1:Ext w W1:=by rw [<-hW1];exact ext_al _ _
 have hr1:W1.heap[G]?=some (.cells (fillR v n 0).toArray 107 (0,0)):=by rw [<-hW1,<-hG];exact heap_alloc_new w _
 rw [hG,hW1] at hMk;have HMk:=Lh hMk;have HR:=Lh (hR.ext E1);have HE1:=Lh E1;have Hr1:=Lh hr1;have Hn:=Lh (And.intro h1 hn);have HG:=Lh hG;have Hone:=Lh hone;clear hR hM hMk hv hone hG hW1 E1 hr1 hn h1
 go_enter Tryz.func102,Tryz.ntmps102
 go_wp2_with fail
 refine (HM.out _).mono ?_;rintro e w1 ⟨rfl,hw1⟩;obtain rfl:=hw1.symm
 go_upto_region 7 with fail
 rw [HMk.out];simp only [Result.andThen];rw [Oper.upon_value]
 go_upto_region 7 with fail
 go_wp2_with fail
 have hrun:=run_copy_row (P:=Tryz.prog) W1 150 150 3 107 G 0 n n ⟨b,0,none⟩ 1 1 (fillR v n 0).toArray 107 [v] Tryz.underlying150 g_size Hr1.out (by show 1=min 1 n;have:=Hn.out;omega) (fun j u hj=>by
  match j,hj with
  | 0,hj=>exact (show some v=some u from hj) ▸ HR.out.2 0 (by decide)
  | k+1,hj=>simp at hj) (by rw [List.size_toArray,fill_len _ (Nat.zero_le _)];have:=Hn.out;simp;omega) (by simpa using Hone.out)
 rw [hrun];clear hrun;simp only [Result.andThen];rw [Oper.upon_value];obtain ⟨W2,hW2⟩:∃ V,W1.setRow G ((fillR v n 0).toArray.toList.take 0++[v]++(fillR v n 0).toArray.toList.drop (0 + [v].length)).toArray=V:=⟨_,rfl⟩
 have hb2:Ext w W2:=by rw [<-hW2];exact below_setRow HE1.out (by rw [HG.out];exact Nat.le_refl _) _
 have hr2:W2.heap[G]?=some (.cells (fillR v n 1).toArray 107 (0,0)):=by
  have h:=setRow_heap W1 G _ ((fillR v n 0).toArray.toList.take 0++[v]++(fillR v n 0).toArray.toList.drop (0 + [v].length)).toArray 107 _ Hr1.out;rw [hW2] at h;rw [h,<-fill_splice v (n:=n) (i:=0) (k:=1) (by have:=Hn.out;omega)]
  rfl
 rw [hW2];clear hW2;have Hr2:=Lh hr2;have Hb2:=Lh hb2;clear hr2 hb2
 go_wp2_with fail
 go_loopg [8] (n-1) (fun kk s8 wx=>∃ i:Nat,s8=.int .i64 (i:Int)/\1<=i/\i<=n/\n-1-(i-1)=kk/\Ext w wx/\wx.heap[G]?=some (.cells (fillR v n i).toArray 107 (0,0)))
 case atStart=>exact ⟨1,rfl,Nat.le_refl _,Hn.out.1,rfl,Hb2.out,Hr2.out⟩
 case round =>
  obtain ⟨i,rfl,hi1,hi,hkk,hE,hr⟩:=hrel;have Hkk:=Lh hkk;have HE:=Lh hE;have Hr:=Lh hr
  by_cases hin:i=n
  ·have p1:¬ (i:Int)<(n:Int):=by omega
   have hrep:=rep_of_row (n:=n) hr (v:=v) (by rw [hin];unfold fillR;simp);have Hrep:=Lh hrep;clear hkk hE hr hi hi1 hin hrep
   go_wp2_with fail
   go_ret
   exact ⟨G,rfl,HE.out,Hrep.out,by rw [HG.out];exact Nat.le_refl _⟩
  have hlt:i<n:=by omega
  have p1:(i:Int)<(n:Int):=by omega
  have Hlt:=Lh (And.intro hi1 hlt);clear hkk hE hr hi hi1 hin hlt;obtain ⟨k,hk⟩:∃ k,min i (n-i)=k:=⟨_,rfl⟩
  have hk1:1<=k/\i+k<=n/\k<=i:=by have:=Hlt.out;omega
  have wk:IntKind.i64.wrap ((i:Int)+(k:Int))=((i+k:Nat):Int):=by rw [IntKind.wrap_i64];have:=Hn.out;omega
  have i0:(0:Int)<=(i:Int):=by omega
  have i1:(i:Int)<=(n:Int):=by have:=Hlt.out;omega
  have i2:i<=n:=by have:=Hlt.out;omega
  have i3:¬ n=i:=by have:=Hlt.out;omega
  have i4:¬ n-i=0:=by have:=Hlt.out;omega
  have Hk:=Lh hk;have Hk1:=Lh hk1;obtain ⟨C,hC⟩:∃ C,List.replicate k v=C:=⟨_,rfl⟩;have HC:=Lh hC
  have hCl:C.length=k:=by rw [<-hC];simp
  have Hone':=Lh (show ∀ u ∈ C,u.oneCell'=true by rw [<-hC];intro u hu;rw [(List.mem_replicate.1 hu).2];exact Hone.out);have Hfs:=Lh (show splice (fillR v n i) i C=fillR v n (i+k) by rw [<-hC];exact fill_splice v hk1.2.1);have HCl:=Lh hCl;obtain ⟨R,hR0⟩:∃ R,fillR v n i=R:=⟨_,rfl⟩;have HRl:=Lh (show R.length=n by rw [<-hR0];exact fill_len v i2);have HRa:=Lh (fun (j:Nat) (hj:j<i)=>(show R[j]?=some v by rw [<-hR0];exact fill_at v hj));rw [hR0] at Hr Hfs
  have hrun:=run_copy_row (P:=Tryz.prog) wr.drew 150 150 3 107 G i (n-i) (n-i) ⟨G,0,none⟩ i n R.toArray 107 C Tryz.underlying150 g_size Hr.out (by rw [HCl.out];exact Hk.out.symm) (fun j u hj=>by
   have hjk:j<C.length:=(List.getElem?_eq_some_iff.1 hj).1
   have hu:v=u:=by
    rw [<-HC.out,List.getElem?_replicate] at hj
    split at hj
    ·exact Option.some.inj hj
    ·cases hj
   have hadd:(⟨G,0,none⟩:Addr).add j=⟨G,0+j,none⟩:=by unfold Addr.add;split<;>simp_all
   have hrr:wr.drew.heap[G]?=some (.cells R.toArray 107 (0,0)):=Hr.out
   rw [hadd,cell_of_row _ G (0+j) _ _ (0,0) hrr,Nat.zero_add,List.getElem?_toArray,HRa.out j (by have:=Hk1.out;have:=HCl.out;omega),hu]) (by rw [List.size_toArray,HCl.out,HRl.out];exact Hk1.out.2.1) Hone'.out
  rw [HCl.out] at hrun;obtain ⟨W4,hW4⟩:∃ V,wr.drew.setRow G (R.toArray.toList.take i++C++R.toArray.toList.drop (i+k)).toArray=V:=⟨_,rfl⟩
  have hr4:W4.heap[G]?=some (.cells (fillR v n (i+k)).toArray 107 (0,0)):=by
   have hrr:wr.drew.heap[G]?=some (.cells R.toArray 107 (0,0)):=Hr.out;have h:=setRow_heap wr.drew G _ (R.toArray.toList.take i++C++R.toArray.toList.drop (i+k)).toArray 107 _ hrr;rw [hW4] at h;rw [h,<-Hfs.out];unfold splice;rw [HCl.out,List.append_assoc]
  have hb4:Ext w W4:=by rw [<-hW4];exact below_setRow (Below.drew HE.out) (by rw [HG.out];exact Nat.le_refl _) _
  rw [hW4] at hrun;have Hrun:=Lh hrun;have Hr4:=Lh hr4;have Hb4:=Lh hb4;clear hk hk1 hC hCl hR0 hrun hW4 hr4 hb4
  go_upto_region 9 with fail
  refine wp_region_K 9 (fun _=>True) (by kernel_rfl) ?_
  show anyK _ _ _ _ _ _ 10 #[false,false,false,false,false,false,false,false,false,false] _ _
  refine kT 0 10 (v:=?_) rfl (Or.inl ⟨by rfl,?_⟩) trivial ?_;rotate_left 1
  ·intro w hSw
   go_simp
   try with_reducible rfl
  show anyK _ _ _ _ _ _ _ _ (Act.put _ (some 38) _) _
  simp only [Act.put,sx0,sx1,sx2];refine kT 1 10 (v:=?_) rfl (Or.inl ⟨by rfl,?_⟩) trivial ?_;rotate_left 1
  ·intro w hSw
   go_simp
   try with_reducible rfl
  show anyK _ _ _ _ _ _ _ _ (Act.put _ (some 39) _) _
  simp only [Act.put,sx0,sx1,sx2];refine kT 2 10 (v:=?_) rfl (Or.inl ⟨by rfl,?_⟩) trivial ?_;rotate_left 1
  ·intro w hSw
   go_simp
   try with_reducible rfl
  show anyK _ _ _ _ _ _ _ _ (Act.put _ (some 40) _) _
  simp only [Act.put,sx0,sx1,sx2];refine kT 3 10 (v:=?_) rfl (Or.inl ⟨by rfl,?_⟩) trivial ?_;rotate_left 1
  ·intro w hSw
   go_simp
   try with_reducible rfl
  show anyK _ _ _ _ _ _ _ _ (Act.put _ (some 41) _) _
  simp only [Act.put,sx0,sx1,sx2];refine kT 4 10 (v:=?_) rfl (Or.inl ⟨by rfl,?_⟩) trivial ?_;rotate_left 1
  ·intro w hSw
   go_simp
   try with_reducible rfl
  show anyK _ _ _ _ _ _ _ _ (Act.put _ (some 42) _) _
  simp only [Act.put,sx0,sx1,sx2];refine kT 5 10 (v:=?_) rfl (Or.inl ⟨by rfl,?_⟩) trivial ?_;rotate_left 1
  ·intro w hSw
   go_simp
   try with_reducible rfl
  show anyK _ _ _ _ _ _ _ _ (Act.put _ (some 43) _) _
  simp only [Act.put,sx0,sx1,sx2];refine kT 6 10 (v:=?_) rfl (Or.inl ⟨by rfl,?_⟩) trivial ?_;rotate_left 1
  ·intro w hSw
   go_simp
   try with_reducible rfl
  show anyK _ _ _ _ _ _ _ _ (Act.put _ (some 44) _) _
  simp only [Act.put,sx0,sx1,sx2];refine anyK_one (i:=7) (by kernel_rfl) rfl (fun Kk hKk=>?_);refine stepC_copy_run rfl _ _ rfl rfl _ _ _ rfl rfl Hrun.out ?_;refine hKk.out _ _ (fun _=>trivial) ?_;clear hKk Kk
  show anyK _ _ _ _ _ _ _ _ (Act.put _ (some 45) _) _
  simp only [Act.put,goInt,sx0,sx1,sx2];refine kT 8 10 (v:=?_) rfl (Or.inl ⟨by rfl,?_⟩) trivial ?_;rotate_left 1
  ·intro w hSw
   go_simp
   try with_reducible rfl
  show anyK _ _ _ _ _ _ _ _ (Act.put _ (some 46) _) _
  simp only [Act.put,sx0,sx1,sx2];refine anyK_one (i:=9) (by kernel_rfl) rfl (fun Kk hKk=>?_)
  go_wp2_with fail
  refine hKk.out _ _ (fun h=>Bool.noConfusion (show true=false from h)) ?_;clear hKk Kk;simp only [sx0,sx1,sx2];refine anyK_done (by kernel_rfl) ?_ _
  go_wp2_with fail
  go_roundg (n-1-(i+k-1))
  case measure=>have:=Hkk.out;have:=Hlt.out;have:=Hk1.out;omega
  case rel=>exact ⟨i+k,rfl,by have:=Hk1.out;omega,Hk1.out.2.1,rfl,Hb4.out,Hr4.out⟩
theorem own_keep2 {w w':World} {base:Nat} {e:TypeId} {size:Nat} {v:Value} {n:Nat} {xs:List Value} (h:w.ownsRow base e size v n xs) (hk:∀ g,v.ownBlock=some g->w'.heap[g]?=w.heap[g]?):w'.ownsRow base e size v n xs:=by
 refine ⟨h.1,?_⟩
 rcases h.2 with h | ⟨g,cap,cur,hv,hb,hg,rest⟩
 ·exact Or.inl h
 ·exact Or.inr ⟨g,cap,cur,hv,hb,(hk g (by rw [hv];rfl)).trans hg,rest⟩
theorem stepK_storeI {ops:Array Oper} {o:Oper} {a:Act} {K:Act->World->Prop} {Q:Exit->Act->World->Prop} {E:Prop} {w:World} (hgd:o.guard=none) (hd:o.dst=none) (p x:Operand)
  (ho:o.op=.store 25 p x) (b off:Nat) (a':Option Addr) (n' c':Nat) (u:Value) (hp:a.eval p=.pointer (some ⟨b,off,none⟩)) (hx:a.eval x=.slice a' n' c')
  (hcell:w.cell? ⟨b,off,none⟩=some u) (hfz:w.frozen? ⟨b,off,none⟩=false) (h:K a (w.setCell ⟨b,off,none⟩ (.slice a' n' c'))) :
  if Region.wanted o (yielded ops a.tmps)=true then Oper.wp Tryz.prog o a w K Q else E:=by
 have hw:Region.wanted o (yielded ops a.tmps)=true:=by simp [Region.wanted,hgd]
 rw [if_pos hw];obtain ⟨od,oo,ot,opp,oa,og⟩:=o;simp only at ho hd;subst ho hd;have HH:=Lh h;clear h;unfold Oper.wp execOp;simp only [hp,hx]
 go_simp
 exact HH.out
theorem CiB.set0 {W:World} {g:Nat} {qb bi:Int} {ao:Option Addr} {n cp:Nat} (h:CiB W g qb bi ao n cp) (v:Int):CiB (W.setCell ⟨g,0,none⟩ (.int .i64 v)) g v bi ao n cp:=⟨row_put h.row rfl⟩
theorem CiB.set1 {W:World} {g:Nat} {qb bi:Int} {ao:Option Addr} {n cp:Nat} (h:CiB W g qb bi ao n cp) (v:Int):CiB (W.setCell ⟨g,1,none⟩ (.int .i64 v)) g qb v ao n cp:=⟨row_put h.row rfl⟩
def set6 (cs:Array Value) (p:Nat) (f:Nat->Value):Array Value :=
 (((((cs.setIfInBounds p (f 0)).setIfInBounds (p+1) (f 1)).setIfInBounds (p+2) (f 2)).setIfInBounds (p+3) (f 3)).setIfInBounds (p+4) (f 4)).setIfInBounds (p+5) (f 5)
theorem set6_size (cs:Array Value) (p:Nat) (f:Nat->Value):(set6 cs p f).size=cs.size:=by simp [set6]
theorem set6_in (cs:Array Value) (p:Nat) (f:Nat->Value) (k:Nat) (hk:k<6) (hp:p+6<=cs.size):(set6 cs p f)[p+k]?=some (f k):=by
 have:k=0\/k=1\/k=2\/k=3\/k=4\/k=5:=by omega
 unfold set6
 rcases this with rfl | rfl | rfl | rfl | rfl | rfl
 all_goals
  simp only [Array.getElem?_setIfInBounds,Array.size_setIfInBounds]
  repeat (first | rw [if_neg (by omega)] | rw [if_pos (by omega)] | rw [if_pos trivial])
theorem set6_out (cs:Array Value) (p:Nat) (f:Nat->Value) (q:Nat) (hq:q<p\/p+6<=q):(set6 cs p f)[q]?=cs[q]?:=by
 unfold set6;simp only [Array.getElem?_setIfInBounds]
 repeat rw [if_neg (by omega)]
def half (ops:List Gop) (i:Nat):List Gop:=ops.reverse.take i++((ops.drop i).take (ops.length-2*i)++ops.reverse.drop (ops.length-i))
theorem half_len {ops:List Gop} {i:Nat} (h:2*i<=ops.length):(half ops i).length=ops.length:=by
 unfold half;simp only [List.length_append,List.length_take,List.length_drop,List.length_reverse];omega
theorem half_get {ops:List Gop} {i t:Nat} (h:2*i<=ops.length) (ht:t<ops.length):(half ops i)[t]?=if t<i\/ops.length-i<=t then ops[ops.length-1-t]? else ops[t]?:=by
 unfold half
 by_cases h1:t<i
 ·rw [if_pos (Or.inl h1),List.getElem?_append_left (by rw [List.length_take,List.length_reverse];omega),List.getElem?_take,if_pos h1,List.getElem?_reverse (by omega)]
 ·rw [List.getElem?_append_right (by rw [List.length_take,List.length_reverse];omega)]
  have e1:(ops.reverse.take i).length=i:=by rw [List.length_take,List.length_reverse];omega
  rw [e1]
  by_cases h2:ops.length-i<=t
  ·rw [if_pos (Or.inr h2),List.getElem?_append_right (by simp only [List.length_take,List.length_drop];omega)]
   have e2:((ops.drop i).take (ops.length-2*i)).length=ops.length-2*i:=by simp only [List.length_take,List.length_drop];omega
   rw [e2,List.getElem?_drop,show ops.length-i+(t-i-(ops.length-2*i))=t by omega,List.getElem?_reverse (by omega)]
  ·rw [if_neg (by omega),List.getElem?_append_left (by simp only [List.length_take,List.length_drop];omega),List.getElem?_take,if_pos (by omega),List.getElem?_drop,show i+(t-i)=t by omega]
theorem half_done {ops:List Gop} {i:Nat} (h:2*i<=ops.length) (h2:ops.length<=2*i+1):half ops i=ops.reverse:=by
 apply List.ext_getElem?
 intro t
 by_cases ht:t<ops.length
 ·rw [half_get h ht,List.getElem?_reverse ht]
  split
  ·rfl
  ·congr 1;omega
 ·rw [List.getElem?_eq_none (by rw [half_len h];omega),List.getElem?_eq_none (by rw [List.length_reverse];omega)]
theorem half_zero (ops:List Gop):half ops 0=ops:=by
 unfold half
 simp
def Iow (w:World) (base:Nat) (a:Option Addr) (n c:Nat) (l:List Int):Prop:=w.ownsRow base 3 1 (.slice a n c) n (iC l)
section
variable {w w':World} {base base':Nat} {a:Option Addr} {n c:Nat} {l:List Int}
theorem Iow.keep (h:Iow w base a n c l) (hk:∀ (b:Nat) (cur:Array Value) (fr:Nat × Nat),w.heap[b]?=some (.cells cur 3 fr)->w'.heap[b]?=w.heap[b]?):Iow w' base a n c l:=own_keep h fun g cur _ hg=>hk g cur (0,0) hg
theorem Iow.ext (h:Iow w base a n c l) (k:Ext w w'):Iow w' base a n c l:=own_keep h fun g _ _ hg=>k.block g (gS.1 hg).1
theorem Iow.down (h:Iow w base a n c l) (hb:base'<=base):Iow w base' a n c l:=by
 refine ⟨h.1,?_⟩
 rcases h.2 with h | ⟨g,cap,cur,hv,hbg,rest⟩
 ·exact Or.inl h
 ·exact Or.inr ⟨g,cap,cur,hv,by omega,rest⟩
theorem Iow.lt (h:Iow w base a n c l):∀ k,(Value.slice a n c).ownBlock=some k->base<=k/\k<w.heap.size:=own_lt h
theorem Iow.kind (h:Iow w base a n c l):∀ k,(Value.slice a n c).ownBlock=some k->∃ cur fr,w.heap[k]?=some (.cells cur 3 fr):=fun k hk=>(PtKind h k hk).2
theorem Iow.ints (h:Iow w base a n c l):n<=c/\c<=maxLen/\IntsAt w a n l/\TyI w a:=by
 obtain ⟨a',c',e,h1,h2,h3,h4⟩:=ints_of_own h;injection e with e1 e2 e3;subst e1;subst e3;exact ⟨h1,h2,h3,h4⟩
theorem io_of_own {v:Value} (h:w.ownsRow base 3 1 v n (iC l)):∃ (a:Option Addr) (c:Nat),v=.slice a n c/\Iow w base a n c l:=by
 obtain ⟨a',c',rfl,_⟩:=ints_of_own h;exact ⟨a',c',rfl,h⟩
end
structure OpN (w:World) (base:Nat) (o:Gop) (a1:Option Addr) (n1 c1:Nat) (a2:Option Addr) (n2 c2:Nat):Prop where
 i1:Iow w base a1 n1 c1 o.ctl
 i2:Iow w base a2 n2 c2 o.cnd
 ne:∀ k,(Value.slice a1 n1 c1).ownBlock=some k->(Value.slice a2 n2 c2).ownBlock≠some k
section
variable {w w':World} {base base':Nat} {o:Gop} {a1:Option Addr} {n1 c1:Nat} {a2:Option Addr} {n2 c2:Nat}
theorem OpN.keep (h:OpN w base o a1 n1 c1 a2 n2 c2) (hk:∀ (b:Nat) (cur:Array Value) (fr:Nat × Nat),w.heap[b]?=some (.cells cur 3 fr)->w'.heap[b]?=w.heap[b]?):OpN w' base o a1 n1 c1 a2 n2 c2:=⟨h.i1.keep hk,h.i2.keep hk,h.ne⟩
theorem OpN.ext (h:OpN w base o a1 n1 c1 a2 n2 c2) (k:Ext w w'):OpN w' base o a1 n1 c1 a2 n2 c2:=⟨h.i1.ext k,h.i2.ext k,h.ne⟩
theorem OpN.down (h:OpN w base o a1 n1 c1 a2 n2 c2) (hb:base'<=base):OpN w base' o a1 n1 c1 a2 n2 c2:=⟨h.i1.down hb,h.i2.down hb,h.ne⟩
theorem OpN.opO (h:OpN w base o a1 n1 c1 a2 n2 c2):OpO w o a1 n1 c1 a2 n2 c2:=by
 obtain ⟨p1,p2,p3,p4⟩:=h.i1.ints;obtain ⟨q1,q2,q3,q4⟩:=h.i2.ints;exact ⟨⟨p3,p1,by unfold maxLen at p2;omega,q3,q1,by unfold maxLen at q2;omega⟩,p4,q4⟩
end
def SepF (m:Nat) (f:Nat->Option Value):Prop:=∀ i j k u v,i<m->j<m->f i=some u->f j=some v->u.ownBlock=some k->v.ownBlock=some k->i=j
def RowF (w:World) (base:Nat) (f:Nat->Option Value) (ops:List Gop):Prop :=
 ∀ t g,ops[t]?=some g->∃ (a1:Option Addr) (n1 c1:Nat) (a2:Option Addr) (n2 c2:Nat),
  f (t*6)=some (.int .i64 g.kind)/\f (t*6+1)=some (.int .i64 g.k)/\f (t*6+2)=some (.slice a1 n1 c1)/\f (t*6+3)=some (.int .i64 g.q)/\f (t*6+4)=some (.int .i64 g.bit)/\f (t*6+5)=some (.slice a2 n2 c2)/\OpN w base g a1 n1 c1 a2 n2 c2
section
variable {w w':World} {base base':Nat} {f f':Nat->Option Value} {ops:List Gop}
theorem RowF.map (h:RowF w base f ops) (hk:∀ g a1 n1 c1 a2 n2 c2,OpN w base g a1 n1 c1 a2 n2 c2->OpN w' base' g a1 n1 c1 a2 n2 c2):RowF w' base' f ops:=fun t g hg=>by
 obtain ⟨a1,n1,c1,a2,n2,c2,e0,e1,e2,e3,e4,e5,e6⟩:=h t g hg;exact ⟨a1,n1,c1,a2,n2,c2,e0,e1,e2,e3,e4,e5,hk _ _ _ _ _ _ _ e6⟩
theorem RowF.congr (h:RowF w base f ops) (he:∀ i,i<ops.length*6->f' i=f i):RowF w base f' ops:=fun t g hg=>by
 obtain ⟨a1,n1,c1,a2,n2,c2,e0,e1,e2,e3,e4,e5,e6⟩:=h t g hg;have ht:=(List.getElem?_eq_some_iff.1 hg).1;exact ⟨a1,n1,c1,a2,n2,c2,(he _ (by omega)).trans e0,(he _ (by omega)).trans e1,(he _ (by omega)).trans e2,(he _ (by omega)).trans e3,(he _ (by omega)).trans e4,(he _ (by omega)).trans e5,e6⟩
theorem SepF.congr {m:Nat} (h:SepF m f) (he:∀ i,i<m->f' i=f i):SepF m f':=fun i j k u v hi hj eu ev ku kv =>
 h i j k u v hi hj ((he i hi).symm.trans eu) ((he j hj).symm.trans ev) ku kv
theorem RowF.blocks (h:RowF w base f ops) {i:Nat} {u:Value} {k:Nat} (hi:i<ops.length*6) (hu:f i=some u) (hk:u.ownBlock=some k):base<=k/\k<w.heap.size/\∃ cur fr,w.heap[k]?=some (.cells cur 3 fr):=by
 obtain ⟨t,r,hr,rfl⟩:∃ t r,r<6/\i=t*6+r:=⟨i / 6,i % 6,by omega,by omega⟩
 have ht:t<ops.length:=by omega
 obtain ⟨a1,n1,c1,a2,n2,c2,e0,e1,e2,e3,e4,e5,e6⟩:=h t _ (List.getElem?_eq_getElem ht)
 have:r=0\/r=1\/r=2\/r=3\/r=4\/r=5:=by omega
 rcases this with rfl | rfl | rfl | rfl | rfl | rfl
 ·rw [Nat.add_zero,e0] at hu;cases hu;simp [Value.ownBlock] at hk
 ·rw [e1] at hu;cases hu;simp [Value.ownBlock] at hk
 ·rw [e2] at hu;cases hu;exact ⟨(e6.i1.lt k hk).1,(e6.i1.lt k hk).2,e6.i1.kind k hk⟩
 ·rw [e3] at hu;cases hu;simp [Value.ownBlock] at hk
 ·rw [e4] at hu;cases hu;simp [Value.ownBlock] at hk
 ·rw [e5] at hu;cases hu;exact ⟨(e6.i2.lt k hk).1,(e6.i2.lt k hk).2,e6.i2.kind k hk⟩
end
structure OpsX (w:World) (base:Nat) (v:Value) (ops:List Gop) (xs:List Value):Prop where
 own:w.ownsRow base 52 6 v ops.length xs
 sep:SepF (ops.length*6) (fun i=>xs[i]?)
 row:RowF w base (fun i=>xs[i]?) ops
def OpsN (w:World) (base:Nat) (v:Value) (ops:List Gop):Prop:=∃ xs,OpsX w base v ops xs
section
variable {w w':World} {base base':Nat} {v:Value} {ops:List Gop} {xs:List Value}
theorem OpsX.nil (w:World) (base:Nat):OpsX w base (.slice none 0 0) [] []:=⟨⟨rfl,Or.inl ⟨rfl,rfl⟩⟩,fun i j k u v hi=>by simp at hi,fun t g h=>by simp at h⟩
theorem OpsN.nil (w:World) (base:Nat):OpsN w base (.slice none 0 0) []:=⟨[],OpsX.nil w base⟩
theorem OpsX.ext (h:OpsX w base v ops xs) (k:Ext w w'):OpsX w' base v ops xs :=
 ⟨own_keep h.own (fun g _ _ hg=>k.block g (gS.1 hg).1),h.sep,h.row.map fun _ _ _ _ _ _ _ o=>o.ext k⟩
theorem OpsN.ext (h:OpsN w base v ops) (k:Ext w w'):OpsN w' base v ops:=h.elim fun _ hx=>⟨_,hx.ext k⟩
theorem own_keep3 {e:TypeId} {size n:Nat} (h:w.ownsRow base e size v n xs) (hk:∀ g,v.ownBlock=some g->w'.heap[g]?=w.heap[g]?):w'.ownsRow base e size v n xs:=by
 refine ⟨h.1,?_⟩
 rcases h.2 with h | ⟨g,cap,cur,hv,hb,hg,rest⟩
 ·exact Or.inl h
 ·exact Or.inr ⟨g,cap,cur,hv,hb,(hk g (by rw [hv];rfl)).trans hg,rest⟩
theorem OpsX.keep (h:OpsX w base v ops xs) (hv:∀ g,v.ownBlock=some g->w'.heap[g]?=w.heap[g]?) (hk:∀ (b:Nat) (cur:Array Value) (fr:Nat × Nat),w.heap[b]?=some (.cells cur 3 fr)->w'.heap[b]?=w.heap[b]?):OpsX w' base v ops xs :=
 ⟨own_keep3 h.own hv,h.sep,h.row.map fun _ _ _ _ _ _ _ o=>o.keep hk⟩
theorem OpsX.far {k:Nat} {cs:Array Value} {T:TypeId} {fr:Nat × Nat} (h:OpsX w base v ops xs) (hk:w.heap[k]?=some (.cells cs T fr)) (hT:T≠3) (hT2:T≠52) (hO:Only k w w'):OpsX w' base v ops xs:=by
 refine h.keep (fun g hg=>hO.block g (fun e=>?_)) (only_ints hk hT hO);obtain ⟨_,cs',fr',e2⟩:=PtKind h.own g hg;rw [e,hk] at e2
 cases e2
 exact hT2 rfl
theorem OpsN.far {k:Nat} {cs:Array Value} {T:TypeId} {fr:Nat × Nat} (h:OpsN w base v ops) (hk:w.heap[k]?=some (.cells cs T fr)) (hT:T≠3) (hT2:T≠52) (hO:Only k w w'):OpsN w' base v ops:=h.elim fun _ hx=>⟨_,hx.far hk hT hT2 hO⟩
theorem OpsX.only {k:Nat} {cs:Array Value} {T:TypeId} {fr:Nat × Nat} (h:OpsX w base v ops xs) (hk:w.heap[k]?=some (.cells cs T fr)) (hT:T≠3) (hO:Only k w w') (hb:k<base):OpsX w' base v ops xs :=
 h.keep (fun g hg=>hO.block g (by have:=(PtKind h.own g hg).1;omega)) (only_ints hk hT hO)
theorem OpsN.only {k:Nat} {cs:Array Value} {T:TypeId} {fr:Nat × Nat} (h:OpsN w base v ops) (hk:w.heap[k]?=some (.cells cs T fr)) (hT:T≠3) (hO:Only k w w') (hb:k<base):OpsN w' base v ops:=h.elim fun _ hx=>⟨_,hx.only hk hT hO hb⟩
theorem OpsN.down (h:OpsN w base v ops) (hb:base'<=base):OpsN w base' v ops:=by
 obtain ⟨xs,h⟩:=h;refine ⟨xs,⟨⟨h.own.1,?_⟩,h.sep,h.row.map fun _ _ _ _ _ _ _ o=>o.down hb⟩⟩
 rcases h.own.2 with h | ⟨g,cap,cur,hv,hbg,rest⟩
 ·exact Or.inl h
 ·exact Or.inr ⟨g,cap,cur,hv,by omega,rest⟩
theorem OpsN.o (h:OpsN w base v ops):OpsO w base v ops:=by
 obtain ⟨xs,h⟩:=h;refine ⟨xs,h.own,fun t g hg=>?_⟩;obtain ⟨a1,n1,c1,a2,n2,c2,e0,e1,e2,e3,e4,e5,e6⟩:=h.row t g hg;exact ⟨a1,n1,c1,a2,n2,c2,e0,e1,e2,e3,e4,e5,e6.opO⟩
theorem OpsN.at {a:Option Addr} {n c:Nat} (h:OpsN w base (.slice a n c) ops):ops.length=n/\n<=c/\c<=9223372036854775807/\OpsAt w a n ops:=by
 obtain ⟨a9,c9,ev9,h1,h2,h3⟩:=h.o.at;injection ev9 with ea en ec;subst ea;subst ec;subst en;exact ⟨rfl,h1,by unfold maxLen at h2;omega,h3⟩
theorem OpsX.old (h:OpsX w base v ops xs):∀ (i:Nat) (u:Value) (k:Nat),xs[i]?=some u->u.ownBlock=some k->k<w.heap.size:=fun i u k hu hk=>by
 have hi:i<ops.length*6:=by rw [<-h.own.1];exact (List.getElem?_eq_some_iff.1 hu).1
 exact (h.row.blocks hi hu hk).2.1
end
theorem six_block {k0 k1:Int} {a1:Option Addr} {n1 c1:Nat} {k3 k4:Int} {a2:Option Addr} {n2 c2:Nat} {j k:Nat} {u:Value} (hu:([.int .i64 k0,.int .i64 k1,.slice a1 n1 c1,.int .i64 k3,.int .i64 k4,.slice a2 n2 c2]:List Value)[j]?=some u) (hk:u.ownBlock=some k) :
  (j=2/\(Value.slice a1 n1 c1).ownBlock=some k)\/(j=5/\(Value.slice a2 n2 c2).ownBlock=some k):=by
 match j,hu with
 | 0,hu=>simp at hu;subst hu;simp [Value.ownBlock] at hk
 | 1,hu=>simp at hu;subst hu;simp [Value.ownBlock] at hk
 | 2,hu=>simp at hu;subst hu;exact Or.inl ⟨rfl,hk⟩
 | 3,hu=>simp at hu;subst hu;simp [Value.ownBlock] at hk
 | 4,hu=>simp at hu;subst hu;simp [Value.ownBlock] at hk
 | 5,hu=>simp at hu;subst hu;exact Or.inr ⟨rfl,hk⟩
 | n+6,hu=>simp at hu
theorem OpsX.snoc {w w':World} {base B:Nat} {v v':Value} {ops:List Gop} {xs:List Value} {g:Gop} {a1:Option Addr} {n1 c1:Nat} {a2:Option Addr} {n2 c2:Nat} (h:OpsX w base v ops xs)
  (h1:w'.ownsRow base 52 6 v' (ops.length+1) (xs++[.int .i64 g.kind,.int .i64 g.k,.slice a1 n1 c1,.int .i64 g.q,.int .i64 g.bit,.slice a2 n2 c2]))
  (hk:∀ (b:Nat) (cur:Array Value) (fr:Nat × Nat),w.heap[b]?=some (.cells cur 3 fr)->w'.heap[b]?=w.heap[b]?)
  (hB:∀ (i:Nat) (u:Value) (k:Nat),xs[i]?=some u->u.ownBlock=some k->k<B) (hb:base<=B) (hO:OpN w' B g a1 n1 c1 a2 n2 c2) :
  OpsX w' base v' (ops++[g]) (xs++[.int .i64 g.kind,.int .i64 g.k,.slice a1 n1 c1,.int .i64 g.q,.int .i64 g.bit,.slice a2 n2 c2]):=by
 have hx:xs.length=ops.length*6:=h.own.1
 have hl:(ops++[g]).length=ops.length+1:=by simp
 have hr:∀ j,(xs++[.int .i64 g.kind,.int .i64 g.k,.slice a1 n1 c1,.int .i64 g.q,.int .i64 g.bit,.slice a2 n2 c2])[ops.length*6+j]?=([.int .i64 g.kind,.int .i64 g.k,.slice a1 n1 c1,.int .i64 g.q,.int .i64 g.bit,.slice a2 n2 c2]:List Value)[j]?:=fun j=>by
  rw [List.getElem?_append_right (by omega),hx,Nat.add_sub_cancel_left]
 have hlft:∀ i,i<ops.length*6->(xs++[.int .i64 g.kind,.int .i64 g.k,.slice a1 n1 c1,.int .i64 g.q,.int .i64 g.bit,.slice a2 n2 c2])[i]?=xs[i]?:=fun i hi=>List.getElem?_append_left (by omega)
 refine ⟨by rw [hl];exact h1,?_,?_⟩
 ·rw [hl]
  intro i j k u v hi hj eu ev ku kv;simp only at eu ev
  have key:∀ p q x y,p<ops.length*6->ops.length*6<=q->(xs++[.int .i64 g.kind,.int .i64 g.k,.slice a1 n1 c1,.int .i64 g.q,.int .i64 g.bit,.slice a2 n2 c2])[p]?=some x->(xs++[.int .i64 g.kind,.int .i64 g.k,.slice a1 n1 c1,.int .i64 g.q,.int .i64 g.bit,.slice a2 n2 c2])[q]?=some y->x.ownBlock=some k->y.ownBlock=some k->False:=by
   intro p q x y hp hq ex ey kx ky;rw [hlft p hp] at ex;have h1:=hB p x k ex kx;obtain ⟨r,rfl⟩:∃ r,q=ops.length*6+r:=⟨q-ops.length*6,by omega⟩;rw [hr] at ey
   rcases six_block ey ky with ⟨_,e⟩ | ⟨_,e⟩
   ·have:=(hO.i1.lt k e).1;omega
   ·have:=(hO.i2.lt k e).1;omega
  by_cases h1:i<ops.length*6
  ·by_cases h2:j<ops.length*6
   ·exact h.sep i j k u v h1 h2 (by rw [hlft i h1] at eu;exact eu) (by rw [hlft j h2] at ev;exact ev) ku kv
   ·exact (key i j u v h1 (by omega) eu ev ku kv).elim
  ·by_cases h2:j<ops.length*6
   ·exact (key j i v u h2 (by omega) ev eu kv ku).elim
   ·obtain ⟨r,rfl⟩:∃ r,i=ops.length*6+r:=⟨i-ops.length*6,by omega⟩
    obtain ⟨s,rfl⟩:∃ s,j=ops.length*6+s:=⟨j-ops.length*6,by omega⟩;rw [hr] at eu ev
    rcases six_block eu ku with ⟨e1,f1⟩ | ⟨e1,f1⟩<;>rcases six_block ev kv with ⟨e2,f2⟩ | ⟨e2,f2⟩
    ·omega
    ·exact absurd f2 (hO.ne k f1)
    ·exact absurd f1 (hO.ne k f2)
    ·omega
 ·intro t gg hgg
  have ht:=(List.getElem?_eq_some_iff.1 hgg).1;rw [hl] at ht
  by_cases e:t=ops.length
  ·subst e
   rw [List.getElem?_append_right (Nat.le_refl _),Nat.sub_self] at hgg
   cases hgg
   exact ⟨a1,n1,c1,a2,n2,c2,hr 0,hr 1,hr 2,hr 3,hr 4,hr 5,hO.down hb⟩
  ·rw [List.getElem?_append_left (by omega)] at hgg
   obtain ⟨b1,m1,d1,b2,m2,d2,e0,e1,e2,e3,e4,e5,e6⟩:=h.row t gg hgg;exact ⟨b1,m1,d1,b2,m2,d2,(hlft _ (by omega)).trans e0,(hlft _ (by omega)).trans e1,(hlft _ (by omega)).trans e2,(hlft _ (by omega)).trans e3,(hlft _ (by omega)).trans e4,(hlft _ (by omega)).trans e5,e6.keep hk⟩
theorem opsN_open {w:World} {base:Nat} {a:Option Addr} {n c:Nat} {ops:List Gop} (h:OpsN w base (.slice a n c) ops) (hn:0<n) :
  ops.length=n/\∃ g cur,a=some ⟨g,0,none⟩/\base<=g/\w.heap[g]?=some (.cells cur 52 (0,0))/\n<=c/\c<=maxLen/\cur.size=c*6/\SepF (n*6) (fun i=>cur[i]?)/\RowF w base (fun i=>cur[i]?) ops:=by
 obtain ⟨xs,h⟩:=h
 rcases h.own.2 with ⟨e,h0⟩ | ⟨g,cap,cur,hv,hb,hg,hnc,hcm,hsz,htk⟩
 ·injection e with _ e2 _;omega
 ·injection hv with e1 e2 e3
  subst e1;subst e3
  have hc:∀ j,j<ops.length*6->cur[j]?=xs[j]?:=by
   intro j hj;rw [<-htk,List.getElem?_take,if_pos hj,Array.getElem?_toList]
  refine ⟨e2.symm,g,cur,rfl,hb,hg,by omega,hcm,hsz,?_,h.row.congr hc⟩;rw [e2];exact h.sep.congr hc
theorem opsN_close {w:World} {base g n c:Nat} {cur:Array Value} {ops:List Gop} (hl:ops.length=n) (hb:base<=g) (hg:w.heap[g]?=some (.cells cur 52 (0,0))) (hnc:n<=c) (hcm:c<=maxLen) (hsz:cur.size=c*6) (hS:SepF (n*6) (fun i=>cur[i]?)) (h:RowF w base (fun i=>cur[i]?) ops) :
  OpsN w base (.slice (some ⟨g,0,none⟩) n c) ops:=by
 have hc:∀ j,j<ops.length*6->(cur.toList.take (n*6))[j]?=cur[j]?:=by
  intro j hj;rw [List.getElem?_take,if_pos (by omega),Array.getElem?_toList]
 refine ⟨cur.toList.take (n*6),⟨by rw [List.length_take,Array.length_toList,hsz,hl];omega,Or.inr ⟨g,c,cur,by rw [hl],hb,hg,by omega,hcm,hsz,by rw [hl]⟩⟩,?_,h.congr hc⟩;rw [hl]
 exact hS.congr fun i hi=>hc i (by omega)
theorem copyInts_own (ao:Option Addr) (n c:Nat) (l:List Int) (w:World) (h:IntsAt w ao n l) (hb:n*8<=140737488355328) :
  Calls Tryz.prog 73 #[.slice ao n c] w fun e w'=>(∃ (a':Option Addr) (c':Nat),e=.returned (.slice a' n c')/\Iow w' w.heap.size a' n c' l)/\Ext w w':=by
 obtain ⟨i0,hi,hz0,hz1,hz2⟩:=info_parts i_info;have Hl:=Lh h.1;have H:=Lh h;clear h
 go_enter Tryz.func73,Tryz.ntmps73
 go_wp2_with fail
 go_loopg [3,4] n (fun k s3 s4 wr=>Ext w wr/\∃ i:Nat,s4=.int .i64 (i:Int)/\i<=n/\n-i=k/\wr.ownsRow w.heap.size 3 1 s3 i (iC (l.take i)))
 case atStart=>exact ⟨Ext.refl _,0,rfl,by omega,by omega,⟨rfl,Or.inl ⟨rfl,rfl⟩⟩⟩
 case round =>
  obtain ⟨hER,i,rfl,hi',hk,hown⟩:=hrel;have HER:=Lh hER;have Hown:=Lh hown;clear hER hown
  by_cases hin:i=n
  ·have h2:¬ (i:Int)<(n:Int):=by omega
   have ho:=Hown.out;rw [List.take_of_length_le (by rw [Hl.out];omega),hin] at ho;obtain ⟨a',c',e,e1⟩:=io_of_own ho;subst e;have HI:=Lh e1;clear ho e1 Hown
   go_wp2_with fail
   go_ret
   exact ⟨⟨a',c',rfl,HI.out⟩,HER.out⟩
  ·have h2:(i:Int)<(n:Int):=by omega
   have h0:(0:Int)<=(i:Int):=by omega
   obtain ⟨b,o,rfl,hbl,hcell⟩:=(H.out.ext HER.out).at (by omega);have hci:=hcell i (by omega);obtain ⟨y,hy⟩:∃ y,l.getD i 0=y:=⟨_,rfl⟩;rw [hy] at hci
   have hst:iC (l.take (i+1))=iC (l.take i)++[.int .i64 y]:=by
    rw [<-hy,List.take_add_one,List.getElem?_eq_getElem (by rw [Hl.out];omega),<-iC_snoc,List.getD_eq_getElem?_getD,List.getElem?_eq_getElem (by rw [Hl.out];omega)]
    rfl
   have Hst:=Lh hst;clear hcell hy hst hbl
   go_wp2_with (at_builtin;refine wpList_append_own _ rfl _ _ 25 rfl w.heap.size 3 i0 (.int .i64 0) 1 8 Tryz.underlying25 hi hz0 hz1 hz2 rfl (by decide) _ i (iC (l.take i)) rfl (Hown.out.alloc _) ⟨wr.heap.size,0,none⟩ 1 1 [.int .i64 y] rfl rfl (new_i wr y _) (one_i y) (by unfold maxLen;omega) (by omega) (Nat.le_trans HER.out.size (ext_al wr _).size) ?_;intro v' w7 hown' hgrow' _)
   go_roundg (n-(i+1))
   case measure=>omega
   case rel=>exact ⟨grown_ext (HER.out.trans (ext_al wr _)) hgrow' (fun k hk=>(own_lt Hown.out k hk).1),i+1,by go_num,by omega,rfl,by rw [Hst.out];exact hown'⟩
theorem copyOp_N (o:Gop) (a1:Option Addr) (n1 c1:Nat) (a2:Option Addr) (n2 c2:Nat) (w:World) (h:OpL w o a1 n1 c1 a2 n2 c2) (hb1:n1*8<=140737488355328) (hb2:n2*8<=140737488355328) :
  Calls Tryz.prog 33 #[.agg #[.int .i64 o.kind,.int .i64 o.k,.slice a1 n1 c1,.int .i64 o.q,.int .i64 o.bit,.slice a2 n2 c2]] w fun e w'=>(∃ (a1':Option Addr) (c1':Nat) (a2':Option Addr) (c2':Nat),e=.returned (.agg #[.int .i64 o.kind,.int .i64 o.k,.slice a1' n1 c1',.int .i64 o.q,.int .i64 o.bit,.slice a2' n2 c2'])/\OpN w' w.heap.size o a1' n1 c1' a2' n2 c2')/\Ext w w':=by
 obtain ⟨kd,k,ctl,q,bt,cnd⟩:=o;have E0:=(ext_al w (.cells #[.int .i64 kd,.int .i64 k,.slice a1 n1 c1,.int .i64 q,.int .i64 bt,.slice a2 n2 c2] 52)).trans (ext_al _ (.cells #[.int .i64 0,.int .i64 0,.slice none 0 0,.int .i64 0,.int .i64 0,.slice none 0 0] 52));have bx:=(opbx_new w kd k a1 n1 c1 q bt a2 n2 c2).ext (ext_al _ (.cells #[.int .i64 0,.int .i64 0,.slice none 0 0,.int .i64 0,.int .i64 0,.slice none 0 0] 52));have br:=opbx_new (w.alloc (.cells #[.int .i64 kd,.int .i64 k,.slice a1 n1 c1,.int .i64 q,.int .i64 bt,.slice a2 n2 c2] 52)) 0 0 none 0 0 0 0 none 0 0;rw [show (w.alloc (.cells #[.int .i64 kd,.int .i64 k,.slice a1 n1 c1,.int .i64 q,.int .i64 bt,.slice a2 n2 c2] 52)).heap.size=w.heap.size+1 from by simp] at br;have HE0:=Lh E0;have HL:=Lh (h.ext E0);have H0:=Lh h;have Hbx:=Lh bx;have Hbr:=Lh br;have m2:=bx.x2;simp only;clear h E0 bx br
 go_enter Tryz.func33,Tryz.ntmps33
 go_wp2_with fail
 generalize (w.alloc (.cells #[.int .i64 kd,.int .i64 k,.slice a1 n1 c1,.int .i64 q,.int .i64 bt,.slice a2 n2 c2] 52)).alloc (.cells #[.int .i64 0,.int .i64 0,.slice none 0 0,.int .i64 0,.int .i64 0,.slice none 0 0] 52)=W0 at *;clear m2;refine (copyInts_own a1 n1 c1 ctl W0 HL.out.i1 hb1).mono ?_;rintro e w1 ⟨⟨a3,c3,rfl,I3⟩,hx1⟩;have b1:=Hbx.out.ext hx1;have y2:=b1.x2;have y5:=b1.x5;have f2:=b1.f 2;have b2:=b1.set2 a3 n1 c3;have hk1:=only_ints b1.row (by decide) (only1 w1 w.heap.size 2 (.slice a3 n1 c3));have I4:=I3.keep hk1;have Hlt:=Lh (fun k hk=>(I4.lt k hk).2);have HW0:=Lh HE0.out.size;have HE1:=Lh (p:=Ext w _) (Below.setCell (HE0.out.trans hx1) (p:=⟨w.heap.size,2,none⟩) (Nat.le_refl _) (.slice a3 n1 c3));have br2:OpBx (w1.setCell ⟨w.heap.size,2,none⟩ (.slice a3 n1 c3)) (w.heap.size+1) 0 0 none 0 0 0 0 none 0 0:=⟨((only1 w1 w.heap.size 2 (.slice a3 n1 c3)).block _ (by omega)).trans (Hbr.out.ext hx1).row⟩;have J2:=H0.out.i2.ext HE1.out;have z5:=b2.x5;have Hb2:=Lh b2;have Hbr2:=Lh br2;have HI4:=Lh I4;have HJ2:=Lh J2;have HW2:=Lh (HE1.out.size);clear b1 b2 br2 I3 I4 J2 hk1 HL
 go_wp2_with fail
 generalize w1.setCell ⟨w.heap.size,2,none⟩ (.slice a3 n1 c3)=W2 at *;clear y2 y5 f2 z5;refine (copyInts_own a2 n2 c2 cnd W2 HJ2.out hb2).mono ?_;rintro e w3 ⟨⟨a5,c5,rfl,I5⟩,hx3⟩;have b3:=Hb2.out.ext hx3;have y5:=b3.x5;have f5:=b3.f 5;have b4:=b3.set5 a5 n2 c5;have hk3:=only_ints b3.row (by decide) (only1 w3 w.heap.size 5 (.slice a5 n2 c5));have I6:=(HI4.out.ext hx3).keep hk3;have I7:=I5.keep hk3;have HE3:=Lh (p:=Ext w _) (Below.setCell (Ext.trans HE1.out hx3) (p:=⟨w.heap.size,5,none⟩) (Nat.le_refl _) (.slice a5 n2 c5));have br4:OpBx (w3.setCell ⟨w.heap.size,5,none⟩ (.slice a5 n2 c5)) (w.heap.size+1) 0 0 none 0 0 0 0 none 0 0:=⟨((only1 w3 w.heap.size 5 (.slice a5 n2 c5)).block _ (by omega)).trans (Hbr2.out.ext hx3).row⟩;have hk4:=only_ints br4.row (by decide) (onl6 (w3.setCell ⟨w.heap.size,5,none⟩ (.slice a5 n2 c5)) (w.heap.size+1) (.int .i64 kd) (.int .i64 k) (.slice a3 n1 c3) (.int .i64 q) (.int .i64 bt) (.slice a5 n2 c5));have HI8:=Lh (I6.keep hk4);have HI9:=Lh (I7.keep hk4)
 have Hne:=Lh (show ∀ k,(Value.slice a3 n1 c3).ownBlock=some k->(Value.slice a5 n2 c5).ownBlock≠some k from fun k h1 h2=>by
  have h3:=Hlt.out k h1;have h4:=(I7.lt k h2).1
  omega)
 have p0:=b4.x0;have p1:=b4.x1;have p2:=b4.x2;have p3:=b4.x3;have p4:=b4.x4;have p5:=b4.x5;have r0:=br4.x0;have r1:=br4.x1;have r2:=br4.x2;have r3:=br4.x3;have r4:=br4.x4;have r5:=br4.x5;have g0:=br4.f 0;have g1:=br4.f 1;have g2:=br4.f 2;have g3:=br4.f 3;have g4:=br4.f 4;have g5:=br4.f 5;clear b3 b4 br4 I5 I6 I7 hk3 hk4 hx3 hx1
 go_wp2_with fail
 exact bodyPost_ret (v:=.agg #[.int .i64 kd,.int .i64 k,.slice a3 n1 c3,.int .i64 q,.int .i64 bt,.slice a5 n2 c5]) (by simp [results,Tryz.results33,go_sem,r0,r1,r2,r3,r4,r5]) rfl ⟨⟨a3,c3,a5,c5,rfl,⟨HI8.out.down (by have:=HW0.out;omega),HI9.out.down (by have:=HW2.out;omega),Hne.out⟩⟩,put6 HE3.out (by omega) _ _ _ _ _ _⟩
theorem ccopyOp_N (o:Gop) (a1:Option Addr) (n1 c1:Nat) (a2:Option Addr) (n2 c2:Nat) (w:World) (h:OpL w o a1 n1 c1 a2 n2 c2) (hb1:n1*8<=140737488355328) (hb2:n2*8<=140737488355328) :
  Calls Tryz.prog 134 #[.agg #[.int .i64 o.kind,.int .i64 o.k,.slice a1 n1 c1,.int .i64 o.q,.int .i64 o.bit,.slice a2 n2 c2]] w fun e w'=>(∃ (a1':Option Addr) (c1':Nat) (a2':Option Addr) (c2':Nat),e=.returned (.agg #[.int .i64 o.kind,.int .i64 o.k,.slice a1' n1 c1',.int .i64 o.q,.int .i64 o.bit,.slice a2' n2 c2'])/\OpN w' w.heap.size o a1' n1 c1' a2' n2 c2')/\Ext w w':=by
 obtain ⟨kd,k,ctl,q,bt,cnd⟩:=o;have E0:=(ext_al w (.cells #[.int .i64 kd,.int .i64 k,.slice a1 n1 c1,.int .i64 q,.int .i64 bt,.slice a2 n2 c2] 52)).trans (ext_al _ (.cells #[.int .i64 0,.int .i64 0,.slice none 0 0,.int .i64 0,.int .i64 0,.slice none 0 0] 52));have bx:=(opbx_new w kd k a1 n1 c1 q bt a2 n2 c2).ext (ext_al _ (.cells #[.int .i64 0,.int .i64 0,.slice none 0 0,.int .i64 0,.int .i64 0,.slice none 0 0] 52));have br:=opbx_new (w.alloc (.cells #[.int .i64 kd,.int .i64 k,.slice a1 n1 c1,.int .i64 q,.int .i64 bt,.slice a2 n2 c2] 52)) 0 0 none 0 0 0 0 none 0 0;rw [show (w.alloc (.cells #[.int .i64 kd,.int .i64 k,.slice a1 n1 c1,.int .i64 q,.int .i64 bt,.slice a2 n2 c2] 52)).heap.size=w.heap.size+1 from by simp] at br;have HE0:=Lh E0;have HL:=Lh (h.ext E0);have Hbx:=Lh bx;have Hbr:=Lh br;simp only;clear h E0 bx br
 go_enter Tryz.func134,Tryz.ntmps134
 go_upto_region 1 with fail
 generalize (w.alloc (.cells #[.int .i64 kd,.int .i64 k,.slice a1 n1 c1,.int .i64 q,.int .i64 bt,.slice a2 n2 c2] 52)).alloc (.cells #[.int .i64 0,.int .i64 0,.slice none 0 0,.int .i64 0,.int .i64 0,.slice none 0 0] 52)=W0 at *;have hd0:Ext W0 W0.drew:=Below.drew (Ext.refl _);have HC1:=Lh (fun wx (hx:Ext W0 wx)=>copyList_any a1 n1 c1 ctl wx (HL.out.i1.ext hx) hb1);have HC2:=Lh (fun wx (hx:Ext W0 wx)=>copyList_any a2 n2 c2 cnd wx (HL.out.i2.ext hx) hb2);have v2:=Hbx.out.x2;have v5:=Hbx.out.x5;refine wp_region_K 7 (fun w'=>w'.cell? ⟨w.heap.size,2,none⟩=some (.slice a1 n1 c1)/\w'.cell? ⟨w.heap.size,5,none⟩=some (.slice a2 n2 c2)) (by kernel_rfl) ?_
 show anyK _ _ _ _ _ _ 10 #[false,false,false,false,false,false,false,false,false,false] _ _
 have hHeld:W0.drew.cell? ⟨w.heap.size,2,none⟩=some (.slice a1 n1 c1)/\W0.drew.cell? ⟨w.heap.size,5,none⟩=some (.slice a2 n2 c2):=⟨v2,v5⟩;refine kT 0 10 (v:=?_) rfl (Or.inl ⟨by rfl,?_⟩) hHeld ?_;rotate_left 1
 ·intro w hSw
  go_simp
  try with_reducible rfl
 show anyK _ _ _ _ _ _ _ _ (Act.put _ (some 3) _) _
 simp only [Act.put,sx0,sx1,sx2];refine kT 1 10 (v:=?_) rfl (Or.inl ⟨by rfl,?_⟩) hHeld ?_;rotate_left 1
 ·intro w hSw
  go_simp
  try with_reducible rfl
 show anyK _ _ _ _ _ _ _ _ (Act.put _ (some 4) _) _
 simp only [Act.put,sx0,sx1,sx2];refine kT 3 10 (v:=?_) rfl (Or.inl ⟨by rfl,?_⟩) hHeld ?_;rotate_left 1
 ·intro w hSw
  go_simp
  try with_reducible rfl
 show anyK _ _ _ _ _ _ _ _ (Act.put _ (some 6) _) _
 simp only [Act.put,sx0,sx1,sx2];refine kT 4 10 (v:=?_) rfl (Or.inl ⟨by rfl,?_⟩) hHeld ?_;rotate_left 1
 ·intro w hSw
  go_simp
  try with_reducible rfl
 show anyK _ _ _ _ _ _ _ _ (Act.put _ (some 7) _) _
 simp only [Act.put,sx0,sx1,sx2];clear hHeld;refine anyK_one (i:=2) (by kernel_rfl) rfl (fun Kk hKk=>?_)
 go_simp
 (go_at_call 169;refine (HC1.out _ hd0).mono ?_;rintro e w4 ⟨v',rfl,hown1,hx4⟩)
 obtain ⟨a3,c3,rfl,I3⟩:=io_of_own hown1;have hx4':=hd0.trans hx4;have b4:=Hbx.out.ext hx4';have x2:=b4.x2;have x5:=b4.x5
 go_wp2_with fail
 refine hKk.out _ _ (fun _=>⟨x2,x5⟩) ?_;clear hKk Kk;simp only [sx0,sx1,sx2];have hHeld:w4.cell? ⟨w.heap.size,2,none⟩=some (.slice a1 n1 c1)/\w4.cell? ⟨w.heap.size,5,none⟩=some (.slice a2 n2 c2):=⟨x2,x5⟩;refine kT 6 10 (v:=?_) rfl (Or.inl ⟨by rfl,?_⟩) hHeld ?_;rotate_left 1
 ·intro w hSw
  go_simp
  try with_reducible rfl
 show anyK _ _ _ _ _ _ _ _ (Act.put _ (some 9) _) _
 simp only [Act.put,sx0,sx1,sx2];clear hHeld;refine anyK_one (i:=5) (by kernel_rfl) rfl (fun Kk hKk=>?_)
 go_simp
 (have _:=hx4;go_at_call 169;refine (HC2.out _ hx4').mono ?_;rintro e w5 ⟨v'',rfl,hown2,hx5⟩)
 obtain ⟨a5,c5,rfl,I5⟩:=io_of_own hown2
 have Hne:=Lh (show ∀ k,(Value.slice a3 n1 c3).ownBlock=some k->(Value.slice a5 n2 c5).ownBlock≠some k from fun k h1 h2=>by
  have h3:=(I3.lt k h1).2;have h4:=(I5.lt k h2).1
  omega)
 have HW4:=Lh (HE0.out.trans hx4').size;have HW0:=Lh HE0.out.size;have hx5':=hx4'.trans hx5;have b5:=Hbx.out.ext hx5';have y2:=b5.x2;have y5:=b5.x5;have z2:=b5.f 2
 go_wp2_with fail
 refine hKk.out _ _ (fun _=>⟨y2,y5⟩) ?_;clear hKk Kk;simp only [sx0,sx1,sx2];refine anyK_one (i:=7) (by kernel_rfl) rfl (fun Kk hKk=>?_);refine stepK_storeI rfl rfl _ _ rfl w.heap.size 2 a3 n1 c3 (.slice a1 n1 c1) rfl rfl y2 z2 ?_;refine hKk.out _ _ (fun h=>Bool.noConfusion (show true=false from h)) ?_;clear hKk Kk;simp only [sx0,sx1,sx2];have b6:=b5.set2 a3 n1 c3;have hk1:=only_ints b5.row (by decide) (only1 w5 w.heap.size 2 (.slice a3 n1 c3));have I6:=(I3.ext hx5).keep hk1;have I7:=I5.keep hk1;have HE6:=Lh (p:=Ext w _) (Below.setCell (HE0.out.trans hx5') (p:=⟨w.heap.size,2,none⟩) (Nat.le_refl _) (.slice a3 n1 c3));have br6:OpBx (w5.setCell ⟨w.heap.size,2,none⟩ (.slice a3 n1 c3)) (w.heap.size+1) 0 0 none 0 0 0 0 none 0 0:=⟨((only1 w5 w.heap.size 2 (.slice a3 n1 c3)).block _ (by omega)).trans (Hbr.out.ext hx5').row⟩;have u5:=b6.x5;have s5:=b6.f 5;clear b4 b5 x2 x5 y2 y5 z2 I3 I5 hk1 hx4 hx5 hx4' hx5' hown1 hown2 v2 v5 hd0;generalize w5.setCell ⟨w.heap.size,2,none⟩ (.slice a3 n1 c3)=W6 at *;refine anyK_one (i:=8) (by kernel_rfl) rfl (fun Kk hKk=>?_)
 go_wp2_with fail
 refine hKk.out _ _ (fun h=>Bool.noConfusion (show true=false from h)) ?_;clear hKk Kk;simp only [sx0,sx1,sx2];refine anyK_one (i:=9) (by kernel_rfl) rfl (fun Kk hKk=>?_);refine stepK_storeI rfl rfl _ _ rfl w.heap.size 5 a5 n2 c5 (.slice a2 n2 c2) rfl rfl u5 s5 ?_;refine hKk.out _ _ (fun h=>Bool.noConfusion (show true=false from h)) ?_;clear hKk Kk;simp only [sx0,sx1,sx2];refine anyK_done (by kernel_rfl) ?_ _;have b8:=b6.set5 a5 n2 c5;have hk3:=only_ints b6.row (by decide) (only1 W6 w.heap.size 5 (.slice a5 n2 c5));have I8:=I6.keep hk3;have I9:=I7.keep hk3;have HE8:=Lh (p:=Ext w _) (Below.setCell HE6.out (p:=⟨w.heap.size,5,none⟩) (Nat.le_refl _) (.slice a5 n2 c5));have br8:OpBx (W6.setCell ⟨w.heap.size,5,none⟩ (.slice a5 n2 c5)) (w.heap.size+1) 0 0 none 0 0 0 0 none 0 0:=⟨((only1 W6 w.heap.size 5 (.slice a5 n2 c5)).block _ (by omega)).trans br6.row⟩;clear b6 br6 I6 I7 hk3 u5 s5 HE6;generalize W6.setCell ⟨w.heap.size,5,none⟩ (.slice a5 n2 c5)=W8 at *;have hk4:=only_ints br8.row (by decide) (onl6 W8 (w.heap.size+1) (.int .i64 kd) (.int .i64 k) (.slice a3 n1 c3) (.int .i64 q) (.int .i64 bt) (.slice a5 n2 c5));have HI8:=Lh (I8.keep hk4);have HI9:=Lh (I9.keep hk4);have p0:=b8.x0;have p1:=b8.x1;have p2:=b8.x2;have p3:=b8.x3;have p4:=b8.x4;have p5:=b8.x5;have r0:=br8.x0;have r1:=br8.x1;have r2:=br8.x2;have r3:=br8.x3;have r4:=br8.x4;have r5:=br8.x5;have g0:=br8.f 0;have g1:=br8.f 1;have g2:=br8.f 2;have g3:=br8.f 3;have g4:=br8.f 4;have g5:=br8.f 5;clear b8 br8 I8 I9 hk4
 go_wp2_with fail
 exact bodyPost_ret (v:=.agg #[.int .i64 kd,.int .i64 k,.slice a3 n1 c3,.int .i64 q,.int .i64 bt,.slice a5 n2 c5]) (by simp [results,Tryz.results134,go_sem,r0,r1,r2,r3,r4,r5]) rfl ⟨⟨a3,c3,a5,c5,rfl,⟨HI8.out.down (by have h1:=HW0.out;simpa using h1),HI9.out.down HW4.out,Hne.out⟩⟩,put6 HE8.out (by omega) _ _ _ _ _ _⟩
def opF (g:Gop) (a1:Option Addr) (n1 c1:Nat) (a2:Option Addr) (n2 c2:Nat):Nat->Value
 | 0=>.int .i64 g.kind
 | 1=>.int .i64 g.k
 | 2=>.slice a1 n1 c1
 | 3=>.int .i64 g.q
 | 4=>.int .i64 g.bit
 | _=>.slice a2 n2 c2
def putAt (W:World) (g p:Nat) (f:Nat->Value):World :=
 (((((W.setCell ⟨g,p,none⟩ (f 0)).setCell ⟨g,p+1,none⟩ (f 1)).setCell ⟨g,p+2,none⟩ (f 2)).setCell ⟨g,p+3,none⟩ (f 3)).setCell ⟨g,p+4,none⟩ (f 4)).setCell ⟨g,p+5,none⟩ (f 5)
theorem putAt_row {W:World} {g p:Nat} {cs:Array Value} {t:TypeId} (f:Nat->Value) (h:W.heap[g]?=some (.cells cs t (0,0))):(putAt W g p f).heap[g]?=some (.cells (set6 cs p f) t (0,0)) :=
 row_put (row_put (row_put (row_put (row_put (row_put h rfl) rfl) rfl) rfl) rfl) rfl
theorem putAt_only (W:World) (g p:Nat) (f:Nat->Value):Only g W (putAt W g p f):=((((((Only.refl _ _).setCell _ _).setCell _ _).setCell _ _).setCell _ _).setCell _ _).setCell _ _
theorem putAt_size (W:World) (g p:Nat) (f:Nat->Value):(putAt W g p f).heap.size=W.heap.size:=by simp [putAt]
structure Rvs (v:Value) (w w':World):Prop where
 os:w'.os=w.os
 tape:w'.tape=w.tape
 output:w'.output=w.output
 size:w'.heap.size=w.heap.size
 block:∀ k,v.ownBlock≠some k->w'.heap[k]?=w.heap[k]?
theorem Rvs.refl (v:Value) (w:World):Rvs v w w:=⟨rfl,rfl,rfl,rfl,fun _ _=>rfl⟩
theorem Rvs.of_only {g n c:Nat} {w w':World} (h:Only g w w'):Rvs (.slice (some ⟨g,0,none⟩) n c) w w':=⟨h.os,h.tape,h.output,h.size,fun k hk=>h.block k (fun e=>hk (by rw [e];rfl))⟩
theorem Rvs.ext {v:Value} {w0 w w':World} (h:Rvs v w w') (k:Ext w0 w) (hv:∀ i,v.ownBlock=some i->w0.heap.size<=i):Ext w0 w' :=
 Below.trans k ⟨h.os,h.tape,h.output,Nat.le_of_eq h.size.symm,fun i hi=>h.block i (fun e=>by have:=hv i e;omega)⟩
theorem CiB.rvs {v:Value} {w w':World} {g:Nat} {qb bi:Int} {ao:Option Addr} {n cp:Nat} (h:CiB w g qb bi ao n cp) (k:Rvs v w w') (hv:v.ownBlock≠some g):CiB w' g qb bi ao n cp:=⟨(k.block g hv).trans h.row⟩
theorem FtB.rvs {v:Value} {w w':World} {g:Nat} {x y:Int} (h:FtB w g x y) (k:Rvs v w w') (hv:v.ownBlock≠some g):FtB w' g x y:=⟨(k.block g hv).trans h.row⟩
theorem Only.drewn {g:Nat} {w w':World} (h:Only g w w'):Only g w w'.drew:=⟨h.os,h.tape,h.output,h.size,h.block⟩
theorem FtB.put {W:World} {g:Nat} {u v:Int} (h:FtB W g u v) (a b:Int):FtB ((W.setCell ⟨g,0,none⟩ (.int .i64 a)).setCell ⟨g,1,none⟩ (.int .i64 b)) g a b:=⟨row_put (row_put h.row rfl) rfl⟩
def putCF (W:World) (g gf:Nat) (q b:Int) (a:Option Addr) (n c:Nat) (u v:Int):World :=
 ((((W.setCell ⟨g,0,none⟩ (.int .i64 q)).setCell ⟨g,1,none⟩ (.int .i64 b)).setCell ⟨g,2,none⟩ (.slice a n c)).setCell ⟨gf,0,none⟩ (.int .i64 u)).setCell ⟨gf,1,none⟩ (.int .i64 v)
theorem putCF_C {W:World} {g gf:Nat} {q0 b0:Int} {a0:Option Addr} {n0 c0:Nat} (h:CiB W g q0 b0 a0 n0 c0) (hne:g≠gf) (q b:Int) (a:Option Addr) (n c:Nat) (u v:Int):CiB (putCF W g gf q b a n c u v) g q b a n c :=
 ⟨row_far (row_far (((h.set0 q).set1 b).set2 a n c).row (by omega)) (by omega)⟩
theorem putCF_F {W:World} {g gf:Nat} {u0 v0:Int} (h:FtB W gf u0 v0) (hne:g≠gf) (q b:Int) (a:Option Addr) (n c:Nat) (u v:Int):FtB (putCF W g gf q b a n c u v) gf u v :=
 ⟨row_put (row_put (row_far (row_far (row_far h.row (by omega)) (by omega)) (by omega)) rfl) rfl⟩
theorem putCF_ext {w W:World} {g gf:Nat} (h:Ext w W) (hg:w.heap.size<=g) (hf:w.heap.size<=gf) (q b:Int) (a:Option Addr) (n c:Nat) (u v:Int):Ext w (putCF W g gf q b a n c u v) :=
 cput (o:=1) (cput (o:=0) (cput (o:=2) (cput (o:=1) (cput (o:=0) h hg _) hg _) hg _) hf _) hf _
theorem CiB.drew {W:World} {g:Nat} {qb bi:Int} {ao:Option Addr} {n cp:Nat} (h:CiB W g qb bi ao n cp):CiB W.drew g qb bi ao n cp:=⟨h.row⟩
theorem FtB.drew {W:World} {g:Nat} {u v:Int} (h:FtB W g u v):FtB W.drew g u v:=⟨h.row⟩
end Go.Proofs.YtlechhmhmakgpaaGreatDoor
