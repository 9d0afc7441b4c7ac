/-
  A number of circuits turned: Turn. The mirror of a number of circuits: Conj. What every function that answers a number of circuits ends with; Neg. A number of circuits made of ints: Make. A number of circuits over the root of two: Half. The roots of one, and one over the root of two: Root, Rt. Texts are put together: what strings.Builder's writing methods do in this program, where a written builder is never copied. A row's length: how many parts there are up to the last that is not nought. A slice of bytes that grows: its block is its own and holds bytes alone; appending to it turns no word.
-/
import Derived.Lib.AppendStr
import Derived.Lib.ItoaMem
import Derived.Test.YtfjnlopbmkimiaaGreatDoorS17Ydq
namespace Go.Proofs.YtfjnlopbmkimiaaGreatDoor
set_option maxRecDepth 100000
set_option maxHeartbeats 4000000
open Go.RowKit
theorem Turn_nm (ca:Array Value) (x:Nm) (P E:Nat) (k:Int) (w:World) (h:NmA w ca x P E) (K:Nat) (hK:K<=4194304) (hP:P+3<=64*K) :
  Calls Tryz.prog 140 #[.agg ca,.int .i64 k] w fun e w'=>∃ cr:Array Value,e=.returned (.agg cr)/\NmA w' cr (nTr k x) P E/\Ext w w':=by
 obtain ⟨f,hf⟩:∃ f,nmF x=f:=⟨_,rfl⟩;have hv:=h.val;rw [hf] at hv
 have hF:∀ i,i<8->(f i).natAbs<=2 ^ P-1:=fun i hi=>by
  have:=nmF_abs h.abs i hi;rw [hf] at this;omega
 have hFit:∀ j,j<=8->∀ i,i<8->Fit K (trnN f k j i):=fun j hj i hi=>by
  have h1:=trnN_abs f k (2 ^ P-1) hF j hj i hi;have h2:j*(2 ^ P-1)<=8*(2 ^ P-1):=Nat.mul_le_mul_right _ hj;have h3:0<2 ^ P:=Nat.pow_pos (by decide);refine fit_pow (P:=P+3) ?_ hP;rw [Nat.pow_add];omega
 have hFf:∀ i,i<8->Fit K (f i):=fun i hi=>fit_pow (P:=P) (by have:=hF i hi;have h3:0<2 ^ P:=Nat.pow_pos (by decide);omega) (by omega)
 have hres:NmA w ca x P E:=h;have HF:=Lh hFit;have HFf:=Lh hFf;have HK:=Lh hK;have Hx:=Lh hres;have Hf:=Lh hf;obtain ⟨H,hH⟩:∃ H,w.heap.size=H:=⟨_,rfl⟩;obtain ⟨s8,a8,n8,c8,q0,q1,i8⟩:=hv.2 8 (by decide);have r0:((w.alloc (.cells ca 78)).alloc (.cells zero9 78)).heap[w.heap.size]?=some (.cells ca 78 (0,0)):=((Ext.alloc _ _).block _ (gS.1 (heap_alloc_new w (.cells ca 78))).1).trans (heap_alloc_new w _)
 have m16:((w.alloc (.cells ca 78)).alloc (.cells zero9 78)).cell? ⟨w.heap.size,16,none⟩=some (.int .i64 s8):=by rw [cell_of_row _ _ _ _ _ _ r0];exact q0
 have m17:((w.alloc (.cells ca 78)).alloc (.cells zero9 78)).cell? ⟨w.heap.size,17,none⟩=some (.slice a8 n8 c8):=by rw [cell_of_row _ _ _ _ _ _ r0];exact q1
 have r2:(((w.alloc (.cells ca 78)).alloc (.cells zero9 78)).alloc (.cells zero9 78)).heap[w.heap.size+1+1]?=some (.cells zero9 78 (0,0)):=by
  have:=heap_alloc_new ((w.alloc (.cells ca 78)).alloc (.cells zero9 78)) (.cells zero9 78)
  simpa using this
 have e0:Ext w (((w.alloc (.cells ca 78)).alloc (.cells zero9 78)).alloc (.cells zero9 78)):=((Ext.alloc _ _).trans (Ext.alloc _ _)).trans (Ext.alloc _ _)
 have hcl:CellsA (((w.alloc (.cells ca 78)).alloc (.cells zero9 78)).alloc (.cells zero9 78)) #[.int .i64 0,.slice none 0 0,.int .i64 0,.slice none 0 0,.int .i64 0,.slice none 0 0,.int .i64 0,.slice none 0 0,.int .i64 0,.slice none 0 0,.int .i64 0,.slice none 0 0,.int .i64 0,.slice none 0 0,.int .i64 0,.slice none 0 0,.int .i64 s8,.slice a8 n8 c8] 9 (trnN f k 0):=by
  refine ⟨rfl,fun i hi=>?_⟩
  by_cases e:i=8
  ·subst e;exact ⟨s8,a8,n8,c8,rfl,rfl,(i8.ext e0).cast (trnN_down f k 0).symm⟩
  ·refine ⟨0,none,0,0,?_,?_,(isInt_zero _).cast (by show 0=if i=8 then f 8 else 0;rw [if_neg e])⟩
   all_goals
    have e:i=0\/i=1\/i=2\/i=3\/i=4\/i=5\/i=6\/i=7:=by omega
    rcases e with rfl | rfl | rfl | rfl | rfl | rfl | rfl | rfl<;>rfl
 have z2:Nums (((w.alloc (.cells ca 78)).alloc (.cells zero9 78)).alloc (.cells zero9 78)) (w.heap.size+1+1) 9 78 (fun _=>0):=(cells_zero9 _).nums r2
 have z1:Nums (((w.alloc (.cells ca 78)).alloc (.cells zero9 78)).alloc (.cells zero9 78)) (w.heap.size+1) 9 78 (fun _=>0):=by
  have:=((cells_zero9 (w.alloc (.cells ca 78))).box 78).ext (Ext.alloc _ (.cells zero9 78))
  simpa using this
 have z0:Nums (((w.alloc (.cells ca 78)).alloc (.cells zero9 78)).alloc (.cells zero9 78)) w.heap.size 9 78 f:=(hv.box 78).ext ((Ext.alloc _ _).trans (Ext.alloc _ _));obtain ⟨n2,ch,_⟩:=hcl.setRow z2
 have Hst:=Lh (show Nums ((((w.alloc (.cells ca 78)).alloc (.cells zero9 78)).alloc (.cells zero9 78)).setRow (w.heap.size+1+1) #[.int .i64 0,.slice none 0 0,.int .i64 0,.slice none 0 0,.int .i64 0,.slice none 0 0,.int .i64 0,.slice none 0 0,.int .i64 0,.slice none 0 0,.int .i64 0,.slice none 0 0,.int .i64 0,.slice none 0 0,.int .i64 0,.slice none 0 0,.int .i64 s8,.slice a8 n8 c8]) (H+2) 9 78 (trnN f k 0)/\Nums ((((w.alloc (.cells ca 78)).alloc (.cells zero9 78)).alloc (.cells zero9 78)).setRow (w.heap.size+1+1) #[.int .i64 0,.slice none 0 0,.int .i64 0,.slice none 0 0,.int .i64 0,.slice none 0 0,.int .i64 0,.slice none 0 0,.int .i64 0,.slice none 0 0,.int .i64 0,.slice none 0 0,.int .i64 0,.slice none 0 0,.int .i64 0,.slice none 0 0,.int .i64 s8,.slice a8 n8 c8]) (H+1) 9 78 (fun _=>0)/\Nums ((((w.alloc (.cells ca 78)).alloc (.cells zero9 78)).alloc (.cells zero9 78)).setRow (w.heap.size+1+1) #[.int .i64 0,.slice none 0 0,.int .i64 0,.slice none 0 0,.int .i64 0,.slice none 0 0,.int .i64 0,.slice none 0 0,.int .i64 0,.slice none 0 0,.int .i64 0,.slice none 0 0,.int .i64 0,.slice none 0 0,.int .i64 0,.slice none 0 0,.int .i64 s8,.slice a8 n8 c8]) H 9 78 f/\Ext w ((((w.alloc (.cells ca 78)).alloc (.cells zero9 78)).alloc (.cells zero9 78)).setRow (w.heap.size+1+1) #[.int .i64 0,.slice none 0 0,.int .i64 0,.slice none 0 0,.int .i64 0,.slice none 0 0,.int .i64 0,.slice none 0 0,.int .i64 0,.slice none 0 0,.int .i64 0,.slice none 0 0,.int .i64 0,.slice none 0 0,.int .i64 0,.slice none 0 0,.int .i64 s8,.slice a8 n8 c8]) from
  ⟨hH ▸ n2,hH ▸ z1.chg ch (by omega),hH ▸ z0.chg ch (by omega),ch.ext e0 (by omega)⟩)
 have hone:=hcl.one;have HH:=Lh hH;clear hv hF hFit hFf hres h hK hP hH hf n2 ch z0 z1 z2 hcl e0 r0 q0 q1 i8
 go_enter Tryz.func140,Tryz.ntmps140
 go_wp2_with (refine wpList_store_row rfl 78 _ _ rfl (w.heap.size+1+1) #[.int .i64 0,.slice none 0 0,.int .i64 0,.slice none 0 0,.int .i64 0,.slice none 0 0,.int .i64 0,.slice none 0 0,.int .i64 0,.slice none 0 0,.int .i64 0,.slice none 0 0,.int .i64 0,.slice none 0 0,.int .i64 0,.slice none 0 0,.int .i64 s8,.slice a8 n8 c8] rfl rfl 78 _ r2 rnum_info rfl hone ?_)
 clear hone r2 m16 m17;generalize (((w.alloc (.cells ca 78)).alloc (.cells zero9 78)).alloc (.cells zero9 78)).setRow (w.heap.size+1+1) #[.int .i64 0,.slice none 0 0,.int .i64 0,.slice none 0 0,.int .i64 0,.slice none 0 0,.int .i64 0,.slice none 0 0,.int .i64 0,.slice none 0 0,.int .i64 0,.slice none 0 0,.int .i64 0,.slice none 0 0,.int .i64 0,.slice none 0 0,.int .i64 s8,.slice a8 n8 c8]=V at *;rw [HH.out]
 go_loopg [6,10] 8 (fun kk s6 s10 wr=>∃ j:Nat,s10=.int .i64 (j:Int)/\j<=8/\8-j=kk/\Nums wr (H+2) 9 78 (trnN f k j)/\Nums wr (H+1) 9 78 (fun _=>0)/\Nums wr H 9 78 f/\Ext w wr)
 case atStart=>exact ⟨0,rfl,by omega,by omega,Hst.out⟩
 case round =>
  clear Hst;obtain ⟨j,rfl,hj,hjk,hN,hZ,hA,hE⟩:=hrel;obtain ⟨wo,rfl⟩:∃ wo:World,wo=wr:=⟨_,rfl⟩
  by_cases hj8:j=8
  ·subst hj8
   obtain ⟨cr,hr,hc⟩:=hN.cells;obtain ⟨c1,hr1,hc1⟩:=hZ.cells;have hs:cr.size=18:=hc.1
   have hs1:c1.size=cr.size:=by rw [hs];exact hc1.1
   have hone:=hc.one
   have hinf:(Tryz.prog.info? 78).map (·.size)=some cr.size:=by rw [hs];exact rnum_info
   obtain ⟨nn,ch,rr⟩:=hc.setRow hZ
   have Hend:=Lh (show NmA (wo.setRow (H+1) cr) cr (nTr k x) P E/\Ext w (wo.setRow (H+1) cr) from by
    have hx:=Hx.out
    have he:ext8 (trnN f k 8)=(nTr k x).a:=by
     rw [ext8_trnN,<-Hf.out,ext8_nmF hx.anti];rfl
    refine ⟨⟨hx.anti.tr k,hx.low.tr k,fun i=>hx.abs (i-k),hx.down,(hc.keep64 ch.keep).congr fun i hi=>?_⟩,ch.ext hE (by rw [HH.out];omega)⟩;unfold nmF
    by_cases e:i=8
    ·rw [if_pos e,e,trnN_down f k,<-Hf.out];rfl
    ·rw [if_neg e,<-he,ext8_at _ _ (by omega) (by omega)];rfl)
   clear nn ch hc hc1 hN hZ hA hE Hx Hf HF HFf hs
   go_wp2_with (first
    | refine wpList_load_row rfl 78 _ rfl (H+2) rfl 78 _ (0,0) _ hr Tryz.underlying78 rfl hinf ?_
    | refine wpList_store_row rfl 78 _ _ rfl (H+1) cr rfl rfl 78 _ hr1 hinf hs1 hone ?_)
   refine bodyPost_ret (v:=.agg cr) ?_ rfl ⟨_,rfl,Hend.out⟩;exact results_cell_row rfl _ _ (H+1) _ _ _ _ rfl rr Tryz.underlying78 rfl hinf
  have hlt:j<8:=by omega
  have q1:(j:Int)<8:=by omega
  have q0:(0:Int)<=(j:Int):=by omega
  obtain ⟨s1,a1,n1,c1,y0,y1,_,_,hI1⟩:=hA.get j (by omega)
  have wk:IntKind.i64.wrap ((j:Int)+1)=((j+1:Nat):Int):=by rw [IntKind.wrap_i64];omega
  obtain ⟨kj,hkj⟩:∃ kj,IntKind.i64.wrap ((j:Int)+k)=kj:=⟨_,rfl⟩;have HAd:=Lh (rowAdd_any (H+2) 9 78 (trnN f k j) (kj) s1 a1 n1 c1 (f j) wo hN (by decide) hI1 K HK.out (HFf.out j hlt) (HF.out j hj));have Had:=Lh (show addN (trnN f k j) kj (f j)=trnN f k (j+1) from by rw [<-hkj,addN_wrap];rfl);have Hj1:=Lh (show j+1<=8 by omega);have HZ:=Lh hZ;have HA:=Lh hA;have HE:=Lh hE;have Hjk:=Lh hjk;clear hI1 hN hZ hA hE hjk hj8 hj hlt
  go_wp2_with fail
  refine HAd.out.mono ?_;rintro e w2 ⟨rfl,hN2,hC2⟩
  have Hend:=Lh (show Nums w2 (H+2) 9 78 (trnN f k (j+1))/\Nums w2 (H+1) 9 78 (fun _=>0)/\Nums w2 H 9 78 f/\Ext w w2 from
   ⟨Had.out ▸ hN2,HZ.out.chg hC2 (by omega),HA.out.chg hC2 (by omega),hC2.ext HE.out (by rw [HH.out];omega)⟩)
  clear hN2 hC2 HAd HZ HA HE y0 y1
  go_wp2_with fail
  go_roundg (8-(j+1))
  case measure=>have:=Hjk.out;have:=Hj1.out;omega
  case rel=>exact ⟨j+1,rfl,Hj1.out,rfl,Hend.out⟩
theorem Conj_nm (ca:Array Value) (x:Nm) (P E:Nat) (w:World) (h:NmA w ca x P E) (K:Nat) (hK:K<=4194304) (hP:P+3<=64*K) :
  Calls Tryz.prog 92 #[.agg ca] w fun e w'=>∃ cr:Array Value,e=.returned (.agg cr)/\NmA w' cr (nCj x) P E/\Ext w w':=by
 obtain ⟨f,hf⟩:∃ f,nmF x=f:=⟨_,rfl⟩;have hv:=h.val;rw [hf] at hv
 have hF:∀ i,i<8->(f i).natAbs<=2 ^ P-1:=fun i hi=>by
  have:=nmF_abs h.abs i hi;rw [hf] at this;omega
 have hFit:∀ j,j<=8->∀ i,i<8->Fit K (cjN f j i):=fun j hj i hi=>by
  have h1:=cjN_abs f (2 ^ P-1) hF j hj i hi;have h2:j*(2 ^ P-1)<=8*(2 ^ P-1):=Nat.mul_le_mul_right _ hj;have h3:0<2 ^ P:=Nat.pow_pos (by decide);refine fit_pow (P:=P+3) ?_ hP;rw [Nat.pow_add];omega
 have hFf:∀ i,i<8->Fit K (f i):=fun i hi=>fit_pow (P:=P) (by have:=hF i hi;have h3:0<2 ^ P:=Nat.pow_pos (by decide);omega) (by omega)
 have hres:NmA w ca x P E:=h;have HF:=Lh hFit;have HFf:=Lh hFf;have HK:=Lh hK;have Hx:=Lh hres;have Hf:=Lh hf;obtain ⟨H,hH⟩:∃ H,w.heap.size=H:=⟨_,rfl⟩;obtain ⟨s8,a8,n8,c8,q0,q1,i8⟩:=hv.2 8 (by decide);have r0:((w.alloc (.cells ca 78)).alloc (.cells zero9 78)).heap[w.heap.size]?=some (.cells ca 78 (0,0)):=((Ext.alloc _ _).block _ (gS.1 (heap_alloc_new w (.cells ca 78))).1).trans (heap_alloc_new w _)
 have m16:((w.alloc (.cells ca 78)).alloc (.cells zero9 78)).cell? ⟨w.heap.size,16,none⟩=some (.int .i64 s8):=by rw [cell_of_row _ _ _ _ _ _ r0];exact q0
 have m17:((w.alloc (.cells ca 78)).alloc (.cells zero9 78)).cell? ⟨w.heap.size,17,none⟩=some (.slice a8 n8 c8):=by rw [cell_of_row _ _ _ _ _ _ r0];exact q1
 have r2:(((w.alloc (.cells ca 78)).alloc (.cells zero9 78)).alloc (.cells zero9 78)).heap[w.heap.size+1+1]?=some (.cells zero9 78 (0,0)):=by
  have:=heap_alloc_new ((w.alloc (.cells ca 78)).alloc (.cells zero9 78)) (.cells zero9 78)
  simpa using this
 have e0:Ext w (((w.alloc (.cells ca 78)).alloc (.cells zero9 78)).alloc (.cells zero9 78)):=((Ext.alloc _ _).trans (Ext.alloc _ _)).trans (Ext.alloc _ _)
 have hcl:CellsA (((w.alloc (.cells ca 78)).alloc (.cells zero9 78)).alloc (.cells zero9 78)) #[.int .i64 0,.slice none 0 0,.int .i64 0,.slice none 0 0,.int .i64 0,.slice none 0 0,.int .i64 0,.slice none 0 0,.int .i64 0,.slice none 0 0,.int .i64 0,.slice none 0 0,.int .i64 0,.slice none 0 0,.int .i64 0,.slice none 0 0,.int .i64 s8,.slice a8 n8 c8] 9 (cjN f 0):=by
  refine ⟨rfl,fun i hi=>?_⟩
  by_cases e:i=8
  ·subst e;exact ⟨s8,a8,n8,c8,rfl,rfl,(i8.ext e0).cast (cjN_down f 0).symm⟩
  ·refine ⟨0,none,0,0,?_,?_,(isInt_zero _).cast (by show 0=if i=8 then f 8 else 0;rw [if_neg e])⟩
   all_goals
    have e:i=0\/i=1\/i=2\/i=3\/i=4\/i=5\/i=6\/i=7:=by omega
    rcases e with rfl | rfl | rfl | rfl | rfl | rfl | rfl | rfl<;>rfl
 have z2:Nums (((w.alloc (.cells ca 78)).alloc (.cells zero9 78)).alloc (.cells zero9 78)) (w.heap.size+1+1) 9 78 (fun _=>0):=(cells_zero9 _).nums r2
 have z1:Nums (((w.alloc (.cells ca 78)).alloc (.cells zero9 78)).alloc (.cells zero9 78)) (w.heap.size+1) 9 78 (fun _=>0):=by
  have:=((cells_zero9 (w.alloc (.cells ca 78))).box 78).ext (Ext.alloc _ (.cells zero9 78))
  simpa using this
 have z0:Nums (((w.alloc (.cells ca 78)).alloc (.cells zero9 78)).alloc (.cells zero9 78)) w.heap.size 9 78 f:=(hv.box 78).ext ((Ext.alloc _ _).trans (Ext.alloc _ _));obtain ⟨n2,ch,_⟩:=hcl.setRow z2
 have Hst:=Lh (show Nums ((((w.alloc (.cells ca 78)).alloc (.cells zero9 78)).alloc (.cells zero9 78)).setRow (w.heap.size+1+1) #[.int .i64 0,.slice none 0 0,.int .i64 0,.slice none 0 0,.int .i64 0,.slice none 0 0,.int .i64 0,.slice none 0 0,.int .i64 0,.slice none 0 0,.int .i64 0,.slice none 0 0,.int .i64 0,.slice none 0 0,.int .i64 0,.slice none 0 0,.int .i64 s8,.slice a8 n8 c8]) (H+2) 9 78 (cjN f 0)/\Nums ((((w.alloc (.cells ca 78)).alloc (.cells zero9 78)).alloc (.cells zero9 78)).setRow (w.heap.size+1+1) #[.int .i64 0,.slice none 0 0,.int .i64 0,.slice none 0 0,.int .i64 0,.slice none 0 0,.int .i64 0,.slice none 0 0,.int .i64 0,.slice none 0 0,.int .i64 0,.slice none 0 0,.int .i64 0,.slice none 0 0,.int .i64 0,.slice none 0 0,.int .i64 s8,.slice a8 n8 c8]) (H+1) 9 78 (fun _=>0)/\Nums ((((w.alloc (.cells ca 78)).alloc (.cells zero9 78)).alloc (.cells zero9 78)).setRow (w.heap.size+1+1) #[.int .i64 0,.slice none 0 0,.int .i64 0,.slice none 0 0,.int .i64 0,.slice none 0 0,.int .i64 0,.slice none 0 0,.int .i64 0,.slice none 0 0,.int .i64 0,.slice none 0 0,.int .i64 0,.slice none 0 0,.int .i64 0,.slice none 0 0,.int .i64 s8,.slice a8 n8 c8]) H 9 78 f/\Ext w ((((w.alloc (.cells ca 78)).alloc (.cells zero9 78)).alloc (.cells zero9 78)).setRow (w.heap.size+1+1) #[.int .i64 0,.slice none 0 0,.int .i64 0,.slice none 0 0,.int .i64 0,.slice none 0 0,.int .i64 0,.slice none 0 0,.int .i64 0,.slice none 0 0,.int .i64 0,.slice none 0 0,.int .i64 0,.slice none 0 0,.int .i64 0,.slice none 0 0,.int .i64 s8,.slice a8 n8 c8]) from
  ⟨hH ▸ n2,hH ▸ z1.chg ch (by omega),hH ▸ z0.chg ch (by omega),ch.ext e0 (by omega)⟩)
 have hone:=hcl.one;have HH:=Lh hH;clear hv hF hFit hFf hres h hK hP hH hf n2 ch z0 z1 z2 hcl e0 r0 q0 q1 i8
 go_enter Tryz.func92,Tryz.ntmps92
 go_wp2_with (refine wpList_store_row rfl 78 _ _ rfl (w.heap.size+1+1) #[.int .i64 0,.slice none 0 0,.int .i64 0,.slice none 0 0,.int .i64 0,.slice none 0 0,.int .i64 0,.slice none 0 0,.int .i64 0,.slice none 0 0,.int .i64 0,.slice none 0 0,.int .i64 0,.slice none 0 0,.int .i64 0,.slice none 0 0,.int .i64 s8,.slice a8 n8 c8] rfl rfl 78 _ r2 rnum_info rfl hone ?_)
 clear hone r2 m16 m17;generalize (((w.alloc (.cells ca 78)).alloc (.cells zero9 78)).alloc (.cells zero9 78)).setRow (w.heap.size+1+1) #[.int .i64 0,.slice none 0 0,.int .i64 0,.slice none 0 0,.int .i64 0,.slice none 0 0,.int .i64 0,.slice none 0 0,.int .i64 0,.slice none 0 0,.int .i64 0,.slice none 0 0,.int .i64 0,.slice none 0 0,.int .i64 0,.slice none 0 0,.int .i64 s8,.slice a8 n8 c8]=V at *;rw [HH.out]
 go_loopg [4,8] 8 (fun kk s4 s8 wr=>∃ j:Nat,s8=.int .i64 (j:Int)/\j<=8/\8-j=kk/\Nums wr (H+2) 9 78 (cjN f j)/\Nums wr (H+1) 9 78 (fun _=>0)/\Nums wr H 9 78 f/\Ext w wr)
 case atStart=>exact ⟨0,rfl,by omega,by omega,Hst.out⟩
 case round =>
  clear Hst;obtain ⟨j,rfl,hj,hjk,hN,hZ,hA,hE⟩:=hrel;obtain ⟨wo,rfl⟩:∃ wo:World,wo=wr:=⟨_,rfl⟩
  by_cases hj8:j=8
  ·subst hj8
   obtain ⟨cr,hr,hc⟩:=hN.cells;obtain ⟨c1,hr1,hc1⟩:=hZ.cells;have hs:cr.size=18:=hc.1
   have hs1:c1.size=cr.size:=by rw [hs];exact hc1.1
   have hone:=hc.one
   have hinf:(Tryz.prog.info? 78).map (·.size)=some cr.size:=by rw [hs];exact rnum_info
   obtain ⟨nn,ch,rr⟩:=hc.setRow hZ
   have Hend:=Lh (show NmA (wo.setRow (H+1) cr) cr (nCj x) P E/\Ext w (wo.setRow (H+1) cr) from by
    have hx:=Hx.out
    have he:ext8 (cjN f 8)=(nCj x).a:=by
     rw [ext8_cjN,<-Hf.out,ext8_nmF hx.anti];rfl
    refine ⟨⟨hx.anti.cj,hx.low.cj,fun i=>hx.abs (-i),hx.down,(hc.keep64 ch.keep).congr fun i hi=>?_⟩,ch.ext hE (by rw [HH.out];omega)⟩;unfold nmF
    by_cases e:i=8
    ·rw [if_pos e,e,cjN_down f,<-Hf.out];rfl
    ·rw [if_neg e,<-he,ext8_at _ _ (by omega) (by omega)];rfl)
   clear nn ch hc hc1 hN hZ hA hE Hx Hf HF HFf hs
   go_wp2_with (first
    | refine wpList_load_row rfl 78 _ rfl (H+2) rfl 78 _ (0,0) _ hr Tryz.underlying78 rfl hinf ?_
    | refine wpList_store_row rfl 78 _ _ rfl (H+1) cr rfl rfl 78 _ hr1 hinf hs1 hone ?_)
   refine bodyPost_ret (v:=.agg cr) ?_ rfl ⟨_,rfl,Hend.out⟩;exact results_cell_row rfl _ _ (H+1) _ _ _ _ rfl rr Tryz.underlying78 rfl hinf
  have hlt:j<8:=by omega
  have q1:(j:Int)<8:=by omega
  have q0:(0:Int)<=(j:Int):=by omega
  obtain ⟨s1,a1,n1,c1,y0,y1,_,_,hI1⟩:=hA.get j (by omega)
  have wk:IntKind.i64.wrap ((j:Int)+1)=((j+1:Nat):Int):=by rw [IntKind.wrap_i64];omega
  have wn:IntKind.i64.wrap (-(j:Int))=-(j:Int):=by rw [IntKind.wrap_i64];omega
  have HAd:=Lh (rowAdd_any (H+2) 9 78 (cjN f j) (-(j:Int)) s1 a1 n1 c1 (f j) wo hN (by decide) hI1 K HK.out (HFf.out j hlt) (HF.out j hj));have Had:=Lh (show addN (cjN f j) (-(j:Int)) (f j)=cjN f (j+1) from rfl);have Hj1:=Lh (show j+1<=8 by omega);have HZ:=Lh hZ;have HA:=Lh hA;have HE:=Lh hE;have Hjk:=Lh hjk;clear hI1 hN hZ hA hE hjk hj8 hj hlt
  go_wp2_with fail
  refine HAd.out.mono ?_;rintro e w2 ⟨rfl,hN2,hC2⟩
  have Hend:=Lh (show Nums w2 (H+2) 9 78 (cjN f (j+1))/\Nums w2 (H+1) 9 78 (fun _=>0)/\Nums w2 H 9 78 f/\Ext w w2 from
   ⟨Had.out ▸ hN2,HZ.out.chg hC2 (by omega),HA.out.chg hC2 (by omega),hC2.ext HE.out (by rw [HH.out];omega)⟩)
  clear hN2 hC2 HAd HZ HA HE y0 y1
  go_wp2_with fail
  go_roundg (8-(j+1))
  case measure=>have:=Hjk.out;have:=Hj1.out;omega
  case rel=>exact ⟨j+1,rfl,Hj1.out,rfl,Hend.out⟩
theorem fin_num {w w1:World} {cr:Array Value} {y:Nm} {P E g:Nat} {fz:Nat->Int} (hcr:NmA w1 cr y P E) (hz:Nums w1 g 9 78 fz) (hE:Ext w w1) (hg:w.heap.size<=g) :
  ∃ c1,w1.heap[g]?=some (.cells c1 78 (0,0))/\c1.size=cr.size/\cr.all (·.oneCell')=true/\(Tryz.prog.info? 78).map (·.size)=some cr.size/\(w1.setRow g cr).heap[g]?=some (.cells cr 78 (0,0))/\NmA (w1.setRow g cr) cr y P E/\Ext w (w1.setRow g cr):=by
 obtain ⟨c1,hr1,hc1⟩:=hz.cells;have hs:cr.size=18:=hcr.val.1;obtain ⟨nn,ch,rr⟩:=hcr.val.setRow hz;exact ⟨c1,hr1,by rw [hs];exact hc1.1,hcr.val.one,by rw [hs];exact rnum_info,rr,hcr.keep64 ch.keep,ch.ext hE hg⟩
theorem NmA.size {w:World} {cs:Array Value} {x:Nm} {P E:Nat} (h:NmA w cs x P E):cs.size=18:=h.val.1
theorem NmA.info {w:World} {cs:Array Value} {x:Nm} {P E:Nat} (h:NmA w cs x P E):(Tryz.prog.info? 78).map (·.size)=some cs.size:=by rw [h.size];exact rnum_info
theorem NmA.le {w:World} {cs:Array Value} {x:Nm} {P E P' E':Nat} (h:NmA w cs x P E) (hP:P<=P') (hE:E<=E'):NmA w cs x P' E' :=
 ⟨h.anti,h.low,fun k=>Nat.lt_of_lt_of_le (h.abs k) (Nat.pow_le_pow_right (by decide) hP),Nat.le_trans h.down hE,h.val⟩
theorem RNeg_nm (ca:Array Value) (x:Nm) (P E:Nat) (w:World) (h:NmA w ca x P E) (K:Nat) (hK:K<=4194304) (hP:P+3<=64*K) :
  Calls Tryz.prog 161 #[.agg ca] w fun e w'=>∃ cr:Array Value,e=.returned (.agg cr)/\NmA w' cr (nNeg x) P E/\Ext w w':=by
 obtain ⟨H,hH⟩:∃ H,w.heap.size=H:=⟨_,rfl⟩;obtain ⟨U,hU⟩:∃ U,(w.alloc (.cells ca 78)).alloc (.cells zero9 78)=U:=⟨_,rfl⟩
 have E0:Ext w U:=by rw [<-hU];exact (Ext.alloc _ _).trans (Ext.alloc _ _)
 have hrA:((w.alloc (.cells ca 78)).alloc (.cells zero9 78)).heap[w.heap.size]?=some (.cells ca 78 (0,0)):=((Ext.alloc _ _).block _ (gS.1 (heap_alloc_new w (.cells ca 78))).1).trans (heap_alloc_new w _)
 have Z0:Nums U (H+1) 9 78 (fun _=>0):=by
  have:=(cells_zero9 (w.alloc (.cells ca 78))).box 78;rw [<-hU,<-hH]
  simpa using this
 have hinf0:=h.info;have HT:=Lh (Turn_nm ca x P E 8 U (h.ext E0) K hK hP);have hn:=nNeg_tr h.anti;rw [hn] at HT;have HU:=Lh hU;have HH:=Lh hH;have HE0:=Lh E0;have HZ0:=Lh Z0;clear hU hH Z0 E0 h hn hK hP
 go_enter Tryz.func161,Tryz.ntmps161
 go_wp2_with (refine wpList_load_row rfl 78 _ rfl w.heap.size rfl 78 _ (0,0) _ hrA Tryz.underlying78 rfl hinf0 ?_)
 rw [HU.out,HH.out];refine HT.out.mono ?_;rintro e w1 ⟨cr,rfl,hcr,hx1⟩;obtain ⟨c1,hr1,hs1,hone,hinf,rr,hnm,hE'⟩:=fin_num hcr (HZ0.out.ext hx1) (HE0.out.trans hx1) (by rw [HH.out];omega);have Hend:=Lh (And.intro hnm hE');clear hnm hE' hcr hx1 HT HU HH HE0 HZ0 hrA
 go_wp2_with (refine wpList_store_row rfl 78 _ _ rfl (H+1) cr rfl rfl 78 _ hr1 hinf hs1 hone ?_)
 refine bodyPost_ret (v:=.agg cr) ?_ rfl ⟨_,rfl,Hend.out⟩;exact results_cell_row rfl _ _ (H+1) _ _ _ _ rfl rr Tryz.underlying78 rfl hinf
theorem fault_info:(Tryz.prog.info? 31).map (·.size)=some 2:=by kernel_rfl
theorem fault_one (a b:Int):(#[.int .i64 a,.int .i64 b]:Array Value).all (·.oneCell')=true:=by simp [Value.oneCell']
theorem Half_nm (ca:Array Value) (x:Nm) (P E:Nat) (w:World) (h:NmA w ca x P E) (K:Nat) (hK:K<=4194304) (hP:P+4<=64*K) (hE:E+1<=1099511627776) (hbr:Bru w) :
  Calls Tryz.prog 142 #[.agg ca] w fun e w'=>∃ (cr:Array Value) (y:Nm),e=.returned (.agg cr)/\NmA w' cr y (P+4) (E+1)/\EqN y (nHf x)/\Ext w w':=by
 have hK1:1<=K:=by omega
 obtain ⟨f,hf⟩:∃ f,nmF x=f:=⟨_,rfl⟩;have hv:=h.val;rw [hf] at hv;have h3:0<2 ^ P:=Nat.pow_pos (by decide)
 have hF:∀ i,i<8->(f i).natAbs<=2 ^ P-1:=fun i hi=>by
  have:=nmF_abs h.abs i hi;rw [hf] at this;omega
 have hB:∀ j,j<=8->∀ i,i<8->(hfN f j i).natAbs<2 ^ (P+4):=fun j hj i hi=>by
  have h1:=hfN_abs f (2 ^ P-1) hF j hj i hi;have h2:j*((2 ^ P-1)+(2 ^ P-1))<=8*((2 ^ P-1)+(2 ^ P-1)):=Nat.mul_le_mul_right _ hj;rw [Nat.pow_add];omega
 have hB2:∀ j,j<8->∀ i,i<8->(addN (hfN f j) (j+2) (f j) i).natAbs<2 ^ (P+4):=fun j hj i hi=>by
  have h1:=addN_abs (hfN f j) (j+2) (f j) (j*((2 ^ P-1)+(2 ^ P-1))) (2 ^ P-1) (hfN_abs f (2 ^ P-1) hF j (by omega)) (hF j hj) i hi;have h2:j*((2 ^ P-1)+(2 ^ P-1))<=7*((2 ^ P-1)+(2 ^ P-1)):=Nat.mul_le_mul_right _ (by omega);rw [Nat.pow_add];omega
 have HB:=Lh hB;have HK:=Lh hK;have HK1:=Lh hK1;have Hx:=Lh h;have Hf:=Lh hf;have HP:=Lh hP;have HEE:=Lh hE;have HF:=Lh (show ∀ j,j<=8->∀ i,i<8->Fit K (hfN f j i) from fun j hj i hi=>fit_pow (hB j hj i hi) hP);have HF2:=Lh (show ∀ j,j<8->∀ i,i<8->Fit K (addN (hfN f j) (j+2) (f j) i) from fun j hj i hi=>fit_pow (hB2 j hj i hi) hP);have HFf:=Lh (show ∀ i,i<8->Fit K (f i) from fun i hi=>fit_pow (P:=P) (by have:=hF i hi;omega) (by omega));obtain ⟨H,hH⟩:∃ H,w.heap.size=H:=⟨_,rfl⟩;obtain ⟨U,hU⟩:∃ U,(((w.alloc (.cells ca 78)).alloc (.cells zero9 78)).alloc (.cells zero8 76))=U:=⟨_,rfl⟩
 have E0:Ext w U:=by rw [<-hU];exact ((Ext.alloc _ _).trans (Ext.alloc _ _)).trans (Ext.alloc _ _)
 have N0:Nums U H 9 78 f:=by rw [<-hU,<-hH];exact (hv.box 78).ext ((Ext.alloc _ _).trans (Ext.alloc _ _))
 have Z0:Nums U (H+1) 9 78 (fun _=>0):=by
  have:=((cells_zero9 (w.alloc (.cells ca 78))).box 78).ext (Ext.alloc _ (.cells zero8 76));rw [<-hU,<-hH]
  simpa using this
 have R0:Nums U (H+2) 8 76 (hfN f 0):=by
  have:=(cells_zero8 ((w.alloc (.cells ca 78)).alloc (.cells zero9 78))).box 76;rw [<-hU,<-hH,show hfN f 0=fun _=>0 from rfl]
  simpa using this
 have HU:=Lh hU;have HH:=Lh hH;have Hst:=Lh (show Nums U (H+2) 8 76 (hfN f 0)/\Nums U (H+1) 9 78 (fun _=>0)/\Nums U H 9 78 f/\Ext w U from ⟨R0,Z0,N0,E0⟩);have Hbr:=Lh hbr;clear hU hH R0 Z0 N0 E0 hbr hF hB hB2 hv h hf hK hK1 hP hE h3
 go_enter Tryz.func142,Tryz.ntmps142
 go_wp2_with fail
 rw [HU.out,HH.out];clear HU
 go_loopg [4,5] 8 (fun kk s4 s5 wr=>∃ j:Nat,s5=.int .i64 (j:Int)/\j<=8/\8-j=kk/\Nums wr (H+2) 8 76 (hfN f j)/\Nums wr (H+1) 9 78 (fun _=>0)/\Nums wr H 9 78 f/\Ext w wr)
 case atStart=>exact ⟨0,rfl,by omega,by omega,Hst.out⟩
 case round =>
  clear Hst;obtain ⟨j,rfl,hj,hjk,hN,hZ,hA,hE⟩:=hrel;obtain ⟨wo,rfl⟩:∃ wo:World,wo=wr:=⟨_,rfl⟩
  by_cases hj8:j=8
  ·subst hj8
   obtain ⟨cq,hrq,hcq⟩:=hN.cells
   have hinfq:(Tryz.prog.info? 76).map (·.size)=some cq.size:=by rw [hcq.1];exact rrow_info
   obtain ⟨s8,a8,n8,c8,l16,l17,_,_,hI8⟩:=hA.get 8 (by decide)
   have hf8:f 8=((x.e:Nat):Int):=by rw [<-Hf.out];rfl
   rw [hf8] at hI8;have lq:=hN.lt;have lH:=hA.lt;have HOf:=Lh (fun wx=>Of_any 1 (by decide) (by decide) wx);have HAd:=Lh (fun (wx:World) (hx:Ext wo wx) (i1:IsInt wx 1 none 0 0 1)=>Add_any s8 1 a8 none n8 c8 0 0 ((x.e:Nat):Int) 1 wx (hI8.ext hx) i1 K HK.out (fit_small (z:=((x.e:Nat):Int)) (by have:=Hx.out.down;have:=HEE.out;omega) HK1.out) (fit_small (z:=1) (by decide) HK1.out));have HLo:=Lh (fun (wx:World) (hx:Ext wo wx) (s9:Int) (a9:Option Addr) (n9 c9:Nat) (i9:IsInt wx s9 a9 n9 c9 (((x.e:Nat):Int)+1))=>rlowest_any cq s9 a9 n9 c9 (hfN f 8) (x.e+1) wx (hcq.ext hx) (i9.cast (by omega)) K (P+4) (E+1) HK.out HK1.out HP.out HEE.out (HB.out 8 (by decide)) (by have:=Hx.out.down;omega) (bru_ext Hbr.out (hE.trans hx)));have HZ:=Lh hZ;have HE:=Lh hE;clear hI8 hf8 hcq hN hA hZ hE HB HF HF2 HFf
   go_upto_region 8 with fail
   have hd0:Ext wo wo.drew:=Below.drew (Ext.refl _);refine wp_region_K 6 (fun w'=>w'.heap[H+2]?=some (.cells cq 76 (0,0))/\w'.cell? ⟨H,16,none⟩=some (.int .i64 s8)/\w'.cell? ⟨H,17,none⟩=some (.slice a8 n8 c8)) (by kernel_rfl) ?_
   show anyK _ _ _ _ _ _ 7 #[false,false,false,false,false,false,false] _ _
   have hHeld:wo.drew.heap[H+2]?=some (.cells cq 76 (0,0))/\wo.drew.cell? ⟨H,16,none⟩=some (.int .i64 s8)/\wo.drew.cell? ⟨H,17,none⟩=some (.slice a8 n8 c8):=⟨(hd0.block _ lq).trans hrq,cellKeep hd0 lH l16,cellKeep hd0 lH l17⟩;refine kT 0 7 (v:=.agg cq) rfl (Or.inl ⟨by rfl,?_⟩) hHeld ?_
   ·intro w hSw
    exact exec_load_row 76 _ rfl (H+2) rfl 76 _ (0,0) _ hSw.1 Tryz.underlying76 rfl hinfq
   show anyK _ _ _ _ _ _ _ _ (Act.put _ (some 23) _) _
   simp only [Act.put,sx0,sx1,sx2];refine kT 1 7 (v:=?_) rfl (Or.inl ⟨by rfl,?_⟩) hHeld ?_;rotate_left 1
   ·intro w hSw
    go_simp
    try with_reducible rfl
   show anyK _ _ _ _ _ _ _ _ (Act.put _ (some 24) _) _
   simp only [Act.put,sx0,sx1,sx2];refine kT 2 7 (v:=?_) rfl (Or.inl ⟨by rfl,?_⟩) hHeld ?_;rotate_left 1
   ·intro w hSw
    go_simp
    try with_reducible rfl
   show anyK _ _ _ _ _ _ _ _ (Act.put _ (some 25) _) _
   simp only [Act.put,sx0,sx1,sx2];clear hHeld;refine anyK_one (i:=3) (by kernel_rfl) rfl (fun Kk hKk=>?_)
   go_simp
   (go_at_call 130;refine (HOf.out _).mono ?_;rintro e w1 ⟨rfl,i1,hxx⟩)
   have he1:=hd0.trans hxx
   go_wp2_with fail
   refine hKk.out _ _ (fun _=>⟨(he1.block _ lq).trans hrq,cellKeep he1 lH l16,cellKeep he1 lH l17⟩) ?_;clear hKk Kk hxx;simp only [sx0,sx1,sx2];refine anyK_one (i:=4) (by kernel_rfl) rfl (fun Kk hKk=>?_)
   go_simp
   (go_at_call 125;refine (HAd.out w1 he1 i1).mono ?_;rintro e w2 ⟨s9,a9,n9,c9,rfl,i9,hxx⟩)
   have he2:=he1.trans hxx
   go_wp2_with fail
   refine hKk.out _ _ (fun _=>⟨(he2.block _ lq).trans hrq,cellKeep he2 lH l16,cellKeep he2 lH l17⟩) ?_;clear hKk Kk hxx;simp only [sx0,sx1,sx2];refine anyK_one (i:=5) (by kernel_rfl) rfl (fun Kk hKk=>?_)
   go_simp
   (go_at_call 90;refine (HLo.out w2 he2 s9 a9 n9 c9 i9).mono ?_;rintro e w3 ⟨cr,y,rfl,hcr,hy,hxx⟩)
   have he3:=he2.trans hxx
   go_wp2_with fail
   refine hKk.out _ _ (fun _=>⟨(he3.block _ lq).trans hrq,cellKeep he3 lH l16,cellKeep he3 lH l17⟩) ?_;clear hKk Kk hxx;simp only [sx0,sx1,sx2];obtain ⟨c1,hr1,hs1,hone,hinf,rr,hnm,hE'⟩:=fin_num hcr (HZ.out.ext he3) (HE.out.trans he3) (by rw [HH.out];omega)
   have heq:EqN y (nHf x):=by
    have e1:ext8 (hfN f 8)=addR (trR 2 x.a) (trR (-2) x.a):=by rw [ext8_hfN,<-Hf.out,ext8_nmF Hx.out.anti]
    rw [e1] at hy;exact hy
   have Hend:=Lh (show NmA (w3.setRow (H+1) cr) cr y (P+4) (E+1)/\EqN y (nHf x)/\Ext w (w3.setRow (H+1) cr) from ⟨hnm,heq,hE'⟩);clear hnm heq hE' hcr hy;refine anyK_one (i:=6) (by kernel_rfl) rfl (fun Kk hKk=>?_);refine stepK_storeR rfl rfl 78 _ _ rfl (H+1) cr rfl rfl 78 _ hr1 hinf hs1 hone ?_;refine hKk.out _ _ (fun h=>Bool.noConfusion (show true=false from h)) ?_;clear hKk Kk;simp only [sx0,sx1,sx2];refine anyK_done (by kernel_rfl) ?_ _
   go_wp2_with fail
   refine bodyPost_ret (v:=.agg cr) ?_ rfl ⟨_,_,rfl,Hend.out⟩;exact results_cell_row rfl _ _ (H+1) _ _ _ _ rfl rr Tryz.underlying78 rfl hinf
  have hlt:j<8:=by omega
  have q1:(j:Int)<8:=by omega
  have q0:(0:Int)<=(j:Int):=by omega
  obtain ⟨s1,a1,n1,c1,y0,y1,_,_,hI1⟩:=hA.get j (by omega)
  have wk:IntKind.i64.wrap ((j:Int)+1)=((j+1:Nat):Int):=by rw [IntKind.wrap_i64];omega
  have wk2:IntKind.i64.wrap ((j:Int)+2)=(j:Int)+2:=by rw [IntKind.wrap_i64];omega
  have wk3:IntKind.i64.wrap ((j:Int)-2)=(j:Int)-2:=by rw [IntKind.wrap_i64];omega
  have HAd:=Lh (rowAdd_any (H+2) 8 76 (hfN f j) ((j:Int)+2) s1 a1 n1 c1 (f j) wo hN (by decide) hI1 K HK.out (HFf.out j hlt) (HF.out j hj));have Hj1:=Lh (show j+1<=8 by omega);have HZ:=Lh hZ;have HA:=Lh hA;have HE:=Lh hE;have Hjk:=Lh hjk;have HI1:=Lh hI1;have Hlt:=Lh hlt;clear hI1 hN hZ hA hE hjk hj8 hj hlt
  go_wp2_with fail
  refine HAd.out.mono ?_;rintro e w2 ⟨rfl,hN2,hC2⟩;have HZ2:=Lh (HZ.out.chg hC2 (by omega));have HA2:=Lh (HA.out.chg hC2 (by omega));have HE2:=Lh (hC2.ext HE.out (by rw [HH.out];omega));have HI2:=Lh (HI1.out.keep64 hC2.keep);have lA:=HA.out.lt
  have z0:w2.cell? ⟨H,j*2,none⟩=some (.int .i64 s1):=by
   have hb:=hC2.block H (by omega) lA;simp only [World.cell?] at y0 ⊢;rw [hb];exact y0
  have z1:w2.cell? ⟨H,j*2+1,none⟩=some (.slice a1 n1 c1):=by
   have hb:=hC2.block H (by omega) lA;simp only [World.cell?] at y1 ⊢;rw [hb];exact y1
  have HAd2:=Lh (rowAdd_any (H+2) 8 76 _ ((j:Int)-2) s1 a1 n1 c1 (f j) w2 hN2 (by decide) HI2.out K HK.out (HFf.out j Hlt.out) (HF2.out j Hlt.out));clear hN2 hC2 HAd HZ HA HE y0 y1 HI1 lA HI2
  go_wp2_with fail
  refine HAd2.out.mono ?_;rintro e w3 ⟨rfl,hN3,hC3⟩
  have Hend:=Lh (show Nums w3 (H+2) 8 76 (hfN f (j+1))/\Nums w3 (H+1) 9 78 (fun _=>0)/\Nums w3 H 9 78 f/\Ext w w3 from
   ⟨hN3,HZ2.out.chg hC3 (by omega),HA2.out.chg hC3 (by omega),hC3.ext HE2.out (by rw [HH.out];omega)⟩)
  clear hN3 hC3 HAd2 HZ2 HA2 HE2 z0 z1
  go_wp2_with fail
  go_roundg (8-(j+1))
  case measure=>have:=Hjk.out;have:=Hj1.out;omega
  case rel=>exact ⟨j+1,rfl,Hj1.out,rfl,Hend.out⟩
theorem RRoot_nm (k:Int) (w:World) :
  Calls Tryz.prog 116 #[.int .i64 k] w fun e w'=>∃ cr:Array Value,e=.returned (.agg cr)/\NmA w' cr (nTr k nOne) 1 0/\Ext w w':=by
 obtain ⟨H,hH⟩:∃ H,w.heap.size=H:=⟨_,rfl⟩;obtain ⟨U,hU⟩:∃ U,w.alloc (.cells zero9 78)=U:=⟨_,rfl⟩
 have E0:Ext w U:=by rw [<-hU];exact Ext.alloc _ _
 have Z0:Nums U H 9 78 (fun _=>0):=by rw [<-hU,<-hH];exact (cells_zero9 w).box 78
 have HU:=Lh hU;have HH:=Lh hH;have HZ0:=Lh Z0;have HE0:=Lh E0;clear hU hH Z0 E0
 go_enter Tryz.func116,Tryz.ntmps116
 go_wp2_with fail
 rw [HU.out,HH.out];clear HU;refine (Of_any 1 (by decide) (by decide) U).mono ?_;rintro e w1 ⟨rfl,i1,hx1⟩
 go_wp2_with fail
 refine (ROf_nm 1 none 0 0 1 1 0 w1 i1 (by decide)).mono ?_;rintro e w2 ⟨co,rfl,ho,hx2⟩;rw [nOf_one] at ho;have he2:=hx1.trans hx2;clear i1 hx1 hx2
 go_wp2_with fail
 refine (Turn_nm co nOne 1 0 k w2 ho 1 (by decide) (by decide)).mono ?_;rintro e w3 ⟨cr,rfl,hcr,hx3⟩;have he3:=he2.trans hx3;obtain ⟨c1,hr1,hs1,hone,hinf,rr,hnm,hE'⟩:=fin_num hcr (HZ0.out.ext he3) (HE0.out.trans he3) (by rw [HH.out];omega);have Hend:=Lh (And.intro hnm hE');clear hnm hE' hcr hx3 he3 he2 ho HZ0 HE0
 go_wp2_with (refine wpList_store_row rfl 78 _ _ rfl H cr rfl rfl 78 _ hr1 hinf hs1 hone ?_)
 refine bodyPost_ret (v:=.agg cr) ?_ rfl ⟨_,rfl,Hend.out⟩;exact results_cell_row rfl _ _ H _ _ _ _ rfl rr Tryz.underlying78 rfl hinf
theorem byte_info:(Tryz.prog.info? 5).map (fun i=>(i.zero,i.size,i.bytes))=some (some (.int .u8 0),1,1):=by kernel_rfl
theorem bld_size:(Tryz.prog.info? 110).map (·.size)=some 2:=by kernel_rfl
theorem bld_lies:liesAt Tryz.prog Tryz.prog.depth 110 (2 / Tryz.prog.cellsOf 110) 0 110 1=true:=by kernel_rfl
abbrev Bld (w:World) (b:Nat) (bs:List Value):Prop:=Lib.IsBuilderF 110 5 b b bs w
structure Wrt (b:Nat) (w w':World):Prop where
 low:Below b w w'
 oth:Lib.OthersKept 5 (some b) w w'
theorem Wrt.refl (b:Nat) (w:World):Wrt b w w:=⟨Below.refl b w,Lib.OthersKept.refl _ _ w⟩
theorem Wrt.ext {b:Nat} {w0 w w':World} (h:Wrt b w w') (k:Ext w0 w) (hb:w0.heap.size<=b):Ext w0 w':=Below.trans k (h.low.mono hb)
theorem Bld.lt {w:World} {b:Nat} {bs:List Value} (h:Bld w b bs):b<w.heap.size:=by rcases h with h | h<;>exact h.lt
theorem bld_new (w:World):Bld (w.alloc (.cells #[.pointer none,.slice none 0 0] 110)) w.heap.size []:=Lib.IsBuilderF.of (Lib.fresh_isBuilder _ _ w)
theorem copyCheck_used (b:Nat) (w:World) (h0:w.cell? ⟨b,0,none⟩=some (.pointer (some ⟨b,0,none⟩))) :
  Calls Tryz.prog 93 #[.pointer (some ⟨b,0,none⟩)] w fun e w'=>e=.returned (.tuple #[])/\w'=w:=by
 obtain ⟨j,hj,_⟩:=Option.map_eq_some_iff.1 bld_size
 go_enter Tryz.func93,Tryz.ntmps93
 go_wp2
 rw [Lib.run_neq_ptr_same w _ Tryz.underlying107 hj]
 go_wp2
 go_end0
 exact ⟨rfl,rfl⟩
theorem copyCheck_fresh (b:Nat) (w:World) (h0:w.cell? ⟨b,0,none⟩=some (.pointer none)) (hsh:w.shape? b=some (110,2)) (hfz:w.frozen? ⟨b,0,none⟩=false) :
  Calls Tryz.prog 93 #[.pointer (some ⟨b,0,none⟩)] w fun e w'=>e=.returned (.tuple #[])/\w'=w.setCell ⟨b,0,none⟩ (.pointer (some ⟨b,0,none⟩)):=by
 obtain ⟨j,hj,hjs⟩:=Option.map_eq_some_iff.1 bld_size
 go_enter Tryz.func93,Tryz.ntmps93
 go_wp2
 rw [Lib.run_to_unsafe w ⟨b,0,none⟩ Tryz.underlying107 Tryz.underlying167 hj (by rw [hjs];decide) hsh (Nat.zero_lt_succ 1)];simp only [Result.andThen];rw [Oper.upon_value]
 go_wp2
 rw [run_callFunc_extern Tryz.func132 (by kernel_rfl) (by kernel_rfl) (by kernel_rfl) (e:=Extern.AbiNoEscape.same) (by kernel_rfl),Lib.run_noEscape];simp only [Result.andThen];rw [Oper.upon_value]
 go_wp2
 rw [Lib.run_from_unsafe w ⟨b,0,none⟩ Tryz.underlying167 Tryz.underlying107 hj hsh bld_lies];simp only [Result.andThen];rw [Oper.upon_value]
 go_wp2
 go_end0
 exact ⟨rfl,rfl⟩
theorem copyCheck_any (b:Nat) (bs:List Value) (w:World) (h:Bld w b bs) :
  Calls Tryz.prog 93 #[.pointer (some ⟨b,0,none⟩)] w fun e w'=>e=.returned (.tuple #[])/\Lib.BuilderAtF 110 5 b b (.pointer (some ⟨b,0,none⟩)) bs w'/\Wrt b w w':=by
 cases h with
 | inl h =>
  refine (copyCheck_fresh b w h.cell0 h.shape h.frozen0).mono ?_;intro e w' hh;obtain ⟨he,hw⟩:=hh;subst hw;exact ⟨he,h.used _,⟨Below.setCell (Below.refl b w) (Nat.le_refl b) _,(Lib.OthersKept.refl _ (some b) w).setCell ⟨b,0,none⟩ rfl _⟩⟩
 | inr h =>
  refine (copyCheck_used b w h.cell0).mono ?_;intro e w' hh;obtain ⟨he,hw⟩:=hh;subst hw;exact ⟨he,h,Wrt.refl b w'⟩
theorem bld_grown {w1 w2:World} {b:Nat} {p v:Value} {bs:List Value} {n:Nat} {row:Option Nat} (hbk:w1.heap[b]?=some (.cells #[p,v] 110 (0,0))) (_hown:w1.ownsRowF b 5 1 v n bs) (hne:v.ownBlock≠some b) (hg:w1.grownBy w2 row) (hr:row=v.ownBlock) :
  w2.heap[b]?=some (.cells #[p,v] 110 (0,0)):=by
 subst hr;rw [hg.block b (gS.1 hbk).1 (fun e=>hne e.symm)];exact hbk
theorem writeString_any (b:Nat) (bs:List Value) (s:ByteArray) (w:World) (h:Bld w b bs) (hlen:bs.length+s.size<=140737488355328) :
  Calls Tryz.prog 59 #[.pointer (some ⟨b,0,none⟩),.string s] w fun e w'=>e=.returned (.tuple #[.int .i64 s.size,.nilIface])/\Bld w' b (bs++Lib.strCells s)/\Wrt b w w':=by
 obtain ⟨i0,hi,hz0,hz1,hz2⟩:=info_parts byte_info;have hbw:=h.lt
 go_enter Tryz.func59,Tryz.ntmps59
 go_wp2_with fail
 refine (copyCheck_any b bs w h).mono ?_;rintro e w1 ⟨rfl,h1,hW1⟩;obtain ⟨hB,v,hbk,hown,hne⟩:=h1;have hs1:=hW1.low.size
 have c0:w1.cell? ⟨b,0,none⟩=some (.pointer (some ⟨b,0,none⟩)):=by rw [Lib.cell_of_heap hbk];rfl
 have c1:w1.cell? ⟨b,1,none⟩=some v:=by rw [Lib.cell_of_heap hbk];rfl
 go_wp2_with (at_builtin;refine Lib.wpList_append_own_stringF _ rfl _ _ 108 9 rfl b 5 i0 Tryz.underlying108 Tryz.underlying9 hi hz0 hz1 hz2 _ _ _ rfl hown s rfl ?b1 ?b2 ?b3 ?_)
 case b1=>unfold maxLen;omega
 case b2=>omega
 case b3=>omega
 intro v' w2 hown' hgrow _;have hb2:=bld_grown hbk hown hne hgrow rfl
 have d0:w2.cell? ⟨b,0,none⟩=some (.pointer (some ⟨b,0,none⟩)):=by rw [Lib.cell_of_heap hb2];rfl
 have d1:w2.cell? ⟨b,1,none⟩=some v:=by rw [Lib.cell_of_heap hb2];rfl
 have f1:w2.frozen? ⟨b,1,none⟩=false:=Lib.frozen_of_heap hb2 1
 obtain ⟨ao,n',cap,rfl⟩:∃ ao n' cap,v'=.slice ao n' cap:=by
  rcases hown'.2 with ⟨hv,_⟩ | ⟨g,cap,cur,fz,hv,_⟩<;>exact ⟨_,_,_,hv⟩
 have HF:=Lh (show Bld (w2.setCell ⟨b,1,none⟩ (.slice ao n' cap)) b (bs++Lib.strCells s) from Or.inr (Lib.BuilderAtF.put (T:=110) (e:=5) (Nat.le_refl b) hb2 (bs':=bs++Lib.strCells s) (by simpa [Lib.strCells_length] using hown') (by decide)));have HW:=Lh (show Wrt b w (w2.setCell ⟨b,1,none⟩ (.slice ao n' cap)) from ⟨(hW1.low.grown hgrow (by omega) (fun k hk=>(hown.lt k hk).1)).setCell (p:=⟨b,1,none⟩) (Nat.le_refl b) _,(hW1.oth.grown hgrow (Lib.ownsRowF_kind hown)).setCell ⟨b,1,none⟩ rfl _⟩)
 go_wp2
 go_ret2
 exact ⟨rfl,HF.out,HW.out⟩
theorem writeByte_any (b:Nat) (bs:List Value) (c:Int) (w:World) (h:Bld w b bs) (hlen:bs.length+1<=140737488355328) :
  Calls Tryz.prog 58 #[.pointer (some ⟨b,0,none⟩),.int .u8 c] w fun e w'=>e=.returned .nilIface/\Bld w' b (bs++[.int .u8 c])/\Wrt b w w':=by
 obtain ⟨i0,hi,hz0,hz1,hz2⟩:=info_parts byte_info;have hbw:=h.lt
 go_enter Tryz.func58,Tryz.ntmps58
 go_wp2_with fail
 refine (copyCheck_any b bs w h).mono ?_;rintro e w1 ⟨rfl,h1,hW1⟩;obtain ⟨hB,v,hbk,hown,hne⟩:=h1;have hs1:=hW1.low.size
 have c0:w1.cell? ⟨b,0,none⟩=some (.pointer (some ⟨b,0,none⟩)):=by rw [Lib.cell_of_heap hbk];rfl
 have c1:w1.cell? ⟨b,1,none⟩=some v:=by rw [Lib.cell_of_heap hbk];rfl
 go_wp2_with (at_builtin;refine wpList_append_ownF _ rfl _ _ 108 rfl b 5 i0 (.int .u8 0) 1 1 Tryz.underlying108 hi hz0 hz1 hz2 rfl (by decide) _ _ _ rfl (hown.alloc _) ⟨w1.heap.size,0,none⟩ 1 1 [.int .u8 c] rfl rfl ?b0 ?b1 ?b2 ?b3 ?b4 ?_)
 case b0 =>
  intro j u hj
  cases j with
  | zero=>simp at hj;subst hj;simp [Addr.add]
  | succ j=>simp at hj
 case b1=>intro u hu;simp at hu;subst hu;rfl
 case b2=>unfold maxLen;omega
 case b3=>omega
 case b4=>simp;omega
 intro v' w2 hown' hgrow _
 have hbk':(w1.alloc (.cells #[.int .u8 c] 5)).heap[b]?=some (.cells #[.pointer (some ⟨b,0,none⟩),v] 110 (0,0)):=by rw [Lib.alloc_old w1 _ b (by omega)];exact hbk
 have hb2:=bld_grown hbk' (hown.alloc _) hne hgrow rfl
 have d0:w2.cell? ⟨b,0,none⟩=some (.pointer (some ⟨b,0,none⟩)):=by rw [Lib.cell_of_heap hb2];rfl
 have d1:w2.cell? ⟨b,1,none⟩=some v:=by rw [Lib.cell_of_heap hb2];rfl
 have f1:w2.frozen? ⟨b,1,none⟩=false:=Lib.frozen_of_heap hb2 1
 obtain ⟨ao,n',cap,rfl⟩:∃ ao n' cap,v'=.slice ao n' cap:=by
  rcases hown'.2 with ⟨hv,_⟩ | ⟨g,cap,cur,fz,hv,_⟩<;>exact ⟨_,_,_,hv⟩
 have HF:=Lh (show Bld (w2.setCell ⟨b,1,none⟩ (.slice ao n' cap)) b (bs++[.int .u8 c]) from Or.inr (Lib.BuilderAtF.put (T:=110) (e:=5) (Nat.le_refl b) hb2 (bs':=bs++[.int .u8 c]) (by simpa using hown') (by decide)));have HW:=Lh (show Wrt b w (w2.setCell ⟨b,1,none⟩ (.slice ao n' cap)) from ⟨((hW1.low.alloc (by omega) _).grown hgrow (by simp;omega) (fun k hk=>(hown.lt k hk).1)).setCell (p:=⟨b,1,none⟩) (Nat.le_refl b) _,((hW1.oth.alloc _).grown hgrow (Lib.ownsRowF_kind (hown.alloc _))).setCell ⟨b,1,none⟩ rfl _⟩)
 go_wp2
 go_ret
 exact ⟨rfl,HF.out,HW.out⟩
def lenN (f:Nat->Int):Nat->Nat
 | 0=>0
 | n+1=>if 0<n/\f n=0 then lenN f n else n+1
theorem lenN_le (f:Nat->Int):∀ n,lenN f n<=n
 | 0=>Nat.le_refl _
 | n+1=>by
  simp only [lenN]
  split
  ·have:=lenN_le f n;omega
  ·exact Nat.le_refl _
theorem rowLength_any (g m:Nat) (t:TypeId) (f:Nat->Int) (w:World) (h:Nums w g m t f) (hm:8<=m) :
  Calls Tryz.prog 57 #[.pointer (some ⟨g,0,none⟩)] w fun e w'=>e=.returned (.int .i64 (lenN f 8:Nat))/\Ext w w':=by
 have Hh:=Lh h;have Hm:=Lh hm;obtain ⟨L,hL⟩:∃ L,lenN f 8=L:=⟨_,rfl⟩;rw [hL];have HL:=Lh hL;clear h hm hL
 go_enter Tryz.func57,Tryz.ntmps57
 go_wp2_with fail
 go_loopg [3] 8 (fun kk s3 wr=>∃ k:Nat,s3=.int .i64 (k:Int)/\k<=8/\0<k/\k=kk/\Ext w wr/\lenN f k=L)
 case atStart=>exact ⟨8,rfl,by omega,by omega,rfl,Ext.refl _,HL.out⟩
 case round =>
  obtain ⟨k,rfl,hk,hk0,hkk,hx,hz⟩:=hrel;have Hz:=Lh hz;have Hkk:=Lh hkk;clear hz hkk
  by_cases hk1:k=1
  ·subst hk1
   have HkL:Hid (1=L):=Lh (by rw [<-Hz.out];simp [lenN])
   go_wp2_with fail
   go_ret
   exact ⟨congrArg (fun b:Nat=>Ending.returned (Value.int .i64 (b:Int))) HkL.out,hx⟩
  obtain ⟨j,rfl⟩:∃ j,k=j+1:=⟨k-1,by omega⟩
  have q1:(1:Int)<((j+1:Nat):Int):=by omega
  have wj:IntKind.i64.wrap (((j+1:Nat):Int)-1)=(j:Int):=by rw [IntKind.wrap_i64];omega
  have q2:(0:Int)<=(j:Int):=by omega
  have q3:(j:Int)<8:=by omega
  obtain ⟨s,a,n,c,l1,l2,_,_,hI⟩:=(Hh.out.ext hx).get j (by have:=Hm.out;omega);have Hc:=Lh hI.cmp3;have Hs:=Lh (Sign_any s (.slice a n c));have Hx:=Lh hx;have Hj:=Lh (show 0<j/\j+1<=8 by omega);clear hI hx hk hk0 hk1;obtain ⟨wo,rfl⟩:∃ wo:World,wo=wr:=⟨_,rfl⟩
  go_wp2_with fail
  refine (Hs.out wo).mono ?_;rintro e w2 ⟨rfl,hx2⟩;have Hx2:=Lh (Hx.out.trans hx2);clear hx2 l1 l2 Hs;rw [Hc.out]
  by_cases hz:f j=0
  ·have b1:(cmp3 (f j) 0 == 0)=true:=by rw [hz];rfl
   have Hn:Hid (lenN f j=L):=Lh (by rw [<-Hz.out];simp only [lenN];rw [if_pos ⟨Hj.out.1,hz⟩]);clear hz Hc
   go_wp2_with fail
   go_roundg j
   case measure=>have:=Hkk.out;omega
   case rel=>exact ⟨j,rfl,by have:=Hj.out;omega,Hj.out.1,rfl,Hx2.out,Hn.out⟩
  ·have b1:(cmp3 (f j) 0 == 0)=false:=by
    have:cmp3 (f j) 0≠0:=fun e=>hz (cmp3_zero.1 e)
    simp [this]
   have HkL:Hid (j+1=L):=Lh (by rw [<-Hz.out];simp only [lenN];rw [if_neg (fun h=>hz h.2)]);clear hz Hc
   go_wp2_with fail
   go_ret
   exact ⟨congrArg (fun b:Nat=>Ending.returned (Value.int .i64 (b:Int))) HkL.out,Hx2.out⟩
def byC (l:List UInt8):List Value:=l.map fun b=>Value.int .u8 (b.toNat:Int)
theorem byC_length (l:List UInt8):(byC l).length=l.length:=by simp [byC]
theorem byC_append (l m:List UInt8):byC (l++m)=byC l++byC m:=by simp [byC]
theorem byC_one (l:List UInt8):∀ u ∈ byC l,u.oneCell'=true:=by
 intro u hu;simp only [byC,List.mem_map] at hu;obtain ⟨b,_,rfl⟩:=hu
 rfl
theorem byC_u8 (l:List UInt8):∀ u ∈ byC l,∃ x:Int,u=.int .u8 x:=by
 intro u hu;simp only [byC,List.mem_map] at hu;obtain ⟨b,_,rfl⟩:=hu;exact ⟨_,rfl⟩
theorem strCells_byC (l:List UInt8):Lib.strCells ⟨l.toArray⟩=byC l:=by simp [Lib.strCells,byC]
def Own (w:World) (e:TypeId) (v:Value) (l:List UInt8):Prop :=
 (v=.slice none 0 0/\l=[]) \/
 ∃ g cap cur,v=.slice (some ⟨g,0,none⟩) l.length cap/\w.heap[g]?=some (.cells cur e (0,0))/\l.length<=cap/\cap<=maxLen/\cur.size=cap/\cur.toList.take l.length=byC l/\∀ u ∈ cur.toList,∃ x:Int,u=.int .u8 x
theorem Own.nil (w:World) (e:TypeId):Own w e (.slice none 0 0) []:=Or.inl ⟨rfl,rfl⟩
structure Apd (w w':World) (v v':Value):Prop where
 grown:w.grownBy w' v.ownBlock
 lies:v'.ownBlock=v.ownBlock\/∃ g,v'.ownBlock=some g/\w.heap.size<=g
theorem Apd.of_ext {w w':World} (h:Ext w w') (v:Value):Apd w w' v v :=
 ⟨⟨h.os,h.tape,h.output,h.size,fun k hk _=>h.block k hk⟩,Or.inl rfl⟩
theorem Apd.trans {a b c:World} {u v x:Value} (h:Apd a b u v) (k:Apd b c v x):Apd a c u x:=by
 refine ⟨⟨k.grown.os.trans h.grown.os,k.grown.tape.trans h.grown.tape,k.grown.output.trans h.grown.output,Nat.le_trans h.grown.size k.grown.size,fun i hi hne=>?_⟩,?_⟩
 ·rw [k.grown.block i (Nat.lt_of_lt_of_le hi h.grown.size) ?_,h.grown.block i hi hne]
  rcases h.lies with e | ⟨g,e,hg⟩
  ·rw [e];exact hne
  ·rw [e];intro h2;injection h2 with h2;omega
 ·rcases k.lies with e | ⟨g,e,hg⟩
  ·rw [e];exact h.lies
  ·exact Or.inr ⟨g,e,Nat.le_trans h.grown.size hg⟩
theorem Apd.ext {w w':World} {v':Value} (h:Apd w w' (.slice none 0 0) v'):Ext w w' :=
 ⟨h.grown.os,h.grown.tape,h.grown.output,h.grown.size,fun k hk=>h.grown.block k hk (by simp [Value.ownBlock])⟩
theorem Own.ext {w w':World} {e:TypeId} {v:Value} {l:List UInt8} (h:Own w e v l) (k:Ext w w'):Own w' e v l:=by
 rcases h with h | ⟨g,cap,cur,rfl,hb,rest⟩
 ·exact Or.inl h
 ·exact Or.inr ⟨g,cap,cur,rfl,(k.block g (gS.1 hb).1).trans hb,rest⟩
theorem Own.apart {w:World} {e:TypeId} {v:Value} {l:List UInt8} (h:Own w e v l) {b o:Nat} {u:Value} (hc:w.cell? ⟨b,o,none⟩=some u) (hu:∀ x,u≠.int .u8 x):some b≠v.ownBlock:=by
 intro hb
 rcases h with ⟨rfl,_⟩ | ⟨g,cap,cur,rfl,hg,_,_,_,_,hall⟩
 ·simp [Value.ownBlock] at hb
 ·simp only [Value.ownBlock,Option.some.injEq] at hb
  subst hb;rw [cell_of_row w b o cur e (0,0) hg] at hc;obtain ⟨x,hx⟩:=hall u (List.mem_of_getElem? (by rw [Array.getElem?_toList];exact hc));exact hu x hx
theorem Apd.cell {w w':World} {e:TypeId} {v v':Value} {l:List UInt8} (k:Apd w w' v v') (h:Own w e v l) {b o:Nat} {u:Value} (hc:w.cell? ⟨b,o,none⟩=some u) (hu:∀ x,u≠.int .u8 x):w'.cell? ⟨b,o,none⟩=some u :=
 k.grown.cell hc (h.apart hc hu)
theorem Seg.apd {w w':World} {e:TypeId} {v v':Value} {l:List UInt8} {ao:Option Addr} {la:List Nat} (h:Seg w ao la) (ho:Own w e v l) (k:Apd w w' v v'):Seg w' ao la:=by
 rcases h with h | ⟨b,o,rfl,hb,hc⟩
 ·exact Or.inl h
 ·exact Or.inr ⟨b,o,rfl,Nat.lt_of_lt_of_le hb k.grown.size,fun t ht=>k.cell ho (hc t ht) (fun x hx=>by cases hx)⟩
theorem tab_ext {P:Program} {w w':World} {name:String} {k:IntKind} {zs:List Int} (h:Lib.TabIs P w name k zs) (he:Ext w w'):Lib.TabIs P w' name k zs:=by
 unfold Lib.TabIs World.var? at *
 cases hg:P.globalNamed name with
 | none=>simp [hg] at h
 | some g =>
  simp only [hg,Option.bind_some] at h ⊢
  have hlt:g<w.heap.size:=by
   rcases Nat.lt_or_ge g w.heap.size with h' | h'
   ·exact h'
   ·rw [Array.getElem?_eq_none h'] at h;simp at h
  rw [he.block g hlt];exact h
theorem tab_apd {P:Program} {w w':World} {name:String} {zs:List Int} {e:TypeId} {v v':Value} {l:List UInt8} (h:Lib.TabIs P w name .u64 zs) (hz:zs≠[]) (ho:Own w e v l) (k:Apd w w' v v'):Lib.TabIs P w' name .u64 zs:=by
 unfold Lib.TabIs World.var? at *
 cases hg:P.globalNamed name with
 | none=>simp [hg] at h
 | some g =>
  simp only [hg,Option.bind_some] at h ⊢
  cases hw:w.heap[g]? with
  | none=>rw [hw] at h;simp at h
  | some ob =>
   have hlt:g<w.heap.size:=(gS.1 hw).1
   cases ob with
   | cells cs t fz =>
    rw [hw] at h;simp only [Option.some.injEq] at h
    have hne:some g≠v.ownBlock:=by
     cases zs with
     | nil=>exact absurd rfl hz
     | cons z r =>
      have hc:w.cell? ⟨g,0,none⟩=some (.int .u64 z):=by
       rw [cell_of_row w g 0 cs t fz hw,h];simp
      exact ho.apart hc (fun x hx=>by cases hx)
    rw [k.grown.block g hlt hne,hw]
    simp [h]
   | _=>rw [hw] at h;simp at h
theorem zero_u8 (n:Nat):∀ u ∈ (Builtin.zeroCells (Value.int .u8 0).cells n).toList,∃ x:Int,u=.int .u8 x:=by
 intro u hu
 simp [Builtin.zeroCells,Value.cells,Nat.mod_one] at hu
 exact ⟨0,hu.2.symm⟩
theorem own_new (w:World) (e:TypeId) (l m:List UInt8) (old:Nat) (v:Value) (hb:l.length+m.length<=140737488355328) :
  Own (w.drew.alloc (.cells ((byC l).toArray++(byC m).toArray++Builtin.zeroCells (Value.int .u8 0).cells (grownCap w (l.length+m.length) old e-(l.length+m.length))) e)) e
    (.slice (some ⟨w.heap.size,0,none⟩) (l.length+m.length) (grownCap w (l.length+m.length) old e)) (l++m) /\
   Apd w (w.drew.alloc (.cells ((byC l).toArray++(byC m).toArray++Builtin.zeroCells (Value.int .u8 0).cells (grownCap w (l.length+m.length) old e-(l.length+m.length))) e)) v
    (.slice (some ⟨w.heap.size,0,none⟩) (l.length+m.length) (grownCap w (l.length+m.length) old e)):=by
 have hge:=grownCap_ge w (l.length+m.length) old e;have hcm:grownCap w (l.length+m.length) old e<=maxLen:=grownCap_le_maxLen w _ old e (by unfold maxLen;omega);refine ⟨Or.inr ⟨w.heap.size,_,_,by rw [List.length_append],heap_alloc_new w.drew _,by rw [List.length_append];exact hge,hcm,?_,?_,?_⟩,⟨⟨rfl,rfl,rfl,by simp,fun k hk _=>Below.heap_alloc w.drew _ k hk⟩,Or.inr ⟨_,rfl,Nat.le_refl _⟩⟩⟩
 ·have hz1:(Value.int IntKind.u8 0).cells.size=1:=rfl
  simp only [Array.size_append,List.size_toArray,size_zeroCells,hz1,byC_length];omega
 ·simp only [Array.toList_append]
  rw [byC_append,<-List.length_append,<-byC_length (l++m),byC_append];exact List.take_left
 ·intro u hu
  simp only [Array.toList_append,List.mem_append] at hu
  rcases hu with (hu | hu) | hu
  ·exact byC_u8 l u hu
  ·exact byC_u8 m u hu
  ·exact zero_u8 _ u hu
theorem own_room (w:World) (e:TypeId) (l m:List UInt8) (g cap:Nat) (cur:Array Value) (hg:w.heap[g]?=some (.cells cur e (0,0))) (hcm:cap<=maxLen) (hcs:cur.size=cap) (ht:cur.toList.take l.length=byC l) (hall:∀ u ∈ cur.toList,∃ x:Int,u=.int .u8 x) (hroom:l.length+m.length<=cap) :
  Own (w.setRow g (cur.toList.take l.length++byC m++cur.toList.drop (l.length+m.length)).toArray) e (.slice (some ⟨g,0,none⟩) (l.length+m.length) cap) (l++m) /\
   Apd w (w.setRow g (cur.toList.take l.length++byC m++cur.toList.drop (l.length+m.length)).toArray) (.slice (some ⟨g,0,none⟩) l.length cap) (.slice (some ⟨g,0,none⟩) (l.length+m.length) cap):=by
 refine ⟨Or.inr ⟨g,cap,_,by rw [List.length_append],setRow_heap w g cur _ e _ hg,by rw [List.length_append];exact hroom,hcm,?_,?_,?_⟩,⟨⟨rfl,rfl,rfl,by simp,fun k _ hk=>setRow_other w g k _ (fun h=>hk (by simp [Value.ownBlock,h]))⟩,Or.inl rfl⟩⟩
 ·simp only [List.size_toArray,List.length_append,List.length_take,List.length_drop,Array.length_toList,byC_length]
  omega
 ·rw [ht,byC_append,<-byC_length (l++m),byC_append]
  exact List.take_left
 ·intro u hu
  simp only [List.mem_append] at hu
  rcases hu with (hu | hu) | hu
  ·exact hall u (List.mem_of_mem_take hu)
  ·exact byC_u8 m u hu
  ·exact hall u (List.mem_of_mem_drop hu)
section
variable {P:Program} (w:World)
theorem Own.holds {e:TypeId} {g:Nat} {l:List UInt8} {cur:Array Value} (hg:w.heap[g]?=some (.cells cur e (0,0))) (ht:cur.toList.take l.length=byC l):∀ j u,(byC l)[j]?=some u->w.cell? ((⟨g,0,none⟩:Addr).add j)=some u:=by
 intro j u hu
 have hadd:(⟨g,0,none⟩:Addr).add j=⟨g,j,none⟩:=by unfold Addr.add;split<;>simp_all
 rw [hadd,cell_of_row w g j cur e (0,0) hg];rw [<-ht,List.getElem?_take] at hu
 split at hu
 ·simpa using hu
 ·cases hu
theorem run_append_bytes (t ty e:TypeId) (i:TypeInfo) (ht:P.underlying t=some (.slice e)) (hi:P.info? e=some i) (hz:i.zero=some (.int .u8 0)) (hsize:i.size=1) (hby:i.bytes=1)
  (v:Value) (l:List UInt8) (hown:Own w e v l) (a:Addr) (m c:Nat) (news:List UInt8) (hm:news.length=m) (hm0:0<m) (hnews:∀ j u,(byC news)[j]?=some u->w.cell? (a.add j)=some u) (hb:l.length+news.length<=140737488355328) :
  ∃ v' w',(Builtin.append_ #[t,t] ty #[v,.slice (some a) m c]).run P w=.ok v' w'/\Own w' e v' (l++news)/\Apd w w' v v':=by
 subst hm
 have hl:(byC news).length=news.length*i.size:=by rw [byC_length,hsize,Nat.mul_one]
 rcases hown with ⟨rfl,rfl⟩ | ⟨g,cap,cur,rfl,hg,hlc,hcm,hcs,htk,hall⟩
 ·have hr:=run_append_nil (P:=P) w t ty e i (.int .u8 0) ht hi hz a news.length c (byC news) hl hnews hm0 (by simp at hb;omega) (by rw [hby];simp at hb;omega)
  have hn:=own_new w e [] news 0 (.slice none 0 0) hb;simp only [List.length_nil,Nat.zero_add,List.nil_append,byC,List.map_nil,Array.empty_append] at hn hr ⊢;exact ⟨_,_,hr,hn.1,hn.2⟩
 ·by_cases hroom:l.length+news.length<=cap
  ·have hr:=run_append_room (P:=P) w t ty e i ht hi g l.length cap cur hg a news.length c (byC news) hl hnews (byC_one news) hroom (by rw [hsize,byC_length,hcs,Nat.mul_one];exact hroom)
   rw [hsize,Nat.mul_one,byC_length] at hr;have hn:=own_room w e l news g cap cur hg hcm hcs htk hall hroom;exact ⟨_,_,hr,hn.1,hn.2⟩
  ·have hr:=run_append_grow (P:=P) w t ty e i (.int .u8 0) ht hi hz ⟨g,0,none⟩ l.length cap (byC l) (by rw [byC_length,hsize,Nat.mul_one]) (Own.holds w hg htk) a news.length c (byC news) hl hnews (by omega) (by omega) (by rw [hby];exact growslice_fits (by omega) (by omega))
   have hn:=own_new w e l news cap (.slice (some ⟨g,0,none⟩) l.length cap) hb;exact ⟨_,_,hr,hn.1,hn.2⟩
theorem run_append_text (t u ty e:TypeId) (i:TypeInfo) (ht:P.underlying t=some (.slice e)) (hu:P.underlying u=some .string) (hi:P.info? e=some i) (hz:i.zero=some (.int .u8 0)) (hsize:i.size=1) (hby:i.bytes=1)
  (v:Value) (l:List UInt8) (hown:Own w e v l) (news:List UInt8) (hm0:0<news.length) (hb:l.length+news.length<=140737488355328) :
  ∃ v' w',(Builtin.append_ #[t,u] ty #[v,.string ⟨news.toArray⟩]).run P w=.ok v' w'/\Own w' e v' (l++news)/\Apd w w' v v':=by
 have hs:(⟨news.toArray⟩:ByteArray).size=news.length:=by simp [ByteArray.size]
 have hsc:=strCells_byC news
 rcases hown with ⟨rfl,rfl⟩ | ⟨g,cap,cur,rfl,hg,hlc,hcm,hcs,htk,hall⟩
 ·have hr:=run_append_nil_string (P:=P) w t u ty e i (.int .u8 0) ht hu hi hz ⟨news.toArray⟩ (by rw [hs];exact hm0) (by rw [hs];simp at hb;omega) (by rw [hs,hby];simp at hb;omega)
  have hn:=own_new w e [] news 0 (.slice none 0 0) hb
  have e1:((⟨news.toArray⟩:ByteArray).data.map fun b=>Value.int .u8 b.toNat)=(byC news).toArray:=by
   apply Array.ext'
   simp [byC]
  rw [hs,e1] at hr;simp only [List.length_nil,Nat.zero_add,List.nil_append,byC,List.map_nil,Array.empty_append] at hn hr ⊢;exact ⟨_,_,hr,hn.1,hn.2⟩
 ·by_cases hroom:l.length+news.length<=cap
  ·have hr:=Lib.run_append_room_string (P:=P) w t u ty e i ht hu hi hsize g l.length cap cur hg ⟨news.toArray⟩ (by rw [hs];exact hroom) (by rw [hs,hcs];exact hroom)
   rw [hs,hsc] at hr;have hn:=own_room w e l news g cap cur hg hcm hcs htk hall hroom;exact ⟨_,_,hr,hn.1,hn.2⟩
  ·have hr:=Lib.run_append_grow_string (P:=P) w t u ty e i (.int .u8 0) ht hu hi hz ⟨g,0,none⟩ l.length cap (byC l) (by rw [byC_length,hsize,Nat.mul_one]) (Own.holds w hg htk) ⟨news.toArray⟩ (by rw [hs];omega) (by rw [hs];omega) (by rw [hs,hby];exact growslice_fits (by omega) (by omega))
   rw [hs,hsc] at hr;have hn:=own_new w e l news cap (.slice (some ⟨g,0,none⟩) l.length cap) hb;exact ⟨_,_,hr,hn.1,hn.2⟩
theorem wpList_append_bytes {ops:Array Oper} {rest:List Oper} {o:Oper} {a:Act} {Q:Exit->Act->World->Prop} (hgd:o.guard=none) (s x:Operand) (t:TypeId)
  (ho:o.op=.call { callee:=.builtin .append,args:=#[s,x],argTypes:=#[t,t] })
  (e:TypeId) (i:TypeInfo) (ht:P.underlying t=some (.slice e)) (hi:P.info? e=some i) (hz:i.zero=some (.int .u8 0)) (hsize:i.size=1) (hby:i.bytes=1)
  (v:Value) (l:List UInt8) (hs:a.eval s=v) (hown:Own w e v l) (ad:Addr) (m c:Nat) (news:List UInt8) (hx:a.eval x=.slice (some ad) m c) (hm:news.length=m) (hm0:0<m) (hnews:∀ j u,(byC news)[j]?=some u->w.cell? (ad.add j)=some u) (hb:l.length+news.length<=140737488355328)
  (h:∀ v' w',Own w' e v' (l++news)->Apd w w' v v'->wpList P ops Q rest (a.put o.dst v') w'):wpList P ops Q (o :: rest) a w:=by
 refine wpList_plain hgd fun _ hK=>?_
 obtain ⟨v',w',hr,h2,h3⟩:=run_append_bytes (P:=P) w t o.type e i ht hi hz hsize hby v l hown ad m c news hm hm0 hnews hb;unfold Oper.wp execOp;simp only [ho,resolve,invoke,builtin,Sem.run_bind,Sem.run_pure,Result.andThen_ok,List.map_toArray,List.map_cons,List.map_nil,hs,hx,hr];exact hK _ _ (h v' w' h2 h3)
theorem wpList_append_text {ops:Array Oper} {rest:List Oper} {o:Oper} {a:Act} {Q:Exit->Act->World->Prop} (hgd:o.guard=none) (s x:Operand) (t u:TypeId)
  (ho:o.op=.call { callee:=.builtin .append,args:=#[s,x],argTypes:=#[t,u] })
  (e:TypeId) (i:TypeInfo) (ht:P.underlying t=some (.slice e)) (hu:P.underlying u=some .string) (hi:P.info? e=some i) (hz:i.zero=some (.int .u8 0)) (hsize:i.size=1) (hby:i.bytes=1)
  (v:Value) (l:List UInt8) (hs:a.eval s=v) (hown:Own w e v l) (news:List UInt8) (hx:a.eval x=.string ⟨news.toArray⟩) (hm0:0<news.length) (hb:l.length+news.length<=140737488355328)
  (h:∀ v' w',Own w' e v' (l++news)->Apd w w' v v'->wpList P ops Q rest (a.put o.dst v') w'):wpList P ops Q (o :: rest) a w:=by
 refine wpList_plain hgd fun _ hK=>?_
 obtain ⟨v',w',hr,h2,h3⟩:=run_append_text (P:=P) w t u o.type e i ht hu hi hz hsize hby v l hown news hm0 hb;unfold Oper.wp execOp;simp only [ho,resolve,invoke,builtin,Sem.run_bind,Sem.run_pure,Result.andThen_ok,List.map_toArray,List.map_cons,List.map_nil,hs,hx,hr];exact hK _ _ (h v' w' h2 h3)
end
end Go.Proofs.YtfjnlopbmkimiaaGreatDoor
