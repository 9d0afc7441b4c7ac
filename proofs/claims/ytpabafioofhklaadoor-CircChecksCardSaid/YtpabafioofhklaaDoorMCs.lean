/-
  The reference's Count.
-/
import Derived.Test.YtpabafioofhklaaDoorMCr
import Derived.Test.YtpabafioofhklaaDoorMBz

namespace Go.Proofs.YtpabafioofhklaaDoor
open Go.RowKit

/-- The tally of a circuit, with the levels as the reference reckons them. -/
def tlyR (c : Gci) : Value := if (chk c).1 = 0 then .agg #[.int .i64 (c.ops.length : Int), .int .i64 (cntP isFork c.ops), .int .i64 (cntP isFine c.ops), .int .i64 (cntP isWide c.ops), .int .i64 (cntP isMeet c.ops), .int .i64 (lvs plR c.ops).2] else .agg #[.int .i64 0, .int .i64 0, .int .i64 0, .int .i64 0, .int .i64 0, .int .i64 0]
theorem tly_same (c : Gci) : tlyV c = tlyR c := by
  unfold tlyV tlyR
  by_cases h : (chk c).1 = 0
  · rw [if_pos h, if_pos h, levels_same h]
  · rw [if_neg h, if_neg h]

/-- The slice of last levels. -/
def LastR (w : World) (g : Nat) (f : Int → Int) : Prop := ∀ i : Nat, i < 200 → w.cell? ⟨g, i, none⟩ = some (.int .i64 (f (i : Int))) ∧ w.frozen? ⟨g, i, none⟩ = false
theorem LastR.lt {w : World} {g : Nat} {f : Int → Int} (h : LastR w g f) : g < w.heap.size := World.block_lt_of_cell? w ⟨g, 0, none⟩ (h 0 (by omega)).1
theorem LastR.ext {w w' : World} {g : Nat} {f : Int → Int} (h : LastR w g f) (k : Ext w w') : LastR w' g f := fun i hi => by
  obtain ⟨h1, h2⟩ := h i hi
  exact ⟨cell_ext h1 k, by rw [← h2]; simp only [World.frozen?, k.block g h.lt]⟩
theorem LastR.far {w : World} {g g' k : Nat} {f : Int → Int} (h : LastR w g f) (hne : g' ≠ g) (u : Value) : LastR (w.setCell ⟨g', k, none⟩ u) g f := fun i hi => by
  obtain ⟨h1, h2⟩ := h i hi
  exact ⟨cell_put_far hne h1, by rw [World.frozen?_setCell]; exact h2⟩
theorem LastR.put {w : World} {g : Nat} {f : Int → Int} (h : LastR w g f) (t : Nat) (v : Int) : LastR (w.setCell ⟨g, t, none⟩ (.int .i64 v)) g (updL f [(t : Int)] v) := fun i hi => by
  obtain ⟨h1, h2⟩ := h i hi
  refine ⟨?_, by rw [World.frozen?_setCell]; exact h2⟩
  by_cases e : i = t
  · subst e
    rw [World.cell?_setCell_same _ _ _ h1]; simp [updL]
  · rw [World.cell?_setCell_other _ _ _ _ (fun q => e (congrArg Addr.off q).symm), h1]
    have : ¬ ((i : Int) = (t : Int)) := by omega
    simp [updL, this]
theorem made200 : madeCells #[Value.int .i64 0] 200 = Array.replicate 200 (.int .i64 0) := by
  apply Array.toList_inj.1
  rw [toList_madeCells_one, Array.toList_replicate]
theorem run_make200 (w : World) : (Instr.makeSlice 43 (.int .i64 200) (.int .i64 200)).run Tryd.prog w = .ok (.slice (some ⟨w.heap.size, 0, none⟩) 200 200) (w.alloc (.cells (Array.replicate 200 (.int .i64 0)) 3)) := by
  obtain ⟨i0, hi, hz0, hz1, hz2⟩ := info_parts i_info
  have := run_makeSlice (P := Tryd.prog) w 43 3 i0 (.int .i64 0) Tryd.underlying43 hi hz0 .i64 .i64 200 200 (by omega) (by omega) (by rw [hz1]; decide) (by rw [hz2]; decide) (by omega)
  rw [this, hz1, ← made200]
  rfl
theorem lastR_new (w : World) : LastR (w.alloc (.cells (Array.replicate 200 (.int .i64 0)) 3)) w.heap.size (fun _ => 0) := fun i hi => by
  have hr : (w.alloc (.cells (Array.replicate 200 (.int .i64 0)) 3)).heap[w.heap.size]? = some (.cells (Array.replicate 200 (.int .i64 0)) 3 (0, 0)) := heap_alloc_new w _
  refine ⟨?_, frozen_of_row _ _ i _ _ hr⟩
  rw [cell_of_row _ _ i _ _ (0, 0) hr]
  simp [hi]
theorem plR_range {o : Gop} (h1 : LvFit o) (h2 : placesFit o) : ∀ t ∈ plR o, 0 ≤ t ∧ t < 200 := fun t ht => by
  have := (pl_perm h2).mem_iff.1 ht
  simp only [List.mem_map] at this
  obtain ⟨s, hs, rfl⟩ := this
  have := h1.pl s hs
  unfold ren
  split <;> omega

/-- While one operation is counted. -/
structure RcS (w0 W : World) (P L Q : Nat) (t0 t1 t2 t3 t4 t5 : Int) (f : Int → Int) (k0 k1 : Int) (a1 : Option Addr) (n1 c1 : Nat) (k3 k4 : Int) (a2 : Option Addr) (n2 c2 : Nat) : Prop where
  ext : Ext w0 W
  tl : TlB W P t0 t1 t2 t3 t4 t5
  la : LastR W L f
  bx : OpBx W Q k0 k1 a1 n1 c1 k3 k4 a2 n2 c2
section
variable {w0 W W' : World} {P L Q : Nat} {t0 t1 t2 t3 t4 t5 : Int} {f : Int → Int} {k0 k1 : Int} {a1 : Option Addr} {n1 c1 : Nat} {k3 k4 : Int} {a2 : Option Addr} {n2 c2 : Nat}
theorem OpBx.far (h : OpBx W Q k0 k1 a1 n1 c1 k3 k4 a2 n2 c2) {g k : Nat} (hne : g ≠ Q) (u : Value) : OpBx (W.setCell ⟨g, k, none⟩ u) Q k0 k1 a1 n1 c1 k3 k4 a2 n2 c2 := ⟨by rw [Below.heap_setCell _ _ _ _ (fun e => hne e.symm)]; exact h.row⟩
theorem RcS.put1 (h : RcS w0 W P L Q t0 t1 t2 t3 t4 t5 f k0 k1 a1 n1 c1 k3 k4 a2 n2 c2) (h1 : w0.heap.size ≤ P) (h2 : P ≠ L) (h3 : P ≠ Q) (v : Int) : RcS w0 (W.setCell ⟨P, 1, none⟩ (.int .i64 v)) P L Q t0 v t2 t3 t4 t5 f k0 k1 a1 n1 c1 k3 k4 a2 n2 c2 :=
  ⟨cput h.ext h1 _, h.tl.put1 v, h.la.far h2 _, h.bx.far h3 _⟩
theorem RcS.put2 (h : RcS w0 W P L Q t0 t1 t2 t3 t4 t5 f k0 k1 a1 n1 c1 k3 k4 a2 n2 c2) (h1 : w0.heap.size ≤ P) (h2 : P ≠ L) (h3 : P ≠ Q) (v : Int) : RcS w0 (W.setCell ⟨P, 2, none⟩ (.int .i64 v)) P L Q t0 t1 v t3 t4 t5 f k0 k1 a1 n1 c1 k3 k4 a2 n2 c2 :=
  ⟨cput h.ext h1 _, h.tl.put2 v, h.la.far h2 _, h.bx.far h3 _⟩
theorem RcS.put3 (h : RcS w0 W P L Q t0 t1 t2 t3 t4 t5 f k0 k1 a1 n1 c1 k3 k4 a2 n2 c2) (h1 : w0.heap.size ≤ P) (h2 : P ≠ L) (h3 : P ≠ Q) (v : Int) : RcS w0 (W.setCell ⟨P, 3, none⟩ (.int .i64 v)) P L Q t0 t1 t2 v t4 t5 f k0 k1 a1 n1 c1 k3 k4 a2 n2 c2 :=
  ⟨cput h.ext h1 _, h.tl.put3 v, h.la.far h2 _, h.bx.far h3 _⟩
theorem RcS.put4 (h : RcS w0 W P L Q t0 t1 t2 t3 t4 t5 f k0 k1 a1 n1 c1 k3 k4 a2 n2 c2) (h1 : w0.heap.size ≤ P) (h2 : P ≠ L) (h3 : P ≠ Q) (v : Int) : RcS w0 (W.setCell ⟨P, 4, none⟩ (.int .i64 v)) P L Q t0 t1 t2 t3 v t5 f k0 k1 a1 n1 c1 k3 k4 a2 n2 c2 :=
  ⟨cput h.ext h1 _, h.tl.put4 v, h.la.far h2 _, h.bx.far h3 _⟩
theorem RcS.ct1 (h : RcS w0 W P L Q t0 t1 t2 t3 t4 t5 f k0 k1 a1 n1 c1 k3 k4 a2 n2 c2) {t' : Int} (e : t' = t1) : RcS w0 W P L Q t0 t' t2 t3 t4 t5 f k0 k1 a1 n1 c1 k3 k4 a2 n2 c2 := by rw [e]; exact h
theorem RcS.ct2 (h : RcS w0 W P L Q t0 t1 t2 t3 t4 t5 f k0 k1 a1 n1 c1 k3 k4 a2 n2 c2) {t' : Int} (e : t' = t2) : RcS w0 W P L Q t0 t1 t' t3 t4 t5 f k0 k1 a1 n1 c1 k3 k4 a2 n2 c2 := by rw [e]; exact h
theorem RcS.ct3 (h : RcS w0 W P L Q t0 t1 t2 t3 t4 t5 f k0 k1 a1 n1 c1 k3 k4 a2 n2 c2) {t' : Int} (e : t' = t3) : RcS w0 W P L Q t0 t1 t2 t' t4 t5 f k0 k1 a1 n1 c1 k3 k4 a2 n2 c2 := by rw [e]; exact h
theorem RcS.ct4 (h : RcS w0 W P L Q t0 t1 t2 t3 t4 t5 f k0 k1 a1 n1 c1 k3 k4 a2 n2 c2) {t' : Int} (e : t' = t4) : RcS w0 W P L Q t0 t1 t2 t3 t' t5 f k0 k1 a1 n1 c1 k3 k4 a2 n2 c2 := by rw [e]; exact h
theorem RcS.exts (h : RcS w0 W P L Q t0 t1 t2 t3 t4 t5 f k0 k1 a1 n1 c1 k3 k4 a2 n2 c2) (k : Ext W W') : RcS w0 W' P L Q t0 t1 t2 t3 t4 t5 f k0 k1 a1 n1 c1 k3 k4 a2 n2 c2 :=
  ⟨h.ext.trans k, h.tl.ext k, h.la.ext k, h.bx.ext k⟩
end

set_option maxHeartbeats 4000000 in
set_option maxRecDepth 100000 in
theorem RCount_any (c : Gci) (ao : Option Addr) (n cp : Nat) (w : World) (h : OpsAt w ao n c.ops) (hn : n ≤ cp) (hcp : cp ≤ 9223372036854775807)  :
    Calls Tryd.prog 8 #[.agg #[.int .i64 c.qubits, .int .i64 c.bits, .slice ao n cp]] w fun e w' => e = .returned (.tuple #[tlyV c, .agg #[.int .i64 (chk c).1, .int .i64 (chk c).2]]) ∧ Ext w w' := by
  rw [tly_same]
  unfold tlyR
  obtain ⟨qb, bi, ops⟩ := c
  obtain ⟨f, hf⟩ : ∃ f, chk ⟨qb, bi, ops⟩ = f := ⟨_, rfl⟩
  obtain ⟨f0, f1⟩ := f
  have hz0 : f0 = 0 → f1 = 0 ∧ n ≤ 4096 ∧ ∀ g ∈ ops, LvFit g ∧ placesFit g ∧ 0 ≤ g.k := by
    intro h0
    obtain ⟨e1, _, e3, e4, e5, e6, e2⟩ := chk_zero (c := ⟨qb, bi, ops⟩) (by rw [hf]; exact h0)
    rw [hf] at e1
    have hl := h.1
    simp only at e6 hl
    exact ⟨congrArg Prod.snd e1, by omega, fun g hg => ⟨(fit_of_code e3 e4 e5 (e2 g hg)).1, (fit_of_code e3 e4 e5 (e2 g hg)).2.1, (prFit_of_code e3 e4 e5 (e2 g hg)).k.1⟩⟩
  have Hz0 := Lib.hid hz0
  rw [hf]
  have Hf := Lib.hid hf
  obtain ⟨H, hH⟩ : ∃ H, w.heap.size = H := ⟨_, rfl⟩
  obtain ⟨A1, hA1⟩ : ∃ A1, w.alloc (.cells #[.int .i64 qb, .int .i64 bi, .slice ao n cp] 24) = A1 := ⟨_, rfl⟩
  obtain ⟨A2, hA2⟩ : ∃ A2, A1.alloc (.cells #[.int .i64 0, .int .i64 0, .int .i64 0, .int .i64 0, .int .i64 0, .int .i64 0] 26) = A2 := ⟨_, rfl⟩
  obtain ⟨A3, hA3⟩ : ∃ A3, A2.alloc (.cells #[.int .i64 0, .int .i64 0] 28) = A3 := ⟨_, rfl⟩
  have s1 : A1.heap.size = H + 1 := by rw [← hA1, ← hH]; simp
  have s2 : A2.heap.size = H + 2 := by rw [← hA2]; simp; omega
  have x1 : Ext w A1 := by rw [← hA1]; exact ext_al _ _
  have x2 : Ext A1 A2 := by rw [← hA2]; exact ext_al _ _
  have x3 : Ext A2 A3 := by rw [← hA3]; exact ext_al _ _
  have bC : CiB A3 H qb bi ao n cp := by
    have : CiB A1 H qb bi ao n cp := by rw [← hA1, ← hH]; exact ⟨heap_alloc_new w _⟩
    exact (this.ext x2).ext x3
  have bT : TlB A3 (H + 1) 0 0 0 0 0 0 := by
    have : TlB A2 (H + 1) 0 0 0 0 0 0 := by rw [← hA2, ← s1]; exact tlb_new A1 0 0 0 0 0 0
    exact this.ext x3
  have bF : FtB A3 (H + 2) 0 0 := by rw [← hA3, ← s2]; exact ⟨heap_alloc_new A2 _⟩
  have E0 : Ext w A3 := (x1.trans x2).trans x3
  have hA : (( w.alloc (.cells #[.int .i64 qb, .int .i64 bi, .slice ao n cp] 24)).alloc (.cells #[.int .i64 0, .int .i64 0, .int .i64 0, .int .i64 0, .int .i64 0, .int .i64 0] 26)).alloc (.cells #[.int .i64 0, .int .i64 0] 28) = A3 := by rw [hA1, hA2, hA3]
  have Hl := Lib.hid h.1
  subst hH
  simp only at Hl ⊢
  obtain ⟨V, hV⟩ : ∃ V, (if f0 = 0 then Value.agg #[.int .i64 (ops.length : Int), .int .i64 (cntP isFork ops), .int .i64 (cntP isFine ops), .int .i64 (cntP isWide ops), .int .i64 (cntP isMeet ops), .int .i64 (lvs plR ops).2] else .agg #[.int .i64 0, .int .i64 0, .int .i64 0, .int .i64 0, .int .i64 0, .int .i64 0]) = V := ⟨_, rfl⟩
  rw [hV]
  have HV := Lib.hid hV
  clear hV
  have HE0 := Lib.hid E0; have HO := Lib.hid (h.ext E0); have HC := Lib.hid bC; have HT := Lib.hid bT; have HFt := Lib.hid bF
  have m0 := bC.x0; have m1 := bC.x1; have m2 := bC.x2
  rw [← hA] at m0 m1 m2
  have HA := Lib.hid hA
  clear h E0 bC bT bF hf hz0 x1 x2 x3 s1 s2 hA1 hA2 hA3 hA
  go_enter Tryd.func8, Tryd.ntmps8
  go_wp2_with fail
  rw [HA.out]
  have HK := Lib.hid (RCheck_any ⟨qb, bi, ops⟩ ao n cp A3 HO.out hn hcp)
  rw [Hf.out] at HK
  refine HK.out.mono ?_
  rintro e w1 ⟨rfl, hx1⟩
  have Ef := ext_al w1 (.cells #[.int .i64 f0, .int .i64 f1] 28)
  have bf1 : FtB (w1.alloc (.cells #[.int .i64 f0, .int .i64 f1] 28)) w1.heap.size f0 f1 := ⟨heap_alloc_new w1 _⟩
  have q0 := bf1.x0; have q1 := bf1.x1
  have HX1 := Lib.hid (hx1.trans Ef)
  have Hf1 := Lib.hid bf1
  have bz := HFt.out.ext HX1.out; have x0' := bz.x0; have x1' := bz.x1; have g0' := bz.f 0; have g1' := bz.f 1
  have bt := HT.out.ext HX1.out; have y0 := bt.x0; have y1 := bt.x1; have y2 := bt.x2; have y3 := bt.x3; have y4 := bt.x4; have y5 := bt.x5
  have j0 := bt.f 0; have j1 := bt.f 1; have j2 := bt.f 2; have j3 := bt.f 3; have j4 := bt.f 4; have j5 := bt.f 5
  have bc := HC.out.ext HX1.out; have v2 := bc.x2
  have hsz1 := hx1.size
  have hA3 := HFt.out.lt
  clear bz bc m0 m1 m2 hx1 Ef bf1 HK Hf
  by_cases h0 : f0 = 0
  · subst h0
    obtain ⟨rfl, hn4, hfit⟩ := Hz0.out rfl
    have HW : Hid (V = .agg #[.int .i64 (ops.length : Int), .int .i64 (cntP isFork ops), .int .i64 (cntP isFine ops), .int .i64 (cntP isWide ops), .int .i64 (cntP isMeet ops), .int .i64 (lvs plR ops).2]) := by have := HV.out; rw [if_pos rfl] at this; exact this.symm
    have HTz := Lib.hid bt
    have HbF := Lib.hid (HFt.out.ext HX1.out)
    clear bt
    have HbQ := Lib.hid Hf1.out
    have hQlt := Hf1.out.lt
    have hsW : (w1.alloc (.cells #[.int .i64 0, .int .i64 0] 28)).heap.size = w1.heap.size + 1 := by simp
    go_wp2_with fail
    generalize w1.alloc (.cells #[.int .i64 0, .int .i64 0] 28) = W1 at *
    have bT0 := tlb_new W1 (n : Int) 0 0 0 0 0
    have ET0 := ext_al W1 (.cells #[.int .i64 (n : Int), .int .i64 0, .int .i64 0, .int .i64 0, .int .i64 0, .int .i64 0] 26)
    have hs2 : (W1.alloc (.cells #[.int .i64 (n : Int), .int .i64 0, .int .i64 0, .int .i64 0, .int .i64 0, .int .i64 0] 26)).heap.size = W1.heap.size + 1 := by simp
    rw [← hsW] at *
    generalize W1.alloc (.cells #[.int .i64 (n : Int), .int .i64 0, .int .i64 0, .int .i64 0, .int .i64 0, .int .i64 0] 26) = W2 at *
    rw [run_make200]
    simp only [Result.andThen]
    rw [Oper.upon_value]
    have bL0 := lastR_new W2
    have EL0 := ext_al W2 (.cells (Array.replicate 200 (.int .i64 0)) 3)
    have HR0 := Lib.hid (show Ext W1 (W2.alloc (.cells (Array.replicate 200 (.int .i64 0)) 3)) ∧ TlB (W2.alloc (.cells (Array.replicate 200 (.int .i64 0)) 3)) W1.heap.size (n : Int) 0 0 0 0 0 ∧ LastR (W2.alloc (.cells (Array.replicate 200 (.int .i64 0)) 3)) W2.heap.size (fun _ => 0) from ⟨ET0.trans EL0, bT0.ext EL0, bL0⟩)
    generalize W2.alloc (.cells (Array.replicate 200 (.int .i64 0)) 3) = W3 at *
    obtain ⟨P, hP⟩ : ∃ P, W1.heap.size = P := ⟨_, rfl⟩
    obtain ⟨Lb, hLb⟩ : ∃ L, W2.heap.size = L := ⟨_, rfl⟩
    rw [hP] at HR0 ⊢
    rw [hLb] at HR0 ⊢
    have hPLne : P ≠ Lb := by omega
    have hLge : W1.heap.size ≤ Lb := by omega
    have lB := World.block_lt_of_cell? W1 ⟨w.heap.size, 2, none⟩ v2
    have Hfit := Lib.hid hfit
    have HHz : Hid (w.heap.size + 1 + 1 ≠ w.heap.size + 1) := by unfold Hid; omega
    have hsA := HE0.out.size; have hsX := HX1.out.size
    clear bT0 ET0 bL0 EL0 hs2 hLb hfit y0 y1 y2 y3 y4 y5 j0 j1 j2 j3 j4 j5 x0' x1' g0' g1' q0 q1 HC HT HFt HA HV Hf1 Hz0
    go_wp2_with fail
    go_loopg [7] n (fun kk s7 wx => ∃ i : Nat, s7 = .int .i64 (i : Int) ∧ i ≤ n ∧ n - i = kk ∧ Ext W1 wx ∧ TlB wx P (n : Int) (cntP isFork (ops.take i)) (cntP isFine (ops.take i)) (cntP isWide (ops.take i)) (cntP isMeet (ops.take i)) (lvs plR (ops.take i)).2 ∧ LastR wx Lb (lvs plR (ops.take i)).1)
    case atStart => exact ⟨0, rfl, by omega, by omega, HR0.out.1, by simpa [cntP_nil, lvs] using HR0.out.2.1, by simpa [lvs] using HR0.out.2.2⟩
    case round =>
      clear HR0
      obtain ⟨i, rfl, hi1, hk, hE, hT, hLa⟩ := hrel
      have hlen : (ops.take i).length = i := by rw [List.length_take, Hl.out]; omega
      have b1 := cntP_bound isFork (ops.take i); have b2 := cntP_bound isFine (ops.take i); have b3 := cntP_bound isWide (ops.take i); have b4 := cntP_bound isMeet (ops.take i)
      have hbd := lvs_bound plR (ops.take i)
      rw [hlen] at b1 b2 b3 b4 hbd
      have v2r := ckeep hE lB v2
      by_cases hin : i = n
      · have h2 : ¬ (i : Int) < (n : Int) := by omega
        rw [List.take_of_length_le (by rw [Hl.out]; omega)] at hT
        have HW2 := Lib.hid HW.out
        obtain ⟨ca, hca⟩ : ∃ x, cntP isFork ops = x := ⟨_, rfl⟩
        obtain ⟨cb, hcb⟩ : ∃ x, cntP isFine ops = x := ⟨_, rfl⟩
        obtain ⟨cc, hcc⟩ : ∃ x, cntP isWide ops = x := ⟨_, rfl⟩
        obtain ⟨cd, hcd⟩ : ∃ x, cntP isMeet ops = x := ⟨_, rfl⟩
        obtain ⟨lv, hlv⟩ : ∃ x, (lvs plR ops).2 = x := ⟨_, rfl⟩
        rw [hca, hcb, hcc, hcd, hlv] at hT HW2
        rw [Hl.out] at HW2
        have bt := HTz.out.ext hE; have bF := HbF.out.ext hE; have bQ := HbQ.out.ext hE
        obtain ⟨zT, zF0, zF1⟩ := bt.putTF HHz.out (n : Int) ca cb cc cd lv 0 0 bF.x0 bF.x1
        have zE : Ext w (putTF wr (w.heap.size + 1) (w.heap.size + 1 + 1) (n : Int) ca cb cc cd lv 0 0) := ext_putTF ((HE0.out.trans HX1.out).trans hE) (by omega) (by omega) _ _ _ _ _ _ _ _
        obtain ⟨Wz, hWz⟩ : ∃ Wz, putTF wr (w.heap.size + 1) (w.heap.size + 1 + 1) (n : Int) ca cb cc cd lv 0 0 = Wz := ⟨_, rfl⟩
        rw [hWz] at zT zF0 zF1 zE
        unfold putTF at hWz
        have HWz := Lib.hid hWz
        have HzE := Lib.hid zE
        have y0 := bt.x0; have y1 := bt.x1; have y2 := bt.x2; have y3 := bt.x3; have y4 := bt.x4; have y5 := bt.x5
        have j0 := bt.f 0; have j1 := bt.f 1; have j2 := bt.f 2; have j3 := bt.f 3; have j4 := bt.f 4; have j5 := bt.f 5
        have x0' := bF.x0; have x1' := bF.x1; have g0' := bF.f 0; have g1' := bF.f 1
        have t0 := hT.x0; have t1 := hT.x1; have t2 := hT.x2; have t3 := hT.x3; have t4 := hT.x4; have t5 := hT.x5
        have q0 := bQ.x0; have q1 := bQ.x1
        have ne1 : P ≠ w.heap.size + 1 := by omega
        have ne2 : P ≠ w.heap.size + 1 + 1 := by omega
        have ne3 : w1.heap.size ≠ w.heap.size + 1 := by omega
        have ne4 : w1.heap.size ≠ w.heap.size + 1 + 1 := by omega
        clear hWz zE bt bF bQ hca hcb hcc hcd b1 b2 b3 b4 hT hE hlen v2 hlv hbd hLa
        go_wp2_with fail
        go_region
        go_wp2_with fail
        rw [HWz.out]
        have u0 := zT.drew.x0; have u1 := zT.drew.x1; have u2 := zT.drew.x2; have u3 := zT.drew.x3; have u4 := zT.drew.x4; have u5 := zT.drew.x5
        have v0 : Wz.drew.cell? ⟨w.heap.size + 1 + 1, 0, none⟩ = _ := zF0
        have v1 : Wz.drew.cell? ⟨w.heap.size + 1 + 1, 1, none⟩ = _ := zF1
        refine bodyPost_ret (v := .tuple #[.agg #[.int .i64 (n : Int), .int .i64 ca, .int .i64 cb, .int .i64 cc, .int .i64 cd, .int .i64 lv], .agg #[.int .i64 0, .int .i64 0]]) (by simp [results, Tryd.results8, go_sem, u0, u1, u2, u3, u4, u5, v0, v1]) rfl ⟨by rw [HW2.out], Below.drew HzE.out⟩
      · have h2 : (i : Int) < (n : Int) := by omega
        have h0 : (0 : Int) ≤ (i : Int) := by omega
        obtain ⟨b, o, rfl⟩ := HO.out.some_of (by omega)
        obtain ⟨g, hg⟩ : ∃ g, ops[i]? = some g := ⟨_, List.getElem?_eq_getElem (by rw [Hl.out]; omega)⟩
        obtain ⟨a1, n1, c1, a2, n2, c2, d0, d1, d2, d3, d4, d5, hL⟩ := (HO.out.ext HX1.out).at i g hg
        have e0 := cell_ext d0 hE; have e1 := cell_ext d1 hE; have e2 := cell_ext d2 hE; have e3 := cell_ext d3 hE; have e4 := cell_ext d4 hE; have e5 := cell_ext d5 hE
        obtain ⟨hlf, hpf, hk0⟩ := Hfit.out g (List.mem_of_getElem? hg)
        have hst : ops.take (i + 1) = ops.take i ++ [g] := by rw [List.take_add_one, hg]; rfl
        have hst2 : lvs plR (ops.take (i + 1)) = lvStep plR (lvs plR (ops.take i)) g := by rw [hst, lvs_snoc]
        have hn1 := hL.i1.1; have hn2 := hL.i2.1
        have f1 : (isFork g = true → cntP isFork (ops.take (i + 1)) = cntP isFork (ops.take i) + 1) ∧ (isFork g = false → cntP isFork (ops.take (i + 1)) = cntP isFork (ops.take i)) := ⟨fun hb => by rw [hst]; exact cntP_yes hb, fun hb => by rw [hst]; exact cntP_no hb⟩
        obtain ⟨ca, hca⟩ : ∃ x, cntP isFork (ops.take i) = x := ⟨_, rfl⟩
        rw [hca] at f1 b1 hT
        obtain ⟨ca', hca'⟩ : ∃ x, ca + 1 = x := ⟨_, rfl⟩
        have ww1 : IntKind.i64.wrap (ca + 1) = ca' := by rw [IntKind.wrap_i64]; omega
        rw [hca'] at f1
        obtain ⟨ca1, hca1⟩ : ∃ x, cntP isFork (ops.take (i + 1)) = x := ⟨_, rfl⟩
        rw [hca1] at f1
        have F1 := Lib.hid f1; have G1 := Lib.hid hca1
        clear f1 hca hca' hca1 b1
        have f2 : (isFine g = true → cntP isFine (ops.take (i + 1)) = cntP isFine (ops.take i) + 1) ∧ (isFine g = false → cntP isFine (ops.take (i + 1)) = cntP isFine (ops.take i)) := ⟨fun hb => by rw [hst]; exact cntP_yes hb, fun hb => by rw [hst]; exact cntP_no hb⟩
        obtain ⟨cb, hcb⟩ : ∃ x, cntP isFine (ops.take i) = x := ⟨_, rfl⟩
        rw [hcb] at f2 b2 hT
        obtain ⟨cb', hcb'⟩ : ∃ x, cb + 1 = x := ⟨_, rfl⟩
        have ww2 : IntKind.i64.wrap (cb + 1) = cb' := by rw [IntKind.wrap_i64]; omega
        rw [hcb'] at f2
        obtain ⟨cb1, hcb1⟩ : ∃ x, cntP isFine (ops.take (i + 1)) = x := ⟨_, rfl⟩
        rw [hcb1] at f2
        have F2 := Lib.hid f2; have G2 := Lib.hid hcb1
        clear f2 hcb hcb' hcb1 b2
        have f3 : (isWide g = true → cntP isWide (ops.take (i + 1)) = cntP isWide (ops.take i) + 1) ∧ (isWide g = false → cntP isWide (ops.take (i + 1)) = cntP isWide (ops.take i)) := ⟨fun hb => by rw [hst]; exact cntP_yes hb, fun hb => by rw [hst]; exact cntP_no hb⟩
        obtain ⟨cc, hcc⟩ : ∃ x, cntP isWide (ops.take i) = x := ⟨_, rfl⟩
        rw [hcc] at f3 b3 hT
        obtain ⟨cc', hcc'⟩ : ∃ x, cc + 1 = x := ⟨_, rfl⟩
        have ww3 : IntKind.i64.wrap (cc + 1) = cc' := by rw [IntKind.wrap_i64]; omega
        rw [hcc'] at f3
        obtain ⟨cc1, hcc1⟩ : ∃ x, cntP isWide (ops.take (i + 1)) = x := ⟨_, rfl⟩
        rw [hcc1] at f3
        have F3 := Lib.hid f3; have G3 := Lib.hid hcc1
        clear f3 hcc hcc' hcc1 b3
        have f4 : (isMeet g = true → cntP isMeet (ops.take (i + 1)) = cntP isMeet (ops.take i) + 1) ∧ (isMeet g = false → cntP isMeet (ops.take (i + 1)) = cntP isMeet (ops.take i)) := ⟨fun hb => by rw [hst]; exact cntP_yes hb, fun hb => by rw [hst]; exact cntP_no hb⟩
        obtain ⟨cd, hcd⟩ : ∃ x, cntP isMeet (ops.take i) = x := ⟨_, rfl⟩
        rw [hcd] at f4 b4 hT
        obtain ⟨cd', hcd'⟩ : ∃ x, cd + 1 = x := ⟨_, rfl⟩
        have ww4 : IntKind.i64.wrap (cd + 1) = cd' := by rw [IntKind.wrap_i64]; omega
        rw [hcd'] at f4
        obtain ⟨cd1, hcd1⟩ : ∃ x, cntP isMeet (ops.take (i + 1)) = x := ⟨_, rfl⟩
        rw [hcd1] at f4
        have F4 := Lib.hid f4; have G4 := Lib.hid hcd1
        clear f4 hcd hcd' hcd1 b4
        obtain ⟨S, hS⟩ : ∃ S, lvs plR (ops.take i) = S := ⟨_, rfl⟩
        rw [hS] at hst2 hbd hT hLa
        obtain ⟨f, gr⟩ := S
        simp only at hT hLa
        have Ea := ext_al wr (.cells #[.int .i64 g.kind, .int .i64 g.k, .slice a1 n1 c1, .int .i64 g.q, .int .i64 g.bit, .slice a2 n2 c2] 45)
        have bO := opbx_new wr g.kind g.k a1 n1 c1 g.q g.bit a2 n2 c2
        have hPlt := hT.lt; have hLlt := hLa.lt
        have HM := Lib.hid (fun (wx : World) (hx : Ext W1 wx) => touches_any g a1 n1 c1 a2 n2 c2 wx (hL.ext hx) (by have := hlf.ctl; omega) (by have := hlf.few; omega) hlf.bit hlf.cnd)
        have hPL' : tchQ g.kind g.q ++ g.ctl ++ tchB 100 g.kind g.bit ++ tchC 100 g.cnd = plR g := rfl
        rw [hPL'] at HM
        have Hpl := Lib.hid (plR_range hlf hpf)
        obtain ⟨L, hLL⟩ : ∃ L, plR g = L := ⟨_, rfl⟩
        rw [hLL] at HM Hpl
        have hst3 : lvs plR (ops.take (i + 1)) = (updL f L (lev f L), if gr < lev f L then lev f L else gr) := by rw [hst2, ← hLL]; rfl
        have Hst := Lib.hid hst3
        have Hbd := Lib.hid hbd
        obtain ⟨kd, kk', ctl, qq, bb, cnd⟩ := g
        simp only at e0 e1 e2 e3 e4 e5 bO Ea HM hn1 hk0
        have HS0 := Lib.hid (show RcS W1 (wr.alloc (.cells #[.int .i64 kd, .int .i64 kk', .slice a1 n1 c1, .int .i64 qq, .int .i64 bb, .slice a2 n2 c2] 45)) P Lb wr.heap.size (n : Int) ca cb cc cd gr f kd kk' a1 n1 c1 qq bb a2 n2 c2 from ⟨hE.trans Ea, hT.ext Ea, hLa.ext Ea, bO⟩)
        have p0 := bO.x0
        have hne1 : P ≠ Lb := hPLne
        have hne2 : P ≠ wr.heap.size := by omega
        have hPge : W1.heap.size ≤ P := by omega
        clear d0 d1 d2 d3 d4 d5 hst hst2 hst3 hg hL bO Ea hbd hS hlen hPL' hLL hn2 hT hLa hE v2 hlf hpf
        go_upto_if 39 with fail
        generalize wr.alloc (.cells #[.int .i64 kd, .int .i64 kk', .slice a1 n1 c1, .int .i64 qq, .int .i64 bb, .slice a2 n2 c2] 45) = w5 at *
        clear e0 e1 e2 e3 e4 e5 p0 v2r
        go_cut [] from 25 to 115 (fun wx => RcS W1 wx P Lb wr.heap.size (n : Int) ca1 cb cc cd gr f kd kk' a1 n1 c1 qq bb a2 n2 c2)
        case first =>
          have t := HS0.out.tl.x1; have j := HS0.out.tl.f 1
          by_cases k3 : kd = 3
          · have q1 := bt' k3
            have B : Hid (isFork ⟨kd, kk', ctl, qq, bb, cnd⟩ = true) := by simp [Hid, isFork, k3]
            clear k3
            go_wp2_with fail
            go_meet
            exact (HS0.out.put1 hPge hne1 hne2 ca').ct1 (F1.out.1 B.out)
          · have q1 := bf k3
            have B : Hid (isFork ⟨kd, kk', ctl, qq, bb, cnd⟩ = false) := by simp [Hid, isFork, k3]
            clear k3
            go_wp2_with fail
            go_meet
            exact HS0.out.ct1 (F1.out.2 B.out)
        case rest =>
        have HS1 := Lib.hid hcut
        clear hcut HS0
        clear F1
        have p0 := HS1.out.bx.x0; have p1 := HS1.out.bx.x1
        go_upto_region 12 with fail
        go_cut [52] from 25 to 115 (fun s52 wx => s52 = .bool (isFine ⟨kd, kk', ctl, qq, bb, cnd⟩) ∧ RcS W1 wx P Lb wr.heap.size (n : Int) ca1 cb cc cd gr f kd kk' a1 n1 c1 qq bb a2 n2 c2)
        case first =>
          by_cases k4 : kd = 4
          · have q1 := bt' k4
            have htm : kk'.tmod 4 = kk' % 4 := Int.tmod_eq_emod_of_nonneg hk0
            by_cases kf : kk' % 4 = 0
            · have q2 : ¬ (0 : Int) < kk'.tmod 4 := by rw [htm, kf]; omega
              have q3 : decide ((0 : Int) < kk'.tmod 4) = false := df q2
              have B : Hid (isFine ⟨kd, kk', ctl, qq, bb, cnd⟩ = false) := by simp [Hid, isFine, k4]; omega
              have Hkf := Lib.hid kf
              clear k4 kf htm
              go_wp2_with fail
              go_meet
              exact ⟨by rw [B.out, df (p := 0 < kk' % 4) (by have := Hkf.out; omega)], HS1.out⟩
            · have q2 : (0 : Int) < kk'.tmod 4 := by rw [htm]; omega
              have q3 : decide ((0 : Int) < kk'.tmod 4) = true := dt q2
              have B : Hid (isFine ⟨kd, kk', ctl, qq, bb, cnd⟩ = true) := by simp [Hid, isFine, k4]; omega
              have Hkf := Lib.hid kf
              clear k4 kf htm
              go_wp2_with fail
              go_meet
              exact ⟨by rw [B.out, dt (p := 0 < kk' % 4) (by have := Hkf.out; omega)], HS1.out⟩
          · have q1 := bf k4
            have B : Hid (isFine ⟨kd, kk', ctl, qq, bb, cnd⟩ = false) := by simp [Hid, isFine, k4]
            clear k4
            go_wp2_with fail
            go_meet
            exact ⟨by rw [B.out], HS1.out⟩
        case rest =>
        obtain ⟨rfl, hcut⟩ := hcut
        clear p0 p1 HS1
        have HS1 := Lib.hid hcut
        clear hcut
        obtain ⟨fb, hfb⟩ : ∃ x, isFine ⟨kd, kk', ctl, qq, bb, cnd⟩ = x := ⟨_, rfl⟩
        rw [hfb] at F2 ⊢
        clear hfb
        go_upto_if 52 with fail
        go_cut [] from 25 to 115 (fun wx => RcS W1 wx P Lb wr.heap.size (n : Int) ca1 cb1 cc cd gr f kd kk' a1 n1 c1 qq bb a2 n2 c2)
        case first =>
          have t := HS1.out.tl.x2; have j := HS1.out.tl.f 2
          cases fb
          · skip
            go_wp2_with fail
            go_meet
            exact HS1.out.ct2 (F2.out.2 (by first | rfl | trivial))
          · skip
            go_wp2_with fail
            go_meet
            exact (HS1.out.put2 hPge hne1 hne2 cb').ct2 (F2.out.1 (by first | rfl | trivial))
        case rest =>
        have HS2 := Lib.hid hcut
        clear hcut HS1
        clear F2
        have p0 := HS2.out.bx.x0
        go_upto_if 59 with fail
        clear p0
        go_cut [] from 25 to 115 (fun wx => RcS W1 wx P Lb wr.heap.size (n : Int) ca1 cb1 cc cd1 gr f kd kk' a1 n1 c1 qq bb a2 n2 c2)
        case first =>
          have t := HS2.out.tl.x4; have j := HS2.out.tl.f 4
          by_cases k5 : 5 ≤ kd
          · have q1 : decide (5 ≤ kd) = true := dt k5
            have B : Hid (isMeet ⟨kd, kk', ctl, qq, bb, cnd⟩ = true) := by simp [Hid, isMeet, k5]
            have q2 := k5
            clear k5
            go_wp2_with fail
            go_meet
            exact (HS2.out.put4 hPge hne1 hne2 cd').ct4 (F4.out.1 B.out)
          · have q1 : decide (5 ≤ kd) = false := df k5
            have B : Hid (isMeet ⟨kd, kk', ctl, qq, bb, cnd⟩ = false) := by simp [Hid, isMeet]; omega
            have q2 := k5
            clear k5
            go_wp2_with fail
            go_meet
            exact HS2.out.ct4 (F4.out.2 B.out)
        case rest =>
        have HS4 := Lib.hid hcut
        clear hcut HS2
        clear F4
        have p2 := HS4.out.bx.x2
        go_upto_if 67 with fail
        clear p2
        go_cut [] from 25 to 115 (fun wx => RcS W1 wx P Lb wr.heap.size (n : Int) ca1 cb1 cc1 cd1 gr f kd kk' a1 n1 c1 qq bb a2 n2 c2)
        case first =>
          have t := HS4.out.tl.x3; have j := HS4.out.tl.f 3
          by_cases kw : 0 < n1
          · have q1 : (0 : Int) < (n1 : Int) := by omega
            have q2 : decide ((0 : Int) < (n1 : Int)) = true := dt q1
            have B : Hid (isWide ⟨kd, kk', ctl, qq, bb, cnd⟩ = true) := dt (by show 0 < ctl.length; omega)
            clear kw
            go_wp2_with fail
            go_meet
            exact (HS4.out.put3 hPge hne1 hne2 cc').ct3 (F3.out.1 B.out)
          · have q1 : ¬ (0 : Int) < (n1 : Int) := by omega
            have q2 : decide ((0 : Int) < (n1 : Int)) = false := df q1
            have B : Hid (isWide ⟨kd, kk', ctl, qq, bb, cnd⟩ = false) := df (by show ¬ 0 < ctl.length; omega)
            clear kw
            go_wp2_with fail
            go_meet
            exact HS4.out.ct3 (F3.out.2 B.out)
        case rest =>
        have HS5 := Lib.hid hcut
        clear hcut HS4
        clear F3
        have p0 := HS5.out.bx.x0; have p1 := HS5.out.bx.x1; have p2 := HS5.out.bx.x2; have p3 := HS5.out.bx.x3; have p4 := HS5.out.bx.x4; have p5 := HS5.out.bx.x5
        go_wp2_with fail
        refine (HM.out _ HS5.out.ext).mono ?_
        rintro e w6 ⟨⟨a', m, c', rfl, hm1, hm2, hI, hnew⟩, hx6⟩
        have HI := Lib.hid hI
        have HLe := Lib.hid (show ∀ b o, a' = some ⟨b, o, none⟩ → b ≠ Lb ∧ b ≠ P from fun b o e => by have h1 := hnew b o e; have h2 := HS5.out.la.lt; have h3 := HS5.out.tl.lt; omega)
        have HE6 := Lib.hid (HS5.out.ext.trans hx6); have HT6 := Lib.hid (HS5.out.tl.ext hx6); have HLb := Lib.hid (HS5.out.la.ext hx6)
        have hm3 : m ≤ 9223372036854775807 := Nat.le_trans hm1 (Nat.le_trans hm2 (by decide))
        clear p0 p1 p2 p3 p4 p5 hI hnew hx6 HM hm2 HS5
        go_wp2_with fail
        go_loopg [10, 11] m (fun kk s10 s11 wx => ∃ j : Nat, s11 = .int .i64 (j : Int) ∧ j ≤ m ∧ m - j = kk ∧ s10 = .int .i64 (lev f (L.take j)) ∧ wx = w6)
        case atStart => exact ⟨0, rfl, by omega, by omega, rfl, rfl⟩
        case round =>
        obtain ⟨j, rfl, hj1, hkj, rfl, rfl⟩ := hrel
        by_cases hjm : j < m
        · have h3 : (j : Int) < (m : Int) := by omega
          have h30 : (0 : Int) ≤ (j : Int) := by omega
          obtain ⟨b', o', rfl, hbl, hcell⟩ := HI.out.at (by omega)
          have hci := hcell j (by omega)
          have hIl := HI.out.1
          obtain ⟨t, ht⟩ : ∃ t, L.getD j 0 = t := ⟨_, rfl⟩
          rw [ht] at hci
          have htm : 0 ≤ t ∧ t < 200 := Hpl.out t (by rw [← ht, List.getD_eq_getElem?_getD, List.getElem?_eq_getElem (by omega)]; exact List.getElem_mem _)
          have hsn : lev f (L.take (j + 1)) = levOne f (lev f (L.take j)) t := by rw [take_succ' L j (by omega), ht, lev_snoc]
          obtain ⟨tn, rfl⟩ : ∃ tn : Nat, t = (tn : Int) := ⟨t.toNat, by omega⟩
          obtain ⟨x1, x2⟩ := HLb.out tn (by omega)
          have ht0 := htm.1; have ht1 := htm.2
          have hfb := Hbd.out.1 (tn : Int)
          unfold levOne at hsn
          obtain ⟨ft, hft⟩ : ∃ x, f (tn : Int) = x := ⟨_, rfl⟩
          obtain ⟨lv, hlv⟩ : ∃ x, lev f (L.take j) = x := ⟨_, rfl⟩
          rw [hft] at x1 hfb hsn
          rw [hlv] at hsn ⊢
          obtain ⟨fu, hfu⟩ : ∃ x, ft + 1 = x := ⟨_, rfl⟩
          have hw1 : IntKind.i64.wrap (ft + 1) = fu := by rw [IntKind.wrap_i64]; omega
          rw [hfu] at hsn
          by_cases hlt : lv ≤ ft
          · rw [if_pos (by omega)] at hsn
            have Hsn := Lib.hid hsn
            clear hcell ht hsn htm hft hlv hfu hfb hIl
            go_wp2_with fail
            go_roundg (m - (j + 1))
            case measure => omega
            case rel => exact ⟨j + 1, by go_num, by omega, rfl, by rw [Hsn.out], rfl⟩
          · rw [if_neg (by omega)] at hsn
            have Hsn := Lib.hid hsn
            clear hcell ht hsn htm hft hlv hfu hfb hIl
            go_wp2_with fail
            go_roundg (m - (j + 1))
            case measure => omega
            case rel => exact ⟨j + 1, by go_num, by omega, rfl, by rw [Hsn.out], rfl⟩
        have h3 : ¬ (j : Int) < (m : Int) := by omega
        have hIl := HI.out.1
        rw [List.take_of_length_le (by omega)]
        have hvb := lev_bound Hbd.out.1 (by omega) L
        obtain ⟨v, hv⟩ : ∃ v, lev f L = v := ⟨_, rfl⟩
        rw [hv] at Hst hvb ⊢
        clear hv hIl hjm
        go_wp2_with fail
        go_loopg [12] m (fun kk s12 wx => ∃ j : Nat, s12 = .int .i64 (j : Int) ∧ j ≤ m ∧ m - j = kk ∧ Ext W1 wx ∧ IntsAt wx a' m L ∧ TlB wx P (n : Int) ca1 cb1 cc1 cd1 gr ∧ LastR wx Lb (updL f (L.take j) v))
        case atStart => exact ⟨0, rfl, by omega, by omega, HE6.out, HI.out, HT6.out, by simpa [updL_nil] using HLb.out⟩
        case round =>
        have Hlen := Lib.hid HI.out.1
        clear HI HLb HE6 HT6
        obtain ⟨q, rfl, hq1, hkq, hEq, hIq, hTq, hLq⟩ := hrel
        by_cases hqm : q < m
        · have h4 : (q : Int) < (m : Int) := by omega
          have h40 : (0 : Int) ≤ (q : Int) := by omega
          obtain ⟨b', o', rfl, hbl, hcell⟩ := hIq.at (by omega)
          have hci := hcell q (by omega)
          obtain ⟨t, ht⟩ : ∃ t, L.getD q 0 = t := ⟨_, rfl⟩
          rw [ht] at hci
          have htm : 0 ≤ t ∧ t < 200 := Hpl.out t (by rw [← ht, List.getD_eq_getElem?_getD, List.getElem?_eq_getElem (by rw [Hlen.out]; omega)]; exact List.getElem_mem _)
          have hsn : updL f (L.take (q + 1)) v = updL (updL f (L.take q) v) [t] v := by rw [take_succ' L q (by rw [Hlen.out]; omega), ht, updL_snoc]
          obtain ⟨tn, rfl⟩ : ∃ tn : Nat, t = (tn : Int) := ⟨t.toNat, by omega⟩
          have Hsn := Lib.hid hsn
          obtain ⟨x1, x2⟩ := hLq tn (by omega)
          have ht0 := htm.1; have ht1 := htm.2
          have hnn := (HLe.out b' o' rfl).1
          have HP := Lib.hid (hLq.put tn v)
          have HIp := Lib.hid (hIq.putFar (g := Lb) (k := tn) (u := .int .i64 v) (fun b o e => by cases e; exact hnn))
          have HTp := Lib.hid (hTq.far (g' := Lb) (k := tn) (fun e => hne1 e.symm) (.int .i64 v))
          have HEp := Lib.hid (cput (g := Lb) (o := tn) hEq hLge (.int .i64 v))
          clear hcell ht hsn htm hEq hIq hTq hLq
          go_wp2_with fail
          go_roundg (m - (q + 1))
          case measure => omega
          case rel => exact ⟨q + 1, by go_num, by omega, rfl, HEp.out, HIp.out, HTp.out, by rw [Hsn.out]; exact HP.out⟩
        have h4 : ¬ (q : Int) < (m : Int) := by omega
        rw [List.take_of_length_le (by rw [Hlen.out]; omega)] at hLq
        have u5 := hTq.x5; have g5 := hTq.f 5
        have HEq := Lib.hid hEq; have HTq := Lib.hid hTq; have HLq := Lib.hid hLq
        clear hLq hIq hEq hTq hqm
        by_cases hgv : gr < v
        · have Hs1 : Hid ((lvs plR (ops.take (i + 1))) = (updL f L v, v)) := by have := Hst.out; rw [if_pos hgv] at this; exact this
          have hdg : decide (gr < v) = true := dt hgv
          clear Hst
          go_wp2_with fail
          go_roundg (n - (i + 1))
          case measure => omega
          case rel => exact ⟨i + 1, by go_num, by omega, rfl, cput HEq.out hPge _, by rw [G1.out, G2.out, G3.out, G4.out, Hs1.out]; exact HTq.out.put5 v, by rw [Hs1.out]; exact HLq.out.far hne1 _⟩
        · have Hs1 : Hid ((lvs plR (ops.take (i + 1))) = (updL f L v, gr)) := by have := Hst.out; rw [if_neg hgv] at this; exact this
          have hdg : decide (gr < v) = false := df hgv
          clear Hst
          go_wp2_with fail
          go_roundg (n - (i + 1))
          case measure => omega
          case rel => exact ⟨i + 1, by go_num, by omega, rfl, HEq.out, by rw [G1.out, G2.out, G3.out, G4.out, Hs1.out]; exact HTq.out, by rw [Hs1.out]; exact HLq.out⟩
  · have e1 := nt h0
    have HW : Hid (V = .agg #[.int .i64 0, .int .i64 0, .int .i64 0, .int .i64 0, .int .i64 0, .int .i64 0]) := by have := HV.out; rw [if_neg h0] at this; exact this.symm
    clear h0
    go_wp2_with fail
    have hHz : w.heap.size + 1 + 1 ≠ w.heap.size + 1 := by omega
    obtain ⟨zT, zF0, zF1⟩ := bt.putTF hHz 0 0 0 0 0 0 f0 f1 x0' x1'
    have zE : Ext w (putTF (w1.alloc (.cells #[.int .i64 f0, .int .i64 f1] 28)) (w.heap.size + 1) (w.heap.size + 1 + 1) 0 0 0 0 0 0 f0 f1) := ext_putTF (HE0.out.trans HX1.out) (by omega) (by omega) _ _ _ _ _ _ _ _
    obtain ⟨Wz, hWz⟩ : ∃ Wz, putTF (w1.alloc (.cells #[.int .i64 f0, .int .i64 f1] 28)) (w.heap.size + 1) (w.heap.size + 1 + 1) 0 0 0 0 0 0 f0 f1 = Wz := ⟨_, rfl⟩
    rw [hWz] at zT zF0 zF1 zE
    unfold putTF at hWz
    have HWz := Lib.hid hWz
    have HzE := Lib.hid zE
    clear hWz zE bt
    go_region
    go_wp2_with fail
    rw [HWz.out]
    have u0 := zT.drew.x0; have u1 := zT.drew.x1; have u2 := zT.drew.x2; have u3 := zT.drew.x3; have u4 := zT.drew.x4; have u5 := zT.drew.x5
    have v0 : Wz.drew.cell? ⟨w.heap.size + 1 + 1, 0, none⟩ = _ := zF0
    have v1 : Wz.drew.cell? ⟨w.heap.size + 1 + 1, 1, none⟩ = _ := zF1
    refine bodyPost_ret (v := .tuple #[.agg #[.int .i64 0, .int .i64 0, .int .i64 0, .int .i64 0, .int .i64 0, .int .i64 0], .agg #[.int .i64 f0, .int .i64 f1]]) (by simp [results, Tryd.results8, go_sem, u0, u1, u2, u3, u4, u5, v0, v1]) rfl ⟨by rw [HW.out], Below.drew HzE.out⟩

end Go.Proofs.YtpabafioofhklaaDoor
