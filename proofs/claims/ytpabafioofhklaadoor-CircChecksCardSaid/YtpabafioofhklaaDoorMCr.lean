/-
  The program's Count.
-/
import Derived.Test.YtpabafioofhklaaDoorMCq

namespace Go.Proofs.YtpabafioofhklaaDoor
open Go.RowKit

/-- The tally of a circuit. -/
def tlyV (c : Gci) : Value := if (chk c).1 = 0 then .agg #[.int .i64 (c.ops.length : Int), .int .i64 (cntP isFork c.ops), .int .i64 (cntP isFine c.ops), .int .i64 (cntP isWide c.ops), .int .i64 (cntP isMeet c.ops), .int .i64 (lvs plP c.ops).2] else .agg #[.int .i64 0, .int .i64 0, .int .i64 0, .int .i64 0, .int .i64 0, .int .i64 0]

theorem tmod4 {k : Int} : k.tmod 4 = 0 ↔ k % 4 = 0 := ⟨fun h => Int.emod_eq_zero_of_dvd (Int.dvd_of_tmod_eq_zero h), fun h => Int.tmod_eq_zero_of_dvd (Int.dvd_of_emod_eq_zero h)⟩

set_option maxHeartbeats 4000000 in
set_option maxRecDepth 100000 in
theorem Count_any (c : Gci) (ao : Option Addr) (n cp : Nat) (w : World) (h : OpsAt w ao n c.ops) (hn : n ≤ cp) (hcp : cp ≤ 9223372036854775807) (hS : Shp w) :
    Calls Tryd.prog 6 #[.agg #[.int .i64 c.qubits, .int .i64 c.bits, .slice ao n cp]] w fun e w' => e = .returned (.tuple #[tlyV c, .agg #[.int .i64 (chk c).1, .int .i64 (chk c).2]]) ∧ Ext w w' := by
  unfold tlyV
  obtain ⟨qb, bi, ops⟩ := c
  obtain ⟨f, hf⟩ : ∃ f, chk ⟨qb, bi, ops⟩ = f := ⟨_, rfl⟩
  obtain ⟨f0, f1⟩ := f
  have hz0 : f0 = 0 → f1 = 0 ∧ n ≤ 4096 ∧ ∀ g ∈ ops, LvFit g := by
    intro h0
    obtain ⟨e1, _, e3, e4, e5, e6, e2⟩ := chk_zero (c := ⟨qb, bi, ops⟩) (by rw [hf]; exact h0)
    rw [hf] at e1
    have hl := h.1
    simp only at e6 hl
    exact ⟨congrArg Prod.snd e1, by omega, fun g hg => (fit_of_code e3 e4 e5 (e2 g hg)).1⟩
  have Hz0 := Lib.hid hz0
  rw [hf]
  have Hf := Lib.hid hf
  obtain ⟨H, hH⟩ : ∃ H, w.heap.size = H := ⟨_, rfl⟩
  obtain ⟨A1, hA1⟩ : ∃ A1, w.alloc (.cells #[.int .i64 qb, .int .i64 bi, .slice ao n cp] 24) = A1 := ⟨_, rfl⟩
  obtain ⟨A2, hA2⟩ : ∃ A2, A1.alloc (.cells #[.int .i64 0, .int .i64 0, .int .i64 0, .int .i64 0, .int .i64 0, .int .i64 0] 26) = A2 := ⟨_, rfl⟩
  obtain ⟨A3, hA3⟩ : ∃ A3, A2.alloc (.cells #[.int .i64 0, .int .i64 0] 28) = A3 := ⟨_, rfl⟩
  have s1 : A1.heap.size = H + 1 := by rw [← hA1, ← hH]; simp
  have s2 : A2.heap.size = H + 2 := by rw [← hA2]; simp; omega
  have x1 : Ext w A1 := by rw [← hA1]; exact ext_al _ _
  have x2 : Ext A1 A2 := by rw [← hA2]; exact ext_al _ _
  have x3 : Ext A2 A3 := by rw [← hA3]; exact ext_al _ _
  have bC : CiB A3 H qb bi ao n cp := by
    have : CiB A1 H qb bi ao n cp := by rw [← hA1, ← hH]; exact ⟨heap_alloc_new w _⟩
    exact (this.ext x2).ext x3
  have bT : TlB A3 (H + 1) 0 0 0 0 0 0 := by
    have : TlB A2 (H + 1) 0 0 0 0 0 0 := by rw [← hA2, ← s1]; exact tlb_new A1 0 0 0 0 0 0
    exact this.ext x3
  have bF : FtB A3 (H + 2) 0 0 := by rw [← hA3, ← s2]; exact ⟨heap_alloc_new A2 _⟩
  have E0 : Ext w A3 := (x1.trans x2).trans x3
  have hA : (( w.alloc (.cells #[.int .i64 qb, .int .i64 bi, .slice ao n cp] 24)).alloc (.cells #[.int .i64 0, .int .i64 0, .int .i64 0, .int .i64 0, .int .i64 0, .int .i64 0] 26)).alloc (.cells #[.int .i64 0, .int .i64 0] 28) = A3 := by rw [hA1, hA2, hA3]
  have Hl := Lib.hid h.1
  subst hH
  simp only at Hl ⊢
  obtain ⟨V, hV⟩ : ∃ V, (if f0 = 0 then Value.agg #[.int .i64 (ops.length : Int), .int .i64 (cntP isFork ops), .int .i64 (cntP isFine ops), .int .i64 (cntP isWide ops), .int .i64 (cntP isMeet ops), .int .i64 (lvs plP ops).2] else .agg #[.int .i64 0, .int .i64 0, .int .i64 0, .int .i64 0, .int .i64 0, .int .i64 0]) = V := ⟨_, rfl⟩
  rw [hV]
  have HV := Lib.hid hV
  clear hV
  have HE0 := Lib.hid E0; have HO := Lib.hid (h.ext E0); have HC := Lib.hid bC; have HT := Lib.hid bT; have HFt := Lib.hid bF; have HS := Lib.hid (hS.ext E0)
  have m0 := bC.x0; have m1 := bC.x1; have m2 := bC.x2
  rw [← hA] at m0 m1 m2
  have HA := Lib.hid hA
  clear h E0 bC bT bF hf hz0 hS x1 x2 x3 s1 s2 hA1 hA2 hA3 hA
  go_enter Tryd.func6, Tryd.ntmps6
  go_wp2_with fail
  rw [HA.out]
  have HK := Lib.hid (Check_any ⟨qb, bi, ops⟩ ao n cp A3 HO.out hn hcp HS.out)
  rw [Hf.out] at HK
  refine HK.out.mono ?_
  rintro e w1 ⟨rfl, hx1⟩
  have Ef := ext_al w1 (.cells #[.int .i64 f0, .int .i64 f1] 28)
  have bf1 : FtB (w1.alloc (.cells #[.int .i64 f0, .int .i64 f1] 28)) w1.heap.size f0 f1 := ⟨heap_alloc_new w1 _⟩
  have q0 := bf1.x0; have q1 := bf1.x1
  have HX1 := Lib.hid (hx1.trans Ef)
  have Hf1 := Lib.hid bf1
  have bz := HFt.out.ext HX1.out; have x0' := bz.x0; have x1' := bz.x1; have g0' := bz.f 0; have g1' := bz.f 1
  have bt := HT.out.ext HX1.out; have y0 := bt.x0; have y1 := bt.x1; have y2 := bt.x2; have y3 := bt.x3; have y4 := bt.x4; have y5 := bt.x5
  have j0 := bt.f 0; have j1 := bt.f 1; have j2 := bt.f 2; have j3 := bt.f 3; have j4 := bt.f 4; have j5 := bt.f 5
  have bc := HC.out.ext HX1.out; have v2 := bc.x2
  have hsz1 := hx1.size
  have hA3 := HFt.out.lt
  clear bz bc m0 m1 m2 hx1 Ef bf1 HK Hf
  by_cases h0 : f0 = 0
  · subst h0
    obtain ⟨rfl, hn4, hfit⟩ := Hz0.out rfl
    have HW : Hid (V = .agg #[.int .i64 (ops.length : Int), .int .i64 (cntP isFork ops), .int .i64 (cntP isFine ops), .int .i64 (cntP isWide ops), .int .i64 (cntP isMeet ops), .int .i64 (lvs plP ops).2]) := by have := HV.out; rw [if_pos rfl] at this; exact this.symm
    have HTz := Lib.hid bt
    have HbF := Lib.hid (HFt.out.ext HX1.out)
    clear bt
    go_upto_if 8 with fail
    generalize w1.alloc (.cells #[.int .i64 0, .int .i64 0] 28) = W1 at *
    have lB := World.block_lt_of_cell? W1 ⟨w.heap.size, 2, none⟩ v2
    have HL := Lib.hid (fun (wx : World) (hx : Ext W1 wx) => (levels_any ops ao n cp wx ((HO.out.ext HX1.out).ext hx) hn hcp hn4 ((HS.out.ext HX1.out).ext hx) hfit).mono (R' := fun e w' => e = .returned (.int .i64 (lvs plP ops).2) ∧ Ext wx w' ∧ Ext W1 w') fun _ _ h => ⟨h.1, h.2, hx.trans h.2⟩)
    obtain ⟨lv, hlv⟩ : ∃ x, (lvs plP ops).2 = x := ⟨_, rfl⟩
    rw [hlv] at HL HW
    have hE00 : Ext W1 W1 := Ext.refl _
    have hE0d : Ext W1 W1.drew := Below.drew (Ext.refl _)
    go_cut [5] from 15 to 21 (fun s5 wx => ∃ P : Nat, s5 = .pointer (some ⟨P, 0, none⟩) ∧ W1.heap.size ≤ P ∧ TlB wx P (n : Int) 0 0 0 0 lv ∧ Ext W1 wx)
    case first =>
      go_region_held3 (fun w' => w'.cell? ⟨w.heap.size, 2, none⟩ = some (.slice ao n cp))
        (refine ckeep (W := W1) ?_ lB v2 <;> (repeat (first | with_reducible assumption | with_reducible refine cput ?_ (by omega) _ | with_reducible refine cthen ?_ _ | with_reducible refine cdrew ?_)))
        (first | (go_at_call 20; (first | (refine (HL.out _ (by with_reducible assumption)).mono ?_; rintro e w4 ⟨rfl, hx4, he4⟩; have z4 := he4.size) | (refine (HL.out _ (cthen (by with_reducible assumption) _)).mono ?_; rintro e w4 ⟨rfl, hx4, he4⟩; have hTn := (tlb_new W1 0 0 0 0 0 0).ext hx4; have z4 := he4.size; have k0 := hTn.x0; have k1 := hTn.x1; have k2 := hTn.x2; have k3 := hTn.x3; have k4 := hTn.x4; have k5 := hTn.x5; have g0 := hTn.f 0; have g1 := hTn.f 1; have g2 := hTn.f 2; have g3 := hTn.f 3; have g4 := hTn.f 4; have g5 := hTn.f 5) | (refine (HL.out _ (cdrew (cthen (by with_reducible assumption) _))).mono ?_; rintro e w4 ⟨rfl, hx4, he4⟩; have hTn := (tlb_new W1 0 0 0 0 0 0).drew.ext hx4; have z4 := he4.size; have k0 := hTn.x0; have k1 := hTn.x1; have k2 := hTn.x2; have k3 := hTn.x3; have k4 := hTn.x4; have k5 := hTn.x5; have g0 := hTn.f 0; have g1 := hTn.f 1; have g2 := hTn.f 2; have g3 := hTn.f 3; have g4 := hTn.f 4; have g5 := hTn.f 5))))
      · go_wp2_with fail
        go_meet
        exact ⟨w4.heap.size, rfl, z4, tlb_new w4 _ _ _ _ _ _, cthen he4 _⟩
      · go_wp2_with fail
        go_meet
        exact ⟨W1.heap.size, rfl, Nat.le_refl _, ((((((hTn.put0 _).put1 _).put2 _).put3 _).put4 _).put5 _), cput (cput (cput (cput (cput (cput he4 (Nat.le_refl _) _) (Nat.le_refl _) _) (Nat.le_refl _) _) (Nat.le_refl _) _) (Nat.le_refl _) _) (Nat.le_refl _) _⟩
    case rest =>
    obtain ⟨P, rfl, hP, hTc, hEc⟩ := hcut
    have v2c := ckeep hEc lB v2
    have HTc := Lib.hid hTc; have HEc := Lib.hid hEc
    have Hfit := Lib.hid hfit
    have HHz : Hid (w.heap.size + 1 + 1 ≠ w.heap.size + 1) := by unfold Hid; omega
    have hsA := HE0.out.size; have hsX := HX1.out.size
    clear hTc hEc hE00 hE0d HL hlv y0 y1 y2 y3 y4 y5 j0 j1 j2 j3 j4 j5 x0' x1' g0' g1' q0 q1 HC HT HFt HA HV Hf1 hfit Hz0 HS
    go_wp2_with fail
    go_loopg [25] n (fun kk s25 wx => ∃ i : Nat, s25 = .int .i64 (i : Int) ∧ i ≤ n ∧ n - i = kk ∧ Ext W1 wx ∧ TlB wx P (n : Int) (cntP isFork (ops.take i)) (cntP isFine (ops.take i)) (cntP isWide (ops.take i)) (cntP isMeet (ops.take i)) lv)
    case atStart => exact ⟨0, rfl, by omega, by omega, HEc.out, by simpa [cntP_nil] using HTc.out⟩
    case round =>
      clear HEc HTc v2c
      obtain ⟨i, rfl, hi1, hk, hE, hT⟩ := hrel
      have hlen : (ops.take i).length = i := by rw [List.length_take, Hl.out]; omega
      have b1 := cntP_bound isFork (ops.take i); have b2 := cntP_bound isFine (ops.take i); have b3 := cntP_bound isWide (ops.take i); have b4 := cntP_bound isMeet (ops.take i)
      rw [hlen] at b1 b2 b3 b4
      by_cases hin : i = n
      · have h2 : ¬ (i : Int) < (n : Int) := by omega
        rw [List.take_of_length_le (by rw [Hl.out]; omega)] at hT
        have HW2 := Lib.hid HW.out
        obtain ⟨ca, hca⟩ : ∃ x, cntP isFork ops = x := ⟨_, rfl⟩
        obtain ⟨cb, hcb⟩ : ∃ x, cntP isFine ops = x := ⟨_, rfl⟩
        obtain ⟨cc, hcc⟩ : ∃ x, cntP isWide ops = x := ⟨_, rfl⟩
        obtain ⟨cd, hcd⟩ : ∃ x, cntP isMeet ops = x := ⟨_, rfl⟩
        rw [hca, hcb, hcc, hcd] at hT HW2
        rw [Hl.out] at HW2
        have bt := HTz.out.ext hE; have bF := HbF.out.ext hE
        obtain ⟨zT, zF0, zF1⟩ := bt.putTF HHz.out (n : Int) ca cb cc cd lv 0 0 bF.x0 bF.x1
        have zE : Ext w (putTF wr (w.heap.size + 1) (w.heap.size + 1 + 1) (n : Int) ca cb cc cd lv 0 0) := ext_putTF ((HE0.out.trans HX1.out).trans hE) (by omega) (by omega) _ _ _ _ _ _ _ _
        obtain ⟨Wz, hWz⟩ : ∃ Wz, putTF wr (w.heap.size + 1) (w.heap.size + 1 + 1) (n : Int) ca cb cc cd lv 0 0 = Wz := ⟨_, rfl⟩
        rw [hWz] at zT zF0 zF1 zE
        unfold putTF at hWz
        have HWz := Lib.hid hWz
        have HzE := Lib.hid zE
        have y0 := bt.x0; have y1 := bt.x1; have y2 := bt.x2; have y3 := bt.x3; have y4 := bt.x4; have y5 := bt.x5
        have j0 := bt.f 0; have j1 := bt.f 1; have j2 := bt.f 2; have j3 := bt.f 3; have j4 := bt.f 4; have j5 := bt.f 5
        have x0' := bF.x0; have x1' := bF.x1; have g0' := bF.f 0; have g1' := bF.f 1
        have t0 := hT.x0; have t1 := hT.x1; have t2 := hT.x2; have t3 := hT.x3; have t4 := hT.x4; have t5 := hT.x5
        clear hWz zE bt bF hca hcb hcc hcd b1 b2 b3 b4 hT hE hlen v2
        go_wp2_with fail
        rw [HWz.out]
        have u0 := zT.x0; have u1 := zT.x1; have u2 := zT.x2; have u3 := zT.x3; have u4 := zT.x4; have u5 := zT.x5
        refine bodyPost_ret (v := .tuple #[.agg #[.int .i64 (n : Int), .int .i64 ca, .int .i64 cb, .int .i64 cc, .int .i64 cd, .int .i64 lv], .agg #[.int .i64 0, .int .i64 0]]) (by simp [results, Tryd.results6, go_sem, u0, u1, u2, u3, u4, u5, zF0, zF1]) rfl ⟨by rw [HW2.out], HzE.out⟩
      · have h2 : (i : Int) < (n : Int) := by omega
        have h0 : (0 : Int) ≤ (i : Int) := by omega
        obtain ⟨b, o, rfl⟩ := HO.out.some_of (by omega)
        obtain ⟨g, hg⟩ : ∃ g, ops[i]? = some g := ⟨_, List.getElem?_eq_getElem (by rw [Hl.out]; omega)⟩
        obtain ⟨a1, n1, c1, a2, n2, c2, e0, e1, e2, e3, e4, e5, hL⟩ := ((HO.out.ext HX1.out).ext hE).at i g hg
        have hkd := (Hfit.out g (List.mem_of_getElem? hg)).kd
        have hst : ops.take (i + 1) = ops.take i ++ [g] := by rw [List.take_add_one, hg]; rfl
        have hn1 := hL.i1.1
        have f1 : (isFork g = true → cntP isFork (ops.take (i + 1)) = cntP isFork (ops.take i) + 1) ∧ (isFork g = false → cntP isFork (ops.take (i + 1)) = cntP isFork (ops.take i)) := ⟨fun hb => by rw [hst]; exact cntP_yes hb, fun hb => by rw [hst]; exact cntP_no hb⟩
        have f2 : (isFine g = true → cntP isFine (ops.take (i + 1)) = cntP isFine (ops.take i) + 1) ∧ (isFine g = false → cntP isFine (ops.take (i + 1)) = cntP isFine (ops.take i)) := ⟨fun hb => by rw [hst]; exact cntP_yes hb, fun hb => by rw [hst]; exact cntP_no hb⟩
        have f3 : (isWide g = true → cntP isWide (ops.take (i + 1)) = cntP isWide (ops.take i) + 1) ∧ (isWide g = false → cntP isWide (ops.take (i + 1)) = cntP isWide (ops.take i)) := ⟨fun hb => by rw [hst]; exact cntP_yes hb, fun hb => by rw [hst]; exact cntP_no hb⟩
        have f4 : (isMeet g = true → cntP isMeet (ops.take (i + 1)) = cntP isMeet (ops.take i) + 1) ∧ (isMeet g = false → cntP isMeet (ops.take (i + 1)) = cntP isMeet (ops.take i)) := ⟨fun hb => by rw [hst]; exact cntP_yes hb, fun hb => by rw [hst]; exact cntP_no hb⟩
        obtain ⟨ca, hca⟩ : ∃ x, cntP isFork (ops.take i) = x := ⟨_, rfl⟩
        obtain ⟨cb, hcb⟩ : ∃ x, cntP isFine (ops.take i) = x := ⟨_, rfl⟩
        obtain ⟨cc, hcc⟩ : ∃ x, cntP isWide (ops.take i) = x := ⟨_, rfl⟩
        obtain ⟨cd, hcd⟩ : ∃ x, cntP isMeet (ops.take i) = x := ⟨_, rfl⟩
        rw [hca] at f1 b1 hT; rw [hcb] at f2 b2 hT; rw [hcc] at f3 b3 hT; rw [hcd] at f4 b4 hT
        obtain ⟨ca', hca'⟩ : ∃ x, ca + 1 = x := ⟨_, rfl⟩
        obtain ⟨cb', hcb'⟩ : ∃ x, cb + 1 = x := ⟨_, rfl⟩
        obtain ⟨cc', hcc'⟩ : ∃ x, cc + 1 = x := ⟨_, rfl⟩
        obtain ⟨cd', hcd'⟩ : ∃ x, cd + 1 = x := ⟨_, rfl⟩
        have wa : IntKind.i64.wrap (ca + 1) = ca' := by rw [IntKind.wrap_i64]; omega
        have wb : IntKind.i64.wrap (cb + 1) = cb' := by rw [IntKind.wrap_i64]; omega
        have wc' : IntKind.i64.wrap (cc + 1) = cc' := by rw [IntKind.wrap_i64]; omega
        have wd : IntKind.i64.wrap (cd + 1) = cd' := by rw [IntKind.wrap_i64]; omega
        rw [hca'] at f1; rw [hcb'] at f2; rw [hcc'] at f3; rw [hcd'] at f4
        have F1 := Lib.hid f1; have F2 := Lib.hid f2; have F3 := Lib.hid f3; have F4 := Lib.hid f4
        have Ea := ext_al wr (.cells #[.int .i64 g.kind, .int .i64 g.k, .slice a1 n1 c1, .int .i64 g.q, .int .i64 g.bit, .slice a2 n2 c2] 45)
        have bO := opbx_new wr g.kind g.k a1 n1 c1 g.q g.bit a2 n2 c2
        have hPlt := hT.lt
        have bT := hT.ext Ea
        have EE := hE.trans Ea
        obtain ⟨kd, kk', ctl, qq, bb, cnd⟩ := g
        simp only at e0 e1 e2 e3 e4 e5 bO Ea bT EE hkd hn1
        have p0 := bO.x0; have p1 := bO.x1; have p2 := bO.x2; have p3 := bO.x3; have p4 := bO.x4; have p5 := bO.x5
        clear hst hg hL f1 f2 f3 f4 hca hcb hcc hcd hca' hcb' hcc' hcd' b1 b2 b3 b4 hT hE hlen Ea v2
        go_upto_region 8 with fail
        clear e0 e1 e2 e3 e4 e5
        generalize wr.alloc (.cells #[.int .i64 kd, .int .i64 kk', .slice a1 n1 c1, .int .i64 qq, .int .i64 bb, .slice a2 n2 c2] 45) = w5 at *
        have hP2 : W1.heap.size ≤ P := hP
        have HbT := Lib.hid bT; have HEE := Lib.hid EE; have HbO := Lib.hid bO
        have t1 := bT.x1; have t2 := bT.x2; have t3 := bT.x3; have t4 := bT.x4; have j1 := bT.f 1; have j2 := bT.f 2; have j3 := bT.f 3; have j4 := bT.f 4
        have hm := (fun h1 h6 => meets_any kd kk' a1 n1 c1 qq bb a2 n2 c2 w5 h1 h6) hkd.1 hkd.2
        have Hm := Lib.hid hm
        clear bT EE bO hm
        by_cases k3 : kd = 3
        · have q1 := bt' k3
          have B1 : Hid (isFork ⟨kd, kk', ctl, qq, bb, cnd⟩ = true) := by simp [Hid, isFork, k3]
          have B2 : Hid (isFine ⟨kd, kk', ctl, qq, bb, cnd⟩ = false) := by simp [Hid, isFine, k3]
          have B4 : Hid (isMeet ⟨kd, kk', ctl, qq, bb, cnd⟩ = false) := by simp [Hid, isMeet, k3]
          clear k3
          have G1 := Lib.hid (F1.out.1 B1.out); have G2 := Lib.hid (F2.out.2 B2.out); have G4 := Lib.hid (F4.out.2 B4.out)
          clear F1 F2 F4 B1 B2 B4
          clear Hm
          have hbe := (HbT.out.put1 ca')
          have p2n : (w5.setCell ⟨P, 1, none⟩ (.int .i64 ca')).cell? ⟨wr.heap.size, 2, none⟩ = some (.slice a1 n1 c1) := cell_put_far (by omega) p2
          have t3n := hbe.x3; have j3n := hbe.f 3
          by_cases hw : 0 < n1
          · have q5 : (0 : Int) < (n1 : Int) := by omega
            have G3 := Lib.hid (F3.out.1 (dt (by show 0 < ctl.length; omega)))
            clear hw F3
            go_wp2_with fail
            go_roundg (n - (i + 1))
            case measure => omega
            case rel => exact ⟨i + 1, by go_num, by omega, rfl, (cput (cput HEE.out hP2 (.int .i64 ca')) hP2 (.int .i64 cc')), by rw [G1.out, G2.out, G3.out, G4.out]; exact ((HbT.out.put1 ca').put3 cc')⟩
          · have q5 : ¬ (0 : Int) < (n1 : Int) := by omega
            have G3 := Lib.hid (F3.out.2 (df (by show ¬ 0 < ctl.length; omega)))
            clear hw F3
            go_wp2_with fail
            go_roundg (n - (i + 1))
            case measure => omega
            case rel => exact ⟨i + 1, by go_num, by omega, rfl, (cput HEE.out hP2 (.int .i64 ca')), by rw [G1.out, G2.out, G3.out, G4.out]; exact (HbT.out.put1 ca')⟩
        by_cases k4 : kd = 4
        · by_cases kf : kk' % 4 = 0
          · have q1 := bf k3; have q2 := bt' k4; have q3 := nf' (tmod4.2 kf); have q4 : decide (5 ≤ kd) = false := df (by omega)
            have B1 : Hid (isFork ⟨kd, kk', ctl, qq, bb, cnd⟩ = false) := by simp [Hid, isFork, k4]
            have B2 : Hid (isFine ⟨kd, kk', ctl, qq, bb, cnd⟩ = false) := by simp [Hid, isFine, k4]; omega
            have B4 : Hid (isMeet ⟨kd, kk', ctl, qq, bb, cnd⟩ = false) := by simp [Hid, isMeet, k4]
            clear k3 k4 kf
            have G1 := Lib.hid (F1.out.2 B1.out); have G2 := Lib.hid (F2.out.2 B2.out); have G4 := Lib.hid (F4.out.2 B4.out)
            clear F1 F2 F4 B1 B2 B4
            rw [q4] at Hm
            clear q4
            go_wp2_with fail
            refine Hm.out.mono ?_
            rintro e w7 ⟨rfl, hx7⟩
            have HbT7 := Lib.hid (HbT.out.ext hx7); have HE7 := Lib.hid (HEE.out.trans hx7)
            have p2 := (HbO.out.ext hx7).x2; have t1 := HbT7.out.x1; have t2 := HbT7.out.x2; have t3 := HbT7.out.x3; have t4 := HbT7.out.x4; have j1 := HbT7.out.f 1; have j2 := HbT7.out.f 2; have j3 := HbT7.out.f 3; have j4 := HbT7.out.f 4
            clear hx7 HbT HEE HbO Hm
            by_cases hw : 0 < n1
            · have q5 : (0 : Int) < (n1 : Int) := by omega
              have G3 := Lib.hid (F3.out.1 (dt (by show 0 < ctl.length; omega)))
              clear hw F3
              go_wp2_with fail
              go_roundg (n - (i + 1))
              case measure => omega
              case rel => exact ⟨i + 1, by go_num, by omega, rfl, (cput HE7.out hP2 (.int .i64 cc')), by rw [G1.out, G2.out, G3.out, G4.out]; exact (HbT7.out.put3 cc')⟩
            · have q5 : ¬ (0 : Int) < (n1 : Int) := by omega
              have G3 := Lib.hid (F3.out.2 (df (by show ¬ 0 < ctl.length; omega)))
              clear hw F3
              go_wp2_with fail
              go_roundg (n - (i + 1))
              case measure => omega
              case rel => exact ⟨i + 1, by go_num, by omega, rfl, HE7.out, by rw [G1.out, G2.out, G3.out, G4.out]; exact HbT7.out⟩
          · have q1 := bf k3; have q2 := bt' k4; have q3 := nt (fun e => kf (tmod4.1 e))
            have B1 : Hid (isFork ⟨kd, kk', ctl, qq, bb, cnd⟩ = false) := by simp [Hid, isFork, k4]
            have B2 : Hid (isFine ⟨kd, kk', ctl, qq, bb, cnd⟩ = true) := by simp [Hid, isFine, k4]; omega
            have B4 : Hid (isMeet ⟨kd, kk', ctl, qq, bb, cnd⟩ = false) := by simp [Hid, isMeet, k4]
            clear k3 k4 kf
            have G1 := Lib.hid (F1.out.2 B1.out); have G2 := Lib.hid (F2.out.1 B2.out); have G4 := Lib.hid (F4.out.2 B4.out)
            clear F1 F2 F4 B1 B2 B4
            clear Hm
            have hbe := (HbT.out.put2 cb')
            have p2n : (w5.setCell ⟨P, 2, none⟩ (.int .i64 cb')).cell? ⟨wr.heap.size, 2, none⟩ = some (.slice a1 n1 c1) := cell_put_far (by omega) p2
            have t3n := hbe.x3; have j3n := hbe.f 3
            by_cases hw : 0 < n1
            · have q5 : (0 : Int) < (n1 : Int) := by omega
              have G3 := Lib.hid (F3.out.1 (dt (by show 0 < ctl.length; omega)))
              clear hw F3
              go_wp2_with fail
              go_roundg (n - (i + 1))
              case measure => omega
              case rel => exact ⟨i + 1, by go_num, by omega, rfl, (cput (cput HEE.out hP2 (.int .i64 cb')) hP2 (.int .i64 cc')), by rw [G1.out, G2.out, G3.out, G4.out]; exact ((HbT.out.put2 cb').put3 cc')⟩
            · have q5 : ¬ (0 : Int) < (n1 : Int) := by omega
              have G3 := Lib.hid (F3.out.2 (df (by show ¬ 0 < ctl.length; omega)))
              clear hw F3
              go_wp2_with fail
              go_roundg (n - (i + 1))
              case measure => omega
              case rel => exact ⟨i + 1, by go_num, by omega, rfl, (cput HEE.out hP2 (.int .i64 cb')), by rw [G1.out, G2.out, G3.out, G4.out]; exact (HbT.out.put2 cb')⟩
        by_cases k5 : 5 ≤ kd
        · have q1 := bf k3; have q2 := bf k4; have q4 : decide (5 ≤ kd) = true := dt k5
          have B1 : Hid (isFork ⟨kd, kk', ctl, qq, bb, cnd⟩ = false) := by simp [Hid, isFork, k3]
          have B2 : Hid (isFine ⟨kd, kk', ctl, qq, bb, cnd⟩ = false) := by simp [Hid, isFine, k4]
          have B4 : Hid (isMeet ⟨kd, kk', ctl, qq, bb, cnd⟩ = true) := by simp [Hid, isMeet, k5]
          clear k3 k4 k5
          have G1 := Lib.hid (F1.out.2 B1.out); have G2 := Lib.hid (F2.out.2 B2.out); have G4 := Lib.hid (F4.out.1 B4.out)
          clear F1 F2 F4 B1 B2 B4
          rw [q4] at Hm
          clear q4
          go_wp2_with fail
          refine Hm.out.mono ?_
          rintro e w7 ⟨rfl, hx7⟩
          have HbT7 := Lib.hid (HbT.out.ext hx7); have HE7 := Lib.hid (HEE.out.trans hx7)
          have p2 := (HbO.out.ext hx7).x2; have t1 := HbT7.out.x1; have t2 := HbT7.out.x2; have t3 := HbT7.out.x3; have t4 := HbT7.out.x4; have j1 := HbT7.out.f 1; have j2 := HbT7.out.f 2; have j3 := HbT7.out.f 3; have j4 := HbT7.out.f 4
          clear hx7 HbT HEE HbO Hm
          have hbe := (HbT7.out.put4 cd')
          have p2n : (w7.setCell ⟨P, 4, none⟩ (.int .i64 cd')).cell? ⟨wr.heap.size, 2, none⟩ = some (.slice a1 n1 c1) := cell_put_far (by omega) p2
          have t3n := hbe.x3; have j3n := hbe.f 3
          by_cases hw : 0 < n1
          · have q5 : (0 : Int) < (n1 : Int) := by omega
            have G3 := Lib.hid (F3.out.1 (dt (by show 0 < ctl.length; omega)))
            clear hw F3
            go_wp2_with fail
            go_roundg (n - (i + 1))
            case measure => omega
            case rel => exact ⟨i + 1, by go_num, by omega, rfl, (cput (cput HE7.out hP2 (.int .i64 cd')) hP2 (.int .i64 cc')), by rw [G1.out, G2.out, G3.out, G4.out]; exact ((HbT7.out.put4 cd').put3 cc')⟩
          · have q5 : ¬ (0 : Int) < (n1 : Int) := by omega
            have G3 := Lib.hid (F3.out.2 (df (by show ¬ 0 < ctl.length; omega)))
            clear hw F3
            go_wp2_with fail
            go_roundg (n - (i + 1))
            case measure => omega
            case rel => exact ⟨i + 1, by go_num, by omega, rfl, (cput HE7.out hP2 (.int .i64 cd')), by rw [G1.out, G2.out, G3.out, G4.out]; exact (HbT7.out.put4 cd')⟩
        · have q1 := bf k3; have q2 := bf k4; have q4 : decide (5 ≤ kd) = false := df k5
          have B1 : Hid (isFork ⟨kd, kk', ctl, qq, bb, cnd⟩ = false) := by simp [Hid, isFork, k3]
          have B2 : Hid (isFine ⟨kd, kk', ctl, qq, bb, cnd⟩ = false) := by simp [Hid, isFine, k4]
          have B4 : Hid (isMeet ⟨kd, kk', ctl, qq, bb, cnd⟩ = false) := by simp [Hid, isMeet]; omega
          clear k3 k4 k5
          have G1 := Lib.hid (F1.out.2 B1.out); have G2 := Lib.hid (F2.out.2 B2.out); have G4 := Lib.hid (F4.out.2 B4.out)
          clear F1 F2 F4 B1 B2 B4
          rw [q4] at Hm
          clear q4
          go_wp2_with fail
          refine Hm.out.mono ?_
          rintro e w7 ⟨rfl, hx7⟩
          have HbT7 := Lib.hid (HbT.out.ext hx7); have HE7 := Lib.hid (HEE.out.trans hx7)
          have p2 := (HbO.out.ext hx7).x2; have t1 := HbT7.out.x1; have t2 := HbT7.out.x2; have t3 := HbT7.out.x3; have t4 := HbT7.out.x4; have j1 := HbT7.out.f 1; have j2 := HbT7.out.f 2; have j3 := HbT7.out.f 3; have j4 := HbT7.out.f 4
          clear hx7 HbT HEE HbO Hm
          by_cases hw : 0 < n1
          · have q5 : (0 : Int) < (n1 : Int) := by omega
            have G3 := Lib.hid (F3.out.1 (dt (by show 0 < ctl.length; omega)))
            clear hw F3
            go_wp2_with fail
            go_roundg (n - (i + 1))
            case measure => omega
            case rel => exact ⟨i + 1, by go_num, by omega, rfl, (cput HE7.out hP2 (.int .i64 cc')), by rw [G1.out, G2.out, G3.out, G4.out]; exact (HbT7.out.put3 cc')⟩
          · have q5 : ¬ (0 : Int) < (n1 : Int) := by omega
            have G3 := Lib.hid (F3.out.2 (df (by show ¬ 0 < ctl.length; omega)))
            clear hw F3
            go_wp2_with fail
            go_roundg (n - (i + 1))
            case measure => omega
            case rel => exact ⟨i + 1, by go_num, by omega, rfl, HE7.out, by rw [G1.out, G2.out, G3.out, G4.out]; exact HbT7.out⟩
  · have e1 := nt h0
    have HW : Hid (V = .agg #[.int .i64 0, .int .i64 0, .int .i64 0, .int .i64 0, .int .i64 0, .int .i64 0]) := by have := HV.out; rw [if_neg h0] at this; exact this.symm
    clear h0
    go_wp2_with fail
    have hHz : w.heap.size + 1 + 1 ≠ w.heap.size + 1 := by omega
    obtain ⟨zT, zF0, zF1⟩ := bt.putTF hHz 0 0 0 0 0 0 f0 f1 x0' x1'
    have zE : Ext w (putTF (w1.alloc (.cells #[.int .i64 f0, .int .i64 f1] 28)) (w.heap.size + 1) (w.heap.size + 1 + 1) 0 0 0 0 0 0 f0 f1) := ext_putTF (HE0.out.trans HX1.out) (by omega) (by omega) _ _ _ _ _ _ _ _
    obtain ⟨Wz, hWz⟩ : ∃ Wz, putTF (w1.alloc (.cells #[.int .i64 f0, .int .i64 f1] 28)) (w.heap.size + 1) (w.heap.size + 1 + 1) 0 0 0 0 0 0 f0 f1 = Wz := ⟨_, rfl⟩
    rw [hWz] at zT zF0 zF1 zE
    unfold putTF at hWz
    have HWz := Lib.hid hWz
    have HzE := Lib.hid zE
    clear hWz zE bt
    go_region
    go_wp2_with fail
    rw [HWz.out]
    have u0 := zT.drew.x0; have u1 := zT.drew.x1; have u2 := zT.drew.x2; have u3 := zT.drew.x3; have u4 := zT.drew.x4; have u5 := zT.drew.x5
    have v0 : Wz.drew.cell? ⟨w.heap.size + 1 + 1, 0, none⟩ = _ := zF0
    have v1 : Wz.drew.cell? ⟨w.heap.size + 1 + 1, 1, none⟩ = _ := zF1
    refine bodyPost_ret (v := .tuple #[.agg #[.int .i64 0, .int .i64 0, .int .i64 0, .int .i64 0, .int .i64 0, .int .i64 0], .agg #[.int .i64 f0, .int .i64 f1]]) (by simp [results, Tryd.results6, go_sem, u0, u1, u2, u3, u4, u5, v0, v1]) rfl ⟨by rw [HW.out], Below.drew HzE.out⟩

end Go.Proofs.YtpabafioofhklaaDoor
