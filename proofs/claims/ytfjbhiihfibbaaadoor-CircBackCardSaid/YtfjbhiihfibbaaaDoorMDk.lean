/-
  The reader: a circuit, read.
-/
import Derived.Test.YtfjbhiihfibbaaaDoorMDi
import Derived.Test.YtfjbhiihfibbaaaDoorMCj
import Derived.BigQuiet
import Derived.Defers
import Derived.Recover

namespace Go.Proofs.YtfjbhiihfibbaaaDoor
open Go.RowKit

theorem CiB.mvd {W W' : World} {R g : Nat} {qb bi : Int} {ao : Option Addr} {n cp : Nat} (h : CiB W g qb bi ao n cp) (k : Mvd R W W') (hne : g ≠ R) : CiB W' g qb bi ao n cp := ⟨(k.block g h.lt hne).trans h.row⟩
theorem OpsO.mvd {W W' : World} {R base : Nat} {v : Value} {ops : List Gop} {T : List UInt8} {pos ln : Nat} (h : OpsO W base v ops) (hr : Rd W R T pos ln) (k : Mvd R W W') (hb : R < base) : OpsO W' base v ops := by
  obtain ⟨xs, h1, h2⟩ := h
  have hk : ∀ (b : Nat) (cur : Array Value) (fr : Nat × Nat), W.heap[b]? = some (.cells cur 3 fr) → W'.heap[b]? = W.heap[b]? := fun b cur fr e => k.block b (Array.getElem?_eq_some_iff.1 e).1 (fun hb' => by subst hb'; rw [hr.row] at e; cases e)
  refine ⟨xs, own_keep h1 (fun g cur hg hh => k.block g (Array.getElem?_eq_some_iff.1 hh).1 (by omega)), fun t g hg => ?_⟩
  obtain ⟨a1, n1, c1, a2, n2, c2, e0, e1, e2, e3, e4, e5, e6⟩ := h2 t g hg
  exact ⟨a1, n1, c1, a2, n2, c2, e0, e1, e2, e3, e4, e5, e6.keep k.size hk⟩
theorem CiB.set0 {W : World} {g : Nat} {qb bi : Int} {ao : Option Addr} {n cp : Nat} (h : CiB W g qb bi ao n cp) (v : Int) : CiB (W.setCell ⟨g, 0, none⟩ (.int .i64 v)) g v bi ao n cp := ⟨row_put h.row rfl⟩
theorem CiB.set1 {W : World} {g : Nat} {qb bi : Int} {ao : Option Addr} {n cp : Nat} (h : CiB W g qb bi ao n cp) (v : Int) : CiB (W.setCell ⟨g, 1, none⟩ (.int .i64 v)) g qb v ao n cp := ⟨row_put h.row rfl⟩
theorem prnAll_cut (ops : List Gop) (i : Nat) : prnAll ops = prnAll (ops.take i) ++ prnAll (ops.drop i) := by
  unfold prnAll; rw [← List.flatMap_append, List.take_append_drop]

set_option maxHeartbeats 8000000 in
set_option maxRecDepth 100000 in
theorem circuit_yes (R : Nat) (T : List UInt8) (W0 w : World) (hE : Ext W0 w) (hW0 : W0.heap.size ≤ R) (hS : Shp W0) (h : Rd w R T 0 0) (hT : T.length ≤ 1000000) (c : Gci) (hq : 0 ≤ c.qubits ∧ c.qubits < 100) (hb : 0 ≤ c.bits ∧ c.bits < 100) (hn : c.ops.length ≤ 4096) (hf : ∀ g ∈ c.ops, PrFit g ∧ Unused g) (hd : T = prn c) :
    Calls Tryd.prog 31 #[.pointer (some ⟨R, 0, none⟩)] w fun e w' => (∃ (a' : Option Addr) (c' : Nat), e = .returned (.agg #[.int .i64 c.qubits, .int .i64 c.bits, .slice a' c.ops.length c']) ∧ c.ops.length ≤ c' ∧ c' ≤ maxLen ∧ OpsAt w' a' c.ops.length c.ops ∧ OpsO w' (w.heap.size + 2) (.slice a' c.ops.length c') c.ops) ∧ Mvd R w w' := by
  obtain ⟨qb, bi, ops⟩ := c
  simp only at hq hb hn hf ⊢
  obtain ⟨i0, hi, hz0, hz1, hz2⟩ := info_parts op_info
  obtain ⟨n, hnn⟩ : ∃ n, ops.length = n := ⟨_, rfl⟩
  rw [hnn] at hn ⊢
  have hlR := h.lt
  obtain ⟨H, hH⟩ : ∃ H, w.heap.size = H := ⟨_, rfl⟩
  have d0 : T.drop 0 = [113, 117, 98, 105, 116, 115] ++ (numL qb ++ ([32, 98, 105, 116, 115] ++ (numL bi ++ ([10] ++ prnAll ops)))) := by rw [List.drop_zero, hd]; simp [prn, prnAll]
  have d1 := drop_step d0
  have d2 := drop_step d1
  have d3 := drop_step d2
  have d4 := drop_step d3
  have d5 := drop_step d4
  obtain ⟨p1, hp1⟩ : ∃ x, 0 + [(113 : UInt8), 117, 98, 105, 116, 115].length = x := ⟨_, rfl⟩
  rw [hp1] at d1 d2 d3 d4 d5
  obtain ⟨p2, hp2⟩ : ∃ x, p1 + (numL qb).length = x := ⟨_, rfl⟩
  rw [hp2] at d2 d3 d4 d5
  obtain ⟨p3, hp3⟩ : ∃ x, p2 + [(32 : UInt8), 98, 105, 116, 115].length = x := ⟨_, rfl⟩
  rw [hp3] at d3 d4 d5
  obtain ⟨p4, hp4⟩ : ∃ x, p3 + (numL bi).length = x := ⟨_, rfl⟩
  rw [hp4] at d4 d5
  obtain ⟨p5, hp5⟩ : ∃ x, p4 + [(10 : UInt8)].length = x := ⟨_, rfl⟩
  rw [hp5] at d5
  have l0 : 0 ≤ T.length := Nat.zero_le _
  have l2 : p2 ≤ T.length := Nat.le_of_lt (drop_le d2)
  have l4 : p4 ≤ T.length := Nat.le_of_lt (drop_le d4)
  have hrest : ∀ i, i ≤ n → T.drop (p5 + (prnAll (ops.take i)).length) = prnAll (ops.drop i) := fun i _ => drop_step (d5.trans (prnAll_cut ops i))
  have hend : p5 + (prnAll ops).length = T.length := by
    have := congrArg List.length d5
    rw [List.length_drop] at this
    have hl : p5 ≤ T.length := by have h4 := congrArg List.length d4; rw [List.length_drop, List.length_append] at h4; simp at h4; have : p4 + 1 = p5 := hp5; omega
    omega
  have HN1 := Lib.hid (fun wx (hx : Rd wx R T 0 0) => need_yes R T 0 0 [113, 117, 98, 105, 116, 115] wx hx l0 hT (pre_of d0))
  have HN2 := Lib.hid (fun wx (hx : Rd wx R T p1 0) => number_yes R T p1 0 wx hx hT qb hq.1 hq.2 32 _ d1 (by decide))
  have HN3 := Lib.hid (fun wx (hx : Rd wx R T p2 0) => need_yes R T p2 0 [32, 98, 105, 116, 115] wx hx l2 hT (pre_of d2))
  have HN4 := Lib.hid (fun wx (hx : Rd wx R T p3 0) => number_yes R T p3 0 wx hx hT bi hb.1 hb.2 10 _ d3 (by decide))
  have HN5 := Lib.hid (fun wx (hx : Rd wx R T p4 0) => endLine_yes R T p4 0 wx hx l4 hT (pre_of d4) (by omega))
  rw [hp1] at HN1; rw [hp2] at HN2; rw [hp3] at HN3; rw [hp4] at HN4
  rw [show p4 + 1 = p5 from hp5] at HN5
  have Hrest := Lib.hid hrest; have Hend := Lib.hid hend; have Hf := Lib.hid hf; have Hl := Lib.hid hnn
  have E0 := (ext_al w (.cells #[.int .i64 0, .int .i64 0, .slice none 0 0] 24)).trans (ext_al (w.alloc (.cells #[.int .i64 0, .int .i64 0, .slice none 0 0] 24)) (.cells #[.int .i64 0, .int .i64 0, .slice none 0 0] 24))
  have bR : CiB ((w.alloc (.cells #[.int .i64 0, .int .i64 0, .slice none 0 0] 24)).alloc (.cells #[.int .i64 0, .int .i64 0, .slice none 0 0] 24)) H 0 0 none 0 0 := by rw [← hH]; exact CiB.ext ⟨heap_alloc_new w _⟩ (ext_al _ _)
  have bO : CiB ((w.alloc (.cells #[.int .i64 0, .int .i64 0, .slice none 0 0] 24)).alloc (.cells #[.int .i64 0, .int .i64 0, .slice none 0 0] 24)) (H + 1) 0 0 none 0 0 := ⟨by
    have := heap_alloc_new (w.alloc (.cells #[.int .i64 0, .int .i64 0, .slice none 0 0] 24)) (.cells #[.int .i64 0, .int .i64 0, .slice none 0 0] 24)
    rw [← hH]
    simpa using this⟩
  have hsz : ((w.alloc (.cells #[.int .i64 0, .int .i64 0, .slice none 0 0] 24)).alloc (.cells #[.int .i64 0, .int .i64 0, .slice none 0 0] 24)).heap.size = H + 2 := by simp; omega
  have HR0 := Lib.hid (h.ext E0); have HE0 := Lib.hid E0; have HbR := Lib.hid bR; have HbO := Lib.hid bO; have HS := Lib.hid hS; have HEW := Lib.hid hE
  have HhH := Lib.hid hH
  have hRH : R < H := by omega
  clear h hS hE E0 bR bO d0 d1 d2 d3 d4 d5 hp1 hp2 hp3 hp4 hp5 l2 l4 hrest hend hf hnn hd l0
  go_enter Tryd.func31, Tryd.ntmps31
  go_wp2_with fail
  generalize (w.alloc (.cells #[.int .i64 0, .int .i64 0, .slice none 0 0] 24)).alloc (.cells #[.int .i64 0, .int .i64 0, .slice none 0 0] 24) = V0 at *
  refine (HN1.out V0 HR0.out).mono ?_
  rintro e V1 ⟨rfl, r1, m1⟩
  have HM1 := Lib.hid ((Mvd.of_ext (R := R) HE0.out).trans m1); have HR1 := Lib.hid r1; have HbR1 := Lib.hid (HbR.out.mvd m1 (by omega)); have HbO1 := Lib.hid (HbO.out.mvd m1 (by omega))
  have hs1 := m1.size
  clear r1 m1 HR0 HbR HbO HE0
  go_wp2_with fail
  refine (HN2.out V1 HR1.out).mono ?_
  rintro e V2 ⟨rfl, r2, m2⟩
  have bO2 := HbO1.out.mvd m2 (show H + 1 ≠ R by omega)
  have y0 := bO2.x0; have g0 := bO2.f 0
  have HM2 := Lib.hid ((HM1.out.trans m2).putNew (g := H + 1) (show w.heap.size ≤ H + 1 by have := HhH.out; omega) 0 (.int .i64 qb)); have HR2 := Lib.hid (show Rd (V2.setCell ⟨H + 1, 0, none⟩ (.int .i64 qb)) R T p2 0 from ⟨row_far r2.row (by omega)⟩); have HbR2 := Lib.hid (show CiB (V2.setCell ⟨H + 1, 0, none⟩ (.int .i64 qb)) H 0 0 none 0 0 from ⟨row_far (HbR1.out.mvd m2 (by omega)).row (by omega)⟩); have HbO2 := Lib.hid (bO2.set0 qb)
  have hs2 := m2.size
  clear r2 m2 bO2 HR1 HbR1 HbO1 HM1
  go_wp2_with fail
  have hsP2 : (V2.setCell ⟨H + 1, 0, none⟩ (.int .i64 qb)).heap.size = V2.heap.size := by simp
  generalize V2.setCell ⟨H + 1, 0, none⟩ (.int .i64 qb) = V2' at *
  refine (HN3.out V2' HR2.out).mono ?_
  rintro e V3 ⟨rfl, r3, m3⟩
  have HM3 := Lib.hid (HM2.out.trans m3); have HR3 := Lib.hid r3; have HbR3 := Lib.hid (HbR2.out.mvd m3 (by omega)); have HbO3 := Lib.hid (HbO2.out.mvd m3 (show H + 1 ≠ R by omega))
  have hs3 := m3.size
  clear r3 m3 HR2 HbR2 HbO2 HM2 y0 g0
  go_wp2_with fail
  refine (HN4.out V3 HR3.out).mono ?_
  rintro e V4 ⟨rfl, r4, m4⟩
  have bO4 := HbO3.out.mvd m4 (show H + 1 ≠ R by omega)
  have y1 := bO4.x1; have g1 := bO4.f 1
  have HM4 := Lib.hid ((HM3.out.trans m4).putNew (g := H + 1) (show w.heap.size ≤ H + 1 by have := HhH.out; omega) 1 (.int .i64 bi)); have HR4 := Lib.hid (show Rd (V4.setCell ⟨H + 1, 1, none⟩ (.int .i64 bi)) R T p4 0 from ⟨row_far r4.row (by omega)⟩); have HbR4 := Lib.hid (show CiB (V4.setCell ⟨H + 1, 1, none⟩ (.int .i64 bi)) H 0 0 none 0 0 from ⟨row_far (HbR3.out.mvd m4 (by omega)).row (by omega)⟩); have HbO4 := Lib.hid (bO4.set1 bi)
  have hs4 := m4.size
  clear r4 m4 bO4 HR3 HbR3 HbO3 HM3
  go_wp2_with fail
  have hsP4 : (V4.setCell ⟨H + 1, 1, none⟩ (.int .i64 bi)).heap.size = V4.heap.size := by simp
  generalize V4.setCell ⟨H + 1, 1, none⟩ (.int .i64 bi) = V4' at *
  refine (HN5.out V4' HR4.out).mono ?_
  rintro e V5 ⟨rfl, r5, m5⟩
  have HM5 := Lib.hid (HM4.out.trans m5); have HR5 := Lib.hid r5; have HbR5 := Lib.hid (HbR4.out.mvd m5 (by omega)); have HbO5 := Lib.hid (HbO4.out.mvd m5 (show H + 1 ≠ R by omega))
  have hs5 := m5.size
  clear r5 m5 HR4 HbR4 HbO4 HM4 y1 g1 HN1 HN2 HN3 HN4 HN5
  go_wp2_with fail
  go_loopg [] n (fun kk wx => ∃ (i : Nat) (av : Option Addr) (cv : Nat), i ≤ n ∧ n - i = kk ∧ CiB wx H 0 0 none 0 0 ∧ CiB wx (H + 1) qb bi av i cv ∧ OpsO wx (H + 2) (.slice av i cv) (ops.take i) ∧ Rd wx R T (p5 + (prnAll (ops.take i)).length) (i + 1) ∧ Mvd R w wx ∧ H + 2 ≤ wx.heap.size)
  case atStart => exact ⟨0, none, 0, by omega, by omega, HbR5.out, HbO5.out, OpsO.nil _ _, by simpa [prnAll] using HR5.out, HM5.out, by omega⟩
  case round =>
    clear HbR5 HbO5 HR5 HM5 hs1 hs2 hs3 hs4 hs5 hsP2 hsP4
    obtain ⟨i, av, cv, hin', hk, bR, bO, hown, hr, hm, hbs⟩ := hrel
    obtain ⟨pi, hpi⟩ : ∃ x, p5 + (prnAll (ops.take i)).length = x := ⟨_, rfl⟩
    have hre := Hrest.out i hin'
    rw [hpi] at hr hre
    have x0 := hr.x0; have x1 := hr.x1
    by_cases hin : i = n
    · have htk : ops.take i = ops := List.take_of_length_le (by rw [Hl.out]; omega)
      have hpe : pi = T.length := by rw [← hpi, htk]; exact Hend.out
      have q1 : ¬ (pi : Int) < (T.length : Int) := by omega
      have q2 : decide ((pi : Int) < (T.length : Int)) = false := df q1
      have HbR := Lib.hid bR; have HbO := Lib.hid bO; have Hown := Lib.hid hown; have HM := Lib.hid hm
      have Htk := Lib.hid htk
      clear bR bO hown hr hm htk hpe hpi hre
      go_upto_region 7 with fail
      go_quiet (fail)
      have E2 := ext_drewN wr nq
      have bR2 := HbR.out.ext E2; have bO2 := HbO.out.ext E2
      have ho := Hown.out.ext E2
      rw [Htk.out] at ho
      have HM2 := Lib.hid (HM.out.trans (Mvd.of_ext (R := R) E2))
      have hsE := E2.size
      generalize wr.drewN nq = wr2 at *
      have y0 := bO2.x0; have y1 := bO2.x1; have y2 := bO2.x2; have r0 := bR2.x0; have r1 := bR2.x1; have r2 := bR2.x2; have g0 := bR2.f 0; have g1 := bR2.f 1; have g2 := bR2.f 2
      have hO3 : Only H wr2 (((wr2.setCell ⟨H, 0, none⟩ (.int .i64 qb)).setCell ⟨H, 1, none⟩ (.int .i64 bi)).setCell ⟨H, 2, none⟩ (.slice av i cv)) := (((Only.refl _ _).setCell _ _).setCell _ _).setCell _ _
      have hoF := ho.only bR2.row (by decide) hO3 (by simp) (by omega)
      obtain ⟨a9, c9, ev9, k1, k2, hat9⟩ := hoF.at
      rw [Hl.out] at ev9 k1 hat9
      have hav : av = a9 ∧ cv = c9 := by
        injection ev9 with e1 e2 e3
        exact ⟨e1, e3⟩
      obtain ⟨rfl, rfl⟩ := hav
      have HoF := Lib.hid hoF; have Hat := Lib.hid hat9; have Hl1 := Lib.hid k1; have Hl2 := Lib.hid k2; have Hin := Lib.hid hin
      have HMf := Lib.hid (((HM2.out.putNew (g := H) (Nat.le_of_eq HhH.out) 0 (.int .i64 qb)).putNew (g := H) (Nat.le_of_eq HhH.out) 1 (.int .i64 bi)).putNew (g := H) (Nat.le_of_eq HhH.out) 2 (.slice av i cv))
      clear ho hat9 hO3 k1 k2 ev9 bR2 bO2 hin hoF
      go_wp2_with fail
      exact bodyPost_ret (v := .agg #[.int .i64 qb, .int .i64 bi, .slice av i cv]) (by simp [results, Tryd.results31, go_sem, r0, r1, r2]) rfl ⟨⟨av, cv, by rw [Hin.out], Hl1.out, Hl2.out, Hat.out, Eq.mp (congrArg (fun v => OpsO _ (H + 2) v ops) (show Value.slice av i cv = Value.slice av n cv by rw [Hin.out])) HoF.out⟩, HMf.out⟩
    · obtain ⟨gg, hg⟩ : ∃ g, ops[i]? = some g := ⟨_, List.getElem?_eq_getElem (by rw [Hl.out]; omega)⟩
      obtain ⟨hpf, huf⟩ := Hf.out gg (List.mem_of_getElem? hg)
      have hst : ops.take (i + 1) = ops.take i ++ [gg] := by rw [List.take_add_one, hg]; rfl
      have hdr : ops.drop i = gg :: ops.drop (i + 1) := by
        rw [List.drop_eq_getElem_cons (by rw [Hl.out]; omega)]
        congr 1
        have := List.getElem?_eq_some_iff.1 hg
        exact this.2
      have hre2 : T.drop pi = prnOp gg ++ 10 :: prnAll (ops.drop (i + 1)) := by
        rw [hre, hdr]; simp [prnAll]
      have hplt : pi < T.length := by
        rcases Nat.lt_or_ge pi T.length with h1 | h1
        · exact h1
        · rw [List.drop_eq_nil_of_le h1] at hre2; simp at hre2
      have hre3 := drop_step hre2
      have hpn : pi + (prnOp gg).length + 1 = p5 + (prnAll (ops.take (i + 1))).length := by
        rw [hst, prnAll_snoc, ← hpi]; simp; omega
      have hle3 : pi + (prnOp gg).length ≤ T.length := Nat.le_of_lt (drop_le hre3)
      have q1 : (pi : Int) < (T.length : Int) := by omega
      have q2 : decide ((pi : Int) < (T.length : Int)) = true := dt q1
      have HbR := Lib.hid bR; have HbO := Lib.hid bO; have Hown := Lib.hid hown; have HM := Lib.hid hm; have HRr := Lib.hid hr
      have Hst := Lib.hid hst; have Hre2 := Lib.hid hre2; have Hp3 := Lib.hid (pre_of (p := [10]) (r := prnAll (ops.drop (i + 1))) hre3); have Hpn := Lib.hid hpn; have Hle3 := Lib.hid hle3
      clear bR bO hown hr hm hst hpi hre hdr hre2 hre3 hpn hg hplt hle3
      go_upto_region 7 with fail
      go_quiet (fail)
      have E2 := ext_drewN wr nq
      have HbR2 := Lib.hid (HbR.out.ext E2); have HbO2 := Lib.hid (HbO.out.ext E2); have Hown2 := Lib.hid (Hown.out.ext E2); have HM2 := Lib.hid (HM.out.trans (Mvd.of_ext (R := R) E2)); have HRr2 := Lib.hid (HRr.out.ext E2)
      have hbs2 : H + 2 ≤ (wr.drewN nq).heap.size := Nat.le_trans hbs E2.size
      clear E2 HbR HbO Hown HM HRr x0 x1 hbs
      generalize wr.drewN nq = wr2 at *
      have v0 := HbO2.out.x2
      go_upto_region 8 with fail
      have hE0d : Ext wr2 wr2.drew := Below.drew (Ext.refl _)
      have HOp := Lib.hid (op_yes R T pi (i + 1) W0 wr2.drew ((HM2.out.ext HEW.out hW0).trans hE0d) hW0 HS.out (HRr2.out.ext hE0d) hT gg hpf huf _ Hre2.out)
      obtain ⟨kd, kk', ctl, qq, bb, cnd⟩ := gg
      simp only at HOp
      refine wp_region_K 7 (fun w' => w'.cell? ⟨H + 1, 2, none⟩ = some (.slice av i cv)) (by kernel_rfl) ?_
      show anyK _ _ _ _ _ _ 8 #[false, false, false, false, false, false, false, false] _ _
      have hHeld : wr2.drew.cell? ⟨H + 1, 2, none⟩ = some (.slice av i cv) := v0
      refine anyK_take (i := 0) (v := ?_) rfl (by kernel_rfl) (by kernel_rfl) (by kernel_rfl) (N := 8) (by kernel_rfl) (by kernel_rfl) (by kernel_rfl) (fun _ _ _ h => h) (Or.inl ⟨by rfl, ?_⟩) hHeld ?_
      rotate_left 1
      · intro w hSw
        go_simp
        try with_reducible rfl
      show anyK _ _ _ _ _ _ _ _ (Act.put _ (some 26) _) _
      simp only [Act.put, List.setIfInBounds_toArray, List.set_cons_zero, List.set_cons_succ]
      refine anyK_take (i := 1) (v := ?_) rfl (by kernel_rfl) (by kernel_rfl) (by kernel_rfl) (N := 8) (by kernel_rfl) (by kernel_rfl) (by kernel_rfl) (fun _ _ _ h => h) (Or.inl ⟨by rfl, ?_⟩) hHeld ?_
      rotate_left 1
      · intro w hSw
        go_simp
        try with_reducible rfl
      show anyK _ _ _ _ _ _ _ _ (Act.put _ (some 27) _) _
      simp only [Act.put, List.setIfInBounds_toArray, List.set_cons_zero, List.set_cons_succ]
      refine anyK_take (i := 2) (v := ?_) rfl (by kernel_rfl) (by kernel_rfl) (by kernel_rfl) (N := 8) (by kernel_rfl) (by kernel_rfl) (by kernel_rfl) (fun _ _ _ h => h) (Or.inl ⟨by rfl, ?_⟩) hHeld ?_
      rotate_left 1
      · intro w hSw
        go_simp
        try with_reducible rfl
      show anyK _ _ _ _ _ _ _ _ (Act.put _ (some 28) _) _
      simp only [Act.put, List.setIfInBounds_toArray, List.set_cons_zero, List.set_cons_succ]
      clear hHeld
      refine anyK_one (i := 3) (by kernel_rfl) rfl (fun Kk hKk => ?_)
      go_simp
      (go_at_call 62; refine HOp.out.mono ?_; rintro e w4 ⟨⟨a3, n3, c3, a5, n5, c5, rfl, O4⟩, hr4, hm4⟩)
      have hm4' : Mvd R wr2 w4 := (Mvd.of_ext (R := R) hE0d).trans hm4
      have bO4 := HbO2.out.mvd hm4' (show H + 1 ≠ R by omega)
      have x24 := bO4.x2
      go_wp2_with fail
      refine hKk.out _ _ (fun _ => x24) ?_
      clear hKk Kk
      simp only [List.setIfInBounds_toArray, List.set_cons_zero, List.set_cons_succ]
      refine anyK_one (i := 4) (by kernel_rfl) rfl (fun Kk hKk => ?_)
      go_wp2_with fail
      refine hKk.out _ _ (fun _ => cell_ext x24 (ext_al _ _)) ?_
      clear hKk Kk
      simp only [List.setIfInBounds_toArray, List.set_cons_zero, List.set_cons_succ]
      obtain ⟨xs, ho, hzx⟩ := Hown2.out.mvd HRr2.out hm4' (show R < H + 2 by omega)
      have ho5 := ho.alloc (.cells #[.int .i64 kd, .int .i64 kk', .slice a3 n3 c3, .int .i64 qq, .int .i64 bb, .slice a5 n5 c5] 58)
      have hsz4 : H + 2 ≤ w4.heap.size := Nat.le_trans hbs2 hm4'.size
      have hli : (ops.take i).length = i := by rw [List.length_take, Hl.out]; omega
      obtain ⟨g, cap, w7, hrun, hown', hgrow', hcase, hglt⟩ := run_append_lies (P := Tryd.prog) (w4.alloc (.cells #[.int .i64 kd, .int .i64 kk', .slice a3 n3 c3, .int .i64 qq, .int .i64 bb, .slice a5 n5 c5] 58)) 22 22 (H + 2) 58 i0 (.agg #[.int .i64 0, .int .i64 0, .slice none 0 0, .int .i64 0, .int .i64 0, .slice none 0 0]) 6 80 Tryd.underlying22 hi hz0 hz1 hz2 rfl (by decide) (.slice av i cv) (ops.take i).length xs ho5 ⟨w4.heap.size, 0, none⟩ 1 1 [.int .i64 kd, .int .i64 kk', .slice a3 n3 c3, .int .i64 qq, .int .i64 bb, .slice a5 n5 c5] rfl (new_op w4 _ _ _ _ _ _ _ _ _ _ _) (one_op _ _ _ _ _ _ _ _ _ _) (by omega) (by rw [List.length_take]; unfold maxLen; omega) (by rw [List.length_take]; omega) (by simp; omega) _ rfl
      rw [hli] at hrun
      refine anyK_one (i := 5) (by kernel_rfl) rfl (fun Kk hKk => ?_)
      refine stepK_append rfl _ _ 22 rfl (.slice av i cv) (.slice (some ⟨w4.heap.size, 0, none⟩) 1 1) _ rfl rfl hrun ?_
      have hkind := PtKind ho5
      have hk7 : ∀ (b' : Nat) (cur : Array Value) (fr : Nat × Nat), (w4.alloc (.cells #[.int .i64 kd, .int .i64 kk', .slice a3 n3 c3, .int .i64 qq, .int .i64 bb, .slice a5 n5 c5] 58)).heap[b']? = some (.cells cur 3 fr) → w7.heap[b']? = (w4.alloc (.cells #[.int .i64 kd, .int .i64 kk', .slice a3 n3 c3, .int .i64 qq, .int .i64 bb, .slice a5 n5 c5] 58)).heap[b']? := fun b' cur fr hb' => by
        refine hgrow'.block b' (Array.getElem?_eq_some_iff.1 hb').1 (fun e => ?_)
        obtain ⟨_, cs, fr', e2⟩ := hkind b' e.symm
        rw [e2] at hb'
        cases hb'
      have O7 := (O4.ext (ext_al _ (.cells #[.int .i64 kd, .int .i64 kk', .slice a3 n3 c3, .int .i64 qq, .int .i64 bb, .slice a5 n5 c5] 58))).keep hgrow'.size hk7
      have own7 := OpsO.snoc hown' ho.1 hzx (fun g a1 n1 c1 a2 n2 c2 h => (h.ext (ext_al _ _)).keep hgrow'.size hk7) O7
      rw [hli] at own7
      clear hli
      have bOut7 : CiB w7 (H + 1) qb bi av i cv := CiB_grown hgrow' hkind (bO4.ext (ext_al _ _)) (by omega)
      have bRes7 : CiB w7 H 0 0 none 0 0 := CiB_grown hgrow' hkind ((HbR2.out.mvd hm4' (by omega)).ext (ext_al _ _)) (by omega)
      have hr7 : Rd w7 R T (pi + (prnOp ⟨kd, kk', ctl, qq, bb, cnd⟩).length) (i + 1) := Rd.grown (hr4.ext (ext_al w4 (.cells #[.int .i64 kd, .int .i64 kk', .slice a3 n3 c3, .int .i64 qq, .int .i64 bb, .slice a5 n5 c5] 58))) hgrow' (fun k hk => by have := (hkind k hk).1; omega)
      have hm7 : Mvd R w w7 := Mvd.grown ((HM2.out.trans hm4').trans (Mvd.of_ext (ext_al w4 (.cells #[.int .i64 kd, .int .i64 kk', .slice a3 n3 c3, .int .i64 qq, .int .i64 bb, .slice a5 n5 c5] 58)))) hgrow' (fun k hk => by have := (hkind k hk).1; have := HhH.out; omega)
      have x2' := bOut7.x2; have fz2 := bOut7.f 2
      have hHeld : w7.cell? ⟨H + 1, 2, none⟩ = some (.slice av i cv) := x2'
      refine hKk.out _ _ (fun _ => hHeld) ?_
      clear hKk Kk
      show anyK _ _ _ _ _ _ _ _ (Act.put _ (some 31) _) _
      simp only [Act.put, List.setIfInBounds_toArray, List.set_cons_zero, List.set_cons_succ]
      refine anyK_take (i := 6) (v := ?_) rfl (by kernel_rfl) (by kernel_rfl) (by kernel_rfl) (N := 8) (by kernel_rfl) (by kernel_rfl) (by kernel_rfl) (fun _ _ _ h => h) (Or.inl ⟨by rfl, ?_⟩) hHeld ?_
      rotate_left 1
      · intro w hSw
        go_simp
        try with_reducible rfl
      show anyK _ _ _ _ _ _ _ _ (Act.put _ (some 32) _) _
      simp only [Act.put, List.setIfInBounds_toArray, List.set_cons_zero, List.set_cons_succ]
      clear hHeld
      refine anyK_one (i := 7) (by kernel_rfl) rfl (fun Kk hKk => ?_)
      refine stepK_store rfl rfl _ _ rfl (H + 1) 2 (some ⟨g, 0, none⟩) (i + 1) cap (.slice av i cv) rfl rfl x2' fz2 ?_
      refine hKk.out _ _ (fun h => Bool.noConfusion (show true = false from h)) ?_
      clear hKk Kk
      simp only [List.setIfInBounds_toArray, List.set_cons_zero, List.set_cons_succ]
      refine anyK_done (by kernel_rfl) ?_ _
      have bOut8 := bOut7.set2 (some ⟨g, 0, none⟩) (i + 1) cap
      have hOo := only1 w7 (H + 1) 2 (.slice (some ⟨g, 0, none⟩) (i + 1) cap)
      have own8 := own7.only bOut7.row (by decide) hOo (by simp) (by omega)
      have bR8 : CiB (w7.setCell ⟨H + 1, 2, none⟩ (.slice (some ⟨g, 0, none⟩) (i + 1) cap)) H 0 0 none 0 0 := ⟨(hOo.block _ (by omega)).trans bRes7.row⟩
      have hr8 : Rd (w7.setCell ⟨H + 1, 2, none⟩ (.slice (some ⟨g, 0, none⟩) (i + 1) cap)) R T (pi + (prnOp ⟨kd, kk', ctl, qq, bb, cnd⟩).length) (i + 1) := ⟨(hOo.block _ (by omega)).trans hr7.row⟩
      have hm8 := hm7.putNew (g := H + 1) (show w.heap.size ≤ H + 1 by have := HhH.out; omega) 2 (.slice (some ⟨g, 0, none⟩) (i + 1) cap)
      have hs7 : H + 2 ≤ w7.heap.size := Nat.le_trans (Nat.le_trans hsz4 (ext_al w4 (.cells #[.int .i64 kd, .int .i64 kk', .slice a3 n3 c3, .int .i64 qq, .int .i64 bb, .slice a5 n5 c5] 58)).size) hgrow'.size
      have hs8 : (w7.setCell ⟨H + 1, 2, none⟩ (.slice (some ⟨g, 0, none⟩) (i + 1) cap)).heap.size = w7.heap.size := by simp
      have HEn := Lib.hid (endLine_yes R T (pi + (prnOp ⟨kd, kk', ctl, qq, bb, cnd⟩).length) (i + 1) _ hr8 Hle3.out hT Hp3.out (by omega))
      have HbR8 := Lib.hid bR8; have HbO8 := Lib.hid bOut8; have Hown8 := Lib.hid own8; have HM8 := Lib.hid hm8; have HR8 := Lib.hid hr8
      clear bR8 bOut8 own8 hm8 hr8 own7 bOut7 bRes7 hr7 hm7 O7 hk7 hkind hgrow' hown' hrun ho5 ho hzx O4 hr4 hm4 hm4' hE0d v0 x2' fz2 bO4 x24 hOo HOp
      generalize w7.setCell ⟨H + 1, 2, none⟩ (.slice (some ⟨g, 0, none⟩) (i + 1) cap) = w8 at *
      go_wp2_with fail
      refine HEn.out.mono ?_
      rintro e w9 ⟨rfl, hr9, hm9⟩
      have HR9 := Lib.hid hr9
      have HbR9 := Lib.hid (HbR8.out.mvd hm9 (by omega)); have HbO9 := Lib.hid (HbO8.out.mvd hm9 (show H + 1 ≠ R by omega)); have Hown9 := Lib.hid (Hown8.out.mvd HR8.out hm9 (show R < H + 2 by omega)); have HM9 := Lib.hid (HM8.out.trans hm9)
      have hs9 := hm9.size
      clear hr9 hm9 HEn
      go_wp2_with fail
      go_roundg (n - (i + 1))
      case measure => omega
      case rel => exact ⟨i + 1, some ⟨g, 0, none⟩, cap, by omega, rfl, HbR9.out, HbO9.out, by rw [Hst.out]; exact Hown9.out, by rw [← Hpn.out]; exact HR9.out, HM9.out, by omega⟩

end Go.Proofs.YtfjbhiihfibbaaaDoor

/-
  A circuit's text, read again.
-/
namespace Go.Proofs.YtfjbhiihfibbaaaDoor
open Go.RowKit

set_option maxHeartbeats 4000000 in
set_option maxRecDepth 100000 in
theorem checked_yes (c : Gci) (ao : Option Addr) (n cp : Nat) (w : World) (h : OpsAt w ao n c.ops) (hn : n ≤ cp) (hcp : cp ≤ 9223372036854775807) (hS : Shp w) (hc : chk c = (0, 0)) :
    Calls Tryd.prog 30 #[.agg #[.int .i64 c.qubits, .int .i64 c.bits, .slice ao n cp]] w fun e w' => e = .returned (.tuple #[.agg #[.int .i64 c.qubits, .int .i64 c.bits, .slice ao n cp], .agg #[.int .i64 0, .int .i64 0]]) ∧ Ext w w' := by
  obtain ⟨qb, bi, ops⟩ := c
  obtain ⟨H, hH⟩ : ∃ H, w.heap.size = H := ⟨_, rfl⟩
  obtain ⟨A1, hA1⟩ : ∃ A1, w.alloc (.cells #[.int .i64 qb, .int .i64 bi, .slice ao n cp] 24) = A1 := ⟨_, rfl⟩
  obtain ⟨A2, hA2⟩ : ∃ A2, A1.alloc (.cells #[.int .i64 0, .int .i64 0, .slice none 0 0] 24) = A2 := ⟨_, rfl⟩
  obtain ⟨A3, hA3⟩ : ∃ A3, A2.alloc (.cells #[.int .i64 0, .int .i64 0] 26) = A3 := ⟨_, rfl⟩
  have s1 : A1.heap.size = H + 1 := by rw [← hA1, ← hH]; simp
  have s2 : A2.heap.size = H + 2 := by rw [← hA2]; simp; omega
  have x1 : Ext w A1 := by rw [← hA1]; exact ext_al _ _
  have x2 : Ext A1 A2 := by rw [← hA2]; exact ext_al _ _
  have x3 : Ext A2 A3 := by rw [← hA3]; exact ext_al _ _
  have bC : CiB A3 H qb bi ao n cp := by
    have : CiB A1 H qb bi ao n cp := by rw [← hA1, ← hH]; exact ⟨heap_alloc_new w _⟩
    exact (this.ext x2).ext x3
  have bR : CiB A3 (H + 1) 0 0 none 0 0 := by
    have : CiB A2 (H + 1) 0 0 none 0 0 := by rw [← hA2, ← s1]; exact ⟨heap_alloc_new A1 _⟩
    exact this.ext x3
  have bF : FtB A3 (H + 2) 0 0 := by rw [← hA3, ← s2]; exact ⟨heap_alloc_new A2 _⟩
  have E0 : Ext w A3 := (x1.trans x2).trans x3
  have hA : ((w.alloc (.cells #[.int .i64 qb, .int .i64 bi, .slice ao n cp] 24)).alloc (.cells #[.int .i64 0, .int .i64 0, .slice none 0 0] 24)).alloc (.cells #[.int .i64 0, .int .i64 0] 26) = A3 := by rw [hA1, hA2, hA3]
  have HK := Lib.hid (Check_any ⟨qb, bi, ops⟩ ao n cp A3 (h.ext E0) hn hcp (hS.ext E0))
  rw [hc] at HK
  subst hH
  simp only at HK ⊢
  have m0 := bC.x0; have m1 := bC.x1; have m2 := bC.x2
  rw [← hA] at m0 m1 m2
  have HA := Lib.hid hA; have HE0 := Lib.hid E0; have HC := Lib.hid bC; have HR := Lib.hid bR; have HFt := Lib.hid bF
  clear h hS hc E0 bC bR bF x1 x2 x3 s1 s2 hA1 hA2 hA3 hA
  go_enter Tryd.func30, Tryd.ntmps30
  go_wp2_with fail
  rw [HA.out]
  refine HK.out.mono ?_
  rintro e w1 ⟨rfl, hx1⟩
  have Ef := ext_al w1 (.cells #[.int .i64 0, .int .i64 0] 26)
  have bf1 : FtB (w1.alloc (.cells #[.int .i64 0, .int .i64 0] 26)) w1.heap.size 0 0 := ⟨heap_alloc_new w1 _⟩
  have q0 := bf1.x0; have q1 := bf1.x1
  have hX := hx1.trans Ef
  have bC1 := HC.out.ext hX; have bR1 := HR.out.ext hX; have bF1 := HFt.out.ext hX
  have HEz := Lib.hid (HE0.out.trans hX)
  have hsz1 := hX.size; have hA3 := HFt.out.lt
  have y0 := bC1.x0; have y1 := bC1.x1; have y2 := bC1.x2
  have r0 := bR1.x0; have r1 := bR1.x1; have r2 := bR1.x2; have g0 := bR1.f 0; have g1 := bR1.f 1; have g2 := bR1.f 2
  have f0 := bF1.x0; have f1 := bF1.x1; have k0 := bF1.f 0; have k1 := bF1.f 1
  clear m0 m1 m2 hx1 Ef bf1 HK hX
  have HWz := Lib.hid (Eq.refl ((((((w1.alloc (.cells #[.int .i64 0, .int .i64 0] 26)).setCell ⟨w.heap.size + 1, 0, none⟩ (.int .i64 qb)).setCell ⟨w.heap.size + 1, 1, none⟩ (.int .i64 bi)).setCell ⟨w.heap.size + 1, 2, none⟩ (.slice ao n cp)).setCell ⟨w.heap.size + 1 + 1, 0, none⟩ (.int .i64 0)).setCell ⟨w.heap.size + 1 + 1, 1, none⟩ (.int .i64 0)))
  have bRz : CiB ((((((w1.alloc (.cells #[.int .i64 0, .int .i64 0] 26)).setCell ⟨w.heap.size + 1, 0, none⟩ (.int .i64 qb)).setCell ⟨w.heap.size + 1, 1, none⟩ (.int .i64 bi)).setCell ⟨w.heap.size + 1, 2, none⟩ (.slice ao n cp)).setCell ⟨w.heap.size + 1 + 1, 0, none⟩ (.int .i64 0)).setCell ⟨w.heap.size + 1 + 1, 1, none⟩ (.int .i64 0)) (w.heap.size + 1) qb bi ao n cp :=
    ⟨row_far (row_far (((bR1.set0 qb).set1 bi).set2 ao n cp).row (by omega)) (by omega)⟩
  have bFz : FtB ((((((w1.alloc (.cells #[.int .i64 0, .int .i64 0] 26)).setCell ⟨w.heap.size + 1, 0, none⟩ (.int .i64 qb)).setCell ⟨w.heap.size + 1, 1, none⟩ (.int .i64 bi)).setCell ⟨w.heap.size + 1, 2, none⟩ (.slice ao n cp)).setCell ⟨w.heap.size + 1 + 1, 0, none⟩ (.int .i64 0)).setCell ⟨w.heap.size + 1 + 1, 1, none⟩ (.int .i64 0)) (w.heap.size + 2) 0 0 :=
    ⟨row_put (row_put (row_far (row_far (row_far bF1.row (by omega)) (by omega)) (by omega)) rfl) rfl⟩
  have HEf := Lib.hid (cput (o := 1) (cput (o := 0) (cput (o := 2) (cput (o := 1) (cput (o := 0) HEz.out (show w.heap.size ≤ w.heap.size + 1 by omega) (.int .i64 qb)) (show w.heap.size ≤ w.heap.size + 1 by omega) (.int .i64 bi)) (show w.heap.size ≤ w.heap.size + 1 by omega) (.slice ao n cp)) (show w.heap.size ≤ w.heap.size + 1 + 1 by omega) (.int .i64 0)) (show w.heap.size ≤ w.heap.size + 1 + 1 by omega) (.int .i64 0))
  go_wp2_with fail
  generalize ((((((w1.alloc (.cells #[.int .i64 0, .int .i64 0] 26)).setCell ⟨w.heap.size + 1, 0, none⟩ (.int .i64 qb)).setCell ⟨w.heap.size + 1, 1, none⟩ (.int .i64 bi)).setCell ⟨w.heap.size + 1, 2, none⟩ (.slice ao n cp)).setCell ⟨w.heap.size + 1 + 1, 0, none⟩ (.int .i64 0)).setCell ⟨w.heap.size + 1 + 1, 1, none⟩ (.int .i64 0)) = Wz at *
  have z0 := bRz.x0; have z1 := bRz.x1; have z2 := bRz.x2; have z3 := bFz.x0; have z4 := bFz.x1
  exact bodyPost_ret (v := .tuple #[.agg #[.int .i64 qb, .int .i64 bi, .slice ao n cp], .agg #[.int .i64 0, .int .i64 0]]) (by simp [results, Tryd.results30, go_sem, z0, z1, z2, z3, z4]) rfl ⟨rfl, HEf.out⟩

set_option maxRecDepth 100000 in
theorem parse1_idle (q : Addr) (w : World) :
    CallsD Tryd.prog 28 #[.pointer (some q)] .returning w fun e u' w' => e = .returned (.tuple #[]) ∧ u' = .returning ∧ w' = w := by
  refine callsD_of_wpS Tryd.func28 rfl fun c₀ cs hu => ?_
  apply wpS_seq
  apply wpS_region
  simp [wpOpsS, go_sem, recoverD, hu, Tryd.ntmps28, Exit.thenS]
  apply wpS_seq
  apply wpS_region
  simp [wpOpsS, go_sem, Exit.thenS]
  refine wpS_cond (t := false) (by simp [Act.eval, Array.replicate]) ?_
  simp only [if_false, Bool.false_eq_true]
  refine wpS_of_wp (wp_skip ?_)
  cases c₀
  simp_all [bodyPostS, results, Tryd.results28]

end Go.Proofs.YtfjbhiihfibbaaaDoor

/-
  A circuit's text, read again: Parse of what Print wrote.
-/
namespace Go.Proofs.YtfjbhiihfibbaaaDoor
open Go.RowKit

set_option maxHeartbeats 4000000 in
set_option maxRecDepth 100000 in
theorem parse_yes (c : Gci) (w : World) (hS : Shp w) (hc : (chk c).1 = 0) (hT : (prn c).length ≤ 1000000) :
    Calls Tryd.prog 8 #[.string ⟨(prn c).toArray⟩] w fun e w' => (∃ (a' : Option Addr) (c' : Nat), e = .returned (.tuple #[.agg #[.int .i64 c.qubits, .int .i64 c.bits, .slice a' c.ops.length c'], .agg #[.int .i64 0, .int .i64 0]]) ∧ c.ops.length ≤ c' ∧ c' ≤ maxLen ∧ OpsO w' (w.heap.size + 5) (.slice a' c.ops.length c') c.ops) ∧ Ext w w' := by
  obtain ⟨hz, hq1, hq2, hb1, hb2, hl, hop⟩ := chk_zero hc
  have hf : ∀ g ∈ c.ops, PrFit g ∧ Unused g := fun g hg => ⟨prFit_of_code hq2 hb1 hb2 (hop g hg), unused_of_code (hop g hg)⟩
  have hmf : ∀ (fn : Fn) (first cap : Array Value) (w : World), (Instr.makeFunc fn first cap).run Tryd.prog w = .ok (.func fn first cap) w := fun _ _ _ _ => rfl
  obtain ⟨T, hTd⟩ : ∃ T, prn c = T := ⟨_, rfl⟩
  rw [hTd] at hT ⊢
  obtain ⟨H, hH⟩ : ∃ H, w.heap.size = H := ⟨_, rfl⟩
  obtain ⟨A1, hA1⟩ : ∃ A1, w.alloc (.cells #[.int .i64 0, .int .i64 0, .slice none 0 0] 24) = A1 := ⟨_, rfl⟩
  obtain ⟨A2, hA2⟩ : ∃ A2, A1.alloc (.cells #[.int .i64 0, .int .i64 0] 26) = A2 := ⟨_, rfl⟩
  obtain ⟨A3, hA3⟩ : ∃ A3, A2.alloc (.cells #[.string ⟨T.toArray⟩, .int .i64 0, .int .i64 0] 50) = A3 := ⟨_, rfl⟩
  have s1 : A1.heap.size = H + 1 := by rw [← hA1, ← hH]; simp
  have s2 : A2.heap.size = H + 2 := by rw [← hA2]; simp; omega
  have s3 : A3.heap.size = H + 3 := by rw [← hA3]; simp; omega
  have x1 : Ext w A1 := by rw [← hA1]; exact ext_al _ _
  have x2 : Ext A1 A2 := by rw [← hA2]; exact ext_al _ _
  have x3 : Ext A2 A3 := by rw [← hA3]; exact ext_al _ _
  have bC : CiB A3 H 0 0 none 0 0 := by
    have : CiB A1 H 0 0 none 0 0 := by rw [← hA1, ← hH]; exact ⟨heap_alloc_new w _⟩
    exact (this.ext x2).ext x3
  have bF : FtB A3 (H + 1) 0 0 := by
    have : FtB A2 (H + 1) 0 0 := by rw [← hA2, ← s1]; exact ⟨heap_alloc_new A1 _⟩
    exact this.ext x3
  have hr : Rd A3 (H + 2) T 0 0 := ⟨by rw [← hA3, ← s2]; exact heap_alloc_new A2 _⟩
  have HW := Lib.hid (x1.trans x2)
  have HK := Lib.hid (circuit_yes (H + 2) T A2 A3 x3 (Nat.le_of_eq s2) (hS.ext (x1.trans x2)) hr hT c ⟨by omega, by omega⟩ ⟨by omega, by omega⟩ hl hf hTd.symm)
  have HX3 := Lib.hid x3
  have hA : ((w.alloc (.cells #[.int .i64 0, .int .i64 0, .slice none 0 0] 24)).alloc (.cells #[.int .i64 0, .int .i64 0] 26)).alloc (.cells #[.string ⟨T.toArray⟩, .int .i64 0, .int .i64 0] 50) = A3 := by rw [hA1, hA2, hA3]
  have hlen : ¬ ((T.length : Nat) : Int) > 1000000 := by omega
  have hld : decide (1000000 < ((T.length : Nat) : Int)) = false := df (by omega)
  rw [s3] at HK
  obtain ⟨qb, bi, ops⟩ := c
  have HS := Lib.hid hS; have Hz := Lib.hid hz; have Hs2 := Lib.hid s2
  subst hH
  have HA := Lib.hid hA; have HC := Lib.hid bC; have HF := Lib.hid bF
  clear hS hz hop hf hc hl hTd x1 x2 x3 hA1 hA2 hA3 hA s1 s2 bC bF hr
  simp only at HK ⊢
  go_enter_defers Tryd.func8, Tryd.ntmps8
  go_wp2_with fail
  rw [HA.out]
  refine HK.out.mono ?_
  rintro e w1 ⟨⟨a1, c1, rfl, h1, h2, hat1, ho1⟩, hm1⟩
  have E1 : Ext w w1 := HW.out.trans (hm1.ext HX3.out (Nat.le_of_eq Hs2.out))
  have bC1 := HC.out.mvd hm1 (show w.heap.size ≠ w.heap.size + 2 by omega)
  have bF1 : FtB w1 (w.heap.size + 1) 0 0 := ⟨(hm1.block (w.heap.size + 1) HF.out.lt (by omega)).trans HF.out.row⟩
  have HCh := Lib.hid (checked_yes ⟨qb, bi, ops⟩ a1 ops.length c1 w1 hat1 h1 h2 (HS.out.ext E1) Hz.out)
  have HE1 := Lib.hid E1; have HO1 := Lib.hid ho1; have Hc1 := Lib.hid h1; have Hc2 := Lib.hid h2; have HC1 := Lib.hid bC1; have HF1 := Lib.hid bF1
  clear E1 ho1 hat1 h1 h2 bC1 bF1 hm1 HK HC HF HA HX3 HW
  simp only at HCh
  go_wp2_with fail
  refine HCh.out.mono ?_
  rintro e w2 ⟨rfl, hx2⟩
  have bC2 := HC1.out.ext hx2; have bF2 := HF1.out.ext hx2
  have ho2 := HO1.out.ext hx2
  have E2 := HE1.out.trans hx2
  clear HC1 HF1 HO1 HE1 HCh hx2
  have y0 := bC2.x0; have y1 := bC2.x1; have y2 := bC2.x2; have f0 := bC2.f 0; have f1 := bC2.f 1; have f2 := bC2.f 2
  have z0 := bF2.x0; have z1 := bF2.x1; have k0 := bF2.f 0; have k1 := bF2.f 1
  have hO3 : Only w.heap.size w2 (((w2.setCell ⟨w.heap.size, 0, none⟩ (.int .i64 qb)).setCell ⟨w.heap.size, 1, none⟩ (.int .i64 bi)).setCell ⟨w.heap.size, 2, none⟩ (.slice a1 ops.length c1)) := (((Only.refl _ _).setCell _ _).setCell _ _).setCell _ _
  have ho3 := ho2.only bC2.row (by decide) hO3 (by simp) (by omega)
  have bC3 : CiB (((w2.setCell ⟨w.heap.size, 0, none⟩ (.int .i64 qb)).setCell ⟨w.heap.size, 1, none⟩ (.int .i64 bi)).setCell ⟨w.heap.size, 2, none⟩ (.slice a1 ops.length c1)) w.heap.size qb bi a1 ops.length c1 := ((bC2.set0 qb).set1 bi).set2 a1 ops.length c1
  have bF3 : FtB (((w2.setCell ⟨w.heap.size, 0, none⟩ (.int .i64 qb)).setCell ⟨w.heap.size, 1, none⟩ (.int .i64 bi)).setCell ⟨w.heap.size, 2, none⟩ (.slice a1 ops.length c1)) (w.heap.size + 1) 0 0 := ⟨row_far (row_far (row_far bF2.row (by omega)) (by omega)) (by omega)⟩
  have E3 := cput (o := 2) (cput (o := 1) (cput (o := 0) E2 (Nat.le_refl _) (.int .i64 qb)) (Nat.le_refl _) (.int .i64 bi)) (Nat.le_refl _) (.slice a1 ops.length c1)
  have hO4 : Only (w.heap.size + 1) (((w2.setCell ⟨w.heap.size, 0, none⟩ (.int .i64 qb)).setCell ⟨w.heap.size, 1, none⟩ (.int .i64 bi)).setCell ⟨w.heap.size, 2, none⟩ (.slice a1 ops.length c1)) (((((w2.setCell ⟨w.heap.size, 0, none⟩ (.int .i64 qb)).setCell ⟨w.heap.size, 1, none⟩ (.int .i64 bi)).setCell ⟨w.heap.size, 2, none⟩ (.slice a1 ops.length c1)).setCell ⟨w.heap.size + 1, 0, none⟩ (.int .i64 0)).setCell ⟨w.heap.size + 1, 1, none⟩ (.int .i64 0)) := ((Only.refl _ _).setCell _ _).setCell _ _
  have ho4 := ho3.only bF3.row (by decide) hO4 (by simp) (by omega)
  have bC4 : CiB (((((w2.setCell ⟨w.heap.size, 0, none⟩ (.int .i64 qb)).setCell ⟨w.heap.size, 1, none⟩ (.int .i64 bi)).setCell ⟨w.heap.size, 2, none⟩ (.slice a1 ops.length c1)).setCell ⟨w.heap.size + 1, 0, none⟩ (.int .i64 0)).setCell ⟨w.heap.size + 1, 1, none⟩ (.int .i64 0)) w.heap.size qb bi a1 ops.length c1 := ⟨row_far (row_far bC3.row (by omega)) (by omega)⟩
  have bF4 : FtB (((((w2.setCell ⟨w.heap.size, 0, none⟩ (.int .i64 qb)).setCell ⟨w.heap.size, 1, none⟩ (.int .i64 bi)).setCell ⟨w.heap.size, 2, none⟩ (.slice a1 ops.length c1)).setCell ⟨w.heap.size + 1, 0, none⟩ (.int .i64 0)).setCell ⟨w.heap.size + 1, 1, none⟩ (.int .i64 0)) (w.heap.size + 1) 0 0 := ⟨row_put (row_put bF3.row rfl) rfl⟩
  have E4 := cput (o := 1) (cput (o := 0) E3 (Nat.le_succ _) (.int .i64 0)) (Nat.le_succ _) (.int .i64 0)
  have HC4 := Lib.hid bC4; have HF4 := Lib.hid bF4; have HO4 := Lib.hid ho4; have HE4 := Lib.hid E4
  clear bC3 bF3 ho3 E3 hO3 ho2 bC2 bF2 E2 bC4 bF4 ho4 E4 hO4
  go_wp2_with fail
  generalize ((((w2.setCell ⟨w.heap.size, 0, none⟩ (.int .i64 qb)).setCell ⟨w.heap.size, 1, none⟩ (.int .i64 bi)).setCell ⟨w.heap.size, 2, none⟩ (.slice a1 ops.length c1)).setCell ⟨w.heap.size + 1, 0, none⟩ (.int .i64 0)).setCell ⟨w.heap.size + 1, 1, none⟩ (.int .i64 0) = Wz at *
  have v0 := HC4.out.x0; have v1 := HC4.out.x1; have v2 := HC4.out.x2; have v3 := HF4.out.x0; have v4 := HF4.out.x1
  refine leaves_cons (f := 28) (args := #[.pointer (some ⟨w.heap.size + 1, 0, none⟩)]) (by simp) (by simp [go_sem]) ?_
  refine (parse1_idle ⟨w.heap.size + 1, 0, none⟩ _).mono ?_
  rintro e u' w'' ⟨rfl, rfl, rfl⟩
  obtain ⟨a9, c9, ev9, j1, j2, hat9⟩ := HO4.out.at
  injection ev9 with e1 _ e3
  subst e1; subst e3
  have HR := Lib.hid (And.intro (And.intro j1 (And.intro j2 HO4.out)) HE4.out)
  clear j1 j2 hat9 y0 y1 y2 z0 z1 f0 f1 f2 k0 k1
  simp [Leaves, settle, results, Tryd.results8, go_sem, v0, v1, v2, v3, v4]
  exact ⟨⟨a1, c1, ⟨rfl, rfl⟩, HR.out.1⟩, HR.out.2⟩

end Go.Proofs.YtfjbhiihfibbaaaDoor
