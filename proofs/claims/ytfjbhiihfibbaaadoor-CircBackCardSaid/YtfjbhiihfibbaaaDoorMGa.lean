/-
  The reader: a circuit of any text.
-/
import Derived.Test.YtfjbhiihfibbaaaDoorMFa
import Derived.Test.YtfjbhiihfibbaaaDoorMDk
import Derived.Test.YtfjbhiihfibbaaaDoorMCf

namespace Go.Proofs.YtfjbhiihfibbaaaDoor
open Go.RowKit

set_option maxHeartbeats 8000000 in
set_option maxRecDepth 100000 in
theorem circuit_any (R : Nat) (T : List UInt8) (W0 w : World) (hE : Ext W0 w) (hW0 : W0.heap.size ≤ R) (hS : Shp W0) (h : Rd w R T 0 0) (hT : T.length ≤ 1000000) :
    Calls Tryd.prog 31 #[.pointer (some ⟨R, 0, none⟩)] w fun e w' => Mvd R w w' ∧ ((∃ (c : Gci) (a' : Option Addr) (c' : Nat), rdAll T = .inl c ∧ e = .returned (.agg #[.int .i64 c.qubits, .int .i64 c.bits, .slice a' c.ops.length c']) ∧ c.ops.length ≤ c' ∧ c' ≤ maxLen ∧ OpsAt w' a' c.ops.length c.ops ∧ OpsO w' (w.heap.size + 2) (.slice a' c.ops.length c') c.ops) ∨ (∃ n : Nat, rdAll T = .inr n ∧ e = .panicked (gup n))) := by
  obtain ⟨Q, hQ⟩ : ∃ Q, rdAll T = Q := ⟨_, rfl⟩
  rw [hQ]
  obtain ⟨i0, hi, hz0, hz1, hz2⟩ := info_parts op_info
  have hlR := h.lt
  obtain ⟨H, hH⟩ : ∃ H, w.heap.size = H := ⟨_, rfl⟩
  obtain ⟨o, ho⟩ : ∃ o, rdHead T = o := ⟨_, rfl⟩
  unfold rdAll at hQ
  rw [ho] at hQ
  have HQ0 := Lib.hid (show o = none → Q = .inr 0 from fun e => by rw [e] at hQ; exact hQ.symm)
  have HQ1 := Lib.hid (show ∀ q b p, o = some (q, b, p) → (∀ ops, rdLn (splt 10 (T.drop p)) [] 1 = .inl ops → Q = .inl ⟨q, b, ops⟩) ∧ (∀ n, rdLn (splt 10 (T.drop p)) [] 1 = .inr n → Q = .inr n) from fun q b p e => by
    rw [e] at hQ
    refine ⟨fun ops e2 => ?_, fun n e2 => ?_⟩
    · simp only [e2] at hQ; exact hQ.symm
    · simp only [e2] at hQ; exact hQ.symm)
  unfold rdHead at ho
  have E0 := (ext_al w (.cells #[.int .i64 0, .int .i64 0, .slice none 0 0] 24)).trans (ext_al (w.alloc (.cells #[.int .i64 0, .int .i64 0, .slice none 0 0] 24)) (.cells #[.int .i64 0, .int .i64 0, .slice none 0 0] 24))
  have bR : CiB ((w.alloc (.cells #[.int .i64 0, .int .i64 0, .slice none 0 0] 24)).alloc (.cells #[.int .i64 0, .int .i64 0, .slice none 0 0] 24)) H 0 0 none 0 0 := by rw [← hH]; exact CiB.ext ⟨heap_alloc_new w _⟩ (ext_al _ _)
  have bO : CiB ((w.alloc (.cells #[.int .i64 0, .int .i64 0, .slice none 0 0] 24)).alloc (.cells #[.int .i64 0, .int .i64 0, .slice none 0 0] 24)) (H + 1) 0 0 none 0 0 := ⟨by
    have := heap_alloc_new (w.alloc (.cells #[.int .i64 0, .int .i64 0, .slice none 0 0] 24)) (.cells #[.int .i64 0, .int .i64 0, .slice none 0 0] 24)
    rw [← hH]
    simpa using this⟩
  have hsz : ((w.alloc (.cells #[.int .i64 0, .int .i64 0, .slice none 0 0] 24)).alloc (.cells #[.int .i64 0, .int .i64 0, .slice none 0 0] 24)).heap.size = H + 2 := by simp; omega
  have HR0 := Lib.hid (h.ext E0); have HE0 := Lib.hid E0; have HbR := Lib.hid bR; have HbO := Lib.hid bO; have HS := Lib.hid hS; have HEW := Lib.hid hE
  have HhH := Lib.hid hH
  have hRH : R < H := by omega
  clear h hS hE E0 bR bO hQ
  by_cases hp1 : Lib.hasPrefix T [113, 117, 98, 105, 116, 115] = true
  rotate_left 1
  · rw [if_neg hp1] at ho
    have hpf : Lib.hasPrefix (T.drop 0) [113, 117, 98, 105, 116, 115] = false := by simpa using hp1
    have HN1 := Lib.hid (fun wx (hx : Rd wx R T 0 0) => need_no R T 0 0 [113, 117, 98, 105, 116, 115] wx hx (Nat.zero_le _) hpf)
    have HQz := Lib.hid (HQ0.out ho.symm)
    clear ho hp1 hpf HQ0 HQ1
    go_enter Tryd.func31, Tryd.ntmps31
    go_wp2_with fail
    generalize (w.alloc (.cells #[.int .i64 0, .int .i64 0, .slice none 0 0] 24)).alloc (.cells #[.int .i64 0, .int .i64 0, .slice none 0 0] 24) = V0 at *
    refine (HN1.out V0 HR0.out).mono ?_
    rintro e V1 ⟨rfl, hx1⟩
    have HMz := Lib.hid (Mvd.of_ext (R := R) (HE0.out.trans hx1))
    clear hx1
    go_wp2_with fail
    exact ⟨rfl, HMz.out, Or.inr ⟨0, HQz.out, rfl⟩⟩
  rw [if_pos hp1] at ho
  have hl6 : 6 ≤ T.length := by have := pre_len (T := T) (k := 0) (by simpa using hp1); simpa using this
  have HN1 := Lib.hid (fun wx (hx : Rd wx R T 0 0) => need_yes R T 0 0 [113, 117, 98, 105, 116, 115] wx hx (Nat.zero_le _) hT (by simpa using hp1))
  have HoA := Lib.hid (show ∀ q k1, rdNumI (T.drop 6) = some (q, k1) → rdH2 T q (6 + k1) = o from fun q k1 e => by unfold rdH1 at ho; rw [e] at ho; exact ho)
  have HoB := Lib.hid (show rdNumI (T.drop 6) = none → o = none from fun e => by unfold rdH1 at ho; rw [e] at ho; exact ho.symm)
  have HN2 := Lib.hid (fun wx (hx : Rd wx R T 6 0) => el_controls R T 6 0 wx hx hl6 hT)
  clear ho hp1
  go_enter Tryd.func31, Tryd.ntmps31
  go_wp2_with fail
  generalize (w.alloc (.cells #[.int .i64 0, .int .i64 0, .slice none 0 0] 24)).alloc (.cells #[.int .i64 0, .int .i64 0, .slice none 0 0] 24) = V0 at *
  refine (HN1.out V0 HR0.out).mono ?_
  rintro e V1 ⟨rfl, r1, m1⟩
  have HM1 := Lib.hid ((Mvd.of_ext (R := R) HE0.out).trans m1); have HR1 := Lib.hid (show Rd V1 R T 6 0 from r1); have HbR1 := Lib.hid (HbR.out.mvd m1 (by omega)); have HbO1 := Lib.hid (HbO.out.mvd m1 (by omega))
  have hs1 := m1.size
  clear r1 m1 HR0 HbR HbO HE0 HN1
  go_wp2_with fail
  refine (HN2.out V1 HR1.out).mono ?_
  rintro e V2 ⟨m2, (⟨qb, k1, hq1, rfl, r2, hl2, hk1⟩ | ⟨hq1, rfl⟩)⟩
  rotate_left 1
  · have HQz := Lib.hid (HQ0.out (HoB.out hq1)); have HMz := Lib.hid (HM1.out.trans m2)
    clear hq1 m2
    go_wp2_with fail
    exact ⟨rfl, HMz.out, Or.inr ⟨0, HQz.out, rfl⟩⟩
  have ho := HoA.out qb k1 hq1
  unfold rdH2 at ho
  obtain ⟨p2, hp2⟩ : ∃ x, 6 + k1 = x := ⟨_, rfl⟩
  rw [hp2] at ho r2 hl2
  have bO2 := HbO1.out.mvd m2 (show H + 1 ≠ R by omega)
  have y0 := bO2.x0; have g0 := bO2.f 0
  have HM2 := Lib.hid ((HM1.out.trans m2).putNew (g := H + 1) (show w.heap.size ≤ H + 1 by have := HhH.out; omega) 0 (.int .i64 qb)); have HR2 := Lib.hid (show Rd (V2.setCell ⟨H + 1, 0, none⟩ (.int .i64 qb)) R T p2 0 from ⟨row_far r2.row (by omega)⟩); have HbR2 := Lib.hid (show CiB (V2.setCell ⟨H + 1, 0, none⟩ (.int .i64 qb)) H 0 0 none 0 0 from ⟨row_far (HbR1.out.mvd m2 (by omega)).row (by omega)⟩); have HbO2 := Lib.hid (bO2.set0 qb)
  have hs2 := m2.size
  have Hl2 := Lib.hid hl2
  clear r2 m2 bO2 HR1 HbR1 HbO1 HM1 hq1 HoA HoB hk1 HN2 hp2 hl2 hl6
  by_cases hpb : Lib.hasPrefix (T.drop p2) [32, 98, 105, 116, 115] = true
  rotate_left 1
  · rw [if_neg hpb] at ho
    have hpf : Lib.hasPrefix (T.drop p2) [32, 98, 105, 116, 115] = false := by simpa using hpb
    have HN3 := Lib.hid (fun wx (hx : Rd wx R T p2 0) => need_no R T p2 0 [32, 98, 105, 116, 115] wx hx Hl2.out hpf)
    have HQz := Lib.hid (HQ0.out ho.symm)
    clear ho hpb hpf HQ0 HQ1
    go_wp2_with fail
    generalize V2.setCell ⟨H + 1, 0, none⟩ (.int .i64 qb) = V2' at *
    refine (HN3.out V2' HR2.out).mono ?_
    rintro e V3 ⟨rfl, hx3⟩
    have HMz := Lib.hid (HM2.out.trans (Mvd.of_ext (R := R) hx3))
    clear hx3
    go_wp2_with fail
    exact ⟨rfl, HMz.out, Or.inr ⟨0, HQz.out, rfl⟩⟩
  rw [if_pos hpb] at ho
  have hl3 : p2 + 5 ≤ T.length := by have h1 := pre_len hpb; have h2 := Hl2.out; simp at h1; omega
  have HN3 := Lib.hid (fun wx (hx : Rd wx R T p2 0) => need_yes R T p2 0 [32, 98, 105, 116, 115] wx hx Hl2.out hT hpb)
  have HN4 := Lib.hid (fun wx (hx : Rd wx R T (p2 + 5) 0) => el_controls R T (p2 + 5) 0 wx hx hl3 hT)
  have HoA := Lib.hid (show ∀ b k2, rdNumI (T.drop (p2 + 5)) = some (b, k2) → rdH4 T qb b (p2 + 5 + k2) = o from fun b k2 e => by unfold rdH3 at ho; rw [e] at ho; exact ho)
  have HoB := Lib.hid (show rdNumI (T.drop (p2 + 5)) = none → o = none from fun e => by unfold rdH3 at ho; rw [e] at ho; exact ho.symm)
  clear ho hpb hl3
  go_wp2_with fail
  have hsP2 : (V2.setCell ⟨H + 1, 0, none⟩ (.int .i64 qb)).heap.size = V2.heap.size := by simp
  generalize V2.setCell ⟨H + 1, 0, none⟩ (.int .i64 qb) = V2' at *
  refine (HN3.out V2' HR2.out).mono ?_
  rintro e V3 ⟨rfl, r3, m3⟩
  have HM3 := Lib.hid (HM2.out.trans m3); have HR3 := Lib.hid (show Rd V3 R T (p2 + 5) 0 from r3); have HbR3 := Lib.hid (HbR2.out.mvd m3 (by omega)); have HbO3 := Lib.hid (HbO2.out.mvd m3 (show H + 1 ≠ R by omega))
  have hs3 := m3.size
  clear r3 m3 HR2 HbR2 HbO2 HM2 y0 g0 HN3
  go_wp2_with fail
  refine (HN4.out V3 HR3.out).mono ?_
  rintro e V4 ⟨m4, (⟨bi, k2, hq2, rfl, r4, hl4, hk2⟩ | ⟨hq2, rfl⟩)⟩
  rotate_left 1
  · have HQz := Lib.hid (HQ0.out (HoB.out hq2)); have HMz := Lib.hid (HM3.out.trans m4)
    clear hq2 m4
    go_wp2_with fail
    exact ⟨rfl, HMz.out, Or.inr ⟨0, HQz.out, rfl⟩⟩
  have ho := HoA.out bi k2 hq2
  unfold rdH4 at ho
  obtain ⟨p4, hp4⟩ : ∃ x, p2 + 5 + k2 = x := ⟨_, rfl⟩
  rw [hp4] at ho r4 hl4
  have bO4 := HbO3.out.mvd m4 (show H + 1 ≠ R by omega)
  have y1 := bO4.x1; have g1 := bO4.f 1
  have HM4 := Lib.hid ((HM3.out.trans m4).putNew (g := H + 1) (show w.heap.size ≤ H + 1 by have := HhH.out; omega) 1 (.int .i64 bi)); have HR4 := Lib.hid (show Rd (V4.setCell ⟨H + 1, 1, none⟩ (.int .i64 bi)) R T p4 0 from ⟨row_far r4.row (by omega)⟩); have HbR4 := Lib.hid (show CiB (V4.setCell ⟨H + 1, 1, none⟩ (.int .i64 bi)) H 0 0 none 0 0 from ⟨row_far (HbR3.out.mvd m4 (by omega)).row (by omega)⟩); have HbO4 := Lib.hid (bO4.set1 bi)
  have hs4 := m4.size
  have Hl4 := Lib.hid hl4
  clear r4 m4 bO4 HR3 HbR3 HbO3 HM3 hq2 HoA HoB hk2 HN4 hp4 hl4 Hl2
  by_cases hpe : Lib.hasPrefix (T.drop p4) [10] = true
  rotate_left 1
  · rw [if_neg hpe] at ho
    have hpf : Lib.hasPrefix (T.drop p4) [10] = false := by simpa using hpe
    have HN5 := Lib.hid (fun wx (hx : Rd wx R T p4 0) => endLine_no R T p4 0 wx hx Hl4.out hpf)
    have HQz := Lib.hid (HQ0.out ho.symm)
    clear ho hpe hpf HQ0 HQ1
    go_wp2_with fail
    generalize V4.setCell ⟨H + 1, 1, none⟩ (.int .i64 bi) = V4' at *
    refine (HN5.out V4' HR4.out).mono ?_
    rintro e V5 ⟨rfl, hx5⟩
    have HMz := Lib.hid (HM4.out.trans (Mvd.of_ext (R := R) hx5))
    clear hx5
    go_wp2_with fail
    exact ⟨rfl, HMz.out, Or.inr ⟨0, HQz.out, rfl⟩⟩
  rw [if_pos hpe] at ho
  have hl5 : p4 + 1 ≤ T.length := by have h1 := pre_len hpe; have h2 := Hl4.out; simp at h1; omega
  have HN5 := Lib.hid (fun wx (hx : Rd wx R T p4 0) => endLine_yes R T p4 0 wx hx Hl4.out hT hpe (by omega))
  obtain ⟨p5, hp5⟩ : ∃ x, p4 + 1 = x := ⟨_, rfl⟩
  rw [hp5] at ho HN5 hl5
  obtain ⟨hQa, hQb⟩ := HQ1.out qb bi p5 ho.symm
  obtain ⟨res, hres⟩ : ∃ r, rdLn (splt 10 (T.drop p5)) [] 1 = r := ⟨_, rfl⟩
  rw [hres] at hQa hQb
  have HQa := Lib.hid hQa; have HQb := Lib.hid hQb; have Hres := Lib.hid hres
  have hlen5 : (splt 10 (T.drop p5)).length ≤ 1000000 := by
    have h1 := splt_len 10 (T.drop p5)
    rw [List.length_drop] at h1
    omega
  clear ho hpe hQa hQb hres HQ0 HQ1
  go_wp2_with fail
  have hsP4 : (V4.setCell ⟨H + 1, 1, none⟩ (.int .i64 bi)).heap.size = V4.heap.size := by simp
  generalize V4.setCell ⟨H + 1, 1, none⟩ (.int .i64 bi) = V4' at *
  refine (HN5.out V4' HR4.out).mono ?_
  rintro e V5 ⟨rfl, r5, m5⟩
  have HM5 := Lib.hid (HM4.out.trans m5); have HR5 := Lib.hid r5; have HbR5 := Lib.hid (HbR4.out.mvd m5 (by omega)); have HbO5 := Lib.hid (HbO4.out.mvd m5 (show H + 1 ≠ R by omega))
  have hs5 := m5.size
  clear r5 m5 HR4 HbR4 HbO4 HM4 y1 g1 HN5
  go_wp2_with fail
  go_loopg [] (splt 10 (T.drop p5)).length (fun kk wx => ∃ (acc : List Gop) (av : Option Addr) (i cv p : Nat), acc.length = i ∧ p ≤ T.length ∧ (splt 10 (T.drop p)).length = kk ∧ i + kk ≤ 1000000 ∧ rdLn (splt 10 (T.drop p)) acc (i + 1) = res ∧ CiB wx H 0 0 none 0 0 ∧ CiB wx (H + 1) qb bi av i cv ∧ OpsO wx (H + 2) (.slice av i cv) acc ∧ Rd wx R T p (i + 1) ∧ Mvd R w wx ∧ H + 2 ≤ wx.heap.size)
  case atStart => exact ⟨[], none, 0, 0, p5, rfl, hl5, rfl, by omega, Hres.out, HbR5.out, HbO5.out, OpsO.nil _ _, HR5.out, HM5.out, by omega⟩
  case round =>
    clear HbR5 HbO5 HR5 HM5 hs1 hs2 hs3 hs4 hs5 hsP2 hsP4 Hres hlen5 hl5 hsz hp5
    obtain ⟨ops, av, i, cv, pi, hli0, hpl, hk, hik, hrs, bR, bO, hown, hr, hm, hbs⟩ := hrel
    have x0 := hr.x0; have x1 := hr.x1
    by_cases hin : pi = T.length
    · have q1 : ¬ (pi : Int) < (T.length : Int) := by omega
      have q2 : decide ((pi : Int) < (T.length : Int)) = false := df q1
      rw [rdLn_stop (List.drop_eq_nil_of_le (by omega))] at hrs
      have HQf := Lib.hid (HQa.out ops hrs.symm)
      have HbR := Lib.hid bR; have HbO := Lib.hid bO; have Hown := Lib.hid hown; have HM := Lib.hid hm
      have Hli := Lib.hid hli0
      clear bR bO hown hr hm hrs hk hpl hin hli0
      go_upto_region 7 with fail
      go_quiet (fail)
      have E2 := ext_drewN wr nq
      have bR2 := HbR.out.ext E2; have bO2 := HbO.out.ext E2
      have ho := Hown.out.ext E2
      have HM2 := Lib.hid (HM.out.trans (Mvd.of_ext (R := R) E2))
      have hsE := E2.size
      generalize wr.drewN nq = wr2 at *
      have y0 := bO2.x0; have y1 := bO2.x1; have y2 := bO2.x2; have r0 := bR2.x0; have r1 := bR2.x1; have r2 := bR2.x2; have g0 := bR2.f 0; have g1 := bR2.f 1; have g2 := bR2.f 2
      have hO3 : Only H wr2 (((wr2.setCell ⟨H, 0, none⟩ (.int .i64 qb)).setCell ⟨H, 1, none⟩ (.int .i64 bi)).setCell ⟨H, 2, none⟩ (.slice av i cv)) := (((Only.refl _ _).setCell _ _).setCell _ _).setCell _ _
      have hoF := ho.only bR2.row (by decide) hO3 (by simp) (by omega)
      obtain ⟨a9, c9, ev9, k1, k2, hat9⟩ := hoF.at
      have hav : av = a9 ∧ cv = c9 := by
        injection ev9 with e1 e2 e3
        exact ⟨e1, e3⟩
      obtain ⟨rfl, rfl⟩ := hav
      have HoF := Lib.hid hoF; have Hat := Lib.hid hat9; have Hl1 := Lib.hid k1; have Hl2 := Lib.hid k2
      have HMf := Lib.hid (((HM2.out.putNew (g := H) (Nat.le_of_eq HhH.out) 0 (.int .i64 qb)).putNew (g := H) (Nat.le_of_eq HhH.out) 1 (.int .i64 bi)).putNew (g := H) (Nat.le_of_eq HhH.out) 2 (.slice av i cv))
      clear ho hat9 hO3 k1 k2 ev9 bR2 bO2 hoF hik
      go_wp2_with fail
      exact bodyPost_ret (v := .agg #[.int .i64 qb, .int .i64 bi, .slice av i cv]) (by simp [results, Tryd.results31, go_sem, r0, r1, r2]) rfl ⟨HMf.out, Or.inl ⟨⟨qb, bi, ops⟩, HQf.out, av, cv, by rw [← Hli.out], Hl1.out, Hl2.out, Hat.out, Eq.mp (congrArg (fun v => OpsO _ (H + 2) v ops) (show Value.slice av i cv = Value.slice av ops.length cv by rw [← Hli.out])) HoF.out⟩⟩
    · have q1 : (pi : Int) < (T.length : Int) := by omega
      have q2 : decide ((pi : Int) < (T.length : Int)) = true := dt q1
      have hLne : T.drop pi ≠ [] := fun e => by have := congrArg List.length e; rw [List.length_drop] at this; simp at this; omega
      have HbR := Lib.hid bR; have HbO := Lib.hid bO; have Hown := Lib.hid hown; have HM := Lib.hid hm; have HRr := Lib.hid hr
      have Hrs := Lib.hid hrs; have Hk := Lib.hid hk; have HLne := Lib.hid hLne; have Hpl := Lib.hid hpl; have Hli := Lib.hid hli0
      clear bR bO hown hr hm hrs hk hLne hpl hli0 hin
      go_upto_region 7 with fail
      go_quiet (fail)
      have E2 := ext_drewN wr nq
      have HbR2 := Lib.hid (HbR.out.ext E2); have HbO2 := Lib.hid (HbO.out.ext E2); have Hown2 := Lib.hid (Hown.out.ext E2); have HM2 := Lib.hid (HM.out.trans (Mvd.of_ext (R := R) E2)); have HRr2 := Lib.hid (HRr.out.ext E2)
      have hbs2 : H + 2 ≤ (wr.drewN nq).heap.size := Nat.le_trans hbs E2.size
      clear E2 HbR HbO Hown HM HRr x0 x1 hbs
      generalize wr.drewN nq = wr2 at *
      have v0 := HbO2.out.x2
      go_upto_region 8 with fail
      have hE0d : Ext wr2 wr2.drew := Below.drew (Ext.refl _)
      have HOp := Lib.hid (op_any R T pi (i + 1) W0 wr2.drew ((HM2.out.ext HEW.out hW0).trans hE0d) hW0 HS.out (HRr2.out.ext hE0d) Hpl.out hT)
      refine wp_region_K 7 (fun w' => w'.cell? ⟨H + 1, 2, none⟩ = some (.slice av i cv)) (by kernel_rfl) ?_
      show anyK _ _ _ _ _ _ 8 #[false, false, false, false, false, false, false, false] _ _
      have hHeld : wr2.drew.cell? ⟨H + 1, 2, none⟩ = some (.slice av i cv) := v0
      refine anyK_take (i := 0) (v := ?_) rfl (by kernel_rfl) (by kernel_rfl) (by kernel_rfl) (N := 8) (by kernel_rfl) (by kernel_rfl) (by kernel_rfl) (fun _ _ _ h => h) (Or.inl ⟨by rfl, ?_⟩) hHeld ?_
      rotate_left 1
      · intro w hSw
        go_simp
        try with_reducible rfl
      show anyK _ _ _ _ _ _ _ _ (Act.put _ (some 26) _) _
      simp only [Act.put, List.setIfInBounds_toArray, List.set_cons_zero, List.set_cons_succ]
      refine anyK_take (i := 1) (v := ?_) rfl (by kernel_rfl) (by kernel_rfl) (by kernel_rfl) (N := 8) (by kernel_rfl) (by kernel_rfl) (by kernel_rfl) (fun _ _ _ h => h) (Or.inl ⟨by rfl, ?_⟩) hHeld ?_
      rotate_left 1
      · intro w hSw
        go_simp
        try with_reducible rfl
      show anyK _ _ _ _ _ _ _ _ (Act.put _ (some 27) _) _
      simp only [Act.put, List.setIfInBounds_toArray, List.set_cons_zero, List.set_cons_succ]
      refine anyK_take (i := 2) (v := ?_) rfl (by kernel_rfl) (by kernel_rfl) (by kernel_rfl) (N := 8) (by kernel_rfl) (by kernel_rfl) (by kernel_rfl) (fun _ _ _ h => h) (Or.inl ⟨by rfl, ?_⟩) hHeld ?_
      rotate_left 1
      · intro w hSw
        go_simp
        try with_reducible rfl
      show anyK _ _ _ _ _ _ _ _ (Act.put _ (some 28) _) _
      simp only [Act.put, List.setIfInBounds_toArray, List.set_cons_zero, List.set_cons_succ]
      clear hHeld
      refine anyK_one (i := 3) (by kernel_rfl) rfl (fun Kk hKk => ?_)
      go_simp
      (go_at_call 62; refine HOp.out.mono ?_; rintro e w4 ⟨hm4, (⟨gg, kz, a3, n3, c3, a5, n5, c5, hrd, rfl, O4, hr4, hl4⟩ | ⟨hrd, rfl⟩)⟩)
      rotate_left 1
      · have HQz := Lib.hid (HQb.out (i + 1) (by rw [← Hrs.out]; exact rdLn_no HLne.out (fun o k e => by rw [hrd] at e; cases e) _ _))
        have HMz := Lib.hid ((HM2.out.trans (Mvd.of_ext (R := R) hE0d)).trans hm4)
        clear hrd hm4 hKk
        go_wp2_with fail
        exact ⟨rfl, HMz.out, Or.inr ⟨i + 1, HQz.out, rfl⟩⟩
      obtain ⟨kd, kk', ctl, qq, bb, cnd⟩ := gg
      have Hrd := Lib.hid hrd; have Hl4 := Lib.hid hl4
      clear hrd hl4
      have hm4' : Mvd R wr2 w4 := (Mvd.of_ext (R := R) hE0d).trans hm4
      have bO4 := HbO2.out.mvd hm4' (show H + 1 ≠ R by omega)
      have x24 := bO4.x2
      go_wp2_with fail
      refine hKk.out _ _ (fun _ => x24) ?_
      clear hKk Kk
      simp only [List.setIfInBounds_toArray, List.set_cons_zero, List.set_cons_succ]
      refine anyK_one (i := 4) (by kernel_rfl) rfl (fun Kk hKk => ?_)
      go_wp2_with fail
      refine hKk.out _ _ (fun _ => cell_ext x24 (ext_al _ _)) ?_
      clear hKk Kk
      simp only [List.setIfInBounds_toArray, List.set_cons_zero, List.set_cons_succ]
      obtain ⟨xs, ho, hzx⟩ := Hown2.out.mvd HRr2.out hm4' (show R < H + 2 by omega)
      have ho5 := ho.alloc (.cells #[.int .i64 kd, .int .i64 kk', .slice a3 n3 c3, .int .i64 qq, .int .i64 bb, .slice a5 n5 c5] 58)
      have hsz4 : H + 2 ≤ w4.heap.size := Nat.le_trans hbs2 hm4'.size
      have hli : ops.length = i := Hli.out
      obtain ⟨g, cap, w7, hrun, hown', hgrow', hcase, hglt⟩ := run_append_lies (P := Tryd.prog) (w4.alloc (.cells #[.int .i64 kd, .int .i64 kk', .slice a3 n3 c3, .int .i64 qq, .int .i64 bb, .slice a5 n5 c5] 58)) 22 22 (H + 2) 58 i0 (.agg #[.int .i64 0, .int .i64 0, .slice none 0 0, .int .i64 0, .int .i64 0, .slice none 0 0]) 6 80 Tryd.underlying22 hi hz0 hz1 hz2 rfl (by decide) (.slice av i cv) ops.length xs ho5 ⟨w4.heap.size, 0, none⟩ 1 1 [.int .i64 kd, .int .i64 kk', .slice a3 n3 c3, .int .i64 qq, .int .i64 bb, .slice a5 n5 c5] rfl (new_op w4 _ _ _ _ _ _ _ _ _ _ _) (one_op _ _ _ _ _ _ _ _ _ _) (by omega) (by rw [hli]; unfold maxLen; omega) (by rw [hli]; omega) (by simp; omega) _ rfl
      rw [hli] at hrun
      refine anyK_one (i := 5) (by kernel_rfl) rfl (fun Kk hKk => ?_)
      refine stepK_append rfl _ _ 22 rfl (.slice av i cv) (.slice (some ⟨w4.heap.size, 0, none⟩) 1 1) _ rfl rfl hrun ?_
      have hkind := PtKind ho5
      have hk7 : ∀ (b' : Nat) (cur : Array Value) (fr : Nat × Nat), (w4.alloc (.cells #[.int .i64 kd, .int .i64 kk', .slice a3 n3 c3, .int .i64 qq, .int .i64 bb, .slice a5 n5 c5] 58)).heap[b']? = some (.cells cur 3 fr) → w7.heap[b']? = (w4.alloc (.cells #[.int .i64 kd, .int .i64 kk', .slice a3 n3 c3, .int .i64 qq, .int .i64 bb, .slice a5 n5 c5] 58)).heap[b']? := fun b' cur fr hb' => by
        refine hgrow'.block b' (Array.getElem?_eq_some_iff.1 hb').1 (fun e => ?_)
        obtain ⟨_, cs, fr', e2⟩ := hkind b' e.symm
        rw [e2] at hb'
        cases hb'
      have O7 := (O4.ext (ext_al _ (.cells #[.int .i64 kd, .int .i64 kk', .slice a3 n3 c3, .int .i64 qq, .int .i64 bb, .slice a5 n5 c5] 58))).keep hgrow'.size hk7
      have own7 := OpsO.snoc hown' ho.1 hzx (fun g a1 n1 c1 a2 n2 c2 h => (h.ext (ext_al _ _)).keep hgrow'.size hk7) O7
      rw [hli] at own7
      clear hli
      have bOut7 : CiB w7 (H + 1) qb bi av i cv := CiB_grown hgrow' hkind (bO4.ext (ext_al _ _)) (by omega)
      have bRes7 : CiB w7 H 0 0 none 0 0 := CiB_grown hgrow' hkind ((HbR2.out.mvd hm4' (by omega)).ext (ext_al _ _)) (by omega)
      have hr7 : Rd w7 R T (pi + kz) (i + 1) := Rd.grown (hr4.ext (ext_al w4 (.cells #[.int .i64 kd, .int .i64 kk', .slice a3 n3 c3, .int .i64 qq, .int .i64 bb, .slice a5 n5 c5] 58))) hgrow' (fun k hk => by have := (hkind k hk).1; omega)
      have hm7 : Mvd R w w7 := Mvd.grown ((HM2.out.trans hm4').trans (Mvd.of_ext (ext_al w4 (.cells #[.int .i64 kd, .int .i64 kk', .slice a3 n3 c3, .int .i64 qq, .int .i64 bb, .slice a5 n5 c5] 58)))) hgrow' (fun k hk => by have := (hkind k hk).1; have := HhH.out; omega)
      have x2' := bOut7.x2; have fz2 := bOut7.f 2
      have hHeld : w7.cell? ⟨H + 1, 2, none⟩ = some (.slice av i cv) := x2'
      refine hKk.out _ _ (fun _ => hHeld) ?_
      clear hKk Kk
      show anyK _ _ _ _ _ _ _ _ (Act.put _ (some 31) _) _
      simp only [Act.put, List.setIfInBounds_toArray, List.set_cons_zero, List.set_cons_succ]
      refine anyK_take (i := 6) (v := ?_) rfl (by kernel_rfl) (by kernel_rfl) (by kernel_rfl) (N := 8) (by kernel_rfl) (by kernel_rfl) (by kernel_rfl) (fun _ _ _ h => h) (Or.inl ⟨by rfl, ?_⟩) hHeld ?_
      rotate_left 1
      · intro w hSw
        go_simp
        try with_reducible rfl
      show anyK _ _ _ _ _ _ _ _ (Act.put _ (some 32) _) _
      simp only [Act.put, List.setIfInBounds_toArray, List.set_cons_zero, List.set_cons_succ]
      clear hHeld
      refine anyK_one (i := 7) (by kernel_rfl) rfl (fun Kk hKk => ?_)
      refine stepK_store rfl rfl _ _ rfl (H + 1) 2 (some ⟨g, 0, none⟩) (i + 1) cap (.slice av i cv) rfl rfl x2' fz2 ?_
      refine hKk.out _ _ (fun h => Bool.noConfusion (show true = false from h)) ?_
      clear hKk Kk
      simp only [List.setIfInBounds_toArray, List.set_cons_zero, List.set_cons_succ]
      refine anyK_done (by kernel_rfl) ?_ _
      have bOut8 := bOut7.set2 (some ⟨g, 0, none⟩) (i + 1) cap
      have hOo := only1 w7 (H + 1) 2 (.slice (some ⟨g, 0, none⟩) (i + 1) cap)
      have own8 := own7.only bOut7.row (by decide) hOo (by simp) (by omega)
      have bR8 : CiB (w7.setCell ⟨H + 1, 2, none⟩ (.slice (some ⟨g, 0, none⟩) (i + 1) cap)) H 0 0 none 0 0 := ⟨(hOo.block _ (by omega)).trans bRes7.row⟩
      have hr8 : Rd (w7.setCell ⟨H + 1, 2, none⟩ (.slice (some ⟨g, 0, none⟩) (i + 1) cap)) R T (pi + kz) (i + 1) := ⟨(hOo.block _ (by omega)).trans hr7.row⟩
      have hm8 := hm7.putNew (g := H + 1) (show w.heap.size ≤ H + 1 by have := HhH.out; omega) 2 (.slice (some ⟨g, 0, none⟩) (i + 1) cap)
      have hs7 : H + 2 ≤ w7.heap.size := Nat.le_trans (Nat.le_trans hsz4 (ext_al w4 (.cells #[.int .i64 kd, .int .i64 kk', .slice a3 n3 c3, .int .i64 qq, .int .i64 bb, .slice a5 n5 c5] 58)).size) hgrow'.size
      have hs8 : (w7.setCell ⟨H + 1, 2, none⟩ (.slice (some ⟨g, 0, none⟩) (i + 1) cap)).heap.size = w7.heap.size := by simp
      have HbR8 := Lib.hid bR8; have HbO8 := Lib.hid bOut8; have Hown8 := Lib.hid own8; have HM8 := Lib.hid hm8; have HR8 := Lib.hid hr8
      clear bR8 bOut8 own8 hm8 hr8 own7 bOut7 bRes7 hr7 hm7 O7 hk7 hkind hgrow' hown' hrun ho5 ho hzx O4 hr4 hm4 hm4' hE0d v0 x2' fz2 bO4 x24 hOo HOp
      generalize w7.setCell ⟨H + 1, 2, none⟩ (.slice (some ⟨g, 0, none⟩) (i + 1) cap) = w8 at *
      by_cases hpn : Lib.hasPrefix (T.drop (pi + kz)) [10] = true
      · have hp' : Lib.hasPrefix ((T.drop pi).drop kz) [10] = true := by rw [List.drop_drop]; exact hpn
        obtain ⟨hyes, hylen⟩ := rdLn_yes Hrd.out hp' ops (i + 1)
        rw [List.drop_drop, ← Nat.add_assoc] at hyes hylen
        rw [Hrs.out] at hyes
        rw [Hk.out] at hylen
        have hp1 : pi + kz + 1 ≤ T.length := by have h1 := pre_len hpn; have h2 := Hl4.out; simp at h1; omega
        have hln : i + 1 ≤ 1000000 := by
          obtain ⟨a, b, e⟩ := splt_ne 10 (T.drop (pi + kz + 1))
          have h1 := hylen
          rw [e, List.length_cons] at h1
          omega
        have HEn := Lib.hid (endLine_yes R T (pi + kz) (i + 1) w8 HR8.out Hl4.out hT hpn hln)
        have Hy := Lib.hid hyes.symm; have Hyl := Lib.hid hylen; have Hp1 := Lib.hid hp1
        clear hyes hylen hp' hpn hp1 hln
        go_wp2_with fail
        refine HEn.out.mono ?_
        rintro e w9 ⟨rfl, hr9, hm9⟩
        have HR9 := Lib.hid hr9
        have HbR9 := Lib.hid (HbR8.out.mvd hm9 (by omega)); have HbO9 := Lib.hid (HbO8.out.mvd hm9 (show H + 1 ≠ R by omega)); have Hown9 := Lib.hid (Hown8.out.mvd HR8.out hm9 (show R < H + 2 by omega)); have HM9 := Lib.hid (HM8.out.trans hm9)
        have hs9 := hm9.size
        clear hr9 hm9 HEn
        go_wp2_with fail
        go_roundg (splt 10 (T.drop (pi + kz + 1))).length
        case measure => have := Hyl.out; omega
        case rel => exact ⟨ops ++ [⟨kd, kk', ctl, qq, bb, cnd⟩], some ⟨g, 0, none⟩, i + 1, cap, pi + kz + 1, by rw [List.length_append, Hli.out]; rfl, Hp1.out, rfl, by have := Hyl.out; omega, Hy.out, HbR9.out, HbO9.out, Hown9.out, HR9.out, HM9.out, by omega⟩
      · have hpf : Lib.hasPrefix (T.drop (pi + kz)) [10] = false := by simpa using hpn
        have HQz := Lib.hid (HQb.out (i + 1) (by rw [← Hrs.out]; exact rdLn_no HLne.out (fun o k e => by rw [Hrd.out] at e; injection e with e; injection e with _ e2; rw [← e2, List.drop_drop]; exact hpf) _ _))
        have HEn := Lib.hid (endLine_no R T (pi + kz) (i + 1) w8 HR8.out Hl4.out hpf)
        clear hpf hpn
        go_wp2_with fail
        refine HEn.out.mono ?_
        rintro e w9 ⟨rfl, hx9⟩
        have HMz := Lib.hid (HM8.out.trans (Mvd.of_ext (R := R) hx9))
        clear hx9 HEn
        go_wp2_with fail
        exact ⟨rfl, HMz.out, Or.inr ⟨i + 1, HQz.out, rfl⟩⟩

end Go.Proofs.YtfjbhiihfibbaaaDoor

/-
  A circuit that has a fault is not answered; what the deferred closure makes of a reader that gave up.
-/
namespace Go.Proofs.YtfjbhiihfibbaaaDoor
open Go.RowKit

theorem FtB.put {W : World} {g : Nat} {u v : Int} (h : FtB W g u v) (a b : Int) : FtB ((W.setCell ⟨g, 0, none⟩ (.int .i64 a)).setCell ⟨g, 1, none⟩ (.int .i64 b)) g a b := ⟨row_put (row_put h.row rfl) rfl⟩

/-- A circuit into one variable, a fault into another. -/
def putCF (W : World) (g gf : Nat) (q b : Int) (a : Option Addr) (n c : Nat) (u v : Int) : World :=
  ((((W.setCell ⟨g, 0, none⟩ (.int .i64 q)).setCell ⟨g, 1, none⟩ (.int .i64 b)).setCell ⟨g, 2, none⟩ (.slice a n c)).setCell ⟨gf, 0, none⟩ (.int .i64 u)).setCell ⟨gf, 1, none⟩ (.int .i64 v)
theorem putCF_C {W : World} {g gf : Nat} {q0 b0 : Int} {a0 : Option Addr} {n0 c0 : Nat} (h : CiB W g q0 b0 a0 n0 c0) (hne : g ≠ gf) (q b : Int) (a : Option Addr) (n c : Nat) (u v : Int) : CiB (putCF W g gf q b a n c u v) g q b a n c :=
  ⟨row_far (row_far (((h.set0 q).set1 b).set2 a n c).row (by omega)) (by omega)⟩
theorem putCF_F {W : World} {g gf : Nat} {u0 v0 : Int} (h : FtB W gf u0 v0) (hne : g ≠ gf) (q b : Int) (a : Option Addr) (n c : Nat) (u v : Int) : FtB (putCF W g gf q b a n c u v) gf u v :=
  ⟨row_put (row_put (row_far (row_far (row_far h.row (by omega)) (by omega)) (by omega)) rfl) rfl⟩
theorem putCF_ext {w W : World} {g gf : Nat} (h : Ext w W) (hg : w.heap.size ≤ g) (hf : w.heap.size ≤ gf) (q b : Int) (a : Option Addr) (n c : Nat) (u v : Int) : Ext w (putCF W g gf q b a n c u v) :=
  cput (o := 1) (cput (o := 0) (cput (o := 2) (cput (o := 1) (cput (o := 0) h hg _) hg _) hg _) hf _) hf _
theorem CiB.drew {W : World} {g : Nat} {qb bi : Int} {ao : Option Addr} {n cp : Nat} (h : CiB W g qb bi ao n cp) : CiB W.drew g qb bi ao n cp := ⟨h.row⟩
theorem FtB.drew {W : World} {g : Nat} {u v : Int} (h : FtB W g u v) : FtB W.drew g u v := ⟨h.row⟩

set_option maxHeartbeats 4000000 in
set_option maxRecDepth 100000 in
theorem checked_no (c : Gci) (ao : Option Addr) (n cp : Nat) (w : World) (h : OpsAt w ao n c.ops) (hn : n ≤ cp) (hcp : cp ≤ 9223372036854775807) (hS : Shp w) (hc : (chk c).1 ≠ 0) :
    Calls Tryd.prog 30 #[.agg #[.int .i64 c.qubits, .int .i64 c.bits, .slice ao n cp]] w fun e w' => e = .returned (.tuple #[.agg #[.int .i64 0, .int .i64 0, .slice none 0 0], .agg #[.int .i64 (chk c).1, .int .i64 (chk c).2]]) ∧ Ext w w' := by
  obtain ⟨qb, bi, ops⟩ := c
  obtain ⟨F, hF⟩ : ∃ F, chk ⟨qb, bi, ops⟩ = F := ⟨_, rfl⟩
  obtain ⟨u, v⟩ := F
  rw [hF] at hc ⊢
  simp only at hc ⊢
  obtain ⟨H, hH⟩ : ∃ H, w.heap.size = H := ⟨_, rfl⟩
  obtain ⟨A1, hA1⟩ : ∃ A1, w.alloc (.cells #[.int .i64 qb, .int .i64 bi, .slice ao n cp] 24) = A1 := ⟨_, rfl⟩
  obtain ⟨A2, hA2⟩ : ∃ A2, A1.alloc (.cells #[.int .i64 0, .int .i64 0, .slice none 0 0] 24) = A2 := ⟨_, rfl⟩
  obtain ⟨A3, hA3⟩ : ∃ A3, A2.alloc (.cells #[.int .i64 0, .int .i64 0] 26) = A3 := ⟨_, rfl⟩
  have s1 : A1.heap.size = H + 1 := by rw [← hA1, ← hH]; simp
  have s2 : A2.heap.size = H + 2 := by rw [← hA2]; simp; omega
  have x1 : Ext w A1 := by rw [← hA1]; exact ext_al _ _
  have x2 : Ext A1 A2 := by rw [← hA2]; exact ext_al _ _
  have x3 : Ext A2 A3 := by rw [← hA3]; exact ext_al _ _
  have bC : CiB A3 H qb bi ao n cp := by
    have : CiB A1 H qb bi ao n cp := by rw [← hA1, ← hH]; exact ⟨heap_alloc_new w _⟩
    exact (this.ext x2).ext x3
  have bR : CiB A3 (H + 1) 0 0 none 0 0 := by
    have : CiB A2 (H + 1) 0 0 none 0 0 := by rw [← hA2, ← s1]; exact ⟨heap_alloc_new A1 _⟩
    exact this.ext x3
  have bF : FtB A3 (H + 2) 0 0 := by rw [← hA3, ← s2]; exact ⟨heap_alloc_new A2 _⟩
  have E0 : Ext w A3 := (x1.trans x2).trans x3
  have hA : ((w.alloc (.cells #[.int .i64 qb, .int .i64 bi, .slice ao n cp] 24)).alloc (.cells #[.int .i64 0, .int .i64 0, .slice none 0 0] 24)).alloc (.cells #[.int .i64 0, .int .i64 0] 26) = A3 := by rw [hA1, hA2, hA3]
  have HK := Lib.hid (Check_any ⟨qb, bi, ops⟩ ao n cp A3 (h.ext E0) hn hcp (hS.ext E0))
  rw [hF] at HK
  subst hH
  simp only at HK ⊢
  have m0 := bC.x0; have m1 := bC.x1; have m2 := bC.x2
  rw [← hA] at m0 m1 m2
  have HA := Lib.hid hA; have HE0 := Lib.hid E0; have HR := Lib.hid bR; have HFt := Lib.hid bF
  have nu := nt hc; have nb := bf hc
  clear h hS hF E0 bC bR bF x1 x2 x3 s1 s2 hA1 hA2 hA3 hA
  go_enter Tryd.func30, Tryd.ntmps30
  go_wp2_with fail
  rw [HA.out]
  refine HK.out.mono ?_
  rintro e w1 ⟨rfl, hx1⟩
  have Ef := ext_al w1 (.cells #[.int .i64 u, .int .i64 v] 26)
  have bf1 : FtB (w1.alloc (.cells #[.int .i64 u, .int .i64 v] 26)) w1.heap.size u v := ⟨heap_alloc_new w1 _⟩
  have q0 := bf1.x0; have q1 := bf1.x1
  have hX := hx1.trans Ef
  have bR1 := HR.out.ext hX; have bF1 := HFt.out.ext hX
  have HEz := Lib.hid (HE0.out.trans hX)
  have hsz1 := hX.size; have hA3 := HFt.out.lt
  have r0 := bR1.x0; have r1 := bR1.x1; have r2 := bR1.x2; have g0 := bR1.f 0; have g1 := bR1.f 1; have g2 := bR1.f 2
  have f0 := bF1.x0; have f1 := bF1.x1; have k0 := bF1.f 0; have k1 := bF1.f 1
  have HbR1 := Lib.hid bR1; have HbF1 := Lib.hid bF1; have Hbf1 := Lib.hid bf1
  have hgt : w.heap.size + 1 + 1 < w1.heap.size := Nat.lt_of_lt_of_le hA3 hx1.size
  have hgt1 : w1.heap.size ≠ w.heap.size + 1 := by omega
  have hgt2 : w1.heap.size ≠ w.heap.size + 1 + 1 := by omega
  have zC := (putCF_C HbR1.out (show w.heap.size + 1 ≠ w.heap.size + 1 + 1 by omega) 0 0 none 0 0 u v).drew
  have zF := (putCF_F HbF1.out (show w.heap.size + 1 ≠ w.heap.size + 1 + 1 by omega) 0 0 none 0 0 u v).drew
  have zE : Ext w (putCF (w1.alloc (.cells #[.int .i64 u, .int .i64 v] 26)) (w.heap.size + 1) (w.heap.size + 1 + 1) 0 0 none 0 0 u v).drew := Below.drew (putCF_ext HEz.out (by omega) (by omega) _ _ _ _ _ _ _)
  obtain ⟨Wz, hWz⟩ : ∃ Wz, putCF (w1.alloc (.cells #[.int .i64 u, .int .i64 v] 26)) (w.heap.size + 1) (w.heap.size + 1 + 1) 0 0 none 0 0 u v = Wz := ⟨_, rfl⟩
  rw [hWz] at zC zF zE
  unfold putCF at hWz
  have HWz := Lib.hid hWz; have HzE := Lib.hid zE
  have z0 := zC.x0; have z1 := zC.x1; have z2 := zC.x2; have z3 := zF.x0; have z4 := zF.x1
  clear m0 m1 m2 hx1 Ef bf1 HK hX bR1 bF1 hWz zE zC zF
  clear hsz1 hA3 hgt
  go_upto_region 3 with fail
  go_region
  go_wp2_with fail
  rw [HWz.out]
  exact bodyPost_ret (v := .tuple #[.agg #[.int .i64 0, .int .i64 0, .slice none 0 0], .agg #[.int .i64 u, .int .i64 v]]) (by simp [results, Tryd.results30, go_sem, z0, z1, z2, z3, z4]) rfl ⟨rfl, HzE.out⟩

set_option maxRecDepth 100000 in
set_option maxHeartbeats 1000000 in
theorem faultOf_any (a b : Int) (w : World) :
    Calls Tryd.prog 29 #[.iface 86 (.agg #[.int .i64 a, .int .i64 b])] w fun e w' => e = .returned (.agg #[.int .i64 a, .int .i64 b]) ∧ Ext w w' := by
  have hta : ∀ (t : TypeId) (w : World), Sem.run Tryd.prog (Instr.typeAssert (.iface 86 (.agg #[.int .i64 a, .int .i64 b])) t 86 true) w = .ok (.tuple #[.agg #[.int .i64 a, .int .i64 b], .bool true]) w := fun _ _ => by kernel_rfl
  go_enter Tryd.func29, Tryd.ntmps29
  have HX := Lib.hid ((ext_al w (.cells #[.int .i64 a, .int .i64 b] 26)).trans (ext_al _ (.cells #[.int .i64 a, .int .i64 b] 86)))
  go_wp2_with fail
  exact bodyPost_ret (v := .agg #[.int .i64 a, .int .i64 b]) (by simp [results, Tryd.results29, go_sem]) rfl ⟨rfl, HX.out⟩

set_option maxRecDepth 100000 in
set_option maxHeartbeats 1000000 in
/-- The reader gave up: the fault is laid into the result's variable. -/
theorem parse1_catch (B ln : Nat) (w : World) (h : FtB w B 0 0) :
    CallsD Tryd.prog 28 #[.pointer (some ⟨B, 0, none⟩)] (.panicking (gup ln)) w fun e u' w' => e = .returned (.tuple #[]) ∧ (u' = .panicking [{ v := .iface 86 (.agg #[.int .i64 1, .int .i64 (ln : Int)]), recovered := true }]) ∧ ∃ w1, Ext w w1 ∧ w' = (w1.setCell ⟨B, 0, none⟩ (.int .i64 1)).setCell ⟨B, 1, none⟩ (.int .i64 (ln : Int)) := by
  unfold gup
  refine callsD_of_wpS Tryd.func28 rfl fun c₀ cs hu => ?_
  apply wpS_seq
  apply wpS_region
  simp [wpOpsS, go_sem, recoverD, hu, Tryd.ntmps28, Exit.thenS]
  apply wpS_seq
  apply wpS_region
  simp [wpOpsS, go_sem, Exit.thenS]
  refine wpS_cond (t := true) (by simp [Act.eval, Array.replicate]) ?_
  simp only [if_true]
  refine wpS_of_wp ?_
  show Code.wp _ _ _ { tmps := #[.pointer (some ⟨B, 0, none⟩), .iface 86 (.agg #[.int .i64 1, .int .i64 (ln : Int)]), .iface 86 (.agg #[.int .i64 1, .int .i64 (ln : Int)]), .iface 86 (.agg #[.int .i64 1, .int .i64 (ln : Int)]), .bool true, undef, undef], defers := [] } w
  have HF := Lib.hid h
  clear h
  go_wp2_with fail
  refine (faultOf_any 1 (ln : Int) w).mono ?_
  rintro e w1 ⟨rfl, hx⟩
  have f1 := HF.out.ext hx
  have y0 := f1.x0; have y1 := f1.x1; have k0 := f1.f 0; have k1 := f1.f 1
  have HX := Lib.hid hx
  clear hx f1
  go_wp2_with fail
  cases c₀
  simp_all [bodyPostS, results, Tryd.results28]
  exact ⟨w1, HX.out, rfl⟩

end Go.Proofs.YtfjbhiihfibbaaaDoor

/-
  Parse of any text.
-/
namespace Go.Proofs.YtfjbhiihfibbaaaDoor
open Go.RowKit

theorem circuit_bad {R : Nat} {T : List UInt8} {W0 w : World} (hE : Ext W0 w) (hW0 : W0.heap.size ≤ R) (hS : Shp W0) (h : Rd w R T 0 0) (hT : T.length ≤ 1000000) {n : Nat} (hn : rdAll T = .inr n) :
    Calls Tryd.prog 31 #[.pointer (some ⟨R, 0, none⟩)] w fun e w' => e = .panicked (gup n) ∧ Mvd R w w' := by
  refine (circuit_any R T W0 w hE hW0 hS h hT).mono ?_
  rintro e w' ⟨hm, (⟨c, a', c', h1, _⟩ | ⟨m, h1, he⟩)⟩
  · rw [hn] at h1; cases h1
  · rw [hn] at h1; injection h1 with h1; subst h1; exact ⟨he, hm⟩
theorem circuit_good {R : Nat} {T : List UInt8} {W0 w : World} (hE : Ext W0 w) (hW0 : W0.heap.size ≤ R) (hS : Shp W0) (h : Rd w R T 0 0) (hT : T.length ≤ 1000000) {c : Gci} (hn : rdAll T = .inl c) :
    Calls Tryd.prog 31 #[.pointer (some ⟨R, 0, none⟩)] w fun e w' => (∃ (a' : Option Addr) (c' : Nat), e = .returned (.agg #[.int .i64 c.qubits, .int .i64 c.bits, .slice a' c.ops.length c']) ∧ c.ops.length ≤ c' ∧ c' ≤ maxLen ∧ OpsAt w' a' c.ops.length c.ops ∧ OpsO w' (w.heap.size + 2) (.slice a' c.ops.length c') c.ops) ∧ Mvd R w w' := by
  refine (circuit_any R T W0 w hE hW0 hS h hT).mono ?_
  rintro e w' ⟨hm, (⟨c1, a', c', h1, h2⟩ | ⟨m, h1, he⟩)⟩
  · rw [hn] at h1; injection h1 with h1; subst h1; exact ⟨⟨a', c', h2⟩, hm⟩
  · rw [hn] at h1; cases h1

set_option maxHeartbeats 4000000 in
set_option maxRecDepth 100000 in
theorem parse_bad (T : List UInt8) (w : World) (hS : Shp w) (hT : T.length ≤ 1000000) (n : Nat) (hn : rdAll T = .inr n) :
    Calls Tryd.prog 8 #[.string ⟨T.toArray⟩] w fun e w' => e = .returned (.tuple #[.agg #[.int .i64 0, .int .i64 0, .slice none 0 0], .agg #[.int .i64 1, .int .i64 (n : Int)]]) ∧ Ext w w' := by
  have hmf : ∀ (fn : Fn) (first cap : Array Value) (w : World), (Instr.makeFunc fn first cap).run Tryd.prog w = .ok (.func fn first cap) w := fun _ _ _ _ => rfl
  obtain ⟨H, hH⟩ : ∃ H, w.heap.size = H := ⟨_, rfl⟩
  obtain ⟨A1, hA1⟩ : ∃ A1, w.alloc (.cells #[.int .i64 0, .int .i64 0, .slice none 0 0] 24) = A1 := ⟨_, rfl⟩
  obtain ⟨A2, hA2⟩ : ∃ A2, A1.alloc (.cells #[.int .i64 0, .int .i64 0] 26) = A2 := ⟨_, rfl⟩
  obtain ⟨A3, hA3⟩ : ∃ A3, A2.alloc (.cells #[.string ⟨T.toArray⟩, .int .i64 0, .int .i64 0] 50) = A3 := ⟨_, rfl⟩
  have s1 : A1.heap.size = H + 1 := by rw [← hA1, ← hH]; simp
  have s2 : A2.heap.size = H + 2 := by rw [← hA2]; simp; omega
  have s3 : A3.heap.size = H + 3 := by rw [← hA3]; simp; omega
  have x1 : Ext w A1 := by rw [← hA1]; exact ext_al _ _
  have x2 : Ext A1 A2 := by rw [← hA2]; exact ext_al _ _
  have x3 : Ext A2 A3 := by rw [← hA3]; exact ext_al _ _
  have bC : CiB A3 H 0 0 none 0 0 := by
    have : CiB A1 H 0 0 none 0 0 := by rw [← hA1, ← hH]; exact ⟨heap_alloc_new w _⟩
    exact (this.ext x2).ext x3
  have bF : FtB A3 (H + 1) 0 0 := by
    have : FtB A2 (H + 1) 0 0 := by rw [← hA2, ← s1]; exact ⟨heap_alloc_new A1 _⟩
    exact this.ext x3
  have hr : Rd A3 (H + 2) T 0 0 := ⟨by rw [← hA3, ← s2]; exact heap_alloc_new A2 _⟩
  have HW := Lib.hid (x1.trans x2)
  have HK := Lib.hid (circuit_bad x3 (Nat.le_of_eq s2) (hS.ext (x1.trans x2)) hr hT hn)
  have HX3 := Lib.hid x3
  have hA : ((w.alloc (.cells #[.int .i64 0, .int .i64 0, .slice none 0 0] 24)).alloc (.cells #[.int .i64 0, .int .i64 0] 26)).alloc (.cells #[.string ⟨T.toArray⟩, .int .i64 0, .int .i64 0] 50) = A3 := by rw [hA1, hA2, hA3]
  have hlen : ¬ ((T.length : Nat) : Int) > 1000000 := by omega
  have hld : decide (1000000 < ((T.length : Nat) : Int)) = false := df (by omega)
  have Hs2 := Lib.hid s2
  subst hH
  have HA := Lib.hid hA; have HC := Lib.hid bC; have HF := Lib.hid bF
  clear hS hn x1 x2 x3 hA1 hA2 hA3 hA s1 s2 s3 bC bF hr hT
  go_enter_defers Tryd.func8, Tryd.ntmps8
  go_wp2_with fail
  rw [HA.out]
  refine HK.out.mono ?_
  rintro e w1 ⟨rfl, hm1⟩
  have HE1 := Lib.hid (show Ext w w1 from HW.out.trans (hm1.ext HX3.out (Nat.le_of_eq Hs2.out)))
  have HC1 := Lib.hid (HC.out.mvd hm1 (show w.heap.size ≠ w.heap.size + 2 by omega))
  have HF1 := Lib.hid (show FtB w1 (w.heap.size + 1) 0 0 from ⟨(hm1.block (w.heap.size + 1) HF.out.lt (by omega)).trans HF.out.row⟩)
  clear hm1 HK HC HF HA HX3 HW
  go_wp2_with fail
  refine leaves_cons (f := 28) (args := #[.pointer (some ⟨w.heap.size + 1, 0, none⟩)]) (by simp) (by simp [go_sem]) ?_
  refine (parse1_catch (w.heap.size + 1) n w1 HF1.out).mono ?_
  rintro e u' w'' ⟨rfl, rfl, w2, hx2, rfl⟩
  have bF2 := (HF1.out.ext hx2).put 1 (n : Int)
  have bC2 : CiB ((w2.setCell ⟨w.heap.size + 1, 0, none⟩ (.int .i64 1)).setCell ⟨w.heap.size + 1, 1, none⟩ (.int .i64 (n : Int))) w.heap.size 0 0 none 0 0 := ⟨row_far (row_far (HC1.out.ext hx2).row (by omega)) (by omega)⟩
  have HE2 := Lib.hid (cput (o := 1) (cput (o := 0) (HE1.out.trans hx2) (Nat.le_succ _) (.int .i64 1)) (Nat.le_succ _) (.int .i64 (n : Int)))
  have v0 := bC2.x0; have v1 := bC2.x1; have v2 := bC2.x2; have v3 := bF2.x0; have v4 := bF2.x1
  clear bF2 bC2 hx2
  generalize (w2.setCell ⟨w.heap.size + 1, 0, none⟩ (.int .i64 1)).setCell ⟨w.heap.size + 1, 1, none⟩ (.int .i64 (n : Int)) = Wz at *
  simp [Leaves, settle, results, Tryd.results8, go_sem, v0, v1, v2, v3, v4]
  exact HE2.out

set_option maxHeartbeats 4000000 in
set_option maxRecDepth 100000 in
theorem parse_long (T : List UInt8) (w : World) (hT : 1000000 < T.length) :
    Calls Tryd.prog 8 #[.string ⟨T.toArray⟩] w fun e w' => e = .returned (.tuple #[.agg #[.int .i64 0, .int .i64 0, .slice none 0 0], .agg #[.int .i64 2, .int .i64 0]]) ∧ Ext w w' := by
  have hlen : ((T.length : Nat) : Int) > 1000000 := by omega
  have hld : decide (1000000 < ((T.length : Nat) : Int)) = true := dt (by omega)
  obtain ⟨A2, hA2⟩ : ∃ A2, (w.alloc (.cells #[.int .i64 0, .int .i64 0, .slice none 0 0] 24)).alloc (.cells #[.int .i64 2, .int .i64 0] 26) = A2 := ⟨_, rfl⟩
  have HE := Lib.hid (show Ext w A2 by rw [← hA2]; exact (ext_al _ _).trans (ext_al _ _))
  have bC : CiB A2 w.heap.size 0 0 none 0 0 := by rw [← hA2]; exact CiB.ext ⟨heap_alloc_new w _⟩ (ext_al _ _)
  have bF : FtB A2 (w.heap.size + 1) 2 0 := ⟨by
    have := heap_alloc_new (w.alloc (.cells #[.int .i64 0, .int .i64 0, .slice none 0 0] 24)) (.cells #[.int .i64 2, .int .i64 0] 26)
    rw [← hA2]
    simpa using this⟩
  have v0 := bC.x0; have v1 := bC.x1; have v2 := bC.x2; have v3 := bF.x0; have v4 := bF.x1
  have HA := Lib.hid hA2
  clear hA2 bC bF hT
  go_enter_defers Tryd.func8, Tryd.ntmps8
  go_wp2_with fail
  rw [HA.out]
  simp [bodyPostD, Leaves, results, Tryd.results8, go_sem, v0, v1, v2, v3, v4]
  exact HE.out

set_option maxHeartbeats 4000000 in
set_option maxRecDepth 100000 in
theorem parse_chk (T : List UInt8) (w : World) (hS : Shp w) (hT : T.length ≤ 1000000) (c : Gci) (hn : rdAll T = .inl c) (hc : (chk c).1 ≠ 0) :
    Calls Tryd.prog 8 #[.string ⟨T.toArray⟩] w fun e w' => e = .returned (.tuple #[.agg #[.int .i64 0, .int .i64 0, .slice none 0 0], .agg #[.int .i64 (chk c).1, .int .i64 (chk c).2]]) ∧ Ext w w' := by
  have hmf : ∀ (fn : Fn) (first cap : Array Value) (w : World), (Instr.makeFunc fn first cap).run Tryd.prog w = .ok (.func fn first cap) w := fun _ _ _ _ => rfl
  obtain ⟨H, hH⟩ : ∃ H, w.heap.size = H := ⟨_, rfl⟩
  obtain ⟨A1, hA1⟩ : ∃ A1, w.alloc (.cells #[.int .i64 0, .int .i64 0, .slice none 0 0] 24) = A1 := ⟨_, rfl⟩
  obtain ⟨A2, hA2⟩ : ∃ A2, A1.alloc (.cells #[.int .i64 0, .int .i64 0] 26) = A2 := ⟨_, rfl⟩
  obtain ⟨A3, hA3⟩ : ∃ A3, A2.alloc (.cells #[.string ⟨T.toArray⟩, .int .i64 0, .int .i64 0] 50) = A3 := ⟨_, rfl⟩
  have s1 : A1.heap.size = H + 1 := by rw [← hA1, ← hH]; simp
  have s2 : A2.heap.size = H + 2 := by rw [← hA2]; simp; omega
  have s3 : A3.heap.size = H + 3 := by rw [← hA3]; simp; omega
  have x1 : Ext w A1 := by rw [← hA1]; exact ext_al _ _
  have x2 : Ext A1 A2 := by rw [← hA2]; exact ext_al _ _
  have x3 : Ext A2 A3 := by rw [← hA3]; exact ext_al _ _
  have bC : CiB A3 H 0 0 none 0 0 := by
    have : CiB A1 H 0 0 none 0 0 := by rw [← hA1, ← hH]; exact ⟨heap_alloc_new w _⟩
    exact (this.ext x2).ext x3
  have bF : FtB A3 (H + 1) 0 0 := by
    have : FtB A2 (H + 1) 0 0 := by rw [← hA2, ← s1]; exact ⟨heap_alloc_new A1 _⟩
    exact this.ext x3
  have hr : Rd A3 (H + 2) T 0 0 := ⟨by rw [← hA3, ← s2]; exact heap_alloc_new A2 _⟩
  have HW := Lib.hid (x1.trans x2)
  have HK := Lib.hid (circuit_good x3 (Nat.le_of_eq s2) (hS.ext (x1.trans x2)) hr hT hn)
  have HX3 := Lib.hid x3
  have hA : ((w.alloc (.cells #[.int .i64 0, .int .i64 0, .slice none 0 0] 24)).alloc (.cells #[.int .i64 0, .int .i64 0] 26)).alloc (.cells #[.string ⟨T.toArray⟩, .int .i64 0, .int .i64 0] 50) = A3 := by rw [hA1, hA2, hA3]
  have hlen : ¬ ((T.length : Nat) : Int) > 1000000 := by omega
  have hld : decide (1000000 < ((T.length : Nat) : Int)) = false := df (by omega)
  rw [s3] at HK
  obtain ⟨qb, bi, ops⟩ := c
  have HS := Lib.hid hS; have Hz := Lib.hid hc; have Hs2 := Lib.hid s2
  subst hH
  have HA := Lib.hid hA; have HC := Lib.hid bC; have HF := Lib.hid bF
  clear hS hc hn x1 x2 x3 hA1 hA2 hA3 hA s1 s2 s3 bC bF hr hT
  simp only at HK ⊢
  obtain ⟨F, hF⟩ : ∃ F, chk ⟨qb, bi, ops⟩ = F := ⟨_, rfl⟩
  obtain ⟨u, v⟩ := F
  rw [hF] at ⊢
  have HFF := Lib.hid hF
  clear hF
  simp only
  go_enter_defers Tryd.func8, Tryd.ntmps8
  go_wp2_with fail
  rw [HA.out]
  refine HK.out.mono ?_
  rintro e w1 ⟨⟨a1, c1, rfl, h1, h2, hat1, ho1⟩, hm1⟩
  have E1 : Ext w w1 := HW.out.trans (hm1.ext HX3.out (Nat.le_of_eq Hs2.out))
  have bC1 := HC.out.mvd hm1 (show w.heap.size ≠ w.heap.size + 2 by omega)
  have bF1 : FtB w1 (w.heap.size + 1) 0 0 := ⟨(hm1.block (w.heap.size + 1) HF.out.lt (by omega)).trans HF.out.row⟩
  have HCh := Lib.hid (checked_no ⟨qb, bi, ops⟩ a1 ops.length c1 w1 hat1 h1 h2 (HS.out.ext E1) Hz.out)
  rw [HFF.out] at HCh
  have HE1 := Lib.hid E1; have HC1 := Lib.hid bC1; have HF1 := Lib.hid bF1
  clear E1 ho1 hat1 h1 h2 bC1 bF1 hm1 HK HC HF HA HX3 HW
  simp only at HCh
  go_wp2_with fail
  refine HCh.out.mono ?_
  rintro e w2 ⟨rfl, hx2⟩
  have bC2 := HC1.out.ext hx2; have bF2 := HF1.out.ext hx2
  have y0 := bC2.x0; have y1 := bC2.x1; have y2 := bC2.x2; have f0 := bC2.f 0; have f1 := bC2.f 1; have f2 := bC2.f 2
  have z0 := bF2.x0; have z1 := bF2.x1; have k0 := bF2.f 0; have k1 := bF2.f 1
  have HC4 := Lib.hid (putCF_C bC2 (show w.heap.size ≠ w.heap.size + 1 by omega) 0 0 none 0 0 u v)
  have HF4 := Lib.hid (putCF_F bF2 (show w.heap.size ≠ w.heap.size + 1 by omega) 0 0 none 0 0 u v)
  have HE4 := Lib.hid (putCF_ext (HE1.out.trans hx2) (Nat.le_refl _) (Nat.le_succ _) 0 0 none 0 0 u v : Ext w (putCF w2 w.heap.size (w.heap.size + 1) 0 0 none 0 0 u v))
  obtain ⟨Wz, hWz⟩ : ∃ Wz, putCF w2 w.heap.size (w.heap.size + 1) 0 0 none 0 0 u v = Wz := ⟨_, rfl⟩
  rw [hWz] at HC4 HF4 HE4
  unfold putCF at hWz
  have HWz := Lib.hid hWz
  clear HC1 HF1 HE1 HCh hx2 bC2 bF2 hWz
  go_wp2_with fail
  rw [HWz.out]
  have v0 := HC4.out.x0; have v1 := HC4.out.x1; have v2 := HC4.out.x2; have v3 := HF4.out.x0; have v4 := HF4.out.x1
  refine leaves_cons (f := 28) (args := #[.pointer (some ⟨w.heap.size + 1, 0, none⟩)]) (by simp) (by simp [go_sem]) ?_
  refine (parse1_idle ⟨w.heap.size + 1, 0, none⟩ _).mono ?_
  rintro e u' w'' ⟨rfl, rfl, rfl⟩
  clear y0 y1 y2 z0 z1 f0 f1 f2 k0 k1
  simp [Leaves, settle, results, Tryd.results8, go_sem, v0, v1, v2, v3, v4]
  exact HE4.out

set_option maxHeartbeats 4000000 in
set_option maxRecDepth 100000 in
theorem parse_fine (T : List UInt8) (c : Gci) (w : World) (hS : Shp w) (hc : (chk c).1 = 0) (hT : T.length ≤ 1000000) (hn : rdAll T = .inl c) :
    Calls Tryd.prog 8 #[.string ⟨T.toArray⟩] w fun e w' => (∃ (a' : Option Addr) (c' : Nat), e = .returned (.tuple #[.agg #[.int .i64 c.qubits, .int .i64 c.bits, .slice a' c.ops.length c'], .agg #[.int .i64 0, .int .i64 0]]) ∧ c.ops.length ≤ c' ∧ c' ≤ maxLen ∧ OpsO w' (w.heap.size + 5) (.slice a' c.ops.length c') c.ops) ∧ Ext w w' := by
  obtain ⟨hz, _⟩ := chk_zero hc
  have hmf : ∀ (fn : Fn) (first cap : Array Value) (w : World), (Instr.makeFunc fn first cap).run Tryd.prog w = .ok (.func fn first cap) w := fun _ _ _ _ => rfl
  obtain ⟨H, hH⟩ : ∃ H, w.heap.size = H := ⟨_, rfl⟩
  obtain ⟨A1, hA1⟩ : ∃ A1, w.alloc (.cells #[.int .i64 0, .int .i64 0, .slice none 0 0] 24) = A1 := ⟨_, rfl⟩
  obtain ⟨A2, hA2⟩ : ∃ A2, A1.alloc (.cells #[.int .i64 0, .int .i64 0] 26) = A2 := ⟨_, rfl⟩
  obtain ⟨A3, hA3⟩ : ∃ A3, A2.alloc (.cells #[.string ⟨T.toArray⟩, .int .i64 0, .int .i64 0] 50) = A3 := ⟨_, rfl⟩
  have s1 : A1.heap.size = H + 1 := by rw [← hA1, ← hH]; simp
  have s2 : A2.heap.size = H + 2 := by rw [← hA2]; simp; omega
  have s3 : A3.heap.size = H + 3 := by rw [← hA3]; simp; omega
  have x1 : Ext w A1 := by rw [← hA1]; exact ext_al _ _
  have x2 : Ext A1 A2 := by rw [← hA2]; exact ext_al _ _
  have x3 : Ext A2 A3 := by rw [← hA3]; exact ext_al _ _
  have bC : CiB A3 H 0 0 none 0 0 := by
    have : CiB A1 H 0 0 none 0 0 := by rw [← hA1, ← hH]; exact ⟨heap_alloc_new w _⟩
    exact (this.ext x2).ext x3
  have bF : FtB A3 (H + 1) 0 0 := by
    have : FtB A2 (H + 1) 0 0 := by rw [← hA2, ← s1]; exact ⟨heap_alloc_new A1 _⟩
    exact this.ext x3
  have hr : Rd A3 (H + 2) T 0 0 := ⟨by rw [← hA3, ← s2]; exact heap_alloc_new A2 _⟩
  have HW := Lib.hid (x1.trans x2)
  have HK := Lib.hid (circuit_good x3 (Nat.le_of_eq s2) (hS.ext (x1.trans x2)) hr hT hn)
  have HX3 := Lib.hid x3
  have hA : ((w.alloc (.cells #[.int .i64 0, .int .i64 0, .slice none 0 0] 24)).alloc (.cells #[.int .i64 0, .int .i64 0] 26)).alloc (.cells #[.string ⟨T.toArray⟩, .int .i64 0, .int .i64 0] 50) = A3 := by rw [hA1, hA2, hA3]
  have hlen : ¬ ((T.length : Nat) : Int) > 1000000 := by omega
  have hld : decide (1000000 < ((T.length : Nat) : Int)) = false := df (by omega)
  rw [s3] at HK
  obtain ⟨qb, bi, ops⟩ := c
  have HS := Lib.hid hS; have Hz := Lib.hid hz; have Hs2 := Lib.hid s2
  subst hH
  have HA := Lib.hid hA; have HC := Lib.hid bC; have HF := Lib.hid bF
  clear hS hz hc hn hT x1 x2 x3 hA1 hA2 hA3 hA s1 s2 bC bF hr
  simp only at HK ⊢
  go_enter_defers Tryd.func8, Tryd.ntmps8
  go_wp2_with fail
  rw [HA.out]
  refine HK.out.mono ?_
  rintro e w1 ⟨⟨a1, c1, rfl, h1, h2, hat1, ho1⟩, hm1⟩
  have E1 : Ext w w1 := HW.out.trans (hm1.ext HX3.out (Nat.le_of_eq Hs2.out))
  have bC1 := HC.out.mvd hm1 (show w.heap.size ≠ w.heap.size + 2 by omega)
  have bF1 : FtB w1 (w.heap.size + 1) 0 0 := ⟨(hm1.block (w.heap.size + 1) HF.out.lt (by omega)).trans HF.out.row⟩
  have HCh := Lib.hid (checked_yes ⟨qb, bi, ops⟩ a1 ops.length c1 w1 hat1 h1 h2 (HS.out.ext E1) Hz.out)
  have HE1 := Lib.hid E1; have HO1 := Lib.hid ho1; have Hc1 := Lib.hid h1; have Hc2 := Lib.hid h2; have HC1 := Lib.hid bC1; have HF1 := Lib.hid bF1
  clear E1 ho1 hat1 h1 h2 bC1 bF1 hm1 HK HC HF HA HX3 HW
  simp only at HCh
  go_wp2_with fail
  refine HCh.out.mono ?_
  rintro e w2 ⟨rfl, hx2⟩
  have bC2 := HC1.out.ext hx2; have bF2 := HF1.out.ext hx2
  have ho2 := HO1.out.ext hx2
  have E2 := HE1.out.trans hx2
  clear HC1 HF1 HO1 HE1 HCh hx2
  have y0 := bC2.x0; have y1 := bC2.x1; have y2 := bC2.x2; have f0 := bC2.f 0; have f1 := bC2.f 1; have f2 := bC2.f 2
  have z0 := bF2.x0; have z1 := bF2.x1; have k0 := bF2.f 0; have k1 := bF2.f 1
  have hO3 : Only w.heap.size w2 (((w2.setCell ⟨w.heap.size, 0, none⟩ (.int .i64 qb)).setCell ⟨w.heap.size, 1, none⟩ (.int .i64 bi)).setCell ⟨w.heap.size, 2, none⟩ (.slice a1 ops.length c1)) := (((Only.refl _ _).setCell _ _).setCell _ _).setCell _ _
  have ho3 := ho2.only bC2.row (by decide) hO3 (by simp) (by omega)
  have bC3 : CiB (((w2.setCell ⟨w.heap.size, 0, none⟩ (.int .i64 qb)).setCell ⟨w.heap.size, 1, none⟩ (.int .i64 bi)).setCell ⟨w.heap.size, 2, none⟩ (.slice a1 ops.length c1)) w.heap.size qb bi a1 ops.length c1 := ((bC2.set0 qb).set1 bi).set2 a1 ops.length c1
  have bF3 : FtB (((w2.setCell ⟨w.heap.size, 0, none⟩ (.int .i64 qb)).setCell ⟨w.heap.size, 1, none⟩ (.int .i64 bi)).setCell ⟨w.heap.size, 2, none⟩ (.slice a1 ops.length c1)) (w.heap.size + 1) 0 0 := ⟨row_far (row_far (row_far bF2.row (by omega)) (by omega)) (by omega)⟩
  have E3 := cput (o := 2) (cput (o := 1) (cput (o := 0) E2 (Nat.le_refl _) (.int .i64 qb)) (Nat.le_refl _) (.int .i64 bi)) (Nat.le_refl _) (.slice a1 ops.length c1)
  have hO4 : Only (w.heap.size + 1) (((w2.setCell ⟨w.heap.size, 0, none⟩ (.int .i64 qb)).setCell ⟨w.heap.size, 1, none⟩ (.int .i64 bi)).setCell ⟨w.heap.size, 2, none⟩ (.slice a1 ops.length c1)) (((((w2.setCell ⟨w.heap.size, 0, none⟩ (.int .i64 qb)).setCell ⟨w.heap.size, 1, none⟩ (.int .i64 bi)).setCell ⟨w.heap.size, 2, none⟩ (.slice a1 ops.length c1)).setCell ⟨w.heap.size + 1, 0, none⟩ (.int .i64 0)).setCell ⟨w.heap.size + 1, 1, none⟩ (.int .i64 0)) := ((Only.refl _ _).setCell _ _).setCell _ _
  have ho4 := ho3.only bF3.row (by decide) hO4 (by simp) (by omega)
  have bC4 : CiB (((((w2.setCell ⟨w.heap.size, 0, none⟩ (.int .i64 qb)).setCell ⟨w.heap.size, 1, none⟩ (.int .i64 bi)).setCell ⟨w.heap.size, 2, none⟩ (.slice a1 ops.length c1)).setCell ⟨w.heap.size + 1, 0, none⟩ (.int .i64 0)).setCell ⟨w.heap.size + 1, 1, none⟩ (.int .i64 0)) w.heap.size qb bi a1 ops.length c1 := ⟨row_far (row_far bC3.row (by omega)) (by omega)⟩
  have bF4 : FtB (((((w2.setCell ⟨w.heap.size, 0, none⟩ (.int .i64 qb)).setCell ⟨w.heap.size, 1, none⟩ (.int .i64 bi)).setCell ⟨w.heap.size, 2, none⟩ (.slice a1 ops.length c1)).setCell ⟨w.heap.size + 1, 0, none⟩ (.int .i64 0)).setCell ⟨w.heap.size + 1, 1, none⟩ (.int .i64 0)) (w.heap.size + 1) 0 0 := ⟨row_put (row_put bF3.row rfl) rfl⟩
  have E4 := cput (o := 1) (cput (o := 0) E3 (Nat.le_succ _) (.int .i64 0)) (Nat.le_succ _) (.int .i64 0)
  have HC4 := Lib.hid bC4; have HF4 := Lib.hid bF4; have HO4 := Lib.hid ho4; have HE4 := Lib.hid E4
  clear bC3 bF3 ho3 E3 hO3 ho2 bC2 bF2 E2 bC4 bF4 ho4 E4 hO4
  go_wp2_with fail
  generalize ((((w2.setCell ⟨w.heap.size, 0, none⟩ (.int .i64 qb)).setCell ⟨w.heap.size, 1, none⟩ (.int .i64 bi)).setCell ⟨w.heap.size, 2, none⟩ (.slice a1 ops.length c1)).setCell ⟨w.heap.size + 1, 0, none⟩ (.int .i64 0)).setCell ⟨w.heap.size + 1, 1, none⟩ (.int .i64 0) = Wz at *
  have v0 := HC4.out.x0; have v1 := HC4.out.x1; have v2 := HC4.out.x2; have v3 := HF4.out.x0; have v4 := HF4.out.x1
  refine leaves_cons (f := 28) (args := #[.pointer (some ⟨w.heap.size + 1, 0, none⟩)]) (by simp) (by simp [go_sem]) ?_
  refine (parse1_idle ⟨w.heap.size + 1, 0, none⟩ _).mono ?_
  rintro e u' w'' ⟨rfl, rfl, rfl⟩
  obtain ⟨a9, c9, ev9, j1, j2, hat9⟩ := HO4.out.at
  injection ev9 with e1 _ e3
  subst e1; subst e3
  have HR := Lib.hid (And.intro (And.intro j1 (And.intro j2 HO4.out)) HE4.out)
  clear j1 j2 hat9 y0 y1 y2 z0 z1 f0 f1 f2 k0 k1
  simp [Leaves, settle, results, Tryd.results8, go_sem, v0, v1, v2, v3, v4]
  exact ⟨⟨a1, c1, ⟨rfl, rfl⟩, HR.out.1⟩, HR.out.2⟩


/-- Parse of any text. -/
theorem cParse_any (T : List UInt8) (w : World) (hS : Shp w) :
    Calls Tryd.prog 8 #[.string ⟨T.toArray⟩] w fun e w' => (∃ (a' : Option Addr) (c' : Nat), e = .returned (.tuple #[.agg #[.int .i64 (prsC T).qubits, .int .i64 (prsC T).bits, .slice a' (prsC T).ops.length c'], .agg #[.int .i64 (prsF T).1, .int .i64 (prsF T).2]]) ∧ (prsC T).ops.length ≤ c' ∧ c' ≤ maxLen ∧ OpsAt w' a' (prsC T).ops.length (prsC T).ops) ∧ Ext w w' := by
  unfold prsC prsF
  by_cases hT : 1000000 < T.length
  · rw [if_pos hT, if_pos hT]
    refine (parse_long T w hT).mono ?_
    rintro e w' ⟨rfl, hx⟩
    exact ⟨⟨none, 0, rfl, Nat.le_refl _, Nat.zero_le _, ⟨rfl, Or.inl rfl⟩⟩, hx⟩
  · rw [if_neg hT, if_neg hT]
    rcases hr : rdAll T with c | n
    · simp only
      by_cases hc : (chk c).1 = 0
      · obtain ⟨hz, _⟩ := chk_zero hc
        rw [if_pos hc, hz]
        refine (parse_fine T c w hS hc (by omega) hr).mono ?_
        rintro e w' ⟨⟨a', c', rfl, h1, h2, h3⟩, hx⟩
        obtain ⟨a9, c9, ev9, j1, j2, hat9⟩ := h3.at
        injection ev9 with e1 _ e3
        subst e1; subst e3
        exact ⟨⟨a', c', rfl, h1, h2, hat9⟩, hx⟩
      · rw [if_neg hc]
        refine (parse_chk T w hS (by omega) c hr hc).mono ?_
        rintro e w' ⟨rfl, hx⟩
        exact ⟨⟨none, 0, rfl, Nat.le_refl _, Nat.zero_le _, ⟨rfl, Or.inl rfl⟩⟩, hx⟩
    · simp only
      refine (parse_bad T w hS (by omega) n hr).mono ?_
      rintro e w' ⟨rfl, hx⟩
      exact ⟨⟨none, 0, rfl, Nat.le_refl _, Nat.zero_le _, ⟨rfl, Or.inl rfl⟩⟩, hx⟩

end Go.Proofs.YtfjbhiihfibbaaaDoor
