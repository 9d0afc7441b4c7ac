/-
  The first fault of an operation, as the reference finds it.
-/
import Derived.Test.YtfjbhiihfibbaaaDoorMCa
import Derived.BigQuiet

namespace Go.Proofs.YtfjbhiihfibbaaaDoor
open Go.RowKit

/-- A test, in the walk's two forms. -/
theorem dt {p : Prop} [Decidable p] (h : p) : decide p = true := by simp [h]
theorem df {p : Prop} [Decidable p] (h : ¬ p) : decide p = false := by simp [h]
theorem bt' {x y : Int} (h : x = y) : (x == y) = true := by simp [h]
theorem bf {x y : Int} (h : ¬ x = y) : (x == y) = false := by simp [h]
theorem nt {x y : Int} (h : ¬ x = y) : (x != y) = true := by simp [bne, h]
theorem nf' {x y : Int} (h : x = y) : (x != y) = false := by simp [bne, h]

theorem ext_drewN (w : World) (m : Nat) : Ext w (w.drewN m) := ⟨rfl, rfl, rfl, Nat.le_refl _, fun _ _ => rfl⟩

theorem fitsK_iff (k : Int) (u : Bool) : fitsB k 16 u = false ↔ (k < 0 ∨ 15 < k ∨ (0 < k ∧ u = false)) := by
  cases u <;> simp [fitsB, below] <;> omega
theorem fitsQ_iff (q n kd : Int) (hn : 1 ≤ n) : fitsB q n (usesQ kd) = false ↔ (q < 0 ∨ n ≤ q ∨ (kd = 1 ∧ 0 < q)) := by
  by_cases h : kd = 1
  · have : usesQ kd = false := by simp [usesQ, h]
    rw [this]; simp [fitsB, h]; omega
  · have : usesQ kd = true := by simp [usesQ, h]
    rw [this]; simp [fitsB, below, h]; omega
theorem usesC_iff (kd : Int) : usesC kd = false ↔ (¬ kd = 2 ∧ ¬ kd = 3 ∧ ¬ kd = 4) := by
  simp [usesC]; omega

set_option maxHeartbeats 8000000 in
set_option maxRecDepth 100000 in
theorem badOp_any (o : Gop) (a1 : Option Addr) (n1 c1 : Nat) (a2 : Option Addr) (n2 c2 : Nat) (n bits : Int) (w : World) (h : OpL w o a1 n1 c1 a2 n2 c2) (hn1 : 1 ≤ n) (hb0 : 0 ≤ bits) (hb1 : bits ≤ 12) :
    Calls Tryd.prog 65 #[.agg #[.int .i64 o.kind, .int .i64 o.k, .slice a1 n1 c1, .int .i64 o.q, .int .i64 o.bit, .slice a2 n2 c2], .int .i64 n, .int .i64 bits] w fun e w' => e = .returned (.int .i64 (opCode o n bits)) ∧ Ext w w' := by
  obtain ⟨r, hr⟩ : ∃ r, opCode o n bits = r := ⟨_, rfl⟩
  rw [hr]
  unfold opCode at hr
  obtain ⟨kd, k, ctl, q, bt, cnd⟩ := o
  have E0 := ext_al w (.cells #[.int .i64 kd, .int .i64 k, .slice a1 n1 c1, .int .i64 q, .int .i64 bt, .slice a2 n2 c2] 58)
  have bx := opbx_new w kd k a1 n1 c1 q bt a2 n2 c2
  have L0 := h.ext E0
  have m0 := bx.x0; have m1 := bx.x1; have m2 := bx.x2; have m3 := bx.x3; have m4 := bx.x4; have m5 := bx.x5
  have Hl := Lib.hid h.i1.1
  have Hl2 := Lib.hid h.i2.1
  simp only at hr L0 Hl Hl2 ⊢
  have HE0 := Lib.hid E0; have HL0 := Lib.hid L0
  have Hbx := Lib.hid bx
  clear h E0 L0 bx
  by_cases hk1 : kd < 1
  · have hz : r = 8 := by rw [← hr, if_pos (Or.inl hk1)]
    have HF := Lib.hid hz
    clear hr hz
    go_enter Tryd.func65, Tryd.ntmps65
    go_wp2_with fail
    go_ret
    exact ⟨congrArg (fun b => Ending.returned (Value.int .i64 b)) HF.out.symm, HE0.out⟩
  by_cases hk6 : 6 < kd
  · have hz : r = 8 := by rw [← hr, if_pos (Or.inr hk6)]
    have HF := Lib.hid hz
    have d1 := df hk1
    clear hr hz hk1
    go_enter Tryd.func65, Tryd.ntmps65
    go_wp2_with fail
    go_ret
    exact ⟨congrArg (fun b => Ending.returned (Value.int .i64 b)) HF.out.symm, HE0.out⟩
  rw [if_neg (by omega)] at hr
  have d1 := df hk1; have d2 := df hk6
  have Hr := Lib.hid hr
  clear hr
  go_enter Tryd.func65, Tryd.ntmps65
  go_upto_region 3 with fail
  generalize w.alloc (.cells #[.int .i64 kd, .int .i64 k, .slice a1 n1 c1, .int .i64 q, .int .i64 bt, .slice a2 n2 c2] 58) = W0 at *
  go_cut [7] from 18 to 25 (fun s7 wx => wx = W0 ∧ s7 = .bool (usesK kd))
  case first =>
    by_cases h1 : kd = 1
    · have e1 := bt' h1
      have hu : usesK kd = true := by simp [usesK, h1]
      have Hu := Lib.hid hu
      clear hu h1
      go_wp2_with fail
      go_meet
      exact ⟨rfl, by rw [Hu.out]⟩
    · have e1 := bf h1
      have hu : usesK kd = (kd == 4) := by simp [usesK, h1]
      have Hu := Lib.hid hu
      clear hu h1
      go_wp2_with fail
      go_meet
      exact ⟨rfl, by rw [Hu.out]⟩
  case rest =>
  obtain ⟨rfl, rfl⟩ := hcut
  obtain ⟨uK, huK⟩ : ∃ x, usesK kd = x := ⟨_, rfl⟩
  rw [huK]
  have hr0 := Hr.out
  rw [huK] at hr0
  have Hr0 := Lib.hid hr0
  clear hr0 Hr huK
  obtain ⟨f1, hf1⟩ : ∃ x, fitsB k 16 uK = x := ⟨_, rfl⟩
  have hr1 := Hr0.out
  rw [hf1] at hr1
  have Hr1 := Lib.hid hr1
  have fi := fitsK_iff k uK
  rw [hf1] at fi
  clear hr1 Hr0 hf1
  go_upto_region 4 with fail
  go_cut [42] from 26 to 42 (fun s42 wx => wx = wc ∧ s42 = .bool (!f1))
  case first =>
    have Fi := Lib.hid fi
    clear fi
    by_cases x1 : k < 0
    · have y1 := dt x1
      have hz : f1 = false := Fi.out.2 (Or.inl x1)
      have HF := Lib.hid hz
      clear hz
      go_wp2_with fail
      go_meet
      exact ⟨rfl, by rw [HF.out]; rfl⟩
    have y1 := df x1
    by_cases x2 : 15 < k
    · have y2 := dt x2
      have hz : f1 = false := Fi.out.2 (Or.inr (Or.inl x2))
      have HF := Lib.hid hz
      clear hz
      go_wp2_with fail
      go_meet
      exact ⟨rfl, by rw [HF.out]; rfl⟩
    have y2 := df x2
    by_cases x3 : 0 < k
    · have y3 := dt x3
      have hz : (!f1) = !uK := by
        cases uK
        · rw [Fi.out.2 (Or.inr (Or.inr ⟨x3, rfl⟩))]
        · cases f1
          · exact absurd (Fi.out.1 rfl) (by rintro (h | h | ⟨_, h⟩) <;> first | omega | cases h)
          · rfl
      have HF := Lib.hid hz
      clear hz
      go_wp2_with fail
      go_meet
      exact ⟨rfl, by rw [HF.out]⟩
    · have y3 := df x3
      have hz : f1 = true := by
        cases f1
        · exact absurd (Fi.out.1 rfl) (by rintro (h | h | ⟨h, _⟩) <;> omega)
        · rfl
      have HF := Lib.hid hz
      clear hz
      go_wp2_with fail
      go_meet
      exact ⟨rfl, by rw [HF.out]; rfl⟩
  case rest =>
  obtain ⟨rfl, rfl⟩ := hcut
  clear fi
  cases f1
  · have HF : Hid (r = 9) := by show r = 9; rw [← Hr1.out]; simp
    clear Hr1
    go_wp2_with fail
    go_ret
    exact ⟨congrArg (fun b => Ending.returned (Value.int .i64 b)) HF.out.symm, HE0.out⟩
  have hr2 := Hr1.out
  rw [if_neg (by decide)] at hr2
  obtain ⟨f2, hf2⟩ : ∃ x, fitsB q n (usesQ kd) = x := ⟨_, rfl⟩
  have fi := fitsQ_iff q n kd hn1
  rw [hf2] at fi hr2
  have Hr2 := Lib.hid hr2
  clear hr2 Hr1 hf2
  go_upto_region 6 with fail
  go_cut [61] from 43 to 61 (fun s61 wx => wx = wc ∧ s61 = .bool (!f2))
  case first =>
    have Fi := Lib.hid fi
    clear fi
    by_cases x1 : q < 0
    · have y1 := dt x1
      have hz : f2 = false := Fi.out.2 (Or.inl x1)
      have HF := Lib.hid hz
      clear hz
      go_wp2_with fail
      go_meet
      exact ⟨rfl, by rw [HF.out]; rfl⟩
    have y1 := df x1
    by_cases x2 : n ≤ q
    · have y2 := dt x2
      have hz : f2 = false := Fi.out.2 (Or.inr (Or.inl x2))
      have HF := Lib.hid hz
      clear hz
      go_wp2_with fail
      go_meet
      exact ⟨rfl, by rw [HF.out]; rfl⟩
    have y2 := df x2
    by_cases x3 : kd = 1
    · have y3 := bt' x3
      have hz : (!f2) = decide (0 < q) := by
        by_cases x4 : 0 < q
        · rw [Fi.out.2 (Or.inr (Or.inr ⟨x3, x4⟩)), dt x4]; rfl
        · rw [df x4]
          cases f2
          · exact absurd (Fi.out.1 rfl) (by rintro (h | h | ⟨_, h⟩) <;> omega)
          · rfl
      have HF := Lib.hid hz
      clear hz x3
      go_wp2_with fail
      go_meet
      exact ⟨rfl, by rw [HF.out]⟩
    · have y3 := bf x3
      have hz : f2 = true := by
        cases f2
        · exact absurd (Fi.out.1 rfl) (by rintro (h | h | ⟨h, _⟩) <;> first | omega | exact x3 h)
        · rfl
      have HF := Lib.hid hz
      clear hz x3
      go_wp2_with fail
      go_meet
      exact ⟨rfl, by rw [HF.out]; rfl⟩
  case rest =>
  obtain ⟨rfl, rfl⟩ := hcut
  clear fi
  cases f2
  · have HF : Hid (r = 10) := by show r = 10; rw [← Hr2.out]; simp
    clear Hr2
    go_wp2_with fail
    go_ret
    exact ⟨congrArg (fun b => Ending.returned (Value.int .i64 b)) HF.out.symm, HE0.out⟩
  have hr3 := Hr2.out
  rw [if_neg (by decide), Hl.out] at hr3
  have Hr3 := Lib.hid hr3
  clear hr3 Hr2
  obtain ⟨f3, hf3⟩ : ∃ x, decide (0 < n1 ∧ usesC kd = false) = x := ⟨_, rfl⟩
  go_upto_region 8 with fail
  go_cut [80] from 62 to 80 (fun s80 wx => wx = wc ∧ s80 = .bool f3)
  case first =>
    have Hf3 := Lib.hid hf3
    have Hc := Lib.hid (usesC_iff kd)
    clear hf3
    by_cases x1 : 0 < n1
    · have x1' : (0 : Int) < (n1 : Int) := by omega
      have y1 := dt x1'
      by_cases x2 : kd = 2
      · have y2 := nf' x2
        have hz : f3 = false := by rw [← Hf3.out]; exact df (fun h => (Hc.out.1 h.2).1 x2)
        have HF := Lib.hid hz
        clear hz x2
        go_wp2_with fail
        go_meet
        exact ⟨rfl, by rw [HF.out]⟩
      have y2 := nt x2
      by_cases x3 : kd = 3
      · have y3 := nf' x3
        have hz : f3 = false := by rw [← Hf3.out]; exact df (fun h => (Hc.out.1 h.2).2.1 x3)
        have HF := Lib.hid hz
        clear hz x3
        go_wp2_with fail
        go_meet
        exact ⟨rfl, by rw [HF.out]⟩
      have y3 := nt x3
      have hz : f3 = (kd != 4) := by
        rw [← Hf3.out]
        by_cases x4 : kd = 4
        · rw [nf' x4]; exact df (fun h => (Hc.out.1 h.2).2.2 x4)
        · rw [nt x4]; exact dt ⟨x1, Hc.out.2 ⟨x2, x3, x4⟩⟩
      have HF := Lib.hid hz
      clear hz
      go_wp2_with fail
      go_meet
      exact ⟨rfl, by rw [HF.out]⟩
    · have x1' : ¬ (0 : Int) < (n1 : Int) := by omega
      have y1 := df x1'
      have hz : f3 = false := by rw [← Hf3.out]; exact df (fun h => x1 h.1)
      have HF := Lib.hid hz
      clear hz
      go_wp2_with fail
      go_meet
      exact ⟨rfl, by rw [HF.out]⟩
  case rest =>
  obtain ⟨rfl, rfl⟩ := hcut
  cases f3
  case true =>
    have HF : Hid (r = 11) := by show r = 11; rw [← Hr3.out, if_pos (of_decide_eq_true hf3)]
    clear Hr3 hf3
    go_wp2_with fail
    go_ret
    exact ⟨congrArg (fun b => Ending.returned (Value.int .i64 b)) HF.out.symm, HE0.out⟩
  have hr4 := Hr3.out
  rw [if_neg (of_decide_eq_false hf3)] at hr4
  have Hr4 := Lib.hid hr4
  clear hr4 Hr3 hf3
  obtain ⟨cc, hcc⟩ : ∃ x, ctlCode q n [] ctl = x := ⟨_, rfl⟩
  have hr5 := Hr4.out
  rw [hcc] at hr5
  have Hr5 := Lib.hid hr5; have Hcc := Lib.hid hcc
  clear Hr4 hr5 hcc
  have hab : n1 = 0 ∨ ∃ b o, a1 = some ⟨b, o, none⟩ := by
    rcases HL0.out.i1.2 with h0 | ⟨b, o, e, _, hc⟩
    · exact Or.inl h0
    · exact Or.inr ⟨b, o, e⟩
  have hnc := HL0.out.h1; have hcm := HL0.out.m1
  go_wp2_with fail
  go_loopg [8] n1 (fun kk s8 wr => Ext wc wr ∧ ∃ i : Nat, s8 = .int .i64 (i : Int) ∧ i ≤ n1 ∧ n1 - i = kk ∧ cc = ctlCode q n (ctl.take i) (ctl.drop i))
  case atStart => exact ⟨Ext.refl _, 0, rfl, by omega, by omega, Hcc.out.symm⟩
  case round =>
    obtain ⟨hER, i, rfl, hi, hk, hri⟩ := hrel
    have HER := Lib.hid hER
    have v0 := cell_ext m0 hER; have v1 := cell_ext m1 hER; have v2 := cell_ext m2 hER; have v3 := cell_ext m3 hER; have v4 := cell_ext m4 hER; have v5 := cell_ext m5 hER
    clear m0 m1 m2 m3 m4 m5 hER
    by_cases hin : i = n1
    · have h2 : ¬ (i : Int) < (n1 : Int) := by omega
      have hz : cc = 0 := by rw [hri]; exact ctlCode_end q n ctl i (by rw [Hl.out]; omega)
      have hr6 := Hr5.out
      rw [if_neg (by simp [hz])] at hr6
      have Hr6 := Lib.hid hr6
      clear hri hz hr6 Hr5
      by_cases k5 : kd = 5
      · have e5 := bt' k5
        have hu : fitsB bt bits (usesB kd) = below bt bits := by simp [fitsB, usesB, k5]
        have hr7 := Hr6.out
        rw [hu] at hr7
        have Hr6' := Lib.hid hr7
        clear hr7 hu k5 Hr6
        by_cases b1 : bt < 0
        · have c1' := dt b1
          have HF : Hid (r = 13) := by show r = 13; rw [← Hr6'.out, if_pos (by simp [below]; omega)]
          clear Hr6'
          go_wp2_with fail
          go_ret
          exact ⟨congrArg (fun b => Ending.returned (Value.int .i64 b)) HF.out.symm, HE0.out.trans HER.out⟩
        have c1' := df b1
        by_cases b2 : bits ≤ bt
        · have c2' := dt b2
          have HF : Hid (r = 13) := by show r = 13; rw [← Hr6'.out, if_pos (by simp [below]; omega)]
          clear Hr6'
          go_wp2_with fail
          go_ret
          exact ⟨congrArg (fun b => Ending.returned (Value.int .i64 b)) HF.out.symm, HE0.out.trans HER.out⟩
        have c2' := df b2
        have hr7 := Hr6'.out
        rw [if_neg (by simp [below]; omega)] at hr7
        have Hr7 := Lib.hid hr7
        clear hr7 Hr6'
        by_cases hn24 : 24 < n2
        · have j24 : (24 : Int) < (n2 : Int) := by omega
          have hc : cndOk bits cnd = false := by unfold cndOk; rw [Hl2.out]; simp; omega
          have HF : Hid (r = 14) := by show r = 14; rw [← Hr7.out, if_pos hc]
          clear hc Hr7
          go_wp2_with fail
          go_ret
          exact ⟨congrArg (fun b => Ending.returned (Value.int .i64 b)) HF.out.symm, HE0.out.trans HER.out⟩
        have j24 : ¬ (24 : Int) < (n2 : Int) := by omega
        have hall : cndOk bits cnd = cnd.all (termOk bits) := by
          unfold cndOk
          have : decide (cnd.length ≤ 24) = true := by rw [Hl2.out]; simp; omega
          rw [this, Bool.true_and]
        obtain ⟨ok, hok⟩ : ∃ x, cndOk bits cnd = x := ⟨_, rfl⟩
        have hr8 := Hr7.out
        rw [hok] at hr8
        have Hr8 := Lib.hid hr8
        have Hall : Hid (ok = cnd.all (termOk bits)) := by show ok = _; rw [← hok, hall]
        have hab2 : n2 = 0 ∨ ∃ b o, a2 = some ⟨b, o, none⟩ ∧ ∀ t, t < n2 → wr.cell? ⟨b, o + t, none⟩ = some (.int .i64 (cnd.getD t 0)) := by
          rcases (HL0.out.i2.ext HER.out).2 with h0 | ⟨b, o, e, _, hc⟩
          · exact Or.inl h0
          · exact Or.inr ⟨b, o, e, hc⟩
        have hwb : IntKind.i64.wrap (-bits) = -bits := by rw [IntKind.wrap_i64]; omega
        clear hall hok hr8 Hr7 hn24
        go_wp2_with fail
        go_loopg [9] n2 (fun kk s9 wq => wq = wr ∧ ∃ i : Nat, s9 = .int .i64 (i : Int) ∧ i ≤ n2 ∧ n2 - i = kk ∧ ok = (cnd.drop i).all (termOk bits))
        case atStart => exact ⟨rfl, 0, rfl, by omega, by omega, Hall.out⟩
        case round =>
          obtain ⟨rfl, i2, rfl, hi2, hkk2, hri⟩ := hrel
          by_cases hin2 : i2 = n2
          · have h2' : ¬ (i2 : Int) < (n2 : Int) := by omega
            have ht : ok = true := by rw [hri, List.drop_eq_nil_of_le (by rw [Hl2.out]; omega)]; rfl
            have HF : Hid (r = 0) := by show r = 0; rw [← Hr8.out, ht]; simp
            clear hri ht Hr8
            go_wp2_with fail
            go_ret
            exact ⟨congrArg (fun b => Ending.returned (Value.int .i64 b)) HF.out.symm, HE0.out.trans HER.out⟩
          · have h2' : (i2 : Int) < (n2 : Int) := by omega
            have h0' : (0 : Int) ≤ (i2 : Int) := by omega
            rcases hab2 with h | ⟨b2, o2, rfl, hcell⟩
            · omega
            have hci := hcell i2 (by omega)
            obtain ⟨y, hy⟩ : ∃ y, cnd.getD i2 0 = y := ⟨_, rfl⟩
            rw [hy] at hci
            have hst := all_step (termOk bits) cnd i2 (by rw [Hl2.out]; omega)
            rw [hy, ← hri] at hst
            have Hst := Lib.hid hst
            have Hcell := Lib.hid hcell
            clear hcell hy hri hst
            by_cases y0 : y = 0
            · have e0 := bt' y0
              have ht : termOk bits y = false := by simp [termOk, y0]
              have hf : ok = false := by rw [Hst.out, ht]; rfl
              have HF : Hid (r = 14) := by show r = 14; rw [← Hr8.out, if_pos hf]
              clear hf ht Hst Hr8 y0
              go_wp2_with fail
              go_ret
              exact ⟨congrArg (fun b => Ending.returned (Value.int .i64 b)) HF.out.symm, HE0.out.trans HER.out⟩
            have e0 := bf y0
            by_cases y2 : bits < y
            · have e2 := dt y2
              have ht : termOk bits y = false := by unfold termOk; simp; omega
              have hf : ok = false := by rw [Hst.out, ht]; rfl
              have HF : Hid (r = 14) := by show r = 14; rw [← Hr8.out, if_pos hf]
              clear hf ht Hst Hr8 y0
              go_wp2_with fail
              go_ret
              exact ⟨congrArg (fun b => Ending.returned (Value.int .i64 b)) HF.out.symm, HE0.out.trans HER.out⟩
            have e2 := df y2
            by_cases y1 : y < -bits
            · have e1 := dt y1
              have ht : termOk bits y = false := by unfold termOk; simp; omega
              have hf : ok = false := by rw [Hst.out, ht]; rfl
              have HF : Hid (r = 14) := by show r = 14; rw [← Hr8.out, if_pos hf]
              clear hf ht Hst Hr8 y0
              go_wp2_with fail
              go_ret
              exact ⟨congrArg (fun b => Ending.returned (Value.int .i64 b)) HF.out.symm, HE0.out.trans HER.out⟩
            have e1 := df y1
            have ht : termOk bits y = true := by unfold termOk; simp; omega
            have hst' : ok = (cnd.drop (i2 + 1)).all (termOk bits) := by rw [Hst.out, ht]; rfl
            have Hst' := Lib.hid hst'
            clear ht hst' Hst y0
            go_wp2_with fail
            go_roundg (n2 - (i2 + 1))
            case measure => omega
            case rel => exact ⟨rfl, i2 + 1, by go_num, by omega, rfl, Hst'.out⟩
      · have e5 := bf k5
        have hu : fitsB bt bits (usesB kd) = (bt == 0) := by simp [fitsB, usesB, k5]
        have hr7 := Hr6.out
        rw [hu] at hr7
        have Hr6' := Lib.hid hr7
        clear hr7 hu k5 Hr6
        by_cases b1 : bt = 0
        · have c1' := nf' b1
          have hr7 := Hr6'.out
          rw [if_neg (by simp [b1])] at hr7
          have Hr7 := Lib.hid hr7
          clear hr7 Hr6' b1
          by_cases hn24 : 24 < n2
          · have j24 : (24 : Int) < (n2 : Int) := by omega
            have hc : cndOk bits cnd = false := by unfold cndOk; rw [Hl2.out]; simp; omega
            have HF : Hid (r = 14) := by show r = 14; rw [← Hr7.out, if_pos hc]
            clear hc Hr7
            go_wp2_with fail
            go_ret
            exact ⟨congrArg (fun b => Ending.returned (Value.int .i64 b)) HF.out.symm, HE0.out.trans HER.out⟩
          have j24 : ¬ (24 : Int) < (n2 : Int) := by omega
          have hall : cndOk bits cnd = cnd.all (termOk bits) := by
            unfold cndOk
            have : decide (cnd.length ≤ 24) = true := by rw [Hl2.out]; simp; omega
            rw [this, Bool.true_and]
          obtain ⟨ok, hok⟩ : ∃ x, cndOk bits cnd = x := ⟨_, rfl⟩
          have hr8 := Hr7.out
          rw [hok] at hr8
          have Hr8 := Lib.hid hr8
          have Hall : Hid (ok = cnd.all (termOk bits)) := by show ok = _; rw [← hok, hall]
          have hab2 : n2 = 0 ∨ ∃ b o, a2 = some ⟨b, o, none⟩ ∧ ∀ t, t < n2 → wr.cell? ⟨b, o + t, none⟩ = some (.int .i64 (cnd.getD t 0)) := by
            rcases (HL0.out.i2.ext HER.out).2 with h0 | ⟨b, o, e, _, hc⟩
            · exact Or.inl h0
            · exact Or.inr ⟨b, o, e, hc⟩
          have hwb : IntKind.i64.wrap (-bits) = -bits := by rw [IntKind.wrap_i64]; omega
          clear hall hok hr8 Hr7 hn24
          go_wp2_with fail
          go_loopg [9] n2 (fun kk s9 wq => wq = wr ∧ ∃ i : Nat, s9 = .int .i64 (i : Int) ∧ i ≤ n2 ∧ n2 - i = kk ∧ ok = (cnd.drop i).all (termOk bits))
          case atStart => exact ⟨rfl, 0, rfl, by omega, by omega, Hall.out⟩
          case round =>
            obtain ⟨rfl, i2, rfl, hi2, hkk2, hri⟩ := hrel
            by_cases hin2 : i2 = n2
            · have h2' : ¬ (i2 : Int) < (n2 : Int) := by omega
              have ht : ok = true := by rw [hri, List.drop_eq_nil_of_le (by rw [Hl2.out]; omega)]; rfl
              have HF : Hid (r = 0) := by show r = 0; rw [← Hr8.out, ht]; simp
              clear hri ht Hr8
              go_wp2_with fail
              go_ret
              exact ⟨congrArg (fun b => Ending.returned (Value.int .i64 b)) HF.out.symm, HE0.out.trans HER.out⟩
            · have h2' : (i2 : Int) < (n2 : Int) := by omega
              have h0' : (0 : Int) ≤ (i2 : Int) := by omega
              rcases hab2 with h | ⟨b2, o2, rfl, hcell⟩
              · omega
              have hci := hcell i2 (by omega)
              obtain ⟨y, hy⟩ : ∃ y, cnd.getD i2 0 = y := ⟨_, rfl⟩
              rw [hy] at hci
              have hst := all_step (termOk bits) cnd i2 (by rw [Hl2.out]; omega)
              rw [hy, ← hri] at hst
              have Hst := Lib.hid hst
              have Hcell := Lib.hid hcell
              clear hcell hy hri hst
              by_cases y0 : y = 0
              · have e0 := bt' y0
                have ht : termOk bits y = false := by simp [termOk, y0]
                have hf : ok = false := by rw [Hst.out, ht]; rfl
                have HF : Hid (r = 14) := by show r = 14; rw [← Hr8.out, if_pos hf]
                clear hf ht Hst Hr8 y0
                go_wp2_with fail
                go_ret
                exact ⟨congrArg (fun b => Ending.returned (Value.int .i64 b)) HF.out.symm, HE0.out.trans HER.out⟩
              have e0 := bf y0
              by_cases y2 : bits < y
              · have e2 := dt y2
                have ht : termOk bits y = false := by unfold termOk; simp; omega
                have hf : ok = false := by rw [Hst.out, ht]; rfl
                have HF : Hid (r = 14) := by show r = 14; rw [← Hr8.out, if_pos hf]
                clear hf ht Hst Hr8 y0
                go_wp2_with fail
                go_ret
                exact ⟨congrArg (fun b => Ending.returned (Value.int .i64 b)) HF.out.symm, HE0.out.trans HER.out⟩
              have e2 := df y2
              by_cases y1 : y < -bits
              · have e1 := dt y1
                have ht : termOk bits y = false := by unfold termOk; simp; omega
                have hf : ok = false := by rw [Hst.out, ht]; rfl
                have HF : Hid (r = 14) := by show r = 14; rw [← Hr8.out, if_pos hf]
                clear hf ht Hst Hr8 y0
                go_wp2_with fail
                go_ret
                exact ⟨congrArg (fun b => Ending.returned (Value.int .i64 b)) HF.out.symm, HE0.out.trans HER.out⟩
              have e1 := df y1
              have ht : termOk bits y = true := by unfold termOk; simp; omega
              have hst' : ok = (cnd.drop (i2 + 1)).all (termOk bits) := by rw [Hst.out, ht]; rfl
              have Hst' := Lib.hid hst'
              clear ht hst' Hst y0
              go_wp2_with fail
              go_roundg (n2 - (i2 + 1))
              case measure => omega
              case rel => exact ⟨rfl, i2 + 1, by go_num, by omega, rfl, Hst'.out⟩
        · have c1' := nt b1
          have HF : Hid (r = 13) := by show r = 13; rw [← Hr6'.out, if_pos (by simp [b1])]
          clear Hr6' b1
          go_wp2_with fail
          go_ret
          exact ⟨congrArg (fun b => Ending.returned (Value.int .i64 b)) HF.out.symm, HE0.out.trans HER.out⟩
    · have h2 : (i : Int) < (n1 : Int) := by omega
      have h0 : (0 : Int) ≤ (i : Int) := by omega
      have hic : (i : Int) ≤ (c1 : Int) := by omega
      rcases hab with h | ⟨b, o, rfl⟩
      · omega
      have HIr := Lib.hid (HL0.out.i1.ext HER.out)
      obtain ⟨b', o', e, _, hcell⟩ := HIr.out.at (by omega)
      cases e
      have hci := hcell i (by omega)
      obtain ⟨y, hy⟩ : ∃ y, ctl.getD i 0 = y := ⟨_, rfl⟩
      rw [hy] at hci
      have hst := ctlCode_step q n ctl i (by rw [Hl.out]; omega)
      rw [← hri, hy] at hst
      have Hst := Lib.hid hst
      have HC := Lib.hid (fun m => member_any (some ⟨b, o, none⟩) i c1 (ctl.take i) y (wr.drewN m) ((HIr.out.take i (by omega)).ext (ext_drewN wr m)) (by omega) hcm)
      have HrC : Hid (¬ cc = 0 → r = cc) := fun h => by rw [← Hr5.out, if_pos h]
      clear hcell hy hri hst Hr5
      by_cases y1 : y < 0
      · have z1 := dt y1
        have hb : below y n = false := by simp [below]; omega
        have hz : cc = 10 := by rw [Hst.out, if_pos hb]
        have HF : Hid (r = 10) := by show r = 10; rw [HrC.out (by omega), hz]
        clear hz hb Hst
        go_wp2_with fail
        go_ret
        exact ⟨congrArg (fun b => Ending.returned (Value.int .i64 b)) HF.out.symm, HE0.out.trans HER.out⟩
      have z1 := df y1
      by_cases y2 : n ≤ y
      · have z2 := dt y2
        have hb : below y n = false := by simp [below]; omega
        have hz : cc = 10 := by rw [Hst.out, if_pos hb]
        have HF : Hid (r = 10) := by show r = 10; rw [HrC.out (by omega), hz]
        clear hz hb Hst
        go_wp2_with fail
        go_ret
        exact ⟨congrArg (fun b => Ending.returned (Value.int .i64 b)) HF.out.symm, HE0.out.trans HER.out⟩
      have z2 := df y2
      have hb : ¬ below y n = false := by simp [below]; omega
      have hst1 : cc = if y = q ∨ y ∈ ctl.take i then 12 else ctlCode q n (ctl.take (i + 1)) (ctl.drop (i + 1)) := by rw [Hst.out, if_neg hb]
      have Hst1 := Lib.hid hst1
      clear hst1 hb Hst
      by_cases hyq : y = q
      · have hbq := bt' hyq
        have hz : cc = 12 := by rw [Hst1.out, if_pos (Or.inl hyq)]
        have HF : Hid (r = 12) := by show r = 12; rw [HrC.out (by omega), hz]
        clear hz hyq Hst1
        go_wp2_with fail
        go_quiet (fail)
        go_wp2_with fail
        go_ret
        exact ⟨congrArg (fun b => Ending.returned (Value.int .i64 b)) HF.out.symm, HE0.out.trans (HER.out.trans (ext_drewN wr _))⟩
      · have hbq := bf hyq
        have Hyq := Lib.hid hyq
        obtain ⟨bm, hbm⟩ : ∃ x, decide (y ∈ ctl.take i) = x := ⟨_, rfl⟩
        rw [hbm] at HC
        clear hyq
        cases bm
        · have hz : cc = ctlCode q n (ctl.take (i + 1)) (ctl.drop (i + 1)) := by rw [Hst1.out, if_neg (fun h => h.elim Hyq.out (of_decide_eq_false hbm))]
          have HF := Lib.hid hz
          clear hz hbm Hst1
          go_wp2_with fail
          go_quiet ((go_at_call 49; refine Calls.quiet_of_same (HC.out _)))
          go_wp2_with fail
          go_roundg (n1 - (i + 1))
          case measure => omega
          case rel => exact ⟨HER.out.trans (ext_drewN wr _), i + 1, by go_num, by omega, rfl, HF.out⟩
        · have hz : cc = 12 := by rw [Hst1.out, if_pos (Or.inr (of_decide_eq_true hbm))]
          have HF : Hid (r = 12) := by show r = 12; rw [HrC.out (by omega), hz]
          clear hz hbm Hst1
          go_wp2_with fail
          go_quiet ((go_at_call 49; refine Calls.quiet_of_same (HC.out _)))
          go_wp2_with fail
          go_ret
          exact ⟨congrArg (fun b => Ending.returned (Value.int .i64 b)) HF.out.symm, HE0.out.trans (HER.out.trans (ext_drewN wr _))⟩

end Go.Proofs.YtfjbhiihfibbaaaDoor
