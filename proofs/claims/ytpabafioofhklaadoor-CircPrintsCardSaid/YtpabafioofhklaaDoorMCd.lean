/-
  The first fault of an operation, as the program finds it.
-/
import Derived.Test.YtpabafioofhklaaDoorMCc

namespace Go.Proofs.YtpabafioofhklaaDoor
open Go.RowKit

/-- The words of the kinds. -/
def wordOf : Nat → ByteArray
  | 1 => ⟨#[112, 104, 97, 115, 101]⟩
  | 2 => ⟨#[120]⟩
  | 3 => ⟨#[104]⟩
  | 4 => ⟨#[112]⟩
  | 5 => ⟨#[109, 101, 97, 115, 117, 114, 101]⟩
  | 6 => ⟨#[114, 101, 115, 101, 116]⟩
  | _ => ⟨#[]⟩
/-- The program's table of kinds. -/
def Shp (w : World) : Prop := ∀ k : Nat, 1 ≤ k → k ≤ 6 →
  w.cell? ⟨0, k * 5, none⟩ = some (.string (wordOf k)) ∧ w.cell? ⟨0, k * 5 + 1, none⟩ = some (.bool (usesK k)) ∧ w.cell? ⟨0, k * 5 + 2, none⟩ = some (.bool (usesQ k)) ∧ w.cell? ⟨0, k * 5 + 3, none⟩ = some (.bool (usesC k)) ∧ w.cell? ⟨0, k * 5 + 4, none⟩ = some (.bool (usesB k))
theorem Shp.ext {w w' : World} (h : Shp w) (k : Ext w w') : Shp w' := fun n h1 h2 => by
  obtain ⟨e0, e1, e2, e3, e4⟩ := h n h1 h2
  exact ⟨cell_ext e0 k, cell_ext e1 k, cell_ext e2 k, cell_ext e3 k, cell_ext e4 k⟩

set_option maxHeartbeats 4000000 in
theorem checkOp_any (o : Gop) (a1 : Option Addr) (n1 c1 : Nat) (a2 : Option Addr) (n2 c2 : Nat) (n bits : Int) (w : World) (h : OpL w o a1 n1 c1 a2 n2 c2) (hb0 : 0 ≤ bits) (hb1 : bits ≤ 12) (hS : Shp w) :
    Calls Tryd.prog 26 #[.agg #[.int .i64 o.kind, .int .i64 o.k, .slice a1 n1 c1, .int .i64 o.q, .int .i64 o.bit, .slice a2 n2 c2], .int .i64 n, .int .i64 bits] w fun e w' => e = .returned (.int .i64 (opCode o n bits)) ∧ Ext w w' := by
  obtain ⟨r, hr⟩ : ∃ r, opCode o n bits = r := ⟨_, rfl⟩
  rw [hr]
  unfold opCode at hr
  obtain ⟨kd, k, ctl, q, bt, cnd⟩ := o
  have E0 := ext_al w (.cells #[.int .i64 kd, .int .i64 k, .slice a1 n1 c1, .int .i64 q, .int .i64 bt, .slice a2 n2 c2] 45)
  have bx := opbx_new w kd k a1 n1 c1 q bt a2 n2 c2
  have L0 := h.ext E0
  have S0 := hS.ext E0
  have m0 := bx.x0; have m1 := bx.x1; have m2 := bx.x2; have m3 := bx.x3; have m4 := bx.x4; have m5 := bx.x5; have lb := bx.lt
  have Hl := h.i1.1
  simp only at hr L0 Hl ⊢
  have HE0 := Lib.hid E0; have HL0 := Lib.hid L0; have HS0 := Lib.hid S0
  clear h hS E0 L0 S0
  by_cases hk1 : kd < 1
  · have hz : r = 8 := by rw [← hr, if_pos (Or.inl hk1)]
    have HF := Lib.hid hz
    clear hr hz bx
    go_enter Tryd.func26, Tryd.ntmps26
    go_wp2_with fail
    go_ret
    exact ⟨congrArg (fun b => Ending.returned (Value.int .i64 b)) HF.out.symm, HE0.out⟩
  by_cases hk6 : 6 < kd
  · have hz : r = 8 := by rw [← hr, if_pos (Or.inr hk6)]
    have HF := Lib.hid hz
    have d1 : decide (kd < 1) = false := by simp; omega
    clear hr hz hk1 bx
    go_enter Tryd.func26, Tryd.ntmps26
    go_wp2_with fail
    go_ret
    exact ⟨congrArg (fun b => Ending.returned (Value.int .i64 b)) HF.out.symm, HE0.out⟩
  rw [if_neg (by omega)] at hr
  obtain ⟨kn, rfl⟩ : ∃ kn : Nat, kd = (kn : Int) := ⟨kd.toNat, by omega⟩
  have d1 : decide ((kn : Int) < 1) = false := by simp; omega
  have d2 : decide ((6 : Int) < (kn : Int)) = false := by simp; omega
  have i0 : (0 : Int) ≤ (kn : Int) := by omega
  have i1 : (kn : Int) < 7 := by omega
  obtain ⟨t0, t1, t2, t3, t4⟩ := HS0.out kn (by omega) (by omega)
  obtain ⟨uK, huK⟩ : ∃ x, usesK (kn : Int) = x := ⟨_, rfl⟩
  obtain ⟨uQ, huQ⟩ : ∃ x, usesQ (kn : Int) = x := ⟨_, rfl⟩
  obtain ⟨uC, huC⟩ : ∃ x, usesC (kn : Int) = x := ⟨_, rfl⟩
  obtain ⟨uB, huB⟩ : ∃ x, usesB (kn : Int) = x := ⟨_, rfl⟩
  obtain ⟨wd, hwd⟩ : ∃ x, wordOf kn = x := ⟨_, rfl⟩
  rw [huK] at t1 hr; rw [huQ] at t2 hr; rw [huC] at t3 hr; rw [huB] at t4 hr; rw [hwd] at t0
  clear huK huQ huC huB hwd hk1 hk6 bx
  have HF1 := Lib.hid (fun wx => fits_any k 16 uK wx); have HF2 := Lib.hid (fun wx => fits_any q n uQ wx); have HF3 := Lib.hid (fun wx => fits_any bt bits uB wx)
  obtain ⟨f1, hf1⟩ : ∃ x, fitsB k 16 uK = x := ⟨_, rfl⟩
  obtain ⟨f2, hf2⟩ : ∃ x, fitsB q n uQ = x := ⟨_, rfl⟩
  obtain ⟨f3, hf3⟩ : ∃ x, fitsB bt bits uB = x := ⟨_, rfl⟩
  rw [hf1] at HF1 hr; rw [hf2] at HF2 hr; rw [hf3] at HF3 hr
  clear hf1 hf2 hf3
  have E1 := ext_al (w.alloc (.cells #[.int .i64 (kn : Int), .int .i64 k, .slice a1 n1 c1, .int .i64 q, .int .i64 bt, .slice a2 n2 c2] 45)) (.cells #[.string wd, .bool uK, .bool uQ, .bool uC, .bool uB] 78)
  have ub : ((w.alloc (.cells #[.int .i64 (kn : Int), .int .i64 k, .slice a1 n1 c1, .int .i64 q, .int .i64 bt, .slice a2 n2 c2] 45)).alloc (.cells #[.string wd, .bool uK, .bool uQ, .bool uC, .bool uB] 78)).heap[w.heap.size + 1]? = some (.cells #[.string wd, .bool uK, .bool uQ, .bool uC, .bool uB] 78 (0, 0)) := by
    have := heap_alloc_new (w.alloc (.cells #[.int .i64 (kn : Int), .int .i64 k, .slice a1 n1 c1, .int .i64 q, .int .i64 bt, .slice a2 n2 c2] 45)) (.cells #[.string wd, .bool uK, .bool uQ, .bool uC, .bool uB] 78)
    simpa using this
  have u1 : ((w.alloc (.cells #[.int .i64 (kn : Int), .int .i64 k, .slice a1 n1 c1, .int .i64 q, .int .i64 bt, .slice a2 n2 c2] 45)).alloc (.cells #[.string wd, .bool uK, .bool uQ, .bool uC, .bool uB] 78)).cell? ⟨w.heap.size + 1, 1, none⟩ = some (.bool uK) := by rw [cell_of_row _ _ 1 _ _ (0, 0) ub]; rfl
  have u2 : ((w.alloc (.cells #[.int .i64 (kn : Int), .int .i64 k, .slice a1 n1 c1, .int .i64 q, .int .i64 bt, .slice a2 n2 c2] 45)).alloc (.cells #[.string wd, .bool uK, .bool uQ, .bool uC, .bool uB] 78)).cell? ⟨w.heap.size + 1, 2, none⟩ = some (.bool uQ) := by rw [cell_of_row _ _ 2 _ _ (0, 0) ub]; rfl
  have u3 : ((w.alloc (.cells #[.int .i64 (kn : Int), .int .i64 k, .slice a1 n1 c1, .int .i64 q, .int .i64 bt, .slice a2 n2 c2] 45)).alloc (.cells #[.string wd, .bool uK, .bool uQ, .bool uC, .bool uB] 78)).cell? ⟨w.heap.size + 1, 3, none⟩ = some (.bool uC) := by rw [cell_of_row _ _ 3 _ _ (0, 0) ub]; rfl
  have u4 : ((w.alloc (.cells #[.int .i64 (kn : Int), .int .i64 k, .slice a1 n1 c1, .int .i64 q, .int .i64 bt, .slice a2 n2 c2] 45)).alloc (.cells #[.string wd, .bool uK, .bool uQ, .bool uC, .bool uB] 78)).cell? ⟨w.heap.size + 1, 4, none⟩ = some (.bool uB) := by rw [cell_of_row _ _ 4 _ _ (0, 0) ub]; rfl
  have HE1 := Lib.hid (HE0.out.trans E1); have HL1 := Lib.hid (HL0.out.ext E1)
  have v0 := cell_ext m0 E1; have v1 := cell_ext m1 E1; have v2 := cell_ext m2 E1; have v3 := cell_ext m3 E1; have v4 := cell_ext m4 E1; have v5 := cell_ext m5 E1
  have Hr := Lib.hid hr; have Hl' := Lib.hid Hl
  clear ub E1 hr Hl
  go_enter Tryd.func26, Tryd.ntmps26
  go_wp2_with fail
  generalize (w.alloc (.cells #[.int .i64 (kn : Int), .int .i64 k, .slice a1 n1 c1, .int .i64 q, .int .i64 bt, .slice a2 n2 c2] 45)).alloc (.cells #[.string wd, .bool uK, .bool uQ, .bool uC, .bool uB] 78) = W1 at *
  clear m0 m1 m2 m3 m4 m5 t0 t1 t2 t3 t4 HE0 HL0 HS0 d1 d2
  refine (HF1.out _).mono ?_
  rintro e wz ⟨rfl, rfl⟩
  cases f1
  · have HF : Hid (r = 9) := by show r = 9; rw [← Hr.out]; simp
    clear Hr
    go_wp2_with fail
    go_ret
    exact ⟨congrArg (fun b => Ending.returned (Value.int .i64 b)) HF.out.symm, HE1.out⟩
  have hr1 := Hr.out
  rw [if_neg (by decide)] at hr1
  have Hr1 := Lib.hid hr1
  clear Hr hr1
  go_wp2_with fail
  refine (HF2.out _).mono ?_
  rintro e wz ⟨rfl, rfl⟩
  cases f2
  · have HF : Hid (r = 10) := by show r = 10; rw [← Hr1.out]; simp
    clear Hr1
    go_wp2_with fail
    go_ret
    exact ⟨congrArg (fun b => Ending.returned (Value.int .i64 b)) HF.out.symm, HE1.out⟩
  have hr2 := Hr1.out
  rw [if_neg (by decide)] at hr2
  have HCC := Lib.hid (checkControls_any (kn : Int) k a1 n1 c1 q bt a2 n2 c2 ctl n wz HL1.out.i1 HL1.out.h1 HL1.out.m1)
  obtain ⟨cc, hcc⟩ : ∃ x, ctlCode q n [] ctl = x := ⟨_, rfl⟩
  rw [hcc] at HCC hr2
  have Hr2 := Lib.hid hr2
  clear Hr1 hr2 hcc
  by_cases hn0 : 0 < n1 ∧ uC = false
  · have HF : Hid (r = 11) := by show r = 11; rw [← Hr2.out, if_pos ⟨by rw [Hl'.out]; exact hn0.1, hn0.2⟩]
    have j0 : (0 : Int) < (n1 : Int) := by omega
    obtain ⟨_, rfl⟩ := hn0
    clear Hr2
    go_wp2_with fail
    go_ret
    exact ⟨congrArg (fun b => Ending.returned (Value.int .i64 b)) HF.out.symm, HE1.out⟩
  have hr3 := Hr2.out
  rw [if_neg (by rw [Hl'.out]; exact hn0)] at hr3
  have Hr3 := Lib.hid hr3
  have HOK : (decide ((0 : Int) < (n1 : Int)) = false) ∨ ((0 : Int) < (n1 : Int) ∧ uC = true) := by
    by_cases h0 : 0 < n1
    · refine Or.inr ⟨by omega, ?_⟩
      cases uC
      · exact absurd ⟨h0, rfl⟩ hn0
      · rfl
    · exact Or.inl (by simp; omega)
  clear Hr2 hr3 hn0
  rcases HOK with hd0 | ⟨j0, rfl⟩
  · have hd1 : ¬ (0 : Int) < (n1 : Int) := of_decide_eq_false hd0
    go_wp2_with fail
    refine HCC.out.mono ?_
    rintro e w2 ⟨rfl, hx2⟩
    have HE2 := Lib.hid (HE1.out.trans hx2)
    have y4 := cell_ext v4 hx2; have y5 := cell_ext v5 hx2; have z4 := cell_ext u4 hx2
    have L2 := HL1.out.ext hx2
    have HA := Lib.hid (areConditions_any a2 n2 c2 cnd bits w2 L2.i2 L2.h2 L2.m2 hb0 hb1)
    obtain ⟨ok, hok⟩ : ∃ x, cndOk bits cnd = x := ⟨_, rfl⟩
    rw [hok] at HA
    have hr3 := Hr3.out
    rw [hok] at hr3
    have Hr4 := Lib.hid hr3
    clear hok hr3 Hr3 v0 v1 v2 v3 v4 v5 u1 u2 u3 u4 L2
    by_cases hc0 : cc = 0
    · have hr4 := Hr4.out
      rw [if_neg (by simp [hc0])] at hr4
      have Hr5 := Lib.hid hr4
      have hcb : (cc != 0) = false := by simp [hc0]
      clear hr4 Hr4 hc0
      go_wp2_with fail
      refine (HF3.out _).mono ?_
      rintro e wy ⟨rfl, rfl⟩
      cases f3
      · have HF : Hid (r = 13) := by show r = 13; rw [← Hr5.out]; simp
        clear Hr5
        go_wp2_with fail
        go_ret
        exact ⟨congrArg (fun b => Ending.returned (Value.int .i64 b)) HF.out.symm, HE2.out⟩
      · have hr6 := Hr5.out
        rw [if_neg (by decide)] at hr6
        have Hr6 := Lib.hid hr6
        clear hr6 Hr5
        go_wp2_with fail
        refine HA.out.mono ?_
        rintro e wx ⟨rfl, rfl⟩
        cases ok
        · have HF : Hid (r = 14) := by show r = 14; rw [← Hr6.out]; simp
          clear Hr6
          go_wp2_with fail
          go_ret
          exact ⟨congrArg (fun b => Ending.returned (Value.int .i64 b)) HF.out.symm, HE2.out⟩
        · have HF : Hid (r = 0) := by show r = 0; rw [← Hr6.out]; simp
          clear Hr6
          go_wp2_with fail
          go_ret
          exact ⟨congrArg (fun b => Ending.returned (Value.int .i64 b)) HF.out.symm, HE2.out⟩
    · have HF : Hid (r = cc) := by show r = cc; rw [← Hr4.out, if_pos hc0]
      have hcb : (cc != 0) = true := by simp [hc0]
      clear Hr4 hc0
      go_wp2_with fail
      go_ret
      exact ⟨congrArg (fun b => Ending.returned (Value.int .i64 b)) HF.out.symm, HE2.out⟩
  · go_wp2_with fail
    refine HCC.out.mono ?_
    rintro e w2 ⟨rfl, hx2⟩
    have HE2 := Lib.hid (HE1.out.trans hx2)
    have y4 := cell_ext v4 hx2; have y5 := cell_ext v5 hx2; have z4 := cell_ext u4 hx2
    have L2 := HL1.out.ext hx2
    have HA := Lib.hid (areConditions_any a2 n2 c2 cnd bits w2 L2.i2 L2.h2 L2.m2 hb0 hb1)
    obtain ⟨ok, hok⟩ : ∃ x, cndOk bits cnd = x := ⟨_, rfl⟩
    rw [hok] at HA
    have hr3 := Hr3.out
    rw [hok] at hr3
    have Hr4 := Lib.hid hr3
    clear hok hr3 Hr3 v0 v1 v2 v3 v4 v5 u1 u2 u3 u4 L2
    by_cases hc0 : cc = 0
    · have hr4 := Hr4.out
      rw [if_neg (by simp [hc0])] at hr4
      have Hr5 := Lib.hid hr4
      have hcb : (cc != 0) = false := by simp [hc0]
      clear hr4 Hr4 hc0
      go_wp2_with fail
      refine (HF3.out _).mono ?_
      rintro e wy ⟨rfl, rfl⟩
      cases f3
      · have HF : Hid (r = 13) := by show r = 13; rw [← Hr5.out]; simp
        clear Hr5
        go_wp2_with fail
        go_ret
        exact ⟨congrArg (fun b => Ending.returned (Value.int .i64 b)) HF.out.symm, HE2.out⟩
      · have hr6 := Hr5.out
        rw [if_neg (by decide)] at hr6
        have Hr6 := Lib.hid hr6
        clear hr6 Hr5
        go_wp2_with fail
        refine HA.out.mono ?_
        rintro e wx ⟨rfl, rfl⟩
        cases ok
        · have HF : Hid (r = 14) := by show r = 14; rw [← Hr6.out]; simp
          clear Hr6
          go_wp2_with fail
          go_ret
          exact ⟨congrArg (fun b => Ending.returned (Value.int .i64 b)) HF.out.symm, HE2.out⟩
        · have HF : Hid (r = 0) := by show r = 0; rw [← Hr6.out]; simp
          clear Hr6
          go_wp2_with fail
          go_ret
          exact ⟨congrArg (fun b => Ending.returned (Value.int .i64 b)) HF.out.symm, HE2.out⟩
    · have HF : Hid (r = cc) := by show r = cc; rw [← Hr4.out, if_pos hc0]
      have hcb : (cc != 0) = true := by simp [hc0]
      clear Hr4 hc0
      go_wp2_with fail
      go_ret
      exact ⟨congrArg (fun b => Ending.returned (Value.int .i64 b)) HF.out.symm, HE2.out⟩

end Go.Proofs.YtpabafioofhklaaDoor
