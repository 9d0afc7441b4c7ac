/-
  The reference's text of any operation that it has loosely read.
-/
import Derived.Test.YtfjbhiihfibbaaaDoorMHa
import Derived.Test.YtfjbhiihfibbaaaDoorMFa

namespace Go.Proofs.YtfjbhiihfibbaaaDoor
open Go.RowKit

/-- What is loosely read. -/
structure PrW (o : Gop) : Prop where
  kd : 1 ≤ o.kind ∧ o.kind ≤ 6
  k : 0 ≤ o.k ∧ o.k ≤ 29000000000
  q : 0 ≤ o.q ∧ o.q ≤ 29000000000
  bit : 0 ≤ o.bit ∧ o.bit ≤ 29000000000
  ctl : ∀ c ∈ o.ctl, 0 ≤ c ∧ c ≤ 29000000000
  few : o.ctl.length ≤ 1000000
  cnd : ∀ t ∈ o.cnd, t ≠ 0 ∧ -29000000001 ≤ t ∧ t ≤ 29000000001
  cfew : o.cnd.length ≤ 1000000
theorem dd_len11 {m : Nat} (h : m ≤ 30000000000) : (Lib.decDigits m).length ≤ 11 := by
  have key : ∀ k, ∀ m, m < 10 ^ (k + 1) → (Lib.decDigits m).length ≤ k + 1 := by
    intro k
    induction k with
    | zero => intro m hm; rw [Lib.decDigits_one (by omega)]; simp
    | succ k ih =>
      intro m hm
      by_cases h : m < 10
      · rw [Lib.decDigits_one h]; simp
      · rw [dd_step h, List.length_append]
        have := ih (m / 10) (by rw [Nat.pow_succ] at hm; omega)
        simp; omega
  exact key 10 m (Nat.lt_of_le_of_lt h (by decide))
theorem numW_len {i : Int} (h : i ≤ 29000000000) : (numL i).length ≤ 12 := by
  have := dd_len11 (m := i.toNat) (by omega)
  simp [numL]; omega
theorem cndW_len {t : Int} (h : -29000000001 ≤ t ∧ t ≤ 29000000001) : (cndL t).length ≤ 13 := by
  have hb : bitOf t ≤ 29000000000 := by unfold bitOf; split <;> omega
  unfold cndL
  split
  · have := dd_len11 (m := (bitOf t).toNat) (by omega)
    simp; omega
  · have := numW_len hb; omega

set_option maxHeartbeats 400000 in
theorem num_wide (i : Int) (w : World) (h0 : 0 ≤ i) (hi : i ≤ 29000000000) :
    Calls Tryd.prog 35 #[.int .i64 i] w fun e w' => e = .returned (.string ⟨(Lib.decDigits i.toNat).toArray⟩) ∧ Ext w w' := by
  have hd : Lib.itoa i = Lib.decDigits i.toNat := by unfold Lib.itoa; rw [if_neg (by omega)]
  go_enter Tryd.func35, Tryd.ntmps35
  go_wp2_with fail
  refine (ZOf_any i (by omega) (by omega) w).mono ?_
  rintro e w1 ⟨b', a', n', c', rfl, hI, hn, hx⟩
  have HT := Lib.hid (ZText_any b' a' n' c' i w1 hI (by omega))
  rw [hd] at HT
  have HX := Lib.hid hx
  clear hx hI hd
  go_wp2_with fail
  refine HT.out.mono ?_
  rintro e w2 ⟨rfl, hx2⟩
  have HX2 := Lib.hid (HX.out.trans hx2)
  clear hx2
  go_wp2_with fail
  go_ret
  exact ⟨rfl, HX2.out⟩

set_option maxHeartbeats 4000000 in
set_option maxRecDepth 100000 in
theorem opText_wide (o : Gop) (a1 : Option Addr) (n1 c1 : Nat) (a2 : Option Addr) (n2 c2 : Nat) (w : World) (hL : OpL w o a1 n1 c1 a2 n2 c2) (hf : PrW o) :
    Calls Tryd.prog 37 #[.agg #[.int .i64 o.kind, .int .i64 o.k, .slice a1 n1 c1, .int .i64 o.q, .int .i64 o.bit, .slice a2 n2 c2]] w fun e w' => e = .returned (.string ⟨(prnOp o ++ [10]).toArray⟩) ∧ Ext w w' := by
  obtain ⟨R, hR⟩ : ∃ R, prnOp o = R := ⟨_, rfl⟩
  rw [hR]
  obtain ⟨kd, k, ctl, q, bt, cnd⟩ := o
  obtain ⟨fkd, fk, fq, fbt, fctl, ffew, fcnd, fcfew⟩ := hf
  simp only at fkd fk fq fbt fctl ffew fcnd fcfew hL
  obtain ⟨kn, rfl⟩ : ∃ kn : Nat, kd = (kn : Int) := ⟨kd.toNat, by omega⟩
  have i0 : (0 : Int) ≤ (kn : Int) := by omega
  have i1 : (kn : Int) < 7 := by omega
  unfold prnOp at hR
  simp only at hR
  have hR0 : (Int.toNat (kn : Int)) = kn := by omega
  rw [hR0] at hR
  have uK : (usesK (kn : Int) = true ↔ kn = 1 ∨ kn = 4) := by
    unfold usesK
    simp only [Bool.or_eq_true, beq_iff_eq]
    omega
  have uQ : (usesQ (kn : Int) = true ↔ kn ≠ 1) := by
    unfold usesQ
    constructor
    · intro h e
      rw [bt' (show (kn : Int) = 1 by omega)] at h
      exact absurd h (by decide)
    · intro h
      rw [bf (show ¬ (kn : Int) = 1 by omega)]
      rfl
  have uB : (usesB (kn : Int) = true ↔ kn = 5) := by
    unfold usesB
    constructor
    · intro h
      have : (kn : Int) = 5 := by simpa using h
      omega
    · intro h
      exact bt' (show (kn : Int) = 5 by omega)
  have bx := opbx_new w (kn : Int) k a1 n1 c1 q bt a2 n2 c2
  have m0 := bx.x0
  have EA := (ext_al w (.cells #[.int .i64 (kn : Int), .int .i64 k, .slice a1 n1 c1, .int .i64 q, .int .i64 bt, .slice a2 n2 c2] 58))
  have EB := ext_al (w.alloc (.cells #[.int .i64 (kn : Int), .int .i64 k, .slice a1 n1 c1, .int .i64 q, .int .i64 bt, .slice a2 n2 c2] 58)) (.cells #[.string ⟨#[]⟩, .string ⟨#[112, 104, 97, 115, 101]⟩, .string ⟨#[120]⟩, .string ⟨#[104]⟩, .string ⟨#[112]⟩, .string ⟨#[109, 101, 97, 115, 117, 114, 101]⟩, .string ⟨#[114, 101, 115, 101, 116]⟩] 9)
  have bxB := bx.ext EB
  have hrow : ((w.alloc (.cells #[.int .i64 (kn : Int), .int .i64 k, .slice a1 n1 c1, .int .i64 q, .int .i64 bt, .slice a2 n2 c2] 58)).alloc (.cells #[.string ⟨#[]⟩, .string ⟨#[112, 104, 97, 115, 101]⟩, .string ⟨#[120]⟩, .string ⟨#[104]⟩, .string ⟨#[112]⟩, .string ⟨#[109, 101, 97, 115, 117, 114, 101]⟩, .string ⟨#[114, 101, 115, 101, 116]⟩] 9)).heap[w.heap.size + 1]? = some (.cells #[.string ⟨#[]⟩, .string ⟨#[112, 104, 97, 115, 101]⟩, .string ⟨#[120]⟩, .string ⟨#[104]⟩, .string ⟨#[112]⟩, .string ⟨#[109, 101, 97, 115, 117, 114, 101]⟩, .string ⟨#[114, 101, 115, 101, 116]⟩] 9 (0, 0)) := by
    have := heap_alloc_new (w.alloc (.cells #[.int .i64 (kn : Int), .int .i64 k, .slice a1 n1 c1, .int .i64 q, .int .i64 bt, .slice a2 n2 c2] 58)) (.cells #[.string ⟨#[]⟩, .string ⟨#[112, 104, 97, 115, 101]⟩, .string ⟨#[120]⟩, .string ⟨#[104]⟩, .string ⟨#[112]⟩, .string ⟨#[109, 101, 97, 115, 117, 114, 101]⟩, .string ⟨#[114, 101, 115, 101, 116]⟩] 9)
    simpa using this
  have z0 : ((w.alloc (.cells #[.int .i64 (kn : Int), .int .i64 k, .slice a1 n1 c1, .int .i64 q, .int .i64 bt, .slice a2 n2 c2] 58)).alloc (.cells #[.string ⟨#[]⟩, .string ⟨#[112, 104, 97, 115, 101]⟩, .string ⟨#[120]⟩, .string ⟨#[104]⟩, .string ⟨#[112]⟩, .string ⟨#[109, 101, 97, 115, 117, 114, 101]⟩, .string ⟨#[114, 101, 115, 101, 116]⟩] 9)).cell? ⟨w.heap.size + 1, kn, none⟩ = some (.string (wordOf kn)) := by
    rw [cell_of_row _ _ kn _ _ (0, 0) hrow]
    have : kn = 1 ∨ kn = 2 ∨ kn = 3 ∨ kn = 4 ∨ kn = 5 ∨ kn = 6 := by omega
    rcases this with rfl | rfl | rfl | rfl | rfl | rfl <;> rfl
  have y0 := bxB.x0
  obtain ⟨wl, hwl⟩ : ∃ x, (wordOf kn).data.toList = x := ⟨_, rfl⟩
  have hwd : wordOf kn = ⟨wl.toArray⟩ := by rw [← hwl, ← ba_of]
  rw [hwd] at z0
  rw [hwl] at hR
  have hw7 : wl.length ≤ 7 := by
    rw [← hwl]
    have : kn = 1 ∨ kn = 2 ∨ kn = 3 ∨ kn = 4 ∨ kn = 5 ∨ kn = 6 := by omega
    rcases this with rfl | rfl | rfl | rfl | rfl | rfl <;> decide
  have HE1 := Lib.hid (EA.trans EB); have HL := Lib.hid (hL.ext (EA.trans EB)); have HbO := Lib.hid bxB
  have HR := Lib.hid hR; have Hctl := Lib.hid fctl; have Hcnd := Lib.hid fcnd
  have hq1 : n1 ≤ 1000000 := by rw [← hL.i1.1]; exact ffew
  have hq2 : n2 ≤ 1000000 := by rw [← hL.i2.1]; exact fcfew
  have Hl1 := Lib.hid hL.i1.1; have Hl2 := Lib.hid hL.i2.1
  have hw9 := HbO.out.lt
  have UK := Lib.hid uK; have UQ := Lib.hid uQ; have UB := Lib.hid uB
  clear hR0 hwd hwl bx bxB hR hL EA EB hrow fctl fcnd fkd uK uQ uB
  go_enter Tryd.func37, Tryd.ntmps37
  go_upto_region 3 with fail
  generalize (w.alloc (.cells #[.int .i64 (kn : Int), .int .i64 k, .slice a1 n1 c1, .int .i64 q, .int .i64 bt, .slice a2 n2 c2] 58)).alloc (.cells #[.string ⟨#[]⟩, .string ⟨#[112, 104, 97, 115, 101]⟩, .string ⟨#[120]⟩, .string ⟨#[104]⟩, .string ⟨#[112]⟩, .string ⟨#[109, 101, 97, 115, 117, 114, 101]⟩, .string ⟨#[114, 101, 115, 101, 116]⟩] 9) = W1 at *
  clear m0 z0
  have y1 := HbO.out.x1; have y2 := HbO.out.x2; have y3 := HbO.out.x3; have y4 := HbO.out.x4; have y5 := HbO.out.x5
  go_cut [20] from 7 to 108 (fun s20 wx => s20 = .bool (decide (kn = 1 ∨ kn = 4)) ∧ wx = W1)
  case first =>
    by_cases k1 : kn = 1
    · have q1 : ((kn : Int) == 1) = true := bt' (by omega)
      have q3 : decide (kn = 1 ∨ kn = 4) = true := dt (Or.inl k1)
      have Q3 := Lib.hid q3
      clear k1 q3
      go_wp2_with fail
      go_meet
      exact ⟨by rw [Q3.out], rfl⟩
    · have q1 : ((kn : Int) == 1) = false := bf (by omega)
      have q2 : ((kn : Int) == 4) = decide (kn = 1 ∨ kn = 4) := by
        by_cases k4 : kn = 4
        · rw [bt' (show (kn : Int) = 4 by omega), dt (Or.inr k4)]
        · rw [bf (show ¬ (kn : Int) = 4 by omega), df (by omega)]
      have Q2 := Lib.hid q2
      clear k1 q2
      go_wp2_with fail
      go_meet
      exact ⟨by rw [Q2.out], rfl⟩
  case rest =>
  obtain ⟨rfl, rfl⟩ := hcut
  have hR1 := HR.out
  have e1 : (if usesK (kn : Int) then numL k else []) = (if decide (kn = 1 ∨ kn = 4) = true then numL k else []) := by
    by_cases h : usesK (kn : Int) = true
    · rw [if_pos h, if_pos (dt (UK.out.1 h))]
    · rw [if_neg h, if_neg (by simpa using fun e => h (UK.out.2 e))]
  rw [e1] at hR1
  obtain ⟨uk, huk⟩ : ∃ x, decide (kn = 1 ∨ kn = 4) = x := ⟨_, rfl⟩
  rw [huk] at hR1 ⊢
  have HR1 := Lib.hid hR1
  clear e1 hR1 HR huk UK
  go_upto_if 20 with fail
  generalize wc = wA at *
  have HX1 := Lib.hid (Ext.refl wA)
  obtain ⟨l1, hl1⟩ : ∃ x : List UInt8, wl = x := ⟨_, rfl⟩
  rw [hl1] at HR1 hw7 ⊢
  have hn1 : l1.length ≤ 7 := hw7
  clear hl1 hw7
  go_cut [4] from 7 to 108 (fun s4 wx => s4 = .string ⟨(l1 ++ (if uk = true then numL k else [])).toArray⟩ ∧ Ext wA wx)
  case first =>
    cases uk
    · go_wp2_with fail
      go_meet
      exact ⟨by simp, HX1.out⟩
    · obtain ⟨D, hD⟩ : ∃ x, Lib.decDigits (k).toNat = x := ⟨_, rfl⟩
      have hDl : D.length ≤ 11 := by rw [← hD]; exact dd_len11 (by omega)
      have HN := Lib.hid (fun wx => num_wide k wx fk.1 fk.2)
      rw [hD] at HN
      have HD := Lib.hid hD
      clear hD
      go_wp2_with fail
      refine (HN.out _).mono ?_
      rintro e w2 ⟨rfl, hx2⟩
      have H2 := Lib.hid (HX1.out.trans hx2)
      clear hx2
      go_wp2_with fail
      go_meet
      exact ⟨congrArg Value.string ((ba_num l1 HD.out).trans (by simp)), H2.out⟩
  case rest =>
  obtain ⟨rfl, hX⟩ := hcut
  obtain ⟨l2, hl2⟩ : ∃ x : List UInt8, l1 ++ (if uk = true then numL k else []) = x := ⟨_, rfl⟩
  have hn2 : l2.length ≤ l1.length + 12 := by rw [← hl2, List.length_append]; have hq : (if uk = true then numL k else []).length ≤ 12 := (by split; exact numW_len fk.2; simp); omega
  have hR2 := HR1.out
  rw [hl2] at hR2 ⊢
  have HR2 := Lib.hid hR2; have HX2 := Lib.hid hX
  have y0 := (HbO.out.ext hX).x0; have y1 := (HbO.out.ext hX).x1; have y2 := (HbO.out.ext hX).x2; have y3 := (HbO.out.ext hX).x3; have y4 := (HbO.out.ext hX).x4; have y5 := (HbO.out.ext hX).x5
  clear hX hR2 HR1 HX1 hl2
  have e2 : (if usesQ (kn : Int) then numL q else []) = (if kn ≠ 1 then numL q else []) := by
    by_cases h : kn ≠ 1
    · rw [if_pos (UQ.out.2 h), if_pos h]
    · rw [if_neg (fun e => h (UQ.out.1 e)), if_neg h]
  have e3 : (if usesB (kn : Int) then [32, 116, 111] ++ numL bt else []) = (if kn = 5 then [32, 116, 111] ++ numL bt else []) := by
    by_cases h : kn = 5
    · rw [if_pos (UB.out.2 h), if_pos h]
    · rw [if_neg (fun e => h (UB.out.1 e)), if_neg h]
  rw [e2, e3, Hl1.out, Hl2.out] at HR2
  clear e2 e3 UQ UB
  go_upto_if 29 with fail
  go_cut [4] from 7 to 108 (fun s4 wx => s4 = .string ⟨(l2 ++ (if kn ≠ 1 then numL q else [])).toArray⟩ ∧ Ext wA wx)
  case first =>
    by_cases hc : kn ≠ 1
    · have HC := Lib.hid hc
      have q1 := nt (show ¬ (kn : Int) = 1 by omega); have q2 := bf (show ¬ (kn : Int) = 1 by omega)
      clear hc
      obtain ⟨D, hD⟩ : ∃ x, Lib.decDigits (q).toNat = x := ⟨_, rfl⟩
      have hDl : D.length ≤ 11 := by rw [← hD]; exact dd_len11 (by omega)
      have HN := Lib.hid (fun wx => num_wide q wx fq.1 fq.2)
      rw [hD] at HN
      have HD := Lib.hid hD
      clear hD
      go_wp2_with fail
      refine (HN.out _).mono ?_
      rintro e w2 ⟨rfl, hx2⟩
      have H2 := Lib.hid (HX2.out.trans hx2)
      clear hx2
      go_wp2_with fail
      go_meet
      exact ⟨congrArg Value.string ((ba_num l2 HD.out).trans (by rw [if_pos HC.out])), H2.out⟩
    · have HC := Lib.hid hc
      have q1 := nf' (show (kn : Int) = 1 by omega); have q2 := bt' (show (kn : Int) = 1 by omega)
      clear hc
      go_wp2_with fail
      go_meet
      exact ⟨by rw [if_neg HC.out]; simp, HX2.out⟩
  case rest =>
  obtain ⟨rfl, hX⟩ := hcut
  obtain ⟨l3, hl3⟩ : ∃ x : List UInt8, l2 ++ (if kn ≠ 1 then numL q else []) = x := ⟨_, rfl⟩
  have hn3 : l3.length ≤ l2.length + 12 := by rw [← hl3, List.length_append]; have hq : (if kn ≠ 1 then numL q else []).length ≤ 12 := (by split; exact numW_len fq.2; simp); omega
  have hR3 := HR2.out
  rw [hl3] at hR3 ⊢
  have HR3 := Lib.hid hR3; have HX3 := Lib.hid hX
  have y0 := (HbO.out.ext hX).x0; have y1 := (HbO.out.ext hX).x1; have y2 := (HbO.out.ext hX).x2; have y3 := (HbO.out.ext hX).x3; have y4 := (HbO.out.ext hX).x4; have y5 := (HbO.out.ext hX).x5
  clear hX hR3 HR2 HX2 hl3
  go_upto_if 39 with fail
  go_cut [4] from 7 to 108 (fun s4 wx => s4 = .string ⟨(l3 ++ (if 0 < n1 then [32, 111, 110] else [])).toArray⟩ ∧ Ext wA wx)
  case first =>
    by_cases hc : 0 < n1
    · have HC := Lib.hid hc
      have q1 : (0 : Int) < (n1 : Int) := by omega
      have q2 : decide ((0 : Int) < (n1 : Int)) = true := dt q1
      clear hc
      go_wp2_with fail
      go_meet
      exact ⟨congrArg Value.string ((ba_add l3 [32, 111, 110]).trans (by rw [if_pos HC.out])), HX3.out⟩
    · have HC := Lib.hid hc
      have q1 : ¬ (0 : Int) < (n1 : Int) := by omega
      have q2 : decide ((0 : Int) < (n1 : Int)) = false := df q1
      clear hc
      go_wp2_with fail
      go_meet
      exact ⟨by rw [if_neg HC.out]; simp, HX3.out⟩
  case rest =>
  obtain ⟨rfl, hX⟩ := hcut
  obtain ⟨l4, hl4⟩ : ∃ x : List UInt8, l3 ++ (if 0 < n1 then [32, 111, 110] else []) = x := ⟨_, rfl⟩
  have hn4 : l4.length ≤ l3.length + 3 := by rw [← hl4, List.length_append]; have hq : (if 0 < n1 then [32, 111, 110] else ([] : List UInt8)).length ≤ 3 := (by split <;> simp); omega
  have hR4 := HR3.out
  rw [hl4] at hR4 ⊢
  have HR4 := Lib.hid hR4; have HX4 := Lib.hid hX
  have y0 := (HbO.out.ext hX).x0; have y1 := (HbO.out.ext hX).x1; have y2 := (HbO.out.ext hX).x2; have y3 := (HbO.out.ext hX).x3; have y4 := (HbO.out.ext hX).x4; have y5 := (HbO.out.ext hX).x5
  clear hX hR4 HR3 HX3 hl4
  go_wp2_with fail
  go_loopg [4, 5] n1 (fun kk s4 sx wx => ∃ i : Nat, sx = .int .i64 (i : Int) ∧ i ≤ n1 ∧ n1 - i = kk ∧ s4 = .string ⟨(l4 ++ (ctl.take i).flatMap numL).toArray⟩ ∧ Ext wA wx)
  case atStart => exact ⟨0, rfl, by omega, by omega, by simp, HX4.out⟩
  case round =>
  obtain ⟨i, rfl, hi1, hk, rfl, hX⟩ := hrel
  have y0 := (HbO.out.ext hX).x0; have y1 := (HbO.out.ext hX).x1; have y2 := (HbO.out.ext hX).x2; have y3 := (HbO.out.ext hX).x3; have y4 := (HbO.out.ext hX).x4; have y5 := (HbO.out.ext hX).x5
  clear HX4
  have hlf := flat_len numL 12 (ctl.take i) (fun y hy => (fun h => numW_len h.2) (Hctl.out y (List.mem_of_mem_take hy)))
  have htk : (ctl.take i).length ≤ n1 := by rw [List.length_take, Hl1.out]; omega
  by_cases hin : i < n1
  · have h2 : (i : Int) < (n1 : Int) := by omega
    have h0 : (0 : Int) ≤ (i : Int) := by omega
    obtain ⟨b', o', rfl, hbl, hcell⟩ := (HL.out.i1.ext hX).at (by omega)
    have hci := hcell i (by omega)
    have hil : i < ctl.length := by rw [Hl1.out]; omega
    have hfs := flat_snoc numL ctl i hil
    have hm := Hctl.out _ (getD_mem' hil)
    obtain ⟨x, hx⟩ : ∃ x, ctl.getD i 0 = x := ⟨_, rfl⟩
    rw [hx] at hci hfs hm
    obtain ⟨lx, hlx⟩ : ∃ z, l4 ++ (ctl.take i).flatMap numL = z := ⟨_, rfl⟩
    have hlxn : lx.length ≤ 40000000 := by rw [← hlx, List.length_append]; omega
    have Hfs : Hid (l4 ++ (ctl.take (i + 1)).flatMap numL = lx ++ numL x) := by show _ = _; rw [hfs, ← hlx, List.append_assoc]
    rw [hlx]
    have HXr := Lib.hid hX
    clear hx hfs hcell hX hlf htk hlx
    obtain ⟨D, hD⟩ : ∃ z, Lib.decDigits (x).toNat = z := ⟨_, rfl⟩
    have hDl : D.length ≤ 11 := by rw [← hD]; exact dd_len11 (by omega)
    have HN := Lib.hid (fun wx => num_wide (x) wx hm.1 hm.2)
    rw [hD] at HN
    have HD := Lib.hid hD
    clear hD
    go_wp2_with fail
    refine (HN.out _).mono ?_
    rintro e w2 ⟨rfl, hx2⟩
    have H2 := Lib.hid (HXr.out.trans hx2)
    clear hx2
    go_wp2_with fail
    go_roundg (n1 - (i + 1))
    case measure => omega
    case rel => exact ⟨i + 1, by go_num, by omega, rfl, congrArg Value.string ((ba_num lx HD.out).trans (by rw [Hfs.out])), H2.out⟩
  have hin2 : ¬ (i : Int) < (n1 : Int) := by omega
  rw [List.take_of_length_le (by rw [Hl1.out]; omega)] at hlf ⊢
  clear hin hi1 hk htk
  obtain ⟨l5, hl5⟩ : ∃ z : List UInt8, l4 ++ ctl.flatMap numL = z := ⟨_, rfl⟩
  have hn5 : l5.length ≤ l4.length + 12 * ctl.length := by rw [← hl5, List.length_append]; omega
  have hR5 := HR4.out
  rw [hl5] at hR5 ⊢
  have HR5 := Lib.hid hR5; have HX5 := Lib.hid hX
  clear hX hR5 HR4 hl5 hlf
  go_upto_if 60 with fail
  go_cut [4] from 7 to 108 (fun s4 wx => s4 = .string ⟨(l5 ++ (if kn = 5 then [32, 116, 111] ++ numL bt else [])).toArray⟩ ∧ Ext wA wx)
  case first =>
    by_cases hc : kn = 5
    · have HC := Lib.hid hc
      have q1 := bt' (show (kn : Int) = 5 by omega)
      clear hc
      obtain ⟨D, hD⟩ : ∃ x, Lib.decDigits (bt).toNat = x := ⟨_, rfl⟩
      have hDl : D.length ≤ 11 := by rw [← hD]; exact dd_len11 (by omega)
      have HN := Lib.hid (fun wx => num_wide bt wx fbt.1 fbt.2)
      rw [hD] at HN
      have HD := Lib.hid hD
      clear hD
      go_wp2_with fail
      refine (HN.out _).mono ?_
      rintro e w2 ⟨rfl, hx2⟩
      have H2 := Lib.hid (HX5.out.trans hx2)
      clear hx2
      go_wp2_with fail
      go_meet
      exact ⟨congrArg Value.string ((ba_to l5 HD.out).trans (by rw [if_pos HC.out])), H2.out⟩
    · have HC := Lib.hid hc
      have q1 := bf (show ¬ (kn : Int) = 5 by omega)
      clear hc
      go_wp2_with fail
      go_meet
      exact ⟨by rw [if_neg HC.out]; simp, HX5.out⟩
  case rest =>
  obtain ⟨rfl, hX⟩ := hcut
  obtain ⟨l6, hl6⟩ : ∃ x : List UInt8, l5 ++ (if kn = 5 then [32, 116, 111] ++ numL bt else []) = x := ⟨_, rfl⟩
  have hn6 : l6.length ≤ l5.length + 15 := by rw [← hl6, List.length_append]; have hq : (if kn = 5 then [32, 116, 111] ++ numL bt else []).length ≤ 15 := (by split; have := numW_len fbt.2; simp; omega; simp); omega
  have hR6 := HR5.out
  rw [hl6] at hR6 ⊢
  have HR6 := Lib.hid hR6; have HX6 := Lib.hid hX
  have y0 := (HbO.out.ext hX).x0; have y1 := (HbO.out.ext hX).x1; have y2 := (HbO.out.ext hX).x2; have y3 := (HbO.out.ext hX).x3; have y4 := (HbO.out.ext hX).x4; have y5 := (HbO.out.ext hX).x5
  clear hX hR6 HR5 HX5 hl6
  go_upto_if 70 with fail
  go_cut [4] from 7 to 108 (fun s4 wx => s4 = .string ⟨(l6 ++ (if 0 < n2 then [32, 105, 102] else [])).toArray⟩ ∧ Ext wA wx)
  case first =>
    by_cases hc : 0 < n2
    · have HC := Lib.hid hc
      have q1 : (0 : Int) < (n2 : Int) := by omega
      have q2 : decide ((0 : Int) < (n2 : Int)) = true := dt q1
      clear hc
      go_wp2_with fail
      go_meet
      exact ⟨congrArg Value.string ((ba_add l6 [32, 105, 102]).trans (by rw [if_pos HC.out])), HX6.out⟩
    · have HC := Lib.hid hc
      have q1 : ¬ (0 : Int) < (n2 : Int) := by omega
      have q2 : decide ((0 : Int) < (n2 : Int)) = false := df q1
      clear hc
      go_wp2_with fail
      go_meet
      exact ⟨by rw [if_neg HC.out]; simp, HX6.out⟩
  case rest =>
  obtain ⟨rfl, hX⟩ := hcut
  obtain ⟨l7, hl7⟩ : ∃ x : List UInt8, l6 ++ (if 0 < n2 then [32, 105, 102] else []) = x := ⟨_, rfl⟩
  have hn7 : l7.length ≤ l6.length + 3 := by rw [← hl7, List.length_append]; have hq : (if 0 < n2 then [32, 105, 102] else ([] : List UInt8)).length ≤ 3 := (by split <;> simp); omega
  have hR7 := HR6.out
  rw [hl7] at hR7 ⊢
  have HR7 := Lib.hid hR7; have HX7 := Lib.hid hX
  have y0 := (HbO.out.ext hX).x0; have y1 := (HbO.out.ext hX).x1; have y2 := (HbO.out.ext hX).x2; have y3 := (HbO.out.ext hX).x3; have y4 := (HbO.out.ext hX).x4; have y5 := (HbO.out.ext hX).x5
  clear hX hR7 HR6 HX6 hl7
  go_wp2_with fail
  go_loopg [4, 6] n2 (fun kk s4 sx wx => ∃ i : Nat, sx = .int .i64 (i : Int) ∧ i ≤ n2 ∧ n2 - i = kk ∧ s4 = .string ⟨(l7 ++ (cnd.take i).flatMap cndL).toArray⟩ ∧ Ext wA wx)
  case atStart => exact ⟨0, rfl, by omega, by omega, by simp, HX7.out⟩
  case round =>
  obtain ⟨i, rfl, hi1, hk, rfl, hX⟩ := hrel
  have y0 := (HbO.out.ext hX).x0; have y1 := (HbO.out.ext hX).x1; have y2 := (HbO.out.ext hX).x2; have y3 := (HbO.out.ext hX).x3; have y4 := (HbO.out.ext hX).x4; have y5 := (HbO.out.ext hX).x5
  clear HX7
  have hlf := flat_len cndL 13 (cnd.take i) (fun y hy => (fun h => cndW_len h.2) (Hcnd.out y (List.mem_of_mem_take hy)))
  have htk : (cnd.take i).length ≤ n2 := by rw [List.length_take, Hl2.out]; omega
  by_cases hin : i < n2
  · have h2 : (i : Int) < (n2 : Int) := by omega
    have h0 : (0 : Int) ≤ (i : Int) := by omega
    obtain ⟨b', o', rfl, hbl, hcell⟩ := (HL.out.i2.ext hX).at (by omega)
    have hci := hcell i (by omega)
    have hil : i < cnd.length := by rw [Hl2.out]; omega
    have hfs := flat_snoc cndL cnd i hil
    have hm := Hcnd.out _ (getD_mem' hil)
    obtain ⟨x, hx⟩ : ∃ x, cnd.getD i 0 = x := ⟨_, rfl⟩
    rw [hx] at hci hfs hm
    obtain ⟨lx, hlx⟩ : ∃ z, l7 ++ (cnd.take i).flatMap cndL = z := ⟨_, rfl⟩
    have hlxn : lx.length ≤ 40000000 := by rw [← hlx, List.length_append]; omega
    have Hfs : Hid (l7 ++ (cnd.take (i + 1)).flatMap cndL = lx ++ cndL x) := by show _ = _; rw [hfs, ← hlx, List.append_assoc]
    rw [hlx]
    have HXr := Lib.hid hX
    clear hx hfs hcell hX hlf htk hlx
    by_cases hp : 0 < x
    · have q1 : decide (0 < x) = true := dt hp
      have hw1 : IntKind.i64.wrap (x - 1) = x - 1 := by rw [IntKind.wrap_i64]; omega
      have HCn : Hid (cndL x = numL (x - 1)) := by show _ = _; unfold cndL bitOf; rw [if_neg (by omega), if_pos hp]
      obtain ⟨D, hD⟩ : ∃ z, Lib.decDigits (x - 1).toNat = z := ⟨_, rfl⟩
      have hDl : D.length ≤ 11 := by rw [← hD]; exact dd_len11 (by omega)
      have HN := Lib.hid (fun wx => num_wide (x - 1) wx (by omega) (by omega))
      rw [hD] at HN
      have HD := Lib.hid hD
      clear hD
      go_wp2_with fail
      refine (HN.out _).mono ?_
      rintro e w2 ⟨rfl, hx2⟩
      have H2 := Lib.hid (HXr.out.trans hx2)
      clear hx2
      go_wp2_with fail
      go_roundg (n2 - (i + 1))
      case measure => omega
      case rel => exact ⟨i + 1, by go_num, by omega, rfl, congrArg Value.string ((ba_num lx HD.out).trans (by rw [Hfs.out, HCn.out])), H2.out⟩
    · have q1 : decide (0 < x) = false := df hp
      have hw0 : IntKind.i64.wrap (-x) = -x := by rw [IntKind.wrap_i64]; omega
      have hw1 : IntKind.i64.wrap (-x - 1) = -x - 1 := by rw [IntKind.wrap_i64]; omega
      have HCn : Hid (cndL x = 32 :: 33 :: Lib.decDigits (-x - 1).toNat) := by show _ = _; unfold cndL bitOf; rw [if_pos (by omega), if_neg hp]
      obtain ⟨D, hD⟩ : ∃ z, Lib.decDigits (-x - 1).toNat = z := ⟨_, rfl⟩
      have hDl : D.length ≤ 11 := by rw [← hD]; exact dd_len11 (by omega)
      have HN := Lib.hid (fun wx => num_wide (-x - 1) wx (by omega) (by omega))
      rw [hD] at HN
      have HD := Lib.hid hD
      clear hD
      go_wp2_with fail
      refine (HN.out _).mono ?_
      rintro e w2 ⟨rfl, hx2⟩
      have H2 := Lib.hid (HXr.out.trans hx2)
      clear hx2
      go_wp2_with fail
      go_roundg (n2 - (i + 1))
      case measure => omega
      case rel => exact ⟨i + 1, by go_num, by omega, rfl, congrArg Value.string ((ba_not lx HD.out).trans (by rw [Hfs.out, HCn.out])), H2.out⟩
  have hin2 : ¬ (i : Int) < (n2 : Int) := by omega
  rw [List.take_of_length_le (by rw [Hl2.out]; omega)] at hlf ⊢
  clear hin hi1 hk htk
  obtain ⟨l8, hl8⟩ : ∃ z : List UInt8, l7 ++ cnd.flatMap cndL = z := ⟨_, rfl⟩
  have hn8 : l8.length ≤ l7.length + 13 * cnd.length := by rw [← hl8, List.length_append]; omega
  have hR8 := HR7.out
  rw [hl8] at hR8 ⊢
  have HR8 := Lib.hid hR8; have HX8 := Lib.hid hX
  clear hX hR8 HR7 hl8 hlf
  rw [HR8.out]
  have hRl : R.length ≤ 40000000 := by rw [← HR8.out]; omega
  go_wp2_with fail
  go_ret
  exact ⟨congrArg (fun b => Ending.returned (Value.string b)) (ba_add R [10]), HE1.out.trans HX8.out⟩

end Go.Proofs.YtfjbhiihfibbaaaDoor

/-
  What is loosely read is not too great.
-/
namespace Go.Proofs.YtfjbhiihfibbaaaDoor
open Go.RowKit

theorem lstep_wide {s : Lo} {w : List UInt8} (h1 : ∀ x ∈ s.plain, 0 ≤ x ∧ x ≤ 29000000000) (h2 : ∀ x ∈ s.ctl, 0 ≤ x ∧ x ≤ 29000000000) (h3 : 0 ≤ s.bit ∧ s.bit ≤ 29000000000) (h4 : ∀ t ∈ s.cnd, t ≠ 0 ∧ -29000000001 ≤ t ∧ t ≤ 29000000001) :
    (lstep s w).kind = s.kind ∧ (∀ x ∈ (lstep s w).plain, 0 ≤ x ∧ x ≤ 29000000000) ∧ (∀ x ∈ (lstep s w).ctl, 0 ≤ x ∧ x ≤ 29000000000) ∧ (0 ≤ (lstep s w).bit ∧ (lstep s w).bit ≤ 29000000000) ∧ (∀ t ∈ (lstep s w).cnd, t ≠ 0 ∧ -29000000001 ≤ t ∧ t ≤ 29000000001) ∧ (lstep s w).ctl.length ≤ s.ctl.length + 1 ∧ (lstep s w).cnd.length ≤ s.cnd.length + 1 := by
  have snoc : ∀ (l : List Int) (y : Int) (P : Int → Prop), (∀ x ∈ l, P x) → P y → ∀ x ∈ l ++ [y], P x := by
    intro l y P hl hy x hx
    rcases List.mem_append.1 hx with h | h
    · exact hl x h
    · rw [List.mem_singleton.1 h]; exact hy
  have hf := fig_any w
  have hg := fig_any (w.drop 1)
  unfold lstep
  split
  · exact ⟨rfl, h1, h2, h3, h4, by simp, by simp⟩
  · split
    · exact ⟨rfl, h1, h2, h3, h4, by simp, by simp⟩
    · split
      · exact ⟨rfl, h1, h2, h3, h4, by simp, by simp⟩
      · split
        · exact ⟨rfl, snoc _ _ _ h1 (by omega), h2, h3, h4, by simp, by simp⟩
        · split
          · exact ⟨rfl, h1, snoc _ _ _ h2 (by omega), h3, h4, by simp, by simp⟩
          · split
            · exact ⟨rfl, h1, h2, by simp only; omega, h4, by simp, by simp⟩
            · split
              · exact ⟨rfl, h1, h2, h3, snoc _ _ (fun t => t ≠ 0 ∧ -29000000001 ≤ t ∧ t ≤ 29000000001) h4 (by omega), by simp, by simp⟩
              · exact ⟨rfl, h1, h2, h3, snoc _ _ (fun t => t ≠ 0 ∧ -29000000001 ≤ t ∧ t ≤ 29000000001) h4 (by omega), by simp, by simp⟩
theorem fold_wide (ws : List (List UInt8)) : ∀ s : Lo, (∀ x ∈ s.plain, 0 ≤ x ∧ x ≤ 29000000000) → (∀ x ∈ s.ctl, 0 ≤ x ∧ x ≤ 29000000000) → (0 ≤ s.bit ∧ s.bit ≤ 29000000000) → (∀ t ∈ s.cnd, t ≠ 0 ∧ -29000000001 ≤ t ∧ t ≤ 29000000001) →
    (ws.foldl lstep s).kind = s.kind ∧ (∀ x ∈ (ws.foldl lstep s).plain, 0 ≤ x ∧ x ≤ 29000000000) ∧ (∀ x ∈ (ws.foldl lstep s).ctl, 0 ≤ x ∧ x ≤ 29000000000) ∧ (0 ≤ (ws.foldl lstep s).bit ∧ (ws.foldl lstep s).bit ≤ 29000000000) ∧ (∀ t ∈ (ws.foldl lstep s).cnd, t ≠ 0 ∧ -29000000001 ≤ t ∧ t ≤ 29000000001) ∧ (ws.foldl lstep s).ctl.length ≤ s.ctl.length + ws.length ∧ (ws.foldl lstep s).cnd.length ≤ s.cnd.length + ws.length := by
  induction ws with
  | nil => intro s h1 h2 h3 h4; exact ⟨rfl, h1, h2, h3, h4, by simp, by simp⟩
  | cons w ws ih =>
    intro s h1 h2 h3 h4
    obtain ⟨k0, k1, k2, k3, k4, k5, k6⟩ := lstep_wide (w := w) h1 h2 h3 h4
    obtain ⟨j0, j1, j2, j3, j4, j5, j6⟩ := ih (lstep s w) k1 k2 k3 k4
    refine ⟨j0.trans k0, j1, j2, j3, j4, ?_, ?_⟩
    · rw [List.foldl_cons, List.length_cons]; omega
    · rw [List.foldl_cons, List.length_cons]; omega
theorem getD_wide {l : List Int} (h : ∀ x ∈ l, 0 ≤ x ∧ x ≤ 29000000000) (i : Nat) : 0 ≤ l.getD i 0 ∧ l.getD i 0 ≤ 29000000000 := by
  rw [List.getD_eq_getElem?_getD]
  rcases hx : l[i]? with _ | x
  · simp
  · exact h x (List.mem_of_getElem? hx)
theorem loos_wide (l : List UInt8) (hl : l.length ≤ 1000000) : PrW (loosM l) := by
  have hk := kindUp_range ((splt 32 l).getD 0 []) 6
  have hlen := splt_len 32 l
  obtain ⟨j0, j1, j2, j3, j4, j5, j6⟩ := fold_wide ((splt 32 l).drop 1) ⟨kindUp ((splt 32 l).getD 0 []) 6, [], [], 0, [], 0⟩ (by simp) (by simp) (by simp) (by simp)
  rw [List.length_drop] at j5 j6
  unfold loosM loosW finish
  generalize ((splt 32 l).drop 1).foldl lstep ⟨kindUp ((splt 32 l).getD 0 []) 6, [], [], 0, [], 0⟩ = s at *
  simp only at j0
  simp only [List.length_nil] at j5 j6
  refine ⟨by simp only [j0]; omega, ?_, ?_, j3, j2, by simp only; omega, j4, by simp only; omega⟩
  · simp only; split
    · exact getD_wide j1 0
    · omega
  · simp only; split
    · split
      · exact getD_wide j1 1
      · exact getD_wide j1 0
    · omega

end Go.Proofs.YtfjbhiihfibbaaaDoor
