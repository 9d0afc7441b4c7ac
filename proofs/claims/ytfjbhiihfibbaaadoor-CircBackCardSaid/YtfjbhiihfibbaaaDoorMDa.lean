/-
  The reference's texts of numbers and operations.
-/
import Derived.Test.YtfjbhiihfibbaaaDoorMBw
import Derived.Test.YtfjbhiihfibbaaaDoorMZT
import Derived.Test.YtfjbhiihfibbaaaDoorMZO
import Derived.Test.YtfjbhiihfibbaaaDoorMBasT
import Derived.Laws.IdiomStrings
import Derived.Laws.Concat
import Derived.Test.YtfjbhiihfibbaaaDoorMCo

namespace Go.Proofs.YtfjbhiihfibbaaaDoor
open Go.RowKit

theorem ba_add (a b : List UInt8) : (⟨a.toArray⟩ : ByteArray) ++ ⟨b.toArray⟩ = ⟨(a ++ b).toArray⟩ := by
  apply ByteArray.ext
  simp [ByteArray.data_append]
theorem ba_num (l : List UInt8) {D : List UInt8} {v : Int} (h : Lib.decDigits v.toNat = D) : (⟨l.toArray⟩ : ByteArray) ++ ((⟨#[32]⟩ : ByteArray) ++ ⟨D.toArray⟩) = ⟨(l ++ numL v).toArray⟩ := by
  rw [show (⟨#[32]⟩ : ByteArray) = ⟨[32].toArray⟩ from rfl, ba_add, ba_add, ← h]; rfl
theorem ba_to (l : List UInt8) {D : List UInt8} {v : Int} (h : Lib.decDigits v.toNat = D) : (⟨l.toArray⟩ : ByteArray) ++ ((⟨#[32, 116, 111, 32]⟩ : ByteArray) ++ ⟨D.toArray⟩) = ⟨(l ++ ([32, 116, 111] ++ numL v)).toArray⟩ := by
  rw [show (⟨#[32, 116, 111, 32]⟩ : ByteArray) = ⟨[32, 116, 111, 32].toArray⟩ from rfl, ba_add, ba_add, ← h]; rfl
theorem ba_not (l : List UInt8) {D : List UInt8} {v : Int} (h : Lib.decDigits v.toNat = D) : (⟨l.toArray⟩ : ByteArray) ++ ((⟨#[32, 33]⟩ : ByteArray) ++ ⟨D.toArray⟩) = ⟨(l ++ (32 :: 33 :: Lib.decDigits v.toNat)).toArray⟩ := by
  rw [show (⟨#[32, 33]⟩ : ByteArray) = ⟨[32, 33].toArray⟩ from rfl, ba_add, ba_add, ← h]; rfl
theorem ba_of (s : ByteArray) : s = ⟨s.data.toList.toArray⟩ := by
  cases s; simp

set_option maxHeartbeats 400000 in
theorem num_any (i : Int) (w : World) (h0 : 0 ≤ i) (hi : i < 100) :
    Calls Tryd.prog 35 #[.int .i64 i] w fun e w' => e = .returned (.string ⟨(Lib.decDigits i.toNat).toArray⟩) ∧ Ext w w' := by
  have hd : Lib.itoa i = Lib.decDigits i.toNat := by unfold Lib.itoa; rw [if_neg (by omega)]
  go_enter Tryd.func35, Tryd.ntmps35
  go_wp2_with fail
  refine (ZOf_any i (by omega) (by omega) w).mono ?_
  rintro e w1 ⟨b', a', n', c', rfl, hI, hn, hx⟩
  have HT := Lib.hid (ZText_any b' a' n' c' i w1 hI (by omega))
  rw [hd] at HT
  have HX := Lib.hid hx
  clear hx hI hd
  go_wp2_with fail
  refine HT.out.mono ?_
  rintro e w2 ⟨rfl, hx2⟩
  have HX2 := Lib.hid (HX.out.trans hx2)
  clear hx2
  go_wp2_with fail
  go_ret
  exact ⟨rfl, HX2.out⟩

set_option maxHeartbeats 4000000 in
set_option maxRecDepth 100000 in
theorem opText_any (o : Gop) (a1 : Option Addr) (n1 c1 : Nat) (a2 : Option Addr) (n2 c2 : Nat) (w : World) (hL : OpL w o a1 n1 c1 a2 n2 c2) (hf : PrFit o) :
    Calls Tryd.prog 37 #[.agg #[.int .i64 o.kind, .int .i64 o.k, .slice a1 n1 c1, .int .i64 o.q, .int .i64 o.bit, .slice a2 n2 c2]] w fun e w' => e = .returned (.string ⟨(prnOp o ++ [10]).toArray⟩) ∧ Ext w w' := by
  obtain ⟨R, hR⟩ : ∃ R, prnOp o = R := ⟨_, rfl⟩
  rw [hR]
  obtain ⟨kd, k, ctl, q, bt, cnd⟩ := o
  obtain ⟨fkd, fk, fq, fbt, fctl, ffew, fcnd, fcfew⟩ := hf
  simp only at fkd fk fq fbt fctl ffew fcnd fcfew hL
  obtain ⟨kn, rfl⟩ : ∃ kn : Nat, kd = (kn : Int) := ⟨kd.toNat, by omega⟩
  have i0 : (0 : Int) ≤ (kn : Int) := by omega
  have i1 : (kn : Int) < 7 := by omega
  unfold prnOp at hR
  simp only at hR
  have hR0 : (Int.toNat (kn : Int)) = kn := by omega
  rw [hR0] at hR
  have uK : (usesK (kn : Int) = true ↔ kn = 1 ∨ kn = 4) := by
    unfold usesK
    simp only [Bool.or_eq_true, beq_iff_eq]
    omega
  have uQ : (usesQ (kn : Int) = true ↔ kn ≠ 1) := by
    unfold usesQ
    constructor
    · intro h e
      rw [bt' (show (kn : Int) = 1 by omega)] at h
      exact absurd h (by decide)
    · intro h
      rw [bf (show ¬ (kn : Int) = 1 by omega)]
      rfl
  have uB : (usesB (kn : Int) = true ↔ kn = 5) := by
    unfold usesB
    constructor
    · intro h
      have : (kn : Int) = 5 := by simpa using h
      omega
    · intro h
      exact bt' (show (kn : Int) = 5 by omega)
  have bx := opbx_new w (kn : Int) k a1 n1 c1 q bt a2 n2 c2
  have m0 := bx.x0
  have EA := (ext_al w (.cells #[.int .i64 (kn : Int), .int .i64 k, .slice a1 n1 c1, .int .i64 q, .int .i64 bt, .slice a2 n2 c2] 58))
  have EB := ext_al (w.alloc (.cells #[.int .i64 (kn : Int), .int .i64 k, .slice a1 n1 c1, .int .i64 q, .int .i64 bt, .slice a2 n2 c2] 58)) (.cells #[.string ⟨#[]⟩, .string ⟨#[112, 104, 97, 115, 101]⟩, .string ⟨#[120]⟩, .string ⟨#[104]⟩, .string ⟨#[112]⟩, .string ⟨#[109, 101, 97, 115, 117, 114, 101]⟩, .string ⟨#[114, 101, 115, 101, 116]⟩] 9)
  have bxB := bx.ext EB
  have hrow : ((w.alloc (.cells #[.int .i64 (kn : Int), .int .i64 k, .slice a1 n1 c1, .int .i64 q, .int .i64 bt, .slice a2 n2 c2] 58)).alloc (.cells #[.string ⟨#[]⟩, .string ⟨#[112, 104, 97, 115, 101]⟩, .string ⟨#[120]⟩, .string ⟨#[104]⟩, .string ⟨#[112]⟩, .string ⟨#[109, 101, 97, 115, 117, 114, 101]⟩, .string ⟨#[114, 101, 115, 101, 116]⟩] 9)).heap[w.heap.size + 1]? = some (.cells #[.string ⟨#[]⟩, .string ⟨#[112, 104, 97, 115, 101]⟩, .string ⟨#[120]⟩, .string ⟨#[104]⟩, .string ⟨#[112]⟩, .string ⟨#[109, 101, 97, 115, 117, 114, 101]⟩, .string ⟨#[114, 101, 115, 101, 116]⟩] 9 (0, 0)) := by
    have := heap_alloc_new (w.alloc (.cells #[.int .i64 (kn : Int), .int .i64 k, .slice a1 n1 c1, .int .i64 q, .int .i64 bt, .slice a2 n2 c2] 58)) (.cells #[.string ⟨#[]⟩, .string ⟨#[112, 104, 97, 115, 101]⟩, .string ⟨#[120]⟩, .string ⟨#[104]⟩, .string ⟨#[112]⟩, .string ⟨#[109, 101, 97, 115, 117, 114, 101]⟩, .string ⟨#[114, 101, 115, 101, 116]⟩] 9)
    simpa using this
  have z0 : ((w.alloc (.cells #[.int .i64 (kn : Int), .int .i64 k, .slice a1 n1 c1, .int .i64 q, .int .i64 bt, .slice a2 n2 c2] 58)).alloc (.cells #[.string ⟨#[]⟩, .string ⟨#[112, 104, 97, 115, 101]⟩, .string ⟨#[120]⟩, .string ⟨#[104]⟩, .string ⟨#[112]⟩, .string ⟨#[109, 101, 97, 115, 117, 114, 101]⟩, .string ⟨#[114, 101, 115, 101, 116]⟩] 9)).cell? ⟨w.heap.size + 1, kn, none⟩ = some (.string (wordOf kn)) := by
    rw [cell_of_row _ _ kn _ _ (0, 0) hrow]
    have : kn = 1 ∨ kn = 2 ∨ kn = 3 ∨ kn = 4 ∨ kn = 5 ∨ kn = 6 := by omega
    rcases this with rfl | rfl | rfl | rfl | rfl | rfl <;> rfl
  have y0 := bxB.x0
  obtain ⟨wl, hwl⟩ : ∃ x, (wordOf kn).data.toList = x := ⟨_, rfl⟩
  have hwd : wordOf kn = ⟨wl.toArray⟩ := by rw [← hwl, ← ba_of]
  rw [hwd] at z0
  rw [hwl] at hR
  have hw7 : wl.length ≤ 7 := by
    rw [← hwl]
    have : kn = 1 ∨ kn = 2 ∨ kn = 3 ∨ kn = 4 ∨ kn = 5 ∨ kn = 6 := by omega
    rcases this with rfl | rfl | rfl | rfl | rfl | rfl <;> decide
  have HE1 := Lib.hid (EA.trans EB); have HL := Lib.hid (hL.ext (EA.trans EB)); have HbO := Lib.hid bxB
  have HR := Lib.hid hR; have Hctl := Lib.hid fctl; have Hcnd := Lib.hid fcnd
  have hq1 : n1 ≤ 12 := by rw [← hL.i1.1]; exact ffew
  have hq2 : n2 ≤ 24 := by rw [← hL.i2.1]; exact fcfew
  have Hl1 := Lib.hid hL.i1.1; have Hl2 := Lib.hid hL.i2.1
  have hw9 := HbO.out.lt
  have UK := Lib.hid uK; have UQ := Lib.hid uQ; have UB := Lib.hid uB
  clear hR0 hwd hwl bx bxB hR hL EA EB hrow fctl fcnd fkd uK uQ uB
  go_enter Tryd.func37, Tryd.ntmps37
  go_upto_region 3 with fail
  generalize (w.alloc (.cells #[.int .i64 (kn : Int), .int .i64 k, .slice a1 n1 c1, .int .i64 q, .int .i64 bt, .slice a2 n2 c2] 58)).alloc (.cells #[.string ⟨#[]⟩, .string ⟨#[112, 104, 97, 115, 101]⟩, .string ⟨#[120]⟩, .string ⟨#[104]⟩, .string ⟨#[112]⟩, .string ⟨#[109, 101, 97, 115, 117, 114, 101]⟩, .string ⟨#[114, 101, 115, 101, 116]⟩] 9) = W1 at *
  clear m0 z0
  have y1 := HbO.out.x1; have y2 := HbO.out.x2; have y3 := HbO.out.x3; have y4 := HbO.out.x4; have y5 := HbO.out.x5
  go_cut [20] from 7 to 108 (fun s20 wx => s20 = .bool (decide (kn = 1 ∨ kn = 4)) ∧ wx = W1)
  case first =>
    by_cases k1 : kn = 1
    · have q1 : ((kn : Int) == 1) = true := bt' (by omega)
      have q3 : decide (kn = 1 ∨ kn = 4) = true := dt (Or.inl k1)
      have Q3 := Lib.hid q3
      clear k1 q3
      go_wp2_with fail
      go_meet
      exact ⟨by rw [Q3.out], rfl⟩
    · have q1 : ((kn : Int) == 1) = false := bf (by omega)
      have q2 : ((kn : Int) == 4) = decide (kn = 1 ∨ kn = 4) := by
        by_cases k4 : kn = 4
        · rw [bt' (show (kn : Int) = 4 by omega), dt (Or.inr k4)]
        · rw [bf (show ¬ (kn : Int) = 4 by omega), df (by omega)]
      have Q2 := Lib.hid q2
      clear k1 q2
      go_wp2_with fail
      go_meet
      exact ⟨by rw [Q2.out], rfl⟩
  case rest =>
  obtain ⟨rfl, rfl⟩ := hcut
  have hR1 := HR.out
  have e1 : (if usesK (kn : Int) then numL k else []) = (if decide (kn = 1 ∨ kn = 4) = true then numL k else []) := by
    by_cases h : usesK (kn : Int) = true
    · rw [if_pos h, if_pos (dt (UK.out.1 h))]
    · rw [if_neg h, if_neg (by simpa using fun e => h (UK.out.2 e))]
  rw [e1] at hR1
  obtain ⟨uk, huk⟩ : ∃ x, decide (kn = 1 ∨ kn = 4) = x := ⟨_, rfl⟩
  rw [huk] at hR1 ⊢
  have HR1 := Lib.hid hR1
  clear e1 hR1 HR huk UK
  go_upto_if 20 with fail
  generalize wc = wA at *
  have HX1 := Lib.hid (Ext.refl wA)
  obtain ⟨l1, hl1⟩ : ∃ x : List UInt8, wl = x := ⟨_, rfl⟩
  rw [hl1] at HR1 hw7 ⊢
  have hn1 : l1.length ≤ 7 := hw7
  clear hl1 hw7
  go_cut [4] from 7 to 108 (fun s4 wx => s4 = .string ⟨(l1 ++ (if uk = true then numL k else [])).toArray⟩ ∧ Ext wA wx)
  case first =>
    cases uk
    · go_wp2_with fail
      go_meet
      exact ⟨by simp, HX1.out⟩
    · obtain ⟨D, hD⟩ : ∃ x, Lib.decDigits (k).toNat = x := ⟨_, rfl⟩
      have hDl : D.length ≤ 2 := by rw [← hD]; exact dd_len (by omega)
      have HN := Lib.hid (fun wx => num_any k wx fk.1 fk.2)
      rw [hD] at HN
      have HD := Lib.hid hD
      clear hD
      go_wp2_with fail
      refine (HN.out _).mono ?_
      rintro e w2 ⟨rfl, hx2⟩
      have H2 := Lib.hid (HX1.out.trans hx2)
      clear hx2
      go_wp2_with fail
      go_meet
      exact ⟨congrArg Value.string ((ba_num l1 HD.out).trans (by simp)), H2.out⟩
  case rest =>
  obtain ⟨rfl, hX⟩ := hcut
  obtain ⟨l2, hl2⟩ : ∃ x : List UInt8, l1 ++ (if uk = true then numL k else []) = x := ⟨_, rfl⟩
  have hn2 : l2.length ≤ l1.length + 3 := by rw [← hl2, List.length_append]; have hq : (if uk = true then numL k else []).length ≤ 3 := (by split; exact numL_len fk.2; simp); omega
  have hR2 := HR1.out
  rw [hl2] at hR2 ⊢
  have HR2 := Lib.hid hR2; have HX2 := Lib.hid hX
  have y0 := (HbO.out.ext hX).x0; have y1 := (HbO.out.ext hX).x1; have y2 := (HbO.out.ext hX).x2; have y3 := (HbO.out.ext hX).x3; have y4 := (HbO.out.ext hX).x4; have y5 := (HbO.out.ext hX).x5
  clear hX hR2 HR1 HX1 hl2
  have e2 : (if usesQ (kn : Int) then numL q else []) = (if kn ≠ 1 then numL q else []) := by
    by_cases h : kn ≠ 1
    · rw [if_pos (UQ.out.2 h), if_pos h]
    · rw [if_neg (fun e => h (UQ.out.1 e)), if_neg h]
  have e3 : (if usesB (kn : Int) then [32, 116, 111] ++ numL bt else []) = (if kn = 5 then [32, 116, 111] ++ numL bt else []) := by
    by_cases h : kn = 5
    · rw [if_pos (UB.out.2 h), if_pos h]
    · rw [if_neg (fun e => h (UB.out.1 e)), if_neg h]
  rw [e2, e3, Hl1.out, Hl2.out] at HR2
  clear e2 e3 UQ UB
  go_upto_if 29 with fail
  go_cut [4] from 7 to 108 (fun s4 wx => s4 = .string ⟨(l2 ++ (if kn ≠ 1 then numL q else [])).toArray⟩ ∧ Ext wA wx)
  case first =>
    by_cases hc : kn ≠ 1
    · have HC := Lib.hid hc
      have q1 := nt (show ¬ (kn : Int) = 1 by omega); have q2 := bf (show ¬ (kn : Int) = 1 by omega)
      clear hc
      obtain ⟨D, hD⟩ : ∃ x, Lib.decDigits (q).toNat = x := ⟨_, rfl⟩
      have hDl : D.length ≤ 2 := by rw [← hD]; exact dd_len (by omega)
      have HN := Lib.hid (fun wx => num_any q wx fq.1 fq.2)
      rw [hD] at HN
      have HD := Lib.hid hD
      clear hD
      go_wp2_with fail
      refine (HN.out _).mono ?_
      rintro e w2 ⟨rfl, hx2⟩
      have H2 := Lib.hid (HX2.out.trans hx2)
      clear hx2
      go_wp2_with fail
      go_meet
      exact ⟨congrArg Value.string ((ba_num l2 HD.out).trans (by rw [if_pos HC.out])), H2.out⟩
    · have HC := Lib.hid hc
      have q1 := nf' (show (kn : Int) = 1 by omega); have q2 := bt' (show (kn : Int) = 1 by omega)
      clear hc
      go_wp2_with fail
      go_meet
      exact ⟨by rw [if_neg HC.out]; simp, HX2.out⟩
  case rest =>
  obtain ⟨rfl, hX⟩ := hcut
  obtain ⟨l3, hl3⟩ : ∃ x : List UInt8, l2 ++ (if kn ≠ 1 then numL q else []) = x := ⟨_, rfl⟩
  have hn3 : l3.length ≤ l2.length + 3 := by rw [← hl3, List.length_append]; have hq : (if kn ≠ 1 then numL q else []).length ≤ 3 := (by split; exact numL_len fq.2; simp); omega
  have hR3 := HR2.out
  rw [hl3] at hR3 ⊢
  have HR3 := Lib.hid hR3; have HX3 := Lib.hid hX
  have y0 := (HbO.out.ext hX).x0; have y1 := (HbO.out.ext hX).x1; have y2 := (HbO.out.ext hX).x2; have y3 := (HbO.out.ext hX).x3; have y4 := (HbO.out.ext hX).x4; have y5 := (HbO.out.ext hX).x5
  clear hX hR3 HR2 HX2 hl3
  go_upto_if 39 with fail
  go_cut [4] from 7 to 108 (fun s4 wx => s4 = .string ⟨(l3 ++ (if 0 < n1 then [32, 111, 110] else [])).toArray⟩ ∧ Ext wA wx)
  case first =>
    by_cases hc : 0 < n1
    · have HC := Lib.hid hc
      have q1 : (0 : Int) < (n1 : Int) := by omega
      have q2 : decide ((0 : Int) < (n1 : Int)) = true := dt q1
      clear hc
      go_wp2_with fail
      go_meet
      exact ⟨congrArg Value.string ((ba_add l3 [32, 111, 110]).trans (by rw [if_pos HC.out])), HX3.out⟩
    · have HC := Lib.hid hc
      have q1 : ¬ (0 : Int) < (n1 : Int) := by omega
      have q2 : decide ((0 : Int) < (n1 : Int)) = false := df q1
      clear hc
      go_wp2_with fail
      go_meet
      exact ⟨by rw [if_neg HC.out]; simp, HX3.out⟩
  case rest =>
  obtain ⟨rfl, hX⟩ := hcut
  obtain ⟨l4, hl4⟩ : ∃ x : List UInt8, l3 ++ (if 0 < n1 then [32, 111, 110] else []) = x := ⟨_, rfl⟩
  have hn4 : l4.length ≤ l3.length + 3 := by rw [← hl4, List.length_append]; have hq : (if 0 < n1 then [32, 111, 110] else ([] : List UInt8)).length ≤ 3 := (by split <;> simp); omega
  have hR4 := HR3.out
  rw [hl4] at hR4 ⊢
  have HR4 := Lib.hid hR4; have HX4 := Lib.hid hX
  have y0 := (HbO.out.ext hX).x0; have y1 := (HbO.out.ext hX).x1; have y2 := (HbO.out.ext hX).x2; have y3 := (HbO.out.ext hX).x3; have y4 := (HbO.out.ext hX).x4; have y5 := (HbO.out.ext hX).x5
  clear hX hR4 HR3 HX3 hl4
  go_wp2_with fail
  go_loopg [4, 5] n1 (fun kk s4 sx wx => ∃ i : Nat, sx = .int .i64 (i : Int) ∧ i ≤ n1 ∧ n1 - i = kk ∧ s4 = .string ⟨(l4 ++ (ctl.take i).flatMap numL).toArray⟩ ∧ Ext wA wx)
  case atStart => exact ⟨0, rfl, by omega, by omega, by simp, HX4.out⟩
  case round =>
  obtain ⟨i, rfl, hi1, hk, rfl, hX⟩ := hrel
  have y0 := (HbO.out.ext hX).x0; have y1 := (HbO.out.ext hX).x1; have y2 := (HbO.out.ext hX).x2; have y3 := (HbO.out.ext hX).x3; have y4 := (HbO.out.ext hX).x4; have y5 := (HbO.out.ext hX).x5
  clear HX4
  have hlf := flat_len numL 3 (ctl.take i) (fun y hy => (fun h => numL_len h.2) (Hctl.out y (List.mem_of_mem_take hy)))
  have htk : (ctl.take i).length ≤ n1 := by rw [List.length_take, Hl1.out]; omega
  by_cases hin : i < n1
  · have h2 : (i : Int) < (n1 : Int) := by omega
    have h0 : (0 : Int) ≤ (i : Int) := by omega
    obtain ⟨b', o', rfl, hbl, hcell⟩ := (HL.out.i1.ext hX).at (by omega)
    have hci := hcell i (by omega)
    have hil : i < ctl.length := by rw [Hl1.out]; omega
    have hfs := flat_snoc numL ctl i hil
    have hm := Hctl.out _ (getD_mem' hil)
    obtain ⟨x, hx⟩ : ∃ x, ctl.getD i 0 = x := ⟨_, rfl⟩
    rw [hx] at hci hfs hm
    obtain ⟨lx, hlx⟩ : ∃ z, l4 ++ (ctl.take i).flatMap numL = z := ⟨_, rfl⟩
    have hlxn : lx.length ≤ 400 := by rw [← hlx, List.length_append]; omega
    have Hfs : Hid (l4 ++ (ctl.take (i + 1)).flatMap numL = lx ++ numL x) := by show _ = _; rw [hfs, ← hlx, List.append_assoc]
    rw [hlx]
    have HXr := Lib.hid hX
    clear hx hfs hcell hX hlf htk hlx
    obtain ⟨D, hD⟩ : ∃ z, Lib.decDigits (x).toNat = z := ⟨_, rfl⟩
    have hDl : D.length ≤ 2 := by rw [← hD]; exact dd_len (by omega)
    have HN := Lib.hid (fun wx => num_any (x) wx hm.1 hm.2)
    rw [hD] at HN
    have HD := Lib.hid hD
    clear hD
    go_wp2_with fail
    refine (HN.out _).mono ?_
    rintro e w2 ⟨rfl, hx2⟩
    have H2 := Lib.hid (HXr.out.trans hx2)
    clear hx2
    go_wp2_with fail
    go_roundg (n1 - (i + 1))
    case measure => omega
    case rel => exact ⟨i + 1, by go_num, by omega, rfl, congrArg Value.string ((ba_num lx HD.out).trans (by rw [Hfs.out])), H2.out⟩
  have hin2 : ¬ (i : Int) < (n1 : Int) := by omega
  rw [List.take_of_length_le (by rw [Hl1.out]; omega)] at hlf ⊢
  clear hin hi1 hk htk
  obtain ⟨l5, hl5⟩ : ∃ z : List UInt8, l4 ++ ctl.flatMap numL = z := ⟨_, rfl⟩
  have hn5 : l5.length ≤ l4.length + 3 * ctl.length := by rw [← hl5, List.length_append]; omega
  have hR5 := HR4.out
  rw [hl5] at hR5 ⊢
  have HR5 := Lib.hid hR5; have HX5 := Lib.hid hX
  clear hX hR5 HR4 hl5 hlf
  go_upto_if 60 with fail
  go_cut [4] from 7 to 108 (fun s4 wx => s4 = .string ⟨(l5 ++ (if kn = 5 then [32, 116, 111] ++ numL bt else [])).toArray⟩ ∧ Ext wA wx)
  case first =>
    by_cases hc : kn = 5
    · have HC := Lib.hid hc
      have q1 := bt' (show (kn : Int) = 5 by omega)
      clear hc
      obtain ⟨D, hD⟩ : ∃ x, Lib.decDigits (bt).toNat = x := ⟨_, rfl⟩
      have hDl : D.length ≤ 2 := by rw [← hD]; exact dd_len (by omega)
      have HN := Lib.hid (fun wx => num_any bt wx fbt.1 fbt.2)
      rw [hD] at HN
      have HD := Lib.hid hD
      clear hD
      go_wp2_with fail
      refine (HN.out _).mono ?_
      rintro e w2 ⟨rfl, hx2⟩
      have H2 := Lib.hid (HX5.out.trans hx2)
      clear hx2
      go_wp2_with fail
      go_meet
      exact ⟨congrArg Value.string ((ba_to l5 HD.out).trans (by rw [if_pos HC.out])), H2.out⟩
    · have HC := Lib.hid hc
      have q1 := bf (show ¬ (kn : Int) = 5 by omega)
      clear hc
      go_wp2_with fail
      go_meet
      exact ⟨by rw [if_neg HC.out]; simp, HX5.out⟩
  case rest =>
  obtain ⟨rfl, hX⟩ := hcut
  obtain ⟨l6, hl6⟩ : ∃ x : List UInt8, l5 ++ (if kn = 5 then [32, 116, 111] ++ numL bt else []) = x := ⟨_, rfl⟩
  have hn6 : l6.length ≤ l5.length + 6 := by rw [← hl6, List.length_append]; have hq : (if kn = 5 then [32, 116, 111] ++ numL bt else []).length ≤ 6 := (by split; have := numL_len fbt.2; simp; omega; simp); omega
  have hR6 := HR5.out
  rw [hl6] at hR6 ⊢
  have HR6 := Lib.hid hR6; have HX6 := Lib.hid hX
  have y0 := (HbO.out.ext hX).x0; have y1 := (HbO.out.ext hX).x1; have y2 := (HbO.out.ext hX).x2; have y3 := (HbO.out.ext hX).x3; have y4 := (HbO.out.ext hX).x4; have y5 := (HbO.out.ext hX).x5
  clear hX hR6 HR5 HX5 hl6
  go_upto_if 70 with fail
  go_cut [4] from 7 to 108 (fun s4 wx => s4 = .string ⟨(l6 ++ (if 0 < n2 then [32, 105, 102] else [])).toArray⟩ ∧ Ext wA wx)
  case first =>
    by_cases hc : 0 < n2
    · have HC := Lib.hid hc
      have q1 : (0 : Int) < (n2 : Int) := by omega
      have q2 : decide ((0 : Int) < (n2 : Int)) = true := dt q1
      clear hc
      go_wp2_with fail
      go_meet
      exact ⟨congrArg Value.string ((ba_add l6 [32, 105, 102]).trans (by rw [if_pos HC.out])), HX6.out⟩
    · have HC := Lib.hid hc
      have q1 : ¬ (0 : Int) < (n2 : Int) := by omega
      have q2 : decide ((0 : Int) < (n2 : Int)) = false := df q1
      clear hc
      go_wp2_with fail
      go_meet
      exact ⟨by rw [if_neg HC.out]; simp, HX6.out⟩
  case rest =>
  obtain ⟨rfl, hX⟩ := hcut
  obtain ⟨l7, hl7⟩ : ∃ x : List UInt8, l6 ++ (if 0 < n2 then [32, 105, 102] else []) = x := ⟨_, rfl⟩
  have hn7 : l7.length ≤ l6.length + 3 := by rw [← hl7, List.length_append]; have hq : (if 0 < n2 then [32, 105, 102] else ([] : List UInt8)).length ≤ 3 := (by split <;> simp); omega
  have hR7 := HR6.out
  rw [hl7] at hR7 ⊢
  have HR7 := Lib.hid hR7; have HX7 := Lib.hid hX
  have y0 := (HbO.out.ext hX).x0; have y1 := (HbO.out.ext hX).x1; have y2 := (HbO.out.ext hX).x2; have y3 := (HbO.out.ext hX).x3; have y4 := (HbO.out.ext hX).x4; have y5 := (HbO.out.ext hX).x5
  clear hX hR7 HR6 HX6 hl7
  go_wp2_with fail
  go_loopg [4, 6] n2 (fun kk s4 sx wx => ∃ i : Nat, sx = .int .i64 (i : Int) ∧ i ≤ n2 ∧ n2 - i = kk ∧ s4 = .string ⟨(l7 ++ (cnd.take i).flatMap cndL).toArray⟩ ∧ Ext wA wx)
  case atStart => exact ⟨0, rfl, by omega, by omega, by simp, HX7.out⟩
  case round =>
  obtain ⟨i, rfl, hi1, hk, rfl, hX⟩ := hrel
  have y0 := (HbO.out.ext hX).x0; have y1 := (HbO.out.ext hX).x1; have y2 := (HbO.out.ext hX).x2; have y3 := (HbO.out.ext hX).x3; have y4 := (HbO.out.ext hX).x4; have y5 := (HbO.out.ext hX).x5
  clear HX7
  have hlf := flat_len cndL 4 (cnd.take i) (fun y hy => (fun h => cndL_len h.2) (Hcnd.out y (List.mem_of_mem_take hy)))
  have htk : (cnd.take i).length ≤ n2 := by rw [List.length_take, Hl2.out]; omega
  by_cases hin : i < n2
  · have h2 : (i : Int) < (n2 : Int) := by omega
    have h0 : (0 : Int) ≤ (i : Int) := by omega
    obtain ⟨b', o', rfl, hbl, hcell⟩ := (HL.out.i2.ext hX).at (by omega)
    have hci := hcell i (by omega)
    have hil : i < cnd.length := by rw [Hl2.out]; omega
    have hfs := flat_snoc cndL cnd i hil
    have hm := Hcnd.out _ (getD_mem' hil)
    obtain ⟨x, hx⟩ : ∃ x, cnd.getD i 0 = x := ⟨_, rfl⟩
    rw [hx] at hci hfs hm
    obtain ⟨lx, hlx⟩ : ∃ z, l7 ++ (cnd.take i).flatMap cndL = z := ⟨_, rfl⟩
    have hlxn : lx.length ≤ 400 := by rw [← hlx, List.length_append]; omega
    have Hfs : Hid (l7 ++ (cnd.take (i + 1)).flatMap cndL = lx ++ cndL x) := by show _ = _; rw [hfs, ← hlx, List.append_assoc]
    rw [hlx]
    have HXr := Lib.hid hX
    clear hx hfs hcell hX hlf htk hlx
    by_cases hp : 0 < x
    · have q1 : decide (0 < x) = true := dt hp
      have hw1 : IntKind.i64.wrap (x - 1) = x - 1 := by rw [IntKind.wrap_i64]; omega
      have HCn : Hid (cndL x = numL (x - 1)) := by show _ = _; unfold cndL bitOf; rw [if_neg (by omega), if_pos hp]
      obtain ⟨D, hD⟩ : ∃ z, Lib.decDigits (x - 1).toNat = z := ⟨_, rfl⟩
      have hDl : D.length ≤ 2 := by rw [← hD]; exact dd_len (by omega)
      have HN := Lib.hid (fun wx => num_any (x - 1) wx (by omega) (by omega))
      rw [hD] at HN
      have HD := Lib.hid hD
      clear hD
      go_wp2_with fail
      refine (HN.out _).mono ?_
      rintro e w2 ⟨rfl, hx2⟩
      have H2 := Lib.hid (HXr.out.trans hx2)
      clear hx2
      go_wp2_with fail
      go_roundg (n2 - (i + 1))
      case measure => omega
      case rel => exact ⟨i + 1, by go_num, by omega, rfl, congrArg Value.string ((ba_num lx HD.out).trans (by rw [Hfs.out, HCn.out])), H2.out⟩
    · have q1 : decide (0 < x) = false := df hp
      have hw0 : IntKind.i64.wrap (-x) = -x := by rw [IntKind.wrap_i64]; omega
      have hw1 : IntKind.i64.wrap (-x - 1) = -x - 1 := by rw [IntKind.wrap_i64]; omega
      have HCn : Hid (cndL x = 32 :: 33 :: Lib.decDigits (-x - 1).toNat) := by show _ = _; unfold cndL bitOf; rw [if_pos (by omega), if_neg hp]
      obtain ⟨D, hD⟩ : ∃ z, Lib.decDigits (-x - 1).toNat = z := ⟨_, rfl⟩
      have hDl : D.length ≤ 2 := by rw [← hD]; exact dd_len (by omega)
      have HN := Lib.hid (fun wx => num_any (-x - 1) wx (by omega) (by omega))
      rw [hD] at HN
      have HD := Lib.hid hD
      clear hD
      go_wp2_with fail
      refine (HN.out _).mono ?_
      rintro e w2 ⟨rfl, hx2⟩
      have H2 := Lib.hid (HXr.out.trans hx2)
      clear hx2
      go_wp2_with fail
      go_roundg (n2 - (i + 1))
      case measure => omega
      case rel => exact ⟨i + 1, by go_num, by omega, rfl, congrArg Value.string ((ba_not lx HD.out).trans (by rw [Hfs.out, HCn.out])), H2.out⟩
  have hin2 : ¬ (i : Int) < (n2 : Int) := by omega
  rw [List.take_of_length_le (by rw [Hl2.out]; omega)] at hlf ⊢
  clear hin hi1 hk htk
  obtain ⟨l8, hl8⟩ : ∃ z : List UInt8, l7 ++ cnd.flatMap cndL = z := ⟨_, rfl⟩
  have hn8 : l8.length ≤ l7.length + 4 * cnd.length := by rw [← hl8, List.length_append]; omega
  have hR8 := HR7.out
  rw [hl8] at hR8 ⊢
  have HR8 := Lib.hid hR8; have HX8 := Lib.hid hX
  clear hX hR8 HR7 hl8 hlf
  rw [HR8.out]
  have hRl : R.length ≤ 400 := by rw [← HR8.out]; omega
  go_wp2_with fail
  go_ret
  exact ⟨congrArg (fun b => Ending.returned (Value.string b)) (ba_add R [10]), HE1.out.trans HX8.out⟩

end Go.Proofs.YtfjbhiihfibbaaaDoor

/-
  A slice of bytes made of a text: its row bears a mark behind its last cell; texts are put behind it.
-/
namespace Go.Proofs.YtfjbhiihfibbaaaDoor
open Go.RowKit

/-- No cell of the row is frozen. -/
def Clear (m : Nat) (fz : Nat × Nat) : Prop := fz = (0, 0) ∨ m ≤ fz.1

theorem clear_at {w : World} {g k m : Nat} {cur : Array Value} {t : TypeId} {fz : Nat × Nat} (hg : w.heap[g]? = some (.cells cur t fz)) (h : Clear m fz) (hk : k < m) : w.frozen? ⟨g, k, none⟩ = false := by
  simp only [World.frozen?, hg]
  rcases h with rfl | h
  · simp
  · have : decide (fz.1 ≤ k) = false := by simp; omega
    simp [this]

/-- Cells are written one behind the other into such a row. -/
theorem store_clear (P : Program) (g o : Nat) (t : TypeId) (fz : Nat × Nat) (m : Nat) (hc : Clear m fz) (vs : List Value) : ∀ (i : Nat) (cur : Array Value) (w : World), w.heap[g]? = some (.cells cur t fz) → cur.size = m → o + i + vs.length ≤ m → (∀ v ∈ vs, v.oneCell' = true) →
    (storeCells ⟨g, o, none⟩ vs i).run P w = .ok () (w.setRow g (cur.toList.take (o + i) ++ vs ++ cur.toList.drop (o + i + vs.length)).toArray) := by
  induction vs with
  | nil =>
    intro i cur w hg _ _ _
    have e : (cur.toList.take (o + i) ++ [] ++ cur.toList.drop (o + i + ([] : List Value).length)).toArray = cur := by
      rw [List.append_nil, List.length_nil, Nat.add_zero, List.take_append_drop, Array.toArray_toList]
    rw [e, setRow_self w g cur t fz hg]
    rfl
  | cons v r ih =>
    intro i cur w hg hm hl h1
    rw [List.length_cons] at hl
    have hlt : o + i < cur.size := by omega
    have ha : (⟨g, o, none⟩ : Addr).add i = ⟨g, o + i, none⟩ := by
      unfold Addr.add
      by_cases h : i = 0 <;> simp [h]
    have hce : w.cell? ⟨g, o + i, none⟩ = some cur[o + i] := by simp [World.cell?, hg, hlt]
    have hs : (store ((⟨g, o, none⟩ : Addr).add i) v).run P w = .ok () (w.setRow g (cur.setIfInBounds (o + i) v)) := by
      rw [ha, run_store P w _ v _ (h1 v (by simp)), hce]
      simp [clear_at hg hc (show o + i < m by omega), setCell_eq_setRow w g (o + i) cur t fz v hg]
    have hi := ih (i + 1) (cur.setIfInBounds (o + i) v) (w.setRow g (cur.setIfInBounds (o + i) v)) (setRow_heap w g cur _ t _ hg) (by simp [hm]) (by omega) (fun x hx => h1 x (by simp [hx]))
    simp only [storeCells, Sem.run_bind, hs, Result.andThen_ok, hi, setRow_setRow]
    congr 3
    have e := list_seg_step cur.toList (o + i) v r (by simp; omega)
    simpa [Array.toList_setIfInBounds, Nat.add_assoc] using e

/-- v is a slice of the bytes l, in a block of its own, from base on. -/
def OwB (w : World) (base : Nat) (v : Value) (l : List UInt8) : Prop :=
  ∃ g cap cur fz, v = .slice (some ⟨g, 0, none⟩) l.length cap ∧ base ≤ g ∧ w.heap[g]? = some (.cells cur 5 fz) ∧ Clear cap fz ∧ l.length ≤ cap ∧ cap ≤ maxLen ∧ cur.size = cap ∧ cur.toList.take l.length = byC l ∧ ∀ u ∈ cur.toList, ∃ x : Int, u = .int .u8 x

theorem OwB.ext {w w' : World} {base : Nat} {v : Value} {l : List UInt8} (h : OwB w base v l) (k : Ext w w') : OwB w' base v l := by
  obtain ⟨g, cap, cur, fz, h1, h2, h3, r⟩ := h
  exact ⟨g, cap, cur, fz, h1, h2, (k.block g (Array.getElem?_eq_some_iff.1 h3).1).trans h3, r⟩
theorem OwB.cells {w : World} {base : Nat} {v : Value} {l : List UInt8} (h : OwB w base v l) : ∃ a cap, v = .slice (some a) l.length cap ∧ ∀ j (hj : j < l.length), w.cell? (a.add j) = some (.int .u8 (l[j].toNat : Int)) := by
  obtain ⟨g, cap, cur, fz, rfl, _, hg, _, hle, _, hcs, ht, _⟩ := h
  refine ⟨_, _, rfl, fun j hj => ?_⟩
  have ha : (⟨g, 0, none⟩ : Addr).add j = ⟨g, j, none⟩ := by
    unfold Addr.add
    by_cases h : j = 0 <;> simp [h]
  rw [ha, cell_of_row w g j cur _ fz hg]
  have h1 : (cur.toList.take l.length)[j]? = (byC l)[j]? := by rw [ht]
  rw [List.getElem?_take, if_pos hj] at h1
  have h2 : (byC l)[j]? = some (.int .u8 (l[j].toNat : Int)) := by simp [byC, hj]
  rw [h2] at h1
  simpa using h1

/-- '[]byte(text)'. -/
theorem bytes_of (w : World) (l : List UInt8) (hb : l.length ≤ 140737488355328) :
    ∃ v w', (convert 9 76 (.string ⟨l.toArray⟩)).run Tryd.prog w = .ok v w' ∧ OwB w' w.heap.size v l ∧ Ext w w' := by
  have hr := run_bytes_of_string (P := Tryd.prog) w 9 76 5 ⟨l.toArray⟩ Tryd.underlying9 Tryd.underlying76 Tryd.underlying5
  have hs : (⟨l.toArray⟩ : ByteArray).size = l.length := by simp [ByteArray.size]
  rw [hs] at hr
  have hge := grownCap_ge w l.length 0 5
  have hcm : grownCap w l.length 0 5 ≤ maxLen := grownCap_le_maxLen w _ 0 5 (by unfold maxLen; omega)
  have hsz : (bytesRow ⟨l.toArray⟩ (grownCap w l.length 0 5)).size = grownCap w l.length 0 5 := by
    simp [bytesRow, hs]; omega
  have htl : (bytesRow ⟨l.toArray⟩ (grownCap w l.length 0 5)).toList = byC l ++ List.replicate (grownCap w l.length 0 5 - l.length) (.int .u8 0) := by
    simp [bytesRow, byC, hs]
  refine ⟨_, _, hr, ⟨w.heap.size, _, _, _, rfl, Nat.le_refl _, heap_alloc_new w.drew _, Or.inr (by rw [hsz]; exact Nat.le_refl _), hge, hcm, hsz, ?_, ?_⟩, ?_⟩
  · rw [htl, ← byC_length l]; exact List.take_left
  · intro u hu
    rw [htl, List.mem_append] at hu
    rcases hu with hu | hu
    · exact byC_u8 l u hu
    · exact ⟨0, List.eq_of_mem_replicate hu⟩
  · exact cthen (cdrew (Ext.refl w)) _

/-- A text is put behind it. -/
theorem append_ob (ty : TypeId) (w : World) (base : Nat) (v : Value) (l news : List UInt8) (hown : OwB w base v l) (hbw : base ≤ w.heap.size) (hb : l.length + news.length ≤ 140737488355328) :
    ∃ v' w', (Builtin.append_ #[76, 9] ty #[v, .string ⟨news.toArray⟩]).run Tryd.prog w = .ok v' w' ∧ OwB w' base v' (l ++ news) ∧ Below base w w' := by
  obtain ⟨i, hi, hz0, hz1, hz2⟩ := info_parts byte_info
  have hs : (⟨news.toArray⟩ : ByteArray).size = news.length := by simp [ByteArray.size]
  have hsc := strCells_byC news
  have hlc : (byC news).length = news.length := byC_length news
  obtain ⟨g, cap, cur, fz, rfl, hbg, hg, hcl, hlc', hcm, hcs, ht, hall⟩ := hown
  by_cases hroom : l.length + news.length ≤ cap
  · have hf := Lib.run_firstCells_string (P := Tryd.prog) w 1 ⟨news.toArray⟩
    have hst := store_clear Tryd.prog g l.length 5 fz cap hcl (byC news) 0 cur w hg hcs (by omega) (byC_one news)
    rw [hsc, hs] at hf
    rw [hlc] at hst
    have hr : (Builtin.append_ #[76, 9] ty #[.slice (some ⟨g, 0, none⟩) l.length cap, .string ⟨news.toArray⟩]).run Tryd.prog w = .ok (.slice (some ⟨g, 0, none⟩) (l.length + news.length) cap) (w.setRow g (cur.toList.take l.length ++ byC news ++ cur.toList.drop (l.length + news.length)).toArray) := by
      simp only [Nat.add_zero] at hst
      simp [Builtin.append_, run_underlying Tryd.underlying76, run_underlying Tryd.underlying9, sizeOf, typeInfo, hi, hz1, Builtin.lenOf, hs, hroom, hf, Addr.add_lit, hst]
    refine ⟨_, _, hr, ⟨g, cap, _, fz, by rw [List.length_append], hbg, setRow_heap w g cur _ _ _ hg, hcl, by rw [List.length_append]; exact hroom, hcm, ?_, ?_, ?_⟩, ?_⟩
    · simp only [List.size_toArray, List.length_append, List.length_take, List.length_drop, Array.length_toList, hlc]
      omega
    · rw [ht, byC_append, ← byC_length (l ++ news), byC_append]
      exact List.take_left
    · intro u hu
      simp only [List.mem_append] at hu
      rcases hu with (hu | hu) | hu
      · exact hall u (List.mem_of_mem_take hu)
      · exact byC_u8 news u hu
      · exact hall u (List.mem_of_mem_drop hu)
    · exact ⟨rfl, rfl, rfl, by simp, fun k hk => setRow_other w g k _ (by omega)⟩
  · have holds : ∀ j u, (byC l)[j]? = some u → w.cell? ((⟨g, 0, none⟩ : Addr).add j) = some u := by
      intro j u hu
      have ha : (⟨g, 0, none⟩ : Addr).add j = ⟨g, j, none⟩ := by
        unfold Addr.add
        by_cases h : j = 0 <;> simp [h]
      rw [ha, cell_of_row w g j cur _ fz hg]
      rw [← ht, List.getElem?_take] at hu
      split at hu
      · simpa using hu
      · cases hu
    have hr := Lib.run_append_grow_string (P := Tryd.prog) w 76 9 ty 5 i (.int .u8 0) Tryd.underlying76 Tryd.underlying9 hi hz0 ⟨g, 0, none⟩ l.length cap (byC l) (by rw [byC_length, hz1, Nat.mul_one]) holds ⟨news.toArray⟩ (by rw [hs]; omega) (by rw [hs]; omega) (by rw [hs, hz2]; exact growslice_fits (by omega) (by omega))
    rw [hs, hsc] at hr
    obtain ⟨ho, ha⟩ := own_new w 5 l news cap (.slice (some ⟨g, 0, none⟩) l.length cap) hb
    refine ⟨_, _, hr, ?_, ?_⟩
    · rcases ho with ⟨hv, _⟩ | ⟨g', cap', cur', hv, hg', r1, r2, r3, r4, r5⟩
      · simp at hv
      · refine ⟨g', cap', cur', (0, 0), hv, ?_, hg', Or.inl rfl, r1, r2, r3, r4, r5⟩
        simp at hv
        omega
    · exact Below.alloc (Below.drew (Below.refl base w)) hbw _

theorem wpList_append_ob {ops : Array Oper} {rest : List Oper} {o : Oper} {a : Act} {Q : Exit → Act → World → Prop} (hgd : o.guard = none) (s x : Operand)
    (ho : o.op = .call { callee := .builtin .append, args := #[s, x], argTypes := #[76, 9] }) (w : World) (base : Nat) (v : Value) (l news : List UInt8) (hs : a.eval s = v) (hown : OwB w base v l) (hbw : base ≤ w.heap.size)
    (hx : a.eval x = .string ⟨news.toArray⟩) (hb : l.length + news.length ≤ 140737488355328)
    (h : ∀ v' w', OwB w' base v' (l ++ news) → Below base w w' → wpList Tryd.prog ops Q rest (a.put o.dst v') w') : wpList Tryd.prog ops Q (o :: rest) a w := by
  refine wpList_plain hgd fun _ hK => ?_
  obtain ⟨v', w', hr, h2, h3⟩ := append_ob o.type w base v l news hown hbw hb
  unfold Oper.wp execOp
  simp only [ho, resolve, invoke, builtin, Sem.run_bind, Sem.run_pure, Result.andThen_ok, List.map_toArray, List.map_cons, List.map_nil, hs, hx, hr]
  exact hK _ _ (h v' w' h2 h3)

/-- 'string(bytes)'. -/
theorem OwB.text {w : World} {base : Nat} {v : Value} {l : List UInt8} (h : OwB w base v l) : (convert 76 9 v).run Tryd.prog w = .ok (.string ⟨l.toArray⟩) w := by
  obtain ⟨a, cap, rfl, hc⟩ := h.cells
  exact run_convert_bytes_back (P := Tryd.prog) w 76 9 5 a cap l Tryd.underlying76 Tryd.underlying5 Tryd.underlying9 hc

end Go.Proofs.YtfjbhiihfibbaaaDoor

/-
  The reference's Print.
-/
namespace Go.Proofs.YtfjbhiihfibbaaaDoor
open Go.RowKit

theorem sadd (a b : List UInt8) (h : a.length + b.length ≤ 9223372036854775807) (W : World) : (Op.stringOp .add ⟨a.toArray⟩ ⟨b.toArray⟩).run Tryd.prog W = .ok (.string ⟨(a ++ b).toArray⟩) W := by
  rw [run_string_add_sum W _ _ (by simp [ByteArray.size]; omega), ba_add]

end Go.Proofs.YtfjbhiihfibbaaaDoor

/-
  The reference's SameInts and SameCircuit, of alike lists and circuits.
-/
namespace Go.Proofs.YtfjbhiihfibbaaaDoor
open Go.RowKit

set_option maxHeartbeats 1000000 in
theorem sameInts_any (l : List Int) (a1 : Option Addr) (n c1 : Nat) (a2 : Option Addr) (c2 : Nat) (w : World) (h1 : IntsAt w a1 n l) (h2 : IntsAt w a2 n l) (hc1 : n ≤ c1) (hm1 : c1 ≤ 9223372036854775807) :
    Calls Tryd.prog 20 #[.slice a1 n c1, .slice a2 n c2] w fun e w' => e = .returned (.bool true) ∧ Ext w w' := by
  have H1 := Lib.hid h1; have H2 := Lib.hid h2
  clear h1 h2
  go_enter Tryd.func20, Tryd.ntmps20
  go_wp2_with fail
  go_loopg [5] n (fun kk s5 wx => ∃ i : Nat, s5 = .int .i64 (i : Int) ∧ i ≤ n ∧ n - i = kk ∧ Ext w wx)
  case atStart => exact ⟨0, rfl, by omega, by omega, Ext.refl w⟩
  case round =>
    obtain ⟨i, rfl, hi1, hk, hE⟩ := hrel
    have HE := Lib.hid hE
    by_cases hin : i = n
    · have h2 : ¬ (i : Int) < (n : Int) := by omega
      clear hE
      go_wp2_with fail
      go_ret
      exact ⟨rfl, HE.out⟩
    · have h2 : (i : Int) < (n : Int) := by omega
      have h0 : (0 : Int) ≤ (i : Int) := by omega
      obtain ⟨b1, o1, rfl, hb1, hc1'⟩ := (H1.out.ext hE).at (by omega)
      obtain ⟨b2, o2, rfl, hb2, hc2'⟩ := (H2.out.ext hE).at (by omega)
      have e1 := hc1' i (by omega); have e2 := hc2' i (by omega)
      obtain ⟨x, hx⟩ : ∃ x, l.getD i 0 = x := ⟨_, rfl⟩
      rw [hx] at e1 e2
      have HEd := Lib.hid (cdrew hE)
      clear hE hc1' hc2' hx
      go_wp2_with fail
      go_region
      go_wp2_with fail
      go_roundg (n - (i + 1))
      case measure => omega
      case rel => exact ⟨i + 1, by go_num, by omega, rfl, HEd.out⟩

set_option maxHeartbeats 4000000 in
set_option maxRecDepth 100000 in
theorem sameCircuit_any (c : Gci) (a1 : Option Addr) (n c1 : Nat) (a2 : Option Addr) (c2 : Nat) (w : World) (h1 : OpsAt w a1 n c.ops) (h2 : OpsAt w a2 n c.ops) (hn1 : n ≤ c1) (hm1 : c1 ≤ 9223372036854775807) (_hn2 : n ≤ c2) (_hm2 : c2 ≤ 9223372036854775807) :
    Calls Tryd.prog 19 #[.agg #[.int .i64 c.qubits, .int .i64 c.bits, .slice a1 n c1], .agg #[.int .i64 c.qubits, .int .i64 c.bits, .slice a2 n c2]] w fun e w' => e = .returned (.bool true) ∧ Ext w w' := by
  obtain ⟨qb, bi, ops⟩ := c
  simp only at h1 h2 ⊢
  obtain ⟨A1, hA1⟩ : ∃ A1, w.alloc (.cells #[.int .i64 qb, .int .i64 bi, .slice a1 n c1] 24) = A1 := ⟨_, rfl⟩
  obtain ⟨A2, hA2⟩ : ∃ A2, A1.alloc (.cells #[.int .i64 qb, .int .i64 bi, .slice a2 n c2] 24) = A2 := ⟨_, rfl⟩
  have s1 : A1.heap.size = w.heap.size + 1 := by rw [← hA1]; simp
  have x1 : Ext w A1 := by rw [← hA1]; exact ext_al _ _
  have x2 : Ext A1 A2 := by rw [← hA2]; exact ext_al _ _
  have bC : CiB A2 w.heap.size qb bi a1 n c1 := by
    have : CiB A1 w.heap.size qb bi a1 n c1 := by rw [← hA1]; exact ⟨heap_alloc_new w _⟩
    exact this.ext x2
  have bD : CiB A2 (w.heap.size + 1) qb bi a2 n c2 := by rw [← hA2, ← s1]; exact ⟨heap_alloc_new A1 _⟩
  have hA : (w.alloc (.cells #[.int .i64 qb, .int .i64 bi, .slice a1 n c1] 24)).alloc (.cells #[.int .i64 qb, .int .i64 bi, .slice a2 n c2] 24) = A2 := by rw [hA1, hA2]
  have E0 := x1.trans x2
  have m0 := bC.x0; have m1 := bC.x1; have m2 := bC.x2; have k0 := bD.x0; have k1 := bD.x1; have k2 := bD.x2
  rw [← hA] at m0 m1 m2 k0 k1 k2
  have HA := Lib.hid hA; have HC := Lib.hid bC; have HD := Lib.hid bD; have HE0 := Lib.hid E0
  have H1 := Lib.hid h1; have H2 := Lib.hid h2; have Hl := Lib.hid h1.1
  clear h1 h2 hA1 hA2 s1 x1 x2 bC bD hA E0
  go_enter Tryd.func19, Tryd.ntmps19
  go_wp2_with fail
  rw [HA.out]
  clear m0 m1 m2 k0 k1 k2
  go_loopg [5] n (fun kk s5 wx => ∃ i : Nat, s5 = .int .i64 (i : Int) ∧ i ≤ n ∧ n - i = kk ∧ Ext A2 wx)
  case atStart => exact ⟨0, rfl, by omega, by omega, Ext.refl A2⟩
  case round =>
    obtain ⟨i, rfl, hi1, hk, hE⟩ := hrel
    have m2 := (HC.out.ext hE).x2; have k2 := (HD.out.ext hE).x2
    by_cases hin : i = n
    · have h2 : ¬ (i : Int) < (n : Int) := by omega
      have HE := Lib.hid (HE0.out.trans hE)
      clear hE
      go_wp2_with fail
      go_ret
      exact ⟨rfl, HE.out⟩
    · have h2 : (i : Int) < (n : Int) := by omega
      have h0 : (0 : Int) ≤ (i : Int) := by omega
      obtain ⟨b, o, rfl⟩ := H1.out.some_of (by omega)
      obtain ⟨b', o', rfl⟩ := H2.out.some_of (by omega)
      obtain ⟨g, hg⟩ : ∃ g, ops[i]? = some g := ⟨_, List.getElem?_eq_getElem (by rw [Hl.out]; omega)⟩
      obtain ⟨p1, q1, r1, p2, q2, r2, e0, e1, e2, e3, e4, e5, hL⟩ := ((H1.out.ext HE0.out).ext hE).at i g hg
      obtain ⟨p1', q1', r1', p2', q2', r2', d0, d1, d2, d3, d4, d5, hL'⟩ := ((H2.out.ext HE0.out).ext hE).at i g hg
      have hq1 := hL.i1.1.symm.trans hL'.i1.1; have hq2 := hL.i2.1.symm.trans hL'.i2.1
      subst hq1; subst hq2
      have Ea := ext_al wr (.cells #[.int .i64 g.kind, .int .i64 g.k, .slice p1 q1 r1, .int .i64 g.q, .int .i64 g.bit, .slice p2 q2 r2] 58)
      have bO := opbx_new wr g.kind g.k p1 q1 r1 g.q g.bit p2 q2 r2
      obtain ⟨X1, hX1⟩ : ∃ X, wr.alloc (.cells #[.int .i64 g.kind, .int .i64 g.k, .slice p1 q1 r1, .int .i64 g.q, .int .i64 g.bit, .slice p2 q2 r2] 58) = X := ⟨_, rfl⟩
      have sX : X1.heap.size = wr.heap.size + 1 := by rw [← hX1]; simp
      rw [hX1] at Ea bO
      have Eb := ext_al X1 (.cells #[.int .i64 g.kind, .int .i64 g.k, .slice p1' q1 r1', .int .i64 g.q, .int .i64 g.bit, .slice p2' q2 r2'] 58)
      have bP := opbx_new X1 g.kind g.k p1' q1 r1' g.q g.bit p2' q2 r2'
      rw [sX] at bP
      obtain ⟨X2, hX2⟩ : ∃ X, X1.alloc (.cells #[.int .i64 g.kind, .int .i64 g.k, .slice p1' q1 r1', .int .i64 g.q, .int .i64 g.bit, .slice p2' q2 r2'] 58) = X := ⟨_, rfl⟩
      rw [hX2] at Eb bP
      have bO2 := bO.ext Eb
      have EX := Ea.trans Eb
      have HXX : Hid ((wr.alloc (.cells #[.int .i64 g.kind, .int .i64 g.k, .slice p1 q1 r1, .int .i64 g.q, .int .i64 g.bit, .slice p2 q2 r2] 58)).alloc (.cells #[.int .i64 g.kind, .int .i64 g.k, .slice p1' q1 r1', .int .i64 g.q, .int .i64 g.bit, .slice p2' q2 r2'] 58) = X2) := by show _ = _; rw [hX1, hX2]
      have d0' := cell_ext d0 Ea; have d1' := cell_ext d1 Ea; have d2' := cell_ext d2 Ea; have d3' := cell_ext d3 Ea; have d4' := cell_ext d4 Ea; have d5' := cell_ext d5 Ea
      have k2' := cell_ext k2 Ea
      rw [← hX1] at d0' d1' d2' d3' d4' d5' k2'
      have HS1 := Lib.hid (fun wx (hx : Ext X2 wx) => sameInts_any g.ctl p1 q1 r1 p1' r1' wx ((hL.i1.ext EX).ext hx) ((hL'.i1.ext EX).ext hx) hL.h1 hL.m1)
      have HS2 := Lib.hid (fun wx (hx : Ext X2 wx) => sameInts_any g.cnd p2 q2 r2 p2' r2' wx ((hL.i2.ext EX).ext hx) ((hL'.i2.ext EX).ext hx) hL.h2 hL.m2)
      obtain ⟨kd, kk', ctl, qq, bb, cnd⟩ := g
      simp only at e0 e1 e2 e3 e4 e5 d0' d1' d2' d3' d4' d5' k2' bO2 bP HXX HS1 HS2
      have p_0 := bO2.x0; have p_1 := bO2.x1; have p_2 := bO2.x2; have p_3 := bO2.x3; have p_4 := bO2.x4; have p_5 := bO2.x5
      have q_0 := bP.x0; have q_1 := bP.x1; have q_2 := bP.x2; have q_3 := bP.x3; have q_4 := bP.x4; have q_5 := bP.x5
      rw [← HXX.out] at p_0 p_1 p_2 p_3 p_4 p_5 q_0 q_1 q_2 q_3 q_4 q_5
      have HbO := Lib.hid bO2; have HbP := Lib.hid bP
      have HEX := Lib.hid (hE.trans EX)
      clear hg hL hL' d0 d1 d2 d3 d4 d5 Ea Eb bO bP bO2 hX1 hX2 sX EX hE k2
      go_wp2_with fail
      rw [HXX.out]
      refine (HS1.out X2 (Ext.refl X2)).mono ?_
      rintro e w5 ⟨rfl, hx5⟩
      have p_5 := (HbO.out.ext hx5).x5; have q_5 := (HbP.out.ext hx5).x5
      have HX5 := Lib.hid hx5
      clear hx5
      go_wp2_with fail
      refine (HS2.out w5 HX5.out).mono ?_
      rintro e w6 ⟨rfl, hx6⟩
      have HE6 := Lib.hid ((HEX.out.trans HX5.out).trans hx6)
      clear hx6
      go_wp2_with fail
      go_roundg (n - (i + 1))
      case measure => omega
      case rel => exact ⟨i + 1, by go_num, by omega, rfl, HE6.out⟩

end Go.Proofs.YtfjbhiihfibbaaaDoor
