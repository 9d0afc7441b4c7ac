/-
  The reference's texts of numbers and operations.
-/
import Derived.Test.YtpabafioofhklaaDoorMBz
import Derived.Test.YtpabafioofhklaaDoorMZT
import Derived.Test.YtpabafioofhklaaDoorMZO

namespace Go.Proofs.YtpabafioofhklaaDoor
open Go.RowKit

theorem ba_add (a b : List UInt8) : (⟨a.toArray⟩ : ByteArray) ++ ⟨b.toArray⟩ = ⟨(a ++ b).toArray⟩ := by
  apply ByteArray.ext
  simp [ByteArray.data_append]
theorem ba_num (l : List UInt8) {D : List UInt8} {v : Int} (h : Lib.decDigits v.toNat = D) : (⟨l.toArray⟩ : ByteArray) ++ ((⟨#[32]⟩ : ByteArray) ++ ⟨D.toArray⟩) = ⟨(l ++ numL v).toArray⟩ := by
  rw [show (⟨#[32]⟩ : ByteArray) = ⟨[32].toArray⟩ from rfl, ba_add, ba_add, ← h]; rfl
theorem ba_to (l : List UInt8) {D : List UInt8} {v : Int} (h : Lib.decDigits v.toNat = D) : (⟨l.toArray⟩ : ByteArray) ++ ((⟨#[32, 116, 111, 32]⟩ : ByteArray) ++ ⟨D.toArray⟩) = ⟨(l ++ ([32, 116, 111] ++ numL v)).toArray⟩ := by
  rw [show (⟨#[32, 116, 111, 32]⟩ : ByteArray) = ⟨[32, 116, 111, 32].toArray⟩ from rfl, ba_add, ba_add, ← h]; rfl
theorem ba_not (l : List UInt8) {D : List UInt8} {v : Int} (h : Lib.decDigits v.toNat = D) : (⟨l.toArray⟩ : ByteArray) ++ ((⟨#[32, 33]⟩ : ByteArray) ++ ⟨D.toArray⟩) = ⟨(l ++ (32 :: 33 :: Lib.decDigits v.toNat)).toArray⟩ := by
  rw [show (⟨#[32, 33]⟩ : ByteArray) = ⟨[32, 33].toArray⟩ from rfl, ba_add, ba_add, ← h]; rfl
theorem ba_of (s : ByteArray) : s = ⟨s.data.toList.toArray⟩ := by
  cases s; simp

set_option maxHeartbeats 400000 in
theorem num_any (i : Int) (w : World) (h0 : 0 ≤ i) (hi : i < 100) :
    Calls Tryd.prog 33 #[.int .i64 i] w fun e w' => e = .returned (.string ⟨(Lib.decDigits i.toNat).toArray⟩) ∧ Ext w w' := by
  have hd : Lib.itoa i = Lib.decDigits i.toNat := by unfold Lib.itoa; rw [if_neg (by omega)]
  go_enter Tryd.func33, Tryd.ntmps33
  go_wp2_with fail
  refine (ZOf_any i (by omega) (by omega) w).mono ?_
  rintro e w1 ⟨b', a', n', c', rfl, hI, hn, hx⟩
  have HT := Lib.hid (ZText_any b' a' n' c' i w1 hI (by omega))
  rw [hd] at HT
  have HX := Lib.hid hx
  clear hx hI hd
  go_wp2_with fail
  refine HT.out.mono ?_
  rintro e w2 ⟨rfl, hx2⟩
  have HX2 := Lib.hid (HX.out.trans hx2)
  clear hx2
  go_wp2_with fail
  go_ret
  exact ⟨rfl, HX2.out⟩

set_option maxHeartbeats 4000000 in
set_option maxRecDepth 100000 in
theorem opText_any (o : Gop) (a1 : Option Addr) (n1 c1 : Nat) (a2 : Option Addr) (n2 c2 : Nat) (w : World) (hL : OpL w o a1 n1 c1 a2 n2 c2) (hf : PrFit o) :
    Calls Tryd.prog 34 #[.agg #[.int .i64 o.kind, .int .i64 o.k, .slice a1 n1 c1, .int .i64 o.q, .int .i64 o.bit, .slice a2 n2 c2]] w fun e w' => e = .returned (.string ⟨(prnOp o ++ [10]).toArray⟩) ∧ Ext w w' := by
  obtain ⟨R, hR⟩ : ∃ R, prnOp o = R := ⟨_, rfl⟩
  rw [hR]
  obtain ⟨kd, k, ctl, q, bt, cnd⟩ := o
  obtain ⟨fkd, fk, fq, fbt, fctl, ffew, fcnd, fcfew⟩ := hf
  simp only at fkd fk fq fbt fctl ffew fcnd fcfew hL
  obtain ⟨kn, rfl⟩ : ∃ kn : Nat, kd = (kn : Int) := ⟨kd.toNat, by omega⟩
  have i0 : (0 : Int) ≤ (kn : Int) := by omega
  have i1 : (kn : Int) < 7 := by omega
  unfold prnOp at hR
  simp only at hR
  have hR0 : (Int.toNat (kn : Int)) = kn := by omega
  rw [hR0] at hR
  have uK : (usesK (kn : Int) = true ↔ kn = 1 ∨ kn = 4) := by
    unfold usesK
    simp only [Bool.or_eq_true, beq_iff_eq]
    omega
  have uQ : (usesQ (kn : Int) = true ↔ kn ≠ 1) := by
    unfold usesQ
    constructor
    · intro h e
      rw [bt' (show (kn : Int) = 1 by omega)] at h
      exact absurd h (by decide)
    · intro h
      rw [bf (show ¬ (kn : Int) = 1 by omega)]
      rfl
  have uB : (usesB (kn : Int) = true ↔ kn = 5) := by
    unfold usesB
    constructor
    · intro h
      have : (kn : Int) = 5 := by simpa using h
      omega
    · intro h
      exact bt' (show (kn : Int) = 5 by omega)
  have bx := opbx_new w (kn : Int) k a1 n1 c1 q bt a2 n2 c2
  have m0 := bx.x0
  have EA := (ext_al w (.cells #[.int .i64 (kn : Int), .int .i64 k, .slice a1 n1 c1, .int .i64 q, .int .i64 bt, .slice a2 n2 c2] 45))
  have EB := ext_al (w.alloc (.cells #[.int .i64 (kn : Int), .int .i64 k, .slice a1 n1 c1, .int .i64 q, .int .i64 bt, .slice a2 n2 c2] 45)) (.cells #[.string ⟨#[]⟩, .string ⟨#[112, 104, 97, 115, 101]⟩, .string ⟨#[120]⟩, .string ⟨#[104]⟩, .string ⟨#[112]⟩, .string ⟨#[109, 101, 97, 115, 117, 114, 101]⟩, .string ⟨#[114, 101, 115, 101, 116]⟩] 9)
  have bxB := bx.ext EB
  have hrow : ((w.alloc (.cells #[.int .i64 (kn : Int), .int .i64 k, .slice a1 n1 c1, .int .i64 q, .int .i64 bt, .slice a2 n2 c2] 45)).alloc (.cells #[.string ⟨#[]⟩, .string ⟨#[112, 104, 97, 115, 101]⟩, .string ⟨#[120]⟩, .string ⟨#[104]⟩, .string ⟨#[112]⟩, .string ⟨#[109, 101, 97, 115, 117, 114, 101]⟩, .string ⟨#[114, 101, 115, 101, 116]⟩] 9)).heap[w.heap.size + 1]? = some (.cells #[.string ⟨#[]⟩, .string ⟨#[112, 104, 97, 115, 101]⟩, .string ⟨#[120]⟩, .string ⟨#[104]⟩, .string ⟨#[112]⟩, .string ⟨#[109, 101, 97, 115, 117, 114, 101]⟩, .string ⟨#[114, 101, 115, 101, 116]⟩] 9 (0, 0)) := by
    have := heap_alloc_new (w.alloc (.cells #[.int .i64 (kn : Int), .int .i64 k, .slice a1 n1 c1, .int .i64 q, .int .i64 bt, .slice a2 n2 c2] 45)) (.cells #[.string ⟨#[]⟩, .string ⟨#[112, 104, 97, 115, 101]⟩, .string ⟨#[120]⟩, .string ⟨#[104]⟩, .string ⟨#[112]⟩, .string ⟨#[109, 101, 97, 115, 117, 114, 101]⟩, .string ⟨#[114, 101, 115, 101, 116]⟩] 9)
    simpa using this
  have z0 : ((w.alloc (.cells #[.int .i64 (kn : Int), .int .i64 k, .slice a1 n1 c1, .int .i64 q, .int .i64 bt, .slice a2 n2 c2] 45)).alloc (.cells #[.string ⟨#[]⟩, .string ⟨#[112, 104, 97, 115, 101]⟩, .string ⟨#[120]⟩, .string ⟨#[104]⟩, .string ⟨#[112]⟩, .string ⟨#[109, 101, 97, 115, 117, 114, 101]⟩, .string ⟨#[114, 101, 115, 101, 116]⟩] 9)).cell? ⟨w.heap.size + 1, kn, none⟩ = some (.string (wordOf kn)) := by
    rw [cell_of_row _ _ kn _ _ (0, 0) hrow]
    have : kn = 1 ∨ kn = 2 ∨ kn = 3 ∨ kn = 4 ∨ kn = 5 ∨ kn = 6 := by omega
    rcases this with rfl | rfl | rfl | rfl | rfl | rfl <;> rfl
  have y0 := bxB.x0
  obtain ⟨wl, hwl⟩ : ∃ x, (wordOf kn).data.toList = x := ⟨_, rfl⟩
  have hwd : wordOf kn = ⟨wl.toArray⟩ := by rw [← hwl, ← ba_of]
  rw [hwd] at z0
  rw [hwl] at hR
  have hw7 : wl.length ≤ 7 := by
    rw [← hwl]
    have : kn = 1 ∨ kn = 2 ∨ kn = 3 ∨ kn = 4 ∨ kn = 5 ∨ kn = 6 := by omega
    rcases this with rfl | rfl | rfl | rfl | rfl | rfl <;> decide
  have HE1 := Lib.hid (EA.trans EB); have HL := Lib.hid (hL.ext (EA.trans EB)); have HbO := Lib.hid bxB
  have HR := Lib.hid hR; have Hctl := Lib.hid fctl; have Hcnd := Lib.hid fcnd
  have hq1 : n1 ≤ 12 := by rw [← hL.i1.1]; exact ffew
  have hq2 : n2 ≤ 24 := by rw [← hL.i2.1]; exact fcfew
  have Hl1 := Lib.hid hL.i1.1; have Hl2 := Lib.hid hL.i2.1
  have hw9 := HbO.out.lt
  have UK := Lib.hid uK; have UQ := Lib.hid uQ; have UB := Lib.hid uB
  clear hR0 hwd hwl bx bxB hR hL EA EB hrow fctl fcnd fkd uK uQ uB
  go_enter Tryd.func34, Tryd.ntmps34
  go_upto_region 3 with fail
  generalize (w.alloc (.cells #[.int .i64 (kn : Int), .int .i64 k, .slice a1 n1 c1, .int .i64 q, .int .i64 bt, .slice a2 n2 c2] 45)).alloc (.cells #[.string ⟨#[]⟩, .string ⟨#[112, 104, 97, 115, 101]⟩, .string ⟨#[120]⟩, .string ⟨#[104]⟩, .string ⟨#[112]⟩, .string ⟨#[109, 101, 97, 115, 117, 114, 101]⟩, .string ⟨#[114, 101, 115, 101, 116]⟩] 9) = W1 at *
  clear m0 z0
  have y1 := HbO.out.x1; have y2 := HbO.out.x2; have y3 := HbO.out.x3; have y4 := HbO.out.x4; have y5 := HbO.out.x5
  go_cut [20] from 7 to 108 (fun s20 wx => s20 = .bool (decide (kn = 1 ∨ kn = 4)) ∧ wx = W1)
  case first =>
    by_cases k1 : kn = 1
    · have q1 : ((kn : Int) == 1) = true := bt' (by omega)
      have q3 : decide (kn = 1 ∨ kn = 4) = true := dt (Or.inl k1)
      have Q3 := Lib.hid q3
      clear k1 q3
      go_wp2_with fail
      go_meet
      exact ⟨by rw [Q3.out], rfl⟩
    · have q1 : ((kn : Int) == 1) = false := bf (by omega)
      have q2 : ((kn : Int) == 4) = decide (kn = 1 ∨ kn = 4) := by
        by_cases k4 : kn = 4
        · rw [bt' (show (kn : Int) = 4 by omega), dt (Or.inr k4)]
        · rw [bf (show ¬ (kn : Int) = 4 by omega), df (by omega)]
      have Q2 := Lib.hid q2
      clear k1 q2
      go_wp2_with fail
      go_meet
      exact ⟨by rw [Q2.out], rfl⟩
  case rest =>
  obtain ⟨rfl, rfl⟩ := hcut
  have hR1 := HR.out
  have e1 : (if usesK (kn : Int) then numL k else []) = (if decide (kn = 1 ∨ kn = 4) = true then numL k else []) := by
    by_cases h : usesK (kn : Int) = true
    · rw [if_pos h, if_pos (dt (UK.out.1 h))]
    · rw [if_neg h, if_neg (by simpa using fun e => h (UK.out.2 e))]
  rw [e1] at hR1
  obtain ⟨uk, huk⟩ : ∃ x, decide (kn = 1 ∨ kn = 4) = x := ⟨_, rfl⟩
  rw [huk] at hR1 ⊢
  have HR1 := Lib.hid hR1
  clear e1 hR1 HR huk UK
  go_upto_if 20 with fail
  generalize wc = wA at *
  have HX1 := Lib.hid (Ext.refl wA)
  obtain ⟨l1, hl1⟩ : ∃ x : List UInt8, wl = x := ⟨_, rfl⟩
  rw [hl1] at HR1 hw7 ⊢
  have hn1 : l1.length ≤ 7 := hw7
  clear hl1 hw7
  go_cut [4] from 7 to 108 (fun s4 wx => s4 = .string ⟨(l1 ++ (if uk = true then numL k else [])).toArray⟩ ∧ Ext wA wx)
  case first =>
    cases uk
    · go_wp2_with fail
      go_meet
      exact ⟨by simp, HX1.out⟩
    · obtain ⟨D, hD⟩ : ∃ x, Lib.decDigits (k).toNat = x := ⟨_, rfl⟩
      have hDl : D.length ≤ 2 := by rw [← hD]; exact dd_len (by omega)
      have HN := Lib.hid (fun wx => num_any k wx fk.1 fk.2)
      rw [hD] at HN
      have HD := Lib.hid hD
      clear hD
      go_wp2_with fail
      refine (HN.out _).mono ?_
      rintro e w2 ⟨rfl, hx2⟩
      have H2 := Lib.hid (HX1.out.trans hx2)
      clear hx2
      go_wp2_with fail
      go_meet
      exact ⟨congrArg Value.string ((ba_num l1 HD.out).trans (by simp)), H2.out⟩
  case rest =>
  obtain ⟨rfl, hX⟩ := hcut
  obtain ⟨l2, hl2⟩ : ∃ x : List UInt8, l1 ++ (if uk = true then numL k else []) = x := ⟨_, rfl⟩
  have hn2 : l2.length ≤ l1.length + 3 := by rw [← hl2, List.length_append]; have hq : (if uk = true then numL k else []).length ≤ 3 := (by split; exact numL_len fk.2; simp); omega
  have hR2 := HR1.out
  rw [hl2] at hR2 ⊢
  have HR2 := Lib.hid hR2; have HX2 := Lib.hid hX
  have y0 := (HbO.out.ext hX).x0; have y1 := (HbO.out.ext hX).x1; have y2 := (HbO.out.ext hX).x2; have y3 := (HbO.out.ext hX).x3; have y4 := (HbO.out.ext hX).x4; have y5 := (HbO.out.ext hX).x5
  clear hX hR2 HR1 HX1 hl2
  have e2 : (if usesQ (kn : Int) then numL q else []) = (if kn ≠ 1 then numL q else []) := by
    by_cases h : kn ≠ 1
    · rw [if_pos (UQ.out.2 h), if_pos h]
    · rw [if_neg (fun e => h (UQ.out.1 e)), if_neg h]
  have e3 : (if usesB (kn : Int) then [32, 116, 111] ++ numL bt else []) = (if kn = 5 then [32, 116, 111] ++ numL bt else []) := by
    by_cases h : kn = 5
    · rw [if_pos (UB.out.2 h), if_pos h]
    · rw [if_neg (fun e => h (UB.out.1 e)), if_neg h]
  rw [e2, e3, Hl1.out, Hl2.out] at HR2
  clear e2 e3 UQ UB
  go_upto_if 29 with fail
  go_cut [4] from 7 to 108 (fun s4 wx => s4 = .string ⟨(l2 ++ (if kn ≠ 1 then numL q else [])).toArray⟩ ∧ Ext wA wx)
  case first =>
    by_cases hc : kn ≠ 1
    · have HC := Lib.hid hc
      have q1 := nt (show ¬ (kn : Int) = 1 by omega); have q2 := bf (show ¬ (kn : Int) = 1 by omega)
      clear hc
      obtain ⟨D, hD⟩ : ∃ x, Lib.decDigits (q).toNat = x := ⟨_, rfl⟩
      have hDl : D.length ≤ 2 := by rw [← hD]; exact dd_len (by omega)
      have HN := Lib.hid (fun wx => num_any q wx fq.1 fq.2)
      rw [hD] at HN
      have HD := Lib.hid hD
      clear hD
      go_wp2_with fail
      refine (HN.out _).mono ?_
      rintro e w2 ⟨rfl, hx2⟩
      have H2 := Lib.hid (HX2.out.trans hx2)
      clear hx2
      go_wp2_with fail
      go_meet
      exact ⟨congrArg Value.string ((ba_num l2 HD.out).trans (by rw [if_pos HC.out])), H2.out⟩
    · have HC := Lib.hid hc
      have q1 := nf' (show (kn : Int) = 1 by omega); have q2 := bt' (show (kn : Int) = 1 by omega)
      clear hc
      go_wp2_with fail
      go_meet
      exact ⟨by rw [if_neg HC.out]; simp, HX2.out⟩
  case rest =>
  obtain ⟨rfl, hX⟩ := hcut
  obtain ⟨l3, hl3⟩ : ∃ x : List UInt8, l2 ++ (if kn ≠ 1 then numL q else []) = x := ⟨_, rfl⟩
  have hn3 : l3.length ≤ l2.length + 3 := by rw [← hl3, List.length_append]; have hq : (if kn ≠ 1 then numL q else []).length ≤ 3 := (by split; exact numL_len fq.2; simp); omega
  have hR3 := HR2.out
  rw [hl3] at hR3 ⊢
  have HR3 := Lib.hid hR3; have HX3 := Lib.hid hX
  have y0 := (HbO.out.ext hX).x0; have y1 := (HbO.out.ext hX).x1; have y2 := (HbO.out.ext hX).x2; have y3 := (HbO.out.ext hX).x3; have y4 := (HbO.out.ext hX).x4; have y5 := (HbO.out.ext hX).x5
  clear hX hR3 HR2 HX2 hl3
  go_upto_if 39 with fail
  go_cut [4] from 7 to 108 (fun s4 wx => s4 = .string ⟨(l3 ++ (if 0 < n1 then [32, 111, 110] else [])).toArray⟩ ∧ Ext wA wx)
  case first =>
    by_cases hc : 0 < n1
    · have HC := Lib.hid hc
      have q1 : (0 : Int) < (n1 : Int) := by omega
      have q2 : decide ((0 : Int) < (n1 : Int)) = true := dt q1
      clear hc
      go_wp2_with fail
      go_meet
      exact ⟨congrArg Value.string ((ba_add l3 [32, 111, 110]).trans (by rw [if_pos HC.out])), HX3.out⟩
    · have HC := Lib.hid hc
      have q1 : ¬ (0 : Int) < (n1 : Int) := by omega
      have q2 : decide ((0 : Int) < (n1 : Int)) = false := df q1
      clear hc
      go_wp2_with fail
      go_meet
      exact ⟨by rw [if_neg HC.out]; simp, HX3.out⟩
  case rest =>
  obtain ⟨rfl, hX⟩ := hcut
  obtain ⟨l4, hl4⟩ : ∃ x : List UInt8, l3 ++ (if 0 < n1 then [32, 111, 110] else []) = x := ⟨_, rfl⟩
  have hn4 : l4.length ≤ l3.length + 3 := by rw [← hl4, List.length_append]; have hq : (if 0 < n1 then [32, 111, 110] else ([] : List UInt8)).length ≤ 3 := (by split <;> simp); omega
  have hR4 := HR3.out
  rw [hl4] at hR4 ⊢
  have HR4 := Lib.hid hR4; have HX4 := Lib.hid hX
  have y0 := (HbO.out.ext hX).x0; have y1 := (HbO.out.ext hX).x1; have y2 := (HbO.out.ext hX).x2; have y3 := (HbO.out.ext hX).x3; have y4 := (HbO.out.ext hX).x4; have y5 := (HbO.out.ext hX).x5
  clear hX hR4 HR3 HX3 hl4
  go_wp2_with fail
  go_loopg [4, 5] n1 (fun kk s4 sx wx => ∃ i : Nat, sx = .int .i64 (i : Int) ∧ i ≤ n1 ∧ n1 - i = kk ∧ s4 = .string ⟨(l4 ++ (ctl.take i).flatMap numL).toArray⟩ ∧ Ext wA wx)
  case atStart => exact ⟨0, rfl, by omega, by omega, by simp, HX4.out⟩
  case round =>
  obtain ⟨i, rfl, hi1, hk, rfl, hX⟩ := hrel
  have y0 := (HbO.out.ext hX).x0; have y1 := (HbO.out.ext hX).x1; have y2 := (HbO.out.ext hX).x2; have y3 := (HbO.out.ext hX).x3; have y4 := (HbO.out.ext hX).x4; have y5 := (HbO.out.ext hX).x5
  clear HX4
  have hlf := flat_len numL 3 (ctl.take i) (fun y hy => (fun h => numL_len h.2) (Hctl.out y (List.mem_of_mem_take hy)))
  have htk : (ctl.take i).length ≤ n1 := by rw [List.length_take, Hl1.out]; omega
  by_cases hin : i < n1
  · have h2 : (i : Int) < (n1 : Int) := by omega
    have h0 : (0 : Int) ≤ (i : Int) := by omega
    obtain ⟨b', o', rfl, hbl, hcell⟩ := (HL.out.i1.ext hX).at (by omega)
    have hci := hcell i (by omega)
    have hil : i < ctl.length := by rw [Hl1.out]; omega
    have hfs := flat_snoc numL ctl i hil
    have hm := Hctl.out _ (getD_mem' hil)
    obtain ⟨x, hx⟩ : ∃ x, ctl.getD i 0 = x := ⟨_, rfl⟩
    rw [hx] at hci hfs hm
    obtain ⟨lx, hlx⟩ : ∃ z, l4 ++ (ctl.take i).flatMap numL = z := ⟨_, rfl⟩
    have hlxn : lx.length ≤ 400 := by rw [← hlx, List.length_append]; omega
    have Hfs : Hid (l4 ++ (ctl.take (i + 1)).flatMap numL = lx ++ numL x) := by show _ = _; rw [hfs, ← hlx, List.append_assoc]
    rw [hlx]
    have HXr := Lib.hid hX
    clear hx hfs hcell hX hlf htk hlx
    obtain ⟨D, hD⟩ : ∃ z, Lib.decDigits (x).toNat = z := ⟨_, rfl⟩
    have hDl : D.length ≤ 2 := by rw [← hD]; exact dd_len (by omega)
    have HN := Lib.hid (fun wx => num_any (x) wx hm.1 hm.2)
    rw [hD] at HN
    have HD := Lib.hid hD
    clear hD
    go_wp2_with fail
    refine (HN.out _).mono ?_
    rintro e w2 ⟨rfl, hx2⟩
    have H2 := Lib.hid (HXr.out.trans hx2)
    clear hx2
    go_wp2_with fail
    go_roundg (n1 - (i + 1))
    case measure => omega
    case rel => exact ⟨i + 1, by go_num, by omega, rfl, congrArg Value.string ((ba_num lx HD.out).trans (by rw [Hfs.out])), H2.out⟩
  have hin2 : ¬ (i : Int) < (n1 : Int) := by omega
  rw [List.take_of_length_le (by rw [Hl1.out]; omega)] at hlf ⊢
  clear hin hi1 hk htk
  obtain ⟨l5, hl5⟩ : ∃ z : List UInt8, l4 ++ ctl.flatMap numL = z := ⟨_, rfl⟩
  have hn5 : l5.length ≤ l4.length + 3 * ctl.length := by rw [← hl5, List.length_append]; omega
  have hR5 := HR4.out
  rw [hl5] at hR5 ⊢
  have HR5 := Lib.hid hR5; have HX5 := Lib.hid hX
  clear hX hR5 HR4 hl5 hlf
  go_upto_if 60 with fail
  go_cut [4] from 7 to 108 (fun s4 wx => s4 = .string ⟨(l5 ++ (if kn = 5 then [32, 116, 111] ++ numL bt else [])).toArray⟩ ∧ Ext wA wx)
  case first =>
    by_cases hc : kn = 5
    · have HC := Lib.hid hc
      have q1 := bt' (show (kn : Int) = 5 by omega)
      clear hc
      obtain ⟨D, hD⟩ : ∃ x, Lib.decDigits (bt).toNat = x := ⟨_, rfl⟩
      have hDl : D.length ≤ 2 := by rw [← hD]; exact dd_len (by omega)
      have HN := Lib.hid (fun wx => num_any bt wx fbt.1 fbt.2)
      rw [hD] at HN
      have HD := Lib.hid hD
      clear hD
      go_wp2_with fail
      refine (HN.out _).mono ?_
      rintro e w2 ⟨rfl, hx2⟩
      have H2 := Lib.hid (HX5.out.trans hx2)
      clear hx2
      go_wp2_with fail
      go_meet
      exact ⟨congrArg Value.string ((ba_to l5 HD.out).trans (by rw [if_pos HC.out])), H2.out⟩
    · have HC := Lib.hid hc
      have q1 := bf (show ¬ (kn : Int) = 5 by omega)
      clear hc
      go_wp2_with fail
      go_meet
      exact ⟨by rw [if_neg HC.out]; simp, HX5.out⟩
  case rest =>
  obtain ⟨rfl, hX⟩ := hcut
  obtain ⟨l6, hl6⟩ : ∃ x : List UInt8, l5 ++ (if kn = 5 then [32, 116, 111] ++ numL bt else []) = x := ⟨_, rfl⟩
  have hn6 : l6.length ≤ l5.length + 6 := by rw [← hl6, List.length_append]; have hq : (if kn = 5 then [32, 116, 111] ++ numL bt else []).length ≤ 6 := (by split; have := numL_len fbt.2; simp; omega; simp); omega
  have hR6 := HR5.out
  rw [hl6] at hR6 ⊢
  have HR6 := Lib.hid hR6; have HX6 := Lib.hid hX
  have y0 := (HbO.out.ext hX).x0; have y1 := (HbO.out.ext hX).x1; have y2 := (HbO.out.ext hX).x2; have y3 := (HbO.out.ext hX).x3; have y4 := (HbO.out.ext hX).x4; have y5 := (HbO.out.ext hX).x5
  clear hX hR6 HR5 HX5 hl6
  go_upto_if 70 with fail
  go_cut [4] from 7 to 108 (fun s4 wx => s4 = .string ⟨(l6 ++ (if 0 < n2 then [32, 105, 102] else [])).toArray⟩ ∧ Ext wA wx)
  case first =>
    by_cases hc : 0 < n2
    · have HC := Lib.hid hc
      have q1 : (0 : Int) < (n2 : Int) := by omega
      have q2 : decide ((0 : Int) < (n2 : Int)) = true := dt q1
      clear hc
      go_wp2_with fail
      go_meet
      exact ⟨congrArg Value.string ((ba_add l6 [32, 105, 102]).trans (by rw [if_pos HC.out])), HX6.out⟩
    · have HC := Lib.hid hc
      have q1 : ¬ (0 : Int) < (n2 : Int) := by omega
      have q2 : decide ((0 : Int) < (n2 : Int)) = false := df q1
      clear hc
      go_wp2_with fail
      go_meet
      exact ⟨by rw [if_neg HC.out]; simp, HX6.out⟩
  case rest =>
  obtain ⟨rfl, hX⟩ := hcut
  obtain ⟨l7, hl7⟩ : ∃ x : List UInt8, l6 ++ (if 0 < n2 then [32, 105, 102] else []) = x := ⟨_, rfl⟩
  have hn7 : l7.length ≤ l6.length + 3 := by rw [← hl7, List.length_append]; have hq : (if 0 < n2 then [32, 105, 102] else ([] : List UInt8)).length ≤ 3 := (by split <;> simp); omega
  have hR7 := HR6.out
  rw [hl7] at hR7 ⊢
  have HR7 := Lib.hid hR7; have HX7 := Lib.hid hX
  have y0 := (HbO.out.ext hX).x0; have y1 := (HbO.out.ext hX).x1; have y2 := (HbO.out.ext hX).x2; have y3 := (HbO.out.ext hX).x3; have y4 := (HbO.out.ext hX).x4; have y5 := (HbO.out.ext hX).x5
  clear hX hR7 HR6 HX6 hl7
  go_wp2_with fail
  go_loopg [4, 6] n2 (fun kk s4 sx wx => ∃ i : Nat, sx = .int .i64 (i : Int) ∧ i ≤ n2 ∧ n2 - i = kk ∧ s4 = .string ⟨(l7 ++ (cnd.take i).flatMap cndL).toArray⟩ ∧ Ext wA wx)
  case atStart => exact ⟨0, rfl, by omega, by omega, by simp, HX7.out⟩
  case round =>
  obtain ⟨i, rfl, hi1, hk, rfl, hX⟩ := hrel
  have y0 := (HbO.out.ext hX).x0; have y1 := (HbO.out.ext hX).x1; have y2 := (HbO.out.ext hX).x2; have y3 := (HbO.out.ext hX).x3; have y4 := (HbO.out.ext hX).x4; have y5 := (HbO.out.ext hX).x5
  clear HX7
  have hlf := flat_len cndL 4 (cnd.take i) (fun y hy => (fun h => cndL_len h.2) (Hcnd.out y (List.mem_of_mem_take hy)))
  have htk : (cnd.take i).length ≤ n2 := by rw [List.length_take, Hl2.out]; omega
  by_cases hin : i < n2
  · have h2 : (i : Int) < (n2 : Int) := by omega
    have h0 : (0 : Int) ≤ (i : Int) := by omega
    obtain ⟨b', o', rfl, hbl, hcell⟩ := (HL.out.i2.ext hX).at (by omega)
    have hci := hcell i (by omega)
    have hil : i < cnd.length := by rw [Hl2.out]; omega
    have hfs := flat_snoc cndL cnd i hil
    have hm := Hcnd.out _ (getD_mem' hil)
    obtain ⟨x, hx⟩ : ∃ x, cnd.getD i 0 = x := ⟨_, rfl⟩
    rw [hx] at hci hfs hm
    obtain ⟨lx, hlx⟩ : ∃ z, l7 ++ (cnd.take i).flatMap cndL = z := ⟨_, rfl⟩
    have hlxn : lx.length ≤ 400 := by rw [← hlx, List.length_append]; omega
    have Hfs : Hid (l7 ++ (cnd.take (i + 1)).flatMap cndL = lx ++ cndL x) := by show _ = _; rw [hfs, ← hlx, List.append_assoc]
    rw [hlx]
    have HXr := Lib.hid hX
    clear hx hfs hcell hX hlf htk hlx
    by_cases hp : 0 < x
    · have q1 : decide (0 < x) = true := dt hp
      have hw1 : IntKind.i64.wrap (x - 1) = x - 1 := by rw [IntKind.wrap_i64]; omega
      have HCn : Hid (cndL x = numL (x - 1)) := by show _ = _; unfold cndL bitOf; rw [if_neg (by omega), if_pos hp]
      obtain ⟨D, hD⟩ : ∃ z, Lib.decDigits (x - 1).toNat = z := ⟨_, rfl⟩
      have hDl : D.length ≤ 2 := by rw [← hD]; exact dd_len (by omega)
      have HN := Lib.hid (fun wx => num_any (x - 1) wx (by omega) (by omega))
      rw [hD] at HN
      have HD := Lib.hid hD
      clear hD
      go_wp2_with fail
      refine (HN.out _).mono ?_
      rintro e w2 ⟨rfl, hx2⟩
      have H2 := Lib.hid (HXr.out.trans hx2)
      clear hx2
      go_wp2_with fail
      go_roundg (n2 - (i + 1))
      case measure => omega
      case rel => exact ⟨i + 1, by go_num, by omega, rfl, congrArg Value.string ((ba_num lx HD.out).trans (by rw [Hfs.out, HCn.out])), H2.out⟩
    · have q1 : decide (0 < x) = false := df hp
      have hw0 : IntKind.i64.wrap (-x) = -x := by rw [IntKind.wrap_i64]; omega
      have hw1 : IntKind.i64.wrap (-x - 1) = -x - 1 := by rw [IntKind.wrap_i64]; omega
      have HCn : Hid (cndL x = 32 :: 33 :: Lib.decDigits (-x - 1).toNat) := by show _ = _; unfold cndL bitOf; rw [if_pos (by omega), if_neg hp]
      obtain ⟨D, hD⟩ : ∃ z, Lib.decDigits (-x - 1).toNat = z := ⟨_, rfl⟩
      have hDl : D.length ≤ 2 := by rw [← hD]; exact dd_len (by omega)
      have HN := Lib.hid (fun wx => num_any (-x - 1) wx (by omega) (by omega))
      rw [hD] at HN
      have HD := Lib.hid hD
      clear hD
      go_wp2_with fail
      refine (HN.out _).mono ?_
      rintro e w2 ⟨rfl, hx2⟩
      have H2 := Lib.hid (HXr.out.trans hx2)
      clear hx2
      go_wp2_with fail
      go_roundg (n2 - (i + 1))
      case measure => omega
      case rel => exact ⟨i + 1, by go_num, by omega, rfl, congrArg Value.string ((ba_not lx HD.out).trans (by rw [Hfs.out, HCn.out])), H2.out⟩
  have hin2 : ¬ (i : Int) < (n2 : Int) := by omega
  rw [List.take_of_length_le (by rw [Hl2.out]; omega)] at hlf ⊢
  clear hin hi1 hk htk
  obtain ⟨l8, hl8⟩ : ∃ z : List UInt8, l7 ++ cnd.flatMap cndL = z := ⟨_, rfl⟩
  have hn8 : l8.length ≤ l7.length + 4 * cnd.length := by rw [← hl8, List.length_append]; omega
  have hR8 := HR7.out
  rw [hl8] at hR8 ⊢
  have HR8 := Lib.hid hR8; have HX8 := Lib.hid hX
  clear hX hR8 HR7 hl8 hlf
  rw [HR8.out]
  have hRl : R.length ≤ 400 := by rw [← HR8.out]; omega
  go_wp2_with fail
  go_ret
  exact ⟨congrArg (fun b => Ending.returned (Value.string b)) (ba_add R [10]), HE1.out.trans HX8.out⟩

end Go.Proofs.YtpabafioofhklaaDoor
