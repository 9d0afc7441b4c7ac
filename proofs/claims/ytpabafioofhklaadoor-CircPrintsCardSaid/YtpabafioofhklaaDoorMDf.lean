/-
  The reader: digits and numbers.
-/
import Derived.Test.YtpabafioofhklaaDoorMDe
import Derived.BigQuiet

namespace Go.Proofs.YtpabafioofhklaaDoor
open Go.RowKit

theorem byte_at {T : List UInt8} {k : Nat} {c : UInt8} (h : T[k]? = some c) (hs : k < (⟨T.toArray⟩ : ByteArray).size) : (⟨T.toArray⟩ : ByteArray)[k]'hs = c := by
  have h1 : k < T.length := (List.getElem?_eq_some_iff.1 h).1
  have h2 : T[k] = c := (List.getElem?_eq_some_iff.1 h).2
  rw [← h2]
  rfl

set_option maxHeartbeats 2000000 in
set_option maxRecDepth 100000 in
theorem digit_yes (R : Nat) (T : List UInt8) (at_ ln : Nat) (w : World) (h : Rd w R T at_ ln) (c : UInt8) (hc : T[at_]? = some c) (h0 : 48 ≤ c.toNat) (h9 : c.toNat ≤ 57) :
    Calls Tryd.prog 75 #[.pointer (some ⟨R, 0, none⟩)] w fun e w' => e = .returned (.bool true) ∧ Ext w w' := by
  have x0 := h.x0; have x1 := h.x1
  have hlt : at_ < T.length := (List.getElem?_eq_some_iff.1 hc).1
  have b0 : (0 : Int) ≤ (at_ : Int) := by omega
  have b1 : (at_ : Int) < (T.length : Int) := by omega
  have hsz : at_ < (⟨T.toArray⟩ : ByteArray).size := by simpa [ByteArray.size] using hlt
  have hg : (⟨T.toArray⟩ : ByteArray)[at_]'hsz = c := byte_at hc hsz
  have q1 : decide ((48 : Int) ≤ (((⟨T.toArray⟩ : ByteArray)[at_]'hsz).toNat : Int)) = true := by rw [hg]; exact dt (by omega)
  have q2 : decide ((((⟨T.toArray⟩ : ByteArray)[at_]'hsz).toNat : Int) ≤ 57) = true := by rw [hg]; exact dt (by omega)
  clear hg
  have hd : Ext w w.drew := cdrew (Ext.refl w)
  go_enter Tryd.func75, Tryd.ntmps75
  go_wp2_with fail
  go_quiet (fail)
  go_wp2_with fail
  go_ret
  exact ⟨rfl, ext_drewN w _⟩

set_option maxHeartbeats 2000000 in
set_option maxRecDepth 100000 in
theorem digit_no (R : Nat) (T : List UInt8) (at_ ln : Nat) (w : World) (h : Rd w R T at_ ln) (c : UInt8) (hc : T[at_]? = some c) (h0 : c.toNat < 48) :
    Calls Tryd.prog 75 #[.pointer (some ⟨R, 0, none⟩)] w fun e w' => e = .returned (.bool false) ∧ Ext w w' := by
  have x0 := h.x0; have x1 := h.x1
  have hlt : at_ < T.length := (List.getElem?_eq_some_iff.1 hc).1
  have b0 : (0 : Int) ≤ (at_ : Int) := by omega
  have b1 : (at_ : Int) < (T.length : Int) := by omega
  have hsz : at_ < (⟨T.toArray⟩ : ByteArray).size := by simpa [ByteArray.size] using hlt
  have hg : (⟨T.toArray⟩ : ByteArray)[at_]'hsz = c := byte_at hc hsz
  have q1 : decide ((48 : Int) ≤ (((⟨T.toArray⟩ : ByteArray)[at_]'hsz).toNat : Int)) = false := by rw [hg]; exact df (by omega)
  clear hg
  go_enter Tryd.func75, Tryd.ntmps75
  go_wp2_with fail
  go_quiet (fail)
  go_wp2_with fail
  go_ret
  exact ⟨rfl, ext_drewN w _⟩

/-- How many digits, each of them, and what the first of them make. -/
def dgN (i : Nat) : Nat := if i < 10 then 1 else 2
def dgV (i j : Nat) : Nat := if i < 10 then i else if j = 0 then i / 10 else i % 10
def dgS (i j : Nat) : Nat := if j = 0 then 0 else if i < 10 then i else if j = 1 then i / 10 else i
theorem dg_facts {i : Nat} (hi : i < 100) : (Lib.decDigits i).length = dgN i ∧ (∀ j, j < dgN i → (Lib.decDigits i)[j]? = some (UInt8.ofNat (48 + dgV i j)) ∧ dgV i j ≤ 9 ∧ dgS i (j + 1) = 10 * dgS i j + dgV i j ∧ dgS i j ≤ 9 ∧ (0 < j → 0 < dgS i j)) ∧ dgS i (dgN i) = i ∧ 1 ≤ dgN i ∧ dgN i ≤ 2 := by
  by_cases h : i < 10
  · have e1 : dgN i = 1 := by unfold dgN; rw [if_pos h]
    refine ⟨by rw [Lib.decDigits_one h, e1]; rfl, ?_, ?_, by omega, by omega⟩
    · intro j hj
      obtain rfl : j = 0 := by omega
      rw [Lib.decDigits_one h]
      refine ⟨by simp [dgV, h], by unfold dgV; rw [if_pos h]; omega, by simp [dgS, dgV, h], by simp [dgS], by omega⟩
    · rw [e1]; simp [dgS, h]
  · have e1 : dgN i = 2 := by unfold dgN; rw [if_neg h]
    refine ⟨by rw [Lib.decDigits_two h hi, e1]; rfl, ?_, ?_, by omega, by omega⟩
    · intro j hj
      have : j = 0 ∨ j = 1 := by omega
      rw [Lib.decDigits_two h hi]
      rcases this with rfl | rfl
      · refine ⟨by simp [dgV, h], by unfold dgV; rw [if_neg h, if_pos rfl]; omega, by simp [dgS, dgV, h], by simp [dgS], by omega⟩
      · refine ⟨by simp [dgV, h], by unfold dgV; rw [if_neg h, if_neg (by decide)]; omega, by simp [dgS, dgV, h]; omega, by simp [dgS, h]; omega, by simp [dgS, h]; omega⟩
    · rw [e1]; simp [dgS, h]

theorem drop_at {T l r : List UInt8} {k j : Nat} (h : T.drop k = l ++ r) (hj : j < l.length) : T[k + j]? = l[j]? := by
  have : (T.drop k)[j]? = (l ++ r)[j]? := by rw [h]
  rw [List.getElem?_drop, List.getElem?_append_left hj] at this
  exact this
theorem drop_behind {T l r : List UInt8} {c : UInt8} {k : Nat} (h : T.drop k = l ++ c :: r) : T[k + l.length]? = some c := by
  have : (T.drop k)[l.length]? = (l ++ c :: r)[l.length]? := by rw [h]
  rw [List.getElem?_drop] at this
  rw [this]; simp

set_option maxHeartbeats 4000000 in
set_option maxRecDepth 100000 in
theorem digits_yes (R : Nat) (T : List UInt8) (at_ ln : Nat) (w : World) (h : Rd w R T at_ ln) (hT : T.length ≤ 1000000) (i : Int) (h0 : 0 ≤ i) (hi : i < 100) (c : UInt8) (r : List UInt8) (hd : T.drop at_ = Lib.decDigits i.toNat ++ c :: r) (hc : c.toNat < 48) :
    Calls Tryd.prog 68 #[.pointer (some ⟨R, 0, none⟩)] w fun e w' => e = .returned (.int .i64 i) ∧ Rd w' R T (at_ + (Lib.decDigits i.toNat).length) ln ∧ Mvd R w w' := by
  obtain ⟨v, rfl⟩ : ∃ v : Nat, i = (v : Int) := ⟨i.toNat, by omega⟩
  have hv : v < 100 := by omega
  have hto : ((v : Int)).toNat = v := by omega
  rw [hto] at hd ⊢
  obtain ⟨hl, hall, hend, hm1, hm2⟩ := dg_facts hv
  obtain ⟨m, hm⟩ : ∃ m, dgN v = m := ⟨_, rfl⟩
  rw [hm] at hl hall hend hm1 hm2
  have hbe := drop_behind hd
  rw [hl] at hbe ⊢
  have hblt : at_ + m < T.length := (List.getElem?_eq_some_iff.1 hbe).1
  have hdg : ∀ j, j < m → T[at_ + j]? = some (UInt8.ofNat (48 + dgV v j)) := fun j hj => by rw [drop_at hd (by omega)]; exact (hall j hj).1
  have Hall := Lib.hid hall; have Hdg := Lib.hid hdg; have Hbe := Lib.hid hbe; have Hend := Lib.hid hend
  have x1 := h.x1
  have HR := Lib.hid h
  clear h hd hl hall hdg hbe hend hm hto
  go_enter Tryd.func68, Tryd.ntmps68
  go_wp2_with fail
  go_loopg [4] m (fun kk s4 wx => ∃ j : Nat, s4 = .int .i64 (dgS v j : Int) ∧ j ≤ m ∧ m - j = kk ∧ Rd wx R T (at_ + j) ln ∧ Mvd R w wx)
  case atStart => exact ⟨0, by simp [dgS], by omega, by omega, HR.out, Mvd.refl R w⟩
  case round =>
    clear HR x1
    obtain ⟨j, rfl, hj1, hk, hr, hmv⟩ := hrel
    by_cases hjm : j = m
    · subst hjm
      have HD := Lib.hid (digit_no R T (at_ + j) ln wr hr c Hbe.out hc)
      have H := Lib.hid hr; have HM := Lib.hid hmv
      have q1 : (((at_ + j : Nat) : Int) == (at_ : Int)) = false := bf (by omega)
      clear hr hmv
      go_wp2_with fail
      refine HD.out.mono ?_
      rintro e w1 ⟨rfl, hx⟩
      have x1 := (H.out.ext hx).x1
      have HR := Lib.hid (H.out.ext hx); have HM1 := Lib.hid (HM.out.trans (Mvd.of_ext (R := R) hx))
      clear hx HD H HM
      obtain ⟨k, hk'⟩ : ∃ k : Int, ((at_ + j : Nat) : Int) = k := ⟨_, rfl⟩
      rw [hk'] at q1 x1
      clear hk'
      have hend := Hend.out
      rw [hend]
      clear hend
      go_wp2_with fail
      go_ret
      exact ⟨rfl, HR.out, HM1.out⟩
    · obtain ⟨_, hv9, hstep, hs9, hpos⟩ := Hall.out j (by omega)
      have hcj := Hdg.out j (by omega)
      have h48 : (UInt8.ofNat (48 + dgV v j)).toNat = 48 + dgV v j := by
        simp [UInt8.toNat_ofNat']; omega
      have HD := Lib.hid (digit_yes R T (at_ + j) ln wr hr _ hcj (by omega) (by omega))
      obtain ⟨a, ha⟩ : ∃ a, at_ + j = a := ⟨_, rfl⟩
      rw [ha] at hr hcj
      have hlt : a < T.length := (List.getElem?_eq_some_iff.1 hcj).1
      have hsz : a < (⟨T.toArray⟩ : ByteArray).size := by simpa [ByteArray.size] using hlt
      have hg : ((⟨T.toArray⟩ : ByteArray)[a]'hsz).toNat = 48 + dgV v j := by rw [byte_at hcj hsz]; exact h48
      obtain ⟨d, hdd⟩ : ∃ d, dgV v j = d := ⟨_, rfl⟩
      obtain ⟨sv, hsv⟩ : ∃ s, dgS v j = s := ⟨_, rfl⟩
      obtain ⟨s', hs'⟩ : ∃ s, 10 * sv + d = s := ⟨_, rfl⟩
      obtain ⟨tn, htn⟩ : ∃ s, 10 * (sv : Int) = s := ⟨_, rfl⟩
      rw [hdd] at hv9 hstep hg; rw [hsv] at hstep hs9 hpos; rw [hs'] at hstep
      rw [hsv]
      have w1' : IntKind.u8.wrap ((((⟨T.toArray⟩ : ByteArray)[a]'hsz).toNat : Int) - 48) = (d : Int) := by rw [hg]; simp [IntKind.wrap, IntKind.bits, IntKind.signed]; omega
      have w2' : IntKind.i64.wrap (10 * (sv : Int)) = tn := by rw [IntKind.wrap_i64]; omega
      have w3' : IntKind.i64.wrap (tn + (d : Int)) = (s' : Int) := by rw [IntKind.wrap_i64]; omega
      have w5' : IntKind.i64.wrap (d : Int) = (d : Int) := by rw [IntKind.wrap_i64]; omega
      obtain ⟨ak, hak⟩ : ∃ x : Int, ((a + 1 : Nat) : Int) = x := ⟨_, rfl⟩
      have w4' : IntKind.i64.wrap ((a : Int) + 1) = ak := by rw [IntKind.wrap_i64]; omega
      obtain ⟨df', hdf⟩ : ∃ x : Int, ak - (at_ : Int) = x := ⟨_, rfl⟩
      have w6' : IntKind.i64.wrap (ak - (at_ : Int)) = df' := by rw [IntKind.wrap_i64]; omega
      have q9 : decide ((9 : Int) < df') = false := df (by omega)
      have b0 : (0 : Int) ≤ (a : Int) := by omega
      have b1 : (a : Int) < (T.length : Int) := by omega
      have H := Lib.hid hr; have HM := Lib.hid hmv; have Hst := Lib.hid hstep; have Haj := Lib.hid ha
      by_cases hj0 : j = 0
      · have q1 : ((a : Int) == (at_ : Int)) = true := bt' (by omega)
        clear hr hmv hstep hcj h48 hg hdd hsv hs' htn hdf
        clear hj0 hpos
        go_wp2_with fail
        refine HD.out.mono ?_
        rintro e w1 ⟨rfl, hx⟩
        have hr1 := H.out.ext hx
        have x0 := hr1.x0; have x1 := hr1.x1; have f1 := hr1.f 1
        have HR := Lib.hid (hr1.put1 (a + 1)); have HM1 := Lib.hid ((HM.out.trans (Mvd.of_ext (R := R) hx)).put 1 (.int .i64 ((a + 1 : Nat) : Int)))
        have HRd := Lib.hid hr1; have HMd := Lib.hid (HM.out.trans (Mvd.of_ext (R := R) hx))
        clear hx HD H HM hr1
        go_upto_region 3 with fail
        go_quiet (fail)
        have hr2 : Rd (w1.drewN nq) R T a ln := HRd.out.ext (ext_drewN w1 nq)
        have HM2 := Lib.hid ((HMd.out.trans (Mvd.of_ext (R := R) (ext_drewN w1 nq))).put 1 (.int .i64 ((a + 1 : Nat) : Int)))
        have HR2 := Lib.hid (hr2.put1 (a + 1))
        have y1 := hr2.x1; have g1 := hr2.f 1
        have z1 := (hr2.put1 (a + 1)).x1
        rw [hak] at HM2 HR2 z1
        clear x0 x1 f1 HR HM1 HRd HMd hr2
        generalize w1.drewN nq = w2 at *
        go_wp2_with fail
        go_roundg (m - (j + 1))
        case measure => omega
        case rel => exact ⟨j + 1, by rw [Hst.out], by omega, rfl, by rw [← Nat.add_assoc, Haj.out]; exact HR2.out, HM2.out⟩
      · have q1 : ((a : Int) == (at_ : Int)) = false := bf (by omega)
        have q2 : decide ((0 : Int) < (sv : Int)) = true := dt (by have := hpos (by omega); omega)
        have q2' : (0 : Int) < (sv : Int) := by have := hpos (by omega); omega
        clear hr hmv hstep hcj h48 hg hdd hsv hs' htn hdf
        clear hj0 hpos
        go_wp2_with fail
        refine HD.out.mono ?_
        rintro e w1 ⟨rfl, hx⟩
        have hr1 := H.out.ext hx
        have x0 := hr1.x0; have x1 := hr1.x1; have f1 := hr1.f 1
        have HR := Lib.hid (hr1.put1 (a + 1)); have HM1 := Lib.hid ((HM.out.trans (Mvd.of_ext (R := R) hx)).put 1 (.int .i64 ((a + 1 : Nat) : Int)))
        have HRd := Lib.hid hr1; have HMd := Lib.hid (HM.out.trans (Mvd.of_ext (R := R) hx))
        clear hx HD H HM hr1
        go_upto_region 3 with fail
        go_quiet (fail)
        have hr2 : Rd (w1.drewN nq) R T a ln := HRd.out.ext (ext_drewN w1 nq)
        have HM2 := Lib.hid ((HMd.out.trans (Mvd.of_ext (R := R) (ext_drewN w1 nq))).put 1 (.int .i64 ((a + 1 : Nat) : Int)))
        have HR2 := Lib.hid (hr2.put1 (a + 1))
        have y1 := hr2.x1; have g1 := hr2.f 1
        have z1 := (hr2.put1 (a + 1)).x1
        rw [hak] at HM2 HR2 z1
        clear x0 x1 f1 HR HM1 HRd HMd hr2
        generalize w1.drewN nq = w2 at *
        go_wp2_with fail
        go_roundg (m - (j + 1))
        case measure => omega
        case rel => exact ⟨j + 1, by rw [Hst.out], by omega, rfl, by rw [← Nat.add_assoc, Haj.out]; exact HR2.out, HM2.out⟩

end Go.Proofs.YtpabafioofhklaaDoor
