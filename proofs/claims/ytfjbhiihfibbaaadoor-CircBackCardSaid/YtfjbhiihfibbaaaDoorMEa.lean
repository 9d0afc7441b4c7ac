/-
  The reader gives up: what goes wrong, and on which line.
-/
import Derived.Test.YtfjbhiihfibbaaaDoorMDe
import Derived.WalkLawsBesides

namespace Go.Proofs.YtfjbhiihfibbaaaDoor
open Go.RowKit

/-- What the reader panics with, on line ln. -/
def gup (ln : Nat) : List PanicEntry := [{ v := .iface 86 (.agg #[.int .i64 1, .int .i64 (ln : Int)]), recovered := false }]

set_option maxHeartbeats 1000000 in
theorem giveUp_any (R : Nat) (T : List UInt8) (at_ ln : Nat) (w : World) (h : Rd w R T at_ ln) :
    Calls Tryd.prog 76 #[.pointer (some ⟨R, 0, none⟩)] w fun e w' => e = .panicked (gup ln) ∧ w' = w := by
  have x2 := h.x2
  clear h
  unfold gup
  go_enter Tryd.func76, Tryd.ntmps76
  go_wp2
  exact ⟨rfl, rfl, rfl⟩

set_option maxHeartbeats 1000000 in
theorem need_no (R : Nat) (T : List UInt8) (at_ ln : Nat) (p : List UInt8) (w : World) (h : Rd w R T at_ ln) (hat : at_ ≤ T.length) (hp : Lib.hasPrefix (T.drop at_) p = false) :
    Calls Tryd.prog 59 #[.pointer (some ⟨R, 0, none⟩), .string ⟨p.toArray⟩] w fun e w' => e = .panicked (gup ln) ∧ Ext w w' := by
  have HS := Lib.hid (take_no R T at_ ln p w h hat hp)
  have HG := Lib.hid (fun wx (hx : Ext w wx) => giveUp_any R T at_ ln wx (h.ext hx))
  clear h hp
  go_enter Tryd.func59, Tryd.ntmps59
  go_wp2_with fail
  refine HS.out.mono ?_
  rintro e w1 ⟨rfl, hx⟩
  have HX := Lib.hid hx
  clear hx
  go_wp2_with fail
  refine (HG.out w1 HX.out).mono ?_
  rintro e w2 ⟨rfl, rfl⟩
  go_wp2_with fail
  exact ⟨rfl, rfl, HX.out⟩

set_option maxHeartbeats 1000000 in
theorem endLine_no (R : Nat) (T : List UInt8) (at_ ln : Nat) (w : World) (h : Rd w R T at_ ln) (hat : at_ ≤ T.length) (hp : Lib.hasPrefix (T.drop at_) [10] = false) :
    Calls Tryd.prog 61 #[.pointer (some ⟨R, 0, none⟩)] w fun e w' => e = .panicked (gup ln) ∧ Ext w w' := by
  have HS := Lib.hid (need_no R T at_ ln [10] w h hat hp)
  clear h hp
  go_enter Tryd.func61, Tryd.ntmps61
  go_wp2_with fail
  refine HS.out.mono ?_
  rintro e w1 ⟨rfl, hx⟩
  have HX := Lib.hid hx
  clear hx
  go_wp2_with fail
  exact ⟨rfl, rfl, HX.out⟩

end Go.Proofs.YtfjbhiihfibbaaaDoor

/-
  The reader: a number of any text.
-/
namespace Go.Proofs.YtfjbhiihfibbaaaDoor
open Go.RowKit

/-- Is a digit next? -/
def isDg : Option UInt8 → Bool
  | some c => decide (48 ≤ c.toNat) && decide (c.toNat ≤ 57)
  | none => false

set_option maxHeartbeats 2000000 in
set_option maxRecDepth 100000 in
theorem digit_end (R : Nat) (T : List UInt8) (at_ ln : Nat) (w : World) (h : Rd w R T at_ ln) (hl : T.length ≤ at_) :
    Calls Tryd.prog 90 #[.pointer (some ⟨R, 0, none⟩)] w fun e w' => e = .returned (.bool false) ∧ Ext w w' := by
  have x0 := h.x0; have x1 := h.x1
  have b1 : ¬ at_ < T.length := by omega
  have q1 : decide (at_ < T.length) = false := df b1
  clear hl b1
  go_enter Tryd.func90, Tryd.ntmps90
  go_wp2_with fail
  go_quiet (fail)
  go_wp2_with fail
  go_ret
  exact ⟨rfl, ext_drewN w _⟩

set_option maxHeartbeats 2000000 in
set_option maxRecDepth 100000 in
theorem digit_high (R : Nat) (T : List UInt8) (at_ ln : Nat) (w : World) (h : Rd w R T at_ ln) (c : UInt8) (hc : T[at_]? = some c) (h9 : 57 < c.toNat) :
    Calls Tryd.prog 90 #[.pointer (some ⟨R, 0, none⟩)] w fun e w' => e = .returned (.bool false) ∧ Ext w w' := by
  have x0 := h.x0; have x1 := h.x1
  have hlt : at_ < T.length := (List.getElem?_eq_some_iff.1 hc).1
  have b0 : (0 : Int) ≤ (at_ : Int) := by omega
  have b1 : (at_ : Int) < (T.length : Int) := by omega
  have hsz : at_ < (⟨T.toArray⟩ : ByteArray).size := by simpa [ByteArray.size] using hlt
  have hg : (⟨T.toArray⟩ : ByteArray)[at_]'hsz = c := byte_at hc hsz
  have q1 : decide ((48 : Int) ≤ (((⟨T.toArray⟩ : ByteArray)[at_]'hsz).toNat : Int)) = true := by rw [hg]; exact dt (by omega)
  have q2 : decide ((((⟨T.toArray⟩ : ByteArray)[at_]'hsz).toNat : Int) ≤ 57) = false := by rw [hg]; exact df (by omega)
  clear hg
  go_enter Tryd.func90, Tryd.ntmps90
  go_wp2_with fail
  go_quiet (fail)
  go_wp2_with fail
  go_ret
  exact ⟨rfl, ext_drewN w _⟩

theorem digit_any (R : Nat) (T : List UInt8) (at_ ln : Nat) (w : World) (h : Rd w R T at_ ln) :
    Calls Tryd.prog 90 #[.pointer (some ⟨R, 0, none⟩)] w fun e w' => e = .returned (.bool (isDg T[at_]?)) ∧ Ext w w' := by
  rcases hc : T[at_]? with _ | c
  · exact digit_end R T at_ ln w h (List.getElem?_eq_none_iff.1 hc)
  · by_cases h0 : c.toNat < 48
    · have e : isDg (some c) = false := by simp [isDg]; omega
      rw [e]; exact digit_no R T at_ ln w h c hc h0
    · by_cases h9 : 57 < c.toNat
      · have e : isDg (some c) = false := by simp [isDg]; omega
        rw [e]; exact digit_high R T at_ ln w h c hc h9
      · have e : isDg (some c) = true := by simp [isDg]; omega
        rw [e]; exact digit_yes R T at_ ln w h c hc (by omega) (by omega)

/-- What the reader makes of digits: k of them are read, they make n. -/
def scanD : List UInt8 → Nat → Nat → Option (Nat × Nat)
  | [], k, n => if k = 0 then none else some (n, k)
  | c :: r, k, n =>
    if isDg (some c) = true ∧ (k = 0 ∨ 0 < n) then (if 9 < k + 1 then none else scanD r (k + 1) (10 * n + (c.toNat - 48)))
    else if k = 0 then none else some (n, k)

theorem scan_stop {L : List UInt8} {k n : Nat} (h : ¬ (isDg L[0]? = true ∧ (k = 0 ∨ 0 < n))) : scanD L k n = if k = 0 then none else some (n, k) := by
  match L with
  | [] => rfl
  | c :: r => rw [scanD, if_neg (by simpa using h)]
theorem scan_step {L : List UInt8} {k n : Nat} {c : UInt8} (hc : L[0]? = some c) (h : isDg (some c) = true ∧ (k = 0 ∨ 0 < n)) : scanD L k n = if 9 < k + 1 then none else scanD (L.drop 1) (k + 1) (10 * n + (c.toNat - 48)) := by
  match L with
  | [] => simp at hc
  | d :: r =>
    obtain rfl : d = c := by simpa using hc
    rw [scanD, if_pos h]; rfl

set_option maxHeartbeats 4000000 in
set_option maxRecDepth 100000 in
theorem digits_any (R : Nat) (T : List UInt8) (at_ ln : Nat) (w : World) (h : Rd w R T at_ ln) (hat : at_ ≤ T.length) (hT : T.length ≤ 1000000) :
    Calls Tryd.prog 77 #[.pointer (some ⟨R, 0, none⟩)] w fun e w' => Mvd R w w' ∧ ((∃ n k : Nat, scanD (T.drop at_) 0 0 = some (n, k) ∧ e = .returned (.int .i64 (n : Int)) ∧ Rd w' R T (at_ + k) ln ∧ at_ + k ≤ T.length ∧ n < 1000000000) ∨ (scanD (T.drop at_) 0 0 = none ∧ e = .panicked (gup ln))) := by
  have x1 := h.x1
  have HR := Lib.hid h
  clear h
  obtain ⟨o, ho⟩ : ∃ o, scanD (T.drop at_) 0 0 = o := ⟨_, rfl⟩
  rw [ho]
  have Ho := Lib.hid ho
  clear ho
  go_enter Tryd.func77, Tryd.ntmps77
  go_wp2_with fail
  go_loopg [4] 10 (fun kk s4 wx => ∃ j n : Nat, s4 = .int .i64 (n : Int) ∧ j ≤ 9 ∧ 10 - j = kk ∧ n < 10 ^ j ∧ at_ + j ≤ T.length ∧ scanD (T.drop (at_ + j)) j n = o ∧ Rd wx R T (at_ + j) ln ∧ Mvd R w wx)
  case atStart => exact ⟨0, 0, rfl, by omega, by omega, by decide, by omega, Ho.out, HR.out, Mvd.refl R w⟩
  case round =>
    clear HR x1 Ho
    obtain ⟨j, sv, rfl, hj1, hk, hn, hle, hsc, hr, hmv⟩ := hrel
    have hn9 : sv < 1000000000 := Nat.lt_of_lt_of_le hn (Nat.le_trans (Nat.pow_le_pow_right (by decide) hj1) (by decide))
    obtain ⟨a, ha⟩ : ∃ a, at_ + j = a := ⟨_, rfl⟩
    have hal : a ≤ T.length := by omega
    rw [ha] at hr hsc
    have HD := Lib.hid (digit_any R T a ln wr hr)
    have h0T : (T.drop a)[0]? = T[a]? := by rw [List.getElem?_drop, Nat.add_zero]
    by_cases hgo : isDg T[a]? = true ∧ (j = 0 ∨ 0 < sv)
    · obtain ⟨c, hcj⟩ : ∃ c, T[a]? = some c := by
        rcases hx : T[a]? with _ | c
        · rw [hx] at hgo; exact absurd hgo.1 (by decide)
        · exact ⟨c, rfl⟩
      rw [hcj] at hgo HD
      have hsc2 := hsc
      rw [scan_step (h0T.trans hcj) hgo, List.drop_drop] at hsc2
      have hdig := hgo.1
      rw [hdig] at HD
      have hc2 : 48 ≤ c.toNat ∧ c.toNat ≤ 57 := by simpa [isDg] using hdig
      have hlt : a < T.length := (List.getElem?_eq_some_iff.1 hcj).1
      have hsz : a < (⟨T.toArray⟩ : ByteArray).size := by simpa [ByteArray.size] using hlt
      have hg : ((⟨T.toArray⟩ : ByteArray)[a]'hsz).toNat = c.toNat := by rw [byte_at hcj hsz]
      obtain ⟨d, hdd⟩ : ∃ d, c.toNat - 48 = d := ⟨_, rfl⟩
      obtain ⟨s', hs'⟩ : ∃ s, 10 * sv + d = s := ⟨_, rfl⟩
      obtain ⟨tn, htn⟩ : ∃ s, 10 * (sv : Int) = s := ⟨_, rfl⟩
      have w1' : IntKind.u8.wrap ((((⟨T.toArray⟩ : ByteArray)[a]'hsz).toNat : Int) - 48) = (d : Int) := by rw [hg]; simp [IntKind.wrap, IntKind.bits, IntKind.signed]; omega
      have w2' : IntKind.i64.wrap (10 * (sv : Int)) = tn := by rw [IntKind.wrap_i64]; omega
      have w3' : IntKind.i64.wrap (tn + (d : Int)) = (s' : Int) := by rw [IntKind.wrap_i64]; omega
      have w5' : IntKind.i64.wrap (d : Int) = (d : Int) := by rw [IntKind.wrap_i64]; omega
      obtain ⟨ak, hak⟩ : ∃ x : Int, ((a + 1 : Nat) : Int) = x := ⟨_, rfl⟩
      have w4' : IntKind.i64.wrap ((a : Int) + 1) = ak := by rw [IntKind.wrap_i64]; omega
      obtain ⟨df', hdf⟩ : ∃ x : Int, ak - (at_ : Int) = x := ⟨_, rfl⟩
      have w6' : IntKind.i64.wrap (ak - (at_ : Int)) = df' := by rw [IntKind.wrap_i64]; omega
      have b0 : (0 : Int) ≤ (a : Int) := by omega
      have b1 : (a : Int) < (T.length : Int) := by omega
      have H := Lib.hid hr; have HM := Lib.hid hmv
      rw [hdd, hs'] at hsc2
      have hs10 : s' < 10 ^ (j + 1) := by rw [Nat.pow_succ]; omega
      have hjj : at_ + (j + 1) ≤ T.length := by omega
      have haj : at_ + (j + 1) = a + 1 := by omega
      have Hs10 := Lib.hid hs10; have Hjj := Lib.hid hjj; have Haj := Lib.hid haj; have Hsc := Lib.hid hsc2; have Hal := Lib.hid hal; have Hle := Lib.hid hle
      by_cases hj0 : j = 0
      · have q1 : ((a : Int) == (at_ : Int)) = true := bt' (by omega)
        have q9 : decide ((9 : Int) < df') = false := df (by omega)
        subst hj0
        clear hr hmv hsc hsc2 hcj hdig hc2 hg hdd hs' htn hdf hgo h0T hs10 hjj haj hn hn9 hal hle
        go_wp2_with fail
        refine HD.out.mono ?_
        rintro e w1 ⟨rfl, hx⟩
        have hr1 := H.out.ext hx
        have x0 := hr1.x0; have x1 := hr1.x1; have f1 := hr1.f 1
        have HRd := Lib.hid hr1; have HMd := Lib.hid (HM.out.trans (Mvd.of_ext (R := R) hx))
        clear hx HD H HM hr1
        go_upto_region 3 with fail
        go_quiet (fail)
        have hr2 : Rd (w1.drewN nq) R T a ln := HRd.out.ext (ext_drewN w1 nq)
        have HM2 := Lib.hid ((HMd.out.trans (Mvd.of_ext (R := R) (ext_drewN w1 nq))).put 1 (.int .i64 ((a + 1 : Nat) : Int)))
        have HR2 := Lib.hid (hr2.put1 (a + 1))
        have y1 := hr2.x1; have g1 := hr2.f 1
        have z1 := (hr2.put1 (a + 1)).x1
        rw [hak] at HM2 HR2 z1
        clear x0 x1 f1 HRd HMd hr2
        generalize w1.drewN nq = w2 at *
        go_wp2_with fail
        go_roundg (10 - (0 + 1))
        case measure => omega
        case rel => exact ⟨0 + 1, s', rfl, by omega, rfl, Hs10.out, Hjj.out, by rw [Haj.out]; simpa using Hsc.out, by rw [Haj.out]; exact HR2.out, HM2.out⟩
      · have q1 : ((a : Int) == (at_ : Int)) = false := bf (by omega)
        have hpos : 0 < sv := by omega
        have q2 : decide ((0 : Int) < (sv : Int)) = true := dt (by omega)
        have q2' : (0 : Int) < (sv : Int) := by omega
        by_cases hj9 : j = 9
        · have q9 : decide ((9 : Int) < df') = true := dt (by omega)
          have q9' : (9 : Int) < df' := by omega
          rw [if_pos (by omega)] at hsc2
          have Ho := Lib.hid hsc2.symm
          clear hr hmv hsc hsc2 hcj hdig hc2 hg hdd hs' htn hdf hgo h0T hs10 hjj haj hn hn9 hal hle hj9 hj0 hpos
          go_wp2_with fail
          refine HD.out.mono ?_
          rintro e w1 ⟨rfl, hx⟩
          have hr1 := H.out.ext hx
          have x0 := hr1.x0; have x1 := hr1.x1; have f1 := hr1.f 1
          have HRd := Lib.hid hr1; have HMd := Lib.hid (HM.out.trans (Mvd.of_ext (R := R) hx))
          clear hx HD H HM hr1
          go_upto_region 3 with fail
          go_quiet (fail)
          have hr2 : Rd (w1.drewN nq) R T a ln := HRd.out.ext (ext_drewN w1 nq)
          have HM2 := Lib.hid ((HMd.out.trans (Mvd.of_ext (R := R) (ext_drewN w1 nq))).put 1 (.int .i64 ((a + 1 : Nat) : Int)))
          have HR2 := Lib.hid (hr2.put1 (a + 1))
          have y1 := hr2.x1; have g1 := hr2.f 1
          have z1 := (hr2.put1 (a + 1)).x1
          rw [hak] at HM2 HR2 z1
          clear x0 x1 f1 HRd HMd hr2
          generalize w1.drewN nq = w2 at *
          go_wp2_with fail
          generalize w2.setCell ⟨R, 1, none⟩ (.int .i64 ak) = w3 at *
          refine (giveUp_any R T (a + 1) ln w3 HR2.out).mono ?_
          rintro e w4 ⟨rfl, rfl⟩
          go_wp2_with fail
          exact ⟨rfl, HM2.out, Or.inr ⟨Ho.out, rfl⟩⟩
        · have q9 : decide ((9 : Int) < df') = false := df (by omega)
          rw [if_neg (by omega)] at hsc2
          have Hsc := Lib.hid hsc2
          have hj8 : j + 1 ≤ 9 := by omega
          clear hr hmv hsc hsc2 hcj hdig hc2 hg hdd hs' htn hdf hgo h0T hs10 hjj haj hn hn9 hal hle hj9 hj0 hpos
          go_wp2_with fail
          refine HD.out.mono ?_
          rintro e w1 ⟨rfl, hx⟩
          have hr1 := H.out.ext hx
          have x0 := hr1.x0; have x1 := hr1.x1; have f1 := hr1.f 1
          have HRd := Lib.hid hr1; have HMd := Lib.hid (HM.out.trans (Mvd.of_ext (R := R) hx))
          clear hx HD H HM hr1
          go_upto_region 3 with fail
          go_quiet (fail)
          have hr2 : Rd (w1.drewN nq) R T a ln := HRd.out.ext (ext_drewN w1 nq)
          have HM2 := Lib.hid ((HMd.out.trans (Mvd.of_ext (R := R) (ext_drewN w1 nq))).put 1 (.int .i64 ((a + 1 : Nat) : Int)))
          have HR2 := Lib.hid (hr2.put1 (a + 1))
          have y1 := hr2.x1; have g1 := hr2.f 1
          have z1 := (hr2.put1 (a + 1)).x1
          rw [hak] at HM2 HR2 z1
          clear x0 x1 f1 HRd HMd hr2
          generalize w1.drewN nq = w2 at *
          go_wp2_with fail
          go_roundg (10 - (j + 1))
          case measure => omega
          case rel => exact ⟨j + 1, s', rfl, hj8, rfl, Hs10.out, Hjj.out, by rw [Haj.out]; exact Hsc.out, by rw [Haj.out]; exact HR2.out, HM2.out⟩
    · have hsc2 := hsc
      rw [scan_stop (by rw [h0T]; exact hgo)] at hsc2
      have H := Lib.hid hr; have HM := Lib.hid hmv; have Haj := Lib.hid ha; have Hal := Lib.hid hal; have Hn9 := Lib.hid hn9
      by_cases hj0 : j = 0
      · have hdig : isDg T[a]? = false := by
          rcases hx : isDg T[a]? with _ | _
          · rfl
          · exact absurd ⟨hx, Or.inl hj0⟩ hgo
        rw [hdig] at HD
        rw [if_pos hj0] at hsc2
        have Ho := Lib.hid hsc2.symm
        have q1 : ((a : Int) == (at_ : Int)) = true := bt' (by omega)
        clear hr hmv hsc hsc2 hgo h0T hn hn9 hal hle hj0 hdig ha
        go_wp2_with fail
        refine HD.out.mono ?_
        rintro e w1 ⟨rfl, hx⟩
        have hr1 := H.out.ext hx
        have x1 := hr1.x1
        have HR1 := Lib.hid hr1; have HM1 := Lib.hid (HM.out.trans (Mvd.of_ext (R := R) hx))
        clear hx HD H HM hr1
        go_wp2_with fail
        refine (giveUp_any R T a ln w1 HR1.out).mono ?_
        rintro e w4 ⟨rfl, rfl⟩
        go_wp2_with fail
        exact ⟨rfl, HM1.out, Or.inr ⟨Ho.out, rfl⟩⟩
      · have q1 : ((a : Int) == (at_ : Int)) = false := bf (by omega)
        rw [if_neg hj0] at hsc2
        have Ho := Lib.hid hsc2.symm
        rcases hdig : isDg T[a]? with _ | _
        · rw [hdig] at HD
          clear hr hmv hsc hsc2 hgo h0T hn hn9 hal hle hj0 hdig ha
          go_wp2_with fail
          refine HD.out.mono ?_
          rintro e w1 ⟨rfl, hx⟩
          have hr1 := H.out.ext hx
          have x1 := hr1.x1
          have HR1 := Lib.hid hr1; have HM1 := Lib.hid (HM.out.trans (Mvd.of_ext (R := R) hx))
          clear hx HD H HM hr1
          go_wp2_with fail
          go_ret
          exact ⟨HM1.out, Or.inl ⟨sv, j, Ho.out, rfl, by rw [Haj.out]; exact HR1.out, by rw [Haj.out]; exact Hal.out, Hn9.out⟩⟩
        · rw [hdig] at HD
          have hz : sv = 0 := by
            rcases Nat.eq_zero_or_pos sv with h1 | h1
            · exact h1
            · exact absurd ⟨hdig, Or.inr h1⟩ hgo
          subst hz
          clear hr hmv hsc hsc2 hgo h0T hn hn9 hal hle hj0 hdig ha
          go_wp2_with fail
          refine HD.out.mono ?_
          rintro e w1 ⟨rfl, hx⟩
          have hr1 := H.out.ext hx
          have x1 := hr1.x1
          have HR1 := Lib.hid hr1; have HM1 := Lib.hid (HM.out.trans (Mvd.of_ext (R := R) hx))
          clear hx HD H HM hr1
          go_wp2_with fail
          go_ret
          exact ⟨HM1.out, Or.inl ⟨0, j, Ho.out, rfl, by rw [Haj.out]; exact HR1.out, by rw [Haj.out]; exact Hal.out, Hn9.out⟩⟩

end Go.Proofs.YtfjbhiihfibbaaaDoor

/-
  The reader: a number and a condition of any text.
-/
namespace Go.Proofs.YtfjbhiihfibbaaaDoor
open Go.RowKit

/-- A blank and a number: what it is, and how many bytes it takes. -/
def rdNum (L : List UInt8) : Option (Nat × Nat) :=
  if Lib.hasPrefix L [32] = true then (scanD (L.drop 1) 0 0).map (fun x => (x.1, x.2 + 1)) else none
/-- A blank and a condition. -/
def rdCnd (L : List UInt8) : Option (Int × Nat) :=
  if Lib.hasPrefix L [32] = true then
    (if Lib.hasPrefix (L.drop 1) [33] = true then (scanD (L.drop 2) 0 0).map (fun x => (-((x.1 : Int) + 1), x.2 + 2)) else (scanD (L.drop 1) 0 0).map (fun x => ((x.1 : Int) + 1, x.2 + 1)))
  else none

set_option maxHeartbeats 1000000 in
theorem number_any (R : Nat) (T : List UInt8) (at_ ln : Nat) (w : World) (h : Rd w R T at_ ln) (hat : at_ ≤ T.length) (hT : T.length ≤ 1000000) :
    Calls Tryd.prog 60 #[.pointer (some ⟨R, 0, none⟩)] w fun e w' => Mvd R w w' ∧ ((∃ n k : Nat, rdNum (T.drop at_) = some (n, k) ∧ e = .returned (.int .i64 (n : Int)) ∧ Rd w' R T (at_ + k) ln ∧ at_ + k ≤ T.length ∧ n < 1000000000) ∨ (rdNum (T.drop at_) = none ∧ e = .panicked (gup ln))) := by
  obtain ⟨o, ho⟩ : ∃ o, rdNum (T.drop at_) = o := ⟨_, rfl⟩
  rw [ho]
  unfold rdNum at ho
  by_cases hp : Lib.hasPrefix (T.drop at_) [32] = true
  · rw [if_pos hp, List.drop_drop] at ho
    have hl := pre_len hp
    have hl1 : at_ + 1 ≤ T.length := by simp at hl; omega
    have HN := Lib.hid (need_yes R T at_ ln [32] w h hat hT hp)
    have HD := Lib.hid (fun wx (hx : Rd wx R T (at_ + [(32 : UInt8)].length) ln) => digits_any R T (at_ + 1) ln wx hx hl1 hT)
    have Ho := Lib.hid ho
    clear h hp ho hl hl1
    go_enter Tryd.func60, Tryd.ntmps60
    go_wp2_with fail
    refine HN.out.mono ?_
    rintro e w1 ⟨rfl, hr, hm⟩
    have HG := Lib.hid (HD.out w1 hr); have HM := Lib.hid hm
    clear hr hm
    go_wp2_with fail
    refine HG.out.mono ?_
    rintro e w2 ⟨hm2, (⟨n, k, hs, rfl, hr2, hl2, hn⟩ | ⟨hs, rfl⟩)⟩
    · have ho := Ho.out
      rw [hs] at ho
      have Ho2 := Lib.hid (show o = some (n, k + 1) from ho.symm)
      have HR2 := Lib.hid hr2; have HM2 := Lib.hid (HM.out.trans hm2); have Hl2 := Lib.hid hl2; have Hn := Lib.hid hn
      clear hr2 hm2 hs ho hl2 hn
      go_wp2_with fail
      go_ret
      exact ⟨HM2.out, Or.inl ⟨n, k + 1, Ho2.out, rfl, by rw [show at_ + (k + 1) = at_ + 1 + k by omega]; exact HR2.out, by have := Hl2.out; omega, Hn.out⟩⟩
    · have ho := Ho.out
      rw [hs] at ho
      have Ho2 := Lib.hid (show o = none from ho.symm)
      have HM2 := Lib.hid (HM.out.trans hm2)
      clear hm2 hs ho
      go_wp2_with fail
      exact ⟨rfl, HM2.out, Or.inr ⟨Ho2.out, rfl⟩⟩
  · rw [if_neg hp] at ho
    have hpf : Lib.hasPrefix (T.drop at_) [32] = false := by simpa using hp
    have HN := Lib.hid (need_no R T at_ ln [32] w h hat hpf)
    have Ho := Lib.hid ho.symm
    clear h hp ho hpf
    go_enter Tryd.func60, Tryd.ntmps60
    go_wp2_with fail
    refine HN.out.mono ?_
    rintro e w1 ⟨rfl, hx⟩
    have HM := Lib.hid (Mvd.of_ext (R := R) hx)
    clear hx
    go_wp2_with fail
    exact ⟨rfl, HM.out, Or.inr ⟨Ho.out, rfl⟩⟩

set_option maxHeartbeats 2000000 in
theorem readCond_any (R : Nat) (T : List UInt8) (at_ ln : Nat) (w : World) (h : Rd w R T at_ ln) (hat : at_ ≤ T.length) (hT : T.length ≤ 1000000) :
    Calls Tryd.prog 91 #[.pointer (some ⟨R, 0, none⟩)] w fun e w' => Mvd R w w' ∧ ((∃ (t : Int) (k : Nat), rdCnd (T.drop at_) = some (t, k) ∧ e = .returned (.int .i64 t) ∧ Rd w' R T (at_ + k) ln ∧ at_ + k ≤ T.length ∧ (-1000000000 ≤ t ∧ t ≤ 1000000000)) ∨ (rdCnd (T.drop at_) = none ∧ e = .panicked (gup ln))) := by
  obtain ⟨o, ho⟩ : ∃ o, rdCnd (T.drop at_) = o := ⟨_, rfl⟩
  rw [ho]
  unfold rdCnd at ho
  by_cases hp : Lib.hasPrefix (T.drop at_) [32] = true
  · rw [if_pos hp, List.drop_drop, List.drop_drop] at ho
    have hl := pre_len hp
    have hl1 : at_ + [(32 : UInt8)].length ≤ T.length := by simp at hl ⊢; omega
    have HN := Lib.hid (need_yes R T at_ ln [32] w h hat hT hp)
    by_cases hq : Lib.hasPrefix (T.drop (at_ + 1)) [33] = true
    · rw [if_pos hq] at ho
      have hl' := pre_len hq
      have hl2 : at_ + 2 ≤ T.length := by simp at hl'; omega
      have HT := Lib.hid (fun wx (hx : Rd wx R T (at_ + [(32 : UInt8)].length) ln) => take_yes R T (at_ + [(32 : UInt8)].length) ln [33] wx hx hl1 hT hq)
      have HD := Lib.hid (fun wx (hx : Rd wx R T (at_ + [(32 : UInt8)].length + [(33 : UInt8)].length) ln) => digits_any R T (at_ + 2) ln wx hx hl2 hT)
      have Ho := Lib.hid ho
      clear h hp ho hl hl1 hq hl' hl2
      go_enter Tryd.func91, Tryd.ntmps91
      go_wp2_with fail
      refine HN.out.mono ?_
      rintro e w1 ⟨rfl, hr, hm⟩
      have HG := Lib.hid (HT.out w1 hr); have HM := Lib.hid hm
      clear hr hm
      go_wp2_with fail
      refine HG.out.mono ?_
      rintro e w2 ⟨rfl, hr2, hm2⟩
      have HG2 := Lib.hid (HD.out w2 hr2); have HM2 := Lib.hid (HM.out.trans hm2)
      clear hr2 hm2
      go_wp2_with fail
      refine HG2.out.mono ?_
      rintro e w3 ⟨hm3, (⟨n, k, hs, rfl, hr3, hl3, hn⟩ | ⟨hs, rfl⟩)⟩
      · have ho := Ho.out
        rw [hs] at ho
        have Ho2 := Lib.hid (show o = some (-((n : Int) + 1), k + 2) from ho.symm)
        have HR3 := Lib.hid hr3; have HM3 := Lib.hid (HM2.out.trans hm3); have Hl3 := Lib.hid hl3; have Hn := Lib.hid hn
        obtain ⟨n1, hn1⟩ : ∃ x : Int, (n : Int) + 1 = x := ⟨_, rfl⟩
        have w1' : IntKind.i64.wrap ((n : Int) + 1) = n1 := by rw [IntKind.wrap_i64]; omega
        have w2' : IntKind.i64.wrap (-n1) = -n1 := by rw [IntKind.wrap_i64]; omega
        have Hn1 := Lib.hid hn1
        rw [hn1] at Ho2
        clear hr3 hm3 hs ho hl3 hn hn1
        go_wp2_with fail
        go_ret
        exact ⟨HM3.out, Or.inl ⟨-n1, k + 2, Ho2.out, rfl, by rw [show at_ + (k + 2) = at_ + 2 + k by omega]; exact HR3.out, by have := Hl3.out; omega, by have := Hn1.out; have := Hn.out; omega, by have := Hn1.out; have := Hn.out; omega⟩⟩
      · have ho := Ho.out
        rw [hs] at ho
        have Ho2 := Lib.hid (show o = none from ho.symm)
        have HM3 := Lib.hid (HM2.out.trans hm3)
        clear hm3 hs ho
        go_wp2_with fail
        exact ⟨rfl, HM3.out, Or.inr ⟨Ho2.out, rfl⟩⟩
    · rw [if_neg hq] at ho
      have hqf : Lib.hasPrefix (T.drop (at_ + 1)) [33] = false := by simpa using hq
      have HT := Lib.hid (fun wx (hx : Rd wx R T (at_ + [(32 : UInt8)].length) ln) => take_no R T (at_ + [(32 : UInt8)].length) ln [33] wx hx hl1 hqf)
      have HD := Lib.hid (fun wx (hx : Rd wx R T (at_ + [(32 : UInt8)].length) ln) => digits_any R T (at_ + 1) ln wx hx hl1 hT)
      have Ho := Lib.hid ho
      clear h hp ho hl hl1 hq hqf
      go_enter Tryd.func91, Tryd.ntmps91
      go_wp2_with fail
      refine HN.out.mono ?_
      rintro e w1 ⟨rfl, hr, hm⟩
      have HG := Lib.hid (HT.out w1 hr); have HM := Lib.hid hm; have HR1 := Lib.hid hr
      clear hr hm
      go_wp2_with fail
      refine HG.out.mono ?_
      rintro e w2 ⟨rfl, hx2⟩
      have HG2 := Lib.hid (HD.out w2 (HR1.out.ext hx2)); have HM2 := Lib.hid (HM.out.trans (Mvd.of_ext (R := R) hx2))
      clear hx2
      go_wp2_with fail
      refine HG2.out.mono ?_
      rintro e w3 ⟨hm3, (⟨n, k, hs, rfl, hr3, hl3, hn⟩ | ⟨hs, rfl⟩)⟩
      · have ho := Ho.out
        rw [hs] at ho
        have Ho2 := Lib.hid (show o = some ((n : Int) + 1, k + 1) from ho.symm)
        have HR3 := Lib.hid hr3; have HM3 := Lib.hid (HM2.out.trans hm3); have Hl3 := Lib.hid hl3; have Hn := Lib.hid hn
        obtain ⟨n1, hn1⟩ : ∃ x : Int, (n : Int) + 1 = x := ⟨_, rfl⟩
        have w1' : IntKind.i64.wrap ((n : Int) + 1) = n1 := by rw [IntKind.wrap_i64]; omega
        have Hn1 := Lib.hid hn1
        rw [hn1] at Ho2
        clear hr3 hm3 hs ho hl3 hn hn1
        go_wp2_with fail
        go_ret
        exact ⟨HM3.out, Or.inl ⟨n1, k + 1, Ho2.out, rfl, by rw [show at_ + (k + 1) = at_ + 1 + k by omega]; exact HR3.out, by have := Hl3.out; omega, by have := Hn1.out; have := Hn.out; omega, by have := Hn1.out; have := Hn.out; omega⟩⟩
      · have ho := Ho.out
        rw [hs] at ho
        have Ho2 := Lib.hid (show o = none from ho.symm)
        have HM3 := Lib.hid (HM2.out.trans hm3)
        clear hm3 hs ho
        go_wp2_with fail
        exact ⟨rfl, HM3.out, Or.inr ⟨Ho2.out, rfl⟩⟩
  · rw [if_neg hp] at ho
    have hpf : Lib.hasPrefix (T.drop at_) [32] = false := by simpa using hp
    have HN := Lib.hid (need_no R T at_ ln [32] w h hat hpf)
    have Ho := Lib.hid ho.symm
    clear h hp ho hpf
    go_enter Tryd.func91, Tryd.ntmps91
    go_wp2_with fail
    refine HN.out.mono ?_
    rintro e w1 ⟨rfl, hx⟩
    have HM := Lib.hid (Mvd.of_ext (R := R) hx)
    clear hx
    go_wp2_with fail
    exact ⟨rfl, HM.out, Or.inr ⟨Ho.out, rfl⟩⟩

end Go.Proofs.YtfjbhiihfibbaaaDoor

/-
  The reader: a kind's word of any text.
-/
namespace Go.Proofs.YtfjbhiihfibbaaaDoor
open Go.RowKit

/-- The first kind from j on (f of them are left) whose word comes next, with a blank behind it; how long the word is. -/
def rdKindF (L : List UInt8) : Nat → Nat → Option (Nat × Nat)
  | 0, _ => none
  | f + 1, j => if Lib.hasPrefix L ((wordOf j).data.toList ++ [32]) = true then some (j, (wordOf j).data.toList.length) else rdKindF L f (j + 1)
def rdKind (L : List UInt8) : Option (Nat × Nat) := rdKindF L 6 1

theorem pre_front {L p q : List UInt8} (h : Lib.hasPrefix L (p ++ q) = true) : Lib.hasPrefix L p = true := by
  obtain ⟨r, hr⟩ := List.isPrefixOf_iff_prefix.1 h
  exact List.isPrefixOf_iff_prefix.2 ⟨q ++ r, by rw [← hr, List.append_assoc]⟩

set_option maxHeartbeats 2000000 in
theorem kind_any (R : Nat) (T : List UInt8) (at_ ln : Nat) (W0 w : World) (hE : Ext W0 w) (hS : Shp W0) (h : Rd w R T at_ ln) (hat : at_ ≤ T.length) (hT : T.length ≤ 1000000) :
    Calls Tryd.prog 78 #[.pointer (some ⟨R, 0, none⟩)] w fun e w' => Mvd R w w' ∧ ((∃ j k : Nat, rdKind (T.drop at_) = some (j, k) ∧ e = .returned (.int .i64 (j : Int)) ∧ Rd w' R T (at_ + k) ln ∧ at_ + k ≤ T.length ∧ 1 ≤ j ∧ j ≤ 6) ∨ (rdKind (T.drop at_) = none ∧ e = .panicked (gup ln))) := by
  obtain ⟨o, ho⟩ : ∃ o, rdKind (T.drop at_) = o := ⟨_, rfl⟩
  rw [ho]
  have HS := Lib.hid (hS.ext hE); have HR := Lib.hid h; have Ho := Lib.hid (show rdKindF (T.drop at_) 6 1 = o from ho)
  clear hS h hE ho
  go_enter Tryd.func78, Tryd.ntmps78
  go_wp2_with fail
  go_loopg [3] 6 (fun kk s3 wx => ∃ j : Nat, s3 = .int .i64 (j : Int) ∧ 1 ≤ j ∧ j ≤ 7 ∧ 7 - j = kk ∧ rdKindF (T.drop at_) (7 - j) j = o ∧ Ext w wx)
  case atStart => exact ⟨1, rfl, by omega, by omega, by omega, Ho.out, Ext.refl w⟩
  case round =>
    clear Ho
    obtain ⟨j, rfl, hj1, hj2, hk, ho, hx⟩ := hrel
    by_cases hj7 : j = 7
    · subst hj7
      have Ho := Lib.hid (show o = none from ho.symm)
      have HX := Lib.hid hx
      have HG := Lib.hid (giveUp_any R T at_ ln wr (HR.out.ext hx))
      clear hx ho
      go_wp2_with fail
      refine HG.out.mono ?_
      rintro e w1 ⟨rfl, rfl⟩
      go_wp2_with fail
      exact ⟨rfl, Mvd.of_ext HX.out, Or.inr ⟨Ho.out, rfl⟩⟩
    · have q1 : (j : Int) ≤ 6 := by omega
      have q2 : decide ((j : Int) ≤ 6) = true := dt q1
      have i0 : (0 : Int) ≤ (j : Int) := by omega
      have i1 : (j : Int) < 7 := by omega
      obtain ⟨t0, _, _, _, _⟩ := (HS.out.ext hx) j hj1 (by omega)
      have hwj := word_len j hj1 (by omega)
      rw [show 7 - j = (7 - (j + 1)) + 1 by omega, rdKindF] at ho
      obtain ⟨wl, hwl'⟩ : ∃ x, (wordOf j).data.toList = x := ⟨_, rfl⟩
      have hwd : wordOf j = ⟨wl.toArray⟩ := by rw [← hwl']
      rw [hwd] at t0
      rw [hwl'] at hwj ho
      have hs1 : ∀ W : World, (Op.stringOp .add ⟨wl.toArray⟩ ⟨#[32]⟩).run Tryd.prog W = .ok (.string ⟨(wl ++ [32]).toArray⟩) W := fun W => by
        rw [run_string_add_sum W _ _ (by simp [ByteArray.size]; omega)]
        rfl
      have HSe := Lib.hid (sees_any R T at_ ln (wl ++ [32]) wr (HR.out.ext hx) hat)
      have HX := Lib.hid hx
      by_cases hp : Lib.hasPrefix (T.drop at_) (wl ++ [32]) = true
      · have hp2 := pre_front hp
        have hlw := pre_len hp2
        rw [if_pos hp] at ho
        rw [hp] at HSe
        have HNe := Lib.hid (fun wx (hx' : Ext wr wx) => need_yes R T at_ ln wl wx ((HR.out.ext hx).ext hx') hat hT hp2)
        have Ho := Lib.hid ho.symm; have Hlw := Lib.hid (show at_ + wl.length ≤ T.length by omega); have HJ := Lib.hid (And.intro hj1 (show j ≤ 6 by omega))
        obtain ⟨wb, hwb⟩ : ∃ x, wl ++ [(32 : UInt8)] = x := ⟨_, rfl⟩
        rw [hwb] at hs1 HSe
        clear hx hwl' hwd hwb hp hp2 hlw ho
        go_wp2_with fail
        refine HSe.out.mono ?_
        rintro e w1 ⟨rfl, hx1⟩
        have HX1 := Lib.hid hx1
        clear hx1
        go_wp2_with fail
        refine (HNe.out w1 HX1.out).mono ?_
        rintro e w2 ⟨rfl, hr2, hm2⟩
        have HR2 := Lib.hid hr2; have HM2 := Lib.hid ((Mvd.of_ext (R := R) (HX.out.trans HX1.out)).trans hm2)
        clear hr2 hm2
        go_wp2_with fail
        go_ret
        exact ⟨HM2.out, Or.inl ⟨j, wl.length, Ho.out, rfl, HR2.out, Hlw.out, HJ.out⟩⟩
      · rw [if_neg hp] at ho
        have hpf : Lib.hasPrefix (T.drop at_) (wl ++ [32]) = false := by simpa using hp
        rw [hpf] at HSe
        have Ho := Lib.hid ho
        obtain ⟨wb, hwb⟩ : ∃ x, wl ++ [(32 : UInt8)] = x := ⟨_, rfl⟩
        rw [hwb] at hs1 HSe
        clear hx hwl' hwd hwb hp hpf ho
        go_wp2_with fail
        refine HSe.out.mono ?_
        rintro e w1 ⟨rfl, hx1⟩
        have HX1 := Lib.hid (HX.out.trans hx1)
        clear hx1
        go_wp2_with fail
        go_roundg (7 - (j + 1))
        case measure => omega
        case rel => exact ⟨j + 1, by go_num, by omega, by omega, rfl, Ho.out, HX1.out⟩

end Go.Proofs.YtfjbhiihfibbaaaDoor
