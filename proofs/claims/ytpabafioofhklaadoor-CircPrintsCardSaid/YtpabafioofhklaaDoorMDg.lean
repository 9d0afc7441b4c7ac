/-
  The reader: numbers, conditions, kinds.
-/
import Derived.Test.YtpabafioofhklaaDoorMDf

namespace Go.Proofs.YtpabafioofhklaaDoor
open Go.RowKit

theorem pre_of {T p r : List UInt8} {k : Nat} (h : T.drop k = p ++ r) : Lib.hasPrefix (T.drop k) p = true := by
  rw [h]; exact List.isPrefixOf_iff_prefix.2 ⟨r, rfl⟩
theorem drop_step {T p r : List UInt8} {k : Nat} (h : T.drop k = p ++ r) : T.drop (k + p.length) = r := by
  rw [← List.drop_drop, h, List.drop_left]
theorem drop_le {T : List UInt8} {k : Nat} {c : UInt8} {r : List UInt8} (h : T.drop k = c :: r) : k < T.length := by
  rcases Nat.lt_or_ge k T.length with h1 | h1
  · exact h1
  · rw [List.drop_eq_nil_of_le h1] at h; cases h
theorem drop_le' {T : List UInt8} {k : Nat} {p r : List UInt8} (h : T.drop k = p ++ r) (hp : p ≠ []) : k < T.length := by
  cases p with
  | nil => exact absurd rfl hp
  | cons c q => exact drop_le h

set_option maxHeartbeats 1000000 in
theorem number_yes (R : Nat) (T : List UInt8) (at_ ln : Nat) (w : World) (h : Rd w R T at_ ln) (hT : T.length ≤ 1000000) (i : Int) (h0 : 0 ≤ i) (hi : i < 100) (c : UInt8) (r : List UInt8) (hd : T.drop at_ = numL i ++ c :: r) (hc : c.toNat < 48) :
    Calls Tryd.prog 56 #[.pointer (some ⟨R, 0, none⟩)] w fun e w' => e = .returned (.int .i64 i) ∧ Rd w' R T (at_ + (numL i).length) ln ∧ Mvd R w w' := by
  have hd1 : T.drop at_ = [32] ++ (Lib.decDigits i.toNat ++ c :: r) := hd
  have hd2 := drop_step hd1
  have hlt := drop_le hd
  have hln : at_ + (numL i).length = at_ + [32].length + (Lib.decDigits i.toNat).length := by simp [numL]; omega
  rw [hln]
  have HN := Lib.hid (need_yes R T at_ ln [32] w h (by omega) hT (pre_of hd1))
  have HD := Lib.hid hd2
  clear h hd hd1 hd2 hln
  go_enter Tryd.func56, Tryd.ntmps56
  go_wp2_with fail
  refine HN.out.mono ?_
  rintro e w1 ⟨rfl, hr, hm⟩
  have HG := Lib.hid (digits_yes R T _ ln w1 hr hT i h0 hi c r HD.out hc)
  have HM := Lib.hid hm
  clear hr hm
  go_wp2_with fail
  refine HG.out.mono ?_
  rintro e w2 ⟨rfl, hr2, hm2⟩
  have HR2 := Lib.hid hr2; have HM2 := Lib.hid (HM.out.trans hm2)
  clear hr2 hm2
  go_wp2_with fail
  go_ret
  exact ⟨rfl, HR2.out, HM2.out⟩

theorem dd_head {i : Nat} (h : i < 100) : ∃ (c : UInt8) (r : List UInt8), Lib.decDigits i = c :: r ∧ 48 ≤ c.toNat ∧ c.toNat ≤ 57 := by
  by_cases h1 : i < 10
  · refine ⟨_, _, Lib.decDigits_one h1, ?_⟩
    simp [UInt8.toNat_ofNat']; omega
  · refine ⟨_, _, Lib.decDigits_two h1 h, ?_⟩
    simp [UInt8.toNat_ofNat']; omega
theorem pre_not {l : List UInt8} {c d : UInt8} {r : List UInt8} (h : l = c :: r) (hne : c ≠ d) (q : List UInt8) : Lib.hasPrefix l (d :: q) = false := by
  rw [h]
  show (d == c && _) = false
  have : (d == c) = false := by simpa using fun e => hne e.symm
  rw [this]; rfl

set_option maxHeartbeats 1000000 in
theorem condition_yes (R : Nat) (T : List UInt8) (at_ ln : Nat) (w : World) (h : Rd w R T at_ ln) (hT : T.length ≤ 1000000) (t : Int) (ht0 : t ≠ 0) (ht : -12 ≤ t ∧ t ≤ 12) (c : UInt8) (r : List UInt8) (hd : T.drop at_ = cndL t ++ c :: r) (hc : c.toNat < 48) :
    Calls Tryd.prog 76 #[.pointer (some ⟨R, 0, none⟩)] w fun e w' => e = .returned (.int .i64 t) ∧ Rd w' R T (at_ + (cndL t).length) ln ∧ Mvd R w w' := by
  have hb0 : 0 ≤ bitOf t := by unfold bitOf; split <;> omega
  have hb1 : bitOf t < 100 := by unfold bitOf; split <;> omega
  by_cases hn : t < 0
  · have hL : cndL t = 32 :: 33 :: Lib.decDigits (bitOf t).toNat := by unfold cndL; rw [if_pos hn]
    have hbt : bitOf t = -t - 1 := by unfold bitOf; rw [if_neg (by omega)]
    rw [hL] at hd ⊢
    have hd1 : T.drop at_ = [32] ++ (33 :: (Lib.decDigits (bitOf t).toNat ++ c :: r)) := hd
    have hd2 := drop_step hd1
    have hd2' : T.drop (at_ + [(32 : UInt8)].length) = [33] ++ (Lib.decDigits (bitOf t).toNat ++ c :: r) := hd2
    have hd3 := drop_step hd2'
    have hlt := drop_le hd
    have hlt2 := drop_le hd2
    have hln : at_ + (32 :: 33 :: Lib.decDigits (bitOf t).toNat).length = at_ + [(32 : UInt8)].length + [(33 : UInt8)].length + (Lib.decDigits (bitOf t).toNat).length := by simp; omega
    rw [hln]
    have HN := Lib.hid (need_yes R T at_ ln [32] w h (by omega) hT (pre_of hd1))
    have HD := Lib.hid hd3; have HP := Lib.hid (pre_of hd2')
    have HQ := Lib.hid (show -(bitOf t + 1) = t by omega)
    obtain ⟨bb, hbb⟩ : ∃ x, bitOf t = x := ⟨_, rfl⟩
    rw [hbb] at HD HQ hb0 hb1 ⊢
    clear h hd hd1 hd2 hd3 hd2' hln hL hbb hbt hlt hn
    go_enter Tryd.func76, Tryd.ntmps76
    go_wp2_with fail
    refine HN.out.mono ?_
    rintro e w1 ⟨rfl, hr, hm⟩
    have HT := Lib.hid (take_yes R T _ ln [33] w1 hr (Nat.le_of_lt hlt2) hT HP.out)
    have HM := Lib.hid hm
    clear hr hm
    go_wp2_with fail
    refine HT.out.mono ?_
    rintro e w2 ⟨rfl, hr2, hm2⟩
    have HG := Lib.hid (digits_yes R T _ ln w2 hr2 hT bb hb0 hb1 c r HD.out hc)
    have HM2 := Lib.hid (HM.out.trans hm2)
    clear hr2 hm2
    go_wp2_with fail
    refine HG.out.mono ?_
    rintro e w3 ⟨rfl, hr3, hm3⟩
    have HR3 := Lib.hid hr3; have HM3 := Lib.hid (HM2.out.trans hm3)
    clear hr3 hm3
    go_wp2_with fail
    go_ret
    exact ⟨congrArg (fun b => Ending.returned (Value.int .i64 b)) HQ.out, HR3.out, HM3.out⟩
  · have hL : cndL t = 32 :: Lib.decDigits (bitOf t).toNat := by unfold cndL; rw [if_neg hn]; rfl
    have hbt : bitOf t = t - 1 := by unfold bitOf; rw [if_pos (by omega)]
    rw [hL] at hd ⊢
    have hd1 : T.drop at_ = [32] ++ (Lib.decDigits (bitOf t).toNat ++ c :: r) := hd
    have hd2 := drop_step hd1
    have hlt := drop_le hd
    obtain ⟨c', r', hc', h48, h57⟩ := dd_head (i := (bitOf t).toNat) (by omega)
    have hlt2 : at_ + [(32 : UInt8)].length < T.length := by rw [hc'] at hd2; exact drop_le hd2
    have hnp : Lib.hasPrefix (T.drop (at_ + [(32 : UInt8)].length)) [33] = false := by
      rw [hc'] at hd2
      exact pre_not hd2 (fun e => by rw [e] at h48; exact absurd h48 (by decide)) []
    have hln : at_ + (32 :: Lib.decDigits (bitOf t).toNat).length = at_ + [(32 : UInt8)].length + (Lib.decDigits (bitOf t).toNat).length := by simp; omega
    rw [hln]
    have HN := Lib.hid (need_yes R T at_ ln [32] w h (by omega) hT (pre_of hd1))
    have HD := Lib.hid hd2; have HP := Lib.hid hnp
    have hw1 : IntKind.i64.wrap (bitOf t + 1) = t := by rw [IntKind.wrap_i64]; omega
    obtain ⟨bb, hbb⟩ : ∃ x, bitOf t = x := ⟨_, rfl⟩
    rw [hbb] at HD hw1 hb0 hb1 ⊢
    clear h hd hd1 hd2 hln hL hbb hbt hlt hnp hc' h48 h57 hn
    go_enter Tryd.func76, Tryd.ntmps76
    go_wp2_with fail
    refine HN.out.mono ?_
    rintro e w1 ⟨rfl, hr, hm⟩
    have HT := Lib.hid (take_no R T _ ln [33] w1 hr (Nat.le_of_lt hlt2) HP.out)
    have HM := Lib.hid hm; have HR := Lib.hid hr
    clear hr hm
    go_wp2_with fail
    refine HT.out.mono ?_
    rintro e w2 ⟨rfl, hx2⟩
    have HG := Lib.hid (digits_yes R T _ ln w2 (HR.out.ext hx2) hT bb hb0 hb1 c r HD.out hc)
    have HM2 := Lib.hid (HM.out.trans (Mvd.of_ext hx2))
    clear hx2
    go_wp2_with fail
    refine HG.out.mono ?_
    rintro e w3 ⟨rfl, hr3, hm3⟩
    have HR3 := Lib.hid hr3; have HM3 := Lib.hid (HM2.out.trans hm3)
    clear hr3 hm3
    go_wp2_with fail
    go_ret
    exact ⟨rfl, HR3.out, HM3.out⟩

theorem word_not (j kn : Nat) (r : List UInt8) (h1 : 1 ≤ j) (h2 : j < kn) (h3 : kn ≤ 6) : Lib.hasPrefix ((wordOf kn).data.toList ++ 32 :: r) ((wordOf j).data.toList ++ [32]) = false := by
  have hj : j = 1 ∨ j = 2 ∨ j = 3 ∨ j = 4 ∨ j = 5 := by omega
  have hk : kn = 2 ∨ kn = 3 ∨ kn = 4 ∨ kn = 5 ∨ kn = 6 := by omega
  rcases hj with rfl | rfl | rfl | rfl | rfl <;> rcases hk with rfl | rfl | rfl | rfl | rfl <;> first | omega | rfl
theorem word_len (k : Nat) (h1 : 1 ≤ k) (h2 : k ≤ 6) : 1 ≤ (wordOf k).data.toList.length ∧ (wordOf k).data.toList.length ≤ 7 := by
  have hk : k = 1 ∨ k = 2 ∨ k = 3 ∨ k = 4 ∨ k = 5 ∨ k = 6 := by omega
  rcases hk with rfl | rfl | rfl | rfl | rfl | rfl <;> decide

set_option maxHeartbeats 2000000 in
theorem kind_yes (R : Nat) (T : List UInt8) (at_ ln : Nat) (W0 w : World) (hE : Ext W0 w) (hS : Shp W0) (h : Rd w R T at_ ln) (hT : T.length ≤ 1000000) (kn : Nat) (h1 : 1 ≤ kn) (h6 : kn ≤ 6) (r : List UInt8) (hd : T.drop at_ = (wordOf kn).data.toList ++ 32 :: r) :
    Calls Tryd.prog 69 #[.pointer (some ⟨R, 0, none⟩)] w fun e w' => e = .returned (.int .i64 (kn : Int)) ∧ Rd w' R T (at_ + (wordOf kn).data.toList.length) ln ∧ Mvd R w w' := by
  have hwl := word_len kn h1 h6
  have hlt : at_ < T.length := drop_le' hd (by intro e; rw [e] at hwl; simp at hwl)
  have HS := Lib.hid (hS.ext hE); have HR := Lib.hid h; have HD := Lib.hid hd
  clear hS h hd hE
  go_enter Tryd.func69, Tryd.ntmps69
  go_wp2_with fail
  go_loopg [3] (kn - 1) (fun kk s3 wx => ∃ j : Nat, s3 = .int .i64 (j : Int) ∧ 1 ≤ j ∧ j ≤ kn ∧ kn - j = kk ∧ Ext w wx)
  case atStart => exact ⟨1, rfl, by omega, h1, by omega, Ext.refl w⟩
  case round =>
    obtain ⟨j, rfl, hj1, hj2, hk, hx⟩ := hrel
    have q1 : (j : Int) ≤ 6 := by omega
    have q2 : decide ((j : Int) ≤ 6) = true := dt q1
    have i0 : (0 : Int) ≤ (j : Int) := by omega
    have i1 : (j : Int) < 7 := by omega
    obtain ⟨t0, _, _, _, _⟩ := (HS.out.ext hx) j hj1 (by omega)
    have hwj := word_len j hj1 (by omega)
    obtain ⟨wl, hwl'⟩ : ∃ x, (wordOf j).data.toList = x := ⟨_, rfl⟩
    have hwd : wordOf j = ⟨wl.toArray⟩ := by rw [← hwl']
    rw [hwd] at t0
    rw [hwl'] at hwj
    have hs1 : ∀ W : World, (Op.stringOp .add ⟨wl.toArray⟩ ⟨#[32]⟩).run Tryd.prog W = .ok (.string ⟨(wl ++ [32]).toArray⟩) W := fun W => by
      rw [run_string_add_sum W _ _ (by simp [ByteArray.size]; omega)]
      rfl
    obtain ⟨wb, hwb⟩ : ∃ x, wl ++ [(32 : UInt8)] = x := ⟨_, rfl⟩
    rw [hwb] at hs1
    have HSe := Lib.hid (sees_any R T at_ ln wb wr (HR.out.ext hx) (Nat.le_of_lt hlt))
    have HX := Lib.hid hx
    by_cases hjk : j = kn
    · have hp : Lib.hasPrefix (T.drop at_) wb = true := by
        rw [HD.out, ← hwb, ← hwl', hjk]
        exact List.isPrefixOf_iff_prefix.2 ⟨r, by simp⟩
      have hp2 : Lib.hasPrefix (T.drop at_) wl = true := by
        rw [HD.out, ← hwl', hjk]
        exact List.isPrefixOf_iff_prefix.2 ⟨32 :: r, rfl⟩
      rw [hp] at HSe
      have HNe := Lib.hid (fun wx (hx' : Ext wr wx) => need_yes R T at_ ln wl wx ((HR.out.ext hx).ext hx') (Nat.le_of_lt hlt) hT hp2)
      have hll : (wordOf kn).data.toList = wl := by rw [← hwl', hjk]
      have Hll := Lib.hid hll
      have HJ := Lib.hid hjk
      clear hx hwl' hwd hwb hp hp2 hll hjk
      go_wp2_with fail
      refine HSe.out.mono ?_
      rintro e w1 ⟨rfl, hx1⟩
      have HX1 := Lib.hid hx1
      clear hx1
      go_wp2_with fail
      refine (HNe.out w1 HX1.out).mono ?_
      rintro e w2 ⟨rfl, hr2, hm2⟩
      have HR2 := Lib.hid hr2; have HM2 := Lib.hid ((Mvd.of_ext (R := R) (HX.out.trans HX1.out)).trans hm2)
      clear hr2 hm2
      go_wp2_with fail
      go_ret
      exact ⟨congrArg (fun b : Nat => Ending.returned (Value.int .i64 (b : Int))) HJ.out, by rw [Hll.out]; exact HR2.out, HM2.out⟩
    · have hp : Lib.hasPrefix (T.drop at_) wb = false := by
        rw [HD.out, ← hwb, ← hwl']
        exact word_not j kn r hj1 (by omega) h6
      rw [hp] at HSe
      clear hx hwl' hwd hwb hp
      go_wp2_with fail
      refine HSe.out.mono ?_
      rintro e w1 ⟨rfl, hx1⟩
      have HX1 := Lib.hid (HX.out.trans hx1)
      clear hx1
      go_wp2_with fail
      go_roundg (kn - (j + 1))
      case measure => omega
      case rel => exact ⟨j + 1, by go_num, by omega, by omega, rfl, HX1.out⟩

end Go.Proofs.YtpabafioofhklaaDoor
