/-
  Lists: what stands in one; conditions; controls. (The program's, and the reference's member.)
-/
import Derived.Test.YtpabafioofhklaaDoorMCa

namespace Go.Proofs.YtpabafioofhklaaDoor
open Go.RowKit

theorem mem_take_iff (l : List Int) (x : Int) (i : Nat) : x ∈ l.take i ↔ ∃ t, t < i ∧ t < l.length ∧ l.getD t 0 = x := by
  constructor
  · intro h
    obtain ⟨t, ht, e⟩ := List.mem_iff_getElem.1 h
    rw [List.length_take] at ht
    refine ⟨t, by omega, by omega, ?_⟩
    rw [List.getD_eq_getElem?_getD, List.getElem?_eq_getElem (by omega)]
    rw [List.getElem_take] at e
    exact e
  · rintro ⟨t, h1, h2, e⟩
    rw [List.getD_eq_getElem?_getD, List.getElem?_eq_getElem h2] at e
    exact List.mem_iff_getElem.2 ⟨t, by rw [List.length_take]; omega, by rw [List.getElem_take]; exact e⟩

set_option maxHeartbeats 1000000 in
theorem Index_any (ao : Option Addr) (n c : Nat) (l : List Int) (x : Int) (w : World) (h : IntsAt w ao n l) (hnc : n ≤ c) (hc : c ≤ 9223372036854775807) :
    Calls Tryd.prog 72 #[.slice ao n c, .int .i64 x] w fun e w' => (∃ k : Int, e = .returned (.int .i64 k) ∧ (0 ≤ k ↔ x ∈ l)) ∧ w' = w := by
  have Hl := Lib.hid h.1
  have hab : n = 0 ∨ ∃ b o, ao = some ⟨b, o, none⟩ ∧ ∀ t, t < n → w.cell? ⟨b, o + t, none⟩ = some (.int .i64 (l.getD t 0)) := by
    rcases h.2 with h0 | ⟨b, o, e, _, hc⟩
    · exact Or.inl h0
    · exact Or.inr ⟨b, o, e, hc⟩
  clear h
  go_enter Tryd.func72, Tryd.ntmps72
  go_wp2_with fail
  go_loopg [8] n (fun k s8 wr => wr = w ∧ ∃ i : Nat, s8 = .int .i64 (i : Int) ∧ i ≤ n ∧ n - i = k ∧ ¬ x ∈ l.take i)
  case atStart => exact ⟨rfl, 0, rfl, by omega, by omega, by simp⟩
  case round =>
    obtain ⟨rfl, i, rfl, hi, hk, hno⟩ := hrel
    have Hno := Lib.hid hno
    clear hno
    by_cases hin : i = n
    · have h1 : ¬ (i : Int) < (n : Int) := by omega
      go_wp2_with fail
      go_ret
      refine ⟨⟨-1, rfl, ⟨fun h => absurd h (by decide), fun h => ?_⟩⟩, rfl⟩
      have := Hno.out
      rw [List.take_of_length_le (by rw [Hl.out]; omega)] at this
      exact absurd h this
    · have h1 : (i : Int) < (n : Int) := by omega
      have h0 : (0 : Int) ≤ (i : Int) := by omega
      rcases hab with h | ⟨b, o, rfl, hcell⟩
      · omega
      have hci := hcell i (by omega)
      obtain ⟨y, hy⟩ : ∃ y, l.getD i 0 = y := ⟨_, rfl⟩
      rw [hy] at hci
      have Hy := Lib.hid hy
      have Hcell := Lib.hid hcell
      clear hcell hy
      by_cases hxy : x = y
      · have hb : (x == y) = true := by simp [hxy]
        have Hxy := Lib.hid hxy
        clear hxy
        go_wp2_with fail
        go_ret
        exact ⟨⟨_, rfl, ⟨fun _ => by
          rw [Hxy.out, ← Hy.out, List.getD_eq_getElem?_getD, List.getElem?_eq_getElem (by rw [Hl.out]; omega)]
          exact List.getElem_mem _, fun _ => h0⟩⟩, rfl⟩
      · have hb : (x == y) = false := by simp [hxy]
        have Hxy := Lib.hid hxy
        clear hxy
        go_wp2_with fail
        go_roundg (n - (i + 1))
        case measure => omega
        case rel => exact ⟨rfl, i + 1, by go_num, by omega, rfl, fun h => by
          obtain ⟨t, h1, h2, h3⟩ := (mem_take_iff l x (i + 1)).1 h
          by_cases e : t = i
          · subst e; exact Hxy.out (by rw [← Hy.out, h3])
          · exact Hno.out ((mem_take_iff l x i).2 ⟨t, by omega, h2, h3⟩)⟩

set_option maxHeartbeats 400000 in
theorem Contains_any (ao : Option Addr) (n c : Nat) (l : List Int) (x : Int) (w : World) (h : IntsAt w ao n l) (hnc : n ≤ c) (hc : c ≤ 9223372036854775807) :
    Calls Tryd.prog 62 #[.slice ao n c, .int .i64 x] w fun e w' => e = .returned (.bool (decide (x ∈ l))) ∧ w' = w := by
  have Hi := Lib.hid (Index_any ao n c l x w h hnc hc)
  clear h
  go_enter Tryd.func62, Tryd.ntmps62
  go_wp2_with fail
  refine Hi.out.mono ?_
  rintro e w1 ⟨⟨k, rfl, hk⟩, rfl⟩
  have hb : decide (0 ≤ k) = decide (x ∈ l) := by rw [decide_eq_decide]; exact hk
  have Hb := Lib.hid hb
  clear hk hb
  go_wp2_with fail
  go_ret
  exact ⟨congrArg (fun b => Ending.returned (Value.bool b)) Hb.out, rfl⟩

set_option maxHeartbeats 1000000 in
theorem member_any (ao : Option Addr) (n c : Nat) (l : List Int) (x : Int) (w : World) (h : IntsAt w ao n l) (hnc : n ≤ c) (hc : c ≤ 9223372036854775807) :
    Calls Tryd.prog 48 #[.slice ao n c, .int .i64 x] w fun e w' => e = .returned (.bool (decide (x ∈ l))) ∧ w' = w := by
  have Hl := Lib.hid h.1
  have hab : n = 0 ∨ ∃ b o, ao = some ⟨b, o, none⟩ ∧ ∀ t, t < n → w.cell? ⟨b, o + t, none⟩ = some (.int .i64 (l.getD t 0)) := by
    rcases h.2 with h0 | ⟨b, o, e, _, hc⟩
    · exact Or.inl h0
    · exact Or.inr ⟨b, o, e, hc⟩
  obtain ⟨r, hr⟩ : ∃ r, decide (x ∈ l) = r := ⟨_, rfl⟩
  rw [hr]
  have Hr := Lib.hid hr
  clear h hr
  go_enter Tryd.func48, Tryd.ntmps48
  go_wp2_with fail
  go_loopg [5] n (fun k s5 wr => wr = w ∧ ∃ i : Nat, s5 = .int .i64 (i : Int) ∧ i ≤ n ∧ n - i = k ∧ ¬ x ∈ l.take i)
  case atStart => exact ⟨rfl, 0, rfl, by omega, by omega, by simp⟩
  case round =>
    obtain ⟨rfl, i, rfl, hi, hk, hno⟩ := hrel
    have Hno := Lib.hid hno
    clear hno
    by_cases hin : i = n
    · have h1 : ¬ (i : Int) < (n : Int) := by omega
      have hf : r = false := by
        rw [← Hr.out, decide_eq_false_iff_not]
        have := Hno.out
        rw [List.take_of_length_le (by rw [Hl.out]; omega)] at this
        exact this
      have HF := Lib.hid hf
      clear hf Hr
      go_wp2_with fail
      go_ret
      exact ⟨congrArg (fun b => Ending.returned (Value.bool b)) HF.out.symm, rfl⟩
    · have h1 : (i : Int) < (n : Int) := by omega
      have h0 : (0 : Int) ≤ (i : Int) := by omega
      rcases hab with h | ⟨b, o, rfl, hcell⟩
      · omega
      have hci := hcell i (by omega)
      obtain ⟨y, hy⟩ : ∃ y, l.getD i 0 = y := ⟨_, rfl⟩
      rw [hy] at hci
      have Hy := Lib.hid hy
      have Hcell := Lib.hid hcell
      clear hcell hy
      by_cases hxy : x = y
      · have hb : (y == x) = true := by simp [hxy]
        have ht : r = true := by
          rw [← Hr.out, decide_eq_true_iff, hxy, ← Hy.out, List.getD_eq_getElem?_getD, List.getElem?_eq_getElem (by rw [Hl.out]; omega)]
          exact List.getElem_mem _
        have HF := Lib.hid ht
        clear hxy ht Hr
        go_wp2_with fail
        go_ret
        exact ⟨congrArg (fun b => Ending.returned (Value.bool b)) HF.out.symm, rfl⟩
      · have hb : (y == x) = false := by simp [Ne.symm hxy]
        have Hxy := Lib.hid hxy
        clear hxy
        go_wp2_with fail
        go_roundg (n - (i + 1))
        case measure => omega
        case rel => exact ⟨rfl, i + 1, by go_num, by omega, rfl, fun h => by
          obtain ⟨t, h1, h2, h3⟩ := (mem_take_iff l x (i + 1)).1 h
          by_cases e : t = i
          · subst e; exact Hxy.out (by rw [← Hy.out, h3])
          · exact Hno.out ((mem_take_iff l x i).2 ⟨t, by omega, h2, h3⟩)⟩

set_option maxHeartbeats 1000000 in
theorem areConditions_any (ao : Option Addr) (n c : Nat) (l : List Int) (bits : Int) (w : World) (h : IntsAt w ao n l) (_hnc : n ≤ c) (_hc : c ≤ 9223372036854775807) (hb0 : 0 ≤ bits) (hb1 : bits ≤ 12) :
    Calls Tryd.prog 47 #[.slice ao n c, .int .i64 bits] w fun e w' => e = .returned (.bool (cndOk bits l)) ∧ w' = w := by
  have Hl := Lib.hid h.1
  have hab : n = 0 ∨ ∃ b o, ao = some ⟨b, o, none⟩ ∧ ∀ t, t < n → w.cell? ⟨b, o + t, none⟩ = some (.int .i64 (l.getD t 0)) := by
    rcases h.2 with h0 | ⟨b, o, e, _, hc⟩
    · exact Or.inl h0
    · exact Or.inr ⟨b, o, e, hc⟩
  obtain ⟨r, hr⟩ : ∃ r, cndOk bits l = r := ⟨_, rfl⟩
  rw [hr]
  have Hr := Lib.hid hr
  clear h hr
  by_cases hn : 24 < n
  · have h1 : (24 : Int) < (n : Int) := by omega
    have hf : r = false := by rw [← Hr.out]; unfold cndOk; rw [Hl.out]; simp; omega
    have HF := Lib.hid hf
    clear hf Hr hn
    go_enter Tryd.func47, Tryd.ntmps47
    go_wp2_with fail
    go_ret
    exact ⟨congrArg (fun b => Ending.returned (Value.bool b)) HF.out.symm, rfl⟩
  · have h1 : ¬ (24 : Int) < (n : Int) := by omega
    have hall : r = l.all (termOk bits) := by
      rw [← Hr.out]; unfold cndOk
      have : decide (l.length ≤ 24) = true := by rw [Hl.out]; simp; omega
      rw [this, Bool.true_and]
    have Hall := Lib.hid hall
    have hwb : IntKind.i64.wrap (-bits) = -bits := by rw [IntKind.wrap_i64]; omega
    clear hall Hr hn
    go_enter Tryd.func47, Tryd.ntmps47
    go_wp2_with fail
    go_loopg [12] n (fun k s12 wr => wr = w ∧ ∃ i : Nat, s12 = .int .i64 (i : Int) ∧ i ≤ n ∧ n - i = k ∧ r = (l.drop i).all (termOk bits))
    case atStart => exact ⟨rfl, 0, rfl, by omega, by omega, Hall.out⟩
    case round =>
      obtain ⟨rfl, i, rfl, hi, hk, hr⟩ := hrel
      by_cases hin : i = n
      · have h2 : ¬ (i : Int) < (n : Int) := by omega
        have ht : r = true := by rw [hr, List.drop_eq_nil_of_le (by rw [Hl.out]; omega)]; rfl
        have HF := Lib.hid ht
        clear hr ht Hall
        go_wp2_with fail
        go_ret
        exact ⟨congrArg (fun b => Ending.returned (Value.bool b)) HF.out.symm, rfl⟩
      · have h2 : (i : Int) < (n : Int) := by omega
        have h0 : (0 : Int) ≤ (i : Int) := by omega
        rcases hab with h | ⟨b, o, rfl, hcell⟩
        · omega
        have hci := hcell i (by omega)
        obtain ⟨y, hy⟩ : ∃ y, l.getD i 0 = y := ⟨_, rfl⟩
        rw [hy] at hci
        have hst := all_step (termOk bits) l i (by rw [Hl.out]; omega)
        rw [hy, ← hr] at hst
        have Hst := Lib.hid hst
        have Hcell := Lib.hid hcell
        clear hcell hy hr hst
        by_cases y0 : y = 0
        · have ht : termOk bits y = false := by simp [termOk, y0]
          have hf : r = false := by rw [Hst.out, ht]; rfl
          have HF := Lib.hid hf
          subst y0
          clear hf ht Hst Hall
          go_wp2_with fail
          go_ret
          exact ⟨congrArg (fun b => Ending.returned (Value.bool b)) HF.out.symm, rfl⟩
        · have e0 : (y == 0) = false := by simp [y0]
          by_cases y1 : y < -bits
          · have ht : termOk bits y = false := by unfold termOk; simp; omega
            have hf : r = false := by rw [Hst.out, ht]; rfl
            have HF := Lib.hid hf
            clear hf ht Hst Hall
            go_wp2_with fail
            go_ret
            exact ⟨congrArg (fun b => Ending.returned (Value.bool b)) HF.out.symm, rfl⟩
          · have e1 : decide (y < -bits) = false := by simp; omega
            by_cases y2 : bits < y
            · have ht : termOk bits y = false := by unfold termOk; simp; omega
              have hf : r = false := by rw [Hst.out, ht]; rfl
              have HF := Lib.hid hf
              clear hf ht Hst Hall
              go_wp2_with fail
              go_ret
              exact ⟨congrArg (fun b => Ending.returned (Value.bool b)) HF.out.symm, rfl⟩
            · have e2 : decide (bits < y) = false := by simp; omega
              have ht : termOk bits y = true := by unfold termOk; simp; omega
              have hst' : r = (l.drop (i + 1)).all (termOk bits) := by rw [Hst.out, ht]; rfl
              have Hst' := Lib.hid hst'
              clear ht hst' Hst y1 y2
              go_wp2_with fail
              go_roundg (n - (i + 1))
              case measure => omega
              case rel => exact ⟨rfl, i + 1, by go_num, by omega, rfl, Hst'.out⟩

end Go.Proofs.YtpabafioofhklaaDoor
