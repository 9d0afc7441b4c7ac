/-
  What an operation touches, as the program lists it.
-/
import Derived.Test.YtpabafioofhklaaDoorMCk
import Derived.Test.YtpabafioofhklaaDoorMCd

namespace Go.Proofs.YtpabafioofhklaaDoor
open Go.RowKit

set_option maxHeartbeats 400000 in
theorem condition_any (t : Int) (w : World) (h : -12 ≤ t ∧ t ≤ 12) : Calls Tryd.prog 60 #[.int .i64 t] w fun e w' => e = .returned (.tuple #[.int .i64 (bitOf t), .bool (decide (0 ≤ t))]) ∧ w' = w := by
  by_cases h0 : t < 0
  · have e1 : bitOf t = -t - 1 := by unfold bitOf; rw [if_neg (by omega)]
    have hw1 : IntKind.i64.wrap (-t) = -t := by rw [IntKind.wrap_i64]; omega
    have hw2 : IntKind.i64.wrap (-t - 1) = -t - 1 := by rw [IntKind.wrap_i64]; omega
    have e2 := df (show ¬ 0 ≤ t by omega)
    rw [e1, e2]
    clear e1 e2
    go_enter Tryd.func60, Tryd.ntmps60
    go_wp2_with fail
    exact bodyPost_ret (v := .tuple #[.int .i64 (-t - 1), .bool false]) (by simp [results, Tryd.results60, go_sem]) rfl ⟨rfl, rfl⟩
  · have e1 : bitOf t = t - 1 := by unfold bitOf; split <;> omega
    have hw2 : IntKind.i64.wrap (t - 1) = t - 1 := by rw [IntKind.wrap_i64]; omega
    have e2 := dt (show 0 ≤ t by omega)
    rw [e1, e2]
    clear e1 e2
    go_enter Tryd.func60, Tryd.ntmps60
    go_wp2_with fail
    exact bodyPost_ret (v := .tuple #[.int .i64 (t - 1), .bool true]) (by simp [results, Tryd.results60, go_sem]) rfl ⟨rfl, rfl⟩

set_option maxHeartbeats 1000000 in
theorem copyList_any (ao : Option Addr) (n c : Nat) (l : List Int) (w : World) (h : IntsAt w ao n l) (hb : n * 8 ≤ 140737488355328) :
    Calls Tryd.prog 59 #[.slice ao n c] w fun e w' => ∃ v' : Value, e = .returned v' ∧ w'.ownsRow w.heap.size 3 1 v' n (iC l) ∧ Ext w w' := by
  obtain ⟨i0, hi, hz0, hz1, hz2⟩ := info_parts i_info
  have Hl := Lib.hid h.1
  by_cases hn : n = 0
  · subst hn
    have hl0 : l = [] := List.eq_nil_of_length_eq_zero Hl.out
    subst hl0
    clear h hi hz0 hz1 hz2
    cases ao
    · go_enter Tryd.func59, Tryd.ntmps59
      go_wp2_with fail
      go_ret
      exact ⟨_, rfl, ⟨rfl, Or.inl ⟨rfl, rfl⟩⟩, Ext.refl _⟩
    · go_enter Tryd.func59, Tryd.ntmps59
      go_wp2_with fail
      go_ret
      exact ⟨_, rfl, ⟨rfl, Or.inl ⟨rfl, rfl⟩⟩, Ext.refl _⟩
  · obtain ⟨b, o, rfl, hbl, hcell⟩ := h.at (by omega)
    have hnews : ∀ j u, (iC l)[j]? = some u → w.cell? ((⟨b, o, none⟩ : Addr).add j) = some u := by
      intro j u hu
      have hj : j < l.length := by have := (List.getElem?_eq_some_iff.1 hu).1; simpa [iC] using this
      have hadd : (⟨b, o, none⟩ : Addr).add j = ⟨b, o + j, none⟩ := by unfold Addr.add; split <;> simp_all
      rw [hadd, hcell j (by rw [← Hl.out]; exact hj), ← hu]
      simp only [iC, List.getElem?_map, List.getD_eq_getElem?_getD]
      rw [List.getElem?_eq_getElem hj]
      rfl
    have h1 : ∀ u ∈ iC l, u.oneCell' = true := by
      intro u hu
      obtain ⟨x, _, rfl⟩ := List.mem_map.1 hu
      rfl
    have hown : w.ownsRow w.heap.size 3 1 (.slice none 0 0) 0 [] := ⟨rfl, Or.inl ⟨rfl, rfl⟩⟩
    have Hnews := Lib.hid hnews; have H1 := Lib.hid h1; have Hown := Lib.hid hown
    have hll : (iC l).length = n * 1 := by rw [iC_length, Hl.out, Nat.mul_one]
    have Hll := Lib.hid hll
    clear h hcell hnews h1 hown hbl hll
    go_enter Tryd.func59, Tryd.ntmps59
    go_wp2_with (at_builtin; refine wpList_append_own _ rfl _ _ 43 rfl w.heap.size 3 i0 (.int .i64 0) 1 8 Tryd.underlying43 hi hz0 hz1 hz2 rfl (by decide) _ 0 [] rfl Hown.out ⟨b, o, none⟩ n c (iC l) rfl Hll.out Hnews.out H1.out (by unfold maxLen; omega) (by omega) (Nat.le_refl _) ?_; intro v' w7 hown' hgrow' _)
    go_ret
    exact ⟨_, rfl, by simpa using hown', grown_ext (Ext.refl _) hgrow' (fun k hk => by cases hk)⟩

end Go.Proofs.YtpabafioofhklaaDoor
