/-
  The example of a circuit, and its text.
-/
import Derived.Test.YtfjbhiihfibbaaaDoorMBw

namespace Go.Proofs.YtfjbhiihfibbaaaDoor
open Go.RowKit

def smallC : Gci := ⟨2, 1, [⟨3, 0, [], 0, 0, []⟩, ⟨2, 0, [0], 1, 0, []⟩, ⟨5, 0, [], 1, 0, [-1]⟩]⟩
theorem smallC_chk : chk smallC = (0, 0) := by decide
theorem smallC_prn : prnV smallC = ⟨#[113, 117, 98, 105, 116, 115, 32, 50, 32, 98, 105, 116, 115, 32, 49, 10, 104, 32, 48, 10, 120, 32, 49, 32, 111, 110, 32, 48, 10, 109, 101, 97, 115, 117, 114, 101, 32, 49, 32, 116, 111, 32, 48, 32, 105, 102, 32, 33, 48, 10]⟩ := by
  have d0 : Lib.decDigits 0 = [48] := by rw [Lib.decDigits_one (by omega)]; rfl
  have d1 : Lib.decDigits 1 = [49] := by rw [Lib.decDigits_one (by omega)]; rfl
  have d2 : Lib.decDigits 2 = [50] := by rw [Lib.decDigits_one (by omega)]; rfl
  have n0 : numL 0 = [32, 48] := by show 32 :: Lib.decDigits 0 = _; rw [d0]
  have n1 : numL 1 = [32, 49] := by show 32 :: Lib.decDigits 1 = _; rw [d1]
  have n2 : numL 2 = [32, 50] := by show 32 :: Lib.decDigits 2 = _; rw [d2]
  have c1 : cndL (-1) = [32, 33, 48] := by show 32 :: 33 :: Lib.decDigits 0 = _; rw [d0]
  unfold prnV
  rw [smallC_chk]
  simp [prn, smallC, prnOp, n0, n1, n2, c1, usesK, usesQ, usesB, wordOf]

set_option maxHeartbeats 2000000 in
set_option maxRecDepth 100000 in
theorem small_any (w : World) : Calls Tryd.prog 39 #[] w fun e w' => (∃ ao, e = .returned (.agg #[.int .i64 2, .int .i64 1, .slice ao 3 3]) ∧ OpsAt w' ao 3 smallC.ops) ∧ Ext w w' := by
  go_enter Tryd.func39, Tryd.ntmps39
  go_wp2_with fail
  obtain ⟨A1, hA1⟩ : ∃ A1, w.alloc (.cells #[.int .i64 2, .int .i64 1, .slice (some ⟨w.heap.size + 1 + 1 + 1, 0, none⟩) 3 3] 24) = A1 := ⟨_, rfl⟩
  rw [hA1]
  obtain ⟨A2, hA2⟩ : ∃ A2, A1.alloc (.cells #[.int .i64 0] 3) = A2 := ⟨_, rfl⟩
  rw [hA2]
  obtain ⟨A3, hA3⟩ : ∃ A3, A2.alloc (.cells #[.int .i64 (-1)] 3) = A3 := ⟨_, rfl⟩
  rw [hA3]
  obtain ⟨A4, hA4⟩ : ∃ A4, A3.alloc (.cells #[.int .i64 3, .int .i64 0, .slice none 0 0, .int .i64 0, .int .i64 0, .slice none 0 0, .int .i64 2, .int .i64 0, .slice (some ⟨w.heap.size + 1, 0, none⟩) 1 1, .int .i64 1, .int .i64 0, .slice none 0 0, .int .i64 5, .int .i64 0, .slice none 0 0, .int .i64 1, .int .i64 0, .slice (some ⟨w.heap.size + 1 + 1, 0, none⟩) 1 1] 58) = A4 := ⟨_, rfl⟩
  rw [hA4]
  have s1 : A1.heap.size = w.heap.size + 1 := by rw [← hA1]; simp
  have s2 : A2.heap.size = w.heap.size + 1 + 1 := by rw [← hA2]; simp [s1]
  have s3 : A3.heap.size = w.heap.size + 1 + 1 + 1 := by rw [← hA3]; simp [s2]
  have x1 : Ext w A1 := by rw [← hA1]; exact ext_al _ _
  have x2 : Ext A1 A2 := by rw [← hA2]; exact ext_al _ _
  have x3 : Ext A2 A3 := by rw [← hA3]; exact ext_al _ _
  have x4 : Ext A3 A4 := by rw [← hA4]; exact ext_al _ _
  have r1 : A1.heap[w.heap.size]? = some (.cells #[.int .i64 2, .int .i64 1, .slice (some ⟨w.heap.size + 1 + 1 + 1, 0, none⟩) 3 3] 24 (0, 0)) := by rw [← hA1]; exact heap_alloc_new w _
  have r2 : A2.heap[w.heap.size + 1]? = some (.cells #[.int .i64 0] 3 (0, 0)) := by rw [← hA2, ← s1]; exact heap_alloc_new A1 _
  have r3 : A3.heap[w.heap.size + 1 + 1]? = some (.cells #[.int .i64 (-1)] 3 (0, 0)) := by rw [← hA3, ← s2]; exact heap_alloc_new A2 _
  have r4 : A4.heap[w.heap.size + 1 + 1 + 1]? = some (.cells #[.int .i64 3, .int .i64 0, .slice none 0 0, .int .i64 0, .int .i64 0, .slice none 0 0, .int .i64 2, .int .i64 0, .slice (some ⟨w.heap.size + 1, 0, none⟩) 1 1, .int .i64 1, .int .i64 0, .slice none 0 0, .int .i64 5, .int .i64 0, .slice none 0 0, .int .i64 1, .int .i64 0, .slice (some ⟨w.heap.size + 1 + 1, 0, none⟩) 1 1] 58 (0, 0)) := by rw [← hA4, ← s3]; exact heap_alloc_new A3 _
  have r3' := (x4.block _ (Array.getElem?_eq_some_iff.1 r3).1).trans r3
  have x34 := x3.trans x4
  have r2' := (x34.block _ (Array.getElem?_eq_some_iff.1 r2).1).trans r2
  have x24 := x2.trans x34
  have r1' := (x24.block _ (Array.getElem?_eq_some_iff.1 r1).1).trans r1
  have E := x1.trans x24
  clear hA1 hA2 hA3 hA4 s1 s2 s3 x1 x2 x3 x4 x34 x24 r1 r2 r3
  have c0 : A4.cell? ⟨w.heap.size, 0, none⟩ = some (.int .i64 2) := by rw [cell_of_row A4 _ 0 _ _ (0, 0) r1']; rfl
  have c1 : A4.cell? ⟨w.heap.size, 1, none⟩ = some (.int .i64 1) := by rw [cell_of_row A4 _ 1 _ _ (0, 0) r1']; rfl
  have c2 : A4.cell? ⟨w.heap.size, 2, none⟩ = some (.slice (some ⟨w.heap.size + 1 + 1 + 1, 0, none⟩) 3 3) := by rw [cell_of_row A4 _ 2 _ _ (0, 0) r1']; rfl
  have l2 := (Array.getElem?_eq_some_iff.1 r2').1; have l3 := (Array.getElem?_eq_some_iff.1 r3').1; have l4 := (Array.getElem?_eq_some_iff.1 r4).1
  have I0 : IntsAt A4 none 0 [] := ⟨rfl, Or.inl rfl⟩
  have I1 : IntsAt A4 (some ⟨w.heap.size + 1, 0, none⟩) 1 [0] := by
    refine ⟨rfl, Or.inr ⟨_, _, rfl, l2, fun t ht => ?_⟩⟩
    obtain rfl : t = 0 := by omega
    rw [cell_of_row A4 _ _ _ _ (0, 0) r2']; rfl
  have I2 : IntsAt A4 (some ⟨w.heap.size + 1 + 1, 0, none⟩) 1 [-1] := by
    refine ⟨rfl, Or.inr ⟨_, _, rfl, l3, fun t ht => ?_⟩⟩
    obtain rfl : t = 0 := by omega
    rw [cell_of_row A4 _ _ _ _ (0, 0) r3']; rfl
  refine bodyPost_ret (v := .agg #[.int .i64 2, .int .i64 1, .slice (some ⟨w.heap.size + 1 + 1 + 1, 0, none⟩) 3 3]) (by simp [results, Tryd.results39, go_sem, c0, c1, c2]) rfl ⟨⟨_, rfl, rfl, Or.inr ⟨_, _, rfl, l4, ?_⟩⟩, E⟩
  intro t g hg
  have ht : t = 0 ∨ t = 1 ∨ t = 2 := by
    have : t < smallC.ops.length := (List.getElem?_eq_some_iff.1 hg).1
    have : smallC.ops.length = 3 := rfl
    omega
  rcases ht with rfl | rfl | rfl
  · have : g = ⟨3, 0, [], 0, 0, []⟩ := by simpa [smallC] using hg.symm
    subst this
    refine ⟨none, 0, 0, none, 0, 0, ?_, ?_, ?_, ?_, ?_, ?_, ⟨I0, by omega, by omega, I0, by omega, by omega⟩⟩ <;> (rw [cell_of_row A4 _ _ _ _ (0, 0) r4]; rfl)
  · have : g = ⟨2, 0, [0], 1, 0, []⟩ := by simpa [smallC] using hg.symm
    subst this
    refine ⟨_, 1, 1, none, 0, 0, ?_, ?_, ?_, ?_, ?_, ?_, ⟨I1, by omega, by omega, I0, by omega, by omega⟩⟩ <;> (rw [cell_of_row A4 _ _ _ _ (0, 0) r4]; rfl)
  · have : g = ⟨5, 0, [], 1, 0, [-1]⟩ := by simpa [smallC] using hg.symm
    subst this
    refine ⟨none, 0, 0, _, 1, 1, ?_, ?_, ?_, ?_, ?_, ?_, ⟨I0, by omega, by omega, I2, by omega, by omega⟩⟩ <;> (rw [cell_of_row A4 _ _ _ _ (0, 0) r4]; rfl)

set_option maxHeartbeats 2000000 in
set_option maxRecDepth 100000 in
/-- The example's text is as the document has it. -/
theorem circBegun_any (w : World) (hS : Shp w) : Calls Tryd.prog 10 #[] w fun e w' => e = .returned (.bool true) ∧ Ext w w' := by
  have HS := Lib.hid hS
  clear hS
  go_enter Tryd.func10, Tryd.ntmps10
  go_wp2_with fail
  refine (small_any w).mono ?_
  rintro e w1 ⟨⟨ao, rfl, hO⟩, hx1⟩
  have hP := Print_any smallC ao 3 3 w1 hO (by omega) (by omega) (HS.out.ext hx1)
  rw [smallC_chk, smallC_prn] at hP
  have HP := Lib.hid hP; have HX1 := Lib.hid hx1
  clear hP hO hx1
  go_wp2_with fail
  refine HP.out.mono ?_
  rintro e w2 ⟨rfl, hx2⟩
  have HE := Lib.hid ((HX1.out.trans hx2).trans (ext_al w2 (.cells #[.int .i64 0, .int .i64 0] 26)))
  clear hx2 HX1
  go_wp2
  go_ret
  exact ⟨rfl, HE.out⟩

end Go.Proofs.YtfjbhiihfibbaaaDoor
