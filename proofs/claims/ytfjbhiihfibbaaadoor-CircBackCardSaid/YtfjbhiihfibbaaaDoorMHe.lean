/-
  The reference's Parse: what it comes to, in plain lists.
-/
import Derived.Test.YtfjbhiihfibbaaaDoorMHd
import Derived.Test.YtfjbhiihfibbaaaDoorMHb
import Derived.Test.YtfjbhiihfibbaaaDoorMGa
import Derived.Test.YtfjbhiihfibbaaaDoorMDa

namespace Go.Proofs.YtfjbhiihfibbaaaDoor
open Go.RowKit

section
variable {T l : List UInt8} {t : List (List UInt8)}
theorem prs_bad (hT : ¬ 1000000 < T.length) (hs : splt 10 T = l :: t) (h : t = [] ∨ l ≠ hdL (refQ l) (refB l)) : prsC T = ⟨0, 0, []⟩ ∧ prsF T = (1, 0) := by
  have e : rdAll T = .inr 0 := by unfold rdAll; rw [head_wrong hs h]
  unfold prsC prsF
  rw [if_neg hT, if_neg hT, e]
  exact ⟨rfl, rfl⟩
theorem prs_inr (hT : ¬ 1000000 < T.length) (hs : splt 10 T = l :: t) (ht : t ≠ []) (hl : l = hdL (refQ l) (refB l)) {n : Nat} (h : rdLn t [] 1 = .inr n) : prsC T = ⟨0, 0, []⟩ ∧ prsF T = (1, (n : Int)) := by
  obtain ⟨h1, h2⟩ := head_right hs ht hl
  have e : rdAll T = .inr n := by unfold rdAll; rw [h1]; simp only [h2, h]
  unfold prsC prsF
  rw [if_neg hT, if_neg hT, e]
  exact ⟨rfl, rfl⟩
theorem prs_inl (hT : ¬ 1000000 < T.length) (hs : splt 10 T = l :: t) (ht : t ≠ []) (hl : l = hdL (refQ l) (refB l)) {ops : List Gop} (h : rdLn t [] 1 = .inl ops) :
    prsC T = (if (chk ⟨refQ l, refB l, ops⟩).1 = 0 then ⟨refQ l, refB l, ops⟩ else ⟨0, 0, []⟩) ∧ prsF T = chk ⟨refQ l, refB l, ops⟩ := by
  obtain ⟨h1, h2⟩ := head_right hs ht hl
  have e : rdAll T = .inl ⟨refQ l, refB l, ops⟩ := by unfold rdAll; rw [h1]; simp only [h2, h]
  unfold prsC prsF
  rw [if_neg hT, if_neg hT, e]
  exact ⟨rfl, rfl⟩
end
/-- A line that is not the last. -/
theorem rdLn_good {l m : List UInt8} {r : List (List UInt8)} {o : Gop} (h : lineO l = some o) (acc : List Gop) (n : Nat) : rdLn (l :: m :: r) acc n = rdLn (m :: r) (acc ++ [o]) (n + 1) := by
  rw [rdLn, h]
theorem rdLn_bad {l : List UInt8} {r : List (List UInt8)} (h : (r = [] ∧ l ≠ []) ∨ (r ≠ [] ∧ lineO l = none)) (acc : List Gop) (n : Nat) : rdLn (l :: r) acc n = .inr n := by
  match r, h with
  | [], h =>
    rcases h with ⟨_, h⟩ | ⟨h, _⟩
    · rw [rdLn, if_neg h]
    · exact absurd rfl h
  | m :: r, h =>
    rcases h with ⟨h, _⟩ | ⟨_, h⟩
    · cases h
    · rw [rdLn, h]
theorem splt_mem {c : UInt8} : ∀ {L x : List UInt8}, x ∈ splt c L → x.length ≤ L.length := by
  intro L
  induction L with
  | nil => intro x hx; simp [splt] at hx; simp [hx]
  | cons y r ih =>
    intro x hx
    by_cases hy : y = c
    · rw [splt, if_pos hy] at hx
      rcases List.mem_cons.1 hx with h | h
      · simp [h]
      · have := ih h; simp; omega
    · obtain ⟨a, b, e⟩ := splt_ne c r
      rw [splt_cons_ne hy e] at hx
      rcases List.mem_cons.1 hx with h | h
      · have := ih (x := a) (by rw [e]; simp); simp [h]; omega
      · have := ih (x := x) (by rw [e]; simp [h]); simp; omega
theorem rdLn_last (acc : List Gop) (n : Nat) : rdLn [[]] acc n = .inl acc := by rw [rdLn, if_pos rfl]

set_option maxHeartbeats 4000000 in
set_option maxRecDepth 100000 in
theorem rparse_long (T : List UInt8) (w : World) (hT : 1000000 < T.length) :
    Calls Tryd.prog 9 #[.string ⟨T.toArray⟩] w fun e w' => e = .returned (.tuple #[.agg #[.int .i64 0, .int .i64 0, .slice none 0 0], .agg #[.int .i64 2, .int .i64 0]]) ∧ Ext w w' := by
  have hlen : ((T.length : Nat) : Int) > 1000000 := by omega
  have hld : decide (1000000 < ((T.length : Nat) : Int)) = true := dt (by omega)
  obtain ⟨A1, hA1⟩ : ∃ A1, w.alloc (.cells #[.int .i64 0, .int .i64 0, .slice none 0 0] 24) = A1 := ⟨_, rfl⟩
  obtain ⟨A2, hA2⟩ : ∃ A2, A1.alloc (.cells #[.int .i64 0, .int .i64 0] 26) = A2 := ⟨_, rfl⟩
  have hA : (w.alloc (.cells #[.int .i64 0, .int .i64 0, .slice none 0 0] 24)).alloc (.cells #[.int .i64 0, .int .i64 0] 26) = A2 := by rw [hA1, hA2]
  have s1 : A1.heap.size = w.heap.size + 1 := by rw [← hA1]; simp
  have bC : CiB A2 w.heap.size 0 0 none 0 0 := by
    have : CiB A1 w.heap.size 0 0 none 0 0 := by rw [← hA1]; exact ⟨heap_alloc_new w _⟩
    rw [← hA2]; exact this.ext (ext_al _ _)
  have bF : FtB A2 (w.heap.size + 1) 0 0 := by rw [← hA2, ← s1]; exact ⟨heap_alloc_new A1 _⟩
  have HE0 := Lib.hid (show Ext w A2 by rw [← hA2, ← hA1]; exact (ext_al _ _).trans (ext_al _ _))
  have HA := Lib.hid hA; have HC := Lib.hid bC; have HF := Lib.hid bF
  clear hA1 hA2 hA s1 bC bF hT
  go_enter Tryd.func9, Tryd.ntmps9
  go_wp2_with fail
  rw [HA.out]
  refine (rfault_any 2 0 A2).mono ?_
  rintro e w1 ⟨rfl, hx1⟩
  have bC1 := HC.out.ext hx1; have bF1 := HF.out.ext hx1
  have y0 := bC1.x0; have y1 := bC1.x1; have y2 := bC1.x2; have f0 := bC1.f 0; have f1 := bC1.f 1; have f2 := bC1.f 2
  have z0 := bF1.x0; have z1 := bF1.x1; have k0 := bF1.f 0; have k1 := bF1.f 1
  have zC := putCF_C bC1 (show w.heap.size ≠ w.heap.size + 1 by omega) 0 0 none 0 0 2 0
  have zF := putCF_F bF1 (show w.heap.size ≠ w.heap.size + 1 by omega) 0 0 none 0 0 2 0
  have HzE := Lib.hid (putCF_ext (HE0.out.trans hx1) (Nat.le_refl _) (Nat.le_succ _) 0 0 none 0 0 2 0 : Ext w (putCF w1 w.heap.size (w.heap.size + 1) 0 0 none 0 0 2 0))
  obtain ⟨Wz, hWz⟩ : ∃ Wz, putCF w1 w.heap.size (w.heap.size + 1) 0 0 none 0 0 2 0 = Wz := ⟨_, rfl⟩
  rw [hWz] at zC zF HzE
  unfold putCF at hWz
  have HWz := Lib.hid hWz
  have v0 := zC.x0; have v1 := zC.x1; have v2 := zC.x2; have v3 := zF.x0; have v4 := zF.x1
  clear zC zF hWz bC1 bF1 hx1 HC HF HA HE0
  go_wp2_with fail
  rw [HWz.out]
  exact bodyPost_ret (v := .tuple #[.agg #[.int .i64 0, .int .i64 0, .slice none 0 0], .agg #[.int .i64 2, .int .i64 0]]) (by simp [results, Tryd.results9, go_sem, v0, v1, v2, v3, v4]) rfl ⟨rfl, HzE.out⟩

end Go.Proofs.YtfjbhiihfibbaaaDoor
