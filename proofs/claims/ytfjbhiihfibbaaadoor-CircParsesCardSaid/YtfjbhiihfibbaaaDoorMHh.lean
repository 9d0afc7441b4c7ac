/-
  CircParses: its walk.
-/
import Derived.Test.YtfjbhiihfibbaaaDoorMHf
import Derived.Test.YtfjbhiihfibbaaaDoorMGa
import Derived.Test.YtfjbhiihfibbaaaDoorMHe
import Derived.Test.YtfjbhiihfibbaaaDoorMBs

namespace Go.Proofs.YtfjbhiihfibbaaaDoor
open Go.RowKit

theorem RcParse_any (T : List UInt8) (w : World) :
    Calls Tryd.prog 9 #[.string ⟨T.toArray⟩] w fun e w' => (∃ (a' : Option Addr) (c' : Nat), e = .returned (.tuple #[.agg #[.int .i64 (prsC T).qubits, .int .i64 (prsC T).bits, .slice a' (prsC T).ops.length c'], .agg #[.int .i64 (prsF T).1, .int .i64 (prsF T).2]]) ∧ (prsC T).ops.length ≤ c' ∧ c' ≤ maxLen ∧ OpsAt w' a' (prsC T).ops.length (prsC T).ops) ∧ Ext w w' := by
  by_cases hT : 1000000 < T.length
  · unfold prsC prsF
    rw [if_pos hT, if_pos hT]
    refine (rparse_long T w hT).mono ?_
    rintro e w' ⟨rfl, hx⟩
    exact ⟨⟨none, 0, rfl, Nat.le_refl _, Nat.zero_le _, ⟨rfl, Or.inl rfl⟩⟩, hx⟩
  · exact rparse_any T w (by omega)

set_option maxHeartbeats 4000000 in
set_option maxRecDepth 100000 in
theorem parses_walk (T : List UInt8) (w : World) (hS : Shp w) :
    Calls Tryd.prog 3 #[.string ⟨T.toArray⟩] w fun e w' => e = .returned (.bool true) ∧ Ext w w' := by
  have HP := Lib.hid (cParse_any T w hS)
  have HR := Lib.hid (fun wx => RcParse_any T wx)
  obtain ⟨c, hc⟩ : ∃ c, prsC T = c := ⟨_, rfl⟩
  obtain ⟨F, hF⟩ : ∃ F, prsF T = F := ⟨_, rfl⟩
  rw [hc, hF] at HP HR
  obtain ⟨u, v⟩ := F
  obtain ⟨qb, bi, ops⟩ := c
  simp only at HP HR
  have HS := Lib.hid hS
  clear hc hF hS
  go_enter Tryd.func3, Tryd.ntmps3
  go_wp2_with fail
  refine HP.out.mono ?_
  rintro e w1 ⟨⟨a1, c1, rfl, h1, h2, hat1⟩, hx1⟩
  obtain ⟨A1, hA1⟩ : ∃ A1, w1.alloc (.cells #[.int .i64 qb, .int .i64 bi, .slice a1 ops.length c1] 24) = A1 := ⟨_, rfl⟩
  obtain ⟨A2, hA2⟩ : ∃ A2, A1.alloc (.cells #[.int .i64 u, .int .i64 v] 26) = A2 := ⟨_, rfl⟩
  have hA : (w1.alloc (.cells #[.int .i64 qb, .int .i64 bi, .slice a1 ops.length c1] 24)).alloc (.cells #[.int .i64 u, .int .i64 v] 26) = A2 := by rw [hA1, hA2]
  have s1 : A1.heap.size = w1.heap.size + 1 := by rw [← hA1]; simp
  have bC : CiB A2 w1.heap.size qb bi a1 ops.length c1 := by
    have : CiB A1 w1.heap.size qb bi a1 ops.length c1 := by rw [← hA1]; exact ⟨heap_alloc_new w1 _⟩
    rw [← hA2]; exact this.ext (ext_al _ _)
  have bF : FtB A2 (w1.heap.size + 1) u v := by rw [← hA2, ← s1]; exact ⟨heap_alloc_new A1 _⟩
  have E2 : Ext w1 A2 := by rw [← hA2, ← hA1]; exact (ext_al _ _).trans (ext_al _ _)
  have HE2 := Lib.hid (hx1.trans E2); have HO2 := Lib.hid (hat1.ext E2); have HC2 := Lib.hid bC; have HF2 := Lib.hid bF
  have Hh1 := Lib.hid h1; have Hh2 := Lib.hid h2; have HA := Lib.hid hA
  clear hx1 E2 hat1 bC bF h1 h2 hA1 hA2 hA s1 HP
  go_wp2_with fail
  rw [HA.out]
  refine (HR.out A2).mono ?_
  rintro e w3 ⟨⟨a3, c3, rfl, h3, h4, hat3⟩, hx3⟩
  obtain ⟨A3, hA3⟩ : ∃ A3, w3.alloc (.cells #[.int .i64 qb, .int .i64 bi, .slice a3 ops.length c3] 24) = A3 := ⟨_, rfl⟩
  obtain ⟨A4, hA4⟩ : ∃ A4, A3.alloc (.cells #[.int .i64 u, .int .i64 v] 26) = A4 := ⟨_, rfl⟩
  have hAA : (w3.alloc (.cells #[.int .i64 qb, .int .i64 bi, .slice a3 ops.length c3] 24)).alloc (.cells #[.int .i64 u, .int .i64 v] 26) = A4 := by rw [hA3, hA4]
  have s3 : A3.heap.size = w3.heap.size + 1 := by rw [← hA3]; simp
  have bC : CiB A4 w3.heap.size qb bi a3 ops.length c3 := by
    have : CiB A3 w3.heap.size qb bi a3 ops.length c3 := by rw [← hA3]; exact ⟨heap_alloc_new w3 _⟩
    rw [← hA4]; exact this.ext (ext_al _ _)
  have bF : FtB A4 (w3.heap.size + 1) u v := by rw [← hA4, ← s3]; exact ⟨heap_alloc_new A3 _⟩
  have E4 : Ext w3 A4 := by rw [← hA4, ← hA3]; exact (ext_al _ _).trans (ext_al _ _)
  have HE4 := Lib.hid (HE2.out.trans (hx3.trans E4)); have HO4 := Lib.hid (hat3.ext E4); have HC4 := Lib.hid bC; have HF4 := Lib.hid bF
  have HOa := Lib.hid (HO2.out.ext (hx3.trans E4)); have HCa := Lib.hid (HC2.out.ext (hx3.trans E4)); have HFa := Lib.hid (HF2.out.ext (hx3.trans E4))
  have HBg := Lib.hid (circBegun_any A4 (HS.out.ext HE4.out))
  have Hh3 := Lib.hid h3; have Hh4 := Lib.hid h4; have HAA := Lib.hid hAA
  clear hx3 E4 hat3 bC bF h3 h4 hA3 hA4 hAA s3 HR HO2 HC2 HF2 HE2 HA
  go_wp2_with fail
  rw [HAA.out]
  refine HBg.out.mono ?_
  rintro e w5 ⟨rfl, hx5⟩
  have c0 := (HCa.out.ext hx5).x0; have c1' := (HCa.out.ext hx5).x1; have c2' := (HCa.out.ext hx5).x2
  have f0 := (HFa.out.ext hx5).x0; have f1 := (HFa.out.ext hx5).x1
  have d0 := (HC4.out.ext hx5).x0; have d1 := (HC4.out.ext hx5).x1; have d2 := (HC4.out.ext hx5).x2
  have g0 := (HF4.out.ext hx5).x0; have g1 := (HF4.out.ext hx5).x1
  have HAn := Lib.hid (answers_any ⟨qb, bi, ops⟩ a1 ops.length c1 a3 c3 u v w5 (HOa.out.ext hx5) (HO4.out.ext hx5) Hh1.out (by have := Hh2.out; unfold maxLen at this; omega) Hh3.out (by have := Hh4.out; unfold maxLen at this; omega))
  have HE5 := Lib.hid (HE4.out.trans hx5)
  clear hx5 HBg HCa HFa HC4 HF4 HE4 HAA
  simp only at HAn
  go_wp2_with fail
  refine HAn.out.mono ?_
  rintro e w6 ⟨rfl, hx6⟩
  have HE6 := Lib.hid (HE5.out.trans hx6)
  clear hx6
  go_wp2_with fail
  go_ret
  exact ⟨rfl, HE6.out⟩

end Go.Proofs.YtfjbhiihfibbaaaDoor
