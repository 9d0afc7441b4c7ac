/-
  The first fault of a circuit, as the reference finds it.
-/
import Derived.Test.YtpabafioofhklaaDoorMCf

namespace Go.Proofs.YtpabafioofhklaaDoor
open Go.RowKit

set_option maxHeartbeats 4000000 in
set_option maxRecDepth 100000 in
theorem RCheck_any (c : Gci) (ao : Option Addr) (n cp : Nat) (w : World) (h : OpsAt w ao n c.ops) (_hn : n ≤ cp) (_hcp : cp ≤ 9223372036854775807) :
    Calls Tryd.prog 11 #[.agg #[.int .i64 c.qubits, .int .i64 c.bits, .slice ao n cp]] w fun e w' => e = .returned (.agg #[.int .i64 (chk c).1, .int .i64 (chk c).2]) ∧ Ext w w' := by
  obtain ⟨r, hr⟩ : ∃ r, chk c = r := ⟨_, rfl⟩
  rw [hr]
  obtain ⟨r0, r1⟩ := r
  unfold chk at hr
  obtain ⟨qb, bi, ops⟩ := c
  have E0 := (ext_al w (.cells #[.int .i64 qb, .int .i64 bi, .slice ao n cp] 24)).trans (ext_al _ (.cells #[.int .i64 0, .int .i64 0] 28))
  have bC : CiB ((w.alloc (.cells #[.int .i64 qb, .int .i64 bi, .slice ao n cp] 24)).alloc (.cells #[.int .i64 0, .int .i64 0] 28)) w.heap.size qb bi ao n cp := CiB.ext ⟨heap_alloc_new w _⟩ (ext_al _ _)
  have bF : FtB ((w.alloc (.cells #[.int .i64 qb, .int .i64 bi, .slice ao n cp] 24)).alloc (.cells #[.int .i64 0, .int .i64 0] 28)) (w.heap.size + 1) 0 0 := ⟨by
    have := heap_alloc_new (w.alloc (.cells #[.int .i64 qb, .int .i64 bi, .slice ao n cp] 24)) (.cells #[.int .i64 0, .int .i64 0] 28)
    simpa using this⟩
  have Hl := Lib.hid h.1
  simp only at hr Hl ⊢
  have HE0 := Lib.hid E0; have HO := Lib.hid (h.ext E0); have HC := Lib.hid bC; have HFt := Lib.hid bF
  have m0 := bC.x0; have m1 := bC.x1; have m2 := bC.x2
  have x0 := bF.x0; have x1 := bF.x1; have g0 := bF.f 0; have g1 := bF.f 1
  clear h E0 bC bF
  by_cases hq1 : qb < 1
  · have hz : (r0, r1) = ((6 : Int), (0 : Int)) := by rw [← hr, if_pos (Or.inl hq1)]
    have HF0 : Hid (r0 = 6) := congrArg Prod.fst hz
    have HF1 : Hid (r1 = 0) := congrArg Prod.snd hz
    clear hr hz
    go_enter Tryd.func11, Tryd.ntmps11
    go_wp2_with fail
    generalize (w.alloc (.cells #[.int .i64 qb, .int .i64 bi, .slice ao n cp] 24)).alloc (.cells #[.int .i64 0, .int .i64 0] 28) = W0 at *
    refine (rfault_any 6 0 _).mono ?_
    rintro e wz ⟨rfl, hxz⟩
    have bz := HFt.out.ext hxz; have x0' := bz.x0; have x1' := bz.x1; have g0' := bz.f 0; have g1' := bz.f 1; have HEz := Lib.hid (HE0.out.trans hxz)
    go_wp2_with fail
    exact bodyPost_ret (v := .agg #[.int .i64 6, .int .i64 0]) (by simp [results, Tryd.results11, go_sem, x0', x1']) rfl ⟨by rw [HF0.out, HF1.out], put2x HEz.out (by omega) _ _⟩
  have dq1 := df hq1
  by_cases hq2 : 12 < qb
  · have hz : (r0, r1) = ((6 : Int), (0 : Int)) := by rw [← hr, if_pos (Or.inr hq2)]
    have HF0 : Hid (r0 = 6) := congrArg Prod.fst hz
    have HF1 : Hid (r1 = 0) := congrArg Prod.snd hz
    clear hr hz
    go_enter Tryd.func11, Tryd.ntmps11
    go_wp2_with fail
    generalize (w.alloc (.cells #[.int .i64 qb, .int .i64 bi, .slice ao n cp] 24)).alloc (.cells #[.int .i64 0, .int .i64 0] 28) = W0 at *
    refine (rfault_any 6 0 _).mono ?_
    rintro e wz ⟨rfl, hxz⟩
    have bz := HFt.out.ext hxz; have x0' := bz.x0; have x1' := bz.x1; have g0' := bz.f 0; have g1' := bz.f 1; have HEz := Lib.hid (HE0.out.trans hxz)
    go_wp2_with fail
    exact bodyPost_ret (v := .agg #[.int .i64 6, .int .i64 0]) (by simp [results, Tryd.results11, go_sem, x0', x1']) rfl ⟨by rw [HF0.out, HF1.out], put2x HEz.out (by omega) _ _⟩
  have dq2 := df hq2
  rw [if_neg (by omega)] at hr
  by_cases hb1 : bi < 0
  · have hz : (r0, r1) = ((7 : Int), (0 : Int)) := by rw [← hr, if_pos (Or.inl hb1)]
    have HF0 : Hid (r0 = 7) := congrArg Prod.fst hz
    have HF1 : Hid (r1 = 0) := congrArg Prod.snd hz
    have d1 := dt hb1
    clear hr hz
    go_enter Tryd.func11, Tryd.ntmps11
    go_wp2_with fail
    generalize (w.alloc (.cells #[.int .i64 qb, .int .i64 bi, .slice ao n cp] 24)).alloc (.cells #[.int .i64 0, .int .i64 0] 28) = W0 at *
    refine (rfault_any 7 0 _).mono ?_
    rintro e wz ⟨rfl, hxz⟩
    have bz := HFt.out.ext hxz; have x0' := bz.x0; have x1' := bz.x1; have g0' := bz.f 0; have g1' := bz.f 1; have HEz := Lib.hid (HE0.out.trans hxz)
    go_wp2_with fail
    exact bodyPost_ret (v := .agg #[.int .i64 7, .int .i64 0]) (by simp [results, Tryd.results11, go_sem, x0', x1']) rfl ⟨by rw [HF0.out, HF1.out], put2x HEz.out (by omega) _ _⟩
  have d1 := df hb1
  by_cases hb2 : 12 < bi
  · have hz : (r0, r1) = ((7 : Int), (0 : Int)) := by rw [← hr, if_pos (Or.inr hb2)]
    have HF0 : Hid (r0 = 7) := congrArg Prod.fst hz
    have HF1 : Hid (r1 = 0) := congrArg Prod.snd hz
    have d2 := dt hb2
    clear hr hz
    go_enter Tryd.func11, Tryd.ntmps11
    go_wp2_with fail
    generalize (w.alloc (.cells #[.int .i64 qb, .int .i64 bi, .slice ao n cp] 24)).alloc (.cells #[.int .i64 0, .int .i64 0] 28) = W0 at *
    refine (rfault_any 7 0 _).mono ?_
    rintro e wz ⟨rfl, hxz⟩
    have bz := HFt.out.ext hxz; have x0' := bz.x0; have x1' := bz.x1; have g0' := bz.f 0; have g1' := bz.f 1; have HEz := Lib.hid (HE0.out.trans hxz)
    go_wp2_with fail
    exact bodyPost_ret (v := .agg #[.int .i64 7, .int .i64 0]) (by simp [results, Tryd.results11, go_sem, x0', x1']) rfl ⟨by rw [HF0.out, HF1.out], put2x HEz.out (by omega) _ _⟩
  have d2 := df hb2
  rw [if_neg (by omega), Hl.out] at hr
  by_cases hL : 4096 < n
  · have hz : (r0, r1) = ((2 : Int), (0 : Int)) := by rw [← hr, if_pos hL]
    have HF0 : Hid (r0 = 2) := congrArg Prod.fst hz
    have HF1 : Hid (r1 = 0) := congrArg Prod.snd hz
    have d3 : (4096 : Int) < (n : Int) := by omega
    clear hr hz
    go_enter Tryd.func11, Tryd.ntmps11
    go_wp2_with fail
    generalize (w.alloc (.cells #[.int .i64 qb, .int .i64 bi, .slice ao n cp] 24)).alloc (.cells #[.int .i64 0, .int .i64 0] 28) = W0 at *
    refine (rfault_any 2 0 _).mono ?_
    rintro e wz ⟨rfl, hxz⟩
    have bz := HFt.out.ext hxz; have x0' := bz.x0; have x1' := bz.x1; have g0' := bz.f 0; have g1' := bz.f 1; have HEz := Lib.hid (HE0.out.trans hxz)
    go_wp2_with fail
    exact bodyPost_ret (v := .agg #[.int .i64 2, .int .i64 0]) (by simp [results, Tryd.results11, go_sem, x0', x1']) rfl ⟨by rw [HF0.out, HF1.out], put2x HEz.out (by omega) _ _⟩
  have d3 : ¬ (4096 : Int) < (n : Int) := by omega
  rw [if_neg hL] at hr
  have Hr := Lib.hid hr
  clear hr
  have hab : n = 0 ∨ ∃ b o, ao = some ⟨b, o, none⟩ := by
    by_cases h0 : n = 0
    · exact Or.inl h0
    · exact Or.inr (HO.out.some_of (by omega))
  go_enter Tryd.func11, Tryd.ntmps11
  go_wp2_with fail
  generalize (w.alloc (.cells #[.int .i64 qb, .int .i64 bi, .slice ao n cp] 24)).alloc (.cells #[.int .i64 0, .int .i64 0] 28) = W0 at *
  go_loopg [3] n (fun kk s3 wr => Ext W0 wr ∧ ∃ i : Nat, s3 = .int .i64 (i : Int) ∧ i ≤ n ∧ n - i = kk ∧ (r0, r1) = opsCode qb bi i (ops.drop i))
  case atStart => exact ⟨Ext.refl _, 0, rfl, by omega, by omega, Hr.out.symm⟩
  case round =>
    obtain ⟨hER, i, rfl, hi, hk, hri⟩ := hrel
    have HER := Lib.hid hER
    have bC' := HC.out.ext hER
    have v0 := bC'.x0; have v1 := bC'.x1; have v2 := bC'.x2; have lC := bC'.lt
    clear m0 m1 m2 x0 x1 g0 g1 hER bC'
    by_cases hin : i = n
    · have h2 : ¬ (i : Int) < (n : Int) := by omega
      have hz : (r0, r1) = ((0 : Int), (0 : Int)) := by rw [hri]; exact opsCode_end qb bi ops i (by rw [Hl.out]; omega)
      have HF0 : Hid (r0 = 0) := congrArg Prod.fst hz
      have HF1 : Hid (r1 = 0) := congrArg Prod.snd hz
      have bz := HFt.out.ext HER.out; have x0' := bz.x0; have x1' := bz.x1; have g0' := bz.f 0; have g1' := bz.f 1
      have HEz := Lib.hid (HE0.out.trans HER.out)
      clear hz hri bz
      go_wp2_with fail
      exact bodyPost_ret (v := .agg #[.int .i64 0, .int .i64 0]) (by simp [results, Tryd.results11, go_sem, x0', x1']) rfl ⟨by rw [HF0.out, HF1.out], put2x HEz.out (by omega) _ _⟩
    · have h2 : (i : Int) < (n : Int) := by omega
      have h0 : (0 : Int) ≤ (i : Int) := by omega
      rcases hab with h | ⟨b, o, rfl⟩
      · omega
      obtain ⟨g, hg⟩ : ∃ g, ops[i]? = some g := ⟨_, List.getElem?_eq_getElem (by rw [Hl.out]; omega)⟩
      obtain ⟨a1, n1, c1, a2, n2, c2, e0, e1, e2, e3, e4, e5, hL⟩ := (HO.out.ext HER.out).at i g hg
      have lb := World.block_lt_of_cell? wr ⟨b, o + i * 6, none⟩ e0
      have hst := opsCode_step qb bi ops i g hg
      rw [← hri] at hst
      have HCO := Lib.hid (fun wx (hx : Ext wr wx) => badOp_any g a1 n1 c1 a2 n2 c2 qb bi wx (hL.ext hx) (by omega) (by omega) (by omega))
      obtain ⟨oc, hoc⟩ : ∃ x, opCode g qb bi = x := ⟨_, rfl⟩
      rw [hoc] at HCO hst
      have Hst := Lib.hid hst
      obtain ⟨kd, kk', ctl, qq, bb, cnd⟩ := g
      simp only at e0 e1 e2 e3 e4 e5 HCO
      clear hst hoc hri hg hL
      have hE0d : Ext wr wr.drew := Below.drew (Ext.refl _)
      go_wp2_with fail
      go_region_held3 (fun w' => w'.cell? ⟨w.heap.size, 0, none⟩ = some (.int .i64 qb) ∧ w'.cell? ⟨w.heap.size, 1, none⟩ = some (.int .i64 bi) ∧ w'.cell? ⟨w.heap.size, 2, none⟩ = some (.slice (some ⟨b, o, none⟩) n cp) ∧ w'.cell? ⟨b, o + i * 6, none⟩ = some (.int .i64 kd) ∧ w'.cell? ⟨b, o + i * 6 + 1, none⟩ = some (.int .i64 kk') ∧ w'.cell? ⟨b, o + i * 6 + 2, none⟩ = some (.slice a1 n1 c1) ∧ w'.cell? ⟨b, o + i * 6 + 3, none⟩ = some (.int .i64 qq) ∧ w'.cell? ⟨b, o + i * 6 + 4, none⟩ = some (.int .i64 bb) ∧ w'.cell? ⟨b, o + i * 6 + 5, none⟩ = some (.slice a2 n2 c2))
        (refine ⟨cell_ext (w := wr) v0 ?_, cell_ext (w := wr) v1 ?_, cell_ext (w := wr) v2 ?_, cell_ext (w := wr) e0 ?_, cell_ext (w := wr) e1 ?_, cell_ext (w := wr) e2 ?_, cell_ext (w := wr) e3 ?_, cell_ext (w := wr) e4 ?_, cell_ext (w := wr) e5 ?_⟩ <;> (repeat (first | assumption | refine Below.drew ?_)))
        (first | (go_at_call 28; refine (HCO.out _ (by assumption)).mono ?_; rintro e w6 ⟨rfl, hx6⟩; have he6 : Ext wr w6 := Ext.trans (by assumption) hx6))
      have HE6 := Lib.hid (HER.out.trans he6)
      clear v0 v1 v2 e0 e1 e2 e3 e4 e5 hE0d he6 hx6
      by_cases hc0 : oc = 0
      · have hcb := nf' hc0
        have hz : (r0, r1) = opsCode qb bi (i + 1) (ops.drop (i + 1)) := by rw [Hst.out, if_neg (by simp [hc0])]
        have HF := Lib.hid hz
        clear hz hc0 Hst
        go_wp2_with fail
        go_roundg (n - (i + 1))
        case measure => omega
        case rel => exact ⟨HE6.out, i + 1, by go_num, by omega, rfl, HF.out⟩
      · have hcb := nt hc0
        have hz : (r0, r1) = (oc, (i : Int)) := by rw [Hst.out, if_pos hc0]
        have HF0 : Hid (r0 = oc) := congrArg Prod.fst hz
        have HF1 : Hid (r1 = (i : Int)) := congrArg Prod.snd hz
        clear hz hc0 Hst
        go_wp2_with fail
        refine (rfault_any oc (i : Int) _).mono ?_
        rintro e wz ⟨rfl, hxz⟩
        have bz := HFt.out.ext (HE6.out.trans hxz); have x0' := bz.x0; have x1' := bz.x1; have g0' := bz.f 0; have g1' := bz.f 1
        have HEz := Lib.hid (HE0.out.trans (HE6.out.trans hxz))
        clear bz
        go_wp2_with fail
        exact bodyPost_ret (v := .agg #[.int .i64 oc, .int .i64 (i : Int)]) (by simp [results, Tryd.results11, go_sem, x0', x1']) rfl ⟨by rw [HF0.out, HF1.out], put2x HEz.out (by omega) _ _⟩

end Go.Proofs.YtpabafioofhklaaDoor
