/-
  The reference's Parse of any text that is not too long.
-/
import Derived.Test.YtfjbhiihfibbaaaDoorMHe

namespace Go.Proofs.YtfjbhiihfibbaaaDoor
open Go.RowKit

/-- A region that draws its order, only reads, and calls what only makes memory, in the order of the text: over all worlds F x. -/
theorem wp_region_F {X : Type} {F : X → World} {id : Nat} {Q : Exit → Act → World → Prop} {a : Act} {w : World} {l : List Oper} (hm : Tryd.prog.follows .mixedOrders = true) (hB : Region.lexB .any l.toArray = true) (hC : ∃ x, w.drew = F x)
    (h : wpQuiet Tryd.prog l.toArray (fun w' => ∃ x, w' = F x) (fun a' => ∀ w', (∃ x, w' = F x) → Q .normal a' w') l a) : (Code.region id l.toArray true).wp Tryd.prog Q a w :=
  wp_region_quiet (C := fun w' => ∃ x, w' = F x) hm hB hC (by simpa using h)

/-- Operations whose block is younger stand. -/
theorem putCF_ops {W : World} {base g gf : Nat} {v : Value} {ops : List Gop} {q0 b0 : Int} {a0 : Option Addr} {n0 c0 : Nat} {u0 v0 : Int} (h : OpsO W base v ops) (hc : CiB W g q0 b0 a0 n0 c0) (hf : FtB W gf u0 v0) (hg : g < base) (hgf : gf < base) (hne : g ≠ gf) (q b : Int) (a : Option Addr) (n c : Nat) (x y : Int) :
    OpsO (putCF W g gf q b a n c x y) base v ops := by
  have hO3 : Only g W (((W.setCell ⟨g, 0, none⟩ (.int .i64 q)).setCell ⟨g, 1, none⟩ (.int .i64 b)).setCell ⟨g, 2, none⟩ (.slice a n c)) := (((Only.refl _ _).setCell _ _).setCell _ _).setCell _ _
  have h3 := h.only hc.row (by decide) hO3 (by simp) hg
  have hf3 : FtB (((W.setCell ⟨g, 0, none⟩ (.int .i64 q)).setCell ⟨g, 1, none⟩ (.int .i64 b)).setCell ⟨g, 2, none⟩ (.slice a n c)) gf u0 v0 := ⟨row_far (row_far (row_far hf.row (by omega)) (by omega)) (by omega)⟩
  unfold putCF
  exact h3.only hf3.row (by decide) (((Only.refl _ _).setCell _ _).setCell _ _) (by simp) hgf

set_option maxHeartbeats 8000000 in
set_option maxRecDepth 100000 in
theorem rparse_any (T : List UInt8) (w : World) (hT : T.length ≤ 1000000) :
    Calls Tryd.prog 9 #[.string ⟨T.toArray⟩] w fun e w' => (∃ (a' : Option Addr) (c' : Nat), e = .returned (.tuple #[.agg #[.int .i64 (prsC T).qubits, .int .i64 (prsC T).bits, .slice a' (prsC T).ops.length c'], .agg #[.int .i64 (prsF T).1, .int .i64 (prsF T).2]]) ∧ (prsC T).ops.length ≤ c' ∧ c' ≤ maxLen ∧ OpsAt w' a' (prsC T).ops.length (prsC T).ops) ∧ Ext w w' := by
  have hT' : ¬ 1000000 < T.length := by omega
  obtain ⟨i0, hi, hz0, hz1, hz2⟩ := info_parts op_info
  obtain ⟨Cc, hCc⟩ : ∃ x, prsC T = x := ⟨_, rfl⟩
  obtain ⟨Fa, hFa⟩ : ∃ x, prsF T = x := ⟨_, rfl⟩
  rw [hCc, hFa]
  obtain ⟨l0, t, hlt⟩ := splt_ne 10 T
  have HBad := Lib.hid (show (t = [] ∨ l0 ≠ hdL (refQ l0) (refB l0)) → Cc = ⟨0, 0, []⟩ ∧ Fa = (1, 0) from fun h => by rw [← hCc, ← hFa]; exact prs_bad hT' hlt h)
  have HInr := Lib.hid (show t ≠ [] → l0 = hdL (refQ l0) (refB l0) → ∀ n : Nat, rdLn t [] 1 = .inr n → Cc = ⟨0, 0, []⟩ ∧ Fa = (1, (n : Int)) from fun h1 h2 n h => by rw [← hCc, ← hFa]; exact prs_inr hT' hlt h1 h2 h)
  have HInl := Lib.hid (show t ≠ [] → l0 = hdL (refQ l0) (refB l0) → ∀ ops, rdLn t [] 1 = .inl ops → Cc = (if (chk ⟨refQ l0, refB l0, ops⟩).1 = 0 then ⟨refQ l0, refB l0, ops⟩ else ⟨0, 0, []⟩) ∧ Fa = chk ⟨refQ l0, refB l0, ops⟩ from fun h1 h2 ops h => by rw [← hCc, ← hFa]; exact prs_inl hT' hlt h1 h2 h)
  have hnl := splt_len 10 T
  have hl0 : l0.length ≤ 1000000 := by
    obtain ⟨_, h2⟩ := splt_head T l0 t hlt
    rcases h2 with ⟨_, h3⟩ | ⟨r, h3, _⟩
    · rw [← h3]; exact hT
    · rw [h3, List.length_append] at hT; omega
  have Hlines := Lib.hid (show ∀ (i : Nat) (x : List UInt8), (l0 :: t)[i]? = some x → x.length ≤ 1000000 from by
    rw [← hlt]
    intro i x hx
    have := splt_mem (List.mem_of_getElem? hx)
    omega)
  have HSp := Lib.hid (fun wx => split_any T 10 wx hT)
  have HSp2 := Lib.hid (fun wx => split_any l0 32 wx hl0)
  rw [hlt] at HSp hnl
  obtain ⟨nl, hnld⟩ : ∃ x, (l0 :: t).length = x := ⟨_, rfl⟩
  rw [hnld] at HSp hnl
  obtain ⟨ws, hws⟩ : ∃ x, splt 32 l0 = x := ⟨_, rfl⟩
  rw [hws] at HSp2
  obtain ⟨nw, hnwd⟩ : ∃ x, ws.length = x := ⟨_, rfl⟩
  rw [hnwd] at HSp2
  have HqD := Lib.hid (show refQ l0 = (if nw = 4 then (fig (ws.getD 1 []) : Int) else 0) by unfold refQ; rw [hws, hnwd])
  have HbD := Lib.hid (show refB l0 = (if nw = 4 then (fig (ws.getD 3 []) : Int) else 0) by unfold refB; rw [hws, hnwd])
  have hqn := refQ_nn l0
  have hbn := refB_nn l0
  obtain ⟨qq, hqq⟩ : ∃ x, refQ l0 = x := ⟨_, rfl⟩
  obtain ⟨bb, hbb⟩ : ∃ x, refB l0 = x := ⟨_, rfl⟩
  rw [hqq, hbb] at HBad HInr HInl
  rw [hqq] at HqD hqn
  rw [hbb] at HbD hbn
  have Hnl := Lib.hid hnld; have Hnw := Lib.hid hnwd
  have hnpos : 0 < nl := by rw [← hnld]; simp
  have hlen : ¬ ((T.length : Nat) : Int) > 1000000 := by omega
  have hld : decide (1000000 < ((T.length : Nat) : Int)) = false := df (by omega)
  obtain ⟨A1, hA1⟩ : ∃ A1, w.alloc (.cells #[.int .i64 0, .int .i64 0, .slice none 0 0] 24) = A1 := ⟨_, rfl⟩
  obtain ⟨A2, hA2⟩ : ∃ A2, A1.alloc (.cells #[.int .i64 0, .int .i64 0] 26) = A2 := ⟨_, rfl⟩
  have hA : (w.alloc (.cells #[.int .i64 0, .int .i64 0, .slice none 0 0] 24)).alloc (.cells #[.int .i64 0, .int .i64 0] 26) = A2 := by rw [hA1, hA2]
  have s1 : A1.heap.size = w.heap.size + 1 := by rw [← hA1]; simp
  have bC : CiB A2 w.heap.size 0 0 none 0 0 := by
    have : CiB A1 w.heap.size 0 0 none 0 0 := by rw [← hA1]; exact ⟨heap_alloc_new w _⟩
    rw [← hA2]; exact this.ext (ext_al _ _)
  have bF : FtB A2 (w.heap.size + 1) 0 0 := by rw [← hA2, ← s1]; exact ⟨heap_alloc_new A1 _⟩
  have HE0 := Lib.hid (show Ext w A2 by rw [← hA2, ← hA1]; exact (ext_al _ _).trans (ext_al _ _))
  have HA := Lib.hid hA; have HC := Lib.hid bC; have HF := Lib.hid bF
  clear hA1 hA2 hA s1 bC bF hT hT' hCc hFa hlt hnld hnwd hws hqq hbb hl0
  go_enter Tryd.func9, Tryd.ntmps9
  go_wp2_with fail
  rw [HA.out]
  refine (HSp.out A2).mono ?_
  rintro e V1 ⟨⟨al, cl, rfl, hc1, hc2, hst⟩, hx1⟩
  have HC1 := Lib.hid (HC.out.ext hx1); have HF1 := Lib.hid (HF.out.ext hx1); have HE1 := Lib.hid (HE0.out.trans hx1); have HSt := Lib.hid hst
  obtain ⟨lb, lo, rfl, hlb, hlc⟩ := hst.at hnpos
  have hc0 := hlc 0 hnpos
  rw [List.getD_cons_zero, Nat.add_zero] at hc0
  have p0 : (0 : Int) < (nl : Int) := by omega
  clear hst hx1 HC HF HE0 HA HSp hlb hlc
  go_wp2_with fail
  refine (HSp2.out V1).mono ?_
  rintro e V2 ⟨⟨aw, cw', rfl, hd1, hd2, hst2⟩, hx2⟩
  have HC2 := Lib.hid (HC1.out.ext hx2); have HF2 := Lib.hid (HF1.out.ext hx2); have HE2 := Lib.hid (HE1.out.trans hx2); have HSt2 := Lib.hid (HSt.out.ext hx2); have HW2 := Lib.hid hst2
  have bc3 : CiB (V2.alloc (.cells #[.int .i64 0, .int .i64 0, .slice none 0 0] 24)) V2.heap.size 0 0 none 0 0 := ⟨heap_alloc_new V2 _⟩
  have HB3 := Lib.hid bc3; have HX3 := Lib.hid (ext_al V2 (.cells #[.int .i64 0, .int .i64 0, .slice none 0 0] 24))
  clear hx2 hst2 HC1 HF1 HE1 HSt HSp2 bc3 hc0
  go_upto_if 24 with fail
  generalize V2.alloc (.cells #[.int .i64 0, .int .i64 0, .slice none 0 0] 24) = V3 at *
  go_cut [] from 24 to 34 (fun wx => CiB wx V2.heap.size qq bb none 0 0 ∧ Ext V2 wx)
  case first =>
    by_cases h4 : nw = 4
    · have q4 : ((nw : Int) == 4) = true := bt' (by omega)
      have hq := HqD.out; have hb := HbD.out
      rw [if_pos h4] at hq hb
      obtain ⟨wb, wo, rfl, hwb, hwc⟩ := (HW2.out.ext HX3.out).at (by omega)
      have c1 := hwc 1 (by omega); have c3 := hwc 3 (by omega)
      have x1 : (1 : Int) < (nw : Int) := by omega
      have x3 : (3 : Int) < (nw : Int) := by omega
      have lwb := hwb
      have HFg1 := Lib.hid (fun wx => figure_any (ws.getD 1 []) wx); have HFg3 := Lib.hid (fun wx => figure_any (ws.getD 3 []) wx)
      rw [← hq] at HFg1; rw [← hb] at HFg3
      obtain ⟨W1, hW1⟩ : ∃ x, ws.getD 1 [] = x := ⟨_, rfl⟩
      obtain ⟨W3, hW3⟩ : ∃ x, ws.getD 3 [] = x := ⟨_, rfl⟩
      rw [hW1] at c1 HFg1; rw [hW3] at c3 HFg3
      clear hq hb h4 hwc hW1 hW3
      go_wp2_with fail
      refine (HFg1.out _).mono ?_
      rintro e u1 ⟨rfl, hy1⟩
      have b1 := HB3.out.ext hy1
      have y0 := b1.x0; have f0 := b1.f 0
      have c3' := ckeep hy1 lwb c3
      have HB4 := Lib.hid (b1.set0 qq); have HX4 := Lib.hid (cput (o := 0) (HX3.out.trans hy1) (Nat.le_refl _) (.int .i64 qq))
      have c3s : (u1.setCell ⟨V2.heap.size, 0, none⟩ (.int .i64 qq)).cell? ⟨wb, wo + 3, none⟩ = some (.string ⟨W3.toArray⟩) := by
        have hne : wb ≠ V2.heap.size := by
          have := World.block_lt_of_cell? V2 ⟨wb, wo + 3, none⟩ (by
            obtain ⟨wb', wo', e', hb', hc'⟩ := HW2.out.at (by omega)
            cases e'
            exact hc' 3 (by omega))
          simp only at this
          omega
        rw [World.cell?_of_block (a := ⟨wb, wo + 3, none⟩) (Below.heap_setCell u1 ⟨V2.heap.size, 0, none⟩ (.int .i64 qq) wb hne)]
        exact c3'
      clear hy1 b1 HFg1
      go_wp2_with fail
      generalize u1.setCell ⟨V2.heap.size, 0, none⟩ (.int .i64 qq) = u2 at *
      refine (HFg3.out _).mono ?_
      rintro e u3 ⟨rfl, hy3⟩
      have b3 := HB4.out.ext hy3
      have y1 := b3.x1; have f1 := b3.f 1
      have HB5 := Lib.hid (b3.set1 bb); have HX5 := Lib.hid (cput (o := 1) (HX4.out.trans hy3) (Nat.le_refl _) (.int .i64 bb))
      clear hy3 b3 HFg3
      go_wp2_with fail
      go_meet
      exact ⟨HB5.out, HX5.out⟩
    · have q4 : ((nw : Int) == 4) = false := bf (by omega)
      have hq := HqD.out; have hb := HbD.out
      rw [if_neg h4] at hq hb
      have Hq := Lib.hid hq; have Hb := Lib.hid hb
      clear hq hb h4
      go_wp2_with fail
      go_meet
      exact ⟨by rw [Hq.out, Hb.out]; exact HB3.out, HX3.out⟩
  case rest =>
  obtain ⟨hB, hX⟩ := hcut
  have HB := Lib.hid hB; have HX := Lib.hid hX
  clear hB hX HB3 HX3 HqD HbD HW2 V3 hd1 hd2
  go_upto_region 9 with fail
  obtain ⟨D1, hD1⟩ : ∃ x, Lib.decDigits qq.toNat = x := ⟨_, rfl⟩
  obtain ⟨D2, hD2⟩ : ∃ x, Lib.decDigits bb.toNat = x := ⟨_, rfl⟩
  have hl1 : D1.length ≤ 11 := by rw [← hD1]; exact dd_len11 (by omega)
  have hl2 : D2.length ≤ 11 := by rw [← hD2]; exact dd_len11 (by omega)
  have HN1 := Lib.hid (fun wx => num_wide qq wx hqn.1 hqn.2)
  have HN2 := Lib.hid (fun wx => num_wide bb wx hbn.1 hbn.2)
  rw [hD1] at HN1; rw [hD2] at HN2
  obtain ⟨s1, hs1'⟩ : ∃ x : List UInt8, [113, 117, 98, 105, 116, 115, 32] ++ D1 = x := ⟨_, rfl⟩
  obtain ⟨s2, hs2'⟩ : ∃ x : List UInt8, s1 ++ [32, 98, 105, 116, 115, 32] = x := ⟨_, rfl⟩
  obtain ⟨s3, hs3'⟩ : ∃ x : List UInt8, s2 ++ D2 = x := ⟨_, rfl⟩
  have hhd : hdL qq bb = s3 := by rw [← hs3', ← hs2', ← hs1', ← hD1, ← hD2]; simp [hdL, numL]
  have k1 : s1.length ≤ 18 := by rw [← hs1']; simp; omega
  have k2 : s2.length ≤ 24 := by rw [← hs2']; simp; omega
  have hs1 : ∀ W : World, (Op.stringOp .add ⟨#[113, 117, 98, 105, 116, 115, 32]⟩ ⟨D1.toArray⟩).run Tryd.prog W = .ok (.string ⟨s1.toArray⟩) W := fun W => by rw [← hs1']; exact sadd [113, 117, 98, 105, 116, 115, 32] D1 (by simp; omega) W
  have hs2 : ∀ W : World, (Op.stringOp .add ⟨s1.toArray⟩ ⟨#[32, 98, 105, 116, 115, 32]⟩).run Tryd.prog W = .ok (.string ⟨s2.toArray⟩) W := fun W => by rw [← hs2']; exact sadd s1 [32, 98, 105, 116, 115, 32] (by simp; omega) W
  have hs3 : ∀ W : World, (Op.stringOp .add ⟨s2.toArray⟩ ⟨D2.toArray⟩).run Tryd.prog W = .ok (.string ⟨s3.toArray⟩) W := fun W => by rw [← hs3']; exact sadd s2 D2 (by omega) W
  rw [hhd] at HBad HInr HInl
  clear hhd hs1' hs2' hs3' k1 k2 hl1 hl2 hD1 hD2
  have d0 := HB.out.x0; have d1 := HB.out.x1
  obtain ⟨lb', lo', elb, hlb, hlc⟩ := (HSt2.out.ext HX.out).at hnpos
  injection elb with elb
  injection elb with e1 e2 _
  subst e1; subst e2
  have dl := hlc 0 hnpos
  rw [List.getD_cons_zero, Nat.add_zero] at dl
  have lC := HB.out.lt
  have lL := hlb
  clear hlb hlc
  generalize wc = U at *
  have hUd : Ext U U.drew := Below.drew (Ext.refl U)
  go_cut [52] from 35 to 52 (fun s52 wx => s52 = .bool (decide (t = [] ∨ l0 ≠ s3)) ∧ Ext U wx)
  case first =>
    by_cases hne : l0 = s3
    · have e0 : (l0 == s3) = true := by rw [hne]; exact beq_self_eq_true s3
      have e0' : (l0 != s3) = false := by rw [bne, e0]; rfl
      have hdec : decide (t = [] ∨ l0 ≠ s3) = ((nl : Int) == 1) := by
        have h1 := Hnl.out
        by_cases ht : t = []
        · rw [ht] at h1; simp at h1
          rw [dt (Or.inl ht), ← h1]; rfl
        · have h2 : t.length ≠ 0 := fun e => ht (List.length_eq_zero_iff.1 e)
          rw [List.length_cons] at h1
          rw [df (by rintro (h | h); exact ht h; exact h hne), bf (by omega)]
      have Hdec := Lib.hid hdec
      clear hne hdec
      refine wp_region_held_drew (S := (fun w' => w'.cell? ⟨lb, lo, none⟩ = some (.string ⟨l0.toArray⟩) ∧ w'.cell? ⟨V2.heap.size, 0, none⟩ = some (.int .i64 qq) ∧ w'.cell? ⟨V2.heap.size, 1, none⟩ = some (.int .i64 bb))) (by kernel_rfl) (⟨ckeep (W := U) (by with_reducible assumption) lL dl, ckeep (W := U) (by with_reducible assumption) lC d0, ckeep (W := U) (by with_reducible assumption) lC d1⟩) (fun hHeld => ?_)
      refine wpAnyH_take (i := 0) (v := ?_) rfl (by kernel_rfl) (by kernel_rfl) (by kernel_rfl) (fun _ _ _ h => h) (Or.inl ⟨by rfl, ?_⟩) hHeld ?_
      rotate_left 1
      · intro w hSw
        go_simp
        try with_reducible rfl
      show wpAnyH _ _ _ _ _ _ _ (Act.put _ (some 35) _) _
      simp only [Act.put, List.setIfInBounds_toArray, List.set_cons_zero, List.set_cons_succ]
      refine wpAnyH_take (i := 1) (v := ?_) rfl (by kernel_rfl) (by kernel_rfl) (by kernel_rfl) (fun _ _ _ h => h) (Or.inl ⟨by rfl, ?_⟩) hHeld ?_
      rotate_left 1
      · intro w hSw
        go_simp
        try with_reducible rfl
      show wpAnyH _ _ _ _ _ _ _ (Act.put _ (some 36) _) _
      simp only [Act.put, List.setIfInBounds_toArray, List.set_cons_zero, List.set_cons_succ]
      refine wpAnyH_take (i := 2) (v := ?_) rfl (by kernel_rfl) (by kernel_rfl) (by kernel_rfl) (fun _ _ _ h => h) (Or.inl ⟨by rfl, ?_⟩) hHeld ?_
      rotate_left 1
      · intro w hSw
        go_simp
        try with_reducible rfl
      show wpAnyH _ _ _ _ _ _ _ (Act.put _ (some 37) _) _
      simp only [Act.put, List.setIfInBounds_toArray, List.set_cons_zero, List.set_cons_succ]
      refine wpAnyH_take (i := 3) (v := ?_) rfl (by kernel_rfl) (by kernel_rfl) (by kernel_rfl) (fun _ _ _ h => h) (Or.inl ⟨by rfl, ?_⟩) hHeld ?_
      rotate_left 1
      · intro w hSw
        go_simp
        try with_reducible rfl
      show wpAnyH _ _ _ _ _ _ _ (Act.put _ (some 38) _) _
      simp only [Act.put, List.setIfInBounds_toArray, List.set_cons_zero, List.set_cons_succ]
      refine wpAnyH_take (i := 4) (v := ?_) rfl (by kernel_rfl) (by kernel_rfl) (by kernel_rfl) (fun _ _ _ h => h) (Or.inl ⟨by rfl, ?_⟩) hHeld ?_
      rotate_left 1
      · intro w hSw
        go_simp
        try with_reducible rfl
      show wpAnyH _ _ _ _ _ _ _ (Act.put _ (some 39) _) _
      simp only [Act.put, List.setIfInBounds_toArray, List.set_cons_zero, List.set_cons_succ]
      refine wpAnyH_take (i := 8) (v := ?_) rfl (by kernel_rfl) (by kernel_rfl) (by kernel_rfl) (fun _ _ _ h => h) (Or.inl ⟨by rfl, ?_⟩) hHeld ?_
      rotate_left 1
      · intro w hSw
        go_simp
        try with_reducible rfl
      show wpAnyH _ _ _ _ _ _ _ (Act.put _ (some 43) _) _
      simp only [Act.put, List.setIfInBounds_toArray, List.set_cons_zero, List.set_cons_succ]
      refine wpAnyH_take (i := 9) (v := ?_) rfl (by kernel_rfl) (by kernel_rfl) (by kernel_rfl) (fun _ _ _ h => h) (Or.inl ⟨by rfl, ?_⟩) hHeld ?_
      rotate_left 1
      · intro w hSw
        go_simp
        try with_reducible rfl
      show wpAnyH _ _ _ _ _ _ _ (Act.put _ (some 44) _) _
      simp only [Act.put, List.setIfInBounds_toArray, List.set_cons_zero, List.set_cons_succ]
      refine wpAnyH_ready (rs := [5]) (by kernel_rfl) (by simp) ?_
      refine AllReadyH.cons rfl (fun K hK => ?_) AllReadyH.nil
      go_simp
      (go_at_call 35; refine (HN1.out _).mono ?_; rintro e u1 ⟨rfl, hy1⟩; have hu1 : Ext U u1 := hUd.trans hy1)
      go_wp2_with fail
      refine hK.out _ _ (⟨ckeep (W := U) (by with_reducible assumption) lL dl, ckeep (W := U) (by with_reducible assumption) lC d0, ckeep (W := U) (by with_reducible assumption) lC d1⟩) (fun hHeld => ?_)
      clear hK K
      refine wpAnyH_take (i := 6) (v := ?_) rfl (by kernel_rfl) (by kernel_rfl) (by kernel_rfl) (fun _ _ _ h => h) (Or.inl ⟨by rfl, ?_⟩) hHeld ?_
      rotate_left 1
      · intro w hSw
        go_simp
        try with_reducible rfl
      show wpAnyH _ _ _ _ _ _ _ (Act.put _ (some 41) _) _
      simp only [Act.put, List.setIfInBounds_toArray, List.set_cons_zero, List.set_cons_succ]
      refine wpAnyH_take (i := 7) (v := ?_) rfl (by kernel_rfl) (by kernel_rfl) (by kernel_rfl) (fun _ _ _ h => h) (Or.inl ⟨by rfl, ?_⟩) hHeld ?_
      rotate_left 1
      · intro w hSw
        go_simp
        try with_reducible rfl
      show wpAnyH _ _ _ _ _ _ _ (Act.put _ (some 42) _) _
      simp only [Act.put, List.setIfInBounds_toArray, List.set_cons_zero, List.set_cons_succ]
      refine wpAnyH_ready (rs := [10]) (by kernel_rfl) (by simp) ?_
      refine AllReadyH.cons rfl (fun K hK => ?_) AllReadyH.nil
      go_simp
      (go_at_call 35; refine (HN2.out _).mono ?_; rintro e u2 ⟨rfl, hy2⟩; have hu2 : Ext U u2 := hu1.trans hy2)
      go_wp2_with fail
      refine hK.out _ _ (⟨ckeep (W := U) (by with_reducible assumption) lL dl, ckeep (W := U) (by with_reducible assumption) lC d0, ckeep (W := U) (by with_reducible assumption) lC d1⟩) (fun hHeld => ?_)
      clear hK K
      refine wpAnyH_take (i := 11) (v := ?_) rfl (by kernel_rfl) (by kernel_rfl) (by kernel_rfl) (fun _ _ _ h => h) (Or.inl ⟨by rfl, ?_⟩) hHeld ?_
      rotate_left 1
      · intro w hSw
        go_simp
        try with_reducible rfl
      show wpAnyH _ _ _ _ _ _ _ (Act.put _ (some 46) _) _
      simp only [Act.put, List.setIfInBounds_toArray, List.set_cons_zero, List.set_cons_succ]
      refine wpAnyH_take (i := 12) (v := ?_) rfl (by kernel_rfl) (by kernel_rfl) (by kernel_rfl) (fun _ _ _ h => h) (Or.inl ⟨by rfl, ?_⟩) hHeld ?_
      rotate_left 1
      · intro w hSw
        go_simp
        try with_reducible rfl
      show wpAnyH _ _ _ _ _ _ _ (Act.put _ (some 47) _) _
      simp only [Act.put, List.setIfInBounds_toArray, List.set_cons_zero, List.set_cons_succ]
      refine wpAnyH_take (i := 13) (v := ?_) rfl (by kernel_rfl) (by kernel_rfl) (by kernel_rfl) (fun _ _ _ h => h) (Or.inl ⟨by rfl, ?_⟩) hHeld ?_
      rotate_left 1
      · intro w hSw
        go_simp
        try with_reducible rfl
      show wpAnyH _ _ _ _ _ _ _ (Act.put _ (some 48) _) _
      simp only [Act.put, List.setIfInBounds_toArray, List.set_cons_zero, List.set_cons_succ]
      refine wpAnyH_take (i := 14) (v := ?_) rfl (by kernel_rfl) (by kernel_rfl) (by kernel_rfl) (fun _ _ _ h => h) (Or.inl ⟨by rfl, ?_⟩) hHeld ?_
      rotate_left 1
      · intro w hSw
        go_simp
        try with_reducible rfl
      show wpAnyH _ _ _ _ _ _ _ (Act.put _ (some 49) _) _
      simp only [Act.put, List.setIfInBounds_toArray, List.set_cons_zero, List.set_cons_succ]
      refine wpAnyH_take (i := 15) (v := ?_) rfl (by kernel_rfl) (by kernel_rfl) (by kernel_rfl) (fun _ _ _ h => h) (Or.inl ⟨by rfl, ?_⟩) hHeld ?_
      rotate_left 1
      · intro w hSw
        go_simp
        try with_reducible rfl
      show wpAnyH _ _ _ _ _ _ _ (Act.put _ (some 50) _) _
      simp only [Act.put, List.setIfInBounds_toArray, List.set_cons_zero, List.set_cons_succ]
      refine wpAnyH_take (i := 16) (v := ?_) rfl (by kernel_rfl) (by kernel_rfl) (by kernel_rfl) (fun _ _ _ h => h) (Or.inl ⟨by rfl, ?_⟩) hHeld ?_
      rotate_left 1
      · intro w hSw
        go_simp
        try with_reducible rfl
      show wpAnyH _ _ _ _ _ _ _ (Act.put _ (some 51) _) _
      simp only [Act.put, List.setIfInBounds_toArray, List.set_cons_zero, List.set_cons_succ]
      refine wpAnyH_take (i := 17) (v := ?_) rfl (by kernel_rfl) (by kernel_rfl) (by kernel_rfl) (fun _ _ _ h => h) (Or.inl ⟨by rfl, ?_⟩) hHeld ?_
      rotate_left 1
      · intro w hSw
        go_simp
        try with_reducible rfl
      show wpAnyH _ _ _ _ _ _ _ (Act.put _ (some 52) _) _
      simp only [Act.put, List.setIfInBounds_toArray, List.set_cons_zero, List.set_cons_succ]
      refine wpAnyH_done (by kernel_rfl) ?_ _
      go_wp2_with fail
      go_meet
      exact ⟨congrArg Value.bool Hdec.out.symm, hu2⟩
    · have e0 : (l0 == s3) = false := by simpa using hne
      have e0' : (l0 != s3) = true := by rw [bne, e0]; rfl
      have Hdec := Lib.hid (show decide (t = [] ∨ l0 ≠ s3) = true from dt (Or.inr hne))
      clear hne
      refine wp_region_held_drew (S := (fun w' => w'.cell? ⟨lb, lo, none⟩ = some (.string ⟨l0.toArray⟩) ∧ w'.cell? ⟨V2.heap.size, 0, none⟩ = some (.int .i64 qq) ∧ w'.cell? ⟨V2.heap.size, 1, none⟩ = some (.int .i64 bb))) (by kernel_rfl) (⟨ckeep (W := U) (by with_reducible assumption) lL dl, ckeep (W := U) (by with_reducible assumption) lC d0, ckeep (W := U) (by with_reducible assumption) lC d1⟩) (fun hHeld => ?_)
      refine wpAnyH_take (i := 0) (v := ?_) rfl (by kernel_rfl) (by kernel_rfl) (by kernel_rfl) (fun _ _ _ h => h) (Or.inl ⟨by rfl, ?_⟩) hHeld ?_
      rotate_left 1
      · intro w hSw
        go_simp
        try with_reducible rfl
      show wpAnyH _ _ _ _ _ _ _ (Act.put _ (some 35) _) _
      simp only [Act.put, List.setIfInBounds_toArray, List.set_cons_zero, List.set_cons_succ]
      refine wpAnyH_take (i := 1) (v := ?_) rfl (by kernel_rfl) (by kernel_rfl) (by kernel_rfl) (fun _ _ _ h => h) (Or.inl ⟨by rfl, ?_⟩) hHeld ?_
      rotate_left 1
      · intro w hSw
        go_simp
        try with_reducible rfl
      show wpAnyH _ _ _ _ _ _ _ (Act.put _ (some 36) _) _
      simp only [Act.put, List.setIfInBounds_toArray, List.set_cons_zero, List.set_cons_succ]
      refine wpAnyH_take (i := 2) (v := ?_) rfl (by kernel_rfl) (by kernel_rfl) (by kernel_rfl) (fun _ _ _ h => h) (Or.inl ⟨by rfl, ?_⟩) hHeld ?_
      rotate_left 1
      · intro w hSw
        go_simp
        try with_reducible rfl
      show wpAnyH _ _ _ _ _ _ _ (Act.put _ (some 37) _) _
      simp only [Act.put, List.setIfInBounds_toArray, List.set_cons_zero, List.set_cons_succ]
      refine wpAnyH_take (i := 3) (v := ?_) rfl (by kernel_rfl) (by kernel_rfl) (by kernel_rfl) (fun _ _ _ h => h) (Or.inl ⟨by rfl, ?_⟩) hHeld ?_
      rotate_left 1
      · intro w hSw
        go_simp
        try with_reducible rfl
      show wpAnyH _ _ _ _ _ _ _ (Act.put _ (some 38) _) _
      simp only [Act.put, List.setIfInBounds_toArray, List.set_cons_zero, List.set_cons_succ]
      refine wpAnyH_take (i := 4) (v := ?_) rfl (by kernel_rfl) (by kernel_rfl) (by kernel_rfl) (fun _ _ _ h => h) (Or.inl ⟨by rfl, ?_⟩) hHeld ?_
      rotate_left 1
      · intro w hSw
        go_simp
        try with_reducible rfl
      show wpAnyH _ _ _ _ _ _ _ (Act.put _ (some 39) _) _
      simp only [Act.put, List.setIfInBounds_toArray, List.set_cons_zero, List.set_cons_succ]
      refine wpAnyH_take (i := 8) (v := ?_) rfl (by kernel_rfl) (by kernel_rfl) (by kernel_rfl) (fun _ _ _ h => h) (Or.inl ⟨by rfl, ?_⟩) hHeld ?_
      rotate_left 1
      · intro w hSw
        go_simp
        try with_reducible rfl
      show wpAnyH _ _ _ _ _ _ _ (Act.put _ (some 43) _) _
      simp only [Act.put, List.setIfInBounds_toArray, List.set_cons_zero, List.set_cons_succ]
      refine wpAnyH_take (i := 9) (v := ?_) rfl (by kernel_rfl) (by kernel_rfl) (by kernel_rfl) (fun _ _ _ h => h) (Or.inl ⟨by rfl, ?_⟩) hHeld ?_
      rotate_left 1
      · intro w hSw
        go_simp
        try with_reducible rfl
      show wpAnyH _ _ _ _ _ _ _ (Act.put _ (some 44) _) _
      simp only [Act.put, List.setIfInBounds_toArray, List.set_cons_zero, List.set_cons_succ]
      refine wpAnyH_ready (rs := [5]) (by kernel_rfl) (by simp) ?_
      refine AllReadyH.cons rfl (fun K hK => ?_) AllReadyH.nil
      go_simp
      (go_at_call 35; refine (HN1.out _).mono ?_; rintro e u1 ⟨rfl, hy1⟩; have hu1 : Ext U u1 := hUd.trans hy1)
      go_wp2_with fail
      refine hK.out _ _ (⟨ckeep (W := U) (by with_reducible assumption) lL dl, ckeep (W := U) (by with_reducible assumption) lC d0, ckeep (W := U) (by with_reducible assumption) lC d1⟩) (fun hHeld => ?_)
      clear hK K
      refine wpAnyH_take (i := 6) (v := ?_) rfl (by kernel_rfl) (by kernel_rfl) (by kernel_rfl) (fun _ _ _ h => h) (Or.inl ⟨by rfl, ?_⟩) hHeld ?_
      rotate_left 1
      · intro w hSw
        go_simp
        try with_reducible rfl
      show wpAnyH _ _ _ _ _ _ _ (Act.put _ (some 41) _) _
      simp only [Act.put, List.setIfInBounds_toArray, List.set_cons_zero, List.set_cons_succ]
      refine wpAnyH_take (i := 7) (v := ?_) rfl (by kernel_rfl) (by kernel_rfl) (by kernel_rfl) (fun _ _ _ h => h) (Or.inl ⟨by rfl, ?_⟩) hHeld ?_
      rotate_left 1
      · intro w hSw
        go_simp
        try with_reducible rfl
      show wpAnyH _ _ _ _ _ _ _ (Act.put _ (some 42) _) _
      simp only [Act.put, List.setIfInBounds_toArray, List.set_cons_zero, List.set_cons_succ]
      refine wpAnyH_ready (rs := [10]) (by kernel_rfl) (by simp) ?_
      refine AllReadyH.cons rfl (fun K hK => ?_) AllReadyH.nil
      go_simp
      (go_at_call 35; refine (HN2.out _).mono ?_; rintro e u2 ⟨rfl, hy2⟩; have hu2 : Ext U u2 := hu1.trans hy2)
      go_wp2_with fail
      refine hK.out _ _ (⟨ckeep (W := U) (by with_reducible assumption) lL dl, ckeep (W := U) (by with_reducible assumption) lC d0, ckeep (W := U) (by with_reducible assumption) lC d1⟩) (fun hHeld => ?_)
      clear hK K
      refine wpAnyH_take (i := 11) (v := ?_) rfl (by kernel_rfl) (by kernel_rfl) (by kernel_rfl) (fun _ _ _ h => h) (Or.inl ⟨by rfl, ?_⟩) hHeld ?_
      rotate_left 1
      · intro w hSw
        go_simp
        try with_reducible rfl
      show wpAnyH _ _ _ _ _ _ _ (Act.put _ (some 46) _) _
      simp only [Act.put, List.setIfInBounds_toArray, List.set_cons_zero, List.set_cons_succ]
      refine wpAnyH_take (i := 12) (v := ?_) rfl (by kernel_rfl) (by kernel_rfl) (by kernel_rfl) (fun _ _ _ h => h) (Or.inl ⟨by rfl, ?_⟩) hHeld ?_
      rotate_left 1
      · intro w hSw
        go_simp
        try with_reducible rfl
      show wpAnyH _ _ _ _ _ _ _ (Act.put _ (some 47) _) _
      simp only [Act.put, List.setIfInBounds_toArray, List.set_cons_zero, List.set_cons_succ]
      refine wpAnyH_take (i := 13) (v := ?_) rfl (by kernel_rfl) (by kernel_rfl) (by kernel_rfl) (fun _ _ _ h => h) (Or.inl ⟨by rfl, ?_⟩) hHeld ?_
      rotate_left 1
      · intro w hSw
        go_simp
        try with_reducible rfl
      show wpAnyH _ _ _ _ _ _ _ (Act.put _ (some 48) _) _
      simp only [Act.put, List.setIfInBounds_toArray, List.set_cons_zero, List.set_cons_succ]
      refine wpAnyH_take (i := 14) rfl (by kernel_rfl) (by kernel_rfl) (by kernel_rfl) (fun _ _ _ h => h) (Or.inr ⟨by rfl, rfl⟩) hHeld ?_
      show wpAnyH _ _ _ _ _ _ _ (Act.put _ (some 49) _) _
      simp only [Act.put, List.setIfInBounds_toArray, List.set_cons_zero, List.set_cons_succ]
      refine wpAnyH_take (i := 15) rfl (by kernel_rfl) (by kernel_rfl) (by kernel_rfl) (fun _ _ _ h => h) (Or.inr ⟨by rfl, rfl⟩) hHeld ?_
      show wpAnyH _ _ _ _ _ _ _ (Act.put _ (some 50) _) _
      simp only [Act.put, List.setIfInBounds_toArray, List.set_cons_zero, List.set_cons_succ]
      refine wpAnyH_take (i := 16) rfl (by kernel_rfl) (by kernel_rfl) (by kernel_rfl) (fun _ _ _ h => h) (Or.inr ⟨by rfl, rfl⟩) hHeld ?_
      show wpAnyH _ _ _ _ _ _ _ (Act.put _ (some 51) _) _
      simp only [Act.put, List.setIfInBounds_toArray, List.set_cons_zero, List.set_cons_succ]
      refine wpAnyH_take (i := 17) (v := ?_) rfl (by kernel_rfl) (by kernel_rfl) (by kernel_rfl) (fun _ _ _ h => h) (Or.inl ⟨by rfl, ?_⟩) hHeld ?_
      rotate_left 1
      · intro w hSw
        go_simp
        try with_reducible rfl
      show wpAnyH _ _ _ _ _ _ _ (Act.put _ (some 52) _) _
      simp only [Act.put, List.setIfInBounds_toArray, List.set_cons_zero, List.set_cons_succ]
      refine wpAnyH_done (by kernel_rfl) ?_ _
      go_wp2_with fail
      go_meet
      exact ⟨congrArg Value.bool Hdec.out.symm, hu2⟩
  case rest =>
  obtain ⟨rfl, hXU⟩ := hcut
  have HXU := Lib.hid hXU
  have HB9 := Lib.hid (HB.out.ext hXU)
  have HV9 := Lib.hid (HX.out.trans hXU)
  clear hXU HN1 HN2 hs1 hs2 hs3 hUd d0 d1 dl lC lL
  have hR2 : w.heap.size < V2.heap.size := HC2.out.lt
  have hR3 : w.heap.size + 1 < V2.heap.size := HF2.out.lt
  by_cases hbad : t = [] ∨ l0 ≠ s3
  · have HZ := Lib.hid (HBad.out hbad)
    have hdec := dt hbad
    have bC1 := HC2.out.ext HV9.out; have bF1 := HF2.out.ext HV9.out
    have HCk := Lib.hid bC1; have HFk := Lib.hid bF1
    have HEk := Lib.hid (HE2.out.trans HV9.out)
    clear hbad bC1 bF1
    rw [hdec]
    clear hdec
    go_wp2_with fail
    refine (rfault_any 1 0 _).mono ?_
    rintro e w1 ⟨rfl, hx1⟩
    have bC1 := HCk.out.ext hx1; have bF1 := HFk.out.ext hx1
    have y0 := bC1.x0; have y1 := bC1.x1; have y2 := bC1.x2; have f0 := bC1.f 0; have f1 := bC1.f 1; have f2 := bC1.f 2
    have z0 := bF1.x0; have z1 := bF1.x1; have k0 := bF1.f 0; have k1 := bF1.f 1
    have zC := putCF_C bC1 (show w.heap.size ≠ w.heap.size + 1 by omega) 0 0 none 0 0 1 0
    have zF := putCF_F bF1 (show w.heap.size ≠ w.heap.size + 1 by omega) 0 0 none 0 0 1 0
    have HzE := Lib.hid (putCF_ext (HEk.out.trans hx1) (Nat.le_refl _) (Nat.le_succ _) 0 0 none 0 0 1 0 : Ext w (putCF w1 w.heap.size (w.heap.size + 1) 0 0 none 0 0 1 0))
    obtain ⟨Wz, hWz⟩ : ∃ Wz, putCF w1 w.heap.size (w.heap.size + 1) 0 0 none 0 0 1 0 = Wz := ⟨_, rfl⟩
    rw [hWz] at zC zF HzE
    unfold putCF at hWz
    have HWz := Lib.hid hWz
    have v0 := zC.x0; have v1 := zC.x1; have v2 := zC.x2; have v3 := zF.x0; have v4 := zF.x1
    clear zC zF hWz bC1 bF1 hx1 hR2 hR3
    go_wp2_with fail
    rw [HWz.out]
    obtain ⟨rfl, rfl⟩ := HZ.out
    exact bodyPost_ret (v := .tuple #[.agg #[.int .i64 0, .int .i64 0, .slice none 0 0], .agg #[.int .i64 1, .int .i64 0]]) (by simp [results, Tryd.results9, go_sem, v0, v1, v2, v3, v4]) rfl ⟨⟨none, 0, rfl, Nat.le_refl _, Nat.zero_le _, ⟨rfl, Or.inl rfl⟩⟩, HzE.out⟩
  have hdec := df hbad
  rw [hdec]
  have ht : t ≠ [] := fun e => hbad (Or.inl e)
  have hl0s : l0 = s3 := Classical.byContradiction fun e => hbad (Or.inr e)
  obtain ⟨res, hres⟩ : ∃ r, rdLn t [] 1 = r := ⟨_, rfl⟩
  have HQa := Lib.hid (show ∀ n : Nat, res = .inr n → Cc = ⟨0, 0, []⟩ ∧ Fa = (1, (n : Int)) from fun n e => HInr.out ht hl0s n (hres.trans e))
  have HQb := Lib.hid (show ∀ ops, res = .inl ops → Cc = (if (chk ⟨qq, bb, ops⟩).1 = 0 then ⟨qq, bb, ops⟩ else ⟨0, 0, []⟩) ∧ Fa = chk ⟨qq, bb, ops⟩ from fun ops e => HInl.out ht hl0s ops (hres.trans e))
  have Hres := Lib.hid (show rdLn ((l0 :: t).drop 1) [] 1 = res from hres)
  have hnl2 : 1 < nl := by
    have h1 := Hnl.out
    have h2 : t.length ≠ 0 := fun e => ht (List.length_eq_zero_iff.1 e)
    rw [List.length_cons] at h1
    omega
  have hnlm : nl ≤ 1000001 := by omega
  clear hdec ht hl0s hres HBad HInr HInl hbad hnl
  go_wp2_with fail
  go_loopg [7, 8] (nl - 1) (fun kk s7 s8 wx => ∃ (i : Nat) (acc : List Gop) (av : Option Addr) (cv : Nat), s7 = .int .i64 (i : Int) ∧ 1 ≤ i ∧ i < nl ∧ nl - i = kk ∧ acc.length + 1 = i ∧ rdLn ((l0 :: t).drop i) acc i = res ∧ CiB wx V2.heap.size qq bb av acc.length cv ∧ OpsO wx (V2.heap.size + 1) (.slice av acc.length cv) acc ∧ Ext V2 wx)
  case atStart => exact ⟨1, [], none, 0, rfl, by omega, hnl2, rfl, rfl, Hres.out, HB9.out, OpsO.nil _ _, HV9.out⟩
  case round =>
    clear HB9 HV9 Hres HB HX HXU
    obtain ⟨i, acc, av, cv, rfl, hi1, hin, hk, hacc, hrs, hB, hO, hX⟩ := hrel
    have q1 : (i : Int) < (nl : Int) := by omega
    have q1' : decide ((i : Int) < (nl : Int)) = true := dt q1
    have q0 : (0 : Int) ≤ (i : Int) := by omega
    obtain ⟨n1, hn1⟩ : ∃ x : Int, (nl : Int) - 1 = x := ⟨_, rfl⟩
    have wn1 : IntKind.i64.wrap ((nl : Int) - 1) = n1 := by rw [IntKind.wrap_i64]; omega
    obtain ⟨lb', lo', elb, hlb, hlc⟩ := (HSt2.out.ext hX).at hnpos
    injection elb with elb
    injection elb with e1 e2 _
    subst e1; subst e2
    have dl := hlc i hin
    obtain ⟨Li, hLi⟩ : ∃ x, (l0 :: t).getD i [] = x := ⟨_, rfl⟩
    rw [hLi] at dl
    have hLl : (l0 :: t).length = nl := Hnl.out
    have hdr : (l0 :: t).drop i = Li :: (l0 :: t).drop (i + 1) := by
      have hlt : i < (l0 :: t).length := by omega
      rw [List.drop_eq_getElem_cons hlt, ← hLi, List.getD_eq_getElem?_getD, List.getElem?_eq_getElem hlt]; rfl
    have hLlen : Li.length ≤ 1000000 := Hlines.out i Li (by rw [← hLi, List.getD_eq_getElem?_getD, List.getElem?_eq_getElem (by omega)]; rfl)
    rw [hdr] at hrs
    have HB := Lib.hid hB; have HO := Lib.hid hO; have HX := Lib.hid hX
    have lLb := hlb
    clear hB hO hX hlb hlc hLi hdr
    by_cases hexit : i + 1 = nl ∧ Li = []
    · have e1 : ((i : Int) == n1) = true := bt' (by omega)
      have e2 : (Li == []) = true := by rw [hexit.2]; rfl
      rw [hexit.2, List.drop_eq_nil_of_le (by omega), rdLn_last] at hrs
      have hZ := HQb.out acc hrs.symm
      have dl' := dl
      rw [hexit.2] at dl'
      obtain ⟨rfl⟩ : Li = [] := hexit.2
      obtain ⟨a9, c9, ev9, j1, j2, hat⟩ := HO.out.at
      injection ev9 with ea _ ec
      subst ea; subst ec
      have HK := Lib.hid (RCheck_any ⟨qq, bb, acc⟩ av acc.length cv wr hat j1 (by unfold maxLen at j2; omega))
      obtain ⟨F, hF⟩ : ∃ F, chk ⟨qq, bb, acc⟩ = F := ⟨_, rfl⟩
      rw [hF] at hZ HK
      obtain ⟨u, v⟩ := F
      have Hz0 := Lib.hid (show u = 0 → v = 0 from fun e => by
        subst e
        obtain ⟨hz, _⟩ := chk_zero (c := ⟨qq, bb, acc⟩) (by rw [hF])
        rw [hF] at hz
        injection hz)
      have HZ := Lib.hid hZ
      simp only at HK HZ
      have y0 := HB.out.x0; have y1 := HB.out.x1; have y2 := HB.out.x2
      have Hj1 := Lib.hid j1; have Hj2 := Lib.hid j2
      have HCk := Lib.hid (HC2.out.ext HX.out); have HFk := Lib.hid (HF2.out.ext HX.out); have HEk := Lib.hid (HE2.out.trans HX.out)
      have lC := HB.out.lt
      clear hZ hat hF hexit hrs dl j1 j2 hLlen hLl hacc hk hn1 hi1 hin
      go_wp2_with fail
      refine HK.out.mono ?_
      rintro e w1 ⟨rfl, hx1⟩
      have Ef := ext_al w1 (.cells #[.int .i64 u, .int .i64 v] 26)
      have bf1 : FtB (w1.alloc (.cells #[.int .i64 u, .int .i64 v] 26)) w1.heap.size u v := ⟨heap_alloc_new w1 _⟩
      have m0 := bf1.x0; have m1 := bf1.x1
      have hX2 := hx1.trans Ef
      have bR1 := HCk.out.ext hX2; have bF1 := HFk.out.ext hX2; have bC1 := HB.out.ext hX2
      have HO1 := Lib.hid (HO.out.ext hX2)
      have HEz := Lib.hid (HEk.out.trans hX2)
      have r0 := bR1.x0; have r1 := bR1.x1; have r2 := bR1.x2; have g0 := bR1.f 0; have g1 := bR1.f 1; have g2 := bR1.f 2
      have f0 := bF1.x0; have f1 := bF1.x1; have k0 := bF1.f 0; have k1 := bF1.f 1
      have i0' := bC1.x0; have i1' := bC1.x1; have i2' := bC1.x2
      have hsz1 := hx1.size
      have n1a : w1.heap.size ≠ w.heap.size := by omega
      have n1b : w1.heap.size ≠ w.heap.size + 1 := by omega
      have n2a : V2.heap.size ≠ w.heap.size := by omega
      have n2b : V2.heap.size ≠ w.heap.size + 1 := by omega
      have HbR1 := Lib.hid bR1; have HbF1 := Lib.hid bF1
      have Hlt2 := Lib.hid hR2; have Hlt3 := Lib.hid hR3
      clear hx1 Ef bf1 HK hX2 bR1 bF1 bC1 HB HO HX HEk HCk HFk y0 y1 y2 lC hsz1 hR2 hR3
      by_cases hu : u = 0
      · have hv := Hz0.out hu
        subst hu; subst hv
        have hZ := HZ.out
        rw [if_pos rfl] at hZ
        have HZ1 := Lib.hid hZ
        have zC := (putCF_C HbR1.out (show w.heap.size ≠ w.heap.size + 1 by omega) qq bb av acc.length cv 0 0).drew
        have zF := (putCF_F HbF1.out (show w.heap.size ≠ w.heap.size + 1 by omega) qq bb av acc.length cv 0 0).drew
        have zE : Ext w (putCF (w1.alloc (.cells #[.int .i64 0, .int .i64 0] 26)) w.heap.size (w.heap.size + 1) qq bb av acc.length cv 0 0).drew := Below.drew (putCF_ext HEz.out (Nat.le_refl _) (Nat.le_succ _) _ _ _ _ _ _ _)
        have zO := OpsO.ext (putCF_ops HO1.out HbR1.out HbF1.out (show w.heap.size < V2.heap.size + 1 by have := Hlt2.out; omega) (show w.heap.size + 1 < V2.heap.size + 1 by have := Hlt3.out; omega) (show w.heap.size ≠ w.heap.size + 1 by omega) qq bb av acc.length cv 0 0) (cdrew (Ext.refl _))
        obtain ⟨Wz, hWz⟩ : ∃ Wz, putCF (w1.alloc (.cells #[.int .i64 0, .int .i64 0] 26)) w.heap.size (w.heap.size + 1) qq bb av acc.length cv 0 0 = Wz := ⟨_, rfl⟩
        rw [hWz] at zC zF zE zO
        unfold putCF at hWz
        have HWz := Lib.hid hWz; have HzE := Lib.hid zE; have HzO := Lib.hid zO
        have z0 := zC.x0; have z1 := zC.x1; have z2 := zC.x2; have z3 := zF.x0; have z4 := zF.x1
        clear hWz zE zC zF zO hZ
        go_upto_region 22 with fail
        go_region
        go_wp2_with fail
        rw [HWz.out]
        obtain ⟨rfl, rfl⟩ := HZ1.out
        obtain ⟨a8, c8, ev8, _, _, hat8⟩ := HzO.out.at
        injection ev8 with ea _ ec
        subst ea; subst ec
        exact bodyPost_ret (v := .tuple #[.agg #[.int .i64 qq, .int .i64 bb, .slice av acc.length cv], .agg #[.int .i64 0, .int .i64 0]]) (by simp [results, Tryd.results9, go_sem, z0, z1, z2, z3, z4]) rfl ⟨⟨av, cv, rfl, Hj1.out, Hj2.out, hat8⟩, HzE.out⟩
      · have nu := nt hu; have nb := bf hu
        have hZ := HZ.out
        rw [if_neg hu] at hZ
        have HZ1 := Lib.hid hZ
        have zC := (putCF_C HbR1.out (show w.heap.size ≠ w.heap.size + 1 by omega) 0 0 none 0 0 u v).drew
        have zF := (putCF_F HbF1.out (show w.heap.size ≠ w.heap.size + 1 by omega) 0 0 none 0 0 u v).drew
        have zE : Ext w (putCF (w1.alloc (.cells #[.int .i64 u, .int .i64 v] 26)) w.heap.size (w.heap.size + 1) 0 0 none 0 0 u v).drew := Below.drew (putCF_ext HEz.out (Nat.le_refl _) (Nat.le_succ _) _ _ _ _ _ _ _)
        obtain ⟨Wz, hWz⟩ : ∃ Wz, putCF (w1.alloc (.cells #[.int .i64 u, .int .i64 v] 26)) w.heap.size (w.heap.size + 1) 0 0 none 0 0 u v = Wz := ⟨_, rfl⟩
        rw [hWz] at zC zF zE
        unfold putCF at hWz
        have HWz := Lib.hid hWz; have HzE := Lib.hid zE
        have z0 := zC.x0; have z1 := zC.x1; have z2 := zC.x2; have z3 := zF.x0; have z4 := zF.x1
        clear hWz zE zC zF hZ
        go_upto_region 21 with fail
        go_region
        go_wp2_with fail
        rw [HWz.out]
        obtain ⟨rfl, rfl⟩ := HZ1.out
        exact bodyPost_ret (v := .tuple #[.agg #[.int .i64 0, .int .i64 0, .slice none 0 0], .agg #[.int .i64 u, .int .i64 v]]) (by simp [results, Tryd.results9, go_sem, z0, z1, z2, z3, z4]) rfl ⟨⟨none, 0, rfl, Nat.le_refl _, Nat.zero_le _, ⟨rfl, Or.inl rfl⟩⟩, HzE.out⟩
    · have HLo := Lib.hid (fun wx => loose_any Li wx hLlen)
      have hWid := loos_wide Li hLlen
      have HliN := Lib.hid (show (okC (loosM Li) = true → False) → lineO Li = none from fun h => by unfold lineO; rw [if_neg (fun e => h e.1)])
      have HliT := Lib.hid (show prnOp (loosM Li) ++ [10] ≠ Li ++ [10] → lineO Li = none from fun h => by unfold lineO; rw [if_neg (fun e => h (by rw [e.2]))])
      have HliS := Lib.hid (show okC (loosM Li) = true → prnOp (loosM Li) ++ [10] = Li ++ [10] → lineO Li = some (loosM Li) from fun h1 h2 => by unfold lineO; rw [if_pos ⟨h1, List.append_cancel_right h2⟩])
      have HliO := Lib.hid (show ∀ o, lineO Li = some o → o = loosM Li from fun o h => (lineO_wf h).2.2)
      obtain ⟨og, hog⟩ : ∃ x, loosM Li = x := ⟨_, rfl⟩
      rw [hog] at HliN HliT HliS HliO HLo hWid
      obtain ⟨kd, kx, ctl, qx, bt, cnd⟩ := og
      have HWid := Lib.hid hWid
      have Hu := Lib.hid (show kd ≠ 2 ∧ kd ≠ 3 ∧ kd ≠ 4 → usesC kd = false from fun h => by simp [usesC]; omega)
      obtain ⟨PT, hPT⟩ : ∃ x, prnOp ⟨kd, kx, ctl, qx, bt, cnd⟩ ++ [10] = x := ⟨_, rfl⟩
      obtain ⟨LT, hLT⟩ : ∃ x, Li ++ [10] = x := ⟨_, rfl⟩
      rw [hPT, hLT] at HliT HliS
      have hadd : ∀ W : World, (Op.stringOp .add ⟨Li.toArray⟩ ⟨#[10]⟩).run Tryd.prog W = .ok (.string ⟨LT.toArray⟩) W := fun W => by rw [← hLT]; exact sadd Li [10] (by simp; omega) W
      simp only at HLo
      have HPT := Lib.hid hPT
      have Hrs := Lib.hid hrs
      have Hex := Lib.hid hexit
      clear hog hWid hPT hLT hrs
      go_upto_region 14 with fail
      go_cut [72] from 55 to 122 (fun s72 wx => s72 = .bool false ∧ wx = wr)
      case first =>
        by_cases hl : i + 1 = nl
        · have e1 : ((i : Int) == n1) = true := bt' (by omega)
          have e2 : (Li == []) = false := by simpa using fun e => Hex.out ⟨hl, e⟩
          clear hl
          go_wp2_with fail
          go_meet
          exact ⟨rfl, rfl⟩
        · have e1 : ((i : Int) == n1) = false := bf (by omega)
          clear hl
          go_wp2_with fail
          go_meet
          exact ⟨rfl, rfl⟩
      case rest =>
      obtain ⟨rfl, rfl⟩ := hcut
      go_wp2_with fail
      refine (HLo.out _).mono ?_
      rintro e u0 ⟨⟨a1, m1, c1, a2, m2, c2, rfl, hOO⟩, hx0⟩
      have Ea := ext_al u0 (.cells #[.int .i64 kd, .int .i64 kx, .slice a1 m1 c1, .int .i64 qx, .int .i64 bt, .slice a2 m2 c2] 58)
      have bQ := opbx_new u0 kd kx a1 m1 c1 qx bt a2 m2 c2
      have hEU := hx0.trans Ea
      have HBu := Lib.hid (HB.out.ext hEU); have HOu := Lib.hid (HO.out.ext hEU); have HXu := Lib.hid (HX.out.trans hEU)
      have hOOu := hOO.ext Ea
      have HOo := Lib.hid hOOu
      have Hm1 := Lib.hid hOO.l.i1.1
      simp only at Hm1
      have dlu := ckeep hEU lLb dl
      have lLu := Nat.lt_of_lt_of_le lLb hEU.size
      have Hbq := Lib.hid bQ
      have hQb := bQ.lt
      have hQC : V2.heap.size < u0.heap.size := Nat.lt_of_lt_of_le HB.out.lt hx0.size
      clear hOO hx0 Ea hEU bQ hOOu HLo HB HO HX dl lLb
      go_upto_region 16 with fail
      have d0 := Hbq.out.x0; have d1 := Hbq.out.x1; have d2 := Hbq.out.x2; have d3 := Hbq.out.x3; have d4 := Hbq.out.x4; have d5 := Hbq.out.x5
      obtain ⟨U, hU⟩ : ∃ U, u0.alloc (.cells #[.int .i64 kd, .int .i64 kx, .slice a1 m1 c1, .int .i64 qx, .int .i64 bt, .slice a2 m2 c2] 58) = U := ⟨_, rfl⟩
      rw [hU] at HBu HOu HXu HOo dlu lLu Hbq hQb d0 d1 d2 d3 d4 d5 ⊢
      clear hU
      obtain ⟨Qb, hQd⟩ : ∃ x, u0.heap.size = x := ⟨_, rfl⟩
      rw [hQd] at Hbq hQb hQC d0 d1 d2 d3 d4 d5 ⊢
      clear hQd
      have dl := dlu; have lQ := hQb
      clear dlu hQb
      have hUd : Ext U U.drew := Below.drew (Ext.refl U)
      have HOt := Lib.hid (fun wx (hx : Ext U wx) => opText_wide ⟨kd, kx, ctl, qx, bt, cnd⟩ a1 m1 c1 a2 m2 c2 wx (HOo.out.ext hx).l HWid.out)
      rw [HPT.out] at HOt
      simp only at HOt
      obtain ⟨X, F, hFe, hFs⟩ : ∃ (X : Type) (F : X → World), (∀ x, Ext U (F x)) ∧ (∀ w', Ext U w' → ∃ x, w' = F x) := ⟨{ w' : World // Ext U w' }, Subtype.val, fun x => x.2, fun w' h => ⟨⟨w', h⟩, rfl⟩⟩
      have hXn : Nonempty X := (hFs U (Ext.refl U)).elim fun x _ => ⟨x⟩
      have fd0 : ∀ x, (F x).cell? ⟨Qb, 0, none⟩ = some (.int .i64 kd) := fun x => ckeep (hFe x) lQ d0
      have fd1 : ∀ x, (F x).cell? ⟨Qb, 1, none⟩ = some (.int .i64 kx) := fun x => ckeep (hFe x) lQ d1
      have fd2 : ∀ x, (F x).cell? ⟨Qb, 2, none⟩ = some (.slice a1 m1 c1) := fun x => ckeep (hFe x) lQ d2
      have fd3 : ∀ x, (F x).cell? ⟨Qb, 3, none⟩ = some (.int .i64 qx) := fun x => ckeep (hFe x) lQ d3
      have fd4 : ∀ x, (F x).cell? ⟨Qb, 4, none⟩ = some (.int .i64 bt) := fun x => ckeep (hFe x) lQ d4
      have fd5 : ∀ x, (F x).cell? ⟨Qb, 5, none⟩ = some (.slice a2 m2 c2) := fun x => ckeep (hFe x) lQ d5
      have fdl : ∀ x, (F x).cell? ⟨lb, lo + i, none⟩ = some (.string ⟨Li.toArray⟩) := fun x => ckeep (hFe x) lLu dl
      go_cut [113] from 55 to 122 (fun s113 wx => s113 = .bool (decide (lineO Li = none ∨ i + 1 = nl)) ∧ Ext U wx)
      case first =>
        by_cases h2 : kd = 2
        · have w2 : (kd != 2) = false := nf' (by omega); have v2 : (kd == 2) = true := bt' (by omega)
          have hok : okC ⟨kd, kx, ctl, qx, bt, cnd⟩ = true := (by unfold okC; rw [show usesC kd = true by simp [usesC]; omega]; rfl)
          clear h2
          by_cases htx : PT = LT
          · have t0 : (PT == LT) = true := by rw [htx]; exact beq_self_eq_true LT
            have t0' : (PT != LT) = false := by rw [bne, t0]; rfl
            have hso := HliS.out hok htx
            have Hdec := Lib.hid (show decide (lineO Li = none ∨ i + 1 = nl) = ((i : Int) == n1) from by
              by_cases hl : i + 1 = nl
              · rw [dt (Or.inr hl), bt' (by omega)]
              · rw [df (by rw [hso]; simp [hl]), bf (by omega)])
            clear hso htx hok
            refine wp_region_F (by kernel_rfl) (by kernel_rfl) (hFs _ hUd) ?_
            repeat (go_big_quiet_step (exact (HOt.out _ (hFe _)).mono (fun e w' h => ⟨h.1, hFs _ ((hFe _).trans h.2)⟩)))
            refine wpQuiet_nil ?_
            rintro _ ⟨xq, rfl⟩
            have hu2 := hFe xq
            go_wp2_with fail
            go_meet
            exact ⟨congrArg Value.bool Hdec.out.symm, hu2⟩
          · have t0 : (PT == LT) = false := by simpa using htx
            have t0' : (PT != LT) = true := by rw [bne, t0]; rfl
            have Hdec := Lib.hid (show decide (lineO Li = none ∨ i + 1 = nl) = true from dt (Or.inl (HliT.out htx)))
            clear htx hok
            refine wp_region_F (by kernel_rfl) (by kernel_rfl) (hFs _ hUd) ?_
            repeat (go_big_quiet_step (exact (HOt.out _ (hFe _)).mono (fun e w' h => ⟨h.1, hFs _ ((hFe _).trans h.2)⟩)))
            refine wpQuiet_nil ?_
            rintro _ ⟨xq, rfl⟩
            have hu2 := hFe xq
            go_wp2_with fail
            go_meet
            exact ⟨congrArg Value.bool Hdec.out.symm, hu2⟩
        · by_cases h3 : kd = 3
          · have w2 : (kd != 2) = true := nt (by omega); have v2 : (kd == 2) = false := bf (by omega)
            have w3 : (kd != 3) = false := nf' (by omega); have v3 : (kd == 3) = true := bt' (by omega)
            have hok : okC ⟨kd, kx, ctl, qx, bt, cnd⟩ = true := (by unfold okC; rw [show usesC kd = true by simp [usesC]; omega]; rfl)
            clear h2 h3
            by_cases htx : PT = LT
            · have t0 : (PT == LT) = true := by rw [htx]; exact beq_self_eq_true LT
              have t0' : (PT != LT) = false := by rw [bne, t0]; rfl
              have hso := HliS.out hok htx
              have Hdec := Lib.hid (show decide (lineO Li = none ∨ i + 1 = nl) = ((i : Int) == n1) from by
                by_cases hl : i + 1 = nl
                · rw [dt (Or.inr hl), bt' (by omega)]
                · rw [df (by rw [hso]; simp [hl]), bf (by omega)])
              clear hso htx hok
              refine wp_region_F (by kernel_rfl) (by kernel_rfl) (hFs _ hUd) ?_
              repeat (go_big_quiet_step (exact (HOt.out _ (hFe _)).mono (fun e w' h => ⟨h.1, hFs _ ((hFe _).trans h.2)⟩)))
              refine wpQuiet_nil ?_
              rintro _ ⟨xq, rfl⟩
              have hu2 := hFe xq
              go_wp2_with fail
              go_meet
              exact ⟨congrArg Value.bool Hdec.out.symm, hu2⟩
            · have t0 : (PT == LT) = false := by simpa using htx
              have t0' : (PT != LT) = true := by rw [bne, t0]; rfl
              have Hdec := Lib.hid (show decide (lineO Li = none ∨ i + 1 = nl) = true from dt (Or.inl (HliT.out htx)))
              clear htx hok
              refine wp_region_F (by kernel_rfl) (by kernel_rfl) (hFs _ hUd) ?_
              repeat (go_big_quiet_step (exact (HOt.out _ (hFe _)).mono (fun e w' h => ⟨h.1, hFs _ ((hFe _).trans h.2)⟩)))
              refine wpQuiet_nil ?_
              rintro _ ⟨xq, rfl⟩
              have hu2 := hFe xq
              go_wp2_with fail
              go_meet
              exact ⟨congrArg Value.bool Hdec.out.symm, hu2⟩
          · by_cases h4 : kd = 4
            · have w2 : (kd != 2) = true := nt (by omega); have v2 : (kd == 2) = false := bf (by omega)
              have w3 : (kd != 3) = true := nt (by omega); have v3 : (kd == 3) = false := bf (by omega)
              have w4 : (kd != 4) = false := nf' (by omega); have v4 : (kd == 4) = true := bt' (by omega)
              have hok : okC ⟨kd, kx, ctl, qx, bt, cnd⟩ = true := (by unfold okC; rw [show usesC kd = true by simp [usesC]; omega]; rfl)
              clear h2 h3 h4
              by_cases htx : PT = LT
              · have t0 : (PT == LT) = true := by rw [htx]; exact beq_self_eq_true LT
                have t0' : (PT != LT) = false := by rw [bne, t0]; rfl
                have hso := HliS.out hok htx
                have Hdec := Lib.hid (show decide (lineO Li = none ∨ i + 1 = nl) = ((i : Int) == n1) from by
                  by_cases hl : i + 1 = nl
                  · rw [dt (Or.inr hl), bt' (by omega)]
                  · rw [df (by rw [hso]; simp [hl]), bf (by omega)])
                clear hso htx hok
                refine wp_region_F (by kernel_rfl) (by kernel_rfl) (hFs _ hUd) ?_
                repeat (go_big_quiet_step (exact (HOt.out _ (hFe _)).mono (fun e w' h => ⟨h.1, hFs _ ((hFe _).trans h.2)⟩)))
                refine wpQuiet_nil ?_
                rintro _ ⟨xq, rfl⟩
                have hu2 := hFe xq
                go_wp2_with fail
                go_meet
                exact ⟨congrArg Value.bool Hdec.out.symm, hu2⟩
              · have t0 : (PT == LT) = false := by simpa using htx
                have t0' : (PT != LT) = true := by rw [bne, t0]; rfl
                have Hdec := Lib.hid (show decide (lineO Li = none ∨ i + 1 = nl) = true from dt (Or.inl (HliT.out htx)))
                clear htx hok
                refine wp_region_F (by kernel_rfl) (by kernel_rfl) (hFs _ hUd) ?_
                repeat (go_big_quiet_step (exact (HOt.out _ (hFe _)).mono (fun e w' h => ⟨h.1, hFs _ ((hFe _).trans h.2)⟩)))
                refine wpQuiet_nil ?_
                rintro _ ⟨xq, rfl⟩
                have hu2 := hFe xq
                go_wp2_with fail
                go_meet
                exact ⟨congrArg Value.bool Hdec.out.symm, hu2⟩
            · have kkC : kd ≠ 2 ∧ kd ≠ 3 ∧ kd ≠ 4 := ⟨h2, h3, h4⟩
              by_cases hm0 : m1 = 0
              · have w2 : (kd != 2) = true := nt (by omega); have v2 : (kd == 2) = false := bf (by omega)
                have w3 : (kd != 3) = true := nt (by omega); have v3 : (kd == 3) = false := bf (by omega)
                have w4 : (kd != 4) = true := nt (by omega); have v4 : (kd == 4) = false := bf (by omega)
                have hm : ¬ (0 : Int) < (m1 : Int) := by omega
                have hm' : decide ((0 : Int) < (m1 : Int)) = false := df hm
                have hmn : ¬ 0 < m1 := by omega
                have hmn' : decide (0 < m1) = false := df hmn
                have hok : okC ⟨kd, kx, ctl, qx, bt, cnd⟩ = true := (by unfold okC; have h0 : m1 = 0 := (by omega); simp [Hm1.out, h0])
                clear h2 h3 h4 kkC hm0 hmn
                by_cases htx : PT = LT
                · have t0 : (PT == LT) = true := by rw [htx]; exact beq_self_eq_true LT
                  have t0' : (PT != LT) = false := by rw [bne, t0]; rfl
                  have hso := HliS.out hok htx
                  have Hdec := Lib.hid (show decide (lineO Li = none ∨ i + 1 = nl) = ((i : Int) == n1) from by
                    by_cases hl : i + 1 = nl
                    · rw [dt (Or.inr hl), bt' (by omega)]
                    · rw [df (by rw [hso]; simp [hl]), bf (by omega)])
                  clear hso htx hok
                  refine wp_region_F (by kernel_rfl) (by kernel_rfl) (hFs _ hUd) ?_
                  repeat (go_big_quiet_step (exact (HOt.out _ (hFe _)).mono (fun e w' h => ⟨h.1, hFs _ ((hFe _).trans h.2)⟩)))
                  refine wpQuiet_nil ?_
                  rintro _ ⟨xq, rfl⟩
                  have hu2 := hFe xq
                  go_wp2_with fail
                  go_meet
                  exact ⟨congrArg Value.bool Hdec.out.symm, hu2⟩
                · have t0 : (PT == LT) = false := by simpa using htx
                  have t0' : (PT != LT) = true := by rw [bne, t0]; rfl
                  have Hdec := Lib.hid (show decide (lineO Li = none ∨ i + 1 = nl) = true from dt (Or.inl (HliT.out htx)))
                  clear htx hok
                  refine wp_region_F (by kernel_rfl) (by kernel_rfl) (hFs _ hUd) ?_
                  repeat (go_big_quiet_step (exact (HOt.out _ (hFe _)).mono (fun e w' h => ⟨h.1, hFs _ ((hFe _).trans h.2)⟩)))
                  refine wpQuiet_nil ?_
                  rintro _ ⟨xq, rfl⟩
                  have hu2 := hFe xq
                  go_wp2_with fail
                  go_meet
                  exact ⟨congrArg Value.bool Hdec.out.symm, hu2⟩
              · have w2 : (kd != 2) = true := nt (by omega); have v2 : (kd == 2) = false := bf (by omega)
                have w3 : (kd != 3) = true := nt (by omega); have v3 : (kd == 3) = false := bf (by omega)
                have w4 : (kd != 4) = true := nt (by omega); have v4 : (kd == 4) = false := bf (by omega)
                have hm : (0 : Int) < (m1 : Int) := by omega
                have hm' : decide ((0 : Int) < (m1 : Int)) = true := dt hm
                have hmn : 0 < m1 := by omega
                have hmn' : decide (0 < m1) = true := dt hmn
                have Hdec := Lib.hid (show decide (lineO Li = none ∨ i + 1 = nl) = true from dt (Or.inl (HliN.out (fun h => by
                  unfold okC at h
                  rw [Hu.out kkC] at h
                  have : m1 ≠ 0 := by omega
                  simp [Hm1.out] at h
                  omega))))
                clear kkC hm0 h2 h3 h4
                refine wp_region_F (by kernel_rfl) (by kernel_rfl) (hFs _ hUd) ?_
                repeat (go_big_quiet_step (exact (HOt.out _ (hFe _)).mono (fun e w' h => ⟨h.1, hFs _ ((hFe _).trans h.2)⟩)))
                refine wpQuiet_nil ?_
                rintro _ ⟨xq, rfl⟩
                have hu2 := hFe xq
                go_wp2_with fail
                go_meet
                exact ⟨congrArg Value.bool Hdec.out.symm, hu2⟩
      case rest =>
      obtain ⟨rfl, hXc⟩ := hcut
      have HBc := Lib.hid (HBu.out.ext hXc); have HOc := Lib.hid (HOu.out.ext hXc); have HXc := Lib.hid (HXu.out.trans hXc); have HOoc := Lib.hid (HOo.out.ext hXc); have Hbqc := Lib.hid (Hbq.out.ext hXc)
      clear hXc HBu HOu HXu HOo Hbq fd0 fd1 fd2 fd3 fd4 fd5 fdl hFs hFe hXn F X d0 d1 d2 d3 d4 d5 dl lQ lLu HOt hUd HWid hadd
      by_cases hbd : lineO Li = none ∨ i + 1 = nl
      · have hdec := dt hbd
        rw [hdec]
        have HZ := Lib.hid (HQa.out i (by
          rw [← Hrs.out]
          refine rdLn_bad ?_ _ _
          by_cases hl : i + 1 = nl
          · exact Or.inl ⟨List.drop_eq_nil_of_le (by omega), fun e => Hex.out ⟨hl, e⟩⟩
          · refine Or.inr ⟨fun e => ?_, hbd.resolve_right hl⟩
            have h1 := congrArg List.length e
            rw [List.length_drop, hLl] at h1
            simp at h1
            omega))
        have HCk := Lib.hid (HC2.out.ext HXc.out); have HFk := Lib.hid (HF2.out.ext HXc.out); have HEk := Lib.hid (HE2.out.trans HXc.out)
        clear hdec hbd
        go_wp2_with fail
        refine (rfault_any 1 (i : Int) _).mono ?_
        rintro e w1 ⟨rfl, hx1⟩
        have bC1 := HCk.out.ext hx1; have bF1 := HFk.out.ext hx1
        have y0 := bC1.x0; have y1 := bC1.x1; have y2 := bC1.x2; have f0 := bC1.f 0; have f1 := bC1.f 1; have f2 := bC1.f 2
        have z0 := bF1.x0; have z1 := bF1.x1; have k0 := bF1.f 0; have k1 := bF1.f 1
        have zC := putCF_C bC1 (show w.heap.size ≠ w.heap.size + 1 by omega) 0 0 none 0 0 1 (i : Int)
        have zF := putCF_F bF1 (show w.heap.size ≠ w.heap.size + 1 by omega) 0 0 none 0 0 1 (i : Int)
        have HzE := Lib.hid (putCF_ext (HEk.out.trans hx1) (Nat.le_refl _) (Nat.le_succ _) 0 0 none 0 0 1 (i : Int) : Ext w (putCF w1 w.heap.size (w.heap.size + 1) 0 0 none 0 0 1 (i : Int)))
        obtain ⟨Wz, hWz⟩ : ∃ Wz, putCF w1 w.heap.size (w.heap.size + 1) 0 0 none 0 0 1 (i : Int) = Wz := ⟨_, rfl⟩
        rw [hWz] at zC zF HzE
        unfold putCF at hWz
        have HWz := Lib.hid hWz
        have v0 := zC.x0; have v1 := zC.x1; have v2 := zC.x2; have v3 := zF.x0; have v4 := zF.x1
        clear zC zF hWz bC1 bF1 hx1 hR2 hR3 hQC
        go_wp2_with fail
        rw [HWz.out]
        obtain ⟨rfl, rfl⟩ := HZ.out
        exact bodyPost_ret (v := .tuple #[.agg #[.int .i64 0, .int .i64 0, .slice none 0 0], .agg #[.int .i64 1, .int .i64 (i : Int)]]) (by simp [results, Tryd.results9, go_sem, v0, v1, v2, v3, v4]) rfl ⟨⟨none, 0, rfl, Nat.le_refl _, Nat.zero_le _, ⟨rfl, Or.inl rfl⟩⟩, HzE.out⟩
      · have hdec := df hbd
        rw [hdec]
        have hso : lineO Li = some ⟨kd, kx, ctl, qx, bt, cnd⟩ := by
          rcases hx : lineO Li with _ | o'
          · exact absurd (Or.inl hx) hbd
          · rw [HliO.out o' hx]
        have hnx : i + 1 < nl := by
          have : i + 1 ≠ nl := fun e => hbd (Or.inr e)
          omega
        have hgo : rdLn ((l0 :: t).drop (i + 1)) (acc ++ [⟨kd, kx, ctl, qx, bt, cnd⟩]) (i + 1) = res := by
          rw [← Hrs.out]
          rcases hd : (l0 :: t).drop (i + 1) with _ | ⟨m, r⟩
          · have h1 := congrArg List.length hd
            rw [List.length_drop, hLl] at h1
            simp at h1
            omega
          · exact (rdLn_good hso acc i).symm
        have Hgo := Lib.hid hgo; have Hnx := Lib.hid hnx
        clear hdec hbd hso hgo hnx HliN HliT HliS HliO HPT
        have y2 := HBc.out.x2
        have d0 := Hbqc.out.x0; have d1 := Hbqc.out.x1; have d2 := Hbqc.out.x2; have d3 := Hbqc.out.x3; have d4 := Hbqc.out.x4; have d5 := Hbqc.out.x5
        obtain ⟨xs, ho, hzx⟩ := HOc.out
        have Ho5 := Lib.hid (ho.alloc (.cells #[.int .i64 kd, .int .i64 kx, .slice a1 m1 c1, .int .i64 qx, .int .i64 bt, .slice a2 m2 c2] 58))
        have Hhx := Lib.hid hzx; have Hxl := Lib.hid ho.1
        have Hszc := Lib.hid (show V2.heap.size + 1 ≤ (wc.alloc (.cells #[.int .i64 kd, .int .i64 kx, .slice a1 m1 c1, .int .i64 qx, .int .i64 bt, .slice a2 m2 c2] 58)).heap.size by have := HBc.out.lt; simp; omega)
        have HB5 := Lib.hid (HBc.out.ext (ext_al wc (.cells #[.int .i64 kd, .int .i64 kx, .slice a1 m1 c1, .int .i64 qx, .int .i64 bt, .slice a2 m2 c2] 58)))
        clear ho hzx
        go_wp2_with (at_builtin; refine wpList_append_own_at _ rfl _ _ 22 rfl (V2.heap.size + 1) 58 i0 (.agg #[.int .i64 0, .int .i64 0, .slice none 0 0, .int .i64 0, .int .i64 0, .slice none 0 0]) 6 80 Tryd.underlying22 hi hz0 hz1 hz2 rfl (by decide) _ acc.length xs rfl Ho5.out ⟨wc.heap.size, 0, none⟩ 1 1 [.int .i64 kd, .int .i64 kx, .slice a1 m1 c1, .int .i64 qx, .int .i64 bt, .slice a2 m2 c2] rfl rfl (new_op wc _ _ _ _ _ _ _ _ _ _ _) (one_op _ _ _ _ _ _ _ _ _ _) (by unfold maxLen; omega) (by omega) Hszc.out ?_; intro v' w7 hown' hgrow' _ _; obtain ⟨g, cap, rfl, hbg, hgl⟩ := hown'.form (by omega); have hkind := PtKind Ho5.out; have bC7 := CiB_grown hgrow' hkind HB5.out (Nat.lt_succ_self _); have x2' := bC7.x2; have f2' := bC7.f 2)
        have hk7 : ∀ (b' : Nat) (cur : Array Value) (fr : Nat × Nat), (wc.alloc (.cells #[.int .i64 kd, .int .i64 kx, .slice a1 m1 c1, .int .i64 qx, .int .i64 bt, .slice a2 m2 c2] 58)).heap[b']? = some (.cells cur 3 fr) → w7.heap[b']? = (wc.alloc (.cells #[.int .i64 kd, .int .i64 kx, .slice a1 m1 c1, .int .i64 qx, .int .i64 bt, .slice a2 m2 c2] 58)).heap[b']? := fun b' cur fr hb' => by
          refine hgrow'.block b' (Array.getElem?_eq_some_iff.1 hb').1 (fun e => ?_)
          obtain ⟨_, cs, fr', e2⟩ := hkind b' e.symm
          rw [e2] at hb'
          cases hb'
        have O7 := (HOoc.out.ext (ext_al wc (.cells #[.int .i64 kd, .int .i64 kx, .slice a1 m1 c1, .int .i64 qx, .int .i64 bt, .slice a2 m2 c2] 58))).keep hgrow'.size hk7
        have own7 := OpsO.snoc hown' Hxl.out Hhx.out (fun g a1 n1 c1 a2 n2 c2 h => (h.ext (ext_al _ _)).keep hgrow'.size hk7) O7
        have bC8 := bC7.set2 (some ⟨g, 0, none⟩) (acc.length + 1) cap
        have own8 := own7.only bC7.row (by decide) (only1 w7 V2.heap.size 2 (.slice (some ⟨g, 0, none⟩) (acc.length + 1) cap)) (by simp) (Nat.lt_succ_self _)
        have hX8 := cput (o := 2) (grown_ext (HXc.out.trans (ext_al wc (.cells #[.int .i64 kd, .int .i64 kx, .slice a1 m1 c1, .int .i64 qx, .int .i64 bt, .slice a2 m2 c2] 58))) hgrow' (fun k hk => by have := (hkind k hk).1; omega)) (Nat.le_refl _) (.slice (some ⟨g, 0, none⟩) (acc.length + 1) cap)
        have hlen1 : (acc ++ [(⟨kd, kx, ctl, qx, bt, cnd⟩ : Gop)]).length = acc.length + 1 := by simp
        subst hacc
        go_roundg (nl - (acc.length + 1 + 1))
        case measure => omega
        case rel => exact ⟨acc.length + 1 + 1, acc ++ [⟨kd, kx, ctl, qx, bt, cnd⟩], some ⟨g, 0, none⟩, cap, by go_num, by omega, Hnx.out, rfl, by rw [hlen1], Hgo.out, by rw [hlen1]; exact bC8, by rw [hlen1]; exact own8, hX8⟩

end Go.Proofs.YtfjbhiihfibbaaaDoor
