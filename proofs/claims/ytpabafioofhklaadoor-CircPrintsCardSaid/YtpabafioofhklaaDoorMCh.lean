/-
  Why a circuit is not unitary: Pure of both sides.
-/
import Derived.Test.YtpabafioofhklaaDoorMCg

namespace Go.Proofs.YtpabafioofhklaaDoor
open Go.RowKit

theorem opCode_kind {g : Gop} {q b : Int} (h : opCode g q b = 0) : 1 ≤ g.kind ∧ g.kind ≤ 6 := by
  unfold opCode at h
  by_cases hk : g.kind < 1 ∨ 6 < g.kind
  · rw [if_pos hk] at h; exact absurd h (by decide)
  · omega
theorem opsCode_zero (q b : Int) (ops : List Gop) : ∀ i, (opsCode q b i ops).1 = 0 → opsCode q b i ops = (0, 0) ∧ ∀ g ∈ ops, opCode g q b = 0 := by
  induction ops with
  | nil => exact fun _ _ => ⟨rfl, fun g hg => by cases hg⟩
  | cons o r ih =>
    intro i h
    rw [opsCode] at h ⊢
    by_cases ho : opCode o q b = 0
    · rw [if_neg (by simp [ho])] at h ⊢
      obtain ⟨e1, e2⟩ := ih (i + 1) h
      exact ⟨e1, fun g hg => by
        rcases List.mem_cons.1 hg with rfl | hg
        · exact ho
        · exact e2 g hg⟩
    · rw [if_pos ho] at h
      exact absurd h ho
theorem chk_zero {c : Gci} (h : (chk c).1 = 0) : chk c = (0, 0) ∧ 1 ≤ c.qubits ∧ c.qubits ≤ 12 ∧ 0 ≤ c.bits ∧ c.bits ≤ 12 ∧ c.ops.length ≤ 4096 ∧ ∀ g ∈ c.ops, opCode g c.qubits c.bits = 0 := by
  unfold chk at h ⊢
  by_cases h1 : c.qubits < 1 ∨ 12 < c.qubits
  · rw [if_pos h1] at h; exact absurd h (by decide)
  rw [if_neg h1] at h ⊢
  by_cases h2 : c.bits < 0 ∨ 12 < c.bits
  · rw [if_pos h2] at h; exact absurd h (by decide)
  rw [if_neg h2] at h ⊢
  by_cases h3 : 4096 < c.ops.length
  · rw [if_pos h3] at h; exact absurd h (by decide)
  rw [if_neg h3] at h ⊢
  obtain ⟨e1, e2⟩ := opsCode_zero _ _ _ _ h
  exact ⟨e1, by omega, by omega, by omega, by omega, by omega, e2⟩

/-- The first operation that is no mere gate. -/
def purF : Nat → List Gop → Int × Int
  | _, [] => (0, 0)
  | i, o :: r => if 5 ≤ o.kind ∨ 0 < o.cnd.length then (15, (i : Int)) else purF (i + 1) r
def pur (c : Gci) : Int × Int := if (chk c).1 ≠ 0 then chk c else purF 0 c.ops
theorem purF_step (ops : List Gop) (i : Nat) (g : Gop) (h : ops[i]? = some g) : purF i (ops.drop i) = if 5 ≤ g.kind ∨ 0 < g.cnd.length then (15, (i : Int)) else purF (i + 1) (ops.drop (i + 1)) := by
  obtain ⟨hi, e⟩ := List.getElem?_eq_some_iff.1 h
  rw [List.drop_eq_getElem_cons hi, purF, e]
theorem purF_end (ops : List Gop) (i : Nat) (h : ops.length ≤ i) : purF i (ops.drop i) = (0, 0) := by
  rw [List.drop_eq_nil_of_le h]; rfl

set_option maxHeartbeats 400000 in
theorem meets_any (k0 k1 : Int) (a1 : Option Addr) (n1 c1 : Nat) (k3 k4 : Int) (a2 : Option Addr) (n2 c2 : Nat) (w : World) (h1 : 1 ≤ k0) (h6 : k0 ≤ 6) :
    Calls Tryd.prog 21 #[.agg #[.int .i64 k0, .int .i64 k1, .slice a1 n1 c1, .int .i64 k3, .int .i64 k4, .slice a2 n2 c2]] w fun e w' => e = .returned (.bool (decide (5 ≤ k0))) ∧ Ext w w' := by
  by_cases h5 : k0 = 5
  · have e : decide (5 ≤ k0) = true := dt (by omega)
    have b5 := bt' h5
    rw [e]
    clear e h5 h1 h6
    go_enter Tryd.func21, Tryd.ntmps21
    go_wp2
    go_ret
    exact ⟨rfl, ext_al _ _⟩
  · have b5 := bf h5
    have e : decide (5 ≤ k0) = (k0 == 6) := by
      by_cases h : k0 = 6
      · rw [bt' h]; exact dt (by omega)
      · rw [bf h]; exact df (by omega)
    rw [e]
    clear e h5 h1 h6
    go_enter Tryd.func21, Tryd.ntmps21
    go_wp2
    go_ret
    exact ⟨rfl, ext_al _ _⟩

set_option maxHeartbeats 4000000 in
set_option maxRecDepth 100000 in
theorem Pure_any (c : Gci) (ao : Option Addr) (n cp : Nat) (w : World) (h : OpsAt w ao n c.ops) (hn : n ≤ cp) (hcp : cp ≤ 9223372036854775807) (hS : Shp w) :
    Calls Tryd.prog 12 #[.agg #[.int .i64 c.qubits, .int .i64 c.bits, .slice ao n cp]] w fun e w' => e = .returned (.agg #[.int .i64 (pur c).1, .int .i64 (pur c).2]) ∧ Ext w w' := by
  obtain ⟨r, hr⟩ : ∃ r, pur c = r := ⟨_, rfl⟩
  rw [hr]
  obtain ⟨r0, r1⟩ := r
  unfold pur at hr
  obtain ⟨qb, bi, ops⟩ := c
  obtain ⟨f, hf⟩ : ∃ f, chk ⟨qb, bi, ops⟩ = f := ⟨_, rfl⟩
  obtain ⟨f0, f1⟩ := f
  have hz0 : f0 = 0 → f1 = 0 ∧ ∀ g ∈ ops, 1 ≤ g.kind ∧ g.kind ≤ 6 := by
    intro h0
    obtain ⟨e1, _, _, _, _, _, e2⟩ := chk_zero (c := ⟨qb, bi, ops⟩) (by rw [hf]; exact h0)
    rw [hf] at e1
    exact ⟨congrArg Prod.snd e1, fun g hg => opCode_kind (e2 g hg)⟩
  have Hz0 := Lib.hid hz0
  rw [hf] at hr
  have Hf := Lib.hid hf
  have E0 := (ext_al w (.cells #[.int .i64 qb, .int .i64 bi, .slice ao n cp] 24)).trans (ext_al _ (.cells #[.int .i64 0, .int .i64 0] 28))
  have bC : CiB ((w.alloc (.cells #[.int .i64 qb, .int .i64 bi, .slice ao n cp] 24)).alloc (.cells #[.int .i64 0, .int .i64 0] 28)) w.heap.size qb bi ao n cp := CiB.ext ⟨heap_alloc_new w _⟩ (ext_al _ _)
  have bF : FtB ((w.alloc (.cells #[.int .i64 qb, .int .i64 bi, .slice ao n cp] 24)).alloc (.cells #[.int .i64 0, .int .i64 0] 28)) (w.heap.size + 1) 0 0 := ⟨by
    have := heap_alloc_new (w.alloc (.cells #[.int .i64 qb, .int .i64 bi, .slice ao n cp] 24)) (.cells #[.int .i64 0, .int .i64 0] 28)
    simpa using this⟩
  have Hl := Lib.hid h.1
  simp only at hr Hl ⊢
  have HE0 := Lib.hid E0; have HO := Lib.hid (h.ext E0); have HC := Lib.hid bC; have HFt := Lib.hid bF; have HS := Lib.hid (hS.ext E0)
  have m0 := bC.x0; have m1 := bC.x1; have m2 := bC.x2
  have Hr := Lib.hid hr
  have hab : n = 0 ∨ ∃ b o, ao = some ⟨b, o, none⟩ := by
    by_cases h0 : n = 0
    · exact Or.inl h0
    · exact Or.inr (HO.out.some_of (by omega))
  clear h E0 bC bF hr hf hz0 hS
  go_enter Tryd.func12, Tryd.ntmps12
  go_wp2_with fail
  generalize (w.alloc (.cells #[.int .i64 qb, .int .i64 bi, .slice ao n cp] 24)).alloc (.cells #[.int .i64 0, .int .i64 0] 28) = W0 at *
  have HK := Lib.hid (Check_any ⟨qb, bi, ops⟩ ao n cp W0 HO.out hn hcp HS.out)
  rw [Hf.out] at HK
  refine HK.out.mono ?_
  rintro e w1 ⟨rfl, hx1⟩
  have Ef := ext_al w1 (.cells #[.int .i64 f0, .int .i64 f1] 28)
  have bf1 : FtB (w1.alloc (.cells #[.int .i64 f0, .int .i64 f1] 28)) w1.heap.size f0 f1 := ⟨heap_alloc_new w1 _⟩
  have q0 := bf1.x0; have q1 := bf1.x1
  have HX1 := Lib.hid (hx1.trans Ef)
  have Hf1 := Lib.hid bf1
  have bz := HFt.out.ext HX1.out; have x0' := bz.x0; have x1' := bz.x1; have g0' := bz.f 0; have g1' := bz.f 1
  have bc := HC.out.ext HX1.out; have v2 := bc.x2
  clear bz bc m0 m1 m2 hx1 Ef bf1 HK Hf
  by_cases hc0 : f0 = 0
  · obtain ⟨hf1, hkinds⟩ := Hz0.out hc0
    have hr1 := Hr.out
    rw [if_neg (by simp [hc0])] at hr1
    have Hr1 := Lib.hid hr1
    have Hkinds := Lib.hid hkinds
    have hcb := nf' hc0
    have Hc0 := Lib.hid hc0; have Hf1z := Lib.hid hf1
    clear hr1 Hr hkinds hc0 hf1 Hz0
    go_wp2_with fail
    generalize w1.alloc (.cells #[.int .i64 f0, .int .i64 f1] 28) = W1 at *
    generalize w1.heap.size = FB at *
    clear q0 q1 x0' x1' g0' g1' v2
    go_loopg [15] n (fun kk sN wr => Ext W1 wr ∧ ∃ i : Nat, sN = .int .i64 (i : Int) ∧ i ≤ n ∧ n - i = kk ∧ (r0, r1) = purF i (ops.drop i))
    case atStart => exact ⟨Ext.refl _, 0, rfl, by omega, by omega, Hr1.out.symm⟩
    case round =>
      obtain ⟨hER, i, rfl, hi, hk, hri⟩ := hrel
      have HER := Lib.hid hER
      have HE2 := Lib.hid (HX1.out.trans hER)
      have bz := HFt.out.ext HE2.out; have x0' := bz.x0; have x1' := bz.x1; have g0' := bz.f 0; have g1' := bz.f 1
      have bc := HC.out.ext HE2.out; have v2 := bc.x2
      have bq := Hf1.out.ext hER; have q0 := bq.x0; have q1 := bq.x1
      have HEz := Lib.hid (HE0.out.trans HE2.out)
      clear hER bz bc bq
      by_cases hin : i = n
      · have h2 : ¬ (i : Int) < (n : Int) := by omega
        have hz : (r0, r1) = ((0 : Int), (0 : Int)) := by rw [hri]; exact purF_end ops i (by rw [Hl.out]; omega)
        have HF0 : Hid (r0 = 0) := congrArg Prod.fst hz
        have HF1 : Hid (r1 = 0) := congrArg Prod.snd hz
        clear hz hri
        go_wp2_with fail
        exact bodyPost_ret (v := .agg #[.int .i64 0, .int .i64 0]) (by simp [results, Tryd.results12, go_sem, x0', x1']) rfl ⟨by rw [HF0.out, HF1.out], put2x HEz.out (by omega) _ _⟩
      · have h2 : (i : Int) < (n : Int) := by omega
        have h0 : (0 : Int) ≤ (i : Int) := by omega
        rcases hab with h | ⟨b, o, rfl⟩
        · omega
        obtain ⟨g, hg⟩ : ∃ g, ops[i]? = some g := ⟨_, List.getElem?_eq_getElem (by rw [Hl.out]; omega)⟩
        obtain ⟨a1, n1, c1, a2, n2, c2, e0, e1, e2, e3, e4, e5, hL⟩ := (HO.out.ext HE2.out).at i g hg
        have hkd := Hkinds.out g (List.mem_of_getElem? hg)
        have hst := purF_step ops i g hg
        rw [← hri, hL.i2.1] at hst
        have Hst := Lib.hid hst
        have Ea := ext_al wr (.cells #[.int .i64 g.kind, .int .i64 g.k, .slice a1 n1 c1, .int .i64 g.q, .int .i64 g.bit, .slice a2 n2 c2] 45)
        have bO := opbx_new wr g.kind g.k a1 n1 c1 g.q g.bit a2 n2 c2
        have HM := Lib.hid (meets_any g.kind g.k a1 n1 c1 g.q g.bit a2 n2 c2 (wr.alloc (.cells #[.int .i64 g.kind, .int .i64 g.k, .slice a1 n1 c1, .int .i64 g.q, .int .i64 g.bit, .slice a2 n2 c2] 45)) hkd.1 hkd.2)
        obtain ⟨kd, kk', ctl, qq, bb, cnd⟩ := g
        simp only at e0 e1 e2 e3 e4 e5 HM bO Ea Hst
        obtain ⟨mt, hmt⟩ : ∃ x, decide (5 ≤ kd) = x := ⟨_, rfl⟩
        rw [hmt] at HM
        have p0 := bO.x0; have p1 := bO.x1; have p2 := bO.x2; have p3 := bO.x3; have p4 := bO.x4; have p5 := bO.x5
        have HO5 := Lib.hid bO
        have HEa := Lib.hid Ea
        clear hst hri hg hL bO Ea hkd
        go_wp2_with fail
        generalize wr.alloc (.cells #[.int .i64 kd, .int .i64 kk', .slice a1 n1 c1, .int .i64 qq, .int .i64 bb, .slice a2 n2 c2] 45) = w5 at *
        refine HM.out.mono ?_
        rintro e w6 ⟨rfl, hx6⟩
        have HE6 := Lib.hid (HEa.out.trans hx6)
        have HE7 := Lib.hid (HE2.out.trans HE6.out)
        have s5 := (HO5.out.ext hx6).x5
        have bz := HFt.out.ext HE7.out; have y0' := bz.x0; have y1' := bz.x1; have j0' := bz.f 0; have j1' := bz.f 1
        have HEy := Lib.hid (HE0.out.trans HE7.out)
        clear p0 p1 p2 p3 p4 p5 e0 e1 e2 e3 e4 e5 v2 x0' x1' g0' g1' bz q0 q1
        cases mt
        · have h5 := of_decide_eq_false hmt
          by_cases hn2 : 0 < n2
          · have hi2 : (0 : Int) < (n2 : Int) := by omega
            have hz : (r0, r1) = ((15 : Int), (i : Int)) := by rw [Hst.out, if_pos (Or.inr hn2)]
            have HF0 : Hid (r0 = 15) := congrArg Prod.fst hz
            have HF1 : Hid (r1 = (i : Int)) := congrArg Prod.snd hz
            clear hz Hst hmt h5
            go_wp2_with fail
            exact bodyPost_ret (v := .agg #[.int .i64 15, .int .i64 (i : Int)]) (by simp [results, Tryd.results12, go_sem, y0', y1']) rfl ⟨by rw [HF0.out, HF1.out], put2x HEy.out (by omega) _ _⟩
          · have hi2 : ¬ (0 : Int) < (n2 : Int) := by omega
            have hz : (r0, r1) = purF (i + 1) (ops.drop (i + 1)) := by rw [Hst.out, if_neg (by omega)]
            have HF := Lib.hid hz
            clear hz Hst hmt h5
            go_wp2_with fail
            go_roundg (n - (i + 1))
            case measure => omega
            case rel => exact ⟨HER.out.trans HE6.out, i + 1, by go_num, by omega, rfl, HF.out⟩
        · have h5 := of_decide_eq_true hmt
          have hz : (r0, r1) = ((15 : Int), (i : Int)) := by rw [Hst.out, if_pos (Or.inl h5)]
          have HF0 : Hid (r0 = 15) := congrArg Prod.fst hz
          have HF1 : Hid (r1 = (i : Int)) := congrArg Prod.snd hz
          clear hz Hst hmt h5
          go_wp2_with fail
          exact bodyPost_ret (v := .agg #[.int .i64 15, .int .i64 (i : Int)]) (by simp [results, Tryd.results12, go_sem, y0', y1']) rfl ⟨by rw [HF0.out, HF1.out], put2x HEy.out (by omega) _ _⟩
  · have hcb := nt hc0
    have hr1 := Hr.out
    rw [if_pos (by exact hc0)] at hr1
    have HF0 : Hid (r0 = f0) := (congrArg Prod.fst hr1).symm
    have HF1 : Hid (r1 = f1) := (congrArg Prod.snd hr1).symm
    have HEz := Lib.hid (HE0.out.trans HX1.out)
    clear hr1 Hr hc0 Hz0
    go_wp2_with fail
    exact bodyPost_ret (v := .agg #[.int .i64 f0, .int .i64 f1]) (by simp [results, Tryd.results12, go_sem, x0', x1']) rfl ⟨by rw [HF0.out, HF1.out], put2x HEz.out (by omega) _ _⟩

set_option maxHeartbeats 4000000 in
set_option maxRecDepth 100000 in
theorem RPure_any (c : Gci) (ao : Option Addr) (n cp : Nat) (w : World) (h : OpsAt w ao n c.ops) (hn : n ≤ cp) (hcp : cp ≤ 9223372036854775807) :
    Calls Tryd.prog 13 #[.agg #[.int .i64 c.qubits, .int .i64 c.bits, .slice ao n cp]] w fun e w' => e = .returned (.agg #[.int .i64 (pur c).1, .int .i64 (pur c).2]) ∧ Ext w w' := by
  obtain ⟨r, hr⟩ : ∃ r, pur c = r := ⟨_, rfl⟩
  rw [hr]
  obtain ⟨r0, r1⟩ := r
  unfold pur at hr
  obtain ⟨qb, bi, ops⟩ := c
  obtain ⟨f, hf⟩ : ∃ f, chk ⟨qb, bi, ops⟩ = f := ⟨_, rfl⟩
  obtain ⟨f0, f1⟩ := f
  have hz0 : f0 = 0 → f1 = 0 ∧ ∀ g ∈ ops, 1 ≤ g.kind ∧ g.kind ≤ 6 := by
    intro h0
    obtain ⟨e1, _, _, _, _, _, e2⟩ := chk_zero (c := ⟨qb, bi, ops⟩) (by rw [hf]; exact h0)
    rw [hf] at e1
    exact ⟨congrArg Prod.snd e1, fun g hg => opCode_kind (e2 g hg)⟩
  have Hz0 := Lib.hid hz0
  rw [hf] at hr
  have Hf := Lib.hid hf
  have E0 := (ext_al w (.cells #[.int .i64 qb, .int .i64 bi, .slice ao n cp] 24)).trans (ext_al _ (.cells #[.int .i64 0, .int .i64 0] 28))
  have bC : CiB ((w.alloc (.cells #[.int .i64 qb, .int .i64 bi, .slice ao n cp] 24)).alloc (.cells #[.int .i64 0, .int .i64 0] 28)) w.heap.size qb bi ao n cp := CiB.ext ⟨heap_alloc_new w _⟩ (ext_al _ _)
  have bF : FtB ((w.alloc (.cells #[.int .i64 qb, .int .i64 bi, .slice ao n cp] 24)).alloc (.cells #[.int .i64 0, .int .i64 0] 28)) (w.heap.size + 1) 0 0 := ⟨by
    have := heap_alloc_new (w.alloc (.cells #[.int .i64 qb, .int .i64 bi, .slice ao n cp] 24)) (.cells #[.int .i64 0, .int .i64 0] 28)
    simpa using this⟩
  have Hl := Lib.hid h.1
  simp only at hr Hl ⊢
  have HE0 := Lib.hid E0; have HO := Lib.hid (h.ext E0); have HC := Lib.hid bC; have HFt := Lib.hid bF
  have m0 := bC.x0; have m1 := bC.x1; have m2 := bC.x2
  have Hr := Lib.hid hr
  have hab : n = 0 ∨ ∃ b o, ao = some ⟨b, o, none⟩ := by
    by_cases h0 : n = 0
    · exact Or.inl h0
    · exact Or.inr (HO.out.some_of (by omega))
  clear h E0 bC bF hr hf hz0
  go_enter Tryd.func13, Tryd.ntmps13
  go_wp2_with fail
  generalize (w.alloc (.cells #[.int .i64 qb, .int .i64 bi, .slice ao n cp] 24)).alloc (.cells #[.int .i64 0, .int .i64 0] 28) = W0 at *
  have HK := Lib.hid (RCheck_any ⟨qb, bi, ops⟩ ao n cp W0 HO.out hn hcp)
  rw [Hf.out] at HK
  refine HK.out.mono ?_
  rintro e w1 ⟨rfl, hx1⟩
  have Ef := ext_al w1 (.cells #[.int .i64 f0, .int .i64 f1] 28)
  have bf1 : FtB (w1.alloc (.cells #[.int .i64 f0, .int .i64 f1] 28)) w1.heap.size f0 f1 := ⟨heap_alloc_new w1 _⟩
  have q0 := bf1.x0; have q1 := bf1.x1
  have HX1 := Lib.hid (hx1.trans Ef)
  have Hf1 := Lib.hid bf1
  have bz := HFt.out.ext HX1.out; have x0' := bz.x0; have x1' := bz.x1; have g0' := bz.f 0; have g1' := bz.f 1
  have bc := HC.out.ext HX1.out; have v2 := bc.x2
  clear bz bc m0 m1 m2 hx1 Ef bf1 HK Hf
  by_cases hc0 : f0 = 0
  · obtain ⟨hf1, hkinds⟩ := Hz0.out hc0
    have hr1 := Hr.out
    rw [if_neg (by simp [hc0])] at hr1
    have Hr1 := Lib.hid hr1
    have Hkinds := Lib.hid hkinds
    have hcb := nf' hc0
    have Hc0 := Lib.hid hc0; have Hf1z := Lib.hid hf1
    clear hr1 Hr hkinds hc0 hf1 Hz0
    go_wp2_with fail
    generalize w1.alloc (.cells #[.int .i64 f0, .int .i64 f1] 28) = W1 at *
    generalize w1.heap.size = FB at *
    clear q0 q1 x0' x1' g0' g1' v2
    go_loopg [4] n (fun kk sN wr => Ext W1 wr ∧ ∃ i : Nat, sN = .int .i64 (i : Int) ∧ i ≤ n ∧ n - i = kk ∧ (r0, r1) = purF i (ops.drop i))
    case atStart => exact ⟨Ext.refl _, 0, rfl, by omega, by omega, Hr1.out.symm⟩
    case round =>
      obtain ⟨hER, i, rfl, hi, hk, hri⟩ := hrel
      have HER := Lib.hid hER
      have HE2 := Lib.hid (HX1.out.trans hER)
      have bz := HFt.out.ext HE2.out; have x0' := bz.x0; have x1' := bz.x1; have g0' := bz.f 0; have g1' := bz.f 1
      have bc := HC.out.ext HE2.out; have v2 := bc.x2
      have bq := Hf1.out.ext hER; have q0 := bq.x0; have q1 := bq.x1
      have HEz := Lib.hid (HE0.out.trans HE2.out)
      clear hER bz bc bq
      by_cases hin : i = n
      · have h2 : ¬ (i : Int) < (n : Int) := by omega
        have hz : (r0, r1) = ((0 : Int), (0 : Int)) := by rw [hri]; exact purF_end ops i (by rw [Hl.out]; omega)
        have HF0 : Hid (r0 = 0) := congrArg Prod.fst hz
        have HF1 : Hid (r1 = 0) := congrArg Prod.snd hz
        clear hz hri
        go_wp2_with fail
        exact bodyPost_ret (v := .agg #[.int .i64 f0, .int .i64 f1]) (by simp [results, Tryd.results13, go_sem, x0', x1']) rfl ⟨by rw [HF0.out, HF1.out, Hc0.out, Hf1z.out], put2x HEz.out (by omega) _ _⟩
      · have h2 : (i : Int) < (n : Int) := by omega
        have h0 : (0 : Int) ≤ (i : Int) := by omega
        rcases hab with h | ⟨b, o, rfl⟩
        · omega
        obtain ⟨g, hg⟩ : ∃ g, ops[i]? = some g := ⟨_, List.getElem?_eq_getElem (by rw [Hl.out]; omega)⟩
        obtain ⟨a1, n1, c1, a2, n2, c2, e0, e1, e2, e3, e4, e5, hL⟩ := (HO.out.ext HE2.out).at i g hg
        have hkd := Hkinds.out g (List.mem_of_getElem? hg)
        have hst := purF_step ops i g hg
        rw [← hri, hL.i2.1] at hst
        have Hst := Lib.hid hst
        obtain ⟨kd, kk', ctl, qq, bb, cnd⟩ := g
        simp only at e0 e1 e2 e3 e4 e5 Hst
        clear hst hri hg hL hkd
        by_cases h5 : 5 ≤ kd
        · have z5 := dt h5
          have hz : (r0, r1) = ((15 : Int), (i : Int)) := by rw [Hst.out, if_pos (Or.inl h5)]
          have HF0 : Hid (r0 = 15) := congrArg Prod.fst hz
          have HF1 : Hid (r1 = (i : Int)) := congrArg Prod.snd hz
          clear hz Hst
          go_wp2_with fail
          refine (rfault_any 15 (i : Int) _).mono ?_
          rintro e wz ⟨rfl, hxz⟩
          have bz := HFt.out.ext (HE2.out.trans hxz); have y0' := bz.x0; have y1' := bz.x1; have j0' := bz.f 0; have j1' := bz.f 1
          have HEy := Lib.hid (HE0.out.trans (HE2.out.trans hxz))
          clear bz
          go_wp2_with fail
          exact bodyPost_ret (v := .agg #[.int .i64 15, .int .i64 (i : Int)]) (by simp [results, Tryd.results13, go_sem, y0', y1']) rfl ⟨by rw [HF0.out, HF1.out], put2x HEy.out (by omega) _ _⟩
        have z5 := df h5
        by_cases hn2 : 0 < n2
        · have hi2 : (0 : Int) < (n2 : Int) := by omega
          have z6 := dt hi2
          have hz : (r0, r1) = ((15 : Int), (i : Int)) := by rw [Hst.out, if_pos (Or.inr hn2)]
          have HF0 : Hid (r0 = 15) := congrArg Prod.fst hz
          have HF1 : Hid (r1 = (i : Int)) := congrArg Prod.snd hz
          clear hz Hst
          go_wp2_with fail
          refine (rfault_any 15 (i : Int) _).mono ?_
          rintro e wz ⟨rfl, hxz⟩
          have bz := HFt.out.ext (HE2.out.trans hxz); have y0' := bz.x0; have y1' := bz.x1; have j0' := bz.f 0; have j1' := bz.f 1
          have HEy := Lib.hid (HE0.out.trans (HE2.out.trans hxz))
          clear bz
          go_wp2_with fail
          exact bodyPost_ret (v := .agg #[.int .i64 15, .int .i64 (i : Int)]) (by simp [results, Tryd.results13, go_sem, y0', y1']) rfl ⟨by rw [HF0.out, HF1.out], put2x HEy.out (by omega) _ _⟩
        have hi2 : ¬ (0 : Int) < (n2 : Int) := by omega
        have z6 := df hi2
        have hz : (r0, r1) = purF (i + 1) (ops.drop (i + 1)) := by rw [Hst.out, if_neg (by omega)]
        have HF := Lib.hid hz
        clear hz Hst
        go_wp2_with fail
        go_roundg (n - (i + 1))
        case measure => omega
        case rel => exact ⟨HER.out, i + 1, by go_num, by omega, rfl, HF.out⟩
  · have hcb := nt hc0
    have hr1 := Hr.out
    rw [if_pos (by exact hc0)] at hr1
    have HF0 : Hid (r0 = f0) := (congrArg Prod.fst hr1).symm
    have HF1 : Hid (r1 = f1) := (congrArg Prod.snd hr1).symm
    have HEz := Lib.hid (HE0.out.trans HX1.out)
    clear hr1 Hr hc0 Hz0
    go_wp2_with fail
    exact bodyPost_ret (v := .agg #[.int .i64 f0, .int .i64 f1]) (by simp [results, Tryd.results13, go_sem, x0', x1']) rfl ⟨by rw [HF0.out, HF1.out], put2x HEz.out (by omega) _ _⟩

end Go.Proofs.YtpabafioofhklaaDoor
