/-
  A circuit's text, read again: Parse of what Print wrote.
-/
import Derived.Test.YtpabafioofhklaaDoorMDl

namespace Go.Proofs.YtpabafioofhklaaDoor
open Go.RowKit

set_option maxHeartbeats 4000000 in
set_option maxRecDepth 100000 in
theorem parse_yes (c : Gci) (w : World) (hS : Shp w) (hc : (chk c).1 = 0) (hT : (prn c).length ≤ 1000000) :
    Calls Tryd.prog 16 #[.string ⟨(prn c).toArray⟩] w fun e w' => (∃ (a' : Option Addr) (c' : Nat), e = .returned (.tuple #[.agg #[.int .i64 c.qubits, .int .i64 c.bits, .slice a' c.ops.length c'], .agg #[.int .i64 0, .int .i64 0]]) ∧ c.ops.length ≤ c' ∧ c' ≤ maxLen ∧ OpsO w' (w.heap.size + 5) (.slice a' c.ops.length c') c.ops) ∧ Ext w w' := by
  obtain ⟨hz, hq1, hq2, hb1, hb2, hl, hop⟩ := chk_zero hc
  have hf : ∀ g ∈ c.ops, PrFit g ∧ Unused g := fun g hg => ⟨prFit_of_code hq2 hb1 hb2 (hop g hg), unused_of_code (hop g hg)⟩
  have hmf : ∀ (fn : Fn) (first cap : Array Value) (w : World), (Instr.makeFunc fn first cap).run Tryd.prog w = .ok (.func fn first cap) w := fun _ _ _ _ => rfl
  obtain ⟨T, hTd⟩ : ∃ T, prn c = T := ⟨_, rfl⟩
  rw [hTd] at hT ⊢
  obtain ⟨H, hH⟩ : ∃ H, w.heap.size = H := ⟨_, rfl⟩
  obtain ⟨A1, hA1⟩ : ∃ A1, w.alloc (.cells #[.int .i64 0, .int .i64 0, .slice none 0 0] 24) = A1 := ⟨_, rfl⟩
  obtain ⟨A2, hA2⟩ : ∃ A2, A1.alloc (.cells #[.int .i64 0, .int .i64 0] 28) = A2 := ⟨_, rfl⟩
  obtain ⟨A3, hA3⟩ : ∃ A3, A2.alloc (.cells #[.string ⟨T.toArray⟩, .int .i64 0, .int .i64 0] 68) = A3 := ⟨_, rfl⟩
  have s1 : A1.heap.size = H + 1 := by rw [← hA1, ← hH]; simp
  have s2 : A2.heap.size = H + 2 := by rw [← hA2]; simp; omega
  have s3 : A3.heap.size = H + 3 := by rw [← hA3]; simp; omega
  have x1 : Ext w A1 := by rw [← hA1]; exact ext_al _ _
  have x2 : Ext A1 A2 := by rw [← hA2]; exact ext_al _ _
  have x3 : Ext A2 A3 := by rw [← hA3]; exact ext_al _ _
  have bC : CiB A3 H 0 0 none 0 0 := by
    have : CiB A1 H 0 0 none 0 0 := by rw [← hA1, ← hH]; exact ⟨heap_alloc_new w _⟩
    exact (this.ext x2).ext x3
  have bF : FtB A3 (H + 1) 0 0 := by
    have : FtB A2 (H + 1) 0 0 := by rw [← hA2, ← s1]; exact ⟨heap_alloc_new A1 _⟩
    exact this.ext x3
  have hr : Rd A3 (H + 2) T 0 0 := ⟨by rw [← hA3, ← s2]; exact heap_alloc_new A2 _⟩
  have HW := Lib.hid (x1.trans x2)
  have HK := Lib.hid (circuit_yes (H + 2) T A2 A3 x3 (Nat.le_of_eq s2) (hS.ext (x1.trans x2)) hr hT c ⟨by omega, by omega⟩ ⟨by omega, by omega⟩ hl hf hTd.symm)
  have HX3 := Lib.hid x3
  have hA : ((w.alloc (.cells #[.int .i64 0, .int .i64 0, .slice none 0 0] 24)).alloc (.cells #[.int .i64 0, .int .i64 0] 28)).alloc (.cells #[.string ⟨T.toArray⟩, .int .i64 0, .int .i64 0] 68) = A3 := by rw [hA1, hA2, hA3]
  have hlen : ¬ ((T.length : Nat) : Int) > 1000000 := by omega
  have hld : decide (1000000 < ((T.length : Nat) : Int)) = false := df (by omega)
  rw [s3] at HK
  obtain ⟨qb, bi, ops⟩ := c
  have HS := Lib.hid hS; have Hz := Lib.hid hz; have Hs2 := Lib.hid s2
  subst hH
  have HA := Lib.hid hA; have HC := Lib.hid bC; have HF := Lib.hid bF
  clear hS hz hop hf hc hl hTd x1 x2 x3 hA1 hA2 hA3 hA s1 s2 bC bF hr
  simp only at HK ⊢
  go_enter_defers Tryd.func16, Tryd.ntmps16
  go_wp2_with fail
  rw [HA.out]
  refine HK.out.mono ?_
  rintro e w1 ⟨⟨a1, c1, rfl, h1, h2, hat1, ho1⟩, hm1⟩
  have E1 : Ext w w1 := HW.out.trans (hm1.ext HX3.out (Nat.le_of_eq Hs2.out))
  have bC1 := HC.out.mvd hm1 (show w.heap.size ≠ w.heap.size + 2 by omega)
  have bF1 : FtB w1 (w.heap.size + 1) 0 0 := ⟨(hm1.block (w.heap.size + 1) HF.out.lt (by omega)).trans HF.out.row⟩
  have HCh := Lib.hid (checked_yes ⟨qb, bi, ops⟩ a1 ops.length c1 w1 hat1 h1 h2 (HS.out.ext E1) Hz.out)
  have HE1 := Lib.hid E1; have HO1 := Lib.hid ho1; have Hc1 := Lib.hid h1; have Hc2 := Lib.hid h2; have HC1 := Lib.hid bC1; have HF1 := Lib.hid bF1
  clear E1 ho1 hat1 h1 h2 bC1 bF1 hm1 HK HC HF HA HX3 HW
  simp only at HCh
  go_wp2_with fail
  refine HCh.out.mono ?_
  rintro e w2 ⟨rfl, hx2⟩
  have bC2 := HC1.out.ext hx2; have bF2 := HF1.out.ext hx2
  have ho2 := HO1.out.ext hx2
  have E2 := HE1.out.trans hx2
  clear HC1 HF1 HO1 HE1 HCh hx2
  have y0 := bC2.x0; have y1 := bC2.x1; have y2 := bC2.x2; have f0 := bC2.f 0; have f1 := bC2.f 1; have f2 := bC2.f 2
  have z0 := bF2.x0; have z1 := bF2.x1; have k0 := bF2.f 0; have k1 := bF2.f 1
  have hO3 : Only w.heap.size w2 (((w2.setCell ⟨w.heap.size, 0, none⟩ (.int .i64 qb)).setCell ⟨w.heap.size, 1, none⟩ (.int .i64 bi)).setCell ⟨w.heap.size, 2, none⟩ (.slice a1 ops.length c1)) := (((Only.refl _ _).setCell _ _).setCell _ _).setCell _ _
  have ho3 := ho2.only bC2.row (by decide) hO3 (by simp) (by omega)
  have bC3 : CiB (((w2.setCell ⟨w.heap.size, 0, none⟩ (.int .i64 qb)).setCell ⟨w.heap.size, 1, none⟩ (.int .i64 bi)).setCell ⟨w.heap.size, 2, none⟩ (.slice a1 ops.length c1)) w.heap.size qb bi a1 ops.length c1 := ((bC2.set0 qb).set1 bi).set2 a1 ops.length c1
  have bF3 : FtB (((w2.setCell ⟨w.heap.size, 0, none⟩ (.int .i64 qb)).setCell ⟨w.heap.size, 1, none⟩ (.int .i64 bi)).setCell ⟨w.heap.size, 2, none⟩ (.slice a1 ops.length c1)) (w.heap.size + 1) 0 0 := ⟨row_far (row_far (row_far bF2.row (by omega)) (by omega)) (by omega)⟩
  have E3 := cput (o := 2) (cput (o := 1) (cput (o := 0) E2 (Nat.le_refl _) (.int .i64 qb)) (Nat.le_refl _) (.int .i64 bi)) (Nat.le_refl _) (.slice a1 ops.length c1)
  have hO4 : Only (w.heap.size + 1) (((w2.setCell ⟨w.heap.size, 0, none⟩ (.int .i64 qb)).setCell ⟨w.heap.size, 1, none⟩ (.int .i64 bi)).setCell ⟨w.heap.size, 2, none⟩ (.slice a1 ops.length c1)) (((((w2.setCell ⟨w.heap.size, 0, none⟩ (.int .i64 qb)).setCell ⟨w.heap.size, 1, none⟩ (.int .i64 bi)).setCell ⟨w.heap.size, 2, none⟩ (.slice a1 ops.length c1)).setCell ⟨w.heap.size + 1, 0, none⟩ (.int .i64 0)).setCell ⟨w.heap.size + 1, 1, none⟩ (.int .i64 0)) := ((Only.refl _ _).setCell _ _).setCell _ _
  have ho4 := ho3.only bF3.row (by decide) hO4 (by simp) (by omega)
  have bC4 : CiB (((((w2.setCell ⟨w.heap.size, 0, none⟩ (.int .i64 qb)).setCell ⟨w.heap.size, 1, none⟩ (.int .i64 bi)).setCell ⟨w.heap.size, 2, none⟩ (.slice a1 ops.length c1)).setCell ⟨w.heap.size + 1, 0, none⟩ (.int .i64 0)).setCell ⟨w.heap.size + 1, 1, none⟩ (.int .i64 0)) w.heap.size qb bi a1 ops.length c1 := ⟨row_far (row_far bC3.row (by omega)) (by omega)⟩
  have bF4 : FtB (((((w2.setCell ⟨w.heap.size, 0, none⟩ (.int .i64 qb)).setCell ⟨w.heap.size, 1, none⟩ (.int .i64 bi)).setCell ⟨w.heap.size, 2, none⟩ (.slice a1 ops.length c1)).setCell ⟨w.heap.size + 1, 0, none⟩ (.int .i64 0)).setCell ⟨w.heap.size + 1, 1, none⟩ (.int .i64 0)) (w.heap.size + 1) 0 0 := ⟨row_put (row_put bF3.row rfl) rfl⟩
  have E4 := cput (o := 1) (cput (o := 0) E3 (Nat.le_succ _) (.int .i64 0)) (Nat.le_succ _) (.int .i64 0)
  have HC4 := Lib.hid bC4; have HF4 := Lib.hid bF4; have HO4 := Lib.hid ho4; have HE4 := Lib.hid E4
  clear bC3 bF3 ho3 E3 hO3 ho2 bC2 bF2 E2 bC4 bF4 ho4 E4 hO4
  go_wp2_with fail
  generalize ((((w2.setCell ⟨w.heap.size, 0, none⟩ (.int .i64 qb)).setCell ⟨w.heap.size, 1, none⟩ (.int .i64 bi)).setCell ⟨w.heap.size, 2, none⟩ (.slice a1 ops.length c1)).setCell ⟨w.heap.size + 1, 0, none⟩ (.int .i64 0)).setCell ⟨w.heap.size + 1, 1, none⟩ (.int .i64 0) = Wz at *
  have v0 := HC4.out.x0; have v1 := HC4.out.x1; have v2 := HC4.out.x2; have v3 := HF4.out.x0; have v4 := HF4.out.x1
  refine leaves_cons (f := 35) (args := #[.pointer (some ⟨w.heap.size + 1, 0, none⟩)]) (by simp) (by simp [go_sem]) ?_
  refine (parse1_idle ⟨w.heap.size + 1, 0, none⟩ _).mono ?_
  rintro e u' w'' ⟨rfl, rfl, rfl⟩
  obtain ⟨a9, c9, ev9, j1, j2, hat9⟩ := HO4.out.at
  injection ev9 with e1 _ e3
  subst e1; subst e3
  have HR := Lib.hid (And.intro (And.intro j1 (And.intro j2 HO4.out)) HE4.out)
  clear j1 j2 hat9 y0 y1 y2 z0 z1 f0 f1 f2 k0 k1
  simp [Leaves, settle, results, Tryd.results16, go_sem, v0, v1, v2, v3, v4]
  exact ⟨⟨a1, c1, ⟨rfl, rfl⟩, HR.out.1⟩, HR.out.2⟩

end Go.Proofs.YtpabafioofhklaaDoor
