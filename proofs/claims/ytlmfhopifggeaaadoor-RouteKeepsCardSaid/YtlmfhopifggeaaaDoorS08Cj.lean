/-
  Circuits in memory; the first fault of a circuit, as the program finds it and as the reference does. Levels: the program's walk. The first fault of a circuit, as the reference finds it. Why a circuit is not unitary: Pure of both sides. What a circuit without a fault keeps to; what Count tells of one, in plain numbers. What a shot needs of an operation without a fault. Nothing of the program stands here. A tally in a variable; what is counted, in plain numbers. The reference's writing: ZText. A copy of a circuit.
-/
import Derived.Test.YtlmfhopifggeaaaDoorProg
import Derived.Test.YtlmfhopifggeaaaDoorRows
import Derived.BigQuiet
import Derived.Deep.AppendLies
import Derived.Deep.Cut
import Derived.Deep.CutRange
import Derived.Deep.LoopGhost
import Derived.Deep.MidRow
import Derived.Deep.QuietTactic
import Derived.Deep.RegionHeld3
import Derived.Ground.Names2Prog
import Derived.Ground.SlgnProg
import Derived.Laws.Bits64b
import Derived.Laws.CopyOwn
import Derived.Laws.IdiomCopy
import Derived.Laws.ResultCell
import Derived.Laws.Rows
import Derived.Lib.BitFns
import Derived.Lib.Hide
import Derived.Lib.ItoaMem
import Derived.Lib.ItoaNum
import Derived.Lib.Strings
import Derived.Lib.TrailingZeros
import Derived.OrdersHeld
import Derived.OwnWalk
import Derived.ProofKit
import Derived.RegionTactic
import Derived.Shelf.Slices.Clone
import Derived.Shelf.SlicesE.Clone
import Derived.WalkKit
import Derived.WalkLawsBesides
import Derived.WalkSpells
import Derived.Test.YtlmfhopifggeaaaDoorS00Mem
import Derived.Test.YtlmfhopifggeaaaDoorShelf
import Derived.Test.YtlmfhopifggeaaaDoorS02ZBq
import Derived.Test.YtlmfhopifggeaaaDoorS03ZKq
import Derived.Test.YtlmfhopifggeaaaDoorS04Udq
import Derived.Test.YtlmfhopifggeaaaDoorS05Wf
import Derived.Test.YtlmfhopifggeaaaDoorS06Xfq
import Derived.Test.YtlmfhopifggeaaaDoorS07Cn
namespace Go.Proofs.YtlmfhopifggeaaaDoor
open Go.RowKit

/-- Operations, one behind the other. -/
def OpsAt (w : World) (ao : Option Addr) (n : Nat) (ops : List Gop) : Prop :=
  ops.length = n ∧ (n = 0 ∨ ∃ b o, ao = some ⟨b, o, none⟩ ∧ b < w.heap.size ∧ ∀ t g, ops[t]? = some g → ∃ (a1 : Option Addr) (n1 c1 : Nat) (a2 : Option Addr) (n2 c2 : Nat),
    w.cell? ⟨b, o + t * 6, none⟩ = some (.int .i64 g.kind) ∧ w.cell? ⟨b, o + t * 6 + 1, none⟩ = some (.int .i64 g.k) ∧ w.cell? ⟨b, o + t * 6 + 2, none⟩ = some (.slice a1 n1 c1) ∧ w.cell? ⟨b, o + t * 6 + 3, none⟩ = some (.int .i64 g.q) ∧ w.cell? ⟨b, o + t * 6 + 4, none⟩ = some (.int .i64 g.bit) ∧ w.cell? ⟨b, o + t * 6 + 5, none⟩ = some (.slice a2 n2 c2) ∧ OpL w g a1 n1 c1 a2 n2 c2)
theorem OpsAt.ext {w w' : World} {ao : Option Addr} {n : Nat} {ops : List Gop} (h : OpsAt w ao n ops) (k : Ext w w') : OpsAt w' ao n ops := by
  refine ⟨h.1, ?_⟩
  rcases h.2 with h0 | ⟨b, o, e, hb, hc⟩
  · exact Or.inl h0
  · refine Or.inr ⟨b, o, e, Nat.lt_of_lt_of_le hb k.size, fun t g hg => ?_⟩
    obtain ⟨a1, n1, c1, a2, n2, c2, e0, e1, e2, e3, e4, e5, hl⟩ := hc t g hg
    exact ⟨a1, n1, c1, a2, n2, c2, cell_ext e0 k, cell_ext e1 k, cell_ext e2 k, cell_ext e3 k, cell_ext e4 k, cell_ext e5 k, hl.ext k⟩
theorem OpsAt.at {w : World} {b o n : Nat} {ops : List Gop} (h : OpsAt w (some ⟨b, o, none⟩) n ops) (t : Nat) (g : Gop) (hg : ops[t]? = some g) : ∃ (a1 : Option Addr) (n1 c1 : Nat) (a2 : Option Addr) (n2 c2 : Nat),
    w.cell? ⟨b, o + t * 6, none⟩ = some (.int .i64 g.kind) ∧ w.cell? ⟨b, o + t * 6 + 1, none⟩ = some (.int .i64 g.k) ∧ w.cell? ⟨b, o + t * 6 + 2, none⟩ = some (.slice a1 n1 c1) ∧ w.cell? ⟨b, o + t * 6 + 3, none⟩ = some (.int .i64 g.q) ∧ w.cell? ⟨b, o + t * 6 + 4, none⟩ = some (.int .i64 g.bit) ∧ w.cell? ⟨b, o + t * 6 + 5, none⟩ = some (.slice a2 n2 c2) ∧ OpL w g a1 n1 c1 a2 n2 c2 := by
  rcases h.2 with h0 | ⟨b', o', e, hb, hc⟩
  · have := (List.getElem?_eq_some_iff.1 hg).1
    have := h.1
    omega
  · cases e
    exact hc t g hg
theorem OpsAt.some_of {w : World} {ao : Option Addr} {n : Nat} {ops : List Gop} (h : OpsAt w ao n ops) (hn : 0 < n) : ∃ b o, ao = some ⟨b, o, none⟩ := by
  rcases h.2 with h0 | ⟨b, o, e, _⟩
  · omega
  · exact ⟨b, o, e⟩

theorem opsCode_step (q b : Int) (ops : List Gop) (i : Nat) (g : Gop) (h : ops[i]? = some g) : opsCode q b i (ops.drop i) = if opCode g q b ≠ 0 then (opCode g q b, (i : Int)) else opsCode q b (i + 1) (ops.drop (i + 1)) := by
  obtain ⟨hi, e⟩ := List.getElem?_eq_some_iff.1 h
  rw [List.drop_eq_getElem_cons hi, opsCode, e]
theorem opsCode_end (q b : Int) (ops : List Gop) (i : Nat) (h : ops.length ≤ i) : opsCode q b i (ops.drop i) = (0, 0) := by
  rw [List.drop_eq_nil_of_le h]; rfl

/-- A fault in a variable. -/
structure FtB (W : World) (g : Nat) (u v : Int) : Prop where
  row : W.heap[g]? = some (.cells #[.int .i64 u, .int .i64 v] 27 (0, 0))
theorem FtB.lt {W : World} {g : Nat} {u v : Int} (h : FtB W g u v) : g < W.heap.size := (Array.getElem?_eq_some_iff.1 h.row).1
theorem FtB.ext {W W' : World} {g : Nat} {u v : Int} (h : FtB W g u v) (k : Ext W W') : FtB W' g u v := ⟨(k.block _ h.lt).trans h.row⟩
theorem FtB.x0 {W : World} {g : Nat} {u v : Int} (h : FtB W g u v) : W.cell? ⟨g, 0, none⟩ = some (.int .i64 u) := by rw [cell_of_row W g 0 _ _ (0, 0) h.row]; rfl
theorem FtB.x1 {W : World} {g : Nat} {u v : Int} (h : FtB W g u v) : W.cell? ⟨g, 1, none⟩ = some (.int .i64 v) := by rw [cell_of_row W g 1 _ _ (0, 0) h.row]; rfl
theorem FtB.f {W : World} {g : Nat} {u v : Int} (h : FtB W g u v) (o : Nat) : W.frozen? ⟨g, o, none⟩ = false := frozen_of_row W g o _ _ h.row
/-- A circuit in a variable. -/
structure CiB (W : World) (g : Nat) (qb bi : Int) (ao : Option Addr) (n cp : Nat) : Prop where
  row : W.heap[g]? = some (.cells #[.int .i64 qb, .int .i64 bi, .slice ao n cp] 34 (0, 0))
section
variable {W W' : World} {g : Nat} {qb bi : Int} {ao : Option Addr} {n cp : Nat}
theorem CiB.lt (h : CiB W g qb bi ao n cp) : g < W.heap.size := (Array.getElem?_eq_some_iff.1 h.row).1
theorem CiB.ext (h : CiB W g qb bi ao n cp) (k : Ext W W') : CiB W' g qb bi ao n cp := ⟨(k.block _ h.lt).trans h.row⟩
theorem CiB.x0 (h : CiB W g qb bi ao n cp) : W.cell? ⟨g, 0, none⟩ = some (.int .i64 qb) := by rw [cell_of_row W g 0 _ _ (0, 0) h.row]; rfl
theorem CiB.x1 (h : CiB W g qb bi ao n cp) : W.cell? ⟨g, 1, none⟩ = some (.int .i64 bi) := by rw [cell_of_row W g 1 _ _ (0, 0) h.row]; rfl
theorem CiB.x2 (h : CiB W g qb bi ao n cp) : W.cell? ⟨g, 2, none⟩ = some (.slice ao n cp) := by rw [cell_of_row W g 2 _ _ (0, 0) h.row]; rfl
end
theorem put2x {w W : World} {g : Nat} (h : Ext w W) (hg : w.heap.size ≤ g) (u v : Value) : Ext w ((W.setCell ⟨g, 0, none⟩ u).setCell ⟨g, 1, none⟩ v) := Below.setCell (Below.setCell h (p := ⟨g, 0, none⟩) hg u) (p := ⟨g, 1, none⟩) hg v

set_option maxHeartbeats 400000 in
theorem countsQubits_any (n : Int) (w : World) : Calls Tryd.prog 51 #[.int .i64 n] w fun e w' => e = .returned (.bool (decide (1 ≤ n) && decide (n ≤ 12))) ∧ w' = w := by
  by_cases h0 : 1 ≤ n
  · by_cases h1 : n ≤ 12
    · have e : (decide (1 ≤ n) && decide (n ≤ 12)) = true := by simp [h0, h1]
      rw [e]
      have d0 := dt h0
      have d1 := dt h1
      go_enter Tryd.func51, Tryd.ntmps51
      go_wp2
      go_ret
      exact ⟨rfl, rfl⟩
    · have e : (decide (1 ≤ n) && decide (n ≤ 12)) = false := by simp [h1]
      rw [e]
      have d0 := dt h0
      have d1 := df h1
      go_enter Tryd.func51, Tryd.ntmps51
      go_wp2
      go_ret
      exact ⟨rfl, rfl⟩
  · have e : (decide (1 ≤ n) && decide (n ≤ 12)) = false := by simp [h0]
    rw [e]
    have d0 := df h0
    go_enter Tryd.func51, Tryd.ntmps51
    go_wp2
    go_ret
    exact ⟨rfl, rfl⟩

set_option maxHeartbeats 400000 in
theorem rfault_any (c a : Int) (w : World) : Calls Tryd.prog 28 #[.int .i64 c, .int .i64 a] w fun e w' => e = .returned (.agg #[.int .i64 c, .int .i64 a]) ∧ Ext w w' := by
  go_enter Tryd.func28, Tryd.ntmps28
  go_wp2
  exact bodyPost_ret (v := .agg #[.int .i64 c, .int .i64 a]) (by simp [results, Tryd.results28, go_sem]) rfl ⟨rfl, ext_al _ _⟩

set_option maxHeartbeats 4000000 in
set_option maxRecDepth 100000 in
theorem Check_any (c : Gci) (ao : Option Addr) (n cp : Nat) (w : World) (h : OpsAt w ao n c.ops) (_hn : n ≤ cp) (_hcp : cp ≤ 9223372036854775807) (hS : Shp w) :
    Calls Tryd.prog 32 #[.agg #[.int .i64 c.qubits, .int .i64 c.bits, .slice ao n cp]] w fun e w' => e = .returned (.agg #[.int .i64 (chk c).1, .int .i64 (chk c).2]) ∧ Ext w w' := by
  obtain ⟨r, hr⟩ : ∃ r, chk c = r := ⟨_, rfl⟩
  rw [hr]
  obtain ⟨r0, r1⟩ := r
  unfold chk at hr
  obtain ⟨qb, bi, ops⟩ := c
  have E0 := (ext_al w (.cells #[.int .i64 qb, .int .i64 bi, .slice ao n cp] 34)).trans (ext_al _ (.cells #[.int .i64 0, .int .i64 0] 27))
  have bC : CiB ((w.alloc (.cells #[.int .i64 qb, .int .i64 bi, .slice ao n cp] 34)).alloc (.cells #[.int .i64 0, .int .i64 0] 27)) w.heap.size qb bi ao n cp := CiB.ext ⟨heap_alloc_new w _⟩ (ext_al _ _)
  have bF : FtB ((w.alloc (.cells #[.int .i64 qb, .int .i64 bi, .slice ao n cp] 34)).alloc (.cells #[.int .i64 0, .int .i64 0] 27)) (w.heap.size + 1) 0 0 := ⟨by
    have := heap_alloc_new (w.alloc (.cells #[.int .i64 qb, .int .i64 bi, .slice ao n cp] 34)) (.cells #[.int .i64 0, .int .i64 0] 27)
    simpa using this⟩
  have Hl := Lib.hid h.1
  simp only at hr Hl ⊢
  have HE0 := Lib.hid E0; have HO := Lib.hid (h.ext E0); have HC := Lib.hid bC; have HFt := Lib.hid bF; have HS := Lib.hid (hS.ext E0)
  have m0 := bC.x0; have m1 := bC.x1; have m2 := bC.x2
  have x0 := bF.x0; have x1 := bF.x1; have g0 := bF.f 0; have g1 := bF.f 1
  clear h E0 bC bF hS
  have Hcq := Lib.hid (fun wx => countsQubits_any qb wx)
  by_cases hq : qb < 1 ∨ 12 < qb
  · have hz : (r0, r1) = ((6 : Int), (0 : Int)) := by rw [← hr, if_pos hq]
    have HF0 : Hid (r0 = 6) := congrArg Prod.fst hz
    have HF1 : Hid (r1 = 0) := congrArg Prod.snd hz
    have hb : (decide (1 ≤ qb) && decide (qb ≤ 12)) = false := by simp; omega
    rw [hb] at Hcq
    clear hr hz hq hb
    go_enter Tryd.func32, Tryd.ntmps32
    go_wp2_with fail
    generalize (w.alloc (.cells #[.int .i64 qb, .int .i64 bi, .slice ao n cp] 34)).alloc (.cells #[.int .i64 0, .int .i64 0] 27) = W0 at *
    refine (Hcq.out _).mono ?_
    rintro e wz ⟨rfl, rfl⟩
    go_wp2_with fail
    exact bodyPost_ret (v := .agg #[.int .i64 6, .int .i64 0]) (by simp [results, Tryd.results32, go_sem, x0, x1]) rfl ⟨by rw [HF0.out, HF1.out], put2x HE0.out (by omega) _ _⟩
  rw [if_neg hq] at hr
  have hb : (decide (1 ≤ qb) && decide (qb ≤ 12)) = true := by simp; omega
  rw [hb] at Hcq
  clear hb
  by_cases hb1 : bi < 0
  · have hz : (r0, r1) = ((7 : Int), (0 : Int)) := by rw [← hr, if_pos (Or.inl hb1)]
    have HF0 : Hid (r0 = 7) := congrArg Prod.fst hz
    have HF1 : Hid (r1 = 0) := congrArg Prod.snd hz
    have d1 := dt hb1
    clear hr hz
    go_enter Tryd.func32, Tryd.ntmps32
    go_wp2_with fail
    generalize (w.alloc (.cells #[.int .i64 qb, .int .i64 bi, .slice ao n cp] 34)).alloc (.cells #[.int .i64 0, .int .i64 0] 27) = W0 at *
    refine (Hcq.out _).mono ?_
    rintro e wz ⟨rfl, rfl⟩
    go_wp2_with fail
    exact bodyPost_ret (v := .agg #[.int .i64 7, .int .i64 0]) (by simp [results, Tryd.results32, go_sem, x0, x1]) rfl ⟨by rw [HF0.out, HF1.out], put2x HE0.out (by omega) _ _⟩
  have d1 := df hb1
  by_cases hb2 : 12 < bi
  · have hz : (r0, r1) = ((7 : Int), (0 : Int)) := by rw [← hr, if_pos (Or.inr hb2)]
    have HF0 : Hid (r0 = 7) := congrArg Prod.fst hz
    have HF1 : Hid (r1 = 0) := congrArg Prod.snd hz
    have d2 := dt hb2
    clear hr hz
    go_enter Tryd.func32, Tryd.ntmps32
    go_wp2_with fail
    generalize (w.alloc (.cells #[.int .i64 qb, .int .i64 bi, .slice ao n cp] 34)).alloc (.cells #[.int .i64 0, .int .i64 0] 27) = W0 at *
    refine (Hcq.out _).mono ?_
    rintro e wz ⟨rfl, rfl⟩
    go_wp2_with fail
    exact bodyPost_ret (v := .agg #[.int .i64 7, .int .i64 0]) (by simp [results, Tryd.results32, go_sem, x0, x1]) rfl ⟨by rw [HF0.out, HF1.out], put2x HE0.out (by omega) _ _⟩
  have d2 := df hb2
  rw [if_neg (by omega), Hl.out] at hr
  by_cases hL : 4096 < n
  · have hz : (r0, r1) = ((2 : Int), (0 : Int)) := by rw [← hr, if_pos hL]
    have HF0 : Hid (r0 = 2) := congrArg Prod.fst hz
    have HF1 : Hid (r1 = 0) := congrArg Prod.snd hz
    have d3 : (4096 : Int) < (n : Int) := by omega
    clear hr hz
    go_enter Tryd.func32, Tryd.ntmps32
    go_wp2_with fail
    generalize (w.alloc (.cells #[.int .i64 qb, .int .i64 bi, .slice ao n cp] 34)).alloc (.cells #[.int .i64 0, .int .i64 0] 27) = W0 at *
    refine (Hcq.out _).mono ?_
    rintro e wz ⟨rfl, rfl⟩
    go_wp2_with fail
    exact bodyPost_ret (v := .agg #[.int .i64 2, .int .i64 0]) (by simp [results, Tryd.results32, go_sem, x0, x1]) rfl ⟨by rw [HF0.out, HF1.out], put2x HE0.out (by omega) _ _⟩
  have d3 : ¬ (4096 : Int) < (n : Int) := by omega
  rw [if_neg hL] at hr
  have Hr := Lib.hid hr
  clear hr
  have hab : n = 0 ∨ ∃ b o, ao = some ⟨b, o, none⟩ := by
    by_cases h0 : n = 0
    · exact Or.inl h0
    · exact Or.inr (HO.out.some_of (by omega))
  go_enter Tryd.func32, Tryd.ntmps32
  go_wp2_with fail
  generalize (w.alloc (.cells #[.int .i64 qb, .int .i64 bi, .slice ao n cp] 34)).alloc (.cells #[.int .i64 0, .int .i64 0] 27) = W0 at *
  refine (Hcq.out _).mono ?_
  rintro e wz ⟨rfl, rfl⟩
  go_wp2_with fail
  go_loopg [31] n (fun kk s31 wr => Ext wz wr ∧ ∃ i : Nat, s31 = .int .i64 (i : Int) ∧ i ≤ n ∧ n - i = kk ∧ (r0, r1) = opsCode qb bi i (ops.drop i))
  case atStart => exact ⟨Ext.refl _, 0, rfl, by omega, by omega, Hr.out.symm⟩
  case round =>
    obtain ⟨hER, i, rfl, hi, hk, hri⟩ := hrel
    have HER := Lib.hid hER
    have v0 := cell_ext m0 hER; have v1 := cell_ext m1 hER; have v2 := cell_ext m2 hER
    clear m0 m1 m2 x0 x1 g0 g1 hER
    by_cases hin : i = n
    · have h2 : ¬ (i : Int) < (n : Int) := by omega
      have hz : (r0, r1) = ((0 : Int), (0 : Int)) := by rw [hri]; exact opsCode_end qb bi ops i (by rw [Hl.out]; omega)
      have HF0 : Hid (r0 = 0) := congrArg Prod.fst hz
      have HF1 : Hid (r1 = 0) := congrArg Prod.snd hz
      have bz := HFt.out.ext HER.out; have x0' := bz.x0; have x1' := bz.x1; have g0' := bz.f 0; have g1' := bz.f 1
      have HEz := Lib.hid (HE0.out.trans HER.out)
      clear hz hri bz
      go_wp2_with fail
      exact bodyPost_ret (v := .agg #[.int .i64 0, .int .i64 0]) (by simp [results, Tryd.results32, go_sem, x0', x1']) rfl ⟨by rw [HF0.out, HF1.out], put2x HEz.out (by omega) _ _⟩
    · have h2 : (i : Int) < (n : Int) := by omega
      have h0 : (0 : Int) ≤ (i : Int) := by omega
      rcases hab with h | ⟨b, o, rfl⟩
      · omega
      obtain ⟨g, hg⟩ : ∃ g, ops[i]? = some g := ⟨_, List.getElem?_eq_getElem (by rw [Hl.out]; omega)⟩
      obtain ⟨a1, n1, c1, a2, n2, c2, e0, e1, e2, e3, e4, e5, hL⟩ := (HO.out.ext HER.out).at i g hg
      have hst := opsCode_step qb bi ops i g hg
      rw [← hri] at hst
      have Ea := ext_al wr (.cells #[.int .i64 g.kind, .int .i64 g.k, .slice a1 n1 c1, .int .i64 g.q, .int .i64 g.bit, .slice a2 n2 c2] 46)
      have bO := opbx_new wr g.kind g.k a1 n1 c1 g.q g.bit a2 n2 c2
      have HCO := Lib.hid (checkOp_any g a1 n1 c1 a2 n2 c2 qb bi (wr.alloc (.cells #[.int .i64 g.kind, .int .i64 g.k, .slice a1 n1 c1, .int .i64 g.q, .int .i64 g.bit, .slice a2 n2 c2] 46)) (hL.ext Ea) (by omega) (by omega) (HS.out.ext (HER.out.trans Ea)))
      obtain ⟨oc, hoc⟩ : ∃ x, opCode g qb bi = x := ⟨_, rfl⟩
      rw [hoc] at HCO hst
      have Hst := Lib.hid hst
      obtain ⟨kd, kk', ctl, qq, bb, cnd⟩ := g
      simp only at e0 e1 e2 e3 e4 e5 HCO bO Ea
      have u0 := cell_ext v0 Ea; have u1 := cell_ext v1 Ea
      have p0 := bO.x0; have p1 := bO.x1; have p2 := bO.x2; have p3 := bO.x3; have p4 := bO.x4; have p5 := bO.x5
      have HEa := Lib.hid (HER.out.trans Ea)
      clear hst hoc hri hg hL bO Ea
      go_wp2_with fail
      generalize wr.alloc (.cells #[.int .i64 kd, .int .i64 kk', .slice a1 n1 c1, .int .i64 qq, .int .i64 bb, .slice a2 n2 c2] 46) = w5 at *
      refine HCO.out.mono ?_
      rintro e w6 ⟨rfl, hx6⟩
      have HE6 := Lib.hid (HEa.out.trans hx6)
      clear v0 v1 v2 u0 u1 p0 p1 p2 p3 p4 p5 e0 e1 e2 e3 e4 e5
      by_cases hc0 : oc = 0
      · have hcb := nf' hc0
        have hz : (r0, r1) = opsCode qb bi (i + 1) (ops.drop (i + 1)) := by rw [Hst.out, if_neg (by simp [hc0])]
        have HF := Lib.hid hz
        clear hz hc0 Hst
        go_wp2_with fail
        go_roundg (n - (i + 1))
        case measure => omega
        case rel => exact ⟨HE6.out, i + 1, by go_num, by omega, rfl, HF.out⟩
      · have hcb := nt hc0
        have hz : (r0, r1) = (oc, (i : Int)) := by rw [Hst.out, if_pos hc0]
        have HF0 : Hid (r0 = oc) := congrArg Prod.fst hz
        have HF1 : Hid (r1 = (i : Int)) := congrArg Prod.snd hz
        have bz := HFt.out.ext HE6.out; have x0' := bz.x0; have x1' := bz.x1; have g0' := bz.f 0; have g1' := bz.f 1
        have HEz := Lib.hid (HE0.out.trans HE6.out)
        clear hz hc0 Hst bz
        go_wp2_with fail
        exact bodyPost_ret (v := .agg #[.int .i64 oc, .int .i64 (i : Int)]) (by simp [results, Tryd.results32, go_sem, x0', x1']) rfl ⟨by rw [HF0.out, HF1.out], put2x HEz.out (by omega) _ _⟩

end Go.Proofs.YtlmfhopifggeaaaDoor
namespace Go.Proofs.YtlmfhopifggeaaaDoor
open Go.RowKit

/-- What a checked operation keeps to. -/
structure LvFit (o : Gop) : Prop where
  kd : 1 ≤ o.kind ∧ o.kind ≤ 6
  bit : 0 ≤ o.bit ∧ o.bit ≤ 12
  cnd : ∀ t ∈ o.cnd, -12 ≤ t ∧ t ≤ 12
  ctl : (o.ctl.length + 26) * 8 ≤ 140737488355328
  few : o.cnd.length ≤ 24
  pl : ∀ t ∈ plP o, 0 ≤ t ∧ t < 24

end Go.Proofs.YtlmfhopifggeaaaDoor
namespace Go.Proofs.YtlmfhopifggeaaaDoor
open Go.RowKit

set_option maxHeartbeats 4000000 in
set_option maxRecDepth 100000 in
theorem RCheck_any (c : Gci) (ao : Option Addr) (n cp : Nat) (w : World) (h : OpsAt w ao n c.ops) (_hn : n ≤ cp) (_hcp : cp ≤ 9223372036854775807) :
    Calls Tryd.prog 16 #[.agg #[.int .i64 c.qubits, .int .i64 c.bits, .slice ao n cp]] w fun e w' => e = .returned (.agg #[.int .i64 (chk c).1, .int .i64 (chk c).2]) ∧ Ext w w' := by
  obtain ⟨r, hr⟩ : ∃ r, chk c = r := ⟨_, rfl⟩
  rw [hr]
  obtain ⟨r0, r1⟩ := r
  unfold chk at hr
  obtain ⟨qb, bi, ops⟩ := c
  have E0 := (ext_al w (.cells #[.int .i64 qb, .int .i64 bi, .slice ao n cp] 34)).trans (ext_al _ (.cells #[.int .i64 0, .int .i64 0] 27))
  have bC : CiB ((w.alloc (.cells #[.int .i64 qb, .int .i64 bi, .slice ao n cp] 34)).alloc (.cells #[.int .i64 0, .int .i64 0] 27)) w.heap.size qb bi ao n cp := CiB.ext ⟨heap_alloc_new w _⟩ (ext_al _ _)
  have bF : FtB ((w.alloc (.cells #[.int .i64 qb, .int .i64 bi, .slice ao n cp] 34)).alloc (.cells #[.int .i64 0, .int .i64 0] 27)) (w.heap.size + 1) 0 0 := ⟨by
    have := heap_alloc_new (w.alloc (.cells #[.int .i64 qb, .int .i64 bi, .slice ao n cp] 34)) (.cells #[.int .i64 0, .int .i64 0] 27)
    simpa using this⟩
  have Hl := Lib.hid h.1
  simp only at hr Hl ⊢
  have HE0 := Lib.hid E0; have HO := Lib.hid (h.ext E0); have HC := Lib.hid bC; have HFt := Lib.hid bF
  have m0 := bC.x0; have m1 := bC.x1; have m2 := bC.x2
  have x0 := bF.x0; have x1 := bF.x1; have g0 := bF.f 0; have g1 := bF.f 1
  clear h E0 bC bF
  by_cases hq1 : qb < 1
  · have hz : (r0, r1) = ((6 : Int), (0 : Int)) := by rw [← hr, if_pos (Or.inl hq1)]
    have HF0 : Hid (r0 = 6) := congrArg Prod.fst hz
    have HF1 : Hid (r1 = 0) := congrArg Prod.snd hz
    clear hr hz
    go_enter Tryd.func16, Tryd.ntmps16
    go_wp2_with fail
    generalize (w.alloc (.cells #[.int .i64 qb, .int .i64 bi, .slice ao n cp] 34)).alloc (.cells #[.int .i64 0, .int .i64 0] 27) = W0 at *
    refine (rfault_any 6 0 _).mono ?_
    rintro e wz ⟨rfl, hxz⟩
    have bz := HFt.out.ext hxz; have x0' := bz.x0; have x1' := bz.x1; have g0' := bz.f 0; have g1' := bz.f 1; have HEz := Lib.hid (HE0.out.trans hxz)
    go_wp2_with fail
    exact bodyPost_ret (v := .agg #[.int .i64 6, .int .i64 0]) (by simp [results, Tryd.results16, go_sem, x0', x1']) rfl ⟨by rw [HF0.out, HF1.out], put2x HEz.out (by omega) _ _⟩
  have dq1 := df hq1
  by_cases hq2 : 12 < qb
  · have hz : (r0, r1) = ((6 : Int), (0 : Int)) := by rw [← hr, if_pos (Or.inr hq2)]
    have HF0 : Hid (r0 = 6) := congrArg Prod.fst hz
    have HF1 : Hid (r1 = 0) := congrArg Prod.snd hz
    clear hr hz
    go_enter Tryd.func16, Tryd.ntmps16
    go_wp2_with fail
    generalize (w.alloc (.cells #[.int .i64 qb, .int .i64 bi, .slice ao n cp] 34)).alloc (.cells #[.int .i64 0, .int .i64 0] 27) = W0 at *
    refine (rfault_any 6 0 _).mono ?_
    rintro e wz ⟨rfl, hxz⟩
    have bz := HFt.out.ext hxz; have x0' := bz.x0; have x1' := bz.x1; have g0' := bz.f 0; have g1' := bz.f 1; have HEz := Lib.hid (HE0.out.trans hxz)
    go_wp2_with fail
    exact bodyPost_ret (v := .agg #[.int .i64 6, .int .i64 0]) (by simp [results, Tryd.results16, go_sem, x0', x1']) rfl ⟨by rw [HF0.out, HF1.out], put2x HEz.out (by omega) _ _⟩
  have dq2 := df hq2
  rw [if_neg (by omega)] at hr
  by_cases hb1 : bi < 0
  · have hz : (r0, r1) = ((7 : Int), (0 : Int)) := by rw [← hr, if_pos (Or.inl hb1)]
    have HF0 : Hid (r0 = 7) := congrArg Prod.fst hz
    have HF1 : Hid (r1 = 0) := congrArg Prod.snd hz
    have d1 := dt hb1
    clear hr hz
    go_enter Tryd.func16, Tryd.ntmps16
    go_wp2_with fail
    generalize (w.alloc (.cells #[.int .i64 qb, .int .i64 bi, .slice ao n cp] 34)).alloc (.cells #[.int .i64 0, .int .i64 0] 27) = W0 at *
    refine (rfault_any 7 0 _).mono ?_
    rintro e wz ⟨rfl, hxz⟩
    have bz := HFt.out.ext hxz; have x0' := bz.x0; have x1' := bz.x1; have g0' := bz.f 0; have g1' := bz.f 1; have HEz := Lib.hid (HE0.out.trans hxz)
    go_wp2_with fail
    exact bodyPost_ret (v := .agg #[.int .i64 7, .int .i64 0]) (by simp [results, Tryd.results16, go_sem, x0', x1']) rfl ⟨by rw [HF0.out, HF1.out], put2x HEz.out (by omega) _ _⟩
  have d1 := df hb1
  by_cases hb2 : 12 < bi
  · have hz : (r0, r1) = ((7 : Int), (0 : Int)) := by rw [← hr, if_pos (Or.inr hb2)]
    have HF0 : Hid (r0 = 7) := congrArg Prod.fst hz
    have HF1 : Hid (r1 = 0) := congrArg Prod.snd hz
    have d2 := dt hb2
    clear hr hz
    go_enter Tryd.func16, Tryd.ntmps16
    go_wp2_with fail
    generalize (w.alloc (.cells #[.int .i64 qb, .int .i64 bi, .slice ao n cp] 34)).alloc (.cells #[.int .i64 0, .int .i64 0] 27) = W0 at *
    refine (rfault_any 7 0 _).mono ?_
    rintro e wz ⟨rfl, hxz⟩
    have bz := HFt.out.ext hxz; have x0' := bz.x0; have x1' := bz.x1; have g0' := bz.f 0; have g1' := bz.f 1; have HEz := Lib.hid (HE0.out.trans hxz)
    go_wp2_with fail
    exact bodyPost_ret (v := .agg #[.int .i64 7, .int .i64 0]) (by simp [results, Tryd.results16, go_sem, x0', x1']) rfl ⟨by rw [HF0.out, HF1.out], put2x HEz.out (by omega) _ _⟩
  have d2 := df hb2
  rw [if_neg (by omega), Hl.out] at hr
  by_cases hL : 4096 < n
  · have hz : (r0, r1) = ((2 : Int), (0 : Int)) := by rw [← hr, if_pos hL]
    have HF0 : Hid (r0 = 2) := congrArg Prod.fst hz
    have HF1 : Hid (r1 = 0) := congrArg Prod.snd hz
    have d3 : (4096 : Int) < (n : Int) := by omega
    clear hr hz
    go_enter Tryd.func16, Tryd.ntmps16
    go_wp2_with fail
    generalize (w.alloc (.cells #[.int .i64 qb, .int .i64 bi, .slice ao n cp] 34)).alloc (.cells #[.int .i64 0, .int .i64 0] 27) = W0 at *
    refine (rfault_any 2 0 _).mono ?_
    rintro e wz ⟨rfl, hxz⟩
    have bz := HFt.out.ext hxz; have x0' := bz.x0; have x1' := bz.x1; have g0' := bz.f 0; have g1' := bz.f 1; have HEz := Lib.hid (HE0.out.trans hxz)
    go_wp2_with fail
    exact bodyPost_ret (v := .agg #[.int .i64 2, .int .i64 0]) (by simp [results, Tryd.results16, go_sem, x0', x1']) rfl ⟨by rw [HF0.out, HF1.out], put2x HEz.out (by omega) _ _⟩
  have d3 : ¬ (4096 : Int) < (n : Int) := by omega
  rw [if_neg hL] at hr
  have Hr := Lib.hid hr
  clear hr
  have hab : n = 0 ∨ ∃ b o, ao = some ⟨b, o, none⟩ := by
    by_cases h0 : n = 0
    · exact Or.inl h0
    · exact Or.inr (HO.out.some_of (by omega))
  go_enter Tryd.func16, Tryd.ntmps16
  go_wp2_with fail
  generalize (w.alloc (.cells #[.int .i64 qb, .int .i64 bi, .slice ao n cp] 34)).alloc (.cells #[.int .i64 0, .int .i64 0] 27) = W0 at *
  go_loopg [3] n (fun kk s3 wr => Ext W0 wr ∧ ∃ i : Nat, s3 = .int .i64 (i : Int) ∧ i ≤ n ∧ n - i = kk ∧ (r0, r1) = opsCode qb bi i (ops.drop i))
  case atStart => exact ⟨Ext.refl _, 0, rfl, by omega, by omega, Hr.out.symm⟩
  case round =>
    obtain ⟨hER, i, rfl, hi, hk, hri⟩ := hrel
    have HER := Lib.hid hER
    have bC' := HC.out.ext hER
    have v0 := bC'.x0; have v1 := bC'.x1; have v2 := bC'.x2; have lC := bC'.lt
    clear m0 m1 m2 x0 x1 g0 g1 hER bC'
    by_cases hin : i = n
    · have h2 : ¬ (i : Int) < (n : Int) := by omega
      have hz : (r0, r1) = ((0 : Int), (0 : Int)) := by rw [hri]; exact opsCode_end qb bi ops i (by rw [Hl.out]; omega)
      have HF0 : Hid (r0 = 0) := congrArg Prod.fst hz
      have HF1 : Hid (r1 = 0) := congrArg Prod.snd hz
      have bz := HFt.out.ext HER.out; have x0' := bz.x0; have x1' := bz.x1; have g0' := bz.f 0; have g1' := bz.f 1
      have HEz := Lib.hid (HE0.out.trans HER.out)
      clear hz hri bz
      go_wp2_with fail
      exact bodyPost_ret (v := .agg #[.int .i64 0, .int .i64 0]) (by simp [results, Tryd.results16, go_sem, x0', x1']) rfl ⟨by rw [HF0.out, HF1.out], put2x HEz.out (by omega) _ _⟩
    · have h2 : (i : Int) < (n : Int) := by omega
      have h0 : (0 : Int) ≤ (i : Int) := by omega
      rcases hab with h | ⟨b, o, rfl⟩
      · omega
      obtain ⟨g, hg⟩ : ∃ g, ops[i]? = some g := ⟨_, List.getElem?_eq_getElem (by rw [Hl.out]; omega)⟩
      obtain ⟨a1, n1, c1, a2, n2, c2, e0, e1, e2, e3, e4, e5, hL⟩ := (HO.out.ext HER.out).at i g hg
      have lb := World.block_lt_of_cell? wr ⟨b, o + i * 6, none⟩ e0
      have hst := opsCode_step qb bi ops i g hg
      rw [← hri] at hst
      have HCO := Lib.hid (fun wx (hx : Ext wr wx) => badOp_any g a1 n1 c1 a2 n2 c2 qb bi wx (hL.ext hx) (by omega) (by omega) (by omega))
      obtain ⟨oc, hoc⟩ : ∃ x, opCode g qb bi = x := ⟨_, rfl⟩
      rw [hoc] at HCO hst
      have Hst := Lib.hid hst
      obtain ⟨kd, kk', ctl, qq, bb, cnd⟩ := g
      simp only at e0 e1 e2 e3 e4 e5 HCO
      clear hst hoc hri hg hL
      have hE0d : Ext wr wr.drew := Below.drew (Ext.refl _)
      go_wp2_with fail
      go_region_held3 (fun w' => w'.cell? ⟨w.heap.size, 0, none⟩ = some (.int .i64 qb) ∧ w'.cell? ⟨w.heap.size, 1, none⟩ = some (.int .i64 bi) ∧ w'.cell? ⟨w.heap.size, 2, none⟩ = some (.slice (some ⟨b, o, none⟩) n cp) ∧ w'.cell? ⟨b, o + i * 6, none⟩ = some (.int .i64 kd) ∧ w'.cell? ⟨b, o + i * 6 + 1, none⟩ = some (.int .i64 kk') ∧ w'.cell? ⟨b, o + i * 6 + 2, none⟩ = some (.slice a1 n1 c1) ∧ w'.cell? ⟨b, o + i * 6 + 3, none⟩ = some (.int .i64 qq) ∧ w'.cell? ⟨b, o + i * 6 + 4, none⟩ = some (.int .i64 bb) ∧ w'.cell? ⟨b, o + i * 6 + 5, none⟩ = some (.slice a2 n2 c2))
        (refine ⟨cell_ext (w := wr) v0 ?_, cell_ext (w := wr) v1 ?_, cell_ext (w := wr) v2 ?_, cell_ext (w := wr) e0 ?_, cell_ext (w := wr) e1 ?_, cell_ext (w := wr) e2 ?_, cell_ext (w := wr) e3 ?_, cell_ext (w := wr) e4 ?_, cell_ext (w := wr) e5 ?_⟩ <;> (repeat (first | assumption | refine Below.drew ?_)))
        (first | (go_at_call 37; refine (HCO.out _ (by assumption)).mono ?_; rintro e w6 ⟨rfl, hx6⟩; have he6 : Ext wr w6 := Ext.trans (by assumption) hx6))
      have HE6 := Lib.hid (HER.out.trans he6)
      clear v0 v1 v2 e0 e1 e2 e3 e4 e5 hE0d he6 hx6
      by_cases hc0 : oc = 0
      · have hcb := nf' hc0
        have hz : (r0, r1) = opsCode qb bi (i + 1) (ops.drop (i + 1)) := by rw [Hst.out, if_neg (by simp [hc0])]
        have HF := Lib.hid hz
        clear hz hc0 Hst
        go_wp2_with fail
        go_roundg (n - (i + 1))
        case measure => omega
        case rel => exact ⟨HE6.out, i + 1, by go_num, by omega, rfl, HF.out⟩
      · have hcb := nt hc0
        have hz : (r0, r1) = (oc, (i : Int)) := by rw [Hst.out, if_pos hc0]
        have HF0 : Hid (r0 = oc) := congrArg Prod.fst hz
        have HF1 : Hid (r1 = (i : Int)) := congrArg Prod.snd hz
        clear hz hc0 Hst
        go_wp2_with fail
        refine (rfault_any oc (i : Int) _).mono ?_
        rintro e wz ⟨rfl, hxz⟩
        have bz := HFt.out.ext (HE6.out.trans hxz); have x0' := bz.x0; have x1' := bz.x1; have g0' := bz.f 0; have g1' := bz.f 1
        have HEz := Lib.hid (HE0.out.trans (HE6.out.trans hxz))
        clear bz
        go_wp2_with fail
        exact bodyPost_ret (v := .agg #[.int .i64 oc, .int .i64 (i : Int)]) (by simp [results, Tryd.results16, go_sem, x0', x1']) rfl ⟨by rw [HF0.out, HF1.out], put2x HEz.out (by omega) _ _⟩

end Go.Proofs.YtlmfhopifggeaaaDoor
namespace Go.Proofs.YtlmfhopifggeaaaDoor
open Go.RowKit

theorem opsCode_zero (q b : Int) (ops : List Gop) : ∀ i, (opsCode q b i ops).1 = 0 → opsCode q b i ops = (0, 0) ∧ ∀ g ∈ ops, opCode g q b = 0 := by
  induction ops with
  | nil => exact fun _ _ => ⟨rfl, fun g hg => by cases hg⟩
  | cons o r ih =>
    intro i h
    rw [opsCode] at h ⊢
    by_cases ho : opCode o q b = 0
    · rw [if_neg (by simp [ho])] at h ⊢
      obtain ⟨e1, e2⟩ := ih (i + 1) h
      exact ⟨e1, fun g hg => by
        rcases List.mem_cons.1 hg with rfl | hg
        · exact ho
        · exact e2 g hg⟩
    · rw [if_pos ho] at h
      exact absurd h ho
theorem chk_zero {c : Gci} (h : (chk c).1 = 0) : chk c = (0, 0) ∧ 1 ≤ c.qubits ∧ c.qubits ≤ 12 ∧ 0 ≤ c.bits ∧ c.bits ≤ 12 ∧ c.ops.length ≤ 4096 ∧ ∀ g ∈ c.ops, opCode g c.qubits c.bits = 0 := by
  unfold chk at h ⊢
  by_cases h1 : c.qubits < 1 ∨ 12 < c.qubits
  · rw [if_pos h1] at h; exact absurd h (by decide)
  rw [if_neg h1] at h ⊢
  by_cases h2 : c.bits < 0 ∨ 12 < c.bits
  · rw [if_pos h2] at h; exact absurd h (by decide)
  rw [if_neg h2] at h ⊢
  by_cases h3 : 4096 < c.ops.length
  · rw [if_pos h3] at h; exact absurd h (by decide)
  rw [if_neg h3] at h ⊢
  obtain ⟨e1, e2⟩ := opsCode_zero _ _ _ _ h
  exact ⟨e1, by omega, by omega, by omega, by omega, by omega, e2⟩

end Go.Proofs.YtlmfhopifggeaaaDoor
namespace Go.Proofs.YtlmfhopifggeaaaDoor
open Go.RowKit

theorem pigeon : ∀ (k : Nat) (l : List Int), l.Nodup → (∀ c ∈ l, 0 ≤ c ∧ c < (k : Int)) → l.length ≤ k := by
  intro k
  induction k with
  | zero =>
    intro l _ h
    cases l with
    | nil => simp
    | cons a r => have := h a (by simp); omega
  | succ k ih =>
    intro l hn h
    by_cases hm : (k : Int) ∈ l
    · have h1 := ih (l.erase (k : Int)) (hn.erase _) (fun c hc => by
        have hc' := hn.mem_erase_iff.1 hc
        have := h c hc'.2
        have := hc'.1
        omega)
      have h2 := List.length_erase_of_mem hm
      omega
    · have := ih l hn (fun c hc => by
        have h3 := h c hc
        have : c ≠ (k : Int) := fun e => hm (e ▸ hc)
        omega)
      omega

theorem below_iff {n b : Int} : below n b = true ↔ 0 ≤ n ∧ n < b := by simp [below]
theorem ctlCode_zero (q n : Int) : ∀ (l s : List Int), ctlCode q n s l = 0 → (∀ c ∈ l, 0 ≤ c ∧ c < n) ∧ (s.Nodup → (s ++ l).Nodup) := by
  intro l
  induction l with
  | nil => intro s _; exact ⟨by simp, by simp⟩
  | cons c r ih =>
    intro s h
    rw [ctlCode] at h
    split at h
    · omega
    · rename_i hb
      split at h
      · omega
      · rename_i hc
        obtain ⟨h1, h2⟩ := ih _ h
        have hb' : below c n = true := by cases hx : below c n with
          | true => rfl
          | false => exact absurd hx hb
        refine ⟨?_, ?_⟩
        · intro x hx
          rcases List.mem_cons.1 hx with rfl | hx
          · exact below_iff.1 hb'
          · exact h1 x hx
        · intro hs
          have hcs : c ∉ s := fun e => hc (Or.inr e)
          have := h2 (by
            rw [List.nodup_append]
            refine ⟨hs, by simp, ?_⟩
            intro a ha b hb e
            simp at hb
            subst hb; subst e
            exact hcs ha)
          simpa using this

theorem fit_of_code {o : Gop} {n b : Int} (hn : n ≤ 12) (hb0 : 0 ≤ b) (hb : b ≤ 12) (h : opCode o n b = 0) : LvFit o ∧ placesFit o ∧ o.ctl.length ≤ 12 ∧ (∀ c ∈ o.ctl, 0 ≤ c ∧ c < n) := by
  unfold opCode at h
  split at h
  · omega
  rename_i hk
  split at h
  · omega
  split at h
  · omega
  rename_i hq
  split at h
  · omega
  split at h
  · exact absurd h (by assumption)
  rename_i hc
  split at h
  · omega
  rename_i hbit
  split at h
  · omega
  rename_i hcn
  have hc0 : ctlCode o.q n [] o.ctl = 0 := by
    by_cases e : ctlCode o.q n [] o.ctl = 0
    · exact e
    · exact absurd e hc
  obtain ⟨z1, z2⟩ := ctlCode_zero o.q n o.ctl [] hc0
  have z3 : o.ctl.Nodup := by simpa using z2 (by simp)
  have z4 := pigeon 12 o.ctl z3 (fun c hc => by have := z1 c hc; omega)
  have q1 : 0 ≤ o.q ∧ o.q < 12 := by
    unfold fitsB at hq
    split at hq
    · have : below o.q n = true := by simpa using hq
      have := below_iff.1 this; omega
    · have : o.q = 0 := by simpa using hq
      omega
  have b1 : 0 ≤ o.bit ∧ o.bit ≤ 12 ∧ (o.kind = 5 → o.bit < 12) := by
    unfold fitsB at hbit
    split at hbit
    · have : below o.bit b = true := by simpa using hbit
      have := below_iff.1 this; omega
    · have : o.bit = 0 := by simpa using hbit
      omega
  have c1 : o.cnd.length ≤ 24 ∧ ∀ t ∈ o.cnd, t ≠ 0 ∧ -12 ≤ t ∧ t ≤ 12 := by
    have : cndOk b o.cnd = true := by simpa using hcn
    unfold cndOk at this
    simp only [Bool.and_eq_true, decide_eq_true_eq, List.all_eq_true] at this
    refine ⟨this.1, fun t ht => ?_⟩
    have ht' := this.2 t ht
    unfold termOk at ht'
    simp at ht'
    omega
  refine ⟨⟨by omega, ⟨b1.1, b1.2.1⟩, fun t ht => (c1.2 t ht).2, by omega, c1.1, ?_⟩, ⟨fun t ht => by have := z1 t ht; omega, q1.2, b1.1, fun t ht => (c1.2 t ht).1⟩, z4, z1⟩
  intro t ht
  unfold plP at ht
  simp only [List.mem_append] at ht
  rcases ht with ((ht | ht) | ht) | ht
  · have := z1 t ht; omega
  · unfold tchQ at ht
    split at ht
    · simp at ht
    · simp at ht; omega
  · unfold tchB at ht
    split at ht
    · simp at ht; have := b1.2.2 (by assumption); omega
    · simp at ht
  · unfold tchC at ht
    simp only [List.mem_map] at ht
    obtain ⟨u, hu, rfl⟩ := ht
    have := c1.2 u hu
    unfold bitOf
    split <;> omega

end Go.Proofs.YtlmfhopifggeaaaDoor
namespace Go.Proofs.YtlmfhopifggeaaaDoor

theorem ctlCode_ne (q n : Int) : ∀ (l s : List Int), ctlCode q n s l = 0 → ∀ c ∈ l, c ≠ q
  | [], _, _ => fun c hc => by simp at hc
  | d :: r, s, h => by
    unfold ctlCode at h
    split at h
    · omega
    split at h
    · omega
    rename_i h1 h2
    intro c hc
    rcases List.mem_cons.1 hc with rfl | hc
    · exact fun e => h2 (Or.inl e)
    · exact ctlCode_ne q n r _ h c hc
/-- What a shot needs of an operation. -/
structure PlFit (o : Gop) (n b : Int) : Prop where
  kd : 1 ≤ o.kind ∧ o.kind ≤ 6
  q : 0 ≤ o.q ∧ o.q < n
  ctl : ∀ c ∈ o.ctl, 0 ≤ c ∧ c < n
  ne : ∀ c ∈ o.ctl, c ≠ o.q
  bit : o.kind = 5 → 0 ≤ o.bit ∧ o.bit < b
  cnd : ∀ t ∈ o.cnd, t ≠ 0 ∧ -b ≤ t ∧ t ≤ b
  few : o.cnd.length ≤ 24
theorem plFit_of_code {o : Gop} {n b : Int} (hn1 : 1 ≤ n) (hn : n ≤ 12) (hb0 : 0 ≤ b) (hb : b ≤ 12) (h : opCode o n b = 0) : PlFit o n b := by
  obtain ⟨f1, _, _, f4⟩ := fit_of_code hn hb0 hb h
  unfold opCode at h
  split at h
  · omega
  split at h
  · omega
  split at h
  · omega
  rename_i hq
  split at h
  · omega
  split at h
  · exact absurd h (by assumption)
  rename_i hc
  split at h
  · omega
  rename_i hbit
  split at h
  · omega
  rename_i hcn
  have hc0 : ctlCode o.q n [] o.ctl = 0 := by
    by_cases e : ctlCode o.q n [] o.ctl = 0
    · exact e
    · exact absurd e hc
  refine ⟨f1.kd, ?_, f4, ctlCode_ne o.q n o.ctl [] hc0, ?_, ?_, f1.few⟩
  · unfold fitsB at hq
    split at hq
    · have : below o.q n = true := by simpa using hq
      have := below_iff.1 this; omega
    · have : o.q = 0 := by simpa using hq
      omega
  · intro h5
    unfold fitsB at hbit
    split at hbit
    · have : below o.bit b = true := by simpa using hbit
      exact below_iff.1 this
    · rename_i hu
      exact absurd (show usesB o.kind = true by unfold usesB; simp [h5]) hu
  · intro t ht
    have : cndOk b o.cnd = true := by simpa using hcn
    unfold cndOk at this
    have h2 := (List.all_eq_true.1 (Bool.and_eq_true_iff.1 this).2) t ht
    unfold termOk at h2
    simp only [Bool.and_eq_true, Bool.not_eq_true', beq_eq_false_iff_ne, decide_eq_true_eq] at h2
    exact ⟨h2.1.1, h2.1.2, h2.2⟩
end Go.Proofs.YtlmfhopifggeaaaDoor
namespace Go.Proofs.YtlmfhopifggeaaaDoor
open Go.RowKit

/-- How many of the operations are such. -/
def cntP (p : Gop → Bool) (l : List Gop) : Int := ((l.filter p).length : Int)
theorem cntP_yes {p : Gop → Bool} {l : List Gop} {o : Gop} (h : p o = true) : cntP p (l ++ [o]) = cntP p l + 1 := by simp [cntP, List.filter_append, h]
theorem cntP_no {p : Gop → Bool} {l : List Gop} {o : Gop} (h : p o = false) : cntP p (l ++ [o]) = cntP p l := by simp [cntP, List.filter_append, h]
theorem cntP_bound (p : Gop → Bool) (l : List Gop) : 0 ≤ cntP p l ∧ cntP p l ≤ (l.length : Int) := by
  have := List.length_filter_le p l
  unfold cntP; omega
theorem cthen {w w1 : World} (he : Ext w w1) (o : Obj) : Ext w (w1.alloc o) := he.trans (ext_al _ _)
theorem cdrew {w W : World} (h : Ext w W) : Ext w W.drew := Below.drew h


end Go.Proofs.YtlmfhopifggeaaaDoor
namespace Go.Proofs.YtlmfhopifggeaaaDoor
variable {Qc : Nat → Prop}
open Go.RowKit

theorem str_append (a b : List UInt8) : (⟨a.toArray⟩ : ByteArray) ++ (⟨b.toArray⟩ : ByteArray) = ⟨(a ++ b).toArray⟩ := by
  apply ByteArray.ext
  simp [ByteArray.data_append]

theorem ISeg.blt {w : World} {b o : Nat} {l : List Nat} (h : ISeg w (some ⟨b, o, none⟩) l) : b < w.heap.size := by
  rcases h with ⟨h, _⟩ | ⟨b', o', h, hb, _⟩
  · cases h
  · simp only [Option.some.injEq, Addr.mk.injEq, and_true] at h
    obtain ⟨rfl, rfl⟩ := h
    exact hb.lt

theorem ztx_len {l : List Nat} (hd : ZD l) (k : Nat) : (ztx l k).length ≤ 4 * l.length + 1 := by
  unfold ztx
  split
  · simp
  · rw [Lib.decDigits_length]
    have h1 : zval (l.drop k) < 10000 ^ (l.drop k).length := zval_lt (fun x hx => hd x (List.mem_of_mem_drop hx))
    rw [List.length_drop] at h1
    have h2 : (10000 : Nat) ^ (l.length - k) ≤ 10 ^ (4 * l.length + 1) := by
      rw [show (10000 : Nat) = 10 ^ 4 by decide, ← Nat.pow_mul]
      exact Nat.pow_le_pow_right (by decide) (by omega)
    exact nDigits_le _ _ (by omega) (by omega)

theorem conv_tail (W : World) (G f m : Nat) (l : List UInt8) (hl : l.length = m) (h : ∀ j, (hj : j < l.length) → W.cell? ⟨G, f + j, none⟩ = some (.int .u8 (l[j].toNat : Int))) : (convert 126 9 (.slice (some ⟨G, f, none⟩) m m)).run Tryd.prog W = .ok (.string ⟨l.toArray⟩) W := by
  subst hl
  refine run_convert_bytes_back (P := Tryd.prog) W 126 9 5 ⟨G, f, none⟩ l.length l Tryd.underlying126 Tryd.underlying5 Tryd.underlying9 (fun j hj => ?_)
  rw [Lib.add_plain]
  exact h j hj

/-- Four bytes in memory, and what is converted of them. -/
theorem four_conv {W : World} {G B3 B2 B1 B0 : Nat} (k3 : W.cell? ⟨G, 0, none⟩ = some (.int .u8 B3)) (k2 : W.cell? ⟨G, 1, none⟩ = some (.int .u8 B2)) (k1 : W.cell? ⟨G, 2, none⟩ = some (.int .u8 B1)) (k0 : W.cell? ⟨G, 3, none⟩ = some (.int .u8 B0)) (hB : B3 < 256 ∧ B2 < 256 ∧ B1 < 256 ∧ B0 < 256) :
    (∀ t, t < 4 → W.cell? ⟨G, t, none⟩ = some (.int .u8 (([UInt8.ofNat B3, UInt8.ofNat B2, UInt8.ofNat B1, UInt8.ofNat B0].getD t 0).toNat : Int))) ∧
    ∀ f, f ≤ 3 → (convert 126 9 (.slice (some ⟨G, f, none⟩) (4 - f) (4 - f))).run Tryd.prog W = .ok (.string ⟨([UInt8.ofNat B3, UInt8.ofNat B2, UInt8.ofNat B1, UInt8.ofNat B0].drop f).toArray⟩) W := by
  have e : ∀ B : Nat, B < 256 → ((UInt8.ofNat B).toNat : Int) = (B : Int) := by
    intro B h
    have : (UInt8.ofNat B).toNat = B := by rw [UInt8.toNat_ofNat']; omega
    rw [this]
  have hc : ∀ t, t < 4 → W.cell? ⟨G, t, none⟩ = some (.int .u8 (([UInt8.ofNat B3, UInt8.ofNat B2, UInt8.ofNat B1, UInt8.ofNat B0].getD t 0).toNat : Int)) := by
    intro t ht
    match t, ht with
    | 0, _ => rw [k3]; show _ = some (Value.int .u8 ((UInt8.ofNat B3).toNat : Int)); rw [e _ hB.1]
    | 1, _ => rw [k2]; show _ = some (Value.int .u8 ((UInt8.ofNat B2).toNat : Int)); rw [e _ hB.2.1]
    | 2, _ => rw [k1]; show _ = some (Value.int .u8 ((UInt8.ofNat B1).toNat : Int)); rw [e _ hB.2.2.1]
    | 3, _ => rw [k0]; show _ = some (Value.int .u8 ((UInt8.ofNat B0).toNat : Int)); rw [e _ hB.2.2.2]
    | k + 4, h => omega
  refine ⟨hc, fun f hf => ?_⟩
  refine conv_tail W G f (4 - f) _ (by rw [List.length_drop]; rfl) (fun j hj => ?_)
  rw [List.length_drop] at hj
  have h4 : [UInt8.ofNat B3, UInt8.ofNat B2, UInt8.ofNat B1, UInt8.ofNat B0].length = 4 := rfl
  rw [hc (f + j) (by omega)]
  rw [List.getElem_drop, List.getD_eq_getElem?_getD, List.getElem?_eq_getElem (by omega)]
  rfl

theorem four_cells (w : World) (u0 u1 u2 u3 : Value) (e : TypeId) : (w.alloc (.cells #[u0, u1, u2, u3] e)).cell? ⟨w.heap.size, 0, none⟩ = some u0 ∧ (w.alloc (.cells #[u0, u1, u2, u3] e)).cell? ⟨w.heap.size, 1, none⟩ = some u1 ∧ (w.alloc (.cells #[u0, u1, u2, u3] e)).cell? ⟨w.heap.size, 2, none⟩ = some u2 ∧ (w.alloc (.cells #[u0, u1, u2, u3] e)).cell? ⟨w.heap.size, 3, none⟩ = some u3 := by
  refine ⟨?_, ?_, ?_, ?_⟩ <;> (rw [World.cell?_alloc_new]; rfl)

set_option maxHeartbeats 2000000 in
set_option maxRecDepth 100000 in
theorem ZText_any (neg : Bool) (ao : Option Addr) (n c : Nat) (z : Int) (w : World) (h : IsZ Qc w neg ao n c z) (hn : n ≤ 1000000) :
    Calls Tryd.prog 65 #[.agg #[.bool neg, .slice ao n c]] w fun e w' => e = .returned (.string ⟨(Lib.itoa z).toArray⟩) ∧ Ext w w' := by
  obtain ⟨l, h1, h2, h3, h4, h5, h6, h7, h8⟩ := h
  have hE := ext_alloc w (.cells #[.bool neg, .slice ao n c] 56)
  have bA := zbx_new w neg ao n c
  have x0 := bA.c0; have x1 := bA.c1
  by_cases h0 : n = 0
  · have hl : l = [] := List.eq_nil_of_length_eq_zero (by omega)
    have hz : z = 0 := by rw [h7, hl]; simp [zval]
    have Ht : Hid (Lib.itoa z = [48]) := by show _ = _; rw [hz]; unfold Lib.itoa; rw [if_neg (by omega), Lib.decDigits]; simp
    subst h0
    clear h7 h1 h2 h3 h4 h5 h6 h8 hl hz x0
    go_enter Tryd.func65, Tryd.ntmps65
    go_wp2_with fail
    go_ret
    exact ⟨by rw [Ht.out]; rfl, hE⟩
  · have hl : l ≠ [] := by intro e; subst e; simp at h1; omega
    have hb : ((n : Int) == 0) = false := by rw [beq_eq_false_iff_ne]; omega
    obtain ⟨b, o, rfl⟩ := h4.some_of (by omega)
    have Hz : Hid (Lib.itoa z = (if neg then [45] else []) ++ ztx l 0) := by
      show _ = _
      rw [ztx_all hl, h7]
      have hv : 0 < zval l := by
        apply Nat.pos_of_ne_zero
        intro e; exact hl ((zval_zero h6).1 e)
      unfold Lib.itoa
      cases neg
      · rw [if_neg (by simp)]; simp
      · rw [if_pos (by simp; omega)]; simp
    obtain ⟨sg, hsg⟩ : ∃ sg : List UInt8, (if neg then [45] else []) = sg := ⟨_, rfl⟩
    rw [hsg] at Hz
    have H1 := Lib.hid h1; have H4 := Lib.hid h4; have H5 := Lib.hid h5; have H6 := Lib.hid h6; have Hl := Lib.hid hl
    clear h1 h4 h5 h6 h7 h8 h2 h3 hl
    cases neg
    · have Hsg := Lib.hid hsg
      clear hsg
      go_enter Tryd.func65, Tryd.ntmps65
      go_wp2_with fail
      generalize w.alloc (.cells #[.bool false, .slice (some ⟨b, o, none⟩) n c] 56) = W0 at *
      go_loopw [3, 4] (fun tv iv wr => ∃ k : Nat, k ≤ n ∧ iv = .int .i64 ((k : Int) - 1) ∧ tv = .string ⟨(sg ++ ztx l k).toArray⟩ ∧ Ext W0 wr) (fun _ iv _ => (intOf iv + 1).toNat)
      case atStart => exact ⟨n, Nat.le_refl _, by go_num, by have := ztx_end l; rw [H1.out] at this; rw [this, ← Hsg.out]; rfl, Ext.refl _⟩
      case round =>
        obtain ⟨k, hk, rfl, rfl, hEr⟩ := hrel
        have HEr := Lib.hid hEr
        have d1 := zKeep hEr bA.lt x1
        clear hEr
        obtain ⟨tl, htl⟩ : ∃ tl, sg ++ ztx l k = tl := ⟨_, rfl⟩
        rw [htl]
        have htl8 : tl.length ≤ 4000010 := by
          have h1 := ztx_len H5.out k
          have h2 : sg.length ≤ 1 := by rw [← Hsg.out]; decide
          rw [H1.out] at h1
          rw [← htl, List.length_append]; omega
        have Htl := Lib.hid htl
        clear htl
        by_cases hk0 : k = 0
        · subst hk0
          go_wp2_with fail
          go_ret
          exact ⟨by rw [Hz.out, Htl.out]; rfl, hE.trans HEr.out⟩
        · obtain ⟨j, rfl⟩ : ∃ j, k = j + 1 := ⟨k - 1, by omega⟩
          have ec : (((j + 1 : Nat) : Int) - 1) = (j : Int) := by omega
          have ij : (j : Int) < (n : Int) := by omega
          rw [ec]
          have hcl := (H4.out.ext (hE.trans HEr.out)).at j (by rw [H1.out]; omega)
          obtain ⟨x, hx⟩ : ∃ x, l.getD j 0 = x := ⟨_, rfl⟩
          have hx4 : x < 10000 := by rw [← hx]; exact H5.out.get j
          rw [hx] at hcl
          have Hx := Lib.hid hx
          obtain ⟨q3, g3⟩ : ∃ q, x / 1000 = q := ⟨_, rfl⟩
          obtain ⟨q2, g2⟩ : ∃ q, x / 100 = q := ⟨_, rfl⟩
          obtain ⟨r2, e2⟩ : ∃ q, q2 % 10 = q := ⟨_, rfl⟩
          obtain ⟨q1, g1⟩ : ∃ q, x / 10 = q := ⟨_, rfl⟩
          obtain ⟨r1, e1⟩ : ∃ q, q1 % 10 = q := ⟨_, rfl⟩
          obtain ⟨r0, e0⟩ : ∃ q, x % 10 = q := ⟨_, rfl⟩
          have t3 : (x : Int).tdiv 1000 = (q3 : Int) := by rw [Int.tdiv_eq_ediv_of_nonneg (by omega)]; omega
          have t2 : (x : Int).tdiv 100 = (q2 : Int) := by rw [Int.tdiv_eq_ediv_of_nonneg (by omega)]; omega
          have t1 : (x : Int).tdiv 10 = (q1 : Int) := by rw [Int.tdiv_eq_ediv_of_nonneg (by omega)]; omega
          have m2 : (q2 : Int).tmod 10 = (r2 : Int) := by rw [Int.tmod_eq_emod_of_nonneg (by omega)]; omega
          have m1 : (q1 : Int).tmod 10 = (r1 : Int) := by rw [Int.tmod_eq_emod_of_nonneg (by omega)]; omega
          have m0 : (x : Int).tmod 10 = (r0 : Int) := by rw [Int.tmod_eq_emod_of_nonneg (by omega)]; omega
          have b3 : q3 ≤ 9 := by omega
          have b2 : r2 ≤ 9 := by omega
          have b1 : r1 ≤ 9 := by omega
          have b0 : r0 ≤ 9 := by omega
          obtain ⟨B3, hB3⟩ : ∃ B, 48 + q3 = B := ⟨_, rfl⟩
          obtain ⟨B2, hB2⟩ : ∃ B, 48 + r2 = B := ⟨_, rfl⟩
          obtain ⟨B1, hB1⟩ : ∃ B, 48 + r1 = B := ⟨_, rfl⟩
          obtain ⟨B0, hB0⟩ : ∃ B, 48 + r0 = B := ⟨_, rfl⟩
          have v3 : IntKind.i64.wrap (q3 : Int) = (q3 : Int) := by rw [IntKind.wrap_i64]; omega
          have v2 : IntKind.i64.wrap (q2 : Int) = (q2 : Int) := by rw [IntKind.wrap_i64]; omega
          have v1 : IntKind.i64.wrap (q1 : Int) = (q1 : Int) := by rw [IntKind.wrap_i64]; omega
          have s3 : IntKind.i64.wrap (48 + (q3 : Int)) = (B3 : Int) := by rw [IntKind.wrap_i64]; omega
          have s2 : IntKind.i64.wrap (48 + (r2 : Int)) = (B2 : Int) := by rw [IntKind.wrap_i64]; omega
          have s1 : IntKind.i64.wrap (48 + (r1 : Int)) = (B1 : Int) := by rw [IntKind.wrap_i64]; omega
          have s0 : IntKind.i64.wrap (48 + (r0 : Int)) = (B0 : Int) := by rw [IntKind.wrap_i64]; omega
          have y3 : IntKind.u8.wrap (B3 : Int) = (B3 : Int) := by rw [IntKind.wrap_u8]; omega
          have y2 : IntKind.u8.wrap (B2 : Int) = (B2 : Int) := by rw [IntKind.wrap_u8]; omega
          have y1 : IntKind.u8.wrap (B1 : Int) = (B1 : Int) := by rw [IntKind.wrap_u8]; omega
          have y0 : IntKind.u8.wrap (B0 : Int) = (B0 : Int) := by rw [IntKind.wrap_u8]; omega
          have Hpad : Hid (padD 4 x = [UInt8.ofNat B3, UInt8.ofNat B2, UInt8.ofNat B1, UInt8.ofNat B0]) := by
            show _ = _
            rw [padD_four x hx4, g3, g2, e2, g1, e1, e0, hB3, hB2, hB1, hB0]
          have z3 : B3 < 256 := by omega
          have z2 : B2 < 256 := by omega
          have z1 : B1 < 256 := by omega
          have z0 : B0 < 256 := by omega
          have HB := Lib.hid (And.intro z3 (And.intro z2 (And.intro z1 z0)))
          clear hx g3 g2 e2 g1 e1 e0 hk0 hB3 hB2 hB1 hB0 z3 z2 z1 z0
          have hrd : Ext wr wr.drew := Below.drew (Ext.refl _)
          have lB := Nat.lt_of_lt_of_le bA.lt HEr.out.size
          have lb := (H4.out.ext (hE.trans HEr.out)).blt
          go_wp2_with fail
          go_region_held3 (fun w' => w'.cell? ⟨w.heap.size, 1, none⟩ = some (.slice (some ⟨b, o, none⟩) n c) ∧ w'.cell? ⟨b, o + j, none⟩ = some (.int .i64 (x : Nat)))
            (first | exact ⟨zKeep (W := wr) (by assumption) lB d1, zKeep (W := wr) (by assumption) lb hcl⟩ | exact ⟨zKeep (W := wr) (hrd.trans (ext_alloc _ _)) lB d1, zKeep (W := wr) (hrd.trans (ext_alloc _ _)) lb hcl⟩)
            (first | fail)
          have hx2 : Ext wr (wr.alloc (.cells #[.int .u8 B3, .int .u8 B2, .int .u8 B1, .int .u8 B0] 5)).drew := Below.drew (ext_alloc wr _)
          have d5 := zKeep hx2 lB d1
          have HE2 := Lib.hid (HEr.out.trans hx2)
          obtain ⟨k3, k2, k1, k0⟩ := four_cells wr (.int .u8 B3) (.int .u8 B2) (.int .u8 B1) (.int .u8 B0) 5
          have hdd : Ext (wr.alloc (.cells #[.int .u8 B3, .int .u8 B2, .int .u8 B1, .int .u8 B0] 5)) (wr.alloc (.cells #[.int .u8 B3, .int .u8 B2, .int .u8 B1, .int .u8 B0] 5)).drew := Below.drew (Ext.refl _)
          have lG : wr.heap.size < (wr.alloc (.cells #[.int .u8 B3, .int .u8 B2, .int .u8 B1, .int .u8 B0] 5)).heap.size := by simp
          have k3 := zKeep hdd lG k3
          have k2 := zKeep hdd lG k2
          have k1 := zKeep hdd lG k1
          have k0 := zKeep hdd lG k0
          clear d1 hcl hrd lB lb hdd lG hx2 t3 t2 t1 m2 m1 m0 b3 b2 b1 b0 v3 v2 v1 s3 s2 s1 s0 y3 y2 y1 y0
          go_wp2_with fail
          generalize (wr.alloc (.cells #[.int .u8 B3, .int .u8 B2, .int .u8 B1, .int .u8 B0] 5)).drew = W2 at *
          generalize wr.heap.size = G at *
          obtain ⟨hcell, hconv⟩ := four_conv k3 k2 k1 k0 HB.out
          have Hcell := Lib.hid hcell; have Hconv := Lib.hid hconv
          clear hcell hconv k3 k2 k1 k0 HB
          obtain ⟨bl, hbl⟩ : ∃ bl, [UInt8.ofNat B3, UInt8.ofNat B2, UInt8.ofNat B1, UInt8.ofNat B0] = bl := ⟨_, rfl⟩
          have hbl4 : bl.length ≤ 4 := by rw [← hbl]; exact Nat.le_refl _
          rw [hbl] at Hcell Hconv Hpad
          clear hbl
          by_cases hfirst : j + 1 = n
          · have hx0 : 0 < x := by
              have h6 := H6.out.resolve_left Hl.out
              rw [H1.out, ← hfirst, Nat.add_sub_cancel, Hx.out] at h6
              omega
            obtain ⟨f, hf3, hall, hne, hdec⟩ := dec_first x hx4 hx0
            rw [Hpad.out] at hall hne hdec
            have Hall := Lib.hid hall; have Hne := Lib.hid hne
            have Hfin : Hid (tl ++ bl.drop f = sg ++ ztx l j) := by
              show _ = _
              rw [ztx_first (by rw [H1.out]; exact hfirst.symm) Hx.out, hdec, ← Htl.out, hfirst]
              have := ztx_end l
              rw [H1.out] at this
              rw [this, List.append_nil]
            have ej : ((j : Int) == (n : Int) - 1) = true := by rw [beq_iff_eq]; omega
            clear hall hne hdec hfirst hx0 Htl
            go_loop [6] (fun v => ∃ k : Nat, k ≤ f ∧ v = .int .i64 k) (fun v => f - (intOf v).toNat)
            case atStart => exact ⟨0, Nat.zero_le _, rfl⟩
            case round =>
              obtain ⟨k, hk, rfl⟩ := hrel
              by_cases hkf : k < f
              · have hc : W2.cell? ⟨G, k, none⟩ = some (.int .u8 48) := by
                  rw [Hcell.out k (by omega), Hall.out k hkf]; rfl
                have ik : (k : Int) < 3 := by omega
                go_wp2_with fail
                go_round
                case rel => exact ⟨k + 1, by omega, by go_num⟩
                case measure => simp [intOf]; omega
              · obtain rfl : k = f := by omega
                have hcv := Hconv.out k hf3
                by_cases hk3 : k = 3
                · subst hk3
                  go_wp2_with fail
                  go_roundw
                  case rel => exact ⟨j, by omega, by go_num, by rw [str_append, Hfin.out], HE2.out⟩
                  case measure => simp [intOf]
                · have ik : (k : Int) < 3 := by omega
                  obtain ⟨q, hq, hc⟩ : ∃ q : Nat, ((q : Int) == 48) = false ∧ W2.cell? ⟨G, k, none⟩ = some (.int .u8 (q : Nat)) := by
                    refine ⟨(bl.getD k 0).toNat, ?_, Hcell.out k (by omega)⟩
                    rw [beq_eq_false_iff_ne]
                    intro hc
                    exact Hne.out (UInt8.toNat_inj.1 (by have : (48 : UInt8).toNat = 48 := rfl; rw [this]; omega))
                  go_wp2_with fail
                  go_roundw
                  case rel => exact ⟨j, by omega, by go_num, by rw [str_append, Hfin.out], HE2.out⟩
                  case measure => simp [intOf]
          · have ej : ((j : Int) == (n : Int) - 1) = false := by rw [beq_eq_false_iff_ne]; omega
            have Hfin : Hid (tl ++ bl = sg ++ ztx l j) := by
              show _ = _
              rw [ztx_next H6.out (by rw [H1.out]; omega) Hx.out hx4, Hpad.out, ← Htl.out, List.append_assoc]
            have hcv := Hconv.out 0 (by omega)
            rw [List.drop_zero] at hcv
            clear hfirst Htl
            go_loop [6] (fun v => v = .int .i64 0) (fun v => 0)
            case atStart => rfl
            case round =>
              subst hrel
              go_wp2_with fail
              go_roundw
              case rel => exact ⟨j, by omega, by go_num, by rw [str_append, Hfin.out], HE2.out⟩
              case measure => simp [intOf]
    · have Hsg := Lib.hid hsg
      clear hsg
      go_enter Tryd.func65, Tryd.ntmps65
      go_wp2_with fail
      generalize w.alloc (.cells #[.bool true, .slice (some ⟨b, o, none⟩) n c] 56) = W0 at *
      go_loopw [3, 4] (fun tv iv wr => ∃ k : Nat, k ≤ n ∧ iv = .int .i64 ((k : Int) - 1) ∧ tv = .string ⟨(sg ++ ztx l k).toArray⟩ ∧ Ext W0 wr) (fun _ iv _ => (intOf iv + 1).toNat)
      case atStart => exact ⟨n, Nat.le_refl _, by go_num, by have := ztx_end l; rw [H1.out] at this; rw [this, ← Hsg.out]; rfl, Ext.refl _⟩
      case round =>
        obtain ⟨k, hk, rfl, rfl, hEr⟩ := hrel
        have HEr := Lib.hid hEr
        have d1 := zKeep hEr bA.lt x1
        clear hEr
        obtain ⟨tl, htl⟩ : ∃ tl, sg ++ ztx l k = tl := ⟨_, rfl⟩
        rw [htl]
        have htl8 : tl.length ≤ 4000010 := by
          have h1 := ztx_len H5.out k
          have h2 : sg.length ≤ 1 := by rw [← Hsg.out]; decide
          rw [H1.out] at h1
          rw [← htl, List.length_append]; omega
        have Htl := Lib.hid htl
        clear htl
        by_cases hk0 : k = 0
        · subst hk0
          go_wp2_with fail
          go_ret
          exact ⟨by rw [Hz.out, Htl.out]; rfl, hE.trans HEr.out⟩
        · obtain ⟨j, rfl⟩ : ∃ j, k = j + 1 := ⟨k - 1, by omega⟩
          have ec : (((j + 1 : Nat) : Int) - 1) = (j : Int) := by omega
          have ij : (j : Int) < (n : Int) := by omega
          rw [ec]
          have hcl := (H4.out.ext (hE.trans HEr.out)).at j (by rw [H1.out]; omega)
          obtain ⟨x, hx⟩ : ∃ x, l.getD j 0 = x := ⟨_, rfl⟩
          have hx4 : x < 10000 := by rw [← hx]; exact H5.out.get j
          rw [hx] at hcl
          have Hx := Lib.hid hx
          obtain ⟨q3, g3⟩ : ∃ q, x / 1000 = q := ⟨_, rfl⟩
          obtain ⟨q2, g2⟩ : ∃ q, x / 100 = q := ⟨_, rfl⟩
          obtain ⟨r2, e2⟩ : ∃ q, q2 % 10 = q := ⟨_, rfl⟩
          obtain ⟨q1, g1⟩ : ∃ q, x / 10 = q := ⟨_, rfl⟩
          obtain ⟨r1, e1⟩ : ∃ q, q1 % 10 = q := ⟨_, rfl⟩
          obtain ⟨r0, e0⟩ : ∃ q, x % 10 = q := ⟨_, rfl⟩
          have t3 : (x : Int).tdiv 1000 = (q3 : Int) := by rw [Int.tdiv_eq_ediv_of_nonneg (by omega)]; omega
          have t2 : (x : Int).tdiv 100 = (q2 : Int) := by rw [Int.tdiv_eq_ediv_of_nonneg (by omega)]; omega
          have t1 : (x : Int).tdiv 10 = (q1 : Int) := by rw [Int.tdiv_eq_ediv_of_nonneg (by omega)]; omega
          have m2 : (q2 : Int).tmod 10 = (r2 : Int) := by rw [Int.tmod_eq_emod_of_nonneg (by omega)]; omega
          have m1 : (q1 : Int).tmod 10 = (r1 : Int) := by rw [Int.tmod_eq_emod_of_nonneg (by omega)]; omega
          have m0 : (x : Int).tmod 10 = (r0 : Int) := by rw [Int.tmod_eq_emod_of_nonneg (by omega)]; omega
          have b3 : q3 ≤ 9 := by omega
          have b2 : r2 ≤ 9 := by omega
          have b1 : r1 ≤ 9 := by omega
          have b0 : r0 ≤ 9 := by omega
          obtain ⟨B3, hB3⟩ : ∃ B, 48 + q3 = B := ⟨_, rfl⟩
          obtain ⟨B2, hB2⟩ : ∃ B, 48 + r2 = B := ⟨_, rfl⟩
          obtain ⟨B1, hB1⟩ : ∃ B, 48 + r1 = B := ⟨_, rfl⟩
          obtain ⟨B0, hB0⟩ : ∃ B, 48 + r0 = B := ⟨_, rfl⟩
          have v3 : IntKind.i64.wrap (q3 : Int) = (q3 : Int) := by rw [IntKind.wrap_i64]; omega
          have v2 : IntKind.i64.wrap (q2 : Int) = (q2 : Int) := by rw [IntKind.wrap_i64]; omega
          have v1 : IntKind.i64.wrap (q1 : Int) = (q1 : Int) := by rw [IntKind.wrap_i64]; omega
          have s3 : IntKind.i64.wrap (48 + (q3 : Int)) = (B3 : Int) := by rw [IntKind.wrap_i64]; omega
          have s2 : IntKind.i64.wrap (48 + (r2 : Int)) = (B2 : Int) := by rw [IntKind.wrap_i64]; omega
          have s1 : IntKind.i64.wrap (48 + (r1 : Int)) = (B1 : Int) := by rw [IntKind.wrap_i64]; omega
          have s0 : IntKind.i64.wrap (48 + (r0 : Int)) = (B0 : Int) := by rw [IntKind.wrap_i64]; omega
          have y3 : IntKind.u8.wrap (B3 : Int) = (B3 : Int) := by rw [IntKind.wrap_u8]; omega
          have y2 : IntKind.u8.wrap (B2 : Int) = (B2 : Int) := by rw [IntKind.wrap_u8]; omega
          have y1 : IntKind.u8.wrap (B1 : Int) = (B1 : Int) := by rw [IntKind.wrap_u8]; omega
          have y0 : IntKind.u8.wrap (B0 : Int) = (B0 : Int) := by rw [IntKind.wrap_u8]; omega
          have Hpad : Hid (padD 4 x = [UInt8.ofNat B3, UInt8.ofNat B2, UInt8.ofNat B1, UInt8.ofNat B0]) := by
            show _ = _
            rw [padD_four x hx4, g3, g2, e2, g1, e1, e0, hB3, hB2, hB1, hB0]
          have z3 : B3 < 256 := by omega
          have z2 : B2 < 256 := by omega
          have z1 : B1 < 256 := by omega
          have z0 : B0 < 256 := by omega
          have HB := Lib.hid (And.intro z3 (And.intro z2 (And.intro z1 z0)))
          clear hx g3 g2 e2 g1 e1 e0 hk0 hB3 hB2 hB1 hB0 z3 z2 z1 z0
          have hrd : Ext wr wr.drew := Below.drew (Ext.refl _)
          have lB := Nat.lt_of_lt_of_le bA.lt HEr.out.size
          have lb := (H4.out.ext (hE.trans HEr.out)).blt
          go_wp2_with fail
          go_region_held3 (fun w' => w'.cell? ⟨w.heap.size, 1, none⟩ = some (.slice (some ⟨b, o, none⟩) n c) ∧ w'.cell? ⟨b, o + j, none⟩ = some (.int .i64 (x : Nat)))
            (first | exact ⟨zKeep (W := wr) (by assumption) lB d1, zKeep (W := wr) (by assumption) lb hcl⟩ | exact ⟨zKeep (W := wr) (hrd.trans (ext_alloc _ _)) lB d1, zKeep (W := wr) (hrd.trans (ext_alloc _ _)) lb hcl⟩)
            (first | fail)
          have hx2 : Ext wr (wr.alloc (.cells #[.int .u8 B3, .int .u8 B2, .int .u8 B1, .int .u8 B0] 5)).drew := Below.drew (ext_alloc wr _)
          have d5 := zKeep hx2 lB d1
          have HE2 := Lib.hid (HEr.out.trans hx2)
          obtain ⟨k3, k2, k1, k0⟩ := four_cells wr (.int .u8 B3) (.int .u8 B2) (.int .u8 B1) (.int .u8 B0) 5
          have hdd : Ext (wr.alloc (.cells #[.int .u8 B3, .int .u8 B2, .int .u8 B1, .int .u8 B0] 5)) (wr.alloc (.cells #[.int .u8 B3, .int .u8 B2, .int .u8 B1, .int .u8 B0] 5)).drew := Below.drew (Ext.refl _)
          have lG : wr.heap.size < (wr.alloc (.cells #[.int .u8 B3, .int .u8 B2, .int .u8 B1, .int .u8 B0] 5)).heap.size := by simp
          have k3 := zKeep hdd lG k3
          have k2 := zKeep hdd lG k2
          have k1 := zKeep hdd lG k1
          have k0 := zKeep hdd lG k0
          clear d1 hcl hrd lB lb hdd lG hx2 t3 t2 t1 m2 m1 m0 b3 b2 b1 b0 v3 v2 v1 s3 s2 s1 s0 y3 y2 y1 y0
          go_wp2_with fail
          generalize (wr.alloc (.cells #[.int .u8 B3, .int .u8 B2, .int .u8 B1, .int .u8 B0] 5)).drew = W2 at *
          generalize wr.heap.size = G at *
          obtain ⟨hcell, hconv⟩ := four_conv k3 k2 k1 k0 HB.out
          have Hcell := Lib.hid hcell; have Hconv := Lib.hid hconv
          clear hcell hconv k3 k2 k1 k0 HB
          obtain ⟨bl, hbl⟩ : ∃ bl, [UInt8.ofNat B3, UInt8.ofNat B2, UInt8.ofNat B1, UInt8.ofNat B0] = bl := ⟨_, rfl⟩
          have hbl4 : bl.length ≤ 4 := by rw [← hbl]; exact Nat.le_refl _
          rw [hbl] at Hcell Hconv Hpad
          clear hbl
          by_cases hfirst : j + 1 = n
          · have hx0 : 0 < x := by
              have h6 := H6.out.resolve_left Hl.out
              rw [H1.out, ← hfirst, Nat.add_sub_cancel, Hx.out] at h6
              omega
            obtain ⟨f, hf3, hall, hne, hdec⟩ := dec_first x hx4 hx0
            rw [Hpad.out] at hall hne hdec
            have Hall := Lib.hid hall; have Hne := Lib.hid hne
            have Hfin : Hid (tl ++ bl.drop f = sg ++ ztx l j) := by
              show _ = _
              rw [ztx_first (by rw [H1.out]; exact hfirst.symm) Hx.out, hdec, ← Htl.out, hfirst]
              have := ztx_end l
              rw [H1.out] at this
              rw [this, List.append_nil]
            have ej : ((j : Int) == (n : Int) - 1) = true := by rw [beq_iff_eq]; omega
            clear hall hne hdec hfirst hx0 Htl
            go_loop [6] (fun v => ∃ k : Nat, k ≤ f ∧ v = .int .i64 k) (fun v => f - (intOf v).toNat)
            case atStart => exact ⟨0, Nat.zero_le _, rfl⟩
            case round =>
              obtain ⟨k, hk, rfl⟩ := hrel
              by_cases hkf : k < f
              · have hc : W2.cell? ⟨G, k, none⟩ = some (.int .u8 48) := by
                  rw [Hcell.out k (by omega), Hall.out k hkf]; rfl
                have ik : (k : Int) < 3 := by omega
                go_wp2_with fail
                go_round
                case rel => exact ⟨k + 1, by omega, by go_num⟩
                case measure => simp [intOf]; omega
              · obtain rfl : k = f := by omega
                have hcv := Hconv.out k hf3
                by_cases hk3 : k = 3
                · subst hk3
                  go_wp2_with fail
                  go_roundw
                  case rel => exact ⟨j, by omega, by go_num, by rw [str_append, Hfin.out], HE2.out⟩
                  case measure => simp [intOf]
                · have ik : (k : Int) < 3 := by omega
                  obtain ⟨q, hq, hc⟩ : ∃ q : Nat, ((q : Int) == 48) = false ∧ W2.cell? ⟨G, k, none⟩ = some (.int .u8 (q : Nat)) := by
                    refine ⟨(bl.getD k 0).toNat, ?_, Hcell.out k (by omega)⟩
                    rw [beq_eq_false_iff_ne]
                    intro hc
                    exact Hne.out (UInt8.toNat_inj.1 (by have : (48 : UInt8).toNat = 48 := rfl; rw [this]; omega))
                  go_wp2_with fail
                  go_roundw
                  case rel => exact ⟨j, by omega, by go_num, by rw [str_append, Hfin.out], HE2.out⟩
                  case measure => simp [intOf]
          · have ej : ((j : Int) == (n : Int) - 1) = false := by rw [beq_eq_false_iff_ne]; omega
            have Hfin : Hid (tl ++ bl = sg ++ ztx l j) := by
              show _ = _
              rw [ztx_next H6.out (by rw [H1.out]; omega) Hx.out hx4, Hpad.out, ← Htl.out, List.append_assoc]
            have hcv := Hconv.out 0 (by omega)
            rw [List.drop_zero] at hcv
            clear hfirst Htl
            go_loop [6] (fun v => v = .int .i64 0) (fun v => 0)
            case atStart => rfl
            case round =>
              subst hrel
              go_wp2_with fail
              go_roundw
              case rel => exact ⟨j, by omega, by go_num, by rw [str_append, Hfin.out], HE2.out⟩
              case measure => simp [intOf]

end Go.Proofs.YtlmfhopifggeaaaDoor
namespace Go.Proofs.YtlmfhopifggeaaaDoor
open Go.RowKit

theorem op_info : (Tryd.prog.info? 46).map (fun i => (i.zero, i.size, i.bytes)) = some (some (.agg #[.int .i64 0, .int .i64 0, .slice none 0 0, .int .i64 0, .int .i64 0, .slice none 0 0]), 6, 80) := by kernel_rfl

/-- Operations whose lists are their own, in a slice of the call's own. -/
def OpsO (w : World) (base : Nat) (v : Value) (ops : List Gop) : Prop :=
  ∃ xs : List Value, w.ownsRow base 46 6 v ops.length xs ∧ ∀ t g, ops[t]? = some g → ∃ (a1 : Option Addr) (n1 c1 : Nat) (a2 : Option Addr) (n2 c2 : Nat),
    xs[t * 6]? = some (.int .i64 g.kind) ∧ xs[t * 6 + 1]? = some (.int .i64 g.k) ∧ xs[t * 6 + 2]? = some (.slice a1 n1 c1) ∧ xs[t * 6 + 3]? = some (.int .i64 g.q) ∧ xs[t * 6 + 4]? = some (.int .i64 g.bit) ∧ xs[t * 6 + 5]? = some (.slice a2 n2 c2) ∧ OpO w g a1 n1 c1 a2 n2 c2
theorem own_keep {w w' : World} {base : Nat} {e : TypeId} {size : Nat} {v : Value} {n : Nat} {xs : List Value} (h : w.ownsRow base e size v n xs) (hk : ∀ (g : Nat) (cur : Array Value), base ≤ g → w.heap[g]? = some (.cells cur e (0, 0)) → w'.heap[g]? = w.heap[g]?) : w'.ownsRow base e size v n xs := by
  refine ⟨h.1, ?_⟩
  rcases h.2 with h | ⟨g, cap, cur, hv, hb, hg, rest⟩
  · exact Or.inl h
  · exact Or.inr ⟨g, cap, cur, hv, hb, (hk g cur hb hg).trans hg, rest⟩
theorem OpsO.at {w : World} {base : Nat} {v : Value} {ops : List Gop} (h : OpsO w base v ops) : ∃ (a : Option Addr) (c : Nat), v = .slice a ops.length c ∧ ops.length ≤ c ∧ c ≤ maxLen ∧ OpsAt w a ops.length ops := by
  obtain ⟨xs, h1, h2⟩ := h
  rcases h1.2 with ⟨rfl, h0⟩ | ⟨g, cap, cur, hv, hb, hg, hn, hcm, _, htk⟩
  · rw [h0]
    exact ⟨none, 0, rfl, Nat.le_refl _, Nat.zero_le _, h0, Or.inl rfl⟩
  · refine ⟨some ⟨g, 0, none⟩, cap, hv, hn, hcm, rfl, Or.inr ⟨g, 0, rfl, (Array.getElem?_eq_some_iff.1 hg).1, fun t gg hgg => ?_⟩⟩
    obtain ⟨a1, n1, c1, a2, n2, c2, e0, e1, e2, e3, e4, e5, e6⟩ := h2 t gg hgg
    have ht := (List.getElem?_eq_some_iff.1 hgg).1
    have hc : ∀ j, j < ops.length * 6 → w.cell? ⟨g, 0 + j, none⟩ = xs[j]? := by
      intro j hj
      rw [Nat.zero_add, cell_of_row w g j cur _ (0, 0) hg, ← Array.getElem?_toList, ← htk, List.getElem?_take, if_pos hj]
    exact ⟨a1, n1, c1, a2, n2, c2, by rw [hc _ (by omega)]; exact e0, by rw [Nat.add_assoc, hc _ (by omega)]; exact e1, by rw [Nat.add_assoc, hc _ (by omega)]; exact e2, by rw [Nat.add_assoc, hc _ (by omega)]; exact e3, by rw [Nat.add_assoc, hc _ (by omega)]; exact e4, by rw [Nat.add_assoc, hc _ (by omega)]; exact e5, e6.l⟩
theorem PtKind {w : World} {base n size : Nat} {v : Value} {xs : List Value} {e : TypeId} (h : w.ownsRow base e size v n xs) : ∀ k, v.ownBlock = some k → base ≤ k ∧ ∃ cs fr, w.heap[k]? = some (.cells cs e fr) := by
  intro k hk
  rcases h.2 with ⟨rfl, _⟩ | ⟨g, cap, cur, rfl, hb, hg, _⟩
  · simp [Value.ownBlock] at hk
  · simp [Value.ownBlock] at hk
    subst hk
    exact ⟨hb, cur, (0, 0), hg⟩
theorem new_op (w : World) (k0 k1 : Int) (a1 : Option Addr) (n1 c1 : Nat) (k3 k4 : Int) (a2 : Option Addr) (n2 c2 : Nat) (e : TypeId) : ∀ j u, ([.int .i64 k0, .int .i64 k1, .slice a1 n1 c1, .int .i64 k3, .int .i64 k4, .slice a2 n2 c2] : List Value)[j]? = some u → (w.alloc (.cells #[.int .i64 k0, .int .i64 k1, .slice a1 n1 c1, .int .i64 k3, .int .i64 k4, .slice a2 n2 c2] e)).cell? ((⟨w.heap.size, 0, none⟩ : Addr).add j) = some u := by
  intro j u hu
  have hadd : (⟨w.heap.size, 0, none⟩ : Addr).add j = ⟨w.heap.size, j, none⟩ := by unfold Addr.add; split <;> simp_all
  rw [hadd, cell_of_row _ _ j _ _ (0, 0) (heap_alloc_new w _)]
  simpa using hu
theorem one_op (k0 k1 : Int) (a1 : Option Addr) (n1 c1 : Nat) (k3 k4 : Int) (a2 : Option Addr) (n2 c2 : Nat) : ∀ u ∈ ([.int .i64 k0, .int .i64 k1, .slice a1 n1 c1, .int .i64 k3, .int .i64 k4, .slice a2 n2 c2] : List Value), u.oneCell' = true := by
  intro u hu
  simp only [List.mem_cons, List.not_mem_nil, or_false] at hu
  rcases hu with rfl | rfl | rfl | rfl | rfl | rfl <;> rfl
theorem stepK_append {ops : Array Oper} {o : Oper} {a : Act} {K : Act → World → Prop} {Q : Exit → Act → World → Prop} {E : Prop} {w w' : World} (hgd : o.guard = none) (s x : Operand) (t : TypeId)
    (ho : o.op = .call { callee := .builtin .append, args := #[s, x], argTypes := #[t, t] }) (v1 v2 r : Value) (hs : a.eval s = v1) (hx : a.eval x = v2)
    (hap : (Builtin.append_ #[t, t] o.type #[v1, v2]).run Tryd.prog w = .ok r w') (h : K (a.put o.dst r) w') :
    if Region.wanted o (yielded ops a.tmps) = true then Oper.wp Tryd.prog o a w K Q else E := by
  have hw : Region.wanted o (yielded ops a.tmps) = true := by simp [Region.wanted, hgd]
  rw [if_pos hw]
  unfold Oper.wp execOp
  simp only [ho, resolve, invoke, builtin, Sem.run_bind, Sem.run_pure, Result.andThen_ok, List.map_toArray, List.map_cons, List.map_nil, hs, hx, hap]
  exact h
set_option maxHeartbeats 400000 in
theorem stepK_store {ops : Array Oper} {o : Oper} {a : Act} {K : Act → World → Prop} {Q : Exit → Act → World → Prop} {E : Prop} {w : World} (hgd : o.guard = none) (hd : o.dst = none) (p x : Operand)
    (ho : o.op = .store 32 p x) (b off : Nat) (a' : Option Addr) (n' c' : Nat) (u : Value) (hp : a.eval p = .pointer (some ⟨b, off, none⟩)) (hx : a.eval x = .slice a' n' c')
    (hcell : w.cell? ⟨b, off, none⟩ = some u) (hfz : w.frozen? ⟨b, off, none⟩ = false) (h : K a (w.setCell ⟨b, off, none⟩ (.slice a' n' c'))) :
    if Region.wanted o (yielded ops a.tmps) = true then Oper.wp Tryd.prog o a w K Q else E := by
  have hw : Region.wanted o (yielded ops a.tmps) = true := by simp [Region.wanted, hgd]
  rw [if_pos hw]
  obtain ⟨od, oo, ot, opp, oa, og⟩ := o
  simp only at ho hd
  subst ho hd
  have HH := Lib.hid h
  clear h
  unfold Oper.wp execOp
  simp only [hp, hx]
  go_simp
  exact HH.out
theorem CiB.f {W : World} {g : Nat} {qb bi : Int} {ao : Option Addr} {n cp : Nat} (h : CiB W g qb bi ao n cp) (o : Nat) : W.frozen? ⟨g, o, none⟩ = false := frozen_of_row W g o _ _ h.row
theorem CiB.set2 {W : World} {g : Nat} {qb bi : Int} {ao : Option Addr} {n cp : Nat} (h : CiB W g qb bi ao n cp) (a : Option Addr) (m c : Nat) : CiB (W.setCell ⟨g, 2, none⟩ (.slice a m c)) g qb bi a m c := ⟨heap_setCell_same W g 2 _ _ (.slice a m c) h.row⟩
theorem CiB_grown {a w' : World} {v : Value} {base g : Nat} {e : TypeId} {qb bi : Int} {ao : Option Addr} {n cp : Nat} (hg : a.grownBy w' v.ownBlock) (hk : ∀ k, v.ownBlock = some k → base ≤ k ∧ ∃ cs fr, a.heap[k]? = some (.cells cs e fr)) (h : CiB a g qb bi ao n cp) (hb : g < base) : CiB w' g qb bi ao n cp :=
  ⟨(hg.block g h.lt (fun e => by have := (hk g e.symm).1; omega)).trans h.row⟩
/-- A cell of a block that is older than the row that grows. -/
theorem cell_grown {w a w' : World} {v : Value} {base : Nat} {e : TypeId} (hg : a.grownBy w' v.ownBlock) (hk : ∀ k, v.ownBlock = some k → base ≤ k ∧ ∃ cs fr, a.heap[k]? = some (.cells cs e fr)) {b o : Nat} {u : Value} (hc : w.cell? ⟨b, o, none⟩ = some u) (hE : Ext w a) (hb : b < base) : w'.cell? ⟨b, o, none⟩ = some u := by
  have h1 := cell_ext hc hE
  exact (World.cell?_of_block (a := ⟨b, o, none⟩) (hg.block b (World.block_lt_of_cell? a ⟨b, o, none⟩ h1) (fun h => by have := (hk b h.symm).1; omega))).trans h1

end Go.Proofs.YtlmfhopifggeaaaDoor
