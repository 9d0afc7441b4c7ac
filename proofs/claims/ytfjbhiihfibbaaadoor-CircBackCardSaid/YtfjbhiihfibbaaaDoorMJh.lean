/-
  The program's Power of a pure circuit: rows that hold copies of operations whose lists lie elsewhere.
-/
import Derived.Test.YtfjbhiihfibbaaaDoorMJe

namespace Go.Proofs.YtfjbhiihfibbaaaDoor
open Go.RowKit

/-- Operations in a row of the call's own; their lists lie in an older world. -/
def OpsL (w0 w : World) (base : Nat) (v : Value) (ops : List Gop) : Prop :=
  ∃ xs : List Value, w.ownsRow base 58 6 v ops.length xs ∧ ∀ t g, ops[t]? = some g → ∃ (a1 : Option Addr) (n1 c1 : Nat) (a2 : Option Addr) (n2 c2 : Nat),
    xs[t * 6]? = some (.int .i64 g.kind) ∧ xs[t * 6 + 1]? = some (.int .i64 g.k) ∧ xs[t * 6 + 2]? = some (.slice a1 n1 c1) ∧ xs[t * 6 + 3]? = some (.int .i64 g.q) ∧ xs[t * 6 + 4]? = some (.int .i64 g.bit) ∧ xs[t * 6 + 5]? = some (.slice a2 n2 c2) ∧ OpL w0 g a1 n1 c1 a2 n2 c2
theorem OpsL.nil (w0 w : World) (base : Nat) : OpsL w0 w base (.slice none 0 0) [] := ⟨[], ⟨rfl, Or.inl ⟨rfl, rfl⟩⟩, fun t g h => by simp at h⟩
theorem OpsL.at {w0 w : World} {base : Nat} {v : Value} {ops : List Gop} (h : OpsL w0 w base v ops) (hE : Ext w0 w) : ∃ (a : Option Addr) (c : Nat), v = .slice a ops.length c ∧ ops.length ≤ c ∧ c ≤ maxLen ∧ OpsAt w a ops.length ops := by
  obtain ⟨xs, h1, h2⟩ := h
  rcases h1.2 with ⟨rfl, h0⟩ | ⟨g, cap, cur, hv, hb, hg, hn, hcm, _, htk⟩
  · rw [h0]
    exact ⟨none, 0, rfl, Nat.le_refl _, Nat.zero_le _, h0, Or.inl rfl⟩
  · refine ⟨some ⟨g, 0, none⟩, cap, hv, hn, hcm, rfl, Or.inr ⟨g, 0, rfl, (Array.getElem?_eq_some_iff.1 hg).1, fun t gg hgg => ?_⟩⟩
    obtain ⟨a1, n1, c1, a2, n2, c2, e0, e1, e2, e3, e4, e5, e6⟩ := h2 t gg hgg
    have ht := (List.getElem?_eq_some_iff.1 hgg).1
    have hc : ∀ j, j < ops.length * 6 → w.cell? ⟨g, 0 + j, none⟩ = xs[j]? := by
      intro j hj
      rw [Nat.zero_add, cell_of_row w g j cur _ (0, 0) hg, ← Array.getElem?_toList, ← htk, List.getElem?_take, if_pos hj]
    exact ⟨a1, n1, c1, a2, n2, c2, by rw [hc _ (by omega)]; exact e0, by rw [Nat.add_assoc, hc _ (by omega)]; exact e1, by rw [Nat.add_assoc, hc _ (by omega)]; exact e2, by rw [Nat.add_assoc, hc _ (by omega)]; exact e3, by rw [Nat.add_assoc, hc _ (by omega)]; exact e4, by rw [Nat.add_assoc, hc _ (by omega)]; exact e5, e6.ext hE⟩
/-- The cells of operations that lie somewhere. -/
theorem opsAt_cells {w : World} {b o n : Nat} {ops : List Gop} (h : OpsAt w (some ⟨b, o, none⟩) n ops) : ∃ ys : List Value, ys.length = n * 6 ∧ (∀ j u, ys[j]? = some u → w.cell? ((⟨b, o, none⟩ : Addr).add j) = some u) ∧ (∀ u ∈ ys, u.oneCell' = true) ∧
    ∀ t g, ops[t]? = some g → ∃ (a1 : Option Addr) (n1 c1 : Nat) (a2 : Option Addr) (n2 c2 : Nat), ys[t * 6]? = some (.int .i64 g.kind) ∧ ys[t * 6 + 1]? = some (.int .i64 g.k) ∧ ys[t * 6 + 2]? = some (.slice a1 n1 c1) ∧ ys[t * 6 + 3]? = some (.int .i64 g.q) ∧ ys[t * 6 + 4]? = some (.int .i64 g.bit) ∧ ys[t * 6 + 5]? = some (.slice a2 n2 c2) ∧ OpL w g a1 n1 c1 a2 n2 c2 := by
  have hl := h.1
  have hex : ∀ t, t < n → ∃ f : Nat → Value, (∀ k, k < 6 → w.cell? ⟨b, o + t * 6 + k, none⟩ = some (f k) ∧ (f k).oneCell' = true) ∧ ∃ g, ops[t]? = some g ∧ ∃ (a1 : Option Addr) (n1 c1 : Nat) (a2 : Option Addr) (n2 c2 : Nat), f 0 = .int .i64 g.kind ∧ f 1 = .int .i64 g.k ∧ f 2 = .slice a1 n1 c1 ∧ f 3 = .int .i64 g.q ∧ f 4 = .int .i64 g.bit ∧ f 5 = .slice a2 n2 c2 ∧ OpL w g a1 n1 c1 a2 n2 c2 := by
    intro t ht
    have hgt : ops[t]? = some ops[t] := List.getElem?_eq_getElem (by omega)
    obtain ⟨a1, n1, c1, a2, n2, c2, e0, e1, e2, e3, e4, e5, e6⟩ := h.at t _ hgt
    refine ⟨opF ops[t] a1 n1 c1 a2 n2 c2, fun k hk => ?_, ops[t], hgt, a1, n1, c1, a2, n2, c2, rfl, rfl, rfl, rfl, rfl, rfl, e6⟩
    have : k = 0 ∨ k = 1 ∨ k = 2 ∨ k = 3 ∨ k = 4 ∨ k = 5 := by omega
    rcases this with rfl | rfl | rfl | rfl | rfl | rfl
    · exact ⟨e0, rfl⟩
    · exact ⟨e1, rfl⟩
    · exact ⟨e2, rfl⟩
    · exact ⟨e3, rfl⟩
    · exact ⟨e4, rfl⟩
    · exact ⟨e5, rfl⟩
  obtain ⟨F, hF⟩ := Classical.axiomOfChoice (fun t : Fin n => hex t.1 t.2)
  refine ⟨(List.range (n * 6)).map (fun j => if hj : j / 6 < n then F ⟨j / 6, hj⟩ (j % 6) else .bool false), by simp, ?_, ?_, ?_⟩
  · intro j u hu
    rw [List.getElem?_map] at hu
    obtain ⟨x, hx, rfl⟩ := Option.map_eq_some_iff.1 hu
    have hj : j < n * 6 := by have := (List.getElem?_eq_some_iff.1 hx).1; simpa using this
    obtain rfl : x = j := by have := (List.getElem?_eq_some_iff.1 hx).2; simpa using this.symm
    rw [dif_pos (by omega)]
    have := ((hF ⟨x / 6, by omega⟩).1 (x % 6) (by omega)).1
    have hadd : (⟨b, o, none⟩ : Addr).add x = ⟨b, o + x, none⟩ := by unfold Addr.add; split <;> simp_all
    rw [hadd, show o + x = o + x / 6 * 6 + x % 6 by omega]
    exact this
  · intro u hu
    obtain ⟨x, hx, rfl⟩ := List.mem_map.1 hu
    have hj : x < n * 6 := by simpa using hx
    rw [dif_pos (by omega)]
    exact ((hF ⟨x / 6, by omega⟩).1 (x % 6) (by omega)).2
  · intro t g hg
    have ht : t < n := by have := (List.getElem?_eq_some_iff.1 hg).1; omega
    obtain ⟨_, g', hg', a1, n1, c1, a2, n2, c2, f0, f1, f2, f3, f4, f5, f6⟩ := hF ⟨t, ht⟩
    simp only at hg'
    rw [hg] at hg'
    injection hg' with hg'
    subst hg'
    have key : ∀ k, k < 6 → ((List.range (n * 6)).map (fun j => if hj : j / 6 < n then F ⟨j / 6, hj⟩ (j % 6) else .bool false))[t * 6 + k]? = some (F ⟨t, ht⟩ k) := by
      intro k hk
      rw [List.getElem?_map, List.getElem?_range (by omega)]
      simp only [Option.map_some]
      rw [dif_pos (by omega)]
      have e1 : (t * 6 + k) / 6 = t := by omega
      have e2 : (t * 6 + k) % 6 = k := by omega
      simp only [e1, e2]
    exact ⟨a1, n1, c1, a2, n2, c2, by rw [show t * 6 = t * 6 + 0 from rfl, key 0 (by omega), f0], by rw [key 1 (by omega), f1], by rw [key 2 (by omega), f2], by rw [key 3 (by omega), f3], by rw [key 4 (by omega), f4], by rw [key 5 (by omega), f5], f6⟩
theorem OpsL.app {w0 w' : World} {base : Nat} {v' : Value} {ops news : List Gop} {xs ys : List Value} (hx : xs.length = ops.length * 6)
    (h1 : w'.ownsRow base 58 6 v' (ops.length + news.length) (xs ++ ys))
    (h2 : ∀ t g, ops[t]? = some g → ∃ (a1 : Option Addr) (n1 c1 : Nat) (a2 : Option Addr) (n2 c2 : Nat), xs[t * 6]? = some (.int .i64 g.kind) ∧ xs[t * 6 + 1]? = some (.int .i64 g.k) ∧ xs[t * 6 + 2]? = some (.slice a1 n1 c1) ∧ xs[t * 6 + 3]? = some (.int .i64 g.q) ∧ xs[t * 6 + 4]? = some (.int .i64 g.bit) ∧ xs[t * 6 + 5]? = some (.slice a2 n2 c2) ∧ OpL w0 g a1 n1 c1 a2 n2 c2)
    (h3 : ∀ t g, news[t]? = some g → ∃ (a1 : Option Addr) (n1 c1 : Nat) (a2 : Option Addr) (n2 c2 : Nat), ys[t * 6]? = some (.int .i64 g.kind) ∧ ys[t * 6 + 1]? = some (.int .i64 g.k) ∧ ys[t * 6 + 2]? = some (.slice a1 n1 c1) ∧ ys[t * 6 + 3]? = some (.int .i64 g.q) ∧ ys[t * 6 + 4]? = some (.int .i64 g.bit) ∧ ys[t * 6 + 5]? = some (.slice a2 n2 c2) ∧ OpL w0 g a1 n1 c1 a2 n2 c2) :
    OpsL w0 w' base v' (ops ++ news) := by
  refine ⟨xs ++ ys, by rw [List.length_append]; exact h1, fun t g hg => ?_⟩
  by_cases ht : t < ops.length
  · rw [List.getElem?_append_left ht] at hg
    obtain ⟨a1, n1, c1, a2, n2, c2, e0, e1, e2, e3, e4, e5, e6⟩ := h2 t g hg
    have hr : ∀ j, j < 6 → (xs ++ ys)[t * 6 + j]? = xs[t * 6 + j]? := fun j hj => List.getElem?_append_left (by omega)
    exact ⟨a1, n1, c1, a2, n2, c2, (hr 0 (by omega)).trans e0, (hr 1 (by omega)).trans e1, (hr 2 (by omega)).trans e2, (hr 3 (by omega)).trans e3, (hr 4 (by omega)).trans e4, (hr 5 (by omega)).trans e5, e6⟩
  · rw [List.getElem?_append_right (by omega)] at hg
    obtain ⟨a1, n1, c1, a2, n2, c2, e0, e1, e2, e3, e4, e5, e6⟩ := h3 (t - ops.length) g hg
    have hr : ∀ j, (xs ++ ys)[t * 6 + j]? = ys[(t - ops.length) * 6 + j]? := fun j => by
      rw [List.getElem?_append_right (by omega), hx]
      congr 1; omega
    exact ⟨a1, n1, c1, a2, n2, c2, (hr 0).trans e0, (hr 1).trans e1, (hr 2).trans e2, (hr 3).trans e3, (hr 4).trans e4, (hr 5).trans e5, e6⟩

/-- Operations, so often. -/
def repO (k : Nat) (ops : List Gop) : List Gop := (List.replicate k ops).flatten
theorem repO_len (k : Nat) (ops : List Gop) : (repO k ops).length = k * ops.length := by
  unfold repO
  induction k with
  | zero => simp
  | succ k ih => rw [List.replicate_succ, List.flatten_cons, List.length_append, ih, Nat.succ_mul, Nat.add_comm]
theorem repO_succ (k : Nat) (ops : List Gop) : repO (k + 1) ops = repO k ops ++ ops := by
  unfold repO
  rw [List.replicate_succ', List.flatten_append]
  simp
theorem repO_mem {k : Nat} {ops : List Gop} {g : Gop} (h : g ∈ repO k ops) : g ∈ ops := by
  unfold repO at h
  obtain ⟨l, hl, hg⟩ := List.mem_flatten.1 h
  rw [List.mem_replicate] at hl
  rw [← hl.2]; exact hg

end Go.Proofs.YtfjbhiihfibbaaaDoor

/-
  The program's Power of a pure circuit: the walk.
-/
namespace Go.Proofs.YtfjbhiihfibbaaaDoor
open Go.RowKit

/-- What is done natAbs x times. -/
def onceO (x : Int) (ops : List Gop) : List Gop := if x < 0 then invO ops else ops
theorem onceO_len (x : Int) (ops : List Gop) : (onceO x ops).length = ops.length := by
  unfold onceO invO
  split <;> simp

set_option maxHeartbeats 8000000 in
set_option maxRecDepth 100000 in
theorem Power_yes (c : Gci) (ao : Option Addr) (n cp : Nat) (x : Int) (w : World) (h : OpsAt w ao n c.ops) (hn : n ≤ cp) (hcp : cp ≤ 9223372036854775807) (hS : Shp w) (hp : (pur c).1 = 0) (hx0 : -9223372036854775808 ≤ x) (hx1 : x ≤ 9223372036854775807) :
    Calls Tryd.prog 21 #[.agg #[.int .i64 c.qubits, .int .i64 c.bits, .slice ao n cp], .int .i64 x] w fun e w' =>
      ((0 < n ∧ 4096 / n < x.natAbs ∧ e = .returned (.tuple #[.agg #[.int .i64 0, .int .i64 0, .slice none 0 0], .agg #[.int .i64 2, .int .i64 0]])) ∨
       ((n = 0 ∨ x.natAbs ≤ 4096 / n) ∧ ∃ (a' : Option Addr) (m c' : Nat), m = (repO x.natAbs (onceO x c.ops)).length ∧ e = .returned (.tuple #[.agg #[.int .i64 c.qubits, .int .i64 c.bits, .slice a' m c'], .agg #[.int .i64 0, .int .i64 0]]) ∧ m ≤ c' ∧ c' ≤ maxLen ∧ OpsO w' (w.heap.size + 3) (.slice a' m c') (repO x.natAbs (onceO x c.ops)))) ∧ Ext w w' := by
  obtain ⟨hck, hpz⟩ := pur_zero hp
  obtain ⟨hz, hq1, hq2, hb1, hb2, hl4, hop⟩ := chk_zero hck
  have hfit : ∀ g ∈ onceO x c.ops, g.ctl.length ≤ 1000 ∧ g.cnd.length ≤ 1000 := fun g hg => by
    have key : ∀ g ∈ c.ops, g.ctl.length ≤ 1000 ∧ g.cnd.length ≤ 1000 := fun g hg => by
      have f := prFit_of_code hq2 hb1 hb2 (hop g hg)
      exact ⟨Nat.le_trans f.few (by decide), Nat.le_trans f.cfew (by decide)⟩
    unfold onceO at hg
    split at hg
    · unfold invO at hg
      obtain ⟨g', hg', rfl⟩ := List.mem_map.1 hg
      exact key g' (List.mem_reverse.1 hg')
    · exact key g hg
  have hl : c.ops.length = n := h.1
  rw [hl] at hl4
  have HInv := Lib.hid (fun wx (hx : Ext w wx) => Inverse_yes c ao n cp wx (h.ext hx) hn hcp (hS.ext hx) hp)
  obtain ⟨qb, bi, ops⟩ := c
  simp only at hfit hl h HInv ⊢
  obtain ⟨os1, hos⟩ : ∃ y, onceO x ops = y := ⟨_, rfl⟩
  have Hosl := Lib.hid (show os1.length = n by rw [← hos, onceO_len]; exact hl)
  have HosN := Lib.hid (show x < 0 → invO ops = os1 from fun hx => by rw [← hos, onceO, if_pos hx])
  have HosP := Lib.hid (show ¬ x < 0 → ops = os1 from fun hx => by rw [← hos, onceO, if_neg hx])
  rw [hos] at hfit ⊢
  obtain ⟨tm, htm⟩ : ∃ y, x.natAbs = y := ⟨_, rfl⟩
  have htb : tm ≤ 9223372036854775808 := by rw [← htm]; omega
  rw [htm]
  obtain ⟨H, hH⟩ : ∃ H, w.heap.size = H := ⟨_, rfl⟩
  obtain ⟨A1, hA1⟩ : ∃ A1, w.alloc (.cells #[.int .i64 qb, .int .i64 bi, .slice ao n cp] 24) = A1 := ⟨_, rfl⟩
  obtain ⟨A2, hA2⟩ : ∃ A2, A1.alloc (.cells #[.int .i64 0, .int .i64 0, .slice none 0 0] 24) = A2 := ⟨_, rfl⟩
  obtain ⟨A3, hA3⟩ : ∃ A3, A2.alloc (.cells #[.int .i64 0, .int .i64 0] 26) = A3 := ⟨_, rfl⟩
  have s1 : A1.heap.size = H + 1 := by rw [← hA1, ← hH]; simp
  have s2 : A2.heap.size = H + 2 := by rw [← hA2]; simp; omega
  have s3 : A3.heap.size = H + 3 := by rw [← hA3]; simp; omega
  have x1 : Ext w A1 := by rw [← hA1]; exact ext_al _ _
  have x2 : Ext A1 A2 := by rw [← hA2]; exact ext_al _ _
  have x3 : Ext A2 A3 := by rw [← hA3]; exact ext_al _ _
  have bC : CiB A3 H qb bi ao n cp := by
    have : CiB A1 H qb bi ao n cp := by rw [← hA1, ← hH]; exact ⟨heap_alloc_new w _⟩
    exact (this.ext x2).ext x3
  have bR : CiB A3 (H + 1) 0 0 none 0 0 := by
    have : CiB A2 (H + 1) 0 0 none 0 0 := by rw [← hA2, ← s1]; exact ⟨heap_alloc_new A1 _⟩
    exact this.ext x3
  have bF : FtB A3 (H + 2) 0 0 := by rw [← hA3, ← s2]; exact ⟨heap_alloc_new A2 _⟩
  have E0 : Ext w A3 := (x1.trans x2).trans x3
  have hA : ((w.alloc (.cells #[.int .i64 qb, .int .i64 bi, .slice ao n cp] 24)).alloc (.cells #[.int .i64 0, .int .i64 0, .slice none 0 0] 24)).alloc (.cells #[.int .i64 0, .int .i64 0] 26) = A3 := by rw [hA1, hA2, hA3]
  have HK := Lib.hid (Pure_any ⟨qb, bi, ops⟩ ao n cp A3 (h.ext E0) hn hcp (hS.ext E0))
  rw [hpz] at HK
  simp only at HK
  have m0 := bC.x0; have m1 := bC.x1; have m2 := bC.x2
  rw [← hA] at m0 m1 m2
  have HA := Lib.hid hA; have HE0 := Lib.hid E0; have HC := Lib.hid bC; have HR := Lib.hid bR; have HFt := Lib.hid bF
  have Hops := Lib.hid h; have Hfit := Lib.hid hfit; have Hs3 := Lib.hid s3; have HhH := Lib.hid hH; have Htm := Lib.hid htm
  clear h hS hpz E0 bC bR bF x1 x2 x3 s1 s2 s3 hA1 hA2 hA3 hA hfit hl hck hz hq1 hq2 hb1 hb2 hop hp hos htm
  go_enter Tryd.func21, Tryd.ntmps21
  go_wp2_with fail
  rw [HA.out]
  refine HK.out.mono ?_
  rintro e w1 ⟨rfl, hx1'⟩
  have Ef := ext_al w1 (.cells #[.int .i64 0, .int .i64 0] 26)
  have bf1 : FtB (w1.alloc (.cells #[.int .i64 0, .int .i64 0] 26)) w1.heap.size 0 0 := ⟨heap_alloc_new w1 _⟩
  have q0 := bf1.x0; have q1 := bf1.x1
  have hX := hx1'.trans Ef
  have bC1 := HC.out.ext hX
  have y0 := bC1.x0; have y1 := bC1.x1; have y2 := bC1.x2
  have HC1 := Lib.hid bC1; have HR1 := Lib.hid (HR.out.ext hX); have HF1 := Lib.hid (HFt.out.ext hX); have HE1 := Lib.hid (HE0.out.trans hX)
  clear hx1' Ef bf1 hX bC1 HK HC HR HFt HE0 m0 m1 m2
  have EO := ext_al (w1.alloc (.cells #[.int .i64 0, .int .i64 0] 26)) (.cells #[.int .i64 qb, .int .i64 bi, .slice ao n cp] 24)
  have hszA : (w1.alloc (.cells #[.int .i64 0, .int .i64 0] 26)).heap.size = w1.heap.size + 1 := by simp
  have bOc : CiB ((w1.alloc (.cells #[.int .i64 0, .int .i64 0] 26)).alloc (.cells #[.int .i64 qb, .int .i64 bi, .slice ao n cp] 24)) (w1.heap.size + 1) qb bi ao n cp := by rw [← hszA]; exact ⟨heap_alloc_new _ _⟩
  have HbOc := Lib.hid bOc; have HC2 := Lib.hid (HC1.out.ext EO); have HR2 := Lib.hid (HR1.out.ext EO); have HF2 := Lib.hid (HF1.out.ext EO); have HE2 := Lib.hid (HE1.out.trans EO)
  have hlo : H + 3 ≤ w1.heap.size + 1 := by have h1 := HF1.out.lt; rw [hszA] at h1; omega
  clear EO hszA bOc HC1 HR1 HF1 HE1
  obtain ⟨ux, hux⟩ : ∃ y, IntKind.u64.wrap x = y := ⟨_, rfl⟩
  have Hux := Lib.hid hux
  go_upto_if 22 with fail
  generalize (w1.alloc (.cells #[.int .i64 0, .int .i64 0] 26)).alloc (.cells #[.int .i64 qb, .int .i64 bi, .slice ao n cp] 24) = W2 at *
  obtain ⟨Oc, hOc⟩ : ∃ y, w1.heap.size + 1 = y := ⟨_, rfl⟩
  rw [hOc] at HbOc hlo ⊢
  clear hOc
  clear q0 q1 y0 y1 y2
  go_cut [8] from 22 to 29 (fun s8 wx => s8 = .int .u64 (tm : Int) ∧ ∃ (aO : Option Addr) (cO : Nat), CiB wx Oc qb bi aO n cO ∧ OpsAt wx aO n os1 ∧ n ≤ cO ∧ cO ≤ 9223372036854775807 ∧ CiB wx H qb bi ao n cp ∧ CiB wx (H + 1) 0 0 none 0 0 ∧ FtB wx (H + 2) 0 0 ∧ Ext w wx ∧ Oc < wx.heap.size)
  case first =>
    by_cases hx : x < 0
    · have hd : decide (x < 0) = true := dt hx
      have y0 := HC2.out.x0; have y1 := HC2.out.x1; have y2 := HC2.out.x2
      have hng : IntKind.u64.wrap (-ux) = (tm : Int) := by
        have h1 := Hux.out
        have h2 := Htm.out
        rw [← h1]
        simp [IntKind.wrap, IntKind.bits, IntKind.signed]
        omega
      have HoE := Lib.hid (HosN.out hx)
      go_wp2_with fail
      refine (HInv.out W2 HE2.out).mono ?_
      rintro e w3 ⟨⟨aO, cO, rfl, hc1, hc2, hO⟩, hx3⟩
      obtain ⟨a9, c9, ev9, _, _, hat⟩ := hO.at
      injection ev9 with ea en ec
      subst ea; subst ec
      have hOb := HbOc.out.ext hx3
      have z0 := hOb.x0; have z1 := hOb.x1; have z2 := hOb.x2; have g0 := hOb.f 0; have g1 := hOb.f 1; have g2 := hOb.f 2
      have hO3 : Only Oc w3 (((w3.setCell ⟨Oc, 0, none⟩ (.int .i64 qb)).setCell ⟨Oc, 1, none⟩ (.int .i64 bi)).setCell ⟨Oc, 2, none⟩ (.slice aO n cO)) := (((Only.refl _ _).setCell _ _).setCell _ _).setCell _ _
      have hoF := hO.only hOb.row (by decide) hO3 (by simp) (by have := HbOc.out.lt; omega)
      obtain ⟨a8, c8, ev8, _, _, hat8⟩ := hoF.at
      injection ev8 with ea8 en8 ec8
      subst ea8; subst ec8
      rw [← en8, HoE.out] at hat8
      have HbZ := Lib.hid (((hOb.set0 qb).set1 bi).set2 aO n cO); have Hat := Lib.hid hat8
      have HCz := Lib.hid (show CiB (((w3.setCell ⟨Oc, 0, none⟩ (.int .i64 qb)).setCell ⟨Oc, 1, none⟩ (.int .i64 bi)).setCell ⟨Oc, 2, none⟩ (.slice aO n cO)) H qb bi ao n cp from ⟨(hO3.block _ (by omega)).trans (HC2.out.ext hx3).row⟩)
      have HRz := Lib.hid (show CiB (((w3.setCell ⟨Oc, 0, none⟩ (.int .i64 qb)).setCell ⟨Oc, 1, none⟩ (.int .i64 bi)).setCell ⟨Oc, 2, none⟩ (.slice aO n cO)) (H + 1) 0 0 none 0 0 from ⟨(hO3.block _ (by omega)).trans (HR2.out.ext hx3).row⟩)
      have HFz := Lib.hid (show FtB (((w3.setCell ⟨Oc, 0, none⟩ (.int .i64 qb)).setCell ⟨Oc, 1, none⟩ (.int .i64 bi)).setCell ⟨Oc, 2, none⟩ (.slice aO n cO)) (H + 2) 0 0 from ⟨(hO3.block _ (by omega)).trans (HF2.out.ext hx3).row⟩)
      have HEz := Lib.hid (cput (o := 2) (cput (o := 1) (cput (o := 0) (HE2.out.trans hx3) (show w.heap.size ≤ Oc by omega) (.int .i64 qb)) (show w.heap.size ≤ Oc by omega) (.int .i64 bi)) (show w.heap.size ≤ Oc by omega) (.slice aO n cO))
      have Hc1 := Lib.hid hc1; have Hc2 := Lib.hid hc2
      clear hx3 hO hat hOb hO3 hoF hat8 hc1 hc2 y0 y1 y2 en en8
      go_wp2_with fail
      go_meet
      exact ⟨rfl, aO, cO, HbZ.out, Hat.out, Hc1.out, by have := Hc2.out; unfold maxLen at this; omega, HCz.out, HRz.out, HFz.out, HEz.out, HbZ.out.lt⟩
    · have hd : decide (x < 0) = false := df hx
      have hut : ux = (tm : Int) := by
        have h1 := Hux.out
        have h2 := Htm.out
        rw [← h1]
        simp [IntKind.wrap, IntKind.bits, IntKind.signed]
        omega
      have Hut := Lib.hid hut
      have HoE := Lib.hid (HosP.out (by omega))
      clear hut
      go_wp2_with fail
      go_meet
      exact ⟨congrArg (fun y => Value.int .u64 y) Hut.out, ao, cp, HbOc.out, by rw [← HoE.out]; exact Hops.out.ext HE2.out, hn, hcp, HC2.out, HR2.out, HF2.out, HE2.out, HbOc.out.lt⟩
  case rest =>
  obtain ⟨rfl, aO, cO, hbO, hat, hcO1, hcO2, hC, hR, hF, hE, hOl⟩ := hcut
  clear HbOc HC2 HR2 HF2 HE2 HInv HosN HosP hux Hops
  generalize wc = V at *
  have y2 := hC.x2
  have wn : IntKind.u64.wrap (n : Int) = (n : Int) := by simp [IntKind.wrap, IntKind.bits, IntKind.signed]; omega
  have HbO := Lib.hid hbO; have Hat := Lib.hid hat; have HC := Lib.hid hC; have HR := Lib.hid hR; have HF := Lib.hid hF; have HE := Lib.hid hE
  clear hbO hat hC hR hF hE
  by_cases hbig : 0 < n ∧ 4096 / n < tm
  · obtain ⟨d, hd⟩ : ∃ y, 4096 / n = y := ⟨_, rfl⟩
    have hd4 : d ≤ 4096 := by rw [← hd]; exact Nat.div_le_self _ _
    have p0 : (0 : Int) < (n : Int) := by omega
    have p0' : decide ((0 : Int) < (n : Int)) = true := dt p0
    have hq : (4096 : Int).tdiv (n : Int) = (d : Int) := by rw [← hd]; exact Int.ofNat_tdiv 4096 n
    have nz : ¬ (n : Int) = 0 := by omega
    have wd : IntKind.u64.wrap (d : Int) = (d : Int) := by simp [IntKind.wrap, IntKind.bits, IntKind.signed]; omega
    have hgt : (d : Int) < (tm : Int) := by have := hbig.2; omega
    have hgt' : decide ((d : Int) < (tm : Int)) = true := dt hgt
    have r0 := HR.out.x0; have r1 := HR.out.x1; have r2 := HR.out.x2; have g0 := HR.out.f 0; have g1 := HR.out.f 1; have g2 := HR.out.f 2
    have f0 := HF.out.x0; have f1 := HF.out.x1; have k0 := HF.out.f 0; have k1 := HF.out.f 1
    have zC := putCF_C HR.out (show H + 1 ≠ H + 2 by omega) 0 0 none 0 0 2 0
    have zF := putCF_F HF.out (show H + 1 ≠ H + 2 by omega) 0 0 none 0 0 2 0
    have HzE := Lib.hid (putCF_ext HE.out (show w.heap.size ≤ H + 1 by omega) (show w.heap.size ≤ H + 2 by omega) 0 0 none 0 0 2 0 : Ext w (putCF V (H + 1) (H + 2) 0 0 none 0 0 2 0))
    obtain ⟨Wz, hWz⟩ : ∃ Wz, putCF V (H + 1) (H + 2) 0 0 none 0 0 2 0 = Wz := ⟨_, rfl⟩
    rw [hWz] at zC zF HzE
    unfold putCF at hWz
    have HWz := Lib.hid hWz; have Hbig := Lib.hid hbig
    have v0 := zC.x0; have v1 := zC.x1; have v2 := zC.x2; have v3 := zF.x0; have v4 := zF.x1
    clear zC zF hWz hbig hd hd4
    go_wp2_with fail
    rw [HWz.out]
    exact bodyPost_ret (v := .tuple #[.agg #[.int .i64 0, .int .i64 0, .slice none 0 0], .agg #[.int .i64 2, .int .i64 0]]) (by simp [results, Tryd.results21, go_sem, v0, v1, v2, v3, v4]) rfl ⟨Or.inl ⟨Hbig.out.1, Hbig.out.2, rfl⟩, HzE.out⟩
  · have hsm : n = 0 ∨ tm ≤ 4096 / n := by
      by_cases h0 : n = 0
      · exact Or.inl h0
      · exact Or.inr (Nat.le_of_not_lt fun hh => hbig ⟨by omega, hh⟩)
    obtain ⟨nt, hnt⟩ : ∃ y, n * tm = y := ⟨_, rfl⟩
    have hnt4 : nt ≤ 4096 := by
      rw [← hnt]
      rcases hsm with h0 | h0
      · rw [h0, Nat.zero_mul]; omega
      · exact Nat.le_trans (Nat.mul_le_mul_left n h0) (Nat.mul_div_le 4096 n)
    have Hsm := Lib.hid hsm; have Hnt := Lib.hid hnt
    have wm : IntKind.u64.wrap ((n : Int) * (tm : Int)) = (nt : Int) := by
      have : (n : Int) * (tm : Int) = (nt : Int) := by rw [← hnt]; simp
      rw [this]
      simp [IntKind.wrap, IntKind.bits, IntKind.signed]; omega
    clear hsm hbig hnt
    go_upto_region 9 with fail
    go_cut [41] from 34 to 41 (fun s41 wx => s41 = .bool false ∧ wx = V)
    case first =>
      by_cases h0 : n = 0
      · have p0' : decide ((0 : Int) < (n : Int)) = false := df (by omega)
        have p1 : ¬ (0 : Int) < (n : Int) := by omega
        clear h0
        go_wp2_with fail
        go_meet
        exact ⟨rfl, rfl⟩
      · obtain ⟨d, hd⟩ : ∃ y, 4096 / n = y := ⟨_, rfl⟩
        have hd4 : d ≤ 4096 := by rw [← hd]; exact Nat.div_le_self _ _
        have p0 : (0 : Int) < (n : Int) := by omega
        have p0' : decide ((0 : Int) < (n : Int)) = true := dt p0
        have hq : (4096 : Int).tdiv (n : Int) = (d : Int) := by rw [← hd]; exact Int.ofNat_tdiv 4096 n
        have nz : ¬ (n : Int) = 0 := by omega
        have wd : IntKind.u64.wrap (d : Int) = (d : Int) := by simp [IntKind.wrap, IntKind.bits, IntKind.signed]; omega
        have hgt : ¬ (d : Int) < (tm : Int) := by have := Hsm.out; omega
        have hgt' : decide ((d : Int) < (tm : Int)) = false := df hgt
        clear hd hd4 h0
        go_wp2_with fail
        go_meet
        exact ⟨rfl, rfl⟩
    case rest =>
    obtain ⟨rfl, rfl⟩ := hcut
    have HVs := Lib.hid (Nat.le_refl wc.heap.size)
    obtain ⟨j0, hji, hjz0, hjz1, hjz2⟩ := info_parts op_info
    have HV := Lib.hid (Eq.refl wc)
    go_wp2_with fail
    go_loopg [10] tm (fun kk s10 wx => ∃ k : Nat, k ≤ tm ∧ tm - k = kk ∧ OpsL wc wx wc.heap.size s10 (repO k os1) ∧ Ext wc wx)
    case atStart => exact ⟨0, Nat.zero_le _, rfl, OpsL.nil _ _ _, Ext.refl _⟩
    case round =>
      obtain ⟨k, hkt, hkk, hO, hX⟩ := hrel
      obtain ⟨av, cv, evv, hcv1, hcv2, hatv⟩ := hO.at hX
      have hlk : (repO k os1).length = k * n := by rw [repO_len, Hosl.out]
      obtain ⟨kn, hkn⟩ : ∃ y, k * n = y := ⟨_, rfl⟩
      rw [hlk, hkn] at evv hcv1 hatv
      subst evv
      have hknb : kn ≤ nt := by rw [← hkn, ← Hnt.out, Nat.mul_comm k n]; exact Nat.mul_le_mul_left n hkt
      have wk : IntKind.u64.wrap (kn : Int) = (kn : Int) := by simp [IntKind.wrap, IntKind.bits, IntKind.signed]; omega
      by_cases hlt : kn < nt
      · have q1 : (kn : Int) < (nt : Int) := by omega
        have q1' : decide ((kn : Int) < (nt : Int)) = true := dt q1
        have hn0 : 0 < n := by
          rcases Nat.eq_zero_or_pos n with h0 | h0
          · rw [h0, Nat.mul_zero] at hkn; rw [← Hnt.out, h0, Nat.zero_mul] at hlt; omega
          · exact h0
        have hkl : k < tm := by
          rcases Nat.lt_or_ge k tm with h0 | h0
          · exact h0
          · have := Nat.mul_le_mul_left n h0
            rw [Hnt.out, Nat.mul_comm n k, hkn] at this; omega
        have hkn1 : kn + n ≤ nt := by
          have := Nat.mul_le_mul_left n hkl
          rw [Hnt.out, Nat.mul_succ, Nat.mul_comm n k, hkn] at this; omega
        have yb := (HbO.out.ext hX).x2
        obtain ⟨ob, oo, eoo⟩ := (Hat.out).some_of hn0
        subst eoo
        obtain ⟨ys, hyl, hyc, hyo, hyr⟩ := opsAt_cells Hat.out
        obtain ⟨xs, hown, hxr⟩ := hO
        rw [hlk, hkn] at hown
        have Hyc := Lib.hid (fun j u (hu : ys[j]? = some u) => (hX.cell (p := (⟨ob, oo, none⟩ : Addr).add j) (by
          have h1 := World.block_lt_of_cell? _ _ (hyc j u hu)
          exact h1)).trans (hyc j u hu))
        have Hown := Lib.hid hown; have Hxr := Lib.hid hxr; have Hyr := Lib.hid hyr; have Hyo := Lib.hid hyo; have Hyl := Lib.hid hyl; have HX := Lib.hid hX
        have Hkn := Lib.hid hkn; have Hlk := Lib.hid hlk; have Hkl := Lib.hid hkl
        clear hown hxr hyr hyo hyc hatv hX hlk hkn hlt
        go_wp2_with (at_builtin; refine wpList_append_own_at _ rfl _ _ 22 rfl wc.heap.size 58 j0 (.agg #[.int .i64 0, .int .i64 0, .slice none 0 0, .int .i64 0, .int .i64 0, .slice none 0 0]) 6 80 Tryd.underlying22 hji hjz0 hjz1 hjz2 rfl (by decide) _ kn xs rfl Hown.out ⟨ob, oo, none⟩ n cO ys rfl Hyl.out Hyc.out Hyo.out (by unfold maxLen; omega) (by omega) HX.out.size ?_; intro v' w7 hown' hgrow' _ _)
        have HO7 := Lib.hid (show OpsL wc w7 wc.heap.size v' (repO (k + 1) os1) by
          rw [repO_succ]
          refine OpsL.app (by rw [Hlk.out, Hkn.out]; exact Hown.out.1) (by rw [Hlk.out, Hkn.out, Hosl.out]; exact hown') Hxr.out Hyr.out)
        have HX7 := Lib.hid (grown_ext HX.out hgrow' (fun q hq => (own_lt Hown.out q hq).1))
        go_roundg (tm - (k + 1))
        case measure => have := Hkl.out; omega
        case rel => exact ⟨k + 1, Hkl.out, rfl, HO7.out, HX7.out⟩
      · have q1 : ¬ (kn : Int) < (nt : Int) := by omega
        have q1' : decide ((kn : Int) < (nt : Int)) = false := df q1
        have heq : repO k os1 = repO tm os1 := by
          rcases Nat.eq_zero_or_pos n with h0 | h0
          · have : os1 = [] := List.length_eq_zero_iff.1 (by rw [Hosl.out]; exact h0)
            rw [this]
            simp [repO]
          · have h1 : n * k = n * tm := by rw [Hnt.out, Nat.mul_comm n k, hkn]; omega
            rw [Nat.eq_of_mul_eq_mul_left h0 h1]
        have hC := HC.out.ext hX
        have y0 := hC.x0; have y1 := hC.x1; have y2 := hC.x2
        have hlk2 : (repO tm os1).length = kn := by rw [← heq, hlk, hkn]
        rw [heq] at hatv
        have Hatv := Lib.hid hatv; have Hlk2 := Lib.hid hlk2
        have HRx := Lib.hid (HR.out.ext hX); have HFx := Lib.hid (HF.out.ext hX); have HEx := Lib.hid (HE.out.trans hX)
        have Hbs := Lib.hid (show H + 3 ≤ wr.heap.size by have h1 := HF.out.lt; have h2 := hX.size; omega)
        clear hatv hlk2 hX hC heq hlk hkn hlt hO hcv1 hcv2 hkt hkk
        go_wp2_with fail
        refine (with_any qb bi ao n cp av kn cv (repO tm os1) wr Hatv.out (by omega) (fun g hg => Hfit.out g (repO_mem hg))).mono ?_
        rintro e w5 ⟨⟨a5, c5, rfl, h51, h52, hO5⟩, hx5⟩
        have bR5 := HRx.out.ext hx5; have bF5 := HFx.out.ext hx5
        have r0 := bR5.x0; have r1 := bR5.x1; have r2 := bR5.x2; have g0 := bR5.f 0; have g1 := bR5.f 1; have g2 := bR5.f 2
        have f0 := bF5.x0; have f1 := bF5.x1; have k0 := bF5.f 0; have k1 := bF5.f 1
        have zC := putCF_C bR5 (show H + 1 ≠ H + 2 by omega) qb bi a5 kn c5 0 0
        have zF := putCF_F bF5 (show H + 1 ≠ H + 2 by omega) qb bi a5 kn c5 0 0
        have zO := putCF_ops hO5 bR5 bF5 (show H + 1 < wr.heap.size + 3 by have := Hbs.out; omega) (show H + 2 < wr.heap.size + 3 by have := Hbs.out; omega) (show H + 1 ≠ H + 2 by omega) qb bi a5 kn c5 0 0
        have zE : Ext w (putCF w5 (H + 1) (H + 2) qb bi a5 kn c5 0 0) := putCF_ext (HEx.out.trans hx5) (show w.heap.size ≤ H + 1 by omega) (show w.heap.size ≤ H + 2 by omega) _ _ _ _ _ _ _
        obtain ⟨Wz, hWz⟩ : ∃ Wz, putCF w5 (H + 1) (H + 2) qb bi a5 kn c5 0 0 = Wz := ⟨_, rfl⟩
        rw [hWz] at zC zF zO zE
        unfold putCF at hWz
        have HWz := Lib.hid hWz; have HzE := Lib.hid zE; have HzO := Lib.hid (opsO_base zO (show H + 3 ≤ wr.heap.size + 3 by have := Hbs.out; omega)); have H51 := Lib.hid h51; have H52 := Lib.hid h52
        have v0 := zC.x0; have v1 := zC.x1; have v2 := zC.x2; have v3 := zF.x0; have v4 := zF.x1
        clear zC zF zO zE hWz bR5 bF5 hO5 hx5 h51 h52
        go_wp2_with fail
        rw [HWz.out]
        exact bodyPost_ret (v := .tuple #[.agg #[.int .i64 qb, .int .i64 bi, .slice a5 kn c5], .agg #[.int .i64 0, .int .i64 0]]) (by simp [results, Tryd.results21, go_sem, v0, v1, v2, v3, v4]) rfl ⟨Or.inr ⟨Hsm.out, a5, kn, c5, Hlk2.out.symm, rfl, H51.out, H52.out, by rw [HhH.out]; exact HzO.out⟩, HzE.out⟩

end Go.Proofs.YtfjbhiihfibbaaaDoor
