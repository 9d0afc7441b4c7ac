/-
  A circuit that was handed in, opened: its operations and their lists as they lie in memory.
-/
import Derived.Test.YtfjbhiihfibbaaaDoorMCf
import Derived.Deep.Slices
import Derived.SizedLaws

namespace Go.Proofs.YtfjbhiihfibbaaaDoor
open Go.RowKit Go.ChangeShapes Go.WideShapes Go.Deep

instance : Inhabited Gop := ⟨⟨0, 0, [], 0, 0, []⟩⟩

theorem addr_at (b o t : Nat) : (⟨b, o, none⟩ : Addr).add t = ⟨b, o + t, none⟩ := by
  unfold Addr.add
  by_cases h : t = 0 <;> simp [h]

section
variable {H : Type} {enc : TypeId × Value → H} {W : World}

theorem bytes_int : Tryd.prog.bytesOf 3 = 8 := by kernel_rfl
theorem bytes_op : Tryd.prog.bytesOf 58 = 80 := by kernel_rfl
theorem cells_int : Tryd.prog.cellsOf 3 = 1 := by kernel_rfl
theorem cells_ints : Tryd.prog.cellsOf 32 = 1 := by kernel_rfl
theorem cells_ops : Tryd.prog.cellsOf 22 = 1 := by kernel_rfl
theorem cells_op : Tryd.prog.cellsOf 58 = 6 := by kernel_rfl
theorem cells_ci : Tryd.prog.cellsOf 24 = 3 := by kernel_rfl

theorem open_ints {fuel : Nat} {cs : List Value} {x : DataW H × List MemPlace} (h : DataW.trod enc Tryd.prog W 0 (fun _ => true) true fuel 32 cs = some x) (hz : ∀ k ∈ x.1.weights Tryd.prog 32, k ≤ reachBytes) :
    ∃ (ao : Option Addr) (n cp : Nat) (l : List Int), cs = [.slice ao n cp] ∧ n ≤ cp ∧ cp ≤ 9223372036854775807 ∧ IntsAt W ao n l ∧ l.length * 8 ≤ 140737488355328 := by
  rcases open_slice1 Tryd.underlying32 cells_int h with ⟨rfl, rfl⟩ | ⟨a, len, cap, m, n, V, D, Pl, rfl, _, hl, hm, hmm, rfl, hx⟩
  · exact ⟨none, 0, 0, [], rfl, by omega, by omega, ⟨rfl, Or.inl rfl⟩, by simp⟩
  · have hmc : m = cap := by simpa using hmm
    subst hmc
    obtain ⟨F, hF⟩ := choose_lt (α := Int) (n := m) (p := fun i z => W.cell? (a.add i) = some (.int .i64 z)) (fun i hi => by
      obtain ⟨h1, h2⟩ := hx i hi
      obtain ⟨z, e, _⟩ := DataW.trod_int Tryd.underlying3 h2
      injection e with e
      exact ⟨z, by rw [h1, e]⟩)
    refine ⟨some a, len, m, (List.range len).map F, rfl, hl, hm, ⟨by simp, ?_⟩, ?_⟩
    · by_cases h0 : len = 0
      · exact Or.inl h0
      · obtain ⟨b, o, spot⟩ := a
        have h1 := hF 0 (by omega)
        have hs : spot = none := by simpa [Addr.add] using World.cell?_spot h1
        subst hs
        refine Or.inr ⟨b, o, rfl, World.block_lt_of_cell? W _ h1, fun t ht => ?_⟩
        have := hF t (by omega)
        rw [addr_at] at this
        simpa [List.getD_eq_getElem?_getD, ht] using this
    · have := hz ((len + (m - len)) * Tryd.prog.bytesOf 3) (by simp [DataW.weights, Tryd.underlying32])
      rw [bytes_int] at this
      have hr : reachBytes ≤ 140737488355328 := by decide
      rw [List.length_map, List.length_range]
      omega

set_option maxRecDepth 100000 in
theorem open_op {fuel : Nat} {cs : List Value} {x : DataW H × List MemPlace} (h : DataW.trod enc Tryd.prog W 0 (fun _ => true) true fuel 58 cs = some x) (hz : ∀ k ∈ x.1.weights Tryd.prog 58, k ≤ reachBytes) :
    ∃ (o : Gop) (a1 : Option Addr) (n1 c1 : Nat) (a2 : Option Addr) (n2 c2 : Nat), cs = [.int .i64 o.kind, .int .i64 o.k, .slice a1 n1 c1, .int .i64 o.q, .int .i64 o.bit, .slice a2 n2 c2] ∧ OpL W o a1 n1 c1 a2 n2 c2 ∧ o.ctl.length * 8 ≤ 140737488355328 ∧ o.cnd.length * 8 ≤ 140737488355328 := by
  obtain ⟨xs, n, _, rfl, hl, hlen, hf⟩ := DataW.trod_struct Tryd.underlying58 h
  rw [cells_op] at hl
  match xs, hlen, cs, hl with
  | [y0, y1, y2, y3, y4, y5], _, [v0, v1, v2, v3, v4, v5], _ =>
    have g0 := hf 0 _ rfl
    have g1 := hf 1 _ rfl
    have g2 := hf 2 _ rfl
    have g3 := hf 3 _ rfl
    have g4 := hf 4 _ rfl
    have g5 := hf 5 _ rfl
    simp only [List.getElem?_cons_zero, List.getElem?_cons_succ] at g0 g1 g2 g3 g4 g5
    obtain ⟨k0, e0, _⟩ := DataW.trod_int Tryd.underlying3 g0
    obtain ⟨k1, e1, _⟩ := DataW.trod_int Tryd.underlying3 g1
    obtain ⟨k3, e3, _⟩ := DataW.trod_int Tryd.underlying3 g3
    obtain ⟨k4, e4, _⟩ := DataW.trod_int Tryd.underlying3 g4
    obtain ⟨a1, n1, c1, l1, e2, p2, q2, I2, b2⟩ := open_ints g2 (fun k hk => hz k (by simp [DataW.weights, Tryd.underlying58, DataW.weightsEach, hk]))
    obtain ⟨a2, n2, c2, l2, e5, p5, q5, I5, b5⟩ := open_ints g5 (fun k hk => hz k (by simp [DataW.weights, Tryd.underlying58, DataW.weightsEach, hk]))
    injection e0 with e0; injection e1 with e1; injection e2 with e2; injection e3 with e3; injection e4 with e4; injection e5 with e5
    exact ⟨⟨k0, k1, l1, k3, k4, l2⟩, a1, n1, c1, a2, n2, c2, by rw [e0, e1, e2, e3, e4, e5], ⟨I2, p2, q2, I5, p5, q5⟩, b2, b5⟩

set_option maxRecDepth 100000 in
theorem open_circuit {v : Value} {d : DataW H} {p : List MemPlace} {base : Nat} (hok : Value.okWide Tryd.prog W .any base 24 v) (h : DataW.Trod enc Tryd.prog W 0 (fun _ => true) true 24 v d p) (hz : ∀ k ∈ d.weights Tryd.prog 24, k ≤ reachBytes) :
    ∃ (c : Gci) (ao : Option Addr) (n cp : Nat), v = .agg #[.int .i64 c.qubits, .int .i64 c.bits, .slice ao n cp] ∧ OpsAt W ao n c.ops ∧ n ≤ cp ∧ cp ≤ 9223372036854775807 ∧ n * 80 ≤ 140737488355328 ∧ ∀ g ∈ c.ops, g.ctl.length * 8 ≤ 140737488355328 ∧ g.cnd.length * 8 ≤ 140737488355328 := by
  obtain ⟨fuel, h⟩ := h
  have hv : ∃ cs : Array Value, v = .agg cs := by
    unfold Value.okWide at hok
    rw [Tryd.underlying24] at hok
    obtain ⟨cs, e, _⟩ := hok
    exact ⟨cs, e⟩
  obtain ⟨cs, rfl⟩ := hv
  obtain ⟨xs, n, _, hx0, hl, hlen, hf⟩ := DataW.trod_struct Tryd.underlying24 h
  obtain ⟨cl⟩ := cs
  have hcl : (Value.agg ⟨cl⟩).cells.toList = cl := rfl
  rw [hcl] at hl hf
  rw [cells_ci] at hl
  match xs, hlen, cl, hl with
  | [y0, y1, y2], _, [v0, v1, v2], _ =>
    injection hx0 with hd hp
    subst hd
    have g0 := hf 0 _ rfl
    have g1 := hf 1 _ rfl
    have g2 := hf 2 _ rfl
    simp only [List.getElem?_cons_zero, List.getElem?_cons_succ] at g0 g1 g2
    obtain ⟨qb, e0, _⟩ := DataW.trod_int Tryd.underlying3 g0
    obtain ⟨bi, e1, _⟩ := DataW.trod_int Tryd.underlying3 g1
    injection e0 with e0; injection e1 with e1
    have hz2 : ∀ k ∈ y2.1.weights Tryd.prog 22, k ≤ reachBytes := fun k hk => hz k (by simp [DataW.weights, Tryd.underlying24, DataW.weightsEach, hk])
    rcases open_slice Tryd.underlying22 g2 with ⟨e2, _⟩ | ⟨a, len, cap, m, n', D, Pl, e2, _, hl2, hm2, hmm, hy2, hx⟩
    · injection e2 with e2
      refine ⟨⟨qb, bi, []⟩, none, 0, 0, by rw [e0, e1, e2], ⟨rfl, Or.inl rfl⟩, by omega, by omega, by omega, by simp⟩
    · injection e2 with e2
      have hmc : m = cap := by simpa using hmm
      subst hmc
      rw [cells_op] at hx
      subst hy2
      have hr : reachBytes ≤ 140737488355328 := by decide
      have hb := hz2 ((len + (m - len)) * Tryd.prog.bytesOf 58) (by simp [DataW.weights, Tryd.underlying22])
      rw [bytes_op] at hb
      have hel : ∀ i, i < len → ∀ k ∈ (D i).weights Tryd.prog 58, k ≤ reachBytes := by
        intro i hi k hk
        refine hz2 k ?_
        have hmem : ∀ (l : List (DataW H)) (d : DataW H), d ∈ l → ∀ k ∈ d.weights Tryd.prog 58, k ∈ DataW.weightsAll Tryd.prog 58 l := by
          intro l
          induction l with
          | nil => intro d hd; simp at hd
          | cons a r ih =>
            intro d hd k hk
            rw [DataW.weightsAll, List.mem_append]
            rcases List.mem_cons.1 hd with rfl | hd
            · exact Or.inl hk
            · exact Or.inr (ih d hd k hk)
        have := hmem ((List.range len).map D) (D i) (List.mem_map.2 ⟨i, List.mem_range.2 hi, rfl⟩) k hk
        simp only [DataW.weights, Tryd.underlying22]
        exact List.mem_cons_of_mem _ (List.mem_append_left _ this)
      obtain ⟨b, o, spot⟩ := a
      have hpos : 0 < len → spot = none := fun h0 => by
        obtain ⟨cs', h1, _⟩ := hx 0 (by omega)
        obtain ⟨_, hlen', hc⟩ := World.cells?_some h1
        have h2 := hc 0 (by omega)
        rw [List.getElem?_eq_getElem (by omega)] at h2
        simpa [Addr.add] using World.cell?_spot h2
      obtain ⟨G, hG⟩ := choose_lt (α := Gop) (n := len) (p := fun i g => ∃ (a1 : Option Addr) (n1 c1 : Nat) (a2 : Option Addr) (n2 c2 : Nat), W.cell? ⟨b, o + i * 6, none⟩ = some (.int .i64 g.kind) ∧ W.cell? ⟨b, o + i * 6 + 1, none⟩ = some (.int .i64 g.k) ∧ W.cell? ⟨b, o + i * 6 + 2, none⟩ = some (.slice a1 n1 c1) ∧ W.cell? ⟨b, o + i * 6 + 3, none⟩ = some (.int .i64 g.q) ∧ W.cell? ⟨b, o + i * 6 + 4, none⟩ = some (.int .i64 g.bit) ∧ W.cell? ⟨b, o + i * 6 + 5, none⟩ = some (.slice a2 n2 c2) ∧ OpL W g a1 n1 c1 a2 n2 c2 ∧ g.ctl.length * 8 ≤ 140737488355328 ∧ g.cnd.length * 8 ≤ 140737488355328) (fun i hi => by
        obtain rfl := hpos (by omega)
        obtain ⟨cs', h1, h2⟩ := hx i (by omega)
        obtain ⟨_, _, hc⟩ := World.cells?_some h1
        obtain ⟨g, a1, n1, c1, a2, n2, c2, rfl, hL, b1, b2⟩ := open_op h2 (hel i hi)
        have hc' : ∀ j, j < 6 → W.cell? ⟨b, o + i * 6 + j, none⟩ = ([.int .i64 g.kind, .int .i64 g.k, .slice a1 n1 c1, .int .i64 g.q, .int .i64 g.bit, .slice a2 n2 c2] : List Value)[j]? := fun j hj => by have := hc j hj; rw [add_add, addr_at, ← Nat.add_assoc] at this; exact this
        exact ⟨g, a1, n1, c1, a2, n2, c2, hc' 0 (by omega), hc' 1 (by omega), hc' 2 (by omega), hc' 3 (by omega), hc' 4 (by omega), hc' 5 (by omega), hL, b1, b2⟩)
      refine ⟨⟨qb, bi, (List.range len).map G⟩, some ⟨b, o, spot⟩, len, m, by rw [e0, e1, e2], ⟨by simp, ?_⟩, hl2, hm2, by omega, ?_⟩
      · by_cases h0 : len = 0
        · exact Or.inl h0
        · obtain rfl := hpos (by omega)
          obtain ⟨_, _, _, _, _, _, hc0, _⟩ := hG 0 (by omega)
          refine Or.inr ⟨b, o, rfl, World.block_lt_of_cell? W _ hc0, fun t g hg => ?_⟩
          have ht : t < len := by
            have := (List.getElem?_eq_some_iff.1 hg).1
            simpa using this
          have hge : g = G t := by
            have := hg
            simp [ht] at this
            exact this.symm
          subst hge
          obtain ⟨a1, n1, c1, a2, n2, c2, x0, x1, x2, x3, x4, x5, hL, _, _⟩ := hG t ht
          exact ⟨a1, n1, c1, a2, n2, c2, x0, x1, x2, x3, x4, x5, hL⟩
      · intro g hg
        simp only [List.mem_map, List.mem_range] at hg
        obtain ⟨i, hi, rfl⟩ := hg
        obtain ⟨_, _, _, _, _, _, _, _, _, _, _, _, _, b1, b2⟩ := hG i hi
        exact ⟨b1, b2⟩
end

end Go.Proofs.YtfjbhiihfibbaaaDoor
