/-
  A device that was handed in, opened: its links as they lie in memory.
-/
import Derived.Test.YtlokfalkhgjlbaaDoorRows
import Derived.BigQuiet
import Derived.Carry
import Derived.ChangeSame
import Derived.Deep.CutRange
import Derived.Deep.LoopGhost
import Derived.Deep.RegionHeld3
import Derived.Deep.Slices
import Derived.FnData
import Derived.Lib.Hide
import Derived.OpenShut
import Derived.SizedLaws
import Derived.Stop.LaidErr
import Derived.WalkKit
import Derived.WalkLawsBesides
import Derived.WalkSpells
import Derived.Test.YtlokfalkhgjlbaaDoorS00Ce
import Derived.Test.YtlokfalkhgjlbaaDoorS01Cj
import Derived.Test.YtlokfalkhgjlbaaDoorS03Mc
import Derived.Test.YtlokfalkhgjlbaaDoorS04Mg
import Derived.Test.YtlokfalkhgjlbaaDoorS09Cw
namespace Go.Proofs.YtlokfalkhgjlbaaDoor
open Go.RowKit Go.ChangeShapes Go.WideShapes Go.Deep

section
variable {H : Type} {enc : TypeId × Value → H} {W : World}
theorem bytes_lnk : Tryd.prog.bytesOf 76 = 16 := by kernel_rfl
theorem cells_lnk : Tryd.prog.cellsOf 76 = 2 := by kernel_rfl
theorem cells_dv : Tryd.prog.cellsOf 24 = 2 := by kernel_rfl

set_option maxRecDepth 100000 in
theorem open_lnk {fuel : Nat} {cs : List Value} {x : DataW H × List MemPlace} (h : DataW.trod enc Tryd.prog W 0 (fun _ => true) true fuel 76 cs = some x) :
    ∃ k : Lnk, cs = [.int .i64 k.1, .int .i64 k.2] := by
  obtain ⟨xs, n, _, rfl, hl, hlen, hf⟩ := DataW.trod_array Tryd.underlying76 h
  rw [cells_lnk] at hl
  rw [cells_int] at hf
  match xs, hlen, cs, hl with
  | [y0, y1], _, [v0, v1], _ =>
    have g0 := hf 0 (by omega)
    have g1 := hf 1 (by omega)
    simp only [List.getElem?_cons_zero, List.getElem?_cons_succ] at g0 g1
    obtain ⟨k0, e0, _⟩ := DataW.trod_int Tryd.underlying3 g0
    obtain ⟨k1, e1, _⟩ := DataW.trod_int Tryd.underlying3 g1
    have e0' : v0 = .int .i64 k0 := by simpa using e0
    have e1' : v1 = .int .i64 k1 := by simpa using e1
    exact ⟨(k0, k1), by rw [e0', e1']⟩

set_option maxRecDepth 100000 in
theorem open_device {v : Value} {d : DataW H} {p : List MemPlace} {base : Nat} (hok : Value.okWide Tryd.prog W .any base 24 v) (h : DataW.Trod enc Tryd.prog W 0 (fun _ => true) true 24 v d p) (hz : ∀ k ∈ d.weights Tryd.prog 24, k ≤ reachBytes) :
    ∃ (N : Int) (ls : List Lnk) (ao : Option Addr) (n cp : Nat), v = .agg #[.int .i64 N, .slice ao n cp] ∧ LnkAt W ao n ls ∧ n ≤ cp ∧ cp ≤ 9223372036854775807 ∧ n * 16 ≤ 140737488355328 ∧ (ao = none → cp = 0) := by
  obtain ⟨fuel, h⟩ := h
  have hv : ∃ cs : Array Value, v = .agg cs := by
    unfold Value.okWide at hok
    rw [Tryd.underlying24] at hok
    obtain ⟨cs, e, _⟩ := hok
    exact ⟨cs, e⟩
  obtain ⟨cs, rfl⟩ := hv
  obtain ⟨xs, n, _, hx0, hl, hlen, hf⟩ := DataW.trod_struct Tryd.underlying24 h
  obtain ⟨cl⟩ := cs
  have hcl : (Value.agg ⟨cl⟩).cells.toList = cl := rfl
  rw [hcl] at hl hf
  rw [cells_dv] at hl
  match xs, hlen, cl, hl with
  | [y0, y1], _, [v0, v1], _ =>
    injection hx0 with hd hp
    subst hd
    have g0 := hf 0 _ rfl
    have g1 := hf 1 _ rfl
    simp only [List.getElem?_cons_zero, List.getElem?_cons_succ] at g0 g1
    obtain ⟨N, e0, _⟩ := DataW.trod_int Tryd.underlying3 g0
    injection e0 with e0
    have hz2 : ∀ k ∈ y1.1.weights Tryd.prog 22, k ≤ reachBytes := fun k hk => hz k (by simp [DataW.weights, Tryd.underlying24, DataW.weightsEach, hk])
    rcases open_slice Tryd.underlying22 g1 with ⟨e2, _⟩ | ⟨a, len, cap, m, n', D, Pl, e2, _, hl2, hm2, hmm, hy2, hx⟩
    · injection e2 with e2
      exact ⟨N, [], none, 0, 0, by rw [e0, e2], ⟨rfl, Or.inl rfl⟩, by omega, by omega, by omega, fun _ => rfl⟩
    · injection e2 with e2
      have hmc : m = cap := by simpa using hmm
      subst hmc
      rw [cells_lnk] at hx
      subst hy2
      have hr : reachBytes ≤ 140737488355328 := by decide
      have hb := hz2 ((len + (m - len)) * Tryd.prog.bytesOf 76) (by simp [DataW.weights, Tryd.underlying22])
      rw [bytes_lnk] at hb
      obtain ⟨b, o, spot⟩ := a
      have hpos : 0 < len → spot = none := fun h0 => by
        obtain ⟨cs', h1, _⟩ := hx 0 (by omega)
        obtain ⟨_, hlen', hc⟩ := World.cells?_some h1
        have h2 := hc 0 (by omega)
        rw [List.getElem?_eq_getElem (by omega)] at h2
        simpa [Addr.add] using World.cell?_spot h2
      obtain ⟨G, hG⟩ := choose_lt (α := Lnk) (n := len) (p := fun i g => W.cell? ⟨b, o + i * 2, none⟩ = some (.int .i64 g.1) ∧ W.cell? ⟨b, o + i * 2 + 1, none⟩ = some (.int .i64 g.2)) (fun i hi => by
        obtain rfl := hpos (by omega)
        obtain ⟨cs', h1, h2⟩ := hx i (by omega)
        obtain ⟨_, _, hc⟩ := World.cells?_some h1
        obtain ⟨g, rfl⟩ := open_lnk h2
        have hc' : ∀ j, j < 2 → W.cell? ⟨b, o + i * 2 + j, none⟩ = ([.int .i64 g.1, .int .i64 g.2] : List Value)[j]? := fun j hj => by have := hc j hj; rw [add_add, addr_at, ← Nat.add_assoc] at this; exact this
        exact ⟨g, hc' 0 (by omega), hc' 1 (by omega)⟩)
      refine ⟨N, (List.range len).map G, some ⟨b, o, spot⟩, len, m, by rw [e0, e2], ⟨by simp, ?_⟩, hl2, hm2, by omega, fun e => by cases e⟩
      by_cases h0 : len = 0
      · exact Or.inl h0
      · obtain rfl := hpos (by omega)
        obtain ⟨hc0, _⟩ := hG 0 (by omega)
        refine Or.inr ⟨b, o, rfl, World.block_lt_of_cell? W _ hc0, fun t ht => ?_⟩
        have := hG t ht
        have e : ((List.range len).map G).getD t (0, 0) = G t := by
          rw [List.getD_eq_getElem?_getD, List.getElem?_map, List.getElem?_range ht]; rfl
        rw [e]; exact this
end
end Go.Proofs.YtlokfalkhgjlbaaDoor
