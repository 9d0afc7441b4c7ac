/-
  A circuit that was handed in, opened: its operations and their lists as they lie in memory. The table of kinds, as it is laid; what is asked behind a call that leaves all that lay there as it was.
-/
import Derived.Test.YtfjnlopbmkimiaaGreatDoorRows
import Derived.BigQuiet
import Derived.Carry
import Derived.ChangeSame
import Derived.Deep.CutRange
import Derived.Deep.LoopGhost
import Derived.Deep.RegionHeld3
import Derived.Deep.Slices
import Derived.FnData
import Derived.Lib.Hide
import Derived.OpenShut
import Derived.SizedLaws
import Derived.Stop.LaidErr
import Derived.WalkKit
import Derived.WalkLawsBesides
import Derived.WalkSpells
import Derived.Test.YtfjnlopbmkimiaaGreatDoorS00Mem
import Derived.Test.YtfjnlopbmkimiaaGreatDoorS08ZC
import Derived.Test.YtfjnlopbmkimiaaGreatDoorS11Xo
import Derived.Test.YtfjnlopbmkimiaaGreatDoorS12Xm
namespace Go.Proofs.YtfjnlopbmkimiaaGreatDoor
open Go.RowKit Go.ChangeShapes Go.WideShapes Go.Deep

instance : Inhabited Gop := ⟨⟨0, 0, [], 0, 0, []⟩⟩

theorem addr_at (b o t : Nat) : (⟨b, o, none⟩ : Addr).add t = ⟨b, o + t, none⟩ := by
  unfold Addr.add
  by_cases h : t = 0 <;> simp [h]

section
variable {H : Type} {enc : TypeId × Value → H} {W : World}

theorem bytes_int : Tryz.prog.bytesOf 3 = 8 := by kernel_rfl
theorem bytes_op : Tryz.prog.bytesOf 60 = 80 := by kernel_rfl
theorem cells_int : Tryz.prog.cellsOf 3 = 1 := by kernel_rfl
theorem cells_op : Tryz.prog.cellsOf 60 = 6 := by kernel_rfl
theorem cells_ci : Tryz.prog.cellsOf 24 = 3 := by kernel_rfl

theorem open_ints {fuel : Nat} {cs : List Value} {x : DataW H × List MemPlace} (h : DataW.trod enc Tryz.prog W 0 (fun _ => true) true fuel 25 cs = some x) (hz : ∀ k ∈ x.1.weights Tryz.prog 25, k ≤ reachBytes) :
    ∃ (ao : Option Addr) (n cp : Nat) (l : List Int), cs = [.slice ao n cp] ∧ n ≤ cp ∧ cp ≤ 9223372036854775807 ∧ IntsAt W ao n l ∧ l.length * 8 ≤ 140737488355328 := by
  rcases open_slice1 Tryz.underlying25 cells_int h with ⟨rfl, rfl⟩ | ⟨a, len, cap, m, n, V, D, Pl, rfl, _, hl, hm, hmm, rfl, hx⟩
  · exact ⟨none, 0, 0, [], rfl, by omega, by omega, ⟨rfl, Or.inl rfl⟩, by simp⟩
  · have hmc : m = cap := by simpa using hmm
    subst hmc
    obtain ⟨F, hF⟩ := choose_lt (α := Int) (n := m) (p := fun i z => W.cell? (a.add i) = some (.int .i64 z)) (fun i hi => by
      obtain ⟨h1, h2⟩ := hx i hi
      obtain ⟨z, e, _⟩ := DataW.trod_int Tryz.underlying3 h2
      injection e with e
      exact ⟨z, by rw [h1, e]⟩)
    refine ⟨some a, len, m, (List.range len).map F, rfl, hl, hm, ⟨by simp, ?_⟩, ?_⟩
    · by_cases h0 : len = 0
      · exact Or.inl h0
      · obtain ⟨b, o, spot⟩ := a
        have h1 := hF 0 (by omega)
        have hs : spot = none := by simpa [Addr.add] using World.cell?_spot h1
        subst hs
        refine Or.inr ⟨b, o, rfl, World.block_lt_of_cell? W _ h1, fun t ht => ?_⟩
        have := hF t (by omega)
        rw [addr_at] at this
        simpa [List.getD_eq_getElem?_getD, ht] using this
    · have := hz ((len + (m - len)) * Tryz.prog.bytesOf 3) (by simp [DataW.weights, Tryz.underlying25])
      rw [bytes_int] at this
      have hr : reachBytes ≤ 140737488355328 := by decide
      rw [List.length_map, List.length_range]
      omega

set_option maxRecDepth 100000 in
theorem open_op {fuel : Nat} {cs : List Value} {x : DataW H × List MemPlace} (h : DataW.trod enc Tryz.prog W 0 (fun _ => true) true fuel 60 cs = some x) (hz : ∀ k ∈ x.1.weights Tryz.prog 60, k ≤ reachBytes) :
    ∃ (o : Gop) (a1 : Option Addr) (n1 c1 : Nat) (a2 : Option Addr) (n2 c2 : Nat), cs = [.int .i64 o.kind, .int .i64 o.k, .slice a1 n1 c1, .int .i64 o.q, .int .i64 o.bit, .slice a2 n2 c2] ∧ OpL W o a1 n1 c1 a2 n2 c2 ∧ o.ctl.length * 8 ≤ 140737488355328 ∧ o.cnd.length * 8 ≤ 140737488355328 := by
  obtain ⟨xs, n, _, rfl, hl, hlen, hf⟩ := DataW.trod_struct Tryz.underlying60 h
  rw [cells_op] at hl
  match xs, hlen, cs, hl with
  | [y0, y1, y2, y3, y4, y5], _, [v0, v1, v2, v3, v4, v5], _ =>
    have g0 := hf 0 _ rfl
    have g1 := hf 1 _ rfl
    have g2 := hf 2 _ rfl
    have g3 := hf 3 _ rfl
    have g4 := hf 4 _ rfl
    have g5 := hf 5 _ rfl
    simp only [List.getElem?_cons_zero, List.getElem?_cons_succ] at g0 g1 g2 g3 g4 g5
    obtain ⟨k0, e0, _⟩ := DataW.trod_int Tryz.underlying3 g0
    obtain ⟨k1, e1, _⟩ := DataW.trod_int Tryz.underlying3 g1
    obtain ⟨k3, e3, _⟩ := DataW.trod_int Tryz.underlying3 g3
    obtain ⟨k4, e4, _⟩ := DataW.trod_int Tryz.underlying3 g4
    obtain ⟨a1, n1, c1, l1, e2, p2, q2, I2, b2⟩ := open_ints g2 (fun k hk => hz k (by simp [DataW.weights, Tryz.underlying60, DataW.weightsEach, hk]))
    obtain ⟨a2, n2, c2, l2, e5, p5, q5, I5, b5⟩ := open_ints g5 (fun k hk => hz k (by simp [DataW.weights, Tryz.underlying60, DataW.weightsEach, hk]))
    injection e0 with e0; injection e1 with e1; injection e2 with e2; injection e3 with e3; injection e4 with e4; injection e5 with e5
    exact ⟨⟨k0, k1, l1, k3, k4, l2⟩, a1, n1, c1, a2, n2, c2, by rw [e0, e1, e2, e3, e4, e5], ⟨I2, p2, q2, I5, p5, q5⟩, b2, b5⟩

set_option maxRecDepth 100000 in
theorem open_circuit_n {v : Value} {d : DataW H} {p : List MemPlace} {base : Nat} (hok : Value.okWide Tryz.prog W .any base 24 v) (h : DataW.Trod enc Tryz.prog W 0 (fun _ => true) true 24 v d p) (hz : ∀ k ∈ d.weights Tryz.prog 24, k ≤ reachBytes) :
    ∃ (c : Gci) (ao : Option Addr) (n cp : Nat), v = .agg #[.int .i64 c.qubits, .int .i64 c.bits, .slice ao n cp] ∧ OpsAt W ao n c.ops ∧ n ≤ cp ∧ cp ≤ 9223372036854775807 ∧ n * 80 ≤ 140737488355328 ∧ (∀ g ∈ c.ops, g.ctl.length * 8 ≤ 140737488355328 ∧ g.cnd.length * 8 ≤ 140737488355328) ∧ (ao = none → cp = 0) := by
  obtain ⟨fuel, h⟩ := h
  have hv : ∃ cs : Array Value, v = .agg cs := by
    unfold Value.okWide at hok
    rw [Tryz.underlying24] at hok
    obtain ⟨cs, e, _⟩ := hok
    exact ⟨cs, e⟩
  obtain ⟨cs, rfl⟩ := hv
  obtain ⟨xs, n, _, hx0, hl, hlen, hf⟩ := DataW.trod_struct Tryz.underlying24 h
  obtain ⟨cl⟩ := cs
  have hcl : (Value.agg ⟨cl⟩).cells.toList = cl := rfl
  rw [hcl] at hl hf
  rw [cells_ci] at hl
  match xs, hlen, cl, hl with
  | [y0, y1, y2], _, [v0, v1, v2], _ =>
    injection hx0 with hd hp
    subst hd
    have g0 := hf 0 _ rfl
    have g1 := hf 1 _ rfl
    have g2 := hf 2 _ rfl
    simp only [List.getElem?_cons_zero, List.getElem?_cons_succ] at g0 g1 g2
    obtain ⟨qb, e0, _⟩ := DataW.trod_int Tryz.underlying3 g0
    obtain ⟨bi, e1, _⟩ := DataW.trod_int Tryz.underlying3 g1
    injection e0 with e0; injection e1 with e1
    have hz2 : ∀ k ∈ y2.1.weights Tryz.prog 22, k ≤ reachBytes := fun k hk => hz k (by simp [DataW.weights, Tryz.underlying24, DataW.weightsEach, hk])
    rcases open_slice Tryz.underlying22 g2 with ⟨e2, _⟩ | ⟨a, len, cap, m, n', D, Pl, e2, _, hl2, hm2, hmm, hy2, hx⟩
    · injection e2 with e2
      refine ⟨⟨qb, bi, []⟩, none, 0, 0, by rw [e0, e1, e2], ⟨rfl, Or.inl rfl⟩, by omega, by omega, by omega, by simp, fun _ => rfl⟩
    · injection e2 with e2
      have hmc : m = cap := by simpa using hmm
      subst hmc
      rw [cells_op] at hx
      subst hy2
      have hr : reachBytes ≤ 140737488355328 := by decide
      have hb := hz2 ((len + (m - len)) * Tryz.prog.bytesOf 60) (by simp [DataW.weights, Tryz.underlying22])
      rw [bytes_op] at hb
      have hel : ∀ i, i < len → ∀ k ∈ (D i).weights Tryz.prog 60, k ≤ reachBytes := by
        intro i hi k hk
        refine hz2 k ?_
        have hmem : ∀ (l : List (DataW H)) (d : DataW H), d ∈ l → ∀ k ∈ d.weights Tryz.prog 60, k ∈ DataW.weightsAll Tryz.prog 60 l := by
          intro l
          induction l with
          | nil => intro d hd; simp at hd
          | cons a r ih =>
            intro d hd k hk
            rw [DataW.weightsAll, List.mem_append]
            rcases List.mem_cons.1 hd with rfl | hd
            · exact Or.inl hk
            · exact Or.inr (ih d hd k hk)
        have := hmem ((List.range len).map D) (D i) (List.mem_map.2 ⟨i, List.mem_range.2 hi, rfl⟩) k hk
        simp only [DataW.weights, Tryz.underlying22]
        exact List.mem_cons_of_mem _ (List.mem_append_left _ this)
      obtain ⟨b, o, spot⟩ := a
      have hpos : 0 < len → spot = none := fun h0 => by
        obtain ⟨cs', h1, _⟩ := hx 0 (by omega)
        obtain ⟨_, hlen', hc⟩ := World.cells?_some h1
        have h2 := hc 0 (by omega)
        rw [List.getElem?_eq_getElem (by omega)] at h2
        simpa [Addr.add] using World.cell?_spot h2
      obtain ⟨G, hG⟩ := choose_lt (α := Gop) (n := len) (p := fun i g => ∃ (a1 : Option Addr) (n1 c1 : Nat) (a2 : Option Addr) (n2 c2 : Nat), W.cell? ⟨b, o + i * 6, none⟩ = some (.int .i64 g.kind) ∧ W.cell? ⟨b, o + i * 6 + 1, none⟩ = some (.int .i64 g.k) ∧ W.cell? ⟨b, o + i * 6 + 2, none⟩ = some (.slice a1 n1 c1) ∧ W.cell? ⟨b, o + i * 6 + 3, none⟩ = some (.int .i64 g.q) ∧ W.cell? ⟨b, o + i * 6 + 4, none⟩ = some (.int .i64 g.bit) ∧ W.cell? ⟨b, o + i * 6 + 5, none⟩ = some (.slice a2 n2 c2) ∧ OpL W g a1 n1 c1 a2 n2 c2 ∧ g.ctl.length * 8 ≤ 140737488355328 ∧ g.cnd.length * 8 ≤ 140737488355328) (fun i hi => by
        obtain rfl := hpos (by omega)
        obtain ⟨cs', h1, h2⟩ := hx i (by omega)
        obtain ⟨_, _, hc⟩ := World.cells?_some h1
        obtain ⟨g, a1, n1, c1, a2, n2, c2, rfl, hL, b1, b2⟩ := open_op h2 (hel i hi)
        have hc' : ∀ j, j < 6 → W.cell? ⟨b, o + i * 6 + j, none⟩ = ([.int .i64 g.kind, .int .i64 g.k, .slice a1 n1 c1, .int .i64 g.q, .int .i64 g.bit, .slice a2 n2 c2] : List Value)[j]? := fun j hj => by have := hc j hj; rw [add_add, addr_at, ← Nat.add_assoc] at this; exact this
        exact ⟨g, a1, n1, c1, a2, n2, c2, hc' 0 (by omega), hc' 1 (by omega), hc' 2 (by omega), hc' 3 (by omega), hc' 4 (by omega), hc' 5 (by omega), hL, b1, b2⟩)
      refine ⟨⟨qb, bi, (List.range len).map G⟩, some ⟨b, o, spot⟩, len, m, by rw [e0, e1, e2], ⟨by simp, ?_⟩, hl2, hm2, by omega, ?_, fun e => by cases e⟩
      · by_cases h0 : len = 0
        · exact Or.inl h0
        · obtain rfl := hpos (by omega)
          obtain ⟨_, _, _, _, _, _, hc0, _⟩ := hG 0 (by omega)
          refine Or.inr ⟨b, o, rfl, World.block_lt_of_cell? W _ hc0, fun t g hg => ?_⟩
          have ht : t < len := by
            have := (List.getElem?_eq_some_iff.1 hg).1
            simpa using this
          have hge : g = G t := by
            have := hg
            simp [ht] at this
            exact this.symm
          subst hge
          obtain ⟨a1, n1, c1, a2, n2, c2, x0, x1, x2, x3, x4, x5, hL, _, _⟩ := hG t ht
          exact ⟨a1, n1, c1, a2, n2, c2, x0, x1, x2, x3, x4, x5, hL⟩
      · intro g hg
        simp only [List.mem_map, List.mem_range] at hg
        obtain ⟨i, hi, rfl⟩ := hg
        obtain ⟨_, _, _, _, _, _, _, _, _, _, _, _, _, b1, b2⟩ := hG i hi
        exact ⟨b1, b2⟩
end

end Go.Proofs.YtfjnlopbmkimiaaGreatDoor
namespace Go.Proofs.YtfjnlopbmkimiaaGreatDoor
open Go.RowKit Go.ChangeShapes Go.WideShapes

set_option maxRecDepth 100000 in
theorem shape_row {H : Type} {enc : TypeId × Value → H} {W : World} {base : Nat} {sp : Nat → Bool} {held : Bool} {fuel : Nat} {cs : List Value} {s : List UInt8} {a b c d : Bool} {p : List MemPlace}
    (h : DataW.trod enc Tryz.prog W base sp held fuel 129 cs = some (.agg [.lit (.string s), .lit (.bool a), .lit (.bool b), .lit (.bool c), .lit (.bool d)], p)) :
    cs = [.string ⟨s.toArray⟩, .bool a, .bool b, .bool c, .bool d] := by
  obtain ⟨xs, n, _, hx, hl, hlen, hf⟩ := DataW.trod_struct Tryz.underlying129 h
  have hc : Tryz.prog.cellsOf 129 = 5 := by kernel_rfl
  rw [hc] at hl
  match xs, hlen, cs, hl with
  | [y0, y1, y2, y3, y4], _, [v0, v1, v2, v3, v4], _ =>
    have g0 := hf 0 _ rfl
    have g1 := hf 1 _ rfl
    have g2 := hf 2 _ rfl
    have g3 := hf 3 _ rfl
    have g4 := hf 4 _ rfl
    simp only [List.getElem?_cons_zero, List.getElem?_cons_succ] at g0 g1 g2 g3 g4
    obtain ⟨s0, e0, z0, _⟩ := DataW.trod_string Tryz.underlying9 g0
    obtain ⟨b1, e1, z1⟩ := DataW.trod_bool Tryz.underlying4 g1
    obtain ⟨b2, e2, z2⟩ := DataW.trod_bool Tryz.underlying4 g2
    obtain ⟨b3, e3, z3⟩ := DataW.trod_bool Tryz.underlying4 g3
    obtain ⟨b4, e4, z4⟩ := DataW.trod_bool Tryz.underlying4 g4
    subst z0; subst z1; subst z2; subst z3; subst z4
    injection hx with hd _
    simp only [List.map_cons, List.map_nil, DataW.agg.injEq, List.cons.injEq, DataW.lit.injEq, Lit.string.injEq, Lit.bool.injEq, and_true] at hd
    obtain ⟨rfl, rfl, rfl, rfl, rfl⟩ := hd
    injection e0 with e0; injection e1 with e1; injection e2 with e2; injection e3 with e3; injection e4 with e4
    rw [e0, e1, e2, e3, e4]

set_option maxRecDepth 100000 in
theorem shp_of_laid {W : World} (h : laidMet Tryz.prog [("qloom/circ.shapes", Rows.laid_qloom_circ_shapes)] W) : Shp W := by
  obtain ⟨ps, ⟨g', t', cs, fuel, p, q, hg', ht', hvar, hd, _, _⟩, _⟩ := h
  obtain rfl := Option.some.inj ((show Tryz.prog.globalNamed "qloom/circ.shapes" = some 0 by kernel_rfl).symm.trans hg')
  obtain rfl := Option.some.inj ((show (Tryz.prog.globals[0]?).map (·.type) = some 130 by kernel_rfl).symm.trans ht')
  obtain ⟨xs, m, _, hx, hl, hlen, hf⟩ := DataW.trod_array Tryz.underlying130 hd
  have hc : Tryz.prog.cellsOf 129 = 5 := by kernel_rfl
  rw [hc] at hf
  match xs, hlen with
  | [y0, y1, y2, y3, y4, y5, y6], _ =>
    injection hx with hx _
    unfold Rows.laid_qloom_circ_shapes at hx
    simp only [List.map_cons, List.map_nil, DataW.agg.injEq, List.cons.injEq, and_true] at hx
    obtain ⟨_, x1, x2, x3, x4, x5, x6⟩ := hx
    have key : ∀ (k : Nat) (y : DataW Unit × List MemPlace) (s : List UInt8) (a b c d : Bool), k < 7 → [y0, y1, y2, y3, y4, y5, y6][k]? = some y → .agg [.lit (.string s), .lit (.bool a), .lit (.bool b), .lit (.bool c), .lit (.bool d)] = y.1 →
        W.cell? ⟨0, k * 5, none⟩ = some (.string ⟨s.toArray⟩) ∧ W.cell? ⟨0, k * 5 + 1, none⟩ = some (.bool a) ∧ W.cell? ⟨0, k * 5 + 2, none⟩ = some (.bool b) ∧ W.cell? ⟨0, k * 5 + 3, none⟩ = some (.bool c) ∧ W.cell? ⟨0, k * 5 + 4, none⟩ = some (.bool d) := by
      intro k y s a b c d hk hy he
      have h1 := hf k hk
      rw [hy] at h1
      obtain ⟨yd, yp⟩ := y
      simp only at he
      subst he
      have h2 := shape_row h1
      have h3 : ∀ j, j < 5 → W.cell? ⟨0, k * 5 + j, none⟩ = ([.string ⟨s.toArray⟩, .bool a, .bool b, .bool c, .bool d] : List Value)[j]? := by
        intro j hj
        rw [World.var?_cell hg' hvar, ← h2, List.getElem?_take, if_pos hj, List.getElem?_drop, Array.getElem?_toList]
      exact ⟨h3 0 (by omega), h3 1 (by omega), h3 2 (by omega), h3 3 (by omega), h3 4 (by omega)⟩
    intro k h1 h6
    have hk : k = 1 ∨ k = 2 ∨ k = 3 ∨ k = 4 ∨ k = 5 ∨ k = 6 := by omega
    rcases hk with rfl | rfl | rfl | rfl | rfl | rfl
    · exact key 1 y1 _ _ _ _ _ (by omega) rfl x1
    · exact key 2 y2 _ _ _ _ _ (by omega) rfl x2
    · exact key 3 y3 _ _ _ _ _ (by omega) rfl x3
    · exact key 4 y4 _ _ _ _ _ (by omega) rfl x4
    · exact key 5 y5 _ _ _ _ _ (by omega) rfl x5
    · exact key 6 y6 _ _ _ _ _ (by omega) rfl x6

/-- What lay there is as it was: what is asked behind the call. -/
theorem post_kept {H : Type} {enc : TypeId × Value → H} {P : Program} {f : Func} {s : ChangeSpec} {apart fresh handsOn again : Bool} {W W' : World} {args : Array Value} {v : Value} {ds gs : List (DataW H)} {ps : List MemPlace}
    (hW : DataW.Whole enc P f.params.toList s.vars apart W args.toList ds gs ps)
    (hres : ∀ (b : Nat) (sp : Nat → Bool) (hd : Bool), DataW.TrodAll enc P W' b sp hd f.resultTypes.toList (v.resultList f.resultTypes.size) (s.fn H (ds ++ gs)).results [])
    (hargs : ∀ sp : Nat → Bool, (∀ x ∈ ps, sp x.block = true) → DataW.TrodAll enc P W' 0 sp true f.params.toList args.toList (s.fn H (ds ++ gs)).args ps)
    (hvars : ∀ sp : Nat → Bool, DataW.TrodVars enc P W' sp s.vars (s.fn H (ds ++ gs)).vars [])
    (hb : Ext W W')
    (hok : ∀ (j : Nat) (t : TypeId) (r : Value), f.resultTypes[j]? = some t → (v.resultList f.resultTypes.size)[j]? = some r → Value.okWide P W' .any 0 t r) :
    s.post enc P f apart fresh handsOn again W args v W' := by
  have hlt := hW.lt
  have hold : ∀ x ∈ ps, decide (x.block < W.heap.size) = true := fun x hx => by simpa using hlt x hx
  have hall : ∀ x ∈ ps, (fun _ : Nat => true) x.block = true := fun _ _ => rfl
  have hn : W.noneFrozen ps ∧ (apart = true → ps.Nodup) := by
    obtain ⟨_, _, _, _, rfl, h1, h2⟩ := hW
    exact ⟨h1, h2⟩
  refine ⟨ds, gs, ps, [], ps, [], hW, hres _ _ _, hargs _ hold, hvars _, Below.frame hb _, fun _ => ?_⟩
  refine ⟨hok, _, _, ([] ++ ps) ++ [], ⟨[] ++ ps, [], trodAll_append (hargs (fun _ => true) hall) (hres _ _ _), hvars _, rfl, ?_, ?_⟩, ?_⟩
  · intro b off hp
    have hp' : MemPlace.cell b off ∈ ps := by simpa using hp
    rw [Below.frozen hb (p := ⟨b, off, none⟩) (hlt _ hp')]
    exact hn.1 b off hp'
  · intro ha
    simpa using hn.2 ha
  · intro x hx _
    simpa using hx

end Go.Proofs.YtfjnlopbmkimiaaGreatDoor
