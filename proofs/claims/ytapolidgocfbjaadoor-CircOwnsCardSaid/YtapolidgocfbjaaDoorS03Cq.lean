/-
  Texts are put together: what strings.Builder's writing methods do in this program, where a written builder is never copied. What an operation touches, as the reference lists it. What an operation touches, as the program lists it. Levels: what both sides reckon, as one function of the places that each operation touches; the two numberings of places come to the same. Levels: the program's walk. The first fault of a circuit, as the reference finds it. Why a circuit is not unitary: Pure of both sides. What a circuit without a fault keeps to; what Count tells of one, in plain numbers. A circuit's text, in plain bytes; the program's writers of numbers and conditions. A tally in a variable; what is counted, in plain numbers.
-/
import Derived.Test.YtapolidgocfbjaaDoorProg
import Derived.Test.YtapolidgocfbjaaDoorRows
import Derived.BigQuiet
import Derived.Deep.CutRange
import Derived.Deep.LoopGhost
import Derived.Deep.RegionHeld3
import Derived.Lib.Hide
import Derived.OwnWalk
import Derived.Shelf.LaysM
import Derived.Shelf.Strconv.Itoa0
import Derived.Shelf.Strconv.Itoa1
import Derived.Shelf.Strconv.Itoa2
import Derived.Shelf.Strconv.Itoa3
import Derived.Shelf.Strings.Builder1
import Derived.Shelf.Strings.BuilderF
import Derived.Shelf.Strings.BuilderK
import Derived.WalkKit
import Derived.WalkLawsBesides
import Derived.WalkSpells
import Derived.Test.YtapolidgocfbjaaDoorS00Ce
import Derived.Test.YtapolidgocfbjaaDoorS01Cj
import Derived.Test.YtapolidgocfbjaaDoorShelf
namespace Go.Proofs.YtapolidgocfbjaaDoor
open Go.RowKit

theorem byte_info : (Tryd.prog.info? 5).map (fun i => (i.zero, i.size, i.bytes)) = some (some (.int .u8 0), 1, 1) := by kernel_rfl
theorem bld_size : (Tryd.prog.info? 67).map (·.size) = some 2 := by kernel_rfl
theorem bld_lies : liesAt Tryd.prog Tryd.prog.depth 67 (2 / Tryd.prog.cellsOf 67) 0 67 1 = true := by kernel_rfl

/-- A builder in block b that holds these cells; all that it owns lies from b on. -/
abbrev Bld (w : World) (b : Nat) (bs : List Value) : Prop := Lib.IsBuilderF 67 5 b b bs w
/-- What is written into the builder b leaves all else as it was. -/
structure Wrt (b : Nat) (w w' : World) : Prop where
  low : Below b w w'
  oth : Lib.OthersKept 5 (some b) w w'
theorem Wrt.refl (b : Nat) (w : World) : Wrt b w w := ⟨Below.refl b w, Lib.OthersKept.refl _ _ w⟩
theorem Wrt.trans {b : Nat} {w w' w'' : World} (h : Wrt b w w') (k : Wrt b w' w'') : Wrt b w w'' := ⟨h.low.trans k.low, h.oth.trans k.oth⟩
theorem Wrt.alloc {b : Nat} {w w' : World} (h : Wrt b w w') (hb : b ≤ w'.heap.size) (o : Obj) : Wrt b w (w'.alloc o) := ⟨h.low.alloc hb o, h.oth.alloc o⟩
/-- A row that is no row of bytes, and not the builder's own, stands. -/
theorem Wrt.row {b : Nat} {w w' : World} (h : Wrt b w w') {g : Nat} {cs : Array Value} {t : TypeId} {fz : Nat × Nat} (hg : w.heap[g]? = some (.cells cs t fz)) (hne : g ≠ b) (ht : t ≠ 5) : w'.heap[g]? = some (.cells cs t fz) :=
  h.oth g _ hg (fun e => hne (Option.some.inj e)) (fun c f e => ht (by injection e))
/-- What lay there ahead of the builder stands. -/
theorem Wrt.ext {b : Nat} {w0 w w' : World} (h : Wrt b w w') (k : Ext w0 w) (hb : w0.heap.size ≤ b) : Ext w0 w' := Below.trans k (h.low.mono hb)
theorem Bld.lt {w : World} {b : Nat} {bs : List Value} (h : Bld w b bs) : b < w.heap.size := by rcases h with h | h <;> exact h.lt
theorem Bld.alloc {w : World} {b : Nat} {bs : List Value} (h : Bld w b bs) (o : Obj) : Bld (w.alloc o) b bs := Lib.IsBuilderF.alloc h o
theorem bld_new (w : World) : Bld (w.alloc (.cells #[.pointer none, .slice none 0 0] 67)) w.heap.size [] := Lib.IsBuilderF.of (Lib.fresh_isBuilder _ _ w)

set_option maxHeartbeats 1000000 in
set_option maxRecDepth 100000 in
theorem copyCheck_used (b : Nat) (w : World) (h0 : w.cell? ⟨b, 0, none⟩ = some (.pointer (some ⟨b, 0, none⟩))) :
    Calls Tryd.prog 53 #[.pointer (some ⟨b, 0, none⟩)] w fun e w' => e = .returned (.tuple #[]) ∧ w' = w := by
  obtain ⟨j, hj, _⟩ := Option.map_eq_some_iff.1 bld_size
  go_enter Tryd.func53, Tryd.ntmps53
  go_wp2
  rw [Lib.run_neq_ptr_same w _ Tryd.underlying64 hj]
  go_wp2
  go_end0
  exact ⟨rfl, rfl⟩

set_option maxHeartbeats 1000000 in
set_option maxRecDepth 100000 in
theorem copyCheck_fresh (b : Nat) (w : World) (h0 : w.cell? ⟨b, 0, none⟩ = some (.pointer none)) (hsh : w.shape? b = some (67, 2)) (hfz : w.frozen? ⟨b, 0, none⟩ = false) :
    Calls Tryd.prog 53 #[.pointer (some ⟨b, 0, none⟩)] w fun e w' => e = .returned (.tuple #[]) ∧ w' = w.setCell ⟨b, 0, none⟩ (.pointer (some ⟨b, 0, none⟩)) := by
  obtain ⟨j, hj, hjs⟩ := Option.map_eq_some_iff.1 bld_size
  go_enter Tryd.func53, Tryd.ntmps53
  go_wp2
  rw [Lib.run_to_unsafe w ⟨b, 0, none⟩ Tryd.underlying64 Tryd.underlying87 hj (by rw [hjs]; decide) hsh (Nat.zero_lt_succ 1)]
  simp only [Result.andThen]
  rw [Oper.upon_value]
  go_wp2
  rw [run_callFunc_extern Tryd.func60 (by kernel_rfl) (by kernel_rfl) (by kernel_rfl) (e := Extern.AbiNoEscape.same) (by kernel_rfl), Lib.run_noEscape]
  simp only [Result.andThen]
  rw [Oper.upon_value]
  go_wp2
  rw [Lib.run_from_unsafe w ⟨b, 0, none⟩ Tryd.underlying87 Tryd.underlying64 hj hsh bld_lies]
  simp only [Result.andThen]
  rw [Oper.upon_value]
  go_wp2
  go_end0
  exact ⟨rfl, rfl⟩

theorem copyCheck_any (b : Nat) (bs : List Value) (w : World) (h : Bld w b bs) :
    Calls Tryd.prog 53 #[.pointer (some ⟨b, 0, none⟩)] w fun e w' => e = .returned (.tuple #[]) ∧ Lib.BuilderAtF 67 5 b b (.pointer (some ⟨b, 0, none⟩)) bs w' ∧ Wrt b w w' := by
  cases h with
  | inl h =>
    refine (copyCheck_fresh b w h.cell0 h.shape h.frozen0).mono ?_
    intro e w' hh
    obtain ⟨he, hw⟩ := hh
    subst hw
    exact ⟨he, h.used _, ⟨Below.setCell (Below.refl b w) (Nat.le_refl b) _, (Lib.OthersKept.refl _ (some b) w).setCell ⟨b, 0, none⟩ rfl _⟩⟩
  | inr h =>
    refine (copyCheck_used b w h.cell0).mono ?_
    intro e w' hh
    obtain ⟨he, hw⟩ := hh
    subst hw
    exact ⟨he, h, Wrt.refl b w'⟩

theorem bld_grown {w1 w2 : World} {b : Nat} {p v : Value} {bs : List Value} {n : Nat} {row : Option Nat} (hbk : w1.heap[b]? = some (.cells #[p, v] 67 (0, 0))) (_hown : w1.ownsRowF b 5 1 v n bs) (hne : v.ownBlock ≠ some b) (hg : w1.grownBy w2 row) (hr : row = v.ownBlock) :
    w2.heap[b]? = some (.cells #[p, v] 67 (0, 0)) := by
  subst hr
  rw [hg.block b (Array.getElem?_eq_some_iff.1 hbk).1 (fun e => hne e.symm)]; exact hbk

set_option maxHeartbeats 2000000 in
set_option maxRecDepth 100000 in
/-- A text is written. -/
theorem writeString_any (b : Nat) (bs : List Value) (s : ByteArray) (w : World) (h : Bld w b bs) (hlen : bs.length + s.size ≤ 140737488355328) :
    Calls Tryd.prog 44 #[.pointer (some ⟨b, 0, none⟩), .string s] w fun e w' => e = .returned (.tuple #[.int .i64 s.size, .nilIface]) ∧ Bld w' b (bs ++ Lib.strCells s) ∧ Wrt b w w' := by
  obtain ⟨i0, hi, hz0, hz1, hz2⟩ := info_parts byte_info
  have hbw := h.lt
  go_enter Tryd.func44, Tryd.ntmps44
  go_wp2_with fail
  refine (copyCheck_any b bs w h).mono ?_
  rintro e w1 ⟨rfl, h1, hW1⟩
  obtain ⟨hB, v, hbk, hown, hne⟩ := h1
  have hs1 := hW1.low.size
  have c0 : w1.cell? ⟨b, 0, none⟩ = some (.pointer (some ⟨b, 0, none⟩)) := by rw [Lib.cell_of_heap hbk]; rfl
  have c1 : w1.cell? ⟨b, 1, none⟩ = some v := by rw [Lib.cell_of_heap hbk]; rfl
  go_wp2_with (at_builtin; refine Lib.wpList_append_own_stringF _ rfl _ _ 65 9 rfl b 5 i0 Tryd.underlying65 Tryd.underlying9 hi hz0 hz1 hz2 _ _ _ rfl hown s rfl ?b1 ?b2 ?b3 ?_)
  case b1 => unfold maxLen; omega
  case b2 => omega
  case b3 => omega
  intro v' w2 hown' hgrow _
  have hb2 := bld_grown hbk hown hne hgrow rfl
  have d0 : w2.cell? ⟨b, 0, none⟩ = some (.pointer (some ⟨b, 0, none⟩)) := by rw [Lib.cell_of_heap hb2]; rfl
  have d1 : w2.cell? ⟨b, 1, none⟩ = some v := by rw [Lib.cell_of_heap hb2]; rfl
  have f1 : w2.frozen? ⟨b, 1, none⟩ = false := Lib.frozen_of_heap hb2 1
  obtain ⟨ao, n', cap, rfl⟩ : ∃ ao n' cap, v' = .slice ao n' cap := by
    rcases hown'.2 with ⟨hv, _⟩ | ⟨g, cap, cur, fz, hv, _⟩ <;> exact ⟨_, _, _, hv⟩
  have HF := Lib.hid (show Bld (w2.setCell ⟨b, 1, none⟩ (.slice ao n' cap)) b (bs ++ Lib.strCells s) from Or.inr (Lib.BuilderAtF.put (T := 67) (e := 5) (Nat.le_refl b) hb2 (bs' := bs ++ Lib.strCells s) (by simpa [Lib.strCells_length] using hown') (by decide)))
  have HW := Lib.hid (show Wrt b w (w2.setCell ⟨b, 1, none⟩ (.slice ao n' cap)) from ⟨(hW1.low.grown hgrow (by omega) (fun k hk => (hown.lt k hk).1)).setCell (p := ⟨b, 1, none⟩) (Nat.le_refl b) _, (hW1.oth.grown hgrow (Lib.ownsRowF_kind hown)).setCell ⟨b, 1, none⟩ rfl _⟩)
  go_wp2
  go_ret2
  exact ⟨rfl, HF.out, HW.out⟩

set_option maxHeartbeats 2000000 in
set_option maxRecDepth 100000 in
/-- A byte is written. -/
theorem writeByte_any (b : Nat) (bs : List Value) (c : Int) (w : World) (h : Bld w b bs) (hlen : bs.length + 1 ≤ 140737488355328) :
    Calls Tryd.prog 54 #[.pointer (some ⟨b, 0, none⟩), .int .u8 c] w fun e w' => e = .returned .nilIface ∧ Bld w' b (bs ++ [.int .u8 c]) ∧ Wrt b w w' := by
  obtain ⟨i0, hi, hz0, hz1, hz2⟩ := info_parts byte_info
  have hbw := h.lt
  go_enter Tryd.func54, Tryd.ntmps54
  go_wp2_with fail
  refine (copyCheck_any b bs w h).mono ?_
  rintro e w1 ⟨rfl, h1, hW1⟩
  obtain ⟨hB, v, hbk, hown, hne⟩ := h1
  have hs1 := hW1.low.size
  have c0 : w1.cell? ⟨b, 0, none⟩ = some (.pointer (some ⟨b, 0, none⟩)) := by rw [Lib.cell_of_heap hbk]; rfl
  have c1 : w1.cell? ⟨b, 1, none⟩ = some v := by rw [Lib.cell_of_heap hbk]; rfl
  go_wp2_with (at_builtin; refine wpList_append_ownF _ rfl _ _ 65 rfl b 5 i0 (.int .u8 0) 1 1 Tryd.underlying65 hi hz0 hz1 hz2 rfl (by decide) _ _ _ rfl (hown.alloc _) ⟨w1.heap.size, 0, none⟩ 1 1 [.int .u8 c] rfl rfl ?b0 ?b1 ?b2 ?b3 ?b4 ?_)
  case b0 =>
    intro j u hj
    cases j with
    | zero => simp at hj; subst hj; simp [Addr.add]
    | succ j => simp at hj
  case b1 => intro u hu; simp at hu; subst hu; rfl
  case b2 => unfold maxLen; omega
  case b3 => omega
  case b4 => simp; omega
  intro v' w2 hown' hgrow _
  have hbk' : (w1.alloc (.cells #[.int .u8 c] 5)).heap[b]? = some (.cells #[.pointer (some ⟨b, 0, none⟩), v] 67 (0, 0)) := by rw [Lib.alloc_old w1 _ b (by omega)]; exact hbk
  have hb2 := bld_grown hbk' (hown.alloc _) hne hgrow rfl
  have d0 : w2.cell? ⟨b, 0, none⟩ = some (.pointer (some ⟨b, 0, none⟩)) := by rw [Lib.cell_of_heap hb2]; rfl
  have d1 : w2.cell? ⟨b, 1, none⟩ = some v := by rw [Lib.cell_of_heap hb2]; rfl
  have f1 : w2.frozen? ⟨b, 1, none⟩ = false := Lib.frozen_of_heap hb2 1
  obtain ⟨ao, n', cap, rfl⟩ : ∃ ao n' cap, v' = .slice ao n' cap := by
    rcases hown'.2 with ⟨hv, _⟩ | ⟨g, cap, cur, fz, hv, _⟩ <;> exact ⟨_, _, _, hv⟩
  have HF := Lib.hid (show Bld (w2.setCell ⟨b, 1, none⟩ (.slice ao n' cap)) b (bs ++ [.int .u8 c]) from Or.inr (Lib.BuilderAtF.put (T := 67) (e := 5) (Nat.le_refl b) hb2 (bs' := bs ++ [.int .u8 c]) (by simpa using hown') (by decide)))
  have HW := Lib.hid (show Wrt b w (w2.setCell ⟨b, 1, none⟩ (.slice ao n' cap)) from ⟨((hW1.low.alloc (by omega) _).grown hgrow (by simp; omega) (fun k hk => (hown.lt k hk).1)).setCell (p := ⟨b, 1, none⟩) (Nat.le_refl b) _, ((hW1.oth.alloc _).grown hgrow (Lib.ownsRowF_kind (hown.alloc _))).setCell ⟨b, 1, none⟩ rfl _⟩)
  go_wp2
  go_ret
  exact ⟨rfl, HF.out, HW.out⟩

end Go.Proofs.YtapolidgocfbjaaDoor
namespace Go.Proofs.YtapolidgocfbjaaDoor
open Go.RowKit

/-- The bit that a term names. -/
def bitOf (t : Int) : Int := if 0 < t then t - 1 else -t - 1
def tchQ (kd q : Int) : List Int := if kd = 1 then [] else [q]
def tchB (z kd bt : Int) : List Int := if kd = 5 then [z + bt] else []
def tchC (z : Int) (l : List Int) : List Int := l.map fun t => z + bitOf t
theorem take_succ' (l : List Int) (i : Nat) (h : i < l.length) : l.take (i + 1) = l.take i ++ [l.getD i 0] := by
  rw [List.take_add_one, List.getElem?_eq_getElem h, List.getD_eq_getElem?_getD, List.getElem?_eq_getElem h]
  rfl
end Go.Proofs.YtapolidgocfbjaaDoor
namespace Go.Proofs.YtapolidgocfbjaaDoor
open Go.RowKit

set_option maxHeartbeats 400000 in
theorem condition_any (t : Int) (w : World) (h : -12 ≤ t ∧ t ≤ 12) : Calls Tryd.prog 62 #[.int .i64 t] w fun e w' => e = .returned (.tuple #[.int .i64 (bitOf t), .bool (decide (0 ≤ t))]) ∧ w' = w := by
  by_cases h0 : t < 0
  · have e1 : bitOf t = -t - 1 := by unfold bitOf; rw [if_neg (by omega)]
    have hw1 : IntKind.i64.wrap (-t) = -t := by rw [IntKind.wrap_i64]; omega
    have hw2 : IntKind.i64.wrap (-t - 1) = -t - 1 := by rw [IntKind.wrap_i64]; omega
    have e2 := df (show ¬ 0 ≤ t by omega)
    rw [e1, e2]
    clear e1 e2
    go_enter Tryd.func62, Tryd.ntmps62
    go_wp2_with fail
    exact bodyPost_ret (v := .tuple #[.int .i64 (-t - 1), .bool false]) (by simp [results, Tryd.results62, go_sem]) rfl ⟨rfl, rfl⟩
  · have e1 : bitOf t = t - 1 := by unfold bitOf; split <;> omega
    have hw2 : IntKind.i64.wrap (t - 1) = t - 1 := by rw [IntKind.wrap_i64]; omega
    have e2 := dt (show 0 ≤ t by omega)
    rw [e1, e2]
    clear e1 e2
    go_enter Tryd.func62, Tryd.ntmps62
    go_wp2_with fail
    exact bodyPost_ret (v := .tuple #[.int .i64 (t - 1), .bool true]) (by simp [results, Tryd.results62, go_sem]) rfl ⟨rfl, rfl⟩

set_option maxHeartbeats 1000000 in
theorem copyList_any (ao : Option Addr) (n c : Nat) (l : List Int) (w : World) (h : IntsAt w ao n l) (hb : n * 8 ≤ 140737488355328) :
    Calls Tryd.prog 52 #[.slice ao n c] w fun e w' => ∃ v' : Value, e = .returned v' ∧ w'.ownsRow w.heap.size 3 1 v' n (iC l) ∧ Ext w w' := by
  obtain ⟨i0, hi, hz0, hz1, hz2⟩ := info_parts i_info
  have Hl := Lib.hid h.1
  by_cases hn : n = 0
  · subst hn
    have hl0 : l = [] := List.eq_nil_of_length_eq_zero Hl.out
    subst hl0
    clear h hi hz0 hz1 hz2
    cases ao
    · go_enter Tryd.func52, Tryd.ntmps52
      go_wp2_with fail
      go_ret
      exact ⟨_, rfl, ⟨rfl, Or.inl ⟨rfl, rfl⟩⟩, Ext.refl _⟩
    · go_enter Tryd.func52, Tryd.ntmps52
      go_wp2_with fail
      go_ret
      exact ⟨_, rfl, ⟨rfl, Or.inl ⟨rfl, rfl⟩⟩, Ext.refl _⟩
  · obtain ⟨b, o, rfl, hbl, hcell⟩ := h.at (by omega)
    have hnews : ∀ j u, (iC l)[j]? = some u → w.cell? ((⟨b, o, none⟩ : Addr).add j) = some u := by
      intro j u hu
      have hj : j < l.length := by have := (List.getElem?_eq_some_iff.1 hu).1; simpa [iC] using this
      have hadd : (⟨b, o, none⟩ : Addr).add j = ⟨b, o + j, none⟩ := by unfold Addr.add; split <;> simp_all
      rw [hadd, hcell j (by rw [← Hl.out]; exact hj), ← hu]
      simp only [iC, List.getElem?_map, List.getD_eq_getElem?_getD]
      rw [List.getElem?_eq_getElem hj]
      rfl
    have h1 : ∀ u ∈ iC l, u.oneCell' = true := by
      intro u hu
      obtain ⟨x, _, rfl⟩ := List.mem_map.1 hu
      rfl
    have hown : w.ownsRow w.heap.size 3 1 (.slice none 0 0) 0 [] := ⟨rfl, Or.inl ⟨rfl, rfl⟩⟩
    have Hnews := Lib.hid hnews; have H1 := Lib.hid h1; have Hown := Lib.hid hown
    have hll : (iC l).length = n * 1 := by rw [iC_length, Hl.out, Nat.mul_one]
    have Hll := Lib.hid hll
    clear h hcell hnews h1 hown hbl hll
    go_enter Tryd.func52, Tryd.ntmps52
    go_wp2_with (at_builtin; refine wpList_append_own _ rfl _ _ 25 rfl w.heap.size 3 i0 (.int .i64 0) 1 8 Tryd.underlying25 hi hz0 hz1 hz2 rfl (by decide) _ 0 [] rfl Hown.out ⟨b, o, none⟩ n c (iC l) rfl Hll.out Hnews.out H1.out (by unfold maxLen; omega) (by omega) (Nat.le_refl _) ?_; intro v' w7 hown' hgrow' _)
    go_ret
    exact ⟨_, rfl, by simpa using hown', grown_ext (Ext.refl _) hgrow' (fun k hk => by cases hk)⟩

end Go.Proofs.YtapolidgocfbjaaDoor
namespace Go.Proofs.YtapolidgocfbjaaDoor

/-- The places as the program lists them, and as the reference does. -/
def plP (o : Gop) : List Int := o.ctl ++ tchQ o.kind o.q ++ tchB 12 o.kind o.bit ++ tchC 12 o.cnd
/-- What a circuit that is checked keeps to. -/
def placesFit (o : Gop) : Prop := (∀ t ∈ o.ctl, t < 12) ∧ o.q < 12 ∧ 0 ≤ o.bit ∧ ∀ t ∈ o.cnd, t ≠ 0
end Go.Proofs.YtapolidgocfbjaaDoor
namespace Go.Proofs.YtapolidgocfbjaaDoor
open Go.RowKit

/-- What a checked operation keeps to. -/
structure LvFit (o : Gop) : Prop where
  kd : 1 ≤ o.kind ∧ o.kind ≤ 6
  bit : 0 ≤ o.bit ∧ o.bit ≤ 12
  cnd : ∀ t ∈ o.cnd, -12 ≤ t ∧ t ≤ 12
  ctl : (o.ctl.length + 26) * 8 ≤ 140737488355328
  few : o.cnd.length ≤ 24
  pl : ∀ t ∈ plP o, 0 ≤ t ∧ t < 24

end Go.Proofs.YtapolidgocfbjaaDoor
namespace Go.Proofs.YtapolidgocfbjaaDoor
open Go.RowKit

set_option maxHeartbeats 4000000 in
set_option maxRecDepth 100000 in
theorem RCheck_any (c : Gci) (ao : Option Addr) (n cp : Nat) (w : World) (h : OpsAt w ao n c.ops) (_hn : n ≤ cp) (_hcp : cp ≤ 9223372036854775807) :
    Calls Tryd.prog 34 #[.agg #[.int .i64 c.qubits, .int .i64 c.bits, .slice ao n cp]] w fun e w' => e = .returned (.agg #[.int .i64 (chk c).1, .int .i64 (chk c).2]) ∧ Ext w w' := by
  obtain ⟨r, hr⟩ : ∃ r, chk c = r := ⟨_, rfl⟩
  rw [hr]
  obtain ⟨r0, r1⟩ := r
  unfold chk at hr
  obtain ⟨qb, bi, ops⟩ := c
  have E0 := (ext_al w (.cells #[.int .i64 qb, .int .i64 bi, .slice ao n cp] 24)).trans (ext_al _ (.cells #[.int .i64 0, .int .i64 0] 28))
  have bC : CiB ((w.alloc (.cells #[.int .i64 qb, .int .i64 bi, .slice ao n cp] 24)).alloc (.cells #[.int .i64 0, .int .i64 0] 28)) w.heap.size qb bi ao n cp := CiB.ext ⟨heap_alloc_new w _⟩ (ext_al _ _)
  have bF : FtB ((w.alloc (.cells #[.int .i64 qb, .int .i64 bi, .slice ao n cp] 24)).alloc (.cells #[.int .i64 0, .int .i64 0] 28)) (w.heap.size + 1) 0 0 := ⟨by
    have := heap_alloc_new (w.alloc (.cells #[.int .i64 qb, .int .i64 bi, .slice ao n cp] 24)) (.cells #[.int .i64 0, .int .i64 0] 28)
    simpa using this⟩
  have Hl := Lib.hid h.1
  simp only at hr Hl ⊢
  have HE0 := Lib.hid E0; have HO := Lib.hid (h.ext E0); have HC := Lib.hid bC; have HFt := Lib.hid bF
  have m0 := bC.x0; have m1 := bC.x1; have m2 := bC.x2
  have x0 := bF.x0; have x1 := bF.x1; have g0 := bF.f 0; have g1 := bF.f 1
  clear h E0 bC bF
  by_cases hq1 : qb < 1
  · have hz : (r0, r1) = ((6 : Int), (0 : Int)) := by rw [← hr, if_pos (Or.inl hq1)]
    have HF0 : Hid (r0 = 6) := congrArg Prod.fst hz
    have HF1 : Hid (r1 = 0) := congrArg Prod.snd hz
    clear hr hz
    go_enter Tryd.func34, Tryd.ntmps34
    go_wp2_with fail
    generalize (w.alloc (.cells #[.int .i64 qb, .int .i64 bi, .slice ao n cp] 24)).alloc (.cells #[.int .i64 0, .int .i64 0] 28) = W0 at *
    refine (rfault_any 6 0 _).mono ?_
    rintro e wz ⟨rfl, hxz⟩
    have bz := HFt.out.ext hxz; have x0' := bz.x0; have x1' := bz.x1; have g0' := bz.f 0; have g1' := bz.f 1; have HEz := Lib.hid (HE0.out.trans hxz)
    go_wp2_with fail
    exact bodyPost_ret (v := .agg #[.int .i64 6, .int .i64 0]) (by simp [results, Tryd.results34, go_sem, x0', x1']) rfl ⟨by rw [HF0.out, HF1.out], put2x HEz.out (by omega) _ _⟩
  have dq1 := df hq1
  by_cases hq2 : 12 < qb
  · have hz : (r0, r1) = ((6 : Int), (0 : Int)) := by rw [← hr, if_pos (Or.inr hq2)]
    have HF0 : Hid (r0 = 6) := congrArg Prod.fst hz
    have HF1 : Hid (r1 = 0) := congrArg Prod.snd hz
    clear hr hz
    go_enter Tryd.func34, Tryd.ntmps34
    go_wp2_with fail
    generalize (w.alloc (.cells #[.int .i64 qb, .int .i64 bi, .slice ao n cp] 24)).alloc (.cells #[.int .i64 0, .int .i64 0] 28) = W0 at *
    refine (rfault_any 6 0 _).mono ?_
    rintro e wz ⟨rfl, hxz⟩
    have bz := HFt.out.ext hxz; have x0' := bz.x0; have x1' := bz.x1; have g0' := bz.f 0; have g1' := bz.f 1; have HEz := Lib.hid (HE0.out.trans hxz)
    go_wp2_with fail
    exact bodyPost_ret (v := .agg #[.int .i64 6, .int .i64 0]) (by simp [results, Tryd.results34, go_sem, x0', x1']) rfl ⟨by rw [HF0.out, HF1.out], put2x HEz.out (by omega) _ _⟩
  have dq2 := df hq2
  rw [if_neg (by omega)] at hr
  by_cases hb1 : bi < 0
  · have hz : (r0, r1) = ((7 : Int), (0 : Int)) := by rw [← hr, if_pos (Or.inl hb1)]
    have HF0 : Hid (r0 = 7) := congrArg Prod.fst hz
    have HF1 : Hid (r1 = 0) := congrArg Prod.snd hz
    have d1 := dt hb1
    clear hr hz
    go_enter Tryd.func34, Tryd.ntmps34
    go_wp2_with fail
    generalize (w.alloc (.cells #[.int .i64 qb, .int .i64 bi, .slice ao n cp] 24)).alloc (.cells #[.int .i64 0, .int .i64 0] 28) = W0 at *
    refine (rfault_any 7 0 _).mono ?_
    rintro e wz ⟨rfl, hxz⟩
    have bz := HFt.out.ext hxz; have x0' := bz.x0; have x1' := bz.x1; have g0' := bz.f 0; have g1' := bz.f 1; have HEz := Lib.hid (HE0.out.trans hxz)
    go_wp2_with fail
    exact bodyPost_ret (v := .agg #[.int .i64 7, .int .i64 0]) (by simp [results, Tryd.results34, go_sem, x0', x1']) rfl ⟨by rw [HF0.out, HF1.out], put2x HEz.out (by omega) _ _⟩
  have d1 := df hb1
  by_cases hb2 : 12 < bi
  · have hz : (r0, r1) = ((7 : Int), (0 : Int)) := by rw [← hr, if_pos (Or.inr hb2)]
    have HF0 : Hid (r0 = 7) := congrArg Prod.fst hz
    have HF1 : Hid (r1 = 0) := congrArg Prod.snd hz
    have d2 := dt hb2
    clear hr hz
    go_enter Tryd.func34, Tryd.ntmps34
    go_wp2_with fail
    generalize (w.alloc (.cells #[.int .i64 qb, .int .i64 bi, .slice ao n cp] 24)).alloc (.cells #[.int .i64 0, .int .i64 0] 28) = W0 at *
    refine (rfault_any 7 0 _).mono ?_
    rintro e wz ⟨rfl, hxz⟩
    have bz := HFt.out.ext hxz; have x0' := bz.x0; have x1' := bz.x1; have g0' := bz.f 0; have g1' := bz.f 1; have HEz := Lib.hid (HE0.out.trans hxz)
    go_wp2_with fail
    exact bodyPost_ret (v := .agg #[.int .i64 7, .int .i64 0]) (by simp [results, Tryd.results34, go_sem, x0', x1']) rfl ⟨by rw [HF0.out, HF1.out], put2x HEz.out (by omega) _ _⟩
  have d2 := df hb2
  rw [if_neg (by omega), Hl.out] at hr
  by_cases hL : 4096 < n
  · have hz : (r0, r1) = ((2 : Int), (0 : Int)) := by rw [← hr, if_pos hL]
    have HF0 : Hid (r0 = 2) := congrArg Prod.fst hz
    have HF1 : Hid (r1 = 0) := congrArg Prod.snd hz
    have d3 : (4096 : Int) < (n : Int) := by omega
    clear hr hz
    go_enter Tryd.func34, Tryd.ntmps34
    go_wp2_with fail
    generalize (w.alloc (.cells #[.int .i64 qb, .int .i64 bi, .slice ao n cp] 24)).alloc (.cells #[.int .i64 0, .int .i64 0] 28) = W0 at *
    refine (rfault_any 2 0 _).mono ?_
    rintro e wz ⟨rfl, hxz⟩
    have bz := HFt.out.ext hxz; have x0' := bz.x0; have x1' := bz.x1; have g0' := bz.f 0; have g1' := bz.f 1; have HEz := Lib.hid (HE0.out.trans hxz)
    go_wp2_with fail
    exact bodyPost_ret (v := .agg #[.int .i64 2, .int .i64 0]) (by simp [results, Tryd.results34, go_sem, x0', x1']) rfl ⟨by rw [HF0.out, HF1.out], put2x HEz.out (by omega) _ _⟩
  have d3 : ¬ (4096 : Int) < (n : Int) := by omega
  rw [if_neg hL] at hr
  have Hr := Lib.hid hr
  clear hr
  have hab : n = 0 ∨ ∃ b o, ao = some ⟨b, o, none⟩ := by
    by_cases h0 : n = 0
    · exact Or.inl h0
    · exact Or.inr (HO.out.some_of (by omega))
  go_enter Tryd.func34, Tryd.ntmps34
  go_wp2_with fail
  generalize (w.alloc (.cells #[.int .i64 qb, .int .i64 bi, .slice ao n cp] 24)).alloc (.cells #[.int .i64 0, .int .i64 0] 28) = W0 at *
  go_loopg [3] n (fun kk s3 wr => Ext W0 wr ∧ ∃ i : Nat, s3 = .int .i64 (i : Int) ∧ i ≤ n ∧ n - i = kk ∧ (r0, r1) = opsCode qb bi i (ops.drop i))
  case atStart => exact ⟨Ext.refl _, 0, rfl, by omega, by omega, Hr.out.symm⟩
  case round =>
    obtain ⟨hER, i, rfl, hi, hk, hri⟩ := hrel
    have HER := Lib.hid hER
    have bC' := HC.out.ext hER
    have v0 := bC'.x0; have v1 := bC'.x1; have v2 := bC'.x2; have lC := bC'.lt
    clear m0 m1 m2 x0 x1 g0 g1 hER bC'
    by_cases hin : i = n
    · have h2 : ¬ (i : Int) < (n : Int) := by omega
      have hz : (r0, r1) = ((0 : Int), (0 : Int)) := by rw [hri]; exact opsCode_end qb bi ops i (by rw [Hl.out]; omega)
      have HF0 : Hid (r0 = 0) := congrArg Prod.fst hz
      have HF1 : Hid (r1 = 0) := congrArg Prod.snd hz
      have bz := HFt.out.ext HER.out; have x0' := bz.x0; have x1' := bz.x1; have g0' := bz.f 0; have g1' := bz.f 1
      have HEz := Lib.hid (HE0.out.trans HER.out)
      clear hz hri bz
      go_wp2_with fail
      exact bodyPost_ret (v := .agg #[.int .i64 0, .int .i64 0]) (by simp [results, Tryd.results34, go_sem, x0', x1']) rfl ⟨by rw [HF0.out, HF1.out], put2x HEz.out (by omega) _ _⟩
    · have h2 : (i : Int) < (n : Int) := by omega
      have h0 : (0 : Int) ≤ (i : Int) := by omega
      rcases hab with h | ⟨b, o, rfl⟩
      · omega
      obtain ⟨g, hg⟩ : ∃ g, ops[i]? = some g := ⟨_, List.getElem?_eq_getElem (by rw [Hl.out]; omega)⟩
      obtain ⟨a1, n1, c1, a2, n2, c2, e0, e1, e2, e3, e4, e5, hL⟩ := (HO.out.ext HER.out).at i g hg
      have lb := World.block_lt_of_cell? wr ⟨b, o + i * 6, none⟩ e0
      have hst := opsCode_step qb bi ops i g hg
      rw [← hri] at hst
      have HCO := Lib.hid (fun wx (hx : Ext wr wx) => badOp_any g a1 n1 c1 a2 n2 c2 qb bi wx (hL.ext hx) (by omega) (by omega) (by omega))
      obtain ⟨oc, hoc⟩ : ∃ x, opCode g qb bi = x := ⟨_, rfl⟩
      rw [hoc] at HCO hst
      have Hst := Lib.hid hst
      obtain ⟨kd, kk', ctl, qq, bb, cnd⟩ := g
      simp only at e0 e1 e2 e3 e4 e5 HCO
      clear hst hoc hri hg hL
      have hE0d : Ext wr wr.drew := Below.drew (Ext.refl _)
      go_wp2_with fail
      go_region_held3 (fun w' => w'.cell? ⟨w.heap.size, 0, none⟩ = some (.int .i64 qb) ∧ w'.cell? ⟨w.heap.size, 1, none⟩ = some (.int .i64 bi) ∧ w'.cell? ⟨w.heap.size, 2, none⟩ = some (.slice (some ⟨b, o, none⟩) n cp) ∧ w'.cell? ⟨b, o + i * 6, none⟩ = some (.int .i64 kd) ∧ w'.cell? ⟨b, o + i * 6 + 1, none⟩ = some (.int .i64 kk') ∧ w'.cell? ⟨b, o + i * 6 + 2, none⟩ = some (.slice a1 n1 c1) ∧ w'.cell? ⟨b, o + i * 6 + 3, none⟩ = some (.int .i64 qq) ∧ w'.cell? ⟨b, o + i * 6 + 4, none⟩ = some (.int .i64 bb) ∧ w'.cell? ⟨b, o + i * 6 + 5, none⟩ = some (.slice a2 n2 c2))
        (refine ⟨cell_ext (w := wr) v0 ?_, cell_ext (w := wr) v1 ?_, cell_ext (w := wr) v2 ?_, cell_ext (w := wr) e0 ?_, cell_ext (w := wr) e1 ?_, cell_ext (w := wr) e2 ?_, cell_ext (w := wr) e3 ?_, cell_ext (w := wr) e4 ?_, cell_ext (w := wr) e5 ?_⟩ <;> (repeat (first | assumption | refine Below.drew ?_)))
        (first | (go_at_call 49; refine (HCO.out _ (by assumption)).mono ?_; rintro e w6 ⟨rfl, hx6⟩; have he6 : Ext wr w6 := Ext.trans (by assumption) hx6))
      have HE6 := Lib.hid (HER.out.trans he6)
      clear v0 v1 v2 e0 e1 e2 e3 e4 e5 hE0d he6 hx6
      by_cases hc0 : oc = 0
      · have hcb := nf' hc0
        have hz : (r0, r1) = opsCode qb bi (i + 1) (ops.drop (i + 1)) := by rw [Hst.out, if_neg (by simp [hc0])]
        have HF := Lib.hid hz
        clear hz hc0 Hst
        go_wp2_with fail
        go_roundg (n - (i + 1))
        case measure => omega
        case rel => exact ⟨HE6.out, i + 1, by go_num, by omega, rfl, HF.out⟩
      · have hcb := nt hc0
        have hz : (r0, r1) = (oc, (i : Int)) := by rw [Hst.out, if_pos hc0]
        have HF0 : Hid (r0 = oc) := congrArg Prod.fst hz
        have HF1 : Hid (r1 = (i : Int)) := congrArg Prod.snd hz
        clear hz hc0 Hst
        go_wp2_with fail
        refine (rfault_any oc (i : Int) _).mono ?_
        rintro e wz ⟨rfl, hxz⟩
        have bz := HFt.out.ext (HE6.out.trans hxz); have x0' := bz.x0; have x1' := bz.x1; have g0' := bz.f 0; have g1' := bz.f 1
        have HEz := Lib.hid (HE0.out.trans (HE6.out.trans hxz))
        clear bz
        go_wp2_with fail
        exact bodyPost_ret (v := .agg #[.int .i64 oc, .int .i64 (i : Int)]) (by simp [results, Tryd.results34, go_sem, x0', x1']) rfl ⟨by rw [HF0.out, HF1.out], put2x HEz.out (by omega) _ _⟩

end Go.Proofs.YtapolidgocfbjaaDoor
namespace Go.Proofs.YtapolidgocfbjaaDoor
open Go.RowKit

theorem opCode_kind {g : Gop} {q b : Int} (h : opCode g q b = 0) : 1 ≤ g.kind ∧ g.kind ≤ 6 := by
  unfold opCode at h
  by_cases hk : g.kind < 1 ∨ 6 < g.kind
  · rw [if_pos hk] at h; exact absurd h (by decide)
  · omega
theorem opsCode_zero (q b : Int) (ops : List Gop) : ∀ i, (opsCode q b i ops).1 = 0 → opsCode q b i ops = (0, 0) ∧ ∀ g ∈ ops, opCode g q b = 0 := by
  induction ops with
  | nil => exact fun _ _ => ⟨rfl, fun g hg => by cases hg⟩
  | cons o r ih =>
    intro i h
    rw [opsCode] at h ⊢
    by_cases ho : opCode o q b = 0
    · rw [if_neg (by simp [ho])] at h ⊢
      obtain ⟨e1, e2⟩ := ih (i + 1) h
      exact ⟨e1, fun g hg => by
        rcases List.mem_cons.1 hg with rfl | hg
        · exact ho
        · exact e2 g hg⟩
    · rw [if_pos ho] at h
      exact absurd h ho
theorem chk_zero {c : Gci} (h : (chk c).1 = 0) : chk c = (0, 0) ∧ 1 ≤ c.qubits ∧ c.qubits ≤ 12 ∧ 0 ≤ c.bits ∧ c.bits ≤ 12 ∧ c.ops.length ≤ 4096 ∧ ∀ g ∈ c.ops, opCode g c.qubits c.bits = 0 := by
  unfold chk at h ⊢
  by_cases h1 : c.qubits < 1 ∨ 12 < c.qubits
  · rw [if_pos h1] at h; exact absurd h (by decide)
  rw [if_neg h1] at h ⊢
  by_cases h2 : c.bits < 0 ∨ 12 < c.bits
  · rw [if_pos h2] at h; exact absurd h (by decide)
  rw [if_neg h2] at h ⊢
  by_cases h3 : 4096 < c.ops.length
  · rw [if_pos h3] at h; exact absurd h (by decide)
  rw [if_neg h3] at h ⊢
  obtain ⟨e1, e2⟩ := opsCode_zero _ _ _ _ h
  exact ⟨e1, by omega, by omega, by omega, by omega, by omega, e2⟩

/-- The first operation that is no mere gate. -/
def purF : Nat → List Gop → Int × Int
  | _, [] => (0, 0)
  | i, o :: r => if 5 ≤ o.kind ∨ 0 < o.cnd.length then (15, (i : Int)) else purF (i + 1) r
def pur (c : Gci) : Int × Int := if (chk c).1 ≠ 0 then chk c else purF 0 c.ops
theorem purF_step (ops : List Gop) (i : Nat) (g : Gop) (h : ops[i]? = some g) : purF i (ops.drop i) = if 5 ≤ g.kind ∨ 0 < g.cnd.length then (15, (i : Int)) else purF (i + 1) (ops.drop (i + 1)) := by
  obtain ⟨hi, e⟩ := List.getElem?_eq_some_iff.1 h
  rw [List.drop_eq_getElem_cons hi, purF, e]
theorem purF_end (ops : List Gop) (i : Nat) (h : ops.length ≤ i) : purF i (ops.drop i) = (0, 0) := by
  rw [List.drop_eq_nil_of_le h]; rfl

set_option maxHeartbeats 400000 in
theorem meets_any (k0 k1 : Int) (a1 : Option Addr) (n1 c1 : Nat) (k3 k4 : Int) (a2 : Option Addr) (n2 c2 : Nat) (w : World) (h1 : 1 ≤ k0) (h6 : k0 ≤ 6) :
    Calls Tryd.prog 42 #[.agg #[.int .i64 k0, .int .i64 k1, .slice a1 n1 c1, .int .i64 k3, .int .i64 k4, .slice a2 n2 c2]] w fun e w' => e = .returned (.bool (decide (5 ≤ k0))) ∧ Ext w w' := by
  by_cases h5 : k0 = 5
  · have e : decide (5 ≤ k0) = true := dt (by omega)
    have b5 := bt' h5
    rw [e]
    clear e h5 h1 h6
    go_enter Tryd.func42, Tryd.ntmps42
    go_wp2
    go_ret
    exact ⟨rfl, ext_al _ _⟩
  · have b5 := bf h5
    have e : decide (5 ≤ k0) = (k0 == 6) := by
      by_cases h : k0 = 6
      · rw [bt' h]; exact dt (by omega)
      · rw [bf h]; exact df (by omega)
    rw [e]
    clear e h5 h1 h6
    go_enter Tryd.func42, Tryd.ntmps42
    go_wp2
    go_ret
    exact ⟨rfl, ext_al _ _⟩

set_option maxHeartbeats 4000000 in
set_option maxRecDepth 100000 in
theorem Pure_any (c : Gci) (ao : Option Addr) (n cp : Nat) (w : World) (h : OpsAt w ao n c.ops) (hn : n ≤ cp) (hcp : cp ≤ 9223372036854775807) (hS : Shp w) :
    Calls Tryd.prog 23 #[.agg #[.int .i64 c.qubits, .int .i64 c.bits, .slice ao n cp]] w fun e w' => e = .returned (.agg #[.int .i64 (pur c).1, .int .i64 (pur c).2]) ∧ Ext w w' := by
  obtain ⟨r, hr⟩ : ∃ r, pur c = r := ⟨_, rfl⟩
  rw [hr]
  obtain ⟨r0, r1⟩ := r
  unfold pur at hr
  obtain ⟨qb, bi, ops⟩ := c
  obtain ⟨f, hf⟩ : ∃ f, chk ⟨qb, bi, ops⟩ = f := ⟨_, rfl⟩
  obtain ⟨f0, f1⟩ := f
  have hz0 : f0 = 0 → f1 = 0 ∧ ∀ g ∈ ops, 1 ≤ g.kind ∧ g.kind ≤ 6 := by
    intro h0
    obtain ⟨e1, _, _, _, _, _, e2⟩ := chk_zero (c := ⟨qb, bi, ops⟩) (by rw [hf]; exact h0)
    rw [hf] at e1
    exact ⟨congrArg Prod.snd e1, fun g hg => opCode_kind (e2 g hg)⟩
  have Hz0 := Lib.hid hz0
  rw [hf] at hr
  have Hf := Lib.hid hf
  have E0 := (ext_al w (.cells #[.int .i64 qb, .int .i64 bi, .slice ao n cp] 24)).trans (ext_al _ (.cells #[.int .i64 0, .int .i64 0] 28))
  have bC : CiB ((w.alloc (.cells #[.int .i64 qb, .int .i64 bi, .slice ao n cp] 24)).alloc (.cells #[.int .i64 0, .int .i64 0] 28)) w.heap.size qb bi ao n cp := CiB.ext ⟨heap_alloc_new w _⟩ (ext_al _ _)
  have bF : FtB ((w.alloc (.cells #[.int .i64 qb, .int .i64 bi, .slice ao n cp] 24)).alloc (.cells #[.int .i64 0, .int .i64 0] 28)) (w.heap.size + 1) 0 0 := ⟨by
    have := heap_alloc_new (w.alloc (.cells #[.int .i64 qb, .int .i64 bi, .slice ao n cp] 24)) (.cells #[.int .i64 0, .int .i64 0] 28)
    simpa using this⟩
  have Hl := Lib.hid h.1
  simp only at hr Hl ⊢
  have HE0 := Lib.hid E0; have HO := Lib.hid (h.ext E0); have HC := Lib.hid bC; have HFt := Lib.hid bF; have HS := Lib.hid (hS.ext E0)
  have m0 := bC.x0; have m1 := bC.x1; have m2 := bC.x2
  have Hr := Lib.hid hr
  have hab : n = 0 ∨ ∃ b o, ao = some ⟨b, o, none⟩ := by
    by_cases h0 : n = 0
    · exact Or.inl h0
    · exact Or.inr (HO.out.some_of (by omega))
  clear h E0 bC bF hr hf hz0 hS
  go_enter Tryd.func23, Tryd.ntmps23
  go_wp2_with fail
  generalize (w.alloc (.cells #[.int .i64 qb, .int .i64 bi, .slice ao n cp] 24)).alloc (.cells #[.int .i64 0, .int .i64 0] 28) = W0 at *
  have HK := Lib.hid (Check_any ⟨qb, bi, ops⟩ ao n cp W0 HO.out hn hcp HS.out)
  rw [Hf.out] at HK
  refine HK.out.mono ?_
  rintro e w1 ⟨rfl, hx1⟩
  have Ef := ext_al w1 (.cells #[.int .i64 f0, .int .i64 f1] 28)
  have bf1 : FtB (w1.alloc (.cells #[.int .i64 f0, .int .i64 f1] 28)) w1.heap.size f0 f1 := ⟨heap_alloc_new w1 _⟩
  have q0 := bf1.x0; have q1 := bf1.x1
  have HX1 := Lib.hid (hx1.trans Ef)
  have Hf1 := Lib.hid bf1
  have bz := HFt.out.ext HX1.out; have x0' := bz.x0; have x1' := bz.x1; have g0' := bz.f 0; have g1' := bz.f 1
  have bc := HC.out.ext HX1.out; have v2 := bc.x2
  clear bz bc m0 m1 m2 hx1 Ef bf1 HK Hf
  by_cases hc0 : f0 = 0
  · obtain ⟨hf1, hkinds⟩ := Hz0.out hc0
    have hr1 := Hr.out
    rw [if_neg (by simp [hc0])] at hr1
    have Hr1 := Lib.hid hr1
    have Hkinds := Lib.hid hkinds
    have hcb := nf' hc0
    have Hc0 := Lib.hid hc0; have Hf1z := Lib.hid hf1
    clear hr1 Hr hkinds hc0 hf1 Hz0
    go_wp2_with fail
    generalize w1.alloc (.cells #[.int .i64 f0, .int .i64 f1] 28) = W1 at *
    generalize w1.heap.size = FB at *
    clear q0 q1 x0' x1' g0' g1' v2
    go_loopg [15] n (fun kk sN wr => Ext W1 wr ∧ ∃ i : Nat, sN = .int .i64 (i : Int) ∧ i ≤ n ∧ n - i = kk ∧ (r0, r1) = purF i (ops.drop i))
    case atStart => exact ⟨Ext.refl _, 0, rfl, by omega, by omega, Hr1.out.symm⟩
    case round =>
      obtain ⟨hER, i, rfl, hi, hk, hri⟩ := hrel
      have HER := Lib.hid hER
      have HE2 := Lib.hid (HX1.out.trans hER)
      have bz := HFt.out.ext HE2.out; have x0' := bz.x0; have x1' := bz.x1; have g0' := bz.f 0; have g1' := bz.f 1
      have bc := HC.out.ext HE2.out; have v2 := bc.x2
      have bq := Hf1.out.ext hER; have q0 := bq.x0; have q1 := bq.x1
      have HEz := Lib.hid (HE0.out.trans HE2.out)
      clear hER bz bc bq
      by_cases hin : i = n
      · have h2 : ¬ (i : Int) < (n : Int) := by omega
        have hz : (r0, r1) = ((0 : Int), (0 : Int)) := by rw [hri]; exact purF_end ops i (by rw [Hl.out]; omega)
        have HF0 : Hid (r0 = 0) := congrArg Prod.fst hz
        have HF1 : Hid (r1 = 0) := congrArg Prod.snd hz
        clear hz hri
        go_wp2_with fail
        exact bodyPost_ret (v := .agg #[.int .i64 0, .int .i64 0]) (by simp [results, Tryd.results23, go_sem, x0', x1']) rfl ⟨by rw [HF0.out, HF1.out], put2x HEz.out (by omega) _ _⟩
      · have h2 : (i : Int) < (n : Int) := by omega
        have h0 : (0 : Int) ≤ (i : Int) := by omega
        rcases hab with h | ⟨b, o, rfl⟩
        · omega
        obtain ⟨g, hg⟩ : ∃ g, ops[i]? = some g := ⟨_, List.getElem?_eq_getElem (by rw [Hl.out]; omega)⟩
        obtain ⟨a1, n1, c1, a2, n2, c2, e0, e1, e2, e3, e4, e5, hL⟩ := (HO.out.ext HE2.out).at i g hg
        have hkd := Hkinds.out g (List.mem_of_getElem? hg)
        have hst := purF_step ops i g hg
        rw [← hri, hL.i2.1] at hst
        have Hst := Lib.hid hst
        have Ea := ext_al wr (.cells #[.int .i64 g.kind, .int .i64 g.k, .slice a1 n1 c1, .int .i64 g.q, .int .i64 g.bit, .slice a2 n2 c2] 43)
        have bO := opbx_new wr g.kind g.k a1 n1 c1 g.q g.bit a2 n2 c2
        have HM := Lib.hid (meets_any g.kind g.k a1 n1 c1 g.q g.bit a2 n2 c2 (wr.alloc (.cells #[.int .i64 g.kind, .int .i64 g.k, .slice a1 n1 c1, .int .i64 g.q, .int .i64 g.bit, .slice a2 n2 c2] 43)) hkd.1 hkd.2)
        obtain ⟨kd, kk', ctl, qq, bb, cnd⟩ := g
        simp only at e0 e1 e2 e3 e4 e5 HM bO Ea Hst
        obtain ⟨mt, hmt⟩ : ∃ x, decide (5 ≤ kd) = x := ⟨_, rfl⟩
        rw [hmt] at HM
        have p0 := bO.x0; have p1 := bO.x1; have p2 := bO.x2; have p3 := bO.x3; have p4 := bO.x4; have p5 := bO.x5
        have HO5 := Lib.hid bO
        have HEa := Lib.hid Ea
        clear hst hri hg hL bO Ea hkd
        go_wp2_with fail
        generalize wr.alloc (.cells #[.int .i64 kd, .int .i64 kk', .slice a1 n1 c1, .int .i64 qq, .int .i64 bb, .slice a2 n2 c2] 43) = w5 at *
        refine HM.out.mono ?_
        rintro e w6 ⟨rfl, hx6⟩
        have HE6 := Lib.hid (HEa.out.trans hx6)
        have HE7 := Lib.hid (HE2.out.trans HE6.out)
        have s5 := (HO5.out.ext hx6).x5
        have bz := HFt.out.ext HE7.out; have y0' := bz.x0; have y1' := bz.x1; have j0' := bz.f 0; have j1' := bz.f 1
        have HEy := Lib.hid (HE0.out.trans HE7.out)
        clear p0 p1 p2 p3 p4 p5 e0 e1 e2 e3 e4 e5 v2 x0' x1' g0' g1' bz q0 q1
        cases mt
        · have h5 := of_decide_eq_false hmt
          by_cases hn2 : 0 < n2
          · have hi2 : (0 : Int) < (n2 : Int) := by omega
            have hz : (r0, r1) = ((15 : Int), (i : Int)) := by rw [Hst.out, if_pos (Or.inr hn2)]
            have HF0 : Hid (r0 = 15) := congrArg Prod.fst hz
            have HF1 : Hid (r1 = (i : Int)) := congrArg Prod.snd hz
            clear hz Hst hmt h5
            go_wp2_with fail
            exact bodyPost_ret (v := .agg #[.int .i64 15, .int .i64 (i : Int)]) (by simp [results, Tryd.results23, go_sem, y0', y1']) rfl ⟨by rw [HF0.out, HF1.out], put2x HEy.out (by omega) _ _⟩
          · have hi2 : ¬ (0 : Int) < (n2 : Int) := by omega
            have hz : (r0, r1) = purF (i + 1) (ops.drop (i + 1)) := by rw [Hst.out, if_neg (by omega)]
            have HF := Lib.hid hz
            clear hz Hst hmt h5
            go_wp2_with fail
            go_roundg (n - (i + 1))
            case measure => omega
            case rel => exact ⟨HER.out.trans HE6.out, i + 1, by go_num, by omega, rfl, HF.out⟩
        · have h5 := of_decide_eq_true hmt
          have hz : (r0, r1) = ((15 : Int), (i : Int)) := by rw [Hst.out, if_pos (Or.inl h5)]
          have HF0 : Hid (r0 = 15) := congrArg Prod.fst hz
          have HF1 : Hid (r1 = (i : Int)) := congrArg Prod.snd hz
          clear hz Hst hmt h5
          go_wp2_with fail
          exact bodyPost_ret (v := .agg #[.int .i64 15, .int .i64 (i : Int)]) (by simp [results, Tryd.results23, go_sem, y0', y1']) rfl ⟨by rw [HF0.out, HF1.out], put2x HEy.out (by omega) _ _⟩
  · have hcb := nt hc0
    have hr1 := Hr.out
    rw [if_pos (by exact hc0)] at hr1
    have HF0 : Hid (r0 = f0) := (congrArg Prod.fst hr1).symm
    have HF1 : Hid (r1 = f1) := (congrArg Prod.snd hr1).symm
    have HEz := Lib.hid (HE0.out.trans HX1.out)
    clear hr1 Hr hc0 Hz0
    go_wp2_with fail
    exact bodyPost_ret (v := .agg #[.int .i64 f0, .int .i64 f1]) (by simp [results, Tryd.results23, go_sem, x0', x1']) rfl ⟨by rw [HF0.out, HF1.out], put2x HEz.out (by omega) _ _⟩

set_option maxHeartbeats 4000000 in
set_option maxRecDepth 100000 in
theorem RPure_any (c : Gci) (ao : Option Addr) (n cp : Nat) (w : World) (h : OpsAt w ao n c.ops) (hn : n ≤ cp) (hcp : cp ≤ 9223372036854775807) :
    Calls Tryd.prog 27 #[.agg #[.int .i64 c.qubits, .int .i64 c.bits, .slice ao n cp]] w fun e w' => e = .returned (.agg #[.int .i64 (pur c).1, .int .i64 (pur c).2]) ∧ Ext w w' := by
  obtain ⟨r, hr⟩ : ∃ r, pur c = r := ⟨_, rfl⟩
  rw [hr]
  obtain ⟨r0, r1⟩ := r
  unfold pur at hr
  obtain ⟨qb, bi, ops⟩ := c
  obtain ⟨f, hf⟩ : ∃ f, chk ⟨qb, bi, ops⟩ = f := ⟨_, rfl⟩
  obtain ⟨f0, f1⟩ := f
  have hz0 : f0 = 0 → f1 = 0 ∧ ∀ g ∈ ops, 1 ≤ g.kind ∧ g.kind ≤ 6 := by
    intro h0
    obtain ⟨e1, _, _, _, _, _, e2⟩ := chk_zero (c := ⟨qb, bi, ops⟩) (by rw [hf]; exact h0)
    rw [hf] at e1
    exact ⟨congrArg Prod.snd e1, fun g hg => opCode_kind (e2 g hg)⟩
  have Hz0 := Lib.hid hz0
  rw [hf] at hr
  have Hf := Lib.hid hf
  have E0 := (ext_al w (.cells #[.int .i64 qb, .int .i64 bi, .slice ao n cp] 24)).trans (ext_al _ (.cells #[.int .i64 0, .int .i64 0] 28))
  have bC : CiB ((w.alloc (.cells #[.int .i64 qb, .int .i64 bi, .slice ao n cp] 24)).alloc (.cells #[.int .i64 0, .int .i64 0] 28)) w.heap.size qb bi ao n cp := CiB.ext ⟨heap_alloc_new w _⟩ (ext_al _ _)
  have bF : FtB ((w.alloc (.cells #[.int .i64 qb, .int .i64 bi, .slice ao n cp] 24)).alloc (.cells #[.int .i64 0, .int .i64 0] 28)) (w.heap.size + 1) 0 0 := ⟨by
    have := heap_alloc_new (w.alloc (.cells #[.int .i64 qb, .int .i64 bi, .slice ao n cp] 24)) (.cells #[.int .i64 0, .int .i64 0] 28)
    simpa using this⟩
  have Hl := Lib.hid h.1
  simp only at hr Hl ⊢
  have HE0 := Lib.hid E0; have HO := Lib.hid (h.ext E0); have HC := Lib.hid bC; have HFt := Lib.hid bF
  have m0 := bC.x0; have m1 := bC.x1; have m2 := bC.x2
  have Hr := Lib.hid hr
  have hab : n = 0 ∨ ∃ b o, ao = some ⟨b, o, none⟩ := by
    by_cases h0 : n = 0
    · exact Or.inl h0
    · exact Or.inr (HO.out.some_of (by omega))
  clear h E0 bC bF hr hf hz0
  go_enter Tryd.func27, Tryd.ntmps27
  go_wp2_with fail
  generalize (w.alloc (.cells #[.int .i64 qb, .int .i64 bi, .slice ao n cp] 24)).alloc (.cells #[.int .i64 0, .int .i64 0] 28) = W0 at *
  have HK := Lib.hid (RCheck_any ⟨qb, bi, ops⟩ ao n cp W0 HO.out hn hcp)
  rw [Hf.out] at HK
  refine HK.out.mono ?_
  rintro e w1 ⟨rfl, hx1⟩
  have Ef := ext_al w1 (.cells #[.int .i64 f0, .int .i64 f1] 28)
  have bf1 : FtB (w1.alloc (.cells #[.int .i64 f0, .int .i64 f1] 28)) w1.heap.size f0 f1 := ⟨heap_alloc_new w1 _⟩
  have q0 := bf1.x0; have q1 := bf1.x1
  have HX1 := Lib.hid (hx1.trans Ef)
  have Hf1 := Lib.hid bf1
  have bz := HFt.out.ext HX1.out; have x0' := bz.x0; have x1' := bz.x1; have g0' := bz.f 0; have g1' := bz.f 1
  have bc := HC.out.ext HX1.out; have v2 := bc.x2
  clear bz bc m0 m1 m2 hx1 Ef bf1 HK Hf
  by_cases hc0 : f0 = 0
  · obtain ⟨hf1, hkinds⟩ := Hz0.out hc0
    have hr1 := Hr.out
    rw [if_neg (by simp [hc0])] at hr1
    have Hr1 := Lib.hid hr1
    have Hkinds := Lib.hid hkinds
    have hcb := nf' hc0
    have Hc0 := Lib.hid hc0; have Hf1z := Lib.hid hf1
    clear hr1 Hr hkinds hc0 hf1 Hz0
    go_wp2_with fail
    generalize w1.alloc (.cells #[.int .i64 f0, .int .i64 f1] 28) = W1 at *
    generalize w1.heap.size = FB at *
    clear q0 q1 x0' x1' g0' g1' v2
    go_loopg [4] n (fun kk sN wr => Ext W1 wr ∧ ∃ i : Nat, sN = .int .i64 (i : Int) ∧ i ≤ n ∧ n - i = kk ∧ (r0, r1) = purF i (ops.drop i))
    case atStart => exact ⟨Ext.refl _, 0, rfl, by omega, by omega, Hr1.out.symm⟩
    case round =>
      obtain ⟨hER, i, rfl, hi, hk, hri⟩ := hrel
      have HER := Lib.hid hER
      have HE2 := Lib.hid (HX1.out.trans hER)
      have bz := HFt.out.ext HE2.out; have x0' := bz.x0; have x1' := bz.x1; have g0' := bz.f 0; have g1' := bz.f 1
      have bc := HC.out.ext HE2.out; have v2 := bc.x2
      have bq := Hf1.out.ext hER; have q0 := bq.x0; have q1 := bq.x1
      have HEz := Lib.hid (HE0.out.trans HE2.out)
      clear hER bz bc bq
      by_cases hin : i = n
      · have h2 : ¬ (i : Int) < (n : Int) := by omega
        have hz : (r0, r1) = ((0 : Int), (0 : Int)) := by rw [hri]; exact purF_end ops i (by rw [Hl.out]; omega)
        have HF0 : Hid (r0 = 0) := congrArg Prod.fst hz
        have HF1 : Hid (r1 = 0) := congrArg Prod.snd hz
        clear hz hri
        go_wp2_with fail
        exact bodyPost_ret (v := .agg #[.int .i64 f0, .int .i64 f1]) (by simp [results, Tryd.results27, go_sem, x0', x1']) rfl ⟨by rw [HF0.out, HF1.out, Hc0.out, Hf1z.out], put2x HEz.out (by omega) _ _⟩
      · have h2 : (i : Int) < (n : Int) := by omega
        have h0 : (0 : Int) ≤ (i : Int) := by omega
        rcases hab with h | ⟨b, o, rfl⟩
        · omega
        obtain ⟨g, hg⟩ : ∃ g, ops[i]? = some g := ⟨_, List.getElem?_eq_getElem (by rw [Hl.out]; omega)⟩
        obtain ⟨a1, n1, c1, a2, n2, c2, e0, e1, e2, e3, e4, e5, hL⟩ := (HO.out.ext HE2.out).at i g hg
        have hkd := Hkinds.out g (List.mem_of_getElem? hg)
        have hst := purF_step ops i g hg
        rw [← hri, hL.i2.1] at hst
        have Hst := Lib.hid hst
        obtain ⟨kd, kk', ctl, qq, bb, cnd⟩ := g
        simp only at e0 e1 e2 e3 e4 e5 Hst
        clear hst hri hg hL hkd
        by_cases h5 : 5 ≤ kd
        · have z5 := dt h5
          have hz : (r0, r1) = ((15 : Int), (i : Int)) := by rw [Hst.out, if_pos (Or.inl h5)]
          have HF0 : Hid (r0 = 15) := congrArg Prod.fst hz
          have HF1 : Hid (r1 = (i : Int)) := congrArg Prod.snd hz
          clear hz Hst
          go_wp2_with fail
          refine (rfault_any 15 (i : Int) _).mono ?_
          rintro e wz ⟨rfl, hxz⟩
          have bz := HFt.out.ext (HE2.out.trans hxz); have y0' := bz.x0; have y1' := bz.x1; have j0' := bz.f 0; have j1' := bz.f 1
          have HEy := Lib.hid (HE0.out.trans (HE2.out.trans hxz))
          clear bz
          go_wp2_with fail
          exact bodyPost_ret (v := .agg #[.int .i64 15, .int .i64 (i : Int)]) (by simp [results, Tryd.results27, go_sem, y0', y1']) rfl ⟨by rw [HF0.out, HF1.out], put2x HEy.out (by omega) _ _⟩
        have z5 := df h5
        by_cases hn2 : 0 < n2
        · have hi2 : (0 : Int) < (n2 : Int) := by omega
          have z6 := dt hi2
          have hz : (r0, r1) = ((15 : Int), (i : Int)) := by rw [Hst.out, if_pos (Or.inr hn2)]
          have HF0 : Hid (r0 = 15) := congrArg Prod.fst hz
          have HF1 : Hid (r1 = (i : Int)) := congrArg Prod.snd hz
          clear hz Hst
          go_wp2_with fail
          refine (rfault_any 15 (i : Int) _).mono ?_
          rintro e wz ⟨rfl, hxz⟩
          have bz := HFt.out.ext (HE2.out.trans hxz); have y0' := bz.x0; have y1' := bz.x1; have j0' := bz.f 0; have j1' := bz.f 1
          have HEy := Lib.hid (HE0.out.trans (HE2.out.trans hxz))
          clear bz
          go_wp2_with fail
          exact bodyPost_ret (v := .agg #[.int .i64 15, .int .i64 (i : Int)]) (by simp [results, Tryd.results27, go_sem, y0', y1']) rfl ⟨by rw [HF0.out, HF1.out], put2x HEy.out (by omega) _ _⟩
        have hi2 : ¬ (0 : Int) < (n2 : Int) := by omega
        have z6 := df hi2
        have hz : (r0, r1) = purF (i + 1) (ops.drop (i + 1)) := by rw [Hst.out, if_neg (by omega)]
        have HF := Lib.hid hz
        clear hz Hst
        go_wp2_with fail
        go_roundg (n - (i + 1))
        case measure => omega
        case rel => exact ⟨HER.out, i + 1, by go_num, by omega, rfl, HF.out⟩
  · have hcb := nt hc0
    have hr1 := Hr.out
    rw [if_pos (by exact hc0)] at hr1
    have HF0 : Hid (r0 = f0) := (congrArg Prod.fst hr1).symm
    have HF1 : Hid (r1 = f1) := (congrArg Prod.snd hr1).symm
    have HEz := Lib.hid (HE0.out.trans HX1.out)
    clear hr1 Hr hc0 Hz0
    go_wp2_with fail
    exact bodyPost_ret (v := .agg #[.int .i64 f0, .int .i64 f1]) (by simp [results, Tryd.results27, go_sem, x0', x1']) rfl ⟨by rw [HF0.out, HF1.out], put2x HEz.out (by omega) _ _⟩

end Go.Proofs.YtapolidgocfbjaaDoor
namespace Go.Proofs.YtapolidgocfbjaaDoor
open Go.RowKit

theorem pigeon : ∀ (k : Nat) (l : List Int), l.Nodup → (∀ c ∈ l, 0 ≤ c ∧ c < (k : Int)) → l.length ≤ k := by
  intro k
  induction k with
  | zero =>
    intro l _ h
    cases l with
    | nil => simp
    | cons a r => have := h a (by simp); omega
  | succ k ih =>
    intro l hn h
    by_cases hm : (k : Int) ∈ l
    · have h1 := ih (l.erase (k : Int)) (hn.erase _) (fun c hc => by
        have hc' := hn.mem_erase_iff.1 hc
        have := h c hc'.2
        have := hc'.1
        omega)
      have h2 := List.length_erase_of_mem hm
      omega
    · have := ih l hn (fun c hc => by
        have h3 := h c hc
        have : c ≠ (k : Int) := fun e => hm (e ▸ hc)
        omega)
      omega

theorem below_iff {n b : Int} : below n b = true ↔ 0 ≤ n ∧ n < b := by simp [below]
theorem ctlCode_zero (q n : Int) : ∀ (l s : List Int), ctlCode q n s l = 0 → (∀ c ∈ l, 0 ≤ c ∧ c < n) ∧ (s.Nodup → (s ++ l).Nodup) := by
  intro l
  induction l with
  | nil => intro s _; exact ⟨by simp, by simp⟩
  | cons c r ih =>
    intro s h
    rw [ctlCode] at h
    split at h
    · omega
    · rename_i hb
      split at h
      · omega
      · rename_i hc
        obtain ⟨h1, h2⟩ := ih _ h
        have hb' : below c n = true := by cases hx : below c n with
          | true => rfl
          | false => exact absurd hx hb
        refine ⟨?_, ?_⟩
        · intro x hx
          rcases List.mem_cons.1 hx with rfl | hx
          · exact below_iff.1 hb'
          · exact h1 x hx
        · intro hs
          have hcs : c ∉ s := fun e => hc (Or.inr e)
          have := h2 (by
            rw [List.nodup_append]
            refine ⟨hs, by simp, ?_⟩
            intro a ha b hb e
            simp at hb
            subst hb; subst e
            exact hcs ha)
          simpa using this

theorem fit_of_code {o : Gop} {n b : Int} (hn : n ≤ 12) (hb0 : 0 ≤ b) (hb : b ≤ 12) (h : opCode o n b = 0) : LvFit o ∧ placesFit o ∧ o.ctl.length ≤ 12 ∧ (∀ c ∈ o.ctl, 0 ≤ c ∧ c < n) := by
  unfold opCode at h
  split at h
  · omega
  rename_i hk
  split at h
  · omega
  split at h
  · omega
  rename_i hq
  split at h
  · omega
  split at h
  · exact absurd h (by assumption)
  rename_i hc
  split at h
  · omega
  rename_i hbit
  split at h
  · omega
  rename_i hcn
  have hc0 : ctlCode o.q n [] o.ctl = 0 := by
    by_cases e : ctlCode o.q n [] o.ctl = 0
    · exact e
    · exact absurd e hc
  obtain ⟨z1, z2⟩ := ctlCode_zero o.q n o.ctl [] hc0
  have z3 : o.ctl.Nodup := by simpa using z2 (by simp)
  have z4 := pigeon 12 o.ctl z3 (fun c hc => by have := z1 c hc; omega)
  have q1 : 0 ≤ o.q ∧ o.q < 12 := by
    unfold fitsB at hq
    split at hq
    · have : below o.q n = true := by simpa using hq
      have := below_iff.1 this; omega
    · have : o.q = 0 := by simpa using hq
      omega
  have b1 : 0 ≤ o.bit ∧ o.bit ≤ 12 ∧ (o.kind = 5 → o.bit < 12) := by
    unfold fitsB at hbit
    split at hbit
    · have : below o.bit b = true := by simpa using hbit
      have := below_iff.1 this; omega
    · have : o.bit = 0 := by simpa using hbit
      omega
  have c1 : o.cnd.length ≤ 24 ∧ ∀ t ∈ o.cnd, t ≠ 0 ∧ -12 ≤ t ∧ t ≤ 12 := by
    have : cndOk b o.cnd = true := by simpa using hcn
    unfold cndOk at this
    simp only [Bool.and_eq_true, decide_eq_true_eq, List.all_eq_true] at this
    refine ⟨this.1, fun t ht => ?_⟩
    have ht' := this.2 t ht
    unfold termOk at ht'
    simp at ht'
    omega
  refine ⟨⟨by omega, ⟨b1.1, b1.2.1⟩, fun t ht => (c1.2 t ht).2, by omega, c1.1, ?_⟩, ⟨fun t ht => by have := z1 t ht; omega, q1.2, b1.1, fun t ht => (c1.2 t ht).1⟩, z4, z1⟩
  intro t ht
  unfold plP at ht
  simp only [List.mem_append] at ht
  rcases ht with ((ht | ht) | ht) | ht
  · have := z1 t ht; omega
  · unfold tchQ at ht
    split at ht
    · simp at ht
    · simp at ht; omega
  · unfold tchB at ht
    split at ht
    · simp at ht; have := b1.2.2 (by assumption); omega
    · simp at ht
  · unfold tchC at ht
    simp only [List.mem_map] at ht
    obtain ⟨u, hu, rfl⟩ := ht
    have := c1.2 u hu
    unfold bitOf
    split <;> omega

end Go.Proofs.YtapolidgocfbjaaDoor
namespace Go.Proofs.YtapolidgocfbjaaDoor
open Go.RowKit

/-- A number with a blank ahead of it. -/
def numL (i : Int) : List UInt8 := 32 :: Lib.decDigits i.toNat
/-- A condition with a blank ahead of it. -/
def cndL (t : Int) : List UInt8 := if t < 0 then 32 :: 33 :: Lib.decDigits (bitOf t).toNat else numL (bitOf t)
/-- An operation's line, without its end. -/
def prnOp (o : Gop) : List UInt8 :=
  (wordOf o.kind.toNat).data.toList ++ (if usesK o.kind then numL o.k else []) ++ (if usesQ o.kind then numL o.q else []) ++ (if 0 < o.ctl.length then [32, 111, 110] else []) ++ o.ctl.flatMap numL
    ++ (if usesB o.kind then [32, 116, 111] ++ numL o.bit else []) ++ (if 0 < o.cnd.length then [32, 105, 102] else []) ++ o.cnd.flatMap cndL
/-- A circuit's text. -/
def prn (c : Gci) : List UInt8 := [113, 117, 98, 105, 116, 115] ++ numL c.qubits ++ [32, 98, 105, 116, 115] ++ numL c.bits ++ [10] ++ c.ops.flatMap (fun o => prnOp o ++ [10])

/-- A builder that holds a text. -/
abbrev BldT (w : World) (b : Nat) (l : List UInt8) : Prop := Bld w b (Lib.byteCells l)

theorem dd_len {i : Nat} (h : i < 100) : (Lib.decDigits i).length ≤ 2 := by
  by_cases h1 : i < 10
  · rw [Lib.decDigits_one h1]; simp
  · rw [Lib.decDigits_two h1 h]; simp
theorem numL_len {i : Int} (h : i < 100) : (numL i).length ≤ 3 := by
  have := dd_len (i := i.toNat) (by omega)
  simp [numL]; omega
theorem cndL_len {t : Int} (h : -12 ≤ t ∧ t ≤ 12) : (cndL t).length ≤ 4 := by
  have hb : bitOf t < 100 := by unfold bitOf; split <;> omega
  unfold cndL
  split
  · have := dd_len (i := (bitOf t).toNat) (by omega)
    simp; omega
  · have := numL_len hb; omega

theorem wstr (b : Nat) (l : List UInt8) (s : ByteArray) (w : World) (h : BldT w b l) (hlen : l.length + s.size ≤ 140737488355328) :
    Calls Tryd.prog 44 #[.pointer (some ⟨b, 0, none⟩), .string s] w fun e w' => e = .returned (.tuple #[.int .i64 s.size, .nilIface]) ∧ BldT w' b (l ++ s.data.toList) ∧ Wrt b w w' := by
  refine (writeString_any b _ s w h (by rw [Lib.byteCells_length]; exact hlen)).mono ?_
  intro e w' hh
  refine ⟨hh.1, ?_, hh.2.2⟩
  have := hh.2.1
  rw [Lib.strCells_eq, ← Lib.byteCells_append] at this
  exact this
theorem wblank (b : Nat) (l : List UInt8) (w : World) (h : BldT w b l) (hlen : l.length + 1 ≤ 140737488355328) :
    Calls Tryd.prog 54 #[.pointer (some ⟨b, 0, none⟩), .int .u8 32] w fun e w' => e = .returned .nilIface ∧ BldT w' b (l ++ [32]) ∧ Wrt b w w' := by
  refine (writeByte_any b _ 32 w h (by rw [Lib.byteCells_length]; exact hlen)).mono ?_
  intro e w' hh
  refine ⟨hh.1, ?_, hh.2.2⟩
  have := hh.2.1
  have e1 : Lib.byteCells (l ++ [32]) = Lib.byteCells l ++ [.int .u8 32] := by rw [Lib.byteCells_append]; rfl
  rw [← e1] at this
  exact this

set_option maxHeartbeats 1000000 in
theorem writeNumber_any (b : Nat) (l : List UInt8) (i : Int) (w : World) (h : BldT w b l) (h0 : 0 ≤ i) (hi : i < 100) (hlen : l.length + 8 ≤ 140737488355328) :
    Calls Tryd.prog 45 #[.pointer (some ⟨b, 0, none⟩), .int .i64 i] w fun e w' => e = .returned (.tuple #[]) ∧ BldT w' b (l ++ numL i) ∧ Wrt b w w' := by
  obtain ⟨k, rfl⟩ : ∃ k : Nat, i = (k : Int) := ⟨i.toNat, by omega⟩
  have hk : k < 100 := by omega
  have hd := dd_len hk
  have HB := Lib.hid h
  clear h
  go_enter Tryd.func45, Tryd.ntmps45
  go_wp2_with fail
  refine (wblank b l w HB.out (by omega)).mono ?_
  rintro e w1 ⟨rfl, h1, hW1⟩
  have H1 := Lib.hid h1; have HW1 := Lib.hid hW1
  clear h1 hW1
  go_wp2_with fail
  refine (Tryd.strconv_Itoa_small k hk w1).mono ?_
  rintro e wz ⟨rfl, rfl⟩
  go_wp2_with fail
  refine (wstr b (l ++ [32]) ⟨(Lib.decDigits k).toArray⟩ _ H1.out (by simp [ByteArray.size]; omega)).mono ?_
  rintro e w2 ⟨rfl, h2, hW2⟩
  have H2 := Lib.hid h2; have HW2 := Lib.hid hW2
  clear h2 hW2
  go_wp2_with fail
  go_end0
  exact ⟨rfl, by have := H2.out; simpa [numL] using this, HW1.out.trans HW2.out⟩

set_option maxHeartbeats 1000000 in
theorem writeCondition_any (b : Nat) (l : List UInt8) (t : Int) (w : World) (h : BldT w b l) (ht0 : t ≠ 0) (ht : -12 ≤ t ∧ t ≤ 12) (hlen : l.length + 8 ≤ 140737488355328) :
    Calls Tryd.prog 56 #[.pointer (some ⟨b, 0, none⟩), .int .i64 t] w fun e w' => e = .returned (.tuple #[]) ∧ BldT w' b (l ++ cndL t) ∧ Wrt b w w' := by
  have hb0 : 0 ≤ bitOf t := by unfold bitOf; split <;> omega
  have hb1 : bitOf t < 100 := by unfold bitOf; split <;> omega
  obtain ⟨k, hk⟩ : ∃ k : Nat, bitOf t = (k : Int) := ⟨(bitOf t).toNat, by omega⟩
  have hk1 : k < 100 := by omega
  have hd := dd_len hk1
  have hc := condition_any t w ht
  rw [hk] at hc
  have HB := Lib.hid h; have HC := Lib.hid hc
  clear h hc
  by_cases hn : t < 0
  · have hL : cndL t = 32 :: 33 :: Lib.decDigits k := by unfold cndL; rw [if_pos hn, hk]; rfl
    have q1 : decide (0 ≤ t) = false := by simp; omega
    rw [q1] at HC
    rw [hL]
    clear hL hn q1 hk hb0 hb1
    go_enter Tryd.func56, Tryd.ntmps56
    go_wp2_with fail
    refine HC.out.mono ?_
    rintro e wz ⟨rfl, rfl⟩
    go_wp2_with fail
    refine (wstr b l ⟨#[32, 33]⟩ _ HB.out (by simp [ByteArray.size]; omega)).mono ?_
    rintro e w1 ⟨rfl, h1, hW1⟩
    have H1 := Lib.hid h1; have HW1 := Lib.hid hW1
    clear h1 hW1
    go_wp2_with fail
    refine (Tryd.strconv_Itoa_small k hk1 w1).mono ?_
    rintro e wz ⟨rfl, rfl⟩
    go_wp2_with fail
    refine (wstr b _ ⟨(Lib.decDigits k).toArray⟩ _ H1.out (by simp [ByteArray.size]; omega)).mono ?_
    rintro e w2 ⟨rfl, h2, hW2⟩
    have H2 := Lib.hid h2; have HW2 := Lib.hid hW2
    clear h2 hW2
    go_wp2_with fail
    go_end0
    exact ⟨rfl, by have := H2.out; simpa using this, HW1.out.trans HW2.out⟩
  · have hL : cndL t = numL (k : Int) := by unfold cndL; rw [if_neg hn, hk]
    have q1 : decide (0 ≤ t) = true := by simp; omega
    rw [q1] at HC
    rw [hL]
    clear hL hn q1 hk hb0 hb1
    go_enter Tryd.func56, Tryd.ntmps56
    go_wp2_with fail
    refine HC.out.mono ?_
    rintro e wz ⟨rfl, rfl⟩
    go_wp2_with fail
    refine (writeNumber_any b l (k : Int) _ HB.out (by omega) (by omega) hlen).mono ?_
    rintro e w1 ⟨rfl, h1, hW1⟩
    have H1 := Lib.hid h1; have HW1 := Lib.hid hW1
    clear h1 hW1
    go_wp2_with fail
    (refine bodyPost_ret (v := .tuple #[]) (by simp [results, Tryd.results56, go_sem]) rfl ?_)
    exact ⟨rfl, H1.out, HW1.out⟩

end Go.Proofs.YtapolidgocfbjaaDoor
namespace Go.Proofs.YtapolidgocfbjaaDoor
open Go.RowKit

theorem cput {w W : World} {g o : Nat} (h : Ext w W) (hg : w.heap.size ≤ g) (u : Value) : Ext w (W.setCell ⟨g, o, none⟩ u) := Below.setCell h (p := ⟨g, o, none⟩) hg u
theorem cdrew {w W : World} (h : Ext w W) : Ext w W.drew := Below.drew h


end Go.Proofs.YtapolidgocfbjaaDoor
