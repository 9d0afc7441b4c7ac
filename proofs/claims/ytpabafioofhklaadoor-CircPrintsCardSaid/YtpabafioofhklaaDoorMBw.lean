/-
  Texts are put together: what strings.Builder's writing methods do in this program, where a written builder is never copied.
-/
import Derived.Test.YtpabafioofhklaaDoorMCa
import Derived.Test.YtpabafioofhklaaDoorShelf

namespace Go.Proofs.YtpabafioofhklaaDoor
open Go.RowKit

theorem byte_info : (Tryd.prog.info? 5).map (fun i => (i.zero, i.size, i.bytes)) = some (some (.int .u8 0), 1, 1) := by kernel_rfl
theorem bld_size : (Tryd.prog.info? 56).map (·.size) = some 2 := by kernel_rfl
theorem bld_lies : liesAt Tryd.prog Tryd.prog.depth 56 (2 / Tryd.prog.cellsOf 56) 0 56 1 = true := by kernel_rfl

/-- A builder in block b that holds these cells; all that it owns lies from b on. -/
abbrev Bld (w : World) (b : Nat) (bs : List Value) : Prop := Lib.IsBuilderF 56 5 b b bs w
/-- What is written into the builder b leaves all else as it was. -/
structure Wrt (b : Nat) (w w' : World) : Prop where
  low : Below b w w'
  oth : Lib.OthersKept 5 (some b) w w'
theorem Wrt.refl (b : Nat) (w : World) : Wrt b w w := ⟨Below.refl b w, Lib.OthersKept.refl _ _ w⟩
theorem Wrt.trans {b : Nat} {w w' w'' : World} (h : Wrt b w w') (k : Wrt b w' w'') : Wrt b w w'' := ⟨h.low.trans k.low, h.oth.trans k.oth⟩
theorem Wrt.alloc {b : Nat} {w w' : World} (h : Wrt b w w') (hb : b ≤ w'.heap.size) (o : Obj) : Wrt b w (w'.alloc o) := ⟨h.low.alloc hb o, h.oth.alloc o⟩
theorem Wrt.drew {b : Nat} {w w' : World} (h : Wrt b w w') : Wrt b w w'.drew := ⟨h.low.drew, h.oth.drew⟩
/-- A row that is no row of bytes, and not the builder's own, stands. -/
theorem Wrt.row {b : Nat} {w w' : World} (h : Wrt b w w') {g : Nat} {cs : Array Value} {t : TypeId} {fz : Nat × Nat} (hg : w.heap[g]? = some (.cells cs t fz)) (hne : g ≠ b) (ht : t ≠ 5) : w'.heap[g]? = some (.cells cs t fz) :=
  h.oth g _ hg (fun e => hne (Option.some.inj e)) (fun c f e => ht (by injection e))
/-- What lay there ahead of the builder stands. -/
theorem Wrt.ext {b : Nat} {w0 w w' : World} (h : Wrt b w w') (k : Ext w0 w) (hb : w0.heap.size ≤ b) : Ext w0 w' := Below.trans k (h.low.mono hb)
theorem Bld.lt {w : World} {b : Nat} {bs : List Value} (h : Bld w b bs) : b < w.heap.size := by rcases h with h | h <;> exact h.lt
theorem Bld.alloc {w : World} {b : Nat} {bs : List Value} (h : Bld w b bs) (o : Obj) : Bld (w.alloc o) b bs := Lib.IsBuilderF.alloc h o
theorem bld_new (w : World) : Bld (w.alloc (.cells #[.pointer none, .slice none 0 0] 56)) w.heap.size [] := Lib.IsBuilderF.of (Lib.fresh_isBuilder _ _ w)

set_option maxHeartbeats 1000000 in
set_option maxRecDepth 100000 in
theorem copyCheck_used (b : Nat) (w : World) (h0 : w.cell? ⟨b, 0, none⟩ = some (.pointer (some ⟨b, 0, none⟩))) :
    Calls Tryd.prog 49 #[.pointer (some ⟨b, 0, none⟩)] w fun e w' => e = .returned (.tuple #[]) ∧ w' = w := by
  obtain ⟨j, hj, _⟩ := Option.map_eq_some_iff.1 bld_size
  go_enter Tryd.func49, Tryd.ntmps49
  go_wp2
  rw [Lib.run_neq_ptr_same w _ Tryd.underlying53 hj]
  go_wp2
  go_end0
  exact ⟨rfl, rfl⟩

set_option maxHeartbeats 1000000 in
set_option maxRecDepth 100000 in
theorem copyCheck_fresh (b : Nat) (w : World) (h0 : w.cell? ⟨b, 0, none⟩ = some (.pointer none)) (hsh : w.shape? b = some (56, 2)) (hfz : w.frozen? ⟨b, 0, none⟩ = false) :
    Calls Tryd.prog 49 #[.pointer (some ⟨b, 0, none⟩)] w fun e w' => e = .returned (.tuple #[]) ∧ w' = w.setCell ⟨b, 0, none⟩ (.pointer (some ⟨b, 0, none⟩)) := by
  obtain ⟨j, hj, hjs⟩ := Option.map_eq_some_iff.1 bld_size
  go_enter Tryd.func49, Tryd.ntmps49
  go_wp2
  rw [Lib.run_to_unsafe w ⟨b, 0, none⟩ Tryd.underlying53 Tryd.underlying98 hj (by rw [hjs]; decide) hsh (Nat.zero_lt_succ 1)]
  simp only [Result.andThen]
  rw [Oper.upon_value]
  go_wp2
  rw [run_callFunc_extern Tryd.func63 (by kernel_rfl) (by kernel_rfl) (by kernel_rfl) (e := Extern.AbiNoEscape.same) (by kernel_rfl), Lib.run_noEscape]
  simp only [Result.andThen]
  rw [Oper.upon_value]
  go_wp2
  rw [Lib.run_from_unsafe w ⟨b, 0, none⟩ Tryd.underlying98 Tryd.underlying53 hj hsh bld_lies]
  simp only [Result.andThen]
  rw [Oper.upon_value]
  go_wp2
  go_end0
  exact ⟨rfl, rfl⟩

theorem copyCheck_any (b : Nat) (bs : List Value) (w : World) (h : Bld w b bs) :
    Calls Tryd.prog 49 #[.pointer (some ⟨b, 0, none⟩)] w fun e w' => e = .returned (.tuple #[]) ∧ Lib.BuilderAtF 56 5 b b (.pointer (some ⟨b, 0, none⟩)) bs w' ∧ Wrt b w w' := by
  cases h with
  | inl h =>
    refine (copyCheck_fresh b w h.cell0 h.shape h.frozen0).mono ?_
    intro e w' hh
    obtain ⟨he, hw⟩ := hh
    subst hw
    exact ⟨he, h.used _, ⟨Below.setCell (Below.refl b w) (Nat.le_refl b) _, (Lib.OthersKept.refl _ (some b) w).setCell ⟨b, 0, none⟩ rfl _⟩⟩
  | inr h =>
    refine (copyCheck_used b w h.cell0).mono ?_
    intro e w' hh
    obtain ⟨he, hw⟩ := hh
    subst hw
    exact ⟨he, h, Wrt.refl b w'⟩

theorem bld_grown {w1 w2 : World} {b : Nat} {p v : Value} {bs : List Value} {n : Nat} {row : Option Nat} (hbk : w1.heap[b]? = some (.cells #[p, v] 56 (0, 0))) (_hown : w1.ownsRowF b 5 1 v n bs) (hne : v.ownBlock ≠ some b) (hg : w1.grownBy w2 row) (hr : row = v.ownBlock) :
    w2.heap[b]? = some (.cells #[p, v] 56 (0, 0)) := by
  subst hr
  rw [hg.block b (Array.getElem?_eq_some_iff.1 hbk).1 (fun e => hne e.symm)]; exact hbk

set_option maxHeartbeats 2000000 in
set_option maxRecDepth 100000 in
/-- A text is written. -/
theorem writeString_any (b : Nat) (bs : List Value) (s : ByteArray) (w : World) (h : Bld w b bs) (hlen : bs.length + s.size ≤ 140737488355328) :
    Calls Tryd.prog 29 #[.pointer (some ⟨b, 0, none⟩), .string s] w fun e w' => e = .returned (.tuple #[.int .i64 s.size, .nilIface]) ∧ Bld w' b (bs ++ Lib.strCells s) ∧ Wrt b w w' := by
  obtain ⟨i0, hi, hz0, hz1, hz2⟩ := info_parts byte_info
  have hbw := h.lt
  go_enter Tryd.func29, Tryd.ntmps29
  go_wp2_with fail
  refine (copyCheck_any b bs w h).mono ?_
  rintro e w1 ⟨rfl, h1, hW1⟩
  obtain ⟨hB, v, hbk, hown, hne⟩ := h1
  have hs1 := hW1.low.size
  have c0 : w1.cell? ⟨b, 0, none⟩ = some (.pointer (some ⟨b, 0, none⟩)) := by rw [Lib.cell_of_heap hbk]; rfl
  have c1 : w1.cell? ⟨b, 1, none⟩ = some v := by rw [Lib.cell_of_heap hbk]; rfl
  go_wp2_with (at_builtin; refine Lib.wpList_append_own_stringF _ rfl _ _ 54 9 rfl b 5 i0 Tryd.underlying54 Tryd.underlying9 hi hz0 hz1 hz2 _ _ _ rfl hown s rfl ?b1 ?b2 ?b3 ?_)
  case b1 => unfold maxLen; omega
  case b2 => omega
  case b3 => omega
  intro v' w2 hown' hgrow _
  have hb2 := bld_grown hbk hown hne hgrow rfl
  have d0 : w2.cell? ⟨b, 0, none⟩ = some (.pointer (some ⟨b, 0, none⟩)) := by rw [Lib.cell_of_heap hb2]; rfl
  have d1 : w2.cell? ⟨b, 1, none⟩ = some v := by rw [Lib.cell_of_heap hb2]; rfl
  have f1 : w2.frozen? ⟨b, 1, none⟩ = false := Lib.frozen_of_heap hb2 1
  obtain ⟨ao, n', cap, rfl⟩ : ∃ ao n' cap, v' = .slice ao n' cap := by
    rcases hown'.2 with ⟨hv, _⟩ | ⟨g, cap, cur, fz, hv, _⟩ <;> exact ⟨_, _, _, hv⟩
  have HF := Lib.hid (show Bld (w2.setCell ⟨b, 1, none⟩ (.slice ao n' cap)) b (bs ++ Lib.strCells s) from Or.inr (Lib.BuilderAtF.put (T := 56) (e := 5) (Nat.le_refl b) hb2 (bs' := bs ++ Lib.strCells s) (by simpa [Lib.strCells_length] using hown') (by decide)))
  have HW := Lib.hid (show Wrt b w (w2.setCell ⟨b, 1, none⟩ (.slice ao n' cap)) from ⟨(hW1.low.grown hgrow (by omega) (fun k hk => (hown.lt k hk).1)).setCell (p := ⟨b, 1, none⟩) (Nat.le_refl b) _, (hW1.oth.grown hgrow (Lib.ownsRowF_kind hown)).setCell ⟨b, 1, none⟩ rfl _⟩)
  go_wp2
  go_ret2
  exact ⟨rfl, HF.out, HW.out⟩

set_option maxHeartbeats 2000000 in
set_option maxRecDepth 100000 in
/-- A byte is written. -/
theorem writeByte_any (b : Nat) (bs : List Value) (c : Int) (w : World) (h : Bld w b bs) (hlen : bs.length + 1 ≤ 140737488355328) :
    Calls Tryd.prog 50 #[.pointer (some ⟨b, 0, none⟩), .int .u8 c] w fun e w' => e = .returned .nilIface ∧ Bld w' b (bs ++ [.int .u8 c]) ∧ Wrt b w w' := by
  obtain ⟨i0, hi, hz0, hz1, hz2⟩ := info_parts byte_info
  have hbw := h.lt
  go_enter Tryd.func50, Tryd.ntmps50
  go_wp2_with fail
  refine (copyCheck_any b bs w h).mono ?_
  rintro e w1 ⟨rfl, h1, hW1⟩
  obtain ⟨hB, v, hbk, hown, hne⟩ := h1
  have hs1 := hW1.low.size
  have c0 : w1.cell? ⟨b, 0, none⟩ = some (.pointer (some ⟨b, 0, none⟩)) := by rw [Lib.cell_of_heap hbk]; rfl
  have c1 : w1.cell? ⟨b, 1, none⟩ = some v := by rw [Lib.cell_of_heap hbk]; rfl
  go_wp2_with (at_builtin; refine wpList_append_ownF _ rfl _ _ 54 rfl b 5 i0 (.int .u8 0) 1 1 Tryd.underlying54 hi hz0 hz1 hz2 rfl (by decide) _ _ _ rfl (hown.alloc _) ⟨w1.heap.size, 0, none⟩ 1 1 [.int .u8 c] rfl rfl ?b0 ?b1 ?b2 ?b3 ?b4 ?_)
  case b0 =>
    intro j u hj
    cases j with
    | zero => simp at hj; subst hj; simp [Addr.add]
    | succ j => simp at hj
  case b1 => intro u hu; simp at hu; subst hu; rfl
  case b2 => unfold maxLen; omega
  case b3 => omega
  case b4 => simp; omega
  intro v' w2 hown' hgrow _
  have hbk' : (w1.alloc (.cells #[.int .u8 c] 5)).heap[b]? = some (.cells #[.pointer (some ⟨b, 0, none⟩), v] 56 (0, 0)) := by rw [Lib.alloc_old w1 _ b (by omega)]; exact hbk
  have hb2 := bld_grown hbk' (hown.alloc _) hne hgrow rfl
  have d0 : w2.cell? ⟨b, 0, none⟩ = some (.pointer (some ⟨b, 0, none⟩)) := by rw [Lib.cell_of_heap hb2]; rfl
  have d1 : w2.cell? ⟨b, 1, none⟩ = some v := by rw [Lib.cell_of_heap hb2]; rfl
  have f1 : w2.frozen? ⟨b, 1, none⟩ = false := Lib.frozen_of_heap hb2 1
  obtain ⟨ao, n', cap, rfl⟩ : ∃ ao n' cap, v' = .slice ao n' cap := by
    rcases hown'.2 with ⟨hv, _⟩ | ⟨g, cap, cur, fz, hv, _⟩ <;> exact ⟨_, _, _, hv⟩
  have HF := Lib.hid (show Bld (w2.setCell ⟨b, 1, none⟩ (.slice ao n' cap)) b (bs ++ [.int .u8 c]) from Or.inr (Lib.BuilderAtF.put (T := 56) (e := 5) (Nat.le_refl b) hb2 (bs' := bs ++ [.int .u8 c]) (by simpa using hown') (by decide)))
  have HW := Lib.hid (show Wrt b w (w2.setCell ⟨b, 1, none⟩ (.slice ao n' cap)) from ⟨((hW1.low.alloc (by omega) _).grown hgrow (by simp; omega) (fun k hk => (hown.lt k hk).1)).setCell (p := ⟨b, 1, none⟩) (Nat.le_refl b) _, ((hW1.oth.alloc _).grown hgrow (Lib.ownsRowF_kind (hown.alloc _))).setCell ⟨b, 1, none⟩ rfl _⟩)
  go_wp2
  go_ret
  exact ⟨rfl, HF.out, HW.out⟩

end Go.Proofs.YtpabafioofhklaaDoor
