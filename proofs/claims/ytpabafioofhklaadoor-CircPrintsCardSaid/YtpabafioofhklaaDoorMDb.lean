/-
  A slice of bytes made of a text: its row bears a mark behind its last cell; texts are put behind it.
-/
import Derived.Test.YtpabafioofhklaaDoorMDa
import Derived.Test.YtpabafioofhklaaDoorMBasT
import Derived.Laws.IdiomStrings

namespace Go.Proofs.YtpabafioofhklaaDoor
open Go.RowKit

/-- No cell of the row is frozen. -/
def Clear (m : Nat) (fz : Nat × Nat) : Prop := fz = (0, 0) ∨ m ≤ fz.1

theorem clear_at {w : World} {g k m : Nat} {cur : Array Value} {t : TypeId} {fz : Nat × Nat} (hg : w.heap[g]? = some (.cells cur t fz)) (h : Clear m fz) (hk : k < m) : w.frozen? ⟨g, k, none⟩ = false := by
  simp only [World.frozen?, hg]
  rcases h with rfl | h
  · simp
  · have : decide (fz.1 ≤ k) = false := by simp; omega
    simp [this]

/-- Cells are written one behind the other into such a row. -/
theorem store_clear (P : Program) (g o : Nat) (t : TypeId) (fz : Nat × Nat) (m : Nat) (hc : Clear m fz) (vs : List Value) : ∀ (i : Nat) (cur : Array Value) (w : World), w.heap[g]? = some (.cells cur t fz) → cur.size = m → o + i + vs.length ≤ m → (∀ v ∈ vs, v.oneCell' = true) →
    (storeCells ⟨g, o, none⟩ vs i).run P w = .ok () (w.setRow g (cur.toList.take (o + i) ++ vs ++ cur.toList.drop (o + i + vs.length)).toArray) := by
  induction vs with
  | nil =>
    intro i cur w hg _ _ _
    have e : (cur.toList.take (o + i) ++ [] ++ cur.toList.drop (o + i + ([] : List Value).length)).toArray = cur := by
      rw [List.append_nil, List.length_nil, Nat.add_zero, List.take_append_drop, Array.toArray_toList]
    rw [e, setRow_self w g cur t fz hg]
    rfl
  | cons v r ih =>
    intro i cur w hg hm hl h1
    rw [List.length_cons] at hl
    have hlt : o + i < cur.size := by omega
    have ha : (⟨g, o, none⟩ : Addr).add i = ⟨g, o + i, none⟩ := by
      unfold Addr.add
      by_cases h : i = 0 <;> simp [h]
    have hce : w.cell? ⟨g, o + i, none⟩ = some cur[o + i] := by simp [World.cell?, hg, hlt]
    have hs : (store ((⟨g, o, none⟩ : Addr).add i) v).run P w = .ok () (w.setRow g (cur.setIfInBounds (o + i) v)) := by
      rw [ha, run_store P w _ v _ (h1 v (by simp)), hce]
      simp [clear_at hg hc (show o + i < m by omega), setCell_eq_setRow w g (o + i) cur t fz v hg]
    have hi := ih (i + 1) (cur.setIfInBounds (o + i) v) (w.setRow g (cur.setIfInBounds (o + i) v)) (setRow_heap w g cur _ t _ hg) (by simp [hm]) (by omega) (fun x hx => h1 x (by simp [hx]))
    simp only [storeCells, Sem.run_bind, hs, Result.andThen_ok, hi, setRow_setRow]
    congr 3
    have e := list_seg_step cur.toList (o + i) v r (by simp; omega)
    simpa [Array.toList_setIfInBounds, Nat.add_assoc] using e

/-- v is a slice of the bytes l, in a block of its own, from base on. -/
def OwB (w : World) (base : Nat) (v : Value) (l : List UInt8) : Prop :=
  ∃ g cap cur fz, v = .slice (some ⟨g, 0, none⟩) l.length cap ∧ base ≤ g ∧ w.heap[g]? = some (.cells cur 5 fz) ∧ Clear cap fz ∧ l.length ≤ cap ∧ cap ≤ maxLen ∧ cur.size = cap ∧ cur.toList.take l.length = byC l ∧ ∀ u ∈ cur.toList, ∃ x : Int, u = .int .u8 x

theorem OwB.ext {w w' : World} {base : Nat} {v : Value} {l : List UInt8} (h : OwB w base v l) (k : Ext w w') : OwB w' base v l := by
  obtain ⟨g, cap, cur, fz, h1, h2, h3, r⟩ := h
  exact ⟨g, cap, cur, fz, h1, h2, (k.block g (Array.getElem?_eq_some_iff.1 h3).1).trans h3, r⟩
theorem OwB.cells {w : World} {base : Nat} {v : Value} {l : List UInt8} (h : OwB w base v l) : ∃ a cap, v = .slice (some a) l.length cap ∧ ∀ j (hj : j < l.length), w.cell? (a.add j) = some (.int .u8 (l[j].toNat : Int)) := by
  obtain ⟨g, cap, cur, fz, rfl, _, hg, _, hle, _, hcs, ht, _⟩ := h
  refine ⟨_, _, rfl, fun j hj => ?_⟩
  have ha : (⟨g, 0, none⟩ : Addr).add j = ⟨g, j, none⟩ := by
    unfold Addr.add
    by_cases h : j = 0 <;> simp [h]
  rw [ha, cell_of_row w g j cur _ fz hg]
  have h1 : (cur.toList.take l.length)[j]? = (byC l)[j]? := by rw [ht]
  rw [List.getElem?_take, if_pos hj] at h1
  have h2 : (byC l)[j]? = some (.int .u8 (l[j].toNat : Int)) := by simp [byC, hj]
  rw [h2] at h1
  simpa using h1

/-- '[]byte(text)'. -/
theorem bytes_of (w : World) (l : List UInt8) (hb : l.length ≤ 140737488355328) :
    ∃ v w', (convert 9 54 (.string ⟨l.toArray⟩)).run Tryd.prog w = .ok v w' ∧ OwB w' w.heap.size v l ∧ Ext w w' := by
  have hr := run_bytes_of_string (P := Tryd.prog) w 9 54 5 ⟨l.toArray⟩ Tryd.underlying9 Tryd.underlying54 Tryd.underlying5
  have hs : (⟨l.toArray⟩ : ByteArray).size = l.length := by simp [ByteArray.size]
  rw [hs] at hr
  have hge := grownCap_ge w l.length 0 5
  have hcm : grownCap w l.length 0 5 ≤ maxLen := grownCap_le_maxLen w _ 0 5 (by unfold maxLen; omega)
  have hsz : (bytesRow ⟨l.toArray⟩ (grownCap w l.length 0 5)).size = grownCap w l.length 0 5 := by
    simp [bytesRow, hs]; omega
  have htl : (bytesRow ⟨l.toArray⟩ (grownCap w l.length 0 5)).toList = byC l ++ List.replicate (grownCap w l.length 0 5 - l.length) (.int .u8 0) := by
    simp [bytesRow, byC, hs]
  refine ⟨_, _, hr, ⟨w.heap.size, _, _, _, rfl, Nat.le_refl _, heap_alloc_new w.drew _, Or.inr (by rw [hsz]; exact Nat.le_refl _), hge, hcm, hsz, ?_, ?_⟩, ?_⟩
  · rw [htl, ← byC_length l]; exact List.take_left
  · intro u hu
    rw [htl, List.mem_append] at hu
    rcases hu with hu | hu
    · exact byC_u8 l u hu
    · exact ⟨0, List.eq_of_mem_replicate hu⟩
  · exact cthen (cdrew (Ext.refl w)) _

/-- A text is put behind it. -/
theorem append_ob (ty : TypeId) (w : World) (base : Nat) (v : Value) (l news : List UInt8) (hown : OwB w base v l) (hbw : base ≤ w.heap.size) (hb : l.length + news.length ≤ 140737488355328) :
    ∃ v' w', (Builtin.append_ #[54, 9] ty #[v, .string ⟨news.toArray⟩]).run Tryd.prog w = .ok v' w' ∧ OwB w' base v' (l ++ news) ∧ Below base w w' := by
  obtain ⟨i, hi, hz0, hz1, hz2⟩ := info_parts byte_info
  have hs : (⟨news.toArray⟩ : ByteArray).size = news.length := by simp [ByteArray.size]
  have hsc := strCells_byC news
  have hlc : (byC news).length = news.length := byC_length news
  obtain ⟨g, cap, cur, fz, rfl, hbg, hg, hcl, hlc', hcm, hcs, ht, hall⟩ := hown
  by_cases hroom : l.length + news.length ≤ cap
  · have hf := Lib.run_firstCells_string (P := Tryd.prog) w 1 ⟨news.toArray⟩
    have hst := store_clear Tryd.prog g l.length 5 fz cap hcl (byC news) 0 cur w hg hcs (by omega) (byC_one news)
    rw [hsc, hs] at hf
    rw [hlc] at hst
    have hr : (Builtin.append_ #[54, 9] ty #[.slice (some ⟨g, 0, none⟩) l.length cap, .string ⟨news.toArray⟩]).run Tryd.prog w = .ok (.slice (some ⟨g, 0, none⟩) (l.length + news.length) cap) (w.setRow g (cur.toList.take l.length ++ byC news ++ cur.toList.drop (l.length + news.length)).toArray) := by
      simp only [Nat.add_zero] at hst
      simp [Builtin.append_, run_underlying Tryd.underlying54, run_underlying Tryd.underlying9, sizeOf, typeInfo, hi, hz1, Builtin.lenOf, hs, hroom, hf, Addr.add_lit, hst]
    refine ⟨_, _, hr, ⟨g, cap, _, fz, by rw [List.length_append], hbg, setRow_heap w g cur _ _ _ hg, hcl, by rw [List.length_append]; exact hroom, hcm, ?_, ?_, ?_⟩, ?_⟩
    · simp only [List.size_toArray, List.length_append, List.length_take, List.length_drop, Array.length_toList, hlc]
      omega
    · rw [ht, byC_append, ← byC_length (l ++ news), byC_append]
      exact List.take_left
    · intro u hu
      simp only [List.mem_append] at hu
      rcases hu with (hu | hu) | hu
      · exact hall u (List.mem_of_mem_take hu)
      · exact byC_u8 news u hu
      · exact hall u (List.mem_of_mem_drop hu)
    · exact ⟨rfl, rfl, rfl, by simp, fun k hk => setRow_other w g k _ (by omega)⟩
  · have holds : ∀ j u, (byC l)[j]? = some u → w.cell? ((⟨g, 0, none⟩ : Addr).add j) = some u := by
      intro j u hu
      have ha : (⟨g, 0, none⟩ : Addr).add j = ⟨g, j, none⟩ := by
        unfold Addr.add
        by_cases h : j = 0 <;> simp [h]
      rw [ha, cell_of_row w g j cur _ fz hg]
      rw [← ht, List.getElem?_take] at hu
      split at hu
      · simpa using hu
      · cases hu
    have hr := Lib.run_append_grow_string (P := Tryd.prog) w 54 9 ty 5 i (.int .u8 0) Tryd.underlying54 Tryd.underlying9 hi hz0 ⟨g, 0, none⟩ l.length cap (byC l) (by rw [byC_length, hz1, Nat.mul_one]) holds ⟨news.toArray⟩ (by rw [hs]; omega) (by rw [hs]; omega) (by rw [hs, hz2]; exact growslice_fits (by omega) (by omega))
    rw [hs, hsc] at hr
    obtain ⟨ho, ha⟩ := own_new w 5 l news cap (.slice (some ⟨g, 0, none⟩) l.length cap) hb
    refine ⟨_, _, hr, ?_, ?_⟩
    · rcases ho with ⟨hv, _⟩ | ⟨g', cap', cur', hv, hg', r1, r2, r3, r4, r5⟩
      · simp at hv
      · refine ⟨g', cap', cur', (0, 0), hv, ?_, hg', Or.inl rfl, r1, r2, r3, r4, r5⟩
        simp at hv
        omega
    · exact Below.alloc (Below.drew (Below.refl base w)) hbw _

theorem wpList_append_ob {ops : Array Oper} {rest : List Oper} {o : Oper} {a : Act} {Q : Exit → Act → World → Prop} (hgd : o.guard = none) (s x : Operand)
    (ho : o.op = .call { callee := .builtin .append, args := #[s, x], argTypes := #[54, 9] }) (w : World) (base : Nat) (v : Value) (l news : List UInt8) (hs : a.eval s = v) (hown : OwB w base v l) (hbw : base ≤ w.heap.size)
    (hx : a.eval x = .string ⟨news.toArray⟩) (hb : l.length + news.length ≤ 140737488355328)
    (h : ∀ v' w', OwB w' base v' (l ++ news) → Below base w w' → wpList Tryd.prog ops Q rest (a.put o.dst v') w') : wpList Tryd.prog ops Q (o :: rest) a w := by
  refine wpList_plain hgd fun _ hK => ?_
  obtain ⟨v', w', hr, h2, h3⟩ := append_ob o.type w base v l news hown hbw hb
  unfold Oper.wp execOp
  simp only [ho, resolve, invoke, builtin, Sem.run_bind, Sem.run_pure, Result.andThen_ok, List.map_toArray, List.map_cons, List.map_nil, hs, hx, hr]
  exact hK _ _ (h v' w' h2 h3)

/-- 'string(bytes)'. -/
theorem OwB.text {w : World} {base : Nat} {v : Value} {l : List UInt8} (h : OwB w base v l) : (convert 54 9 v).run Tryd.prog w = .ok (.string ⟨l.toArray⟩) w := by
  obtain ⟨a, cap, rfl, hc⟩ := h.cells
  exact run_convert_bytes_back (P := Tryd.prog) w 54 9 5 a cap l Tryd.underlying54 Tryd.underlying5 Tryd.underlying9 hc

end Go.Proofs.YtpabafioofhklaaDoor
