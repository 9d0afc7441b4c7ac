/-
  Texts of numbers, in plain lists: padded digits.
-/
import Derived.Lib.ItoaNum
import Derived.Test.YtfjbhiihfibbaaaDoorMBase
import Derived.Lib.AppendStr
import Derived.Lib.ItoaMem
import Derived.OwnWalk

namespace Go.Proofs.YtfjbhiihfibbaaaDoor

/-- n digits of v, noughts ahead. -/
def padD (n v : Nat) : List UInt8 := (List.range n).map fun t => Lib.dg v (n - 1 - t)

theorem padD_length (n v : Nat) : (padD n v).length = n := by simp [padD]

theorem dg_up (v n j : Nat) : Lib.dg v (n + j) = Lib.dg (v / 10 ^ n) j := by
  unfold Lib.dg
  rw [Nat.pow_add, Nat.div_div_eq_div_mul]

theorem dg_low (v n j : Nat) (h : j < n) : Lib.dg (v % 10 ^ n) j = Lib.dg v j := by
  unfold Lib.dg
  obtain ⟨k, rfl⟩ : ∃ k, n = j + (k + 1) := ⟨n - j - 1, by omega⟩
  have e : v % 10 ^ (j + (k + 1)) / 10 ^ j % 10 = v / 10 ^ j % 10 := by
    rw [Nat.pow_add, Nat.mod_mul_right_div_self, Nat.pow_succ, Nat.mul_comm (10 ^ k) 10, Nat.mod_mul_right_mod]
  rw [e]

theorem padD_append (m n v : Nat) : padD (m + n) v = padD m (v / 10 ^ n) ++ padD n (v % 10 ^ n) := by
  unfold padD
  rw [List.range_add, List.map_append, List.map_map]
  congr 1
  · refine List.map_congr_left fun t ht => ?_
    have ht' : t < m := List.mem_range.1 ht
    rw [show m + n - 1 - t = n + (m - 1 - t) by omega, dg_up]
  · refine List.map_congr_left fun t ht => ?_
    have ht' : t < n := List.mem_range.1 ht
    show Lib.dg v (m + n - 1 - (m + t)) = _
    rw [show m + n - 1 - (m + t) = n - 1 - t by omega, dg_low _ _ _ (by omega)]

theorem decDigits_pad (u : Nat) : Lib.decDigits u = padD (Lib.nDigits u) u := Lib.decDigits_eq u

theorem nDigits_div (n v : Nat) (h : 0 < v / 10 ^ n) : Lib.nDigits v = Lib.nDigits (v / 10 ^ n) + n := by
  induction n generalizing v with
  | zero => simp
  | succ n ih =>
    rw [Nat.pow_succ, Nat.mul_comm, ← Nat.div_div_eq_div_mul] at h ⊢
    have h10 : ¬ v < 10 := by
      intro hv
      rw [Nat.div_eq_of_lt hv, Nat.zero_div] at h
      exact Nat.lt_irrefl _ h
    rw [Lib.nDigits_big h10, ih (v / 10) h]
    omega

theorem decDigits_append (n v : Nat) (h : 0 < v / 10 ^ n) : Lib.decDigits v = Lib.decDigits (v / 10 ^ n) ++ padD n (v % 10 ^ n) := by
  rw [decDigits_pad v, nDigits_div n v h, padD_append, ← decDigits_pad]

theorem padD_zero (n : Nat) : padD n 0 = List.replicate n 48 := by
  unfold padD
  apply List.ext_getElem
  · simp
  · intro i h1 h2
    simp [Lib.dg]

theorem padD_fill (n v : Nat) (h : Lib.nDigits v ≤ n) : padD n v = List.replicate (n - Lib.nDigits v) 48 ++ Lib.decDigits v := by
  obtain ⟨m, rfl⟩ : ∃ m, n = m + Lib.nDigits v := ⟨n - Lib.nDigits v, by omega⟩
  have hlt := Lib.lt_pow_nDigits v
  rw [padD_append, Nat.div_eq_of_lt hlt, Nat.mod_eq_of_lt hlt, padD_zero, Nat.add_sub_cancel, ← decDigits_pad]

theorem nDigits_le (n v : Nat) (hn : 1 ≤ n) (h : v < 10 ^ n) : Lib.nDigits v ≤ n := by
  induction n generalizing v with
  | zero => omega
  | succ n ih =>
    by_cases h10 : v < 10
    · rw [Lib.nDigits_small h10]; exact hn
    · rw [Lib.nDigits_big h10]
      rw [Nat.pow_succ] at h
      have h1 : 1 ≤ n := by
        cases n with
        | zero => simp at h; omega
        | succ k => omega
      have := ih (v / 10) h1 (by omega)
      omega

end Go.Proofs.YtfjbhiihfibbaaaDoor

/-
  A slice of bytes that grows: its block is its own and holds bytes alone; appending to it turns no word.
-/
namespace Go.Proofs.YtfjbhiihfibbaaaDoor
open Go.RowKit

/-- Bytes as cells. -/
def byC (l : List UInt8) : List Value := l.map fun b => Value.int .u8 (b.toNat : Int)
theorem byC_length (l : List UInt8) : (byC l).length = l.length := by simp [byC]
theorem byC_append (l m : List UInt8) : byC (l ++ m) = byC l ++ byC m := by simp [byC]
theorem byC_one (l : List UInt8) : ∀ u ∈ byC l, u.oneCell' = true := by
  intro u hu
  simp only [byC, List.mem_map] at hu
  obtain ⟨b, _, rfl⟩ := hu
  rfl
theorem byC_u8 (l : List UInt8) : ∀ u ∈ byC l, ∃ x : Int, u = .int .u8 x := by
  intro u hu
  simp only [byC, List.mem_map] at hu
  obtain ⟨b, _, rfl⟩ := hu
  exact ⟨_, rfl⟩
theorem strCells_byC (l : List UInt8) : Lib.strCells ⟨l.toArray⟩ = byC l := by simp [Lib.strCells, byC]

/-- v is a slice of the bytes l, at the head of a block of its own that holds bytes alone. -/
def Own (w : World) (e : TypeId) (v : Value) (l : List UInt8) : Prop :=
  (v = .slice none 0 0 ∧ l = []) ∨
  ∃ g cap cur, v = .slice (some ⟨g, 0, none⟩) l.length cap ∧ w.heap[g]? = some (.cells cur e (0, 0)) ∧ l.length ≤ cap ∧ cap ≤ maxLen ∧ cur.size = cap ∧ cur.toList.take l.length = byC l ∧ ∀ u ∈ cur.toList, ∃ x : Int, u = .int .u8 x

theorem Own.nil (w : World) (e : TypeId) : Own w e (.slice none 0 0) [] := Or.inl ⟨rfl, rfl⟩

/-- v has become v' by appending: no other block has turned. -/
structure Apd (w w' : World) (v v' : Value) : Prop where
  grown : w.grownBy w' v.ownBlock
  lies : v'.ownBlock = v.ownBlock ∨ ∃ g, v'.ownBlock = some g ∧ w.heap.size ≤ g

theorem Apd.of_ext {w w' : World} (h : Ext w w') (v : Value) : Apd w w' v v :=
  ⟨⟨h.os, h.tape, h.output, h.size, fun k hk _ => h.block k hk⟩, Or.inl rfl⟩
theorem Apd.refl (w : World) (v : Value) : Apd w w v v := Apd.of_ext (Ext.refl w) v

theorem Apd.trans {a b c : World} {u v x : Value} (h : Apd a b u v) (k : Apd b c v x) : Apd a c u x := by
  refine ⟨⟨k.grown.os.trans h.grown.os, k.grown.tape.trans h.grown.tape, k.grown.output.trans h.grown.output, Nat.le_trans h.grown.size k.grown.size, fun i hi hne => ?_⟩, ?_⟩
  · rw [k.grown.block i (Nat.lt_of_lt_of_le hi h.grown.size) ?_, h.grown.block i hi hne]
    rcases h.lies with e | ⟨g, e, hg⟩
    · rw [e]; exact hne
    · rw [e]; intro h2; injection h2 with h2; omega
  · rcases k.lies with e | ⟨g, e, hg⟩
    · rw [e]; exact h.lies
    · exact Or.inr ⟨g, e, Nat.le_trans h.grown.size hg⟩

theorem Apd.ext {w w' : World} {v' : Value} (h : Apd w w' (.slice none 0 0) v') : Ext w w' :=
  ⟨h.grown.os, h.grown.tape, h.grown.output, h.grown.size, fun k hk => h.grown.block k hk (by simp [Value.ownBlock])⟩

theorem Own.lt {w : World} {e : TypeId} {v : Value} {l : List UInt8} (h : Own w e v l) : ∀ g, v.ownBlock = some g → g < w.heap.size := by
  intro g hg
  rcases h with ⟨rfl, _⟩ | ⟨g', cap, cur, rfl, hb, _⟩
  · simp [Value.ownBlock] at hg
  · simp [Value.ownBlock] at hg
    subst hg
    exact (Array.getElem?_eq_some_iff.1 hb).1

theorem Own.ext {w w' : World} {e : TypeId} {v : Value} {l : List UInt8} (h : Own w e v l) (k : Ext w w') : Own w' e v l := by
  rcases h with h | ⟨g, cap, cur, rfl, hb, rest⟩
  · exact Or.inl h
  · exact Or.inr ⟨g, cap, cur, rfl, (k.block g (Array.getElem?_eq_some_iff.1 hb).1).trans hb, rest⟩

/-- What is no byte lies in another block. -/
theorem Own.apart {w : World} {e : TypeId} {v : Value} {l : List UInt8} (h : Own w e v l) {b o : Nat} {u : Value} (hc : w.cell? ⟨b, o, none⟩ = some u) (hu : ∀ x, u ≠ .int .u8 x) : some b ≠ v.ownBlock := by
  intro hb
  rcases h with ⟨rfl, _⟩ | ⟨g, cap, cur, rfl, hg, _, _, _, _, hall⟩
  · simp [Value.ownBlock] at hb
  · simp only [Value.ownBlock, Option.some.injEq] at hb
    subst hb
    rw [cell_of_row w b o cur e (0, 0) hg] at hc
    obtain ⟨x, hx⟩ := hall u (List.mem_of_getElem? (by rw [Array.getElem?_toList]; exact hc))
    exact hu x hx

theorem Apd.cell {w w' : World} {e : TypeId} {v v' : Value} {l : List UInt8} (k : Apd w w' v v') (h : Own w e v l) {b o : Nat} {u : Value} (hc : w.cell? ⟨b, o, none⟩ = some u) (hu : ∀ x, u ≠ .int .u8 x) : w'.cell? ⟨b, o, none⟩ = some u :=
  k.grown.cell hc (h.apart hc hu)

theorem Seg.apd {w w' : World} {e : TypeId} {v v' : Value} {l : List UInt8} {ao : Option Addr} {la : List Nat} (h : Seg w ao la) (ho : Own w e v l) (k : Apd w w' v v') : Seg w' ao la := by
  rcases h with h | ⟨b, o, rfl, hb, hc⟩
  · exact Or.inl h
  · exact Or.inr ⟨b, o, rfl, Nat.lt_of_lt_of_le hb k.grown.size, fun t ht => k.cell ho (hc t ht) (fun x hx => by cases hx)⟩

/-- A table of words outlives what lays new blocks. -/
theorem tab_ext {P : Program} {w w' : World} {name : String} {k : IntKind} {zs : List Int} (h : Lib.TabIs P w name k zs) (he : Ext w w') : Lib.TabIs P w' name k zs := by
  unfold Lib.TabIs World.var? at *
  cases hg : P.globalNamed name with
  | none => simp [hg] at h
  | some g =>
    simp only [hg, Option.bind_some] at h ⊢
    have hlt : g < w.heap.size := by
      rcases Nat.lt_or_ge g w.heap.size with h' | h'
      · exact h'
      · rw [Array.getElem?_eq_none h'] at h; simp at h
    rw [he.block g hlt]
    exact h

theorem tab_apd {P : Program} {w w' : World} {name : String} {zs : List Int} {e : TypeId} {v v' : Value} {l : List UInt8} (h : Lib.TabIs P w name .u64 zs) (hz : zs ≠ []) (ho : Own w e v l) (k : Apd w w' v v') : Lib.TabIs P w' name .u64 zs := by
  unfold Lib.TabIs World.var? at *
  cases hg : P.globalNamed name with
  | none => simp [hg] at h
  | some g =>
    simp only [hg, Option.bind_some] at h ⊢
    cases hw : w.heap[g]? with
    | none => rw [hw] at h; simp at h
    | some ob =>
      have hlt : g < w.heap.size := (Array.getElem?_eq_some_iff.1 hw).1
      cases ob with
      | cells cs t fz =>
        rw [hw] at h
        simp only [Option.some.injEq] at h
        have hne : some g ≠ v.ownBlock := by
          cases zs with
          | nil => exact absurd rfl hz
          | cons z r =>
            have hc : w.cell? ⟨g, 0, none⟩ = some (.int .u64 z) := by
              rw [cell_of_row w g 0 cs t fz hw, h]; simp
            exact ho.apart hc (fun x hx => by cases hx)
        rw [k.grown.block g hlt hne, hw]
        simp [h]
      | _ => rw [hw] at h; simp at h

theorem zero_u8 (n : Nat) : ∀ u ∈ (Builtin.zeroCells (Value.int .u8 0).cells n).toList, ∃ x : Int, u = .int .u8 x := by
  intro u hu
  simp [Builtin.zeroCells, Value.cells, Nat.mod_one] at hu
  exact ⟨0, hu.2.symm⟩

/-- What growing leaves. -/
theorem own_new (w : World) (e : TypeId) (l m : List UInt8) (old : Nat) (v : Value) (hb : l.length + m.length ≤ 140737488355328) :
    Own (w.drew.alloc (.cells ((byC l).toArray ++ (byC m).toArray ++ Builtin.zeroCells (Value.int .u8 0).cells (grownCap w (l.length + m.length) old e - (l.length + m.length))) e)) e
        (.slice (some ⟨w.heap.size, 0, none⟩) (l.length + m.length) (grownCap w (l.length + m.length) old e)) (l ++ m) ∧
      Apd w (w.drew.alloc (.cells ((byC l).toArray ++ (byC m).toArray ++ Builtin.zeroCells (Value.int .u8 0).cells (grownCap w (l.length + m.length) old e - (l.length + m.length))) e)) v
        (.slice (some ⟨w.heap.size, 0, none⟩) (l.length + m.length) (grownCap w (l.length + m.length) old e)) := by
  have hge := grownCap_ge w (l.length + m.length) old e
  have hcm : grownCap w (l.length + m.length) old e ≤ maxLen := grownCap_le_maxLen w _ old e (by unfold maxLen; omega)
  refine ⟨Or.inr ⟨w.heap.size, _, _, by rw [List.length_append], heap_alloc_new w.drew _, by rw [List.length_append]; exact hge, hcm, ?_, ?_, ?_⟩, ⟨⟨rfl, rfl, rfl, by simp, fun k hk _ => Below.heap_alloc w.drew _ k hk⟩, Or.inr ⟨_, rfl, Nat.le_refl _⟩⟩⟩
  · have hz1 : (Value.int IntKind.u8 0).cells.size = 1 := rfl
    simp only [Array.size_append, List.size_toArray, size_zeroCells, hz1, byC_length]
    omega
  · simp only [Array.toList_append]
    rw [byC_append, ← List.length_append, ← byC_length (l ++ m), byC_append]
    exact List.take_left
  · intro u hu
    simp only [Array.toList_append, List.mem_append] at hu
    rcases hu with (hu | hu) | hu
    · exact byC_u8 l u hu
    · exact byC_u8 m u hu
    · exact zero_u8 _ u hu

/-- What stays in its room. -/
theorem own_room (w : World) (e : TypeId) (l m : List UInt8) (g cap : Nat) (cur : Array Value) (hg : w.heap[g]? = some (.cells cur e (0, 0))) (hcm : cap ≤ maxLen) (hcs : cur.size = cap) (ht : cur.toList.take l.length = byC l) (hall : ∀ u ∈ cur.toList, ∃ x : Int, u = .int .u8 x) (hroom : l.length + m.length ≤ cap) :
    Own (w.setRow g (cur.toList.take l.length ++ byC m ++ cur.toList.drop (l.length + m.length)).toArray) e (.slice (some ⟨g, 0, none⟩) (l.length + m.length) cap) (l ++ m) ∧
      Apd w (w.setRow g (cur.toList.take l.length ++ byC m ++ cur.toList.drop (l.length + m.length)).toArray) (.slice (some ⟨g, 0, none⟩) l.length cap) (.slice (some ⟨g, 0, none⟩) (l.length + m.length) cap) := by
  refine ⟨Or.inr ⟨g, cap, _, by rw [List.length_append], setRow_heap w g cur _ e _ hg, by rw [List.length_append]; exact hroom, hcm, ?_, ?_, ?_⟩, ⟨⟨rfl, rfl, rfl, by simp, fun k _ hk => setRow_other w g k _ (fun h => hk (by simp [Value.ownBlock, h]))⟩, Or.inl rfl⟩⟩
  · simp only [List.size_toArray, List.length_append, List.length_take, List.length_drop, Array.length_toList, byC_length]
    omega
  · rw [ht, byC_append, ← byC_length (l ++ m), byC_append]
    exact List.take_left
  · intro u hu
    simp only [List.mem_append] at hu
    rcases hu with (hu | hu) | hu
    · exact hall u (List.mem_of_mem_take hu)
    · exact byC_u8 m u hu
    · exact hall u (List.mem_of_mem_drop hu)

section
variable {P : Program} (w : World)

theorem Own.holds {e : TypeId} {g : Nat} {l : List UInt8} {cur : Array Value} (hg : w.heap[g]? = some (.cells cur e (0, 0))) (ht : cur.toList.take l.length = byC l) : ∀ j u, (byC l)[j]? = some u → w.cell? ((⟨g, 0, none⟩ : Addr).add j) = some u := by
  intro j u hu
  have hadd : (⟨g, 0, none⟩ : Addr).add j = ⟨g, j, none⟩ := by unfold Addr.add; split <;> simp_all
  rw [hadd, cell_of_row w g j cur e (0, 0) hg]
  rw [← ht, List.getElem?_take] at hu
  split at hu
  · simpa using hu
  · cases hu

theorem run_append_bytes (t ty e : TypeId) (i : TypeInfo) (ht : P.underlying t = some (.slice e)) (hi : P.info? e = some i) (hz : i.zero = some (.int .u8 0)) (hsize : i.size = 1) (hby : i.bytes = 1)
    (v : Value) (l : List UInt8) (hown : Own w e v l) (a : Addr) (m c : Nat) (news : List UInt8) (hm : news.length = m) (hm0 : 0 < m) (hnews : ∀ j u, (byC news)[j]? = some u → w.cell? (a.add j) = some u) (hb : l.length + news.length ≤ 140737488355328) :
    ∃ v' w', (Builtin.append_ #[t, t] ty #[v, .slice (some a) m c]).run P w = .ok v' w' ∧ Own w' e v' (l ++ news) ∧ Apd w w' v v' := by
  subst hm
  have hl : (byC news).length = news.length * i.size := by rw [byC_length, hsize, Nat.mul_one]
  rcases hown with ⟨rfl, rfl⟩ | ⟨g, cap, cur, rfl, hg, hlc, hcm, hcs, htk, hall⟩
  · have hr := run_append_nil (P := P) w t ty e i (.int .u8 0) ht hi hz a news.length c (byC news) hl hnews hm0 (by simp at hb; omega) (by rw [hby]; simp at hb; omega)
    have hn := own_new w e [] news 0 (.slice none 0 0) hb
    simp only [List.length_nil, Nat.zero_add, List.nil_append, byC, List.map_nil, Array.empty_append] at hn hr ⊢
    exact ⟨_, _, hr, hn.1, hn.2⟩
  · by_cases hroom : l.length + news.length ≤ cap
    · have hr := run_append_room (P := P) w t ty e i ht hi g l.length cap cur hg a news.length c (byC news) hl hnews (byC_one news) hroom (by rw [hsize, byC_length, hcs, Nat.mul_one]; exact hroom)
      rw [hsize, Nat.mul_one, byC_length] at hr
      have hn := own_room w e l news g cap cur hg hcm hcs htk hall hroom
      exact ⟨_, _, hr, hn.1, hn.2⟩
    · have hr := run_append_grow (P := P) w t ty e i (.int .u8 0) ht hi hz ⟨g, 0, none⟩ l.length cap (byC l) (by rw [byC_length, hsize, Nat.mul_one]) (Own.holds w hg htk) a news.length c (byC news) hl hnews (by omega) (by omega) (by rw [hby]; exact growslice_fits (by omega) (by omega))
      have hn := own_new w e l news cap (.slice (some ⟨g, 0, none⟩) l.length cap) hb
      exact ⟨_, _, hr, hn.1, hn.2⟩

theorem run_append_text (t u ty e : TypeId) (i : TypeInfo) (ht : P.underlying t = some (.slice e)) (hu : P.underlying u = some .string) (hi : P.info? e = some i) (hz : i.zero = some (.int .u8 0)) (hsize : i.size = 1) (hby : i.bytes = 1)
    (v : Value) (l : List UInt8) (hown : Own w e v l) (news : List UInt8) (hm0 : 0 < news.length) (hb : l.length + news.length ≤ 140737488355328) :
    ∃ v' w', (Builtin.append_ #[t, u] ty #[v, .string ⟨news.toArray⟩]).run P w = .ok v' w' ∧ Own w' e v' (l ++ news) ∧ Apd w w' v v' := by
  have hs : (⟨news.toArray⟩ : ByteArray).size = news.length := by simp [ByteArray.size]
  have hsc := strCells_byC news
  rcases hown with ⟨rfl, rfl⟩ | ⟨g, cap, cur, rfl, hg, hlc, hcm, hcs, htk, hall⟩
  · have hr := run_append_nil_string (P := P) w t u ty e i (.int .u8 0) ht hu hi hz ⟨news.toArray⟩ (by rw [hs]; exact hm0) (by rw [hs]; simp at hb; omega) (by rw [hs, hby]; simp at hb; omega)
    have hn := own_new w e [] news 0 (.slice none 0 0) hb
    have e1 : ((⟨news.toArray⟩ : ByteArray).data.map fun b => Value.int .u8 b.toNat) = (byC news).toArray := by
      apply Array.ext'
      simp [byC]
    rw [hs, e1] at hr
    simp only [List.length_nil, Nat.zero_add, List.nil_append, byC, List.map_nil, Array.empty_append] at hn hr ⊢
    exact ⟨_, _, hr, hn.1, hn.2⟩
  · by_cases hroom : l.length + news.length ≤ cap
    · have hr := Lib.run_append_room_string (P := P) w t u ty e i ht hu hi hsize g l.length cap cur hg ⟨news.toArray⟩ (by rw [hs]; exact hroom) (by rw [hs, hcs]; exact hroom)
      rw [hs, hsc] at hr
      have hn := own_room w e l news g cap cur hg hcm hcs htk hall hroom
      exact ⟨_, _, hr, hn.1, hn.2⟩
    · have hr := Lib.run_append_grow_string (P := P) w t u ty e i (.int .u8 0) ht hu hi hz ⟨g, 0, none⟩ l.length cap (byC l) (by rw [byC_length, hsize, Nat.mul_one]) (Own.holds w hg htk) ⟨news.toArray⟩ (by rw [hs]; omega) (by rw [hs]; omega) (by rw [hs, hby]; exact growslice_fits (by omega) (by omega))
      rw [hs, hsc] at hr
      have hn := own_new w e l news cap (.slice (some ⟨g, 0, none⟩) l.length cap) hb
      exact ⟨_, _, hr, hn.1, hn.2⟩

theorem wpList_append_bytes {ops : Array Oper} {rest : List Oper} {o : Oper} {a : Act} {Q : Exit → Act → World → Prop} (hgd : o.guard = none) (s x : Operand) (t : TypeId)
    (ho : o.op = .call { callee := .builtin .append, args := #[s, x], argTypes := #[t, t] })
    (e : TypeId) (i : TypeInfo) (ht : P.underlying t = some (.slice e)) (hi : P.info? e = some i) (hz : i.zero = some (.int .u8 0)) (hsize : i.size = 1) (hby : i.bytes = 1)
    (v : Value) (l : List UInt8) (hs : a.eval s = v) (hown : Own w e v l) (ad : Addr) (m c : Nat) (news : List UInt8) (hx : a.eval x = .slice (some ad) m c) (hm : news.length = m) (hm0 : 0 < m) (hnews : ∀ j u, (byC news)[j]? = some u → w.cell? (ad.add j) = some u) (hb : l.length + news.length ≤ 140737488355328)
    (h : ∀ v' w', Own w' e v' (l ++ news) → Apd w w' v v' → wpList P ops Q rest (a.put o.dst v') w') : wpList P ops Q (o :: rest) a w := by
  refine wpList_plain hgd fun _ hK => ?_
  obtain ⟨v', w', hr, h2, h3⟩ := run_append_bytes (P := P) w t o.type e i ht hi hz hsize hby v l hown ad m c news hm hm0 hnews hb
  unfold Oper.wp execOp
  simp only [ho, resolve, invoke, builtin, Sem.run_bind, Sem.run_pure, Result.andThen_ok, List.map_toArray, List.map_cons, List.map_nil, hs, hx, hr]
  exact hK _ _ (h v' w' h2 h3)

theorem wpList_append_text {ops : Array Oper} {rest : List Oper} {o : Oper} {a : Act} {Q : Exit → Act → World → Prop} (hgd : o.guard = none) (s x : Operand) (t u : TypeId)
    (ho : o.op = .call { callee := .builtin .append, args := #[s, x], argTypes := #[t, u] })
    (e : TypeId) (i : TypeInfo) (ht : P.underlying t = some (.slice e)) (hu : P.underlying u = some .string) (hi : P.info? e = some i) (hz : i.zero = some (.int .u8 0)) (hsize : i.size = 1) (hby : i.bytes = 1)
    (v : Value) (l : List UInt8) (hs : a.eval s = v) (hown : Own w e v l) (news : List UInt8) (hx : a.eval x = .string ⟨news.toArray⟩) (hm0 : 0 < news.length) (hb : l.length + news.length ≤ 140737488355328)
    (h : ∀ v' w', Own w' e v' (l ++ news) → Apd w w' v v' → wpList P ops Q rest (a.put o.dst v') w') : wpList P ops Q (o :: rest) a w := by
  refine wpList_plain hgd fun _ hK => ?_
  obtain ⟨v', w', hr, h2, h3⟩ := run_append_text (P := P) w t u o.type e i ht hu hi hz hsize hby v l hown news hm0 hb
  unfold Oper.wp execOp
  simp only [ho, resolve, invoke, builtin, Sem.run_bind, Sem.run_pure, Result.andThen_ok, List.map_toArray, List.map_cons, List.map_nil, hs, hx, hr]
  exact hK _ _ (h v' w' h2 h3)

end

end Go.Proofs.YtfjbhiihfibbaaaDoor
