/-
  A slice of bytes that grows: its block is its own and holds bytes alone; appending to it turns no word. strconv.FormatUint to the base ten. Writing numbers: appendWord. Writing numbers: appendDigits, by halves. Writing numbers: chunkPowers. Writing numbers: Text.
-/
import Derived.Test.YtfjnlopbmkimiaaGreatDoorProg
import Derived.Test.YtfjnlopbmkimiaaGreatDoorRows
import Derived.BigQuiet
import Derived.Deep.Cut
import Derived.Deep.QuietTactic
import Derived.Deep.RegionHeld3
import Derived.Ground.Names2Prog
import Derived.Laws.Bits64b
import Derived.Laws.CopyOwn
import Derived.Laws.ResultCell
import Derived.Lib.AppendIntMem
import Derived.Lib.AppendStr
import Derived.Lib.BitFns
import Derived.Lib.ItoaMem
import Derived.Lib.ItoaNum
import Derived.Lib.Strings
import Derived.Lib.TrailingZeros
import Derived.OwnWalk
import Derived.Shelf.Bits.Mul64
import Derived.Shelf.LaysM
import Derived.Shelf.Slices.SearchI
import Derived.Shelf.Small.Bits
import Derived.Shelf.Small.Wraps
import Derived.Shelf.Spec.BitsCarry
import Derived.Shelf.Spec.TrailingZeros
import Derived.Shelf.Strconv.Itoa0
import Derived.Shelf.Strconv.Itoa1
import Derived.Shelf.Strconv.Itoa2
import Derived.Shelf.Strconv.Itoa3
import Derived.Shelf.Strings.Builder1
import Derived.Shelf.Strings.BuilderF
import Derived.Shelf.Strings.BuilderK
import Derived.WalkKit
import Derived.WalkLawsBesides
import Derived.WalkSpells
import Derived.Test.YtfjnlopbmkimiaaGreatDoorS00Mem
import Derived.Test.YtfjnlopbmkimiaaGreatDoorShelf
import Derived.Test.YtfjnlopbmkimiaaGreatDoorS02ShiftI
import Derived.Test.YtfjnlopbmkimiaaGreatDoorS03GuessD
import Derived.Test.YtfjnlopbmkimiaaGreatDoorS04IntB
import Derived.Test.YtfjnlopbmkimiaaGreatDoorS05IntD
import Derived.Test.YtfjnlopbmkimiaaGreatDoorS06GcB
namespace Go.Proofs.YtfjnlopbmkimiaaGreatDoor
open Go.RowKit

/-- Bytes as cells. -/
def byC (l : List UInt8) : List Value := l.map fun b => Value.int .u8 (b.toNat : Int)
theorem byC_length (l : List UInt8) : (byC l).length = l.length := by simp [byC]
theorem byC_append (l m : List UInt8) : byC (l ++ m) = byC l ++ byC m := by simp [byC]
theorem byC_one (l : List UInt8) : ∀ u ∈ byC l, u.oneCell' = true := by
  intro u hu
  simp only [byC, List.mem_map] at hu
  obtain ⟨b, _, rfl⟩ := hu
  rfl
theorem byC_u8 (l : List UInt8) : ∀ u ∈ byC l, ∃ x : Int, u = .int .u8 x := by
  intro u hu
  simp only [byC, List.mem_map] at hu
  obtain ⟨b, _, rfl⟩ := hu
  exact ⟨_, rfl⟩
theorem strCells_byC (l : List UInt8) : Lib.strCells ⟨l.toArray⟩ = byC l := by simp [Lib.strCells, byC]

/-- v is a slice of the bytes l, at the head of a block of its own that holds bytes alone. -/
def Own (w : World) (e : TypeId) (v : Value) (l : List UInt8) : Prop :=
  (v = .slice none 0 0 ∧ l = []) ∨
  ∃ g cap cur, v = .slice (some ⟨g, 0, none⟩) l.length cap ∧ w.heap[g]? = some (.cells cur e (0, 0)) ∧ l.length ≤ cap ∧ cap ≤ maxLen ∧ cur.size = cap ∧ cur.toList.take l.length = byC l ∧ ∀ u ∈ cur.toList, ∃ x : Int, u = .int .u8 x

theorem Own.nil (w : World) (e : TypeId) : Own w e (.slice none 0 0) [] := Or.inl ⟨rfl, rfl⟩

/-- v has become v' by appending: no other block has turned. -/
structure Apd (w w' : World) (v v' : Value) : Prop where
  grown : w.grownBy w' v.ownBlock
  lies : v'.ownBlock = v.ownBlock ∨ ∃ g, v'.ownBlock = some g ∧ w.heap.size ≤ g

theorem Apd.of_ext {w w' : World} (h : Ext w w') (v : Value) : Apd w w' v v :=
  ⟨⟨h.os, h.tape, h.output, h.size, fun k hk _ => h.block k hk⟩, Or.inl rfl⟩
theorem Apd.trans {a b c : World} {u v x : Value} (h : Apd a b u v) (k : Apd b c v x) : Apd a c u x := by
  refine ⟨⟨k.grown.os.trans h.grown.os, k.grown.tape.trans h.grown.tape, k.grown.output.trans h.grown.output, Nat.le_trans h.grown.size k.grown.size, fun i hi hne => ?_⟩, ?_⟩
  · rw [k.grown.block i (Nat.lt_of_lt_of_le hi h.grown.size) ?_, h.grown.block i hi hne]
    rcases h.lies with e | ⟨g, e, hg⟩
    · rw [e]; exact hne
    · rw [e]; intro h2; injection h2 with h2; omega
  · rcases k.lies with e | ⟨g, e, hg⟩
    · rw [e]; exact h.lies
    · exact Or.inr ⟨g, e, Nat.le_trans h.grown.size hg⟩

theorem Apd.ext {w w' : World} {v' : Value} (h : Apd w w' (.slice none 0 0) v') : Ext w w' :=
  ⟨h.grown.os, h.grown.tape, h.grown.output, h.grown.size, fun k hk => h.grown.block k hk (by simp [Value.ownBlock])⟩

theorem Own.ext {w w' : World} {e : TypeId} {v : Value} {l : List UInt8} (h : Own w e v l) (k : Ext w w') : Own w' e v l := by
  rcases h with h | ⟨g, cap, cur, rfl, hb, rest⟩
  · exact Or.inl h
  · exact Or.inr ⟨g, cap, cur, rfl, (k.block g (Array.getElem?_eq_some_iff.1 hb).1).trans hb, rest⟩

/-- What is no byte lies in another block. -/
theorem Own.apart {w : World} {e : TypeId} {v : Value} {l : List UInt8} (h : Own w e v l) {b o : Nat} {u : Value} (hc : w.cell? ⟨b, o, none⟩ = some u) (hu : ∀ x, u ≠ .int .u8 x) : some b ≠ v.ownBlock := by
  intro hb
  rcases h with ⟨rfl, _⟩ | ⟨g, cap, cur, rfl, hg, _, _, _, _, hall⟩
  · simp [Value.ownBlock] at hb
  · simp only [Value.ownBlock, Option.some.injEq] at hb
    subst hb
    rw [cell_of_row w b o cur e (0, 0) hg] at hc
    obtain ⟨x, hx⟩ := hall u (List.mem_of_getElem? (by rw [Array.getElem?_toList]; exact hc))
    exact hu x hx

theorem Apd.cell {w w' : World} {e : TypeId} {v v' : Value} {l : List UInt8} (k : Apd w w' v v') (h : Own w e v l) {b o : Nat} {u : Value} (hc : w.cell? ⟨b, o, none⟩ = some u) (hu : ∀ x, u ≠ .int .u8 x) : w'.cell? ⟨b, o, none⟩ = some u :=
  k.grown.cell hc (h.apart hc hu)

theorem Seg.apd {w w' : World} {e : TypeId} {v v' : Value} {l : List UInt8} {ao : Option Addr} {la : List Nat} (h : Seg w ao la) (ho : Own w e v l) (k : Apd w w' v v') : Seg w' ao la := by
  rcases h with h | ⟨b, o, rfl, hb, hc⟩
  · exact Or.inl h
  · exact Or.inr ⟨b, o, rfl, Nat.lt_of_lt_of_le hb k.grown.size, fun t ht => k.cell ho (hc t ht) (fun x hx => by cases hx)⟩

/-- A table of words outlives what lays new blocks. -/
theorem tab_ext {P : Program} {w w' : World} {name : String} {k : IntKind} {zs : List Int} (h : Lib.TabIs P w name k zs) (he : Ext w w') : Lib.TabIs P w' name k zs := by
  unfold Lib.TabIs World.var? at *
  cases hg : P.globalNamed name with
  | none => simp [hg] at h
  | some g =>
    simp only [hg, Option.bind_some] at h ⊢
    have hlt : g < w.heap.size := by
      rcases Nat.lt_or_ge g w.heap.size with h' | h'
      · exact h'
      · rw [Array.getElem?_eq_none h'] at h; simp at h
    rw [he.block g hlt]
    exact h

theorem tab_apd {P : Program} {w w' : World} {name : String} {zs : List Int} {e : TypeId} {v v' : Value} {l : List UInt8} (h : Lib.TabIs P w name .u64 zs) (hz : zs ≠ []) (ho : Own w e v l) (k : Apd w w' v v') : Lib.TabIs P w' name .u64 zs := by
  unfold Lib.TabIs World.var? at *
  cases hg : P.globalNamed name with
  | none => simp [hg] at h
  | some g =>
    simp only [hg, Option.bind_some] at h ⊢
    cases hw : w.heap[g]? with
    | none => rw [hw] at h; simp at h
    | some ob =>
      have hlt : g < w.heap.size := (Array.getElem?_eq_some_iff.1 hw).1
      cases ob with
      | cells cs t fz =>
        rw [hw] at h
        simp only [Option.some.injEq] at h
        have hne : some g ≠ v.ownBlock := by
          cases zs with
          | nil => exact absurd rfl hz
          | cons z r =>
            have hc : w.cell? ⟨g, 0, none⟩ = some (.int .u64 z) := by
              rw [cell_of_row w g 0 cs t fz hw, h]; simp
            exact ho.apart hc (fun x hx => by cases hx)
        rw [k.grown.block g hlt hne, hw]
        simp [h]
      | _ => rw [hw] at h; simp at h

theorem zero_u8 (n : Nat) : ∀ u ∈ (Builtin.zeroCells (Value.int .u8 0).cells n).toList, ∃ x : Int, u = .int .u8 x := by
  intro u hu
  simp [Builtin.zeroCells, Value.cells, Nat.mod_one] at hu
  exact ⟨0, hu.2.symm⟩

/-- What growing leaves. -/
theorem own_new (w : World) (e : TypeId) (l m : List UInt8) (old : Nat) (v : Value) (hb : l.length + m.length ≤ 140737488355328) :
    Own (w.drew.alloc (.cells ((byC l).toArray ++ (byC m).toArray ++ Builtin.zeroCells (Value.int .u8 0).cells (grownCap w (l.length + m.length) old e - (l.length + m.length))) e)) e
        (.slice (some ⟨w.heap.size, 0, none⟩) (l.length + m.length) (grownCap w (l.length + m.length) old e)) (l ++ m) ∧
      Apd w (w.drew.alloc (.cells ((byC l).toArray ++ (byC m).toArray ++ Builtin.zeroCells (Value.int .u8 0).cells (grownCap w (l.length + m.length) old e - (l.length + m.length))) e)) v
        (.slice (some ⟨w.heap.size, 0, none⟩) (l.length + m.length) (grownCap w (l.length + m.length) old e)) := by
  have hge := grownCap_ge w (l.length + m.length) old e
  have hcm : grownCap w (l.length + m.length) old e ≤ maxLen := grownCap_le_maxLen w _ old e (by unfold maxLen; omega)
  refine ⟨Or.inr ⟨w.heap.size, _, _, by rw [List.length_append], heap_alloc_new w.drew _, by rw [List.length_append]; exact hge, hcm, ?_, ?_, ?_⟩, ⟨⟨rfl, rfl, rfl, by simp, fun k hk _ => Below.heap_alloc w.drew _ k hk⟩, Or.inr ⟨_, rfl, Nat.le_refl _⟩⟩⟩
  · have hz1 : (Value.int IntKind.u8 0).cells.size = 1 := rfl
    simp only [Array.size_append, List.size_toArray, size_zeroCells, hz1, byC_length]
    omega
  · simp only [Array.toList_append]
    rw [byC_append, ← List.length_append, ← byC_length (l ++ m), byC_append]
    exact List.take_left
  · intro u hu
    simp only [Array.toList_append, List.mem_append] at hu
    rcases hu with (hu | hu) | hu
    · exact byC_u8 l u hu
    · exact byC_u8 m u hu
    · exact zero_u8 _ u hu

/-- What stays in its room. -/
theorem own_room (w : World) (e : TypeId) (l m : List UInt8) (g cap : Nat) (cur : Array Value) (hg : w.heap[g]? = some (.cells cur e (0, 0))) (hcm : cap ≤ maxLen) (hcs : cur.size = cap) (ht : cur.toList.take l.length = byC l) (hall : ∀ u ∈ cur.toList, ∃ x : Int, u = .int .u8 x) (hroom : l.length + m.length ≤ cap) :
    Own (w.setRow g (cur.toList.take l.length ++ byC m ++ cur.toList.drop (l.length + m.length)).toArray) e (.slice (some ⟨g, 0, none⟩) (l.length + m.length) cap) (l ++ m) ∧
      Apd w (w.setRow g (cur.toList.take l.length ++ byC m ++ cur.toList.drop (l.length + m.length)).toArray) (.slice (some ⟨g, 0, none⟩) l.length cap) (.slice (some ⟨g, 0, none⟩) (l.length + m.length) cap) := by
  refine ⟨Or.inr ⟨g, cap, _, by rw [List.length_append], setRow_heap w g cur _ e _ hg, by rw [List.length_append]; exact hroom, hcm, ?_, ?_, ?_⟩, ⟨⟨rfl, rfl, rfl, by simp, fun k _ hk => setRow_other w g k _ (fun h => hk (by simp [Value.ownBlock, h]))⟩, Or.inl rfl⟩⟩
  · simp only [List.size_toArray, List.length_append, List.length_take, List.length_drop, Array.length_toList, byC_length]
    omega
  · rw [ht, byC_append, ← byC_length (l ++ m), byC_append]
    exact List.take_left
  · intro u hu
    simp only [List.mem_append] at hu
    rcases hu with (hu | hu) | hu
    · exact hall u (List.mem_of_mem_take hu)
    · exact byC_u8 m u hu
    · exact hall u (List.mem_of_mem_drop hu)

section
variable {P : Program} (w : World)

theorem Own.holds {e : TypeId} {g : Nat} {l : List UInt8} {cur : Array Value} (hg : w.heap[g]? = some (.cells cur e (0, 0))) (ht : cur.toList.take l.length = byC l) : ∀ j u, (byC l)[j]? = some u → w.cell? ((⟨g, 0, none⟩ : Addr).add j) = some u := by
  intro j u hu
  have hadd : (⟨g, 0, none⟩ : Addr).add j = ⟨g, j, none⟩ := by unfold Addr.add; split <;> simp_all
  rw [hadd, cell_of_row w g j cur e (0, 0) hg]
  rw [← ht, List.getElem?_take] at hu
  split at hu
  · simpa using hu
  · cases hu

theorem run_append_bytes (t ty e : TypeId) (i : TypeInfo) (ht : P.underlying t = some (.slice e)) (hi : P.info? e = some i) (hz : i.zero = some (.int .u8 0)) (hsize : i.size = 1) (hby : i.bytes = 1)
    (v : Value) (l : List UInt8) (hown : Own w e v l) (a : Addr) (m c : Nat) (news : List UInt8) (hm : news.length = m) (hm0 : 0 < m) (hnews : ∀ j u, (byC news)[j]? = some u → w.cell? (a.add j) = some u) (hb : l.length + news.length ≤ 140737488355328) :
    ∃ v' w', (Builtin.append_ #[t, t] ty #[v, .slice (some a) m c]).run P w = .ok v' w' ∧ Own w' e v' (l ++ news) ∧ Apd w w' v v' := by
  subst hm
  have hl : (byC news).length = news.length * i.size := by rw [byC_length, hsize, Nat.mul_one]
  rcases hown with ⟨rfl, rfl⟩ | ⟨g, cap, cur, rfl, hg, hlc, hcm, hcs, htk, hall⟩
  · have hr := run_append_nil (P := P) w t ty e i (.int .u8 0) ht hi hz a news.length c (byC news) hl hnews hm0 (by simp at hb; omega) (by rw [hby]; simp at hb; omega)
    have hn := own_new w e [] news 0 (.slice none 0 0) hb
    simp only [List.length_nil, Nat.zero_add, List.nil_append, byC, List.map_nil, Array.empty_append] at hn hr ⊢
    exact ⟨_, _, hr, hn.1, hn.2⟩
  · by_cases hroom : l.length + news.length ≤ cap
    · have hr := run_append_room (P := P) w t ty e i ht hi g l.length cap cur hg a news.length c (byC news) hl hnews (byC_one news) hroom (by rw [hsize, byC_length, hcs, Nat.mul_one]; exact hroom)
      rw [hsize, Nat.mul_one, byC_length] at hr
      have hn := own_room w e l news g cap cur hg hcm hcs htk hall hroom
      exact ⟨_, _, hr, hn.1, hn.2⟩
    · have hr := run_append_grow (P := P) w t ty e i (.int .u8 0) ht hi hz ⟨g, 0, none⟩ l.length cap (byC l) (by rw [byC_length, hsize, Nat.mul_one]) (Own.holds w hg htk) a news.length c (byC news) hl hnews (by omega) (by omega) (by rw [hby]; exact growslice_fits (by omega) (by omega))
      have hn := own_new w e l news cap (.slice (some ⟨g, 0, none⟩) l.length cap) hb
      exact ⟨_, _, hr, hn.1, hn.2⟩

theorem run_append_text (t u ty e : TypeId) (i : TypeInfo) (ht : P.underlying t = some (.slice e)) (hu : P.underlying u = some .string) (hi : P.info? e = some i) (hz : i.zero = some (.int .u8 0)) (hsize : i.size = 1) (hby : i.bytes = 1)
    (v : Value) (l : List UInt8) (hown : Own w e v l) (news : List UInt8) (hm0 : 0 < news.length) (hb : l.length + news.length ≤ 140737488355328) :
    ∃ v' w', (Builtin.append_ #[t, u] ty #[v, .string ⟨news.toArray⟩]).run P w = .ok v' w' ∧ Own w' e v' (l ++ news) ∧ Apd w w' v v' := by
  have hs : (⟨news.toArray⟩ : ByteArray).size = news.length := by simp [ByteArray.size]
  have hsc := strCells_byC news
  rcases hown with ⟨rfl, rfl⟩ | ⟨g, cap, cur, rfl, hg, hlc, hcm, hcs, htk, hall⟩
  · have hr := run_append_nil_string (P := P) w t u ty e i (.int .u8 0) ht hu hi hz ⟨news.toArray⟩ (by rw [hs]; exact hm0) (by rw [hs]; simp at hb; omega) (by rw [hs, hby]; simp at hb; omega)
    have hn := own_new w e [] news 0 (.slice none 0 0) hb
    have e1 : ((⟨news.toArray⟩ : ByteArray).data.map fun b => Value.int .u8 b.toNat) = (byC news).toArray := by
      apply Array.ext'
      simp [byC]
    rw [hs, e1] at hr
    simp only [List.length_nil, Nat.zero_add, List.nil_append, byC, List.map_nil, Array.empty_append] at hn hr ⊢
    exact ⟨_, _, hr, hn.1, hn.2⟩
  · by_cases hroom : l.length + news.length ≤ cap
    · have hr := Lib.run_append_room_string (P := P) w t u ty e i ht hu hi hsize g l.length cap cur hg ⟨news.toArray⟩ (by rw [hs]; exact hroom) (by rw [hs, hcs]; exact hroom)
      rw [hs, hsc] at hr
      have hn := own_room w e l news g cap cur hg hcm hcs htk hall hroom
      exact ⟨_, _, hr, hn.1, hn.2⟩
    · have hr := Lib.run_append_grow_string (P := P) w t u ty e i (.int .u8 0) ht hu hi hz ⟨g, 0, none⟩ l.length cap (byC l) (by rw [byC_length, hsize, Nat.mul_one]) (Own.holds w hg htk) ⟨news.toArray⟩ (by rw [hs]; omega) (by rw [hs]; omega) (by rw [hs, hby]; exact growslice_fits (by omega) (by omega))
      rw [hs, hsc] at hr
      have hn := own_new w e l news cap (.slice (some ⟨g, 0, none⟩) l.length cap) hb
      exact ⟨_, _, hr, hn.1, hn.2⟩

theorem wpList_append_bytes {ops : Array Oper} {rest : List Oper} {o : Oper} {a : Act} {Q : Exit → Act → World → Prop} (hgd : o.guard = none) (s x : Operand) (t : TypeId)
    (ho : o.op = .call { callee := .builtin .append, args := #[s, x], argTypes := #[t, t] })
    (e : TypeId) (i : TypeInfo) (ht : P.underlying t = some (.slice e)) (hi : P.info? e = some i) (hz : i.zero = some (.int .u8 0)) (hsize : i.size = 1) (hby : i.bytes = 1)
    (v : Value) (l : List UInt8) (hs : a.eval s = v) (hown : Own w e v l) (ad : Addr) (m c : Nat) (news : List UInt8) (hx : a.eval x = .slice (some ad) m c) (hm : news.length = m) (hm0 : 0 < m) (hnews : ∀ j u, (byC news)[j]? = some u → w.cell? (ad.add j) = some u) (hb : l.length + news.length ≤ 140737488355328)
    (h : ∀ v' w', Own w' e v' (l ++ news) → Apd w w' v v' → wpList P ops Q rest (a.put o.dst v') w') : wpList P ops Q (o :: rest) a w := by
  refine wpList_plain hgd fun _ hK => ?_
  obtain ⟨v', w', hr, h2, h3⟩ := run_append_bytes (P := P) w t o.type e i ht hi hz hsize hby v l hown ad m c news hm hm0 hnews hb
  unfold Oper.wp execOp
  simp only [ho, resolve, invoke, builtin, Sem.run_bind, Sem.run_pure, Result.andThen_ok, List.map_toArray, List.map_cons, List.map_nil, hs, hx, hr]
  exact hK _ _ (h v' w' h2 h3)

theorem wpList_append_text {ops : Array Oper} {rest : List Oper} {o : Oper} {a : Act} {Q : Exit → Act → World → Prop} (hgd : o.guard = none) (s x : Operand) (t u : TypeId)
    (ho : o.op = .call { callee := .builtin .append, args := #[s, x], argTypes := #[t, u] })
    (e : TypeId) (i : TypeInfo) (ht : P.underlying t = some (.slice e)) (hu : P.underlying u = some .string) (hi : P.info? e = some i) (hz : i.zero = some (.int .u8 0)) (hsize : i.size = 1) (hby : i.bytes = 1)
    (v : Value) (l : List UInt8) (hs : a.eval s = v) (hown : Own w e v l) (news : List UInt8) (hx : a.eval x = .string ⟨news.toArray⟩) (hm0 : 0 < news.length) (hb : l.length + news.length ≤ 140737488355328)
    (h : ∀ v' w', Own w' e v' (l ++ news) → Apd w w' v v' → wpList P ops Q rest (a.put o.dst v') w') : wpList P ops Q (o :: rest) a w := by
  refine wpList_plain hgd fun _ hK => ?_
  obtain ⟨v', w', hr, h2, h3⟩ := run_append_text (P := P) w t u o.type e i ht hu hi hz hsize hby v l hown news hm0 hb
  unfold Oper.wp execOp
  simp only [ho, resolve, invoke, builtin, Sem.run_bind, Sem.run_pure, Result.andThen_ok, List.map_toArray, List.map_cons, List.map_nil, hs, hx, hr]
  exact hK _ _ (h v' w' h2 h3)

end

end Go.Proofs.YtfjnlopbmkimiaaGreatDoor
namespace Go.Proofs.YtfjnlopbmkimiaaGreatDoor
open Go.RowKit Go.Sort

/-- The table of powers of ten stands. -/
abbrev Ten (w : World) : Prop := Lib.TabIs Tryz.prog w "internal/strconv.uint64pow10" .u64 Lib.pow10Tab

set_option maxHeartbeats 6400000 in
set_option maxRecDepth 100000 in
theorem formatUint_in (u : Nat) (hu64 : u < 18446744073709551616) (w : World) (htab : Ten w) :
    Calls Tryz.prog 175 #[.int .u64 u, .int .i64 10] w fun e w' => e = .returned (.string ⟨(Lib.decDigits u).toArray⟩) ∧ Ext w w' := by
  by_cases hs : u < 100
  · have iu : (u : Int) < 100 := by omega
    go_enter Tryz.func175, Tryz.ntmps175
    go_wp2_with (go_at_call 171; refine (Tryz.internal_strconv_small u hs _).mono ?_; rintro e w' ⟨rfl, rfl⟩)
    go_ret
    exact ⟨rfl, Ext.refl _⟩
  · have hu1 : 1 ≤ u := by omega
    have iu : (100 : Int) ≤ (u : Int) := by omega
    have hnd20 : Lib.nDigits u ≤ 20 := by have := Lib.numDigits_eq u hu1 hu64; split at this <;> omega
    have hal : Tryz.prog.arrayLen 198 = 24 := by simp [Program.arrayLen, Tryz.underlying198]
    have hsl : ∀ W, (Instr.sliceAt 198 (.pointer (some ⟨w.heap.size, 0, none⟩)) none (some (.int .i64 (Lib.nDigits u : Int))) none).run Tryz.prog W = .ok (.slice (some ⟨w.heap.size, 0, none⟩) (Lib.nDigits u) 24) W := fun W => by
      rw [run_sliceAt_array_h W 198 ⟨w.heap.size, 0, none⟩ (by simp [Program.arrayLen, Program.elem, Tryz.underlying198]) .i64 (Lib.nDigits u : Int) (by omega) (by rw [hal]; omega)]
      go_simp
    have hH0 := Lib.holds_zero0 w 198 (Lib.nDigits u) (by omega)
    have hfmt := Tryz.internal_strconv_formatBase10 w.heap.size 0 24 u (Array.replicate (Lib.nDigits u) 0) (w.alloc (.cells Lib.zeros24 198)) hH0 (by rw [Array.size_replicate]; exact Lib.lt_pow_nDigits u) hu64 (by rw [Array.size_replicate]; omega)
    rw [Array.size_replicate] at hfmt
    have HH0 := hid hH0
    clear hH0 hal
    go_enter Tryz.func175, Tryz.ntmps175
    go_wp2_with (first
      | (go_at_call 172; refine (Tryz.internal_strconv_numDigits u hu1 hu64 _ (Lib.tabIs_alloc htab _)).mono ?_; rintro e w' ⟨rfl, rfl⟩))
    go_at_call 173
    refine hfmt.mono ?_
    rintro e w' ⟨rfl, k, v', dk, rfl, hF⟩
    have hcv : (convert 108 9 (.slice (some ⟨w.heap.size, 0, none⟩) (Lib.nDigits u) 24)).run Tryz.prog ((putRow (fun (b : UInt8) => Value.int .u8 (b.toNat : Int)) (w.alloc (.cells Lib.zeros24 198)) w.heap.size 0 dk).drewN k) = .ok (.string ⟨(Lib.decDigits u).toArray⟩) ((putRow (fun (b : UInt8) => Value.int .u8 (b.toNat : Int)) (w.alloc (.cells Lib.zeros24 198)) w.heap.size 0 dk).drewN k) := by
      have h := run_convert_bytes_back (P := Tryz.prog) ((putRow (fun (b : UInt8) => Value.int .u8 (b.toNat : Int)) (w.alloc (.cells Lib.zeros24 198)) w.heap.size 0 dk).drewN k) 108 9 5 ⟨w.heap.size, 0, none⟩ 24 (Lib.decDigits u) Tryz.underlying108 Tryz.underlying5 Tryz.underlying9 (fun j hj => by
        rw [Lib.row_is_numeral hF j hj, Lib.add_plain, World.cell?_drewN]
        exact cell?_putRow (fun (b : UInt8) => Value.int .u8 (b.toNat : Int)) _ w.heap.size 0 _ dk HH0.out (by rw [hF.size, Array.size_replicate]) j (by rw [hF.size]; rw [Lib.decDigits_length] at hj; exact hj))
      rw [Lib.decDigits_length] at h
      exact h
    go_wp2
    go_ret
    obtain ⟨os, eo⟩ := Lib.fin_at w (.cells Lib.zeros24 198) dk k 0
    refine ⟨rfl, ?_⟩
    show Ext w ((putRow _ _ _ _ _).drewN k)
    rw [eo]
    exact Lib.below_grow _ w (Nat.le_refl _) k os

set_option maxHeartbeats 400000 in
theorem formatUint_any (u : Nat) (hu64 : u < 18446744073709551616) (w : World) (htab : Ten w) :
    Calls Tryz.prog 154 #[.int .u64 u, .int .i64 10] w fun e w' => e = .returned (.string ⟨(Lib.decDigits u).toArray⟩) ∧ Ext w w' := by
  go_enter Tryz.func154, Tryz.ntmps154
  go_wp2_with fail
  refine (formatUint_in u hu64 w htab).mono ?_
  rintro e w' ⟨rfl, he⟩
  go_wp2_with fail
  go_ret
  exact ⟨rfl, he⟩

set_option maxHeartbeats 400000 in
theorem itoa_any (n : Int) (h0 : -9223372036854775808 ≤ n) (h1 : n ≤ 9223372036854775807) (w : World) (htab : Ten w) :
    Calls Tryz.prog 94 #[.int .i64 n] w fun e w' => e = .returned (.string ⟨(Lib.itoa n).toArray⟩) ∧ Ext w w' := by
  refine (Tryz.strconv_Itoa n h0 h1 w htab).mono ?_
  rintro e w' ⟨rfl, k, os, rfl⟩
  exact ⟨rfl, Lib.below_grow _ w (Nat.le_refl _) k os⟩

end Go.Proofs.YtfjnlopbmkimiaaGreatDoor
namespace Go.Proofs.YtfjnlopbmkimiaaGreatDoor
open Go.RowKit

theorem byte_info : (Tryz.prog.info? 5).map (fun i => (i.zero, i.size, i.bytes)) = some (some (.int .u8 0), 1, 1) := by kernel_rfl

theorem new_byte (w : World) (x : UInt8) (n : Int) (hn : (x.toNat : Int) = n) (e : TypeId) : ∀ j u, (byC [x])[j]? = some u → (w.alloc (.cells #[.int .u8 n] e)).cell? ((⟨w.heap.size, 0, none⟩ : Addr).add j) = some u := by
  intro j u hu
  cases j with
  | zero =>
    simp only [byC, List.map_cons, List.map_nil, List.getElem?_cons_zero, Option.some.injEq] at hu
    rw [← hu, hn, Lib.add_plain, World.cell?_alloc_new]
    rfl
  | succ k => simp [byC] at hu

/-- The digits of x as they are written: with all noughts ahead, k times 19 of them; or without. -/
def digs (k : Nat) (fill : Bool) (x : Nat) : List UInt8 := if fill then padD (19 * 2 ^ k) x else Lib.decDigits x

theorem word_of (l : List Nat) (hr : Nrm l) (hv : val l < 10000000000000000000) : l = [] ∨ l = [val l] := by
  have hlen : l.length ≤ 1 := by
    apply lt_len hr
    rw [Nat.pow_one, B64_eq]
    omega
  cases l with
  | nil => exact Or.inl rfl
  | cons x r =>
    have : r = [] := List.eq_nil_of_length_eq_zero (by simpa using hlen)
    subst this
    right; simp [val]

set_option maxHeartbeats 1600000 in
set_option maxRecDepth 100000 in
theorem appendWord_any (v : Value) (bl : List UInt8) (ao : Option Addr) (l : List Nat) (n c : Nat) (fill : Bool) (w : World) (hl : l.length = n) (hs : Seg w ao l) (hr : Nrm l) (hc : n ≤ c) (hv : val l < 10000000000000000000) (ho : Own w 5 v bl) (hb : bl.length ≤ 1000000000) (htab : Ten w) :
    Calls Tryz.prog 134 #[v, .slice ao n c, .bool fill] w fun e w' => ∃ v', e = .returned v' ∧ Own w' 5 v' (bl ++ digs 0 fill (val l)) ∧ Apd w w' v v' := by
  obtain ⟨i0, hi, hz0, hz1, hz2⟩ := info_parts byte_info
  have hwd := word_of l hr hv
  obtain ⟨x, hx⟩ : ∃ x, val l = x := ⟨_, rfl⟩
  rw [hx] at hwd hv ⊢
  have hnd : Lib.nDigits x ≤ 19 := nDigits_le 19 x (by omega) hv
  have hnp := Lib.nDigits_pos x
  have hdl := Lib.decDigits_length x
  have Hfmt := hid (fun wx (h : Ten wx) => formatUint_any x (by omega) wx h)
  have hsz : (⟨(Lib.decDigits x).toArray⟩ : ByteArray).size = Lib.nDigits x := by simp [ByteArray.size, hdl]
  have Hfill : Hid (padD 19 x = List.replicate (19 - Lib.nDigits x) 48 ++ Lib.decDigits x) := padD_fill 19 x hnd
  obtain ⟨D, hD⟩ : ∃ D, Lib.decDigits x = D := ⟨_, rfl⟩
  obtain ⟨nd, hn'⟩ : ∃ nd, Lib.nDigits x = nd := ⟨_, rfl⟩
  rw [hn'] at hnd hnp hdl hsz Hfill
  rw [hD] at hdl hsz Hfill Hfmt
  have Hdig : Hid (∀ k, k ≤ 19 - nd → (k = 0 ∨ fill = true) → ¬ (fill = true ∧ nd + k < 19) → bl ++ List.replicate k 48 ++ D = bl ++ digs 0 fill x) := by
    intro k h1 h2 h3
    unfold digs
    rw [Nat.pow_zero, Nat.mul_one, Hfill.out, hD, List.append_assoc]
    cases fill
    · have : k = 0 := by simpa using h2
      subst this
      rfl
    · have : k = 19 - nd := by simp at h3; omega
      subst this
      rfl
  obtain ⟨S, hS⟩ : ∃ S, (⟨D.toArray⟩ : ByteArray) = S := ⟨_, rfl⟩
  rw [hS] at hsz Hfmt
  have HS := hid hS; have Hdl := hid hdl; have Ho := hid ho; have Hb := hid hb; have Htab := hid htab
  clear hS hdl ho hb htab hD hn' Hfill hv hr
  have ind : (nd : Int) ≤ 19 := by omega
  have hfr : (l = [] ∧ x = 0) ∨ (l = [x] ∧ ∃ b o, ao = some ⟨b, o, none⟩ ∧ w.cell? ⟨b, o, none⟩ = some (.int .u64 (x : Nat))) := by
    rcases hwd with rfl | rfl
    · left; exact ⟨rfl, by simpa [val] using hx.symm⟩
    · right
      refine ⟨rfl, ?_⟩
      rcases hs with ⟨_, h⟩ | ⟨b, o, rfl, _, hcell⟩
      · simp at h
      · have := hcell 0 (by simp)
        exact ⟨b, o, rfl, by simpa using this⟩
  clear hwd hs hx
  rcases hfr with ⟨rfl, rfl⟩ | ⟨rfl, b, o, rfl, hcl⟩
  all_goals
    subst hl
    go_enter Tryz.func134, Tryz.ntmps134
    go_wp2_with fail
    refine (Hfmt.out _ Htab.out).mono ?_
    rintro e w1 ⟨rfl, he1⟩
    go_wp2_with fail
    go_loopw [0, 9] (fun ov iv wr => ∃ k : Nat, k ≤ 19 - nd ∧ (k = 0 ∨ fill = true) ∧ iv = .int .i64 ((nd + k : Nat)) ∧ Own wr 5 ov (bl ++ List.replicate k 48) ∧ Apd w wr v ov) (fun _ iv _ => 19 - (intOf iv).toNat)
    case atStart => exact ⟨0, by omega, Or.inl rfl, by go_num, by simpa using Ho.out.ext he1, Apd.of_ext he1 _⟩
    case round =>
      obtain ⟨k, hk, hkf, rfl, hok, hak⟩ := hrel
      have Hkf := hid hkf
      clear hkf
      by_cases hgo : fill = true ∧ nd + k < 19
      · obtain ⟨rfl, hlt⟩ := hgo
        have ik : (nd : Int) + (k : Int) < 19 := by omega
        have hbk := Hb.out
        go_wp2_with (at_builtin; refine wpList_append_bytes _ rfl _ _ 108 rfl 5 i0 Tryz.underlying108 hi hz0 hz1 hz2 _ (bl ++ List.replicate k 48) rfl (hok.ext (Ext.alloc _ _)) ⟨wr.heap.size, 0, none⟩ 1 1 [48] rfl rfl (by omega) (new_byte wr 48 48 rfl _) (by simp; omega) ?_; intro v' w' hown' hap')
        go_roundw
        case rel => exact ⟨k + 1, by omega, by simp, by go_num, by rw [List.replicate_succ', ← List.append_assoc]; exact hown', hak.trans ((Apd.of_ext (Ext.alloc _ _) _).trans hap')⟩
        case measure => simp [intOf]; omega
      · have Hfin := hid (Hdig.out k hk Hkf.out hgo)
        have hbk := Hb.out
        have hdk := Hdl.out
        cases fill
        case' true => have ik : ¬ (nd : Int) + (k : Int) < 19 := by simp at hgo; omega
        all_goals
          clear hgo
          go_wp2_with (at_builtin; refine wpList_append_text _ rfl _ _ 108 9 rfl 5 i0 Tryz.underlying108 Tryz.underlying9 hi hz0 hz1 hz2 _ (bl ++ List.replicate k 48) rfl hok D (by rw [HS.out]; rfl) (by omega) (by simp; omega) ?_; intro v' w' hown' hap')
          go_ret
          exact ⟨v', rfl, by rw [← Hfin.out]; exact hown', hak.trans hap'⟩

end Go.Proofs.YtfjnlopbmkimiaaGreatDoor
namespace Go.Proofs.YtfjnlopbmkimiaaGreatDoor
open Go.RowKit

/-- Ten to the 19, squared k times. -/
def Pw (k : Nat) : Nat := 10 ^ (19 * 2 ^ k)
theorem Pw_pos (k : Nat) : 0 < Pw k := Nat.pow_pos (by decide)
theorem Pw_zero : Pw 0 = 10000000000000000000 := by decide
theorem Pw_succ (k : Nat) : Pw (k + 1) = Pw k * Pw k := by
  unfold Pw
  rw [← Nat.pow_add, Nat.pow_succ]
  congr 1
  omega
theorem Pw_lt (k : Nat) : Pw k < B64 ^ (2 ^ k) := by
  induction k with
  | zero => rw [Pw_zero, Nat.pow_zero, Nat.pow_one, B64_eq]; omega
  | succ k ih =>
    rw [Pw_succ, Nat.pow_succ, Nat.mul_two, Nat.pow_add]
    exact Nat.mul_lt_mul'' ih ih

theorem digs_split (k x : Nat) (fill : Bool) (h : fill = true ∨ 0 < x / Pw k) : digs (k + 1) fill x = digs k fill (x / Pw k) ++ digs k true (x % Pw k) := by
  have e : 19 * 2 ^ (k + 1) = 19 * 2 ^ k + 19 * 2 ^ k := by rw [Nat.pow_succ]; omega
  unfold digs
  cases fill
  · have hp : 0 < x / Pw k := by simpa using h
    simp only [Bool.false_eq_true, if_false, if_true]
    exact decDigits_append _ _ hp
  · simp only [if_true]
    rw [e]
    exact padD_append _ _ _
theorem digs_low (k x : Nat) : digs (k + 1) false x = digs k false x := rfl

theorem digs_len (k x : Nat) (fill : Bool) (h : x < Pw k) : (digs k fill x).length ≤ 19 * 2 ^ k := by
  unfold digs
  cases fill
  · simp only [Bool.false_eq_true, if_false]
    rw [Lib.decDigits_length]
    exact nDigits_le _ _ (by have : 0 < 2 ^ k := Nat.pow_pos (by decide); omega) h
  · simp only [if_true]
    rw [padD_length]
    exact Nat.le_refl _

/-- The powers lie in a row. -/
def Pows (w : World) (po : Option Addr) (k : Nat) : Prop :=
  k = 0 ∨ ∃ b, po = some ⟨b, 0, none⟩ ∧ ∀ t, t < k → ∃ v, w.cell? ⟨b, t, none⟩ = some v ∧ Num w v (Pw t)

theorem Num.isSlice {w : World} {v : Value} {x : Nat} (h : Num w v x) : ∃ a n c, v = .slice a n c := by
  obtain ⟨a, l, c, rfl, _⟩ := h
  exact ⟨_, _, _, rfl⟩

theorem Num.keep {w w' : World} {v : Value} {x : Nat} (h : Num w v x) (k : ∀ ao l, Seg w ao l → Seg w' ao l) : Num w' v x := by
  obtain ⟨a, l, c, rfl, h1, h2, h3, h4⟩ := h
  exact ⟨a, l, c, rfl, h1, h2, k _ _ h3, h4⟩

theorem Pows.ext {w w' : World} {po : Option Addr} {k : Nat} (h : Pows w po k) (he : Ext w w') : Pows w' po k := by
  rcases h with h | ⟨b, rfl, h⟩
  · exact Or.inl h
  · refine Or.inr ⟨b, rfl, fun t ht => ?_⟩
    obtain ⟨v, h1, h2⟩ := h t ht
    exact ⟨v, (he.cell (p := ⟨b, t, none⟩) (World.block_lt_of_cell? w ⟨b, t, none⟩ h1)).trans h1, h2.ext he⟩

theorem Pows.apd {w w' : World} {e : TypeId} {v v' : Value} {l : List UInt8} {po : Option Addr} {k : Nat} (h : Pows w po k) (ho : Own w e v l) (ha : Apd w w' v v') : Pows w' po k := by
  rcases h with h | ⟨b, rfl, h⟩
  · exact Or.inl h
  · refine Or.inr ⟨b, rfl, fun t ht => ?_⟩
    obtain ⟨u, h1, h2⟩ := h t ht
    refine ⟨u, ha.cell ho h1 ?_, h2.keep (fun _ _ hs => hs.apd ho ha)⟩
    obtain ⟨a, n, c, rfl⟩ := h2.isSlice
    intro x hx
    cases hx

theorem Pows.less {w : World} {po : Option Addr} {k : Nat} (h : Pows w po (k + 1)) : Pows w po k := by
  rcases h with h | ⟨b, rfl, h⟩
  · exact absurd h (by omega)
  · exact Or.inr ⟨b, rfl, fun t ht => h t (by omega)⟩

theorem pow10_ne : Lib.pow10Tab ≠ [] := by
  intro h
  have := Lib.pow10Tab_length
  rw [h] at this
  simp at this

set_option maxHeartbeats 1600000 in
set_option maxRecDepth 100000 in
theorem appendDigits_any (k : Nat) : ∀ (v : Value) (bl : List UInt8) (ao po : Option Addr) (l : List Nat) (n c cap : Nat) (fill : Bool) (w : World), l.length = n → Seg w ao l → Dig l → Nrm l → n ≤ c → c ≤ maxLen → n ≤ 16777216 → Hid (val l < Pw k) → k ≤ 20 → k ≤ cap → cap ≤ maxLen → Pows w po k → Own w 5 v bl → Hid (bl.length + 19 * 2 ^ k ≤ 1000000000) → Ten w →
    Calls Tryz.prog 96 #[v, .slice ao n c, .slice po k cap, .bool fill] w fun e w' => ∃ v', e = .returned v' ∧ Own w' 5 v' (bl ++ digs k fill (val l)) ∧ Apd w w' v v' := by
  induction k with
  | zero =>
    intro v bl ao po l n c cap fill w hl hs hd hr hc hcm hn Hv hk hcap hcapm hp ho Hb htab
    have Hl := hid hl; have Hs := hid hs; have Ho := hid ho; have Htab := hid htab; have Hr := hid hr
    clear hl hs hd hr hp ho htab
    go_enter Tryz.func96, Tryz.ntmps96
    go_wp2_with fail
    refine (appendWord_any v bl ao l n c fill w Hl.out Hs.out Hr.out hc (by have := Hv.out; rw [Pw_zero] at this; exact this) Ho.out (by have := Hb.out; omega) Htab.out).mono ?_
    rintro e w1 ⟨v', rfl, ho', ha'⟩
    go_wp2_with fail
    go_ret
    exact ⟨v', rfl, ho', ha'⟩
  | succ k ih =>
    intro v bl ao po l n c cap fill w hl hs hd hr hc hcm hn Hv hk hcap hcapm hp ho Hb htab
    have Ih := hid ih
    clear ih
    have Hp := hid hp.less
    rcases hp with hp | ⟨b, rfl, hp⟩
    · exact absurd hp (by omega)
    obtain ⟨pv, hpc, hpn⟩ := hp k (by omega)
    obtain ⟨a2, l2, n2, c2, rfl, hl2, hn2, hc2, hs2, hd2, hr2, hv2⟩ := hpn.named
    have hn2b : n2 ≤ 1048576 := by
      rw [← hl2]
      have h1 : l2.length ≤ 2 ^ k := lt_len hr2 (by rw [hv2]; exact Pw_lt k)
      have h2 : (2 : Nat) ^ k ≤ 2 ^ 20 := Nat.pow_le_pow_right (by decide) (by omega)
      omega
    have hn21 : 1 ≤ n2 := by
      rw [← hl2]
      cases l2 with
      | nil => have := Pw_pos k; rw [← hv2] at this; simp [val] at this
      | cons x r => simp
    have Hdiv := hid (fun wx (hx : Ext w wx) => divWords_any ao a2 l l2 n2 n c c2 wx hl hl2 (hs.ext hx) (hs2.ext hx) hd hd2 hr hr2 hc hn2 hcm hn21 hn (by omega))
    have Hhi : Hid (val l / val l2 < Pw k) := by
      show _ < _
      rw [hv2, Nat.div_lt_iff_lt_mul (Pw_pos k), ← Pw_succ]; exact Hv.out
    have Hlo : Hid (val l % val l2 < Pw k) := by
      show _ < _
      rw [hv2]; exact Nat.mod_lt _ (Pw_pos k)
    have Hv2 := hid hv2
    obtain ⟨hi, hhi⟩ : ∃ hi, val l / val l2 = hi := ⟨_, rfl⟩
    obtain ⟨lo, hlo⟩ : ∃ lo, val l % val l2 = lo := ⟨_, rfl⟩
    rw [hhi, hlo] at Hdiv
    rw [hhi] at Hhi
    rw [hlo] at Hlo
    have Hsame : Hid (hi = 0 → lo = val l) := by
      intro h0
      rw [← hlo]
      apply Nat.mod_eq_of_lt
      have hp2 : 0 < val l2 := by rw [hv2]; exact Pw_pos k
      rw [← hhi] at h0
      exact (Nat.div_eq_zero_iff_lt hp2).1 h0
    have Hsp : Hid ((fill = true ∨ 0 < hi) → digs (k + 1) fill (val l) = digs k fill hi ++ digs k true lo) := by
      intro h
      rw [← hhi, ← hlo, hv2]
      exact digs_split k (val l) fill (by rw [← hv2, hhi]; exact h)
    have hhb : hi < B64 ^ 1048576 → True := fun _ => trivial
    clear hhb
    have hpw2 : (2 : Nat) ^ k ≤ 1048576 := by
      have h2 : (2 : Nat) ^ k ≤ 2 ^ 20 := Nat.pow_le_pow_right (by decide) (by omega)
      omega
    have Hpw2 := hid hpw2
    have Hbk : Hid (bl.length + 19 * 2 ^ k + 19 * 2 ^ k ≤ 1000000000) := by
      have := Hb.out
      rw [Nat.pow_succ] at this
      show _ ≤ _
      omega
    have Ho := hid ho; have Htab := hid htab
    clear hp hpn hs hd hr hl hs2 hd2 hr2 hv2 hl2 hhi hlo ho htab Hb Hv hpw2
    have ik : (k : Int) + 1 - 1 = (k : Int) := by omega
    have ik2 : (0 : Int) ≤ (k : Int) := by omega
    have icap : (k : Int) ≤ (cap : Int) := by omega
    have ilt : (k : Int) < (k : Int) + 1 := by omega
    go_enter Tryz.func96, Tryz.ntmps96
    go_wp2_with fail
    refine (Hdiv.out _ (Ext.refl _)).mono ?_
    rintro e w1 ⟨v1, v2, rfl, hq, hrm, he1⟩
    obtain ⟨a5, l5, n5, c5, rfl, hl5, hn5, hc5, hs5, hd5, hr5, hv5⟩ := hq.named
    obtain ⟨a6, l6, n6, c6, rfl, hl6, hn6, hc6, hs6, hd6, hr6, hv6⟩ := hrm.named
    have hb5 : n5 ≤ 1048576 := by
      rw [← hl5]
      exact Nat.le_trans (lt_len hr5 (by rw [hv5]; exact Nat.lt_trans Hhi.out (Pw_lt k))) Hpw2.out
    have hb6 : n6 ≤ 1048576 := by
      rw [← hl6]
      exact Nat.le_trans (lt_len hr6 (by rw [hv6]; exact Nat.lt_trans Hlo.out (Pw_lt k))) Hpw2.out
    have hzero : n5 = 0 ↔ hi = 0 := by
      rw [← hl5, ← hv5]
      constructor
      · intro h; have : l5 = [] := List.eq_nil_of_length_eq_zero h; subst this; rfl
      · intro h
        cases h5 : l5 with
        | nil => rfl
        | cons x r =>
          have h7 := hr5.ge (by rw [h5]; simp)
          have h8 : 0 < B64 ^ (l5.length - 1) := Nat.pow_pos B64_pos
          omega
    have Hzero := hid hzero
    have Ho1 := hid (Ho.out.ext he1)
    have Hc5 := hid (fun fl => Ih.out v bl a5 (some ⟨b, 0, none⟩) l5 n5 c5 cap fl w1 hl5 hs5 hd5 hr5 hn5 hc5 (by omega) (hid (by rw [hv5]; exact Hhi.out)) (by omega) (by omega) hcapm (Hp.out.ext he1) Ho1.out (hid (by have := Hbk.out; omega)) (tab_ext Htab.out he1))
    have Hc6 := hid (fun v bl fl wx (h1 : Seg wx a6 l6) (h2 : Pows wx (some ⟨b, 0, none⟩) k) (h3 : Own wx 5 v bl) (h4 : bl.length + 19 * 2 ^ k ≤ 1000000000) (h5 : Ten wx) => Ih.out v bl a6 (some ⟨b, 0, none⟩) l6 n6 c6 cap fl wx hl6 h1 hd6 hr6 hn6 hc6 (by omega) (hid (by rw [hv6]; exact Hlo.out)) (by omega) (by omega) hcapm h2 h3 (hid h4) h5)
    rw [hv5] at Hc5
    rw [hv6] at Hc6
    have Hs6 := hid hs6
    clear hzero hq hrm hl5 hn5 hc5 hs5 hd5 hr5 hv5 hl6 hn6 hc6 hs6 hd6 hr6 hv6
    by_cases hA : n5 = 0 ∧ fill = false
    · obtain ⟨rfl, rfl⟩ := hA
      have hh0 := Hzero.out.1 rfl
      go_wp2_with fail
      refine (Hc6.out v bl false w1 Hs6.out (Hp.out.ext he1) Ho1.out (by have := Hbk.out; omega) (tab_ext Htab.out he1)).mono ?_
      rintro e w2 ⟨v', rfl, ho', ha'⟩
      go_wp2_with fail
      go_ret
      exact ⟨v', rfl, by rw [digs_low, ← Hsame.out hh0]; exact ho', (Apd.of_ext he1 _).trans ha'⟩
    · have Hsp2 := hid (Hsp.out (by
        cases fill
        · right
          have : n5 ≠ 0 := fun h => hA ⟨h, rfl⟩
          have h9 : hi ≠ 0 := fun h => this (Hzero.out.2 h)
          omega
        · exact Or.inl rfl))
      have hcase : (fill = true ∧ n5 = 0) ∨ (((n5 : Int) == 0) = false) := by
        by_cases h0 : n5 = 0
        · left; refine ⟨?_, h0⟩
          cases fill
          · exact absurd ⟨h0, rfl⟩ hA
          · rfl
        · right; rw [beq_eq_false_iff_ne]; omega
      have hlen5 := digs_len k hi fill Hhi.out
      have Hlen5 := hid hlen5
      clear hA hlen5
      rcases hcase with ⟨rfl, rfl⟩ | hne
      all_goals
        go_wp2_with fail
        refine (Hc5.out _).mono ?_
        rintro e w2 ⟨v2, rfl, ho2, ha2⟩
        go_wp2_with fail
        refine (Hc6.out v2 _ true w2 (Hs6.out.apd Ho1.out ha2) ((Hp.out.ext he1).apd Ho1.out ha2) ho2 (by rw [List.length_append]; have := Hbk.out; have := Hlen5.out; omega) (tab_apd (tab_ext Htab.out he1) pow10_ne Ho1.out ha2)).mono ?_
        rintro e w3 ⟨v3, rfl, ho3, ha3⟩
        go_wp2_with fail
        go_ret
        exact ⟨v3, rfl, by rw [Hsp2.out, ← List.append_assoc]; exact ho3, ((Apd.of_ext he1 _).trans ha2).trans ha3⟩

end Go.Proofs.YtfjnlopbmkimiaaGreatDoor
namespace Go.Proofs.YtfjnlopbmkimiaaGreatDoor
open Go.RowKit

/-- v is a slice of slices, xs, at the head of a block of its own that holds slices alone. -/
def OwnS (w : World) (e : TypeId) (v : Value) (xs : List Value) : Prop :=
  ∃ g cap cur, v = .slice (some ⟨g, 0, none⟩) xs.length cap ∧ w.heap[g]? = some (.cells cur e (0, 0)) ∧ xs.length ≤ cap ∧ cap ≤ maxLen ∧ cur.size = cap ∧ cur.toList.take xs.length = xs ∧ ∀ u ∈ cur.toList, ∃ a n c, u = .slice a n c

theorem OwnS.ext {w w' : World} {e : TypeId} {v : Value} {xs : List Value} (h : OwnS w e v xs) (k : Ext w w') : OwnS w' e v xs := by
  obtain ⟨g, cap, cur, rfl, hb, rest⟩ := h
  exact ⟨g, cap, cur, rfl, (k.block g (Array.getElem?_eq_some_iff.1 hb).1).trans hb, rest⟩

theorem OwnS.apart {w : World} {e : TypeId} {v : Value} {xs : List Value} (h : OwnS w e v xs) {b o : Nat} {u : Value} (hc : w.cell? ⟨b, o, none⟩ = some u) (hu : ∀ a n c, u ≠ .slice a n c) : some b ≠ v.ownBlock := by
  intro hb
  obtain ⟨g, cap, cur, rfl, hg, _, _, _, _, hall⟩ := h
  simp only [Value.ownBlock, Option.some.injEq] at hb
  subst hb
  rw [cell_of_row w b o cur e (0, 0) hg] at hc
  obtain ⟨a, n, c, hx⟩ := hall u (List.mem_of_getElem? (by rw [Array.getElem?_toList]; exact hc))
  exact hu a n c hx

theorem Seg.apdS {w w' : World} {e : TypeId} {v v' : Value} {xs : List Value} {ao : Option Addr} {la : List Nat} (h : Seg w ao la) (ho : OwnS w e v xs) (k : Apd w w' v v') : Seg w' ao la := by
  rcases h with h | ⟨b, o, rfl, hb, hc⟩
  · exact Or.inl h
  · exact Or.inr ⟨b, o, rfl, Nat.lt_of_lt_of_le hb k.grown.size, fun t ht => k.grown.cell (hc t ht) (ho.apart (hc t ht) (fun a n c hx => by cases hx))⟩

theorem OwnS.cells {w : World} {e : TypeId} {g n cap : Nat} {xs : List Value} (h : OwnS w e (.slice (some ⟨g, 0, none⟩) n cap) xs) (t : Nat) (ht : t < xs.length) : w.cell? ⟨g, t, none⟩ = some xs[t] := by
  obtain ⟨g', cap', cur, hv, hg, _, _, _, htk, _⟩ := h
  simp only [Value.slice.injEq, Option.some.injEq, Addr.mk.injEq, and_true] at hv
  obtain ⟨rfl, _, _⟩ := hv
  rw [cell_of_row w g t cur e (0, 0) hg]
  have h1 : xs[t]? = cur.toList[t]? := by
    rw [← List.getElem?_take_of_lt (l := cur.toList) ht, htk]
  rw [List.getElem?_eq_getElem ht] at h1
  rw [← Array.getElem?_toList, ← h1]

theorem zero_slice (n : Nat) : ∀ u ∈ (Builtin.zeroCells (Value.slice none 0 0).cells n).toList, ∃ a n c, u = .slice a n c := by
  intro u hu
  simp [Builtin.zeroCells, Value.cells, Nat.mod_one] at hu
  exact ⟨none, 0, 0, hu.2.symm⟩

section
variable {P : Program} (w : World)

theorem run_append_row (t ty e : TypeId) (i : TypeInfo) (ht : P.underlying t = some (.slice e)) (hi : P.info? e = some i) (hz : i.zero = some (.slice none 0 0)) (hsize : i.size = 1) (hby : i.bytes = 24)
    (v : Value) (xs : List Value) (hown : OwnS w e v xs) (ad : Addr) (c : Nat) (p : Option Addr) (q r : Nat) (hnew : w.cell? ad = some (.slice p q r)) (hno : ad.add 0 = ad) (hb : xs.length ≤ 1000000) :
    ∃ v' w', (Builtin.append_ #[t, t] ty #[v, .slice (some ad) 1 c]).run P w = .ok v' w' ∧ OwnS w' e v' (xs ++ [.slice p q r]) ∧ Apd w w' v v' := by
  obtain ⟨g, cap, cur, rfl, hg, hlc, hcm, hcs, htk, hall⟩ := hown
  have hl : ([Value.slice p q r] : List Value).length = 1 * i.size := by rw [hsize]; rfl
  have hnews : ∀ j u, ([Value.slice p q r] : List Value)[j]? = some u → w.cell? (ad.add j) = some u := by
    intro j u hu
    cases j with
    | zero =>
      simp only [List.getElem?_cons_zero, Option.some.injEq] at hu
      rw [← hu, hno]; exact hnew
    | succ k => simp at hu
  have h1 : ∀ u ∈ ([Value.slice p q r] : List Value), u.oneCell' = true := by
    intro u hu
    simp only [List.mem_singleton] at hu
    subst hu
    rfl
  by_cases hroom : xs.length + 1 ≤ cap
  · have hr := run_append_room (P := P) w t ty e i ht hi g xs.length cap cur hg ad 1 c _ hl hnews h1 hroom (by rw [hsize, hcs, Nat.mul_one]; exact hroom)
    rw [hsize, Nat.mul_one] at hr
    refine ⟨_, _, hr, ⟨g, cap, _, by simp, setRow_heap w g cur _ e _ hg, by simp; exact hroom, hcm, ?_, ?_, ?_⟩, ⟨⟨rfl, rfl, rfl, by simp, fun k _ hk => setRow_other w g k _ (fun h => hk (by simp [Value.ownBlock, h]))⟩, Or.inl rfl⟩⟩
    · simp only [List.size_toArray, List.length_append, List.length_take, List.length_drop, Array.length_toList, List.length_cons, List.length_nil]
      omega
    · rw [htk]
      exact List.take_left
    · intro u hu
      simp only [List.mem_append, List.mem_singleton] at hu
      rcases hu with (hu | hu) | hu
      · exact hall u (List.mem_of_mem_take hu)
      · exact ⟨_, _, _, hu⟩
      · exact hall u (List.mem_of_mem_drop hu)
  · have holds : ∀ j u, xs[j]? = some u → w.cell? ((⟨g, 0, none⟩ : Addr).add j) = some u := by
      intro j u hu
      rw [Lib.add_plain, cell_of_row w g _ cur e (0, 0) hg, Nat.zero_add]
      rw [← htk, List.getElem?_take] at hu
      split at hu
      · simpa using hu
      · cases hu
    have hr := run_append_grow (P := P) w t ty e i (.slice none 0 0) ht hi hz ⟨g, 0, none⟩ xs.length cap xs (by rw [hsize, Nat.mul_one]) holds ad 1 c _ hl hnews (by omega) (by omega) (by rw [hby]; exact growslice_fits (by omega) (by omega))
    have hge := grownCap_ge w (xs.length + 1) cap e
    have hcm2 : grownCap w (xs.length + 1) cap e ≤ maxLen := grownCap_le_maxLen w _ cap e (by unfold maxLen; omega)
    refine ⟨_, _, hr, ⟨w.heap.size, _, _, by simp, heap_alloc_new w.drew _, by simp; exact hge, hcm2, ?_, ?_, ?_⟩, ⟨⟨rfl, rfl, rfl, by simp, fun k hk _ => Below.heap_alloc w.drew _ k hk⟩, Or.inr ⟨_, rfl, Nat.le_refl _⟩⟩⟩
    · have hz1 : (Value.slice none 0 0).cells.size = 1 := rfl
      simp only [Array.size_append, List.size_toArray, size_zeroCells, hz1, List.length_cons, List.length_nil]
      omega
    · simp only [Array.toList_append]
      exact List.take_left
    · intro u hu
      simp only [Array.toList_append, List.mem_append, List.mem_singleton] at hu
      rcases hu with (hu | hu) | hu
      · rw [← htk] at hu; exact hall u (List.mem_of_mem_take hu)
      · exact ⟨_, _, _, hu⟩
      · exact zero_slice _ u hu

theorem wpList_append_row {ops : Array Oper} {rest : List Oper} {o : Oper} {a : Act} {Q : Exit → Act → World → Prop} (hgd : o.guard = none) (s x : Operand) (t : TypeId)
    (ho : o.op = .call { callee := .builtin .append, args := #[s, x], argTypes := #[t, t] })
    (e : TypeId) (i : TypeInfo) (ht : P.underlying t = some (.slice e)) (hi : P.info? e = some i) (hz : i.zero = some (.slice none 0 0)) (hsize : i.size = 1) (hby : i.bytes = 24)
    (v : Value) (xs : List Value) (hs : a.eval s = v) (hown : OwnS w e v xs) (ad : Addr) (c : Nat) (p : Option Addr) (q r : Nat) (hx : a.eval x = .slice (some ad) 1 c) (hnew : w.cell? ad = some (.slice p q r)) (hno : ad.add 0 = ad) (hb : xs.length ≤ 1000000)
    (h : ∀ v' w', OwnS w' e v' (xs ++ [.slice p q r]) → Apd w w' v v' → wpList P ops Q rest (a.put o.dst v') w') : wpList P ops Q (o :: rest) a w := by
  refine wpList_plain hgd fun _ hK => ?_
  obtain ⟨v', w', hr, h2, h3⟩ := run_append_row (P := P) w t o.type e i ht hi hz hsize hby v xs hown ad c p q r hnew hno hb
  unfold Oper.wp execOp
  simp only [ho, resolve, invoke, builtin, Sem.run_bind, Sem.run_pure, Result.andThen_ok, List.map_toArray, List.map_cons, List.map_nil, hs, hx, hr]
  exact hK _ _ (h v' w' h2 h3)

end

theorem row_info : (Tryz.prog.info? 72).map (fun i => (i.zero, i.size, i.bytes)) = some (some (.slice none 0 0), 1, 24) := by kernel_rfl

theorem Pw_ge (j : Nat) : 2 ^ (63 * 2 ^ j) ≤ Pw j := by
  induction j with
  | zero => rw [Pw_zero]; decide
  | succ k ih =>
    rw [Pw_succ, Nat.pow_succ, ← Nat.mul_assoc, Nat.mul_two, Nat.pow_add]
    exact Nat.mul_le_mul ih ih

/-- The powers are not many. -/
theorem pw_few {j n N : Nat} (h : Pw j < B64 ^ n) (h2 : 2 * n ≤ N + 1) (hN : N ≤ 100000) : j < 16 := by
  apply Nat.lt_of_not_le
  intro hj
  have h3 := Nat.lt_of_le_of_lt (Pw_ge j) h
  rw [B64_two, ← Nat.pow_mul] at h3
  have h4 : 63 * 2 ^ j < 64 * n := (Nat.pow_lt_pow_iff_right (by decide)).1 h3
  have h5 : (2 : Nat) ^ 16 ≤ 2 ^ j := Nat.pow_le_pow_right (by decide) hj
  omega

/-- The powers that stand so far. -/
def PowRow (w : World) (xs : List Value) : Prop := ∀ t, (h : t < xs.length) → Num w xs[t] (Pw t)

theorem PowRow.keep {w w' : World} {xs : List Value} (h : PowRow w xs) (k : ∀ ao l, Seg w ao l → Seg w' ao l) : PowRow w' xs := fun t ht => (h t ht).keep k

theorem PowRow.snoc {w : World} {xs : List Value} {v : Value} (h : PowRow w xs) (hv : Num w v (Pw xs.length)) : PowRow w (xs ++ [v]) := by
  intro t ht
  by_cases h1 : t < xs.length
  · rw [List.getElem_append_left h1]; exact h t h1
  · have ht1 : t = xs.length := by simp at ht; omega
    subst ht1
    rw [List.getElem_append_right (Nat.le_refl _)]
    simpa using hv

theorem pw_enough {n N : Nat} {l : List Nat} {j : Nat} (hl : l.length = n) (hr : Nrm l) (hv : val l = Pw j) (hn : 1 ≤ n) (h : N + 1 < 2 * n) : B64 ^ N ≤ Pw (j + 1) := by
  have h1 := hr.ge (by intro e; subst e; simp at hl; omega)
  rw [hl, hv] at h1
  rw [Pw_succ]
  have h2 : B64 ^ N ≤ B64 ^ ((n - 1) + (n - 1)) := Nat.pow_le_pow_right B64_pos (by omega)
  rw [Nat.pow_add] at h2
  exact Nat.le_trans h2 (Nat.mul_le_mul h1 h1)

set_option maxHeartbeats 1600000 in
set_option maxRecDepth 100000 in
theorem chunkPowers_any (N : Nat) (hN : N ≤ 100000) (w : World) :
    Calls Tryz.prog 97 #[.int .i64 N] w fun e w' => ∃ (k b cap : Nat), e = .returned (.slice (some ⟨b, 0, none⟩) k cap) ∧ k ≤ 20 ∧ k ≤ cap ∧ cap ≤ maxLen ∧ Pows w' (some ⟨b, 0, none⟩) k ∧ Hid (B64 ^ N ≤ Pw k) ∧ Ext w w' := by
  obtain ⟨i0, hi, hz0, hz1, hz2⟩ := info_parts row_info
  have hsn := Seg.new1 w 10000000000000000000 122
  have hE1 := Ext.alloc w (.cells #[.int .u64 (10000000000000000000 : Nat)] 122)
  have hE2 := Ext.alloc (w.alloc (.cells #[.int .u64 (10000000000000000000 : Nat)] 122)) (.cells #[.slice (some ⟨w.heap.size, 0, none⟩) 1 1] 72)
  have hs0 := hsn.ext hE2
  have ho0 : OwnS ((w.alloc (.cells #[.int .u64 (10000000000000000000 : Nat)] 122)).alloc (.cells #[.slice (some ⟨w.heap.size, 0, none⟩) 1 1] 72)) 72 (.slice (some ⟨w.heap.size + 1, 0, none⟩) 1 1) [.slice (some ⟨w.heap.size, 0, none⟩) 1 1] := by
    refine ⟨w.heap.size + 1, 1, #[.slice (some ⟨w.heap.size, 0, none⟩) 1 1], rfl, ?_, by simp, by unfold maxLen; omega, rfl, rfl, ?_⟩
    · have := heap_alloc_new (w.alloc (.cells #[.int .u64 (10000000000000000000 : Nat)] 122)) (.cells #[.slice (some ⟨w.heap.size, 0, none⟩) 1 1] 72)
      simpa using this
    · intro u hu
      simp at hu
      exact ⟨_, _, _, hu⟩
  have hE : Ext w ((w.alloc (.cells #[.int .u64 (10000000000000000000 : Nat)] 122)).alloc (.cells #[.slice (some ⟨w.heap.size, 0, none⟩) 1 1] 72)) := hE1.trans hE2
  have hd0 : Dig [10000000000000000000] := Dig.cons (by rw [B64_eq]; omega) Dig.nil
  have hr0 : Nrm [10000000000000000000] := by unfold Nrm; decide
  have hv0 : val [10000000000000000000] = Pw 0 := by rw [Pw_zero]; simp [val]
  clear hsn hE1 hE2
  go_enter Tryz.func97, Tryz.ntmps97
  go_wp2_with fail
  generalize (w.alloc (.cells #[.int .u64 (10000000000000000000 : Nat)] 122)).alloc (.cells #[.slice (some ⟨w.heap.size, 0, none⟩) 1 1] 72) = W0 at *
  go_loopw [3, 4] (fun lv pv wr => ∃ (j b cap : Nat) (xs : List Value) (ao : Option Addr) (l : List Nat) (n c : Nat), lv = .slice ao n c ∧ pv = .slice (some ⟨b, 0, none⟩) (j + 1) cap ∧ j ≤ 16 ∧ xs.length = j + 1 ∧ OwnS wr 72 pv xs ∧ PowRow wr xs ∧ l.length = n ∧ 1 ≤ n ∧ n ≤ c ∧ c ≤ maxLen ∧ n ≤ 200000 ∧ Seg wr ao l ∧ Dig l ∧ Nrm l ∧ val l = Pw j ∧ Ext w wr ∧ w.heap.size ≤ b)
    (fun _ pv _ => match pv with | .slice _ k _ => 64 - k | _ => 0)
  case atStart =>
    exact ⟨0, w.heap.size + 1, 1, _, _, _, 1, 1, rfl, rfl, by omega, rfl, ho0, (fun t ht => by
      have ht0 : t = 0 := by simpa using ht
      subst ht0
      exact ⟨_, _, 1, rfl, Nat.le_refl _, by unfold maxLen; omega, hs0, hd0, hr0, hv0⟩), rfl, Nat.le_refl _, Nat.le_refl _, by unfold maxLen; omega, by omega, hs0, hd0, hr0, hv0, hE, by omega⟩
  case round =>
    obtain ⟨j, b, cap, xs, ao, l, n, c, rfl, rfl, hj, hxl, hos, hpr, hl, hn1, hnc, hcm, hn2, hsg, hd, hr, hv, hEr, hbw⟩ := hrel
    have Hxl := hid hxl; have Hos := hid hos; have Hpr := hid hpr; have Hl := hid hl; have Hsg := hid hsg; have Hd := hid hd; have Hr := hid hr; have Hv := hid hv
    clear hxl hos hpr hl hsg hd hr hv
    by_cases hgo : 2 * n ≤ N + 1
    · have hj16 : j < 16 := pw_few (n := n) (N := N) (by rw [← Hv.out, ← Hl.out]; exact val_lt Hd.out) hgo hN
      have ig : 2 * (n : Int) - 1 ≤ (N : Int) := by omega
      go_wp2_with fail
      refine (mulOK_all 1000000 (by omega) ao ao l l n n c c wr Hl.out Hl.out Hsg.out Hsg.out Hd.out Hd.out hnc hnc hcm hcm (by omega)).mono ?_
      rintro e w1 ⟨_, rfl, hnum, he1, _⟩
      have hnum' : Num w1 _ (Pw (j + 1)) := hnum.cast (by rw [Hv.out, ← Pw_succ])
      obtain ⟨a5, l5, n5, c5, rfl, hl5, hn5, hc5, hs5, hd5, hr5, hv5⟩ := hnum'.named
      have Hos1 := hid (Hos.out.ext he1); have Hpr1 := hid (Hpr.out.keep (fun _ _ hs => hs.ext he1))
      have hn5b : n5 ≤ 200000 := by
        rw [← hl5]
        refine Nat.le_trans (lt_len (k := n + n) hr5 ?_) (by omega)
        rw [hv5, Pw_succ, ← Hv.out, Nat.pow_add]
        have h1 := val_lt Hd.out
        rw [Hl.out] at h1
        exact Nat.mul_lt_mul'' h1 h1
      have hn51 : 1 ≤ n5 := by
        rw [← hl5]
        cases l5 with
        | nil => have := Pw_pos (j + 1); rw [← hv5] at this; simp [val] at this
        | cons x r => simp
      have Hnum := hid hnum'; have Hl5 := hid hl5; have Hs5 := hid hs5; have Hd5 := hid hd5; have Hr5 := hid hr5; have Hv5 := hid hv5
      have hxl := Hxl.out
      clear hnum hnum' hl5 hs5 hd5 hr5 hv5
      go_wp2_with (at_builtin; refine wpList_append_row _ rfl _ _ 145 rfl 72 i0 Tryz.underlying145 hi hz0 hz1 hz2 (.slice (some ⟨b, 0, none⟩) (j + 1) cap) xs rfl (Hos1.out.ext (Ext.alloc _ _)) ⟨w1.heap.size, 0, none⟩ 1 a5 n5 c5 rfl (by simp) (Lib.add_plain _ _ _) (by omega) ?_; intro v' w' hown' hap')
      have ha1 := Ext.alloc w1 (.cells #[.slice a5 n5 c5] 72)
      have Hkp : Hid (∀ ao l, Seg w1 ao l → Seg w' ao l) := fun _ _ hs => (hs.ext ha1).apdS (Hos1.out.ext ha1) hap'
      obtain ⟨b', cap', cur', rfl, hrest⟩ := hown'
      have hlen' : (xs ++ [Value.slice a5 n5 c5]).length = j + 1 + 1 := by rw [List.length_append, hxl]; rfl
      have hbw' : w.heap.size ≤ b' := by
        rcases hap'.lies with h | ⟨g, h, hg⟩
        · simp [Value.ownBlock] at h; omega
        · simp only [Value.ownBlock, Option.some.injEq] at h
          subst h
          have h1 := hEr.size; have h2 := he1.size; have h3 := ha1.size
          omega
      have hEw : Ext w w' := by
        have h1 := (hEr.trans he1).trans ha1
        refine ⟨hap'.grown.os.trans h1.os, hap'.grown.tape.trans h1.tape, hap'.grown.output.trans h1.output, Nat.le_trans h1.size hap'.grown.size, fun k hk => (hap'.grown.block k (Nat.lt_of_lt_of_le hk h1.size) ?_).trans (h1.block k hk)⟩
        simp only [Value.ownBlock, ne_eq, Option.some.injEq]
        omega
      have hos' : OwnS w' 72 (.slice (some ⟨b', 0, none⟩) (j + 1 + 1) cap') (xs ++ [Value.slice a5 n5 c5]) := ⟨b', cap', cur', by rw [hlen'], hrest⟩
      rw [hlen']
      go_roundw
      case rel => exact ⟨j + 1, b', cap', xs ++ [Value.slice a5 n5 c5], a5, l5, n5, c5, rfl, rfl, by omega, hlen', hos', (Hpr1.out.keep Hkp.out).snoc (by rw [hxl]; exact Hnum.out.keep Hkp.out), Hl5.out, hn51, hn5, hc5, hn5b, Hkp.out _ _ Hs5.out, Hd5.out, Hr5.out, Hv5.out, hEw, hbw'⟩
      case measure => show 64 - (j + 1 + 1) < 64 - (j + 1); omega
    · have ig : ¬ 2 * (n : Int) - 1 ≤ (N : Int) := by omega
      go_wp2_with fail
      go_ret
      have hos := Hos.out
      have hcc : j + 1 ≤ cap ∧ cap ≤ maxLen := by
        obtain ⟨g, cap2, cur, h1, _, h3, h4, _⟩ := hos
        simp only [Value.slice.injEq] at h1
        obtain ⟨_, h5, h6⟩ := h1
        omega
      exact ⟨j + 1, b, cap, rfl, by omega, hcc.1, hcc.2, Or.inr ⟨b, rfl, fun t ht => ⟨_, hos.cells t (by rw [Hxl.out]; exact ht), Hpr.out t (by rw [Hxl.out]; exact ht)⟩⟩, pw_enough Hl.out Hr.out Hv.out hn1 (by omega), hEr⟩

end Go.Proofs.YtfjnlopbmkimiaaGreatDoor
namespace Go.Proofs.YtfjnlopbmkimiaaGreatDoor
open Go.RowKit

theorem run_convert_own {w : World} {v : Value} {l : List UInt8} (h : Own w 5 v l) (hl : l ≠ []) : (convert 108 9 v).run Tryz.prog w = .ok (.string ⟨l.toArray⟩) w := by
  rcases h with ⟨_, h⟩ | ⟨g, cap, cur, rfl, hg, _, _, _, htk, _⟩
  · exact absurd h hl
  · refine run_convert_bytes_back (P := Tryz.prog) w 108 9 5 ⟨g, 0, none⟩ cap l Tryz.underlying108 Tryz.underlying5 Tryz.underlying9 (fun j hj => ?_)
    rw [Lib.add_plain, Nat.zero_add, cell_of_row w g j cur _ (0, 0) hg]
    have h1 : (byC l)[j]? = cur.toList[j]? := by
      rw [← htk, List.getElem?_take, if_pos hj]
    rw [← Array.getElem?_toList, ← h1]
    simp [byC, hj]

theorem room20 {k m : Nat} (h : k ≤ 20) (hm : m ≤ 1) : m + 19 * 2 ^ k ≤ 1000000000 := by
  have : (2 : Nat) ^ k ≤ 2 ^ 20 := Nat.pow_le_pow_right (by decide) h
  omega

theorem decDigits_ne (x : Nat) : Lib.decDigits x ≠ [] := by
  intro h
  have := Lib.decDigits_length x
  rw [h] at this
  have := Lib.nDigits_pos x
  simp at *
  omega

set_option maxHeartbeats 1600000 in
set_option maxRecDepth 100000 in
theorem Text_any (sm : Int) (ao : Option Addr) (n c : Nat) (z : Int) (w : World) (h : IsInt w sm ao n c z) (hn : n ≤ 100000) (htab : Ten w) :
    Calls Tryz.prog 60 #[.agg #[.int .i64 sm, .slice ao n c]] w fun e w' => e = .returned (.string ⟨(Lib.itoa z).toArray⟩) ∧ Ext w w' := by
  have q1 := eql_nil ao n c 0 0
  have hEb := Ext.alloc w (.cells #[.int .i64 sm, .slice ao n c] 74)
  rcases h with ⟨rfl, rfl, rfl, rfl, h1, h2⟩ | ⟨b, o, l, rfl, hl, hnc, hcm, hs, hd, hr, hz⟩
  · have Hit := hid (fun wx (hx : Ten wx) => itoa_any sm h1 h2 wx hx)
    have Htab := hid htab
    clear htab
    go_enter Tryz.func60, Tryz.ntmps60
    go_wp2_with fail
    refine (Hit.out _ (tab_ext Htab.out hEb)).mono ?_
    rintro e w1 ⟨rfl, he1⟩
    go_wp2_with fail
    go_ret
    exact ⟨rfl, hEb.trans he1⟩
  · have hno : (some (⟨b, o, none⟩ : Addr)).isNone = false := rfl
    have hsm : sm = -1 ∨ sm = 1 := hz.elim (fun h => Or.inl h.1) (fun h => Or.inr h.1)
    have Hz : Hid (Lib.itoa z = (if sm < 0 then [45] else []) ++ Lib.decDigits (val l)) := by
      show _ = _
      rcases hz with ⟨rfl, rfl, h⟩ | ⟨rfl, rfl, h⟩
      · unfold Lib.itoa
        rw [if_pos (by omega), if_pos (by omega)]
        simp
      · unfold Lib.itoa
        rw [if_neg (by omega), if_neg (by omega)]
        simp
    obtain ⟨i0, hi, hz0, hz1, hz2⟩ := info_parts byte_info
    have Htab := hid htab
    have Hcp := hid (fun wx => chunkPowers_any n hn wx)
    have hvl : val l < B64 ^ n := by rw [← hl]; exact val_lt hd
    have Hvl := hid hvl
    have Had := hid (fun (k : Nat) (v : Value) (bl : List UInt8) (b5 cap : Nat) (wx : World) (h1 : Seg wx (some ⟨b, o, none⟩) l) (h2 : k ≤ 20) (h3 : k ≤ cap) (h4 : cap ≤ maxLen) (h5 : Pows wx (some ⟨b5, 0, none⟩) k) (h6 : Own wx 5 v bl) (h7 : bl.length ≤ 1) (h8 : Ten wx) (h9 : B64 ^ n ≤ Pw k) =>
      appendDigits_any k v bl (some ⟨b, o, none⟩) (some ⟨b5, 0, none⟩) l n c cap false wx hl h1 hd hr hnc hcm (by omega) (hid (Nat.lt_of_lt_of_le hvl h9)) h2 h3 h4 h5 h6 (hid (room20 h2 h7)) h8)
    have hs0 := hs.ext hEb
    have Htb := hid (tab_ext htab hEb)
    have c0 : (w.alloc (.cells #[.int .i64 sm, .slice (some ⟨b, o, none⟩) n c] 74)).cell? ⟨w.heap.size, 0, none⟩ = some (.int .i64 sm) := by simp
    have c1 : (w.alloc (.cells #[.int .i64 sm, .slice (some ⟨b, o, none⟩) n c] 74)).cell? ⟨w.heap.size, 1, none⟩ = some (.slice (some ⟨b, o, none⟩) n c) := by simp
    have hB : w.heap.size < (w.alloc (.cells #[.int .i64 sm, .slice (some ⟨b, o, none⟩) n c] 74)).heap.size := by simp
    clear hz hvl hl hd hr hs htab
    rcases hsm with rfl | rfl
    · have Hz' : Hid (Lib.itoa z = ([] ++ [45]) ++ digs 0 false (val l)) := by
        show _ = _
        rw [Hz.out]; rfl
      go_enter Tryz.func60, Tryz.ntmps60
      go_wp2_with fail
      generalize w.alloc (.cells #[.int .i64 (-1), .slice (some ⟨b, o, none⟩) n c] 74) = W1 at *
      refine (negative_any _ _ W1).mono ?_
      rintro e w2 ⟨rfl, he2⟩
      go_wp2_with (at_builtin; refine wpList_append_bytes _ rfl _ _ 108 rfl 5 i0 Tryz.underlying108 hi hz0 hz1 hz2 (.slice none 0 0) [] rfl (Own.nil _ _) ⟨w2.heap.size, 0, none⟩ 1 1 [45] rfl rfl (by omega) (new_byte w2 45 45 rfl _) (by simp) ?_; intro v3 w3 ho3 ha3)
      have hES : Ext w (w2.alloc (.cells #[.int .u8 45] 5)) := hEb.trans (he2.trans (Ext.alloc _ _))
      have hE3 : Ext W1 w3 := he2.trans ((Ext.alloc _ _).trans ha3.ext)
      have hs3 := hs0.ext hE3
      have Htb3 := hid (tab_ext Htb.out hE3)
      obtain ⟨d0, d1⟩ := keep2 hE3 hB c0 c1
      have hB3 : w.heap.size < w3.heap.size := by have := hE3.size; omega
      have hE0d : Ext w3 w3.drew := Below.drew (Ext.refl _)
      clear c0 c1 hB
      go_region_with (first
        | (go_at_call 97; refine (Hcp.out _).mono ?_; rintro e w5 ⟨k5, b5, cap5, rfl, hk5, hk6, hk7, hp5, hw5, hx5⟩; have he5 : Ext w3 w5 := Ext.trans (by assumption) hx5; have ho5 := ho3.ext he5; obtain ⟨y0, y1⟩ := keep2 he5 hB3 d0 d1)
        | (go_at_call 96; refine (Had.out k5 v3 _ b5 cap5 w5 (hs3.ext he5) hk5 hk6 hk7 hp5 ho5 (by simp) (tab_ext Htb3.out he5) hw5.out).mono ?_; rintro e w6 ⟨v6, rfl, ho6, ha6⟩; have hcv := run_convert_own ho6 (by simp)))
      all_goals
        go_wp2_with fail
        go_ret
        exact ⟨by rw [Hz'.out]; rfl, hES.trans ((ha3.trans (Apd.of_ext he5 _)).trans ha6).ext⟩
    · have Hz' : Hid (Lib.itoa z = [] ++ digs 0 false (val l)) := by
        show _ = _
        rw [Hz.out]; rfl
      go_enter Tryz.func60, Tryz.ntmps60
      go_wp2_with fail
      generalize w.alloc (.cells #[.int .i64 1, .slice (some ⟨b, o, none⟩) n c] 74) = W1 at *
      refine (negative_any _ _ W1).mono ?_
      rintro e w3 ⟨rfl, hE3⟩
      go_wp2_with fail
      have ho3 := Own.nil w3 5
      have hs3 := hs0.ext hE3
      have Htb3 := hid (tab_ext Htb.out hE3)
      obtain ⟨d0, d1⟩ := keep2 hE3 hB c0 c1
      have hB3 : w.heap.size < w3.heap.size := by have := hE3.size; omega
      have hE0d : Ext w3 w3.drew := Below.drew (Ext.refl _)
      clear c0 c1 hB
      go_region_with (first
        | (go_at_call 97; refine (Hcp.out _).mono ?_; rintro e w5 ⟨k5, b5, cap5, rfl, hk5, hk6, hk7, hp5, hw5, hx5⟩; have he5 : Ext w3 w5 := Ext.trans (by assumption) hx5; have ho5 := ho3.ext he5; obtain ⟨y0, y1⟩ := keep2 he5 hB3 d0 d1)
        | (go_at_call 96; refine (Had.out k5 (.slice none 0 0) _ b5 cap5 w5 (hs3.ext he5) hk5 hk6 hk7 hp5 ho5 (by simp) (tab_ext Htb3.out he5) hw5.out).mono ?_; rintro e w6 ⟨v6, rfl, ho6, ha6⟩; have hcv := run_convert_own ho6 (by simp only [List.nil_append]; exact decDigits_ne _)))
      all_goals
        go_wp2_with fail
        go_ret
        exact ⟨by rw [Hz'.out]; rfl, hEb.trans (hE3.trans ((Apd.of_ext he5 _).trans ha6).ext)⟩

end Go.Proofs.YtfjnlopbmkimiaaGreatDoor
