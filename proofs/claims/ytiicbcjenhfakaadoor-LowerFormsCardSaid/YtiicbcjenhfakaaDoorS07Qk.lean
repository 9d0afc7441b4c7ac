/-
  slices.Grow of nothing, slices.Concat of two lists of ints, slices.Clone of one. A region that draws its order and stores twice: what is held until number k has come up (S), what is held throughout (T). Gates around something: around, undone, between. Gates around something: between.
-/
import Derived.Test.YtiicbcjenhfakaaDoorProg
import Derived.Test.YtiicbcjenhfakaaDoorRows
import Derived.BigQuiet
import Derived.Deep.AppendLies
import Derived.Deep.Cut
import Derived.Deep.CutRange
import Derived.Deep.LoopGhost
import Derived.Deep.QuietTactic
import Derived.Deep.RegionHeld3
import Derived.Defers
import Derived.Ground.Names2Prog
import Derived.Ground.SlgnProg
import Derived.Laws.AppendOwnNone
import Derived.Laws.Bits64b
import Derived.Laws.Concat
import Derived.Laws.CopyOwn
import Derived.Laws.IdiomStrings
import Derived.Laws.ResultCell
import Derived.Lib.AppendStr
import Derived.Lib.AppendZeros
import Derived.Lib.AppendZerosOnto
import Derived.Lib.BitFns
import Derived.Lib.Hide
import Derived.Lib.ItoaMem
import Derived.Lib.ItoaNum
import Derived.Lib.Strings
import Derived.Lib.TrailingZeros
import Derived.Maps.AppendAt
import Derived.OrdersIn
import Derived.OwnWalk
import Derived.RangeFuncCalls
import Derived.RangeFuncFrom
import Derived.Recover
import Derived.Shelf.Slices.Clone
import Derived.Shelf.Slices.Turned
import Derived.Shelf.SlicesE.Clone
import Derived.Shelf.Spec.TrailingZeros
import Derived.WalkKit
import Derived.WalkLawsBesides
import Derived.WalkSpells
import Derived.Test.YtiicbcjenhfakaaDoorS00Ck
import Derived.Test.YtiicbcjenhfakaaDoorS01Cp
import Derived.Test.YtiicbcjenhfakaaDoorShelf
import Derived.Test.YtiicbcjenhfakaaDoorS03Qa
import Derived.Test.YtiicbcjenhfakaaDoorS04Qf
import Derived.Test.YtiicbcjenhfakaaDoorS05Kd
import Derived.Test.YtiicbcjenhfakaaDoorS06Qh
namespace Go.Proofs.YtiicbcjenhfakaaDoor
open Go.RowKit

/-- The cells of ints, those of none too. -/
theorem srcI {w : World} {ao : Option Addr} {n : Nat} {l : List Int} (h : IntsAt w ao n l) : ∃ ys : List Value, ys.length = n * 1 ∧ (∀ ad, ao = some ad → ∀ j u, ys[j]? = some u → w.cell? (ad.add j) = some u) ∧ (∀ u ∈ ys, u.oneCell' = true) ∧ ys = iC l := by
  refine ⟨iC l, by rw [iC_length, h.1, Nat.mul_one], fun ad e j u hu => ?_, fun u hu => ?_, rfl⟩
  · have hj : j < n := by
      have := (List.getElem?_eq_some_iff.1 hu).1
      rw [iC_length, h.1] at this
      exact this
    obtain ⟨b, o, e2, _, hc⟩ := h.2.resolve_left (by omega)
    rw [e] at e2
    cases e2
    rw [Addr.add_lit, hc j hj, ← hu]
    unfold iC
    rw [List.getElem?_map, List.getD_eq_getElem?_getD, List.getElem?_eq_getElem (by rw [h.1]; exact hj)]
    rfl
  · obtain ⟨_, _, rfl⟩ := List.mem_map.1 hu
    rfl
set_option maxHeartbeats 2000000 in
set_option maxRecDepth 100000 in
theorem growI_any (m : Nat) (w : World) (hm : m ≤ 10000) : Calls Tryd.prog 43 #[.slice none 0 0, .int .i64 (m : Int)] w fun e w' => ∃ v', e = .returned v' ∧ w'.ownsRow w.heap.size 3 1 v' 0 [] ∧ Ext w w' := by
  obtain ⟨i0, hi, hz0, hz1, hz2⟩ := info_parts i_info
  by_cases h0 : m = 0
  · subst h0
    go_enter Tryd.func43, Tryd.ntmps43
    go_wp2_with fail
    go_ret
    exact ⟨_, rfl, World.ownsRow_nil _ _ _ _, Ext.refl _⟩
  · obtain ⟨Gc, cur, hG1, hG2, hcs, hrz⟩ : ∃ (Gc : Nat) (cur : Array Value), m ≤ Gc ∧ Gc ≤ maxLen ∧ cur.size = Gc * 1 ∧ ∀ ty, (Builtin.append_ #[35, 3] ty #[.slice none 0 0, .int .i64 (m : Int)]).run Tryd.prog w = .ok (.slice (some ⟨w.heap.size, 0, none⟩) m Gc) (w.drew.alloc (.cells cur 3)) := by
      refine ⟨grownCap w m 0 3, #[] ++ Builtin.zeroCells (Value.cells (.int .i64 0)) m ++ Builtin.zeroCells (Value.cells (.int .i64 0)) (grownCap w m 0 3 - m), grownCap_ge w m 0 _, grownCap_le_maxLen w m 0 _ (by unfold maxLen; omega), ?_, fun ty => ?_⟩
      · have hge := grownCap_ge w m 0 3
        have h6 : (Value.cells (.int .i64 0)).size = 1 := rfl
        simp only [Array.size_append, size_zeroCells, h6, List.size_toArray, List.length_nil]
        omega
      · have h := Lib.run_append_grow_zeros (P := Tryd.prog) w 35 3 ty 3 i0 (.int .i64 0) .i64 .i64 Tryd.underlying35 Tryd.underlying3 hi hz0 none 0 0 [] (run_firstCells_none w.drew i0.size 0 0 0) m (by omega) (by rw [hz1]; decide) (by omega) (by omega) (by rw [hz2]; omega) (by rw [hz2]; exact growslice_fits (need := 0 + m) (old := 0) (bytes := 8) (by omega) (by omega))
        rw [Nat.zero_add] at h
        exact h
    have hown := World.ownsRow_made (base := w.heap.size) (e := 3) (size := 1) w.drew cur Gc (Nat.le_refl _) hG2 hcs
    have hE0 : Ext w w.drew := Below.drew (Ext.refl w)
    have hE : Ext w (w.drew.alloc (.cells cur 3)) := hE0.trans (ext_al _ _)
    have Hown := Lib.hid hown; have HE := Lib.hid hE
    have p0 : ¬ (m : Int) < 0 := by omega
    have p1 : (0 : Int) < (m : Int) := by omega
    have p2 : IntKind.i64.wrap ((m : Int) - 0) = (m : Int) := by rw [IntKind.wrap_i64]; omega
    have hG3 : Gc ≤ 9223372036854775807 := by unfold maxLen at hG2; omega
    clear hi hz0 hz1 hz2 hown hE hE0 hG2 hcs h0
    go_enter Tryd.func43, Tryd.ntmps43
    go_wp2_with (at_builtin; refine Lib.wpList_append_run _ rfl _ _ _ _ rfl _ _ rfl rfl _ _ (hrz _) ?_)
    all_goals (go_ret; exact ⟨_, rfl, Hown.out, HE.out⟩)

set_option maxHeartbeats 8000000 in
set_option maxRecDepth 100000 in
theorem concatI_any (s : Nat) (ao : Option Addr) (n cp : Nat) (bo : Option Addr) (m cq : Nat) (opsA opsB : List Int) (w : World) (hA : IntsAt w ao n opsA) (hB : IntsAt w bo m opsB) (hna : ao = none → cp = 0) (hnb : bo = none → cq = 0) (hn : n ≤ 4096) (hm : m ≤ 4096)
    (c0 : w.cell? ⟨s, 0, none⟩ = some (.slice ao n cp)) (c1 : w.cell? ⟨s, 1, none⟩ = some (.slice bo m cq)) :
    Calls Tryd.prog 31 #[.slice (some ⟨s, 0, none⟩) 2 2] w fun e w' => ∃ v', e = .returned v' ∧ w'.ownsRow w.heap.size 3 1 v' (n + m) (iC (opsA ++ opsB)) ∧ Ext w w' := by
  obtain ⟨i0, hi, hz0, hz1, hz2⟩ := info_parts i_info
  have hlA := hA.1; have hlB := hB.1
  obtain ⟨ya, ya1, ya2, ya3, ya4⟩ := srcI hA
  obtain ⟨yb, yb1, yb2, yb3, yb4⟩ := srcI hB
  have hnoA : ao = none → n = 0 := fun e => by
    rcases hA.2 with h | ⟨_, _, h, _⟩
    · exact h
    · rw [e] at h; cases h
  have hnoB : bo = none → m = 0 := fun e => by
    rcases hB.2 with h | ⟨_, _, h, _⟩
    · exact h
    · rw [e] at h; cases h
  have HA1 := Lib.hid ya1; have HA2 := Lib.hid ya2; have HA3 := Lib.hid ya3; have HA4 := Lib.hid ya4; have HB1 := Lib.hid yb1; have HB2 := Lib.hid yb2; have HB3 := Lib.hid yb3; have HB4 := Lib.hid yb4
  have HlA := Lib.hid hlA; have HlB := Lib.hid hlB; have HnA := Lib.hid hna; have HnB := Lib.hid hnb; have HnoA := Lib.hid hnoA; have HnoB := Lib.hid hnoB
  have slt : s < w.heap.size := World.block_lt_of_cell? w _ c0
  have Hslt := Lib.hid slt
  have HGr := Lib.hid (fun k wx (hk : k ≤ 10000) => growI_any k wx hk)
  obtain ⟨nm, hnm⟩ : ∃ y, n + m = y := ⟨_, rfl⟩
  have hnm4 : nm ≤ 8192 := by omega
  have w1 : IntKind.i64.wrap (0 + (n : Int)) = (n : Int) := by rw [IntKind.wrap_i64]; omega
  have w2 : IntKind.i64.wrap ((n : Int) + (m : Int)) = (nm : Int) := by rw [IntKind.wrap_i64]; omega
  have p1 : ¬ (n : Int) < 0 := by omega
  have p2 : ¬ (nm : Int) < 0 := by omega
  have C0 := Lib.hid c0; have C1 := Lib.hid c1
  clear hA hB ya1 ya2 ya3 ya4 yb1 yb2 yb3 yb4 hlA hlB hna hnb hnoA hnoB slt
  go_enter Tryd.func31, Tryd.ntmps31
  go_wp2_with fail
  go_loopg [3, 5, 11] 2 (fun kk s3 s5 s11 wx => ∃ i : Nat, s11 = .int .i64 (i : Int) ∧ i ≤ 2 ∧ 2 - i = kk ∧ s3 = .int .i64 (pre2 (0 : Int) (n : Int) (nm : Int) i) ∧ wx = w)
  case atStart => exact ⟨0, rfl, by omega, by omega, rfl, rfl⟩
  case round =>
    obtain ⟨i, rfl, hi2, hk, rfl, rfl⟩ := hrel
    by_cases h2 : i = 2
    · subst h2
      have e2 : pre2 (0 : Int) (n : Int) (nm : Int) 2 = (nm : Int) := rfl
      rw [e2]
      obtain ⟨W9, rfl⟩ : ∃ W9 : World, W9 = wr := ⟨_, rfl⟩
      go_wp2_with fail
      refine (HGr.out nm W9 (by omega)).mono ?_
      rintro e u1 ⟨v0, rfl, hO, hE⟩
      have HO := Lib.hid hO; have HE := Lib.hid hE
      clear hO hE
      go_wp2_with fail
      go_loopg [6, 8, 27] 2 (fun kk s6 s8 s27 wx => ∃ j : Nat, s27 = .int .i64 (j : Int) ∧ j ≤ 2 ∧ 2 - j = kk ∧ Ext W9 wx ∧ ∃ (v6 : Value) (xs : List Value), v6 = s6 ∧ wx.ownsRow W9.heap.size 3 1 v6 (pre2 0 n nm j) xs ∧ xs = pre2 [] ya (ya ++ yb) j)
      case atStart => exact ⟨0, rfl, by omega, by omega, HE.out, _, [], rfl, HO.out, rfl⟩
      case round =>
        obtain ⟨j, rfl, hj2, hkj, hX, v6, xs, rfl, hown, hxs⟩ := hrel
        subst hxs
        by_cases h3 : j = 2
        · subst h3
          have HL := Lib.hid (show wr.ownsRow W9.heap.size 3 1 v6 (n + m) (iC (opsA ++ opsB)) by
            have e : iC (opsA ++ opsB) = ya ++ yb := by rw [HA4.out, HB4.out]; simp [iC]
            rw [e, hnm]
            exact hown)
          have HX := Lib.hid hX
          clear hown hX
          go_wp2_with fail
          go_ret
          exact ⟨_, rfl, HL.out, HX.out⟩
        rcases (show j = 0 ∨ j = 1 by omega) with h4 | h4
        · subst h4
          have hc := cell_ext C0.out hX
          have Hown := Lib.hid (show wr.ownsRow W9.heap.size 3 1 v6 0 [] from hown); have HX := Lib.hid hX
          clear hown hX
          obtain ⟨aa, haa⟩ : ∃ y, ao = y := ⟨_, rfl⟩
          rw [haa] at hc HA2 HnA HnoA
          clear haa
          cases aa with
          | none =>
            have h0 := HnoA.out rfl; have h1 := HnA.out rfl
            subst h0; subst h1
            have hy : ya = [] := List.length_eq_zero_iff.1 (by rw [HA1.out, Nat.zero_mul])
            have Hy := Lib.hid hy
            clear hy
            go_wp2_with (at_builtin; refine wpList_append_own_none rfl _ _ 35 rfl W9.heap.size 3 i0 1 Tryd.underlying35 hi _ _ _ rfl Hown.out rfl ?_)
            go_roundg (2 - 1)
            case measure => omega
            case rel => exact ⟨1, by go_num, by omega, rfl, HX.out, _, ya, rfl, by rw [Hy.out]; exact Hown.out, rfl⟩
          | some ad =>
            have Hcl := Lib.hid (show ∀ j u, ya[j]? = some u → wr.cell? (ad.add j) = some u from fun j u hu => by
              have h5 := HA2.out ad rfl j u hu
              exact (HX.out.cell (World.block_lt_of_cell? _ _ h5)).trans h5)
            go_wp2_with (at_builtin; refine wpList_append_own _ rfl _ _ 35 rfl W9.heap.size 3 i0 (.int .i64 0) 1 8 Tryd.underlying35 hi hz0 hz1 hz2 rfl (by decide) _ _ _ rfl Hown.out ad n cp ya rfl HA1.out Hcl.out HA3.out (by unfold maxLen; omega) (by omega) HX.out.size ?_; intro v' w7 hown' hgrow' _)
            have HX7 := Lib.hid (grown_ext HX.out hgrow' (fun q hq => (own_lt Hown.out q hq).1))
            have Hown7 := Lib.hid hown'
            clear hown' hgrow'
            go_roundg (2 - 1)
            case measure => omega
            case rel => exact ⟨1, by go_num, by omega, rfl, HX7.out, _, ya, rfl, by have := Hown7.out; rw [Nat.zero_add, List.nil_append] at this; exact this, rfl⟩
        · subst h4
          have hc := cell_ext C1.out hX
          have Hown := Lib.hid (show wr.ownsRow W9.heap.size 3 1 v6 n ya from hown); have HX := Lib.hid hX
          clear hown hX
          obtain ⟨aa, haa⟩ : ∃ y, bo = y := ⟨_, rfl⟩
          rw [haa] at hc HB2 HnB HnoB
          clear haa
          cases aa with
          | none =>
            have h0 := HnoB.out rfl; have h1 := HnB.out rfl
            subst h0; subst h1
            have hy : yb = [] := List.length_eq_zero_iff.1 (by rw [HB1.out, Nat.zero_mul])
            have Hy := Lib.hid hy
            clear hy
            go_wp2_with (at_builtin; refine wpList_append_own_none rfl _ _ 35 rfl W9.heap.size 3 i0 1 Tryd.underlying35 hi _ _ _ rfl Hown.out rfl ?_)
            go_roundg (2 - 2)
            case measure => omega
            case rel => exact ⟨2, by go_num, by omega, rfl, HX.out, _, (ya ++ yb), rfl, by rw [Hy.out, List.append_nil]; have := Hown.out; rw [show n = nm by omega] at this; exact this, rfl⟩
          | some ad =>
            have Hcl := Lib.hid (show ∀ j u, yb[j]? = some u → wr.cell? (ad.add j) = some u from fun j u hu => by
              have h5 := HB2.out ad rfl j u hu
              exact (HX.out.cell (World.block_lt_of_cell? _ _ h5)).trans h5)
            go_wp2_with (at_builtin; refine wpList_append_own _ rfl _ _ 35 rfl W9.heap.size 3 i0 (.int .i64 0) 1 8 Tryd.underlying35 hi hz0 hz1 hz2 rfl (by decide) _ _ _ rfl Hown.out ad m cq yb rfl HB1.out Hcl.out HB3.out (by unfold maxLen; omega) (by omega) HX.out.size ?_; intro v' w7 hown' hgrow' _)
            have HX7 := Lib.hid (grown_ext HX.out hgrow' (fun q hq => (own_lt Hown.out q hq).1))
            have Hown7 := Lib.hid hown'
            clear hown' hgrow'
            go_roundg (2 - 2)
            case measure => omega
            case rel => exact ⟨2, by go_num, by omega, rfl, HX7.out, _, (ya ++ yb), rfl, by have := Hown7.out; rw [hnm] at this; exact this, rfl⟩
    rcases (show i = 0 ∨ i = 1 by omega) with h4 | h4
    · subst h4
      have e0 : pre2 (0 : Int) (n : Int) (nm : Int) 0 = 0 := rfl
      rw [e0]
      have hc := C0.out
      go_wp2_with fail
      go_roundg (2 - 1)
      case measure => omega
      case rel => exact ⟨1, by go_num, by omega, rfl, rfl, rfl⟩
    · subst h4
      have e0 : pre2 (0 : Int) (n : Int) (nm : Int) 1 = (n : Int) := rfl
      rw [e0]
      have hc := C1.out
      go_wp2_with fail
      go_roundg (2 - 2)
      case measure => omega
      case rel => exact ⟨2, by go_num, by omega, rfl, rfl, rfl⟩


/-- slices.Clone of ints. -/
theorem cloneI_any (ao : Option Addr) (n c : Nat) (l : List Int) (w : World) (h : IntsAt w ao n l) (hb : n * 8 ≤ 140737488355328) :
    Calls Tryd.prog 25 #[.slice ao n c] w fun e w' => ∃ a' c', e = .returned (.slice a' n c') ∧ n ≤ c' ∧ c' ≤ maxLen ∧ IntsAt w' a' n l ∧ TyI w' a' ∧ Ext w w' := by
  cases ao with
  | none =>
    have h0 : n = 0 := by
      rcases h.2 with h | ⟨_, _, e, _⟩
      · exact h
      · cases e
    subst h0
    refine (Tryd.slices_Clone_int_nil 0 c w).mono ?_
    rintro e w' ⟨rfl, rfl⟩
    exact ⟨none, 0, rfl, Nat.le_refl _, Nat.zero_le _, ⟨h.1, Or.inl rfl⟩, (fun _ e => by cases e), Ext.refl _⟩
  | some ad =>
    by_cases h0 : n = 0
    · subst h0
      refine (Tryd.slices_Clone_int_zero ad c w).mono ?_
      rintro e w' ⟨v', rfl, hown, _, hE⟩
      have hl : l = [] := List.length_eq_zero_iff.1 h.1
      subst hl
      obtain ⟨a', c', rfl, h1, h2, h3, h4⟩ := ints_of_own (l := []) hown
      exact ⟨a', c', rfl, h1, h2, h3, h4, hE⟩
    · obtain ⟨b, o, e, _, hc⟩ := h.2.resolve_left h0
      cases e
      refine (Tryd.slices_Clone_int b o n c l w (by rw [h.1]; exact Nat.le_refl _) hb (fun j hj => hc j (by rw [h.1] at hj; exact hj))).mono ?_
      rintro e w' ⟨v', rfl, hown, _, hE⟩
      rw [List.take_of_length_le (by rw [h.1]; exact Nat.le_refl _)] at hown
      obtain ⟨a', c', rfl, h1, h2, h3, h4⟩ := ints_of_own (l := l) hown
      exact ⟨a', c', rfl, h1, h2, h3, h4, hE⟩
end Go.Proofs.YtiicbcjenhfakaaDoor
namespace Go.Proofs.YtiicbcjenhfakaaDoor

section
variable {P : Program} {ops : Array Oper} {Q : Exit → Act → World → Prop} {md : Region.Mode} {S T : World → Prop} {k : Nat}

def anyT (P : Program) (md : Region.Mode) (ops : Array Oper) (Q : Exit → Act → World → Prop) (k : Nat) (S T : World → Prop) : Nat → Array Bool → Act → World → Prop
  | 0, l, a, w => Region.ready md ops l = [] ∧ Q .normal a w
  | n + 1, l, a, w => (Region.ready md ops l = [] → Q .normal a w) ∧
      ∀ i, i ∈ Region.ready md ops l → wpOp P ops Q i (fun a' w' => T w' ∧ ((l.setIfInBounds i true).getD k true = false → S w') ∧ anyT P md ops Q k S T n (l.setIfInBounds i true) a' w') a w

theorem anyT_plain (n : Nat) : ∀ (l : Array Bool) (a : Act) (w : World), anyT P md ops Q k S T n l a w → wpAny P md ops Q n l a w := by
  induction n with
  | zero => exact fun _ _ _ h => h
  | succ n ih => exact fun l a w h => ⟨h.1, fun i hi => wpOp_mono (fun a' w' h' => ih _ a' w' h'.2.2) (h.2 i hi)⟩

theorem anyT_first {i : Nat} {o : Oper} {v : Value} (hi : ops[i]? = some o) (hsel : ∀ (j : Nat) (o : Oper) cs b, ops[j]? = some o → o.op ≠ .select cs b)
    (hQ : ∀ c a w, Q (.panic c) (a.put o.dst v) w → Q (.panic c) a w) {N : Nat} (hw : waits md ops N k i = true) (n : Nat) :
    ∀ (l : Array Bool) (a : Act) (w : World), closedL md ops l →
      (∀ j oj, ops[j]? = some oj → j ≠ i → l.getD j true = false → (∀ e ∈ oj.after, Region.binds md e = true → e.on ≠ i) → o.apart ops oj = true) →
      i ∈ Region.ready md ops l → YieldsIf P ops S o v a → S w → T w → l.getD k true = false →
      anyT P md ops Q k S T n (l.setIfInBounds i true) (a.put o.dst v) w → anyT P md ops Q k S T (n + 1) l a w := by
  induction n with
  | zero =>
    intro l a w _ _ hr hy hS hT _ H
    refine ⟨fun h => (by rw [h] at hr; cases hr), fun j hj => ?_⟩
    by_cases hji : j = i
    · subst hji
      exact hy.wpOp hi hS ⟨hT, fun _ => hS, H⟩
    · have h := ready_mono hj hji
      rw [H.1] at h
      cases h
  | succ n ih =>
    intro l a w hc hfree hr hy hS hT hk H
    refine ⟨fun h => (by rw [h] at hr; cases hr), fun j hj => ?_⟩
    by_cases hji : j = i
    · subst hji
      exact hy.wpOp hi hS ⟨hT, fun _ => hS, H⟩
    have hjk : j ≠ k := fun e => waits_unready hc hw hr (e ▸ hj)
    obtain ⟨hjun, oj, hoj, hall⟩ := mem_ready.1 hj
    have hnot : ∀ e ∈ oj.after, Region.binds md e = true → e.on ≠ i := by
      intro e he hb heq
      have h1 := hall e he hb
      have h0 := (mem_ready.1 hr).1
      rw [heq] at h1
      rcases Nat.lt_or_ge i l.size with h' | h'
      · simp [h'] at h0 h1
        rw [h0] at h1
        cases h1
      · simp [Array.getElem?_eq_none h'] at h1
    have h2 := wpOp_putIf hoj (hfree j oj hoj hji hjun hnot) (fun cs b => hsel i o cs b hi) (fun cs b => hsel j oj cs b hoj) hQ hy (H.2 j (ready_mono hj hji))
    have hk1 : (l.setIfInBounds j true).getD k true = false := by rw [Go.getD_set_ne true hjk]; exact hk
    have hik : i ≠ k := fun e => waits_unready hc hw hr (e ▸ hr)
    have hk2 : ((l.setIfInBounds i true).setIfInBounds j true).getD k true = false := by rw [Go.getD_set_ne true hjk, Go.getD_set_ne true hik]; exact hk
    have hfree' : ∀ m om, ops[m]? = some om → m ≠ i → (l.setIfInBounds j true).getD m true = false → (∀ e ∈ om.after, Region.binds md e = true → e.on ≠ i) → o.apart ops om = true := by
      intro m om hm hmi hun hno
      refine hfree m om hm hmi ?_ hno
      by_cases e : j = m
      · subst e; exact hjun
      · rw [Go.getD_set_ne true e] at hun; exact hun
    refine wpOp_mono (fun a' w' h3 => ?_) h2
    obtain ⟨y3, t3, s3, r3⟩ := h3
    refine ⟨t3, fun _ => s3 hk2, ih _ a' w' (closedL_set hc hj) hfree' (ready_mono hr (Ne.symm hji)) y3 (s3 hk2) t3 hk1 ?_⟩
    rw [Array.setIfInBounds_comm _ _ hji]
    exact r3
/-- What is held throughout needs no one to wait. -/
theorem anyT_firstT {i : Nat} {o : Oper} {v : Value} (hi : ops[i]? = some o) (hik : i ≠ k) (hsel : ∀ (j : Nat) (o : Oper) cs b, ops[j]? = some o → o.op ≠ .select cs b)
    (hQ : ∀ c a w, Q (.panic c) (a.put o.dst v) w → Q (.panic c) a w) (n : Nat) :
    ∀ (l : Array Bool) (a : Act) (w : World),
      (∀ j oj, ops[j]? = some oj → j ≠ i → l.getD j true = false → (∀ e ∈ oj.after, Region.binds md e = true → e.on ≠ i) → o.apart ops oj = true) →
      i ∈ Region.ready md ops l → YieldsIf P ops T o v a → T w → (l.getD k true = false → S w) →
      anyT P md ops Q k S T n (l.setIfInBounds i true) (a.put o.dst v) w → anyT P md ops Q k S T (n + 1) l a w := by
  induction n with
  | zero =>
    intro l a w _ hr hy hT hS H
    refine ⟨fun h => (by rw [h] at hr; cases hr), fun j hj => ?_⟩
    by_cases hji : j = i
    · subst hji
      exact hy.wpOp hi hT ⟨hT, fun e => hS (by rw [Go.getD_set_ne true hik] at e; exact e), H⟩
    · have h := ready_mono hj hji
      rw [H.1] at h
      cases h
  | succ n ih =>
    intro l a w hfree hr hy hT hS H
    refine ⟨fun h => (by rw [h] at hr; cases hr), fun j hj => ?_⟩
    by_cases hji : j = i
    · subst hji
      exact hy.wpOp hi hT ⟨hT, fun e => hS (by rw [Go.getD_set_ne true hik] at e; exact e), H⟩
    obtain ⟨hjun, oj, hoj, hall⟩ := mem_ready.1 hj
    have hnot : ∀ e ∈ oj.after, Region.binds md e = true → e.on ≠ i := by
      intro e he hb heq
      have h1 := hall e he hb
      have h0 := (mem_ready.1 hr).1
      rw [heq] at h1
      rcases Nat.lt_or_ge i l.size with h' | h'
      · simp [h'] at h0 h1
        rw [h0] at h1
        cases h1
      · simp [Array.getElem?_eq_none h'] at h1
    have h2 := wpOp_putIf hoj (hfree j oj hoj hji hjun hnot) (fun cs b => hsel i o cs b hi) (fun cs b => hsel j oj cs b hoj) hQ hy (H.2 j (ready_mono hj hji))
    have hfree' : ∀ m om, ops[m]? = some om → m ≠ i → (l.setIfInBounds j true).getD m true = false → (∀ e ∈ om.after, Region.binds md e = true → e.on ≠ i) → o.apart ops om = true := by
      intro m om hm hmi hun hno
      refine hfree m om hm hmi ?_ hno
      by_cases e : j = m
      · subst e; exact hjun
      · rw [Go.getD_set_ne true e] at hun; exact hun
    refine wpOp_mono (fun a' w' h3 => ?_) h2
    obtain ⟨y3, t3, s3, r3⟩ := h3
    have hS3 : (l.setIfInBounds j true).getD k true = false → S w' := fun e => s3 (by
      rw [Array.setIfInBounds_comm _ _ (Ne.symm hji), Go.getD_set_ne true hik]
      exact e)
    refine ⟨t3, hS3, ih _ a' w' hfree' (ready_mono hr (Ne.symm hji)) y3 t3 hS3 ?_⟩
    rw [Array.setIfInBounds_comm _ _ hji]
    exact r3
theorem anyT_take {i : Nat} {o : Oper} {v : Value} {n : Nat} {l : Array Bool} {a : Act} {w : World} (hi : ops[i]? = some o)
    (hs : Region.noSelect ops = true) (hf : Region.free md ops l i = true) (hr : (Region.ready md ops l).contains i = true) {N : Nat} (hw : waits md ops N k i = true) (hc : closedB md ops l = true) (hk : l.getD k true = false)
    (hQ : ∀ c a w, Q (.panic c) (a.put o.dst v) w → Q (.panic c) a w) (hy : YieldsIf P ops S o v a) (hS : S w) (hT : T w)
    (h : anyT P md ops Q k S T n (l.setIfInBounds i true) (a.put o.dst v) w) : anyT P md ops Q k S T (n + 1) l a w :=
  anyT_first hi (Region.noSelect_spec hs) hQ hw n l a w (closedB_spec hc) (Region.free_spec hi hf) (by simpa using hr) hy hS hT hk h
theorem anyT_takeT {i : Nat} {o : Oper} {v : Value} {n : Nat} {l : Array Bool} {a : Act} {w : World} (hi : ops[i]? = some o) (hik : i ≠ k)
    (hs : Region.noSelect ops = true) (hf : Region.free md ops l i = true) (hr : (Region.ready md ops l).contains i = true)
    (hQ : ∀ c a w, Q (.panic c) (a.put o.dst v) w → Q (.panic c) a w) (hy : YieldsIf P ops T o v a) (hT : T w) (hS : l.getD k true = false → S w)
    (h : anyT P md ops Q k S T n (l.setIfInBounds i true) (a.put o.dst v) w) : anyT P md ops Q k S T (n + 1) l a w :=
  anyT_firstT hi hik (Region.noSelect_spec hs) hQ n l a w (Region.free_spec hi hf) (by simpa using hr) hy hT hS h
theorem anyT_one {i : Nat} {o : Oper} {n : Nat} {l : Array Bool} {a : Act} {w : World} (hr : Region.ready md ops l = [i]) (ho : ops[i]? = some o)
    (h : ∀ K' : Act → World → Prop, Shut (∀ a w, T w → ((l.setIfInBounds i true).getD k true = false → S w) → anyT P md ops Q k S T n (l.setIfInBounds i true) a w → K' a w) → if Region.wanted o (yielded ops a.tmps) = true then Oper.wp P o a w K' Q else K' (a.put o.dst undef) w) :
    anyT P md ops Q k S T (n + 1) l a w := by
  refine ⟨fun h0 => (by rw [hr] at h0; cases h0), fun j hj => ?_⟩
  rw [hr] at hj
  rcases List.mem_singleton.1 hj with rfl
  exact wpOp_step ho (fun K' hK => h K' (fun a w hT hS hW => hK a w ⟨hT, hS, hW⟩))
theorem anyT_done {l : Array Bool} {a : Act} {w : World} (hr : Region.ready md ops l = []) (h : Q .normal a w) (n : Nat) : anyT P md ops Q k S T n l a w := by
  cases n with
  | zero => exact ⟨hr, h⟩
  | succ n => exact ⟨fun _ => h, fun i hi => by rw [hr] at hi; cases hi⟩
end
end Go.Proofs.YtiicbcjenhfakaaDoor
namespace Go.Proofs.YtiicbcjenhfakaaDoor
open Go.RowKit

theorem opsCode_none {n b : Int} : ∀ (l : List Gop) (i : Nat), (∀ g ∈ l, opCode g n b = 0) → opsCode n b i l = (0, 0)
  | [], _, _ => rfl
  | g :: r, i, h => by
    unfold opsCode
    rw [if_neg (fun e => e (h g (by simp)))]
    exact opsCode_none r (i + 1) (fun x hx => h x (by simp [hx]))
theorem purF_none : ∀ (l : List Gop) (i : Nat), (∀ g ∈ l, g.kind < 5 ∧ g.cnd = []) → purF i l = (0, 0)
  | [], _, _ => rfl
  | g :: r, i, h => by
    unfold purF
    have := h g (by simp)
    rw [if_neg (by rw [this.2]; simp; omega)]
    exact purF_none r (i + 1) (fun x hx => h x (by simp [hx]))
theorem pur_gates {l : List Gop} (hl : l.length ≤ 4096) (h : ∀ g ∈ l, LOk 12 0 g) (hk : ∀ g ∈ l, g.kind < 5 ∧ g.cnd = []) : (pur ⟨12, 0, l⟩).1 = 0 := by
  have h1 : chk ⟨12, 0, l⟩ = (0, 0) := by
    unfold chk
    simp only
    rw [if_neg (by decide), if_neg (by decide), if_neg (by omega)]
    exact opsCode_none l 0 (fun g hg => (h g hg).code)
  unfold pur
  rw [h1, if_neg (by decide)]
  simp only
  rw [purF_none l 0 hk]

set_option maxRecDepth 100000 in
set_option maxHeartbeats 2000000 in
theorem undone_any (gs : List Gop) (a : Option Addr) (n c : Nat) (w : World) (h : OpsAt w a n gs) (hn : n ≤ c) (hc : c ≤ 9223372036854775807) (hS : Shp w) (hp : (pur ⟨12, 0, gs⟩).1 = 0) :
    Calls Tryd.prog 38 #[.slice a n c] w fun e w' => ∃ a' c', e = .returned (.slice a' n c') ∧ OpsO w' w.heap.size (.slice a' n c') (invO gs) ∧ Ext w w' := by
  have HI := Lib.hid (Inverse_N ⟨12, 0, gs⟩ a n c w h hn hc hS hp)
  clear h hn hc hS hp
  simp only at HI
  go_enter Tryd.func38, Tryd.ntmps38
  go_wp2_with fail
  refine HI.out.mono ?_
  rintro e w1 ⟨⟨a', c', rfl, hO⟩, hx⟩
  have h1 := heap_alloc_new w1 (.cells #[.int .i64 12, .int .i64 0, .slice a' n c'] 24)
  have E1 := ext_al w1 (.cells #[.int .i64 12, .int .i64 0, .slice a' n c'] 24)
  have E2 := ext_al (w1.alloc (.cells #[.int .i64 12, .int .i64 0, .slice a' n c'] 24)) (.cells #[.int .i64 0, .int .i64 0] 27)
  have bC : CiB ((w1.alloc (.cells #[.int .i64 12, .int .i64 0, .slice a' n c'] 24)).alloc (.cells #[.int .i64 0, .int .i64 0] 27)) w1.heap.size 12 0 a' n c' := CiB.ext ⟨h1⟩ E2
  have x2 := bC.x2
  have HO := Lib.hid ((((hO.o).ext E1).ext E2))
  have HO2 := Lib.hid (show OpsO ((w1.alloc (.cells #[.int .i64 12, .int .i64 0, .slice a' n c'] 24)).alloc (.cells #[.int .i64 0, .int .i64 0] 27)) w.heap.size (.slice a' n c') (invO gs) from (((hO.down (by omega)).o.ext E1).ext E2))
  have HE := Lib.hid (hx.trans (E1.trans E2))
  clear h1 E1 E2 bC hO hx HI HO
  go_wp2_with fail
  go_ret
  exact ⟨a', c', rfl, HO2.out, HE.out⟩

set_option maxRecDepth 100000 in
set_option maxHeartbeats 2000000 in
theorem around_any (kd k : Int) (a1 : Option Addr) (n1 c1 : Nat) (q bt : Int) (a2 : Option Addr) (n2 c2 : Nat) (ctl cnd : List Int) (w : World) :
    Calls Tryd.prog 28 #[.agg #[.int .i64 kd, .int .i64 k, .slice a1 n1 c1, .int .i64 q, .int .i64 bt, .slice a2 n2 c2]] w fun e w' => ∃ a n c, e = .returned (.slice a n c) ∧ OpsO w' w.heap.size (.slice a n c) (lAround ⟨kd, k, ctl, q, bt, cnd⟩) ∧ Ext w w' := by
  obtain ⟨U, hU⟩ : ∃ U, w.alloc (.cells #[.int .i64 kd, .int .i64 k, .slice a1 n1 c1, .int .i64 q, .int .i64 bt, .slice a2 n2 c2] 37) = U := ⟨_, rfl⟩
  obtain ⟨G, hG⟩ : ∃ G, w.heap.size = G := ⟨_, rfl⟩
  have HE := Lib.hid (show Ext w U by rw [← hU]; exact ext_al w _)
  have HB := Lib.hid (show OpBx U G kd k a1 n1 c1 q bt a2 n2 c2 by rw [← hU, ← hG]; exact opbx_new w kd k a1 n1 c1 q bt a2 n2 c2)
  have d0 := HB.out.x0; have d3 := HB.out.x3
  have HU := Lib.hid hU; have HG := Lib.hid hG
  by_cases h2 : kd = 2
  · subst h2
    have Hl := Lib.hid (show lAround ⟨2, k, ctl, q, bt, cnd⟩ = [lFork q] from rfl)
    clear hU hG
    go_enter Tryd.func28, Tryd.ntmps28
    go_upto_region 1 with fail
    rw [HU.out, HG.out]
    go_wp2_with fail
    refine (fork_any q U).mono ?_
    rintro e w1 ⟨rfl, hx⟩
    have EA := ext_al w1 (.cells (([(lFork q, (none, 0, 0), (none, 0, 0))] : List Gx).flatMap gv).toArray 37)
    have hn := heap_alloc_new w1 (.cells (([(lFork q, (none, 0, 0), (none, 0, 0))] : List Gx).flatMap gv).toArray 37)
    have HO := Lib.hid (opsO_lit (base := w.heap.size) [(lFork q, (none, 0, 0), (none, 0, 0))] (n := 1) rfl hn (Nat.le_trans HE.out.size hx.size) (by decide) (fun x hx => by
      simp only [List.mem_cons, List.not_mem_nil, or_false] at hx
      rw [hx]; exact opO_plain _ rfl rfl))
    have HEE := Lib.hid (HE.out.trans (hx.trans EA))
    clear EA hn hx d0 d3
    go_wp2_with fail
    go_ret
    exact ⟨_, _, _, rfl, by rw [Hl.out]; exact HO.out, HEE.out⟩
  · have b2 := bf h2
    by_cases h3 : kd = 3
    · subst h3
      have Hl := Lib.hid (show lAround ⟨3, k, ctl, q, bt, cnd⟩ = [lTurn q 4 [], lFork q, lTurn q 2 [], lFork q] from rfl)

      clear hU hG h2 b2
      go_enter Tryd.func28, Tryd.ntmps28
      go_upto_region 1 with fail
      rw [HU.out, HG.out]
      go_upto_region 5 with fail
      clear d0
      have e0 : Ext U U.drew := Below.drew (Ext.refl _)
      refine wp_region_any (by kernel_rfl) (anyT_plain (k := 99) (S := fun w' => True) (T := fun w' => w'.cell? ⟨G, 3, none⟩ = some (.int .i64 q)) _ _ _ _ ?_)
      show anyT _ _ _ _ _ _ _ 14 #[false, false, false, false, false, false, false, false, false, false, false, false, false, false] _ _
      have hT : U.drew.cell? ⟨G, 3, none⟩ = some (.int .i64 q) := cell_ext d3 e0
      have hHeld : True := trivial
      refine anyT_takeT (i := 0) (v := ?_) rfl (by decide) (by kernel_rfl) (by kernel_rfl) (by kernel_rfl) (fun _ _ _ h => h) (Or.inl ⟨by rfl, ?_⟩) hT (fun _ => hHeld) ?_
      rotate_left 1
      · intro w hSw
        go_simp
        try with_reducible rfl
      show anyT _ _ _ _ _ _ _ _ _ (Act.put _ (some 13) _) _
      simp only [Act.put, List.setIfInBounds_toArray, List.set_cons_zero, List.set_cons_succ]
      refine anyT_takeT (i := 1) (v := ?_) rfl (by decide) (by kernel_rfl) (by kernel_rfl) (by kernel_rfl) (fun _ _ _ h => h) (Or.inl ⟨by rfl, ?_⟩) hT (fun _ => hHeld) ?_
      rotate_left 1
      · intro w hSw
        go_simp
        try with_reducible rfl
      show anyT _ _ _ _ _ _ _ _ _ (Act.put _ (some 14) _) _
      simp only [Act.put, List.setIfInBounds_toArray, List.set_cons_zero, List.set_cons_succ]
      refine anyT_takeT (i := 3) (v := ?_) rfl (by decide) (by kernel_rfl) (by kernel_rfl) (by kernel_rfl) (fun _ _ _ h => h) (Or.inl ⟨by rfl, ?_⟩) hT (fun _ => hHeld) ?_
      rotate_left 1
      · intro w hSw
        go_simp
        try with_reducible rfl
      show anyT _ _ _ _ _ _ _ _ _ (Act.put _ (some 16) _) _
      simp only [Act.put, List.setIfInBounds_toArray, List.set_cons_zero, List.set_cons_succ]
      refine anyT_takeT (i := 4) (v := ?_) rfl (by decide) (by kernel_rfl) (by kernel_rfl) (by kernel_rfl) (fun _ _ _ h => h) (Or.inl ⟨by rfl, ?_⟩) hT (fun _ => hHeld) ?_
      rotate_left 1
      · intro w hSw
        go_simp
        try with_reducible rfl
      show anyT _ _ _ _ _ _ _ _ _ (Act.put _ (some 17) _) _
      simp only [Act.put, List.setIfInBounds_toArray, List.set_cons_zero, List.set_cons_succ]
      refine anyT_takeT (i := 6) (v := ?_) rfl (by decide) (by kernel_rfl) (by kernel_rfl) (by kernel_rfl) (fun _ _ _ h => h) (Or.inl ⟨by rfl, ?_⟩) hT (fun _ => hHeld) ?_
      rotate_left 1
      · intro w hSw
        go_simp
        try with_reducible rfl
      show anyT _ _ _ _ _ _ _ _ _ (Act.put _ (some 19) _) _
      simp only [Act.put, List.setIfInBounds_toArray, List.set_cons_zero, List.set_cons_succ]
      refine anyT_takeT (i := 7) (v := ?_) rfl (by decide) (by kernel_rfl) (by kernel_rfl) (by kernel_rfl) (fun _ _ _ h => h) (Or.inl ⟨by rfl, ?_⟩) hT (fun _ => hHeld) ?_
      rotate_left 1
      · intro w hSw
        go_simp
        try with_reducible rfl
      show anyT _ _ _ _ _ _ _ _ _ (Act.put _ (some 20) _) _
      simp only [Act.put, List.setIfInBounds_toArray, List.set_cons_zero, List.set_cons_succ]
      refine anyT_takeT (i := 9) (v := ?_) rfl (by decide) (by kernel_rfl) (by kernel_rfl) (by kernel_rfl) (fun _ _ _ h => h) (Or.inl ⟨by rfl, ?_⟩) hT (fun _ => hHeld) ?_
      rotate_left 1
      · intro w hSw
        go_simp
        try with_reducible rfl
      show anyT _ _ _ _ _ _ _ _ _ (Act.put _ (some 22) _) _
      simp only [Act.put, List.setIfInBounds_toArray, List.set_cons_zero, List.set_cons_succ]
      refine anyT_takeT (i := 10) (v := ?_) rfl (by decide) (by kernel_rfl) (by kernel_rfl) (by kernel_rfl) (fun _ _ _ h => h) (Or.inl ⟨by rfl, ?_⟩) hT (fun _ => hHeld) ?_
      rotate_left 1
      · intro w hSw
        go_simp
        try with_reducible rfl
      show anyT _ _ _ _ _ _ _ _ _ (Act.put _ (some 23) _) _
      simp only [Act.put, List.setIfInBounds_toArray, List.set_cons_zero, List.set_cons_succ]
      clear hT hHeld
      refine anyT_one (i := 2) (by kernel_rfl) rfl (fun Kk hKk => ?_)
      go_simp
      (go_at_call 40; refine (turn4_any q U.drew).mono ?_; rintro e u1 ⟨rfl, hx1⟩)
      have e1 : Ext U u1 := e0.trans hx1
      go_wp2_with fail
      refine hKk.out _ _ (cell_ext d3 e1) (fun _ => trivial) ?_
      clear hKk Kk
      simp only [List.setIfInBounds_toArray, List.set_cons_zero, List.set_cons_succ]
      refine anyT_one (i := 5) (by kernel_rfl) rfl (fun Kk hKk => ?_)
      go_simp
      (go_at_call 39; refine (fork_any q u1).mono ?_; rintro e u2 ⟨rfl, hx2⟩)
      have e2 : Ext U u2 := e1.trans hx2
      go_wp2_with fail
      refine hKk.out _ _ (cell_ext d3 e2) (fun _ => trivial) ?_
      clear hKk Kk
      simp only [List.setIfInBounds_toArray, List.set_cons_zero, List.set_cons_succ]
      refine anyT_one (i := 8) (by kernel_rfl) rfl (fun Kk hKk => ?_)
      go_simp
      (go_at_call 40; refine (turn2_any q u2).mono ?_; rintro e u3 ⟨rfl, hx3⟩)
      have e3 : Ext U u3 := e2.trans hx3
      go_wp2_with fail
      refine hKk.out _ _ (cell_ext d3 e3) (fun _ => trivial) ?_
      clear hKk Kk
      simp only [List.setIfInBounds_toArray, List.set_cons_zero, List.set_cons_succ]
      refine anyT_one (i := 11) (by kernel_rfl) rfl (fun Kk hKk => ?_)
      go_simp
      (go_at_call 39; refine (fork_any q u3).mono ?_; rintro e u4 ⟨rfl, hx4⟩)
      have e4 : Ext U u4 := e3.trans hx4
      go_wp2_with fail
      refine hKk.out _ _ (cell_ext d3 e4) (fun _ => trivial) ?_
      clear hKk Kk
      simp only [List.setIfInBounds_toArray, List.set_cons_zero, List.set_cons_succ]
      have EA := ext_al u4 (.cells (([(lTurn q 4 [], (none, 0, 0), (none, 0, 0)), (lFork q, (none, 0, 0), (none, 0, 0)), (lTurn q 2 [], (none, 0, 0), (none, 0, 0)), (lFork q, (none, 0, 0), (none, 0, 0))] : List Gx).flatMap gv).toArray 37)
      have hn := heap_alloc_new u4 (.cells (([(lTurn q 4 [], (none, 0, 0), (none, 0, 0)), (lFork q, (none, 0, 0), (none, 0, 0)), (lTurn q 2 [], (none, 0, 0), (none, 0, 0)), (lFork q, (none, 0, 0), (none, 0, 0))] : List Gx).flatMap gv).toArray 37)
      have HO := Lib.hid (opsO_lit (base := w.heap.size) ([(lTurn q 4 [], (none, 0, 0), (none, 0, 0)), (lFork q, (none, 0, 0), (none, 0, 0)), (lTurn q 2 [], (none, 0, 0), (none, 0, 0)), (lFork q, (none, 0, 0), (none, 0, 0))] : List Gx) (n := 4) rfl hn (Nat.le_trans HE.out.size e4.size) (by decide) (fun x hx => by
        simp only [List.mem_cons, List.not_mem_nil, or_false] at hx
        rcases hx with rfl | rfl | rfl | rfl
        all_goals exact opO_plain _ rfl rfl))
      have e5 := e4.trans EA
      have HEE := Lib.hid (HE.out.trans e5)
      refine anyT_one (i := 12) (by kernel_rfl) rfl (fun Kk hKk => ?_)
      go_wp2_with fail
      refine hKk.out _ _ (cell_ext d3 e5) (fun _ => trivial) ?_
      clear hKk Kk
      simp only [List.setIfInBounds_toArray, List.set_cons_zero, List.set_cons_succ]
      have hT : (u4.alloc (.cells (([(lTurn q 4 [], (none, 0, 0), (none, 0, 0)), (lFork q, (none, 0, 0), (none, 0, 0)), (lTurn q 2 [], (none, 0, 0), (none, 0, 0)), (lFork q, (none, 0, 0), (none, 0, 0))] : List Gx).flatMap gv).toArray 37)).cell? ⟨G, 3, none⟩ = some (.int .i64 q) := cell_ext d3 e5
      have hHeld : True := trivial
      refine anyT_takeT (i := 13) (v := ?_) rfl (by decide) (by kernel_rfl) (by kernel_rfl) (by kernel_rfl) (fun _ _ _ h => h) (Or.inl ⟨by rfl, ?_⟩) hT (fun _ => hHeld) ?_
      rotate_left 1
      · intro w hSw
        go_simp
        try with_reducible rfl
      show anyT _ _ _ _ _ _ _ _ _ (Act.put _ (some 2) _) _
      simp only [Act.put, List.setIfInBounds_toArray, List.set_cons_zero, List.set_cons_succ]
      refine anyT_done (by kernel_rfl) ?_ _
      clear EA hn hT hHeld e0 e1 e2 e3 e4 e5 hx1 hx2 hx3 hx4 d3
      go_wp2_with fail
      go_ret
      exact ⟨_, _, _, rfl, by rw [Hl.out]; exact HO.out, HEE.out⟩
    · have b3 := bf h3
      have Hl := Lib.hid (show lAround ⟨kd, k, ctl, q, bt, cnd⟩ = [] by unfold lAround; rw [if_neg h2, if_neg h3])
      clear hU hG h2 h3
      go_enter Tryd.func28, Tryd.ntmps28
      go_upto_region 1 with fail
      rw [HU.out, HG.out]
      go_wp2_with fail
      go_ret
      exact ⟨none, 0, 0, rfl, by rw [Hl.out]; exact OpsO.nil _ _, HE.out⟩
end Go.Proofs.YtiicbcjenhfakaaDoor
namespace Go.Proofs.YtiicbcjenhfakaaDoor
open Go.RowKit

/-- What a body that appends does. -/
def Apps (w0 : World) (Bd : Nat) (sp : Int) (F : FuncId) (args : Array Value) (w : World) (v : Value) (ops more : List Gop) : Prop :=
  Calls Tryd.prog F args w fun e w' => e = .returned (.tuple #[]) ∧ ∃ v', Mv Bd v v' w w' ∧ BdA w0 w' Bd sp v' (ops ++ more)

set_option maxRecDepth 100000 in
set_option maxHeartbeats 2000000 in
theorem between_any (F : FuncId) (caps : Array Value) (w0 w : World) (Bd : Nat) (sp : Int) (v : Value) (ops gs more : List Gop) (ga : Option Addr) (gn gc gb : Nat) (hB : BdA w0 w Bd sp v ops) (hG : OpsO w gb (.slice ga gn gc) gs) (hne : ∀ k, (Value.slice ga gn gc).ownBlock = some k → v.ownBlock ≠ some k) (hp : (pur ⟨12, 0, gs⟩).1 = 0) (hS : Shp w0) (hEnt : ∀ (args : Array Value) (wx : World), (callFunc F args).run Tryd.prog wx = .ok (.enter F args) wx)
    (hl : ops.length + gs.length + more.length + gs.length ≤ 1000000) (hbody : ∀ wx vx, Mv Bd v vx w wx → BdA w0 wx Bd sp vx (ops ++ gs) → Apps w0 Bd sp F caps wx vx (ops ++ gs) more) :
    Apps w0 Bd sp 27 #[.pointer (some ⟨Bd, 0, none⟩), .slice ga gn gc, .func (.func F) #[] caps] w v ops (gs ++ more ++ invO gs) := by
  unfold Apps
  obtain ⟨va, vc, hv⟩ := hB.sl
  subst hv
  obtain ⟨sl, sn, ys, s1, s2, s3, s4⟩ := hG.src
  obtain ⟨a1, c1, w1, r1, k1, m1, B1, M1⟩ := bd_append hB 22 sl sn ys s1 s2 s3 s4 (by omega)
  have x1 := hB.x1
  have y1 : w1.cell? ⟨Bd, 1, none⟩ = some (.slice va ops.length vc) := (World.cell?_of_block (a := ⟨Bd, 1, none⟩) k1).trans x1
  have f1 : w1.frozen? ⟨Bd, 1, none⟩ = false := (World.frozen?_of_block (a := ⟨Bd, 1, none⟩) k1).trans (hB.f 1)
  have HG1 := Lib.hid (hG.mv hB M1 hne)
  have hne1 : ∀ k, (Value.slice ga gn gc).ownBlock = some k → (Value.slice a1 (ops.length + gn) c1).ownBlock ≠ some k := fun k hk e => by
    rcases M1.own k e with e | e
    · exact hne k hk e
    · have := (own_lt hG.rows.choose_spec.1 k hk).2
      omega
  have Hb := Lib.hid hbody; have HM1 := Lib.hid M1; have HB1 := Lib.hid B1; have Hne1 := Lib.hid hne1; have Hsl := Lib.hid sl; have Hl := Lib.hid hl; have Hp := Lib.hid hp; have HS := Lib.hid hS
  have Hr1 := Lib.hid r1
  clear hbody M1 B1 hne1 hl hp hS s1 s2 s3 s4 sn hB hG hne k1 m1 sl r1
  go_enter Tryd.func27, Tryd.ntmps27
  go_upto_region 1 with (at_builtin; refine Lib.wpList_append_run _ rfl _ _ _ _ rfl _ _ rfl rfl _ _ Hr1.out ?_)
  clear x1 y1 f1
  generalize w1.setCell ⟨Bd, 1, none⟩ (.slice a1 (ops.length + gn) c1) = W1 at *
  have HBo := Lib.hid (Hb.out W1 _ HM1.out HB1.out)
  unfold Apps at HBo
  clear Hb
  have HEnt := Lib.hid hEnt
  clear hEnt
  go_wp2_with fail
  rw [HEnt.out, Oper.upon_enter]
  refine HBo.out.mono ?_
  rintro e w2 ⟨rfl, v2, hM2, hB2⟩
  obtain ⟨a2, c2, hv2⟩ := hB2.sl
  subst hv2
  have hG2 := HG1.out.mv HB1.out hM2 Hne1.out
  have hne2 : ∀ k, (Value.slice ga gn gc).ownBlock = some k → (Value.slice a2 (ops ++ gs ++ more).length c2).ownBlock ≠ some k := fun k hk e => by
    rcases hM2.own k e with e | e
    · exact Hne1.out k hk e
    · have := (own_lt HG1.out.rows.choose_spec.1 k hk).2
      omega
  obtain ⟨ga', gc', eg, hgn, hgc, hgat⟩ := hG2.at
  injection eg with eg1 eg2 eg3
  subst eg1; subst eg3
  rw [Hsl.out] at hgn hgat
  have x1 := hB2.x1
  have Ed : Ext w2 w2.drew := Below.drew (Ext.refl _)
  have HUn := Lib.hid (undone_any gs ga gn gc w2.drew (hgat.ext Ed) hgn (by unfold maxLen at hgc; omega) (HS.out.ext (hB2.ext.trans Ed)) Hp.out)
  have HM2 := Lib.hid (HM1.out.trans hM2); have HB2 := Lib.hid hB2
  have HL2 := Lib.hid (show (ops ++ gs ++ more).length + gn ≤ 1000000 by
    have := Hl.out; have := Hsl.out
    simp only [List.length_append]
    omega)
  obtain ⟨LL, hLL⟩ : ∃ LL, (ops ++ gs ++ more).length = LL := ⟨_, rfl⟩
  rw [hLL] at x1
  have HLL := Lib.hid hLL
  clear hM2 hB2 hG2 hgn hgc hgat HM1 HB1 HG1 Hne1 HBo hLL eg2 hne2
  go_upto_region 2 with fail
  refine wp_region_K 10 (fun w' => w'.cell? ⟨Bd, 1, none⟩ = some (.slice a2 LL c2)) (by kernel_rfl) ?_
  show anyK _ _ _ _ _ _ 11 #[false, false, false, false, false, false, false, false, false, false, false] _ _
  have hHeld : w2.drew.cell? ⟨Bd, 1, none⟩ = some (.slice a2 LL c2) := cell_ext x1 Ed
  refine anyK_take (i := 0) (v := ?_) rfl (by kernel_rfl) (by kernel_rfl) (by kernel_rfl) (N := 11) (by kernel_rfl) (by kernel_rfl) (by kernel_rfl) (fun _ _ _ h => h) (Or.inl ⟨by rfl, ?_⟩) hHeld ?_
  rotate_left 1
  · intro w hSw
    go_simp
    try with_reducible rfl
  show anyK _ _ _ _ _ _ _ _ (Act.put _ (some 17) _) _
  simp only [Act.put, List.setIfInBounds_toArray, List.set_cons_zero, List.set_cons_succ]
  refine anyK_take (i := 1) (v := ?_) rfl (by kernel_rfl) (by kernel_rfl) (by kernel_rfl) (N := 11) (by kernel_rfl) (by kernel_rfl) (by kernel_rfl) (fun _ _ _ h => h) (Or.inl ⟨by rfl, ?_⟩) hHeld ?_
  rotate_left 1
  · intro w hSw
    go_simp
    try with_reducible rfl
  show anyK _ _ _ _ _ _ _ _ (Act.put _ (some 18) _) _
  simp only [Act.put, List.setIfInBounds_toArray, List.set_cons_zero, List.set_cons_succ]
  refine anyK_take (i := 2) (v := ?_) rfl (by kernel_rfl) (by kernel_rfl) (by kernel_rfl) (N := 11) (by kernel_rfl) (by kernel_rfl) (by kernel_rfl) (fun _ _ _ h => h) (Or.inl ⟨by rfl, ?_⟩) hHeld ?_
  rotate_left 1
  · intro w hSw
    go_simp
    try with_reducible rfl
  show anyK _ _ _ _ _ _ _ _ (Act.put _ (some 19) _) _
  simp only [Act.put, List.setIfInBounds_toArray, List.set_cons_zero, List.set_cons_succ]
  refine anyK_take (i := 3) (v := ?_) rfl (by kernel_rfl) (by kernel_rfl) (by kernel_rfl) (N := 11) (by kernel_rfl) (by kernel_rfl) (by kernel_rfl) (fun _ _ _ h => h) (Or.inl ⟨by rfl, ?_⟩) hHeld ?_
  rotate_left 1
  · intro w hSw
    go_simp
    try with_reducible rfl
  show anyK _ _ _ _ _ _ _ _ (Act.put _ (some 20) _) _
  simp only [Act.put, List.setIfInBounds_toArray, List.set_cons_zero, List.set_cons_succ]
  refine anyK_take (i := 4) (v := ?_) rfl (by kernel_rfl) (by kernel_rfl) (by kernel_rfl) (N := 11) (by kernel_rfl) (by kernel_rfl) (by kernel_rfl) (fun _ _ _ h => h) (Or.inl ⟨by rfl, ?_⟩) hHeld ?_
  rotate_left 1
  · intro w hSw
    go_simp
    try with_reducible rfl
  show anyK _ _ _ _ _ _ _ _ (Act.put _ (some 21) _) _
  simp only [Act.put, List.setIfInBounds_toArray, List.set_cons_zero, List.set_cons_succ]
  refine anyK_take (i := 5) (v := ?_) rfl (by kernel_rfl) (by kernel_rfl) (by kernel_rfl) (N := 11) (by kernel_rfl) (by kernel_rfl) (by kernel_rfl) (fun _ _ _ h => h) (Or.inl ⟨by rfl, ?_⟩) hHeld ?_
  rotate_left 1
  · intro w hSw
    go_simp
    try with_reducible rfl
  show anyK _ _ _ _ _ _ _ _ (Act.put _ (some 22) _) _
  simp only [Act.put, List.setIfInBounds_toArray, List.set_cons_zero, List.set_cons_succ]
  clear hHeld
  refine anyK_one (i := 6) (by kernel_rfl) rfl (fun Kk hKk => ?_)
  go_simp
  (go_at_call 38; refine HUn.out.mono ?_; rintro e w3 ⟨a3, c3, rfl, hO3, hx3⟩)
  have E3 := Ed.trans hx3
  go_wp2_with fail
  refine hKk.out _ _ (fun _ => cell_ext x1 E3) ?_
  clear hKk Kk
  simp only [List.setIfInBounds_toArray, List.set_cons_zero, List.set_cons_succ]
  have B3 := HB2.out.ext' E3
  obtain ⟨tl, tn, zs, z1, z2, z3, z4⟩ := hO3.src
  obtain ⟨a4, c4, w4, r4, k4, m4, B4, M4⟩ := bd_append B3 22 tl tn zs z1 z2 z3 z4 HL2.out
  rw [HLL.out] at r4 B4 M4
  have y4 : w4.cell? ⟨Bd, 1, none⟩ = some (.slice a2 LL c2) := (World.cell?_of_block (a := ⟨Bd, 1, none⟩) k4).trans (cell_ext x1 E3)
  have f4 : w4.frozen? ⟨Bd, 1, none⟩ = false := (World.frozen?_of_block (a := ⟨Bd, 1, none⟩) k4).trans (B3.f 1)
  refine anyK_one (i := 7) (by kernel_rfl) rfl (fun Kk hKk => ?_)
  refine stepK_append rfl _ _ 22 rfl (.slice a2 LL c2) (.slice a3 gn c3) _ rfl rfl r4 ?_
  refine hKk.out _ _ (fun _ => y4) ?_
  clear hKk Kk
  show anyK _ _ _ _ _ _ _ _ (Act.put _ (some 24) _) _
  simp only [Act.put, List.setIfInBounds_toArray, List.set_cons_zero, List.set_cons_succ]
  have hHeld := y4
  refine anyK_take (i := 8) (v := ?_) rfl (by kernel_rfl) (by kernel_rfl) (by kernel_rfl) (N := 11) (by kernel_rfl) (by kernel_rfl) (by kernel_rfl) (fun _ _ _ h => h) (Or.inl ⟨by rfl, ?_⟩) hHeld ?_
  rotate_left 1
  · intro w hSw
    go_simp
    try with_reducible rfl
  show anyK _ _ _ _ _ _ _ _ (Act.put _ (some 25) _) _
  simp only [Act.put, List.setIfInBounds_toArray, List.set_cons_zero, List.set_cons_succ]
  refine anyK_take (i := 9) (v := ?_) rfl (by kernel_rfl) (by kernel_rfl) (by kernel_rfl) (N := 11) (by kernel_rfl) (by kernel_rfl) (by kernel_rfl) (fun _ _ _ h => h) (Or.inl ⟨by rfl, ?_⟩) hHeld ?_
  rotate_left 1
  · intro w hSw
    go_simp
    try with_reducible rfl
  show anyK _ _ _ _ _ _ _ _ (Act.put _ (some 26) _) _
  simp only [Act.put, List.setIfInBounds_toArray, List.set_cons_zero, List.set_cons_succ]
  clear hHeld
  refine anyK_one (i := 10) (by kernel_rfl) rfl (fun Kk hKk => ?_)
  refine stepK_store rfl rfl _ _ rfl Bd 1 a4 (LL + gn) c4 (.slice a2 LL c2) rfl rfl y4 f4 ?_
  refine hKk.out _ _ (fun h => Bool.noConfusion (show true = false from h)) ?_
  clear hKk Kk
  simp only [List.setIfInBounds_toArray, List.set_cons_zero, List.set_cons_succ]
  refine anyK_done (by kernel_rfl) ?_ _
  have HEnd := Lib.hid (show ∃ v', Mv Bd (.slice va ops.length vc) v' w (w4.setCell ⟨Bd, 1, none⟩ (.slice a4 (LL + gn) c4)) ∧ BdA w0 (w4.setCell ⟨Bd, 1, none⟩ (.slice a4 (LL + gn) c4)) Bd sp v' (ops ++ (gs ++ more ++ invO gs)) from ⟨_, (HM2.out.trans (Mv.of_ext E3)).trans (by rw [HLL.out]; exact M4), by rw [← List.append_assoc, ← List.append_assoc]; exact B4⟩)
  generalize w4.setCell ⟨Bd, 1, none⟩ (.slice a4 (LL + gn) c4) = W9 at *
  clear B3 tl tn z1 z2 z3 z4 r4 k4 m4 B4 M4 y4 f4 hO3 hx3 E3 Ed x1
  go_wp2_with fail
  go_end0
  exact ⟨rfl, HEnd.out⟩
end Go.Proofs.YtiicbcjenhfakaaDoor
