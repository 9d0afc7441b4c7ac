/-
  Writing numbers: chunkPowers.
-/
import Derived.Test.YtdiojbgbeeojkaaGreatDoorMTxF
import Derived.Test.YtdiojbgbeeojkaaGreatDoorMBase

namespace Go.Proofs.YtdiojbgbeeojkaaGreatDoor
open Go.RowKit

/-- v is a slice of slices, xs, at the head of a block of its own that holds slices alone. -/
def OwnS (w : World) (e : TypeId) (v : Value) (xs : List Value) : Prop :=
  ∃ g cap cur, v = .slice (some ⟨g, 0, none⟩) xs.length cap ∧ w.heap[g]? = some (.cells cur e (0, 0)) ∧ xs.length ≤ cap ∧ cap ≤ maxLen ∧ cur.size = cap ∧ cur.toList.take xs.length = xs ∧ ∀ u ∈ cur.toList, ∃ a n c, u = .slice a n c

theorem OwnS.ext {w w' : World} {e : TypeId} {v : Value} {xs : List Value} (h : OwnS w e v xs) (k : Ext w w') : OwnS w' e v xs := by
  obtain ⟨g, cap, cur, rfl, hb, rest⟩ := h
  exact ⟨g, cap, cur, rfl, (k.block g (Array.getElem?_eq_some_iff.1 hb).1).trans hb, rest⟩

theorem OwnS.apart {w : World} {e : TypeId} {v : Value} {xs : List Value} (h : OwnS w e v xs) {b o : Nat} {u : Value} (hc : w.cell? ⟨b, o, none⟩ = some u) (hu : ∀ a n c, u ≠ .slice a n c) : some b ≠ v.ownBlock := by
  intro hb
  obtain ⟨g, cap, cur, rfl, hg, _, _, _, _, hall⟩ := h
  simp only [Value.ownBlock, Option.some.injEq] at hb
  subst hb
  rw [cell_of_row w b o cur e (0, 0) hg] at hc
  obtain ⟨a, n, c, hx⟩ := hall u (List.mem_of_getElem? (by rw [Array.getElem?_toList]; exact hc))
  exact hu a n c hx

theorem Seg.apdS {w w' : World} {e : TypeId} {v v' : Value} {xs : List Value} {ao : Option Addr} {la : List Nat} (h : Seg w ao la) (ho : OwnS w e v xs) (k : Apd w w' v v') : Seg w' ao la := by
  rcases h with h | ⟨b, o, rfl, hb, hc⟩
  · exact Or.inl h
  · exact Or.inr ⟨b, o, rfl, Nat.lt_of_lt_of_le hb k.grown.size, fun t ht => k.grown.cell (hc t ht) (ho.apart (hc t ht) (fun a n c hx => by cases hx))⟩

theorem OwnS.cells {w : World} {e : TypeId} {g n cap : Nat} {xs : List Value} (h : OwnS w e (.slice (some ⟨g, 0, none⟩) n cap) xs) (t : Nat) (ht : t < xs.length) : w.cell? ⟨g, t, none⟩ = some xs[t] := by
  obtain ⟨g', cap', cur, hv, hg, _, _, _, htk, _⟩ := h
  simp only [Value.slice.injEq, Option.some.injEq, Addr.mk.injEq, and_true] at hv
  obtain ⟨rfl, _, _⟩ := hv
  rw [cell_of_row w g t cur e (0, 0) hg]
  have h1 : xs[t]? = cur.toList[t]? := by
    rw [← List.getElem?_take_of_lt (l := cur.toList) ht, htk]
  rw [List.getElem?_eq_getElem ht] at h1
  rw [← Array.getElem?_toList, ← h1]

theorem zero_slice (n : Nat) : ∀ u ∈ (Builtin.zeroCells (Value.slice none 0 0).cells n).toList, ∃ a n c, u = .slice a n c := by
  intro u hu
  simp [Builtin.zeroCells, Value.cells, Nat.mod_one] at hu
  exact ⟨none, 0, 0, hu.2.symm⟩

section
variable {P : Program} (w : World)

theorem run_append_row (t ty e : TypeId) (i : TypeInfo) (ht : P.underlying t = some (.slice e)) (hi : P.info? e = some i) (hz : i.zero = some (.slice none 0 0)) (hsize : i.size = 1) (hby : i.bytes = 24)
    (v : Value) (xs : List Value) (hown : OwnS w e v xs) (ad : Addr) (c : Nat) (p : Option Addr) (q r : Nat) (hnew : w.cell? ad = some (.slice p q r)) (hno : ad.add 0 = ad) (hb : xs.length ≤ 1000000) :
    ∃ v' w', (Builtin.append_ #[t, t] ty #[v, .slice (some ad) 1 c]).run P w = .ok v' w' ∧ OwnS w' e v' (xs ++ [.slice p q r]) ∧ Apd w w' v v' := by
  obtain ⟨g, cap, cur, rfl, hg, hlc, hcm, hcs, htk, hall⟩ := hown
  have hl : ([Value.slice p q r] : List Value).length = 1 * i.size := by rw [hsize]; rfl
  have hnews : ∀ j u, ([Value.slice p q r] : List Value)[j]? = some u → w.cell? (ad.add j) = some u := by
    intro j u hu
    cases j with
    | zero =>
      simp only [List.getElem?_cons_zero, Option.some.injEq] at hu
      rw [← hu, hno]; exact hnew
    | succ k => simp at hu
  have h1 : ∀ u ∈ ([Value.slice p q r] : List Value), u.oneCell' = true := by
    intro u hu
    simp only [List.mem_singleton] at hu
    subst hu
    rfl
  by_cases hroom : xs.length + 1 ≤ cap
  · have hr := run_append_room (P := P) w t ty e i ht hi g xs.length cap cur hg ad 1 c _ hl hnews h1 hroom (by rw [hsize, hcs, Nat.mul_one]; exact hroom)
    rw [hsize, Nat.mul_one] at hr
    refine ⟨_, _, hr, ⟨g, cap, _, by simp, setRow_heap w g cur _ e _ hg, by simp; exact hroom, hcm, ?_, ?_, ?_⟩, ⟨⟨rfl, rfl, rfl, by simp, fun k _ hk => setRow_other w g k _ (fun h => hk (by simp [Value.ownBlock, h]))⟩, Or.inl rfl⟩⟩
    · simp only [List.size_toArray, List.length_append, List.length_take, List.length_drop, Array.length_toList, List.length_cons, List.length_nil]
      omega
    · rw [htk]
      exact List.take_left
    · intro u hu
      simp only [List.mem_append, List.mem_singleton] at hu
      rcases hu with (hu | hu) | hu
      · exact hall u (List.mem_of_mem_take hu)
      · exact ⟨_, _, _, hu⟩
      · exact hall u (List.mem_of_mem_drop hu)
  · have holds : ∀ j u, xs[j]? = some u → w.cell? ((⟨g, 0, none⟩ : Addr).add j) = some u := by
      intro j u hu
      rw [Lib.add_plain, cell_of_row w g _ cur e (0, 0) hg, Nat.zero_add]
      rw [← htk, List.getElem?_take] at hu
      split at hu
      · simpa using hu
      · cases hu
    have hr := run_append_grow (P := P) w t ty e i (.slice none 0 0) ht hi hz ⟨g, 0, none⟩ xs.length cap xs (by rw [hsize, Nat.mul_one]) holds ad 1 c _ hl hnews (by omega) (by omega) (by rw [hby]; exact growslice_fits (by omega) (by omega))
    have hge := grownCap_ge w (xs.length + 1) cap e
    have hcm2 : grownCap w (xs.length + 1) cap e ≤ maxLen := grownCap_le_maxLen w _ cap e (by unfold maxLen; omega)
    refine ⟨_, _, hr, ⟨w.heap.size, _, _, by simp, heap_alloc_new w.drew _, by simp; exact hge, hcm2, ?_, ?_, ?_⟩, ⟨⟨rfl, rfl, rfl, by simp, fun k hk _ => Below.heap_alloc w.drew _ k hk⟩, Or.inr ⟨_, rfl, Nat.le_refl _⟩⟩⟩
    · have hz1 : (Value.slice none 0 0).cells.size = 1 := rfl
      simp only [Array.size_append, List.size_toArray, size_zeroCells, hz1, List.length_cons, List.length_nil]
      omega
    · simp only [Array.toList_append]
      exact List.take_left
    · intro u hu
      simp only [Array.toList_append, List.mem_append, List.mem_singleton] at hu
      rcases hu with (hu | hu) | hu
      · rw [← htk] at hu; exact hall u (List.mem_of_mem_take hu)
      · exact ⟨_, _, _, hu⟩
      · exact zero_slice _ u hu

theorem wpList_append_row {ops : Array Oper} {rest : List Oper} {o : Oper} {a : Act} {Q : Exit → Act → World → Prop} (hgd : o.guard = none) (s x : Operand) (t : TypeId)
    (ho : o.op = .call { callee := .builtin .append, args := #[s, x], argTypes := #[t, t] })
    (e : TypeId) (i : TypeInfo) (ht : P.underlying t = some (.slice e)) (hi : P.info? e = some i) (hz : i.zero = some (.slice none 0 0)) (hsize : i.size = 1) (hby : i.bytes = 24)
    (v : Value) (xs : List Value) (hs : a.eval s = v) (hown : OwnS w e v xs) (ad : Addr) (c : Nat) (p : Option Addr) (q r : Nat) (hx : a.eval x = .slice (some ad) 1 c) (hnew : w.cell? ad = some (.slice p q r)) (hno : ad.add 0 = ad) (hb : xs.length ≤ 1000000)
    (h : ∀ v' w', OwnS w' e v' (xs ++ [.slice p q r]) → Apd w w' v v' → wpList P ops Q rest (a.put o.dst v') w') : wpList P ops Q (o :: rest) a w := by
  refine wpList_plain hgd fun _ hK => ?_
  obtain ⟨v', w', hr, h2, h3⟩ := run_append_row (P := P) w t o.type e i ht hi hz hsize hby v xs hown ad c p q r hnew hno hb
  unfold Oper.wp execOp
  simp only [ho, resolve, invoke, builtin, Sem.run_bind, Sem.run_pure, Result.andThen_ok, List.map_toArray, List.map_cons, List.map_nil, hs, hx, hr]
  exact hK _ _ (h v' w' h2 h3)

end

theorem row_info : (Tryz.prog.info? 22).map (fun i => (i.zero, i.size, i.bytes)) = some (some (.slice none 0 0), 1, 24) := by kernel_rfl

theorem Pw_ge (j : Nat) : 2 ^ (63 * 2 ^ j) ≤ Pw j := by
  induction j with
  | zero => rw [Pw_zero]; decide
  | succ k ih =>
    rw [Pw_succ, Nat.pow_succ, ← Nat.mul_assoc, Nat.mul_two, Nat.pow_add]
    exact Nat.mul_le_mul ih ih

/-- The powers are not many. -/
theorem pw_few {j n N : Nat} (h : Pw j < B64 ^ n) (h2 : 2 * n ≤ N + 1) (hN : N ≤ 100000) : j < 16 := by
  apply Nat.lt_of_not_le
  intro hj
  have h3 := Nat.lt_of_le_of_lt (Pw_ge j) h
  rw [B64_two, ← Nat.pow_mul] at h3
  have h4 : 63 * 2 ^ j < 64 * n := (Nat.pow_lt_pow_iff_right (by decide)).1 h3
  have h5 : (2 : Nat) ^ 16 ≤ 2 ^ j := Nat.pow_le_pow_right (by decide) hj
  omega

/-- The powers that stand so far. -/
def PowRow (w : World) (xs : List Value) : Prop := ∀ t, (h : t < xs.length) → Num w xs[t] (Pw t)

theorem PowRow.keep {w w' : World} {xs : List Value} (h : PowRow w xs) (k : ∀ ao l, Seg w ao l → Seg w' ao l) : PowRow w' xs := fun t ht => (h t ht).keep k

theorem PowRow.snoc {w : World} {xs : List Value} {v : Value} (h : PowRow w xs) (hv : Num w v (Pw xs.length)) : PowRow w (xs ++ [v]) := by
  intro t ht
  by_cases h1 : t < xs.length
  · rw [List.getElem_append_left h1]; exact h t h1
  · have ht1 : t = xs.length := by simp at ht; omega
    subst ht1
    rw [List.getElem_append_right (Nat.le_refl _)]
    simpa using hv

theorem pw_enough {n N : Nat} {l : List Nat} {j : Nat} (hl : l.length = n) (hr : Nrm l) (hv : val l = Pw j) (hn : 1 ≤ n) (h : N + 1 < 2 * n) : B64 ^ N ≤ Pw (j + 1) := by
  have h1 := hr.ge (by intro e; subst e; simp at hl; omega)
  rw [hl, hv] at h1
  rw [Pw_succ]
  have h2 : B64 ^ N ≤ B64 ^ ((n - 1) + (n - 1)) := Nat.pow_le_pow_right B64_pos (by omega)
  rw [Nat.pow_add] at h2
  exact Nat.le_trans h2 (Nat.mul_le_mul h1 h1)

set_option maxHeartbeats 1600000 in
set_option maxRecDepth 100000 in
theorem chunkPowers_any (N : Nat) (hN : N ≤ 100000) (w : World) :
    Calls Tryz.prog 45 #[.int .i64 N] w fun e w' => ∃ (k b cap : Nat), e = .returned (.slice (some ⟨b, 0, none⟩) k cap) ∧ k ≤ 20 ∧ k ≤ cap ∧ cap ≤ maxLen ∧ Pows w' (some ⟨b, 0, none⟩) k ∧ Hid (B64 ^ N ≤ Pw k) ∧ Ext w w' := by
  obtain ⟨i0, hi, hz0, hz1, hz2⟩ := info_parts row_info
  have hsn := Seg.new1 w 10000000000000000000 92
  have hE1 := Ext.alloc w (.cells #[.int .u64 (10000000000000000000 : Nat)] 92)
  have hE2 := Ext.alloc (w.alloc (.cells #[.int .u64 (10000000000000000000 : Nat)] 92)) (.cells #[.slice (some ⟨w.heap.size, 0, none⟩) 1 1] 22)
  have hs0 := hsn.ext hE2
  have ho0 : OwnS ((w.alloc (.cells #[.int .u64 (10000000000000000000 : Nat)] 92)).alloc (.cells #[.slice (some ⟨w.heap.size, 0, none⟩) 1 1] 22)) 22 (.slice (some ⟨w.heap.size + 1, 0, none⟩) 1 1) [.slice (some ⟨w.heap.size, 0, none⟩) 1 1] := by
    refine ⟨w.heap.size + 1, 1, #[.slice (some ⟨w.heap.size, 0, none⟩) 1 1], rfl, ?_, by simp, by unfold maxLen; omega, rfl, rfl, ?_⟩
    · have := heap_alloc_new (w.alloc (.cells #[.int .u64 (10000000000000000000 : Nat)] 92)) (.cells #[.slice (some ⟨w.heap.size, 0, none⟩) 1 1] 22)
      simpa using this
    · intro u hu
      simp at hu
      exact ⟨_, _, _, hu⟩
  have hE : Ext w ((w.alloc (.cells #[.int .u64 (10000000000000000000 : Nat)] 92)).alloc (.cells #[.slice (some ⟨w.heap.size, 0, none⟩) 1 1] 22)) := hE1.trans hE2
  have hd0 : Dig [10000000000000000000] := Dig.cons (by rw [B64_eq]; omega) Dig.nil
  have hr0 : Nrm [10000000000000000000] := by unfold Nrm; decide
  have hv0 : val [10000000000000000000] = Pw 0 := by rw [Pw_zero]; simp [val]
  clear hsn hE1 hE2
  go_enter Tryz.func45, Tryz.ntmps45
  go_wp2_with fail
  generalize (w.alloc (.cells #[.int .u64 (10000000000000000000 : Nat)] 92)).alloc (.cells #[.slice (some ⟨w.heap.size, 0, none⟩) 1 1] 22) = W0 at *
  go_loopw [3, 4] (fun lv pv wr => ∃ (j b cap : Nat) (xs : List Value) (ao : Option Addr) (l : List Nat) (n c : Nat), lv = .slice ao n c ∧ pv = .slice (some ⟨b, 0, none⟩) (j + 1) cap ∧ j ≤ 16 ∧ xs.length = j + 1 ∧ OwnS wr 22 pv xs ∧ PowRow wr xs ∧ l.length = n ∧ 1 ≤ n ∧ n ≤ c ∧ c ≤ maxLen ∧ n ≤ 200000 ∧ Seg wr ao l ∧ Dig l ∧ Nrm l ∧ val l = Pw j ∧ Ext w wr ∧ w.heap.size ≤ b)
    (fun _ pv _ => match pv with | .slice _ k _ => 64 - k | _ => 0)
  case atStart =>
    exact ⟨0, w.heap.size + 1, 1, _, _, _, 1, 1, rfl, rfl, by omega, rfl, ho0, (fun t ht => by
      have ht0 : t = 0 := by simpa using ht
      subst ht0
      exact ⟨_, _, 1, rfl, Nat.le_refl _, by unfold maxLen; omega, hs0, hd0, hr0, hv0⟩), rfl, Nat.le_refl _, Nat.le_refl _, by unfold maxLen; omega, by omega, hs0, hd0, hr0, hv0, hE, by omega⟩
  case round =>
    obtain ⟨j, b, cap, xs, ao, l, n, c, rfl, rfl, hj, hxl, hos, hpr, hl, hn1, hnc, hcm, hn2, hsg, hd, hr, hv, hEr, hbw⟩ := hrel
    have Hxl := hid hxl; have Hos := hid hos; have Hpr := hid hpr; have Hl := hid hl; have Hsg := hid hsg; have Hd := hid hd; have Hr := hid hr; have Hv := hid hv
    clear hxl hos hpr hl hsg hd hr hv
    by_cases hgo : 2 * n ≤ N + 1
    · have hj16 : j < 16 := pw_few (n := n) (N := N) (by rw [← Hv.out, ← Hl.out]; exact val_lt Hd.out) hgo hN
      have ig : 2 * (n : Int) - 1 ≤ (N : Int) := by omega
      go_wp2_with fail
      refine (mulOK_all 1000000 (by omega) ao ao l l n n c c wr Hl.out Hl.out Hsg.out Hsg.out Hd.out Hd.out hnc hnc hcm hcm (by omega)).mono ?_
      rintro e w1 ⟨_, rfl, hnum, he1, _⟩
      have hnum' : Num w1 _ (Pw (j + 1)) := hnum.cast (by rw [Hv.out, ← Pw_succ])
      obtain ⟨a5, l5, n5, c5, rfl, hl5, hn5, hc5, hs5, hd5, hr5, hv5⟩ := hnum'.named
      have Hos1 := hid (Hos.out.ext he1); have Hpr1 := hid (Hpr.out.keep (fun _ _ hs => hs.ext he1))
      have hn5b : n5 ≤ 200000 := by
        rw [← hl5]
        refine Nat.le_trans (lt_len (k := n + n) hr5 ?_) (by omega)
        rw [hv5, Pw_succ, ← Hv.out, Nat.pow_add]
        have h1 := val_lt Hd.out
        rw [Hl.out] at h1
        exact Nat.mul_lt_mul'' h1 h1
      have hn51 : 1 ≤ n5 := by
        rw [← hl5]
        cases l5 with
        | nil => have := Pw_pos (j + 1); rw [← hv5] at this; simp [val] at this
        | cons x r => simp
      have Hnum := hid hnum'; have Hl5 := hid hl5; have Hs5 := hid hs5; have Hd5 := hid hd5; have Hr5 := hid hr5; have Hv5 := hid hv5
      have hxl := Hxl.out
      clear hnum hnum' hl5 hs5 hd5 hr5 hv5
      go_wp2_with (at_builtin; refine wpList_append_row _ rfl _ _ 77 rfl 22 i0 Tryz.underlying77 hi hz0 hz1 hz2 (.slice (some ⟨b, 0, none⟩) (j + 1) cap) xs rfl (Hos1.out.ext (Ext.alloc _ _)) ⟨w1.heap.size, 0, none⟩ 1 a5 n5 c5 rfl (by simp) (Lib.add_plain _ _ _) (by omega) ?_; intro v' w' hown' hap')
      have ha1 := Ext.alloc w1 (.cells #[.slice a5 n5 c5] 22)
      have Hkp : Hid (∀ ao l, Seg w1 ao l → Seg w' ao l) := fun _ _ hs => (hs.ext ha1).apdS (Hos1.out.ext ha1) hap'
      obtain ⟨b', cap', cur', rfl, hrest⟩ := hown'
      have hlen' : (xs ++ [Value.slice a5 n5 c5]).length = j + 1 + 1 := by rw [List.length_append, hxl]; rfl
      have hbw' : w.heap.size ≤ b' := by
        rcases hap'.lies with h | ⟨g, h, hg⟩
        · simp [Value.ownBlock] at h; omega
        · simp only [Value.ownBlock, Option.some.injEq] at h
          subst h
          have h1 := hEr.size; have h2 := he1.size; have h3 := ha1.size
          omega
      have hEw : Ext w w' := by
        have h1 := (hEr.trans he1).trans ha1
        refine ⟨hap'.grown.os.trans h1.os, hap'.grown.tape.trans h1.tape, hap'.grown.output.trans h1.output, Nat.le_trans h1.size hap'.grown.size, fun k hk => (hap'.grown.block k (Nat.lt_of_lt_of_le hk h1.size) ?_).trans (h1.block k hk)⟩
        simp only [Value.ownBlock, ne_eq, Option.some.injEq]
        omega
      have hos' : OwnS w' 22 (.slice (some ⟨b', 0, none⟩) (j + 1 + 1) cap') (xs ++ [Value.slice a5 n5 c5]) := ⟨b', cap', cur', by rw [hlen'], hrest⟩
      rw [hlen']
      go_roundw
      case rel => exact ⟨j + 1, b', cap', xs ++ [Value.slice a5 n5 c5], a5, l5, n5, c5, rfl, rfl, by omega, hlen', hos', (Hpr1.out.keep Hkp.out).snoc (by rw [hxl]; exact Hnum.out.keep Hkp.out), Hl5.out, hn51, hn5, hc5, hn5b, Hkp.out _ _ Hs5.out, Hd5.out, Hr5.out, Hv5.out, hEw, hbw'⟩
      case measure => show 64 - (j + 1 + 1) < 64 - (j + 1); omega
    · have ig : ¬ 2 * (n : Int) - 1 ≤ (N : Int) := by omega
      go_wp2_with fail
      go_ret
      have hos := Hos.out
      have hcc : j + 1 ≤ cap ∧ cap ≤ maxLen := by
        obtain ⟨g, cap2, cur, h1, _, h3, h4, _⟩ := hos
        simp only [Value.slice.injEq] at h1
        obtain ⟨_, h5, h6⟩ := h1
        omega
      exact ⟨j + 1, b, cap, rfl, by omega, hcc.1, hcc.2, Or.inr ⟨b, rfl, fun t ht => ⟨_, hos.cells t (by rw [Hxl.out]; exact ht), Hpr.out t (by rw [Hxl.out]; exact ht)⟩⟩, pw_enough Hl.out Hr.out Hv.out hn1 (by omega), hEr⟩

end Go.Proofs.YtdiojbgbeeojkaaGreatDoor
