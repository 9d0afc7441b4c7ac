/-
  The reference's numbers: dadd. The reference's numbers: dsub. The reference's numbers: ZNeg, ZAdd, ZSub, ZCmp. The reference's numbers: a block of ints that is written; the digits of a product. The reference's numbers: ZMul. The reference's numbers: ZOf. The reference's writing, in plain lists.
-/
import Derived.Test.YtlmfhopifggeaaaDoorProg
import Derived.Test.YtlmfhopifggeaaaDoorRows
import Derived.BigQuiet
import Derived.Deep.Cut
import Derived.Deep.QuietTactic
import Derived.Deep.RegionHeld3
import Derived.Ground.Names2Prog
import Derived.Ground.SlgnProg
import Derived.Laws.Bits64b
import Derived.Laws.CopyOwn
import Derived.Laws.ResultCell
import Derived.Lib.BitFns
import Derived.Lib.Hide
import Derived.Lib.ItoaNum
import Derived.Lib.Strings
import Derived.OwnWalk
import Derived.Shelf.Slices.Clone
import Derived.Shelf.SlicesE.Clone
import Derived.WalkKit
import Derived.WalkLawsBesides
import Derived.WalkSpells
import Derived.Test.YtlmfhopifggeaaaDoorS00Mem
import Derived.Test.YtlmfhopifggeaaaDoorShelf
import Derived.Test.YtlmfhopifggeaaaDoorS02ZBq
namespace Go.Proofs.YtlmfhopifggeaaaDoor
open Go.RowKit

theorem int_info : (Tryd.prog.info? 3).map (fun i => (i.zero, i.size, i.bytes)) = some (some (.int .i64 0), 1, 8) := by kernel_rfl

/-- Digits as cells. -/
def inC (l : List Nat) : List Value := l.map fun x : Nat => Value.int .i64 (x : Int)
theorem inC_snoc (l : List Nat) (x : Nat) : inC (l ++ [x]) = inC l ++ [.int .i64 (x : Int)] := by simp [inC]

theorem iseg_of_own {w : World} {base n : Nat} {v : Value} {l : List Nat} (h : w.ownsRow base 3 1 v n (inC l)) : ∃ (a : Option Addr) (c : Nat), v = .slice a n c ∧ n ≤ c ∧ c ≤ maxLen ∧ l.length = n ∧ ISeg w a l ∧ ∀ x, a = some x → base ≤ x.block := by
  have hl : l.length = n := by have := h.1; simpa [inC] using this
  rcases h.2 with ⟨rfl, rfl⟩ | ⟨g, cap, cur, rfl, hbs, hg, hnc, hcm, _, htk⟩
  · exact ⟨none, 0, rfl, Nat.le_refl _, Nat.zero_le _, hl, Or.inl ⟨rfl, List.eq_nil_of_length_eq_zero hl⟩, fun x hx => by cases hx⟩
  · refine ⟨some ⟨g, 0, none⟩, cap, rfl, hnc, hcm, hl, Or.inr ⟨g, 0, rfl, ⟨cur, (0, 0), hg⟩, fun t ht => ?_⟩, fun x hx => by cases hx; exact hbs⟩
    rw [cell_of_row w g (0 + t) cur _ (0, 0) hg, Nat.zero_add]
    have h1 : (inC l)[t]? = cur.toList[t]? := by
      rw [← htk, List.getElem?_take, if_pos (by omega)]
    rw [← Array.getElem?_toList, ← h1]
    simp only [inC, List.getElem?_map, List.getD_eq_getElem?_getD]
    rw [List.getElem?_eq_getElem ht]
    rfl

theorem new_int (w : World) (x : Int) (e : TypeId) : ∀ j u, ([Value.int .i64 x] : List Value)[j]? = some u → (w.alloc (.cells #[.int .i64 x] e)).cell? ((⟨w.heap.size, 0, none⟩ : Addr).add j) = some u := by
  intro j u hu
  cases j with
  | zero =>
    simp only [List.getElem?_cons_zero, Option.some.injEq] at hu
    rw [← hu]
    have hadd : (⟨w.heap.size, 0, none⟩ : Addr).add 0 = ⟨w.heap.size, 0, none⟩ := by unfold Addr.add; split <;> simp_all
    rw [hadd, World.cell?_alloc_new]
    rfl
  | succ k => simp at hu

theorem one_int (x : Int) : ∀ u ∈ ([Value.int .i64 x] : List Value), u.oneCell' = true := by
  intro u hu
  simp only [List.mem_singleton] at hu
  subst hu
  rfl

/-- What an append onto a row of the call's own leaves as it was. -/
theorem ext_grown {w a b : World} {row : Option Nat} (h : Ext w a) (hg : a.grownBy b row) (hr : ∀ k, row = some k → w.heap.size ≤ k) : Ext w b := Below.grown h hg h.size hr

theorem zval_step {l la lb : List Nat} {k c x y : Nat} (hl : l.length = k) (hx : zval (la.take (k + 1)) = zval (la.take k) + 10000 ^ k * x) (hy : zval (lb.take (k + 1)) = zval (lb.take k) + 10000 ^ k * y) (h : zval l + 10000 ^ k * c = zval (la.take k) + zval (lb.take k)) :
    zval (l ++ [(c + x + y) % 10000]) + 10000 ^ (k + 1) * ((c + x + y) / 10000) = zval (la.take (k + 1)) + zval (lb.take (k + 1)) := by
  rw [zval_snoc, hl, hx, hy, Nat.pow_succ]
  have e := Nat.div_add_mod (c + x + y) 10000
  have e2 : 10000 ^ k * ((c + x + y) % 10000) + 10000 ^ k * 10000 * ((c + x + y) / 10000) = 10000 ^ k * (c + x + y) := by
    rw [Nat.mul_assoc, ← Nat.mul_add]
    congr 1
    omega
  rw [Nat.mul_add, Nat.mul_add] at e2
  omega

theorem zval_take_in {l : List Nat} {k : Nat} (h : k < l.length) : zval (l.take (k + 1)) = zval (l.take k) + 10000 ^ k * l.getD k 0 := by
  have hl : (l.take k).length = k := by rw [List.length_take]; omega
  rw [take_zsucc l k h, zval_snoc, hl]
theorem zval_take_out {l : List Nat} {k : Nat} (h : ¬ k < l.length) : zval (l.take (k + 1)) = zval (l.take k) + 10000 ^ k * 0 := by
  rw [List.take_of_length_le (by omega), List.take_of_length_le (by omega), Nat.mul_zero, Nat.add_zero]

set_option maxHeartbeats 2000000 in
set_option maxRecDepth 100000 in
theorem dadd_any (a1 a2 : Option Addr) (la lb : List Nat) (n m c1 c2 : Nat) (w : World) (h1 : la.length = n) (h2 : lb.length = m) (s1 : ISeg w a1 la) (s2 : ISeg w a2 lb) (d1 : ZD la) (d2 : ZD lb) (hn : n ≤ 1000000) (hm : m ≤ 1000000) (base : Nat) (hbase : base ≤ w.heap.size) :
    Calls Tryd.prog 86 #[.slice a1 n c1, .slice a2 m c2] w fun e w' => ∃ (a' : Option Addr) (l' : List Nat) (n' c' : Nat), e = .returned (.slice a' n' c') ∧ l'.length = n' ∧ n' ≤ c' ∧ c' ≤ maxLen ∧ ISeg w' a' l' ∧ ZD l' ∧ Hid (zval l' = zval la + zval lb) ∧ n' ≤ max n m + 1 ∧ Ext w w' ∧ ∀ x, a' = some x → base ≤ x.block := by
  obtain ⟨i0, hi, hz0, hz1, hz2⟩ := info_parts int_info
  have Hbase := Lib.hid hbase; clear hbase; have H1 := Lib.hid h1; have H2 := Lib.hid h2; have S1 := Lib.hid s1; have S2 := Lib.hid s2; have D1 := Lib.hid d1; have D2 := Lib.hid d2
  have hA : n = 0 ∨ ∃ b o, a1 = some ⟨b, o, none⟩ := by
    by_cases h0 : n = 0
    · exact Or.inl h0
    · exact Or.inr (s1.some_of (by omega))
  have hB : m = 0 ∨ ∃ b o, a2 = some ⟨b, o, none⟩ := by
    by_cases h0 : m = 0
    · exact Or.inl h0
    · exact Or.inr (s2.some_of (by omega))
  clear h1 h2 s1 s2 d1 d2
  go_enter Tryd.func86, Tryd.ntmps86
  go_wp2_with fail
  go_loopw [5, 6, 7] (fun ov cv iv wr => ∃ (k c : Nat) (l : List Nat), iv = .int .i64 k ∧ cv = .int .i64 c ∧ c ≤ 1 ∧ k ≤ max n m + 1 ∧ (max n m < k → c = 0) ∧ l.length = k ∧ ZD l ∧ wr.ownsRow w.heap.size 3 1 ov k (inC l) ∧ zval l + 10000 ^ k * c = zval (la.take k) + zval (lb.take k) ∧ Ext w wr) (fun _ _ iv _ => max n m + 1 - (intOf iv).toNat)
  case atStart => exact ⟨0, 0, [], rfl, rfl, by omega, by omega, fun _ => rfl, rfl, ZD.nil, (show w.ownsRow w.heap.size 3 1 (.slice none 0 0) 0 (inC []) from World.ownsRow_nil _ _ _ _), by simp [zval], Ext.refl _⟩
  case round =>
    obtain ⟨k, c, l, rfl, rfl, hc1, hkm, hkc, hl, hd, hown, hval, hEr⟩ := hrel
    have Hl := Lib.hid hl; have Hd := Lib.hid hd; have Hval := Lib.hid hval; have Hkc := Lib.hid hkc; have Hown := Lib.hid hown
    clear hl hd hval hkc hown
    by_cases hgo : k < n ∨ k < m ∨ 0 < c
    · have hk2 : k ≤ max n m := by
        rcases hgo with h | h | h
        · omega
        · omega
        · apply Nat.le_of_not_lt; intro h3; have := Hkc.out h3; omega
      -- the digit of each, nought behind its end
      have hxe : ∃ x, x < 10000 ∧ zval (la.take (k + 1)) = zval (la.take k) + 10000 ^ k * x ∧ ((k < n ∧ ∃ b o, a1 = some ⟨b, o, none⟩ ∧ wr.cell? ⟨b, o + k, none⟩ = some (.int .i64 (x : Nat))) ∨ (¬ k < n ∧ x = 0)) := by
        by_cases h : k < n
        · rcases hA with h0 | ⟨b, o, rfl⟩
          · omega
          · exact ⟨la.getD k 0, D1.out.get k, zval_take_in (by rw [H1.out]; exact h), Or.inl ⟨h, b, o, rfl, (S1.out.ext hEr).at k (by rw [H1.out]; exact h)⟩⟩
        · exact ⟨0, by omega, zval_take_out (by rw [H1.out]; exact h), Or.inr ⟨h, rfl⟩⟩
      have hye : ∃ y, y < 10000 ∧ zval (lb.take (k + 1)) = zval (lb.take k) + 10000 ^ k * y ∧ ((k < m ∧ ∃ b o, a2 = some ⟨b, o, none⟩ ∧ wr.cell? ⟨b, o + k, none⟩ = some (.int .i64 (y : Nat))) ∨ (¬ k < m ∧ y = 0)) := by
        by_cases h : k < m
        · rcases hB with h0 | ⟨b, o, rfl⟩
          · omega
          · exact ⟨lb.getD k 0, D2.out.get k, zval_take_in (by rw [H2.out]; exact h), Or.inl ⟨h, b, o, rfl, (S2.out.ext hEr).at k (by rw [H2.out]; exact h)⟩⟩
        · exact ⟨0, by omega, zval_take_out (by rw [H2.out]; exact h), Or.inr ⟨h, rfl⟩⟩
      obtain ⟨x, hx, hxv, hxc⟩ := hxe
      obtain ⟨y, hy, hyv, hyc⟩ := hye
      have Hstep := Lib.hid (zval_step Hl.out hxv hyv Hval.out)
      obtain ⟨dg, hdg⟩ : ∃ dg, (c + x + y) % 10000 = dg := ⟨_, rfl⟩
      obtain ⟨c', hc'⟩ : ∃ c', (c + x + y) / 10000 = c' := ⟨_, rfl⟩
      rw [hdg, hc'] at Hstep
      have hdl : dg < 10000 := by omega
      have hcl : c' ≤ 1 := by omega
      have Hc0 : Hid (max n m < k + 1 → c' = 0) := by
        intro h3
        rcases hxc with ⟨h, _⟩ | ⟨_, rfl⟩
        · omega
        · rcases hyc with ⟨h, _⟩ | ⟨_, rfl⟩
          · omega
          · omega
      have rr : ((c : Int) + (x : Int) + (y : Int)).tmod 10000 = (dg : Int) := by rw [Int.tmod_eq_emod_of_nonneg (by omega)]; omega
      have qq : ((c : Int) + (x : Int) + (y : Int)).tdiv 10000 = (c' : Int) := by rw [Int.tdiv_eq_ediv_of_nonneg (by omega)]; omega
      clear hdg hc' hxv hyv
      rcases hxc with ⟨hkn, b, o, rfl, hcx⟩ | ⟨hkn, rfl⟩
      · have ikn : (k : Int) < (n : Int) := by omega
        rcases hyc with ⟨hkm2, b2, o2, rfl, hcy⟩ | ⟨hkm2, rfl⟩
        · have ikm : (k : Int) < (m : Int) := by omega
          clear hgo
          go_wp2_with (at_builtin; refine wpList_append_own _ rfl _ _ 36 rfl w.heap.size 3 i0 (.int .i64 0) 1 8 Tryd.underlying36 hi hz0 hz1 hz2 rfl (by decide) _ k (inC l) rfl (Hown.out.alloc _) ⟨wr.heap.size, 0, none⟩ 1 1 [.int .i64 (dg : Int)] rfl rfl (new_int wr _ _) (one_int _) (by unfold maxLen; omega) (by omega) (Nat.le_trans hEr.size (ext_alloc wr _).size) ?_; intro v' w' hown' hgrow' _)
          go_roundw
          case rel => exact ⟨k + 1, c', l ++ [dg], by go_num, rfl, hcl, by omega, Hc0.out, by rw [List.length_append, Hl.out]; rfl, Hd.out.snoc hdl, by rw [inC_snoc]; exact hown', Hstep.out, ext_grown (hEr.trans (ext_alloc wr _)) hgrow' (fun j hj => (Hown.out.lt j hj).1)⟩
          case measure => simp [intOf]; omega
        · have ikm : ¬ (k : Int) < (m : Int) := by omega
          have rr' : ((c : Int) + (x : Int)).tmod 10000 = (dg : Int) := by simpa using rr
          have qq' : ((c : Int) + (x : Int)).tdiv 10000 = (c' : Int) := by simpa using qq
          clear hgo rr qq
          go_wp2_with (at_builtin; refine wpList_append_own _ rfl _ _ 36 rfl w.heap.size 3 i0 (.int .i64 0) 1 8 Tryd.underlying36 hi hz0 hz1 hz2 rfl (by decide) _ k (inC l) rfl (Hown.out.alloc _) ⟨wr.heap.size, 0, none⟩ 1 1 [.int .i64 (dg : Int)] rfl rfl (new_int wr _ _) (one_int _) (by unfold maxLen; omega) (by omega) (Nat.le_trans hEr.size (ext_alloc wr _).size) ?_; intro v' w' hown' hgrow' _)
          go_roundw
          case rel => exact ⟨k + 1, c', l ++ [dg], by go_num, rfl, hcl, by omega, Hc0.out, by rw [List.length_append, Hl.out]; rfl, Hd.out.snoc hdl, by rw [inC_snoc]; exact hown', Hstep.out, ext_grown (hEr.trans (ext_alloc wr _)) hgrow' (fun j hj => (Hown.out.lt j hj).1)⟩
          case measure => simp [intOf]; omega
      · have ikn : ¬ (k : Int) < (n : Int) := by omega
        rcases hyc with ⟨hkm2, b2, o2, rfl, hcy⟩ | ⟨hkm2, rfl⟩
        · have ikm : (k : Int) < (m : Int) := by omega
          have rr' : ((c : Int) + (y : Int)).tmod 10000 = (dg : Int) := by simpa using rr
          have qq' : ((c : Int) + (y : Int)).tdiv 10000 = (c' : Int) := by simpa using qq
          clear hgo rr qq
          go_wp2_with (at_builtin; refine wpList_append_own _ rfl _ _ 36 rfl w.heap.size 3 i0 (.int .i64 0) 1 8 Tryd.underlying36 hi hz0 hz1 hz2 rfl (by decide) _ k (inC l) rfl (Hown.out.alloc _) ⟨wr.heap.size, 0, none⟩ 1 1 [.int .i64 (dg : Int)] rfl rfl (new_int wr _ _) (one_int _) (by unfold maxLen; omega) (by omega) (Nat.le_trans hEr.size (ext_alloc wr _).size) ?_; intro v' w' hown' hgrow' _)
          go_roundw
          case rel => exact ⟨k + 1, c', l ++ [dg], by go_num, rfl, hcl, by omega, Hc0.out, by rw [List.length_append, Hl.out]; rfl, Hd.out.snoc hdl, by rw [inC_snoc]; exact hown', Hstep.out, ext_grown (hEr.trans (ext_alloc wr _)) hgrow' (fun j hj => (Hown.out.lt j hj).1)⟩
          case measure => simp [intOf]; omega
        · have ikm : ¬ (k : Int) < (m : Int) := by omega
          have ic : (0 : Int) < (c : Int) := by omega
          have rr' : ((c : Int)).tmod 10000 = (dg : Int) := by simpa using rr
          have qq' : ((c : Int)).tdiv 10000 = (c' : Int) := by simpa using qq
          clear hgo rr qq
          go_wp2_with (at_builtin; refine wpList_append_own _ rfl _ _ 36 rfl w.heap.size 3 i0 (.int .i64 0) 1 8 Tryd.underlying36 hi hz0 hz1 hz2 rfl (by decide) _ k (inC l) rfl (Hown.out.alloc _) ⟨wr.heap.size, 0, none⟩ 1 1 [.int .i64 (dg : Int)] rfl rfl (new_int wr _ _) (one_int _) (by unfold maxLen; omega) (by omega) (Nat.le_trans hEr.size (ext_alloc wr _).size) ?_; intro v' w' hown' hgrow' _)
          go_roundw
          case rel => exact ⟨k + 1, c', l ++ [dg], by go_num, rfl, hcl, by omega, Hc0.out, by rw [List.length_append, Hl.out]; rfl, Hd.out.snoc hdl, by rw [inC_snoc]; exact hown', Hstep.out, ext_grown (hEr.trans (ext_alloc wr _)) hgrow' (fun j hj => (Hown.out.lt j hj).1)⟩
          case measure => simp [intOf]; omega
    · have hfin : zval l = zval la + zval lb := by
        have hc0 : c = 0 := by omega
        have hv := Hval.out
        rw [hc0, Nat.mul_zero, Nat.add_zero, List.take_of_length_le (by rw [H1.out]; omega), List.take_of_length_le (by rw [H2.out]; omega)] at hv
        exact hv
      have Hfin := Lib.hid hfin
      have g1 : ¬ (k : Int) < (n : Int) := by omega
      have g2 : ¬ (k : Int) < (m : Int) := by omega
      obtain rfl : c = 0 := by omega
      obtain ⟨a', c', rfl, q1, q2, q3, q4, q5⟩ := iseg_of_own Hown.out
      clear hgo hfin
      go_wp2_with fail
      go_ret
      exact ⟨a', l, k, c', rfl, q3, q1, q2, q4, Hd.out, Hfin.out, by omega, hEr, fun x hx => Nat.le_trans Hbase.out (q5 x hx)⟩

end Go.Proofs.YtlmfhopifggeaaaDoor
namespace Go.Proofs.YtlmfhopifggeaaaDoor
open Go.RowKit

theorem zsub_step {l la lb : List Nat} {k c c' x y dg : Nat} (hl : l.length = k) (hx : zval (la.take (k + 1)) = zval (la.take k) + 10000 ^ k * x) (hy : zval (lb.take (k + 1)) = zval (lb.take k) + 10000 ^ k * y) (h : zval l + zval (lb.take k) = zval (la.take k) + 10000 ^ k * c) (hd : dg + c + y = x + 10000 * c') :
    zval (l ++ [dg]) + zval (lb.take (k + 1)) = zval (la.take (k + 1)) + 10000 ^ (k + 1) * c' := by
  rw [zval_snoc, hl, hx, hy, Nat.pow_succ]
  have e2 : 10000 ^ k * (dg + c + y) = 10000 ^ k * (x + 10000 * c') := by rw [hd]
  rw [Nat.mul_add, Nat.mul_add, Nat.mul_add, ← Nat.mul_assoc] at e2
  omega

set_option maxHeartbeats 2000000 in
set_option maxRecDepth 100000 in
theorem dsub_any (a1 a2 : Option Addr) (la lb : List Nat) (n m c1 c2 : Nat) (w : World) (h1 : la.length = n) (h2 : lb.length = m) (s1 : ISeg w a1 la) (s2 : ISeg w a2 lb) (d1 : ZD la) (d2 : ZD lb) (hn : n ≤ 1000000) (hmn : m ≤ n) (hle : zval lb ≤ zval la) (base : Nat) (hbase : base ≤ w.heap.size) :
    Calls Tryd.prog 88 #[.slice a1 n c1, .slice a2 m c2] w fun e w' => ∃ (a' : Option Addr) (l' : List Nat) (n' c' : Nat), e = .returned (.slice a' n' c') ∧ l'.length = n' ∧ n' ≤ c' ∧ c' ≤ maxLen ∧ ISeg w' a' l' ∧ ZD l' ∧ Hid (zval l' + zval lb = zval la) ∧ n' ≤ n ∧ Ext w w' ∧ ∀ x, a' = some x → base ≤ x.block := by
  obtain ⟨i0, hi, hz0, hz1, hz2⟩ := info_parts int_info
  have Hbase := Lib.hid hbase; clear hbase; have H1 := Lib.hid h1; have H2 := Lib.hid h2; have S1 := Lib.hid s1; have S2 := Lib.hid s2; have D1 := Lib.hid d1; have D2 := Lib.hid d2; have Hle := Lib.hid hle
  have hA : n = 0 ∨ ∃ b o, a1 = some ⟨b, o, none⟩ := by
    by_cases h0 : n = 0
    · exact Or.inl h0
    · exact Or.inr (s1.some_of (by omega))
  have hB : m = 0 ∨ ∃ b o, a2 = some ⟨b, o, none⟩ := by
    by_cases h0 : m = 0
    · exact Or.inl h0
    · exact Or.inr (s2.some_of (by omega))
  clear h1 h2 s1 s2 d1 d2 hle
  go_enter Tryd.func88, Tryd.ntmps88
  go_wp2_with fail
  go_loopw [5, 6, 7] (fun ov cv iv wr => ∃ (k c : Nat) (l : List Nat), iv = .int .i64 k ∧ cv = .int .i64 c ∧ c ≤ 1 ∧ k ≤ n ∧ l.length = k ∧ ZD l ∧ wr.ownsRow w.heap.size 3 1 ov k (inC l) ∧ zval l + zval (lb.take k) = zval (la.take k) + 10000 ^ k * c ∧ Ext w wr) (fun _ _ iv _ => n - (intOf iv).toNat)
  case atStart => exact ⟨0, 0, [], rfl, rfl, by omega, by omega, rfl, ZD.nil, (show w.ownsRow w.heap.size 3 1 (.slice none 0 0) 0 (inC []) from World.ownsRow_nil _ _ _ _), by simp [zval], Ext.refl _⟩
  case round =>
    obtain ⟨k, c, l, rfl, rfl, hc1, hkn, hl, hd, hown, hval, hEr⟩ := hrel
    have Hl := Lib.hid hl; have Hd := Lib.hid hd; have Hval := Lib.hid hval; have Hown := Lib.hid hown
    clear hl hd hval hown
    by_cases hlt : k < n
    · rcases hA with h0 | ⟨b, o, rfl⟩
      · omega
      have hcx := (S1.out.ext hEr).at k (by rw [H1.out]; exact hlt)
      have hx := D1.out.get k
      have hxv := zval_take_in (l := la) (k := k) (by rw [H1.out]; exact hlt)
      obtain ⟨x, ex⟩ : ∃ x, la.getD k 0 = x := ⟨_, rfl⟩
      rw [ex] at hcx hx hxv
      have ikn : (k : Int) < (n : Int) := by omega
      have hye : ∃ y, y < 10000 ∧ zval (lb.take (k + 1)) = zval (lb.take k) + 10000 ^ k * y ∧ ((k < m ∧ ∃ b o, a2 = some ⟨b, o, none⟩ ∧ wr.cell? ⟨b, o + k, none⟩ = some (.int .i64 (y : Nat))) ∨ (¬ k < m ∧ y = 0)) := by
        by_cases h : k < m
        · rcases hB with h0 | ⟨b, o, rfl⟩
          · omega
          · exact ⟨lb.getD k 0, D2.out.get k, zval_take_in (by rw [H2.out]; exact h), Or.inl ⟨h, b, o, rfl, (S2.out.ext hEr).at k (by rw [H2.out]; exact h)⟩⟩
        · exact ⟨0, by omega, zval_take_out (by rw [H2.out]; exact h), Or.inr ⟨h, rfl⟩⟩
      obtain ⟨y, hy, hyv, hyc⟩ := hye
      clear ex
      by_cases hneg : x < c + y
      · obtain ⟨dg, hdg⟩ : ∃ dg, x + 10000 - (c + y) = dg := ⟨_, rfl⟩
        have hdl : dg < 10000 := by omega
        have Hstep := Lib.hid (zsub_step (c' := 1) (dg := dg) Hl.out hxv hyv Hval.out (by omega))
        have i1 : (x : Int) - (c : Int) - (y : Int) < 0 := by omega
        have i2 : (x : Int) - (c : Int) - (y : Int) + 10000 = (dg : Int) := by omega
        clear hdg hxv hyv
        rcases hyc with ⟨hkm2, b2, o2, rfl, hcy⟩ | ⟨hkm2, rfl⟩
        · have ikm : (k : Int) < (m : Int) := by omega
          clear hneg
          go_wp2_with (at_builtin; refine wpList_append_own _ rfl _ _ 36 rfl w.heap.size 3 i0 (.int .i64 0) 1 8 Tryd.underlying36 hi hz0 hz1 hz2 rfl (by decide) _ k (inC l) rfl (Hown.out.alloc _) ⟨wr.heap.size, 0, none⟩ 1 1 [.int .i64 (dg : Int)] rfl rfl (new_int wr _ _) (one_int _) (by unfold maxLen; omega) (by omega) (Nat.le_trans hEr.size (ext_alloc wr _).size) ?_; intro v' w' hown' hgrow' _)
          go_roundw
          case rel => exact ⟨k + 1, 1, l ++ [dg], by go_num, rfl, by omega, by omega, by rw [List.length_append, Hl.out]; rfl, Hd.out.snoc hdl, by rw [inC_snoc]; exact hown', Hstep.out, ext_grown (hEr.trans (ext_alloc wr _)) hgrow' (fun j hj => (Hown.out.lt j hj).1)⟩
          case measure => simp [intOf]; omega
        · have ikm : ¬ (k : Int) < (m : Int) := by omega
          have i1' : (x : Int) - (c : Int) < 0 := by omega
          have i2' : (x : Int) - (c : Int) + 10000 = (dg : Int) := by omega
          clear hneg i1 i2
          go_wp2_with (at_builtin; refine wpList_append_own _ rfl _ _ 36 rfl w.heap.size 3 i0 (.int .i64 0) 1 8 Tryd.underlying36 hi hz0 hz1 hz2 rfl (by decide) _ k (inC l) rfl (Hown.out.alloc _) ⟨wr.heap.size, 0, none⟩ 1 1 [.int .i64 (dg : Int)] rfl rfl (new_int wr _ _) (one_int _) (by unfold maxLen; omega) (by omega) (Nat.le_trans hEr.size (ext_alloc wr _).size) ?_; intro v' w' hown' hgrow' _)
          go_roundw
          case rel => exact ⟨k + 1, 1, l ++ [dg], by go_num, rfl, by omega, by omega, by rw [List.length_append, Hl.out]; rfl, Hd.out.snoc hdl, by rw [inC_snoc]; exact hown', Hstep.out, ext_grown (hEr.trans (ext_alloc wr _)) hgrow' (fun j hj => (Hown.out.lt j hj).1)⟩
          case measure => simp [intOf]; omega
      · obtain ⟨dg, hdg⟩ : ∃ dg, x - (c + y) = dg := ⟨_, rfl⟩
        have hdl : dg < 10000 := by omega
        have Hstep := Lib.hid (zsub_step (c' := 0) (dg := dg) Hl.out hxv hyv Hval.out (by omega))
        have i2 : (x : Int) - (c : Int) - (y : Int) = (dg : Int) := by omega
        clear hdg hxv hyv
        rcases hyc with ⟨hkm2, b2, o2, rfl, hcy⟩ | ⟨hkm2, rfl⟩
        · have ikm : (k : Int) < (m : Int) := by omega
          clear hneg
          go_wp2_with (at_builtin; refine wpList_append_own _ rfl _ _ 36 rfl w.heap.size 3 i0 (.int .i64 0) 1 8 Tryd.underlying36 hi hz0 hz1 hz2 rfl (by decide) _ k (inC l) rfl (Hown.out.alloc _) ⟨wr.heap.size, 0, none⟩ 1 1 [.int .i64 (dg : Int)] rfl rfl (new_int wr _ _) (one_int _) (by unfold maxLen; omega) (by omega) (Nat.le_trans hEr.size (ext_alloc wr _).size) ?_; intro v' w' hown' hgrow' _)
          go_roundw
          case rel => exact ⟨k + 1, 0, l ++ [dg], by go_num, rfl, by omega, by omega, by rw [List.length_append, Hl.out]; rfl, Hd.out.snoc hdl, by rw [inC_snoc]; exact hown', Hstep.out, ext_grown (hEr.trans (ext_alloc wr _)) hgrow' (fun j hj => (Hown.out.lt j hj).1)⟩
          case measure => simp [intOf]; omega
        · have ikm : ¬ (k : Int) < (m : Int) := by omega
          have i2' : (x : Int) - (c : Int) = (dg : Int) := by omega
          clear hneg i2
          go_wp2_with (at_builtin; refine wpList_append_own _ rfl _ _ 36 rfl w.heap.size 3 i0 (.int .i64 0) 1 8 Tryd.underlying36 hi hz0 hz1 hz2 rfl (by decide) _ k (inC l) rfl (Hown.out.alloc _) ⟨wr.heap.size, 0, none⟩ 1 1 [.int .i64 (dg : Int)] rfl rfl (new_int wr _ _) (one_int _) (by unfold maxLen; omega) (by omega) (Nat.le_trans hEr.size (ext_alloc wr _).size) ?_; intro v' w' hown' hgrow' _)
          go_roundw
          case rel => exact ⟨k + 1, 0, l ++ [dg], by go_num, rfl, by omega, by omega, by rw [List.length_append, Hl.out]; rfl, Hd.out.snoc hdl, by rw [inC_snoc]; exact hown', Hstep.out, ext_grown (hEr.trans (ext_alloc wr _)) hgrow' (fun j hj => (Hown.out.lt j hj).1)⟩
          case measure => simp [intOf]; omega
    · obtain rfl : k = n := by omega
      have hfin : zval l + zval lb = zval la := by
        have hv := Hval.out
        rw [List.take_of_length_le (l := lb) (by rw [H2.out]; exact hmn), List.take_of_length_le (l := la) (by rw [H1.out]; exact Nat.le_refl _)] at hv
        have hb := zval_lt Hd.out
        rw [Hl.out] at hb
        have := Hle.out
        have hc : c = 0 ∨ c = 1 := by omega
        rcases hc with rfl | rfl
        · simpa using hv
        · rw [Nat.mul_one] at hv; omega
      have Hfin := Lib.hid hfin
      have g1 : ¬ (k : Int) < (k : Int) := by omega
      obtain ⟨a', c', rfl, q1, q2, q3, q4, q5⟩ := iseg_of_own Hown.out
      clear hfin
      go_wp2_with fail
      go_ret
      exact ⟨a', l, k, c', rfl, q3, q1, q2, q4, Hd.out, Hfin.out, Nat.le_refl _, hEr, fun x hx => Nat.le_trans Hbase.out (q5 x hx)⟩

end Go.Proofs.YtlmfhopifggeaaaDoor
namespace Go.Proofs.YtlmfhopifggeaaaDoor
variable {Qc : Nat → Prop}
open Go.RowKit

theorem zKeep {W w' : World} (h : Ext W w') {b o : Nat} {v : Value} (hb : b < W.heap.size) (hc : W.cell? ⟨b, o, none⟩ = some v) : w'.cell? ⟨b, o, none⟩ = some v := (h.cell (p := ⟨b, o, none⟩) hb).trans hc
theorem zPut {w' : World} {g o' b o : Nat} {u v : Value} (hne : b ≠ g) (hc : w'.cell? ⟨b, o, none⟩ = some v) : (w'.setCell ⟨g, o', none⟩ u).cell? ⟨b, o, none⟩ = some v := by
  have hO : Only g w' (w'.setCell ⟨g, o', none⟩ u) := (Only.refl _ _).setCell _ _
  exact (World.cell?_of_block (a := ⟨b, o, none⟩) (hO.block _ hne)).trans hc
theorem zput2 {w W : World} {g : Nat} (h : Ext w W) (hg : w.heap.size ≤ g) (u v : Value) : Ext w ((W.setCell ⟨g, 0, none⟩ u).setCell ⟨g, 1, none⟩ v) := (Below.setCell h (p := ⟨g, 0, none⟩) hg u).setCell (p := ⟨g, 1, none⟩) hg v

/-- A variable that holds a number of the reference. -/
structure ZBx (W : World) (g : Nat) (b : Bool) (a : Option Addr) (n c : Nat) : Prop where
  row : W.heap[g]? = some (.cells #[.bool b, .slice a n c] 56 (0, 0))
theorem ZBx.lt {W : World} {g : Nat} {b : Bool} {a : Option Addr} {n c : Nat} (h : ZBx W g b a n c) : g < W.heap.size := (Array.getElem?_eq_some_iff.1 h.row).1
theorem ZBx.ext {W W' : World} {g : Nat} {b : Bool} {a : Option Addr} {n c : Nat} (h : ZBx W g b a n c) (k : Ext W W') : ZBx W' g b a n c := ⟨(k.block _ h.lt).trans h.row⟩
theorem ZBx.c0 {W : World} {g : Nat} {b : Bool} {a : Option Addr} {n c : Nat} (h : ZBx W g b a n c) : W.cell? ⟨g, 0, none⟩ = some (.bool b) := by rw [cell_of_row W g 0 _ _ (0, 0) h.row]; rfl
theorem ZBx.c1 {W : World} {g : Nat} {b : Bool} {a : Option Addr} {n c : Nat} (h : ZBx W g b a n c) : W.cell? ⟨g, 1, none⟩ = some (.slice a n c) := by rw [cell_of_row W g 1 _ _ (0, 0) h.row]; rfl
theorem zbx_new (w : World) (b : Bool) (a : Option Addr) (n c : Nat) : ZBx (w.alloc (.cells #[.bool b, .slice a n c] 56)) w.heap.size b a n c := ⟨heap_alloc_new w _⟩

set_option maxHeartbeats 1000000 in
set_option maxRecDepth 100000 in
theorem ZNeg_any (neg : Bool) (ao : Option Addr) (n c : Nat) (z : Int) (w : World) (h : IsZ Qc w neg ao n c z) (hn : n ≤ 1000000) :
    Calls Tryd.prog 79 #[.agg #[.bool neg, .slice ao n c]] w (ZRet Qc w (-z) n) := by
  obtain ⟨l, h1, h2, h3, h4, h5, h6, h7, h8⟩ := h
  have hE := (ext_alloc w (.cells #[.bool neg, .slice ao n c] 56)).trans (ext_alloc _ (.cells #[.bool false, .slice none 0 0] 56))
  have hR := zres_new (w.alloc (.cells #[.bool neg, .slice ao n c] 56))
  rw [show (w.alloc (.cells #[.bool neg, .slice ao n c] 56)).heap.size = w.heap.size + 1 from by simp] at hR
  have Hz : Hid (-z = if (!neg) = true then -(zval l : Int) else (zval l : Int)) := by
    show _ = _
    rw [h7]; cases neg <;> simp
  have Hm := Lib.hid (fun wx (hx : Ext w wx) => zmade_any (!neg) ao l n c wx h1 (h4.ext hx) h5 h2 h3 hn (-z) Hz.out (h8.2.neg.grow hx.size))
  clear h1 h2 h3 h4 h5 h6 h7 h8
  go_enter Tryd.func79, Tryd.ntmps79
  go_wp2_with fail
  refine (Hm.out _ hE).mono ?_
  rintro e w1 ⟨b', a', n', c', rfl, hI, hle, hx⟩
  have hR1 := hR.ext hx
  have k0 := hR1.c0; have k1 := hR1.c1; have f0 := hR1.f 0; have f1 := hR1.f 1
  go_wp2_with fail
  exact bodyPost_ret (v := .agg #[.bool b', .slice a' n' c']) (by simp [results, Tryd.results79, go_sem, k0, k1]) rfl ⟨b', a', n', c', rfl, hI.keepRes hR1.row _ _, hle, zput2 (hE.trans hx) (by omega) _ _⟩

set_option maxHeartbeats 2000000 in
set_option maxRecDepth 100000 in
theorem ZAdd_any (b1 b2 : Bool) (a1 a2 : Option Addr) (n1 c1 n2 c2 : Nat) (z1 z2 : Int) (w : World) (h1 : IsZ Qc w b1 a1 n1 c1 z1) (h2 : IsZ Qc w b2 a2 n2 c2 z2) (hn1 : n1 ≤ 500000) (hn2 : n2 ≤ 500000) :
    Calls Tryd.prog 77 #[.agg #[.bool b1, .slice a1 n1 c1], .agg #[.bool b2, .slice a2 n2 c2]] w (ZRet Qc w (z1 + z2) (max n1 n2 + 1)) := by
  have H1 := Lib.hid h1; have H2 := Lib.hid h2
  obtain ⟨la, p1, p2, p3, p4, p5, p6, p7, p8⟩ := h1
  obtain ⟨lb, q1, q2, q3, q4, q5, q6, q7, q8⟩ := h2
  have hE := ((ext_alloc w (.cells #[.bool b1, .slice a1 n1 c1] 56)).trans (ext_alloc _ (.cells #[.bool b2, .slice a2 n2 c2] 56))).trans (ext_alloc _ (.cells #[.bool false, .slice none 0 0] 56))
  have bA := ((zbx_new w b1 a1 n1 c1).ext (ext_alloc _ (.cells #[.bool b2, .slice a2 n2 c2] 56))).ext (ext_alloc _ (.cells #[.bool false, .slice none 0 0] 56))
  have bB := (zbx_new (w.alloc (.cells #[.bool b1, .slice a1 n1 c1] 56)) b2 a2 n2 c2).ext (ext_alloc _ (.cells #[.bool false, .slice none 0 0] 56))
  have hR := zres_new ((w.alloc (.cells #[.bool b1, .slice a1 n1 c1] 56)).alloc (.cells #[.bool b2, .slice a2 n2 c2] 56))
  rw [show (w.alloc (.cells #[.bool b1, .slice a1 n1 c1] 56)).heap.size = w.heap.size + 1 from by simp] at bB
  rw [show ((w.alloc (.cells #[.bool b1, .slice a1 n1 c1] 56)).alloc (.cells #[.bool b2, .slice a2 n2 c2] 56)).heap.size = w.heap.size + 1 + 1 from by simp] at hR
  have k0 := hR.c0; have k1 := hR.c1; have f0 := hR.f 0; have f1 := hR.f 1
  have x0 := bA.c0; have x1 := bA.c1; have y0 := bB.c0; have y1 := bB.c1
  by_cases h10 : n1 = 0
  · have hz : z1 = 0 := by
      have : la = [] := List.eq_nil_of_length_eq_zero (by omega)
      rw [p7, this]; simp [zval]
    subst h10
    rw [hz, Int.zero_add]
    clear p1 p2 p3 p4 p5 p6 p7 p8 q1 q2 q3 q4 q5 q6 q7 q8
    go_enter Tryd.func77, Tryd.ntmps77
    go_wp2_with fail
    exact bodyPost_ret (v := .agg #[.bool b2, .slice a2 n2 c2]) (by simp [results, Tryd.results77, go_sem]) rfl ⟨b2, a2, n2, c2, rfl, H2.out.ext (((ext_alloc _ _).trans (ext_alloc _ _)).trans (ext_alloc _ _)), by omega, ((ext_alloc _ _).trans (ext_alloc _ _)).trans (ext_alloc _ _)⟩
  · have g1 : ((n1 : Int) == 0) = false := by rw [beq_eq_false_iff_ne]; omega
    by_cases h20 : n2 = 0
    · have hz : z2 = 0 := by
        have : lb = [] := List.eq_nil_of_length_eq_zero (by omega)
        rw [q7, this]; simp [zval]
      subst h20
      rw [hz, Int.add_zero]
      clear p1 p2 p3 p4 p5 p6 p7 p8 q1 q2 q3 q4 q5 q6 q7 q8
      go_enter Tryd.func77, Tryd.ntmps77
      go_wp2_with fail
      exact bodyPost_ret (v := .agg #[.bool b1, .slice a1 n1 c1]) (by simp [results, Tryd.results77, go_sem]) rfl ⟨b1, a1, n1, c1, rfl, H1.out.ext (((ext_alloc _ _).trans (ext_alloc _ _)).trans (ext_alloc _ _)), by omega, ((ext_alloc _ _).trans (ext_alloc _ _)).trans (ext_alloc _ _)⟩
    · have g2 : ((n2 : Int) == 0) = false := by rw [beq_eq_false_iff_ne]; omega
      have P7 := Lib.hid p7; have Q7 := Lib.hid q7
      have HLm := Lib.hid (show LimQ Qc w from p8.2.lim (by
        have := zval_lt_len ZD.nil p6 (show [].length < la.length by rw [p1]; show 0 < n1; omega)
        have e : zval [] = 0 := rfl
        rw [e] at this
        rw [p7]; split <;> omega))
      have Hda := Lib.hid (fun wx (hx : Ext w wx) => dadd_any a1 a2 la lb n1 n2 c1 c2 wx p1 q1 (p4.ext hx) (q4.ext hx) p5 q5 (by omega) (by omega) w.heap.size hx.size)
      have Hdc := Lib.hid (fun wx (hx : Ext w wx) => dcmp_any a1 a2 la lb n1 n2 c1 c2 wx p1 q1 (p4.ext hx) (q4.ext hx) p5 q5 p6 q6 p2 q2 (by omega) (by omega))
      have Hs1 := Lib.hid (fun wx (hx : Ext w wx) (hv : zval lb ≤ zval la) => dsub_any a1 a2 la lb n1 n2 c1 c2 wx p1 q1 (p4.ext hx) (q4.ext hx) p5 q5 (by omega) (Nat.le_of_not_lt (fun hlt => by have := zval_lt_len p5 q6 (by omega); omega)) hv w.heap.size hx.size)
      have Hs2 := Lib.hid (fun wx (hx : Ext w wx) (hv : zval la ≤ zval lb) => dsub_any a2 a1 lb la n2 n1 c2 c1 wx q1 p1 (q4.ext hx) (p4.ext hx) q5 p5 (by omega) (Nat.le_of_not_lt (fun hlt => by have := zval_lt_len q5 p6 (by omega); omega)) hv w.heap.size hx.size)
      clear p1 p2 p3 p4 p5 p6 p7 p8 q1 q2 q3 q4 q5 q6 q7 q8 h10 h20 H1 H2 k0 k1 f0 f1
      by_cases hbb : b1 = b2
      · subst hbb
        have HV : Hid (∀ l5, zval l5 = zval la + zval lb → z1 + z2 = if b1 = true then -(zval l5 : Int) else (zval l5 : Int)) := by
          intro l5 h5
          rw [P7.out, Q7.out, h5]; cases b1 <;> simp <;> omega
        have hbt : (b1 == b1) = true := by simp
        go_enter Tryd.func77, Tryd.ntmps77
        go_wp2_with fail
        generalize ((w.alloc (.cells #[.bool b1, .slice a1 n1 c1] 56)).alloc (.cells #[.bool b1, .slice a2 n2 c2] 56)).alloc (.cells #[.bool false, .slice none 0 0] 56) = WB at *
        have hRB := hR
        have lR := hR.lt
        have hBd : Ext WB WB.drew := Below.drew (Ext.refl _)
        go_region_held3 (fun w' => w'.cell? ⟨w.heap.size, 0, none⟩ = some (.bool b1) ∧ w'.cell? ⟨w.heap.size, 1, none⟩ = some (.slice a1 n1 c1) ∧ w'.cell? ⟨w.heap.size + 1, 0, none⟩ = some (.bool b1) ∧ w'.cell? ⟨w.heap.size + 1, 1, none⟩ = some (.slice a2 n2 c2))
          (refine ⟨?_, ?_, ?_, ?_⟩ <;> (repeat (refine zPut (by omega) ?_)) <;> exact zKeep (W := WB) (by assumption) (by omega) (by assumption))
          (first | (go_at_call 86; refine (Hda.out _ (hE.trans (by assumption))).mono ?_; rintro e w5 ⟨a5, l5, n5, c5, rfl, hl5, hn5, hc5, hs5, hd5, Hv5, hm5, hx5, hf5⟩; have he5 : Ext WB w5 := Ext.trans (by assumption) hx5) | (go_at_call 75; refine (zmade_any b1 a5 l5 n5 c5 w5 hl5 hs5 hd5 hn5 hc5 (by omega) (z1 + z2) (HV.out l5 Hv5.out) (ClQ.made HLm.out (hE.trans he5).size hf5)).mono ?_; rintro e w9 ⟨b', a', n', c', rfl, hI, hle, hx9⟩; have he9 : Ext WB w9 := he5.trans hx9; have hR9 := hRB.ext he9; have k0 := hR9.c0; have k1 := hR9.c1; have f0 := hR9.f 0; have f1 := hR9.f 1))
        go_wp2_with fail
        exact bodyPost_ret (v := .agg #[.bool b', .slice a' n' c']) (by simp [results, Tryd.results77, go_sem, k0, k1]) rfl ⟨b', a', n', c', rfl, hI.keepRes hR9.row _ _, by omega, zput2 (hE.trans he9) (by omega) _ _⟩
      · have hbt : (b1 == b2) = false := by cases b1 <;> cases b2 <;> simp_all
        have Hbb := Lib.hid hbb
        obtain ⟨k, ek⟩ : ∃ k, zc (zval la) (zval lb) = k := ⟨_, rfl⟩
        rw [ek] at Hdc
        have Ek := Lib.hid ek
        clear ek hbb
        go_enter Tryd.func77, Tryd.ntmps77
        go_wp2_with fail
        generalize ((w.alloc (.cells #[.bool b1, .slice a1 n1 c1] 56)).alloc (.cells #[.bool b2, .slice a2 n2 c2] 56)).alloc (.cells #[.bool false, .slice none 0 0] 56) = WB at *
        refine (Hdc.out _ hE).mono ?_
        rintro e WC ⟨rfl, hxC⟩
        have HEC := Lib.hid (hE.trans hxC)
        have hRC := hR.ext hxC
        have lR := hRC.lt
        have z0 := zKeep hxC bA.lt x0; have z1' := zKeep hxC bA.lt x1; have z2' := zKeep hxC bB.lt y0; have z3 := zKeep hxC bB.lt y1
        have hCd : Ext WC WC.drew := Below.drew (Ext.refl _)
        clear x0 x1 y0 y1 bA bB hR hE hxC
        by_cases hge : zval lb ≤ zval la
        · have Hge := Lib.hid hge
          have ik : (0 : Int) ≤ k := by
            rw [← Ek.out]; unfold zc
            rw [if_neg (by omega)]
            split <;> decide
          have HV : Hid (∀ l5, zval l5 + zval lb = zval la → z1 + z2 = if b1 = true then -(zval l5 : Int) else (zval l5 : Int)) := by
            intro l5 h5
            have hb := Hbb.out
            rw [P7.out, Q7.out]
            cases b1 <;> cases b2 <;> simp_all <;> omega
          clear hge
          go_wp2_with fail
          go_region_held3 (fun w' => w'.cell? ⟨w.heap.size, 0, none⟩ = some (.bool b1) ∧ w'.cell? ⟨w.heap.size, 1, none⟩ = some (.slice a1 n1 c1) ∧ w'.cell? ⟨w.heap.size + 1, 0, none⟩ = some (.bool b2) ∧ w'.cell? ⟨w.heap.size + 1, 1, none⟩ = some (.slice a2 n2 c2))
            (refine ⟨?_, ?_, ?_, ?_⟩ <;> (repeat (refine zPut (by omega) ?_)) <;> exact zKeep (W := WC) (by assumption) (by omega) (by assumption))
            (first | (go_at_call 88; refine (Hs1.out _ (HEC.out.trans (by assumption)) Hge.out).mono ?_; rintro e w5 ⟨a5, l5, n5, c5, rfl, hl5, hn5, hc5, hs5, hd5, Hv5, hm5, hx5, hf5⟩; have he5 : Ext WC w5 := Ext.trans (by assumption) hx5) | (go_at_call 75; refine (zmade_any b1 a5 l5 n5 c5 w5 hl5 hs5 hd5 hn5 hc5 (by omega) (z1 + z2) (HV.out l5 Hv5.out) (ClQ.made HLm.out (HEC.out.trans he5).size hf5)).mono ?_; rintro e w9 ⟨b', a', n', c', rfl, hI, hle, hx9⟩; have he9 : Ext WC w9 := he5.trans hx9; have hR9 := hRC.ext he9; have k0 := hR9.c0; have k1 := hR9.c1; have f0 := hR9.f 0; have f1 := hR9.f 1))
          go_wp2_with fail
          exact bodyPost_ret (v := .agg #[.bool b', .slice a' n' c']) (by simp [results, Tryd.results77, go_sem, k0, k1]) rfl ⟨b', a', n', c', rfl, hI.keepRes hR9.row _ _, by omega, zput2 (HEC.out.trans he9) (by omega) _ _⟩
        · have Hge : Hid (zval la ≤ zval lb) := by show _ ≤ _; omega
          have ik : ¬ (0 : Int) ≤ k := by
            rw [← Ek.out]; unfold zc
            rw [if_pos (by omega)]; decide
          have HV : Hid (∀ l5, zval l5 + zval la = zval lb → z1 + z2 = if b2 = true then -(zval l5 : Int) else (zval l5 : Int)) := by
            intro l5 h5
            have hb := Hbb.out
            rw [P7.out, Q7.out]
            cases b1 <;> cases b2 <;> simp_all <;> omega
          clear hge
          go_wp2_with fail
          go_region_held3 (fun w' => w'.cell? ⟨w.heap.size, 0, none⟩ = some (.bool b1) ∧ w'.cell? ⟨w.heap.size, 1, none⟩ = some (.slice a1 n1 c1) ∧ w'.cell? ⟨w.heap.size + 1, 0, none⟩ = some (.bool b2) ∧ w'.cell? ⟨w.heap.size + 1, 1, none⟩ = some (.slice a2 n2 c2))
            (refine ⟨?_, ?_, ?_, ?_⟩ <;> (repeat (refine zPut (by omega) ?_)) <;> exact zKeep (W := WC) (by assumption) (by omega) (by assumption))
            (first | (go_at_call 88; refine (Hs2.out _ (HEC.out.trans (by assumption)) Hge.out).mono ?_; rintro e w5 ⟨a5, l5, n5, c5, rfl, hl5, hn5, hc5, hs5, hd5, Hv5, hm5, hx5, hf5⟩; have he5 : Ext WC w5 := Ext.trans (by assumption) hx5) | (go_at_call 75; refine (zmade_any b2 a5 l5 n5 c5 w5 hl5 hs5 hd5 hn5 hc5 (by omega) (z1 + z2) (HV.out l5 Hv5.out) (ClQ.made HLm.out (HEC.out.trans he5).size hf5)).mono ?_; rintro e w9 ⟨b', a', n', c', rfl, hI, hle, hx9⟩; have he9 : Ext WC w9 := he5.trans hx9; have hR9 := hRC.ext he9; have k0 := hR9.c0; have k1 := hR9.c1; have f0 := hR9.f 0; have f1 := hR9.f 1))
          go_wp2_with fail
          exact bodyPost_ret (v := .agg #[.bool b', .slice a' n' c']) (by simp [results, Tryd.results77, go_sem, k0, k1]) rfl ⟨b', a', n', c', rfl, hI.keepRes hR9.row _ _, by omega, zput2 (HEC.out.trans he9) (by omega) _ _⟩

end Go.Proofs.YtlmfhopifggeaaaDoor
namespace Go.Proofs.YtlmfhopifggeaaaDoor
open Go.RowKit

/-- Block b is a block of ints, L, that may be written. -/
def IRow (w : World) (b : Nat) (L : List Nat) : Prop :=
  ∃ e : { t : TypeId // t = 3 }, w.heap[b]? = some (.cells (L.map fun x => Value.int .i64 (x : Nat)).toArray e.1 (0, 0))

theorem IRow.lt {w : World} {b : Nat} {L : List Nat} (h : IRow w b L) : b < w.heap.size := by
  obtain ⟨e, h⟩ := h
  exact (Array.getElem?_eq_some_iff.1 h).1
theorem IRow.cell {w : World} {b : Nat} {L : List Nat} (h : IRow w b L) (j : Nat) (hj : j < L.length) : w.cell? ⟨b, j, none⟩ = some (.int .i64 (L.getD j 0 : Nat)) := by
  obtain ⟨e, h⟩ := h
  rw [cell_of_row w b j _ _ (0, 0) h]
  simp [hj, List.getD_eq_getElem?_getD]
theorem IRow.frozen {w : World} {b : Nat} {L : List Nat} (h : IRow w b L) (j : Nat) : w.frozen? ⟨b, j, none⟩ = false := by
  obtain ⟨e, h⟩ := h
  exact frozen_of_row w b j _ _ h
theorem IRow.set {w : World} {b : Nat} {L : List Nat} (h : IRow w b L) (j x : Nat) : IRow (w.setCell ⟨b, j, none⟩ (.int .i64 (x : Nat))) b (L.set j x) := by
  obtain ⟨e, h⟩ := h
  refine ⟨e, ?_⟩
  rw [heap_setCell_same w b j _ _ _ h]
  congr 2
  apply Array.toList_inj.1
  simp [List.map_set]
theorem IRow.ext {w w' : World} {b : Nat} {L : List Nat} (h : IRow w b L) (k : Ext w w') : IRow w' b L := by
  have hb := h.lt
  obtain ⟨e, h⟩ := h
  exact ⟨e, (k.block b hb).trans h⟩
theorem IRow.seg {w : World} {b : Nat} {L : List Nat} (h : IRow w b L) : ISeg w (some ⟨b, 0, none⟩) L :=
  Or.inr ⟨b, 0, rfl, by obtain ⟨⟨e, rfl⟩, hh⟩ := h; exact ⟨_, _, hh⟩, fun t ht => by rw [Nat.zero_add]; exact h.cell t ht⟩

theorem irow_of_made {w w' : World} {base n : Nat} (h : w'.ownsRow base 3 1 (.slice (some ⟨w.heap.size, 0, none⟩) n n) n (madeCells (Value.int .i64 0).cells (n * 1)).toList) :
    IRow w' w.heap.size (List.replicate n 0) := by
  obtain ⟨_, h | ⟨g, cap, cur, hv, _, hh, _, _, hsz, ht⟩⟩ := h
  · simp at h
  · simp only [Value.slice.injEq, Option.some.injEq, Addr.mk.injEq, and_true, true_and] at hv
    obtain ⟨hg, rfl⟩ := hv
    subst hg
    refine ⟨⟨3, rfl⟩, ?_⟩
    rw [hh]
    congr 2
    apply Array.toList_inj.1
    have e1 : cur.toList.take (n * 1) = cur.toList := List.take_of_length_le (by rw [Array.length_toList, hsz]; exact Nat.le_refl _)
    have e2 : (Value.int .i64 0).cells = #[Value.int .i64 0] := rfl
    rw [e1, e2, Nat.mul_one, toList_madeCells_one] at ht
    rw [ht]
    simp

/-- 'make([]int, n)'. -/
theorem wpList_make_irow (w : World) {ops : Array Oper} {rest : List Oper} {o : Oper} {a : Act} {Q : Exit → Act → World → Prop}
    (hg : o.guard = none) (l c : Operand) (hop : o.op = Op.makeSlice 36 l c) (kl kc : IntKind) (L C : Int) (n : Nat) (hl : a.eval l = .int kl L) (hc : a.eval c = .int kc C) (hL : L = (n : Int)) (hC : C = (n : Int)) (b2 : n ≤ 1099511627776)
    (hK : ∀ w', IRow w' w.heap.size (List.replicate n 0) → Ext w w' → w.heap.size < w'.heap.size → wpList Tryd.prog ops Q rest (a.put o.dst (.slice (some ⟨w.heap.size, 0, none⟩) n n)) w') :
    wpList Tryd.prog ops Q (o :: rest) a w := by
  obtain ⟨i0, hi, hz0, hz1, hz2⟩ := info_parts int_info
  refine wpList_make_full w hg l c 36 hop w.heap.size 3 i0 (.int .i64 0) 1 Tryd.underlying36 hi hz0 hz1 kl kc L C n hl hc hL hC (by rw [hz2]; omega) (by unfold maxLen; omega) (Nat.le_refl _) ?_
  intro w' hown hgrow
  have hr := irow_of_made hown
  exact hK w' hr ((Below.refl _ _).grown hgrow (Nat.le_refl _) (fun k h => by cases h)) hr.lt

theorem ZD.replicate (n : Nat) : ZD (List.replicate n 0) := fun x hx => by rw [List.eq_of_mem_replicate hx]; decide
theorem ZD.set {l : List Nat} (h : ZD l) (k x : Nat) (hx : x < 10000) : ZD (l.set k x) := fun y hy => by
  rcases List.mem_or_eq_of_mem_set hy with h1 | h1
  · exact h y h1
  · rw [h1]; exact hx
theorem zval_replicate (n : Nat) : zval (List.replicate n 0) = 0 := by
  induction n with
  | zero => rfl
  | succ n ih => rw [List.replicate_succ, zval, ih]

theorem zval_set (l : List Nat) : ∀ (k x : Nat), k < l.length → zval (l.set k x) + 10000 ^ k * l.getD k 0 = zval l + 10000 ^ k * x := by
  induction l with
  | nil => intro k x h; simp at h
  | cons y r ih =>
    intro k x h
    cases k with
    | zero => simp [zval]; omega
    | succ k =>
      have h1 := ih k x (by simpa using h)
      simp only [List.set_cons_succ, zval, List.getD_cons_succ]
      rw [Nat.pow_succ]
      have e1 : 10000 ^ k * 10000 * r.getD k 0 = 10000 * (10000 ^ k * r.getD k 0) := by rw [Nat.mul_comm (10000 ^ k) 10000, Nat.mul_assoc]
      have e2 : 10000 ^ k * 10000 * x = 10000 * (10000 ^ k * x) := by rw [Nat.mul_comm (10000 ^ k) 10000, Nat.mul_assoc]
      rw [e1, e2]
      omega

/-- One digit more of a product's row: t is what comes to its place. -/
theorem zmul_put {M : List Nat} {k c y p t d c' : Nat} (hk : k < M.length) (hy : M.getD k 0 = y) (ht : t = c + y + p) (hd : t % 10000 = d) (hc : t / 10000 = c') :
    zval (M.set k d) + 10000 ^ (k + 1) * c' = zval M + 10000 ^ k * (c + p) := by
  have h1 := zval_set M k d hk
  rw [hy] at h1
  have h2 : 10000 ^ k * t = 10000 ^ k * d + 10000 ^ (k + 1) * c' := by
    rw [Nat.pow_succ, Nat.mul_assoc, ← Nat.mul_add]
    congr 1
    omega
  rw [ht, Nat.mul_add, Nat.mul_add] at h2
  rw [Nat.mul_add]
  omega

/-- A row of the product, digit by digit. -/
theorem zmul_step {M lb : List Nat} {i j c y x b t d c' V : Nat} (hk : i + j < M.length) (hy : M.getD (i + j) 0 = y) (hb : zval (lb.take (j + 1)) = zval (lb.take j) + 10000 ^ j * b) (ht : t = c + y + x * b) (hd : t % 10000 = d) (hc : t / 10000 = c')
    (h : zval M + 10000 ^ (i + j) * c = V + 10000 ^ i * (x * zval (lb.take j))) :
    zval (M.set (i + j) d) + 10000 ^ (i + (j + 1)) * c' = V + 10000 ^ i * (x * zval (lb.take (j + 1))) := by
  have h1 := zmul_put hk hy ht hd hc
  rw [hb]
  have e1 : 10000 ^ i * (x * (zval (lb.take j) + 10000 ^ j * b)) = 10000 ^ i * (x * zval (lb.take j)) + 10000 ^ (i + j) * (x * b) := by
    rw [Nat.mul_add, Nat.mul_add, Nat.pow_add]
    congr 1
    rw [Nat.mul_assoc]
    congr 1
    rw [Nat.mul_left_comm]
  rw [e1, show i + (j + 1) = i + j + 1 by omega, h1, Nat.mul_add]
  omega

/-- Where something is still carried, the place is one of the row's. -/
theorem zmul_room {M la lb : List Nat} {i j c x : Nat} (hi : i < la.length) (ha : ZD la) (hb : ZD lb) (hx : la.getD i 0 = x) (hc : 0 < c)
    (h : zval M + 10000 ^ (i + j) * c = zval (la.take i) * zval lb + 10000 ^ i * (x * zval (lb.take j))) (hj : lb.length ≤ j) : j = lb.length := by
  rw [List.take_of_length_le hj] at h
  have h1 := zval_lt (ha.take (i + 1))
  have hl : (la.take (i + 1)).length = i + 1 := by rw [List.length_take]; omega
  rw [hl] at h1
  have h2 := zval_lt hb
  have e : zval (la.take (i + 1)) * zval lb = zval (la.take i) * zval lb + 10000 ^ i * (x * zval lb) := by
    rw [zval_take_in hi, hx, Nat.add_mul, Nat.mul_assoc]
  rw [← e] at h
  have h3 : zval (la.take (i + 1)) * zval lb < 10000 ^ (i + 1) * 10000 ^ lb.length := by
    have hp : 0 < 10000 ^ lb.length := Nat.pow_pos (by decide)
    have q1 : zval (la.take (i + 1)) * zval lb ≤ zval (la.take (i + 1)) * 10000 ^ lb.length := Nat.mul_le_mul_left _ (by omega)
    have q2 : zval (la.take (i + 1)) * 10000 ^ lb.length < 10000 ^ (i + 1) * 10000 ^ lb.length := Nat.mul_lt_mul_of_pos_right h1 hp
    omega
  rw [← Nat.pow_add] at h3
  have h4 : 10000 ^ (i + j) ≤ 10000 ^ (i + j) * c := Nat.le_mul_of_pos_right _ hc
  have h5 : 10000 ^ (i + j) < 10000 ^ (i + 1 + lb.length) := by omega
  have h6 := (Nat.pow_lt_pow_iff_right (a := 10000) (by decide)).1 h5
  omega

theorem zmul_row {M la lb : List Nat} {i j x : Nat} (hi : i < la.length) (hx : la.getD i 0 = x) (hj : lb.length ≤ j)
    (h : zval M + 10000 ^ (i + j) * 0 = zval (la.take i) * zval lb + 10000 ^ i * (x * zval (lb.take j))) : zval M = zval (la.take (i + 1)) * zval lb := by
  rw [List.take_of_length_le hj, Nat.mul_zero, Nat.add_zero] at h
  rw [h, zval_take_in hi, hx, Nat.add_mul, Nat.mul_assoc]

theorem zmul_carry {c y x b : Nat} (hc : c ≤ 9999) (hy : y < 10000) (hx : x < 10000) (hb : b < 10000) : (c + y + x * b) / 10000 ≤ 9999 ∧ x * b ≤ 99980001 := by
  have : x * b ≤ 9999 * 9999 := Nat.mul_le_mul (by omega) (by omega)
  omega

end Go.Proofs.YtlmfhopifggeaaaDoor
namespace Go.Proofs.YtlmfhopifggeaaaDoor
variable {Qc : Nat → Prop}
open Go.RowKit

set_option maxHeartbeats 2000000 in
set_option maxRecDepth 100000 in
theorem ZMul_any (b1 b2 : Bool) (a1 a2 : Option Addr) (n1 c1 n2 c2 : Nat) (z1 z2 : Int) (w : World) (h1 : IsZ Qc w b1 a1 n1 c1 z1) (h2 : IsZ Qc w b2 a2 n2 c2 z2) (hn1 : n1 ≤ 400000) (hn2 : n2 ≤ 400000) :
    Calls Tryd.prog 85 #[.agg #[.bool b1, .slice a1 n1 c1], .agg #[.bool b2, .slice a2 n2 c2]] w (ZRet Qc w (z1 * z2) (n1 + n2 + 1)) := by
  obtain ⟨la, p1, p2, p3, p4, p5, p6, p7, p8⟩ := h1
  obtain ⟨lb, q1, q2, q3, q4, q5, q6, q7, q8⟩ := h2
  have hE := ((ext_alloc w (.cells #[.bool b1, .slice a1 n1 c1] 56)).trans (ext_alloc _ (.cells #[.bool b2, .slice a2 n2 c2] 56))).trans (ext_alloc _ (.cells #[.bool false, .slice none 0 0] 56))
  have bA := ((zbx_new w b1 a1 n1 c1).ext (ext_alloc _ (.cells #[.bool b2, .slice a2 n2 c2] 56))).ext (ext_alloc _ (.cells #[.bool false, .slice none 0 0] 56))
  have bB := (zbx_new (w.alloc (.cells #[.bool b1, .slice a1 n1 c1] 56)) b2 a2 n2 c2).ext (ext_alloc _ (.cells #[.bool false, .slice none 0 0] 56))
  have hR := zres_new ((w.alloc (.cells #[.bool b1, .slice a1 n1 c1] 56)).alloc (.cells #[.bool b2, .slice a2 n2 c2] 56))
  rw [show (w.alloc (.cells #[.bool b1, .slice a1 n1 c1] 56)).heap.size = w.heap.size + 1 from by simp] at bB
  rw [show ((w.alloc (.cells #[.bool b1, .slice a1 n1 c1] 56)).alloc (.cells #[.bool b2, .slice a2 n2 c2] 56)).heap.size = w.heap.size + 1 + 1 from by simp] at hR
  have HV : Hid (∀ M : List Nat, zval M = zval la * zval lb → z1 * z2 = if (!(b1 == b2)) = true then -(zval M : Int) else (zval M : Int)) := by
    intro M hM
    rw [p7, q7, hM]
    cases b1 <;> cases b2 <;> simp [Int.neg_mul, Int.mul_neg]
  have hA : n1 = 0 ∨ ∃ b o, a1 = some ⟨b, o, none⟩ := by
    by_cases h0 : n1 = 0
    · exact Or.inl h0
    · exact Or.inr (p4.some_of (by omega))
  have hB : n2 = 0 ∨ ∃ b o, a2 = some ⟨b, o, none⟩ := by
    by_cases h0 : n2 = 0
    · exact Or.inl h0
    · exact Or.inr (q4.some_of (by omega))
  have P1 := Lib.hid p1; have P4 := Lib.hid p4; have P5 := Lib.hid p5
  have Q1 := Lib.hid q1; have Q4 := Lib.hid q4; have Q5 := Lib.hid q5
  have x0 := bA.c0; have x1 := bA.c1; have y0 := bB.c0; have y1 := bB.c1
  obtain ⟨bb, ebb⟩ : ∃ bb, (!(b1 == b2)) = bb := ⟨_, rfl⟩
  rw [ebb] at HV
  have HCm := Lib.hid (show z1 * z2 = 0 ∨ LimQ Qc w from p8.2.imp (fun h => by rw [h, Int.zero_mul]) And.left)
  clear p1 p2 p3 p4 p5 p6 p7 p8 q1 q2 q3 q4 q5 q6 q7 q8
  go_enter Tryd.func85, Tryd.ntmps85
  go_wp2_with (at_make; refine wpList_make_irow _ rfl _ _ rfl _ _ _ _ (n1 + n2 + 1) rfl rfl (by omega) (by omega) (by omega) ?_; intro w1 hr1 he1 hz1)
  have hWB : (((w.alloc (.cells #[.bool b1, .slice a1 n1 c1] 56)).alloc (.cells #[.bool b2, .slice a2 n2 c2] 56)).alloc (.cells #[.bool false, .slice none 0 0] 56)).heap.size = w.heap.size + 1 + 1 + 1 := by simp
  generalize ((w.alloc (.cells #[.bool b1, .slice a1 n1 c1] 56)).alloc (.cells #[.bool b2, .slice a2 n2 c2] 56)).alloc (.cells #[.bool false, .slice none 0 0] 56) = WB at *
  rw [hWB] at hr1
  have HWB := Lib.hid hWB
  clear hWB
  have lB : w.heap.size + 1 + 1 < WB.heap.size := hR.lt
  go_loopw [6] (fun iv wr => ∃ (i : Nat) (L : List Nat), iv = .int .i64 i ∧ i ≤ n1 ∧ L.length = n1 + n2 + 1 ∧ ZD L ∧ IRow wr (w.heap.size + 1 + 1 + 1) L ∧ zval L = zval (la.take i) * zval lb ∧ Ext WB wr) (fun iv _ => n1 - (intOf iv).toNat)
  case atStart => exact ⟨0, List.replicate (n1 + n2 + 1) 0, rfl, Nat.zero_le _, by simp, ZD.replicate _, hr1, by rw [zval_replicate]; simp [zval], he1⟩
  case round =>
    clear hr1 he1 hz1
    obtain ⟨i, L, rfl, hi, hL, hd, hr, hval, hEr⟩ := hrel
    have HL := Lib.hid hL; have Hd := Lib.hid hd; have Hr := Lib.hid hr; have Hval := Lib.hid hval; have HEr := Lib.hid hEr
    have d0 := zKeep hEr bA.lt x0; have d1 := zKeep hEr bA.lt x1; have d2 := zKeep hEr bB.lt y0; have d3 := zKeep hEr bB.lt y1
    clear hL hd hr hval hEr
    by_cases hlt : i < n1
    · have ii : (i : Int) < (n1 : Int) := by omega
      rcases hA with h0 | ⟨b, o, rfl⟩
      · omega
      obtain ⟨x, hx⟩ : ∃ x, la.getD i 0 = x := ⟨_, rfl⟩
      have hx4 : x < 10000 := by rw [← hx]; exact P5.out.get i
      have Hx := Lib.hid hx
      clear hx
      go_wp2_with fail
      go_loopw [7, 8] (fun cv jv wx => ∃ (j c : Nat) (M : List Nat), jv = .int .i64 j ∧ cv = .int .i64 c ∧ c ≤ 9999 ∧ j ≤ n2 + 1 ∧ M.length = n1 + n2 + 1 ∧ ZD M ∧ IRow wx (w.heap.size + 1 + 1 + 1) M ∧ zval M + 10000 ^ (i + j) * c = zval (la.take i) * zval lb + 10000 ^ i * (x * zval (lb.take j)) ∧ Ext WB wx) (fun _ jv _ => n2 + 1 - (intOf jv).toNat)
      case atStart => exact ⟨0, 0, L, rfl, rfl, by omega, by omega, HL.out, Hd.out, Hr.out, by rw [Hval.out]; simp [zval], HEr.out⟩
      case round =>
        clear d0 d1 d2 d3 Hr Hval HEr HL Hd
        obtain ⟨j, c, M, rfl, rfl, hc9, hjm, hM, hdM, hrM, hinv, hEx⟩ := hrel
        have HM := Lib.hid hM; have HdM := Lib.hid hdM; have HrM := Lib.hid hrM; have Hinv := Lib.hid hinv
        have d0 := zKeep hEx bA.lt x0; have d1 := zKeep hEx bA.lt x1; have d2 := zKeep hEx bB.lt y0; have d3 := zKeep hEx bB.lt y1
        have HEx := Lib.hid hEx
        clear hM hdM hrM hinv hEx
        by_cases hgo : j < n2 ∨ 0 < c
        · have hj2 : j ≤ n2 := by
            by_cases h : j < n2
            · omega
            · have h3 : 0 < c := by omega
              have := zmul_room (by rw [P1.out]; exact hlt) P5.out Q5.out Hx.out h3 Hinv.out (by rw [Q1.out]; omega)
              rw [Q1.out] at this
              omega
          have hcM := HrM.out.cell (i + j) (by rw [HM.out]; omega)
          have hfz := HrM.out.frozen (i + j)
          obtain ⟨y, hy⟩ : ∃ y, M.getD (i + j) 0 = y := ⟨_, rfl⟩
          have hy4 : y < 10000 := by rw [← hy]; exact HdM.out.get _
          rw [hy] at hcM
          have Hy := Lib.hid hy
          have ij : (i : Int) + (j : Int) < (n1 : Int) + (n2 : Int) + 1 := by omega
          clear hy
          by_cases hjn : j < n2
          · rcases hB with h0 | ⟨b', o', rfl⟩
            · omega
            have ij2 : (j : Int) < (n2 : Int) := by omega
            have hcx := (P4.out.ext (hE.trans HEx.out)).at i (by rw [P1.out]; exact hlt)
            have hcy := (Q4.out.ext (hE.trans HEx.out)).at j (by rw [Q1.out]; exact hjn)
            rw [Hx.out] at hcx
            obtain ⟨d, hdd⟩ : ∃ d, lb.getD j 0 = d := ⟨_, rfl⟩
            have hd4 : d < 10000 := by rw [← hdd]; exact Q5.out.get j
            rw [hdd] at hcy
            have Hb := Lib.hid (zval_take_in (l := lb) (k := j) (by rw [Q1.out]; exact hjn))
            rw [hdd] at Hb
            obtain ⟨hca, hpb⟩ := zmul_carry hc9 hy4 hx4 hd4
            obtain ⟨p, hp⟩ : ∃ p, x * d = p := ⟨_, rfl⟩
            obtain ⟨dg, hdg⟩ : ∃ dg, (c + y + x * d) % 10000 = dg := ⟨_, rfl⟩
            obtain ⟨c', hc'⟩ : ∃ c', (c + y + x * d) / 10000 = c' := ⟨_, rfl⟩
            have Hstep := Lib.hid (zmul_step (t := c + y + x * d) (by rw [HM.out]; omega) Hy.out Hb.out rfl hdg hc' Hinv.out)
            rw [hp] at hdg hc' hca hpb
            rw [hc'] at hca
            have ip : (x : Int) * (d : Int) = (p : Int) := by rw [← hp]; exact (Int.natCast_mul x d).symm
            have hdl : dg < 10000 := by omega
            have rr : ((c : Int) + (y : Int) + (p : Int)).tmod 10000 = (dg : Int) := by rw [Int.tmod_eq_emod_of_nonneg (by omega)]; omega
            have qq : ((c : Int) + (y : Int) + (p : Int)).tdiv 10000 = (c' : Int) := by rw [Int.tdiv_eq_ediv_of_nonneg (by omega)]; omega
            clear hdg hc' hp hdd hgo
            go_wp2_with fail
            go_quiet (fail)
            go_wp2_with fail
            go_roundw
            case rel => exact ⟨j + 1, c', M.set (i + j) dg, by go_num, rfl, hca, by omega, by rw [List.length_set]; exact HM.out, HdM.out.set _ _ hdl, (HrM.out.ext (zext_drewN (Ext.refl _) _)).set _ _, Hstep.out, Below.setCell (zext_drewN HEx.out _) (by rw [HWB.out]; exact Nat.le_refl _) _⟩
            case measure => simp [intOf]; omega
          · have ij2 : ¬ (j : Int) < (n2 : Int) := by omega
            have ic : (0 : Int) < (c : Int) := by omega
            obtain rfl : j = n2 := by omega
            obtain ⟨dg, hdg⟩ : ∃ dg, (c + y + x * 0) % 10000 = dg := ⟨_, rfl⟩
            obtain ⟨c', hc'⟩ : ∃ c', (c + y + x * 0) / 10000 = c' := ⟨_, rfl⟩
            have Hstep := Lib.hid (zmul_step (t := c + y + x * 0) (by rw [HM.out]; omega) Hy.out (zval_take_out (l := lb) (k := j) (by rw [Q1.out]; omega)) rfl hdg hc' Hinv.out)
            rw [Nat.mul_zero, Nat.add_zero] at hdg hc'
            have hdl : dg < 10000 := by omega
            have hca : c' ≤ 9999 := by omega
            have rr : ((c : Int) + (y : Int)).tmod 10000 = (dg : Int) := by rw [Int.tmod_eq_emod_of_nonneg (by omega)]; omega
            have qq : ((c : Int) + (y : Int)).tdiv 10000 = (c' : Int) := by rw [Int.tdiv_eq_ediv_of_nonneg (by omega)]; omega
            clear hdg hc' hgo
            go_wp2_with fail
            go_roundw
            case rel => exact ⟨j + 1, c', M.set (i + j) dg, by go_num, rfl, hca, by omega, by rw [List.length_set]; exact HM.out, HdM.out.set _ _ hdl, HrM.out.set _ _, Hstep.out, Below.setCell HEx.out (by rw [HWB.out]; exact Nat.le_refl _) _⟩
            case measure => simp [intOf]
        · obtain rfl : c = 0 := by omega
          have ij2 : ¬ (j : Int) < (n2 : Int) := by omega
          have Hrow := Lib.hid (zmul_row (by rw [P1.out]; exact hlt) Hx.out (by rw [Q1.out]; omega) Hinv.out)
          clear hgo
          go_wp2_with fail
          go_roundw
          case rel => exact ⟨i + 1, M, by go_num, by omega, HM.out, HdM.out, HrM.out, Hrow.out, HEx.out⟩
          case measure => simp [intOf]; omega
    · obtain rfl : i = n1 := by omega
      have ii : ¬ (i : Int) < (i : Int) := by omega
      have Hm := Lib.hid (zmade_any bb (some ⟨w.heap.size + 1 + 1 + 1, 0, none⟩) L (i + n2 + 1) (i + n2 + 1) wr HL.out Hr.out.seg Hd.out (Nat.le_refl _) (by unfold maxLen; omega) (by omega) (z1 * z2) (HV.out L (by rw [Hval.out, List.take_of_length_le (by rw [P1.out]; exact Nat.le_refl _)])) (HCm.out.imp id fun h => ⟨h.grow (hE.trans HEr.out).size, fun x hx => by cases hx; exact h _ (by show w.heap.size ≤ w.heap.size + 1 + 1 + 1; omega)⟩))
      clear hlt
      go_wp2_with fail
      refine Hm.out.mono ?_
      rintro e w9 ⟨b', a', n', c', rfl, hI, hle, hx9⟩
      have hR9 := hR.ext (HEr.out.trans hx9)
      have k0 := hR9.c0; have k1 := hR9.c1; have f0 := hR9.f 0; have f1 := hR9.f 1
      go_wp2_with fail
      exact bodyPost_ret (v := .agg #[.bool b', .slice a' n' c']) (by simp [results, Tryd.results85, go_sem, k0, k1]) rfl ⟨b', a', n', c', rfl, hI.keepRes hR9.row _ _, by omega, zput2 (hE.trans (HEr.out.trans hx9)) (by omega) _ _⟩

end Go.Proofs.YtlmfhopifggeaaaDoor
namespace Go.Proofs.YtlmfhopifggeaaaDoor
variable {Qc : Nat → Prop}
open Go.RowKit

theorem zof_few {k u v : Nat} (hu : 0 < u) (h : 10000 ^ k * u ≤ v) (hv : v ≤ 9223372036854775808) : k < 5 := by
  apply Nat.lt_of_not_le
  intro hk
  have h1 : (10000 : Nat) ^ 5 ≤ 10000 ^ k := Nat.pow_le_pow_right (by decide) hk
  have h2 : 10000 ^ k ≤ 10000 ^ k * u := Nat.le_mul_of_pos_right _ hu
  omega

theorem zof_step {l : List Nat} {k u v d q : Nat} (hl : l.length = k) (h : zval l + 10000 ^ k * u = v) (hd : u % 10000 = d) (hq : u / 10000 = q) : zval (l ++ [d]) + 10000 ^ (k + 1) * q = v := by
  rw [zval_snoc, hl, Nat.pow_succ, Nat.mul_assoc, Nat.add_assoc, ← Nat.mul_add]
  rw [← h]
  congr 2
  omega

set_option maxHeartbeats 2000000 in
set_option maxRecDepth 100000 in
theorem ZOf_any (n : Int) (h1 : -9223372036854775808 ≤ n) (h2 : n ≤ 9223372036854775807) (w : World) (hL : LimQ Qc w) :
    Calls Tryd.prog 57 #[.int .i64 n] w (ZRet Qc w n 5) := by
  obtain ⟨i0, hi, hz0, hz1, hz2⟩ := info_parts int_info
  have HLm := Lib.hid hL
  clear hL
  have hE := ext_alloc w (.cells #[.bool false, .slice none 0 0] 56)
  have hR := zres_new w
  obtain ⟨v, hv⟩ : ∃ v, n.natAbs = v := ⟨_, rfl⟩
  have hvb : v ≤ 9223372036854775808 := by omega
  by_cases hneg : n < 0
  · obtain ⟨X, hX⟩ : ∃ X : Nat, IntKind.u64.wrap n = (X : Int) := ⟨(IntKind.u64.wrap n).toNat, by rw [IntKind.wrap_u64]; omega⟩
    have hX2 : IntKind.u64.wrap (-(X : Int)) = (v : Int) := by rw [IntKind.wrap_u64] at hX ⊢; omega
    have Hz : Hid (n = if true = true then -(v : Int) else (v : Int)) := by show _ = _; simp; omega
    have Hvb := Lib.hid hvb
    clear hv hvb
    go_enter Tryd.func57, Tryd.ntmps57
    go_wp2_with fail
    generalize w.alloc (.cells #[.bool false, .slice none 0 0] 56) = W0 at *
    clear hX hX2
    go_loopw [3, 4] (fun uv dv wr => ∃ (k u : Nat) (l : List Nat), uv = .int .u64 u ∧ l.length = k ∧ k ≤ 5 ∧ ZD l ∧ wr.ownsRow W0.heap.size 3 1 dv k (inC l) ∧ zval l + 10000 ^ k * u = v ∧ Ext W0 wr) (fun uv _ _ => (intOf uv).toNat)
    case atStart => exact ⟨0, v, [], by go_num, rfl, by omega, ZD.nil, (show W0.ownsRow W0.heap.size 3 1 (.slice none 0 0) 0 (inC []) from World.ownsRow_nil _ _ _ _), by simp [zval], Ext.refl _⟩
    case round =>
      obtain ⟨k, u, l, rfl, hl, hk, hd, hown, hval, hEr⟩ := hrel
      have Hl := Lib.hid hl; have Hd := Lib.hid hd; have Hval := Lib.hid hval; have Hown := Lib.hid hown
      by_cases hu : 0 < u
      · have hk5 : k < 5 := zof_few hu (by omega) Hvb.out
        have iu : (0 : Int) < (u : Int) := by omega
        obtain ⟨dg, hdg⟩ : ∃ dg, u % 10000 = dg := ⟨_, rfl⟩
        obtain ⟨q, hq⟩ : ∃ q, u / 10000 = q := ⟨_, rfl⟩
        have Hst := Lib.hid (zof_step hl hval hdg hq)
        have hdl : dg < 10000 := by omega
        have hqu : q < u := by omega
        have hub : u ≤ 9223372036854775808 := by
          have h0 := Hvb.out
          have h1 : 1 ≤ 10000 ^ k := Nat.one_le_pow _ _ (by decide)
          have h2 : 1 * u ≤ 10000 ^ k * u := Nat.mul_le_mul_right _ h1
          omega
        have r1 : (u : Int).tmod 10000 = (dg : Int) := by rw [Int.tmod_eq_emod_of_nonneg (by omega)]; omega
        have r2 : (u : Int) % 10000 = (dg : Int) := by omega
        have r3 : (u : Int).tdiv 10000 = (q : Int) := by rw [Int.tdiv_eq_ediv_of_nonneg (by omega)]; omega
        have r4 : (u : Int) / 10000 = (q : Int) := by omega
        clear hdg hq hl hd hown hval
        go_wp2_with (at_builtin; refine wpList_append_own _ rfl _ _ 36 rfl W0.heap.size 3 i0 (.int .i64 0) 1 8 Tryd.underlying36 hi hz0 hz1 hz2 rfl (by decide) _ k (inC l) rfl (Hown.out.alloc _) ⟨wr.heap.size, 0, none⟩ 1 1 [.int .i64 (dg : Int)] rfl rfl (new_int wr _ _) (one_int _) (by unfold maxLen; omega) (by omega) (Nat.le_trans hEr.size (ext_alloc wr _).size) ?_; intro v' w' hown' hgrow' _)
        go_roundw
        case rel => exact ⟨k + 1, q, l ++ [dg], by go_num, by rw [List.length_append, Hl.out]; rfl, by omega, Hd.out.snoc hdl, by rw [inC_snoc]; exact hown', Hst.out, ext_grown (hEr.trans (ext_alloc wr _)) hgrow' (fun j hj => (Hown.out.lt j hj).1)⟩
        case measure => simp [intOf]; omega
      · obtain rfl : u = 0 := by omega
        have hzl : zval l = v := by have := Hval.out; omega
        obtain ⟨a9, c9, rfl, q1, q2, q3, q4, q5⟩ := iseg_of_own Hown.out
        have Hm := Lib.hid (zmade_any true a9 l k c9 wr q3 q4 Hd.out q1 q2 (by omega) n (by rw [hzl]; exact Hz.out) (ClQ.made (HLm.out.grow hE.size) hEr.size q5))
        clear hl hd hown hval hzl
        go_wp2_with fail
        refine Hm.out.mono ?_
        rintro e w9 ⟨b', a', n', c', rfl, hI, hle, hx9⟩
        have hR9 := hR.ext (hEr.trans hx9)
        have k0 := hR9.c0; have k1 := hR9.c1; have f0 := hR9.f 0; have f1 := hR9.f 1
        go_wp2_with fail
        exact bodyPost_ret (v := .agg #[.bool b', .slice a' n' c']) (by simp [results, Tryd.results57, go_sem, k0, k1]) rfl ⟨b', a', n', c', rfl, hI.keepRes hR9.row _ _, by omega, zput2 (hE.trans (hEr.trans hx9)) (Nat.le_refl _) _ _⟩
  · have hX : IntKind.u64.wrap n = (v : Int) := by rw [IntKind.wrap_u64]; omega
    have hnd : decide (n < 0) = false := by rw [decide_eq_false_iff_not]; exact hneg
    have Hz : Hid (n = if false = true then -(v : Int) else (v : Int)) := by show _ = _; simp; omega
    have Hvb := Lib.hid hvb
    clear hv hvb
    go_enter Tryd.func57, Tryd.ntmps57
    go_wp2_with fail
    generalize w.alloc (.cells #[.bool false, .slice none 0 0] 56) = W0 at *
    clear hX
    go_loopw [3, 4] (fun uv dv wr => ∃ (k u : Nat) (l : List Nat), uv = .int .u64 u ∧ l.length = k ∧ k ≤ 5 ∧ ZD l ∧ wr.ownsRow W0.heap.size 3 1 dv k (inC l) ∧ zval l + 10000 ^ k * u = v ∧ Ext W0 wr) (fun uv _ _ => (intOf uv).toNat)
    case atStart => exact ⟨0, v, [], by go_num, rfl, by omega, ZD.nil, (show W0.ownsRow W0.heap.size 3 1 (.slice none 0 0) 0 (inC []) from World.ownsRow_nil _ _ _ _), by simp [zval], Ext.refl _⟩
    case round =>
      obtain ⟨k, u, l, rfl, hl, hk, hd, hown, hval, hEr⟩ := hrel
      have Hl := Lib.hid hl; have Hd := Lib.hid hd; have Hval := Lib.hid hval; have Hown := Lib.hid hown
      by_cases hu : 0 < u
      · have hk5 : k < 5 := zof_few hu (by omega) Hvb.out
        have iu : (0 : Int) < (u : Int) := by omega
        obtain ⟨dg, hdg⟩ : ∃ dg, u % 10000 = dg := ⟨_, rfl⟩
        obtain ⟨q, hq⟩ : ∃ q, u / 10000 = q := ⟨_, rfl⟩
        have Hst := Lib.hid (zof_step hl hval hdg hq)
        have hdl : dg < 10000 := by omega
        have hqu : q < u := by omega
        have hub : u ≤ 9223372036854775808 := by
          have h0 := Hvb.out
          have h1 : 1 ≤ 10000 ^ k := Nat.one_le_pow _ _ (by decide)
          have h2 : 1 * u ≤ 10000 ^ k * u := Nat.mul_le_mul_right _ h1
          omega
        have r1 : (u : Int).tmod 10000 = (dg : Int) := by rw [Int.tmod_eq_emod_of_nonneg (by omega)]; omega
        have r2 : (u : Int) % 10000 = (dg : Int) := by omega
        have r3 : (u : Int).tdiv 10000 = (q : Int) := by rw [Int.tdiv_eq_ediv_of_nonneg (by omega)]; omega
        have r4 : (u : Int) / 10000 = (q : Int) := by omega
        clear hdg hq hl hd hown hval
        go_wp2_with (at_builtin; refine wpList_append_own _ rfl _ _ 36 rfl W0.heap.size 3 i0 (.int .i64 0) 1 8 Tryd.underlying36 hi hz0 hz1 hz2 rfl (by decide) _ k (inC l) rfl (Hown.out.alloc _) ⟨wr.heap.size, 0, none⟩ 1 1 [.int .i64 (dg : Int)] rfl rfl (new_int wr _ _) (one_int _) (by unfold maxLen; omega) (by omega) (Nat.le_trans hEr.size (ext_alloc wr _).size) ?_; intro v' w' hown' hgrow' _)
        go_roundw
        case rel => exact ⟨k + 1, q, l ++ [dg], by go_num, by rw [List.length_append, Hl.out]; rfl, by omega, Hd.out.snoc hdl, by rw [inC_snoc]; exact hown', Hst.out, ext_grown (hEr.trans (ext_alloc wr _)) hgrow' (fun j hj => (Hown.out.lt j hj).1)⟩
        case measure => simp [intOf]; omega
      · obtain rfl : u = 0 := by omega
        have hzl : zval l = v := by have := Hval.out; omega
        obtain ⟨a9, c9, rfl, q1, q2, q3, q4, q5⟩ := iseg_of_own Hown.out
        have Hm := Lib.hid (zmade_any false a9 l k c9 wr q3 q4 Hd.out q1 q2 (by omega) n (by rw [hzl]; exact Hz.out) (ClQ.made (HLm.out.grow hE.size) hEr.size q5))
        clear hl hd hown hval hzl
        go_wp2_with fail
        refine Hm.out.mono ?_
        rintro e w9 ⟨b', a', n', c', rfl, hI, hle, hx9⟩
        have hR9 := hR.ext (hEr.trans hx9)
        have k0 := hR9.c0; have k1 := hR9.c1; have f0 := hR9.f 0; have f1 := hR9.f 1
        go_wp2_with fail
        exact bodyPost_ret (v := .agg #[.bool b', .slice a' n' c']) (by simp [results, Tryd.results57, go_sem, k0, k1]) rfl ⟨b', a', n', c', rfl, hI.keepRes hR9.row _ _, by omega, zput2 (hE.trans (hEr.trans hx9)) (Nat.le_refl _) _ _⟩

end Go.Proofs.YtlmfhopifggeaaaDoor
namespace Go.Proofs.YtlmfhopifggeaaaDoor
open Go.RowKit

/-- Four digits. -/
theorem padD_four (x : Nat) (h : x < 10000) : padD 4 x = [UInt8.ofNat (48 + x / 1000), UInt8.ofNat (48 + x / 100 % 10), UInt8.ofNat (48 + x / 10 % 10), UInt8.ofNat (48 + x % 10)] := by
  have e : x / 1000 % 10 = x / 1000 := by omega
  unfold padD Lib.dg
  simp [List.range_succ, e]

/-- A digit more behind the digits of a number. -/
theorem dec_step (x v : Nat) (hx : x < 10000) (hv : 0 < v) : Lib.decDigits (x + 10000 * v) = Lib.decDigits v ++ padD 4 x := by
  have e1 : (x + 10000 * v) / 10 ^ 4 = v := by omega
  have e2 : (x + 10000 * v) % 10 ^ 4 = x := by omega
  have h := decDigits_append 4 (x + 10000 * v) (by rw [e1]; exact hv)
  rw [e1, e2] at h
  exact h

/-- The first digit is written without noughts ahead. -/
theorem dec_first (x : Nat) (hx : x < 10000) (h0 : 0 < x) : ∃ f, f ≤ 3 ∧ (∀ t, t < f → (padD 4 x).getD t 0 = 48) ∧ (padD 4 x).getD f 0 ≠ 48 ∧ Lib.decDigits x = (padD 4 x).drop f := by
  have hnd : Lib.nDigits x ≤ 4 := nDigits_le 4 x (by omega) (by omega)
  have hnp := Lib.nDigits_pos x
  have hp := padD_fill 4 x hnd
  have hl : (List.replicate (4 - Lib.nDigits x) (48 : UInt8)).length = 4 - Lib.nDigits x := by simp
  refine ⟨4 - Lib.nDigits x, by omega, fun t ht => ?_, ?_, ?_⟩
  · rw [hp, List.getD_eq_getElem?_getD, List.getElem?_append_left (by rw [hl]; exact ht), List.getElem?_replicate, if_pos ht]
    rfl
  · rw [hp, List.getD_eq_getElem?_getD, List.getElem?_append_right (by rw [hl]; exact Nat.le_refl _), hl, Nat.sub_self]
    obtain ⟨d, r, e, _, h2⟩ := decN_head x
    intro hc
    unfold decN at e
    cases hd : Lib.decDigits x with
    | nil => rw [hd] at e; simp at e
    | cons y ys =>
      rw [hd] at e hc
      simp only [List.map_cons, List.cons.injEq] at e
      simp at hc
      rw [hc] at e
      have := h2 (by rw [← e.1]; rfl)
      omega
  · rw [hp, List.drop_append_of_le_length (by rw [hl]; exact Nat.le_refl _), List.drop_of_length_le (by rw [hl]; exact Nat.le_refl _), List.nil_append]

/-- What is written of the digits from k on. -/
def ztx (l : List Nat) (k : Nat) : List UInt8 := if k = l.length then [] else Lib.decDigits (zval (l.drop k))
theorem ztx_end (l : List Nat) : ztx l l.length = [] := by unfold ztx; rw [if_pos rfl]
theorem zval_drop (l : List Nat) (k : Nat) (h : k < l.length) : zval (l.drop k) = l.getD k 0 + 10000 * zval (l.drop (k + 1)) := by
  rw [List.drop_eq_getElem_cons h, zval, List.getD_eq_getElem?_getD, List.getElem?_eq_getElem h]; rfl
theorem ZN.drop {l : List Nat} (h : ZN l) (k : Nat) : ZN (l.drop k) := by
  by_cases hk : k < l.length
  · right
    have hl : l ≠ [] := by intro e; subst e; simp at hk
    have := h.resolve_left hl
    rw [List.length_drop, List.getD_eq_getElem?_getD, List.getElem?_drop, show k + (l.length - k - 1) = l.length - 1 by omega, ← List.getD_eq_getElem?_getD]
    exact this
  · left; exact List.drop_of_length_le (by omega)
theorem ztx_first {l : List Nat} {j x : Nat} (hl : l.length = j + 1) (hx : l.getD j 0 = x) : ztx l j = Lib.decDigits x := by
  unfold ztx
  rw [if_neg (by omega), zval_drop l j (by omega), hx, List.drop_of_length_le (by omega)]
  simp [zval]
theorem ztx_next {l : List Nat} {j x : Nat} (hn : ZN l) (hj : j + 1 < l.length) (hx : l.getD j 0 = x) (hx4 : x < 10000) : ztx l j = ztx l (j + 1) ++ padD 4 x := by
  have hp : 0 < zval (l.drop (j + 1)) := by
    apply Nat.pos_of_ne_zero
    intro e
    have := (zval_zero (hn.drop (j + 1))).1 e
    have := congrArg List.length this
    rw [List.length_drop] at this
    simp at this
    omega
  unfold ztx
  rw [if_neg (by omega), if_neg (by omega), zval_drop l j (by omega), hx, dec_step x _ hx4 hp]
theorem ztx_all {l : List Nat} (h : l ≠ []) : ztx l 0 = Lib.decDigits (zval l) := by
  unfold ztx
  rw [if_neg (by intro e; exact h (List.eq_nil_of_length_eq_zero e.symm)), List.drop_zero]


end Go.Proofs.YtlmfhopifggeaaaDoor
