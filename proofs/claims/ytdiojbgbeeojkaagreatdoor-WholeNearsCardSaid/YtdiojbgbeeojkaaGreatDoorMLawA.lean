/-
  What the laws' walks share: bounds, calls whose answers are named, the document's example.
-/
import Derived.Test.YtdiojbgbeeojkaaGreatDoorMFraA
import Derived.Test.YtdiojbgbeeojkaaGreatDoorMTxT

namespace Go.Proofs.YtdiojbgbeeojkaaGreatDoor
open Go.RowKit

theorem lim_two : Lim ≤ 2 ^ (4 * limN) := by
  unfold Lim
  rw [Nat.pow_mul]
  exact Nat.pow_le_pow_left (by decide) _

/-- As many words as the laws' numbers have at most. -/
def kN : Nat := 128
theorem pow_room (n m x : Nat) (hx : x ≤ 2 ^ (4 * n)) (h : 2 + (4 * n + 4 * n) < 64 * m) : 4 * (x * x) < B64 ^ m := by
  have h1 : x * x ≤ 2 ^ (4 * n) * 2 ^ (4 * n) := Nat.mul_le_mul hx hx
  have h2 : 4 * (x * x) ≤ 2 ^ 2 * (2 ^ (4 * n) * 2 ^ (4 * n)) := Nat.mul_le_mul (by decide) h1
  refine Nat.lt_of_le_of_lt h2 ?_
  rw [B64_two, ← Nat.pow_add, ← Nat.pow_add, ← Nat.pow_mul]
  exact Nat.pow_lt_pow_right (by decide) h

/-- There is a bound on all numbers that a law reckons. -/
theorem lim_room : ∃ K Q : Nat, K ≤ 4194304 ∧ 1 ≤ K ∧ Lim ≤ Q ∧ K ≤ 100000 ∧ (∀ a b : Int, a.natAbs ≤ Lim → b.natAbs ≤ Lim → (a * b).natAbs ≤ Q) ∧ ∀ z : Int, z.natAbs ≤ 4 * Q → Fit K z := by
  refine ⟨kN, Lim * Lim, by decide, by decide, Nat.le_mul_of_pos_right _ lim_pos, by decide, ?_, ?_⟩
  · intro a b ha hb
    rw [Int.natAbs_mul]
    exact Nat.mul_le_mul ha hb
  · intro z hz
    unfold Fit
    exact Nat.lt_of_le_of_lt hz (pow_room limN kN Lim lim_two (by decide))

theorem cmp3_refl (a : Int) : cmp3 a a = 0 := by unfold cmp3; rw [if_neg (by omega), if_neg (by omega)]
theorem cmp3_of_eq {a b : Int} (h : a = b) : cmp3 a b = 0 := by rw [h]; exact cmp3_refl b
theorem cmp3_sub (a b : Int) : cmp3 (a - b) 0 = cmp3 a b := by
  unfold cmp3
  split <;> split <;> (try split) <;> (try split) <;> omega
theorem cmp3_swap (a b : Int) : cmp3 b a = -(cmp3 a b) := by
  unfold cmp3
  split <;> split <;> (try split) <;> (try split) <;> omega
theorem cmp3_range (a b : Int) : -1 ≤ cmp3 a b ∧ cmp3 a b ≤ 1 := by
  unfold cmp3
  split
  · omega
  · split <;> omega

/-- The answers, named. -/
theorem Sign_is {w : World} {s : Int} {a : Option Addr} {n c : Nat} {z k : Int} (h : IsInt w s a n c z) (hk : cmp3 z 0 = k) (wx : World) : Calls Tryz.prog 41 #[.agg #[.int .i64 s, .slice a n c]] wx fun e w' => e = .returned (.int .i64 k) ∧ Ext wx w' := by
  rw [← hk, ← h.cmp3]
  exact Sign_any s _ wx

theorem Cmp_is {w : World} {s1 s2 : Int} {a1 a2 : Option Addr} {n1 c1 n2 c2 : Nat} {z1 z2 : Int} (k : Int) (h1 : IsInt w s1 a1 n1 c1 z1) (h2 : IsInt w s2 a2 n2 c2 z2) (K : Nat) (hK : K ≤ 4194304) (hf1 : Fit K z1) (hf2 : Fit K z2) (hk : cmp3 z1 z2 = k) :
    Calls Tryz.prog 34 #[.agg #[.int .i64 s1, .slice a1 n1 c1], .agg #[.int .i64 s2, .slice a2 n2 c2]] w fun e w' => e = .returned (.int .i64 k) ∧ Ext w w' := by
  rw [← hk]
  exact Cmp_any s1 s2 a1 a2 n1 c1 n2 c2 z1 z2 w h1 h2 K hK hf1 hf2

theorem begun_text : Lib.itoa (-70001) = [45, 55, 48, 48, 48, 49] := by
  unfold Lib.itoa
  rw [if_pos (by decide), show (-70001 : Int).natAbs = 70001 from rfl, Lib.decDigits_eq]
  have h : Lib.nDigits 70001 = 5 := Lib.nDigits_unique 4 70001 (by decide) (by decide)
  rw [h]
  decide

set_option maxHeartbeats 1000000 in
set_option maxRecDepth 100000 in
theorem wholeBegun_any (w : World) (htab : Ten w) : Calls Tryz.prog 7 #[] w fun e w' => e = .returned (.bool true) ∧ Ext w w' := by
  have Htab := hid htab
  clear htab
  go_enter Tryz.func7, Tryz.ntmps7
  go_wp2_with fail
  refine (Of_any (-70001) (by omega) (by omega) w).mono ?_
  rintro e w1 ⟨rfl, hI, hx1⟩
  go_wp2_with fail
  refine (Text_any _ _ _ _ _ w1 hI (by omega) (tab_ext Htab.out hx1)).mono ?_
  rintro e w2 ⟨rfl, hx2⟩
  rw [begun_text]
  go_wp2_with fail
  go_ret
  exact ⟨rfl, hx1.trans hx2⟩

/-- A number and a fault that a law has put into variables of its own. -/
theorem box2_new (w : World) (s : Int) (a : Option Addr) (n c : Nat) (u v : Value) : Box ((w.alloc (.cells #[.int .i64 s, .slice a n c] 24)).alloc (.cells #[u, v] 28)) w.heap.size s a n c := (box_new w s a n c).ext (Ext.alloc _ _)
theorem ext2_new (w : World) (o p : Obj) : Ext w ((w.alloc o).alloc p) := (Ext.alloc _ _).then _

/-- What is written is read again. -/
theorem Parse_txt (x : Int) (hx : x.natAbs < Lim) (w : World) : Calls Tryz.prog 23 #[.string ⟨(Lib.itoa x).toArray⟩] w fun e w' => ∃ (sm : Int) (a' : Option Addr) (n' c' : Nat), e = .returned (.tuple #[.agg #[.int .i64 sm, .slice a' n' c'], .agg #[.int .i64 0, .int .i64 0]]) ∧ IsInt w' sm a' n' c' x ∧ Ext w w' := by
  have hb : bs ⟨(Lib.itoa x).toArray⟩ = txt x := bs_mk _
  have hs := txt_short x hx
  have hg := sgl_le (txt x)
  have hsz : (⟨(Lib.itoa x).toArray⟩ : ByteArray).size ≤ 9223372036854775807 := by
    rw [← bs_length, hb]; omega
  have hpat : pat (txt x) = 0 := by
    unfold pat
    have h1 := txt_scan x
    rw [if_pos ⟨by rw [h1], by rw [h1]; simp⟩]
  have h := Parse_any ⟨(Lib.itoa x).toArray⟩ w hsz
  rw [hb, pz_txt x hx, pcode_txt x hx, hpat] at h
  exact h

theorem Gcd_all (s1 s2 : Int) (a1 a2 : Option Addr) (n1 c1 n2 c2 : Nat) (z1 z2 : Int) (w : World) (h1 : IsInt w s1 a1 n1 c1 z1) (h2 : IsInt w s2 a2 n2 c2 z2) (K : Nat) (hK : K ≤ 4194304) (hK1 : 1 ≤ K) (hf1 : Fit K z1) (hf2 : Fit K z2) (hbr : Bru w) :
    Calls Tryz.prog 33 #[.agg #[.int .i64 s1, .slice a1 n1 c1], .agg #[.int .i64 s2, .slice a2 n2 c2]] w fun e w' => ∃ (s' : Int) (a' : Option Addr) (n' c' : Nat), e = .returned (.agg #[.int .i64 s', .slice a' n' c']) ∧ IsInt w' s' a' n' c' (Nat.gcd z1.natAbs z2.natAbs : Nat) ∧ Ext w w' := by
  by_cases h : z1 = 0 ∨ z2 = 0
  · exact Gcd_zero s1 s2 a1 a2 n1 c1 n2 c2 z1 z2 w h1 h2 K hK hf1 hf2 h
  · exact Gcd_any s1 s2 a1 a2 n1 c1 n2 c2 z1 z2 w h1 h2 K hK hK1 hf1 hf2 (fun k => h (Or.inl k)) (fun k => h (Or.inr k)) hbr

/-- What Parts tells of what Over gives. -/
theorem low_facts {x y p q : Int} (hy : y ≠ 0) (h0 : x = 0 → p = 0 ∧ q = 0) (h1 : x ≠ 0 → IsLow x y p q) :
    0 < (if p = 0 then 1 else q) ∧ Nat.gcd p.natAbs (if p = 0 then 1 else q).natAbs = 1 ∧ p * y = (if p = 0 then 1 else q) * x ∧ p.natAbs ≤ x.natAbs ∧ (if p = 0 then 1 else q).natAbs ≤ y.natAbs := by
  by_cases hx : x = 0
  · obtain ⟨rfl, _⟩ := h0 hx
    subst hx
    simp
    omega
  · obtain ⟨g1, g2, g3, g4, g5, g6⟩ := h1 hx
    rw [if_neg g6]
    exact ⟨g1, g2, g3, g4, g5⟩

/-- A variable that holds a fault. -/
structure FBx (W : World) (g : Nat) (u v : Int) : Prop where
  row : W.heap[g]? = some (.cells #[.int .i64 u, .int .i64 v] 28 (0, 0))
theorem FBx.lt {W : World} {g : Nat} {u v : Int} (h : FBx W g u v) : g < W.heap.size := (Array.getElem?_eq_some_iff.1 h.row).1
theorem FBx.ext {W W' : World} {g : Nat} {u v : Int} (h : FBx W g u v) (k : Ext W W') : FBx W' g u v := ⟨(k.block _ h.lt).trans h.row⟩
theorem FBx.c0 {W : World} {g : Nat} {u v : Int} (h : FBx W g u v) : W.cell? ⟨g, 0, none⟩ = some (.int .i64 u) := by rw [cell_of_row W g 0 _ _ (0, 0) h.row]; rfl
theorem FBx.c1 {W : World} {g : Nat} {u v : Int} (h : FBx W g u v) : W.cell? ⟨g, 1, none⟩ = some (.int .i64 v) := by rw [cell_of_row W g 1 _ _ (0, 0) h.row]; rfl
theorem FBx.f0 {W : World} {g : Nat} {u v : Int} (h : FBx W g u v) (o : Nat) : W.frozen? ⟨g, o, none⟩ = false := frozen_of_row W g o _ _ h.row
theorem FBx.own {W : World} {g : Nat} {u v : Int} (h : FBx W g u v) (u' v' : Int) : FBx ((W.setCell ⟨g, 0, none⟩ (.int .i64 u')).setCell ⟨g, 1, none⟩ (.int .i64 v')) g u' v' := by
  have h1 := heap_setCell_same W g 0 _ _ (.int .i64 u') h.row
  have h2 := heap_setCell_same (W.setCell ⟨g, 0, none⟩ (.int .i64 u')) g 1 _ _ (.int .i64 v') h1
  exact ⟨h2⟩
theorem FBx.put {W : World} {g h o : Nat} {u v : Int} (hb : FBx W g u v) (hne : g ≠ h) (k : Value) : FBx (W.setCell ⟨h, o, none⟩ k) g u v := ⟨(Below.heap_setCell _ _ _ _ hne).trans hb.row⟩
theorem fbx_new (w : World) (u v : Int) : FBx (w.alloc (.cells #[.int .i64 u, .int .i64 v] 28)) w.heap.size u v := ⟨heap_alloc_new w _⟩

/-- A variable that holds a fraction. -/
structure QBx (W : World) (g : Nat) (s : Int) (a : Option Addr) (n c : Nat) (s' : Int) (a' : Option Addr) (n' c' : Nat) : Prop where
  row : W.heap[g]? = some (.cells #[.int .i64 s, .slice a n c, .int .i64 s', .slice a' n' c'] 26 (0, 0))
theorem QBx.put {W : World} {g h o : Nat} {s : Int} {a : Option Addr} {n c : Nat} {s' : Int} {a' : Option Addr} {n' c' : Nat} (hb : QBx W g s a n c s' a' n' c') (hne : g ≠ h) (u : Value) : QBx (W.setCell ⟨h, o, none⟩ u) g s a n c s' a' n' c' := ⟨(Below.heap_setCell _ _ _ _ hne).trans hb.row⟩
theorem QBx.c0 {W : World} {g : Nat} {s : Int} {a : Option Addr} {n c : Nat} {s' : Int} {a' : Option Addr} {n' c' : Nat} (h : QBx W g s a n c s' a' n' c') : W.cell? ⟨g, 0, none⟩ = some (.int .i64 s) := by rw [cell_of_row W g 0 _ _ (0, 0) h.row]; rfl
theorem QBx.c1 {W : World} {g : Nat} {s : Int} {a : Option Addr} {n c : Nat} {s' : Int} {a' : Option Addr} {n' c' : Nat} (h : QBx W g s a n c s' a' n' c') : W.cell? ⟨g, 1, none⟩ = some (.slice a n c) := by rw [cell_of_row W g 1 _ _ (0, 0) h.row]; rfl
theorem QBx.c2 {W : World} {g : Nat} {s : Int} {a : Option Addr} {n c : Nat} {s' : Int} {a' : Option Addr} {n' c' : Nat} (h : QBx W g s a n c s' a' n' c') : W.cell? ⟨g, 2, none⟩ = some (.int .i64 s') := by rw [cell_of_row W g 2 _ _ (0, 0) h.row]; rfl
theorem QBx.c3 {W : World} {g : Nat} {s : Int} {a : Option Addr} {n c : Nat} {s' : Int} {a' : Option Addr} {n' c' : Nat} (h : QBx W g s a n c s' a' n' c') : W.cell? ⟨g, 3, none⟩ = some (.slice a' n' c') := by rw [cell_of_row W g 3 _ _ (0, 0) h.row]; rfl
theorem qbx_new (w : World) (s : Int) (a : Option Addr) (n c : Nat) (s' : Int) (a' : Option Addr) (n' c' : Nat) : QBx (w.alloc (.cells #[.int .i64 s, .slice a n c, .int .i64 s', .slice a' n' c'] 26)) w.heap.size s a n c s' a' n' c' := ⟨heap_alloc_new w _⟩

theorem one_text : Lib.itoa ((1 : Nat) : Int) = [49] := by
  unfold Lib.itoa
  rw [if_neg (by decide), show (((1 : Nat) : Int)).toNat = 1 from rfl, Lib.decDigits_one (by decide)]
  decide

theorem Text_one {w : World} {s : Int} {a : Option Addr} {n c : Nat} {z : Nat} (h : IsInt w s a n c (z : Int)) (hz : z = 1) (hn : n ≤ 100000) (htab : Ten w) : Calls Tryz.prog 11 #[.agg #[.int .i64 s, .slice a n c]] w fun e w' => e = .returned (.string ⟨#[49]⟩) ∧ Ext w w' := by
  subst hz
  have := Text_any s a n c _ w h hn htab
  rw [one_text] at this
  exact this

theorem IsDiv.facts {x y q r : Int} (h : IsDiv x y q r) : q.natAbs ≤ x.natAbs ∧ q * y + r = x ∧ r.natAbs < y.natAbs ∧ 0 ≤ r := by
  obtain ⟨h1, h2, h3, h4⟩ := h
  exact ⟨h4, h1.symm, by omega, h2⟩

end Go.Proofs.YtdiojbgbeeojkaaGreatDoor
