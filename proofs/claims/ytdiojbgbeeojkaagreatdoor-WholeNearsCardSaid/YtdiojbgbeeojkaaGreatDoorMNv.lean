/-
  Convergents: made from the front and from the back they are the same.
-/
import Derived.Test.YtdiojbgbeeojkaaGreatDoorMNf
import Derived.Test.YtdiojbgbeeojkaaGreatDoorMFqD
import Derived.Deep.LoopGhost
import Derived.Deep.CutRange
import Derived.Test.YtdiojbgbeeojkaaGreatDoorMBase
import Derived.Deep.RegionHeld3

namespace Go.Proofs.YtdiojbgbeeojkaaGreatDoor

/-- A continued fraction, from the back: what is above, what is below. -/
def cev : List Int → Int × Int
  | [] => (1, 0)
  | q :: t => (q * (cev t).1 + (cev t).2, (cev t).1)

/-- From the front: the last two values of one row. -/
def crow (a b : Int) : List Int → Int × Int
  | [] => (a, b)
  | q :: t => crow b (q * b + a) t

theorem crow_cev (t : List Int) (a b : Int) : (crow a b t).2 = b * (cev t).1 + a * (cev t).2 := by
  induction t generalizing a b with
  | nil => simp [crow, cev]
  | cons q t ih =>
    rw [crow, cev, ih]
    show (q * b + a) * (cev t).1 + b * (cev t).2 = b * (q * (cev t).1 + (cev t).2) + a * (cev t).1
    rw [Int.add_mul, Int.mul_add, ← Int.mul_assoc, Int.mul_comm q b]
    omega

/-- Both rows, begun as Near begins them, end in the fraction made from the back. -/
theorem crow_above (q : Int) (t : List Int) : (crow 1 q t).2 = (cev (q :: t)).1 := by
  rw [crow_cev, cev]; show q * _ + 1 * _ = _; rw [Int.one_mul]
theorem crow_below (q : Int) (t : List Int) : (crow 0 1 t).2 = (cev (q :: t)).2 := by
  rw [crow_cev, cev]; show 1 * _ + 0 * _ = _; rw [Int.one_mul, Int.zero_mul, Int.add_zero]

theorem crow_snoc (t : List Int) (a b q : Int) : crow a b (t ++ [q]) = ((crow a b t).2, q * (crow a b t).2 + (crow a b t).1) := by
  induction t generalizing a b with
  | nil => simp [crow]
  | cons x t ih => rw [List.cons_append, crow, crow, ih]

/-- It is in lowest terms. -/
theorem cev_co (t : List Int) : Nat.gcd (cev t).1.natAbs (cev t).2.natAbs = 1 := by
  induction t with
  | nil => simp [cev]
  | cons q t ih =>
    show Int.gcd (q * (cev t).1 + (cev t).2) (cev t).1 = 1
    rw [Int.gcd_mul_right_add_left, Int.gcd_comm]
    exact ih
/-- Where all but the first are 1 at least, what is below is above 0. -/
theorem cev_pos (t : List Int) (h : ∀ q ∈ t, 1 ≤ q) : 0 < (cev t).1 ∧ 0 ≤ (cev t).2 := by
  induction t with
  | nil => exact ⟨by decide, by decide⟩
  | cons q t ih =>
    obtain ⟨h1, h2⟩ := ih (fun x hx => h x (List.mem_cons_of_mem _ hx))
    have hq := h q List.mem_cons_self
    have : 0 < q * (cev t).1 := Int.mul_pos (by omega) h1
    exact ⟨by show 0 < q * _ + _; omega, by show 0 ≤ (cev t).1; omega⟩
/-- One step from the back, as the reference makes it. -/
theorem cev_step (q : Int) (t : List Int) (h : 0 < (cev t).1) :
    nfp (cev t).2 (cev t).1 = (cev t).2 ∧ nfq (cev t).2 (cev t).1 = (cev t).1 ∧ nfp (q * (cev t).1 + (cev t).2 * 1) (1 * (cev t).1) = (cev (q :: t)).1 ∧ nfq (q * (cev t).1 + (cev t).2 * 1) (1 * (cev t).1) = (cev (q :: t)).2 := by
  have hc := cev_co t
  obtain ⟨a, b⟩ := nf_self h (show Nat.gcd (cev t).2.natAbs (cev t).1.natAbs = 1 by rw [Nat.gcd_comm]; exact hc)
  obtain ⟨c, d⟩ := nf_self (a := (cev (q :: t)).1) (b := (cev (q :: t)).2) h (cev_co (q :: t))
  refine ⟨a, b, ?_, ?_⟩
  · rw [Int.mul_one, Int.one_mul]; exact c
  · rw [Int.mul_one, Int.one_mul]; exact d

end Go.Proofs.YtdiojbgbeeojkaaGreatDoor

/-
  The quotients of a fraction; the last convergent that is not too great; bounds.
-/
namespace Go.Proofs.YtdiojbgbeeojkaaGreatDoor
open Go.RowKit

/-- The quotients of a over b. -/
inductive IsCf : Int → Int → List Int → Prop where
  | nil (a : Int) : IsCf a 0 []
  | cons (a b q r : Int) (l : List Int) : 0 < b → a = q * b + r → 0 ≤ r → r < b → IsCf b r l → IsCf a b (q :: l)

theorem IsCf.zero {a : Int} {l : List Int} (h : IsCf a 0 l) : l = [] := by
  cases h with
  | nil => rfl
  | cons _ _ _ _ _ h0 => exact absurd h0 (by decide)
theorem IsCf.pos {a b : Int} {l : List Int} (h : IsCf a b l) (hb : 0 < b) : ∃ q r t, l = q :: t ∧ a = q * b + r ∧ 0 ≤ r ∧ r < b ∧ IsCf b r t := by
  cases h with
  | nil => exact absurd hb (by decide)
  | cons _ _ q r l h0 h1 h2 h3 h4 => exact ⟨q, r, l, rfl, h1, h2, h3, h4⟩

theorem IsCf.exists (n : Nat) : ∀ (a b : Int), 0 ≤ b → b.natAbs ≤ n → ∃ l, IsCf a b l := by
  induction n with
  | zero =>
    intro a b _ h
    have : b = 0 := by omega
    subst this
    exact ⟨[], .nil a⟩
  | succ n ih =>
    intro a b h0 h
    by_cases hb : b = 0
    · subst hb; exact ⟨[], .nil a⟩
    · have h1 := Int.emod_nonneg a hb
      have h2 := Int.emod_lt_of_pos a (show 0 < b by omega)
      obtain ⟨l, hl⟩ := ih b (a % b) h1 (by omega)
      refine ⟨a / b :: l, .cons a b (a / b) (a % b) l (by omega) ?_ h1 h2 hl⟩
      have := Int.mul_ediv_add_emod a b
      rw [Int.mul_comm] at this
      exact this.symm

/-- Quotient and rest are the only ones. -/
theorem quot_only {a b q r q' r' : Int} (hb : 0 < b) (h : a = q * b + r) (h0 : 0 ≤ r) (h1 : r < b) (h' : a = q' * b + r') (h0' : 0 ≤ r') (h1' : r' < b) : q = q' ∧ r = r' := by
  have e1 : a / b = q := by
    rw [h, Int.mul_comm, Int.mul_add_ediv_left _ _ (by omega : b ≠ 0), Int.ediv_eq_zero_of_lt h0 h1, Int.add_zero]
  have e2 : a / b = q' := by
    rw [h', Int.mul_comm, Int.mul_add_ediv_left _ _ (by omega : b ≠ 0), Int.ediv_eq_zero_of_lt h0' h1', Int.add_zero]
  have e3 : q = q' := e1.symm.trans e2
  subst e3
  exact ⟨rfl, by omega⟩
theorem IsCf.step {a b q r : Int} {l : List Int} (h : IsCf a b l) (hb : 0 < b) (ha : a = q * b + r) (h0 : 0 ≤ r) (h1 : r < b) : ∃ t, l = q :: t ∧ IsCf b r t := by
  obtain ⟨q', r', t, rfl, e1, e2, e3, e4⟩ := h.pos hb
  obtain ⟨rfl, rfl⟩ := quot_only hb ha h0 h1 e1 e2 e3
  exact ⟨t, rfl, e4⟩

/-- All quotients behind the first are 1 at least. -/
theorem IsCf.ones {a b : Int} {l : List Int} (h : IsCf a b l) (hab : b < a) : ∀ q ∈ l, 1 ≤ q := by
  induction h with
  | nil a => intro q hq; cases hq
  | cons a b q r l hb ha h0 h1 _ ih =>
    intro x hx
    rcases List.mem_cons.1 hx with rfl | hx
    · apply Decidable.byContradiction
      intro hn
      have : x * b ≤ 0 * b := Int.mul_le_mul_of_nonneg_right (by omega) (by omega)
      omega
    · exact ih (by omega) x hx
theorem IsCf.tail_ones {a b q : Int} {t : List Int} (h : IsCf a b (q :: t)) : ∀ x ∈ t, 1 ≤ x := by
  cases h with
  | cons _ _ _ r _ hb ha h0 h1 h2 => exact h2.ones (by omega)

/-- The fraction itself is the last convergent, but for what both have in common. -/
theorem IsCf.whole {a b : Int} {l : List Int} (h : IsCf a b l) (hab : b = 0 → 0 < a) (hn : 0 ≤ b) : ∃ g : Int, 0 < g ∧ a = g * (cev l).1 ∧ b = g * (cev l).2 := by
  induction h with
  | nil a => exact ⟨a, hab rfl, by simp [cev], by simp [cev]⟩
  | cons a b q r l hb ha h0 h1 _ ih =>
    obtain ⟨g, hg, e1, e2⟩ := ih (fun _ => hb) h0
    refine ⟨g, hg, ?_, e1⟩
    rw [ha]
    conv => lhs; rw [e1, e2]
    show q * (g * (cev l).1) + g * (cev l).2 = g * (q * (cev l).1 + (cev l).2)
    rw [Int.mul_add, ← Int.mul_assoc, ← Int.mul_assoc, Int.mul_comm q g]

theorem cev_take (t : List Int) (h : ∀ q ∈ t, 1 ≤ q) (n : Nat) : (cev (t.take n)).1 ≤ (cev t).1 ∧ (cev (t.take n)).2 ≤ (cev t).2 := by
  induction t generalizing n with
  | nil => simp
  | cons q t ih =>
    have hq := h q List.mem_cons_self
    have ht := fun x hx => h x (List.mem_cons_of_mem _ hx)
    cases n with
    | zero =>
      have hp := cev_pos (q :: t) h
      rw [List.take_zero]
      exact ⟨by show 1 ≤ _; omega, hp.2⟩
    | succ n =>
      obtain ⟨a, b⟩ := ih ht n
      rw [List.take_succ_cons]
      refine ⟨?_, a⟩
      show q * (cev (t.take n)).1 + (cev (t.take n)).2 ≤ q * (cev t).1 + (cev t).2
      have := Int.mul_le_mul_of_nonneg_left a (show 0 ≤ q by omega)
      omega
theorem cev_drop (t : List Int) (h : ∀ q ∈ t, 1 ≤ q) (n : Nat) : (cev (t.drop n)).1 ≤ (cev t).1 := by
  induction t generalizing n with
  | nil => simp
  | cons q t ih =>
    have hq := h q List.mem_cons_self
    have ht := fun x hx => h x (List.mem_cons_of_mem _ hx)
    cases n with
    | zero => exact Int.le_refl _
    | succ n =>
      have h1 := ih ht n
      rw [List.drop_succ_cons]
      refine Int.le_trans h1 ?_
      obtain ⟨p1, p2⟩ := cev_pos t ht
      show (cev t).1 ≤ q * (cev t).1 + (cev t).2
      have := Int.mul_le_mul_of_nonneg_right hq (Int.le_of_lt p1)
      omega
/-- What is below is not above what is above. -/
theorem cev_le (t : List Int) (h : ∀ q ∈ t, 1 ≤ q) : (cev t).2 ≤ (cev t).1 := by
  cases t with
  | nil => show (0 : Int) ≤ 1; decide
  | cons q t =>
    have hq := h q List.mem_cons_self
    obtain ⟨p1, p2⟩ := cev_pos t (fun x hx => h x (List.mem_cons_of_mem _ hx))
    show (cev t).1 ≤ q * (cev t).1 + (cev t).2
    have := Int.mul_le_mul_of_nonneg_right hq (Int.le_of_lt p1)
    omega
/-- They grow. -/
theorem cev_grow (n : Nat) : ∀ (t : List Int), (∀ q ∈ t, 1 ≤ q) → 2 * n ≤ t.length → (2 : Int) ^ n ≤ (cev t).1 := by
  induction n with
  | zero =>
    intro t h _
    have := (cev_pos t h).1
    show (1 : Int) ≤ _
    omega
  | succ n ih =>
    intro t h hl
    match t, h, hl with
    | [], _, hl => simp at hl
    | [_], _, hl => simp at hl; omega
    | q :: q' :: t, h, hl =>
      have hq := h q List.mem_cons_self
      have hq' := h q' (List.mem_cons_of_mem _ List.mem_cons_self)
      have ht : ∀ x ∈ t, 1 ≤ x := fun x hx => h x (List.mem_cons_of_mem _ (List.mem_cons_of_mem _ hx))
      have h1 := ih t ht (by simp at hl; omega)
      obtain ⟨p1, p2⟩ := cev_pos t ht
      have a1 := Int.mul_le_mul_of_nonneg_right hq' (Int.le_of_lt p1)
      have p3 : 0 ≤ q' * (cev t).1 + (cev t).2 := by omega
      have a2 := Int.mul_le_mul_of_nonneg_right hq p3
      show (2 : Int) ^ n * 2 ≤ q * (q' * (cev t).1 + (cev t).2) + (cev t).1
      omega

/-- The last convergent ahead of the first that has more than M below. -/
def pick (M : Int) : List Int → List Int → List Int
  | done, [] => done
  | done, q :: t => if M < (cev (done ++ [q])).2 then done else pick M (done ++ [q]) t

/-- All that a law about convergents wants of the numbers that come up. -/
structure CfRoom (a b : Int) (l : List Int) (X : Nat) : Prop where
  ne : l ≠ []
  quot : ∀ q ∈ l, q.natAbs ≤ X
  above : ∀ n, (cev (l.take (n + 1))).1.natAbs ≤ (X + 1) * X
  below : ∀ n, (cev (l.take (n + 1))).2.natAbs ≤ X
  pos : ∀ n, 0 < (cev (l.take (n + 1))).2
  mid : ∀ n i, (cev ((l.take n).drop (i + 1))).1.natAbs ≤ X ∧ (cev ((l.take n).drop (i + 1))).2.natAbs ≤ X ∧ 0 < (cev ((l.take n).drop (i + 1))).1 ∧ 0 ≤ (cev ((l.take n).drop (i + 1))).2
  len : ∀ k, X < 2 ^ k → l.length ≤ 2 * k + 1

theorem natAbs_le {x : Int} {X : Nat} (h0 : 0 ≤ x) (h : x ≤ X) : x.natAbs ≤ X := by omega

theorem cfRoom {a b : Int} {l : List Int} {X : Nat} (h : IsCf a b l) (hb : 0 < b) (ha : a.natAbs ≤ X) (hbX : b.natAbs ≤ X) : CfRoom a b l X := by
  obtain ⟨g, hg, e1, e2⟩ := h.whole (fun h => absurd h (by omega)) (by omega)
  obtain ⟨q, r, t, rfl, ea, h0, h1, ht⟩ := h.pos hb
  have hone := h.tail_ones
  have hbX' : b ≤ (X : Int) := by omega
  have hc2 : (cev t).1 ≤ (X : Int) := by
    have e3 : b = g * (cev t).1 := e2
    have hp := (cev_pos t hone).1
    have := Int.mul_le_mul_of_nonneg_right (show (1 : Int) ≤ g by omega) (Int.le_of_lt hp)
    omega
  have hq : q.natAbs ≤ X := by
    have hq1 : q = a / b := by
      rw [ea, Int.mul_comm, Int.mul_add_ediv_left _ _ (by omega : b ≠ 0), Int.ediv_eq_zero_of_lt h0 h1, Int.add_zero]
    rw [hq1]
    exact Nat.le_trans (Int.natAbs_ediv_le_natAbs a b) ha
  have tone : ∀ n, ∀ x ∈ t.take n, 1 ≤ x := fun n x hx => hone x (List.mem_of_mem_take hx)
  have done : ∀ n i, ∀ x ∈ (t.take n).drop i, 1 ≤ x := fun n i x hx => tone n x (List.mem_of_mem_drop hx)
  have tk : ∀ n, (cev (t.take n)).1 ≤ (X : Int) := fun n => Int.le_trans (cev_take t hone n).1 hc2
  refine ⟨by simp, ?_, ?_, ?_, ?_, ?_, ?_⟩
  · intro x hx
    rcases List.mem_cons.1 hx with rfl | hx
    · exact hq
    · -- a quotient is not above the whole
      obtain ⟨s, u, rfl⟩ := List.append_of_mem hx
      have hone' := hone
      have h2 := cev_drop (s ++ x :: u) hone s.length
      rw [List.drop_left] at h2
      have hx1 := hone x (by simp)
      have hu : ∀ y ∈ u, 1 ≤ y := fun y hy => hone y (by simp [hy])
      obtain ⟨p1, p2⟩ := cev_pos u hu
      have h3 : x ≤ (cev (x :: u)).1 := by
        show x ≤ x * (cev u).1 + (cev u).2
        have := Int.mul_le_mul_of_nonneg_left (show (1 : Int) ≤ (cev u).1 by omega) (show 0 ≤ x by omega)
        omega
      exact natAbs_le (by omega) (by omega)
  · intro n
    rw [List.take_succ_cons]
    obtain ⟨p1, p2⟩ := cev_pos (t.take n) (tone n)
    have h2 := cev_le (t.take n) (tone n)
    have h3 := tk n
    show (q * (cev (t.take n)).1 + (cev (t.take n)).2).natAbs ≤ _
    refine Nat.le_trans (Int.natAbs_add_le _ _) ?_
    rw [Int.natAbs_mul, Nat.add_mul, Nat.one_mul]
    have h4 : (cev (t.take n)).1.natAbs ≤ X := natAbs_le (by omega) h3
    have h5 : (cev (t.take n)).2.natAbs ≤ X := natAbs_le (by omega) (by omega)
    exact Nat.add_le_add (Nat.mul_le_mul hq h4) h5
  · intro n
    rw [List.take_succ_cons]
    have := (cev_pos (t.take n) (tone n)).1
    exact natAbs_le (by show 0 ≤ (cev (t.take n)).1; omega) (tk n)
  · intro n
    rw [List.take_succ_cons]
    exact (cev_pos (t.take n) (tone n)).1
  · intro n i
    cases n with
    | zero =>
      have hX1 : 1 ≤ X := by omega
      simp only [List.take_zero, List.drop_nil]
      exact ⟨hX1, Nat.zero_le _, by decide, by decide⟩
    | succ n =>
      rw [List.take_succ_cons, List.drop_succ_cons]
      obtain ⟨p1, p2⟩ := cev_pos ((t.take n).drop i) (done n i)
      have h2 := cev_le ((t.take n).drop i) (done n i)
      have h3 := cev_drop (t.take n) (tone n) i
      have h4 := tk n
      exact ⟨natAbs_le (by omega) (by omega), natAbs_le p2 (by omega), p1, p2⟩
  · intro k hk
    rw [List.length_cons]
    apply Decidable.byContradiction
    intro hn
    have h2 := cev_grow k t hone (by omega)
    have h3 : ((2 : Nat) ^ k : Int) ≤ (X : Int) := by
      have := Int.le_trans h2 hc2
      exact_mod_cast this
    omega

end Go.Proofs.YtdiojbgbeeojkaaGreatDoor

/-
  Variables that hold numbers; what Near keeps in them.
-/
namespace Go.Proofs.YtdiojbgbeeojkaaGreatDoor
open Go.RowKit

/-- A variable that holds the number z. -/
def VBox (w : World) (g : Nat) (z : Int) : Prop := ∃ (s : Int) (a : Option Addr) (n c : Nat), Box w g s a n c ∧ IsInt w s a n c z
theorem VBox.ext {w w' : World} {g : Nat} {z : Int} (h : VBox w g z) (k : Ext w w') : VBox w' g z := by
  obtain ⟨s, a, n, c, h1, h2⟩ := h
  exact ⟨s, a, n, c, h1.ext k, h2.ext k⟩
theorem VBox.lt {w : World} {g : Nat} {z : Int} (h : VBox w g z) : g < w.heap.size := by
  obtain ⟨s, a, n, c, h1, h2⟩ := h
  exact h1.lt
theorem Box.keep {w : World} {k : Nat} {s : Int} {a : Option Addr} {n c : Nat} (h : Box w k s a n c) (s' : Int) (a' : Option Addr) (n' c' : Nat) : Keep64 w ((w.setCell ⟨k, 0, none⟩ (.int .i64 s')).setCell ⟨k, 1, none⟩ (.slice a' n' c')) :=
  Keep64.set2 (.i64 h.c0) (.slice h.c1) (notW_i64 s') (.slice a' n' c')
theorem VBox.put {w : World} {g k : Nat} {z : Int} {s : Int} {a : Option Addr} {n c : Nat} (h : VBox w g z) (hk : Box w k s a n c) (hne : g ≠ k) (s' : Int) (a' : Option Addr) (n' c' : Nat) : VBox ((w.setCell ⟨k, 0, none⟩ (.int .i64 s')).setCell ⟨k, 1, none⟩ (.slice a' n' c')) g z := by
  obtain ⟨t, b, m, d, h1, h2⟩ := h
  exact ⟨t, b, m, d, (h1.put hne _).put hne _, h2.keep64 (hk.keep s' a' n' c')⟩
theorem VBox.own {w : World} {k : Nat} {z : Int} {s : Int} {a : Option Addr} {n c : Nat} (hk : Box w k s a n c) {s' : Int} {a' : Option Addr} {n' c' : Nat} (hI : IsInt w s' a' n' c' z) : VBox ((w.setCell ⟨k, 0, none⟩ (.int .i64 s')).setCell ⟨k, 1, none⟩ (.slice a' n' c')) k z :=
  ⟨s', a', n', c', hk.own s' a' n' c', hI.keep64 (hk.keep s' a' n' c')⟩
theorem Box.put2' {w : World} {g k : Nat} {s : Int} {a : Option Addr} {n c : Nat} (h : Box w g s a n c) (hne : g ≠ k) (u v : Value) : Box ((w.setCell ⟨k, 0, none⟩ u).setCell ⟨k, 1, none⟩ v) g s a n c := (h.put hne u).put hne v
theorem vbox_new {w : World} {s : Int} {a : Option Addr} {n c : Nat} {z : Int} (h : IsInt w s a n c z) : VBox (w.alloc (.cells #[.int .i64 s, .slice a n c] 24)) w.heap.size z :=
  ⟨s, a, n, c, box_new w s a n c, h.ext (Ext.alloc _ _)⟩

theorem onl2 (w : World) (g : Nat) (u v : Value) : Only g w ((w.setCell ⟨g, 0, none⟩ u).setCell ⟨g, 1, none⟩ v) := ((Only.refl _ _).setCell _ _).setCell _ _

/-- What Near has in its variables. -/
structure NearSt (W w : World) (H A Q L P E : Nat) (a b q r la lb ab be m : Int) : Prop where
  vA : VBox w (A) a
  vB : VBox w (A + 1) b
  vQ : VBox w (Q) q
  vS : VBox w (Q + 1) r
  vL : VBox w (L) la
  vM : VBox w (L + 1) lb
  vP : VBox w (P) ab
  vE : VBox w (E) be
  vm : VBox w (H + 1) m
  qR : QRes w (H + 2)
  X : Ext W w
  ne : W.heap.size = H ∧ H + 2 < A ∧ A + 1 < Q ∧ Q + 2 < L ∧ L + 1 < P ∧ L + 1 < E ∧ P ≠ E
section
variable {W w w' : World} {H A Q L P E : Nat} {a b q r la lb ab be m : Int}
theorem NearSt.ext (h : NearSt W w H A Q L P E a b q r la lb ab be m) (k : Ext w w') : NearSt W w' H A Q L P E a b q r la lb ab be m :=
  ⟨h.vA.ext k, h.vB.ext k, h.vQ.ext k, h.vS.ext k, h.vL.ext k, h.vM.ext k, h.vP.ext k, h.vE.ext k, h.vm.ext k, h.qR.ext k, h.X.trans k, h.ne⟩
theorem NearSt.putA (h : NearSt W w H A Q L P E a b q r la lb ab be m) {s' : Int} {a' : Option Addr} {n' c' : Nat} {z : Int} (hI : IsInt w s' a' n' c' z) : NearSt W ((w.setCell ⟨A, 0, none⟩ (.int .i64 s')).setCell ⟨A, 1, none⟩ (.slice a' n' c')) H A Q L P E z b q r la lb ab be m := by
  have hn := h.ne
  obtain ⟨s, x, n, c, hb, _⟩ := h.vA
  exact ⟨VBox.own hb hI, h.vB.put hb (by omega) s' a' n' c', h.vQ.put hb (by omega) s' a' n' c', h.vS.put hb (by omega) s' a' n' c', h.vL.put hb (by omega) s' a' n' c', h.vM.put hb (by omega) s' a' n' c', h.vP.put hb (by omega) s' a' n' c', h.vE.put hb (by omega) s' a' n' c', h.vm.put hb (by omega) s' a' n' c', h.qR.only (onl2 w _ _ _) (by omega), h.X.put2 (by omega) _ _, hn⟩
theorem NearSt.putB (h : NearSt W w H A Q L P E a b q r la lb ab be m) {s' : Int} {a' : Option Addr} {n' c' : Nat} {z : Int} (hI : IsInt w s' a' n' c' z) : NearSt W ((w.setCell ⟨A + 1, 0, none⟩ (.int .i64 s')).setCell ⟨A + 1, 1, none⟩ (.slice a' n' c')) H A Q L P E a z q r la lb ab be m := by
  have hn := h.ne
  obtain ⟨s, x, n, c, hb, _⟩ := h.vB
  exact ⟨h.vA.put hb (by omega) s' a' n' c', VBox.own hb hI, h.vQ.put hb (by omega) s' a' n' c', h.vS.put hb (by omega) s' a' n' c', h.vL.put hb (by omega) s' a' n' c', h.vM.put hb (by omega) s' a' n' c', h.vP.put hb (by omega) s' a' n' c', h.vE.put hb (by omega) s' a' n' c', h.vm.put hb (by omega) s' a' n' c', h.qR.only (onl2 w _ _ _) (by omega), h.X.put2 (by omega) _ _, hn⟩
theorem NearSt.putQ (h : NearSt W w H A Q L P E a b q r la lb ab be m) {s' : Int} {a' : Option Addr} {n' c' : Nat} {z : Int} (hI : IsInt w s' a' n' c' z) : NearSt W ((w.setCell ⟨Q, 0, none⟩ (.int .i64 s')).setCell ⟨Q, 1, none⟩ (.slice a' n' c')) H A Q L P E a b z r la lb ab be m := by
  have hn := h.ne
  obtain ⟨s, x, n, c, hb, _⟩ := h.vQ
  exact ⟨h.vA.put hb (by omega) s' a' n' c', h.vB.put hb (by omega) s' a' n' c', VBox.own hb hI, h.vS.put hb (by omega) s' a' n' c', h.vL.put hb (by omega) s' a' n' c', h.vM.put hb (by omega) s' a' n' c', h.vP.put hb (by omega) s' a' n' c', h.vE.put hb (by omega) s' a' n' c', h.vm.put hb (by omega) s' a' n' c', h.qR.only (onl2 w _ _ _) (by omega), h.X.put2 (by omega) _ _, hn⟩
theorem NearSt.putS (h : NearSt W w H A Q L P E a b q r la lb ab be m) {s' : Int} {a' : Option Addr} {n' c' : Nat} {z : Int} (hI : IsInt w s' a' n' c' z) : NearSt W ((w.setCell ⟨Q + 1, 0, none⟩ (.int .i64 s')).setCell ⟨Q + 1, 1, none⟩ (.slice a' n' c')) H A Q L P E a b q z la lb ab be m := by
  have hn := h.ne
  obtain ⟨s, x, n, c, hb, _⟩ := h.vS
  exact ⟨h.vA.put hb (by omega) s' a' n' c', h.vB.put hb (by omega) s' a' n' c', h.vQ.put hb (by omega) s' a' n' c', VBox.own hb hI, h.vL.put hb (by omega) s' a' n' c', h.vM.put hb (by omega) s' a' n' c', h.vP.put hb (by omega) s' a' n' c', h.vE.put hb (by omega) s' a' n' c', h.vm.put hb (by omega) s' a' n' c', h.qR.only (onl2 w _ _ _) (by omega), h.X.put2 (by omega) _ _, hn⟩
theorem NearSt.putL (h : NearSt W w H A Q L P E a b q r la lb ab be m) {s' : Int} {a' : Option Addr} {n' c' : Nat} {z : Int} (hI : IsInt w s' a' n' c' z) : NearSt W ((w.setCell ⟨L, 0, none⟩ (.int .i64 s')).setCell ⟨L, 1, none⟩ (.slice a' n' c')) H A Q L P E a b q r z lb ab be m := by
  have hn := h.ne
  obtain ⟨s, x, n, c, hb, _⟩ := h.vL
  exact ⟨h.vA.put hb (by omega) s' a' n' c', h.vB.put hb (by omega) s' a' n' c', h.vQ.put hb (by omega) s' a' n' c', h.vS.put hb (by omega) s' a' n' c', VBox.own hb hI, h.vM.put hb (by omega) s' a' n' c', h.vP.put hb (by omega) s' a' n' c', h.vE.put hb (by omega) s' a' n' c', h.vm.put hb (by omega) s' a' n' c', h.qR.only (onl2 w _ _ _) (by omega), h.X.put2 (by omega) _ _, hn⟩
theorem NearSt.putM (h : NearSt W w H A Q L P E a b q r la lb ab be m) {s' : Int} {a' : Option Addr} {n' c' : Nat} {z : Int} (hI : IsInt w s' a' n' c' z) : NearSt W ((w.setCell ⟨L + 1, 0, none⟩ (.int .i64 s')).setCell ⟨L + 1, 1, none⟩ (.slice a' n' c')) H A Q L P E a b q r la z ab be m := by
  have hn := h.ne
  obtain ⟨s, x, n, c, hb, _⟩ := h.vM
  exact ⟨h.vA.put hb (by omega) s' a' n' c', h.vB.put hb (by omega) s' a' n' c', h.vQ.put hb (by omega) s' a' n' c', h.vS.put hb (by omega) s' a' n' c', h.vL.put hb (by omega) s' a' n' c', VBox.own hb hI, h.vP.put hb (by omega) s' a' n' c', h.vE.put hb (by omega) s' a' n' c', h.vm.put hb (by omega) s' a' n' c', h.qR.only (onl2 w _ _ _) (by omega), h.X.put2 (by omega) _ _, hn⟩
theorem NearSt.putP (h : NearSt W w H A Q L P E a b q r la lb ab be m) {s' : Int} {a' : Option Addr} {n' c' : Nat} {z : Int} (hI : IsInt w s' a' n' c' z) : NearSt W ((w.setCell ⟨P, 0, none⟩ (.int .i64 s')).setCell ⟨P, 1, none⟩ (.slice a' n' c')) H A Q L P E a b q r la lb z be m := by
  have hn := h.ne
  obtain ⟨s, x, n, c, hb, _⟩ := h.vP
  exact ⟨h.vA.put hb (by omega) s' a' n' c', h.vB.put hb (by omega) s' a' n' c', h.vQ.put hb (by omega) s' a' n' c', h.vS.put hb (by omega) s' a' n' c', h.vL.put hb (by omega) s' a' n' c', h.vM.put hb (by omega) s' a' n' c', VBox.own hb hI, h.vE.put hb (by omega) s' a' n' c', h.vm.put hb (by omega) s' a' n' c', h.qR.only (onl2 w _ _ _) (by omega), h.X.put2 (by omega) _ _, hn⟩
theorem NearSt.putE (h : NearSt W w H A Q L P E a b q r la lb ab be m) {s' : Int} {a' : Option Addr} {n' c' : Nat} {z : Int} (hI : IsInt w s' a' n' c' z) : NearSt W ((w.setCell ⟨E, 0, none⟩ (.int .i64 s')).setCell ⟨E, 1, none⟩ (.slice a' n' c')) H A Q L P E a b q r la lb ab z m := by
  have hn := h.ne
  obtain ⟨s, x, n, c, hb, _⟩ := h.vE
  exact ⟨h.vA.put hb (by omega) s' a' n' c', h.vB.put hb (by omega) s' a' n' c', h.vQ.put hb (by omega) s' a' n' c', h.vS.put hb (by omega) s' a' n' c', h.vL.put hb (by omega) s' a' n' c', h.vM.put hb (by omega) s' a' n' c', h.vP.put hb (by omega) s' a' n' c', VBox.own hb hI, h.vm.put hb (by omega) s' a' n' c', h.qR.only (onl2 w _ _ _) (by omega), h.X.put2 (by omega) _ _, hn⟩
end

end Go.Proofs.YtdiojbgbeeojkaaGreatDoor

/-
  Near: the last convergent that is not too great.
-/
namespace Go.Proofs.YtdiojbgbeeojkaaGreatDoor
open Go.RowKit

/-- What the numbers of a round stay below. -/
theorem near_room {P Q q0 : Int} {t l2 : List Int} {X : Nat} (hX : 1 ≤ X) (h : CfRoom P Q (q0 :: (t ++ l2)) X) :
    (crow 1 q0 t).2.natAbs ≤ (X + 1) * X ∧ (crow 1 q0 t).1.natAbs ≤ (X + 1) * X ∧ (crow 0 1 t).2.natAbs ≤ X ∧ (crow 0 1 t).1.natAbs ≤ X ∧ 0 < (crow 0 1 t).2 ∧ (crow 1 q0 t).2 = (cev (q0 :: t)).1 ∧ (crow 0 1 t).2 = (cev (q0 :: t)).2 := by
  have tk : ∀ (u v : List Int), (q0 :: (u ++ v)).take (u.length + 1) = q0 :: u := by
    intro u v
    rw [List.take_succ_cons, List.take_left]
  have e1 := h.above t.length; have e2 := h.below t.length; have e3 := h.pos t.length
  rw [tk, ← crow_above] at e1
  rw [tk, ← crow_below] at e2 e3
  have hXX : X ≤ (X + 1) * X := Nat.le_mul_of_pos_left _ (by omega)
  refine ⟨e1, ?_, e2, ?_, e3, crow_above q0 t, crow_below q0 t⟩
  · rcases List.eq_nil_or_concat t with rfl | ⟨u, q, rfl⟩
    · show (1 : Int).natAbs ≤ _
      show 1 ≤ _
      omega
    · rw [List.concat_eq_append, crow_snoc]
      have e4 := h.above u.length
      rw [List.concat_eq_append, List.append_assoc, tk, ← crow_above] at e4
      exact e4
  · rcases List.eq_nil_or_concat t with rfl | ⟨u, q, rfl⟩
    · exact Nat.zero_le _
    · rw [List.concat_eq_append, crow_snoc]
      have e4 := h.below u.length
      rw [List.concat_eq_append, List.append_assoc, tk, ← crow_below] at e4
      exact e4

/-- Where Near is at the head of its loop. -/
structure NearAt (P Q M : Int) (l res : List Int) (a b q r la lb ab be : Int) (k : Nat) : Prop where
  ex : ∃ (q0 : Int) (t l2 : List Int), l = q0 :: (t ++ l2) ∧ IsCf b r l2 ∧ pick M (q0 :: t) l2 = res ∧ la = (crow 1 q0 t).1 ∧ ab = (crow 1 q0 t).2 ∧ lb = (crow 0 1 t).1 ∧ be = (crow 0 1 t).2
  b0 : 0 < b
  bQ : b ≤ Q
  r0 : 0 ≤ r
  rb : r < b
  rk : r.natAbs = k

theorem NearAt.done {P Q M : Int} {l res : List Int} {a b q r la lb ab be : Int} {k : Nat} (h : NearAt P Q M l res a b q r la lb ab be k) (hr : r = 0) : ab = (cev res).1 ∧ be = (cev res).2 := by
  obtain ⟨q0, t, l2, _, hc, hp, _, e2, _, e4⟩ := h.ex
  subst hr
  rw [hc.zero] at hp
  rw [← hp]
  exact ⟨by rw [e2]; exact crow_above q0 t, by rw [e4]; exact crow_below q0 t⟩

/-- One round. -/
theorem NearAt.next {P Q M : Int} {l res : List Int} {a b q r la lb ab be : Int} {k : Nat} {X : Nat} (h : NearAt P Q M l res a b q r la lb ab be k) (hX : 1 ≤ X) (hrm : CfRoom P Q l X) {q' r' : Int} (hd : b = q' * r + r') (h0 : 0 ≤ r') (h1 : r' < r) :
    q'.natAbs ≤ X ∧ ab.natAbs ≤ (X + 1) * X ∧ la.natAbs ≤ (X + 1) * X ∧ be.natAbs ≤ X ∧ lb.natAbs ≤ X ∧
    (M < q' * be + lb → ab = (cev res).1 ∧ be = (cev res).2) ∧
    (¬ M < q' * be + lb → NearAt P Q M l res b r q' r' ab be (q' * ab + la) (q' * be + lb) r'.natAbs ∧ r'.natAbs < k) := by
  have hr0 := h.r0; have hrk := h.rk; have hbQ := h.bQ; have hrb := h.rb
  obtain ⟨q0, t, l2, hl, hc, hp, e1, e2, e3, e4⟩ := h.ex
  obtain ⟨l3, rfl, hc3⟩ := hc.step (by omega) hd h0 h1
  rw [hl] at hrm
  obtain ⟨m1, m2, m3, m4, m5, m6, m7⟩ := near_room hX hrm
  have hq := hrm.quot q' (by simp)
  have hb2 : q' * be + lb = (cev (q0 :: t ++ [q'])).2 := by
    rw [e3, e4]
    have := crow_below q0 (t ++ [q'])
    rw [crow_snoc] at this
    exact this
  refine ⟨hq, by rw [e2]; exact m1, by rw [e1]; exact m2, by rw [e4]; exact m3, by rw [e3]; exact m4, ?_, ?_⟩
  · intro hM
    have hp' : pick M (q0 :: t) (q' :: l3) = q0 :: t := by
      rw [pick, if_pos (by rw [← hb2]; exact hM)]
    rw [← hp, hp']
    exact ⟨by rw [e2]; exact m6, by rw [e4]; exact m7⟩
  · intro hM
    refine ⟨⟨⟨q0, t ++ [q'], l3, ?_, hc3, ?_, ?_, ?_, ?_, ?_⟩, by omega, by omega, h0, h1, rfl⟩, by omega⟩
    · rw [hl, List.append_assoc]; rfl
    · rw [← hp, pick, if_neg (by rw [← hb2]; exact hM)]; rfl
    · rw [crow_snoc]; exact e2
    · rw [crow_snoc, e1, e2]
    · rw [crow_snoc]; exact e4
    · rw [crow_snoc, e3, e4]

theorem pick_take (M : Int) (d t : List Int) (hd : d ≠ []) : ∃ k, pick M d t = (d ++ t).take (k + 1) := by
  induction t generalizing d with
  | nil => exact ⟨d.length - 1, by rw [List.append_nil, List.take_of_length_le (by have := List.length_pos_iff.2 hd; omega)]; rfl⟩
  | cons q t ih =>
    rw [pick]
    split
    · exact ⟨d.length - 1, by
        have := List.length_pos_iff.2 hd
        rw [show d.length - 1 + 1 = d.length by omega, List.take_left]⟩
    · obtain ⟨k, hk⟩ := ih (d ++ [q]) (by simp)
      exact ⟨k, by rw [hk, List.append_assoc]; rfl⟩
theorem near_mul {X : Nat} {x y : Int} (hX : 1 ≤ X) (hx : x.natAbs ≤ X) (hy : y.natAbs ≤ X) : (x * y).natAbs ≤ (X + 1) * X * X := by
  rw [Int.natAbs_mul]
  refine Nat.le_trans (Nat.mul_le_mul hx hy) (Nat.mul_le_mul_right _ (Nat.le_mul_of_pos_left _ (by omega)))
theorem near_big {X : Nat} {x y : Int} (hx : x.natAbs ≤ X) (hy : y.natAbs ≤ (X + 1) * X) : (x * y).natAbs ≤ (X + 1) * X * X := by
  rw [Int.natAbs_mul, Nat.mul_comm]
  exact Nat.mul_le_mul hy hx
theorem near_sum {X : Nat} {x y z : Int} (hX : 1 ≤ X) (hx : x.natAbs ≤ X) (hy : y.natAbs ≤ X) (hz : z.natAbs ≤ X) : (x * y + z).natAbs ≤ (X + 1) * X * X := by
  refine Nat.le_trans (Int.natAbs_add_le _ _) ?_
  rw [Int.natAbs_mul]
  have h1 : x.natAbs * y.natAbs ≤ X * X := Nat.mul_le_mul hx hy
  have h2 : X * X + X ≤ (X + 1) * X * X := by
    have : X * X + X = (X + 1) * X := by rw [Nat.add_mul, Nat.one_mul]
    rw [this]
    exact Nat.le_mul_of_pos_right _ hX
  omega

end Go.Proofs.YtdiojbgbeeojkaaGreatDoor

/-
  A region that draws its order and ends in stores: what it loads is held until the first store comes up.
-/
namespace Go.Proofs.YtdiojbgbeeojkaaGreatDoor

section
variable {P : Program} {ops : Array Oper} {Q : Exit → Act → World → Prop} {md : Region.Mode} {S : World → Prop} {k : Nat}

/-- In whatever order: S holds behind each operation as long as number k has not come up. -/
def anyK (P : Program) (md : Region.Mode) (ops : Array Oper) (Q : Exit → Act → World → Prop) (k : Nat) (S : World → Prop) : Nat → Array Bool → Act → World → Prop
  | 0, l, a, w => Region.ready md ops l = [] ∧ Q .normal a w
  | n + 1, l, a, w => (Region.ready md ops l = [] → Q .normal a w) ∧
      ∀ i, i ∈ Region.ready md ops l → wpOp P ops Q i (fun a' w' => ((l.setIfInBounds i true).getD k true = false → S w') ∧ anyK P md ops Q k S n (l.setIfInBounds i true) a' w') a w

theorem anyK_plain (n : Nat) : ∀ (l : Array Bool) (a : Act) (w : World), anyK P md ops Q k S n l a w → wpAny P md ops Q n l a w := by
  induction n with
  | zero => exact fun _ _ _ h => h
  | succ n ih => exact fun l a w h => ⟨h.1, fun i hi => wpOp_mono (fun a' w' h' => ih _ a' w' h'.2) (h.2 i hi)⟩

/-- Number k waits for number i, by way of others too. -/
def waits (md : Region.Mode) (ops : Array Oper) : Nat → Nat → Nat → Bool
  | 0, _, _ => false
  | n + 1, k, i => match ops[k]? with
    | some o => o.after.any fun e => Region.binds md e && (e.on == i || waits md ops n e.on i)
    | none => false

/-- What has come up has come up behind all that it waits for. -/
def closedL (md : Region.Mode) (ops : Array Oper) (l : Array Bool) : Prop :=
  ∀ j o, ops[j]? = some o → l.getD j false = true → ∀ e ∈ o.after, Region.binds md e = true → l.getD e.on false = true
def closedB (md : Region.Mode) (ops : Array Oper) (l : Array Bool) : Bool :=
  (List.range ops.size).all fun j => !(l.getD j false) || (match ops[j]? with
    | some o => o.after.all fun e => !(Region.binds md e) || l.getD e.on false
    | none => true)
theorem closedB_spec {l : Array Bool} (h : closedB md ops l = true) : closedL md ops l := by
  intro j o ho hl e he hb
  have hj : j < ops.size := (Array.getElem?_eq_some_iff.1 ho).1
  have h1 := List.all_eq_true.1 h j (List.mem_range.2 hj)
  rw [hl, ho] at h1
  have h2 : (o.after.all fun e => !(Region.binds md e) || l.getD e.on false) = true := by simpa using h1
  have h3 := Array.all_eq_true_iff_forall_mem.1 h2 e he
  rw [hb] at h3
  simpa using h3
theorem closedL_set {l : Array Bool} {j : Nat} (h : closedL md ops l) (hj : j ∈ Region.ready md ops l) : closedL md ops (l.setIfInBounds j true) := by
  intro m o ho hl e he hb
  by_cases hm : j = m
  · subst hm
    obtain ⟨_, o', ho', hall⟩ := mem_ready.1 hj
    rw [ho] at ho'
    cases ho'
    exact getD_set_true (hall e he hb)
  · rw [Go.getD_set_ne false hm] at hl
    exact getD_set_true (h m o ho hl e he hb)

theorem waits_listed {l : Array Bool} (hc : closedL md ops l) (n : Nat) : ∀ (k i : Nat), waits md ops n k i = true → (∀ o, ops[k]? = some o → ∀ e ∈ o.after, Region.binds md e = true → l.getD e.on false = true) → l.getD i false = true := by
  induction n with
  | zero => intro k i h; cases h
  | succ n ih =>
    intro k i h hk
    unfold waits at h
    cases ho : ops[k]? with
    | none => rw [ho] at h; cases h
    | some o =>
      rw [ho] at h
      obtain ⟨e, he, hb⟩ := Array.any_eq_true'.1 h
      obtain ⟨h1, h2⟩ : Region.binds md e = true ∧ (e.on = i ∨ waits md ops n e.on i = true) := by simpa using hb
      have h3 := hk o ho e he h1
      rcases h2 with h2 | h2
      · rw [← h2]; exact h3
      · exact ih e.on i h2 (fun o' ho' e' he' hb' => hc e.on o' ho' h3 e' he' hb')
theorem waits_unready {l : Array Bool} {i n : Nat} (hc : closedL md ops l) (hw : waits md ops n k i = true) (hi : i ∈ Region.ready md ops l) : k ∉ Region.ready md ops l := by
  intro hk
  obtain ⟨_, o, ho, hall⟩ := mem_ready.1 hk
  have h1 := waits_listed hc n k i hw (fun o' ho' => by rw [ho] at ho'; cases ho'; exact hall)
  have h2 := (mem_ready.1 hi).1
  rcases Nat.lt_or_ge i l.size with h | h
  · simp [h] at h1 h2
    rw [h2] at h1
    cases h1
  · simp [Array.getElem?_eq_none h] at h1

/-- Number i may be taken first, if it yields the same wherever S holds, and number k waits for it. -/
theorem anyK_first {i : Nat} {o : Oper} {v : Value} (hi : ops[i]? = some o) (hsel : ∀ (j : Nat) (o : Oper) cs b, ops[j]? = some o → o.op ≠ .select cs b)
    (hQ : ∀ c a w, Q (.panic c) (a.put o.dst v) w → Q (.panic c) a w) {N : Nat} (hw : waits md ops N k i = true) (n : Nat) :
    ∀ (l : Array Bool) (a : Act) (w : World), closedL md ops l →
      (∀ j oj, ops[j]? = some oj → j ≠ i → l.getD j true = false → (∀ e ∈ oj.after, Region.binds md e = true → e.on ≠ i) → o.apart ops oj = true) →
      i ∈ Region.ready md ops l → YieldsIf P ops S o v a → S w → l.getD k true = false →
      anyK P md ops Q k S n (l.setIfInBounds i true) (a.put o.dst v) w → anyK P md ops Q k S (n + 1) l a w := by
  induction n with
  | zero =>
    intro l a w _ _ hr hy hS _ H
    refine ⟨fun h => (by rw [h] at hr; cases hr), fun j hj => ?_⟩
    by_cases hji : j = i
    · subst hji
      exact hy.wpOp hi hS ⟨fun _ => hS, H⟩
    · have h := ready_mono hj hji
      rw [H.1] at h
      cases h
  | succ n ih =>
    intro l a w hc hfree hr hy hS hk H
    refine ⟨fun h => (by rw [h] at hr; cases hr), fun j hj => ?_⟩
    by_cases hji : j = i
    · subst hji
      exact hy.wpOp hi hS ⟨fun _ => hS, H⟩
    have hjk : j ≠ k := fun e => waits_unready hc hw hr (e ▸ hj)
    obtain ⟨hjun, oj, hoj, hall⟩ := mem_ready.1 hj
    have hnot : ∀ e ∈ oj.after, Region.binds md e = true → e.on ≠ i := by
      intro e he hb heq
      have h1 := hall e he hb
      have h0 := (mem_ready.1 hr).1
      rw [heq] at h1
      rcases Nat.lt_or_ge i l.size with h' | h'
      · simp [h'] at h0 h1
        rw [h0] at h1
        cases h1
      · simp [Array.getElem?_eq_none h'] at h1
    have h2 := wpOp_putIf hoj (hfree j oj hoj hji hjun hnot) (fun cs b => hsel i o cs b hi) (fun cs b => hsel j oj cs b hoj) hQ hy (H.2 j (ready_mono hj hji))
    have hk1 : (l.setIfInBounds j true).getD k true = false := by rw [Go.getD_set_ne true hjk]; exact hk
    have hik : i ≠ k := fun e => waits_unready hc hw hr (e ▸ hr)
    have hk2 : ((l.setIfInBounds i true).setIfInBounds j true).getD k true = false := by rw [Go.getD_set_ne true hjk, Go.getD_set_ne true hik]; exact hk
    have hfree' : ∀ m om, ops[m]? = some om → m ≠ i → (l.setIfInBounds j true).getD m true = false → (∀ e ∈ om.after, Region.binds md e = true → e.on ≠ i) → o.apart ops om = true := by
      intro m om hm hmi hun hno
      refine hfree m om hm hmi ?_ hno
      by_cases e : j = m
      · subst e; exact hjun
      · rw [Go.getD_set_ne true e] at hun; exact hun
    refine wpOp_mono (fun a' w' h3 => ?_) h2
    obtain ⟨y3, s3, r3⟩ := h3
    refine ⟨fun _ => s3 hk2, ih _ a' w' (closedL_set hc hj) hfree' (ready_mono hr (Ne.symm hji)) y3 (s3 hk2) hk1 ?_⟩
    rw [Array.setIfInBounds_comm _ _ hji]
    exact r3

theorem anyK_take {i : Nat} {o : Oper} {v : Value} {n : Nat} {l : Array Bool} {a : Act} {w : World} (hi : ops[i]? = some o)
    (hs : Region.noSelect ops = true) (hf : Region.free md ops l i = true) (hr : (Region.ready md ops l).contains i = true) {N : Nat} (hw : waits md ops N k i = true) (hc : closedB md ops l = true) (hk : l.getD k true = false)
    (hQ : ∀ c a w, Q (.panic c) (a.put o.dst v) w → Q (.panic c) a w) (hy : YieldsIf P ops S o v a) (hS : S w)
    (h : anyK P md ops Q k S n (l.setIfInBounds i true) (a.put o.dst v) w) : anyK P md ops Q k S (n + 1) l a w :=
  anyK_first hi (Region.noSelect_spec hs) hQ hw n l a w (closedB_spec hc) (Region.free_spec hi hf) (by simpa using hr) hy hS hk h

/-- One alone may come up. -/
theorem anyK_one {i : Nat} {o : Oper} {n : Nat} {l : Array Bool} {a : Act} {w : World} (hr : Region.ready md ops l = [i]) (ho : ops[i]? = some o)
    (h : ∀ K' : Act → World → Prop, Shut (∀ a w, ((l.setIfInBounds i true).getD k true = false → S w) → anyK P md ops Q k S n (l.setIfInBounds i true) a w → K' a w) → if Region.wanted o (yielded ops a.tmps) = true then Oper.wp P o a w K' Q else K' (a.put o.dst undef) w) :
    anyK P md ops Q k S (n + 1) l a w := by
  refine ⟨fun h0 => (by rw [hr] at h0; cases h0), fun j hj => ?_⟩
  rw [hr] at hj
  rcases List.mem_singleton.1 hj with rfl
  exact wpOp_step ho (fun K' hK => h K' (fun a w hS hW => hK a w ⟨hS, hW⟩))

theorem anyK_done {l : Array Bool} {a : Act} {w : World} (hr : Region.ready md ops l = []) (h : Q .normal a w) (n : Nat) : anyK P md ops Q k S n l a w := by
  cases n with
  | zero => exact ⟨hr, h⟩
  | succ n => exact ⟨fun _ => h, by rw [hr]; intro i hi; cases hi⟩

theorem wp_region_K (k : Nat) (S : World → Prop) {id : Nat} {a : Act} {w : World} (hm : P.follows .mixedOrders = true)
    (h : anyK P .any ops Q k S ops.size (Array.replicate ops.size false) a w.drew) : (Code.region id ops true).wp P Q a w :=
  wp_region_any hm (anyK_plain _ _ _ _ h)
end

end Go.Proofs.YtdiojbgbeeojkaaGreatDoor
