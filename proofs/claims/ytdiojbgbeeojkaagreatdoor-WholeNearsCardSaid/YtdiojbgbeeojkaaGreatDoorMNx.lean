/-
  A row of numbers of the reference, one behind the other in a slice of the call's own.
-/
import Derived.Test.YtdiojbgbeeojkaaGreatDoorMFzA
import Derived.Test.YtdiojbgbeeojkaaGreatDoorMNv
import Derived.Test.YtdiojbgbeeojkaaGreatDoorMFzB
import Derived.BigRegion

namespace Go.Proofs.YtdiojbgbeeojkaaGreatDoor
open Go.RowKit

theorem z_info : (Tryz.prog.info? 33).map (fun i => (i.zero, i.size, i.bytes)) = some (some (.agg #[.bool false, .slice none 0 0]), 2, 32) := by kernel_rfl

/-- A number of the reference in a variable. -/
def ZV (w : World) (g : Nat) (z : Int) : Prop := ∃ (b : Bool) (a : Option Addr) (n c : Nat), ZBx w g b a n c ∧ IsZ w b a n c z
theorem ZV.ext {w w' : World} {g : Nat} {z : Int} (h : ZV w g z) (k : Ext w w') : ZV w' g z := by
  obtain ⟨b, a, n, c, h1, h2⟩ := h
  exact ⟨b, a, n, c, h1.ext k, h2.ext k⟩
theorem ZV.lt {w : World} {g : Nat} {z : Int} (h : ZV w g z) : g < w.heap.size := by
  obtain ⟨b, a, n, c, h1, h2⟩ := h
  exact h1.lt
/-- A fraction of the reference in a variable. -/
def FV (w : World) (g : Nat) (p q : Int) : Prop := ∃ (b : Bool) (a : Option Addr) (n c : Nat) (b' : Bool) (a' : Option Addr) (n' c' : Nat), FZBx w g b a n c b' a' n' c' ∧ IsZ w b a n c p ∧ IsZ w b' a' n' c' q
theorem FV.ext {w w' : World} {g : Nat} {p q : Int} (h : FV w g p q) (k : Ext w w') : FV w' g p q := by
  obtain ⟨b, a, n, c, b', a', n', c', h1, h2, h3⟩ := h
  exact ⟨b, a, n, c, b', a', n', c', h1.ext k, h2.ext k, h3.ext k⟩
theorem FV.lt {w : World} {g : Nat} {p q : Int} (h : FV w g p q) : g < w.heap.size := by
  obtain ⟨b, a, n, c, b', a', n', c', h1, h2⟩ := h
  exact h1.lt

/-- What is written elsewhere, into a block that holds no digits. -/
theorem ZV.only {w w' : World} {g k : Nat} {z : Int} {cs : Array Value} {T : TypeId} {fr : Nat × Nat} (h : ZV w g z) (hk : w.heap[k]? = some (.cells cs T fr)) (hT : T ≠ 3) (hO : Only k w w') (hne : g ≠ k) : ZV w' g z := by
  obtain ⟨b, a, n, c, h1, h2⟩ := h
  exact ⟨b, a, n, c, h1.only hO hne, h2.box hk hT hO⟩
theorem FV.only {w w' : World} {g k : Nat} {p q : Int} {cs : Array Value} {T : TypeId} {fr : Nat × Nat} (h : FV w g p q) (hk : w.heap[k]? = some (.cells cs T fr)) (hT : T ≠ 3) (hO : Only k w w') (hne : g ≠ k) : FV w' g p q := by
  obtain ⟨b, a, n, c, b', a', n', c', h1, h2, h3⟩ := h
  exact ⟨b, a, n, c, b', a', n', c', h1.only hO hne, h2.box hk hT hO, h3.box hk hT hO⟩

/-- The numbers zs lie one behind the other in a slice of the call's own. -/
def PtOwn (w : World) (base : Nat) (v : Value) (zs : List Int) : Prop :=
  ∃ xs : List Value, w.ownsRow base 33 2 v zs.length xs ∧ ∀ t, t < zs.length → ∃ (b : Bool) (a : Option Addr) (m c : Nat), xs[2 * t]? = some (.bool b) ∧ xs[2 * t + 1]? = some (.slice a m c) ∧ IsZ w b a m c (zs.getD t 0)

theorem PtOwn.nil (w : World) (base : Nat) : PtOwn w base (.slice none 0 0) [] :=
  ⟨[], ⟨rfl, Or.inl ⟨rfl, rfl⟩⟩, fun t ht => by simp at ht⟩
theorem ownsRow_keep {w w' : World} {base : Nat} {e : TypeId} {size : Nat} {v : Value} {n : Nat} {xs : List Value} (h : w.ownsRow base e size v n xs) (hk : ∀ (g : Nat) (cur : Array Value), base ≤ g → w.heap[g]? = some (.cells cur e (0, 0)) → w'.heap[g]? = w.heap[g]?) : w'.ownsRow base e size v n xs := by
  refine ⟨h.1, ?_⟩
  rcases h.2 with h | ⟨g, cap, cur, hv, hb, hg, rest⟩
  · exact Or.inl h
  · exact Or.inr ⟨g, cap, cur, hv, hb, (hk g cur hb hg).trans hg, rest⟩
theorem PtOwn.ext {w w' : World} {base : Nat} {v : Value} {zs : List Int} (h : PtOwn w base v zs) (k : Ext w w') : PtOwn w' base v zs := by
  obtain ⟨xs, h1, h2⟩ := h
  refine ⟨xs, ownsRow_keep h1 (fun g cur _ hg => k.block g (Array.getElem?_eq_some_iff.1 hg).1), fun t ht => ?_⟩
  obtain ⟨b, a, m, c, e1, e2, e3⟩ := h2 t ht
  exact ⟨b, a, m, c, e1, e2, e3.ext k⟩
/-- Written elsewhere: into a block ahead of it, or one of another kind. -/
theorem PtOwn.only {w w' : World} {base : Nat} {v : Value} {zs : List Int} {k : Nat} {cs : Array Value} {T : TypeId} {fr : Nat × Nat} (h : PtOwn w base v zs) (hk : w.heap[k]? = some (.cells cs T fr)) (hT : T ≠ 3) (hO : Only k w w') (hf : k < base ∨ T ≠ 33) : PtOwn w' base v zs := by
  obtain ⟨xs, h1, h2⟩ := h
  refine ⟨xs, ownsRow_keep h1 (fun g cur hb hg => hO.block g (fun e => ?_)), fun t ht => ?_⟩
  · rcases hf with hf | hf
    · omega
    · rw [e, hk] at hg; cases hg; exact hf rfl
  · obtain ⟨b, a, m, c, e1, e2, e3⟩ := h2 t ht
    exact ⟨b, a, m, c, e1, e2, e3.box hk hT hO⟩

/-- Where it lies. -/
theorem PtOwn.at {w : World} {base : Nat} {v : Value} {zs : List Int} (h : PtOwn w base v zs) (hz : 0 < zs.length) : ∃ g cap, v = .slice (some ⟨g, 0, none⟩) zs.length cap ∧ base ≤ g ∧ g < w.heap.size ∧ zs.length ≤ cap ∧ cap ≤ maxLen ∧ ∀ t, t < zs.length → ∃ (b : Bool) (a : Option Addr) (m c : Nat), w.cell? ⟨g, 2 * t, none⟩ = some (.bool b) ∧ w.cell? ⟨g, 2 * t + 1, none⟩ = some (.slice a m c) ∧ IsZ w b a m c (zs.getD t 0) := by
  obtain ⟨xs, h1, h2⟩ := h
  rcases h1.2 with ⟨_, h⟩ | ⟨g, cap, cur, hv, hb, hg, hn, hcm, _, htk⟩
  · omega
  · refine ⟨g, cap, hv, hb, (Array.getElem?_eq_some_iff.1 hg).1, hn, hcm, fun t ht => ?_⟩
    obtain ⟨b, a, m, c, e1, e2, e3⟩ := h2 t ht
    have hc : ∀ j, j < zs.length * 2 → w.cell? ⟨g, j, none⟩ = xs[j]? := by
      intro j hj
      rw [cell_of_row w g j cur _ (0, 0) hg, ← Array.getElem?_toList, ← htk, List.getElem?_take, if_pos hj]
    exact ⟨b, a, m, c, by rw [hc _ (by omega)]; exact e1, by rw [hc _ (by omega)]; exact e2, e3⟩

/-- One more behind them. -/
theorem PtOwn.snoc {w w' : World} {base : Nat} {v' : Value} {zs : List Int} {xs : List Value} {b : Bool} {a : Option Addr} {m c : Nat} {z : Int}
    (h1 : w'.ownsRow base 33 2 v' (zs.length + 1) (xs ++ [.bool b, .slice a m c])) (hx : xs.length = zs.length * 2)
    (h2 : ∀ t, t < zs.length → ∃ (b : Bool) (a : Option Addr) (m c : Nat), xs[2 * t]? = some (.bool b) ∧ xs[2 * t + 1]? = some (.slice a m c) ∧ IsZ w b a m c (zs.getD t 0))
    (hg : ∀ (b : Bool) (a : Option Addr) (m c : Nat) (z : Int), IsZ w b a m c z → IsZ w' b a m c z) (hI : IsZ w b a m c z) : PtOwn w' base v' (zs ++ [z]) := by
  have hl : (zs ++ [z]).length = zs.length + 1 := by simp
  refine ⟨xs ++ [.bool b, .slice a m c], by rw [hl]; exact h1, fun t ht => ?_⟩
  rw [hl] at ht
  by_cases e : t = zs.length
  · subst e
    refine ⟨b, a, m, c, ?_, ?_, ?_⟩
    · rw [List.getElem?_append_right (by omega), show 2 * zs.length - xs.length = 0 by omega]; rfl
    · rw [List.getElem?_append_right (by omega), show 2 * zs.length + 1 - xs.length = 1 by omega]; rfl
    · rw [List.getD_eq_getElem?_getD, List.getElem?_append_right (Nat.le_refl _), Nat.sub_self]
      exact hg _ _ _ _ _ hI
  · obtain ⟨b', a', m', c', e1, e2, e3⟩ := h2 t (by omega)
    refine ⟨b', a', m', c', ?_, ?_, ?_⟩
    · rw [List.getElem?_append_left (by omega)]; exact e1
    · rw [List.getElem?_append_left (by omega)]; exact e2
    · rw [List.getD_eq_getElem?_getD, List.getElem?_append_left (by omega), ← List.getD_eq_getElem?_getD]
      exact hg _ _ _ _ _ e3

/-- A block that grows, or moves, holds no digits. -/
theorem IsZ.grown {w w' : World} {row : Option Nat} {b : Bool} {a : Option Addr} {n c : Nat} {z : Int} (h : IsZ w b a n c z) (hg : w.grownBy w' row) (hr : ∀ k, row = some k → ∃ cs fr, w.heap[k]? = some (.cells cs 33 fr)) : IsZ w' b a n c z := by
  obtain ⟨l, h1, h2, h3, h4, h5⟩ := h
  refine ⟨l, h1, h2, h3, ?_, h5⟩
  rcases h4 with h4 | ⟨k, o, rfl, hb, hc⟩
  · exact Or.inl h4
  · have hblk : w'.heap[k]? = w.heap[k]? := by
      refine hg.block k hb.lt (fun e => ?_)
      obtain ⟨cs, fr, e2⟩ := hr k e.symm
      obtain ⟨cur, fr', e3⟩ := hb
      rw [e2] at e3
      cases e3
    exact Or.inr ⟨k, o, rfl, hb.block hblk, fun t ht => (World.cell?_of_block (a := ⟨k, o + t, none⟩) hblk).trans (hc t ht)⟩
theorem PtOwn.kind {w : World} {base n size : Nat} {v : Value} {xs : List Value} {e : TypeId} (h : w.ownsRow base e size v n xs) : ∀ k, v.ownBlock = some k → base ≤ k ∧ ∃ cs fr, w.heap[k]? = some (.cells cs e fr) := by
  intro k hk
  rcases h.2 with ⟨rfl, _⟩ | ⟨g, cap, cur, rfl, hb, hg, _⟩
  · simp [Value.ownBlock] at hk
  · simp [Value.ownBlock] at hk
    subst hk
    exact ⟨hb, cur, (0, 0), hg⟩
theorem PtOwn.old {w : World} {base : Nat} {v : Value} {zs : List Int} (h : PtOwn w base v zs) : ∀ k, v.ownBlock = some k → base ≤ k ∧ k < w.heap.size := by
  intro k hk
  obtain ⟨xs, h1, _⟩ := h
  obtain ⟨hb, cs, fr, e⟩ := PtOwn.kind h1 k hk
  exact ⟨hb, (Array.getElem?_eq_some_iff.1 e).1⟩
theorem ZV.grown {w w' : World} {row : Option Nat} {g : Nat} {z : Int} (h : ZV w g z) (hg : w.grownBy w' row) (hr : ∀ k, row = some k → g ≠ k ∧ ∃ cs fr, w.heap[k]? = some (.cells cs 33 fr)) : ZV w' g z := by
  obtain ⟨b, a, n, c, h1, h2⟩ := h
  exact ⟨b, a, n, c, ⟨(hg.block g h1.lt (fun e => (hr g e.symm).1 rfl)).trans h1.row⟩, h2.grown hg (fun k hk => (hr k hk).2)⟩

theorem new_z (w : World) (b : Bool) (a : Option Addr) (n c : Nat) (e : TypeId) : ∀ j u, ([.bool b, .slice a n c] : List Value)[j]? = some u → (w.alloc (.cells #[.bool b, .slice a n c] e)).cell? ((⟨w.heap.size, 0, none⟩ : Addr).add j) = some u := by
  intro j u hu
  have hadd : (⟨w.heap.size, 0, none⟩ : Addr).add j = ⟨w.heap.size, j, none⟩ := by unfold Addr.add; split <;> simp_all
  rw [hadd, cell_of_row _ _ j _ _ (0, 0) (heap_alloc_new w _)]
  match j, hu with
  | 0, hu => simpa using hu
  | 1, hu => simpa using hu
  | k + 2, hu => simp at hu
theorem one_z (b : Bool) (a : Option Addr) (n c : Nat) : ∀ u ∈ ([.bool b, .slice a n c] : List Value), u.oneCell' = true := by
  intro u hu
  simp only [List.mem_cons, List.not_mem_nil, or_false] at hu
  rcases hu with rfl | rfl <;> rfl

theorem ZBx.sets {w : World} {k : Nat} {b : Bool} {a : Option Addr} {n c : Nat} (_h : ZBx w k b a n c) (b' : Bool) (a' : Option Addr) (n' c' : Nat) : Only k w ((w.setCell ⟨k, 0, none⟩ (.bool b')).setCell ⟨k, 1, none⟩ (.slice a' n' c')) :=
  ((Only.refl _ _).setCell _ _).setCell _ _
theorem ZV.own {w : World} {k : Nat} {b : Bool} {a : Option Addr} {n c : Nat} (h : ZBx w k b a n c) {b' : Bool} {a' : Option Addr} {n' c' : Nat} {z : Int} (hI : IsZ w b' a' n' c' z) : ZV ((w.setCell ⟨k, 0, none⟩ (.bool b')).setCell ⟨k, 1, none⟩ (.slice a' n' c')) k z :=
  ⟨b', a', n', c', h.own b' a' n' c', hI.box h.row (by decide) (h.sets b' a' n' c')⟩
theorem ZV.put {w : World} {g k : Nat} {z : Int} {b : Bool} {a : Option Addr} {n c : Nat} (h : ZV w g z) (hk : ZBx w k b a n c) (hne : g ≠ k) (b' : Bool) (a' : Option Addr) (n' c' : Nat) : ZV ((w.setCell ⟨k, 0, none⟩ (.bool b')).setCell ⟨k, 1, none⟩ (.slice a' n' c')) g z :=
  h.only hk.row (by decide) (hk.sets b' a' n' c') hne
theorem zv_new {w : World} {b : Bool} {a : Option Addr} {n c : Nat} {z : Int} (h : IsZ w b a n c z) : ZV (w.alloc (.cells #[.bool b, .slice a n c] 33)) w.heap.size z :=
  ⟨b, a, n, c, zbx_new w b a n c, h.ext (ext_alloc _ _)⟩

end Go.Proofs.YtdiojbgbeeojkaaGreatDoor

/-
  The reference's Near: the walk.
-/
namespace Go.Proofs.YtdiojbgbeeojkaaGreatDoor
open Go.RowKit

/-- While the quotients are gathered. -/
structure FnA (W w : World) (base H A B : Nat) (a b M : Int) : Prop where
  vA : ZV w A a
  vB : ZV w B b
  vM : ZV w (H + 1) M
  fR : FZBx w (H + 2) false none 0 0 false none 0 0
  X : Ext W w
  ne : W.heap.size = H ∧ H + 2 < A ∧ H + 2 < B ∧ A ≠ B ∧ A < base ∧ B < base
section
variable {W w w' : World} {base H A B : Nat} {a b M : Int}
theorem FnA.ext (h : FnA W w base H A B a b M) (k : Ext w w') : FnA W w' base H A B a b M := ⟨h.vA.ext k, h.vB.ext k, h.vM.ext k, h.fR.ext k, h.X.trans k, h.ne⟩
theorem FnA.putA (h : FnA W w base H A B a b M) {b' : Bool} {a' : Option Addr} {n' c' : Nat} {z : Int} (hI : IsZ w b' a' n' c' z) : FnA W ((w.setCell ⟨A, 0, none⟩ (.bool b')).setCell ⟨A, 1, none⟩ (.slice a' n' c')) base H A B z b M := by
  have hn := h.ne
  obtain ⟨s, x, n, c, hb, _⟩ := h.vA
  exact ⟨ZV.own hb hI, h.vB.put hb (by omega) b' a' n' c', h.vM.put hb (by omega) b' a' n' c', h.fR.only (hb.sets b' a' n' c') (by omega), zput2 h.X (by omega) _ _, hn⟩
theorem FnA.putB (h : FnA W w base H A B a b M) {b' : Bool} {a' : Option Addr} {n' c' : Nat} {z : Int} (hI : IsZ w b' a' n' c' z) : FnA W ((w.setCell ⟨B, 0, none⟩ (.bool b')).setCell ⟨B, 1, none⟩ (.slice a' n' c')) base H A B a z M := by
  have hn := h.ne
  obtain ⟨s, x, n, c, hb, _⟩ := h.vB
  exact ⟨h.vA.put hb (by omega) b' a' n' c', ZV.own hb hI, h.vM.put hb (by omega) b' a' n' c', h.fR.only (hb.sets b' a' n' c') (by omega), zput2 h.X (by omega) _ _, hn⟩
theorem FnA.grown (h : FnA W w base H A B a b M) {row : Option Nat} (hg : w.grownBy w' row) (hr : ∀ k, row = some k → base ≤ k ∧ ∃ cs fr, w.heap[k]? = some (.cells cs 33 fr)) : FnA W w' base H A B a b M := by
  have hn := h.ne
  refine ⟨h.vA.grown hg (fun k hk => ⟨by have := (hr k hk).1; omega, (hr k hk).2⟩), h.vB.grown hg (fun k hk => ⟨by have := (hr k hk).1; omega, (hr k hk).2⟩), h.vM.grown hg (fun k hk => ⟨by have := (hr k hk).1; omega, (hr k hk).2⟩), ⟨(hg.block _ h.fR.lt (fun e => by have := (hr _ e.symm).1; omega)).trans h.fR.row⟩, ext_grown h.X hg (fun k hk => by have := (hr k hk).1; omega), hn⟩
end

/-- Behind the quotients. -/
structure FnR (W w : World) (base H : Nat) (v : Value) (l : List Int) (M : Int) : Prop where
  pt : PtOwn w base v l
  vM : ZV w (H + 1) M
  fR : FZBx w (H + 2) false none 0 0 false none 0 0
  X : Ext W w
  ne : W.heap.size = H ∧ H + 2 < base
theorem FnR.ext {W w w' : World} {base H : Nat} {v : Value} {l : List Int} {M : Int} (h : FnR W w base H v l M) (k : Ext w w') : FnR W w' base H v l M := ⟨h.pt.ext k, h.vM.ext k, h.fR.ext k, h.X.trans k, h.ne⟩

theorem only4 (w : World) (g : Nat) (u v x y : Value) : Only g w ((((w.setCell ⟨g, 0, none⟩ u).setCell ⟨g, 1, none⟩ v).setCell ⟨g, 2, none⟩ x).setCell ⟨g, 3, none⟩ y) := ((((Only.refl _ _).setCell _ _).setCell _ _).setCell _ _).setCell _ _
section
variable {W w : World} {base H k : Nat} {v : Value} {l : List Int} {M : Int} {b : Bool} {a : Option Addr} {n c : Nat} {b' : Bool} {a' : Option Addr} {n' c' : Nat} {x : Bool} {y : Option Addr} {m d : Nat} {x' : Bool} {y' : Option Addr} {m' d' : Nat} {p q : Int}
theorem FnR.put (h : FnR W w base H v l M) (hk : FZBx w k b a n c b' a' n' c') (hb : base ≤ k) : FnR W ((((w.setCell ⟨k, 0, none⟩ (.bool x)).setCell ⟨k, 1, none⟩ (.slice y m d)).setCell ⟨k, 2, none⟩ (.bool x')).setCell ⟨k, 3, none⟩ (.slice y' m' d')) base H v l M := by
  have hn := h.ne
  have hO := only4 w k (.bool x) (.slice y m d) (.bool x') (.slice y' m' d')
  exact ⟨h.pt.only hk.row (by decide) hO (Or.inr (by decide)), h.vM.only hk.row (by decide) hO (by omega), h.fR.only hO (by omega), (h.X.put2 (by omega) _ _).put2 (by omega) _ _, hn⟩
theorem FV.own (hk : FZBx w k b a n c b' a' n' c') (I1 : IsZ w x y m d p) (I2 : IsZ w x' y' m' d' q) : FV ((((w.setCell ⟨k, 0, none⟩ (.bool x)).setCell ⟨k, 1, none⟩ (.slice y m d)).setCell ⟨k, 2, none⟩ (.bool x')).setCell ⟨k, 3, none⟩ (.slice y' m' d')) k p q := by
  have hO := only4 w k (.bool x) (.slice y m d) (.bool x') (.slice y' m' d')
  exact ⟨x, y, m, d, x', y', m', d', hk.own4 x y m d x' y' m' d', I1.box hk.row (by decide) hO, I2.box hk.row (by decide) hO⟩
theorem FV.put {g : Nat} (h : FV w g p q) (hk : FZBx w k b a n c b' a' n' c') (hne : g ≠ k) : FV ((((w.setCell ⟨k, 0, none⟩ (.bool x)).setCell ⟨k, 1, none⟩ (.slice y m d)).setCell ⟨k, 2, none⟩ (.bool x')).setCell ⟨k, 3, none⟩ (.slice y' m' d')) g p q :=
  h.only hk.row (by decide) (only4 w k _ _ _ _) hne
theorem FV.cast {g : Nat} {p' q' : Int} (h : FV w g p q) (e1 : p = p') (e2 : q = q') : FV w g p' q' := e1 ▸ e2 ▸ h
theorem fv_new (I1 : IsZ w x y m d p) (I2 : IsZ w x' y' m' d' q) : FV (w.alloc (.cells #[.bool x, .slice y m d, .bool x', .slice y' m' d'] 35)) w.heap.size p q :=
  ⟨x, y, m, d, x', y', m', d', fzbx_new w x y m d x' y' m' d', I1.ext (ext_alloc _ _), I2.ext (ext_alloc _ _)⟩
end
theorem fz_newd (w : World) : FZBx (w.alloc (.cells #[.bool false, .slice none 0 0, .bool false, .slice none 0 0] 35)).drew w.heap.size false none 0 0 false none 0 0 := (fzbx_new w false none 0 0 false none 0 0).ext (Below.drew (Ext.refl _))

/-- One of them, as the walk reads it. -/
theorem at_cells {w : World} {base g cap L : Nat} {l : List Int} (h : PtOwn w base (.slice (some ⟨g, 0, none⟩) L cap) l) (hL : l.length = L) (t : Nat) (ht : t < L) : ∃ (b : Bool) (a : Option Addr) (m c : Nat), w.cell? ⟨g, 2 * t, none⟩ = some (.bool b) ∧ w.cell? ⟨g, 2 * t + 1, none⟩ = some (.slice a m c) ∧ IsZ w b a m c (l.getD t 0) := by
  obtain ⟨g', cap', e, _, _, _, _, hc⟩ := h.at (by omega)
  cases e
  exact hc t (by omega)

theorem getD_mem (l : List Int) (i : Nat) (h : i < l.length) : l.getD i 0 ∈ l := by
  rw [List.getD_eq_getElem?_getD, List.getElem?_eq_getElem h]
  exact List.getElem_mem h
theorem pick_step (M : Int) (l : List Int) (m : Nat) (h : m < l.length) : pick M (l.take m) (l.drop m) = if M < (cev (l.take (m + 1))).2 then l.take m else pick M (l.take (m + 1)) (l.drop (m + 1)) := by
  have h1 : l.drop m = l[m] :: l.drop (m + 1) := List.drop_eq_getElem_cons h
  have h2 : l.take (m + 1) = l.take m ++ [l[m]] := by rw [List.take_add_one, List.getElem?_eq_getElem h]; rfl
  rw [h1, pick, ← h2]

theorem cev_one (q : Int) : cev [q] = (q, 1) := by simp [cev]
theorem take_drop_one (l : List Int) (n : Nat) (hn : n < l.length) : (l.take (n + 1)).drop n = [l.getD n 0] := by
  rw [List.take_add_one, List.getElem?_eq_getElem hn, List.drop_append_of_le_length (by rw [List.length_take]; omega), List.drop_eq_nil_of_le (by rw [List.length_take]; omega), List.getD_eq_getElem?_getD, List.getElem?_eq_getElem hn]
  rfl
theorem take_drop_step (l : List Int) (n j : Nat) (hj : j < n) (hn : n ≤ l.length) : (l.take n).drop j = l.getD j 0 :: (l.take n).drop (j + 1) := by
  rw [List.drop_eq_getElem_cons (by rw [List.length_take]; omega), List.getElem_take, List.getD_eq_getElem?_getD, List.getElem?_eq_getElem (by omega)]
  rfl

theorem zv2_new {w : World} {b : Bool} {a : Option Addr} {n c : Nat} {z1 : Int} {b' : Bool} {a' : Option Addr} {n' c' : Nat} {z2 : Int} (I1 : IsZ w b a n c z1) (I2 : IsZ w b' a' n' c' z2) :
    ZV ((w.alloc (.cells #[.bool b, .slice a n c] 33)).alloc (.cells #[.bool b', .slice a' n' c'] 33)).drew w.heap.size z1 ∧
    ZV ((w.alloc (.cells #[.bool b, .slice a n c] 33)).alloc (.cells #[.bool b', .slice a' n' c'] 33)).drew (w.heap.size + 1) z2 ∧
    Ext w ((w.alloc (.cells #[.bool b, .slice a n c] 33)).alloc (.cells #[.bool b', .slice a' n' c'] 33)).drew ∧
    ((w.alloc (.cells #[.bool b, .slice a n c] 33)).alloc (.cells #[.bool b', .slice a' n' c'] 33)).drew.heap.size = w.heap.size + 2 := by
  have v := zv_new (I2.ext (ext_alloc w (.cells #[.bool b, .slice a n c] 33)))
  rw [show (w.alloc (.cells #[.bool b, .slice a n c] 33)).heap.size = w.heap.size + 1 from by simp] at v
  exact ⟨((zv_new I1).ext (ext_alloc _ _)).ext (Below.drew (Ext.refl _)), v.ext (Below.drew (Ext.refl _)), Below.drew ((ext_alloc w _).trans (ext_alloc _ _)), by simp⟩

set_option maxHeartbeats 4000000 in
set_option maxRecDepth 100000 in
theorem FNear_any (b1 : Bool) (a1 : Option Addr) (n1 c1 : Nat) (b2 : Bool) (a2 : Option Addr) (n2 c2 : Nat) (bm : Bool) (am : Option Addr) (nm cm : Nat) (P Q M : Int) (w : World) (h1 : IsZ w b1 a1 n1 c1 P) (h2 : IsZ w b2 a2 n2 c2 Q) (hm : IsZ w bm am nm cm M) (X : Nat) (hX : 1 ≤ X) (hQ : 0 < Q) (hPX : P.natAbs ≤ X) (hQX : Q.natAbs ≤ X) (hdig : ∀ z : Int, z.natAbs ≤ (X + 1) * X * X → z.natAbs < 10000 ^ 40000) (hdM : M.natAbs < 10000 ^ 40000) (k0 : Nat) (hk0 : X < 2 ^ k0) (hk1 : k0 ≤ 100000) (q0 : Int) (t0 : List Int) (hcf : IsCf P Q (q0 :: t0)) :
    Calls Tryz.prog 28 #[.agg #[.bool b1, .slice a1 n1 c1, .bool b2, .slice a2 n2 c2], .agg #[.bool bm, .slice am nm cm]] w (FRet w (cev (pick M [q0] t0)).1 (cev (pick M [q0] t0)).2 40000) := by
  have Hroom := Lib.hid (cfRoom hcf hQ hPX hQX)
  have Hdig := Lib.hid hdig; have HdM := Lib.hid hdM; have Hcf := Lib.hid hcf
  have Hlen := Lib.hid (Hroom.out.len k0 hk0)
  obtain ⟨res, hres⟩ : ∃ res, pick M [q0] t0 = res := ⟨_, rfl⟩
  rw [hres]
  have Hres := Lib.hid hres
  obtain ⟨rp, hrp⟩ : ∃ rp, (cev res).1 = rp := ⟨_, rfl⟩
  obtain ⟨rq, hrq⟩ : ∃ rq, (cev res).2 = rq := ⟨_, rfl⟩
  rw [hrp, hrq]
  have Hrp := Lib.hid hrp; have Hrq := Lib.hid hrq
  clear hdig hdM hcf hres hrp hrq hk0
  have hE : Ext w (((w.alloc (.cells #[.bool b1, .slice a1 n1 c1, .bool b2, .slice a2 n2 c2] 35)).alloc (.cells #[.bool bm, .slice am nm cm] 33)).alloc (.cells #[.bool false, .slice none 0 0, .bool false, .slice none 0 0] 35)) := ((ext_alloc w _).trans (ext_alloc _ _)).trans (ext_alloc _ _)
  have bX := ((fzbx_new w b1 a1 n1 c1 b2 a2 n2 c2).ext (ext_alloc _ (.cells #[.bool bm, .slice am nm cm] 33))).ext (ext_alloc _ (.cells #[.bool false, .slice none 0 0, .bool false, .slice none 0 0] 35))
  have vM := (zv_new (hm.ext (ext_alloc w (.cells #[.bool b1, .slice a1 n1 c1, .bool b2, .slice a2 n2 c2] 35)))).ext (ext_alloc _ (.cells #[.bool false, .slice none 0 0, .bool false, .slice none 0 0] 35))
  rw [show (w.alloc (.cells #[.bool b1, .slice a1 n1 c1, .bool b2, .slice a2 n2 c2] 35)).heap.size = w.heap.size + 1 from by simp] at vM
  have fR := fzbx_new ((w.alloc (.cells #[.bool b1, .slice a1 n1 c1, .bool b2, .slice a2 n2 c2] 35)).alloc (.cells #[.bool bm, .slice am nm cm] 33)) false none 0 0 false none 0 0
  rw [show ((w.alloc (.cells #[.bool b1, .slice a1 n1 c1, .bool b2, .slice a2 n2 c2] 35)).alloc (.cells #[.bool bm, .slice am nm cm] 33)).heap.size = w.heap.size + 2 from by simp] at fR
  have H1 := Lib.hid (h1.ext hE); have H2 := Lib.hid (h2.ext hE); have HvM := Lib.hid vM; have HfR := Lib.hid fR; have HE := Lib.hid hE
  have m0 := bX.c0; have m1 := bX.c1; have m2 := bX.c2; have m3 := bX.c3; have lX := bX.lt
  clear vM fR hE hm h1 h2 bX
  go_enter Tryz.func28, Tryz.ntmps28
  go_wp2_with fail
  generalize ((w.alloc (.cells #[.bool b1, .slice a1 n1 c1, .bool b2, .slice a2 n2 c2] 35)).alloc (.cells #[.bool bm, .slice am nm cm] 33)).alloc (.cells #[.bool false, .slice none 0 0, .bool false, .slice none 0 0] 35) = W0 at *
  go_cut [6, 7] from 15 to 18 (fun s6 s7 wx => ∃ A B : Nat, s6 = .pointer (some ⟨A, 0, none⟩) ∧ s7 = .pointer (some ⟨B, 0, none⟩) ∧ FnA w wx wx.heap.size w.heap.size A B P Q M)
  case first =>
    have hE00 : Ext W0 W0 := Ext.refl _
    go_region_held3 (fun w' => w'.cell? ⟨w.heap.size, 0, none⟩ = some (.bool b1) ∧ w'.cell? ⟨w.heap.size, 1, none⟩ = some (.slice a1 n1 c1) ∧ w'.cell? ⟨w.heap.size, 2, none⟩ = some (.bool b2) ∧ w'.cell? ⟨w.heap.size, 3, none⟩ = some (.slice a2 n2 c2))
      (refine ⟨cellKeep (W := W0) ?_ lX m0, cellKeep (W := W0) ?_ lX m1, cellKeep (W := W0) ?_ lX m2, cellKeep (W := W0) ?_ lX m3⟩ <;> (repeat (first | assumption | refine Ext.put ?_ (by omega) _ | refine Ext.then ?_ _ | refine Below.drew ?_)))
      (fail)
    all_goals
      go_wp2_with fail
      go_meet
      have hl0 := HfR.out.lt
      first
      | (have h := zv2_new H1.out H2.out; exact ⟨_, _, rfl, rfl, ⟨h.1, h.2.1, HvM.out.ext h.2.2.1, HfR.out.ext h.2.2.1, HE.out.trans h.2.2.1, rfl, by omega, by omega, by omega, by rw [h.2.2.2]; omega, by rw [h.2.2.2]; omega⟩⟩)
      | (have h := zv2_new H2.out H1.out; exact ⟨_, _, rfl, rfl, ⟨h.2.1, h.1, HvM.out.ext h.2.2.1, HfR.out.ext h.2.2.1, HE.out.trans h.2.2.1, rfl, by omega, by omega, by omega, by rw [h.2.2.2]; omega, by rw [h.2.2.2]; omega⟩⟩)
  case rest =>
  obtain ⟨A, B, rfl, rfl, fa0⟩ := hcut
  obtain ⟨base, hbase⟩ : ∃ base, wc.heap.size = base := ⟨_, rfl⟩
  rw [hbase] at fa0
  have Hfa0 := Lib.hid fa0
  have Hb0 : Hid (base ≤ wc.heap.size) := by show _ ≤ _; omega
  clear m0 m1 m2 m3 lX H1 H2 HvM HfR HE fa0 hbase
  obtain ⟨i0, hi, hz0, hz1, hz2⟩ := info_parts z_info
  go_wp2_with fail
  go_loopg [5] Q.natAbs (fun k s5 wr => ∃ (zs l2 : List Int) (a b : Int), PtOwn wr base s5 zs ∧ FnA w wr base w.heap.size A B a b M ∧ IsCf a b l2 ∧ q0 :: t0 = zs ++ l2 ∧ 0 ≤ b ∧ b.natAbs = k ∧ a.natAbs ≤ X ∧ b.natAbs ≤ X ∧ base ≤ wr.heap.size)
  case atStart => exact ⟨[], q0 :: t0, P, Q, PtOwn.nil _ _, Hfa0.out, Hcf.out, rfl, by omega, rfl, hPX, hQX, Hb0.out⟩
  case round =>
    clear Hfa0 Hb0
    obtain ⟨zs, l2, za, zb, hpt, hfa, hcf, hl, hb0, hbk, haX, hbX, hbs⟩ := hrel
    have Hpt := Lib.hid hpt; have Hfa := Lib.hid hfa; have Hc2 := Lib.hid hcf; have Hl2 := Lib.hid hl; have Hbk := Lib.hid hbk
    obtain ⟨eA, aA, nA, cA, bA, IA⟩ := hfa.vA
    obtain ⟨eB, aB, nB, cB, bB, IB⟩ := hfa.vB
    have hzi := IB.zero_iff.1
    have k0' := bA.c0; have k1' := bA.c1; have k2' := bB.c0; have k3' := bB.c1
    have hXX : X ≤ (X + 1) * X * X := Nat.le_mul_of_pos_left _ (Nat.mul_pos (by omega) hX)
    by_cases h0 : nB = 0
    · have hz : zb = 0 := by have := hzi.1 h0; omega
      subst h0
      subst hz
      have hl0 := hcf.zero
      rw [hl0, List.append_nil] at hl
      subst hl
      have R0 : FnR w wr base w.heap.size u5 (q0 :: t0) M := ⟨hpt, hfa.vM, hfa.fR, hfa.X, by have := hfa.ne; omega, by have := hfa.ne; omega⟩
      obtain ⟨l, hl⟩ : ∃ l, q0 :: t0 = l := ⟨_, rfl⟩
      have Hl := Lib.hid hl
      obtain ⟨L, hL⟩ : ∃ L, l.length = L := ⟨_, rfl⟩
      have HL := Lib.hid hL
      have hL0 : 0 < L := by rw [← hL, ← hl]; simp
      have hL1 : L ≤ 200001 := by have := Hlen.out; rw [hl, hL] at this; omega
      rw [hl] at R0
      obtain ⟨g, cap, rfl, hbg, hgl, hLc, hcm, _⟩ := R0.pt.at (by omega)
      rw [hL] at R0 hLc
      have HR0 := Lib.hid R0
      have Hroom' := Lib.hid Hroom.out
      rw [hl] at Hroom'
      rw [hL]
      obtain ⟨e0, x0, y0, z0, o0, o1, J0⟩ := at_cells R0.pt hL 0 hL0
      have HJ0 := Lib.hid J0
      have iL : (0 : Int) < (L : Int) := by omega
      unfold maxLen at hcm
      have HO := Lib.hid (fun wx => ZOf_any 1 (by omega) (by omega) wx)
      have lg : g < wr.heap.size := hgl
      clear hpt hfa hcf hbk IA IB bA bB hzi k0' k1' R0 J0 hl hL hl0 Hroom Hpt Hfa Hc2 Hl2 Hbk hb0 haX hbX
      go_wp2_with fail
      clear k2' k3'
      go_cut [11] from 36 to 40 (fun s11 wx => ∃ C : Nat, s11 = .pointer (some ⟨C, 0, none⟩) ∧ FV wx C (l.getD 0 0) 1 ∧ FnR w wx base w.heap.size (.slice (some ⟨g, 0, none⟩) L cap) l M ∧ base ≤ C ∧ g < wx.heap.size)
      case first =>
        have hE00 : Ext wr wr := Ext.refl _
        have hE0d : Ext wr wr.drew := Below.drew (Ext.refl _)
        go_region_held3 (fun w' => w'.cell? ⟨g, 0, none⟩ = some (.bool e0) ∧ w'.cell? ⟨g, 1, none⟩ = some (.slice x0 y0 z0))
          (refine ⟨cellKeep (W := wr) ?_ lg o0, cellKeep (W := wr) ?_ lg o1⟩ <;> (repeat (first | assumption | refine Ext.put ?_ (by omega) _ | refine Ext.then ?_ _ | refine Below.drew ?_)))
          (first | (go_at_call 36; refine (HO.out _).mono ?_; rintro e w4 ⟨b9, a9, n9, c9, rfl, I9, l9, hx4⟩; have he4 : Ext wr w4 := Ext.trans (by (repeat (first | assumption | refine Ext.put ?_ (by omega) _ | refine Ext.then ?_ _ | refine Below.drew ?_))) hx4; have z4 := he4.size; (try (have hR1 := (fz_newd wr).ext hx4; have r0 := hR1.c0; have r1 := hR1.c1; have r2 := hR1.c2; have r3 := hR1.c3; have rf0 := hR1.f 0; have rf1 := hR1.f 1; have rf2 := hR1.f 2; have rf3 := hR1.f 3))))
        all_goals
          go_wp2_with fail
          go_meet
          first
          | exact ⟨_, rfl, fv_new (HJ0.out.ext he4) I9, (HR0.out.ext he4).ext (ext_alloc _ _), by omega, by simp; omega⟩
          | exact ⟨_, rfl, FV.own hR1 (HJ0.out.ext he4) I9, (HR0.out.ext he4).put hR1 (by omega), by omega, by simp; omega⟩
      case rest =>
      obtain ⟨C, rfl, vC, rC, bC, lg1⟩ := hcut
      have HvC := Lib.hid vC; have HrC := Lib.hid rC
      clear vC rC o0 o1 HJ0 HR0
      go_wp2_with fail
      go_loopg [12] L (fun k s12 wr => ∃ m : Nat, s12 = .int .i64 ((m : Int) + 1) ∧ 1 ≤ m ∧ m ≤ L ∧ L - m ≤ k ∧ FV wr C (cev (l.take m)).1 (cev (l.take m)).2 ∧ FnR w wr base w.heap.size (.slice (some ⟨g, 0, none⟩) L cap) l M ∧ pick M (l.take m) (l.drop m) = res ∧ g < wr.heap.size)
      case atStart =>
        have h1 : l.take 1 = [q0] := by rw [← Hl.out]; rfl
        have h2 : l.drop 1 = t0 := by rw [← Hl.out]; rfl
        have h3 : l.getD 0 0 = q0 := by rw [← Hl.out]; rfl
        exact ⟨1, rfl, Nat.le_refl _, hL0, by omega, HvC.out.cast (by rw [h1, cev_one, h3]) (by rw [h1, cev_one]), HrC.out, by rw [h1, h2]; exact Hres.out, lg1⟩
      case round =>
        clear HvC HrC lg1 lg hgl hbs
        obtain ⟨m, rfl, hm1, hmL, hmk, vC, rC, hpk, lg⟩ := hrel
        obtain ⟨bp, hbp⟩ : ∃ x, (cev (l.take m)).1 = x := ⟨_, rfl⟩
        obtain ⟨bq, hbq⟩ : ∃ x, (cev (l.take m)).2 = x := ⟨_, rfl⟩
        rw [hbp, hbq] at vC
        have Hbp := Lib.hid hbp; have Hbq := Lib.hid hbq; have HvC := Lib.hid vC; have HrC := Lib.hid rC; have Hpk := Lib.hid hpk
        by_cases hm : m = L
        · -- all have been tried
          have hfin : ¬ (m : Int) + 1 ≤ (L : Int) := by omega
          have hr : res = l.take m := by
            rw [← hpk, List.drop_eq_nil_of_le (by rw [HL.out]; omega)]; rfl
          have e1 : bp = rp := by rw [← hbp, ← hr, Hrp.out]
          have e2 : bq = rq := by rw [← hbq, ← hr, Hrq.out]
          rw [e1, e2] at vC
          obtain ⟨xa, ya, na, ca, xb, yb, nb, cb, fC, I1, I2⟩ := vC
          have d1 := I1.len_of (Hdig.out rp (by rw [← e1, ← hbp]; obtain ⟨m', rfl⟩ : ∃ m', m = m' + 1 := ⟨m - 1, by omega⟩; exact Nat.le_trans (Hroom'.out.above m') (Nat.le_mul_of_pos_right _ hX)))
          have d2 := I2.len_of (Hdig.out rq (by rw [← e2, ← hbq]; obtain ⟨m', rfl⟩ : ∃ m', m = m' + 1 := ⟨m - 1, by omega⟩; exact Nat.le_trans (Hroom'.out.below m') (Nat.le_mul_of_pos_left _ (Nat.mul_pos (by omega) hX))))
          have hO := only4 wr (w.heap.size + 2) (.bool xa) (.slice ya na ca) (.bool xb) (.slice yb nb cb)
          have HI1 := Lib.hid (I1.box rC.fR.row (by decide) hO); have HI2 := Lib.hid (I2.box rC.fR.row (by decide) hO)
          have p0 := fC.c0; have p1 := fC.c1; have p2 := fC.c2; have p3 := fC.c3; have pf0 := fC.f 0; have pf1 := fC.f 1; have pf2 := fC.f 2; have pf3 := fC.f 3
          have r0 := rC.fR.c0; have r1 := rC.fR.c1; have r2 := rC.fR.c2; have r3 := rC.fR.c3; have rf0 := rC.fR.f 0; have rf1 := rC.fR.f 1; have rf2 := rC.fR.f 2; have rf3 := rC.fR.f 3
          have HX := Lib.hid rC.X
          clear hbp hbq hpk hr e1 e2 I1 I2 hO fC rC
          go_wp2_with fail
          exact bodyPost_ret (v := .agg #[.bool xa, .slice ya na ca, .bool xb, .slice yb nb cb]) (by simp [results, Tryz.results28, go_sem, r0, r1, r2, r3]) rfl ⟨xa, ya, na, ca, xb, yb, nb, cb, rfl, HI1.out, HI2.out, d1, d2, (HX.out.put2 (by omega) _ _).put2 (by omega) _ _⟩
        · have hin : (m : Int) + 1 ≤ (L : Int) := by omega
          have imL : (m : Int) < (L : Int) := by omega
          obtain ⟨e0, x0, y0, z0, o0, o1, J0⟩ := at_cells rC.pt HL.out m (by omega)
          have HJ0 := Lib.hid J0
          rw [Nat.mul_comm 2 m] at o0 o1
          have bC0 := vC.lt
          have im0 : (0 : Int) ≤ (m : Int) := by omega
          have hw1 : IntKind.i64.wrap ((m : Int) + 1 - 1) = (m : Int) := by rw [IntKind.wrap_i64]; omega
          have hw2 : IntKind.i64.wrap (m : Int) = (m : Int) := by rw [IntKind.wrap_i64]; omega
          clear hbp hbq hpk vC rC J0
          go_upto_region 11 with fail
          go_cut [13] from 41 to 78 (fun s13 wx => ∃ D : Nat, s13 = .pointer (some ⟨D, 0, none⟩) ∧ FV wx D (l.getD m 0) 1 ∧ FV wx C bp bq ∧ FnR w wx base w.heap.size (.slice (some ⟨g, 0, none⟩) L cap) l M ∧ base ≤ D ∧ D ≠ C ∧ g < wx.heap.size)
          case first =>
            have hE00 : Ext wr wr := Ext.refl _
            have hE0d : Ext wr wr.drew := Below.drew (Ext.refl _)
            have bsW : base ≤ wr.heap.size := by omega
            go_region_held3 (fun w' => w'.cell? ⟨g, m * 2, none⟩ = some (.bool e0) ∧ w'.cell? ⟨g, m * 2 + 1, none⟩ = some (.slice x0 y0 z0))
              (refine ⟨cellKeep (W := wr) ?_ lg o0, cellKeep (W := wr) ?_ lg o1⟩ <;> (repeat (first | assumption | refine Ext.put ?_ (by omega) _ | refine Ext.then ?_ _ | refine Below.drew ?_)))
              (first | (go_at_call 36; refine (HO.out _).mono ?_; rintro e w4 ⟨b9, a9, n9, c9, rfl, I9, l9, hx4⟩; have he4 : Ext wr w4 := Ext.trans (by (repeat (first | assumption | refine Ext.put ?_ (by omega) _ | refine Ext.then ?_ _ | refine Below.drew ?_))) hx4; have z4 := he4.size; (try (have hR1 := (fz_newd wr).ext hx4; have r0 := hR1.c0; have r1 := hR1.c1; have r2 := hR1.c2; have r3 := hR1.c3; have rf0 := hR1.f 0; have rf1 := hR1.f 1; have rf2 := hR1.f 2; have rf3 := hR1.f 3))))
            all_goals
              go_wp2_with fail
              go_meet
              first
              | exact ⟨_, rfl, fv_new (HJ0.out.ext he4) I9, (HvC.out.ext he4).ext (ext_alloc _ _), (HrC.out.ext he4).ext (ext_alloc _ _), by omega, by omega, by simp; omega⟩
              | exact ⟨_, rfl, FV.own hR1 (HJ0.out.ext he4) I9, (HvC.out.ext he4).put hR1 (by omega), (HrC.out.ext he4).put hR1 (by omega), by omega, by omega, by simp; omega⟩
          case rest =>
          obtain ⟨D, rfl, vD, vC, rC, bD, hDC, lg1⟩ := hcut
          have HvD := Lib.hid vD; have HvC1 := Lib.hid vC; have HrC1 := Lib.hid rC
          have hw3 : IntKind.i64.wrap ((m : Int) + 1 - 2) = (m : Int) - 1 := by rw [IntKind.wrap_i64]; omega
          clear vD vC rC o0 o1 HJ0 HvC HrC lg bC0 hin
          go_wp2_with fail
          clear hw1 hw2 hw3
          go_loopg [14] m (fun k s14 wr => ∃ j : Nat, s14 = .int .i64 ((j : Int) - 1) ∧ j ≤ m ∧ j = k ∧ FV wr D (cev ((l.take (m + 1)).drop j)).1 (cev ((l.take (m + 1)).drop j)).2 ∧ FV wr C bp bq ∧ FnR w wr base w.heap.size (.slice (some ⟨g, 0, none⟩) L cap) l M ∧ g < wr.heap.size)
          case atStart =>
            have h1 := take_drop_one l m (by rw [HL.out]; omega)
            exact ⟨m, by go_num, Nat.le_refl _, rfl, HvD.out.cast (by rw [h1, cev_one]) (by rw [h1, cev_one]), HvC1.out, HrC1.out, lg1⟩
          case round =>
            clear HvD HvC1 HrC1 lg1
            obtain ⟨j, rfl, hjm, rfl, vD, vC, rC, lg⟩ := hrel
            by_cases hj : j = 0
            · subst hj
              rw [List.drop_zero] at vD
              obtain ⟨cp, hcp⟩ : ∃ x, (cev (l.take (m + 1))).1 = x := ⟨_, rfl⟩
              obtain ⟨cq, hcq⟩ : ∃ x, (cev (l.take (m + 1))).2 = x := ⟨_, rfl⟩
              rw [hcp, hcq] at vD
              have hst := pick_step M l m (by rw [HL.out]; omega)
              rw [hcq, Hpk.out] at hst
              have Hst := Lib.hid hst
              have dcq : cq.natAbs < 10000 ^ 40000 := Hdig.out cq (by rw [← hcq]; exact Nat.le_trans (Hroom'.out.below m) (Nat.le_mul_of_pos_left _ (Nat.mul_pos (by omega) hX)))
              have Hcp := Lib.hid hcp; have Hcq := Lib.hid hcq; have HvC := Lib.hid vC; have HrC := Lib.hid rC
              obtain ⟨xa, ya, na, ca, xb, yb, nb, cb, fD, I1, I2⟩ := vD
              have HfD := Lib.hid fD; have HI1 := Lib.hid I1; have HI2 := Lib.hid I2
              obtain ⟨xm, ym, nm', cm', fM, IM⟩ := rC.vM
              have p0 := fD.c0; have p1 := fD.c1; have p2 := fD.c2; have p3 := fD.c3; have pf0 := fD.f 0; have pf1 := fD.f 1; have pf2 := fD.f 2; have pf3 := fD.f 3
              have o0 := fM.c0; have o1 := fM.c1
              obtain ⟨kc, hkc⟩ : ∃ kc : Int, kc = if cq - M < 0 then -1 else if 0 < cq - M then 1 else 0 := ⟨_, rfl⟩
              have HC := Lib.hid (ZCmp_any xb xm yb ym nb cb nm' cm' cq M wr I2 IM (by have := I2.len_of dcq; omega) (by have := IM.len_of HdM.out; omega) kc hkc)
              clear hcp hcq hst vC rC fD I1 I2 fM IM
              by_cases hM : M < cq
              · have hk1 : (0 : Int) < kc := by rw [hkc, if_neg (by omega), if_pos (by omega)]; decide
                have hr : res = l.take m := by rw [Hst.out, if_pos hM]
                have e1 : bp = rp := by rw [← Hbp.out, ← hr, Hrp.out]
                have e2 : bq = rq := by rw [← Hbq.out, ← hr, Hrq.out]
                have hbnd1 : rp.natAbs < 10000 ^ 40000 := Hdig.out rp (by rw [← e1, ← Hbp.out]; obtain ⟨m', rfl⟩ : ∃ m', m = m' + 1 := ⟨m - 1, by omega⟩; exact Nat.le_trans (Hroom'.out.above m') (Nat.le_mul_of_pos_right _ hX))
                have hbnd2 : rq.natAbs < 10000 ^ 40000 := Hdig.out rq (by rw [← e2, ← Hbq.out]; obtain ⟨m', rfl⟩ : ∃ m', m = m' + 1 := ⟨m - 1, by omega⟩; exact Nat.le_trans (Hroom'.out.below m') (Nat.le_mul_of_pos_left _ (Nat.mul_pos (by omega) hX)))
                have Hb1 := Lib.hid hbnd1; have Hb2 := Lib.hid hbnd2
                rw [e1, e2] at HvC
                clear hkc hM hr e1 e2 hbnd1 hbnd2 Hst dcq
                go_wp2_with fail
                refine HC.out.mono ?_
                rintro e w4 ⟨rfl, hx4⟩
                obtain ⟨ua, va, na', ca', ub, vb, nb', cb', fC, I3, I4⟩ := HvC.out.ext hx4
                have d1 := I3.len_of Hb1.out; have d2 := I4.len_of Hb2.out
                have rC4 := HrC.out.ext hx4
                have hO := only4 w4 (w.heap.size + 2) (.bool ua) (.slice va na' ca') (.bool ub) (.slice vb nb' cb')
                have HI3 := Lib.hid (I3.box rC4.fR.row (by decide) hO); have HI4 := Lib.hid (I4.box rC4.fR.row (by decide) hO)
                have q0 := fC.c0; have q1 := fC.c1; have q2 := fC.c2; have q3 := fC.c3; have qf0 := fC.f 0; have qf1 := fC.f 1; have qf2 := fC.f 2; have qf3 := fC.f 3
                have t0 := rC4.fR.c0; have t1 := rC4.fR.c1; have t2 := rC4.fR.c2; have t3 := rC4.fR.c3; have tf0 := rC4.fR.f 0; have tf1 := rC4.fR.f 1; have tf2 := rC4.fR.f 2; have tf3 := rC4.fR.f 3
                have HX := Lib.hid rC4.X
                clear I3 I4 hO fC rC4 o0 o1 p0 p1 p2 p3
                go_wp2_with fail
                exact bodyPost_ret (v := .agg #[.bool ua, .slice va na' ca', .bool ub, .slice vb nb' cb']) (by simp [results, Tryz.results28, go_sem, t0, t1, t2, t3]) rfl ⟨ua, va, na', ca', ub, vb, nb', cb', rfl, HI3.out, HI4.out, d1, d2, (HX.out.put2 (by omega) _ _).put2 (by omega) _ _⟩
              · have hk1 : ¬ (0 : Int) < kc := by rw [hkc]; split <;> (try split) <;> omega
                have hr : pick M (l.take (m + 1)) (l.drop (m + 1)) = res := by rw [Hst.out, if_neg hM]
                have Hr := Lib.hid hr
                clear hkc hM hr Hst dcq
                have hw5 : IntKind.i64.wrap ((m : Int) + 1 + 1) = (m : Int) + 1 + 1 := by rw [IntKind.wrap_i64]; omega
                go_wp2_with fail
                refine HC.out.mono ?_
                rintro e w4 ⟨rfl, hx4⟩
                obtain ⟨ua, va, na', ca', ub, vb, nb', cb', fC, _, _⟩ := HvC.out.ext hx4
                have fD4 := HfD.out.ext hx4
                have vC9 := FV.own fC (HI1.out.ext hx4) (HI2.out.ext hx4)
                have rC9 := (HrC.out.ext hx4).put fC bC (x := xa) (y := ya) (m := na) (d := ca) (x' := xb) (y' := yb) (m' := nb) (d' := cb)
                have HvC9 := Lib.hid vC9; have HrC9 := Lib.hid rC9
                have lg9 : g < w4.heap.size := Nat.lt_of_lt_of_le lg hx4.size
                have q0 := fC.c0; have q1 := fC.c1; have q2 := fC.c2; have q3 := fC.c3; have qf0 := fC.f 0; have qf1 := fC.f 1; have qf2 := fC.f 2; have qf3 := fC.f 3
                have t0 := fD4.c0; have t1 := fD4.c1; have t2 := fD4.c2; have t3 := fD4.c3; have tf0 := fD4.f 0; have tf1 := fD4.f 1; have tf2 := fD4.f 2; have tf3 := fD4.f 3
                have n1' : ¬ C = D := fun e => hDC e.symm
                clear vC9 rC9 fC fD4 o0 o1 p0 p1 p2 p3 HvC HrC HfD HI1 HI2
                go_wp2_with fail
                go_roundg (L - (m + 1))
                case measure => omega
                case rel => exact ⟨m + 1, by go_num, by omega, by omega, Nat.le_refl _, HvC9.out.cast Hcp.out.symm Hcq.out.symm, HrC9.out, Hr.out, by simpa using lg9⟩
            · obtain ⟨i, rfl⟩ : ∃ i, j = i + 1 := ⟨j - 1, by omega⟩
              have ij1 : ((i + 1 : Nat) : Int) - 1 = (i : Int) := by omega
              rw [ij1]
              have ii0 : (0 : Int) ≤ (i : Int) := by omega
              have iiL : (i : Int) < (L : Int) := by omega
              obtain ⟨e0, x0, y0, z0, o0, o1, J0⟩ := at_cells rC.pt HL.out i (by omega)
              have HJ0 := Lib.hid J0
              rw [Nat.mul_comm 2 i] at o0 o1
              obtain ⟨b1', b2', b3', b4'⟩ := Hroom'.out.mid (m + 1) i
              have hs := cev_step (l.getD i 0) ((l.take (m + 1)).drop (i + 1)) b3'
              rw [← take_drop_step l (m + 1) i (by omega) (by rw [HL.out]; omega)] at hs
              obtain ⟨cp, hcp⟩ : ∃ x, (cev ((l.take (m + 1)).drop (i + 1))).1 = x := ⟨_, rfl⟩
              obtain ⟨cq, hcq⟩ : ∃ x, (cev ((l.take (m + 1)).drop (i + 1))).2 = x := ⟨_, rfl⟩
              rw [hcp, hcq] at vD hs
              rw [hcp] at b1'; rw [hcq] at b2'
              have hXX : X ≤ (X + 1) * X * X := Nat.le_mul_of_pos_left _ (Nat.mul_pos (by omega) hX)
              have Hdp := Lib.hid (Hdig.out cp (by omega)); have Hdq := Lib.hid (Hdig.out cq (by omega))
              have Hs1 := Lib.hid hs.1; have Hs2 := Lib.hid hs.2.1; have Hs3 := Lib.hid hs.2.2.1; have Hs4 := Lib.hid hs.2.2.2
              have dq0 := J0.len_of (Hdig.out _ (Nat.le_trans (Hroom'.out.quot _ (getD_mem l i (by rw [HL.out]; omega))) hXX))
              have HvC := Lib.hid vC; have HrC := Lib.hid rC
              obtain ⟨xa, ya, na, ca, xb, yb, nb, cb, fD, I1, I2⟩ := vD
              have HfD := Lib.hid fD; have HI1 := Lib.hid I1; have HI2 := Lib.hid I2
              have dna := I1.len_of Hdp.out; have dnb := I2.len_of Hdq.out
              have p0 := fD.c0; have p1 := fD.c1; have p2 := fD.c2; have p3 := fD.c3; have lD := fD.lt
              have hne := rC.ne
              have hw4 : IntKind.i64.wrap ((i : Int) - 1) = (i : Int) - 1 := by rw [IntKind.wrap_i64]; omega
              clear hcp hcq hs vC rC J0 fD I1 I2 b1' b2' b3' b4' hXX hj ij1
              go_wp2_with fail
              have hE0d : Ext wr wr.drew := Below.drew (Ext.refl _)
              refine wp_region_K 12 (fun w' => w'.cell? ⟨g, i * 2, none⟩ = some (.bool e0) ∧ w'.cell? ⟨g, i * 2 + 1, none⟩ = some (.slice x0 y0 z0) ∧ w'.cell? ⟨D, 0, none⟩ = some (.bool xa) ∧ w'.cell? ⟨D, 1, none⟩ = some (.slice ya na ca) ∧ w'.cell? ⟨D, 2, none⟩ = some (.bool xb) ∧ w'.cell? ⟨D, 3, none⟩ = some (.slice yb nb cb)) (by kernel_rfl) ?_
              have hHeld : wr.drew.cell? ⟨g, i * 2, none⟩ = some (.bool e0) ∧ wr.drew.cell? ⟨g, i * 2 + 1, none⟩ = some (.slice x0 y0 z0) ∧ wr.drew.cell? ⟨D, 0, none⟩ = some (.bool xa) ∧ wr.drew.cell? ⟨D, 1, none⟩ = some (.slice ya na ca) ∧ wr.drew.cell? ⟨D, 2, none⟩ = some (.bool xb) ∧ wr.drew.cell? ⟨D, 3, none⟩ = some (.slice yb nb cb) := ⟨cellKeep hE0d lg o0, cellKeep hE0d lg o1, cellKeep hE0d lD p0, cellKeep hE0d lD p1, cellKeep hE0d lD p2, cellKeep hE0d lD p3⟩
              refine anyK_take (i := 0) (v := ?_) rfl (by kernel_rfl) (by kernel_rfl) (by kernel_rfl) (N := 6) (by kernel_rfl) (by kernel_rfl) (by kernel_rfl) (fun _ _ _ h => h) (Or.inl ⟨by rfl, ?_⟩) hHeld ?_
              rotate_left 1
              · intro w hSw
                go_simp
                try with_reducible rfl
              show anyK _ _ _ _ _ _ _ _ (Act.put _ (some 60) _) _
              simp only [Act.put, List.setIfInBounds_toArray, List.set_cons_zero, List.set_cons_succ]
              refine anyK_take (i := 1) (v := ?_) rfl (by kernel_rfl) (by kernel_rfl) (by kernel_rfl) (N := 6) (by kernel_rfl) (by kernel_rfl) (by kernel_rfl) (fun _ _ _ h => h) (Or.inl ⟨by rfl, ?_⟩) hHeld ?_
              rotate_left 1
              · intro w hSw
                go_simp
                try with_reducible rfl
              show anyK _ _ _ _ _ _ _ _ (Act.put _ (some 61) _) _
              simp only [Act.put, List.setIfInBounds_toArray, List.set_cons_zero, List.set_cons_succ]
              refine anyK_take (i := 2) (v := ?_) rfl (by kernel_rfl) (by kernel_rfl) (by kernel_rfl) (N := 6) (by kernel_rfl) (by kernel_rfl) (by kernel_rfl) (fun _ _ _ h => h) (Or.inl ⟨by rfl, ?_⟩) hHeld ?_
              rotate_left 1
              · intro w hSw
                go_simp
                try with_reducible rfl
              show anyK _ _ _ _ _ _ _ _ (Act.put _ (some 62) _) _
              simp only [Act.put, List.setIfInBounds_toArray, List.set_cons_zero, List.set_cons_succ]
              refine anyK_take (i := 3) (v := ?_) rfl (by kernel_rfl) (by kernel_rfl) (by kernel_rfl) (N := 6) (by kernel_rfl) (by kernel_rfl) (by kernel_rfl) (fun _ _ _ h => h) (Or.inl ⟨by rfl, ?_⟩) hHeld ?_
              rotate_left 1
              · intro w hSw
                go_simp
                try with_reducible rfl
              show anyK _ _ _ _ _ _ _ _ (Act.put _ (some 63) _) _
              simp only [Act.put, List.setIfInBounds_toArray, List.set_cons_zero, List.set_cons_succ]
              refine anyK_take (i := 6) (v := ?_) rfl (by kernel_rfl) (by kernel_rfl) (by kernel_rfl) (N := 6) (by kernel_rfl) (by kernel_rfl) (by kernel_rfl) (fun _ _ _ h => h) (Or.inl ⟨by rfl, ?_⟩) hHeld ?_
              rotate_left 1
              · intro w hSw
                go_simp
                try with_reducible rfl
              show anyK _ _ _ _ _ _ _ _ (Act.put _ (some 66) _) _
              simp only [Act.put, List.setIfInBounds_toArray, List.set_cons_zero, List.set_cons_succ]
              refine anyK_take (i := 7) (v := ?_) rfl (by kernel_rfl) (by kernel_rfl) (by kernel_rfl) (N := 6) (by kernel_rfl) (by kernel_rfl) (by kernel_rfl) (fun _ _ _ h => h) (Or.inl ⟨by rfl, ?_⟩) hHeld ?_
              rotate_left 1
              · intro w hSw
                go_simp
                try with_reducible rfl
              show anyK _ _ _ _ _ _ _ _ (Act.put _ (some 67) _) _
              simp only [Act.put, List.setIfInBounds_toArray, List.set_cons_zero, List.set_cons_succ]
              refine anyK_take (i := 8) (v := ?_) rfl (by kernel_rfl) (by kernel_rfl) (by kernel_rfl) (N := 6) (by kernel_rfl) (by kernel_rfl) (by kernel_rfl) (fun _ _ _ h => h) (Or.inl ⟨by rfl, ?_⟩) hHeld ?_
              rotate_left 1
              · intro w hSw
                go_simp
                try with_reducible rfl
              show anyK _ _ _ _ _ _ _ _ (Act.put _ (some 68) _) _
              simp only [Act.put, List.setIfInBounds_toArray, List.set_cons_zero, List.set_cons_succ]
              refine anyK_take (i := 9) (v := ?_) rfl (by kernel_rfl) (by kernel_rfl) (by kernel_rfl) (N := 6) (by kernel_rfl) (by kernel_rfl) (by kernel_rfl) (fun _ _ _ h => h) (Or.inl ⟨by rfl, ?_⟩) hHeld ?_
              rotate_left 1
              · intro w hSw
                go_simp
                try with_reducible rfl
              show anyK _ _ _ _ _ _ _ _ (Act.put _ (some 69) _) _
              simp only [Act.put, List.setIfInBounds_toArray, List.set_cons_zero, List.set_cons_succ]
              clear hHeld
              refine anyK_one (i := 4) (by kernel_rfl) rfl (fun Kk hKk => ?_)
              go_simp
              (go_at_call 36; refine (HO.out _).mono ?_; rintro e w4 ⟨b9, a9, n9, c9, rfl, I9, l9, hx4⟩; have he4 : Ext wr w4 := hE0d.trans hx4)
              go_wp2_with fail
              have hHeld : w4.cell? ⟨g, i * 2, none⟩ = some (.bool e0) ∧ w4.cell? ⟨g, i * 2 + 1, none⟩ = some (.slice x0 y0 z0) ∧ w4.cell? ⟨D, 0, none⟩ = some (.bool xa) ∧ w4.cell? ⟨D, 1, none⟩ = some (.slice ya na ca) ∧ w4.cell? ⟨D, 2, none⟩ = some (.bool xb) ∧ w4.cell? ⟨D, 3, none⟩ = some (.slice yb nb cb) := ⟨cellKeep he4 lg o0, cellKeep he4 lg o1, cellKeep he4 lD p0, cellKeep he4 lD p1, cellKeep he4 lD p2, cellKeep he4 lD p3⟩
              refine hKk.out _ _ (fun _ => hHeld) ?_
              clear hKk Kk
              refine anyK_take (i := 5) (v := ?_) rfl (by kernel_rfl) (by kernel_rfl) (by kernel_rfl) (N := 6) (by kernel_rfl) (by kernel_rfl) (by kernel_rfl) (fun _ _ _ h => h) (Or.inl ⟨by rfl, ?_⟩) hHeld ?_
              rotate_left 1
              · intro w hSw
                go_simp
                try with_reducible rfl
              show anyK _ _ _ _ _ _ _ _ (Act.put _ (some 65) _) _
              simp only [Act.put, List.setIfInBounds_toArray, List.set_cons_zero, List.set_cons_succ]
              refine anyK_one (i := 10) (by kernel_rfl) rfl (fun Kk hKk => ?_)
              go_simp
              (go_at_call 40; refine (fover_any xb xa yb ya nb cb na ca cq cp w4 (HI2.out.ext he4) (HI1.out.ext he4) (by omega) (by omega)).mono ?_; rintro e w5 ⟨b7, a7, n7, c7, b8, a8, n8, c8, rfl, I7, I8, l7, l8, hx5⟩; have he5 : Ext wr w5 := he4.trans hx5)
              rw [Hs1.out] at I7; rw [Hs2.out] at I8
              have d7 := I7.len_of Hdq.out; have d8 := I8.len_of Hdp.out
              go_wp2_with fail
              refine hKk.out _ _ (fun _ => ⟨cellKeep he5 lg o0, cellKeep he5 lg o1, cellKeep he5 lD p0, cellKeep he5 lD p1, cellKeep he5 lD p2, cellKeep he5 lD p3⟩) ?_
              clear hKk Kk hHeld
              refine anyK_one (i := 11) (by kernel_rfl) rfl (fun Kk hKk => ?_)
              go_simp
              (go_at_call 18; refine (FAdd_any e0 x0 y0 z0 b9 a9 n9 c9 b7 a7 n7 c7 b8 a8 n8 c8 (l.getD i 0) 1 cq cp w5 (HJ0.out.ext he5) (I9.ext hx5) I7 I8 (by omega) (by omega) (by omega) (by omega)).mono ?_; rintro e w6 ⟨f1, f2, f3, f4, f5, f6, f7, f8, rfl, I5, I6, _, _, hx6⟩; have he6 : Ext wr w6 := he5.trans hx6)
              rw [Hs3.out] at I5; rw [Hs4.out] at I6
              go_wp2_with fail
              refine hKk.out _ _ (fun _ => ⟨cellKeep he6 lg o0, cellKeep he6 lg o1, cellKeep he6 lD p0, cellKeep he6 lD p1, cellKeep he6 lD p2, cellKeep he6 lD p3⟩) ?_
              clear hKk Kk
              have fD6 := HfD.out.ext he6
              have r0 := fD6.c0; have r1 := fD6.c1; have r2 := fD6.c2; have r3 := fD6.c3; have rf0 := fD6.f 0; have rf1 := fD6.f 1; have rf2 := fD6.f 2; have rf3 := fD6.f 3
              refine anyK_one (i := 12) (by kernel_rfl) rfl (fun Kk hKk => ?_)
              go_wp2_with fail
              refine hKk.out _ _ (fun h => Bool.noConfusion (show true = false from h)) ?_
              clear hKk Kk
              refine anyK_done (by kernel_rfl) ?_ _
              have vD9 := FV.own fD6 I5 I6
              have vC9 := (HvC.out.ext he6).put fD6 (Ne.symm hDC) (x := f1) (y := f2) (m := f3) (d := f4) (x' := f5) (y' := f6) (m' := f7) (d' := f8)
              have rC9 := (HrC.out.ext he6).put fD6 bD (x := f1) (y := f2) (m := f3) (d := f4) (x' := f5) (y' := f6) (m' := f7) (d' := f8)
              have lg9 : g < w6.heap.size := Nat.lt_of_lt_of_le lg he6.size
              have HvD9 := Lib.hid vD9; have HvC9 := Lib.hid vC9; have HrC9 := Lib.hid rC9
              clear o0 o1 p0 p1 p2 p3 vD9 vC9 rC9 HvC HrC HfD HI1 HI2 HJ0 Hs1 Hs2 Hs3 Hs4 Hdp Hdq fD6 I5 I6 I7 I8 I9 r0 r1 r2 r3
              go_wp2_with fail
              go_roundg i
              case measure => omega
              case rel => exact ⟨i, rfl, by omega, rfl, HvD9.out, HvC9.out, HrC9.out, by simpa using lg9⟩
    · have hz : zb ≠ 0 := fun e => h0 (hzi.2 (by rw [e]; rfl))
      have in' : (0 : Int) < (nB : Int) := by omega
      have dA := IA.len_of (Hdig.out za (by omega)); have dB := IB.len_of (Hdig.out zb (by omega))
      have Hd := Lib.hid (ZDiv_any eA eB aA aB nA cA nB cB za zb wr IA IB (by omega) (by omega) hz)
      have hlz : zs.length ≤ 200001 := by
        have := Hlen.out
        rw [hl, List.length_append] at this
        omega
      clear hpt hfa hcf hl hbk IA IB bA bB hzi h0 hXX
      go_wp2_with fail
      refine Hd.out.mono ?_
      rintro e w5 ⟨b3, a3, n3, c3, b4, a4, n4, c4, zq, zr, rfl, Iq, Ir, heq, hr0, hrlt, hn3, hn4, hx5⟩
      have hE5 := ((ext_alloc w5 (.cells #[.bool b3, .slice a3 n3 c3] 33)).trans (ext_alloc _ (.cells #[.bool b4, .slice a4 n4 c4] 33))).trans (ext_alloc _ (.cells #[.int .i64 0, .int .i64 0] 28))
      have vq := ((zbx_new w5 b3 a3 n3 c3).ext (ext_alloc _ (.cells #[.bool b4, .slice a4 n4 c4] 33))).ext (ext_alloc _ (.cells #[.int .i64 0, .int .i64 0] 28))
      have vr := (zbx_new (w5.alloc (.cells #[.bool b3, .slice a3 n3 c3] 33)) b4 a4 n4 c4).ext (ext_alloc _ (.cells #[.int .i64 0, .int .i64 0] 28))
      rw [show (w5.alloc (.cells #[.bool b3, .slice a3 n3 c3] 33)).heap.size = w5.heap.size + 1 from by simp] at vr
      have Hfa6 := Lib.hid (Hfa.out.ext (hx5.trans hE5)); have Hpt6 := Lib.hid (Hpt.out.ext (hx5.trans hE5)); have HIq := Lib.hid (Iq.ext hE5); have HIr := Lib.hid (Ir.ext hE5)
      have Hvr := Lib.hid vr
      have q0' := vq.c0; have q1' := vq.c1
      have hbs6 : base ≤ w5.heap.size := Nat.le_trans hbs hx5.size
      have Hbs6 : Hid (base ≤ (((w5.alloc (.cells #[.bool b3, .slice a3 n3 c3] 33)).alloc (.cells #[.bool b4, .slice a4 n4 c4] 33)).alloc (.cells #[.int .i64 0, .int .i64 0] 28)).heap.size) := Nat.le_trans hbs6 hE5.size
      obtain ⟨t, ht, hct⟩ := Hc2.out.step (by omega) heq hr0 (by omega)
      subst ht
      have Hold : Hid (∀ k, u5.ownBlock = some k → k < w5.heap.size) := fun k hk => Nat.lt_of_lt_of_le (Hpt.out.old k hk).2 hx5.size
      clear k0' k1' k2' k3' Hd Iq Ir hx5 hE5 vq vr Hpt Hfa in'
      go_upto_region 5 with fail
      generalize ((w5.alloc (.cells #[.bool b3, .slice a3 n3 c3] 33)).alloc (.cells #[.bool b4, .slice a4 n4 c4] 33)).alloc (.cells #[.int .i64 0, .int .i64 0] 28) = w6 at *
      generalize w5.heap.size = S at *
      obtain ⟨xs, ho, hzx⟩ := Hpt6.out
      have Ho := Lib.hid ho; have Hzx := Lib.hid hzx
      clear ho hzx
      go_wp2_with (at_builtin; refine wpList_append_own _ rfl _ _ 90 rfl base 33 i0 (.agg #[.bool false, .slice none 0 0]) 2 32 Tryz.underlying90 hi hz0 hz1 hz2 rfl (by decide) _ zs.length xs rfl (Ho.out.alloc _) ⟨w6.heap.size, 0, none⟩ 1 1 [.bool b3, .slice a3 n3 c3] rfl rfl (new_z w6 b3 a3 n3 c3 _) (one_z b3 a3 n3 c3) (by unfold maxLen; omega) (by omega) (Nat.le_trans Hbs6.out (ext_alloc w6 _).size) ?_; intro v' w7 hown' hgrow' _)
      have hkind := PtOwn.kind (Ho.out.alloc (.cells #[.bool b3, .slice a3 n3 c3] 33))
      have hgz : ∀ (b : Bool) (a : Option Addr) (m c : Nat) (z : Int), IsZ w6 b a m c z → IsZ w7 b a m c z := fun b a m c z h => (h.ext (ext_alloc _ _)).grown hgrow' (fun k hk => (hkind k hk).2)
      have fa7 := (Hfa6.out.ext (ext_alloc _ _)).grown hgrow' hkind
      have pt7 := PtOwn.snoc hown' Ho.out.1 Hzx.out hgz HIq.out
      have vr6 := Hvr.out.ext (ext_alloc w6 (.cells #[.bool b3, .slice a3 n3 c3] 33))
      have vr7 : ZBx w7 (S + 1) b4 a4 n4 c4 := ⟨(hgrow'.block _ vr6.lt (fun e => by have := Hold.out _ e.symm; omega)).trans vr6.row⟩
      have Ir7 := hgz _ _ _ _ _ HIr.out
      obtain ⟨eA, aA, nA, cA, bA, IA⟩ := fa7.vA
      obtain ⟨eB, aB, nB, cB, bB, IB⟩ := fa7.vB
      have hne := fa7.ne
      have bB' := (bB.putR (Rb := A) (by omega) (.bool eB) (.slice aB nB cB))
      have fa8 := (fa7.putA IB).putB (Ir7.box bA.row (by decide) (bA.sets eB aB nB cB))
      have pt8 := (pt7.only bA.row (by decide) (bA.sets eB aB nB cB) (Or.inl (by omega))).only bB'.row (by decide) (bB'.sets b4 a4 n4 c4) (Or.inl (by omega))
      have Hfa9 := Lib.hid (fa8.ext (Below.drew (Ext.refl _))); have Hpt9 := Lib.hid (pt8.ext (Below.drew (Ext.refl _)))
      have Hb9 : Hid (base ≤ w7.heap.size) := Nat.le_trans (Nat.le_trans Hbs6.out (ext_alloc w6 _).size) hgrow'.size
      have k0' := bA.c0; have k1' := bA.c1; have k2' := bB.c0; have k3' := bB.c1; have k4' := vr7.c0; have k5' := vr7.c1
      have g0' := bA.f 0; have g1' := bA.f 1; have g2' := bB.f 0; have g3' := bB.f 1
      have n1' : ¬ S + 1 = A := by have := hne; omega
      have n2' : ¬ S + 1 = B := by have := hne; omega
      have n3' : ¬ A = B := by omega
      have n4' : ¬ B = A := by omega
      clear fa7 pt7 vr6 vr7 Ir7 bA bB bB' IA IB fa8 pt8 hown' hgrow' hgz hkind Hvr HIq HIr Hfa6 Hpt6 Ho Hzx hi hz0 hz1 hz2 q0' q1'
      go_region
      go_wp2_with fail
      go_roundg zr.natAbs
      case measure => have := Hbk.out; omega
      case rel => exact ⟨zs ++ [zq], t, zb, zr, Hpt9.out, Hfa9.out, hct, by rw [Hl2.out, List.append_assoc]; rfl, hr0, rfl, hbX, by omega, by simpa using Hb9.out⟩

end Go.Proofs.YtdiojbgbeeojkaaGreatDoor
