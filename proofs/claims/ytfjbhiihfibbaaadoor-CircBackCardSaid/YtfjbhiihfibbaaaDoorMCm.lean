/-
  What an operation touches, as the program lists it: the walk.
-/
import Derived.Test.YtfjbhiihfibbaaaDoorMCi

namespace Go.Proofs.YtfjbhiihfibbaaaDoor
open Go.RowKit

theorem row_ext {w w' : World} {g : Nat} {cs : Array Value} {T : TypeId} {fr : Nat × Nat} (h : w.heap[g]? = some (.cells cs T fr)) (k : Ext w w') : w'.heap[g]? = some (.cells cs T fr) := (k.block g (Array.getElem?_eq_some_iff.1 h).1).trans h
theorem row_grown {a w' : World} {v : Value} {base n size : Nat} {xs : List Value} {e : TypeId} {g : Nat} {cs : Array Value} {T : TypeId} {fr : Nat × Nat} (hg : a.grownBy w' v.ownBlock) (ho : a.ownsRow base e size v n xs) (h : a.heap[g]? = some (.cells cs T fr)) (hT : T ≠ e) : w'.heap[g]? = some (.cells cs T fr) := by
  refine (hg.block g (Array.getElem?_eq_some_iff.1 h).1 (fun eq => ?_)).trans h
  rcases ho.2 with ⟨rfl, _⟩ | ⟨g', cap, cur, rfl, _, hg', _⟩
  · cases eq
  · simp [Value.ownBlock] at eq
    subst eq
    rw [h] at hg'
    cases hg'
    exact hT rfl

end Go.Proofs.YtfjbhiihfibbaaaDoor

/-
  Levels: what both sides reckon, as one function of the places that each operation touches; the two numberings of places come to the same.
-/
namespace Go.Proofs.YtfjbhiihfibbaaaDoor

/-- One more place is looked at. -/
def levOne (f : Int → Int) (a t : Int) : Int := if a < f t + 1 then f t + 1 else a
/-- The level of an operation that touches the places L, where f holds the last levels. -/
def lev (f : Int → Int) (L : List Int) : Int := L.foldl (levOne f) 1
/-- The places L are given the level v. -/
def updL (f : Int → Int) (L : List Int) (v : Int) : Int → Int := fun t => if t ∈ L then v else f t
/-- One operation: the last levels, and the greatest. -/
def lvStep (P : Gop → List Int) (s : (Int → Int) × Int) (o : Gop) : (Int → Int) × Int :=
  (updL s.1 (P o) (lev s.1 (P o)), if s.2 < lev s.1 (P o) then lev s.1 (P o) else s.2)
def lvs (P : Gop → List Int) (l : List Gop) : (Int → Int) × Int := l.foldl (lvStep P) (fun _ => 0, 0)
/-- The places as the program lists them, and as the reference does. -/
def plP (o : Gop) : List Int := o.ctl ++ tchQ o.kind o.q ++ tchB 12 o.kind o.bit ++ tchC 12 o.cnd
def plR (o : Gop) : List Int := tchQ o.kind o.q ++ o.ctl ++ tchB 100 o.kind o.bit ++ tchC 100 o.cnd
/-- A place's other number. -/
def ren (t : Int) : Int := if t < 12 then t else t + 88

theorem ren_inj {a b : Int} (h : ren a = ren b) : a = b := by unfold ren at h; split at h <;> split at h <;> omega
theorem lvs_snoc (P : Gop → List Int) (l : List Gop) (o : Gop) : lvs P (l ++ [o]) = lvStep P (lvs P l) o := by simp [lvs]
theorem lev_snoc (f : Int → Int) (L : List Int) (t : Int) : lev f (L ++ [t]) = levOne f (lev f L) t := by simp [lev]
theorem updL_nil (f : Int → Int) (v : Int) : updL f [] v = f := by funext t; simp [updL]
theorem updL_snoc (f : Int → Int) (L : List Int) (t v : Int) : updL f (L ++ [t]) v = updL (updL f L v) [t] v := by
  funext s
  simp only [updL, List.mem_append, List.mem_singleton]
  by_cases h1 : s = t <;> by_cases h2 : s ∈ L <;> simp [h1, h2]

theorem levOne_comm (f : Int → Int) (a s t : Int) : levOne f (levOne f a s) t = levOne f (levOne f a t) s := by
  unfold levOne; repeat' split
  all_goals omega
theorem lev_perm (f : Int → Int) {L M : List Int} (h : L.Perm M) : lev f L = lev f M := by
  have : ∀ a, L.foldl (levOne f) a = M.foldl (levOne f) a := by
    induction h with
    | nil => intro a; rfl
    | cons x _ ih => intro a; simp only [List.foldl_cons]; exact ih _
    | swap x y l => intro a; simp only [List.foldl_cons]; rw [levOne_comm]
    | trans _ _ h1 h2 => intro a; rw [h1, h2]
  exact this 1
theorem lev_ren (f g : Int → Int) (L : List Int) (h : ∀ t, g (ren t) = f t) : lev g (L.map ren) = lev f L := by
  have : ∀ a, (L.map ren).foldl (levOne g) a = L.foldl (levOne f) a := by
    induction L with
    | nil => intro a; rfl
    | cons x l ih => intro a; simp only [List.map_cons, List.foldl_cons]; rw [ih]; simp only [levOne, h]
  exact this 1

/-- What a circuit that is checked keeps to. -/
def placesFit (o : Gop) : Prop := (∀ t ∈ o.ctl, t < 12) ∧ o.q < 12 ∧ 0 ≤ o.bit ∧ ∀ t ∈ o.cnd, t ≠ 0
theorem pl_perm {o : Gop} (h : placesFit o) : (plR o).Perm ((plP o).map ren) := by
  obtain ⟨h1, h2, h3, h4⟩ := h
  have e1 : o.ctl.map ren = o.ctl := by
    have := List.map_congr_left (f := ren) (g := id) (l := o.ctl) (fun t ht => by simp [ren, h1 t ht])
    simpa using this
  have e2 : (tchQ o.kind o.q).map ren = tchQ o.kind o.q := by unfold tchQ; split <;> simp [ren, h2]
  have e3 : (tchB 12 o.kind o.bit).map ren = tchB 100 o.kind o.bit := by
    unfold tchB; split
    · simp [ren]; split <;> omega
    · rfl
  have e4 : (tchC 12 o.cnd).map ren = tchC 100 o.cnd := by
    unfold tchC
    rw [List.map_map]
    refine List.map_congr_left fun t ht => ?_
    have := h4 t ht
    simp only [Function.comp, ren, bitOf]
    repeat' split
    all_goals omega
  unfold plP plR
  simp only [List.map_append, e1, e2, e3, e4]
  exact ((List.perm_append_comm).append_right _).append_right _

theorem lvs_same : ∀ (l : List Gop), (∀ o ∈ l, placesFit o) → (∀ t, (lvs plR l).1 (ren t) = (lvs plP l).1 t) ∧ (lvs plR l).2 = (lvs plP l).2 := by
  intro l hl
  have key : ∀ (l : List Gop) (s s' : (Int → Int) × Int), (∀ o ∈ l, placesFit o) → (∀ t, s'.1 (ren t) = s.1 t) → s'.2 = s.2 →
      (∀ t, (l.foldl (lvStep plR) s').1 (ren t) = (l.foldl (lvStep plP) s).1 t) ∧ (l.foldl (lvStep plR) s').2 = (l.foldl (lvStep plP) s).2 := by
    intro l
    induction l with
    | nil => intro s s' _ h1 h2; exact ⟨h1, h2⟩
    | cons o l ih =>
      intro s s' hl h1 h2
      simp only [List.foldl_cons]
      have hp := pl_perm (hl o (by simp))
      have hv : lev s'.1 (plR o) = lev s.1 (plP o) := by rw [lev_perm _ hp, lev_ren _ _ _ h1]
      refine ih _ _ (fun o' h' => hl o' (by simp [h'])) (fun t => ?_) ?_
      · have hm : ren t ∈ plR o ↔ t ∈ plP o := by
          rw [hp.mem_iff, List.mem_map]
          constructor
          · rintro ⟨u, hu, he⟩; rw [← ren_inj he]; exact hu
          · intro h; exact ⟨t, h, rfl⟩
        simp only [lvStep, updL, hv, hm, h1]
      · simp only [lvStep, hv, h2]
  exact key l _ _ hl (fun _ => rfl) rfl

/-- Levels are small: from 0 to the number of operations. -/
theorem lev_bound {f : Int → Int} {n : Int} (hf : ∀ t, 0 ≤ f t ∧ f t ≤ n) (hn : 0 ≤ n) (L : List Int) : 1 ≤ lev f L ∧ lev f L ≤ n + 1 := by
  have : ∀ (L : List Int) (a : Int), 1 ≤ a → a ≤ n + 1 → 1 ≤ L.foldl (levOne f) a ∧ L.foldl (levOne f) a ≤ n + 1 := by
    intro L
    induction L with
    | nil => intro a h1 h2; exact ⟨h1, h2⟩
    | cons x l ih =>
      intro a h1 h2
      have := hf x
      simp only [List.foldl_cons]
      refine ih _ ?_ ?_ <;> (unfold levOne; split <;> omega)
  exact this L 1 (by omega) (by omega)
theorem lvs_bound (P : Gop → List Int) (l : List Gop) : (∀ t, 0 ≤ (lvs P l).1 t ∧ (lvs P l).1 t ≤ (l.length : Int)) ∧ 0 ≤ (lvs P l).2 ∧ (lvs P l).2 ≤ (l.length : Int) := by
  have key : ∀ (l : List Gop) (s : (Int → Int) × Int) (n : Nat), (∀ t, 0 ≤ s.1 t ∧ s.1 t ≤ (n : Int)) → 0 ≤ s.2 ∧ s.2 ≤ (n : Int) →
      (∀ t, 0 ≤ (l.foldl (lvStep P) s).1 t ∧ (l.foldl (lvStep P) s).1 t ≤ ((n + l.length : Nat) : Int)) ∧ 0 ≤ (l.foldl (lvStep P) s).2 ∧ (l.foldl (lvStep P) s).2 ≤ ((n + l.length : Nat) : Int) := by
    intro l
    induction l with
    | nil => intro s n h1 h2; exact ⟨h1, h2⟩
    | cons o l ih =>
      intro s n h1 h2
      have hb := lev_bound h1 (by omega) (P o)
      simp only [List.foldl_cons]
      have hlen : n + (o :: l).length = (n + 1) + l.length := by simp; omega
      rw [hlen]
      refine ih _ (n + 1) (fun t => ?_) ?_
      · have := h1 t
        simp only [lvStep, updL]
        split <;> omega
      · simp only [lvStep]
        split <;> omega
  have := key l (fun _ => 0, 0) 0 (fun _ => ⟨by simp, by simp⟩) ⟨by simp, by simp⟩
  simpa [lvs] using this

end Go.Proofs.YtfjbhiihfibbaaaDoor
