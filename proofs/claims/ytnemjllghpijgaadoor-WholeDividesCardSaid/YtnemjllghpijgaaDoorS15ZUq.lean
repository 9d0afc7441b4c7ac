/-
  The reference's numbers: ZShift, where it divides. Its one statement makes three variables and calls twice, in whatever order: what has come up is a state, and each state is walked once. The reference's division by nought. A quotient and its rest are told apart from no others.
-/
import Derived.Test.YtnemjllghpijgaaDoorProg
import Derived.Test.YtnemjllghpijgaaDoorRows
import Derived.BigQuiet
import Derived.BigRegion
import Derived.Deep.AppendLies
import Derived.Deep.Cut
import Derived.Deep.QuietTactic
import Derived.Deep.RegionHeld3
import Derived.Laws.Bits64b
import Derived.Laws.CopyOwn
import Derived.Laws.ResultCell
import Derived.Lib.BitFns
import Derived.Lib.Hide
import Derived.Lib.ItoaNum
import Derived.Lib.Strings
import Derived.Lib.TrailingZeros
import Derived.OwnWalk
import Derived.Shelf.Bits.Mul64
import Derived.Shelf.LaysM
import Derived.Shelf.Small.Bits
import Derived.Shelf.Small.Wraps
import Derived.Shelf.Spec.BitsCarry
import Derived.Shelf.Spec.TrailingZeros
import Derived.Shelf.Strconv.Itoa0
import Derived.Shelf.Strconv.Itoa1
import Derived.Shelf.Strconv.Itoa2
import Derived.Shelf.Strconv.Itoa3
import Derived.WalkKit
import Derived.WalkLawsBesides
import Derived.WalkSpells
import Derived.Test.YtnemjllghpijgaaDoorS00Mem
import Derived.Test.YtnemjllghpijgaaDoorShelf
import Derived.Test.YtnemjllghpijgaaDoorS02ShiftI
import Derived.Test.YtnemjllghpijgaaDoorS03GuessD
import Derived.Test.YtnemjllghpijgaaDoorS04IntB
import Derived.Test.YtnemjllghpijgaaDoorS05IntD
import Derived.Test.YtnemjllghpijgaaDoorS06ParE
import Derived.Test.YtnemjllghpijgaaDoorS09ZA
import Derived.Test.YtnemjllghpijgaaDoorS10ZJ
import Derived.Test.YtnemjllghpijgaaDoorS11ZK
import Derived.Test.YtnemjllghpijgaaDoorS12ZU
import Derived.Test.YtnemjllghpijgaaDoorS13ZW
import Derived.Test.YtnemjllghpijgaaDoorS14ZY
namespace Go.Proofs.YtnemjllghpijgaaDoor
open Go.RowKit

/-- A region that draws its order, by the states that it goes through. -/
theorem wpAnyH_states {P : Program} {md : Region.Mode} {ops : Array Oper} {Q : Exit → Act → World → Prop} {S : World → Prop} {σ : Type} (G : σ → Array Bool) (fu : σ → Nat) (I : σ → Act → World → Prop)
    (step : ∀ s, (∀ s' a w, fu s' < fu s → I s' a w → S w → wpAnyH P md ops Q S (fu s') (G s') a w) → ∀ a w, I s a w → S w → wpAnyH P md ops Q S (fu s) (G s) a w)
    (s0 : σ) {fuel : Nat} {listed : Array Bool} {a : Act} {w : World} (hf : fuel = fu s0) (hl : listed = G s0) (hI : I s0 a w) (hS : S w) : wpAnyH P md ops Q S fuel listed a w := by
  subst hf; subst hl
  have H : ∀ n s, fu s = n → ∀ a w, I s a w → S w → wpAnyH P md ops Q S (fu s) (G s) a w := by
    intro n
    induction n using Nat.strongRecOn with
    | _ n ih =>
      intro s hs
      exact step s (fun s' a w hlt hI hS => ih (fu s') (by omega) s' rfl a w hI hS)
  exact H _ s0 rfl a w hI hS

inductive Zc where
  | c0 | c1 | c2 | c3

def zbp : Bool → Nat → Value
  | true, g => .pointer (some ⟨g, 0, none⟩)
  | false, _ => undef

def zfr (b1 : Bool) (a1 : Option Addr) (n1 c1 : Nat) (n N : Int) (h : Nat) (t28 t29 t24 t30 t31 t32 t6 t7 t8 : Value) : Act :=
  { tmps := #[.agg #[.bool b1, .slice a1 n1 c1], .int .i64 n, .pointer (some ⟨h, 0, none⟩), undef, .pointer (some ⟨h + 1, 0, none⟩), .pointer (some ⟨h + 1 + 1, 0, none⟩), t6, t7, t8, .int .i64 n, .bool false, .bool false, .int .i64 n, .bool false, .bool false, undef, undef, .int .i64 n, .bool false, undef, undef, undef, undef, undef, t24, .agg #[.bool b1, .slice a1 n1 c1], .int .i64 n, .int .i64 N, t28, t29, t30, t31, t32, undef, undef], defers := [] }

def zG : Zc × Bool × Bool × Bool → Array Bool
  | (.c0, p, q, r) => #[true, true, true, false, false, false, false, false, false, p, q, r, false, false, false]
  | (.c1, p, q, r) => #[true, true, true, true, false, false, false, false, false, p, q, r, false, false, false]
  | (.c2, p, q, r) => #[true, true, true, true, true, false, false, false, false, p, q, r, false, false, false]
  | (.c3, p, q, r) => #[true, true, true, true, true, true, true, true, true, p, q, r, false, false, false]
def zn (p : Bool) : Nat := if p then 0 else 1
def zfu : Zc × Bool × Bool × Bool → Nat
  | (.c0, p, q, r) => 9 + (zn p + zn q + zn r)
  | (.c1, p, q, r) => 8 + (zn p + zn q + zn r)
  | (.c2, p, q, r) => 7 + (zn p + zn q + zn r)
  | (.c3, p, q, r) => 3 + (zn p + zn q + zn r)

/-- What the calls have answered. -/
def zC (P z1 : Int) : Zc → World → Value → Value → Value → Value → Value → Value → Prop
  | .c0, _, t28, t29, t24, t30, t31, t32 => t28 = undef ∧ t29 = undef ∧ t24 = undef ∧ t30 = undef ∧ t31 = undef ∧ t32 = undef
  | .c1, w, t28, t29, t24, t30, t31, t32 => ∃ (b : Bool) (a : Option Addr) (n c : Nat), t28 = .agg #[.bool b, .slice a n c] ∧ IsZ w b a n c P ∧ n ≤ 10001 ∧ t29 = undef ∧ t24 = undef ∧ t30 = undef ∧ t31 = undef ∧ t32 = undef
  | .c2, w, _, t29, t24, t30, t31, t32 => ∃ (b : Bool) (a : Option Addr) (n c : Nat) (b' : Bool) (a' : Option Addr) (n' c' : Nat), t29 = .tuple #[.agg #[.bool b, .slice a n c], .agg #[.bool b', .slice a' n' c'], .agg #[.int .i64 0, .int .i64 0]] ∧ IsZ w b a n c (z1 / P) ∧ n ≤ 400000 ∧ t24 = undef ∧ t30 = undef ∧ t31 = undef ∧ t32 = undef
  | .c3, w, _, _, _, t30, t31, t32 => ∃ (b : Bool) (a : Option Addr) (n c : Nat) (b' : Bool) (a' : Option Addr) (n' c' : Nat), t30 = .agg #[.bool b, .slice a n c] ∧ t31 = .agg #[.bool b', .slice a' n' c'] ∧ t32 = .agg #[.int .i64 0, .int .i64 0] ∧ IsZ w b a n c (z1 / P) ∧ n ≤ 400000
/-- A fault's variable that is new. -/
def zF (w : World) (g : Nat) : Prop := w.heap[g]? = some (.cells #[.int .i64 0, .int .i64 0] 26 (0, 0))
theorem zF.lt {w : World} {g : Nat} (h : zF w g) : g < w.heap.size := (Array.getElem?_eq_some_iff.1 h).1
theorem zF.ext {w w' : World} {g : Nat} (h : zF w g) (k : Ext w w') : zF w' g := (k.block _ h.lt).trans h

/-- The variables that have been made. -/
structure zV (W0 w : World) (p q r : Bool) (A B F : Nat) : Prop where
  e : Ext W0 w
  a : p = true → ZRes w A ∧ W0.heap.size ≤ A
  b : q = true → ZRes w B ∧ W0.heap.size ≤ B
  f : r = true → zF w F ∧ W0.heap.size ≤ F
  ab : p = true → q = true → A ≠ B
  af : p = true → r = true → A ≠ F
  bf : q = true → r = true → B ≠ F
theorem zV.ext {W0 w w' : World} {p q r : Bool} {A B F : Nat} (h : zV W0 w p q r A B F) (k : Ext w w') : zV W0 w' p q r A B F :=
  ⟨h.e.trans k, fun x => ⟨(h.a x).1.ext k, (h.a x).2⟩, fun x => ⟨(h.b x).1.ext k, (h.b x).2⟩, fun x => ⟨(h.f x).1.ext k, (h.f x).2⟩, h.ab, h.af, h.bf⟩
theorem zV.newA {W0 w : World} {q r : Bool} {A B F : Nat} (h : zV W0 w false q r A B F) : zV W0 (w.alloc (.cells #[.bool false, .slice none 0 0] 31)) true q r w.heap.size B F := by
  have k := ext_alloc w (.cells #[.bool false, .slice none 0 0] 31)
  have h' := h.ext k
  exact ⟨h'.e, fun _ => ⟨zres_new w, h.e.size⟩, h'.b, h'.f, fun _ y => Nat.ne_of_gt (h.b y).1.lt, fun _ y => Nat.ne_of_gt (h.f y).1.lt, h'.bf⟩
theorem zV.newB {W0 w : World} {p r : Bool} {A B F : Nat} (h : zV W0 w p false r A B F) : zV W0 (w.alloc (.cells #[.bool false, .slice none 0 0] 31)) p true r A w.heap.size F := by
  have k := ext_alloc w (.cells #[.bool false, .slice none 0 0] 31)
  have h' := h.ext k
  exact ⟨h'.e, h'.a, fun _ => ⟨zres_new w, h.e.size⟩, h'.f, fun x _ => Nat.ne_of_lt (h.a x).1.lt, h'.af, fun _ y => Nat.ne_of_gt (h.f y).1.lt⟩
theorem zV.newF {W0 w : World} {p q : Bool} {A B F : Nat} (h : zV W0 w p q false A B F) : zV W0 (w.alloc (.cells #[.int .i64 0, .int .i64 0] 26)) p q true A B w.heap.size := by
  have k := ext_alloc w (.cells #[.int .i64 0, .int .i64 0] 26)
  have h' := h.ext k
  exact ⟨h'.e, h'.a, h'.b, fun _ => ⟨heap_alloc_new w _, h.e.size⟩, h'.ab, fun x _ => Nat.ne_of_lt (h.a x).1.lt, fun x _ => Nat.ne_of_lt (h.b x).1.lt⟩

/-- A state. -/
def zI (b1 : Bool) (a1 : Option Addr) (n1 c1 : Nat) (n N : Int) (h : Nat) (W0 : World) (P z1 : Int) : Zc × Bool × Bool × Bool → Act → World → Prop
  | (k, p, q, r), a, w => ∃ (A B F : Nat) (t28 t29 t24 t30 t31 t32 : Value), a = zfr b1 a1 n1 c1 n N h t28 t29 t24 t30 t31 t32 (zbp p A) (zbp q B) (zbp r F) ∧ zC P z1 k w t28 t29 t24 t30 t31 t32 ∧ zV W0 w p q r A B F

set_option maxHeartbeats 4000000 in
set_option maxRecDepth 100000 in
theorem ZShift_down (b1 : Bool) (a1 : Option Addr) (n1 c1 : Nat) (z1 n : Int) (w : World) (h1 : IsZ w b1 a1 n1 c1 z1) (hn1 : n1 ≤ 300000) (hbad : ¬ (n < -10000 ∨ 10000 < n)) (hneg : ¬ 0 ≤ n) :
    Calls Tryd.prog 14 #[.agg #[.bool b1, .slice a1 n1 c1], .int .i64 n] w fun e w' => ∃ (b' : Bool) (a' : Option Addr) (n' c' : Nat), e = .returned (.tuple #[.agg #[.bool b', .slice a' n' c'], .agg #[.int .i64 0, .int .i64 0]]) ∧ IsZ w' b' a' n' c' (z1 / ((2 ^ (-n).toNat : Nat) : Int)) ∧ n' ≤ 400000 ∧ Ext w w' := by
  have hb1 : ¬ n < -10000 := fun h => hbad (Or.inl h)
  have hb2 : ¬ 10000 < n := fun h => hbad (Or.inr h)
  have hE := ((ext_alloc w (.cells #[.bool b1, .slice a1 n1 c1] 31)).trans (ext_alloc _ (.cells #[.bool false, .slice none 0 0] 31))).trans (ext_alloc _ (.cells #[.int .i64 0, .int .i64 0] 26))
  have bA := ((zbx_new w b1 a1 n1 c1).ext (ext_alloc _ (.cells #[.bool false, .slice none 0 0] 31))).ext (ext_alloc _ (.cells #[.int .i64 0, .int .i64 0] 26))
  have hR := (zres_new (w.alloc (.cells #[.bool b1, .slice a1 n1 c1] 31))).ext (ext_alloc _ (.cells #[.int .i64 0, .int .i64 0] 26))
  rw [show (w.alloc (.cells #[.bool b1, .slice a1 n1 c1] 31)).heap.size = w.heap.size + 1 from by simp] at hR
  have hF := zf_new w (.cells #[.bool b1, .slice a1 n1 c1] 31) (.cells #[.bool false, .slice none 0 0] 31)
  have x0 := bA.c0; have x1 := bA.c1
  have H1 := Lib.hid h1
  clear h1 hbad
  obtain ⟨N, hN⟩ : ∃ N : Nat, -n = (N : Int) := ⟨(-n).toNat, by omega⟩
  have HP := Lib.hid (fun wx => ZPow2_any N (by omega) wx)
  have hwr : IntKind.i64.wrap (N : Int) = (N : Int) := by rw [IntKind.wrap_i64]; omega
  rw [show (-n).toNat = N from by omega]
  have hP0 : 0 < 2 ^ N := Nat.pow_pos (by decide)
  obtain ⟨P, hP⟩ : ∃ P : Nat, 2 ^ N = P := ⟨_, rfl⟩
  rw [hP] at HP hP0
  rw [hP]
  have hPz : (P : Int) ≠ 0 := by omega
  clear hP
  go_enter Tryd.func14, Tryd.ntmps14
  go_wp2_with fail
  generalize ((w.alloc (.cells #[.bool b1, .slice a1 n1 c1] 31)).alloc (.cells #[.bool false, .slice none 0 0] 31)).alloc (.cells #[.int .i64 0, .int .i64 0] 26) = W0 at *
  have lA := bA.lt
  have lF : w.heap.size + 1 + 1 < W0.heap.size := (Array.getElem?_eq_some_iff.1 hF).1
  refine wp_region_held_drew (S := fun w' => w'.cell? ⟨w.heap.size, 0, none⟩ = some (.bool b1) ∧ w'.cell? ⟨w.heap.size, 1, none⟩ = some (.slice a1 n1 c1)) (by rfl) ⟨x0, x1⟩ ?_
  intro hHeld
  show wpAnyH _ _ _ _ _ 15 #[false, false, false, false, false, false, false, false, false, false, false, false, false, false, false] _ _
  refine wpAnyH_take (i := 0) (v := ?_) rfl (by kernel_rfl) (by kernel_rfl) (by kernel_rfl) (fun _ _ _ h => h) (Or.inl ⟨by rfl, ?_⟩) hHeld ?_
  rotate_left 1
  · intro w hSw
    go_simp
    try with_reducible rfl
  show wpAnyH _ _ _ _ _ _ _ (Act.put _ (some 25) _) _
  simp only [Act.put, List.setIfInBounds_toArray, List.set_cons_zero, List.set_cons_succ]
  refine wpAnyH_take (i := 1) (v := ?_) rfl (by kernel_rfl) (by kernel_rfl) (by kernel_rfl) (fun _ _ _ h => h) (Or.inl ⟨by rfl, ?_⟩) hHeld ?_
  rotate_left 1
  · intro w hSw
    go_simp
    try with_reducible rfl
  show wpAnyH _ _ _ _ _ _ _ (Act.put _ (some 26) _) _
  simp only [Act.put, List.setIfInBounds_toArray, List.set_cons_zero, List.set_cons_succ]
  refine wpAnyH_take (i := 2) (v := ?_) rfl (by kernel_rfl) (by kernel_rfl) (by kernel_rfl) (fun _ _ _ h => h) (Or.inl ⟨by rfl, ?_⟩) hHeld ?_
  rotate_left 1
  · intro w hSw
    go_simp
    try with_reducible rfl
  show wpAnyH _ _ _ _ _ _ _ (Act.put _ (some 27) _) _
  simp only [Act.put, List.setIfInBounds_toArray, List.set_cons_zero, List.set_cons_succ]
  try rw [hwr]
  have h0 : Ext W0 W0.drew := Below.drew (Ext.refl _)
  have hKeep : ∀ u : World, Ext W0 u → u.cell? ⟨w.heap.size, 0, none⟩ = some (.bool b1) ∧ u.cell? ⟨w.heap.size, 1, none⟩ = some (.slice a1 n1 c1) := fun u hu => ⟨zKeep hu lA x0, zKeep hu lA x1⟩
  clear bA x0 x1
  refine wpAnyH_states zG zfu (zI b1 a1 n1 c1 n N w.heap.size W0 P z1) ?_ (.c0, false, false, false) rfl rfl ⟨0, 0, 0, undef, undef, undef, undef, undef, undef, rfl, ⟨rfl, rfl, rfl, rfl, rfl, rfl⟩, ⟨h0, nofun, nofun, nofun, nofun, nofun, nofun⟩⟩ hHeld
  clear hHeld
  rintro ⟨k, p, q, r⟩ IH a u ⟨A, B, F, t28, t29, t24, t30, t31, t32, rfl, hC, hV⟩ hS
  rcases k with _ | _ | _ | _ <;> rcases p with _ | _ <;> rcases q with _ | _ <;> rcases r with _ | _
  · obtain ⟨rfl, rfl, rfl, rfl, rfl, rfl⟩ := hC
    show wpAnyH _ _ _ _ _ 12 #[true, true, true, false, false, false, false, false, false, false, false, false, false, false, false] _ _
    dsimp only [zfr, zbp]
    refine wpAnyH_ready (rs := [3, 9, 10, 11]) (by kernel_rfl) (by simp) ?_
    refine AllReadyH.cons rfl (fun K hK => ?_) ?_
    · go_simp
      refine (HP.out _).mono ?_
      rintro e v ⟨b, a, n2, c2, rfl, hI, hn2, hx⟩
      go_wp2_with fail
      refine hK.out _ _ (hKeep _ (hV.e.trans hx)) (fun hS2 => ?_)
      simp only [List.setIfInBounds_toArray, List.set_cons_zero, List.set_cons_succ]
      exact IH (.c1, false, false, false) _ _ (by decide) ⟨A, B, F, _, _, _, _, _, _, rfl, ⟨b, a, n2, c2, rfl, hI, hn2, rfl, rfl, rfl, rfl, rfl⟩, hV.ext hx⟩ hS2
    refine AllReadyH.cons rfl (fun K hK => ?_) ?_
    · go_simp
      refine hK.out _ _ (hKeep _ hV.newA.e) (fun hS2 => ?_)
      simp only [List.setIfInBounds_toArray, List.set_cons_zero, List.set_cons_succ]
      exact IH (.c0, true, false, false) _ _ (by decide) ⟨_, B, F, _, _, _, _, _, _, rfl, ⟨rfl, rfl, rfl, rfl, rfl, rfl⟩, hV.newA⟩ hS2
    refine AllReadyH.cons rfl (fun K hK => ?_) ?_
    · go_simp
      refine hK.out _ _ (hKeep _ hV.newB.e) (fun hS2 => ?_)
      simp only [List.setIfInBounds_toArray, List.set_cons_zero, List.set_cons_succ]
      exact IH (.c0, false, true, false) _ _ (by decide) ⟨A, _, F, _, _, _, _, _, _, rfl, ⟨rfl, rfl, rfl, rfl, rfl, rfl⟩, hV.newB⟩ hS2
    refine AllReadyH.cons rfl (fun K hK => ?_) ?_
    · go_simp
      refine hK.out _ _ (hKeep _ hV.newF.e) (fun hS2 => ?_)
      simp only [List.setIfInBounds_toArray, List.set_cons_zero, List.set_cons_succ]
      exact IH (.c0, false, false, true) _ _ (by decide) ⟨A, B, _, _, _, _, _, _, _, rfl, ⟨rfl, rfl, rfl, rfl, rfl, rfl⟩, hV.newF⟩ hS2
    exact AllReadyH.nil
  · obtain ⟨rfl, rfl, rfl, rfl, rfl, rfl⟩ := hC
    show wpAnyH _ _ _ _ _ 11 #[true, true, true, false, false, false, false, false, false, false, false, true, false, false, false] _ _
    dsimp only [zfr, zbp]
    refine wpAnyH_ready (rs := [3, 9, 10]) (by kernel_rfl) (by simp) ?_
    refine AllReadyH.cons rfl (fun K hK => ?_) ?_
    · go_simp
      refine (HP.out _).mono ?_
      rintro e v ⟨b, a, n2, c2, rfl, hI, hn2, hx⟩
      go_wp2_with fail
      refine hK.out _ _ (hKeep _ (hV.e.trans hx)) (fun hS2 => ?_)
      simp only [List.setIfInBounds_toArray, List.set_cons_zero, List.set_cons_succ]
      exact IH (.c1, false, false, true) _ _ (by decide) ⟨A, B, F, _, _, _, _, _, _, rfl, ⟨b, a, n2, c2, rfl, hI, hn2, rfl, rfl, rfl, rfl, rfl⟩, hV.ext hx⟩ hS2
    refine AllReadyH.cons rfl (fun K hK => ?_) ?_
    · go_simp
      refine hK.out _ _ (hKeep _ hV.newA.e) (fun hS2 => ?_)
      simp only [List.setIfInBounds_toArray, List.set_cons_zero, List.set_cons_succ]
      exact IH (.c0, true, false, true) _ _ (by decide) ⟨_, B, F, _, _, _, _, _, _, rfl, ⟨rfl, rfl, rfl, rfl, rfl, rfl⟩, hV.newA⟩ hS2
    refine AllReadyH.cons rfl (fun K hK => ?_) ?_
    · go_simp
      refine hK.out _ _ (hKeep _ hV.newB.e) (fun hS2 => ?_)
      simp only [List.setIfInBounds_toArray, List.set_cons_zero, List.set_cons_succ]
      exact IH (.c0, false, true, true) _ _ (by decide) ⟨A, _, F, _, _, _, _, _, _, rfl, ⟨rfl, rfl, rfl, rfl, rfl, rfl⟩, hV.newB⟩ hS2
    exact AllReadyH.nil
  · obtain ⟨rfl, rfl, rfl, rfl, rfl, rfl⟩ := hC
    show wpAnyH _ _ _ _ _ 11 #[true, true, true, false, false, false, false, false, false, false, true, false, false, false, false] _ _
    dsimp only [zfr, zbp]
    refine wpAnyH_ready (rs := [3, 9, 11]) (by kernel_rfl) (by simp) ?_
    refine AllReadyH.cons rfl (fun K hK => ?_) ?_
    · go_simp
      refine (HP.out _).mono ?_
      rintro e v ⟨b, a, n2, c2, rfl, hI, hn2, hx⟩
      go_wp2_with fail
      refine hK.out _ _ (hKeep _ (hV.e.trans hx)) (fun hS2 => ?_)
      simp only [List.setIfInBounds_toArray, List.set_cons_zero, List.set_cons_succ]
      exact IH (.c1, false, true, false) _ _ (by decide) ⟨A, B, F, _, _, _, _, _, _, rfl, ⟨b, a, n2, c2, rfl, hI, hn2, rfl, rfl, rfl, rfl, rfl⟩, hV.ext hx⟩ hS2
    refine AllReadyH.cons rfl (fun K hK => ?_) ?_
    · go_simp
      refine hK.out _ _ (hKeep _ hV.newA.e) (fun hS2 => ?_)
      simp only [List.setIfInBounds_toArray, List.set_cons_zero, List.set_cons_succ]
      exact IH (.c0, true, true, false) _ _ (by decide) ⟨_, B, F, _, _, _, _, _, _, rfl, ⟨rfl, rfl, rfl, rfl, rfl, rfl⟩, hV.newA⟩ hS2
    refine AllReadyH.cons rfl (fun K hK => ?_) ?_
    · go_simp
      refine hK.out _ _ (hKeep _ hV.newF.e) (fun hS2 => ?_)
      simp only [List.setIfInBounds_toArray, List.set_cons_zero, List.set_cons_succ]
      exact IH (.c0, false, true, true) _ _ (by decide) ⟨A, B, _, _, _, _, _, _, _, rfl, ⟨rfl, rfl, rfl, rfl, rfl, rfl⟩, hV.newF⟩ hS2
    exact AllReadyH.nil
  · obtain ⟨rfl, rfl, rfl, rfl, rfl, rfl⟩ := hC
    show wpAnyH _ _ _ _ _ 10 #[true, true, true, false, false, false, false, false, false, false, true, true, false, false, false] _ _
    dsimp only [zfr, zbp]
    refine wpAnyH_ready (rs := [3, 9]) (by kernel_rfl) (by simp) ?_
    refine AllReadyH.cons rfl (fun K hK => ?_) ?_
    · go_simp
      refine (HP.out _).mono ?_
      rintro e v ⟨b, a, n2, c2, rfl, hI, hn2, hx⟩
      go_wp2_with fail
      refine hK.out _ _ (hKeep _ (hV.e.trans hx)) (fun hS2 => ?_)
      simp only [List.setIfInBounds_toArray, List.set_cons_zero, List.set_cons_succ]
      exact IH (.c1, false, true, true) _ _ (by decide) ⟨A, B, F, _, _, _, _, _, _, rfl, ⟨b, a, n2, c2, rfl, hI, hn2, rfl, rfl, rfl, rfl, rfl⟩, hV.ext hx⟩ hS2
    refine AllReadyH.cons rfl (fun K hK => ?_) ?_
    · go_simp
      refine hK.out _ _ (hKeep _ hV.newA.e) (fun hS2 => ?_)
      simp only [List.setIfInBounds_toArray, List.set_cons_zero, List.set_cons_succ]
      exact IH (.c0, true, true, true) _ _ (by decide) ⟨_, B, F, _, _, _, _, _, _, rfl, ⟨rfl, rfl, rfl, rfl, rfl, rfl⟩, hV.newA⟩ hS2
    exact AllReadyH.nil
  · obtain ⟨rfl, rfl, rfl, rfl, rfl, rfl⟩ := hC
    show wpAnyH _ _ _ _ _ 11 #[true, true, true, false, false, false, false, false, false, true, false, false, false, false, false] _ _
    dsimp only [zfr, zbp]
    refine wpAnyH_ready (rs := [3, 10, 11]) (by kernel_rfl) (by simp) ?_
    refine AllReadyH.cons rfl (fun K hK => ?_) ?_
    · go_simp
      refine (HP.out _).mono ?_
      rintro e v ⟨b, a, n2, c2, rfl, hI, hn2, hx⟩
      go_wp2_with fail
      refine hK.out _ _ (hKeep _ (hV.e.trans hx)) (fun hS2 => ?_)
      simp only [List.setIfInBounds_toArray, List.set_cons_zero, List.set_cons_succ]
      exact IH (.c1, true, false, false) _ _ (by decide) ⟨A, B, F, _, _, _, _, _, _, rfl, ⟨b, a, n2, c2, rfl, hI, hn2, rfl, rfl, rfl, rfl, rfl⟩, hV.ext hx⟩ hS2
    refine AllReadyH.cons rfl (fun K hK => ?_) ?_
    · go_simp
      refine hK.out _ _ (hKeep _ hV.newB.e) (fun hS2 => ?_)
      simp only [List.setIfInBounds_toArray, List.set_cons_zero, List.set_cons_succ]
      exact IH (.c0, true, true, false) _ _ (by decide) ⟨A, _, F, _, _, _, _, _, _, rfl, ⟨rfl, rfl, rfl, rfl, rfl, rfl⟩, hV.newB⟩ hS2
    refine AllReadyH.cons rfl (fun K hK => ?_) ?_
    · go_simp
      refine hK.out _ _ (hKeep _ hV.newF.e) (fun hS2 => ?_)
      simp only [List.setIfInBounds_toArray, List.set_cons_zero, List.set_cons_succ]
      exact IH (.c0, true, false, true) _ _ (by decide) ⟨A, B, _, _, _, _, _, _, _, rfl, ⟨rfl, rfl, rfl, rfl, rfl, rfl⟩, hV.newF⟩ hS2
    exact AllReadyH.nil
  · obtain ⟨rfl, rfl, rfl, rfl, rfl, rfl⟩ := hC
    show wpAnyH _ _ _ _ _ 10 #[true, true, true, false, false, false, false, false, false, true, false, true, false, false, false] _ _
    dsimp only [zfr, zbp]
    refine wpAnyH_ready (rs := [3, 10]) (by kernel_rfl) (by simp) ?_
    refine AllReadyH.cons rfl (fun K hK => ?_) ?_
    · go_simp
      refine (HP.out _).mono ?_
      rintro e v ⟨b, a, n2, c2, rfl, hI, hn2, hx⟩
      go_wp2_with fail
      refine hK.out _ _ (hKeep _ (hV.e.trans hx)) (fun hS2 => ?_)
      simp only [List.setIfInBounds_toArray, List.set_cons_zero, List.set_cons_succ]
      exact IH (.c1, true, false, true) _ _ (by decide) ⟨A, B, F, _, _, _, _, _, _, rfl, ⟨b, a, n2, c2, rfl, hI, hn2, rfl, rfl, rfl, rfl, rfl⟩, hV.ext hx⟩ hS2
    refine AllReadyH.cons rfl (fun K hK => ?_) ?_
    · go_simp
      refine hK.out _ _ (hKeep _ hV.newB.e) (fun hS2 => ?_)
      simp only [List.setIfInBounds_toArray, List.set_cons_zero, List.set_cons_succ]
      exact IH (.c0, true, true, true) _ _ (by decide) ⟨A, _, F, _, _, _, _, _, _, rfl, ⟨rfl, rfl, rfl, rfl, rfl, rfl⟩, hV.newB⟩ hS2
    exact AllReadyH.nil
  · obtain ⟨rfl, rfl, rfl, rfl, rfl, rfl⟩ := hC
    show wpAnyH _ _ _ _ _ 10 #[true, true, true, false, false, false, false, false, false, true, true, false, false, false, false] _ _
    dsimp only [zfr, zbp]
    refine wpAnyH_ready (rs := [3, 11]) (by kernel_rfl) (by simp) ?_
    refine AllReadyH.cons rfl (fun K hK => ?_) ?_
    · go_simp
      refine (HP.out _).mono ?_
      rintro e v ⟨b, a, n2, c2, rfl, hI, hn2, hx⟩
      go_wp2_with fail
      refine hK.out _ _ (hKeep _ (hV.e.trans hx)) (fun hS2 => ?_)
      simp only [List.setIfInBounds_toArray, List.set_cons_zero, List.set_cons_succ]
      exact IH (.c1, true, true, false) _ _ (by decide) ⟨A, B, F, _, _, _, _, _, _, rfl, ⟨b, a, n2, c2, rfl, hI, hn2, rfl, rfl, rfl, rfl, rfl⟩, hV.ext hx⟩ hS2
    refine AllReadyH.cons rfl (fun K hK => ?_) ?_
    · go_simp
      refine hK.out _ _ (hKeep _ hV.newF.e) (fun hS2 => ?_)
      simp only [List.setIfInBounds_toArray, List.set_cons_zero, List.set_cons_succ]
      exact IH (.c0, true, true, true) _ _ (by decide) ⟨A, B, _, _, _, _, _, _, _, rfl, ⟨rfl, rfl, rfl, rfl, rfl, rfl⟩, hV.newF⟩ hS2
    exact AllReadyH.nil
  · obtain ⟨rfl, rfl, rfl, rfl, rfl, rfl⟩ := hC
    show wpAnyH _ _ _ _ _ 9 #[true, true, true, false, false, false, false, false, false, true, true, true, false, false, false] _ _
    dsimp only [zfr, zbp]
    refine wpAnyH_ready (rs := [3]) (by kernel_rfl) (by simp) ?_
    refine AllReadyH.cons rfl (fun K hK => ?_) ?_
    · go_simp
      refine (HP.out _).mono ?_
      rintro e v ⟨b, a, n2, c2, rfl, hI, hn2, hx⟩
      go_wp2_with fail
      refine hK.out _ _ (hKeep _ (hV.e.trans hx)) (fun hS2 => ?_)
      simp only [List.setIfInBounds_toArray, List.set_cons_zero, List.set_cons_succ]
      exact IH (.c1, true, true, true) _ _ (by decide) ⟨A, B, F, _, _, _, _, _, _, rfl, ⟨b, a, n2, c2, rfl, hI, hn2, rfl, rfl, rfl, rfl, rfl⟩, hV.ext hx⟩ hS2
    exact AllReadyH.nil
  · obtain ⟨b, a, n2, c2, rfl, hI, hn2, rfl, rfl, rfl, rfl, rfl⟩ := hC
    show wpAnyH _ _ _ _ _ 11 #[true, true, true, true, false, false, false, false, false, false, false, false, false, false, false] _ _
    dsimp only [zfr, zbp]
    refine wpAnyH_ready (rs := [4, 9, 10, 11]) (by kernel_rfl) (by simp) ?_
    refine AllReadyH.cons rfl (fun K hK => ?_) ?_
    · go_simp
      refine (ZDiv_any b1 b a1 a n1 c1 n2 c2 z1 (P : Int) u (H1.out.ext (hE.trans hV.e)) hI hn1 (by omega) hPz).mono ?_
      rintro e v ⟨b5, a5, n5, c5, b6, a6, n6, c6, qq, rr, rfl, Iq, Ir, heq, hr0, hrlt, hn5, hn6, hx⟩
      have hqq := div_of hP0 heq hr0 hrlt
      go_wp2_with fail
      refine hK.out _ _ (hKeep _ (hV.e.trans hx)) (fun hS2 => ?_)
      simp only [List.setIfInBounds_toArray, List.set_cons_zero, List.set_cons_succ]
      exact IH (.c2, false, false, false) _ _ (by decide) ⟨A, B, F, _, _, _, _, _, _, rfl, ⟨b5, a5, n5, c5, b6, a6, n6, c6, rfl, Iq.cast hqq.symm, by omega, rfl, rfl, rfl, rfl⟩, hV.ext hx⟩ hS2
    refine AllReadyH.cons rfl (fun K hK => ?_) ?_
    · go_simp
      refine hK.out _ _ (hKeep _ hV.newA.e) (fun hS2 => ?_)
      simp only [List.setIfInBounds_toArray, List.set_cons_zero, List.set_cons_succ]
      exact IH (.c1, true, false, false) _ _ (by decide) ⟨_, B, F, _, _, _, _, _, _, rfl, ⟨b, a, n2, c2, rfl, hI.ext (ext_alloc u (.cells #[.bool false, .slice none 0 0] 31)), hn2, rfl, rfl, rfl, rfl, rfl⟩, hV.newA⟩ hS2
    refine AllReadyH.cons rfl (fun K hK => ?_) ?_
    · go_simp
      refine hK.out _ _ (hKeep _ hV.newB.e) (fun hS2 => ?_)
      simp only [List.setIfInBounds_toArray, List.set_cons_zero, List.set_cons_succ]
      exact IH (.c1, false, true, false) _ _ (by decide) ⟨A, _, F, _, _, _, _, _, _, rfl, ⟨b, a, n2, c2, rfl, hI.ext (ext_alloc u (.cells #[.bool false, .slice none 0 0] 31)), hn2, rfl, rfl, rfl, rfl, rfl⟩, hV.newB⟩ hS2
    refine AllReadyH.cons rfl (fun K hK => ?_) ?_
    · go_simp
      refine hK.out _ _ (hKeep _ hV.newF.e) (fun hS2 => ?_)
      simp only [List.setIfInBounds_toArray, List.set_cons_zero, List.set_cons_succ]
      exact IH (.c1, false, false, true) _ _ (by decide) ⟨A, B, _, _, _, _, _, _, _, rfl, ⟨b, a, n2, c2, rfl, hI.ext (ext_alloc u (.cells #[.int .i64 0, .int .i64 0] 26)), hn2, rfl, rfl, rfl, rfl, rfl⟩, hV.newF⟩ hS2
    exact AllReadyH.nil
  · obtain ⟨b, a, n2, c2, rfl, hI, hn2, rfl, rfl, rfl, rfl, rfl⟩ := hC
    show wpAnyH _ _ _ _ _ 10 #[true, true, true, true, false, false, false, false, false, false, false, true, false, false, false] _ _
    dsimp only [zfr, zbp]
    refine wpAnyH_ready (rs := [4, 9, 10]) (by kernel_rfl) (by simp) ?_
    refine AllReadyH.cons rfl (fun K hK => ?_) ?_
    · go_simp
      refine (ZDiv_any b1 b a1 a n1 c1 n2 c2 z1 (P : Int) u (H1.out.ext (hE.trans hV.e)) hI hn1 (by omega) hPz).mono ?_
      rintro e v ⟨b5, a5, n5, c5, b6, a6, n6, c6, qq, rr, rfl, Iq, Ir, heq, hr0, hrlt, hn5, hn6, hx⟩
      have hqq := div_of hP0 heq hr0 hrlt
      go_wp2_with fail
      refine hK.out _ _ (hKeep _ (hV.e.trans hx)) (fun hS2 => ?_)
      simp only [List.setIfInBounds_toArray, List.set_cons_zero, List.set_cons_succ]
      exact IH (.c2, false, false, true) _ _ (by decide) ⟨A, B, F, _, _, _, _, _, _, rfl, ⟨b5, a5, n5, c5, b6, a6, n6, c6, rfl, Iq.cast hqq.symm, by omega, rfl, rfl, rfl, rfl⟩, hV.ext hx⟩ hS2
    refine AllReadyH.cons rfl (fun K hK => ?_) ?_
    · go_simp
      refine hK.out _ _ (hKeep _ hV.newA.e) (fun hS2 => ?_)
      simp only [List.setIfInBounds_toArray, List.set_cons_zero, List.set_cons_succ]
      exact IH (.c1, true, false, true) _ _ (by decide) ⟨_, B, F, _, _, _, _, _, _, rfl, ⟨b, a, n2, c2, rfl, hI.ext (ext_alloc u (.cells #[.bool false, .slice none 0 0] 31)), hn2, rfl, rfl, rfl, rfl, rfl⟩, hV.newA⟩ hS2
    refine AllReadyH.cons rfl (fun K hK => ?_) ?_
    · go_simp
      refine hK.out _ _ (hKeep _ hV.newB.e) (fun hS2 => ?_)
      simp only [List.setIfInBounds_toArray, List.set_cons_zero, List.set_cons_succ]
      exact IH (.c1, false, true, true) _ _ (by decide) ⟨A, _, F, _, _, _, _, _, _, rfl, ⟨b, a, n2, c2, rfl, hI.ext (ext_alloc u (.cells #[.bool false, .slice none 0 0] 31)), hn2, rfl, rfl, rfl, rfl, rfl⟩, hV.newB⟩ hS2
    exact AllReadyH.nil
  · obtain ⟨b, a, n2, c2, rfl, hI, hn2, rfl, rfl, rfl, rfl, rfl⟩ := hC
    show wpAnyH _ _ _ _ _ 10 #[true, true, true, true, false, false, false, false, false, false, true, false, false, false, false] _ _
    dsimp only [zfr, zbp]
    refine wpAnyH_ready (rs := [4, 9, 11]) (by kernel_rfl) (by simp) ?_
    refine AllReadyH.cons rfl (fun K hK => ?_) ?_
    · go_simp
      refine (ZDiv_any b1 b a1 a n1 c1 n2 c2 z1 (P : Int) u (H1.out.ext (hE.trans hV.e)) hI hn1 (by omega) hPz).mono ?_
      rintro e v ⟨b5, a5, n5, c5, b6, a6, n6, c6, qq, rr, rfl, Iq, Ir, heq, hr0, hrlt, hn5, hn6, hx⟩
      have hqq := div_of hP0 heq hr0 hrlt
      go_wp2_with fail
      refine hK.out _ _ (hKeep _ (hV.e.trans hx)) (fun hS2 => ?_)
      simp only [List.setIfInBounds_toArray, List.set_cons_zero, List.set_cons_succ]
      exact IH (.c2, false, true, false) _ _ (by decide) ⟨A, B, F, _, _, _, _, _, _, rfl, ⟨b5, a5, n5, c5, b6, a6, n6, c6, rfl, Iq.cast hqq.symm, by omega, rfl, rfl, rfl, rfl⟩, hV.ext hx⟩ hS2
    refine AllReadyH.cons rfl (fun K hK => ?_) ?_
    · go_simp
      refine hK.out _ _ (hKeep _ hV.newA.e) (fun hS2 => ?_)
      simp only [List.setIfInBounds_toArray, List.set_cons_zero, List.set_cons_succ]
      exact IH (.c1, true, true, false) _ _ (by decide) ⟨_, B, F, _, _, _, _, _, _, rfl, ⟨b, a, n2, c2, rfl, hI.ext (ext_alloc u (.cells #[.bool false, .slice none 0 0] 31)), hn2, rfl, rfl, rfl, rfl, rfl⟩, hV.newA⟩ hS2
    refine AllReadyH.cons rfl (fun K hK => ?_) ?_
    · go_simp
      refine hK.out _ _ (hKeep _ hV.newF.e) (fun hS2 => ?_)
      simp only [List.setIfInBounds_toArray, List.set_cons_zero, List.set_cons_succ]
      exact IH (.c1, false, true, true) _ _ (by decide) ⟨A, B, _, _, _, _, _, _, _, rfl, ⟨b, a, n2, c2, rfl, hI.ext (ext_alloc u (.cells #[.int .i64 0, .int .i64 0] 26)), hn2, rfl, rfl, rfl, rfl, rfl⟩, hV.newF⟩ hS2
    exact AllReadyH.nil
  · obtain ⟨b, a, n2, c2, rfl, hI, hn2, rfl, rfl, rfl, rfl, rfl⟩ := hC
    show wpAnyH _ _ _ _ _ 9 #[true, true, true, true, false, false, false, false, false, false, true, true, false, false, false] _ _
    dsimp only [zfr, zbp]
    refine wpAnyH_ready (rs := [4, 9]) (by kernel_rfl) (by simp) ?_
    refine AllReadyH.cons rfl (fun K hK => ?_) ?_
    · go_simp
      refine (ZDiv_any b1 b a1 a n1 c1 n2 c2 z1 (P : Int) u (H1.out.ext (hE.trans hV.e)) hI hn1 (by omega) hPz).mono ?_
      rintro e v ⟨b5, a5, n5, c5, b6, a6, n6, c6, qq, rr, rfl, Iq, Ir, heq, hr0, hrlt, hn5, hn6, hx⟩
      have hqq := div_of hP0 heq hr0 hrlt
      go_wp2_with fail
      refine hK.out _ _ (hKeep _ (hV.e.trans hx)) (fun hS2 => ?_)
      simp only [List.setIfInBounds_toArray, List.set_cons_zero, List.set_cons_succ]
      exact IH (.c2, false, true, true) _ _ (by decide) ⟨A, B, F, _, _, _, _, _, _, rfl, ⟨b5, a5, n5, c5, b6, a6, n6, c6, rfl, Iq.cast hqq.symm, by omega, rfl, rfl, rfl, rfl⟩, hV.ext hx⟩ hS2
    refine AllReadyH.cons rfl (fun K hK => ?_) ?_
    · go_simp
      refine hK.out _ _ (hKeep _ hV.newA.e) (fun hS2 => ?_)
      simp only [List.setIfInBounds_toArray, List.set_cons_zero, List.set_cons_succ]
      exact IH (.c1, true, true, true) _ _ (by decide) ⟨_, B, F, _, _, _, _, _, _, rfl, ⟨b, a, n2, c2, rfl, hI.ext (ext_alloc u (.cells #[.bool false, .slice none 0 0] 31)), hn2, rfl, rfl, rfl, rfl, rfl⟩, hV.newA⟩ hS2
    exact AllReadyH.nil
  · obtain ⟨b, a, n2, c2, rfl, hI, hn2, rfl, rfl, rfl, rfl, rfl⟩ := hC
    show wpAnyH _ _ _ _ _ 10 #[true, true, true, true, false, false, false, false, false, true, false, false, false, false, false] _ _
    dsimp only [zfr, zbp]
    refine wpAnyH_ready (rs := [4, 10, 11]) (by kernel_rfl) (by simp) ?_
    refine AllReadyH.cons rfl (fun K hK => ?_) ?_
    · go_simp
      refine (ZDiv_any b1 b a1 a n1 c1 n2 c2 z1 (P : Int) u (H1.out.ext (hE.trans hV.e)) hI hn1 (by omega) hPz).mono ?_
      rintro e v ⟨b5, a5, n5, c5, b6, a6, n6, c6, qq, rr, rfl, Iq, Ir, heq, hr0, hrlt, hn5, hn6, hx⟩
      have hqq := div_of hP0 heq hr0 hrlt
      go_wp2_with fail
      refine hK.out _ _ (hKeep _ (hV.e.trans hx)) (fun hS2 => ?_)
      simp only [List.setIfInBounds_toArray, List.set_cons_zero, List.set_cons_succ]
      exact IH (.c2, true, false, false) _ _ (by decide) ⟨A, B, F, _, _, _, _, _, _, rfl, ⟨b5, a5, n5, c5, b6, a6, n6, c6, rfl, Iq.cast hqq.symm, by omega, rfl, rfl, rfl, rfl⟩, hV.ext hx⟩ hS2
    refine AllReadyH.cons rfl (fun K hK => ?_) ?_
    · go_simp
      refine hK.out _ _ (hKeep _ hV.newB.e) (fun hS2 => ?_)
      simp only [List.setIfInBounds_toArray, List.set_cons_zero, List.set_cons_succ]
      exact IH (.c1, true, true, false) _ _ (by decide) ⟨A, _, F, _, _, _, _, _, _, rfl, ⟨b, a, n2, c2, rfl, hI.ext (ext_alloc u (.cells #[.bool false, .slice none 0 0] 31)), hn2, rfl, rfl, rfl, rfl, rfl⟩, hV.newB⟩ hS2
    refine AllReadyH.cons rfl (fun K hK => ?_) ?_
    · go_simp
      refine hK.out _ _ (hKeep _ hV.newF.e) (fun hS2 => ?_)
      simp only [List.setIfInBounds_toArray, List.set_cons_zero, List.set_cons_succ]
      exact IH (.c1, true, false, true) _ _ (by decide) ⟨A, B, _, _, _, _, _, _, _, rfl, ⟨b, a, n2, c2, rfl, hI.ext (ext_alloc u (.cells #[.int .i64 0, .int .i64 0] 26)), hn2, rfl, rfl, rfl, rfl, rfl⟩, hV.newF⟩ hS2
    exact AllReadyH.nil
  · obtain ⟨b, a, n2, c2, rfl, hI, hn2, rfl, rfl, rfl, rfl, rfl⟩ := hC
    show wpAnyH _ _ _ _ _ 9 #[true, true, true, true, false, false, false, false, false, true, false, true, false, false, false] _ _
    dsimp only [zfr, zbp]
    refine wpAnyH_ready (rs := [4, 10]) (by kernel_rfl) (by simp) ?_
    refine AllReadyH.cons rfl (fun K hK => ?_) ?_
    · go_simp
      refine (ZDiv_any b1 b a1 a n1 c1 n2 c2 z1 (P : Int) u (H1.out.ext (hE.trans hV.e)) hI hn1 (by omega) hPz).mono ?_
      rintro e v ⟨b5, a5, n5, c5, b6, a6, n6, c6, qq, rr, rfl, Iq, Ir, heq, hr0, hrlt, hn5, hn6, hx⟩
      have hqq := div_of hP0 heq hr0 hrlt
      go_wp2_with fail
      refine hK.out _ _ (hKeep _ (hV.e.trans hx)) (fun hS2 => ?_)
      simp only [List.setIfInBounds_toArray, List.set_cons_zero, List.set_cons_succ]
      exact IH (.c2, true, false, true) _ _ (by decide) ⟨A, B, F, _, _, _, _, _, _, rfl, ⟨b5, a5, n5, c5, b6, a6, n6, c6, rfl, Iq.cast hqq.symm, by omega, rfl, rfl, rfl, rfl⟩, hV.ext hx⟩ hS2
    refine AllReadyH.cons rfl (fun K hK => ?_) ?_
    · go_simp
      refine hK.out _ _ (hKeep _ hV.newB.e) (fun hS2 => ?_)
      simp only [List.setIfInBounds_toArray, List.set_cons_zero, List.set_cons_succ]
      exact IH (.c1, true, true, true) _ _ (by decide) ⟨A, _, F, _, _, _, _, _, _, rfl, ⟨b, a, n2, c2, rfl, hI.ext (ext_alloc u (.cells #[.bool false, .slice none 0 0] 31)), hn2, rfl, rfl, rfl, rfl, rfl⟩, hV.newB⟩ hS2
    exact AllReadyH.nil
  · obtain ⟨b, a, n2, c2, rfl, hI, hn2, rfl, rfl, rfl, rfl, rfl⟩ := hC
    show wpAnyH _ _ _ _ _ 9 #[true, true, true, true, false, false, false, false, false, true, true, false, false, false, false] _ _
    dsimp only [zfr, zbp]
    refine wpAnyH_ready (rs := [4, 11]) (by kernel_rfl) (by simp) ?_
    refine AllReadyH.cons rfl (fun K hK => ?_) ?_
    · go_simp
      refine (ZDiv_any b1 b a1 a n1 c1 n2 c2 z1 (P : Int) u (H1.out.ext (hE.trans hV.e)) hI hn1 (by omega) hPz).mono ?_
      rintro e v ⟨b5, a5, n5, c5, b6, a6, n6, c6, qq, rr, rfl, Iq, Ir, heq, hr0, hrlt, hn5, hn6, hx⟩
      have hqq := div_of hP0 heq hr0 hrlt
      go_wp2_with fail
      refine hK.out _ _ (hKeep _ (hV.e.trans hx)) (fun hS2 => ?_)
      simp only [List.setIfInBounds_toArray, List.set_cons_zero, List.set_cons_succ]
      exact IH (.c2, true, true, false) _ _ (by decide) ⟨A, B, F, _, _, _, _, _, _, rfl, ⟨b5, a5, n5, c5, b6, a6, n6, c6, rfl, Iq.cast hqq.symm, by omega, rfl, rfl, rfl, rfl⟩, hV.ext hx⟩ hS2
    refine AllReadyH.cons rfl (fun K hK => ?_) ?_
    · go_simp
      refine hK.out _ _ (hKeep _ hV.newF.e) (fun hS2 => ?_)
      simp only [List.setIfInBounds_toArray, List.set_cons_zero, List.set_cons_succ]
      exact IH (.c1, true, true, true) _ _ (by decide) ⟨A, B, _, _, _, _, _, _, _, rfl, ⟨b, a, n2, c2, rfl, hI.ext (ext_alloc u (.cells #[.int .i64 0, .int .i64 0] 26)), hn2, rfl, rfl, rfl, rfl, rfl⟩, hV.newF⟩ hS2
    exact AllReadyH.nil
  · obtain ⟨b, a, n2, c2, rfl, hI, hn2, rfl, rfl, rfl, rfl, rfl⟩ := hC
    show wpAnyH _ _ _ _ _ 8 #[true, true, true, true, false, false, false, false, false, true, true, true, false, false, false] _ _
    dsimp only [zfr, zbp]
    refine wpAnyH_ready (rs := [4]) (by kernel_rfl) (by simp) ?_
    refine AllReadyH.cons rfl (fun K hK => ?_) ?_
    · go_simp
      refine (ZDiv_any b1 b a1 a n1 c1 n2 c2 z1 (P : Int) u (H1.out.ext (hE.trans hV.e)) hI hn1 (by omega) hPz).mono ?_
      rintro e v ⟨b5, a5, n5, c5, b6, a6, n6, c6, qq, rr, rfl, Iq, Ir, heq, hr0, hrlt, hn5, hn6, hx⟩
      have hqq := div_of hP0 heq hr0 hrlt
      go_wp2_with fail
      refine hK.out _ _ (hKeep _ (hV.e.trans hx)) (fun hS2 => ?_)
      simp only [List.setIfInBounds_toArray, List.set_cons_zero, List.set_cons_succ]
      exact IH (.c2, true, true, true) _ _ (by decide) ⟨A, B, F, _, _, _, _, _, _, rfl, ⟨b5, a5, n5, c5, b6, a6, n6, c6, rfl, Iq.cast hqq.symm, by omega, rfl, rfl, rfl, rfl⟩, hV.ext hx⟩ hS2
    exact AllReadyH.nil
  · obtain ⟨b, a, n2, c2, b3, a3, n3, c3, rfl, hI, hn2, rfl, rfl, rfl, rfl⟩ := hC
    show wpAnyH _ _ _ _ _ 10 #[true, true, true, true, true, false, false, false, false, false, false, false, false, false, false] _ _
    dsimp only [zfr, zbp]
    refine wpAnyH_take (i := 5) (v := ?_) rfl (by kernel_rfl) (by kernel_rfl) (by kernel_rfl) (fun _ _ _ h => h) (Or.inl ⟨by rfl, ?_⟩) hS ?_
    rotate_left 1
    · intro w hSw
      go_simp
      try with_reducible rfl
    show wpAnyH _ _ _ _ _ _ _ (Act.put _ (some 24) _) _
    simp only [Act.put, List.setIfInBounds_toArray, List.set_cons_zero, List.set_cons_succ]
    refine wpAnyH_take (i := 6) (v := ?_) rfl (by kernel_rfl) (by kernel_rfl) (by kernel_rfl) (fun _ _ _ h => h) (Or.inl ⟨by rfl, ?_⟩) hS ?_
    rotate_left 1
    · intro w hSw
      go_simp
      try with_reducible rfl
    show wpAnyH _ _ _ _ _ _ _ (Act.put _ (some 30) _) _
    simp only [Act.put, List.setIfInBounds_toArray, List.set_cons_zero, List.set_cons_succ]
    refine wpAnyH_take (i := 7) (v := ?_) rfl (by kernel_rfl) (by kernel_rfl) (by kernel_rfl) (fun _ _ _ h => h) (Or.inl ⟨by rfl, ?_⟩) hS ?_
    rotate_left 1
    · intro w hSw
      go_simp
      try with_reducible rfl
    show wpAnyH _ _ _ _ _ _ _ (Act.put _ (some 31) _) _
    simp only [Act.put, List.setIfInBounds_toArray, List.set_cons_zero, List.set_cons_succ]
    refine wpAnyH_take (i := 8) (v := ?_) rfl (by kernel_rfl) (by kernel_rfl) (by kernel_rfl) (fun _ _ _ h => h) (Or.inl ⟨by rfl, ?_⟩) hS ?_
    rotate_left 1
    · intro w hSw
      go_simp
      try with_reducible rfl
    show wpAnyH _ _ _ _ _ _ _ (Act.put _ (some 32) _) _
    simp only [Act.put, List.setIfInBounds_toArray, List.set_cons_zero, List.set_cons_succ]
    exact IH (.c3, false, false, false) _ _ (by decide) ⟨A, B, F, _, _, _, _, _, _, rfl, ⟨b, a, n2, c2, b3, a3, n3, c3, rfl, rfl, rfl, hI, hn2⟩, hV⟩ hS
  · obtain ⟨b, a, n2, c2, b3, a3, n3, c3, rfl, hI, hn2, rfl, rfl, rfl, rfl⟩ := hC
    show wpAnyH _ _ _ _ _ 9 #[true, true, true, true, true, false, false, false, false, false, false, true, false, false, false] _ _
    dsimp only [zfr, zbp]
    refine wpAnyH_take (i := 5) (v := ?_) rfl (by kernel_rfl) (by kernel_rfl) (by kernel_rfl) (fun _ _ _ h => h) (Or.inl ⟨by rfl, ?_⟩) hS ?_
    rotate_left 1
    · intro w hSw
      go_simp
      try with_reducible rfl
    show wpAnyH _ _ _ _ _ _ _ (Act.put _ (some 24) _) _
    simp only [Act.put, List.setIfInBounds_toArray, List.set_cons_zero, List.set_cons_succ]
    refine wpAnyH_take (i := 6) (v := ?_) rfl (by kernel_rfl) (by kernel_rfl) (by kernel_rfl) (fun _ _ _ h => h) (Or.inl ⟨by rfl, ?_⟩) hS ?_
    rotate_left 1
    · intro w hSw
      go_simp
      try with_reducible rfl
    show wpAnyH _ _ _ _ _ _ _ (Act.put _ (some 30) _) _
    simp only [Act.put, List.setIfInBounds_toArray, List.set_cons_zero, List.set_cons_succ]
    refine wpAnyH_take (i := 7) (v := ?_) rfl (by kernel_rfl) (by kernel_rfl) (by kernel_rfl) (fun _ _ _ h => h) (Or.inl ⟨by rfl, ?_⟩) hS ?_
    rotate_left 1
    · intro w hSw
      go_simp
      try with_reducible rfl
    show wpAnyH _ _ _ _ _ _ _ (Act.put _ (some 31) _) _
    simp only [Act.put, List.setIfInBounds_toArray, List.set_cons_zero, List.set_cons_succ]
    refine wpAnyH_take (i := 8) (v := ?_) rfl (by kernel_rfl) (by kernel_rfl) (by kernel_rfl) (fun _ _ _ h => h) (Or.inl ⟨by rfl, ?_⟩) hS ?_
    rotate_left 1
    · intro w hSw
      go_simp
      try with_reducible rfl
    show wpAnyH _ _ _ _ _ _ _ (Act.put _ (some 32) _) _
    simp only [Act.put, List.setIfInBounds_toArray, List.set_cons_zero, List.set_cons_succ]
    exact IH (.c3, false, false, true) _ _ (by decide) ⟨A, B, F, _, _, _, _, _, _, rfl, ⟨b, a, n2, c2, b3, a3, n3, c3, rfl, rfl, rfl, hI, hn2⟩, hV⟩ hS
  · obtain ⟨b, a, n2, c2, b3, a3, n3, c3, rfl, hI, hn2, rfl, rfl, rfl, rfl⟩ := hC
    show wpAnyH _ _ _ _ _ 9 #[true, true, true, true, true, false, false, false, false, false, true, false, false, false, false] _ _
    dsimp only [zfr, zbp]
    refine wpAnyH_take (i := 5) (v := ?_) rfl (by kernel_rfl) (by kernel_rfl) (by kernel_rfl) (fun _ _ _ h => h) (Or.inl ⟨by rfl, ?_⟩) hS ?_
    rotate_left 1
    · intro w hSw
      go_simp
      try with_reducible rfl
    show wpAnyH _ _ _ _ _ _ _ (Act.put _ (some 24) _) _
    simp only [Act.put, List.setIfInBounds_toArray, List.set_cons_zero, List.set_cons_succ]
    refine wpAnyH_take (i := 6) (v := ?_) rfl (by kernel_rfl) (by kernel_rfl) (by kernel_rfl) (fun _ _ _ h => h) (Or.inl ⟨by rfl, ?_⟩) hS ?_
    rotate_left 1
    · intro w hSw
      go_simp
      try with_reducible rfl
    show wpAnyH _ _ _ _ _ _ _ (Act.put _ (some 30) _) _
    simp only [Act.put, List.setIfInBounds_toArray, List.set_cons_zero, List.set_cons_succ]
    refine wpAnyH_take (i := 7) (v := ?_) rfl (by kernel_rfl) (by kernel_rfl) (by kernel_rfl) (fun _ _ _ h => h) (Or.inl ⟨by rfl, ?_⟩) hS ?_
    rotate_left 1
    · intro w hSw
      go_simp
      try with_reducible rfl
    show wpAnyH _ _ _ _ _ _ _ (Act.put _ (some 31) _) _
    simp only [Act.put, List.setIfInBounds_toArray, List.set_cons_zero, List.set_cons_succ]
    refine wpAnyH_take (i := 8) (v := ?_) rfl (by kernel_rfl) (by kernel_rfl) (by kernel_rfl) (fun _ _ _ h => h) (Or.inl ⟨by rfl, ?_⟩) hS ?_
    rotate_left 1
    · intro w hSw
      go_simp
      try with_reducible rfl
    show wpAnyH _ _ _ _ _ _ _ (Act.put _ (some 32) _) _
    simp only [Act.put, List.setIfInBounds_toArray, List.set_cons_zero, List.set_cons_succ]
    exact IH (.c3, false, true, false) _ _ (by decide) ⟨A, B, F, _, _, _, _, _, _, rfl, ⟨b, a, n2, c2, b3, a3, n3, c3, rfl, rfl, rfl, hI, hn2⟩, hV⟩ hS
  · obtain ⟨b, a, n2, c2, b3, a3, n3, c3, rfl, hI, hn2, rfl, rfl, rfl, rfl⟩ := hC
    show wpAnyH _ _ _ _ _ 8 #[true, true, true, true, true, false, false, false, false, false, true, true, false, false, false] _ _
    dsimp only [zfr, zbp]
    refine wpAnyH_take (i := 5) (v := ?_) rfl (by kernel_rfl) (by kernel_rfl) (by kernel_rfl) (fun _ _ _ h => h) (Or.inl ⟨by rfl, ?_⟩) hS ?_
    rotate_left 1
    · intro w hSw
      go_simp
      try with_reducible rfl
    show wpAnyH _ _ _ _ _ _ _ (Act.put _ (some 24) _) _
    simp only [Act.put, List.setIfInBounds_toArray, List.set_cons_zero, List.set_cons_succ]
    refine wpAnyH_take (i := 6) (v := ?_) rfl (by kernel_rfl) (by kernel_rfl) (by kernel_rfl) (fun _ _ _ h => h) (Or.inl ⟨by rfl, ?_⟩) hS ?_
    rotate_left 1
    · intro w hSw
      go_simp
      try with_reducible rfl
    show wpAnyH _ _ _ _ _ _ _ (Act.put _ (some 30) _) _
    simp only [Act.put, List.setIfInBounds_toArray, List.set_cons_zero, List.set_cons_succ]
    refine wpAnyH_take (i := 7) (v := ?_) rfl (by kernel_rfl) (by kernel_rfl) (by kernel_rfl) (fun _ _ _ h => h) (Or.inl ⟨by rfl, ?_⟩) hS ?_
    rotate_left 1
    · intro w hSw
      go_simp
      try with_reducible rfl
    show wpAnyH _ _ _ _ _ _ _ (Act.put _ (some 31) _) _
    simp only [Act.put, List.setIfInBounds_toArray, List.set_cons_zero, List.set_cons_succ]
    refine wpAnyH_take (i := 8) (v := ?_) rfl (by kernel_rfl) (by kernel_rfl) (by kernel_rfl) (fun _ _ _ h => h) (Or.inl ⟨by rfl, ?_⟩) hS ?_
    rotate_left 1
    · intro w hSw
      go_simp
      try with_reducible rfl
    show wpAnyH _ _ _ _ _ _ _ (Act.put _ (some 32) _) _
    simp only [Act.put, List.setIfInBounds_toArray, List.set_cons_zero, List.set_cons_succ]
    exact IH (.c3, false, true, true) _ _ (by decide) ⟨A, B, F, _, _, _, _, _, _, rfl, ⟨b, a, n2, c2, b3, a3, n3, c3, rfl, rfl, rfl, hI, hn2⟩, hV⟩ hS
  · obtain ⟨b, a, n2, c2, b3, a3, n3, c3, rfl, hI, hn2, rfl, rfl, rfl, rfl⟩ := hC
    show wpAnyH _ _ _ _ _ 9 #[true, true, true, true, true, false, false, false, false, true, false, false, false, false, false] _ _
    dsimp only [zfr, zbp]
    refine wpAnyH_take (i := 5) (v := ?_) rfl (by kernel_rfl) (by kernel_rfl) (by kernel_rfl) (fun _ _ _ h => h) (Or.inl ⟨by rfl, ?_⟩) hS ?_
    rotate_left 1
    · intro w hSw
      go_simp
      try with_reducible rfl
    show wpAnyH _ _ _ _ _ _ _ (Act.put _ (some 24) _) _
    simp only [Act.put, List.setIfInBounds_toArray, List.set_cons_zero, List.set_cons_succ]
    refine wpAnyH_take (i := 6) (v := ?_) rfl (by kernel_rfl) (by kernel_rfl) (by kernel_rfl) (fun _ _ _ h => h) (Or.inl ⟨by rfl, ?_⟩) hS ?_
    rotate_left 1
    · intro w hSw
      go_simp
      try with_reducible rfl
    show wpAnyH _ _ _ _ _ _ _ (Act.put _ (some 30) _) _
    simp only [Act.put, List.setIfInBounds_toArray, List.set_cons_zero, List.set_cons_succ]
    refine wpAnyH_take (i := 7) (v := ?_) rfl (by kernel_rfl) (by kernel_rfl) (by kernel_rfl) (fun _ _ _ h => h) (Or.inl ⟨by rfl, ?_⟩) hS ?_
    rotate_left 1
    · intro w hSw
      go_simp
      try with_reducible rfl
    show wpAnyH _ _ _ _ _ _ _ (Act.put _ (some 31) _) _
    simp only [Act.put, List.setIfInBounds_toArray, List.set_cons_zero, List.set_cons_succ]
    refine wpAnyH_take (i := 8) (v := ?_) rfl (by kernel_rfl) (by kernel_rfl) (by kernel_rfl) (fun _ _ _ h => h) (Or.inl ⟨by rfl, ?_⟩) hS ?_
    rotate_left 1
    · intro w hSw
      go_simp
      try with_reducible rfl
    show wpAnyH _ _ _ _ _ _ _ (Act.put _ (some 32) _) _
    simp only [Act.put, List.setIfInBounds_toArray, List.set_cons_zero, List.set_cons_succ]
    exact IH (.c3, true, false, false) _ _ (by decide) ⟨A, B, F, _, _, _, _, _, _, rfl, ⟨b, a, n2, c2, b3, a3, n3, c3, rfl, rfl, rfl, hI, hn2⟩, hV⟩ hS
  · obtain ⟨b, a, n2, c2, b3, a3, n3, c3, rfl, hI, hn2, rfl, rfl, rfl, rfl⟩ := hC
    show wpAnyH _ _ _ _ _ 8 #[true, true, true, true, true, false, false, false, false, true, false, true, false, false, false] _ _
    dsimp only [zfr, zbp]
    refine wpAnyH_take (i := 5) (v := ?_) rfl (by kernel_rfl) (by kernel_rfl) (by kernel_rfl) (fun _ _ _ h => h) (Or.inl ⟨by rfl, ?_⟩) hS ?_
    rotate_left 1
    · intro w hSw
      go_simp
      try with_reducible rfl
    show wpAnyH _ _ _ _ _ _ _ (Act.put _ (some 24) _) _
    simp only [Act.put, List.setIfInBounds_toArray, List.set_cons_zero, List.set_cons_succ]
    refine wpAnyH_take (i := 6) (v := ?_) rfl (by kernel_rfl) (by kernel_rfl) (by kernel_rfl) (fun _ _ _ h => h) (Or.inl ⟨by rfl, ?_⟩) hS ?_
    rotate_left 1
    · intro w hSw
      go_simp
      try with_reducible rfl
    show wpAnyH _ _ _ _ _ _ _ (Act.put _ (some 30) _) _
    simp only [Act.put, List.setIfInBounds_toArray, List.set_cons_zero, List.set_cons_succ]
    refine wpAnyH_take (i := 7) (v := ?_) rfl (by kernel_rfl) (by kernel_rfl) (by kernel_rfl) (fun _ _ _ h => h) (Or.inl ⟨by rfl, ?_⟩) hS ?_
    rotate_left 1
    · intro w hSw
      go_simp
      try with_reducible rfl
    show wpAnyH _ _ _ _ _ _ _ (Act.put _ (some 31) _) _
    simp only [Act.put, List.setIfInBounds_toArray, List.set_cons_zero, List.set_cons_succ]
    refine wpAnyH_take (i := 8) (v := ?_) rfl (by kernel_rfl) (by kernel_rfl) (by kernel_rfl) (fun _ _ _ h => h) (Or.inl ⟨by rfl, ?_⟩) hS ?_
    rotate_left 1
    · intro w hSw
      go_simp
      try with_reducible rfl
    show wpAnyH _ _ _ _ _ _ _ (Act.put _ (some 32) _) _
    simp only [Act.put, List.setIfInBounds_toArray, List.set_cons_zero, List.set_cons_succ]
    exact IH (.c3, true, false, true) _ _ (by decide) ⟨A, B, F, _, _, _, _, _, _, rfl, ⟨b, a, n2, c2, b3, a3, n3, c3, rfl, rfl, rfl, hI, hn2⟩, hV⟩ hS
  · obtain ⟨b, a, n2, c2, b3, a3, n3, c3, rfl, hI, hn2, rfl, rfl, rfl, rfl⟩ := hC
    show wpAnyH _ _ _ _ _ 8 #[true, true, true, true, true, false, false, false, false, true, true, false, false, false, false] _ _
    dsimp only [zfr, zbp]
    refine wpAnyH_take (i := 5) (v := ?_) rfl (by kernel_rfl) (by kernel_rfl) (by kernel_rfl) (fun _ _ _ h => h) (Or.inl ⟨by rfl, ?_⟩) hS ?_
    rotate_left 1
    · intro w hSw
      go_simp
      try with_reducible rfl
    show wpAnyH _ _ _ _ _ _ _ (Act.put _ (some 24) _) _
    simp only [Act.put, List.setIfInBounds_toArray, List.set_cons_zero, List.set_cons_succ]
    refine wpAnyH_take (i := 6) (v := ?_) rfl (by kernel_rfl) (by kernel_rfl) (by kernel_rfl) (fun _ _ _ h => h) (Or.inl ⟨by rfl, ?_⟩) hS ?_
    rotate_left 1
    · intro w hSw
      go_simp
      try with_reducible rfl
    show wpAnyH _ _ _ _ _ _ _ (Act.put _ (some 30) _) _
    simp only [Act.put, List.setIfInBounds_toArray, List.set_cons_zero, List.set_cons_succ]
    refine wpAnyH_take (i := 7) (v := ?_) rfl (by kernel_rfl) (by kernel_rfl) (by kernel_rfl) (fun _ _ _ h => h) (Or.inl ⟨by rfl, ?_⟩) hS ?_
    rotate_left 1
    · intro w hSw
      go_simp
      try with_reducible rfl
    show wpAnyH _ _ _ _ _ _ _ (Act.put _ (some 31) _) _
    simp only [Act.put, List.setIfInBounds_toArray, List.set_cons_zero, List.set_cons_succ]
    refine wpAnyH_take (i := 8) (v := ?_) rfl (by kernel_rfl) (by kernel_rfl) (by kernel_rfl) (fun _ _ _ h => h) (Or.inl ⟨by rfl, ?_⟩) hS ?_
    rotate_left 1
    · intro w hSw
      go_simp
      try with_reducible rfl
    show wpAnyH _ _ _ _ _ _ _ (Act.put _ (some 32) _) _
    simp only [Act.put, List.setIfInBounds_toArray, List.set_cons_zero, List.set_cons_succ]
    exact IH (.c3, true, true, false) _ _ (by decide) ⟨A, B, F, _, _, _, _, _, _, rfl, ⟨b, a, n2, c2, b3, a3, n3, c3, rfl, rfl, rfl, hI, hn2⟩, hV⟩ hS
  · obtain ⟨b, a, n2, c2, b3, a3, n3, c3, rfl, hI, hn2, rfl, rfl, rfl, rfl⟩ := hC
    show wpAnyH _ _ _ _ _ 7 #[true, true, true, true, true, false, false, false, false, true, true, true, false, false, false] _ _
    dsimp only [zfr, zbp]
    refine wpAnyH_take (i := 5) (v := ?_) rfl (by kernel_rfl) (by kernel_rfl) (by kernel_rfl) (fun _ _ _ h => h) (Or.inl ⟨by rfl, ?_⟩) hS ?_
    rotate_left 1
    · intro w hSw
      go_simp
      try with_reducible rfl
    show wpAnyH _ _ _ _ _ _ _ (Act.put _ (some 24) _) _
    simp only [Act.put, List.setIfInBounds_toArray, List.set_cons_zero, List.set_cons_succ]
    refine wpAnyH_take (i := 6) (v := ?_) rfl (by kernel_rfl) (by kernel_rfl) (by kernel_rfl) (fun _ _ _ h => h) (Or.inl ⟨by rfl, ?_⟩) hS ?_
    rotate_left 1
    · intro w hSw
      go_simp
      try with_reducible rfl
    show wpAnyH _ _ _ _ _ _ _ (Act.put _ (some 30) _) _
    simp only [Act.put, List.setIfInBounds_toArray, List.set_cons_zero, List.set_cons_succ]
    refine wpAnyH_take (i := 7) (v := ?_) rfl (by kernel_rfl) (by kernel_rfl) (by kernel_rfl) (fun _ _ _ h => h) (Or.inl ⟨by rfl, ?_⟩) hS ?_
    rotate_left 1
    · intro w hSw
      go_simp
      try with_reducible rfl
    show wpAnyH _ _ _ _ _ _ _ (Act.put _ (some 31) _) _
    simp only [Act.put, List.setIfInBounds_toArray, List.set_cons_zero, List.set_cons_succ]
    refine wpAnyH_take (i := 8) (v := ?_) rfl (by kernel_rfl) (by kernel_rfl) (by kernel_rfl) (fun _ _ _ h => h) (Or.inl ⟨by rfl, ?_⟩) hS ?_
    rotate_left 1
    · intro w hSw
      go_simp
      try with_reducible rfl
    show wpAnyH _ _ _ _ _ _ _ (Act.put _ (some 32) _) _
    simp only [Act.put, List.setIfInBounds_toArray, List.set_cons_zero, List.set_cons_succ]
    exact IH (.c3, true, true, true) _ _ (by decide) ⟨A, B, F, _, _, _, _, _, _, rfl, ⟨b, a, n2, c2, b3, a3, n3, c3, rfl, rfl, rfl, hI, hn2⟩, hV⟩ hS
  · obtain ⟨b, a, n2, c2, b3, a3, n3, c3, rfl, rfl, rfl, hI, hn2⟩ := hC
    show wpAnyH _ _ _ _ _ 6 #[true, true, true, true, true, true, true, true, true, false, false, false, false, false, false] _ _
    dsimp only [zfr, zbp]
    refine wpAnyH_ready (rs := [9, 10, 11]) (by kernel_rfl) (by simp) ?_
    refine AllReadyH.cons rfl (fun K hK => ?_) ?_
    · go_simp
      refine hK.out _ _ (hKeep _ hV.newA.e) (fun hS2 => ?_)
      simp only [List.setIfInBounds_toArray, List.set_cons_zero, List.set_cons_succ]
      exact IH (.c3, true, false, false) _ _ (by decide) ⟨_, B, F, _, _, _, _, _, _, rfl, ⟨b, a, n2, c2, b3, a3, n3, c3, rfl, rfl, rfl, hI.ext (ext_alloc u (.cells #[.bool false, .slice none 0 0] 31)), hn2⟩, hV.newA⟩ hS2
    refine AllReadyH.cons rfl (fun K hK => ?_) ?_
    · go_simp
      refine hK.out _ _ (hKeep _ hV.newB.e) (fun hS2 => ?_)
      simp only [List.setIfInBounds_toArray, List.set_cons_zero, List.set_cons_succ]
      exact IH (.c3, false, true, false) _ _ (by decide) ⟨A, _, F, _, _, _, _, _, _, rfl, ⟨b, a, n2, c2, b3, a3, n3, c3, rfl, rfl, rfl, hI.ext (ext_alloc u (.cells #[.bool false, .slice none 0 0] 31)), hn2⟩, hV.newB⟩ hS2
    refine AllReadyH.cons rfl (fun K hK => ?_) ?_
    · go_simp
      refine hK.out _ _ (hKeep _ hV.newF.e) (fun hS2 => ?_)
      simp only [List.setIfInBounds_toArray, List.set_cons_zero, List.set_cons_succ]
      exact IH (.c3, false, false, true) _ _ (by decide) ⟨A, B, _, _, _, _, _, _, _, rfl, ⟨b, a, n2, c2, b3, a3, n3, c3, rfl, rfl, rfl, hI.ext (ext_alloc u (.cells #[.int .i64 0, .int .i64 0] 26)), hn2⟩, hV.newF⟩ hS2
    exact AllReadyH.nil
  · obtain ⟨b, a, n2, c2, b3, a3, n3, c3, rfl, rfl, rfl, hI, hn2⟩ := hC
    show wpAnyH _ _ _ _ _ 5 #[true, true, true, true, true, true, true, true, true, false, false, true, false, false, false] _ _
    dsimp only [zfr, zbp]
    refine wpAnyH_ready (rs := [9, 10]) (by kernel_rfl) (by simp) ?_
    refine AllReadyH.cons rfl (fun K hK => ?_) ?_
    · go_simp
      refine hK.out _ _ (hKeep _ hV.newA.e) (fun hS2 => ?_)
      simp only [List.setIfInBounds_toArray, List.set_cons_zero, List.set_cons_succ]
      exact IH (.c3, true, false, true) _ _ (by decide) ⟨_, B, F, _, _, _, _, _, _, rfl, ⟨b, a, n2, c2, b3, a3, n3, c3, rfl, rfl, rfl, hI.ext (ext_alloc u (.cells #[.bool false, .slice none 0 0] 31)), hn2⟩, hV.newA⟩ hS2
    refine AllReadyH.cons rfl (fun K hK => ?_) ?_
    · go_simp
      refine hK.out _ _ (hKeep _ hV.newB.e) (fun hS2 => ?_)
      simp only [List.setIfInBounds_toArray, List.set_cons_zero, List.set_cons_succ]
      exact IH (.c3, false, true, true) _ _ (by decide) ⟨A, _, F, _, _, _, _, _, _, rfl, ⟨b, a, n2, c2, b3, a3, n3, c3, rfl, rfl, rfl, hI.ext (ext_alloc u (.cells #[.bool false, .slice none 0 0] 31)), hn2⟩, hV.newB⟩ hS2
    exact AllReadyH.nil
  · obtain ⟨b, a, n2, c2, b3, a3, n3, c3, rfl, rfl, rfl, hI, hn2⟩ := hC
    show wpAnyH _ _ _ _ _ 5 #[true, true, true, true, true, true, true, true, true, false, true, false, false, false, false] _ _
    dsimp only [zfr, zbp]
    refine wpAnyH_ready (rs := [9, 11]) (by kernel_rfl) (by simp) ?_
    refine AllReadyH.cons rfl (fun K hK => ?_) ?_
    · go_simp
      refine hK.out _ _ (hKeep _ hV.newA.e) (fun hS2 => ?_)
      simp only [List.setIfInBounds_toArray, List.set_cons_zero, List.set_cons_succ]
      exact IH (.c3, true, true, false) _ _ (by decide) ⟨_, B, F, _, _, _, _, _, _, rfl, ⟨b, a, n2, c2, b3, a3, n3, c3, rfl, rfl, rfl, hI.ext (ext_alloc u (.cells #[.bool false, .slice none 0 0] 31)), hn2⟩, hV.newA⟩ hS2
    refine AllReadyH.cons rfl (fun K hK => ?_) ?_
    · go_simp
      refine hK.out _ _ (hKeep _ hV.newF.e) (fun hS2 => ?_)
      simp only [List.setIfInBounds_toArray, List.set_cons_zero, List.set_cons_succ]
      exact IH (.c3, false, true, true) _ _ (by decide) ⟨A, B, _, _, _, _, _, _, _, rfl, ⟨b, a, n2, c2, b3, a3, n3, c3, rfl, rfl, rfl, hI.ext (ext_alloc u (.cells #[.int .i64 0, .int .i64 0] 26)), hn2⟩, hV.newF⟩ hS2
    exact AllReadyH.nil
  · obtain ⟨b, a, n2, c2, b3, a3, n3, c3, rfl, rfl, rfl, hI, hn2⟩ := hC
    show wpAnyH _ _ _ _ _ 4 #[true, true, true, true, true, true, true, true, true, false, true, true, false, false, false] _ _
    dsimp only [zfr, zbp]
    refine wpAnyH_ready (rs := [9]) (by kernel_rfl) (by simp) ?_
    refine AllReadyH.cons rfl (fun K hK => ?_) ?_
    · go_simp
      refine hK.out _ _ (hKeep _ hV.newA.e) (fun hS2 => ?_)
      simp only [List.setIfInBounds_toArray, List.set_cons_zero, List.set_cons_succ]
      exact IH (.c3, true, true, true) _ _ (by decide) ⟨_, B, F, _, _, _, _, _, _, rfl, ⟨b, a, n2, c2, b3, a3, n3, c3, rfl, rfl, rfl, hI.ext (ext_alloc u (.cells #[.bool false, .slice none 0 0] 31)), hn2⟩, hV.newA⟩ hS2
    exact AllReadyH.nil
  · obtain ⟨b, a, n2, c2, b3, a3, n3, c3, rfl, rfl, rfl, hI, hn2⟩ := hC
    show wpAnyH _ _ _ _ _ 5 #[true, true, true, true, true, true, true, true, true, true, false, false, false, false, false] _ _
    dsimp only [zfr, zbp]
    refine wpAnyH_ready (rs := [10, 11]) (by kernel_rfl) (by simp) ?_
    refine AllReadyH.cons rfl (fun K hK => ?_) ?_
    · go_simp
      refine hK.out _ _ (hKeep _ hV.newB.e) (fun hS2 => ?_)
      simp only [List.setIfInBounds_toArray, List.set_cons_zero, List.set_cons_succ]
      exact IH (.c3, true, true, false) _ _ (by decide) ⟨A, _, F, _, _, _, _, _, _, rfl, ⟨b, a, n2, c2, b3, a3, n3, c3, rfl, rfl, rfl, hI.ext (ext_alloc u (.cells #[.bool false, .slice none 0 0] 31)), hn2⟩, hV.newB⟩ hS2
    refine AllReadyH.cons rfl (fun K hK => ?_) ?_
    · go_simp
      refine hK.out _ _ (hKeep _ hV.newF.e) (fun hS2 => ?_)
      simp only [List.setIfInBounds_toArray, List.set_cons_zero, List.set_cons_succ]
      exact IH (.c3, true, false, true) _ _ (by decide) ⟨A, B, _, _, _, _, _, _, _, rfl, ⟨b, a, n2, c2, b3, a3, n3, c3, rfl, rfl, rfl, hI.ext (ext_alloc u (.cells #[.int .i64 0, .int .i64 0] 26)), hn2⟩, hV.newF⟩ hS2
    exact AllReadyH.nil
  · obtain ⟨b, a, n2, c2, b3, a3, n3, c3, rfl, rfl, rfl, hI, hn2⟩ := hC
    show wpAnyH _ _ _ _ _ 4 #[true, true, true, true, true, true, true, true, true, true, false, true, false, false, false] _ _
    dsimp only [zfr, zbp]
    refine wpAnyH_ready (rs := [10]) (by kernel_rfl) (by simp) ?_
    refine AllReadyH.cons rfl (fun K hK => ?_) ?_
    · go_simp
      refine hK.out _ _ (hKeep _ hV.newB.e) (fun hS2 => ?_)
      simp only [List.setIfInBounds_toArray, List.set_cons_zero, List.set_cons_succ]
      exact IH (.c3, true, true, true) _ _ (by decide) ⟨A, _, F, _, _, _, _, _, _, rfl, ⟨b, a, n2, c2, b3, a3, n3, c3, rfl, rfl, rfl, hI.ext (ext_alloc u (.cells #[.bool false, .slice none 0 0] 31)), hn2⟩, hV.newB⟩ hS2
    exact AllReadyH.nil
  · obtain ⟨b, a, n2, c2, b3, a3, n3, c3, rfl, rfl, rfl, hI, hn2⟩ := hC
    show wpAnyH _ _ _ _ _ 4 #[true, true, true, true, true, true, true, true, true, true, true, false, false, false, false] _ _
    dsimp only [zfr, zbp]
    refine wpAnyH_ready (rs := [11]) (by kernel_rfl) (by simp) ?_
    refine AllReadyH.cons rfl (fun K hK => ?_) ?_
    · go_simp
      refine hK.out _ _ (hKeep _ hV.newF.e) (fun hS2 => ?_)
      simp only [List.setIfInBounds_toArray, List.set_cons_zero, List.set_cons_succ]
      exact IH (.c3, true, true, true) _ _ (by decide) ⟨A, B, _, _, _, _, _, _, _, rfl, ⟨b, a, n2, c2, b3, a3, n3, c3, rfl, rfl, rfl, hI.ext (ext_alloc u (.cells #[.int .i64 0, .int .i64 0] 26)), hn2⟩, hV.newF⟩ hS2
    exact AllReadyH.nil
  · obtain ⟨b, a, n2, c2, b3, a3, n3, c3, rfl, rfl, rfl, hI, hn2⟩ := hC
    show wpAnyH _ _ _ _ _ 3 #[true, true, true, true, true, true, true, true, true, true, true, true, false, false, false] _ _
    dsimp only [zfr, zbp]
    refine wpAnyH_ready (rs := [12]) (by kernel_rfl) (by simp) ?_
    have hA := (hV.a rfl).1; have hB := (hV.b rfl).1; have hf := (hV.f rfl).1
    have nab := hV.ab rfl rfl; have naf := hV.af rfl rfl; have nbf := hV.bf rfl rfl
    have gA := (hV.a rfl).2; have gB := (hV.b rfl).2; have gF := (hV.f rfl).2
    have hx := hV.e
    have eA : ZBx u A false none 0 0 := ⟨hA.row⟩
    have eB : ZBx u B false none 0 0 := ⟨hB.row⟩
    have A1 := eA.own b a n2 c2
    have B1 := eB.far (Rb := A) (Ne.symm nab) (.bool b) (.slice a n2 c2)
    have O1 : Only A u ((u.setCell ⟨A, 0, none⟩ (.bool b)).setCell ⟨A, 1, none⟩ (.slice a n2 c2)) := ((Only.refl _ _).setCell _ _).setCell _ _
    have F1 := (O1.block F (Ne.symm naf)).trans hf
    have A2 := A1.far (Rb := B) nab (.bool b3) (.slice a3 n3 c3)
    have O2 : Only B ((u.setCell ⟨A, 0, none⟩ (.bool b)).setCell ⟨A, 1, none⟩ (.slice a n2 c2)) ((((u.setCell ⟨A, 0, none⟩ (.bool b)).setCell ⟨A, 1, none⟩ (.slice a n2 c2)).setCell ⟨B, 0, none⟩ (.bool b3)).setCell ⟨B, 1, none⟩ (.slice a3 n3 c3)) := ((Only.refl _ _).setCell _ _).setCell _ _
    have F2 := (O2.block F (Ne.symm nbf)).trans F1
    have A3 := A2.far (Rb := F) naf (.int .i64 0) (.int .i64 0)
    have I3 := hI.keep3 hA hB hf ⟨nab, naf, nbf⟩ (.bool b) (.slice a n2 c2) (.bool b3) (.slice a3 n3 c3)
    have E1 := zput2 hx gA (.bool b) (.slice a n2 c2)
    have E2 := zput2 E1 gB (.bool b3) (.slice a3 n3 c3)
    have E3 := zput2 E2 gF (.int .i64 0) (.int .i64 0)
    have HA3 := Lib.hid A3; have HI3 := Lib.hid I3; have HE3 := Lib.hid E3
    have HK1 := Lib.hid (hKeep _ E1); have HK2 := Lib.hid (hKeep _ E2); have HK3 := Lib.hid (hKeep _ E3)
    have u0 := eA.c0; have u1 := eA.c1; have u2 := eA.f 0; have u3 := eA.f 1
    have v0 := B1.c0; have v1 := B1.c1; have v2 := B1.f 0; have v3 := B1.f 1
    have y0 := fcell0 F2; have y1 := fcell1 F2; have y2 := ffroz 0 F2; have y3 := ffroz 1 F2
    clear A1 B1 O1 F1 A2 O2 F2 A3 I3 E1 E2 E3 eA eB IH hKeep hV
    refine AllReadyH.cons rfl (fun K hK => ?_) AllReadyH.nil
    go_simp
    refine hK.out _ _ HK1.out (fun hHeld => ?_)
    clear hK K
    simp only [List.setIfInBounds_toArray, List.set_cons_zero, List.set_cons_succ]
    refine wpAnyH_ready (rs := [13]) (by kernel_rfl) (by simp) ?_
    refine AllReadyH.cons rfl (fun K hK => ?_) AllReadyH.nil
    go_simp
    refine hK.out _ _ HK2.out (fun hHeld => ?_)
    clear hK K
    simp only [List.setIfInBounds_toArray, List.set_cons_zero, List.set_cons_succ]
    refine wpAnyH_ready (rs := [14]) (by kernel_rfl) (by simp) ?_
    refine AllReadyH.cons rfl (fun K hK => ?_) AllReadyH.nil
    go_simp
    refine hK.out _ _ HK3.out (fun hHeld => ?_)
    clear hK K
    simp only [List.setIfInBounds_toArray, List.set_cons_zero, List.set_cons_succ]
    refine wpAnyH_done (by kernel_rfl) ?_ _
    clear u0 u1 u2 u3 v0 v1 v2 v3 y0 y1 y2 y3
    generalize (((((u.setCell ⟨A, 0, none⟩ (.bool b)).setCell ⟨A, 1, none⟩ (.slice a n2 c2)).setCell ⟨B, 0, none⟩ (.bool b3)).setCell ⟨B, 1, none⟩ (.slice a3 n3 c3)).setCell ⟨F, 0, none⟩ (.int .i64 0)).setCell ⟨F, 1, none⟩ (.int .i64 0) = U at *
    have R1 := hR.ext HE3.out; have F1 := (HE3.out.block _ lF).trans hF
    have d0 := HA3.out.c0; have d1 := HA3.out.c1
    have k0 := R1.c0; have k1 := R1.c1; have f0 := R1.f 0; have f1 := R1.f 1
    have k2 := fcell0 F1; have k3 := fcell1 F1; have f2 := ffroz 0 F1; have f3 := ffroz 1 F1
    have hO : Only (w.heap.size + 1) U ((U.setCell ⟨w.heap.size + 1, 0, none⟩ (.bool b)).setCell ⟨w.heap.size + 1, 1, none⟩ (.slice a n2 c2)) := ((Only.refl _ _).setCell _ _).setCell _ _
    have HO := Lib.hid hO
    clear hO
    go_wp2_with fail
    exact bodyPost_ret (v := .tuple #[.agg #[.bool b, .slice a n2 c2], .agg #[.int .i64 0, .int .i64 0]]) (by simp [results, Tryd.results14, go_sem, k0, k1, k2, k3]) rfl ⟨b, a, n2, c2, rfl, (HI3.out.keepRes R1.row _ _).keepFault ((HO.out.block _ (by omega)).trans F1), hn2, zput2 (zput2 (hE.trans HE3.out) (by omega) _ _) (by omega) _ _⟩

end Go.Proofs.YtnemjllghpijgaaDoor
namespace Go.Proofs.YtnemjllghpijgaaDoor
open Go.RowKit

set_option maxHeartbeats 1000000 in
set_option maxRecDepth 100000 in
theorem ZDiv_zero (b1 b2 : Bool) (a1 a2 : Option Addr) (n1 c1 n2 c2 : Nat) (w : World) (h2 : IsZ w b2 a2 n2 c2 0) :
    Calls Tryd.prog 8 #[.agg #[.bool b1, .slice a1 n1 c1], .agg #[.bool b2, .slice a2 n2 c2]] w fun e w' => e = .returned (.tuple #[.agg #[.bool false, .slice none 0 0], .agg #[.bool false, .slice none 0 0], .agg #[.int .i64 4, .int .i64 0]]) ∧ Ext w w' := by
  have hn : n2 = 0 := h2.zero_iff.1.2 rfl
  subst hn
  clear h2
  go_enter Tryd.func8, Tryd.ntmps8
  go_wp2_with fail
  exact bodyPost_ret (v := .tuple #[.agg #[.bool false, .slice none 0 0], .agg #[.bool false, .slice none 0 0], .agg #[.int .i64 4, .int .i64 0]]) (by simp [results, Tryd.results8, go_sem]) rfl ⟨rfl, ((((ext_alloc _ _).trans (ext_alloc _ _)).trans (ext_alloc _ _)).trans (ext_alloc _ _)).trans (ext_alloc _ _)⟩

end Go.Proofs.YtnemjllghpijgaaDoor
namespace Go.Proofs.YtnemjllghpijgaaDoor

theorem div_unique {z q q' r r' b : Int} (h : z = q * b + r) (h' : z = q' * b + r') (h0 : 0 ≤ r) (h1 : r < b.natAbs) (h0' : 0 ≤ r') (h1' : r' < b.natAbs) : q = q' ∧ r = r' := by
  have e : (q - q') * b = r' - r := by rw [Int.sub_mul]; omega
  have hq : q = q' := by
    apply Decidable.byContradiction
    intro hne
    have h2 : 1 ≤ (q - q').natAbs := by omega
    have h3 : (q - q').natAbs * b.natAbs = (r' - r).natAbs := by rw [← Int.natAbs_mul, e]
    have h4 : 1 * b.natAbs ≤ (q - q').natAbs * b.natAbs := Nat.mul_le_mul_right _ h2
    omega
  refine ⟨hq, ?_⟩
  rw [hq] at h
  omega

end Go.Proofs.YtnemjllghpijgaaDoor
