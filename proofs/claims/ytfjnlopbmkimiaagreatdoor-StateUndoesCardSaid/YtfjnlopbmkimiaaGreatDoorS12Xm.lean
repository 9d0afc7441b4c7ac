/-
  The basis states in which some qubits are fixed, as a list; what a gate does state by state, and what comes of it. Nothing of the program stands here. The reference: is an operation's condition met. A shot in plain numbers: a circuit's operations on a state, the bits it measures, the outcomes it takes. Nothing of the program stands here. Copies: of a list, of an operation. The first fault of an operation, as the reference finds it. What an operation touches, as the reference lists it. The first fault of an operation, as the program finds it. What an operation touches, as the program lists it. Levels: what both sides reckon, as one function of the places that each operation touches; the two numberings of places come to the same. Circuits in memory; the first fault of a circuit, as the program finds it and as the reference does. Levels: the program's walk. Why a circuit is not unitary: Pure of both sides. What a circuit without a fault keeps to; what Count tells of one, in plain numbers. What a shot needs of an operation without a fault. Nothing of the program stands here.
-/
import Derived.Test.YtfjnlopbmkimiaaGreatDoorProg
import Derived.Test.YtfjnlopbmkimiaaGreatDoorRows
import Derived.BigQuiet
import Derived.Deep.AppendLies
import Derived.Deep.Cut
import Derived.Deep.CutRange
import Derived.Deep.LoopGhost
import Derived.Deep.MidRow
import Derived.Deep.QuietTactic
import Derived.Deep.RegionHeld3
import Derived.Ground.Names2Prog
import Derived.Laws.Bits64b
import Derived.Laws.CopyOwn
import Derived.Laws.IdiomCopy
import Derived.Laws.ResultCell
import Derived.Laws.Rows
import Derived.Lib.AppendIntMem
import Derived.Lib.AppendStr
import Derived.Lib.BitFns
import Derived.Lib.Hide
import Derived.Lib.ItoaMem
import Derived.Lib.ItoaNum
import Derived.Lib.Strings
import Derived.Lib.TrailingZeros
import Derived.OrdersHeld
import Derived.OwnWalk
import Derived.ProofKit
import Derived.RegionTactic
import Derived.Shelf.Bits.Mul64
import Derived.Shelf.LaysM
import Derived.Shelf.Slices.SearchI
import Derived.Shelf.Small.Bits
import Derived.Shelf.Small.Wraps
import Derived.Shelf.Spec.BitsCarry
import Derived.Shelf.Spec.TrailingZeros
import Derived.Shelf.Strconv.Itoa0
import Derived.Shelf.Strconv.Itoa1
import Derived.Shelf.Strconv.Itoa2
import Derived.Shelf.Strconv.Itoa3
import Derived.Shelf.Strings.Builder1
import Derived.Shelf.Strings.BuilderF
import Derived.Shelf.Strings.BuilderK
import Derived.WalkKit
import Derived.WalkLawsBesides
import Derived.WalkSpells
import Derived.Test.YtfjnlopbmkimiaaGreatDoorS00Mem
import Derived.Test.YtfjnlopbmkimiaaGreatDoorShelf
import Derived.Test.YtfjnlopbmkimiaaGreatDoorS02ShiftI
import Derived.Test.YtfjnlopbmkimiaaGreatDoorS03GuessD
import Derived.Test.YtfjnlopbmkimiaaGreatDoorS04IntB
import Derived.Test.YtfjnlopbmkimiaaGreatDoorS05IntD
import Derived.Test.YtfjnlopbmkimiaaGreatDoorS06GcB
import Derived.Test.YtfjnlopbmkimiaaGreatDoorS07Rg
import Derived.Test.YtfjnlopbmkimiaaGreatDoorS08ZC
import Derived.Test.YtfjnlopbmkimiaaGreatDoorS09Bw
import Derived.Test.YtfjnlopbmkimiaaGreatDoorS10TxT
import Derived.Test.YtfjnlopbmkimiaaGreatDoorS11Xo
namespace Go.Proofs.YtfjnlopbmkimiaaGreatDoor

/-- The states below m whose qubits of f are as o says. -/
def stL (o f m : Nat) : List Nat := (List.range m).filter fun x => x &&& f == o
theorem stL_mem {o f m x : Nat} : x ∈ stL o f m ↔ x < m ∧ x &&& f = o := by
  unfold stL
  rw [List.mem_filter, List.mem_range]
  simp
theorem stL_nodup (o f m : Nat) : (stL o f m).Nodup := List.Pairwise.filter _ List.nodup_range
theorem stL_zero (o f : Nat) : stL o f 0 = [] := rfl
theorem stL_succ (o f m : Nat) : stL o f (m + 1) = stL o f m ++ (if m &&& f = o then [m] else []) := by
  unfold stL
  rw [List.range_succ, List.filter_append]
  congr 1
  by_cases h : m &&& f = o
  · rw [if_pos h, List.filter_cons]; simp [h]
  · rw [if_neg h, List.filter_cons]; simp [h]
theorem stL_gap {o f a : Nat} (d : Nat) (h : ∀ x, a ≤ x → x < a + d → x &&& f ≠ o) : stL o f (a + d) = stL o f a := by
  induction d with
  | zero => rfl
  | succ d ih =>
    rw [← Nat.add_assoc, stL_succ, if_neg (h _ (by omega) (by omega)), List.append_nil]
    exact ih (fun x h1 h2 => h x h1 (by omega))
theorem stL_first {o f : Nat} : stL o f o = [] := by
  have := stL_gap (o := o) (f := f) (a := 0) o (fun x _ hx e => by have := first_least e; omega)
  rw [Nat.zero_add] at this
  rw [this, stL_zero]
theorem stL_next {o f y : Nat} (ho : o &&& f = o) (hy : y &&& f = o) {m : Nat} (h1 : y < m) (h2 : m ≤ nxt o f y) : stL o f m = stL o f y ++ [y] := by
  obtain ⟨d, rfl⟩ : ∃ d, m = y + 1 + d := ⟨m - (y + 1), by omega⟩
  rw [stL_gap d (fun x a b e => by have := nxt_least ho hy e (by omega); omega), stL_succ, if_pos hy]
theorem stL_len (o f m : Nat) : (stL o f m).length ≤ m := by
  unfold stL
  refine Nat.le_trans (List.length_filter_le _ _) ?_
  rw [List.length_range]; exact Nat.le_refl _

/-- One amplitude is another. -/
def up1 (s : Nat → Nm) (x : Nat) (z : Nm) : Nat → Nm := fun y => if y = x then z else s y
/-- Two are. -/
def up2 (s : Nat → Nm) (x : Nat) (z : Nm) (x' : Nat) (z' : Nm) : Nat → Nm := fun y => if y = x then z else if y = x' then z' else s y
theorem up2_eq (s : Nat → Nm) (x x' : Nat) (z z' : Nm) (h : x ≠ x') : up2 s x z x' z' = up1 (up1 s x z) x' z' := by
  funext y
  unfold up2 up1
  by_cases e : y = x
  · subst e; rw [if_pos rfl, if_neg h, if_pos rfl]
  · rw [if_neg e, if_neg e]
theorem fold1 (F : Nm → Nm) : ∀ (xs : List Nat), xs.Nodup → ∀ (s : Nat → Nm) (y : Nat), xs.foldl (fun s x => up1 s x (F (s x))) s y = if y ∈ xs then F (s y) else s y := by
  intro xs
  induction xs with
  | nil => intro _ s y; simp
  | cons x r ih =>
    intro hn s y
    obtain ⟨h1, h2⟩ := List.nodup_cons.1 hn
    rw [List.foldl_cons, ih h2]
    by_cases e : y = x
    · subst e
      rw [if_neg h1, if_pos (by simp)]
      unfold up1; rw [if_pos rfl]
    · have e1 : up1 s x (F (s x)) y = s y := by unfold up1; rw [if_neg e]
      rw [e1]
      by_cases g : y ∈ r
      · rw [if_pos g, if_pos (by simp [g])]
      · rw [if_neg g, if_neg (by simp [g, e])]
theorem fold2 (F G : Nm → Nm → Nm) (p : Nat → Nat) : ∀ (xs : List Nat), xs.Nodup → (∀ x ∈ xs, ∀ x' ∈ xs, x ≠ p x') → (∀ x ∈ xs, ∀ x' ∈ xs, p x = p x' → x = x') → ∀ (s : Nat → Nm),
    (∀ y ∈ xs, xs.foldl (fun s x => up2 s x (F (s x) (s (p x))) (p x) (G (s x) (s (p x)))) s y = F (s y) (s (p y))) ∧
    (∀ y ∈ xs, xs.foldl (fun s x => up2 s x (F (s x) (s (p x))) (p x) (G (s x) (s (p x)))) s (p y) = G (s y) (s (p y))) ∧
    (∀ y, y ∉ xs → (∀ x ∈ xs, y ≠ p x) → xs.foldl (fun s x => up2 s x (F (s x) (s (p x))) (p x) (G (s x) (s (p x)))) s y = s y) := by
  intro xs
  induction xs with
  | nil => intro _ _ _ s; simp
  | cons x r ih =>
    intro hn hd hi s
    obtain ⟨h1, h2⟩ := List.nodup_cons.1 hn
    obtain ⟨i1, i2, i3⟩ := ih h2 (fun a ha b hb => hd a (by simp [ha]) b (by simp [hb])) (fun a ha b hb => hi a (by simp [ha]) b (by simp [hb])) (up2 s x (F (s x) (s (p x))) (p x) (G (s x) (s (p x))))
    have hxp : x ≠ p x := hd x (by simp) x (by simp)
    have same : ∀ y, y ≠ x → y ≠ p x → up2 s x (F (s x) (s (p x))) (p x) (G (s x) (s (p x))) y = s y := fun y a b => by unfold up2; rw [if_neg a, if_neg b]
    have kr : ∀ y ∈ r, up2 s x (F (s x) (s (p x))) (p x) (G (s x) (s (p x))) y = s y ∧ up2 s x (F (s x) (s (p x))) (p x) (G (s x) (s (p x))) (p y) = s (p y) := fun y hy => by
      have n1 : y ≠ x := fun e => h1 (e ▸ hy)
      exact ⟨same y n1 (hd y (by simp [hy]) x (by simp)), same (p y) (fun e => hd x (by simp) y (by simp [hy]) e.symm) (fun e => n1 (hi y (by simp [hy]) x (by simp) e))⟩
    have px : ∀ z ∈ r, p x ≠ p z := fun z hz e => h1 ((hi x (by simp) z (by simp [hz]) e) ▸ hz)
    have pxn : p x ∉ r := fun hm => hd (p x) (by simp [hm]) x (by simp) rfl
    refine ⟨fun y hy => ?_, fun y hy => ?_, fun y hy hp => ?_⟩
    · rw [List.foldl_cons]
      rcases List.mem_cons.1 hy with rfl | hy
      · rw [i3 y h1 (fun z hz => hd y (by simp) z (by simp [hz]))]
        unfold up2; rw [if_pos rfl]
      · rw [i1 y hy, (kr y hy).1, (kr y hy).2]
    · rw [List.foldl_cons]
      rcases List.mem_cons.1 hy with rfl | hy
      · rw [i3 (p y) pxn px]
        unfold up2; rw [if_neg (fun e => hxp e.symm), if_pos rfl]
      · rw [i2 y hy, (kr y hy).1, (kr y hy).2]
    · rw [List.foldl_cons, i3 y (fun h => hy (by simp [h])) (fun z hz => hp z (by simp [hz]))]
      exact same y (fun e => hy (by simp [e])) (hp x (by simp))
end Go.Proofs.YtfjnlopbmkimiaaGreatDoor
namespace Go.Proofs.YtfjnlopbmkimiaaGreatDoor
open Go.RowKit

/-- Is a term met. -/
def tm (bits : List Int) (t : Int) : Bool := if 0 < t then bits.getD (t - 1).toNat 0 == 1 else bits.getD (-t - 1).toNat 0 == 0
def cnM (bits cnd : List Int) : Bool := cnd.all (tm bits)
theorem cnM_false {bits cnd : List Int} {i : Nat} {t : Int} (hi : i < cnd.length) (ht : cnd.getD i 0 = t) (h : tm bits t = false) : cnM bits cnd = false := by
  unfold cnM
  rw [List.all_eq_false]
  refine ⟨cnd[i], List.getElem_mem hi, ?_⟩
  rw [List.getD_eq_getElem?_getD, List.getElem?_eq_getElem hi] at ht
  have h3 : cnd[i] = t := ht
  rw [h3, h]; decide
theorem cnM_true {bits cnd : List Int} (h : ∀ i, i < cnd.length → tm bits (cnd.getD i 0) = true) : cnM bits cnd = true := by
  unfold cnM
  rw [List.all_eq_true]
  intro c hc
  obtain ⟨t, ht, e⟩ := List.getElem_of_mem hc
  have h2 := h t ht
  rw [List.getD_eq_getElem?_getD, List.getElem?_eq_getElem ht, e] at h2
  exact h2

end Go.Proofs.YtfjnlopbmkimiaaGreatDoor
namespace Go.Proofs.YtfjnlopbmkimiaaGreatDoor

/-- The X of a reset. -/
def xOp (q : Int) : Gop := ⟨2, 0, [], q, 0, []⟩
/-- What a shot leaves. -/
structure Sho where
  f : Int × Int
  s : Nat → Nm
  bits : List Int
  u : Nat
/-- The operations from number i on. -/
noncomputable def plM (want : List Int) : List Gop → Nat → (Nat → Nm) → List Int → Nat → Sho
  | [], _, s, bits, u => ⟨(0, 0), s, bits, u⟩
  | o :: r, i, s, bits, u =>
    if cnM bits o.cnd = false then plM want r (i + 1) s bits u
    else if o.kind < 5 then plM want r (i + 1) (gt o s) bits u
    else if u = want.length then ⟨(19, (i : Int)), s, bits, u⟩
    else if want.getD u 0 ≠ 0 ∧ want.getD u 0 ≠ 1 then ⟨(20, (i : Int)), s, bits, u⟩
    else if o.kind = 5 then plM want r (i + 1) (oc o.q (want.getD u 0) s) (bits.set o.bit.toNat (want.getD u 0)) (u + 1)
    else if want.getD u 0 = 1 then plM want r (i + 1) (gt (xOp o.q) (oc o.q (want.getD u 0) s)) bits (u + 1)
    else plM want r (i + 1) (oc o.q (want.getD u 0) s) bits (u + 1)
section
variable {want : List Int} {o : Gop} {r : List Gop} {i : Nat} {s : Nat → Nm} {bits : List Int} {u : Nat}
theorem plM_skip (h : cnM bits o.cnd = false) : plM want (o :: r) i s bits u = plM want r (i + 1) s bits u := by rw [plM, if_pos h]
theorem plM_gate (h : cnM bits o.cnd = true) (hk : o.kind < 5) : plM want (o :: r) i s bits u = plM want r (i + 1) (gt o s) bits u := by rw [plM, if_neg (by rw [h]; decide), if_pos hk]
theorem plM_out (h : cnM bits o.cnd = true) (hk : ¬ o.kind < 5) (hu : u = want.length) : plM want (o :: r) i s bits u = ⟨(19, (i : Int)), s, bits, u⟩ := by rw [plM, if_neg (by rw [h]; decide), if_neg hk, if_pos hu]
theorem plM_bad (h : cnM bits o.cnd = true) (hk : ¬ o.kind < 5) (hu : ¬ u = want.length) {v : Int} (hv : want.getD u 0 = v) (hb : v ≠ 0 ∧ v ≠ 1) : plM want (o :: r) i s bits u = ⟨(20, (i : Int)), s, bits, u⟩ := by
  rw [plM, if_neg (by rw [h]; decide), if_neg hk, if_neg hu, hv, if_pos hb]
theorem plM_bit (h : cnM bits o.cnd = true) (hk : o.kind = 5) (hu : ¬ u = want.length) {v : Int} (hv : want.getD u 0 = v) (hb : v = 0 ∨ v = 1) : plM want (o :: r) i s bits u = plM want r (i + 1) (oc o.q v s) (bits.set o.bit.toNat v) (u + 1) := by
  rw [plM, if_neg (by rw [h]; decide), if_neg (by omega), if_neg hu, hv, if_neg (by omega), if_pos hk]
theorem plM_one (h : cnM bits o.cnd = true) (hk : ¬ o.kind < 5) (h5 : o.kind ≠ 5) (hu : ¬ u = want.length) (hv : want.getD u 0 = 1) : plM want (o :: r) i s bits u = plM want r (i + 1) (gt (xOp o.q) (oc o.q 1 s)) bits (u + 1) := by
  rw [plM, if_neg (by rw [h]; decide), if_neg hk, if_neg hu, hv, if_neg (by omega), if_neg h5, if_pos rfl]
theorem plM_nought (h : cnM bits o.cnd = true) (hk : ¬ o.kind < 5) (h5 : o.kind ≠ 5) (hu : ¬ u = want.length) (hv : want.getD u 0 = 0) : plM want (o :: r) i s bits u = plM want r (i + 1) (oc o.q 0 s) bits (u + 1) := by
  rw [plM, if_neg (by rw [h]; decide), if_neg hk, if_neg hu, hv, if_neg (by omega), if_neg h5, if_neg (by decide)]
end
end Go.Proofs.YtfjnlopbmkimiaaGreatDoor
namespace Go.Proofs.YtfjnlopbmkimiaaGreatDoor
open Go.RowKit

theorem i_info : (Tryz.prog.info? 3).map (fun i => (i.zero, i.size, i.bytes)) = some (some (.int .i64 0), 1, 8) := by kernel_rfl
/-- Ints as cells. -/
def iC (l : List Int) : List Value := l.map fun x => Value.int .i64 x
theorem iC_length (l : List Int) : (iC l).length = l.length := by simp [iC]
theorem iC_snoc (l : List Int) (x : Int) : iC (l ++ [x]) = iC l ++ [.int .i64 x] := by simp [iC]
theorem grown_ext {w a b : World} {row : Option Nat} (h : Ext w a) (hg : a.grownBy b row) (hr : ∀ k, row = some k → w.heap.size ≤ k) : Ext w b := Below.grown h hg h.size hr
/-- They lie in a block of ints. -/
def TyI (w : World) (a : Option Addr) : Prop := ∀ ad, a = some ad → ∃ (cur : Array Value) (fr : Nat × Nat), w.heap[ad.block]? = some (.cells cur 3 fr)
theorem ints_of_own {w : World} {base n : Nat} {v : Value} {l : List Int} (h : w.ownsRow base 3 1 v n (iC l)) : ∃ (a : Option Addr) (c : Nat), v = .slice a n c ∧ n ≤ c ∧ c ≤ maxLen ∧ IntsAt w a n l ∧ TyI w a := by
  have hl : l.length = n := by have := h.1; simpa [iC] using this
  rcases h.2 with ⟨rfl, rfl⟩ | ⟨g, cap, cur, rfl, _, hg, hnc, hcm, _, htk⟩
  · exact ⟨none, 0, rfl, Nat.le_refl _, Nat.zero_le _, ⟨hl, Or.inl rfl⟩, fun ad e => by cases e⟩
  · refine ⟨some ⟨g, 0, none⟩, cap, rfl, hnc, hcm, ⟨hl, Or.inr ⟨g, 0, rfl, (Array.getElem?_eq_some_iff.1 hg).1, fun t ht => ?_⟩⟩, fun ad e => by cases e; exact ⟨cur, (0, 0), hg⟩⟩
    rw [cell_of_row w g (0 + t) cur _ (0, 0) hg, Nat.zero_add]
    have h1 : (iC l)[t]? = cur.toList[t]? := by
      rw [← htk, List.getElem?_take, if_pos (by omega)]
    rw [← Array.getElem?_toList, ← h1]
    simp only [iC, List.getElem?_map, List.getD_eq_getElem?_getD]
    rw [List.getElem?_eq_getElem (by omega)]
    rfl
theorem new_i (w : World) (x : Int) (e : TypeId) : ∀ j u, ([Value.int .i64 x] : List Value)[j]? = some u → (w.alloc (.cells #[.int .i64 x] e)).cell? ((⟨w.heap.size, 0, none⟩ : Addr).add j) = some u := by
  intro j u hu
  have hadd : (⟨w.heap.size, 0, none⟩ : Addr).add j = ⟨w.heap.size, j, none⟩ := by unfold Addr.add; split <;> simp_all
  rw [hadd, cell_of_row _ _ j _ _ (0, 0) (heap_alloc_new w _)]
  match j, hu with
  | 0, hu => simpa using hu
  | k + 1, hu => simp at hu
theorem one_i (x : Int) : ∀ u ∈ ([Value.int .i64 x] : List Value), u.oneCell' = true := by
  intro u hu
  simp only [List.mem_singleton] at hu
  subst hu
  rfl
theorem own_lt {w : World} {base n size : Nat} {v : Value} {xs : List Value} {e : TypeId} (h : w.ownsRow base e size v n xs) : ∀ k, v.ownBlock = some k → base ≤ k ∧ k < w.heap.size := by
  intro k hk
  rcases h.2 with ⟨rfl, _⟩ | ⟨g, cap, cur, rfl, hb, hg, _⟩
  · simp [Value.ownBlock] at hk
  · simp [Value.ownBlock] at hk
    subst hk
    exact ⟨hb, (Array.getElem?_eq_some_iff.1 hg).1⟩

theorem put6 {w W : World} {g : Nat} (h : Ext w W) (hg : w.heap.size ≤ g) (u0 u1 u2 u3 u4 u5 : Value) : Ext w ((((((W.setCell ⟨g, 0, none⟩ u0).setCell ⟨g, 1, none⟩ u1).setCell ⟨g, 2, none⟩ u2).setCell ⟨g, 3, none⟩ u3).setCell ⟨g, 4, none⟩ u4).setCell ⟨g, 5, none⟩ u5) :=
  Below.setCell (Below.setCell (Below.setCell (Below.setCell (Below.setCell (Below.setCell h (p := ⟨g, 0, none⟩) hg _) (p := ⟨g, 1, none⟩) hg _) (p := ⟨g, 2, none⟩) hg _) (p := ⟨g, 3, none⟩) hg _) (p := ⟨g, 4, none⟩) hg _) (p := ⟨g, 5, none⟩) hg _

/-- An operation whose lists are its own. -/
structure OpO (w : World) (o : Gop) (a1 : Option Addr) (n1 c1 : Nat) (a2 : Option Addr) (n2 c2 : Nat) : Prop where
  l : OpL w o a1 n1 c1 a2 n2 c2
  t1 : TyI w a1
  t2 : TyI w a2
/-- A block of another kind is written. -/
theorem only_ints {w w' : World} {g : Nat} {cs : Array Value} {T : TypeId} {fr : Nat × Nat} (hg : w.heap[g]? = some (.cells cs T fr)) (hT : T ≠ 3) (hO : Only g w w') : ∀ (b : Nat) (cur : Array Value) (fr : Nat × Nat), w.heap[b]? = some (.cells cur 3 fr) → w'.heap[b]? = w.heap[b]? := by
  intro b cur fr' hb
  refine hO.block b (fun e => ?_)
  rw [e, hg] at hb
  cases hb
  exact hT rfl
theorem only1 (w : World) (g o : Nat) (u : Value) : Only g w (w.setCell ⟨g, o, none⟩ u) := (Only.refl _ _).setCell _ _
theorem onl6 (w : World) (g : Nat) (u0 u1 u2 u3 u4 u5 : Value) : Only g w ((((((w.setCell ⟨g, 0, none⟩ u0).setCell ⟨g, 1, none⟩ u1).setCell ⟨g, 2, none⟩ u2).setCell ⟨g, 3, none⟩ u3).setCell ⟨g, 4, none⟩ u4).setCell ⟨g, 5, none⟩ u5) := ((((((Only.refl _ _).setCell _ _).setCell _ _).setCell _ _).setCell _ _).setCell _ _).setCell _ _
theorem OpBx.set2 {W : World} {g : Nat} {k0 k1 : Int} {a1 : Option Addr} {n1 c1 : Nat} {k3 k4 : Int} {a2 : Option Addr} {n2 c2 : Nat} (h : OpBx W g k0 k1 a1 n1 c1 k3 k4 a2 n2 c2) (a : Option Addr) (n c : Nat) : OpBx (W.setCell ⟨g, 2, none⟩ (.slice a n c)) g k0 k1 a n c k3 k4 a2 n2 c2 := ⟨heap_setCell_same W g 2 _ _ (.slice a n c) h.row⟩
theorem OpBx.set5 {W : World} {g : Nat} {k0 k1 : Int} {a1 : Option Addr} {n1 c1 : Nat} {k3 k4 : Int} {a2 : Option Addr} {n2 c2 : Nat} (h : OpBx W g k0 k1 a1 n1 c1 k3 k4 a2 n2 c2) (a : Option Addr) (n c : Nat) : OpBx (W.setCell ⟨g, 5, none⟩ (.slice a n c)) g k0 k1 a1 n1 c1 k3 k4 a n c := ⟨heap_setCell_same W g 5 _ _ (.slice a n c) h.row⟩

end Go.Proofs.YtfjnlopbmkimiaaGreatDoor
namespace Go.Proofs.YtfjnlopbmkimiaaGreatDoor
open Go.RowKit

/-- A test, in the walk's two forms. -/
theorem dt {p : Prop} [Decidable p] (h : p) : decide p = true := by simp [h]
theorem df {p : Prop} [Decidable p] (h : ¬ p) : decide p = false := by simp [h]
theorem bt' {x y : Int} (h : x = y) : (x == y) = true := by simp [h]
theorem bf {x y : Int} (h : ¬ x = y) : (x == y) = false := by simp [h]
theorem nt {x y : Int} (h : ¬ x = y) : (x != y) = true := by simp [bne, h]
theorem nf' {x y : Int} (h : x = y) : (x != y) = false := by simp [bne, h]

end Go.Proofs.YtfjnlopbmkimiaaGreatDoor
namespace Go.Proofs.YtfjnlopbmkimiaaGreatDoor
open Go.RowKit

/-- The bit that a term names. -/
def bitOf (t : Int) : Int := if 0 < t then t - 1 else -t - 1
def tchQ (kd q : Int) : List Int := if kd = 1 then [] else [q]
def tchB (z kd bt : Int) : List Int := if kd = 5 then [z + bt] else []
def tchC (z : Int) (l : List Int) : List Int := l.map fun t => z + bitOf t
end Go.Proofs.YtfjnlopbmkimiaaGreatDoor
namespace Go.Proofs.YtfjnlopbmkimiaaGreatDoor
open Go.RowKit

/-- The words of the kinds. -/
def wordOf : Nat → ByteArray
  | 1 => ⟨#[112, 104, 97, 115, 101]⟩
  | 2 => ⟨#[120]⟩
  | 3 => ⟨#[104]⟩
  | 4 => ⟨#[112]⟩
  | 5 => ⟨#[109, 101, 97, 115, 117, 114, 101]⟩
  | 6 => ⟨#[114, 101, 115, 101, 116]⟩
  | _ => ⟨#[]⟩
/-- The program's table of kinds. -/
def Shp (w : World) : Prop := ∀ k : Nat, 1 ≤ k → k ≤ 6 →
  w.cell? ⟨0, k * 5, none⟩ = some (.string (wordOf k)) ∧ w.cell? ⟨0, k * 5 + 1, none⟩ = some (.bool (usesK k)) ∧ w.cell? ⟨0, k * 5 + 2, none⟩ = some (.bool (usesQ k)) ∧ w.cell? ⟨0, k * 5 + 3, none⟩ = some (.bool (usesC k)) ∧ w.cell? ⟨0, k * 5 + 4, none⟩ = some (.bool (usesB k))
theorem Shp.ext {w w' : World} (h : Shp w) (k : Ext w w') : Shp w' := fun n h1 h2 => by
  obtain ⟨e0, e1, e2, e3, e4⟩ := h n h1 h2
  exact ⟨cell_ext e0 k, cell_ext e1 k, cell_ext e2 k, cell_ext e3 k, cell_ext e4 k⟩

set_option maxHeartbeats 4000000 in
theorem checkOp_any (o : Gop) (a1 : Option Addr) (n1 c1 : Nat) (a2 : Option Addr) (n2 c2 : Nat) (n bits : Int) (w : World) (h : OpL w o a1 n1 c1 a2 n2 c2) (hb0 : 0 ≤ bits) (hb1 : bits ≤ 12) (hS : Shp w) :
    Calls Tryz.prog 78 #[.agg #[.int .i64 o.kind, .int .i64 o.k, .slice a1 n1 c1, .int .i64 o.q, .int .i64 o.bit, .slice a2 n2 c2], .int .i64 n, .int .i64 bits] w fun e w' => e = .returned (.int .i64 (opCode o n bits)) ∧ Ext w w' := by
  obtain ⟨r, hr⟩ : ∃ r, opCode o n bits = r := ⟨_, rfl⟩
  rw [hr]
  unfold opCode at hr
  obtain ⟨kd, k, ctl, q, bt, cnd⟩ := o
  have E0 := ext_al w (.cells #[.int .i64 kd, .int .i64 k, .slice a1 n1 c1, .int .i64 q, .int .i64 bt, .slice a2 n2 c2] 60)
  have bx := opbx_new w kd k a1 n1 c1 q bt a2 n2 c2
  have L0 := h.ext E0
  have S0 := hS.ext E0
  have m0 := bx.x0; have m1 := bx.x1; have m2 := bx.x2; have m3 := bx.x3; have m4 := bx.x4; have m5 := bx.x5; have lb := bx.lt
  have Hl := h.i1.1
  simp only at hr L0 Hl ⊢
  have HE0 := Lib.hid E0; have HL0 := Lib.hid L0; have HS0 := Lib.hid S0
  clear h hS E0 L0 S0
  by_cases hk1 : kd < 1
  · have hz : r = 8 := by rw [← hr, if_pos (Or.inl hk1)]
    have HF := Lib.hid hz
    clear hr hz bx
    go_enter Tryz.func78, Tryz.ntmps78
    go_wp2_with fail
    go_ret
    exact ⟨congrArg (fun b => Ending.returned (Value.int .i64 b)) HF.out.symm, HE0.out⟩
  by_cases hk6 : 6 < kd
  · have hz : r = 8 := by rw [← hr, if_pos (Or.inr hk6)]
    have HF := Lib.hid hz
    have d1 : decide (kd < 1) = false := by simp; omega
    clear hr hz hk1 bx
    go_enter Tryz.func78, Tryz.ntmps78
    go_wp2_with fail
    go_ret
    exact ⟨congrArg (fun b => Ending.returned (Value.int .i64 b)) HF.out.symm, HE0.out⟩
  rw [if_neg (by omega)] at hr
  obtain ⟨kn, rfl⟩ : ∃ kn : Nat, kd = (kn : Int) := ⟨kd.toNat, by omega⟩
  have d1 : decide ((kn : Int) < 1) = false := by simp; omega
  have d2 : decide ((6 : Int) < (kn : Int)) = false := by simp; omega
  have i0 : (0 : Int) ≤ (kn : Int) := by omega
  have i1 : (kn : Int) < 7 := by omega
  obtain ⟨t0, t1, t2, t3, t4⟩ := HS0.out kn (by omega) (by omega)
  obtain ⟨uK, huK⟩ : ∃ x, usesK (kn : Int) = x := ⟨_, rfl⟩
  obtain ⟨uQ, huQ⟩ : ∃ x, usesQ (kn : Int) = x := ⟨_, rfl⟩
  obtain ⟨uC, huC⟩ : ∃ x, usesC (kn : Int) = x := ⟨_, rfl⟩
  obtain ⟨uB, huB⟩ : ∃ x, usesB (kn : Int) = x := ⟨_, rfl⟩
  obtain ⟨wd, hwd⟩ : ∃ x, wordOf kn = x := ⟨_, rfl⟩
  rw [huK] at t1 hr; rw [huQ] at t2 hr; rw [huC] at t3 hr; rw [huB] at t4 hr; rw [hwd] at t0
  clear huK huQ huC huB hwd hk1 hk6 bx
  have HF1 := Lib.hid (fun wx => fits_any k 16 uK wx); have HF2 := Lib.hid (fun wx => fits_any q n uQ wx); have HF3 := Lib.hid (fun wx => fits_any bt bits uB wx)
  obtain ⟨f1, hf1⟩ : ∃ x, fitsB k 16 uK = x := ⟨_, rfl⟩
  obtain ⟨f2, hf2⟩ : ∃ x, fitsB q n uQ = x := ⟨_, rfl⟩
  obtain ⟨f3, hf3⟩ : ∃ x, fitsB bt bits uB = x := ⟨_, rfl⟩
  rw [hf1] at HF1 hr; rw [hf2] at HF2 hr; rw [hf3] at HF3 hr
  clear hf1 hf2 hf3
  have E1 := ext_al (w.alloc (.cells #[.int .i64 (kn : Int), .int .i64 k, .slice a1 n1 c1, .int .i64 q, .int .i64 bt, .slice a2 n2 c2] 60)) (.cells #[.string wd, .bool uK, .bool uQ, .bool uC, .bool uB] 129)
  have ub : ((w.alloc (.cells #[.int .i64 (kn : Int), .int .i64 k, .slice a1 n1 c1, .int .i64 q, .int .i64 bt, .slice a2 n2 c2] 60)).alloc (.cells #[.string wd, .bool uK, .bool uQ, .bool uC, .bool uB] 129)).heap[w.heap.size + 1]? = some (.cells #[.string wd, .bool uK, .bool uQ, .bool uC, .bool uB] 129 (0, 0)) := by
    have := heap_alloc_new (w.alloc (.cells #[.int .i64 (kn : Int), .int .i64 k, .slice a1 n1 c1, .int .i64 q, .int .i64 bt, .slice a2 n2 c2] 60)) (.cells #[.string wd, .bool uK, .bool uQ, .bool uC, .bool uB] 129)
    simpa using this
  have u1 : ((w.alloc (.cells #[.int .i64 (kn : Int), .int .i64 k, .slice a1 n1 c1, .int .i64 q, .int .i64 bt, .slice a2 n2 c2] 60)).alloc (.cells #[.string wd, .bool uK, .bool uQ, .bool uC, .bool uB] 129)).cell? ⟨w.heap.size + 1, 1, none⟩ = some (.bool uK) := by rw [cell_of_row _ _ 1 _ _ (0, 0) ub]; rfl
  have u2 : ((w.alloc (.cells #[.int .i64 (kn : Int), .int .i64 k, .slice a1 n1 c1, .int .i64 q, .int .i64 bt, .slice a2 n2 c2] 60)).alloc (.cells #[.string wd, .bool uK, .bool uQ, .bool uC, .bool uB] 129)).cell? ⟨w.heap.size + 1, 2, none⟩ = some (.bool uQ) := by rw [cell_of_row _ _ 2 _ _ (0, 0) ub]; rfl
  have u3 : ((w.alloc (.cells #[.int .i64 (kn : Int), .int .i64 k, .slice a1 n1 c1, .int .i64 q, .int .i64 bt, .slice a2 n2 c2] 60)).alloc (.cells #[.string wd, .bool uK, .bool uQ, .bool uC, .bool uB] 129)).cell? ⟨w.heap.size + 1, 3, none⟩ = some (.bool uC) := by rw [cell_of_row _ _ 3 _ _ (0, 0) ub]; rfl
  have u4 : ((w.alloc (.cells #[.int .i64 (kn : Int), .int .i64 k, .slice a1 n1 c1, .int .i64 q, .int .i64 bt, .slice a2 n2 c2] 60)).alloc (.cells #[.string wd, .bool uK, .bool uQ, .bool uC, .bool uB] 129)).cell? ⟨w.heap.size + 1, 4, none⟩ = some (.bool uB) := by rw [cell_of_row _ _ 4 _ _ (0, 0) ub]; rfl
  have HE1 := Lib.hid (HE0.out.trans E1); have HL1 := Lib.hid (HL0.out.ext E1)
  have v0 := cell_ext m0 E1; have v1 := cell_ext m1 E1; have v2 := cell_ext m2 E1; have v3 := cell_ext m3 E1; have v4 := cell_ext m4 E1; have v5 := cell_ext m5 E1
  have Hr := Lib.hid hr; have Hl' := Lib.hid Hl
  clear ub E1 hr Hl
  go_enter Tryz.func78, Tryz.ntmps78
  go_wp2_with fail
  generalize (w.alloc (.cells #[.int .i64 (kn : Int), .int .i64 k, .slice a1 n1 c1, .int .i64 q, .int .i64 bt, .slice a2 n2 c2] 60)).alloc (.cells #[.string wd, .bool uK, .bool uQ, .bool uC, .bool uB] 129) = W1 at *
  clear m0 m1 m2 m3 m4 m5 t0 t1 t2 t3 t4 HE0 HL0 HS0 d1 d2
  refine (HF1.out _).mono ?_
  rintro e wz ⟨rfl, rfl⟩
  cases f1
  · have HF : Hid (r = 9) := by show r = 9; rw [← Hr.out]; simp
    clear Hr
    go_wp2_with fail
    go_ret
    exact ⟨congrArg (fun b => Ending.returned (Value.int .i64 b)) HF.out.symm, HE1.out⟩
  have hr1 := Hr.out
  rw [if_neg (by decide)] at hr1
  have Hr1 := Lib.hid hr1
  clear Hr hr1
  go_wp2_with fail
  refine (HF2.out _).mono ?_
  rintro e wz ⟨rfl, rfl⟩
  cases f2
  · have HF : Hid (r = 10) := by show r = 10; rw [← Hr1.out]; simp
    clear Hr1
    go_wp2_with fail
    go_ret
    exact ⟨congrArg (fun b => Ending.returned (Value.int .i64 b)) HF.out.symm, HE1.out⟩
  have hr2 := Hr1.out
  rw [if_neg (by decide)] at hr2
  have HCC := Lib.hid (checkControls_any (kn : Int) k a1 n1 c1 q bt a2 n2 c2 ctl n wz HL1.out.i1 HL1.out.h1 HL1.out.m1)
  obtain ⟨cc, hcc⟩ : ∃ x, ctlCode q n [] ctl = x := ⟨_, rfl⟩
  rw [hcc] at HCC hr2
  have Hr2 := Lib.hid hr2
  clear Hr1 hr2 hcc
  by_cases hn0 : 0 < n1 ∧ uC = false
  · have HF : Hid (r = 11) := by show r = 11; rw [← Hr2.out, if_pos ⟨by rw [Hl'.out]; exact hn0.1, hn0.2⟩]
    have j0 : (0 : Int) < (n1 : Int) := by omega
    obtain ⟨_, rfl⟩ := hn0
    clear Hr2
    go_wp2_with fail
    go_ret
    exact ⟨congrArg (fun b => Ending.returned (Value.int .i64 b)) HF.out.symm, HE1.out⟩
  have hr3 := Hr2.out
  rw [if_neg (by rw [Hl'.out]; exact hn0)] at hr3
  have Hr3 := Lib.hid hr3
  have HOK : (decide ((0 : Int) < (n1 : Int)) = false) ∨ ((0 : Int) < (n1 : Int) ∧ uC = true) := by
    by_cases h0 : 0 < n1
    · refine Or.inr ⟨by omega, ?_⟩
      cases uC
      · exact absurd ⟨h0, rfl⟩ hn0
      · rfl
    · exact Or.inl (by simp; omega)
  clear Hr2 hr3 hn0
  rcases HOK with hd0 | ⟨j0, rfl⟩
  · have hd1 : ¬ (0 : Int) < (n1 : Int) := of_decide_eq_false hd0
    go_wp2_with fail
    refine HCC.out.mono ?_
    rintro e w2 ⟨rfl, hx2⟩
    have HE2 := Lib.hid (HE1.out.trans hx2)
    have y4 := cell_ext v4 hx2; have y5 := cell_ext v5 hx2; have z4 := cell_ext u4 hx2
    have L2 := HL1.out.ext hx2
    have HA := Lib.hid (areConditions_any a2 n2 c2 cnd bits w2 L2.i2 L2.h2 L2.m2 hb0 hb1)
    obtain ⟨ok, hok⟩ : ∃ x, cndOk bits cnd = x := ⟨_, rfl⟩
    rw [hok] at HA
    have hr3 := Hr3.out
    rw [hok] at hr3
    have Hr4 := Lib.hid hr3
    clear hok hr3 Hr3 v0 v1 v2 v3 v4 v5 u1 u2 u3 u4 L2
    by_cases hc0 : cc = 0
    · have hr4 := Hr4.out
      rw [if_neg (by simp [hc0])] at hr4
      have Hr5 := Lib.hid hr4
      have hcb : (cc != 0) = false := by simp [hc0]
      clear hr4 Hr4 hc0
      go_wp2_with fail
      refine (HF3.out _).mono ?_
      rintro e wy ⟨rfl, rfl⟩
      cases f3
      · have HF : Hid (r = 13) := by show r = 13; rw [← Hr5.out]; simp
        clear Hr5
        go_wp2_with fail
        go_ret
        exact ⟨congrArg (fun b => Ending.returned (Value.int .i64 b)) HF.out.symm, HE2.out⟩
      · have hr6 := Hr5.out
        rw [if_neg (by decide)] at hr6
        have Hr6 := Lib.hid hr6
        clear hr6 Hr5
        go_wp2_with fail
        refine HA.out.mono ?_
        rintro e wx ⟨rfl, rfl⟩
        cases ok
        · have HF : Hid (r = 14) := by show r = 14; rw [← Hr6.out]; simp
          clear Hr6
          go_wp2_with fail
          go_ret
          exact ⟨congrArg (fun b => Ending.returned (Value.int .i64 b)) HF.out.symm, HE2.out⟩
        · have HF : Hid (r = 0) := by show r = 0; rw [← Hr6.out]; simp
          clear Hr6
          go_wp2_with fail
          go_ret
          exact ⟨congrArg (fun b => Ending.returned (Value.int .i64 b)) HF.out.symm, HE2.out⟩
    · have HF : Hid (r = cc) := by show r = cc; rw [← Hr4.out, if_pos hc0]
      have hcb : (cc != 0) = true := by simp [hc0]
      clear Hr4 hc0
      go_wp2_with fail
      go_ret
      exact ⟨congrArg (fun b => Ending.returned (Value.int .i64 b)) HF.out.symm, HE2.out⟩
  · go_wp2_with fail
    refine HCC.out.mono ?_
    rintro e w2 ⟨rfl, hx2⟩
    have HE2 := Lib.hid (HE1.out.trans hx2)
    have y4 := cell_ext v4 hx2; have y5 := cell_ext v5 hx2; have z4 := cell_ext u4 hx2
    have L2 := HL1.out.ext hx2
    have HA := Lib.hid (areConditions_any a2 n2 c2 cnd bits w2 L2.i2 L2.h2 L2.m2 hb0 hb1)
    obtain ⟨ok, hok⟩ : ∃ x, cndOk bits cnd = x := ⟨_, rfl⟩
    rw [hok] at HA
    have hr3 := Hr3.out
    rw [hok] at hr3
    have Hr4 := Lib.hid hr3
    clear hok hr3 Hr3 v0 v1 v2 v3 v4 v5 u1 u2 u3 u4 L2
    by_cases hc0 : cc = 0
    · have hr4 := Hr4.out
      rw [if_neg (by simp [hc0])] at hr4
      have Hr5 := Lib.hid hr4
      have hcb : (cc != 0) = false := by simp [hc0]
      clear hr4 Hr4 hc0
      go_wp2_with fail
      refine (HF3.out _).mono ?_
      rintro e wy ⟨rfl, rfl⟩
      cases f3
      · have HF : Hid (r = 13) := by show r = 13; rw [← Hr5.out]; simp
        clear Hr5
        go_wp2_with fail
        go_ret
        exact ⟨congrArg (fun b => Ending.returned (Value.int .i64 b)) HF.out.symm, HE2.out⟩
      · have hr6 := Hr5.out
        rw [if_neg (by decide)] at hr6
        have Hr6 := Lib.hid hr6
        clear hr6 Hr5
        go_wp2_with fail
        refine HA.out.mono ?_
        rintro e wx ⟨rfl, rfl⟩
        cases ok
        · have HF : Hid (r = 14) := by show r = 14; rw [← Hr6.out]; simp
          clear Hr6
          go_wp2_with fail
          go_ret
          exact ⟨congrArg (fun b => Ending.returned (Value.int .i64 b)) HF.out.symm, HE2.out⟩
        · have HF : Hid (r = 0) := by show r = 0; rw [← Hr6.out]; simp
          clear Hr6
          go_wp2_with fail
          go_ret
          exact ⟨congrArg (fun b => Ending.returned (Value.int .i64 b)) HF.out.symm, HE2.out⟩
    · have HF : Hid (r = cc) := by show r = cc; rw [← Hr4.out, if_pos hc0]
      have hcb : (cc != 0) = true := by simp [hc0]
      clear Hr4 hc0
      go_wp2_with fail
      go_ret
      exact ⟨congrArg (fun b => Ending.returned (Value.int .i64 b)) HF.out.symm, HE2.out⟩

end Go.Proofs.YtfjnlopbmkimiaaGreatDoor
namespace Go.Proofs.YtfjnlopbmkimiaaGreatDoor
open Go.RowKit

set_option maxHeartbeats 1000000 in
theorem copyList_any (ao : Option Addr) (n c : Nat) (l : List Int) (w : World) (h : IntsAt w ao n l) (hb : n * 8 ≤ 140737488355328) :
    Calls Tryz.prog 110 #[.slice ao n c] w fun e w' => ∃ v' : Value, e = .returned v' ∧ w'.ownsRow w.heap.size 3 1 v' n (iC l) ∧ Ext w w' := by
  obtain ⟨i0, hi, hz0, hz1, hz2⟩ := info_parts i_info
  have Hl := Lib.hid h.1
  by_cases hn : n = 0
  · subst hn
    have hl0 : l = [] := List.eq_nil_of_length_eq_zero Hl.out
    subst hl0
    clear h hi hz0 hz1 hz2
    cases ao
    · go_enter Tryz.func110, Tryz.ntmps110
      go_wp2_with fail
      go_ret
      exact ⟨_, rfl, ⟨rfl, Or.inl ⟨rfl, rfl⟩⟩, Ext.refl _⟩
    · go_enter Tryz.func110, Tryz.ntmps110
      go_wp2_with fail
      go_ret
      exact ⟨_, rfl, ⟨rfl, Or.inl ⟨rfl, rfl⟩⟩, Ext.refl _⟩
  · obtain ⟨b, o, rfl, hbl, hcell⟩ := h.at (by omega)
    have hnews : ∀ j u, (iC l)[j]? = some u → w.cell? ((⟨b, o, none⟩ : Addr).add j) = some u := by
      intro j u hu
      have hj : j < l.length := by have := (List.getElem?_eq_some_iff.1 hu).1; simpa [iC] using this
      have hadd : (⟨b, o, none⟩ : Addr).add j = ⟨b, o + j, none⟩ := by unfold Addr.add; split <;> simp_all
      rw [hadd, hcell j (by rw [← Hl.out]; exact hj), ← hu]
      simp only [iC, List.getElem?_map, List.getD_eq_getElem?_getD]
      rw [List.getElem?_eq_getElem hj]
      rfl
    have h1 : ∀ u ∈ iC l, u.oneCell' = true := by
      intro u hu
      obtain ⟨x, _, rfl⟩ := List.mem_map.1 hu
      rfl
    have hown : w.ownsRow w.heap.size 3 1 (.slice none 0 0) 0 [] := ⟨rfl, Or.inl ⟨rfl, rfl⟩⟩
    have Hnews := Lib.hid hnews; have H1 := Lib.hid h1; have Hown := Lib.hid hown
    have hll : (iC l).length = n * 1 := by rw [iC_length, Hl.out, Nat.mul_one]
    have Hll := Lib.hid hll
    clear h hcell hnews h1 hown hbl hll
    go_enter Tryz.func110, Tryz.ntmps110
    go_wp2_with (at_builtin; refine wpList_append_own _ rfl _ _ 25 rfl w.heap.size 3 i0 (.int .i64 0) 1 8 Tryz.underlying25 hi hz0 hz1 hz2 rfl (by decide) _ 0 [] rfl Hown.out ⟨b, o, none⟩ n c (iC l) rfl Hll.out Hnews.out H1.out (by unfold maxLen; omega) (by omega) (Nat.le_refl _) ?_; intro v' w7 hown' hgrow' _)
    go_ret
    exact ⟨_, rfl, by simpa using hown', grown_ext (Ext.refl _) hgrow' (fun k hk => by cases hk)⟩

end Go.Proofs.YtfjnlopbmkimiaaGreatDoor
namespace Go.Proofs.YtfjnlopbmkimiaaGreatDoor

/-- The places as the program lists them, and as the reference does. -/
def plP (o : Gop) : List Int := o.ctl ++ tchQ o.kind o.q ++ tchB 12 o.kind o.bit ++ tchC 12 o.cnd
/-- What a circuit that is checked keeps to. -/
def placesFit (o : Gop) : Prop := (∀ t ∈ o.ctl, t < 12) ∧ o.q < 12 ∧ 0 ≤ o.bit ∧ ∀ t ∈ o.cnd, t ≠ 0
end Go.Proofs.YtfjnlopbmkimiaaGreatDoor
namespace Go.Proofs.YtfjnlopbmkimiaaGreatDoor
open Go.RowKit

/-- Operations, one behind the other. -/
def OpsAt (w : World) (ao : Option Addr) (n : Nat) (ops : List Gop) : Prop :=
  ops.length = n ∧ (n = 0 ∨ ∃ b o, ao = some ⟨b, o, none⟩ ∧ b < w.heap.size ∧ ∀ t g, ops[t]? = some g → ∃ (a1 : Option Addr) (n1 c1 : Nat) (a2 : Option Addr) (n2 c2 : Nat),
    w.cell? ⟨b, o + t * 6, none⟩ = some (.int .i64 g.kind) ∧ w.cell? ⟨b, o + t * 6 + 1, none⟩ = some (.int .i64 g.k) ∧ w.cell? ⟨b, o + t * 6 + 2, none⟩ = some (.slice a1 n1 c1) ∧ w.cell? ⟨b, o + t * 6 + 3, none⟩ = some (.int .i64 g.q) ∧ w.cell? ⟨b, o + t * 6 + 4, none⟩ = some (.int .i64 g.bit) ∧ w.cell? ⟨b, o + t * 6 + 5, none⟩ = some (.slice a2 n2 c2) ∧ OpL w g a1 n1 c1 a2 n2 c2)
theorem OpsAt.ext {w w' : World} {ao : Option Addr} {n : Nat} {ops : List Gop} (h : OpsAt w ao n ops) (k : Ext w w') : OpsAt w' ao n ops := by
  refine ⟨h.1, ?_⟩
  rcases h.2 with h0 | ⟨b, o, e, hb, hc⟩
  · exact Or.inl h0
  · refine Or.inr ⟨b, o, e, Nat.lt_of_lt_of_le hb k.size, fun t g hg => ?_⟩
    obtain ⟨a1, n1, c1, a2, n2, c2, e0, e1, e2, e3, e4, e5, hl⟩ := hc t g hg
    exact ⟨a1, n1, c1, a2, n2, c2, cell_ext e0 k, cell_ext e1 k, cell_ext e2 k, cell_ext e3 k, cell_ext e4 k, cell_ext e5 k, hl.ext k⟩
theorem OpsAt.at {w : World} {b o n : Nat} {ops : List Gop} (h : OpsAt w (some ⟨b, o, none⟩) n ops) (t : Nat) (g : Gop) (hg : ops[t]? = some g) : ∃ (a1 : Option Addr) (n1 c1 : Nat) (a2 : Option Addr) (n2 c2 : Nat),
    w.cell? ⟨b, o + t * 6, none⟩ = some (.int .i64 g.kind) ∧ w.cell? ⟨b, o + t * 6 + 1, none⟩ = some (.int .i64 g.k) ∧ w.cell? ⟨b, o + t * 6 + 2, none⟩ = some (.slice a1 n1 c1) ∧ w.cell? ⟨b, o + t * 6 + 3, none⟩ = some (.int .i64 g.q) ∧ w.cell? ⟨b, o + t * 6 + 4, none⟩ = some (.int .i64 g.bit) ∧ w.cell? ⟨b, o + t * 6 + 5, none⟩ = some (.slice a2 n2 c2) ∧ OpL w g a1 n1 c1 a2 n2 c2 := by
  rcases h.2 with h0 | ⟨b', o', e, hb, hc⟩
  · have := (List.getElem?_eq_some_iff.1 hg).1
    have := h.1
    omega
  · cases e
    exact hc t g hg
theorem OpsAt.some_of {w : World} {ao : Option Addr} {n : Nat} {ops : List Gop} (h : OpsAt w ao n ops) (hn : 0 < n) : ∃ b o, ao = some ⟨b, o, none⟩ := by
  rcases h.2 with h0 | ⟨b, o, e, _⟩
  · omega
  · exact ⟨b, o, e⟩

theorem opsCode_step (q b : Int) (ops : List Gop) (i : Nat) (g : Gop) (h : ops[i]? = some g) : opsCode q b i (ops.drop i) = if opCode g q b ≠ 0 then (opCode g q b, (i : Int)) else opsCode q b (i + 1) (ops.drop (i + 1)) := by
  obtain ⟨hi, e⟩ := List.getElem?_eq_some_iff.1 h
  rw [List.drop_eq_getElem_cons hi, opsCode, e]
theorem opsCode_end (q b : Int) (ops : List Gop) (i : Nat) (h : ops.length ≤ i) : opsCode q b i (ops.drop i) = (0, 0) := by
  rw [List.drop_eq_nil_of_le h]; rfl

/-- A fault in a variable. -/
structure FtB (W : World) (g : Nat) (u v : Int) : Prop where
  row : W.heap[g]? = some (.cells #[.int .i64 u, .int .i64 v] 31 (0, 0))
theorem FtB.lt {W : World} {g : Nat} {u v : Int} (h : FtB W g u v) : g < W.heap.size := (Array.getElem?_eq_some_iff.1 h.row).1
theorem FtB.ext {W W' : World} {g : Nat} {u v : Int} (h : FtB W g u v) (k : Ext W W') : FtB W' g u v := ⟨(k.block _ h.lt).trans h.row⟩
theorem FtB.x0 {W : World} {g : Nat} {u v : Int} (h : FtB W g u v) : W.cell? ⟨g, 0, none⟩ = some (.int .i64 u) := by rw [cell_of_row W g 0 _ _ (0, 0) h.row]; rfl
theorem FtB.x1 {W : World} {g : Nat} {u v : Int} (h : FtB W g u v) : W.cell? ⟨g, 1, none⟩ = some (.int .i64 v) := by rw [cell_of_row W g 1 _ _ (0, 0) h.row]; rfl
theorem FtB.f {W : World} {g : Nat} {u v : Int} (h : FtB W g u v) (o : Nat) : W.frozen? ⟨g, o, none⟩ = false := frozen_of_row W g o _ _ h.row
/-- A circuit in a variable. -/
structure CiB (W : World) (g : Nat) (qb bi : Int) (ao : Option Addr) (n cp : Nat) : Prop where
  row : W.heap[g]? = some (.cells #[.int .i64 qb, .int .i64 bi, .slice ao n cp] 24 (0, 0))
section
variable {W W' : World} {g : Nat} {qb bi : Int} {ao : Option Addr} {n cp : Nat}
theorem CiB.lt (h : CiB W g qb bi ao n cp) : g < W.heap.size := (Array.getElem?_eq_some_iff.1 h.row).1
theorem CiB.ext (h : CiB W g qb bi ao n cp) (k : Ext W W') : CiB W' g qb bi ao n cp := ⟨(k.block _ h.lt).trans h.row⟩
theorem CiB.x0 (h : CiB W g qb bi ao n cp) : W.cell? ⟨g, 0, none⟩ = some (.int .i64 qb) := by rw [cell_of_row W g 0 _ _ (0, 0) h.row]; rfl
theorem CiB.x1 (h : CiB W g qb bi ao n cp) : W.cell? ⟨g, 1, none⟩ = some (.int .i64 bi) := by rw [cell_of_row W g 1 _ _ (0, 0) h.row]; rfl
theorem CiB.x2 (h : CiB W g qb bi ao n cp) : W.cell? ⟨g, 2, none⟩ = some (.slice ao n cp) := by rw [cell_of_row W g 2 _ _ (0, 0) h.row]; rfl
end
theorem put2x {w W : World} {g : Nat} (h : Ext w W) (hg : w.heap.size ≤ g) (u v : Value) : Ext w ((W.setCell ⟨g, 0, none⟩ u).setCell ⟨g, 1, none⟩ v) := Below.setCell (Below.setCell h (p := ⟨g, 0, none⟩) hg u) (p := ⟨g, 1, none⟩) hg v

set_option maxHeartbeats 400000 in
theorem countsQubits_any (n : Int) (w : World) : Calls Tryz.prog 77 #[.int .i64 n] w fun e w' => e = .returned (.bool (decide (1 ≤ n) && decide (n ≤ 12))) ∧ w' = w := by
  by_cases h0 : 1 ≤ n
  · by_cases h1 : n ≤ 12
    · have e : (decide (1 ≤ n) && decide (n ≤ 12)) = true := by simp [h0, h1]
      rw [e]
      have d0 := dt h0
      have d1 := dt h1
      go_enter Tryz.func77, Tryz.ntmps77
      go_wp2
      go_ret
      exact ⟨rfl, rfl⟩
    · have e : (decide (1 ≤ n) && decide (n ≤ 12)) = false := by simp [h1]
      rw [e]
      have d0 := dt h0
      have d1 := df h1
      go_enter Tryz.func77, Tryz.ntmps77
      go_wp2
      go_ret
      exact ⟨rfl, rfl⟩
  · have e : (decide (1 ≤ n) && decide (n ≤ 12)) = false := by simp [h0]
    rw [e]
    have d0 := df h0
    go_enter Tryz.func77, Tryz.ntmps77
    go_wp2
    go_ret
    exact ⟨rfl, rfl⟩

set_option maxHeartbeats 4000000 in
set_option maxRecDepth 100000 in
theorem Check_any (c : Gci) (ao : Option Addr) (n cp : Nat) (w : World) (h : OpsAt w ao n c.ops) (_hn : n ≤ cp) (_hcp : cp ≤ 9223372036854775807) (hS : Shp w) :
    Calls Tryz.prog 43 #[.agg #[.int .i64 c.qubits, .int .i64 c.bits, .slice ao n cp]] w fun e w' => e = .returned (.agg #[.int .i64 (chk c).1, .int .i64 (chk c).2]) ∧ Ext w w' := by
  obtain ⟨r, hr⟩ : ∃ r, chk c = r := ⟨_, rfl⟩
  rw [hr]
  obtain ⟨r0, r1⟩ := r
  unfold chk at hr
  obtain ⟨qb, bi, ops⟩ := c
  have E0 := (ext_al w (.cells #[.int .i64 qb, .int .i64 bi, .slice ao n cp] 24)).trans (ext_al _ (.cells #[.int .i64 0, .int .i64 0] 31))
  have bC : CiB ((w.alloc (.cells #[.int .i64 qb, .int .i64 bi, .slice ao n cp] 24)).alloc (.cells #[.int .i64 0, .int .i64 0] 31)) w.heap.size qb bi ao n cp := CiB.ext ⟨heap_alloc_new w _⟩ (ext_al _ _)
  have bF : FtB ((w.alloc (.cells #[.int .i64 qb, .int .i64 bi, .slice ao n cp] 24)).alloc (.cells #[.int .i64 0, .int .i64 0] 31)) (w.heap.size + 1) 0 0 := ⟨by
    have := heap_alloc_new (w.alloc (.cells #[.int .i64 qb, .int .i64 bi, .slice ao n cp] 24)) (.cells #[.int .i64 0, .int .i64 0] 31)
    simpa using this⟩
  have Hl := Lib.hid h.1
  simp only at hr Hl ⊢
  have HE0 := Lib.hid E0; have HO := Lib.hid (h.ext E0); have HC := Lib.hid bC; have HFt := Lib.hid bF; have HS := Lib.hid (hS.ext E0)
  have m0 := bC.x0; have m1 := bC.x1; have m2 := bC.x2
  have x0 := bF.x0; have x1 := bF.x1; have g0 := bF.f 0; have g1 := bF.f 1
  clear h E0 bC bF hS
  have Hcq := Lib.hid (fun wx => countsQubits_any qb wx)
  by_cases hq : qb < 1 ∨ 12 < qb
  · have hz : (r0, r1) = ((6 : Int), (0 : Int)) := by rw [← hr, if_pos hq]
    have HF0 : Hid (r0 = 6) := congrArg Prod.fst hz
    have HF1 : Hid (r1 = 0) := congrArg Prod.snd hz
    have hb : (decide (1 ≤ qb) && decide (qb ≤ 12)) = false := by simp; omega
    rw [hb] at Hcq
    clear hr hz hq hb
    go_enter Tryz.func43, Tryz.ntmps43
    go_wp2_with fail
    generalize (w.alloc (.cells #[.int .i64 qb, .int .i64 bi, .slice ao n cp] 24)).alloc (.cells #[.int .i64 0, .int .i64 0] 31) = W0 at *
    refine (Hcq.out _).mono ?_
    rintro e wz ⟨rfl, rfl⟩
    go_wp2_with fail
    exact bodyPost_ret (v := .agg #[.int .i64 6, .int .i64 0]) (by simp [results, Tryz.results43, go_sem, x0, x1]) rfl ⟨by rw [HF0.out, HF1.out], put2x HE0.out (by omega) _ _⟩
  rw [if_neg hq] at hr
  have hb : (decide (1 ≤ qb) && decide (qb ≤ 12)) = true := by simp; omega
  rw [hb] at Hcq
  clear hb
  by_cases hb1 : bi < 0
  · have hz : (r0, r1) = ((7 : Int), (0 : Int)) := by rw [← hr, if_pos (Or.inl hb1)]
    have HF0 : Hid (r0 = 7) := congrArg Prod.fst hz
    have HF1 : Hid (r1 = 0) := congrArg Prod.snd hz
    have d1 := dt hb1
    clear hr hz
    go_enter Tryz.func43, Tryz.ntmps43
    go_wp2_with fail
    generalize (w.alloc (.cells #[.int .i64 qb, .int .i64 bi, .slice ao n cp] 24)).alloc (.cells #[.int .i64 0, .int .i64 0] 31) = W0 at *
    refine (Hcq.out _).mono ?_
    rintro e wz ⟨rfl, rfl⟩
    go_wp2_with fail
    exact bodyPost_ret (v := .agg #[.int .i64 7, .int .i64 0]) (by simp [results, Tryz.results43, go_sem, x0, x1]) rfl ⟨by rw [HF0.out, HF1.out], put2x HE0.out (by omega) _ _⟩
  have d1 := df hb1
  by_cases hb2 : 12 < bi
  · have hz : (r0, r1) = ((7 : Int), (0 : Int)) := by rw [← hr, if_pos (Or.inr hb2)]
    have HF0 : Hid (r0 = 7) := congrArg Prod.fst hz
    have HF1 : Hid (r1 = 0) := congrArg Prod.snd hz
    have d2 := dt hb2
    clear hr hz
    go_enter Tryz.func43, Tryz.ntmps43
    go_wp2_with fail
    generalize (w.alloc (.cells #[.int .i64 qb, .int .i64 bi, .slice ao n cp] 24)).alloc (.cells #[.int .i64 0, .int .i64 0] 31) = W0 at *
    refine (Hcq.out _).mono ?_
    rintro e wz ⟨rfl, rfl⟩
    go_wp2_with fail
    exact bodyPost_ret (v := .agg #[.int .i64 7, .int .i64 0]) (by simp [results, Tryz.results43, go_sem, x0, x1]) rfl ⟨by rw [HF0.out, HF1.out], put2x HE0.out (by omega) _ _⟩
  have d2 := df hb2
  rw [if_neg (by omega), Hl.out] at hr
  by_cases hL : 4096 < n
  · have hz : (r0, r1) = ((2 : Int), (0 : Int)) := by rw [← hr, if_pos hL]
    have HF0 : Hid (r0 = 2) := congrArg Prod.fst hz
    have HF1 : Hid (r1 = 0) := congrArg Prod.snd hz
    have d3 : (4096 : Int) < (n : Int) := by omega
    clear hr hz
    go_enter Tryz.func43, Tryz.ntmps43
    go_wp2_with fail
    generalize (w.alloc (.cells #[.int .i64 qb, .int .i64 bi, .slice ao n cp] 24)).alloc (.cells #[.int .i64 0, .int .i64 0] 31) = W0 at *
    refine (Hcq.out _).mono ?_
    rintro e wz ⟨rfl, rfl⟩
    go_wp2_with fail
    exact bodyPost_ret (v := .agg #[.int .i64 2, .int .i64 0]) (by simp [results, Tryz.results43, go_sem, x0, x1]) rfl ⟨by rw [HF0.out, HF1.out], put2x HE0.out (by omega) _ _⟩
  have d3 : ¬ (4096 : Int) < (n : Int) := by omega
  rw [if_neg hL] at hr
  have Hr := Lib.hid hr
  clear hr
  have hab : n = 0 ∨ ∃ b o, ao = some ⟨b, o, none⟩ := by
    by_cases h0 : n = 0
    · exact Or.inl h0
    · exact Or.inr (HO.out.some_of (by omega))
  go_enter Tryz.func43, Tryz.ntmps43
  go_wp2_with fail
  generalize (w.alloc (.cells #[.int .i64 qb, .int .i64 bi, .slice ao n cp] 24)).alloc (.cells #[.int .i64 0, .int .i64 0] 31) = W0 at *
  refine (Hcq.out _).mono ?_
  rintro e wz ⟨rfl, rfl⟩
  go_wp2_with fail
  go_loopg [31] n (fun kk s31 wr => Ext wz wr ∧ ∃ i : Nat, s31 = .int .i64 (i : Int) ∧ i ≤ n ∧ n - i = kk ∧ (r0, r1) = opsCode qb bi i (ops.drop i))
  case atStart => exact ⟨Ext.refl _, 0, rfl, by omega, by omega, Hr.out.symm⟩
  case round =>
    obtain ⟨hER, i, rfl, hi, hk, hri⟩ := hrel
    have HER := Lib.hid hER
    have v0 := cell_ext m0 hER; have v1 := cell_ext m1 hER; have v2 := cell_ext m2 hER
    clear m0 m1 m2 x0 x1 g0 g1 hER
    by_cases hin : i = n
    · have h2 : ¬ (i : Int) < (n : Int) := by omega
      have hz : (r0, r1) = ((0 : Int), (0 : Int)) := by rw [hri]; exact opsCode_end qb bi ops i (by rw [Hl.out]; omega)
      have HF0 : Hid (r0 = 0) := congrArg Prod.fst hz
      have HF1 : Hid (r1 = 0) := congrArg Prod.snd hz
      have bz := HFt.out.ext HER.out; have x0' := bz.x0; have x1' := bz.x1; have g0' := bz.f 0; have g1' := bz.f 1
      have HEz := Lib.hid (HE0.out.trans HER.out)
      clear hz hri bz
      go_wp2_with fail
      exact bodyPost_ret (v := .agg #[.int .i64 0, .int .i64 0]) (by simp [results, Tryz.results43, go_sem, x0', x1']) rfl ⟨by rw [HF0.out, HF1.out], put2x HEz.out (by omega) _ _⟩
    · have h2 : (i : Int) < (n : Int) := by omega
      have h0 : (0 : Int) ≤ (i : Int) := by omega
      rcases hab with h | ⟨b, o, rfl⟩
      · omega
      obtain ⟨g, hg⟩ : ∃ g, ops[i]? = some g := ⟨_, List.getElem?_eq_getElem (by rw [Hl.out]; omega)⟩
      obtain ⟨a1, n1, c1, a2, n2, c2, e0, e1, e2, e3, e4, e5, hL⟩ := (HO.out.ext HER.out).at i g hg
      have hst := opsCode_step qb bi ops i g hg
      rw [← hri] at hst
      have Ea := ext_al wr (.cells #[.int .i64 g.kind, .int .i64 g.k, .slice a1 n1 c1, .int .i64 g.q, .int .i64 g.bit, .slice a2 n2 c2] 60)
      have bO := opbx_new wr g.kind g.k a1 n1 c1 g.q g.bit a2 n2 c2
      have HCO := Lib.hid (checkOp_any g a1 n1 c1 a2 n2 c2 qb bi (wr.alloc (.cells #[.int .i64 g.kind, .int .i64 g.k, .slice a1 n1 c1, .int .i64 g.q, .int .i64 g.bit, .slice a2 n2 c2] 60)) (hL.ext Ea) (by omega) (by omega) (HS.out.ext (HER.out.trans Ea)))
      obtain ⟨oc, hoc⟩ : ∃ x, opCode g qb bi = x := ⟨_, rfl⟩
      rw [hoc] at HCO hst
      have Hst := Lib.hid hst
      obtain ⟨kd, kk', ctl, qq, bb, cnd⟩ := g
      simp only at e0 e1 e2 e3 e4 e5 HCO bO Ea
      have u0 := cell_ext v0 Ea; have u1 := cell_ext v1 Ea
      have p0 := bO.x0; have p1 := bO.x1; have p2 := bO.x2; have p3 := bO.x3; have p4 := bO.x4; have p5 := bO.x5
      have HEa := Lib.hid (HER.out.trans Ea)
      clear hst hoc hri hg hL bO Ea
      go_wp2_with fail
      generalize wr.alloc (.cells #[.int .i64 kd, .int .i64 kk', .slice a1 n1 c1, .int .i64 qq, .int .i64 bb, .slice a2 n2 c2] 60) = w5 at *
      refine HCO.out.mono ?_
      rintro e w6 ⟨rfl, hx6⟩
      have HE6 := Lib.hid (HEa.out.trans hx6)
      clear v0 v1 v2 u0 u1 p0 p1 p2 p3 p4 p5 e0 e1 e2 e3 e4 e5
      by_cases hc0 : oc = 0
      · have hcb := nf' hc0
        have hz : (r0, r1) = opsCode qb bi (i + 1) (ops.drop (i + 1)) := by rw [Hst.out, if_neg (by simp [hc0])]
        have HF := Lib.hid hz
        clear hz hc0 Hst
        go_wp2_with fail
        go_roundg (n - (i + 1))
        case measure => omega
        case rel => exact ⟨HE6.out, i + 1, by go_num, by omega, rfl, HF.out⟩
      · have hcb := nt hc0
        have hz : (r0, r1) = (oc, (i : Int)) := by rw [Hst.out, if_pos hc0]
        have HF0 : Hid (r0 = oc) := congrArg Prod.fst hz
        have HF1 : Hid (r1 = (i : Int)) := congrArg Prod.snd hz
        have bz := HFt.out.ext HE6.out; have x0' := bz.x0; have x1' := bz.x1; have g0' := bz.f 0; have g1' := bz.f 1
        have HEz := Lib.hid (HE0.out.trans HE6.out)
        clear hz hc0 Hst bz
        go_wp2_with fail
        exact bodyPost_ret (v := .agg #[.int .i64 oc, .int .i64 (i : Int)]) (by simp [results, Tryz.results43, go_sem, x0', x1']) rfl ⟨by rw [HF0.out, HF1.out], put2x HEz.out (by omega) _ _⟩

end Go.Proofs.YtfjnlopbmkimiaaGreatDoor
namespace Go.Proofs.YtfjnlopbmkimiaaGreatDoor
open Go.RowKit

/-- What a checked operation keeps to. -/
structure LvFit (o : Gop) : Prop where
  kd : 1 ≤ o.kind ∧ o.kind ≤ 6
  bit : 0 ≤ o.bit ∧ o.bit ≤ 12
  cnd : ∀ t ∈ o.cnd, -12 ≤ t ∧ t ≤ 12
  ctl : (o.ctl.length + 26) * 8 ≤ 140737488355328
  few : o.cnd.length ≤ 24
  pl : ∀ t ∈ plP o, 0 ≤ t ∧ t < 24

end Go.Proofs.YtfjnlopbmkimiaaGreatDoor
namespace Go.Proofs.YtfjnlopbmkimiaaGreatDoor
open Go.RowKit

theorem opCode_kind {g : Gop} {q b : Int} (h : opCode g q b = 0) : 1 ≤ g.kind ∧ g.kind ≤ 6 := by
  unfold opCode at h
  by_cases hk : g.kind < 1 ∨ 6 < g.kind
  · rw [if_pos hk] at h; exact absurd h (by decide)
  · omega
theorem opsCode_zero (q b : Int) (ops : List Gop) : ∀ i, (opsCode q b i ops).1 = 0 → opsCode q b i ops = (0, 0) ∧ ∀ g ∈ ops, opCode g q b = 0 := by
  induction ops with
  | nil => exact fun _ _ => ⟨rfl, fun g hg => by cases hg⟩
  | cons o r ih =>
    intro i h
    rw [opsCode] at h ⊢
    by_cases ho : opCode o q b = 0
    · rw [if_neg (by simp [ho])] at h ⊢
      obtain ⟨e1, e2⟩ := ih (i + 1) h
      exact ⟨e1, fun g hg => by
        rcases List.mem_cons.1 hg with rfl | hg
        · exact ho
        · exact e2 g hg⟩
    · rw [if_pos ho] at h
      exact absurd h ho
theorem chk_zero {c : Gci} (h : (chk c).1 = 0) : chk c = (0, 0) ∧ 1 ≤ c.qubits ∧ c.qubits ≤ 12 ∧ 0 ≤ c.bits ∧ c.bits ≤ 12 ∧ c.ops.length ≤ 4096 ∧ ∀ g ∈ c.ops, opCode g c.qubits c.bits = 0 := by
  unfold chk at h ⊢
  by_cases h1 : c.qubits < 1 ∨ 12 < c.qubits
  · rw [if_pos h1] at h; exact absurd h (by decide)
  rw [if_neg h1] at h ⊢
  by_cases h2 : c.bits < 0 ∨ 12 < c.bits
  · rw [if_pos h2] at h; exact absurd h (by decide)
  rw [if_neg h2] at h ⊢
  by_cases h3 : 4096 < c.ops.length
  · rw [if_pos h3] at h; exact absurd h (by decide)
  rw [if_neg h3] at h ⊢
  obtain ⟨e1, e2⟩ := opsCode_zero _ _ _ _ h
  exact ⟨e1, by omega, by omega, by omega, by omega, by omega, e2⟩

/-- The first operation that is no mere gate. -/
def purF : Nat → List Gop → Int × Int
  | _, [] => (0, 0)
  | i, o :: r => if 5 ≤ o.kind ∨ 0 < o.cnd.length then (15, (i : Int)) else purF (i + 1) r
def pur (c : Gci) : Int × Int := if (chk c).1 ≠ 0 then chk c else purF 0 c.ops
theorem purF_step (ops : List Gop) (i : Nat) (g : Gop) (h : ops[i]? = some g) : purF i (ops.drop i) = if 5 ≤ g.kind ∨ 0 < g.cnd.length then (15, (i : Int)) else purF (i + 1) (ops.drop (i + 1)) := by
  obtain ⟨hi, e⟩ := List.getElem?_eq_some_iff.1 h
  rw [List.drop_eq_getElem_cons hi, purF, e]
theorem purF_end (ops : List Gop) (i : Nat) (h : ops.length ≤ i) : purF i (ops.drop i) = (0, 0) := by
  rw [List.drop_eq_nil_of_le h]; rfl

set_option maxHeartbeats 400000 in
theorem meets_any (k0 k1 : Int) (a1 : Option Addr) (n1 c1 : Nat) (k3 k4 : Int) (a2 : Option Addr) (n2 c2 : Nat) (w : World) (h1 : 1 ≤ k0) (h6 : k0 ≤ 6) :
    Calls Tryz.prog 44 #[.agg #[.int .i64 k0, .int .i64 k1, .slice a1 n1 c1, .int .i64 k3, .int .i64 k4, .slice a2 n2 c2]] w fun e w' => e = .returned (.bool (decide (5 ≤ k0))) ∧ Ext w w' := by
  by_cases h5 : k0 = 5
  · have e : decide (5 ≤ k0) = true := dt (by omega)
    have b5 := bt' h5
    rw [e]
    clear e h5 h1 h6
    go_enter Tryz.func44, Tryz.ntmps44
    go_wp2
    go_ret
    exact ⟨rfl, ext_al _ _⟩
  · have b5 := bf h5
    have e : decide (5 ≤ k0) = (k0 == 6) := by
      by_cases h : k0 = 6
      · rw [bt' h]; exact dt (by omega)
      · rw [bf h]; exact df (by omega)
    rw [e]
    clear e h5 h1 h6
    go_enter Tryz.func44, Tryz.ntmps44
    go_wp2
    go_ret
    exact ⟨rfl, ext_al _ _⟩

set_option maxHeartbeats 4000000 in
set_option maxRecDepth 100000 in
theorem Pure_any (c : Gci) (ao : Option Addr) (n cp : Nat) (w : World) (h : OpsAt w ao n c.ops) (hn : n ≤ cp) (hcp : cp ≤ 9223372036854775807) (hS : Shp w) :
    Calls Tryz.prog 17 #[.agg #[.int .i64 c.qubits, .int .i64 c.bits, .slice ao n cp]] w fun e w' => e = .returned (.agg #[.int .i64 (pur c).1, .int .i64 (pur c).2]) ∧ Ext w w' := by
  obtain ⟨r, hr⟩ : ∃ r, pur c = r := ⟨_, rfl⟩
  rw [hr]
  obtain ⟨r0, r1⟩ := r
  unfold pur at hr
  obtain ⟨qb, bi, ops⟩ := c
  obtain ⟨f, hf⟩ : ∃ f, chk ⟨qb, bi, ops⟩ = f := ⟨_, rfl⟩
  obtain ⟨f0, f1⟩ := f
  have hz0 : f0 = 0 → f1 = 0 ∧ ∀ g ∈ ops, 1 ≤ g.kind ∧ g.kind ≤ 6 := by
    intro h0
    obtain ⟨e1, _, _, _, _, _, e2⟩ := chk_zero (c := ⟨qb, bi, ops⟩) (by rw [hf]; exact h0)
    rw [hf] at e1
    exact ⟨congrArg Prod.snd e1, fun g hg => opCode_kind (e2 g hg)⟩
  have Hz0 := Lib.hid hz0
  rw [hf] at hr
  have Hf := Lib.hid hf
  have E0 := (ext_al w (.cells #[.int .i64 qb, .int .i64 bi, .slice ao n cp] 24)).trans (ext_al _ (.cells #[.int .i64 0, .int .i64 0] 31))
  have bC : CiB ((w.alloc (.cells #[.int .i64 qb, .int .i64 bi, .slice ao n cp] 24)).alloc (.cells #[.int .i64 0, .int .i64 0] 31)) w.heap.size qb bi ao n cp := CiB.ext ⟨heap_alloc_new w _⟩ (ext_al _ _)
  have bF : FtB ((w.alloc (.cells #[.int .i64 qb, .int .i64 bi, .slice ao n cp] 24)).alloc (.cells #[.int .i64 0, .int .i64 0] 31)) (w.heap.size + 1) 0 0 := ⟨by
    have := heap_alloc_new (w.alloc (.cells #[.int .i64 qb, .int .i64 bi, .slice ao n cp] 24)) (.cells #[.int .i64 0, .int .i64 0] 31)
    simpa using this⟩
  have Hl := Lib.hid h.1
  simp only at hr Hl ⊢
  have HE0 := Lib.hid E0; have HO := Lib.hid (h.ext E0); have HC := Lib.hid bC; have HFt := Lib.hid bF; have HS := Lib.hid (hS.ext E0)
  have m0 := bC.x0; have m1 := bC.x1; have m2 := bC.x2
  have Hr := Lib.hid hr
  have hab : n = 0 ∨ ∃ b o, ao = some ⟨b, o, none⟩ := by
    by_cases h0 : n = 0
    · exact Or.inl h0
    · exact Or.inr (HO.out.some_of (by omega))
  clear h E0 bC bF hr hf hz0 hS
  go_enter Tryz.func17, Tryz.ntmps17
  go_wp2_with fail
  generalize (w.alloc (.cells #[.int .i64 qb, .int .i64 bi, .slice ao n cp] 24)).alloc (.cells #[.int .i64 0, .int .i64 0] 31) = W0 at *
  have HK := Lib.hid (Check_any ⟨qb, bi, ops⟩ ao n cp W0 HO.out hn hcp HS.out)
  rw [Hf.out] at HK
  refine HK.out.mono ?_
  rintro e w1 ⟨rfl, hx1⟩
  have Ef := ext_al w1 (.cells #[.int .i64 f0, .int .i64 f1] 31)
  have bf1 : FtB (w1.alloc (.cells #[.int .i64 f0, .int .i64 f1] 31)) w1.heap.size f0 f1 := ⟨heap_alloc_new w1 _⟩
  have q0 := bf1.x0; have q1 := bf1.x1
  have HX1 := Lib.hid (hx1.trans Ef)
  have Hf1 := Lib.hid bf1
  have bz := HFt.out.ext HX1.out; have x0' := bz.x0; have x1' := bz.x1; have g0' := bz.f 0; have g1' := bz.f 1
  have bc := HC.out.ext HX1.out; have v2 := bc.x2
  clear bz bc m0 m1 m2 hx1 Ef bf1 HK Hf
  by_cases hc0 : f0 = 0
  · obtain ⟨hf1, hkinds⟩ := Hz0.out hc0
    have hr1 := Hr.out
    rw [if_neg (by simp [hc0])] at hr1
    have Hr1 := Lib.hid hr1
    have Hkinds := Lib.hid hkinds
    have hcb := nf' hc0
    have Hc0 := Lib.hid hc0; have Hf1z := Lib.hid hf1
    clear hr1 Hr hkinds hc0 hf1 Hz0
    go_wp2_with fail
    generalize w1.alloc (.cells #[.int .i64 f0, .int .i64 f1] 31) = W1 at *
    generalize w1.heap.size = FB at *
    clear q0 q1 x0' x1' g0' g1' v2
    go_loopg [15] n (fun kk sN wr => Ext W1 wr ∧ ∃ i : Nat, sN = .int .i64 (i : Int) ∧ i ≤ n ∧ n - i = kk ∧ (r0, r1) = purF i (ops.drop i))
    case atStart => exact ⟨Ext.refl _, 0, rfl, by omega, by omega, Hr1.out.symm⟩
    case round =>
      obtain ⟨hER, i, rfl, hi, hk, hri⟩ := hrel
      have HER := Lib.hid hER
      have HE2 := Lib.hid (HX1.out.trans hER)
      have bz := HFt.out.ext HE2.out; have x0' := bz.x0; have x1' := bz.x1; have g0' := bz.f 0; have g1' := bz.f 1
      have bc := HC.out.ext HE2.out; have v2 := bc.x2
      have bq := Hf1.out.ext hER; have q0 := bq.x0; have q1 := bq.x1
      have HEz := Lib.hid (HE0.out.trans HE2.out)
      clear hER bz bc bq
      by_cases hin : i = n
      · have h2 : ¬ (i : Int) < (n : Int) := by omega
        have hz : (r0, r1) = ((0 : Int), (0 : Int)) := by rw [hri]; exact purF_end ops i (by rw [Hl.out]; omega)
        have HF0 : Hid (r0 = 0) := congrArg Prod.fst hz
        have HF1 : Hid (r1 = 0) := congrArg Prod.snd hz
        clear hz hri
        go_wp2_with fail
        exact bodyPost_ret (v := .agg #[.int .i64 0, .int .i64 0]) (by simp [results, Tryz.results17, go_sem, x0', x1']) rfl ⟨by rw [HF0.out, HF1.out], put2x HEz.out (by omega) _ _⟩
      · have h2 : (i : Int) < (n : Int) := by omega
        have h0 : (0 : Int) ≤ (i : Int) := by omega
        rcases hab with h | ⟨b, o, rfl⟩
        · omega
        obtain ⟨g, hg⟩ : ∃ g, ops[i]? = some g := ⟨_, List.getElem?_eq_getElem (by rw [Hl.out]; omega)⟩
        obtain ⟨a1, n1, c1, a2, n2, c2, e0, e1, e2, e3, e4, e5, hL⟩ := (HO.out.ext HE2.out).at i g hg
        have hkd := Hkinds.out g (List.mem_of_getElem? hg)
        have hst := purF_step ops i g hg
        rw [← hri, hL.i2.1] at hst
        have Hst := Lib.hid hst
        have Ea := ext_al wr (.cells #[.int .i64 g.kind, .int .i64 g.k, .slice a1 n1 c1, .int .i64 g.q, .int .i64 g.bit, .slice a2 n2 c2] 60)
        have bO := opbx_new wr g.kind g.k a1 n1 c1 g.q g.bit a2 n2 c2
        have HM := Lib.hid (meets_any g.kind g.k a1 n1 c1 g.q g.bit a2 n2 c2 (wr.alloc (.cells #[.int .i64 g.kind, .int .i64 g.k, .slice a1 n1 c1, .int .i64 g.q, .int .i64 g.bit, .slice a2 n2 c2] 60)) hkd.1 hkd.2)
        obtain ⟨kd, kk', ctl, qq, bb, cnd⟩ := g
        simp only at e0 e1 e2 e3 e4 e5 HM bO Ea Hst
        obtain ⟨mt, hmt⟩ : ∃ x, decide (5 ≤ kd) = x := ⟨_, rfl⟩
        rw [hmt] at HM
        have p0 := bO.x0; have p1 := bO.x1; have p2 := bO.x2; have p3 := bO.x3; have p4 := bO.x4; have p5 := bO.x5
        have HO5 := Lib.hid bO
        have HEa := Lib.hid Ea
        clear hst hri hg hL bO Ea hkd
        go_wp2_with fail
        generalize wr.alloc (.cells #[.int .i64 kd, .int .i64 kk', .slice a1 n1 c1, .int .i64 qq, .int .i64 bb, .slice a2 n2 c2] 60) = w5 at *
        refine HM.out.mono ?_
        rintro e w6 ⟨rfl, hx6⟩
        have HE6 := Lib.hid (HEa.out.trans hx6)
        have HE7 := Lib.hid (HE2.out.trans HE6.out)
        have s5 := (HO5.out.ext hx6).x5
        have bz := HFt.out.ext HE7.out; have y0' := bz.x0; have y1' := bz.x1; have j0' := bz.f 0; have j1' := bz.f 1
        have HEy := Lib.hid (HE0.out.trans HE7.out)
        clear p0 p1 p2 p3 p4 p5 e0 e1 e2 e3 e4 e5 v2 x0' x1' g0' g1' bz q0 q1
        cases mt
        · have h5 := of_decide_eq_false hmt
          by_cases hn2 : 0 < n2
          · have hi2 : (0 : Int) < (n2 : Int) := by omega
            have hz : (r0, r1) = ((15 : Int), (i : Int)) := by rw [Hst.out, if_pos (Or.inr hn2)]
            have HF0 : Hid (r0 = 15) := congrArg Prod.fst hz
            have HF1 : Hid (r1 = (i : Int)) := congrArg Prod.snd hz
            clear hz Hst hmt h5
            go_wp2_with fail
            exact bodyPost_ret (v := .agg #[.int .i64 15, .int .i64 (i : Int)]) (by simp [results, Tryz.results17, go_sem, y0', y1']) rfl ⟨by rw [HF0.out, HF1.out], put2x HEy.out (by omega) _ _⟩
          · have hi2 : ¬ (0 : Int) < (n2 : Int) := by omega
            have hz : (r0, r1) = purF (i + 1) (ops.drop (i + 1)) := by rw [Hst.out, if_neg (by omega)]
            have HF := Lib.hid hz
            clear hz Hst hmt h5
            go_wp2_with fail
            go_roundg (n - (i + 1))
            case measure => omega
            case rel => exact ⟨HER.out.trans HE6.out, i + 1, by go_num, by omega, rfl, HF.out⟩
        · have h5 := of_decide_eq_true hmt
          have hz : (r0, r1) = ((15 : Int), (i : Int)) := by rw [Hst.out, if_pos (Or.inl h5)]
          have HF0 : Hid (r0 = 15) := congrArg Prod.fst hz
          have HF1 : Hid (r1 = (i : Int)) := congrArg Prod.snd hz
          clear hz Hst hmt h5
          go_wp2_with fail
          exact bodyPost_ret (v := .agg #[.int .i64 15, .int .i64 (i : Int)]) (by simp [results, Tryz.results17, go_sem, y0', y1']) rfl ⟨by rw [HF0.out, HF1.out], put2x HEy.out (by omega) _ _⟩
  · have hcb := nt hc0
    have hr1 := Hr.out
    rw [if_pos (by exact hc0)] at hr1
    have HF0 : Hid (r0 = f0) := (congrArg Prod.fst hr1).symm
    have HF1 : Hid (r1 = f1) := (congrArg Prod.snd hr1).symm
    have HEz := Lib.hid (HE0.out.trans HX1.out)
    clear hr1 Hr hc0 Hz0
    go_wp2_with fail
    exact bodyPost_ret (v := .agg #[.int .i64 f0, .int .i64 f1]) (by simp [results, Tryz.results17, go_sem, x0', x1']) rfl ⟨by rw [HF0.out, HF1.out], put2x HEz.out (by omega) _ _⟩

end Go.Proofs.YtfjnlopbmkimiaaGreatDoor
namespace Go.Proofs.YtfjnlopbmkimiaaGreatDoor
open Go.RowKit

theorem pigeon : ∀ (k : Nat) (l : List Int), l.Nodup → (∀ c ∈ l, 0 ≤ c ∧ c < (k : Int)) → l.length ≤ k := by
  intro k
  induction k with
  | zero =>
    intro l _ h
    cases l with
    | nil => simp
    | cons a r => have := h a (by simp); omega
  | succ k ih =>
    intro l hn h
    by_cases hm : (k : Int) ∈ l
    · have h1 := ih (l.erase (k : Int)) (hn.erase _) (fun c hc => by
        have hc' := hn.mem_erase_iff.1 hc
        have := h c hc'.2
        have := hc'.1
        omega)
      have h2 := List.length_erase_of_mem hm
      omega
    · have := ih l hn (fun c hc => by
        have h3 := h c hc
        have : c ≠ (k : Int) := fun e => hm (e ▸ hc)
        omega)
      omega

theorem below_iff {n b : Int} : below n b = true ↔ 0 ≤ n ∧ n < b := by simp [below]
theorem ctlCode_zero (q n : Int) : ∀ (l s : List Int), ctlCode q n s l = 0 → (∀ c ∈ l, 0 ≤ c ∧ c < n) ∧ (s.Nodup → (s ++ l).Nodup) := by
  intro l
  induction l with
  | nil => intro s _; exact ⟨by simp, by simp⟩
  | cons c r ih =>
    intro s h
    rw [ctlCode] at h
    split at h
    · omega
    · rename_i hb
      split at h
      · omega
      · rename_i hc
        obtain ⟨h1, h2⟩ := ih _ h
        have hb' : below c n = true := by cases hx : below c n with
          | true => rfl
          | false => exact absurd hx hb
        refine ⟨?_, ?_⟩
        · intro x hx
          rcases List.mem_cons.1 hx with rfl | hx
          · exact below_iff.1 hb'
          · exact h1 x hx
        · intro hs
          have hcs : c ∉ s := fun e => hc (Or.inr e)
          have := h2 (by
            rw [List.nodup_append]
            refine ⟨hs, by simp, ?_⟩
            intro a ha b hb e
            simp at hb
            subst hb; subst e
            exact hcs ha)
          simpa using this

theorem fit_of_code {o : Gop} {n b : Int} (hn : n ≤ 12) (hb0 : 0 ≤ b) (hb : b ≤ 12) (h : opCode o n b = 0) : LvFit o ∧ placesFit o ∧ o.ctl.length ≤ 12 ∧ (∀ c ∈ o.ctl, 0 ≤ c ∧ c < n) := by
  unfold opCode at h
  split at h
  · omega
  rename_i hk
  split at h
  · omega
  split at h
  · omega
  rename_i hq
  split at h
  · omega
  split at h
  · exact absurd h (by assumption)
  rename_i hc
  split at h
  · omega
  rename_i hbit
  split at h
  · omega
  rename_i hcn
  have hc0 : ctlCode o.q n [] o.ctl = 0 := by
    by_cases e : ctlCode o.q n [] o.ctl = 0
    · exact e
    · exact absurd e hc
  obtain ⟨z1, z2⟩ := ctlCode_zero o.q n o.ctl [] hc0
  have z3 : o.ctl.Nodup := by simpa using z2 (by simp)
  have z4 := pigeon 12 o.ctl z3 (fun c hc => by have := z1 c hc; omega)
  have q1 : 0 ≤ o.q ∧ o.q < 12 := by
    unfold fitsB at hq
    split at hq
    · have : below o.q n = true := by simpa using hq
      have := below_iff.1 this; omega
    · have : o.q = 0 := by simpa using hq
      omega
  have b1 : 0 ≤ o.bit ∧ o.bit ≤ 12 ∧ (o.kind = 5 → o.bit < 12) := by
    unfold fitsB at hbit
    split at hbit
    · have : below o.bit b = true := by simpa using hbit
      have := below_iff.1 this; omega
    · have : o.bit = 0 := by simpa using hbit
      omega
  have c1 : o.cnd.length ≤ 24 ∧ ∀ t ∈ o.cnd, t ≠ 0 ∧ -12 ≤ t ∧ t ≤ 12 := by
    have : cndOk b o.cnd = true := by simpa using hcn
    unfold cndOk at this
    simp only [Bool.and_eq_true, decide_eq_true_eq, List.all_eq_true] at this
    refine ⟨this.1, fun t ht => ?_⟩
    have ht' := this.2 t ht
    unfold termOk at ht'
    simp at ht'
    omega
  refine ⟨⟨by omega, ⟨b1.1, b1.2.1⟩, fun t ht => (c1.2 t ht).2, by omega, c1.1, ?_⟩, ⟨fun t ht => by have := z1 t ht; omega, q1.2, b1.1, fun t ht => (c1.2 t ht).1⟩, z4, z1⟩
  intro t ht
  unfold plP at ht
  simp only [List.mem_append] at ht
  rcases ht with ((ht | ht) | ht) | ht
  · have := z1 t ht; omega
  · unfold tchQ at ht
    split at ht
    · simp at ht
    · simp at ht; omega
  · unfold tchB at ht
    split at ht
    · simp at ht; have := b1.2.2 (by assumption); omega
    · simp at ht
  · unfold tchC at ht
    simp only [List.mem_map] at ht
    obtain ⟨u, hu, rfl⟩ := ht
    have := c1.2 u hu
    unfold bitOf
    split <;> omega

end Go.Proofs.YtfjnlopbmkimiaaGreatDoor
namespace Go.Proofs.YtfjnlopbmkimiaaGreatDoor

theorem ctlCode_ne (q n : Int) : ∀ (l s : List Int), ctlCode q n s l = 0 → ∀ c ∈ l, c ≠ q
  | [], _, _ => fun c hc => by simp at hc
  | d :: r, s, h => by
    unfold ctlCode at h
    split at h
    · omega
    split at h
    · omega
    rename_i h1 h2
    intro c hc
    rcases List.mem_cons.1 hc with rfl | hc
    · exact fun e => h2 (Or.inl e)
    · exact ctlCode_ne q n r _ h c hc
/-- What a shot needs of an operation. -/
structure PlFit (o : Gop) (n b : Int) : Prop where
  kd : 1 ≤ o.kind ∧ o.kind ≤ 6
  q : 0 ≤ o.q ∧ o.q < n
  ctl : ∀ c ∈ o.ctl, 0 ≤ c ∧ c < n
  ne : ∀ c ∈ o.ctl, c ≠ o.q
  bit : o.kind = 5 → 0 ≤ o.bit ∧ o.bit < b
  cnd : ∀ t ∈ o.cnd, t ≠ 0 ∧ -b ≤ t ∧ t ≤ b
  few : o.cnd.length ≤ 24
theorem plFit_of_code {o : Gop} {n b : Int} (hn1 : 1 ≤ n) (hn : n ≤ 12) (hb0 : 0 ≤ b) (hb : b ≤ 12) (h : opCode o n b = 0) : PlFit o n b := by
  obtain ⟨f1, _, _, f4⟩ := fit_of_code hn hb0 hb h
  unfold opCode at h
  split at h
  · omega
  split at h
  · omega
  split at h
  · omega
  rename_i hq
  split at h
  · omega
  split at h
  · exact absurd h (by assumption)
  rename_i hc
  split at h
  · omega
  rename_i hbit
  split at h
  · omega
  rename_i hcn
  have hc0 : ctlCode o.q n [] o.ctl = 0 := by
    by_cases e : ctlCode o.q n [] o.ctl = 0
    · exact e
    · exact absurd e hc
  refine ⟨f1.kd, ?_, f4, ctlCode_ne o.q n o.ctl [] hc0, ?_, ?_, f1.few⟩
  · unfold fitsB at hq
    split at hq
    · have : below o.q n = true := by simpa using hq
      have := below_iff.1 this; omega
    · have : o.q = 0 := by simpa using hq
      omega
  · intro h5
    unfold fitsB at hbit
    split at hbit
    · have : below o.bit b = true := by simpa using hbit
      exact below_iff.1 this
    · rename_i hu
      exact absurd (show usesB o.kind = true by unfold usesB; simp [h5]) hu
  · intro t ht
    have : cndOk b o.cnd = true := by simpa using hcn
    unfold cndOk at this
    have h2 := (List.all_eq_true.1 (Bool.and_eq_true_iff.1 this).2) t ht
    unfold termOk at h2
    simp only [Bool.and_eq_true, Bool.not_eq_true', beq_eq_false_iff_ne, decide_eq_true_eq] at h2
    exact ⟨h2.1.1, h2.1.2, h2.2⟩
end Go.Proofs.YtfjnlopbmkimiaaGreatDoor
