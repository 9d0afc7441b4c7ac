/-
  Both sides' errors in one order; the first of which something holds; distances and least errors are the same. Nothing of the program's runs stands here. Letters as a space with a form: whoever is not a product of some can be told from their products by an error; so every syndrome is an error's. Nothing of the program stands here. Least errors and distances: both sides tell the same. The reference's SameInts and SameCircuit, of alike lists and circuits. The laws' own example: three qubits that are alike mend one flip. CodeChecks' walk. CodeDistances' walk.
-/
import Derived.Test.YtfoncakadficlaaDoorProg
import Derived.Test.YtfoncakadficlaaDoorRows
import Derived.BigQuiet
import Derived.Deep.AppendLies
import Derived.Deep.Cut
import Derived.Deep.CutRange
import Derived.Deep.LoopGhost
import Derived.Deep.QuietTactic
import Derived.Deep.RegionHeld3
import Derived.DeepKeys4
import Derived.Laws.Bits64b
import Derived.Laws.CopyOwn
import Derived.Laws.ResultCell
import Derived.Lib.AppendStr
import Derived.Lib.BitFns
import Derived.Lib.Hide
import Derived.Lib.ItoaMem
import Derived.Lib.ItoaNum
import Derived.Lib.Strings
import Derived.LoopIn
import Derived.LoopNIn
import Derived.Maps.AppendAt
import Derived.Maps.OwnSet
import Derived.OwnWalk
import Derived.OwnWalkIn
import Derived.RangeFuncBound
import Derived.RangeFuncBox
import Derived.RangeFuncCalls
import Derived.RangeFuncGives
import Derived.RangeFuncLeaves
import Derived.RangeFuncNested
import Derived.RangeFuncStops
import Derived.Shelf.Abstract
import Derived.Shelf.Bits.Mul64
import Derived.Shelf.RegionOpen
import Derived.Shelf.Small.Strs
import Derived.Shelf.Strings.Builder1
import Derived.Shelf.Strings.BuilderF
import Derived.Shelf.Strings.BuilderK
import Derived.Shelf.Strings.Prefix
import Derived.Shelf.Strings.Search1
import Derived.Sort.MapsRangeIn
import Derived.TacticsInMore
import Derived.WalkKit
import Derived.WalkLawsBesides
import Derived.WalkSpells
import Derived.Test.YtfoncakadficlaaDoorS00Ca
import Derived.Test.YtfoncakadficlaaDoorShelf
import Derived.Test.YtfoncakadficlaaDoorS02Ig
import Derived.Test.YtfoncakadficlaaDoorS03In
import Derived.Test.YtfoncakadficlaaDoorS04Is
import Derived.Test.YtfoncakadficlaaDoorS05It
import Derived.Test.YtfoncakadficlaaDoorS06Ix
import Derived.Test.YtfoncakadficlaaDoorS07Aa
import Derived.Test.YtfoncakadficlaaDoorS08Aj
import Derived.Test.YtfoncakadficlaaDoorS09Al
import Derived.Test.YtfoncakadficlaaDoorS10Am
import Derived.Test.YtfoncakadficlaaDoorS11An
namespace Go.Proofs.YtfoncakadficlaaDoor
open Go.RowKit

/-- A text as a Pauli. -/
def tP (a : List UInt8) : PK := PK.of (nX a) (nZz a)
theorem tP_is {n : Nat} (hn : n ≤ 16) {a : List UInt8} (h : Let n a) : IsT (tP a) a := by
  have h1 := nX_lt a; have h2 := nZz_lt a
  have h3 : 2 ^ a.length ≤ 2 ^ 16 := Nat.pow_le_pow_right (by decide) (by rw [h.1]; exact hn)
  have h4 : (2 : Nat) ^ 16 = 65536 := by decide
  exact ⟨Nat.mod_eq_of_lt (by omega), Nat.mod_eq_of_lt (by omega)⟩
theorem tP_nx {q : Nat} {a : List UInt8} (hq : q < 12) (h : Let q a) (j : Nat) (c : UInt8) (hj : ([88, 89, 90] : List UInt8)[j]? = some c) : nxP (tP a) q j = tP (a ++ [c]) := by
  have hi := tP_is (n := q) (by omega) h
  have hx : nX (a ++ [c]) = nX a + lX j * 2 ^ q := by
    rw [nX_snoc, h.1]
    match j, hj with
    | 0, hj => have : (88 : UInt8) = c := (by simpa using hj); subst this; rfl
    | 1, hj => have : (89 : UInt8) = c := (by simpa using hj); subst this; rfl
    | 2, hj => have : (90 : UInt8) = c := (by simpa using hj); subst this; rfl
    | j + 3, hj => simp at hj
  have hz : nZz (a ++ [c]) = nZz a + lZ j * 2 ^ q := by
    rw [nZz_snoc, h.1]
    match j, hj with
    | 0, hj => have : (88 : UInt8) = c := (by simpa using hj); subst this; rfl
    | 1, hj => have : (89 : UInt8) = c := (by simpa using hj); subst this; rfl
    | 2, hj => have : (90 : UInt8) = c := (by simpa using hj); subst this; rfl
    | j + 3, hj => simp at hj
  unfold nxP
  rw [hi.1, hi.2]
  unfold tP
  rw [hx, hz]
theorem tP_i (a : List UInt8) : tP (a ++ [73]) = tP a := by
  unfold tP
  rw [nX_snoc, nZz_snoc, show lx 73 = false from rfl, show lz 73 = false from rfl]
  simp
theorem let_snoc {q : Nat} {a : List UInt8} (h : Let q a) {c : UInt8} (hc : isL c = true) : Let (q + 1) (a ++ [c]) :=
  ⟨by rw [List.length_append, h.1]; rfl, fun x hx => (List.mem_append.1 hx).elim (h.2 x) fun hx => by
    have : x = c := by simpa using hx
    rw [this]; exact hc⟩
/-- The program's errors are the texts' in the same order. -/
theorem spP_spT : ∀ (k q : Nat) (a : List UInt8) (wt : Nat), q + k ≤ 12 → Let q a → spP k q (tP a) wt = (spT k a wt).map tP
  | 0, q, a, wt, _, _ => rfl
  | k + 1, q, a, wt, hq, h => by
    rw [spP_succ, spT, List.map_append]
    congr 1
    · by_cases hw : wt < k + 1
      · rw [if_pos hw, if_pos hw, ← spP_spT k (q + 1) (a ++ [73]) wt (by omega) (let_snoc h rfl), tP_i a]
      · rw [if_neg hw, if_neg hw]; rfl
    · by_cases hw : wt = 0
      · rw [if_pos hw, if_pos hw]; rfl
      · rw [if_neg hw, if_neg hw]
        have e0 := tP_nx (by omega) h 0 88 rfl
        have e1 := tP_nx (by omega) h 1 89 rfl
        have e2 := tP_nx (by omega) h 2 90 rfl
        have h0 := spP_spT k (q + 1) (a ++ [88]) (wt - 1) (by omega) (let_snoc h rfl)
        have h1 := spP_spT k (q + 1) (a ++ [89]) (wt - 1) (by omega) (let_snoc h rfl)
        have h2 := spP_spT k (q + 1) (a ++ [90]) (wt - 1) (by omega) (let_snoc h rfl)
        simp only [List.range_succ, List.range_zero, List.nil_append, List.flatMap_append, List.flatMap_cons, List.flatMap_nil, List.append_nil, List.map_append]
        rw [e0, e1, e2, h0, h1, h2, List.append_assoc]
theorem errP_errT {n : Nat} (hn : n ≤ 12) : errP n = (errT n).map tP := by
  unfold errP errT
  have h0 : PK.of 0 0 = tP [] := rfl
  rw [List.map_flatMap]
  congr 1
  funext wt
  rw [h0]
  exact spP_spT n 0 [] wt (by omega) ⟨rfl, fun c hc => by cases hc⟩
/-- The first error of which something holds. -/
theorem fstP_bst {n : Nat} (hn : n ≤ 12) (h : PK → Bool) (Q : List UInt8 → Bool) (hQ : ∀ a, Let n a → h (tP a) = Q a) : fstP h n = ((bst wtT Q (erR n)).map tP).getD (PK.of 0 0) := by
  unfold fstP
  rw [errP_errT hn, ← find_errT, List.find?_map]
  have e : (errT n).find? (h ∘ tP) = (errT n).find? Q := by
    have key : ∀ L : List (List UInt8), (∀ a ∈ L, Let n a) → L.find? (h ∘ tP) = L.find? Q := by
      intro L
      induction L with
      | nil => intro _; rfl
      | cons a r ih =>
        intro hL
        rw [List.find?_cons, List.find?_cons, Function.comp_apply, hQ a (hL a (by simp)), ih fun x hx => hL x (by simp [hx])]
    refine key _ fun a ha => ?_
    rw [errT_is] at ha
    obtain ⟨w, _, hw⟩ := List.mem_flatMap.1 ha
    exact (erR_let n a).1 (List.mem_filter.1 hw).1
  rw [e]
/-- A text's weight, by the numbers. -/
theorem bit_or (i j : Bool) (a b : Nat) : ((if i then 1 else 0) + 2 * a) ||| ((if j then 1 else 0) + 2 * b) = (if i || j then 1 else 0) + 2 * (a ||| b) := by
  apply Nat.eq_of_testBit_eq
  intro n
  rw [Nat.testBit_or]
  cases n with
  | zero => cases i <;> cases j <;> simp [Nat.testBit_zero] <;> omega
  | succ n =>
    simp only [Nat.testBit_succ]
    rw [show ((if i = true then 1 else 0) + 2 * a) / 2 = a by split <;> omega, show ((if j = true then 1 else 0) + 2 * b) / 2 = b by split <;> omega, show ((if (i || j) = true then 1 else 0) + 2 * (a ||| b)) / 2 = a ||| b by split <;> omega, Nat.testBit_or]
theorem wt_pc : ∀ a : List UInt8, (∀ c ∈ a, isL c = true) → wtT a = pcF a.length (nX a ||| nZz a)
  | [], _ => rfl
  | c :: r, h => by
    have ih := wt_pc r fun x hx => h x (by simp [hx])
    rw [wtT, nX, nZz, bit_or, List.length_cons, pcF, ih]
    have hc : (if c = 73 then 0 else 1) = if (lx c || lz c) then 1 else 0 := by
      rcases isL_cases (h c (by simp)) with rfl | rfl | rfl | rfl <;> rfl
    rw [hc]
    congr 1
    · split <;> omega
    · congr 1
      split <;> omega
theorem wt_tP {n : Nat} (hn : n ≤ 16) {a : List UInt8} (h : Let n a) : pcF 16 ((tP a).x ||| (tP a).z) = wtT a := by
  have hi := tP_is hn h
  rw [hi.1, hi.2, wt_pc a h.2]
  have hx := nX_lt a; have hz := nZz_lt a
  exact pcF_more a.length _ (Nat.or_lt_two_pow hx hz) 16 (by rw [h.1]; exact hn)
/-- A text as it is written. -/
theorem lt4_is {c : UInt8} (h : isL c = true) : lt4 ((if lx c then 1 else 0) + (if lz c then 1 else 0) * 2) = c := by
  rcases isL_cases h with rfl | rfl | rfl | rfl <;> rfl
theorem nX_bit : ∀ (a : List UInt8) (i : Nat) (c : UInt8), a[i]? = some c → nX a / 2 ^ i % 2 = if lx c then 1 else 0
  | [], i, c, h => by simp at h
  | b :: r, 0, c, h => by
    have : b = c := by simpa using h
    rw [this, nX, Nat.pow_zero, Nat.div_one]
    split <;> omega
  | b :: r, i + 1, c, h => by
    have ih := nX_bit r i c (by simpa using h)
    rw [nX, Nat.pow_succ, Nat.mul_comm (2 ^ i) 2, ← Nat.div_div_eq_div_mul, show ((if lx b = true then 1 else 0) + 2 * nX r) / 2 = nX r by split <;> omega]
    exact ih
theorem nZ_bit : ∀ (a : List UInt8) (i : Nat) (c : UInt8), a[i]? = some c → nZz a / 2 ^ i % 2 = if lz c then 1 else 0
  | [], i, c, h => by simp at h
  | b :: r, 0, c, h => by
    have : b = c := by simpa using h
    rw [this, nZz, Nat.pow_zero, Nat.div_one]
    split <;> omega
  | b :: r, i + 1, c, h => by
    have ih := nZ_bit r i c (by simpa using h)
    rw [nZz, Nat.pow_succ, Nat.mul_comm (2 ^ i) 2, ← Nat.div_div_eq_div_mul, show ((if lz b = true then 1 else 0) + 2 * nZz r) / 2 = nZz r by split <;> omega]
    exact ih
theorem txL_tP {n : Nat} (hn : n ≤ 16) {a : List UInt8} (h : Let n a) : txL (tP a) n = a := by
  have hi := tP_is hn h
  apply List.ext_getElem?
  intro i
  by_cases hl : i < n
  · obtain ⟨c, hc⟩ : ∃ c, a[i]? = some c := ⟨_, List.getElem?_eq_getElem (by rw [h.1]; exact hl)⟩
    unfold txL
    rw [List.getElem?_map, List.getElem?_range hl, hc]
    show some (lt4 (ltK (tP a) i)) = some c
    unfold ltK
    rw [hi.1, hi.2, nX_bit a i c hc, nZ_bit a i c hc, lt4_is (h.2 c (List.mem_of_getElem? hc))]
  · rw [List.getElem?_eq_none (by rw [txL_len]; omega), List.getElem?_eq_none (by rw [h.1]; omega)]
end Go.Proofs.YtfoncakadficlaaDoor
namespace Go.Proofs.YtfoncakadficlaaDoor

/-- Do an odd number of letters not commute? -/
def apB : List UInt8 → List UInt8 → Bool
  | a :: r, b :: s => apL a b ^^ apB r s
  | _, _ => false
theorem apB_ap : ∀ a b : List UInt8, apB a b = decide (apN a b % 2 = 1)
  | [], [] => rfl
  | [], _ :: _ => rfl
  | _ :: _, [] => rfl
  | a :: r, b :: s => by
    rw [apB, apN, apB_ap r s]
    cases apL a b
    · simp
    · rw [if_pos rfl, Bool.true_xor, ← decide_not]
      congr 1
      exact propext ⟨fun h => by omega, fun h => by omega⟩
theorem apB_comm : ∀ a b : List UInt8, apB a b = apB b a
  | [], [] => rfl
  | [], _ :: _ => rfl
  | _ :: _, [] => rfl
  | a :: r, b :: s => by rw [apB, apB, apL_comm, apB_comm r s]
theorem apL_mul {a b c : UInt8} (ha : isL a = true) (hb : isL b = true) (hc : isL c = true) : apL (mulL a b) c = (apL a c ^^ apL b c) := by
  rcases isL_cases ha with rfl | rfl | rfl | rfl <;> rcases isL_cases hb with rfl | rfl | rfl | rfl <;> rcases isL_cases hc with rfl | rfl | rfl | rfl <;> rfl
theorem mulL_back {a b : UInt8} (ha : isL a = true) (hb : isL b = true) : mulL (mulL a b) b = a := by
  rcases isL_cases ha with rfl | rfl | rfl | rfl <;> rcases isL_cases hb with rfl | rfl | rfl | rfl <;> rfl
theorem mulT_back : ∀ (a b : List UInt8), a.length = b.length → (∀ c ∈ a, isL c = true) → (∀ c ∈ b, isL c = true) → mulT (mulT a b) b = a
  | [], [], _, _, _ => rfl
  | [], _ :: _, h, _, _ => by simp at h
  | _ :: _, [], h, _, _ => by simp at h
  | c :: r, d :: s, hl, ha, hb => by
    have e : mulT (c :: r) (d :: s) = mulL c d :: mulT r s := rfl
    have e2 : mulT (mulL c d :: mulT r s) (d :: s) = mulL (mulL c d) d :: mulT (mulT r s) s := rfl
    rw [e, e2, mulL_back (ha c (by simp)) (hb d (by simp)), mulT_back r s (by simpa using hl) (fun x hx => ha x (by simp [hx])) (fun x hx => hb x (by simp [hx]))]
theorem apB_mul : ∀ (a b c : List UInt8), a.length = b.length → a.length = c.length → (∀ x ∈ a, isL x = true) → (∀ x ∈ b, isL x = true) → (∀ x ∈ c, isL x = true) → apB (mulT a b) c = (apB a c ^^ apB b c)
  | [], [], _, _, _, _, _, _ => by simp [mulT, apB]
  | [], _ :: _, _, h, _, _, _, _ => by simp at h
  | _ :: _, [], _, h, _, _, _, _ => by simp at h
  | _ :: _, _ :: _, [], _, h, _, _, _ => by simp at h
  | a :: r, b :: s, c :: t, h1, h2, ha, hb, hc => by
    have e : mulT (a :: r) (b :: s) = mulL a b :: mulT r s := rfl
    rw [e, apB, apB, apB, apL_mul (ha a (by simp)) (hb b (by simp)) (hc c (by simp)), apB_mul r s t (by simpa using h1) (by simpa using h2) (fun x hx => ha x (by simp [hx])) (fun x hx => hb x (by simp [hx])) (fun x hx => hc x (by simp [hx]))]
    cases apL a c <;> cases apL b c <;> cases apB r t <;> cases apB s t <;> rfl
theorem let_mul {n : Nat} {a b : List UInt8} (ha : Let n a) (hb : Let n b) : Let n (mulT a b) := by
  have := mulT_is a b (by rw [ha.1, hb.1]) ha.2 hb.2
  exact ⟨this.1.trans ha.1, this.2.1⟩
theorem let_one (n : Nat) : Let n (oneT n) := ⟨(oneT_is n).1, (oneT_is n).2.1⟩
theorem apB_one : ∀ (n : Nat) (e : List UInt8), apB (oneT n) e = false
  | 0, e => by cases e <;> rfl
  | n + 1, [] => rfl
  | n + 1, c :: r => by
    have e : oneT (n + 1) = 73 :: oneT n := rfl
    rw [e, apB, apB_one n r]
    rfl
/-- What commutes with all is the one that does nothing. -/
theorem nondeg : ∀ (n : Nat) (g : List UInt8), Let n g → (∀ e, Let n e → apB g e = false) → g = oneT n
  | 0, g, h, _ => List.length_eq_zero_iff.1 h.1
  | n + 1, [], h, _ => by have := h.1; simp at this
  | n + 1, c :: r, h, hh => by
    have e : oneT (n + 1) = 73 :: oneT n := rfl
    have hr : Let n r := ⟨by simpa using h.1, fun x hx => h.2 x (by simp [hx])⟩
    have hc : c = 73 := by
      have h1 := hh (88 :: oneT n) ⟨by simp [(oneT_is n).1], fun x hx => by
        rcases List.mem_cons.1 hx with rfl | hx
        · rfl
        · exact (oneT_is n).2.1 x hx⟩
      have h2 := hh (90 :: oneT n) ⟨by simp [(oneT_is n).1], fun x hx => by
        rcases List.mem_cons.1 hx with rfl | hx
        · rfl
        · exact (oneT_is n).2.1 x hx⟩
      rw [apB, apB_comm r, apB_one, Bool.xor_false] at h1 h2
      rcases isL_cases (h.2 c (by simp)) with rfl | rfl | rfl | rfl
      · rfl
      · exact absurd h2 (by decide)
      · exact absurd h1 (by decide)
      · exact absurd h1 (by decide)
    rw [e, hc, nondeg n r hr fun x hx => by
      have := hh (73 :: x) ⟨by simp [hx.1], fun y hy => by
        rcases List.mem_cons.1 hy with rfl | hy
        · rfl
        · exact hx.2 y hy⟩
      rw [apB, show apL c 73 = false by unfold apL; simp, Bool.false_xor] at this
      exact this]
theorem grp_mem_snoc {n : Nat} {gs : List (List UInt8)} {h x : List UInt8} : x ∈ grp n (gs ++ [h]) ↔ x ∈ grp n gs ∨ ∃ p ∈ grp n gs, x = mulT p h := by
  rw [grp_snoc, List.mem_append, List.mem_map]
  constructor
  · rintro (h1 | ⟨p, h1, h2⟩)
    · exact Or.inl h1
    · exact Or.inr ⟨p, h1, h2.symm⟩
  · rintro (h1 | ⟨p, h1, h2⟩)
    · exact Or.inl h1
    · exact Or.inr ⟨p, h1, h2.symm⟩
/-- What no error that commutes with all of some tells from what does nothing is their product. -/
theorem dbl {n : Nat} (gs : List (List UInt8)) : (∀ g ∈ gs, Let n g) → ∀ g, Let n g → (∀ e, Let n e → (∀ h ∈ gs, apB h e = false) → apB g e = false) → g ∈ grp n gs := by
  induction gs using snoc_ind with
  | h0 =>
    intro _ g hg hh
    rw [nondeg n g hg fun e he => hh e he fun h hx => by cases hx]
    exact List.mem_singleton.2 rfl
  | h1 gs h ih =>
    intro hL g hg hh
    have hLs : ∀ x ∈ gs, Let n x := fun x hx => hL x (by simp [hx])
    have hLh : Let n h := hL h (by simp)
    by_cases hA : ∀ e, Let n e → (∀ x ∈ gs, apB x e = false) → apB h e = false
    · refine grp_mem_snoc.2 (Or.inl (ih hLs g hg fun e he hx => hh e he fun x hm => ?_))
      rcases List.mem_append.1 hm with hm | hm
      · exact hx x hm
      · have : x = h := by simpa using hm
        rw [this]; exact hA e he hx
    · have : ∃ e1, Let n e1 ∧ (∀ x ∈ gs, apB x e1 = false) ∧ apB h e1 = true := by
        apply Classical.byContradiction
        intro hn
        refine hA fun e he hx => ?_
        cases hb : apB h e with
        | false => rfl
        | true => exact absurd ⟨e, he, hx, hb⟩ hn
      obtain ⟨e1, hl1, hx1, hh1⟩ := this
      have key : ∀ e, Let n e → (∀ x ∈ gs, apB x e = false) → apB g e = (apB h e && apB g e1) := by
        intro e he hx
        cases hd : apB h e with
        | false =>
          rw [Bool.false_and]
          refine hh e he fun x hm => ?_
          rcases List.mem_append.1 hm with hm | hm
          · exact hx x hm
          · have : x = h := by simpa using hm
            rw [this]; exact hd
        | true =>
          rw [Bool.true_and]
          have hm' : ∀ y, Let n y → apB y (mulT e e1) = (apB y e ^^ apB y e1) := fun y hy => by
            rw [apB_comm, apB_mul e e1 y (by rw [he.1, hl1.1]) (by rw [he.1, hy.1]) he.2 hl1.2 hy.2, apB_comm e, apB_comm e1]
          have h9 := hh (mulT e e1) (let_mul he hl1) fun x hm => by
            rcases List.mem_append.1 hm with hm | hm
            · rw [hm' x (hLs x hm), hx x hm, hx1 x hm]; rfl
            · have : x = h := by simpa using hm
              rw [this, hm' h hLh, hd, hh1]; rfl
          rw [hm' g hg] at h9
          cases h1 : apB g e <;> cases h2 : apB g e1 <;> rw [h1, h2] at h9 <;> first | rfl | exact absurd h9 (by decide)
      cases hc : apB g e1 with
      | false =>
        refine grp_mem_snoc.2 (Or.inl (ih hLs g hg fun e he hx => ?_))
        rw [key e he hx, hc, Bool.and_false]
      | true =>
        refine grp_mem_snoc.2 (Or.inr ⟨mulT g h, ih hLs (mulT g h) (let_mul hg hLh) fun e he hx => ?_, (mulT_back g h (by rw [hg.1, hLh.1]) hg.2 hLh.2).symm⟩)
        rw [apB_mul g h e (by rw [hg.1, hLh.1]) (by rw [hg.1, he.1]) hg.2 hLh.2 he.2, key e he hx, hc, Bool.and_true, Bool.xor_self]
/-- Where none is a product of those ahead of it every syndrome is an error's. -/
theorem surj {n : Nat} (gs : List (List UInt8)) : (∀ g ∈ gs, Let n g) → (∀ (i : Nat) (g : List UInt8), gs[i]? = some g → g ∉ grp n (gs.take i)) → ∀ s : List Bool, s.length = gs.length → ∃ e, Let n e ∧ gs.map (fun g => apB g e) = s := by
  induction gs using snoc_ind with
  | h0 =>
    intro _ _ s hs
    exact ⟨oneT n, let_one n, (List.length_eq_zero_iff.1 hs).symm⟩
  | h1 gs h ih =>
    intro hL hI s hs
    have hLs : ∀ x ∈ gs, Let n x := fun x hx => hL x (by simp [hx])
    have hLh : Let n h := hL h (by simp)
    have hne : s ≠ [] := by rintro rfl; simp at hs
    obtain ⟨s', b, rfl⟩ : ∃ s' b, s = s' ++ [b] := ⟨s.dropLast, s.getLast hne, (List.dropLast_concat_getLast hne).symm⟩
    obtain ⟨e', he', hm'⟩ := ih hLs (fun i g hg => by
      have hi := (List.getElem?_eq_some_iff.1 hg).1
      have h9 := hI i g (by rw [List.getElem?_append_left hi]; exact hg)
      rwa [List.take_append_of_le_length (by omega)] at h9) s' (by simpa using hs)
    by_cases hb : apB h e' = b
    · exact ⟨e', he', by rw [List.map_append, hm', List.map_cons, List.map_nil, hb]⟩
    · have hnot := hI gs.length h (by simp)
      rw [List.take_append_of_le_length (Nat.le_refl _), List.take_length] at hnot
      have : ∃ e0, Let n e0 ∧ (∀ x ∈ gs, apB x e0 = false) ∧ apB h e0 = true := by
        apply Classical.byContradiction
        intro hn
        refine hnot (dbl gs hLs h hLh fun e he hx => ?_)
        cases hb : apB h e with
        | false => rfl
        | true => exact absurd ⟨e, he, hx, hb⟩ hn
      obtain ⟨e0, hl0, hx0, hh0⟩ := this
      have hmul : ∀ y, Let n y → apB y (mulT e' e0) = (apB y e' ^^ apB y e0) := fun y hy => by
        rw [apB_comm, apB_mul e' e0 y (by rw [he'.1, hl0.1]) (by rw [he'.1, hy.1]) he'.2 hl0.2 hy.2, apB_comm e', apB_comm e0]
      refine ⟨mulT e' e0, let_mul he' hl0, ?_⟩
      rw [List.map_append, List.map_cons, List.map_nil, hmul h hLh, hh0, ← hm']
      congr 1
      · refine List.map_congr_left fun x hx => ?_
        rw [hmul x (hLs x hx), hx0 x hx, Bool.xor_false]
      · cases h1 : apB h e' <;> cases b <;> rw [h1] at hb <;> first | rfl | exact absurd rfl hb
end Go.Proofs.YtfoncakadficlaaDoor
namespace Go.Proofs.YtfoncakadficlaaDoor
open Go.RowKit

theorem isP_let43 {n : Nat} {a : List UInt8} (h : Let n a) : isP n (43 :: a) = true := isP_iff.2 ⟨by rw [List.length_cons, h.1], Or.inl rfl, h.2⟩
theorem PK_ext {p q : PK} (h1 : p.x = q.x) (h2 : p.z = q.z) (h3 : p.m = q.m) : p = q := by
  obtain ⟨a, b, c, _, _⟩ := p
  obtain ⟨a', b', c', _, _⟩ := q
  simp only at h1 h2 h3
  subst h1 h2 h3
  rfl
theorem tP_pkO {n : Nat} (hn : n ≤ 12) {a : List UInt8} (h : Let n a) : tP a = pkO n (43 :: a) := by
  have hi := tP_is (n := n) (by omega) h
  obtain ⟨e1, e2, e3⟩ := pkO_is hn (43 :: a)
  have hp := isP_let43 h
  refine PK_ext ?_ ?_ ?_
  · rw [hi.1, e1]; unfold paX; rw [if_pos hp]; rfl
  · rw [hi.2, e2]; unfold paZ; rw [if_pos hp]; rfl
  · rw [e3]; unfold paM; rw [hp]; rfl
theorem syB (gens : List (List UInt8)) (a : List UInt8) : synL gens a = ((barL gens).map fun g => apB g a).map fun b => if b then 1 else 0 := by
  unfold synL barL
  rw [List.map_map, List.map_map]
  refine List.map_congr_left fun T _ => ?_
  simp only [Function.comp_apply, apB_ap, decide_eq_true_eq]
theorem shB {n : Nat} (hn : n ≤ 12) {gens : List (List UInt8)} (hall : ∀ T ∈ gens, isP n T = true) {a : List UInt8} (ha : Let n a) : ((psL n gens).map fun g => !(cmB (tP a) g)) = (barL gens).map fun g => apB g a := by
  apply List.ext_getElem?
  intro i
  by_cases hi : i < gens.length
  · obtain ⟨T, hT⟩ : ∃ T, gens[i]? = some T := ⟨_, List.getElem?_eq_getElem hi⟩
    obtain ⟨g1, g2, g3, g4⟩ := ps_at hn hall hT
    rw [List.getElem?_map, List.getElem?_map, g1, g2]
    show some (!(cmB (tP a) (pkO n T))) = some (apB (T.drop 1) a)
    rw [cm_ap (by omega) ha g3 (tP_is (by omega) ha) g4, apB_ap, apN_comm a]
    congr 1
    by_cases h : apN (T.drop 1) a % 2 = 0
    · rw [decide_eq_true h, decide_eq_false (by omega)]; rfl
    · rw [decide_eq_false h, decide_eq_true (by omega)]; rfl
  · rw [List.getElem?_eq_none (by unfold psL; rw [List.length_map, List.length_map]; omega), List.getElem?_eq_none (by unfold barL; rw [List.length_map, List.length_map]; omega)]
theorem numB_inj : ∀ (a b : List Bool), a.length = b.length → numB a = numB b → a = b
  | [], [], _, _ => rfl
  | [], _ :: _, h, _ => by simp at h
  | _ :: _, [], h, _ => by simp at h
  | x :: r, y :: s, hl, h => by
    rw [numB, numB] at h
    have hx : x = y ∧ numB r = numB s := by
      cases x <;> cases y <;> simp at h ⊢ <;> omega
    rw [hx.1, numB_inj r s (by simpa using hl) hx.2]
theorem rm_ok {s : List Int} {k : Int} (h : (rmF s k).1 = 0) : (s.length : Int) = k ∧ ∀ x ∈ s, x = 0 ∨ x = 1 := by
  unfold rmF at h
  by_cases h1 : (s.length : Int) ≠ k
  · rw [if_pos h1] at h; exact absurd h (by decide)
  rw [if_neg h1] at h
  by_cases h2 : fstI (mkAt s) s.length 0 ≠ -1
  · rw [if_pos h2] at h; exact absurd h (by simp)
  refine ⟨by omega, fun x hx => ?_⟩
  obtain ⟨j, hj⟩ := List.getElem?_of_mem hx
  have hjl := (List.getElem?_eq_some_iff.1 hj).1
  have h2' : fstI (mkAt s) s.length 0 = -1 := Classical.not_not.1 h2
  have h9 := fstI_ne _ _ _ h2' j (Nat.zero_le _) (by omega)
  unfold mkAt at h9
  rw [show s.getD j 0 = x by rw [List.getD_eq_getElem?_getD, hj]; rfl] at h9
  have := of_decide_eq_false h9
  omega
theorem sh_mk {n : Nat} (hn : n ≤ 12) {gens : List (List UInt8)} (hall : ∀ T ∈ gens, isP n T = true) {s : List Int} (hl : s.length = gens.length) (hs : ∀ x ∈ s, x = 0 ∨ x = 1) {a : List UInt8} (ha : Let n a) : (shN (psL n gens) (tP a) == mkN s) = synQ gens s a := by
  unfold shN mkN synQ
  rw [shB hn hall ha, syB gens a]
  have hsb : s = (s.map fun x => x == 1).map fun b => if b then 1 else 0 := by
    rw [List.map_map]
    refine (List.map_id s).symm.trans (List.map_congr_left fun x hx => ?_)
    rcases hs x hx with rfl | rfl <;> rfl
  rw [Bool.eq_iff_iff, beq_iff_eq, decide_eq_true_eq]
  constructor
  · intro h
    have e := numB_inj _ _ (by rw [List.length_map, List.length_map, hl]; unfold barL; rw [List.length_map]) h
    rw [e, ← hsb]
  · intro h
    rw [← h, List.map_map]
    congr 1
    refine (List.map_id _).symm.trans (List.map_congr_left fun b _ => ?_)
    cases b <;> rfl
theorem cc_ind {n : Nat} {gens : List (List UInt8)} (h : (ccF (n : Int) gens).1 = 0) : ∀ (i : Nat) (g : List UInt8), (barL gens)[i]? = some g → g ∉ grp n ((barL gens).take i) := by
  have hd : dcI n (barL gens) = -1 := by
    unfold ccF at h
    rw [Int.toNat_natCast] at h
    split at h
    · exact absurd h (by decide)
    split at h
    · exact absurd h (by decide)
    split at h
    · exact absurd h (by simp)
    split at h
    · exact absurd h (by simp)
    split at h
    · exact absurd h (by simp)
    omega
  intro i g hg hm
  have hi := (List.getElem?_eq_some_iff.1 hg).1
  have h9 := fstI_ne _ _ _ hd i (Nat.zero_le _) (by omega)
  unfold dcAt at h9
  rw [show (barL gens).getD i [] = g by rw [List.getD_eq_getElem?_getD, hg]; rfl] at h9
  exact of_decide_eq_false h9 hm
theorem barL_lenA (gens : List (List UInt8)) : (barL gens).length = gens.length := by unfold barL; rw [List.length_map]
/-- Each syndrome is an error's: the least. -/
theorem bst_syn {n : Nat} {gens : List (List UInt8)} (h : (ccF (n : Int) gens).1 = 0) {s : List Int} (hl : s.length = gens.length) (hs : ∀ x ∈ s, x = 0 ∨ x = 1) : ∃ b, bst wtT (synQ gens s) (erR n) = some b ∧ Let n b ∧ synL gens b = s := by
  obtain ⟨_, _, _, hall⟩ := cc_zero h
  rw [Int.toNat_natCast] at hall
  have hbl := bar_let hall
  obtain ⟨e, he, hm⟩ := surj (barL gens) hbl (cc_ind h) (s.map fun x => x == 1) (by rw [List.length_map, hl, barL_lenA])
  have hq : synQ gens s e = true := by
    unfold synQ
    rw [syB, hm, List.map_map]
    refine decide_eq_true ((List.map_congr_left fun x hx => ?_).trans (List.map_id s))
    rcases hs x hx with rfl | rfl <;> rfl
  have hsp := bst_spec wtT (synQ gens s) (erR n)
  cases hb : bst wtT (synQ gens s) (erR n) with
  | none =>
    rw [hb] at hsp
    rw [hsp e ((erR_let n e).2 he)] at hq
    cases hq
  | some b =>
    rw [hb] at hsp
    exact ⟨b, rfl, (erR_let n b).1 hsp.1, of_decide_eq_true hsp.2.1⟩
theorem de_is {n : Nat} {gens : List (List UInt8)} (h : (ccF (n : Int) gens).1 = 0) {s : List Int} (hl : s.length = gens.length) (hs : ∀ x ∈ s, x = 0 ∨ x = 1) : txL (deP n gens s) n = (bst wtT (synQ gens s) (erR n)).getD [] := by
  obtain ⟨_, h12, _, hall⟩ := cc_zero h
  rw [Int.toNat_natCast] at hall
  obtain ⟨b, hb, hlb, _⟩ := bst_syn h hl hs
  unfold deP
  rw [fstP_bst (n := n) (by omega) _ (synQ gens s) fun a ha => sh_mk (by omega) hall hl hs ha, hb]
  exact txL_tP (by omega) hlb
theorem wt_zero {n : Nat} : ∀ {a : List UInt8}, Let n a → (wtT a = 0 ↔ a = oneT n) := by
  induction n with
  | zero =>
    intro a h
    have : a = [] := List.length_eq_zero_iff.1 h.1
    subst this
    exact ⟨fun _ => rfl, fun _ => rfl⟩
  | succ n ih =>
    intro a h
    cases a with
    | nil => have := h.1; simp at this
    | cons c r =>
      have hr : Let n r := ⟨by simpa using h.1, fun x hx => h.2 x (by simp [hx])⟩
      have e : oneT (n + 1) = 73 :: oneT n := rfl
      rw [wtT, e, List.cons.injEq, ← ih hr]
      by_cases hc : c = 73
      · rw [if_pos hc]; simp [hc]
      · rw [if_neg hc]; simp [hc]
theorem in_grp {n : Nat} {gens : List (List UInt8)} (hall : ∀ T ∈ gens, isP n T = true) {a : List UInt8} (ha : Let n a) : inG (grR n (barL gens)) a = decide (a ∈ grp n (barL gens)) := by
  unfold inG grR
  by_cases h : barL gens = []
  · rw [if_pos h, h]
    show (false || (true && wtT a == 0)) = decide (a ∈ [oneT n])
    rw [Bool.false_or, Bool.true_and, Bool.eq_iff_iff, beq_iff_eq, decide_eq_true_eq, List.mem_singleton]
    exact wt_zero ha
  · rw [if_neg h]
    have hl : (grp n (barL gens)).length ≠ 0 := by
      rw [(grp_is n (barL gens) (bar_let hall)).2.2]
      exact Nat.pos_iff_ne_zero.1 (Nat.pow_pos (by decide))
    rw [beq_eq_false_iff_ne.2 hl, Bool.false_and, Bool.or_false, Bool.eq_iff_iff, List.any_eq_true, decide_eq_true_eq]
    exact ⟨fun ⟨p, h1, h2⟩ => by rw [← beq_iff_eq.1 h2]; exact h1, fun h1 => ⟨a, h1, beq_iff_eq.2 rfl⟩⟩
theorem hid_is {n : Nat} (hn : n ≤ 12) {gens : List (List UInt8)} (hall : ∀ T ∈ gens, isP n T = true) {a : List UInt8} (ha : Let n a) : hidB n gens (tP a) = (quB (synL gens a) && !inG (grR n (barL gens)) a) := by
  unfold hidB
  have h1 : (shN (psL n gens) (tP a) == 0) = quB (synL gens a) := by
    unfold shN
    rw [shB hn hall ha, syB gens a]
    generalize (barL gens).map (fun g => apB g a) = L
    induction L with
    | nil => rfl
    | cons b r ih =>
      unfold quB at ih ⊢
      rw [List.map_cons, List.all_cons, ← ih, numB]
      cases b
      · simp only [Bool.false_eq_true, if_false, Nat.zero_add, beq_self_eq_true, Bool.true_and]
        rw [Bool.eq_iff_iff, beq_iff_eq, beq_iff_eq]
        omega
      · simp
  have h2 : decide (((tP a).x, (tP a).z) ∈ gsL (psL n gens)) = inG (grR n (barL gens)) a := by
    rw [in_grp hall ha]
    have hi := tP_is (n := n) (by omega) ha
    rw [hi.1, hi.2]
    refine decide_eq_decide.2 (grp_gs (by rw [barL_lenA]; unfold psL; rw [List.length_map]) (bar_let hall) (fun i l p h1 h2 => ?_) ha)
    obtain ⟨T, hT⟩ : ∃ T, gens[i]? = some T := ⟨_, List.getElem?_eq_getElem (by have := (List.getElem?_eq_some_iff.1 h1).1; rw [barL_lenA] at this; exact this)⟩
    obtain ⟨g1, g2, g3, g4⟩ := ps_at hn hall hT
    rw [g2] at h1
    rw [g1] at h2
    cases h1; cases h2
    exact g4
  rw [h1, h2]
theorem disF_bst (Q G : List UInt8 → Bool) (L : List (List UInt8)) (h : ∀ e ∈ L, wtT e = 0 → G e = true) : disF Q G L = ((bst wtT (fun e => Q e && !G e) L).map wtT).getD 0 ∧ ∀ b, bst wtT (fun e => Q e && !G e) L = some b → 0 < wtT b := by
  induction L using snoc_ind with
  | h0 => exact ⟨rfl, fun b hb => by cases hb⟩
  | h1 L e ih =>
    obtain ⟨i1, i2⟩ := ih fun x hx => h x (by simp [hx])
    have he := h e (by simp)
    rw [disF_snoc, bst_snoc, i1]
    cases hb : bst wtT (fun e => Q e && !G e) L with
    | none =>
      simp only [Option.map_none, Option.getD_none]
      unfold disB
      by_cases hc : (Q e && !G e) = true
      · have hg : 0 < wtT e := by
          rcases Nat.eq_zero_or_pos (wtT e) with h0 | h0
          · rw [he h0] at hc; simp at hc
          · exact h0
        have hq : Q e = true ∧ G e = false := by simpa using hc
        rw [if_pos hc]
        exact ⟨by simp [hq, hg], fun b h9 => by cases h9; exact hg⟩
      · rw [if_neg hc]
        refine ⟨?_, fun b h9 => by cases h9⟩
        have : (Q e && !G e) = false := by simpa using hc
        simp [Bool.and_assoc, this]
    | some b =>
      have hbp := i2 b hb
      simp only [Option.map_some, Option.getD_some]
      unfold disB
      have hbz : decide (wtT b = 0) = false := decide_eq_false (by omega)
      by_cases hc : ((Q e && !G e) && decide (wtT e < wtT b)) = true
      · have hq : (Q e = true ∧ G e = false) ∧ wtT e < wtT b := by simpa using hc
        have hg : 0 < wtT e := by
          rcases Nat.eq_zero_or_pos (wtT e) with h0 | h0
          · rw [he h0] at hq; simp at hq
          · exact h0
        rw [if_pos hc]
        exact ⟨by simp [hq, hg], fun x h9 => by cases h9; exact hg⟩
      · rw [if_neg hc]
        refine ⟨?_, fun x h9 => by cases h9; exact hbp⟩
        have : ((decide (wtT b = 0) || decide (wtT e < wtT b)) && decide (0 < wtT e) && Q e && !G e) = false := by
          rw [hbz, Bool.false_or]
          have h9 : ((Q e && !G e) && decide (wtT e < wtT b)) = false := by simpa using hc
          cases h1 : Q e <;> cases h2 : G e <;> cases h3 : decide (wtT e < wtT b) <;> simp [h1, h2, h3] at h9 ⊢
        rw [this]
        rfl
theorem di_is {n : Nat} {gens : List (List UInt8)} (h : (ccF (n : Int) gens).1 = 0) : diN n gens = disF (fun e => quB (synL gens e)) (inG (grR n (barL gens))) (erR n) ∧ (∀ b, bst wtT (fun e => quB (synL gens e) && !inG (grR n (barL gens)) e) (erR n) = some b → 0 < wtT b) ∧ diN n gens = ((bst wtT (fun e => quB (synL gens e) && !inG (grR n (barL gens)) e) (erR n)).map wtT).getD 0 := by
  obtain ⟨_, h12, _, hall⟩ := cc_zero h
  rw [Int.toNat_natCast] at hall
  have hz : ∀ e ∈ erR n, wtT e = 0 → inG (grR n (barL gens)) e = true := fun e he h0 => by
    have hl := (erR_let n e).1 he
    rw [in_grp hall hl, (wt_zero hl).1 h0]
    exact decide_eq_true (grp_is n (barL gens) (bar_let hall)).2.1
  obtain ⟨d1, d2⟩ := disF_bst (fun e => quB (synL gens e)) (inG (grR n (barL gens))) (erR n) hz
  have key : diN n gens = ((bst wtT (fun e => quB (synL gens e) && !inG (grR n (barL gens)) e) (erR n)).map wtT).getD 0 := by
    unfold diN
    rw [fstP_bst (n := n) (by omega) (hidB n gens) (fun e => quB (synL gens e) && !inG (grR n (barL gens)) e) fun a ha => hid_is (by omega) hall ha]
    have hsp := bst_spec wtT (fun e => quB (synL gens e) && !inG (grR n (barL gens)) e) (erR n)
    cases hb : bst wtT (fun e => quB (synL gens e) && !inG (grR n (barL gens)) e) (erR n) with
    | none => rfl
    | some b =>
      rw [hb] at hsp
      exact wt_tP (n := n) (by omega) ((erR_let n b).1 hsp.1)
  exact ⟨by rw [key, d1], d2, key⟩
end Go.Proofs.YtfoncakadficlaaDoor
namespace Go.Proofs.YtfoncakadficlaaDoor
open Go.RowKit

set_option maxHeartbeats 1000000 in
theorem sameInts_any (l : List Int) (a1 : Option Addr) (n c1 : Nat) (a2 : Option Addr) (c2 : Nat) (w : World) (h1 : IntsAt w a1 n l) (h2 : IntsAt w a2 n l) (hc1 : n ≤ c1) (hm1 : c1 ≤ 9223372036854775807) :
    Calls Tryd.prog 14 #[.slice a1 n c1, .slice a2 n c2] w fun e w' => e = .returned (.bool true) ∧ Ext w w' := by
  have H1 := Lib.hid h1; have H2 := Lib.hid h2
  clear h1 h2
  go_enter Tryd.func14, Tryd.ntmps14
  go_wp2_with fail
  go_loopg [5] n (fun kk s5 wx => ∃ i : Nat, s5 = .int .i64 (i : Int) ∧ i ≤ n ∧ n - i = kk ∧ Ext w wx)
  case atStart => exact ⟨0, rfl, by omega, by omega, Ext.refl w⟩
  case round =>
    obtain ⟨i, rfl, hi1, hk, hE⟩ := hrel
    have HE := Lib.hid hE
    by_cases hin : i = n
    · have h2 : ¬ (i : Int) < (n : Int) := by omega
      clear hE
      go_wp2_with fail
      go_ret
      exact ⟨rfl, HE.out⟩
    · have h2 : (i : Int) < (n : Int) := by omega
      have h0 : (0 : Int) ≤ (i : Int) := by omega
      obtain ⟨b1, o1, rfl, hb1, hc1'⟩ := (H1.out.ext hE).at (by omega)
      obtain ⟨b2, o2, rfl, hb2, hc2'⟩ := (H2.out.ext hE).at (by omega)
      have e1 := hc1' i (by omega); have e2 := hc2' i (by omega)
      obtain ⟨x, hx⟩ : ∃ x, l.getD i 0 = x := ⟨_, rfl⟩
      rw [hx] at e1 e2
      have HEd := Lib.hid (cdrew hE)
      clear hE hc1' hc2' hx
      go_wp2_with fail
      go_region
      go_wp2_with fail
      go_roundg (n - (i + 1))
      case measure => omega
      case rel => exact ⟨i + 1, by go_num, by omega, rfl, HEd.out⟩

end Go.Proofs.YtfoncakadficlaaDoor
namespace Go.Proofs.YtfoncakadficlaaDoor
open Go.RowKit

/-- The example's generators. -/
def exG : List (List UInt8) := [[43, 90, 90, 73], [43, 73, 90, 90]]
set_option maxRecDepth 100000 in
theorem ex_sy : syF 3 exG [43, 88, 73, 73] = (0, 0) := by decide +kernel
theorem ex_syn : synL exG [88, 73, 73] = [1, 0] := by decide +kernel
set_option maxRecDepth 100000 in
theorem ex_de : deF 3 exG [1, 0] = (0, 0) := by decide +kernel
set_option maxRecDepth 100000 in
theorem ex_tx : 43 :: txL (deP 3 exG [1, 0]) 3 = [43, 88, 73, 73] := by decide +kernel
theorem ex_strs (w : World) : StrsAt (w.alloc (.cells #[.string ⟨#[43, 90, 90, 73]⟩, .string ⟨#[43, 73, 90, 90]⟩] 9)) (some ⟨w.heap.size, 0, none⟩) 2 exG := by
  have hr := heap_alloc_new w (.cells #[.string ⟨#[43, 90, 90, 73]⟩, .string ⟨#[43, 73, 90, 90]⟩] 9)
  refine ⟨rfl, Or.inr ⟨_, 0, rfl, (Array.getElem?_eq_some_iff.1 hr).1, fun t ht => ?_⟩⟩
  rw [cell_of_row _ _ (0 + t) _ _ (0, 0) hr]
  have h : t = 0 ∨ t = 1 := by omega
  rcases h with rfl | rfl <;> rfl
theorem ex_ints (w : World) : IntsAt (w.alloc (.cells #[.int .i64 1, .int .i64 0] 3)) (some ⟨w.heap.size, 0, none⟩) 2 [1, 0] := by
  have hr := heap_alloc_new w (.cells #[.int .i64 1, .int .i64 0] 3)
  refine ⟨rfl, Or.inr ⟨_, 0, rfl, (Array.getElem?_eq_some_iff.1 hr).1, fun t ht => ?_⟩⟩
  rw [cell_of_row _ _ (0 + t) _ _ (0, 0) hr]
  have h : t = 0 ∨ t = 1 := by omega
  rcases h with rfl | rfl <;> rfl

set_option maxRecDepth 100000 in
set_option maxHeartbeats 4000000 in
theorem codeBegun_any (w : World) (hL : LtL w) : Calls Tryd.prog 10 #[] w fun e w' => e = .returned (.bool true) ∧ Ext w w' := by
  obtain ⟨H, hH⟩ : ∃ H, w.heap.size = H := ⟨_, rfl⟩
  obtain ⟨U, hU⟩ : ∃ U, w.alloc (.cells #[.string ⟨#[43, 90, 90, 73]⟩, .string ⟨#[43, 73, 90, 90]⟩] 9) = U := ⟨_, rfl⟩
  obtain ⟨W0, hW0⟩ : ∃ W0, U.alloc (.cells #[.int .i64 3, .slice (some ⟨H, 0, none⟩) 2 2] 24) = W0 := ⟨_, rfl⟩
  have EU : Ext w U := by rw [← hU]; exact ext_al _ _
  have E0 : Ext U W0 := by rw [← hW0]; exact ext_al _ _
  have sU : U.heap.size = H + 1 := by rw [← hU, ← hH]; simp
  have C0 : CoB W0 (H + 1) 3 (some ⟨H, 0, none⟩) 2 2 := by rw [← hW0, ← sU]; exact CoB.new _ _ _ _ _
  have hS : StrsAt W0 (some ⟨H, 0, none⟩) 2 exG := by
    have := (ex_strs w)
    rw [hU, hH] at this
    exact this.ext E0
  have hT : ∀ T ∈ exG, T.length ≤ 9223372036854775807 := by decide
  have HSy := Syndrome_any 3 exG [43, 88, 73, 73] (some ⟨H, 0, none⟩) 2 2 W0 hS hT (by decide) (by decide)
  rw [ex_sy, show ([43, 88, 73, 73] : List UInt8).drop 1 = [88, 73, 73] from rfl, ex_syn] at HSy
  have HDe := Lib.hid (fun (a : Option Addr) (c : Nat) (wx : World) (hx : Ext W0 wx) (hI : IntsAt wx a 2 [1, 0]) => Decode_any 3 exG [1, 0] (some ⟨H, 0, none⟩) 2 2 a 2 c wx (hS.ext hx) hT (by decide) hI (hL.ext ((EU.trans E0).trans hx)))
  rw [ex_de, show (3 : Int).toNat = 3 from rfl, ex_tx] at HDe
  have HSy := Lib.hid HSy; have HE0 := Lib.hid (EU.trans E0); have HC := Lib.hid C0; have HU := Lib.hid hU; have HW0 := Lib.hid hW0; have HH := Lib.hid hH; have HsU := Lib.hid sU
  have v0 := C0.x0; have v1 := C0.x1
  clear hL hU hW0 EU E0 sU C0 hS hT hH
  go_enter Tryd.func10, Tryd.ntmps10
  go_upto_region 2 with fail
  rw [HU.out, HH.out, HW0.out]
  go_wp2_with fail
  refine HSy.out.mono ?_
  rintro e w1 ⟨r, rfl, hx1, hgood, _⟩
  obtain ⟨a, c', rfl, hc1, hc2, hI, _⟩ := hgood (by trivial)
  obtain ⟨W1, hW1⟩ : ∃ W1, w1.alloc (.cells #[.int .i64 0, .int .i64 0] 27) = W1 := ⟨_, rfl⟩
  obtain ⟨K, hK⟩ : ∃ K, w1.heap.size = K := ⟨_, rfl⟩
  have E1 : Ext w1 W1 := by rw [← hW1]; exact ext_al _ _
  have F1 : FtB W1 K 0 0 := ⟨by rw [← hW1, ← hK]; exact heap_alloc_new _ _⟩
  have hE1 : Ext W0 W1 := hx1.trans E1
  have HD1 := Lib.hid (HDe.out a c' W1 hE1 (hI.ext E1))
  have HI1 := Lib.hid (hI.ext E1); have HE1 := Lib.hid hE1; have HF1 := Lib.hid F1; have HW1 := Lib.hid hW1; have HK := Lib.hid hK; have Hc := Lib.hid (And.intro hc1 hc2)
  have u0 := (HC.out.ext hE1).x0; have u1 := (HC.out.ext hE1).x1
  clear hgood hI hx1 hW1 hK E1 F1 hE1 HDe HSy v0 v1 hc1 hc2
  go_upto_region 3 with fail
  rw [HW1.out, HK.out]
  clear HW1 HK
  go_wp2_with fail
  refine HD1.out.mono ?_
  rintro e w2 ⟨rfl, hx2⟩
  obtain ⟨W2, hW2⟩ : ∃ W2, w2.alloc (.cells #[.int .i64 0, .int .i64 0] 27) = W2 := ⟨_, rfl⟩
  obtain ⟨K2, hK2⟩ : ∃ K, w2.heap.size = K := ⟨_, rfl⟩
  have E2 : Ext W1 W2 := by rw [← hW2]; exact hx2.trans (ext_al _ _)
  have F2 : FtB W2 K2 0 0 := ⟨by rw [← hW2, ← hK2]; exact heap_alloc_new _ _⟩
  have HW2 := Lib.hid hW2; have HK2 := Lib.hid hK2; have HE2 := Lib.hid E2
  have m0 := (HF1.out.ext E2).x0; have m1 := F2.x0
  have hI3 := ex_ints W2
  have E3 : Ext W2 (W2.alloc (.cells #[.int .i64 1, .int .i64 0] 3)) := ext_al _ _
  have HSm := Lib.hid (sameInts_any [1, 0] a 2 c' (some ⟨W2.heap.size, 0, none⟩) 2 _ (HI1.out.ext (E2.trans E3)) hI3 Hc.out.1 Hc.out.2)
  have HE3 := Lib.hid (HE0.out.trans (HE1.out.trans (E2.trans E3)))
  clear hx2 hW2 hK2 E2 F2 E3 hI3 u0 u1 HD1
  simp only [if_true]
  go_upto_region 4 with fail
  rw [HW2.out, HK2.out]
  clear HW2 HK2
  go_wp2_with fail
  refine HSm.out.mono ?_
  rintro e w4 ⟨rfl, hx4⟩
  have HE4 := Lib.hid (HE3.out.trans hx4)
  clear hx4 HSm m0 m1
  go_wp2_with fail
  go_ret
  exact ⟨rfl, HE4.out⟩
end Go.Proofs.YtfoncakadficlaaDoor
namespace Go.Proofs.YtfoncakadficlaaDoor
open Go.RowKit

theorem StrsAt.far {w w' : World} {a : Option Addr} {n k : Nat} {l : List (List UInt8)} (h : StrsAt w a n l) (hO : Only k w w') {cs : Array Value} {t : TypeId} (hr : w.heap[k]? = some (.cells cs t (0, 0))) (hc : ∀ (j : Nat) (x : ByteArray), cs[j]? ≠ some (.string x)) : StrsAt w' a n l := by
  refine ⟨h.1, ?_⟩
  rcases h.2 with h0 | ⟨b, o, e, hb, hcs⟩
  · exact Or.inl h0
  · by_cases hn0 : n = 0
    · exact Or.inl hn0
    refine Or.inr ⟨b, o, e, by rw [hO.size]; exact hb, ?_⟩
    have hne : b ≠ k := by
      rintro rfl
      have h9 := hcs 0 (by omega)
      rw [cell_of_row w b _ cs _ (0, 0) hr] at h9
      exact hc _ _ h9
    intro t ht
    exact (World.cell?_of_block (a := ⟨b, o + t, none⟩) (hO.block b hne)).trans (hcs t ht)
theorem noS {u v : Int} : ∀ (j : Nat) (x : ByteArray), (#[.int .i64 u, .int .i64 v] : Array Value)[j]? ≠ some (.string x) := by
  intro j x h
  match j, h with
  | 0, h => simp at h
  | 1, h => simp at h
  | j + 2, h => simp at h
end Go.Proofs.YtfoncakadficlaaDoor
namespace Go.Proofs.YtfoncakadficlaaDoor
open Go.RowKit

theorem infoIC : (Tryd.prog.info? 3).map (fun i => (i.zero, i.size, i.bytes)) = some (some (.int .i64 0), 1, 8) := by kernel_rfl
theorem ints_len (l : List Int) : (iC l).length = l.length := by simp [iC]
/-- A list is copied: append to nil. -/
theorem copy_ints {w : World} {ao : Option Addr} {n cp : Nat} {l : List Int} (h : IntsAt w ao n l) (hb : n * 8 ≤ 140737488355328) (hnil : ao = none → cp = 0) :
    ∃ (a1 : Option Addr) (c1 : Nat) (w1 : World), (Builtin.append_ #[31, 31] 31 #[.slice none 0 0, .slice ao n cp]).run Tryd.prog w = .ok (.slice a1 n c1) w1 ∧ n ≤ c1 ∧ c1 ≤ 9223372036854775807 ∧ IntsAt w1 a1 n l ∧ Ext w w1 := by
  obtain ⟨i0, hi0, hz0, hz1, hz2⟩ := info_parts infoIC
  have hO0 : w.ownsRow w.heap.size 3 1 (.slice none 0 0) 0 [] := ⟨rfl, Or.inl ⟨rfl, rfl⟩⟩
  have hl := h.1
  cases ao with
  | none =>
    have hn0 : n = 0 := by
      rcases h.2 with h0 | ⟨b, o, e, _⟩
      · exact h0
      · cases e
    subst hn0
    have hc0 := hnil rfl
    subst hc0
    exact ⟨none, 0, w, run_append_owned_none w w.heap.size _ _ 3 i0 1 Tryd.underlying31 hi0 (.slice none 0 0) 0 [] hO0, Nat.le_refl _, by decide, ⟨hl, Or.inl rfl⟩, Ext.refl _⟩
  | some ad =>
    have hcell : ∀ j u, (iC l)[j]? = some u → w.cell? (ad.add j) = some u := fun j u hu => by
      have hj := (List.getElem?_eq_some_iff.1 hu).1
      rw [ints_len, hl] at hj
      obtain ⟨b, o, e, _, hc⟩ := h.at (by omega)
      cases e
      have h9 := hc j hj
      have hu2 : u = .int .i64 (l.getD j 0) := by
        have : (iC l)[j]? = some (.int .i64 (l.getD j 0)) := by
          unfold iC
          rw [List.getElem?_map, List.getD_eq_getElem?_getD, List.getElem?_eq_getElem (by rw [hl]; exact hj)]
          rfl
        rw [this] at hu
        exact (Option.some.inj hu).symm
      rw [hu2]
      have ha : (⟨b, o, none⟩ : Addr).add j = ⟨b, o + j, none⟩ := by
        unfold Addr.add
        by_cases h : j = 0 <;> simp [h]
      rw [ha]
      exact h9
    obtain ⟨v', w1, e1, e2, e3, _⟩ := run_append_own (P := Tryd.prog) w w.heap.size 31 31 3 i0 _ 1 8 Tryd.underlying31 hi0 hz0 hz1 hz2 rfl (by decide) (.slice none 0 0) 0 [] hO0 ad n cp (iC l) (by rw [ints_len, hl, Nat.mul_one]) hcell (fun u hu => by
      obtain ⟨x, _, rfl⟩ := List.mem_map.1 hu
      rfl) (by unfold maxLen; omega) (by omega) (Nat.le_refl _)
    rw [Nat.zero_add, List.nil_append] at e2
    obtain ⟨a1, c1, rfl, h1, h2, h3, _⟩ := ints_of_own e2
    exact ⟨a1, c1, w1, e1, h1, Nat.le_trans h2 (by unfold maxLen; decide), h3, (Below.refl _ _).grown e3 (Nat.le_refl _) (fun k h => by cases h)⟩
theorem IntsAt.far2 {u w w' : World} {a : Option Addr} {n k : Nat} {l : List Int} (h : IntsAt u a n l) (hx : Ext u w) (hO : Only k w w') (hk : u.heap.size ≤ k) : IntsAt w' a n l := by
  refine ⟨h.1, ?_⟩
  rcases h.2 with h0 | ⟨b, o, e, hb, hcs⟩
  · exact Or.inl h0
  · refine Or.inr ⟨b, o, e, by rw [hO.size]; exact Nat.lt_of_lt_of_le hb hx.size, ?_⟩
    intro t ht
    exact (World.cell?_of_block (a := ⟨b, o + t, none⟩) (hO.block b (by omega))).trans ((World.cell?_of_block (a := ⟨b, o + t, none⟩) (hx.block b hb)).trans (hcs t ht))

/-- What lies in memory while CodeDistances runs: from world u on, with a fault of the reference's at B7 and one of the program's at B9. -/
structure DsS (u w : World) (N : Int) (gens : List (List UInt8)) (s : List Int) (ao : Option Addr) (k cp : Nat) (a1 : Option Addr) (c1 : Nat) (bo : Option Addr) (n : Nat) (b1 : Option Addr) (H K B7 B9 : Nat) (g0 g1 f0 f1 : Int) : Prop where
  e : ∀ x, Ext x u → Ext x w
  c : CoB w H N ao k cp
  d : CoB w K N a1 k c1
  g : FtB w B7 g0 g1
  f : FtB w B9 f0 f1
  hs : StrsAt w ao k gens
  hs1 : StrsAt w a1 k gens
  hi : IntsAt w bo n s
  hi1 : IntsAt w b1 n s
  lt : LtL w
  o : H < u.heap.size ∧ K < u.heap.size ∧ u.heap.size ≤ B7 ∧ B7 < B9 ∧ (0 : Nat) < u.heap.size
  i0 : IntsAt u bo n s
  i1 : IntsAt u b1 n s
section
variable {u w w' : World} {N : Int} {gens : List (List UInt8)} {s : List Int} {ao : Option Addr} {k cp : Nat} {a1 : Option Addr} {c1 : Nat} {bo : Option Addr} {n : Nat} {b1 : Option Addr} {H K B7 B9 : Nat} {g0 g1 f0 f1 : Int}
theorem DsS.ext (h : DsS u w N gens s ao k cp a1 c1 bo n b1 H K B7 B9 g0 g1 f0 f1) (x : Ext w w') : DsS u w' N gens s ao k cp a1 c1 bo n b1 H K B7 B9 g0 g1 f0 f1 :=
  ⟨fun y hy => (h.e y hy).trans x, h.c.ext x, h.d.ext x, h.g.ext x, h.f.ext x, h.hs.ext x, h.hs1.ext x, h.hi.ext x, h.hi1.ext x, h.lt.ext x, h.o, h.i0, h.i1⟩
theorem DsS.put7 (h : DsS u w N gens s ao k cp a1 c1 bo n b1 H K B7 B9 g0 g1 f0 f1) (x y : Int) : DsS u ((w.setCell ⟨B7, 0, none⟩ (.int .i64 x)).setCell ⟨B7, 1, none⟩ (.int .i64 y)) N gens s ao k cp a1 c1 bo n b1 H K B7 B9 x y f0 f1 := by
  have hO : Only B7 w ((w.setCell ⟨B7, 0, none⟩ (.int .i64 x)).setCell ⟨B7, 1, none⟩ (.int .i64 y)) := ((Only.refl _ _).setCell _ _).setCell _ _
  obtain ⟨o1, o2, o3, o4, o5⟩ := h.o
  have hu := h.e u (Ext.refl u)
  exact ⟨fun z hz => put2x (h.e z hz) (Nat.le_trans hz.size o3) _ _, h.c.far hO (by omega), h.d.far hO (by omega), ⟨row_put (row_put h.g.row rfl) rfl⟩, h.f.farC hO (by omega), h.hs.far hO h.g.row noS, h.hs1.far hO h.g.row noS, h.i0.far2 hu hO o3, h.i1.far2 hu hO o3, h.lt.far hO (by omega), h.o, h.i0, h.i1⟩
theorem DsS.put9 (h : DsS u w N gens s ao k cp a1 c1 bo n b1 H K B7 B9 g0 g1 f0 f1) (x y : Int) : DsS u ((w.setCell ⟨B9, 0, none⟩ (.int .i64 x)).setCell ⟨B9, 1, none⟩ (.int .i64 y)) N gens s ao k cp a1 c1 bo n b1 H K B7 B9 g0 g1 x y := by
  have hO : Only B9 w ((w.setCell ⟨B9, 0, none⟩ (.int .i64 x)).setCell ⟨B9, 1, none⟩ (.int .i64 y)) := ((Only.refl _ _).setCell _ _).setCell _ _
  obtain ⟨o1, o2, o3, o4, o5⟩ := h.o
  have hu := h.e u (Ext.refl u)
  exact ⟨fun z hz => put2x (h.e z hz) (Nat.le_trans hz.size (by omega)) _ _, h.c.far hO (by omega), h.d.far hO (by omega), h.g.farC hO (by omega), ⟨row_put (row_put h.f.row rfl) rfl⟩, h.hs.far hO h.f.row noS, h.hs1.far hO h.f.row noS, h.i0.far2 hu hO (by omega), h.i1.far2 hu hO (by omega), h.lt.far hO (by omega), h.o, h.i0, h.i1⟩
end
end Go.Proofs.YtfoncakadficlaaDoor
