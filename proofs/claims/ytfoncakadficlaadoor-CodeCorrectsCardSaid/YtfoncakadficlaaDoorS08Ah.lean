/-
  Errors in plain lists: all of them in the order of their letters; those of less weight first; the first of least weight. Nothing of the program stands here. The reference: an error's weight; a syndrome of noughts; is an error a product? The reference: lists of ints that are alike; the first error of least weight with a syndrome (DecodeOf). The reference: a code's distance (DistanceOf). Both sides' errors in one order; the first of which something holds; distances and least errors are the same. Nothing of the program's runs stands here. Letters as a space with a form: whoever is not a product of some can be told from their products by an error; so every syndrome is an error's. Nothing of the program stands here. Least errors and distances: both sides tell the same. The reference's SameInts and SameCircuit, of alike lists and circuits. The laws' own example: three qubits that are alike mend one flip. CodeChecks' walk.
-/
import Derived.Test.YtfoncakadficlaaDoorProg
import Derived.Test.YtfoncakadficlaaDoorRows
import Derived.BigQuiet
import Derived.Deep.AppendLies
import Derived.Deep.Cut
import Derived.Deep.CutRange
import Derived.Deep.LoopGhost
import Derived.Deep.QuietTactic
import Derived.Deep.RegionHeld3
import Derived.DeepKeys4
import Derived.Laws.Bits64b
import Derived.Laws.CopyOwn
import Derived.Laws.ResultCell
import Derived.Lib.AppendStr
import Derived.Lib.BitFns
import Derived.Lib.Hide
import Derived.Lib.ItoaMem
import Derived.Lib.ItoaNum
import Derived.Lib.Strings
import Derived.LoopIn
import Derived.LoopNIn
import Derived.Maps.AppendAt
import Derived.Maps.OwnSet
import Derived.OwnWalk
import Derived.OwnWalkIn
import Derived.RangeFuncBound
import Derived.RangeFuncBox
import Derived.RangeFuncCalls
import Derived.RangeFuncGives
import Derived.RangeFuncLeaves
import Derived.RangeFuncNested
import Derived.RangeFuncStops
import Derived.Shelf.Abstract
import Derived.Shelf.Bits.Mul64
import Derived.Shelf.RegionOpen
import Derived.Shelf.Small.Strs
import Derived.Shelf.Strings.Builder1
import Derived.Shelf.Strings.BuilderF
import Derived.Shelf.Strings.BuilderK
import Derived.Shelf.Strings.Prefix
import Derived.Shelf.Strings.Search1
import Derived.Sort.MapsRangeIn
import Derived.TacticsInMore
import Derived.WalkKit
import Derived.WalkLawsBesides
import Derived.WalkSpells
import Derived.Test.YtfoncakadficlaaDoorS00Ca
import Derived.Test.YtfoncakadficlaaDoorShelf
import Derived.Test.YtfoncakadficlaaDoorS02Ig
import Derived.Test.YtfoncakadficlaaDoorS03In
import Derived.Test.YtfoncakadficlaaDoorS04It
import Derived.Test.YtfoncakadficlaaDoorS05Ix
import Derived.Test.YtfoncakadficlaaDoorS06Aa
import Derived.Test.YtfoncakadficlaaDoorS07Aj
namespace Go.Proofs.YtfoncakadficlaaDoor

/-- How many letters are not I. -/
def wtT : List UInt8 → Nat
  | [] => 0
  | b :: r => (if b = 73 then 0 else 1) + wtT r
theorem wtT_le : ∀ l : List UInt8, wtT l ≤ l.length
  | [] => Nat.le_refl _
  | b :: r => by
    have := wtT_le r
    rw [wtT, List.length_cons]
    split <;> omega
theorem wtT_append : ∀ a b : List UInt8, wtT (a ++ b) = wtT a + wtT b
  | [], b => by simp [wtT]
  | c :: r, b => by rw [List.cons_append, wtT, wtT, wtT_append r b]; omega
/-- All errors, letter by letter from the left. -/
def erR : Nat → List (List UInt8)
  | 0 => [[]]
  | n + 1 => (erR n).flatMap fun e => [e ++ [73], e ++ [88], e ++ [89], e ++ [90]]
theorem erR_cons : ∀ n, erR (n + 1) = (erR n).map (73 :: ·) ++ ((erR n).map (88 :: ·) ++ ((erR n).map (89 :: ·) ++ (erR n).map (90 :: ·)))
  | 0 => rfl
  | n + 1 => by
    have h := erR_cons n
    have key : ∀ c : UInt8, ((erR n).map (c :: ·)).flatMap (fun e => [e ++ [73], e ++ [88], e ++ [89], e ++ [90]]) = (erR (n + 1)).map (c :: ·) := by
      intro c
      rw [erR, List.flatMap_map, List.map_flatMap]
      rfl
    rw [erR, h, List.flatMap_append, List.flatMap_append, List.flatMap_append, key, key, key, key, ← h]
theorem erR_let : ∀ (n : Nat) (e : List UInt8), e ∈ erR n ↔ e.length = n ∧ ∀ c ∈ e, isL c = true
  | 0, e => by
    rw [erR, List.mem_singleton]
    constructor
    · rintro rfl; exact ⟨rfl, fun c hc => by cases hc⟩
    · rintro ⟨h, _⟩; exact List.length_eq_zero_iff.1 h
  | n + 1, e => by
    rw [erR_cons]
    simp only [List.mem_append, List.mem_map]
    constructor
    · rintro (⟨a, ha, rfl⟩ | ⟨a, ha, rfl⟩ | ⟨a, ha, rfl⟩ | ⟨a, ha, rfl⟩) <;>
      · obtain ⟨h1, h2⟩ := (erR_let n a).1 ha
        exact ⟨by simp [h1], fun c hc => (List.mem_cons.1 hc).elim (fun e => by rw [e]; rfl) (h2 c)⟩
    · rintro ⟨h1, h2⟩
      cases e with
      | nil => simp at h1
      | cons c r =>
        have hr : r ∈ erR n := (erR_let n r).2 ⟨by simpa using h1, fun x hx => h2 x (by simp [hx])⟩
        rcases isL_cases (h2 c (by simp)) with rfl | rfl | rfl | rfl
        · exact Or.inl ⟨r, hr, rfl⟩
        · exact Or.inr (Or.inl ⟨r, hr, rfl⟩)
        · exact Or.inr (Or.inr (Or.inl ⟨r, hr, rfl⟩))
        · exact Or.inr (Or.inr (Or.inr ⟨r, hr, rfl⟩))
/-- As the program goes through them. -/
def spT : Nat → List UInt8 → Nat → List (List UInt8)
  | 0, a, _ => [a]
  | k + 1, a, wt => (if wt < k + 1 then spT k (a ++ [73]) wt else []) ++ (if wt = 0 then [] else [88, 89, 90].flatMap fun c => spT k (a ++ [c]) (wt - 1))
theorem filter_map_cons (c : UInt8) (l : List (List UInt8)) (p : List UInt8 → Bool) : (l.map (c :: ·)).filter p = (l.filter fun e => p (c :: e)).map (c :: ·) := by
  rw [List.filter_map]; rfl
theorem spT_is : ∀ (k : Nat) (a : List UInt8) (wt : Nat), wt ≤ k → spT k a wt = ((erR k).filter fun e => wtT e == wt).map (a ++ ·)
  | 0, a, wt, h => by
    have : wt = 0 := by omega
    subst this
    simp [spT, erR, wtT]
  | k + 1, a, wt, h => by
    rw [spT, erR_cons, List.filter_append, List.filter_append, List.filter_append, List.map_append, filter_map_cons, filter_map_cons, filter_map_cons, filter_map_cons]
    have h1 : (if wt < k + 1 then spT k (a ++ [73]) wt else []) = (((erR k).filter fun e => wtT (73 :: e) == wt).map (73 :: ·)).map (a ++ ·) := by
      have e0 : ∀ e : List UInt8, (wtT (73 :: e) == wt) = (wtT e == wt) := fun e => by rw [wtT, if_pos rfl, Nat.zero_add]
      simp only [e0]
      by_cases hw : wt < k + 1
      · rw [if_pos hw, spT_is k (a ++ [73]) wt (by omega), List.map_map]
        congr 1
        funext e
        simp
      · rw [if_neg hw]
        have : (erR k).filter (fun e => wtT e == wt) = [] := List.filter_eq_nil_iff.2 fun e he => by
          have hl := ((erR_let k e).1 he).1
          have := wtT_le e
          simp only [beq_iff_eq]
          omega
        rw [this]; rfl
    have h2 : (if wt = 0 then [] else [88, 89, 90].flatMap fun c => spT k (a ++ [c]) (wt - 1)) = (((erR k).filter fun e => wtT (88 :: e) == wt).map (88 :: ·)).map (a ++ ·) ++ ((((erR k).filter fun e => wtT (89 :: e) == wt).map (89 :: ·)).map (a ++ ·) ++ (((erR k).filter fun e => wtT (90 :: e) == wt).map (90 :: ·)).map (a ++ ·)) := by
      by_cases hw : wt = 0
      · rw [if_pos hw]
        have : ∀ c : UInt8, c ≠ 73 → (erR k).filter (fun e => wtT (c :: e) == wt) = [] := fun c hc => List.filter_eq_nil_iff.2 fun e _ => by
          rw [wtT, if_neg hc]
          simp only [beq_iff_eq]
          omega
        rw [this 88 (by decide), this 89 (by decide), this 90 (by decide)]; rfl
      · rw [if_neg hw]
        have : ∀ c : UInt8, c ≠ 73 → spT k (a ++ [c]) (wt - 1) = (((erR k).filter fun e => wtT (c :: e) == wt).map (c :: ·)).map (a ++ ·) := fun c hc => by
          have e0 : ∀ e : List UInt8, (wtT (c :: e) == wt) = (wtT e == wt - 1) := fun e => by
            rw [wtT, if_neg hc, Bool.eq_iff_iff, beq_iff_eq, beq_iff_eq]
            omega
          simp only [e0]
          rw [spT_is k (a ++ [c]) (wt - 1) (by omega), List.map_map]
          congr 1
          funext e
          simp
        simp only [List.flatMap_cons, List.flatMap_nil, List.append_nil]
        rw [this 88 (by decide), this 89 (by decide), this 90 (by decide)]
    rw [h1, h2, List.map_append, List.map_append]
def errT (n : Nat) : List (List UInt8) := (List.range (n + 1)).flatMap (spT n [])
theorem errT_is (n : Nat) : errT n = (List.range (n + 1)).flatMap fun w => (erR n).filter fun e => wtT e == w := by
  unfold errT
  rw [List.flatMap_def, List.flatMap_def]
  congr 1
  refine List.map_congr_left fun w hw => ?_
  rw [spT_is n [] w (by have := List.mem_range.1 hw; omega)]
  simp

theorem snoc_ind {α : Type} {P : List α → Prop} (h0 : P []) (h1 : ∀ L x, P L → P (L ++ [x])) (L : List α) : P L := by
  have key : ∀ n (L : List α), L.length = n → P L := by
    intro n
    induction n with
    | zero => intro L h; rw [List.length_eq_zero_iff.1 h]; exact h0
    | succ n ih =>
      intro L h
      have hne : L ≠ [] := by rintro rfl; simp at h
      rw [← List.dropLast_concat_getLast hne]
      exact h1 _ _ (ih _ (by rw [List.length_dropLast, h]; rfl))
  exact key _ L rfl
/-- The first of least weight of which something holds. -/
def bst {α : Type} (wt : α → Nat) (Q : α → Bool) (L : List α) : Option α :=
  L.foldl (fun b e => match b with | none => if Q e then some e else none | some x => if Q e && decide (wt e < wt x) then some e else some x) none
theorem bst_snoc {α : Type} (wt : α → Nat) (Q : α → Bool) (L : List α) (x : α) : bst wt Q (L ++ [x]) = match bst wt Q L with | none => if Q x then some x else none | some b => if Q x && decide (wt x < wt b) then some x else some b := by
  unfold bst
  rw [List.foldl_append]
  rfl
/-- What the first is. -/
theorem bst_spec {α : Type} (wt : α → Nat) (Q : α → Bool) : ∀ L : List α, match bst wt Q L with | none => ∀ e ∈ L, Q e = false | some b => b ∈ L ∧ Q b = true ∧ ∀ e ∈ L, Q e = true → wt b ≤ wt e := by
  intro L
  induction L using snoc_ind with
  | h0 => intro e he; cases he
  | h1 L x ih =>
    rw [bst_snoc]
    cases h : bst wt Q L with
    | none =>
      rw [h] at ih
      simp only at ih ⊢
      cases hx : Q x
      · simp only [Bool.false_eq_true, if_false]
        intro e he
        rcases List.mem_append.1 he with he | he
        · exact ih e he
        · have : e = x := by simpa using he
          rw [this]; exact hx
      · simp only [if_true]
        refine ⟨by simp, hx, fun e he hq => ?_⟩
        rcases List.mem_append.1 he with he | he
        · rw [ih e he] at hq; cases hq
        · have : e = x := by simpa using he
          rw [this]; exact Nat.le_refl _
    | some b =>
      rw [h] at ih
      simp only at ih ⊢
      obtain ⟨h1, h2, h3⟩ := ih
      by_cases hc : Q x = true ∧ wt x < wt b
      · rw [if_pos (by rw [hc.1, decide_eq_true hc.2]; rfl)]
        refine ⟨by simp, hc.1, fun e he hq => ?_⟩
        rcases List.mem_append.1 he with he | he
        · have := h3 e he hq; omega
        · have : e = x := by simpa using he
          rw [this]; exact Nat.le_refl _
      · rw [if_neg (by rw [Bool.and_eq_true, decide_eq_true_eq]; exact hc)]
        refine ⟨by simp [h1], h2, fun e he hq => ?_⟩
        rcases List.mem_append.1 he with he | he
        · exact h3 e he hq
        · have : e = x := by simpa using he
          subst this
          by_cases hl : wt e < wt b
          · exact absurd ⟨hq, hl⟩ hc
          · omega
/-- Weight by weight. -/
def fsW {α : Type} (g : Nat → Option α) : Nat → Nat → Option α
  | 0, _ => none
  | k + 1, i => match g i with
    | some b => some b
    | none => fsW g k (i + 1)
theorem fsW_none {α : Type} (g : Nat → Option α) : ∀ k i, (∀ j, i ≤ j → j < i + k → g j = none) → fsW g k i = none
  | 0, _, _ => rfl
  | k + 1, i, h => by
    rw [fsW, h i (Nat.le_refl _) (by omega)]
    exact fsW_none g k (i + 1) fun j h1 h2 => h j (by omega) (by omega)
theorem fsW_some {α : Type} (g : Nat → Option α) (b : α) (v : Nat) : ∀ k i, i ≤ v → v < i + k → g v = some b → (∀ j, i ≤ j → j < v → g j = none) → fsW g k i = some b
  | 0, i, h1, h2, _, _ => by omega
  | k + 1, i, h1, h2, hv, h => by
    by_cases e : i = v
    · subst e; rw [fsW, hv]
    · rw [fsW, h i (Nat.le_refl _) (by omega)]
      exact fsW_some g b v k (i + 1) (by omega) (by omega) hv fun j h3 h4 => h j (by omega) h4
theorem find_flat {α : Type} (Q : α → Bool) (f : Nat → List α) : ∀ k i, ((List.range' i k).flatMap f).find? Q = fsW (fun w => (f w).find? Q) k i
  | 0, _ => rfl
  | k + 1, i => by
    rw [List.range'_succ, List.flatMap_cons, List.find?_append, fsW, find_flat Q f k (i + 1)]
    cases (f i).find? Q <;> rfl
theorem find_filter {α : Type} (Q p : α → Bool) (L : List α) : (L.filter p).find? Q = L.find? fun e => p e && Q e := by
  rw [List.find?_filter]
  congr 1
  funext a
  cases p a <;> cases Q a <;> rfl
/-- In order of weight the first is the same. -/
theorem find_bst {α : Type} (wt : α → Nat) (Q : α → Bool) (n : Nat) (L : List α) (hL : ∀ e ∈ L, wt e ≤ n) : ((List.range (n + 1)).flatMap fun w => L.filter fun e => wt e == w).find? Q = bst wt Q L := by
  rw [List.range_eq_range', find_flat]
  simp only [find_filter]
  induction L using snoc_ind with
  | h0 => exact fsW_none _ _ _ fun _ _ _ => rfl
  | h1 L x ih =>
    have ih := ih fun e he => hL e (by simp [he])
    have hsp := bst_spec wt Q L
    rw [bst_snoc]
    have hg : ∀ w, (L ++ [x]).find? (fun e => wt e == w && Q e) = (L.find? (fun e => wt e == w && Q e)).or (if wt x = w ∧ Q x = true then some x else none) := by
      intro w
      rw [List.find?_append]
      congr 1
      rw [List.find?_singleton]
      by_cases h : wt x = w ∧ Q x = true
      · rw [if_pos h, if_pos (by rw [h.2, h.1]; simp)]
      · rw [if_neg h, if_neg (by rw [Bool.and_eq_true, beq_iff_eq]; exact h)]
    have hnone : (∀ e ∈ L, Q e = false) → ∀ w, L.find? (fun e => wt e == w && Q e) = none := fun h w => List.find?_eq_none.2 fun e he => by rw [h e he]; simp
    have hless : ∀ b v, (∀ e ∈ L, Q e = true → wt b ≤ wt e) → v < wt b → L.find? (fun e => wt e == v && Q e) = none := fun b v h hv => List.find?_eq_none.2 fun e he => by
      rw [Bool.and_eq_true, beq_iff_eq]
      rintro ⟨h1, h2⟩
      have := h e he h2
      omega
    cases h : bst wt Q L with
    | none =>
      rw [h] at hsp
      simp only at hsp ⊢
      by_cases hx : Q x = true
      · rw [if_pos hx]
        refine fsW_some _ x (wt x) _ _ (Nat.zero_le _) (by have := hL x (by simp); omega) ?_ fun j _ hj => ?_
        · rw [hg, hnone hsp, if_pos ⟨rfl, hx⟩]; rfl
        · rw [hg, hnone hsp, if_neg (by omega)]; rfl
      · rw [if_neg hx]
        refine fsW_none _ _ _ fun j _ _ => ?_
        rw [hg, hnone hsp, if_neg (fun e => hx e.2)]; rfl
    | some b =>
      rw [h] at hsp ih
      simp only at hsp ⊢
      obtain ⟨h1, h2, h3⟩ := hsp
      have hbn := hL b (by simp [h1])
      by_cases hc : Q x = true ∧ wt x < wt b
      · rw [if_pos (by rw [hc.1, decide_eq_true hc.2]; rfl)]
        refine fsW_some _ x (wt x) _ _ (Nat.zero_le _) (by have := hL x (by simp); omega) ?_ fun j _ hj => ?_
        · rw [hg, hless b _ h3 hc.2, if_pos ⟨rfl, hc.1⟩]; rfl
        · rw [hg, hless b _ h3 (by omega), if_neg (by omega)]; rfl
      · rw [if_neg (by rw [Bool.and_eq_true, decide_eq_true_eq]; exact hc)]
        have hb : L.find? (fun e => wt e == wt b && Q e) = some b := by
          cases hf : L.find? (fun e => wt e == wt b && Q e) with
          | none =>
            have := List.find?_eq_none.1 hf b h1
            rw [h2] at this
            simp at this
          | some b' =>
            have := fsW_some (fun w => L.find? (fun e => wt e == w && Q e)) b' (wt b) (n + 1) 0 (Nat.zero_le _) (by omega) hf (fun j _ hj => hless b j h3 hj)
            rw [this] at ih
            exact ih
        refine fsW_some _ b (wt b) _ _ (Nat.zero_le _) (by omega) ?_ fun j _ hj => ?_
        · rw [hg, hb]; rfl
        · rw [hg, hless b _ h3 hj, if_neg ?_]
          · rfl
          · rintro ⟨e1, e2⟩
            exact hc ⟨e2, by omega⟩
theorem find_errT (n : Nat) (Q : List UInt8 → Bool) : (errT n).find? Q = bst wtT Q (erR n) := by
  rw [errT_is, find_bst wtT Q n (erR n) fun e he => by have h := ((erR_let n e).1 he).1; have := wtT_le e; omega]
end Go.Proofs.YtfoncakadficlaaDoor
namespace Go.Proofs.YtfoncakadficlaaDoor
open Go.RowKit

theorem wtT_take {l : List UInt8} {i : Nat} {x : UInt8} (h : l[i]? = some x) : wtT (l.take (i + 1)) = wtT (l.take i) + (if x = 73 then 0 else 1) := by
  rw [List.take_add_one, h, wtT_append]
  rfl

set_option maxHeartbeats 2000000 in
set_option maxRecDepth 100000 in
theorem rWeight_any (a : List UInt8) (w : World) (hla : a.length ≤ 9223372036854775807) :
    Calls Tryd.prog 21 #[.string ⟨a.toArray⟩] w fun e w' => e = .returned (.int .i64 ((wtT a : Nat) : Int)) ∧ Ext w w' := by
  obtain ⟨n, hn⟩ : ∃ n, a.length = n := ⟨_, rfl⟩
  have Hn := Lib.hid hn; have Hla := Lib.hid hla
  have hsa : (⟨a.toArray⟩ : ByteArray).size = n := by rw [← hn]; simp [ByteArray.size]
  obtain ⟨W, hW⟩ : ∃ W, wtT a = W := ⟨_, rfl⟩
  rw [hW]
  have HW := Lib.hid hW
  clear hn hla hW
  go_enter Tryd.func21, Tryd.ntmps21
  go_wp2_with fail
  go_loopg [3, 4] n (fun k s3 s4 wr => Ext w wr ∧ ∃ i m : Nat, s3 = .int .i64 (m : Int) ∧ s4 = .int .i64 (i : Int) ∧ i ≤ n ∧ n - i = k ∧ wtT (a.take i) = m)
  case atStart => exact ⟨Ext.refl _, 0, 0, rfl, rfl, Nat.zero_le _, rfl, by simp [wtT]⟩
  case round =>
    obtain ⟨hER, i, m, rfl, rfl, hi, hk, hm⟩ := hrel
    have HER := Lib.hid hER; have Hk := Lib.hid hk
    clear hER hk
    by_cases hin : i = n
    · have q1 : ¬ (i : Int) < (n : Int) := by omega
      have e1 : a.take i = a := List.take_of_length_le (by have := Hn.out; omega)
      rw [e1, HW.out] at hm
      subst hm
      clear e1 hin hi
      go_wp2_with fail
      go_ret
      exact ⟨rfl, HER.out⟩
    have hlt : i < n := by omega
    have q1 : (i : Int) < (n : Int) := by omega
    have q0 : (0 : Int) ≤ (i : Int) := by omega
    obtain ⟨x, hx⟩ : ∃ x, a[i]? = some x := ⟨_, List.getElem?_eq_getElem (by have := Hn.out; omega)⟩
    have hsz : i < (⟨a.toArray⟩ : ByteArray).size := str_lt (by have := Hn.out; omega)
    have hg := let_at hx hsz
    have wk : IntKind.i64.wrap ((i : Int) + 1) = ((i + 1 : Nat) : Int) := by rw [IntKind.wrap_i64]; have := Hn.out; have := Hla.out; omega
    have hmb : m ≤ i := by rw [← hm]; exact Nat.le_trans (wtT_le _) (by rw [List.length_take]; omega)
    have wm : IntKind.i64.wrap ((m : Int) + 1) = ((m + 1 : Nat) : Int) := by rw [IntKind.wrap_i64]; have := Hn.out; have := Hla.out; omega
    have Hst := Lib.hid (wtT_take hx)
    rw [hm] at Hst
    have Hlt := Lib.hid hlt
    clear hx hm hmb hin hi hlt
    by_cases c1 : x = 73
    · have t1 : ((x.toNat : Int) != 73) = false := nf' (by rw [c1]; rfl)
      have HA := Lib.hid (show (if x = 73 then 0 else 1) = 0 by rw [if_pos c1])
      clear c1
      go_wp2_with fail
      go_roundg (n - (i + 1))
      case measure => have := Hk.out; have := Hlt.out; omega
      case rel => exact ⟨HER.out, i + 1, m, rfl, rfl, Hlt.out, rfl, by rw [Hst.out, HA.out]; rfl⟩
    have t1 : ((x.toNat : Int) != 73) = true := nt (u8_ne (k := 73) (by decide) c1)
    have HA := Lib.hid (show (if x = 73 then 0 else 1) = 1 by rw [if_neg c1])
    clear c1
    go_wp2_with fail
    go_roundg (n - (i + 1))
    case measure => have := Hk.out; have := Hlt.out; omega
    case rel => exact ⟨HER.out, i + 1, m + 1, rfl, rfl, Hlt.out, rfl, by rw [Hst.out, HA.out]⟩

def quB (l : List Int) : Bool := l.all fun x => x == 0
set_option maxHeartbeats 2000000 in
set_option maxRecDepth 100000 in
theorem quiet_any (l : List Int) (ao : Option Addr) (n c : Nat) (w : World) (hI : IntsAt w ao n l) (hn : n ≤ 9223372036854775806) :
    Calls Tryd.prog 39 #[.slice ao n c] w fun e w' => e = .returned (.bool (quB l)) ∧ Ext w w' := by
  have HI := Lib.hid hI; have Hn := Lib.hid hn; have Hl := Lib.hid (show l.length = n from hI.1)
  obtain ⟨B, hB⟩ : ∃ B, quB l = B := ⟨_, rfl⟩
  rw [hB]
  have HB := Lib.hid hB
  clear hI hn hB
  go_enter Tryd.func39, Tryd.ntmps39
  go_wp2_with fail
  go_loopg [3] n (fun kk s3 wr => Ext w wr ∧ ∃ i : Nat, s3 = .int .i64 (i : Int) ∧ i ≤ n ∧ n - i = kk ∧ quB (l.take i) = true)
  case atStart => exact ⟨Ext.refl _, 0, rfl, Nat.zero_le _, rfl, by simp [quB]⟩
  case round =>
    obtain ⟨hER, i, rfl, hi, hkk, hq⟩ := hrel
    have HER := Lib.hid hER; have Hkk := Lib.hid hkk; have Hq := Lib.hid hq
    by_cases hin : i = n
    · have q1 : ¬ (i : Int) < (n : Int) := by omega
      have e1 : l.take i = l := List.take_of_length_le (by have := Hl.out; omega)
      have HBt := Lib.hid (show B = true by rw [← HB.out, ← e1]; exact hq)
      clear e1 hin hi hER hkk hq
      go_wp2_with fail
      go_ret
      exact ⟨congrArg (fun b => Ending.returned (Value.bool b)) HBt.out.symm, HER.out⟩
    have hlt : i < n := by omega
    have q1 : (i : Int) < (n : Int) := by omega
    have q0 : (0 : Int) ≤ (i : Int) := by omega
    have wk : IntKind.i64.wrap ((i : Int) + 1) = ((i + 1 : Nat) : Int) := by rw [IntKind.wrap_i64]; have := Hn.out; omega
    obtain ⟨x, hx⟩ : ∃ x, l[i]? = some x := ⟨_, List.getElem?_eq_getElem (by have := Hl.out; omega)⟩
    obtain ⟨b, o, rfl, _, hcs⟩ := (HI.out.ext hER).at (by omega)
    have c0 := hcs i hlt
    have hgd : l.getD i 0 = x := by rw [List.getD_eq_getElem?_getD, hx]; rfl
    rw [hgd] at c0
    have Hlt := Lib.hid hlt; have Hx := Lib.hid hx
    clear hER hkk hq hi hin hlt hcs hgd hx
    by_cases h0 : x = 0
    · have t1 := nf' h0
      have Hst := Lib.hid (show quB (l.take (i + 1)) = true by
        have h9 := Hq.out
        unfold quB at h9 ⊢
        rw [List.take_add_one, Hx.out, List.all_append, h9, h0]; rfl)
      clear h0
      go_wp2_with fail
      go_roundg (n - (i + 1))
      case measure => have := Hkk.out; have := Hlt.out; omega
      case rel => exact ⟨HER.out, i + 1, rfl, Hlt.out, rfl, Hst.out⟩
    · have t1 := nt h0
      have HBf := Lib.hid (show B = false by
        rw [← HB.out]
        unfold quB
        rw [Bool.eq_false_iff, ne_eq, List.all_eq_true]
        intro h9
        have := h9 x (List.mem_of_getElem? Hx.out)
        exact h0 (by simpa using this))
      clear h0
      go_wp2_with fail
      go_ret
      exact ⟨congrArg (fun b => Ending.returned (Value.bool b)) HBf.out.symm, HER.out⟩

/-- Is it a product? -/
def inG (G : List (List UInt8)) (e : List UInt8) : Bool := G.any (fun p => p == e) || (G.length == 0 && wtT e == 0)
set_option maxHeartbeats 4000000 in
set_option maxRecDepth 100000 in
theorem InGroup_any (G : List (List UInt8)) (e : List UInt8) (ao : Option Addr) (n c : Nat) (w : World) (hG : StrsAt w ao n G) (hn : n ≤ 9223372036854775806) (he : e.length ≤ 9223372036854775807) :
    Calls Tryd.prog 40 #[.slice ao n c, .string ⟨e.toArray⟩] w fun r w' => r = .returned (.bool (inG G e)) ∧ Ext w w' := by
  have HG := Lib.hid hG; have Hn := Lib.hid hn; have Hl := Lib.hid (show G.length = n from hG.1)
  have HWt := Lib.hid (fun wx => rWeight_any e wx he)
  obtain ⟨wt, hwt⟩ : ∃ wt, wtT e = wt := ⟨_, rfl⟩
  rw [hwt] at HWt
  obtain ⟨B, hB⟩ : ∃ B, inG G e = B := ⟨_, rfl⟩
  rw [hB]
  unfold inG at hB
  rw [hwt] at hB
  have HB := Lib.hid hB
  clear hG hn hB hwt he
  go_enter Tryd.func40, Tryd.ntmps40
  go_wp2_with fail
  go_loopg [5] n (fun kk s5 wr => Ext w wr ∧ ∃ i : Nat, s5 = .int .i64 (i : Int) ∧ i ≤ n ∧ n - i = kk ∧ (G.take i).any (fun p => p == e) = false)
  case atStart => exact ⟨Ext.refl _, 0, rfl, Nat.zero_le _, rfl, by simp⟩
  case round =>
    obtain ⟨hER, i, rfl, hi, hkk, hq⟩ := hrel
    have HER := Lib.hid hER; have Hkk := Lib.hid hkk; have Hq := Lib.hid hq
    by_cases hin : i = n
    · have q1 : ¬ (i : Int) < (n : Int) := by omega
      have e1 : G.take i = G := List.take_of_length_le (by have := Hl.out; omega)
      have HB2 := Lib.hid (show (G.length == 0 && wt == 0) = B by rw [← HB.out, ← e1, hq, e1]; rfl)
      subst hin
      clear e1 hi hER hkk hq
      by_cases hz : i = 0
      · have t0 : ((i : Int) == 0) = true := by rw [hz]; rfl
        have t0' := bt' (show (i : Int) = 0 by omega)
        have HB3 := Lib.hid (show (wt == 0) = B by rw [← HB2.out, Hl.out, hz]; rfl)
        clear hz
        go_wp2_with fail
        refine (HWt.out _).mono ?_
        rintro r w2 ⟨rfl, hx2⟩
        have H2 := Lib.hid hx2
        clear hx2 HWt
        have hb : ((wt : Int) == 0) = B := by
          rw [← HB3.out]
          by_cases h : wt = 0
          · rw [h]; rfl
          · rw [beq_eq_false_iff_ne.2 h]; exact bf (by omega)
        go_wp2_with fail
        go_ret
        exact ⟨rfl, HER.out.trans H2.out⟩
      · have t0 := bf (show ¬ (i : Int) = 0 by omega)
        have HB3 := Lib.hid (show B = false by rw [← HB2.out, Hl.out, beq_eq_false_iff_ne.2 hz]; rfl)
        clear hz
        go_wp2_with fail
        go_ret
        exact ⟨congrArg (fun b => Ending.returned (Value.bool b)) HB3.out.symm, HER.out⟩
    have hlt : i < n := by omega
    have q1 : (i : Int) < (n : Int) := by omega
    have q0 : (0 : Int) ≤ (i : Int) := by omega
    have wk : IntKind.i64.wrap ((i : Int) + 1) = ((i + 1 : Nat) : Int) := by rw [IntKind.wrap_i64]; have := Hn.out; omega
    obtain ⟨x, hx⟩ : ∃ x, G[i]? = some x := ⟨_, List.getElem?_eq_getElem (by have := Hl.out; omega)⟩
    obtain ⟨b, o, rfl, _, hcs⟩ := (HG.out.ext hER).at (by omega)
    have c0 := hcs i hlt
    have hgd : G.getD i [] = x := by rw [List.getD_eq_getElem?_getD, hx]; rfl
    rw [hgd] at c0
    have Hlt := Lib.hid hlt; have Hx := Lib.hid hx
    clear hER hkk hq hi hin hlt hcs hgd hx
    cases hxe : (x == e)
    · have Hst := Lib.hid (show (G.take (i + 1)).any (fun p => p == e) = false by rw [List.take_add_one, Hx.out, List.any_append, Hq.out]; simp [hxe])
      go_wp2_with fail
      go_roundg (n - (i + 1))
      case measure => have := Hkk.out; have := Hlt.out; omega
      case rel => exact ⟨HER.out, i + 1, rfl, Hlt.out, rfl, Hst.out⟩
    · have HBt := Lib.hid (show B = true by rw [← HB.out, List.any_eq_true.2 ⟨x, List.mem_of_getElem? Hx.out, hxe⟩]; rfl)
      go_wp2_with fail
      go_ret
      exact ⟨congrArg (fun b => Ending.returned (Value.bool b)) HBt.out.symm, HER.out⟩
end Go.Proofs.YtfoncakadficlaaDoor
namespace Go.Proofs.YtfoncakadficlaaDoor
open Go.RowKit

set_option maxHeartbeats 4000000 in
set_option maxRecDepth 100000 in
theorem sameInts_dec (l1 l2 : List Int) (a1 : Option Addr) (n1 c1 : Nat) (a2 : Option Addr) (n2 c2 : Nat) (w : World) (h1 : IntsAt w a1 n1 l1) (h2 : IntsAt w a2 n2 l2) (hn : n1 ≤ 9223372036854775806) :
    Calls Tryd.prog 14 #[.slice a1 n1 c1, .slice a2 n2 c2] w fun e w' => e = .returned (.bool (decide (l1 = l2))) ∧ Ext w w' := by
  have H1 := Lib.hid h1; have H2 := Lib.hid h2; have Hn := Lib.hid hn; have Hl := Lib.hid (And.intro h1.1 h2.1)
  obtain ⟨B, hB⟩ : ∃ B, decide (l1 = l2) = B := ⟨_, rfl⟩
  rw [hB]
  have HB := Lib.hid hB
  clear h1 h2 hn hB
  go_enter Tryd.func14, Tryd.ntmps14
  by_cases hne : n1 = n2
  rotate_left 1
  · have hcb := nt (show ¬ (n1 : Int) = (n2 : Int) by omega)
    have HBf := Lib.hid (show B = false by rw [← HB.out]; exact decide_eq_false (fun e => hne (by have := Hl.out; rw [← this.1, ← this.2, e])))
    clear hne
    go_wp2_with fail
    go_ret
    exact ⟨congrArg (fun b => Ending.returned (Value.bool b)) HBf.out.symm, Ext.refl _⟩
  subst hne
  have hcb := nf' (show (n1 : Int) = (n1 : Int) from rfl)
  go_wp2_with fail
  go_loopg [5] n1 (fun kk s5 wr => Ext w wr ∧ ∃ i : Nat, s5 = .int .i64 (i : Int) ∧ i ≤ n1 ∧ n1 - i = kk ∧ l1.take i = l2.take i)
  case atStart => exact ⟨Ext.refl _, 0, rfl, Nat.zero_le _, rfl, rfl⟩
  case round =>
    obtain ⟨hER, i, rfl, hi, hkk, hq⟩ := hrel
    have HER := Lib.hid hER; have Hkk := Lib.hid hkk; have Hq := Lib.hid hq
    by_cases hin : i = n1
    · have q1 : ¬ (i : Int) < (n1 : Int) := by omega
      have HBt := Lib.hid (show B = true by
        rw [← HB.out]
        refine decide_eq_true ?_
        have e1 : l1.take i = l1 := List.take_of_length_le (by have := Hl.out; omega)
        have e2 : l2.take i = l2 := List.take_of_length_le (by have := Hl.out; omega)
        rw [← e1, ← e2]; exact hq)
      clear hin hi hER hkk hq
      go_wp2_with fail
      go_ret
      exact ⟨congrArg (fun b => Ending.returned (Value.bool b)) HBt.out.symm, HER.out⟩
    have hlt : i < n1 := by omega
    have q1 : (i : Int) < (n1 : Int) := by omega
    have q0 : (0 : Int) ≤ (i : Int) := by omega
    have wk : IntKind.i64.wrap ((i : Int) + 1) = ((i + 1 : Nat) : Int) := by rw [IntKind.wrap_i64]; have := Hn.out; omega
    obtain ⟨x, hx⟩ : ∃ x, l1[i]? = some x := ⟨_, List.getElem?_eq_getElem (by have := Hl.out; omega)⟩
    obtain ⟨y, hy⟩ : ∃ y, l2[i]? = some y := ⟨_, List.getElem?_eq_getElem (by have := Hl.out; omega)⟩
    obtain ⟨b1, o1, rfl, _, hcs⟩ := (H1.out.ext hER).at (by omega)
    obtain ⟨b2, o2, rfl, _, hcs2⟩ := (H2.out.ext hER).at (by omega)
    have c0 := hcs i hlt
    have d0 := hcs2 i hlt
    rw [show l1.getD i 0 = x by rw [List.getD_eq_getElem?_getD, hx]; rfl] at c0
    rw [show l2.getD i 0 = y by rw [List.getD_eq_getElem?_getD, hy]; rfl] at d0
    have Hlt := Lib.hid hlt; have Hx := Lib.hid hx; have Hy := Lib.hid hy
    clear hER hkk hq hi hin hlt hcs hcs2 hx hy hcb
    by_cases h0 : x = y
    · have t1 := nf' h0
      have Hst := Lib.hid (show l1.take (i + 1) = l2.take (i + 1) by rw [List.take_add_one, List.take_add_one, Hx.out, Hy.out, Hq.out, h0])
      clear h0
      go_upto_region 6 with fail
      go_region
      go_wp2_with fail
      go_roundg (n1 - (i + 1))
      case measure => have := Hkk.out; have := Hlt.out; omega
      case rel => exact ⟨HER.out.trans (Below.drew (Ext.refl _)), i + 1, rfl, Hlt.out, rfl, Hst.out⟩
    · have t1 := nt h0
      have HBf := Lib.hid (show B = false by
        rw [← HB.out]
        refine decide_eq_false (fun e => h0 ?_)
        have h9 := Hx.out
        rw [e, Hy.out] at h9
        exact (Option.some.inj h9).symm)
      clear h0
      go_upto_region 6 with fail
      go_region
      go_wp2_with fail
      go_ret
      exact ⟨congrArg (fun b => Ending.returned (Value.bool b)) HBf.out.symm, HER.out.trans (Below.drew (Ext.refl _))⟩

/-- Has the error that syndrome? -/
def synQ (gens : List (List UInt8)) (s : List Int) (e : List UInt8) : Bool := decide (synL gens e = s)
end Go.Proofs.YtfoncakadficlaaDoor
namespace Go.Proofs.YtfoncakadficlaaDoor
open Go.RowKit

/-- Is this weight less than the best so far, and the error's (does it show nowhere, is it a product)? -/
def disB (best we : Nat) (qe ge : Bool) : Bool := (decide (best = 0) || decide (we < best)) && decide (0 < we) && qe && !ge
/-- The least weight so far. -/
def disF (Q G : List UInt8 → Bool) (L : List (List UInt8)) : Nat := L.foldl (fun b e => if disB b (wtT e) (Q e) (G e) then wtT e else b) 0
theorem disF_snoc (Q G : List UInt8 → Bool) (L : List (List UInt8)) (e : List UInt8) : disF Q G (L ++ [e]) = if disB (disF Q G L) (wtT e) (Q e) (G e) then wtT e else disF Q G L := by
  unfold disF
  rw [List.foldl_append]
  rfl
theorem bar_let {n : Nat} {gens : List (List UInt8)} (hall : ∀ T ∈ gens, isP n T = true) : ∀ T ∈ barL gens, Let n T := fun T hT => by
  obtain ⟨G, hG, rfl⟩ := List.mem_map.1 hT
  exact (isP_let (hall G hG)).2
end Go.Proofs.YtfoncakadficlaaDoor
namespace Go.Proofs.YtfoncakadficlaaDoor
open Go.RowKit

/-- A text as a Pauli. -/
def tP (a : List UInt8) : PK := PK.of (nX a) (nZz a)
theorem tP_is {n : Nat} (hn : n ≤ 16) {a : List UInt8} (h : Let n a) : IsT (tP a) a := by
  have h1 := nX_lt a; have h2 := nZz_lt a
  have h3 : 2 ^ a.length ≤ 2 ^ 16 := Nat.pow_le_pow_right (by decide) (by rw [h.1]; exact hn)
  have h4 : (2 : Nat) ^ 16 = 65536 := by decide
  exact ⟨Nat.mod_eq_of_lt (by omega), Nat.mod_eq_of_lt (by omega)⟩
theorem tP_nx {q : Nat} {a : List UInt8} (hq : q < 12) (h : Let q a) (j : Nat) (c : UInt8) (hj : ([88, 89, 90] : List UInt8)[j]? = some c) : nxP (tP a) q j = tP (a ++ [c]) := by
  have hi := tP_is (n := q) (by omega) h
  have hx : nX (a ++ [c]) = nX a + lX j * 2 ^ q := by
    rw [nX_snoc, h.1]
    match j, hj with
    | 0, hj => have : (88 : UInt8) = c := (by simpa using hj); subst this; rfl
    | 1, hj => have : (89 : UInt8) = c := (by simpa using hj); subst this; rfl
    | 2, hj => have : (90 : UInt8) = c := (by simpa using hj); subst this; rfl
    | j + 3, hj => simp at hj
  have hz : nZz (a ++ [c]) = nZz a + lZ j * 2 ^ q := by
    rw [nZz_snoc, h.1]
    match j, hj with
    | 0, hj => have : (88 : UInt8) = c := (by simpa using hj); subst this; rfl
    | 1, hj => have : (89 : UInt8) = c := (by simpa using hj); subst this; rfl
    | 2, hj => have : (90 : UInt8) = c := (by simpa using hj); subst this; rfl
    | j + 3, hj => simp at hj
  unfold nxP
  rw [hi.1, hi.2]
  unfold tP
  rw [hx, hz]
theorem tP_i (a : List UInt8) : tP (a ++ [73]) = tP a := by
  unfold tP
  rw [nX_snoc, nZz_snoc, show lx 73 = false from rfl, show lz 73 = false from rfl]
  simp
theorem let_snoc {q : Nat} {a : List UInt8} (h : Let q a) {c : UInt8} (hc : isL c = true) : Let (q + 1) (a ++ [c]) :=
  ⟨by rw [List.length_append, h.1]; rfl, fun x hx => (List.mem_append.1 hx).elim (h.2 x) fun hx => by
    have : x = c := by simpa using hx
    rw [this]; exact hc⟩
/-- The program's errors are the texts' in the same order. -/
theorem spP_spT : ∀ (k q : Nat) (a : List UInt8) (wt : Nat), q + k ≤ 12 → Let q a → spP k q (tP a) wt = (spT k a wt).map tP
  | 0, q, a, wt, _, _ => rfl
  | k + 1, q, a, wt, hq, h => by
    rw [spP_succ, spT, List.map_append]
    congr 1
    · by_cases hw : wt < k + 1
      · rw [if_pos hw, if_pos hw, ← spP_spT k (q + 1) (a ++ [73]) wt (by omega) (let_snoc h rfl), tP_i a]
      · rw [if_neg hw, if_neg hw]; rfl
    · by_cases hw : wt = 0
      · rw [if_pos hw, if_pos hw]; rfl
      · rw [if_neg hw, if_neg hw]
        have e0 := tP_nx (by omega) h 0 88 rfl
        have e1 := tP_nx (by omega) h 1 89 rfl
        have e2 := tP_nx (by omega) h 2 90 rfl
        have h0 := spP_spT k (q + 1) (a ++ [88]) (wt - 1) (by omega) (let_snoc h rfl)
        have h1 := spP_spT k (q + 1) (a ++ [89]) (wt - 1) (by omega) (let_snoc h rfl)
        have h2 := spP_spT k (q + 1) (a ++ [90]) (wt - 1) (by omega) (let_snoc h rfl)
        simp only [List.range_succ, List.range_zero, List.nil_append, List.flatMap_append, List.flatMap_cons, List.flatMap_nil, List.append_nil, List.map_append]
        rw [e0, e1, e2, h0, h1, h2, List.append_assoc]
theorem errP_errT {n : Nat} (hn : n ≤ 12) : errP n = (errT n).map tP := by
  unfold errP errT
  have h0 : PK.of 0 0 = tP [] := rfl
  rw [List.map_flatMap]
  congr 1
  funext wt
  rw [h0]
  exact spP_spT n 0 [] wt (by omega) ⟨rfl, fun c hc => by cases hc⟩
/-- The first error of which something holds. -/
theorem fstP_bst {n : Nat} (hn : n ≤ 12) (h : PK → Bool) (Q : List UInt8 → Bool) (hQ : ∀ a, Let n a → h (tP a) = Q a) : fstP h n = ((bst wtT Q (erR n)).map tP).getD (PK.of 0 0) := by
  unfold fstP
  rw [errP_errT hn, ← find_errT, List.find?_map]
  have e : (errT n).find? (h ∘ tP) = (errT n).find? Q := by
    have key : ∀ L : List (List UInt8), (∀ a ∈ L, Let n a) → L.find? (h ∘ tP) = L.find? Q := by
      intro L
      induction L with
      | nil => intro _; rfl
      | cons a r ih =>
        intro hL
        rw [List.find?_cons, List.find?_cons, Function.comp_apply, hQ a (hL a (by simp)), ih fun x hx => hL x (by simp [hx])]
    refine key _ fun a ha => ?_
    rw [errT_is] at ha
    obtain ⟨w, _, hw⟩ := List.mem_flatMap.1 ha
    exact (erR_let n a).1 (List.mem_filter.1 hw).1
  rw [e]
/-- A text's weight, by the numbers. -/
theorem bit_or (i j : Bool) (a b : Nat) : ((if i then 1 else 0) + 2 * a) ||| ((if j then 1 else 0) + 2 * b) = (if i || j then 1 else 0) + 2 * (a ||| b) := by
  apply Nat.eq_of_testBit_eq
  intro n
  rw [Nat.testBit_or]
  cases n with
  | zero => cases i <;> cases j <;> simp [Nat.testBit_zero] <;> omega
  | succ n =>
    simp only [Nat.testBit_succ]
    rw [show ((if i = true then 1 else 0) + 2 * a) / 2 = a by split <;> omega, show ((if j = true then 1 else 0) + 2 * b) / 2 = b by split <;> omega, show ((if (i || j) = true then 1 else 0) + 2 * (a ||| b)) / 2 = a ||| b by split <;> omega, Nat.testBit_or]
theorem wt_pc : ∀ a : List UInt8, (∀ c ∈ a, isL c = true) → wtT a = pcF a.length (nX a ||| nZz a)
  | [], _ => rfl
  | c :: r, h => by
    have ih := wt_pc r fun x hx => h x (by simp [hx])
    rw [wtT, nX, nZz, bit_or, List.length_cons, pcF, ih]
    have hc : (if c = 73 then 0 else 1) = if (lx c || lz c) then 1 else 0 := by
      rcases isL_cases (h c (by simp)) with rfl | rfl | rfl | rfl <;> rfl
    rw [hc]
    congr 1
    · split <;> omega
    · congr 1
      split <;> omega
theorem wt_tP {n : Nat} (hn : n ≤ 16) {a : List UInt8} (h : Let n a) : pcF 16 ((tP a).x ||| (tP a).z) = wtT a := by
  have hi := tP_is hn h
  rw [hi.1, hi.2, wt_pc a h.2]
  have hx := nX_lt a; have hz := nZz_lt a
  exact pcF_more a.length _ (Nat.or_lt_two_pow hx hz) 16 (by rw [h.1]; exact hn)
/-- A text as it is written. -/
theorem lt4_is {c : UInt8} (h : isL c = true) : lt4 ((if lx c then 1 else 0) + (if lz c then 1 else 0) * 2) = c := by
  rcases isL_cases h with rfl | rfl | rfl | rfl <;> rfl
theorem nX_bit : ∀ (a : List UInt8) (i : Nat) (c : UInt8), a[i]? = some c → nX a / 2 ^ i % 2 = if lx c then 1 else 0
  | [], i, c, h => by simp at h
  | b :: r, 0, c, h => by
    have : b = c := by simpa using h
    rw [this, nX, Nat.pow_zero, Nat.div_one]
    split <;> omega
  | b :: r, i + 1, c, h => by
    have ih := nX_bit r i c (by simpa using h)
    rw [nX, Nat.pow_succ, Nat.mul_comm (2 ^ i) 2, ← Nat.div_div_eq_div_mul, show ((if lx b = true then 1 else 0) + 2 * nX r) / 2 = nX r by split <;> omega]
    exact ih
theorem nZ_bit : ∀ (a : List UInt8) (i : Nat) (c : UInt8), a[i]? = some c → nZz a / 2 ^ i % 2 = if lz c then 1 else 0
  | [], i, c, h => by simp at h
  | b :: r, 0, c, h => by
    have : b = c := by simpa using h
    rw [this, nZz, Nat.pow_zero, Nat.div_one]
    split <;> omega
  | b :: r, i + 1, c, h => by
    have ih := nZ_bit r i c (by simpa using h)
    rw [nZz, Nat.pow_succ, Nat.mul_comm (2 ^ i) 2, ← Nat.div_div_eq_div_mul, show ((if lz b = true then 1 else 0) + 2 * nZz r) / 2 = nZz r by split <;> omega]
    exact ih
theorem txL_tP {n : Nat} (hn : n ≤ 16) {a : List UInt8} (h : Let n a) : txL (tP a) n = a := by
  have hi := tP_is hn h
  apply List.ext_getElem?
  intro i
  by_cases hl : i < n
  · obtain ⟨c, hc⟩ : ∃ c, a[i]? = some c := ⟨_, List.getElem?_eq_getElem (by rw [h.1]; exact hl)⟩
    unfold txL
    rw [List.getElem?_map, List.getElem?_range hl, hc]
    show some (lt4 (ltK (tP a) i)) = some c
    unfold ltK
    rw [hi.1, hi.2, nX_bit a i c hc, nZ_bit a i c hc, lt4_is (h.2 c (List.mem_of_getElem? hc))]
  · rw [List.getElem?_eq_none (by rw [txL_len]; omega), List.getElem?_eq_none (by rw [h.1]; omega)]
end Go.Proofs.YtfoncakadficlaaDoor
namespace Go.Proofs.YtfoncakadficlaaDoor

/-- Do an odd number of letters not commute? -/
def apB : List UInt8 → List UInt8 → Bool
  | a :: r, b :: s => apL a b ^^ apB r s
  | _, _ => false
theorem apB_ap : ∀ a b : List UInt8, apB a b = decide (apN a b % 2 = 1)
  | [], [] => rfl
  | [], _ :: _ => rfl
  | _ :: _, [] => rfl
  | a :: r, b :: s => by
    rw [apB, apN, apB_ap r s]
    cases apL a b
    · simp
    · rw [if_pos rfl, Bool.true_xor, ← decide_not]
      congr 1
      exact propext ⟨fun h => by omega, fun h => by omega⟩
theorem apB_comm : ∀ a b : List UInt8, apB a b = apB b a
  | [], [] => rfl
  | [], _ :: _ => rfl
  | _ :: _, [] => rfl
  | a :: r, b :: s => by rw [apB, apB, apL_comm, apB_comm r s]
theorem apL_mul {a b c : UInt8} (ha : isL a = true) (hb : isL b = true) (hc : isL c = true) : apL (mulL a b) c = (apL a c ^^ apL b c) := by
  rcases isL_cases ha with rfl | rfl | rfl | rfl <;> rcases isL_cases hb with rfl | rfl | rfl | rfl <;> rcases isL_cases hc with rfl | rfl | rfl | rfl <;> rfl
theorem mulL_back {a b : UInt8} (ha : isL a = true) (hb : isL b = true) : mulL (mulL a b) b = a := by
  rcases isL_cases ha with rfl | rfl | rfl | rfl <;> rcases isL_cases hb with rfl | rfl | rfl | rfl <;> rfl
theorem mulT_back : ∀ (a b : List UInt8), a.length = b.length → (∀ c ∈ a, isL c = true) → (∀ c ∈ b, isL c = true) → mulT (mulT a b) b = a
  | [], [], _, _, _ => rfl
  | [], _ :: _, h, _, _ => by simp at h
  | _ :: _, [], h, _, _ => by simp at h
  | c :: r, d :: s, hl, ha, hb => by
    have e : mulT (c :: r) (d :: s) = mulL c d :: mulT r s := rfl
    have e2 : mulT (mulL c d :: mulT r s) (d :: s) = mulL (mulL c d) d :: mulT (mulT r s) s := rfl
    rw [e, e2, mulL_back (ha c (by simp)) (hb d (by simp)), mulT_back r s (by simpa using hl) (fun x hx => ha x (by simp [hx])) (fun x hx => hb x (by simp [hx]))]
theorem apB_mul : ∀ (a b c : List UInt8), a.length = b.length → a.length = c.length → (∀ x ∈ a, isL x = true) → (∀ x ∈ b, isL x = true) → (∀ x ∈ c, isL x = true) → apB (mulT a b) c = (apB a c ^^ apB b c)
  | [], [], _, _, _, _, _, _ => by simp [mulT, apB]
  | [], _ :: _, _, h, _, _, _, _ => by simp at h
  | _ :: _, [], _, h, _, _, _, _ => by simp at h
  | _ :: _, _ :: _, [], _, h, _, _, _ => by simp at h
  | a :: r, b :: s, c :: t, h1, h2, ha, hb, hc => by
    have e : mulT (a :: r) (b :: s) = mulL a b :: mulT r s := rfl
    rw [e, apB, apB, apB, apL_mul (ha a (by simp)) (hb b (by simp)) (hc c (by simp)), apB_mul r s t (by simpa using h1) (by simpa using h2) (fun x hx => ha x (by simp [hx])) (fun x hx => hb x (by simp [hx])) (fun x hx => hc x (by simp [hx]))]
    cases apL a c <;> cases apL b c <;> cases apB r t <;> cases apB s t <;> rfl
theorem let_mul {n : Nat} {a b : List UInt8} (ha : Let n a) (hb : Let n b) : Let n (mulT a b) := by
  have := mulT_is a b (by rw [ha.1, hb.1]) ha.2 hb.2
  exact ⟨this.1.trans ha.1, this.2.1⟩
theorem let_one (n : Nat) : Let n (oneT n) := ⟨(oneT_is n).1, (oneT_is n).2.1⟩
theorem apB_one : ∀ (n : Nat) (e : List UInt8), apB (oneT n) e = false
  | 0, e => by cases e <;> rfl
  | n + 1, [] => rfl
  | n + 1, c :: r => by
    have e : oneT (n + 1) = 73 :: oneT n := rfl
    rw [e, apB, apB_one n r]
    rfl
/-- What commutes with all is the one that does nothing. -/
theorem nondeg : ∀ (n : Nat) (g : List UInt8), Let n g → (∀ e, Let n e → apB g e = false) → g = oneT n
  | 0, g, h, _ => List.length_eq_zero_iff.1 h.1
  | n + 1, [], h, _ => by have := h.1; simp at this
  | n + 1, c :: r, h, hh => by
    have e : oneT (n + 1) = 73 :: oneT n := rfl
    have hr : Let n r := ⟨by simpa using h.1, fun x hx => h.2 x (by simp [hx])⟩
    have hc : c = 73 := by
      have h1 := hh (88 :: oneT n) ⟨by simp [(oneT_is n).1], fun x hx => by
        rcases List.mem_cons.1 hx with rfl | hx
        · rfl
        · exact (oneT_is n).2.1 x hx⟩
      have h2 := hh (90 :: oneT n) ⟨by simp [(oneT_is n).1], fun x hx => by
        rcases List.mem_cons.1 hx with rfl | hx
        · rfl
        · exact (oneT_is n).2.1 x hx⟩
      rw [apB, apB_comm r, apB_one, Bool.xor_false] at h1 h2
      rcases isL_cases (h.2 c (by simp)) with rfl | rfl | rfl | rfl
      · rfl
      · exact absurd h2 (by decide)
      · exact absurd h1 (by decide)
      · exact absurd h1 (by decide)
    rw [e, hc, nondeg n r hr fun x hx => by
      have := hh (73 :: x) ⟨by simp [hx.1], fun y hy => by
        rcases List.mem_cons.1 hy with rfl | hy
        · rfl
        · exact hx.2 y hy⟩
      rw [apB, show apL c 73 = false by unfold apL; simp, Bool.false_xor] at this
      exact this]
theorem grp_mem_snoc {n : Nat} {gs : List (List UInt8)} {h x : List UInt8} : x ∈ grp n (gs ++ [h]) ↔ x ∈ grp n gs ∨ ∃ p ∈ grp n gs, x = mulT p h := by
  rw [grp_snoc, List.mem_append, List.mem_map]
  constructor
  · rintro (h1 | ⟨p, h1, h2⟩)
    · exact Or.inl h1
    · exact Or.inr ⟨p, h1, h2.symm⟩
  · rintro (h1 | ⟨p, h1, h2⟩)
    · exact Or.inl h1
    · exact Or.inr ⟨p, h1, h2.symm⟩
/-- What no error that commutes with all of some tells from what does nothing is their product. -/
theorem dbl {n : Nat} (gs : List (List UInt8)) : (∀ g ∈ gs, Let n g) → ∀ g, Let n g → (∀ e, Let n e → (∀ h ∈ gs, apB h e = false) → apB g e = false) → g ∈ grp n gs := by
  induction gs using snoc_ind with
  | h0 =>
    intro _ g hg hh
    rw [nondeg n g hg fun e he => hh e he fun h hx => by cases hx]
    exact List.mem_singleton.2 rfl
  | h1 gs h ih =>
    intro hL g hg hh
    have hLs : ∀ x ∈ gs, Let n x := fun x hx => hL x (by simp [hx])
    have hLh : Let n h := hL h (by simp)
    by_cases hA : ∀ e, Let n e → (∀ x ∈ gs, apB x e = false) → apB h e = false
    · refine grp_mem_snoc.2 (Or.inl (ih hLs g hg fun e he hx => hh e he fun x hm => ?_))
      rcases List.mem_append.1 hm with hm | hm
      · exact hx x hm
      · have : x = h := by simpa using hm
        rw [this]; exact hA e he hx
    · have : ∃ e1, Let n e1 ∧ (∀ x ∈ gs, apB x e1 = false) ∧ apB h e1 = true := by
        apply Classical.byContradiction
        intro hn
        refine hA fun e he hx => ?_
        cases hb : apB h e with
        | false => rfl
        | true => exact absurd ⟨e, he, hx, hb⟩ hn
      obtain ⟨e1, hl1, hx1, hh1⟩ := this
      have key : ∀ e, Let n e → (∀ x ∈ gs, apB x e = false) → apB g e = (apB h e && apB g e1) := by
        intro e he hx
        cases hd : apB h e with
        | false =>
          rw [Bool.false_and]
          refine hh e he fun x hm => ?_
          rcases List.mem_append.1 hm with hm | hm
          · exact hx x hm
          · have : x = h := by simpa using hm
            rw [this]; exact hd
        | true =>
          rw [Bool.true_and]
          have hm' : ∀ y, Let n y → apB y (mulT e e1) = (apB y e ^^ apB y e1) := fun y hy => by
            rw [apB_comm, apB_mul e e1 y (by rw [he.1, hl1.1]) (by rw [he.1, hy.1]) he.2 hl1.2 hy.2, apB_comm e, apB_comm e1]
          have h9 := hh (mulT e e1) (let_mul he hl1) fun x hm => by
            rcases List.mem_append.1 hm with hm | hm
            · rw [hm' x (hLs x hm), hx x hm, hx1 x hm]; rfl
            · have : x = h := by simpa using hm
              rw [this, hm' h hLh, hd, hh1]; rfl
          rw [hm' g hg] at h9
          cases h1 : apB g e <;> cases h2 : apB g e1 <;> rw [h1, h2] at h9 <;> first | rfl | exact absurd h9 (by decide)
      cases hc : apB g e1 with
      | false =>
        refine grp_mem_snoc.2 (Or.inl (ih hLs g hg fun e he hx => ?_))
        rw [key e he hx, hc, Bool.and_false]
      | true =>
        refine grp_mem_snoc.2 (Or.inr ⟨mulT g h, ih hLs (mulT g h) (let_mul hg hLh) fun e he hx => ?_, (mulT_back g h (by rw [hg.1, hLh.1]) hg.2 hLh.2).symm⟩)
        rw [apB_mul g h e (by rw [hg.1, hLh.1]) (by rw [hg.1, he.1]) hg.2 hLh.2 he.2, key e he hx, hc, Bool.and_true, Bool.xor_self]
/-- Where none is a product of those ahead of it every syndrome is an error's. -/
theorem surj {n : Nat} (gs : List (List UInt8)) : (∀ g ∈ gs, Let n g) → (∀ (i : Nat) (g : List UInt8), gs[i]? = some g → g ∉ grp n (gs.take i)) → ∀ s : List Bool, s.length = gs.length → ∃ e, Let n e ∧ gs.map (fun g => apB g e) = s := by
  induction gs using snoc_ind with
  | h0 =>
    intro _ _ s hs
    exact ⟨oneT n, let_one n, (List.length_eq_zero_iff.1 hs).symm⟩
  | h1 gs h ih =>
    intro hL hI s hs
    have hLs : ∀ x ∈ gs, Let n x := fun x hx => hL x (by simp [hx])
    have hLh : Let n h := hL h (by simp)
    have hne : s ≠ [] := by rintro rfl; simp at hs
    obtain ⟨s', b, rfl⟩ : ∃ s' b, s = s' ++ [b] := ⟨s.dropLast, s.getLast hne, (List.dropLast_concat_getLast hne).symm⟩
    obtain ⟨e', he', hm'⟩ := ih hLs (fun i g hg => by
      have hi := (List.getElem?_eq_some_iff.1 hg).1
      have h9 := hI i g (by rw [List.getElem?_append_left hi]; exact hg)
      rwa [List.take_append_of_le_length (by omega)] at h9) s' (by simpa using hs)
    by_cases hb : apB h e' = b
    · exact ⟨e', he', by rw [List.map_append, hm', List.map_cons, List.map_nil, hb]⟩
    · have hnot := hI gs.length h (by simp)
      rw [List.take_append_of_le_length (Nat.le_refl _), List.take_length] at hnot
      have : ∃ e0, Let n e0 ∧ (∀ x ∈ gs, apB x e0 = false) ∧ apB h e0 = true := by
        apply Classical.byContradiction
        intro hn
        refine hnot (dbl gs hLs h hLh fun e he hx => ?_)
        cases hb : apB h e with
        | false => rfl
        | true => exact absurd ⟨e, he, hx, hb⟩ hn
      obtain ⟨e0, hl0, hx0, hh0⟩ := this
      have hmul : ∀ y, Let n y → apB y (mulT e' e0) = (apB y e' ^^ apB y e0) := fun y hy => by
        rw [apB_comm, apB_mul e' e0 y (by rw [he'.1, hl0.1]) (by rw [he'.1, hy.1]) he'.2 hl0.2 hy.2, apB_comm e', apB_comm e0]
      refine ⟨mulT e' e0, let_mul he' hl0, ?_⟩
      rw [List.map_append, List.map_cons, List.map_nil, hmul h hLh, hh0, ← hm']
      congr 1
      · refine List.map_congr_left fun x hx => ?_
        rw [hmul x (hLs x hx), hx0 x hx, Bool.xor_false]
      · cases h1 : apB h e' <;> cases b <;> rw [h1] at hb <;> first | rfl | exact absurd rfl hb
end Go.Proofs.YtfoncakadficlaaDoor
namespace Go.Proofs.YtfoncakadficlaaDoor
open Go.RowKit

theorem isP_let43 {n : Nat} {a : List UInt8} (h : Let n a) : isP n (43 :: a) = true := isP_iff.2 ⟨by rw [List.length_cons, h.1], Or.inl rfl, h.2⟩
theorem PK_ext {p q : PK} (h1 : p.x = q.x) (h2 : p.z = q.z) (h3 : p.m = q.m) : p = q := by
  obtain ⟨a, b, c, _, _⟩ := p
  obtain ⟨a', b', c', _, _⟩ := q
  simp only at h1 h2 h3
  subst h1 h2 h3
  rfl
theorem tP_pkO {n : Nat} (hn : n ≤ 12) {a : List UInt8} (h : Let n a) : tP a = pkO n (43 :: a) := by
  have hi := tP_is (n := n) (by omega) h
  obtain ⟨e1, e2, e3⟩ := pkO_is hn (43 :: a)
  have hp := isP_let43 h
  refine PK_ext ?_ ?_ ?_
  · rw [hi.1, e1]; unfold paX; rw [if_pos hp]; rfl
  · rw [hi.2, e2]; unfold paZ; rw [if_pos hp]; rfl
  · rw [e3]; unfold paM; rw [hp]; rfl
theorem syB (gens : List (List UInt8)) (a : List UInt8) : synL gens a = ((barL gens).map fun g => apB g a).map fun b => if b then 1 else 0 := by
  unfold synL barL
  rw [List.map_map, List.map_map]
  refine List.map_congr_left fun T _ => ?_
  simp only [Function.comp_apply, apB_ap, decide_eq_true_eq]
theorem shB {n : Nat} (hn : n ≤ 12) {gens : List (List UInt8)} (hall : ∀ T ∈ gens, isP n T = true) {a : List UInt8} (ha : Let n a) : ((psL n gens).map fun g => !(cmB (tP a) g)) = (barL gens).map fun g => apB g a := by
  apply List.ext_getElem?
  intro i
  by_cases hi : i < gens.length
  · obtain ⟨T, hT⟩ : ∃ T, gens[i]? = some T := ⟨_, List.getElem?_eq_getElem hi⟩
    obtain ⟨g1, g2, g3, g4⟩ := ps_at hn hall hT
    rw [List.getElem?_map, List.getElem?_map, g1, g2]
    show some (!(cmB (tP a) (pkO n T))) = some (apB (T.drop 1) a)
    rw [cm_ap (by omega) ha g3 (tP_is (by omega) ha) g4, apB_ap, apN_comm a]
    congr 1
    by_cases h : apN (T.drop 1) a % 2 = 0
    · rw [decide_eq_true h, decide_eq_false (by omega)]; rfl
    · rw [decide_eq_false h, decide_eq_true (by omega)]; rfl
  · rw [List.getElem?_eq_none (by unfold psL; rw [List.length_map, List.length_map]; omega), List.getElem?_eq_none (by unfold barL; rw [List.length_map, List.length_map]; omega)]
theorem numB_inj : ∀ (a b : List Bool), a.length = b.length → numB a = numB b → a = b
  | [], [], _, _ => rfl
  | [], _ :: _, h, _ => by simp at h
  | _ :: _, [], h, _ => by simp at h
  | x :: r, y :: s, hl, h => by
    rw [numB, numB] at h
    have hx : x = y ∧ numB r = numB s := by
      cases x <;> cases y <;> simp at h ⊢ <;> omega
    rw [hx.1, numB_inj r s (by simpa using hl) hx.2]
theorem sh_mk {n : Nat} (hn : n ≤ 12) {gens : List (List UInt8)} (hall : ∀ T ∈ gens, isP n T = true) {s : List Int} (hl : s.length = gens.length) (hs : ∀ x ∈ s, x = 0 ∨ x = 1) {a : List UInt8} (ha : Let n a) : (shN (psL n gens) (tP a) == mkN s) = synQ gens s a := by
  unfold shN mkN synQ
  rw [shB hn hall ha, syB gens a]
  have hsb : s = (s.map fun x => x == 1).map fun b => if b then 1 else 0 := by
    rw [List.map_map]
    refine (List.map_id s).symm.trans (List.map_congr_left fun x hx => ?_)
    rcases hs x hx with rfl | rfl <;> rfl
  rw [Bool.eq_iff_iff, beq_iff_eq, decide_eq_true_eq]
  constructor
  · intro h
    have e := numB_inj _ _ (by rw [List.length_map, List.length_map, hl]; unfold barL; rw [List.length_map]) h
    rw [e, ← hsb]
  · intro h
    rw [← h, List.map_map]
    congr 1
    refine (List.map_id _).symm.trans (List.map_congr_left fun b _ => ?_)
    cases b <;> rfl
theorem cc_ind {n : Nat} {gens : List (List UInt8)} (h : (ccF (n : Int) gens).1 = 0) : ∀ (i : Nat) (g : List UInt8), (barL gens)[i]? = some g → g ∉ grp n ((barL gens).take i) := by
  have hd : dcI n (barL gens) = -1 := by
    unfold ccF at h
    rw [Int.toNat_natCast] at h
    split at h
    · exact absurd h (by decide)
    split at h
    · exact absurd h (by decide)
    split at h
    · exact absurd h (by simp)
    split at h
    · exact absurd h (by simp)
    split at h
    · exact absurd h (by simp)
    omega
  intro i g hg hm
  have hi := (List.getElem?_eq_some_iff.1 hg).1
  have h9 := fstI_ne _ _ _ hd i (Nat.zero_le _) (by omega)
  unfold dcAt at h9
  rw [show (barL gens).getD i [] = g by rw [List.getD_eq_getElem?_getD, hg]; rfl] at h9
  exact of_decide_eq_false h9 hm
theorem barL_lenA (gens : List (List UInt8)) : (barL gens).length = gens.length := by unfold barL; rw [List.length_map]
/-- Each syndrome is an error's: the least. -/
theorem bst_syn {n : Nat} {gens : List (List UInt8)} (h : (ccF (n : Int) gens).1 = 0) {s : List Int} (hl : s.length = gens.length) (hs : ∀ x ∈ s, x = 0 ∨ x = 1) : ∃ b, bst wtT (synQ gens s) (erR n) = some b ∧ Let n b ∧ synL gens b = s := by
  obtain ⟨_, _, _, hall⟩ := cc_zero h
  rw [Int.toNat_natCast] at hall
  have hbl := bar_let hall
  obtain ⟨e, he, hm⟩ := surj (barL gens) hbl (cc_ind h) (s.map fun x => x == 1) (by rw [List.length_map, hl, barL_lenA])
  have hq : synQ gens s e = true := by
    unfold synQ
    rw [syB, hm, List.map_map]
    refine decide_eq_true ((List.map_congr_left fun x hx => ?_).trans (List.map_id s))
    rcases hs x hx with rfl | rfl <;> rfl
  have hsp := bst_spec wtT (synQ gens s) (erR n)
  cases hb : bst wtT (synQ gens s) (erR n) with
  | none =>
    rw [hb] at hsp
    rw [hsp e ((erR_let n e).2 he)] at hq
    cases hq
  | some b =>
    rw [hb] at hsp
    exact ⟨b, rfl, (erR_let n b).1 hsp.1, of_decide_eq_true hsp.2.1⟩
theorem de_is {n : Nat} {gens : List (List UInt8)} (h : (ccF (n : Int) gens).1 = 0) {s : List Int} (hl : s.length = gens.length) (hs : ∀ x ∈ s, x = 0 ∨ x = 1) : txL (deP n gens s) n = (bst wtT (synQ gens s) (erR n)).getD [] := by
  obtain ⟨_, h12, _, hall⟩ := cc_zero h
  rw [Int.toNat_natCast] at hall
  obtain ⟨b, hb, hlb, _⟩ := bst_syn h hl hs
  unfold deP
  rw [fstP_bst (n := n) (by omega) _ (synQ gens s) fun a ha => sh_mk (by omega) hall hl hs ha, hb]
  exact txL_tP (by omega) hlb
theorem wt_zero {n : Nat} : ∀ {a : List UInt8}, Let n a → (wtT a = 0 ↔ a = oneT n) := by
  induction n with
  | zero =>
    intro a h
    have : a = [] := List.length_eq_zero_iff.1 h.1
    subst this
    exact ⟨fun _ => rfl, fun _ => rfl⟩
  | succ n ih =>
    intro a h
    cases a with
    | nil => have := h.1; simp at this
    | cons c r =>
      have hr : Let n r := ⟨by simpa using h.1, fun x hx => h.2 x (by simp [hx])⟩
      have e : oneT (n + 1) = 73 :: oneT n := rfl
      rw [wtT, e, List.cons.injEq, ← ih hr]
      by_cases hc : c = 73
      · rw [if_pos hc]; simp [hc]
      · rw [if_neg hc]; simp [hc]
theorem in_grp {n : Nat} {gens : List (List UInt8)} (hall : ∀ T ∈ gens, isP n T = true) {a : List UInt8} (ha : Let n a) : inG (grR n (barL gens)) a = decide (a ∈ grp n (barL gens)) := by
  unfold inG grR
  by_cases h : barL gens = []
  · rw [if_pos h, h]
    show (false || (true && wtT a == 0)) = decide (a ∈ [oneT n])
    rw [Bool.false_or, Bool.true_and, Bool.eq_iff_iff, beq_iff_eq, decide_eq_true_eq, List.mem_singleton]
    exact wt_zero ha
  · rw [if_neg h]
    have hl : (grp n (barL gens)).length ≠ 0 := by
      rw [(grp_is n (barL gens) (bar_let hall)).2.2]
      exact Nat.pos_iff_ne_zero.1 (Nat.pow_pos (by decide))
    rw [beq_eq_false_iff_ne.2 hl, Bool.false_and, Bool.or_false, Bool.eq_iff_iff, List.any_eq_true, decide_eq_true_eq]
    exact ⟨fun ⟨p, h1, h2⟩ => by rw [← beq_iff_eq.1 h2]; exact h1, fun h1 => ⟨a, h1, beq_iff_eq.2 rfl⟩⟩
theorem hid_is {n : Nat} (hn : n ≤ 12) {gens : List (List UInt8)} (hall : ∀ T ∈ gens, isP n T = true) {a : List UInt8} (ha : Let n a) : hidB n gens (tP a) = (quB (synL gens a) && !inG (grR n (barL gens)) a) := by
  unfold hidB
  have h1 : (shN (psL n gens) (tP a) == 0) = quB (synL gens a) := by
    unfold shN
    rw [shB hn hall ha, syB gens a]
    generalize (barL gens).map (fun g => apB g a) = L
    induction L with
    | nil => rfl
    | cons b r ih =>
      unfold quB at ih ⊢
      rw [List.map_cons, List.all_cons, ← ih, numB]
      cases b
      · simp only [Bool.false_eq_true, if_false, Nat.zero_add, beq_self_eq_true, Bool.true_and]
        rw [Bool.eq_iff_iff, beq_iff_eq, beq_iff_eq]
        omega
      · simp
  have h2 : decide (((tP a).x, (tP a).z) ∈ gsL (psL n gens)) = inG (grR n (barL gens)) a := by
    rw [in_grp hall ha]
    have hi := tP_is (n := n) (by omega) ha
    rw [hi.1, hi.2]
    refine decide_eq_decide.2 (grp_gs (by rw [barL_lenA]; unfold psL; rw [List.length_map]) (bar_let hall) (fun i l p h1 h2 => ?_) ha)
    obtain ⟨T, hT⟩ : ∃ T, gens[i]? = some T := ⟨_, List.getElem?_eq_getElem (by have := (List.getElem?_eq_some_iff.1 h1).1; rw [barL_lenA] at this; exact this)⟩
    obtain ⟨g1, g2, g3, g4⟩ := ps_at hn hall hT
    rw [g2] at h1
    rw [g1] at h2
    cases h1; cases h2
    exact g4
  rw [h1, h2]
theorem disF_bst (Q G : List UInt8 → Bool) (L : List (List UInt8)) (h : ∀ e ∈ L, wtT e = 0 → G e = true) : disF Q G L = ((bst wtT (fun e => Q e && !G e) L).map wtT).getD 0 ∧ ∀ b, bst wtT (fun e => Q e && !G e) L = some b → 0 < wtT b := by
  induction L using snoc_ind with
  | h0 => exact ⟨rfl, fun b hb => by cases hb⟩
  | h1 L e ih =>
    obtain ⟨i1, i2⟩ := ih fun x hx => h x (by simp [hx])
    have he := h e (by simp)
    rw [disF_snoc, bst_snoc, i1]
    cases hb : bst wtT (fun e => Q e && !G e) L with
    | none =>
      simp only [Option.map_none, Option.getD_none]
      unfold disB
      by_cases hc : (Q e && !G e) = true
      · have hg : 0 < wtT e := by
          rcases Nat.eq_zero_or_pos (wtT e) with h0 | h0
          · rw [he h0] at hc; simp at hc
          · exact h0
        have hq : Q e = true ∧ G e = false := by simpa using hc
        rw [if_pos hc]
        exact ⟨by simp [hq, hg], fun b h9 => by cases h9; exact hg⟩
      · rw [if_neg hc]
        refine ⟨?_, fun b h9 => by cases h9⟩
        have : (Q e && !G e) = false := by simpa using hc
        simp [Bool.and_assoc, this]
    | some b =>
      have hbp := i2 b hb
      simp only [Option.map_some, Option.getD_some]
      unfold disB
      have hbz : decide (wtT b = 0) = false := decide_eq_false (by omega)
      by_cases hc : ((Q e && !G e) && decide (wtT e < wtT b)) = true
      · have hq : (Q e = true ∧ G e = false) ∧ wtT e < wtT b := by simpa using hc
        have hg : 0 < wtT e := by
          rcases Nat.eq_zero_or_pos (wtT e) with h0 | h0
          · rw [he h0] at hq; simp at hq
          · exact h0
        rw [if_pos hc]
        exact ⟨by simp [hq, hg], fun x h9 => by cases h9; exact hg⟩
      · rw [if_neg hc]
        refine ⟨?_, fun x h9 => by cases h9; exact hbp⟩
        have : ((decide (wtT b = 0) || decide (wtT e < wtT b)) && decide (0 < wtT e) && Q e && !G e) = false := by
          rw [hbz, Bool.false_or]
          have h9 : ((Q e && !G e) && decide (wtT e < wtT b)) = false := by simpa using hc
          cases h1 : Q e <;> cases h2 : G e <;> cases h3 : decide (wtT e < wtT b) <;> simp [h1, h2, h3] at h9 ⊢
        rw [this]
        rfl
theorem di_is {n : Nat} {gens : List (List UInt8)} (h : (ccF (n : Int) gens).1 = 0) : diN n gens = disF (fun e => quB (synL gens e)) (inG (grR n (barL gens))) (erR n) ∧ (∀ b, bst wtT (fun e => quB (synL gens e) && !inG (grR n (barL gens)) e) (erR n) = some b → 0 < wtT b) ∧ diN n gens = ((bst wtT (fun e => quB (synL gens e) && !inG (grR n (barL gens)) e) (erR n)).map wtT).getD 0 := by
  obtain ⟨_, h12, _, hall⟩ := cc_zero h
  rw [Int.toNat_natCast] at hall
  have hz : ∀ e ∈ erR n, wtT e = 0 → inG (grR n (barL gens)) e = true := fun e he h0 => by
    have hl := (erR_let n e).1 he
    rw [in_grp hall hl, (wt_zero hl).1 h0]
    exact decide_eq_true (grp_is n (barL gens) (bar_let hall)).2.1
  obtain ⟨d1, d2⟩ := disF_bst (fun e => quB (synL gens e)) (inG (grR n (barL gens))) (erR n) hz
  have key : diN n gens = ((bst wtT (fun e => quB (synL gens e) && !inG (grR n (barL gens)) e) (erR n)).map wtT).getD 0 := by
    unfold diN
    rw [fstP_bst (n := n) (by omega) (hidB n gens) (fun e => quB (synL gens e) && !inG (grR n (barL gens)) e) fun a ha => hid_is (by omega) hall ha]
    have hsp := bst_spec wtT (fun e => quB (synL gens e) && !inG (grR n (barL gens)) e) (erR n)
    cases hb : bst wtT (fun e => quB (synL gens e) && !inG (grR n (barL gens)) e) (erR n) with
    | none => rfl
    | some b =>
      rw [hb] at hsp
      exact wt_tP (n := n) (by omega) ((erR_let n b).1 hsp.1)
  exact ⟨by rw [key, d1], d2, key⟩
end Go.Proofs.YtfoncakadficlaaDoor
namespace Go.Proofs.YtfoncakadficlaaDoor
open Go.RowKit

set_option maxHeartbeats 1000000 in
theorem sameInts_any (l : List Int) (a1 : Option Addr) (n c1 : Nat) (a2 : Option Addr) (c2 : Nat) (w : World) (h1 : IntsAt w a1 n l) (h2 : IntsAt w a2 n l) (hc1 : n ≤ c1) (hm1 : c1 ≤ 9223372036854775807) :
    Calls Tryd.prog 14 #[.slice a1 n c1, .slice a2 n c2] w fun e w' => e = .returned (.bool true) ∧ Ext w w' := by
  have H1 := Lib.hid h1; have H2 := Lib.hid h2
  clear h1 h2
  go_enter Tryd.func14, Tryd.ntmps14
  go_wp2_with fail
  go_loopg [5] n (fun kk s5 wx => ∃ i : Nat, s5 = .int .i64 (i : Int) ∧ i ≤ n ∧ n - i = kk ∧ Ext w wx)
  case atStart => exact ⟨0, rfl, by omega, by omega, Ext.refl w⟩
  case round =>
    obtain ⟨i, rfl, hi1, hk, hE⟩ := hrel
    have HE := Lib.hid hE
    by_cases hin : i = n
    · have h2 : ¬ (i : Int) < (n : Int) := by omega
      clear hE
      go_wp2_with fail
      go_ret
      exact ⟨rfl, HE.out⟩
    · have h2 : (i : Int) < (n : Int) := by omega
      have h0 : (0 : Int) ≤ (i : Int) := by omega
      obtain ⟨b1, o1, rfl, hb1, hc1'⟩ := (H1.out.ext hE).at (by omega)
      obtain ⟨b2, o2, rfl, hb2, hc2'⟩ := (H2.out.ext hE).at (by omega)
      have e1 := hc1' i (by omega); have e2 := hc2' i (by omega)
      obtain ⟨x, hx⟩ : ∃ x, l.getD i 0 = x := ⟨_, rfl⟩
      rw [hx] at e1 e2
      have HEd := Lib.hid (cdrew hE)
      clear hE hc1' hc2' hx
      go_wp2_with fail
      go_region
      go_wp2_with fail
      go_roundg (n - (i + 1))
      case measure => omega
      case rel => exact ⟨i + 1, by go_num, by omega, rfl, HEd.out⟩

end Go.Proofs.YtfoncakadficlaaDoor
namespace Go.Proofs.YtfoncakadficlaaDoor
open Go.RowKit

/-- The example's generators. -/
def exG : List (List UInt8) := [[43, 90, 90, 73], [43, 73, 90, 90]]
set_option maxRecDepth 100000 in
theorem ex_sy : syF 3 exG [43, 88, 73, 73] = (0, 0) := by decide +kernel
theorem ex_syn : synL exG [88, 73, 73] = [1, 0] := by decide +kernel
set_option maxRecDepth 100000 in
theorem ex_de : deF 3 exG [1, 0] = (0, 0) := by decide +kernel
set_option maxRecDepth 100000 in
theorem ex_tx : 43 :: txL (deP 3 exG [1, 0]) 3 = [43, 88, 73, 73] := by decide +kernel
theorem ex_strs (w : World) : StrsAt (w.alloc (.cells #[.string ⟨#[43, 90, 90, 73]⟩, .string ⟨#[43, 73, 90, 90]⟩] 9)) (some ⟨w.heap.size, 0, none⟩) 2 exG := by
  have hr := heap_alloc_new w (.cells #[.string ⟨#[43, 90, 90, 73]⟩, .string ⟨#[43, 73, 90, 90]⟩] 9)
  refine ⟨rfl, Or.inr ⟨_, 0, rfl, (Array.getElem?_eq_some_iff.1 hr).1, fun t ht => ?_⟩⟩
  rw [cell_of_row _ _ (0 + t) _ _ (0, 0) hr]
  have h : t = 0 ∨ t = 1 := by omega
  rcases h with rfl | rfl <;> rfl
theorem ex_ints (w : World) : IntsAt (w.alloc (.cells #[.int .i64 1, .int .i64 0] 3)) (some ⟨w.heap.size, 0, none⟩) 2 [1, 0] := by
  have hr := heap_alloc_new w (.cells #[.int .i64 1, .int .i64 0] 3)
  refine ⟨rfl, Or.inr ⟨_, 0, rfl, (Array.getElem?_eq_some_iff.1 hr).1, fun t ht => ?_⟩⟩
  rw [cell_of_row _ _ (0 + t) _ _ (0, 0) hr]
  have h : t = 0 ∨ t = 1 := by omega
  rcases h with rfl | rfl <;> rfl

set_option maxRecDepth 100000 in
set_option maxHeartbeats 4000000 in
theorem codeBegun_any (w : World) (hL : LtL w) : Calls Tryd.prog 10 #[] w fun e w' => e = .returned (.bool true) ∧ Ext w w' := by
  obtain ⟨H, hH⟩ : ∃ H, w.heap.size = H := ⟨_, rfl⟩
  obtain ⟨U, hU⟩ : ∃ U, w.alloc (.cells #[.string ⟨#[43, 90, 90, 73]⟩, .string ⟨#[43, 73, 90, 90]⟩] 9) = U := ⟨_, rfl⟩
  obtain ⟨W0, hW0⟩ : ∃ W0, U.alloc (.cells #[.int .i64 3, .slice (some ⟨H, 0, none⟩) 2 2] 24) = W0 := ⟨_, rfl⟩
  have EU : Ext w U := by rw [← hU]; exact ext_al _ _
  have E0 : Ext U W0 := by rw [← hW0]; exact ext_al _ _
  have sU : U.heap.size = H + 1 := by rw [← hU, ← hH]; simp
  have C0 : CoB W0 (H + 1) 3 (some ⟨H, 0, none⟩) 2 2 := by rw [← hW0, ← sU]; exact CoB.new _ _ _ _ _
  have hS : StrsAt W0 (some ⟨H, 0, none⟩) 2 exG := by
    have := (ex_strs w)
    rw [hU, hH] at this
    exact this.ext E0
  have hT : ∀ T ∈ exG, T.length ≤ 9223372036854775807 := by decide
  have HSy := Syndrome_any 3 exG [43, 88, 73, 73] (some ⟨H, 0, none⟩) 2 2 W0 hS hT (by decide) (by decide)
  rw [ex_sy, show ([43, 88, 73, 73] : List UInt8).drop 1 = [88, 73, 73] from rfl, ex_syn] at HSy
  have HDe := Lib.hid (fun (a : Option Addr) (c : Nat) (wx : World) (hx : Ext W0 wx) (hI : IntsAt wx a 2 [1, 0]) => Decode_any 3 exG [1, 0] (some ⟨H, 0, none⟩) 2 2 a 2 c wx (hS.ext hx) hT (by decide) hI (hL.ext ((EU.trans E0).trans hx)))
  rw [ex_de, show (3 : Int).toNat = 3 from rfl, ex_tx] at HDe
  have HSy := Lib.hid HSy; have HE0 := Lib.hid (EU.trans E0); have HC := Lib.hid C0; have HU := Lib.hid hU; have HW0 := Lib.hid hW0; have HH := Lib.hid hH; have HsU := Lib.hid sU
  have v0 := C0.x0; have v1 := C0.x1
  clear hL hU hW0 EU E0 sU C0 hS hT hH
  go_enter Tryd.func10, Tryd.ntmps10
  go_upto_region 2 with fail
  rw [HU.out, HH.out, HW0.out]
  go_wp2_with fail
  refine HSy.out.mono ?_
  rintro e w1 ⟨r, rfl, hx1, hgood, _⟩
  obtain ⟨a, c', rfl, hc1, hc2, hI, _⟩ := hgood (by trivial)
  obtain ⟨W1, hW1⟩ : ∃ W1, w1.alloc (.cells #[.int .i64 0, .int .i64 0] 27) = W1 := ⟨_, rfl⟩
  obtain ⟨K, hK⟩ : ∃ K, w1.heap.size = K := ⟨_, rfl⟩
  have E1 : Ext w1 W1 := by rw [← hW1]; exact ext_al _ _
  have F1 : FtB W1 K 0 0 := ⟨by rw [← hW1, ← hK]; exact heap_alloc_new _ _⟩
  have hE1 : Ext W0 W1 := hx1.trans E1
  have HD1 := Lib.hid (HDe.out a c' W1 hE1 (hI.ext E1))
  have HI1 := Lib.hid (hI.ext E1); have HE1 := Lib.hid hE1; have HF1 := Lib.hid F1; have HW1 := Lib.hid hW1; have HK := Lib.hid hK; have Hc := Lib.hid (And.intro hc1 hc2)
  have u0 := (HC.out.ext hE1).x0; have u1 := (HC.out.ext hE1).x1
  clear hgood hI hx1 hW1 hK E1 F1 hE1 HDe HSy v0 v1 hc1 hc2
  go_upto_region 3 with fail
  rw [HW1.out, HK.out]
  clear HW1 HK
  go_wp2_with fail
  refine HD1.out.mono ?_
  rintro e w2 ⟨rfl, hx2⟩
  obtain ⟨W2, hW2⟩ : ∃ W2, w2.alloc (.cells #[.int .i64 0, .int .i64 0] 27) = W2 := ⟨_, rfl⟩
  obtain ⟨K2, hK2⟩ : ∃ K, w2.heap.size = K := ⟨_, rfl⟩
  have E2 : Ext W1 W2 := by rw [← hW2]; exact hx2.trans (ext_al _ _)
  have F2 : FtB W2 K2 0 0 := ⟨by rw [← hW2, ← hK2]; exact heap_alloc_new _ _⟩
  have HW2 := Lib.hid hW2; have HK2 := Lib.hid hK2; have HE2 := Lib.hid E2
  have m0 := (HF1.out.ext E2).x0; have m1 := F2.x0
  have hI3 := ex_ints W2
  have E3 : Ext W2 (W2.alloc (.cells #[.int .i64 1, .int .i64 0] 3)) := ext_al _ _
  have HSm := Lib.hid (sameInts_any [1, 0] a 2 c' (some ⟨W2.heap.size, 0, none⟩) 2 _ (HI1.out.ext (E2.trans E3)) hI3 Hc.out.1 Hc.out.2)
  have HE3 := Lib.hid (HE0.out.trans (HE1.out.trans (E2.trans E3)))
  clear hx2 hW2 hK2 E2 F2 E3 hI3 u0 u1 HD1
  simp only [if_true]
  go_upto_region 4 with fail
  rw [HW2.out, HK2.out]
  clear HW2 HK2
  go_wp2_with fail
  refine HSm.out.mono ?_
  rintro e w4 ⟨rfl, hx4⟩
  have HE4 := Lib.hid (HE3.out.trans hx4)
  clear hx4 HSm m0 m1
  go_wp2_with fail
  go_ret
  exact ⟨rfl, HE4.out⟩
end Go.Proofs.YtfoncakadficlaaDoor
namespace Go.Proofs.YtfoncakadficlaaDoor
open Go.RowKit

theorem StrsAt.far {w w' : World} {a : Option Addr} {n k : Nat} {l : List (List UInt8)} (h : StrsAt w a n l) (hO : Only k w w') {cs : Array Value} {t : TypeId} (hr : w.heap[k]? = some (.cells cs t (0, 0))) (hc : ∀ (j : Nat) (x : ByteArray), cs[j]? ≠ some (.string x)) : StrsAt w' a n l := by
  refine ⟨h.1, ?_⟩
  rcases h.2 with h0 | ⟨b, o, e, hb, hcs⟩
  · exact Or.inl h0
  · by_cases hn0 : n = 0
    · exact Or.inl hn0
    refine Or.inr ⟨b, o, e, by rw [hO.size]; exact hb, ?_⟩
    have hne : b ≠ k := by
      rintro rfl
      have h9 := hcs 0 (by omega)
      rw [cell_of_row w b _ cs _ (0, 0) hr] at h9
      exact hc _ _ h9
    intro t ht
    exact (World.cell?_of_block (a := ⟨b, o + t, none⟩) (hO.block b hne)).trans (hcs t ht)
theorem IntsAt.farC {w w' : World} {a : Option Addr} {n k : Nat} {l : List Int} (h : IntsAt w a n l) (hO : Only k w w') (hk : ∀ ad, a = some ad → ad.block ≠ k) : IntsAt w' a n l := by
  refine ⟨h.1, ?_⟩
  rcases h.2 with h0 | ⟨b, o, e, hb, hcs⟩
  · exact Or.inl h0
  · refine Or.inr ⟨b, o, e, by rw [hO.size]; exact hb, ?_⟩
    intro t ht
    exact (World.cell?_of_block (a := ⟨b, o + t, none⟩) (hO.block b (hk _ e))).trans (hcs t ht)
theorem noS {u v : Int} : ∀ (j : Nat) (x : ByteArray), (#[.int .i64 u, .int .i64 v] : Array Value)[j]? ≠ some (.string x) := by
  intro j x h
  match j, h with
  | 0, h => simp at h
  | 1, h => simp at h
  | j + 2, h => simp at h
theorem cc_snd {N : Int} {gens : List (List UInt8)} {d1 : Int} (h : ccF N gens = (0, d1)) : d1 = 0 := by
  unfold ccF at h
  split at h
  · exact absurd (congrArg Prod.fst h) (by simp)
  split at h
  · exact absurd (congrArg Prod.fst h) (by simp)
  split at h
  · exact absurd (congrArg Prod.fst h) (by simp)
  split at h
  · exact absurd (congrArg Prod.fst h) (by simp)
  split at h
  · exact absurd (congrArg Prod.fst h) (by simp)
  exact (congrArg Prod.snd h).symm
theorem isp_is {n : Nat} (hn : 1 ≤ n) (T : List UInt8) : ispB (n : Int) T = isP n T := by
  unfold ispB
  rw [decide_eq_true (by omega), Int.toNat_natCast, Bool.true_and]

end Go.Proofs.YtfoncakadficlaaDoor
