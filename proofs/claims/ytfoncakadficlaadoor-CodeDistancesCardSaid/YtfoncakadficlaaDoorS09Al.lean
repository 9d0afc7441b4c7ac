/-
  Errors in plain lists: all of them in the order of their letters; those of less weight first; the first of least weight. Nothing of the program stands here. The reference: an error's weight; a syndrome of noughts; is an error a product? The reference: all errors of few qubits, in their order (Errors).
-/
import Derived.Test.YtfoncakadficlaaDoorProg
import Derived.Test.YtfoncakadficlaaDoorRows
import Derived.BigQuiet
import Derived.Deep.AppendLies
import Derived.Deep.Cut
import Derived.Deep.CutRange
import Derived.Deep.LoopGhost
import Derived.Deep.QuietTactic
import Derived.Deep.RegionHeld3
import Derived.DeepKeys4
import Derived.Laws.Bits64b
import Derived.Laws.CopyOwn
import Derived.Laws.ResultCell
import Derived.Lib.AppendStr
import Derived.Lib.BitFns
import Derived.Lib.Hide
import Derived.Lib.ItoaMem
import Derived.Lib.ItoaNum
import Derived.Lib.Strings
import Derived.LoopIn
import Derived.LoopNIn
import Derived.Maps.AppendAt
import Derived.Maps.OwnSet
import Derived.OwnWalk
import Derived.OwnWalkIn
import Derived.RangeFuncBound
import Derived.RangeFuncBox
import Derived.RangeFuncCalls
import Derived.RangeFuncGives
import Derived.RangeFuncLeaves
import Derived.RangeFuncNested
import Derived.RangeFuncStops
import Derived.Shelf.Abstract
import Derived.Shelf.Bits.Mul64
import Derived.Shelf.RegionOpen
import Derived.Shelf.Small.Strs
import Derived.Shelf.Strings.Builder1
import Derived.Shelf.Strings.BuilderF
import Derived.Shelf.Strings.BuilderK
import Derived.Shelf.Strings.Prefix
import Derived.Shelf.Strings.Search1
import Derived.Sort.MapsRangeIn
import Derived.TacticsInMore
import Derived.WalkKit
import Derived.WalkLawsBesides
import Derived.WalkSpells
import Derived.Test.YtfoncakadficlaaDoorS00Ca
import Derived.Test.YtfoncakadficlaaDoorShelf
import Derived.Test.YtfoncakadficlaaDoorS02Ig
import Derived.Test.YtfoncakadficlaaDoorS03In
import Derived.Test.YtfoncakadficlaaDoorS04Is
import Derived.Test.YtfoncakadficlaaDoorS05It
import Derived.Test.YtfoncakadficlaaDoorS06Ix
import Derived.Test.YtfoncakadficlaaDoorS07Aa
import Derived.Test.YtfoncakadficlaaDoorS08Aj
namespace Go.Proofs.YtfoncakadficlaaDoor

/-- How many letters are not I. -/
def wtT : List UInt8 → Nat
  | [] => 0
  | b :: r => (if b = 73 then 0 else 1) + wtT r
theorem wtT_le : ∀ l : List UInt8, wtT l ≤ l.length
  | [] => Nat.le_refl _
  | b :: r => by
    have := wtT_le r
    rw [wtT, List.length_cons]
    split <;> omega
theorem wtT_append : ∀ a b : List UInt8, wtT (a ++ b) = wtT a + wtT b
  | [], b => by simp [wtT]
  | c :: r, b => by rw [List.cons_append, wtT, wtT, wtT_append r b]; omega
/-- All errors, letter by letter from the left. -/
def erR : Nat → List (List UInt8)
  | 0 => [[]]
  | n + 1 => (erR n).flatMap fun e => [e ++ [73], e ++ [88], e ++ [89], e ++ [90]]
theorem erR_cons : ∀ n, erR (n + 1) = (erR n).map (73 :: ·) ++ ((erR n).map (88 :: ·) ++ ((erR n).map (89 :: ·) ++ (erR n).map (90 :: ·)))
  | 0 => rfl
  | n + 1 => by
    have h := erR_cons n
    have key : ∀ c : UInt8, ((erR n).map (c :: ·)).flatMap (fun e => [e ++ [73], e ++ [88], e ++ [89], e ++ [90]]) = (erR (n + 1)).map (c :: ·) := by
      intro c
      rw [erR, List.flatMap_map, List.map_flatMap]
      rfl
    rw [erR, h, List.flatMap_append, List.flatMap_append, List.flatMap_append, key, key, key, key, ← h]
theorem erR_let : ∀ (n : Nat) (e : List UInt8), e ∈ erR n ↔ e.length = n ∧ ∀ c ∈ e, isL c = true
  | 0, e => by
    rw [erR, List.mem_singleton]
    constructor
    · rintro rfl; exact ⟨rfl, fun c hc => by cases hc⟩
    · rintro ⟨h, _⟩; exact List.length_eq_zero_iff.1 h
  | n + 1, e => by
    rw [erR_cons]
    simp only [List.mem_append, List.mem_map]
    constructor
    · rintro (⟨a, ha, rfl⟩ | ⟨a, ha, rfl⟩ | ⟨a, ha, rfl⟩ | ⟨a, ha, rfl⟩) <;>
      · obtain ⟨h1, h2⟩ := (erR_let n a).1 ha
        exact ⟨by simp [h1], fun c hc => (List.mem_cons.1 hc).elim (fun e => by rw [e]; rfl) (h2 c)⟩
    · rintro ⟨h1, h2⟩
      cases e with
      | nil => simp at h1
      | cons c r =>
        have hr : r ∈ erR n := (erR_let n r).2 ⟨by simpa using h1, fun x hx => h2 x (by simp [hx])⟩
        rcases isL_cases (h2 c (by simp)) with rfl | rfl | rfl | rfl
        · exact Or.inl ⟨r, hr, rfl⟩
        · exact Or.inr (Or.inl ⟨r, hr, rfl⟩)
        · exact Or.inr (Or.inr (Or.inl ⟨r, hr, rfl⟩))
        · exact Or.inr (Or.inr (Or.inr ⟨r, hr, rfl⟩))
/-- As the program goes through them. -/
def spT : Nat → List UInt8 → Nat → List (List UInt8)
  | 0, a, _ => [a]
  | k + 1, a, wt => (if wt < k + 1 then spT k (a ++ [73]) wt else []) ++ (if wt = 0 then [] else [88, 89, 90].flatMap fun c => spT k (a ++ [c]) (wt - 1))
theorem filter_map_cons (c : UInt8) (l : List (List UInt8)) (p : List UInt8 → Bool) : (l.map (c :: ·)).filter p = (l.filter fun e => p (c :: e)).map (c :: ·) := by
  rw [List.filter_map]; rfl
theorem spT_is : ∀ (k : Nat) (a : List UInt8) (wt : Nat), wt ≤ k → spT k a wt = ((erR k).filter fun e => wtT e == wt).map (a ++ ·)
  | 0, a, wt, h => by
    have : wt = 0 := by omega
    subst this
    simp [spT, erR, wtT]
  | k + 1, a, wt, h => by
    rw [spT, erR_cons, List.filter_append, List.filter_append, List.filter_append, List.map_append, filter_map_cons, filter_map_cons, filter_map_cons, filter_map_cons]
    have h1 : (if wt < k + 1 then spT k (a ++ [73]) wt else []) = (((erR k).filter fun e => wtT (73 :: e) == wt).map (73 :: ·)).map (a ++ ·) := by
      have e0 : ∀ e : List UInt8, (wtT (73 :: e) == wt) = (wtT e == wt) := fun e => by rw [wtT, if_pos rfl, Nat.zero_add]
      simp only [e0]
      by_cases hw : wt < k + 1
      · rw [if_pos hw, spT_is k (a ++ [73]) wt (by omega), List.map_map]
        congr 1
        funext e
        simp
      · rw [if_neg hw]
        have : (erR k).filter (fun e => wtT e == wt) = [] := List.filter_eq_nil_iff.2 fun e he => by
          have hl := ((erR_let k e).1 he).1
          have := wtT_le e
          simp only [beq_iff_eq]
          omega
        rw [this]; rfl
    have h2 : (if wt = 0 then [] else [88, 89, 90].flatMap fun c => spT k (a ++ [c]) (wt - 1)) = (((erR k).filter fun e => wtT (88 :: e) == wt).map (88 :: ·)).map (a ++ ·) ++ ((((erR k).filter fun e => wtT (89 :: e) == wt).map (89 :: ·)).map (a ++ ·) ++ (((erR k).filter fun e => wtT (90 :: e) == wt).map (90 :: ·)).map (a ++ ·)) := by
      by_cases hw : wt = 0
      · rw [if_pos hw]
        have : ∀ c : UInt8, c ≠ 73 → (erR k).filter (fun e => wtT (c :: e) == wt) = [] := fun c hc => List.filter_eq_nil_iff.2 fun e _ => by
          rw [wtT, if_neg hc]
          simp only [beq_iff_eq]
          omega
        rw [this 88 (by decide), this 89 (by decide), this 90 (by decide)]; rfl
      · rw [if_neg hw]
        have : ∀ c : UInt8, c ≠ 73 → spT k (a ++ [c]) (wt - 1) = (((erR k).filter fun e => wtT (c :: e) == wt).map (c :: ·)).map (a ++ ·) := fun c hc => by
          have e0 : ∀ e : List UInt8, (wtT (c :: e) == wt) = (wtT e == wt - 1) := fun e => by
            rw [wtT, if_neg hc, Bool.eq_iff_iff, beq_iff_eq, beq_iff_eq]
            omega
          simp only [e0]
          rw [spT_is k (a ++ [c]) (wt - 1) (by omega), List.map_map]
          congr 1
          funext e
          simp
        simp only [List.flatMap_cons, List.flatMap_nil, List.append_nil]
        rw [this 88 (by decide), this 89 (by decide), this 90 (by decide)]
    rw [h1, h2, List.map_append, List.map_append]
def errT (n : Nat) : List (List UInt8) := (List.range (n + 1)).flatMap (spT n [])
theorem errT_is (n : Nat) : errT n = (List.range (n + 1)).flatMap fun w => (erR n).filter fun e => wtT e == w := by
  unfold errT
  rw [List.flatMap_def, List.flatMap_def]
  congr 1
  refine List.map_congr_left fun w hw => ?_
  rw [spT_is n [] w (by have := List.mem_range.1 hw; omega)]
  simp

theorem snoc_ind {α : Type} {P : List α → Prop} (h0 : P []) (h1 : ∀ L x, P L → P (L ++ [x])) (L : List α) : P L := by
  have key : ∀ n (L : List α), L.length = n → P L := by
    intro n
    induction n with
    | zero => intro L h; rw [List.length_eq_zero_iff.1 h]; exact h0
    | succ n ih =>
      intro L h
      have hne : L ≠ [] := by rintro rfl; simp at h
      rw [← List.dropLast_concat_getLast hne]
      exact h1 _ _ (ih _ (by rw [List.length_dropLast, h]; rfl))
  exact key _ L rfl
/-- The first of least weight of which something holds. -/
def bst {α : Type} (wt : α → Nat) (Q : α → Bool) (L : List α) : Option α :=
  L.foldl (fun b e => match b with | none => if Q e then some e else none | some x => if Q e && decide (wt e < wt x) then some e else some x) none
theorem bst_snoc {α : Type} (wt : α → Nat) (Q : α → Bool) (L : List α) (x : α) : bst wt Q (L ++ [x]) = match bst wt Q L with | none => if Q x then some x else none | some b => if Q x && decide (wt x < wt b) then some x else some b := by
  unfold bst
  rw [List.foldl_append]
  rfl
/-- What the first is. -/
theorem bst_spec {α : Type} (wt : α → Nat) (Q : α → Bool) : ∀ L : List α, match bst wt Q L with | none => ∀ e ∈ L, Q e = false | some b => b ∈ L ∧ Q b = true ∧ ∀ e ∈ L, Q e = true → wt b ≤ wt e := by
  intro L
  induction L using snoc_ind with
  | h0 => intro e he; cases he
  | h1 L x ih =>
    rw [bst_snoc]
    cases h : bst wt Q L with
    | none =>
      rw [h] at ih
      simp only at ih ⊢
      cases hx : Q x
      · simp only [Bool.false_eq_true, if_false]
        intro e he
        rcases List.mem_append.1 he with he | he
        · exact ih e he
        · have : e = x := by simpa using he
          rw [this]; exact hx
      · simp only [if_true]
        refine ⟨by simp, hx, fun e he hq => ?_⟩
        rcases List.mem_append.1 he with he | he
        · rw [ih e he] at hq; cases hq
        · have : e = x := by simpa using he
          rw [this]; exact Nat.le_refl _
    | some b =>
      rw [h] at ih
      simp only at ih ⊢
      obtain ⟨h1, h2, h3⟩ := ih
      by_cases hc : Q x = true ∧ wt x < wt b
      · rw [if_pos (by rw [hc.1, decide_eq_true hc.2]; rfl)]
        refine ⟨by simp, hc.1, fun e he hq => ?_⟩
        rcases List.mem_append.1 he with he | he
        · have := h3 e he hq; omega
        · have : e = x := by simpa using he
          rw [this]; exact Nat.le_refl _
      · rw [if_neg (by rw [Bool.and_eq_true, decide_eq_true_eq]; exact hc)]
        refine ⟨by simp [h1], h2, fun e he hq => ?_⟩
        rcases List.mem_append.1 he with he | he
        · exact h3 e he hq
        · have : e = x := by simpa using he
          subst this
          by_cases hl : wt e < wt b
          · exact absurd ⟨hq, hl⟩ hc
          · omega
/-- Weight by weight. -/
def fsW {α : Type} (g : Nat → Option α) : Nat → Nat → Option α
  | 0, _ => none
  | k + 1, i => match g i with
    | some b => some b
    | none => fsW g k (i + 1)
theorem fsW_none {α : Type} (g : Nat → Option α) : ∀ k i, (∀ j, i ≤ j → j < i + k → g j = none) → fsW g k i = none
  | 0, _, _ => rfl
  | k + 1, i, h => by
    rw [fsW, h i (Nat.le_refl _) (by omega)]
    exact fsW_none g k (i + 1) fun j h1 h2 => h j (by omega) (by omega)
theorem fsW_some {α : Type} (g : Nat → Option α) (b : α) (v : Nat) : ∀ k i, i ≤ v → v < i + k → g v = some b → (∀ j, i ≤ j → j < v → g j = none) → fsW g k i = some b
  | 0, i, h1, h2, _, _ => by omega
  | k + 1, i, h1, h2, hv, h => by
    by_cases e : i = v
    · subst e; rw [fsW, hv]
    · rw [fsW, h i (Nat.le_refl _) (by omega)]
      exact fsW_some g b v k (i + 1) (by omega) (by omega) hv fun j h3 h4 => h j (by omega) h4
theorem find_flat {α : Type} (Q : α → Bool) (f : Nat → List α) : ∀ k i, ((List.range' i k).flatMap f).find? Q = fsW (fun w => (f w).find? Q) k i
  | 0, _ => rfl
  | k + 1, i => by
    rw [List.range'_succ, List.flatMap_cons, List.find?_append, fsW, find_flat Q f k (i + 1)]
    cases (f i).find? Q <;> rfl
theorem find_filter {α : Type} (Q p : α → Bool) (L : List α) : (L.filter p).find? Q = L.find? fun e => p e && Q e := by
  rw [List.find?_filter]
  congr 1
  funext a
  cases p a <;> cases Q a <;> rfl
/-- In order of weight the first is the same. -/
theorem find_bst {α : Type} (wt : α → Nat) (Q : α → Bool) (n : Nat) (L : List α) (hL : ∀ e ∈ L, wt e ≤ n) : ((List.range (n + 1)).flatMap fun w => L.filter fun e => wt e == w).find? Q = bst wt Q L := by
  rw [List.range_eq_range', find_flat]
  simp only [find_filter]
  induction L using snoc_ind with
  | h0 => exact fsW_none _ _ _ fun _ _ _ => rfl
  | h1 L x ih =>
    have ih := ih fun e he => hL e (by simp [he])
    have hsp := bst_spec wt Q L
    rw [bst_snoc]
    have hg : ∀ w, (L ++ [x]).find? (fun e => wt e == w && Q e) = (L.find? (fun e => wt e == w && Q e)).or (if wt x = w ∧ Q x = true then some x else none) := by
      intro w
      rw [List.find?_append]
      congr 1
      rw [List.find?_singleton]
      by_cases h : wt x = w ∧ Q x = true
      · rw [if_pos h, if_pos (by rw [h.2, h.1]; simp)]
      · rw [if_neg h, if_neg (by rw [Bool.and_eq_true, beq_iff_eq]; exact h)]
    have hnone : (∀ e ∈ L, Q e = false) → ∀ w, L.find? (fun e => wt e == w && Q e) = none := fun h w => List.find?_eq_none.2 fun e he => by rw [h e he]; simp
    have hless : ∀ b v, (∀ e ∈ L, Q e = true → wt b ≤ wt e) → v < wt b → L.find? (fun e => wt e == v && Q e) = none := fun b v h hv => List.find?_eq_none.2 fun e he => by
      rw [Bool.and_eq_true, beq_iff_eq]
      rintro ⟨h1, h2⟩
      have := h e he h2
      omega
    cases h : bst wt Q L with
    | none =>
      rw [h] at hsp
      simp only at hsp ⊢
      by_cases hx : Q x = true
      · rw [if_pos hx]
        refine fsW_some _ x (wt x) _ _ (Nat.zero_le _) (by have := hL x (by simp); omega) ?_ fun j _ hj => ?_
        · rw [hg, hnone hsp, if_pos ⟨rfl, hx⟩]; rfl
        · rw [hg, hnone hsp, if_neg (by omega)]; rfl
      · rw [if_neg hx]
        refine fsW_none _ _ _ fun j _ _ => ?_
        rw [hg, hnone hsp, if_neg (fun e => hx e.2)]; rfl
    | some b =>
      rw [h] at hsp ih
      simp only at hsp ⊢
      obtain ⟨h1, h2, h3⟩ := hsp
      have hbn := hL b (by simp [h1])
      by_cases hc : Q x = true ∧ wt x < wt b
      · rw [if_pos (by rw [hc.1, decide_eq_true hc.2]; rfl)]
        refine fsW_some _ x (wt x) _ _ (Nat.zero_le _) (by have := hL x (by simp); omega) ?_ fun j _ hj => ?_
        · rw [hg, hless b _ h3 hc.2, if_pos ⟨rfl, hc.1⟩]; rfl
        · rw [hg, hless b _ h3 (by omega), if_neg (by omega)]; rfl
      · rw [if_neg (by rw [Bool.and_eq_true, decide_eq_true_eq]; exact hc)]
        have hb : L.find? (fun e => wt e == wt b && Q e) = some b := by
          cases hf : L.find? (fun e => wt e == wt b && Q e) with
          | none =>
            have := List.find?_eq_none.1 hf b h1
            rw [h2] at this
            simp at this
          | some b' =>
            have := fsW_some (fun w => L.find? (fun e => wt e == w && Q e)) b' (wt b) (n + 1) 0 (Nat.zero_le _) (by omega) hf (fun j _ hj => hless b j h3 hj)
            rw [this] at ih
            exact ih
        refine fsW_some _ b (wt b) _ _ (Nat.zero_le _) (by omega) ?_ fun j _ hj => ?_
        · rw [hg, hb]; rfl
        · rw [hg, hless b _ h3 hj, if_neg ?_]
          · rfl
          · rintro ⟨e1, e2⟩
            exact hc ⟨e2, by omega⟩
theorem find_errT (n : Nat) (Q : List UInt8 → Bool) : (errT n).find? Q = bst wtT Q (erR n) := by
  rw [errT_is, find_bst wtT Q n (erR n) fun e he => by have h := ((erR_let n e).1 he).1; have := wtT_le e; omega]
end Go.Proofs.YtfoncakadficlaaDoor
namespace Go.Proofs.YtfoncakadficlaaDoor
open Go.RowKit

theorem wtT_take {l : List UInt8} {i : Nat} {x : UInt8} (h : l[i]? = some x) : wtT (l.take (i + 1)) = wtT (l.take i) + (if x = 73 then 0 else 1) := by
  rw [List.take_add_one, h, wtT_append]
  rfl

set_option maxHeartbeats 2000000 in
set_option maxRecDepth 100000 in
theorem rWeight_any (a : List UInt8) (w : World) (hla : a.length ≤ 9223372036854775807) :
    Calls Tryd.prog 21 #[.string ⟨a.toArray⟩] w fun e w' => e = .returned (.int .i64 ((wtT a : Nat) : Int)) ∧ Ext w w' := by
  obtain ⟨n, hn⟩ : ∃ n, a.length = n := ⟨_, rfl⟩
  have Hn := Lib.hid hn; have Hla := Lib.hid hla
  have hsa : (⟨a.toArray⟩ : ByteArray).size = n := by rw [← hn]; simp [ByteArray.size]
  obtain ⟨W, hW⟩ : ∃ W, wtT a = W := ⟨_, rfl⟩
  rw [hW]
  have HW := Lib.hid hW
  clear hn hla hW
  go_enter Tryd.func21, Tryd.ntmps21
  go_wp2_with fail
  go_loopg [3, 4] n (fun k s3 s4 wr => Ext w wr ∧ ∃ i m : Nat, s3 = .int .i64 (m : Int) ∧ s4 = .int .i64 (i : Int) ∧ i ≤ n ∧ n - i = k ∧ wtT (a.take i) = m)
  case atStart => exact ⟨Ext.refl _, 0, 0, rfl, rfl, Nat.zero_le _, rfl, by simp [wtT]⟩
  case round =>
    obtain ⟨hER, i, m, rfl, rfl, hi, hk, hm⟩ := hrel
    have HER := Lib.hid hER; have Hk := Lib.hid hk
    clear hER hk
    by_cases hin : i = n
    · have q1 : ¬ (i : Int) < (n : Int) := by omega
      have e1 : a.take i = a := List.take_of_length_le (by have := Hn.out; omega)
      rw [e1, HW.out] at hm
      subst hm
      clear e1 hin hi
      go_wp2_with fail
      go_ret
      exact ⟨rfl, HER.out⟩
    have hlt : i < n := by omega
    have q1 : (i : Int) < (n : Int) := by omega
    have q0 : (0 : Int) ≤ (i : Int) := by omega
    obtain ⟨x, hx⟩ : ∃ x, a[i]? = some x := ⟨_, List.getElem?_eq_getElem (by have := Hn.out; omega)⟩
    have hsz : i < (⟨a.toArray⟩ : ByteArray).size := str_lt (by have := Hn.out; omega)
    have hg := let_at hx hsz
    have wk : IntKind.i64.wrap ((i : Int) + 1) = ((i + 1 : Nat) : Int) := by rw [IntKind.wrap_i64]; have := Hn.out; have := Hla.out; omega
    have hmb : m ≤ i := by rw [← hm]; exact Nat.le_trans (wtT_le _) (by rw [List.length_take]; omega)
    have wm : IntKind.i64.wrap ((m : Int) + 1) = ((m + 1 : Nat) : Int) := by rw [IntKind.wrap_i64]; have := Hn.out; have := Hla.out; omega
    have Hst := Lib.hid (wtT_take hx)
    rw [hm] at Hst
    have Hlt := Lib.hid hlt
    clear hx hm hmb hin hi hlt
    by_cases c1 : x = 73
    · have t1 : ((x.toNat : Int) != 73) = false := nf' (by rw [c1]; rfl)
      have HA := Lib.hid (show (if x = 73 then 0 else 1) = 0 by rw [if_pos c1])
      clear c1
      go_wp2_with fail
      go_roundg (n - (i + 1))
      case measure => have := Hk.out; have := Hlt.out; omega
      case rel => exact ⟨HER.out, i + 1, m, rfl, rfl, Hlt.out, rfl, by rw [Hst.out, HA.out]; rfl⟩
    have t1 : ((x.toNat : Int) != 73) = true := nt (u8_ne (k := 73) (by decide) c1)
    have HA := Lib.hid (show (if x = 73 then 0 else 1) = 1 by rw [if_neg c1])
    clear c1
    go_wp2_with fail
    go_roundg (n - (i + 1))
    case measure => have := Hk.out; have := Hlt.out; omega
    case rel => exact ⟨HER.out, i + 1, m + 1, rfl, rfl, Hlt.out, rfl, by rw [Hst.out, HA.out]⟩

def quB (l : List Int) : Bool := l.all fun x => x == 0
set_option maxHeartbeats 2000000 in
set_option maxRecDepth 100000 in
theorem quiet_any (l : List Int) (ao : Option Addr) (n c : Nat) (w : World) (hI : IntsAt w ao n l) (hn : n ≤ 9223372036854775806) :
    Calls Tryd.prog 39 #[.slice ao n c] w fun e w' => e = .returned (.bool (quB l)) ∧ Ext w w' := by
  have HI := Lib.hid hI; have Hn := Lib.hid hn; have Hl := Lib.hid (show l.length = n from hI.1)
  obtain ⟨B, hB⟩ : ∃ B, quB l = B := ⟨_, rfl⟩
  rw [hB]
  have HB := Lib.hid hB
  clear hI hn hB
  go_enter Tryd.func39, Tryd.ntmps39
  go_wp2_with fail
  go_loopg [3] n (fun kk s3 wr => Ext w wr ∧ ∃ i : Nat, s3 = .int .i64 (i : Int) ∧ i ≤ n ∧ n - i = kk ∧ quB (l.take i) = true)
  case atStart => exact ⟨Ext.refl _, 0, rfl, Nat.zero_le _, rfl, by simp [quB]⟩
  case round =>
    obtain ⟨hER, i, rfl, hi, hkk, hq⟩ := hrel
    have HER := Lib.hid hER; have Hkk := Lib.hid hkk; have Hq := Lib.hid hq
    by_cases hin : i = n
    · have q1 : ¬ (i : Int) < (n : Int) := by omega
      have e1 : l.take i = l := List.take_of_length_le (by have := Hl.out; omega)
      have HBt := Lib.hid (show B = true by rw [← HB.out, ← e1]; exact hq)
      clear e1 hin hi hER hkk hq
      go_wp2_with fail
      go_ret
      exact ⟨congrArg (fun b => Ending.returned (Value.bool b)) HBt.out.symm, HER.out⟩
    have hlt : i < n := by omega
    have q1 : (i : Int) < (n : Int) := by omega
    have q0 : (0 : Int) ≤ (i : Int) := by omega
    have wk : IntKind.i64.wrap ((i : Int) + 1) = ((i + 1 : Nat) : Int) := by rw [IntKind.wrap_i64]; have := Hn.out; omega
    obtain ⟨x, hx⟩ : ∃ x, l[i]? = some x := ⟨_, List.getElem?_eq_getElem (by have := Hl.out; omega)⟩
    obtain ⟨b, o, rfl, _, hcs⟩ := (HI.out.ext hER).at (by omega)
    have c0 := hcs i hlt
    have hgd : l.getD i 0 = x := by rw [List.getD_eq_getElem?_getD, hx]; rfl
    rw [hgd] at c0
    have Hlt := Lib.hid hlt; have Hx := Lib.hid hx
    clear hER hkk hq hi hin hlt hcs hgd hx
    by_cases h0 : x = 0
    · have t1 := nf' h0
      have Hst := Lib.hid (show quB (l.take (i + 1)) = true by
        have h9 := Hq.out
        unfold quB at h9 ⊢
        rw [List.take_add_one, Hx.out, List.all_append, h9, h0]; rfl)
      clear h0
      go_wp2_with fail
      go_roundg (n - (i + 1))
      case measure => have := Hkk.out; have := Hlt.out; omega
      case rel => exact ⟨HER.out, i + 1, rfl, Hlt.out, rfl, Hst.out⟩
    · have t1 := nt h0
      have HBf := Lib.hid (show B = false by
        rw [← HB.out]
        unfold quB
        rw [Bool.eq_false_iff, ne_eq, List.all_eq_true]
        intro h9
        have := h9 x (List.mem_of_getElem? Hx.out)
        exact h0 (by simpa using this))
      clear h0
      go_wp2_with fail
      go_ret
      exact ⟨congrArg (fun b => Ending.returned (Value.bool b)) HBf.out.symm, HER.out⟩

/-- Is it a product? -/
def inG (G : List (List UInt8)) (e : List UInt8) : Bool := G.any (fun p => p == e) || (G.length == 0 && wtT e == 0)
set_option maxHeartbeats 4000000 in
set_option maxRecDepth 100000 in
theorem InGroup_any (G : List (List UInt8)) (e : List UInt8) (ao : Option Addr) (n c : Nat) (w : World) (hG : StrsAt w ao n G) (hn : n ≤ 9223372036854775806) (he : e.length ≤ 9223372036854775807) :
    Calls Tryd.prog 40 #[.slice ao n c, .string ⟨e.toArray⟩] w fun r w' => r = .returned (.bool (inG G e)) ∧ Ext w w' := by
  have HG := Lib.hid hG; have Hn := Lib.hid hn; have Hl := Lib.hid (show G.length = n from hG.1)
  have HWt := Lib.hid (fun wx => rWeight_any e wx he)
  obtain ⟨wt, hwt⟩ : ∃ wt, wtT e = wt := ⟨_, rfl⟩
  rw [hwt] at HWt
  obtain ⟨B, hB⟩ : ∃ B, inG G e = B := ⟨_, rfl⟩
  rw [hB]
  unfold inG at hB
  rw [hwt] at hB
  have HB := Lib.hid hB
  clear hG hn hB hwt he
  go_enter Tryd.func40, Tryd.ntmps40
  go_wp2_with fail
  go_loopg [5] n (fun kk s5 wr => Ext w wr ∧ ∃ i : Nat, s5 = .int .i64 (i : Int) ∧ i ≤ n ∧ n - i = kk ∧ (G.take i).any (fun p => p == e) = false)
  case atStart => exact ⟨Ext.refl _, 0, rfl, Nat.zero_le _, rfl, by simp⟩
  case round =>
    obtain ⟨hER, i, rfl, hi, hkk, hq⟩ := hrel
    have HER := Lib.hid hER; have Hkk := Lib.hid hkk; have Hq := Lib.hid hq
    by_cases hin : i = n
    · have q1 : ¬ (i : Int) < (n : Int) := by omega
      have e1 : G.take i = G := List.take_of_length_le (by have := Hl.out; omega)
      have HB2 := Lib.hid (show (G.length == 0 && wt == 0) = B by rw [← HB.out, ← e1, hq, e1]; rfl)
      subst hin
      clear e1 hi hER hkk hq
      by_cases hz : i = 0
      · have t0 : ((i : Int) == 0) = true := by rw [hz]; rfl
        have t0' := bt' (show (i : Int) = 0 by omega)
        have HB3 := Lib.hid (show (wt == 0) = B by rw [← HB2.out, Hl.out, hz]; rfl)
        clear hz
        go_wp2_with fail
        refine (HWt.out _).mono ?_
        rintro r w2 ⟨rfl, hx2⟩
        have H2 := Lib.hid hx2
        clear hx2 HWt
        have hb : ((wt : Int) == 0) = B := by
          rw [← HB3.out]
          by_cases h : wt = 0
          · rw [h]; rfl
          · rw [beq_eq_false_iff_ne.2 h]; exact bf (by omega)
        go_wp2_with fail
        go_ret
        exact ⟨rfl, HER.out.trans H2.out⟩
      · have t0 := bf (show ¬ (i : Int) = 0 by omega)
        have HB3 := Lib.hid (show B = false by rw [← HB2.out, Hl.out, beq_eq_false_iff_ne.2 hz]; rfl)
        clear hz
        go_wp2_with fail
        go_ret
        exact ⟨congrArg (fun b => Ending.returned (Value.bool b)) HB3.out.symm, HER.out⟩
    have hlt : i < n := by omega
    have q1 : (i : Int) < (n : Int) := by omega
    have q0 : (0 : Int) ≤ (i : Int) := by omega
    have wk : IntKind.i64.wrap ((i : Int) + 1) = ((i + 1 : Nat) : Int) := by rw [IntKind.wrap_i64]; have := Hn.out; omega
    obtain ⟨x, hx⟩ : ∃ x, G[i]? = some x := ⟨_, List.getElem?_eq_getElem (by have := Hl.out; omega)⟩
    obtain ⟨b, o, rfl, _, hcs⟩ := (HG.out.ext hER).at (by omega)
    have c0 := hcs i hlt
    have hgd : G.getD i [] = x := by rw [List.getD_eq_getElem?_getD, hx]; rfl
    rw [hgd] at c0
    have Hlt := Lib.hid hlt; have Hx := Lib.hid hx
    clear hER hkk hq hi hin hlt hcs hgd hx
    cases hxe : (x == e)
    · have Hst := Lib.hid (show (G.take (i + 1)).any (fun p => p == e) = false by rw [List.take_add_one, Hx.out, List.any_append, Hq.out]; simp [hxe])
      go_wp2_with fail
      go_roundg (n - (i + 1))
      case measure => have := Hkk.out; have := Hlt.out; omega
      case rel => exact ⟨HER.out, i + 1, rfl, Hlt.out, rfl, Hst.out⟩
    · have HBt := Lib.hid (show B = true by rw [← HB.out, List.any_eq_true.2 ⟨x, List.mem_of_getElem? Hx.out, hxe⟩]; rfl)
      go_wp2_with fail
      go_ret
      exact ⟨congrArg (fun b => Ending.returned (Value.bool b)) HBt.out.symm, HER.out⟩
end Go.Proofs.YtfoncakadficlaaDoor
namespace Go.Proofs.YtfoncakadficlaaDoor
open Go.RowKit

/-- An error with each letter behind it. -/
def er4 (e : List UInt8) : List (List UInt8) := [e ++ [73], e ++ [88], e ++ [89], e ++ [90]]
theorem erR_succ (n : Nat) : erR (n + 1) = (erR n).flatMap er4 := rfl
theorem erR_len : ∀ n, (erR n).length = 4 ^ n
  | 0 => rfl
  | n + 1 => by
    rw [erR_succ, List.length_flatMap, Nat.pow_succ, ← erR_len n]
    induction erR n with
    | nil => rfl
    | cons a r ih => rw [List.map_cons, List.sum_cons, ih, List.length_cons]; show 4 + _ = _; omega
theorem er4_take {e : List UInt8} {j : Nat} {c : UInt8} (h : ([73, 88, 89, 90] : List UInt8)[j]? = some c) : (er4 e).take (j + 1) = (er4 e).take j ++ [e ++ [c]] := by
  rw [List.take_add_one]
  congr 1
  match j, h with
  | 0, h => have : (73 : UInt8) = c := (by simpa using h); subst this; rfl
  | 1, h => have : (88 : UInt8) = c := (by simpa using h); subst this; rfl
  | 2, h => have : (89 : UInt8) = c := (by simpa using h); subst this; rfl
  | 3, h => have : (90 : UInt8) = c := (by simpa using h); subst this; rfl
  | j + 4, h => simp at h
theorem flat_take {l : List (List UInt8)} {k : Nat} {e : List UInt8} (h : l[k]? = some e) : (l.take (k + 1)).flatMap er4 = (l.take k).flatMap er4 ++ er4 e := by
  rw [List.take_add_one, h, List.flatMap_append]
  simp
theorem flat4_len (l : List (List UInt8)) : (l.flatMap er4).length = 4 * l.length := by
  induction l with
  | nil => rfl
  | cons a r ih => rw [List.flatMap_cons, List.length_append, ih, List.length_cons]; show 4 + _ = _; omega
theorem oneS (w : World) (x : ByteArray) (base : Nat) (hb : base ≤ w.heap.size) : (w.alloc (.cells #[.string x] 9)).ownsRow base 9 1 (.slice (some ⟨w.heap.size, 0, none⟩) 1 1) 1 [.string x] := ownX_one w x base hb

set_option maxHeartbeats 8000000 in
set_option maxRecDepth 100000 in
theorem Errors_any (n : Nat) (w : World) (hn : n ≤ 5) :
    Calls Tryd.prog 20 #[.int .i64 (n : Int)] w fun e w' => (∃ v, e = .returned v ∧ w'.ownsRow w.heap.size 9 1 v (erR n).length (sC (erR n))) ∧ Ext w w' := by
  obtain ⟨i0, hi0, hz0, hz1, hz2⟩ := info_parts s_info
  have Hn := Lib.hid hn
  obtain ⟨U, hU⟩ : ∃ U, w.alloc (.cells #[.string ⟨#[]⟩] 9) = U := ⟨_, rfl⟩
  have HE0 := Lib.hid (show Ext w U by rw [← hU]; exact ext_al _ _)
  have HO0 := Lib.hid (show U.ownsRow w.heap.size 9 1 (.slice (some ⟨w.heap.size, 0, none⟩) 1 1) 1 (sC (erR 0)) by rw [← hU]; exact oneS w _ _ (Nat.le_refl _))
  have HU := Lib.hid hU
  clear hn hU
  go_enter Tryd.func20, Tryd.ntmps20
  go_upto_region 2 with fail
  rw [HU.out]
  clear HU
  go_wp2_with fail
  go_loopg [3, 4] n (fun kk s3 s4 wr => Ext w wr ∧ ∃ i : Nat, s4 = .int .i64 (i : Int) ∧ i ≤ n ∧ n - i = kk ∧ wr.ownsRow w.heap.size 9 1 s3 (erR i).length (sC (erR i)))
  case atStart => exact ⟨HE0.out, 0, rfl, Nat.zero_le _, rfl, HO0.out⟩
  case round =>
    obtain ⟨wA, hwA⟩ : ∃ wA, wA = wr := ⟨wr, rfl⟩
    subst hwA
    obtain ⟨hER, i, rfl, hi, hkk, hown⟩ := hrel
    have HER := Lib.hid hER; have Hkk := Lib.hid hkk; have Hown := Lib.hid hown
    by_cases hin : i = n
    · have q1 : ¬ (i : Int) < (n : Int) := by omega
      subst hin
      clear hER hkk hown hi
      go_wp2_with fail
      go_ret
      exact ⟨⟨_, rfl, Hown.out⟩, HER.out⟩
    have hlt : i < n := by omega
    have q1 : (i : Int) < (n : Int) := by omega
    have wk : IntKind.i64.wrap ((i : Int) + 1) = ((i + 1 : Nat) : Int) := by rw [IntKind.wrap_i64]; have := Hn.out; omega
    obtain ⟨E, hE⟩ : ∃ E, erR i = E := ⟨_, rfl⟩
    obtain ⟨L, hL⟩ : ∃ L, E.length = L := ⟨_, rfl⟩
    have hL4 : L ≤ 256 := by
      rw [← hL, ← hE, erR_len]
      have : 4 ^ i ≤ 4 ^ 4 := Nat.pow_le_pow_right (by decide) (by have := Hn.out; omega)
      have h : (4 : Nat) ^ 4 = 256 := by decide
      omega
    have HEl := Lib.hid (fun (e : List UInt8) (he : e ∈ E) => show e.length ≤ 5 by rw [← hE] at he; have h1 := ((erR_let i e).1 he).1; have := Hn.out; omega)
    have HSc := Lib.hid (show erR (i + 1) = E.flatMap er4 by rw [erR_succ, hE])
    rw [hE] at Hown
    rw [hL] at Hown
    have HL := Lib.hid (And.intro hL hL4); have Hlt := Lib.hid hlt
    obtain ⟨base, hbase⟩ : ∃ base, wA.heap.size = base := ⟨_, rfl⟩
    have HwB := Lib.hid (show w.heap.size ≤ base by rw [← hbase]; exact hER.size)
    obtain ⟨a3, c3, e3, hac, hcm, hS3⟩ := strs_of_own Hown.out
    subst e3
    have HS3 := Lib.hid hS3
    have HB := Lib.hid hbase
    clear hER hkk hown hi hin hlt hE hL hL4 hbase hS3 hac hcm
    go_wp2_with fail
    go_loopg [5, 6] L (fun kk s5 s6 wm => Ext wA wm ∧ ∃ k : Nat, s6 = .int .i64 (k : Int) ∧ k ≤ L ∧ L - k = kk ∧ wm.ownsRow base 9 1 s5 (4 * k) (sC ((E.take k).flatMap er4)))
    case atStart => exact ⟨Ext.refl _, 0, rfl, Nat.zero_le _, rfl, ⟨rfl, Or.inl ⟨rfl, rfl⟩⟩⟩
    case round =>
      obtain ⟨wM, hwM⟩ : ∃ wM, wM = wr := ⟨wr, rfl⟩
      subst hwM
      obtain ⟨hEM, k, rfl, hk, hkk2, hown2⟩ := hrel
      have HEM := Lib.hid hEM; have Hkk2 := Lib.hid hkk2; have Hown2 := Lib.hid hown2
      by_cases hkn : k = L
      · have p1 : ¬ (k : Int) < (L : Int) := by omega
        have Hfin := Lib.hid (show (E.take k).flatMap er4 = erR (i + 1) ∧ 4 * k = (erR (i + 1)).length by
          have h1 : E.take k = E := List.take_of_length_le (by have := HL.out.1; omega)
          rw [h1, HSc.out, flat4_len, HL.out.1, hkn]
          exact ⟨rfl, rfl⟩)
        clear hEM hk hkk2 hown2 hkn
        go_wp2_with fail
        go_roundg (n - (i + 1))
        case measure => have := Hkk.out; have := Hlt.out; omega
        case rel => exact ⟨HER.out.trans HEM.out, i + 1, rfl, Hlt.out, rfl, by rw [← Hfin.out.1, Hfin.out.1, ← Hfin.out.2, ← Hfin.out.1]; exact own_low Hown2.out HwB.out⟩
      have hklt : k < L := by omega
      have p1 : (k : Int) < (L : Int) := by omega
      have p0 : (0 : Int) ≤ (k : Int) := by omega
      have wk2 : IntKind.i64.wrap ((k : Int) + 1) = ((k + 1 : Nat) : Int) := by rw [IntKind.wrap_i64]; have := HL.out.2; omega
      obtain ⟨e, he⟩ : ∃ e, E[k]? = some e := ⟨_, List.getElem?_eq_getElem (by have := HL.out.1; omega)⟩
      have hel := HEl.out e (List.mem_of_getElem? he)
      have Hft := Lib.hid (flat_take he)
      obtain ⟨b3, o3, rfl, _, hcs⟩ := HS3.out.at (by omega)
      have hgd : E.getD k [] = e := by rw [List.getD_eq_getElem?_getD, he]; rfl
      have hcell := hcs k hklt
      rw [hgd] at hcell
      have Hcell := Lib.hid hcell
      obtain ⟨R, hR⟩ : ∃ R, (E.take k).flatMap er4 = R := ⟨_, rfl⟩
      rw [hR] at Hown2 Hft
      have Hklt := Lib.hid hklt; have Hel := Lib.hid hel
      clear hEM hk hkk2 hown2 hkn hklt he hcs hgd hR hel hcell
      go_wp2_with fail
      go_loopg [5, 7] 4 (fun kk s5 s7 wn => Ext wA wn ∧ ∃ j : Nat, s7 = .int .i64 (j : Int) ∧ j ≤ 4 ∧ 4 - j = kk ∧ wn.ownsRow base 9 1 s5 (4 * k + j) (sC (R ++ (er4 e).take j)))
      case atStart => exact ⟨HEM.out, 0, rfl, by decide, rfl, by rw [List.take_zero, List.append_nil]; exact Hown2.out⟩
      case round =>
        obtain ⟨wn, hwn⟩ : ∃ wn, wn = wr := ⟨wr, rfl⟩
        subst hwn
        obtain ⟨hEN, j, rfl, hj, hkk3, hown3⟩ := hrel
        have HEN := Lib.hid hEN; have Hkk3 := Lib.hid hkk3; have Hown3 := Lib.hid hown3
        by_cases hj4 : j = 4
        · subst hj4
          have Hf4 := Lib.hid (show R ++ (er4 e).take 4 = (E.take (k + 1)).flatMap er4 by rw [Hft.out]; rfl)
          clear hEN hj hkk3 hown3
          go_wp2_with fail
          go_roundg (L - (k + 1))
          case measure => have := Hkk2.out; have := Hklt.out; omega
          case rel => exact ⟨HEN.out, k + 1, rfl, Hklt.out, rfl, by rw [← Hf4.out]; exact Hown3.out⟩
        have p2 : (j : Int) < 4 := by omega
        have p3 : (0 : Int) ≤ (j : Int) := by omega
        have p4 : ((j + 1 : Nat) : Int) ≤ 4 := by omega
        have p5 : (j : Int) ≤ ((j + 1 : Nat) : Int) := by omega
        have p6 : (0 : Int) ≤ (j : Int) + 1 := by omega
        have p7 : (j : Int) + 1 ≤ 4 := by omega
        have p8 : (j : Int) ≤ (j : Int) + 1 := by omega
        have wk3 : IntKind.i64.wrap ((j : Int) + 1) = ((j + 1 : Nat) : Int) := by rw [IntKind.wrap_i64]; omega
        obtain ⟨c, hc⟩ : ∃ c, ([73, 88, 89, 90] : List UInt8)[j]? = some c := ⟨_, List.getElem?_eq_getElem (show j < ([73, 88, 89, 90] : List UInt8).length by show j < 4; omega)⟩
        have hp3 := one_piece hc
        have hz3 : (⟨([73, 88, 89, 90] : List UInt8).toArray⟩ : ByteArray).size = 4 := rfl
        have hcat : (⟨e.toArray⟩ : ByteArray) ++ ⟨#[c]⟩ = ⟨(e ++ [c]).toArray⟩ := by rw [show (⟨#[c]⟩ : ByteArray) = ⟨([c] : List UInt8).toArray⟩ from rfl, str_append]
        have hs1 : ¬ 9223372036854775807 < e.length + 1 := by have := Hel.out; omega
        have HR4 := Lib.hid (show sC (R ++ (er4 e).take (j + 1)) = sC (R ++ (er4 e).take j) ++ [.string ⟨(e ++ [c]).toArray⟩] by rw [er4_take hc, ← List.append_assoc, sC_snoc])
        have c0 := cell_ext Hcell.out hEN
        obtain ⟨X, hX⟩ : ∃ X, sC (R ++ (er4 e).take j) = X := ⟨_, rfl⟩
        rw [hX] at Hown3 HR4
        obtain ⟨P2, hP2⟩ : ∃ P2, e ++ [c] = P2 := ⟨_, rfl⟩
        rw [hP2] at hcat HR4
        have hbw : base ≤ wn.heap.size := by rw [← HB.out]; exact hEN.size
        have Hbw := Lib.hid hbw; have Hj4 := Lib.hid (show j + 1 ≤ 4 by omega)
        clear hEN hj hkk3 hown3 hj4 hc hX hP2 hbw
        go_upto_region 12 with fail
        obtain ⟨v', w', hap, hown', hgr, _⟩ := run_append_own (P := Tryd.prog) ((wn.alloc (.cells #[.string ⟨P2.toArray⟩] 9)).drew) base 22 22 9 i0 (.string ⟨#[]⟩) 1 16 Tryd.underlying22 hi0 hz0 hz1 hz2 rfl (by decide) _ (4 * k + j) X (own_kpt Hown3.out (Below.drew (ext_al _ _))) ⟨wn.heap.size, 0, none⟩ 1 1 [.string ⟨P2.toArray⟩] rfl (fun j u hj => by
          have hr := ((Below.drew (Ext.refl _) : Ext (wn.alloc (.cells #[.string ⟨P2.toArray⟩] 9)) _).block wn.heap.size (by simp)).trans (heap_alloc_new _ _)
          cases j with
          | zero =>
            have : Value.string ⟨P2.toArray⟩ = u := by simpa using hj
            rw [← this]
            show World.cell? _ ⟨wn.heap.size, 0, none⟩ = _
            rw [cell_of_row _ _ 0 _ _ (0, 0) hr]; rfl
          | succ j => simp at hj) (by simp [Value.oneCell']) (by unfold maxLen; have := HL.out; have := Hklt.out; have := Hj4.out; omega) (by have := HL.out; have := Hklt.out; have := Hj4.out; omega) (Nat.le_trans Hbw.out (Below.drew (ext_al wn _) : Ext wn _).size)
        have Hnew := Lib.hid (And.intro hown' (grown_ext (HEN.out.trans (Below.drew (ext_al wn _))) hgr (fun kq hkq => by
          have h1 := (own_lt Hown3.out kq hkq).1
          have h2 := HB.out
          omega)))
        have Hap := Lib.hid hap
        clear hap hown' hgr
        go_region_law (refine stepK_append (by rfl) _ _ 22 (by rfl) _ _ _ (by rfl) (by rfl) Hap.out ?_)
        all_goals
          clear Hap c0 hcat hp3
          go_wp2_with fail
          go_roundg (4 - (j + 1))
          case measure => have := Hkk3.out; have := Hj4.out; omega
          case rel => exact ⟨Hnew.out.2, j + 1, rfl, Hj4.out, rfl, by rw [HR4.out]; exact Hnew.out.1⟩
end Go.Proofs.YtfoncakadficlaaDoor
