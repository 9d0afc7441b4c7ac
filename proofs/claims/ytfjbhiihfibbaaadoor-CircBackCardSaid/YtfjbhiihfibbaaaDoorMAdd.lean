/-
  make and copy at words, as steps of a walk.
-/
import Derived.Test.YtfjbhiihfibbaaaDoorMBits
import Derived.Laws.CopyOwn
import Derived.Test.YtfjbhiihfibbaaaDoorMTrim
import Derived.BigQuiet
import Derived.Deep.QuietTactic

namespace Go.Proofs.YtfjbhiihfibbaaaDoor
open Go.RowKit

theorem info_u64 : (Tryd.prog.info? 107).map (fun i => (i.zero, i.size, i.bytes)) = some (some (.int .u64 0), 1, 8) := by kernel_rfl
theorem size_u64 : (Tryd.prog.info? 107).map (·.size) = some 1 := by kernel_rfl

theorem row_of_made {w w' : World} {base n : Nat} {e : TypeId} (h : w'.ownsRow base e 1 (.slice (some ⟨w.heap.size, 0, none⟩) n n) n (madeCells (Value.int .u64 0).cells (n * 1)).toList) :
    Row w' w.heap.size (List.replicate n 0) := by
  obtain ⟨_, h | ⟨g, cap, cur, hv, _, hh, _, _, hsz, ht⟩⟩ := h
  · simp at h
  · simp only [Value.slice.injEq, Option.some.injEq, Addr.mk.injEq, and_true, true_and] at hv
    obtain ⟨hg, rfl⟩ := hv
    subst hg
    refine ⟨e, ?_⟩
    rw [hh]
    congr 2
    apply Array.toList_inj.1
    have e1 : cur.toList.take (n * 1) = cur.toList := List.take_of_length_le (by rw [Array.length_toList, hsz]; exact Nat.le_refl _)
    have e2 : (Value.int .u64 0).cells = #[Value.int .u64 0] := rfl
    rw [e1, e2, Nat.mul_one, toList_madeCells_one] at ht
    rw [ht]
    simp

theorem Only.setRow (w : World) (g : Nat) (cs : Array Value) : Only g w (w.setRow g cs) :=
  ⟨rfl, rfl, rfl, by simp [World.setRow], fun k hk => setRow_other w g k cs (by omega)⟩

/-- What a call on words answers: a slice of new words or old ones, without noughts at the end. -/
def Num (w : World) (v : Value) (x : Nat) : Prop :=
  ∃ (ao : Option Addr) (l : List Nat) (c : Nat), v = .slice ao l.length c ∧ l.length ≤ c ∧ c ≤ maxLen ∧ Seg w ao l ∧ Dig l ∧ Nrm l ∧ val l = x

theorem Num.ext {w w' : World} {v : Value} {x : Nat} (h : Num w v x) (k : Ext w w') : Num w' v x := by
  obtain ⟨ao, l, c, h1, h2, h3, h4, h5⟩ := h
  exact ⟨ao, l, c, h1, h2, h3, h4.ext k, h5⟩

theorem Num.cast {w : World} {v : Value} {x y : Nat} (h : Num w v x) (e : x = y) : Num w v y := e ▸ h

theorem Ext.only {w w1 w2 : World} {g : Nat} (h : Ext w w1) (k : Only g w1 w2) (hg : w.heap.size ≤ g) : Ext w w2 := Below.trans h (k.below hg)

/-- What trim answers of words. -/
theorem num_trim {w : World} {ao : Option Addr} {l : List Nat} (hs : Seg w ao l) (hd : Dig l) (hm : l.length ≤ maxLen) : Num w (.slice ao (nlen l) (nlen l)) (val l) := by
  have hl := nlen_le l
  have e : (l.take (nlen l)).length = nlen l := by rw [List.length_take]; omega
  exact ⟨ao, l.take (nlen l), nlen l, by rw [e], by rw [e]; exact Nat.le_refl _, by omega, hs.take _, hd.take _, Nrm_take l, val_take_nlen l⟩

theorem Seg.block_lt {w : World} {ao : Option Addr} {l : List Nat} (h : Seg w ao l) : ∀ a, ao = some a → a.block < w.heap.size := by
  rcases h with ⟨rfl, _⟩ | ⟨b, o, rfl, hb, _⟩
  · intro a ha; cases ha
  · intro a ha; cases ha; exact hb

theorem Seg.block_ne {w : World} {ao : Option Addr} {l : List Nat} (h : Seg w ao l) {g : Nat} (hg : w.heap.size ≤ g) : ∀ a, ao = some a → a.block ≠ g :=
  fun a ha => by have := h.block_lt a ha; omega

theorem Seg.only_new {w w1 w2 : World} {ao : Option Addr} {l : List Nat} (h : Seg w ao l) (k1 : Ext w w1) {g : Nat} (hg : w.heap.size ≤ g) (k : Only g w1 w2) : Seg w2 ao l :=
  (h.ext k1).only k (h.block_ne hg)

/-- It lies in memory that the call has made. -/
def Fresh (w : World) (v : Value) : Prop := ∀ a n c, v = .slice (some a) n c → w.heap.size ≤ a.block
theorem Fresh.mk {w : World} {b o n c : Nat} (h : w.heap.size ≤ b) : Fresh w (.slice (some ⟨b, o, none⟩) n c) := fun a n' c' e => by cases e; exact h

theorem Dig.replicate (n : Nat) : Dig (List.replicate n 0) := fun x hx => by rw [List.eq_of_mem_replicate hx]; exact B64_pos
theorem val_replicate (n : Nat) : val (List.replicate n 0) = 0 := by
  induction n with
  | zero => rfl
  | succ n ih => rw [List.replicate_succ, val, ih, Nat.mul_zero]

theorem seg_all (L : List Nat) : seg L 0 L.length = L := by simp [seg]

theorem Row.segAll {w : World} {b : Nat} {L : List Nat} (h : Row w b L) : Seg w (some ⟨b, 0, none⟩) L := by
  have := h.seg 0 L.length (by omega)
  simpa using this

end Go.Proofs.YtfjbhiihfibbaaaDoor

/-
  addWords: sums of words.
-/
namespace Go.Proofs.YtfjbhiihfibbaaaDoor
open Go.RowKit

/-- The words la ahead of noughts, n in all. -/
def pad (la : List Nat) (n : Nat) : List Nat := la ++ List.replicate (n - la.length) 0
theorem pad_length (la : List Nat) (n : Nat) (h : la.length ≤ n) : (pad la n).length = n := by simp [pad]; omega
theorem pad_val (la : List Nat) (n : Nat) : val (pad la n) = val la := by rw [pad, val_append, val_replicate]; omega
theorem pad_dig {la : List Nat} (h : Dig la) (n : Nat) : Dig (pad la n) := h.append (Dig.replicate _)
theorem pad_copy (la : List Nat) (n : Nat) : List.take 0 (List.replicate n 0) ++ (la ++ List.drop (0 + la.length) (List.replicate n 0)) = pad la n := by
  simp [pad]

theorem val_lt_two {l1 l2 : List Nat} (d1 : Dig l1) (d2 : Dig l2) (h : l2.length ≤ l1.length) : val l1 + val l2 < B64 ^ (l1.length + 1) := by
  have h1 := val_lt d1
  have h2 := val_lt d2
  have h3 : B64 ^ l2.length ≤ B64 ^ l1.length := Nat.pow_le_pow_right B64_pos h
  rw [Nat.pow_succ]
  have h4 : B64 ^ l1.length * 2 ≤ B64 ^ l1.length * B64 := Nat.mul_le_mul_left _ (by unfold B64; omega)
  omega

/-- A sum in words that are enough for it: nothing is carried on. -/
theorem no_carry {V X carry n : Nat} (h : V + B64 ^ n * carry = X) (hX : X < B64 ^ n) : carry = 0 ∧ V = X := by
  have : carry = 0 := by
    cases carry with
    | zero => rfl
    | succ k => rw [Nat.mul_add, Nat.mul_one] at h; omega
  subst this
  exact ⟨rfl, by omega⟩

/-- What is left to say of a row that was made, copied into and added to. -/
theorem sum_done {l1 l2 M : List Nat} {n carry : Nat} (d1 : Dig l1) (d2 : Dig l2) (h : l2.length ≤ l1.length) (hn : n = l1.length + 1) (hT : Turned (pad l1 n) M 0 n) (hv : val (seg M 0 n) + B64 ^ n * carry = val (seg (pad l1 n) 0 n) + val l2) :
    M.length = n ∧ val M = val l1 + val l2 := by
  have hlM : M.length = n := by rw [hT.1, pad_length _ _ (by omega)]
  refine ⟨hlM, ?_⟩
  have e1 : seg M 0 n = M := by rw [← hlM]; exact seg_all M
  have e2 : seg (pad l1 n) 0 n = pad l1 n := by
    have := seg_all (pad l1 n); rwa [pad_length _ _ (by omega)] at this
  rw [e1, e2, pad_val] at hv
  have := (no_carry hv (by rw [hn]; exact val_lt_two d1 d2 h)).2
  omega

end Go.Proofs.YtfjbhiihfibbaaaDoor

/-
  subWords: differences of words.
-/
namespace Go.Proofs.YtfjbhiihfibbaaaDoor
open Go.RowKit

/-- A difference that is not below nought: nothing is borrowed in the end. -/
theorem no_borrow {V X Y c n : Nat} (h : V + X = Y + B64 ^ n * c) (hXY : X ≤ Y) (hV : V < B64 ^ n) : c = 0 ∧ V = Y - X := by
  have : c = 0 := by
    cases c with
    | zero => rfl
    | succ k => rw [Nat.mul_add, Nat.mul_one] at h; omega
  subst this
  exact ⟨rfl, by omega⟩

end Go.Proofs.YtfjbhiihfibbaaaDoor

/-
  mulPlain: products of words, word by word.
-/
namespace Go.Proofs.YtfjbhiihfibbaaaDoor
open Go.RowKit

theorem seg_getD (L : List Nat) (o n t : Nat) (h : t < n) : (seg L o n).getD t 0 = L.getD (o + t) 0 := by
  unfold seg
  rw [List.getD_eq_getElem?_getD, List.getD_eq_getElem?_getD, List.getElem?_take, if_pos h, List.getElem?_drop]

theorem mulPlain_step {M M' l1 : List Nat} {k n1 N d over X : Nat} (hM : M.length = N) (hk : k + n1 < N) (hT : Turned M M' k n1) (hinv : val (seg M 0 (k + n1)) = X)
    (hv : val (seg M' k n1) + B64 ^ n1 * over = val (seg M k n1) + val l1 * d) :
    val (seg (M'.set (k + n1) over) 0 (k + 1 + n1)) = X + B64 ^ k * (val l1 * d) := by
  have hM' : M'.length = N := by rw [hT.1]; exact hM
  have e0 : k + 1 + n1 = (k + n1) + 1 := by omega
  rw [e0, val_seg_succ _ 0 (k + n1) (by rw [List.length_set]; omega), Nat.zero_add, getD_set_eq _ _ _ (by omega)]
  have e1 : seg (M'.set (k + n1) over) 0 (k + n1) = seg M' 0 (k + n1) := seg_congr _ _ _ _ (by rw [List.length_set]) (fun t _ ht => getD_set_ne _ _ _ _ (by omega))
  rw [e1, val_seg_split M' 0 k (k + n1) (by omega) (by omega)]
  have e2 : seg M' 0 k = seg M 0 k := seg_congr _ _ _ _ (by omega) (fun t _ ht => hT.2 t (by omega))
  rw [val_seg_split M 0 k (k + n1) (by omega) (by omega)] at hinv
  have e3 : k + n1 - k = n1 := by omega
  rw [e2, e3, Nat.zero_add, Nat.pow_add, Nat.mul_assoc]
  rw [e3, Nat.zero_add] at hinv
  have e4 : B64 ^ k * (val (seg M' k n1) + B64 ^ n1 * over) = B64 ^ k * (val (seg M k n1) + val l1 * d) := by rw [hv]
  rw [Nat.mul_add, Nat.mul_add] at e4
  omega

end Go.Proofs.YtfjbhiihfibbaaaDoor

/-
  cmp.Compare at int and uint64; compareWords.
-/
namespace Go.Proofs.YtfjbhiihfibbaaaDoor
open Go.RowKit

/-- -1, 0 or 1. -/
def cmp3 (x y : Int) : Int := if x < y then -1 else if y < x then 1 else 0

theorem cmp3_lt {x y : Int} (h : x < y) : cmp3 x y = -1 := by simp [cmp3, h]
theorem cmp3_gt {x y : Int} (h : y < x) : cmp3 x y = 1 := by
  have : ¬ x < y := by omega
  simp [cmp3, h, this]
theorem cmp3_eq (x : Int) : cmp3 x x = 0 := by simp [cmp3]

theorem Ext.drewN {w w' : World} (h : Ext w w') (n : Nat) : Ext w (w'.drewN n) := by
  induction n with
  | zero => exact h
  | succ n ih => exact Below.drew ih

theorem cmp3_at {l1 l2 : List Nat} {k x y : Nat} (hl : l1.length = l2.length) (d1 : Dig l1) (d2 : Dig l2) (hp : 0 < k) (hk : k ≤ l1.length) (heq : ∀ t, k ≤ t → l1.getD t 0 = l2.getD t 0) (hx : l1.getD (k - 1) 0 = x) (hy : l2.getD (k - 1) 0 = y) (hne : x ≠ y) :
    cmp3 x y = cmp3 (val l1) (val l2) := by
  rcases Nat.lt_or_gt_of_ne hne with h | h
  · have := val_lt_at hl d1 (k - 1) (by omega) (fun t ht => heq t (by omega)) (by rw [hx, hy]; exact h)
    rw [cmp3_lt (by omega), cmp3_lt (by omega)]
  · have := val_lt_at hl.symm d2 (k - 1) (by omega) (fun t ht => (heq t (by omega)).symm) (by rw [hx, hy]; exact h)
    rw [cmp3_gt (by omega), cmp3_gt (by omega)]

end Go.Proofs.YtfjbhiihfibbaaaDoor
