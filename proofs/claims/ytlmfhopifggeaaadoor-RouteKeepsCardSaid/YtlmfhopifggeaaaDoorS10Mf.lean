/-
  Devices in plain numbers: what is wrong with links; the web tells the links. Nothing of the program stands here. Devices in memory; the program's look at links. Devices: the links of a device, or its first fault, as the program finds them. Devices: the reference: which qubits are linked; the first fault of a device.
-/
import Derived.Test.YtlmfhopifggeaaaDoorRows
import Derived.BigQuiet
import Derived.Deep.CutRange
import Derived.Deep.LoopGhost
import Derived.Deep.RegionHeld3
import Derived.Lib.Hide
import Derived.WalkKit
import Derived.WalkLawsBesides
import Derived.WalkSpells
import Derived.Test.YtlmfhopifggeaaaDoorS00Mem
import Derived.Test.YtlmfhopifggeaaaDoorS02ZBq
import Derived.Test.YtlmfhopifggeaaaDoorS06Xfq
import Derived.Test.YtlmfhopifggeaaaDoorS07Cn
import Derived.Test.YtlmfhopifggeaaaDoorS08Cj
import Derived.Test.YtlmfhopifggeaaaDoorS09Mb
namespace Go.Proofs.YtlmfhopifggeaaaDoor
abbrev Lnk := Int × Int
/-- Are two qubits linked? -/
def lkd (ls : List Lnk) (a b : Int) : Bool := ls.any fun k => (k.1 == a && k.2 == b) || (k.1 == b && k.2 == a)
/-- What is wrong with a link behind others. -/
def lnkC (N : Int) (seen : List Lnk) (k : Lnk) : Int :=
  if k.1 < 0 ∨ N ≤ k.1 ∨ k.2 < 0 ∨ N ≤ k.2 then 10 else if k.1 = k.2 then 12 else if lkd seen k.1 k.2 then 27 else 0
/-- The first fault of links from number i on. -/
def lnF (N : Int) (ls : List Lnk) : Nat → Nat → Int × Int
  | 0, _ => (0, 0)
  | r + 1, i => if lnkC N (ls.take i) (ls.getD i (0, 0)) ≠ 0 then (lnkC N (ls.take i) (ls.getD i (0, 0)), (i : Int)) else lnF N ls r (i + 1)
def addL (W : List Nat) (k : Lnk) : List Nat := (W.set k.1.toNat (W.getD k.1.toNat 0 ||| 2 ^ k.2.toNat)).set k.2.toNat ((W.set k.1.toNat (W.getD k.1.toNat 0 ||| 2 ^ k.2.toNat)).getD k.2.toNat 0 ||| 2 ^ k.1.toNat)
/-- Of each qubit those that it is linked to. -/
def webOf (ls : List Lnk) : List Nat := ls.foldl addL (List.replicate 12 0)
def lnOk (N : Int) (ls : List Lnk) (n : Nat) : Prop := ∀ i, i < n → lnkC N (ls.take i) (ls.getD i (0, 0)) = 0
theorem lnF_zero (N : Int) (ls : List Lnk) : ∀ r i, (lnF N ls r i).1 = 0 → lnF N ls r i = (0, 0) ∧ ∀ j, i ≤ j → j < i + r → lnkC N (ls.take j) (ls.getD j (0, 0)) = 0
  | 0, i, _ => ⟨rfl, fun j h1 h2 => by omega⟩
  | r + 1, i, h => by
    unfold lnF at h ⊢
    by_cases e : lnkC N (ls.take i) (ls.getD i (0, 0)) ≠ 0
    · rw [if_pos e] at h; exact absurd h e
    · rw [if_neg e] at h ⊢
      obtain ⟨h1, h2⟩ := lnF_zero N ls r (i + 1) h
      refine ⟨h1, fun j hj hk => ?_⟩
      by_cases e2 : j = i
      · subst e2; omega
      · exact h2 j (by omega) (by omega)
theorem lnkC_zero {N : Int} {seen : List Lnk} {k : Lnk} (h : lnkC N seen k = 0) : (0 ≤ k.1 ∧ k.1 < N) ∧ (0 ≤ k.2 ∧ k.2 < N) ∧ k.1 ≠ k.2 ∧ lkd seen k.1 k.2 = false := by
  unfold lnkC at h
  split at h
  · omega
  split at h
  · omega
  split at h
  · omega
  rename_i h1 h2 h3
  exact ⟨by omega, by omega, h2, by simpa using h3⟩
theorem addL_len (W : List Nat) (k : Lnk) : (addL W k).length = W.length := by unfold addL; simp
theorem getD_set (W : List Nat) (i j v : Nat) (hi : i < W.length) : (W.set i v).getD j 0 = if i = j then v else W.getD j 0 := by
  rw [List.getD_eq_getElem?_getD, List.getElem?_set, List.getD_eq_getElem?_getD]
  by_cases e : i = j
  · rw [if_pos e, if_pos hi, if_pos e]; rfl
  · rw [if_neg e, if_neg e]
theorem addL_lk (W : List Nat) (k : Lnk) (h1 : k.1.toNat < W.length) (h2 : k.2.toNat < W.length) (x y : Nat) : lk (addL W k) x y = (lk W x y || (x == k.1.toNat && y == k.2.toNat) || (x == k.2.toNat && y == k.1.toNat)) := by
  unfold lk addL
  rw [getD_set _ _ _ _ (by simpa using h2), getD_set _ _ _ _ h1, getD_set _ _ _ _ h1]
  obtain ⟨a, b⟩ := k
  simp only at *
  generalize a.toNat = a at *
  generalize b.toNat = b at *
  have t1 : ∀ i j : Nat, (2 ^ i).testBit j = (j == i) := fun i j => by
    rw [Nat.testBit_two_pow]
    by_cases e : i = j
    · subst e; simp
    · have : ¬ j = i := fun h => e h.symm
      simp [e, this]
  by_cases ex1 : b = x
  · subst ex1
    rw [if_pos rfl, Nat.testBit_or, t1]
    by_cases ex2 : a = b
    · subst ex2
      rw [if_pos rfl, Nat.testBit_or, t1]
      simp
    · rw [if_neg ex2]
      have : (b == a) = false := by simpa using fun h : b = a => ex2 h.symm
      simp [this]
  · have hx : (x == b) = false := by simpa using fun h : x = b => ex1 h.symm
    rw [if_neg ex1, hx]
    by_cases ex2 : a = x
    · subst ex2
      rw [if_pos rfl, Nat.testBit_or, t1]
      simp
    · have hx2 : (x == a) = false := by simpa using fun h : x = a => ex2 h.symm
      rw [if_neg ex2, hx2]
      simp
theorem take_snoc {ls : List Lnk} {i : Nat} (h : i < ls.length) : ls.take (i + 1) = ls.take i ++ [ls.getD i (0, 0)] := by
  rw [List.take_add_one, List.getElem?_eq_getElem h, List.getD_eq_getElem?_getD, List.getElem?_eq_getElem h]; rfl
theorem webOf_snoc (ls : List Lnk) (k : Lnk) : webOf (ls ++ [k]) = addL (webOf ls) k := by unfold webOf; rw [List.foldl_append]; rfl
theorem lkd_snoc (ls : List Lnk) (k : Lnk) (a b : Int) : lkd (ls ++ [k]) a b = (lkd ls a b || ((k.1 == a && k.2 == b) || (k.1 == b && k.2 == a))) := by unfold lkd; rw [List.any_append]; simp
theorem lk_zero (x y : Nat) : lk (List.replicate 12 0) x y = false := by
  unfold lk
  rw [List.getD_eq_getElem?_getD, List.getElem?_replicate]
  split <;> simp
/-- The web tells the links. -/
theorem web_tells {N : Int} (hN : N ≤ 12) (ls : List Lnk) : ∀ i, i ≤ ls.length → lnOk N ls i → (webOf (ls.take i)).length = 12 ∧ ∀ x y : Nat, lk (webOf (ls.take i)) x y = lkd (ls.take i) (x : Int) (y : Int)
  | 0, _, _ => ⟨by simp [webOf], fun x y => by rw [List.take_zero]; exact lk_zero x y⟩
  | i + 1, hi, hok => by
    obtain ⟨h1, h2⟩ := web_tells hN ls i (by omega) (fun j hj => hok j (by omega))
    obtain ⟨⟨a1, a2⟩, ⟨b1, b2⟩, _, _⟩ := lnkC_zero (hok i (by omega))
    rw [take_snoc (by omega)]
    obtain ⟨k, hk⟩ : ∃ k, ls.getD i (0, 0) = k := ⟨_, rfl⟩
    rw [hk] at a1 a2 b1 b2 ⊢
    refine ⟨by rw [webOf_snoc, addL_len, h1], fun x y => ?_⟩
    rw [webOf_snoc, addL_lk _ _ (by omega) (by omega), lkd_snoc, h2, Bool.or_assoc]
    have e1 : ∀ (z : Nat) (c : Int), 0 ≤ c → (z == c.toNat) = (c == (z : Int)) := fun z c hc => by
      by_cases e : c = (z : Int)
      · subst e; simp
      · have : ¬ z = c.toNat := by omega
        rw [beq_eq_false_iff_ne.2 this, beq_eq_false_iff_ne.2 e]
    rw [e1 _ _ a1, e1 _ _ b1, e1 _ _ a1, e1 _ _ b1]
    cases lkd (ls.take i) (x : Int) (y : Int) <;> cases (k.1 == (x : Int)) <;> cases (k.2 == (y : Int)) <;> cases (k.1 == (y : Int)) <;> cases (k.2 == (x : Int)) <;> rfl
theorem lkd_mem {ls : List Lnk} {a b : Int} (h : lkd ls a b = true) : ∃ i, i < ls.length ∧ ((ls.getD i (0, 0)).1 = a ∧ (ls.getD i (0, 0)).2 = b ∨ (ls.getD i (0, 0)).1 = b ∧ (ls.getD i (0, 0)).2 = a) := by
  unfold lkd at h
  obtain ⟨k, hk, e⟩ := List.any_eq_true.1 h
  obtain ⟨i, hi, rfl⟩ := List.mem_iff_getElem.1 hk
  refine ⟨i, hi, ?_⟩
  rw [List.getD_eq_getElem?_getD, List.getElem?_eq_getElem hi]
  simpa using e
theorem lkd_comm (ls : List Lnk) (a b : Int) : lkd ls a b = lkd ls b a := by
  unfold lkd
  congr 1
  funext k
  exact Bool.or_comm _ _
theorem web_ok {N : Int} (h1 : 1 ≤ N) (hN : N ≤ 12) (ls : List Lnk) (hok : lnOk N ls ls.length) : WebOk (webOf ls) N.toNat ∧ ∀ x y : Nat, lk (webOf ls) x y = lkd ls (x : Int) (y : Int) := by
  obtain ⟨hl, ht⟩ := web_tells hN ls ls.length (Nat.le_refl _) hok
  rw [List.take_length] at hl ht
  refine ⟨⟨hl, by omega, fun a b h => ?_, fun a b h => ?_⟩, ht⟩
  · rw [ht] at h
    obtain ⟨i, hi, e⟩ := lkd_mem h
    obtain ⟨p1, p2, p3, _⟩ := lnkC_zero (hok i hi)
    omega
  · rw [ht] at h ⊢
    rw [lkd_comm]; exact h
/-- The first fault of a device. -/
def devF (N : Int) (ls : List Lnk) : Int × Int :=
  if N < 1 ∨ 12 < N then (6, 0)
  else if (lnF N ls ls.length 0).1 ≠ 0 then lnF N ls ls.length 0
  else if bal (webOf ls) 1 (N.toNat - 1) = 2 ^ N.toNat - 1 then (0, 0)
  else (37, 0)
/-- A device without a fault. -/
structure DevOk (N : Int) (ls : List Lnk) : Prop where
  n1 : 1 ≤ N
  n12 : N ≤ 12
  web : WebOk (webOf ls) N.toNat
  tells : ∀ x y : Nat, lk (webOf ls) x y = lkd ls (x : Int) (y : Int)
  conn : Conn (webOf ls) N.toNat
theorem dev_ok {N : Int} {ls : List Lnk} (h : (devF N ls).1 = 0) : DevOk N ls ∧ devF N ls = (0, 0) := by
  unfold devF at h ⊢
  by_cases h1 : N < 1 ∨ 12 < N
  · rw [if_pos h1] at h; exact absurd h (by decide)
  rw [if_neg h1] at h ⊢
  by_cases h2 : (lnF N ls ls.length 0).1 ≠ 0
  · rw [if_pos h2] at h; exact absurd h h2
  rw [if_neg h2] at h ⊢
  by_cases h3 : bal (webOf ls) 1 (N.toNat - 1) = 2 ^ N.toNat - 1
  · obtain ⟨_, h4⟩ := lnF_zero N ls ls.length 0 (by omega)
    obtain ⟨h5, h6⟩ := web_ok (by omega) (by omega) ls (fun j hj => h4 j (Nat.zero_le _) (by omega))
    rw [if_pos h3]
    exact ⟨⟨by omega, by omega, h5, h6, (reached_iff h5 (by omega)).1 h3⟩, rfl⟩
  · rw [if_neg h3] at h; exact absurd h (by decide)
end Go.Proofs.YtlmfhopifggeaaaDoor
namespace Go.Proofs.YtlmfhopifggeaaaDoor
open Go.RowKit

/-- Links, one behind the other. -/
def LnkAt (w : World) (ao : Option Addr) (n : Nat) (ls : List Lnk) : Prop :=
  ls.length = n ∧ (n = 0 ∨ ∃ b o, ao = some ⟨b, o, none⟩ ∧ b < w.heap.size ∧ ∀ t, t < n → w.cell? ⟨b, o + t * 2, none⟩ = some (.int .i64 (ls.getD t (0, 0)).1) ∧ w.cell? ⟨b, o + t * 2 + 1, none⟩ = some (.int .i64 (ls.getD t (0, 0)).2))
section
variable {w w' : World} {ao : Option Addr} {n : Nat} {ls : List Lnk}
theorem LnkAt.ext (h : LnkAt w ao n ls) (k : Ext w w') : LnkAt w' ao n ls := by
  refine ⟨h.1, ?_⟩
  rcases h.2 with h0 | ⟨b, o, e, hb, hc⟩
  · exact Or.inl h0
  · exact Or.inr ⟨b, o, e, Nat.lt_of_lt_of_le hb k.size, fun t ht => ⟨cell_ext (hc t ht).1 k, cell_ext (hc t ht).2 k⟩⟩
theorem LnkAt.at (h : LnkAt w ao n ls) (hn : 0 < n) : ∃ b o, ao = some ⟨b, o, none⟩ ∧ b < w.heap.size ∧ ∀ t, t < n → w.cell? ⟨b, o + t * 2, none⟩ = some (.int .i64 (ls.getD t (0, 0)).1) ∧ w.cell? ⟨b, o + t * 2 + 1, none⟩ = some (.int .i64 (ls.getD t (0, 0)).2) := by
  rcases h.2 with h0 | h
  · omega
  · exact h
theorem LnkAt.take (h : LnkAt w ao n ls) (m : Nat) (hm : m ≤ n) : LnkAt w ao m (ls.take m) := by
  refine ⟨by rw [List.length_take, h.1]; omega, ?_⟩
  rcases h.2 with h0 | ⟨b, o, e, hb, hc⟩
  · exact Or.inl (by omega)
  · refine Or.inr ⟨b, o, e, hb, fun t ht => ?_⟩
    have e2 : (ls.take m).getD t (0, 0) = ls.getD t (0, 0) := by rw [List.getD_eq_getElem?_getD, List.getD_eq_getElem?_getD, List.getElem?_take, if_pos ht]
    rw [e2]; exact hc t (by omega)
end
/-- A device in a variable. -/
structure DvB (W : World) (g : Nat) (N : Int) (ao : Option Addr) (n cp : Nat) : Prop where
  row : W.heap[g]? = some (.cells #[.int .i64 N, .slice ao n cp] 24 (0, 0))
section
variable {W W' : World} {g : Nat} {N : Int} {ao : Option Addr} {n cp : Nat}
theorem DvB.lt (h : DvB W g N ao n cp) : g < W.heap.size := (Array.getElem?_eq_some_iff.1 h.row).1
theorem DvB.ext (h : DvB W g N ao n cp) (k : Ext W W') : DvB W' g N ao n cp := ⟨(k.block _ h.lt).trans h.row⟩
theorem DvB.x0 (h : DvB W g N ao n cp) : W.cell? ⟨g, 0, none⟩ = some (.int .i64 N) := by rw [cell_of_row W g 0 _ _ (0, 0) h.row]; rfl
theorem DvB.x1 (h : DvB W g N ao n cp) : W.cell? ⟨g, 1, none⟩ = some (.slice ao n cp) := by rw [cell_of_row W g 1 _ _ (0, 0) h.row]; rfl
end
/-- A web's cells. -/
def webC (W : List Nat) : Array Value := (W.map fun v : Nat => Value.int .u16 (v : Int)).toArray
def zero12 : Array Value := #[.int .u16 0, .int .u16 0, .int .u16 0, .int .u16 0, .int .u16 0, .int .u16 0, .int .u16 0, .int .u16 0, .int .u16 0, .int .u16 0, .int .u16 0, .int .u16 0]
theorem webC_zero : webC (List.replicate 12 0) = zero12 := rfl
theorem webC_size (W : List Nat) : (webC W).size = W.length := by unfold webC; simp
theorem webC_one (W : List Nat) : (webC W).all (·.oneCell') = true := by
  unfold webC
  rw [List.all_toArray, List.all_map]
  exact List.all_eq_true.2 fun _ _ => rfl
theorem webC_set (W : List Nat) (i v : Nat) : (webC W).setIfInBounds i (.int .u16 (v : Int)) = webC (W.set i v) := by
  unfold webC
  rw [List.setIfInBounds_toArray, List.map_set]
theorem web_info : (Tryd.prog.info? 73).map (·.size) = some 12 := by kernel_rfl
/-- A web in a variable. -/
structure WbB (w : World) (g : Nat) (W : List Nat) : Prop where
  len : W.length = 12
  lt : ∀ q, W.getD q 0 < 65536
  row : w.heap[g]? = some (.cells (webC W) 73 (0, 0))
section
variable {w w' : World} {g : Nat} {W : List Nat}
theorem WbB.here (h : WbB w g W) : g < w.heap.size := (Array.getElem?_eq_some_iff.1 h.row).1
theorem WbB.ext (h : WbB w g W) (k : Ext w w') : WbB w' g W := ⟨h.len, h.lt, (k.block _ h.here).trans h.row⟩
theorem WbB.at (h : WbB w g W) : WebAt w g W := ⟨h.len, h.lt, fun q hq => by
  rw [cell_of_row w g q _ _ (0, 0) h.row]
  unfold webC
  rw [List.getElem?_toArray, List.getElem?_map, List.getD_eq_getElem?_getD, List.getElem?_eq_getElem (by have := h.len; omega)]
  rfl⟩
theorem WbB.f (h : WbB w g W) (o : Nat) : w.frozen? ⟨g, o, none⟩ = false := frozen_of_row w g o _ _ h.row
theorem WbB.set (h : WbB w g W) (i v : Nat) (hv : v < 65536) : WbB (w.setCell ⟨g, i, none⟩ (.int .u16 (v : Int))) g (W.set i v) := ⟨by rw [List.length_set]; exact h.len, fun q => by
    rw [List.getD_eq_getElem?_getD, List.getElem?_set]
    split
    · split
      · exact hv
      · exact Nat.zero_lt_succ _
    · have := h.lt q
      rw [List.getD_eq_getElem?_getD] at this
      exact this, by
    have a := heap_setCell_same w g i _ _ (.int .u16 (v : Int)) h.row
    rw [← webC_set]
    simpa using a⟩
end

def rfC (N : Int) (W : List Nat) (a b : Int) : Int := if a < 0 ∨ N ≤ a ∨ b < 0 ∨ N ≤ b then 10 else if a = b then 12 else if lk W a.toNat b.toNat then 27 else 0

set_option maxRecDepth 100000 in
set_option maxHeartbeats 2000000 in
theorem refuses_any (W : List Nat) (g : Nat) (a b N : Int) (w : World) (h : WebAt w g W) (hN : N ≤ 12) :
    Calls Tryd.prog 48 #[.pointer (some ⟨g, 0, none⟩), .int .i64 a, .int .i64 b, .int .i64 N] w fun e w' => e = .returned (.int .i64 (rfC N W a b)) ∧ w' = w := by
  obtain ⟨r, hr⟩ : ∃ r, rfC N W a b = r := ⟨_, rfl⟩
  rw [hr]
  unfold rfC at hr
  by_cases h1 : a < 0
  · rw [if_pos (Or.inl h1)] at hr
    have HF := Lib.hid hr.symm
    have d1 := dt h1
    clear hr h
    go_enter Tryd.func48, Tryd.ntmps48
    go_wp2_with fail
    go_ret
    exact ⟨congrArg (fun b => Ending.returned (Value.int .i64 b)) HF.out.symm, rfl⟩
  have d1 := df h1
  by_cases h2 : N ≤ a
  · rw [if_pos (Or.inr (Or.inl h2))] at hr
    have HF := Lib.hid hr.symm
    have d2 := dt h2
    clear hr h
    go_enter Tryd.func48, Tryd.ntmps48
    go_wp2_with fail
    go_ret
    exact ⟨congrArg (fun b => Ending.returned (Value.int .i64 b)) HF.out.symm, rfl⟩
  have d2 := df h2
  by_cases h3 : b < 0
  · rw [if_pos (Or.inr (Or.inr (Or.inl h3)))] at hr
    have HF := Lib.hid hr.symm
    have d3 := dt h3
    clear hr h
    go_enter Tryd.func48, Tryd.ntmps48
    go_wp2_with fail
    go_ret
    exact ⟨congrArg (fun b => Ending.returned (Value.int .i64 b)) HF.out.symm, rfl⟩
  have d3 := df h3
  by_cases h4 : N ≤ b
  · rw [if_pos (Or.inr (Or.inr (Or.inr h4)))] at hr
    have HF := Lib.hid hr.symm
    have d4 := dt h4
    clear hr h
    go_enter Tryd.func48, Tryd.ntmps48
    go_wp2_with fail
    go_ret
    exact ⟨congrArg (fun b => Ending.returned (Value.int .i64 b)) HF.out.symm, rfl⟩
  have d4 := df h4
  rw [if_neg (by omega)] at hr
  by_cases h5 : a = b
  · rw [if_pos h5] at hr
    have HF := Lib.hid hr.symm
    subst h5
    clear hr h
    go_enter Tryd.func48, Tryd.ntmps48
    go_wp2_with fail
    go_ret
    exact ⟨congrArg (fun b => Ending.returned (Value.int .i64 b)) HF.out.symm, rfl⟩
  rw [if_neg h5] at hr
  have d5 : (a == b) = false := beq_eq_false_iff_ne.2 h5
  obtain ⟨x, rfl⟩ : ∃ x : Nat, a = (x : Int) := ⟨a.toNat, by omega⟩
  obtain ⟨y, rfl⟩ : ∃ y : Nat, b = (y : Int) := ⟨b.toNat, by omega⟩
  have HC := Lib.hid (has_any W g x y w h (by omega) (by omega))
  simp only [Int.toNat_natCast] at hr
  obtain ⟨B, hB⟩ : ∃ B, lk W x y = B := ⟨_, rfl⟩
  rw [hB] at HC
  have hr : (if B = true then (27 : Int) else 0) = r := by rw [← hB]; exact hr
  clear hB h h5 h1 h2 h3 h4
  cases B
  · have HF := Lib.hid (show r = 0 from hr.symm)
    clear hr
    go_enter Tryd.func48, Tryd.ntmps48
    go_wp2_with fail
    refine HC.out.mono ?_
    rintro e w1 ⟨rfl, rfl⟩
    go_wp2_with fail
    go_ret
    exact ⟨congrArg (fun b => Ending.returned (Value.int .i64 b)) HF.out.symm, rfl⟩
  · have HF := Lib.hid (show r = 27 from hr.symm)
    clear hr
    go_enter Tryd.func48, Tryd.ntmps48
    go_wp2_with fail
    refine HC.out.mono ?_
    rintro e w1 ⟨rfl, rfl⟩
    go_wp2_with fail
    go_ret
    exact ⟨congrArg (fun b => Ending.returned (Value.int .i64 b)) HF.out.symm, rfl⟩
end Go.Proofs.YtlmfhopifggeaaaDoor
namespace Go.Proofs.YtlmfhopifggeaaaDoor
open Go.RowKit

theorem setRow_only' (w : World) (g : Nat) (cs : Array Value) : Only g w (w.setRow g cs) where
  os := rfl
  tape := rfl
  output := rfl
  size := setRow_size w g cs
  block := fun k hk => setRow_other w g k cs hk
theorem ext_only' {w U W : World} {k : Nat} (h : Ext w U) (hO : Only k U W) (hk : w.heap.size ≤ k) : Ext w W :=
  Below.trans h (hO.below hk)
theorem FtB.only {W W' : World} {g k : Nat} {u v : Int} (h : FtB W g u v) (hO : Only k W W') (hk : g ≠ k) : FtB W' g u v := ⟨(hO.block g hk).trans h.row⟩
theorem DvB.only {W W' : World} {g k : Nat} {N : Int} {ao : Option Addr} {n cp : Nat} (h : DvB W g N ao n cp) (hO : Only k W W') (hk : g ≠ k) : DvB W' g N ao n cp := ⟨(hO.block g hk).trans h.row⟩
theorem only2' (W : World) (A : Nat) (u v : Value) : Only A W ((W.setCell ⟨A, 0, none⟩ u).setCell ⟨A, 1, none⟩ v) := ((Only.refl _ _).setCell _ _).setCell _ _
theorem FtB.putV {W : World} {g : Nat} {u v : Int} (h : FtB W g u v) (u' v' : Int) : FtB ((W.setCell ⟨g, 0, none⟩ (.int .i64 u')).setCell ⟨g, 1, none⟩ (.int .i64 v')) g u' v' := ⟨by
  have a := heap_setCell_same W g 0 _ _ (.int .i64 u') h.row
  have b := heap_setCell_same _ g 1 _ _ (.int .i64 v') a
  simpa using b⟩
/-- Two rows are answered. -/
theorem results_two {P : Program} {fn : Func} {p q : Tmp} {ty1 ty2 : TypeId} (h : fn.results = #[.cell p ty1, .cell q ty2]) (tmps : Array Value) (w : World) (g1 g2 : Nat) (t1 t2 : TypeId) (c1 c2 : Array Value) (f1 f2 : Nat × Nat) (d1 d2 : TypeDesc)
    (hp : tmps.getD p undef = .pointer (some ⟨g1, 0, none⟩)) (hg1 : w.heap[g1]? = some (.cells c1 t1 f1)) (hu1 : P.underlying ty1 = some d1) (hd1 : (match d1 with | .struct _ | .array _ _ => true | _ => false) = true) (hi1 : (P.info? ty1).map (·.size) = some c1.size)
    (hq : tmps.getD q undef = .pointer (some ⟨g2, 0, none⟩)) (hg2 : w.heap[g2]? = some (.cells c2 t2 f2)) (hu2 : P.underlying ty2 = some d2) (hd2 : (match d2 with | .struct _ | .array _ _ => true | _ => false) = true) (hi2 : (P.info? ty2).map (·.size) = some c2.size) :
    (results fn tmps).run P w = .ok (.tuple #[.agg c1, .agg c2]) w := by
  have hp' : tmps[p]?.getD undef = .pointer (some ⟨g1, 0, none⟩) := by simpa using hp
  have hq' : tmps[q]?.getD undef = .pointer (some ⟨g2, 0, none⟩) := by simpa using hq
  simp [results, h, hp', hq', asAddr, run_loadVar_row w g1 t1 ty1 c1 f1 d1 hg1 hu1 hd1 hi1, run_loadVar_row w g2 t2 ty2 c2 f2 d2 hg2 hu2 hd2 hi2]
theorem ft_info : (Tryd.prog.info? 27).map (·.size) = some 2 := by kernel_rfl
theorem zero12_one : zero12.all (·.oneCell') = true := by rw [← webC_zero]; exact webC_one _
/-- What linksOf answers is stored. -/
theorem links_fin {w U : World} {H : Nat} {old cs : Array Value} {a b : Int} (u v : Int) (hE : Ext w U) (hH : w.heap.size ≤ H) (r1 : U.heap[H + 1]? = some (.cells old 73 (0, 0))) (bF : FtB U (H + 2) a b) :
    FtB (U.setRow (H + 1) cs) (H + 2) a b ∧ (((U.setRow (H + 1) cs).setCell ⟨H + 2, 0, none⟩ (.int .i64 u)).setCell ⟨H + 2, 1, none⟩ (.int .i64 v)).heap[H + 1]? = some (.cells cs 73 (0, 0)) ∧
    FtB (((U.setRow (H + 1) cs).setCell ⟨H + 2, 0, none⟩ (.int .i64 u)).setCell ⟨H + 2, 1, none⟩ (.int .i64 v)) (H + 2) u v ∧ Ext w (((U.setRow (H + 1) cs).setCell ⟨H + 2, 0, none⟩ (.int .i64 u)).setCell ⟨H + 2, 1, none⟩ (.int .i64 v)) := by
  have h1 := bF.only (setRow_only' U (H + 1) cs) (by omega)
  have hO := only2' (U.setRow (H + 1) cs) (H + 2) (.int .i64 u) (.int .i64 v)
  refine ⟨h1, ?_, h1.putV u v, ext_only' (ext_only' hE (setRow_only' U (H + 1) cs) (by omega)) hO (by omega)⟩
  rw [hO.block (H + 1) (by omega)]
  exact setRow_heap U (H + 1) old cs _ _ r1

/-- What linksOf answers. -/
def lnksR (N : Int) (ls : List Lnk) : List Nat := if (devF N ls).1 = 0 then webOf ls else List.replicate 12 0
theorem lnF_step (N : Int) (ls : List Lnk) (i n : Nat) (h : i < n) : lnF N ls (n - i) i = if lnkC N (ls.take i) (ls.getD i (0, 0)) ≠ 0 then (lnkC N (ls.take i) (ls.getD i (0, 0)), (i : Int)) else lnF N ls (n - (i + 1)) (i + 1) := by
  obtain ⟨r, hr⟩ : ∃ r, n - i = r + 1 := ⟨n - i - 1, by omega⟩
  rw [hr, lnF, show n - (i + 1) = r by omega]
theorem rfC_eq {N : Int} (hN : N ≤ 12) {ls : List Lnk} {i : Nat} (hi : i < ls.length) (hok : lnOk N ls i) : rfC N (webOf (ls.take i)) (ls.getD i (0, 0)).1 (ls.getD i (0, 0)).2 = lnkC N (ls.take i) (ls.getD i (0, 0)) := by
  obtain ⟨_, h2⟩ := web_tells hN ls i (by omega) hok
  unfold rfC lnkC
  by_cases h : (ls.getD i (0, 0)).1 < 0 ∨ N ≤ (ls.getD i (0, 0)).1 ∨ (ls.getD i (0, 0)).2 < 0 ∨ N ≤ (ls.getD i (0, 0)).2
  · rw [if_pos h, if_pos h]
  · rw [if_neg h, if_neg h, h2, Int.toNat_of_nonneg (by omega), Int.toNat_of_nonneg (by omega)]
theorem shl_u16 {y : Nat} (h : y < 12) : IntKind.u16.wrap (2 ^ y) = ((2 ^ y : Nat) : Int) := by
  have h1 : (2 : Nat) ^ y < 2 ^ 12 := Nat.pow_lt_pow_right (by decide) h
  have h2 : ((2 : Int) ^ y) = ((2 ^ y : Nat) : Int) := by rw [Int.natCast_pow]; rfl
  have h3 : (2 : Nat) ^ 12 = 4096 := by decide
  rw [h2, show IntKind.u16.wrap ((2 ^ y : Nat) : Int) = (((2 ^ y : Nat) : Int) % 65536) from rfl]
  refine Int.emod_eq_of_lt (Int.natCast_nonneg _) ?_
  rw [h3] at h1
  exact Int.lt_of_lt_of_le (Int.ofNat_lt.2 h1) (by decide)

set_option maxRecDepth 100000 in
set_option maxHeartbeats 4000000 in
theorem linksOf_any (N : Int) (ls : List Lnk) (ao : Option Addr) (n cp : Nat) (w : World) (h : LnkAt w ao n ls) (hn : n ≤ 9223372036854775806) :
    Calls Tryd.prog 27 #[.agg #[.int .i64 N, .slice ao n cp]] w fun e w' => e = .returned (.tuple #[.agg (webC (lnksR N ls)), .agg #[.int .i64 (devF N ls).1, .int .i64 (devF N ls).2]]) ∧ Ext w w' := by
  obtain ⟨r, hr⟩ : ∃ r, devF N ls = r := ⟨_, rfl⟩
  obtain ⟨r0, r1⟩ := r
  obtain ⟨R, hR⟩ : ∃ R, lnksR N ls = R := ⟨_, rfl⟩
  rw [hr, hR]
  unfold lnksR at hR
  rw [hr] at hR
  unfold devF at hr
  simp only at hR ⊢
  have Hl := Lib.hid h.1
  obtain ⟨H, hH⟩ : ∃ H, w.heap.size = H := ⟨_, rfl⟩
  obtain ⟨W0, hW0⟩ : ∃ W0, (((w.alloc (.cells #[.int .i64 N, .slice ao n cp] 24)).alloc (.cells zero12 73)).alloc (.cells #[.int .i64 0, .int .i64 0] 27)).alloc (.cells zero12 73) = W0 := ⟨_, rfl⟩
  have E0 : Ext w W0 := by rw [← hW0]; exact (((ext_al w _).trans (ext_al _ _)).trans (ext_al _ _)).trans (ext_al _ _)
  have bD : DvB W0 H N ao n cp := by rw [← hW0, ← hH]; exact ((DvB.ext ⟨heap_alloc_new w _⟩ (ext_al _ _)).ext (ext_al _ _)).ext (ext_al _ _)
  have bR : W0.heap[H + 1]? = some (.cells zero12 73 (0, 0)) := by
    have h1 := heap_alloc_new (w.alloc (.cells #[.int .i64 N, .slice ao n cp] 24)) (.cells zero12 73)
    have h2 := (ext_al ((w.alloc (.cells #[.int .i64 N, .slice ao n cp] 24)).alloc (.cells zero12 73)) (.cells #[.int .i64 0, .int .i64 0] 27)).trans (ext_al _ (.cells zero12 73))
    have h3 := (h2.block _ (Array.getElem?_eq_some_iff.1 h1).1).trans h1
    rw [hW0] at h3
    simpa [hH] using h3
  have bF : FtB W0 (H + 2) 0 0 := by
    have h1 := heap_alloc_new ((w.alloc (.cells #[.int .i64 N, .slice ao n cp] 24)).alloc (.cells zero12 73)) (.cells #[.int .i64 0, .int .i64 0] 27)
    have h2 := ext_al (((w.alloc (.cells #[.int .i64 N, .slice ao n cp] 24)).alloc (.cells zero12 73)).alloc (.cells #[.int .i64 0, .int .i64 0] 27)) (.cells zero12 73)
    have h3 := (h2.block _ (Array.getElem?_eq_some_iff.1 h1).1).trans h1
    rw [hW0] at h3
    exact ⟨by simpa [hH] using h3⟩
  have bW : WbB W0 (H + 3) (List.replicate 12 0) := by
    have h1 := heap_alloc_new (((w.alloc (.cells #[.int .i64 N, .slice ao n cp] 24)).alloc (.cells zero12 73)).alloc (.cells #[.int .i64 0, .int .i64 0] 27)) (.cells zero12 73)
    rw [hW0] at h1
    refine ⟨rfl, fun q => ?_, by rw [webC_zero]; simpa [hH] using h1⟩
    rw [List.getD_eq_getElem?_getD, List.getElem?_replicate]
    split <;> decide
  have HE0 := Lib.hid E0; have HLn := Lib.hid (h.ext E0); have HD := Lib.hid bD; have HRr := Lib.hid bR; have HFt := Lib.hid bF; have HW := Lib.hid bW; have Hh := Lib.hid h
  have HwH := Lib.hid (show w.heap.size ≤ H by omega); have HW0 := Lib.hid hW0; have HH := Lib.hid hH; have Hn := Lib.hid hn
  have v0 := bD.x0; have v1 := bD.x1
  clear h E0 bD bR bF bW hW0 hH
  by_cases hq1 : N < 1
  · rw [if_pos (Or.inl hq1)] at hr
    have HF := Lib.hid (show r0 = 6 ∧ r1 = 0 from ⟨(congrArg Prod.fst hr).symm, (congrArg Prod.snd hr).symm⟩)
    have HRz := Lib.hid (show R = List.replicate 12 0 by rw [← hR, if_neg (by rw [HF.out.1]; decide)])
    obtain ⟨bz, z1, z2, zE⟩ := links_fin (cs := zero12) (6) (0) HE0.out HwH.out HRr.out HFt.out
    have x0 := bz.x0; have x1 := bz.x1; have g0 := bz.f 0; have g1 := bz.f 1
    have Hz1 := Lib.hid z1; have Hz2 := Lib.hid z2; have HzE := Lib.hid zE
    have hrow := HRr.out
    clear bz z1 z2 zE
    clear hr hR
    go_enter Tryd.func27, Tryd.ntmps27
    go_upto_region 2 with fail
    rw [show #[Value.int .u16 0, .int .u16 0, .int .u16 0, .int .u16 0, .int .u16 0, .int .u16 0, .int .u16 0, .int .u16 0, .int .u16 0, .int .u16 0, .int .u16 0, .int .u16 0] = zero12 from rfl, HW0.out, HH.out, show H + 1 + 1 + 1 = H + 3 from rfl, show H + 1 + 1 = H + 2 from rfl]
    go_upto_region 3 with fail
    go_wp2_with (refine wpList_store_row rfl 73 _ _ rfl (H + 1) zero12 rfl rfl 73 _ hrow web_info rfl zero12_one ?_)
    refine bodyPost_ret (v := .tuple #[.agg zero12, .agg #[.int .i64 (6), .int .i64 (0)]]) ?_ rfl ⟨by rw [HF.out.1, HF.out.2, HRz.out, webC_zero], HzE.out⟩
    exact results_two rfl _ _ (H + 1) (H + 2) _ _ _ _ _ _ _ _ rfl Hz1.out Tryd.underlying73 rfl web_info rfl Hz2.out.row Tryd.underlying27 rfl ft_info
    done
  have dq1 := df hq1
  by_cases hq2 : 12 < N
  · rw [if_pos (Or.inr hq2)] at hr
    have HF := Lib.hid (show r0 = 6 ∧ r1 = 0 from ⟨(congrArg Prod.fst hr).symm, (congrArg Prod.snd hr).symm⟩)
    have HRz := Lib.hid (show R = List.replicate 12 0 by rw [← hR, if_neg (by rw [HF.out.1]; decide)])
    obtain ⟨bz, z1, z2, zE⟩ := links_fin (cs := zero12) (6) (0) HE0.out HwH.out HRr.out HFt.out
    have x0 := bz.x0; have x1 := bz.x1; have g0 := bz.f 0; have g1 := bz.f 1
    have Hz1 := Lib.hid z1; have Hz2 := Lib.hid z2; have HzE := Lib.hid zE
    have hrow := HRr.out
    clear bz z1 z2 zE
    clear hr hR
    go_enter Tryd.func27, Tryd.ntmps27
    go_upto_region 2 with fail
    rw [show #[Value.int .u16 0, .int .u16 0, .int .u16 0, .int .u16 0, .int .u16 0, .int .u16 0, .int .u16 0, .int .u16 0, .int .u16 0, .int .u16 0, .int .u16 0, .int .u16 0] = zero12 from rfl, HW0.out, HH.out, show H + 1 + 1 + 1 = H + 3 from rfl, show H + 1 + 1 = H + 2 from rfl]
    go_upto_region 3 with fail
    go_wp2_with (refine wpList_store_row rfl 73 _ _ rfl (H + 1) zero12 rfl rfl 73 _ hrow web_info rfl zero12_one ?_)
    refine bodyPost_ret (v := .tuple #[.agg zero12, .agg #[.int .i64 (6), .int .i64 (0)]]) ?_ rfl ⟨by rw [HF.out.1, HF.out.2, HRz.out, webC_zero], HzE.out⟩
    exact results_two rfl _ _ (H + 1) (H + 2) _ _ _ _ _ _ _ _ rfl Hz1.out Tryd.underlying73 rfl web_info rfl Hz2.out.row Tryd.underlying27 rfl ft_info
  have dq2 := df hq2
  rw [if_neg (by omega), Hl.out] at hr
  have Hr := Lib.hid hr; have HR := Lib.hid hR; have Hq := Lib.hid (show 1 ≤ N ∧ N ≤ 12 by omega)
  clear hr hR
  go_enter Tryd.func27, Tryd.ntmps27
  go_upto_region 2 with fail
  rw [show #[Value.int .u16 0, .int .u16 0, .int .u16 0, .int .u16 0, .int .u16 0, .int .u16 0, .int .u16 0, .int .u16 0, .int .u16 0, .int .u16 0, .int .u16 0, .int .u16 0] = zero12 from rfl, HW0.out, HH.out, show H + 1 + 1 + 1 = H + 3 from rfl, show H + 1 + 1 = H + 2 from rfl]
  go_wp2_with fail
  clear v0 v1 HW0 HH
  go_loopg [5, 6, 7, 8, 9, 23] n (fun kk _ _ _ _ _ s23 wr => ∃ i : Nat, s23 = .int .i64 (i : Int) ∧ i ≤ n ∧ n - i = kk ∧ Ext w wr ∧ DvB wr H N ao n cp ∧ wr.heap[H + 1]? = some (.cells zero12 73 (0, 0)) ∧ FtB wr (H + 2) 0 0 ∧ WbB wr (H + 3) (webOf (ls.take i)) ∧ lnOk N ls i ∧ lnF N ls n 0 = lnF N ls (n - i) i)
  case atStart => exact ⟨0, rfl, Nat.zero_le _, rfl, HE0.out, HD.out, HRr.out, HFt.out, HW.out, fun j hj => by omega, rfl⟩
  case round =>
    clear HE0 HD HRr HFt HW HLn
    obtain ⟨i, rfl, hi, hk, hE, bD, bR, bF, bW, hok, hln⟩ := hrel
    have HE := Lib.hid hE; have Hk := Lib.hid hk; have HD := Lib.hid bD; have HRr := Lib.hid bR; have HFt := Lib.hid bF; have HW := Lib.hid bW; have Hok := Lib.hid hok; have Hln := Lib.hid hln
    by_cases hin : i = n
    · subst hin
      have q1 : ¬ (i : Int) < (i : Int) := by omega
      have hr := Hr.out
      have hR := HR.out
      have ht : ls.take i = ls := List.take_of_length_le (by have := Hl.out; omega)
      rw [hln, show i - i = 0 by omega, show lnF N ls 0 i = ((0 : Int), (0 : Int)) from rfl, if_neg (show ¬ ((0 : Int), (0 : Int)).1 ≠ 0 from fun h => h rfl)] at hr
      rw [ht] at bW
      obtain ⟨M, hM⟩ : ∃ M : Nat, N = (M : Int) := ⟨N.toNat, by have := Hq.out; omega⟩
      have hM1 : 1 ≤ M ∧ M ≤ 12 := by have := Hq.out; omega
      subst hM
      rw [Int.toNat_natCast] at hr
      obtain ⟨X, Fw, hXn, hFe, hFs⟩ := fam wr
      have d0 : ∀ x, (Fw x).cell? ⟨H, 0, none⟩ = some (.int .i64 (M : Int)) := fun x => (bD.ext (hFe x)).x0
      have hUd : Ext wr wr.drew := Below.drew (Ext.refl wr)
      have HWC := Lib.hid (fun wx (hx : Ext wr wx) => reached_any (webOf ls) (H + 3) M wx (bW.ext hx).at hM1.1 hM1.2)
      obtain ⟨S, hS⟩ : ∃ S, bal (webOf ls) 1 (M - 1) = S := ⟨_, rfl⟩
      rw [hS] at hr HWC
      have hp : (2 : Nat) ^ M ≤ 2 ^ 12 := Nat.pow_le_pow_right (by decide) hM1.2
      have hp0 : 0 < 2 ^ M := Nat.pow_pos (by decide)
      have e12 : (2 : Nat) ^ 12 = 4096 := by decide
      obtain ⟨P, hP⟩ : ∃ P, 2 ^ M = P := ⟨_, rfl⟩
      rw [hP] at hr hp hp0
      have wP : IntKind.u16.wrap (2 ^ M) = (P : Int) := by
        have h2 : ((2 : Int) ^ M) = ((2 ^ M : Nat) : Int) := by rw [Int.natCast_pow]; rfl
        rw [h2, hP, show IntKind.u16.wrap (P : Int) = ((P : Int) % 65536) from rfl]; omega
      have wP1 : IntKind.u16.wrap ((P : Int) - 1) = ((P - 1 : Nat) : Int) := by
        rw [show IntKind.u16.wrap ((P : Int) - 1) = (((P : Int) - 1) % 65536) from rfl]; omega
      obtain ⟨P1, hP1⟩ : ∃ P1, P - 1 = P1 := ⟨_, rfl⟩
      rw [hP1] at hr wP1
      have q12 : M < 16 := by omega
      clear hp hp0 e12 hP hP1 bR bF hE hk hi hok hln hS
      by_cases hfl : S = P1
      · rw [if_pos hfl] at hr
        have HF := Lib.hid (show r0 = 0 ∧ r1 = 0 from ⟨(congrArg Prod.fst hr).symm, (congrArg Prod.snd hr).symm⟩)
        have HRz := Lib.hid (show R = webOf ls by rw [← hR, if_pos HF.out.1])
        have qS : ((S : Int) != (P1 : Int)) = false := nf' (by omega)
        clear hr hR hfl
        go_upto_region 14 with fail
        refine wp_region_M (by kernel_rfl) (by kernel_rfl) (hFs _ hUd) ?_
        repeat (go_big_quiet_step (exact (HWC.out _ (hFe _)).mono (fun e w' h => ⟨h.1, hFs _ ((hFe _).trans h.2)⟩)))
        refine wpQuiet_nil ?_
        rintro _ ⟨xq, rfl⟩
        have HEx := Lib.hid (hFe xq)
        generalize Fw xq = W2 at *
        have HEw := Lib.hid (HE.out.trans HEx.out)
        have hrw := (bW.ext HEx.out).row
        have hinf : (Tryd.prog.info? 73).map (·.size) = some (webC (webOf ls)).size := by rw [webC_size, bW.len]; exact web_info
        have hold : zero12.size = (webC (webOf ls)).size := by rw [webC_size, bW.len]; rfl
        have hone := webC_one (webOf ls)
        obtain ⟨bz, z1, z2, zE⟩ := links_fin (cs := webC (webOf ls)) (0) (0) HEw.out HwH.out ((HEx.out.block _ (Array.getElem?_eq_some_iff.1 HRr.out).1).trans HRr.out) (HFt.out.ext HEx.out)
        have x0 := bz.x0; have x1 := bz.x1; have g0 := bz.f 0; have g1 := bz.f 1
        have Hz1 := Lib.hid z1; have Hz2 := Lib.hid z2; have HzE := Lib.hid zE
        have hrow := ((HEx.out.block _ (Array.getElem?_eq_some_iff.1 HRr.out).1).trans HRr.out)
        clear bz z1 z2 zE
        clear d0 hFe hFs hXn HWC bD bW hUd
        go_wp2_with (first
          | refine wpList_load_row rfl 73 _ rfl (H + 3) rfl 73 _ (0, 0) _ hrw Tryd.underlying73 rfl hinf ?_
          | refine wpList_store_row rfl 73 _ _ rfl (H + 1) (webC (webOf ls)) rfl rfl 73 _ hrow hinf hold hone ?_)
        refine bodyPost_ret (v := .tuple #[.agg (webC (webOf ls)), .agg #[.int .i64 (0), .int .i64 (0)]]) ?_ rfl ⟨by rw [HF.out.1, HF.out.2, HRz.out], HzE.out⟩
        exact results_two rfl _ _ (H + 1) (H + 2) _ _ _ _ _ _ _ _ rfl Hz1.out Tryd.underlying73 rfl hinf rfl Hz2.out.row Tryd.underlying27 rfl ft_info
      · rw [if_neg hfl] at hr
        have HF := Lib.hid (show r0 = 37 ∧ r1 = 0 from ⟨(congrArg Prod.fst hr).symm, (congrArg Prod.snd hr).symm⟩)
        have HRz := Lib.hid (show R = List.replicate 12 0 by rw [← hR, if_neg (by rw [HF.out.1]; decide)])
        have qS : ((S : Int) != (P1 : Int)) = true := nt (by omega)
        clear hr hR hfl
        go_upto_region 14 with fail
        refine wp_region_M (by kernel_rfl) (by kernel_rfl) (hFs _ hUd) ?_
        repeat (go_big_quiet_step (exact (HWC.out _ (hFe _)).mono (fun e w' h => ⟨h.1, hFs _ ((hFe _).trans h.2)⟩)))
        refine wpQuiet_nil ?_
        rintro _ ⟨xq, rfl⟩
        have HEx := Lib.hid (hFe xq)
        generalize Fw xq = W2 at *
        have HEw := Lib.hid (HE.out.trans HEx.out)
        obtain ⟨bz, z1, z2, zE⟩ := links_fin (cs := zero12) (37) (0) HEw.out HwH.out ((HEx.out.block _ (Array.getElem?_eq_some_iff.1 HRr.out).1).trans HRr.out) (HFt.out.ext HEx.out)
        have x0 := bz.x0; have x1 := bz.x1; have g0 := bz.f 0; have g1 := bz.f 1
        have Hz1 := Lib.hid z1; have Hz2 := Lib.hid z2; have HzE := Lib.hid zE
        have hrow := ((HEx.out.block _ (Array.getElem?_eq_some_iff.1 HRr.out).1).trans HRr.out)
        clear bz z1 z2 zE
        clear d0 hFe hFs hXn HWC bD bW hUd
        go_wp2_with (refine wpList_store_row rfl 73 _ _ rfl (H + 1) zero12 rfl rfl 73 _ hrow web_info rfl zero12_one ?_)
        refine bodyPost_ret (v := .tuple #[.agg zero12, .agg #[.int .i64 (37), .int .i64 (0)]]) ?_ rfl ⟨by rw [HF.out.1, HF.out.2, HRz.out, webC_zero], HzE.out⟩
        exact results_two rfl _ _ (H + 1) (H + 2) _ _ _ _ _ _ _ _ rfl Hz1.out Tryd.underlying73 rfl web_info rfl Hz2.out.row Tryd.underlying27 rfl ft_info
    have hlt : i < n := by omega
    have Hlt := Lib.hid hlt
    have q1 : (i : Int) < (n : Int) := by omega
    have q0 : (0 : Int) ≤ (i : Int) := by omega
    have wk : IntKind.i64.wrap ((i : Int) + 1) = ((i + 1 : Nat) : Int) := by rw [IntKind.wrap_i64]; have := Hn.out; omega
    obtain ⟨b, o, rfl, hbl, hcell⟩ := (Hh.out.ext hE).at (by omega)
    obtain ⟨e0, e1⟩ := hcell i hlt
    have hrf := rfC_eq Hq.out.2 (show i < ls.length by have := Hl.out; omega) hok
    have hst := lnF_step N ls i n hlt
    rw [← hln] at hst
    have htk := take_snoc (show i < ls.length by have := Hl.out; omega)
    obtain ⟨⟨a, c⟩, hkk⟩ : ∃ k, ls.getD i (0, 0) = k := ⟨_, rfl⟩
    have HC0 := Lib.hid (show ∀ j, j < i + 1 → lnkC N (ls.take i) (a, c) = 0 → lnkC N (ls.take j) (ls.getD j (0, 0)) = 0 from fun j hj h0 => by
      by_cases e : j = i
      · rw [e, hkk]; exact h0
      · exact Hok.out j (by omega))
    rw [hkk] at e0 e1 hrf hst htk
    simp only at e0 e1 hrf
    obtain ⟨oc, hoc⟩ : ∃ oc, lnkC N (ls.take i) (a, c) = oc := ⟨_, rfl⟩
    have Hz0 := Lib.hid (show oc = 0 → (0 ≤ a ∧ a < N) ∧ (0 ≤ c ∧ c < N) from fun h => by
      obtain ⟨p1, p2, _⟩ := lnkC_zero (hoc.trans h)
      exact ⟨p1, p2⟩)
    rw [hoc] at hrf hst HC0
    have Hst := Lib.hid hst; have Htk := Lib.hid htk; have HC1 := Lib.hid HC0.out
    obtain ⟨G, hG⟩ : ∃ G, wr.heap.size = G := ⟨_, rfl⟩
    obtain ⟨U, hU⟩ : ∃ U, wr.alloc (.cells #[.int .i64 a, .int .i64 c] 76) = U := ⟨_, rfl⟩
    have EU : Ext wr U := by rw [← hU]; exact ext_al _ _
    have rU : U.heap[G]? = some (.cells #[.int .i64 a, .int .i64 c] 76 (0, 0)) := by rw [← hU, ← hG]; exact heap_alloc_new _ _
    have y0 : U.cell? ⟨G, 0, none⟩ = some (.int .i64 a) := by rw [cell_of_row U G 0 _ _ (0, 0) rU]; rfl
    have y1 : U.cell? ⟨G, 1, none⟩ = some (.int .i64 c) := by rw [cell_of_row U G 1 _ _ (0, 0) rU]; rfl
    have bDU := bD.ext EU
    have v0 := bDU.x0
    have bWU := bW.ext EU
    have HCl := Lib.hid (fun m => refuses_any (webOf (ls.take i)) (H + 3) a c N (U.drewN m) (bWU.ext (ext_drewN U m)).at Hq.out.2)
    rw [hrf] at HCl
    have v1 := bD.x1
    have HU := Lib.hid hU; have HG := Lib.hid hG; have HEU := Lib.hid EU; have HbW := Lib.hid bWU; have HbD := Lib.hid bDU
    clear hcell hbl hst htk hoc hrf hkk hU hG rU bDU bWU bD bR bF bW hE hk hok hln EU HC0
    go_upto_region 7 with fail
    rw [HU.out, HG.out]
    clear HU HG v1 e0 e1
    go_quiet (fail)
    go_wp2_with fail
    refine (HCl.out _).mono ?_
    rintro e w4 ⟨rfl, rfl⟩
    have HEn := Lib.hid (ext_drewN U nq)
    clear y0 y1 v0
    generalize U.drewN nq = V at *
    by_cases h0 : oc = 0
    · have hcb := nf' h0
      obtain ⟨⟨a0, a1⟩, ⟨c0, c1⟩⟩ := Hz0.out h0
      obtain ⟨x, rfl⟩ : ∃ x : Nat, a = (x : Int) := ⟨a.toNat, by omega⟩
      obtain ⟨y, rfl⟩ : ∃ y : Nat, c = (y : Int) := ⟨c.toNat, by omega⟩
      have hx12 : x < 12 := by have := Hq.out; omega
      have hy12 : y < 12 := by have := Hq.out; omega
      have Hok2 := Lib.hid (show lnOk N ls (i + 1) from fun j hj => HC1.out j hj h0)
      have Hln2 := Lib.hid (show lnF N ls n 0 = lnF N ls (n - (i + 1)) (i + 1) by rw [Hst.out, if_neg (by omega)])
      have bW := HbW.out.ext HEn.out
      have hV := bW.lt x
      have cx := bW.at.cell x hx12
      have fx := bW.f x
      obtain ⟨X, hX⟩ : ∃ X, (webOf (ls.take i)).getD x 0 = X := ⟨_, rfl⟩
      rw [hX] at hV cx
      have hpy : (2 : Nat) ^ y < 65536 := Nat.lt_trans (Nat.pow_lt_pow_right (by decide) hy12) (by decide)
      have hpx : (2 : Nat) ^ x < 65536 := Nat.lt_trans (Nat.pow_lt_pow_right (by decide) hx12) (by decide)
      have sy := shl_u16 hy12; have sx := shl_u16 hx12
      obtain ⟨PY, hPY⟩ : ∃ P, 2 ^ y = P := ⟨_, rfl⟩
      obtain ⟨PX, hPX⟩ : ∃ P, 2 ^ x = P := ⟨_, rfl⟩
      rw [hPY] at hpy sy
      rw [hPX] at hpx sx
      have oX := or_u16 hV hpy
      have hOX : X ||| PY < 65536 := Nat.or_lt_two_pow (n := 16) hV hpy
      obtain ⟨OX, eOX⟩ : ∃ O, X ||| PY = O := ⟨_, rfl⟩
      rw [eOX] at oX hOX
      have bW2 := bW.set x OX hOX
      have bWe : WbB (V.setCell ⟨H + 3, x, none⟩ (.int .u16 (OX : Int))).drew (H + 3) ((webOf (ls.take i)).set x OX) := ⟨bW2.len, bW2.lt, bW2.row⟩
      have cy := bWe.at.cell y hy12
      have fy := bWe.f y
      have hVy := bW2.lt y
      obtain ⟨Y, hY⟩ : ∃ Y, ((webOf (ls.take i)).set x OX).getD y 0 = Y := ⟨_, rfl⟩
      rw [hY] at cy hVy
      have oY := or_u16 hVy hpx
      have hOY : Y ||| PX < 65536 := Nat.or_lt_two_pow (n := 16) hVy hpx
      obtain ⟨OY, eOY⟩ : ∃ O, Y ||| PX = O := ⟨_, rfl⟩
      rw [eOY] at oY hOY
      have bW3 := bWe.set y OY hOY
      have eW : ((webOf (ls.take i)).set x OX).set y OY = webOf (ls.take (i + 1)) := by
        rw [Htk.out, webOf_snoc]
        unfold addL
        simp only [Int.toNat_natCast]
        rw [hPX, hPY, hX, eOX, hY, eOY]
      rw [eW] at bW3
      have HW3 := Lib.hid bW3
      have q3 : (0 : Int) ≤ (x : Int) := by omega
      have q4 : (x : Int) < 12 := by omega
      have q5 : (0 : Int) ≤ (y : Int) := by omega
      have q6 : (y : Int) < 12 := by omega
      have hO : Only (H + 3) V (((V.setCell ⟨H + 3, x, none⟩ (.int .u16 (OX : Int))).drew.setCell ⟨H + 3, y, none⟩ (.int .u16 (OY : Int))).drew) := ((((Only.refl _ _).setCell _ _).drew).setCell _ _).drew
      have HO := Lib.hid hO
      clear Hz0 Hst hV hX hpy hpx hPY hPX eOX bW2 bWe hVy hY eOY bW3 eW bW hO h0 a0 a1 c0 c1 HC1
      go_upto_region 11 with fail
      go_region
      clear cx fx
      go_upto_region 12 with fail
      go_region
      go_wp2_with fail
      go_roundg (n - (i + 1))
      case measure => have := Hk.out; have := Hlt.out; omega
      case rel =>
        have hb := HEU.out.trans HEn.out
        exact ⟨i + 1, rfl, Hlt.out, rfl, ext_only' (HE.out.trans hb) HO.out (by have := HwH.out; omega), (HbD.out.ext HEn.out).only HO.out (by omega), (HO.out.block _ (by omega)).trans ((hb.block _ (Array.getElem?_eq_some_iff.1 HRr.out).1).trans HRr.out), (HFt.out.ext hb).only HO.out (by omega), ⟨HW3.out.len, HW3.out.lt, HW3.out.row⟩, Hok2.out, Hln2.out⟩
    · have hcb := nt h0
      have hr := Hr.out
      rw [Hst.out, if_pos h0, if_pos h0] at hr
      have HF := Lib.hid (show r0 = oc ∧ r1 = (i : Int) from ⟨(congrArg Prod.fst hr).symm, (congrArg Prod.snd hr).symm⟩)
      have HRz := Lib.hid (show R = List.replicate 12 0 by rw [← HR.out, if_neg (by rw [HF.out.1]; exact h0)])
      have HEw := Lib.hid (HE.out.trans (HEU.out.trans HEn.out))
      obtain ⟨bz, z1, z2, zE⟩ := links_fin (cs := zero12) (oc) ((i : Int)) HEw.out HwH.out (((HEU.out.trans HEn.out).block _ (Array.getElem?_eq_some_iff.1 HRr.out).1).trans HRr.out) (HFt.out.ext (HEU.out.trans HEn.out))
      have x0 := bz.x0; have x1 := bz.x1; have g0 := bz.f 0; have g1 := bz.f 1
      have Hz1 := Lib.hid z1; have Hz2 := Lib.hid z2; have HzE := Lib.hid zE
      have hrow := (((HEU.out.trans HEn.out).block _ (Array.getElem?_eq_some_iff.1 HRr.out).1).trans HRr.out)
      clear bz z1 z2 zE
      clear hr h0 Hst HC1 Hz0
      go_wp2_with (refine wpList_store_row rfl 73 _ _ rfl (H + 1) zero12 rfl rfl 73 _ hrow web_info rfl zero12_one ?_)
      refine bodyPost_ret (v := .tuple #[.agg zero12, .agg #[.int .i64 (oc), .int .i64 ((i : Int))]]) ?_ rfl ⟨by rw [HF.out.1, HF.out.2, HRz.out, webC_zero], HzE.out⟩
      exact results_two rfl _ _ (H + 1) (H + 2) _ _ _ _ _ _ _ _ rfl Hz1.out Tryd.underlying73 rfl web_info rfl Hz2.out.row Tryd.underlying27 rfl ft_info
end Go.Proofs.YtlmfhopifggeaaaDoor
namespace Go.Proofs.YtlmfhopifggeaaaDoor
open Go.RowKit

theorem lkd_none (ls : List Lnk) (a b : Int) : lkd (ls.take 0) a b = false := by rw [List.take_zero]; rfl

set_option maxRecDepth 100000 in
set_option maxHeartbeats 4000000 in
theorem linked_any (N : Int) (ls : List Lnk) (ao : Option Addr) (n cp : Nat) (a b : Int) (w : World) (h : LnkAt w ao n ls) (hn : n ≤ 9223372036854775806) :
    Calls Tryd.prog 29 #[.agg #[.int .i64 N, .slice ao n cp], .int .i64 a, .int .i64 b] w fun e w' => e = .returned (.bool (lkd ls a b)) ∧ Ext w w' := by
  obtain ⟨R, hR⟩ : ∃ R, lkd ls a b = R := ⟨_, rfl⟩
  rw [hR]
  have HR := Lib.hid hR; have Hn := Lib.hid hn; have Hl := Lib.hid h.1
  obtain ⟨H, hH⟩ : ∃ H, w.heap.size = H := ⟨_, rfl⟩
  obtain ⟨W0, hW0⟩ : ∃ W0, w.alloc (.cells #[.int .i64 N, .slice ao n cp] 24) = W0 := ⟨_, rfl⟩
  have E0 : Ext w W0 := by rw [← hW0]; exact ext_al _ _
  have bD : DvB W0 H N ao n cp := by rw [← hW0, ← hH]; exact ⟨heap_alloc_new w _⟩
  have HE0 := Lib.hid E0; have HD := Lib.hid bD; have HW0 := Lib.hid hW0; have HH := Lib.hid hH; have Hh := Lib.hid (h.ext E0)
  clear h hn hR E0 bD hW0 hH
  go_enter Tryd.func29, Tryd.ntmps29
  go_upto_region 1 with fail
  rw [HW0.out, HH.out]
  clear HW0 HH
  go_wp2_with fail
  go_loopg [7, 8] n (fun kk s7 _ wr => ∃ i : Nat, s7 = .int .i64 (i : Int) ∧ i ≤ n ∧ n - i = kk ∧ Ext W0 wr ∧ lkd (ls.take i) a b = false)
  case atStart => exact ⟨0, rfl, Nat.zero_le _, rfl, Ext.refl _, lkd_none ls a b⟩
  case round =>
    obtain ⟨i, rfl, hi, hk, hE, hno⟩ := hrel
    have HE := Lib.hid hE; have Hk := Lib.hid hk
    have bD := HD.out.ext hE
    have v1 := bD.x1
    by_cases hin : i = n
    · subst hin
      have q1 : ¬ (i : Int) < (i : Int) := by omega
      have HF := Lib.hid (show false = R by rw [← HR.out, ← hno, List.take_of_length_le (by have := Hl.out; omega)])
      have HEz := Lib.hid (HE0.out.trans hE)
      clear hi hk hE hno bD
      go_wp2_with fail
      go_ret
      exact ⟨congrArg (fun b => Ending.returned (Value.bool b)) HF.out, HEz.out⟩
    have hlt : i < n := by omega
    have Hlt := Lib.hid hlt
    have q1 : (i : Int) < (n : Int) := by omega
    have q0 : (0 : Int) ≤ (i : Int) := by omega
    have wk : IntKind.i64.wrap ((i : Int) + 1) = ((i + 1 : Nat) : Int) := by rw [IntKind.wrap_i64]; have := Hn.out; omega
    obtain ⟨bb, o, rfl, hbl, hcell⟩ := (Hh.out.ext hE).at (by omega)
    obtain ⟨e0, e1⟩ := hcell i hlt
    have hil : i < ls.length := by have := Hl.out; omega
    have hst : lkd (ls.take (i + 1)) a b = (((ls.getD i (0, 0)).1 == a && (ls.getD i (0, 0)).2 == b) || ((ls.getD i (0, 0)).1 == b && (ls.getD i (0, 0)).2 == a)) := by
      rw [take_snoc hil, lkd_snoc, hno, Bool.false_or]
    have hyes : lkd (ls.take (i + 1)) a b = true → R = true := fun h => by
      rw [← HR.out]
      unfold lkd at h ⊢
      obtain ⟨k, hk, e⟩ := List.any_eq_true.1 h
      exact List.any_eq_true.2 ⟨k, List.mem_of_mem_take hk, e⟩
    obtain ⟨⟨x, y⟩, hkk⟩ : ∃ k, ls.getD i (0, 0) = k := ⟨_, rfl⟩
    rw [hkk] at e0 e1 hst
    simp only at e0 e1 hst
    obtain ⟨p1, h1⟩ : ∃ p, (x == a) = p := ⟨_, rfl⟩
    obtain ⟨p2, h2⟩ : ∃ p, (y == b) = p := ⟨_, rfl⟩
    obtain ⟨p3, h3⟩ : ∃ p, (x == b) = p := ⟨_, rfl⟩
    obtain ⟨p4, h4⟩ : ∃ p, (y == a) = p := ⟨_, rfl⟩
    rw [h1, h2, h3, h4] at hst
    obtain ⟨E, hEE⟩ : ∃ E, (p1 && p2 || p3 && p4) = E := ⟨_, rfl⟩
    rw [hEE] at hst
    have Hst := Lib.hid hst; have Hyes := Lib.hid hyes; have HEE := Lib.hid hEE
    obtain ⟨G, hG⟩ : ∃ G, wr.heap.size = G := ⟨_, rfl⟩
    obtain ⟨U, hU⟩ : ∃ U, wr.alloc (.cells #[.int .i64 x, .int .i64 y] 76) = U := ⟨_, rfl⟩
    have EU : Ext wr U := by rw [← hU]; exact ext_al _ _
    have rU : U.heap[G]? = some (.cells #[.int .i64 x, .int .i64 y] 76 (0, 0)) := by rw [← hU, ← hG]; exact heap_alloc_new _ _
    have y0 : U.cell? ⟨G, 0, none⟩ = some (.int .i64 x) := by rw [cell_of_row U G 0 _ _ (0, 0) rU]; rfl
    have y1 : U.cell? ⟨G, 1, none⟩ = some (.int .i64 y) := by rw [cell_of_row U G 1 _ _ (0, 0) rU]; rfl
    have HU := Lib.hid hU; have HG := Lib.hid hG; have HEU := Lib.hid (HE.out.trans EU)
    clear hcell hbl hst hyes hkk hU hG rU EU bD hE hk hno hEE hil hin hi hlt
    go_upto_region 5 with fail
    rw [HU.out, HG.out]
    clear HU HG v1 e0 e1
    go_cut [42] from 21 to 42 (fun s42 wx => s42 = .bool E ∧ U = wx)
    case first =>
      have hEE := HEE.out
      clear HEE Hst Hyes
      cases p1 <;> cases p2 <;> cases p3 <;> cases p4 <;> (subst hEE; go_wp2_with fail; go_meet; exact ⟨rfl, rfl⟩)
    case rest =>
    obtain ⟨rfl, rfl⟩ := hcut
    clear y0 y1 h1 h2 h3 h4
    cases E
    · have Hn2 := Lib.hid Hst.out
      go_wp2_with fail
      go_roundg (n - (i + 1))
      case measure => have := Hk.out; have := Hlt.out; omega
      case rel => exact ⟨i + 1, rfl, Hlt.out, rfl, HEU.out, Hn2.out⟩
    · have HF := Lib.hid (Hyes.out Hst.out).symm
      have HEz := Lib.hid (HE0.out.trans HEU.out)
      go_wp2_with fail
      go_ret
      exact ⟨congrArg (fun b => Ending.returned (Value.bool b)) HF.out, HEz.out⟩
end Go.Proofs.YtlmfhopifggeaaaDoor
