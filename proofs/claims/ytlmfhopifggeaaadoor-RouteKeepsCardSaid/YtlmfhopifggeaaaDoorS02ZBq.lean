/-
  divWords: words divided by words, with their rest. Reading numbers: the small calls on texts. Reading numbers: scanNumber, tooLong, readChunk, appendChunk. Texts of numbers, in plain lists: padded digits. Texts of numbers, read again, in plain lists. Div: quotient and rest. Numbers side by side in one block: the row of eight of a sum, the nine of a number of circuits. A row's small questions: zero. A region that draws its order and ends in stores: what it loads is held until the first store comes up. A row grows: add. Rows of eight as sums of powers of z: what add, addProduct, Turn, Conj, Half, Mul make of them, in plain numbers. The one way in which a number of circuits is kept, in plain numbers: what lowest answers; half of a number; the laws' last steps. Circuits: what they are, in plain numbers; what is wrong with one. Lists of ints in memory. Amplitudes in plain numbers: the lowest form of a number; how great an amplitude can be behind n operations; states, gates, outcomes. Nothing of the program stands here. The cells of a row, and of a number of circuits, as a whole: stored, loaded, answered at once. The reference's numbers: digits to the base 10000 in slices of ints. What memory holds; zmade. The reference's numbers: zsign, dcmp.
-/
import Derived.Test.YtlmfhopifggeaaaDoorProg
import Derived.Test.YtlmfhopifggeaaaDoorRows
import Derived.BigQuiet
import Derived.Deep.Cut
import Derived.Deep.CutRange
import Derived.Deep.LoopGhost
import Derived.Deep.MidRow
import Derived.Deep.QuietTactic
import Derived.Deep.RegionHeld3
import Derived.Ground.Names2Prog
import Derived.Ground.SlgnProg
import Derived.Laws.Bits64b
import Derived.Laws.CopyOwn
import Derived.Laws.ResultCell
import Derived.Laws.Rows
import Derived.Lib.BitFns
import Derived.Lib.Hide
import Derived.Lib.ItoaNum
import Derived.Lib.Strings
import Derived.Lib.TrailingZeros
import Derived.OwnWalk
import Derived.Shelf.Slices.Clone
import Derived.Shelf.SlicesE.Clone
import Derived.WalkKit
import Derived.WalkLawsBesides
import Derived.WalkSpells
import Derived.Test.YtlmfhopifggeaaaDoorS00Mem
import Derived.Test.YtlmfhopifggeaaaDoorShelf
namespace Go.Proofs.YtlmfhopifggeaaaDoor
open Go.RowKit

theorem Ext.alloc (w : World) (o : Obj) : Ext w (w.alloc o) := (Below.refl _ _).alloc (Nat.le_refl _) o

end Go.Proofs.YtlmfhopifggeaaaDoor
namespace Go.Proofs.YtlmfhopifggeaaaDoor
open Go.RowKit

/-- A digit's byte. -/
def isD (x : Nat) : Bool := decide (48 ≤ x ∧ x ≤ 57)
end Go.Proofs.YtlmfhopifggeaaaDoor
namespace Go.Proofs.YtlmfhopifggeaaaDoor
open Go.RowKit

/-- The number that digits make. -/
def dval (l : List Nat) : Nat := l.foldl (fun v x => 10 * v + (x - 48)) 0
theorem dval_snoc (l : List Nat) (x : Nat) : dval (l ++ [x]) = 10 * dval l + (x - 48) := by simp [dval]
end Go.Proofs.YtlmfhopifggeaaaDoor
namespace Go.Proofs.YtlmfhopifggeaaaDoor

/-- n digits of v, noughts ahead. -/
def padD (n v : Nat) : List UInt8 := (List.range n).map fun t => Lib.dg v (n - 1 - t)

theorem dg_up (v n j : Nat) : Lib.dg v (n + j) = Lib.dg (v / 10 ^ n) j := by
  unfold Lib.dg
  rw [Nat.pow_add, Nat.div_div_eq_div_mul]

theorem dg_low (v n j : Nat) (h : j < n) : Lib.dg (v % 10 ^ n) j = Lib.dg v j := by
  unfold Lib.dg
  obtain ⟨k, rfl⟩ : ∃ k, n = j + (k + 1) := ⟨n - j - 1, by omega⟩
  have e : v % 10 ^ (j + (k + 1)) / 10 ^ j % 10 = v / 10 ^ j % 10 := by
    rw [Nat.pow_add, Nat.mod_mul_right_div_self, Nat.pow_succ, Nat.mul_comm (10 ^ k) 10, Nat.mod_mul_right_mod]
  rw [e]

theorem padD_append (m n v : Nat) : padD (m + n) v = padD m (v / 10 ^ n) ++ padD n (v % 10 ^ n) := by
  unfold padD
  rw [List.range_add, List.map_append, List.map_map]
  congr 1
  · refine List.map_congr_left fun t ht => ?_
    have ht' : t < m := List.mem_range.1 ht
    rw [show m + n - 1 - t = n + (m - 1 - t) by omega, dg_up]
  · refine List.map_congr_left fun t ht => ?_
    have ht' : t < n := List.mem_range.1 ht
    show Lib.dg v (m + n - 1 - (m + t)) = _
    rw [show m + n - 1 - (m + t) = n - 1 - t by omega, dg_low _ _ _ (by omega)]

theorem decDigits_pad (u : Nat) : Lib.decDigits u = padD (Lib.nDigits u) u := Lib.decDigits_eq u

theorem nDigits_div (n v : Nat) (h : 0 < v / 10 ^ n) : Lib.nDigits v = Lib.nDigits (v / 10 ^ n) + n := by
  induction n generalizing v with
  | zero => simp
  | succ n ih =>
    rw [Nat.pow_succ, Nat.mul_comm, ← Nat.div_div_eq_div_mul] at h ⊢
    have h10 : ¬ v < 10 := by
      intro hv
      rw [Nat.div_eq_of_lt hv, Nat.zero_div] at h
      exact Nat.lt_irrefl _ h
    rw [Lib.nDigits_big h10, ih (v / 10) h]
    omega

theorem decDigits_append (n v : Nat) (h : 0 < v / 10 ^ n) : Lib.decDigits v = Lib.decDigits (v / 10 ^ n) ++ padD n (v % 10 ^ n) := by
  rw [decDigits_pad v, nDigits_div n v h, padD_append, ← decDigits_pad]

theorem padD_zero (n : Nat) : padD n 0 = List.replicate n 48 := by
  unfold padD
  apply List.ext_getElem
  · simp
  · intro i h1 h2
    simp [Lib.dg]

theorem padD_fill (n v : Nat) (h : Lib.nDigits v ≤ n) : padD n v = List.replicate (n - Lib.nDigits v) 48 ++ Lib.decDigits v := by
  obtain ⟨m, rfl⟩ : ∃ m, n = m + Lib.nDigits v := ⟨n - Lib.nDigits v, by omega⟩
  have hlt := Lib.lt_pow_nDigits v
  rw [padD_append, Nat.div_eq_of_lt hlt, Nat.mod_eq_of_lt hlt, padD_zero, Nat.add_sub_cancel, ← decDigits_pad]

theorem nDigits_le (n v : Nat) (hn : 1 ≤ n) (h : v < 10 ^ n) : Lib.nDigits v ≤ n := by
  induction n generalizing v with
  | zero => omega
  | succ n ih =>
    by_cases h10 : v < 10
    · rw [Lib.nDigits_small h10]; exact hn
    · rw [Lib.nDigits_big h10]
      rw [Nat.pow_succ] at h
      have h1 : 1 ≤ n := by
        cases n with
        | zero => simp at h; omega
        | succ k => omega
      have := ih (v / 10) h1 (by omega)
      omega

end Go.Proofs.YtlmfhopifggeaaaDoor
namespace Go.Proofs.YtlmfhopifggeaaaDoor
open Go.RowKit

theorem digit_toNat (k : Nat) (h : k < 10) : (UInt8.ofNat (48 + k)).toNat = 48 + k := by
  rw [UInt8.toNat_ofNat']
  omega

/-- The digits' bytes, as numbers. -/
def decN (v : Nat) : List Nat := (Lib.decDigits v).map UInt8.toNat
theorem decN_small {v : Nat} (h : v < 10) : decN v = [48 + v] := by
  unfold decN
  rw [Lib.decDigits, dif_pos h, List.map_cons, List.map_nil, digit_toNat v h]
theorem decN_big {v : Nat} (h : ¬ v < 10) : decN v = decN (v / 10) ++ [48 + v % 10] := by
  unfold decN
  rw [Lib.decDigits, dif_neg h, List.map_append, List.map_cons, List.map_nil, digit_toNat (v % 10) (by omega)]
theorem decN_length (v : Nat) : (decN v).length = Lib.nDigits v := by unfold decN; rw [List.length_map, Lib.decDigits_length]

theorem decN_dval (v : Nat) : dval (decN v) = v := by
  induction v using Nat.strongRecOn with
  | _ v ih =>
    by_cases h : v < 10
    · rw [decN_small h]; simp [dval]
    · rw [decN_big h, dval_snoc, ih (v / 10) (by omega)]; omega

theorem isD_digit (k : Nat) (h : k < 10) : isD (48 + k) = true := by
  simp only [isD, decide_eq_true_eq]; omega

theorem decN_head (v : Nat) : ∃ d r, decN v = d :: r ∧ isD d = true ∧ (d = 48 → v = 0) := by
  induction v using Nat.strongRecOn with
  | _ v ih =>
    by_cases h : v < 10
    · exact ⟨48 + v, [], decN_small h, isD_digit v h, by omega⟩
    · obtain ⟨d, r, e, h1, h2⟩ := ih (v / 10) (by omega)
      exact ⟨d, r ++ [48 + v % 10], by rw [decN_big h, e]; rfl, h1, fun hd => by have := h2 hd; omega⟩

/-- A number's text. -/
def txt (z : Int) : List Nat := (Lib.itoa z).map UInt8.toNat
theorem txt_neg {z : Int} (h : z < 0) : txt z = 45 :: decN z.natAbs := by
  unfold txt Lib.itoa decN; rw [if_pos h]; rfl
theorem txt_pos {z : Int} (h : ¬ z < 0) : txt z = decN z.natAbs := by
  unfold txt Lib.itoa decN; rw [if_neg h]
  have : z.toNat = z.natAbs := by omega
  rw [this]

end Go.Proofs.YtlmfhopifggeaaaDoor
namespace Go.Proofs.YtlmfhopifggeaaaDoor
open Go.RowKit

theorem cellKeep {W w' : World} (h : Ext W w') {b o : Nat} {v : Value} (hb : b < W.heap.size) (hc : W.cell? ⟨b, o, none⟩ = some v) : w'.cell? ⟨b, o, none⟩ = some v := (h.cell (p := ⟨b, o, none⟩) hb).trans hc
end Go.Proofs.YtlmfhopifggeaaaDoor
namespace Go.Proofs.YtlmfhopifggeaaaDoor
open Go.RowKit

def updN (f : Nat → Int) (i : Nat) (z : Int) : Nat → Int := fun j => if j = i then z else f j
end Go.Proofs.YtlmfhopifggeaaaDoor
namespace Go.Proofs.YtlmfhopifggeaaaDoor
open Go.RowKit

/-- All eight are nought. -/
def zeroN (f : Nat → Int) : Prop := ∀ i, i < 8 → f i = 0
end Go.Proofs.YtlmfhopifggeaaaDoor
namespace Go.Proofs.YtlmfhopifggeaaaDoor

section
variable {P : Program} {ops : Array Oper} {Q : Exit → Act → World → Prop} {md : Region.Mode} {S : World → Prop} {k : Nat}

/-- In whatever order: S holds behind each operation as long as number k has not come up. -/
def anyK (P : Program) (md : Region.Mode) (ops : Array Oper) (Q : Exit → Act → World → Prop) (k : Nat) (S : World → Prop) : Nat → Array Bool → Act → World → Prop
  | 0, l, a, w => Region.ready md ops l = [] ∧ Q .normal a w
  | n + 1, l, a, w => (Region.ready md ops l = [] → Q .normal a w) ∧
      ∀ i, i ∈ Region.ready md ops l → wpOp P ops Q i (fun a' w' => ((l.setIfInBounds i true).getD k true = false → S w') ∧ anyK P md ops Q k S n (l.setIfInBounds i true) a' w') a w

theorem anyK_plain (n : Nat) : ∀ (l : Array Bool) (a : Act) (w : World), anyK P md ops Q k S n l a w → wpAny P md ops Q n l a w := by
  induction n with
  | zero => exact fun _ _ _ h => h
  | succ n ih => exact fun l a w h => ⟨h.1, fun i hi => wpOp_mono (fun a' w' h' => ih _ a' w' h'.2) (h.2 i hi)⟩

/-- Number k waits for number i, by way of others too. -/
def waits (md : Region.Mode) (ops : Array Oper) : Nat → Nat → Nat → Bool
  | 0, _, _ => false
  | n + 1, k, i => match ops[k]? with
    | some o => o.after.any fun e => Region.binds md e && (e.on == i || waits md ops n e.on i)
    | none => false

/-- What has come up has come up behind all that it waits for. -/
def closedL (md : Region.Mode) (ops : Array Oper) (l : Array Bool) : Prop :=
  ∀ j o, ops[j]? = some o → l.getD j false = true → ∀ e ∈ o.after, Region.binds md e = true → l.getD e.on false = true
def closedB (md : Region.Mode) (ops : Array Oper) (l : Array Bool) : Bool :=
  (List.range ops.size).all fun j => !(l.getD j false) || (match ops[j]? with
    | some o => o.after.all fun e => !(Region.binds md e) || l.getD e.on false
    | none => true)
theorem closedB_spec {l : Array Bool} (h : closedB md ops l = true) : closedL md ops l := by
  intro j o ho hl e he hb
  have hj : j < ops.size := (Array.getElem?_eq_some_iff.1 ho).1
  have h1 := List.all_eq_true.1 h j (List.mem_range.2 hj)
  rw [hl, ho] at h1
  have h2 : (o.after.all fun e => !(Region.binds md e) || l.getD e.on false) = true := by simpa using h1
  have h3 := Array.all_eq_true_iff_forall_mem.1 h2 e he
  rw [hb] at h3
  simpa using h3
theorem closedL_set {l : Array Bool} {j : Nat} (h : closedL md ops l) (hj : j ∈ Region.ready md ops l) : closedL md ops (l.setIfInBounds j true) := by
  intro m o ho hl e he hb
  by_cases hm : j = m
  · subst hm
    obtain ⟨_, o', ho', hall⟩ := mem_ready.1 hj
    rw [ho] at ho'
    cases ho'
    exact getD_set_true (hall e he hb)
  · rw [Go.getD_set_ne false hm] at hl
    exact getD_set_true (h m o ho hl e he hb)

theorem waits_listed {l : Array Bool} (hc : closedL md ops l) (n : Nat) : ∀ (k i : Nat), waits md ops n k i = true → (∀ o, ops[k]? = some o → ∀ e ∈ o.after, Region.binds md e = true → l.getD e.on false = true) → l.getD i false = true := by
  induction n with
  | zero => intro k i h; cases h
  | succ n ih =>
    intro k i h hk
    unfold waits at h
    cases ho : ops[k]? with
    | none => rw [ho] at h; cases h
    | some o =>
      rw [ho] at h
      obtain ⟨e, he, hb⟩ := Array.any_eq_true'.1 h
      obtain ⟨h1, h2⟩ : Region.binds md e = true ∧ (e.on = i ∨ waits md ops n e.on i = true) := by simpa using hb
      have h3 := hk o ho e he h1
      rcases h2 with h2 | h2
      · rw [← h2]; exact h3
      · exact ih e.on i h2 (fun o' ho' e' he' hb' => hc e.on o' ho' h3 e' he' hb')
theorem waits_unready {l : Array Bool} {i n : Nat} (hc : closedL md ops l) (hw : waits md ops n k i = true) (hi : i ∈ Region.ready md ops l) : k ∉ Region.ready md ops l := by
  intro hk
  obtain ⟨_, o, ho, hall⟩ := mem_ready.1 hk
  have h1 := waits_listed hc n k i hw (fun o' ho' => by rw [ho] at ho'; cases ho'; exact hall)
  have h2 := (mem_ready.1 hi).1
  rcases Nat.lt_or_ge i l.size with h | h
  · simp [h] at h1 h2
    rw [h2] at h1
    cases h1
  · simp [Array.getElem?_eq_none h] at h1

/-- Number i may be taken first, if it yields the same wherever S holds, and number k waits for it. -/
theorem anyK_first {i : Nat} {o : Oper} {v : Value} (hi : ops[i]? = some o) (hsel : ∀ (j : Nat) (o : Oper) cs b, ops[j]? = some o → o.op ≠ .select cs b)
    (hQ : ∀ c a w, Q (.panic c) (a.put o.dst v) w → Q (.panic c) a w) {N : Nat} (hw : waits md ops N k i = true) (n : Nat) :
    ∀ (l : Array Bool) (a : Act) (w : World), closedL md ops l →
      (∀ j oj, ops[j]? = some oj → j ≠ i → l.getD j true = false → (∀ e ∈ oj.after, Region.binds md e = true → e.on ≠ i) → o.apart ops oj = true) →
      i ∈ Region.ready md ops l → YieldsIf P ops S o v a → S w → l.getD k true = false →
      anyK P md ops Q k S n (l.setIfInBounds i true) (a.put o.dst v) w → anyK P md ops Q k S (n + 1) l a w := by
  induction n with
  | zero =>
    intro l a w _ _ hr hy hS _ H
    refine ⟨fun h => (by rw [h] at hr; cases hr), fun j hj => ?_⟩
    by_cases hji : j = i
    · subst hji
      exact hy.wpOp hi hS ⟨fun _ => hS, H⟩
    · have h := ready_mono hj hji
      rw [H.1] at h
      cases h
  | succ n ih =>
    intro l a w hc hfree hr hy hS hk H
    refine ⟨fun h => (by rw [h] at hr; cases hr), fun j hj => ?_⟩
    by_cases hji : j = i
    · subst hji
      exact hy.wpOp hi hS ⟨fun _ => hS, H⟩
    have hjk : j ≠ k := fun e => waits_unready hc hw hr (e ▸ hj)
    obtain ⟨hjun, oj, hoj, hall⟩ := mem_ready.1 hj
    have hnot : ∀ e ∈ oj.after, Region.binds md e = true → e.on ≠ i := by
      intro e he hb heq
      have h1 := hall e he hb
      have h0 := (mem_ready.1 hr).1
      rw [heq] at h1
      rcases Nat.lt_or_ge i l.size with h' | h'
      · simp [h'] at h0 h1
        rw [h0] at h1
        cases h1
      · simp [Array.getElem?_eq_none h'] at h1
    have h2 := wpOp_putIf hoj (hfree j oj hoj hji hjun hnot) (fun cs b => hsel i o cs b hi) (fun cs b => hsel j oj cs b hoj) hQ hy (H.2 j (ready_mono hj hji))
    have hk1 : (l.setIfInBounds j true).getD k true = false := by rw [Go.getD_set_ne true hjk]; exact hk
    have hik : i ≠ k := fun e => waits_unready hc hw hr (e ▸ hr)
    have hk2 : ((l.setIfInBounds i true).setIfInBounds j true).getD k true = false := by rw [Go.getD_set_ne true hjk, Go.getD_set_ne true hik]; exact hk
    have hfree' : ∀ m om, ops[m]? = some om → m ≠ i → (l.setIfInBounds j true).getD m true = false → (∀ e ∈ om.after, Region.binds md e = true → e.on ≠ i) → o.apart ops om = true := by
      intro m om hm hmi hun hno
      refine hfree m om hm hmi ?_ hno
      by_cases e : j = m
      · subst e; exact hjun
      · rw [Go.getD_set_ne true e] at hun; exact hun
    refine wpOp_mono (fun a' w' h3 => ?_) h2
    obtain ⟨y3, s3, r3⟩ := h3
    refine ⟨fun _ => s3 hk2, ih _ a' w' (closedL_set hc hj) hfree' (ready_mono hr (Ne.symm hji)) y3 (s3 hk2) hk1 ?_⟩
    rw [Array.setIfInBounds_comm _ _ hji]
    exact r3

theorem anyK_take {i : Nat} {o : Oper} {v : Value} {n : Nat} {l : Array Bool} {a : Act} {w : World} (hi : ops[i]? = some o)
    (hs : Region.noSelect ops = true) (hf : Region.free md ops l i = true) (hr : (Region.ready md ops l).contains i = true) {N : Nat} (hw : waits md ops N k i = true) (hc : closedB md ops l = true) (hk : l.getD k true = false)
    (hQ : ∀ c a w, Q (.panic c) (a.put o.dst v) w → Q (.panic c) a w) (hy : YieldsIf P ops S o v a) (hS : S w)
    (h : anyK P md ops Q k S n (l.setIfInBounds i true) (a.put o.dst v) w) : anyK P md ops Q k S (n + 1) l a w :=
  anyK_first hi (Region.noSelect_spec hs) hQ hw n l a w (closedB_spec hc) (Region.free_spec hi hf) (by simpa using hr) hy hS hk h

/-- One alone may come up. -/
theorem anyK_one {i : Nat} {o : Oper} {n : Nat} {l : Array Bool} {a : Act} {w : World} (hr : Region.ready md ops l = [i]) (ho : ops[i]? = some o)
    (h : ∀ K' : Act → World → Prop, Shut (∀ a w, ((l.setIfInBounds i true).getD k true = false → S w) → anyK P md ops Q k S n (l.setIfInBounds i true) a w → K' a w) → if Region.wanted o (yielded ops a.tmps) = true then Oper.wp P o a w K' Q else K' (a.put o.dst undef) w) :
    anyK P md ops Q k S (n + 1) l a w := by
  refine ⟨fun h0 => (by rw [hr] at h0; cases h0), fun j hj => ?_⟩
  rw [hr] at hj
  rcases List.mem_singleton.1 hj with rfl
  exact wpOp_step ho (fun K' hK => h K' (fun a w hS hW => hK a w ⟨hS, hW⟩))

theorem anyK_done {l : Array Bool} {a : Act} {w : World} (hr : Region.ready md ops l = []) (h : Q .normal a w) (n : Nat) : anyK P md ops Q k S n l a w := by
  cases n with
  | zero => exact ⟨hr, h⟩
  | succ n => exact ⟨fun _ => h, by rw [hr]; intro i hi; cases hi⟩

theorem wp_region_K (k : Nat) (S : World → Prop) {id : Nat} {a : Act} {w : World} (hm : P.follows .mixedOrders = true)
    (h : anyK P .any ops Q k S ops.size (Array.replicate ops.size false) a w.drew) : (Code.region id ops true).wp P Q a w :=
  wp_region_any hm (anyK_plain _ _ _ _ h)
end

end Go.Proofs.YtlmfhopifggeaaaDoor
namespace Go.Proofs.YtlmfhopifggeaaaDoor
open Go.RowKit

/-- n, or -n, by the power. -/
def sgK (k z : Int) : Int := if k % 16 < 8 then z else -z
end Go.Proofs.YtlmfhopifggeaaaDoor
namespace Go.Proofs.YtlmfhopifggeaaaDoor

/-- A row as a sum: its sign turns each eight steps. -/
def ext8 (f : Nat → Int) : Int → Int := fun k => if k % 16 < 8 then f (k % 8).toNat else -f (k % 8).toNat
theorem anti_ext8 (f : Nat → Int) : Anti (ext8 f) := fun k => by
  unfold ext8
  rw [show (k + 8) % 8 = k % 8 by omega]
  by_cases h : k % 16 < 8
  · rw [if_pos h, if_neg (by omega)]
  · rw [if_neg h, if_pos (by omega)]; omega
theorem ext8_at (f : Nat → Int) (j : Int) (h0 : 0 ≤ j) (h1 : j < 8) : ext8 f j = f j.toNat := by
  unfold ext8
  rw [if_pos (by omega), show j % 8 = j by omega]
theorem ext8_congr {f g : Nat → Int} (h : ∀ i, i < 8 → f i = g i) : ext8 f = ext8 g :=
  (anti_ext8 f).ext (anti_ext8 g) fun j h0 h1 => by rw [ext8_at f j h0 h1, ext8_at g j h0 h1, h _ (by omega)]
theorem ext8_of {a : Int → Int} (ha : Anti a) : ext8 (fun i => a i) = a :=
  (anti_ext8 _).ext ha fun j h0 h1 => by rw [ext8_at _ j h0 h1, show ((j.toNat : Nat) : Int) = j by omega]
theorem ext8_zero : ext8 (fun _ => 0) = fun _ => 0 := (anti_ext8 _).ext anti_zero fun j h0 h1 => by rw [ext8_at _ j h0 h1]
theorem ext8_abs {f : Nat → Int} {A : Nat} (h : ∀ i, i < 8 → (f i).natAbs ≤ A) (k : Int) : (ext8 f k).natAbs ≤ A := by
  unfold ext8
  have := h (k % 8).toNat (by omega)
  split <;> omega
end Go.Proofs.YtlmfhopifggeaaaDoor
namespace Go.Proofs.YtlmfhopifggeaaaDoor

theorem ext8_scale {f V : Nat → Int} {c : Int} (h : ∀ i, i < 8 → f i = V i * c) (k : Int) : ext8 f k = ext8 V k * c := by
  unfold ext8
  have := h (k % 8).toNat (by omega)
  split
  · exact this
  · rw [this, Int.neg_mul]
/-- Over the root of two. -/
def nHf (x : Nm) : Nm := ⟨addR (trR 2 x.a) (trR (-2) x.a), x.e + 1⟩
theorem EqN.hf {x x' : Nm} (h : EqN x x') : EqN (nHf x) (nHf x') := fun k => by
  have h1 := h (k - 2); have h2 := h (k - -2)
  simp only [nHf, addR, trR, Int.pow_succ]
  grind
theorem nAdd_comm (x y : Nm) : nAdd x y = nAdd y x := by
  unfold nAdd
  rw [Nat.add_comm]
  congr 1
  funext k
  rw [Int.add_comm]
theorem nNeg_tr {x : Nm} (hx : Anti x.a) : nTr 8 x = nNeg x := by
  unfold nTr nNeg
  congr 1
  funext k
  exact hx.back k
theorem Low.tr {x : Nm} (h : Low x) (m : Int) : Low (nTr m x) := by
  rcases h with h | ⟨k, h⟩
  · exact Or.inl h
  · refine Or.inr ⟨k + m, ?_⟩
    show x.a (k + m - m) % 2 = 1
    rw [show k + m - m = k by omega]; exact h
/-- A number is nought just where all its parts are. -/
theorem EqN.zero {x y : Nm} (h : EqN x y) : (∀ k, x.a k = 0) ↔ ∀ k, y.a k = 0 := by
  constructor
  · intro hz k
    have h1 := h k
    rw [hz, Int.zero_mul] at h1
    exact (Int.mul_eq_zero.1 h1.symm).resolve_right (two_ne _)
  · intro hz k
    have h1 := h k
    rw [hz, Int.zero_mul] at h1
    exact (Int.mul_eq_zero.1 h1).resolve_right (two_ne _)
end Go.Proofs.YtlmfhopifggeaaaDoor
namespace Go.Proofs.YtlmfhopifggeaaaDoor
open Go.RowKit

/-- An operation. -/
structure Gop where
  kind : Int
  k : Int
  ctl : List Int
  q : Int
  bit : Int
  cnd : List Int
/-- A circuit. -/
structure Gci where
  qubits : Int
  bits : Int
  ops : List Gop

def below (n b : Int) : Bool := decide (0 ≤ n) && decide (n < b)
def fitsB (v b : Int) (used : Bool) : Bool := if used then below v b else v == 0
def usesK (k : Int) : Bool := k == 1 || k == 4
def usesQ (k : Int) : Bool := !(k == 1)
def usesC (k : Int) : Bool := k == 2 || k == 3 || k == 4
def usesB (k : Int) : Bool := k == 5

/-- The first fault of controls; 'seen' stand ahead. -/
def ctlCode (q n : Int) : List Int → List Int → Int
  | _, [] => 0
  | seen, c :: r => if below c n = false then 10 else if c = q ∨ c ∈ seen then 12 else ctlCode q n (seen ++ [c]) r
/-- A term names a bit. -/
def termOk (bits t : Int) : Bool := !(t == 0) && decide (-bits ≤ t) && decide (t ≤ bits)
def cndOk (bits : Int) (l : List Int) : Bool := decide (l.length ≤ 24) && l.all (termOk bits)
/-- The first fault of an operation. -/
def opCode (o : Gop) (n bits : Int) : Int :=
  if o.kind < 1 ∨ 6 < o.kind then 8
  else if fitsB o.k 16 (usesK o.kind) = false then 9
  else if fitsB o.q n (usesQ o.kind) = false then 10
  else if 0 < o.ctl.length ∧ usesC o.kind = false then 11
  else if ctlCode o.q n [] o.ctl ≠ 0 then ctlCode o.q n [] o.ctl
  else if fitsB o.bit bits (usesB o.kind) = false then 13
  else if cndOk bits o.cnd = false then 14
  else 0
/-- The first fault of operations, the first of which has number i. -/
def opsCode (n bits : Int) : Nat → List Gop → Int × Int
  | _, [] => (0, 0)
  | i, o :: r => if opCode o n bits ≠ 0 then (opCode o n bits, (i : Int)) else opsCode n bits (i + 1) r
/-- The first fault of a circuit. -/
def chk (c : Gci) : Int × Int :=
  if c.qubits < 1 ∨ 12 < c.qubits then (6, 0)
  else if c.bits < 0 ∨ 12 < c.bits then (7, 0)
  else if 4096 < c.ops.length then (2, 0)
  else opsCode c.qubits c.bits 0 c.ops

theorem ctlCode_step (q n : Int) (l : List Int) (i : Nat) (h : i < l.length) : ctlCode q n (l.take i) (l.drop i) = if below (l.getD i 0) n = false then 10 else if l.getD i 0 = q ∨ l.getD i 0 ∈ l.take i then 12 else ctlCode q n (l.take (i + 1)) (l.drop (i + 1)) := by
  have h1 : l.drop i = l[i] :: l.drop (i + 1) := List.drop_eq_getElem_cons h
  have h2 : l.take (i + 1) = l.take i ++ [l[i]] := by rw [List.take_add_one, List.getElem?_eq_getElem h]; rfl
  have h3 : l.getD i 0 = l[i] := by rw [List.getD_eq_getElem?_getD, List.getElem?_eq_getElem h]; rfl
  rw [h1, ctlCode, ← h2, h3]
theorem ctlCode_end (q n : Int) (l : List Int) (i : Nat) (h : l.length ≤ i) : ctlCode q n (l.take i) (l.drop i) = 0 := by
  rw [List.drop_eq_nil_of_le h]; rfl
theorem all_step (p : Int → Bool) (l : List Int) (i : Nat) (h : i < l.length) : (l.drop i).all p = (p (l.getD i 0) && (l.drop (i + 1)).all p) := by
  have h1 : l.drop i = l[i] :: l.drop (i + 1) := List.drop_eq_getElem_cons h
  have h3 : l.getD i 0 = l[i] := by rw [List.getD_eq_getElem?_getD, List.getElem?_eq_getElem h]; rfl
  rw [h1, List.all_cons, h3]

/-- The ints l lie at ao. -/
def IntsAt (w : World) (ao : Option Addr) (n : Nat) (l : List Int) : Prop :=
  l.length = n ∧ (n = 0 ∨ ∃ b o, ao = some ⟨b, o, none⟩ ∧ b < w.heap.size ∧ ∀ t, t < n → w.cell? ⟨b, o + t, none⟩ = some (.int .i64 (l.getD t 0)))
theorem IntsAt.ext {w w' : World} {ao : Option Addr} {n : Nat} {l : List Int} (h : IntsAt w ao n l) (k : Ext w w') : IntsAt w' ao n l := by
  refine ⟨h.1, ?_⟩
  rcases h.2 with h0 | ⟨b, o, e, hb, hc⟩
  · exact Or.inl h0
  · exact Or.inr ⟨b, o, e, Nat.lt_of_lt_of_le hb k.size, fun t ht => (k.cell (p := ⟨b, o + t, none⟩) hb).trans (hc t ht)⟩
theorem IntsAt.take {w : World} {ao : Option Addr} {n : Nat} {l : List Int} (h : IntsAt w ao n l) (m : Nat) (hm : m ≤ n) : IntsAt w ao m (l.take m) := by
  refine ⟨by rw [List.length_take, h.1]; omega, ?_⟩
  rcases h.2 with h0 | ⟨b, o, e, hb, hc⟩
  · exact Or.inl (by omega)
  · refine Or.inr ⟨b, o, e, hb, fun t ht => ?_⟩
    rw [hc t (by omega), List.getD_eq_getElem?_getD, List.getD_eq_getElem?_getD, List.getElem?_take, if_pos ht]
theorem IntsAt.at {w : World} {ao : Option Addr} {n : Nat} {l : List Int} (h : IntsAt w ao n l) (hn : 0 < n) : ∃ b o, ao = some ⟨b, o, none⟩ ∧ b < w.heap.size ∧ ∀ t, t < n → w.cell? ⟨b, o + t, none⟩ = some (.int .i64 (l.getD t 0)) := by
  rcases h.2 with h0 | h
  · omega
  · exact h

set_option maxHeartbeats 400000 in
theorem isBelow_any (n b : Int) (w : World) : Calls Tryd.prog 81 #[.int .i64 n, .int .i64 b] w fun e w' => e = .returned (.bool (below n b)) ∧ w' = w := by
  by_cases h0 : 0 ≤ n
  · by_cases h1 : n < b
    · have e : below n b = true := by simp [below, h0, h1]
      rw [e]
      go_enter Tryd.func81, Tryd.ntmps81
      go_wp2
      go_ret
      exact ⟨rfl, rfl⟩
    · have e : below n b = false := by simp [below, h1]
      rw [e]
      have h1' : decide (n < b) = false := by simp [h1]
      go_enter Tryd.func81, Tryd.ntmps81
      go_wp2
      go_ret
      exact ⟨rfl, rfl⟩
  · have e : below n b = false := by simp [below, h0]
    rw [e]
    have h0' : decide (0 ≤ n) = false := by simp [h0]
    go_enter Tryd.func81, Tryd.ntmps81
    go_wp2
    go_ret
    exact ⟨rfl, rfl⟩

set_option maxHeartbeats 400000 in
theorem fits_any (v b : Int) (u : Bool) (w : World) : Calls Tryd.prog 70 #[.int .i64 v, .int .i64 b, .bool u] w fun e w' => e = .returned (.bool (fitsB v b u)) ∧ w' = w := by
  cases u
  · go_enter Tryd.func70, Tryd.ntmps70
    go_wp2
    go_ret
    exact ⟨rfl, rfl⟩
  · go_enter Tryd.func70, Tryd.ntmps70
    go_wp2_with fail
    refine (isBelow_any _ _ _).mono ?_
    rintro e w1 ⟨rfl, rfl⟩
    go_wp2_with fail
    go_ret
    exact ⟨rfl, rfl⟩

end Go.Proofs.YtlmfhopifggeaaaDoor
namespace Go.Proofs.YtlmfhopifggeaaaDoor

theorem low_ex : ∀ (e : Nat) (a : Int → Int), ∃ y : Nm, Low y ∧ EqN y ⟨a, e⟩ ∧ (Anti a → Anti y.a)
  | 0, a => ⟨⟨a, 0⟩, Or.inl rfl, EqN.refl _, id⟩
  | e + 1, a => by
    by_cases h : ∃ k, a k % 2 = 1
    · exact ⟨⟨a, e + 1⟩, Or.inr h, EqN.refl _, id⟩
    · have hev : ∀ k, a k % 2 = 0 := fun k => by
        have : ¬ a k % 2 = 1 := fun g => h ⟨k, g⟩
        omega
      obtain ⟨y, h1, h2, h3⟩ := low_ex e (fun k => a k / 2)
      refine ⟨y, h1, h2.trans (fun k => ?_), fun ha => h3 fun k => ?_⟩
      · have := hev k
        show a k / 2 * 2 ^ (e + 1) = a k * 2 ^ e
        rw [Int.pow_succ, Int.mul_comm (2 ^ e) 2, ← Int.mul_assoc]
        congr 1
        omega
      · have h4 := ha k; have h5 := hev k
        show a (k + 8) / 2 = -(a k / 2)
        omega
/-- The lowest form. -/
noncomputable def lw (x : Nm) : Nm := Classical.choose (low_ex x.e x.a)
theorem lw_low (x : Nm) : Low (lw x) := (Classical.choose_spec (low_ex x.e x.a)).1
theorem lw_eq (x : Nm) : EqN (lw x) x := (Classical.choose_spec (low_ex x.e x.a)).2.1
theorem lw_anti {x : Nm} (h : Anti x.a) : Anti (lw x).a := (Classical.choose_spec (low_ex x.e x.a)).2.2 h
theorem lw_one {x z : Nm} (hz : Low z) (h : EqN z x) : z = lw x := low_one hz (lw_low x) (h.trans (lw_eq x).symm)
theorem lw_congr {x y : Nm} (h : EqN x y) : lw x = lw y := lw_one (lw_low x) ((lw_eq x).trans h)
theorem lw_self {x : Nm} (h : Low x) : lw x = x := (lw_one h (EqN.refl x)).symm

/-- How great: over 2^N, below 2^(2N + 1). -/
def Bd (N : Nat) (x : Nm) : Prop := x.e ≤ N ∧ ∀ k, (x.a k).natAbs * 2 ^ (N - x.e) < 2 ^ (2 * N + 1)
theorem Bd.abs {N : Nat} {x : Nm} (h : Bd N x) (k : Int) : (x.a k).natAbs < 2 ^ (2 * N + 1) :=
  Nat.lt_of_le_of_lt (Nat.le_mul_of_pos_right _ (Nat.pow_pos (by decide))) (h.2 k)
theorem Bd.rep {N : Nat} {x : Nm} (h : Bd N x) : EqN x ⟨fun k => x.a k * 2 ^ (N - x.e), N⟩ := fun k => by
  show x.a k * 2 ^ N = x.a k * 2 ^ (N - x.e) * 2 ^ x.e
  rw [Int.mul_assoc, ← Int.pow_add, Nat.sub_add_cancel h.1]
theorem Bd.of_rep {N : Nat} {x : Nm} {A : Int → Int} (hl : Low x) (h : EqN x ⟨A, N⟩) (hA : ∀ k, (A k).natAbs < 2 ^ (2 * N + 1)) : Bd N x := by
  have he : x.e ≤ N := low_le hl h
  refine ⟨he, fun k => ?_⟩
  have h1 : x.a k * 2 ^ N = A k * 2 ^ x.e := h k
  have h2 : x.a k * 2 ^ (N - x.e) = A k := by
    have h3 : x.a k * 2 ^ (N - x.e) * 2 ^ x.e = A k * 2 ^ x.e := by rw [Int.mul_assoc, ← Int.pow_add, Nat.sub_add_cancel he, h1]
    exact Int.eq_of_mul_eq_mul_right (two_ne _) h3
  have h4 : (x.a k).natAbs * 2 ^ (N - x.e) = (A k).natAbs := by
    rw [← h2, Int.natAbs_mul, Int.natAbs_pow]; rfl
  rw [h4]; exact hA k
theorem Bd.up {N : Nat} {x : Nm} (h : Bd N x) : Bd (N + 1) x := by
  refine ⟨Nat.le_succ_of_le h.1, fun k => ?_⟩
  have h1 := h.2 k
  rw [show N + 1 - x.e = N - x.e + 1 by have := h.1; omega, Nat.pow_succ, ← Nat.mul_assoc, show 2 * (N + 1) + 1 = 2 * N + 1 + 1 + 1 by omega, Nat.pow_succ, Nat.pow_succ]
  omega
theorem Bd.le {N M : Nat} {x : Nm} (h : Bd N x) (hm : N ≤ M) : Bd M x := by
  obtain ⟨d, rfl⟩ : ∃ d, M = N + d := ⟨M - N, by omega⟩
  clear hm
  induction d with
  | zero => exact h
  | succ d ih => exact ih.up
theorem Bd.tr {N : Nat} {x : Nm} (h : Bd N x) (m : Int) : Bd N (nTr m x) := ⟨h.1, fun k => h.2 (k - m)⟩
theorem Bd.neg {N : Nat} {x : Nm} (h : Bd N x) : Bd N (nNeg x) := ⟨h.1, fun k => by show (-(x.a k)).natAbs * _ < _; rw [Int.natAbs_neg]; exact h.2 k⟩
theorem Bd.zero (N : Nat) : Bd N ⟨fun _ => 0, 0⟩ := ⟨Nat.zero_le _, fun k => by simp; exact Nat.pow_pos (by decide)⟩
theorem Anti.neg' {x : Nm} (h : Anti x.a) : Anti (nNeg x).a := h.neg
theorem Low.neg {x : Nm} (h : Low x) : Low (nNeg x) := by
  rcases h with h | ⟨k, hk⟩
  · exact Or.inl h
  · exact Or.inr ⟨k, by show (-(x.a k)) % 2 = 1; omega⟩
theorem anti_add {x y : Nm} (hx : Anti x.a) (hy : Anti y.a) : Anti (nAdd x y).a := fun k => by
  show x.a (k + 8) * 2 ^ y.e + y.a (k + 8) * 2 ^ x.e = -(x.a k * 2 ^ y.e + y.a k * 2 ^ x.e)
  rw [hx, hy, Int.neg_mul, Int.neg_mul]; omega
theorem anti_hf {x : Nm} (hx : Anti x.a) : Anti (nHf x).a := (hx.tr 2).add (hx.tr (-2))
/-- A sum over one power. -/
theorem add_rep {x y : Nm} {A B : Int → Int} {N : Nat} (h : EqN x ⟨A, N⟩) (g : EqN y ⟨B, N⟩) : EqN (nAdd x y) ⟨addR A B, N⟩ :=
  (EqN.add h g).trans (fun k => by simp only [nAdd, addR, Int.pow_add]; grind)
/-- Behind a Hadamard gate. -/
theorem Bd.hf {N : Nat} {x y : Nm} (hx : Bd N x) (hy : Bd N y) : Bd (N + 1) (lw (nHf (nAdd x y))) := by
  have h1 := add_rep hx.rep hy.rep
  have h2 : EqN (nHf (nAdd x y)) ⟨addR (trR 2 (addR (fun k => x.a k * 2 ^ (N - x.e)) (fun k => y.a k * 2 ^ (N - y.e)))) (trR (-2) (addR (fun k => x.a k * 2 ^ (N - x.e)) (fun k => y.a k * 2 ^ (N - y.e)))), N + 1⟩ := EqN.hf h1
  refine Bd.of_rep (lw_low _) ((lw_eq _).trans h2) fun k => ?_
  have b : ∀ j : Int, (x.a j * 2 ^ (N - x.e) + y.a j * 2 ^ (N - y.e)).natAbs < 2 * 2 ^ (2 * N + 1) := fun j => by
    have c1 := hx.2 j; have c2 := hy.2 j
    have c3 : (x.a j * 2 ^ (N - x.e)).natAbs = (x.a j).natAbs * 2 ^ (N - x.e) := by rw [Int.natAbs_mul, Int.natAbs_pow]; rfl
    have c4 : (y.a j * 2 ^ (N - y.e)).natAbs = (y.a j).natAbs * 2 ^ (N - y.e) := by rw [Int.natAbs_mul, Int.natAbs_pow]; rfl
    omega
  have b1 := b (k - 2); have b2 := b (k - -2)
  show (x.a (k - 2) * 2 ^ (N - x.e) + y.a (k - 2) * 2 ^ (N - y.e) + (x.a (k - -2) * 2 ^ (N - x.e) + y.a (k - -2) * 2 ^ (N - y.e))).natAbs < 2 ^ (2 * (N + 1) + 1)
  rw [show 2 * (N + 1) + 1 = 2 * N + 1 + 1 + 1 by omega, Nat.pow_succ, Nat.pow_succ]
  omega

/-- Nought. -/
def nZ : Nm := ⟨fun _ => 0, 0⟩
theorem low_nZ : Low nZ := Or.inl rfl
theorem anti_nZ : Anti nZ.a := anti_zero
theorem zero_is {x : Nm} (h : Low x) (hz : ∀ k, x.a k = 0) : x = nZ := low_one h low_nZ fun k => by
  show x.a k * 2 ^ 0 = 0 * 2 ^ x.e
  rw [hz]; simp
theorem hf_add (x y : Nm) : EqN (nAdd (nHf x) (nHf y)) (nHf (nAdd x y)) := fun k => by
  simp only [nAdd, nHf, addR, trR, Int.pow_add]
  grind
theorem hf_neg (x : Nm) : nHf (nNeg x) = nNeg (nHf x) := by
  unfold nHf nNeg
  congr 1
  funext k
  simp only [addR, trR, negR]
  omega

/-- An amplitude of a state behind N operations. -/
structure Amp (N : Nat) (x : Nm) : Prop where
  low : Low x
  anti : Anti x.a
  bd : Bd N x
theorem Amp.zero (N : Nat) : Amp N nZ := ⟨low_nZ, anti_nZ, Bd.zero N⟩
theorem Amp.le {N M : Nat} {x : Nm} (h : Amp N x) (hm : N ≤ M) : Amp M x := ⟨h.low, h.anti, h.bd.le hm⟩
theorem Amp.tr {N : Nat} {x : Nm} (h : Amp N x) (m : Int) : Amp N (nTr m x) := ⟨h.low.tr m, h.anti.tr m, h.bd.tr m⟩
theorem Amp.neg {N : Nat} {x : Nm} (h : Amp N x) : Amp N (nNeg x) := ⟨h.low.neg, h.anti.neg', h.bd.neg⟩
theorem Amp.hf {N : Nat} {x y : Nm} (hx : Amp N x) (hy : Amp N y) : Amp (N + 1) (lw (nHf (nAdd x y))) := ⟨lw_low _, lw_anti (anti_hf (anti_add hx.anti hy.anti)), hx.bd.hf hy.bd⟩

/-- Is qubit q of basis state x 1? -/
def bt (x : Nat) (q : Int) : Bool := x.testBit q.toNat
def fl (x : Nat) (q : Int) : Nat := x ^^^ 2 ^ q.toNat
/-- Are all these? -/
def ons (x : Nat) (l : List Int) : Bool := l.all (bt x)
/-- A gate's work. -/
noncomputable def gt (o : Gop) (s : Nat → Nm) (x : Nat) : Nm :=
  if ons x o.ctl then
    if o.kind = 1 then nTr o.k (s x)
    else if o.kind = 4 then (if bt x o.q then nTr o.k (s x) else s x)
    else if o.kind = 2 then s (fl x o.q)
    else lw (nHf (nAdd (s (fl x o.q)) (if bt x o.q then nNeg (s x) else s x)))
  else s x
/-- What an outcome leaves. -/
def oc (q b : Int) (s : Nat → Nm) (x : Nat) : Nm := if (if bt x q then (1 : Int) else 0) = b then s x else nZ
theorem gt_amp {N : Nat} {o : Gop} {s : Nat → Nm} (h : ∀ x, Amp N (s x)) (x : Nat) : Amp (N + 1) (gt o s x) := by
  unfold gt
  split
  · split
    · exact ((h x).tr _).le (Nat.le_succ _)
    · split
      · split
        · exact ((h x).tr _).le (Nat.le_succ _)
        · exact (h x).le (Nat.le_succ _)
      · split
        · exact (h _).le (Nat.le_succ _)
        · refine (h _).hf ?_
          split
          · exact (h x).neg
          · exact h x
  · exact (h x).le (Nat.le_succ _)
theorem oc_amp {N : Nat} {q b : Int} {s : Nat → Nm} (h : ∀ x, Amp N (s x)) (x : Nat) : Amp N (oc q b s x) := by
  unfold oc
  by_cases g : (if bt x q then (1 : Int) else 0) = b
  · rw [if_pos g]; exact h x
  · rw [if_neg g]; exact Amp.zero N
theorem fl_fl (x : Nat) (q : Int) : fl (fl x q) q = x := by unfold fl; rw [Nat.xor_assoc, Nat.xor_self, Nat.xor_zero]
theorem bt_fl (x : Nat) (q : Int) : bt (fl x q) q = !bt x q := by
  unfold bt fl
  rw [Nat.testBit_xor, Nat.testBit_two_pow_self]
  simp
theorem bt_fl_ne {x : Nat} {q c : Int} (h : c.toNat ≠ q.toNat) : bt (fl x q) c = bt x c := by
  unfold bt fl
  rw [Nat.testBit_xor, Nat.testBit_two_pow_of_ne (fun e => h e.symm)]
  simp
theorem fl_lt {x n : Nat} {q : Int} (hx : x < 2 ^ n) (hq : q.toNat < n) : fl x q < 2 ^ n := Nat.xor_lt_two_pow hx (Nat.pow_lt_pow_right (by decide) hq)
end Go.Proofs.YtlmfhopifggeaaaDoor
namespace Go.Proofs.YtlmfhopifggeaaaDoor
open Go.RowKit

theorem setRow_only (w : World) (g : Nat) (cs : Array Value) : Only g w (w.setRow g cs) where
  os := rfl
  tape := rfl
  output := rfl
  size := by simp
  block := fun k hk => setRow_other w g k cs hk

/-- The cells of a number of circuits that stands for x: kept as it must be; its multiples are below 2^P, its power is at most E. -/
def nmF (x : Nm) : Nat → Int := fun i => if i = 8 then (x.e : Int) else x.a i
end Go.Proofs.YtlmfhopifggeaaaDoor
namespace Go.Proofs.YtlmfhopifggeaaaDoor
variable {Qc : Nat → Prop}
open Go.RowKit

/-- Block b holds ints. -/
def IBlk (w : World) (b : Nat) : Prop := ∃ (cur : Array Value) (fr : Nat × Nat), w.heap[b]? = some (.cells cur 3 fr)
theorem IBlk.lt {w : World} {b : Nat} (h : IBlk w b) : b < w.heap.size := by
  obtain ⟨cur, fr, h⟩ := h
  exact (Array.getElem?_eq_some_iff.1 h).1
theorem IBlk.block {w w' : World} {b : Nat} (h : IBlk w b) (k : w'.heap[b]? = w.heap[b]?) : IBlk w' b := by
  obtain ⟨cur, fr, h⟩ := h
  exact ⟨cur, fr, k.trans h⟩

/-- The ints l lie at ao. -/
def ISeg (w : World) (ao : Option Addr) (l : List Nat) : Prop :=
  (ao = none ∧ l = []) ∨ ∃ b o, ao = some ⟨b, o, none⟩ ∧ IBlk w b ∧ ∀ t, t < l.length → w.cell? ⟨b, o + t, none⟩ = some (.int .i64 (l.getD t 0 : Nat))

theorem ISeg.ext {w w' : World} {ao : Option Addr} {l : List Nat} (h : ISeg w ao l) (k : Ext w w') : ISeg w' ao l := by
  rcases h with h | ⟨b, o, rfl, hb, hc⟩
  · exact Or.inl h
  · exact Or.inr ⟨b, o, rfl, hb.block (k.block b hb.lt), fun t ht => (k.cell (p := ⟨b, o + t, none⟩) hb.lt).trans (hc t ht)⟩

theorem ISeg.take {w : World} {ao : Option Addr} {l : List Nat} (h : ISeg w ao l) (n : Nat) : ISeg w ao (l.take n) := by
  rcases h with ⟨rfl, rfl⟩ | ⟨b, o, rfl, hb, hc⟩
  · exact Or.inl ⟨rfl, by simp⟩
  · refine Or.inr ⟨b, o, rfl, hb, fun t ht => ?_⟩
    rw [List.length_take] at ht
    rw [hc t (by omega)]
    simp only [List.getD_eq_getElem?_getD, List.getElem?_take]
    rw [if_pos (by omega)]

theorem ISeg.at {w : World} {b o : Nat} {l : List Nat} (h : ISeg w (some ⟨b, o, none⟩) l) (t : Nat) (ht : t < l.length) : w.cell? ⟨b, o + t, none⟩ = some (.int .i64 (l.getD t 0 : Nat)) := by
  rcases h with ⟨h, _⟩ | ⟨b', o', h, _, hc⟩
  · cases h
  · simp only [Option.some.injEq, Addr.mk.injEq, and_true] at h
    obtain ⟨rfl, rfl⟩ := h
    exact hc t ht

theorem ISeg.some_of {w : World} {ao : Option Addr} {l : List Nat} (h : ISeg w ao l) (hl : 0 < l.length) : ∃ b o, ao = some ⟨b, o, none⟩ := by
  rcases h with ⟨_, rfl⟩ | ⟨b, o, h, _⟩
  · simp at hl
  · exact ⟨b, o, h⟩

/-- The number that digits make, the lowest first. -/
def zval : List Nat → Nat
  | [] => 0
  | x :: r => x + 10000 * zval r
theorem zval_append (a b : List Nat) : zval (a ++ b) = zval a + 10000 ^ a.length * zval b := by
  induction a with
  | nil => simp [zval]
  | cons x r ih =>
    rw [List.cons_append, zval, ih, zval, List.length_cons, Nat.pow_succ, Nat.mul_add]
    rw [Nat.mul_comm (10000 ^ r.length) 10000, Nat.mul_assoc]
    omega
theorem zval_snoc (l : List Nat) (x : Nat) : zval (l ++ [x]) = zval l + 10000 ^ l.length * x := by rw [zval_append]; simp [zval]

/-- All are digits. -/
def ZD (l : List Nat) : Prop := ∀ x ∈ l, x < 10000
theorem ZD.nil : ZD [] := fun _ h => by simp at h
theorem ZD.snoc {l : List Nat} {x : Nat} (h : ZD l) (hx : x < 10000) : ZD (l ++ [x]) := fun y hy => by
  simp only [List.mem_append, List.mem_singleton] at hy
  rcases hy with hy | rfl
  · exact h y hy
  · exact hx
theorem ZD.take {l : List Nat} (h : ZD l) (n : Nat) : ZD (l.take n) := fun x hx => h x (List.mem_of_mem_take hx)
theorem ZD.get {l : List Nat} (h : ZD l) (t : Nat) : l.getD t 0 < 10000 := by
  rw [List.getD_eq_getElem?_getD]
  by_cases ht : t < l.length
  · rw [List.getElem?_eq_getElem ht]; exact h _ (List.getElem_mem ht)
  · rw [List.getElem?_eq_none (by omega)]; decide
theorem zval_lt {l : List Nat} (h : ZD l) : zval l < 10000 ^ l.length := by
  induction l with
  | nil => simp [zval]
  | cons x r ih =>
    have h1 := h x (List.mem_cons_self ..)
    have h2 := ih (fun y hy => h y (List.mem_cons_of_mem _ hy))
    rw [zval, List.length_cons, Nat.pow_succ]
    omega

/-- The last digit is not nought. -/
def ZN (l : List Nat) : Prop := l = [] ∨ l.getD (l.length - 1) 0 ≠ 0

theorem take_zsucc (l : List Nat) (k : Nat) (h : k < l.length) : l.take (k + 1) = l.take k ++ [l.getD k 0] := by
  rw [List.take_add_one, List.getD_eq_getElem?_getD, List.getElem?_eq_getElem h]
  rfl

/-- All blocks that will be made are of the class. -/
def LimQ (Qc : Nat → Prop) (w : World) : Prop := ∀ b, w.heap.size ≤ b → Qc b
theorem LimQ.grow {w w' : World} (h : LimQ Qc w) (k : w.heap.size ≤ w'.heap.size) : LimQ Qc w' := fun b hb => h b (Nat.le_trans k hb)
/-- The digits of a number that is not nought lie in a block of the class. -/
def ClQ (Qc : Nat → Prop) (w : World) (ao : Option Addr) (z : Int) : Prop := z = 0 ∨ (LimQ Qc w ∧ ∀ a, ao = some a → Qc a.block)
theorem ClQ.grow {w w' : World} {ao : Option Addr} {z : Int} (h : ClQ Qc w ao z) (k : w.heap.size ≤ w'.heap.size) : ClQ Qc w' ao z := h.imp id fun h => ⟨h.1.grow k, h.2⟩
theorem ClQ.neg {w : World} {ao : Option Addr} {z : Int} (h : ClQ Qc w ao z) : ClQ Qc w ao (-z) := h.imp (fun h => by rw [h]; rfl) id
theorem ClQ.lim {w : World} {ao : Option Addr} {z : Int} (h : ClQ Qc w ao z) (hz : z ≠ 0) : LimQ Qc w := (h.resolve_left hz).1
theorem ClQ.made {w w' : World} {ao : Option Addr} {z : Int} (h : LimQ Qc w) (k : w.heap.size ≤ w'.heap.size) (hf : ∀ x, ao = some x → w.heap.size ≤ x.block) : ClQ Qc w' ao z := Or.inr ⟨h.grow k, fun x hx => h _ (hf x hx)⟩

/-- The two cells of a number of the reference hold z. -/
def IsZ (Qc : Nat → Prop) (w : World) (neg : Bool) (ao : Option Addr) (n c : Nat) (z : Int) : Prop :=
  ∃ l : List Nat, l.length = n ∧ n ≤ c ∧ c ≤ maxLen ∧ ISeg w ao l ∧ ZD l ∧ ZN l ∧ z = (if neg then -(zval l : Int) else (zval l : Int)) ∧ (l = [] → neg = false) ∧ ClQ Qc w ao z

theorem IsZ.ext {w w' : World} {neg : Bool} {ao : Option Addr} {n c : Nat} {z : Int} (h : IsZ Qc w neg ao n c z) (k : Ext w w') : IsZ Qc w' neg ao n c z := by
  obtain ⟨l, h1, h2, h3, h4, h5, h6, h7, h8, h9⟩ := h
  exact ⟨l, h1, h2, h3, h4.ext k, h5, h6, h7, h8, h9.grow k.size⟩
theorem IsZ.zero (w : World) : IsZ Qc w false none 0 0 0 := ⟨[], rfl, Nat.le_refl _, Nat.zero_le _, Or.inl ⟨rfl, rfl⟩, ZD.nil, Or.inl rfl, rfl, fun _ => rfl, Or.inl rfl⟩
theorem IsZ.cast {w : World} {neg : Bool} {ao : Option Addr} {n c : Nat} {z z' : Int} (h : IsZ Qc w neg ao n c z) (e : z = z') : IsZ Qc w neg ao n c z' := e ▸ h

/-- A number stays what it is while cells that hold no int are written. -/
theorem ISeg.keepRes {w : World} {g : Nat} {ao : Option Addr} {l : List Nat} {x : Bool} {p : Option Addr} {q r : Nat} {T : TypeId} (h : ISeg w ao l) (hg : w.heap[g]? = some (.cells #[.bool x, .slice p q r] T (0, 0))) (u v : Value) :
    ISeg ((w.setCell ⟨g, 0, none⟩ u).setCell ⟨g, 1, none⟩ v) ao l := by
  rcases h with h | ⟨b, o, rfl, hb, hc⟩
  · exact Or.inl h
  · have hO : Only g w ((w.setCell ⟨g, 0, none⟩ u).setCell ⟨g, 1, none⟩ v) := ((Only.refl _ _).setCell _ _).setCell _ _
    have hbk : IBlk ((w.setCell ⟨g, 0, none⟩ u).setCell ⟨g, 1, none⟩ v) b := by
      by_cases hbg : b = g
      · subst hbg
        obtain ⟨cur, fr, hcur⟩ := hb
        rw [hg] at hcur
        cases hcur
        have q1 := heap_setCell_same w b 0 _ _ u hg
        have q2 := heap_setCell_same (w.setCell ⟨b, 0, none⟩ u) b 1 _ _ v q1
        exact ⟨_, _, q2⟩
      · exact hb.block (hO.block b hbg)
    refine Or.inr ⟨b, o, rfl, hbk, fun t ht => ?_⟩
    have h1 := hc t ht
    by_cases hbg : b = g
    · subst hbg
      rw [cell_of_row w b (o + t) _ T (0, 0) hg] at h1
      match o + t, h1 with
      | 0, h1 => simp at h1
      | 1, h1 => simp at h1
      | k + 2, h1 => simp at h1
    · exact (World.cell?_of_block (a := ⟨b, o + t, none⟩) (hO.block b hbg)).trans h1
theorem IsZ.keepRes {w : World} {g : Nat} {neg : Bool} {ao : Option Addr} {n c : Nat} {z : Int} {x : Bool} {p : Option Addr} {q r : Nat} {T : TypeId} (h : IsZ Qc w neg ao n c z) (hg : w.heap[g]? = some (.cells #[.bool x, .slice p q r] T (0, 0))) (u v : Value) :
    IsZ Qc ((w.setCell ⟨g, 0, none⟩ u).setCell ⟨g, 1, none⟩ v) neg ao n c z := by
  obtain ⟨l, h1, h2, h3, h4, h5, h6, h7, h8, h9⟩ := h
  exact ⟨l, h1, h2, h3, h4.keepRes hg u v, h5, h6, h7, h8, h9.grow (Nat.le_of_eq (((Only.refl g w).setCell 0 u).setCell 1 v).size.symm)⟩

/-- The cells of a number of the reference that is answered. -/
structure ZRes (W : World) (g : Nat) : Prop where
  row : W.heap[g]? = some (.cells #[.bool false, .slice none 0 0] 56 (0, 0))
theorem ZRes.lt {W : World} {g : Nat} (h : ZRes W g) : g < W.heap.size := (Array.getElem?_eq_some_iff.1 h.row).1
theorem ZRes.ext {W W' : World} {g : Nat} (h : ZRes W g) (k : Ext W W') : ZRes W' g := ⟨(k.block _ h.lt).trans h.row⟩
theorem ZRes.c0 {W : World} {g : Nat} (h : ZRes W g) : W.cell? ⟨g, 0, none⟩ = some (.bool false) := by rw [cell_of_row W g 0 _ _ (0, 0) h.row]; rfl
theorem ZRes.c1 {W : World} {g : Nat} (h : ZRes W g) : W.cell? ⟨g, 1, none⟩ = some (.slice none 0 0) := by rw [cell_of_row W g 1 _ _ (0, 0) h.row]; rfl
theorem ZRes.f {W : World} {g : Nat} (h : ZRes W g) (o : Nat) : W.frozen? ⟨g, o, none⟩ = false := frozen_of_row W g o _ _ h.row
theorem zres_new (w : World) : ZRes (w.alloc (.cells #[.bool false, .slice none 0 0] 56)) w.heap.size := ⟨heap_alloc_new w _⟩

theorem zval_take_zeros (l : List Nat) (k : Nat) (hk : k ≤ l.length) (h : ∀ t, k ≤ t → t < l.length → l.getD t 0 = 0) : zval (l.take k) = zval l := by
  induction l generalizing k with
  | nil => simp
  | cons x r ih =>
    cases k with
    | zero =>
      have hx : x = 0 := by have := h 0 (Nat.le_refl _) (by simp); simpa using this
      have := ih 0 (by simp) (fun t _ ht => by have := h (t + 1) (by omega) (by simpa using ht); simpa using this)
      simp only [List.take_zero] at this ⊢
      show 0 = x + 10000 * zval r
      rw [hx, ← this]
      rfl
    | succ k =>
      have := ih k (by simpa using hk) (fun t h1 ht => by have := h (t + 1) (by omega) (by simpa using ht); simpa using this)
      rw [List.take_succ_cons, zval, zval, this]

theorem ext_alloc (w : World) (o : Obj) : Ext w (w.alloc o) := (Below.refl _ _).alloc (Nat.le_refl _) o

/-- A call has answered a number of the reference. -/
def ZRet (Qc : Nat → Prop) (w : World) (z : Int) (n : Nat) (e : Ending) (w' : World) : Prop := ∃ (b' : Bool) (a' : Option Addr) (n' c' : Nat), e = .returned (.agg #[.bool b', .slice a' n' c']) ∧ IsZ Qc w' b' a' n' c' z ∧ n' ≤ n ∧ Ext w w'

/-- The same, and where its digits lie. -/
def ZRetB (Qc : Nat → Prop) (w : World) (z : Int) (n : Nat) (P : Option Addr → Prop) (e : Ending) (w' : World) : Prop := ∃ (b' : Bool) (a' : Option Addr) (n' c' : Nat), e = .returned (.agg #[.bool b', .slice a' n' c']) ∧ IsZ Qc w' b' a' n' c' z ∧ n' ≤ n ∧ Ext w w' ∧ P a'
theorem ZRetB.ret {w : World} {z : Int} {n : Nat} {P : Option Addr → Prop} {e : Ending} {w' : World} (h : ZRetB Qc w z n P e w') : ZRet Qc w z n e w' := by
  obtain ⟨b', a', n', c', h1, h2, h3, h4, _⟩ := h
  exact ⟨b', a', n', c', h1, h2, h3, h4⟩

set_option maxHeartbeats 1000000 in
set_option maxRecDepth 100000 in
theorem zmade_blk (neg : Bool) (ao : Option Addr) (l : List Nat) (n c : Nat) (w : World) (hl : l.length = n) (hs : ISeg w ao l) (hd : ZD l) (hc : n ≤ c) (hcm : c ≤ maxLen) (hn : n ≤ 1000000) (z : Int) (hz : z = if neg then -(zval l : Int) else (zval l : Int)) (hcl : ClQ Qc w ao z) :
    Calls Tryd.prog 75 #[.bool neg, .slice ao n c] w (ZRetB Qc w z n (fun a' => a' = none ∨ a' = ao)) := by
  have Hz := Lib.hid hz; have HCl := Lib.hid hcl
  clear hz hcl
  have Hl := Lib.hid hl; have Hs := Lib.hid hs; have Hd := Lib.hid hd
  have hE := ext_alloc w (.cells #[.bool false, .slice none 0 0] 56)
  have hR := zres_new w
  have hab : n = 0 ∨ ∃ b o, ao = some ⟨b, o, none⟩ := by
    by_cases h0 : n = 0
    · exact Or.inl h0
    · exact Or.inr (hs.some_of (by omega))
  unfold maxLen at hcm
  clear hl hs hd
  go_enter Tryd.func75, Tryd.ntmps75
  go_wp2_with fail
  generalize w.alloc (.cells #[.bool false, .slice none 0 0] 56) = W0 at *
  have Hs0 := Lib.hid (Hs.out.ext hE)
  go_loop [5] (fun i => ∃ k : Nat, k ≤ n ∧ i = .int .i64 k ∧ ∀ t, k ≤ t → t < n → l.getD t 0 = 0) (fun i => (intOf i).toNat)
  case atStart => exact ⟨n, Nat.le_refl _, rfl, fun t h1 h2 => by omega⟩
  case round =>
    obtain ⟨k, hk, rfl, hall⟩ := hrel
    have Hall := Lib.hid hall
    clear hall
    have Hv : Hid (zval (l.take k) = zval l) := zval_take_zeros l k (by rw [Hl.out]; exact hk) (by rw [Hl.out]; exact Hall.out)
    have fin : ∀ (hz : k = 0 ∨ l.getD (k - 1) 0 ≠ 0), ZN (l.take k) := by
      intro hz
      by_cases h0 : k = 0
      · subst h0; exact Or.inl (by simp)
      · right
        have hlen : (l.take k).length = k := by rw [List.length_take, Hl.out]; omega
        rw [hlen, List.getD_eq_getElem?_getD, List.getElem?_take, if_pos (by omega), ← List.getD_eq_getElem?_getD]
        exact hz.resolve_left h0
    have Fin := Lib.hid fin
    clear fin
    by_cases hk0 : k = 0
    · subst hk0
      have hv0 : zval l = 0 := by rw [← Hv.out]; rfl
      have Hv0 := Lib.hid hv0
      have k0 := hR.c0; have k1 := hR.c1; have f0 := hR.f 0; have f1 := hR.f 1
      clear hv0
      go_wp2_with fail
      exact bodyPost_ret (v := .agg #[.bool false, .slice none 0 0]) (by simp [results, Tryd.results75, go_sem, k0, k1]) rfl ⟨false, none, 0, 0, rfl, (IsZ.zero _).cast (by rw [Hz.out, Hv0.out]; split <;> rfl), Nat.zero_le _, (Below.setCell hE (p := ⟨w.heap.size, 0, none⟩) (Nat.le_refl _) _).setCell (p := ⟨w.heap.size, 1, none⟩) (Nat.le_refl _) _, Or.inl rfl⟩
    · have ik : (0 : Int) < (k : Int) := by omega
      have ik1 : (k : Int) - 1 = ((k - 1 : Nat) : Int) := by omega
      obtain ⟨j, rfl⟩ : ∃ j, k = j + 1 := ⟨k - 1, by omega⟩
      rcases hab with h0 | ⟨b, o, rfl⟩
      · omega
      have hcl := Hs0.out.at j (by rw [Hl.out]; omega)
      obtain ⟨x, hx⟩ : ∃ x, l.getD j 0 = x := ⟨_, rfl⟩
      rw [hx] at hcl
      have Hx := Lib.hid hx
      have ij : (j : Int) < (n : Int) := by omega
      have ij2 : (j : Int) + 1 ≤ (c : Int) := by omega
      clear hx ik1 hk0
      by_cases hx0 : x = 0
      · subst hx0
        go_wp2_with fail
        go_round
        case rel => exact ⟨j, by omega, by go_num, fun t h1 h2 => by
          by_cases e : t = j
          · rw [e]; exact Hx.out
          · exact Hall.out t (by omega) h2⟩
        case measure => simp [intOf]
      · have hxb : ((x : Int) == 0) = false := by rw [beq_eq_false_iff_ne]; omega
        have hjb : ((j : Int) + 1 == 0) = false := by rw [beq_eq_false_iff_ne]; omega
        have Hzn := Lib.hid (Fin.out (Or.inr (by rw [Nat.add_sub_cancel, Hx.out]; exact hx0)))
        have k0 := hR.c0; have k1 := hR.c1; have f0 := hR.f 0; have f1 := hR.f 1
        clear hx0
        go_wp2_with fail
        exact bodyPost_ret (v := .agg #[.bool neg, .slice (some ⟨b, o, none⟩) (j + 1) c]) (by simp [results, Tryd.results75, go_sem, k0, k1]) rfl ⟨neg, some ⟨b, o, none⟩, j + 1, c, rfl, IsZ.keepRes ⟨l.take (j + 1), by rw [List.length_take, Hl.out]; omega, by omega, by unfold maxLen; omega, Hs0.out.take _, Hd.out.take _, Hzn.out, by rw [Hz.out, Hv.out], fun h => by
          have := congrArg List.length h
          rw [List.length_take, Hl.out] at this
          simp at this
          omega, HCl.out.grow hE.size⟩ hR.row _ _, by omega, (Below.setCell hE (p := ⟨w.heap.size, 0, none⟩) (Nat.le_refl _) _).setCell (p := ⟨w.heap.size, 1, none⟩) (Nat.le_refl _) _, Or.inr rfl⟩

theorem zmade_any (neg : Bool) (ao : Option Addr) (l : List Nat) (n c : Nat) (w : World) (hl : l.length = n) (hs : ISeg w ao l) (hd : ZD l) (hc : n ≤ c) (hcm : c ≤ maxLen) (hn : n ≤ 1000000) (z : Int) (hz : z = if neg then -(zval l : Int) else (zval l : Int)) (hcl : ClQ Qc w ao z) :
    Calls Tryd.prog 75 #[.bool neg, .slice ao n c] w (ZRet Qc w z n) :=
  (zmade_blk neg ao l n c w hl hs hd hc hcm hn z hz hcl).mono fun _ _ h => h.ret

end Go.Proofs.YtlmfhopifggeaaaDoor
namespace Go.Proofs.YtlmfhopifggeaaaDoor
variable {Qc : Nat → Prop}
open Go.RowKit

theorem zext_drewN {w w' : World} (h : Ext w w') (n : Nat) : Ext w (w'.drewN n) := by
  induction n with
  | zero => exact h
  | succ n ih => exact Below.drew ih

/-- How two numbers stand to each other. -/
def zc (x y : Nat) : Int := if x < y then -1 else if y < x then 1 else 0

/-- Digits whose upper part is the same. -/
theorem zval_split (l : List Nat) (k : Nat) (h : k < l.length) : zval l = zval (l.take k) + 10000 ^ k * (l.getD k 0 + 10000 * zval (l.drop (k + 1))) := by
  have e : l = l.take k ++ (l.getD k 0 :: l.drop (k + 1)) := by
    rw [List.getD_eq_getElem?_getD, List.getElem?_eq_getElem h]
    simp
  have hl : (l.take k).length = k := by rw [List.length_take]; omega
  conv => lhs; rw [e]
  rw [zval_append, hl, zval]

theorem zval_lt_of {a b : List Nat} {k : Nat} (ha : k < a.length) (hb : k < b.length) (hd : ZD a) (h : a.drop (k + 1) = b.drop (k + 1)) (hx : a.getD k 0 < b.getD k 0) : zval a < zval b := by
  rw [zval_split a k ha, zval_split b k hb, h]
  have h1 := zval_lt (hd.take k)
  have hl : (a.take k).length = k := by rw [List.length_take]; omega
  rw [hl] at h1
  generalize 10000 * zval (b.drop (k + 1)) = u
  have h2 : 10000 ^ k * (a.getD k 0 + u + 1) ≤ 10000 ^ k * (b.getD k 0 + u) := Nat.mul_le_mul_left _ (by omega)
  rw [Nat.mul_add, Nat.mul_one] at h2
  omega

theorem zval_ge {l : List Nat} (h : ZN l) (hl : l ≠ []) : 10000 ^ (l.length - 1) ≤ zval l := by
  have hpos : 0 < l.length := by cases l with | nil => exact absurd rfl hl | cons x r => simp
  have hx := h.resolve_left hl
  rw [zval_split l (l.length - 1) (by omega)]
  have h1 : 1 ≤ l.getD (l.length - 1) 0 + 10000 * zval (l.drop (l.length - 1 + 1)) := by omega
  have h2 := Nat.mul_le_mul_left (10000 ^ (l.length - 1)) h1
  rw [Nat.mul_one] at h2
  omega

theorem zval_lt_len {a b : List Nat} (hd : ZD a) (hn : ZN b) (h : a.length < b.length) : zval a < zval b := by
  have h1 := zval_lt hd
  have hb : b ≠ [] := by intro e; subst e; simp at h
  have h2 := zval_ge hn hb
  have h3 : 10000 ^ a.length ≤ 10000 ^ (b.length - 1) := Nat.pow_le_pow_right (by decide) (by omega)
  omega

theorem zval_zero {l : List Nat} (hn : ZN l) : zval l = 0 ↔ l = [] := by
  constructor
  · intro h
    apply Decidable.byContradiction
    intro hl
    have h2 := zval_ge hn hl
    have h3 : 0 < 10000 ^ (l.length - 1) := Nat.pow_pos (by decide)
    omega
  · rintro rfl; rfl

set_option maxHeartbeats 1000000 in
set_option maxRecDepth 100000 in
theorem dcmp_any (a1 a2 : Option Addr) (la lb : List Nat) (n m c1 c2 : Nat) (w : World) (h1 : la.length = n) (h2 : lb.length = m) (s1 : ISeg w a1 la) (s2 : ISeg w a2 lb) (d1 : ZD la) (d2 : ZD lb) (e1 : ZN la) (e2 : ZN lb) (_hc1 : n ≤ c1) (_hc2 : m ≤ c2) (hn : n ≤ 1000000) (hm : m ≤ 1000000) :
    Calls Tryd.prog 87 #[.slice a1 n c1, .slice a2 m c2] w fun e w' => e = .returned (.int .i64 (zc (zval la) (zval lb))) ∧ Ext w w' := by
  obtain ⟨z, hz⟩ : ∃ z, zc (zval la) (zval lb) = z := ⟨_, rfl⟩
  rw [hz]
  have Hz := Lib.hid hz
  clear hz
  by_cases hnm : n = m
  · subst hnm
    have H1 := Lib.hid h1; have H2 := Lib.hid h2; have S1 := Lib.hid s1; have S2 := Lib.hid s2; have D1 := Lib.hid d1; have D2 := Lib.hid d2
    clear h1 h2 d1 d2 e1 e2
    have hab : n = 0 ∨ ∃ b o b' o', a1 = some ⟨b, o, none⟩ ∧ a2 = some ⟨b', o', none⟩ := by
      by_cases h0 : n = 0
      · exact Or.inl h0
      · obtain ⟨b, o, h⟩ := s1.some_of (by rw [H1.out]; omega)
        obtain ⟨b', o', h'⟩ := s2.some_of (by rw [H2.out]; omega)
        exact Or.inr ⟨b, o, b', o', h, h'⟩
    clear s1 s2
    go_enter Tryd.func87, Tryd.ntmps87
    go_wp2_with fail
    go_loopw [5] (fun i wr => ∃ k : Nat, k ≤ n ∧ i = .int .i64 ((k : Int) - 1) ∧ la.drop k = lb.drop k ∧ Ext w wr) (fun i _ => (intOf i + 1).toNat)
    case atStart => exact ⟨n, Nat.le_refl _, by go_num, by rw [List.drop_of_length_le (by rw [H1.out]; exact Nat.le_refl _), List.drop_of_length_le (by rw [H2.out]; exact Nat.le_refl _)], Ext.refl _⟩
    case round =>
      obtain ⟨k, hk, rfl, hsame, hEr⟩ := hrel
      have Hsame := Lib.hid hsame
      clear hsame
      by_cases hk0 : k = 0
      · subst hk0
        have hz0 : z = 0 := by
          rw [← Hz.out]
          have : la = lb := by simpa using Hsame.out
          rw [this]; unfold zc; simp
        subst hz0
        go_wp2_with fail
        go_ret
        exact ⟨rfl, hEr⟩
      · obtain ⟨j, rfl⟩ : ∃ j, k = j + 1 := ⟨k - 1, by omega⟩
        rcases hab with h0 | ⟨b, o, b', o', rfl, rfl⟩
        · omega
        have hx := (S1.out.ext hEr).at j (by rw [H1.out]; omega); have hy := (S2.out.ext hEr).at j (by rw [H2.out]; omega)
        obtain ⟨x, ex⟩ : ∃ x, la.getD j 0 = x := ⟨_, rfl⟩
        obtain ⟨y, ey⟩ : ∃ y, lb.getD j 0 = y := ⟨_, rfl⟩
        rw [ex] at hx; rw [ey] at hy
        have Ex := Lib.hid ex; have Ey := Lib.hid ey
        have ij : (j : Int) < (n : Int) := by omega
        have ij0 : (0 : Int) ≤ (j : Int) := by omega
        have ej : ((j : Int) + 1 - 1) = (j : Int) := by omega
        have ec : (((j + 1 : Nat) : Int) - 1) = (j : Int) := by omega
        rw [ec]
        clear ex ey hk0 ec
        rcases Nat.lt_trichotomy x y with hlt | heq | hgt
        · have ixy : (x : Int) < (y : Int) := by omega
          have hz1 : z = -1 := by
            rw [← Hz.out]; unfold zc
            rw [if_pos (zval_lt_of (k := j) (by rw [H1.out]; omega) (by rw [H2.out]; omega) D1.out Hsame.out (by rw [Ex.out, Ey.out]; exact hlt))]
          subst hz1
          clear hlt
          go_wp2_with fail
          go_quiet (fail)
          go_wp2_with fail
          go_ret
          exact ⟨rfl, zext_drewN hEr _⟩
        · subst heq
          have ixy : ¬ (x : Int) < (x : Int) := by omega
          have hnext : la.drop j = lb.drop j := by
            have f1 : la.drop j = la.getD j 0 :: la.drop (j + 1) := by
              rw [List.getD_eq_getElem?_getD, List.getElem?_eq_getElem (by rw [H1.out]; omega), List.drop_eq_getElem_cons (by rw [H1.out]; omega)]; rfl
            have f2 : lb.drop j = lb.getD j 0 :: lb.drop (j + 1) := by
              rw [List.getD_eq_getElem?_getD, List.getElem?_eq_getElem (by rw [H2.out]; omega), List.drop_eq_getElem_cons (by rw [H2.out]; omega)]; rfl
            rw [f1, f2, Ex.out, Ey.out, Hsame.out]
          have Hnext := Lib.hid hnext
          clear hnext
          go_wp2_with fail
          go_quiet (fail)
          go_wp2_with fail
          go_quiet (fail)
          go_wp2_with fail
          go_roundw
          case rel => exact ⟨j, by omega, by go_num, Hnext.out, zext_drewN hEr _⟩
          case measure => simp [intOf]
        · have ixy : ¬ (x : Int) < (y : Int) := by omega
          have iyx : (y : Int) < (x : Int) := by omega
          have hz1 : z = 1 := by
            rw [← Hz.out]; unfold zc
            have := zval_lt_of (k := j) (by rw [H2.out]; omega) (by rw [H1.out]; omega) D2.out Hsame.out.symm (by rw [Ex.out, Ey.out]; exact hgt)
            rw [if_neg (by omega), if_pos this]
          subst hz1
          clear hgt
          go_wp2_with fail
          go_quiet (fail)
          go_wp2_with fail
          go_quiet (fail)
          go_wp2_with fail
          go_ret
          exact ⟨rfl, zext_drewN (zext_drewN hEr _) _⟩
  · by_cases hlt : n < m
    · have hz1 : z = -1 := by
        rw [← Hz.out]; unfold zc
        rw [if_pos (zval_lt_len d1 e2 (by omega))]
      subst hz1
      have ib : ((n : Int) != (m : Int)) = true := by rw [bne_iff_ne]; omega
      have il : (n : Int) < (m : Int) := by omega
      clear h1 h2 s1 s2 d1 d2 e1 e2 hnm hlt
      go_enter Tryd.func87, Tryd.ntmps87
      go_wp2_with fail
      go_ret
      exact ⟨rfl, Ext.refl _⟩
    · have hz1 : z = 1 := by
        rw [← Hz.out]; unfold zc
        have := zval_lt_len d2 e1 (a := lb) (b := la) (by omega)
        rw [if_neg (by omega), if_pos this]
      subst hz1
      have ib : ((n : Int) != (m : Int)) = true := by rw [bne_iff_ne]; omega
      have il : ¬ (n : Int) < (m : Int) := by omega
      clear h1 h2 s1 s2 d1 d2 e1 e2 hnm hlt
      go_enter Tryd.func87, Tryd.ntmps87
      go_wp2_with fail
      go_ret
      exact ⟨rfl, Ext.refl _⟩

end Go.Proofs.YtlmfhopifggeaaaDoor
