/-
  The law's own: is a state a basis state (only); are two rows of texts alike (SameTexts), two shots (SameShot). The example of a circuit, and its text. The law's own: an example of the document (stateBegun). A copy of a circuit. The reference reads a line loosely. The reader: a circuit, read. Operations turned round in place. slices.Reverse of operations. A circuit that has a fault is not answered; what the deferred closure makes of a reader that gave up. The program's Inverse. The program's Inverse: the walk. Inverse and Power of a circuit that is not pure. The program's Power of a pure circuit: rows that hold copies of operations whose lists lie elsewhere. Circuits undone, in plain lists: twice undone is itself; what is pure stays so.
-/
import Derived.Test.YtfjnlopbmkimiaaGreatDoorProg
import Derived.Test.YtfjnlopbmkimiaaGreatDoorRows
import Derived.BigQuiet
import Derived.Deep.AppendLies
import Derived.Deep.Cut
import Derived.Deep.CutRange
import Derived.Deep.LoopGhost
import Derived.Deep.MidRow
import Derived.Deep.QuietTactic
import Derived.Deep.RegionHeld3
import Derived.Defers
import Derived.Ground.Names2Prog
import Derived.Laws.Bits64b
import Derived.Laws.Concat
import Derived.Laws.CopyOwn
import Derived.Laws.IdiomCopy
import Derived.Laws.IdiomStrings
import Derived.Laws.ResultCell
import Derived.Laws.Rows
import Derived.Lib.AppendIntMem
import Derived.Lib.AppendStr
import Derived.Lib.BitFns
import Derived.Lib.Hide
import Derived.Lib.ItoaMem
import Derived.Lib.ItoaNum
import Derived.Lib.Strings
import Derived.Lib.TrailingZeros
import Derived.LoopIn
import Derived.LoopNIn
import Derived.Maps.AppendAt
import Derived.OrdersHeld
import Derived.OrdersIn
import Derived.OwnWalk
import Derived.OwnWalkIn
import Derived.ProofKit
import Derived.RangeFuncBound
import Derived.RangeFuncCalls
import Derived.RangeFuncFrom
import Derived.RangeFuncLeaves
import Derived.Recover
import Derived.RegionTactic
import Derived.Shelf.Abstract
import Derived.Shelf.Bits.Mul64
import Derived.Shelf.LaysM
import Derived.Shelf.Slices.SearchI
import Derived.Shelf.Small.Bits
import Derived.Shelf.Small.Wraps
import Derived.Shelf.Spec.BitsCarry
import Derived.Shelf.Spec.TrailingZeros
import Derived.Shelf.Strconv.Itoa0
import Derived.Shelf.Strconv.Itoa1
import Derived.Shelf.Strconv.Itoa2
import Derived.Shelf.Strconv.Itoa3
import Derived.Shelf.Strings.Builder1
import Derived.Shelf.Strings.BuilderF
import Derived.Shelf.Strings.BuilderK
import Derived.TacticsInMore
import Derived.WalkKit
import Derived.WalkLawsBesides
import Derived.WalkSpells
import Derived.Test.YtfjnlopbmkimiaaGreatDoorS00Mem
import Derived.Test.YtfjnlopbmkimiaaGreatDoorShelf
import Derived.Test.YtfjnlopbmkimiaaGreatDoorS02ShiftI
import Derived.Test.YtfjnlopbmkimiaaGreatDoorS03GuessD
import Derived.Test.YtfjnlopbmkimiaaGreatDoorS04IntB
import Derived.Test.YtfjnlopbmkimiaaGreatDoorS05IntD
import Derived.Test.YtfjnlopbmkimiaaGreatDoorS06GcB
import Derived.Test.YtfjnlopbmkimiaaGreatDoorS07Rg
import Derived.Test.YtfjnlopbmkimiaaGreatDoorS08ZC
import Derived.Test.YtfjnlopbmkimiaaGreatDoorS09Bw
import Derived.Test.YtfjnlopbmkimiaaGreatDoorS10TxT
import Derived.Test.YtfjnlopbmkimiaaGreatDoorS11Xo
import Derived.Test.YtfjnlopbmkimiaaGreatDoorS12Xm
import Derived.Test.YtfjnlopbmkimiaaGreatDoorS13Yg
import Derived.Test.YtfjnlopbmkimiaaGreatDoorS14Rz
import Derived.Test.YtfjnlopbmkimiaaGreatDoorS15Yn
import Derived.Test.YtfjnlopbmkimiaaGreatDoorS16Xt
import Derived.Test.YtfjnlopbmkimiaaGreatDoorS17Dd
namespace Go.Proofs.YtfjnlopbmkimiaaGreatDoor
open Go.RowKit

/-- Texts: block g. -/
def TxR (w : World) (g n : Nat) (s : Nat → Nm) : Prop := w.heap[g]? = some (.cells (txC s n n) 9 (0, 0))
theorem TxR.ext {w w' : World} {g n : Nat} {s : Nat → Nm} (h : TxR w g n s) (k : Ext w w') : TxR w' g n s := (k.block _ (Array.getElem?_eq_some_iff.1 h).1).trans h
theorem TxR.get {w : World} {g n : Nat} {s : Nat → Nm} (h : TxR w g n s) {x : Nat} (hx : x < n) : w.cell? ⟨g, x, none⟩ = some (txA (s x)) := by
  rw [cell_of_row w g x _ _ (0, 0) h, txC_get s hx, if_pos hx]
def txL (s : Nat → Nm) (n : Nat) : List (List UInt8) := (List.range n).map fun x => rtx (nmF (s x))
theorem txL_get (s : Nat → Nm) {n x : Nat} (hx : x < n) : (txL s n).getD x [] = rtx (nmF (s x)) := by
  unfold txL
  rw [List.getD_eq_getElem?_getD, List.getElem?_map, List.getElem?_range hx]
  rfl
theorem txL_congr {s t : Nat → Nm} {n : Nat} (h : ∀ x, x < n → s x = t x) : txL s n = txL t n := by
  unfold txL
  exact List.map_congr_left fun x hx => by rw [h x (List.mem_range.1 hx)]
theorem TxR.strs {w : World} {g n : Nat} {s : Nat → Nm} (h : TxR w g n s) : StrsAt w (some ⟨g, 0, none⟩) n (txL s n) := by
  refine ⟨by unfold txL; simp, ?_⟩
  by_cases e : n = 0
  · exact Or.inl e
  · refine Or.inr ⟨g, 0, rfl, (Array.getElem?_eq_some_iff.1 h).1, fun t ht => ?_⟩
    rw [Nat.zero_add, h.get ht, txL_get s ht]
    rfl
theorem tx_one : rtx (nmF nOne) = [49] := by
  have h0 : nmF nOne 0 = 1 := by decide
  have h8 : nmF nOne 8 = 0 := by decide
  have hL : lenN (nmF nOne) 8 = 1 := by decide
  unfold rtx
  rw [hL]
  simp only [jnT]
  rw [h0, h8, itoa_1]
  rfl
theorem tx_zero : rtx (nmF nZ) = [48] := by
  have h0 : nmF nZ 0 = 0 := by decide
  have h8 : nmF nZ 8 = 0 := by decide
  have hL : lenN (nmF nZ) 8 = 1 := by decide
  unfold rtx
  rw [hL]
  simp only [jnT]
  rw [h0, h8, itoa_0]
  rfl

set_option maxRecDepth 100000 in
set_option maxHeartbeats 2000000 in
theorem sameTexts_any (l : List (List UInt8)) (a1 : Option Addr) (n c1 : Nat) (a2 : Option Addr) (c2 : Nat) (w : World) (h1 : StrsAt w a1 n l) (h2 : StrsAt w a2 n l) (hn : n ≤ 4096) :
    Calls Tryz.prog 21 #[.slice a1 n c1, .slice a2 n c2] w fun e w' => e = .returned (.bool true) ∧ Ext w w' := by
  have H1 := Lib.hid h1; have H2 := Lib.hid h2; have Hn := Lib.hid hn
  clear h1 h2 hn
  go_enter Tryz.func21, Tryz.ntmps21
  go_wp2_with fail
  go_loopg [5] n (fun kk s5 wx => ∃ i : Nat, s5 = .int .i64 (i : Int) ∧ i ≤ n ∧ n - i = kk ∧ Ext w wx)
  case atStart => exact ⟨0, rfl, by omega, by omega, Ext.refl w⟩
  case round =>
    obtain ⟨i, rfl, hi1, hk, hE⟩ := hrel
    have HE := Lib.hid hE
    by_cases hin : i = n
    · have h2 : ¬ (i : Int) < (n : Int) := by omega
      clear hE
      go_wp2_with fail
      go_ret
      exact ⟨rfl, HE.out⟩
    · have h2 : (i : Int) < (n : Int) := by omega
      have h0 : (0 : Int) ≤ (i : Int) := by omega
      have wk : IntKind.i64.wrap ((i : Int) + 1) = ((i + 1 : Nat) : Int) := by rw [IntKind.wrap_i64]; have := Hn.out; omega
      obtain ⟨b1, o1, rfl, hb1, hc1'⟩ := (H1.out.ext hE).2.resolve_left (by omega)
      obtain ⟨b2, o2, rfl, hb2, hc2'⟩ := (H2.out.ext hE).2.resolve_left (by omega)
      have e1 := hc1' i (by omega); have e2 := hc2' i (by omega)
      obtain ⟨x, hx⟩ : ∃ x, (⟨(l.getD i []).toArray⟩ : ByteArray) = x := ⟨_, rfl⟩
      rw [hx] at e1 e2
      have HEd := Lib.hid (cdrew hE)
      clear hE hc1' hc2' hx hb1 hb2
      go_wp2_with fail
      go_region
      go_wp2_with fail
      go_roundg (n - (i + 1))
      case measure => omega
      case rel => exact ⟨i + 1, rfl, by omega, rfl, HEd.out⟩

set_option maxRecDepth 100000 in
set_option maxHeartbeats 2000000 in
theorem only_any (s : Nat → Nm) (g n c : Nat) (x : Nat) (w : World) (h : TxR w g n s) (hn : n ≤ 4096) (hx : x < n) (hs : ∀ y, y < n → s y = bas x y) :
    Calls Tryz.prog 19 #[.slice (some ⟨g, 0, none⟩) n c, .int .i64 (x : Int)] w fun e w' => e = .returned (.bool true) ∧ w' = w := by
  have Hh := Lib.hid h; have Hn := Lib.hid hn; have Hs := Lib.hid hs
  have q2 : (x : Int) < (n : Int) := by omega
  clear h hn hs hx
  go_enter Tryz.func19, Tryz.ntmps19
  go_wp2_with fail
  go_loopg [5, 6, 9] n (fun kk _ _ s9 wx => ∃ i : Nat, s9 = .int .i64 (i : Int) ∧ i ≤ n ∧ n - i = kk ∧ wx = w)
  case atStart => exact ⟨0, rfl, by omega, by omega, rfl⟩
  case round =>
    obtain ⟨i, rfl, hi1, hk, rfl⟩ := hrel
    by_cases hin : i = n
    · have h2 : ¬ (i : Int) < (n : Int) := by omega
      clear hin hi1
      go_wp2_with fail
      go_ret
      exact ⟨rfl, rfl⟩
    · have h2 : (i : Int) < (n : Int) := by omega
      have h0 : (0 : Int) ≤ (i : Int) := by omega
      have wk : IntKind.i64.wrap ((i : Int) + 1) = ((i + 1 : Nat) : Int) := by rw [IntKind.wrap_i64]; have := Hn.out; omega
      have e1 := Hh.out.get (show i < n by omega)
      rw [Hs.out i (by omega)] at e1
      unfold bas at e1
      have Hk := Lib.hid hk; have Hlt := Lib.hid (show i < n by omega)
      by_cases hix : i = x
      · rw [if_pos hix, show txA nOne = .string ⟨#[49]⟩ by unfold txA; rw [tx_one]] at e1
        have bx : ((i : Int) == (x : Int)) = true := by simp [hix]
        have bx' : ((i : Int) != (x : Int)) = false := by simp [hix]
        clear hix hin hi1 hk
        go_wp2_with fail
        go_roundg (n - (i + 1))
        case measure => have := Hk.out; have := Hlt.out; omega
        case rel => exact ⟨i + 1, rfl, Hlt.out, rfl, rfl⟩
      · rw [if_neg hix, show txA nZ = .string ⟨#[48]⟩ by unfold txA; rw [tx_zero]] at e1
        have bx : ((i : Int) == (x : Int)) = false := by simp; omega
        have bx' : ((i : Int) != (x : Int)) = true := by simp; omega
        clear hix hin hi1 hk
        go_wp2_with fail
        go_roundg (n - (i + 1))
        case measure => have := Hk.out; have := Hlt.out; omega
        case rel => exact ⟨i + 1, rfl, Hlt.out, rfl, rfl⟩
end Go.Proofs.YtfjnlopbmkimiaaGreatDoor
namespace Go.Proofs.YtfjnlopbmkimiaaGreatDoor
open Go.RowKit

def smallC : Gci := ⟨2, 1, [⟨3, 0, [], 0, 0, []⟩, ⟨2, 0, [0], 1, 0, []⟩, ⟨5, 0, [], 1, 0, [-1]⟩]⟩
theorem smallC_chk : chk smallC = (0, 0) := by decide
set_option maxHeartbeats 2000000 in
set_option maxRecDepth 100000 in
theorem small_any (w : World) : Calls Tryz.prog 26 #[] w fun e w' => (∃ ao, e = .returned (.agg #[.int .i64 2, .int .i64 1, .slice ao 3 3]) ∧ OpsAt w' ao 3 smallC.ops) ∧ Ext w w' := by
  go_enter Tryz.func26, Tryz.ntmps26
  go_wp2_with fail
  obtain ⟨A1, hA1⟩ : ∃ A1, w.alloc (.cells #[.int .i64 2, .int .i64 1, .slice (some ⟨w.heap.size + 1 + 1 + 1, 0, none⟩) 3 3] 24) = A1 := ⟨_, rfl⟩
  rw [hA1]
  obtain ⟨A2, hA2⟩ : ∃ A2, A1.alloc (.cells #[.int .i64 0] 3) = A2 := ⟨_, rfl⟩
  rw [hA2]
  obtain ⟨A3, hA3⟩ : ∃ A3, A2.alloc (.cells #[.int .i64 (-1)] 3) = A3 := ⟨_, rfl⟩
  rw [hA3]
  obtain ⟨A4, hA4⟩ : ∃ A4, A3.alloc (.cells #[.int .i64 3, .int .i64 0, .slice none 0 0, .int .i64 0, .int .i64 0, .slice none 0 0, .int .i64 2, .int .i64 0, .slice (some ⟨w.heap.size + 1, 0, none⟩) 1 1, .int .i64 1, .int .i64 0, .slice none 0 0, .int .i64 5, .int .i64 0, .slice none 0 0, .int .i64 1, .int .i64 0, .slice (some ⟨w.heap.size + 1 + 1, 0, none⟩) 1 1] 60) = A4 := ⟨_, rfl⟩
  rw [hA4]
  have s1 : A1.heap.size = w.heap.size + 1 := by rw [← hA1]; simp
  have s2 : A2.heap.size = w.heap.size + 1 + 1 := by rw [← hA2]; simp [s1]
  have s3 : A3.heap.size = w.heap.size + 1 + 1 + 1 := by rw [← hA3]; simp [s2]
  have x1 : Ext w A1 := by rw [← hA1]; exact ext_al _ _
  have x2 : Ext A1 A2 := by rw [← hA2]; exact ext_al _ _
  have x3 : Ext A2 A3 := by rw [← hA3]; exact ext_al _ _
  have x4 : Ext A3 A4 := by rw [← hA4]; exact ext_al _ _
  have r1 : A1.heap[w.heap.size]? = some (.cells #[.int .i64 2, .int .i64 1, .slice (some ⟨w.heap.size + 1 + 1 + 1, 0, none⟩) 3 3] 24 (0, 0)) := by rw [← hA1]; exact heap_alloc_new w _
  have r2 : A2.heap[w.heap.size + 1]? = some (.cells #[.int .i64 0] 3 (0, 0)) := by rw [← hA2, ← s1]; exact heap_alloc_new A1 _
  have r3 : A3.heap[w.heap.size + 1 + 1]? = some (.cells #[.int .i64 (-1)] 3 (0, 0)) := by rw [← hA3, ← s2]; exact heap_alloc_new A2 _
  have r4 : A4.heap[w.heap.size + 1 + 1 + 1]? = some (.cells #[.int .i64 3, .int .i64 0, .slice none 0 0, .int .i64 0, .int .i64 0, .slice none 0 0, .int .i64 2, .int .i64 0, .slice (some ⟨w.heap.size + 1, 0, none⟩) 1 1, .int .i64 1, .int .i64 0, .slice none 0 0, .int .i64 5, .int .i64 0, .slice none 0 0, .int .i64 1, .int .i64 0, .slice (some ⟨w.heap.size + 1 + 1, 0, none⟩) 1 1] 60 (0, 0)) := by rw [← hA4, ← s3]; exact heap_alloc_new A3 _
  have r3' := (x4.block _ (Array.getElem?_eq_some_iff.1 r3).1).trans r3
  have x34 := x3.trans x4
  have r2' := (x34.block _ (Array.getElem?_eq_some_iff.1 r2).1).trans r2
  have x24 := x2.trans x34
  have r1' := (x24.block _ (Array.getElem?_eq_some_iff.1 r1).1).trans r1
  have E := x1.trans x24
  clear hA1 hA2 hA3 hA4 s1 s2 s3 x1 x2 x3 x4 x34 x24 r1 r2 r3
  have c0 : A4.cell? ⟨w.heap.size, 0, none⟩ = some (.int .i64 2) := by rw [cell_of_row A4 _ 0 _ _ (0, 0) r1']; rfl
  have c1 : A4.cell? ⟨w.heap.size, 1, none⟩ = some (.int .i64 1) := by rw [cell_of_row A4 _ 1 _ _ (0, 0) r1']; rfl
  have c2 : A4.cell? ⟨w.heap.size, 2, none⟩ = some (.slice (some ⟨w.heap.size + 1 + 1 + 1, 0, none⟩) 3 3) := by rw [cell_of_row A4 _ 2 _ _ (0, 0) r1']; rfl
  have l2 := (Array.getElem?_eq_some_iff.1 r2').1; have l3 := (Array.getElem?_eq_some_iff.1 r3').1; have l4 := (Array.getElem?_eq_some_iff.1 r4).1
  have I0 : IntsAt A4 none 0 [] := ⟨rfl, Or.inl rfl⟩
  have I1 : IntsAt A4 (some ⟨w.heap.size + 1, 0, none⟩) 1 [0] := by
    refine ⟨rfl, Or.inr ⟨_, _, rfl, l2, fun t ht => ?_⟩⟩
    obtain rfl : t = 0 := by omega
    rw [cell_of_row A4 _ _ _ _ (0, 0) r2']; rfl
  have I2 : IntsAt A4 (some ⟨w.heap.size + 1 + 1, 0, none⟩) 1 [-1] := by
    refine ⟨rfl, Or.inr ⟨_, _, rfl, l3, fun t ht => ?_⟩⟩
    obtain rfl : t = 0 := by omega
    rw [cell_of_row A4 _ _ _ _ (0, 0) r3']; rfl
  refine bodyPost_ret (v := .agg #[.int .i64 2, .int .i64 1, .slice (some ⟨w.heap.size + 1 + 1 + 1, 0, none⟩) 3 3]) (by simp [results, Tryz.results26, go_sem, c0, c1, c2]) rfl ⟨⟨_, rfl, rfl, Or.inr ⟨_, _, rfl, l4, ?_⟩⟩, E⟩
  intro t g hg
  have ht : t = 0 ∨ t = 1 ∨ t = 2 := by
    have : t < smallC.ops.length := (List.getElem?_eq_some_iff.1 hg).1
    have : smallC.ops.length = 3 := rfl
    omega
  rcases ht with rfl | rfl | rfl
  · have : g = ⟨3, 0, [], 0, 0, []⟩ := by simpa [smallC] using hg.symm
    subst this
    refine ⟨none, 0, 0, none, 0, 0, ?_, ?_, ?_, ?_, ?_, ?_, ⟨I0, by omega, by omega, I0, by omega, by omega⟩⟩ <;> (rw [cell_of_row A4 _ _ _ _ (0, 0) r4]; rfl)
  · have : g = ⟨2, 0, [0], 1, 0, []⟩ := by simpa [smallC] using hg.symm
    subst this
    refine ⟨_, 1, 1, none, 0, 0, ?_, ?_, ?_, ?_, ?_, ?_, ⟨I1, by omega, by omega, I0, by omega, by omega⟩⟩ <;> (rw [cell_of_row A4 _ _ _ _ (0, 0) r4]; rfl)
  · have : g = ⟨5, 0, [], 1, 0, [-1]⟩ := by simpa [smallC] using hg.symm
    subst this
    refine ⟨none, 0, 0, _, 1, 1, ?_, ?_, ?_, ?_, ?_, ?_, ⟨I0, by omega, by omega, I2, by omega, by omega⟩⟩ <;> (rw [cell_of_row A4 _ _ _ _ (0, 0) r4]; rfl)

end Go.Proofs.YtfjnlopbmkimiaaGreatDoor
namespace Go.Proofs.YtfjnlopbmkimiaaGreatDoor
open Go.RowKit

theorem eq_rt1 : EqN nRt (nHf (nAdd nZ nOne)) := fun k => by
  simp only [nRt, nHf, nAdd, nZ, nOne, addR, trR]
  simp
theorem eq_rt2 : EqN nRt (nHf (nAdd nOne nZ)) := fun k => by
  simp only [nRt, nHf, nAdd, nZ, nOne, addR, trR]
  simp
theorem small_is : shoR smallC 0 [1] = ⟨(0, 0), oc 1 1 (gt ⟨2, 0, [0], 1, 0, []⟩ (gt ⟨3, 0, [], 0, 0, []⟩ (bas 0))), [1], 1⟩ := by
  show plM [1] [⟨3, 0, [], 0, 0, []⟩, ⟨2, 0, [0], 1, 0, []⟩, ⟨5, 0, [], 1, 0, [-1]⟩] 0 (bas 0) [0] 0 = _
  rw [plM_gate rfl (by decide), plM_gate rfl (by decide), plM_bit (v := 1) (by decide) rfl (by decide) rfl (Or.inr rfl)]
  rfl
theorem small_f : shoF smallC 0 [1] = (0, 0) := by
  unfold shoF
  rw [small_is]
  have : stF smallC 0 = (0, 0) := by
    unfold stF
    rw [smallC_chk]
    decide
  rw [this]
  rfl
theorem h_at (x : Nat) (hx : x < 4) : gt ⟨3, 0, [], 0, 0, []⟩ (bas 0) x = if x < 2 then nRt else nZ := by
  unfold gt
  simp only [ons, List.all_nil, if_true, show ¬ ((3 : Int) = 1) by decide, show ¬ ((3 : Int) = 4) by decide, show ¬ ((3 : Int) = 2) by decide, if_false]
  have e : x = 0 ∨ x = 1 ∨ x = 2 ∨ x = 3 := by omega
  rcases e with rfl | rfl | rfl | rfl
  · show lw (nHf (nAdd nZ nOne)) = nRt
    exact (lw_one low_rt eq_rt1).symm
  · show lw (nHf (nAdd nOne (nNeg nZ))) = nRt
    rw [neg_z]
    exact (lw_one low_rt eq_rt2).symm
  · show lw (nHf (nAdd nZ nZ)) = nZ
    exact lw_z hf_z
  · show lw (nHf (nAdd nZ (nNeg nZ))) = nZ
    rw [neg_z]
    exact lw_z hf_z
theorem small_s (x : Nat) (hx : x < 4) : oc 1 1 (gt ⟨2, 0, [0], 1, 0, []⟩ (gt ⟨3, 0, [], 0, 0, []⟩ (bas 0))) x = if x = 3 then nRt else nZ := by
  have e : x = 0 ∨ x = 1 ∨ x = 2 ∨ x = 3 := by omega
  rcases e with rfl | rfl | rfl | rfl
  · rfl
  · rfl
  · show gt ⟨3, 0, [], 0, 0, []⟩ (bas 0) 2 = nZ
    rw [h_at 2 (by decide)]; rfl
  · show gt ⟨3, 0, [], 0, 0, []⟩ (bas 0) 1 = nRt
    rw [h_at 1 (by decide)]; rfl
theorem small_txt : txL (oc 1 1 (gt ⟨2, 0, [0], 1, 0, []⟩ (gt ⟨3, 0, [], 0, 0, []⟩ (bas 0)))) 4 = [[48], [48], [48], [48, 44, 48, 44, 49, 44, 48, 44, 48, 44, 48, 44, 45, 49, 47, 49]] := by
  rw [txL_congr (t := fun x => if x = 3 then nRt else nZ) (fun x hx => small_s x hx)]
  show [rtx (nmF nZ), rtx (nmF nZ), rtx (nmF nZ), rtx (nmF nRt)] = _
  rw [tx_zero, rtx_rt]

set_option maxRecDepth 100000 in
set_option maxHeartbeats 2000000 in
theorem sameShot_any (l : List (List UInt8)) (bits : List Int) (u : Int) (a1 : Option Addr) (n c1 : Nat) (a2 : Option Addr) (c2 : Nat) (b1 : Option Addr) (m d1 : Nat) (b2 : Option Addr) (d2 : Nat) (w : World) (h1 : StrsAt w a1 n l) (h2 : StrsAt w a2 n l) (hn : n ≤ 4096) (i1 : IntsAt w b1 m bits) (i2 : IntsAt w b2 m bits) (hm : m ≤ d1) (hm1 : d1 ≤ 9223372036854775807) :
    Calls Tryz.prog 9 #[.agg #[.slice a1 n c1, .slice b1 m d1, .int .i64 u], .agg #[.slice a2 n c2, .slice b2 m d2, .int .i64 u]] w fun e w' => e = .returned (.bool true) ∧ Ext w w' := by
  obtain ⟨H, hH⟩ : ∃ H, w.heap.size = H := ⟨_, rfl⟩
  obtain ⟨W, hW⟩ : ∃ W, (w.alloc (.cells #[.slice a1 n c1, .slice b1 m d1, .int .i64 u] 29)).alloc (.cells #[.slice a2 n c2, .slice b2 m d2, .int .i64 u] 29) = W := ⟨_, rfl⟩
  have E0 : Ext w W := by rw [← hW]; exact (ext_al w _).trans (ext_al _ _)
  have r1 : W.heap[H]? = some (.cells #[.slice a1 n c1, .slice b1 m d1, .int .i64 u] 29 (0, 0)) := by
    rw [← hW, ← hH]; exact ((ext_al _ _).block _ (Array.getElem?_eq_some_iff.1 (heap_alloc_new w (.cells #[.slice a1 n c1, .slice b1 m d1, .int .i64 u] 29))).1).trans (heap_alloc_new w _)
  have r2 : W.heap[H + 1]? = some (.cells #[.slice a2 n c2, .slice b2 m d2, .int .i64 u] 29 (0, 0)) := by
    have h1 := heap_alloc_new (w.alloc (.cells #[.slice a1 n c1, .slice b1 m d1, .int .i64 u] 29)) (.cells #[.slice a2 n c2, .slice b2 m d2, .int .i64 u] 29)
    rw [World.size_alloc] at h1
    rw [← hW, ← hH]; exact h1
  have c : ∀ wx, Ext W wx → ((wx.cell? ⟨H, 0, none⟩ = some (.slice a1 n c1) ∧ wx.cell? ⟨H, 1, none⟩ = some (.slice b1 m d1)) ∧ wx.cell? ⟨H, 2, none⟩ = some (.int .i64 u)) ∧ (wx.cell? ⟨H + 1, 0, none⟩ = some (.slice a2 n c2) ∧ wx.cell? ⟨H + 1, 1, none⟩ = some (.slice b2 m d2)) ∧ wx.cell? ⟨H + 1, 2, none⟩ = some (.int .i64 u) := fun wx hx => by
    have k1 := (hx.block _ (Array.getElem?_eq_some_iff.1 r1).1).trans r1
    have k2 := (hx.block _ (Array.getElem?_eq_some_iff.1 r2).1).trans r2
    exact ⟨⟨⟨by rw [cell_of_row _ _ 0 _ _ (0, 0) k1]; rfl, by rw [cell_of_row _ _ 1 _ _ (0, 0) k1]; rfl⟩, by rw [cell_of_row _ _ 2 _ _ (0, 0) k1]; rfl⟩, ⟨by rw [cell_of_row _ _ 0 _ _ (0, 0) k2]; rfl, by rw [cell_of_row _ _ 1 _ _ (0, 0) k2]; rfl⟩, by rw [cell_of_row _ _ 2 _ _ (0, 0) k2]; rfl⟩
  have Hc := Lib.hid c
  have HS := Lib.hid (sameTexts_any l a1 n c1 a2 c2 W (h1.ext E0) (h2.ext E0) hn)
  have HI := Lib.hid (fun (wx : World) (hx : Ext W wx) => sameInts_any bits b1 m d1 b2 d2 wx (i1.ext (E0.trans hx)) (i2.ext (E0.trans hx)) hm hm1)
  have HE0 := Lib.hid E0; have HW := Lib.hid hW; have HH := Lib.hid hH
  obtain ⟨⟨⟨k0, k1⟩, k2⟩, ⟨k3, k4⟩, k5⟩ := c W (Ext.refl _)
  clear c r1 r2 E0 hW hH h1 h2 i1 i2 hn hm hm1
  go_enter Tryz.func9, Tryz.ntmps9
  go_upto_region 1 with fail
  rw [HW.out, HH.out]
  go_wp2_with fail
  refine HS.out.mono ?_
  rintro e w1 ⟨rfl, hx1⟩
  have HX1 := Lib.hid hx1
  clear k0 k1 k2 k3 k4 k5
  obtain ⟨⟨⟨k0, k1⟩, k2⟩, ⟨k3, k4⟩, k5⟩ := Hc.out w1 hx1
  clear hx1 k0 k3
  go_wp2_with fail
  refine (HI.out w1 HX1.out).mono ?_
  rintro e w2 ⟨rfl, hx2⟩
  have HX2 := Lib.hid (HX1.out.trans hx2)
  clear k1 k2 k4 k5 hx2
  obtain ⟨⟨⟨k0, k1⟩, k2⟩, ⟨k3, k4⟩, k5⟩ := Hc.out w2 HX2.out
  clear k0 k1 k3 k4
  have HEnd := Lib.hid (HE0.out.trans HX2.out)
  go_wp2_with fail
  go_ret
  exact ⟨rfl, HEnd.out⟩

set_option maxRecDepth 100000 in
set_option maxHeartbeats 4000000 in
theorem stateBegun_any (w : World) (hS : Shp w) (hbr : Bru w) (hT : Ten w) :
    Calls Tryz.prog 8 #[] w fun e w' => e = .returned (.bool true) ∧ Ext w w' := by
  have HS := Lib.hid hS; have HB := Lib.hid hbr; have HT := Lib.hid hT
  clear hS hbr hT
  go_enter Tryz.func8, Tryz.ntmps8
  go_wp2_with fail
  refine (small_any w).mono ?_
  rintro e w1 ⟨⟨ao, rfl, hO⟩, hx1⟩
  have E2 := ext_alloc w1 (.cells #[.int .i64 1] 3)
  have HI1 := Lib.hid (ints_one w1 1)
  have HO := Lib.hid (hO.ext E2); have HX2 := Lib.hid (hx1.trans E2)
  clear hO hx1 E2
  go_wp2_with fail
  generalize w1.alloc (.cells #[.int .i64 1] 3) = W2 at *
  have HR := Lib.hid (Run_any smallC ao 3 3 0 (some ⟨w1.heap.size, 0, none⟩) 1 1 [1] W2 HO.out (by decide) (by decide) HI1.out (HS.out.ext HX2.out) (bru_ext HB.out HX2.out) (tab_ext HT.out HX2.out))
  rw [small_f, small_is, show 2 ^ smallC.qubits.toNat = 4 from rfl] at HR
  refine HR.out.mono ?_
  rintro e w3 ⟨cs, rfl, hx3, hsh, _⟩
  obtain ⟨g, bb, rfl, hg, hb⟩ := hsh rfl
  clear hsh
  go_upto_region 2 with fail
  obtain ⟨U, hU⟩ : ∃ U, (w3.alloc (.cells #[.slice (some ⟨g, 0, none⟩) 4 4, .slice (some ⟨bb, 0, none⟩) 1 1, .int .i64 1] 29)).alloc (.cells #[.int .i64 0, .int .i64 0] 31) = U := ⟨_, rfl⟩
  have EU : Ext w3 U := by rw [← hU]; exact (ext_al _ _).trans (ext_al _ _)
  have r1 : U.heap[w3.heap.size]? = some (.cells #[.slice (some ⟨g, 0, none⟩) 4 4, .slice (some ⟨bb, 0, none⟩) 1 1, .int .i64 1] 29 (0, 0)) := by
    rw [← hU]; exact ((ext_al _ _).block _ (Array.getElem?_eq_some_iff.1 (heap_alloc_new w3 (.cells #[.slice (some ⟨g, 0, none⟩) 4 4, .slice (some ⟨bb, 0, none⟩) 1 1, .int .i64 1] 29))).1).trans (heap_alloc_new w3 _)
  have r2 : U.heap[w3.heap.size + 1]? = some (.cells #[.int .i64 0, .int .i64 0] 31 (0, 0)) := by
    have h1 := heap_alloc_new (w3.alloc (.cells #[.slice (some ⟨g, 0, none⟩) 4 4, .slice (some ⟨bb, 0, none⟩) 1 1, .int .i64 1] 29)) (.cells #[.int .i64 0, .int .i64 0] 31)
    rw [World.size_alloc] at h1
    rw [← hU]; exact h1
  rw [hU]
  have k0 : U.cell? ⟨w3.heap.size, 0, none⟩ = some (.slice (some ⟨g, 0, none⟩) 4 4) := by rw [cell_of_row _ _ 0 _ _ (0, 0) r1]; rfl
  have k1 : U.cell? ⟨w3.heap.size, 1, none⟩ = some (.slice (some ⟨bb, 0, none⟩) 1 1) := by rw [cell_of_row _ _ 1 _ _ (0, 0) r1]; rfl
  have k2 : U.cell? ⟨w3.heap.size, 2, none⟩ = some (.int .i64 1) := by rw [cell_of_row _ _ 2 _ _ (0, 0) r1]; rfl
  have k3 : U.cell? ⟨w3.heap.size + 1, 0, none⟩ = some (.int .i64 0) := by rw [cell_of_row _ _ 0 _ _ (0, 0) r2]; rfl
  have HEU := Lib.hid (HX2.out.trans (hx3.trans EU))
  have Hg := Lib.hid (show TxR U g 4 _ from TxR.ext hg EU)
  have Hb := Lib.hid ((EU.block bb (Array.getElem?_eq_some_iff.1 hb).1).trans hb)
  generalize w3.heap.size = D at *
  clear hU EU r1 r2 hg hb hx3 HR HO HI1
  have E3 := ext_alloc U (.cells #[.string ⟨#[48]⟩, .string ⟨#[48]⟩, .string ⟨#[48]⟩, .string ⟨#[48, 44, 48, 44, 49, 44, 48, 44, 48, 44, 48, 44, 45, 49, 47, 49]⟩] 9)
  have r5 := heap_alloc_new U (.cells #[.string ⟨#[48]⟩, .string ⟨#[48]⟩, .string ⟨#[48]⟩, .string ⟨#[48, 44, 48, 44, 49, 44, 48, 44, 48, 44, 48, 44, 45, 49, 47, 49]⟩] 9)
  obtain ⟨U3, hU3⟩ : ∃ U3, U.alloc (.cells #[.string ⟨#[48]⟩, .string ⟨#[48]⟩, .string ⟨#[48]⟩, .string ⟨#[48, 44, 48, 44, 49, 44, 48, 44, 48, 44, 48, 44, 45, 49, 47, 49]⟩] 9) = U3 := ⟨_, rfl⟩
  rw [hU3] at E3 r5
  have E4 := ext_alloc U3 (.cells #[.int .i64 1] 3)
  have I4 := ints_one U3 1
  have r5' := (E4.block _ (Array.getElem?_eq_some_iff.1 r5).1).trans r5
  have S2 : StrsAt (U3.alloc (.cells #[.int .i64 1] 3)) (some ⟨U.heap.size, 0, none⟩) 4 [[48], [48], [48], [48, 44, 48, 44, 49, 44, 48, 44, 48, 44, 48, 44, 45, 49, 47, 49]] := by
    refine ⟨rfl, Or.inr ⟨_, _, rfl, (Array.getElem?_eq_some_iff.1 r5').1, fun t ht => ?_⟩⟩
    rw [cell_of_row _ _ _ _ _ (0, 0) r5']
    have e : t = 0 ∨ t = 1 ∨ t = 2 ∨ t = 3 := by omega
    rcases e with rfl | rfl | rfl | rfl <;> rfl
  have S1 := (TxR.ext Hg.out (E3.trans E4)).strs
  rw [small_txt] at S1
  have b4 := ((E3.trans E4).block bb (Array.getElem?_eq_some_iff.1 Hb.out).1).trans Hb.out
  have I1 : IntsAt (U3.alloc (.cells #[.int .i64 1] 3)) (some ⟨bb, 0, none⟩) 1 [1] := by
    refine ⟨rfl, Or.inr ⟨_, _, rfl, (Array.getElem?_eq_some_iff.1 b4).1, fun t ht => ?_⟩⟩
    obtain rfl : t = 0 := by omega
    rw [cell_of_row _ _ _ _ _ (0, 0) b4]
    rfl
  have HSh := Lib.hid (sameShot_any _ [1] 1 _ 4 4 _ 4 _ 1 1 _ 1 _ S1 S2 (by decide) I1 I4 (by decide) (by decide))
  have HE4 := Lib.hid (HEU.out.trans (E3.trans E4)); have HU3 := Lib.hid hU3
  have sz : U3.heap.size = U.heap.size + 1 := by rw [← hU3]; simp
  rw [sz] at HSh
  clear E3 r5 hU3 E4 I4 r5' S2 S1 b4 I1 HEU Hg Hb sz
  go_wp2_with fail
  rw [HU3.out]
  refine HSh.out.mono ?_
  rintro e w9 ⟨rfl, hx9⟩
  have HE9 := Lib.hid (HE4.out.trans hx9)
  clear hx9 HSh HE4 k0 k1 k2 k3
  go_wp2_with fail
  go_ret
  exact ⟨rfl, HE9.out⟩
end Go.Proofs.YtfjnlopbmkimiaaGreatDoor
namespace Go.Proofs.YtfjnlopbmkimiaaGreatDoor
open Go.RowKit

theorem op_info : (Tryz.prog.info? 60).map (fun i => (i.zero, i.size, i.bytes)) = some (some (.agg #[.int .i64 0, .int .i64 0, .slice none 0 0, .int .i64 0, .int .i64 0, .slice none 0 0]), 6, 80) := by kernel_rfl

/-- Operations whose lists are their own, in a slice of the call's own. -/
def OpsO (w : World) (base : Nat) (v : Value) (ops : List Gop) : Prop :=
  ∃ xs : List Value, w.ownsRow base 60 6 v ops.length xs ∧ ∀ t g, ops[t]? = some g → ∃ (a1 : Option Addr) (n1 c1 : Nat) (a2 : Option Addr) (n2 c2 : Nat),
    xs[t * 6]? = some (.int .i64 g.kind) ∧ xs[t * 6 + 1]? = some (.int .i64 g.k) ∧ xs[t * 6 + 2]? = some (.slice a1 n1 c1) ∧ xs[t * 6 + 3]? = some (.int .i64 g.q) ∧ xs[t * 6 + 4]? = some (.int .i64 g.bit) ∧ xs[t * 6 + 5]? = some (.slice a2 n2 c2) ∧ OpO w g a1 n1 c1 a2 n2 c2
theorem own_keep {w w' : World} {base : Nat} {e : TypeId} {size : Nat} {v : Value} {n : Nat} {xs : List Value} (h : w.ownsRow base e size v n xs) (hk : ∀ (g : Nat) (cur : Array Value), base ≤ g → w.heap[g]? = some (.cells cur e (0, 0)) → w'.heap[g]? = w.heap[g]?) : w'.ownsRow base e size v n xs := by
  refine ⟨h.1, ?_⟩
  rcases h.2 with h | ⟨g, cap, cur, hv, hb, hg, rest⟩
  · exact Or.inl h
  · exact Or.inr ⟨g, cap, cur, hv, hb, (hk g cur hb hg).trans hg, rest⟩
theorem OpsO.at {w : World} {base : Nat} {v : Value} {ops : List Gop} (h : OpsO w base v ops) : ∃ (a : Option Addr) (c : Nat), v = .slice a ops.length c ∧ ops.length ≤ c ∧ c ≤ maxLen ∧ OpsAt w a ops.length ops := by
  obtain ⟨xs, h1, h2⟩ := h
  rcases h1.2 with ⟨rfl, h0⟩ | ⟨g, cap, cur, hv, hb, hg, hn, hcm, _, htk⟩
  · rw [h0]
    exact ⟨none, 0, rfl, Nat.le_refl _, Nat.zero_le _, h0, Or.inl rfl⟩
  · refine ⟨some ⟨g, 0, none⟩, cap, hv, hn, hcm, rfl, Or.inr ⟨g, 0, rfl, (Array.getElem?_eq_some_iff.1 hg).1, fun t gg hgg => ?_⟩⟩
    obtain ⟨a1, n1, c1, a2, n2, c2, e0, e1, e2, e3, e4, e5, e6⟩ := h2 t gg hgg
    have ht := (List.getElem?_eq_some_iff.1 hgg).1
    have hc : ∀ j, j < ops.length * 6 → w.cell? ⟨g, 0 + j, none⟩ = xs[j]? := by
      intro j hj
      rw [Nat.zero_add, cell_of_row w g j cur _ (0, 0) hg, ← Array.getElem?_toList, ← htk, List.getElem?_take, if_pos hj]
    exact ⟨a1, n1, c1, a2, n2, c2, by rw [hc _ (by omega)]; exact e0, by rw [Nat.add_assoc, hc _ (by omega)]; exact e1, by rw [Nat.add_assoc, hc _ (by omega)]; exact e2, by rw [Nat.add_assoc, hc _ (by omega)]; exact e3, by rw [Nat.add_assoc, hc _ (by omega)]; exact e4, by rw [Nat.add_assoc, hc _ (by omega)]; exact e5, e6.l⟩
theorem PtKind {w : World} {base n size : Nat} {v : Value} {xs : List Value} {e : TypeId} (h : w.ownsRow base e size v n xs) : ∀ k, v.ownBlock = some k → base ≤ k ∧ ∃ cs fr, w.heap[k]? = some (.cells cs e fr) := by
  intro k hk
  rcases h.2 with ⟨rfl, _⟩ | ⟨g, cap, cur, rfl, hb, hg, _⟩
  · simp [Value.ownBlock] at hk
  · simp [Value.ownBlock] at hk
    subst hk
    exact ⟨hb, cur, (0, 0), hg⟩
theorem new_op (w : World) (k0 k1 : Int) (a1 : Option Addr) (n1 c1 : Nat) (k3 k4 : Int) (a2 : Option Addr) (n2 c2 : Nat) (e : TypeId) : ∀ j u, ([.int .i64 k0, .int .i64 k1, .slice a1 n1 c1, .int .i64 k3, .int .i64 k4, .slice a2 n2 c2] : List Value)[j]? = some u → (w.alloc (.cells #[.int .i64 k0, .int .i64 k1, .slice a1 n1 c1, .int .i64 k3, .int .i64 k4, .slice a2 n2 c2] e)).cell? ((⟨w.heap.size, 0, none⟩ : Addr).add j) = some u := by
  intro j u hu
  have hadd : (⟨w.heap.size, 0, none⟩ : Addr).add j = ⟨w.heap.size, j, none⟩ := by unfold Addr.add; split <;> simp_all
  rw [hadd, cell_of_row _ _ j _ _ (0, 0) (heap_alloc_new w _)]
  simpa using hu
theorem one_op (k0 k1 : Int) (a1 : Option Addr) (n1 c1 : Nat) (k3 k4 : Int) (a2 : Option Addr) (n2 c2 : Nat) : ∀ u ∈ ([.int .i64 k0, .int .i64 k1, .slice a1 n1 c1, .int .i64 k3, .int .i64 k4, .slice a2 n2 c2] : List Value), u.oneCell' = true := by
  intro u hu
  simp only [List.mem_cons, List.not_mem_nil, or_false] at hu
  rcases hu with rfl | rfl | rfl | rfl | rfl | rfl <;> rfl
theorem stepK_append {ops : Array Oper} {o : Oper} {a : Act} {K : Act → World → Prop} {Q : Exit → Act → World → Prop} {E : Prop} {w w' : World} (hgd : o.guard = none) (s x : Operand) (t : TypeId)
    (ho : o.op = .call { callee := .builtin .append, args := #[s, x], argTypes := #[t, t] }) (v1 v2 r : Value) (hs : a.eval s = v1) (hx : a.eval x = v2)
    (hap : (Builtin.append_ #[t, t] o.type #[v1, v2]).run Tryz.prog w = .ok r w') (h : K (a.put o.dst r) w') :
    if Region.wanted o (yielded ops a.tmps) = true then Oper.wp Tryz.prog o a w K Q else E := by
  have hw : Region.wanted o (yielded ops a.tmps) = true := by simp [Region.wanted, hgd]
  rw [if_pos hw]
  unfold Oper.wp execOp
  simp only [ho, resolve, invoke, builtin, Sem.run_bind, Sem.run_pure, Result.andThen_ok, List.map_toArray, List.map_cons, List.map_nil, hs, hx, hap]
  exact h
set_option maxHeartbeats 400000 in
theorem stepK_store {ops : Array Oper} {o : Oper} {a : Act} {K : Act → World → Prop} {Q : Exit → Act → World → Prop} {E : Prop} {w : World} (hgd : o.guard = none) (hd : o.dst = none) (p x : Operand)
    (ho : o.op = .store 22 p x) (b off : Nat) (a' : Option Addr) (n' c' : Nat) (u : Value) (hp : a.eval p = .pointer (some ⟨b, off, none⟩)) (hx : a.eval x = .slice a' n' c')
    (hcell : w.cell? ⟨b, off, none⟩ = some u) (hfz : w.frozen? ⟨b, off, none⟩ = false) (h : K a (w.setCell ⟨b, off, none⟩ (.slice a' n' c'))) :
    if Region.wanted o (yielded ops a.tmps) = true then Oper.wp Tryz.prog o a w K Q else E := by
  have hw : Region.wanted o (yielded ops a.tmps) = true := by simp [Region.wanted, hgd]
  rw [if_pos hw]
  obtain ⟨od, oo, ot, opp, oa, og⟩ := o
  simp only at ho hd
  subst ho hd
  have HH := Lib.hid h
  clear h
  unfold Oper.wp execOp
  simp only [hp, hx]
  go_simp
  exact HH.out
theorem CiB.f {W : World} {g : Nat} {qb bi : Int} {ao : Option Addr} {n cp : Nat} (h : CiB W g qb bi ao n cp) (o : Nat) : W.frozen? ⟨g, o, none⟩ = false := frozen_of_row W g o _ _ h.row
theorem CiB.set2 {W : World} {g : Nat} {qb bi : Int} {ao : Option Addr} {n cp : Nat} (h : CiB W g qb bi ao n cp) (a : Option Addr) (m c : Nat) : CiB (W.setCell ⟨g, 2, none⟩ (.slice a m c)) g qb bi a m c := ⟨heap_setCell_same W g 2 _ _ (.slice a m c) h.row⟩
theorem CiB_grown {a w' : World} {v : Value} {base g : Nat} {e : TypeId} {qb bi : Int} {ao : Option Addr} {n cp : Nat} (hg : a.grownBy w' v.ownBlock) (hk : ∀ k, v.ownBlock = some k → base ≤ k ∧ ∃ cs fr, a.heap[k]? = some (.cells cs e fr)) (h : CiB a g qb bi ao n cp) (hb : g < base) : CiB w' g qb bi ao n cp :=
  ⟨(hg.block g h.lt (fun e => by have := (hk g e.symm).1; omega)).trans h.row⟩
end Go.Proofs.YtfjnlopbmkimiaaGreatDoor
namespace Go.Proofs.YtfjnlopbmkimiaaGreatDoor
open Go.RowKit

theorem stepK_storeI {ops : Array Oper} {o : Oper} {a : Act} {K : Act → World → Prop} {Q : Exit → Act → World → Prop} {E : Prop} {w : World} (hgd : o.guard = none) (hd : o.dst = none) (p x : Operand)
    (ho : o.op = .store 25 p x) (b off : Nat) (a' : Option Addr) (n' c' : Nat) (u : Value) (hp : a.eval p = .pointer (some ⟨b, off, none⟩)) (hx : a.eval x = .slice a' n' c')
    (hcell : w.cell? ⟨b, off, none⟩ = some u) (hfz : w.frozen? ⟨b, off, none⟩ = false) (h : K a (w.setCell ⟨b, off, none⟩ (.slice a' n' c'))) :
    if Region.wanted o (yielded ops a.tmps) = true then Oper.wp Tryz.prog o a w K Q else E := by
  have hw : Region.wanted o (yielded ops a.tmps) = true := by simp [Region.wanted, hgd]
  rw [if_pos hw]
  obtain ⟨od, oo, ot, opp, oa, og⟩ := o
  simp only at ho hd
  subst ho hd
  have HH := Lib.hid h
  clear h
  unfold Oper.wp execOp
  simp only [hp, hx]
  go_simp
  exact HH.out

end Go.Proofs.YtfjnlopbmkimiaaGreatDoor
namespace Go.Proofs.YtfjnlopbmkimiaaGreatDoor
open Go.RowKit

theorem CiB.set0 {W : World} {g : Nat} {qb bi : Int} {ao : Option Addr} {n cp : Nat} (h : CiB W g qb bi ao n cp) (v : Int) : CiB (W.setCell ⟨g, 0, none⟩ (.int .i64 v)) g v bi ao n cp := ⟨row_put h.row rfl⟩
theorem CiB.set1 {W : World} {g : Nat} {qb bi : Int} {ao : Option Addr} {n cp : Nat} (h : CiB W g qb bi ao n cp) (v : Int) : CiB (W.setCell ⟨g, 1, none⟩ (.int .i64 v)) g qb v ao n cp := ⟨row_put h.row rfl⟩
end Go.Proofs.YtfjnlopbmkimiaaGreatDoor
namespace Go.Proofs.YtfjnlopbmkimiaaGreatDoor
open Go.RowKit

/-- Six cells are laid from p on. -/
def set6 (cs : Array Value) (p : Nat) (f : Nat → Value) : Array Value :=
  (((((cs.setIfInBounds p (f 0)).setIfInBounds (p + 1) (f 1)).setIfInBounds (p + 2) (f 2)).setIfInBounds (p + 3) (f 3)).setIfInBounds (p + 4) (f 4)).setIfInBounds (p + 5) (f 5)
theorem set6_size (cs : Array Value) (p : Nat) (f : Nat → Value) : (set6 cs p f).size = cs.size := by simp [set6]
theorem set6_in (cs : Array Value) (p : Nat) (f : Nat → Value) (k : Nat) (hk : k < 6) (hp : p + 6 ≤ cs.size) : (set6 cs p f)[p + k]? = some (f k) := by
  have : k = 0 ∨ k = 1 ∨ k = 2 ∨ k = 3 ∨ k = 4 ∨ k = 5 := by omega
  unfold set6
  rcases this with rfl | rfl | rfl | rfl | rfl | rfl
  all_goals
    simp only [Array.getElem?_setIfInBounds, Array.size_setIfInBounds]
    repeat (first | rw [if_neg (by omega)] | rw [if_pos (by omega)] | rw [if_pos trivial])
theorem set6_out (cs : Array Value) (p : Nat) (f : Nat → Value) (q : Nat) (hq : q < p ∨ p + 6 ≤ q) : (set6 cs p f)[q]? = cs[q]? := by
  unfold set6
  simp only [Array.getElem?_setIfInBounds]
  repeat rw [if_neg (by omega)]

/-- The outer i on each side changed places. -/
def half (ops : List Gop) (i : Nat) : List Gop := ops.reverse.take i ++ ((ops.drop i).take (ops.length - 2 * i) ++ ops.reverse.drop (ops.length - i))
theorem half_len {ops : List Gop} {i : Nat} (h : 2 * i ≤ ops.length) : (half ops i).length = ops.length := by
  unfold half
  simp only [List.length_append, List.length_take, List.length_drop, List.length_reverse]
  omega
theorem half_get {ops : List Gop} {i t : Nat} (h : 2 * i ≤ ops.length) (ht : t < ops.length) : (half ops i)[t]? = if t < i ∨ ops.length - i ≤ t then ops[ops.length - 1 - t]? else ops[t]? := by
  unfold half
  by_cases h1 : t < i
  · rw [if_pos (Or.inl h1), List.getElem?_append_left (by rw [List.length_take, List.length_reverse]; omega), List.getElem?_take, if_pos h1, List.getElem?_reverse (by omega)]
  · rw [List.getElem?_append_right (by rw [List.length_take, List.length_reverse]; omega)]
    have e1 : (ops.reverse.take i).length = i := by rw [List.length_take, List.length_reverse]; omega
    rw [e1]
    by_cases h2 : ops.length - i ≤ t
    · rw [if_pos (Or.inr h2), List.getElem?_append_right (by simp only [List.length_take, List.length_drop]; omega)]
      have e2 : ((ops.drop i).take (ops.length - 2 * i)).length = ops.length - 2 * i := by simp only [List.length_take, List.length_drop]; omega
      rw [e2, List.getElem?_drop, show ops.length - i + (t - i - (ops.length - 2 * i)) = t by omega, List.getElem?_reverse (by omega)]
    · rw [if_neg (by omega), List.getElem?_append_left (by simp only [List.length_take, List.length_drop]; omega), List.getElem?_take, if_pos (by omega), List.getElem?_drop, show i + (t - i) = t by omega]
theorem half_done {ops : List Gop} {i : Nat} (h : 2 * i ≤ ops.length) (h2 : ops.length ≤ 2 * i + 1) : half ops i = ops.reverse := by
  apply List.ext_getElem?
  intro t
  by_cases ht : t < ops.length
  · rw [half_get h ht, List.getElem?_reverse ht]
    split
    · rfl
    · congr 1; omega
  · rw [List.getElem?_eq_none (by rw [half_len h]; omega), List.getElem?_eq_none (by rw [List.length_reverse]; omega)]
theorem half_zero (ops : List Gop) : half ops 0 = ops := by
  unfold half
  simp

end Go.Proofs.YtfjnlopbmkimiaaGreatDoor
namespace Go.Proofs.YtfjnlopbmkimiaaGreatDoor
open Go.RowKit

/-- The six cells of an operation. -/
def opF (g : Gop) (a1 : Option Addr) (n1 c1 : Nat) (a2 : Option Addr) (n2 c2 : Nat) : Nat → Value
  | 0 => .int .i64 g.kind
  | 1 => .int .i64 g.k
  | 2 => .slice a1 n1 c1
  | 3 => .int .i64 g.q
  | 4 => .int .i64 g.bit
  | _ => .slice a2 n2 c2
def putAt (W : World) (g p : Nat) (f : Nat → Value) : World :=
  (((((W.setCell ⟨g, p, none⟩ (f 0)).setCell ⟨g, p + 1, none⟩ (f 1)).setCell ⟨g, p + 2, none⟩ (f 2)).setCell ⟨g, p + 3, none⟩ (f 3)).setCell ⟨g, p + 4, none⟩ (f 4)).setCell ⟨g, p + 5, none⟩ (f 5)
theorem putAt_row {W : World} {g p : Nat} {cs : Array Value} {t : TypeId} (f : Nat → Value) (h : W.heap[g]? = some (.cells cs t (0, 0))) : (putAt W g p f).heap[g]? = some (.cells (set6 cs p f) t (0, 0)) :=
  row_put (row_put (row_put (row_put (row_put (row_put h rfl) rfl) rfl) rfl) rfl) rfl
theorem putAt_only (W : World) (g p : Nat) (f : Nat → Value) : Only g W (putAt W g p f) := ((((((Only.refl _ _).setCell _ _).setCell _ _).setCell _ _).setCell _ _).setCell _ _).setCell _ _
theorem putAt_size (W : World) (g p : Nat) (f : Nat → Value) : (putAt W g p f).heap.size = W.heap.size := by simp [putAt]
/-- All but the row's own block is as it was. -/
structure Rvs (v : Value) (w w' : World) : Prop where
  os : w'.os = w.os
  tape : w'.tape = w.tape
  output : w'.output = w.output
  size : w'.heap.size = w.heap.size
  block : ∀ k, v.ownBlock ≠ some k → w'.heap[k]? = w.heap[k]?
theorem Rvs.refl (v : Value) (w : World) : Rvs v w w := ⟨rfl, rfl, rfl, rfl, fun _ _ => rfl⟩
theorem Rvs.of_only {g n c : Nat} {w w' : World} (h : Only g w w') : Rvs (.slice (some ⟨g, 0, none⟩) n c) w w' := ⟨h.os, h.tape, h.output, h.size, fun k hk => h.block k (fun e => hk (by rw [e]; rfl))⟩
theorem Rvs.ext {v : Value} {w0 w w' : World} (h : Rvs v w w') (k : Ext w0 w) (hv : ∀ i, v.ownBlock = some i → w0.heap.size ≤ i) : Ext w0 w' :=
  Below.trans k ⟨h.os, h.tape, h.output, Nat.le_of_eq h.size.symm, fun i hi => h.block i (fun e => by have := hv i e; omega)⟩
theorem CiB.rvs {v : Value} {w w' : World} {g : Nat} {qb bi : Int} {ao : Option Addr} {n cp : Nat} (h : CiB w g qb bi ao n cp) (k : Rvs v w w') (hv : v.ownBlock ≠ some g) : CiB w' g qb bi ao n cp := ⟨(k.block g hv).trans h.row⟩
theorem FtB.rvs {v : Value} {w w' : World} {g : Nat} {x y : Int} (h : FtB w g x y) (k : Rvs v w w') (hv : v.ownBlock ≠ some g) : FtB w' g x y := ⟨(k.block g hv).trans h.row⟩
theorem Only.drewn {g : Nat} {w w' : World} (h : Only g w w') : Only g w w'.drew := ⟨h.os, h.tape, h.output, h.size, h.block⟩
end Go.Proofs.YtfjnlopbmkimiaaGreatDoor
namespace Go.Proofs.YtfjnlopbmkimiaaGreatDoor
open Go.RowKit

theorem FtB.put {W : World} {g : Nat} {u v : Int} (h : FtB W g u v) (a b : Int) : FtB ((W.setCell ⟨g, 0, none⟩ (.int .i64 a)).setCell ⟨g, 1, none⟩ (.int .i64 b)) g a b := ⟨row_put (row_put h.row rfl) rfl⟩

/-- A circuit into one variable, a fault into another. -/
def putCF (W : World) (g gf : Nat) (q b : Int) (a : Option Addr) (n c : Nat) (u v : Int) : World :=
  ((((W.setCell ⟨g, 0, none⟩ (.int .i64 q)).setCell ⟨g, 1, none⟩ (.int .i64 b)).setCell ⟨g, 2, none⟩ (.slice a n c)).setCell ⟨gf, 0, none⟩ (.int .i64 u)).setCell ⟨gf, 1, none⟩ (.int .i64 v)
theorem putCF_C {W : World} {g gf : Nat} {q0 b0 : Int} {a0 : Option Addr} {n0 c0 : Nat} (h : CiB W g q0 b0 a0 n0 c0) (hne : g ≠ gf) (q b : Int) (a : Option Addr) (n c : Nat) (u v : Int) : CiB (putCF W g gf q b a n c u v) g q b a n c :=
  ⟨row_far (row_far (((h.set0 q).set1 b).set2 a n c).row (by omega)) (by omega)⟩
theorem putCF_F {W : World} {g gf : Nat} {u0 v0 : Int} (h : FtB W gf u0 v0) (hne : g ≠ gf) (q b : Int) (a : Option Addr) (n c : Nat) (u v : Int) : FtB (putCF W g gf q b a n c u v) gf u v :=
  ⟨row_put (row_put (row_far (row_far (row_far h.row (by omega)) (by omega)) (by omega)) rfl) rfl⟩
theorem putCF_ext {w W : World} {g gf : Nat} (h : Ext w W) (hg : w.heap.size ≤ g) (hf : w.heap.size ≤ gf) (q b : Int) (a : Option Addr) (n c : Nat) (u v : Int) : Ext w (putCF W g gf q b a n c u v) :=
  cput (o := 1) (cput (o := 0) (cput (o := 2) (cput (o := 1) (cput (o := 0) h hg _) hg _) hg _) hf _) hf _
theorem CiB.drew {W : World} {g : Nat} {qb bi : Int} {ao : Option Addr} {n cp : Nat} (h : CiB W g qb bi ao n cp) : CiB W.drew g qb bi ao n cp := ⟨h.row⟩
theorem FtB.drew {W : World} {g : Nat} {u v : Int} (h : FtB W g u v) : FtB W.drew g u v := ⟨h.row⟩

end Go.Proofs.YtfjnlopbmkimiaaGreatDoor
namespace Go.Proofs.YtfjnlopbmkimiaaGreatDoor
open Go.RowKit

def opp (k : Int) : Int := (16 - k).tmod 16
/-- An operation undone. -/
def undoO (g : Gop) : Gop := { g with k := opp g.k }
/-- Operations undone. -/
def invO (ops : List Gop) : List Gop := ops.reverse.map undoO
/-- The first i of them undone, in place. -/
def invF (ops : List Gop) (i : Nat) : List Gop := (ops.take i).map undoO ++ ops.drop i
theorem invF_len (ops : List Gop) (i : Nat) : (invF ops i).length = ops.length := by
  unfold invF
  simp only [List.length_append, List.length_map, List.length_take, List.length_drop]
  omega
theorem invF_get {ops : List Gop} {i t : Nat} (ht : t < ops.length) : (invF ops i)[t]? = if t < i then ops[t]?.map undoO else ops[t]? := by
  unfold invF
  by_cases h : t < i
  · rw [if_pos h, List.getElem?_append_left (by rw [List.length_map, List.length_take]; omega), List.getElem?_map, List.getElem?_take, if_pos h]
  · rw [if_neg h, List.getElem?_append_right (by rw [List.length_map, List.length_take]; omega), List.length_map, List.length_take, List.getElem?_drop]
    congr 1; omega
theorem invF_zero (ops : List Gop) : invF ops 0 = ops := by simp [invF]
theorem invF_all {ops : List Gop} {i : Nat} (h : ops.length ≤ i) : invF ops i = ops.map undoO := by
  unfold invF
  rw [List.take_of_length_le h, List.drop_eq_nil_of_le h, List.append_nil]
theorem pur_zero {c : Gci} (h : (pur c).1 = 0) : (chk c).1 = 0 ∧ pur c = (0, 0) := by
  have key : ∀ (l : List Gop) (i : Nat), (purF i l).1 = 0 → purF i l = (0, 0) := by
    intro l
    induction l with
    | nil => intro i _; rfl
    | cons o r ih =>
      intro i h
      rw [purF] at h ⊢
      by_cases hc : 5 ≤ o.kind ∨ 0 < o.cnd.length
      · rw [if_pos hc] at h; exact absurd h (show ¬ (15 : Int) = 0 by decide)
      · rw [if_neg hc] at h ⊢; exact ih _ h
  unfold pur at h ⊢
  by_cases hc : (chk c).1 ≠ 0
  · rw [if_pos hc] at h; exact absurd h hc
  · rw [if_neg hc] at h ⊢; exact ⟨by omega, key _ _ h⟩

theorem opposite_any (k : Int) (w : World) (h0 : 0 ≤ k) (h1 : k ≤ 16) : Calls Tryz.prog 42 #[.int .i64 k] w fun e w' => e = .returned (.int .i64 (opp k)) ∧ w' = w := by
  obtain ⟨r, hr⟩ : ∃ r, opp k = r := ⟨_, rfl⟩
  rw [hr]
  unfold opp at hr
  obtain ⟨d, hd⟩ : ∃ d, 16 - k = d := ⟨_, rfl⟩
  rw [hd] at hr
  have w1 : IntKind.i64.wrap (16 - k) = d := by rw [IntKind.wrap_i64]; omega
  have hdr : d.tmod 16 = r := hr
  have w2 : IntKind.i64.wrap (d.tmod 16) = r := by
    rw [hdr, IntKind.wrap_i64]
    have : 0 ≤ r ∧ r < 16 := by rw [← hr]; exact ⟨Int.tmod_nonneg _ (by omega), Int.tmod_lt_of_pos _ (by omega)⟩
    omega
  clear hr hd
  go_enter Tryz.func42, Tryz.ntmps42
  go_wp2_with fail
  go_ret
  exact ⟨rfl, rfl⟩

theorem stepK_storeN {ops : Array Oper} {o : Oper} {a : Act} {K : Act → World → Prop} {Q : Exit → Act → World → Prop} {E : Prop} {w : World} (hgd : o.guard = none) (hd : o.dst = none) (p x : Operand)
    (ho : o.op = .store 3 p x) (b off : Nat) (z : Int) (u : Value) (hp : a.eval p = .pointer (some ⟨b, off, none⟩)) (hx : a.eval x = .int .i64 z)
    (hcell : w.cell? ⟨b, off, none⟩ = some u) (hfz : w.frozen? ⟨b, off, none⟩ = false) (h : K a (w.setCell ⟨b, off, none⟩ (.int .i64 z))) :
    if Region.wanted o (yielded ops a.tmps) = true then Oper.wp Tryz.prog o a w K Q else E := by
  have hw : Region.wanted o (yielded ops a.tmps) = true := by simp [Region.wanted, hgd]
  rw [if_pos hw]
  obtain ⟨od, oo, ot, opp, oa, og⟩ := o
  simp only at ho hd
  subst ho hd
  have HH := Lib.hid h
  clear h
  unfold Oper.wp execOp
  simp only [hp, hx]
  go_simp
  exact HH.out

end Go.Proofs.YtfjnlopbmkimiaaGreatDoor
namespace Go.Proofs.YtfjnlopbmkimiaaGreatDoor
open Go.RowKit

theorem opk_range {g : Gop} {n b : Int} (h : opCode g n b = 0) : 0 ≤ g.k ∧ g.k ≤ 15 := by
  unfold opCode at h
  split at h
  · omega
  · split at h
    · omega
    · next hk =>
      unfold fitsB at hk
      split at hk
      · unfold below at hk
        simp at hk
        omega
      · simp at hk
        omega

end Go.Proofs.YtfjnlopbmkimiaaGreatDoor
namespace Go.Proofs.YtfjnlopbmkimiaaGreatDoor
open Go.RowKit

set_option maxHeartbeats 4000000 in
set_option maxRecDepth 100000 in
theorem Inverse_no (c : Gci) (ao : Option Addr) (n cp : Nat) (w : World) (h : OpsAt w ao n c.ops) (hn : n ≤ cp) (hcp : cp ≤ 9223372036854775807) (hS : Shp w) (hc : (pur c).1 ≠ 0) :
    Calls Tryz.prog 16 #[.agg #[.int .i64 c.qubits, .int .i64 c.bits, .slice ao n cp]] w fun e w' => e = .returned (.tuple #[.agg #[.int .i64 0, .int .i64 0, .slice none 0 0], .agg #[.int .i64 (pur c).1, .int .i64 (pur c).2]]) ∧ Ext w w' := by
  obtain ⟨qb, bi, ops⟩ := c
  obtain ⟨F, hF⟩ : ∃ F, pur ⟨qb, bi, ops⟩ = F := ⟨_, rfl⟩
  obtain ⟨u, v⟩ := F
  rw [hF] at hc ⊢
  simp only at hc ⊢
  obtain ⟨H, hH⟩ : ∃ H, w.heap.size = H := ⟨_, rfl⟩
  obtain ⟨A1, hA1⟩ : ∃ A1, w.alloc (.cells #[.int .i64 qb, .int .i64 bi, .slice ao n cp] 24) = A1 := ⟨_, rfl⟩
  obtain ⟨A2, hA2⟩ : ∃ A2, A1.alloc (.cells #[.int .i64 0, .int .i64 0, .slice none 0 0] 24) = A2 := ⟨_, rfl⟩
  obtain ⟨A3, hA3⟩ : ∃ A3, A2.alloc (.cells #[.int .i64 0, .int .i64 0] 31) = A3 := ⟨_, rfl⟩
  have s1 : A1.heap.size = H + 1 := by rw [← hA1, ← hH]; simp
  have s2 : A2.heap.size = H + 2 := by rw [← hA2]; simp; omega
  have x1 : Ext w A1 := by rw [← hA1]; exact ext_al _ _
  have x2 : Ext A1 A2 := by rw [← hA2]; exact ext_al _ _
  have x3 : Ext A2 A3 := by rw [← hA3]; exact ext_al _ _
  have bC : CiB A3 H qb bi ao n cp := by
    have : CiB A1 H qb bi ao n cp := by rw [← hA1, ← hH]; exact ⟨heap_alloc_new w _⟩
    exact (this.ext x2).ext x3
  have bR : CiB A3 (H + 1) 0 0 none 0 0 := by
    have : CiB A2 (H + 1) 0 0 none 0 0 := by rw [← hA2, ← s1]; exact ⟨heap_alloc_new A1 _⟩
    exact this.ext x3
  have bF : FtB A3 (H + 2) 0 0 := by rw [← hA3, ← s2]; exact ⟨heap_alloc_new A2 _⟩
  have E0 : Ext w A3 := (x1.trans x2).trans x3
  have hA : ((w.alloc (.cells #[.int .i64 qb, .int .i64 bi, .slice ao n cp] 24)).alloc (.cells #[.int .i64 0, .int .i64 0, .slice none 0 0] 24)).alloc (.cells #[.int .i64 0, .int .i64 0] 31) = A3 := by rw [hA1, hA2, hA3]
  have HK := Lib.hid (Pure_any ⟨qb, bi, ops⟩ ao n cp A3 (h.ext E0) hn hcp (hS.ext E0))
  rw [hF] at HK
  subst hH
  simp only at HK ⊢
  have m0 := bC.x0; have m1 := bC.x1; have m2 := bC.x2
  rw [← hA] at m0 m1 m2
  have HA := Lib.hid hA; have HE0 := Lib.hid E0; have HR := Lib.hid bR; have HFt := Lib.hid bF
  have nu := nt hc; have nb := bf hc
  clear h hS hF E0 bC bR bF x1 x2 x3 s1 s2 hA1 hA2 hA3 hA
  go_enter Tryz.func16, Tryz.ntmps16
  go_wp2_with fail
  rw [HA.out]
  refine HK.out.mono ?_
  rintro e w1 ⟨rfl, hx1⟩
  have Ef := ext_al w1 (.cells #[.int .i64 u, .int .i64 v] 31)
  have bf1 : FtB (w1.alloc (.cells #[.int .i64 u, .int .i64 v] 31)) w1.heap.size u v := ⟨heap_alloc_new w1 _⟩
  have q0 := bf1.x0; have q1 := bf1.x1
  have hX := hx1.trans Ef
  have bR1 := HR.out.ext hX; have bF1 := HFt.out.ext hX
  have HEz := Lib.hid (HE0.out.trans hX)
  have hsz1 := hX.size; have hA3 := HFt.out.lt
  have r0 := bR1.x0; have r1 := bR1.x1; have r2 := bR1.x2; have g0 := bR1.f 0; have g1 := bR1.f 1; have g2 := bR1.f 2
  have f0 := bF1.x0; have f1 := bF1.x1; have k0 := bF1.f 0; have k1 := bF1.f 1
  have HbR1 := Lib.hid bR1; have HbF1 := Lib.hid bF1
  have hgt : w.heap.size + 1 + 1 < w1.heap.size := Nat.lt_of_lt_of_le hA3 hx1.size
  have hgt1 : w1.heap.size ≠ w.heap.size + 1 := by omega
  have hgt2 : w1.heap.size ≠ w.heap.size + 1 + 1 := by omega
  have zC := (putCF_C HbR1.out (show w.heap.size + 1 ≠ w.heap.size + 1 + 1 by omega) 0 0 none 0 0 u v).drew
  have zF := (putCF_F HbF1.out (show w.heap.size + 1 ≠ w.heap.size + 1 + 1 by omega) 0 0 none 0 0 u v).drew
  have zE : Ext w (putCF (w1.alloc (.cells #[.int .i64 u, .int .i64 v] 31)) (w.heap.size + 1) (w.heap.size + 1 + 1) 0 0 none 0 0 u v).drew := Below.drew (putCF_ext HEz.out (by omega) (by omega) _ _ _ _ _ _ _)
  obtain ⟨Wz, hWz⟩ : ∃ Wz, putCF (w1.alloc (.cells #[.int .i64 u, .int .i64 v] 31)) (w.heap.size + 1) (w.heap.size + 1 + 1) 0 0 none 0 0 u v = Wz := ⟨_, rfl⟩
  rw [hWz] at zC zF zE
  unfold putCF at hWz
  have HWz := Lib.hid hWz; have HzE := Lib.hid zE
  have z0 := zC.x0; have z1 := zC.x1; have z2 := zC.x2; have z3 := zF.x0; have z4 := zF.x1
  clear m0 m1 m2 hx1 Ef bf1 HK hX bR1 bF1 hWz zE zC zF
  clear hsz1 hA3 hgt
  go_upto_region 3 with fail
  go_region
  go_wp2_with fail
  rw [HWz.out]
  exact bodyPost_ret (v := .tuple #[.agg #[.int .i64 0, .int .i64 0, .slice none 0 0], .agg #[.int .i64 u, .int .i64 v]]) (by simp [results, Tryz.results16, go_sem, z0, z1, z2, z3, z4]) rfl ⟨rfl, HzE.out⟩

end Go.Proofs.YtfjnlopbmkimiaaGreatDoor
namespace Go.Proofs.YtfjnlopbmkimiaaGreatDoor
open Go.RowKit

/-- Operations in a row of the call's own; their lists lie in an older world. -/
def OpsL (w0 w : World) (base : Nat) (v : Value) (ops : List Gop) : Prop :=
  ∃ xs : List Value, w.ownsRow base 60 6 v ops.length xs ∧ ∀ t g, ops[t]? = some g → ∃ (a1 : Option Addr) (n1 c1 : Nat) (a2 : Option Addr) (n2 c2 : Nat),
    xs[t * 6]? = some (.int .i64 g.kind) ∧ xs[t * 6 + 1]? = some (.int .i64 g.k) ∧ xs[t * 6 + 2]? = some (.slice a1 n1 c1) ∧ xs[t * 6 + 3]? = some (.int .i64 g.q) ∧ xs[t * 6 + 4]? = some (.int .i64 g.bit) ∧ xs[t * 6 + 5]? = some (.slice a2 n2 c2) ∧ OpL w0 g a1 n1 c1 a2 n2 c2
theorem OpsL.at {w0 w : World} {base : Nat} {v : Value} {ops : List Gop} (h : OpsL w0 w base v ops) (hE : Ext w0 w) : ∃ (a : Option Addr) (c : Nat), v = .slice a ops.length c ∧ ops.length ≤ c ∧ c ≤ maxLen ∧ OpsAt w a ops.length ops := by
  obtain ⟨xs, h1, h2⟩ := h
  rcases h1.2 with ⟨rfl, h0⟩ | ⟨g, cap, cur, hv, hb, hg, hn, hcm, _, htk⟩
  · rw [h0]
    exact ⟨none, 0, rfl, Nat.le_refl _, Nat.zero_le _, h0, Or.inl rfl⟩
  · refine ⟨some ⟨g, 0, none⟩, cap, hv, hn, hcm, rfl, Or.inr ⟨g, 0, rfl, (Array.getElem?_eq_some_iff.1 hg).1, fun t gg hgg => ?_⟩⟩
    obtain ⟨a1, n1, c1, a2, n2, c2, e0, e1, e2, e3, e4, e5, e6⟩ := h2 t gg hgg
    have ht := (List.getElem?_eq_some_iff.1 hgg).1
    have hc : ∀ j, j < ops.length * 6 → w.cell? ⟨g, 0 + j, none⟩ = xs[j]? := by
      intro j hj
      rw [Nat.zero_add, cell_of_row w g j cur _ (0, 0) hg, ← Array.getElem?_toList, ← htk, List.getElem?_take, if_pos hj]
    exact ⟨a1, n1, c1, a2, n2, c2, by rw [hc _ (by omega)]; exact e0, by rw [Nat.add_assoc, hc _ (by omega)]; exact e1, by rw [Nat.add_assoc, hc _ (by omega)]; exact e2, by rw [Nat.add_assoc, hc _ (by omega)]; exact e3, by rw [Nat.add_assoc, hc _ (by omega)]; exact e4, by rw [Nat.add_assoc, hc _ (by omega)]; exact e5, e6.ext hE⟩
/-- The cells of operations that lie somewhere. -/
theorem opsAt_cells {w : World} {b o n : Nat} {ops : List Gop} (h : OpsAt w (some ⟨b, o, none⟩) n ops) : ∃ ys : List Value, ys.length = n * 6 ∧ (∀ j u, ys[j]? = some u → w.cell? ((⟨b, o, none⟩ : Addr).add j) = some u) ∧ (∀ u ∈ ys, u.oneCell' = true) ∧
    ∀ t g, ops[t]? = some g → ∃ (a1 : Option Addr) (n1 c1 : Nat) (a2 : Option Addr) (n2 c2 : Nat), ys[t * 6]? = some (.int .i64 g.kind) ∧ ys[t * 6 + 1]? = some (.int .i64 g.k) ∧ ys[t * 6 + 2]? = some (.slice a1 n1 c1) ∧ ys[t * 6 + 3]? = some (.int .i64 g.q) ∧ ys[t * 6 + 4]? = some (.int .i64 g.bit) ∧ ys[t * 6 + 5]? = some (.slice a2 n2 c2) ∧ OpL w g a1 n1 c1 a2 n2 c2 := by
  have hl := h.1
  have hex : ∀ t, t < n → ∃ f : Nat → Value, (∀ k, k < 6 → w.cell? ⟨b, o + t * 6 + k, none⟩ = some (f k) ∧ (f k).oneCell' = true) ∧ ∃ g, ops[t]? = some g ∧ ∃ (a1 : Option Addr) (n1 c1 : Nat) (a2 : Option Addr) (n2 c2 : Nat), f 0 = .int .i64 g.kind ∧ f 1 = .int .i64 g.k ∧ f 2 = .slice a1 n1 c1 ∧ f 3 = .int .i64 g.q ∧ f 4 = .int .i64 g.bit ∧ f 5 = .slice a2 n2 c2 ∧ OpL w g a1 n1 c1 a2 n2 c2 := by
    intro t ht
    have hgt : ops[t]? = some ops[t] := List.getElem?_eq_getElem (by omega)
    obtain ⟨a1, n1, c1, a2, n2, c2, e0, e1, e2, e3, e4, e5, e6⟩ := h.at t _ hgt
    refine ⟨opF ops[t] a1 n1 c1 a2 n2 c2, fun k hk => ?_, ops[t], hgt, a1, n1, c1, a2, n2, c2, rfl, rfl, rfl, rfl, rfl, rfl, e6⟩
    have : k = 0 ∨ k = 1 ∨ k = 2 ∨ k = 3 ∨ k = 4 ∨ k = 5 := by omega
    rcases this with rfl | rfl | rfl | rfl | rfl | rfl
    · exact ⟨e0, rfl⟩
    · exact ⟨e1, rfl⟩
    · exact ⟨e2, rfl⟩
    · exact ⟨e3, rfl⟩
    · exact ⟨e4, rfl⟩
    · exact ⟨e5, rfl⟩
  obtain ⟨F, hF⟩ := Classical.axiomOfChoice (fun t : Fin n => hex t.1 t.2)
  refine ⟨(List.range (n * 6)).map (fun j => if hj : j / 6 < n then F ⟨j / 6, hj⟩ (j % 6) else .bool false), by simp, ?_, ?_, ?_⟩
  · intro j u hu
    rw [List.getElem?_map] at hu
    obtain ⟨x, hx, rfl⟩ := Option.map_eq_some_iff.1 hu
    have hj : j < n * 6 := by have := (List.getElem?_eq_some_iff.1 hx).1; simpa using this
    obtain rfl : x = j := by have := (List.getElem?_eq_some_iff.1 hx).2; simpa using this.symm
    rw [dif_pos (by omega)]
    have := ((hF ⟨x / 6, by omega⟩).1 (x % 6) (by omega)).1
    have hadd : (⟨b, o, none⟩ : Addr).add x = ⟨b, o + x, none⟩ := by unfold Addr.add; split <;> simp_all
    rw [hadd, show o + x = o + x / 6 * 6 + x % 6 by omega]
    exact this
  · intro u hu
    obtain ⟨x, hx, rfl⟩ := List.mem_map.1 hu
    have hj : x < n * 6 := by simpa using hx
    rw [dif_pos (by omega)]
    exact ((hF ⟨x / 6, by omega⟩).1 (x % 6) (by omega)).2
  · intro t g hg
    have ht : t < n := by have := (List.getElem?_eq_some_iff.1 hg).1; omega
    obtain ⟨_, g', hg', a1, n1, c1, a2, n2, c2, f0, f1, f2, f3, f4, f5, f6⟩ := hF ⟨t, ht⟩
    simp only at hg'
    rw [hg] at hg'
    injection hg' with hg'
    subst hg'
    have key : ∀ k, k < 6 → ((List.range (n * 6)).map (fun j => if hj : j / 6 < n then F ⟨j / 6, hj⟩ (j % 6) else .bool false))[t * 6 + k]? = some (F ⟨t, ht⟩ k) := by
      intro k hk
      rw [List.getElem?_map, List.getElem?_range (by omega)]
      simp only [Option.map_some]
      rw [dif_pos (by omega)]
      have e1 : (t * 6 + k) / 6 = t := by omega
      have e2 : (t * 6 + k) % 6 = k := by omega
      simp only [e1, e2]
    exact ⟨a1, n1, c1, a2, n2, c2, by rw [show t * 6 = t * 6 + 0 from rfl, key 0 (by omega), f0], by rw [key 1 (by omega), f1], by rw [key 2 (by omega), f2], by rw [key 3 (by omega), f3], by rw [key 4 (by omega), f4], by rw [key 5 (by omega), f5], f6⟩
theorem OpsL.app {w0 w' : World} {base : Nat} {v' : Value} {ops news : List Gop} {xs ys : List Value} (hx : xs.length = ops.length * 6)
    (h1 : w'.ownsRow base 60 6 v' (ops.length + news.length) (xs ++ ys))
    (h2 : ∀ t g, ops[t]? = some g → ∃ (a1 : Option Addr) (n1 c1 : Nat) (a2 : Option Addr) (n2 c2 : Nat), xs[t * 6]? = some (.int .i64 g.kind) ∧ xs[t * 6 + 1]? = some (.int .i64 g.k) ∧ xs[t * 6 + 2]? = some (.slice a1 n1 c1) ∧ xs[t * 6 + 3]? = some (.int .i64 g.q) ∧ xs[t * 6 + 4]? = some (.int .i64 g.bit) ∧ xs[t * 6 + 5]? = some (.slice a2 n2 c2) ∧ OpL w0 g a1 n1 c1 a2 n2 c2)
    (h3 : ∀ t g, news[t]? = some g → ∃ (a1 : Option Addr) (n1 c1 : Nat) (a2 : Option Addr) (n2 c2 : Nat), ys[t * 6]? = some (.int .i64 g.kind) ∧ ys[t * 6 + 1]? = some (.int .i64 g.k) ∧ ys[t * 6 + 2]? = some (.slice a1 n1 c1) ∧ ys[t * 6 + 3]? = some (.int .i64 g.q) ∧ ys[t * 6 + 4]? = some (.int .i64 g.bit) ∧ ys[t * 6 + 5]? = some (.slice a2 n2 c2) ∧ OpL w0 g a1 n1 c1 a2 n2 c2) :
    OpsL w0 w' base v' (ops ++ news) := by
  refine ⟨xs ++ ys, by rw [List.length_append]; exact h1, fun t g hg => ?_⟩
  by_cases ht : t < ops.length
  · rw [List.getElem?_append_left ht] at hg
    obtain ⟨a1, n1, c1, a2, n2, c2, e0, e1, e2, e3, e4, e5, e6⟩ := h2 t g hg
    have hr : ∀ j, j < 6 → (xs ++ ys)[t * 6 + j]? = xs[t * 6 + j]? := fun j hj => List.getElem?_append_left (by omega)
    exact ⟨a1, n1, c1, a2, n2, c2, (hr 0 (by omega)).trans e0, (hr 1 (by omega)).trans e1, (hr 2 (by omega)).trans e2, (hr 3 (by omega)).trans e3, (hr 4 (by omega)).trans e4, (hr 5 (by omega)).trans e5, e6⟩
  · rw [List.getElem?_append_right (by omega)] at hg
    obtain ⟨a1, n1, c1, a2, n2, c2, e0, e1, e2, e3, e4, e5, e6⟩ := h3 (t - ops.length) g hg
    have hr : ∀ j, (xs ++ ys)[t * 6 + j]? = ys[(t - ops.length) * 6 + j]? := fun j => by
      rw [List.getElem?_append_right (by omega), hx]
      congr 1; omega
    exact ⟨a1, n1, c1, a2, n2, c2, (hr 0).trans e0, (hr 1).trans e1, (hr 2).trans e2, (hr 3).trans e3, (hr 4).trans e4, (hr 5).trans e5, e6⟩

end Go.Proofs.YtfjnlopbmkimiaaGreatDoor
namespace Go.Proofs.YtfjnlopbmkimiaaGreatDoor
open Go.RowKit

theorem opp_range {k : Int} (h : 0 ≤ k ∧ k ≤ 15) : 0 ≤ opp k ∧ opp k ≤ 15 := by
  unfold opp
  have h1 := Int.tmod_nonneg 16 (show 0 ≤ 16 - k by omega)
  have h2 := Int.tmod_lt_of_pos (16 - k) (show (0 : Int) < 16 by omega)
  omega
theorem opp_eq {k : Int} (h : 0 ≤ k ∧ k ≤ 15) : opp k = if k = 0 then 0 else 16 - k := by
  unfold opp
  rw [Int.tmod_eq_emod_of_nonneg (by omega)]
  split <;> omega
theorem undo_code {g : Gop} {n b : Int} (h : opCode g n b = 0) : opCode (undoO g) n b = 0 := by
  have hk := opk_range h
  obtain ⟨kd, k, ctl, q, bt, cnd⟩ := g
  simp only at hk
  unfold undoO
  simp only
  unfold opCode at h ⊢
  simp only at h ⊢
  by_cases h1 : kd < 1 ∨ 6 < kd
  · rw [if_pos h1] at h; omega
  rw [if_neg h1] at h ⊢
  by_cases h2 : fitsB k 16 (usesK kd) = false
  · rw [if_pos h2] at h; omega
  rw [if_neg h2] at h
  have h2' : ¬ fitsB (opp k) 16 (usesK kd) = false := by
    have hr := opp_range hk
    unfold fitsB at h2 ⊢
    by_cases hu : usesK kd = true
    · rw [if_pos hu]
      unfold below
      simp
      omega
    · rw [if_neg hu] at h2 ⊢
      have : k = 0 := by simpa using h2
      rw [this]
      decide
  rw [if_neg h2']
  exact h
/-- A circuit of gates alone. -/
structure Pur (qb bi : Int) (ops : List Gop) : Prop where
  q : 1 ≤ qb ∧ qb ≤ 12
  b : 0 ≤ bi ∧ bi ≤ 12
  l : ops.length ≤ 4096
  o : ∀ g ∈ ops, opCode g qb bi = 0 ∧ g.kind < 5 ∧ g.cnd.length = 0
theorem purF_of {l : List Gop} : ∀ i, (∀ g ∈ l, g.kind < 5 ∧ g.cnd.length = 0) → purF i l = (0, 0) := by
  induction l with
  | nil => intro i _; rfl
  | cons o r ih =>
    intro i h
    have := h o (by simp)
    rw [purF, if_neg (by omega)]
    exact ih _ (fun g hg => h g (by simp [hg]))
theorem purF_to {l : List Gop} : ∀ i, (purF i l).1 = 0 → ∀ g ∈ l, g.kind < 5 ∧ g.cnd.length = 0 := by
  induction l with
  | nil => intro i _ g hg; simp at hg
  | cons o r ih =>
    intro i h g hg
    rw [purF] at h
    by_cases hc : 5 ≤ o.kind ∨ 0 < o.cnd.length
    · rw [if_pos hc] at h; exact absurd h (show ¬ (15 : Int) = 0 by decide)
    · rw [if_neg hc] at h
      rcases List.mem_cons.1 hg with rfl | hg
      · omega
      · exact ih _ h g hg
theorem opsCode_of {n b : Int} {l : List Gop} : ∀ i, (∀ g ∈ l, opCode g n b = 0) → opsCode n b i l = (0, 0) := by
  induction l with
  | nil => intro i _; rfl
  | cons o r ih =>
    intro i h
    rw [opsCode, if_neg (by rw [h o (by simp)]; simp)]
    exact ih _ (fun g hg => h g (by simp [hg]))
theorem pur_iff {qb bi : Int} {ops : List Gop} : (pur ⟨qb, bi, ops⟩).1 = 0 ↔ Pur qb bi ops := by
  constructor
  · intro h
    obtain ⟨hck, hpz⟩ := pur_zero h
    obtain ⟨hz, hq1, hq2, hb1, hb2, hl4, hop⟩ := chk_zero hck
    unfold pur at h
    rw [if_neg (by omega)] at h
    exact ⟨⟨hq1, hq2⟩, ⟨hb1, hb2⟩, hl4, fun g hg => ⟨hop g hg, purF_to 0 h g hg⟩⟩
  · intro h
    have hc : chk ⟨qb, bi, ops⟩ = (0, 0) := by
      unfold chk
      have := h.q; have := h.b; have := h.l
      rw [if_neg (by simp only; omega), if_neg (by simp only; omega), if_neg (by simp only; omega)]
      exact opsCode_of 0 (fun g hg => (h.o g hg).1)
    unfold pur
    rw [if_neg (by rw [hc]; simp), purF_of 0 (fun g hg => (h.o g hg).2)]
theorem Pur.inv {qb bi : Int} {ops : List Gop} (h : Pur qb bi ops) : Pur qb bi (invO ops) := by
  refine ⟨h.q, h.b, by unfold invO; rw [List.length_map, List.length_reverse]; exact h.l, fun g hg => ?_⟩
  unfold invO at hg
  obtain ⟨g', hg', rfl⟩ := List.mem_map.1 hg
  obtain ⟨h1, h2, h3⟩ := h.o g' (List.mem_reverse.1 hg')
  exact ⟨undo_code h1, h2, h3⟩
end Go.Proofs.YtfjnlopbmkimiaaGreatDoor
