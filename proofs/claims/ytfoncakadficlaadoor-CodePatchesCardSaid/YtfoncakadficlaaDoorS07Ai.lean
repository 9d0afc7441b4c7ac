/-
  Patches in plain lists; the program's isSide and the closure that adds a generator. The program's Patch. The program: a code's distance. CodePatches' walk. The distances of small patches. CodePatches' walk where there is such a patch: what is wanted, text by text. The table of kinds, as it is laid; what is asked behind a call that leaves all that lay there as it was. A code that was handed in, opened: its generators as they lie in memory; the table of letters, as it is laid.
-/
import Derived.Test.YtfoncakadficlaaDoorProg
import Derived.Test.YtfoncakadficlaaDoorRows
import Derived.BigQuiet
import Derived.Carry
import Derived.ChangeSame
import Derived.Deep.AppendLies
import Derived.Deep.Cut
import Derived.Deep.CutRange
import Derived.Deep.LoopGhost
import Derived.Deep.QuietTactic
import Derived.Deep.RegionHeld3
import Derived.Deep.Slices
import Derived.DeepKeys4
import Derived.FnData
import Derived.Laws.Bits64b
import Derived.Laws.CopyOwn
import Derived.Laws.ResultCell
import Derived.Lib.AppendStr
import Derived.Lib.BitFns
import Derived.Lib.Hide
import Derived.Lib.ItoaMem
import Derived.Lib.ItoaNum
import Derived.Lib.MinMax
import Derived.Lib.Strings
import Derived.LoopIn
import Derived.LoopNIn
import Derived.Maps.AppendAt
import Derived.Maps.OwnSet
import Derived.OpenShut
import Derived.OwnWalk
import Derived.OwnWalkIn
import Derived.RangeFuncBound
import Derived.RangeFuncBox
import Derived.RangeFuncCalls
import Derived.RangeFuncGives
import Derived.RangeFuncLeaves
import Derived.RangeFuncNested
import Derived.RangeFuncStops
import Derived.Shelf.Abstract
import Derived.Shelf.Bits.Mul64
import Derived.Shelf.RegionOpen
import Derived.Shelf.Small.Strs
import Derived.Shelf.Strings.Builder1
import Derived.Shelf.Strings.Builder2
import Derived.Shelf.Strings.BuilderF
import Derived.Shelf.Strings.BuilderK
import Derived.Shelf.Strings.Prefix
import Derived.Shelf.Strings.Repeat
import Derived.Shelf.Strings.Search1
import Derived.SizedLaws
import Derived.Sort.MapsRangeIn
import Derived.Stop.LaidErr
import Derived.TacticsInMore
import Derived.WalkKit
import Derived.WalkLawsBesides
import Derived.WalkSpells
import Derived.Test.YtfoncakadficlaaDoorS00Ca
import Derived.Test.YtfoncakadficlaaDoorShelf
import Derived.Test.YtfoncakadficlaaDoorS02Ij
import Derived.Test.YtfoncakadficlaaDoorS03It
import Derived.Test.YtfoncakadficlaaDoorS04Ix
import Derived.Test.YtfoncakadficlaaDoorS05Aa
import Derived.Test.YtfoncakadficlaaDoorS06Ag
namespace Go.Proofs.YtfoncakadficlaaDoor
open Go.RowKit

/-- A generator of n qubits: l letters x from qubit a on. -/
def pt (n : Nat) (x : UInt8) (a l : Nat) : List UInt8 := 43 :: (List.replicate a 73 ++ List.replicate l x ++ List.replicate (n - a - l) 73)
def zRow (r c i j : Nat) : List (List UInt8) := (List.range j).map fun t => pt (r * c) 90 (i * c + t) 2
def zAll (r c i : Nat) : List (List UInt8) := (List.range i).flatMap fun t => zRow r c t (c - 1)
def xAll (r c i : Nat) : List (List UInt8) := (List.range i).map fun t => pt (r * c) 88 (t * c) (2 * c)
def patG (r c : Nat) : List (List UInt8) := zAll r c r ++ xAll r c (r - 1)
def wlt (r c k q : Nat) : UInt8 := if k < r * (c - 1) then (if q = k / (c - 1) * c + k % (c - 1) ∨ q = k / (c - 1) * c + k % (c - 1) + 1 then 90 else 73) else if q / c = k - r * (c - 1) ∨ q / c = k - r * (c - 1) + 1 then 88 else 73
def wtx (r c k q : Nat) : List UInt8 := 43 :: (List.range q).map (wlt r c k)
def patW (r c : Nat) : List (List UInt8) := (List.range (r * (c - 1) + r - 1)).map fun k => wtx r c k (r * c)
theorem pat_dec : ∀ r, r < 13 → ∀ c, c < 13 → (decide (1 ≤ r ∧ 1 ≤ c ∧ r * c ≤ 12) = true → patG r c = patW r c) := by decide +kernel
theorem pat_lt {r c : Nat} (h1 : 1 ≤ r) (h2 : 1 ≤ c) (h3 : r * c ≤ 12) : r < 13 ∧ c < 13 :=
  ⟨by have := Nat.le_mul_of_pos_right r h2; omega, by have := Nat.le_mul_of_pos_left c h1; omega⟩
theorem pat_same {r c : Nat} (h1 : 1 ≤ r) (h2 : 1 ≤ c) (h3 : r * c ≤ 12) : patG r c = patW r c :=
  pat_dec r (pat_lt h1 h2 h3).1 c (pat_lt h1 h2 h3).2 (decide_eq_true ⟨h1, h2, h3⟩)
theorem zRow_snoc (r c i j : Nat) : zRow r c i (j + 1) = zRow r c i j ++ [pt (r * c) 90 (i * c + j) 2] := by
  unfold zRow
  rw [List.range_succ, List.map_append]
  rfl
theorem zAll_snoc (r c i : Nat) : zAll r c (i + 1) = zAll r c i ++ zRow r c i (c - 1) := by
  unfold zAll
  rw [List.range_succ, List.flatMap_append]
  simp
theorem xAll_snoc (r c i : Nat) : xAll r c (i + 1) = xAll r c i ++ [pt (r * c) 88 (i * c) (2 * c)] := by
  unfold xAll
  rw [List.range_succ, List.map_append]
  rfl
theorem zRow_len (r c i j : Nat) : (zRow r c i j).length = j := by simp [zRow]
theorem zAll_len (r c : Nat) : ∀ i, (zAll r c i).length = i * (c - 1)
  | 0 => by simp [zAll]
  | i + 1 => by rw [zAll_snoc, List.length_append, zAll_len r c i, zRow_len, Nat.add_mul, Nat.one_mul]
theorem xAll_len (r c i : Nat) : (xAll r c i).length = i := by simp [xAll]
theorem repeat_one (x : UInt8) : ∀ c, Lib.repeatL [x] c = List.replicate c x
  | 0 => rfl
  | c + 1 => by
    show [x] ++ Lib.repeatL [x] c = _
    rw [repeat_one x c, List.replicate_succ]
    rfl

theorem isSide_any (z : Int) (w : World) : Calls Tryd.prog 45 #[.int .i64 z] w fun e w' => e = .returned (.bool (decide (1 ≤ z ∧ z ≤ 12))) ∧ w' = w := by
  obtain ⟨B, hB⟩ : ∃ B, decide (1 ≤ z ∧ z ≤ 12) = B := ⟨_, rfl⟩
  rw [hB]
  by_cases h1 : (1 : Int) ≤ z
  · by_cases h2 : z ≤ 12
    · obtain rfl : true = B := hB ▸ (decide_eq_true ⟨h1, h2⟩).symm
      clear hB
      go_enter Tryd.func45, Tryd.ntmps45
      go_wp2_with fail
      go_ret
      exact ⟨rfl, rfl⟩
    · obtain rfl : false = B := hB ▸ (decide_eq_false (by omega)).symm
      clear hB
      go_enter Tryd.func45, Tryd.ntmps45
      go_wp2_with fail
      go_ret
      exact ⟨rfl, rfl⟩
  · obtain rfl : false = B := hB ▸ (decide_eq_false (by omega)).symm
    clear hB
    go_enter Tryd.func45, Tryd.ntmps45
    go_wp2_with fail
    go_ret
    exact ⟨rfl, rfl⟩

/-- The code under way: n qubits, and the texts so far. -/
structure PtS (u w : World) (base K n : Nat) (gens : List (List UInt8)) : Prop where
  e : Ext u w
  uk : u.heap.size ≤ K
  kb : K < base
  bw : base ≤ w.heap.size
  own : ∃ a c, w.heap[K]? = some (.cells #[.int .i64 (n : Int), .slice a gens.length c] 24 (0, 0)) ∧ w.ownsRow base 9 1 (.slice a gens.length c) gens.length (sC gens)
section
variable {u w w' : World} {base K n : Nat} {gens : List (List UInt8)}
theorem PtS.ext (h : PtS u w base K n gens) (x : Ext w w') : PtS u w' base K n gens := by
  obtain ⟨a, c, h1, h2⟩ := h.own
  have hK : K < w.heap.size := (Array.getElem?_eq_some_iff.1 h1).1
  exact ⟨h.e.trans x, h.uk, h.kb, Nat.le_trans h.bw x.size, a, c, (x.block K hK).trans h1, own_kpt h2 x⟩
end
/-- One text more, and the variable that holds them. -/
theorem pts_step {u wa w7 : World} {base K n k c : Nat} {a a' : Option Addr} {c' : Nat} {gens : List (List UInt8)} {T : List UInt8} (hu : Ext u wa) (huk : u.heap.size ≤ K) (hkb : K < base) (hbw : base ≤ wa.heap.size)
    (hrow : wa.heap[K]? = some (.cells #[.int .i64 (n : Int), .slice a k c] 24 (0, 0))) (hk : gens.length = k) (ho : wa.ownsRow base 9 1 (.slice a k c) k (sC gens))
    (ho' : w7.ownsRow base 9 1 (.slice a' (k + 1) c') (k + 1) (sC gens ++ [.string ⟨T.toArray⟩])) (hg : wa.grownBy w7 (Value.slice a k c).ownBlock) :
    w7.cell? ⟨K, 1, none⟩ = some (.slice a k c) ∧ w7.frozen? ⟨K, 1, none⟩ = false ∧ PtS u (w7.setCell ⟨K, 1, none⟩ (.slice a' (k + 1) c')) base K n (gens ++ [T]) := by
  have hKl : K < wa.heap.size := (Array.getElem?_eq_some_iff.1 hrow).1
  have hne : some K ≠ (Value.slice a k c).ownBlock := fun e => by have := (own_lt ho K e.symm).1; omega
  have h7 := (hg.block K hKl hne).trans hrow
  have hE7 : Ext u w7 := grown_ext hu hg (fun j hj => Nat.le_trans (by omega) (own_lt ho j hj).1)
  have on1 : Only K w7 (w7.setCell ⟨K, 1, none⟩ (.slice a' (k + 1) c')) := (Only.refl _ _).setCell _ _
  have hl : (gens ++ [T]).length = k + 1 := by rw [List.length_append, hk]; rfl
  refine ⟨by rw [cell_of_row w7 K 1 _ _ (0, 0) h7]; rfl, frozen_of_row _ K 1 _ _ h7, cput hE7 huk _, huk, hkb, ?_, a', c', ?_, ?_⟩
  · rw [on1.size]
    exact Nat.le_trans hbw hg.size
  · have := heap_setCell_same w7 K 1 _ _ (.slice a' (k + 1) c') h7
    rw [hl]
    simpa using this
  · rw [hl, sC_snoc]
    exact ownsRow_setCell_below ho' hkb _

theorem dot_text (x : UInt8) (a l m : Nat) : (((⟨#[43]⟩ : ByteArray) ++ ⟨(Lib.repeatL [73] a).toArray⟩) ++ ⟨(Lib.repeatL [x] l).toArray⟩) ++ ⟨(Lib.repeatL [73] m).toArray⟩ = ⟨(43 :: (List.replicate a 73 ++ List.replicate l x ++ List.replicate m 73) : List UInt8).toArray⟩ := by
  rw [show (⟨#[43]⟩ : ByteArray) = ⟨([43] : List UInt8).toArray⟩ from rfl, str_append, str_append, str_append, repeat_one, repeat_one, repeat_one]
  simp
set_option maxRecDepth 100000 in
set_option maxHeartbeats 4000000 in
theorem add_any (n : Nat) (x : UInt8) (a l : Nat) (base K : Nat) (gens : List (List UInt8)) (u w : World) (hn : n ≤ 12) (hal : a + l ≤ n) (hlen : gens.length ≤ 100) (h : PtS u w base K n gens) :
    Calls Tryd.prog 46 #[.string ⟨#[x]⟩, .int .i64 (a : Int), .int .i64 (l : Int), .pointer (some ⟨K, 0, none⟩)] w fun e w' => (∃ v, e = .returned v) ∧ PtS u w' base K n (gens ++ [pt n x a l]) := by
  obtain ⟨i0, hi0, hz0, hz1, hz2⟩ := info_parts s_info
  obtain ⟨ao, c, hrow, hown⟩ := h.own
  have q0 : w.cell? ⟨K, 0, none⟩ = some (.int .i64 (n : Int)) := by rw [cell_of_row w K 0 _ _ (0, 0) hrow]; rfl
  have wk1 : IntKind.i64.wrap ((n : Int) - (a : Int)) = ((n - a : Nat) : Int) := by rw [IntKind.wrap_i64]; omega
  have wk2 : IntKind.i64.wrap (((n - a : Nat) : Int) - (l : Int)) = ((n - a - l : Nat) : Int) := by rw [IntKind.wrap_i64]; omega
  obtain ⟨m, hm⟩ : ∃ m, n - a - l = m := ⟨_, rfl⟩
  obtain ⟨p, hp⟩ : ∃ p, n - a = p := ⟨_, rfl⟩
  rw [hm] at wk2
  rw [hp] at wk1 wk2
  have HR1 := Lib.hid (fun wx => Tryd.strings_Repeat ⟨#[73]⟩ a wx (by omega) (by show 1 * a ≤ _; omega))
  have HR2 := Lib.hid (fun wx => Tryd.strings_Repeat ⟨#[x]⟩ l wx (by omega) (by show 1 * l ≤ _; omega))
  have HR3 := Lib.hid (fun wx => Tryd.strings_Repeat ⟨#[73]⟩ m wx (by omega) (by show 1 * m ≤ _; omega))
  have HT := dot_text x a l m
  have hs1 : (⟨(Lib.repeatL [73] a).toArray⟩ : ByteArray).size = a := by rw [repeat_one]; simp [ByteArray.size]
  have hs2 : (⟨(Lib.repeatL [x] l).toArray⟩ : ByteArray).size = l := by rw [repeat_one]; simp [ByteArray.size]
  have hs3 : (⟨(Lib.repeatL [73] m).toArray⟩ : ByteArray).size = m := by rw [repeat_one]; simp [ByteArray.size]
  obtain ⟨P, hP⟩ : ∃ P, pt n x a l = P := ⟨_, rfl⟩
  rw [show (43 :: (List.replicate a 73 ++ List.replicate l x ++ List.replicate m 73) : List UInt8) = P by rw [← hP]; unfold pt; rw [hm]] at HT
  rw [hP]
  clear hP
  obtain ⟨S1, hS1⟩ : ∃ S, (⟨(Lib.repeatL [73] a).toArray⟩ : ByteArray) = S := ⟨_, rfl⟩
  obtain ⟨S2, hS2⟩ : ∃ S, (⟨(Lib.repeatL [x] l).toArray⟩ : ByteArray) = S := ⟨_, rfl⟩
  obtain ⟨S3, hS3⟩ : ∃ S, (⟨(Lib.repeatL [73] m).toArray⟩ : ByteArray) = S := ⟨_, rfl⟩
  rw [hS1, hS2, hS3] at HT
  rw [hS1] at hs1; rw [hS2] at hs2; rw [hS3] at hs3
  have z1 : (⟨#[43]⟩ ++ S1 : ByteArray).size = 1 + a := by rw [ByteArray.size_append, hs1]; rfl
  have z2 : (⟨#[43]⟩ ++ S1 ++ S2 : ByteArray).size = 1 + a + l := by rw [ByteArray.size_append, z1, hs2]
  have Hh := Lib.hid h; have Hrow := Lib.hid hrow; have Hown := Lib.hid hown; have HS1 := Lib.hid hS1; have HS2 := Lib.hid hS2; have HS3 := Lib.hid hS3
  have Hlen := Lib.hid hlen
  have b1 : ¬ 9223372036854775807 < 1 + S1.size := by omega
  have b2 : ¬ 9223372036854775807 < (⟨#[43]⟩ ++ S1 : ByteArray).size + S2.size := by omega
  have b3 : ¬ 9223372036854775807 < (⟨#[43]⟩ ++ S1 ++ S2 : ByteArray).size + S3.size := by omega
  clear h hrow hown hm hp hS1 hS2 hS3 hlen hal hn
  go_enter Tryd.func46, Tryd.ntmps46
  go_wp2_with fail
  refine (HR1.out _).mono ?_
  rintro e w1 ⟨rfl, x1⟩
  rw [HS1.out]
  go_wp2_with fail
  refine (HR2.out _).mono ?_
  rintro e w2 ⟨rfl, x2⟩
  rw [HS2.out]
  go_wp2_with fail
  refine (HR3.out _).mono ?_
  rintro e w3 ⟨rfl, x3⟩
  rw [HS3.out]
  have E3 : Ext w w3 := (show Ext w w1 from x1).trans ((show Ext w1 w2 from x2).trans x3)
  have Hw := Lib.hid (Hh.out.ext E3)
  have hK3 : w3.heap[K]? = some (.cells #[.int .i64 (n : Int), .slice ao gens.length c] 24 (0, 0)) := (E3.block K (Array.getElem?_eq_some_iff.1 Hrow.out).1).trans Hrow.out
  have Hrow3 := Lib.hid hK3
  have Hown3 := Lib.hid (own_kpt Hown.out E3)
  have q1 : w3.cell? ⟨K, 1, none⟩ = some (.slice ao gens.length c) := by rw [cell_of_row w3 K 1 _ _ (0, 0) hK3]; rfl
  clear x1 x2 x3 E3 hK3
  go_upto_region 2 with fail
  go_wp2_with (at_builtin; refine wpList_append_own _ rfl _ _ 22 rfl base 9 i0 (.string ⟨#[]⟩) 1 16 Tryd.underlying22 hi0 hz0 hz1 hz2 rfl (by decide) _ gens.length (sC gens) rfl (Hown3.out.alloc _) ⟨w3.heap.size, 0, none⟩ 1 1 [.string ⟨P.toArray⟩] rfl rfl (new_s w3 _ _) (one_s _) (by unfold maxLen; have := Hlen.out; omega) (by have := Hlen.out; omega) (Nat.le_trans Hw.out.bw (ext_al w3 _).size) ?_; intro v' w7 hown' hgrow' _; obtain ⟨g', cap', rfl⟩ := ownsRow_succ hown'; have Hst := Lib.hid (pts_step (Hw.out.ext (ext_al w3 _)).e Hw.out.uk Hw.out.kb (Hw.out.ext (ext_al w3 _)).bw (((ext_al w3 _).block K (Array.getElem?_eq_some_iff.1 Hrow3.out).1).trans Hrow3.out) rfl (Hown3.out.alloc _) hown' hgrow'); have z1 := Hst.out.1; have z2 := Hst.out.2.1; clear hown' hgrow')
  go_end0
  exact ⟨⟨_, rfl⟩, Hst.out.2.2⟩
end Go.Proofs.YtfoncakadficlaaDoor
namespace Go.Proofs.YtfoncakadficlaaDoor
open Go.RowKit

theorem side_yes {z : Int} (h : 1 ≤ z ∧ z ≤ 12) (w : World) : Calls Tryd.prog 45 #[.int .i64 z] w fun e w' => e = .returned (.bool true) ∧ w' = w := by
  have := isSide_any z w
  rwa [decide_eq_true h] at this
theorem side_no {z : Int} (h : ¬ (1 ≤ z ∧ z ≤ 12)) (w : World) : Calls Tryd.prog 45 #[.int .i64 z] w fun e w' => e = .returned (.bool false) ∧ w' = w := by
  have := isSide_any z w
  rwa [decide_eq_false h] at this
set_option maxRecDepth 100000 in
set_option maxHeartbeats 4000000 in
theorem Patch_bad (r c : Int) (w : World) (h : ¬ ((1 ≤ r ∧ r ≤ 12) ∧ (1 ≤ c ∧ c ≤ 12) ∧ r * c ≤ 12)) :
    Calls Tryd.prog 23 #[.int .i64 r, .int .i64 c] w fun e w' => e = .returned (.tuple #[.agg #[.int .i64 0, .slice none 0 0], .agg #[.int .i64 25, .int .i64 0]]) ∧ Ext w w' := by
  obtain ⟨H, hH⟩ : ∃ H, w.heap.size = H := ⟨_, rfl⟩
  obtain ⟨W0, hW0⟩ : ∃ W0, (w.alloc (.cells #[.int .i64 0, .slice none 0 0] 24)).alloc (.cells #[.int .i64 0, .int .i64 0] 27) = W0 := ⟨_, rfl⟩
  have E0 : Ext w W0 := by rw [← hW0]; exact (ext_al w _).trans (ext_al _ _)
  have C0 : CoB W0 H 0 none 0 0 := by rw [← hW0, ← hH]; exact (CoB.new w _ _ _ _).ext (ext_al _ _)
  have bF : FtB W0 (H + 1) 0 0 := ⟨by
    have := heap_alloc_new (w.alloc (.cells #[.int .i64 0, .slice none 0 0] 24)) (.cells #[.int .i64 0, .int .i64 0] 27)
    rw [← hW0, ← hH]
    simpa using this⟩
  have HE0 := Lib.hid E0; have HW0 := Lib.hid hW0; have HH := Lib.hid hH; have HwH := Lib.hid (show w.heap.size ≤ H by omega)
  have x0' := bF.x0; have x1' := bF.x1; have g0' := bF.f 0; have g1' := bF.f 1
  have y0' := C0.x0; have y1' := C0.x1; have h0' := frozen_of_row _ H 0 _ _ C0.row; have h1' := frozen_of_row _ H 1 _ _ C0.row
  clear hW0 hH E0 C0 bF
  by_cases hr : 1 ≤ r ∧ r ≤ 12
  · have HR := Lib.hid (side_yes hr)
    by_cases hc : 1 ≤ c ∧ c ≤ 12
    · have HC := Lib.hid (side_yes hc)
      have wk : IntKind.i64.wrap (r * c) = r * c := by
        rw [IntKind.wrap_i64]
        have h1 : 0 ≤ r * c := Int.mul_nonneg (by omega) (by omega)
        have h2 : r * c ≤ 12 * 12 := Int.mul_le_mul hr.2 hc.2 (by omega) (by omega)
        omega
      have q1 : (12 : Int) < r * c := by
        have h3 : ¬ r * c ≤ 12 := fun h3 => h ⟨hr, hc, h3⟩
        omega
      obtain ⟨m, hm⟩ : ∃ m, r * c = m := ⟨_, rfl⟩
      rw [hm] at wk q1
      rw [← hm] at wk
      have wk' : IntKind.i64.wrap (r * c) = m := wk.trans hm
      clear h hr hc hm wk
      go_enter Tryd.func23, Tryd.ntmps23
      go_upto_region 1 with fail
      rw [HW0.out, HH.out]
      go_wp2_with fail
      refine (HR.out _).mono ?_
      rintro e w1 ⟨rfl, rfl⟩
      go_wp2_with fail
      refine (HC.out _).mono ?_
      rintro e w1 ⟨rfl, rfl⟩
      go_wp2_with fail
      exact bodyPost_ret (v := .tuple #[.agg #[.int .i64 0, .slice none 0 0], .agg #[.int .i64 25, .int .i64 0]]) (by simp [results, Tryd.results23, go_sem, x0', x1', y0', y1']) rfl ⟨rfl, put2x (put2x HE0.out HwH.out _ _) (by have := HwH.out; omega) _ _⟩
    · have HC := Lib.hid (side_no hc)
      clear h hr hc
      go_enter Tryd.func23, Tryd.ntmps23
      go_upto_region 1 with fail
      rw [HW0.out, HH.out]
      go_wp2_with fail
      refine (HR.out _).mono ?_
      rintro e w1 ⟨rfl, rfl⟩
      go_wp2_with fail
      refine (HC.out _).mono ?_
      rintro e w1 ⟨rfl, rfl⟩
      go_wp2_with fail
      exact bodyPost_ret (v := .tuple #[.agg #[.int .i64 0, .slice none 0 0], .agg #[.int .i64 25, .int .i64 0]]) (by simp [results, Tryd.results23, go_sem, x0', x1', y0', y1']) rfl ⟨rfl, put2x (put2x HE0.out HwH.out _ _) (by have := HwH.out; omega) _ _⟩
  · have HR := Lib.hid (side_no hr)
    clear h hr
    go_enter Tryd.func23, Tryd.ntmps23
    go_upto_region 1 with fail
    rw [HW0.out, HH.out]
    go_wp2_with fail
    refine (HR.out _).mono ?_
    rintro e w1 ⟨rfl, rfl⟩
    go_wp2_with fail
    exact bodyPost_ret (v := .tuple #[.agg #[.int .i64 0, .slice none 0 0], .agg #[.int .i64 25, .int .i64 0]]) (by simp [results, Tryd.results23, go_sem, x0', x1', y0', y1']) rfl ⟨rfl, put2x (put2x HE0.out HwH.out _ _) (by have := HwH.out; omega) _ _⟩

theorem pt_end {w : World} {base H cp : Nat} {a : Option Addr} {G : List (List UInt8)} (ho : w.ownsRow base 9 1 (.slice a G.length cp) G.length (sC G)) (h : H + 1 < base ∧ H < base) (x y z t : Value) :
    StrsAt ((((w.setCell ⟨H, 0, none⟩ x).setCell ⟨H, 1, none⟩ y).setCell ⟨H + 1, 0, none⟩ z).setCell ⟨H + 1, 1, none⟩ t) a G.length G := by
  have o5 := ownsRow_setCell_below (ownsRow_setCell_below (ownsRow_setCell_below (ownsRow_setCell_below ho (a := ⟨H, 0, none⟩) h.2 x) (a := ⟨H, 1, none⟩) h.2 y) (a := ⟨H + 1, 0, none⟩) h.1 z) (a := ⟨H + 1, 1, none⟩) h.1 t
  obtain ⟨a2, c2, e2, _, _, hs⟩ := strs_of_own o5
  cases e2
  exact hs
theorem row_fit {r c i j : Nat} (hi : i < r) (hj : j < c - 1) : i * c + j + 2 ≤ r * c := by
  have h := Nat.mul_le_mul_right c (show i + 1 ≤ r by omega)
  rw [Nat.succ_mul] at h
  omega
theorem col_fit {r c i : Nat} (hi : i < r - 1) : i * c + 2 * c ≤ r * c := by
  have h := Nat.mul_le_mul_right c (show i + 2 ≤ r by omega)
  rw [Nat.add_mul] at h
  exact h
theorem z_few {r c i j : Nat} (h3 : r * c ≤ 12) (hi : i ≤ r) (_ : r ≤ 12) (hc : c ≤ 12) (hj : j ≤ 12) : (zAll r c i ++ zRow r c i j).length ≤ 100 := by
  rw [List.length_append, zAll_len, zRow_len]
  have := Nat.mul_le_mul hi (show c - 1 ≤ c by omega)
  omega
theorem x_few {r c i : Nat} (h3 : r * c ≤ 12) (hi : i ≤ r) (hr : r ≤ 12) (_ : c ≤ 12) : (zAll r c r ++ xAll r c i).length ≤ 100 := by
  rw [List.length_append, zAll_len, xAll_len]
  have := Nat.mul_le_mul (Nat.le_refl r) (show c - 1 ≤ c by omega)
  omega
/-- What Patch answers where there is such a patch. -/
def PtR (r c : Nat) (w : World) (e : Ending) (w' : World) : Prop := ∃ a k cp, e = .returned (.tuple #[.agg #[.int .i64 ((r * c : Nat) : Int), .slice a k cp], .agg #[.int .i64 0, .int .i64 0]]) ∧ StrsAt w' a k (patG r c) ∧ Ext w w'
set_option maxRecDepth 100000 in
set_option maxHeartbeats 8000000 in
theorem Patch_good (r c : Nat) (w : World) (h1 : 1 ≤ r) (h2 : 1 ≤ c) (h3 : r * c ≤ 12) :
    Calls Tryd.prog 23 #[.int .i64 (r : Int), .int .i64 (c : Int)] w fun e w' => PtR r c w e w' := by
  obtain ⟨hr12, hc12⟩ := pat_lt h1 h2 h3
  obtain ⟨H, hH⟩ : ∃ H, w.heap.size = H := ⟨_, rfl⟩
  obtain ⟨W0, hW0⟩ : ∃ W0, (w.alloc (.cells #[.int .i64 0, .slice none 0 0] 24)).alloc (.cells #[.int .i64 0, .int .i64 0] 27) = W0 := ⟨_, rfl⟩
  have E0 : Ext w W0 := by rw [← hW0]; exact (ext_al w _).trans (ext_al _ _)
  have s0 : W0.heap.size = H + 2 := by rw [← hW0, ← hH]; simp
  have C0 : CoB W0 H 0 none 0 0 := by rw [← hW0, ← hH]; exact (CoB.new w _ _ _ _).ext (ext_al _ _)
  have bF : FtB W0 (H + 1) 0 0 := ⟨by
    have := heap_alloc_new (w.alloc (.cells #[.int .i64 0, .slice none 0 0] 24)) (.cells #[.int .i64 0, .int .i64 0] 27)
    rw [← hW0, ← hH]
    simpa using this⟩
  obtain ⟨m, hm⟩ : ∃ m, r * c = m := ⟨_, rfl⟩
  have wm : IntKind.i64.wrap ((r : Int) * (c : Int)) = (m : Int) := by rw [IntKind.wrap_i64, ← Int.natCast_mul, hm]; omega
  obtain ⟨W1, hW1⟩ : ∃ W1, W0.alloc (.cells #[.int .i64 (m : Int), .slice none 0 0] 24) = W1 := ⟨_, rfl⟩
  have hP : PtS W0 W1 (H + 3) (H + 2) m [] := by
    refine ⟨by rw [← hW1]; exact ext_al _ _, by omega, by omega, by rw [← hW1]; simp [s0], none, 0, ?_, rfl, Or.inl ⟨rfl, rfl⟩⟩
    rw [← hW1, ← s0]
    exact heap_alloc_new W0 _
  have q1 : ¬ (12 : Int) < (m : Int) := by omega
  have wr1 : IntKind.i64.wrap ((r : Int) - 1) = ((r - 1 : Nat) : Int) := by rw [IntKind.wrap_i64]; omega
  have wc1 : IntKind.i64.wrap ((c : Int) - 1) = ((c - 1 : Nat) : Int) := by rw [IntKind.wrap_i64]; omega
  have wc2 : IntKind.i64.wrap (2 * (c : Int)) = ((2 * c : Nat) : Int) := by rw [IntKind.wrap_i64]; omega
  obtain ⟨c1, hc1⟩ : ∃ c1, c - 1 = c1 := ⟨_, rfl⟩
  obtain ⟨r1, hr1⟩ : ∃ r1, r - 1 = r1 := ⟨_, rfl⟩
  obtain ⟨c2, hc2⟩ : ∃ c2, 2 * c = c2 := ⟨_, rfl⟩
  rw [hc1] at wc1; rw [hr1] at wr1; rw [hc2] at wc2
  have HR := Lib.hid (side_yes (z := (r : Int)) ⟨by omega, by omega⟩); have HC := Lib.hid (side_yes (z := (c : Int)) ⟨by omega, by omega⟩)
  have HE0 := Lib.hid E0; have HW0 := Lib.hid hW0; have HW1 := Lib.hid hW1; have HH := Lib.hid hH; have Hs0 := Lib.hid s0; have HwH := Lib.hid (show w.heap.size ≤ H by omega); have HC0 := Lib.hid C0; have HF := Lib.hid bF; have HP := Lib.hid hP
  have Hm := Lib.hid hm; have H3 := Lib.hid h3; have Hb := Lib.hid (And.intro hr12 hc12); have Hc1 := Lib.hid hc1; have Hr1 := Lib.hid hr1; have Hc2 := Lib.hid hc2
  clear hW0 hW1 hH E0 s0 C0 bF hP h1 h2 h3 hm hr12 hc12 hc1 hr1 hc2
  go_enter Tryd.func23, Tryd.ntmps23
  go_upto_region 1 with fail
  rw [HW0.out, HH.out]
  go_wp2_with fail
  refine (HR.out _).mono ?_
  rintro e w1 ⟨rfl, hw1⟩
  obtain rfl := hw1.symm
  go_wp2_with fail
  refine (HC.out _).mono ?_
  rintro e w1 ⟨rfl, hw1⟩
  obtain rfl := hw1.symm
  go_upto_region 5 with fail
  rw [Hs0.out, HW1.out]
  go_wp2_with fail
  go_loopg [33] r (fun kk s33 wr => ∃ i : Nat, s33 = .int .i64 (i : Int) ∧ i ≤ r ∧ r - i = kk ∧ PtS W0 wr (H + 3) (H + 2) m (zAll r c i))
  case atStart => exact ⟨0, rfl, Nat.zero_le _, rfl, HP.out⟩
  case round =>
    obtain ⟨i, rfl, hi, hkk, hp⟩ := hrel
    have Hkk := Lib.hid hkk; have Hp := Lib.hid hp
    by_cases hir : i = r
    · have p1 : ¬ (i : Int) < (r : Int) := by omega
      rw [hir] at Hp
      clear hkk hp hi hir
      go_wp2_with fail
      go_loopg [52] r1 (fun kk s52 wx => ∃ j : Nat, s52 = .int .i64 (j : Int) ∧ j ≤ r1 ∧ r1 - j = kk ∧ PtS W0 wx (H + 3) (H + 2) m (zAll r c r ++ xAll r c j))
      case atStart => exact ⟨0, rfl, Nat.zero_le _, rfl, by rw [show xAll r c 0 = [] from rfl, List.append_nil]; exact Hp.out⟩
      case round =>
        obtain ⟨j, rfl, hj, hjk, hx⟩ := hrel
        have Hjk := Lib.hid hjk; have Hx := Lib.hid hx
        by_cases hjr : j = r1
        · have p2 : ¬ (j : Int) < (r1 : Int) := by omega
          rw [hjr] at Hx
          have hG : zAll r c r ++ xAll r c r1 = patG r c := by unfold patG; rw [Hr1.out]
          rw [hG] at Hx
          obtain ⟨a, cp, hrow, hown⟩ := Hx.out.own
          have Hown := Lib.hid hown
          have v0 : wr.cell? ⟨H + 2, 0, none⟩ = some (.int .i64 (m : Int)) := by rw [cell_of_row wr (H + 2) 0 _ _ (0, 0) hrow]; rfl
          have v1 : wr.cell? ⟨H + 2, 1, none⟩ = some (.slice a (patG r c).length cp) := by rw [cell_of_row wr (H + 2) 1 _ _ (0, 0) hrow]; rfl
          have bz := HF.out.ext Hx.out.e; have rz := HC0.out.ext Hx.out.e
          have x0' := bz.x0; have x1' := bz.x1; have g0' := bz.f 0; have g1' := bz.f 1
          have y0' := rz.x0; have y1' := rz.x1; have h0' := frozen_of_row _ H 0 _ _ rz.row; have h1' := frozen_of_row _ H 1 _ _ rz.row
          obtain ⟨G, hGe⟩ : ∃ G, patG r c = G := ⟨_, rfl⟩
          rw [hGe] at Hown v1
          have HGe := Lib.hid hGe
          have HE := Lib.hid (HE0.out.trans Hx.out.e)
          have HwH2 := Lib.hid (show H + 1 < H + 3 ∧ H < H + 3 by omega)
          clear hjk hx hj hjr hG hrow hown bz rz hGe Hx p1
          go_wp2_with fail
          exact bodyPost_ret (v := .tuple #[.agg #[.int .i64 (m : Int), .slice a G.length cp], .agg #[.int .i64 0, .int .i64 0]]) (by simp [results, Tryd.results23, go_sem, x0', x1', y0', y1']) rfl ⟨a, G.length, cp, by rw [Hm.out], by rw [HGe.out]; exact pt_end Hown.out HwH2.out _ _ _ _, put2x (put2x HE.out HwH.out _ _) (by have := HwH.out; omega) _ _⟩
        have hjlt : j < r1 := by omega
        have p2 : (j : Int) < (r1 : Int) := by omega
        have p0 : (0 : Int) ≤ (j : Int) := by omega
        have hfit := col_fit (c := c) (show j < r - 1 by rw [Hr1.out]; exact hjlt)
        have wj1 : IntKind.i64.wrap ((j : Int) * (c : Int)) = ((j * c : Nat) : Int) := by rw [IntKind.wrap_i64, ← Int.natCast_mul]; have := H3.out; omega
        have wj2 : IntKind.i64.wrap ((j : Int) + 1) = ((j + 1 : Nat) : Int) := by rw [IntKind.wrap_i64]; have := Hb.out; have := Hr1.out; omega
        have HA := Lib.hid (add_any m 88 (j * c) (2 * c) (H + 3) (H + 2) (zAll r c r ++ xAll r c j) W0 wr (by rw [← Hm.out]; exact H3.out) (by rw [← Hm.out]; exact hfit) (x_few H3.out (by have := Hr1.out; omega) (by have := Hb.out; omega) (by have := Hb.out; omega)) Hx.out)
        rw [Hc2.out, List.append_assoc, show xAll r c j ++ [pt m 88 (j * c) c2] = xAll r c (j + 1) by rw [xAll_snoc, Hm.out, Hc2.out]] at HA
        obtain ⟨jc, hjc⟩ : ∃ jc, j * c = jc := ⟨_, rfl⟩
        rw [hjc] at wj1 HA
        have Hjl := Lib.hid hjlt
        clear hjk hx hj hjr hfit hjlt hjc p1
        go_wp2_with fail
        refine HA.out.mono ?_
        rintro e w5 ⟨⟨v, rfl⟩, h5⟩
        have H5 := Lib.hid h5
        clear h5
        go_wp2_with fail
        go_roundg (r1 - (j + 1))
        case measure => have := Hjk.out; have := Hjl.out; omega
        case rel => exact ⟨j + 1, rfl, Hjl.out, rfl, H5.out⟩
    · have hlt : i < r := by omega
      have p1 : (i : Int) < (r : Int) := by omega
      have p0 : (0 : Int) ≤ (i : Int) := by omega
      have wi2 : IntKind.i64.wrap ((i : Int) + 1) = ((i + 1 : Nat) : Int) := by rw [IntKind.wrap_i64]; have := Hb.out; omega
      have hic : i * c + c ≤ r * c := by have h := Nat.mul_le_mul_right c (show i + 1 ≤ r by omega); rw [Nat.succ_mul] at h; exact h
      have wi1 : IntKind.i64.wrap ((i : Int) * (c : Int)) = ((i * c : Nat) : Int) := by rw [IntKind.wrap_i64, ← Int.natCast_mul]; have := H3.out; omega
      obtain ⟨ic, hicd⟩ : ∃ ic, i * c = ic := ⟨_, rfl⟩
      rw [hicd] at wi1 hic
      have Hic := Lib.hid hic; have Hicd := Lib.hid hicd; have Hlt := Lib.hid hlt
      clear hkk hp hi hir hlt hic hicd
      go_wp2_with fail
      go_loopg [38] c1 (fun kk s38 wx => ∃ j : Nat, s38 = .int .i64 (j : Int) ∧ j ≤ c1 ∧ c1 - j = kk ∧ PtS W0 wx (H + 3) (H + 2) m (zAll r c i ++ zRow r c i j))
      case atStart => exact ⟨0, rfl, Nat.zero_le _, rfl, by rw [show zRow r c i 0 = [] from rfl, List.append_nil]; exact Hp.out⟩
      case round =>
        obtain ⟨j, rfl, hj, hjk, hx⟩ := hrel
        have Hjk := Lib.hid hjk; have Hx := Lib.hid hx
        by_cases hjr : j = c1
        · have p2 : ¬ (j : Int) < (c1 : Int) := by omega
          rw [hjr, ← Hc1.out, ← zAll_snoc] at Hx
          clear hjk hx hj hjr
          go_wp2_with fail
          go_roundg (r - (i + 1))
          case measure => have := Hkk.out; have := Hlt.out; omega
          case rel => exact ⟨i + 1, rfl, Hlt.out, rfl, Hx.out⟩
        have hjlt : j < c1 := by omega
        have p2 : (j : Int) < (c1 : Int) := by omega
        have p3 : (0 : Int) ≤ (j : Int) := by omega
        have hfit := row_fit (c := c) Hlt.out (show j < c - 1 by rw [Hc1.out]; exact hjlt)
        have wj1 : IntKind.i64.wrap ((ic : Int) + (j : Int)) = ((ic + j : Nat) : Int) := by rw [IntKind.wrap_i64]; have := H3.out; have := Hic.out; have := Hc1.out; omega
        have wj2 : IntKind.i64.wrap ((j : Int) + 1) = ((j + 1 : Nat) : Int) := by rw [IntKind.wrap_i64]; have := Hb.out; have := Hc1.out; omega
        have HA := Lib.hid (add_any m 90 (i * c + j) 2 (H + 3) (H + 2) (zAll r c i ++ zRow r c i j) W0 wr (by rw [← Hm.out]; exact H3.out) (by rw [← Hm.out]; exact hfit) (z_few H3.out (by have := Hlt.out; omega) (by have := Hb.out; omega) (by have := Hb.out; omega) (by have := Hb.out; have := Hc1.out; omega)) Hx.out)
        rw [List.append_assoc, show zRow r c i j ++ [pt m 90 (i * c + j) 2] = zRow r c i (j + 1) by rw [zRow_snoc, Hm.out], Hicd.out] at HA
        obtain ⟨jc, hjc⟩ : ∃ jc, ic + j = jc := ⟨_, rfl⟩
        rw [hjc] at wj1 HA
        have Hjl := Lib.hid hjlt
        clear hjk hx hj hjr hfit hjlt hjc
        go_wp2_with fail
        refine HA.out.mono ?_
        rintro e w5 ⟨⟨v, rfl⟩, h5⟩
        have H5 := Lib.hid h5
        clear h5
        go_wp2_with fail
        go_roundg (c1 - (j + 1))
        case measure => have := Hjk.out; have := Hjl.out; omega
        case rel => exact ⟨j + 1, rfl, Hjl.out, rfl, H5.out⟩
end Go.Proofs.YtfoncakadficlaaDoor
namespace Go.Proofs.YtfoncakadficlaaDoor
open Go.RowKit

/-- What shows nowhere and is no product. -/
def hidB (n : Nat) (gens : List (List UInt8)) (p : PK) : Bool := shN (psL n gens) p == 0 && !decide ((p.x, p.z) ∈ gsL (psL n gens))
def diN (n : Nat) (gens : List (List UInt8)) : Nat := pcF 16 ((fstP (hidB n gens) n).x ||| (fstP (hidB n gens) n).z)
def DiR (Y : Int × Int) (d : Nat) (w : World) (e : Ending) (w' : World) : Prop :=
  e = .returned (.tuple #[.int .i64 (if Y.1 = 0 then (d : Int) else 0), .agg #[.int .i64 Y.1, .int .i64 Y.2]]) ∧ Ext w w'
theorem DiR.bad {a b : Int} {d : Nat} {w w' : World} (ha : ¬ a = 0) (hx : Ext w w') : DiR (a, b) d w (.returned (.tuple #[.int .i64 0, .agg #[.int .i64 a, .int .i64 b]])) w' := ⟨by rw [if_neg ha], hx⟩
theorem DiR.good {a b : Int} {d d' : Nat} {w w' : World} (ha : a = 0) (hb : b = 0) (hd : d' = d) (hx : Ext w w') : DiR (a, b) d w (.returned (.tuple #[.int .i64 (d' : Int), .agg #[.int .i64 0, .int .i64 0]])) w' := by
  subst ha; subst hb; subst hd
  exact ⟨rfl, hx⟩
theorem rs_snd {N : Int} {gens : List (List UInt8)} (h : (rsF N gens).1 = 0) : (rsF N gens).2 = 0 := by
  unfold rsF at h ⊢
  split
  · rfl
  · rename_i h1
    rw [if_neg h1] at h
    unfold ccF at h ⊢
    split
    · rfl
    rename_i h2; rw [if_neg h2] at h
    split
    · rfl
    rename_i h3; rw [if_neg h3] at h
    split
    · rename_i h4; rw [if_pos h4] at h; exact absurd h (by simp)
    rename_i h4; rw [if_neg h4] at h
    split
    · rename_i h5; rw [if_pos h5] at h; exact absurd h (by simp)
    rename_i h5; rw [if_neg h5] at h
    split
    · rename_i h6; rw [if_pos h6] at h; exact absurd h (by simp)
    · rfl

set_option maxRecDepth 100000 in
set_option maxHeartbeats 8000000 in
theorem Distance_any (N : Int) (gens : List (List UInt8)) (ao : Option Addr) (k c : Nat) (w : World) (hG : StrsAt w ao k gens) (hT : ∀ T ∈ gens, T.length ≤ 9223372036854775807) (hk9 : k ≤ 9223372036854775806) (hL : LtL w) :
    Calls Tryd.prog 16 #[.agg #[.int .i64 N, .slice ao k c]] w fun e w' => DiR (rsF N gens) (diN N.toNat gens) w e w' := by
  obtain ⟨H, hH⟩ : ∃ H, w.heap.size = H := ⟨_, rfl⟩
  obtain ⟨W0, hW0⟩ : ∃ W0, (w.alloc (.cells #[.int .i64 N, .slice ao k c] 24)).alloc (.cells #[.int .i64 0, .int .i64 0] 27) = W0 := ⟨_, rfl⟩
  have E0 : Ext w W0 := by rw [← hW0]; exact (ext_al w _).trans (ext_al _ _)
  have C0 : CoB W0 H N ao k c := by rw [← hW0, ← hH]; exact (CoB.new w _ _ _ _).ext (ext_al _ _)
  have bF : FtB W0 (H + 1) 0 0 := ⟨by
    have := heap_alloc_new (w.alloc (.cells #[.int .i64 N, .slice ao k c] 24)) (.cells #[.int .i64 0, .int .i64 0] 27)
    rw [← hW0, ← hH]
    simpa using this⟩
  have HRd := Lib.hid (readSearched_any N gens ao k c W0 (hG.ext E0) hT hk9)
  unfold RsP at HRd
  have hz : (rsF N gens).1 = 0 → 1 ≤ N ∧ N ≤ 12 ∧ (gens.length : Int) ≤ N := fun h => by
    unfold rsF at h
    split at h
    · exact absurd h (by decide)
    · have := cc_zero h
      exact ⟨this.1, this.2.1, this.2.2.1⟩
  have hr0 := rs_snd (N := N) (gens := gens)
  obtain ⟨F, hF⟩ : ∃ F, rsF N gens = F := ⟨_, rfl⟩
  obtain ⟨F0, F1⟩ := F
  rw [hF] at HRd hz hr0 ⊢
  simp only at HRd hz hr0
  have Hr0 := Lib.hid hr0
  clear hr0
  have HE0 := Lib.hid E0; have HFt := Lib.hid bF; have HC := Lib.hid C0; have HW0 := Lib.hid hW0; have HH := Lib.hid hH; have HwH := Lib.hid (show w.heap.size ≤ H + 1 by omega); have Hz := Lib.hid hz; have Hlg := Lib.hid (show gens.length = k from hG.1)
  have HL := Lib.hid (hL.ext E0)
  have v0 := C0.x0; have v1 := C0.x1
  clear hG hT hk9 hH hW0 E0 C0 bF hF hz hL
  go_enter Tryd.func16, Tryd.ntmps16
  go_upto_region 1 with fail
  rw [HW0.out, HH.out]
  go_wp2_with fail
  refine HRd.out.mono ?_
  rintro e w1 ⟨N', a, n, c', mp, rfl, hx1, hrd⟩
  obtain ⟨U, hU⟩ : ∃ U, (w1.alloc (.cells #[.int .i64 N', .slice a n c', .map mp] 58)).alloc (.cells #[.int .i64 F0, .int .i64 F1] 27) = U := ⟨_, rfl⟩
  obtain ⟨K, hK⟩ : ∃ K, w1.heap.size = K := ⟨_, rfl⟩
  have E1U : Ext w1 U := by rw [← hU]; exact (ext_al _ _).trans (ext_al _ _)
  have EU : Ext W0 U := hx1.trans E1U
  have fU : FrB U K N' a n c' mp := by rw [← hU, ← hK]; exact (FrB.new _ _ _ _ _ _).ext (ext_al _ _)
  have bU : FtB U (K + 1) F0 F1 := ⟨by
    have := heap_alloc_new (w1.alloc (.cells #[.int .i64 N', .slice a n c', .map mp] 58)) (.cells #[.int .i64 F0, .int .i64 F1] 27)
    rw [← hU, ← hK]
    simpa using this⟩
  have hKH : H + 1 < K := by rw [← hK]; exact Nat.lt_of_lt_of_le HFt.out.lt hx1.size
  have hK0 : (0 : Nat) < K := by rw [← hK]; exact Nat.lt_of_lt_of_le HL.out.lt hx1.size
  have HU := Lib.hid hU; have HK := Lib.hid hK; have HfU := Lib.hid fU; have HEU := Lib.hid EU; have Hrd := Lib.hid hrd; have HE1U := Lib.hid E1U; have HbU := Lib.hid bU; have HKH := Lib.hid (And.intro hKH hK0)
  have u0 := bU.x0; have u1 := bU.x1
  clear hx1 hU hK EU bU fU v0 v1 HRd hrd E1U hKH hK0
  go_upto_region 2 with fail
  rw [HU.out, HK.out]
  clear HU HK
  by_cases hz : F0 = 0
  rotate_left 1
  · have hcb := nt hz
    have bz := HFt.out.ext HEU.out; have x0' := bz.x0; have x1' := bz.x1; have g0' := bz.f 0; have g1' := bz.f 1
    have HEy := Lib.hid (HE0.out.trans HEU.out); have Hnz := Lib.hid hz
    clear bz hz
    go_upto_region 3 with fail
    go_region
    go_wp2_with fail
    exact bodyPost_ret (v := .tuple #[.int .i64 0, .agg #[.int .i64 F0, .int .i64 F1]]) (by simp [results, Tryd.results16, go_sem, x0', x1']) rfl (DiR.bad Hnz.out (put2d HEy.out HwH.out _ _))
  have hcb := nf' hz
  have hF1 := Hr0.out hz
  have HF0 := Lib.hid (And.intro hz hF1)
  obtain ⟨hN', hps, hac, hcm, B, keys, rfl, hGr, hSm⟩ := Hrd.out hz
  subst hN'
  obtain ⟨n1, n12, nk⟩ := Hz.out hz
  rw [Hlg.out] at nk
  obtain ⟨nn, rfl⟩ : ∃ nn : Nat, N' = (nn : Int) := ⟨N'.toNat, by omega⟩
  simp only [Int.toNat_natCast] at hps hSm
  have hnk : n = k := by have h9 := hps.1; unfold psL at h9; rw [List.length_map, Hlg.out] at h9; omega
  have hnn : nn ≤ 12 ∧ 1 ≤ nn := by omega
  have hk12 : n ≤ 12 := by omega
  have hhid : ∀ p : PK, (shN (psL nn gens) p == 0 && !decide ((p.x, p.z) ∈ keys)) = hidB nn gens p := fun p => by
    unfold hidB
    have : decide ((p.x, p.z) ∈ keys) = decide ((p.x, p.z) ∈ gsL (psL nn gens)) := by simp only [hSm (p.x, p.z)]
    rw [this]
  have HFi := Lib.hid (fun (wx : World) (hx : Ext U wx) => first_any 35 #[.pointer (some ⟨K, 0, none⟩)] (hidB nn gens) nn n c' hnn.1 a (some B) wx (HL.out.ext (HEU.out.trans hx)) (enters_of Tryd.func35 (by kernel_rfl) rfl) (fun p wy hy => by
    rw [← hhid p]
    exact distance1_any p (psL nn gens) (nn : Int) a n c' B keys K wy ((hps.ext HE1U.out).ext (hx.trans hy)) hk12 (HfU.out.ext (hx.trans hy)) ((hGr.ext HE1U.out).ext (hx.trans hy))))
  have HD := Lib.hid (show diN nn gens = diN ((nn : Int).toNat) gens by rw [Int.toNat_natCast])
  unfold diN at HD
  obtain ⟨fp, hfp⟩ : ∃ fp, fstP (hidB nn gens) nn = fp := ⟨_, rfl⟩
  rw [hfp] at HFi
  have HD2 := Lib.hid (show pcF 16 (fp.x ||| fp.z) = diN ((nn : Int).toNat) gens by rw [Int.toNat_natCast]; unfold diN; rw [hfp])
  have HWt := Lib.hid (fun wx => Weight_any fp wx)
  obtain ⟨dd, hdd⟩ : ∃ dd, pcF 16 (fp.x ||| fp.z) = dd := ⟨_, rfl⟩
  rw [hdd] at HWt HD2
  unfold pvK at HFi HWt
  have HFi0 := Lib.hid (HFi.out U (Ext.refl _))
  have f0 := HfU.out.x0; have f1 := HfU.out.x1; have f2 := HfU.out.x2
  clear hz hF1 hps hac hcm hGr hSm n1 n12 nk hnk hnn hk12 Hrd hhid hfp hdd HD HFi
  go_upto_region 5 with fail
  clear hcb u0 u1
  go_wp2_with fail
  refine HFi0.out.mono ?_
  rintro e w5 ⟨rfl, hx5⟩
  have H5 := Lib.hid hx5
  clear hx5 HFi0 f0 f1 f2
  go_wp2_with fail
  refine (HWt.out w5).mono ?_
  rintro e w6 ⟨rfl, hx6⟩
  have E6 : Ext W0 w6 := HEU.out.trans (H5.out.trans hx6)
  have bz := HFt.out.ext E6; have x0' := bz.x0; have x1' := bz.x1; have g0' := bz.f 0; have g1' := bz.f 1
  have HEy := Lib.hid (HE0.out.trans E6)
  have HX0 := Lib.hid (show FtB ((w6.setCell ⟨H + 1, 0, none⟩ (.int .i64 0)).setCell ⟨H + 1, 1, none⟩ (.int .i64 0)) (H + 1) 0 0 from ⟨row_put (row_put bz.row rfl) rfl⟩)
  have HEz := Lib.hid (put2x HEy.out HwH.out (.int .i64 0) (.int .i64 0))
  clear hx6 E6 bz HWt
  go_wp2_with fail
  clear x0' x1' g0' g1'
  generalize (w6.setCell ⟨H + 1, 0, none⟩ (.int .i64 0)).setCell ⟨H + 1, 1, none⟩ (.int .i64 0) = WF at *
  have x0' := HX0.out.x0; have x1' := HX0.out.x1
  exact bodyPost_ret (v := .tuple #[.int .i64 (dd : Int), .agg #[.int .i64 0, .int .i64 0]]) (by simp [results, Tryd.results16, go_sem, x0', x1']) rfl (DiR.good HF0.out.1 HF0.out.2 HD2.out HEz.out)
end Go.Proofs.YtfoncakadficlaaDoor
namespace Go.Proofs.YtfoncakadficlaaDoor
open Go.RowKit

/-- What lies in memory behind Patch. -/
structure PcS (u w : World) (N : Int) (gens : List (List UInt8)) (ao : Option Addr) (k cp : Nat) (H K : Nat) (f0 f1 : Int) : Prop where
  e : Ext u w
  c : CoB w H N ao k cp
  f : FtB w K f0 f1
  hs : StrsAt w ao k gens
  lt : LtL w
  o : u.heap.size ≤ H ∧ H < K
section
variable {u w w' : World} {N : Int} {gens : List (List UInt8)} {ao : Option Addr} {k cp : Nat} {H K : Nat} {f0 f1 : Int}
theorem PcS.ext (h : PcS u w N gens ao k cp H K f0 f1) (x : Ext w w') : PcS u w' N gens ao k cp H K f0 f1 :=
  ⟨h.e.trans x, h.c.ext x, h.f.ext x, h.hs.ext x, h.lt.ext x, h.o⟩
end
/-- The two variables, new, and what is stored into them. -/
theorem pcs_new {u w : World} {N : Int} {gens : List (List UInt8)} {ao : Option Addr} {k cp : Nat} (f0 f1 : Int) (e : Ext u w) (hs : StrsAt w ao k gens) (lt : LtL w) :
    PcS u ((w.alloc (.cells #[.int .i64 N, .slice ao k cp] 24)).alloc (.cells #[.int .i64 f0, .int .i64 f1] 27)) N gens ao k cp w.heap.size (w.heap.size + 1) f0 f1 := by
  have E : Ext w ((w.alloc (.cells #[.int .i64 N, .slice ao k cp] 24)).alloc (.cells #[.int .i64 f0, .int .i64 f1] 27)) := (ext_al w _).trans (ext_al _ _)
  exact ⟨e.trans E, (CoB.new w _ _ _ _).ext (ext_al _ _), ⟨by
    have := heap_alloc_new (w.alloc (.cells #[.int .i64 N, .slice ao k cp] 24)) (.cells #[.int .i64 f0, .int .i64 f1] 27)
    simpa using this⟩, hs.ext E, lt.ext E, e.size, by omega⟩

set_option maxRecDepth 100000 in
set_option maxHeartbeats 8000000 in
theorem patches_bad (r c : Int) (w : World) (h : ¬ ((1 ≤ r ∧ r ≤ 12) ∧ (1 ≤ c ∧ c ≤ 12) ∧ r * c ≤ 12)) (hL : LtL w) :
    Calls Tryd.prog 6 #[.int .i64 r, .int .i64 c] w fun e w' => e = .returned (.bool true) ∧ Ext w w' := by
  have HP := Lib.hid (Patch_bad r c w h)
  have HL := Lib.hid hL
  have HSc := Lib.hid (fun (wx : World) => sameCode_any 0 [] none 0 0 none 0 wx ⟨rfl, Or.inl rfl⟩ ⟨rfl, Or.inl rfl⟩ (by decide))
  have Hh := Lib.hid h
  clear hL h
  go_enter Tryd.func6, Tryd.ntmps6
  go_wp2_with fail
  refine HP.out.mono ?_
  rintro e w1 ⟨rfl, x1⟩
  have Hx1 := Lib.hid x1
  have HL1 := Lib.hid (HL.out.ext x1)
  clear x1
  go_upto_region 2 with fail
  obtain ⟨H, hH⟩ : ∃ H, w1.heap.size = H := ⟨_, rfl⟩
  obtain ⟨W1, hW1⟩ : ∃ V, (w1.alloc (.cells #[.int .i64 0, .slice none 0 0] 24)).alloc (.cells #[.int .i64 25, .int .i64 0] 27) = V := ⟨_, rfl⟩
  have hQ := pcs_new (N := 0) (gens := []) (ao := none) (k := 0) (cp := 0) 25 0 Hx1.out ⟨rfl, Or.inl rfl⟩ HL1.out
  rw [hW1, hH] at hQ
  have HB := Lib.hid (codeBegun_any W1 hQ.lt)
  have HQ := Lib.hid hQ
  rw [hH, hW1]
  clear hQ hH hW1
  go_wp2_with fail
  refine HB.out.mono ?_
  rintro e w2 ⟨rfl, x2⟩
  have HQ2 := Lib.hid (HQ.out.ext x2)
  have z0 := HQ2.out.f.x0; have z1 := HQ2.out.f.x1
  have v0 := HQ2.out.c.x0; have v1 := HQ2.out.c.x1
  have HE2 := Lib.hid HQ2.out.e
  clear x2
  by_cases h1 : r < 1
  · go_wp2_with fail
    refine (HSc.out _).mono ?_
    rintro e w3 ⟨rfl, x3⟩
    have H3 := Lib.hid (HE2.out.trans x3)
    clear x3
    go_wp2_with fail
    go_ret
    exact ⟨rfl, H3.out⟩
  by_cases h2 : c < 1
  · go_wp2_with fail
    refine (HSc.out _).mono ?_
    rintro e w3 ⟨rfl, x3⟩
    have H3 := Lib.hid (HE2.out.trans x3)
    clear x3
    go_wp2_with fail
    go_ret
    exact ⟨rfl, H3.out⟩
  by_cases h3 : (12 : Int) < r
  · go_wp2_with fail
    refine (HSc.out _).mono ?_
    rintro e w3 ⟨rfl, x3⟩
    have H3 := Lib.hid (HE2.out.trans x3)
    clear x3
    go_wp2_with fail
    go_ret
    exact ⟨rfl, H3.out⟩
  by_cases h4 : (12 : Int) < c
  · go_wp2_with fail
    refine (HSc.out _).mono ?_
    rintro e w3 ⟨rfl, x3⟩
    have H3 := Lib.hid (HE2.out.trans x3)
    clear x3
    go_wp2_with fail
    go_ret
    exact ⟨rfl, H3.out⟩
  have wk : IntKind.i64.wrap (r * c) = r * c := by
    rw [IntKind.wrap_i64]
    have h5 : 0 ≤ r * c := Int.mul_nonneg (by omega) (by omega)
    have h6 : r * c ≤ 12 * 12 := Int.mul_le_mul (by omega) (by omega) (by omega) (by omega)
    omega
  have h5 : (12 : Int) < r * c := by
    have h6 : ¬ r * c ≤ 12 := fun h6 => Hh.out ⟨by omega, by omega, h6⟩
    omega
  obtain ⟨m, hm⟩ : ∃ m, r * c = m := ⟨_, rfl⟩
  have wk' : IntKind.i64.wrap (r * c) = m := wk.trans hm
  rw [hm] at h5
  clear wk hm
  go_wp2_with fail
  refine (HSc.out _).mono ?_
  rintro e w3 ⟨rfl, x3⟩
  have H3 := Lib.hid (HE2.out.trans x3)
  clear x3
  go_wp2_with fail
  go_ret
  exact ⟨rfl, H3.out⟩
end Go.Proofs.YtfoncakadficlaaDoor
namespace Go.Proofs.YtfoncakadficlaaDoor
open Go.RowKit

theorem pat_len_dec : ∀ r, r < 13 → ∀ c, c < 13 → (decide (1 ≤ r ∧ 1 ≤ c ∧ r * c ≤ 12) = true → (patG r c).all (fun T => decide (T.length = r * c + 1)) = true) := by decide +kernel
theorem pat_len {r c : Nat} (h1 : 1 ≤ r) (h2 : 1 ≤ c) (h3 : r * c ≤ 12) {T : List UInt8} (hT : T ∈ patG r c) : T.length = r * c + 1 :=
  of_decide_eq_true (List.all_eq_true.1 (pat_len_dec r (pat_lt h1 h2 h3).1 c (pat_lt h1 h2 h3).2 (decide_eq_true ⟨h1, h2, h3⟩)) T hT)
set_option maxRecDepth 100000 in
theorem pat_rs_dec : ∀ r, r < 7 → ∀ c, c < 7 → (decide (1 ≤ r ∧ 1 ≤ c ∧ r * c ≤ 6) = true → rsF ((r * c : Nat) : Int) (patG r c) = (0, 0)) := by decide +kernel
set_option maxRecDepth 100000 in
theorem pat_di_dec : ∀ r, r < 7 → ∀ c, c < 7 → (decide (1 ≤ r ∧ 1 ≤ c ∧ r * c ≤ 6) = true → diN (r * c) (patG r c) = min r c) := by decide +kernel
theorem pat_lt6 {r c : Nat} (h1 : 1 ≤ r) (h2 : 1 ≤ c) (h3 : r * c ≤ 6) : r < 7 ∧ c < 7 :=
  ⟨by have := Nat.le_mul_of_pos_right r h2; omega, by have := Nat.le_mul_of_pos_left c h1; omega⟩
theorem pat_rs {r c : Nat} (h1 : 1 ≤ r) (h2 : 1 ≤ c) (h3 : r * c ≤ 6) : rsF ((r * c : Nat) : Int) (patG r c) = (0, 0) := pat_rs_dec r (pat_lt6 h1 h2 h3).1 c (pat_lt6 h1 h2 h3).2 (decide_eq_true ⟨h1, h2, h3⟩)
theorem pat_di {r c : Nat} (h1 : 1 ≤ r) (h2 : 1 ≤ c) (h3 : r * c ≤ 6) : diN (r * c) (patG r c) = min r c := pat_di_dec r (pat_lt6 h1 h2 h3).1 c (pat_lt6 h1 h2 h3).2 (decide_eq_true ⟨h1, h2, h3⟩)
end Go.Proofs.YtfoncakadficlaaDoor
namespace Go.Proofs.YtfoncakadficlaaDoor
open Go.RowKit

/-- The first k texts that are wanted. -/
def wS (r c k : Nat) : List (List UInt8) := (List.range k).map fun t => wtx r c t (r * c)
theorem wS_len (r c k : Nat) : (wS r c k).length = k := by simp [wS]
theorem wS_snoc (r c k : Nat) : wS r c (k + 1) = wS r c k ++ [wtx r c k (r * c)] := by
  unfold wS
  rw [List.range_succ, List.map_append]
  rfl
theorem wtx_len (r c k q : Nat) : (wtx r c k q).length = q + 1 := by simp [wtx]
theorem wtx_snoc {r c k q : Nat} {L : UInt8} (h : wlt r c k q = L) : (⟨(wtx r c k q).toArray⟩ : ByteArray) ++ ⟨#[L]⟩ = ⟨(wtx r c k (q + 1)).toArray⟩ := by
  rw [show (⟨#[L]⟩ : ByteArray) = ⟨([L] : List UInt8).toArray⟩ from rfl, str_append]
  unfold wtx
  rw [List.range_succ, List.map_append, List.map_cons, List.map_nil, h]
  rfl
theorem pat_all {r c : Nat} (h1 : 1 ≤ r) (h2 : 1 ≤ c) (h3 : r * c ≤ 12) : wS r c (r * (c - 1) + r - 1) = patG r c := (pat_same h1 h2 h3).symm

set_option maxRecDepth 100000 in
set_option maxHeartbeats 16000000 in
theorem patches_good (r c : Nat) (w : World) (h1 : 1 ≤ r) (h2 : 1 ≤ c) (h3 : r * c ≤ 12) (hL : LtL w) :
    Calls Tryd.prog 6 #[.int .i64 (r : Int), .int .i64 (c : Int)] w fun e w' => e = .returned (.bool true) ∧ Ext w w' := by
  obtain ⟨hr12, hc12⟩ := pat_lt h1 h2 h3
  obtain ⟨i0, hi0, hz0, hz1, hz2⟩ := info_parts s_info
  obtain ⟨m, hm⟩ : ∃ m, r * c = m := ⟨_, rfl⟩
  have wm : IntKind.i64.wrap ((r : Int) * (c : Int)) = (m : Int) := by rw [IntKind.wrap_i64, ← Int.natCast_mul, hm]; omega
  obtain ⟨c1, hc1⟩ : ∃ c1, c - 1 = c1 := ⟨_, rfl⟩
  have wc1 : IntKind.i64.wrap ((c : Int) - 1) = (c1 : Int) := by rw [IntKind.wrap_i64]; omega
  have hrc : r * c1 ≤ r * c := Nat.mul_le_mul (Nat.le_refl r) (by omega)
  obtain ⟨rc, hrcd⟩ : ∃ rc, r * c1 = rc := ⟨_, rfl⟩
  have wrc : IntKind.i64.wrap ((r : Int) * (c1 : Int)) = (rc : Int) := by rw [IntKind.wrap_i64, ← Int.natCast_mul, hrcd]; omega
  have wM1 : IntKind.i64.wrap ((rc : Int) + (r : Int)) = ((rc + r : Nat) : Int) := by rw [IntKind.wrap_i64]; omega
  obtain ⟨Mr, hMr⟩ : ∃ M, rc + r = M := ⟨_, rfl⟩
  obtain ⟨M, hM⟩ : ∃ M, rc + r - 1 = M := ⟨_, rfl⟩
  have wM2 : IntKind.i64.wrap ((Mr : Int) - 1) = (M : Int) := by rw [IntKind.wrap_i64]; omega
  rw [hMr] at wM1
  have t1 : ¬ (r : Int) < 1 := by omega
  have t2 : ¬ (c : Int) < 1 := by omega
  have t3 : ¬ (12 : Int) < (r : Int) := by omega
  have t4 : ¬ (12 : Int) < (c : Int) := by omega
  have t5 : ¬ (12 : Int) < (m : Int) := by omega
  have cz : ¬ (c : Int) = 0 := by omega
  have HP := Patch_good r c w h1 h2 h3
  unfold PtR at HP
  rw [hm] at HP
  have HP := Lib.hid HP
  have HL := Lib.hid hL
  have Hm := Lib.hid hm; have Hc1 := Lib.hid hc1; have Hrcd := Lib.hid hrcd; have HM := Lib.hid hM
  have Hb := Lib.hid (show r < 13 ∧ c < 13 ∧ 1 ≤ r ∧ 1 ≤ c ∧ m ≤ 12 ∧ rc ≤ 12 ∧ M ≤ 24 by omega)
  have Hall := Lib.hid (show wS r c M = patG r c by rw [← hM, ← hrcd, ← hc1]; exact pat_all h1 h2 h3)
  clear h1 h2 h3 hm hc1 hrc hrcd hM hMr hL hr12 hc12
  go_enter Tryd.func6, Tryd.ntmps6
  go_wp2_with fail
  refine HP.out.mono ?_
  rintro e w1 ⟨a, k, cp, rfl, hs, x1⟩
  have Hx1 := Lib.hid x1; have Hs := Lib.hid hs
  clear x1 hs
  go_upto_region 2 with fail
  have hQ := pcs_new (N := (m : Int)) (gens := patG r c) (ao := a) (k := k) (cp := cp) 0 0 Hx1.out Hs.out (HL.out.ext Hx1.out)
  obtain ⟨H, hH⟩ : ∃ H, w1.heap.size = H := ⟨_, rfl⟩
  obtain ⟨W1, hW1⟩ : ∃ V, (w1.alloc (.cells #[.int .i64 (m : Int), .slice a k cp] 24)).alloc (.cells #[.int .i64 0, .int .i64 0] 27) = V := ⟨_, rfl⟩
  rw [hW1, hH] at hQ
  have HB := Lib.hid (codeBegun_any W1 hQ.lt)
  have HQ := Lib.hid hQ
  rw [hH, hW1]
  clear hQ hH hW1
  go_wp2_with fail
  refine HB.out.mono ?_
  rintro e w2 ⟨rfl, x2⟩
  have HQ2 := Lib.hid (HQ.out.ext x2)
  clear x2
  go_wp2_with fail
  go_loopg [7, 8] M (fun kk s7 s8 wr => ∃ i : Nat, s8 = .int .i64 (i : Int) ∧ i ≤ M ∧ M - i = kk ∧ Ext w2 wr ∧ wr.ownsRow w2.heap.size 9 1 s7 i (sC (wS r c i)))
  case atStart => exact ⟨0, rfl, Nat.zero_le _, rfl, Ext.refl _, rfl, Or.inl ⟨rfl, rfl⟩⟩
  case round =>
    obtain ⟨i, rfl, hi, hkk, hE, hown⟩ := hrel
    have Hkk := Lib.hid hkk; have HE := Lib.hid hE; have Hown := Lib.hid hown
    by_cases hiM : i = M
    · have p1 : ¬ (i : Int) < (M : Int) := by omega
      rw [hiM, Hall.out] at Hown
      have HQ3 := HQ2.out.ext hE
      obtain ⟨a2, c2, rfl, hc2, hm2, hs2⟩ := strs_of_own Hown.out
      have hkM : k = M := HQ3.hs.1.symm.trans hs2.1
      subst hkM
      have HSc := Lib.hid (sameCode_any (m : Int) (patG r c) a k cp a2 c2 wr HQ3.hs hs2 (by have := Hb.out; omega))
      have HQ3 := Lib.hid HQ3
      have z0 := HQ3.out.f.x0; have v0 := HQ3.out.c.x0; have v1 := HQ3.out.c.x1
      clear hkk hE hown hi hiM hc2 hm2 hs2
      go_wp2_with fail
      refine HSc.out.mono ?_
      rintro e w3 ⟨rfl, x3⟩
      have HQ4 := Lib.hid (HQ3.out.ext x3)
      clear x3 z0 v0 v1
      by_cases h6 : 6 < m
      · have t6 : (6 : Int) < (m : Int) := by omega
        have HE4 := Lib.hid HQ4.out.e
        clear h6
        go_wp2_with fail
        go_ret
        exact ⟨rfl, HE4.out⟩
      have t6 : ¬ (6 : Int) < (m : Int) := by omega
      have hb := Hb.out
      have hD := Distance_any (m : Int) (patG r c) a k cp w3 HQ4.out.hs (fun T hT => by have := pat_len hb.2.2.1 hb.2.2.2.1 (by rw [Hm.out]; exact hb.2.2.2.2.1) hT; rw [Hm.out] at this; omega) (by omega) HQ4.out.lt
      have e1 := pat_rs hb.2.2.1 hb.2.2.2.1 (by rw [Hm.out]; omega)
      have e2 := pat_di hb.2.2.1 hb.2.2.2.1 (by rw [Hm.out]; omega)
      rw [Hm.out] at e1 e2
      rw [e1, Int.toNat_natCast, e2] at hD
      obtain ⟨d, hd⟩ : ∃ d, min r c = d := ⟨_, rfl⟩
      rw [hd] at hD
      have hdi : min (r : Int) (c : Int) = (d : Int) := by omega
      have HD := Lib.hid hD
      have v0 := HQ4.out.c.x0; have v1 := HQ4.out.c.x1
      clear h6 hb hD e1 e2 hd
      go_wp2_with fail
      refine HD.out.mono ?_
      rintro e w4 ⟨rfl, x4⟩
      simp only [if_true]
      have HQ5 := Lib.hid (HQ4.out.ext x4)
      have z0 := HQ5.out.f.x0; have z1 := HQ5.out.f.x1; have zf0 := HQ5.out.f.f 0; have zf1 := HQ5.out.f.f 1
      have HE5 := Lib.hid (put2x HQ5.out.e (Nat.le_trans HQ5.out.o.1 (Nat.le_of_lt HQ5.out.o.2)) (.int .i64 0) (.int .i64 0))
      clear x4 v0 v1
      go_upto_region 29 with fail
      obtain ⟨W5, hW5⟩ : ∃ V, (w4.setCell ⟨H + 1, 0, none⟩ (.int .i64 0)).setCell ⟨H + 1, 1, none⟩ (.int .i64 0) = V := ⟨_, rfl⟩
      have hF5 : FtB W5 (H + 1) 0 0 := by rw [← hW5]; exact ⟨row_put (row_put HQ5.out.f.row rfl) rfl⟩
      rw [hW5] at HE5 ⊢
      clear z0 z1 zf0 zf1 hW5
      have z0 := hF5.x0
      clear hF5
      go_wp2_with fail
      go_ret
      exact ⟨rfl, HE5.out⟩
    have hlt : i < M := by omega
    have p1 : (i : Int) < (M : Int) := by omega
    have wi2 : IntKind.i64.wrap ((i : Int) + 1) = ((i + 1 : Nat) : Int) := by rw [IntKind.wrap_i64]; have := Hb.out; omega
    have Hlt := Lib.hid hlt
    obtain ⟨wA, hwA⟩ : ∃ wA, wA = wr := ⟨_, rfl⟩
    subst hwA
    clear hkk hE hown hi hiM hlt
    go_wp2_with fail
    go_loopg [9, 10] m (fun jj s9 s10 wx => ∃ q : Nat, s10 = .int .i64 (q : Int) ∧ q ≤ m ∧ m - q = jj ∧ s9 = .string ⟨(wtx r c i q).toArray⟩ ∧ Ext wA wx)
    case atStart => exact ⟨0, rfl, Nat.zero_le _, rfl, rfl, Ext.refl _⟩
    case round =>
      obtain ⟨q, rfl, hq, hjk, rfl, hx⟩ := hrel
      have Hjk := Lib.hid hjk; have Hx := Lib.hid hx
      by_cases hqm : q = m
      · have p2 : ¬ (q : Int) < (m : Int) := by omega
        have HS := Lib.hid (show wS r c i ++ [wtx r c i q] = wS r c (i + 1) by rw [wS_snoc, Hm.out, hqm])
        obtain ⟨P, hP⟩ : ∃ P, wtx r c i q = P := ⟨_, rfl⟩
        rw [hP] at HS ⊢
        have HO := Lib.hid (own_kpt Hown.out hx)
        have Hsz := Lib.hid (Nat.le_trans HE.out.size hx.size)
        have HE3 := Lib.hid (HE.out.trans hx)
        have Hwl := Lib.hid (wS_len r c i)
        clear hjk hx hq hqm hP
        go_wp2_with (at_builtin; refine wpList_append_own _ rfl _ _ 22 rfl w2.heap.size 9 i0 (.string ⟨#[]⟩) 1 16 Tryd.underlying22 hi0 hz0 hz1 hz2 rfl (by decide) _ i (sC (wS r c i)) rfl (HO.out.alloc _) ⟨wr.heap.size, 0, none⟩ 1 1 [.string ⟨P.toArray⟩] rfl rfl (new_s wr _ _) (one_s _) (by unfold maxLen; have := Hlt.out; have := Hb.out; omega) (by have := Hlt.out; have := Hb.out; omega) (Nat.le_trans Hsz.out (ext_al wr _).size) ?_; intro v' w7 hown' hgrow' _)
        go_roundg (M - (i + 1))
        case measure => have := Hkk.out; have := Hlt.out; omega
        case rel => exact ⟨i + 1, rfl, Hlt.out, rfl, grown_ext (HE3.out.trans (ext_al wr _)) hgrow' (fun k hk => (own_lt HO.out k hk).1), by rw [← HS.out, sC_snoc]; exact hown'⟩
      have hqlt : q < m := by omega
      have p2 : (q : Int) < (m : Int) := by omega
      have wq2 : IntKind.i64.wrap ((q : Int) + 1) = ((q + 1 : Nat) : Int) := by rw [IntKind.wrap_i64]; have := Hb.out; omega
      obtain ⟨qc, hqc⟩ : ∃ qc, q / c = qc := ⟨_, rfl⟩
      have wqc : (q : Int).tdiv (c : Int) = (qc : Int) := by rw [← hqc]; exact (Int.ofNat_tdiv q c).symm
      have qcl : qc ≤ q := by rw [← hqc]; exact Nat.div_le_self _ _
      have wqw : IntKind.i64.wrap (qc : Int) = (qc : Int) := by rw [IntKind.wrap_i64]; have := Hb.out; omega
      have Hqlt := Lib.hid hqlt
      have hwl : wlt r c i q = if i < rc then (if q = i / c1 * c + i % c1 ∨ q = i / c1 * c + i % c1 + 1 then 90 else 73) else if qc = i - rc ∨ qc = i - rc + 1 then 88 else 73 := by
        unfold wlt
        rw [hqc, Hc1.out, Hrcd.out]
      have Hqc := Lib.hid (And.intro hqc qcl)
      clear hjk hx hq hqm hqlt hqc qcl
      obtain ⟨P, hPd⟩ : ∃ P, wtx r c i q = P := ⟨_, rfl⟩
      have sz : ¬ 9223372036854775807 < P.length + 1 := by rw [← hPd, wtx_len]; have := Hb.out; have := Hqlt.out; omega
      rw [hPd]
      by_cases hk : i < rc
      · have k1 : (i : Int) < (rc : Int) := by omega
        have hc1p : 0 < c1 := by
          rcases Nat.eq_zero_or_pos c1 with h0 | h0
          · have := Hrcd.out
            rw [h0, Nat.mul_zero] at this
            omega
          · exact h0
        have cz1 : ¬ (c1 : Int) = 0 := by omega
        obtain ⟨ic, hic⟩ : ∃ ic, i / c1 = ic := ⟨_, rfl⟩
        have wic : (i : Int).tdiv (c1 : Int) = (ic : Int) := by rw [← hic]; exact (Int.ofNat_tdiv i c1).symm
        have icl : ic ≤ i := by rw [← hic]; exact Nat.div_le_self _ _
        have wicw : IntKind.i64.wrap (ic : Int) = (ic : Int) := by rw [IntKind.wrap_i64]; have := Hlt.out; have := Hb.out; omega
        obtain ⟨im, him⟩ : ∃ im, i % c1 = im := ⟨_, rfl⟩
        have wim : (i : Int).tmod (c1 : Int) = (im : Int) := by rw [← him]; exact (Int.ofNat_tmod i c1).symm
        have iml : im < c1 := by rw [← him]; exact Nat.mod_lt _ hc1p
        have wimw : IntKind.i64.wrap (im : Int) = (im : Int) := by rw [IntKind.wrap_i64]; have := Hc1.out; have := Hb.out; omega
        have hicc : ic * c ≤ 24 * 13 := Nat.mul_le_mul (by have := Hlt.out; have := Hb.out; omega) (by have := Hb.out; omega)
        obtain ⟨icc, hiccd⟩ : ∃ icc, ic * c = icc := ⟨_, rfl⟩
        have wicc : IntKind.i64.wrap ((ic : Int) * (c : Int)) = (icc : Int) := by rw [IntKind.wrap_i64, ← Int.natCast_mul, hiccd]; omega
        obtain ⟨f, hf⟩ : ∃ f, icc + im = f := ⟨_, rfl⟩
        have wf : IntKind.i64.wrap ((icc : Int) + (im : Int)) = (f : Int) := by rw [IntKind.wrap_i64, ← hf]; have := Hc1.out; have := Hb.out; omega
        have wf1 : IntKind.i64.wrap ((f : Int) + 1) = ((f + 1 : Nat) : Int) := by rw [IntKind.wrap_i64]; have := Hc1.out; have := Hb.out; omega
        rw [if_pos hk, hic, him, hiccd, hf] at hwl
        clear hk hc1p hic icl him iml hicc hiccd hf
        go_upto_region 17 with fail
        go_quiet (fail)
        obtain ⟨wB, hwB⟩ : ∃ V, wr.drewN nq = V := ⟨_, rfl⟩
        have Hx := Lib.hid (Hx.out.trans (show Ext wr wB by rw [← hwB]; exact ext_drewN _ _))
        rw [hwB]
        clear hwB
        clear wic wicw wim wimw wicc wf cz1 k1
        by_cases e1 : q = f
        · have e1b : ((q : Int) == (f : Int)) = true := by rw [e1]; exact beq_self_eq_true _
          have HS := Lib.hid (wtx_snoc (show wlt r c i q = 90 by rw [hwl, if_pos (Or.inl e1)]))
          rw [hPd] at HS
          clear hwl hPd e1
          go_wp2_with fail
          go_roundg (m - (q + 1))
          case measure => have := Hjk.out; have := Hqlt.out; omega
          case rel => exact ⟨q + 1, rfl, Hqlt.out, rfl, congrArg Value.string HS.out, Hx.out⟩
        have e1b : ((q : Int) == (f : Int)) = false := bf (by omega)
        obtain ⟨f1, hf1⟩ : ∃ f1, f + 1 = f1 := ⟨_, rfl⟩
        rw [hf1] at wf1 hwl
        by_cases e2 : q = f1
        · have e2b : ((q : Int) == (f1 : Int)) = true := by rw [e2]; exact beq_self_eq_true _
          have HS := Lib.hid (wtx_snoc (show wlt r c i q = 90 by rw [hwl, if_pos (Or.inr e2)]))
          rw [hPd] at HS
          clear hwl hPd e1 e2 hf1
          go_wp2_with fail
          go_roundg (m - (q + 1))
          case measure => have := Hjk.out; have := Hqlt.out; omega
          case rel => exact ⟨q + 1, rfl, Hqlt.out, rfl, congrArg Value.string HS.out, Hx.out⟩
        have e2b : ((q : Int) == (f1 : Int)) = false := bf (by omega)
        have HS := Lib.hid (wtx_snoc (show wlt r c i q = 73 by rw [hwl, if_neg (by rintro (h | h); exact e1 h; exact e2 h)]))
        rw [hPd] at HS
        clear hwl hPd e1 e2 hf1
        go_wp2_with fail
        go_roundg (m - (q + 1))
        case measure => have := Hjk.out; have := Hqlt.out; omega
        case rel => exact ⟨q + 1, rfl, Hqlt.out, rfl, congrArg Value.string HS.out, Hx.out⟩
      · have k1 : ¬ (i : Int) < (rc : Int) := by omega
        obtain ⟨d, hd⟩ : ∃ d, i - rc = d := ⟨_, rfl⟩
        have wd : IntKind.i64.wrap ((i : Int) - (rc : Int)) = (d : Int) := by rw [IntKind.wrap_i64]; have := Hlt.out; have := Hb.out; omega
        obtain ⟨d1, hd1⟩ : ∃ d1, d + 1 = d1 := ⟨_, rfl⟩
        have wd1 : IntKind.i64.wrap ((d : Int) + 1) = (d1 : Int) := by rw [IntKind.wrap_i64]; have := Hlt.out; have := Hb.out; omega
        rw [if_neg hk, hd, hd1] at hwl
        clear hk hd
        by_cases e1 : qc = d
        · have e1b : ((qc : Int) == (d : Int)) = true := by rw [e1]; exact beq_self_eq_true _
          have HS := Lib.hid (wtx_snoc (show wlt r c i q = 88 by rw [hwl, if_pos (Or.inl e1)]))
          rw [hPd] at HS
          clear hwl hPd e1
          go_wp2_with fail
          go_roundg (m - (q + 1))
          case measure => have := Hjk.out; have := Hqlt.out; omega
          case rel => exact ⟨q + 1, rfl, Hqlt.out, rfl, congrArg Value.string HS.out, Hx.out⟩
        have e1b : ((qc : Int) == (d : Int)) = false := bf (by omega)
        by_cases e2 : qc = d1
        · have e2b : ((qc : Int) == (d1 : Int)) = true := by rw [e2]; exact beq_self_eq_true _
          have HS := Lib.hid (wtx_snoc (show wlt r c i q = 88 by rw [hwl, if_pos (Or.inr e2)]))
          rw [hPd] at HS
          clear hwl hPd e1 e2 hd1
          go_wp2_with fail
          go_roundg (m - (q + 1))
          case measure => have := Hjk.out; have := Hqlt.out; omega
          case rel => exact ⟨q + 1, rfl, Hqlt.out, rfl, congrArg Value.string HS.out, Hx.out⟩
        have e2b : ((qc : Int) == (d1 : Int)) = false := bf (by omega)
        have HS := Lib.hid (wtx_snoc (show wlt r c i q = 73 by rw [hwl, if_neg (by rintro (h | h); exact e1 h; exact e2 h)]))
        rw [hPd] at HS
        clear hwl hPd e1 e2 hd1
        go_wp2_with fail
        go_roundg (m - (q + 1))
        case measure => have := Hjk.out; have := Hqlt.out; omega
        case rel => exact ⟨q + 1, rfl, Hqlt.out, rfl, congrArg Value.string HS.out, Hx.out⟩

theorem patches_walk (r c : Int) (w : World) (hL : LtL w) :
    Calls Tryd.prog 6 #[.int .i64 r, .int .i64 c] w fun e w' => e = .returned (.bool true) ∧ Ext w w' := by
  by_cases h : (1 ≤ r ∧ r ≤ 12) ∧ (1 ≤ c ∧ c ≤ 12) ∧ r * c ≤ 12
  · obtain ⟨⟨r1, _⟩, ⟨c1, _⟩, h3⟩ := h
    obtain ⟨rn, rfl⟩ : ∃ n : Nat, r = (n : Int) := ⟨r.toNat, by omega⟩
    obtain ⟨cn, rfl⟩ : ∃ n : Nat, c = (n : Int) := ⟨c.toNat, by omega⟩
    have h4 : ((rn * cn : Nat) : Int) ≤ 12 := by rw [Int.natCast_mul]; exact h3
    exact patches_good rn cn w (by omega) (by omega) (by omega) hL
  · exact patches_bad r c w h hL
end Go.Proofs.YtfoncakadficlaaDoor
namespace Go.Proofs.YtfoncakadficlaaDoor
open Go.RowKit Go.ChangeShapes Go.WideShapes

/-- What lay there is as it was: what is asked behind the call. -/
theorem post_kept {H : Type} {enc : TypeId × Value → H} {P : Program} {f : Func} {s : ChangeSpec} {apart fresh handsOn again : Bool} {W W' : World} {args : Array Value} {v : Value} {ds gs : List (DataW H)} {ps : List MemPlace}
    (hW : DataW.Whole enc P f.params.toList s.vars apart W args.toList ds gs ps)
    (hres : ∀ (b : Nat) (sp : Nat → Bool) (hd : Bool), DataW.TrodAll enc P W' b sp hd f.resultTypes.toList (v.resultList f.resultTypes.size) (s.fn H (ds ++ gs)).results [])
    (hargs : ∀ sp : Nat → Bool, (∀ x ∈ ps, sp x.block = true) → DataW.TrodAll enc P W' 0 sp true f.params.toList args.toList (s.fn H (ds ++ gs)).args ps)
    (hvars : ∀ sp : Nat → Bool, DataW.TrodVars enc P W' sp s.vars (s.fn H (ds ++ gs)).vars [])
    (hb : Ext W W')
    (hok : ∀ (j : Nat) (t : TypeId) (r : Value), f.resultTypes[j]? = some t → (v.resultList f.resultTypes.size)[j]? = some r → Value.okWide P W' .any 0 t r) :
    s.post enc P f apart fresh handsOn again W args v W' := by
  have hlt := hW.lt
  have hold : ∀ x ∈ ps, decide (x.block < W.heap.size) = true := fun x hx => by simpa using hlt x hx
  have hall : ∀ x ∈ ps, (fun _ : Nat => true) x.block = true := fun _ _ => rfl
  have hn : W.noneFrozen ps ∧ (apart = true → ps.Nodup) := by
    obtain ⟨_, _, _, _, rfl, h1, h2⟩ := hW
    exact ⟨h1, h2⟩
  refine ⟨ds, gs, ps, [], ps, [], hW, hres _ _ _, hargs _ hold, hvars _, Below.frame hb _, fun _ => ?_⟩
  refine ⟨hok, _, _, ([] ++ ps) ++ [], ⟨[] ++ ps, [], trodAll_append (hargs (fun _ => true) hall) (hres _ _ _), hvars _, rfl, ?_, ?_⟩, ?_⟩
  · intro b off hp
    have hp' : MemPlace.cell b off ∈ ps := by simpa using hp
    rw [Below.frozen hb (p := ⟨b, off, none⟩) (hlt _ hp')]
    exact hn.1 b off hp'
  · intro ha
    simpa using hn.2 ha
  · intro x hx _
    simpa using hx

end Go.Proofs.YtfoncakadficlaaDoor
namespace Go.Proofs.YtfoncakadficlaaDoor
open Go.RowKit Go.ChangeShapes Go.WideShapes Go.Deep


set_option maxRecDepth 100000 in
theorem letter_row {H : Type} {enc : TypeId × Value → H} {W : World} {base : Nat} {sp : Nat → Bool} {held : Bool} {fuel : Nat} {cs : List Value} {a b : Int} {c : Bool} {p : List MemPlace}
    (h : DataW.trod enc Tryd.prog W base sp held fuel 67 cs = some (.agg [.lit (.int .u16 a), .lit (.int .u16 b), .lit (.bool c)], p)) :
    cs = [.int .u16 a, .int .u16 b, .bool c] := by
  obtain ⟨xs, n, _, hx, hl, hlen, hf⟩ := DataW.trod_struct Tryd.underlying67 h
  have hc : Tryd.prog.cellsOf 67 = 3 := by kernel_rfl
  rw [hc] at hl
  match xs, hlen, cs, hl with
  | [y0, y1, y2], _, [v0, v1, v2], _ =>
    have g0 := hf 0 _ rfl
    have g1 := hf 1 _ rfl
    have g2 := hf 2 _ rfl
    simp only [List.getElem?_cons_zero, List.getElem?_cons_succ] at g0 g1 g2
    obtain ⟨b0, e0, z0, _⟩ := DataW.trod_int Tryd.underlying65 g0
    obtain ⟨b1, e1, z1, _⟩ := DataW.trod_int Tryd.underlying65 g1
    obtain ⟨b2, e2, z2⟩ := DataW.trod_bool Tryd.underlying4 g2
    subst z0; subst z1; subst z2
    injection hx with hd _
    simp only [List.map_cons, List.map_nil, DataW.agg.injEq, List.cons.injEq, DataW.lit.injEq, Lit.int.injEq, Lit.bool.injEq, true_and, and_true] at hd
    obtain ⟨rfl, rfl, rfl⟩ := hd
    injection e0 with e0; injection e1 with e1; injection e2 with e2
    rw [e0, e1, e2]

set_option maxRecDepth 100000 in
theorem ltl_of_laid {W : World} (h : laidMet Tryd.prog [("qloom/code.letters", Rows.laid_qloom_code_letters)] W) : LtL W := by
  obtain ⟨ps, ⟨g', t', cs, fuel, p, q, hg', ht', hvar, hd, _, hps⟩, _, hfz⟩ := h
  obtain rfl := Option.some.inj ((show Tryd.prog.globalNamed "qloom/code.letters" = some 0 by kernel_rfl).symm.trans hg')
  obtain rfl := Option.some.inj ((show (Tryd.prog.globals[0]?).map (·.type) = some 120 by kernel_rfl).symm.trans ht')
  have hblk : ∃ t, W.heap[(0 : Nat)]? = some (.cells cs t (0, 0)) := by
    have hv := hvar
    simp only [World.var?, hg', Option.bind_some] at hv
    split at hv
    · rename_i c t f hc
      obtain rfl := Option.some.inj hv
      obtain ⟨xs, m, _, hx, hl, hlen, _⟩ := DataW.trod_array Tryd.underlying120 hd
      have hc9 : Tryd.prog.cellsOf 120 = 9 := by kernel_rfl
      rw [hc9] at hl
      have hs : c.size = 9 := by simpa using hl
      obtain ⟨⟨c', t', h'⟩, _⟩ := hfz 0 0 (by
        rw [hps, hs]
        refine List.mem_append_left _ (List.mem_append_left _ ?_)
        simp [MemPlace.row])
      rw [hc] at h'
      injection h' with h'
      injection h' with h1 h2 h3
      exact ⟨t, by rw [hc, h3]⟩
    · cases hv
  obtain ⟨t, ht⟩ := hblk
  obtain ⟨xs, m, _, hx, hl, hlen, hf⟩ := DataW.trod_array Tryd.underlying120 hd
  have hc9 : Tryd.prog.cellsOf 120 = 9 := by kernel_rfl
  have hc3 : Tryd.prog.cellsOf 67 = 3 := by kernel_rfl
  rw [hc9] at hl
  rw [hc3] at hf
  match xs, hlen with
  | [y0, y1, y2], _ =>
    injection hx with hx _
    unfold Rows.laid_qloom_code_letters at hx
    simp only [List.map_cons, List.map_nil, DataW.agg.injEq, List.cons.injEq, and_true] at hx
    obtain ⟨x0, x1, x2⟩ := hx
    have key : ∀ (k : Nat) (y : DataW Unit × List MemPlace) (a b : Int) (c : Bool), k < 3 → [y0, y1, y2][k]? = some y → .agg [.lit (.int .u16 a), .lit (.int .u16 b), .lit (.bool c)] = y.1 → (cs.toList.drop (k * 3)).take 3 = [.int .u16 a, .int .u16 b, .bool c] := by
      intro k y a b c hk hy he
      have h1 := hf k hk
      rw [hy] at h1
      obtain ⟨yd, yp⟩ := y
      simp only at he
      subst he
      exact letter_row h1
    have k0 := key 0 y0 _ _ _ (by omega) rfl x0
    have k1 := key 1 y1 _ _ _ (by omega) rfl x1
    have k2 := key 2 y2 _ _ _ (by omega) rfl x2
    refine ⟨t, ?_⟩
    rw [ht]
    congr 2
    apply Array.toList_inj.1
    have e : cs.toList = (cs.toList.drop (0 * 3)).take 3 ++ ((cs.toList.drop (1 * 3)).take 3 ++ (cs.toList.drop (2 * 3)).take 3) := by
      apply List.ext_getElem?
      intro i
      have hl9 : cs.toList.length = 9 := hl
      simp only [List.getElem?_append, List.getElem?_take, List.getElem?_drop, List.length_take, List.length_drop, hl9]
      by_cases h3 : i < 3
      · simp [h3]
      · by_cases h6 : i < 6
        · have : i - 3 < 3 := by omega
          simp [h3, this]
          congr 1; omega
        · by_cases h9 : i < 9
          · have a1 : ¬ i - 3 < 3 := by omega
            have a2 : i - 3 - 3 < 3 := by omega
            simp [h3, a1, a2]
            congr 1; omega
          · have a1 : ¬ i - 3 < 3 := by omega
            have a2 : ¬ i - 3 - 3 < 3 := by omega
            simp [h3, a1, a2]
            have : cs.size = 9 := by simpa using hl9
            omega
    rw [e, k0, k1, k2]
    rfl
end Go.Proofs.YtfoncakadficlaaDoor
