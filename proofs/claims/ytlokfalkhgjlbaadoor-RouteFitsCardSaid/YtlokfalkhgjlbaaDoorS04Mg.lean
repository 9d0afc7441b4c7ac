/-
  Devices in memory; the program's look at links. Devices: the links of a device, or its first fault, as the program finds them. Devices: the reference: which qubits are linked; the first fault of a device. Devices: the reference: the first fault of a device.
-/
import Derived.Test.YtlokfalkhgjlbaaDoorRows
import Derived.BigQuiet
import Derived.Deep.CutRange
import Derived.Deep.LoopGhost
import Derived.Deep.RegionHeld3
import Derived.Lib.Hide
import Derived.OwnWalk
import Derived.WalkKit
import Derived.WalkLawsBesides
import Derived.WalkSpells
import Derived.Test.YtlokfalkhgjlbaaDoorS00Ce
import Derived.Test.YtlokfalkhgjlbaaDoorS01Cj
import Derived.Test.YtlokfalkhgjlbaaDoorS03Mc
namespace Go.Proofs.YtlokfalkhgjlbaaDoor
open Go.RowKit

/-- Links, one behind the other. -/
def LnkAt (w : World) (ao : Option Addr) (n : Nat) (ls : List Lnk) : Prop :=
  ls.length = n ∧ (n = 0 ∨ ∃ b o, ao = some ⟨b, o, none⟩ ∧ b < w.heap.size ∧ ∀ t, t < n → w.cell? ⟨b, o + t * 2, none⟩ = some (.int .i64 (ls.getD t (0, 0)).1) ∧ w.cell? ⟨b, o + t * 2 + 1, none⟩ = some (.int .i64 (ls.getD t (0, 0)).2))
section
variable {w w' : World} {ao : Option Addr} {n : Nat} {ls : List Lnk}
theorem LnkAt.ext (h : LnkAt w ao n ls) (k : Ext w w') : LnkAt w' ao n ls := by
  refine ⟨h.1, ?_⟩
  rcases h.2 with h0 | ⟨b, o, e, hb, hc⟩
  · exact Or.inl h0
  · exact Or.inr ⟨b, o, e, Nat.lt_of_lt_of_le hb k.size, fun t ht => ⟨cell_ext (hc t ht).1 k, cell_ext (hc t ht).2 k⟩⟩
theorem LnkAt.at (h : LnkAt w ao n ls) (hn : 0 < n) : ∃ b o, ao = some ⟨b, o, none⟩ ∧ b < w.heap.size ∧ ∀ t, t < n → w.cell? ⟨b, o + t * 2, none⟩ = some (.int .i64 (ls.getD t (0, 0)).1) ∧ w.cell? ⟨b, o + t * 2 + 1, none⟩ = some (.int .i64 (ls.getD t (0, 0)).2) := by
  rcases h.2 with h0 | h
  · omega
  · exact h
theorem LnkAt.take (h : LnkAt w ao n ls) (m : Nat) (hm : m ≤ n) : LnkAt w ao m (ls.take m) := by
  refine ⟨by rw [List.length_take, h.1]; omega, ?_⟩
  rcases h.2 with h0 | ⟨b, o, e, hb, hc⟩
  · exact Or.inl (by omega)
  · refine Or.inr ⟨b, o, e, hb, fun t ht => ?_⟩
    have e2 : (ls.take m).getD t (0, 0) = ls.getD t (0, 0) := by rw [List.getD_eq_getElem?_getD, List.getD_eq_getElem?_getD, List.getElem?_take, if_pos ht]
    rw [e2]; exact hc t (by omega)
end
/-- A device in a variable. -/
structure DvB (W : World) (g : Nat) (N : Int) (ao : Option Addr) (n cp : Nat) : Prop where
  row : W.heap[g]? = some (.cells #[.int .i64 N, .slice ao n cp] 24 (0, 0))
section
variable {W W' : World} {g : Nat} {N : Int} {ao : Option Addr} {n cp : Nat}
theorem DvB.lt (h : DvB W g N ao n cp) : g < W.heap.size := (Array.getElem?_eq_some_iff.1 h.row).1
theorem DvB.ext (h : DvB W g N ao n cp) (k : Ext W W') : DvB W' g N ao n cp := ⟨(k.block _ h.lt).trans h.row⟩
theorem DvB.x0 (h : DvB W g N ao n cp) : W.cell? ⟨g, 0, none⟩ = some (.int .i64 N) := by rw [cell_of_row W g 0 _ _ (0, 0) h.row]; rfl
theorem DvB.x1 (h : DvB W g N ao n cp) : W.cell? ⟨g, 1, none⟩ = some (.slice ao n cp) := by rw [cell_of_row W g 1 _ _ (0, 0) h.row]; rfl
end
/-- A web's cells. -/
def webC (W : List Nat) : Array Value := (W.map fun v : Nat => Value.int .u16 (v : Int)).toArray
def zero12 : Array Value := #[.int .u16 0, .int .u16 0, .int .u16 0, .int .u16 0, .int .u16 0, .int .u16 0, .int .u16 0, .int .u16 0, .int .u16 0, .int .u16 0, .int .u16 0, .int .u16 0]
theorem webC_zero : webC (List.replicate 12 0) = zero12 := rfl
theorem webC_size (W : List Nat) : (webC W).size = W.length := by unfold webC; simp
theorem webC_one (W : List Nat) : (webC W).all (·.oneCell') = true := by
  unfold webC
  rw [List.all_toArray, List.all_map]
  exact List.all_eq_true.2 fun _ _ => rfl
theorem webC_set (W : List Nat) (i v : Nat) : (webC W).setIfInBounds i (.int .u16 (v : Int)) = webC (W.set i v) := by
  unfold webC
  rw [List.setIfInBounds_toArray, List.map_set]
theorem web_info : (Tryd.prog.info? 73).map (·.size) = some 12 := by kernel_rfl
/-- A web in a variable. -/
structure WbB (w : World) (g : Nat) (W : List Nat) : Prop where
  len : W.length = 12
  lt : ∀ q, W.getD q 0 < 65536
  row : w.heap[g]? = some (.cells (webC W) 73 (0, 0))
section
variable {w w' : World} {g : Nat} {W : List Nat}
theorem WbB.here (h : WbB w g W) : g < w.heap.size := (Array.getElem?_eq_some_iff.1 h.row).1
theorem WbB.ext (h : WbB w g W) (k : Ext w w') : WbB w' g W := ⟨h.len, h.lt, (k.block _ h.here).trans h.row⟩
theorem WbB.at (h : WbB w g W) : WebAt w g W := ⟨h.len, h.lt, fun q hq => by
  rw [cell_of_row w g q _ _ (0, 0) h.row]
  unfold webC
  rw [List.getElem?_toArray, List.getElem?_map, List.getD_eq_getElem?_getD, List.getElem?_eq_getElem (by have := h.len; omega)]
  rfl⟩
theorem WbB.f (h : WbB w g W) (o : Nat) : w.frozen? ⟨g, o, none⟩ = false := frozen_of_row w g o _ _ h.row
theorem WbB.set (h : WbB w g W) (i v : Nat) (hv : v < 65536) : WbB (w.setCell ⟨g, i, none⟩ (.int .u16 (v : Int))) g (W.set i v) := ⟨by rw [List.length_set]; exact h.len, fun q => by
    rw [List.getD_eq_getElem?_getD, List.getElem?_set]
    split
    · split
      · exact hv
      · exact Nat.zero_lt_succ _
    · have := h.lt q
      rw [List.getD_eq_getElem?_getD] at this
      exact this, by
    have a := heap_setCell_same w g i _ _ (.int .u16 (v : Int)) h.row
    rw [← webC_set]
    simpa using a⟩
end

def rfC (N : Int) (W : List Nat) (a b : Int) : Int := if a < 0 ∨ N ≤ a ∨ b < 0 ∨ N ≤ b then 10 else if a = b then 12 else if lk W a.toNat b.toNat then 27 else 0

set_option maxRecDepth 100000 in
set_option maxHeartbeats 2000000 in
theorem refuses_any (W : List Nat) (g : Nat) (a b N : Int) (w : World) (h : WebAt w g W) (hN : N ≤ 12) :
    Calls Tryd.prog 48 #[.pointer (some ⟨g, 0, none⟩), .int .i64 a, .int .i64 b, .int .i64 N] w fun e w' => e = .returned (.int .i64 (rfC N W a b)) ∧ w' = w := by
  obtain ⟨r, hr⟩ : ∃ r, rfC N W a b = r := ⟨_, rfl⟩
  rw [hr]
  unfold rfC at hr
  by_cases h1 : a < 0
  · rw [if_pos (Or.inl h1)] at hr
    have HF := Lib.hid hr.symm
    have d1 := dt h1
    clear hr h
    go_enter Tryd.func48, Tryd.ntmps48
    go_wp2_with fail
    go_ret
    exact ⟨congrArg (fun b => Ending.returned (Value.int .i64 b)) HF.out.symm, rfl⟩
  have d1 := df h1
  by_cases h2 : N ≤ a
  · rw [if_pos (Or.inr (Or.inl h2))] at hr
    have HF := Lib.hid hr.symm
    have d2 := dt h2
    clear hr h
    go_enter Tryd.func48, Tryd.ntmps48
    go_wp2_with fail
    go_ret
    exact ⟨congrArg (fun b => Ending.returned (Value.int .i64 b)) HF.out.symm, rfl⟩
  have d2 := df h2
  by_cases h3 : b < 0
  · rw [if_pos (Or.inr (Or.inr (Or.inl h3)))] at hr
    have HF := Lib.hid hr.symm
    have d3 := dt h3
    clear hr h
    go_enter Tryd.func48, Tryd.ntmps48
    go_wp2_with fail
    go_ret
    exact ⟨congrArg (fun b => Ending.returned (Value.int .i64 b)) HF.out.symm, rfl⟩
  have d3 := df h3
  by_cases h4 : N ≤ b
  · rw [if_pos (Or.inr (Or.inr (Or.inr h4)))] at hr
    have HF := Lib.hid hr.symm
    have d4 := dt h4
    clear hr h
    go_enter Tryd.func48, Tryd.ntmps48
    go_wp2_with fail
    go_ret
    exact ⟨congrArg (fun b => Ending.returned (Value.int .i64 b)) HF.out.symm, rfl⟩
  have d4 := df h4
  rw [if_neg (by omega)] at hr
  by_cases h5 : a = b
  · rw [if_pos h5] at hr
    have HF := Lib.hid hr.symm
    subst h5
    clear hr h
    go_enter Tryd.func48, Tryd.ntmps48
    go_wp2_with fail
    go_ret
    exact ⟨congrArg (fun b => Ending.returned (Value.int .i64 b)) HF.out.symm, rfl⟩
  rw [if_neg h5] at hr
  have d5 : (a == b) = false := beq_eq_false_iff_ne.2 h5
  obtain ⟨x, rfl⟩ : ∃ x : Nat, a = (x : Int) := ⟨a.toNat, by omega⟩
  obtain ⟨y, rfl⟩ : ∃ y : Nat, b = (y : Int) := ⟨b.toNat, by omega⟩
  have HC := Lib.hid (has_any W g x y w h (by omega) (by omega))
  simp only [Int.toNat_natCast] at hr
  obtain ⟨B, hB⟩ : ∃ B, lk W x y = B := ⟨_, rfl⟩
  rw [hB] at HC
  have hr : (if B = true then (27 : Int) else 0) = r := by rw [← hB]; exact hr
  clear hB h h5 h1 h2 h3 h4
  cases B
  · have HF := Lib.hid (show r = 0 from hr.symm)
    clear hr
    go_enter Tryd.func48, Tryd.ntmps48
    go_wp2_with fail
    refine HC.out.mono ?_
    rintro e w1 ⟨rfl, rfl⟩
    go_wp2_with fail
    go_ret
    exact ⟨congrArg (fun b => Ending.returned (Value.int .i64 b)) HF.out.symm, rfl⟩
  · have HF := Lib.hid (show r = 27 from hr.symm)
    clear hr
    go_enter Tryd.func48, Tryd.ntmps48
    go_wp2_with fail
    refine HC.out.mono ?_
    rintro e w1 ⟨rfl, rfl⟩
    go_wp2_with fail
    go_ret
    exact ⟨congrArg (fun b => Ending.returned (Value.int .i64 b)) HF.out.symm, rfl⟩
end Go.Proofs.YtlokfalkhgjlbaaDoor
namespace Go.Proofs.YtlokfalkhgjlbaaDoor
open Go.RowKit

theorem setRow_only' (w : World) (g : Nat) (cs : Array Value) : Only g w (w.setRow g cs) where
  os := rfl
  tape := rfl
  output := rfl
  size := setRow_size w g cs
  block := fun k hk => setRow_other w g k cs hk
theorem ext_only' {w U W : World} {k : Nat} (h : Ext w U) (hO : Only k U W) (hk : w.heap.size ≤ k) : Ext w W :=
  Below.trans h (hO.below hk)
theorem FtB.only {W W' : World} {g k : Nat} {u v : Int} (h : FtB W g u v) (hO : Only k W W') (hk : g ≠ k) : FtB W' g u v := ⟨(hO.block g hk).trans h.row⟩
theorem DvB.only {W W' : World} {g k : Nat} {N : Int} {ao : Option Addr} {n cp : Nat} (h : DvB W g N ao n cp) (hO : Only k W W') (hk : g ≠ k) : DvB W' g N ao n cp := ⟨(hO.block g hk).trans h.row⟩
theorem only2' (W : World) (A : Nat) (u v : Value) : Only A W ((W.setCell ⟨A, 0, none⟩ u).setCell ⟨A, 1, none⟩ v) := ((Only.refl _ _).setCell _ _).setCell _ _
theorem FtB.putV {W : World} {g : Nat} {u v : Int} (h : FtB W g u v) (u' v' : Int) : FtB ((W.setCell ⟨g, 0, none⟩ (.int .i64 u')).setCell ⟨g, 1, none⟩ (.int .i64 v')) g u' v' := ⟨by
  have a := heap_setCell_same W g 0 _ _ (.int .i64 u') h.row
  have b := heap_setCell_same _ g 1 _ _ (.int .i64 v') a
  simpa using b⟩
/-- Two rows are answered. -/
theorem results_two {P : Program} {fn : Func} {p q : Tmp} {ty1 ty2 : TypeId} (h : fn.results = #[.cell p ty1, .cell q ty2]) (tmps : Array Value) (w : World) (g1 g2 : Nat) (t1 t2 : TypeId) (c1 c2 : Array Value) (f1 f2 : Nat × Nat) (d1 d2 : TypeDesc)
    (hp : tmps.getD p undef = .pointer (some ⟨g1, 0, none⟩)) (hg1 : w.heap[g1]? = some (.cells c1 t1 f1)) (hu1 : P.underlying ty1 = some d1) (hd1 : (match d1 with | .struct _ | .array _ _ => true | _ => false) = true) (hi1 : (P.info? ty1).map (·.size) = some c1.size)
    (hq : tmps.getD q undef = .pointer (some ⟨g2, 0, none⟩)) (hg2 : w.heap[g2]? = some (.cells c2 t2 f2)) (hu2 : P.underlying ty2 = some d2) (hd2 : (match d2 with | .struct _ | .array _ _ => true | _ => false) = true) (hi2 : (P.info? ty2).map (·.size) = some c2.size) :
    (results fn tmps).run P w = .ok (.tuple #[.agg c1, .agg c2]) w := by
  have hp' : tmps[p]?.getD undef = .pointer (some ⟨g1, 0, none⟩) := by simpa using hp
  have hq' : tmps[q]?.getD undef = .pointer (some ⟨g2, 0, none⟩) := by simpa using hq
  simp [results, h, hp', hq', asAddr, run_loadVar_row w g1 t1 ty1 c1 f1 d1 hg1 hu1 hd1 hi1, run_loadVar_row w g2 t2 ty2 c2 f2 d2 hg2 hu2 hd2 hi2]
theorem ft_info : (Tryd.prog.info? 27).map (·.size) = some 2 := by kernel_rfl
theorem zero12_one : zero12.all (·.oneCell') = true := by rw [← webC_zero]; exact webC_one _
/-- What linksOf answers is stored. -/
theorem links_fin {w U : World} {H : Nat} {old cs : Array Value} {a b : Int} (u v : Int) (hE : Ext w U) (hH : w.heap.size ≤ H) (r1 : U.heap[H + 1]? = some (.cells old 73 (0, 0))) (bF : FtB U (H + 2) a b) :
    FtB (U.setRow (H + 1) cs) (H + 2) a b ∧ (((U.setRow (H + 1) cs).setCell ⟨H + 2, 0, none⟩ (.int .i64 u)).setCell ⟨H + 2, 1, none⟩ (.int .i64 v)).heap[H + 1]? = some (.cells cs 73 (0, 0)) ∧
    FtB (((U.setRow (H + 1) cs).setCell ⟨H + 2, 0, none⟩ (.int .i64 u)).setCell ⟨H + 2, 1, none⟩ (.int .i64 v)) (H + 2) u v ∧ Ext w (((U.setRow (H + 1) cs).setCell ⟨H + 2, 0, none⟩ (.int .i64 u)).setCell ⟨H + 2, 1, none⟩ (.int .i64 v)) := by
  have h1 := bF.only (setRow_only' U (H + 1) cs) (by omega)
  have hO := only2' (U.setRow (H + 1) cs) (H + 2) (.int .i64 u) (.int .i64 v)
  refine ⟨h1, ?_, h1.putV u v, ext_only' (ext_only' hE (setRow_only' U (H + 1) cs) (by omega)) hO (by omega)⟩
  rw [hO.block (H + 1) (by omega)]
  exact setRow_heap U (H + 1) old cs _ _ r1

/-- What linksOf answers. -/
def lnksR (N : Int) (ls : List Lnk) : List Nat := if (devF N ls).1 = 0 then webOf ls else List.replicate 12 0
theorem lnF_step (N : Int) (ls : List Lnk) (i n : Nat) (h : i < n) : lnF N ls (n - i) i = if lnkC N (ls.take i) (ls.getD i (0, 0)) ≠ 0 then (lnkC N (ls.take i) (ls.getD i (0, 0)), (i : Int)) else lnF N ls (n - (i + 1)) (i + 1) := by
  obtain ⟨r, hr⟩ : ∃ r, n - i = r + 1 := ⟨n - i - 1, by omega⟩
  rw [hr, lnF, show n - (i + 1) = r by omega]
theorem rfC_eq {N : Int} (hN : N ≤ 12) {ls : List Lnk} {i : Nat} (hi : i < ls.length) (hok : lnOk N ls i) : rfC N (webOf (ls.take i)) (ls.getD i (0, 0)).1 (ls.getD i (0, 0)).2 = lnkC N (ls.take i) (ls.getD i (0, 0)) := by
  obtain ⟨_, h2⟩ := web_tells hN ls i (by omega) hok
  unfold rfC lnkC
  by_cases h : (ls.getD i (0, 0)).1 < 0 ∨ N ≤ (ls.getD i (0, 0)).1 ∨ (ls.getD i (0, 0)).2 < 0 ∨ N ≤ (ls.getD i (0, 0)).2
  · rw [if_pos h, if_pos h]
  · rw [if_neg h, if_neg h, h2, Int.toNat_of_nonneg (by omega), Int.toNat_of_nonneg (by omega)]
theorem shl_u16 {y : Nat} (h : y < 12) : IntKind.u16.wrap (2 ^ y) = ((2 ^ y : Nat) : Int) := by
  have h1 : (2 : Nat) ^ y < 2 ^ 12 := Nat.pow_lt_pow_right (by decide) h
  have h2 : ((2 : Int) ^ y) = ((2 ^ y : Nat) : Int) := by rw [Int.natCast_pow]; rfl
  have h3 : (2 : Nat) ^ 12 = 4096 := by decide
  rw [h2, show IntKind.u16.wrap ((2 ^ y : Nat) : Int) = (((2 ^ y : Nat) : Int) % 65536) from rfl]
  refine Int.emod_eq_of_lt (Int.natCast_nonneg _) ?_
  rw [h3] at h1
  exact Int.lt_of_lt_of_le (Int.ofNat_lt.2 h1) (by decide)

set_option maxRecDepth 100000 in
set_option maxHeartbeats 4000000 in
theorem linksOf_any (N : Int) (ls : List Lnk) (ao : Option Addr) (n cp : Nat) (w : World) (h : LnkAt w ao n ls) (hn : n ≤ 9223372036854775806) :
    Calls Tryd.prog 27 #[.agg #[.int .i64 N, .slice ao n cp]] w fun e w' => e = .returned (.tuple #[.agg (webC (lnksR N ls)), .agg #[.int .i64 (devF N ls).1, .int .i64 (devF N ls).2]]) ∧ Ext w w' := by
  obtain ⟨r, hr⟩ : ∃ r, devF N ls = r := ⟨_, rfl⟩
  obtain ⟨r0, r1⟩ := r
  obtain ⟨R, hR⟩ : ∃ R, lnksR N ls = R := ⟨_, rfl⟩
  rw [hr, hR]
  unfold lnksR at hR
  rw [hr] at hR
  unfold devF at hr
  simp only at hR ⊢
  have Hl := Lib.hid h.1
  obtain ⟨H, hH⟩ : ∃ H, w.heap.size = H := ⟨_, rfl⟩
  obtain ⟨W0, hW0⟩ : ∃ W0, (((w.alloc (.cells #[.int .i64 N, .slice ao n cp] 24)).alloc (.cells zero12 73)).alloc (.cells #[.int .i64 0, .int .i64 0] 27)).alloc (.cells zero12 73) = W0 := ⟨_, rfl⟩
  have E0 : Ext w W0 := by rw [← hW0]; exact (((ext_al w _).trans (ext_al _ _)).trans (ext_al _ _)).trans (ext_al _ _)
  have bD : DvB W0 H N ao n cp := by rw [← hW0, ← hH]; exact ((DvB.ext ⟨heap_alloc_new w _⟩ (ext_al _ _)).ext (ext_al _ _)).ext (ext_al _ _)
  have bR : W0.heap[H + 1]? = some (.cells zero12 73 (0, 0)) := by
    have h1 := heap_alloc_new (w.alloc (.cells #[.int .i64 N, .slice ao n cp] 24)) (.cells zero12 73)
    have h2 := (ext_al ((w.alloc (.cells #[.int .i64 N, .slice ao n cp] 24)).alloc (.cells zero12 73)) (.cells #[.int .i64 0, .int .i64 0] 27)).trans (ext_al _ (.cells zero12 73))
    have h3 := (h2.block _ (Array.getElem?_eq_some_iff.1 h1).1).trans h1
    rw [hW0] at h3
    simpa [hH] using h3
  have bF : FtB W0 (H + 2) 0 0 := by
    have h1 := heap_alloc_new ((w.alloc (.cells #[.int .i64 N, .slice ao n cp] 24)).alloc (.cells zero12 73)) (.cells #[.int .i64 0, .int .i64 0] 27)
    have h2 := ext_al (((w.alloc (.cells #[.int .i64 N, .slice ao n cp] 24)).alloc (.cells zero12 73)).alloc (.cells #[.int .i64 0, .int .i64 0] 27)) (.cells zero12 73)
    have h3 := (h2.block _ (Array.getElem?_eq_some_iff.1 h1).1).trans h1
    rw [hW0] at h3
    exact ⟨by simpa [hH] using h3⟩
  have bW : WbB W0 (H + 3) (List.replicate 12 0) := by
    have h1 := heap_alloc_new (((w.alloc (.cells #[.int .i64 N, .slice ao n cp] 24)).alloc (.cells zero12 73)).alloc (.cells #[.int .i64 0, .int .i64 0] 27)) (.cells zero12 73)
    rw [hW0] at h1
    refine ⟨rfl, fun q => ?_, by rw [webC_zero]; simpa [hH] using h1⟩
    rw [List.getD_eq_getElem?_getD, List.getElem?_replicate]
    split <;> decide
  have HE0 := Lib.hid E0; have HLn := Lib.hid (h.ext E0); have HD := Lib.hid bD; have HRr := Lib.hid bR; have HFt := Lib.hid bF; have HW := Lib.hid bW; have Hh := Lib.hid h
  have HwH := Lib.hid (show w.heap.size ≤ H by omega); have HW0 := Lib.hid hW0; have HH := Lib.hid hH; have Hn := Lib.hid hn
  have v0 := bD.x0; have v1 := bD.x1
  clear h E0 bD bR bF bW hW0 hH
  by_cases hq1 : N < 1
  · rw [if_pos (Or.inl hq1)] at hr
    have HF := Lib.hid (show r0 = 6 ∧ r1 = 0 from ⟨(congrArg Prod.fst hr).symm, (congrArg Prod.snd hr).symm⟩)
    have HRz := Lib.hid (show R = List.replicate 12 0 by rw [← hR, if_neg (by rw [HF.out.1]; decide)])
    obtain ⟨bz, z1, z2, zE⟩ := links_fin (cs := zero12) (6) (0) HE0.out HwH.out HRr.out HFt.out
    have x0 := bz.x0; have x1 := bz.x1; have g0 := bz.f 0; have g1 := bz.f 1
    have Hz1 := Lib.hid z1; have Hz2 := Lib.hid z2; have HzE := Lib.hid zE
    have hrow := HRr.out
    clear bz z1 z2 zE
    clear hr hR
    go_enter Tryd.func27, Tryd.ntmps27
    go_upto_region 2 with fail
    rw [show #[Value.int .u16 0, .int .u16 0, .int .u16 0, .int .u16 0, .int .u16 0, .int .u16 0, .int .u16 0, .int .u16 0, .int .u16 0, .int .u16 0, .int .u16 0, .int .u16 0] = zero12 from rfl, HW0.out, HH.out, show H + 1 + 1 + 1 = H + 3 from rfl, show H + 1 + 1 = H + 2 from rfl]
    go_upto_region 3 with fail
    go_wp2_with (refine wpList_store_row rfl 73 _ _ rfl (H + 1) zero12 rfl rfl 73 _ hrow web_info rfl zero12_one ?_)
    refine bodyPost_ret (v := .tuple #[.agg zero12, .agg #[.int .i64 (6), .int .i64 (0)]]) ?_ rfl ⟨by rw [HF.out.1, HF.out.2, HRz.out, webC_zero], HzE.out⟩
    exact results_two rfl _ _ (H + 1) (H + 2) _ _ _ _ _ _ _ _ rfl Hz1.out Tryd.underlying73 rfl web_info rfl Hz2.out.row Tryd.underlying27 rfl ft_info
    done
  have dq1 := df hq1
  by_cases hq2 : 12 < N
  · rw [if_pos (Or.inr hq2)] at hr
    have HF := Lib.hid (show r0 = 6 ∧ r1 = 0 from ⟨(congrArg Prod.fst hr).symm, (congrArg Prod.snd hr).symm⟩)
    have HRz := Lib.hid (show R = List.replicate 12 0 by rw [← hR, if_neg (by rw [HF.out.1]; decide)])
    obtain ⟨bz, z1, z2, zE⟩ := links_fin (cs := zero12) (6) (0) HE0.out HwH.out HRr.out HFt.out
    have x0 := bz.x0; have x1 := bz.x1; have g0 := bz.f 0; have g1 := bz.f 1
    have Hz1 := Lib.hid z1; have Hz2 := Lib.hid z2; have HzE := Lib.hid zE
    have hrow := HRr.out
    clear bz z1 z2 zE
    clear hr hR
    go_enter Tryd.func27, Tryd.ntmps27
    go_upto_region 2 with fail
    rw [show #[Value.int .u16 0, .int .u16 0, .int .u16 0, .int .u16 0, .int .u16 0, .int .u16 0, .int .u16 0, .int .u16 0, .int .u16 0, .int .u16 0, .int .u16 0, .int .u16 0] = zero12 from rfl, HW0.out, HH.out, show H + 1 + 1 + 1 = H + 3 from rfl, show H + 1 + 1 = H + 2 from rfl]
    go_upto_region 3 with fail
    go_wp2_with (refine wpList_store_row rfl 73 _ _ rfl (H + 1) zero12 rfl rfl 73 _ hrow web_info rfl zero12_one ?_)
    refine bodyPost_ret (v := .tuple #[.agg zero12, .agg #[.int .i64 (6), .int .i64 (0)]]) ?_ rfl ⟨by rw [HF.out.1, HF.out.2, HRz.out, webC_zero], HzE.out⟩
    exact results_two rfl _ _ (H + 1) (H + 2) _ _ _ _ _ _ _ _ rfl Hz1.out Tryd.underlying73 rfl web_info rfl Hz2.out.row Tryd.underlying27 rfl ft_info
  have dq2 := df hq2
  rw [if_neg (by omega), Hl.out] at hr
  have Hr := Lib.hid hr; have HR := Lib.hid hR; have Hq := Lib.hid (show 1 ≤ N ∧ N ≤ 12 by omega)
  clear hr hR
  go_enter Tryd.func27, Tryd.ntmps27
  go_upto_region 2 with fail
  rw [show #[Value.int .u16 0, .int .u16 0, .int .u16 0, .int .u16 0, .int .u16 0, .int .u16 0, .int .u16 0, .int .u16 0, .int .u16 0, .int .u16 0, .int .u16 0, .int .u16 0] = zero12 from rfl, HW0.out, HH.out, show H + 1 + 1 + 1 = H + 3 from rfl, show H + 1 + 1 = H + 2 from rfl]
  go_wp2_with fail
  clear v0 v1 HW0 HH
  go_loopg [5, 6, 7, 8, 9, 23] n (fun kk _ _ _ _ _ s23 wr => ∃ i : Nat, s23 = .int .i64 (i : Int) ∧ i ≤ n ∧ n - i = kk ∧ Ext w wr ∧ DvB wr H N ao n cp ∧ wr.heap[H + 1]? = some (.cells zero12 73 (0, 0)) ∧ FtB wr (H + 2) 0 0 ∧ WbB wr (H + 3) (webOf (ls.take i)) ∧ lnOk N ls i ∧ lnF N ls n 0 = lnF N ls (n - i) i)
  case atStart => exact ⟨0, rfl, Nat.zero_le _, rfl, HE0.out, HD.out, HRr.out, HFt.out, HW.out, fun j hj => by omega, rfl⟩
  case round =>
    clear HE0 HD HRr HFt HW HLn
    obtain ⟨i, rfl, hi, hk, hE, bD, bR, bF, bW, hok, hln⟩ := hrel
    have HE := Lib.hid hE; have Hk := Lib.hid hk; have HD := Lib.hid bD; have HRr := Lib.hid bR; have HFt := Lib.hid bF; have HW := Lib.hid bW; have Hok := Lib.hid hok; have Hln := Lib.hid hln
    by_cases hin : i = n
    · subst hin
      have q1 : ¬ (i : Int) < (i : Int) := by omega
      have hr := Hr.out
      have hR := HR.out
      have ht : ls.take i = ls := List.take_of_length_le (by have := Hl.out; omega)
      rw [hln, show i - i = 0 by omega, show lnF N ls 0 i = ((0 : Int), (0 : Int)) from rfl, if_neg (show ¬ ((0 : Int), (0 : Int)).1 ≠ 0 from fun h => h rfl)] at hr
      rw [ht] at bW
      obtain ⟨M, hM⟩ : ∃ M : Nat, N = (M : Int) := ⟨N.toNat, by have := Hq.out; omega⟩
      have hM1 : 1 ≤ M ∧ M ≤ 12 := by have := Hq.out; omega
      subst hM
      rw [Int.toNat_natCast] at hr
      obtain ⟨X, Fw, hXn, hFe, hFs⟩ := fam wr
      have d0 : ∀ x, (Fw x).cell? ⟨H, 0, none⟩ = some (.int .i64 (M : Int)) := fun x => (bD.ext (hFe x)).x0
      have hUd : Ext wr wr.drew := Below.drew (Ext.refl wr)
      have HWC := Lib.hid (fun wx (hx : Ext wr wx) => reached_any (webOf ls) (H + 3) M wx (bW.ext hx).at hM1.1 hM1.2)
      obtain ⟨S, hS⟩ : ∃ S, bal (webOf ls) 1 (M - 1) = S := ⟨_, rfl⟩
      rw [hS] at hr HWC
      have hp : (2 : Nat) ^ M ≤ 2 ^ 12 := Nat.pow_le_pow_right (by decide) hM1.2
      have hp0 : 0 < 2 ^ M := Nat.pow_pos (by decide)
      have e12 : (2 : Nat) ^ 12 = 4096 := by decide
      obtain ⟨P, hP⟩ : ∃ P, 2 ^ M = P := ⟨_, rfl⟩
      rw [hP] at hr hp hp0
      have wP : IntKind.u16.wrap (2 ^ M) = (P : Int) := by
        have h2 : ((2 : Int) ^ M) = ((2 ^ M : Nat) : Int) := by rw [Int.natCast_pow]; rfl
        rw [h2, hP, show IntKind.u16.wrap (P : Int) = ((P : Int) % 65536) from rfl]; omega
      have wP1 : IntKind.u16.wrap ((P : Int) - 1) = ((P - 1 : Nat) : Int) := by
        rw [show IntKind.u16.wrap ((P : Int) - 1) = (((P : Int) - 1) % 65536) from rfl]; omega
      obtain ⟨P1, hP1⟩ : ∃ P1, P - 1 = P1 := ⟨_, rfl⟩
      rw [hP1] at hr wP1
      have q12 : M < 16 := by omega
      clear hp hp0 e12 hP hP1 bR bF hE hk hi hok hln hS
      by_cases hfl : S = P1
      · rw [if_pos hfl] at hr
        have HF := Lib.hid (show r0 = 0 ∧ r1 = 0 from ⟨(congrArg Prod.fst hr).symm, (congrArg Prod.snd hr).symm⟩)
        have HRz := Lib.hid (show R = webOf ls by rw [← hR, if_pos HF.out.1])
        have qS : ((S : Int) != (P1 : Int)) = false := nf' (by omega)
        clear hr hR hfl
        go_upto_region 14 with fail
        refine wp_region_M (by kernel_rfl) (by kernel_rfl) (hFs _ hUd) ?_
        repeat (go_big_quiet_step (exact (HWC.out _ (hFe _)).mono (fun e w' h => ⟨h.1, hFs _ ((hFe _).trans h.2)⟩)))
        refine wpQuiet_nil ?_
        rintro _ ⟨xq, rfl⟩
        have HEx := Lib.hid (hFe xq)
        generalize Fw xq = W2 at *
        have HEw := Lib.hid (HE.out.trans HEx.out)
        have hrw := (bW.ext HEx.out).row
        have hinf : (Tryd.prog.info? 73).map (·.size) = some (webC (webOf ls)).size := by rw [webC_size, bW.len]; exact web_info
        have hold : zero12.size = (webC (webOf ls)).size := by rw [webC_size, bW.len]; rfl
        have hone := webC_one (webOf ls)
        obtain ⟨bz, z1, z2, zE⟩ := links_fin (cs := webC (webOf ls)) (0) (0) HEw.out HwH.out ((HEx.out.block _ (Array.getElem?_eq_some_iff.1 HRr.out).1).trans HRr.out) (HFt.out.ext HEx.out)
        have x0 := bz.x0; have x1 := bz.x1; have g0 := bz.f 0; have g1 := bz.f 1
        have Hz1 := Lib.hid z1; have Hz2 := Lib.hid z2; have HzE := Lib.hid zE
        have hrow := ((HEx.out.block _ (Array.getElem?_eq_some_iff.1 HRr.out).1).trans HRr.out)
        clear bz z1 z2 zE
        clear d0 hFe hFs hXn HWC bD bW hUd
        go_wp2_with (first
          | refine wpList_load_row rfl 73 _ rfl (H + 3) rfl 73 _ (0, 0) _ hrw Tryd.underlying73 rfl hinf ?_
          | refine wpList_store_row rfl 73 _ _ rfl (H + 1) (webC (webOf ls)) rfl rfl 73 _ hrow hinf hold hone ?_)
        refine bodyPost_ret (v := .tuple #[.agg (webC (webOf ls)), .agg #[.int .i64 (0), .int .i64 (0)]]) ?_ rfl ⟨by rw [HF.out.1, HF.out.2, HRz.out], HzE.out⟩
        exact results_two rfl _ _ (H + 1) (H + 2) _ _ _ _ _ _ _ _ rfl Hz1.out Tryd.underlying73 rfl hinf rfl Hz2.out.row Tryd.underlying27 rfl ft_info
      · rw [if_neg hfl] at hr
        have HF := Lib.hid (show r0 = 37 ∧ r1 = 0 from ⟨(congrArg Prod.fst hr).symm, (congrArg Prod.snd hr).symm⟩)
        have HRz := Lib.hid (show R = List.replicate 12 0 by rw [← hR, if_neg (by rw [HF.out.1]; decide)])
        have qS : ((S : Int) != (P1 : Int)) = true := nt (by omega)
        clear hr hR hfl
        go_upto_region 14 with fail
        refine wp_region_M (by kernel_rfl) (by kernel_rfl) (hFs _ hUd) ?_
        repeat (go_big_quiet_step (exact (HWC.out _ (hFe _)).mono (fun e w' h => ⟨h.1, hFs _ ((hFe _).trans h.2)⟩)))
        refine wpQuiet_nil ?_
        rintro _ ⟨xq, rfl⟩
        have HEx := Lib.hid (hFe xq)
        generalize Fw xq = W2 at *
        have HEw := Lib.hid (HE.out.trans HEx.out)
        obtain ⟨bz, z1, z2, zE⟩ := links_fin (cs := zero12) (37) (0) HEw.out HwH.out ((HEx.out.block _ (Array.getElem?_eq_some_iff.1 HRr.out).1).trans HRr.out) (HFt.out.ext HEx.out)
        have x0 := bz.x0; have x1 := bz.x1; have g0 := bz.f 0; have g1 := bz.f 1
        have Hz1 := Lib.hid z1; have Hz2 := Lib.hid z2; have HzE := Lib.hid zE
        have hrow := ((HEx.out.block _ (Array.getElem?_eq_some_iff.1 HRr.out).1).trans HRr.out)
        clear bz z1 z2 zE
        clear d0 hFe hFs hXn HWC bD bW hUd
        go_wp2_with (refine wpList_store_row rfl 73 _ _ rfl (H + 1) zero12 rfl rfl 73 _ hrow web_info rfl zero12_one ?_)
        refine bodyPost_ret (v := .tuple #[.agg zero12, .agg #[.int .i64 (37), .int .i64 (0)]]) ?_ rfl ⟨by rw [HF.out.1, HF.out.2, HRz.out, webC_zero], HzE.out⟩
        exact results_two rfl _ _ (H + 1) (H + 2) _ _ _ _ _ _ _ _ rfl Hz1.out Tryd.underlying73 rfl web_info rfl Hz2.out.row Tryd.underlying27 rfl ft_info
    have hlt : i < n := by omega
    have Hlt := Lib.hid hlt
    have q1 : (i : Int) < (n : Int) := by omega
    have q0 : (0 : Int) ≤ (i : Int) := by omega
    have wk : IntKind.i64.wrap ((i : Int) + 1) = ((i + 1 : Nat) : Int) := by rw [IntKind.wrap_i64]; have := Hn.out; omega
    obtain ⟨b, o, rfl, hbl, hcell⟩ := (Hh.out.ext hE).at (by omega)
    obtain ⟨e0, e1⟩ := hcell i hlt
    have hrf := rfC_eq Hq.out.2 (show i < ls.length by have := Hl.out; omega) hok
    have hst := lnF_step N ls i n hlt
    rw [← hln] at hst
    have htk := take_snoc (show i < ls.length by have := Hl.out; omega)
    obtain ⟨⟨a, c⟩, hkk⟩ : ∃ k, ls.getD i (0, 0) = k := ⟨_, rfl⟩
    have HC0 := Lib.hid (show ∀ j, j < i + 1 → lnkC N (ls.take i) (a, c) = 0 → lnkC N (ls.take j) (ls.getD j (0, 0)) = 0 from fun j hj h0 => by
      by_cases e : j = i
      · rw [e, hkk]; exact h0
      · exact Hok.out j (by omega))
    rw [hkk] at e0 e1 hrf hst htk
    simp only at e0 e1 hrf
    obtain ⟨oc, hoc⟩ : ∃ oc, lnkC N (ls.take i) (a, c) = oc := ⟨_, rfl⟩
    have Hz0 := Lib.hid (show oc = 0 → (0 ≤ a ∧ a < N) ∧ (0 ≤ c ∧ c < N) from fun h => by
      obtain ⟨p1, p2, _⟩ := lnkC_zero (hoc.trans h)
      exact ⟨p1, p2⟩)
    rw [hoc] at hrf hst HC0
    have Hst := Lib.hid hst; have Htk := Lib.hid htk; have HC1 := Lib.hid HC0.out
    obtain ⟨G, hG⟩ : ∃ G, wr.heap.size = G := ⟨_, rfl⟩
    obtain ⟨U, hU⟩ : ∃ U, wr.alloc (.cells #[.int .i64 a, .int .i64 c] 76) = U := ⟨_, rfl⟩
    have EU : Ext wr U := by rw [← hU]; exact ext_al _ _
    have rU : U.heap[G]? = some (.cells #[.int .i64 a, .int .i64 c] 76 (0, 0)) := by rw [← hU, ← hG]; exact heap_alloc_new _ _
    have y0 : U.cell? ⟨G, 0, none⟩ = some (.int .i64 a) := by rw [cell_of_row U G 0 _ _ (0, 0) rU]; rfl
    have y1 : U.cell? ⟨G, 1, none⟩ = some (.int .i64 c) := by rw [cell_of_row U G 1 _ _ (0, 0) rU]; rfl
    have bDU := bD.ext EU
    have v0 := bDU.x0
    have bWU := bW.ext EU
    have HCl := Lib.hid (fun m => refuses_any (webOf (ls.take i)) (H + 3) a c N (U.drewN m) (bWU.ext (ext_drewN U m)).at Hq.out.2)
    rw [hrf] at HCl
    have v1 := bD.x1
    have HU := Lib.hid hU; have HG := Lib.hid hG; have HEU := Lib.hid EU; have HbW := Lib.hid bWU; have HbD := Lib.hid bDU
    clear hcell hbl hst htk hoc hrf hkk hU hG rU bDU bWU bD bR bF bW hE hk hok hln EU HC0
    go_upto_region 7 with fail
    rw [HU.out, HG.out]
    clear HU HG v1 e0 e1
    go_quiet (fail)
    go_wp2_with fail
    refine (HCl.out _).mono ?_
    rintro e w4 ⟨rfl, rfl⟩
    have HEn := Lib.hid (ext_drewN U nq)
    clear y0 y1 v0
    generalize U.drewN nq = V at *
    by_cases h0 : oc = 0
    · have hcb := nf' h0
      obtain ⟨⟨a0, a1⟩, ⟨c0, c1⟩⟩ := Hz0.out h0
      obtain ⟨x, rfl⟩ : ∃ x : Nat, a = (x : Int) := ⟨a.toNat, by omega⟩
      obtain ⟨y, rfl⟩ : ∃ y : Nat, c = (y : Int) := ⟨c.toNat, by omega⟩
      have hx12 : x < 12 := by have := Hq.out; omega
      have hy12 : y < 12 := by have := Hq.out; omega
      have Hok2 := Lib.hid (show lnOk N ls (i + 1) from fun j hj => HC1.out j hj h0)
      have Hln2 := Lib.hid (show lnF N ls n 0 = lnF N ls (n - (i + 1)) (i + 1) by rw [Hst.out, if_neg (by omega)])
      have bW := HbW.out.ext HEn.out
      have hV := bW.lt x
      have cx := bW.at.cell x hx12
      have fx := bW.f x
      obtain ⟨X, hX⟩ : ∃ X, (webOf (ls.take i)).getD x 0 = X := ⟨_, rfl⟩
      rw [hX] at hV cx
      have hpy : (2 : Nat) ^ y < 65536 := Nat.lt_trans (Nat.pow_lt_pow_right (by decide) hy12) (by decide)
      have hpx : (2 : Nat) ^ x < 65536 := Nat.lt_trans (Nat.pow_lt_pow_right (by decide) hx12) (by decide)
      have sy := shl_u16 hy12; have sx := shl_u16 hx12
      obtain ⟨PY, hPY⟩ : ∃ P, 2 ^ y = P := ⟨_, rfl⟩
      obtain ⟨PX, hPX⟩ : ∃ P, 2 ^ x = P := ⟨_, rfl⟩
      rw [hPY] at hpy sy
      rw [hPX] at hpx sx
      have oX := or_u16 hV hpy
      have hOX : X ||| PY < 65536 := Nat.or_lt_two_pow (n := 16) hV hpy
      obtain ⟨OX, eOX⟩ : ∃ O, X ||| PY = O := ⟨_, rfl⟩
      rw [eOX] at oX hOX
      have bW2 := bW.set x OX hOX
      have bWe : WbB (V.setCell ⟨H + 3, x, none⟩ (.int .u16 (OX : Int))).drew (H + 3) ((webOf (ls.take i)).set x OX) := ⟨bW2.len, bW2.lt, bW2.row⟩
      have cy := bWe.at.cell y hy12
      have fy := bWe.f y
      have hVy := bW2.lt y
      obtain ⟨Y, hY⟩ : ∃ Y, ((webOf (ls.take i)).set x OX).getD y 0 = Y := ⟨_, rfl⟩
      rw [hY] at cy hVy
      have oY := or_u16 hVy hpx
      have hOY : Y ||| PX < 65536 := Nat.or_lt_two_pow (n := 16) hVy hpx
      obtain ⟨OY, eOY⟩ : ∃ O, Y ||| PX = O := ⟨_, rfl⟩
      rw [eOY] at oY hOY
      have bW3 := bWe.set y OY hOY
      have eW : ((webOf (ls.take i)).set x OX).set y OY = webOf (ls.take (i + 1)) := by
        rw [Htk.out, webOf_snoc]
        unfold addL
        simp only [Int.toNat_natCast]
        rw [hPX, hPY, hX, eOX, hY, eOY]
      rw [eW] at bW3
      have HW3 := Lib.hid bW3
      have q3 : (0 : Int) ≤ (x : Int) := by omega
      have q4 : (x : Int) < 12 := by omega
      have q5 : (0 : Int) ≤ (y : Int) := by omega
      have q6 : (y : Int) < 12 := by omega
      have hO : Only (H + 3) V (((V.setCell ⟨H + 3, x, none⟩ (.int .u16 (OX : Int))).drew.setCell ⟨H + 3, y, none⟩ (.int .u16 (OY : Int))).drew) := ((((Only.refl _ _).setCell _ _).drew).setCell _ _).drew
      have HO := Lib.hid hO
      clear Hz0 Hst hV hX hpy hpx hPY hPX eOX bW2 bWe hVy hY eOY bW3 eW bW hO h0 a0 a1 c0 c1 HC1
      go_upto_region 11 with fail
      go_region
      clear cx fx
      go_upto_region 12 with fail
      go_region
      go_wp2_with fail
      go_roundg (n - (i + 1))
      case measure => have := Hk.out; have := Hlt.out; omega
      case rel =>
        have hb := HEU.out.trans HEn.out
        exact ⟨i + 1, rfl, Hlt.out, rfl, ext_only' (HE.out.trans hb) HO.out (by have := HwH.out; omega), (HbD.out.ext HEn.out).only HO.out (by omega), (HO.out.block _ (by omega)).trans ((hb.block _ (Array.getElem?_eq_some_iff.1 HRr.out).1).trans HRr.out), (HFt.out.ext hb).only HO.out (by omega), ⟨HW3.out.len, HW3.out.lt, HW3.out.row⟩, Hok2.out, Hln2.out⟩
    · have hcb := nt h0
      have hr := Hr.out
      rw [Hst.out, if_pos h0, if_pos h0] at hr
      have HF := Lib.hid (show r0 = oc ∧ r1 = (i : Int) from ⟨(congrArg Prod.fst hr).symm, (congrArg Prod.snd hr).symm⟩)
      have HRz := Lib.hid (show R = List.replicate 12 0 by rw [← HR.out, if_neg (by rw [HF.out.1]; exact h0)])
      have HEw := Lib.hid (HE.out.trans (HEU.out.trans HEn.out))
      obtain ⟨bz, z1, z2, zE⟩ := links_fin (cs := zero12) (oc) ((i : Int)) HEw.out HwH.out (((HEU.out.trans HEn.out).block _ (Array.getElem?_eq_some_iff.1 HRr.out).1).trans HRr.out) (HFt.out.ext (HEU.out.trans HEn.out))
      have x0 := bz.x0; have x1 := bz.x1; have g0 := bz.f 0; have g1 := bz.f 1
      have Hz1 := Lib.hid z1; have Hz2 := Lib.hid z2; have HzE := Lib.hid zE
      have hrow := (((HEU.out.trans HEn.out).block _ (Array.getElem?_eq_some_iff.1 HRr.out).1).trans HRr.out)
      clear bz z1 z2 zE
      clear hr h0 Hst HC1 Hz0
      go_wp2_with (refine wpList_store_row rfl 73 _ _ rfl (H + 1) zero12 rfl rfl 73 _ hrow web_info rfl zero12_one ?_)
      refine bodyPost_ret (v := .tuple #[.agg zero12, .agg #[.int .i64 (oc), .int .i64 ((i : Int))]]) ?_ rfl ⟨by rw [HF.out.1, HF.out.2, HRz.out, webC_zero], HzE.out⟩
      exact results_two rfl _ _ (H + 1) (H + 2) _ _ _ _ _ _ _ _ rfl Hz1.out Tryd.underlying73 rfl web_info rfl Hz2.out.row Tryd.underlying27 rfl ft_info
end Go.Proofs.YtlokfalkhgjlbaaDoor
namespace Go.Proofs.YtlokfalkhgjlbaaDoor
open Go.RowKit

theorem lkd_none (ls : List Lnk) (a b : Int) : lkd (ls.take 0) a b = false := by rw [List.take_zero]; rfl

set_option maxRecDepth 100000 in
set_option maxHeartbeats 4000000 in
theorem linked_any (N : Int) (ls : List Lnk) (ao : Option Addr) (n cp : Nat) (a b : Int) (w : World) (h : LnkAt w ao n ls) (hn : n ≤ 9223372036854775806) :
    Calls Tryd.prog 29 #[.agg #[.int .i64 N, .slice ao n cp], .int .i64 a, .int .i64 b] w fun e w' => e = .returned (.bool (lkd ls a b)) ∧ Ext w w' := by
  obtain ⟨R, hR⟩ : ∃ R, lkd ls a b = R := ⟨_, rfl⟩
  rw [hR]
  have HR := Lib.hid hR; have Hn := Lib.hid hn; have Hl := Lib.hid h.1
  obtain ⟨H, hH⟩ : ∃ H, w.heap.size = H := ⟨_, rfl⟩
  obtain ⟨W0, hW0⟩ : ∃ W0, w.alloc (.cells #[.int .i64 N, .slice ao n cp] 24) = W0 := ⟨_, rfl⟩
  have E0 : Ext w W0 := by rw [← hW0]; exact ext_al _ _
  have bD : DvB W0 H N ao n cp := by rw [← hW0, ← hH]; exact ⟨heap_alloc_new w _⟩
  have HE0 := Lib.hid E0; have HD := Lib.hid bD; have HW0 := Lib.hid hW0; have HH := Lib.hid hH; have Hh := Lib.hid (h.ext E0)
  clear h hn hR E0 bD hW0 hH
  go_enter Tryd.func29, Tryd.ntmps29
  go_upto_region 1 with fail
  rw [HW0.out, HH.out]
  clear HW0 HH
  go_wp2_with fail
  go_loopg [7, 8] n (fun kk s7 _ wr => ∃ i : Nat, s7 = .int .i64 (i : Int) ∧ i ≤ n ∧ n - i = kk ∧ Ext W0 wr ∧ lkd (ls.take i) a b = false)
  case atStart => exact ⟨0, rfl, Nat.zero_le _, rfl, Ext.refl _, lkd_none ls a b⟩
  case round =>
    obtain ⟨i, rfl, hi, hk, hE, hno⟩ := hrel
    have HE := Lib.hid hE; have Hk := Lib.hid hk
    have bD := HD.out.ext hE
    have v1 := bD.x1
    by_cases hin : i = n
    · subst hin
      have q1 : ¬ (i : Int) < (i : Int) := by omega
      have HF := Lib.hid (show false = R by rw [← HR.out, ← hno, List.take_of_length_le (by have := Hl.out; omega)])
      have HEz := Lib.hid (HE0.out.trans hE)
      clear hi hk hE hno bD
      go_wp2_with fail
      go_ret
      exact ⟨congrArg (fun b => Ending.returned (Value.bool b)) HF.out, HEz.out⟩
    have hlt : i < n := by omega
    have Hlt := Lib.hid hlt
    have q1 : (i : Int) < (n : Int) := by omega
    have q0 : (0 : Int) ≤ (i : Int) := by omega
    have wk : IntKind.i64.wrap ((i : Int) + 1) = ((i + 1 : Nat) : Int) := by rw [IntKind.wrap_i64]; have := Hn.out; omega
    obtain ⟨bb, o, rfl, hbl, hcell⟩ := (Hh.out.ext hE).at (by omega)
    obtain ⟨e0, e1⟩ := hcell i hlt
    have hil : i < ls.length := by have := Hl.out; omega
    have hst : lkd (ls.take (i + 1)) a b = (((ls.getD i (0, 0)).1 == a && (ls.getD i (0, 0)).2 == b) || ((ls.getD i (0, 0)).1 == b && (ls.getD i (0, 0)).2 == a)) := by
      rw [take_snoc hil, lkd_snoc, hno, Bool.false_or]
    have hyes : lkd (ls.take (i + 1)) a b = true → R = true := fun h => by
      rw [← HR.out]
      unfold lkd at h ⊢
      obtain ⟨k, hk, e⟩ := List.any_eq_true.1 h
      exact List.any_eq_true.2 ⟨k, List.mem_of_mem_take hk, e⟩
    obtain ⟨⟨x, y⟩, hkk⟩ : ∃ k, ls.getD i (0, 0) = k := ⟨_, rfl⟩
    rw [hkk] at e0 e1 hst
    simp only at e0 e1 hst
    obtain ⟨p1, h1⟩ : ∃ p, (x == a) = p := ⟨_, rfl⟩
    obtain ⟨p2, h2⟩ : ∃ p, (y == b) = p := ⟨_, rfl⟩
    obtain ⟨p3, h3⟩ : ∃ p, (x == b) = p := ⟨_, rfl⟩
    obtain ⟨p4, h4⟩ : ∃ p, (y == a) = p := ⟨_, rfl⟩
    rw [h1, h2, h3, h4] at hst
    obtain ⟨E, hEE⟩ : ∃ E, (p1 && p2 || p3 && p4) = E := ⟨_, rfl⟩
    rw [hEE] at hst
    have Hst := Lib.hid hst; have Hyes := Lib.hid hyes; have HEE := Lib.hid hEE
    obtain ⟨G, hG⟩ : ∃ G, wr.heap.size = G := ⟨_, rfl⟩
    obtain ⟨U, hU⟩ : ∃ U, wr.alloc (.cells #[.int .i64 x, .int .i64 y] 76) = U := ⟨_, rfl⟩
    have EU : Ext wr U := by rw [← hU]; exact ext_al _ _
    have rU : U.heap[G]? = some (.cells #[.int .i64 x, .int .i64 y] 76 (0, 0)) := by rw [← hU, ← hG]; exact heap_alloc_new _ _
    have y0 : U.cell? ⟨G, 0, none⟩ = some (.int .i64 x) := by rw [cell_of_row U G 0 _ _ (0, 0) rU]; rfl
    have y1 : U.cell? ⟨G, 1, none⟩ = some (.int .i64 y) := by rw [cell_of_row U G 1 _ _ (0, 0) rU]; rfl
    have HU := Lib.hid hU; have HG := Lib.hid hG; have HEU := Lib.hid (HE.out.trans EU)
    clear hcell hbl hst hyes hkk hU hG rU EU bD hE hk hno hEE hil hin hi hlt
    go_upto_region 5 with fail
    rw [HU.out, HG.out]
    clear HU HG v1 e0 e1
    go_cut [42] from 21 to 42 (fun s42 wx => s42 = .bool E ∧ U = wx)
    case first =>
      have hEE := HEE.out
      clear HEE Hst Hyes
      cases p1 <;> cases p2 <;> cases p3 <;> cases p4 <;> (subst hEE; go_wp2_with fail; go_meet; exact ⟨rfl, rfl⟩)
    case rest =>
    obtain ⟨rfl, rfl⟩ := hcut
    clear y0 y1 h1 h2 h3 h4
    cases E
    · have Hn2 := Lib.hid Hst.out
      go_wp2_with fail
      go_roundg (n - (i + 1))
      case measure => have := Hk.out; have := Hlt.out; omega
      case rel => exact ⟨i + 1, rfl, Hlt.out, rfl, HEU.out, Hn2.out⟩
    · have HF := Lib.hid (Hyes.out Hst.out).symm
      have HEz := Lib.hid (HE0.out.trans HEU.out)
      go_wp2_with fail
      go_ret
      exact ⟨congrArg (fun b => Ending.returned (Value.bool b)) HF.out, HEz.out⟩
end Go.Proofs.YtlokfalkhgjlbaaDoor
namespace Go.Proofs.YtlokfalkhgjlbaaDoor
open Go.RowKit

/-- What was reached so far: of the first i, and of the next one up to q, all that they are linked to is there. -/
structure BfS (W : List Nat) (M : Nat) (l : List Nat) (i q : Nat) : Prop where
  nd : l.Nodup
  z : 0 ∈ l
  lt : ∀ x ∈ l, x < M
  rch : ∀ x ∈ l, Rch W x
  cl : ∀ j b, j < i → lk W (l.getD j 0) b = true → b ∈ l
  cq : ∀ b, b < q → lk W (l.getD i 0) b = true → b ∈ l
section
variable {W : List Nat} {M : Nat} {l : List Nat} {i q : Nat}
theorem BfS.init (hM : 1 ≤ M) : BfS W M [0] 0 0 := ⟨by simp, by simp, fun x hx => by simp at hx; omega, fun x hx => by
  simp at hx; subst hx; exact fun C h0 _ => h0, fun j b hj => by omega, fun b hb => by omega⟩
theorem BfS.skip (h : BfS W M l i q) (hs : q ∈ l ∨ lk W (l.getD i 0) q = false) : BfS W M l i (q + 1) := ⟨h.nd, h.z, h.lt, h.rch, h.cl, fun b hb hl => by
  by_cases e : b = q
  · subst e
    rcases hs with hs | hs
    · exact hs
    · rw [hs] at hl; cases hl
  · exact h.cq b (by omega) hl⟩
theorem getD_app (l : List Nat) (x j : Nat) (h : j < l.length) : (l ++ [x]).getD j 0 = l.getD j 0 := by
  rw [List.getD_eq_getElem?_getD, List.getD_eq_getElem?_getD, List.getElem?_append_left h]
theorem getD_memN (l : List Nat) {j : Nat} (h : j < l.length) : l.getD j 0 ∈ l := by
  rw [List.getD_eq_getElem?_getD, List.getElem?_eq_getElem h]
  exact List.getElem_mem h
theorem BfS.add (h : BfS W M l i q) (hi : i < l.length) (hq : q < M) (hn : q ∉ l) (hl : lk W (l.getD i 0) q = true) : BfS W M (l ++ [q]) i (q + 1) := by
  refine ⟨?_, by simp [h.z], ?_, ?_, ?_, ?_⟩
  · rw [List.nodup_append]
    refine ⟨h.nd, by simp, fun a ha b hb e => ?_⟩
    simp at hb
    subst hb; subst e
    exact hn ha
  · intro x hx
    rcases List.mem_append.1 hx with hx | hx
    · exact h.lt x hx
    · simp at hx; omega
  · intro x hx
    rcases List.mem_append.1 hx with hx | hx
    · exact h.rch x hx
    · simp at hx
      subst hx
      exact fun C h0 hc => hc _ _ (h.rch _ (getD_memN l hi) C h0 hc) hl
  · intro j b hj hb
    rw [getD_app l q j (by omega)] at hb
    exact List.mem_append.2 (Or.inl (h.cl j b hj hb))
  · intro b hb hbl
    rw [getD_app l q i hi] at hbl
    by_cases e : b = q
    · subst e; simp
    · exact List.mem_append.2 (Or.inl (h.cq b (by omega) hbl))
theorem BfS.next (h : BfS W M l i M) (hw : WebOk W M) : BfS W M l (i + 1) 0 := ⟨h.nd, h.z, h.lt, h.rch, fun j b hj hl => by
  by_cases e : j = i
  · subst e; exact h.cq b (hw.lt _ _ hl).2.1 hl
  · exact h.cl j b (by omega) hl, fun b hb => by omega⟩
theorem BfS.len (h : BfS W M l i q) : l.length ≤ M := (nodup_len M l h.nd h.lt).1
theorem BfS.fin (h : BfS W M l i q) (hi : l.length ≤ i) : l.length < M ↔ ¬ Conn W M := by
  have hc : ∀ a b, a ∈ l → lk W a b = true → b ∈ l := fun a b ha hl => by
    obtain ⟨j, hj, rfl⟩ := List.mem_iff_getElem.1 ha
    refine h.cl j b (by omega) ?_
    rw [List.getD_eq_getElem?_getD, List.getElem?_eq_getElem hj]
    exact hl
  constructor
  · intro hlt hC
    have := full_len M l (fun q hq => hC q hq (fun x => x ∈ l) h.z hc)
    omega
  · intro hn
    apply Classical.byContradiction
    intro hx
    have h1 := nodup_len M l h.nd h.lt
    exact hn fun q hq => h.rch q (h1.2 (by omega) q hq)
end
def intL (l : List Nat) : List Int := l.map fun x : Nat => (x : Int)
theorem intL_getD (l : List Nat) (i : Nat) : (intL l).getD i 0 = ((l.getD i 0 : Nat) : Int) := by
  unfold intL
  rw [List.getD_eq_getElem?_getD, List.getD_eq_getElem?_getD, List.getElem?_map]
  cases l[i]? <;> rfl
theorem intL_mem (l : List Nat) (q : Nat) : (decide ((q : Int) ∈ intL l)) = decide (q ∈ l) := by
  apply decide_eq_decide.2
  unfold intL
  rw [List.mem_map]
  constructor
  · rintro ⟨x, hx, e⟩
    have : x = q := by omega
    subst this; exact hx
  · intro h; exact ⟨q, h, rfl⟩
theorem intL_snoc (l : List Nat) (q : Nat) : iC (intL (l ++ [q])) = iC (intL l) ++ [.int .i64 (q : Int)] := by unfold intL; rw [List.map_append, ← iC_snoc]; rfl
/-- A list of one, just made. -/
theorem own_fst {w : World} {b base : Nat} {x : Int} (h : w.heap[b]? = some (.cells #[.int .i64 x] 3 (0, 0))) (hb : base ≤ b) : w.ownsRow base 3 1 (.slice (some ⟨b, 0, none⟩) 1 1) 1 (iC [x]) :=
  ⟨rfl, Or.inr ⟨b, 1, _, rfl, hb, h, Nat.le_refl _, by decide, rfl, rfl⟩⟩
theorem own_ext {w w' : World} {base n size : Nat} {v : Value} {xs : List Value} {e : TypeId} (h : w.ownsRow base e size v n xs) (k : Ext w w') : w'.ownsRow base e size v n xs := by
  refine ⟨h.1, ?_⟩
  rcases h.2 with h | ⟨g, cap, cur, hv, hb, hg, rest⟩
  · exact Or.inl h
  · exact Or.inr ⟨g, cap, cur, hv, hb, (k.block g (Array.getElem?_eq_some_iff.1 hg).1).trans hg, rest⟩
theorem lkI {N : Int} (h1 : 1 ≤ N) (hN : N ≤ 12) {ls : List Lnk} (hok : lnOk N ls ls.length) (x y : Nat) : lkd ls (x : Int) (y : Int) = lk (webOf ls) x y := ((web_ok h1 hN ls hok).2 x y).symm

set_option maxRecDepth 100000 in
set_option maxHeartbeats 8000000 in
theorem CheckDevice_any (N : Int) (ls : List Lnk) (ao : Option Addr) (n cp : Nat) (w : World) (h : LnkAt w ao n ls) (hn : n ≤ 9223372036854775806) (hnc : n ≤ cp) (_hcp : cp ≤ 9223372036854775807) :
    Calls Tryd.prog 10 #[.agg #[.int .i64 N, .slice ao n cp]] w fun e w' => e = .returned (.agg #[.int .i64 (devF N ls).1, .int .i64 (devF N ls).2]) ∧ Ext w w' := by
  obtain ⟨r, hr⟩ : ∃ r, devF N ls = r := ⟨_, rfl⟩
  obtain ⟨r0, r1⟩ := r
  rw [hr]
  unfold devF at hr
  simp only
  have Hl := Lib.hid h.1
  obtain ⟨H, hH⟩ : ∃ H, w.heap.size = H := ⟨_, rfl⟩
  obtain ⟨W0, hW0⟩ : ∃ W0, (w.alloc (.cells #[.int .i64 N, .slice ao n cp] 24)).alloc (.cells #[.int .i64 0, .int .i64 0] 27) = W0 := ⟨_, rfl⟩
  have E0 : Ext w W0 := by rw [← hW0]; exact (ext_al w _).trans (ext_al _ _)
  have bD : DvB W0 H N ao n cp := by rw [← hW0, ← hH]; exact DvB.ext ⟨heap_alloc_new w _⟩ (ext_al _ _)
  have bF : FtB W0 (H + 1) 0 0 := ⟨by
    have := heap_alloc_new (w.alloc (.cells #[.int .i64 N, .slice ao n cp] 24)) (.cells #[.int .i64 0, .int .i64 0] 27)
    rw [← hW0, ← hH]
    simpa using this⟩
  have HE0 := Lib.hid E0; have Hh := Lib.hid (h.ext E0); have HD := Lib.hid bD; have HFt := Lib.hid bF
  have HwH := Lib.hid (show w.heap.size ≤ H + 1 by omega); have HW0 := Lib.hid hW0; have HH := Lib.hid hH; have Hn := Lib.hid hn
  have v0 := bD.x0; have v1 := bD.x1
  clear h E0 bD bF hW0 hH hn
  have q9 : (n : Int) ≤ (cp : Int) := by omega
  by_cases hq : N < 1 ∨ 12 < N
  · rw [if_pos hq] at hr
    have HF := Lib.hid (show r0 = 6 ∧ r1 = 0 from ⟨(congrArg Prod.fst hr).symm, (congrArg Prod.snd hr).symm⟩)
    have fin : ∀ (wz : World), Ext W0 wz → FtB wz (H + 1) 0 0 := fun wz h => HFt.out.ext h
    by_cases hq1 : N < 1
    · have d1 := dt hq1
      clear hr hq
      go_enter Tryd.func10, Tryd.ntmps10
      go_upto_region 1 with fail
      rw [HW0.out, HH.out]
      go_wp2_with fail
      refine (rfault_any 6 0 _).mono ?_
      rintro e wz ⟨rfl, hxz⟩
      have bz := fin wz hxz; have x0 := bz.x0; have x1 := bz.x1; have g0 := bz.f 0; have g1 := bz.f 1; have HEz := Lib.hid (HE0.out.trans hxz)
      clear bz
      go_wp2_with fail
      exact bodyPost_ret (v := .agg #[.int .i64 6, .int .i64 0]) (by simp [results, Tryd.results10, go_sem, x0, x1]) rfl ⟨by rw [HF.out.1, HF.out.2], put2x HEz.out HwH.out _ _⟩
    · have d1 := df hq1
      have d2 := dt (show 12 < N by omega)
      clear hr hq
      go_enter Tryd.func10, Tryd.ntmps10
      go_upto_region 1 with fail
      rw [HW0.out, HH.out]
      go_wp2_with fail
      refine (rfault_any 6 0 _).mono ?_
      rintro e wz ⟨rfl, hxz⟩
      have bz := fin wz hxz; have x0 := bz.x0; have x1 := bz.x1; have g0 := bz.f 0; have g1 := bz.f 1; have HEz := Lib.hid (HE0.out.trans hxz)
      clear bz
      go_wp2_with fail
      exact bodyPost_ret (v := .agg #[.int .i64 6, .int .i64 0]) (by simp [results, Tryd.results10, go_sem, x0, x1]) rfl ⟨by rw [HF.out.1, HF.out.2], put2x HEz.out HwH.out _ _⟩
  rw [if_neg hq, Hl.out] at hr
  have dq1 := df (show ¬ N < 1 by omega)
  have dq2 := df (show ¬ 12 < N by omega)
  have Hr := Lib.hid hr; have Hq := Lib.hid (show 1 ≤ N ∧ N ≤ 12 by omega)
  clear hr hq
  go_enter Tryd.func10, Tryd.ntmps10
  go_upto_region 1 with fail
  rw [HW0.out, HH.out]
  clear HW0 HH
  go_wp2_with fail
  clear v0 v1
  go_loopg [3, 4] n (fun kk s3 _ wr => ∃ i : Nat, s3 = .int .i64 (i : Int) ∧ i ≤ n ∧ n - i = kk ∧ Ext W0 wr ∧ lnOk N ls i ∧ lnF N ls n 0 = lnF N ls (n - i) i)
  case atStart => exact ⟨0, rfl, Nat.zero_le _, rfl, Ext.refl _, fun j hj => by omega, rfl⟩
  case round =>
    obtain ⟨i, rfl, hi, hk, hE, hok, hln⟩ := hrel
    have HE := Lib.hid hE; have Hk := Lib.hid hk; have Hok := Lib.hid hok; have Hln := Lib.hid hln
    have bD := HD.out.ext hE
    have v0 := bD.x0; have v1 := bD.x1
    by_cases hin : i = n
    · subst hin
      have q1 : ¬ (i : Int) < (i : Int) := by omega
      have hr := Hr.out
      rw [hln, show i - i = 0 by omega, show lnF N ls 0 i = ((0 : Int), (0 : Int)) from rfl, if_neg (show ¬ ((0 : Int), (0 : Int)).1 ≠ 0 from fun h => h rfl)] at hr
      have hwo := web_ok Hq.out.1 Hq.out.2 ls (by rw [Hl.out]; exact hok)
      obtain ⟨M, hM⟩ : ∃ M : Nat, N = (M : Int) := ⟨N.toNat, by have := Hq.out; omega⟩
      subst hM
      rw [Int.toNat_natCast] at hr hwo
      have hM1 : 1 ≤ M ∧ M ≤ 12 := by have := Hq.out; omega
      have HY := Lib.hid (show Conn (webOf ls) M → r0 = 0 ∧ r1 = 0 from fun hc => by
        rw [if_pos ((reached_iff hwo.1 hM1.1).2 hc)] at hr
        exact ⟨(congrArg Prod.fst hr).symm, (congrArg Prod.snd hr).symm⟩)
      have HX := Lib.hid (show ¬ Conn (webOf ls) M → r0 = 37 ∧ r1 = 0 from fun hc => by
        rw [if_neg (fun e => hc ((reached_iff hwo.1 hM1.1).1 e))] at hr
        exact ⟨(congrArg Prod.fst hr).symm, (congrArg Prod.snd hr).symm⟩)
      have Hwo := Lib.hid hwo; have HM := Lib.hid hM1
      have Hn0 := Lib.hid (own_fst (base := W0.heap.size) (heap_alloc_new wr (.cells #[.int .i64 0] 3)) hE.size)
      have Ea := ext_al wr (.cells #[.int .i64 0] 3)
      have HEa := Lib.hid (hE.trans Ea)
      obtain ⟨i0, hi0, hz0, hz1, hz2⟩ := info_parts i_info
      have HI := Lib.hid (show lnOk (M : Int) ls ls.length by rw [Hl.out]; exact hok)
      clear hi hk hE hok hln hr hwo bD Ea
      go_wp2_with fail
      generalize wr.alloc (.cells #[.int .i64 0] 3) = U0 at *
      clear v0 v1
      go_loopg [5, 6, 7] M (fun kk s5 s6 _ wx => ∃ (l : List Nat) (j : Nat), s6 = .int .i64 (j : Int) ∧ j ≤ l.length ∧ M - j = kk ∧ BfS (webOf ls) M l j 0 ∧ Ext W0 wx ∧ wx.ownsRow W0.heap.size 3 1 s5 l.length (iC (intL l)))
      case atStart => exact ⟨[0], 0, rfl, Nat.zero_le _, rfl, BfS.init HM.out.1, HEa.out, Hn0.out⟩
      case round =>
        clear HEa Hn0 HE
        obtain ⟨l, j, rfl, hj, hjk, hB, hE, hown⟩ := hrel
        have HE := Lib.hid hE; have HB := Lib.hid hB; have Hjk := Lib.hid hjk
        obtain ⟨av, cv, rfl, hlc, hcm, hints, hty⟩ := ints_of_own hown
        have Hown := Lib.hid hown
        have bD := HD.out.ext hE
        have v0 := bD.x0
        have hlen := hB.len
        by_cases hjl : j = l.length
        · have q1 : ¬ (j : Int) < (l.length : Int) := by omega
          have hfin := hB.fin (by omega)
          by_cases hc : Conn (webOf ls) M
          · have q2 : ¬ (l.length : Int) < (M : Int) := by
              have : ¬ l.length < M := fun h => hfin.1 h hc
              omega
            have HF := Lib.hid (HY.out hc)
            have bz := HFt.out.ext hE; have x0 := bz.x0; have x1 := bz.x1; have g0 := bz.f 0; have g1 := bz.f 1; have HEz := Lib.hid (HE0.out.trans hE)
            clear hj hjk hB hE hown hints hty bD hlen hjl hfin hc bz
            go_wp2_with fail
            exact bodyPost_ret (v := .agg #[.int .i64 0, .int .i64 0]) (by simp [results, Tryd.results10, go_sem, x0, x1]) rfl ⟨by rw [HF.out.1, HF.out.2], put2x HEz.out HwH.out _ _⟩
          · have q2 : (l.length : Int) < (M : Int) := by
              have : l.length < M := hfin.2 hc
              omega
            have HF := Lib.hid (HX.out hc)
            clear hj hjk hB hown hints hty bD hlen hjl hfin hc
            go_wp2_with fail
            refine (rfault_any 37 0 _).mono ?_
            rintro e wz ⟨rfl, hxz⟩
            have bz := HFt.out.ext (HE.out.trans hxz); have x0 := bz.x0; have x1 := bz.x1; have g0 := bz.f 0; have g1 := bz.f 1; have HEz := Lib.hid (HE0.out.trans (HE.out.trans hxz))
            clear bz
            go_wp2_with fail
            exact bodyPost_ret (v := .agg #[.int .i64 37, .int .i64 0]) (by simp [results, Tryd.results10, go_sem, x0, x1]) rfl ⟨by rw [HF.out.1, HF.out.2], put2x HEz.out HwH.out _ _⟩
        have hjlt : j < l.length := by omega
        have q1 : (j : Int) < (l.length : Int) := by omega
        have q0 : (0 : Int) ≤ (j : Int) := by omega
        have wj : IntKind.i64.wrap ((j : Int) + 1) = ((j + 1 : Nat) : Int) := by rw [IntKind.wrap_i64]; have := HM.out; omega
        have Hjlt := Lib.hid hjlt
        have HjM := Lib.hid (show j < M by omega)
        clear hj hjk hB hE hown hints hty bD hlen hjl v0
        go_wp2_with fail
        go_loopg [5, 7] M (fun kk s5 s7 wy => ∃ (l : List Nat) (q : Nat), s7 = .int .i64 (q : Int) ∧ q ≤ M ∧ M - q = kk ∧ j < l.length ∧ BfS (webOf ls) M l j q ∧ Ext W0 wy ∧ wy.ownsRow W0.heap.size 3 1 s5 l.length (iC (intL l)))
        case atStart => exact ⟨l, 0, rfl, Nat.zero_le _, rfl, Hjlt.out, HB.out, HE.out, Hown.out⟩
        case round =>
          clear HE HB Hown Hjlt hjlt q1
          clear hlc hcm
          obtain ⟨l, q, rfl, hq, hqk, hjlt, hB, hE, hown⟩ := hrel
          have HE := Lib.hid hE; have HB := Lib.hid hB; have Hqk := Lib.hid hqk; have Hjlt := Lib.hid hjlt
          obtain ⟨av, cv, rfl, hlc, hcm, hints, hty⟩ := ints_of_own hown
          have Hown := Lib.hid hown
          have bD := HD.out.ext hE
          have v0 := bD.x0
          by_cases hqM : q = M
          · subst hqM
            have q1 : ¬ (q : Int) < (q : Int) := by omega
            have Hnx := Lib.hid (hB.next Hwo.out.1)
            clear hq hqk hB hE hown hints hty bD hjlt
            go_wp2_with fail
            go_roundg (q - (j + 1))
            case measure => have := Hjk.out; have := HjM.out; omega
            case rel => exact ⟨l, j + 1, rfl, Hjlt.out, rfl, Hnx.out, HE.out, Hown.out⟩
          have hqlt : q < M := by omega
          have q1 : (q : Int) < (M : Int) := by omega
          have wq : IntKind.i64.wrap ((q : Int) + 1) = ((q + 1 : Nat) : Int) := by rw [IntKind.wrap_i64]; have := HM.out; omega
          obtain ⟨X, Fw, hXn, hFe, hFs⟩ := fam wr
          have hUd : Ext wr wr.drew := Below.drew (Ext.refl wr)
          have HMb := Lib.hid (fun wx (hx : Ext wr wx) => member_any av l.length cv (intL l) (q : Int) wx (hints.ext hx) hlc (by unfold maxLen at hcm; omega))
          rw [intL_mem] at HMb
          obtain ⟨b, o, rfl, hbl, hcell⟩ := hints.at (by omega)
          have hci := hcell j hjlt
          rw [intL_getD] at hci
          have HLk := Lib.hid (fun wx (hx : Ext wr wx) => linked_any (M : Int) ls ao i cp ((l.getD j 0 : Nat) : Int) (q : Int) wx (Hh.out.ext (hE.trans hx)) Hn.out)
          rw [lkI Hq.out.1 Hq.out.2 HI.out] at HLk
          obtain ⟨B, hBB⟩ : ∃ B, decide (q ∈ l) = B := ⟨_, rfl⟩
          obtain ⟨L, hL⟩ : ∃ L, lk (webOf ls) (l.getD j 0) q = L := ⟨_, rfl⟩
          rw [hBB] at HMb
          rw [hL] at HLk
          obtain ⟨Y, hY⟩ : ∃ Y, l.getD j 0 = Y := ⟨_, rfl⟩
          rw [hY] at hci HLk
          have e0 : ∀ x, (Fw x).cell? ⟨H, 0, none⟩ = some (.int .i64 (M : Int)) := fun x => (bD.ext (hFe x)).x0
          have e1 : ∀ x, (Fw x).cell? ⟨H, 1, none⟩ = some (.slice ao i cp) := fun x => (bD.ext (hFe x)).x1
          have e2 : ∀ x, (Fw x).cell? ⟨b, o + j, none⟩ = some (.int .i64 (Y : Int)) := fun x => cell_ext hci (hFe x)
          have q2 : (j : Int) < (l.length : Int) := by omega
          have Hsk := Lib.hid (show (B = true ∨ L = false) → BfS (webOf ls) M l j (q + 1) from fun h => HB.out.skip (by
            rcases h with h | h
            · exact Or.inl (of_decide_eq_true (hBB.trans h))
            · exact Or.inr (hL.trans h)))
          have Had := Lib.hid (show B = false → L = true → BfS (webOf ls) M (l ++ [q]) j (q + 1) from fun h1 h2 => HB.out.add hjlt hqlt (of_decide_eq_false (hBB.trans h1)) (hL.trans h2))
          have Hqlt := Lib.hid hqlt
          clear hq hqk hB hE hown hints hty bD hjlt hqlt hbl hcell hBB hL hY hci HB
          cases B
          · cases L
            · go_upto_region 20 with fail
              refine wp_region_M (by kernel_rfl) (by kernel_rfl) (hFs _ hUd) ?_
              repeat (go_big_quiet_step (first | exact (HMb.out _ (hFe _)).mono (fun e w' h => ⟨h.1, hFs _ (by rw [h.2]; exact hFe _)⟩) | exact (HLk.out _ (hFe _)).mono (fun e w' h => ⟨h.1, hFs _ ((hFe _).trans h.2)⟩)))
              refine wpQuiet_nil ?_
              rintro _ ⟨xq, rfl⟩
              have HEx := Lib.hid (hFe xq)
              generalize Fw xq = W2 at *
              clear e0 e1 e2 hFe hFs hXn HMb HLk hUd v0
              have Hnx := Lib.hid (Hsk.out (Or.inr rfl))
              have HE2 := Lib.hid (HE.out.trans HEx.out)
              have Hown2 := Lib.hid (own_ext Hown.out HEx.out)
              clear Hsk Had
              go_wp2_with fail
              go_roundg (M - (q + 1))
              case measure => have := Hqk.out; have := Hqlt.out; omega
              case rel => exact ⟨l, q + 1, rfl, Hqlt.out, rfl, Hjlt.out, Hnx.out, HE2.out, Hown2.out⟩
            · go_upto_region 20 with fail
              refine wp_region_M (by kernel_rfl) (by kernel_rfl) (hFs _ hUd) ?_
              repeat (go_big_quiet_step (first | exact (HMb.out _ (hFe _)).mono (fun e w' h => ⟨h.1, hFs _ (by rw [h.2]; exact hFe _)⟩) | exact (HLk.out _ (hFe _)).mono (fun e w' h => ⟨h.1, hFs _ ((hFe _).trans h.2)⟩)))
              refine wpQuiet_nil ?_
              rintro _ ⟨xq, rfl⟩
              have HEx := Lib.hid (hFe xq)
              generalize Fw xq = W2 at *
              clear e0 e1 e2 hFe hFs hXn HMb HLk hUd v0
              have Hnx := Lib.hid (Had.out rfl rfl)
              have HE2 := Lib.hid (HE.out.trans HEx.out)
              have Hown2 := Lib.hid (own_ext Hown.out HEx.out)
              have HlM := Lib.hid (show l.length + 1 ≤ 13 from by have := Hnx.out.len; rw [List.length_append] at this; have h2 := HM.out.2; simp at this; omega)
              have Hst := Lib.hid (intL_snoc l q)
              clear Hsk Had
              go_wp2_with (at_builtin; refine wpList_append_own _ rfl _ _ 36 rfl W0.heap.size 3 i0 (.int .i64 0) 1 8 Tryd.underlying36 hi0 hz0 hz1 hz2 rfl (by decide) _ l.length (iC (intL l)) rfl (Hown2.out.alloc _) ⟨W2.heap.size, 0, none⟩ 1 1 [.int .i64 (q : Int)] rfl rfl (new_i W2 (q : Int) _) (one_i (q : Int)) (by have := HlM.out; unfold maxLen; omega) (by have := HlM.out; omega) (Nat.le_trans HE2.out.size (ext_al W2 _).size) ?_; intro v' w7 hown' hgrow' _)
              go_roundg (M - (q + 1))
              case measure => have := Hqk.out; have := Hqlt.out; omega
              case rel => exact ⟨l ++ [q], q + 1, rfl, Hqlt.out, rfl, by rw [List.length_append]; have := Hjlt.out; omega, Hnx.out, grown_ext (HE2.out.trans (ext_al W2 _)) hgrow' (fun k hk => (own_lt Hown2.out k hk).1), by rw [Hst.out, List.length_append]; exact hown'⟩
          · go_upto_region 20 with fail
            refine wp_region_M (by kernel_rfl) (by kernel_rfl) (hFs _ hUd) ?_
            repeat (go_big_quiet_step (first | exact (HMb.out _ (hFe _)).mono (fun e w' h => ⟨h.1, hFs _ (by rw [h.2]; exact hFe _)⟩) | exact (HLk.out _ (hFe _)).mono (fun e w' h => ⟨h.1, hFs _ ((hFe _).trans h.2)⟩)))
            refine wpQuiet_nil ?_
            rintro _ ⟨xq, rfl⟩
            have HEx := Lib.hid (hFe xq)
            generalize Fw xq = W2 at *
            clear e0 e1 e2 hFe hFs hXn HMb HLk hUd v0
            have Hnx := Lib.hid (Hsk.out (Or.inl rfl))
            have HE2 := Lib.hid (HE.out.trans HEx.out)
            have Hown2 := Lib.hid (own_ext Hown.out HEx.out)
            clear Hsk Had
            go_wp2_with fail
            go_roundg (M - (q + 1))
            case measure => have := Hqk.out; have := Hqlt.out; omega
            case rel => exact ⟨l, q + 1, rfl, Hqlt.out, rfl, Hjlt.out, Hnx.out, HE2.out, Hown2.out⟩
    have hlt : i < n := by omega
    have Hlt := Lib.hid hlt
    have q1 : (i : Int) < (n : Int) := by omega
    have q0 : (0 : Int) ≤ (i : Int) := by omega
    have wk : IntKind.i64.wrap ((i : Int) + 1) = ((i + 1 : Nat) : Int) := by rw [IntKind.wrap_i64]; have := Hn.out; omega
    have qc : (i : Int) ≤ (cp : Int) := by omega
    have qc2 : i ≤ cp := by omega
    obtain ⟨b, o, rfl, hbl, hcell⟩ := (Hh.out.ext hE).at (by omega)
    obtain ⟨e0, e1⟩ := hcell i hlt
    have hst := lnF_step N ls i n hlt
    rw [← hln] at hst
    obtain ⟨⟨a, c⟩, hkk⟩ : ∃ k, ls.getD i (0, 0) = k := ⟨_, rfl⟩
    have HC0 := Lib.hid (show ∀ j, j < i + 1 → lnkC N (ls.take i) (a, c) = 0 → lnkC N (ls.take j) (ls.getD j (0, 0)) = 0 from fun j hj h0 => by
      by_cases e : j = i
      · rw [e, hkk]; exact h0
      · exact Hok.out j (by omega))
    rw [hkk] at e0 e1 hst
    simp only at e0 e1
    have Hst := Lib.hid hst
    have HFc := Lib.hid (show ∀ k : Int, k ≠ 0 → lnkC N (ls.take i) (a, c) = k → r0 = k ∧ r1 = (i : Int) from fun k hk0 hk => by
      have hr := Hr.out
      rw [Hst.out, hk, if_pos hk0, if_pos hk0] at hr
      exact ⟨(congrArg Prod.fst hr).symm, (congrArg Prod.snd hr).symm⟩)
    obtain ⟨G, hG⟩ : ∃ G, wr.heap.size = G := ⟨_, rfl⟩
    obtain ⟨U, hU⟩ : ∃ U, wr.alloc (.cells #[.int .i64 a, .int .i64 c] 76) = U := ⟨_, rfl⟩
    have EU : Ext wr U := by rw [← hU]; exact ext_al _ _
    have rU : U.heap[G]? = some (.cells #[.int .i64 a, .int .i64 c] 76 (0, 0)) := by rw [← hU, ← hG]; exact heap_alloc_new _ _
    have y0 : U.cell? ⟨G, 0, none⟩ = some (.int .i64 a) := by rw [cell_of_row U G 0 _ _ (0, 0) rU]; rfl
    have y1 : U.cell? ⟨G, 1, none⟩ = some (.int .i64 c) := by rw [cell_of_row U G 1 _ _ (0, 0) rU]; rfl
    have z0 := (bD.ext EU).x0; have z1 := (bD.ext EU).x1
    have HU := Lib.hid hU; have HG := Lib.hid hG; have HEU := Lib.hid (hE.trans EU); have HbD := Lib.hid (bD.ext EU)
    obtain ⟨E, hEE⟩ : ∃ E, decide (a < 0 ∨ N ≤ a ∨ c < 0 ∨ N ≤ c) = E := ⟨_, rfl⟩
    have HEE := Lib.hid hEE
    clear hcell hbl hst hkk hU hG rU bD EU hE hk hok hln hEE
    go_upto_region 7 with fail
    rw [HU.out, HG.out]
    clear HU HG v0 v1 e0 e1
    go_cut [50] from 29 to 50 (fun s50 wx => s50 = .bool E ∧ U = wx)
    case first =>
      by_cases h1 : a < 0
      · have d1 := dt h1
        have hb : E = true := by rw [← HEE.out]; exact decide_eq_true (by omega)
        subst hb
        go_wp2_with fail
        go_meet
        exact ⟨rfl, rfl⟩
      have d1 := df h1
      by_cases h2 : c < 0
      · have d2 := dt h2
        have hb : E = true := by rw [← HEE.out]; exact decide_eq_true (by omega)
        subst hb
        go_wp2_with fail
        go_meet
        exact ⟨rfl, rfl⟩
      have d2 := df h2
      by_cases h3 : N ≤ a
      · have d3 := dt h3
        have hb : E = true := by rw [← HEE.out]; exact decide_eq_true (by omega)
        subst hb
        go_wp2_with fail
        go_meet
        exact ⟨rfl, rfl⟩
      have d3 := df h3
      by_cases h4 : N ≤ c
      · have d4 := dt h4
        have hb : E = true := by rw [← HEE.out]; exact decide_eq_true (by omega)
        subst hb
        go_wp2_with fail
        go_meet
        exact ⟨rfl, rfl⟩
      have d4 := df h4
      have hb : E = false := by rw [← HEE.out]; exact decide_eq_false (by omega)
      subst hb
      go_wp2_with fail
      go_meet
      exact ⟨rfl, rfl⟩
    case rest =>
    obtain ⟨rfl, rfl⟩ := hcut
    cases E
    rotate_left 1
    · have HF := Lib.hid (HFc.out 10 (by decide) (by unfold lnkC; rw [if_pos (of_decide_eq_true HEE.out)]))
      clear y0 y1 z0 z1
      go_wp2_with fail
      refine (rfault_any 10 (i : Int) _).mono ?_
      rintro e wz ⟨rfl, hxz⟩
      have bz := HFt.out.ext (HEU.out.trans hxz); have x0 := bz.x0; have x1 := bz.x1; have g0 := bz.f 0; have g1 := bz.f 1; have HEz := Lib.hid (HE0.out.trans (HEU.out.trans hxz))
      clear bz
      go_wp2_with fail
      exact bodyPost_ret (v := .agg #[.int .i64 10, .int .i64 (i : Int)]) (by simp [results, Tryd.results10, go_sem, x0, x1]) rfl ⟨by rw [HF.out.1, HF.out.2], put2x HEz.out HwH.out _ _⟩
    have Hne := Lib.hid (of_decide_eq_false HEE.out)
    by_cases h5 : a = c
    · subst h5
      have HF := Lib.hid (HFc.out 12 (by decide) (by unfold lnkC; rw [if_neg Hne.out, if_pos rfl]))
      clear z0 z1
      go_wp2_with fail
      refine (rfault_any 12 (i : Int) _).mono ?_
      rintro e wz ⟨rfl, hxz⟩
      have bz := HFt.out.ext (HEU.out.trans hxz); have x0 := bz.x0; have x1 := bz.x1; have g0 := bz.f 0; have g1 := bz.f 1; have HEz := Lib.hid (HE0.out.trans (HEU.out.trans hxz))
      clear bz
      go_wp2_with fail
      exact bodyPost_ret (v := .agg #[.int .i64 12, .int .i64 (i : Int)]) (by simp [results, Tryd.results10, go_sem, x0, x1]) rfl ⟨by rw [HF.out.1, HF.out.2], put2x HEz.out HwH.out _ _⟩
    have d5 : (a == c) = false := beq_eq_false_iff_ne.2 h5
    have HLk := Lib.hid (fun wx (hx : Ext U wx) => linked_any N (ls.take i) (some ⟨b, o, none⟩) i cp a c wx ((Hh.out.take i (by omega)).ext (HEU.out.trans hx)) (by have := Hn.out; omega))
    obtain ⟨L, hL⟩ : ∃ L, lkd (ls.take i) a c = L := ⟨_, rfl⟩
    rw [hL] at HLk
    have HLc := Lib.hid (show lnkC N (ls.take i) (a, c) = if L = true then 27 else 0 by unfold lnkC; rw [if_neg Hne.out, if_neg h5, ← hL])
    clear hL h5
    go_upto_region 11 with fail
    obtain ⟨X, Fw, hXn, hFe, hFs⟩ := fam U
    have f0 : ∀ x, (Fw x).cell? ⟨H, 0, none⟩ = some (.int .i64 N) := fun x => (HbD.out.ext (hFe x)).x0
    have f1 : ∀ x, (Fw x).cell? ⟨H, 1, none⟩ = some (.slice (some ⟨b, o, none⟩) n cp) := fun x => (HbD.out.ext (hFe x)).x1
    have f2 : ∀ x, (Fw x).cell? ⟨G, 0, none⟩ = some (.int .i64 a) := fun x => cell_ext y0 (hFe x)
    have f3 : ∀ x, (Fw x).cell? ⟨G, 1, none⟩ = some (.int .i64 c) := fun x => cell_ext y1 (hFe x)
    have hUd : Ext U U.drew := Below.drew (Ext.refl U)
    clear y0 y1 z0 z1
    cases L
    · have Hz := Lib.hid (show lnkC N (ls.take i) (a, c) = 0 from HLc.out)
      refine wp_region_M (by kernel_rfl) (by kernel_rfl) (hFs _ hUd) ?_
      repeat (go_big_quiet_step (exact (HLk.out _ (hFe _)).mono (fun e w' h => ⟨h.1, hFs _ ((hFe _).trans h.2)⟩)))
      refine wpQuiet_nil ?_
      rintro _ ⟨xq, rfl⟩
      have HEx := Lib.hid (HEU.out.trans (hFe xq))
      generalize Fw xq = W2 at *
      clear f0 f1 f2 f3 hFe hFs hXn HLk hUd
      go_wp2_with fail
      go_roundg (n - (i + 1))
      case measure => have := Hk.out; have := Hlt.out; omega
      case rel => exact ⟨i + 1, rfl, Hlt.out, rfl, HEx.out, fun j hj => HC0.out j hj Hz.out, by rw [Hst.out, if_neg (by rw [Hz.out]; decide)]⟩
    · have HF := Lib.hid (HFc.out 27 (by decide) HLc.out)
      refine wp_region_M (by kernel_rfl) (by kernel_rfl) (hFs _ hUd) ?_
      repeat (go_big_quiet_step (exact (HLk.out _ (hFe _)).mono (fun e w' h => ⟨h.1, hFs _ ((hFe _).trans h.2)⟩)))
      refine wpQuiet_nil ?_
      rintro _ ⟨xq, rfl⟩
      have HEx := Lib.hid (HEU.out.trans (hFe xq))
      generalize Fw xq = W2 at *
      clear f0 f1 f2 f3 hFe hFs hXn HLk hUd
      go_wp2_with fail
      refine (rfault_any 27 (i : Int) _).mono ?_
      rintro e wz ⟨rfl, hxz⟩
      have bz := HFt.out.ext (HEx.out.trans hxz); have x0 := bz.x0; have x1 := bz.x1; have g0 := bz.f 0; have g1 := bz.f 1; have HEz := Lib.hid (HE0.out.trans (HEx.out.trans hxz))
      clear bz
      go_wp2_with fail
      exact bodyPost_ret (v := .agg #[.int .i64 27, .int .i64 (i : Int)]) (by simp [results, Tryd.results10, go_sem, x0, x1]) rfl ⟨by rw [HF.out.1, HF.out.2], put2x HEz.out HwH.out _ _⟩
end Go.Proofs.YtlokfalkhgjlbaaDoor
