/-
  Times in memory; what is wrong with times; how long an operation lasts; when operations begin, in plain numbers. What an operation touches, as package route lists it; whether two lists share a place. When operations begin, in plain numbers: by all ends ahead that share a place, and by the last end at each place. Both come to the same. When operations begin: the program's walk.
-/
import Derived.Test.YtlokfalkhgjlbaaDoorProg
import Derived.Test.YtlokfalkhgjlbaaDoorRows
import Derived.BigQuiet
import Derived.Deep.AppendLies
import Derived.Deep.Cut
import Derived.Deep.CutRange
import Derived.Deep.LoopGhost
import Derived.Deep.QuietTactic
import Derived.Deep.RegionHeld3
import Derived.Deep.Slices
import Derived.Ground.Names2Prog
import Derived.Laws.Bits64b
import Derived.Laws.CopyOwn
import Derived.Laws.ResultCell
import Derived.Lib.AppendZeros
import Derived.Lib.BitFns
import Derived.Lib.Hide
import Derived.Lib.ItoaMem
import Derived.Lib.ItoaNum
import Derived.Lib.MinMax
import Derived.Lib.Strings
import Derived.Lib.TrailingZeros
import Derived.Maps.AppendAt
import Derived.OrdersHeld
import Derived.OrdersIn
import Derived.OwnWalk
import Derived.ProofKit
import Derived.RangeFuncCalls
import Derived.RangeFuncFrom
import Derived.RegionTactic
import Derived.Shelf.Slices.Clone
import Derived.Shelf.Slices.Turned
import Derived.Shelf.Spec.TrailingZeros
import Derived.SizedLaws
import Derived.WalkKit
import Derived.WalkLawsBesides
import Derived.WalkSpells
import Derived.Test.YtlokfalkhgjlbaaDoorS00Ce
import Derived.Test.YtlokfalkhgjlbaaDoorS01Cj
import Derived.Test.YtlokfalkhgjlbaaDoorShelf
import Derived.Test.YtlokfalkhgjlbaaDoorS03Ma
import Derived.Test.YtlokfalkhgjlbaaDoorS04Mg
import Derived.Test.YtlokfalkhgjlbaaDoorS05Mm
import Derived.Test.YtlokfalkhgjlbaaDoorS06Mn
import Derived.Test.YtlokfalkhgjlbaaDoorS07Ms
import Derived.Test.YtlokfalkhgjlbaaDoorS08Cu
namespace Go.Proofs.YtlokfalkhgjlbaaDoor
open Go.RowKit Go.ChangeShapes Go.WideShapes Go.Deep

section
variable {H : Type} {enc : TypeId × Value → H} {W : World}
theorem cells_tm : Tryd.prog.cellsOf 65 = 4 := by kernel_rfl
set_option maxRecDepth 100000 in
theorem open_times {v : Value} {d : DataW H} {p : List MemPlace} {base : Nat} (hok : Value.okWide Tryd.prog W .any base 65 v) (h : DataW.Trod enc Tryd.prog W 0 (fun _ => true) true 65 v d p) :
    ∃ a b c e : Int, v = .agg #[.int .i64 a, .int .i64 b, .int .i64 c, .int .i64 e] := by
  obtain ⟨fuel, h⟩ := h
  have hv : ∃ cs : Array Value, v = .agg cs := by
    unfold Value.okWide at hok
    rw [Tryd.underlying65] at hok
    obtain ⟨cs, e, _⟩ := hok
    exact ⟨cs, e⟩
  obtain ⟨cs, rfl⟩ := hv
  obtain ⟨xs, n, _, hx0, hl, hlen, hf⟩ := DataW.trod_struct Tryd.underlying65 h
  obtain ⟨cl⟩ := cs
  have hcl : (Value.agg ⟨cl⟩).cells.toList = cl := rfl
  rw [hcl] at hl hf
  rw [cells_tm] at hl
  match xs, hlen, cl, hl with
  | [y0, y1, y2, y3], _, [v0, v1, v2, v3], _ =>
    have g0 := hf 0 _ rfl
    have g1 := hf 1 _ rfl
    have g2 := hf 2 _ rfl
    have g3 := hf 3 _ rfl
    simp only [List.getElem?_cons_zero, List.getElem?_cons_succ] at g0 g1 g2 g3
    obtain ⟨a, e0, _⟩ := DataW.trod_int Tryd.underlying3 g0
    obtain ⟨b, e1, _⟩ := DataW.trod_int Tryd.underlying3 g1
    obtain ⟨c, e2, _⟩ := DataW.trod_int Tryd.underlying3 g2
    obtain ⟨e, e3, _⟩ := DataW.trod_int Tryd.underlying3 g3
    injection e0 with e0; injection e1 with e1; injection e2 with e2; injection e3 with e3
    exact ⟨a, b, c, e, by rw [e0, e1, e2, e3]⟩
end
/-- Times. -/
structure Tms where
  a : Int
  b : Int
  c : Int
  d : Int
def tmB (x : Int) : Prop := x < 0 ∨ 1000000 < x
instance (x : Int) : Decidable (tmB x) := inferInstanceAs (Decidable (x < 0 ∨ 1000000 < x))
/-- The first time that is none. -/
def tmF (t : Tms) : Int × Int := if tmB t.a then (29, 0) else if tmB t.b then (29, 1) else if tmB t.c then (29, 2) else if tmB t.d then (29, 3) else (0, 0)
/-- Times in a variable. -/
structure TmB (W : World) (g : Nat) (t : Tms) : Prop where
  row : W.heap[g]? = some (.cells #[.int .i64 t.a, .int .i64 t.b, .int .i64 t.c, .int .i64 t.d] 65 (0, 0))
section
variable {W W' : World} {g : Nat} {t : Tms}
theorem TmB.lt (h : TmB W g t) : g < W.heap.size := (Array.getElem?_eq_some_iff.1 h.row).1
theorem TmB.ext (h : TmB W g t) (k : Ext W W') : TmB W' g t := ⟨(k.block _ h.lt).trans h.row⟩
theorem TmB.x0 (h : TmB W g t) : W.cell? ⟨g, 0, none⟩ = some (.int .i64 t.a) := by rw [cell_of_row W g 0 _ _ (0, 0) h.row]; rfl
theorem TmB.x1 (h : TmB W g t) : W.cell? ⟨g, 1, none⟩ = some (.int .i64 t.b) := by rw [cell_of_row W g 1 _ _ (0, 0) h.row]; rfl
theorem TmB.x2 (h : TmB W g t) : W.cell? ⟨g, 2, none⟩ = some (.int .i64 t.c) := by rw [cell_of_row W g 2 _ _ (0, 0) h.row]; rfl
theorem TmB.x3 (h : TmB W g t) : W.cell? ⟨g, 3, none⟩ = some (.int .i64 t.d) := by rw [cell_of_row W g 3 _ _ (0, 0) h.row]; rfl
end
/-- What is left to look at. -/
def tmR (t : Tms) : Nat → Int × Int
  | 0 => tmF t
  | 1 => if tmB t.b then (29, 1) else if tmB t.c then (29, 2) else if tmB t.d then (29, 3) else (0, 0)
  | 2 => if tmB t.c then (29, 2) else if tmB t.d then (29, 3) else (0, 0)
  | 3 => if tmB t.d then (29, 3) else (0, 0)
  | _ => (0, 0)
def tmA (t : Tms) : Nat → Int
  | 0 => t.a
  | 1 => t.b
  | 2 => t.c
  | _ => t.d
theorem tmR_step (t : Tms) (i : Nat) (h : i < 4) : tmR t i = if tmB (tmA t i) then (29, (i : Int)) else tmR t (i + 1) := by
  match i, h with
  | 0, _ => rfl
  | 1, _ => rfl
  | 2, _ => rfl
  | 3, _ => rfl
/-- How long an operation lasts. -/
def lst (t : Tms) (o : Gop) : Int := if o.kind = 1 ∨ o.kind = 4 then t.c else if o.kind = 5 ∨ o.kind = 6 then t.d else if isCt o then t.b else t.a

set_option maxRecDepth 100000 in
set_option maxHeartbeats 4000000 in
theorem checkTimes_any (t : Tms) (w : World) :
    Calls Tryd.prog 44 #[.agg #[.int .i64 t.a, .int .i64 t.b, .int .i64 t.c, .int .i64 t.d]] w fun e w' => e = .returned (.agg #[.int .i64 (tmF t).1, .int .i64 (tmF t).2]) ∧ Ext w w' := by
  obtain ⟨r, hr⟩ : ∃ r, tmF t = r := ⟨_, rfl⟩
  obtain ⟨r0, r1⟩ := r
  rw [hr]
  simp only
  have Hr := Lib.hid (show tmR t 0 = (r0, r1) from hr)
  obtain ⟨H, hH⟩ : ∃ H, w.heap.size = H := ⟨_, rfl⟩
  obtain ⟨W0, hW0⟩ : ∃ W0, (w.alloc (.cells #[.int .i64 t.a, .int .i64 t.b, .int .i64 t.c, .int .i64 t.d] 65)).alloc (.cells #[.int .i64 0, .int .i64 0] 27) = W0 := ⟨_, rfl⟩
  have E0 : Ext w W0 := by rw [← hW0]; exact (ext_al w _).trans (ext_al _ _)
  have bT : TmB W0 H t := by rw [← hW0, ← hH]; exact TmB.ext ⟨heap_alloc_new w _⟩ (ext_al _ _)
  have bF : FtB W0 (H + 1) 0 0 := ⟨by
    have := heap_alloc_new (w.alloc (.cells #[.int .i64 t.a, .int .i64 t.b, .int .i64 t.c, .int .i64 t.d] 65)) (.cells #[.int .i64 0, .int .i64 0] 27)
    rw [← hW0, ← hH]
    simpa using this⟩
  have HE0 := Lib.hid E0; have HFt := Lib.hid bF; have HW0 := Lib.hid hW0; have HH := Lib.hid hH; have HwH := Lib.hid (show w.heap.size ≤ H + 1 by omega)
  have x0 := bF.x0; have x1 := bF.x1; have g0 := bF.f 0; have g1 := bF.f 1
  have v0 := bT.x0; have v1 := bT.x1; have v2 := bT.x2; have v3 := bT.x3
  clear hr E0 bT bF hW0 hH
  go_enter Tryd.func44, Tryd.ntmps44
  go_upto_region 1 with fail
  rw [HW0.out, HH.out]
  clear HW0 HH
  go_wp2_with fail
  clear v0 v1 v2 v3
  have i0 : ∀ w, (Instr.index 111 (.agg #[.int .i64 t.a, .int .i64 t.b, .int .i64 t.c, .int .i64 t.d]) (.int .i64 0)).run Tryd.prog w = .ok (.int .i64 t.a) w := fun _ => by kernel_rfl
  have i1 : ∀ w, (Instr.index 111 (.agg #[.int .i64 t.a, .int .i64 t.b, .int .i64 t.c, .int .i64 t.d]) (.int .i64 1)).run Tryd.prog w = .ok (.int .i64 t.b) w := fun _ => by kernel_rfl
  have i2 : ∀ w, (Instr.index 111 (.agg #[.int .i64 t.a, .int .i64 t.b, .int .i64 t.c, .int .i64 t.d]) (.int .i64 2)).run Tryd.prog w = .ok (.int .i64 t.c) w := fun _ => by kernel_rfl
  have i3 : ∀ w, (Instr.index 111 (.agg #[.int .i64 t.a, .int .i64 t.b, .int .i64 t.c, .int .i64 t.d]) (.int .i64 3)).run Tryd.prog w = .ok (.int .i64 t.d) w := fun _ => by kernel_rfl
  go_loopg [3, 4, 14] 4 (fun kk _ _ s14 wr => ∃ i : Nat, s14 = .int .i64 (i : Int) ∧ i ≤ 4 ∧ 4 - i = kk ∧ W0 = wr ∧ tmR t 0 = tmR t i)
  case atStart => exact ⟨0, rfl, Nat.zero_le _, rfl, rfl, rfl⟩
  case round =>
    obtain ⟨i, rfl, hi, hk, rfl, hst⟩ := hrel
    have Hk := Lib.hid hk
    by_cases hin : i = 4
    · subst hin
      have hr := Hr.out
      rw [hst] at hr
      have HF := Lib.hid (show r0 = 0 ∧ r1 = 0 from ⟨(congrArg Prod.fst hr).symm, (congrArg Prod.snd hr).symm⟩)
      clear hi hk hst hr
      go_wp2_with fail
      exact bodyPost_ret (v := .agg #[.int .i64 0, .int .i64 0]) (by simp [results, Tryd.results44, go_sem, x0, x1]) rfl ⟨by rw [HF.out.1, HF.out.2], put2x HE0.out HwH.out _ _⟩
    have hlt : i < 4 := by omega
    have hcase : i = 0 ∨ i = 1 ∨ i = 2 ∨ i = 3 := by omega
    rcases hcase with rfl | rfl | rfl | rfl
    · by_cases h1 : t.a < 0
      · have d1 := dt h1
        have hr := Hr.out
        rw [hst, tmR_step t 0 (by decide), show tmA t 0 = t.a from rfl, if_pos (show tmB t.a from Or.inl h1)] at hr
        have HF := Lib.hid (show r0 = 29 ∧ r1 = 0 from ⟨(congrArg Prod.fst hr).symm, (congrArg Prod.snd hr).symm⟩)
        clear hr hst hi hk hin hlt
        go_wp2_with fail
        exact bodyPost_ret (v := .agg #[.int .i64 29, .int .i64 0]) (by simp [results, Tryd.results44, go_sem, x0, x1]) rfl ⟨by rw [HF.out.1, HF.out.2], put2x HE0.out HwH.out _ _⟩
      have d1 := df h1
      by_cases h2 : 1000000 < t.a
      · have d2 := dt h2
        have hr := Hr.out
        rw [hst, tmR_step t 0 (by decide), show tmA t 0 = t.a from rfl, if_pos (show tmB t.a from Or.inr h2)] at hr
        have HF := Lib.hid (show r0 = 29 ∧ r1 = 0 from ⟨(congrArg Prod.fst hr).symm, (congrArg Prod.snd hr).symm⟩)
        clear hr hst hi hk hin hlt
        go_wp2_with fail
        exact bodyPost_ret (v := .agg #[.int .i64 29, .int .i64 0]) (by simp [results, Tryd.results44, go_sem, x0, x1]) rfl ⟨by rw [HF.out.1, HF.out.2], put2x HE0.out HwH.out _ _⟩
      have d2 := df h2
      have Hs := Lib.hid (show tmR t 0 = tmR t 1 by rw [hst, tmR_step t 0 (by decide), show tmA t 0 = t.a from rfl, if_neg (show ¬ tmB t.a from fun h => h.elim h1 h2)])
      clear hst hi hk hin hlt h1 h2
      go_wp2_with fail
      go_roundg 3
      case measure => have := Hk.out; omega
      case rel => exact ⟨1, rfl, by decide, rfl, rfl, Hs.out⟩
    · by_cases h1 : t.b < 0
      · have d1 := dt h1
        have hr := Hr.out
        rw [hst, tmR_step t 1 (by decide), show tmA t 1 = t.b from rfl, if_pos (show tmB t.b from Or.inl h1)] at hr
        have HF := Lib.hid (show r0 = 29 ∧ r1 = 1 from ⟨(congrArg Prod.fst hr).symm, (congrArg Prod.snd hr).symm⟩)
        clear hr hst hi hk hin hlt
        go_wp2_with fail
        exact bodyPost_ret (v := .agg #[.int .i64 29, .int .i64 1]) (by simp [results, Tryd.results44, go_sem, x0, x1]) rfl ⟨by rw [HF.out.1, HF.out.2], put2x HE0.out HwH.out _ _⟩
      have d1 := df h1
      by_cases h2 : 1000000 < t.b
      · have d2 := dt h2
        have hr := Hr.out
        rw [hst, tmR_step t 1 (by decide), show tmA t 1 = t.b from rfl, if_pos (show tmB t.b from Or.inr h2)] at hr
        have HF := Lib.hid (show r0 = 29 ∧ r1 = 1 from ⟨(congrArg Prod.fst hr).symm, (congrArg Prod.snd hr).symm⟩)
        clear hr hst hi hk hin hlt
        go_wp2_with fail
        exact bodyPost_ret (v := .agg #[.int .i64 29, .int .i64 1]) (by simp [results, Tryd.results44, go_sem, x0, x1]) rfl ⟨by rw [HF.out.1, HF.out.2], put2x HE0.out HwH.out _ _⟩
      have d2 := df h2
      have Hs := Lib.hid (show tmR t 0 = tmR t 2 by rw [hst, tmR_step t 1 (by decide), show tmA t 1 = t.b from rfl, if_neg (show ¬ tmB t.b from fun h => h.elim h1 h2)])
      clear hst hi hk hin hlt h1 h2
      go_wp2_with fail
      go_roundg 2
      case measure => have := Hk.out; omega
      case rel => exact ⟨2, rfl, by decide, rfl, rfl, Hs.out⟩
    · by_cases h1 : t.c < 0
      · have d1 := dt h1
        have hr := Hr.out
        rw [hst, tmR_step t 2 (by decide), show tmA t 2 = t.c from rfl, if_pos (show tmB t.c from Or.inl h1)] at hr
        have HF := Lib.hid (show r0 = 29 ∧ r1 = 2 from ⟨(congrArg Prod.fst hr).symm, (congrArg Prod.snd hr).symm⟩)
        clear hr hst hi hk hin hlt
        go_wp2_with fail
        exact bodyPost_ret (v := .agg #[.int .i64 29, .int .i64 2]) (by simp [results, Tryd.results44, go_sem, x0, x1]) rfl ⟨by rw [HF.out.1, HF.out.2], put2x HE0.out HwH.out _ _⟩
      have d1 := df h1
      by_cases h2 : 1000000 < t.c
      · have d2 := dt h2
        have hr := Hr.out
        rw [hst, tmR_step t 2 (by decide), show tmA t 2 = t.c from rfl, if_pos (show tmB t.c from Or.inr h2)] at hr
        have HF := Lib.hid (show r0 = 29 ∧ r1 = 2 from ⟨(congrArg Prod.fst hr).symm, (congrArg Prod.snd hr).symm⟩)
        clear hr hst hi hk hin hlt
        go_wp2_with fail
        exact bodyPost_ret (v := .agg #[.int .i64 29, .int .i64 2]) (by simp [results, Tryd.results44, go_sem, x0, x1]) rfl ⟨by rw [HF.out.1, HF.out.2], put2x HE0.out HwH.out _ _⟩
      have d2 := df h2
      have Hs := Lib.hid (show tmR t 0 = tmR t 3 by rw [hst, tmR_step t 2 (by decide), show tmA t 2 = t.c from rfl, if_neg (show ¬ tmB t.c from fun h => h.elim h1 h2)])
      clear hst hi hk hin hlt h1 h2
      go_wp2_with fail
      go_roundg 1
      case measure => have := Hk.out; omega
      case rel => exact ⟨3, rfl, by decide, rfl, rfl, Hs.out⟩
    · by_cases h1 : t.d < 0
      · have d1 := dt h1
        have hr := Hr.out
        rw [hst, tmR_step t 3 (by decide), show tmA t 3 = t.d from rfl, if_pos (show tmB t.d from Or.inl h1)] at hr
        have HF := Lib.hid (show r0 = 29 ∧ r1 = 3 from ⟨(congrArg Prod.fst hr).symm, (congrArg Prod.snd hr).symm⟩)
        clear hr hst hi hk hin hlt
        go_wp2_with fail
        exact bodyPost_ret (v := .agg #[.int .i64 29, .int .i64 3]) (by simp [results, Tryd.results44, go_sem, x0, x1]) rfl ⟨by rw [HF.out.1, HF.out.2], put2x HE0.out HwH.out _ _⟩
      have d1 := df h1
      by_cases h2 : 1000000 < t.d
      · have d2 := dt h2
        have hr := Hr.out
        rw [hst, tmR_step t 3 (by decide), show tmA t 3 = t.d from rfl, if_pos (show tmB t.d from Or.inr h2)] at hr
        have HF := Lib.hid (show r0 = 29 ∧ r1 = 3 from ⟨(congrArg Prod.fst hr).symm, (congrArg Prod.snd hr).symm⟩)
        clear hr hst hi hk hin hlt
        go_wp2_with fail
        exact bodyPost_ret (v := .agg #[.int .i64 29, .int .i64 3]) (by simp [results, Tryd.results44, go_sem, x0, x1]) rfl ⟨by rw [HF.out.1, HF.out.2], put2x HE0.out HwH.out _ _⟩
      have d2 := df h2
      have Hs := Lib.hid (show tmR t 0 = tmR t 4 by rw [hst, tmR_step t 3 (by decide), show tmA t 3 = t.d from rfl, if_neg (show ¬ tmB t.d from fun h => h.elim h1 h2)])
      clear hst hi hk hin hlt h1 h2
      go_wp2_with fail
      go_roundg 0
      case measure => have := Hk.out; omega
      case rel => exact ⟨4, rfl, by decide, rfl, rfl, Hs.out⟩

set_option maxRecDepth 100000 in
set_option maxHeartbeats 4000000 in
theorem lasts_any (t : Tms) (kd k : Int) (a1 : Option Addr) (n1 c1 : Nat) (q bt : Int) (a2 : Option Addr) (n2 c2 : Nat) (w : World) :
    Calls Tryd.prog 67 #[.agg #[.int .i64 kd, .int .i64 k, .slice a1 n1 c1, .int .i64 q, .int .i64 bt, .slice a2 n2 c2], .agg #[.int .i64 t.a, .int .i64 t.b, .int .i64 t.c, .int .i64 t.d]] w fun e w' => e = .returned (.int .i64 (if kd = 1 ∨ kd = 4 then t.c else if kd = 5 ∨ kd = 6 then t.d else if (kd == 2 && n1 == 1) = true then t.b else t.a)) ∧ Ext w w' := by
  obtain ⟨R, hR⟩ : ∃ R, (if kd = 1 ∨ kd = 4 then t.c else if kd = 5 ∨ kd = 6 then t.d else if (kd == 2 && n1 == 1) = true then t.b else t.a) = R := ⟨_, rfl⟩
  rw [hR]
  obtain ⟨H, hH⟩ : ∃ H, w.heap.size = H := ⟨_, rfl⟩
  obtain ⟨W0, hW0⟩ : ∃ W0, (w.alloc (.cells #[.int .i64 kd, .int .i64 k, .slice a1 n1 c1, .int .i64 q, .int .i64 bt, .slice a2 n2 c2] 46)).alloc (.cells #[.int .i64 t.a, .int .i64 t.b, .int .i64 t.c, .int .i64 t.d] 65) = W0 := ⟨_, rfl⟩
  have E0 : Ext w W0 := by rw [← hW0]; exact (ext_al w _).trans (ext_al _ _)
  have bO : OpBx W0 H kd k a1 n1 c1 q bt a2 n2 c2 := by rw [← hW0, ← hH]; exact (opbx_new w kd k a1 n1 c1 q bt a2 n2 c2).ext (ext_al _ _)
  have bT : TmB W0 (H + 1) t := ⟨by
    have := heap_alloc_new (w.alloc (.cells #[.int .i64 kd, .int .i64 k, .slice a1 n1 c1, .int .i64 q, .int .i64 bt, .slice a2 n2 c2] 46)) (.cells #[.int .i64 t.a, .int .i64 t.b, .int .i64 t.c, .int .i64 t.d] 65)
    rw [← hW0, ← hH]
    simpa using this⟩
  have HE0 := Lib.hid E0; have HW0 := Lib.hid hW0; have HH := Lib.hid hH; have HT := Lib.hid bT
  have p0 := bO.x0; have p1 := bO.x1; have p2 := bO.x2; have p3 := bO.x3; have p4 := bO.x4; have p5 := bO.x5
  have v0 := bT.x0; have v1 := bT.x1; have v2 := bT.x2; have v3 := bT.x3
  have HC := Lib.hid (isControlled_any kd k a1 n1 c1 q bt a2 n2 c2 W0)
  clear E0 bO bT hW0 hH
  by_cases k1 : kd = 1
  · have HF := Lib.hid (show t.c = R by rw [← hR, if_pos (Or.inl k1)])
    subst k1
    clear hR HC
    go_enter Tryd.func67, Tryd.ntmps67
    go_upto_region 1 with fail
    rw [HW0.out, HH.out]
    go_wp2_with fail
    go_ret
    exact ⟨congrArg (fun b => Ending.returned (Value.int .i64 b)) HF.out, HE0.out⟩
  have b1 : (kd == 1) = false := beq_eq_false_iff_ne.2 k1
  by_cases k4 : kd = 4
  · have HF := Lib.hid (show t.c = R by rw [← hR, if_pos (Or.inr k4)])
    subst k4
    clear hR HC k1
    go_enter Tryd.func67, Tryd.ntmps67
    go_upto_region 1 with fail
    rw [HW0.out, HH.out]
    go_wp2_with fail
    go_ret
    exact ⟨congrArg (fun b => Ending.returned (Value.int .i64 b)) HF.out, HE0.out⟩
  have b4 : (kd == 4) = false := beq_eq_false_iff_ne.2 k4
  rw [if_neg (by omega)] at hR
  by_cases k5 : kd = 5
  · have HF := Lib.hid (show t.d = R by rw [← hR, if_pos (Or.inl k5)])
    subst k5
    clear hR HC k1 k4
    go_enter Tryd.func67, Tryd.ntmps67
    go_upto_region 1 with fail
    rw [HW0.out, HH.out]
    go_wp2_with fail
    go_ret
    exact ⟨congrArg (fun b => Ending.returned (Value.int .i64 b)) HF.out, HE0.out⟩
  have b5 : (kd == 5) = false := beq_eq_false_iff_ne.2 k5
  by_cases k6 : kd = 6
  · have HF := Lib.hid (show t.d = R by rw [← hR, if_pos (Or.inr k6)])
    subst k6
    clear hR HC k1 k4 k5
    go_enter Tryd.func67, Tryd.ntmps67
    go_upto_region 1 with fail
    rw [HW0.out, HH.out]
    go_wp2_with fail
    go_ret
    exact ⟨congrArg (fun b => Ending.returned (Value.int .i64 b)) HF.out, HE0.out⟩
  have b6 : (kd == 6) = false := beq_eq_false_iff_ne.2 k6
  rw [if_neg (by omega)] at hR
  obtain ⟨B, hB⟩ : ∃ B, (kd == 2 && n1 == 1) = B := ⟨_, rfl⟩
  have hR : (if B = true then t.b else t.a) = R := by rw [← hB]; exact hR
  rw [hB] at HC
  clear k1 k4 k5 k6 hB
  cases B
  · have HF := Lib.hid (show t.a = R from hR)
    clear hR
    go_enter Tryd.func67, Tryd.ntmps67
    go_upto_region 1 with fail
    rw [HW0.out, HH.out]
    go_wp2_with fail
    refine HC.out.mono ?_
    rintro e w1 ⟨rfl, hx1⟩
    have v0 := (HT.out.ext hx1).x0
    have HE1 := Lib.hid (HE0.out.trans hx1)
    clear hx1
    go_wp2_with fail
    go_ret
    exact ⟨congrArg (fun b => Ending.returned (Value.int .i64 b)) HF.out, HE1.out⟩
  · have HF := Lib.hid (show t.b = R from hR)
    clear hR
    go_enter Tryd.func67, Tryd.ntmps67
    go_upto_region 1 with fail
    rw [HW0.out, HH.out]
    go_wp2_with fail
    refine HC.out.mono ?_
    rintro e w1 ⟨rfl, hx1⟩
    have v1 := (HT.out.ext hx1).x1
    have HE1 := Lib.hid (HE0.out.trans hx1)
    clear hx1
    go_wp2_with fail
    go_ret
    exact ⟨congrArg (fun b => Ending.returned (Value.int .i64 b)) HF.out, HE1.out⟩
end Go.Proofs.YtlokfalkhgjlbaaDoor
namespace Go.Proofs.YtlokfalkhgjlbaaDoor
open Go.RowKit

set_option maxHeartbeats 4000000 in
set_option maxRecDepth 100000 in
theorem rtouched_any (o : Gop) (a1 : Option Addr) (n1 c1 : Nat) (a2 : Option Addr) (n2 c2 : Nat) (w : World) (h : OpL w o a1 n1 c1 a2 n2 c2) (hb1 : (n1 + 26) * 8 ≤ 140737488355328) (hb2 : n2 ≤ 24) (hbt : 0 ≤ o.bit ∧ o.bit ≤ 12) (hcn : ∀ t ∈ o.cnd, -12 ≤ t ∧ t ≤ 12) :
    Calls Tryd.prog 66 #[.agg #[.int .i64 o.kind, .int .i64 o.k, .slice a1 n1 c1, .int .i64 o.q, .int .i64 o.bit, .slice a2 n2 c2]] w fun e w' => (∃ (a' : Option Addr) (m c' : Nat), e = .returned (.slice a' m c') ∧ m ≤ c' ∧ c' ≤ maxLen ∧ IntsAt w' a' m (plP o) ∧ ∀ b o, a' = some ⟨b, o, none⟩ → w.heap.size ≤ b) ∧ Ext w w' := by
  obtain ⟨i0, hi, hz0, hz1, hz2⟩ := info_parts i_info
  obtain ⟨kd, k, ctl, q, bt, cnd⟩ := o
  have E0 := ext_al w (.cells #[.int .i64 kd, .int .i64 k, .slice a1 n1 c1, .int .i64 q, .int .i64 bt, .slice a2 n2 c2] 46)
  have bx := opbx_new w kd k a1 n1 c1 q bt a2 n2 c2
  have HE0 := Lib.hid E0; have HL := Lib.hid h; have Hbx0 := Lib.hid bx
  have Hl1 := Lib.hid h.i1.1; have Hl2 := Lib.hid h.i2.1; have Hcn := Lib.hid hcn
  have m2 := bx.x2
  obtain ⟨base, hbase⟩ : ∃ base, w.heap.size + 1 = base := ⟨_, rfl⟩
  have hs0 : base ≤ (w.alloc (.cells #[.int .i64 kd, .int .i64 k, .slice a1 n1 c1, .int .i64 q, .int .i64 bt, .slice a2 n2 c2] 46)).heap.size := by simp; omega
  have lQ := tchQ_len kd q; have lB := tchB_len 12 kd bt
  have HI1 := Lib.hid (h.i1.ext E0)
  simp only [plP] at hbt Hl1 Hl2 Hcn HL HI1 ⊢
  obtain ⟨R, hR⟩ : ∃ R, ctl ++ tchQ kd q ++ tchB 12 kd bt ++ tchC 12 cnd = R := ⟨_, rfl⟩
  rw [hR]
  have HR := Lib.hid hR
  clear h E0 bx hcn hR
  go_enter Tryd.func66, Tryd.ntmps66
  go_upto_region 1 with fail
  generalize w.alloc (.cells #[.int .i64 kd, .int .i64 k, .slice a1 n1 c1, .int .i64 q, .int .i64 bt, .slice a2 n2 c2] 46) = W0 at *
  go_cut [3] from 6 to 8 (fun s3 wx => Ext w wx ∧ OpBx wx w.heap.size kd k a1 n1 c1 q bt a2 n2 c2 ∧ wx.ownsRow base 3 1 s3 (ctl).length (iC (ctl)) ∧ base ≤ wx.heap.size)
  case first =>
    by_cases hn : n1 = 0
    · subst hn
      have hl0 : ctl = [] := List.eq_nil_of_length_eq_zero Hl1.out
      have HF := Lib.hid (show ∀ wx : World, wx.ownsRow base 3 1 (.slice none 0 0) ctl.length (iC ctl) by rw [hl0]; exact fun _ => ⟨rfl, Or.inl ⟨rfl, rfl⟩⟩)
      clear hl0 hi hz0 hz1 hz2
      cases a1
      · go_wp2_with fail
        go_meet
        exact ⟨HE0.out, Hbx0.out, HF.out _, hs0⟩
      · go_wp2_with fail
        go_meet
        exact ⟨HE0.out, Hbx0.out, HF.out _, hs0⟩
    · obtain ⟨b, o, rfl, hbl, hcell⟩ := HI1.out.at (by omega)
      have hnews : ∀ j u, (iC ctl)[j]? = some u → W0.cell? ((⟨b, o, none⟩ : Addr).add j) = some u := by
        intro j u hu
        have hj : j < ctl.length := by have := (List.getElem?_eq_some_iff.1 hu).1; simpa [iC] using this
        have hadd : (⟨b, o, none⟩ : Addr).add j = ⟨b, o + j, none⟩ := by unfold Addr.add; split <;> simp_all
        rw [hadd, hcell j (by rw [← Hl1.out]; exact hj), ← hu]
        simp only [iC, List.getElem?_map, List.getD_eq_getElem?_getD]
        rw [List.getElem?_eq_getElem hj]
        rfl
      have h1 : ∀ u ∈ iC ctl, u.oneCell' = true := by
        intro u hu
        obtain ⟨x, _, rfl⟩ := List.mem_map.1 hu
        rfl
      have hown : W0.ownsRow base 3 1 (.slice none 0 0) 0 [] := ⟨rfl, Or.inl ⟨rfl, rfl⟩⟩
      have Hnews := Lib.hid hnews; have H1 := Lib.hid h1; have Hown := Lib.hid hown
      have hll : (iC ctl).length = n1 * 1 := by rw [iC_length, Hl1.out, Nat.mul_one]
      have Hll := Lib.hid hll
      clear hcell hnews h1 hown hbl hll HI1
      go_wp2_with (at_builtin; refine wpList_append_own _ rfl _ _ 36 rfl base 3 i0 (.int .i64 0) 1 8 Tryd.underlying36 hi hz0 hz1 hz2 rfl (by decide) _ 0 [] rfl Hown.out ⟨b, o, none⟩ n1 c1 (iC ctl) rfl Hll.out Hnews.out H1.out (by unfold maxLen; omega) (by omega) hs0 ?_; intro v' w7 hown' hgrow' _)
      have hE7 : Ext w w7 := grown_ext HE0.out hgrow' (fun k hk => by cases hk)
      have b7 : OpBx w7 w.heap.size kd k (some ⟨b, o, none⟩) n1 c1 q bt a2 n2 c2 := OpBx_grown hgrow' Hown.out Hbx0.out (by omega)
      have hs7 : base ≤ w7.heap.size := Nat.le_trans hs0 hgrow'.size
      go_meet
      exact ⟨hE7, b7, by rw [Hl1.out]; simpa using hown', hs7⟩
  case rest =>
  clear HE0 Hbx0 hs0 m2 HI1
  obtain ⟨hE0, b0, ho0, hs0⟩ := hcut
  have HE := Lib.hid hE0; have Hbx := Lib.hid b0; have Hown := Lib.hid ho0
  have hbs := hs0
  have y0 := b0.x0; have y3 := b0.x3
  clear hE0 b0 ho0 hs0
  go_upto_if 11 with fail
  go_cut [3] from 9 to 16 (fun s3 wx => Ext w wx ∧ OpBx wx w.heap.size kd k a1 n1 c1 q bt a2 n2 c2 ∧ wx.ownsRow base 3 1 s3 (ctl ++ tchQ kd q).length (iC (ctl ++ tchQ kd q)) ∧ base ≤ wx.heap.size)
  case first =>
    by_cases hk1 : kd = 1
    · have e1 := nf' hk1
      have hL : tchQ kd q = [] := by simp [tchQ, hk1]
      have HL' := Lib.hid hL
      clear hk1 hL
      go_wp2_with fail
      go_meet
      exact ⟨HE.out, Hbx.out, by rw [HL'.out, List.append_nil]; exact Hown.out, hbs⟩
    · have e1 := nt hk1
      have hL : tchQ kd q = [q] := by simp [tchQ, hk1]
      have HL' := Lib.hid hL
      have hlen := Hl1.out
      clear hk1 hL
      go_wp2_with (at_builtin; refine wpList_append_own _ rfl _ _ 36 rfl base 3 i0 (.int .i64 0) 1 8 Tryd.underlying36 hi hz0 hz1 hz2 rfl (by decide) _ (ctl).length (iC (ctl)) rfl (Hown.out.alloc _) ⟨wc.heap.size, 0, none⟩ 1 1 [.int .i64 (q)] rfl rfl (new_i wc (q) _) (one_i (q)) (by unfold maxLen; omega) (by omega) (Nat.le_trans hbs (ext_al wc _).size) ?_; intro v' w7 hown' hgrow' _)
      have ho5 := Hown.out.alloc (.cells #[.int .i64 q] 3)
      have hE7 : Ext w w7 := grown_ext (Ext.trans HE.out (ext_al _ _)) hgrow' (fun k hk => by have := (own_lt ho5 k hk).1; omega)
      have b7 := OpBx_grown hgrow' ho5 (Hbx.out.ext (ext_al _ _)) (by omega)
      have hs7 : base ≤ w7.heap.size := Nat.le_trans (Nat.le_trans hbs (ext_al wc _).size) hgrow'.size
      go_meet
      exact ⟨hE7, b7, by rw [HL'.out]; exact own_snoc hown', hs7⟩
  case rest =>
  clear HE Hbx Hown hbs y0 y3
  obtain ⟨hE1, b1, ho1, hs1⟩ := hcut
  obtain ⟨L1, hL1⟩ : ∃ L, ctl ++ tchQ kd q = L := ⟨_, rfl⟩
  rw [hL1] at ho1 HR
  have lL1 : L1.length ≤ n1 + 1 := by rw [← hL1, List.length_append, Hl1.out]; omega
  have HE := Lib.hid hE1; have Hbx := Lib.hid b1; have Hown := Lib.hid ho1
  have hbs := hs1
  have y0 := b1.x0; have y4 := b1.x4
  clear hE1 b1 ho1 hs1 hL1
  go_upto_if 19 with fail
  go_cut [3] from 17 to 25 (fun s3 wx => Ext w wx ∧ OpBx wx w.heap.size kd k a1 n1 c1 q bt a2 n2 c2 ∧ wx.ownsRow base 3 1 s3 (L1 ++ tchB 12 kd bt).length (iC (L1 ++ tchB 12 kd bt)) ∧ base ≤ wx.heap.size)
  case first =>
    by_cases hk5 : kd = 5
    · have e5 := bt' hk5
      have hL : tchB 12 kd bt = [12 + bt] := by simp [tchB, hk5]
      have HL' := Lib.hid hL
      obtain ⟨yy, hyy⟩ : ∃ yy, 12 + bt = yy := ⟨_, rfl⟩
      have hw1 : IntKind.i64.wrap (12 + bt) = yy := by rw [IntKind.wrap_i64]; omega
      rw [hyy] at HL'
      clear hk5 hL hyy
      go_wp2_with (at_builtin; refine wpList_append_own _ rfl _ _ 36 rfl base 3 i0 (.int .i64 0) 1 8 Tryd.underlying36 hi hz0 hz1 hz2 rfl (by decide) _ (L1).length (iC (L1)) rfl (Hown.out.alloc _) ⟨wc.heap.size, 0, none⟩ 1 1 [.int .i64 (yy)] rfl rfl (new_i wc (yy) _) (one_i (yy)) (by unfold maxLen; omega) (by omega) (Nat.le_trans hbs (ext_al wc _).size) ?_; intro v' w7 hown' hgrow' _)
      have ho5 := Hown.out.alloc (.cells #[.int .i64 yy] 3)
      have hE7 : Ext w w7 := grown_ext (Ext.trans HE.out (ext_al _ _)) hgrow' (fun k hk => by have := (own_lt ho5 k hk).1; omega)
      have b7 := OpBx_grown hgrow' ho5 (Hbx.out.ext (ext_al _ _)) (by omega)
      have hs7 : base ≤ w7.heap.size := Nat.le_trans (Nat.le_trans hbs (ext_al wc _).size) hgrow'.size
      go_meet
      exact ⟨hE7, b7, by rw [HL'.out]; exact own_snoc hown', hs7⟩
    · have e5 := bf hk5
      have hL : tchB 12 kd bt = [] := by simp [tchB, hk5]
      have HL' := Lib.hid hL
      clear hk5 hL
      go_wp2_with fail
      go_meet
      exact ⟨HE.out, Hbx.out, by rw [HL'.out, List.append_nil]; exact Hown.out, hbs⟩
  case rest =>
  clear HE Hbx Hown hbs y0 y4
  obtain ⟨hE2, b2, ho2, hs2⟩ := hcut
  obtain ⟨L2, hL2⟩ : ∃ L, L1 ++ tchB 12 kd bt = L := ⟨_, rfl⟩
  rw [hL2] at ho2 HR
  have lL2 : L2.length ≤ n1 + 2 := by rw [← hL2, List.length_append]; omega
  have HE2 := Lib.hid hE2; have Hb2 := Lib.hid b2; have Ho2 := Lib.hid ho2
  have y5 := b2.x5
  clear hE2 b2 ho2 hL2
  go_wp2_with fail
  go_loopg [3, 29] n2 (fun kk s3 s29 wx => ∃ i : Nat, s29 = .int .i64 (i : Int) ∧ i ≤ n2 ∧ n2 - i = kk ∧ Ext w wx ∧ OpBx wx w.heap.size kd k a1 n1 c1 q bt a2 n2 c2 ∧ wx.ownsRow base 3 1 s3 (L2 ++ tchC 12 (cnd.take i)).length (iC (L2 ++ tchC 12 (cnd.take i))) ∧ base ≤ wx.heap.size)
  case atStart => exact ⟨0, rfl, by omega, by omega, HE2.out, Hb2.out, by simpa [tchC] using Ho2.out, hs2⟩
  case round =>
    clear HE2 Hb2 Ho2 hs2 y5
    obtain ⟨i, rfl, hi1, hk, hE, hb, hown, hbs⟩ := hrel
    have HE := Lib.hid hE; have Hbx := Lib.hid hb; have Hown := Lib.hid hown
    clear hE hown hb
    by_cases hin : i = n2
    · have h2 : ¬ (i : Int) < (n2 : Int) := by omega
      have hown := Hown.out
      rw [List.take_of_length_le (by rw [Hl2.out]; omega), HR.out] at hown
      obtain ⟨a', c', e, e1, e2, e3, _⟩ := ints_of_own hown
      subst e
      have Hnew := Lib.hid (show ∀ b o, a' = some ⟨b, o, none⟩ → w.heap.size ≤ b from fun b o e => by subst e; have := (own_lt hown b (by simp [Value.ownBlock])).1; omega)
      have HI := Lib.hid e3; have He1 := Lib.hid e1; have He2 := Lib.hid e2
      clear hown Hown e1 e2 e3
      go_wp2_with fail
      go_ret
      exact ⟨⟨a', _, c', rfl, He1.out, He2.out, HI.out, Hnew.out⟩, HE.out⟩
    · have h2 : (i : Int) < (n2 : Int) := by omega
      have h0 : (0 : Int) ≤ (i : Int) := by omega
      obtain ⟨b, o, rfl, hbl, hcell⟩ := (HL.out.i2.ext HE.out).at (by omega)
      have hci := hcell i (by omega)
      obtain ⟨y, hy⟩ : ∃ y, cnd.getD i 0 = y := ⟨_, rfl⟩
      rw [hy] at hci
      have hym : -12 ≤ y ∧ y ≤ 12 := Hcn.out y (by rw [← hy, List.getD_eq_getElem?_getD, List.getElem?_eq_getElem (by rw [Hl2.out]; omega)]; exact List.getElem_mem _)
      have hst : tchC 12 (cnd.take (i + 1)) = tchC 12 (cnd.take i) ++ [12 + bitOf y] := by
        rw [take_succ' cnd i (by rw [Hl2.out]; omega), hy]; simp [tchC]
      have hlt : (L2 ++ tchC 12 (cnd.take i)).length ≤ n1 + 2 + i := by rw [List.length_append, tchC_len, List.length_take, Hl2.out]; omega
      obtain ⟨ny, hny⟩ : ∃ x, -y = x := ⟨_, rfl⟩
      have wn : IntKind.i64.wrap (-y) = ny := by rw [IntKind.wrap_i64]; omega
      by_cases hle : y ≤ ny
      · have hmx : max y ny = ny := by omega
        obtain ⟨py, hpy⟩ : ∃ x, 12 + ny = x := ⟨_, rfl⟩
        obtain ⟨yy, hyy⟩ : ∃ x, py - 1 = x := ⟨_, rfl⟩
        have hbo : 12 + bitOf y = yy := by unfold bitOf; split <;> omega
        rw [hbo] at hst
        have Hst := Lib.hid hst
        have w12 : IntKind.i64.wrap (12 + ny) = py := by rw [IntKind.wrap_i64]; omega
        have wy : IntKind.i64.wrap (py - 1) = yy := by rw [IntKind.wrap_i64]; omega
        clear hcell hy hst hbl hbo hny hpy hyy hym
        go_wp2_with (at_builtin; refine wpList_append_own _ rfl _ _ 36 rfl base 3 i0 (.int .i64 0) 1 8 Tryd.underlying36 hi hz0 hz1 hz2 rfl (by decide) _ (L2 ++ tchC 12 (cnd.take i)).length (iC (L2 ++ tchC 12 (cnd.take i))) rfl (Hown.out.alloc _) ⟨wr.heap.size, 0, none⟩ 1 1 [.int .i64 (yy)] rfl rfl (new_i wr (yy) _) (one_i (yy)) (by unfold maxLen; omega) (by omega) (Nat.le_trans hbs (ext_al wr _).size) ?_; intro v' w7 hown' hgrow' _)
        have ho5 := Hown.out.alloc (.cells #[.int .i64 yy] 3)
        have hE7 : Ext w w7 := grown_ext (Ext.trans HE.out (ext_al _ _)) hgrow' (fun k hk => by have := (own_lt ho5 k hk).1; omega)
        have b7 := OpBx_grown hgrow' ho5 (Hbx.out.ext (ext_al _ _)) (by omega)
        have hs7 : base ≤ w7.heap.size := Nat.le_trans (Nat.le_trans hbs (ext_al wr _).size) hgrow'.size
        go_roundg (n2 - (i + 1))
        case measure => omega
        case rel => exact ⟨i + 1, by go_num, by omega, rfl, hE7, b7, by rw [Hst.out, ← List.append_assoc]; exact own_snoc hown', hs7⟩
      · have hmx : max y ny = y := by omega
        obtain ⟨py, hpy⟩ : ∃ x, 12 + y = x := ⟨_, rfl⟩
        obtain ⟨yy, hyy⟩ : ∃ x, py - 1 = x := ⟨_, rfl⟩
        have hbo : 12 + bitOf y = yy := by unfold bitOf; split <;> omega
        rw [hbo] at hst
        have Hst := Lib.hid hst
        have w12 : IntKind.i64.wrap (12 + y) = py := by rw [IntKind.wrap_i64]; omega
        have wy : IntKind.i64.wrap (py - 1) = yy := by rw [IntKind.wrap_i64]; omega
        clear hcell hy hst hbl hbo hny hpy hyy hym
        go_wp2_with (at_builtin; refine wpList_append_own _ rfl _ _ 36 rfl base 3 i0 (.int .i64 0) 1 8 Tryd.underlying36 hi hz0 hz1 hz2 rfl (by decide) _ (L2 ++ tchC 12 (cnd.take i)).length (iC (L2 ++ tchC 12 (cnd.take i))) rfl (Hown.out.alloc _) ⟨wr.heap.size, 0, none⟩ 1 1 [.int .i64 (yy)] rfl rfl (new_i wr (yy) _) (one_i (yy)) (by unfold maxLen; omega) (by omega) (Nat.le_trans hbs (ext_al wr _).size) ?_; intro v' w7 hown' hgrow' _)
        have ho5 := Hown.out.alloc (.cells #[.int .i64 yy] 3)
        have hE7 : Ext w w7 := grown_ext (Ext.trans HE.out (ext_al _ _)) hgrow' (fun k hk => by have := (own_lt ho5 k hk).1; omega)
        have b7 := OpBx_grown hgrow' ho5 (Hbx.out.ext (ext_al _ _)) (by omega)
        have hs7 : base ≤ w7.heap.size := Nat.le_trans (Nat.le_trans hbs (ext_al wr _).size) hgrow'.size
        go_roundg (n2 - (i + 1))
        case measure => omega
        case rel => exact ⟨i + 1, by go_num, by omega, rfl, hE7, b7, by rw [Hst.out, ← List.append_assoc]; exact own_snoc hown', hs7⟩

/-- Whether two lists have a place in common. -/
def shr (L M : List Int) : Bool := L.any fun t => M.contains t
end Go.Proofs.YtlokfalkhgjlbaaDoor
namespace Go.Proofs.YtlokfalkhgjlbaaDoor

theorem shr_iff {L M : List Int} : shr L M = true ↔ ∃ t, t ∈ L ∧ t ∈ M := by
  unfold shr
  simp
/-- Where an operation begins, by the ends ahead. -/
def frmS (P : Gop → List Int) (o : Gop) (a : Int) (p : Gop × Int) : Int := if a < p.2 ∧ shr (P o) (P p.1) = true then p.2 else a
def frm (P : Gop → List Int) (E : List (Gop × Int)) (o : Gop) : Int := E.foldl (frmS P o) 0
theorem frm_snoc (P : Gop → List Int) (E : List (Gop × Int)) (o : Gop) (p : Gop × Int) : frm P (E ++ [p]) o = frmS P o (frm P E o) p := by simp [frm]
/-- How long, as the reference reckons it. -/
def lstR (t : Tms) (o : Gop) : Int := if o.kind = 5 ∨ o.kind = 6 then t.d else if o.kind = 4 ∨ o.kind = 1 then t.c else if o.ctl.length = 1 then t.b else t.a
theorem lstR_eq (t : Tms) {o : Gop} (h : isWr o = false) : lstR t o = lst t o := by
  have h1 := ct_of_has h
  have h2 : o.ctl.length ≤ 1 := wr_len h
  unfold lstR lst
  rw [h1]
  by_cases a1 : o.kind = 1
  · rw [if_neg (by omega), if_pos (Or.inr a1), if_pos (Or.inl a1)]
  by_cases a4 : o.kind = 4
  · rw [if_neg (by omega), if_pos (Or.inl a4), if_pos (Or.inr a4)]
  rw [if_neg (show ¬ (o.kind = 1 ∨ o.kind = 4) by omega), if_neg (show ¬ (o.kind = 4 ∨ o.kind = 1) by omega)]
  by_cases a5 : o.kind = 5 ∨ o.kind = 6
  · rw [if_pos a5, if_pos a5]
  rw [if_neg a5, if_neg a5]
  by_cases a6 : o.ctl.length = 1
  · rw [if_pos a6, if_pos (decide_eq_true (by omega))]
  · rw [if_neg a6, if_neg (fun q => a6 (by have := of_decide_eq_true q; omega))]
/-- The reference's state: the begins, the operations with their ends, the last end. -/
def scS (P : Gop → List Int) (D : Gop → Int) (s : List Int × List (Gop × Int) × Int) (o : Gop) : List Int × List (Gop × Int) × Int :=
  (s.1 ++ [frm P s.2.1 o], s.2.1 ++ [(o, frm P s.2.1 o + D o)], if s.2.2 < frm P s.2.1 o + D o then frm P s.2.1 o + D o else s.2.2)
def sc (P : Gop → List Int) (D : Gop → Int) (l : List Gop) : List Int × List (Gop × Int) × Int := l.foldl (scS P D) ([], [], 0)
theorem sc_snoc (P : Gop → List Int) (D : Gop → Int) (l : List Gop) (o : Gop) : sc P D (l ++ [o]) = scS P D (sc P D l) o := by simp [sc]
/-- The program's state: the last end at each place, the begins, the last end. -/
def bgn (f : Int → Int) (L : List Int) : Int := L.foldl (fun a t => max a (f t)) 0
theorem bgn_snoc (f : Int → Int) (L : List Int) (t : Int) : bgn f (L ++ [t]) = max (bgn f L) (f t) := by simp [bgn]
def pcS (D : Gop → Int) (s : (Int → Int) × List Int × Int) (o : Gop) : (Int → Int) × List Int × Int :=
  (updL s.1 (plP o) (bgn s.1 (plP o) + D o), s.2.1 ++ [bgn s.1 (plP o)], max s.2.2 (bgn s.1 (plP o) + D o))
def pc (D : Gop → Int) (l : List Gop) : (Int → Int) × List Int × Int := l.foldl (pcS D) (fun _ => 0, [], 0)
theorem pc_snoc (D : Gop → Int) (l : List Gop) (o : Gop) : pc D (l ++ [o]) = pcS D (pc D l) o := by simp [pc]

theorem list_snoc_ind {α : Type} {p : List α → Prop} (h0 : p []) (h1 : ∀ l x, p l → p (l ++ [x])) (l : List α) : p l := by
  have : ∀ r : List α, p r.reverse := by
    intro r
    induction r with
    | nil => exact h0
    | cons x r ih => rw [List.reverse_cons]; exact h1 _ _ ih
  simpa using this l.reverse

theorem bgn_spec (f : Int → Int) (L : List Int) : 0 ≤ bgn f L ∧ (∀ t ∈ L, f t ≤ bgn f L) ∧ (bgn f L = 0 ∨ ∃ t ∈ L, f t = bgn f L) := by
  refine list_snoc_ind (p := fun L => 0 ≤ bgn f L ∧ (∀ t ∈ L, f t ≤ bgn f L) ∧ (bgn f L = 0 ∨ ∃ t ∈ L, f t = bgn f L)) ⟨Int.le_refl _, (fun t ht => nomatch ht), Or.inl rfl⟩ ?_ L
  intro L x ⟨h1, h2, h3⟩
  rw [bgn_snoc]
  refine ⟨by omega, fun t ht => ?_, ?_⟩
  · rcases List.mem_append.1 ht with h | h
    · have := h2 t h; omega
    · rw [List.mem_singleton.1 h]; omega
  · by_cases hm : bgn f L ≤ f x
    · exact Or.inr ⟨x, by simp, by omega⟩
    · rw [show max (bgn f L) (f x) = bgn f L by omega]
      rcases h3 with h3 | ⟨t, ht, e⟩
      · exact Or.inl h3
      · exact Or.inr ⟨t, List.mem_append.2 (Or.inl ht), e⟩
theorem frm_spec (P : Gop → List Int) (o : Gop) (E : List (Gop × Int)) : 0 ≤ frm P E o ∧ (∀ p ∈ E, shr (P o) (P p.1) = true → p.2 ≤ frm P E o) ∧ (frm P E o = 0 ∨ ∃ p ∈ E, shr (P o) (P p.1) = true ∧ p.2 = frm P E o) := by
  refine list_snoc_ind (p := fun E => 0 ≤ frm P E o ∧ (∀ p ∈ E, shr (P o) (P p.1) = true → p.2 ≤ frm P E o) ∧ (frm P E o = 0 ∨ ∃ p ∈ E, shr (P o) (P p.1) = true ∧ p.2 = frm P E o)) ⟨Int.le_refl _, (fun t ht => nomatch ht), Or.inl rfl⟩ ?_ E
  intro E x ⟨h1, h2, h3⟩
  rw [frm_snoc]
  unfold frmS
  by_cases hc : frm P E o < x.2 ∧ shr (P o) (P x.1) = true
  · rw [if_pos hc]
    refine ⟨by omega, fun p hp hs => ?_, Or.inr ⟨x, by simp, hc.2, rfl⟩⟩
    rcases List.mem_append.1 hp with h | h
    · have := h2 p h hs; omega
    · rw [List.mem_singleton.1 h]; omega
  · rw [if_neg hc]
    refine ⟨h1, fun p hp hs => ?_, ?_⟩
    · rcases List.mem_append.1 hp with h | h
      · exact h2 p h hs
      · rw [List.mem_singleton.1 h] at hs ⊢
        have : ¬ frm P E o < x.2 := fun q => hc ⟨q, hs⟩
        omega
    · rcases h3 with h3 | ⟨t, ht, e⟩
      · exact Or.inl h3
      · exact Or.inr ⟨t, List.mem_append.2 (Or.inl ht), e⟩
/-- What ties the two. -/
structure Tied (f : Int → Int) (E : List (Gop × Int)) : Prop where
  a : ∀ p ∈ E, ∀ t ∈ plP p.1, p.2 ≤ f t
  b : ∀ t, f t = 0 ∨ ∃ p ∈ E, t ∈ plP p.1 ∧ p.2 = f t
  c : ∀ t, 0 ≤ f t
theorem Tied.same {f : Int → Int} {E : List (Gop × Int)} (h : Tied f E) (o : Gop) : bgn f (plP o) = frm plP E o := by
  obtain ⟨b1, b2, b3⟩ := bgn_spec f (plP o)
  obtain ⟨m1, m2, m3⟩ := frm_spec plP o E
  have q1 : bgn f (plP o) ≤ frm plP E o := by
    rcases b3 with b3 | ⟨t, ht, e⟩
    · omega
    · rcases h.b t with h0 | ⟨p, hp, hpt, e2⟩
      · omega
      · have := m2 p hp (shr_iff.2 ⟨t, ht, hpt⟩); omega
  have q2 : frm plP E o ≤ bgn f (plP o) := by
    rcases m3 with m3 | ⟨p, hp, hs, e⟩
    · omega
    · obtain ⟨t, h1, h2⟩ := shr_iff.1 hs
      have := h.a p hp t h2; have := b2 t h1; omega
  omega
theorem Tied.step {f : Int → Int} {E : List (Gop × Int)} (h : Tied f E) (o : Gop) (d : Int) (hd : bgn f (plP o) ≤ d) : Tied (updL f (plP o) d) (E ++ [(o, d)]) := by
  obtain ⟨b1, b2, _⟩ := bgn_spec f (plP o)
  refine ⟨fun p hp t ht => ?_, fun t => ?_, fun t => ?_⟩
  · unfold updL
    rcases List.mem_append.1 hp with h1 | h1
    · have := h.a p h1 t ht
      by_cases hL : t ∈ plP o
      · rw [if_pos hL]; have := b2 t hL; omega
      · rw [if_neg hL]; exact this
    · rw [List.mem_singleton.1 h1] at ht ⊢
      rw [if_pos ht]
      exact Int.le_refl _
  · unfold updL
    by_cases hL : t ∈ plP o
    · rw [if_pos hL]; exact Or.inr ⟨(o, d), by simp, hL, rfl⟩
    · rw [if_neg hL]
      rcases h.b t with h1 | ⟨p, hp, e⟩
      · exact Or.inl h1
      · exact Or.inr ⟨p, List.mem_append.2 (Or.inl hp), e⟩
  · unfold updL
    by_cases hL : t ∈ plP o
    · rw [if_pos hL]; omega
    · rw [if_neg hL]; exact h.c t
theorem pc_sc (D : Gop → Int) (l : List Gop) (hD : ∀ o ∈ l, 0 ≤ D o) : Tied (pc D l).1 (sc plP D l).2.1 ∧ (pc D l).2.1 = (sc plP D l).1 ∧ (pc D l).2.2 = (sc plP D l).2.2 := by
  revert hD
  refine list_snoc_ind (p := fun l => (∀ o ∈ l, 0 ≤ D o) → Tied (pc D l).1 (sc plP D l).2.1 ∧ (pc D l).2.1 = (sc plP D l).1 ∧ (pc D l).2.2 = (sc plP D l).2.2) (fun _ => ⟨⟨fun p hp => (by cases hp), fun t => Or.inl rfl, fun t => Int.le_refl _⟩, rfl, rfl⟩) ?_ l
  intro l o ih hD
  obtain ⟨h1, h2, h3⟩ := ih (fun x hx => hD x (List.mem_append.2 (Or.inl hx)))
  have hd := hD o (by simp)
  have hs := h1.same o
  rw [pc_snoc, sc_snoc]
  unfold pcS scS
  simp only
  rw [← hs, h2, h3]
  refine ⟨h1.step o _ (by omega), rfl, ?_⟩
  by_cases hc : (sc plP D l).2.2 < bgn (pc D l).1 (plP o) + D o
  · rw [if_pos hc]; omega
  · rw [if_neg hc]; omega
theorem shr_R {o p : Gop} (ho : placesFit o) (hp : placesFit p) : shr (plR o) (plR p) = shr (plP o) (plP p) := by
  have key : shr (plR o) (plR p) = true ↔ shr (plP o) (plP p) = true := by
    rw [shr_iff, shr_iff]
    constructor
    · rintro ⟨t, h1, h2⟩
      obtain ⟨a, ha, e⟩ := List.mem_map.1 ((pl_perm ho).mem_iff.1 h1)
      obtain ⟨b, hb, e2⟩ := List.mem_map.1 ((pl_perm hp).mem_iff.1 h2)
      have : a = b := ren_inj (e.trans e2.symm)
      subst this
      exact ⟨a, ha, hb⟩
    · rintro ⟨t, h1, h2⟩
      exact ⟨ren t, (pl_perm ho).mem_iff.2 (List.mem_map.2 ⟨t, h1, rfl⟩), (pl_perm hp).mem_iff.2 (List.mem_map.2 ⟨t, h2, rfl⟩)⟩
  cases h1 : shr (plR o) (plR p) <;> cases h2 : shr (plP o) (plP p) <;> simp_all
theorem frm_R {o : Gop} (ho : placesFit o) (E : List (Gop × Int)) (hE : ∀ p ∈ E, placesFit p.1) : frm plR E o = frm plP E o := by
  revert hE
  refine list_snoc_ind (p := fun E => (∀ p ∈ E, placesFit p.1) → frm plR E o = frm plP E o) (fun _ => rfl) ?_ E
  intro E x ih hE
  rw [frm_snoc, frm_snoc, ih (fun p hp => hE p (List.mem_append.2 (Or.inl hp)))]
  unfold frmS
  rw [shr_R ho (hE x (by simp))]
theorem sc_R (D D' : Gop → Int) (l : List Gop) (hl : ∀ o ∈ l, placesFit o) (hD : ∀ o ∈ l, D' o = D o) : sc plR D' l = sc plP D l ∧ ∀ p ∈ (sc plP D l).2.1, placesFit p.1 := by
  revert hl hD
  refine list_snoc_ind (p := fun l => (∀ o ∈ l, placesFit o) → (∀ o ∈ l, D' o = D o) → sc plR D' l = sc plP D l ∧ ∀ p ∈ (sc plP D l).2.1, placesFit p.1) (fun _ _ => ⟨rfl, fun p hp => by cases hp⟩) ?_ l
  intro l o ih hl hD
  obtain ⟨h1, h2⟩ := ih (fun x hx => hl x (List.mem_append.2 (Or.inl hx))) (fun x hx => hD x (List.mem_append.2 (Or.inl hx)))
  have ho := hl o (by simp)
  rw [sc_snoc, sc_snoc, h1]
  refine ⟨?_, fun p hp => ?_⟩
  · unfold scS
    rw [frm_R ho _ h2, hD o (by simp)]
  · unfold scS at hp
    rcases List.mem_append.1 hp with h | h
    · exact h2 p h
    · rw [List.mem_singleton.1 h]; exact ho
/-- The operations ahead are those that were. -/
theorem sc_ops (P : Gop → List Int) (D : Gop → Int) (l : List Gop) : (sc P D l).2.1.map Prod.fst = l ∧ (sc P D l).1.length = l.length := by
  refine list_snoc_ind (p := fun l => (sc P D l).2.1.map Prod.fst = l ∧ (sc P D l).1.length = l.length) ⟨rfl, rfl⟩ ?_ l
  intro l o ⟨h1, h2⟩
  rw [sc_snoc]
  unfold scS
  simp only [List.map_append, List.map_cons, List.map_nil, List.length_append, List.length_cons, List.length_nil]
  exact ⟨by rw [h1], by omega⟩
theorem pc_len (D : Gop → Int) (l : List Gop) : (pc D l).2.1.length = l.length := by
  refine list_snoc_ind (p := fun l => (pc D l).2.1.length = l.length) rfl ?_ l
  intro l o h
  rw [pc_snoc]
  unfold pcS
  simp only [List.length_append, List.length_cons, List.length_nil]
  omega
theorem pc_bound (D : Gop → Int) (l : List Gop) (hD : ∀ o ∈ l, 0 ≤ D o ∧ D o ≤ 1000000) : (∀ t, 0 ≤ (pc D l).1 t ∧ (pc D l).1 t ≤ 1000000 * (l.length : Int)) ∧ 0 ≤ (pc D l).2.2 ∧ (pc D l).2.2 ≤ 1000000 * (l.length : Int) := by
  revert hD
  refine list_snoc_ind (p := fun l => (∀ o ∈ l, 0 ≤ D o ∧ D o ≤ 1000000) → (∀ t, 0 ≤ (pc D l).1 t ∧ (pc D l).1 t ≤ 1000000 * (l.length : Int)) ∧ 0 ≤ (pc D l).2.2 ∧ (pc D l).2.2 ≤ 1000000 * (l.length : Int)) (fun _ => ⟨fun t => ⟨Int.le_refl _, Int.le_refl _⟩, Int.le_refl _, Int.le_refl _⟩) ?_ l
  intro l o ih hD
  obtain ⟨h1, h2, h3⟩ := ih (fun x hx => hD x (List.mem_append.2 (Or.inl hx)))
  have hd := hD o (by simp)
  rw [pc_snoc]
  unfold pcS
  simp only [List.length_append, List.length_cons, List.length_nil]
  obtain ⟨b1, _, b3⟩ := bgn_spec (pc D l).1 (plP o)
  have hb : bgn (pc D l).1 (plP o) ≤ 1000000 * (l.length : Int) := by
    rcases b3 with b3 | ⟨t, _, e⟩
    · omega
    · have := h1 t; omega
  refine ⟨fun t => ?_, by omega, by omega⟩
  unfold updL
  have := h1 t
  split <;> omega
end Go.Proofs.YtlokfalkhgjlbaaDoor
namespace Go.Proofs.YtlokfalkhgjlbaaDoor
open Go.RowKit

theorem own_keepR {w w' : World} {base : Nat} {e : TypeId} {size : Nat} {v : Value} {n : Nat} {xs : List Value} (h : w.ownsRow base e size v n xs) (hk : ∀ g, v.ownBlock = some g → w'.heap[g]? = w.heap[g]?) : w'.ownsRow base e size v n xs := by
  refine ⟨h.1, ?_⟩
  rcases h.2 with h | ⟨g, cap, cur, hv, hb, hg, rest⟩
  · exact Or.inl h
  · exact Or.inr ⟨g, cap, cur, hv, hb, (hk g (by rw [hv]; rfl)).trans hg, rest⟩

theorem TmB.far {W : World} {g : Nat} {t : Tms} (h : TmB W g t) {g' k : Nat} {u : Value} (hne : g' ≠ g) : TmB (W.setCell ⟨g', k, none⟩ u) g t :=
  ⟨by rw [Below.heap_setCell _ _ _ _ (fun e => hne e.symm)]; exact h.row⟩
theorem TmB.grown {a w' : World} {v : Value} {base n size : Nat} {xs : List Value} {e : TypeId} {g : Nat} {t : Tms} (hg : a.grownBy w' v.ownBlock) (ho : a.ownsRow base e size v n xs) (h : TmB a g t) (hb : g < base) : TmB w' g t :=
  ⟨(hg.block g h.lt (fun e => by have := (own_lt ho g e.symm).1; omega)).trans h.row⟩
theorem own_on {W W' : World} {u : Value} {base n : Nat} {xs : List Value} {e : TypeId} (h : W.ownsRow base e 1 u n xs) (k : Ext W W') : W'.ownsRow base e 1 u n xs := own_keepR h (fun g hg => k.block g (own_lt h g hg).2)
theorem LastAt.grown {a w' : World} {v : Value} {base n size : Nat} {xs : List Value} {e : TypeId} {g : Nat} {f : Int → Int} (hg : a.grownBy w' v.ownBlock) (ho : a.ownsRow base e size v n xs) (h : LastAt a g f) (hb : g < base) : LastAt w' g f := fun i hi => by
  obtain ⟨h1, h2⟩ := h i hi
  have hk := hg.block g h.lt (fun e => by have := (own_lt ho g e.symm).1; omega)
  exact ⟨by rw [← h1]; simp only [World.cell?, hk], by rw [← h2]; simp only [World.frozen?, hk]⟩

set_option maxHeartbeats 4000000 in
set_option maxRecDepth 100000 in
theorem schedule_any (ops : List Gop) (t : Tms) (ao : Option Addr) (n cp : Nat) (w : World) (h : OpsAt w ao n ops) (hn4 : n ≤ 4096) (hf : ∀ g ∈ ops, LvFit g) (hD : ∀ o, 0 ≤ lst t o ∧ lst t o ≤ 1000000) :
    Calls Tryd.prog 45 #[.slice ao n cp, .agg #[.int .i64 t.a, .int .i64 t.b, .int .i64 t.c, .int .i64 t.d]] w fun e w' => (∃ v' : Value, e = .returned (.tuple #[v', .int .i64 (pc (lst t) ops).2.2]) ∧ w'.ownsRow (w.heap.size + 2) 3 1 v' n (iC (pc (lst t) ops).2.1)) ∧ Ext w w' := by
  obtain ⟨i0, hi, hz0, hz1, hz2⟩ := info_parts i_info
  obtain ⟨H, hH⟩ : ∃ H, w.heap.size = H := ⟨_, rfl⟩
  obtain ⟨W0, hW0⟩ : ∃ W0, (w.alloc (.cells #[.int .i64 t.a, .int .i64 t.b, .int .i64 t.c, .int .i64 t.d] 65)).alloc (.cells #[.int .i64 0, .int .i64 0, .int .i64 0, .int .i64 0, .int .i64 0, .int .i64 0, .int .i64 0, .int .i64 0, .int .i64 0, .int .i64 0, .int .i64 0, .int .i64 0, .int .i64 0, .int .i64 0, .int .i64 0, .int .i64 0, .int .i64 0, .int .i64 0, .int .i64 0, .int .i64 0, .int .i64 0, .int .i64 0, .int .i64 0, .int .i64 0] 112) = W0 := ⟨_, rfl⟩
  have E0 : Ext w W0 := by rw [← hW0]; exact (ext_al w _).trans (ext_al _ _)
  have bT : TmB W0 H t := by rw [← hW0, ← hH]; exact TmB.ext ⟨heap_alloc_new w _⟩ (ext_al _ _)
  have bL : LastAt W0 (H + 1) (fun _ => 0) := by
    have := lastAt_new (w.alloc (.cells #[.int .i64 t.a, .int .i64 t.b, .int .i64 t.c, .int .i64 t.d] 65))
    have e : (w.alloc (.cells #[.int .i64 t.a, .int .i64 t.b, .int .i64 t.c, .int .i64 t.d] 65)).alloc (.cells (Array.replicate 24 (.int .i64 0)) 112) = W0 := hW0
    rw [e] at this
    rw [← hH]
    simpa using this
  have hs0 : H + 2 ≤ W0.heap.size := by rw [← hW0, ← hH]; simp
  have HL0 := Lib.hid bL; have HT0 := Lib.hid bT
  have HE0 := Lib.hid E0; have HO := Lib.hid h; have Hf := Lib.hid hf; have HD := Lib.hid hD
  have Hl := Lib.hid h.1
  have HW0 := Lib.hid hW0; have HH := Lib.hid hH
  clear h hf E0 bT bL hW0 hD
  rw [hH]
  go_enter Tryd.func45, Tryd.ntmps45
  go_upto_region 2 with fail
  rw [HW0.out]
  clear HW0
  go_wp2_with fail
  go_loopg [4, 5, 18] n (fun kk s4 s5 s18 wx => ∃ i : Nat, s18 = .int .i64 (i : Int) ∧ i ≤ n ∧ n - i = kk ∧ s5 = .int .i64 (pc (lst t) (ops.take i)).2.2 ∧ Ext w wx ∧ TmB wx H t ∧ LastAt wx (H + 1) (pc (lst t) (ops.take i)).1 ∧ wx.ownsRow (H + 2) 3 1 s4 (pc (lst t) (ops.take i)).2.1.length (iC (pc (lst t) (ops.take i)).2.1) ∧ H + 2 ≤ wx.heap.size)
  case atStart => exact ⟨0, rfl, by omega, by omega, rfl, HE0.out, HT0.out, HL0.out, ⟨rfl, Or.inl ⟨rfl, rfl⟩⟩, hs0⟩
  case round =>
    clear HE0 HL0 HT0 hs0
    obtain ⟨i, rfl, hi1, hk, rfl, hE, hTm, hLa, hOw, hbs⟩ := hrel
    have HE := Lib.hid hE; have HLa := Lib.hid hLa; have HTm := Lib.hid hTm; have HOw := Lib.hid hOw
    clear hE hLa hTm hOw
    by_cases hin : i = n
    · have h2 : ¬ (i : Int) < (n : Int) := by omega
      have hR : ops.take i = ops := List.take_of_length_le (by rw [Hl.out]; omega)
      rw [hR] at HOw ⊢
      have HF := Lib.hid (show wr.ownsRow (H + 2) 3 1 u4 n (iC (pc (lst t) ops).2.1) by have := HOw.out; rw [pc_len, Hl.out] at this; exact this)
      clear hR HLa HOw HTm
      go_wp2_with fail
      exact bodyPost_ret (v := .tuple #[u4, .int .i64 (pc (lst t) ops).2.2]) (by simp [results, Tryd.results45, go_sem]) rfl ⟨⟨_, rfl, HF.out⟩, HE.out⟩
    · have h2 : (i : Int) < (n : Int) := by omega
      have h0 : (0 : Int) ≤ (i : Int) := by omega
      obtain ⟨b, o, rfl⟩ := HO.out.some_of (by omega)
      obtain ⟨g, hg⟩ : ∃ g, ops[i]? = some g := ⟨_, List.getElem?_eq_getElem (by rw [Hl.out]; omega)⟩
      obtain ⟨a1, n1, c1, a2, n2, c2, e0, e1, e2, e3, e4, e5, hL⟩ := (HO.out.ext HE.out).at i g hg
      have hfit := Hf.out g (List.mem_of_getElem? hg)
      have hst : ops.take (i + 1) = ops.take i ++ [g] := by rw [List.take_add_one, hg]; rfl
      have hst2 : pc (lst t) (ops.take (i + 1)) = pcS (lst t) (pc (lst t) (ops.take i)) g := by rw [hst, pc_snoc]
      have hbd := pc_bound (lst t) (ops.take i) (fun o _ => HD.out o)
      have hlen : (ops.take i).length = i := by rw [List.length_take, Hl.out]; omega
      have hpl := pc_len (lst t) (ops.take i)
      rw [hlen] at hbd hpl
      obtain ⟨S, hS⟩ : ∃ S, pc (lst t) (ops.take i) = S := ⟨_, rfl⟩
      rw [hS] at hst2 hbd HLa HOw hpl ⊢
      obtain ⟨f, bl, gr⟩ := S
      have Ea := ext_al wr (.cells #[.int .i64 g.kind, .int .i64 g.k, .slice a1 n1 c1, .int .i64 g.q, .int .i64 g.bit, .slice a2 n2 c2] 46)
      have bO := opbx_new wr g.kind g.k a1 n1 c1 g.q g.bit a2 n2 c2
      have hn1 := hL.i1.1; have hn2 := hL.i2.1
      have HM := Lib.hid (rtouched_any g a1 n1 c1 a2 n2 c2 (wr.alloc (.cells #[.int .i64 g.kind, .int .i64 g.k, .slice a1 n1 c1, .int .i64 g.q, .int .i64 g.bit, .slice a2 n2 c2] 46)) ⟨hL.i1.ext Ea, hL.h1, hL.m1, hL.i2.ext Ea, hL.h2, hL.m2⟩ (by have := hfit.ctl; omega) (by have := hfit.few; omega) hfit.bit hfit.cnd)
      have hsz : (wr.alloc (.cells #[.int .i64 g.kind, .int .i64 g.k, .slice a1 n1 c1, .int .i64 g.q, .int .i64 g.bit, .slice a2 n2 c2] 46)).heap.size = wr.heap.size + 1 := by simp
      have Hpl := Lib.hid hfit.pl
      have HLs := Lib.hid (fun wx => lasts_any t g.kind g.k a1 n1 c1 g.q g.bit a2 n2 c2 wx)
      have hls : (if g.kind = 1 ∨ g.kind = 4 then t.c else if g.kind = 5 ∨ g.kind = 6 then t.d else if (g.kind == 2 && n1 == 1) = true then t.b else t.a) = lst t g := by unfold lst isCt; rw [hn1]
      rw [hls] at HLs
      have hlb := HD.out g
      obtain ⟨lng, hlng⟩ : ∃ x, lst t g = x := ⟨_, rfl⟩
      rw [hlng] at HLs hlb
      obtain ⟨L, hLL⟩ : ∃ L, plP g = L := ⟨_, rfl⟩
      rw [hLL] at HM Hpl
      have hst3 : pc (lst t) (ops.take (i + 1)) = (updL f L (bgn f L + lng), bl ++ [bgn f L], max gr (bgn f L + lng)) := by rw [hst2, ← hLL, ← hlng]; rfl
      have Hst := Lib.hid hst3
      have hwl := HE.out.size
      have Hbo := Lib.hid (bO.ext (Ext.refl _))
      obtain ⟨kd, kk', ctl, qq, bb, cnd⟩ := g
      simp only at e0 e1 e2 e3 e4 e5 HM bO Ea hsz hbd HLa HOw hpl HLs Hbo ⊢
      have p0 := bO.x0; have p1 := bO.x1; have p2 := bO.x2; have p3 := bO.x3; have p4 := bO.x4; have p5 := bO.x5
      have HEa := Lib.hid Ea
      have Hbd := Lib.hid hbd
      clear hst hst2 hst3 hg hL bO Ea hfit hbd hS hlen hLL hn1 hn2 hls hlng
      go_wp2_with fail
      obtain ⟨Ob, hOb⟩ : ∃ x, wr.heap.size = x := ⟨_, rfl⟩
      rw [hOb] at Hbo hsz hwl hbs ⊢
      generalize wr.alloc (.cells #[.int .i64 kd, .int .i64 kk', .slice a1 n1 c1, .int .i64 qq, .int .i64 bb, .slice a2 n2 c2] 46) = w5 at *
      refine HM.out.mono ?_
      rintro e w6 ⟨⟨a', m, c', rfl, hm1, hm2, hI, hnew⟩, hx6⟩
      have HI := Lib.hid hI; have Hnew := Lib.hid hnew; have Hx6 := Lib.hid hx6
      have HLb := Lib.hid ((HLa.out.ext HEa.out).ext hx6)
      have HTb := Lib.hid ((HTm.out.ext HEa.out).ext hx6)
      have HBb := Lib.hid (Hbo.out.ext hx6)
      have HOb := Lib.hid (own_on (own_on HOw.out HEa.out) hx6)
      have hs6 : H + 2 ≤ w6.heap.size := by have := HEa.out.size; have := hx6.size; omega
      have hm3 : m ≤ 9223372036854775807 := Nat.le_trans hm1 (Nat.le_trans hm2 (by decide))
      clear p0 p1 p2 p3 p4 p5 e0 e1 e2 e3 e4 e5 hI hnew hx6 HM hm2
      go_wp2_with fail
      go_loopg [10, 26] m (fun kk s10 s26 wx => ∃ j : Nat, s26 = .int .i64 (j : Int) ∧ j ≤ m ∧ m - j = kk ∧ s10 = .int .i64 (bgn f (L.take j)) ∧ w6 = wx)
      case atStart => exact ⟨0, rfl, by omega, by omega, rfl, rfl⟩
      case round =>
        obtain ⟨j, rfl, hj1, hkj, rfl, rfl⟩ := hrel
        by_cases hjm : j = m
        · have h3 : ¬ (j : Int) < (m : Int) := by omega
          have hIl := HI.out.1
          rw [List.take_of_length_le (by omega)]
          obtain ⟨hv0, _, hv1⟩ := bgn_spec f L
          have hvc : bgn f L ≤ 1000000 * (i : Int) := by
            rcases hv1 with hv1 | ⟨tt, _, e⟩
            · omega
            · have := Hbd.out.1 tt; omega
          have hvb : 0 ≤ bgn f L ∧ bgn f L ≤ 1000000 * (i : Int) := ⟨hv0, hvc⟩
          obtain ⟨v, hv⟩ : ∃ v, bgn f L = v := ⟨_, rfl⟩
          rw [hv] at Hst hvb ⊢
          have hEE := (HE.out.trans HEa.out).trans Hx6.out
          have HEE := Lib.hid hEE
          have p0 := HBb.out.x0; have p1 := HBb.out.x1; have p2 := HBb.out.x2; have p3 := HBb.out.x3; have p4 := HBb.out.x4; have p5 := HBb.out.x5
          have q0 := HTb.out.x0; have q1 := HTb.out.x1; have q2 := HTb.out.x2; have q3 := HTb.out.x3
          obtain ⟨dn, hdn⟩ : ∃ x, v + lng = x := ⟨_, rfl⟩
          have wd : IntKind.i64.wrap (v + lng) = dn := by rw [IntKind.wrap_i64]; omega
          rw [hdn] at Hst
          clear hv hIl hEE hv0 hv1 hdn hvc
          go_wp2_with fail
          refine (HLs.out _).mono ?_
          rintro e w8 ⟨rfl, hx8⟩
          have HI8 := Lib.hid (HI.out.ext hx8); have HL8 := Lib.hid (HLb.out.ext hx8); have HT8 := Lib.hid (HTb.out.ext hx8); have HO8 := Lib.hid (own_on HOb.out hx8); have HE8 := Lib.hid (HEE.out.trans hx8)
          have hs8 : H + 2 ≤ w8.heap.size := Nat.le_trans hs6 hx8.size
          clear hx8 p0 p1 p2 p3 p4 p5 q0 q1 q2 q3
          go_wp2_with fail
          go_loopg [43] m (fun kk s43 wx => ∃ j : Nat, s43 = .int .i64 (j : Int) ∧ j ≤ m ∧ m - j = kk ∧ Ext w wx ∧ IntsAt wx a' m L ∧ LastAt wx (H + 1) (updL f (L.take j) dn) ∧ TmB wx H t ∧ wx.ownsRow (H + 2) 3 1 u4 bl.length (iC bl) ∧ H + 2 ≤ wx.heap.size)
          case atStart => exact ⟨0, rfl, by omega, by omega, HE8.out, HI8.out, by simpa [updL_nil] using HL8.out, HT8.out, HO8.out, hs8⟩
          case round =>
            have Hlen := Lib.hid HI.out.1
            clear HI HLb HEE HI8 HL8 HT8 HO8 HE8 hs8
            obtain ⟨q, rfl, hq1, hkq, hEq, hIq, hLq, hTq, hOq, hsq⟩ := hrel
            have HEq := Lib.hid hEq; have HIq := Lib.hid hIq; have HLq := Lib.hid hLq; have HTq := Lib.hid hTq; have HOq := Lib.hid hOq
            clear hEq hIq hLq hTq hOq
            by_cases hqm : q = m
            · have h4 : ¬ (q : Int) < (m : Int) := by omega
              have hLz := HLq.out
              rw [List.take_of_length_le (by rw [Hlen.out]; omega)] at hLz
              have HLz := Lib.hid hLz
              obtain ⟨mg, hmg⟩ : ∃ x, max gr dn = x := ⟨_, rfl⟩
              rw [hmg] at Hst
              clear hLz HLq HIq
              go_wp2_with (at_builtin; refine wpList_append_own _ rfl _ _ 36 rfl (H + 2) 3 i0 (.int .i64 0) 1 8 Tryd.underlying36 hi hz0 hz1 hz2 rfl (by decide) _ (bl).length (iC (bl)) rfl (HOq.out.alloc _) ⟨_, 0, none⟩ 1 1 [.int .i64 (v)] rfl rfl (new_i _ (v) _) (one_i (v)) (by unfold maxLen; omega) (by omega) (Nat.le_trans hsq (ext_al _ _).size) ?_; intro v' w7 hown' hgrow' _)
              have ho5 := HOq.out.alloc (.cells #[.int .i64 v] 3)
              have hE7 : Ext w w7 := grown_ext (Ext.trans HEq.out (ext_al _ _)) hgrow' (fun k hk => by have := (own_lt ho5 k hk).1; have := HH.out; omega)
              have t7 := TmB.grown hgrow' ho5 (HTq.out.ext (ext_al _ _)) (by omega)
              have l7 := LastAt.grown hgrow' ho5 (HLz.out.ext (ext_al _ _)) (by omega)
              have hs7 : H + 2 ≤ w7.heap.size := Nat.le_trans (Nat.le_trans hsq (ext_al _ _).size) hgrow'.size
              go_roundg (n - (i + 1))
              case measure => omega
              case rel => exact ⟨i + 1, by go_num, by omega, rfl, by rw [Hst.out], hE7, t7, by rw [Hst.out]; exact l7, by rw [Hst.out]; exact own_snoc hown', hs7⟩
            · have h4 : (q : Int) < (m : Int) := by omega
              have h40 : (0 : Int) ≤ (q : Int) := by omega
              obtain ⟨b', o', rfl, hbl, hcell⟩ := HIq.out.at (by omega)
              have hci := hcell q (by omega)
              obtain ⟨tt, ht⟩ : ∃ tt, L.getD q 0 = tt := ⟨_, rfl⟩
              rw [ht] at hci
              have htm : 0 ≤ tt ∧ tt < 24 := Hpl.out tt (by rw [← ht, List.getD_eq_getElem?_getD, List.getElem?_eq_getElem (by rw [Hlen.out]; omega)]; exact List.getElem_mem _)
              have hsn : updL f (L.take (q + 1)) dn = updL (updL f (L.take q) dn) [tt] dn := by rw [take_succ' L q (by rw [Hlen.out]; omega), ht, updL_snoc]
              obtain ⟨tn, rfl⟩ : ∃ tn : Nat, tt = (tn : Int) := ⟨tt.toNat, by omega⟩
              have Hsn := Lib.hid hsn
              obtain ⟨x1, x2⟩ := HLq.out tn (by omega)
              have ht0 := htm.1; have ht1 := htm.2
              have hne : b' ≠ H + 1 := by have := Hnew.out b' o' rfl; have := HEa.out.size; have := HH.out; omega
              have HP := Lib.hid (HLq.out.put tn (by omega) dn)
              have HIp := Lib.hid (HIq.out.putFar (g := H + 1) (k := tn) (u := .int .i64 dn) (fun b o e => by cases e; exact hne))
              have HEp := Lib.hid (show Ext w _ from Below.setCell HEq.out (p := ⟨H + 1, tn, none⟩) (by have := HH.out; simp only; omega) (.int .i64 dn))
              have HTp := Lib.hid (HTq.out.far (g' := H + 1) (k := tn) (u := .int .i64 dn) (by omega))
              have HOp := Lib.hid (ownsRow_setCell_below HOq.out (a := ⟨H + 1, tn, none⟩) (by simp only; omega) (.int .i64 dn))
              have hsp : H + 2 ≤ (World.setCell wr ⟨H + 1, tn, none⟩ (.int .i64 dn)).heap.size := by simpa using hsq
              clear hcell ht hsn htm
              go_wp2_with fail
              go_roundg (m - (q + 1))
              case measure => omega
              case rel => exact ⟨q + 1, by go_num, by omega, rfl, HEp.out, HIp.out, by rw [Hsn.out]; exact HP.out, HTp.out, HOp.out, hsp⟩
        · have h3 : (j : Int) < (m : Int) := by omega
          have h30 : (0 : Int) ≤ (j : Int) := by omega
          obtain ⟨b', o', rfl, hbl, hcell⟩ := HI.out.at (by omega)
          have hci := hcell j (by omega)
          have hIl := HI.out.1
          obtain ⟨tt, ht⟩ : ∃ tt, L.getD j 0 = tt := ⟨_, rfl⟩
          rw [ht] at hci
          have htm : 0 ≤ tt ∧ tt < 24 := Hpl.out tt (by rw [← ht, List.getD_eq_getElem?_getD, List.getElem?_eq_getElem (by omega)]; exact List.getElem_mem _)
          have hsn : bgn f (L.take (j + 1)) = max (bgn f (L.take j)) (f tt) := by rw [take_succ' L j (by omega), ht, bgn_snoc]
          obtain ⟨tn, rfl⟩ : ∃ tn : Nat, tt = (tn : Int) := ⟨tt.toNat, by omega⟩
          obtain ⟨x1, x2⟩ := HLb.out tn (by omega)
          have ht0 := htm.1; have ht1 := htm.2
          obtain ⟨ft, hft⟩ : ∃ x, f (tn : Int) = x := ⟨_, rfl⟩
          obtain ⟨lv, hlv⟩ : ∃ x, bgn f (L.take j) = x := ⟨_, rfl⟩
          rw [hft] at x1 hsn
          rw [hlv] at hsn ⊢
          obtain ⟨mx, hmx⟩ : ∃ x, max lv ft = x := ⟨_, rfl⟩
          rw [hmx] at hsn
          have Hsn := Lib.hid hsn
          clear hcell ht hsn htm hft hlv hIl
          go_wp2_with fail
          go_roundg (m - (j + 1))
          case measure => omega
          case rel => exact ⟨j + 1, by go_num, by omega, rfl, by rw [Hsn.out], rfl⟩

end Go.Proofs.YtlokfalkhgjlbaaDoor
