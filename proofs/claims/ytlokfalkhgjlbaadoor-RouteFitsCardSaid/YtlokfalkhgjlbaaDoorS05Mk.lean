/-
  Circuits that a device can do: the small functions of both sides. Circuits on devices: Fit's fault, as the reference finds it. Devices: the lowest bit of a set; the first qubit of a shortest way. A mover in memory: its web, where qubits stand, its operations. What an exchange is.
-/
import Derived.Test.YtlokfalkhgjlbaaDoorProg
import Derived.Test.YtlokfalkhgjlbaaDoorRows
import Derived.BigQuiet
import Derived.Deep.AppendLies
import Derived.Deep.Cut
import Derived.Deep.CutRange
import Derived.Deep.LoopGhost
import Derived.Deep.QuietTactic
import Derived.Deep.RegionHeld3
import Derived.Ground.Names2Prog
import Derived.Laws.Bits64b
import Derived.Laws.CopyOwn
import Derived.Laws.ResultCell
import Derived.Lib.AppendZeros
import Derived.Lib.BitFns
import Derived.Lib.Hide
import Derived.Lib.ItoaMem
import Derived.Lib.ItoaNum
import Derived.Lib.Strings
import Derived.Lib.TrailingZeros
import Derived.Maps.AppendAt
import Derived.OwnWalk
import Derived.Shelf.Slices.Clone
import Derived.Shelf.Slices.Turned
import Derived.Shelf.Spec.TrailingZeros
import Derived.WalkKit
import Derived.WalkLawsBesides
import Derived.WalkSpells
import Derived.Test.YtlokfalkhgjlbaaDoorS00Ce
import Derived.Test.YtlokfalkhgjlbaaDoorS01Cj
import Derived.Test.YtlokfalkhgjlbaaDoorShelf
import Derived.Test.YtlokfalkhgjlbaaDoorS03Mc
import Derived.Test.YtlokfalkhgjlbaaDoorS04Mg
namespace Go.Proofs.YtlokfalkhgjlbaaDoor
open Go.RowKit

/-- An X with one control. -/
def isCt (g : Gop) : Bool := g.kind == 2 && g.ctl.length == 1
/-- Controls that a device cannot do. -/
def isWr (g : Gop) : Bool := decide (0 < g.ctl.length) && !(isCt g)
/-- The first fault of operations by their controls. -/
def bsF (ops : List Gop) : Nat → Nat → Int × Int
  | 0, _ => (0, 0)
  | r + 1, i => if isWr (ops.getD i ⟨0, 0, [], 0, 0, []⟩) then (11, (i : Int)) else bsF ops r (i + 1)
theorem bsF_zero (ops : List Gop) : ∀ r i, (bsF ops r i).1 = 0 → bsF ops r i = (0, 0) ∧ ∀ j, i ≤ j → j < i + r → isWr (ops.getD j ⟨0, 0, [], 0, 0, []⟩) = false
  | 0, i, _ => ⟨rfl, fun j h1 h2 => by omega⟩
  | r + 1, i, h => by
    unfold bsF at h ⊢
    by_cases e : isWr (ops.getD i ⟨0, 0, [], 0, 0, []⟩) = true
    · rw [if_pos e] at h; exact absurd h (by show ¬ (11 : Int) = 0; decide)
    · rw [if_neg e] at h ⊢
      obtain ⟨h1, h2⟩ := bsF_zero ops r (i + 1) h
      refine ⟨h1, fun j hj hk => ?_⟩
      by_cases e2 : j = i
      · subst e2; simpa using e
      · exact h2 j (by omega) (by omega)
theorem bsF_step (ops : List Gop) (i n : Nat) (h : i < n) (g : Gop) (hg : ops[i]? = some g) : bsF ops (n - i) i = if isWr g then (11, (i : Int)) else bsF ops (n - (i + 1)) (i + 1) := by
  obtain ⟨r, hr⟩ : ∃ r, n - i = r + 1 := ⟨n - i - 1, by omega⟩
  rw [hr, bsF, show n - (i + 1) = r by omega, List.getD_eq_getElem?_getD, hg]; rfl
theorem bs_wr {ops : List Gop} (h : (bsF ops ops.length 0).1 = 0) : ∀ g ∈ ops, isWr g = false := by
  obtain ⟨_, h2⟩ := bsF_zero ops ops.length 0 h
  intro g hg
  obtain ⟨i, hi, rfl⟩ := List.mem_iff_getElem.1 hg
  have := h2 i (Nat.zero_le _) (by omega)
  rw [List.getD_eq_getElem?_getD, List.getElem?_eq_getElem hi] at this
  exact this
theorem take_gg {ops : List Gop} {i : Nat} {g : Gop} (h : ops[i]? = some g) : ops.take (i + 1) = ops.take i ++ [g] := by
  rw [List.take_add_one, h]; rfl
/-- How many operations there may be. -/
def rckN (N : Int) (ops : List Gop) : Int := (ops.length : Int) + 3 * max (N - 2) 0 * cntP isCt ops

section
variable (kd k : Int) (a1 : Option Addr) (n1 c1 : Nat) (q bt : Int) (a2 : Option Addr) (n2 c2 : Nat) (w : World)
theorem isControlled_any : Calls Tryd.prog 53 #[.agg #[.int .i64 kd, .int .i64 k, .slice a1 n1 c1, .int .i64 q, .int .i64 bt, .slice a2 n2 c2]] w fun e w' => e = .returned (.bool (kd == 2 && n1 == 1)) ∧ Ext w w' := by
  have HE := Lib.hid (ext_al w (.cells #[.int .i64 kd, .int .i64 k, .slice a1 n1 c1, .int .i64 q, .int .i64 bt, .slice a2 n2 c2] 46))
  have bx := opbx_new w kd k a1 n1 c1 q bt a2 n2 c2
  have m0 := bx.x0; have m2 := bx.x2
  clear bx
  by_cases h2 : kd = 2
  · subst h2
    by_cases h1 : n1 = 1
    · subst h1
      go_enter Tryd.func53, Tryd.ntmps53
      go_wp2_with fail
      go_ret
      exact ⟨rfl, HE.out⟩
    · have b1 : ((n1 : Int) == 1) = false := by simp; omega
      have e : ((2 : Int) == 2 && n1 == 1) = false := by simp [h1]
      rw [e]
      clear h1 e
      go_enter Tryd.func53, Tryd.ntmps53
      go_wp2_with fail
      go_ret
      exact ⟨rfl, HE.out⟩
  · have b2 : (kd == 2) = false := by simpa using h2
    have e : (kd == 2 && n1 == 1) = false := by rw [b2]; rfl
    rw [e]
    clear h2 e
    go_enter Tryd.func53, Tryd.ntmps53
    go_wp2_with fail
    go_ret
    exact ⟨rfl, HE.out⟩
theorem RBasic_all : Calls Tryd.prog 38 #[.agg #[.int .i64 kd, .int .i64 k, .slice a1 n1 c1, .int .i64 q, .int .i64 bt, .slice a2 n2 c2]] w fun e w' => e = .returned (.bool (n1 == 0 || (kd == 2 && n1 == 1))) ∧ Ext w w' := by
  have HE := Lib.hid (ext_al w (.cells #[.int .i64 kd, .int .i64 k, .slice a1 n1 c1, .int .i64 q, .int .i64 bt, .slice a2 n2 c2] 46))
  have bx := opbx_new w kd k a1 n1 c1 q bt a2 n2 c2
  have m0 := bx.x0; have m2 := bx.x2
  clear bx
  by_cases h0 : n1 = 0
  · subst h0
    have e : ((0 : Nat) == 0 || (kd == 2 && (0 : Nat) == 1)) = true := rfl
    rw [e]
    go_enter Tryd.func38, Tryd.ntmps38
    go_wp2_with fail
    go_ret
    exact ⟨rfl, HE.out⟩
  · have b0 : ((n1 : Int) == 0) = false := by simp; omega
    by_cases h2 : kd = 2
    · subst h2
      by_cases h1 : n1 = 1
      · subst h1
        go_enter Tryd.func38, Tryd.ntmps38
        go_wp2_with fail
        go_ret
        exact ⟨rfl, HE.out⟩
      · have b1 : ((n1 : Int) == 1) = false := by simp; omega
        have e : (n1 == 0 || ((2 : Int) == 2 && n1 == 1)) = false := by simp [h0, h1]
        rw [e]
        clear h0 h1 e
        go_enter Tryd.func38, Tryd.ntmps38
        go_wp2_with fail
        go_ret
        exact ⟨rfl, HE.out⟩
    · have b2 : (kd == 2) = false := by simpa using h2
      have e : (n1 == 0 || (kd == 2 && n1 == 1)) = false := by rw [b2]; simp [h0]
      rw [e]
      clear h2 h0 e
      go_enter Tryd.func38, Tryd.ntmps38
      go_wp2_with fail
      go_ret
      exact ⟨rfl, HE.out⟩
end
theorem wr_basic {kd k : Int} {ctl : List Int} {q bt : Int} {cnd : List Int} {n1 : Nat} (h : ctl.length = n1) : (n1 == 0 || (kd == 2 && n1 == 1)) = !(isWr ⟨kd, k, ctl, q, bt, cnd⟩) := by
  unfold isWr isCt
  simp only [h]
  by_cases h0 : n1 = 0
  · subst h0; rfl
  · have e1 : (n1 == 0) = false := by simpa using h0
    have e2 : decide (0 < n1) = true := decide_eq_true (by omega)
    rw [e1, e2]
    cases (kd == 2 && n1 == 1) <;> rfl

set_option maxRecDepth 100000 in
set_option maxHeartbeats 4000000 in
theorem basic_any (ops : List Gop) (ao : Option Addr) (n cp : Nat) (w : World) (h : OpsAt w ao n ops) (hn : n ≤ 4096) :
    Calls Tryd.prog 33 #[.slice ao n cp] w fun e w' => e = .returned (.agg #[.int .i64 (bsF ops n 0).1, .int .i64 (bsF ops n 0).2]) ∧ Ext w w' := by
  obtain ⟨r, hr⟩ : ∃ r, bsF ops n 0 = r := ⟨_, rfl⟩
  obtain ⟨r0, r1⟩ := r
  rw [hr]
  simp only
  have Hr := Lib.hid hr; have Hn := Lib.hid hn; have Hl := Lib.hid h.1
  obtain ⟨H, hH⟩ : ∃ H, w.heap.size = H := ⟨_, rfl⟩
  obtain ⟨W0, hW0⟩ : ∃ W0, w.alloc (.cells #[.int .i64 0, .int .i64 0] 27) = W0 := ⟨_, rfl⟩
  have E0 : Ext w W0 := by rw [← hW0]; exact ext_al w _
  have bF : FtB W0 H 0 0 := by rw [← hW0, ← hH]; exact ⟨heap_alloc_new w _⟩
  have HE0 := Lib.hid E0; have HO := Lib.hid (h.ext E0); have HFt := Lib.hid bF; have HW0 := Lib.hid hW0; have HH := Lib.hid hH
  have HwH := Lib.hid (show w.heap.size ≤ H by omega)
  clear h hn hr E0 bF hW0 hH
  go_enter Tryd.func33, Tryd.ntmps33
  go_upto_region 1 with fail
  rw [HW0.out, HH.out]
  clear HW0 HH
  go_wp2_with fail
  go_loopg [3, 4, 7] n (fun kk _ _ s7 wr => ∃ i : Nat, s7 = .int .i64 (i : Int) ∧ i ≤ n ∧ n - i = kk ∧ Ext W0 wr ∧ bsF ops n 0 = bsF ops (n - i) i)
  case atStart => exact ⟨0, rfl, Nat.zero_le _, rfl, Ext.refl _, rfl⟩
  case round =>
    obtain ⟨i, rfl, hi, hk, hE, hln⟩ := hrel
    have HE := Lib.hid hE; have Hk := Lib.hid hk
    by_cases hin : i = n
    · subst hin
      have q1 : ¬ (i : Int) < (i : Int) := by omega
      have hr := Hr.out
      rw [hln, show i - i = 0 by omega, show bsF ops 0 i = ((0 : Int), (0 : Int)) from rfl] at hr
      have HF := Lib.hid (show r0 = 0 ∧ r1 = 0 from ⟨(congrArg Prod.fst hr).symm, (congrArg Prod.snd hr).symm⟩)
      have bz := HFt.out.ext hE; have x0 := bz.x0; have x1 := bz.x1; have g0 := bz.f 0; have g1 := bz.f 1; have HEz := Lib.hid (HE0.out.trans hE)
      clear hi hk hE hln hr bz
      go_wp2_with fail
      exact bodyPost_ret (v := .agg #[.int .i64 0, .int .i64 0]) (by simp [results, Tryd.results33, go_sem, x0, x1]) rfl ⟨by rw [HF.out.1, HF.out.2], put2x HEz.out HwH.out _ _⟩
    have hlt : i < n := by omega
    have Hlt := Lib.hid hlt
    have q1 : (i : Int) < (n : Int) := by omega
    have q0 : (0 : Int) ≤ (i : Int) := by omega
    have wk : IntKind.i64.wrap ((i : Int) + 1) = ((i + 1 : Nat) : Int) := by rw [IntKind.wrap_i64]; have := Hn.out; omega
    obtain ⟨g, hg⟩ : ∃ g, ops[i]? = some g := ⟨_, List.getElem?_eq_getElem (by have := Hl.out; omega)⟩
    obtain ⟨b, o, rfl⟩ := HO.out.some_of (by omega)
    obtain ⟨a1, n1, c1, a2, n2, c2, e0, e1, e2, e3, e4, e5, hL⟩ := ((HO.out.ext hE).at i g hg)
    have hn1 := hL.i1.1
    have hst := bsF_step ops i n hlt g hg
    rw [← hln] at hst
    have Hst := Lib.hid hst
    obtain ⟨kd, k, ctl, q, bt, cnd⟩ := g
    simp only at e0 e1 e2 e3 e4 e5 hn1
    have bO := opbx_new wr kd k a1 n1 c1 q bt a2 n2 c2
    have p0 := bO.x0; have p1 := bO.x1; have p2 := bO.x2; have p3 := bO.x3; have p4 := bO.x4; have p5 := bO.x5
    have HE2 := Lib.hid (HE.out.trans (ext_al wr (.cells #[.int .i64 kd, .int .i64 k, .slice a1 n1 c1, .int .i64 q, .int .i64 bt, .slice a2 n2 c2] 46)))
    have Hwr := Lib.hid (show isWr ⟨kd, k, ctl, q, bt, cnd⟩ = (decide (0 < n1) && !(kd == 2 && n1 == 1)) by unfold isWr isCt; simp only [hn1])
    have HC := Lib.hid (fun wx => isControlled_any kd k a1 n1 c1 q bt a2 n2 c2 wx)
    clear hst bO hlt hg hL hn1 hin hi hE hk hln
    go_upto_region 4 with fail
    generalize wr.alloc (.cells #[.int .i64 kd, .int .i64 k, .slice a1 n1 c1, .int .i64 q, .int .i64 bt, .slice a2 n2 c2] 46) = U at *
    clear e0 e1 e2 e3 e4 e5
    by_cases hc : 0 < n1
    · have q2 : (0 : Int) < (n1 : Int) := by omega
      obtain ⟨B, hB⟩ : ∃ B, (kd == 2 && n1 == 1) = B := ⟨_, rfl⟩
      have hw : isWr ⟨kd, k, ctl, q, bt, cnd⟩ = !B := by rw [Hwr.out, decide_eq_true hc, hB]; rfl
      rw [hB] at HC
      cases B
      · have hs := Hst.out
        rw [hw, if_pos (by decide)] at hs
        have hr := Hr.out
        rw [hs] at hr
        have HF := Lib.hid (show r0 = 11 ∧ r1 = (i : Int) from ⟨(congrArg Prod.fst hr).symm, (congrArg Prod.snd hr).symm⟩)
        clear hs hr hw hB Hst Hwr
        go_wp2_with fail
        refine (HC.out U).mono ?_
        rintro e w6 ⟨rfl, hx6⟩
        have bz := HFt.out.ext (HE2.out.trans hx6); have x0 := bz.x0; have x1 := bz.x1; have g0 := bz.f 0; have g1 := bz.f 1; have HEz := Lib.hid (HE0.out.trans (HE2.out.trans hx6))
        clear bz
        go_wp2_with fail
        exact bodyPost_ret (v := .agg #[.int .i64 11, .int .i64 (i : Int)]) (by simp [results, Tryd.results33, go_sem, x0, x1]) rfl ⟨by rw [HF.out.1, HF.out.2], put2x HEz.out HwH.out _ _⟩
      · have hs := Hst.out
        rw [hw, if_neg (by decide)] at hs
        have Hs := Lib.hid hs
        clear hs hw hB Hst Hwr
        go_wp2_with fail
        refine (HC.out U).mono ?_
        rintro e w6 ⟨rfl, hx6⟩
        have HE6 := Lib.hid (HE2.out.trans hx6)
        clear hx6 p0 p1 p2 p3 p4 p5
        go_wp2_with fail
        go_roundg (n - (i + 1))
        case measure => have := Hk.out; have := Hlt.out; omega
        case rel => exact ⟨i + 1, rfl, Hlt.out, rfl, HE6.out, Hs.out⟩
    · have q2 : ¬ (0 : Int) < (n1 : Int) := by omega
      have q3 : decide ((0 : Int) < (n1 : Int)) = false := decide_eq_false q2
      have hw : isWr ⟨kd, k, ctl, q, bt, cnd⟩ = false := by rw [Hwr.out, decide_eq_false hc]; rfl
      have hs := Hst.out
      rw [hw, if_neg (by decide)] at hs
      have Hs := Lib.hid hs
      clear hs hw Hst Hwr HC hc
      go_wp2_with fail
      go_roundg (n - (i + 1))
      case measure => have := Hk.out; have := Hlt.out; omega
      case rel => exact ⟨i + 1, rfl, Hlt.out, rfl, HE2.out, Hs.out⟩

set_option maxRecDepth 100000 in
set_option maxHeartbeats 4000000 in
theorem reckoned_any (ops : List Gop) (N : Int) (ao : Option Addr) (n cp : Nat) (w : World) (h : OpsAt w ao n ops) (hn : n ≤ 4096) (hN1 : 1 ≤ N) (hN : N ≤ 12) :
    Calls Tryd.prog 34 #[.slice ao n cp, .int .i64 N] w fun e w' => e = .returned (.int .i64 (rckN N ops)) ∧ Ext w w' := by
  have HO := Lib.hid h; have Hn := Lib.hid hn; have Hl := Lib.hid h.1
  obtain ⟨R, hR⟩ : ∃ R, rckN N ops = R := ⟨_, rfl⟩
  rw [hR]
  have HR := Lib.hid hR
  obtain ⟨D, hD⟩ : ∃ D : Int, max (N - 2) 0 = D := ⟨_, rfl⟩
  have hDb : 0 ≤ D ∧ D ≤ 10 := by omega
  obtain ⟨N2, hN2⟩ : ∃ N2, N - 2 = N2 := ⟨_, rfl⟩
  have wN : IntKind.i64.wrap (N - 2) = N2 := by rw [IntKind.wrap_i64]; omega
  have wD : max N2 0 = D := by rw [← hN2]; exact hD
  have w3 : IntKind.i64.wrap (3 * D) = 3 * D := by rw [IntKind.wrap_i64]; omega
  have HDb := Lib.hid hDb; have HD := Lib.hid hD
  clear h hn hR hD hDb hN2 hN1 hN
  go_enter Tryd.func34, Tryd.ntmps34
  go_wp2_with fail
  go_loopg [5, 7, 12] n (fun kk s5 _ s12 wr => ∃ i : Nat, s12 = .int .i64 (i : Int) ∧ s5 = .int .i64 ((n : Int) + 3 * D * cntP isCt (ops.take i)) ∧ i ≤ n ∧ n - i = kk ∧ Ext w wr)
  case atStart => exact ⟨0, rfl, by simp [cntP], Nat.zero_le _, rfl, Ext.refl _⟩
  case round =>
    obtain ⟨i, rfl, rfl, hi, hk, hE⟩ := hrel
    have HE := Lib.hid hE; have Hk := Lib.hid hk
    by_cases hin : i = n
    · have q1 : ¬ (i : Int) < (n : Int) := by omega
      have HF := Lib.hid (show (n : Int) + 3 * D * cntP isCt (ops.take i) = R by rw [List.take_of_length_le (by have := Hl.out; omega), ← HR.out]; unfold rckN; rw [HD.out, Hl.out])
      clear hin hi hE hk
      go_wp2_with fail
      go_ret
      exact ⟨congrArg (fun b => Ending.returned (Value.int .i64 b)) HF.out, HE.out⟩
    have hlt : i < n := by omega
    have q1 : (i : Int) < (n : Int) := by omega
    have q0 : (0 : Int) ≤ (i : Int) := by omega
    have wk : IntKind.i64.wrap ((i : Int) + 1) = ((i + 1 : Nat) : Int) := by rw [IntKind.wrap_i64]; have := Hn.out; omega
    obtain ⟨g, hg⟩ : ∃ g, ops[i]? = some g := ⟨_, List.getElem?_eq_getElem (by have := Hl.out; omega)⟩
    obtain ⟨b, o, rfl⟩ := HO.out.some_of (by omega)
    obtain ⟨a1, n1, c1, a2, n2, c2, e0, e1, e2, e3, e4, e5, hL⟩ := ((HO.out.ext hE).at i g hg)
    have hst := take_gg hg
    have hn1 := hL.i1.1
    have bd := cntP_bound isCt (ops.take i)
    have bl : (ops.take i).length ≤ 4096 := by rw [List.length_take]; have := Hn.out; omega
    have hyes : isCt g = true → cntP isCt (ops.take (i + 1)) = cntP isCt (ops.take i) + 1 := fun e => by rw [hst]; exact cntP_yes e
    have hno : isCt g = false → cntP isCt (ops.take (i + 1)) = cntP isCt (ops.take i) := fun e => by rw [hst]; exact cntP_no e
    obtain ⟨C, hC⟩ : ∃ C, cntP isCt (ops.take i) = C := ⟨_, rfl⟩
    rw [hC] at hyes hno bd ⊢
    have hm : 0 ≤ D * C ∧ D * C ≤ 10 * 4096 := ⟨Int.mul_nonneg HDb.out.1 bd.1, Int.mul_le_mul HDb.out.2 (by omega) bd.1 (by decide)⟩
    have em : 3 * D * C = 3 * (D * C) := Int.mul_assoc _ _ _
    have em1 : 3 * D * (C + 1) = 3 * (D * C) + 3 * D := by rw [Int.mul_add, Int.mul_one, em]
    obtain ⟨S, hS⟩ : ∃ S, (n : Int) + 3 * D * C = S := ⟨_, rfl⟩
    have wc : IntKind.i64.wrap (S + 3 * D) = S + 3 * D := by have := HDb.out; have := Hn.out; rw [IntKind.wrap_i64]; omega
    have HSb := Lib.hid (show 0 ≤ S ∧ S ≤ 1000000 by have := Hn.out; omega)
    have HS1 := Lib.hid (show isCt g = true → (n : Int) + 3 * D * cntP isCt (ops.take (i + 1)) = S + 3 * D from fun e => by rw [hyes e, em1, ← hS, em]; omega)
    have HS0 := Lib.hid (show isCt g = false → (n : Int) + 3 * D * cntP isCt (ops.take (i + 1)) = S from fun e => by rw [hno e, hS])
    rw [hS]
    obtain ⟨kd, k, ctl, q, bt, cnd⟩ := g
    simp only at e0 e1 e2 e3 e4 e5 hn1
    have bO := opbx_new wr kd k a1 n1 c1 q bt a2 n2 c2
    have p0 := bO.x0; have p1 := bO.x1; have p2 := bO.x2; have p3 := bO.x3; have p4 := bO.x4; have p5 := bO.x5
    have HE2 := Lib.hid (HE.out.trans (ext_al wr (.cells #[.int .i64 kd, .int .i64 k, .slice a1 n1 c1, .int .i64 q, .int .i64 bt, .slice a2 n2 c2] 46)))
    have HC := Lib.hid (fun wx => isControlled_any kd k a1 n1 c1 q bt a2 n2 c2 wx)
    have Hct := Lib.hid (show isCt ⟨kd, k, ctl, q, bt, cnd⟩ = (kd == 2 && n1 == 1) by unfold isCt; simp only [hn1])
    obtain ⟨B, hB⟩ : ∃ B, (kd == 2 && n1 == 1) = B := ⟨_, rfl⟩
    rw [hB] at HC Hct
    have Hlt := Lib.hid hlt
    clear hst bd bl hyes hno hC bO hlt hg hL hn1 hin hi hE hk hm em em1 hS hB
    go_upto_region 5 with fail
    generalize wr.alloc (.cells #[.int .i64 kd, .int .i64 k, .slice a1 n1 c1, .int .i64 q, .int .i64 bt, .slice a2 n2 c2] 46) = U at *
    clear e0 e1 e2 e3 e4 e5
    cases B
    · have Hs := Lib.hid (HS0.out Hct.out)
      go_wp2_with fail
      refine (HC.out U).mono ?_
      rintro e w6 ⟨rfl, hx6⟩
      have HE6 := Lib.hid (HE2.out.trans hx6)
      clear hx6 p0 p1 p2 p3 p4 p5
      go_wp2_with fail
      go_roundg (n - (i + 1))
      case measure => have := Hk.out; have := Hlt.out; omega
      case rel => exact ⟨i + 1, rfl, by rw [Hs.out], Hlt.out, rfl, HE6.out⟩
    · have Hs := Lib.hid (HS1.out Hct.out)
      by_cases hneg : N2 < 0
      · have HDz := Lib.hid (show D = 0 by omega)
        go_wp2_with fail
        refine (HC.out U).mono ?_
        rintro e w6 ⟨rfl, hx6⟩
        have HE6 := Lib.hid (HE2.out.trans hx6)
        clear hx6 p0 p1 p2 p3 p4 p5
        go_wp2_with fail
        go_roundg (n - (i + 1))
        case measure => have := Hk.out; have := Hlt.out; omega
        case rel => exact ⟨i + 1, rfl, (by first | (rw [Hs.out]; done) | (rw [Hs.out]; refine congrArg (Value.int .i64) ?_; have := HSb.out; have := HDz.out; unfold wrap64; omega)), Hlt.out, rfl, HE6.out⟩
      · have HDn := Lib.hid (show N2 = D by omega)
        have w3n : IntKind.i64.wrap (3 * N2) = 3 * D := by have := HDb.out; rw [IntKind.wrap_i64]; omega
        have hz : decide (N2 < 0) = false := decide_eq_false hneg
        go_wp2_with fail
        refine (HC.out U).mono ?_
        rintro e w6 ⟨rfl, hx6⟩
        have HE6 := Lib.hid (HE2.out.trans hx6)
        clear hx6 p0 p1 p2 p3 p4 p5
        go_wp2_with fail
        go_roundg (n - (i + 1))
        case measure => have := Hk.out; have := Hlt.out; omega
        case rel => exact ⟨i + 1, rfl, (by first | (rw [Hs.out]; done) | (rw [Hs.out]; refine congrArg (Value.int .i64) ?_; have := HSb.out; have := HDn.out; have := HDb.out; unfold wrap64; omega)), Hlt.out, rfl, HE6.out⟩

set_option maxRecDepth 100000 in
set_option maxHeartbeats 4000000 in
theorem NotBasic_any (c : Gci) (ao : Option Addr) (n cp : Nat) (w : World) (h : OpsAt w ao n c.ops) (hn : n ≤ 4096) :
    Calls Tryd.prog 17 #[.agg #[.int .i64 c.qubits, .int .i64 c.bits, .slice ao n cp]] w fun e w' => e = .returned (.agg #[.int .i64 (bsF c.ops n 0).1, .int .i64 (bsF c.ops n 0).2]) ∧ Ext w w' := by
  obtain ⟨qb, bi, ops⟩ := c
  simp only at h ⊢
  obtain ⟨r, hr⟩ : ∃ r, bsF ops n 0 = r := ⟨_, rfl⟩
  obtain ⟨r0, r1⟩ := r
  rw [hr]
  simp only
  have Hr := Lib.hid hr; have Hn := Lib.hid hn; have Hl := Lib.hid h.1
  obtain ⟨H, hH⟩ : ∃ H, w.heap.size = H := ⟨_, rfl⟩
  obtain ⟨W0, hW0⟩ : ∃ W0, (w.alloc (.cells #[.int .i64 qb, .int .i64 bi, .slice ao n cp] 34)).alloc (.cells #[.int .i64 0, .int .i64 0] 27) = W0 := ⟨_, rfl⟩
  have E0 : Ext w W0 := by rw [← hW0]; exact (ext_al w _).trans (ext_al _ _)
  have bC : CiB W0 H qb bi ao n cp := by rw [← hW0, ← hH]; exact CiB.ext ⟨heap_alloc_new w _⟩ (ext_al _ _)
  have bF : FtB W0 (H + 1) 0 0 := ⟨by
    have := heap_alloc_new (w.alloc (.cells #[.int .i64 qb, .int .i64 bi, .slice ao n cp] 34)) (.cells #[.int .i64 0, .int .i64 0] 27)
    rw [← hW0, ← hH]
    simpa using this⟩
  have HE0 := Lib.hid E0; have HO := Lib.hid (h.ext E0); have HFt := Lib.hid bF; have HC := Lib.hid bC; have HW0 := Lib.hid hW0; have HH := Lib.hid hH
  have HwH := Lib.hid (show w.heap.size ≤ H + 1 by omega)
  clear h hn hr E0 bF bC hW0 hH
  go_enter Tryd.func17, Tryd.ntmps17
  go_upto_region 1 with fail
  rw [HW0.out, HH.out]
  clear HW0 HH
  go_wp2_with fail
  go_loopg [3] n (fun kk s3 wr => ∃ i : Nat, s3 = .int .i64 (i : Int) ∧ i ≤ n ∧ n - i = kk ∧ Ext W0 wr ∧ bsF ops n 0 = bsF ops (n - i) i)
  case atStart => exact ⟨0, rfl, Nat.zero_le _, rfl, Ext.refl _, rfl⟩
  case round =>
    obtain ⟨i, rfl, hi, hk, hE, hln⟩ := hrel
    have HE := Lib.hid hE; have Hk := Lib.hid hk
    have bC := HC.out.ext hE
    have v2 := bC.x2
    by_cases hin : i = n
    · subst hin
      have q1 : ¬ (i : Int) < (i : Int) := by omega
      have hr := Hr.out
      rw [hln, show i - i = 0 by omega, show bsF ops 0 i = ((0 : Int), (0 : Int)) from rfl] at hr
      have HF := Lib.hid (show r0 = 0 ∧ r1 = 0 from ⟨(congrArg Prod.fst hr).symm, (congrArg Prod.snd hr).symm⟩)
      have bz := HFt.out.ext hE; have x0 := bz.x0; have x1 := bz.x1; have g0 := bz.f 0; have g1 := bz.f 1; have HEz := Lib.hid (HE0.out.trans hE)
      clear hi hk hE hln hr bz bC
      go_wp2_with fail
      exact bodyPost_ret (v := .agg #[.int .i64 0, .int .i64 0]) (by simp [results, Tryd.results17, go_sem, x0, x1]) rfl ⟨by rw [HF.out.1, HF.out.2], put2x HEz.out HwH.out _ _⟩
    have hlt : i < n := by omega
    have Hlt := Lib.hid hlt
    have q1 : (i : Int) < (n : Int) := by omega
    have q0 : (0 : Int) ≤ (i : Int) := by omega
    have wk : IntKind.i64.wrap ((i : Int) + 1) = ((i + 1 : Nat) : Int) := by rw [IntKind.wrap_i64]; have := Hn.out; omega
    obtain ⟨g, hg⟩ : ∃ g, ops[i]? = some g := ⟨_, List.getElem?_eq_getElem (by have := Hl.out; omega)⟩
    obtain ⟨b, o, rfl⟩ := HO.out.some_of (by omega)
    obtain ⟨a1, n1, c1, a2, n2, c2, e0, e1, e2, e3, e4, e5, hL⟩ := ((HO.out.ext hE).at i g hg)
    have hn1 := hL.i1.1
    have hst := bsF_step ops i n hlt g hg
    rw [← hln] at hst
    obtain ⟨kd, k, ctl, q, bt, cnd⟩ := g
    simp only at e0 e1 e2 e3 e4 e5 hn1
    have HCl := Lib.hid (fun wx => RBasic_all kd k a1 n1 c1 q bt a2 n2 c2 wx)
    rw [wr_basic (k := k) (q := q) (bt := bt) (cnd := cnd) hn1] at HCl
    obtain ⟨B, hB⟩ : ∃ B, isWr ⟨kd, k, ctl, q, bt, cnd⟩ = B := ⟨_, rfl⟩
    have hst : bsF ops n 0 = if B = true then (11, (i : Int)) else bsF ops (n - (i + 1)) (i + 1) := by rw [← hB]; exact hst
    rw [hB] at HCl
    have Hst := Lib.hid hst
    clear hst bC hlt hg hL hn1 hin hi hE hk hln hB
    cases B
    · have Hs := Lib.hid (show bsF ops n 0 = bsF ops (n - (i + 1)) (i + 1) from Hst.out)
      go_wp2_with fail
      refine (HCl.out wr).mono ?_
      rintro e w6 ⟨rfl, hx6⟩
      have HE6 := Lib.hid (HE.out.trans hx6)
      clear hx6 e0 e1 e2 e3 e4 e5 v2
      go_wp2_with fail
      go_roundg (n - (i + 1))
      case measure => have := Hk.out; have := Hlt.out; omega
      case rel => exact ⟨i + 1, rfl, Hlt.out, rfl, HE6.out, Hs.out⟩
    · have hr := Hr.out
      rw [Hst.out, if_pos rfl] at hr
      have HF := Lib.hid (show r0 = 11 ∧ r1 = (i : Int) from ⟨(congrArg Prod.fst hr).symm, (congrArg Prod.snd hr).symm⟩)
      clear hr
      go_wp2_with fail
      refine (HCl.out wr).mono ?_
      rintro e w6 ⟨rfl, hx6⟩
      have HE6 := Lib.hid (HE.out.trans hx6)
      clear hx6 e0 e1 e2 e3 e4 e5 v2
      go_wp2_with fail
      refine (rfault_any 11 (i : Int) _).mono ?_
      rintro e wz ⟨rfl, hxz⟩
      have bz := HFt.out.ext (HE6.out.trans hxz); have x0 := bz.x0; have x1 := bz.x1; have g0 := bz.f 0; have g1 := bz.f 1; have HEz := Lib.hid (HE0.out.trans (HE6.out.trans hxz))
      clear bz
      go_wp2_with fail
      exact bodyPost_ret (v := .agg #[.int .i64 11, .int .i64 (i : Int)]) (by simp [results, Tryd.results17, go_sem, x0, x1]) rfl ⟨by rw [HF.out.1, HF.out.2], put2x HEz.out HwH.out _ _⟩
end Go.Proofs.YtlokfalkhgjlbaaDoor
namespace Go.Proofs.YtlokfalkhgjlbaaDoor
open Go.RowKit

/-- Fit's fault. -/
def fitF (c : Gci) (N : Int) (ls : List Lnk) : Int × Int :=
  if (chk c).1 ≠ 0 then chk c
  else if (devF N ls).1 ≠ 0 then devF N ls
  else if N < c.qubits then (36, 0)
  else if (bsF c.ops c.ops.length 0).1 ≠ 0 then bsF c.ops c.ops.length 0
  else if 4096 < rckN N c.ops then (21, 0)
  else (0, 0)
theorem chk_len {c : Gci} (h : (chk c).1 = 0) : c.ops.length ≤ 4096 := by
  unfold chk at h
  split at h
  · exact absurd h (by show ¬ (6 : Int) = 0; decide)
  split at h
  · exact absurd h (by show ¬ (7 : Int) = 0; decide)
  split at h
  · exact absurd h (by show ¬ (2 : Int) = 0; decide)
  omega
theorem bsF_pair {ops : List Gop} {n i : Nat} (h : (bsF ops n i).1 = 0) : (bsF ops n i).2 = 0 := by rw [(bsF_zero ops n i h).1]
theorem ct_of_has {g : Gop} (h : isWr g = false) : isCt g = decide (0 < g.ctl.length) := by
  unfold isWr at h
  cases e : decide (0 < g.ctl.length)
  · have : ¬ 0 < g.ctl.length := of_decide_eq_false e
    unfold isCt
    have e2 : (g.ctl.length == 1) = false := by simp; omega
    rw [e2, Bool.and_false]
  · rw [e] at h
    simpa using h

set_option maxRecDepth 100000 in
set_option maxHeartbeats 8000000 in
theorem FitFault_any (c : Gci) (ao : Option Addr) (n cp : Nat) (N : Int) (ls : List Lnk) (bo : Option Addr) (m cq : Nat) (w : World) (h : OpsAt w ao n c.ops) (hn : n ≤ cp) (hcp : cp ≤ 9223372036854775807) (hd : LnkAt w bo m ls) (hm : m ≤ 9223372036854775806) (hmq : m ≤ cq) (hcq : cq ≤ 9223372036854775807) :
    Calls Tryd.prog 14 #[.agg #[.int .i64 c.qubits, .int .i64 c.bits, .slice ao n cp], .agg #[.int .i64 N, .slice bo m cq]] w fun e w' => e = .returned (.tuple #[.int .i64 (if (fitF c N ls).1 = 0 then rckN N c.ops else 0), .agg #[.int .i64 (fitF c N ls).1, .int .i64 (fitF c N ls).2]]) ∧ Ext w w' := by
  obtain ⟨F, hF⟩ : ∃ F, fitF c N ls = F := ⟨_, rfl⟩
  obtain ⟨F0, F1⟩ := F
  obtain ⟨Mo, hMo⟩ : ∃ Mo : Int, (if F0 = 0 then rckN N c.ops else 0) = Mo := ⟨_, rfl⟩
  rw [hF]
  simp only
  rw [hMo]
  obtain ⟨qb, bi, ops⟩ := c
  obtain ⟨f, hf⟩ : ∃ f, chk ⟨qb, bi, ops⟩ = f := ⟨_, rfl⟩
  obtain ⟨f0, f1⟩ := f
  have hln : f0 = 0 → ops.length ≤ 4096 := fun h0 => chk_len (c := ⟨qb, bi, ops⟩) (by rw [hf]; exact h0)
  obtain ⟨d, hdv⟩ : ∃ d, devF N ls = d := ⟨_, rfl⟩
  obtain ⟨d0, d1⟩ := d
  have hdz : d0 = 0 → 1 ≤ N ∧ N ≤ 12 := fun h0 => by
    have := (dev_ok (N := N) (ls := ls) (by rw [hdv]; exact h0)).1
    exact ⟨this.n1, this.n12⟩
  have hn0 := h.1
  simp only at hn0 h hMo
  unfold fitF at hF
  rw [hf, hdv] at hF
  simp only at hF
  rw [hn0] at hF hln
  obtain ⟨s, hs⟩ : ∃ s, bsF ops n 0 = s := ⟨_, rfl⟩
  obtain ⟨s0, s1⟩ := s
  have hwr : s0 = 0 → ∀ g ∈ ops, isWr g = false := fun h0 => bs_wr (by rw [hn0, hs]; exact h0)
  have hsp : s0 = 0 → s1 = 0 := fun h0 => by have := bsF_pair (ops := ops) (n := n) (i := 0) (by rw [hs]; exact h0); rw [hs] at this; exact this
  rw [hs] at hF
  simp only at hF
  have HF := Lib.hid hF; have HMo := Lib.hid hMo; have Hf := Lib.hid hf; have Hdv := Lib.hid hdv; have Hs := Lib.hid hs; have Hln := Lib.hid hln; have Hdz := Lib.hid hdz; have Hwr := Lib.hid hwr; have Hsp := Lib.hid hsp; have Hn0 := Lib.hid hn0
  obtain ⟨H, hH⟩ : ∃ H, w.heap.size = H := ⟨_, rfl⟩
  obtain ⟨W0, hW0⟩ : ∃ W0, ((w.alloc (.cells #[.int .i64 qb, .int .i64 bi, .slice ao n cp] 34)).alloc (.cells #[.int .i64 N, .slice bo m cq] 24)).alloc (.cells #[.int .i64 0, .int .i64 0] 27) = W0 := ⟨_, rfl⟩
  have E0 : Ext w W0 := by rw [← hW0]; exact ((ext_al w _).trans (ext_al _ _)).trans (ext_al _ _)
  have bC : CiB W0 H qb bi ao n cp := by rw [← hW0, ← hH]; exact (CiB.ext ⟨heap_alloc_new w _⟩ (ext_al _ _)).ext (ext_al _ _)
  have bD : DvB W0 (H + 1) N bo m cq := by
    have h1 := heap_alloc_new (w.alloc (.cells #[.int .i64 qb, .int .i64 bi, .slice ao n cp] 34)) (.cells #[.int .i64 N, .slice bo m cq] 24)
    have h2 := ext_al ((w.alloc (.cells #[.int .i64 qb, .int .i64 bi, .slice ao n cp] 34)).alloc (.cells #[.int .i64 N, .slice bo m cq] 24)) (.cells #[.int .i64 0, .int .i64 0] 27)
    have h3 := (h2.block _ (Array.getElem?_eq_some_iff.1 h1).1).trans h1
    rw [hW0] at h3
    exact ⟨by simpa [hH] using h3⟩
  have bF : FtB W0 (H + 2) 0 0 := by
    have h1 := heap_alloc_new ((w.alloc (.cells #[.int .i64 qb, .int .i64 bi, .slice ao n cp] 34)).alloc (.cells #[.int .i64 N, .slice bo m cq] 24)) (.cells #[.int .i64 0, .int .i64 0] 27)
    rw [hW0] at h1
    exact ⟨by simpa [hH] using h1⟩
  have HE0 := Lib.hid E0; have HO := Lib.hid (h.ext E0); have HL := Lib.hid (hd.ext E0); have HC := Lib.hid bC; have HD := Lib.hid bD; have HFt := Lib.hid bF
  have Hh := Lib.hid h; have HH := Lib.hid hH; have HW0 := Lib.hid hW0; have HwH := Lib.hid (show w.heap.size ≤ H + 2 by omega)
  have m0 := bC.x0; have m1 := bC.x1; have m2 := bC.x2
  clear h hd E0 bC bD bF hF hf hdv hs hMo hH hW0 hln hdz hwr hsp hn0
  go_enter Tryd.func14, Tryd.ntmps14
  go_upto_region 1 with fail
  rw [HW0.out, HH.out, show H + 1 + 1 = H + 2 from rfl]
  have HK := Lib.hid (RCheck_any ⟨qb, bi, ops⟩ ao n cp W0 HO.out hn hcp)
  rw [Hf.out] at HK
  go_wp2_with fail
  refine HK.out.mono ?_
  rintro e w1 ⟨rfl, hx1⟩
  obtain ⟨K, hK⟩ : ∃ K, w1.heap.size = K := ⟨_, rfl⟩
  obtain ⟨U, hU⟩ : ∃ U, w1.alloc (.cells #[.int .i64 f0, .int .i64 f1] 27) = U := ⟨_, rfl⟩
  have EU : Ext w1 U := by rw [← hU]; exact ext_al _ _
  have bf : FtB U K f0 f1 := by rw [← hU, ← hK]; exact ⟨heap_alloc_new w1 _⟩
  have HX := Lib.hid (hx1.trans EU)
  have hKs : H + 2 < K := by have := HFt.out.lt; have := hx1.size; omega
  have HKs := Lib.hid hKs; have HKU := Lib.hid hK; have HU := Lib.hid hU; have Hbf := Lib.hid bf
  have q0 := bf.x0; have q1 := bf.x1
  have bz := HFt.out.ext HX.out; have x0 := bz.x0; have x1 := bz.x1; have g0 := bz.f 0; have g1 := bz.f 1
  clear m0 m1 m2 hx1 EU bf hK hU HK bz hKs HW0 HH Hf
  by_cases hc0 : f0 = 0
  rotate_left 1
  · have hcb := nt hc0
    have hF := HF.out
    rw [if_pos hc0] at hF
    have HFF := Lib.hid (show F0 = f0 ∧ F1 = f1 from ⟨(congrArg Prod.fst hF).symm, (congrArg Prod.snd hF).symm⟩)
    have HM0 := Lib.hid (show Mo = 0 by rw [← HMo.out, HFF.out.1, if_neg hc0])
    have HEz := Lib.hid (HE0.out.trans HX.out)
    clear hF HF hc0
    go_upto_region 3 with fail
    rw [HU.out, HKU.out]
    go_region
    go_wp2_with fail
    exact bodyPost_ret (v := .tuple #[.int .i64 0, .agg #[.int .i64 f0, .int .i64 f1]]) (by simp [results, Tryd.results14, go_sem, x0, x1]) rfl ⟨by rw [HFF.out.1, HFF.out.2, HM0.out], Below.drew (put2x HEz.out HwH.out _ _)⟩
  have hcb := nf' hc0
  have hF := HF.out
  rw [if_neg (fun e => e hc0)] at hF
  have HF2 := Lib.hid hF; have Hn4 := Lib.hid (Hln.out hc0)
  have HCU := Lib.hid (HC.out.ext HX.out); have HDU := Lib.hid (HD.out.ext HX.out); have HFU := Lib.hid (HFt.out.ext HX.out); have HOU := Lib.hid (HO.out.ext HX.out); have HLU := Lib.hid (HL.out.ext HX.out); have HEU := Lib.hid (HE0.out.trans HX.out)
  clear hF HF hc0 Hln HC HD HFt HO HL HX HE0 x0 x1 g0 g1
  go_upto_region 4 with fail
  rw [HU.out, HKU.out]
  clear HU HKU q0 q1 hcb
  have v0 := HDU.out.x0; have v1 := HDU.out.x1
  have HK := Lib.hid (CheckDevice_any N ls bo m cq U HLU.out hm hmq hcq)
  rw [Hdv.out] at HK
  go_wp2_with fail
  refine HK.out.mono ?_
  rintro e w2 ⟨rfl, hx2⟩
  have b2 := Hbf.out.ext hx2
  have q0 := b2.x0; have q1 := b2.x1; have r0 := b2.f 0; have r1 := b2.f 1
  obtain ⟨V, hV⟩ : ∃ V, (w2.setCell ⟨K, 0, none⟩ (.int .i64 d0)).setCell ⟨K, 1, none⟩ (.int .i64 d1) = V := ⟨_, rfl⟩
  have hOV : Only K w2 V := by rw [← hV]; exact only2' w2 K _ _
  have bV : FtB V K d0 d1 := by rw [← hV]; exact b2.putV d0 d1
  have HbV := Lib.hid bV; have HCV := Lib.hid (⟨(hOV.block H (by have := HKs.out; omega)).trans (HCU.out.ext hx2).row⟩ : CiB V H qb bi ao n cp); have HDV := Lib.hid ((HDU.out.ext hx2).only hOV (by have := HKs.out; omega)); have HFV := Lib.hid ((HFU.out.ext hx2).only hOV (by have := HKs.out; omega))
  have HWV := Lib.hid (show Ext w V from ext_only' (HEU.out.trans hx2) hOV (by have := HKs.out; have := HwH.out; omega))
  have HV := Lib.hid hV
  have s0' := bV.x0; have s1' := bV.x1
  have x0 := HFV.out.x0; have x1 := HFV.out.x1; have g0 := HFV.out.f 0; have g1 := HFV.out.f 1
  have hne : H + 2 ≠ K := by have := HKs.out; omega
  have hne' : K ≠ H + 2 := by have := HKs.out; omega
  clear HK b2 bV hOV hV hx2 v0 v1
  by_cases hd0 : d0 = 0
  rotate_left 1
  · have hcb := nt hd0
    have hF := HF2.out
    rw [if_pos hd0] at hF
    have HFF := Lib.hid (show F0 = d0 ∧ F1 = d1 from ⟨(congrArg Prod.fst hF).symm, (congrArg Prod.snd hF).symm⟩)
    have HM0 := Lib.hid (show Mo = 0 by rw [← HMo.out, HFF.out.1, if_neg hd0])
    clear hF HF2 hd0
    go_upto_region 6 with fail
    rw [HV.out]
    go_region
    go_wp2_with fail
    exact bodyPost_ret (v := .tuple #[.int .i64 0, .agg #[.int .i64 d0, .int .i64 d1]]) (by simp [results, Tryd.results14, go_sem, x0, x1]) rfl ⟨by rw [HFF.out.1, HFF.out.2, HM0.out], Below.drew (put2x HWV.out HwH.out _ _)⟩
  have hcb := nf' hd0
  obtain ⟨hN1, hN12⟩ := Hdz.out hd0
  have hF := HF2.out
  rw [if_neg (fun e => e hd0)] at hF
  have HF3 := Lib.hid hF; have HN := Lib.hid (show 1 ≤ N ∧ N ≤ 12 from ⟨hN1, hN12⟩)
  clear hF HF2 hd0 Hdz hN1 hN12
  go_upto_region 7 with fail
  rw [HV.out]
  clear HV q0 q1 r0 r1 s0' s1' hcb
  have v0 := HDV.out.x0; have c0 := HCV.out.x0; have c1 := HCV.out.x1; have c2 := HCV.out.x2
  by_cases hr : N < qb
  · have hF := HF3.out
    rw [if_pos hr] at hF
    have HFF := Lib.hid (show F0 = 36 ∧ F1 = 0 from ⟨(congrArg Prod.fst hF).symm, (congrArg Prod.snd hF).symm⟩)
    have HM0 := Lib.hid (show Mo = 0 by rw [← HMo.out, HFF.out.1, if_neg (by decide)])
    clear hF HF3
    go_wp2_with fail
    refine (rfault_any 36 0 _).mono ?_
    rintro e wz ⟨rfl, hxz⟩
    have bz := HFV.out.ext hxz; have x0' := bz.x0; have x1' := bz.x1; have g0' := bz.f 0; have g1' := bz.f 1; have HEy := Lib.hid (HWV.out.trans hxz)
    clear bz hxz x0 x1 g0 g1 v0 c0 c1 c2
    go_wp2_with fail
    exact bodyPost_ret (v := .tuple #[.int .i64 0, .agg #[.int .i64 36, .int .i64 0]]) (by simp [results, Tryd.results14, go_sem, x0', x1']) rfl ⟨by rw [HFF.out.1, HFF.out.2, HM0.out], put2x HEy.out HwH.out _ _⟩
  have hF := HF3.out
  rw [if_neg hr] at hF
  have HF4 := Lib.hid hF
  have dr : decide (N < qb) = false := decide_eq_false hr
  have HK := Lib.hid (NotBasic_any ⟨qb, bi, ops⟩ ao n cp V (Hh.out.ext HWV.out) Hn4.out)
  simp only at HK
  rw [Hs.out] at HK
  clear hF HF3 x0 x1 g0 g1
  go_wp2_with fail
  refine HK.out.mono ?_
  rintro e w3 ⟨rfl, hx3⟩
  have b3 := HbV.out.ext hx3
  have q0 := b3.x0; have q1 := b3.x1; have r0 := b3.f 0; have r1 := b3.f 1
  obtain ⟨Z, hZ⟩ : ∃ Z, (w3.setCell ⟨K, 0, none⟩ (.int .i64 s0)).setCell ⟨K, 1, none⟩ (.int .i64 s1) = Z := ⟨_, rfl⟩
  have hOZ : Only K w3 Z := by rw [← hZ]; exact only2' w3 K _ _
  have bZ : FtB Z K s0 s1 := by rw [← hZ]; exact b3.putV s0 s1
  have HbZ := Lib.hid bZ; have HCZ := Lib.hid (⟨(hOZ.block H (by have := HKs.out; omega)).trans (HCV.out.ext hx3).row⟩ : CiB Z H qb bi ao n cp); have HDZ := Lib.hid ((HDV.out.ext hx3).only hOZ (by have := HKs.out; omega)); have HFZ := Lib.hid ((HFV.out.ext hx3).only hOZ (by have := HKs.out; omega))
  have HWZ := Lib.hid (show Ext w Z from ext_only' (HWV.out.trans hx3) hOZ (by have := HKs.out; have := HwH.out; omega))
  have HZ := Lib.hid hZ
  have s0' := bZ.x0; have s1' := bZ.x1
  clear HK b3 bZ hOZ hZ hx3 v0 c0 c1 c2 hr dr
  by_cases hs0 : s0 = 0
  rotate_left 1
  · have hcb := nt hs0
    have hF := HF4.out
    rw [if_pos hs0] at hF
    have HFF := Lib.hid (show F0 = s0 ∧ F1 = s1 from ⟨(congrArg Prod.fst hF).symm, (congrArg Prod.snd hF).symm⟩)
    have HM0 := Lib.hid (show Mo = 0 by rw [← HMo.out, HFF.out.1, if_neg hs0])
    have x0 := HFZ.out.x0; have x1 := HFZ.out.x1; have g0 := HFZ.out.f 0; have g1 := HFZ.out.f 1
    clear hF HF4 hs0
    go_upto_region 11 with fail
    rw [HZ.out]
    go_region
    go_wp2_with fail
    exact bodyPost_ret (v := .tuple #[.int .i64 0, .agg #[.int .i64 s0, .int .i64 s1]]) (by simp [results, Tryd.results14, go_sem, x0, x1]) rfl ⟨by rw [HFF.out.1, HFF.out.2, HM0.out], Below.drew (put2x HWZ.out HwH.out _ _)⟩
  have hcb := nf' hs0
  have hF := HF4.out
  rw [if_neg (fun e => e hs0)] at hF
  have HF5 := Lib.hid hF; have HW := Lib.hid (Hwr.out hs0); have Hs1 := Lib.hid (Hsp.out hs0); have Hs00 := Lib.hid hs0
  clear hF HF4 hs0 Hwr Hsp
  go_upto_region 12 with fail
  rw [HZ.out]
  clear HZ q0 q1 r0 r1 s0' s1' hcb
  have c2 := HCZ.out.x2; have v0 := HDZ.out.x0
  have HOZ := Lib.hid (Hh.out.ext HWZ.out)
  obtain ⟨D, hD⟩ : ∃ D : Int, max (N - 2) 0 = D := ⟨_, rfl⟩
  have HD9 := Lib.hid hD
  obtain ⟨N2, hN2⟩ : ∃ N2, N - 2 = N2 := ⟨_, rfl⟩
  have wN : IntKind.i64.wrap (N - 2) = N2 := by have := HN.out; rw [IntKind.wrap_i64]; omega
  have w3' : IntKind.i64.wrap (3 * N2) = 3 * N2 := by have := HN.out; rw [IntKind.wrap_i64]; omega
  have HN2 := Lib.hid hN2
  clear hD hN2
  go_wp2_with fail
  go_loopg [7, 8] n (fun kk s7 s8 wr => ∃ i : Nat, s8 = .int .i64 (i : Int) ∧ s7 = .int .i64 ((n : Int) + 3 * D * cntP isCt (ops.take i)) ∧ i ≤ n ∧ n - i = kk ∧ Z = wr)
  case atStart => exact ⟨0, rfl, by simp [cntP], Nat.zero_le _, rfl, rfl⟩
  case round =>
    obtain ⟨i, rfl, rfl, hi, hk, rfl⟩ := hrel
    have Hk := Lib.hid hk
    by_cases hin : i = n
    · have q1 : ¬ (i : Int) < (n : Int) := by omega
      have hst : ops.take i = ops := List.take_of_length_le (by have := Hn0.out; omega)
      rw [hst]
      obtain ⟨S, hS⟩ : ∃ S, (n : Int) + 3 * D * cntP isCt ops = S := ⟨_, rfl⟩
      have hRS : rckN N ops = S := by unfold rckN; rw [HD9.out, Hn0.out, hS]
      rw [hS]
      have hF := HF5.out
      have hMo := HMo.out
      rw [hRS] at hF hMo
      have HFr := Lib.hid HFZ.out
      clear hin hi hk hst hS hRS
      by_cases hb : 4096 < S
      · rw [if_pos hb] at hF
        have HFF := Lib.hid (show F0 = 21 ∧ F1 = 0 from ⟨(congrArg Prod.fst hF).symm, (congrArg Prod.snd hF).symm⟩)
        have HM0 := Lib.hid (show Mo = 0 by rw [← hMo, HFF.out.1, if_neg (by decide)])
        clear hF hMo
        go_wp2_with fail
        refine (rfault_any 21 0 _).mono ?_
        rintro e wz ⟨rfl, hxz⟩
        have bz := HFr.out.ext hxz; have x0' := bz.x0; have x1' := bz.x1; have g0' := bz.f 0; have g1' := bz.f 1; have HEy := Lib.hid (HWZ.out.trans hxz)
        clear bz hxz v0 c2
        go_wp2_with fail
        exact bodyPost_ret (v := .tuple #[.int .i64 0, .agg #[.int .i64 21, .int .i64 0]]) (by simp [results, Tryd.results14, go_sem, x0', x1']) rfl ⟨by rw [HFF.out.1, HFF.out.2, HM0.out], put2x HEy.out HwH.out _ _⟩
      · rw [if_neg hb] at hF
        have HFF := Lib.hid (show F0 = 0 ∧ F1 = 0 from ⟨(congrArg Prod.fst hF).symm, (congrArg Prod.snd hF).symm⟩)
        have HM0 := Lib.hid (show Mo = S by rw [← hMo, HFF.out.1, if_pos rfl])
        have db : decide ((4096 : Int) < S) = false := decide_eq_false hb
        have x0 := HFr.out.x0; have x1 := HFr.out.x1; have g0 := HFr.out.f 0; have g1 := HFr.out.f 1
        have s0' := HbZ.out.x0; have s1' := HbZ.out.x1
        rw [Hs00.out] at s0'
        rw [Hs1.out] at s1'
        clear hF hMo
        go_upto_region 20 with fail
        go_region
        go_wp2_with fail
        exact bodyPost_ret (v := .tuple #[.int .i64 S, .agg #[.int .i64 0, .int .i64 0]]) (by simp [results, Tryd.results14, go_sem, x0, x1]) rfl ⟨by rw [HFF.out.1, HFF.out.2, HM0.out], Below.drew (put2x HWZ.out HwH.out _ _)⟩
    have hlt : i < n := by omega
    have q1 : (i : Int) < (n : Int) := by omega
    have q0 : (0 : Int) ≤ (i : Int) := by omega
    have wk : IntKind.i64.wrap ((i : Int) + 1) = ((i + 1 : Nat) : Int) := by rw [IntKind.wrap_i64]; have := Hn4.out; omega
    obtain ⟨g, hg⟩ : ∃ g, ops[i]? = some g := ⟨_, List.getElem?_eq_getElem (by have := Hn0.out; omega)⟩
    obtain ⟨b, o, rfl⟩ := HOZ.out.some_of (by omega)
    obtain ⟨a1, n1, c1, a2, n2, c2', e0, e1, e2, e3, e4, e5, hL⟩ := (HOZ.out.at i g hg)
    have hst := take_gg hg
    have hn1 := hL.i1.1
    have hct := ct_of_has (HW.out g (List.mem_of_getElem? hg))
    rw [hn1] at hct
    have bd := cntP_bound isCt (ops.take i)
    have bl : (ops.take i).length ≤ 4096 := by rw [List.length_take]; have := Hn4.out; omega
    have hyes : isCt g = true → cntP isCt (ops.take (i + 1)) = cntP isCt (ops.take i) + 1 := fun e => by rw [hst]; exact cntP_yes e
    have hno : isCt g = false → cntP isCt (ops.take (i + 1)) = cntP isCt (ops.take i) := fun e => by rw [hst]; exact cntP_no e
    obtain ⟨C, hC⟩ : ∃ C, cntP isCt (ops.take i) = C := ⟨_, rfl⟩
    rw [hC] at hyes hno bd ⊢
    have hDb : 0 ≤ D ∧ D ≤ 10 := by have := HN.out; have := HD9.out; omega
    have hm : 0 ≤ D * C ∧ D * C ≤ 10 * 4096 := ⟨Int.mul_nonneg hDb.1 bd.1, Int.mul_le_mul hDb.2 (by omega) bd.1 (by decide)⟩
    have em : 3 * D * C = 3 * (D * C) := Int.mul_assoc _ _ _
    have em1 : 3 * D * (C + 1) = 3 * (D * C) + 3 * D := by rw [Int.mul_add, Int.mul_one, em]
    obtain ⟨S, hS⟩ : ∃ S, (n : Int) + 3 * D * C = S := ⟨_, rfl⟩
    have HS1 := Lib.hid (show isCt g = true → (n : Int) + 3 * D * cntP isCt (ops.take (i + 1)) = S + 3 * D from fun e => by rw [hyes e, em1, ← hS, em]; omega)
    have HS0 := Lib.hid (show isCt g = false → (n : Int) + 3 * D * cntP isCt (ops.take (i + 1)) = S from fun e => by rw [hno e, hS])
    have hSb : 0 ≤ S ∧ S ≤ 1000000 := by have := Hn4.out; omega
    rw [hS]
    have wc : IntKind.i64.wrap (S + 3 * N2) = S + 3 * N2 := by have := HN.out; have := HN2.out; rw [IntKind.wrap_i64]; omega
    obtain ⟨kd, k, ctl, q, bt, cnd⟩ := g
    simp only at e0 e1 e2 e3 e4 e5 hn1
    have Hlt := Lib.hid hlt; have Hct := Lib.hid hct
    clear hst bd bl hyes hno hC hlt hg hL hn1 hin hi hk hm em em1 hS hDb hSb hct e0 e1 e3 e4 e5
    by_cases hc : 0 < n1
    · have q2 : (0 : Int) < (n1 : Int) := by omega
      have Hs := Lib.hid (HS1.out (by rw [Hct.out]; exact decide_eq_true hc))
      by_cases hb : 2 < N
      · have e : D = N2 := by have := HD9.out; have := HN2.out; omega
        subst e
        clear hc Hct HS1 HS0
        go_wp2_with fail
        go_roundg (n - (i + 1))
        case measure => have := Hk.out; have := Hlt.out; omega
        case rel => exact ⟨i + 1, rfl, by rw [Hs.out], Hlt.out, rfl, rfl⟩
      · have e : D = 0 := by have := HD9.out; omega
        have db : decide ((2 : Int) < N) = false := decide_eq_false hb
        have Hs2 := Lib.hid (show (n : Int) + 3 * D * cntP isCt (ops.take (i + 1)) = S by rw [Hs.out, e]; omega)
        clear hc Hct HS1 HS0 Hs e
        go_wp2_with fail
        go_roundg (n - (i + 1))
        case measure => have := Hk.out; have := Hlt.out; omega
        case rel => exact ⟨i + 1, rfl, by rw [Hs2.out], Hlt.out, rfl, rfl⟩
    · have q2 : ¬ (0 : Int) < (n1 : Int) := by omega
      have q3 : decide ((0 : Int) < (n1 : Int)) = false := decide_eq_false q2
      have Hs := Lib.hid (HS0.out (by rw [Hct.out]; exact decide_eq_false hc))
      clear hc Hct HS1 HS0
      go_wp2_with fail
      go_roundg (n - (i + 1))
      case measure => have := Hk.out; have := Hlt.out; omega
      case rel => exact ⟨i + 1, rfl, by rw [Hs.out], Hlt.out, rfl, rfl⟩
end Go.Proofs.YtlokfalkhgjlbaaDoor
namespace Go.Proofs.YtlokfalkhgjlbaaDoor
open Go.RowKit

/-- The table of TrailingZeros16. -/
abbrev BruM (w : World) : Prop := TabAt 1 Lib.deBruijn32tab w
theorem bruM_ext {w w' : World} (h : BruM w) (he : Ext w w') : BruM w' := fun j hj => cell_ext (h j hj) he

set_option maxRecDepth 100000 in
set_option maxHeartbeats 2000000 in
theorem trailing16_any (x : Nat) (h0 : x ≠ 0) (hx : x < 65536) (w : World) (hT : BruM w) : Calls Tryd.prog 83 #[.int .u16 (x : Int)] w fun e w' => e = .returned (.int .i64 ((Lib.ctz 16 x : Nat) : Int)) ∧ w' = w := by
  obtain ⟨h1, h2⟩ := Lib.lowest_bit 16 x h0 hx
  obtain ⟨k, hk⟩ : ∃ k, Lib.ctz 16 x = k := ⟨_, rfl⟩
  rw [hk] at h1 h2 ⊢
  obtain ⟨h3, h4⟩ := Lib.deBruijn32_at k (by omega)
  have hP : 2 ^ k < 65536 := Nat.lt_of_lt_of_le (Nat.pow_lt_pow_right (by decide) h2) (by decide)
  have hc := hT (2 ^ k * 125613361 % 4294967296 / 134217728) h3
  rw [h4] at hc
  have ha := and_u16 hx (show 65536 - x < 65536 by omega)
  rw [show 65536 - x = 2 ^ 16 - x from rfl, h1] at ha
  have wn : IntKind.u16.wrap (-(x : Int)) = ((2 ^ 16 - x : Nat) : Int) := by
    rw [show IntKind.u16.wrap (-(x : Int)) = ((-(x : Int)) % 65536) from rfl]
    have : (2 ^ 16 - x : Nat) = 65536 - x := rfl
    rw [this]
    omega
  obtain ⟨P, hPP⟩ : ∃ P, 2 ^ k = P := ⟨_, rfl⟩
  rw [hPP] at ha hP hc h3
  have wc : IntKind.u32.wrap (P : Int) = (P : Int) := by
    rw [show IntKind.u32.wrap (P : Int) = ((P : Int) % 4294967296) from rfl]; omega
  have wm : IntKind.u32.wrap ((P : Int) * 125613361) = ((P * 125613361 % 4294967296 : Nat) : Int) := by
    rw [show IntKind.u32.wrap ((P : Int) * 125613361) = (((P : Int) * 125613361) % 4294967296) from rfl]; omega
  obtain ⟨Z, hZ⟩ : ∃ Z, P * 125613361 % 4294967296 = Z := ⟨_, rfl⟩
  rw [hZ] at wm hc h3
  obtain ⟨I, hI⟩ : ∃ I, Z / 134217728 = I := ⟨_, rfl⟩
  rw [hI] at hc h3
  have ws : (Z : Int) / 134217728 = (I : Int) := by omega
  have ws2 : (Z : Int) / 2 ^ 27 = (I : Int) := by rw [show (2 : Int) ^ 27 = 134217728 from by decide]; exact ws
  have q0 : (0 : Int) ≤ (I : Int) := by omega
  have q1 : (I : Int) < 32 := by have : I < 32 := h3; omega
  have wk : IntKind.i64.wrap (k : Int) = (k : Int) := by rw [IntKind.wrap_i64]; omega
  have qx : ((x : Int) == 0) = false := by simp; omega
  clear h1 h2 h4 hk hZ hI h0 hx hP hPP hT h3
  go_enter Tryd.func83, Tryd.ntmps83
  go_wp2_with fail
  go_ret
  exact ⟨rfl, rfl⟩
theorem ctz_bit {x : Nat} (h0 : x ≠ 0) (hx : x < 65536) : x.testBit (Lib.ctz 16 x) = true := by
  obtain ⟨h1, h2⟩ := Lib.lowest_bit 16 x h0 hx
  have h3 : (2 ^ Lib.ctz 16 x).testBit (Lib.ctz 16 x) = true := Nat.testBit_two_pow_self
  rw [← h1, Nat.testBit_and] at h3
  exact (Bool.and_eq_true_iff.1 h3).1

set_option maxRecDepth 100000 in
set_option maxHeartbeats 2000000 in
theorem toward_any (W : List Nat) (g f t K M : Nat) (w : World) (h : WebAt w g W) (_hOk : WebOk W M) (hf : f < 12) (ht : t < 12) (hK : bal W (2 ^ t) K &&& W.getD f 0 ≠ 0) (hmin : ∀ k, k < K → bal W (2 ^ t) k &&& W.getD f 0 = 0) (hT : BruM w) :
    Calls Tryd.prog 74 #[.pointer (some ⟨g, 0, none⟩), .int .i64 (f : Int), .int .i64 (t : Int)] w fun e w' => ∃ p : Nat, e = .returned (.int .i64 (p : Int)) ∧ (bal W (2 ^ t) K).testBit p = true ∧ lk W f p = true ∧ Ext w w' := by
  have hpt : 2 ^ t < 65536 := Nat.lt_of_lt_of_le (Nat.pow_lt_pow_right (by decide) ht) (by decide)
  have Hu := Lib.hid (show ∀ i, bal W (2 ^ t) i < 65536 from fun i => by
    induction i with
    | zero => exact hpt
    | succ i ih => exact widK_u16 h.lt ih 12)
  have hsh := shl_u16 ht
  have c0 := h.cell f hf
  have hv := h.lt f
  obtain ⟨V, hV⟩ : ∃ V, W.getD f 0 = V := ⟨_, rfl⟩
  rw [hV] at c0 hv hK hmin
  obtain ⟨PT, hPT⟩ : ∃ P, 2 ^ t = P := ⟨_, rfl⟩
  rw [hPT] at hsh hK hmin Hu ⊢
  have Hw := Lib.hid h; have Hmin := Lib.hid hmin; have HT := Lib.hid hT; have Hv := Lib.hid hv; have HK := Lib.hid hK; have HV := Lib.hid hV
  have q0 : (0 : Int) ≤ (f : Int) := by omega
  have q1 : (f : Int) < 12 := by omega
  have q2 : (0 : Int) ≤ (t : Int) := by omega
  clear h hpt hV hmin hT hv hK hPT _hOk
  go_enter Tryd.func74, Tryd.ntmps74
  go_wp2_with fail
  go_loopg [7] K (fun kk s7 wr => ∃ i : Nat, s7 = .int .u16 (bal W PT i : Nat) ∧ i ≤ K ∧ K - i = kk ∧ Ext w wr)
  case atStart => exact ⟨0, rfl, Nat.zero_le _, rfl, Ext.refl _⟩
  case round =>
    obtain ⟨i, rfl, hi, hk, hE⟩ := hrel
    have HE := Lib.hid hE; have Hk := Lib.hid hk
    have c1 := cell_ext c0 hE
    clear c0
    have ha := and_u16 (Hu.out i) Hv.out
    by_cases hin : i = K
    · subst hin
      have hz : bal W PT i &&& V ≠ 0 := HK.out
      have hb : bal W PT i &&& V < 65536 := Nat.and_lt_two_pow (n := 16) _ Hv.out
      have hbit := ctz_bit hz hb
      rw [Nat.testBit_and] at hbit
      obtain ⟨hb1, hb2⟩ := Bool.and_eq_true_iff.1 hbit
      have HTr := Lib.hid (trailing16_any (bal W PT i &&& V) hz hb wr (bruM_ext HT.out hE))
      obtain ⟨A, hA⟩ : ∃ A, bal W PT i &&& V = A := ⟨_, rfl⟩
      rw [hA] at ha HTr hb1 hb2 hz
      have qa : ((A : Int) == 0) = false := by simp; omega
      have Hb1 := Lib.hid hb1; have Hb2 := Lib.hid (show lk W f (Lib.ctz 16 A) = true by unfold lk; rw [HV.out]; exact hb2)
      obtain ⟨S, hS⟩ : ∃ S, bal W PT i = S := ⟨_, rfl⟩
      rw [hS] at ha ⊢
      clear hz hb hbit hb1 hb2 hA hi hk hE hS
      go_wp2_with fail
      refine HTr.out.mono ?_
      rintro e w2 ⟨rfl, rfl⟩
      go_wp2_with fail
      go_ret
      exact ⟨_, rfl, Hb1.out, Hb2.out, HE.out⟩
    have hlt : i < K := by omega
    have Hlt := Lib.hid hlt
    have hz := Hmin.out i hlt
    rw [hz] at ha
    have HC := Lib.hid (wider_any W g (bal W PT i) wr (Hw.out.ext hE) (Hu.out i))
    have Hnx := Lib.hid (show wid W (bal W PT i) = bal W PT (i + 1) from rfl)
    obtain ⟨S, hS⟩ : ∃ S, bal W PT i = S := ⟨_, rfl⟩
    rw [hS] at ha HC Hnx ⊢
    clear hz hi hk hE hin hlt hS
    go_wp2_with fail
    refine HC.out.mono ?_
    rintro e w2 ⟨rfl, hx⟩
    have HE2 := Lib.hid (HE.out.trans hx)
    clear hx HC c1
    go_wp2_with fail
    go_roundg (K - (i + 1))
    case measure => have := Hk.out; have := Hlt.out; omega
    case rel => exact ⟨i + 1, by rw [Hnx.out], Hlt.out, rfl, HE2.out⟩
end Go.Proofs.YtlokfalkhgjlbaaDoor
namespace Go.Proofs.YtlokfalkhgjlbaaDoor
open Go.RowKit

theorem opInfo : ∃ i0, Tryd.prog.info? 46 = some i0 ∧ i0.zero = some (.agg #[.int .i64 0, .int .i64 0, .slice none 0 0, .int .i64 0, .int .i64 0, .slice none 0 0]) ∧ i0.size = 6 ∧ i0.bytes = 80 := by
  obtain ⟨i0, hi, hz0, hz1, hz2⟩ := info_parts op_info
  exact ⟨i0, hi, hz0, hz1, hz2⟩
/-- The slots of a mover. -/
def mvC (W : List Nat) (s v : Value) : Array Value := ((W.map fun x : Nat => Value.int .u16 (x : Int)) ++ [s, v]).toArray
section
variable {W : List Nat} {s v : Value}
theorem mvC_web (h : W.length = 12) (q : Nat) (hq : q < 12) : (mvC W s v)[q]? = some (.int .u16 ((W.getD q 0 : Nat) : Int)) := by
  unfold mvC
  rw [List.getElem?_toArray, List.getElem?_append_left (by rw [List.length_map]; omega), List.getElem?_map, List.getD_eq_getElem?_getD, List.getElem?_eq_getElem (by omega)]
  rfl
theorem mvC_s (h : W.length = 12) : (mvC W s v)[12]? = some s := by
  unfold mvC
  rw [List.getElem?_toArray, List.getElem?_append_right (by rw [List.length_map]; omega), List.length_map, h]
  rfl
theorem mvC_v (h : W.length = 12) : (mvC W s v)[13]? = some v := by
  unfold mvC
  rw [List.getElem?_toArray, List.getElem?_append_right (by rw [List.length_map]; omega), List.length_map, h]
  rfl
theorem mvC_set (h : W.length = 12) (v' : Value) : (mvC W s v).setIfInBounds 13 v' = mvC W s v' := by
  unfold mvC
  rw [List.setIfInBounds_toArray, List.set_append_right _ _ (by rw [List.length_map]; omega), List.length_map, h]
  rfl
end
theorem iC_set (st : List Int) (i : Nat) (b : Int) : (iC st).toArray.setIfInBounds i (.int .i64 b) = (iC (st.set i b)).toArray := by
  unfold iC
  rw [List.setIfInBounds_toArray, List.map_set]

/-- A mover at work: its block, where qubits stand, the operations so far. -/
structure MvA (w0 w : World) (base Bm gs Q : Nat) (W : List Nat) (st : List Int) (v : Value) (ops : List Gop) : Prop where
  ext : Ext w0 w
  hB : w0.heap.size ≤ Bm
  hBb : Bm < base
  hg : w0.heap.size ≤ gs
  hgb : gs < base
  hs : base ≤ w.heap.size
  wl : W.length = 12
  wu : ∀ q, W.getD q 0 < 65536
  row : w.heap[Bm]? = some (.cells (mvC W (.slice (some ⟨gs, 0, none⟩) Q Q) v) 84 (0, 0))
  srow : w.heap[gs]? = some (.cells (iC st).toArray 3 (0, 0))
  len : st.length = Q
  ops : OpsN w base v ops
/-- What may have changed: the mover, where qubits stand, the row of operations; the rest is new. -/
structure MvX (Bm gs : Nat) (v v' : Value) (w w' : World) : Prop where
  size : w.heap.size ≤ w'.heap.size
  block : ∀ k, k < w.heap.size → k ≠ Bm → k ≠ gs → v.ownBlock ≠ some k → w'.heap[k]? = w.heap[k]?
  own : ∀ k, v'.ownBlock = some k → v.ownBlock = some k ∨ w.heap.size ≤ k
section
variable {w0 w w' : World} {base Bm gs Q : Nat} {W : List Nat} {st : List Int} {v v' v'' : Value} {ops : List Gop}
theorem MvX.refl (Bm gs : Nat) (v : Value) (w : World) : MvX Bm gs v v w w := ⟨Nat.le_refl _, fun _ _ _ _ _ => rfl, fun _ h => Or.inl h⟩
theorem MvX.trans {a b c : World} (h : MvX Bm gs v v' a b) (k : MvX Bm gs v' v'' b c) : MvX Bm gs v v'' a c :=
  ⟨Nat.le_trans h.size k.size, fun j hj h1 h2 h3 => (k.block j (Nat.lt_of_lt_of_le hj h.size) h1 h2 (fun e => by
    rcases h.own j e with e | e
    · exact h3 e
    · omega)).trans (h.block j hj h1 h2 h3), fun j hj => by
    rcases k.own j hj with e | e
    · exact h.own j e
    · exact Or.inr (Nat.le_trans h.size e)⟩
theorem MvX.of_ext (v : Value) (h : Ext w w') : MvX Bm gs v v w w' := ⟨h.size, fun k hk _ _ _ => h.block k hk, fun _ h => Or.inl h⟩
theorem MvA.ne (h : MvA w0 w base Bm gs Q W st v ops) : Bm ≠ gs := fun e => by
  have h1 := h.row
  rw [e, h.srow] at h1
  injection h1 with h1
  injection h1 with _ h1 _
  exact absurd h1 (by decide)
theorem MvA.lt (h : MvA w0 w base Bm gs Q W st v ops) : Bm < w.heap.size := (Array.getElem?_eq_some_iff.1 h.row).1
theorem MvA.slt (h : MvA w0 w base Bm gs Q W st v ops) : gs < w.heap.size := (Array.getElem?_eq_some_iff.1 h.srow).1
theorem MvA.grow (h : MvA w0 w base Bm gs Q W st v ops) (k : Ext w w') : MvA w0 w' base Bm gs Q W st v ops :=
  ⟨h.ext.trans k, h.hB, h.hBb, h.hg, h.hgb, Nat.le_trans h.hs k.size, h.wl, h.wu, (k.block _ h.lt).trans h.row, (k.block _ h.slt).trans h.srow, h.len, h.ops.ext k⟩
theorem MvA.web (h : MvA w0 w base Bm gs Q W st v ops) : WebAt w Bm W := ⟨h.wl, h.wu, fun q hq => by rw [cell_of_row w Bm q _ _ (0, 0) h.row]; exact mvC_web h.wl q hq⟩
theorem MvA.xs (h : MvA w0 w base Bm gs Q W st v ops) : w.cell? ⟨Bm, 12, none⟩ = some (.slice (some ⟨gs, 0, none⟩) Q Q) := by rw [cell_of_row w Bm 12 _ _ (0, 0) h.row]; exact mvC_s h.wl
theorem MvA.xv (h : MvA w0 w base Bm gs Q W st v ops) : w.cell? ⟨Bm, 13, none⟩ = some v := by rw [cell_of_row w Bm 13 _ _ (0, 0) h.row]; exact mvC_v h.wl
theorem MvA.f (h : MvA w0 w base Bm gs Q W st v ops) (o : Nat) : w.frozen? ⟨Bm, o, none⟩ = false := frozen_of_row w Bm o _ _ h.row
theorem MvA.fs (h : MvA w0 w base Bm gs Q W st v ops) (o : Nat) : w.frozen? ⟨gs, o, none⟩ = false := frozen_of_row w gs o _ _ h.srow
theorem MvA.at (h : MvA w0 w base Bm gs Q W st v ops) (i : Nat) (hi : i < Q) : w.cell? ⟨gs, i, none⟩ = some (.int .i64 (st.getD i 0)) := by
  rw [cell_of_row w gs i _ _ (0, 0) h.srow, List.getElem?_toArray]
  unfold iC
  rw [List.getElem?_map, List.getD_eq_getElem?_getD, List.getElem?_eq_getElem (by rw [h.len]; exact hi)]
  rfl
theorem MvA.sl (h : MvA w0 w base Bm gs Q W st v ops) : ∃ a c, v = .slice a ops.length c := by
  obtain ⟨xs, hx⟩ := h.ops
  rcases hx.own.2 with ⟨rfl, h0⟩ | ⟨g, cap, cur, rfl, _⟩
  · exact ⟨none, 0, by rw [h0]⟩
  · exact ⟨_, _, rfl⟩
/-- Blocks that are young enough stand. -/
theorem Iow.young {a : Option Addr} {n c : Nat} {l : List Int} (h : Iow w base a n c l) (hk : ∀ b, base ≤ b → b < w.heap.size → w'.heap[b]? = w.heap[b]?) : Iow w' base a n c l :=
  own_keep h fun g _ hb hg => hk g hb (Array.getElem?_eq_some_iff.1 hg).1
theorem OpsX.young {xs : List Value} (h : OpsX w base v ops xs) (hk : ∀ b, base ≤ b → b < w.heap.size → w'.heap[b]? = w.heap[b]?) : OpsX w' base v ops xs :=
  ⟨own_keep h.own fun g _ hb hg => hk g hb (Array.getElem?_eq_some_iff.1 hg).1, h.sep, h.row.map fun _ _ _ _ _ _ _ o => ⟨o.i1.young hk, o.i2.young hk, o.ne⟩⟩
/-- A qubit stands elsewhere. -/
theorem MvA.put (h : MvA w0 w base Bm gs Q W st v ops) (i : Nat) (b : Int) : MvA w0 (w.setCell ⟨gs, i, none⟩ (.int .i64 b)) base Bm gs Q W (st.set i b) v ops ∧ MvX Bm gs v v w (w.setCell ⟨gs, i, none⟩ (.int .i64 b)) := by
  have hO := only1 w gs i (.int .i64 b)
  have hne := h.ne
  refine ⟨⟨ext_only' h.ext hO h.hg, h.hB, h.hBb, h.hg, h.hgb, by rw [hO.size]; exact h.hs, h.wl, h.wu, (hO.block _ hne).trans h.row, ?_, by rw [List.length_set]; exact h.len, ?_⟩, ⟨by rw [hO.size]; exact Nat.le_refl _, fun k _ _ h2 _ => hO.block k h2, fun _ h => Or.inl h⟩⟩
  · have a := heap_setCell_same w gs i _ _ (.int .i64 b) h.srow
    rw [← iC_set]
    simpa using a
  · obtain ⟨xs, hx⟩ := h.ops
    exact ⟨xs, hx.young fun b hb _ => hO.block b (by have := h.hgb; omega)⟩
theorem MvA.older (h : MvA w0 w base Bm gs Q W st v ops) {k : Nat} (hk : v.ownBlock = some k) : base ≤ k ∧ k < w.heap.size ∧ ∃ cs fr, w.heap[k]? = some (.cells cs 46 fr) := by
  obtain ⟨xs, hx⟩ := h.ops
  obtain ⟨h1, cs, fr, h2⟩ := PtKind hx.own k hk
  exact ⟨h1, (Array.getElem?_eq_some_iff.1 h2).1, cs, fr, h2⟩
end

set_option maxRecDepth 100000 in
/-- One more operation. -/
theorem mv_append {w0 wA wC : World} {base Bm gs Q : Nat} {W : List Nat} {st : List Int} {v : Value} {ops : List Gop} (h : MvA w0 wA base Bm gs Q W st v ops) (hx : Ext wA wC) (ty : TypeId) {g : Gop} {a1 : Option Addr} {n1 c1 : Nat} {a2 : Option Addr} {n2 c2 : Nat} (hO : OpN wC wA.heap.size g a1 n1 c1 a2 n2 c2) (ad : Addr)
    (k2 : ∀ j u, ([.int .i64 g.kind, .int .i64 g.k, .slice a1 n1 c1, .int .i64 g.q, .int .i64 g.bit, .slice a2 n2 c2] : List Value)[j]? = some u → wC.cell? (ad.add j) = some u) (hm : ops.length ≤ 1000000) :
    ∃ a' c' w1, (Builtin.append_ #[32, 32] ty #[v, .slice (some ad) 1 1]).run Tryd.prog wC = .ok (.slice a' (ops.length + 1) c') w1 ∧ w1.heap[Bm]? = wC.heap[Bm]? ∧
      MvA w0 (w1.setCell ⟨Bm, 13, none⟩ (.slice a' (ops.length + 1) c')) base Bm gs Q W st (.slice a' (ops.length + 1) c') (ops ++ [g]) ∧ MvX Bm gs v (.slice a' (ops.length + 1) c') wA (w1.setCell ⟨Bm, 13, none⟩ (.slice a' (ops.length + 1) c')) := by
  obtain ⟨i0, hi, hz0, hz1, hz2⟩ := opInfo
  obtain ⟨xs, hX⟩ := h.ops
  have hC := h.grow hx
  have hXC := hX.ext hx
  obtain ⟨v', w1, e1, e2, e3, _, e5⟩ := run_append_own_at (P := Tryd.prog) wC base 32 ty 46 i0 _ 6 80 Tryd.underlying32 hi hz0 hz1 hz2 rfl (by decide) v ops.length xs hXC.own ad 1 1 _ rfl k2 (one_op _ _ _ _ _ _ _ _ _ _) (by unfold maxLen; omega) (by omega) hC.hs
  obtain ⟨a', c', hv'⟩ : ∃ a' c', v' = .slice a' (ops.length + 1) c' := by
    rcases e2.2 with ⟨rfl, h0⟩ | ⟨g, cap, cur, rfl, _⟩
    · omega
    · exact ⟨_, _, rfl⟩
  subst hv'
  have hkd : ∀ k, v.ownBlock = some k → base ≤ k ∧ k < wC.heap.size ∧ ∃ cs fr, wC.heap[k]? = some (.cells cs 46 fr) := fun k hk => hC.older hk
  have hbk : w1.heap[Bm]? = wC.heap[Bm]? := e3.block Bm hC.lt (fun e => by
    obtain ⟨_, _, cs, fr, hr⟩ := hkd Bm e.symm
    rw [hC.row] at hr
    injection hr with hr
    injection hr with _ hr _
    exact absurd hr (by decide))
  have hOn := only1 w1 Bm 13 (.slice a' (ops.length + 1) c')
  have hrow1 : w1.heap[Bm]? = some (.cells (mvC W (.slice (some ⟨gs, 0, none⟩) Q Q) v) 84 (0, 0)) := hbk.trans hC.row
  have hk : ∀ (b : Nat) (cur : Array Value) (fr : Nat × Nat), wC.heap[b]? = some (.cells cur 3 fr) → (w1.setCell ⟨Bm, 13, none⟩ (.slice a' (ops.length + 1) c')).heap[b]? = wC.heap[b]? := by
    intro b cur fr hb
    have hbl := (Array.getElem?_eq_some_iff.1 hb).1
    rw [hOn.block b (fun e => by
      rw [e, hC.row] at hb
      injection hb with hb
      injection hb with _ hb _
      exact absurd hb (by decide))]
    exact e3.block b hbl (fun e => by
      obtain ⟨_, _, cs, fr', hr⟩ := hkd b e.symm
      rw [hb] at hr
      injection hr with hr
      injection hr with _ hr _
      exact absurd hr (by decide))
  have hsz : wC.heap.size ≤ (w1.setCell ⟨Bm, 13, none⟩ (.slice a' (ops.length + 1) c')).heap.size := by rw [hOn.size]; exact e3.size
  refine ⟨a', c', w1, e1, hbk, ⟨?_, h.hB, h.hBb, h.hg, h.hgb, Nat.le_trans hC.hs hsz, h.wl, h.wu, ?_, ?_, h.len, ?_⟩, ?_⟩
  · have hx1 : Ext w0 w1 := grown_ext hC.ext e3 (fun k hk => by have := (hkd k hk).1; have := h.hB; have := h.hBb; omega)
    exact ext_only' hx1 hOn h.hB
  · have := heap_setCell_same w1 Bm 13 _ _ (.slice a' (ops.length + 1) c') hrow1
    rw [← mvC_set h.wl]
    simpa using this
  · exact (hk gs _ _ hC.srow).trans hC.srow
  · refine ⟨_, OpsX.snoc hXC ?_ hk (hX.old) h.hs (hO.keep hk)⟩
    refine own_keep e2 (fun b cur hb hbc => hOn.block b ?_)
    rintro rfl
    rw [hrow1] at hbc
    injection hbc with hbc
    injection hbc with _ hbc _
    exact absurd hbc (by decide)
  · refine ⟨Nat.le_trans hx.size hsz, fun k hk1 h1 _ h3 => ?_, fun k hk1 => ?_⟩
    · rw [hOn.block k h1, e3.block k (Nat.lt_of_lt_of_le hk1 hx.size) (fun e => h3 e.symm)]
      exact hx.block k hk1
    · rcases e5 with e | e
      · exact Or.inl (by rw [← e]; exact hk1)
      · rw [e] at hk1
        injection hk1 with hk1
        exact Or.inr (by have := hx.size; omega)
end Go.Proofs.YtlokfalkhgjlbaaDoor
