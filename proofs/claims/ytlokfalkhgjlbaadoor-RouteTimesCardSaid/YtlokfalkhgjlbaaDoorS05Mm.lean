/-
  Circuits that a device can do: the small functions of both sides. Circuits on devices: Fit's fault, as the reference finds it. Devices: the lowest bit of a set; the first qubit of a shortest way. A mover in memory: its web, where qubits stand, its operations. What an exchange is. An exchange, as the program does it. A qubit is brought to another, as the program does it.
-/
import Derived.Test.YtlokfalkhgjlbaaDoorProg
import Derived.Test.YtlokfalkhgjlbaaDoorRows
import Derived.BigQuiet
import Derived.Deep.AppendLies
import Derived.Deep.Cut
import Derived.Deep.CutRange
import Derived.Deep.LoopGhost
import Derived.Deep.QuietTactic
import Derived.Deep.RegionHeld3
import Derived.Ground.Names2Prog
import Derived.Laws.Bits64b
import Derived.Laws.CopyOwn
import Derived.Laws.ResultCell
import Derived.Lib.AppendZeros
import Derived.Lib.BitFns
import Derived.Lib.Hide
import Derived.Lib.ItoaMem
import Derived.Lib.ItoaNum
import Derived.Lib.Strings
import Derived.Lib.TrailingZeros
import Derived.Maps.AppendAt
import Derived.OwnWalk
import Derived.Shelf.Slices.Clone
import Derived.Shelf.Slices.Turned
import Derived.Shelf.Spec.TrailingZeros
import Derived.WalkKit
import Derived.WalkLawsBesides
import Derived.WalkSpells
import Derived.Test.YtlokfalkhgjlbaaDoorS00Ce
import Derived.Test.YtlokfalkhgjlbaaDoorS01Cj
import Derived.Test.YtlokfalkhgjlbaaDoorShelf
import Derived.Test.YtlokfalkhgjlbaaDoorS03Ma
import Derived.Test.YtlokfalkhgjlbaaDoorS04Mg
namespace Go.Proofs.YtlokfalkhgjlbaaDoor
open Go.RowKit

/-- An X with one control. -/
def isCt (g : Gop) : Bool := g.kind == 2 && g.ctl.length == 1
/-- Controls that a device cannot do. -/
def isWr (g : Gop) : Bool := decide (0 < g.ctl.length) && !(isCt g)
/-- The first fault of operations by their controls. -/
def bsF (ops : List Gop) : Nat → Nat → Int × Int
  | 0, _ => (0, 0)
  | r + 1, i => if isWr (ops.getD i ⟨0, 0, [], 0, 0, []⟩) then (11, (i : Int)) else bsF ops r (i + 1)
theorem bsF_zero (ops : List Gop) : ∀ r i, (bsF ops r i).1 = 0 → bsF ops r i = (0, 0) ∧ ∀ j, i ≤ j → j < i + r → isWr (ops.getD j ⟨0, 0, [], 0, 0, []⟩) = false
  | 0, i, _ => ⟨rfl, fun j h1 h2 => by omega⟩
  | r + 1, i, h => by
    unfold bsF at h ⊢
    by_cases e : isWr (ops.getD i ⟨0, 0, [], 0, 0, []⟩) = true
    · rw [if_pos e] at h; exact absurd h (by show ¬ (11 : Int) = 0; decide)
    · rw [if_neg e] at h ⊢
      obtain ⟨h1, h2⟩ := bsF_zero ops r (i + 1) h
      refine ⟨h1, fun j hj hk => ?_⟩
      by_cases e2 : j = i
      · subst e2; simpa using e
      · exact h2 j (by omega) (by omega)
theorem bsF_step (ops : List Gop) (i n : Nat) (h : i < n) (g : Gop) (hg : ops[i]? = some g) : bsF ops (n - i) i = if isWr g then (11, (i : Int)) else bsF ops (n - (i + 1)) (i + 1) := by
  obtain ⟨r, hr⟩ : ∃ r, n - i = r + 1 := ⟨n - i - 1, by omega⟩
  rw [hr, bsF, show n - (i + 1) = r by omega, List.getD_eq_getElem?_getD, hg]; rfl
theorem bs_wr {ops : List Gop} (h : (bsF ops ops.length 0).1 = 0) : ∀ g ∈ ops, isWr g = false := by
  obtain ⟨_, h2⟩ := bsF_zero ops ops.length 0 h
  intro g hg
  obtain ⟨i, hi, rfl⟩ := List.mem_iff_getElem.1 hg
  have := h2 i (Nat.zero_le _) (by omega)
  rw [List.getD_eq_getElem?_getD, List.getElem?_eq_getElem hi] at this
  exact this
theorem take_gg {ops : List Gop} {i : Nat} {g : Gop} (h : ops[i]? = some g) : ops.take (i + 1) = ops.take i ++ [g] := by
  rw [List.take_add_one, h]; rfl
/-- How many operations there may be. -/
def rckN (N : Int) (ops : List Gop) : Int := (ops.length : Int) + 3 * max (N - 2) 0 * cntP isCt ops

section
variable (kd k : Int) (a1 : Option Addr) (n1 c1 : Nat) (q bt : Int) (a2 : Option Addr) (n2 c2 : Nat) (w : World)
theorem isControlled_any : Calls Tryd.prog 53 #[.agg #[.int .i64 kd, .int .i64 k, .slice a1 n1 c1, .int .i64 q, .int .i64 bt, .slice a2 n2 c2]] w fun e w' => e = .returned (.bool (kd == 2 && n1 == 1)) ∧ Ext w w' := by
  have HE := Lib.hid (ext_al w (.cells #[.int .i64 kd, .int .i64 k, .slice a1 n1 c1, .int .i64 q, .int .i64 bt, .slice a2 n2 c2] 46))
  have bx := opbx_new w kd k a1 n1 c1 q bt a2 n2 c2
  have m0 := bx.x0; have m2 := bx.x2
  clear bx
  by_cases h2 : kd = 2
  · subst h2
    by_cases h1 : n1 = 1
    · subst h1
      go_enter Tryd.func53, Tryd.ntmps53
      go_wp2_with fail
      go_ret
      exact ⟨rfl, HE.out⟩
    · have b1 : ((n1 : Int) == 1) = false := by simp; omega
      have e : ((2 : Int) == 2 && n1 == 1) = false := by simp [h1]
      rw [e]
      clear h1 e
      go_enter Tryd.func53, Tryd.ntmps53
      go_wp2_with fail
      go_ret
      exact ⟨rfl, HE.out⟩
  · have b2 : (kd == 2) = false := by simpa using h2
    have e : (kd == 2 && n1 == 1) = false := by rw [b2]; rfl
    rw [e]
    clear h2 e
    go_enter Tryd.func53, Tryd.ntmps53
    go_wp2_with fail
    go_ret
    exact ⟨rfl, HE.out⟩
theorem RBasic_all : Calls Tryd.prog 38 #[.agg #[.int .i64 kd, .int .i64 k, .slice a1 n1 c1, .int .i64 q, .int .i64 bt, .slice a2 n2 c2]] w fun e w' => e = .returned (.bool (n1 == 0 || (kd == 2 && n1 == 1))) ∧ Ext w w' := by
  have HE := Lib.hid (ext_al w (.cells #[.int .i64 kd, .int .i64 k, .slice a1 n1 c1, .int .i64 q, .int .i64 bt, .slice a2 n2 c2] 46))
  have bx := opbx_new w kd k a1 n1 c1 q bt a2 n2 c2
  have m0 := bx.x0; have m2 := bx.x2
  clear bx
  by_cases h0 : n1 = 0
  · subst h0
    have e : ((0 : Nat) == 0 || (kd == 2 && (0 : Nat) == 1)) = true := rfl
    rw [e]
    go_enter Tryd.func38, Tryd.ntmps38
    go_wp2_with fail
    go_ret
    exact ⟨rfl, HE.out⟩
  · have b0 : ((n1 : Int) == 0) = false := by simp; omega
    by_cases h2 : kd = 2
    · subst h2
      by_cases h1 : n1 = 1
      · subst h1
        go_enter Tryd.func38, Tryd.ntmps38
        go_wp2_with fail
        go_ret
        exact ⟨rfl, HE.out⟩
      · have b1 : ((n1 : Int) == 1) = false := by simp; omega
        have e : (n1 == 0 || ((2 : Int) == 2 && n1 == 1)) = false := by simp [h0, h1]
        rw [e]
        clear h0 h1 e
        go_enter Tryd.func38, Tryd.ntmps38
        go_wp2_with fail
        go_ret
        exact ⟨rfl, HE.out⟩
    · have b2 : (kd == 2) = false := by simpa using h2
      have e : (n1 == 0 || (kd == 2 && n1 == 1)) = false := by rw [b2]; simp [h0]
      rw [e]
      clear h2 h0 e
      go_enter Tryd.func38, Tryd.ntmps38
      go_wp2_with fail
      go_ret
      exact ⟨rfl, HE.out⟩
end
theorem wr_basic {kd k : Int} {ctl : List Int} {q bt : Int} {cnd : List Int} {n1 : Nat} (h : ctl.length = n1) : (n1 == 0 || (kd == 2 && n1 == 1)) = !(isWr ⟨kd, k, ctl, q, bt, cnd⟩) := by
  unfold isWr isCt
  simp only [h]
  by_cases h0 : n1 = 0
  · subst h0; rfl
  · have e1 : (n1 == 0) = false := by simpa using h0
    have e2 : decide (0 < n1) = true := decide_eq_true (by omega)
    rw [e1, e2]
    cases (kd == 2 && n1 == 1) <;> rfl

set_option maxRecDepth 100000 in
set_option maxHeartbeats 4000000 in
theorem basic_any (ops : List Gop) (ao : Option Addr) (n cp : Nat) (w : World) (h : OpsAt w ao n ops) (hn : n ≤ 4096) :
    Calls Tryd.prog 33 #[.slice ao n cp] w fun e w' => e = .returned (.agg #[.int .i64 (bsF ops n 0).1, .int .i64 (bsF ops n 0).2]) ∧ Ext w w' := by
  obtain ⟨r, hr⟩ : ∃ r, bsF ops n 0 = r := ⟨_, rfl⟩
  obtain ⟨r0, r1⟩ := r
  rw [hr]
  simp only
  have Hr := Lib.hid hr; have Hn := Lib.hid hn; have Hl := Lib.hid h.1
  obtain ⟨H, hH⟩ : ∃ H, w.heap.size = H := ⟨_, rfl⟩
  obtain ⟨W0, hW0⟩ : ∃ W0, w.alloc (.cells #[.int .i64 0, .int .i64 0] 27) = W0 := ⟨_, rfl⟩
  have E0 : Ext w W0 := by rw [← hW0]; exact ext_al w _
  have bF : FtB W0 H 0 0 := by rw [← hW0, ← hH]; exact ⟨heap_alloc_new w _⟩
  have HE0 := Lib.hid E0; have HO := Lib.hid (h.ext E0); have HFt := Lib.hid bF; have HW0 := Lib.hid hW0; have HH := Lib.hid hH
  have HwH := Lib.hid (show w.heap.size ≤ H by omega)
  clear h hn hr E0 bF hW0 hH
  go_enter Tryd.func33, Tryd.ntmps33
  go_upto_region 1 with fail
  rw [HW0.out, HH.out]
  clear HW0 HH
  go_wp2_with fail
  go_loopg [3, 4, 7] n (fun kk _ _ s7 wr => ∃ i : Nat, s7 = .int .i64 (i : Int) ∧ i ≤ n ∧ n - i = kk ∧ Ext W0 wr ∧ bsF ops n 0 = bsF ops (n - i) i)
  case atStart => exact ⟨0, rfl, Nat.zero_le _, rfl, Ext.refl _, rfl⟩
  case round =>
    obtain ⟨i, rfl, hi, hk, hE, hln⟩ := hrel
    have HE := Lib.hid hE; have Hk := Lib.hid hk
    by_cases hin : i = n
    · subst hin
      have q1 : ¬ (i : Int) < (i : Int) := by omega
      have hr := Hr.out
      rw [hln, show i - i = 0 by omega, show bsF ops 0 i = ((0 : Int), (0 : Int)) from rfl] at hr
      have HF := Lib.hid (show r0 = 0 ∧ r1 = 0 from ⟨(congrArg Prod.fst hr).symm, (congrArg Prod.snd hr).symm⟩)
      have bz := HFt.out.ext hE; have x0 := bz.x0; have x1 := bz.x1; have g0 := bz.f 0; have g1 := bz.f 1; have HEz := Lib.hid (HE0.out.trans hE)
      clear hi hk hE hln hr bz
      go_wp2_with fail
      exact bodyPost_ret (v := .agg #[.int .i64 0, .int .i64 0]) (by simp [results, Tryd.results33, go_sem, x0, x1]) rfl ⟨by rw [HF.out.1, HF.out.2], put2x HEz.out HwH.out _ _⟩
    have hlt : i < n := by omega
    have Hlt := Lib.hid hlt
    have q1 : (i : Int) < (n : Int) := by omega
    have q0 : (0 : Int) ≤ (i : Int) := by omega
    have wk : IntKind.i64.wrap ((i : Int) + 1) = ((i + 1 : Nat) : Int) := by rw [IntKind.wrap_i64]; have := Hn.out; omega
    obtain ⟨g, hg⟩ : ∃ g, ops[i]? = some g := ⟨_, List.getElem?_eq_getElem (by have := Hl.out; omega)⟩
    obtain ⟨b, o, rfl⟩ := HO.out.some_of (by omega)
    obtain ⟨a1, n1, c1, a2, n2, c2, e0, e1, e2, e3, e4, e5, hL⟩ := ((HO.out.ext hE).at i g hg)
    have hn1 := hL.i1.1
    have hst := bsF_step ops i n hlt g hg
    rw [← hln] at hst
    have Hst := Lib.hid hst
    obtain ⟨kd, k, ctl, q, bt, cnd⟩ := g
    simp only at e0 e1 e2 e3 e4 e5 hn1
    have bO := opbx_new wr kd k a1 n1 c1 q bt a2 n2 c2
    have p0 := bO.x0; have p1 := bO.x1; have p2 := bO.x2; have p3 := bO.x3; have p4 := bO.x4; have p5 := bO.x5
    have HE2 := Lib.hid (HE.out.trans (ext_al wr (.cells #[.int .i64 kd, .int .i64 k, .slice a1 n1 c1, .int .i64 q, .int .i64 bt, .slice a2 n2 c2] 46)))
    have Hwr := Lib.hid (show isWr ⟨kd, k, ctl, q, bt, cnd⟩ = (decide (0 < n1) && !(kd == 2 && n1 == 1)) by unfold isWr isCt; simp only [hn1])
    have HC := Lib.hid (fun wx => isControlled_any kd k a1 n1 c1 q bt a2 n2 c2 wx)
    clear hst bO hlt hg hL hn1 hin hi hE hk hln
    go_upto_region 4 with fail
    generalize wr.alloc (.cells #[.int .i64 kd, .int .i64 k, .slice a1 n1 c1, .int .i64 q, .int .i64 bt, .slice a2 n2 c2] 46) = U at *
    clear e0 e1 e2 e3 e4 e5
    by_cases hc : 0 < n1
    · have q2 : (0 : Int) < (n1 : Int) := by omega
      obtain ⟨B, hB⟩ : ∃ B, (kd == 2 && n1 == 1) = B := ⟨_, rfl⟩
      have hw : isWr ⟨kd, k, ctl, q, bt, cnd⟩ = !B := by rw [Hwr.out, decide_eq_true hc, hB]; rfl
      rw [hB] at HC
      cases B
      · have hs := Hst.out
        rw [hw, if_pos (by decide)] at hs
        have hr := Hr.out
        rw [hs] at hr
        have HF := Lib.hid (show r0 = 11 ∧ r1 = (i : Int) from ⟨(congrArg Prod.fst hr).symm, (congrArg Prod.snd hr).symm⟩)
        clear hs hr hw hB Hst Hwr
        go_wp2_with fail
        refine (HC.out U).mono ?_
        rintro e w6 ⟨rfl, hx6⟩
        have bz := HFt.out.ext (HE2.out.trans hx6); have x0 := bz.x0; have x1 := bz.x1; have g0 := bz.f 0; have g1 := bz.f 1; have HEz := Lib.hid (HE0.out.trans (HE2.out.trans hx6))
        clear bz
        go_wp2_with fail
        exact bodyPost_ret (v := .agg #[.int .i64 11, .int .i64 (i : Int)]) (by simp [results, Tryd.results33, go_sem, x0, x1]) rfl ⟨by rw [HF.out.1, HF.out.2], put2x HEz.out HwH.out _ _⟩
      · have hs := Hst.out
        rw [hw, if_neg (by decide)] at hs
        have Hs := Lib.hid hs
        clear hs hw hB Hst Hwr
        go_wp2_with fail
        refine (HC.out U).mono ?_
        rintro e w6 ⟨rfl, hx6⟩
        have HE6 := Lib.hid (HE2.out.trans hx6)
        clear hx6 p0 p1 p2 p3 p4 p5
        go_wp2_with fail
        go_roundg (n - (i + 1))
        case measure => have := Hk.out; have := Hlt.out; omega
        case rel => exact ⟨i + 1, rfl, Hlt.out, rfl, HE6.out, Hs.out⟩
    · have q2 : ¬ (0 : Int) < (n1 : Int) := by omega
      have q3 : decide ((0 : Int) < (n1 : Int)) = false := decide_eq_false q2
      have hw : isWr ⟨kd, k, ctl, q, bt, cnd⟩ = false := by rw [Hwr.out, decide_eq_false hc]; rfl
      have hs := Hst.out
      rw [hw, if_neg (by decide)] at hs
      have Hs := Lib.hid hs
      clear hs hw Hst Hwr HC hc
      go_wp2_with fail
      go_roundg (n - (i + 1))
      case measure => have := Hk.out; have := Hlt.out; omega
      case rel => exact ⟨i + 1, rfl, Hlt.out, rfl, HE2.out, Hs.out⟩

set_option maxRecDepth 100000 in
set_option maxHeartbeats 4000000 in
theorem reckoned_any (ops : List Gop) (N : Int) (ao : Option Addr) (n cp : Nat) (w : World) (h : OpsAt w ao n ops) (hn : n ≤ 4096) (hN1 : 1 ≤ N) (hN : N ≤ 12) :
    Calls Tryd.prog 34 #[.slice ao n cp, .int .i64 N] w fun e w' => e = .returned (.int .i64 (rckN N ops)) ∧ Ext w w' := by
  have HO := Lib.hid h; have Hn := Lib.hid hn; have Hl := Lib.hid h.1
  obtain ⟨R, hR⟩ : ∃ R, rckN N ops = R := ⟨_, rfl⟩
  rw [hR]
  have HR := Lib.hid hR
  obtain ⟨D, hD⟩ : ∃ D : Int, max (N - 2) 0 = D := ⟨_, rfl⟩
  have hDb : 0 ≤ D ∧ D ≤ 10 := by omega
  obtain ⟨N2, hN2⟩ : ∃ N2, N - 2 = N2 := ⟨_, rfl⟩
  have wN : IntKind.i64.wrap (N - 2) = N2 := by rw [IntKind.wrap_i64]; omega
  have wD : max N2 0 = D := by rw [← hN2]; exact hD
  have w3 : IntKind.i64.wrap (3 * D) = 3 * D := by rw [IntKind.wrap_i64]; omega
  have HDb := Lib.hid hDb; have HD := Lib.hid hD
  clear h hn hR hD hDb hN2 hN1 hN
  go_enter Tryd.func34, Tryd.ntmps34
  go_wp2_with fail
  go_loopg [5, 7, 12] n (fun kk s5 _ s12 wr => ∃ i : Nat, s12 = .int .i64 (i : Int) ∧ s5 = .int .i64 ((n : Int) + 3 * D * cntP isCt (ops.take i)) ∧ i ≤ n ∧ n - i = kk ∧ Ext w wr)
  case atStart => exact ⟨0, rfl, by simp [cntP], Nat.zero_le _, rfl, Ext.refl _⟩
  case round =>
    obtain ⟨i, rfl, rfl, hi, hk, hE⟩ := hrel
    have HE := Lib.hid hE; have Hk := Lib.hid hk
    by_cases hin : i = n
    · have q1 : ¬ (i : Int) < (n : Int) := by omega
      have HF := Lib.hid (show (n : Int) + 3 * D * cntP isCt (ops.take i) = R by rw [List.take_of_length_le (by have := Hl.out; omega), ← HR.out]; unfold rckN; rw [HD.out, Hl.out])
      clear hin hi hE hk
      go_wp2_with fail
      go_ret
      exact ⟨congrArg (fun b => Ending.returned (Value.int .i64 b)) HF.out, HE.out⟩
    have hlt : i < n := by omega
    have q1 : (i : Int) < (n : Int) := by omega
    have q0 : (0 : Int) ≤ (i : Int) := by omega
    have wk : IntKind.i64.wrap ((i : Int) + 1) = ((i + 1 : Nat) : Int) := by rw [IntKind.wrap_i64]; have := Hn.out; omega
    obtain ⟨g, hg⟩ : ∃ g, ops[i]? = some g := ⟨_, List.getElem?_eq_getElem (by have := Hl.out; omega)⟩
    obtain ⟨b, o, rfl⟩ := HO.out.some_of (by omega)
    obtain ⟨a1, n1, c1, a2, n2, c2, e0, e1, e2, e3, e4, e5, hL⟩ := ((HO.out.ext hE).at i g hg)
    have hst := take_gg hg
    have hn1 := hL.i1.1
    have bd := cntP_bound isCt (ops.take i)
    have bl : (ops.take i).length ≤ 4096 := by rw [List.length_take]; have := Hn.out; omega
    have hyes : isCt g = true → cntP isCt (ops.take (i + 1)) = cntP isCt (ops.take i) + 1 := fun e => by rw [hst]; exact cntP_yes e
    have hno : isCt g = false → cntP isCt (ops.take (i + 1)) = cntP isCt (ops.take i) := fun e => by rw [hst]; exact cntP_no e
    obtain ⟨C, hC⟩ : ∃ C, cntP isCt (ops.take i) = C := ⟨_, rfl⟩
    rw [hC] at hyes hno bd ⊢
    have hm : 0 ≤ D * C ∧ D * C ≤ 10 * 4096 := ⟨Int.mul_nonneg HDb.out.1 bd.1, Int.mul_le_mul HDb.out.2 (by omega) bd.1 (by decide)⟩
    have em : 3 * D * C = 3 * (D * C) := Int.mul_assoc _ _ _
    have em1 : 3 * D * (C + 1) = 3 * (D * C) + 3 * D := by rw [Int.mul_add, Int.mul_one, em]
    obtain ⟨S, hS⟩ : ∃ S, (n : Int) + 3 * D * C = S := ⟨_, rfl⟩
    have wc : IntKind.i64.wrap (S + 3 * D) = S + 3 * D := by have := HDb.out; have := Hn.out; rw [IntKind.wrap_i64]; omega
    have HSb := Lib.hid (show 0 ≤ S ∧ S ≤ 1000000 by have := Hn.out; omega)
    have HS1 := Lib.hid (show isCt g = true → (n : Int) + 3 * D * cntP isCt (ops.take (i + 1)) = S + 3 * D from fun e => by rw [hyes e, em1, ← hS, em]; omega)
    have HS0 := Lib.hid (show isCt g = false → (n : Int) + 3 * D * cntP isCt (ops.take (i + 1)) = S from fun e => by rw [hno e, hS])
    rw [hS]
    obtain ⟨kd, k, ctl, q, bt, cnd⟩ := g
    simp only at e0 e1 e2 e3 e4 e5 hn1
    have bO := opbx_new wr kd k a1 n1 c1 q bt a2 n2 c2
    have p0 := bO.x0; have p1 := bO.x1; have p2 := bO.x2; have p3 := bO.x3; have p4 := bO.x4; have p5 := bO.x5
    have HE2 := Lib.hid (HE.out.trans (ext_al wr (.cells #[.int .i64 kd, .int .i64 k, .slice a1 n1 c1, .int .i64 q, .int .i64 bt, .slice a2 n2 c2] 46)))
    have HC := Lib.hid (fun wx => isControlled_any kd k a1 n1 c1 q bt a2 n2 c2 wx)
    have Hct := Lib.hid (show isCt ⟨kd, k, ctl, q, bt, cnd⟩ = (kd == 2 && n1 == 1) by unfold isCt; simp only [hn1])
    obtain ⟨B, hB⟩ : ∃ B, (kd == 2 && n1 == 1) = B := ⟨_, rfl⟩
    rw [hB] at HC Hct
    have Hlt := Lib.hid hlt
    clear hst bd bl hyes hno hC bO hlt hg hL hn1 hin hi hE hk hm em em1 hS hB
    go_upto_region 5 with fail
    generalize wr.alloc (.cells #[.int .i64 kd, .int .i64 k, .slice a1 n1 c1, .int .i64 q, .int .i64 bt, .slice a2 n2 c2] 46) = U at *
    clear e0 e1 e2 e3 e4 e5
    cases B
    · have Hs := Lib.hid (HS0.out Hct.out)
      go_wp2_with fail
      refine (HC.out U).mono ?_
      rintro e w6 ⟨rfl, hx6⟩
      have HE6 := Lib.hid (HE2.out.trans hx6)
      clear hx6 p0 p1 p2 p3 p4 p5
      go_wp2_with fail
      go_roundg (n - (i + 1))
      case measure => have := Hk.out; have := Hlt.out; omega
      case rel => exact ⟨i + 1, rfl, by rw [Hs.out], Hlt.out, rfl, HE6.out⟩
    · have Hs := Lib.hid (HS1.out Hct.out)
      by_cases hneg : N2 < 0
      · have HDz := Lib.hid (show D = 0 by omega)
        go_wp2_with fail
        refine (HC.out U).mono ?_
        rintro e w6 ⟨rfl, hx6⟩
        have HE6 := Lib.hid (HE2.out.trans hx6)
        clear hx6 p0 p1 p2 p3 p4 p5
        go_wp2_with fail
        go_roundg (n - (i + 1))
        case measure => have := Hk.out; have := Hlt.out; omega
        case rel => exact ⟨i + 1, rfl, (by first | (rw [Hs.out]; done) | (rw [Hs.out]; refine congrArg (Value.int .i64) ?_; have := HSb.out; have := HDz.out; unfold wrap64; omega)), Hlt.out, rfl, HE6.out⟩
      · have HDn := Lib.hid (show N2 = D by omega)
        have w3n : IntKind.i64.wrap (3 * N2) = 3 * D := by have := HDb.out; rw [IntKind.wrap_i64]; omega
        have hz : decide (N2 < 0) = false := decide_eq_false hneg
        go_wp2_with fail
        refine (HC.out U).mono ?_
        rintro e w6 ⟨rfl, hx6⟩
        have HE6 := Lib.hid (HE2.out.trans hx6)
        clear hx6 p0 p1 p2 p3 p4 p5
        go_wp2_with fail
        go_roundg (n - (i + 1))
        case measure => have := Hk.out; have := Hlt.out; omega
        case rel => exact ⟨i + 1, rfl, (by first | (rw [Hs.out]; done) | (rw [Hs.out]; refine congrArg (Value.int .i64) ?_; have := HSb.out; have := HDn.out; have := HDb.out; unfold wrap64; omega)), Hlt.out, rfl, HE6.out⟩

set_option maxRecDepth 100000 in
set_option maxHeartbeats 4000000 in
theorem NotBasic_any (c : Gci) (ao : Option Addr) (n cp : Nat) (w : World) (h : OpsAt w ao n c.ops) (hn : n ≤ 4096) :
    Calls Tryd.prog 17 #[.agg #[.int .i64 c.qubits, .int .i64 c.bits, .slice ao n cp]] w fun e w' => e = .returned (.agg #[.int .i64 (bsF c.ops n 0).1, .int .i64 (bsF c.ops n 0).2]) ∧ Ext w w' := by
  obtain ⟨qb, bi, ops⟩ := c
  simp only at h ⊢
  obtain ⟨r, hr⟩ : ∃ r, bsF ops n 0 = r := ⟨_, rfl⟩
  obtain ⟨r0, r1⟩ := r
  rw [hr]
  simp only
  have Hr := Lib.hid hr; have Hn := Lib.hid hn; have Hl := Lib.hid h.1
  obtain ⟨H, hH⟩ : ∃ H, w.heap.size = H := ⟨_, rfl⟩
  obtain ⟨W0, hW0⟩ : ∃ W0, (w.alloc (.cells #[.int .i64 qb, .int .i64 bi, .slice ao n cp] 34)).alloc (.cells #[.int .i64 0, .int .i64 0] 27) = W0 := ⟨_, rfl⟩
  have E0 : Ext w W0 := by rw [← hW0]; exact (ext_al w _).trans (ext_al _ _)
  have bC : CiB W0 H qb bi ao n cp := by rw [← hW0, ← hH]; exact CiB.ext ⟨heap_alloc_new w _⟩ (ext_al _ _)
  have bF : FtB W0 (H + 1) 0 0 := ⟨by
    have := heap_alloc_new (w.alloc (.cells #[.int .i64 qb, .int .i64 bi, .slice ao n cp] 34)) (.cells #[.int .i64 0, .int .i64 0] 27)
    rw [← hW0, ← hH]
    simpa using this⟩
  have HE0 := Lib.hid E0; have HO := Lib.hid (h.ext E0); have HFt := Lib.hid bF; have HC := Lib.hid bC; have HW0 := Lib.hid hW0; have HH := Lib.hid hH
  have HwH := Lib.hid (show w.heap.size ≤ H + 1 by omega)
  clear h hn hr E0 bF bC hW0 hH
  go_enter Tryd.func17, Tryd.ntmps17
  go_upto_region 1 with fail
  rw [HW0.out, HH.out]
  clear HW0 HH
  go_wp2_with fail
  go_loopg [3] n (fun kk s3 wr => ∃ i : Nat, s3 = .int .i64 (i : Int) ∧ i ≤ n ∧ n - i = kk ∧ Ext W0 wr ∧ bsF ops n 0 = bsF ops (n - i) i)
  case atStart => exact ⟨0, rfl, Nat.zero_le _, rfl, Ext.refl _, rfl⟩
  case round =>
    obtain ⟨i, rfl, hi, hk, hE, hln⟩ := hrel
    have HE := Lib.hid hE; have Hk := Lib.hid hk
    have bC := HC.out.ext hE
    have v2 := bC.x2
    by_cases hin : i = n
    · subst hin
      have q1 : ¬ (i : Int) < (i : Int) := by omega
      have hr := Hr.out
      rw [hln, show i - i = 0 by omega, show bsF ops 0 i = ((0 : Int), (0 : Int)) from rfl] at hr
      have HF := Lib.hid (show r0 = 0 ∧ r1 = 0 from ⟨(congrArg Prod.fst hr).symm, (congrArg Prod.snd hr).symm⟩)
      have bz := HFt.out.ext hE; have x0 := bz.x0; have x1 := bz.x1; have g0 := bz.f 0; have g1 := bz.f 1; have HEz := Lib.hid (HE0.out.trans hE)
      clear hi hk hE hln hr bz bC
      go_wp2_with fail
      exact bodyPost_ret (v := .agg #[.int .i64 0, .int .i64 0]) (by simp [results, Tryd.results17, go_sem, x0, x1]) rfl ⟨by rw [HF.out.1, HF.out.2], put2x HEz.out HwH.out _ _⟩
    have hlt : i < n := by omega
    have Hlt := Lib.hid hlt
    have q1 : (i : Int) < (n : Int) := by omega
    have q0 : (0 : Int) ≤ (i : Int) := by omega
    have wk : IntKind.i64.wrap ((i : Int) + 1) = ((i + 1 : Nat) : Int) := by rw [IntKind.wrap_i64]; have := Hn.out; omega
    obtain ⟨g, hg⟩ : ∃ g, ops[i]? = some g := ⟨_, List.getElem?_eq_getElem (by have := Hl.out; omega)⟩
    obtain ⟨b, o, rfl⟩ := HO.out.some_of (by omega)
    obtain ⟨a1, n1, c1, a2, n2, c2, e0, e1, e2, e3, e4, e5, hL⟩ := ((HO.out.ext hE).at i g hg)
    have hn1 := hL.i1.1
    have hst := bsF_step ops i n hlt g hg
    rw [← hln] at hst
    obtain ⟨kd, k, ctl, q, bt, cnd⟩ := g
    simp only at e0 e1 e2 e3 e4 e5 hn1
    have HCl := Lib.hid (fun wx => RBasic_all kd k a1 n1 c1 q bt a2 n2 c2 wx)
    rw [wr_basic (k := k) (q := q) (bt := bt) (cnd := cnd) hn1] at HCl
    obtain ⟨B, hB⟩ : ∃ B, isWr ⟨kd, k, ctl, q, bt, cnd⟩ = B := ⟨_, rfl⟩
    have hst : bsF ops n 0 = if B = true then (11, (i : Int)) else bsF ops (n - (i + 1)) (i + 1) := by rw [← hB]; exact hst
    rw [hB] at HCl
    have Hst := Lib.hid hst
    clear hst bC hlt hg hL hn1 hin hi hE hk hln hB
    cases B
    · have Hs := Lib.hid (show bsF ops n 0 = bsF ops (n - (i + 1)) (i + 1) from Hst.out)
      go_wp2_with fail
      refine (HCl.out wr).mono ?_
      rintro e w6 ⟨rfl, hx6⟩
      have HE6 := Lib.hid (HE.out.trans hx6)
      clear hx6 e0 e1 e2 e3 e4 e5 v2
      go_wp2_with fail
      go_roundg (n - (i + 1))
      case measure => have := Hk.out; have := Hlt.out; omega
      case rel => exact ⟨i + 1, rfl, Hlt.out, rfl, HE6.out, Hs.out⟩
    · have hr := Hr.out
      rw [Hst.out, if_pos rfl] at hr
      have HF := Lib.hid (show r0 = 11 ∧ r1 = (i : Int) from ⟨(congrArg Prod.fst hr).symm, (congrArg Prod.snd hr).symm⟩)
      clear hr
      go_wp2_with fail
      refine (HCl.out wr).mono ?_
      rintro e w6 ⟨rfl, hx6⟩
      have HE6 := Lib.hid (HE.out.trans hx6)
      clear hx6 e0 e1 e2 e3 e4 e5 v2
      go_wp2_with fail
      refine (rfault_any 11 (i : Int) _).mono ?_
      rintro e wz ⟨rfl, hxz⟩
      have bz := HFt.out.ext (HE6.out.trans hxz); have x0 := bz.x0; have x1 := bz.x1; have g0 := bz.f 0; have g1 := bz.f 1; have HEz := Lib.hid (HE0.out.trans (HE6.out.trans hxz))
      clear bz
      go_wp2_with fail
      exact bodyPost_ret (v := .agg #[.int .i64 11, .int .i64 (i : Int)]) (by simp [results, Tryd.results17, go_sem, x0, x1]) rfl ⟨by rw [HF.out.1, HF.out.2], put2x HEz.out HwH.out _ _⟩
end Go.Proofs.YtlokfalkhgjlbaaDoor
namespace Go.Proofs.YtlokfalkhgjlbaaDoor
open Go.RowKit

/-- Fit's fault. -/
def fitF (c : Gci) (N : Int) (ls : List Lnk) : Int × Int :=
  if (chk c).1 ≠ 0 then chk c
  else if (devF N ls).1 ≠ 0 then devF N ls
  else if N < c.qubits then (36, 0)
  else if (bsF c.ops c.ops.length 0).1 ≠ 0 then bsF c.ops c.ops.length 0
  else if 4096 < rckN N c.ops then (21, 0)
  else (0, 0)
theorem ct_of_has {g : Gop} (h : isWr g = false) : isCt g = decide (0 < g.ctl.length) := by
  unfold isWr at h
  cases e : decide (0 < g.ctl.length)
  · have : ¬ 0 < g.ctl.length := of_decide_eq_false e
    unfold isCt
    have e2 : (g.ctl.length == 1) = false := by simp; omega
    rw [e2, Bool.and_false]
  · rw [e] at h
    simpa using h

end Go.Proofs.YtlokfalkhgjlbaaDoor
namespace Go.Proofs.YtlokfalkhgjlbaaDoor
open Go.RowKit

/-- The table of TrailingZeros16. -/
abbrev BruM (w : World) : Prop := TabAt 1 Lib.deBruijn32tab w
theorem bruM_ext {w w' : World} (h : BruM w) (he : Ext w w') : BruM w' := fun j hj => cell_ext (h j hj) he

set_option maxRecDepth 100000 in
set_option maxHeartbeats 2000000 in
theorem trailing16_any (x : Nat) (h0 : x ≠ 0) (hx : x < 65536) (w : World) (hT : BruM w) : Calls Tryd.prog 83 #[.int .u16 (x : Int)] w fun e w' => e = .returned (.int .i64 ((Lib.ctz 16 x : Nat) : Int)) ∧ w' = w := by
  obtain ⟨h1, h2⟩ := Lib.lowest_bit 16 x h0 hx
  obtain ⟨k, hk⟩ : ∃ k, Lib.ctz 16 x = k := ⟨_, rfl⟩
  rw [hk] at h1 h2 ⊢
  obtain ⟨h3, h4⟩ := Lib.deBruijn32_at k (by omega)
  have hP : 2 ^ k < 65536 := Nat.lt_of_lt_of_le (Nat.pow_lt_pow_right (by decide) h2) (by decide)
  have hc := hT (2 ^ k * 125613361 % 4294967296 / 134217728) h3
  rw [h4] at hc
  have ha := and_u16 hx (show 65536 - x < 65536 by omega)
  rw [show 65536 - x = 2 ^ 16 - x from rfl, h1] at ha
  have wn : IntKind.u16.wrap (-(x : Int)) = ((2 ^ 16 - x : Nat) : Int) := by
    rw [show IntKind.u16.wrap (-(x : Int)) = ((-(x : Int)) % 65536) from rfl]
    have : (2 ^ 16 - x : Nat) = 65536 - x := rfl
    rw [this]
    omega
  obtain ⟨P, hPP⟩ : ∃ P, 2 ^ k = P := ⟨_, rfl⟩
  rw [hPP] at ha hP hc h3
  have wc : IntKind.u32.wrap (P : Int) = (P : Int) := by
    rw [show IntKind.u32.wrap (P : Int) = ((P : Int) % 4294967296) from rfl]; omega
  have wm : IntKind.u32.wrap ((P : Int) * 125613361) = ((P * 125613361 % 4294967296 : Nat) : Int) := by
    rw [show IntKind.u32.wrap ((P : Int) * 125613361) = (((P : Int) * 125613361) % 4294967296) from rfl]; omega
  obtain ⟨Z, hZ⟩ : ∃ Z, P * 125613361 % 4294967296 = Z := ⟨_, rfl⟩
  rw [hZ] at wm hc h3
  obtain ⟨I, hI⟩ : ∃ I, Z / 134217728 = I := ⟨_, rfl⟩
  rw [hI] at hc h3
  have ws : (Z : Int) / 134217728 = (I : Int) := by omega
  have ws2 : (Z : Int) / 2 ^ 27 = (I : Int) := by rw [show (2 : Int) ^ 27 = 134217728 from by decide]; exact ws
  have q0 : (0 : Int) ≤ (I : Int) := by omega
  have q1 : (I : Int) < 32 := by have : I < 32 := h3; omega
  have wk : IntKind.i64.wrap (k : Int) = (k : Int) := by rw [IntKind.wrap_i64]; omega
  have qx : ((x : Int) == 0) = false := by simp; omega
  clear h1 h2 h4 hk hZ hI h0 hx hP hPP hT h3
  go_enter Tryd.func83, Tryd.ntmps83
  go_wp2_with fail
  go_ret
  exact ⟨rfl, rfl⟩
theorem ctz_bit {x : Nat} (h0 : x ≠ 0) (hx : x < 65536) : x.testBit (Lib.ctz 16 x) = true := by
  obtain ⟨h1, h2⟩ := Lib.lowest_bit 16 x h0 hx
  have h3 : (2 ^ Lib.ctz 16 x).testBit (Lib.ctz 16 x) = true := Nat.testBit_two_pow_self
  rw [← h1, Nat.testBit_and] at h3
  exact (Bool.and_eq_true_iff.1 h3).1

set_option maxRecDepth 100000 in
set_option maxHeartbeats 2000000 in
theorem toward_any (W : List Nat) (g f t K M : Nat) (w : World) (h : WebAt w g W) (_hOk : WebOk W M) (hf : f < 12) (ht : t < 12) (hK : bal W (2 ^ t) K &&& W.getD f 0 ≠ 0) (hmin : ∀ k, k < K → bal W (2 ^ t) k &&& W.getD f 0 = 0) (hT : BruM w) :
    Calls Tryd.prog 74 #[.pointer (some ⟨g, 0, none⟩), .int .i64 (f : Int), .int .i64 (t : Int)] w fun e w' => ∃ p : Nat, e = .returned (.int .i64 (p : Int)) ∧ (bal W (2 ^ t) K).testBit p = true ∧ lk W f p = true ∧ Ext w w' := by
  have hpt : 2 ^ t < 65536 := Nat.lt_of_lt_of_le (Nat.pow_lt_pow_right (by decide) ht) (by decide)
  have Hu := Lib.hid (show ∀ i, bal W (2 ^ t) i < 65536 from fun i => by
    induction i with
    | zero => exact hpt
    | succ i ih => exact widK_u16 h.lt ih 12)
  have hsh := shl_u16 ht
  have c0 := h.cell f hf
  have hv := h.lt f
  obtain ⟨V, hV⟩ : ∃ V, W.getD f 0 = V := ⟨_, rfl⟩
  rw [hV] at c0 hv hK hmin
  obtain ⟨PT, hPT⟩ : ∃ P, 2 ^ t = P := ⟨_, rfl⟩
  rw [hPT] at hsh hK hmin Hu ⊢
  have Hw := Lib.hid h; have Hmin := Lib.hid hmin; have HT := Lib.hid hT; have Hv := Lib.hid hv; have HK := Lib.hid hK; have HV := Lib.hid hV
  have q0 : (0 : Int) ≤ (f : Int) := by omega
  have q1 : (f : Int) < 12 := by omega
  have q2 : (0 : Int) ≤ (t : Int) := by omega
  clear h hpt hV hmin hT hv hK hPT _hOk
  go_enter Tryd.func74, Tryd.ntmps74
  go_wp2_with fail
  go_loopg [7] K (fun kk s7 wr => ∃ i : Nat, s7 = .int .u16 (bal W PT i : Nat) ∧ i ≤ K ∧ K - i = kk ∧ Ext w wr)
  case atStart => exact ⟨0, rfl, Nat.zero_le _, rfl, Ext.refl _⟩
  case round =>
    obtain ⟨i, rfl, hi, hk, hE⟩ := hrel
    have HE := Lib.hid hE; have Hk := Lib.hid hk
    have c1 := cell_ext c0 hE
    clear c0
    have ha := and_u16 (Hu.out i) Hv.out
    by_cases hin : i = K
    · subst hin
      have hz : bal W PT i &&& V ≠ 0 := HK.out
      have hb : bal W PT i &&& V < 65536 := Nat.and_lt_two_pow (n := 16) _ Hv.out
      have hbit := ctz_bit hz hb
      rw [Nat.testBit_and] at hbit
      obtain ⟨hb1, hb2⟩ := Bool.and_eq_true_iff.1 hbit
      have HTr := Lib.hid (trailing16_any (bal W PT i &&& V) hz hb wr (bruM_ext HT.out hE))
      obtain ⟨A, hA⟩ : ∃ A, bal W PT i &&& V = A := ⟨_, rfl⟩
      rw [hA] at ha HTr hb1 hb2 hz
      have qa : ((A : Int) == 0) = false := by simp; omega
      have Hb1 := Lib.hid hb1; have Hb2 := Lib.hid (show lk W f (Lib.ctz 16 A) = true by unfold lk; rw [HV.out]; exact hb2)
      obtain ⟨S, hS⟩ : ∃ S, bal W PT i = S := ⟨_, rfl⟩
      rw [hS] at ha ⊢
      clear hz hb hbit hb1 hb2 hA hi hk hE hS
      go_wp2_with fail
      refine HTr.out.mono ?_
      rintro e w2 ⟨rfl, rfl⟩
      go_wp2_with fail
      go_ret
      exact ⟨_, rfl, Hb1.out, Hb2.out, HE.out⟩
    have hlt : i < K := by omega
    have Hlt := Lib.hid hlt
    have hz := Hmin.out i hlt
    rw [hz] at ha
    have HC := Lib.hid (wider_any W g (bal W PT i) wr (Hw.out.ext hE) (Hu.out i))
    have Hnx := Lib.hid (show wid W (bal W PT i) = bal W PT (i + 1) from rfl)
    obtain ⟨S, hS⟩ : ∃ S, bal W PT i = S := ⟨_, rfl⟩
    rw [hS] at ha HC Hnx ⊢
    clear hz hi hk hE hin hlt hS
    go_wp2_with fail
    refine HC.out.mono ?_
    rintro e w2 ⟨rfl, hx⟩
    have HE2 := Lib.hid (HE.out.trans hx)
    clear hx HC c1
    go_wp2_with fail
    go_roundg (K - (i + 1))
    case measure => have := Hk.out; have := Hlt.out; omega
    case rel => exact ⟨i + 1, by rw [Hnx.out], Hlt.out, rfl, HE2.out⟩
end Go.Proofs.YtlokfalkhgjlbaaDoor
namespace Go.Proofs.YtlokfalkhgjlbaaDoor
open Go.RowKit

theorem opInfo : ∃ i0, Tryd.prog.info? 46 = some i0 ∧ i0.zero = some (.agg #[.int .i64 0, .int .i64 0, .slice none 0 0, .int .i64 0, .int .i64 0, .slice none 0 0]) ∧ i0.size = 6 ∧ i0.bytes = 80 := by
  obtain ⟨i0, hi, hz0, hz1, hz2⟩ := info_parts op_info
  exact ⟨i0, hi, hz0, hz1, hz2⟩
/-- The slots of a mover. -/
def mvC (W : List Nat) (s v : Value) : Array Value := ((W.map fun x : Nat => Value.int .u16 (x : Int)) ++ [s, v]).toArray
section
variable {W : List Nat} {s v : Value}
theorem mvC_web (h : W.length = 12) (q : Nat) (hq : q < 12) : (mvC W s v)[q]? = some (.int .u16 ((W.getD q 0 : Nat) : Int)) := by
  unfold mvC
  rw [List.getElem?_toArray, List.getElem?_append_left (by rw [List.length_map]; omega), List.getElem?_map, List.getD_eq_getElem?_getD, List.getElem?_eq_getElem (by omega)]
  rfl
theorem mvC_s (h : W.length = 12) : (mvC W s v)[12]? = some s := by
  unfold mvC
  rw [List.getElem?_toArray, List.getElem?_append_right (by rw [List.length_map]; omega), List.length_map, h]
  rfl
theorem mvC_v (h : W.length = 12) : (mvC W s v)[13]? = some v := by
  unfold mvC
  rw [List.getElem?_toArray, List.getElem?_append_right (by rw [List.length_map]; omega), List.length_map, h]
  rfl
theorem mvC_set (h : W.length = 12) (v' : Value) : (mvC W s v).setIfInBounds 13 v' = mvC W s v' := by
  unfold mvC
  rw [List.setIfInBounds_toArray, List.set_append_right _ _ (by rw [List.length_map]; omega), List.length_map, h]
  rfl
end
theorem iC_set (st : List Int) (i : Nat) (b : Int) : (iC st).toArray.setIfInBounds i (.int .i64 b) = (iC (st.set i b)).toArray := by
  unfold iC
  rw [List.setIfInBounds_toArray, List.map_set]

/-- A mover at work: its block, where qubits stand, the operations so far. -/
structure MvA (w0 w : World) (base Bm gs Q : Nat) (W : List Nat) (st : List Int) (v : Value) (ops : List Gop) : Prop where
  ext : Ext w0 w
  hB : w0.heap.size ≤ Bm
  hBb : Bm < base
  hg : w0.heap.size ≤ gs
  hgb : gs < base
  hs : base ≤ w.heap.size
  wl : W.length = 12
  wu : ∀ q, W.getD q 0 < 65536
  row : w.heap[Bm]? = some (.cells (mvC W (.slice (some ⟨gs, 0, none⟩) Q Q) v) 84 (0, 0))
  srow : w.heap[gs]? = some (.cells (iC st).toArray 3 (0, 0))
  len : st.length = Q
  ops : OpsN w base v ops
/-- What may have changed: the mover, where qubits stand, the row of operations; the rest is new. -/
structure MvX (Bm gs : Nat) (v v' : Value) (w w' : World) : Prop where
  size : w.heap.size ≤ w'.heap.size
  block : ∀ k, k < w.heap.size → k ≠ Bm → k ≠ gs → v.ownBlock ≠ some k → w'.heap[k]? = w.heap[k]?
  own : ∀ k, v'.ownBlock = some k → v.ownBlock = some k ∨ w.heap.size ≤ k
section
variable {w0 w w' : World} {base Bm gs Q : Nat} {W : List Nat} {st : List Int} {v v' v'' : Value} {ops : List Gop}
theorem MvX.refl (Bm gs : Nat) (v : Value) (w : World) : MvX Bm gs v v w w := ⟨Nat.le_refl _, fun _ _ _ _ _ => rfl, fun _ h => Or.inl h⟩
theorem MvX.trans {a b c : World} (h : MvX Bm gs v v' a b) (k : MvX Bm gs v' v'' b c) : MvX Bm gs v v'' a c :=
  ⟨Nat.le_trans h.size k.size, fun j hj h1 h2 h3 => (k.block j (Nat.lt_of_lt_of_le hj h.size) h1 h2 (fun e => by
    rcases h.own j e with e | e
    · exact h3 e
    · omega)).trans (h.block j hj h1 h2 h3), fun j hj => by
    rcases k.own j hj with e | e
    · exact h.own j e
    · exact Or.inr (Nat.le_trans h.size e)⟩
theorem MvX.of_ext (v : Value) (h : Ext w w') : MvX Bm gs v v w w' := ⟨h.size, fun k hk _ _ _ => h.block k hk, fun _ h => Or.inl h⟩
theorem MvA.ne (h : MvA w0 w base Bm gs Q W st v ops) : Bm ≠ gs := fun e => by
  have h1 := h.row
  rw [e, h.srow] at h1
  injection h1 with h1
  injection h1 with _ h1 _
  exact absurd h1 (by decide)
theorem MvA.lt (h : MvA w0 w base Bm gs Q W st v ops) : Bm < w.heap.size := (Array.getElem?_eq_some_iff.1 h.row).1
theorem MvA.slt (h : MvA w0 w base Bm gs Q W st v ops) : gs < w.heap.size := (Array.getElem?_eq_some_iff.1 h.srow).1
theorem MvA.grow (h : MvA w0 w base Bm gs Q W st v ops) (k : Ext w w') : MvA w0 w' base Bm gs Q W st v ops :=
  ⟨h.ext.trans k, h.hB, h.hBb, h.hg, h.hgb, Nat.le_trans h.hs k.size, h.wl, h.wu, (k.block _ h.lt).trans h.row, (k.block _ h.slt).trans h.srow, h.len, h.ops.ext k⟩
theorem MvA.web (h : MvA w0 w base Bm gs Q W st v ops) : WebAt w Bm W := ⟨h.wl, h.wu, fun q hq => by rw [cell_of_row w Bm q _ _ (0, 0) h.row]; exact mvC_web h.wl q hq⟩
theorem MvA.xs (h : MvA w0 w base Bm gs Q W st v ops) : w.cell? ⟨Bm, 12, none⟩ = some (.slice (some ⟨gs, 0, none⟩) Q Q) := by rw [cell_of_row w Bm 12 _ _ (0, 0) h.row]; exact mvC_s h.wl
theorem MvA.xv (h : MvA w0 w base Bm gs Q W st v ops) : w.cell? ⟨Bm, 13, none⟩ = some v := by rw [cell_of_row w Bm 13 _ _ (0, 0) h.row]; exact mvC_v h.wl
theorem MvA.f (h : MvA w0 w base Bm gs Q W st v ops) (o : Nat) : w.frozen? ⟨Bm, o, none⟩ = false := frozen_of_row w Bm o _ _ h.row
theorem MvA.fs (h : MvA w0 w base Bm gs Q W st v ops) (o : Nat) : w.frozen? ⟨gs, o, none⟩ = false := frozen_of_row w gs o _ _ h.srow
theorem MvA.at (h : MvA w0 w base Bm gs Q W st v ops) (i : Nat) (hi : i < Q) : w.cell? ⟨gs, i, none⟩ = some (.int .i64 (st.getD i 0)) := by
  rw [cell_of_row w gs i _ _ (0, 0) h.srow, List.getElem?_toArray]
  unfold iC
  rw [List.getElem?_map, List.getD_eq_getElem?_getD, List.getElem?_eq_getElem (by rw [h.len]; exact hi)]
  rfl
theorem MvA.sl (h : MvA w0 w base Bm gs Q W st v ops) : ∃ a c, v = .slice a ops.length c := by
  obtain ⟨xs, hx⟩ := h.ops
  rcases hx.own.2 with ⟨rfl, h0⟩ | ⟨g, cap, cur, rfl, _⟩
  · exact ⟨none, 0, by rw [h0]⟩
  · exact ⟨_, _, rfl⟩
/-- Blocks that are young enough stand. -/
theorem Iow.young {a : Option Addr} {n c : Nat} {l : List Int} (h : Iow w base a n c l) (hk : ∀ b, base ≤ b → b < w.heap.size → w'.heap[b]? = w.heap[b]?) : Iow w' base a n c l :=
  own_keep h fun g _ hb hg => hk g hb (Array.getElem?_eq_some_iff.1 hg).1
theorem OpsX.young {xs : List Value} (h : OpsX w base v ops xs) (hk : ∀ b, base ≤ b → b < w.heap.size → w'.heap[b]? = w.heap[b]?) : OpsX w' base v ops xs :=
  ⟨own_keep h.own fun g _ hb hg => hk g hb (Array.getElem?_eq_some_iff.1 hg).1, h.sep, h.row.map fun _ _ _ _ _ _ _ o => ⟨o.i1.young hk, o.i2.young hk, o.ne⟩⟩
/-- A qubit stands elsewhere. -/
theorem MvA.put (h : MvA w0 w base Bm gs Q W st v ops) (i : Nat) (b : Int) : MvA w0 (w.setCell ⟨gs, i, none⟩ (.int .i64 b)) base Bm gs Q W (st.set i b) v ops ∧ MvX Bm gs v v w (w.setCell ⟨gs, i, none⟩ (.int .i64 b)) := by
  have hO := only1 w gs i (.int .i64 b)
  have hne := h.ne
  refine ⟨⟨ext_only' h.ext hO h.hg, h.hB, h.hBb, h.hg, h.hgb, by rw [hO.size]; exact h.hs, h.wl, h.wu, (hO.block _ hne).trans h.row, ?_, by rw [List.length_set]; exact h.len, ?_⟩, ⟨by rw [hO.size]; exact Nat.le_refl _, fun k _ _ h2 _ => hO.block k h2, fun _ h => Or.inl h⟩⟩
  · have a := heap_setCell_same w gs i _ _ (.int .i64 b) h.srow
    rw [← iC_set]
    simpa using a
  · obtain ⟨xs, hx⟩ := h.ops
    exact ⟨xs, hx.young fun b hb _ => hO.block b (by have := h.hgb; omega)⟩
theorem MvA.older (h : MvA w0 w base Bm gs Q W st v ops) {k : Nat} (hk : v.ownBlock = some k) : base ≤ k ∧ k < w.heap.size ∧ ∃ cs fr, w.heap[k]? = some (.cells cs 46 fr) := by
  obtain ⟨xs, hx⟩ := h.ops
  obtain ⟨h1, cs, fr, h2⟩ := PtKind hx.own k hk
  exact ⟨h1, (Array.getElem?_eq_some_iff.1 h2).1, cs, fr, h2⟩
end

set_option maxRecDepth 100000 in
/-- One more operation. -/
theorem mv_append {w0 wA wC : World} {base Bm gs Q : Nat} {W : List Nat} {st : List Int} {v : Value} {ops : List Gop} (h : MvA w0 wA base Bm gs Q W st v ops) (hx : Ext wA wC) (ty : TypeId) {g : Gop} {a1 : Option Addr} {n1 c1 : Nat} {a2 : Option Addr} {n2 c2 : Nat} (hO : OpN wC wA.heap.size g a1 n1 c1 a2 n2 c2) (ad : Addr)
    (k2 : ∀ j u, ([.int .i64 g.kind, .int .i64 g.k, .slice a1 n1 c1, .int .i64 g.q, .int .i64 g.bit, .slice a2 n2 c2] : List Value)[j]? = some u → wC.cell? (ad.add j) = some u) (hm : ops.length ≤ 1000000) :
    ∃ a' c' w1, (Builtin.append_ #[32, 32] ty #[v, .slice (some ad) 1 1]).run Tryd.prog wC = .ok (.slice a' (ops.length + 1) c') w1 ∧ w1.heap[Bm]? = wC.heap[Bm]? ∧
      MvA w0 (w1.setCell ⟨Bm, 13, none⟩ (.slice a' (ops.length + 1) c')) base Bm gs Q W st (.slice a' (ops.length + 1) c') (ops ++ [g]) ∧ MvX Bm gs v (.slice a' (ops.length + 1) c') wA (w1.setCell ⟨Bm, 13, none⟩ (.slice a' (ops.length + 1) c')) := by
  obtain ⟨i0, hi, hz0, hz1, hz2⟩ := opInfo
  obtain ⟨xs, hX⟩ := h.ops
  have hC := h.grow hx
  have hXC := hX.ext hx
  obtain ⟨v', w1, e1, e2, e3, _, e5⟩ := run_append_own_at (P := Tryd.prog) wC base 32 ty 46 i0 _ 6 80 Tryd.underlying32 hi hz0 hz1 hz2 rfl (by decide) v ops.length xs hXC.own ad 1 1 _ rfl k2 (one_op _ _ _ _ _ _ _ _ _ _) (by unfold maxLen; omega) (by omega) hC.hs
  obtain ⟨a', c', hv'⟩ : ∃ a' c', v' = .slice a' (ops.length + 1) c' := by
    rcases e2.2 with ⟨rfl, h0⟩ | ⟨g, cap, cur, rfl, _⟩
    · omega
    · exact ⟨_, _, rfl⟩
  subst hv'
  have hkd : ∀ k, v.ownBlock = some k → base ≤ k ∧ k < wC.heap.size ∧ ∃ cs fr, wC.heap[k]? = some (.cells cs 46 fr) := fun k hk => hC.older hk
  have hbk : w1.heap[Bm]? = wC.heap[Bm]? := e3.block Bm hC.lt (fun e => by
    obtain ⟨_, _, cs, fr, hr⟩ := hkd Bm e.symm
    rw [hC.row] at hr
    injection hr with hr
    injection hr with _ hr _
    exact absurd hr (by decide))
  have hOn := only1 w1 Bm 13 (.slice a' (ops.length + 1) c')
  have hrow1 : w1.heap[Bm]? = some (.cells (mvC W (.slice (some ⟨gs, 0, none⟩) Q Q) v) 84 (0, 0)) := hbk.trans hC.row
  have hk : ∀ (b : Nat) (cur : Array Value) (fr : Nat × Nat), wC.heap[b]? = some (.cells cur 3 fr) → (w1.setCell ⟨Bm, 13, none⟩ (.slice a' (ops.length + 1) c')).heap[b]? = wC.heap[b]? := by
    intro b cur fr hb
    have hbl := (Array.getElem?_eq_some_iff.1 hb).1
    rw [hOn.block b (fun e => by
      rw [e, hC.row] at hb
      injection hb with hb
      injection hb with _ hb _
      exact absurd hb (by decide))]
    exact e3.block b hbl (fun e => by
      obtain ⟨_, _, cs, fr', hr⟩ := hkd b e.symm
      rw [hb] at hr
      injection hr with hr
      injection hr with _ hr _
      exact absurd hr (by decide))
  have hsz : wC.heap.size ≤ (w1.setCell ⟨Bm, 13, none⟩ (.slice a' (ops.length + 1) c')).heap.size := by rw [hOn.size]; exact e3.size
  refine ⟨a', c', w1, e1, hbk, ⟨?_, h.hB, h.hBb, h.hg, h.hgb, Nat.le_trans hC.hs hsz, h.wl, h.wu, ?_, ?_, h.len, ?_⟩, ?_⟩
  · have hx1 : Ext w0 w1 := grown_ext hC.ext e3 (fun k hk => by have := (hkd k hk).1; have := h.hB; have := h.hBb; omega)
    exact ext_only' hx1 hOn h.hB
  · have := heap_setCell_same w1 Bm 13 _ _ (.slice a' (ops.length + 1) c') hrow1
    rw [← mvC_set h.wl]
    simpa using this
  · exact (hk gs _ _ hC.srow).trans hC.srow
  · refine ⟨_, OpsX.snoc hXC ?_ hk (hX.old) h.hs (hO.keep hk)⟩
    refine own_keep e2 (fun b cur hb hbc => hOn.block b ?_)
    rintro rfl
    rw [hrow1] at hbc
    injection hbc with hbc
    injection hbc with _ hbc _
    exact absurd hbc (by decide)
  · refine ⟨Nat.le_trans hx.size hsz, fun k hk1 h1 _ h3 => ?_, fun k hk1 => ?_⟩
    · rw [hOn.block k h1, e3.block k (Nat.lt_of_lt_of_le hk1 hx.size) (fun e => h3 e.symm)]
      exact hx.block k hk1
    · rcases e5 with e | e
      · exact Or.inl (by rw [← e]; exact hk1)
      · rw [e] at hk1
        injection hk1 with hk1
        exact Or.inr (by have := hx.size; omega)
end Go.Proofs.YtlokfalkhgjlbaaDoor
namespace Go.Proofs.YtlokfalkhgjlbaaDoor
open Go.RowKit

/-- Where what stood at a or b stands behind an exchange. -/
def swp (a b x : Int) : Int := if x = a then b else if x = b then a else x
/-- An X with a control. -/
def xc (q c : Int) : Gop := ⟨2, 0, [c], q, 0, []⟩
def exO (a b : Int) : List Gop := [xc b a, xc a b, xc b a]
def evn (a b : Int) (i : Nat) : Int := if i % 2 = 0 then a else b
theorem exO_at (a b : Int) (i : Nat) (h : i < 3) : (exO a b).take (i + 1) = (exO a b).take i ++ [xc (evn b a i) (evn a b i)] := by
  match i, h with
  | 0, _ => rfl
  | 1, _ => rfl
  | 2, _ => rfl
theorem evn_next (a b : Int) (i : Nat) : evn a b (i + 1) = evn b a i := by
  unfold evn
  by_cases h : i % 2 = 0
  · rw [if_neg (by omega), if_pos h]
  · rw [if_pos (by omega), if_neg h]
/-- The control of an X, just made. -/
theorem opN_xc {w : World} {B b : Nat} (q c : Int) (h : w.heap[b]? = some (.cells #[.int .i64 c] 3 (0, 0))) (hb : B ≤ b) : OpN w B (xc q c) (some ⟨b, 0, none⟩) 1 1 none 0 0 :=
  ⟨own_fst h hb, ⟨rfl, Or.inl ⟨rfl, rfl⟩⟩, fun k _ e => by cases e⟩
/-- Some of them exchanged. -/
def swT (a b : Int) (st : List Int) (i : Nat) : List Int := (st.take i).map (swp a b) ++ st.drop i
theorem swT_zero (a b : Int) (st : List Int) : swT a b st 0 = st := by unfold swT; simp
theorem swT_end (a b : Int) (st : List Int) {i : Nat} (h : st.length ≤ i) : swT a b st i = st.map (swp a b) := by
  unfold swT
  rw [List.take_of_length_le h, List.drop_eq_nil_of_le h, List.append_nil]
theorem swT_at (a b : Int) (st : List Int) {i : Nat} (h : i < st.length) : (swT a b st i).getD i 0 = st.getD i 0 := by
  unfold swT
  rw [List.getD_eq_getElem?_getD, List.getElem?_append_right (by rw [List.length_map, List.length_take]; omega), List.length_map, List.length_take, show i - min i st.length = 0 by omega, List.getElem?_drop, Nat.add_zero, List.getD_eq_getElem?_getD]
theorem swT_set (a b : Int) (st : List Int) {i : Nat} (h : i < st.length) : (swT a b st i).set i (swp a b (st.getD i 0)) = swT a b st (i + 1) := by
  unfold swT
  have hl : ((st.take i).map (swp a b)).length = i := by rw [List.length_map, List.length_take]; omega
  rw [List.set_append_right _ _ (by omega), hl, Nat.sub_self, List.drop_eq_getElem_cons h, List.set_cons_zero, List.take_add_one, List.getElem?_eq_getElem h, Option.toList_some, List.map_append, List.append_assoc, List.getD_eq_getElem?_getD, List.getElem?_eq_getElem h]
  rfl
theorem swT_same (a b : Int) (st : List Int) {i : Nat} (h : i < st.length) (hs : swp a b (st.getD i 0) = st.getD i 0) : swT a b st i = swT a b st (i + 1) := by
  rw [← swT_set a b st h, hs]
  have hl : i < (swT a b st i).length := by unfold swT; simp; omega
  have e := swT_at a b st h
  rw [← e, List.getD_eq_getElem?_getD, List.getElem?_eq_getElem hl]
  exact (List.set_getElem_self hl).symm

set_option maxRecDepth 100000 in
set_option maxHeartbeats 4000000 in
theorem exchange_any (w0 w : World) (base Bm gs Q : Nat) (W : List Nat) (st : List Int) (v : Value) (ops : List Gop) (a b : Int) (h : MvA w0 w base Bm gs Q W st v ops) (hab : a ≠ b) (hQ : Q ≤ 12) (hl : ops.length ≤ 900000) :
    Calls Tryd.prog 73 #[.pointer (some ⟨Bm, 0, none⟩), .int .i64 a, .int .i64 b] w fun e w' => e = .returned (.tuple #[]) ∧ ∃ v', MvA w0 w' base Bm gs Q W (st.map (swp a b)) v' (ops ++ exO a b) ∧ MvX Bm gs v v' w w' := by
  have HA := Lib.hid h; have Hl := Lib.hid hl; have HQ := Lib.hid hQ; have Hab := Lib.hid hab
  clear h hl hQ hab
  go_enter Tryd.func73, Tryd.ntmps73
  go_wp2_with fail
  go_loopg [1, 2, 8] 3 (fun kk s1 s2 s8 wr => ∃ (i : Nat) (v' : Value), s8 = .int .i64 (i : Int) ∧ s1 = .int .i64 (evn a b i) ∧ s2 = .int .i64 (evn b a i) ∧ i ≤ 3 ∧ 3 - i = kk ∧ MvA w0 wr base Bm gs Q W st v' (ops ++ (exO a b).take i) ∧ MvX Bm gs v v' w wr)
  case atStart => exact ⟨0, v, rfl, rfl, rfl, by omega, rfl, by rw [List.take_zero, List.append_nil]; exact HA.out, MvX.refl _ _ _ _⟩
  case round =>
    obtain ⟨i, v1, rfl, rfl, rfl, hi, hk, hA, hX⟩ := hrel
    have Hk := Lib.hid hk; have HA1 := Lib.hid hA; have HX1 := Lib.hid hX
    by_cases hin : i = 3
    · subst hin
      have c12 := hA.xs
      have HA2 := Lib.hid (show MvA w0 wr base Bm gs Q W st v1 (ops ++ exO a b) from hA)
      have e1 : evn a b 3 = b := rfl
      have e2 : evn b a 3 = a := rfl
      rw [e1, e2]
      clear hi hk hA hX HA1 e1 e2 HA
      go_wp2_with fail
      clear c12
      go_loopg [6, 7, 31] Q (fun kk _ _ s31 wx => ∃ i : Nat, s31 = .int .i64 (i : Int) ∧ i ≤ Q ∧ Q - i = kk ∧ MvA w0 wx base Bm gs Q W (swT a b st i) v1 (ops ++ exO a b) ∧ MvX Bm gs v v1 w wx)
      case atStart => exact ⟨0, rfl, Nat.zero_le _, rfl, by rw [swT_zero]; exact HA2.out, HX1.out⟩
      case round =>
        have Hst := Lib.hid HA2.out.len
        clear HX1 HA2
        obtain ⟨i, rfl, hi, hk, hA, hX⟩ := hrel
        have Hk := Lib.hid hk; have HA1 := Lib.hid hA; have HX1 := Lib.hid hX
        by_cases hin : i = Q
        · subst hin
          have q1 : ¬ (i : Int) < (i : Int) := by omega
          have HF := Lib.hid (show MvA w0 wr base Bm gs i W (st.map (swp a b)) v1 (ops ++ exO a b) by have := hA; rw [swT_end a b st (by have := Hst.out; omega)] at this; exact this)
          clear hi hk hA hX
          go_wp2_with fail
          go_end0
          exact ⟨rfl, v1, HF.out, HX1.out⟩
        have hlt : i < Q := by omega
        have Hlt := Lib.hid hlt
        have q1 : (i : Int) < (Q : Int) := by omega
        have q0 : (0 : Int) ≤ (i : Int) := by omega
        have wk : IntKind.i64.wrap ((i : Int) + 1) = ((i + 1 : Nat) : Int) := by rw [IntKind.wrap_i64]; have := HQ.out; omega
        have hil : i < st.length := by have := Hst.out; omega
        have c0 := hA.at i hlt
        rw [swT_at a b st hil] at c0
        have c12 := hA.xs; have f0 := hA.fs i
        have hset := swT_set a b st hil
        have hsame := swT_same a b st hil
        obtain ⟨x, hx⟩ : ∃ x, st.getD i 0 = x := ⟨_, rfl⟩
        rw [hx] at c0 hset hsame
        have Hset := Lib.hid hset; have Hsame := Lib.hid hsame
        clear hset hsame hx hi hk hA hX hil hlt hin
        by_cases h1 : x = b
        · have e1 : swp a b x = a := by have := Hab.out; unfold swp; rw [if_neg (fun e => this (e.symm.trans h1)), if_pos h1]
          have HP := Lib.hid (HA1.out.put i a)
          have HS := Lib.hid (show (swT a b st i).set i a = swT a b st (i + 1) by rw [← Hset.out, e1])
          subst h1
          clear e1 Hset Hsame
          go_wp2_with fail
          go_roundg (Q - (i + 1))
          case measure => have := Hk.out; have := Hlt.out; omega
          case rel => exact ⟨i + 1, rfl, Hlt.out, rfl, by rw [← HS.out]; exact HP.out.1, HX1.out.trans HP.out.2⟩
        · have b1 : (x == b) = false := beq_eq_false_iff_ne.2 h1
          by_cases h2 : x = a
          · have e1 : swp a b x = b := by unfold swp; rw [if_pos h2]
            have HP := Lib.hid (HA1.out.put i b)
            have HS := Lib.hid (show (swT a b st i).set i b = swT a b st (i + 1) by rw [← Hset.out, e1])
            subst h2
            clear e1 Hset Hsame h1
            go_wp2_with fail
            go_roundg (Q - (i + 1))
            case measure => have := Hk.out; have := Hlt.out; omega
            case rel => exact ⟨i + 1, rfl, Hlt.out, rfl, by rw [← HS.out]; exact HP.out.1, HX1.out.trans HP.out.2⟩
          · have b2 : (x == a) = false := beq_eq_false_iff_ne.2 h2
            have HS := Lib.hid (show swT a b st i = swT a b st (i + 1) from Hsame.out (by unfold swp; rw [if_neg h2, if_neg h1]))
            clear h1 h2 Hset Hsame
            go_wp2_with fail
            go_roundg (Q - (i + 1))
            case measure => have := Hk.out; have := Hlt.out; omega
            case rel => exact ⟨i + 1, rfl, Hlt.out, rfl, by rw [← HS.out]; exact HA1.out, HX1.out⟩
    have hlt : i < 3 := by omega
    have Hlt := Lib.hid hlt
    have q1 : (i : Int) < 3 := by omega
    have wk : IntKind.i64.wrap ((i : Int) + 1) = ((i + 1 : Nat) : Int) := by rw [IntKind.wrap_i64]; omega
    have hex := exO_at a b i hlt
    have hen := evn_next a b i; have hen' := evn_next b a i
    obtain ⟨x, hx⟩ : ∃ x, evn a b i = x := ⟨_, rfl⟩
    obtain ⟨y, hy⟩ : ∃ y, evn b a i = y := ⟨_, rfl⟩
    rw [hx] at hen' hex
    rw [hy] at hen hex
    rw [hx, hy]
    obtain ⟨L, hL⟩ : ∃ L, (ops ++ (exO a b).take i).length = L := ⟨_, rfl⟩
    have hLb : L ≤ 900003 := by rw [← hL, List.length_append, List.length_take]; have := Hl.out; show _ + min i 3 ≤ _; omega
    obtain ⟨av, cv, hv⟩ := hA.sl
    rw [hL] at hv
    subst hv
    have EU := ext_al wr (.cells #[.int .i64 x] 3)
    have hr0 := heap_alloc_new wr (.cells #[.int .i64 x] 3)
    obtain ⟨U, hU⟩ : ∃ U, wr.alloc (.cells #[.int .i64 x] 3) = U := ⟨_, rfl⟩
    rw [hU] at EU hr0
    have EV := ext_al U (.cells #[.int .i64 2, .int .i64 0, .slice (some ⟨wr.heap.size, 0, none⟩) 1 1, .int .i64 y, .int .i64 0, .slice none 0 0] 46)
    obtain ⟨V, hV⟩ : ∃ V, U.alloc (.cells #[.int .i64 2, .int .i64 0, .slice (some ⟨wr.heap.size, 0, none⟩) 1 1, .int .i64 y, .int .i64 0, .slice none 0 0] 46) = V := ⟨_, rfl⟩
    rw [hV] at EV
    have hN := opN_xc y x ((EV.block _ (Array.getElem?_eq_some_iff.1 hr0).1).trans hr0) (Nat.le_refl _)
    obtain ⟨a9, c9, w9, r9, k9, A9, X9⟩ := mv_append hA (EU.trans EV) 32 hN ⟨U.heap.size, 0, none⟩ (by rw [← hV]; exact new_op U _ _ _ _ _ _ _ _ _ _ _) (by omega)
    rw [hL] at r9 A9 X9
    rw [← hV, ← hU, show (wr.alloc (.cells #[.int .i64 x] 3)).heap.size = wr.heap.size + 1 from by simp] at r9
    have c13 := hA.xv
    have hBl := hA.lt
    have d13 : w9.cell? ⟨Bm, 13, none⟩ = some (.slice av L cv) := (World.cell?_of_block (a := ⟨Bm, 13, none⟩) k9).trans (cell_ext c13 (EU.trans EV))
    have f13 : w9.frozen? ⟨Bm, 13, none⟩ = false := (World.frozen?_of_block (a := ⟨Bm, 13, none⟩) k9).trans ((hA.grow (EU.trans EV)).f 13)
    have Hr9 := Lib.hid r9; have HA9 := Lib.hid A9; have HX9 := Lib.hid (HX1.out.trans X9); have Hex := Lib.hid hex; have Hen := Lib.hid hen; have Hen' := Lib.hid hen'
    clear hex hen hen' hx hy hL hLb hN r9 A9 X9 hU hV EU EV hr0 hA hX hk hi hin hlt k9
    go_wp2_with (at_builtin; refine Lib.wpList_append_run _ rfl _ _ _ _ rfl _ _ rfl rfl _ _ Hr9.out ?_)
    go_roundg (3 - (i + 1))
    case measure => have := Hk.out; have := Hlt.out; omega
    case rel => exact ⟨i + 1, _, rfl, by rw [Hen.out], by rw [Hen'.out], Hlt.out, rfl, by rw [Hex.out, ← List.append_assoc]; exact HA9.out, HX9.out⟩
end Go.Proofs.YtlokfalkhgjlbaaDoor
namespace Go.Proofs.YtlokfalkhgjlbaaDoor
open Go.RowKit

/-- Where qubits stand: at unlike places. -/
structure StOk (st : List Int) (Q M : Nat) : Prop where
  len : st.length = Q
  lt : ∀ x ∈ st, 0 ≤ x ∧ x < (M : Int)
  nd : st.Nodup
/-- Exchanges over links. -/
inductive Mvs (W : List Nat) : List Int → List Gop → List Int → Nat → Prop where
  | nil (st : List Int) : Mvs W st [] st 0
  | snoc {st st' : List Int} {g : List Gop} {k : Nat} (f p : Nat) : Mvs W st g st' k → lk W f p = true → Mvs W st (g ++ exO (f : Int) (p : Int)) (st'.map (swp (f : Int) (p : Int))) (k + 1)
theorem Mvs.len {W : List Nat} {st st' : List Int} {g : List Gop} {k : Nat} (h : Mvs W st g st' k) : g.length = 3 * k := by
  induction h with
  | nil => rfl
  | snoc f p _ _ ih => rw [List.length_append, ih]; show 3 * _ + 3 = _; omega
theorem swp_inj {a b x y : Int} (h : swp a b x = swp a b y) : x = y := by
  unfold swp at h
  split at h <;> split at h <;> first | omega | (split at h <;> first | omega | (split at h <;> omega))
theorem swp_lt {a b x : Int} {M : Nat} (ha : 0 ≤ a ∧ a < (M : Int)) (hb : 0 ≤ b ∧ b < (M : Int)) (hx : 0 ≤ x ∧ x < (M : Int)) : 0 ≤ swp a b x ∧ swp a b x < (M : Int) := by
  unfold swp
  split
  · exact hb
  · split
    · exact ha
    · exact hx
theorem nodup_map {f : Int → Int} (hf : ∀ x y, f x = f y → x = y) : ∀ {l : List Int}, l.Nodup → (l.map f).Nodup
  | [], _ => by simp
  | a :: r, h => by
    rw [List.nodup_cons] at h
    rw [List.map_cons, List.nodup_cons]
    refine ⟨fun hm => ?_, nodup_map hf h.2⟩
    obtain ⟨x, hx, e⟩ := List.mem_map.1 hm
    exact h.1 (hf _ _ e ▸ hx)
theorem StOk.swap {st : List Int} {Q M : Nat} (h : StOk st Q M) {a b : Int} (ha : 0 ≤ a ∧ a < (M : Int)) (hb : 0 ≤ b ∧ b < (M : Int)) : StOk (st.map (swp a b)) Q M :=
  ⟨by rw [List.length_map]; exact h.len, fun x hx => by
    obtain ⟨y, hy, rfl⟩ := List.mem_map.1 hx
    exact swp_lt ha hb (h.lt y hy), nodup_map (fun _ _ => swp_inj) h.nd⟩
theorem StOk.at {st : List Int} {Q M : Nat} (h : StOk st Q M) {q : Nat} (hq : q < Q) : ∃ x : Nat, st.getD q 0 = (x : Int) ∧ x < M := by
  have hl := h.len
  have h1 := h.lt (st.getD q 0) (by rw [List.getD_eq_getElem?_getD, List.getElem?_eq_getElem (by omega)]; exact List.getElem_mem _)
  exact ⟨(st.getD q 0).toNat, by omega, by omega⟩
theorem StOk.inj {st : List Int} {Q M : Nat} (h : StOk st Q M) {q o : Nat} (hq : q < Q) (ho : o < Q) (e : st.getD q 0 = st.getD o 0) : q = o := by
  have hl := h.len
  have h1 : q < st.length := by omega
  have h2 : o < st.length := by omega
  rw [List.getD_eq_getElem?_getD, List.getD_eq_getElem?_getD, List.getElem?_eq_getElem h1, List.getElem?_eq_getElem h2] at e
  have key := List.pairwise_iff_getElem.1 h.nd
  apply Classical.byContradiction
  intro hn
  by_cases hlt : q < o
  · exact key q o h1 h2 hlt e
  · exact key o q h2 h1 (by omega) e.symm
theorem map_getD (f : Int → Int) (st : List Int) {q : Nat} (h : q < st.length) : (st.map f).getD q 0 = f (st.getD q 0) := by
  rw [List.getD_eq_getElem?_getD, List.getD_eq_getElem?_getD, List.getElem?_map, List.getElem?_eq_getElem h]; rfl
theorem least {P : Nat → Prop} : ∀ m, (∃ k, k ≤ m ∧ P k) → ∃ K, K ≤ m ∧ P K ∧ ∀ k, k < K → ¬ P k
  | 0, ⟨k, hk, hp⟩ => ⟨0, Nat.le_refl _, by have : k = 0 := by omega
                                            subst this; exact hp, fun k hk => by omega⟩
  | m + 1, ⟨k, hk, hp⟩ => by
    by_cases h : ∃ k, k ≤ m ∧ P k
    · obtain ⟨K, h1, h2, h3⟩ := least m h
      exact ⟨K, by omega, h2, h3⟩
    · have e : k = m + 1 := by
        by_cases e : k ≤ m
        · exact absurd ⟨k, e, hp⟩ h
        · omega
      subst e
      exact ⟨m + 1, Nat.le_refl _, hp, fun j hj hpj => h ⟨j, by omega, hpj⟩⟩
/-- The next step of a way. -/
theorem way_step {W : List Nat} {M f t m : Nat} (h : WebOk W M) (hne : f ≠ t) (hnl : lk W f t = false) (hf : (bal W (2 ^ t) (m + 1)).testBit f = true) :
    ∃ K, K + 1 ≤ m ∧ bal W (2 ^ t) (K + 1) &&& W.getD f 0 ≠ 0 ∧ ∀ k, k < K + 1 → bal W (2 ^ t) k &&& W.getD f 0 = 0 := by
  obtain ⟨k, p, h1, h2, h3⟩ := bal_step h hne m hf
  have hp : bal W (2 ^ t) k &&& W.getD f 0 ≠ 0 := fun e => by
    have : (bal W (2 ^ t) k &&& W.getD f 0).testBit p = true := by rw [Nat.testBit_and, h2]; exact h3
    rw [e] at this
    simp at this
  obtain ⟨K, g1, g2, g3⟩ := least (P := fun k => bal W (2 ^ t) k &&& W.getD f 0 ≠ 0) m ⟨k, h1, hp⟩
  match K, g1, g2, g3 with
  | 0, g1, g2, g3 =>
    exfalso
    refine g2 (Nat.eq_of_testBit_eq fun i => ?_)
    rw [Nat.testBit_and, Nat.zero_testBit]
    show ((2 ^ t).testBit i && _) = false
    by_cases e : t = i
    · subst e
      rw [show (W.getD f 0).testBit t = false from hnl, Bool.and_false]
    · rw [Nat.testBit_two_pow_of_ne e, Bool.false_and]
  | K + 1, g1, g2, g3 => exact ⟨K, g1, g2, fun k hk => Classical.byContradiction (g3 k hk)⟩

set_option maxRecDepth 100000 in
set_option maxHeartbeats 4000000 in
theorem bring_any (w0 w : World) (base Bm gs Q M : Nat) (W : List Nat) (st : List Int) (v : Value) (ops : List Gop) (q o : Nat) (h : MvA w0 w base Bm gs Q W st v ops) (hW : WebOk W M) (hc : Conn W M) (hS : StOk st Q M) (hq : q < Q) (ho : o < Q) (hqo : q ≠ o) (hQ : Q ≤ 12) (hT : BruM w0) (hl : ops.length ≤ 800000) :
    Calls Tryd.prog 54 #[.pointer (some ⟨Bm, 0, none⟩), .int .i64 (q : Int), .int .i64 (o : Int)] w fun e w' => e = .returned (.tuple #[]) ∧ ∃ v' st' g k, Mvs W st g st' k ∧ k ≤ M - 2 ∧ lk W (st'.getD q 0).toNat (st'.getD o 0).toNat = true ∧ StOk st' Q M ∧ MvA w0 w' base Bm gs Q W st' v' (ops ++ g) ∧ MvX Bm gs v v' w w' := by
  have HM12 := Lib.hid hW.n12
  obtain ⟨f0, ef0, hf0⟩ := hS.at hq
  obtain ⟨t0, et0, ht0⟩ := hS.at ho
  have hne0 : f0 ≠ t0 := fun e => hqo (hS.inj hq ho (by rw [ef0, et0, e]))
  have hM2 : 2 ≤ M := by omega
  have Hst := Lib.hid (show (bal W (2 ^ t0) (M - 2 + 1)).testBit f0 = true by rw [show M - 2 + 1 = M - 1 by omega]; exact conn_from hW hc ht0 f0 hf0)
  have HA := Lib.hid h; have HW := Lib.hid hW; have HS := Lib.hid hS; have HT := Lib.hid hT; have Hl := Lib.hid hl; have HQ := Lib.hid hQ; have Hef := Lib.hid (show st.getD q 0 = (f0 : Int) ∧ st.getD o 0 = (t0 : Int) ∧ f0 ≠ t0 from ⟨ef0, et0, hne0⟩)
  have p0 : (0 : Int) ≤ (q : Int) := by omega
  have p1 : (q : Int) < (Q : Int) := by omega
  have p2 : (0 : Int) ≤ (o : Int) := by omega
  have p3 : (o : Int) < (Q : Int) := by omega
  have Hqo := Lib.hid (show q < Q ∧ o < Q ∧ q ≠ o from ⟨hq, ho, hqo⟩)
  clear h hW hc hS hT hl hQ ef0 et0 hne0 hM2 hf0 ht0 hq ho hqo
  go_enter Tryd.func54, Tryd.ntmps54
  go_wp2_with fail
  go_loopg [6, 7] (M - 2) (fun kk _ _ wr => ∃ (v' : Value) (st' : List Int) (g : List Gop) (k f t : Nat), Mvs W st g st' k ∧ k + kk ≤ M - 2 ∧ StOk st' Q M ∧ st'.getD q 0 = (f : Int) ∧ st'.getD o 0 = (t : Int) ∧ f ≠ t ∧ (bal W (2 ^ t) (kk + 1)).testBit f = true ∧ MvA w0 wr base Bm gs Q W st' v' (ops ++ g) ∧ MvX Bm gs v v' w wr)
  case atStart => exact ⟨v, st, [], 0, f0, t0, Mvs.nil st, by omega, HS.out, Hef.out.1, Hef.out.2.1, Hef.out.2.2, Hst.out, by rw [List.append_nil]; exact HA.out, MvX.refl _ _ _ _⟩
  case round =>
    clear HA HS Hst Hef
    obtain ⟨v1, st1, g, k, f, t, hM, hk, hS, ef, et, hne, hb, hA, hX⟩ := hrel
    have hq12 := Hqo.out
    have c12 := hA.xs
    have cq := hA.at q hq12.1; have co := hA.at o hq12.2.1
    rw [ef] at cq
    rw [et] at co
    obtain ⟨f', ef', hfM⟩ := hS.at hq12.1
    obtain ⟨t', et', htM⟩ := hS.at hq12.2.1
    have hff : f' = f := by omega
    have htt : t' = t := by omega
    rw [hff] at hfM
    rw [htt] at htM
    have hf12 : f < 12 := by have := HM12.out; omega
    have ht12 : t < 12 := by have := HM12.out; omega
    have HM := Lib.hid hM; have Hk := Lib.hid hk; have HS := Lib.hid hS; have Hef := Lib.hid (And.intro ef (And.intro et hne)); have Hb := Lib.hid hb; have HA := Lib.hid hA; have HX := Lib.hid hX
    have HHas := Lib.hid (fun wx (hx : Ext wr wx) => has_any W Bm f t wx (hA.web.ext hx) hf12 ht12)
    obtain ⟨B, hB⟩ : ∃ B, lk W f t = B := ⟨_, rfl⟩
    rw [hB] at HHas
    have HB := Lib.hid hB; have Hlt := Lib.hid (show f < M ∧ t < M from ⟨hfM, htM⟩); have H12 := Lib.hid (show f < 12 ∧ t < 12 from ⟨hf12, ht12⟩)
    clear hM hk hS ef et hne hb hA hX ef' et' hff htt hfM htM hf12 ht12 hB hq12
    go_upto_region 0 with fail
    go_quiet (fail)
    have HEn := Lib.hid (ext_drewN wr nq)
    clear c12 cq co
    generalize wr.drewN nq = U at *
    cases B
    · obtain ⟨K, hK1, hK2, hK3⟩ := way_step HW.out Hef.out.2.2 HB.out Hb.out
      have hAU := HA.out.grow HEn.out
      have HTw := Lib.hid (toward_any W Bm f t (K + 1) M U hAU.web HW.out H12.out.1 H12.out.2 hK2 hK3 (bruM_ext HT.out hAU.ext))
      have HK1 := Lib.hid hK1; have HAU := Lib.hid hAU
      clear hK1 hK2 hK3 hAU
      go_wp2_with fail
      refine (HHas.out U HEn.out).mono ?_
      rintro e w2 ⟨rfl, rfl⟩
      go_wp2_with fail
      refine HTw.out.mono ?_
      rintro e w3 ⟨p, rfl, hp1, hp2, hx3⟩
      have hA3 := HAU.out.grow hx3
      have hfp : f ≠ p := (HW.out.lt f p hp2).2.2
      have htp : t ≠ p := fun e => by
        have h1 := HB.out
        rw [e, hp2] at h1
        cases h1
      have HEx := Lib.hid (exchange_any w0 w3 base Bm gs Q W st1 v1 (ops ++ g) (f : Int) (p : Int) hA3 (by omega) HQ.out (by
        rw [List.length_append, HM.out.len]
        have := Hl.out; have := Hk.out; have := HM12.out
        omega))
      have HX3 := Lib.hid (HX.out.trans ((MvX.of_ext (Bm := Bm) (gs := gs) v1 HEn.out).trans (MvX.of_ext v1 hx3)))
      have Hp := Lib.hid (And.intro hp1 (And.intro hp2 (And.intro hfp htp)))
      clear hp1 hp2 hfp htp hA3 hx3 HTw
      go_wp2_with fail
      refine HEx.out.mono ?_
      rintro e w4 ⟨rfl, v4, hA4, hX4⟩
      have HA4 := Lib.hid hA4; have HX4 := Lib.hid (HX3.out.trans hX4)
      clear hA4 hX4 HEx
      go_wp2_with fail
      go_roundg K
      case measure => have := HK1.out; omega
      case rel =>
        have hl1 := HS.out.len
        obtain ⟨hp1, hp2, hfp, htp⟩ := Hp.out
        obtain ⟨ef, et, hne⟩ := Hef.out
        have hpM := (HW.out.lt f p hp2).2.1
        refine ⟨v4, _, _, k + 1, p, t, HM.out.snoc f p hp2, by have := Hk.out; have := HK1.out; omega, HS.out.swap (by have := Hlt.out; omega) (by omega), ?_, ?_, fun e => htp e.symm, hp1, by rw [← List.append_assoc]; exact HA4.out, HX4.out⟩
        · rw [map_getD _ _ (by have := Hqo.out; omega), ef]; unfold swp; rw [if_pos rfl]
        · rw [map_getD _ _ (by have := Hqo.out; omega), et]; unfold swp; rw [if_neg (by omega), if_neg (by omega)]
    · have HF := Lib.hid (HA.out.grow HEn.out)
      have HXF := Lib.hid (HX.out.trans (MvX.of_ext (Bm := Bm) (gs := gs) v1 HEn.out))
      go_wp2_with fail
      refine (HHas.out U HEn.out).mono ?_
      rintro e w2 ⟨rfl, rfl⟩
      go_wp2_with fail
      refine bodyPost_ret (results_none rfl _ _ _) rfl ?_
      exact ⟨rfl, v1, st1, g, k, HM.out, by have := Hk.out; omega, by rw [Hef.out.1, Hef.out.2.1]; exact HB.out, HS.out, HF.out, HXF.out⟩
end Go.Proofs.YtlokfalkhgjlbaaDoor
