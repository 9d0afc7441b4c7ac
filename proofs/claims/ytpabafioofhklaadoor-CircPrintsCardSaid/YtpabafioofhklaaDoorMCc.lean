/-
  Operations in memory; controls; the first fault of an operation, as the program finds it.
-/
import Derived.Test.YtpabafioofhklaaDoorMCb

namespace Go.Proofs.YtpabafioofhklaaDoor
open Go.RowKit

/-- The lists of an operation. -/
structure OpL (w : World) (o : Gop) (a1 : Option Addr) (n1 c1 : Nat) (a2 : Option Addr) (n2 c2 : Nat) : Prop where
  i1 : IntsAt w a1 n1 o.ctl
  h1 : n1 ≤ c1
  m1 : c1 ≤ 9223372036854775807
  i2 : IntsAt w a2 n2 o.cnd
  h2 : n2 ≤ c2
  m2 : c2 ≤ 9223372036854775807
theorem OpL.ext {w w' : World} {o : Gop} {a1 : Option Addr} {n1 c1 : Nat} {a2 : Option Addr} {n2 c2 : Nat} (h : OpL w o a1 n1 c1 a2 n2 c2) (k : Ext w w') : OpL w' o a1 n1 c1 a2 n2 c2 := ⟨h.i1.ext k, h.h1, h.m1, h.i2.ext k, h.h2, h.m2⟩

/-- The cells of an operation in a variable. -/
structure OpBx (W : World) (g : Nat) (k0 k1 : Int) (a1 : Option Addr) (n1 c1 : Nat) (k3 k4 : Int) (a2 : Option Addr) (n2 c2 : Nat) : Prop where
  row : W.heap[g]? = some (.cells #[.int .i64 k0, .int .i64 k1, .slice a1 n1 c1, .int .i64 k3, .int .i64 k4, .slice a2 n2 c2] 45 (0, 0))
section
variable {W W' : World} {g : Nat} {k0 k1 : Int} {a1 : Option Addr} {n1 c1 : Nat} {k3 k4 : Int} {a2 : Option Addr} {n2 c2 : Nat}
theorem OpBx.lt (h : OpBx W g k0 k1 a1 n1 c1 k3 k4 a2 n2 c2) : g < W.heap.size := (Array.getElem?_eq_some_iff.1 h.row).1
theorem OpBx.ext (h : OpBx W g k0 k1 a1 n1 c1 k3 k4 a2 n2 c2) (k : Ext W W') : OpBx W' g k0 k1 a1 n1 c1 k3 k4 a2 n2 c2 := ⟨(k.block _ h.lt).trans h.row⟩
theorem OpBx.x0 (h : OpBx W g k0 k1 a1 n1 c1 k3 k4 a2 n2 c2) : W.cell? ⟨g, 0, none⟩ = some (.int .i64 k0) := by rw [cell_of_row W g 0 _ _ (0, 0) h.row]; rfl
theorem OpBx.x1 (h : OpBx W g k0 k1 a1 n1 c1 k3 k4 a2 n2 c2) : W.cell? ⟨g, 1, none⟩ = some (.int .i64 k1) := by rw [cell_of_row W g 1 _ _ (0, 0) h.row]; rfl
theorem OpBx.x2 (h : OpBx W g k0 k1 a1 n1 c1 k3 k4 a2 n2 c2) : W.cell? ⟨g, 2, none⟩ = some (.slice a1 n1 c1) := by rw [cell_of_row W g 2 _ _ (0, 0) h.row]; rfl
theorem OpBx.x3 (h : OpBx W g k0 k1 a1 n1 c1 k3 k4 a2 n2 c2) : W.cell? ⟨g, 3, none⟩ = some (.int .i64 k3) := by rw [cell_of_row W g 3 _ _ (0, 0) h.row]; rfl
theorem OpBx.x4 (h : OpBx W g k0 k1 a1 n1 c1 k3 k4 a2 n2 c2) : W.cell? ⟨g, 4, none⟩ = some (.int .i64 k4) := by rw [cell_of_row W g 4 _ _ (0, 0) h.row]; rfl
theorem OpBx.x5 (h : OpBx W g k0 k1 a1 n1 c1 k3 k4 a2 n2 c2) : W.cell? ⟨g, 5, none⟩ = some (.slice a2 n2 c2) := by rw [cell_of_row W g 5 _ _ (0, 0) h.row]; rfl
theorem OpBx.f (h : OpBx W g k0 k1 a1 n1 c1 k3 k4 a2 n2 c2) (o : Nat) : W.frozen? ⟨g, o, none⟩ = false := frozen_of_row W g o _ _ h.row
theorem opbx_new (w : World) (k0 k1 : Int) (a1 : Option Addr) (n1 c1 : Nat) (k3 k4 : Int) (a2 : Option Addr) (n2 c2 : Nat) : OpBx (w.alloc (.cells #[.int .i64 k0, .int .i64 k1, .slice a1 n1 c1, .int .i64 k3, .int .i64 k4, .slice a2 n2 c2] 45)) w.heap.size k0 k1 a1 n1 c1 k3 k4 a2 n2 c2 := ⟨heap_alloc_new w _⟩
end
theorem cell_ext {w w' : World} {b o : Nat} {v : Value} (h : w.cell? ⟨b, o, none⟩ = some v) (k : Ext w w') : w'.cell? ⟨b, o, none⟩ = some v :=
  (k.cell (p := ⟨b, o, none⟩) (World.block_lt_of_cell? w ⟨b, o, none⟩ h)).trans h
theorem ext_al (w : World) (o : Obj) : Ext w (w.alloc o) := (Below.refl _ _).alloc (Nat.le_refl _) o

set_option maxHeartbeats 2000000 in
theorem checkControls_any (k0 k1 : Int) (a1 : Option Addr) (n1 c1 : Nat) (q k4 : Int) (a2 : Option Addr) (n2 c2 : Nat) (l : List Int) (n : Int) (w : World) (h : IntsAt w a1 n1 l) (hnc : n1 ≤ c1) (hc : c1 ≤ 9223372036854775807) :
    Calls Tryd.prog 46 #[.agg #[.int .i64 k0, .int .i64 k1, .slice a1 n1 c1, .int .i64 q, .int .i64 k4, .slice a2 n2 c2], .int .i64 n] w fun e w' => e = .returned (.int .i64 (ctlCode q n [] l)) ∧ Ext w w' := by
  have HE := Lib.hid (ext_al w (.cells #[.int .i64 k0, .int .i64 k1, .slice a1 n1 c1, .int .i64 q, .int .i64 k4, .slice a2 n2 c2] 45))
  have bx := opbx_new w k0 k1 a1 n1 c1 q k4 a2 n2 c2
  have I0 := h.ext HE.out
  have m2 := bx.x2; have m3 := bx.x3
  have Hl := Lib.hid h.1
  have hab : n1 = 0 ∨ ∃ b o, a1 = some ⟨b, o, none⟩ := by
    rcases h.2 with h0 | ⟨b, o, e, _, hc⟩
    · exact Or.inl h0
    · exact Or.inr ⟨b, o, e⟩
  obtain ⟨r, hr⟩ : ∃ r, ctlCode q n [] l = r := ⟨_, rfl⟩
  rw [hr]
  have Hr := Lib.hid hr
  clear h hr bx
  go_enter Tryd.func46, Tryd.ntmps46
  go_wp2_with fail
  generalize w.alloc (.cells #[.int .i64 k0, .int .i64 k1, .slice a1 n1 c1, .int .i64 q, .int .i64 k4, .slice a2 n2 c2] 45) = W0 at *
  have HI0 := Lib.hid I0
  clear I0
  go_loopg [10] n1 (fun k s10 wr => wr = W0 ∧ ∃ i : Nat, s10 = .int .i64 (i : Int) ∧ i ≤ n1 ∧ n1 - i = k ∧ r = ctlCode q n (l.take i) (l.drop i))
  case atStart => exact ⟨rfl, 0, rfl, by omega, by omega, Hr.out.symm⟩
  case round =>
    obtain ⟨rfl, i, rfl, hi, hk, hri⟩ := hrel
    by_cases hin : i = n1
    · have h2 : ¬ (i : Int) < (n1 : Int) := by omega
      have hz : r = 0 := by rw [hri]; exact ctlCode_end q n l i (by rw [Hl.out]; omega)
      have HF := Lib.hid hz
      clear hri hz
      go_wp2_with fail
      go_ret
      exact ⟨congrArg (fun b => Ending.returned (Value.int .i64 b)) HF.out.symm, HE.out⟩
    · have h2 : (i : Int) < (n1 : Int) := by omega
      have h0 : (0 : Int) ≤ (i : Int) := by omega
      have hic : (i : Int) ≤ (c1 : Int) := by omega
      rcases hab with h | ⟨b, o, rfl⟩
      · omega
      obtain ⟨b', o', e, _, hcell⟩ := HI0.out.at (by omega)
      cases e
      have hci := hcell i (by omega)
      obtain ⟨y, hy⟩ : ∃ y, l.getD i 0 = y := ⟨_, rfl⟩
      rw [hy] at hci
      have hst := ctlCode_step q n l i (by rw [Hl.out]; omega)
      rw [← hri, hy] at hst
      have Hst := Lib.hid hst
      have HB := Lib.hid (isBelow_any y n wr)
      have HC := Lib.hid (Contains_any (some ⟨b, o, none⟩) i c1 (l.take i) y wr (HI0.out.take i (by omega)) (by omega) hc)
      obtain ⟨bl, hbl⟩ : ∃ x, below y n = x := ⟨_, rfl⟩
      rw [hbl] at HB
      clear hcell hy hri hst
      cases bl
      · have hz : r = 10 := by rw [Hst.out, if_pos hbl]
        have HF := Lib.hid hz
        clear hz Hst hbl
        go_wp2_with fail
        refine HB.out.mono ?_
        rintro e w1 ⟨rfl, rfl⟩
        go_wp2_with fail
        go_ret
        exact ⟨congrArg (fun b => Ending.returned (Value.int .i64 b)) HF.out.symm, HE.out⟩
      · have hst1 : r = if y = q ∨ y ∈ l.take i then 12 else ctlCode q n (l.take (i + 1)) (l.drop (i + 1)) := by rw [Hst.out, if_neg (by rw [hbl]; decide)]
        have Hst1 := Lib.hid hst1
        clear hst1 Hst hbl
        by_cases hyq : y = q
        · have hb : (y == q) = true := by simp [hyq]
          have hz : r = 12 := by rw [Hst1.out, if_pos (Or.inl hyq)]
          have HF := Lib.hid hz
          clear hz hyq Hst1
          go_wp2_with fail
          refine HB.out.mono ?_
          rintro e w1 ⟨rfl, rfl⟩
          go_wp2_with fail
          go_ret
          exact ⟨congrArg (fun b => Ending.returned (Value.int .i64 b)) HF.out.symm, HE.out⟩
        · have hb : (y == q) = false := by simp [hyq]
          have Hyq := Lib.hid hyq
          obtain ⟨bm, hbm⟩ : ∃ x, decide (y ∈ l.take i) = x := ⟨_, rfl⟩
          rw [hbm] at HC
          clear hyq
          cases bm
          · have hz : r = ctlCode q n (l.take (i + 1)) (l.drop (i + 1)) := by rw [Hst1.out, if_neg (fun h => h.elim Hyq.out (of_decide_eq_false hbm))]
            have HF := Lib.hid hz
            clear hz hbm Hst1
            go_wp2_with fail
            refine HB.out.mono ?_
            rintro e w1 ⟨rfl, rfl⟩
            go_wp2_with fail
            refine HC.out.mono ?_
            rintro e w1 ⟨rfl, rfl⟩
            go_wp2_with fail
            go_roundg (n1 - (i + 1))
            case measure => omega
            case rel => exact ⟨rfl, i + 1, by go_num, by omega, rfl, HF.out⟩
          · have hz : r = 12 := by rw [Hst1.out, if_pos (Or.inr (of_decide_eq_true hbm))]
            have HF := Lib.hid hz
            clear hz hbm Hst1
            go_wp2_with fail
            refine HB.out.mono ?_
            rintro e w1 ⟨rfl, rfl⟩
            go_wp2_with fail
            refine HC.out.mono ?_
            rintro e w1 ⟨rfl, rfl⟩
            go_wp2_with fail
            go_ret
            exact ⟨congrArg (fun b => Ending.returned (Value.int .i64 b)) HF.out.symm, HE.out⟩

end Go.Proofs.YtpabafioofhklaaDoor
