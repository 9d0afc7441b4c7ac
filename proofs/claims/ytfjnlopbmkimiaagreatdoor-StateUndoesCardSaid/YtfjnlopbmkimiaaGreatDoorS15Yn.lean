/-
  The program: mix. The program: side, drop. The program: a gate is done (do). A slice of ints that grows by one: its block holds ints alone.
-/
import Derived.Test.YtfjnlopbmkimiaaGreatDoorProg
import Derived.Test.YtfjnlopbmkimiaaGreatDoorRows
import Derived.BigQuiet
import Derived.Deep.AppendLies
import Derived.Deep.Cut
import Derived.Deep.CutRange
import Derived.Deep.LoopGhost
import Derived.Deep.MidRow
import Derived.Deep.QuietTactic
import Derived.Deep.RegionHeld3
import Derived.Ground.Names2Prog
import Derived.Laws.Bits64b
import Derived.Laws.CopyOwn
import Derived.Laws.IdiomCopy
import Derived.Laws.ResultCell
import Derived.Laws.Rows
import Derived.Lib.AppendIntMem
import Derived.Lib.AppendStr
import Derived.Lib.BitFns
import Derived.Lib.Hide
import Derived.Lib.ItoaMem
import Derived.Lib.ItoaNum
import Derived.Lib.Strings
import Derived.Lib.TrailingZeros
import Derived.LoopIn
import Derived.LoopNIn
import Derived.OrdersHeld
import Derived.OrdersIn
import Derived.OwnWalk
import Derived.OwnWalkIn
import Derived.ProofKit
import Derived.RangeFuncBound
import Derived.RangeFuncCalls
import Derived.RangeFuncFrom
import Derived.RangeFuncLeaves
import Derived.RegionTactic
import Derived.Shelf.Abstract
import Derived.Shelf.Bits.Mul64
import Derived.Shelf.LaysM
import Derived.Shelf.Slices.SearchI
import Derived.Shelf.Small.Bits
import Derived.Shelf.Small.Wraps
import Derived.Shelf.Spec.BitsCarry
import Derived.Shelf.Spec.TrailingZeros
import Derived.Shelf.Strconv.Itoa0
import Derived.Shelf.Strconv.Itoa1
import Derived.Shelf.Strconv.Itoa2
import Derived.Shelf.Strconv.Itoa3
import Derived.Shelf.Strings.Builder1
import Derived.Shelf.Strings.BuilderF
import Derived.Shelf.Strings.BuilderK
import Derived.TacticsInMore
import Derived.WalkKit
import Derived.WalkLawsBesides
import Derived.WalkSpells
import Derived.Test.YtfjnlopbmkimiaaGreatDoorS00Mem
import Derived.Test.YtfjnlopbmkimiaaGreatDoorShelf
import Derived.Test.YtfjnlopbmkimiaaGreatDoorS02ShiftI
import Derived.Test.YtfjnlopbmkimiaaGreatDoorS03GuessD
import Derived.Test.YtfjnlopbmkimiaaGreatDoorS04IntB
import Derived.Test.YtfjnlopbmkimiaaGreatDoorS05IntD
import Derived.Test.YtfjnlopbmkimiaaGreatDoorS06GcB
import Derived.Test.YtfjnlopbmkimiaaGreatDoorS07Rg
import Derived.Test.YtfjnlopbmkimiaaGreatDoorS08ZC
import Derived.Test.YtfjnlopbmkimiaaGreatDoorS09Bw
import Derived.Test.YtfjnlopbmkimiaaGreatDoorS10TxT
import Derived.Test.YtfjnlopbmkimiaaGreatDoorS11Xo
import Derived.Test.YtfjnlopbmkimiaaGreatDoorS12Xm
import Derived.Test.YtfjnlopbmkimiaaGreatDoorS13Yg
import Derived.Test.YtfjnlopbmkimiaaGreatDoorS14Rz
namespace Go.Proofs.YtfjnlopbmkimiaaGreatDoor
open Go.RowKit Go.Shelf
attribute [local go_sem] Oper.semAt_some

set_option maxRecDepth 100000 in
set_option maxHeartbeats 2000000 in
theorem mix_any (b n cp c q : Nat) (s : Nat → Nm) (N : Nat) (w : World) (h : WvA w b n s N) (hn : n ≤ 4096) (hc : c < 4096) (hq : q < 4096) (hN : N ≤ 90000) (hbr : Bru w) (hin : ∀ x, x < n → x ||| q < n) (hne : ∀ x, x &&& (c ||| q) = c → x ≠ x ||| q) :
    Calls Tryz.prog 120 #[.slice (some ⟨b, 0, none⟩) n cp, .int .i64 (c : Int), .int .i64 (q : Int)] w fun e w' => (∃ v, e = .returned v) ∧ WvA w' b n (miS c q n s) (N + 4096) ∧ Chg b w w' := by
  obtain ⟨H, hH⟩ : ∃ H, w.heap.size = H := ⟨_, rfl⟩
  have hbH : b < H := by rw [← hH]; exact h.at'.lt
  obtain ⟨W1, hW1⟩ : ∃ W1, ((w.alloc (.cells #[.slice (some ⟨b, 0, none⟩) n cp] 66)).alloc (.cells #[.int .i64 (q : Int)] 3)) = W1 := ⟨_, rfl⟩
  have E1 : Ext w W1 := by rw [← hW1]; exact (ext_alloc _ _).trans (ext_alloc _ _)
  have z1 : W1.cell? ⟨H, 0, none⟩ = some (.slice (some ⟨b, 0, none⟩) n cp) := by rw [← hW1, ← hH]; exact old1 (new1 _ _ _) _
  have z2 : W1.cell? ⟨H + 1, 0, none⟩ = some (.int .i64 (q : Int)) := by
    have := new1 (w.alloc (.cells #[.slice (some ⟨b, 0, none⟩) n cp] 66)) (.int .i64 (q : Int)) 3
    rw [World.size_alloc] at this
    rw [← hW1, ← hH]; exact this
  have sz1 : H + 1 < W1.heap.size := by rw [← hW1, ← hH]; simp
  have HW1 := Lib.hid hW1; have HH := Lib.hid hH
  have hf4 : c ||| q < 4096 := Nat.or_lt_two_pow (n := 12) hc hq
  clear hW1 hH
  refine (callsIn_wide (n := 3)).1 ?_
  refine callsIn_of_wp_marks Tryz.func120 rfl trivial ?_ rfl
  simp only [Tryz.ntmps120, List.size_toArray, List.length_cons, List.length_nil, Nat.reduceAdd, Nat.reduceSub, Array.replicate_succ, Array.replicate_zero, List.push_toArray, List.append_toArray, List.nil_append, List.cons_append]
  refine wpIn_wide.2 ?_
  go_upto_region 1 with fail
  rw [HW1.out, HH.out]
  go_wp2_with fail
  refine (states_any (some ⟨b, 0, none⟩) n cp c q W1 hc hq).mono ?_
  rintro e U ⟨Bo, Bw, Bf, rfl, EU, c1, c2, c3, g1, g2, g3⟩
  have hU : WvA U b n s N := (h.ext E1).ext EU
  have y1 := (EU.cell (p := ⟨H, 0, none⟩) (show H < W1.heap.size by omega)).trans z1
  have y2 := (EU.cell (p := ⟨H + 1, 0, none⟩) (show H + 1 < W1.heap.size by omega)).trans z2
  go_wp2_with fail
  refine wpIn_wide.1 (range_states (m := 3) (fun s x => up2 s x (lw (nHf (nAdd (s x) (s (x ||| q))))) (x ||| q) (lw (nHf (nAdd (s x) (nNeg (s (x ||| q))))))) rfl (by decide) (and_or_left c q) hn hf4 ⟨by omega, g1.2⟩ ⟨by omega, g2.2⟩ ⟨by omega, g3.2⟩ c1 c2 c3 hU rfl
    (fun x => { tmps := #[.slice (some ⟨b, 0, none⟩) n cp, .int .i64 (c : Int), .int .i64 (q : Int), .pointer (some ⟨H, 0, none⟩), undef, .pointer (some ⟨H + 1, 0, none⟩), .int .i64 (x : Int), undef, undef, .slice (some ⟨b, 0, none⟩) n cp, .int .i64 (c : Int), .int .i64 (q : Int), .func (.func 160) #[] #[.pointer (some ⟨Bo, 0, none⟩), .pointer (some ⟨Bw, 0, none⟩), .pointer (some ⟨Bf, 0, none⟩)], .int .i64 (x : Int), undef, undef, undef, undef, undef, undef, undef, undef, undef, undef, undef, undef, undef, undef, undef, undef, undef, undef, undef, undef, undef, undef, undef, undef, undef, undef, undef, undef, undef, undef, undef, undef, undef, undef, undef, undef, undef, undef, undef, undef], defers := [] }) ?assign ?body ?done)
  case assign =>
    intro l x W K hK
    gi_wp2
    exact hK
  case done =>
    intro D W hD hW hC hK
    go_wp2_with fail
    refine ⟨by simp, .inl ⟨_, _, rfl, run_takeDeferred hK, ?_⟩⟩
    obtain ⟨h1, h2⟩ := fin_wave hW hC hD hK
    exact ⟨_, results_none rfl _ _ _, ⟨_, rfl⟩, h1, (Chg.of_ext (E1.trans EU)).trans h2⟩
  case body =>
    intro l x s' N' W hx hxf hW hC hN'
    have x1 := hC.cell (show H ≠ b by omega) y1
    have x2 := hC.cell (show H + 1 ≠ b by omega) y2
    obtain ⟨p, y0, fz, hp⟩ := hW.at'.get hx
    obtain ⟨y, hy⟩ : ∃ y, x ||| q = y := ⟨_, rfl⟩
    have hyn : y < n := by rw [← hy]; exact hin x hx
    have hxy : x ≠ y := by rw [← hy]; exact hne x hxf
    have ho8 : bits .or .i64 (x : Int) (q : Int) = (y : Int) := by rw [or_i64 x q (by omega) (by omega), hy]
    obtain ⟨p', y0', fz', hp'⟩ := hW.at'.get hyn
    rw [hy]
    have q0 : (0 : Int) ≤ (x : Int) := by omega
    have q1 : (x : Int) < (n : Int) := by omega
    have r0 : (0 : Int) ≤ (y : Int) := by omega
    have r1 : (y : Int) < (n : Int) := by omega
    have bne : H ≠ b ∧ H + 1 ≠ b := by omega
    have hN4 : N' ≤ 94096 := by omega
    have hbW : Bru W := (bru_ext hbr (E1.trans EU)).far hC hU.at'
    have lbb : b < W.heap.size := hW.at'.lt
    have HW := Lib.hid hW; have Hx := Lib.hid hx; have Hyn := Lib.hid hyn; have Hxy := Lib.hid hxy; have Hbne := Lib.hid bne; have HN := Lib.hid hN4; have HB := Lib.hid hbW; have Hlbb := Lib.hid lbb
    clear hW hx hxf hC hN' y1 y2 c1 c2 c3 g1 g2 g3 hU EU z1 z2 E1 h hn hc hq hN hbr hbH sz1 HW1 HH hin hne hf4 hy hyn hxy bne hN4 hbW lbb
    have lH := World.block_lt_of_cell? W ⟨H, 0, none⟩ x1
    have lK := World.block_lt_of_cell? W ⟨H + 1, 0, none⟩ x2
    refine wpIn_block (wpIn_seq ?_)
    refine wpIn_mono (Q := fun e a' w' => (e = .normal ∧ W = w' ∧ ∃ u14 u15 u16 u17 u18 u19 u20 u21 u22 u23 u24 u25 u26 u27 : Value, a' = ⟨#[.slice (some ⟨b, 0, none⟩) n cp, .int .i64 (c : Int), .int .i64 (q : Int), .pointer (some ⟨H, 0, none⟩), undef, .pointer (some ⟨H + 1, 0, none⟩), .int .i64 (x : Int), undef, undef, .slice (some ⟨b, 0, none⟩) n cp, .int .i64 (c : Int), .int .i64 (q : Int), .func (.func 160) #[] #[.pointer (some ⟨Bo, 0, none⟩), .pointer (some ⟨Bw, 0, none⟩), .pointer (some ⟨Bf, 0, none⟩)], .int .i64 (x : Int), u14, u15, u16, u17, u18, u19, u20, u21, u22, u23, u24, u25, u26, u27, undef, undef, undef, undef, undef, undef, undef, undef, undef, undef, undef, undef, undef, undef, undef, undef, undef, undef, undef, undef, undef, undef, undef, undef, undef, undef], []⟩) ∨ (e = .exit 1 ∧ W = w' ∧ s' x = nZ ∧ s' y = nZ)) ?_ ?_
    · refine wpIn_seq (region_round (by rfl) (then_shut (fun ⟨_, _, h⟩ => by rcases h with ⟨h, _⟩ | ⟨h, _⟩ <;> cases h)) ?_)
      rcases hp with ⟨rfl, hz⟩ | ⟨g, c0, rfl, t1, t2, t3⟩
      · rcases hp' with ⟨rfl, hz'⟩ | ⟨g', c0', rfl, t1, t2, t3⟩
        · have Hz := Lib.hid hz; have Hz' := Lib.hid hz'
          clear hz hz'
          go_wp2_with fail
          refine wpIn_cond_true rfl (wpIn_exit ?_)
          exact Or.inr ⟨rfl, rfl, Hz.out, Hz'.out⟩
        · clear t1 t2 t3 hz
          go_wp2_with fail
          refine wpIn_cond_false rfl (wpIn_skip ?_)
          exact Or.inl ⟨rfl, rfl, _, _, _, _, _, _, _, _, _, _, _, _, _, _, rfl⟩
      · clear t1 t2 t3 hp'
        go_wp2_with fail
        refine wpIn_cond_false rfl (wpIn_skip ?_)
        exact Or.inl ⟨rfl, rfl, _, _, _, _, _, _, _, _, _, _, _, _, _, _, rfl⟩
    intro e a' w' hq'
    rcases hq' with ⟨rfl, rfl, u14, u15, u16, u17, u18, u19, u20, u21, u22, u23, u24, u25, u26, u27, rfl⟩ | ⟨rfl, rfl, hz, hz'⟩
    rotate_left 1
    · show rndQ b n _ (N' + 1) W .normal a' W
      refine ⟨?_, Chg.refl _ _⟩
      have : up2 s' x (lw (nHf (nAdd (s' x) (s' y)))) y (lw (nHf (nAdd (s' x) (nNeg (s' y))))) = s' := by
        rw [hz, hz', neg_z, lw_z hf_z]
        funext t
        unfold up2
        by_cases e : t = x
        · rw [if_pos e, e, hz]
        · rw [if_neg e]
          by_cases e' : t = y
          · rw [if_pos e', e', hz']
          · rw [if_neg e']
      rw [this]
      exact HW.out.le (Nat.le_succ _)
    clear hp hp' fz fz'
    show Code.wpIn _ _ _ _ _ _ _
    refine wpIn_seq ?_
    have HAt1 := Lib.hid (fun (wx : World) (hx : Ext W wx) => at_any s' n b cp x _ _ wx (HW.out.at'.ext hx) Hx.out)
    have HAt2 := Lib.hid (fun (wx : World) (hx : Ext W wx) => at_any s' n b cp y _ _ wx (HW.out.at'.ext hx) Hyn.out)
    have he0 : Ext W W.drew := Below.drew (Ext.refl _)
    have HS : ∀ w', Ext W w' → w'.cell? ⟨H, 0, none⟩ = some (.slice (some ⟨b, 0, none⟩) n cp) ∧ w'.cell? ⟨H + 1, 0, none⟩ = some (.int .i64 (q : Int)) := fun w' hx => ⟨cellKeep hx lH x1, cellKeep hx lK x2⟩
    refine region_round_any (by kernel_rfl) (by rfl) (then_shut rnd_shut) (wpAny_of_held (S := fun w' => w'.cell? ⟨H, 0, none⟩ = some (.slice (some ⟨b, 0, none⟩) n cp) ∧ w'.cell? ⟨H + 1, 0, none⟩ = some (.int .i64 (q : Int))) _ _ _ _ ?_)
    generalize hops : (#[_, _, _, _, _, _, _, _, _, _, _, _] : Array Oper) = ops
    have hA0 : IsAlloc Tryz.prog ops 8 7 78 zero9 := by
      subst hops
      exact ⟨_, rfl, rfl, fun _ => rfl, fun _ _ => by kernel_rfl⟩
    have hA1 : IsAlloc Tryz.prog ops 9 8 78 zero9 := by
      subst hops
      exact ⟨_, rfl, rfl, fun _ => rfl, fun _ _ => by kernel_rfl⟩
    subst hops
    refine (Flo2.start (W0 := W) (ty := 78) (z := zero9) (ty' := 78) (z' := zero9) (l := (fun p q => #[false, false, false, false, false, false, false, false, p, q, false, false])) (fr := (fun t t' => ⟨#[.slice (some ⟨b, 0, none⟩) n cp, .int .i64 (c : Int), .int .i64 (q : Int), .pointer (some ⟨H, 0, none⟩), undef, .pointer (some ⟨H + 1, 0, none⟩), .int .i64 (x : Int), t, t', .slice (some ⟨b, 0, none⟩) n cp, .int .i64 (c : Int), .int .i64 (q : Int), .func (.func 160) #[] #[.pointer (some ⟨Bo, 0, none⟩), .pointer (some ⟨Bw, 0, none⟩), .pointer (some ⟨Bf, 0, none⟩)], .int .i64 (x : Int), u14, u15, u16, u17, u18, u19, u20, u21, u22, u23, u24, u25, u26, u27, undef, undef, undef, undef, undef, undef, undef, undef, undef, undef, undef, undef, undef, undef, undef, undef, undef, undef, undef, undef, undef, undef, undef, undef, undef, undef], []⟩)) (n := 10) ?_)
    refine Flo2.take HS he0 0 (.slice (some ⟨b, 0, none⟩) n cp) rfl (by kernel_rfl) (fun p q => by cases p <;> cases q <;> kernel_rfl) (fun p q => by cases p <;> cases q <;> kernel_rfl) (fun _ _ _ h => h) (fun t t' => Or.inl ⟨by kernel_rfl, ?_⟩) (fun p q => #[true, false, false, false, false, false, false, false, p, q, false, false]) (fun p q => by cases p <;> cases q <;> kernel_rfl) (fun t t' => ⟨#[.slice (some ⟨b, 0, none⟩) n cp, .int .i64 (c : Int), .int .i64 (q : Int), .pointer (some ⟨H, 0, none⟩), undef, .pointer (some ⟨H + 1, 0, none⟩), .int .i64 (x : Int), t, t', .slice (some ⟨b, 0, none⟩) n cp, .int .i64 (c : Int), .int .i64 (q : Int), .func (.func 160) #[] #[.pointer (some ⟨Bo, 0, none⟩), .pointer (some ⟨Bw, 0, none⟩), .pointer (some ⟨Bf, 0, none⟩)], .int .i64 (x : Int), u14, u15, u16, u17, u18, u19, u20, u21, u22, u23, u24, u25, u26, u27, .slice (some ⟨b, 0, none⟩) n cp, undef, undef, undef, undef, undef, undef, undef, undef, undef, undef, undef, undef, undef, undef, undef, undef, undef, undef, undef, undef, undef, undef, undef, undef, undef], []⟩) (fun _ _ => by kernel_rfl) ?_
    · intro w hSw
      obtain ⟨h1, h2⟩ := hSw
      go_simp
      try with_reducible rfl
    refine Flo2.take HS he0 1 (.int .i64 (x : Int)) rfl (by kernel_rfl) (fun p q => by cases p <;> cases q <;> kernel_rfl) (fun p q => by cases p <;> cases q <;> kernel_rfl) (fun _ _ _ h => h) (fun t t' => Or.inl ⟨by kernel_rfl, ?_⟩) (fun p q => #[true, true, false, false, false, false, false, false, p, q, false, false]) (fun p q => by cases p <;> cases q <;> kernel_rfl) (fun t t' => ⟨#[.slice (some ⟨b, 0, none⟩) n cp, .int .i64 (c : Int), .int .i64 (q : Int), .pointer (some ⟨H, 0, none⟩), undef, .pointer (some ⟨H + 1, 0, none⟩), .int .i64 (x : Int), t, t', .slice (some ⟨b, 0, none⟩) n cp, .int .i64 (c : Int), .int .i64 (q : Int), .func (.func 160) #[] #[.pointer (some ⟨Bo, 0, none⟩), .pointer (some ⟨Bw, 0, none⟩), .pointer (some ⟨Bf, 0, none⟩)], .int .i64 (x : Int), u14, u15, u16, u17, u18, u19, u20, u21, u22, u23, u24, u25, u26, u27, .slice (some ⟨b, 0, none⟩) n cp, .int .i64 (x : Int), undef, undef, undef, undef, undef, undef, undef, undef, undef, undef, undef, undef, undef, undef, undef, undef, undef, undef, undef, undef, undef, undef, undef, undef], []⟩) (fun _ _ => by kernel_rfl) ?_
    · intro w hSw
      kernel_rfl
    refine Flo2.take HS he0 3 (.slice (some ⟨b, 0, none⟩) n cp) rfl (by kernel_rfl) (fun p q => by cases p <;> cases q <;> kernel_rfl) (fun p q => by cases p <;> cases q <;> kernel_rfl) (fun _ _ _ h => h) (fun t t' => Or.inl ⟨by kernel_rfl, ?_⟩) (fun p q => #[true, true, false, true, false, false, false, false, p, q, false, false]) (fun p q => by cases p <;> cases q <;> kernel_rfl) (fun t t' => ⟨#[.slice (some ⟨b, 0, none⟩) n cp, .int .i64 (c : Int), .int .i64 (q : Int), .pointer (some ⟨H, 0, none⟩), undef, .pointer (some ⟨H + 1, 0, none⟩), .int .i64 (x : Int), t, t', .slice (some ⟨b, 0, none⟩) n cp, .int .i64 (c : Int), .int .i64 (q : Int), .func (.func 160) #[] #[.pointer (some ⟨Bo, 0, none⟩), .pointer (some ⟨Bw, 0, none⟩), .pointer (some ⟨Bf, 0, none⟩)], .int .i64 (x : Int), u14, u15, u16, u17, u18, u19, u20, u21, u22, u23, u24, u25, u26, u27, .slice (some ⟨b, 0, none⟩) n cp, .int .i64 (x : Int), undef, .slice (some ⟨b, 0, none⟩) n cp, undef, undef, undef, undef, undef, undef, undef, undef, undef, undef, undef, undef, undef, undef, undef, undef, undef, undef, undef, undef, undef, undef], []⟩) (fun _ _ => by kernel_rfl) ?_
    · intro w hSw
      obtain ⟨h1, h2⟩ := hSw
      go_simp
      try with_reducible rfl
    refine Flo2.take HS he0 4 (.int .i64 (x : Int)) rfl (by kernel_rfl) (fun p q => by cases p <;> cases q <;> kernel_rfl) (fun p q => by cases p <;> cases q <;> kernel_rfl) (fun _ _ _ h => h) (fun t t' => Or.inl ⟨by kernel_rfl, ?_⟩) (fun p q => #[true, true, false, true, true, false, false, false, p, q, false, false]) (fun p q => by cases p <;> cases q <;> kernel_rfl) (fun t t' => ⟨#[.slice (some ⟨b, 0, none⟩) n cp, .int .i64 (c : Int), .int .i64 (q : Int), .pointer (some ⟨H, 0, none⟩), undef, .pointer (some ⟨H + 1, 0, none⟩), .int .i64 (x : Int), t, t', .slice (some ⟨b, 0, none⟩) n cp, .int .i64 (c : Int), .int .i64 (q : Int), .func (.func 160) #[] #[.pointer (some ⟨Bo, 0, none⟩), .pointer (some ⟨Bw, 0, none⟩), .pointer (some ⟨Bf, 0, none⟩)], .int .i64 (x : Int), u14, u15, u16, u17, u18, u19, u20, u21, u22, u23, u24, u25, u26, u27, .slice (some ⟨b, 0, none⟩) n cp, .int .i64 (x : Int), undef, .slice (some ⟨b, 0, none⟩) n cp, .int .i64 (x : Int), undef, undef, undef, undef, undef, undef, undef, undef, undef, undef, undef, undef, undef, undef, undef, undef, undef, undef, undef, undef, undef], []⟩) (fun _ _ => by kernel_rfl) ?_
    · intro w hSw
      kernel_rfl
    refine Flo2.take HS he0 5 (.int .i64 (q : Int)) rfl (by kernel_rfl) (fun p q => by cases p <;> cases q <;> kernel_rfl) (fun p q => by cases p <;> cases q <;> kernel_rfl) (fun _ _ _ h => h) (fun t t' => Or.inl ⟨by kernel_rfl, ?_⟩) (fun p q => #[true, true, false, true, true, true, false, false, p, q, false, false]) (fun p q => by cases p <;> cases q <;> kernel_rfl) (fun t t' => ⟨#[.slice (some ⟨b, 0, none⟩) n cp, .int .i64 (c : Int), .int .i64 (q : Int), .pointer (some ⟨H, 0, none⟩), undef, .pointer (some ⟨H + 1, 0, none⟩), .int .i64 (x : Int), t, t', .slice (some ⟨b, 0, none⟩) n cp, .int .i64 (c : Int), .int .i64 (q : Int), .func (.func 160) #[] #[.pointer (some ⟨Bo, 0, none⟩), .pointer (some ⟨Bw, 0, none⟩), .pointer (some ⟨Bf, 0, none⟩)], .int .i64 (x : Int), u14, u15, u16, u17, u18, u19, u20, u21, u22, u23, u24, u25, u26, u27, .slice (some ⟨b, 0, none⟩) n cp, .int .i64 (x : Int), undef, .slice (some ⟨b, 0, none⟩) n cp, .int .i64 (x : Int), .int .i64 (q : Int), undef, undef, undef, undef, undef, undef, undef, undef, undef, undef, undef, undef, undef, undef, undef, undef, undef, undef, undef, undef], []⟩) (fun _ _ => by kernel_rfl) ?_
    · intro w hSw
      obtain ⟨h1, h2⟩ := hSw
      go_simp
      try with_reducible rfl
    refine Flo2.take HS he0 6 (.int .i64 (y : Int)) rfl (by kernel_rfl) (fun p q => by cases p <;> cases q <;> kernel_rfl) (fun p q => by cases p <;> cases q <;> kernel_rfl) (fun _ _ _ h => h) (fun t t' => Or.inl ⟨by kernel_rfl, ?_⟩) (fun p q => #[true, true, false, true, true, true, true, false, p, q, false, false]) (fun p q => by cases p <;> cases q <;> kernel_rfl) (fun t t' => ⟨#[.slice (some ⟨b, 0, none⟩) n cp, .int .i64 (c : Int), .int .i64 (q : Int), .pointer (some ⟨H, 0, none⟩), undef, .pointer (some ⟨H + 1, 0, none⟩), .int .i64 (x : Int), t, t', .slice (some ⟨b, 0, none⟩) n cp, .int .i64 (c : Int), .int .i64 (q : Int), .func (.func 160) #[] #[.pointer (some ⟨Bo, 0, none⟩), .pointer (some ⟨Bw, 0, none⟩), .pointer (some ⟨Bf, 0, none⟩)], .int .i64 (x : Int), u14, u15, u16, u17, u18, u19, u20, u21, u22, u23, u24, u25, u26, u27, .slice (some ⟨b, 0, none⟩) n cp, .int .i64 (x : Int), undef, .slice (some ⟨b, 0, none⟩) n cp, .int .i64 (x : Int), .int .i64 (q : Int), .int .i64 (y : Int), undef, undef, undef, undef, undef, undef, undef, undef, undef, undef, undef, undef, undef, undef, undef, undef, undef, undef, undef], []⟩) (fun _ _ => by kernel_rfl) ?_
    · intro w hSw
      go_simp
      try with_reducible rfl
    refine Flo2.call hA0 hA1 HS he0 2 rfl (fun q => by cases q <;> kernel_rfl) (fun p => by cases p <;> kernel_rfl) (fun _ _ _ => by kernel_rfl) (fun _ _ _ => by kernel_rfl) (fun p q => by cases p <;> cases q <;> kernel_rfl) (fun _ _ => by kernel_rfl) 54 #[.slice (some ⟨b, 0, none⟩) n cp, .int .i64 (x : Int)] (fun _ _ _ => by kernel_rfl) (R := fun v w' => ∃ cc, v = .agg cc ∧ NmA w' cc (s' x) (2 * N' + 1) N') (fun wx hx => (HAt1.out wx (he0.trans hx)).mono ?_) (fun p q => #[true, true, true, true, true, true, true, false, p, q, false, false]) (fun p q => by cases p <;> cases q <;> kernel_rfl) (fun vv t t' => ⟨#[.slice (some ⟨b, 0, none⟩) n cp, .int .i64 (c : Int), .int .i64 (q : Int), .pointer (some ⟨H, 0, none⟩), undef, .pointer (some ⟨H + 1, 0, none⟩), .int .i64 (x : Int), t, t', .slice (some ⟨b, 0, none⟩) n cp, .int .i64 (c : Int), .int .i64 (q : Int), .func (.func 160) #[] #[.pointer (some ⟨Bo, 0, none⟩), .pointer (some ⟨Bw, 0, none⟩), .pointer (some ⟨Bf, 0, none⟩)], .int .i64 (x : Int), u14, u15, u16, u17, u18, u19, u20, u21, u22, u23, u24, u25, u26, u27, .slice (some ⟨b, 0, none⟩) n cp, .int .i64 (x : Int), vv, .slice (some ⟨b, 0, none⟩) n cp, .int .i64 (x : Int), .int .i64 (q : Int), .int .i64 (y : Int), undef, undef, undef, undef, undef, undef, undef, undef, undef, undef, undef, undef, undef, undef, undef, undef, undef, undef, undef], []⟩) (fun _ _ _ => by kernel_rfl) ?_
    · rintro e w' ⟨cc, rfl, nn, hx'⟩; exact ⟨_, rfl, ⟨cc, rfl, nn⟩, hx'⟩
    rintro v w1x ⟨ca, rfl, nA⟩ hq1
    have he1 := he0.trans hq1
    refine Flo2.call hA0 hA1 HS he1 7 rfl (fun q => by cases q <;> kernel_rfl) (fun p => by cases p <;> kernel_rfl) (fun _ _ _ => by kernel_rfl) (fun _ _ _ => by kernel_rfl) (fun p q => by cases p <;> cases q <;> kernel_rfl) (fun _ _ => by kernel_rfl) 54 #[.slice (some ⟨b, 0, none⟩) n cp, .int .i64 (y : Int)] (fun _ _ _ => by kernel_rfl) (R := fun v w' => ∃ cc, v = .agg cc ∧ NmA w' cc (s' y) (2 * N' + 1) N') (fun wx hx => (HAt2.out wx (he1.trans hx)).mono ?_) (fun p q => #[true, true, true, true, true, true, true, true, p, q, false, false]) (fun p q => by cases p <;> cases q <;> kernel_rfl) (fun vv t t' => ⟨#[.slice (some ⟨b, 0, none⟩) n cp, .int .i64 (c : Int), .int .i64 (q : Int), .pointer (some ⟨H, 0, none⟩), undef, .pointer (some ⟨H + 1, 0, none⟩), .int .i64 (x : Int), t, t', .slice (some ⟨b, 0, none⟩) n cp, .int .i64 (c : Int), .int .i64 (q : Int), .func (.func 160) #[] #[.pointer (some ⟨Bo, 0, none⟩), .pointer (some ⟨Bw, 0, none⟩), .pointer (some ⟨Bf, 0, none⟩)], .int .i64 (x : Int), u14, u15, u16, u17, u18, u19, u20, u21, u22, u23, u24, u25, u26, u27, .slice (some ⟨b, 0, none⟩) n cp, .int .i64 (x : Int), .agg ca, .slice (some ⟨b, 0, none⟩) n cp, .int .i64 (x : Int), .int .i64 (q : Int), .int .i64 (y : Int), vv, undef, undef, undef, undef, undef, undef, undef, undef, undef, undef, undef, undef, undef, undef, undef, undef, undef, undef], []⟩) (fun _ _ _ => by kernel_rfl) ?_
    · rintro e w' ⟨cc, rfl, nn, hx'⟩; exact ⟨_, rfl, ⟨cc, rfl, nn⟩, hx'⟩
    rintro v w2x ⟨cb, rfl, nB⟩ hq2
    have he2 := he1.trans hq2
    refine Flo2.done hA0 hA1 HS he2 (fun q => by cases q <;> kernel_rfl) (fun p => by cases p <;> kernel_rfl) (fun _ _ _ => by kernel_rfl) (fun _ _ _ => by kernel_rfl) (fun p q h => by cases p <;> cases q <;> first | exact absurd h (by decide) | kernel_rfl) ?_
    intro wy hy D D1 hD hD' hne
    have hEy := he2.trans hy
    have nA' := nA.ext (hq2.trans hy); have nB' := nB.ext hy
    have z1 : Nums wy D 9 78 (fun _ => 0) := ⟨zero9, hD.2, (cells_zero9 wy).1, (cells_zero9 wy).2⟩
    have z2 : Nums wy D1 9 78 (fun _ => 0) := ⟨zero9, hD'.2, (cells_zero9 wy).1, (cells_zero9 wy).2⟩
    obtain ⟨_, ch1, rr1⟩ := nA'.val.setRow z1
    obtain ⟨_, ch2, rr2⟩ := (nB'.keep64 ch1.keep).val.setRow (z2.chg ch1 (fun e => hne e.symm))
    have X1 : Ext W (wy.setRow D ca) := ch1.ext hEy hD.1
    have X2 : Ext W ((wy.setRow D ca).setRow D1 cb) := ch2.ext X1 hD'.1
    have r2 := (ch1.block D1 (fun e => hne e.symm) hD'.lt).trans hD'.2
    have r3 := (ch2.block D hne (Array.getElem?_eq_some_iff.1 rr1).1).trans rr1
    have NA := Lib.hid ((nA'.keep64 ch1.keep).keep64 ch2.keep); have NB := Lib.hid ((nB'.keep64 ch1.keep).keep64 ch2.keep)
    refine anyH_one (i := 10) (by kernel_rfl) rfl (fun Kk hKk => ?_)
    refine stepK_storeR rfl rfl 78 _ _ rfl D ca rfl rfl 78 _ hD.2 nA.info (by rw [nA.size]; rfl) nA.val.one ?_
    refine hKk.out _ _ (HS _ X1) ?_
    clear hKk Kk
    refine anyH_one (i := 11) (by kernel_rfl) rfl (fun Kk hKk => ?_)
    refine stepK_storeR rfl rfl 78 _ _ rfl D1 cb rfl rfl 78 _ r2 nB.info (by rw [nB.size]; rfl) nB.val.one ?_
    refine hKk.out _ _ (HS _ X2) ?_
    clear hKk Kk
    refine wpAnyH_done (by kernel_rfl) ?_ _
    have hiA := nA.info; have hiB := nB.info
    have hDb : D ≠ b ∧ D1 ≠ b := ⟨fun e => by have := hD.1; have := Hlbb.out; omega, fun e => by have := hD'.1; have := Hlbb.out; omega⟩
    have HDb := Lib.hid hDb
    clear hDb nA nB nA' nB' z1 z2 ch1 ch2 X1 r2 hD hD' hne hEy hy he0 he1 he2 hq1 hq2 HAt1 HAt2 HS rr1 hA0 hA1
    obtain ⟨V0, hV0⟩ : ∃ V0, (wy.setRow D ca).setRow D1 cb = V0 := ⟨_, rfl⟩
    rw [hV0] at X2 r3 rr2 NA NB ⊢
    clear hV0
    show Code.wpIn _ _ _ _ _ ⟨#[.slice (some ⟨b, 0, none⟩) n cp, .int .i64 (c : Int), .int .i64 (q : Int), .pointer (some ⟨H, 0, none⟩), undef, .pointer (some ⟨H + 1, 0, none⟩), .int .i64 (x : Int), (ptrV D), (ptrV D1), .slice (some ⟨b, 0, none⟩) n cp, .int .i64 (c : Int), .int .i64 (q : Int), .func (.func 160) #[] #[.pointer (some ⟨Bo, 0, none⟩), .pointer (some ⟨Bw, 0, none⟩), .pointer (some ⟨Bf, 0, none⟩)], .int .i64 (x : Int), u14, u15, u16, u17, u18, u19, u20, u21, u22, u23, u24, u25, u26, u27, .slice (some ⟨b, 0, none⟩) n cp, .int .i64 (x : Int), .agg ca, .slice (some ⟨b, 0, none⟩) n cp, .int .i64 (x : Int), .int .i64 (q : Int), .int .i64 (y : Int), .agg cb, undef, undef, undef, undef, undef, undef, undef, undef, undef, undef, undef, undef, undef, undef, undef, undef, undef, undef], []⟩ V0
    have hd0 : Ext W V0.drew := Below.drew X2
    have rD := ((Below.drew (Ext.refl V0)).block D (Array.getElem?_eq_some_iff.1 r3).1).trans r3
    have rD1 := ((Below.drew (Ext.refl V0)).block D1 (Array.getElem?_eq_some_iff.1 rr2).1).trans rr2
    have NA := Lib.hid (NA.out.ext (Below.drew (Ext.refl V0))); have NB := Lib.hid (NB.out.ext (Below.drew (Ext.refl V0)))
    clear r3 rr2 X2
    refine region_round_any (by kernel_rfl) (by rfl) rnd_shut (anyT_plain (k := 17) (S := fun w' => True) (T := fun w' => (w'.cell? ⟨H, 0, none⟩ = some (.slice (some ⟨b, 0, none⟩) n cp) ∧ w'.cell? ⟨H + 1, 0, none⟩ = some (.int .i64 (q : Int))) ∧ (w'.heap[D]? = some (.cells ca 78 (0, 0)) ∧ w'.heap[D1]? = some (.cells cb 78 (0, 0)))) _ _ _ _ ?_)
    show anyT _ _ _ _ _ _ _ 20 #[false, false, false, false, false, false, false, false, false, false, false, false, false, false, false, false, false, false, false, false] _ _
    generalize V0.drew = V at *
    have lD := (Array.getElem?_eq_some_iff.1 rD).1
    have lD1 := (Array.getElem?_eq_some_iff.1 rD1).1
    have hT : (V.cell? ⟨H, 0, none⟩ = some (.slice (some ⟨b, 0, none⟩) n cp) ∧ V.cell? ⟨H + 1, 0, none⟩ = some (.int .i64 (q : Int))) ∧ (V.heap[D]? = some (.cells ca 78 (0, 0)) ∧ V.heap[D1]? = some (.cells cb 78 (0, 0))) := ⟨⟨cellKeep hd0 lH x1, cellKeep hd0 lK x2⟩, ((Ext.refl V).block D lD).trans rD, ((Ext.refl V).block D1 lD1).trans rD1⟩
    have hHeld : True := trivial
    refine anyT_takeT (i := 0) (v := ?_) rfl (by decide) (by kernel_rfl) (by kernel_rfl) (by kernel_rfl) (fun _ _ _ h => h) (Or.inl ⟨by rfl, ?_⟩) hT (fun _ => hHeld) ?_
    rotate_left 1
    · intro w hSw
      go_simp
      try with_reducible rfl
    show anyT _ _ _ _ _ _ _ _ _ (Act.put _ (some 36) _) _
    simp only [Act.put, List.setIfInBounds_toArray, List.set_cons_zero, List.set_cons_succ]
    refine anyT_takeT (i := 1) (v := ?_) rfl (by decide) (by kernel_rfl) (by kernel_rfl) (by kernel_rfl) (fun _ _ _ h => h) (Or.inl ⟨by rfl, ?_⟩) hT (fun _ => hHeld) ?_
    rotate_left 1
    · intro w hSw
      go_simp
      try with_reducible rfl
    show anyT _ _ _ _ _ _ _ _ _ (Act.put _ (some 37) _) _
    simp only [Act.put, List.setIfInBounds_toArray, List.set_cons_zero, List.set_cons_succ]
    refine anyT_takeT (i := 2) (v := ?_) rfl (by decide) (by kernel_rfl) (by kernel_rfl) (by kernel_rfl) (fun _ _ _ h => h) (Or.inl ⟨by rfl, ?_⟩) hT (fun _ => hHeld) ?_
    rotate_left 1
    · intro w hSw
      go_simp
      try with_reducible rfl
    show anyT _ _ _ _ _ _ _ _ _ (Act.put _ (some 38) _) _
    simp only [Act.put, List.setIfInBounds_toArray, List.set_cons_zero, List.set_cons_succ]
    refine anyT_takeT (i := 3) (v := ?_) rfl (by decide) (by kernel_rfl) (by kernel_rfl) (by kernel_rfl) (fun _ _ _ h => h) (Or.inl ⟨by rfl, ?_⟩) hT (fun _ => hHeld) ?_
    rotate_left 1
    · intro w hSw
      go_simp
      try with_reducible rfl
    show anyT _ _ _ _ _ _ _ _ _ (Act.put _ (some 39) _) _
    simp only [Act.put, List.setIfInBounds_toArray, List.set_cons_zero, List.set_cons_succ]
    refine anyT_takeT (i := 4) (v := ?_) rfl (by decide) (by kernel_rfl) (by kernel_rfl) (by kernel_rfl) (fun _ _ _ h => h) (Or.inl ⟨by rfl, ?_⟩) hT (fun _ => hHeld) ?_
    rotate_left 1
    · intro w hSw
      go_simp
      try with_reducible rfl
    show anyT _ _ _ _ _ _ _ _ _ (Act.put _ (some 40) _) _
    simp only [Act.put, List.setIfInBounds_toArray, List.set_cons_zero, List.set_cons_succ]
    refine anyT_takeT (i := 5) (v := ?_) rfl (by decide) (by kernel_rfl) (by kernel_rfl) (by kernel_rfl) (fun _ _ _ h => h) (Or.inl ⟨by rfl, ?_⟩) hT (fun _ => hHeld) ?_
    rotate_left 1
    · intro w hSw
      go_simp
      try with_reducible rfl
    show anyT _ _ _ _ _ _ _ _ _ (Act.put _ (some 41) _) _
    simp only [Act.put, List.setIfInBounds_toArray, List.set_cons_zero, List.set_cons_succ]
    refine anyT_takeT (i := 6) (v := .agg ca) rfl (by decide) (by kernel_rfl) (by kernel_rfl) (by kernel_rfl) (fun _ _ _ h => h) (Or.inl ⟨by rfl, fun _ h => exec_load_row 78 _ rfl D rfl 78 _ (0, 0) _ h.2.1 Tryz.underlying78 rfl hiA⟩) hT (fun _ => hHeld) ?_
    show anyT _ _ _ _ _ _ _ _ _ (Act.put _ (some 42) _) _
    simp only [Act.put, List.setIfInBounds_toArray, List.set_cons_zero, List.set_cons_succ]
    refine anyT_takeT (i := 7) (v := .agg cb) rfl (by decide) (by kernel_rfl) (by kernel_rfl) (by kernel_rfl) (fun _ _ _ h => h) (Or.inl ⟨by rfl, fun _ h => exec_load_row 78 _ rfl D1 rfl 78 _ (0, 0) _ h.2.2 Tryz.underlying78 rfl hiB⟩) hT (fun _ => hHeld) ?_
    show anyT _ _ _ _ _ _ _ _ _ (Act.put _ (some 43) _) _
    simp only [Act.put, List.setIfInBounds_toArray, List.set_cons_zero, List.set_cons_succ]
    refine anyT_takeT (i := 11) (v := .agg ca) rfl (by decide) (by kernel_rfl) (by kernel_rfl) (by kernel_rfl) (fun _ _ _ h => h) (Or.inl ⟨by rfl, fun _ h => exec_load_row 78 _ rfl D rfl 78 _ (0, 0) _ h.2.1 Tryz.underlying78 rfl hiA⟩) hT (fun _ => hHeld) ?_
    show anyT _ _ _ _ _ _ _ _ _ (Act.put _ (some 47) _) _
    simp only [Act.put, List.setIfInBounds_toArray, List.set_cons_zero, List.set_cons_succ]
    refine anyT_takeT (i := 12) (v := .agg cb) rfl (by decide) (by kernel_rfl) (by kernel_rfl) (by kernel_rfl) (fun _ _ _ h => h) (Or.inl ⟨by rfl, fun _ h => exec_load_row 78 _ rfl D1 rfl 78 _ (0, 0) _ h.2.2 Tryz.underlying78 rfl hiB⟩) hT (fun _ => hHeld) ?_
    show anyT _ _ _ _ _ _ _ _ _ (Act.put _ (some 48) _) _
    simp only [Act.put, List.setIfInBounds_toArray, List.set_cons_zero, List.set_cons_succ]
    clear hT hHeld
    refine anyT_one (i := 8) (by kernel_rfl) rfl (fun Kk hKk => ?_)
    go_simp
    (go_at_call 55; refine (RAdd_nm ca cb _ _ _ _ _ _ V NA.out NB.out 10000 (by decide) (by have := HN.out; omega) (by have := HN.out; omega) (bru_ext HB.out hd0)).mono ?_; rintro e w1 ⟨c3, z3, rfl, n3, e3, k1⟩)
    have h1 := hd0.trans k1
    go_wp2_with fail
    refine hKk.out _ _ (⟨⟨cellKeep h1 lH x1, cellKeep h1 lK x2⟩, (k1.block D lD).trans rD, (k1.block D1 lD1).trans rD1⟩) (fun _ => trivial) ?_
    clear hKk Kk
    simp only [List.setIfInBounds_toArray, List.set_cons_zero, List.set_cons_succ]
    refine anyT_one (i := 9) (by kernel_rfl) rfl (fun Kk hKk => ?_)
    go_simp
    (go_at_call 142; refine (Half_nm c3 z3 _ _ w1 n3 10000 (by decide) (by have := HN.out; omega) (by have := HN.out; omega) (bru_ext HB.out h1)).mono ?_; rintro e w2 ⟨c4, z4, rfl, n4, e4, k2'⟩)
    have h2 := h1.trans k2'
    have k2 := k1.trans k2'
    go_wp2_with fail
    refine hKk.out _ _ (⟨⟨cellKeep h2 lH x1, cellKeep h2 lK x2⟩, (k2.block D lD).trans rD, (k2.block D1 lD1).trans rD1⟩) (fun _ => trivial) ?_
    clear hKk Kk
    simp only [List.setIfInBounds_toArray, List.set_cons_zero, List.set_cons_succ]
    refine anyT_one (i := 10) (by kernel_rfl) rfl (fun Kk hKk => ?_)
    go_simp
    (go_at_call 115; refine (kept_any c4 _ _ _ w2 n4).mono ?_; rintro e w3 ⟨p3, rfl, hp3, k3'⟩)
    have h3 := h2.trans k3'
    have k3 := k2.trans k3'
    go_wp2_with fail
    refine hKk.out _ _ (⟨⟨cellKeep h3 lH x1, cellKeep h3 lK x2⟩, (k3.block D lD).trans rD, (k3.block D1 lD1).trans rD1⟩) (fun _ => trivial) ?_
    clear hKk Kk
    simp only [List.setIfInBounds_toArray, List.set_cons_zero, List.set_cons_succ]
    refine anyT_one (i := 13) (by kernel_rfl) rfl (fun Kk hKk => ?_)
    go_simp
    (go_at_call 143; refine (RSub_nm ca cb _ _ _ _ _ _ w3 (NA.out.ext k3) (NB.out.ext k3) 10000 (by decide) (by have := HN.out; omega) (by have := HN.out; omega) (bru_ext HB.out h3)).mono ?_; rintro e w4 ⟨c5, z5, rfl, n5, e5, k4'⟩)
    have h4 := h3.trans k4'
    have k4 := k3.trans k4'
    go_wp2_with fail
    refine hKk.out _ _ (⟨⟨cellKeep h4 lH x1, cellKeep h4 lK x2⟩, (k4.block D lD).trans rD, (k4.block D1 lD1).trans rD1⟩) (fun _ => trivial) ?_
    clear hKk Kk
    simp only [List.setIfInBounds_toArray, List.set_cons_zero, List.set_cons_succ]
    refine anyT_one (i := 14) (by kernel_rfl) rfl (fun Kk hKk => ?_)
    go_simp
    (go_at_call 142; refine (Half_nm c5 z5 _ _ w4 n5 10000 (by decide) (by have := HN.out; omega) (by have := HN.out; omega) (bru_ext HB.out h4)).mono ?_; rintro e w5 ⟨c6, z6, rfl, n6, e6, k5'⟩)
    have h5 := h4.trans k5'
    have k5 := k4.trans k5'
    go_wp2_with fail
    refine hKk.out _ _ (⟨⟨cellKeep h5 lH x1, cellKeep h5 lK x2⟩, (k5.block D lD).trans rD, (k5.block D1 lD1).trans rD1⟩) (fun _ => trivial) ?_
    clear hKk Kk
    simp only [List.setIfInBounds_toArray, List.set_cons_zero, List.set_cons_succ]
    refine anyT_one (i := 15) (by kernel_rfl) rfl (fun Kk hKk => ?_)
    go_simp
    (go_at_call 115; refine (kept_any c6 _ _ _ w5 n6).mono ?_; rintro e w6 ⟨p6, rfl, hp6, k6'⟩)
    have h6 := h5.trans k6'
    have k6 := k5.trans k6'
    go_wp2_with fail
    refine hKk.out _ _ (⟨⟨cellKeep h6 lH x1, cellKeep h6 lK x2⟩, (k6.block D lD).trans rD, (k6.block D1 lD1).trans rD1⟩) (fun _ => trivial) ?_
    clear hKk Kk
    simp only [List.setIfInBounds_toArray, List.set_cons_zero, List.set_cons_succ]
    have hT : (w6.cell? ⟨H, 0, none⟩ = some (.slice (some ⟨b, 0, none⟩) n cp) ∧ w6.cell? ⟨H + 1, 0, none⟩ = some (.int .i64 (q : Int))) ∧ (w6.heap[D]? = some (.cells ca 78 (0, 0)) ∧ w6.heap[D1]? = some (.cells cb 78 (0, 0))) := ⟨⟨cellKeep h6 lH x1, cellKeep h6 lK x2⟩, (k6.block D lD).trans rD, (k6.block D1 lD1).trans rD1⟩
    have hHeld : True := trivial
    refine anyT_takeT (i := 16) (v := ?_) rfl (by decide) (by kernel_rfl) (by kernel_rfl) (by kernel_rfl) (fun _ _ _ h => h) (Or.inl ⟨by rfl, ?_⟩) hT (fun _ => hHeld) ?_
    rotate_left 1
    · intro w hSw
      go_simp
      try with_reducible rfl
    show anyT _ _ _ _ _ _ _ _ _ (Act.put _ (some 52) _) _
    simp only [Act.put, List.setIfInBounds_toArray, List.set_cons_zero, List.set_cons_succ]
    clear hT hHeld
    have A1 : Amp (N' + 1) (lw (nHf (nAdd (s' x) (s' y)))) := (HW.out.amp x).hf (HW.out.amp y)
    have A2 : Amp (N' + 1) (lw (nHf (nAdd (s' x) (nNeg (s' y))))) := (HW.out.amp x).hf (HW.out.amp y).neg
    have q4 : z4 = lw (nHf (nAdd (s' x) (s' y))) := lw_one n4.low (e4.trans (EqN.hf e3))
    have q6 : z6 = lw (nHf (nAdd (s' x) (nNeg (s' y)))) := lw_one n6.low (e6.trans (EqN.hf e5))
    rw [q4] at hp3
    rw [q6] at hp6
    have g3 := ((hp3.ext k4').ext k5').ext k6'
    have HW6 := HW.out.ext h6
    obtain ⟨hA, hB⟩ := HW6.put Hx.out g3 A1 (Nat.le_succ _)
    obtain ⟨_, y6, f6, _⟩ := HW6.at'.get Hx.out
    have Hp2 := Lib.hid (PtA.put (i := x) (v := .pointer p3) hp6 HW6.at'.row.choose_spec.1 hB.keep)
    have v1 : (w6.setCell ⟨b, x, none⟩ (.pointer p3)).cell? ⟨H, 0, none⟩ = some (.slice (some ⟨b, 0, none⟩) n cp) := hB.cell Hbne.out.1 (cellKeep h6 lH x1)
    have v2 : (w6.setCell ⟨b, x, none⟩ (.pointer p3)).cell? ⟨H + 1, 0, none⟩ = some (.int .i64 (q : Int)) := hB.cell Hbne.out.2 (cellKeep h6 lK x2)
    have v3 : (w6.setCell ⟨b, x, none⟩ (.pointer p3)).heap[D]? = some (.cells ca 78 (0, 0)) := (hB.block D HDb.out.1 (Nat.lt_of_lt_of_le lD k6.size)).trans ((k6.block D lD).trans rD)
    have v4 : (w6.setCell ⟨b, x, none⟩ (.pointer p3)).heap[D1]? = some (.cells cb 78 (0, 0)) := (hB.block D1 HDb.out.2 (Nat.lt_of_lt_of_le lD1 k6.size)).trans ((k6.block D1 lD1).trans rD1)
    have HdC := Lib.hid ((Chg.of_ext (g := b) h6).trans hB)
    refine anyT_one (i := 17) (by kernel_rfl) rfl (fun Kk hKk => ?_)
    refine stepK_storeP rfl rfl _ _ rfl b x p3 _ rfl rfl y6 f6 ?_
    refine hKk.out _ _ (⟨⟨v1, v2⟩, v3, v4⟩) (fun h => Bool.noConfusion (show true = false from h)) ?_
    clear hKk Kk
    simp only [List.setIfInBounds_toArray, List.set_cons_zero, List.set_cons_succ]
    clear hB HW6 n3 n4 n5 n6 e3 e4 e5 e6 k1 k2 k3 k4 k5 k6 k2' k3' k4' k5' k6' h1 h2 h3 h4 h5 h6 hp3 hp6 g3 y6 f6 NA NB
    generalize w6.setCell ⟨b, x, none⟩ (.pointer p3) = V2 at *
    have hT : (V2.cell? ⟨H, 0, none⟩ = some (.slice (some ⟨b, 0, none⟩) n cp) ∧ V2.cell? ⟨H + 1, 0, none⟩ = some (.int .i64 (q : Int))) ∧ (V2.heap[D]? = some (.cells ca 78 (0, 0)) ∧ V2.heap[D1]? = some (.cells cb 78 (0, 0))) := ⟨⟨v1, v2⟩, v3, v4⟩
    refine anyT_takeT (i := 18) (v := ?_) rfl (by decide) (by kernel_rfl) (by kernel_rfl) (by kernel_rfl) (fun _ _ _ h => h) (Or.inl ⟨by rfl, ?_⟩) hT (fun h => Bool.noConfusion (show true = false from h)) ?_
    rotate_left 1
    · intro w hSw
      go_simp
      try with_reducible rfl
    show anyT _ _ _ _ _ _ _ _ _ (Act.put _ (some 53) _) _
    simp only [Act.put, List.setIfInBounds_toArray, List.set_cons_zero, List.set_cons_succ]
    clear hT
    obtain ⟨hA2, hB2⟩ := hA.put Hyn.out Hp2.out A2 (Nat.le_refl _)
    obtain ⟨p8, y8, f8, _⟩ := hA.at'.get Hyn.out
    have l8 := World.block_lt_of_cell? V2 ⟨b, y, none⟩ y8
    have v5 : (V2.setCell ⟨b, y, none⟩ (.pointer p6)).cell? ⟨H, 0, none⟩ = some (.slice (some ⟨b, 0, none⟩) n cp) := hB2.cell Hbne.out.1 v1
    have v6 : (V2.setCell ⟨b, y, none⟩ (.pointer p6)).cell? ⟨H + 1, 0, none⟩ = some (.int .i64 (q : Int)) := hB2.cell Hbne.out.2 v2
    have v7 := (hB2.block D HDb.out.1 (Array.getElem?_eq_some_iff.1 v3).1).trans v3
    have v8 := (hB2.block D1 HDb.out.2 (Array.getElem?_eq_some_iff.1 v4).1).trans v4
    have Hend := Lib.hid (show WvA (V2.setCell ⟨b, y, none⟩ (.pointer p6)) b n (up2 s' x (lw (nHf (nAdd (s' x) (s' y)))) y (lw (nHf (nAdd (s' x) (nNeg (s' y)))))) (N' + 1) ∧ Chg b W (V2.setCell ⟨b, y, none⟩ (.pointer p6)) from ⟨by rw [up2_eq _ _ _ _ _ Hxy.out]; exact hA2, HdC.out.trans hB2⟩)
    refine anyT_one (i := 19) (by kernel_rfl) rfl (fun Kk hKk => ?_)
    refine stepK_storeP rfl rfl _ _ rfl b y p6 _ rfl rfl y8 f8 ?_
    refine hKk.out _ _ (⟨⟨v5, v6⟩, v7, v8⟩) (fun h => Bool.noConfusion (show true = false from h)) ?_
    clear hKk Kk
    simp only [List.setIfInBounds_toArray, List.set_cons_zero, List.set_cons_succ]
    refine anyT_done (by kernel_rfl) ?_ _
    exact Hend.out
end Go.Proofs.YtfjnlopbmkimiaaGreatDoor
namespace Go.Proofs.YtfjnlopbmkimiaaGreatDoor
open Go.RowKit Go.Shelf
attribute [local go_sem] Oper.semAt_some

set_option maxRecDepth 100000 in
set_option maxHeartbeats 2000000 in
/-- side hands back the closure of states. -/
theorem side_any (ao : Option Addr) (n cp q : Nat) (v : Int) (hv : v = 0 ∨ v = 1) (w : World) (hq : q < 4096) :
    Calls Tryz.prog 144 #[.slice ao n cp, .int .i64 (q : Int), .int .i64 v] w fun e w' => ∃ Bo Bw Bf,
      e = .returned (.func (.func 160) #[] #[.pointer (some ⟨Bo, 0, none⟩), .pointer (some ⟨Bw, 0, none⟩), .pointer (some ⟨Bf, 0, none⟩)]) ∧ Ext w w' ∧
      w'.cell? ⟨Bo, 0, none⟩ = some (.int .i64 ((if v = 1 then q else 0 : Nat) : Int)) ∧ w'.cell? ⟨Bw, 0, none⟩ = some (.slice ao n cp) ∧ w'.cell? ⟨Bf, 0, none⟩ = some (.int .i64 (q : Int)) ∧
      (w.heap.size ≤ Bo ∧ Bo < w'.heap.size) ∧ (w.heap.size ≤ Bw ∧ Bw < w'.heap.size) ∧ (w.heap.size ≤ Bf ∧ Bf < w'.heap.size) := by
  rcases hv with rfl | rfl
  · have HQ := Lib.hid (states_any ao n cp 0 q w (by decide) hq)
    rw [Nat.zero_or] at HQ
    clear hq
    go_enter Tryz.func144, Tryz.ntmps144
    go_wp2_with fail
    refine HQ.out.mono ?_
    rintro e w' ⟨Bo, Bw, Bf, rfl, h⟩
    have HX := Lib.hid h
    clear h HQ
    go_wp2_with fail
    go_ret
    exact ⟨_, _, _, rfl, HX.out⟩
  · have HQ := Lib.hid (states_any ao n cp q 0 w hq (by decide))
    rw [Nat.or_zero] at HQ
    clear hq
    go_enter Tryz.func144, Tryz.ntmps144
    go_wp2_with fail
    refine HQ.out.mono ?_
    rintro e w' ⟨Bo, Bw, Bf, rfl, h⟩
    have HX := Lib.hid h
    clear h HQ
    go_wp2_with fail
    go_ret
    exact ⟨_, _, _, rfl, HX.out⟩

set_option maxRecDepth 100000 in
set_option maxHeartbeats 2000000 in
theorem drop_any (b n cp q : Nat) (v : Int) (hv : v = 0 ∨ v = 1) (s : Nat → Nm) (N : Nat) (w : World) (h : WvA w b n s N) (hn : n ≤ 4096) (hq : q < 4096) :
    Calls Tryz.prog 121 #[.slice (some ⟨b, 0, none⟩) n cp, .int .i64 (q : Int), .int .i64 v] w fun e w' => (∃ v, e = .returned v) ∧ WvA w' b n (drS (if v = 1 then q else 0) q n s) (N + 4096) ∧ Chg b w w' := by
  obtain ⟨H, hH⟩ : ∃ H, w.heap.size = H := ⟨_, rfl⟩
  have hbH : b < H := by rw [← hH]; exact h.at'.lt
  obtain ⟨W1, hW1⟩ : ∃ W1, (w.alloc (.cells #[.slice (some ⟨b, 0, none⟩) n cp] 66)) = W1 := ⟨_, rfl⟩
  have E1 : Ext w W1 := by rw [← hW1]; exact ext_alloc _ _
  have z1 : W1.cell? ⟨H, 0, none⟩ = some (.slice (some ⟨b, 0, none⟩) n cp) := by rw [← hW1, ← hH]; exact new1 _ _ _
  have sz1 : H < W1.heap.size := by rw [← hW1, ← hH]; simp
  have HW1 := Lib.hid hW1; have HH := Lib.hid hH
  have HS := Lib.hid (side_any (some ⟨b, 0, none⟩) n cp q v hv W1 hq)
  obtain ⟨o, ho⟩ : ∃ o : Nat, (if v = 1 then q else 0 : Nat) = o := ⟨_, rfl⟩
  rw [ho] at HS ⊢
  have hof : o &&& q = o := by
    rw [← ho]
    split
    · exact Nat.and_self q
    · exact Nat.zero_and q
  clear hW1 hH ho hv
  refine (callsIn_wide (n := 3)).1 ?_
  refine callsIn_of_wp_marks Tryz.func121 rfl trivial ?_ rfl
  simp only [Tryz.ntmps121, List.size_toArray, List.length_cons, List.length_nil, Nat.reduceAdd, Nat.reduceSub, Array.replicate_succ, Array.replicate_zero, List.push_toArray, List.append_toArray, List.nil_append, List.cons_append]
  refine wpIn_wide.2 ?_
  go_upto_region 1 with fail
  rw [HW1.out, HH.out]
  go_wp2_with fail
  refine HS.out.mono ?_
  rintro e U ⟨Bo, Bw, Bf, rfl, EU, c1, c2, c3, g1, g2, g3⟩
  have hU : WvA U b n s N := (h.ext E1).ext EU
  have y1 := (EU.cell (p := ⟨H, 0, none⟩) (show H < W1.heap.size by omega)).trans z1
  go_wp2_with fail
  refine wpIn_wide.1 (range_states (m := 3) (fun s x => up1 s x nZ) rfl (by decide) hof hn hq ⟨by omega, g1.2⟩ ⟨by omega, g2.2⟩ ⟨by omega, g3.2⟩ c1 c2 c3 hU rfl
    (fun x => { tmps := #[.slice (some ⟨b, 0, none⟩) n cp, .int .i64 (q : Int), .int .i64 v, .pointer (some ⟨H, 0, none⟩), undef, undef, .int .i64 (x : Int), .slice (some ⟨b, 0, none⟩) n cp, .int .i64 (q : Int), .int .i64 v,
      .func (.func 160) #[] #[.pointer (some ⟨Bo, 0, none⟩), .pointer (some ⟨Bw, 0, none⟩), .pointer (some ⟨Bf, 0, none⟩)], .int .i64 (x : Int), undef, undef, undef], defers := [] }) ?assign ?body ?done)
  case assign =>
    intro l x W K hK
    gi_wp2
    exact hK
  case done =>
    intro D W hD hW hC hK
    go_wp2_with fail
    refine ⟨by simp, .inl ⟨_, _, rfl, run_takeDeferred hK, ?_⟩⟩
    obtain ⟨h1, h2⟩ := fin_wave hW hC hD hK
    exact ⟨_, results_none rfl _ _ _, ⟨_, rfl⟩, h1, (Chg.of_ext (E1.trans EU)).trans h2⟩
  case body =>
    intro l x s' N' W hx hxf hW hC hN'
    have x1 := hC.cell (show H ≠ b by omega) y1
    obtain ⟨p, y0, fz, hp⟩ := hW.at'.get hx
    have q0 : (0 : Int) ≤ (x : Int) := by omega
    have q1 : (x : Int) < (n : Int) := by omega
    obtain ⟨hA, hB⟩ := hW.put hx (PtA.zero W 1 0) (Amp.zero N') (Nat.le_refl _)
    have Hend := Lib.hid (show WvA (W.setCell ⟨b, x, none⟩ (.pointer none)) b n (up1 s' x nZ) (N' + 1) ∧ Chg b W (W.setCell ⟨b, x, none⟩ (.pointer none)) from ⟨hA.le (Nat.le_succ _), hB⟩)
    clear hA hB hW hx hxf hC hN' y1 c1 c2 c3 g1 g2 g3 hU EU z1 E1 h hn hq hbH sz1 HW1 HH hp hof HS
    refine wpIn_block (region_round (by rfl) rnd_shut ?_)
    go_wp2_with fail
    exact Hend.out
end Go.Proofs.YtfjnlopbmkimiaaGreatDoor
namespace Go.Proofs.YtfjnlopbmkimiaaGreatDoor
open Go.RowKit Go.Shelf

theorem anyT_two {P : Program} {ops : Array Oper} {Q : Exit → Act → World → Prop} {md : Region.Mode} {S T : World → Prop} {k : Nat} {i j : Nat} {o o' : Oper} {n : Nat} {l : Array Bool} {a : Act} {w : World} (hr : Region.ready md ops l = [i, j]) (ho : ops[i]? = some o) (ho' : ops[j]? = some o')
    (h : ∀ K' : Act → World → Prop, Shut (∀ a w, T w → ((l.setIfInBounds i true).getD k true = false → S w) → anyT P md ops Q k S T n (l.setIfInBounds i true) a w → K' a w) → if Region.wanted o (yielded ops a.tmps) = true then Oper.wp P o a w K' Q else K' (a.put o.dst undef) w)
    (h' : ∀ K' : Act → World → Prop, Shut (∀ a w, T w → ((l.setIfInBounds j true).getD k true = false → S w) → anyT P md ops Q k S T n (l.setIfInBounds j true) a w → K' a w) → if Region.wanted o' (yielded ops a.tmps) = true then Oper.wp P o' a w K' Q else K' (a.put o'.dst undef) w) :
    anyT P md ops Q k S T (n + 1) l a w := by
  refine ⟨fun h0 => (by rw [hr] at h0; cases h0), fun t ht => ?_⟩
  rw [hr] at ht
  rcases List.mem_cons.1 ht with rfl | ht
  · exact wpOp_step ho (fun K' hK => h K' (fun a w hT hS hW => hK a w ⟨hT, hS, hW⟩))
  · rcases List.mem_singleton.1 ht with rfl
    exact wpOp_step ho' (fun K' hK => h' K' (fun a w hT hS hW => hK a w ⟨hT, hS, hW⟩))

/-- A list of one number, just made. -/
theorem ints_one (w : World) (x : Int) : IntsAt (w.alloc (.cells #[.int .i64 x] 3)) (some ⟨w.heap.size, 0, none⟩) 1 [x] :=
  ⟨rfl, Or.inr ⟨w.heap.size, 0, rfl, by simp, fun t ht => by
    obtain rfl : t = 0 := by omega
    exact new1 w _ _⟩⟩
theorem q1_lt {q : Int} {n : Nat} (_h0 : 0 ≤ q) (hq : q < n) (hn : n ≤ 12) : q1 q < 4096 := by
  unfold q1
  exact Nat.lt_of_lt_of_le (Nat.pow_lt_pow_right (by decide) (show q.toNat < 12 by omega)) (by decide)
theorem msk_4096 {l : List Int} {n : Nat} (h : ∀ c ∈ l, 0 ≤ c ∧ c < (n : Int)) (hn : n ≤ 12) : msk l < 4096 := msk_lt (n := 12) (fun c hc => by have := h c hc; omega)

set_option maxRecDepth 100000 in
set_option maxHeartbeats 4000000 in
theorem do_any (b cp qn bb : Nat) (o : Gop) (a1 : Option Addr) (n1 c1 : Nat) (a2 : Option Addr) (n2 c2 : Nat) (s : Nat → Nm) (N : Nat) (w : World) (h : WvA w b (2 ^ qn) s N) (hqn : qn ≤ 12) (hN : N ≤ 90000) (hbr : Bru w)
    (hf : PlFit o qn bb) (hph : o.kind = 1 → o.ctl = []) (hk : o.kind < 5) (hI : IntsAt w a1 n1 o.ctl) (hn1 : n1 ≤ 1000) :
    Calls Tryz.prog 83 #[.slice (some ⟨b, 0, none⟩) (2 ^ qn) cp, .agg #[.int .i64 o.kind, .int .i64 o.k, .slice a1 n1 c1, .int .i64 o.q, .int .i64 o.bit, .slice a2 n2 c2]] w fun e w' => (∃ v, e = .returned v) ∧ WvA w' b (2 ^ qn) (gt o s) (N + 1) ∧ Chg b w w' := by
  have hm := msk_4096 hf.ctl hqn
  have hq1 := q1_lt hf.q.1 hf.q.2 hqn
  have hn4 : 2 ^ qn ≤ 4096 := Nat.le_trans (Nat.pow_le_pow_right (by decide) hqn) (by decide)
  have hctl19 : ∀ c ∈ o.ctl, 0 ≤ c ∧ c < 19 := fun c hc => by have := hf.ctl c hc; omega
  have hq19 : ∀ c ∈ [o.q], 0 ≤ c ∧ c < 19 := fun c hc => by
    rw [List.mem_singleton] at hc
    have := hf.q
    omega
  have hin : ∀ x, x < 2 ^ qn → x ||| q1 o.q < 2 ^ qn := fun x hx => Nat.or_lt_two_pow hx (by unfold q1; exact Nat.pow_lt_pow_right (by decide) (by have := hf.q; omega))
  have hoff : (msk o.ctl).testBit o.q.toNat = false := msk_off hf.q.1 (fun c hc => ⟨(hf.ctl c hc).1, hf.ne c hc⟩)
  have hne : ∀ x, x &&& (msk o.ctl ||| q1 o.q) = msk o.ctl → x ≠ x ||| q1 o.q := fun x hx e => by
    have h1 := ((one_off hoff).1 hx).2
    have h2 := congrArg (fun z => z.testBit o.q.toNat) e
    simp only [Nat.testBit_or, q1_bit] at h2
    unfold bt at h1
    rw [h1] at h2
    simp at h2
  have X2 := Lib.hid (fun (w' : World) (s' : Nat → Nm) (hw : WvA w' b (2 ^ qn) s' N) => exchange_any b (2 ^ qn) cp (msk o.ctl) (q1 o.q) s' N w' hw hn4 hm hq1 hin hne)
  have X3 := Lib.hid (fun (w' : World) (s' : Nat → Nm) (hw : WvA w' b (2 ^ qn) s' N) (hB : Bru w') => mix_any b (2 ^ qn) cp (msk o.ctl) (q1 o.q) s' N w' hw hn4 hm hq1 hN hB hin hne)
  have X1 := Lib.hid (fun (w' : World) (m : Nat) (hm : m < 4096) (s' : Nat → Nm) (hw : WvA w' b (2 ^ qn) s' N) => turn_any b (2 ^ qn) cp m o.k s' N w' hw hn4 hm (by omega))
  have G1 := Lib.hid (fun (w' : World) (hw : WvA w' b (2 ^ qn) (tuS 0 o.k (2 ^ qn) s) (N + 4096)) (e : o.kind = 1) => hw.is (M := N + 1) (fun y hy => ph_gt e (hph e) hy) (gt_amp h.amp))
  have G4 := Lib.hid (fun (w' : World) (hw : WvA w' b (2 ^ qn) (tuS (msk o.ctl ||| q1 o.q) o.k (2 ^ qn) s) (N + 4096)) (e : o.kind = 4) => hw.is (M := N + 1) (fun y hy => p_gt (o := o) e hy) (gt_amp h.amp))
  have G2 := Lib.hid (fun (w' : World) (hw : WvA w' b (2 ^ qn) (exS (msk o.ctl) (q1 o.q) (2 ^ qn) s) (N + 4096)) (e : o.kind = 2) => hw.is (M := N + 1) (fun y hy => x_gt hf e hy) (gt_amp h.amp))
  have G3 := Lib.hid (fun (w' : World) (hw : WvA w' b (2 ^ qn) (miS (msk o.ctl) (q1 o.q) (2 ^ qn) s) (N + 4096)) (e : o.kind = 3) => hw.is (M := N + 1) (fun y hy => h_gt hf e hy) (gt_amp h.amp))
  obtain ⟨kd, hkd⟩ : ∃ kd, o.kind = kd := ⟨_, rfl⟩
  obtain ⟨k, hkk⟩ : ∃ k, o.k = k := ⟨_, rfl⟩
  obtain ⟨q, hq⟩ : ∃ q, o.q = q := ⟨_, rfl⟩
  obtain ⟨bt0, hbt⟩ : ∃ bt0, o.bit = bt0 := ⟨_, rfl⟩
  obtain ⟨mk, hmk⟩ : ∃ mk, msk o.ctl = mk := ⟨_, rfl⟩
  obtain ⟨mq, hmq⟩ : ∃ mq, q1 o.q = mq := ⟨_, rfl⟩
  obtain ⟨n, hnn⟩ : ∃ n, 2 ^ qn = n := ⟨_, rfl⟩
  have hkd4 : kd = 1 ∨ kd = 2 ∨ kd = 3 ∨ kd = 4 := by have := hf.kd; omega
  rw [hkd, hkk, hq, hbt]
  rw [hnn] at h X1 X2 X3 G1 G2 G3 G4 ⊢
  rw [hmk, hmq] at X2 X3 G2 G3 G4
  rw [hmk] at hm
  rw [hmq] at hq1
  rw [hkk] at X1 G1 G4
  rw [hkd] at G1 G2 G3 G4
  have Hset1 := Lib.hid (fun (wx : World) (hx : IntsAt wx a1 n1 o.ctl) => set_any a1 n1 c1 o.ctl wx hx hn1 hctl19)
  have Hset2 := Lib.hid (fun (wx : World) (ao : Option Addr) (hx : IntsAt wx ao 1 [o.q]) => set_any ao 1 1 [o.q] wx hx (by decide) hq19)
  rw [hmk] at Hset1
  rw [msk_one, hmq, hq] at Hset2
  have ho4 : mk ||| mq < 4096 := Nat.or_lt_two_pow (n := 12) hm hq1
  have ho8 : bits .or .i64 (mk : Int) (mq : Int) = ((mk ||| mq : Nat) : Int) := or_i64 mk mq (by omega) (by omega)
  obtain ⟨mo, hmo⟩ : ∃ mo, mk ||| mq = mo := ⟨_, rfl⟩
  rw [hmo] at ho8 ho4 G4
  obtain ⟨H, hH⟩ : ∃ H, w.heap.size = H := ⟨_, rfl⟩
  obtain ⟨W, hW⟩ : ∃ W, w.alloc (.cells #[.int .i64 kd, .int .i64 k, .slice a1 n1 c1, .int .i64 q, .int .i64 bt0, .slice a2 n2 c2] 60) = W := ⟨_, rfl⟩
  have E1 : Ext w W := by rw [← hW]; exact ext_alloc _ _
  have rH : W.heap[H]? = some (.cells #[.int .i64 kd, .int .i64 k, .slice a1 n1 c1, .int .i64 q, .int .i64 bt0, .slice a2 n2 c2] 60 (0, 0)) := by rw [← hW, ← hH]; exact heap_alloc_new w _
  have lH := (Array.getElem?_eq_some_iff.1 rH).1
  have v0 : W.cell? ⟨H, 0, none⟩ = some (.int .i64 kd) := by rw [cell_of_row W H 0 _ _ (0, 0) rH]; rfl
  have v1 : W.cell? ⟨H, 1, none⟩ = some (.int .i64 k) := by rw [cell_of_row W H 1 _ _ (0, 0) rH]; rfl
  have v2 : W.cell? ⟨H, 2, none⟩ = some (.slice a1 n1 c1) := by rw [cell_of_row W H 2 _ _ (0, 0) rH]; rfl
  have v3 : W.cell? ⟨H, 3, none⟩ = some (.int .i64 q) := by rw [cell_of_row W H 3 _ _ (0, 0) rH]; rfl
  have HW := Lib.hid hW; have HH := Lib.hid hH; have HI := Lib.hid (hI.ext E1); have HwA := Lib.hid (h.ext E1); have HBr := Lib.hid (bru_ext hbr E1); have HE1 := Lib.hid E1
  have Hm4 := Lib.hid ho4
  clear hW hH hI h hbr E1 rH hf hph hk hn1 hqn hN hm hq1 hn4 hctl19 hq19 hin hoff hne hkd hkk hq hbt hmk hmq hnn hmo ho4
  go_enter Tryz.func83, Tryz.ntmps83
  go_upto_region 1 with fail
  rw [HW.out, HH.out]
  have d0 : Ext W W.drew := Below.drew (Ext.refl _)
  refine wp_mono (Q := fun e a' w' => e = .normal ∧ Ext W w' ∧ ∃ u11, a' = ⟨#[.slice (some ⟨b, 0, none⟩) n cp, .agg #[.int .i64 kd, .int .i64 k, .slice a1 n1 c1, .int .i64 q, .int .i64 bt0, .slice a2 n2 c2], undef, .pointer (some ⟨H, 0, none⟩), .int .i64 (mk : Int), .int .i64 (mq : Int), .pointer (some ⟨H, 2, none⟩), .slice a1 n1 c1, .int .i64 (mk : Int), .pointer (some ⟨H, 3, none⟩), .int .i64 q, u11, .int .i64 (mq : Int), undef, undef, undef, undef, undef, undef, undef, undef, undef, undef, undef, undef, undef, undef, undef, undef, undef, undef, undef, undef, undef, undef, undef, undef, undef, undef, undef, undef, undef], []⟩) ?_ ?_
  · refine wp_region_any (by kernel_rfl) (anyT_plain (k := 99) (S := fun w' => True) (T := fun w' => w'.cell? ⟨H, 2, none⟩ = some (.slice a1 n1 c1) ∧ w'.cell? ⟨H, 3, none⟩ = some (.int .i64 q)) _ _ _ _ ?_)
    show anyT _ _ _ _ _ _ _ 9 #[false, false, false, false, false, false, false, false, false] _ _
    have hT : W.drew.cell? ⟨H, 2, none⟩ = some (.slice a1 n1 c1) ∧ W.drew.cell? ⟨H, 3, none⟩ = some (.int .i64 q) := ⟨cellKeep d0 lH v2, cellKeep d0 lH v3⟩
    have hHeld : True := trivial
    refine anyT_takeT (i := 0) (v := ?_) rfl (by decide) (by kernel_rfl) (by kernel_rfl) (by kernel_rfl) (fun _ _ _ h => nomatch h.1) (Or.inl ⟨by rfl, ?_⟩) hT (fun _ => hHeld) ?_
    rotate_left 1
    · intro w hSw
      go_simp
      try with_reducible rfl
    show anyT _ _ _ _ _ _ _ _ _ (Act.put _ (some 6) _) _
    simp only [Act.put, List.setIfInBounds_toArray, List.set_cons_zero, List.set_cons_succ]
    refine anyT_takeT (i := 1) (v := ?_) rfl (by decide) (by kernel_rfl) (by kernel_rfl) (by kernel_rfl) (fun _ _ _ h => nomatch h.1) (Or.inl ⟨by rfl, ?_⟩) hT (fun _ => hHeld) ?_
    rotate_left 1
    · intro w hSw
      go_simp
      try with_reducible rfl
    show anyT _ _ _ _ _ _ _ _ _ (Act.put _ (some 7) _) _
    simp only [Act.put, List.setIfInBounds_toArray, List.set_cons_zero, List.set_cons_succ]
    refine anyT_takeT (i := 3) (v := ?_) rfl (by decide) (by kernel_rfl) (by kernel_rfl) (by kernel_rfl) (fun _ _ _ h => nomatch h.1) (Or.inl ⟨by rfl, ?_⟩) hT (fun _ => hHeld) ?_
    rotate_left 1
    · intro w hSw
      go_simp
      try with_reducible rfl
    show anyT _ _ _ _ _ _ _ _ _ (Act.put _ (some 9) _) _
    simp only [Act.put, List.setIfInBounds_toArray, List.set_cons_zero, List.set_cons_succ]
    refine anyT_takeT (i := 4) (v := ?_) rfl (by decide) (by kernel_rfl) (by kernel_rfl) (by kernel_rfl) (fun _ _ _ h => nomatch h.1) (Or.inl ⟨by rfl, ?_⟩) hT (fun _ => hHeld) ?_
    rotate_left 1
    · intro w hSw
      go_simp
      try with_reducible rfl
    show anyT _ _ _ _ _ _ _ _ _ (Act.put _ (some 10) _) _
    simp only [Act.put, List.setIfInBounds_toArray, List.set_cons_zero, List.set_cons_succ]
    clear hT hHeld
    refine anyT_two (i := 2) (j := 5) (by kernel_rfl) rfl rfl (fun Kk hKk => ?_) (fun Kk hKk => ?_)
    · go_simp
      (go_at_call 117; refine (Hset1.out W.drew (HI.out.ext d0)).mono ?_; rintro e w2 ⟨rfl, rfl⟩)
      go_wp2_with fail
      refine hKk.out _ _ (⟨cellKeep d0 lH v2, cellKeep d0 lH v3⟩) (fun _ => trivial) ?_
      clear hKk Kk
      simp only [List.setIfInBounds_toArray, List.set_cons_zero, List.set_cons_succ]
      have d1 : Ext W (W.drew.alloc (.cells #[.int .i64 q] 3)) := d0.trans (ext_alloc _ _)
      refine anyT_one (i := 5) (by kernel_rfl) rfl (fun Kk hKk => ?_)
      go_simp
      go_wp2_with fail
      refine hKk.out _ _ (⟨cellKeep d1 lH v2, cellKeep d1 lH v3⟩) (fun _ => trivial) ?_
      clear hKk Kk
      simp only [List.setIfInBounds_toArray, List.set_cons_zero, List.set_cons_succ]
      refine anyT_one (i := 6) (by kernel_rfl) rfl (fun Kk hKk => ?_)
      go_simp
      (go_at_call 117; refine (Hset2.out _ _ (ints_one W.drew q)).mono ?_; rintro e w2 ⟨rfl, rfl⟩)
      go_wp2_with fail
      refine hKk.out _ _ (⟨cellKeep d1 lH v2, cellKeep d1 lH v3⟩) (fun _ => trivial) ?_
      clear hKk Kk
      simp only [List.setIfInBounds_toArray, List.set_cons_zero, List.set_cons_succ]
      have hT : (W.drew.alloc (.cells #[.int .i64 q] 3)).cell? ⟨H, 2, none⟩ = some (.slice a1 n1 c1) ∧ (W.drew.alloc (.cells #[.int .i64 q] 3)).cell? ⟨H, 3, none⟩ = some (.int .i64 q) := ⟨cellKeep d1 lH v2, cellKeep d1 lH v3⟩
      have hHeld : True := trivial
      refine anyT_takeT (i := 7) (v := ?_) rfl (by decide) (by kernel_rfl) (by kernel_rfl) (by kernel_rfl) (fun _ _ _ h => nomatch h.1) (Or.inl ⟨by rfl, ?_⟩) hT (fun _ => hHeld) ?_
      rotate_left 1
      · intro w hSw
        go_simp
        try with_reducible rfl
      show anyT _ _ _ _ _ _ _ _ _ (Act.put _ (some 4) _) _
      simp only [Act.put, List.setIfInBounds_toArray, List.set_cons_zero, List.set_cons_succ]
      refine anyT_takeT (i := 8) (v := ?_) rfl (by decide) (by kernel_rfl) (by kernel_rfl) (by kernel_rfl) (fun _ _ _ h => nomatch h.1) (Or.inl ⟨by rfl, ?_⟩) hT (fun _ => hHeld) ?_
      rotate_left 1
      · intro w hSw
        go_simp
        try with_reducible rfl
      show anyT _ _ _ _ _ _ _ _ _ (Act.put _ (some 5) _) _
      simp only [Act.put, List.setIfInBounds_toArray, List.set_cons_zero, List.set_cons_succ]
      refine anyT_done (by kernel_rfl) ?_ _
      exact ⟨rfl, d1, _, rfl⟩
    · go_simp
      go_wp2_with fail
      have d1 : Ext W (W.drew.alloc (.cells #[.int .i64 q] 3)) := d0.trans (ext_alloc _ _)
      refine hKk.out _ _ (⟨cellKeep d1 lH v2, cellKeep d1 lH v3⟩) (fun _ => trivial) ?_
      clear hKk Kk
      simp only [List.setIfInBounds_toArray, List.set_cons_zero, List.set_cons_succ]
      refine anyT_one (i := 2) (by kernel_rfl) rfl (fun Kk hKk => ?_)
      go_simp
      (go_at_call 117; refine (Hset1.out _ (HI.out.ext d1)).mono ?_; rintro e w2 ⟨rfl, rfl⟩)
      go_wp2_with fail
      refine hKk.out _ _ (⟨cellKeep d1 lH v2, cellKeep d1 lH v3⟩) (fun _ => trivial) ?_
      clear hKk Kk
      simp only [List.setIfInBounds_toArray, List.set_cons_zero, List.set_cons_succ]
      refine anyT_one (i := 6) (by kernel_rfl) rfl (fun Kk hKk => ?_)
      go_simp
      (go_at_call 117; refine (Hset2.out _ _ (ints_one W.drew q)).mono ?_; rintro e w2 ⟨rfl, rfl⟩)
      go_wp2_with fail
      refine hKk.out _ _ (⟨cellKeep d1 lH v2, cellKeep d1 lH v3⟩) (fun _ => trivial) ?_
      clear hKk Kk
      simp only [List.setIfInBounds_toArray, List.set_cons_zero, List.set_cons_succ]
      have hT : (W.drew.alloc (.cells #[.int .i64 q] 3)).cell? ⟨H, 2, none⟩ = some (.slice a1 n1 c1) ∧ (W.drew.alloc (.cells #[.int .i64 q] 3)).cell? ⟨H, 3, none⟩ = some (.int .i64 q) := ⟨cellKeep d1 lH v2, cellKeep d1 lH v3⟩
      have hHeld : True := trivial
      refine anyT_takeT (i := 7) (v := ?_) rfl (by decide) (by kernel_rfl) (by kernel_rfl) (by kernel_rfl) (fun _ _ _ h => nomatch h.1) (Or.inl ⟨by rfl, ?_⟩) hT (fun _ => hHeld) ?_
      rotate_left 1
      · intro w hSw
        go_simp
        try with_reducible rfl
      show anyT _ _ _ _ _ _ _ _ _ (Act.put _ (some 4) _) _
      simp only [Act.put, List.setIfInBounds_toArray, List.set_cons_zero, List.set_cons_succ]
      refine anyT_takeT (i := 8) (v := ?_) rfl (by decide) (by kernel_rfl) (by kernel_rfl) (by kernel_rfl) (fun _ _ _ h => nomatch h.1) (Or.inl ⟨by rfl, ?_⟩) hT (fun _ => hHeld) ?_
      rotate_left 1
      · intro w hSw
        go_simp
        try with_reducible rfl
      show anyT _ _ _ _ _ _ _ _ _ (Act.put _ (some 5) _) _
      simp only [Act.put, List.setIfInBounds_toArray, List.set_cons_zero, List.set_cons_succ]
      refine anyT_done (by kernel_rfl) ?_ _
      exact ⟨rfl, d1, _, rfl⟩
  rintro e a' V ⟨rfl, hV, u11, rfl⟩
  have v0 := cellKeep hV lH v0; have v1 := cellKeep hV lH v1
  have HwV := Lib.hid (HwA.out.ext hV); have HBV := Lib.hid (bru_ext HBr.out hV); have HEV := Lib.hid (HE1.out.trans hV)
  clear v2 v3 hV HwA HBr d0 lH HI HW HH HE1 Hset1 Hset2
  rcases hkd4 with rfl | rfl | rfl | rfl
  · clear G2 G3 G4 X2 X3 ho8 Hm4 HBV
    go_wp2_with fail
    refine (X1.out V 0 (by decide) s HwV.out).mono ?_
    rintro e w2 ⟨⟨v, rfl⟩, hw, hc⟩
    have Hend := Lib.hid (show WvA w2 b n (gt o s) (N + 1) ∧ Chg b w w2 from ⟨G1.out w2 hw (by trivial), (Chg.of_ext HEV.out).trans hc⟩)
    clear hw hc G1 X1 v0 v1
    go_wp2_with fail
    go_end0
    exact ⟨⟨_, rfl⟩, Hend.out⟩
  · clear G1 G3 G4 X1 X3 ho8 Hm4 HBV
    go_wp2_with fail
    refine (X2.out V s HwV.out).mono ?_
    rintro e w2 ⟨⟨v, rfl⟩, hw, hc⟩
    have Hend := Lib.hid (show WvA w2 b n (gt o s) (N + 1) ∧ Chg b w w2 from ⟨G2.out w2 hw (by trivial), (Chg.of_ext HEV.out).trans hc⟩)
    clear hw hc G2 X2 v0 v1
    go_wp2_with fail
    go_end0
    exact ⟨⟨_, rfl⟩, Hend.out⟩
  · clear G1 G2 G4 X1 X2 ho8 Hm4
    go_wp2_with fail
    refine (X3.out V s HwV.out HBV.out).mono ?_
    rintro e w2 ⟨⟨v, rfl⟩, hw, hc⟩
    have Hend := Lib.hid (show WvA w2 b n (gt o s) (N + 1) ∧ Chg b w w2 from ⟨G3.out w2 hw (by trivial), (Chg.of_ext HEV.out).trans hc⟩)
    clear hw hc G3 X3 v0 v1
    go_wp2_with fail
    go_end0
    exact ⟨⟨_, rfl⟩, Hend.out⟩
  · clear G1 G2 G3 X2 X3 HBV
    go_wp2_with fail
    refine (X1.out V mo Hm4.out s HwV.out).mono ?_
    rintro e w2 ⟨⟨v, rfl⟩, hw, hc⟩
    have Hend := Lib.hid (show WvA w2 b n (gt o s) (N + 1) ∧ Chg b w w2 from ⟨G4.out w2 hw (by trivial), (Chg.of_ext HEV.out).trans hc⟩)
    clear hw hc G4 X1 v0 v1 ho8
    go_wp2_with fail
    go_end0
    exact ⟨⟨_, rfl⟩, Hend.out⟩
end Go.Proofs.YtfjnlopbmkimiaaGreatDoor
namespace Go.Proofs.YtfjnlopbmkimiaaGreatDoor
open Go.RowKit

def OwnI (w : World) (e : TypeId) (v : Value) (l : List Int) : Prop :=
  (v = .slice none 0 0 ∧ l = []) ∨
  ∃ g cap cur, v = .slice (some ⟨g, 0, none⟩) l.length cap ∧ w.heap[g]? = some (.cells cur e (0, 0)) ∧ l.length ≤ cap ∧ cap ≤ maxLen ∧ cur.size = cap ∧ cur.toList.take l.length = iC l ∧ ∀ u ∈ cur.toList, ∃ x : Int, u = .int .i64 x
theorem iC_i64 (l : List Int) : ∀ u ∈ iC l, ∃ x : Int, u = .int .i64 x := fun u hu => by
  unfold iC at hu
  obtain ⟨x, _, rfl⟩ := List.mem_map.1 hu
  exact ⟨x, rfl⟩
theorem zero_i64 (n : Nat) : ∀ u ∈ (Builtin.zeroCells (Value.int .i64 0).cells n).toList, ∃ x : Int, u = .int .i64 x := by
  intro u hu
  simp [Builtin.zeroCells, Value.cells, Nat.mod_one] at hu
  exact ⟨0, hu.2.symm⟩
theorem ownI_new (w : World) (e : TypeId) (l : List Int) (x : Int) (old : Nat) (v : Value) (hb : l.length ≤ 1000000) :
    OwnI (w.drew.alloc (.cells ((iC l).toArray ++ (iC [x]).toArray ++ Builtin.zeroCells (Value.int .i64 0).cells (grownCap w (l.length + 1) old e - (l.length + 1))) e)) e
        (.slice (some ⟨w.heap.size, 0, none⟩) (l.length + 1) (grownCap w (l.length + 1) old e)) (l ++ [x]) ∧
      Apd w (w.drew.alloc (.cells ((iC l).toArray ++ (iC [x]).toArray ++ Builtin.zeroCells (Value.int .i64 0).cells (grownCap w (l.length + 1) old e - (l.length + 1))) e)) v
        (.slice (some ⟨w.heap.size, 0, none⟩) (l.length + 1) (grownCap w (l.length + 1) old e)) := by
  have hge := grownCap_ge w (l.length + 1) old e
  have hcm : grownCap w (l.length + 1) old e ≤ maxLen := grownCap_le_maxLen w _ old e (by unfold maxLen; omega)
  refine ⟨Or.inr ⟨w.heap.size, _, _, by rw [List.length_append]; rfl, heap_alloc_new w.drew _, by rw [List.length_append]; exact hge, hcm, ?_, ?_, ?_⟩, ⟨⟨rfl, rfl, rfl, by simp, fun k hk _ => Below.heap_alloc w.drew _ k hk⟩, Or.inr ⟨_, rfl, Nat.le_refl _⟩⟩⟩
  · have hz1 : (Value.int IntKind.i64 0).cells.size = 1 := rfl
    simp only [Array.size_append, List.size_toArray, size_zeroCells, hz1, iC_length, List.length_singleton]
    omega
  · simp only [Array.toList_append]
    have e1 : iC l ++ iC [x] = iC (l ++ [x]) := by unfold iC; rw [List.map_append]
    rw [e1, ← iC_length (l ++ [x])]
    exact List.take_left
  · intro u hu
    simp only [Array.toList_append, List.mem_append] at hu
    rcases hu with (hu | hu) | hu
    · exact iC_i64 l u hu
    · exact iC_i64 [x] u hu
    · exact zero_i64 _ u hu
theorem ownI_room (w : World) (e : TypeId) (l : List Int) (x : Int) (g cap : Nat) (cur : Array Value) (hg : w.heap[g]? = some (.cells cur e (0, 0))) (hcm : cap ≤ maxLen) (hcs : cur.size = cap) (ht : cur.toList.take l.length = iC l) (hall : ∀ u ∈ cur.toList, ∃ x : Int, u = .int .i64 x) (hroom : l.length + 1 ≤ cap) :
    OwnI (w.setRow g (cur.toList.take l.length ++ iC [x] ++ cur.toList.drop (l.length + 1)).toArray) e (.slice (some ⟨g, 0, none⟩) (l.length + 1) cap) (l ++ [x]) ∧
      Apd w (w.setRow g (cur.toList.take l.length ++ iC [x] ++ cur.toList.drop (l.length + 1)).toArray) (.slice (some ⟨g, 0, none⟩) l.length cap) (.slice (some ⟨g, 0, none⟩) (l.length + 1) cap) := by
  refine ⟨Or.inr ⟨g, cap, _, by rw [List.length_append]; rfl, setRow_heap w g cur _ e _ hg, by rw [List.length_append]; exact hroom, hcm, ?_, ?_, ?_⟩, ⟨⟨rfl, rfl, rfl, by simp, fun k _ hk => setRow_other w g k _ (fun h => hk (by simp [Value.ownBlock, h]))⟩, Or.inl rfl⟩⟩
  · simp only [List.size_toArray, List.length_append, List.length_take, List.length_drop, Array.length_toList, iC_length, List.length_singleton]
    omega
  · have e1 : iC l ++ iC [x] = iC (l ++ [x]) := by unfold iC; rw [List.map_append]
    rw [ht, e1, ← iC_length (l ++ [x])]
    exact List.take_left
  · intro u hu
    simp only [List.mem_append] at hu
    rcases hu with (hu | hu) | hu
    · exact hall u (List.mem_of_mem_take hu)
    · exact iC_i64 [x] u hu
    · exact hall u (List.mem_of_mem_drop hu)
section
variable {P : Program} (w : World)
theorem run_append_int (t ty e : TypeId) (i : TypeInfo) (ht : P.underlying t = some (.slice e)) (hi : P.info? e = some i) (hz : i.zero = some (.int .i64 0)) (hsize : i.size = 1) (hby : i.bytes = 8)
    (v : Value) (l : List Int) (hown : OwnI w e v l) (a : Addr) (c : Nat) (x : Int) (hnew : w.cell? a = some (.int .i64 x)) (hno : a.add 0 = a) (hb : l.length ≤ 1000000) :
    ∃ v' w', (Builtin.append_ #[t, t] ty #[v, .slice (some a) 1 c]).run P w = .ok v' w' ∧ OwnI w' e v' (l ++ [x]) ∧ Apd w w' v v' := by
  have hl : (iC [x]).length = 1 * i.size := by rw [iC_length, hsize]; rfl
  have hnews : ∀ j u, (iC [x])[j]? = some u → w.cell? (a.add j) = some u := by
    intro j u hu
    cases j with
    | zero =>
      simp only [iC, List.map_cons, List.map_nil, List.getElem?_cons_zero, Option.some.injEq] at hu
      rw [← hu, hno]; exact hnew
    | succ k => simp [iC] at hu
  have h1 : ∀ u ∈ iC [x], u.oneCell' = true := by
    intro u hu
    simp only [iC, List.map_cons, List.map_nil, List.mem_singleton] at hu
    subst hu
    rfl
  rcases hown with ⟨rfl, rfl⟩ | ⟨g, cap, cur, rfl, hg, hlc, hcm, hcs, htk, hall⟩
  · have hr := run_append_nil (P := P) w t ty e i (.int .i64 0) ht hi hz a 1 c (iC [x]) hl hnews (by decide) (by decide) (by rw [hby]; decide)
    have hn := ownI_new w e [] x 0 (.slice none 0 0) hb
    simp only [List.length_nil, Nat.zero_add, List.nil_append, iC, List.map_nil, Array.empty_append] at hn hr ⊢
    exact ⟨_, _, hr, hn.1, hn.2⟩
  · by_cases hroom : l.length + 1 ≤ cap
    · have hr := run_append_room (P := P) w t ty e i ht hi g l.length cap cur hg a 1 c (iC [x]) hl hnews h1 hroom (by rw [hsize, iC_length, hcs, Nat.mul_one]; exact hroom)
      rw [hsize, Nat.mul_one, iC_length] at hr
      have hn := ownI_room w e l x g cap cur hg hcm hcs htk hall hroom
      exact ⟨_, _, hr, hn.1, hn.2⟩
    · have holds : ∀ j u, (iC l)[j]? = some u → w.cell? ((⟨g, 0, none⟩ : Addr).add j) = some u := by
        intro j u hu
        rw [Lib.add_plain, cell_of_row w g _ cur e (0, 0) hg, Nat.zero_add]
        rw [← htk, List.getElem?_take] at hu
        split at hu
        · simpa using hu
        · cases hu
      have hr := run_append_grow (P := P) w t ty e i (.int .i64 0) ht hi hz ⟨g, 0, none⟩ l.length cap (iC l) (by rw [iC_length, hsize, Nat.mul_one]) holds a 1 c (iC [x]) hl hnews (by omega) (by omega) (by rw [hby]; exact growslice_fits (by omega) (by omega))
      have hn := ownI_new w e l x cap (.slice (some ⟨g, 0, none⟩) l.length cap) hb
      exact ⟨_, _, hr, hn.1, hn.2⟩
theorem wpList_append_int {ops : Array Oper} {rest : List Oper} {o : Oper} {a : Act} {Q : Exit → Act → World → Prop} (hgd : o.guard = none) (s x : Operand) (t : TypeId)
    (ho : o.op = .call { callee := .builtin .append, args := #[s, x], argTypes := #[t, t] })
    (e : TypeId) (i : TypeInfo) (ht : P.underlying t = some (.slice e)) (hi : P.info? e = some i) (hz : i.zero = some (.int .i64 0)) (hsize : i.size = 1) (hby : i.bytes = 8)
    (v : Value) (l : List Int) (hs : a.eval s = v) (hown : OwnI w e v l) (ad : Addr) (c : Nat) (y : Int) (hx : a.eval x = .slice (some ad) 1 c) (hnew : w.cell? ad = some (.int .i64 y)) (hno : ad.add 0 = ad) (hb : l.length ≤ 1000000)
    (h : ∀ v' w', OwnI w' e v' (l ++ [y]) → Apd w w' v v' → wpList P ops Q rest (a.put o.dst v') w') : wpList P ops Q (o :: rest) a w := by
  refine wpList_plain hgd fun _ hK => ?_
  obtain ⟨v', w', hr, h2, h3⟩ := run_append_int (P := P) w t o.type e i ht hi hz hsize hby v l hown ad c y hnew hno hb
  unfold Oper.wp execOp
  simp only [ho, resolve, invoke, builtin, Sem.run_bind, Sem.run_pure, Result.andThen_ok, List.map_toArray, List.map_cons, List.map_nil, hs, hx, hr]
  exact hK _ _ (h v' w' h2 h3)
end
end Go.Proofs.YtfjnlopbmkimiaaGreatDoor
