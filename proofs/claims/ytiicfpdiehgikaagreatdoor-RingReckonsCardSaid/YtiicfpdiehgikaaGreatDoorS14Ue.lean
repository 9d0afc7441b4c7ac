/-
  The reference's numbers: ZMul. The reference's numbers: ZOf. The reference's writing, in plain lists. The reference's numbers: zodd, zhalf. The reference's numbers: ZTwos. The reference's division, in plain numbers; an append of ints; what a store of the same value leaves. The reference's numbers of circuits in memory: eight numbers by digits and a power, side by side. The reference: is a number nought; -a; an integer. The reference: a number turned.
-/
import Derived.Test.YtiicfpdiehgikaaGreatDoorProg
import Derived.Test.YtiicfpdiehgikaaGreatDoorRows
import Derived.BigQuiet
import Derived.Deep.AppendLies
import Derived.Deep.Cut
import Derived.Deep.CutRange
import Derived.Deep.MidRow
import Derived.Deep.QuietTactic
import Derived.Deep.RegionHeld3
import Derived.Laws.Bits64b
import Derived.Laws.CopyOwn
import Derived.Laws.ResultCell
import Derived.Laws.Rows
import Derived.Lib.BitFns
import Derived.Lib.Hide
import Derived.Lib.ItoaNum
import Derived.Lib.Strings
import Derived.Lib.TrailingZeros
import Derived.OwnWalk
import Derived.Shelf.Bits.Mul64
import Derived.Shelf.LaysM
import Derived.Shelf.Small.Bits
import Derived.Shelf.Small.Wraps
import Derived.Shelf.Spec.BitsCarry
import Derived.Shelf.Spec.TrailingZeros
import Derived.Shelf.Strconv.Itoa0
import Derived.Shelf.Strconv.Itoa1
import Derived.Shelf.Strconv.Itoa2
import Derived.Shelf.Strconv.Itoa3
import Derived.Shelf.Strings.Builder1
import Derived.Shelf.Strings.BuilderF
import Derived.Shelf.Strings.BuilderK
import Derived.WalkKit
import Derived.WalkLawsBesides
import Derived.WalkSpells
import Derived.Test.YtiicfpdiehgikaaGreatDoorS00Mem
import Derived.Test.YtiicfpdiehgikaaGreatDoorShelf
import Derived.Test.YtiicfpdiehgikaaGreatDoorS02ShiftI
import Derived.Test.YtiicfpdiehgikaaGreatDoorS03GuessD
import Derived.Test.YtiicfpdiehgikaaGreatDoorS04IntB
import Derived.Test.YtiicfpdiehgikaaGreatDoorS05IntD
import Derived.Test.YtiicfpdiehgikaaGreatDoorS06GcB
import Derived.Test.YtiicfpdiehgikaaGreatDoorS07Rd
import Derived.Test.YtiicfpdiehgikaaGreatDoorS08Rl
import Derived.Test.YtiicfpdiehgikaaGreatDoorS09Ca
import Derived.Test.YtiicfpdiehgikaaGreatDoorS13ZL
namespace Go.Proofs.YtiicfpdiehgikaaGreatDoor
open Go.RowKit

set_option maxHeartbeats 2000000 in
set_option maxRecDepth 100000 in
theorem ZMul_any (b1 b2 : Bool) (a1 a2 : Option Addr) (n1 c1 n2 c2 : Nat) (z1 z2 : Int) (w : World) (h1 : IsZ w b1 a1 n1 c1 z1) (h2 : IsZ w b2 a2 n2 c2 z2) (hn1 : n1 ≤ 400000) (hn2 : n2 ≤ 400000) :
    Calls Tryz.prog 82 #[.agg #[.bool b1, .slice a1 n1 c1], .agg #[.bool b2, .slice a2 n2 c2]] w (ZRet w (z1 * z2) (n1 + n2 + 1)) := by
  obtain ⟨la, p1, p2, p3, p4, p5, p6, p7, p8⟩ := h1
  obtain ⟨lb, q1, q2, q3, q4, q5, q6, q7, q8⟩ := h2
  have hE := ((ext_alloc w (.cells #[.bool b1, .slice a1 n1 c1] 35)).trans (ext_alloc _ (.cells #[.bool b2, .slice a2 n2 c2] 35))).trans (ext_alloc _ (.cells #[.bool false, .slice none 0 0] 35))
  have bA := ((zbx_new w b1 a1 n1 c1).ext (ext_alloc _ (.cells #[.bool b2, .slice a2 n2 c2] 35))).ext (ext_alloc _ (.cells #[.bool false, .slice none 0 0] 35))
  have bB := (zbx_new (w.alloc (.cells #[.bool b1, .slice a1 n1 c1] 35)) b2 a2 n2 c2).ext (ext_alloc _ (.cells #[.bool false, .slice none 0 0] 35))
  have hR := zres_new ((w.alloc (.cells #[.bool b1, .slice a1 n1 c1] 35)).alloc (.cells #[.bool b2, .slice a2 n2 c2] 35))
  rw [show (w.alloc (.cells #[.bool b1, .slice a1 n1 c1] 35)).heap.size = w.heap.size + 1 from by simp] at bB
  rw [show ((w.alloc (.cells #[.bool b1, .slice a1 n1 c1] 35)).alloc (.cells #[.bool b2, .slice a2 n2 c2] 35)).heap.size = w.heap.size + 1 + 1 from by simp] at hR
  have HV : Hid (∀ M : List Nat, zval M = zval la * zval lb → z1 * z2 = if (!(b1 == b2)) = true then -(zval M : Int) else (zval M : Int)) := by
    intro M hM
    rw [p7, q7, hM]
    cases b1 <;> cases b2 <;> simp [Int.neg_mul, Int.mul_neg]
  have hA : n1 = 0 ∨ ∃ b o, a1 = some ⟨b, o, none⟩ := by
    by_cases h0 : n1 = 0
    · exact Or.inl h0
    · exact Or.inr (p4.some_of (by omega))
  have hB : n2 = 0 ∨ ∃ b o, a2 = some ⟨b, o, none⟩ := by
    by_cases h0 : n2 = 0
    · exact Or.inl h0
    · exact Or.inr (q4.some_of (by omega))
  have P1 := Lib.hid p1; have P4 := Lib.hid p4; have P5 := Lib.hid p5
  have Q1 := Lib.hid q1; have Q4 := Lib.hid q4; have Q5 := Lib.hid q5
  have x0 := bA.c0; have x1 := bA.c1; have y0 := bB.c0; have y1 := bB.c1
  obtain ⟨bb, ebb⟩ : ∃ bb, (!(b1 == b2)) = bb := ⟨_, rfl⟩
  rw [ebb] at HV
  clear p1 p2 p3 p4 p5 p6 p7 p8 q1 q2 q3 q4 q5 q6 q7 q8
  go_enter Tryz.func82, Tryz.ntmps82
  go_wp2_with (at_make; refine wpList_make_irow _ rfl _ _ rfl _ _ _ _ (n1 + n2 + 1) rfl rfl (by omega) (by omega) (by omega) ?_; intro w1 hr1 he1 hz1)
  have hWB : (((w.alloc (.cells #[.bool b1, .slice a1 n1 c1] 35)).alloc (.cells #[.bool b2, .slice a2 n2 c2] 35)).alloc (.cells #[.bool false, .slice none 0 0] 35)).heap.size = w.heap.size + 1 + 1 + 1 := by simp
  generalize ((w.alloc (.cells #[.bool b1, .slice a1 n1 c1] 35)).alloc (.cells #[.bool b2, .slice a2 n2 c2] 35)).alloc (.cells #[.bool false, .slice none 0 0] 35) = WB at *
  rw [hWB] at hr1
  have HWB := Lib.hid hWB
  clear hWB
  have lB : w.heap.size + 1 + 1 < WB.heap.size := hR.lt
  go_loopw [6] (fun iv wr => ∃ (i : Nat) (L : List Nat), iv = .int .i64 i ∧ i ≤ n1 ∧ L.length = n1 + n2 + 1 ∧ ZD L ∧ IRow wr (w.heap.size + 1 + 1 + 1) L ∧ zval L = zval (la.take i) * zval lb ∧ Ext WB wr) (fun iv _ => n1 - (intOf iv).toNat)
  case atStart => exact ⟨0, List.replicate (n1 + n2 + 1) 0, rfl, Nat.zero_le _, by simp, ZD.replicate _, hr1, by rw [zval_replicate]; simp [zval], he1⟩
  case round =>
    clear hr1 he1 hz1
    obtain ⟨i, L, rfl, hi, hL, hd, hr, hval, hEr⟩ := hrel
    have HL := Lib.hid hL; have Hd := Lib.hid hd; have Hr := Lib.hid hr; have Hval := Lib.hid hval; have HEr := Lib.hid hEr
    have d0 := zKeep hEr bA.lt x0; have d1 := zKeep hEr bA.lt x1; have d2 := zKeep hEr bB.lt y0; have d3 := zKeep hEr bB.lt y1
    clear hL hd hr hval hEr
    by_cases hlt : i < n1
    · have ii : (i : Int) < (n1 : Int) := by omega
      rcases hA with h0 | ⟨b, o, rfl⟩
      · omega
      obtain ⟨x, hx⟩ : ∃ x, la.getD i 0 = x := ⟨_, rfl⟩
      have hx4 : x < 10000 := by rw [← hx]; exact P5.out.get i
      have Hx := Lib.hid hx
      clear hx
      go_wp2_with fail
      go_loopw [7, 8] (fun cv jv wx => ∃ (j c : Nat) (M : List Nat), jv = .int .i64 j ∧ cv = .int .i64 c ∧ c ≤ 9999 ∧ j ≤ n2 + 1 ∧ M.length = n1 + n2 + 1 ∧ ZD M ∧ IRow wx (w.heap.size + 1 + 1 + 1) M ∧ zval M + 10000 ^ (i + j) * c = zval (la.take i) * zval lb + 10000 ^ i * (x * zval (lb.take j)) ∧ Ext WB wx) (fun _ jv _ => n2 + 1 - (intOf jv).toNat)
      case atStart => exact ⟨0, 0, L, rfl, rfl, by omega, by omega, HL.out, Hd.out, Hr.out, by rw [Hval.out]; simp [zval], HEr.out⟩
      case round =>
        clear d0 d1 d2 d3 Hr Hval HEr HL Hd
        obtain ⟨j, c, M, rfl, rfl, hc9, hjm, hM, hdM, hrM, hinv, hEx⟩ := hrel
        have HM := Lib.hid hM; have HdM := Lib.hid hdM; have HrM := Lib.hid hrM; have Hinv := Lib.hid hinv
        have d0 := zKeep hEx bA.lt x0; have d1 := zKeep hEx bA.lt x1; have d2 := zKeep hEx bB.lt y0; have d3 := zKeep hEx bB.lt y1
        have HEx := Lib.hid hEx
        clear hM hdM hrM hinv hEx
        by_cases hgo : j < n2 ∨ 0 < c
        · have hj2 : j ≤ n2 := by
            by_cases h : j < n2
            · omega
            · have h3 : 0 < c := by omega
              have := zmul_room (by rw [P1.out]; exact hlt) P5.out Q5.out Hx.out h3 Hinv.out (by rw [Q1.out]; omega)
              rw [Q1.out] at this
              omega
          have hcM := HrM.out.cell (i + j) (by rw [HM.out]; omega)
          have hfz := HrM.out.frozen (i + j)
          obtain ⟨y, hy⟩ : ∃ y, M.getD (i + j) 0 = y := ⟨_, rfl⟩
          have hy4 : y < 10000 := by rw [← hy]; exact HdM.out.get _
          rw [hy] at hcM
          have Hy := Lib.hid hy
          have ij : (i : Int) + (j : Int) < (n1 : Int) + (n2 : Int) + 1 := by omega
          clear hy
          by_cases hjn : j < n2
          · rcases hB with h0 | ⟨b', o', rfl⟩
            · omega
            have ij2 : (j : Int) < (n2 : Int) := by omega
            have hcx := (P4.out.ext (hE.trans HEx.out)).at i (by rw [P1.out]; exact hlt)
            have hcy := (Q4.out.ext (hE.trans HEx.out)).at j (by rw [Q1.out]; exact hjn)
            rw [Hx.out] at hcx
            obtain ⟨d, hdd⟩ : ∃ d, lb.getD j 0 = d := ⟨_, rfl⟩
            have hd4 : d < 10000 := by rw [← hdd]; exact Q5.out.get j
            rw [hdd] at hcy
            have Hb := Lib.hid (zval_take_in (l := lb) (k := j) (by rw [Q1.out]; exact hjn))
            rw [hdd] at Hb
            obtain ⟨hca, hpb⟩ := zmul_carry hc9 hy4 hx4 hd4
            obtain ⟨p, hp⟩ : ∃ p, x * d = p := ⟨_, rfl⟩
            obtain ⟨dg, hdg⟩ : ∃ dg, (c + y + x * d) % 10000 = dg := ⟨_, rfl⟩
            obtain ⟨c', hc'⟩ : ∃ c', (c + y + x * d) / 10000 = c' := ⟨_, rfl⟩
            have Hstep := Lib.hid (zmul_step (t := c + y + x * d) (by rw [HM.out]; omega) Hy.out Hb.out rfl hdg hc' Hinv.out)
            rw [hp] at hdg hc' hca hpb
            rw [hc'] at hca
            have ip : (x : Int) * (d : Int) = (p : Int) := by rw [← hp]; exact (Int.natCast_mul x d).symm
            have hdl : dg < 10000 := by omega
            have rr : ((c : Int) + (y : Int) + (p : Int)).tmod 10000 = (dg : Int) := by rw [Int.tmod_eq_emod_of_nonneg (by omega)]; omega
            have qq : ((c : Int) + (y : Int) + (p : Int)).tdiv 10000 = (c' : Int) := by rw [Int.tdiv_eq_ediv_of_nonneg (by omega)]; omega
            clear hdg hc' hp hdd hgo
            go_wp2_with fail
            go_quiet (fail)
            go_wp2_with fail
            go_roundw
            case rel => exact ⟨j + 1, c', M.set (i + j) dg, by go_num, rfl, hca, by omega, by rw [List.length_set]; exact HM.out, HdM.out.set _ _ hdl, (HrM.out.ext (zext_drewN (Ext.refl _) _)).set _ _, Hstep.out, Below.setCell (zext_drewN HEx.out _) (by rw [HWB.out]; exact Nat.le_refl _) _⟩
            case measure => simp [intOf]; omega
          · have ij2 : ¬ (j : Int) < (n2 : Int) := by omega
            have ic : (0 : Int) < (c : Int) := by omega
            obtain rfl : j = n2 := by omega
            obtain ⟨dg, hdg⟩ : ∃ dg, (c + y + x * 0) % 10000 = dg := ⟨_, rfl⟩
            obtain ⟨c', hc'⟩ : ∃ c', (c + y + x * 0) / 10000 = c' := ⟨_, rfl⟩
            have Hstep := Lib.hid (zmul_step (t := c + y + x * 0) (by rw [HM.out]; omega) Hy.out (zval_take_out (l := lb) (k := j) (by rw [Q1.out]; omega)) rfl hdg hc' Hinv.out)
            rw [Nat.mul_zero, Nat.add_zero] at hdg hc'
            have hdl : dg < 10000 := by omega
            have hca : c' ≤ 9999 := by omega
            have rr : ((c : Int) + (y : Int)).tmod 10000 = (dg : Int) := by rw [Int.tmod_eq_emod_of_nonneg (by omega)]; omega
            have qq : ((c : Int) + (y : Int)).tdiv 10000 = (c' : Int) := by rw [Int.tdiv_eq_ediv_of_nonneg (by omega)]; omega
            clear hdg hc' hgo
            go_wp2_with fail
            go_roundw
            case rel => exact ⟨j + 1, c', M.set (i + j) dg, by go_num, rfl, hca, by omega, by rw [List.length_set]; exact HM.out, HdM.out.set _ _ hdl, HrM.out.set _ _, Hstep.out, Below.setCell HEx.out (by rw [HWB.out]; exact Nat.le_refl _) _⟩
            case measure => simp [intOf]
        · obtain rfl : c = 0 := by omega
          have ij2 : ¬ (j : Int) < (n2 : Int) := by omega
          have Hrow := Lib.hid (zmul_row (by rw [P1.out]; exact hlt) Hx.out (by rw [Q1.out]; omega) Hinv.out)
          clear hgo
          go_wp2_with fail
          go_roundw
          case rel => exact ⟨i + 1, M, by go_num, by omega, HM.out, HdM.out, HrM.out, Hrow.out, HEx.out⟩
          case measure => simp [intOf]; omega
    · obtain rfl : i = n1 := by omega
      have ii : ¬ (i : Int) < (i : Int) := by omega
      have Hm := Lib.hid (zmade_any bb (some ⟨w.heap.size + 1 + 1 + 1, 0, none⟩) L (i + n2 + 1) (i + n2 + 1) wr HL.out Hr.out.seg Hd.out (Nat.le_refl _) (by unfold maxLen; omega) (by omega) (z1 * z2) (HV.out L (by rw [Hval.out, List.take_of_length_le (by rw [P1.out]; exact Nat.le_refl _)])))
      clear hlt
      go_wp2_with fail
      refine Hm.out.mono ?_
      rintro e w9 ⟨b', a', n', c', rfl, hI, hle, hx9⟩
      have hR9 := hR.ext (HEr.out.trans hx9)
      have k0 := hR9.c0; have k1 := hR9.c1; have f0 := hR9.f 0; have f1 := hR9.f 1
      go_wp2_with fail
      exact bodyPost_ret (v := .agg #[.bool b', .slice a' n' c']) (by simp [results, Tryz.results82, go_sem, k0, k1]) rfl ⟨b', a', n', c', rfl, hI.keepRes hR9.row _ _, by omega, zput2 (hE.trans (HEr.out.trans hx9)) (by omega) _ _⟩

end Go.Proofs.YtiicfpdiehgikaaGreatDoor
namespace Go.Proofs.YtiicfpdiehgikaaGreatDoor
open Go.RowKit

theorem zof_few {k u v : Nat} (hu : 0 < u) (h : 10000 ^ k * u ≤ v) (hv : v ≤ 9223372036854775808) : k < 5 := by
  apply Nat.lt_of_not_le
  intro hk
  have h1 : (10000 : Nat) ^ 5 ≤ 10000 ^ k := Nat.pow_le_pow_right (by decide) hk
  have h2 : 10000 ^ k ≤ 10000 ^ k * u := Nat.le_mul_of_pos_right _ hu
  omega

theorem zof_step {l : List Nat} {k u v d q : Nat} (hl : l.length = k) (h : zval l + 10000 ^ k * u = v) (hd : u % 10000 = d) (hq : u / 10000 = q) : zval (l ++ [d]) + 10000 ^ (k + 1) * q = v := by
  rw [zval_snoc, hl, Nat.pow_succ, Nat.mul_assoc, Nat.add_assoc, ← Nat.mul_add]
  rw [← h]
  congr 2
  omega

set_option maxHeartbeats 2000000 in
set_option maxRecDepth 100000 in
theorem ZOf_any (n : Int) (h1 : -9223372036854775808 ≤ n) (h2 : n ≤ 9223372036854775807) (w : World) :
    Calls Tryz.prog 46 #[.int .i64 n] w (ZRet w n 5) := by
  obtain ⟨i0, hi, hz0, hz1, hz2⟩ := info_parts int_info
  have hE := ext_alloc w (.cells #[.bool false, .slice none 0 0] 35)
  have hR := zres_new w
  obtain ⟨v, hv⟩ : ∃ v, n.natAbs = v := ⟨_, rfl⟩
  have hvb : v ≤ 9223372036854775808 := by omega
  by_cases hneg : n < 0
  · obtain ⟨X, hX⟩ : ∃ X : Nat, IntKind.u64.wrap n = (X : Int) := ⟨(IntKind.u64.wrap n).toNat, by rw [IntKind.wrap_u64]; omega⟩
    have hX2 : IntKind.u64.wrap (-(X : Int)) = (v : Int) := by rw [IntKind.wrap_u64] at hX ⊢; omega
    have Hz : Hid (n = if true = true then -(v : Int) else (v : Int)) := by show _ = _; simp; omega
    have Hvb := Lib.hid hvb
    clear hv hvb
    go_enter Tryz.func46, Tryz.ntmps46
    go_wp2_with fail
    generalize w.alloc (.cells #[.bool false, .slice none 0 0] 35) = W0 at *
    clear hX hX2
    go_loopw [3, 4] (fun uv dv wr => ∃ (k u : Nat) (l : List Nat), uv = .int .u64 u ∧ l.length = k ∧ k ≤ 5 ∧ ZD l ∧ wr.ownsRow W0.heap.size 3 1 dv k (inC l) ∧ zval l + 10000 ^ k * u = v ∧ Ext W0 wr) (fun uv _ _ => (intOf uv).toNat)
    case atStart => exact ⟨0, v, [], by go_num, rfl, by omega, ZD.nil, (show W0.ownsRow W0.heap.size 3 1 (.slice none 0 0) 0 (inC []) from World.ownsRow_nil _ _ _ _), by simp [zval], Ext.refl _⟩
    case round =>
      obtain ⟨k, u, l, rfl, hl, hk, hd, hown, hval, hEr⟩ := hrel
      have Hl := Lib.hid hl; have Hd := Lib.hid hd; have Hval := Lib.hid hval; have Hown := Lib.hid hown
      by_cases hu : 0 < u
      · have hk5 : k < 5 := zof_few hu (by omega) Hvb.out
        have iu : (0 : Int) < (u : Int) := by omega
        obtain ⟨dg, hdg⟩ : ∃ dg, u % 10000 = dg := ⟨_, rfl⟩
        obtain ⟨q, hq⟩ : ∃ q, u / 10000 = q := ⟨_, rfl⟩
        have Hst := Lib.hid (zof_step hl hval hdg hq)
        have hdl : dg < 10000 := by omega
        have hqu : q < u := by omega
        have hub : u ≤ 9223372036854775808 := by
          have h0 := Hvb.out
          have h1 : 1 ≤ 10000 ^ k := Nat.one_le_pow _ _ (by decide)
          have h2 : 1 * u ≤ 10000 ^ k * u := Nat.mul_le_mul_right _ h1
          omega
        have r1 : (u : Int).tmod 10000 = (dg : Int) := by rw [Int.tmod_eq_emod_of_nonneg (by omega)]; omega
        have r2 : (u : Int) % 10000 = (dg : Int) := by omega
        have r3 : (u : Int).tdiv 10000 = (q : Int) := by rw [Int.tdiv_eq_ediv_of_nonneg (by omega)]; omega
        have r4 : (u : Int) / 10000 = (q : Int) := by omega
        clear hdg hq hl hd hown hval
        go_wp2_with (at_builtin; refine wpList_append_own _ rfl _ _ 33 rfl W0.heap.size 3 i0 (.int .i64 0) 1 8 Tryz.underlying33 hi hz0 hz1 hz2 rfl (by decide) _ k (inC l) rfl (Hown.out.alloc _) ⟨wr.heap.size, 0, none⟩ 1 1 [.int .i64 (dg : Int)] rfl rfl (new_int wr _ _) (one_int _) (by unfold maxLen; omega) (by omega) (Nat.le_trans hEr.size (ext_alloc wr _).size) ?_; intro v' w' hown' hgrow' _)
        go_roundw
        case rel => exact ⟨k + 1, q, l ++ [dg], by go_num, by rw [List.length_append, Hl.out]; rfl, by omega, Hd.out.snoc hdl, by rw [inC_snoc]; exact hown', Hst.out, ext_grown (hEr.trans (ext_alloc wr _)) hgrow' (fun j hj => (Hown.out.lt j hj).1)⟩
        case measure => simp [intOf]; omega
      · obtain rfl : u = 0 := by omega
        have hzl : zval l = v := by have := Hval.out; omega
        obtain ⟨a9, c9, rfl, q1, q2, q3, q4⟩ := iseg_of_own Hown.out
        have Hm := Lib.hid (zmade_any true a9 l k c9 wr q3 q4 Hd.out q1 q2 (by omega) n (by rw [hzl]; exact Hz.out))
        clear hl hd hown hval hzl
        go_wp2_with fail
        refine Hm.out.mono ?_
        rintro e w9 ⟨b', a', n', c', rfl, hI, hle, hx9⟩
        have hR9 := hR.ext (hEr.trans hx9)
        have k0 := hR9.c0; have k1 := hR9.c1; have f0 := hR9.f 0; have f1 := hR9.f 1
        go_wp2_with fail
        exact bodyPost_ret (v := .agg #[.bool b', .slice a' n' c']) (by simp [results, Tryz.results46, go_sem, k0, k1]) rfl ⟨b', a', n', c', rfl, hI.keepRes hR9.row _ _, by omega, zput2 (hE.trans (hEr.trans hx9)) (Nat.le_refl _) _ _⟩
  · have hX : IntKind.u64.wrap n = (v : Int) := by rw [IntKind.wrap_u64]; omega
    have hnd : decide (n < 0) = false := by rw [decide_eq_false_iff_not]; exact hneg
    have Hz : Hid (n = if false = true then -(v : Int) else (v : Int)) := by show _ = _; simp; omega
    have Hvb := Lib.hid hvb
    clear hv hvb
    go_enter Tryz.func46, Tryz.ntmps46
    go_wp2_with fail
    generalize w.alloc (.cells #[.bool false, .slice none 0 0] 35) = W0 at *
    clear hX
    go_loopw [3, 4] (fun uv dv wr => ∃ (k u : Nat) (l : List Nat), uv = .int .u64 u ∧ l.length = k ∧ k ≤ 5 ∧ ZD l ∧ wr.ownsRow W0.heap.size 3 1 dv k (inC l) ∧ zval l + 10000 ^ k * u = v ∧ Ext W0 wr) (fun uv _ _ => (intOf uv).toNat)
    case atStart => exact ⟨0, v, [], by go_num, rfl, by omega, ZD.nil, (show W0.ownsRow W0.heap.size 3 1 (.slice none 0 0) 0 (inC []) from World.ownsRow_nil _ _ _ _), by simp [zval], Ext.refl _⟩
    case round =>
      obtain ⟨k, u, l, rfl, hl, hk, hd, hown, hval, hEr⟩ := hrel
      have Hl := Lib.hid hl; have Hd := Lib.hid hd; have Hval := Lib.hid hval; have Hown := Lib.hid hown
      by_cases hu : 0 < u
      · have hk5 : k < 5 := zof_few hu (by omega) Hvb.out
        have iu : (0 : Int) < (u : Int) := by omega
        obtain ⟨dg, hdg⟩ : ∃ dg, u % 10000 = dg := ⟨_, rfl⟩
        obtain ⟨q, hq⟩ : ∃ q, u / 10000 = q := ⟨_, rfl⟩
        have Hst := Lib.hid (zof_step hl hval hdg hq)
        have hdl : dg < 10000 := by omega
        have hqu : q < u := by omega
        have hub : u ≤ 9223372036854775808 := by
          have h0 := Hvb.out
          have h1 : 1 ≤ 10000 ^ k := Nat.one_le_pow _ _ (by decide)
          have h2 : 1 * u ≤ 10000 ^ k * u := Nat.mul_le_mul_right _ h1
          omega
        have r1 : (u : Int).tmod 10000 = (dg : Int) := by rw [Int.tmod_eq_emod_of_nonneg (by omega)]; omega
        have r2 : (u : Int) % 10000 = (dg : Int) := by omega
        have r3 : (u : Int).tdiv 10000 = (q : Int) := by rw [Int.tdiv_eq_ediv_of_nonneg (by omega)]; omega
        have r4 : (u : Int) / 10000 = (q : Int) := by omega
        clear hdg hq hl hd hown hval
        go_wp2_with (at_builtin; refine wpList_append_own _ rfl _ _ 33 rfl W0.heap.size 3 i0 (.int .i64 0) 1 8 Tryz.underlying33 hi hz0 hz1 hz2 rfl (by decide) _ k (inC l) rfl (Hown.out.alloc _) ⟨wr.heap.size, 0, none⟩ 1 1 [.int .i64 (dg : Int)] rfl rfl (new_int wr _ _) (one_int _) (by unfold maxLen; omega) (by omega) (Nat.le_trans hEr.size (ext_alloc wr _).size) ?_; intro v' w' hown' hgrow' _)
        go_roundw
        case rel => exact ⟨k + 1, q, l ++ [dg], by go_num, by rw [List.length_append, Hl.out]; rfl, by omega, Hd.out.snoc hdl, by rw [inC_snoc]; exact hown', Hst.out, ext_grown (hEr.trans (ext_alloc wr _)) hgrow' (fun j hj => (Hown.out.lt j hj).1)⟩
        case measure => simp [intOf]; omega
      · obtain rfl : u = 0 := by omega
        have hzl : zval l = v := by have := Hval.out; omega
        obtain ⟨a9, c9, rfl, q1, q2, q3, q4⟩ := iseg_of_own Hown.out
        have Hm := Lib.hid (zmade_any false a9 l k c9 wr q3 q4 Hd.out q1 q2 (by omega) n (by rw [hzl]; exact Hz.out))
        clear hl hd hown hval hzl
        go_wp2_with fail
        refine Hm.out.mono ?_
        rintro e w9 ⟨b', a', n', c', rfl, hI, hle, hx9⟩
        have hR9 := hR.ext (hEr.trans hx9)
        have k0 := hR9.c0; have k1 := hR9.c1; have f0 := hR9.f 0; have f1 := hR9.f 1
        go_wp2_with fail
        exact bodyPost_ret (v := .agg #[.bool b', .slice a' n' c']) (by simp [results, Tryz.results46, go_sem, k0, k1]) rfl ⟨b', a', n', c', rfl, hI.keepRes hR9.row _ _, by omega, zput2 (hE.trans (hEr.trans hx9)) (Nat.le_refl _) _ _⟩

end Go.Proofs.YtiicfpdiehgikaaGreatDoor
namespace Go.Proofs.YtiicfpdiehgikaaGreatDoor
open Go.RowKit

/-- Four digits. -/
theorem padD_four (x : Nat) (h : x < 10000) : padD 4 x = [UInt8.ofNat (48 + x / 1000), UInt8.ofNat (48 + x / 100 % 10), UInt8.ofNat (48 + x / 10 % 10), UInt8.ofNat (48 + x % 10)] := by
  have e : x / 1000 % 10 = x / 1000 := by omega
  unfold padD Lib.dg
  simp [List.range_succ, e]

/-- A digit more behind the digits of a number. -/
theorem dec_step (x v : Nat) (hx : x < 10000) (hv : 0 < v) : Lib.decDigits (x + 10000 * v) = Lib.decDigits v ++ padD 4 x := by
  have e1 : (x + 10000 * v) / 10 ^ 4 = v := by omega
  have e2 : (x + 10000 * v) % 10 ^ 4 = x := by omega
  have h := decDigits_append 4 (x + 10000 * v) (by rw [e1]; exact hv)
  rw [e1, e2] at h
  exact h

/-- The first digit is written without noughts ahead. -/
theorem dec_first (x : Nat) (hx : x < 10000) (h0 : 0 < x) : ∃ f, f ≤ 3 ∧ (∀ t, t < f → (padD 4 x).getD t 0 = 48) ∧ (padD 4 x).getD f 0 ≠ 48 ∧ Lib.decDigits x = (padD 4 x).drop f := by
  have hnd : Lib.nDigits x ≤ 4 := nDigits_le 4 x (by omega) (by omega)
  have hnp := Lib.nDigits_pos x
  have hp := padD_fill 4 x hnd
  have hl : (List.replicate (4 - Lib.nDigits x) (48 : UInt8)).length = 4 - Lib.nDigits x := by simp
  refine ⟨4 - Lib.nDigits x, by omega, fun t ht => ?_, ?_, ?_⟩
  · rw [hp, List.getD_eq_getElem?_getD, List.getElem?_append_left (by rw [hl]; exact ht), List.getElem?_replicate, if_pos ht]
    rfl
  · rw [hp, List.getD_eq_getElem?_getD, List.getElem?_append_right (by rw [hl]; exact Nat.le_refl _), hl, Nat.sub_self]
    obtain ⟨d, r, e, _, h2⟩ := decN_head x
    intro hc
    unfold decN at e
    cases hd : Lib.decDigits x with
    | nil => rw [hd] at e; simp at e
    | cons y ys =>
      rw [hd] at e hc
      simp only [List.map_cons, List.cons.injEq] at e
      simp at hc
      rw [hc] at e
      have := h2 (by rw [← e.1]; rfl)
      omega
  · rw [hp, List.drop_append_of_le_length (by rw [hl]; exact Nat.le_refl _), List.drop_of_length_le (by rw [hl]; exact Nat.le_refl _), List.nil_append]

/-- What is written of the digits from k on. -/
def ztx (l : List Nat) (k : Nat) : List UInt8 := if k = l.length then [] else Lib.decDigits (zval (l.drop k))
theorem ztx_end (l : List Nat) : ztx l l.length = [] := by unfold ztx; rw [if_pos rfl]
theorem zval_drop (l : List Nat) (k : Nat) (h : k < l.length) : zval (l.drop k) = l.getD k 0 + 10000 * zval (l.drop (k + 1)) := by
  rw [List.drop_eq_getElem_cons h, zval, List.getD_eq_getElem?_getD, List.getElem?_eq_getElem h]; rfl
theorem ZN.drop {l : List Nat} (h : ZN l) (k : Nat) : ZN (l.drop k) := by
  by_cases hk : k < l.length
  · right
    have hl : l ≠ [] := by intro e; subst e; simp at hk
    have := h.resolve_left hl
    rw [List.length_drop, List.getD_eq_getElem?_getD, List.getElem?_drop, show k + (l.length - k - 1) = l.length - 1 by omega, ← List.getD_eq_getElem?_getD]
    exact this
  · left; exact List.drop_of_length_le (by omega)
theorem ztx_first {l : List Nat} {j x : Nat} (hl : l.length = j + 1) (hx : l.getD j 0 = x) : ztx l j = Lib.decDigits x := by
  unfold ztx
  rw [if_neg (by omega), zval_drop l j (by omega), hx, List.drop_of_length_le (by omega)]
  simp [zval]
theorem ztx_next {l : List Nat} {j x : Nat} (hn : ZN l) (hj : j + 1 < l.length) (hx : l.getD j 0 = x) (hx4 : x < 10000) : ztx l j = ztx l (j + 1) ++ padD 4 x := by
  have hp : 0 < zval (l.drop (j + 1)) := by
    apply Nat.pos_of_ne_zero
    intro e
    have := (zval_zero (hn.drop (j + 1))).1 e
    have := congrArg List.length this
    rw [List.length_drop] at this
    simp at this
    omega
  unfold ztx
  rw [if_neg (by omega), if_neg (by omega), zval_drop l j (by omega), hx, dec_step x _ hx4 hp]
theorem ztx_all {l : List Nat} (h : l ≠ []) : ztx l 0 = Lib.decDigits (zval l) := by
  unfold ztx
  rw [if_neg (by intro e; exact h (List.eq_nil_of_length_eq_zero e.symm)), List.drop_zero]


end Go.Proofs.YtiicfpdiehgikaaGreatDoor
namespace Go.Proofs.YtiicfpdiehgikaaGreatDoor
open Go.RowKit

theorem zval_odd (l : List Nat) (x : Nat) (hx : l.getD 0 0 = x) : zval l % 2 = x % 2 := by
  cases l with
  | nil => simp at hx; subst hx; rfl
  | cons y r =>
    simp at hx
    subst hx
    rw [zval]
    omega

theorem IsZ.abs {w : World} {neg : Bool} {ao : Option Addr} {n c : Nat} {z : Int} (h : IsZ w neg ao n c z) : ∃ l : List Nat, l.length = n ∧ n ≤ c ∧ c ≤ maxLen ∧ ISeg w ao l ∧ ZD l ∧ ZN l ∧ z.natAbs = zval l ∧ z = (if neg then -(zval l : Int) else (zval l : Int)) ∧ (l = [] → neg = false) := by
  obtain ⟨l, h1, h2, h3, h4, h5, h6, h7, h8⟩ := h
  exact ⟨l, h1, h2, h3, h4, h5, h6, by rw [h7]; cases neg <;> simp, h7, h8⟩

set_option maxHeartbeats 1000000 in
set_option maxRecDepth 100000 in
theorem zodd_any (neg : Bool) (ao : Option Addr) (n c : Nat) (z : Int) (w : World) (h : IsZ w neg ao n c z) (bo : Bool) (hbo : decide (z.natAbs % 2 = 1) = bo) :
    Calls Tryz.prog 88 #[.agg #[.bool neg, .slice ao n c]] w fun e w' => e = .returned (.bool bo) ∧ Ext w w' := by
  obtain ⟨l, p1, p2, p3, p4, p5, p6, p7, p8, p9⟩ := h.abs
  have hE := ext_alloc w (.cells #[.bool neg, .slice ao n c] 35)
  by_cases h0 : n = 0
  · have hl : l = [] := List.eq_nil_of_length_eq_zero (by omega)
    have hf : bo = false := by rw [← hbo, p7, hl]; rfl
    subst h0 hf
    clear hbo p8 p7 h
    go_enter Tryz.func88, Tryz.ntmps88
    go_wp2
    go_ret
    exact ⟨rfl, ext_alloc _ _⟩
  · obtain ⟨b, o, rfl⟩ := p4.some_of (by omega)
    have hcl := (p4.ext hE).at 0 (by omega)
    rw [Nat.add_zero] at hcl
    obtain ⟨x, hx⟩ : ∃ x, l.getD 0 0 = x := ⟨_, rfl⟩
    rw [hx] at hcl
    have hx4 : x < 10000 := by rw [← hx]; exact p5.get 0
    have hb : bo = decide (x % 2 = 1) := by rw [← hbo, p7, zval_odd l x hx]
    have i0 : (0 : Int) < (n : Int) := by omega
    obtain ⟨r, hr⟩ : ∃ r, x % 2 = r := ⟨_, rfl⟩
    have t1 : (x : Int).tmod 2 = (r : Int) := by rw [Int.tmod_eq_emod_of_nonneg (by omega)]; omega
    have hrb : ((r : Int) == 1) = bo := by
      rw [hb, hr, Bool.eq_iff_iff, beq_iff_eq, decide_eq_true_eq]; omega
    clear hbo p8 p7 h hb hr hx p1 p2 p3 p4 p5 p6 p9 h0
    go_enter Tryz.func88, Tryz.ntmps88
    go_wp2
    go_ret
    exact ⟨rfl, hE⟩

theorem drop_set (D : List Nat) (j x : Nat) (h : j < D.length) : (D.set j x).drop j = x :: D.drop (j + 1) := by
  rw [List.drop_eq_getElem_cons (by rw [List.length_set]; exact h), List.getElem_set_self]
  congr 1
  apply List.ext_getElem?
  intro i
  rw [List.getElem?_drop, List.getElem?_drop, List.getElem?_set_ne (by omega)]

theorem zhalf_step {D l : List Nat} {j c x c1 d c2 : Nat} (hj : j < D.length) (hjl : j < l.length) (hx : l.getD j 0 = x) (hc1 : c1 = c * 10000 + x) (hd : c1 / 2 = d) (hc2 : c1 % 2 = c2) (h : zval (D.drop (j + 1)) * 2 + c = zval (l.drop (j + 1))) :
    zval ((D.set j d).drop j) * 2 + c2 = zval (l.drop j) := by
  rw [drop_set D j d hj, zval, zval_drop l j hjl, hx]
  omega

end Go.Proofs.YtiicfpdiehgikaaGreatDoor
namespace Go.Proofs.YtiicfpdiehgikaaGreatDoor
open Go.RowKit

theorem ZBx.own {W : World} {g : Nat} {b : Bool} {a : Option Addr} {n c : Nat} (h : ZBx W g b a n c) (b' : Bool) (a' : Option Addr) (n' c' : Nat) : ZBx ((W.setCell ⟨g, 0, none⟩ (.bool b')).setCell ⟨g, 1, none⟩ (.slice a' n' c')) g b' a' n' c' := by
  have h1 := heap_setCell_same W g 0 _ _ (.bool b') h.row
  have h2 := heap_setCell_same _ g 1 _ _ (.slice a' n' c') h1
  exact ⟨by rw [h2]; rfl⟩
theorem ZBx.f {W : World} {g : Nat} {b : Bool} {a : Option Addr} {n c : Nat} (h : ZBx W g b a n c) (o : Nat) : W.frozen? ⟨g, o, none⟩ = false := frozen_of_row W g o _ _ h.row

end Go.Proofs.YtiicfpdiehgikaaGreatDoor
namespace Go.Proofs.YtiicfpdiehgikaaGreatDoor
open Go.RowKit

theorem IsZ.len_of {w : World} {neg : Bool} {ao : Option Addr} {n c m : Nat} {z : Int} (h : IsZ w neg ao n c z) (hz : z.natAbs < 10000 ^ m) : n ≤ m := by
  obtain ⟨l, p1, p2, p3, p4, p5, p6, p7, p8, p9⟩ := h.abs
  by_cases hl : l = []
  · rw [← p1, hl]; exact Nat.zero_le _
  · have h1 := zval_ge p6 hl
    rw [← p7, p1] at h1
    have h2 : 10000 ^ (n - 1) < 10000 ^ m := by omega
    have h3 := (Nat.pow_lt_pow_iff_right (a := 10000) (by decide)).1 h2
    omega

end Go.Proofs.YtiicfpdiehgikaaGreatDoor
namespace Go.Proofs.YtiicfpdiehgikaaGreatDoor
open Go.RowKit

/-- These cells are eight numbers f 0 .. f 7 and the power e. -/
def ZCs (w : World) (cs : Array Value) (f : Nat → Int) (e : Int) : Prop := cs.size = 17 ∧
  (∀ i, i < 8 → ∃ (b : Bool) (a : Option Addr) (n c : Nat), cs[i * 2]? = some (.bool b) ∧ cs[i * 2 + 1]? = some (.slice a n c) ∧ IsZ w b a n c (f i)) ∧ cs[16]? = some (.int .i64 e)
theorem ZCs.ext {w w' : World} {cs : Array Value} {f : Nat → Int} {e : Int} (h : ZCs w cs f e) (k : Ext w w') : ZCs w' cs f e :=
  ⟨h.1, fun i hi => by obtain ⟨b, a, n, c, q1, q2, q3⟩ := h.2.1 i hi; exact ⟨b, a, n, c, q1, q2, q3.ext k⟩, h.2.2⟩
theorem ZCs.congr {w : World} {cs : Array Value} {f f' : Nat → Int} {e : Int} (h : ZCs w cs f e) (k : ∀ i, i < 8 → f i = f' i) : ZCs w cs f' e :=
  ⟨h.1, fun i hi => by obtain ⟨b, a, n, c, q1, q2, q3⟩ := h.2.1 i hi; exact ⟨b, a, n, c, q1, q2, q3.cast (k i hi)⟩, h.2.2⟩
theorem ZCs.one {w : World} {cs : Array Value} {f : Nat → Int} {e : Int} (h : ZCs w cs f e) : cs.all (·.oneCell') = true := by
  have h1 := h.1
  rw [Array.all_eq_true]
  intro j hj
  by_cases e16 : j = 16
  · have := h.2.2
    rw [← e16, Array.getElem?_eq_getElem hj] at this
    rw [Option.some.inj this]; rfl
  · obtain ⟨b, a, n, c, q1, q2, _⟩ := h.2.1 (j / 2) (by omega)
    by_cases e : j % 2 = 0
    · rw [show j / 2 * 2 = j by omega, Array.getElem?_eq_getElem hj] at q1; rw [Option.some.inj q1]; rfl
    · rw [show j / 2 * 2 + 1 = j by omega, Array.getElem?_eq_getElem hj] at q2; rw [Option.some.inj q2]; rfl
/-- Block g, which is none of digits, alone has turned. -/
structure ChZ (g : Nat) (w w' : World) : Prop where
  os : w'.os = w.os
  tape : w'.tape = w.tape
  output : w'.output = w.output
  size : w.heap.size ≤ w'.heap.size
  block : ∀ k, k ≠ g → k < w.heap.size → w'.heap[k]? = w.heap[k]?
theorem ChZ.of_only {g : Nat} {w w' : World} (h : Only g w w') : ChZ g w w' := ⟨h.os, h.tape, h.output, by rw [h.size]; exact Nat.le_refl _, fun i hi _ => h.block i hi⟩
theorem ChZ.ext {g : Nat} {a b c : World} (h : Ext a b) (k : ChZ g b c) (hg : a.heap.size ≤ g) : Ext a c :=
  ⟨k.os.trans h.os, k.tape.trans h.tape, k.output.trans h.output, Nat.le_trans h.size k.size, fun i hi => (k.block i (by omega) (Nat.lt_of_lt_of_le hi h.size)).trans (h.block i hi)⟩
theorem ChZ.row {g : Nat} {w w' : World} (c : ChZ g w w') {k : Nat} {o : Obj} (h : w.heap[k]? = some o) (hne : k ≠ g) : w'.heap[k]? = some o := (c.block k hne (Array.getElem?_eq_some_iff.1 h).1).trans h
/-- A block that holds no digits. -/
def NoI (w : World) (g : Nat) : Prop := ∃ (cs : Array Value) (t : TypeId) (fr : Nat × Nat), w.heap[g]? = some (.cells cs t fr) ∧ t ≠ 3
theorem IsZ.chz {w w' : World} {b : Bool} {a : Option Addr} {n c : Nat} {z : Int} {g : Nat} (h : IsZ w b a n c z) (k : ChZ g w w') (hg : NoI w g) : IsZ w' b a n c z := by
  obtain ⟨l, h1, h2, h3, h4, h5⟩ := h
  refine ⟨l, h1, h2, h3, ?_, h5⟩
  rcases h4 with h4 | ⟨bb, o, rfl, hb, hc⟩
  · exact Or.inl h4
  · have hne : bb ≠ g := by
      rintro rfl
      obtain ⟨cs, t, fr, e1, e2⟩ := hg
      obtain ⟨cur, fr', e3⟩ := hb
      rw [e1] at e3
      injection e3 with e3
      injection e3 with _ e4 _
      exact e2 e4
    have hblk := k.block bb hne hb.lt
    exact Or.inr ⟨bb, o, rfl, hb.block hblk, fun t ht => (World.cell?_of_block (a := ⟨bb, o + t, none⟩) hblk).trans (hc t ht)⟩
theorem ZCs.chz {w w' : World} {cs : Array Value} {f : Nat → Int} {e : Int} {g : Nat} (h : ZCs w cs f e) (k : ChZ g w w') (hg : NoI w g) : ZCs w' cs f e :=
  ⟨h.1, fun i hi => by obtain ⟨b, a, n, c, q1, q2, q3⟩ := h.2.1 i hi; exact ⟨b, a, n, c, q1, q2, q3.chz k hg⟩, h.2.2⟩
/-- A variable of type R. -/
def ZVar (w : World) (g : Nat) (f : Nat → Int) (e : Int) : Prop := ∃ cs, w.heap[g]? = some (.cells cs 38 (0, 0)) ∧ ZCs w cs f e
theorem ZVar.lt {w : World} {g : Nat} {f : Nat → Int} {e : Int} (h : ZVar w g f e) : g < w.heap.size := by
  obtain ⟨cs, h1, _⟩ := h
  exact (Array.getElem?_eq_some_iff.1 h1).1
theorem ZVar.no {w : World} {g : Nat} {f : Nat → Int} {e : Int} (h : ZVar w g f e) : NoI w g := by
  obtain ⟨cs, h1, _⟩ := h
  exact ⟨cs, _, _, h1, by decide⟩
theorem ZVar.ext {w w' : World} {g : Nat} {f : Nat → Int} {e : Int} (h : ZVar w g f e) (k : Ext w w') : ZVar w' g f e := by
  have hl := h.lt
  obtain ⟨cs, h1, h2⟩ := h
  exact ⟨cs, (k.block _ hl).trans h1, h2.ext k⟩
theorem ZVar.congr {w : World} {g : Nat} {f f' : Nat → Int} {e : Int} (h : ZVar w g f e) (k : ∀ i, i < 8 → f i = f' i) : ZVar w g f' e := by
  obtain ⟨cs, h1, h2⟩ := h
  exact ⟨cs, h1, h2.congr k⟩
theorem ZVar.chz {w w' : World} {g k : Nat} {f : Nat → Int} {e : Int} (h : ZVar w k f e) (c : ChZ g w w') (hg : NoI w g) (hne : k ≠ g) : ZVar w' k f e := by
  obtain ⟨cs, h1, h2⟩ := h
  exact ⟨cs, c.row h1 hne, h2.chz c hg⟩
theorem ZVar.get {w : World} {g : Nat} {f : Nat → Int} {e : Int} (h : ZVar w g f e) (i : Nat) (hi : i < 8) : ∃ (b : Bool) (a : Option Addr) (n c : Nat),
    w.cell? ⟨g, i * 2, none⟩ = some (.bool b) ∧ w.cell? ⟨g, i * 2 + 1, none⟩ = some (.slice a n c) ∧ w.frozen? ⟨g, i * 2, none⟩ = false ∧ w.frozen? ⟨g, i * 2 + 1, none⟩ = false ∧ IsZ w b a n c (f i) := by
  obtain ⟨cs, h1, h2⟩ := h
  obtain ⟨b, a, n, c, q1, q2, q3⟩ := h2.2.1 i hi
  refine ⟨b, a, n, c, ?_, ?_, frozen_of_row w g _ _ _ h1, frozen_of_row w g _ _ _ h1, q3⟩
  · rw [cell_of_row w g _ _ _ (0, 0) h1]; exact q1
  · rw [cell_of_row w g _ _ _ (0, 0) h1]; exact q2
theorem ZVar.gete {w : World} {g : Nat} {f : Nat → Int} {e : Int} (h : ZVar w g f e) : w.cell? ⟨g, 16, none⟩ = some (.int .i64 e) ∧ w.frozen? ⟨g, 16, none⟩ = false := by
  obtain ⟨cs, h1, h2⟩ := h
  exact ⟨by rw [cell_of_row w g _ _ _ (0, 0) h1]; exact h2.2.2, frozen_of_row w g _ _ _ h1⟩
theorem put2_only (w : World) (g i j : Nat) (u v : Value) : Only g w ((w.setCell ⟨g, i, none⟩ u).setCell ⟨g, j, none⟩ v) := ((Only.refl _ _).setCell _ _).setCell _ _
theorem ZVar.set {w : World} {g : Nat} {f : Nat → Int} {e : Int} (h : ZVar w g f e) (i : Nat) (hi : i < 8) {b' : Bool} {a' : Option Addr} {n' c' : Nat} {z : Int} (hI : IsZ w b' a' n' c' z) :
    ZVar ((w.setCell ⟨g, i * 2, none⟩ (.bool b')).setCell ⟨g, i * 2 + 1, none⟩ (.slice a' n' c')) g (updN f i z) e ∧ ChZ g w ((w.setCell ⟨g, i * 2, none⟩ (.bool b')).setCell ⟨g, i * 2 + 1, none⟩ (.slice a' n' c')) := by
  have hno := h.no
  have hch : ChZ g w ((w.setCell ⟨g, i * 2, none⟩ (.bool b')).setCell ⟨g, i * 2 + 1, none⟩ (.slice a' n' c')) := ChZ.of_only (put2_only w g _ _ _ _)
  obtain ⟨cs, h1, h2⟩ := h
  have hsz := h2.1
  have e1 := heap_setCell_same w g (i * 2) _ _ (.bool b') h1
  have e2 := heap_setCell_same (w.setCell ⟨g, i * 2, none⟩ (.bool b')) g (i * 2 + 1) _ _ (.slice a' n' c') e1
  refine ⟨⟨_, e2, by simp [hsz], fun j hj => ?_, ?_⟩, hch⟩
  · by_cases hji : j = i
    · subst hji
      refine ⟨b', a', n', c', ?_, ?_, ?_⟩
      · rw [Array.getElem?_setIfInBounds_ne (by omega), Array.getElem?_setIfInBounds_self_of_lt (by omega)]
      · rw [Array.getElem?_setIfInBounds_self_of_lt (by simp; omega)]
      · unfold updN; rw [if_pos rfl]; exact hI.chz hch hno
    · obtain ⟨s, a, n, c, q1, q2, q3⟩ := h2.2.1 j hj
      refine ⟨s, a, n, c, ?_, ?_, ?_⟩
      · rw [Array.getElem?_setIfInBounds_ne (by omega), Array.getElem?_setIfInBounds_ne (by omega)]; exact q1
      · rw [Array.getElem?_setIfInBounds_ne (by omega), Array.getElem?_setIfInBounds_ne (by omega)]; exact q2
      · unfold updN; rw [if_neg hji]; exact q3.chz hch hno
  · rw [Array.getElem?_setIfInBounds_ne (by omega), Array.getElem?_setIfInBounds_ne (by omega)]; exact h2.2.2
theorem ZVar.sete {w : World} {g : Nat} {f : Nat → Int} {e : Int} (h : ZVar w g f e) (e' : Int) : ZVar (w.setCell ⟨g, 16, none⟩ (.int .i64 e')) g f e' ∧ ChZ g w (w.setCell ⟨g, 16, none⟩ (.int .i64 e')) := by
  have hno := h.no
  have hch : ChZ g w (w.setCell ⟨g, 16, none⟩ (.int .i64 e')) := ChZ.of_only ((Only.refl _ _).setCell _ _)
  obtain ⟨cs, h1, h2⟩ := h
  have hsz := h2.1
  have e1 := heap_setCell_same w g 16 _ _ (.int .i64 e') h1
  refine ⟨⟨_, e1, by simp [hsz], fun j hj => ?_, ?_⟩, hch⟩
  · obtain ⟨s, a, n, c, q1, q2, q3⟩ := h2.2.1 j hj
    refine ⟨s, a, n, c, ?_, ?_, q3.chz hch hno⟩
    · rw [Array.getElem?_setIfInBounds_ne (by omega)]; exact q1
    · rw [Array.getElem?_setIfInBounds_ne (by omega)]; exact q2
  · rw [Array.getElem?_setIfInBounds_self_of_lt (by omega)]
theorem ZCs.box {w : World} {cs : Array Value} {f : Nat → Int} {e : Int} (h : ZCs w cs f e) : ZVar (w.alloc (.cells cs 38)) w.heap.size f e := ⟨cs, heap_alloc_new w _, h.ext (Ext.alloc _ _)⟩
theorem ZCs.setRow {w : World} {g : Nat} {cs : Array Value} {f f0 : Nat → Int} {e e0 : Int} (h : ZCs w cs f e) (h0 : ZVar w g f0 e0) : ZVar (w.setRow g cs) g f e ∧ ChZ g w (w.setRow g cs) ∧ (w.setRow g cs).heap[g]? = some (.cells cs 38 (0, 0)) ∧ ZCs (w.setRow g cs) cs f e := by
  have hno := h0.no
  have hch : ChZ g w (w.setRow g cs) := ChZ.of_only (setRow_only w g cs)
  obtain ⟨c0, hr, _⟩ := h0
  have hrow := setRow_heap w g _ cs _ (0, 0) hr
  exact ⟨⟨cs, hrow, h.chz hch hno⟩, hch, hrow, h.chz hch hno⟩
abbrev zeroR : Array Value := #[.bool false, .slice none 0 0, .bool false, .slice none 0 0, .bool false, .slice none 0 0, .bool false, .slice none 0 0, .bool false, .slice none 0 0, .bool false, .slice none 0 0, .bool false, .slice none 0 0, .bool false, .slice none 0 0, .int .i64 0]
theorem zcs_zero (w : World) : ZCs w zeroR (fun _ => 0) 0 := by
  refine ⟨rfl, fun i hi => ⟨false, none, 0, 0, ?_, ?_, IsZ.zero w⟩, rfl⟩
  all_goals
    have e : i = 0 ∨ i = 1 ∨ i = 2 ∨ i = 3 ∨ i = 4 ∨ i = 5 ∨ i = 6 ∨ i = 7 := by omega
    rcases e with rfl | rfl | rfl | rfl | rfl | rfl | rfl | rfl <;> rfl
theorem zR_info : (Tryz.prog.info? 38).map (·.size) = some 17 := by kernel_rfl
theorem IsZ.nil_iff {w : World} {b : Bool} {a : Option Addr} {n c : Nat} {z : Int} (h : IsZ w b a n c z) : n = 0 ↔ z = 0 := by
  obtain ⟨l, h1, _, _, _, _, h6, h7, _⟩ := h
  constructor
  · intro h0
    have : l = [] := List.eq_nil_of_length_eq_zero (by omega)
    subst this
    rw [h7]; cases b <;> rfl
  · intro h0
    by_cases hl : l = []
    · rw [← h1, hl]; rfl
    · have h8 := zval_ge h6 hl
      have h9 : 0 < 10000 ^ (l.length - 1) := Nat.pow_pos (by decide)
      rw [h0] at h7
      cases b
      · simp only [Bool.false_eq_true, if_false] at h7; omega
      · simp only [if_true] at h7; omega
/-- How many digits there may be. -/
theorem IsZ.bits {w : World} {b : Bool} {a : Option Addr} {n c : Nat} {z : Int} (h : IsZ w b a n c z) {P : Nat} (hz : z.natAbs < 2 ^ P) : n ≤ P :=
  h.len_of (Nat.lt_of_lt_of_le hz (Nat.pow_le_pow_left (by decide) P))

/-- The cells of the reference's number that stands for x. -/
structure RmA (w : World) (cs : Array Value) (x : Nm) (P E : Nat) : Prop where
  anti : Anti x.a
  low : Low x
  abs : ∀ k, (x.a k).natAbs < 2 ^ P
  down : x.e ≤ E
  val : ZCs w cs (fun i => x.a i) (x.e : Int)
theorem RmA.ext {w w' : World} {cs : Array Value} {x : Nm} {P E : Nat} (h : RmA w cs x P E) (k : Ext w w') : RmA w' cs x P E := ⟨h.anti, h.low, h.abs, h.down, h.val.ext k⟩
theorem RmA.size {w : World} {cs : Array Value} {x : Nm} {P E : Nat} (h : RmA w cs x P E) : cs.size = 17 := h.val.1
theorem RmA.info {w : World} {cs : Array Value} {x : Nm} {P E : Nat} (h : RmA w cs x P E) : (Tryz.prog.info? 38).map (·.size) = some cs.size := by rw [h.size]; exact zR_info
theorem RmA.le {w : World} {cs : Array Value} {x : Nm} {P E P' E' : Nat} (h : RmA w cs x P E) (hP : P ≤ P') (hE : E ≤ E') : RmA w cs x P' E' :=
  ⟨h.anti, h.low, fun k => Nat.lt_of_lt_of_le (h.abs k) (Nat.pow_le_pow_right (by decide) hP), Nat.le_trans h.down hE, h.val⟩
/-- A number is written into the result's variable and answered. -/
theorem fin_rm {w w1 : World} {cr : Array Value} {f : Nat → Int} {e : Int} {g : Nat} {fz : Nat → Int} {ez : Int} (hcr : ZCs w1 cr f e) (hz : ZVar w1 g fz ez) (hE : Ext w w1) (hg : w.heap.size ≤ g) :
    ∃ c1, w1.heap[g]? = some (.cells c1 38 (0, 0)) ∧ c1.size = cr.size ∧ cr.all (·.oneCell') = true ∧ (Tryz.prog.info? 38).map (·.size) = some cr.size ∧ (w1.setRow g cr).heap[g]? = some (.cells cr 38 (0, 0)) ∧ ZCs (w1.setRow g cr) cr f e ∧ Ext w (w1.setRow g cr) := by
  obtain ⟨n1, ch, rr, zz⟩ := hcr.setRow hz
  obtain ⟨c1, hr1, hc1⟩ := hz
  exact ⟨c1, hr1, by rw [hc1.1, hcr.1], hcr.one, by rw [hcr.1]; exact zR_info, rr, zz, ch.ext hE hg⟩
end Go.Proofs.YtiicfpdiehgikaaGreatDoor
namespace Go.Proofs.YtiicfpdiehgikaaGreatDoor
open Go.RowKit

set_option maxRecDepth 100000 in
set_option maxHeartbeats 4000000 in
theorem QZero_any (cs : Array Value) (f : Nat → Int) (e : Int) (w : World) (h : ZCs w cs f e) (B : Bool) (hB : B = true ↔ zeroN f) :
    Calls Tryz.prog 16 #[.agg cs] w fun r w' => r = .returned (.bool B) ∧ Ext w w' := by
  have h0 := h.box
  have E0 := Ext.alloc w (.cells cs 38)
  obtain ⟨H, hH⟩ : ∃ H, w.heap.size = H := ⟨_, rfl⟩
  obtain ⟨U, hU⟩ : ∃ U, w.alloc (.cells cs 38) = U := ⟨_, rfl⟩
  rw [hU, hH] at h0
  rw [hU] at E0
  have HV := Lib.hid h0; have HE := Lib.hid E0; have HB := Lib.hid hB; have HU := Lib.hid hU; have HH := Lib.hid hH
  clear h hB h0 E0 hU hH
  go_enter Tryz.func16, Tryz.ntmps16
  go_wp2_with fail
  rw [HU.out, HH.out]
  clear HU
  go_loopg [3] 8 (fun kk s3 wr => ∃ j : Nat, s3 = .int .i64 (j : Int) ∧ j ≤ 8 ∧ 8 - j = kk ∧ (∀ i, i < j → f i = 0) ∧ ZVar wr H f e ∧ Ext w wr)
  case atStart => exact ⟨0, rfl, by omega, by omega, fun i hi => by omega, HV.out, HE.out⟩
  case round =>
    clear HV HE
    obtain ⟨j, rfl, hj, hjk, hz, hV, hE⟩ := hrel
    obtain ⟨wo, rfl⟩ : ∃ wo : World, wo = wr := ⟨_, rfl⟩
    have Hz := Lib.hid hz; have HV := Lib.hid hV; have HE := Lib.hid hE; have Hjk := Lib.hid hjk
    clear hz hV hE hjk
    by_cases hj8 : j = 8
    · subst hj8
      have HBt := Lib.hid (HB.out.2 Hz.out)
      go_wp2_with fail
      go_ret
      exact ⟨congrArg (fun b => Ending.returned (Value.bool b)) HBt.out.symm, HE.out⟩
    have hlt : j < 8 := by omega
    have q1 : (j : Int) < 8 := by omega
    have q0 : (0 : Int) ≤ (j : Int) := by omega
    have wk : IntKind.i64.wrap ((j : Int) + 1) = ((j + 1 : Nat) : Int) := by rw [IntKind.wrap_i64]; omega
    have Hj1 := Lib.hid (show j + 1 ≤ 8 by omega)
    have Hlt := Lib.hid hlt
    obtain ⟨b, a, n, c, y0, y1, _, _, hI⟩ := HV.out.get j hlt
    have hiff := hI.nil_iff
    clear hI hj8 hj hlt
    by_cases hn : n = 0
    · have q2 : ¬ (0 : Int) < (n : Int) := by omega
      have Hz' := Lib.hid (show ∀ i, i < j + 1 → f i = 0 from fun i hi => by
        by_cases e : i = j
        · rw [e]; exact hiff.1 hn
        · exact Hz.out i (by omega))
      clear hn hiff
      go_wp2_with fail
      go_roundg (8 - (j + 1))
      case measure => have := Hjk.out; have := Hj1.out; omega
      case rel => exact ⟨j + 1, rfl, Hj1.out, rfl, Hz'.out, HV.out, HE.out⟩
    · have q2 : (0 : Int) < (n : Int) := by omega
      have HBf := Lib.hid (show B = false by
        cases hb : B with
        | false => rfl
        | true => exact absurd (hiff.2 (HB.out.1 hb j Hlt.out)) hn)
      clear hn hiff
      go_wp2_with fail
      go_ret
      exact ⟨congrArg (fun b => Ending.returned (Value.bool b)) HBf.out.symm, HE.out⟩

/-- The first j are turned round. -/
def ngN (f : Nat → Int) (j : Nat) : Nat → Int := fun i => if i < j then -f i else f i
theorem ngN_step (f : Nat → Int) (j i : Nat) : updN (ngN f j) j (-f j) i = ngN f (j + 1) i := by
  unfold updN ngN
  by_cases e : i = j
  · subst e; simp
  · rw [if_neg e]
    by_cases h : i < j
    · rw [if_pos h, if_pos (by omega)]
    · rw [if_neg h, if_neg (by omega)]

set_option maxRecDepth 100000 in
set_option maxHeartbeats 4000000 in
theorem QNeg_nm (ca : Array Value) (x : Nm) (P E : Nat) (w : World) (h : RmA w ca x P E) (hP : P ≤ 400000) :
    Calls Tryz.prog 36 #[.agg ca] w fun r w' => ∃ cr : Array Value, r = .returned (.agg cr) ∧ RmA w' cr (nNeg x) P E ∧ Ext w w' := by
  obtain ⟨f, hf⟩ : ∃ f : Nat → Int, (fun i : Nat => x.a i) = f := ⟨_, rfl⟩
  have hv := h.val
  rw [hf] at hv
  have hff : ∀ i : Nat, f i = x.a i := fun i => by rw [← hf]
  obtain ⟨H, hH⟩ : ∃ H, w.heap.size = H := ⟨_, rfl⟩
  obtain ⟨U, hU⟩ : ∃ U, (w.alloc (.cells ca 38)).alloc (.cells zeroR 38) = U := ⟨_, rfl⟩
  have E0 : Ext w U := by rw [← hU]; exact (Ext.alloc _ _).trans (Ext.alloc _ _)
  have V0 : ZVar U H (ngN f 0) (x.e : Int) := by rw [← hU, ← hH]; exact (hv.box.ext (Ext.alloc _ _)).congr fun i _ => by simp [ngN]
  have Z0 : ZVar U (H + 1) (fun _ => 0) 0 := by
    have := (zcs_zero (w.alloc (.cells ca 38))).box
    rw [← hU, ← hH]
    simpa using this
  have HU := Lib.hid hU; have HH := Lib.hid hH; have Hx := Lib.hid h; have Hff := Lib.hid hff; have HP := Lib.hid hP
  have Hst := Lib.hid (show ZVar U H (ngN f 0) (x.e : Int) ∧ ZVar U (H + 1) (fun _ => 0) 0 ∧ Ext w U from ⟨V0, Z0, E0⟩)
  clear hU hH V0 Z0 E0 h hf hv hff hP
  go_enter Tryz.func36, Tryz.ntmps36
  go_wp2_with fail
  rw [HU.out, HH.out]
  clear HU
  go_loopg [3] 8 (fun kk s3 wr => ∃ j : Nat, s3 = .int .i64 (j : Int) ∧ j ≤ 8 ∧ 8 - j = kk ∧ ZVar wr H (ngN f j) (x.e : Int) ∧ ZVar wr (H + 1) (fun _ => 0) 0 ∧ Ext w wr)
  case atStart => exact ⟨0, rfl, by omega, by omega, Hst.out⟩
  case round =>
    clear Hst
    obtain ⟨j, rfl, hj, hjk, hV, hZ, hE⟩ := hrel
    obtain ⟨wo, rfl⟩ : ∃ wo : World, wo = wr := ⟨_, rfl⟩
    by_cases hj8 : j = 8
    · subst hj8
      obtain ⟨cr, hr, hc⟩ := hV
      have hinf : (Tryz.prog.info? 38).map (·.size) = some cr.size := by rw [hc.1]; exact zR_info
      obtain ⟨c1, hr1, hs1, hone, _, rr, hzz, hE'⟩ := fin_rm hc hZ hE (by rw [HH.out]; omega)
      have Hend := Lib.hid (show RmA (wo.setRow (H + 1) cr) cr (nNeg x) P E ∧ Ext w (wo.setRow (H + 1) cr) from by
        have hx := Hx.out
        refine ⟨⟨hx.anti.neg, ?_, fun k => ?_, hx.down, hzz.congr fun i hi => ?_⟩, hE'⟩
        · rw [← nNeg_tr hx.anti]; exact hx.low.tr 8
        · show (-x.a k).natAbs < 2 ^ P
          rw [Int.natAbs_neg]; exact hx.abs k
        · unfold ngN; rw [if_pos hi, Hff.out]; rfl)
      clear hc hZ hE hzz hE' Hx Hff
      go_wp2_with (first
        | refine wpList_load_row rfl 38 _ rfl H rfl 38 _ (0, 0) _ hr Tryz.underlying38 rfl hinf ?_
        | refine wpList_store_row rfl 38 _ _ rfl (H + 1) cr rfl rfl 38 _ hr1 hinf hs1 hone ?_)
      refine bodyPost_ret (v := .agg cr) ?_ rfl ⟨_, rfl, Hend.out⟩
      exact results_cell_row rfl _ _ (H + 1) _ _ _ _ rfl rr Tryz.underlying38 rfl hinf
    have hlt : j < 8 := by omega
    have q1 : (j : Int) < 8 := by omega
    have q0 : (0 : Int) ≤ (j : Int) := by omega
    have wk : IntKind.i64.wrap ((j : Int) + 1) = ((j + 1 : Nat) : Int) := by rw [IntKind.wrap_i64]; omega
    have Hj1 := Lib.hid (show j + 1 ≤ 8 by omega)
    have Hlt := Lib.hid hlt
    obtain ⟨b, a, n, c, y0, y1, _, _, hI⟩ := hV.get j hlt
    have hI2 := hI.cast (show ngN f j j = f j by simp [ngN])
    have hn : n ≤ P := hI2.bits (by rw [Hff.out]; exact Hx.out.abs j)
    have HNe := Lib.hid (ZNeg_any b a n c (f j) wo hI2 (by have := HP.out; omega))
    have HV := Lib.hid hV; have HZ := Lib.hid hZ; have HE := Lib.hid hE; have Hjk := Lib.hid hjk
    clear hI hI2 hV hZ hE hjk hj8 hj hlt hn
    go_wp2_with fail
    refine HNe.out.mono ?_
    rintro r w2 ⟨b2, a2, n2, c2, rfl, hI2, _, hx2⟩
    have hV2 := HV.out.ext hx2
    obtain ⟨_, _, _, _, z0, z1, fz0, fz1, _⟩ := hV2.get j Hlt.out
    obtain ⟨hs, hch⟩ := hV2.set j Hlt.out hI2
    have Hend := Lib.hid (show ZVar ((w2.setCell ⟨H, j * 2, none⟩ (.bool b2)).setCell ⟨H, j * 2 + 1, none⟩ (.slice a2 n2 c2)) H (ngN f (j + 1)) (x.e : Int) ∧ ZVar ((w2.setCell ⟨H, j * 2, none⟩ (.bool b2)).setCell ⟨H, j * 2 + 1, none⟩ (.slice a2 n2 c2)) (H + 1) (fun _ => 0) 0 ∧ Ext w ((w2.setCell ⟨H, j * 2, none⟩ (.bool b2)).setCell ⟨H, j * 2 + 1, none⟩ (.slice a2 n2 c2)) from
      ⟨hs.congr fun i _ => ngN_step f j i, (HZ.out.ext hx2).chz hch hV2.no (by omega), hch.ext (HE.out.trans hx2) (by rw [HH.out]; exact Nat.le_refl _)⟩)
    clear hs hch hV2 hI2 hx2 HNe HV HZ HE y0 y1
    go_wp2_with fail
    clear z0 z1 fz0 fz1
    generalize (w2.setCell ⟨H, j * 2, none⟩ (.bool b2)).setCell ⟨H, j * 2 + 1, none⟩ (.slice a2 n2 c2) = V at *
    go_roundg (8 - (j + 1))
    case measure => have := Hjk.out; have := Hj1.out; omega
    case rel => exact ⟨j + 1, rfl, Hj1.out, rfl, Hend.out⟩

set_option maxRecDepth 100000 in
set_option maxHeartbeats 4000000 in
theorem QOf_nm (b : Bool) (a : Option Addr) (n c : Nat) (z : Int) (P E : Nat) (w : World) (hI : IsZ w b a n c z) (hz : z.natAbs < 2 ^ P) :
    Calls Tryz.prog 45 #[.agg #[.bool b, .slice a n c]] w fun r w' => ∃ cr : Array Value, r = .returned (.agg cr) ∧ RmA w' cr (nOf z) P E ∧ Ext w w' := by
  obtain ⟨H, hH⟩ : ∃ H, w.heap.size = H := ⟨_, rfl⟩
  obtain ⟨U, hU⟩ : ∃ U, (((w.alloc (.cells #[.bool b, .slice a n c] 35)).alloc (.cells zeroR 38)).alloc (.cells zeroR 38)) = U := ⟨_, rfl⟩
  have E0 : Ext w U := by rw [← hU]; exact ((Ext.alloc _ _).trans (Ext.alloc _ _)).trans (Ext.alloc _ _)
  have B0 : ZBx U H b a n c := by
    have : ZBx (w.alloc (.cells #[.bool b, .slice a n c] 35)) H b a n c := ⟨by rw [← hH]; exact heap_alloc_new w _⟩
    rw [← hU]
    exact this.ext ((Ext.alloc _ _).trans (Ext.alloc _ _))
  have Z1 : ZVar U (H + 1) (fun _ => 0) 0 := by
    have := ((zcs_zero (w.alloc (.cells #[.bool b, .slice a n c] 35))).box).ext (Ext.alloc _ (.cells zeroR 38))
    rw [← hU, ← hH]
    simpa using this
  have Z2 : ZVar U (H + 2) (fun _ => 0) 0 := by
    have := (zcs_zero ((w.alloc (.cells #[.bool b, .slice a n c] 35)).alloc (.cells zeroR 38))).box
    rw [← hU, ← hH]
    simpa using this
  have l0 : U.cell? ⟨H, 0, none⟩ = some (.bool b) := by rw [cell_of_row _ _ _ _ _ _ B0.row]; rfl
  have l1 : U.cell? ⟨H, 1, none⟩ = some (.slice a n c) := by rw [cell_of_row _ _ _ _ _ _ B0.row]; rfl
  obtain ⟨_, _, _, _, y0, y1, fy0, fy1, _⟩ := Z2.get 0 (by decide)
  obtain ⟨hs, hch⟩ := Z2.set 0 (by decide) (hI.ext E0)
  have Z1' := Z1.chz hch Z2.no (by omega)
  have E1 := hch.ext E0 (by rw [hH]; omega)
  obtain ⟨V, hV⟩ : ∃ V, (U.setCell ⟨H + 2, 0 * 2, none⟩ (.bool b)).setCell ⟨H + 2, 0 * 2 + 1, none⟩ (.slice a n c) = V := ⟨_, rfl⟩
  rw [hV] at hs Z1' E1
  simp only [Nat.zero_mul, Nat.zero_add] at hV y0 y1 fy0 fy1
  obtain ⟨cr, hr, hc⟩ := hs
  have hinf : (Tryz.prog.info? 38).map (·.size) = some cr.size := by rw [hc.1]; exact zR_info
  obtain ⟨c1, hr1, hs1, hone, _, rr, hzz, hE'⟩ := fin_rm hc Z1' E1 (by rw [hH]; omega)
  have Hend := Lib.hid (show RmA (V.setRow (H + 1) cr) cr (nOf z) P E ∧ Ext w (V.setRow (H + 1) cr) from
    ⟨⟨anti_mono 0 z, Or.inl rfl, fun k => Nat.lt_of_le_of_lt (mono_abs 0 z k) hz, Nat.zero_le _, hzz.congr fun i hi => by
      show updN (fun _ => 0) 0 z i = mono 0 z i
      by_cases e : i = 0
      · subst e; simp [updN, mono]
      · unfold updN mono
        rw [if_neg e, if_neg (show ¬ ((i : Int) - 0) % 16 = 0 by omega), if_neg (show ¬ ((i : Int) - 0) % 16 = 8 by omega)]⟩, hE'⟩)
  have HU := Lib.hid hU; have HH := Lib.hid hH; have HV := Lib.hid hV
  clear hU hH hV hc Z1 Z2 Z1' E0 E1 hzz hE' hch B0 hI
  go_enter Tryz.func45, Tryz.ntmps45
  go_upto_region 2 with fail
  rw [HU.out, HH.out]
  clear HU HH
  go_upto_region 3 with fail
  rw [HV.out]
  clear HV l0 l1 y0 y1 fy0 fy1
  go_wp2_with (first
    | refine wpList_load_row rfl 38 _ rfl (H + 2) rfl 38 _ (0, 0) _ hr Tryz.underlying38 rfl hinf ?_
    | refine wpList_store_row rfl 38 _ _ rfl (H + 1) cr rfl rfl 38 _ hr1 hinf hs1 hone ?_)
  refine bodyPost_ret (v := .agg cr) ?_ rfl ⟨_, rfl, Hend.out⟩
  exact results_cell_row rfl _ _ (H + 1) _ _ _ _ rfl rr Tryz.underlying38 rfl hinf
end Go.Proofs.YtiicfpdiehgikaaGreatDoor
namespace Go.Proofs.YtiicfpdiehgikaaGreatDoor
open Go.RowKit

/-- What RTurn has made as far as the n-th. -/
def trzN (f : Nat → Int) (k : Int) : Nat → Nat → Int
  | 0 => fun _ => 0
  | n + 1 => updN (trzN f k n) ((n + k) % 8).toNat (sgK (n + k) (f n))
theorem trzN_at (f : Nat → Int) (k : Int) (p : Nat) (hp : p < 8) : ∀ n, n ≤ 8 → trzN f k n p = if ((p - k) % 8).toNat < n then sgK (((p - k) % 8).toNat + k) (f ((p - k) % 8).toNat) else 0
  | 0, _ => by simp [trzN]
  | n + 1, hn => by
    have ih := trzN_at f k p hp n (by omega)
    simp only [trzN, updN]
    by_cases e : p = ((n + k) % 8).toNat
    · have h1 : ((p - k) % 8).toNat = n := by omega
      rw [if_pos e, h1, if_pos (by omega)]
    · have h1 : ((p - k) % 8).toNat ≠ n := by omega
      rw [if_neg e, ih]
      by_cases h2 : ((p - k) % 8).toNat < n
      · rw [if_pos h2, if_pos (by omega)]
      · rw [if_neg h2, if_neg (by omega)]
theorem ext8_trzN (f : Nat → Int) (k : Int) : ext8 (trzN f k 8) = trR k (ext8 f) := by
  refine (anti_ext8 _).ext ((anti_ext8 f).tr k) fun j h0 h1 => ?_
  rw [ext8_at _ j h0 h1, trzN_at f k j.toNat (by omega) 8 (Nat.le_refl _)]
  have hj : ((j.toNat : Nat) : Int) = j := by omega
  rw [hj, if_pos (by omega)]
  unfold trR ext8 sgK
  by_cases h : (j - k) % 16 < 8
  · rw [if_pos h, if_pos (by omega)]
  · rw [if_neg h, if_neg (by omega)]
theorem trzN_mod (f : Nat → Int) (k k' : Int) (h : k % 16 = k' % 16) : ∀ n, trzN f k n = trzN f k' n
  | 0 => rfl
  | n + 1 => by
    have e1 : ((n : Int) + k) % 8 = ((n : Int) + k') % 8 := by omega
    have e2 : ((n : Int) + k) % 16 = ((n : Int) + k') % 16 := by omega
    simp only [trzN, sgK]
    rw [trzN_mod f k k' h n, e1, e2]
theorem tmod16 (k : Int) : (k.tmod 16 < 0 → k.tmod 16 + 16 = k % 16) ∧ (¬ k.tmod 16 < 0 → k.tmod 16 = k % 16) ∧ -16 < k.tmod 16 ∧ k.tmod 16 < 16 := by
  have h1 := Int.tmod_eq_emod (a := k) (b := 16)
  have h2 : (0 : Int) ≤ k % 16 ∧ k % 16 < 16 := ⟨Int.emod_nonneg _ (by decide), Int.emod_lt_of_pos _ (by decide)⟩
  split at h1 <;> (simp at h1; omega)

/-- As RmA, but the power may be greater than it must be. -/
structure RmW (w : World) (cs : Array Value) (x : Nm) (P E : Nat) : Prop where
  anti : Anti x.a
  abs : ∀ k, (x.a k).natAbs < 2 ^ P
  down : x.e ≤ E
  val : ZCs w cs (fun i => x.a i) (x.e : Int)
theorem RmA.w {w : World} {cs : Array Value} {x : Nm} {P E : Nat} (h : RmA w cs x P E) : RmW w cs x P E := ⟨h.anti, h.abs, h.down, h.val⟩
theorem RmW.a {w : World} {cs : Array Value} {x : Nm} {P E : Nat} (h : RmW w cs x P E) (hl : Low x) : RmA w cs x P E := ⟨h.anti, hl, h.abs, h.down, h.val⟩
theorem RmW.ext {w w' : World} {cs : Array Value} {x : Nm} {P E : Nat} (h : RmW w cs x P E) (k : Ext w w') : RmW w' cs x P E := ⟨h.anti, h.abs, h.down, h.val.ext k⟩
theorem RmW.info {w : World} {cs : Array Value} {x : Nm} {P E : Nat} (h : RmW w cs x P E) : (Tryz.prog.info? 38).map (·.size) = some cs.size := by rw [h.val.1]; exact zR_info
theorem RmW.le {w : World} {cs : Array Value} {x : Nm} {P E P' E' : Nat} (h : RmW w cs x P E) (hP : P ≤ P') (hE : E ≤ E') : RmW w cs x P' E' :=
  ⟨h.anti, fun k => Nat.lt_of_lt_of_le (h.abs k) (Nat.pow_le_pow_right (by decide) hP), Nat.le_trans h.down hE, h.val⟩

set_option maxRecDepth 100000 in
set_option maxHeartbeats 4000000 in
theorem QTurn_w (ca : Array Value) (x : Nm) (P E : Nat) (k : Int) (w : World) (h : RmW w ca x P E) (hP : P ≤ 400000) :
    Calls Tryz.prog 22 #[.agg ca, .int .i64 k] w fun r w' => ∃ cr : Array Value, r = .returned (.agg cr) ∧ RmW w' cr (nTr k x) P E ∧ Ext w w' := by
  obtain ⟨f, hf⟩ : ∃ f : Nat → Int, (fun i : Nat => x.a i) = f := ⟨_, rfl⟩
  have hv := h.val
  rw [hf] at hv
  have hff : ∀ i : Nat, f i = x.a i := fun i => by rw [← hf]
  obtain ⟨kk0, hkk⟩ : ∃ kk0 : Nat, k % 16 = (kk0 : Int) := ⟨(k % 16).toNat, by omega⟩
  obtain ⟨r0, hr0⟩ : ∃ r0, k.tmod 16 = r0 := ⟨_, rfl⟩
  have ht := tmod16 k
  rw [hr0, hkk] at ht
  obtain ⟨H, hH⟩ : ∃ H, w.heap.size = H := ⟨_, rfl⟩
  obtain ⟨U, hU⟩ : ∃ U, (w.alloc (.cells ca 38)).alloc (.cells zeroR 38) = U := ⟨_, rfl⟩
  have E0 : Ext w U := by rw [← hU]; exact (Ext.alloc _ _).trans (Ext.alloc _ _)
  have V0 : ZVar U H f (x.e : Int) := by rw [← hU, ← hH]; exact hv.box.ext (Ext.alloc _ _)
  have Z0 : ZVar U (H + 1) (fun _ => 0) 0 := by
    have := (zcs_zero (w.alloc (.cells ca 38))).box
    rw [← hU, ← hH]
    simpa using this
  have sU : U.heap.size = H + 2 := by rw [← hU, ← hH]; simp
  have HU := Lib.hid hU; have HH := Lib.hid hH; have Hx := Lib.hid h; have Hff := Lib.hid hff; have HP := Lib.hid hP; have HV0 := Lib.hid V0; have HZ0 := Lib.hid Z0; have HE0 := Lib.hid E0; have HsU := Lib.hid sU; have Ht := Lib.hid ht; have Hkk := Lib.hid hkk
  clear hU hH V0 Z0 E0 h hf hv hff hP sU ht hkk
  go_enter Tryz.func22, Tryz.ntmps22
  go_upto_region 1 with fail
  rw [HU.out, HH.out]
  clear HU
  go_upto_if 11 with fail
  go_cut [1] from 11 to 13 (fun s1 wx => s1 = .int .i64 (kk0 : Int) ∧ wx = U)
  case first =>
    by_cases hneg : r0 < 0
    · have wk : IntKind.i64.wrap (r0 + 16) = (kk0 : Int) := by have := Ht.out; rw [IntKind.wrap_i64]; omega
      go_wp2_with fail
      go_meet
      exact ⟨rfl, rfl⟩
    · have Hk0 := Lib.hid (show r0 = (kk0 : Int) from Ht.out.2.1 hneg)
      go_wp2_with fail
      go_meet
      exact ⟨by rw [Hk0.out], rfl⟩
  case rest =>
  obtain ⟨rfl, rfl⟩ := hcut
  clear hr0
  obtain ⟨U, rfl⟩ : ∃ U : World, U = wc := ⟨_, rfl⟩
  have eA := Ext.alloc U (.cells zeroR 38)
  have O0 := (zcs_zero U).box
  rw [HsU.out] at O0
  obtain ⟨U2, hU2⟩ : ∃ U2, U.alloc (.cells zeroR 38) = U2 := ⟨_, rfl⟩
  rw [hU2] at eA O0
  have V2 := HV0.out.ext eA; have Z2 := HZ0.out.ext eA
  have x16 := V2.gete.1
  have y16 := O0.gete.1; have g16 := O0.gete.2
  obtain ⟨hs, hch⟩ := O0.sete (x.e : Int)
  have Hst := Lib.hid (show ZVar (U2.setCell ⟨H + 2, 16, none⟩ (.int .i64 (x.e : Int))) (H + 2) (trzN f kk0 0) (x.e : Int) ∧ ZVar (U2.setCell ⟨H + 2, 16, none⟩ (.int .i64 (x.e : Int))) H f (x.e : Int) ∧ ZVar (U2.setCell ⟨H + 2, 16, none⟩ (.int .i64 (x.e : Int))) (H + 1) (fun _ => 0) 0 ∧ Ext w (U2.setCell ⟨H + 2, 16, none⟩ (.int .i64 (x.e : Int))) from
    ⟨hs, V2.chz hch O0.no (by omega), Z2.chz hch O0.no (by omega), hch.ext (HE0.out.trans eA) (by rw [HH.out]; omega)⟩)
  have HU2 := Lib.hid hU2
  clear hs hch V2 Z2 O0 eA hU2 HV0 HZ0 HE0
  go_upto_region 5 with fail
  rw [HU2.out]
  try rw [HsU.out]
  clear HU2
  go_wp2_with fail
  clear x16 y16 g16
  generalize U2.setCell ⟨H + 2, 16, none⟩ (.int .i64 (x.e : Int)) = V at *
  go_loopg [6, 7] 8 (fun kk s6 s7 wr => ∃ j : Nat, s6 = .int .i64 (j : Int) ∧ j ≤ 8 ∧ 8 - j = kk ∧ ZVar wr (H + 2) (trzN f kk0 j) (x.e : Int) ∧ ZVar wr H f (x.e : Int) ∧ ZVar wr (H + 1) (fun _ => 0) 0 ∧ Ext w wr)
  case atStart => exact ⟨0, rfl, by omega, by omega, Hst.out⟩
  case round =>
    clear Hst
    obtain ⟨j, rfl, hj, hjk, hV, hA, hZ, hE⟩ := hrel
    obtain ⟨wo, rfl⟩ : ∃ wo : World, wo = wr := ⟨_, rfl⟩
    by_cases hj8 : j = 8
    · subst hj8
      obtain ⟨cr, hr, hc⟩ := hV
      have hinf : (Tryz.prog.info? 38).map (·.size) = some cr.size := by rw [hc.1]; exact zR_info
      obtain ⟨c1, hr1, hs1, hone, _, rr, hzz, hE'⟩ := fin_rm hc hZ hE (by rw [HH.out]; omega)
      have Hend := Lib.hid (show RmW (wo.setRow (H + 1) cr) cr (nTr k x) P E ∧ Ext w (wo.setRow (H + 1) cr) from by
        have hx := Hx.out
        refine ⟨⟨hx.anti.tr k, fun i => hx.abs (i - k), hx.down, hzz.congr fun i hi => ?_⟩, hE'⟩
        rw [trzN_mod f kk0 k (by have := Hkk.out; omega)]
        have h2 := congrFun (ext8_trzN f k) (i : Int)
        rw [ext8_at _ _ (by omega) (by omega)] at h2
        have h3 : ext8 f = x.a := by rw [← ext8_of hx.anti]; exact ext8_congr fun i _ => Hff.out i
        rw [h3] at h2
        exact h2)
      clear hc hZ hE hzz hE' hA
      go_wp2_with (first
        | refine wpList_load_row rfl 38 _ rfl (H + 2) rfl 38 _ (0, 0) _ hr Tryz.underlying38 rfl hinf ?_
        | refine wpList_store_row rfl 38 _ _ rfl (H + 1) cr rfl rfl 38 _ hr1 hinf hs1 hone ?_)
      refine bodyPost_ret (v := .agg cr) ?_ rfl ⟨_, rfl, Hend.out⟩
      exact results_cell_row rfl _ _ (H + 1) _ _ _ _ rfl rr Tryz.underlying38 rfl hinf
    have hlt : j < 8 := by omega
    have q1 : (j : Int) < 8 := by omega
    have q0 : (0 : Int) ≤ (j : Int) := by omega
    have wk : IntKind.i64.wrap ((j : Int) + 1) = ((j + 1 : Nat) : Int) := by rw [IntKind.wrap_i64]; omega
    have hk16 : kk0 < 16 := by have := Hkk.out; omega
    have Hj1 := Lib.hid (show j + 1 ≤ 8 by omega)
    obtain ⟨jk, hjkk⟩ : ∃ jk : Nat, j + kk0 = jk := ⟨_, rfl⟩
    have wjk : IntKind.i64.wrap ((j : Int) + (kk0 : Int)) = (jk : Int) := by rw [IntKind.wrap_i64]; omega
    obtain ⟨t, ht⟩ : ∃ t : Nat, jk % 16 = t := ⟨_, rfl⟩
    have tm : (jk : Int).tmod 16 = (t : Int) := by rw [Int.tmod_eq_emod_of_nonneg (by omega)]; omega
    obtain ⟨b, a, n, c, y0, y1, _, _, hI⟩ := hA.get j hlt
    have hn : n ≤ P := hI.bits (by rw [Hff.out]; exact Hx.out.abs j)
    have HV := Lib.hid hV; have HA := Lib.hid hA; have HZ := Lib.hid hZ; have HE := Lib.hid hE; have Hjk := Lib.hid hjk; have HI := Lib.hid hI
    clear hV hA hZ hE hjk hI hj8 hj
    by_cases ht8 : t < 8
    · have q8 : (t : Int) < 8 := by omega
      have q9 : (0 : Int) ≤ (t : Int) := by omega
      obtain ⟨q, rfl⟩ : ∃ q, q = t := ⟨_, rfl⟩
      obtain ⟨_, _, _, _, z0, z1, fz0, fz1, _⟩ := HV.out.get q ht8
      obtain ⟨hs, hch⟩ := HV.out.set q ht8 HI.out
      have Hstep := Lib.hid (show ∀ i, updN (trzN f kk0 j) q (f j) i = trzN f kk0 (j + 1) i from fun i => by
        simp only [trzN]
        rw [show (((j : Int) + (kk0 : Int)) % 8).toNat = q by omega, show sgK ((j : Int) + (kk0 : Int)) (f j) = f j by unfold sgK; rw [if_pos (by omega)]])
      have Hend := Lib.hid (show ZVar ((wo.setCell ⟨H + 2, q * 2, none⟩ (.bool b)).setCell ⟨H + 2, q * 2 + 1, none⟩ (.slice a n c)) (H + 2) (trzN f kk0 (j + 1)) (x.e : Int) ∧ ZVar ((wo.setCell ⟨H + 2, q * 2, none⟩ (.bool b)).setCell ⟨H + 2, q * 2 + 1, none⟩ (.slice a n c)) H f (x.e : Int) ∧ ZVar ((wo.setCell ⟨H + 2, q * 2, none⟩ (.bool b)).setCell ⟨H + 2, q * 2 + 1, none⟩ (.slice a n c)) (H + 1) (fun _ => 0) 0 ∧ Ext w ((wo.setCell ⟨H + 2, q * 2, none⟩ (.bool b)).setCell ⟨H + 2, q * 2 + 1, none⟩ (.slice a n c)) from
        ⟨hs.congr fun i _ => Hstep.out i, HA.out.chz hch HV.out.no (by omega), HZ.out.chz hch HV.out.no (by omega), hch.ext HE.out (by rw [HH.out]; omega)⟩)
      clear hs hch HV HA HZ HE HI hn hk16 hjkk ht ht8
      go_wp2_with fail
      clear z0 z1 fz0 fz1 y0 y1
      generalize ((wo.setCell ⟨H + 2, q * 2, none⟩ (.bool b)).setCell ⟨H + 2, q * 2 + 1, none⟩ (.slice a n c)) = V at *
      go_roundg (8 - (j + 1))
      case measure => have := Hjk.out; have := Hj1.out; omega
      case rel => exact ⟨j + 1, rfl, Hj1.out, rfl, Hend.out⟩
    · have q8 : ¬ (t : Int) < 8 := by omega
      obtain ⟨q, hq⟩ : ∃ q : Nat, t = q + 8 := ⟨t - 8, by omega⟩
      have wq : IntKind.i64.wrap ((t : Int) - 8) = (q : Int) := by rw [IntKind.wrap_i64]; omega
      have hq8 : q < 8 := by omega
      have q9 : (0 : Int) ≤ (q : Int) := by omega
      have q10 : (q : Int) < 8 := by omega
      have HNe := Lib.hid (ZNeg_any b a n c (f j) wo HI.out (by have := HP.out; omega))
      have Hstep := Lib.hid (show ∀ i, updN (trzN f kk0 j) q (-f j) i = trzN f kk0 (j + 1) i from fun i => by
        simp only [trzN]
        rw [show (((j : Int) + (kk0 : Int)) % 8).toNat = q by omega, show sgK ((j : Int) + (kk0 : Int)) (f j) = -f j by unfold sgK; rw [if_neg (by omega)]])
      have Hq8 := Lib.hid hq8
      clear hn hk16 hjkk ht ht8 hq hq8
      go_wp2_with fail
      refine HNe.out.mono ?_
      rintro r w2 ⟨b2, a2, n2, c2, rfl, hI2, _, hx2⟩
      have hV2 := HV.out.ext hx2
      obtain ⟨_, _, _, _, z0, z1, fz0, fz1, _⟩ := hV2.get q Hq8.out
      obtain ⟨hs, hch⟩ := hV2.set q Hq8.out hI2
      have Hend := Lib.hid (show ZVar ((w2.setCell ⟨H + 2, q * 2, none⟩ (.bool b2)).setCell ⟨H + 2, q * 2 + 1, none⟩ (.slice a2 n2 c2)) (H + 2) (trzN f kk0 (j + 1)) (x.e : Int) ∧ ZVar ((w2.setCell ⟨H + 2, q * 2, none⟩ (.bool b2)).setCell ⟨H + 2, q * 2 + 1, none⟩ (.slice a2 n2 c2)) H f (x.e : Int) ∧ ZVar ((w2.setCell ⟨H + 2, q * 2, none⟩ (.bool b2)).setCell ⟨H + 2, q * 2 + 1, none⟩ (.slice a2 n2 c2)) (H + 1) (fun _ => 0) 0 ∧ Ext w ((w2.setCell ⟨H + 2, q * 2, none⟩ (.bool b2)).setCell ⟨H + 2, q * 2 + 1, none⟩ (.slice a2 n2 c2)) from
        ⟨hs.congr fun i _ => Hstep.out i, (HA.out.ext hx2).chz hch hV2.no (by omega), (HZ.out.ext hx2).chz hch hV2.no (by omega), hch.ext (HE.out.trans hx2) (by rw [HH.out]; omega)⟩)
      clear hs hch hV2 hI2 hx2 HNe HV HA HZ HE HI y0 y1
      go_wp2_with fail
      clear z0 z1 fz0 fz1
      generalize ((w2.setCell ⟨H + 2, q * 2, none⟩ (.bool b2)).setCell ⟨H + 2, q * 2 + 1, none⟩ (.slice a2 n2 c2)) = V at *
      go_roundg (8 - (j + 1))
      case measure => have := Hjk.out; have := Hj1.out; omega
      case rel => exact ⟨j + 1, rfl, Hj1.out, rfl, Hend.out⟩
theorem QTurn_nm (ca : Array Value) (x : Nm) (P E : Nat) (k : Int) (w : World) (h : RmA w ca x P E) (hP : P ≤ 400000) :
    Calls Tryz.prog 22 #[.agg ca, .int .i64 k] w fun r w' => ∃ cr : Array Value, r = .returned (.agg cr) ∧ RmA w' cr (nTr k x) P E ∧ Ext w w' := by
  refine (QTurn_w ca x P E k w h.w hP).mono ?_
  rintro r w' ⟨cr, rfl, hw, hx⟩
  exact ⟨cr, rfl, hw.a (h.low.tr k), hx⟩
end Go.Proofs.YtiicfpdiehgikaaGreatDoor
