/-
  The reference's writing: ZText. WholeReckons: the walk. The reference's numbers: ZOf. The reference's numbers: zodd, zhalf. The reference's numbers: ZTwos. The reference's division, in plain numbers; an append of ints; what a store of the same value leaves.
-/
import Derived.Test.YtnemjllghpijgaaDoorProg
import Derived.Test.YtnemjllghpijgaaDoorRows
import Derived.BigQuiet
import Derived.Deep.AppendLies
import Derived.Deep.Cut
import Derived.Deep.QuietTactic
import Derived.Deep.RegionHeld3
import Derived.Laws.Bits64b
import Derived.Laws.CopyOwn
import Derived.Laws.ResultCell
import Derived.Lib.AppendIntMem
import Derived.Lib.AppendStr
import Derived.Lib.BitFns
import Derived.Lib.Hide
import Derived.Lib.ItoaMem
import Derived.Lib.ItoaNum
import Derived.Lib.Strings
import Derived.Lib.TrailingZeros
import Derived.OwnWalk
import Derived.Shelf.Bits.Mul64
import Derived.Shelf.LaysM
import Derived.Shelf.Small.Bits
import Derived.Shelf.Small.Wraps
import Derived.Shelf.Spec.BitsCarry
import Derived.Shelf.Spec.TrailingZeros
import Derived.Shelf.Strconv.Itoa0
import Derived.Shelf.Strconv.Itoa1
import Derived.Shelf.Strconv.Itoa2
import Derived.Shelf.Strconv.Itoa3
import Derived.WalkKit
import Derived.WalkLawsBesides
import Derived.WalkSpells
import Derived.Test.YtnemjllghpijgaaDoorS00Mem
import Derived.Test.YtnemjllghpijgaaDoorShelf
import Derived.Test.YtnemjllghpijgaaDoorS02ShiftI
import Derived.Test.YtnemjllghpijgaaDoorS03GuessD
import Derived.Test.YtnemjllghpijgaaDoorS04IntB
import Derived.Test.YtnemjllghpijgaaDoorS05IntD
import Derived.Test.YtnemjllghpijgaaDoorS06ParE
import Derived.Test.YtnemjllghpijgaaDoorS07GcB
import Derived.Test.YtnemjllghpijgaaDoorS08TxF
import Derived.Test.YtnemjllghpijgaaDoorS09ZA
import Derived.Test.YtnemjllghpijgaaDoorS10ZJ
import Derived.Test.YtnemjllghpijgaaDoorS11ZK
namespace Go.Proofs.YtnemjllghpijgaaDoor
open Go.RowKit

theorem str_append (a b : List UInt8) : (⟨a.toArray⟩ : ByteArray) ++ (⟨b.toArray⟩ : ByteArray) = ⟨(a ++ b).toArray⟩ := by
  apply ByteArray.ext
  simp [ByteArray.data_append]

theorem ISeg.blt {w : World} {b o : Nat} {l : List Nat} (h : ISeg w (some ⟨b, o, none⟩) l) : b < w.heap.size := by
  rcases h with ⟨h, _⟩ | ⟨b', o', h, hb, _⟩
  · cases h
  · simp only [Option.some.injEq, Addr.mk.injEq, and_true] at h
    obtain ⟨rfl, rfl⟩ := h
    exact hb.lt

theorem ztx_len {l : List Nat} (hd : ZD l) (k : Nat) : (ztx l k).length ≤ 4 * l.length + 1 := by
  unfold ztx
  split
  · simp
  · rw [Lib.decDigits_length]
    have h1 : zval (l.drop k) < 10000 ^ (l.drop k).length := zval_lt (fun x hx => hd x (List.mem_of_mem_drop hx))
    rw [List.length_drop] at h1
    have h2 : (10000 : Nat) ^ (l.length - k) ≤ 10 ^ (4 * l.length + 1) := by
      rw [show (10000 : Nat) = 10 ^ 4 by decide, ← Nat.pow_mul]
      exact Nat.pow_le_pow_right (by decide) (by omega)
    exact nDigits_le _ _ (by omega) (by omega)

theorem conv_tail (W : World) (G f m : Nat) (l : List UInt8) (hl : l.length = m) (h : ∀ j, (hj : j < l.length) → W.cell? ⟨G, f + j, none⟩ = some (.int .u8 (l[j].toNat : Int))) : (convert 63 9 (.slice (some ⟨G, f, none⟩) m m)).run Tryd.prog W = .ok (.string ⟨l.toArray⟩) W := by
  subst hl
  refine run_convert_bytes_back (P := Tryd.prog) W 63 9 5 ⟨G, f, none⟩ l.length l Tryd.underlying63 Tryd.underlying5 Tryd.underlying9 (fun j hj => ?_)
  rw [Lib.add_plain]
  exact h j hj

/-- Four bytes in memory, and what is converted of them. -/
theorem four_conv {W : World} {G B3 B2 B1 B0 : Nat} (k3 : W.cell? ⟨G, 0, none⟩ = some (.int .u8 B3)) (k2 : W.cell? ⟨G, 1, none⟩ = some (.int .u8 B2)) (k1 : W.cell? ⟨G, 2, none⟩ = some (.int .u8 B1)) (k0 : W.cell? ⟨G, 3, none⟩ = some (.int .u8 B0)) (hB : B3 < 256 ∧ B2 < 256 ∧ B1 < 256 ∧ B0 < 256) :
    (∀ t, t < 4 → W.cell? ⟨G, t, none⟩ = some (.int .u8 (([UInt8.ofNat B3, UInt8.ofNat B2, UInt8.ofNat B1, UInt8.ofNat B0].getD t 0).toNat : Int))) ∧
    ∀ f, f ≤ 3 → (convert 63 9 (.slice (some ⟨G, f, none⟩) (4 - f) (4 - f))).run Tryd.prog W = .ok (.string ⟨([UInt8.ofNat B3, UInt8.ofNat B2, UInt8.ofNat B1, UInt8.ofNat B0].drop f).toArray⟩) W := by
  have e : ∀ B : Nat, B < 256 → ((UInt8.ofNat B).toNat : Int) = (B : Int) := by
    intro B h
    have : (UInt8.ofNat B).toNat = B := by rw [UInt8.toNat_ofNat']; omega
    rw [this]
  have hc : ∀ t, t < 4 → W.cell? ⟨G, t, none⟩ = some (.int .u8 (([UInt8.ofNat B3, UInt8.ofNat B2, UInt8.ofNat B1, UInt8.ofNat B0].getD t 0).toNat : Int)) := by
    intro t ht
    match t, ht with
    | 0, _ => rw [k3]; show _ = some (Value.int .u8 ((UInt8.ofNat B3).toNat : Int)); rw [e _ hB.1]
    | 1, _ => rw [k2]; show _ = some (Value.int .u8 ((UInt8.ofNat B2).toNat : Int)); rw [e _ hB.2.1]
    | 2, _ => rw [k1]; show _ = some (Value.int .u8 ((UInt8.ofNat B1).toNat : Int)); rw [e _ hB.2.2.1]
    | 3, _ => rw [k0]; show _ = some (Value.int .u8 ((UInt8.ofNat B0).toNat : Int)); rw [e _ hB.2.2.2]
    | k + 4, h => omega
  refine ⟨hc, fun f hf => ?_⟩
  refine conv_tail W G f (4 - f) _ (by rw [List.length_drop]; rfl) (fun j hj => ?_)
  rw [List.length_drop] at hj
  have h4 : [UInt8.ofNat B3, UInt8.ofNat B2, UInt8.ofNat B1, UInt8.ofNat B0].length = 4 := rfl
  rw [hc (f + j) (by omega)]
  rw [List.getElem_drop, List.getD_eq_getElem?_getD, List.getElem?_eq_getElem (by omega)]
  rfl

theorem four_cells (w : World) (u0 u1 u2 u3 : Value) (e : TypeId) : (w.alloc (.cells #[u0, u1, u2, u3] e)).cell? ⟨w.heap.size, 0, none⟩ = some u0 ∧ (w.alloc (.cells #[u0, u1, u2, u3] e)).cell? ⟨w.heap.size, 1, none⟩ = some u1 ∧ (w.alloc (.cells #[u0, u1, u2, u3] e)).cell? ⟨w.heap.size, 2, none⟩ = some u2 ∧ (w.alloc (.cells #[u0, u1, u2, u3] e)).cell? ⟨w.heap.size, 3, none⟩ = some u3 := by
  refine ⟨?_, ?_, ?_, ?_⟩ <;> (rw [World.cell?_alloc_new]; rfl)

set_option maxHeartbeats 2000000 in
set_option maxRecDepth 100000 in
theorem ZText_any (neg : Bool) (ao : Option Addr) (n c : Nat) (z : Int) (w : World) (h : IsZ w neg ao n c z) (hn : n ≤ 1000000) :
    Calls Tryd.prog 10 #[.agg #[.bool neg, .slice ao n c]] w fun e w' => e = .returned (.string ⟨(Lib.itoa z).toArray⟩) ∧ Ext w w' := by
  obtain ⟨l, h1, h2, h3, h4, h5, h6, h7, h8⟩ := h
  have hE := ext_alloc w (.cells #[.bool neg, .slice ao n c] 31)
  have bA := zbx_new w neg ao n c
  have x0 := bA.c0; have x1 := bA.c1
  by_cases h0 : n = 0
  · have hl : l = [] := List.eq_nil_of_length_eq_zero (by omega)
    have hz : z = 0 := by rw [h7, hl]; simp [zval]
    have Ht : Hid (Lib.itoa z = [48]) := by show _ = _; rw [hz]; unfold Lib.itoa; rw [if_neg (by omega), Lib.decDigits]; simp
    subst h0
    clear h7 h1 h2 h3 h4 h5 h6 h8 hl hz x0
    go_enter Tryd.func10, Tryd.ntmps10
    go_wp2_with fail
    go_ret
    exact ⟨by rw [Ht.out]; rfl, hE⟩
  · have hl : l ≠ [] := by intro e; subst e; simp at h1; omega
    have hb : ((n : Int) == 0) = false := by rw [beq_eq_false_iff_ne]; omega
    obtain ⟨b, o, rfl⟩ := h4.some_of (by omega)
    have Hz : Hid (Lib.itoa z = (if neg then [45] else []) ++ ztx l 0) := by
      show _ = _
      rw [ztx_all hl, h7]
      have hv : 0 < zval l := by
        apply Nat.pos_of_ne_zero
        intro e; exact hl ((zval_zero h6).1 e)
      unfold Lib.itoa
      cases neg
      · rw [if_neg (by simp)]; simp
      · rw [if_pos (by simp; omega)]; simp
    obtain ⟨sg, hsg⟩ : ∃ sg : List UInt8, (if neg then [45] else []) = sg := ⟨_, rfl⟩
    rw [hsg] at Hz
    have H1 := Lib.hid h1; have H4 := Lib.hid h4; have H5 := Lib.hid h5; have H6 := Lib.hid h6; have Hl := Lib.hid hl
    clear h1 h4 h5 h6 h7 h8 h2 h3 hl
    cases neg
    · have Hsg := Lib.hid hsg
      clear hsg
      go_enter Tryd.func10, Tryd.ntmps10
      go_wp2_with fail
      generalize w.alloc (.cells #[.bool false, .slice (some ⟨b, o, none⟩) n c] 31) = W0 at *
      go_loopw [3, 4] (fun tv iv wr => ∃ k : Nat, k ≤ n ∧ iv = .int .i64 ((k : Int) - 1) ∧ tv = .string ⟨(sg ++ ztx l k).toArray⟩ ∧ Ext W0 wr) (fun _ iv _ => (intOf iv + 1).toNat)
      case atStart => exact ⟨n, Nat.le_refl _, by go_num, by have := ztx_end l; rw [H1.out] at this; rw [this, ← Hsg.out]; rfl, Ext.refl _⟩
      case round =>
        obtain ⟨k, hk, rfl, rfl, hEr⟩ := hrel
        have HEr := Lib.hid hEr
        have d1 := zKeep hEr bA.lt x1
        clear hEr
        obtain ⟨tl, htl⟩ : ∃ tl, sg ++ ztx l k = tl := ⟨_, rfl⟩
        rw [htl]
        have htl8 : tl.length ≤ 4000010 := by
          have h1 := ztx_len H5.out k
          have h2 : sg.length ≤ 1 := by rw [← Hsg.out]; decide
          rw [H1.out] at h1
          rw [← htl, List.length_append]; omega
        have Htl := Lib.hid htl
        clear htl
        by_cases hk0 : k = 0
        · subst hk0
          go_wp2_with fail
          go_ret
          exact ⟨by rw [Hz.out, Htl.out]; rfl, hE.trans HEr.out⟩
        · obtain ⟨j, rfl⟩ : ∃ j, k = j + 1 := ⟨k - 1, by omega⟩
          have ec : (((j + 1 : Nat) : Int) - 1) = (j : Int) := by omega
          have ij : (j : Int) < (n : Int) := by omega
          rw [ec]
          have hcl := (H4.out.ext (hE.trans HEr.out)).at j (by rw [H1.out]; omega)
          obtain ⟨x, hx⟩ : ∃ x, l.getD j 0 = x := ⟨_, rfl⟩
          have hx4 : x < 10000 := by rw [← hx]; exact H5.out.get j
          rw [hx] at hcl
          have Hx := Lib.hid hx
          obtain ⟨q3, g3⟩ : ∃ q, x / 1000 = q := ⟨_, rfl⟩
          obtain ⟨q2, g2⟩ : ∃ q, x / 100 = q := ⟨_, rfl⟩
          obtain ⟨r2, e2⟩ : ∃ q, q2 % 10 = q := ⟨_, rfl⟩
          obtain ⟨q1, g1⟩ : ∃ q, x / 10 = q := ⟨_, rfl⟩
          obtain ⟨r1, e1⟩ : ∃ q, q1 % 10 = q := ⟨_, rfl⟩
          obtain ⟨r0, e0⟩ : ∃ q, x % 10 = q := ⟨_, rfl⟩
          have t3 : (x : Int).tdiv 1000 = (q3 : Int) := by rw [Int.tdiv_eq_ediv_of_nonneg (by omega)]; omega
          have t2 : (x : Int).tdiv 100 = (q2 : Int) := by rw [Int.tdiv_eq_ediv_of_nonneg (by omega)]; omega
          have t1 : (x : Int).tdiv 10 = (q1 : Int) := by rw [Int.tdiv_eq_ediv_of_nonneg (by omega)]; omega
          have m2 : (q2 : Int).tmod 10 = (r2 : Int) := by rw [Int.tmod_eq_emod_of_nonneg (by omega)]; omega
          have m1 : (q1 : Int).tmod 10 = (r1 : Int) := by rw [Int.tmod_eq_emod_of_nonneg (by omega)]; omega
          have m0 : (x : Int).tmod 10 = (r0 : Int) := by rw [Int.tmod_eq_emod_of_nonneg (by omega)]; omega
          have b3 : q3 ≤ 9 := by omega
          have b2 : r2 ≤ 9 := by omega
          have b1 : r1 ≤ 9 := by omega
          have b0 : r0 ≤ 9 := by omega
          obtain ⟨B3, hB3⟩ : ∃ B, 48 + q3 = B := ⟨_, rfl⟩
          obtain ⟨B2, hB2⟩ : ∃ B, 48 + r2 = B := ⟨_, rfl⟩
          obtain ⟨B1, hB1⟩ : ∃ B, 48 + r1 = B := ⟨_, rfl⟩
          obtain ⟨B0, hB0⟩ : ∃ B, 48 + r0 = B := ⟨_, rfl⟩
          have v3 : IntKind.i64.wrap (q3 : Int) = (q3 : Int) := by rw [IntKind.wrap_i64]; omega
          have v2 : IntKind.i64.wrap (q2 : Int) = (q2 : Int) := by rw [IntKind.wrap_i64]; omega
          have v1 : IntKind.i64.wrap (q1 : Int) = (q1 : Int) := by rw [IntKind.wrap_i64]; omega
          have s3 : IntKind.i64.wrap (48 + (q3 : Int)) = (B3 : Int) := by rw [IntKind.wrap_i64]; omega
          have s2 : IntKind.i64.wrap (48 + (r2 : Int)) = (B2 : Int) := by rw [IntKind.wrap_i64]; omega
          have s1 : IntKind.i64.wrap (48 + (r1 : Int)) = (B1 : Int) := by rw [IntKind.wrap_i64]; omega
          have s0 : IntKind.i64.wrap (48 + (r0 : Int)) = (B0 : Int) := by rw [IntKind.wrap_i64]; omega
          have y3 : IntKind.u8.wrap (B3 : Int) = (B3 : Int) := by rw [IntKind.wrap_u8]; omega
          have y2 : IntKind.u8.wrap (B2 : Int) = (B2 : Int) := by rw [IntKind.wrap_u8]; omega
          have y1 : IntKind.u8.wrap (B1 : Int) = (B1 : Int) := by rw [IntKind.wrap_u8]; omega
          have y0 : IntKind.u8.wrap (B0 : Int) = (B0 : Int) := by rw [IntKind.wrap_u8]; omega
          have Hpad : Hid (padD 4 x = [UInt8.ofNat B3, UInt8.ofNat B2, UInt8.ofNat B1, UInt8.ofNat B0]) := by
            show _ = _
            rw [padD_four x hx4, g3, g2, e2, g1, e1, e0, hB3, hB2, hB1, hB0]
          have z3 : B3 < 256 := by omega
          have z2 : B2 < 256 := by omega
          have z1 : B1 < 256 := by omega
          have z0 : B0 < 256 := by omega
          have HB := Lib.hid (And.intro z3 (And.intro z2 (And.intro z1 z0)))
          clear hx g3 g2 e2 g1 e1 e0 hk0 hB3 hB2 hB1 hB0 z3 z2 z1 z0
          have hrd : Ext wr wr.drew := Below.drew (Ext.refl _)
          have lB := Nat.lt_of_lt_of_le bA.lt HEr.out.size
          have lb := (H4.out.ext (hE.trans HEr.out)).blt
          go_wp2_with fail
          go_region_held3 (fun w' => w'.cell? ⟨w.heap.size, 1, none⟩ = some (.slice (some ⟨b, o, none⟩) n c) ∧ w'.cell? ⟨b, o + j, none⟩ = some (.int .i64 (x : Nat)))
            (first | exact ⟨zKeep (W := wr) (by assumption) lB d1, zKeep (W := wr) (by assumption) lb hcl⟩ | exact ⟨zKeep (W := wr) (hrd.trans (ext_alloc _ _)) lB d1, zKeep (W := wr) (hrd.trans (ext_alloc _ _)) lb hcl⟩)
            (first | fail)
          have hx2 : Ext wr (wr.alloc (.cells #[.int .u8 B3, .int .u8 B2, .int .u8 B1, .int .u8 B0] 5)).drew := Below.drew (ext_alloc wr _)
          have d5 := zKeep hx2 lB d1
          have HE2 := Lib.hid (HEr.out.trans hx2)
          obtain ⟨k3, k2, k1, k0⟩ := four_cells wr (.int .u8 B3) (.int .u8 B2) (.int .u8 B1) (.int .u8 B0) 5
          have hdd : Ext (wr.alloc (.cells #[.int .u8 B3, .int .u8 B2, .int .u8 B1, .int .u8 B0] 5)) (wr.alloc (.cells #[.int .u8 B3, .int .u8 B2, .int .u8 B1, .int .u8 B0] 5)).drew := Below.drew (Ext.refl _)
          have lG : wr.heap.size < (wr.alloc (.cells #[.int .u8 B3, .int .u8 B2, .int .u8 B1, .int .u8 B0] 5)).heap.size := by simp
          have k3 := zKeep hdd lG k3
          have k2 := zKeep hdd lG k2
          have k1 := zKeep hdd lG k1
          have k0 := zKeep hdd lG k0
          clear d1 hcl hrd lB lb hdd lG hx2 t3 t2 t1 m2 m1 m0 b3 b2 b1 b0 v3 v2 v1 s3 s2 s1 s0 y3 y2 y1 y0
          go_wp2_with fail
          generalize (wr.alloc (.cells #[.int .u8 B3, .int .u8 B2, .int .u8 B1, .int .u8 B0] 5)).drew = W2 at *
          generalize wr.heap.size = G at *
          obtain ⟨hcell, hconv⟩ := four_conv k3 k2 k1 k0 HB.out
          have Hcell := Lib.hid hcell; have Hconv := Lib.hid hconv
          clear hcell hconv k3 k2 k1 k0 HB
          obtain ⟨bl, hbl⟩ : ∃ bl, [UInt8.ofNat B3, UInt8.ofNat B2, UInt8.ofNat B1, UInt8.ofNat B0] = bl := ⟨_, rfl⟩
          have hbl4 : bl.length ≤ 4 := by rw [← hbl]; exact Nat.le_refl _
          rw [hbl] at Hcell Hconv Hpad
          clear hbl
          by_cases hfirst : j + 1 = n
          · have hx0 : 0 < x := by
              have h6 := H6.out.resolve_left Hl.out
              rw [H1.out, ← hfirst, Nat.add_sub_cancel, Hx.out] at h6
              omega
            obtain ⟨f, hf3, hall, hne, hdec⟩ := dec_first x hx4 hx0
            rw [Hpad.out] at hall hne hdec
            have Hall := Lib.hid hall; have Hne := Lib.hid hne
            have Hfin : Hid (tl ++ bl.drop f = sg ++ ztx l j) := by
              show _ = _
              rw [ztx_first (by rw [H1.out]; exact hfirst.symm) Hx.out, hdec, ← Htl.out, hfirst]
              have := ztx_end l
              rw [H1.out] at this
              rw [this, List.append_nil]
            have ej : ((j : Int) == (n : Int) - 1) = true := by rw [beq_iff_eq]; omega
            clear hall hne hdec hfirst hx0 Htl
            go_loop [6] (fun v => ∃ k : Nat, k ≤ f ∧ v = .int .i64 k) (fun v => f - (intOf v).toNat)
            case atStart => exact ⟨0, Nat.zero_le _, rfl⟩
            case round =>
              obtain ⟨k, hk, rfl⟩ := hrel
              by_cases hkf : k < f
              · have hc : W2.cell? ⟨G, k, none⟩ = some (.int .u8 48) := by
                  rw [Hcell.out k (by omega), Hall.out k hkf]; rfl
                have ik : (k : Int) < 3 := by omega
                go_wp2_with fail
                go_round
                case rel => exact ⟨k + 1, by omega, by go_num⟩
                case measure => simp [intOf]; omega
              · obtain rfl : k = f := by omega
                have hcv := Hconv.out k hf3
                by_cases hk3 : k = 3
                · subst hk3
                  go_wp2_with fail
                  go_roundw
                  case rel => exact ⟨j, by omega, by go_num, by rw [str_append, Hfin.out], HE2.out⟩
                  case measure => simp [intOf]
                · have ik : (k : Int) < 3 := by omega
                  obtain ⟨q, hq, hc⟩ : ∃ q : Nat, ((q : Int) == 48) = false ∧ W2.cell? ⟨G, k, none⟩ = some (.int .u8 (q : Nat)) := by
                    refine ⟨(bl.getD k 0).toNat, ?_, Hcell.out k (by omega)⟩
                    rw [beq_eq_false_iff_ne]
                    intro hc
                    exact Hne.out (UInt8.toNat_inj.1 (by have : (48 : UInt8).toNat = 48 := rfl; rw [this]; omega))
                  go_wp2_with fail
                  go_roundw
                  case rel => exact ⟨j, by omega, by go_num, by rw [str_append, Hfin.out], HE2.out⟩
                  case measure => simp [intOf]
          · have ej : ((j : Int) == (n : Int) - 1) = false := by rw [beq_eq_false_iff_ne]; omega
            have Hfin : Hid (tl ++ bl = sg ++ ztx l j) := by
              show _ = _
              rw [ztx_next H6.out (by rw [H1.out]; omega) Hx.out hx4, Hpad.out, ← Htl.out, List.append_assoc]
            have hcv := Hconv.out 0 (by omega)
            rw [List.drop_zero] at hcv
            clear hfirst Htl
            go_loop [6] (fun v => v = .int .i64 0) (fun v => 0)
            case atStart => rfl
            case round =>
              subst hrel
              go_wp2_with fail
              go_roundw
              case rel => exact ⟨j, by omega, by go_num, by rw [str_append, Hfin.out], HE2.out⟩
              case measure => simp [intOf]
    · have Hsg := Lib.hid hsg
      clear hsg
      go_enter Tryd.func10, Tryd.ntmps10
      go_wp2_with fail
      generalize w.alloc (.cells #[.bool true, .slice (some ⟨b, o, none⟩) n c] 31) = W0 at *
      go_loopw [3, 4] (fun tv iv wr => ∃ k : Nat, k ≤ n ∧ iv = .int .i64 ((k : Int) - 1) ∧ tv = .string ⟨(sg ++ ztx l k).toArray⟩ ∧ Ext W0 wr) (fun _ iv _ => (intOf iv + 1).toNat)
      case atStart => exact ⟨n, Nat.le_refl _, by go_num, by have := ztx_end l; rw [H1.out] at this; rw [this, ← Hsg.out]; rfl, Ext.refl _⟩
      case round =>
        obtain ⟨k, hk, rfl, rfl, hEr⟩ := hrel
        have HEr := Lib.hid hEr
        have d1 := zKeep hEr bA.lt x1
        clear hEr
        obtain ⟨tl, htl⟩ : ∃ tl, sg ++ ztx l k = tl := ⟨_, rfl⟩
        rw [htl]
        have htl8 : tl.length ≤ 4000010 := by
          have h1 := ztx_len H5.out k
          have h2 : sg.length ≤ 1 := by rw [← Hsg.out]; decide
          rw [H1.out] at h1
          rw [← htl, List.length_append]; omega
        have Htl := Lib.hid htl
        clear htl
        by_cases hk0 : k = 0
        · subst hk0
          go_wp2_with fail
          go_ret
          exact ⟨by rw [Hz.out, Htl.out]; rfl, hE.trans HEr.out⟩
        · obtain ⟨j, rfl⟩ : ∃ j, k = j + 1 := ⟨k - 1, by omega⟩
          have ec : (((j + 1 : Nat) : Int) - 1) = (j : Int) := by omega
          have ij : (j : Int) < (n : Int) := by omega
          rw [ec]
          have hcl := (H4.out.ext (hE.trans HEr.out)).at j (by rw [H1.out]; omega)
          obtain ⟨x, hx⟩ : ∃ x, l.getD j 0 = x := ⟨_, rfl⟩
          have hx4 : x < 10000 := by rw [← hx]; exact H5.out.get j
          rw [hx] at hcl
          have Hx := Lib.hid hx
          obtain ⟨q3, g3⟩ : ∃ q, x / 1000 = q := ⟨_, rfl⟩
          obtain ⟨q2, g2⟩ : ∃ q, x / 100 = q := ⟨_, rfl⟩
          obtain ⟨r2, e2⟩ : ∃ q, q2 % 10 = q := ⟨_, rfl⟩
          obtain ⟨q1, g1⟩ : ∃ q, x / 10 = q := ⟨_, rfl⟩
          obtain ⟨r1, e1⟩ : ∃ q, q1 % 10 = q := ⟨_, rfl⟩
          obtain ⟨r0, e0⟩ : ∃ q, x % 10 = q := ⟨_, rfl⟩
          have t3 : (x : Int).tdiv 1000 = (q3 : Int) := by rw [Int.tdiv_eq_ediv_of_nonneg (by omega)]; omega
          have t2 : (x : Int).tdiv 100 = (q2 : Int) := by rw [Int.tdiv_eq_ediv_of_nonneg (by omega)]; omega
          have t1 : (x : Int).tdiv 10 = (q1 : Int) := by rw [Int.tdiv_eq_ediv_of_nonneg (by omega)]; omega
          have m2 : (q2 : Int).tmod 10 = (r2 : Int) := by rw [Int.tmod_eq_emod_of_nonneg (by omega)]; omega
          have m1 : (q1 : Int).tmod 10 = (r1 : Int) := by rw [Int.tmod_eq_emod_of_nonneg (by omega)]; omega
          have m0 : (x : Int).tmod 10 = (r0 : Int) := by rw [Int.tmod_eq_emod_of_nonneg (by omega)]; omega
          have b3 : q3 ≤ 9 := by omega
          have b2 : r2 ≤ 9 := by omega
          have b1 : r1 ≤ 9 := by omega
          have b0 : r0 ≤ 9 := by omega
          obtain ⟨B3, hB3⟩ : ∃ B, 48 + q3 = B := ⟨_, rfl⟩
          obtain ⟨B2, hB2⟩ : ∃ B, 48 + r2 = B := ⟨_, rfl⟩
          obtain ⟨B1, hB1⟩ : ∃ B, 48 + r1 = B := ⟨_, rfl⟩
          obtain ⟨B0, hB0⟩ : ∃ B, 48 + r0 = B := ⟨_, rfl⟩
          have v3 : IntKind.i64.wrap (q3 : Int) = (q3 : Int) := by rw [IntKind.wrap_i64]; omega
          have v2 : IntKind.i64.wrap (q2 : Int) = (q2 : Int) := by rw [IntKind.wrap_i64]; omega
          have v1 : IntKind.i64.wrap (q1 : Int) = (q1 : Int) := by rw [IntKind.wrap_i64]; omega
          have s3 : IntKind.i64.wrap (48 + (q3 : Int)) = (B3 : Int) := by rw [IntKind.wrap_i64]; omega
          have s2 : IntKind.i64.wrap (48 + (r2 : Int)) = (B2 : Int) := by rw [IntKind.wrap_i64]; omega
          have s1 : IntKind.i64.wrap (48 + (r1 : Int)) = (B1 : Int) := by rw [IntKind.wrap_i64]; omega
          have s0 : IntKind.i64.wrap (48 + (r0 : Int)) = (B0 : Int) := by rw [IntKind.wrap_i64]; omega
          have y3 : IntKind.u8.wrap (B3 : Int) = (B3 : Int) := by rw [IntKind.wrap_u8]; omega
          have y2 : IntKind.u8.wrap (B2 : Int) = (B2 : Int) := by rw [IntKind.wrap_u8]; omega
          have y1 : IntKind.u8.wrap (B1 : Int) = (B1 : Int) := by rw [IntKind.wrap_u8]; omega
          have y0 : IntKind.u8.wrap (B0 : Int) = (B0 : Int) := by rw [IntKind.wrap_u8]; omega
          have Hpad : Hid (padD 4 x = [UInt8.ofNat B3, UInt8.ofNat B2, UInt8.ofNat B1, UInt8.ofNat B0]) := by
            show _ = _
            rw [padD_four x hx4, g3, g2, e2, g1, e1, e0, hB3, hB2, hB1, hB0]
          have z3 : B3 < 256 := by omega
          have z2 : B2 < 256 := by omega
          have z1 : B1 < 256 := by omega
          have z0 : B0 < 256 := by omega
          have HB := Lib.hid (And.intro z3 (And.intro z2 (And.intro z1 z0)))
          clear hx g3 g2 e2 g1 e1 e0 hk0 hB3 hB2 hB1 hB0 z3 z2 z1 z0
          have hrd : Ext wr wr.drew := Below.drew (Ext.refl _)
          have lB := Nat.lt_of_lt_of_le bA.lt HEr.out.size
          have lb := (H4.out.ext (hE.trans HEr.out)).blt
          go_wp2_with fail
          go_region_held3 (fun w' => w'.cell? ⟨w.heap.size, 1, none⟩ = some (.slice (some ⟨b, o, none⟩) n c) ∧ w'.cell? ⟨b, o + j, none⟩ = some (.int .i64 (x : Nat)))
            (first | exact ⟨zKeep (W := wr) (by assumption) lB d1, zKeep (W := wr) (by assumption) lb hcl⟩ | exact ⟨zKeep (W := wr) (hrd.trans (ext_alloc _ _)) lB d1, zKeep (W := wr) (hrd.trans (ext_alloc _ _)) lb hcl⟩)
            (first | fail)
          have hx2 : Ext wr (wr.alloc (.cells #[.int .u8 B3, .int .u8 B2, .int .u8 B1, .int .u8 B0] 5)).drew := Below.drew (ext_alloc wr _)
          have d5 := zKeep hx2 lB d1
          have HE2 := Lib.hid (HEr.out.trans hx2)
          obtain ⟨k3, k2, k1, k0⟩ := four_cells wr (.int .u8 B3) (.int .u8 B2) (.int .u8 B1) (.int .u8 B0) 5
          have hdd : Ext (wr.alloc (.cells #[.int .u8 B3, .int .u8 B2, .int .u8 B1, .int .u8 B0] 5)) (wr.alloc (.cells #[.int .u8 B3, .int .u8 B2, .int .u8 B1, .int .u8 B0] 5)).drew := Below.drew (Ext.refl _)
          have lG : wr.heap.size < (wr.alloc (.cells #[.int .u8 B3, .int .u8 B2, .int .u8 B1, .int .u8 B0] 5)).heap.size := by simp
          have k3 := zKeep hdd lG k3
          have k2 := zKeep hdd lG k2
          have k1 := zKeep hdd lG k1
          have k0 := zKeep hdd lG k0
          clear d1 hcl hrd lB lb hdd lG hx2 t3 t2 t1 m2 m1 m0 b3 b2 b1 b0 v3 v2 v1 s3 s2 s1 s0 y3 y2 y1 y0
          go_wp2_with fail
          generalize (wr.alloc (.cells #[.int .u8 B3, .int .u8 B2, .int .u8 B1, .int .u8 B0] 5)).drew = W2 at *
          generalize wr.heap.size = G at *
          obtain ⟨hcell, hconv⟩ := four_conv k3 k2 k1 k0 HB.out
          have Hcell := Lib.hid hcell; have Hconv := Lib.hid hconv
          clear hcell hconv k3 k2 k1 k0 HB
          obtain ⟨bl, hbl⟩ : ∃ bl, [UInt8.ofNat B3, UInt8.ofNat B2, UInt8.ofNat B1, UInt8.ofNat B0] = bl := ⟨_, rfl⟩
          have hbl4 : bl.length ≤ 4 := by rw [← hbl]; exact Nat.le_refl _
          rw [hbl] at Hcell Hconv Hpad
          clear hbl
          by_cases hfirst : j + 1 = n
          · have hx0 : 0 < x := by
              have h6 := H6.out.resolve_left Hl.out
              rw [H1.out, ← hfirst, Nat.add_sub_cancel, Hx.out] at h6
              omega
            obtain ⟨f, hf3, hall, hne, hdec⟩ := dec_first x hx4 hx0
            rw [Hpad.out] at hall hne hdec
            have Hall := Lib.hid hall; have Hne := Lib.hid hne
            have Hfin : Hid (tl ++ bl.drop f = sg ++ ztx l j) := by
              show _ = _
              rw [ztx_first (by rw [H1.out]; exact hfirst.symm) Hx.out, hdec, ← Htl.out, hfirst]
              have := ztx_end l
              rw [H1.out] at this
              rw [this, List.append_nil]
            have ej : ((j : Int) == (n : Int) - 1) = true := by rw [beq_iff_eq]; omega
            clear hall hne hdec hfirst hx0 Htl
            go_loop [6] (fun v => ∃ k : Nat, k ≤ f ∧ v = .int .i64 k) (fun v => f - (intOf v).toNat)
            case atStart => exact ⟨0, Nat.zero_le _, rfl⟩
            case round =>
              obtain ⟨k, hk, rfl⟩ := hrel
              by_cases hkf : k < f
              · have hc : W2.cell? ⟨G, k, none⟩ = some (.int .u8 48) := by
                  rw [Hcell.out k (by omega), Hall.out k hkf]; rfl
                have ik : (k : Int) < 3 := by omega
                go_wp2_with fail
                go_round
                case rel => exact ⟨k + 1, by omega, by go_num⟩
                case measure => simp [intOf]; omega
              · obtain rfl : k = f := by omega
                have hcv := Hconv.out k hf3
                by_cases hk3 : k = 3
                · subst hk3
                  go_wp2_with fail
                  go_roundw
                  case rel => exact ⟨j, by omega, by go_num, by rw [str_append, Hfin.out], HE2.out⟩
                  case measure => simp [intOf]
                · have ik : (k : Int) < 3 := by omega
                  obtain ⟨q, hq, hc⟩ : ∃ q : Nat, ((q : Int) == 48) = false ∧ W2.cell? ⟨G, k, none⟩ = some (.int .u8 (q : Nat)) := by
                    refine ⟨(bl.getD k 0).toNat, ?_, Hcell.out k (by omega)⟩
                    rw [beq_eq_false_iff_ne]
                    intro hc
                    exact Hne.out (UInt8.toNat_inj.1 (by have : (48 : UInt8).toNat = 48 := rfl; rw [this]; omega))
                  go_wp2_with fail
                  go_roundw
                  case rel => exact ⟨j, by omega, by go_num, by rw [str_append, Hfin.out], HE2.out⟩
                  case measure => simp [intOf]
          · have ej : ((j : Int) == (n : Int) - 1) = false := by rw [beq_eq_false_iff_ne]; omega
            have Hfin : Hid (tl ++ bl = sg ++ ztx l j) := by
              show _ = _
              rw [ztx_next H6.out (by rw [H1.out]; omega) Hx.out hx4, Hpad.out, ← Htl.out, List.append_assoc]
            have hcv := Hconv.out 0 (by omega)
            rw [List.drop_zero] at hcv
            clear hfirst Htl
            go_loop [6] (fun v => v = .int .i64 0) (fun v => 0)
            case atStart => rfl
            case round =>
              subst hrel
              go_wp2_with fail
              go_roundw
              case rel => exact ⟨j, by omega, by go_num, by rw [str_append, Hfin.out], HE2.out⟩
              case measure => simp [intOf]

end Go.Proofs.YtnemjllghpijgaaDoor
namespace Go.Proofs.YtnemjllghpijgaaDoor
open Go.RowKit

theorem zbx2_new (w : World) (b : Bool) (a : Option Addr) (n c : Nat) (u v : Value) : ZBx ((w.alloc (.cells #[.bool b, .slice a n c] 31)).alloc (.cells #[u, v] 26)) w.heap.size b a n c := (zbx_new w b a n c).ext (Ext.alloc _ _)
theorem fbx2_new (w : World) (o : Obj) (u v : Int) : FBx ((w.alloc o).alloc (.cells #[.int .i64 u, .int .i64 v] 26)) (w.heap.size + 1) u v := by
  have h := fbx_new (w.alloc o) u v
  rw [show (w.alloc o).heap.size = w.heap.size + 1 from by simp] at h
  exact h

end Go.Proofs.YtnemjllghpijgaaDoor
namespace Go.Proofs.YtnemjllghpijgaaDoor
open Go.RowKit

theorem zof_few {k u v : Nat} (hu : 0 < u) (h : 10000 ^ k * u ≤ v) (hv : v ≤ 9223372036854775808) : k < 5 := by
  apply Nat.lt_of_not_le
  intro hk
  have h1 : (10000 : Nat) ^ 5 ≤ 10000 ^ k := Nat.pow_le_pow_right (by decide) hk
  have h2 : 10000 ^ k ≤ 10000 ^ k * u := Nat.le_mul_of_pos_right _ hu
  omega

theorem zof_step {l : List Nat} {k u v d q : Nat} (hl : l.length = k) (h : zval l + 10000 ^ k * u = v) (hd : u % 10000 = d) (hq : u / 10000 = q) : zval (l ++ [d]) + 10000 ^ (k + 1) * q = v := by
  rw [zval_snoc, hl, Nat.pow_succ, Nat.mul_assoc, Nat.add_assoc, ← Nat.mul_add]
  rw [← h]
  congr 2
  omega

set_option maxHeartbeats 2000000 in
set_option maxRecDepth 100000 in
theorem ZOf_any (n : Int) (h1 : -9223372036854775808 ≤ n) (h2 : n ≤ 9223372036854775807) (w : World) :
    Calls Tryd.prog 31 #[.int .i64 n] w (ZRet w n 5) := by
  obtain ⟨i0, hi, hz0, hz1, hz2⟩ := info_parts int_info
  have hE := ext_alloc w (.cells #[.bool false, .slice none 0 0] 31)
  have hR := zres_new w
  obtain ⟨v, hv⟩ : ∃ v, n.natAbs = v := ⟨_, rfl⟩
  have hvb : v ≤ 9223372036854775808 := by omega
  by_cases hneg : n < 0
  · obtain ⟨X, hX⟩ : ∃ X : Nat, IntKind.u64.wrap n = (X : Int) := ⟨(IntKind.u64.wrap n).toNat, by rw [IntKind.wrap_u64]; omega⟩
    have hX2 : IntKind.u64.wrap (-(X : Int)) = (v : Int) := by rw [IntKind.wrap_u64] at hX ⊢; omega
    have Hz : Hid (n = if true = true then -(v : Int) else (v : Int)) := by show _ = _; simp; omega
    have Hvb := Lib.hid hvb
    clear hv hvb
    go_enter Tryd.func31, Tryd.ntmps31
    go_wp2_with fail
    generalize w.alloc (.cells #[.bool false, .slice none 0 0] 31) = W0 at *
    clear hX hX2
    go_loopw [3, 4] (fun uv dv wr => ∃ (k u : Nat) (l : List Nat), uv = .int .u64 u ∧ l.length = k ∧ k ≤ 5 ∧ ZD l ∧ wr.ownsRow W0.heap.size 3 1 dv k (inC l) ∧ zval l + 10000 ^ k * u = v ∧ Ext W0 wr) (fun uv _ _ => (intOf uv).toNat)
    case atStart => exact ⟨0, v, [], by go_num, rfl, by omega, ZD.nil, (show W0.ownsRow W0.heap.size 3 1 (.slice none 0 0) 0 (inC []) from World.ownsRow_nil _ _ _ _), by simp [zval], Ext.refl _⟩
    case round =>
      obtain ⟨k, u, l, rfl, hl, hk, hd, hown, hval, hEr⟩ := hrel
      have Hl := Lib.hid hl; have Hd := Lib.hid hd; have Hval := Lib.hid hval; have Hown := Lib.hid hown
      by_cases hu : 0 < u
      · have hk5 : k < 5 := zof_few hu (by omega) Hvb.out
        have iu : (0 : Int) < (u : Int) := by omega
        obtain ⟨dg, hdg⟩ : ∃ dg, u % 10000 = dg := ⟨_, rfl⟩
        obtain ⟨q, hq⟩ : ∃ q, u / 10000 = q := ⟨_, rfl⟩
        have Hst := Lib.hid (zof_step hl hval hdg hq)
        have hdl : dg < 10000 := by omega
        have hqu : q < u := by omega
        have hub : u ≤ 9223372036854775808 := by
          have h0 := Hvb.out
          have h1 : 1 ≤ 10000 ^ k := Nat.one_le_pow _ _ (by decide)
          have h2 : 1 * u ≤ 10000 ^ k * u := Nat.mul_le_mul_right _ h1
          omega
        have r1 : (u : Int).tmod 10000 = (dg : Int) := by rw [Int.tmod_eq_emod_of_nonneg (by omega)]; omega
        have r2 : (u : Int) % 10000 = (dg : Int) := by omega
        have r3 : (u : Int).tdiv 10000 = (q : Int) := by rw [Int.tdiv_eq_ediv_of_nonneg (by omega)]; omega
        have r4 : (u : Int) / 10000 = (q : Int) := by omega
        clear hdg hq hl hd hown hval
        go_wp2_with (at_builtin; refine wpList_append_own _ rfl _ _ 29 rfl W0.heap.size 3 i0 (.int .i64 0) 1 8 Tryd.underlying29 hi hz0 hz1 hz2 rfl (by decide) _ k (inC l) rfl (Hown.out.alloc _) ⟨wr.heap.size, 0, none⟩ 1 1 [.int .i64 (dg : Int)] rfl rfl (new_int wr _ _) (one_int _) (by unfold maxLen; omega) (by omega) (Nat.le_trans hEr.size (ext_alloc wr _).size) ?_; intro v' w' hown' hgrow' _)
        go_roundw
        case rel => exact ⟨k + 1, q, l ++ [dg], by go_num, by rw [List.length_append, Hl.out]; rfl, by omega, Hd.out.snoc hdl, by rw [inC_snoc]; exact hown', Hst.out, ext_grown (hEr.trans (ext_alloc wr _)) hgrow' (fun j hj => (Hown.out.lt j hj).1)⟩
        case measure => simp [intOf]; omega
      · obtain rfl : u = 0 := by omega
        have hzl : zval l = v := by have := Hval.out; omega
        obtain ⟨a9, c9, rfl, q1, q2, q3, q4⟩ := iseg_of_own Hown.out
        have Hm := Lib.hid (zmade_any true a9 l k c9 wr q3 q4 Hd.out q1 q2 (by omega) n (by rw [hzl]; exact Hz.out))
        clear hl hd hown hval hzl
        go_wp2_with fail
        refine Hm.out.mono ?_
        rintro e w9 ⟨b', a', n', c', rfl, hI, hle, hx9⟩
        have hR9 := hR.ext (hEr.trans hx9)
        have k0 := hR9.c0; have k1 := hR9.c1; have f0 := hR9.f 0; have f1 := hR9.f 1
        go_wp2_with fail
        exact bodyPost_ret (v := .agg #[.bool b', .slice a' n' c']) (by simp [results, Tryd.results31, go_sem, k0, k1]) rfl ⟨b', a', n', c', rfl, hI.keepRes hR9.row _ _, by omega, zput2 (hE.trans (hEr.trans hx9)) (Nat.le_refl _) _ _⟩
  · have hX : IntKind.u64.wrap n = (v : Int) := by rw [IntKind.wrap_u64]; omega
    have hnd : decide (n < 0) = false := by rw [decide_eq_false_iff_not]; exact hneg
    have Hz : Hid (n = if false = true then -(v : Int) else (v : Int)) := by show _ = _; simp; omega
    have Hvb := Lib.hid hvb
    clear hv hvb
    go_enter Tryd.func31, Tryd.ntmps31
    go_wp2_with fail
    generalize w.alloc (.cells #[.bool false, .slice none 0 0] 31) = W0 at *
    clear hX
    go_loopw [3, 4] (fun uv dv wr => ∃ (k u : Nat) (l : List Nat), uv = .int .u64 u ∧ l.length = k ∧ k ≤ 5 ∧ ZD l ∧ wr.ownsRow W0.heap.size 3 1 dv k (inC l) ∧ zval l + 10000 ^ k * u = v ∧ Ext W0 wr) (fun uv _ _ => (intOf uv).toNat)
    case atStart => exact ⟨0, v, [], by go_num, rfl, by omega, ZD.nil, (show W0.ownsRow W0.heap.size 3 1 (.slice none 0 0) 0 (inC []) from World.ownsRow_nil _ _ _ _), by simp [zval], Ext.refl _⟩
    case round =>
      obtain ⟨k, u, l, rfl, hl, hk, hd, hown, hval, hEr⟩ := hrel
      have Hl := Lib.hid hl; have Hd := Lib.hid hd; have Hval := Lib.hid hval; have Hown := Lib.hid hown
      by_cases hu : 0 < u
      · have hk5 : k < 5 := zof_few hu (by omega) Hvb.out
        have iu : (0 : Int) < (u : Int) := by omega
        obtain ⟨dg, hdg⟩ : ∃ dg, u % 10000 = dg := ⟨_, rfl⟩
        obtain ⟨q, hq⟩ : ∃ q, u / 10000 = q := ⟨_, rfl⟩
        have Hst := Lib.hid (zof_step hl hval hdg hq)
        have hdl : dg < 10000 := by omega
        have hqu : q < u := by omega
        have hub : u ≤ 9223372036854775808 := by
          have h0 := Hvb.out
          have h1 : 1 ≤ 10000 ^ k := Nat.one_le_pow _ _ (by decide)
          have h2 : 1 * u ≤ 10000 ^ k * u := Nat.mul_le_mul_right _ h1
          omega
        have r1 : (u : Int).tmod 10000 = (dg : Int) := by rw [Int.tmod_eq_emod_of_nonneg (by omega)]; omega
        have r2 : (u : Int) % 10000 = (dg : Int) := by omega
        have r3 : (u : Int).tdiv 10000 = (q : Int) := by rw [Int.tdiv_eq_ediv_of_nonneg (by omega)]; omega
        have r4 : (u : Int) / 10000 = (q : Int) := by omega
        clear hdg hq hl hd hown hval
        go_wp2_with (at_builtin; refine wpList_append_own _ rfl _ _ 29 rfl W0.heap.size 3 i0 (.int .i64 0) 1 8 Tryd.underlying29 hi hz0 hz1 hz2 rfl (by decide) _ k (inC l) rfl (Hown.out.alloc _) ⟨wr.heap.size, 0, none⟩ 1 1 [.int .i64 (dg : Int)] rfl rfl (new_int wr _ _) (one_int _) (by unfold maxLen; omega) (by omega) (Nat.le_trans hEr.size (ext_alloc wr _).size) ?_; intro v' w' hown' hgrow' _)
        go_roundw
        case rel => exact ⟨k + 1, q, l ++ [dg], by go_num, by rw [List.length_append, Hl.out]; rfl, by omega, Hd.out.snoc hdl, by rw [inC_snoc]; exact hown', Hst.out, ext_grown (hEr.trans (ext_alloc wr _)) hgrow' (fun j hj => (Hown.out.lt j hj).1)⟩
        case measure => simp [intOf]; omega
      · obtain rfl : u = 0 := by omega
        have hzl : zval l = v := by have := Hval.out; omega
        obtain ⟨a9, c9, rfl, q1, q2, q3, q4⟩ := iseg_of_own Hown.out
        have Hm := Lib.hid (zmade_any false a9 l k c9 wr q3 q4 Hd.out q1 q2 (by omega) n (by rw [hzl]; exact Hz.out))
        clear hl hd hown hval hzl
        go_wp2_with fail
        refine Hm.out.mono ?_
        rintro e w9 ⟨b', a', n', c', rfl, hI, hle, hx9⟩
        have hR9 := hR.ext (hEr.trans hx9)
        have k0 := hR9.c0; have k1 := hR9.c1; have f0 := hR9.f 0; have f1 := hR9.f 1
        go_wp2_with fail
        exact bodyPost_ret (v := .agg #[.bool b', .slice a' n' c']) (by simp [results, Tryd.results31, go_sem, k0, k1]) rfl ⟨b', a', n', c', rfl, hI.keepRes hR9.row _ _, by omega, zput2 (hE.trans (hEr.trans hx9)) (Nat.le_refl _) _ _⟩

end Go.Proofs.YtnemjllghpijgaaDoor
namespace Go.Proofs.YtnemjllghpijgaaDoor
open Go.RowKit

theorem IsZ.abs {w : World} {neg : Bool} {ao : Option Addr} {n c : Nat} {z : Int} (h : IsZ w neg ao n c z) : ∃ l : List Nat, l.length = n ∧ n ≤ c ∧ c ≤ maxLen ∧ ISeg w ao l ∧ ZD l ∧ ZN l ∧ z.natAbs = zval l ∧ z = (if neg then -(zval l : Int) else (zval l : Int)) ∧ (l = [] → neg = false) := by
  obtain ⟨l, h1, h2, h3, h4, h5, h6, h7, h8⟩ := h
  exact ⟨l, h1, h2, h3, h4, h5, h6, by rw [h7]; cases neg <;> simp, h7, h8⟩

theorem drop_set (D : List Nat) (j x : Nat) (h : j < D.length) : (D.set j x).drop j = x :: D.drop (j + 1) := by
  rw [List.drop_eq_getElem_cons (by rw [List.length_set]; exact h), List.getElem_set_self]
  congr 1
  apply List.ext_getElem?
  intro i
  rw [List.getElem?_drop, List.getElem?_drop, List.getElem?_set_ne (by omega)]

end Go.Proofs.YtnemjllghpijgaaDoor
namespace Go.Proofs.YtnemjllghpijgaaDoor
open Go.RowKit

theorem ZBx.own {W : World} {g : Nat} {b : Bool} {a : Option Addr} {n c : Nat} (h : ZBx W g b a n c) (b' : Bool) (a' : Option Addr) (n' c' : Nat) : ZBx ((W.setCell ⟨g, 0, none⟩ (.bool b')).setCell ⟨g, 1, none⟩ (.slice a' n' c')) g b' a' n' c' := by
  have h1 := heap_setCell_same W g 0 _ _ (.bool b') h.row
  have h2 := heap_setCell_same _ g 1 _ _ (.slice a' n' c') h1
  exact ⟨by rw [h2]; rfl⟩
theorem ZBx.f {W : World} {g : Nat} {b : Bool} {a : Option Addr} {n c : Nat} (h : ZBx W g b a n c) (o : Nat) : W.frozen? ⟨g, o, none⟩ = false := frozen_of_row W g o _ _ h.row

theorem IsZ.zero_iff {w : World} {neg : Bool} {ao : Option Addr} {n c : Nat} {z : Int} (h : IsZ w neg ao n c z) : (n = 0 ↔ z.natAbs = 0) ∧ z.natAbs < 10000 ^ n := by
  obtain ⟨l, p1, p2, p3, p4, p5, p6, p7, p8, p9⟩ := h.abs
  refine ⟨⟨fun h0 => ?_, fun h0 => ?_⟩, ?_⟩
  · have e : l = [] := List.eq_nil_of_length_eq_zero (by omega)
    rw [p7, e]; rfl
  · rw [p7] at h0
    have := (zval_zero p6).1 h0
    rw [← p1, this]; rfl
  · rw [p7, ← p1]; exact zval_lt p5

end Go.Proofs.YtnemjllghpijgaaDoor
namespace Go.Proofs.YtnemjllghpijgaaDoor
open Go.RowKit

theorem IsZ.len_of {w : World} {neg : Bool} {ao : Option Addr} {n c m : Nat} {z : Int} (h : IsZ w neg ao n c z) (hz : z.natAbs < 10000 ^ m) : n ≤ m := by
  obtain ⟨l, p1, p2, p3, p4, p5, p6, p7, p8, p9⟩ := h.abs
  by_cases hl : l = []
  · rw [← p1, hl]; exact Nat.zero_le _
  · have h1 := zval_ge p6 hl
    rw [← p7, p1] at h1
    have h2 : 10000 ^ (n - 1) < 10000 ^ m := by omega
    have h3 := (Nat.pow_lt_pow_iff_right (a := 10000) (by decide)).1 h2
    omega

/-- A fault that stays none. -/
theorem keepFault_block {W : World} {g : Nat} {T : TypeId} (hF : W.heap[g]? = some (.cells #[.int .i64 0, .int .i64 0] T (0, 0))) : ∀ k : Nat, ((W.setCell ⟨g, 0, none⟩ (.int .i64 0)).setCell ⟨g, 1, none⟩ (.int .i64 0)).heap[k]? = W.heap[k]? := by
  intro k
  by_cases hk : k = g
  · subst hk
    have h1 := heap_setCell_same W k 0 _ _ (.int .i64 0) hF
    have h2 := heap_setCell_same (W.setCell ⟨k, 0, none⟩ (.int .i64 0)) k 1 _ _ (.int .i64 0) h1
    rw [hF]
    exact h2
  · have hO : Only g W ((W.setCell ⟨g, 0, none⟩ (.int .i64 0)).setCell ⟨g, 1, none⟩ (.int .i64 0)) := ((Only.refl _ _).setCell _ _).setCell _ _
    exact hO.block k hk
theorem ISeg.keepFault {W : World} {g : Nat} {T : TypeId} {ao : Option Addr} {l : List Nat} (h : ISeg W ao l) (hF : W.heap[g]? = some (.cells #[.int .i64 0, .int .i64 0] T (0, 0))) : ISeg ((W.setCell ⟨g, 0, none⟩ (.int .i64 0)).setCell ⟨g, 1, none⟩ (.int .i64 0)) ao l := by
  have hb := keepFault_block hF
  rcases h with h | ⟨b, o, rfl, hlt, hc⟩
  · exact Or.inl h
  · exact Or.inr ⟨b, o, rfl, hlt.block (hb b), fun t ht => (World.cell?_of_block (a := ⟨b, o + t, none⟩) (hb b)).trans (hc t ht)⟩
theorem IsZ.keepFault {W : World} {g : Nat} {T : TypeId} {neg : Bool} {ao : Option Addr} {n c : Nat} {z : Int} (h : IsZ W neg ao n c z) (hF : W.heap[g]? = some (.cells #[.int .i64 0, .int .i64 0] T (0, 0))) : IsZ ((W.setCell ⟨g, 0, none⟩ (.int .i64 0)).setCell ⟨g, 1, none⟩ (.int .i64 0)) neg ao n c z := by
  obtain ⟨l, h1, h2, h3, h4, h5⟩ := h
  exact ⟨l, h1, h2, h3, h4.keepFault hF, h5⟩

/-- Ints that are written elsewhere. -/
theorem ISeg.far {W W' : World} {g : Nat} {ao : Option Addr} {l : List Nat} (h : ISeg W ao l) (hO : Only g W W') (hb : ∀ a, ao = some a → a.block ≠ g) : ISeg W' ao l := by
  rcases h with h | ⟨b, o, rfl, hb', hc⟩
  · exact Or.inl h
  · exact Or.inr ⟨b, o, rfl, hb'.block (hO.block b (hb _ rfl)), fun t ht => (World.cell?_of_block (a := ⟨b, o + t, none⟩) (hO.block b (hb _ rfl))).trans (hc t ht)⟩
theorem IsZ.far {W W' : World} {g : Nat} {neg : Bool} {ao : Option Addr} {n c : Nat} {z : Int} (h : IsZ W neg ao n c z) (hO : Only g W W') (hb : ∀ a, ao = some a → a.block ≠ g) : IsZ W' neg ao n c z := by
  obtain ⟨l, h1, h2, h3, h4, h5⟩ := h
  exact ⟨l, h1, h2, h3, h4.far hO hb, h5⟩

/-- Digits lie in no block of another kind: whatever is written there, they stay. -/
theorem IsZ.box {W W' : World} {g : Nat} {neg : Bool} {ao : Option Addr} {n c : Nat} {z : Int} {cs : Array Value} {T : TypeId} {fr : Nat × Nat} (h : IsZ W neg ao n c z) (hg : W.heap[g]? = some (.cells cs T fr)) (hT : T ≠ 3) (hO : Only g W W') : IsZ W' neg ao n c z := by
  have h' := h
  obtain ⟨l, _, _, _, h4, _⟩ := h'
  refine h.far hO (fun a ha hb => ?_)
  rcases h4 with ⟨h5, _⟩ | ⟨b, o, h5, ⟨cur, fr', hc⟩, _⟩
  · rw [h5] at ha; cases ha
  · rw [h5] at ha
    cases ha
    have hb' : b = g := hb
    rw [hb', hg] at hc
    cases hc
    exact hT rfl

/-- 'append([]int{x}, d...)': a row of its own. -/
theorem append_ints (w : World) (x m c : Nat) (ao : Option Addr) (lr : List Nat) (hm : lr.length = m) (hs : ISeg w ao lr) (hb : m ≤ 1000000) (W : World) (hW : W = (w.alloc (.cells #[.int .i64 (x : Int)] 3)).drew) (hsW : ISeg W ao lr) (ty : TypeId) :
    ∃ g cap w', (Builtin.append_ #[29, 29] ty #[.slice (some ⟨w.heap.size, 0, none⟩) 1 1, .slice ao m c]).run Tryd.prog W = .ok (.slice (some ⟨g, 0, none⟩) (1 + m) cap) w' ∧ ISeg w' (some ⟨g, 0, none⟩) ([x] ++ lr) ∧ 1 + m ≤ cap ∧ cap ≤ maxLen ∧ w.heap.size ≤ g ∧ Ext w w' := by
  obtain ⟨i0, hi, hz0, hz1, hz2⟩ := info_parts int_info
  have hE : Ext w W := by rw [hW]; exact Below.drew (ext_alloc _ _)
  have hrow : W.heap[w.heap.size]? = some (.cells #[.int .i64 (x : Int)] 3 (0, 0)) := by
    rw [hW]; exact heap_alloc_new w _
  have hown : W.ownsRow w.heap.size 3 1 (.slice (some ⟨w.heap.size, 0, none⟩) 1 1) 1 (inC [x]) :=
    ⟨rfl, Or.inr ⟨w.heap.size, 1, #[.int .i64 (x : Int)], rfl, Nat.le_refl _, hrow, Nat.le_refl _, by unfold maxLen; omega, rfl, rfl⟩⟩
  by_cases h0 : m = 0
  · subst h0
    have hl : lr = [] := List.eq_nil_of_length_eq_zero hm
    subst hl
    refine ⟨w.heap.size, 1, W, ?_, ?_, Nat.le_refl _, by unfold maxLen; omega, Nat.le_refl _, hE⟩
    · have hsz : (Tryd.prog.info? 3).map (·.size) = some 1 := by rw [hi]; simp [hz1]
      cases ao <;> simp [Builtin.append_, Builtin.firstCells, storeCells, go_sem]
    · have := iseg_of_own hown
      obtain ⟨a, c', h1, _, _, _, h5⟩ := this
      cases h1
      exact h5
  · obtain ⟨b, o, rfl⟩ := hs.some_of (by omega)
    obtain ⟨g, cap, w', h1, h2, h3, h4, h5⟩ := run_append_lies (P := Tryd.prog) W 29 ty w.heap.size 3 i0 (.int .i64 0) 1 8 Tryd.underlying29 hi hz0 hz1 hz2 rfl (by decide) _ 1 (inC [x]) hown ⟨b, o, none⟩ m c (inC lr) (by simp [inC, hm]) (fun j u hu => by
      have hj : j < lr.length := by
        have := (List.getElem?_eq_some_iff.1 hu).1
        simpa [inC] using this
      rw [Addr.add_lit, hsW.at j hj]
      rw [← hu, inC, List.getElem?_map, List.getElem?_eq_getElem hj, List.getD_eq_getElem?_getD, List.getElem?_eq_getElem hj]
      rfl) (fun u hu => by
      obtain ⟨y, _, rfl⟩ := List.mem_map.1 hu
      rfl) (by omega) (by unfold maxLen; omega) (by omega) hE.size W.heap.size rfl
    have h6 : inC [x] ++ inC lr = inC ([x] ++ lr) := by simp [inC]
    rw [h6] at h2
    obtain ⟨a, c', e1, e2, e3, _, e5⟩ := iseg_of_own h2
    cases e1
    refine ⟨g, cap, w', h1, e5, e2, e3, ?_, ext_grown hE h3 (fun k hk => ?_)⟩
    · have := h2.2
      rcases this with ⟨h, _⟩ | ⟨g', cap', cur, hv, hle, _⟩
      · cases h
      · cases hv; exact hle
    · cases hk; exact Nat.le_refl _

/-- At a step of a region that draws its order. -/
theorem step_append_run {ops : Array Oper} {o : Oper} {a : Act} {K : Act → World → Prop} {Q : Exit → Act → World → Prop} {E : Prop} {w w' : World} (hgd : o.guard = none) (s x : Operand)
    (ho : o.op = .call { callee := .builtin .append, args := #[s, x], argTypes := #[29, 29] }) (ht : o.type = 29) (v1 v2 r : Value) (hs : a.eval s = v1) (hx : a.eval x = v2)
    (hap : (Builtin.append_ #[29, 29] 29 #[v1, v2]).run Tryd.prog w = .ok r w') (h : K (a.put o.dst r) w') :
    if Region.wanted o (yielded ops a.tmps) = true then Oper.wp Tryd.prog o a w K Q else E := by
  have hw : Region.wanted o (yielded ops a.tmps) = true := by simp [Region.wanted, hgd]
  rw [if_pos hw]
  unfold Oper.wp execOp
  simp only [ho, ht, resolve, invoke, builtin, Sem.run_bind, Sem.run_pure, Result.andThen_ok, List.map_toArray, List.map_cons, List.map_nil, hs, hx, hap]
  exact h

/-- The search for a digit: low does, high does not. -/
theorem zdiv_digit {x R B V Qt : Nat} {lo : Nat} (h1 : lo * B ≤ x + 10000 * R) (hV : Qt * B + R = V) : (lo + 10000 * Qt) * B + (x + 10000 * R - lo * B) = x + 10000 * V := by
  rw [← hV, Nat.add_mul, Nat.mul_add, ← Nat.mul_assoc]
  omega

theorem zdiv_top {x R B : Nat} (hx : x < 10000) (hR : R < B) : x + 10000 * R < 10000 * B := by omega

end Go.Proofs.YtnemjllghpijgaaDoor
