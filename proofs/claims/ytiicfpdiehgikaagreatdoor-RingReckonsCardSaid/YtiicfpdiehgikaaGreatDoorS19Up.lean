/-
  The reference's writing: ZText. The reference: the text of a number. The reference: are two numbers the same. The reference's Make in one; what both sides keep of one number is the same.
-/
import Derived.Test.YtiicfpdiehgikaaGreatDoorProg
import Derived.Test.YtiicfpdiehgikaaGreatDoorRows
import Derived.BigQuiet
import Derived.Deep.AppendLies
import Derived.Deep.Cut
import Derived.Deep.CutRange
import Derived.Deep.LoopGhost
import Derived.Deep.MidRow
import Derived.Deep.QuietTactic
import Derived.Deep.RegionHeld3
import Derived.Laws.Bits64b
import Derived.Laws.CopyOwn
import Derived.Laws.ResultCell
import Derived.Laws.Rows
import Derived.Lib.AppendIntMem
import Derived.Lib.AppendStr
import Derived.Lib.BitFns
import Derived.Lib.Hide
import Derived.Lib.ItoaMem
import Derived.Lib.ItoaNum
import Derived.Lib.Strings
import Derived.Lib.TrailingZeros
import Derived.OwnWalk
import Derived.Shelf.Bits.Mul64
import Derived.Shelf.LaysM
import Derived.Shelf.Small.Bits
import Derived.Shelf.Small.Wraps
import Derived.Shelf.Spec.BitsCarry
import Derived.Shelf.Spec.TrailingZeros
import Derived.Shelf.Strconv.Itoa0
import Derived.Shelf.Strconv.Itoa1
import Derived.Shelf.Strconv.Itoa2
import Derived.Shelf.Strconv.Itoa3
import Derived.Shelf.Strings.Builder1
import Derived.Shelf.Strings.BuilderF
import Derived.Shelf.Strings.BuilderK
import Derived.WalkKit
import Derived.WalkLawsBesides
import Derived.WalkSpells
import Derived.Test.YtiicfpdiehgikaaGreatDoorS00Mem
import Derived.Test.YtiicfpdiehgikaaGreatDoorShelf
import Derived.Test.YtiicfpdiehgikaaGreatDoorS02ShiftI
import Derived.Test.YtiicfpdiehgikaaGreatDoorS03GuessD
import Derived.Test.YtiicfpdiehgikaaGreatDoorS04IntB
import Derived.Test.YtiicfpdiehgikaaGreatDoorS05IntD
import Derived.Test.YtiicfpdiehgikaaGreatDoorS06GcB
import Derived.Test.YtiicfpdiehgikaaGreatDoorS07Rd
import Derived.Test.YtiicfpdiehgikaaGreatDoorS08Rl
import Derived.Test.YtiicfpdiehgikaaGreatDoorS09Ca
import Derived.Test.YtiicfpdiehgikaaGreatDoorS10Td
import Derived.Test.YtiicfpdiehgikaaGreatDoorS11TxT
import Derived.Test.YtiicfpdiehgikaaGreatDoorS12Tq
import Derived.Test.YtiicfpdiehgikaaGreatDoorS13ZL
import Derived.Test.YtiicfpdiehgikaaGreatDoorS14Ue
import Derived.Test.YtiicfpdiehgikaaGreatDoorS15Uf
import Derived.Test.YtiicfpdiehgikaaGreatDoorS16Uh
import Derived.Test.YtiicfpdiehgikaaGreatDoorS17Un
import Derived.Test.YtiicfpdiehgikaaGreatDoorS18Ul
namespace Go.Proofs.YtiicfpdiehgikaaGreatDoor
open Go.RowKit

theorem str_append (a b : List UInt8) : (⟨a.toArray⟩ : ByteArray) ++ (⟨b.toArray⟩ : ByteArray) = ⟨(a ++ b).toArray⟩ := by
  apply ByteArray.ext
  simp [ByteArray.data_append]

theorem ISeg.blt {w : World} {b o : Nat} {l : List Nat} (h : ISeg w (some ⟨b, o, none⟩) l) : b < w.heap.size := by
  rcases h with ⟨h, _⟩ | ⟨b', o', h, hb, _⟩
  · cases h
  · simp only [Option.some.injEq, Addr.mk.injEq, and_true] at h
    obtain ⟨rfl, rfl⟩ := h
    exact hb.lt

theorem ztx_len {l : List Nat} (hd : ZD l) (k : Nat) : (ztx l k).length ≤ 4 * l.length + 1 := by
  unfold ztx
  split
  · simp
  · rw [Lib.decDigits_length]
    have h1 : zval (l.drop k) < 10000 ^ (l.drop k).length := zval_lt (fun x hx => hd x (List.mem_of_mem_drop hx))
    rw [List.length_drop] at h1
    have h2 : (10000 : Nat) ^ (l.length - k) ≤ 10 ^ (4 * l.length + 1) := by
      rw [show (10000 : Nat) = 10 ^ 4 by decide, ← Nat.pow_mul]
      exact Nat.pow_le_pow_right (by decide) (by omega)
    exact nDigits_le _ _ (by omega) (by omega)

theorem conv_tail (W : World) (G f m : Nat) (l : List UInt8) (hl : l.length = m) (h : ∀ j, (hj : j < l.length) → W.cell? ⟨G, f + j, none⟩ = some (.int .u8 (l[j].toNat : Int))) : (convert 83 9 (.slice (some ⟨G, f, none⟩) m m)).run Tryz.prog W = .ok (.string ⟨l.toArray⟩) W := by
  subst hl
  refine run_convert_bytes_back (P := Tryz.prog) W 83 9 5 ⟨G, f, none⟩ l.length l Tryz.underlying83 Tryz.underlying5 Tryz.underlying9 (fun j hj => ?_)
  rw [Lib.add_plain]
  exact h j hj

/-- Four bytes in memory, and what is converted of them. -/
theorem four_conv {W : World} {G B3 B2 B1 B0 : Nat} (k3 : W.cell? ⟨G, 0, none⟩ = some (.int .u8 B3)) (k2 : W.cell? ⟨G, 1, none⟩ = some (.int .u8 B2)) (k1 : W.cell? ⟨G, 2, none⟩ = some (.int .u8 B1)) (k0 : W.cell? ⟨G, 3, none⟩ = some (.int .u8 B0)) (hB : B3 < 256 ∧ B2 < 256 ∧ B1 < 256 ∧ B0 < 256) :
    (∀ t, t < 4 → W.cell? ⟨G, t, none⟩ = some (.int .u8 (([UInt8.ofNat B3, UInt8.ofNat B2, UInt8.ofNat B1, UInt8.ofNat B0].getD t 0).toNat : Int))) ∧
    ∀ f, f ≤ 3 → (convert 83 9 (.slice (some ⟨G, f, none⟩) (4 - f) (4 - f))).run Tryz.prog W = .ok (.string ⟨([UInt8.ofNat B3, UInt8.ofNat B2, UInt8.ofNat B1, UInt8.ofNat B0].drop f).toArray⟩) W := by
  have e : ∀ B : Nat, B < 256 → ((UInt8.ofNat B).toNat : Int) = (B : Int) := by
    intro B h
    have : (UInt8.ofNat B).toNat = B := by rw [UInt8.toNat_ofNat']; omega
    rw [this]
  have hc : ∀ t, t < 4 → W.cell? ⟨G, t, none⟩ = some (.int .u8 (([UInt8.ofNat B3, UInt8.ofNat B2, UInt8.ofNat B1, UInt8.ofNat B0].getD t 0).toNat : Int)) := by
    intro t ht
    match t, ht with
    | 0, _ => rw [k3]; show _ = some (Value.int .u8 ((UInt8.ofNat B3).toNat : Int)); rw [e _ hB.1]
    | 1, _ => rw [k2]; show _ = some (Value.int .u8 ((UInt8.ofNat B2).toNat : Int)); rw [e _ hB.2.1]
    | 2, _ => rw [k1]; show _ = some (Value.int .u8 ((UInt8.ofNat B1).toNat : Int)); rw [e _ hB.2.2.1]
    | 3, _ => rw [k0]; show _ = some (Value.int .u8 ((UInt8.ofNat B0).toNat : Int)); rw [e _ hB.2.2.2]
    | k + 4, h => omega
  refine ⟨hc, fun f hf => ?_⟩
  refine conv_tail W G f (4 - f) _ (by rw [List.length_drop]; rfl) (fun j hj => ?_)
  rw [List.length_drop] at hj
  have h4 : [UInt8.ofNat B3, UInt8.ofNat B2, UInt8.ofNat B1, UInt8.ofNat B0].length = 4 := rfl
  rw [hc (f + j) (by omega)]
  rw [List.getElem_drop, List.getD_eq_getElem?_getD, List.getElem?_eq_getElem (by omega)]
  rfl

theorem four_cells (w : World) (u0 u1 u2 u3 : Value) (e : TypeId) : (w.alloc (.cells #[u0, u1, u2, u3] e)).cell? ⟨w.heap.size, 0, none⟩ = some u0 ∧ (w.alloc (.cells #[u0, u1, u2, u3] e)).cell? ⟨w.heap.size, 1, none⟩ = some u1 ∧ (w.alloc (.cells #[u0, u1, u2, u3] e)).cell? ⟨w.heap.size, 2, none⟩ = some u2 ∧ (w.alloc (.cells #[u0, u1, u2, u3] e)).cell? ⟨w.heap.size, 3, none⟩ = some u3 := by
  refine ⟨?_, ?_, ?_, ?_⟩ <;> (rw [World.cell?_alloc_new]; rfl)

set_option maxHeartbeats 2000000 in
set_option maxRecDepth 100000 in
theorem ZText_any (neg : Bool) (ao : Option Addr) (n c : Nat) (z : Int) (w : World) (h : IsZ w neg ao n c z) (hn : n ≤ 1000000) :
    Calls Tryz.prog 63 #[.agg #[.bool neg, .slice ao n c]] w fun e w' => e = .returned (.string ⟨(Lib.itoa z).toArray⟩) ∧ Ext w w' := by
  obtain ⟨l, h1, h2, h3, h4, h5, h6, h7, h8⟩ := h
  have hE := ext_alloc w (.cells #[.bool neg, .slice ao n c] 35)
  have bA := zbx_new w neg ao n c
  have x0 := bA.c0; have x1 := bA.c1
  by_cases h0 : n = 0
  · have hl : l = [] := List.eq_nil_of_length_eq_zero (by omega)
    have hz : z = 0 := by rw [h7, hl]; simp [zval]
    have Ht : Hid (Lib.itoa z = [48]) := by show _ = _; rw [hz]; unfold Lib.itoa; rw [if_neg (by omega), Lib.decDigits]; simp
    subst h0
    clear h7 h1 h2 h3 h4 h5 h6 h8 hl hz x0
    go_enter Tryz.func63, Tryz.ntmps63
    go_wp2_with fail
    go_ret
    exact ⟨by rw [Ht.out]; rfl, hE⟩
  · have hl : l ≠ [] := by intro e; subst e; simp at h1; omega
    have hb : ((n : Int) == 0) = false := by rw [beq_eq_false_iff_ne]; omega
    obtain ⟨b, o, rfl⟩ := h4.some_of (by omega)
    have Hz : Hid (Lib.itoa z = (if neg then [45] else []) ++ ztx l 0) := by
      show _ = _
      rw [ztx_all hl, h7]
      have hv : 0 < zval l := by
        apply Nat.pos_of_ne_zero
        intro e; exact hl ((zval_zero h6).1 e)
      unfold Lib.itoa
      cases neg
      · rw [if_neg (by simp)]; simp
      · rw [if_pos (by simp; omega)]; simp
    obtain ⟨sg, hsg⟩ : ∃ sg : List UInt8, (if neg then [45] else []) = sg := ⟨_, rfl⟩
    rw [hsg] at Hz
    have H1 := Lib.hid h1; have H4 := Lib.hid h4; have H5 := Lib.hid h5; have H6 := Lib.hid h6; have Hl := Lib.hid hl
    clear h1 h4 h5 h6 h7 h8 h2 h3 hl
    cases neg
    · have Hsg := Lib.hid hsg
      clear hsg
      go_enter Tryz.func63, Tryz.ntmps63
      go_wp2_with fail
      generalize w.alloc (.cells #[.bool false, .slice (some ⟨b, o, none⟩) n c] 35) = W0 at *
      go_loopw [3, 4] (fun tv iv wr => ∃ k : Nat, k ≤ n ∧ iv = .int .i64 ((k : Int) - 1) ∧ tv = .string ⟨(sg ++ ztx l k).toArray⟩ ∧ Ext W0 wr) (fun _ iv _ => (intOf iv + 1).toNat)
      case atStart => exact ⟨n, Nat.le_refl _, by go_num, by have := ztx_end l; rw [H1.out] at this; rw [this, ← Hsg.out]; rfl, Ext.refl _⟩
      case round =>
        obtain ⟨k, hk, rfl, rfl, hEr⟩ := hrel
        have HEr := Lib.hid hEr
        have d1 := zKeep hEr bA.lt x1
        clear hEr
        obtain ⟨tl, htl⟩ : ∃ tl, sg ++ ztx l k = tl := ⟨_, rfl⟩
        rw [htl]
        have htl8 : tl.length ≤ 4000010 := by
          have h1 := ztx_len H5.out k
          have h2 : sg.length ≤ 1 := by rw [← Hsg.out]; decide
          rw [H1.out] at h1
          rw [← htl, List.length_append]; omega
        have Htl := Lib.hid htl
        clear htl
        by_cases hk0 : k = 0
        · subst hk0
          go_wp2_with fail
          go_ret
          exact ⟨by rw [Hz.out, Htl.out]; rfl, hE.trans HEr.out⟩
        · obtain ⟨j, rfl⟩ : ∃ j, k = j + 1 := ⟨k - 1, by omega⟩
          have ec : (((j + 1 : Nat) : Int) - 1) = (j : Int) := by omega
          have ij : (j : Int) < (n : Int) := by omega
          rw [ec]
          have hcl := (H4.out.ext (hE.trans HEr.out)).at j (by rw [H1.out]; omega)
          obtain ⟨x, hx⟩ : ∃ x, l.getD j 0 = x := ⟨_, rfl⟩
          have hx4 : x < 10000 := by rw [← hx]; exact H5.out.get j
          rw [hx] at hcl
          have Hx := Lib.hid hx
          obtain ⟨q3, g3⟩ : ∃ q, x / 1000 = q := ⟨_, rfl⟩
          obtain ⟨q2, g2⟩ : ∃ q, x / 100 = q := ⟨_, rfl⟩
          obtain ⟨r2, e2⟩ : ∃ q, q2 % 10 = q := ⟨_, rfl⟩
          obtain ⟨q1, g1⟩ : ∃ q, x / 10 = q := ⟨_, rfl⟩
          obtain ⟨r1, e1⟩ : ∃ q, q1 % 10 = q := ⟨_, rfl⟩
          obtain ⟨r0, e0⟩ : ∃ q, x % 10 = q := ⟨_, rfl⟩
          have t3 : (x : Int).tdiv 1000 = (q3 : Int) := by rw [Int.tdiv_eq_ediv_of_nonneg (by omega)]; omega
          have t2 : (x : Int).tdiv 100 = (q2 : Int) := by rw [Int.tdiv_eq_ediv_of_nonneg (by omega)]; omega
          have t1 : (x : Int).tdiv 10 = (q1 : Int) := by rw [Int.tdiv_eq_ediv_of_nonneg (by omega)]; omega
          have m2 : (q2 : Int).tmod 10 = (r2 : Int) := by rw [Int.tmod_eq_emod_of_nonneg (by omega)]; omega
          have m1 : (q1 : Int).tmod 10 = (r1 : Int) := by rw [Int.tmod_eq_emod_of_nonneg (by omega)]; omega
          have m0 : (x : Int).tmod 10 = (r0 : Int) := by rw [Int.tmod_eq_emod_of_nonneg (by omega)]; omega
          have b3 : q3 ≤ 9 := by omega
          have b2 : r2 ≤ 9 := by omega
          have b1 : r1 ≤ 9 := by omega
          have b0 : r0 ≤ 9 := by omega
          obtain ⟨B3, hB3⟩ : ∃ B, 48 + q3 = B := ⟨_, rfl⟩
          obtain ⟨B2, hB2⟩ : ∃ B, 48 + r2 = B := ⟨_, rfl⟩
          obtain ⟨B1, hB1⟩ : ∃ B, 48 + r1 = B := ⟨_, rfl⟩
          obtain ⟨B0, hB0⟩ : ∃ B, 48 + r0 = B := ⟨_, rfl⟩
          have v3 : IntKind.i64.wrap (q3 : Int) = (q3 : Int) := by rw [IntKind.wrap_i64]; omega
          have v2 : IntKind.i64.wrap (q2 : Int) = (q2 : Int) := by rw [IntKind.wrap_i64]; omega
          have v1 : IntKind.i64.wrap (q1 : Int) = (q1 : Int) := by rw [IntKind.wrap_i64]; omega
          have s3 : IntKind.i64.wrap (48 + (q3 : Int)) = (B3 : Int) := by rw [IntKind.wrap_i64]; omega
          have s2 : IntKind.i64.wrap (48 + (r2 : Int)) = (B2 : Int) := by rw [IntKind.wrap_i64]; omega
          have s1 : IntKind.i64.wrap (48 + (r1 : Int)) = (B1 : Int) := by rw [IntKind.wrap_i64]; omega
          have s0 : IntKind.i64.wrap (48 + (r0 : Int)) = (B0 : Int) := by rw [IntKind.wrap_i64]; omega
          have y3 : IntKind.u8.wrap (B3 : Int) = (B3 : Int) := by rw [IntKind.wrap_u8]; omega
          have y2 : IntKind.u8.wrap (B2 : Int) = (B2 : Int) := by rw [IntKind.wrap_u8]; omega
          have y1 : IntKind.u8.wrap (B1 : Int) = (B1 : Int) := by rw [IntKind.wrap_u8]; omega
          have y0 : IntKind.u8.wrap (B0 : Int) = (B0 : Int) := by rw [IntKind.wrap_u8]; omega
          have Hpad : Hid (padD 4 x = [UInt8.ofNat B3, UInt8.ofNat B2, UInt8.ofNat B1, UInt8.ofNat B0]) := by
            show _ = _
            rw [padD_four x hx4, g3, g2, e2, g1, e1, e0, hB3, hB2, hB1, hB0]
          have z3 : B3 < 256 := by omega
          have z2 : B2 < 256 := by omega
          have z1 : B1 < 256 := by omega
          have z0 : B0 < 256 := by omega
          have HB := Lib.hid (And.intro z3 (And.intro z2 (And.intro z1 z0)))
          clear hx g3 g2 e2 g1 e1 e0 hk0 hB3 hB2 hB1 hB0 z3 z2 z1 z0
          have hrd : Ext wr wr.drew := Below.drew (Ext.refl _)
          have lB := Nat.lt_of_lt_of_le bA.lt HEr.out.size
          have lb := (H4.out.ext (hE.trans HEr.out)).blt
          go_wp2_with fail
          go_region_held3 (fun w' => w'.cell? ⟨w.heap.size, 1, none⟩ = some (.slice (some ⟨b, o, none⟩) n c) ∧ w'.cell? ⟨b, o + j, none⟩ = some (.int .i64 (x : Nat)))
            (first | exact ⟨zKeep (W := wr) (by assumption) lB d1, zKeep (W := wr) (by assumption) lb hcl⟩ | exact ⟨zKeep (W := wr) (hrd.trans (ext_alloc _ _)) lB d1, zKeep (W := wr) (hrd.trans (ext_alloc _ _)) lb hcl⟩)
            (first | fail)
          have hx2 : Ext wr (wr.alloc (.cells #[.int .u8 B3, .int .u8 B2, .int .u8 B1, .int .u8 B0] 5)).drew := Below.drew (ext_alloc wr _)
          have d5 := zKeep hx2 lB d1
          have HE2 := Lib.hid (HEr.out.trans hx2)
          obtain ⟨k3, k2, k1, k0⟩ := four_cells wr (.int .u8 B3) (.int .u8 B2) (.int .u8 B1) (.int .u8 B0) 5
          have hdd : Ext (wr.alloc (.cells #[.int .u8 B3, .int .u8 B2, .int .u8 B1, .int .u8 B0] 5)) (wr.alloc (.cells #[.int .u8 B3, .int .u8 B2, .int .u8 B1, .int .u8 B0] 5)).drew := Below.drew (Ext.refl _)
          have lG : wr.heap.size < (wr.alloc (.cells #[.int .u8 B3, .int .u8 B2, .int .u8 B1, .int .u8 B0] 5)).heap.size := by simp
          have k3 := zKeep hdd lG k3
          have k2 := zKeep hdd lG k2
          have k1 := zKeep hdd lG k1
          have k0 := zKeep hdd lG k0
          clear d1 hcl hrd lB lb hdd lG hx2 t3 t2 t1 m2 m1 m0 b3 b2 b1 b0 v3 v2 v1 s3 s2 s1 s0 y3 y2 y1 y0
          go_wp2_with fail
          generalize (wr.alloc (.cells #[.int .u8 B3, .int .u8 B2, .int .u8 B1, .int .u8 B0] 5)).drew = W2 at *
          generalize wr.heap.size = G at *
          obtain ⟨hcell, hconv⟩ := four_conv k3 k2 k1 k0 HB.out
          have Hcell := Lib.hid hcell; have Hconv := Lib.hid hconv
          clear hcell hconv k3 k2 k1 k0 HB
          obtain ⟨bl, hbl⟩ : ∃ bl, [UInt8.ofNat B3, UInt8.ofNat B2, UInt8.ofNat B1, UInt8.ofNat B0] = bl := ⟨_, rfl⟩
          have hbl4 : bl.length ≤ 4 := by rw [← hbl]; exact Nat.le_refl _
          rw [hbl] at Hcell Hconv Hpad
          clear hbl
          by_cases hfirst : j + 1 = n
          · have hx0 : 0 < x := by
              have h6 := H6.out.resolve_left Hl.out
              rw [H1.out, ← hfirst, Nat.add_sub_cancel, Hx.out] at h6
              omega
            obtain ⟨f, hf3, hall, hne, hdec⟩ := dec_first x hx4 hx0
            rw [Hpad.out] at hall hne hdec
            have Hall := Lib.hid hall; have Hne := Lib.hid hne
            have Hfin : Hid (tl ++ bl.drop f = sg ++ ztx l j) := by
              show _ = _
              rw [ztx_first (by rw [H1.out]; exact hfirst.symm) Hx.out, hdec, ← Htl.out, hfirst]
              have := ztx_end l
              rw [H1.out] at this
              rw [this, List.append_nil]
            have ej : ((j : Int) == (n : Int) - 1) = true := by rw [beq_iff_eq]; omega
            clear hall hne hdec hfirst hx0 Htl
            go_loop [6] (fun v => ∃ k : Nat, k ≤ f ∧ v = .int .i64 k) (fun v => f - (intOf v).toNat)
            case atStart => exact ⟨0, Nat.zero_le _, rfl⟩
            case round =>
              obtain ⟨k, hk, rfl⟩ := hrel
              by_cases hkf : k < f
              · have hc : W2.cell? ⟨G, k, none⟩ = some (.int .u8 48) := by
                  rw [Hcell.out k (by omega), Hall.out k hkf]; rfl
                have ik : (k : Int) < 3 := by omega
                go_wp2_with fail
                go_round
                case rel => exact ⟨k + 1, by omega, by go_num⟩
                case measure => simp [intOf]; omega
              · obtain rfl : k = f := by omega
                have hcv := Hconv.out k hf3
                by_cases hk3 : k = 3
                · subst hk3
                  go_wp2_with fail
                  go_roundw
                  case rel => exact ⟨j, by omega, by go_num, by rw [str_append, Hfin.out], HE2.out⟩
                  case measure => simp [intOf]
                · have ik : (k : Int) < 3 := by omega
                  obtain ⟨q, hq, hc⟩ : ∃ q : Nat, ((q : Int) == 48) = false ∧ W2.cell? ⟨G, k, none⟩ = some (.int .u8 (q : Nat)) := by
                    refine ⟨(bl.getD k 0).toNat, ?_, Hcell.out k (by omega)⟩
                    rw [beq_eq_false_iff_ne]
                    intro hc
                    exact Hne.out (UInt8.toNat_inj.1 (by have : (48 : UInt8).toNat = 48 := rfl; rw [this]; omega))
                  go_wp2_with fail
                  go_roundw
                  case rel => exact ⟨j, by omega, by go_num, by rw [str_append, Hfin.out], HE2.out⟩
                  case measure => simp [intOf]
          · have ej : ((j : Int) == (n : Int) - 1) = false := by rw [beq_eq_false_iff_ne]; omega
            have Hfin : Hid (tl ++ bl = sg ++ ztx l j) := by
              show _ = _
              rw [ztx_next H6.out (by rw [H1.out]; omega) Hx.out hx4, Hpad.out, ← Htl.out, List.append_assoc]
            have hcv := Hconv.out 0 (by omega)
            rw [List.drop_zero] at hcv
            clear hfirst Htl
            go_loop [6] (fun v => v = .int .i64 0) (fun v => 0)
            case atStart => rfl
            case round =>
              subst hrel
              go_wp2_with fail
              go_roundw
              case rel => exact ⟨j, by omega, by go_num, by rw [str_append, Hfin.out], HE2.out⟩
              case measure => simp [intOf]
    · have Hsg := Lib.hid hsg
      clear hsg
      go_enter Tryz.func63, Tryz.ntmps63
      go_wp2_with fail
      generalize w.alloc (.cells #[.bool true, .slice (some ⟨b, o, none⟩) n c] 35) = W0 at *
      go_loopw [3, 4] (fun tv iv wr => ∃ k : Nat, k ≤ n ∧ iv = .int .i64 ((k : Int) - 1) ∧ tv = .string ⟨(sg ++ ztx l k).toArray⟩ ∧ Ext W0 wr) (fun _ iv _ => (intOf iv + 1).toNat)
      case atStart => exact ⟨n, Nat.le_refl _, by go_num, by have := ztx_end l; rw [H1.out] at this; rw [this, ← Hsg.out]; rfl, Ext.refl _⟩
      case round =>
        obtain ⟨k, hk, rfl, rfl, hEr⟩ := hrel
        have HEr := Lib.hid hEr
        have d1 := zKeep hEr bA.lt x1
        clear hEr
        obtain ⟨tl, htl⟩ : ∃ tl, sg ++ ztx l k = tl := ⟨_, rfl⟩
        rw [htl]
        have htl8 : tl.length ≤ 4000010 := by
          have h1 := ztx_len H5.out k
          have h2 : sg.length ≤ 1 := by rw [← Hsg.out]; decide
          rw [H1.out] at h1
          rw [← htl, List.length_append]; omega
        have Htl := Lib.hid htl
        clear htl
        by_cases hk0 : k = 0
        · subst hk0
          go_wp2_with fail
          go_ret
          exact ⟨by rw [Hz.out, Htl.out]; rfl, hE.trans HEr.out⟩
        · obtain ⟨j, rfl⟩ : ∃ j, k = j + 1 := ⟨k - 1, by omega⟩
          have ec : (((j + 1 : Nat) : Int) - 1) = (j : Int) := by omega
          have ij : (j : Int) < (n : Int) := by omega
          rw [ec]
          have hcl := (H4.out.ext (hE.trans HEr.out)).at j (by rw [H1.out]; omega)
          obtain ⟨x, hx⟩ : ∃ x, l.getD j 0 = x := ⟨_, rfl⟩
          have hx4 : x < 10000 := by rw [← hx]; exact H5.out.get j
          rw [hx] at hcl
          have Hx := Lib.hid hx
          obtain ⟨q3, g3⟩ : ∃ q, x / 1000 = q := ⟨_, rfl⟩
          obtain ⟨q2, g2⟩ : ∃ q, x / 100 = q := ⟨_, rfl⟩
          obtain ⟨r2, e2⟩ : ∃ q, q2 % 10 = q := ⟨_, rfl⟩
          obtain ⟨q1, g1⟩ : ∃ q, x / 10 = q := ⟨_, rfl⟩
          obtain ⟨r1, e1⟩ : ∃ q, q1 % 10 = q := ⟨_, rfl⟩
          obtain ⟨r0, e0⟩ : ∃ q, x % 10 = q := ⟨_, rfl⟩
          have t3 : (x : Int).tdiv 1000 = (q3 : Int) := by rw [Int.tdiv_eq_ediv_of_nonneg (by omega)]; omega
          have t2 : (x : Int).tdiv 100 = (q2 : Int) := by rw [Int.tdiv_eq_ediv_of_nonneg (by omega)]; omega
          have t1 : (x : Int).tdiv 10 = (q1 : Int) := by rw [Int.tdiv_eq_ediv_of_nonneg (by omega)]; omega
          have m2 : (q2 : Int).tmod 10 = (r2 : Int) := by rw [Int.tmod_eq_emod_of_nonneg (by omega)]; omega
          have m1 : (q1 : Int).tmod 10 = (r1 : Int) := by rw [Int.tmod_eq_emod_of_nonneg (by omega)]; omega
          have m0 : (x : Int).tmod 10 = (r0 : Int) := by rw [Int.tmod_eq_emod_of_nonneg (by omega)]; omega
          have b3 : q3 ≤ 9 := by omega
          have b2 : r2 ≤ 9 := by omega
          have b1 : r1 ≤ 9 := by omega
          have b0 : r0 ≤ 9 := by omega
          obtain ⟨B3, hB3⟩ : ∃ B, 48 + q3 = B := ⟨_, rfl⟩
          obtain ⟨B2, hB2⟩ : ∃ B, 48 + r2 = B := ⟨_, rfl⟩
          obtain ⟨B1, hB1⟩ : ∃ B, 48 + r1 = B := ⟨_, rfl⟩
          obtain ⟨B0, hB0⟩ : ∃ B, 48 + r0 = B := ⟨_, rfl⟩
          have v3 : IntKind.i64.wrap (q3 : Int) = (q3 : Int) := by rw [IntKind.wrap_i64]; omega
          have v2 : IntKind.i64.wrap (q2 : Int) = (q2 : Int) := by rw [IntKind.wrap_i64]; omega
          have v1 : IntKind.i64.wrap (q1 : Int) = (q1 : Int) := by rw [IntKind.wrap_i64]; omega
          have s3 : IntKind.i64.wrap (48 + (q3 : Int)) = (B3 : Int) := by rw [IntKind.wrap_i64]; omega
          have s2 : IntKind.i64.wrap (48 + (r2 : Int)) = (B2 : Int) := by rw [IntKind.wrap_i64]; omega
          have s1 : IntKind.i64.wrap (48 + (r1 : Int)) = (B1 : Int) := by rw [IntKind.wrap_i64]; omega
          have s0 : IntKind.i64.wrap (48 + (r0 : Int)) = (B0 : Int) := by rw [IntKind.wrap_i64]; omega
          have y3 : IntKind.u8.wrap (B3 : Int) = (B3 : Int) := by rw [IntKind.wrap_u8]; omega
          have y2 : IntKind.u8.wrap (B2 : Int) = (B2 : Int) := by rw [IntKind.wrap_u8]; omega
          have y1 : IntKind.u8.wrap (B1 : Int) = (B1 : Int) := by rw [IntKind.wrap_u8]; omega
          have y0 : IntKind.u8.wrap (B0 : Int) = (B0 : Int) := by rw [IntKind.wrap_u8]; omega
          have Hpad : Hid (padD 4 x = [UInt8.ofNat B3, UInt8.ofNat B2, UInt8.ofNat B1, UInt8.ofNat B0]) := by
            show _ = _
            rw [padD_four x hx4, g3, g2, e2, g1, e1, e0, hB3, hB2, hB1, hB0]
          have z3 : B3 < 256 := by omega
          have z2 : B2 < 256 := by omega
          have z1 : B1 < 256 := by omega
          have z0 : B0 < 256 := by omega
          have HB := Lib.hid (And.intro z3 (And.intro z2 (And.intro z1 z0)))
          clear hx g3 g2 e2 g1 e1 e0 hk0 hB3 hB2 hB1 hB0 z3 z2 z1 z0
          have hrd : Ext wr wr.drew := Below.drew (Ext.refl _)
          have lB := Nat.lt_of_lt_of_le bA.lt HEr.out.size
          have lb := (H4.out.ext (hE.trans HEr.out)).blt
          go_wp2_with fail
          go_region_held3 (fun w' => w'.cell? ⟨w.heap.size, 1, none⟩ = some (.slice (some ⟨b, o, none⟩) n c) ∧ w'.cell? ⟨b, o + j, none⟩ = some (.int .i64 (x : Nat)))
            (first | exact ⟨zKeep (W := wr) (by assumption) lB d1, zKeep (W := wr) (by assumption) lb hcl⟩ | exact ⟨zKeep (W := wr) (hrd.trans (ext_alloc _ _)) lB d1, zKeep (W := wr) (hrd.trans (ext_alloc _ _)) lb hcl⟩)
            (first | fail)
          have hx2 : Ext wr (wr.alloc (.cells #[.int .u8 B3, .int .u8 B2, .int .u8 B1, .int .u8 B0] 5)).drew := Below.drew (ext_alloc wr _)
          have d5 := zKeep hx2 lB d1
          have HE2 := Lib.hid (HEr.out.trans hx2)
          obtain ⟨k3, k2, k1, k0⟩ := four_cells wr (.int .u8 B3) (.int .u8 B2) (.int .u8 B1) (.int .u8 B0) 5
          have hdd : Ext (wr.alloc (.cells #[.int .u8 B3, .int .u8 B2, .int .u8 B1, .int .u8 B0] 5)) (wr.alloc (.cells #[.int .u8 B3, .int .u8 B2, .int .u8 B1, .int .u8 B0] 5)).drew := Below.drew (Ext.refl _)
          have lG : wr.heap.size < (wr.alloc (.cells #[.int .u8 B3, .int .u8 B2, .int .u8 B1, .int .u8 B0] 5)).heap.size := by simp
          have k3 := zKeep hdd lG k3
          have k2 := zKeep hdd lG k2
          have k1 := zKeep hdd lG k1
          have k0 := zKeep hdd lG k0
          clear d1 hcl hrd lB lb hdd lG hx2 t3 t2 t1 m2 m1 m0 b3 b2 b1 b0 v3 v2 v1 s3 s2 s1 s0 y3 y2 y1 y0
          go_wp2_with fail
          generalize (wr.alloc (.cells #[.int .u8 B3, .int .u8 B2, .int .u8 B1, .int .u8 B0] 5)).drew = W2 at *
          generalize wr.heap.size = G at *
          obtain ⟨hcell, hconv⟩ := four_conv k3 k2 k1 k0 HB.out
          have Hcell := Lib.hid hcell; have Hconv := Lib.hid hconv
          clear hcell hconv k3 k2 k1 k0 HB
          obtain ⟨bl, hbl⟩ : ∃ bl, [UInt8.ofNat B3, UInt8.ofNat B2, UInt8.ofNat B1, UInt8.ofNat B0] = bl := ⟨_, rfl⟩
          have hbl4 : bl.length ≤ 4 := by rw [← hbl]; exact Nat.le_refl _
          rw [hbl] at Hcell Hconv Hpad
          clear hbl
          by_cases hfirst : j + 1 = n
          · have hx0 : 0 < x := by
              have h6 := H6.out.resolve_left Hl.out
              rw [H1.out, ← hfirst, Nat.add_sub_cancel, Hx.out] at h6
              omega
            obtain ⟨f, hf3, hall, hne, hdec⟩ := dec_first x hx4 hx0
            rw [Hpad.out] at hall hne hdec
            have Hall := Lib.hid hall; have Hne := Lib.hid hne
            have Hfin : Hid (tl ++ bl.drop f = sg ++ ztx l j) := by
              show _ = _
              rw [ztx_first (by rw [H1.out]; exact hfirst.symm) Hx.out, hdec, ← Htl.out, hfirst]
              have := ztx_end l
              rw [H1.out] at this
              rw [this, List.append_nil]
            have ej : ((j : Int) == (n : Int) - 1) = true := by rw [beq_iff_eq]; omega
            clear hall hne hdec hfirst hx0 Htl
            go_loop [6] (fun v => ∃ k : Nat, k ≤ f ∧ v = .int .i64 k) (fun v => f - (intOf v).toNat)
            case atStart => exact ⟨0, Nat.zero_le _, rfl⟩
            case round =>
              obtain ⟨k, hk, rfl⟩ := hrel
              by_cases hkf : k < f
              · have hc : W2.cell? ⟨G, k, none⟩ = some (.int .u8 48) := by
                  rw [Hcell.out k (by omega), Hall.out k hkf]; rfl
                have ik : (k : Int) < 3 := by omega
                go_wp2_with fail
                go_round
                case rel => exact ⟨k + 1, by omega, by go_num⟩
                case measure => simp [intOf]; omega
              · obtain rfl : k = f := by omega
                have hcv := Hconv.out k hf3
                by_cases hk3 : k = 3
                · subst hk3
                  go_wp2_with fail
                  go_roundw
                  case rel => exact ⟨j, by omega, by go_num, by rw [str_append, Hfin.out], HE2.out⟩
                  case measure => simp [intOf]
                · have ik : (k : Int) < 3 := by omega
                  obtain ⟨q, hq, hc⟩ : ∃ q : Nat, ((q : Int) == 48) = false ∧ W2.cell? ⟨G, k, none⟩ = some (.int .u8 (q : Nat)) := by
                    refine ⟨(bl.getD k 0).toNat, ?_, Hcell.out k (by omega)⟩
                    rw [beq_eq_false_iff_ne]
                    intro hc
                    exact Hne.out (UInt8.toNat_inj.1 (by have : (48 : UInt8).toNat = 48 := rfl; rw [this]; omega))
                  go_wp2_with fail
                  go_roundw
                  case rel => exact ⟨j, by omega, by go_num, by rw [str_append, Hfin.out], HE2.out⟩
                  case measure => simp [intOf]
          · have ej : ((j : Int) == (n : Int) - 1) = false := by rw [beq_eq_false_iff_ne]; omega
            have Hfin : Hid (tl ++ bl = sg ++ ztx l j) := by
              show _ = _
              rw [ztx_next H6.out (by rw [H1.out]; omega) Hx.out hx4, Hpad.out, ← Htl.out, List.append_assoc]
            have hcv := Hconv.out 0 (by omega)
            rw [List.drop_zero] at hcv
            clear hfirst Htl
            go_loop [6] (fun v => v = .int .i64 0) (fun v => 0)
            case atStart => rfl
            case round =>
              subst hrel
              go_wp2_with fail
              go_roundw
              case rel => exact ⟨j, by omega, by go_num, by rw [str_append, Hfin.out], HE2.out⟩
              case measure => simp [intOf]

end Go.Proofs.YtiicfpdiehgikaaGreatDoor
namespace Go.Proofs.YtiicfpdiehgikaaGreatDoor
open Go.RowKit

/-- The last that is not nought. -/
def lstN (f : Nat → Int) : Nat → Nat
  | 0 => 0
  | n + 1 => if f n = 0 then lstN f n else n
theorem lstN_lt (f : Nat → Int) : ∀ n, 0 < n → lstN f n < n
  | 0, h => absurd h (Nat.lt_irrefl 0)
  | 1, _ => by simp only [lstN]; split <;> omega
  | n + 2, _ => by
    have := lstN_lt f (n + 1) (by omega)
    rw [lstN]; split <;> omega
theorem lstN_len (f : Nat → Int) : ∀ n, 0 < n → lenN f n = lstN f n + 1
  | 0, h => absurd h (Nat.lt_irrefl 0)
  | 1, _ => by simp [lenN, lstN]
  | n + 2, _ => by
    have := lstN_len f (n + 1) (by omega)
    rw [lenN, lstN]
    by_cases h : f (n + 1) = 0
    · rw [if_pos ⟨by omega, h⟩, if_pos h, this]
    · rw [if_neg (fun k => h k.2), if_neg h]
theorem jnT_more (f : Nat → Int) (j : Nat) (h : 0 < j) : (⟨(jnT f j).toArray⟩ : ByteArray) ++ (⟨#[44]⟩ ++ ⟨(Lib.itoa (f j)).toArray⟩) = ⟨(jnT f (j + 1)).toArray⟩ := by
  apply ByteArray.ext
  simp [jnT, h]
set_option maxRecDepth 100000 in
set_option maxHeartbeats 4000000 in
theorem QText_nm (ca : Array Value) (x : Nm) (P E : Nat) (w : World) (h : RmA w ca x P E) (hP : P ≤ 400000) (hE : E ≤ 1099511627776) :
    Calls Tryz.prog 10 #[.agg ca] w fun r w' => r = .returned (.string ⟨(rtx (nmF x)).toArray⟩) ∧ Ext w w' := by
  obtain ⟨f, hf⟩ : ∃ f, nmF x = f := ⟨_, rfl⟩
  obtain ⟨e, he⟩ : ∃ e, x.e = e := ⟨_, rfl⟩
  have hv : ZCs w ca f (e : Int) := by rw [← he]; exact h.val.congr fun i hi => by rw [← hf]; unfold nmF; rw [if_neg (by omega)]
  have h8 : f 8 = (e : Int) := by rw [← hf, ← he]; rfl
  have hab : ∀ i, i < 8 → (f i).natAbs < 2 ^ P := fun i hi => by rw [← hf]; unfold nmF; rw [if_neg (by omega)]; exact h.abs i
  have hdn : e ≤ E := by rw [← he]; exact h.down
  have h0 := hv.box
  have E0 := Ext.alloc w (.cells ca 38)
  obtain ⟨H, hH⟩ : ∃ H, w.heap.size = H := ⟨_, rfl⟩
  obtain ⟨U, hU⟩ : ∃ U, w.alloc (.cells ca 38) = U := ⟨_, rfl⟩
  rw [hU, hH] at h0
  rw [hU] at E0
  rw [hf]
  have hlen := lstN_len f 8 (by decide); have hlt8 := lstN_lt f 8 (by decide)
  have Hrt := Lib.hid (show rtx f = jnT f (lstN f 8 + 1) ++ (if f 8 = 0 then [] else 47 :: Lib.itoa (f 8)) by unfold rtx; rw [hlen])
  have HV := Lib.hid h0; have HE := Lib.hid E0; have HU := Lib.hid hU; have HH := Lib.hid hH; have HP := Lib.hid hP; have HEE := Lib.hid hE; have H8 := Lib.hid h8; have Hab := Lib.hid hab; have Hdn := Lib.hid hdn; have Hlt8 := Lib.hid hlt8
  clear h hv hf he h0 E0 hU hH hP hE h8 hab hdn hlen hlt8
  go_enter Tryz.func10, Tryz.ntmps10
  go_wp2_with fail
  rw [HU.out, HH.out]
  clear HU
  go_loopg [3, 4] 8 (fun kk s3 s4 wr => ∃ j : Nat, s3 = .int .i64 ((lstN f j : Nat) : Int) ∧ s4 = .int .i64 (j : Int) ∧ j ≤ 8 ∧ 8 - j = kk ∧ ZVar wr H f (e : Int) ∧ Ext w wr)
  case atStart => exact ⟨0, rfl, rfl, by omega, by omega, HV.out, HE.out⟩
  case round =>
    clear HV HE
    obtain ⟨j, rfl, rfl, hj, hjk, hV, hE⟩ := hrel
    obtain ⟨wo, rfl⟩ : ∃ wo : World, wo = wr := ⟨_, rfl⟩
    have HV := Lib.hid hV; have HE := Lib.hid hE; have Hjk := Lib.hid hjk
    by_cases hj8 : j = 8
    · subst hj8
      obtain ⟨b, a, n, c, y0, y1, _, _, hI⟩ := hV.get 0 (by decide)
      have hn : n ≤ P := hI.bits (Hab.out 0 (by decide))
      have HT := Lib.hid (ZText_any b a n c (f 0) wo hI (by have := HP.out; omega))
      clear hI hn hV hE hj hjk Hjk
      go_wp2_with fail
      refine HT.out.mono ?_
      rintro r w1 ⟨rfl, hx1⟩
      have HV1 := Lib.hid (HV.out.ext hx1); have HE1 := Lib.hid (HE.out.trans hx1)
      clear HV HE HT hx1 y0 y1
      obtain ⟨m, hm⟩ : ∃ m, lstN f 8 = m := ⟨_, rfl⟩
      rw [hm] at Hlt8 Hrt ⊢
      go_wp2_with fail
      go_loopg [5, 6] m (fun kk s5 s6 wr => ∃ j : Nat, s5 = .string ⟨(jnT f j).toArray⟩ ∧ s6 = .int .i64 (j : Int) ∧ 1 ≤ j ∧ j ≤ m + 1 ∧ m + 1 - j = kk ∧ ZVar wr H f (e : Int) ∧ Ext w wr)
      case atStart => exact ⟨1, by simp [jnT], rfl, by omega, by omega, by omega, HV1.out, HE1.out⟩
      case round =>
        clear HV1 HE1
        obtain ⟨j, rfl, rfl, hj0, hj, hjk, hV, hE⟩ := hrel
        obtain ⟨wo, rfl⟩ : ∃ wo : World, wo = wr := ⟨_, rfl⟩
        by_cases hjm : j = m + 1
        · have q1 : ¬ (j : Int) ≤ (m : Int) := by omega
          have x16 := hV.gete.1
          subst hjm
          by_cases he0 : e = 0
          · subst he0
            have Hend := Lib.hid (show rtx f = jnT f (m + 1) by rw [Hrt.out, H8.out]; simp)
            have HE := Lib.hid hE
            clear hV hE hj hj0 hjk
            go_wp2_with fail
            go_ret
            exact ⟨congrArg (fun l : List UInt8 => Ending.returned (Value.string ⟨l.toArray⟩)) Hend.out.symm, HE.out⟩
          · have q2 : (0 : Int) < (e : Int) := by omega
            have q3 : 0 < e := by omega
            have HZo := Lib.hid (ZOf_any (e : Int) (by omega) (by have := Hdn.out; have := HEE.out; omega) wo)
            have Hend := Lib.hid (show (⟨(rtx f).toArray⟩ : ByteArray) = ⟨(jnT f (m + 1)).toArray⟩ ++ (⟨#[47]⟩ ++ ⟨(Lib.itoa (e : Int)).toArray⟩) by
              rw [Hrt.out, H8.out, if_neg (by omega)]
              apply ByteArray.ext
              simp)
            have HE := Lib.hid hE
            have hq1 := ritoa_len (e : Int) 41 (by have := Hdn.out; have := HEE.out; rw [Int.natAbs_natCast]; exact Nat.lt_of_le_of_lt (show e ≤ 1099511627776 by omega) (by decide))
            have hq2 := Nat.le_trans (jnT_len f P Hab.out (m + 1) Hlt8.out) (Nat.mul_le_mul_right (P + 3) (show m + 1 ≤ 8 from Hlt8.out))
            have Hs := Lib.hid (show ¬ 9223372036854775807 < 1 + (Lib.itoa (e : Int)).length ∧ ¬ 9223372036854775807 < (jnT f (m + 1)).length + (1 + (Lib.itoa (e : Int)).length) by have := HP.out; omega)
            clear hV hE hj hj0 hjk he0 hq1 hq2
            go_wp2_with fail
            refine HZo.out.mono ?_
            rintro r w2 ⟨b2, a2, n2, c2, rfl, hI2, hn2, hx2⟩
            have HT2 := Lib.hid (ZText_any b2 a2 n2 c2 (e : Int) w2 hI2 (by omega))
            have HE2 := Lib.hid (HE.out.trans hx2)
            clear hI2 hn2 hx2 HE HZo x16
            go_wp2_with fail
            refine HT2.out.mono ?_
            rintro r w3 ⟨rfl, hx3⟩
            have hs1 := Hs.out.1; have hs2 := Hs.out.2
            have HE3 := Lib.hid (HE2.out.trans hx3)
            clear hx3 HE2 HT2
            go_wp2_with fail
            go_ret
            exact ⟨congrArg (fun b : ByteArray => Ending.returned (Value.string b)) Hend.out.symm, HE3.out⟩
        have q1 : (j : Int) ≤ (m : Int) := by omega
        have q2 : (0 : Int) ≤ (j : Int) := by omega
        have hj8 : j < 8 := by have := Hlt8.out; omega
        have q3 : (j : Int) < 8 := by omega
        have wk : IntKind.i64.wrap ((j : Int) + 1) = ((j + 1 : Nat) : Int) := by rw [IntKind.wrap_i64]; omega
        have Hmore := Lib.hid (jnT_more f j hj0)
        have Hj1 := Lib.hid (show 1 ≤ j + 1 ∧ j + 1 ≤ m + 1 by omega); have Hjk := Lib.hid hjk
        obtain ⟨b, a, n, c, y0, y1, _, _, hI⟩ := hV.get j hj8
        have hn : n ≤ P := hI.bits (Hab.out j hj8)
        have HT := Lib.hid (ZText_any b a n c (f j) wo hI (by have := HP.out; omega))
        have HV := Lib.hid hV; have HE := Lib.hid hE
        have hq1 := ritoa_len (f j) P (Hab.out j hj8)
        have hq2 := Nat.le_trans (jnT_len f P Hab.out j (by omega)) (Nat.mul_le_mul_right (P + 3) (show j ≤ 8 by omega))
        have Hs := Lib.hid (show ¬ 9223372036854775807 < 1 + (Lib.itoa (f j)).length ∧ ¬ 9223372036854775807 < (jnT f j).length + (1 + (Lib.itoa (f j)).length) by have := HP.out; omega)
        clear hI hn hV hE hj hj0 hjk hjm hj8 hq1 hq2
        go_wp2_with fail
        refine HT.out.mono ?_
        rintro r w1 ⟨rfl, hx1⟩
        have hs1 := Hs.out.1; have hs2 := Hs.out.2
        have HV1 := Lib.hid (HV.out.ext hx1); have HE1 := Lib.hid (HE.out.trans hx1)
        clear HV HE HT hx1 y0 y1
        go_wp2_with fail
        go_roundg (m + 1 - (j + 1))
        case measure => have := Hjk.out; have := Hj1.out; omega
        case rel => exact ⟨j + 1, congrArg Value.string Hmore.out, rfl, Hj1.out.1, Hj1.out.2, rfl, HV1.out, HE1.out⟩
    have hlt : j < 8 := by omega
    have q1 : (j : Int) < 8 := by omega
    have q0 : (0 : Int) ≤ (j : Int) := by omega
    have wk : IntKind.i64.wrap ((j : Int) + 1) = ((j + 1 : Nat) : Int) := by rw [IntKind.wrap_i64]; omega
    have Hj1 := Lib.hid (show j + 1 ≤ 8 by omega)
    obtain ⟨b, a, n, c, y0, y1, _, _, hI⟩ := hV.get j hlt
    have hiff := hI.nil_iff
    clear hI hj8 hj hlt hV hE hjk
    by_cases hn : n = 0
    · have q2 : ¬ (0 : Int) < (n : Int) := by omega
      have Hl := Lib.hid (show lstN f (j + 1) = lstN f j by rw [lstN, if_pos (hiff.1 hn)])
      clear hn hiff
      go_wp2_with fail
      go_roundg (8 - (j + 1))
      case measure => have := Hjk.out; have := Hj1.out; omega
      case rel => exact ⟨j + 1, by rw [Hl.out], rfl, Hj1.out, rfl, HV.out, HE.out⟩
    · have q2 : (0 : Int) < (n : Int) := by omega
      have Hl := Lib.hid (show lstN f (j + 1) = j by rw [lstN, if_neg (fun k => hn (hiff.2 k))])
      clear hn hiff
      go_wp2_with fail
      go_roundg (8 - (j + 1))
      case measure => have := Hjk.out; have := Hj1.out; omega
      case rel => exact ⟨j + 1, by rw [Hl.out], rfl, Hj1.out, rfl, HV.out, HE.out⟩
end Go.Proofs.YtiicfpdiehgikaaGreatDoor
namespace Go.Proofs.YtiicfpdiehgikaaGreatDoor
open Go.RowKit

theorem zero_sub_iff {x y z : Nm} (hz : Anti z.a) (h : EqN z (nAdd x (nNeg y))) : (zeroN fun i : Nat => z.a i) ↔ EqN x y := by
  have h1 := h.zero
  have h2 : (∀ k, (nAdd x (nNeg y)).a k = 0) ↔ EqN x y := by
    constructor
    · intro h3 k
      have := h3 k
      simp only [nAdd, nNeg, negR] at this
      grind
    · intro h3 k
      have := h3 k
      simp only [nAdd, nNeg, negR]
      grind
  rw [← h2, ← h1]
  exact ⟨zero_of_zeroN hz, fun h3 i _ => h3 i⟩

set_option maxRecDepth 100000 in
set_option maxHeartbeats 4000000 in
theorem QSame_nm (ca cb : Array Value) (x y : Nm) (P E : Nat) (w : World) (h1 : RmA w ca x P E) (h2 : RmA w cb y P E) (hP : P + E + 1 ≤ 400000) (hE : E ≤ 10000) (B : Bool) (hB : B = true ↔ EqN x y) :
    Calls Tryz.prog 42 #[.agg ca, .agg cb] w fun r w' => r = .returned (.bool B) ∧ Ext w w' := by
  obtain ⟨H, hH⟩ : ∃ H, w.heap.size = H := ⟨_, rfl⟩
  obtain ⟨U, hU⟩ : ∃ U, (w.alloc (.cells ca 38)).alloc (.cells cb 38) = U := ⟨_, rfl⟩
  have E0 : Ext w U := by rw [← hU]; exact (Ext.alloc _ _).trans (Ext.alloc _ _)
  have rA : U.heap[H]? = some (.cells ca 38 (0, 0)) := by rw [← hU, ← hH]; exact ((Ext.alloc _ _).block _ (Array.getElem?_eq_some_iff.1 (heap_alloc_new w (.cells ca 38))).1).trans (heap_alloc_new w _)
  have rB : U.heap[H + 1]? = some (.cells cb 38 (0, 0)) := by
    have h3 := heap_alloc_new (w.alloc (.cells ca 38)) (.cells cb 38)
    rw [← hU, ← hH]
    simpa using h3
  have iA := h1.info; have iB := h2.info
  have HS := Lib.hid (QSub_nm ca cb x y P E U (h1.ext E0) (h2.ext E0) hP hE)
  have HU := Lib.hid hU; have HH := Lib.hid hH; have HE0 := Lib.hid E0; have HB := Lib.hid hB
  clear hU hH E0 h1 h2 hP hE hB
  go_enter Tryz.func42, Tryz.ntmps42
  go_upto_region 1 with fail
  rw [HU.out, HH.out]
  clear HU
  go_wp2_with (first
    | refine wpList_load_row rfl 38 _ rfl (H) rfl 38 _ (0, 0) _ rA Tryz.underlying38 rfl iA ?_
    | refine wpList_load_row rfl 38 _ rfl (H + 1) rfl 38 _ (0, 0) _ rB Tryz.underlying38 rfl iB ?_)
  refine HS.out.mono ?_
  rintro r w1 ⟨cr, z, rfl, hz, hq, hx1⟩
  have HZ := Lib.hid (QZero_any cr _ _ w1 hz.val B (by rw [HB.out]; exact (zero_sub_iff hz.anti hq).symm))
  have HE1 := Lib.hid (HE0.out.trans hx1)
  clear hz hq hx1 HS HE0 rA rB iA iB
  go_wp2_with fail
  refine HZ.out.mono ?_
  rintro r w2 ⟨rfl, hx2⟩
  have HE2 := Lib.hid (HE1.out.trans hx2)
  clear hx2 HE1 HZ
  go_wp2_with fail
  go_ret
  exact ⟨rfl, HE2.out⟩
end Go.Proofs.YtiicfpdiehgikaaGreatDoor
namespace Go.Proofs.YtiicfpdiehgikaaGreatDoor
open Go.RowKit

theorem QMake_nm (ao : Option Addr) (n cp : Nat) (l : List Int) (e : Int) (w : World) (hl : IntsAt w ao n l) (hr : ∀ t, t < n → -9223372036854775808 ≤ l.getD t 0 ∧ l.getD t 0 ≤ 9223372036854775807) (hn : n ≤ 17592186044416) :
    Calls Tryz.prog 28 #[.slice ao n cp, .int .i64 e] w fun r w' => ∃ (cr : Array Value) (x : Nm) (c : Int), r = .returned (.tuple #[.agg cr, .agg #[.int .i64 c, .int .i64 0]]) ∧ c = (if badE e then 5 else 0) ∧ RmA w' cr x 10120 10000 ∧ EqN x (if badE e then ⟨fun _ => 0, 0⟩ else mkNm l e) ∧ Ext w w' := by
  by_cases hb : badE e
  · refine (QMake_bad ao n cp e w 10120 10000 hb).mono ?_
    rintro r w' ⟨hr, hn, hx⟩
    exact ⟨zeroR, _, 5, hr, by rw [if_pos hb], hn, by rw [if_pos hb, ext8_zero]; exact EqN.refl _, hx⟩
  · refine (QMake_good ao n cp l e w hl hr hn hb).mono ?_
    rintro r w' ⟨cr, x, hr, hn, he, hx⟩
    exact ⟨cr, x, 0, hr, by rw [if_neg hb], hn, by rw [if_neg hb]; exact he, hx⟩
theorem same_kept {w w' : World} {ca cb : Array Value} {x y p : Nm} {P E P' E' : Nat} (hx : NmA w ca x P E) (hy : RmA w' cb y P' E') (h : EqN x p) (g : EqN y p) : x = y := low_one hx.low hy.low (h.trans g.symm)
theorem same_iff {x y : Nm} (hx : Low x) (hy : Low y) : EqN x y ↔ x = y := ⟨low_one hx hy, EqN.of_eq⟩
end Go.Proofs.YtiicfpdiehgikaaGreatDoor
