/-
  The reference's writing, in plain lists.
-/
import Derived.Test.YtfjbhiihfibbaaaDoorMTxP
import Derived.Test.YtfjbhiihfibbaaaDoorMZA
import Derived.Test.YtfjbhiihfibbaaaDoorMZL
import Derived.Deep.RegionHeld3

namespace Go.Proofs.YtfjbhiihfibbaaaDoor
open Go.RowKit

/-- Four digits. -/
theorem padD_four (x : Nat) (h : x < 10000) : padD 4 x = [UInt8.ofNat (48 + x / 1000), UInt8.ofNat (48 + x / 100 % 10), UInt8.ofNat (48 + x / 10 % 10), UInt8.ofNat (48 + x % 10)] := by
  have e : x / 1000 % 10 = x / 1000 := by omega
  unfold padD Lib.dg
  simp [List.range_succ, e]

/-- A digit more behind the digits of a number. -/
theorem dec_step (x v : Nat) (hx : x < 10000) (hv : 0 < v) : Lib.decDigits (x + 10000 * v) = Lib.decDigits v ++ padD 4 x := by
  have e1 : (x + 10000 * v) / 10 ^ 4 = v := by omega
  have e2 : (x + 10000 * v) % 10 ^ 4 = x := by omega
  have h := decDigits_append 4 (x + 10000 * v) (by rw [e1]; exact hv)
  rw [e1, e2] at h
  exact h

/-- The first digit is written without noughts ahead. -/
theorem dec_first (x : Nat) (hx : x < 10000) (h0 : 0 < x) : ∃ f, f ≤ 3 ∧ (∀ t, t < f → (padD 4 x).getD t 0 = 48) ∧ (padD 4 x).getD f 0 ≠ 48 ∧ Lib.decDigits x = (padD 4 x).drop f := by
  have hnd : Lib.nDigits x ≤ 4 := nDigits_le 4 x (by omega) (by omega)
  have hnp := Lib.nDigits_pos x
  have hp := padD_fill 4 x hnd
  have hl : (List.replicate (4 - Lib.nDigits x) (48 : UInt8)).length = 4 - Lib.nDigits x := by simp
  refine ⟨4 - Lib.nDigits x, by omega, fun t ht => ?_, ?_, ?_⟩
  · rw [hp, List.getD_eq_getElem?_getD, List.getElem?_append_left (by rw [hl]; exact ht), List.getElem?_replicate, if_pos ht]
    rfl
  · rw [hp, List.getD_eq_getElem?_getD, List.getElem?_append_right (by rw [hl]; exact Nat.le_refl _), hl, Nat.sub_self]
    obtain ⟨d, r, e, _, h2⟩ := decN_head x
    intro hc
    unfold decN at e
    cases hd : Lib.decDigits x with
    | nil => rw [hd] at e; simp at e
    | cons y ys =>
      rw [hd] at e hc
      simp only [List.map_cons, List.cons.injEq] at e
      simp at hc
      rw [hc] at e
      have := h2 (by rw [← e.1]; rfl)
      omega
  · rw [hp, List.drop_append_of_le_length (by rw [hl]; exact Nat.le_refl _), List.drop_of_length_le (by rw [hl]; exact Nat.le_refl _), List.nil_append]

/-- What is written of the digits from k on. -/
def ztx (l : List Nat) (k : Nat) : List UInt8 := if k = l.length then [] else Lib.decDigits (zval (l.drop k))
theorem ztx_end (l : List Nat) : ztx l l.length = [] := by unfold ztx; rw [if_pos rfl]
theorem zval_drop (l : List Nat) (k : Nat) (h : k < l.length) : zval (l.drop k) = l.getD k 0 + 10000 * zval (l.drop (k + 1)) := by
  rw [List.drop_eq_getElem_cons h, zval, List.getD_eq_getElem?_getD, List.getElem?_eq_getElem h]; rfl
theorem ZN.drop {l : List Nat} (h : ZN l) (k : Nat) : ZN (l.drop k) := by
  by_cases hk : k < l.length
  · right
    have hl : l ≠ [] := by intro e; subst e; simp at hk
    have := h.resolve_left hl
    rw [List.length_drop, List.getD_eq_getElem?_getD, List.getElem?_drop, show k + (l.length - k - 1) = l.length - 1 by omega, ← List.getD_eq_getElem?_getD]
    exact this
  · left; exact List.drop_of_length_le (by omega)
theorem ztx_first {l : List Nat} {j x : Nat} (hl : l.length = j + 1) (hx : l.getD j 0 = x) : ztx l j = Lib.decDigits x := by
  unfold ztx
  rw [if_neg (by omega), zval_drop l j (by omega), hx, List.drop_of_length_le (by omega)]
  simp [zval]
theorem ztx_next {l : List Nat} {j x : Nat} (hn : ZN l) (hj : j + 1 < l.length) (hx : l.getD j 0 = x) (hx4 : x < 10000) : ztx l j = ztx l (j + 1) ++ padD 4 x := by
  have hp : 0 < zval (l.drop (j + 1)) := by
    apply Nat.pos_of_ne_zero
    intro e
    have := (zval_zero (hn.drop (j + 1))).1 e
    have := congrArg List.length this
    rw [List.length_drop] at this
    simp at this
    omega
  unfold ztx
  rw [if_neg (by omega), if_neg (by omega), zval_drop l j (by omega), hx, dec_step x _ hx4 hp]
theorem ztx_all {l : List Nat} (h : l ≠ []) : ztx l 0 = Lib.decDigits (zval l) := by
  unfold ztx
  rw [if_neg (by intro e; exact h (List.eq_nil_of_length_eq_zero e.symm)), List.drop_zero]


end Go.Proofs.YtfjbhiihfibbaaaDoor

/-
  The reference's writing: ZText.
-/
namespace Go.Proofs.YtfjbhiihfibbaaaDoor
open Go.RowKit

theorem str_append (a b : List UInt8) : (⟨a.toArray⟩ : ByteArray) ++ (⟨b.toArray⟩ : ByteArray) = ⟨(a ++ b).toArray⟩ := by
  apply ByteArray.ext
  simp [ByteArray.data_append]

theorem ISeg.blt {w : World} {b o : Nat} {l : List Nat} (h : ISeg w (some ⟨b, o, none⟩) l) : b < w.heap.size := by
  rcases h with ⟨h, _⟩ | ⟨b', o', h, hb, _⟩
  · cases h
  · simp only [Option.some.injEq, Addr.mk.injEq, and_true] at h
    obtain ⟨rfl, rfl⟩ := h
    exact hb.lt

theorem ztx_len {l : List Nat} (hd : ZD l) (k : Nat) : (ztx l k).length ≤ 4 * l.length + 1 := by
  unfold ztx
  split
  · simp
  · rw [Lib.decDigits_length]
    have h1 : zval (l.drop k) < 10000 ^ (l.drop k).length := zval_lt (fun x hx => hd x (List.mem_of_mem_drop hx))
    rw [List.length_drop] at h1
    have h2 : (10000 : Nat) ^ (l.length - k) ≤ 10 ^ (4 * l.length + 1) := by
      rw [show (10000 : Nat) = 10 ^ 4 by decide, ← Nat.pow_mul]
      exact Nat.pow_le_pow_right (by decide) (by omega)
    exact nDigits_le _ _ (by omega) (by omega)

theorem conv_tail (W : World) (G f m : Nat) (l : List UInt8) (hl : l.length = m) (h : ∀ j, (hj : j < l.length) → W.cell? ⟨G, f + j, none⟩ = some (.int .u8 (l[j].toNat : Int))) : (convert 76 9 (.slice (some ⟨G, f, none⟩) m m)).run Tryd.prog W = .ok (.string ⟨l.toArray⟩) W := by
  subst hl
  refine run_convert_bytes_back (P := Tryd.prog) W 76 9 5 ⟨G, f, none⟩ l.length l Tryd.underlying76 Tryd.underlying5 Tryd.underlying9 (fun j hj => ?_)
  rw [Lib.add_plain]
  exact h j hj

/-- Four bytes in memory, and what is converted of them. -/
theorem four_conv {W : World} {G B3 B2 B1 B0 : Nat} (k3 : W.cell? ⟨G, 0, none⟩ = some (.int .u8 B3)) (k2 : W.cell? ⟨G, 1, none⟩ = some (.int .u8 B2)) (k1 : W.cell? ⟨G, 2, none⟩ = some (.int .u8 B1)) (k0 : W.cell? ⟨G, 3, none⟩ = some (.int .u8 B0)) (hB : B3 < 256 ∧ B2 < 256 ∧ B1 < 256 ∧ B0 < 256) :
    (∀ t, t < 4 → W.cell? ⟨G, t, none⟩ = some (.int .u8 (([UInt8.ofNat B3, UInt8.ofNat B2, UInt8.ofNat B1, UInt8.ofNat B0].getD t 0).toNat : Int))) ∧
    ∀ f, f ≤ 3 → (convert 76 9 (.slice (some ⟨G, f, none⟩) (4 - f) (4 - f))).run Tryd.prog W = .ok (.string ⟨([UInt8.ofNat B3, UInt8.ofNat B2, UInt8.ofNat B1, UInt8.ofNat B0].drop f).toArray⟩) W := by
  have e : ∀ B : Nat, B < 256 → ((UInt8.ofNat B).toNat : Int) = (B : Int) := by
    intro B h
    have : (UInt8.ofNat B).toNat = B := by rw [UInt8.toNat_ofNat']; omega
    rw [this]
  have hc : ∀ t, t < 4 → W.cell? ⟨G, t, none⟩ = some (.int .u8 (([UInt8.ofNat B3, UInt8.ofNat B2, UInt8.ofNat B1, UInt8.ofNat B0].getD t 0).toNat : Int)) := by
    intro t ht
    match t, ht with
    | 0, _ => rw [k3]; show _ = some (Value.int .u8 ((UInt8.ofNat B3).toNat : Int)); rw [e _ hB.1]
    | 1, _ => rw [k2]; show _ = some (Value.int .u8 ((UInt8.ofNat B2).toNat : Int)); rw [e _ hB.2.1]
    | 2, _ => rw [k1]; show _ = some (Value.int .u8 ((UInt8.ofNat B1).toNat : Int)); rw [e _ hB.2.2.1]
    | 3, _ => rw [k0]; show _ = some (Value.int .u8 ((UInt8.ofNat B0).toNat : Int)); rw [e _ hB.2.2.2]
    | k + 4, h => omega
  refine ⟨hc, fun f hf => ?_⟩
  refine conv_tail W G f (4 - f) _ (by rw [List.length_drop]; rfl) (fun j hj => ?_)
  rw [List.length_drop] at hj
  have h4 : [UInt8.ofNat B3, UInt8.ofNat B2, UInt8.ofNat B1, UInt8.ofNat B0].length = 4 := rfl
  rw [hc (f + j) (by omega)]
  rw [List.getElem_drop, List.getD_eq_getElem?_getD, List.getElem?_eq_getElem (by omega)]
  rfl

theorem four_cells (w : World) (u0 u1 u2 u3 : Value) (e : TypeId) : (w.alloc (.cells #[u0, u1, u2, u3] e)).cell? ⟨w.heap.size, 0, none⟩ = some u0 ∧ (w.alloc (.cells #[u0, u1, u2, u3] e)).cell? ⟨w.heap.size, 1, none⟩ = some u1 ∧ (w.alloc (.cells #[u0, u1, u2, u3] e)).cell? ⟨w.heap.size, 2, none⟩ = some u2 ∧ (w.alloc (.cells #[u0, u1, u2, u3] e)).cell? ⟨w.heap.size, 3, none⟩ = some u3 := by
  refine ⟨?_, ?_, ?_, ?_⟩ <;> (rw [World.cell?_alloc_new]; rfl)

set_option maxHeartbeats 2000000 in
set_option maxRecDepth 100000 in
theorem ZText_any (neg : Bool) (ao : Option Addr) (n c : Nat) (z : Int) (w : World) (h : IsZ w neg ao n c z) (hn : n ≤ 1000000) :
    Calls Tryd.prog 63 #[.agg #[.bool neg, .slice ao n c]] w fun e w' => e = .returned (.string ⟨(Lib.itoa z).toArray⟩) ∧ Ext w w' := by
  obtain ⟨l, h1, h2, h3, h4, h5, h6, h7, h8⟩ := h
  have hE := ext_alloc w (.cells #[.bool neg, .slice ao n c] 94)
  have bA := zbx_new w neg ao n c
  have x0 := bA.c0; have x1 := bA.c1
  by_cases h0 : n = 0
  · have hl : l = [] := List.eq_nil_of_length_eq_zero (by omega)
    have hz : z = 0 := by rw [h7, hl]; simp [zval]
    have Ht : Hid (Lib.itoa z = [48]) := by show _ = _; rw [hz]; unfold Lib.itoa; rw [if_neg (by omega), Lib.decDigits]; simp
    subst h0
    clear h7 h1 h2 h3 h4 h5 h6 h8 hl hz x0
    go_enter Tryd.func63, Tryd.ntmps63
    go_wp2_with fail
    go_ret
    exact ⟨by rw [Ht.out]; rfl, hE⟩
  · have hl : l ≠ [] := by intro e; subst e; simp at h1; omega
    have hb : ((n : Int) == 0) = false := by rw [beq_eq_false_iff_ne]; omega
    obtain ⟨b, o, rfl⟩ := h4.some_of (by omega)
    have Hz : Hid (Lib.itoa z = (if neg then [45] else []) ++ ztx l 0) := by
      show _ = _
      rw [ztx_all hl, h7]
      have hv : 0 < zval l := by
        apply Nat.pos_of_ne_zero
        intro e; exact hl ((zval_zero h6).1 e)
      unfold Lib.itoa
      cases neg
      · rw [if_neg (by simp)]; simp
      · rw [if_pos (by simp; omega)]; simp
    obtain ⟨sg, hsg⟩ : ∃ sg : List UInt8, (if neg then [45] else []) = sg := ⟨_, rfl⟩
    rw [hsg] at Hz
    have H1 := Lib.hid h1; have H4 := Lib.hid h4; have H5 := Lib.hid h5; have H6 := Lib.hid h6; have Hl := Lib.hid hl
    clear h1 h4 h5 h6 h7 h8 h2 h3 hl
    cases neg
    · have Hsg := Lib.hid hsg
      clear hsg
      go_enter Tryd.func63, Tryd.ntmps63
      go_wp2_with fail
      generalize w.alloc (.cells #[.bool false, .slice (some ⟨b, o, none⟩) n c] 94) = W0 at *
      go_loopw [3, 4] (fun tv iv wr => ∃ k : Nat, k ≤ n ∧ iv = .int .i64 ((k : Int) - 1) ∧ tv = .string ⟨(sg ++ ztx l k).toArray⟩ ∧ Ext W0 wr) (fun _ iv _ => (intOf iv + 1).toNat)
      case atStart => exact ⟨n, Nat.le_refl _, by go_num, by have := ztx_end l; rw [H1.out] at this; rw [this, ← Hsg.out]; rfl, Ext.refl _⟩
      case round =>
        obtain ⟨k, hk, rfl, rfl, hEr⟩ := hrel
        have HEr := Lib.hid hEr
        have d1 := zKeep hEr bA.lt x1
        clear hEr
        obtain ⟨tl, htl⟩ : ∃ tl, sg ++ ztx l k = tl := ⟨_, rfl⟩
        rw [htl]
        have htl8 : tl.length ≤ 4000010 := by
          have h1 := ztx_len H5.out k
          have h2 : sg.length ≤ 1 := by rw [← Hsg.out]; decide
          rw [H1.out] at h1
          rw [← htl, List.length_append]; omega
        have Htl := Lib.hid htl
        clear htl
        by_cases hk0 : k = 0
        · subst hk0
          go_wp2_with fail
          go_ret
          exact ⟨by rw [Hz.out, Htl.out]; rfl, hE.trans HEr.out⟩
        · obtain ⟨j, rfl⟩ : ∃ j, k = j + 1 := ⟨k - 1, by omega⟩
          have ec : (((j + 1 : Nat) : Int) - 1) = (j : Int) := by omega
          have ij : (j : Int) < (n : Int) := by omega
          rw [ec]
          have hcl := (H4.out.ext (hE.trans HEr.out)).at j (by rw [H1.out]; omega)
          obtain ⟨x, hx⟩ : ∃ x, l.getD j 0 = x := ⟨_, rfl⟩
          have hx4 : x < 10000 := by rw [← hx]; exact H5.out.get j
          rw [hx] at hcl
          have Hx := Lib.hid hx
          obtain ⟨q3, g3⟩ : ∃ q, x / 1000 = q := ⟨_, rfl⟩
          obtain ⟨q2, g2⟩ : ∃ q, x / 100 = q := ⟨_, rfl⟩
          obtain ⟨r2, e2⟩ : ∃ q, q2 % 10 = q := ⟨_, rfl⟩
          obtain ⟨q1, g1⟩ : ∃ q, x / 10 = q := ⟨_, rfl⟩
          obtain ⟨r1, e1⟩ : ∃ q, q1 % 10 = q := ⟨_, rfl⟩
          obtain ⟨r0, e0⟩ : ∃ q, x % 10 = q := ⟨_, rfl⟩
          have t3 : (x : Int).tdiv 1000 = (q3 : Int) := by rw [Int.tdiv_eq_ediv_of_nonneg (by omega)]; omega
          have t2 : (x : Int).tdiv 100 = (q2 : Int) := by rw [Int.tdiv_eq_ediv_of_nonneg (by omega)]; omega
          have t1 : (x : Int).tdiv 10 = (q1 : Int) := by rw [Int.tdiv_eq_ediv_of_nonneg (by omega)]; omega
          have m2 : (q2 : Int).tmod 10 = (r2 : Int) := by rw [Int.tmod_eq_emod_of_nonneg (by omega)]; omega
          have m1 : (q1 : Int).tmod 10 = (r1 : Int) := by rw [Int.tmod_eq_emod_of_nonneg (by omega)]; omega
          have m0 : (x : Int).tmod 10 = (r0 : Int) := by rw [Int.tmod_eq_emod_of_nonneg (by omega)]; omega
          have b3 : q3 ≤ 9 := by omega
          have b2 : r2 ≤ 9 := by omega
          have b1 : r1 ≤ 9 := by omega
          have b0 : r0 ≤ 9 := by omega
          obtain ⟨B3, hB3⟩ : ∃ B, 48 + q3 = B := ⟨_, rfl⟩
          obtain ⟨B2, hB2⟩ : ∃ B, 48 + r2 = B := ⟨_, rfl⟩
          obtain ⟨B1, hB1⟩ : ∃ B, 48 + r1 = B := ⟨_, rfl⟩
          obtain ⟨B0, hB0⟩ : ∃ B, 48 + r0 = B := ⟨_, rfl⟩
          have v3 : IntKind.i64.wrap (q3 : Int) = (q3 : Int) := by rw [IntKind.wrap_i64]; omega
          have v2 : IntKind.i64.wrap (q2 : Int) = (q2 : Int) := by rw [IntKind.wrap_i64]; omega
          have v1 : IntKind.i64.wrap (q1 : Int) = (q1 : Int) := by rw [IntKind.wrap_i64]; omega
          have s3 : IntKind.i64.wrap (48 + (q3 : Int)) = (B3 : Int) := by rw [IntKind.wrap_i64]; omega
          have s2 : IntKind.i64.wrap (48 + (r2 : Int)) = (B2 : Int) := by rw [IntKind.wrap_i64]; omega
          have s1 : IntKind.i64.wrap (48 + (r1 : Int)) = (B1 : Int) := by rw [IntKind.wrap_i64]; omega
          have s0 : IntKind.i64.wrap (48 + (r0 : Int)) = (B0 : Int) := by rw [IntKind.wrap_i64]; omega
          have y3 : IntKind.u8.wrap (B3 : Int) = (B3 : Int) := by rw [IntKind.wrap_u8]; omega
          have y2 : IntKind.u8.wrap (B2 : Int) = (B2 : Int) := by rw [IntKind.wrap_u8]; omega
          have y1 : IntKind.u8.wrap (B1 : Int) = (B1 : Int) := by rw [IntKind.wrap_u8]; omega
          have y0 : IntKind.u8.wrap (B0 : Int) = (B0 : Int) := by rw [IntKind.wrap_u8]; omega
          have Hpad : Hid (padD 4 x = [UInt8.ofNat B3, UInt8.ofNat B2, UInt8.ofNat B1, UInt8.ofNat B0]) := by
            show _ = _
            rw [padD_four x hx4, g3, g2, e2, g1, e1, e0, hB3, hB2, hB1, hB0]
          have z3 : B3 < 256 := by omega
          have z2 : B2 < 256 := by omega
          have z1 : B1 < 256 := by omega
          have z0 : B0 < 256 := by omega
          have HB := Lib.hid (And.intro z3 (And.intro z2 (And.intro z1 z0)))
          clear hx g3 g2 e2 g1 e1 e0 hk0 hB3 hB2 hB1 hB0 z3 z2 z1 z0
          have hrd : Ext wr wr.drew := Below.drew (Ext.refl _)
          have lB := Nat.lt_of_lt_of_le bA.lt HEr.out.size
          have lb := (H4.out.ext (hE.trans HEr.out)).blt
          go_wp2_with fail
          go_region_held3 (fun w' => w'.cell? ⟨w.heap.size, 1, none⟩ = some (.slice (some ⟨b, o, none⟩) n c) ∧ w'.cell? ⟨b, o + j, none⟩ = some (.int .i64 (x : Nat)))
            (first | exact ⟨zKeep (W := wr) (by assumption) lB d1, zKeep (W := wr) (by assumption) lb hcl⟩ | exact ⟨zKeep (W := wr) (hrd.trans (ext_alloc _ _)) lB d1, zKeep (W := wr) (hrd.trans (ext_alloc _ _)) lb hcl⟩)
            (first | fail)
          have hx2 : Ext wr (wr.alloc (.cells #[.int .u8 B3, .int .u8 B2, .int .u8 B1, .int .u8 B0] 5)).drew := Below.drew (ext_alloc wr _)
          have d5 := zKeep hx2 lB d1
          have HE2 := Lib.hid (HEr.out.trans hx2)
          obtain ⟨k3, k2, k1, k0⟩ := four_cells wr (.int .u8 B3) (.int .u8 B2) (.int .u8 B1) (.int .u8 B0) 5
          have hdd : Ext (wr.alloc (.cells #[.int .u8 B3, .int .u8 B2, .int .u8 B1, .int .u8 B0] 5)) (wr.alloc (.cells #[.int .u8 B3, .int .u8 B2, .int .u8 B1, .int .u8 B0] 5)).drew := Below.drew (Ext.refl _)
          have lG : wr.heap.size < (wr.alloc (.cells #[.int .u8 B3, .int .u8 B2, .int .u8 B1, .int .u8 B0] 5)).heap.size := by simp
          have k3 := zKeep hdd lG k3
          have k2 := zKeep hdd lG k2
          have k1 := zKeep hdd lG k1
          have k0 := zKeep hdd lG k0
          clear d1 hcl hrd lB lb hdd lG hx2 t3 t2 t1 m2 m1 m0 b3 b2 b1 b0 v3 v2 v1 s3 s2 s1 s0 y3 y2 y1 y0
          go_wp2_with fail
          generalize (wr.alloc (.cells #[.int .u8 B3, .int .u8 B2, .int .u8 B1, .int .u8 B0] 5)).drew = W2 at *
          generalize wr.heap.size = G at *
          obtain ⟨hcell, hconv⟩ := four_conv k3 k2 k1 k0 HB.out
          have Hcell := Lib.hid hcell; have Hconv := Lib.hid hconv
          clear hcell hconv k3 k2 k1 k0 HB
          obtain ⟨bl, hbl⟩ : ∃ bl, [UInt8.ofNat B3, UInt8.ofNat B2, UInt8.ofNat B1, UInt8.ofNat B0] = bl := ⟨_, rfl⟩
          have hbl4 : bl.length ≤ 4 := by rw [← hbl]; exact Nat.le_refl _
          rw [hbl] at Hcell Hconv Hpad
          clear hbl
          by_cases hfirst : j + 1 = n
          · have hx0 : 0 < x := by
              have h6 := H6.out.resolve_left Hl.out
              rw [H1.out, ← hfirst, Nat.add_sub_cancel, Hx.out] at h6
              omega
            obtain ⟨f, hf3, hall, hne, hdec⟩ := dec_first x hx4 hx0
            rw [Hpad.out] at hall hne hdec
            have Hall := Lib.hid hall; have Hne := Lib.hid hne
            have Hfin : Hid (tl ++ bl.drop f = sg ++ ztx l j) := by
              show _ = _
              rw [ztx_first (by rw [H1.out]; exact hfirst.symm) Hx.out, hdec, ← Htl.out, hfirst]
              have := ztx_end l
              rw [H1.out] at this
              rw [this, List.append_nil]
            have ej : ((j : Int) == (n : Int) - 1) = true := by rw [beq_iff_eq]; omega
            clear hall hne hdec hfirst hx0 Htl
            go_loop [6] (fun v => ∃ k : Nat, k ≤ f ∧ v = .int .i64 k) (fun v => f - (intOf v).toNat)
            case atStart => exact ⟨0, Nat.zero_le _, rfl⟩
            case round =>
              obtain ⟨k, hk, rfl⟩ := hrel
              by_cases hkf : k < f
              · have hc : W2.cell? ⟨G, k, none⟩ = some (.int .u8 48) := by
                  rw [Hcell.out k (by omega), Hall.out k hkf]; rfl
                have ik : (k : Int) < 3 := by omega
                go_wp2_with fail
                go_round
                case rel => exact ⟨k + 1, by omega, by go_num⟩
                case measure => simp [intOf]; omega
              · obtain rfl : k = f := by omega
                have hcv := Hconv.out k hf3
                by_cases hk3 : k = 3
                · subst hk3
                  go_wp2_with fail
                  go_roundw
                  case rel => exact ⟨j, by omega, by go_num, by rw [str_append, Hfin.out], HE2.out⟩
                  case measure => simp [intOf]
                · have ik : (k : Int) < 3 := by omega
                  obtain ⟨q, hq, hc⟩ : ∃ q : Nat, ((q : Int) == 48) = false ∧ W2.cell? ⟨G, k, none⟩ = some (.int .u8 (q : Nat)) := by
                    refine ⟨(bl.getD k 0).toNat, ?_, Hcell.out k (by omega)⟩
                    rw [beq_eq_false_iff_ne]
                    intro hc
                    exact Hne.out (UInt8.toNat_inj.1 (by have : (48 : UInt8).toNat = 48 := rfl; rw [this]; omega))
                  go_wp2_with fail
                  go_roundw
                  case rel => exact ⟨j, by omega, by go_num, by rw [str_append, Hfin.out], HE2.out⟩
                  case measure => simp [intOf]
          · have ej : ((j : Int) == (n : Int) - 1) = false := by rw [beq_eq_false_iff_ne]; omega
            have Hfin : Hid (tl ++ bl = sg ++ ztx l j) := by
              show _ = _
              rw [ztx_next H6.out (by rw [H1.out]; omega) Hx.out hx4, Hpad.out, ← Htl.out, List.append_assoc]
            have hcv := Hconv.out 0 (by omega)
            rw [List.drop_zero] at hcv
            clear hfirst Htl
            go_loop [6] (fun v => v = .int .i64 0) (fun v => 0)
            case atStart => rfl
            case round =>
              subst hrel
              go_wp2_with fail
              go_roundw
              case rel => exact ⟨j, by omega, by go_num, by rw [str_append, Hfin.out], HE2.out⟩
              case measure => simp [intOf]
    · have Hsg := Lib.hid hsg
      clear hsg
      go_enter Tryd.func63, Tryd.ntmps63
      go_wp2_with fail
      generalize w.alloc (.cells #[.bool true, .slice (some ⟨b, o, none⟩) n c] 94) = W0 at *
      go_loopw [3, 4] (fun tv iv wr => ∃ k : Nat, k ≤ n ∧ iv = .int .i64 ((k : Int) - 1) ∧ tv = .string ⟨(sg ++ ztx l k).toArray⟩ ∧ Ext W0 wr) (fun _ iv _ => (intOf iv + 1).toNat)
      case atStart => exact ⟨n, Nat.le_refl _, by go_num, by have := ztx_end l; rw [H1.out] at this; rw [this, ← Hsg.out]; rfl, Ext.refl _⟩
      case round =>
        obtain ⟨k, hk, rfl, rfl, hEr⟩ := hrel
        have HEr := Lib.hid hEr
        have d1 := zKeep hEr bA.lt x1
        clear hEr
        obtain ⟨tl, htl⟩ : ∃ tl, sg ++ ztx l k = tl := ⟨_, rfl⟩
        rw [htl]
        have htl8 : tl.length ≤ 4000010 := by
          have h1 := ztx_len H5.out k
          have h2 : sg.length ≤ 1 := by rw [← Hsg.out]; decide
          rw [H1.out] at h1
          rw [← htl, List.length_append]; omega
        have Htl := Lib.hid htl
        clear htl
        by_cases hk0 : k = 0
        · subst hk0
          go_wp2_with fail
          go_ret
          exact ⟨by rw [Hz.out, Htl.out]; rfl, hE.trans HEr.out⟩
        · obtain ⟨j, rfl⟩ : ∃ j, k = j + 1 := ⟨k - 1, by omega⟩
          have ec : (((j + 1 : Nat) : Int) - 1) = (j : Int) := by omega
          have ij : (j : Int) < (n : Int) := by omega
          rw [ec]
          have hcl := (H4.out.ext (hE.trans HEr.out)).at j (by rw [H1.out]; omega)
          obtain ⟨x, hx⟩ : ∃ x, l.getD j 0 = x := ⟨_, rfl⟩
          have hx4 : x < 10000 := by rw [← hx]; exact H5.out.get j
          rw [hx] at hcl
          have Hx := Lib.hid hx
          obtain ⟨q3, g3⟩ : ∃ q, x / 1000 = q := ⟨_, rfl⟩
          obtain ⟨q2, g2⟩ : ∃ q, x / 100 = q := ⟨_, rfl⟩
          obtain ⟨r2, e2⟩ : ∃ q, q2 % 10 = q := ⟨_, rfl⟩
          obtain ⟨q1, g1⟩ : ∃ q, x / 10 = q := ⟨_, rfl⟩
          obtain ⟨r1, e1⟩ : ∃ q, q1 % 10 = q := ⟨_, rfl⟩
          obtain ⟨r0, e0⟩ : ∃ q, x % 10 = q := ⟨_, rfl⟩
          have t3 : (x : Int).tdiv 1000 = (q3 : Int) := by rw [Int.tdiv_eq_ediv_of_nonneg (by omega)]; omega
          have t2 : (x : Int).tdiv 100 = (q2 : Int) := by rw [Int.tdiv_eq_ediv_of_nonneg (by omega)]; omega
          have t1 : (x : Int).tdiv 10 = (q1 : Int) := by rw [Int.tdiv_eq_ediv_of_nonneg (by omega)]; omega
          have m2 : (q2 : Int).tmod 10 = (r2 : Int) := by rw [Int.tmod_eq_emod_of_nonneg (by omega)]; omega
          have m1 : (q1 : Int).tmod 10 = (r1 : Int) := by rw [Int.tmod_eq_emod_of_nonneg (by omega)]; omega
          have m0 : (x : Int).tmod 10 = (r0 : Int) := by rw [Int.tmod_eq_emod_of_nonneg (by omega)]; omega
          have b3 : q3 ≤ 9 := by omega
          have b2 : r2 ≤ 9 := by omega
          have b1 : r1 ≤ 9 := by omega
          have b0 : r0 ≤ 9 := by omega
          obtain ⟨B3, hB3⟩ : ∃ B, 48 + q3 = B := ⟨_, rfl⟩
          obtain ⟨B2, hB2⟩ : ∃ B, 48 + r2 = B := ⟨_, rfl⟩
          obtain ⟨B1, hB1⟩ : ∃ B, 48 + r1 = B := ⟨_, rfl⟩
          obtain ⟨B0, hB0⟩ : ∃ B, 48 + r0 = B := ⟨_, rfl⟩
          have v3 : IntKind.i64.wrap (q3 : Int) = (q3 : Int) := by rw [IntKind.wrap_i64]; omega
          have v2 : IntKind.i64.wrap (q2 : Int) = (q2 : Int) := by rw [IntKind.wrap_i64]; omega
          have v1 : IntKind.i64.wrap (q1 : Int) = (q1 : Int) := by rw [IntKind.wrap_i64]; omega
          have s3 : IntKind.i64.wrap (48 + (q3 : Int)) = (B3 : Int) := by rw [IntKind.wrap_i64]; omega
          have s2 : IntKind.i64.wrap (48 + (r2 : Int)) = (B2 : Int) := by rw [IntKind.wrap_i64]; omega
          have s1 : IntKind.i64.wrap (48 + (r1 : Int)) = (B1 : Int) := by rw [IntKind.wrap_i64]; omega
          have s0 : IntKind.i64.wrap (48 + (r0 : Int)) = (B0 : Int) := by rw [IntKind.wrap_i64]; omega
          have y3 : IntKind.u8.wrap (B3 : Int) = (B3 : Int) := by rw [IntKind.wrap_u8]; omega
          have y2 : IntKind.u8.wrap (B2 : Int) = (B2 : Int) := by rw [IntKind.wrap_u8]; omega
          have y1 : IntKind.u8.wrap (B1 : Int) = (B1 : Int) := by rw [IntKind.wrap_u8]; omega
          have y0 : IntKind.u8.wrap (B0 : Int) = (B0 : Int) := by rw [IntKind.wrap_u8]; omega
          have Hpad : Hid (padD 4 x = [UInt8.ofNat B3, UInt8.ofNat B2, UInt8.ofNat B1, UInt8.ofNat B0]) := by
            show _ = _
            rw [padD_four x hx4, g3, g2, e2, g1, e1, e0, hB3, hB2, hB1, hB0]
          have z3 : B3 < 256 := by omega
          have z2 : B2 < 256 := by omega
          have z1 : B1 < 256 := by omega
          have z0 : B0 < 256 := by omega
          have HB := Lib.hid (And.intro z3 (And.intro z2 (And.intro z1 z0)))
          clear hx g3 g2 e2 g1 e1 e0 hk0 hB3 hB2 hB1 hB0 z3 z2 z1 z0
          have hrd : Ext wr wr.drew := Below.drew (Ext.refl _)
          have lB := Nat.lt_of_lt_of_le bA.lt HEr.out.size
          have lb := (H4.out.ext (hE.trans HEr.out)).blt
          go_wp2_with fail
          go_region_held3 (fun w' => w'.cell? ⟨w.heap.size, 1, none⟩ = some (.slice (some ⟨b, o, none⟩) n c) ∧ w'.cell? ⟨b, o + j, none⟩ = some (.int .i64 (x : Nat)))
            (first | exact ⟨zKeep (W := wr) (by assumption) lB d1, zKeep (W := wr) (by assumption) lb hcl⟩ | exact ⟨zKeep (W := wr) (hrd.trans (ext_alloc _ _)) lB d1, zKeep (W := wr) (hrd.trans (ext_alloc _ _)) lb hcl⟩)
            (first | fail)
          have hx2 : Ext wr (wr.alloc (.cells #[.int .u8 B3, .int .u8 B2, .int .u8 B1, .int .u8 B0] 5)).drew := Below.drew (ext_alloc wr _)
          have d5 := zKeep hx2 lB d1
          have HE2 := Lib.hid (HEr.out.trans hx2)
          obtain ⟨k3, k2, k1, k0⟩ := four_cells wr (.int .u8 B3) (.int .u8 B2) (.int .u8 B1) (.int .u8 B0) 5
          have hdd : Ext (wr.alloc (.cells #[.int .u8 B3, .int .u8 B2, .int .u8 B1, .int .u8 B0] 5)) (wr.alloc (.cells #[.int .u8 B3, .int .u8 B2, .int .u8 B1, .int .u8 B0] 5)).drew := Below.drew (Ext.refl _)
          have lG : wr.heap.size < (wr.alloc (.cells #[.int .u8 B3, .int .u8 B2, .int .u8 B1, .int .u8 B0] 5)).heap.size := by simp
          have k3 := zKeep hdd lG k3
          have k2 := zKeep hdd lG k2
          have k1 := zKeep hdd lG k1
          have k0 := zKeep hdd lG k0
          clear d1 hcl hrd lB lb hdd lG hx2 t3 t2 t1 m2 m1 m0 b3 b2 b1 b0 v3 v2 v1 s3 s2 s1 s0 y3 y2 y1 y0
          go_wp2_with fail
          generalize (wr.alloc (.cells #[.int .u8 B3, .int .u8 B2, .int .u8 B1, .int .u8 B0] 5)).drew = W2 at *
          generalize wr.heap.size = G at *
          obtain ⟨hcell, hconv⟩ := four_conv k3 k2 k1 k0 HB.out
          have Hcell := Lib.hid hcell; have Hconv := Lib.hid hconv
          clear hcell hconv k3 k2 k1 k0 HB
          obtain ⟨bl, hbl⟩ : ∃ bl, [UInt8.ofNat B3, UInt8.ofNat B2, UInt8.ofNat B1, UInt8.ofNat B0] = bl := ⟨_, rfl⟩
          have hbl4 : bl.length ≤ 4 := by rw [← hbl]; exact Nat.le_refl _
          rw [hbl] at Hcell Hconv Hpad
          clear hbl
          by_cases hfirst : j + 1 = n
          · have hx0 : 0 < x := by
              have h6 := H6.out.resolve_left Hl.out
              rw [H1.out, ← hfirst, Nat.add_sub_cancel, Hx.out] at h6
              omega
            obtain ⟨f, hf3, hall, hne, hdec⟩ := dec_first x hx4 hx0
            rw [Hpad.out] at hall hne hdec
            have Hall := Lib.hid hall; have Hne := Lib.hid hne
            have Hfin : Hid (tl ++ bl.drop f = sg ++ ztx l j) := by
              show _ = _
              rw [ztx_first (by rw [H1.out]; exact hfirst.symm) Hx.out, hdec, ← Htl.out, hfirst]
              have := ztx_end l
              rw [H1.out] at this
              rw [this, List.append_nil]
            have ej : ((j : Int) == (n : Int) - 1) = true := by rw [beq_iff_eq]; omega
            clear hall hne hdec hfirst hx0 Htl
            go_loop [6] (fun v => ∃ k : Nat, k ≤ f ∧ v = .int .i64 k) (fun v => f - (intOf v).toNat)
            case atStart => exact ⟨0, Nat.zero_le _, rfl⟩
            case round =>
              obtain ⟨k, hk, rfl⟩ := hrel
              by_cases hkf : k < f
              · have hc : W2.cell? ⟨G, k, none⟩ = some (.int .u8 48) := by
                  rw [Hcell.out k (by omega), Hall.out k hkf]; rfl
                have ik : (k : Int) < 3 := by omega
                go_wp2_with fail
                go_round
                case rel => exact ⟨k + 1, by omega, by go_num⟩
                case measure => simp [intOf]; omega
              · obtain rfl : k = f := by omega
                have hcv := Hconv.out k hf3
                by_cases hk3 : k = 3
                · subst hk3
                  go_wp2_with fail
                  go_roundw
                  case rel => exact ⟨j, by omega, by go_num, by rw [str_append, Hfin.out], HE2.out⟩
                  case measure => simp [intOf]
                · have ik : (k : Int) < 3 := by omega
                  obtain ⟨q, hq, hc⟩ : ∃ q : Nat, ((q : Int) == 48) = false ∧ W2.cell? ⟨G, k, none⟩ = some (.int .u8 (q : Nat)) := by
                    refine ⟨(bl.getD k 0).toNat, ?_, Hcell.out k (by omega)⟩
                    rw [beq_eq_false_iff_ne]
                    intro hc
                    exact Hne.out (UInt8.toNat_inj.1 (by have : (48 : UInt8).toNat = 48 := rfl; rw [this]; omega))
                  go_wp2_with fail
                  go_roundw
                  case rel => exact ⟨j, by omega, by go_num, by rw [str_append, Hfin.out], HE2.out⟩
                  case measure => simp [intOf]
          · have ej : ((j : Int) == (n : Int) - 1) = false := by rw [beq_eq_false_iff_ne]; omega
            have Hfin : Hid (tl ++ bl = sg ++ ztx l j) := by
              show _ = _
              rw [ztx_next H6.out (by rw [H1.out]; omega) Hx.out hx4, Hpad.out, ← Htl.out, List.append_assoc]
            have hcv := Hconv.out 0 (by omega)
            rw [List.drop_zero] at hcv
            clear hfirst Htl
            go_loop [6] (fun v => v = .int .i64 0) (fun v => 0)
            case atStart => rfl
            case round =>
              subst hrel
              go_wp2_with fail
              go_roundw
              case rel => exact ⟨j, by omega, by go_num, by rw [str_append, Hfin.out], HE2.out⟩
              case measure => simp [intOf]

end Go.Proofs.YtfjbhiihfibbaaaDoor
