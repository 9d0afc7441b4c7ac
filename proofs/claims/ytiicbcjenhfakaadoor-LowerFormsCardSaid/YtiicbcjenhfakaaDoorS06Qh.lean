/-
  slices.Reverse of operations in memory of their own. The program's Inverse: what it answers lies in memory of its own. The builder in memory: its spare qubit, its operations that grow. Gates as the program makes them: flip, join, around, undone; copies of lists.
-/
import Derived.Test.YtiicbcjenhfakaaDoorProg
import Derived.Test.YtiicbcjenhfakaaDoorRows
import Derived.BigQuiet
import Derived.Deep.AppendLies
import Derived.Deep.Cut
import Derived.Deep.CutRange
import Derived.Deep.LoopGhost
import Derived.Deep.QuietTactic
import Derived.Deep.RegionHeld3
import Derived.Defers
import Derived.Ground.Names2Prog
import Derived.Ground.SlgnProg
import Derived.Laws.AppendOwnNone
import Derived.Laws.Bits64b
import Derived.Laws.Concat
import Derived.Laws.CopyOwn
import Derived.Laws.IdiomStrings
import Derived.Laws.ResultCell
import Derived.Lib.AppendStr
import Derived.Lib.AppendZeros
import Derived.Lib.AppendZerosOnto
import Derived.Lib.BitFns
import Derived.Lib.Hide
import Derived.Lib.ItoaMem
import Derived.Lib.ItoaNum
import Derived.Lib.Strings
import Derived.Lib.TrailingZeros
import Derived.Maps.AppendAt
import Derived.OwnWalk
import Derived.Recover
import Derived.Shelf.Slices.Clone
import Derived.Shelf.Slices.Turned
import Derived.Shelf.SlicesE.Clone
import Derived.Shelf.Spec.TrailingZeros
import Derived.WalkKit
import Derived.WalkLawsBesides
import Derived.WalkSpells
import Derived.Test.YtiicbcjenhfakaaDoorS00Ck
import Derived.Test.YtiicbcjenhfakaaDoorS01Cp
import Derived.Test.YtiicbcjenhfakaaDoorShelf
import Derived.Test.YtiicbcjenhfakaaDoorS03Qa
import Derived.Test.YtiicbcjenhfakaaDoorS04Qf
import Derived.Test.YtiicbcjenhfakaaDoorS05Kd
namespace Go.Proofs.YtiicbcjenhfakaaDoor
open Go.RowKit

/-- Two operations change places. -/
theorem rowF_swap {w w' : World} {base : Nat} {cs : Array Value} {ops : List Gop} {n i j : Nat} {gi gj : Gop} {a1 : Option Addr} {n1 c1 : Nat} {a2 : Option Addr} {n2 c2 : Nat} {b1 : Option Addr} {m1 d1 : Nat} {b2 : Option Addr} {m2 d2 : Nat}
    (hl : ops.length = n) (hij : i + j + 1 = n) (hlt : i < j) (hsz : n * 6 ≤ cs.size) (h : RowF w base (fun p => cs[p]?) (half ops i)) (hgi : ops[i]? = some gi) (hgj : ops[j]? = some gj)
    (hi : OpN w base gi a1 n1 c1 a2 n2 c2) (hj : OpN w base gj b1 m1 d1 b2 m2 d2) (hk : ∀ g a1 n1 c1 a2 n2 c2, OpN w base g a1 n1 c1 a2 n2 c2 → OpN w' base g a1 n1 c1 a2 n2 c2) :
    RowF w' base (fun p => (set6 (set6 cs (i * 6) (opF gj b1 m1 d1 b2 m2 d2)) (j * 6) (opF gi a1 n1 c1 a2 n2 c2))[p]?) (half ops (i + 1)) := by
  intro t g hg
  have ht : t < n := by have := (List.getElem?_eq_some_iff.1 hg).1; rw [half_len (by omega), hl] at this; exact this
  rw [half_get (by omega) (by omega), hl] at hg
  by_cases e1 : t = j
  · subst e1
    rw [if_pos (by omega), show n - 1 - t = i by omega, hgi] at hg
    injection hg with hg
    subst hg
    have hin := fun k hk => set6_in (set6 cs (i * 6) (opF gj b1 m1 d1 b2 m2 d2)) (t * 6) (opF gi a1 n1 c1 a2 n2 c2) k hk (by rw [set6_size]; omega)
    exact ⟨a1, n1, c1, a2, n2, c2, hin 0 (by omega), hin 1 (by omega), hin 2 (by omega), hin 3 (by omega), hin 4 (by omega), hin 5 (by omega), hk _ _ _ _ _ _ _ hi⟩
  · have hout : ∀ k, k < 6 → (set6 (set6 cs (i * 6) (opF gj b1 m1 d1 b2 m2 d2)) (j * 6) (opF gi a1 n1 c1 a2 n2 c2))[t * 6 + k]? = (set6 cs (i * 6) (opF gj b1 m1 d1 b2 m2 d2))[t * 6 + k]? := fun k hk => set6_out _ _ _ _ (by omega)
    by_cases e2 : t = i
    · subst e2
      rw [if_pos (by omega), show n - 1 - t = j by omega, hgj] at hg
      injection hg with hg
      subst hg
      have hin := fun k hk => (hout k hk).trans (set6_in cs (t * 6) (opF gj b1 m1 d1 b2 m2 d2) k hk (by omega))
      exact ⟨b1, m1, d1, b2, m2, d2, hin 0 (by omega), hin 1 (by omega), hin 2 (by omega), hin 3 (by omega), hin 4 (by omega), hin 5 (by omega), hk _ _ _ _ _ _ _ hj⟩
    · have hg' : (half ops i)[t]? = some g := by
        rw [half_get (by omega) (by omega), hl]
        by_cases e3 : t < i ∨ n - i ≤ t
        · rw [if_pos e3]; rw [if_pos (by omega)] at hg; exact hg
        · rw [if_neg e3]; rw [if_neg (by omega)] at hg; exact hg
      obtain ⟨x1, x2, x3, x4, x5, x6, y0, y1, y2, y3, y4, y5, y6⟩ := h t g hg'
      have hin := fun k hk => (hout k hk).trans (set6_out cs (i * 6) (opF gj b1 m1 d1 b2 m2 d2) (t * 6 + k) (by omega))
      exact ⟨x1, x2, x3, x4, x5, x6, (hin 0 (by omega)).trans y0, (hin 1 (by omega)).trans y1, (hin 2 (by omega)).trans y2, (hin 3 (by omega)).trans y3, (hin 4 (by omega)).trans y4, (hin 5 (by omega)).trans y5, hk _ _ _ _ _ _ _ y6⟩

/-- Two places change what they hold: no two cells lead into one block. -/
theorem sepF_swap {cs : Array Value} {n i j : Nat} {fi fj : Nat → Value} (hlt : i < j) (hj : j < n) (hsz : n * 6 ≤ cs.size) (hi6 : ∀ k, k < 6 → cs[i * 6 + k]? = some (fi k)) (hj6 : ∀ k, k < 6 → cs[j * 6 + k]? = some (fj k)) (h : SepF (n * 6) (fun p => cs[p]?)) :
    SepF (n * 6) (fun p => (set6 (set6 cs (i * 6) fj) (j * 6) fi)[p]?) := by
  have key : ∀ p, p < n * 6 → ∃ q, q < n * 6 ∧ (set6 (set6 cs (i * 6) fj) (j * 6) fi)[p]? = cs[q]? ∧ (p / 6 = i → q = j * 6 + p % 6) ∧ (p / 6 = j → q = i * 6 + p % 6) ∧ (p / 6 ≠ i → p / 6 ≠ j → q = p) := by
    intro p hp
    have hpe : p = p / 6 * 6 + p % 6 := by omega
    have hp6 : p % 6 < 6 := by omega
    by_cases e1 : p / 6 = j
    · refine ⟨i * 6 + p % 6, by omega, ?_, fun e => by omega, fun _ => rfl, fun _ e => absurd e1 e⟩
      have h1 := set6_in (set6 cs (i * 6) fj) (j * 6) fi (p % 6) hp6 (by rw [set6_size]; omega)
      rw [show j * 6 + p % 6 = p by omega] at h1
      rw [h1, hi6 _ hp6]
    · by_cases e2 : p / 6 = i
      · refine ⟨j * 6 + p % 6, by omega, ?_, fun _ => rfl, fun e => absurd e e1, fun e => absurd e2 e⟩
        have h1 := set6_in cs (i * 6) fj (p % 6) hp6 (by omega)
        rw [show i * 6 + p % 6 = p by omega] at h1
        rw [set6_out _ _ _ _ (by omega), h1, hj6 _ hp6]
      · refine ⟨p, hp, ?_, fun e => absurd e e2, fun e => absurd e e1, fun _ _ => rfl⟩
        rw [set6_out _ _ _ _ (by omega), set6_out _ _ _ _ (by omega)]
  intro p q k u v hp hq eu ev ku kv
  obtain ⟨p', hp1, hp2, hp3, hp4, hp5⟩ := key p hp
  obtain ⟨q', hq1, hq2, hq3, hq4, hq5⟩ := key q hq
  simp only at eu ev
  rw [hp2] at eu
  rw [hq2] at ev
  have he := h p' q' k u v hp1 hq1 eu ev ku kv
  by_cases e1 : p / 6 = i
  · have := hp3 e1
    by_cases e2 : q / 6 = i
    · have := hq3 e2; omega
    · by_cases e3 : q / 6 = j
      · have := hq4 e3; omega
      · have := hq5 e2 e3; omega
  · by_cases e1' : p / 6 = j
    · have := hp4 e1'
      by_cases e2 : q / 6 = i
      · have := hq3 e2; omega
      · by_cases e3 : q / 6 = j
        · have := hq4 e3; omega
        · have := hq5 e2 e3; omega
    · have := hp5 e1 e1'
      by_cases e2 : q / 6 = i
      · have := hq3 e2; omega
      · by_cases e3 : q / 6 = j
        · have := hq4 e3; omega
        · have := hq5 e2 e3; omega

set_option maxHeartbeats 8000000 in
set_option maxRecDepth 100000 in
theorem reverse_N (base : Nat) (a : Option Addr) (n c : Nat) (ops : List Gop) (w : World) (h : OpsN w base (.slice a n c) ops) (hn : n ≤ 10000) :
    Calls Tryd.prog 53 #[.slice a n c] w fun e w' => e = .returned (.tuple #[]) ∧ OpsN w' base (.slice a n c) ops.reverse ∧ Rvs (.slice a n c) w w' := by
  by_cases h0 : n = 0
  · subst h0
    have hl : ops = [] := List.length_eq_zero_iff.1 h.at.1
    subst hl
    have HO := Lib.hid h
    have wn1 : IntKind.i64.wrap (((0 : Nat) : Int) - 1) = -1 := by decide
    clear h
    go_enter Tryd.func53, Tryd.ntmps53
    go_wp2_with fail
    go_loopg [2, 3] 0 (fun kk s2 s3 wx => s2 = .int .i64 0 ∧ s3 = .int .i64 (-1) ∧ kk = 0 ∧ wx = w)
    case atStart => exact ⟨rfl, rfl, rfl, rfl⟩
    case round =>
      obtain ⟨rfl, rfl, rfl, rfl⟩ := hrel
      go_wp2_with fail
      go_end0
      exact ⟨rfl, HO.out, Rvs.refl _ _⟩
  · obtain ⟨hl, g, cur0, rfl, hb, hg, hnc, hcm, hsz, hsep, hrow⟩ := opsN_open h (by omega)
    have Hsep := Lib.hid hsep
    obtain ⟨n1, hn1⟩ : ∃ x : Int, (n : Int) - 1 = x := ⟨_, rfl⟩
    have wn1 : IntKind.i64.wrap ((n : Int) - 1) = n1 := by rw [IntKind.wrap_i64]; omega
    have Hg := Lib.hid hg; have Hrow := Lib.hid hrow; have Hl := Lib.hid hl; have Hsz := Lib.hid hsz; have Hb := Lib.hid hb; have Hnc := Lib.hid hnc; have Hcm := Lib.hid hcm
    clear h hg hrow hl hsz hb hnc hcm hsep
    go_enter Tryd.func53, Tryd.ntmps53
    go_wp2_with fail
    go_loopg [2, 3] n (fun kk s2 s3 wx => ∃ (i : Nat) (j : Int) (cur : Array Value), s2 = .int .i64 (i : Int) ∧ s3 = .int .i64 j ∧ j = n1 - (i : Int) ∧ 2 * i ≤ n ∧ n - i = kk ∧ wx.heap[g]? = some (.cells cur 37 (0, 0)) ∧ cur.size = c * 6 ∧ SepF (n * 6) (fun p => cur[p]?) ∧ RowF wx base (fun p => cur[p]?) (half ops i) ∧ Only g w wx)
    case atStart => exact ⟨0, n1, cur0, rfl, rfl, by omega, by omega, by omega, Hg.out, Hsz.out, Hsep.out, by rw [half_zero]; exact Hrow.out, Only.refl _ _⟩
    case round =>
      clear Hg Hrow Hsz Hsep
      obtain ⟨i, j, cur, rfl, rfl, hj, h2i, hk, hg, hsz, hsep, hrow, hB⟩ := hrel
      by_cases hlt : (i : Int) < j
      · obtain ⟨jn, rfl⟩ : ∃ m : Nat, j = (m : Int) := ⟨j.toNat, by omega⟩
        have q1' : decide ((i : Int) < (jn : Int)) = true := dt hlt
        have hij : i + jn + 1 = n := by omega
        have b0 : (0 : Int) ≤ (i : Int) := by omega
        have b1 : (i : Int) < (n : Int) := by omega
        have b2 : (0 : Int) ≤ (jn : Int) := by omega
        have b3 : (jn : Int) < (n : Int) := by omega
        obtain ⟨gi, hgi⟩ : ∃ x, ops[i]? = some x := ⟨_, List.getElem?_eq_getElem (by rw [Hl.out]; omega)⟩
        obtain ⟨gj, hgj⟩ : ∃ x, ops[jn]? = some x := ⟨_, List.getElem?_eq_getElem (by rw [Hl.out]; omega)⟩
        obtain ⟨a1, m1, c1, a2, m2, c2, x0, x1, x2, x3, x4, x5, x6⟩ := hrow i gi (by rw [half_get (by rw [Hl.out]; omega) (by rw [Hl.out]; omega), if_neg (by rw [Hl.out]; omega)]; exact hgi)
        obtain ⟨b1', p1, d1, b2', p2, d2, y0, y1, y2, y3, y4, y5, y6⟩ := hrow jn gj (by rw [half_get (by rw [Hl.out]; omega) (by rw [Hl.out]; omega), if_neg (by rw [Hl.out]; omega)]; exact hgj)
        have ce : ∀ (k : Nat) (v : Value), cur[k]? = some v → wr.cell? ⟨g, k, none⟩ = some v := fun k v e => by rw [cell_of_row wr g k cur _ (0, 0) hg]; exact e
        have fz : ∀ k, wr.frozen? ⟨g, k, none⟩ = false := fun k => frozen_of_row wr g k _ _ hg
        have u0 := ce _ _ x0; have u1 := ce _ _ x1; have u2 := ce _ _ x2; have u3 := ce _ _ x3; have u4 := ce _ _ x4; have u5 := ce _ _ x5
        have v0 := ce _ _ y0; have v1 := ce _ _ y1; have v2 := ce _ _ y2; have v3 := ce _ _ y3; have v4 := ce _ _ y4; have v5 := ce _ _ y5
        have wi : IntKind.i64.wrap ((i : Int) + 1) = ((i + 1 : Nat) : Int) := by rw [IntKind.wrap_i64]; omega
        obtain ⟨j1, hj1⟩ : ∃ x : Int, (jn : Int) - 1 = x := ⟨_, rfl⟩
        have wj : IntKind.i64.wrap ((jn : Int) - 1) = j1 := by rw [IntKind.wrap_i64]; omega
        have ne : jn ≠ i := by omega
        have hsp := sepF_swap (cs := cur) (n := n) (i := i) (j := jn) (fi := opF gi a1 m1 c1 a2 m2 c2) (fj := opF gj b1' p1 d1 b2' p2 d2) (by omega) (show jn < n by omega) (by rw [hsz]; have := Hnc.out; omega) (fun k hk6 => by
          rcases (show k = 0 ∨ k = 1 ∨ k = 2 ∨ k = 3 ∨ k = 4 ∨ k = 5 by omega) with rfl | rfl | rfl | rfl | rfl | rfl
          · exact x0
          · exact x1
          · exact x2
          · exact x3
          · exact x4
          · exact x5) (fun k hk6 => by
          rcases (show k = 0 ∨ k = 1 ∨ k = 2 ∨ k = 3 ∨ k = 4 ∨ k = 5 by omega) with rfl | rfl | rfl | rfl | rfl | rfl
          · exact y0
          · exact y1
          · exact y2
          · exact y3
          · exact y4
          · exact y5) hsep
        have Hsp := Lib.hid hsp
        have Hij := Lib.hid hij; have Hj := Lib.hid hj; have Hj1 := Lib.hid hj1; have Hn1 := Lib.hid hn1; have Hlt := Lib.hid hlt
        have Hg := Lib.hid hg; have Hsz := Lib.hid hsz; have Hrow := Lib.hid hrow; have HB := Lib.hid hB
        have Hx6 := Lib.hid x6; have Hy6 := Lib.hid y6; have Hgi := Lib.hid hgi; have Hgj := Lib.hid hgj; have H2i := Lib.hid h2i; have Hk := Lib.hid hk
        obtain ⟨kdi, ki, ctli, qi, bti, cndi⟩ := gi
        obtain ⟨kdj, kj, ctlj, qj, btj, cndj⟩ := gj
        simp only at u0 u1 u3 u4 v0 v1 v3 v4
        clear hsp hsep ce hij hj hj1 hn1 hg hsz hrow hB x6 y6 hgi hgj x0 x1 x2 x3 x4 x5 y0 y1 y2 y3 y4 y5 h2i hk
        have hWo : Only g wr (putAt (putAt wr g (i * 6) (opF ⟨kdj, kj, ctlj, qj, btj, cndj⟩ b1' p1 d1 b2' p2 d2)) g (jn * 6) (opF ⟨kdi, ki, ctli, qi, bti, cndi⟩ a1 m1 c1 a2 m2 c2)) := ((((((putAt_only wr g (i * 6) (opF ⟨kdj, kj, ctlj, qj, btj, cndj⟩ b1' p1 d1 b2' p2 d2)).setCell _ _).setCell _ _).setCell _ _).setCell _ _).setCell _ _).setCell _ _
        have hWr := putAt_row (p := jn * 6) (opF ⟨kdi, ki, ctli, qi, bti, cndi⟩ a1 m1 c1 a2 m2 c2) (putAt_row (p := i * 6) (opF ⟨kdj, kj, ctlj, qj, btj, cndj⟩ b1' p1 d1 b2' p2 d2) Hg.out)
        have hWb : Only g w (putAt (putAt wr g (i * 6) (opF ⟨kdj, kj, ctlj, qj, btj, cndj⟩ b1' p1 d1 b2' p2 d2)) g (jn * 6) (opF ⟨kdi, ki, ctli, qi, bti, cndi⟩ a1 m1 c1 a2 m2 c2)) := HB.out.trans (Only.trans (putAt_only wr g (i * 6) _) (putAt_only _ g (jn * 6) _))
        have hWs : (putAt (putAt wr g (i * 6) (opF ⟨kdj, kj, ctlj, qj, btj, cndj⟩ b1' p1 d1 b2' p2 d2)) g (jn * 6) (opF ⟨kdi, ki, ctli, qi, bti, cndi⟩ a1 m1 c1 a2 m2 c2)).heap.size = wr.heap.size := by rw [putAt_size, putAt_size]
        obtain ⟨Wz, hWz⟩ : ∃ Wz, putAt (putAt wr g (i * 6) (opF ⟨kdj, kj, ctlj, qj, btj, cndj⟩ b1' p1 d1 b2' p2 d2)) g (jn * 6) (opF ⟨kdi, ki, ctli, qi, bti, cndi⟩ a1 m1 c1 a2 m2 c2) = Wz := ⟨_, rfl⟩
        rw [hWz] at hWo hWr hWb hWs
        have hki := only_ints Hg.out (by decide) hWo
        have HRz := Lib.hid (rowF_swap (w' := Wz.drew) Hl.out Hij.out (by have := Hlt.out; omega) (by rw [Hsz.out]; have := Hnc.out; omega) Hrow.out Hgi.out Hgj.out Hx6.out Hy6.out (fun _ _ _ _ _ _ _ ho => ho.keep (w' := Wz.drew) hki))
        have HWz : Hid (_ = Wz) := Lib.hid hWz
        have Hrz := Lib.hid (show Wz.drew.heap[g]? = _ from hWr); have HBz := Lib.hid (Only.drewn hWb)
        have Hs6 := Lib.hid (show (set6 (set6 cur (i * 6) (opF ⟨kdj, kj, ctlj, qj, btj, cndj⟩ b1' p1 d1 b2' p2 d2)) (jn * 6) (opF ⟨kdi, ki, ctli, qi, bti, cndi⟩ a1 m1 c1 a2 m2 c2)).size = c * 6 by rw [set6_size, set6_size]; exact Hsz.out)
        clear hWo hWr hWb hWs hWz hki
        simp only [putAt, opF] at HWz
        go_upto_region 3 with fail
        go_region
        rw [HWz.out]
        generalize Wz.drew = Wd at *
        go_wp2_with fail
        go_roundg (n - (i + 1))
        case measure => have := Hk.out; have := H2i.out; have := Hij.out; omega
        case rel => exact ⟨i + 1, j1, _, rfl, rfl, by have := Hj1.out; have := Hj.out; omega, by have := Hij.out; have := Hlt.out; omega, rfl, Hrz.out, Hs6.out, Hsp.out, HRz.out, HBz.out⟩
      · have q1' : decide ((i : Int) < j) = false := df hlt
        have hdone := half_done (ops := ops) (i := i) (by rw [Hl.out]; exact h2i) (by rw [Hl.out]; omega)
        rw [hdone] at hrow
        have HO := Lib.hid (opsN_close (base := base) (n := n) (c := c) (by rw [List.length_reverse]; exact Hl.out) Hb.out hg Hnc.out Hcm.out hsz hsep hrow)
        have HB := Lib.hid hB
        clear hdone hrow hg hsz hB hj hsep
        go_wp2_with fail
        go_end0
        exact ⟨rfl, HO.out, Rvs.of_only HB.out⟩

end Go.Proofs.YtiicbcjenhfakaaDoor
namespace Go.Proofs.YtiicbcjenhfakaaDoor
open Go.RowKit

/-- An operation of a row is undone. -/
theorem rowF_undo {w w' : World} {base : Nat} {cs : Array Value} {ops : List Gop} {n i : Nat} {gi : Gop} (hl : ops.length = n) (hi : i < n) (hsz : n * 6 ≤ cs.size) (h : RowF w base (fun p => cs[p]?) (invF ops i)) (hgi : ops[i]? = some gi)
    (hk : ∀ g a1 n1 c1 a2 n2 c2, OpN w base g a1 n1 c1 a2 n2 c2 → OpN w' base g a1 n1 c1 a2 n2 c2) : RowF w' base (fun p => (cs.setIfInBounds (i * 6 + 1) (.int .i64 (opp gi.k)))[p]?) (invF ops (i + 1)) := by
  intro t g hg
  have ht : t < n := by have := (List.getElem?_eq_some_iff.1 hg).1; rw [invF_len, hl] at this; exact this
  rw [invF_get (by omega)] at hg
  by_cases e1 : t = i
  · subst e1
    rw [if_pos (by omega), hgi] at hg
    injection hg with hg
    subst hg
    obtain ⟨x1, x2, x3, x4, x5, x6, y0, y1, y2, y3, y4, y5, y6⟩ := h t gi (by rw [invF_get (by omega), if_neg (by omega)]; exact hgi)
    have ho := hk _ _ _ _ _ _ _ y6
    refine ⟨x1, x2, x3, x4, x5, x6, ?_, ?_, ?_, ?_, ?_, ?_, ⟨ho.i1, ho.i2, ho.ne⟩⟩
    · show (cs.setIfInBounds _ _)[_]? = _; rw [Array.getElem?_setIfInBounds, if_neg (by omega)]; exact y0
    · show (cs.setIfInBounds _ _)[_]? = _; rw [Array.getElem?_setIfInBounds, if_pos rfl, if_pos (by omega)]; rfl
    · show (cs.setIfInBounds _ _)[_]? = _; rw [Array.getElem?_setIfInBounds, if_neg (by omega)]; exact y2
    · show (cs.setIfInBounds _ _)[_]? = _; rw [Array.getElem?_setIfInBounds, if_neg (by omega)]; exact y3
    · show (cs.setIfInBounds _ _)[_]? = _; rw [Array.getElem?_setIfInBounds, if_neg (by omega)]; exact y4
    · show (cs.setIfInBounds _ _)[_]? = _; rw [Array.getElem?_setIfInBounds, if_neg (by omega)]; exact y5
  · have hg' : (invF ops i)[t]? = some g := by
      rw [invF_get (by omega)]
      by_cases e3 : t < i
      · rw [if_pos e3]; rw [if_pos (by omega)] at hg; exact hg
      · rw [if_neg e3]; rw [if_neg (by omega)] at hg; exact hg
    obtain ⟨x1, x2, x3, x4, x5, x6, y0, y1, y2, y3, y4, y5, y6⟩ := h t g hg'
    refine ⟨x1, x2, x3, x4, x5, x6, ?_, ?_, ?_, ?_, ?_, ?_, hk _ _ _ _ _ _ _ y6⟩
    · show (cs.setIfInBounds _ _)[_]? = _; rw [Array.getElem?_setIfInBounds, if_neg (by omega)]; exact y0
    · show (cs.setIfInBounds _ _)[_]? = _; rw [Array.getElem?_setIfInBounds, if_neg (by omega)]; exact y1
    · show (cs.setIfInBounds _ _)[_]? = _; rw [Array.getElem?_setIfInBounds, if_neg (by omega)]; exact y2
    · show (cs.setIfInBounds _ _)[_]? = _; rw [Array.getElem?_setIfInBounds, if_neg (by omega)]; exact y3
    · show (cs.setIfInBounds _ _)[_]? = _; rw [Array.getElem?_setIfInBounds, if_neg (by omega)]; exact y4
    · show (cs.setIfInBounds _ _)[_]? = _; rw [Array.getElem?_setIfInBounds, if_neg (by omega)]; exact y5

theorem sepF_int {cs : Array Value} {m p : Nat} {z : Int} (h : SepF m (fun q => cs[q]?)) : SepF m (fun q => (cs.setIfInBounds p (.int .i64 z))[q]?) := by
  have key : ∀ (q : Nat) (u : Value) (k : Nat), (cs.setIfInBounds p (.int .i64 z))[q]? = some u → u.ownBlock = some k → cs[q]? = some u := by
    intro q u k hu hk
    rw [Array.getElem?_setIfInBounds] at hu
    split at hu
    · split at hu
      · cases hu; simp [Value.ownBlock] at hk
      · cases hu
    · exact hu
  intro i j k u v hi hj eu ev ku kv
  exact h i j k u v hi hj (key i u k eu ku) (key j v k ev kv) ku kv

set_option maxHeartbeats 8000000 in
set_option maxRecDepth 100000 in
theorem Inverse_N (c : Gci) (ao : Option Addr) (n cp : Nat) (w : World) (h : OpsAt w ao n c.ops) (hn : n ≤ cp) (hcp : cp ≤ 9223372036854775807) (hS : Shp w) (hp : (pur c).1 = 0) :
    Calls Tryd.prog 47 #[.agg #[.int .i64 c.qubits, .int .i64 c.bits, .slice ao n cp]] w fun e w' => (∃ (a' : Option Addr) (c' : Nat), e = .returned (.tuple #[.agg #[.int .i64 c.qubits, .int .i64 c.bits, .slice a' n c'], .agg #[.int .i64 0, .int .i64 0]]) ∧ OpsN w' (w.heap.size + 3) (.slice a' n c') (invO c.ops)) ∧ Ext w w' := by
  obtain ⟨hck, hpz⟩ := pur_zero hp
  obtain ⟨hz, hq1, hq2, hb1, hb2, hl4, hop⟩ := chk_zero hck
  have hfit : ∀ g ∈ c.ops, (g.ctl.length ≤ 1000 ∧ g.cnd.length ≤ 1000) ∧ 0 ≤ g.k ∧ g.k ≤ 15 := fun g hg => by
    have f := prFit_of_code hq2 hb1 hb2 (hop g hg)
    exact ⟨⟨Nat.le_trans f.few (by decide), Nat.le_trans f.cfew (by decide)⟩, opk_range (hop g hg)⟩
  have hl : c.ops.length = n := h.1
  rw [hl] at hl4
  obtain ⟨qb, bi, ops⟩ := c
  simp only at hfit hl h ⊢
  obtain ⟨H, hH⟩ : ∃ H, w.heap.size = H := ⟨_, rfl⟩
  obtain ⟨A1, hA1⟩ : ∃ A1, w.alloc (.cells #[.int .i64 qb, .int .i64 bi, .slice ao n cp] 24) = A1 := ⟨_, rfl⟩
  obtain ⟨A2, hA2⟩ : ∃ A2, A1.alloc (.cells #[.int .i64 0, .int .i64 0, .slice none 0 0] 24) = A2 := ⟨_, rfl⟩
  obtain ⟨A3, hA3⟩ : ∃ A3, A2.alloc (.cells #[.int .i64 0, .int .i64 0] 27) = A3 := ⟨_, rfl⟩
  have s1 : A1.heap.size = H + 1 := by rw [← hA1, ← hH]; simp
  have s2 : A2.heap.size = H + 2 := by rw [← hA2]; simp; omega
  have s3 : A3.heap.size = H + 3 := by rw [← hA3]; simp; omega
  have x1 : Ext w A1 := by rw [← hA1]; exact ext_al _ _
  have x2 : Ext A1 A2 := by rw [← hA2]; exact ext_al _ _
  have x3 : Ext A2 A3 := by rw [← hA3]; exact ext_al _ _
  have bC : CiB A3 H qb bi ao n cp := by
    have : CiB A1 H qb bi ao n cp := by rw [← hA1, ← hH]; exact ⟨heap_alloc_new w _⟩
    exact (this.ext x2).ext x3
  have bR : CiB A3 (H + 1) 0 0 none 0 0 := by
    have : CiB A2 (H + 1) 0 0 none 0 0 := by rw [← hA2, ← s1]; exact ⟨heap_alloc_new A1 _⟩
    exact this.ext x3
  have bF : FtB A3 (H + 2) 0 0 := by rw [← hA3, ← s2]; exact ⟨heap_alloc_new A2 _⟩
  have E0 : Ext w A3 := (x1.trans x2).trans x3
  have hA : ((w.alloc (.cells #[.int .i64 qb, .int .i64 bi, .slice ao n cp] 24)).alloc (.cells #[.int .i64 0, .int .i64 0, .slice none 0 0] 24)).alloc (.cells #[.int .i64 0, .int .i64 0] 27) = A3 := by rw [hA1, hA2, hA3]
  have HK := Lib.hid (Pure_any ⟨qb, bi, ops⟩ ao n cp A3 (h.ext E0) hn hcp (hS.ext E0))
  rw [hpz] at HK
  simp only at HK
  have m0 := bC.x0; have m1 := bC.x1; have m2 := bC.x2
  rw [← hA] at m0 m1 m2
  have HA := Lib.hid hA; have HE0 := Lib.hid E0; have HC := Lib.hid bC; have HR := Lib.hid bR; have HFt := Lib.hid bF
  have Hops := Lib.hid (h.ext E0); have Hfit := Lib.hid hfit; have Hl := Lib.hid hl; have Hs3 := Lib.hid s3; have HhH := Lib.hid hH
  clear h hS hpz E0 bC bR bF x1 x2 x3 s1 s2 s3 hA1 hA2 hA3 hA hfit hl hck hz hq1 hq2 hb1 hb2 hop hp
  go_enter Tryd.func47, Tryd.ntmps47
  go_wp2_with fail
  rw [HA.out]
  refine HK.out.mono ?_
  rintro e w1 ⟨rfl, hx1⟩
  have Ef := ext_al w1 (.cells #[.int .i64 0, .int .i64 0] 27)
  have bf1 : FtB (w1.alloc (.cells #[.int .i64 0, .int .i64 0] 27)) w1.heap.size 0 0 := ⟨heap_alloc_new w1 _⟩
  have q0 := bf1.x0; have q1 := bf1.x1
  have hX := hx1.trans Ef
  have bC1 := HC.out.ext hX
  have y0 := bC1.x0; have y1 := bC1.x1; have y2 := bC1.x2
  have HR1 := Lib.hid (HR.out.ext hX); have HF1 := Lib.hid (HFt.out.ext hX); have HE1 := Lib.hid (HE0.out.trans hX); have Hops1 := Lib.hid (Hops.out.ext hX)
  have Hsz1 := Lib.hid (show H + 3 ≤ (w1.alloc (.cells #[.int .i64 0, .int .i64 0] 27)).heap.size by rw [← Hs3.out]; exact hX.size)
  clear hx1 Ef bf1 hX bC1 HK HC HR HFt HE0 Hops m0 m1 m2
  go_wp2_with fail
  generalize w1.alloc (.cells #[.int .i64 0, .int .i64 0] 27) = W1 at *
  refine (with_N qb bi ao n cp ao n cp ops W1 Hops1.out (by omega) (fun g hg => (Hfit.out g hg).1)).mono ?_
  rintro e w2 ⟨⟨av, cv, rfl, hO2⟩, hx2⟩
  obtain ⟨Ob, hOb⟩ : ∃ x, w2.heap.size = x := ⟨_, rfl⟩
  have Eo := ext_al w2 (.cells #[.int .i64 qb, .int .i64 bi, .slice av n cv] 24)
  have bO : CiB (w2.alloc (.cells #[.int .i64 qb, .int .i64 bi, .slice av n cv] 24)) Ob qb bi av n cv := by rw [← hOb]; exact ⟨heap_alloc_new w2 _⟩
  have z2 := bO.x2
  have hlt2 : ∀ k, (Value.slice av n cv).ownBlock = some k → H + 3 ≤ k ∧ k < Ob := by
    obtain ⟨xs, hox⟩ := hO2
    have ho := hox.own
    intro k hk
    have h1 := own_lt ho k hk
    have h2 := Hsz1.out
    omega
  have HOo := Lib.hid (hO2.ext Eo); have HbO := Lib.hid bO; have HR2 := Lib.hid (HR1.out.ext (hx2.trans Eo)); have HF2 := Lib.hid (HF1.out.ext (hx2.trans Eo)); have HE2 := Lib.hid (HE1.out.trans (hx2.trans Eo)); have Hlt2 := Lib.hid hlt2
  have Hb3 := Lib.hid (show H + 3 ≤ W1.heap.size + 3 by have := Hsz1.out; omega)
  clear hO2 hx2 Eo bO hlt2 HR1 HF1 HE1 Hops1 y0 y1 y2 q0 q1
  go_wp2_with fail
  generalize w2.alloc (.cells #[.int .i64 qb, .int .i64 bi, .slice av n cv] 24) = W2 at *
  refine (reverse_N (W1.heap.size + 3) av n cv ops W2 HOo.out (by omega)).mono ?_
  rintro e w3 ⟨rfl, hO3, hrv⟩
  have bO3 := HbO.out.rvs hrv (fun e => by have := (Hlt2.out _ e).2; omega)
  have y2 := bO3.x2
  have HR3 := Lib.hid (HR2.out.rvs hrv (fun e => by have := (Hlt2.out _ e).1; omega)); have HF3 := Lib.hid (HF2.out.rvs hrv (fun e => by have := (Hlt2.out _ e).1; omega)); have HE3 := Lib.hid (hrv.ext HE2.out (fun i e => by have := (Hlt2.out _ e).1; have := HhH.out; omega))
  have HbO3 := Lib.hid bO3; have HO3 := Lib.hid hO3
  clear hrv bO3 hO3 HOo HbO HR2 HF2 HE2 z2
  go_wp2_with fail
  obtain ⟨rops, hrops⟩ : ∃ x, ops.reverse = x := ⟨_, rfl⟩
  have Hrl := Lib.hid (show rops.length = n by rw [← hrops, List.length_reverse]; exact Hl.out)
  have Hrf := Lib.hid (show ∀ g ∈ rops, 0 ≤ g.k ∧ g.k ≤ 15 from fun g hg => (Hfit.out g (by rw [← hrops] at hg; exact List.mem_reverse.1 hg)).2)
  have Hinv := Lib.hid (show invO ops = rops.map undoO by unfold invO; rw [hrops])
  rw [hrops] at HO3
  clear hrops Hfit
  obtain ⟨base, hbase⟩ : ∃ x, W1.heap.size + 3 = x := ⟨_, rfl⟩
  rw [hbase] at HO3 Hb3
  clear hbase
  go_loopg [6, 7, 25] n (fun kk s6 s7 s25 wx => ∃ (i : Nat), s25 = .int .i64 (i : Int) ∧ i ≤ n ∧ n - i = kk ∧ CiB wx (H + 1) 0 0 none 0 0 ∧ FtB wx (H + 2) 0 0 ∧ CiB wx Ob qb bi av n cv ∧ OpsN wx base (.slice av n cv) (invF rops i) ∧ Ext w wx ∧ H + 3 ≤ wx.heap.size ∧ Ob < wx.heap.size)
  case atStart => exact ⟨0, rfl, by omega, by omega, HR3.out, HF3.out, HbO3.out, by rw [invF_zero]; exact HO3.out, HE3.out, by have := HF3.out.lt; omega, HbO3.out.lt⟩
  case round =>
    clear HR3 HF3 HbO3 HO3 HE3 y2
    obtain ⟨i, rfl, hin', hk, bR, bF, bO, hO, hX, hs3, hsO⟩ := hrel
    by_cases hin : i = n
    · have q1 : ¬ (i : Int) < (n : Int) := by omega
      have q1' : decide ((i : Int) < (n : Int)) = false := df q1
      rw [invF_all (by rw [Hrl.out]; omega), ← Hinv.out] at hO
      have y0 := bO.x0; have y1 := bO.x1; have y2 := bO.x2
      have r0 := bR.x0; have r1 := bR.x1; have r2 := bR.x2; have g0 := bR.f 0; have g1 := bR.f 1; have g2 := bR.f 2
      have f0 := bF.x0; have f1 := bF.x1; have k0 := bF.f 0; have k1 := bF.f 1
      have zC := putCF_C bR (show H + 1 ≠ H + 1 + 1 by omega) qb bi av n cv 0 0
      have zF := putCF_F bF (show H + 1 ≠ H + 2 by omega) qb bi av n cv 0 0
      have zO := putCF_opsN hO bR bF (show H + 1 ≠ H + 2 by omega) qb bi av n cv 0 0
      have zE : Ext w (putCF wr (H + 1) (H + 2) qb bi av n cv 0 0) := putCF_ext hX (show w.heap.size ≤ H + 1 by omega) (show w.heap.size ≤ H + 2 by omega) _ _ _ _ _ _ _
      obtain ⟨Wz, hWz⟩ : ∃ Wz, putCF wr (H + 1) (H + 2) qb bi av n cv 0 0 = Wz := ⟨_, rfl⟩
      rw [show H + 1 + 1 = H + 2 from rfl] at zC
      rw [hWz] at zC zF zO zE
      unfold putCF at hWz
      have HWz := Lib.hid hWz; have HzE := Lib.hid zE; have HzO := Lib.hid zO
      have v0 := zC.x0; have v1 := zC.x1; have v2 := zC.x2; have v3 := zF.x0; have v4 := zF.x1
      clear zC zF zO zE hWz bR bF bO hO hX hin hin' hk hs3 hsO
      go_wp2_with fail
      rw [HWz.out]
      have HH := HhH.out
      exact bodyPost_ret (v := .tuple #[.agg #[.int .i64 qb, .int .i64 bi, .slice av n cv], .agg #[.int .i64 0, .int .i64 0]]) (by simp [results, Tryd.results47, go_sem, v0, v1, v2, v3, v4]) rfl ⟨⟨av, cv, rfl, HzO.out.down (by have := Hb3.out; omega)⟩, HzE.out⟩
    · have q1 : (i : Int) < (n : Int) := by omega
      have q1' : decide ((i : Int) < (n : Int)) = true := dt q1
      have p0 : (0 : Int) ≤ (i : Int) := by omega
      obtain ⟨gg, hg⟩ : ∃ g, rops[i]? = some g := ⟨_, List.getElem?_eq_getElem (by rw [Hrl.out]; omega)⟩
      have hkr := Hrf.out gg (List.mem_of_getElem? hg)
      obtain ⟨hl2, g, cur, eav, hbg, hrw, hnc, hcm, hsz, hsep, hrow⟩ := opsN_open hO (by omega)
      subst eav
      obtain ⟨a1, n1, c1, a2, n2, c2, x0, x1, x2, x3, x4, x5, x6⟩ := hrow i gg (by rw [invF_get (by rw [Hrl.out]; omega), if_neg (by omega)]; exact hg)
      have ce : ∀ (k : Nat) (v : Value), cur[k]? = some v → wr.cell? ⟨g, k, none⟩ = some v := fun k v e => by rw [cell_of_row wr g k cur _ (0, 0) hrw]; exact e
      have t0 := ce _ _ x0; have t1 := ce _ _ x1; have t2 := ce _ _ x2; have t3 := ce _ _ x3; have t4 := ce _ _ x4; have t5 := ce _ _ x5
      have gOb : g < Ob := by have := (Hlt2.out g rfl).2; exact this
      have gH : H + 3 ≤ g := (Hlt2.out g rfl).1
      obtain ⟨U, hU⟩ : ∃ U, wr.alloc (.cells #[.int .i64 gg.kind, .int .i64 gg.k, .slice a1 n1 c1, .int .i64 gg.q, .int .i64 gg.bit, .slice a2 n2 c2] 37) = U := ⟨_, rfl⟩
      obtain ⟨Bx, hBx⟩ : ∃ x, wr.heap.size = x := ⟨_, rfl⟩
      have hEU : Ext wr U := by rw [← hU]; exact ext_al _ _
      have bx : OpBx U Bx gg.kind gg.k a1 n1 c1 gg.q gg.bit a2 n2 c2 := by rw [← hU, ← hBx]; exact opbx_new wr _ _ a1 n1 c1 _ _ a2 n2 c2
      have hrwU : U.heap[g]? = some (.cells cur 37 (0, 0)) := (hEU.block g (by have := (Array.getElem?_eq_some_iff.1 hrw).1; exact this)).trans hrw
      have hrowU : RowF U base (fun p => cur[p]?) (invF rops i) := fun t gx hgx => by
        obtain ⟨z1, z2, z3, z4, z5, z6, w0, w1, w2, w3, w4, w5, w6⟩ := hrow t gx hgx
        exact ⟨z1, z2, z3, z4, z5, z6, w0, w1, w2, w3, w4, w5, w6.ext hEU⟩
      have HOp := Lib.hid (fun wx => opposite_any gg.k wx hkr.1 (by omega))
      obtain ⟨ok, hok⟩ : ∃ x, opp gg.k = x := ⟨_, rfl⟩
      rw [hok] at HOp
      have hOs := only1 U.drew g (i * 6 + 1) (.int .i64 ok)
      have hki := only_ints (w := U.drew) (w' := U.drew.setCell ⟨g, i * 6 + 1, none⟩ (.int .i64 ok)) hrwU (by decide) hOs
      have hrz := rowF_undo (w' := U.drew.setCell ⟨g, i * 6 + 1, none⟩ (.int .i64 ok)) Hrl.out (by omega) (by rw [hsz]; omega) hrowU hg (fun _ _ _ _ _ _ _ ho => (ho.ext (cdrew (Ext.refl U))).keep hki)
      rw [hok] at hrz
      have hwz : (U.drew.setCell ⟨g, i * 6 + 1, none⟩ (.int .i64 ok)).heap[g]? = some (.cells (cur.setIfInBounds (i * 6 + 1) (.int .i64 ok)) 37 (0, 0)) := row_put (W := U.drew) hrwU rfl
      have HOz := Lib.hid (opsN_close (base := base) (n := n) (c := cv) (by rw [invF_len]; exact Hrl.out) hbg hwz hnc hcm (by simp [hsz]) (sepF_int hsep) hrz)
      have HRz := Lib.hid (show CiB (U.drew.setCell ⟨g, i * 6 + 1, none⟩ (.int .i64 ok)) (H + 1) 0 0 none 0 0 from ⟨(hOs.block _ (by omega)).trans (bR.ext hEU).drew.row⟩)
      have HFz := Lib.hid (show FtB (U.drew.setCell ⟨g, i * 6 + 1, none⟩ (.int .i64 ok)) (H + 2) 0 0 from ⟨(hOs.block _ (by omega)).trans (bF.ext hEU).drew.row⟩)
      have HBz := Lib.hid (show CiB (U.drew.setCell ⟨g, i * 6 + 1, none⟩ (.int .i64 ok)) Ob qb bi (some ⟨g, 0, none⟩) n cv from ⟨(hOs.block _ (by omega)).trans (bO.ext hEU).drew.row⟩)
      have HXz := Lib.hid (cput (o := i * 6 + 1) (cdrew (hX.trans hEU)) (show w.heap.size ≤ g by omega) (.int .i64 ok))
      have Hsz := Lib.hid (show H + 3 ≤ (U.drew.setCell ⟨g, i * 6 + 1, none⟩ (.int .i64 ok)).heap.size by simp; exact Nat.le_trans hs3 hEU.size)
      have Hso := Lib.hid (show Ob < (U.drew.setCell ⟨g, i * 6 + 1, none⟩ (.int .i64 ok)).heap.size by simp; exact Nat.lt_of_lt_of_le hsO hEU.size)
      have v2 := (bO.ext hEU).x2; have e1 := bx.x1
      have rc1 : U.drew.cell? ⟨g, i * 6 + 1, none⟩ = some (.int .i64 gg.k) := by
        have : U.cell? ⟨g, i * 6 + 1, none⟩ = some (.int .i64 gg.k) := cell_ext t1 hEU
        exact this
      have rf1 : U.drew.frozen? ⟨g, i * 6 + 1, none⟩ = false := frozen_of_row U.drew g _ _ _ hrwU
      have HU := Lib.hid hU
      obtain ⟨kd, kk', ctl, qq, bb, cnd⟩ := gg
      simp only at t0 t1 t3 t4 HOp e1 rc1 HU
      have nOx : Ob ≠ Bx := by omega
      clear hsep hrz hwz hki hOs hrowU hrwU hEU hU bx ce hrow hrw x0 x1 x2 x3 x4 x5 x6 hkr hg hok bR bF bO hO hX hl2 hnc hcm hsz hbg
      go_upto_region 9 with fail
      rw [HU.out]
      clear t0 t1 t2 t3 t4 t5
      refine wp_region_K 8 (fun w' => w'.cell? ⟨Ob, 2, none⟩ = some (.slice (some ⟨g, 0, none⟩) n cv) ∧ w'.cell? ⟨Bx, 1, none⟩ = some (.int .i64 kk')) (by kernel_rfl) ?_
      show anyK _ _ _ _ _ _ 9 #[false, false, false, false, false, false, false, false, false] _ _
      have hHeld : U.drew.cell? ⟨Ob, 2, none⟩ = some (.slice (some ⟨g, 0, none⟩) n cv) ∧ U.drew.cell? ⟨Bx, 1, none⟩ = some (.int .i64 kk') := ⟨v2, e1⟩
      refine anyK_take (i := 0) (v := ?_) rfl (by kernel_rfl) (by kernel_rfl) (by kernel_rfl) (N := 9) (by kernel_rfl) (by kernel_rfl) (by kernel_rfl) (fun _ _ _ h => h) (Or.inl ⟨by rfl, ?_⟩) hHeld ?_
      rotate_left 1
      · intro w hSw
        go_simp
        try with_reducible rfl
      show anyK _ _ _ _ _ _ _ _ (Act.put _ (some 30) _) _
      simp only [Act.put, List.setIfInBounds_toArray, List.set_cons_zero, List.set_cons_succ]
      refine anyK_take (i := 1) (v := ?_) rfl (by kernel_rfl) (by kernel_rfl) (by kernel_rfl) (N := 9) (by kernel_rfl) (by kernel_rfl) (by kernel_rfl) (fun _ _ _ h => h) (Or.inl ⟨by rfl, ?_⟩) hHeld ?_
      rotate_left 1
      · intro w hSw
        go_simp
        try with_reducible rfl
      show anyK _ _ _ _ _ _ _ _ (Act.put _ (some 31) _) _
      simp only [Act.put, List.setIfInBounds_toArray, List.set_cons_zero, List.set_cons_succ]
      refine anyK_take (i := 2) (v := ?_) rfl (by kernel_rfl) (by kernel_rfl) (by kernel_rfl) (N := 9) (by kernel_rfl) (by kernel_rfl) (by kernel_rfl) (fun _ _ _ h => h) (Or.inl ⟨by rfl, ?_⟩) hHeld ?_
      rotate_left 1
      · intro w hSw
        go_simp
        try with_reducible rfl
      show anyK _ _ _ _ _ _ _ _ (Act.put _ (some 32) _) _
      simp only [Act.put, List.setIfInBounds_toArray, List.set_cons_zero, List.set_cons_succ]
      refine anyK_take (i := 3) (v := ?_) rfl (by kernel_rfl) (by kernel_rfl) (by kernel_rfl) (N := 9) (by kernel_rfl) (by kernel_rfl) (by kernel_rfl) (fun _ _ _ h => h) (Or.inl ⟨by rfl, ?_⟩) hHeld ?_
      rotate_left 1
      · intro w hSw
        go_simp
        try with_reducible rfl
      show anyK _ _ _ _ _ _ _ _ (Act.put _ (some 33) _) _
      simp only [Act.put, List.setIfInBounds_toArray, List.set_cons_zero, List.set_cons_succ]
      refine anyK_take (i := 4) (v := ?_) rfl (by kernel_rfl) (by kernel_rfl) (by kernel_rfl) (N := 9) (by kernel_rfl) (by kernel_rfl) (by kernel_rfl) (fun _ _ _ h => h) (Or.inl ⟨by rfl, ?_⟩) hHeld ?_
      rotate_left 1
      · intro w hSw
        go_simp
        try with_reducible rfl
      show anyK _ _ _ _ _ _ _ _ (Act.put _ (some 34) _) _
      simp only [Act.put, List.setIfInBounds_toArray, List.set_cons_zero, List.set_cons_succ]
      clear hHeld
      refine anyK_one (i := 5) (by kernel_rfl) rfl (fun Kk hKk => ?_)
      go_simp
      (go_at_call 54; refine (HOp.out _).mono ?_; rintro e w4 ⟨rfl, rfl⟩)
      go_wp2_with fail
      refine hKk.out _ _ (fun _ => ⟨v2, e1⟩) ?_
      clear hKk Kk
      simp only [List.setIfInBounds_toArray, List.set_cons_zero, List.set_cons_succ]
      have hHeld : U.drew.cell? ⟨Ob, 2, none⟩ = some (.slice (some ⟨g, 0, none⟩) n cv) ∧ U.drew.cell? ⟨Bx, 1, none⟩ = some (.int .i64 kk') := ⟨v2, e1⟩
      refine anyK_take (i := 6) (v := ?_) rfl (by kernel_rfl) (by kernel_rfl) (by kernel_rfl) (N := 9) (by kernel_rfl) (by kernel_rfl) (by kernel_rfl) (fun _ _ _ h => h) (Or.inl ⟨by rfl, ?_⟩) hHeld ?_
      rotate_left 1
      · intro w hSw
        go_simp
        try with_reducible rfl
      show anyK _ _ _ _ _ _ _ _ (Act.put _ (some 36) _) _
      simp only [Act.put, List.setIfInBounds_toArray, List.set_cons_zero, List.set_cons_succ]
      refine anyK_take (i := 7) (v := ?_) rfl (by kernel_rfl) (by kernel_rfl) (by kernel_rfl) (N := 9) (by kernel_rfl) (by kernel_rfl) (by kernel_rfl) (fun _ _ _ h => h) (Or.inl ⟨by rfl, ?_⟩) hHeld ?_
      rotate_left 1
      · intro w hSw
        go_simp
        try with_reducible rfl
      show anyK _ _ _ _ _ _ _ _ (Act.put _ (some 37) _) _
      simp only [Act.put, List.setIfInBounds_toArray, List.set_cons_zero, List.set_cons_succ]
      clear hHeld
      refine anyK_one (i := 8) (by kernel_rfl) rfl (fun Kk hKk => ?_)
      refine stepK_storeN rfl rfl _ _ rfl g (i * 6 + 1) ok (.int .i64 kk') rfl rfl rc1 rf1 ?_
      refine hKk.out _ _ (fun h => Bool.noConfusion (show true = false from h)) ?_
      clear hKk Kk
      simp only [List.setIfInBounds_toArray, List.set_cons_zero, List.set_cons_succ]
      refine anyK_done (by kernel_rfl) ?_ _
      generalize U.drew.setCell ⟨g, i * 6 + 1, none⟩ (.int .i64 ok) = w8 at *
      go_wp2_with fail
      go_roundg (n - (i + 1))
      case measure => omega
      case rel => exact ⟨i + 1, by go_num, by omega, rfl, HRz.out, HFz.out, HBz.out, HOz.out, HXz.out, Hsz.out, Hso.out⟩

end Go.Proofs.YtiicbcjenhfakaaDoor
namespace Go.Proofs.YtiicbcjenhfakaaDoor
open Go.RowKit

/-- Operations, cell by cell, in a list of cells. -/
def RowL (w : World) (xs : List Value) (ops : List Gop) : Prop :=
  ∀ t g, ops[t]? = some g → ∃ (a1 : Option Addr) (n1 c1 : Nat) (a2 : Option Addr) (n2 c2 : Nat),
    xs[t * 6]? = some (.int .i64 g.kind) ∧ xs[t * 6 + 1]? = some (.int .i64 g.k) ∧ xs[t * 6 + 2]? = some (.slice a1 n1 c1) ∧ xs[t * 6 + 3]? = some (.int .i64 g.q) ∧ xs[t * 6 + 4]? = some (.int .i64 g.bit) ∧ xs[t * 6 + 5]? = some (.slice a2 n2 c2) ∧ OpO w g a1 n1 c1 a2 n2 c2
section
variable {w w' : World} {xs ys : List Value} {A B : List Gop}
theorem RowL.map (h : RowL w xs A) (hk : ∀ g a1 n1 c1 a2 n2 c2, OpO w g a1 n1 c1 a2 n2 c2 → OpO w' g a1 n1 c1 a2 n2 c2) : RowL w' xs A := fun t g hg => by
  obtain ⟨a1, n1, c1, a2, n2, c2, e0, e1, e2, e3, e4, e5, e6⟩ := h t g hg
  exact ⟨a1, n1, c1, a2, n2, c2, e0, e1, e2, e3, e4, e5, hk _ _ _ _ _ _ _ e6⟩
theorem RowL.append (h : RowL w xs A) (k : RowL w ys B) (hx : xs.length = A.length * 6) : RowL w (xs ++ ys) (A ++ B) := fun t g hg => by
  by_cases ht : t < A.length
  · rw [List.getElem?_append_left ht] at hg
    obtain ⟨a1, n1, c1, a2, n2, c2, e0, e1, e2, e3, e4, e5, e6⟩ := h t g hg
    have hr : ∀ j, j < 6 → (xs ++ ys)[t * 6 + j]? = xs[t * 6 + j]? := fun j hj => List.getElem?_append_left (by omega)
    exact ⟨a1, n1, c1, a2, n2, c2, (hr 0 (by omega)).trans e0, (hr 1 (by omega)).trans e1, (hr 2 (by omega)).trans e2, (hr 3 (by omega)).trans e3, (hr 4 (by omega)).trans e4, (hr 5 (by omega)).trans e5, e6⟩
  · rw [List.getElem?_append_right (by omega)] at hg
    obtain ⟨a1, n1, c1, a2, n2, c2, e0, e1, e2, e3, e4, e5, e6⟩ := k _ g hg
    have hr : ∀ j, (xs ++ ys)[t * 6 + j]? = ys[(t - A.length) * 6 + j]? := fun j => by
      rw [List.getElem?_append_right (by omega), hx]
      congr 1
      have h1 : (t - A.length) * 6 + A.length * 6 = t * 6 := by rw [← Nat.add_mul]; congr 1; omega
      omega
    exact ⟨a1, n1, c1, a2, n2, c2, (hr 0).trans e0, (hr 1).trans e1, (hr 2).trans e2, (hr 3).trans e3, (hr 4).trans e4, (hr 5).trans e5, e6⟩
theorem RowL.one {g : Gop} {a1 : Option Addr} {n1 c1 : Nat} {a2 : Option Addr} {n2 c2 : Nat} (h : OpO w g a1 n1 c1 a2 n2 c2) : RowL w [.int .i64 g.kind, .int .i64 g.k, .slice a1 n1 c1, .int .i64 g.q, .int .i64 g.bit, .slice a2 n2 c2] [g] := fun t x hx => by
  have ht : t = 0 := by have := (List.getElem?_eq_some_iff.1 hx).1; simpa using this
  subst ht
  have : g = x := by simpa using hx
  subst this
  exact ⟨a1, n1, c1, a2, n2, c2, rfl, rfl, rfl, rfl, rfl, rfl, h⟩
theorem RowL.nil : RowL w [] [] := fun t g h => by simp at h
end
theorem OpsO.rows {w : World} {base : Nat} {v : Value} {ops : List Gop} (h : OpsO w base v ops) : ∃ xs, w.ownsRow base 37 6 v ops.length xs ∧ RowL w xs ops := h
/-- The cells that a slice of operations has, to be appended. -/
theorem OpsO.src {w : World} {base n c : Nat} {a : Option Addr} {ops : List Gop} (h : OpsO w base (.slice a n c) ops) : ops.length = n ∧ (a = none → n = 0 ∧ c = 0) ∧ ∃ ys : List Value, ys.length = n * 6 ∧ (∀ ad, a = some ad → ∀ j u, ys[j]? = some u → w.cell? (ad.add j) = some u) ∧ (∀ u ∈ ys, u.oneCell' = true) ∧ RowL w ys ops := by
  have h0 := h
  obtain ⟨a', c', e, _, _, hat⟩ := h0.at
  injection e with e1 e2 e3
  subst e1; subst e2; subst e3
  obtain ⟨xs, h1, h2⟩ := h
  refine ⟨rfl, ?_, ?_⟩
  · rintro rfl
    rcases h1.2 with ⟨e, _⟩ | ⟨g, cap, cur, e, _⟩
    · injection e with _ e2 e3
      exact ⟨e2, e3⟩
    · injection e with e1 _ _
      cases e1
  · obtain ⟨ys, k1, k2, k3, k4⟩ := srcCells hat
    refine ⟨ys, k1, k2, k3, fun t g hg => ?_⟩
    obtain ⟨a1, n1, c1, a2, n2, c2, e0, e1, e2, e3, e4, e5, _⟩ := k4 t g hg
    obtain ⟨b1, m1, d1, b2, m2, d2, f0, f1, f2, f3, f4, f5, f6⟩ := h2 t g hg
    have hlt := (List.getElem?_eq_some_iff.1 hg).1
    -- the same cells
    have hsame : ∀ j, j < ops.length * 6 → xs[j]? = ys[j]? := by
      intro j hj
      rcases h1.2 with ⟨_, e⟩ | ⟨g', cap, cur, e, hb, hg', hn, hcm, _, htk⟩
      · omega
      · injection e with e1 _ _
        subst e1
        have hy : j < ys.length := by rw [k1]; exact hj
        have := k2 _ rfl j ys[j] (List.getElem?_eq_getElem hy)
        rw [Addr.add_lit, cell_of_row w g' (0 + j) cur _ (0, 0) hg', Nat.zero_add] at this
        rw [List.getElem?_eq_getElem hy, ← this, ← Array.getElem?_toList, ← htk, List.getElem?_take, if_pos hj]
    have h2' := hsame (t * 6 + 2) (by omega)
    have h5' := hsame (t * 6 + 5) (by omega)
    rw [f2, e2] at h2'
    rw [f5, e5] at h5'
    injection h2' with h2'; injection h2' with p1 p2 p3
    injection h5' with h5'; injection h5' with q1 q2 q3
    subst p1; subst p2; subst p3; subst q1; subst q2; subst q3
    exact ⟨_, _, _, _, _, _, e0, e1, e2, e3, e4, e5, f6⟩

/-- What changes while a builder works: its own block, and the row that it appends to. -/
structure Mv (Bd : Nat) (v v' : Value) (w w' : World) : Prop where
  size : w.heap.size ≤ w'.heap.size
  block : ∀ k, k < w.heap.size → k ≠ Bd → v.ownBlock ≠ some k → w'.heap[k]? = w.heap[k]?
  own : ∀ k, v'.ownBlock = some k → v.ownBlock = some k ∨ w.heap.size ≤ k
theorem Mv.of_ext {Bd : Nat} {v : Value} {w w' : World} (h : Ext w w') : Mv Bd v v w w' := ⟨h.size, fun k hk _ _ => h.block k hk, fun _ e => Or.inl e⟩
theorem Mv.trans {Bd : Nat} {v v' v'' : Value} {w w' w'' : World} (h : Mv Bd v v' w w') (k : Mv Bd v' v'' w' w'') : Mv Bd v v'' w w'' :=
  ⟨Nat.le_trans h.size k.size, fun b hb h1 h2 => (k.block b (Nat.lt_of_lt_of_le hb h.size) h1 (fun e => by
    rcases h.own b e with e | e
    · exact h2 e
    · omega)).trans (h.block b hb h1 h2), fun b e => by
    rcases k.own b e with e | e
    · exact h.own b e
    · exact Or.inr (Nat.le_trans h.size e)⟩

/-- A builder: block Bd, its spare qubit, its operations. -/
structure BdA (w0 w : World) (Bd : Nat) (sp : Int) (v : Value) (ops : List Gop) : Prop where
  ext : Ext w0 w
  hB : w0.heap.size ≤ Bd
  row : w.heap[Bd]? = some (.cells #[.int .i64 sp, v] 43 (0, 0))
  ops : OpsO w w0.heap.size v ops
section
variable {w0 w w' : World} {Bd : Nat} {sp : Int} {v v' : Value} {ops : List Gop}
theorem BdA.lt (h : BdA w0 w Bd sp v ops) : Bd < w.heap.size := (Array.getElem?_eq_some_iff.1 h.row).1
theorem BdA.x0 (h : BdA w0 w Bd sp v ops) : w.cell? ⟨Bd, 0, none⟩ = some (.int .i64 sp) := by rw [cell_of_row w Bd 0 _ _ (0, 0) h.row]; rfl
theorem BdA.x1 (h : BdA w0 w Bd sp v ops) : w.cell? ⟨Bd, 1, none⟩ = some v := by rw [cell_of_row w Bd 1 _ _ (0, 0) h.row]; rfl
theorem BdA.f (h : BdA w0 w Bd sp v ops) (o : Nat) : w.frozen? ⟨Bd, o, none⟩ = false := frozen_of_row w Bd o _ _ h.row
theorem BdA.ext' (h : BdA w0 w Bd sp v ops) (k : Ext w w') : BdA w0 w' Bd sp v ops := ⟨h.ext.trans k, h.hB, (k.block _ h.lt).trans h.row, h.ops.ext k⟩
theorem BdA.kind (h : BdA w0 w Bd sp v ops) : ∀ k, v.ownBlock = some k → w0.heap.size ≤ k ∧ ∃ cs fr, w.heap[k]? = some (.cells cs 37 fr) := by
  obtain ⟨xs, h1, _⟩ := h.ops
  exact PtKind h1
theorem BdA.sl (h : BdA w0 w Bd sp v ops) : ∃ a c, v = .slice a ops.length c := by
  obtain ⟨a, c, e, _⟩ := h.ops.at
  exact ⟨a, c, e⟩
/-- Blocks of ints stay. -/
theorem BdA.ints (h : BdA w0 w Bd sp v ops) (m : Mv Bd v v' w w') : ∀ (b : Nat) (cur : Array Value) (fr : Nat × Nat), w.heap[b]? = some (.cells cur 3 fr) → w'.heap[b]? = w.heap[b]? := by
  intro b cur fr hb
  refine m.block b (Array.getElem?_eq_some_iff.1 hb).1 ?_ ?_
  · rintro rfl
    rw [h.row] at hb
    injection hb with hb
    injection hb with _ hb _
    exact absurd hb (by decide)
  · intro e
    obtain ⟨_, cs, fr', hr⟩ := h.kind b e
    rw [hb] at hr
    injection hr with hr
    injection hr with _ hr _
    exact absurd hr (by decide)
/-- Operations that lie elsewhere stay. -/
theorem OpsO.mv {base : Nat} {z : Value} {gs : List Gop} (h : OpsO w base z gs) (b : BdA w0 w Bd sp v ops) (m : Mv Bd v v' w w') (hne : ∀ k, z.ownBlock = some k → v.ownBlock ≠ some k) : OpsO w' base z gs := by
  have hk := b.ints m
  obtain ⟨xs, h1, h2⟩ := h
  refine ⟨xs, ?_, fun t g hg => ?_⟩
  · have hz := PtKind h1
    refine ⟨h1.1, ?_⟩
    rcases h1.2 with h1 | ⟨g, cap, cur, hv, hb, hg, rest⟩
    · exact Or.inl h1
    · refine Or.inr ⟨g, cap, cur, hv, hb, ?_, rest⟩
      refine (m.block g (Array.getElem?_eq_some_iff.1 hg).1 ?_ (hne g (by rw [hv]; rfl))).trans hg
      rintro rfl
      rw [b.row] at hg
      injection hg with hg
      injection hg with _ hg _
      exact absurd hg (by decide)
  · obtain ⟨a1, n1, c1, a2, n2, c2, e0, e1, e2, e3, e4, e5, e6⟩ := h2 t g hg
    exact ⟨a1, n1, c1, a2, n2, c2, e0, e1, e2, e3, e4, e5, e6.keep m.size hk⟩
end
theorem infoOp : ∃ i0, Tryd.prog.info? 37 = some i0 ∧ i0.zero = some (.agg #[.int .i64 0, .int .i64 0, .slice none 0 0, .int .i64 0, .int .i64 0, .slice none 0 0]) ∧ i0.size = 6 ∧ i0.bytes = 80 := by
  obtain ⟨i0, hi, hz0, hz1, hz2⟩ := info_parts op_info
  exact ⟨i0, hi, hz0, hz1, hz2⟩

set_option maxRecDepth 100000 in
/-- Operations are appended. -/
theorem bd_append {w0 w : World} {Bd : Nat} {sp : Int} {v : Value} {ops : List Gop} (h : BdA w0 w Bd sp v ops) (ty : TypeId) {a : Option Addr} {n c : Nat} {gs : List Gop} (hgl : gs.length = n) (hnone : a = none → n = 0 ∧ c = 0) (ys : List Value) (k1 : ys.length = n * 6) (k2 : ∀ ad, a = some ad → ∀ j u, ys[j]? = some u → w.cell? (ad.add j) = some u) (k3 : ∀ u ∈ ys, u.oneCell' = true) (k4 : RowL w ys gs) (hm : ops.length + n ≤ 1000000) :
    ∃ a' c' w1, (Builtin.append_ #[22, 22] ty #[v, .slice a n c]).run Tryd.prog w = .ok (.slice a' (ops.length + n) c') w1 ∧ w1.heap[Bd]? = w.heap[Bd]? ∧ Mv Bd v (.slice a' (ops.length + n) c') w w1 ∧
      BdA w0 (w1.setCell ⟨Bd, 1, none⟩ (.slice a' (ops.length + n) c')) Bd sp (.slice a' (ops.length + n) c') (ops ++ gs) ∧ Mv Bd v (.slice a' (ops.length + n) c') w (w1.setCell ⟨Bd, 1, none⟩ (.slice a' (ops.length + n) c')) := by
  obtain ⟨i0, hi, hz0, hz1, hz2⟩ := infoOp
  obtain ⟨xs, h1, h2⟩ := h.ops
  have hkd := h.kind
  have key : ∃ v' w1, (Builtin.append_ #[22, 22] ty #[v, .slice a n c]).run Tryd.prog w = .ok v' w1 ∧ w1.ownsRow w0.heap.size 37 6 v' (ops.length + n) (xs ++ ys) ∧ w.grownBy w1 v.ownBlock ∧ (v'.ownBlock = v.ownBlock ∨ v'.ownBlock = some w.heap.size) := by
    cases a with
    | none =>
      obtain ⟨rfl, rfl⟩ := hnone rfl
      have hy : ys = [] := List.length_eq_zero_iff.1 (by rw [k1])
      subst hy
      exact ⟨v, w, run_append_owned_none w w0.heap.size _ ty 37 i0 6 Tryd.underlying22 hi v ops.length xs h1, by rw [Nat.add_zero, List.append_nil]; exact h1, ⟨rfl, rfl, rfl, Nat.le_refl _, fun _ _ _ => rfl⟩, Or.inl rfl⟩
    | some ad =>
      obtain ⟨v', w1, e1, e2, e3, _, e5⟩ := run_append_own_at (P := Tryd.prog) w w0.heap.size 22 ty 37 i0 _ 6 80 Tryd.underlying22 hi hz0 hz1 hz2 rfl (by decide) v ops.length xs h1 ad n c ys k1 (k2 ad rfl) k3 (by unfold maxLen; omega) (by omega) h.ext.size
      exact ⟨v', w1, e1, e2, e3, e5⟩
  obtain ⟨v', w1, e1, e2, e3, e4⟩ := key
  obtain ⟨a', c', hv'⟩ : ∃ a' c', v' = .slice a' (ops.length + n) c' := by
    rcases e2.2 with ⟨rfl, h0⟩ | ⟨g, cap, cur, rfl, _⟩
    · exact ⟨none, 0, by rw [h0]⟩
    · exact ⟨_, _, rfl⟩
  subst hv'
  have hbk : w1.heap[Bd]? = w.heap[Bd]? := e3.block Bd h.lt (fun e => by
    obtain ⟨_, cs, fr, hr⟩ := hkd Bd e.symm
    rw [h.row] at hr
    injection hr with hr
    injection hr with _ hr _
    exact absurd hr (by decide))
  have m1 : Mv Bd v (.slice a' (ops.length + n) c') w w1 := ⟨e3.size, fun k hk _ h2 => e3.block k hk (fun e => h2 e.symm), fun k hk => by
    rcases e4 with e | e
    · exact Or.inl (by rw [← e]; exact hk)
    · rw [e] at hk
      injection hk with hk
      exact Or.inr (by omega)⟩
  have hO := only1 w1 Bd 1 (.slice a' (ops.length + n) c')
  have m2 : Mv Bd v (.slice a' (ops.length + n) c') w (w1.setCell ⟨Bd, 1, none⟩ (.slice a' (ops.length + n) c')) := ⟨by rw [hO.size]; exact m1.size, fun k hk h1 h2 => (hO.block k h1).trans (m1.block k hk h1 h2), m1.own⟩
  have hrow1 : w1.heap[Bd]? = some (.cells #[.int .i64 sp, v] 43 (0, 0)) := hbk.trans h.row
  have hint := h.ints m2
  refine ⟨a', c', w1, e1, hbk, m1, ⟨?_, h.hB, ?_, ?_⟩, m2⟩
  · have hx1 : Ext w0 w1 := grown_ext h.ext e3 (fun k hk => (hkd k hk).1)
    exact ext_only hx1 hO h.hB
  · have := heap_setCell_same w1 Bd 1 _ _ (.slice a' (ops.length + n) c') hrow1
    exact this
  · have hrl : RowL (w1.setCell ⟨Bd, 1, none⟩ (.slice a' (ops.length + n) c')) (xs ++ ys) (ops ++ gs) := by
      refine RowL.append (RowL.map h2 ?_) (RowL.map k4 ?_) (by have := h1.1; simpa using this)
      · intro g a1 n1 c1 a2 n2 c2 ho; exact ho.keep m2.size hint
      · intro g a1 n1 c1 a2 n2 c2 ho; exact ho.keep m2.size hint
    have hl : (ops ++ gs).length = ops.length + n := by rw [List.length_append, hgl]
    refine ⟨xs ++ ys, ?_, hrl⟩
    rw [hl]
    refine own_keep e2 (fun g cur hg hgc => hO.block g ?_)
    rintro rfl
    rw [hrow1] at hgc
    injection hgc with hgc
    injection hgc with _ hgc _
    exact absurd hgc (by decide)
end Go.Proofs.YtiicbcjenhfakaaDoor
namespace Go.Proofs.YtiicbcjenhfakaaDoor
open Go.RowKit

theorem opO_plain (w : World) {g : Gop} (h1 : g.ctl = []) (h2 : g.cnd = []) : OpO w g none 0 0 none 0 0 :=
  ⟨⟨⟨by rw [h1]; rfl, Or.inl rfl⟩, Nat.le_refl _, by decide, ⟨by rw [h2]; rfl, Or.inl rfl⟩, Nat.le_refl _, by decide⟩, (fun _ e => by cases e), (fun _ e => by cases e)⟩
abbrev Gx := Gop × (Option Addr × Nat × Nat) × (Option Addr × Nat × Nat)
def gv (x : Gx) : List Value := [.int .i64 x.1.kind, .int .i64 x.1.k, .slice x.2.1.1 x.2.1.2.1 x.2.1.2.2, .int .i64 x.1.q, .int .i64 x.1.bit, .slice x.2.2.1 x.2.2.2.1 x.2.2.2.2]
def GxO (w : World) (x : Gx) : Prop := OpO w x.1 x.2.1.1 x.2.1.2.1 x.2.1.2.2 x.2.2.1 x.2.2.2.1 x.2.2.2.2
theorem rowL_lit {w : World} : ∀ (L : List Gx), (∀ x ∈ L, GxO w x) → RowL w (L.flatMap gv) (L.map (·.1))
  | [], _ => RowL.nil
  | x :: r, h => by
    rw [List.flatMap_cons, List.map_cons]
    exact RowL.append (A := [x.1]) (RowL.one (h x (by simp))) (rowL_lit r (fun y hy => h y (by simp [hy]))) rfl
theorem gv_len : ∀ (L : List Gx), (L.flatMap gv).length = L.length * 6
  | [] => rfl
  | x :: r => by
    rw [List.flatMap_cons, List.length_append, gv_len r, List.length_cons]
    show 6 + r.length * 6 = _
    omega
theorem opsO_lit {w : World} {b base n : Nat} (L : List Gx) (hn : L.length = n) (h : w.heap[b]? = some (.cells (L.flatMap gv).toArray 37 (0, 0))) (hb : base ≤ b) (hm : n ≤ 1000) (hok : ∀ x ∈ L, GxO w x) : OpsO w base (.slice (some ⟨b, 0, none⟩) n n) (L.map (·.1)) := by
  refine ⟨L.flatMap gv, ?_, rowL_lit L hok⟩
  have hl : (L.map (·.1)).length = n := by rw [List.length_map, hn]
  rw [hl]
  refine ⟨by rw [gv_len, hn], Or.inr ⟨b, n, _, rfl, hb, h, Nat.le_refl _, by unfold maxLen; omega, ?_, ?_⟩⟩
  · simp only [List.size_toArray]
    rw [gv_len, hn]
  · simp only []
    exact List.take_of_length_le (by rw [gv_len, hn]; exact Nat.le_refl _)

theorem flip_any (q c : Int) (w : World) : Calls Tryd.prog 48 #[.int .i64 q, .int .i64 c] w fun e w' => ∃ b, e = .returned (.agg #[.int .i64 2, .int .i64 0, .slice (some ⟨b, 0, none⟩) 1 1, .int .i64 q, .int .i64 0, .slice none 0 0]) ∧ OpO w' (lFlip q c) (some ⟨b, 0, none⟩) 1 1 none 0 0 ∧ Ext w w' := by
  obtain ⟨H, hH⟩ : ∃ H, w.heap.size = H := ⟨_, rfl⟩
  have HH := Lib.hid hH
  obtain ⟨U, hU⟩ : ∃ U, w.alloc (.cells #[.int .i64 0, .int .i64 0, .slice none 0 0, .int .i64 0, .int .i64 0, .slice none 0 0] 37) = U := ⟨_, rfl⟩
  have HU := Lib.hid hU
  have HE := Lib.hid (show Ext w U by rw [← hU]; exact ext_al w _)
  have HB := Lib.hid (show OpBx U H 0 0 none 0 0 0 0 none 0 0 by rw [← hU, ← hH]; exact opbx_new w 0 0 none 0 0 0 0 none 0 0)
  have hs : U.heap.size = H + 1 := by rw [← hU, World.size_alloc, hH]
  have HS := Lib.hid hs
  have EV := ext_al U (.cells #[.int .i64 c] 3)
  have hrow := heap_alloc_new U (.cells #[.int .i64 c] 3)
  have bx := HB.out.ext EV
  have x0 := bx.x0; have x1 := bx.x1; have x2 := bx.x2; have x3 := bx.x3; have x4 := bx.x4; have x5 := bx.x5
  have f0 := bx.f 0; have f1 := bx.f 1; have f2 := bx.f 2; have f3 := bx.f 3; have f4 := bx.f 4; have f5 := bx.f 5
  have HV := Lib.hid EV; have Hrow := Lib.hid hrow; have HwH := Lib.hid (show w.heap.size ≤ H by omega)
  have hne : H ≠ U.heap.size := by omega
  have hne' : U.heap.size ≠ H := by omega
  clear hH hU hs EV hrow bx
  go_enter Tryd.func48, Tryd.ntmps48
  go_upto_region 1 with fail
  rw [HU.out, HH.out]
  go_wp2_with fail
  refine bodyPost_ret (v := .agg #[.int .i64 2, .int .i64 0, .slice (some ⟨U.heap.size, 0, none⟩) 1 1, .int .i64 q, .int .i64 0, .slice none 0 0]) (by simp [results, Tryd.results48, go_sem, x0, x1, x2, x3, x4, x5]) rfl ⟨U.heap.size, rfl, ?_, ?_⟩
  · have hr9 : ∀ {W : World}, Only H (U.alloc (.cells #[.int .i64 c] 3)) W → OpO W (lFlip q c) (some ⟨U.heap.size, 0, none⟩) 1 1 none 0 0 := by
      intro W hO
      have hr := (hO.block U.heap.size hne').trans Hrow.out
      refine ⟨⟨⟨rfl, Or.inr ⟨U.heap.size, 0, rfl, (Array.getElem?_eq_some_iff.1 hr).1, fun t ht => ?_⟩⟩, Nat.le_refl _, by decide, ⟨rfl, Or.inl rfl⟩, Nat.le_refl _, by decide⟩, fun ad e => ?_, fun _ e => by cases e⟩
      · have : t = 0 := by omega
        subst this
        rw [cell_of_row W _ (0 + 0) _ _ (0, 0) hr]
        rfl
      · cases e
        exact ⟨_, _, hr⟩
    exact hr9 ((((((((Only.refl _ _).setCell _ _).setCell _ _).setCell _ _).setCell _ _).setCell _ _).setCell _ _))
  · exact ext_only (HE.out.trans HV.out) ((((((((Only.refl _ _).setCell _ _).setCell _ _).setCell _ _).setCell _ _).setCell _ _).setCell _ _)) HwH.out

theorem turn2_any (q : Int) (w : World) : Calls Tryd.prog 40 #[.int .i64 q, .int .i64 2] w fun e w' => e = .returned (.agg #[.int .i64 4, .int .i64 2, .slice none 0 0, .int .i64 q, .int .i64 0, .slice none 0 0]) ∧ Ext w w' := turn_any q 2 w (by decide)
theorem turn4_any (q : Int) (w : World) : Calls Tryd.prog 40 #[.int .i64 q, .int .i64 4] w fun e w' => e = .returned (.agg #[.int .i64 4, .int .i64 4, .slice none 0 0, .int .i64 q, .int .i64 0, .slice none 0 0]) ∧ Ext w w' := turn_any q 4 w (by decide)
theorem turn14_any (q : Int) (w : World) : Calls Tryd.prog 40 #[.int .i64 q, .int .i64 14] w fun e w' => e = .returned (.agg #[.int .i64 4, .int .i64 14, .slice none 0 0, .int .i64 q, .int .i64 0, .slice none 0 0]) ∧ Ext w w' := turn_any q 14 w (by decide)

set_option maxRecDepth 100000 in
set_option maxHeartbeats 2000000 in
theorem join_any (p q s : Int) (w : World) : Calls Tryd.prog 41 #[.int .i64 p, .int .i64 q, .int .i64 s] w fun e w' => ∃ b, e = .returned (.slice (some ⟨b, 0, none⟩) 9 9) ∧ OpsO w' w.heap.size (.slice (some ⟨b, 0, none⟩) 9 9) (lJoin p q s) ∧ w.heap.size ≤ b ∧ Ext w w' := by
  go_enter Tryd.func41, Tryd.ntmps41
  go_wp2_with fail
  refine (fork_any s w).mono ?_
  rintro e w1 ⟨rfl, hx1⟩
  have HE1 := Lib.hid (show Ext w w1 from hx1)
  clear hx1
  go_wp2_with fail
  refine (turn2_any s w1).mono ?_
  rintro e w2 ⟨rfl, hx2⟩
  have HE2 := Lib.hid (show Ext w w2 from HE1.out.trans hx2)
  clear hx2
  go_wp2_with fail
  refine (flip_any s q w2).mono ?_
  rintro e w3 ⟨b3, rfl, hO3, hx3⟩
  have HE3 := Lib.hid (show Ext w w3 from HE2.out.trans hx3)
  have H3 := Lib.hid hO3
  clear hO3
  clear hx3
  go_wp2_with fail
  refine (turn14_any s w3).mono ?_
  rintro e w4 ⟨rfl, hx4⟩
  have HE4 := Lib.hid (show Ext w w4 from HE3.out.trans hx4)
  replace H3 := Lib.hid (H3.out.ext hx4)
  clear hx4
  go_wp2_with fail
  refine (flip_any s p w4).mono ?_
  rintro e w5 ⟨b5, rfl, hO5, hx5⟩
  have HE5 := Lib.hid (show Ext w w5 from HE4.out.trans hx5)
  replace H3 := Lib.hid (H3.out.ext hx5)
  have H5 := Lib.hid hO5
  clear hO5
  clear hx5
  go_wp2_with fail
  refine (turn2_any s w5).mono ?_
  rintro e w6 ⟨rfl, hx6⟩
  have HE6 := Lib.hid (show Ext w w6 from HE5.out.trans hx6)
  replace H3 := Lib.hid (H3.out.ext hx6)
  replace H5 := Lib.hid (H5.out.ext hx6)
  clear hx6
  go_wp2_with fail
  refine (flip_any s q w6).mono ?_
  rintro e w7 ⟨b7, rfl, hO7, hx7⟩
  have HE7 := Lib.hid (show Ext w w7 from HE6.out.trans hx7)
  replace H3 := Lib.hid (H3.out.ext hx7)
  replace H5 := Lib.hid (H5.out.ext hx7)
  have H7 := Lib.hid hO7
  clear hO7
  clear hx7
  go_wp2_with fail
  refine (turn14_any s w7).mono ?_
  rintro e w8 ⟨rfl, hx8⟩
  have HE8 := Lib.hid (show Ext w w8 from HE7.out.trans hx8)
  replace H3 := Lib.hid (H3.out.ext hx8)
  replace H5 := Lib.hid (H5.out.ext hx8)
  replace H7 := Lib.hid (H7.out.ext hx8)
  clear hx8
  go_wp2_with fail
  refine (fork_any s w8).mono ?_
  rintro e w9 ⟨rfl, hx9⟩
  have HE9 := Lib.hid (show Ext w w9 from HE8.out.trans hx9)
  replace H3 := Lib.hid (H3.out.ext hx9)
  replace H5 := Lib.hid (H5.out.ext hx9)
  replace H7 := Lib.hid (H7.out.ext hx9)
  clear hx9
  obtain ⟨L, hL⟩ : ∃ L : List Gx, [(lFork s, (none, 0, 0), (none, 0, 0)), (lTurn s 2 [], (none, 0, 0), (none, 0, 0)), (lFlip s q, (some ⟨b3, 0, none⟩, 1, 1), (none, 0, 0)), (lTurn s 14 [], (none, 0, 0), (none, 0, 0)), (lFlip s p, (some ⟨b5, 0, none⟩, 1, 1), (none, 0, 0)), (lTurn s 2 [], (none, 0, 0), (none, 0, 0)), (lFlip s q, (some ⟨b7, 0, none⟩, 1, 1), (none, 0, 0)), (lTurn s 14 [], (none, 0, 0), (none, 0, 0)), (lFork s, (none, 0, 0), (none, 0, 0))] = L := ⟨_, rfl⟩
  have EA := ext_al w9 (.cells (L.flatMap gv).toArray 37)
  have hn := heap_alloc_new w9 (.cells (L.flatMap gv).toArray 37)
  have hok : ∀ x ∈ L, GxO (w9.alloc (.cells (L.flatMap gv).toArray 37)) x := by
    intro x hx
    rw [← hL] at hx
    simp only [List.mem_cons, List.not_mem_nil, or_false] at hx
    rcases hx with rfl | rfl | rfl | rfl | rfl | rfl | rfl | rfl | rfl
    · exact opO_plain _ rfl rfl
    · exact opO_plain _ rfl rfl
    · exact H3.out.ext EA
    · exact opO_plain _ rfl rfl
    · exact H5.out.ext EA
    · exact opO_plain _ rfl rfl
    · exact H7.out.ext EA
    · exact opO_plain _ rfl rfl
    · exact opO_plain _ rfl rfl
  have HO := Lib.hid (opsO_lit (base := w.heap.size) L (n := 9) (by rw [← hL]; rfl) hn HE9.out.size (by decide) hok)
  have HEE := Lib.hid (HE9.out.trans EA)
  have Hsz := Lib.hid HE9.out.size
  have Hmap := Lib.hid (show L.map (·.1) = lJoin p q s by rw [← hL]; rfl)
  subst hL
  clear EA hn hok
  go_wp2_with fail
  go_ret
  refine ⟨_, rfl, ?_, Hsz.out, HEE.out⟩
  have := HO.out
  rw [Hmap.out] at this
  exact this
end Go.Proofs.YtiicbcjenhfakaaDoor
