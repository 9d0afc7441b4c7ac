/-
  The reference: a shot in memory: its state in one block, its bits in another. The reference: Play, as Pl has it; and where there is a fault, no bits and nothing used. Written out of Pl by program. Basic gates: the small functions of both sides. Basic gates: how many spare qubits an operation wants; how many operations have controls; the most that one wants: the program's, and the reference's fault. Basic gates: how many operations have controls; the most spare qubits that one wants. Basic gates: the reference: how many spare qubits an operation wants; Base's fault.
-/
import Derived.Test.YthgmlhddanbbpaaDoorProg
import Derived.Test.YthgmlhddanbbpaaDoorRows
import Derived.BigQuiet
import Derived.Deep.AppendLies
import Derived.Deep.Cut
import Derived.Deep.CutRange
import Derived.Deep.LoopGhost
import Derived.Deep.MidRow
import Derived.Deep.QuietTactic
import Derived.Deep.RegionHeld3
import Derived.Defers
import Derived.Ground.Names2Prog
import Derived.Laws.Bits64b
import Derived.Laws.Concat
import Derived.Laws.CopyOwn
import Derived.Laws.IdiomCopy
import Derived.Laws.IdiomStrings
import Derived.Laws.ResultCell
import Derived.Laws.Rows
import Derived.Lib.AppendIntMem
import Derived.Lib.AppendStr
import Derived.Lib.BitFns
import Derived.Lib.Hide
import Derived.Lib.ItoaMem
import Derived.Lib.ItoaNum
import Derived.Lib.Strings
import Derived.Lib.TrailingZeros
import Derived.LoopIn
import Derived.LoopNIn
import Derived.Maps.AppendAt
import Derived.OrdersHeld
import Derived.OrdersIn
import Derived.OwnWalk
import Derived.OwnWalkIn
import Derived.ProofKit
import Derived.RangeFuncBound
import Derived.RangeFuncCalls
import Derived.RangeFuncFrom
import Derived.RangeFuncLeaves
import Derived.Recover
import Derived.RegionTactic
import Derived.Shelf.Abstract
import Derived.Shelf.Slices.Clone
import Derived.Shelf.Slices.Turned
import Derived.Shelf.Spec.TrailingZeros
import Derived.TacticsInMore
import Derived.WalkKit
import Derived.WalkLawsBesides
import Derived.WalkSpells
import Derived.Test.YthgmlhddanbbpaaDoorS00Mem
import Derived.Test.YthgmlhddanbbpaaDoorShelf
import Derived.Test.YthgmlhddanbbpaaDoorS02ZCq
import Derived.Test.YthgmlhddanbbpaaDoorS03Uaq
import Derived.Test.YthgmlhddanbbpaaDoorS04ZXq
import Derived.Test.YthgmlhddanbbpaaDoorS05Xbq
import Derived.Test.YthgmlhddanbbpaaDoorS06Xlq
import Derived.Test.YthgmlhddanbbpaaDoorS07Cn
import Derived.Test.YthgmlhddanbbpaaDoorS08Di
import Derived.Test.YthgmlhddanbbpaaDoorS09Ka
import Derived.Test.YthgmlhddanbbpaaDoorS11Qb
import Derived.Test.YthgmlhddanbbpaaDoorS12Pi
import Derived.Test.YthgmlhddanbbpaaDoorS13Yrq
namespace Go.Proofs.YthgmlhddanbbpaaDoor
open Go.RowKit

theorem bC_set (bits : List Int) (k : Nat) (v : Int) : bC (bits.set k v) = (bC bits).setIfInBounds k (.int .i64 v) := by
  unfold bC
  simp [List.map_set]
theorem bC_get (bits : List Int) {k : Nat} (h : k < bits.length) : (bC bits)[k]? = some (.int .i64 (bits.getD k 0)) := by
  unfold bC
  rw [List.getElem?_toArray, List.getElem?_map, List.getElem?_eq_getElem h, List.getD_eq_getElem?_getD, List.getElem?_eq_getElem h]
  rfl

/-- A shot: its state in block b, its bits in block g. -/
structure PlA (w0 w : World) (g b m : Nat) (s : Nat → Nm) (bits : List Int) (N : Nat) : Prop where
  ext : Ext w0 w
  bit : w.heap[g]? = some (.cells (bC bits) 3 (0, 0))
  st : RsAt (fun k => k ≠ g) w b m s 8200 4100
  hg : w0.heap.size ≤ g
  amp : ∀ x, Amp N (s x)
section
variable {w0 w w' : World} {g b m : Nat} {s s' : Nat → Nm} {bits : List Int} {N N' : Nat}
theorem PlA.ltg (h : PlA w0 w g b m s bits N) : g < w.heap.size := (Array.getElem?_eq_some_iff.1 h.bit).1
theorem PlA.lim (h : PlA w0 w g b m s bits N) : LimQ (fun k => k ≠ g) w := LimQ.but h.ltg
theorem PlA.ne (h : PlA w0 w g b m s bits N) : b ≠ g := by
  intro e
  obtain ⟨cs, t, fr, h1, h2⟩ := h.st.no
  rw [e, h.bit] at h1
  injection h1 with h1
  injection h1 with _ h1 _
  exact h2 h1.symm
theorem PlA.ext' (h : PlA w0 w g b m s bits N) (k : Ext w w') : PlA w0 w' g b m s bits N := ⟨h.ext.trans k, (k.block _ h.ltg).trans h.bit, h.st.ext k, h.hg, h.amp⟩
theorem PlA.le (h : PlA w0 w g b m s bits N) (k : N ≤ N') : PlA w0 w g b m s bits N' := ⟨h.ext, h.bit, h.st, h.hg, fun x => (h.amp x).le k⟩
theorem PlA.to (h : PlA w0 w g b m s bits N) (k : Ext w w') {b' : Nat} (hs : RsAt (fun k => k ≠ g) w' b' m s' 8200 4100) (ha : ∀ x, Amp N' (s' x)) : PlA w0 w' g b' m s' bits N' := ⟨h.ext.trans k, (k.block _ h.ltg).trans h.bit, hs, h.hg, ha⟩
theorem PlA.ints (h : PlA w0 w g b m s bits N) {nb : Nat} (hb : bits.length = nb) : IntsAt w (some ⟨g, 0, none⟩) nb bits := by
  refine ⟨hb, ?_⟩
  by_cases e : nb = 0
  · exact Or.inl e
  · refine Or.inr ⟨g, 0, rfl, h.ltg, fun t ht => ?_⟩
    rw [cell_of_row w g (0 + t) _ _ (0, 0) h.bit, Nat.zero_add, bC_get bits (by omega)]
theorem PlA.cell (h : PlA w0 w g b m s bits N) {k : Nat} (hk : k < bits.length) : w.cell? ⟨g, k, none⟩ = some (.int .i64 (bits.getD k 0)) := by
  rw [cell_of_row w g k _ _ (0, 0) h.bit, bC_get bits hk]
theorem PlA.fr (h : PlA w0 w g b m s bits N) (k : Nat) : w.frozen? ⟨g, k, none⟩ = false := frozen_of_row w g k _ _ h.bit
theorem PlA.put (h : PlA w0 w g b m s bits N) (k : Nat) (v : Int) : PlA w0 (w.setCell ⟨g, k, none⟩ (.int .i64 v)) g b m s (bits.set k v) N := by
  have hb := heap_setCell_same w g k _ _ (.int .i64 v) h.bit
  rw [← bC_set] at hb
  have hc : ChZ g w (w.setCell ⟨g, k, none⟩ (.int .i64 v)) := ChZ.of_only ((Only.refl g w).setCell k _)
  exact ⟨hc.ext h.ext h.hg, hb, h.st.apart hc (fun e => e rfl) (fun _ => ⟨_, _, hb⟩) h.ne, h.hg, h.amp⟩
theorem PlA.base {W : World} (h : PlA W w g b m s bits N) (k : Ext w0 W) : PlA w0 w g b m s bits N := ⟨k.trans h.ext, h.bit, h.st, Nat.le_trans k.size h.hg, h.amp⟩
/-- A block that is neither of them, and holds no digits, is written. -/
theorem PlA.far (h : PlA w0 w g b m s bits N) {k : Nat} (hc : ChZ k w w') (hn : NoI w k) (h0 : w0.heap.size ≤ k) (h1 : g ≠ k) (h2 : b ≠ k) : PlA w0 w' g b m s bits N := ⟨hc.ext h.ext h0, hc.row h.bit h1, h.st.chz hc hn h2, h.hg, h.amp⟩
end
/-- It begins. -/
theorem PlA.new {w0 w1 w2 : World} {b m nb : Nat} {s : Nat → Nm} {Qc : Nat → Prop} (h : RsAt Qc w1 b m s 8200 4100) (he : Ext w0 w1) (hr : IRow w2 w1.heap.size (List.replicate nb 0)) (k : Ext w1 w2) (ha : ∀ x, Amp 0 (s x)) : PlA w0 w2 w1.heap.size b m s (List.replicate nb 0) 0 := by
  refine ⟨he.trans k, ?_, h.fresh k (Nat.le_refl _) hr.lt, he.size, ha⟩
  obtain ⟨⟨e, rfl⟩, h1⟩ := hr
  rw [h1]
  unfold bC
  simp
end Go.Proofs.YthgmlhddanbbpaaDoor
namespace Go.Proofs.YthgmlhddanbbpaaDoor
open Go.RowKit

set_option maxRecDepth 100000 in
set_option maxHeartbeats 8000000 in
theorem QPlay_all (c : Gci) (ao : Option Addr) (n cp : Nat) (x : Int) (ta : Option Addr) (tn tc : Nat) (want : List Int) (w : World) (h : OpsAt w ao n c.ops) (hn : n ≤ cp) (hcp : cp ≤ 9223372036854775807) (hT : IntsAt w ta tn want) :
    Calls Tryd.prog 8 #[.agg #[.int .i64 c.qubits, .int .i64 c.bits, .slice ao n cp], .int .i64 x, .slice ta tn tc] w fun e w' => ∃ r0 r1 r2, e = .returned (.tuple #[r0, r1, r2, .agg #[.int .i64 (shoF c x want).1, .int .i64 (shoF c x want).2]]) ∧ Ext w w' ∧
      ((shoF c x want).1 = 0 → ∃ b g, r0 = .slice (some ⟨b, 0, none⟩) (2 ^ c.qubits.toNat) (2 ^ c.qubits.toNat) ∧ r1 = .slice (some ⟨g, 0, none⟩) (shoR c x want).bits.length (shoR c x want).bits.length ∧ r2 = .int .i64 ((shoR c x want).u : Int) ∧ PlA w w' g b (2 ^ c.qubits.toNat) (shoR c x want).s (shoR c x want).bits 4096) ∧ ((shoF c x want).1 ≠ 0 → r1 = .slice none 0 0 ∧ r2 = .int .i64 0) := by
  obtain ⟨F, hF⟩ : ∃ F, shoF c x want = F := ⟨_, rfl⟩
  obtain ⟨F0, F1⟩ := F
  obtain ⟨M, hM⟩ : ∃ M, shoR c x want = M := ⟨_, rfl⟩
  rw [hF, hM]
  unfold shoF at hF
  rw [hM] at hF
  unfold shoR at hM
  obtain ⟨qb, bi, ops⟩ := c
  obtain ⟨m, hm⟩ : ∃ m : Nat, 2 ^ qb.toNat = m := ⟨_, rfl⟩
  simp only [hm]
  have Hm0 := Lib.hid hm
  clear hm
  obtain ⟨f, hf⟩ : ∃ f, chk ⟨qb, bi, ops⟩ = f := ⟨_, rfl⟩
  obtain ⟨f0, f1⟩ := f
  have hst : (f0 ≠ 0 → stF ⟨qb, bi, ops⟩ x = (f0, f1)) ∧ (f0 = 0 → (x < 0 ∨ ((2 ^ qb.toNat : Nat) : Int) ≤ x) → stF ⟨qb, bi, ops⟩ x = (18, 0)) ∧ (f0 = 0 → ¬ (x < 0 ∨ ((2 ^ qb.toNat : Nat) : Int) ≤ x) → stF ⟨qb, bi, ops⟩ x = (0, 0)) := by
    unfold stF
    rw [hf]
    exact ⟨fun h => if_pos h, fun h k => by rw [if_neg (fun e => e h), if_pos k], fun h k => by rw [if_neg (fun e => e h), if_neg k]⟩
  have hFs : ∀ a b : Int, stF ⟨qb, bi, ops⟩ x = (a, b) → (a ≠ 0 → F0 = a ∧ F1 = b) ∧ (a = 0 → M.f = (F0, F1)) := by
    intro a b e
    rw [e] at hF
    refine ⟨fun h => ?_, fun h => ?_⟩
    · rw [if_pos h] at hF
      exact ⟨(congrArg Prod.fst hF).symm, (congrArg Prod.snd hF).symm⟩
    · rw [if_neg (fun k => k h)] at hF
      exact hF
  have hz : f0 = 0 → f1 = 0 ∧ (1 ≤ qb ∧ qb ≤ 12) ∧ (0 ≤ bi ∧ bi ≤ 12) ∧ ops.length ≤ 4096 ∧ (∀ g ∈ ops, opCode g qb bi = 0) := by
    intro h0
    have hc : (chk ⟨qb, bi, ops⟩).1 = 0 := by rw [hf]; exact h0
    obtain ⟨hc0, h1, h2, h3, h4, h5, h6⟩ := chk_zero hc
    rw [hf] at hc0
    exact ⟨congrArg Prod.snd hc0, ⟨h1, h2⟩, ⟨h3, h4⟩, h5, h6⟩
  have Hz := Lib.hid hz; have Hf := Lib.hid hf; have HM := Lib.hid hM; have Hst := Lib.hid hst; have HFs := Lib.hid hFs
  obtain ⟨H, hH⟩ : ∃ H, w.heap.size = H := ⟨_, rfl⟩
  obtain ⟨W0, hW0⟩ : ∃ W0, (w.alloc (.cells #[.int .i64 qb, .int .i64 bi, .slice ao n cp] 24)).alloc (.cells #[.int .i64 0, .int .i64 0] 27) = W0 := ⟨_, rfl⟩
  have E0 : Ext w W0 := by rw [← hW0]; exact (ext_al w _).trans (ext_al _ _)
  have bC : CiB W0 H qb bi ao n cp := by rw [← hW0, ← hH]; exact CiB.ext ⟨heap_alloc_new w _⟩ (ext_al _ _)
  have bF : FtB W0 (H + 1) 0 0 := ⟨by
    have := heap_alloc_new (w.alloc (.cells #[.int .i64 qb, .int .i64 bi, .slice ao n cp] 24)) (.cells #[.int .i64 0, .int .i64 0] 27)
    rw [← hW0, ← hH]
    simpa using this⟩
  have HE0 := Lib.hid E0; have HO := Lib.hid (h.ext E0); have HC := Lib.hid bC; have HFt := Lib.hid bF; have HT := Lib.hid (hT.ext E0)
  have m0 := bC.x0; have m1 := bC.x1; have m2 := bC.x2
  have HH := Lib.hid hH; have HW0 := Lib.hid hW0; have HwH := Lib.hid (show w.heap.size ≤ H + 1 by omega)
  clear h E0 bC bF hF hf hz hT hM hH hW0 hst hFs
  go_enter Tryd.func8, Tryd.ntmps8
  go_upto_region 1 with fail
  rw [HW0.out, HH.out]
  have HK := Lib.hid (RCheck_any ⟨qb, bi, ops⟩ ao n cp W0 HO.out hn hcp)
  rw [Hf.out] at HK
  go_wp2_with fail
  refine HK.out.mono ?_
  rintro e w1 ⟨rfl, hx1⟩
  have Ef := ext_al w1 (.cells #[.int .i64 f0, .int .i64 f1] 27)
  have bf1 : FtB (w1.alloc (.cells #[.int .i64 f0, .int .i64 f1] 27)) w1.heap.size f0 f1 := ⟨heap_alloc_new w1 _⟩
  have q0 := bf1.x0; have q1 := bf1.x1
  have HX1 := Lib.hid (hx1.trans Ef)
  have bz := HFt.out.ext HX1.out; have x0' := bz.x0; have x1' := bz.x1; have g0' := bz.f 0; have g1' := bz.f 1
  have bc := HC.out.ext HX1.out; have v0 := bc.x0; have v1 := bc.x1; have v2 := bc.x2
  have HEz := Lib.hid (HE0.out.trans HX1.out)
  clear bz bc m0 m1 m2 hx1 Ef bf1 HK Hf HW0 HH
  by_cases hc0 : f0 = 0
  · obtain ⟨hf1, ⟨hq1, hq2⟩, ⟨hb1, hb2⟩, hlen, hcode⟩ := Hz.out hc0
    obtain ⟨qn, rfl⟩ : ∃ qn : Nat, qb = (qn : Int) := ⟨qb.toNat, by omega⟩
    obtain ⟨nb, rfl⟩ : ∃ nb : Nat, bi = (nb : Int) := ⟨bi.toNat, by omega⟩
    have hcb := nf' hc0
    have hnl := HO.out.1
    have hs := shl1 (q := qn) (by omega)
    have hs1 := Hst.out.2.1 hc0; have hs2 := Hst.out.2.2 hc0
    simp only [Int.toNat_natCast] at hs1 hs2 HM
    have hm : 2 ^ qn = m := by have := Hm0.out; simpa using this
    have Hqn := Lib.hid (show qn ≤ 12 by omega); have Hnb := Lib.hid (show nb ≤ 12 by omega); have Hn4 := Lib.hid (show n ≤ 4096 by omega)
    rw [hm] at hs hs1 hs2
    have Hm := Lib.hid hm
    have Hfit := Lib.hid (fun (o : Gop) (ho : o ∈ ops) => plFit_of_code (o := o) (n := (qn : Int)) (b := (nb : Int)) (by omega) (by omega) (by omega) (by omega) (hcode o ho))
    clear hm Hm0 hf1 hq1 hq2 hb1 hb2 hcode hc0 Hz
    by_cases hx0 : x < 0
    · have HF2 := Lib.hid ((HFs.out 18 0 (hs1 (Or.inl hx0))).1 (by decide))
      have Hz := Lib.hid (HFt.out.ext HX1.out)
      clear hs1 hs2 Hst HFs HM v1 v2 x0' x1' g0' g1' HFt HX1
      go_wp2_with fail
      refine (rfault_any 18 0 _).mono ?_
      rintro e wz ⟨rfl, hxz⟩
      have bz := Hz.out.ext hxz; have x0' := bz.x0; have x1' := bz.x1; have g0' := bz.f 0; have g1' := bz.f 1; have HEy := Lib.hid (HEz.out.trans hxz)
      clear bz hxz
      go_wp2_with fail
      exact bodyPost_ret (v := .tuple #[.slice none 0 0, .slice none 0 0, .int .i64 0, .agg #[.int .i64 18, .int .i64 0]]) (by simp [results, Tryd.results8, go_sem, x0', x1']) rfl ⟨_, _, _, by rw [HF2.out.1, HF2.out.2], put2x HEy.out HwH.out _ _, fun h => absurd (HF2.out.1 ▸ h) (by decide), fun _ => ⟨rfl, rfl⟩⟩
    by_cases hx1 : ((m : Nat) : Int) ≤ x
    · have HF2 := Lib.hid ((HFs.out 18 0 (hs1 (Or.inr hx1))).1 (by decide))
      have qz : (0 : Int) ≤ (qn : Int) := by omega
      have Hz := Lib.hid (HFt.out.ext HX1.out)
      clear hs1 hs2 Hst HFs HM v1 v2 x0' x1' g0' g1' HFt HX1
      go_wp2_with fail
      refine (rfault_any 18 0 _).mono ?_
      rintro e wz ⟨rfl, hxz⟩
      have bz := Hz.out.ext hxz; have x0' := bz.x0; have x1' := bz.x1; have g0' := bz.f 0; have g1' := bz.f 1; have HEy := Lib.hid (HEz.out.trans hxz)
      clear bz hxz
      go_wp2_with fail
      exact bodyPost_ret (v := .tuple #[.slice none 0 0, .slice none 0 0, .int .i64 0, .agg #[.int .i64 18, .int .i64 0]]) (by simp [results, Tryd.results8, go_sem, x0', x1']) rfl ⟨_, _, _, by rw [HF2.out.1, HF2.out.2], put2x HEy.out HwH.out _ _, fun h => absurd (HF2.out.1 ▸ h) (by decide), fun _ => ⟨rfl, rfl⟩⟩
    obtain ⟨xn, rfl⟩ : ∃ xn : Nat, x = (xn : Int) := ⟨x.toNat, by omega⟩
    have HFF := Lib.hid ((HFs.out 0 0 (hs2 (by omega))).2 rfl)
    have HM' := Lib.hid (show plM want ops 0 (bas xn) (List.replicate nb 0) 0 = M from HM.out)
    have Hxn := Lib.hid (show xn < m by omega)
    have qz : (0 : Int) ≤ (qn : Int) := by omega
    clear HM hs1 hs2 Hst HFs
    have HOw := Lib.hid (HO.out.ext HX1.out); have HTw := Lib.hid (HT.out.ext HX1.out); have HFw := Lib.hid (HFt.out.ext HX1.out); have HCw := Lib.hid (HC.out.ext HX1.out)
    have Hnl := Lib.hid hnl; have Hlen := Lib.hid hlen
    clear HO HT HFt HC x0' x1' g0' g1' HX1 HE0 hnl hlen
    go_upto_region 6 with fail
    generalize w1.alloc (.cells #[.int .i64 f0, .int .i64 f1] 27) = W1 at *
    generalize w1.heap.size = FB at *
    have HB := Lib.hid (Basis_any (Qc := fun _ => True) qn xn W1 Hqn.out (by rw [Hm.out]; exact Hxn.out) 8200 4100 (by decide) (fun _ _ => trivial))
    rw [Hm.out] at HB
    clear q0 q1 hs
    go_wp2_with fail
    refine HB.out.mono ?_
    rintro e w2 ⟨b0, rfl, hS2, _, hE2⟩
    have HS2 := Lib.hid hS2; have HE2 := Lib.hid hE2
    have bc := HCw.out.ext hE2
    clear v0 v1 v2 hS2 HB
    have v1 := bc.x1; have v2 := bc.x2
    clear hE2 bc
    go_wp2_with (refine wpList_make_irow w2 rfl _ _ rfl .i64 .i64 (nb : Int) (nb : Int) nb rfl rfl rfl rfl (by have := Hnb.out; omega) ?_; intro w3 hR3 hE3 hl3)
    have HP3 := Lib.hid (PlA.new HS2.out HE2.out hR3 hE3 (fun y => bas_amp xn y))
    generalize w2.heap.size = g at *
    clear HS2 hR3 hE3 hl3 v1 v2 HE2
    go_loopg [11, 13, 14, 15, 16] (n + 1) (fun kk s11 s13 s14 _ _ wr => ∃ (i u b : Nat) (s : Nat → Nm) (bits : List Int), s11 = .slice (some ⟨b, 0, none⟩) m m ∧ s13 = .int .i64 (u : Int) ∧ s14 = .int .i64 (i : Int) ∧ PlA W1 wr g b m s bits i ∧ i ≤ n ∧ n + 1 - i = kk ∧ bits.length = nb ∧ u ≤ i ∧ u ≤ tn ∧ plM want (ops.drop i) i s bits u = M)
    case atStart => exact ⟨0, 0, b0, _, _, rfl, rfl, rfl, HP3.out, Nat.zero_le _, rfl, List.length_replicate, Nat.le_refl _, Nat.zero_le _, HM'.out⟩
    case round =>
      obtain ⟨i, u, b, s, bits, rfl, rfl, rfl, hp, hi, hk, hbl, hui, hut, hpl⟩ := hrel
      have bc := HCw.out.ext hp.ext; have v1 := bc.x1; have v2 := bc.x2; have v0 := bc.x0
      have Hp := Lib.hid hp; have Hk := Lib.hid hk; have Hbl := Lib.hid hbl; have Hui := Lib.hid hui; have Hut := Lib.hid hut; have Hpl := Lib.hid hpl
      clear bc hp hk hbl hui hut hpl HP3 HM' v1 v0
      by_cases hin : i = n
      · have q1 : ¬ (i : Int) < (n : Int) := by omega
        have HMe := Lib.hid (show M = ⟨(0, 0), s, bits, u⟩ by
          rw [← Hpl.out, List.drop_eq_nil_of_le (by have := Hnl.out; omega)]
          rfl)
        have HF2 := Lib.hid (show F0 = 0 ∧ F1 = 0 by
          have := HFF.out
          rw [HMe.out] at this
          exact ⟨(congrArg Prod.fst this).symm, (congrArg Prod.snd this).symm⟩)
        have bz := HFw.out.ext Hp.out.ext; have x0' := bz.x0; have x1' := bz.x1; have g0' := bz.f 0; have g1' := bz.f 1
        have cg : ChZ (H + 1) wr ((wr.setCell ⟨H + 1, 0, none⟩ (.int .i64 0)).setCell ⟨H + 1, 1, none⟩ (.int .i64 0)) := ChZ.of_only (((Only.refl (H + 1) wr).setCell 0 _).setCell 1 _)
        have Hno := Lib.hid (show NoI wr (H + 1) from ⟨_, _, _, bz.row, by decide⟩)
        have Hend := Lib.hid ((((Hp.out.base HEz.out).le (show i ≤ 4096 by have := Hn4.out; omega)).far cg Hno.out HwH.out (by have := HFw.out.lt; have := Hp.out.hg; omega) (by
          rintro rfl
          obtain ⟨cs, h1, _⟩ := Hp.out.st.row
          have h2 := bz.row
          rw [h1] at h2
          injection h2 with h2
          injection h2 with _ h2 _
          exact absurd h2 (by decide))))
        clear cg bz hin hi
        go_wp2_with fail
        refine bodyPost_ret (v := .tuple #[.slice (some ⟨b, 0, none⟩) m m, .slice (some ⟨g, 0, none⟩) nb nb, .int .i64 (u : Int), .agg #[.int .i64 0, .int .i64 0]]) (by simp [results, Tryd.results8, go_sem, x0', x1']) rfl ⟨_, _, _, by rw [HF2.out.1, HF2.out.2], Hend.out.ext, fun _ => ⟨b, rfl, g, ?_, ?_, ?_⟩, fun h => absurd HF2.out.1 h⟩
        · rw [HMe.out, ← Hbl.out]
        · rw [HMe.out]
        · rw [HMe.out]; exact Hend.out
      have hlt : i < n := by omega
      have q1 : (i : Int) < (n : Int) := by omega
      have q0 : (0 : Int) ≤ (i : Int) := by omega
      have wk : IntKind.i64.wrap ((i : Int) + 1) = ((i + 1 : Nat) : Int) := by rw [IntKind.wrap_i64]; have := Hn4.out; omega
      have hil : i < ops.length := by have := Hnl.out; omega
      obtain ⟨o, ho⟩ : ∃ o, ops[i]? = some o := ⟨_, List.getElem?_eq_getElem hil⟩
      have hdr : ops.drop i = o :: ops.drop (i + 1) := by
        rw [List.drop_eq_getElem_cons hil, (List.getElem?_eq_some_iff.1 ho).2]
      have Hpo := Lib.hid (show plM want (o :: ops.drop (i + 1)) i s bits u = M by rw [← hdr]; exact Hpl.out)
      obtain ⟨bo, oo, rfl⟩ := HOw.out.some_of (by omega)
      obtain ⟨a1, n1, c1, a2, n2, c2, e0, e1, e2, e3, e4, e5, hL⟩ := ((HOw.out.ext Hp.out.ext).at i o ho)
      have hft := Hfit.out o (List.mem_of_getElem? ho)
      obtain ⟨kd, k, ctl, q, bt, cnd⟩ := o
      simp only at e0 e1 e2 e3 e4 e5
      have Hft := Lib.hid hft; have HL := Lib.hid hL; have Hlt := Lib.hid hlt
      have Ea := ext_al wr (.cells #[.int .i64 kd, .int .i64 k, .slice a1 n1 c1, .int .i64 q, .int .i64 bt, .slice a2 n2 c2] 51)
      have bO := opbx_new wr kd k a1 n1 c1 q bt a2 n2 c2
      have HEa := Lib.hid Ea; have HbO := Lib.hid bO
      have p0 := bO.x0; have p1 := bO.x1; have p2 := bO.x2; have p3 := bO.x3; have p4 := bO.x4; have p5 := bO.x5
      clear hft hL hlt hdr ho hil hin hi Hpl bO Ea
      go_upto_region 13 with fail
      generalize wr.alloc (.cells #[.int .i64 kd, .int .i64 k, .slice a1 n1 c1, .int .i64 q, .int .i64 bt, .slice a2 n2 c2] 51) = w5 at *
      generalize wr.heap.size = OB at *
      have HQ := Lib.hid (Qcondition_any kd k q bt a1 a2 (some ⟨g, 0, none⟩) n1 c1 n2 c2 nb nb cnd bits w5 (HL.out.i2.ext HEa.out) ((Hp.out.ints Hbl.out).ext HEa.out) HL.out.h2 HL.out.m2 (by have := Hft.out.few; have h2 := HL.out.i2.1; simp only at this h2; omega) Hnb.out Hft.out.cnd)
      obtain ⟨B, hB⟩ : ∃ B, cnM bits cnd = B := ⟨_, rfl⟩
      rw [hB] at HQ
      have HBB := Lib.hid hB
      clear hB e0 e1 e2 e3 e4 e5 v2
      go_wp2_with fail
      refine HQ.out.mono ?_
      rintro e w6 ⟨rfl, hx6⟩
      have Hp6 := Lib.hid (Hp.out.ext' (HEa.out.trans hx6)); have HL6 := Lib.hid (HL.out.ext (HEa.out.trans hx6))
      have b6 := HbO.out.ext hx6
      clear p0 p1 p2 p3 p4 p5
      have p0 := b6.x0; have p1 := b6.x1; have p2 := b6.x2; have p3 := b6.x3; have p4 := b6.x4; have p5 := b6.x5
      have Hb6 := Lib.hid b6
      clear b6 hx6 HQ Hp HL HEa HbO
      cases B with
      | false =>
        have Hpn := Lib.hid (Hpo.out.symm.trans (plM_skip HBB.out)).symm
        clear p0 p1 p2 p3 p4 p5
        go_wp2_with fail
        go_roundg (n + 1 - (i + 1))
        case measure => have := Hk.out; have := Hlt.out; omega
        case rel => exact ⟨i + 1, u, b, s, bits, rfl, rfl, rfl, Hp6.out.le (Nat.le_succ _), Hlt.out, rfl, Hbl.out, by have := Hui.out; omega, Hut.out, Hpn.out⟩
      | true =>
        have hct : ∀ c ∈ ctl, 0 ≤ c ∧ c ≤ 60 := fun c hc => by have := Hft.out.ctl c hc; have := Hqn.out; omega
        have hq12 := Hft.out.q
        simp only at hq12
        obtain ⟨qv, rfl⟩ : ∃ qv : Nat, q = (qv : Int) := ⟨q.toNat, by omega⟩
        have Hqv := Lib.hid (show qv < qn by omega)
        have hne : ∀ c ∈ ctl, c.toNat ≠ ((qv : Nat) : Int).toNat := fun c hc e => by
          have h1 := Hft.out.ne c hc; have h2 := hct c hc
          simp only at h1
          omega
        have HGt := Lib.hid (QGate_any (Qc := fun k => k ≠ g) ⟨kd, k, ctl, (qv : Int), bt, cnd⟩ s qn m i b m a1 a2 n1 c1 n2 c2 8200 4100 w6 Hp6.out.st Hp6.out.amp Hm.out Hqn.out (by simp) (by simpa using Hqv.out) HL6.out.i1 HL6.out.h1 HL6.out.m1 hct hne (by have := Hlt.out; have := Hn4.out; omega) (by decide) (by have := Hlt.out; have := Hn4.out; omega) (by decide) Hp6.out.lim)
        simp only at HGt
        clear hq12 hct hne
        by_cases hk5 : kd < 5
        · have Hpn := Lib.hid (Hpo.out.symm.trans (plM_gate HBB.out hk5)).symm
          go_wp2_with fail
          refine HGt.out.mono ?_
          rintro e w7 ⟨b7, rfl, hS7, _, hx7⟩
          have H7 := Lib.hid (Hp6.out.to hx7 hS7 (gt_amp Hp6.out.amp))
          clear hS7 hx7 HGt p0 p1 p2 p3 p4 p5
          go_wp2_with fail
          go_roundg (n + 1 - (i + 1))
          case measure => have := Hk.out; have := Hlt.out; omega
          case rel => exact ⟨i + 1, u, b7, _, bits, rfl, rfl, rfl, H7.out, Hlt.out, rfl, Hbl.out, by have := Hui.out; omega, Hut.out, Hpn.out⟩
        have Hk5 := Lib.hid hk5
        clear HGt p1 p2
        have Hwl := Lib.hid (show want.length = tn from HTw.out.1)
        by_cases hu : u = tn
        · have HMe := Lib.hid (Hpo.out.symm.trans (plM_out HBB.out hk5 (by rw [Hwl.out]; exact hu)))
          have HF2 := Lib.hid (show F0 = 19 ∧ F1 = (i : Int) by
            have := HFF.out
            rw [HMe.out] at this
            exact ⟨(congrArg Prod.fst this).symm, (congrArg Prod.snd this).symm⟩)
          have bq : ((u : Int) == (tn : Int)) = true := by simp [hu]
          have Hz := Lib.hid (HFw.out.ext Hp6.out.ext)
          have HE6 := Lib.hid (HEz.out.trans Hp6.out.ext)
          clear hu
          go_wp2_with fail
          refine (rfault_any 19 (i : Int) _).mono ?_
          rintro e wz ⟨rfl, hxz⟩
          have bz := Hz.out.ext hxz; have x0' := bz.x0; have x1' := bz.x1; have g0' := bz.f 0; have g1' := bz.f 1; have HEy := Lib.hid (HE6.out.trans hxz)
          clear bz hxz p0 p3 p4 p5
          go_wp2_with fail
          exact bodyPost_ret (v := .tuple #[.slice none 0 0, .slice none 0 0, .int .i64 0, .agg #[.int .i64 19, .int .i64 (i : Int)]]) (by simp [results, Tryd.results8, go_sem, x0', x1']) rfl ⟨_, _, _, by rw [HF2.out.1, HF2.out.2], put2x HEy.out HwH.out _ _, fun h => absurd (HF2.out.1 ▸ h) (by decide), fun _ => ⟨rfl, rfl⟩⟩
        have hlt2 : u < tn := by have := Hut.out; omega
        obtain ⟨tb, to', hta, htb, htc⟩ := HTw.out.2.resolve_left (by omega)
        subst hta
        obtain ⟨v, hv⟩ : ∃ v, want.getD u 0 = v := ⟨_, rfl⟩
        have y0 := htc u hlt2
        rw [hv] at y0
        have y3 := cellKeep Hp6.out.ext (World.block_lt_of_cell? W1 ⟨tb, to' + u, none⟩ y0) y0
        have bq : ((u : Int) == (tn : Int)) = false := by simp; omega
        have u0 : (0 : Int) ≤ (u : Int) := by omega
        have u1 : (u : Int) < (tn : Int) := by omega
        have wu : IntKind.i64.wrap ((u : Int) + 1) = ((u + 1 : Nat) : Int) := by rw [IntKind.wrap_i64]; have := Hn4.out; have := Hui.out; have := Hlt.out; omega
        have Hv := Lib.hid hv; have Hune := Lib.hid hu; have Hlt2 := Lib.hid hlt2
        clear htb htc hu hlt2 hv y0
        by_cases hvb : v ≠ 0 ∧ v ≠ 1
        · have HMe := Lib.hid (Hpo.out.symm.trans (plM_bad HBB.out hk5 (by rw [Hwl.out]; exact Hune.out) Hv.out hvb))
          have HF2 := Lib.hid (show F0 = 20 ∧ F1 = (i : Int) by
            have := HFF.out
            rw [HMe.out] at this
            exact ⟨(congrArg Prod.fst this).symm, (congrArg Prod.snd this).symm⟩)
          have kn0 : (v != 0) = true := by simp; omega
          have kn1 : (v != 1) = true := by simp; omega
          have Hz := Lib.hid (HFw.out.ext Hp6.out.ext)
          have HE6 := Lib.hid (HEz.out.trans Hp6.out.ext)
          clear hvb
          go_wp2_with fail
          refine (rfault_any 20 (i : Int) _).mono ?_
          rintro e wz ⟨rfl, hxz⟩
          have bz := Hz.out.ext hxz; have x0' := bz.x0; have x1' := bz.x1; have g0' := bz.f 0; have g1' := bz.f 1; have HEy := Lib.hid (HE6.out.trans hxz)
          clear bz hxz p0 p3 p4 p5 y3
          go_wp2_with fail
          exact bodyPost_ret (v := .tuple #[.slice none 0 0, .slice none 0 0, .int .i64 0, .agg #[.int .i64 20, .int .i64 (i : Int)]]) (by simp [results, Tryd.results8, go_sem, x0', x1']) rfl ⟨_, _, _, by rw [HF2.out.1, HF2.out.2], put2x HEy.out HwH.out _ _, fun h => absurd (HF2.out.1 ▸ h) (by decide), fun _ => ⟨rfl, rfl⟩⟩
        have hv01 : v = 0 ∨ v = 1 := by omega
        have HOu := Lib.hid (QOutcome_any (Qc := fun k => k ≠ g) s m b m qv v 8200 4100 w6 Hp6.out.st (by rw [← Hm.out]; exact Nat.le_trans (Nat.pow_le_pow_right (by decide) Hqn.out) (by decide)) (by have := Hqv.out; have := Hqn.out; omega))
        have Hoa := Lib.hid (oc_amp (q := (qv : Int)) (b := v) Hp6.out.amp)
        have Hlim := Lib.hid Hp6.out.lim
        by_cases h5 : kd = 5
        · have hbb := Hft.out.bit h5
          simp only at hbb
          obtain ⟨bn, rfl⟩ : ∃ bn : Nat, bt = (bn : Int) := ⟨bt.toNat, by omega⟩
          have Hbn := Lib.hid (show bn < bits.length by rw [Hbl.out]; omega)
          have Hpn := Lib.hid (Hpo.out.symm.trans (plM_bit HBB.out h5 (by rw [Hwl.out]; exact Hune.out) Hv.out hv01)).symm
          have z0 : (0 : Int) ≤ (bn : Int) := by omega
          have z1 : (bn : Int) < (nb : Int) := by omega
          have bk : (kd == 5) = true := by simp [h5]
          have dk : ¬ kd < 5 := by omega
          clear hbb h5
          rcases hv01 with rfl | rfl
          all_goals
            clear hvb
            go_wp2_with fail
            refine HOu.out.mono ?_
            rintro e w7 ⟨b7, rfl, hS7, _, hx7⟩
            have H7 := Lib.hid (Hp6.out.to hx7 hS7 Hoa.out)
            have b7 := Hb6.out.ext hx7
            clear hS7 hx7 HOu p0 p3 p4 p5 y3
            have p0 := b7.x0; have p4 := b7.x4
            have t0 := H7.out.cell Hbn.out; have t1 := H7.out.fr bn
            clear b7
            go_wp2_with fail
            go_roundg (n + 1 - (i + 1))
            case measure => have := Hk.out; have := Hlt.out; omega
            case rel => exact ⟨i + 1, u + 1, _, _, _, rfl, rfl, rfl, (H7.out.put bn _).le (Nat.le_succ _), Hlt.out, rfl, by rw [List.length_set]; exact Hbl.out, by have := Hui.out; omega, Hlt2.out, Hpn.out⟩
        have bk : (kd == 5) = false := by simpa using h5
        rcases hv01 with rfl | rfl
        · have Hpn := Lib.hid (Hpo.out.symm.trans (plM_nought HBB.out hk5 h5 (by rw [Hwl.out]; exact Hune.out) Hv.out)).symm
          clear hvb h5
          go_wp2_with fail
          refine HOu.out.mono ?_
          rintro e w7 ⟨b7, rfl, hS7, _, hx7⟩
          have H7 := Lib.hid (Hp6.out.to hx7 hS7 Hoa.out)
          have o7 := Hb6.out.ext hx7
          clear hS7 hx7 HOu p0 p3 p4 p5 y3
          have p0 := o7.x0
          clear o7
          go_wp2_with fail
          go_roundg (n + 1 - (i + 1))
          case measure => have := Hk.out; have := Hlt.out; omega
          case rel => exact ⟨i + 1, u + 1, b7, _, bits, rfl, rfl, rfl, H7.out.le (Nat.le_succ _), Hlt.out, rfl, Hbl.out, by have := Hui.out; omega, Hlt2.out, Hpn.out⟩
        · have Hpn := Lib.hid (Hpo.out.symm.trans (plM_one HBB.out hk5 h5 (by rw [Hwl.out]; exact Hune.out) Hv.out)).symm
          clear hvb h5
          go_wp2_with fail
          refine HOu.out.mono ?_
          rintro e w7 ⟨b7, rfl, hS7, _, hx7⟩
          have H7 := Lib.hid (Hp6.out.to hx7 hS7 Hoa.out)
          have o7 := Hb6.out.ext hx7
          clear hS7 hx7 HOu p0 p3 p4 p5 y3
          have p0 := o7.x0; have p3 := o7.x3
          clear o7
          have HG7 := Lib.hid (QGate_any (Qc := fun k => k ≠ g) (xOp (qv : Int)) (oc (qv : Int) 1 s) qn m i b7 m none none 0 0 0 0 8200 4100 w7 H7.out.st H7.out.amp Hm.out Hqn.out (show (0 : Int) ≤ (qv : Int) by omega) (by show ((qv : Nat) : Int).toNat < qn; simpa using Hqv.out) ⟨rfl, Or.inl rfl⟩ (Nat.le_refl _) (by decide) (fun c hc => by simp [xOp] at hc) (fun c hc => by simp [xOp] at hc) (by have := Hlt.out; have := Hn4.out; omega) (by decide) (by have := Hlt.out; have := Hn4.out; omega) (by decide) H7.out.lim)
          simp only [xOp] at HG7
          go_wp2_with fail
          refine HG7.out.mono ?_
          rintro e w8 ⟨b8, rfl, hS8, _, hx8⟩
          have H8 := Lib.hid (H7.out.to hx8 hS8 (gt_amp H7.out.amp))
          clear hS8 hx8 HG7 p0 p3
          go_wp2_with fail
          go_roundg (n + 1 - (i + 1))
          case measure => have := Hk.out; have := Hlt.out; omega
          case rel => exact ⟨i + 1, u + 1, b8, _, bits, rfl, rfl, rfl, H8.out, Hlt.out, rfl, Hbl.out, by have := Hui.out; omega, Hlt2.out, Hpn.out⟩
  · have hcb := nt hc0
    have HFF := Lib.hid ((HFs.out f0 f1 (Hst.out.1 hc0)).1 hc0)
    have Hc0 := Lib.hid hc0
    clear hc0 Hz Hst HFs Hm0
    go_upto_region 3 with fail
    go_region
    go_wp2_with fail
    exact bodyPost_ret (v := .tuple #[.slice none 0 0, .slice none 0 0, .int .i64 0, .agg #[.int .i64 f0, .int .i64 f1]]) (by simp [results, Tryd.results8, go_sem, x0', x1']) rfl ⟨_, _, _, by rw [HFF.out.1, HFF.out.2], Below.drew (put2x HEz.out HwH.out _ _), fun h => absurd (HFF.out.1 ▸ h) Hc0.out, fun _ => ⟨rfl, rfl⟩⟩
end Go.Proofs.YthgmlhddanbbpaaDoor
namespace Go.Proofs.YthgmlhddanbbpaaDoor
open Go.RowKit

section
variable (kd k : Int) (a1 : Option Addr) (n1 c1 : Nat) (q bt : Int) (a2 : Option Addr) (n2 c2 : Nat) (w : World)
theorem isBasic_any : Calls Tryd.prog 28 #[.agg #[.int .i64 kd, .int .i64 k, .slice a1 n1 c1, .int .i64 q, .int .i64 bt, .slice a2 n2 c2]] w fun e w' => e = .returned (.bool (n1 == 0 || (n1 == 1 && kd == 2))) ∧ Ext w w' := by
  have HE := Lib.hid (ext_al w (.cells #[.int .i64 kd, .int .i64 k, .slice a1 n1 c1, .int .i64 q, .int .i64 bt, .slice a2 n2 c2] 51))
  have bx := opbx_new w kd k a1 n1 c1 q bt a2 n2 c2
  have m0 := bx.x0; have m2 := bx.x2
  clear bx
  by_cases h0 : n1 = 0
  · subst h0
    have e : ((0 : Nat) == 0 || ((0 : Nat) == 1 && kd == 2)) = true := rfl
    rw [e]
    go_enter Tryd.func28, Tryd.ntmps28
    go_wp2_with fail
    go_ret
    exact ⟨rfl, HE.out⟩
  · have b0 : ((n1 : Int) == 0) = false := by simp; omega
    by_cases h1 : n1 = 1
    · subst h1
      by_cases h2 : kd = 2
      · subst h2
        go_enter Tryd.func28, Tryd.ntmps28
        go_wp2_with fail
        go_ret
        exact ⟨rfl, HE.out⟩
      · have b2 : (kd == 2) = false := by simpa using h2
        have e : ((1 : Nat) == 0 || ((1 : Nat) == 1 && kd == 2)) = false := by rw [b2]; rfl
        rw [e]
        clear h2 b0 h0 e
        go_enter Tryd.func28, Tryd.ntmps28
        go_wp2_with fail
        go_ret
        exact ⟨rfl, HE.out⟩
    · have b1 : ((n1 : Int) == 1) = false := by simp; omega
      have e : (n1 == 0 || (n1 == 1 && kd == 2)) = false := by simp [h0, h1]
      rw [e]
      clear h0 h1 e
      go_enter Tryd.func28, Tryd.ntmps28
      go_wp2_with fail
      go_ret
      exact ⟨rfl, HE.out⟩
theorem angle_any : Calls Tryd.prog 30 #[.agg #[.int .i64 kd, .int .i64 k, .slice a1 n1 c1, .int .i64 q, .int .i64 bt, .slice a2 n2 c2]] w fun e w' => e = .returned (.int .i64 (if kd = 2 ∨ kd = 3 then 8 else k)) ∧ Ext w w' := by
  have HE := Lib.hid (ext_al w (.cells #[.int .i64 kd, .int .i64 k, .slice a1 n1 c1, .int .i64 q, .int .i64 bt, .slice a2 n2 c2] 51))
  have bx := opbx_new w kd k a1 n1 c1 q bt a2 n2 c2
  have m0 := bx.x0; have m1 := bx.x1
  clear bx
  by_cases h2 : kd = 2
  · subst h2
    rw [if_pos (Or.inl rfl)]
    go_enter Tryd.func30, Tryd.ntmps30
    go_wp2_with fail
    go_ret
    exact ⟨rfl, HE.out⟩
  · have b2 : (kd == 2) = false := by simpa using h2
    by_cases h3 : kd = 3
    · subst h3
      rw [if_pos (Or.inr rfl)]
      clear h2 b2
      go_enter Tryd.func30, Tryd.ntmps30
      go_wp2_with fail
      go_ret
      exact ⟨rfl, HE.out⟩
    · have b3 : (kd == 3) = false := by simpa using h3
      rw [if_neg (by omega)]
      clear h2 h3
      go_enter Tryd.func30, Tryd.ntmps30
      go_wp2_with fail
      go_ret
      exact ⟨rfl, HE.out⟩
end
theorem fork_any (q : Int) (w : World) : Calls Tryd.prog 52 #[.int .i64 q] w fun e w' => e = .returned (.agg #[.int .i64 3, .int .i64 0, .slice none 0 0, .int .i64 q, .int .i64 0, .slice none 0 0]) ∧ Ext w w' := by
  go_enter Tryd.func52, Tryd.ntmps52
  go_wp2
  exact bodyPost_ret (v := .agg #[.int .i64 3, .int .i64 0, .slice none 0 0, .int .i64 q, .int .i64 0, .slice none 0 0]) (by simp [results, Tryd.results52, go_sem]) rfl ⟨rfl, ext_al _ _⟩
theorem turn_any (q k : Int) (w : World) (hk : -1000 ≤ k ∧ k ≤ 1000) : Calls Tryd.prog 53 #[.int .i64 q, .int .i64 k] w fun e w' => e = .returned (.agg #[.int .i64 4, .int .i64 ((k + 16).tmod 16), .slice none 0 0, .int .i64 q, .int .i64 0, .slice none 0 0]) ∧ Ext w w' := by
  obtain ⟨x, hx⟩ : ∃ x, k + 16 = x := ⟨_, rfl⟩
  have wx : IntKind.i64.wrap (k + 16) = x := by rw [IntKind.wrap_i64]; omega
  rw [hx]
  clear hx hk
  go_enter Tryd.func53, Tryd.ntmps53
  go_wp2
  exact bodyPost_ret (v := .agg #[.int .i64 4, .int .i64 (x.tmod 16), .slice none 0 0, .int .i64 q, .int .i64 0, .slice none 0 0]) (by simp [results, Tryd.results53, go_sem]) rfl ⟨rfl, ext_al _ _⟩
end Go.Proofs.YthgmlhddanbbpaaDoor
namespace Go.Proofs.YthgmlhddanbbpaaDoor
open Go.RowKit

theorem shlN {q : Nat} (h : q ≤ 40) : wrap64 (2 ^ min q 64) = ((2 ^ q : Nat) : Int) := by
  have h1 : 2 ^ q ≤ 2 ^ 40 := Nat.pow_le_pow_right (by decide) h
  rw [show min q 64 = q by omega]
  have h2 : ((2 : Int) ^ q) = ((2 ^ q : Nat) : Int) := by rw [Int.natCast_pow]; rfl
  rw [h2]
  have h3 : (2 ^ 40 : Nat) = 1099511627776 := by decide
  obtain ⟨m, hm⟩ : ∃ m : Nat, 2 ^ q = m := ⟨_, rfl⟩
  rw [hm] at h1 ⊢
  rw [h3] at h1
  clear hm h2
  unfold wrap64
  omega
theorem wnt_stop {k : Int} (h0 : 0 ≤ k) {r : Nat} (h : k.tmod ((2 ^ r : Nat) : Int) = 0) : wntF k r = 0 := by
  rw [Int.tmod_eq_emod_of_nonneg h0] at h
  cases r with
  | zero => rfl
  | succ r =>
    unfold wntF
    rw [if_pos]
    have : ((2 ^ (r + 1) : Nat) : Int) = (2 : Int) ^ (r + 1) := by rw [Int.natCast_pow]; rfl
    rw [← this]; exact h
theorem wnt_go {k : Int} (h0 : 0 ≤ k) {r : Nat} (h : k.tmod ((2 ^ r : Nat) : Int) ≠ 0) : ∃ s, r = s + 1 ∧ wntF k r = wntF k s + 1 := by
  rw [Int.tmod_eq_emod_of_nonneg h0] at h
  cases r with
  | zero => exact absurd (by simp [Int.emod_one]) h
  | succ r =>
    refine ⟨r, rfl, ?_⟩
    rw [wntF, if_neg]
    have : ((2 ^ (r + 1) : Nat) : Int) = (2 : Int) ^ (r + 1) := by rw [Int.natCast_pow]; rfl
    rw [← this]; exact h

set_option maxRecDepth 100000 in
set_option maxHeartbeats 2000000 in
theorem wanted_any (kd k : Int) (a1 : Option Addr) (n1 c1 : Nat) (q bt : Int) (a2 : Option Addr) (n2 c2 : Nat) (w : World) (hk : 0 ≤ k) (hn : n1 ≤ 12) :
    Calls Tryd.prog 27 #[.agg #[.int .i64 kd, .int .i64 k, .slice a1 n1 c1, .int .i64 q, .int .i64 bt, .slice a2 n2 c2]] w fun e w' => e = .returned (.int .i64 (wntF (if kd = 2 ∨ kd = 3 then 8 else k) n1 : Nat)) ∧ Ext w w' := by
  obtain ⟨kk, hkk⟩ : ∃ x : Int, (if kd = 2 ∨ kd = 3 then 8 else k) = x := ⟨_, rfl⟩
  have hk0 : 0 ≤ kk := by rw [← hkk]; split <;> omega
  rw [hkk]
  obtain ⟨v, hv⟩ : ∃ v, wntF kk n1 = v := ⟨_, rfl⟩
  rw [hv]
  obtain ⟨U, hU⟩ : ∃ U, w.alloc (.cells #[.int .i64 kd, .int .i64 k, .slice a1 n1 c1, .int .i64 q, .int .i64 bt, .slice a2 n2 c2] 51) = U := ⟨_, rfl⟩
  obtain ⟨G, hG⟩ : ∃ G, w.heap.size = G := ⟨_, rfl⟩
  have HE := Lib.hid (show Ext w U by rw [← hU]; exact ext_al w _)
  have HB := Lib.hid (show OpBx U G kd k a1 n1 c1 q bt a2 n2 c2 by rw [← hU, ← hG]; exact opbx_new w kd k a1 n1 c1 q bt a2 n2 c2)
  have HA := Lib.hid (fun wx => angle_any kd k a1 n1 c1 q bt a2 n2 c2 wx)
  rw [hkk] at HA
  have HU := Lib.hid hU; have HG := Lib.hid hG; have Hv := Lib.hid hv; have Hk0 := Lib.hid hk0; have Hn := Lib.hid hn
  clear hU hG hv hk0 hkk hk hn
  go_enter Tryd.func27, Tryd.ntmps27
  go_upto_region 1 with fail
  rw [HU.out, HG.out]
  go_wp2_with fail
  go_loopg [3] (n1 + 1) (fun kk' s3 wr => ∃ j : Nat, s3 = .int .i64 (j : Int) ∧ j ≤ n1 ∧ n1 + 1 - j = kk' ∧ v = j + wntF kk (n1 - j) ∧ Ext U wr)
  case atStart => exact ⟨0, rfl, Nat.zero_le _, rfl, by rw [← Hv.out]; simp, Ext.refl _⟩
  case round =>
    obtain ⟨j, rfl, hj, hkj, hvj, hE⟩ := hrel
    obtain ⟨r, hr⟩ : ∃ r, n1 - j = r := ⟨_, rfl⟩
    have ws : IntKind.i64.wrap ((n1 : Int) - (j : Int)) = (r : Int) := by rw [IntKind.wrap_i64]; have := Hn.out; omega
    have r0 : (0 : Int) ≤ (r : Int) := by omega
    have hs := shlN (q := r) (by have := Hn.out; omega)
    have hp0 : ¬ wrap64 (2 ^ min r 64) = 0 := by
      have h2 : 0 < 2 ^ r := Nat.pow_pos (by decide)
      rw [hs]
      generalize 2 ^ r = m at h2
      omega
    have wk : IntKind.i64.wrap ((j : Int) + 1) = ((j + 1 : Nat) : Int) := by rw [IntKind.wrap_i64]; have := Hn.out; omega
    obtain ⟨X, F, hFe, hFs⟩ : ∃ (X : Type) (F : X → World), (∀ x, Ext wr (F x)) ∧ (∀ w', Ext wr w' → ∃ x, w' = F x) := ⟨{ w' : World // Ext wr w' }, Subtype.val, fun x => x.2, fun w' h => ⟨⟨w', h⟩, rfl⟩⟩
    have hXn : Nonempty X := (hFs wr (Ext.refl wr)).elim fun x _ => ⟨x⟩
    have bo := HB.out.ext hE
    have d0 : ∀ x, (F x).cell? ⟨G, 0, none⟩ = some (.int .i64 kd) := fun x => (bo.ext (hFe x)).x0
    have d1 : ∀ x, (F x).cell? ⟨G, 1, none⟩ = some (.int .i64 k) := fun x => (bo.ext (hFe x)).x1
    have d2 : ∀ x, (F x).cell? ⟨G, 2, none⟩ = some (.slice a1 n1 c1) := fun x => (bo.ext (hFe x)).x2
    have d3 : ∀ x, (F x).cell? ⟨G, 3, none⟩ = some (.int .i64 q) := fun x => (bo.ext (hFe x)).x3
    have d4 : ∀ x, (F x).cell? ⟨G, 4, none⟩ = some (.int .i64 bt) := fun x => (bo.ext (hFe x)).x4
    have d5 : ∀ x, (F x).cell? ⟨G, 5, none⟩ = some (.slice a2 n2 c2) := fun x => (bo.ext (hFe x)).x5
    have hUd : Ext wr wr.drew := Below.drew (Ext.refl wr)
    have Hr := Lib.hid hr; have Hvj := Lib.hid hvj; have HEr := Lib.hid hE; have Hj := Lib.hid hj; have Hkj := Lib.hid hkj
    clear bo hr hvj hE hj hkj
    by_cases ht : kk.tmod (wrap64 (2 ^ min r 64)) = 0
    · have Hst := Lib.hid (wnt_stop Hk0.out (r := r) (by rw [← hs]; exact ht))
      have hb : (kk.tmod (wrap64 (2 ^ min r 64)) != 0) = false := by simp [ht]
      have Hend := Lib.hid (show v = j by rw [Hvj.out, Hr.out, Hst.out]; rfl)
      clear ht hs
      go_upto_region 2 with fail
      refine wp_region_F (by kernel_rfl) (by kernel_rfl) (hFs _ hUd) ?_
      repeat (go_big_quiet_step (exact (HA.out _).mono (fun e w' h => ⟨h.1, hFs _ ((hFe _).trans h.2)⟩)))
      refine wpQuiet_nil ?_
      rintro _ ⟨xq, rfl⟩
      have hu2 := hFe xq
      clear d0 d1 d2 d3 d4 d5
      go_wp2_with fail
      go_ret
      exact ⟨congrArg (fun t : Nat => Ending.returned (Value.int .i64 (t : Int))) Hend.out.symm, HE.out.trans (HEr.out.trans hu2)⟩
    · obtain ⟨s, hs1, hs2⟩ := wnt_go Hk0.out (r := r) (by rw [← hs]; exact ht)
      have hb : (kk.tmod (wrap64 (2 ^ min r 64)) != 0) = true := by simpa using ht
      have Hs1 := Lib.hid hs1
      have Hnx := Lib.hid (show v = j + 1 + wntF kk (n1 - (j + 1)) by
        rw [Hvj.out, Hr.out, hs2, show n1 - (j + 1) = s by have := Hr.out; omega]
        omega)
      clear ht hs hs1 hs2
      go_upto_region 2 with fail
      refine wp_region_F (by kernel_rfl) (by kernel_rfl) (hFs _ hUd) ?_
      repeat (go_big_quiet_step (exact (HA.out _).mono (fun e w' h => ⟨h.1, hFs _ ((hFe _).trans h.2)⟩)))
      refine wpQuiet_nil ?_
      rintro _ ⟨xq, rfl⟩
      have hu2 := Lib.hid (hFe xq)
      clear d0 d1 d2 d3 d4 d5
      go_wp2_with fail
      go_roundg (n1 + 1 - (j + 1))
      case measure => have := Hr.out; have := Hs1.out; have := Hkj.out; omega
      case rel => exact ⟨j + 1, rfl, by have := Hr.out; have := Hs1.out; omega, rfl, Hnx.out, HEr.out.trans hu2.out⟩
end Go.Proofs.YthgmlhddanbbpaaDoor
namespace Go.Proofs.YthgmlhddanbbpaaDoor
open Go.RowKit

def hasC (g : Gop) : Bool := decide (0 < g.ctl.length)
def mwN (l : List Gop) : Nat := l.foldl (fun m g => max m (wnt g)) 0
theorem mwN_snoc (l : List Gop) (g : Gop) : mwN (l ++ [g]) = max (mwN l) (wnt g) := by unfold mwN; rw [List.foldl_append]; rfl
theorem mwN_le (l : List Gop) : ∀ g ∈ l, wnt g ≤ mwN l := by
  have key : ∀ (l : List Gop) (m : Nat), m ≤ l.foldl (fun m g => max m (wnt g)) m ∧ ∀ g ∈ l, wnt g ≤ l.foldl (fun m g => max m (wnt g)) m := by
    intro l
    induction l with
    | nil => intro m; exact ⟨Nat.le_refl _, fun g hg => by simp at hg⟩
    | cons a r ih =>
      intro m
      obtain ⟨h1, h2⟩ := ih (max m (wnt a))
      refine ⟨Nat.le_trans (Nat.le_max_left _ _) h1, fun g hg => ?_⟩
      rcases List.mem_cons.1 hg with rfl | hg
      · exact Nat.le_trans (Nat.le_max_right _ _) h1
      · exact h2 g hg
  exact (key l 0).2
theorem take_g {ops : List Gop} {i : Nat} {g : Gop} (h : ops[i]? = some g) : ops.take (i + 1) = ops.take i ++ [g] := by
  rw [List.take_add_one, h]; rfl
/-- Base's fault. -/
def lowF (c : Gci) : Int × Int :=
  if (chk c).1 ≠ 0 then chk c
  else if 4096 < (c.ops.length : Int) + 220 * cntP hasC c.ops then (21, 0)
  else if 12 < c.qubits + mwN c.ops then (36, 0)
  else (0, 0)

set_option maxRecDepth 100000 in
set_option maxHeartbeats 2000000 in
theorem withControls_any (ops : List Gop) (ao : Option Addr) (n cp : Nat) (w : World) (h : OpsAt w ao n ops) (hn : n ≤ 4096) :
    Calls Tryd.prog 13 #[.slice ao n cp] w fun e w' => e = .returned (.int .i64 (cntP hasC ops)) ∧ Ext w w' := by
  have HO := Lib.hid h; have Hn := Lib.hid hn; have Hl := Lib.hid h.1
  obtain ⟨R, hR⟩ : ∃ R, cntP hasC ops = R := ⟨_, rfl⟩
  rw [hR]
  have HR := Lib.hid hR
  clear h hn hR
  go_enter Tryd.func13, Tryd.ntmps13
  go_wp2_with fail
  go_loopg [3, 5, 8] n (fun kk s3 _ s8 wr => ∃ i : Nat, s8 = .int .i64 (i : Int) ∧ s3 = .int .i64 (cntP hasC (ops.take i)) ∧ i ≤ n ∧ n - i = kk ∧ Ext w wr)
  case atStart => exact ⟨0, rfl, rfl, Nat.zero_le _, rfl, Ext.refl _⟩
  case round =>
    obtain ⟨i, rfl, rfl, hi, hk, hE⟩ := hrel
    have HE := Lib.hid hE; have Hk := Lib.hid hk
    by_cases hin : i = n
    · have q1 : ¬ (i : Int) < (n : Int) := by omega
      have HF := Lib.hid (show cntP hasC (ops.take i) = R by rw [List.take_of_length_le (by have := Hl.out; omega)]; exact HR.out)
      clear hin hi hE hk
      go_wp2_with fail
      go_ret
      exact ⟨congrArg (fun b => Ending.returned (Value.int .i64 b)) HF.out, HE.out⟩
    have hlt : i < n := by omega
    have q1 : (i : Int) < (n : Int) := by omega
    have q0 : (0 : Int) ≤ (i : Int) := by omega
    have wk : IntKind.i64.wrap ((i : Int) + 1) = ((i + 1 : Nat) : Int) := by rw [IntKind.wrap_i64]; have := Hn.out; omega
    have hil : i < ops.length := by have := Hl.out; omega
    obtain ⟨g, hg⟩ : ∃ g, ops[i]? = some g := ⟨_, List.getElem?_eq_getElem hil⟩
    obtain ⟨b, o, rfl⟩ := HO.out.some_of (by omega)
    obtain ⟨a1, n1, c1, a2, n2, c2, e0, e1, e2, e3, e4, e5, hL⟩ := ((HO.out.ext hE).at i g hg)
    have hst := take_g hg
    have hn1 := hL.i1.1
    have bd := cntP_bound hasC (ops.take i)
    have bl : (ops.take i).length ≤ 4096 := by rw [List.length_take]; have := Hn.out; omega
    have hyes : hasC g = true → cntP hasC (ops.take (i + 1)) = cntP hasC (ops.take i) + 1 := fun e => by rw [hst]; exact cntP_yes e
    have hno : hasC g = false → cntP hasC (ops.take (i + 1)) = cntP hasC (ops.take i) := fun e => by rw [hst]; exact cntP_no e
    obtain ⟨C, hC⟩ : ∃ C, cntP hasC (ops.take i) = C := ⟨_, rfl⟩
    rw [hC] at hyes hno bd ⊢
    obtain ⟨C1, hC1⟩ : ∃ C1, C + 1 = C1 := ⟨_, rfl⟩
    have wc : IntKind.i64.wrap (C + 1) = C1 := by rw [IntKind.wrap_i64]; omega
    rw [hC1] at hyes
    obtain ⟨kd, k, ctl, q, bt, cnd⟩ := g
    simp only at e0 e1 e2 e3 e4 e5 hn1
    have bO := opbx_new wr kd k a1 n1 c1 q bt a2 n2 c2
    have p2 := bO.x2
    have HE2 := Lib.hid (HE.out.trans (ext_al wr (.cells #[.int .i64 kd, .int .i64 k, .slice a1 n1 c1, .int .i64 q, .int .i64 bt, .slice a2 n2 c2] 51)))
    have Hyes := Lib.hid hyes; have Hno := Lib.hid hno; have Hlt := Lib.hid hlt
    by_cases hc : 0 < n1
    · have q2 : (0 : Int) < (n1 : Int) := by omega
      have Hs := Lib.hid (Hyes.out (decide_eq_true (show 0 < ctl.length by omega)))
      clear hst bd bl hyes hno hC hC1 bO hlt hil hg hL hn1 hin hi hE hk hc
      go_wp2_with fail
      go_roundg (n - (i + 1))
      case measure => have := Hk.out; have := Hlt.out; omega
      case rel => exact ⟨i + 1, rfl, by rw [Hs.out], Hlt.out, rfl, HE2.out⟩
    · have q2 : ¬ (0 : Int) < (n1 : Int) := by omega
      have Hs := Lib.hid (Hno.out (decide_eq_false (show ¬ 0 < ctl.length by omega)))
      clear hst bd bl hyes hno hC hC1 bO hlt hil hg hL hn1 hin hi hE hk hc
      go_wp2_with fail
      go_roundg (n - (i + 1))
      case measure => have := Hk.out; have := Hlt.out; omega
      case rel => exact ⟨i + 1, rfl, by rw [Hs.out], Hlt.out, rfl, HE2.out⟩

set_option maxRecDepth 100000 in
set_option maxHeartbeats 2000000 in
theorem mostWanted_any (ops : List Gop) (ao : Option Addr) (n cp : Nat) (w : World) (h : OpsAt w ao n ops) (hn : n ≤ 4096) (hok : ∀ g ∈ ops, 0 ≤ g.k ∧ g.ctl.length ≤ 12) :
    Calls Tryd.prog 14 #[.slice ao n cp] w fun e w' => e = .returned (.int .i64 (mwN ops : Nat)) ∧ Ext w w' := by
  have HO := Lib.hid h; have Hn := Lib.hid hn; have Hl := Lib.hid h.1; have Hok := Lib.hid hok
  obtain ⟨R, hR⟩ : ∃ R, mwN ops = R := ⟨_, rfl⟩
  rw [hR]
  have HR := Lib.hid hR
  clear h hn hR hok
  go_enter Tryd.func14, Tryd.ntmps14
  go_wp2_with fail
  go_loopg [3, 5, 8] n (fun kk s3 _ s8 wr => ∃ i : Nat, s8 = .int .i64 (i : Int) ∧ s3 = .int .i64 (mwN (ops.take i) : Nat) ∧ i ≤ n ∧ n - i = kk ∧ Ext w wr)
  case atStart => exact ⟨0, rfl, rfl, Nat.zero_le _, rfl, Ext.refl _⟩
  case round =>
    obtain ⟨i, rfl, rfl, hi, hk, hE⟩ := hrel
    have HE := Lib.hid hE; have Hk := Lib.hid hk
    by_cases hin : i = n
    · have q1 : ¬ (i : Int) < (n : Int) := by omega
      have HF := Lib.hid (show mwN (ops.take i) = R by rw [List.take_of_length_le (by have := Hl.out; omega)]; exact HR.out)
      clear hin hi hE hk
      go_wp2_with fail
      go_ret
      exact ⟨congrArg (fun b : Nat => Ending.returned (Value.int .i64 (b : Int))) HF.out, HE.out⟩
    have hlt : i < n := by omega
    have q1 : (i : Int) < (n : Int) := by omega
    have q0 : (0 : Int) ≤ (i : Int) := by omega
    have wk : IntKind.i64.wrap ((i : Int) + 1) = ((i + 1 : Nat) : Int) := by rw [IntKind.wrap_i64]; have := Hn.out; omega
    have hil : i < ops.length := by have := Hl.out; omega
    obtain ⟨g, hg⟩ : ∃ g, ops[i]? = some g := ⟨_, List.getElem?_eq_getElem hil⟩
    obtain ⟨b, o, rfl⟩ := HO.out.some_of (by omega)
    obtain ⟨a1, n1, c1, a2, n2, c2, e0, e1, e2, e3, e4, e5, hL⟩ := ((HO.out.ext hE).at i g hg)
    have Hst := Lib.hid (show mwN (ops.take (i + 1)) = max (mwN (ops.take i)) (wnt g) by rw [take_g hg, mwN_snoc])
    have hgk := Hok.out g (List.mem_of_getElem? hg)
    have hn1 := hL.i1.1
    obtain ⟨C, hC⟩ : ∃ C, mwN (ops.take i) = C := ⟨_, rfl⟩
    rw [hC] at Hst ⊢
    obtain ⟨kd, k, ctl, q, bt, cnd⟩ := g
    simp only at e0 e1 e2 e3 e4 e5 hn1 hgk
    have bO := opbx_new wr kd k a1 n1 c1 q bt a2 n2 c2
    have p0 := bO.x0; have p1 := bO.x1; have p2 := bO.x2; have p3 := bO.x3; have p4 := bO.x4; have p5 := bO.x5
    have HE2 := Lib.hid (HE.out.trans (ext_al wr (.cells #[.int .i64 kd, .int .i64 k, .slice a1 n1 c1, .int .i64 q, .int .i64 bt, .slice a2 n2 c2] 51)))
    have HW := Lib.hid (fun wx => wanted_any kd k a1 n1 c1 q bt a2 n2 c2 wx hgk.1 (by omega))
    obtain ⟨V, hV⟩ : ∃ V, wntF (if kd = 2 ∨ kd = 3 then 8 else k) n1 = V := ⟨_, rfl⟩
    rw [hV] at HW
    have Hst2 := Lib.hid (show mwN (ops.take (i + 1)) = max C V by
      rw [Hst.out, ← hV]
      unfold wnt ang
      rw [hn1])
    have Hlt := Lib.hid hlt
    clear Hst hV hC bO hlt hil hg hL hn1 hin hi hE hk hgk
    go_upto_region 5 with fail
    generalize wr.alloc (.cells #[.int .i64 kd, .int .i64 k, .slice a1 n1 c1, .int .i64 q, .int .i64 bt, .slice a2 n2 c2] 51) = w5 at *
    clear e0 e1 e2 e3 e4 e5
    go_wp2_with fail
    refine (HW.out w5).mono ?_
    rintro e w6 ⟨rfl, hx6⟩
    have HE6 := Lib.hid (HE2.out.trans hx6)
    clear hx6 p0 p1 p2 p3 p4 p5 HW
    go_wp2_with fail
    go_roundg (n - (i + 1))
    case measure => have := Hk.out; have := Hlt.out; omega
    case rel => exact ⟨i + 1, rfl, by rw [Hst2.out]; exact congrArg (Value.int .i64) (by omega), Hlt.out, rfl, HE6.out⟩
end Go.Proofs.YthgmlhddanbbpaaDoor
namespace Go.Proofs.YthgmlhddanbbpaaDoor
open Go.RowKit

set_option maxRecDepth 100000 in
set_option maxHeartbeats 2000000 in
theorem Spares_any (kd k : Int) (a1 : Option Addr) (n1 c1 : Nat) (q bt : Int) (a2 : Option Addr) (n2 c2 : Nat) (w : World) (hk : 0 ≤ k) (hn : n1 ≤ 12) :
    Calls Tryd.prog 18 #[.agg #[.int .i64 kd, .int .i64 k, .slice a1 n1 c1, .int .i64 q, .int .i64 bt, .slice a2 n2 c2]] w fun e w' => e = .returned (.int .i64 (wntF (if kd = 4 then k else 8) n1 : Nat)) ∧ Ext w w' := by
  obtain ⟨kk, hkk⟩ : ∃ x : Int, (if kd = 4 then k else 8) = x := ⟨_, rfl⟩
  have hk0 : 0 ≤ kk := by rw [← hkk]; split <;> omega
  rw [hkk]
  obtain ⟨v, hv⟩ : ∃ v, wntF kk n1 = v := ⟨_, rfl⟩
  rw [hv]
  obtain ⟨U, hU⟩ : ∃ U, w.alloc (.cells #[.int .i64 kd, .int .i64 k, .slice a1 n1 c1, .int .i64 q, .int .i64 bt, .slice a2 n2 c2] 51) = U := ⟨_, rfl⟩
  obtain ⟨G, hG⟩ : ∃ G, w.heap.size = G := ⟨_, rfl⟩
  have HE := Lib.hid (show Ext w U by rw [← hU]; exact ext_al w _)
  have bO : OpBx U G kd k a1 n1 c1 q bt a2 n2 c2 := by rw [← hU, ← hG]; exact opbx_new w kd k a1 n1 c1 q bt a2 n2 c2
  have d0 := bO.x0; have d1 := bO.x1; have d2 := bO.x2
  have HU := Lib.hid hU; have HG := Lib.hid hG; have Hv := Lib.hid hv; have Hk0 := Lib.hid hk0; have Hn := Lib.hid hn; have Hkk := Lib.hid hkk
  clear hU hG hv hk0 hkk hk hn bO
  by_cases hn0 : n1 = 0
  · subst hn0
    have Hv0 := Lib.hid (show v = 0 from Hv.out.symm)
    go_enter Tryd.func18, Tryd.ntmps18
    go_upto_region 1 with fail
    rw [HU.out, HG.out]
    go_wp2_with fail
    go_ret
    exact ⟨congrArg (fun t : Nat => Ending.returned (Value.int .i64 (t : Int))) Hv0.out.symm, HE.out⟩
  have b0 : ((n1 : Int) == 0) = false := by simp; omega
  clear hn0
  go_enter Tryd.func18, Tryd.ntmps18
  go_upto_region 1 with fail
  rw [HU.out, HG.out]
  go_upto_if 13 with fail
  clear HU HG
  go_cut [3] from 11 to 15 (fun s3 wx => s3 = .int .i64 kk ∧ U = wx)
  case first =>
    by_cases h4 : kd = 4
    · have b4 := bt' h4
      have Hk4 := Lib.hid (show k = kk by rw [← Hkk.out, if_pos h4])
      clear h4
      go_wp2_with fail
      go_meet
      exact ⟨by rw [Hk4.out], rfl⟩
    · have b4 := bf h4
      have Hk4 := Lib.hid (show (8 : Int) = kk by rw [← Hkk.out, if_neg h4])
      clear h4
      go_wp2_with fail
      go_meet
      exact ⟨by rw [Hk4.out], rfl⟩
  case rest =>
  obtain ⟨rfl, rfl⟩ := hcut
  go_wp2_with fail
  go_loopg [4, 5, 6] (n1 + 1) (fun kk' s4 _ _ wr => ∃ j : Nat, s4 = .int .i64 (j : Int) ∧ j ≤ n1 ∧ n1 + 1 - j = kk' ∧ v = j + wntF kk (n1 - j) ∧ U = wr)
  case atStart => exact ⟨0, rfl, Nat.zero_le _, rfl, by rw [← Hv.out]; simp, rfl⟩
  case round =>
    obtain ⟨j, rfl, hj, hkj, hvj, rfl⟩ := hrel
    obtain ⟨r, hr⟩ : ∃ r, n1 - j = r := ⟨_, rfl⟩
    have ws : IntKind.i64.wrap ((n1 : Int) - (j : Int)) = (r : Int) := by rw [IntKind.wrap_i64]; have := Hn.out; omega
    have wk : IntKind.i64.wrap ((j : Int) + 1) = ((j + 1 : Nat) : Int) := by rw [IntKind.wrap_i64]; have := Hn.out; omega
    have Hr := Lib.hid hr; have Hvj := Lib.hid hvj; have Hj := Lib.hid hj; have Hkj := Lib.hid hkj
    clear hr hvj hj hkj
    go_wp2_with fail
    go_loopg [5, 6] r (fun kk2 s5 s6 wr2 => ∃ i : Nat, s6 = .int .i64 (i : Int) ∧ s5 = .int .i64 ((2 ^ i : Nat) : Int) ∧ i ≤ r ∧ r - i = kk2 ∧ U = wr2)
    case atStart => exact ⟨0, rfl, rfl, Nat.zero_le _, rfl, rfl⟩
    case round =>
      obtain ⟨i, rfl, rfl, hi, hki, rfl⟩ := hrel
      have Hki := Lib.hid hki
      by_cases hir : i = r
      · have q1 : ¬ (i : Int) < (r : Int) := by omega
        have hp : 0 < 2 ^ i := Nat.pow_pos (by decide)
        obtain ⟨p, hpp⟩ : ∃ p : Nat, 2 ^ i = p := ⟨_, rfl⟩
        rw [hpp] at hp ⊢
        have hp0 : ¬ (p : Int) = 0 := by omega
        by_cases ht : kk.tmod (p : Int) = 0
        · have Hst := Lib.hid (wnt_stop Hk0.out (r := r) (by rw [← hir, hpp]; exact ht))
          have hb : (kk.tmod (p : Int) == 0) = true := by simp [ht]
          have Hend := Lib.hid (show v = j by rw [Hvj.out, Hr.out, Hst.out]; rfl)
          clear ht hpp hp hir hi hki
          go_wp2_with fail
          go_ret
          exact ⟨congrArg (fun t : Nat => Ending.returned (Value.int .i64 (t : Int))) Hend.out.symm, HE.out⟩
        · obtain ⟨s, hs1, hs2⟩ := wnt_go Hk0.out (r := r) (by rw [← hir, hpp]; exact ht)
          have hb : (kk.tmod (p : Int) == 0) = false := by simpa using ht
          have Hs1 := Lib.hid hs1
          have Hnx := Lib.hid (show v = j + 1 + wntF kk (n1 - (j + 1)) by
            rw [Hvj.out, Hr.out, hs2, show n1 - (j + 1) = s by have := Hr.out; omega]
            omega)
          clear ht hpp hp hir hi hki hs1 hs2
          go_wp2_with fail
          go_roundg (n1 + 1 - (j + 1))
          case measure => have := Hr.out; have := Hs1.out; have := Hkj.out; omega
          case rel => exact ⟨j + 1, rfl, by have := Hr.out; have := Hs1.out; omega, rfl, Hnx.out, rfl⟩
      · have q1 : (i : Int) < (r : Int) := by omega
        have Hlt := Lib.hid (show i < r by omega)
        have hb : 2 ^ i ≤ 2 ^ 12 := Nat.pow_le_pow_right (by decide) (by have := Hr.out; have := Hn.out; omega)
        have e12 : (2 : Nat) ^ 12 = 4096 := by decide
        have hps : 2 ^ (i + 1) = 2 ^ i * 2 := Nat.pow_succ ..
        have wi : IntKind.i64.wrap ((i : Int) + 1) = ((i + 1 : Nat) : Int) := by rw [IntKind.wrap_i64]; have := Hr.out; have := Hn.out; omega
        obtain ⟨p, hpp⟩ : ∃ p : Nat, 2 ^ i = p := ⟨_, rfl⟩
        rw [hpp] at hb hps ⊢
        obtain ⟨p2, hp2⟩ : ∃ p2 : Nat, p * 2 = p2 := ⟨_, rfl⟩
        have wp : IntKind.i64.wrap ((p : Int) * 2) = (p2 : Int) := by rw [IntKind.wrap_i64]; omega
        have Hps := Lib.hid (show 2 ^ (i + 1) = p2 by rw [hps, hp2])
        clear hb e12 hps hpp hp2 hir hi hki
        go_wp2_with fail
        go_roundg (r - (i + 1))
        case measure => have := Hki.out; have := Hlt.out; omega
        case rel => exact ⟨i + 1, rfl, by rw [Hps.out], Hlt.out, rfl, rfl⟩

theorem spare_eq {o : Gop} {n B : Int} (f : OpFit o n B) : wntF (if o.kind = 4 then o.k else 8) o.ctl.length = wnt o := by
  unfold wnt ang
  by_cases hl : 0 < o.ctl.length
  · rcases f.use hl with e | e | e
    · rw [if_neg (by omega), if_pos (by omega)]
    · rw [if_neg (by omega), if_pos (by omega)]
    · rw [if_pos e, if_neg (by omega)]
  · have h0 : o.ctl.length = 0 := by omega
    rw [h0]
    rfl
theorem wnt12 {o : Gop} {n B : Int} (f : OpFit o n B) (hn : n ≤ 12) : o.ctl.length ≤ 12 := by
  by_cases hl : 0 < o.ctl.length
  · have := f.len hl hn; omega
  · omega
theorem mw12 {l : List Gop} (h : ∀ g ∈ l, g.ctl.length ≤ 12) : mwN l ≤ 12 := by
  have key : ∀ (l : List Gop) (m : Nat), m ≤ 12 → (∀ g ∈ l, g.ctl.length ≤ 12) → l.foldl (fun m g => max m (wnt g)) m ≤ 12 := by
    intro l
    induction l with
    | nil => intro m hm _; exact hm
    | cons a r ih =>
      intro m hm h
      refine ih _ ?_ (fun g hg => h g (by simp [hg]))
      have h1 := wntF_le (ang a) a.ctl.length
      have h2 := h a (by simp)
      have h3 : wnt a ≤ 12 := by unfold wnt; omega
      show max m (wnt a) ≤ 12
      omega
  exact key l 0 (by decide) h

set_option maxRecDepth 100000 in
set_option maxHeartbeats 4000000 in
theorem LowerFault_any (c : Gci) (ao : Option Addr) (n cp : Nat) (w : World) (h : OpsAt w ao n c.ops) (hn : n ≤ cp) (hcp : cp ≤ 9223372036854775807) :
    Calls Tryd.prog 6 #[.agg #[.int .i64 c.qubits, .int .i64 c.bits, .slice ao n cp]] w fun e w' => e = .returned (.tuple #[.int .i64 (if (lowF c).1 = 0 then (mwN c.ops : Int) else 0), .agg #[.int .i64 (lowF c).1, .int .i64 (lowF c).2]]) ∧ Ext w w' := by
  obtain ⟨F, hF⟩ : ∃ F, lowF c = F := ⟨_, rfl⟩
  obtain ⟨F0, F1⟩ := F
  obtain ⟨Mo, hMo⟩ : ∃ Mo : Int, (if F0 = 0 then (mwN c.ops : Int) else 0) = Mo := ⟨_, rfl⟩
  rw [hF]
  simp only
  rw [hMo]
  obtain ⟨qb, bi, ops⟩ := c
  obtain ⟨f, hf⟩ : ∃ f, chk ⟨qb, bi, ops⟩ = f := ⟨_, rfl⟩
  obtain ⟨f0, f1⟩ := f
  have hz : f0 = 0 → (1 ≤ qb ∧ qb ≤ 12) ∧ ops.length ≤ 4096 ∧ (∀ g ∈ ops, OpFit g qb bi) := by
    intro h0
    have hc : (chk ⟨qb, bi, ops⟩).1 = 0 := by rw [hf]; exact h0
    obtain ⟨_, h1, h2, h3, h4, h5, h6⟩ := chk_zero hc
    exact ⟨⟨h1, h2⟩, h5, fun g hg => opFit_of (h6 g hg)⟩
  unfold lowF at hF
  rw [hf] at hF
  simp only at hF hMo
  have Hz := Lib.hid hz; have Hf := Lib.hid hf; have HF := Lib.hid hF; have HMo := Lib.hid hMo
  obtain ⟨H, hH⟩ : ∃ H, w.heap.size = H := ⟨_, rfl⟩
  obtain ⟨W0, hW0⟩ : ∃ W0, (w.alloc (.cells #[.int .i64 qb, .int .i64 bi, .slice ao n cp] 24)).alloc (.cells #[.int .i64 0, .int .i64 0] 27) = W0 := ⟨_, rfl⟩
  have E0 : Ext w W0 := by rw [← hW0]; exact (ext_al w _).trans (ext_al _ _)
  have bC : CiB W0 H qb bi ao n cp := by rw [← hW0, ← hH]; exact CiB.ext ⟨heap_alloc_new w _⟩ (ext_al _ _)
  have bF : FtB W0 (H + 1) 0 0 := ⟨by
    have := heap_alloc_new (w.alloc (.cells #[.int .i64 qb, .int .i64 bi, .slice ao n cp] 24)) (.cells #[.int .i64 0, .int .i64 0] 27)
    rw [← hW0, ← hH]
    simpa using this⟩
  have HE0 := Lib.hid E0; have HO := Lib.hid (h.ext E0); have HC := Lib.hid bC; have HFt := Lib.hid bF
  have m0 := bC.x0; have m1 := bC.x1; have m2 := bC.x2
  have HH := Lib.hid hH; have HW0 := Lib.hid hW0; have HwH := Lib.hid (show w.heap.size ≤ H + 1 by omega)
  clear h E0 bC bF hF hf hz hMo hH hW0
  go_enter Tryd.func6, Tryd.ntmps6
  go_upto_region 1 with fail
  rw [HW0.out, HH.out]
  have HK := Lib.hid (RCheck_any ⟨qb, bi, ops⟩ ao n cp W0 HO.out hn hcp)
  rw [Hf.out] at HK
  go_wp2_with fail
  refine HK.out.mono ?_
  rintro e w1 ⟨rfl, hx1⟩
  have Ef := ext_al w1 (.cells #[.int .i64 f0, .int .i64 f1] 27)
  have bf1 : FtB (w1.alloc (.cells #[.int .i64 f0, .int .i64 f1] 27)) w1.heap.size f0 f1 := ⟨heap_alloc_new w1 _⟩
  have q0 := bf1.x0; have q1 := bf1.x1
  have HX1 := Lib.hid (hx1.trans Ef)
  have bz := HFt.out.ext HX1.out; have x0' := bz.x0; have x1' := bz.x1; have g0' := bz.f 0; have g1' := bz.f 1
  have bc := HC.out.ext HX1.out; have v0 := bc.x0; have v2 := bc.x2
  have HEz := Lib.hid (HE0.out.trans HX1.out)
  clear bz bc m0 m1 m2 hx1 Ef bf1 HK Hf HW0 HH
  by_cases hc0 : f0 = 0
  · obtain ⟨⟨hq1, hq2⟩, hlen, hfit⟩ := Hz.out hc0
    have hcb := nf' hc0
    have hnl := HO.out.1
    have hF2 := HF.out
    rw [if_neg (fun e => e hc0)] at hF2
    have HF2 := Lib.hid hF2; have Hfit := Lib.hid hfit; have Hn4 := Lib.hid (show n ≤ 4096 by omega); have Hnl := Lib.hid hnl; have Hq := Lib.hid (show 1 ≤ qb ∧ qb ≤ 12 from ⟨hq1, hq2⟩)
    have Hmw := Lib.hid (mw12 (fun g hg => wnt12 (hfit g hg) hq2))
    have HOw := Lib.hid (HO.out.ext HX1.out); have HFw := Lib.hid (HFt.out.ext HX1.out); have HCw := Lib.hid (HC.out.ext HX1.out)
    clear hc0 Hz HF hlen hfit hnl hq1 hq2 hF2 HO HFt HC HX1 HE0 x0' x1' g0' g1'
    go_upto_region 4 with fail
    generalize w1.alloc (.cells #[.int .i64 f0, .int .i64 f1] 27) = W1 at *
    generalize w1.heap.size = FB at *
    clear q0 q1 v0
    go_wp2_with fail
    go_loopg [5, 6, 7, 8] n (fun kk s5 s6 s7 _ wr => ∃ i : Nat, s7 = .int .i64 (i : Int) ∧ s5 = .int .i64 ((n : Int) + 220 * cntP hasC (ops.take i)) ∧ s6 = .int .i64 (mwN (ops.take i) : Nat) ∧ i ≤ n ∧ n - i = kk ∧ Ext W1 wr)
    case atStart => exact ⟨0, rfl, by simp [cntP], rfl, Nat.zero_le _, rfl, Ext.refl _⟩
    case round =>
      obtain ⟨i, rfl, rfl, rfl, hi, hk, hE⟩ := hrel
      have HE := Lib.hid hE; have Hk := Lib.hid hk
      have bc := HCw.out.ext hE
      clear v2
      have v2 := bc.x2; have v0 := bc.x0
      clear bc
      by_cases hin : i = n
      · have q1 : ¬ (i : Int) < (n : Int) := by omega
        have hst : ops.take i = ops := List.take_of_length_le (by have := Hnl.out; omega)
        rw [hst]
        obtain ⟨S, hS⟩ : ∃ S, (n : Int) + 220 * cntP hasC ops = S := ⟨_, rfl⟩
        obtain ⟨m, hm⟩ : ∃ m, mwN ops = m := ⟨_, rfl⟩
        have hF3 := HF2.out
        have hMo := HMo.out
        have hm12 := Hmw.out
        rw [Hnl.out, hS, hm] at hF3
        rw [hm] at hMo hm12
        rw [hS, hm]
        have hq := Hq.out
        obtain ⟨qm, hqm⟩ : ∃ qm, qb + (m : Int) = qm := ⟨_, rfl⟩
        have wq : IntKind.i64.wrap (qb + (m : Int)) = qm := by rw [IntKind.wrap_i64]; omega
        rw [hqm] at hF3
        have HEe := Lib.hid (HEz.out.trans HE.out)
        have Hz := Lib.hid (HFw.out.ext HE.out)
        clear hin hi hk hE hst hS hm hq hm12 hqm
        by_cases hs : 4096 < S
        · rw [if_pos hs] at hF3
          have HFF := Lib.hid (show F0 = 21 ∧ F1 = 0 from ⟨(congrArg Prod.fst hF3).symm, (congrArg Prod.snd hF3).symm⟩)
          have HM0 := Lib.hid (show Mo = 0 by rw [← hMo, HFF.out.1, if_neg (by decide)])
          clear hF3 hMo
          go_wp2_with fail
          refine (rfault_any 21 0 _).mono ?_
          rintro e wz ⟨rfl, hxz⟩
          have bz := Hz.out.ext hxz; have x0' := bz.x0; have x1' := bz.x1; have g0' := bz.f 0; have g1' := bz.f 1; have HEy := Lib.hid (HEe.out.trans hxz)
          clear bz hxz v0 v2
          go_wp2_with fail
          exact bodyPost_ret (v := .tuple #[.int .i64 0, .agg #[.int .i64 21, .int .i64 0]]) (by simp [results, Tryd.results6, go_sem, x0', x1']) rfl ⟨by rw [HFF.out.1, HFF.out.2, HM0.out], put2x HEy.out HwH.out _ _⟩
        · rw [if_neg hs] at hF3
          by_cases hr : 12 < qm
          · rw [if_pos hr] at hF3
            have HFF := Lib.hid (show F0 = 36 ∧ F1 = 0 from ⟨(congrArg Prod.fst hF3).symm, (congrArg Prod.snd hF3).symm⟩)
            have HM0 := Lib.hid (show Mo = 0 by rw [← hMo, HFF.out.1, if_neg (by decide)])
            clear hF3 hMo
            go_wp2_with fail
            refine (rfault_any 36 0 _).mono ?_
            rintro e wz ⟨rfl, hxz⟩
            have bz := Hz.out.ext hxz; have x0' := bz.x0; have x1' := bz.x1; have g0' := bz.f 0; have g1' := bz.f 1; have HEy := Lib.hid (HEe.out.trans hxz)
            clear bz hxz v0 v2
            go_wp2_with fail
            exact bodyPost_ret (v := .tuple #[.int .i64 0, .agg #[.int .i64 36, .int .i64 0]]) (by simp [results, Tryd.results6, go_sem, x0', x1']) rfl ⟨by rw [HFF.out.1, HFF.out.2, HM0.out], put2x HEy.out HwH.out _ _⟩
          · rw [if_neg hr] at hF3
            have HFF := Lib.hid (show F0 = 0 ∧ F1 = 0 from ⟨(congrArg Prod.fst hF3).symm, (congrArg Prod.snd hF3).symm⟩)
            have HM0 := Lib.hid (show Mo = (m : Int) by rw [← hMo, HFF.out.1, if_pos rfl])
            have bz := Hz.out; have x0' := bz.x0; have x1' := bz.x1; have g0' := bz.f 0; have g1' := bz.f 1
            clear hF3 hMo bz
            go_wp2_with fail
            exact bodyPost_ret (v := .tuple #[.int .i64 (m : Int), .agg #[.int .i64 0, .int .i64 0]]) (by simp [results, Tryd.results6, go_sem, x0', x1']) rfl ⟨by rw [HFF.out.1, HFF.out.2, HM0.out], put2x HEe.out HwH.out _ _⟩
      have hlt : i < n := by omega
      have q1 : (i : Int) < (n : Int) := by omega
      have q0 : (0 : Int) ≤ (i : Int) := by omega
      have wk : IntKind.i64.wrap ((i : Int) + 1) = ((i + 1 : Nat) : Int) := by rw [IntKind.wrap_i64]; have := Hn4.out; omega
      have hil : i < ops.length := by have := Hnl.out; omega
      obtain ⟨g, hg⟩ : ∃ g, ops[i]? = some g := ⟨_, List.getElem?_eq_getElem hil⟩
      obtain ⟨b, o, rfl⟩ := HOw.out.some_of (by omega)
      obtain ⟨a1, n1, c1, a2, n2, c2, e0, e1, e2, e3, e4, e5, hL⟩ := ((HOw.out.ext hE).at i g hg)
      have hst := take_g hg
      have hn1 := hL.i1.1
      have hft := Hfit.out g (List.mem_of_getElem? hg)
      have h12 := wnt12 hft Hq.out.2
      have hsp := spare_eq hft
      have Hmst := Lib.hid (show mwN (ops.take (i + 1)) = max (mwN (ops.take i)) (wnt g) by rw [hst, mwN_snoc])
      have bd := cntP_bound hasC (ops.take i)
      have bl : (ops.take i).length ≤ 4096 := by rw [List.length_take]; have := Hn4.out; omega
      have hyes : hasC g = true → (n : Int) + 220 * cntP hasC (ops.take (i + 1)) = (n : Int) + 220 * cntP hasC (ops.take i) + 220 := fun e => by rw [hst, cntP_yes e]; omega
      have hno : hasC g = false → (n : Int) + 220 * cntP hasC (ops.take (i + 1)) = (n : Int) + 220 * cntP hasC (ops.take i) := fun e => by rw [hst, cntP_no e]
      obtain ⟨C, hC⟩ : ∃ C, (n : Int) + 220 * cntP hasC (ops.take i) = C := ⟨_, rfl⟩
      have bC : 0 ≤ C ∧ C ≤ 1000000 := by have := Hn4.out; omega
      rw [hC] at hyes hno ⊢
      obtain ⟨C1, hC1⟩ : ∃ C1, C + 220 = C1 := ⟨_, rfl⟩
      have wc : IntKind.i64.wrap (C + 220) = C1 := by rw [IntKind.wrap_i64]; omega
      rw [hC1] at hyes
      obtain ⟨m, hm⟩ : ∃ m, mwN (ops.take i) = m := ⟨_, rfl⟩
      rw [hm] at Hmst ⊢
      obtain ⟨kd, k, ctl, q, bt, cnd⟩ := g
      have hk0 : 0 ≤ k := hft.k.1
      simp only at e0 e1 e2 e3 e4 e5 hn1 h12 hsp
      have HSp := Lib.hid (fun wx => Spares_any kd k a1 n1 c1 q bt a2 n2 c2 wx hk0 (by omega))
      rw [hn1] at hsp
      rw [hsp] at HSp
      obtain ⟨V, hV⟩ : ∃ V, wnt ⟨kd, k, ctl, q, bt, cnd⟩ = V := ⟨_, rfl⟩
      rw [hV] at HSp Hmst
      have Hlt := Lib.hid hlt
      have Hyes := Lib.hid hyes; have Hno := Lib.hid hno
      clear hst bd bl bC hyes hno hC hC1 hlt hil hg hL hin hi hE hk hft h12 hsp hm hk0 hV v0
      go_upto_if 32 with fail
      go_cut [5] from 25 to 34 (fun s5 wx => s5 = .int .i64 ((n : Int) + 220 * cntP hasC (ops.take (i + 1))) ∧ wr = wx)
      case first =>
        by_cases hc : 0 < n1
        · have q2 : (0 : Int) < (n1 : Int) := by omega
          have Hs := Lib.hid (Hyes.out (decide_eq_true (show 0 < ctl.length by omega)))
          clear hc hn1
          go_wp2_with fail
          go_meet
          exact ⟨by rw [Hs.out], rfl⟩
        · have q2 : ¬ (0 : Int) < (n1 : Int) := by omega
          have Hs := Lib.hid (Hno.out (decide_eq_false (show ¬ 0 < ctl.length by omega)))
          clear hc hn1
          go_wp2_with fail
          go_meet
          exact ⟨by rw [Hs.out], rfl⟩
      case rest =>
      obtain ⟨rfl, rfl⟩ := hcut
      clear hn1 Hyes Hno
      by_cases hmx : m < V
      · have q3 : (m : Int) < (V : Int) := by omega
        have Hm2 := Lib.hid (show mwN (ops.take (i + 1)) = V by rw [Hmst.out]; omega)
        clear hmx Hmst
        go_wp2_with fail
        refine (HSp.out wr).mono ?_
        rintro e w6 ⟨rfl, hx6⟩
        have HE6 := Lib.hid (HE.out.trans hx6)
        clear hx6 HSp e0 e1 e2 e3 e4 e5 v2
        go_wp2_with fail
        go_roundg (n - (i + 1))
        case measure => have := Hk.out; have := Hlt.out; omega
        case rel => exact ⟨i + 1, rfl, rfl, by rw [Hm2.out], Hlt.out, rfl, HE6.out⟩
      · have q3 : ¬ (m : Int) < (V : Int) := by omega
        have Hm2 := Lib.hid (show mwN (ops.take (i + 1)) = m by rw [Hmst.out]; omega)
        clear hmx Hmst
        go_wp2_with fail
        refine (HSp.out wr).mono ?_
        rintro e w6 ⟨rfl, hx6⟩
        have HE6 := Lib.hid (HE.out.trans hx6)
        clear hx6 HSp e0 e1 e2 e3 e4 e5 v2
        go_wp2_with fail
        go_roundg (n - (i + 1))
        case measure => have := Hk.out; have := Hlt.out; omega
        case rel => exact ⟨i + 1, rfl, rfl, by rw [Hm2.out], Hlt.out, rfl, HE6.out⟩
  · have hcb := nt hc0
    have HFF := Lib.hid (show F0 = f0 ∧ F1 = f1 by
      have := HF.out
      rw [if_pos hc0] at this
      exact ⟨(congrArg Prod.fst this).symm, (congrArg Prod.snd this).symm⟩)
    have HM0 := Lib.hid (show Mo = 0 by rw [← HMo.out, HFF.out.1, if_neg hc0])
    clear HF hc0 Hz
    go_upto_region 3 with fail
    go_region
    go_wp2_with fail
    exact bodyPost_ret (v := .tuple #[.int .i64 0, .agg #[.int .i64 f0, .int .i64 f1]]) (by simp [results, Tryd.results6, go_sem, x0', x1']) rfl ⟨by rw [HFF.out.1, HFF.out.2, HM0.out], Below.drew (put2x HEz.out HwH.out _ _)⟩
end Go.Proofs.YthgmlhddanbbpaaDoor
