/-
  The example of the document that every law of devices asks for. What Fit answers is a circuit that the device can do; the law's own look at places. The reference's SameInts and SameCircuit, of alike lists and circuits. RouteKeeps, in plain numbers: both shots end alike, the device's spread to the last places. RouteFits' walk. Laws for a region that draws its order, with allocs among calls.
-/
import Derived.Test.YtlmfhopifggeaaaDoorProg
import Derived.Test.YtlmfhopifggeaaaDoorRows
import Derived.BigQuiet
import Derived.Deep.AppendLies
import Derived.Deep.Cut
import Derived.Deep.CutRange
import Derived.Deep.LoopGhost
import Derived.Deep.MidRow
import Derived.Deep.QuietTactic
import Derived.Deep.RegionHeld3
import Derived.Defers
import Derived.Ground.Names2Prog
import Derived.Ground.SlgnProg
import Derived.Laws.AppendOwnNone
import Derived.Laws.Bits64b
import Derived.Laws.Concat
import Derived.Laws.CopyOwn
import Derived.Laws.IdiomCopy
import Derived.Laws.IdiomStrings
import Derived.Laws.ResultCell
import Derived.Laws.Rows
import Derived.Lib.AppendIntMem
import Derived.Lib.AppendStr
import Derived.Lib.AppendZeros
import Derived.Lib.AppendZerosOnto
import Derived.Lib.BitFns
import Derived.Lib.Hide
import Derived.Lib.ItoaMem
import Derived.Lib.ItoaNum
import Derived.Lib.Strings
import Derived.Lib.TrailingZeros
import Derived.LoopIn
import Derived.LoopNIn
import Derived.Maps.AppendAt
import Derived.OrdersHeld
import Derived.OrdersIn
import Derived.OwnWalk
import Derived.OwnWalkIn
import Derived.ProofKit
import Derived.RangeFuncBound
import Derived.RangeFuncCalls
import Derived.RangeFuncFrom
import Derived.RangeFuncLeaves
import Derived.Recover
import Derived.RegionTactic
import Derived.Shelf.Abstract
import Derived.Shelf.Slices.Clone
import Derived.Shelf.SlicesE.Clone
import Derived.Shelf.Spec.TrailingZeros
import Derived.TacticsInMore
import Derived.WalkKit
import Derived.WalkLawsBesides
import Derived.WalkSpells
import Derived.Test.YtlmfhopifggeaaaDoorS00Mem
import Derived.Test.YtlmfhopifggeaaaDoorShelf
import Derived.Test.YtlmfhopifggeaaaDoorS02ZBq
import Derived.Test.YtlmfhopifggeaaaDoorS03ZKq
import Derived.Test.YtlmfhopifggeaaaDoorS04Udq
import Derived.Test.YtlmfhopifggeaaaDoorS05Wf
import Derived.Test.YtlmfhopifggeaaaDoorS06Xfq
import Derived.Test.YtlmfhopifggeaaaDoorS07Cn
import Derived.Test.YtlmfhopifggeaaaDoorS08Cj
import Derived.Test.YtlmfhopifggeaaaDoorS09Mb
import Derived.Test.YtlmfhopifggeaaaDoorS10Mf
import Derived.Test.YtlmfhopifggeaaaDoorS11Mh
import Derived.Test.YtlmfhopifggeaaaDoorS12Mm
import Derived.Test.YtlmfhopifggeaaaDoorS13Ms
import Derived.Test.YtlmfhopifggeaaaDoorS14Pi
import Derived.Test.YtlmfhopifggeaaaDoorS15Pk
import Derived.Test.YtlmfhopifggeaaaDoorS16Pj
import Derived.Test.YtlmfhopifggeaaaDoorS17Mv
namespace Go.Proofs.YtlmfhopifggeaaaDoor
open Go.RowKit

def bgCr : Gci := ⟨3, 0, [xc 2 0]⟩
def bgLn : List Lnk := [(0, 1), (1, 2)]
theorem bg_fit : fitF bgCr 3 bgLn = (0, 0) := by decide +kernel
theorem Ftd.pos {W : List Nat} {M Q : Nat} {ops out : List Gop} {st : List Int} (h : Ftd W M Q ops out st) (hn : ops ≠ []) : 1 ≤ out.length := by
  cases h with
  | nil => exact absurd rfl hn
  | snoc g _ _ _ _ _ _ => rw [List.length_append, List.length_append]; simp only [List.length_cons, List.length_nil]; omega
theorem rt_row {w : World} {g : Nat} {a b c d e : Value} {T : TypeId} (h : w.heap[g]? = some (.cells #[a, b, c, d, e] T (0, 0))) : w.cell? ⟨g, 0, none⟩ = some a ∧ w.cell? ⟨g, 1, none⟩ = some b ∧ w.cell? ⟨g, 2, none⟩ = some c ∧ w.cell? ⟨g, 3, none⟩ = some d ∧ w.cell? ⟨g, 4, none⟩ = some e :=
  ⟨by rw [cell_of_row w g 0 _ _ (0, 0) h]; rfl, by rw [cell_of_row w g 1 _ _ (0, 0) h]; rfl, by rw [cell_of_row w g 2 _ _ (0, 0) h]; rfl, by rw [cell_of_row w g 3 _ _ (0, 0) h]; rfl, by rw [cell_of_row w g 4 _ _ (0, 0) h]; rfl⟩

set_option maxRecDepth 100000 in
set_option maxHeartbeats 4000000 in
theorem routeBegun_any (w : World) (hS : Shp w) (hT : BruM w) : Calls Tryd.prog 9 #[] w fun e w' => e = .returned (.bool true) ∧ Ext w w' := by
  obtain ⟨H, hH⟩ : ∃ H, w.heap.size = H := ⟨_, rfl⟩
  obtain ⟨A1, hA1⟩ : ∃ A, w.alloc (.cells #[.int .i64 0, .int .i64 1, .int .i64 1, .int .i64 2] 76) = A := ⟨_, rfl⟩
  have s1 : A1.heap.size = H + 1 := by rw [← hA1, World.size_alloc, hH]
  have E1 : Ext w A1 := by rw [← hA1]; exact ext_al _ _
  have R1 : A1.heap[H]? = some (.cells #[.int .i64 0, .int .i64 1, .int .i64 1, .int .i64 2] 76 (0, 0)) := by rw [← hA1, ← hH]; exact heap_alloc_new _ _
  obtain ⟨A2, hA2⟩ : ∃ A, A1.alloc (.cells #[.int .i64 3, .slice (some ⟨H, 0, none⟩) 2 2] 24) = A := ⟨_, rfl⟩
  have s2 : A2.heap.size = H + 2 := by rw [← hA2, World.size_alloc, s1]
  have E2 : Ext A1 A2 := by rw [← hA2]; exact ext_al _ _
  have R2 : DvB A2 (H + 1) 3 (some ⟨H, 0, none⟩) 2 2 := ⟨by rw [← hA2, ← s1]; exact heap_alloc_new _ _⟩
  obtain ⟨A3, hA3⟩ : ∃ A, A2.alloc (.cells #[.int .i64 0] 3) = A := ⟨_, rfl⟩
  have s3 : A3.heap.size = H + 3 := by rw [← hA3, World.size_alloc, s2]
  have E3 : Ext A2 A3 := by rw [← hA3]; exact ext_al _ _
  have R3 : A3.heap[H + 2]? = some (.cells #[.int .i64 0] 3 (0, 0)) := by rw [← hA3, ← s2]; exact heap_alloc_new _ _
  obtain ⟨A4, hA4⟩ : ∃ A, A3.alloc (.cells #[.int .i64 2, .int .i64 0, .slice (some ⟨H + 2, 0, none⟩) 1 1, .int .i64 2, .int .i64 0, .slice none 0 0] 46) = A := ⟨_, rfl⟩
  have E4 : Ext A3 A4 := by rw [← hA4]; exact ext_al _ _
  have R4 : A4.heap[H + 3]? = some (.cells #[.int .i64 2, .int .i64 0, .slice (some ⟨H + 2, 0, none⟩) 1 1, .int .i64 2, .int .i64 0, .slice none 0 0] 46 (0, 0)) := by rw [← hA4, ← s3]; exact heap_alloc_new _ _
  have hE4 := (E1.trans E2).trans (E3.trans E4)
  have hL : LnkAt A4 (some ⟨H, 0, none⟩) 2 bgLn := by
    have r := ((E2.trans (E3.trans E4)).block _ (Array.getElem?_eq_some_iff.1 R1).1).trans R1
    refine ⟨rfl, Or.inr ⟨H, 0, rfl, (Array.getElem?_eq_some_iff.1 r).1, fun t ht => ?_⟩⟩
    have : t = 0 ∨ t = 1 := by omega
    rcases this with rfl | rfl
    · exact ⟨by rw [cell_of_row A4 H _ _ _ (0, 0) r]; rfl, by rw [cell_of_row A4 H _ _ _ (0, 0) r]; rfl⟩
    · exact ⟨by rw [cell_of_row A4 H _ _ _ (0, 0) r]; rfl, by rw [cell_of_row A4 H _ _ _ (0, 0) r]; rfl⟩
  have hO : OpsAt A4 (some ⟨H + 3, 0, none⟩) 1 bgCr.ops := by
    have r3 := (E4.block _ (Array.getElem?_eq_some_iff.1 R3).1).trans R3
    refine ⟨rfl, Or.inr ⟨H + 3, 0, rfl, (Array.getElem?_eq_some_iff.1 R4).1, fun t g hg => ?_⟩⟩
    have ht : t = 0 := by
      have := (List.getElem?_eq_some_iff.1 hg).1
      have h1 : bgCr.ops.length = 1 := rfl
      omega
    subst ht
    have hg' : g = xc 2 0 := by
      have : bgCr.ops[0]? = some (xc 2 0) := rfl
      rw [this] at hg
      exact (Option.some.inj hg).symm
    subst hg'
    refine ⟨some ⟨H + 2, 0, none⟩, 1, 1, none, 0, 0, by rw [cell_of_row A4 (H + 3) _ _ _ (0, 0) R4]; rfl, by rw [cell_of_row A4 (H + 3) _ _ _ (0, 0) R4]; rfl, by rw [cell_of_row A4 (H + 3) _ _ _ (0, 0) R4]; rfl, by rw [cell_of_row A4 (H + 3) _ _ _ (0, 0) R4]; rfl, by rw [cell_of_row A4 (H + 3) _ _ _ (0, 0) R4]; rfl, by rw [cell_of_row A4 (H + 3) _ _ _ (0, 0) R4]; rfl, ?_⟩
    refine ⟨⟨rfl, Or.inr ⟨H + 2, 0, rfl, (Array.getElem?_eq_some_iff.1 r3).1, fun t ht => ?_⟩⟩, Nat.le_refl _, by decide, ⟨rfl, Or.inl rfl⟩, Nat.le_refl _, by decide⟩
    have : t = 0 := by omega
    subst this
    rw [cell_of_row A4 (H + 2) _ _ _ (0, 0) r3]; rfl
  have HFit := Lib.hid (Fit_any bgCr (some ⟨H + 3, 0, none⟩) 1 1 3 bgLn (some ⟨H, 0, none⟩) 2 2 A4 hO (by omega) (by decide) hL (by decide) (hS.ext hE4) (bruM_ext hT hE4))
  have R24 := R2.ext (E3.trans E4)
  have v0 := R24.x0; have v1 := R24.x1
  have HA1 := Lib.hid hA1; have HA2 := Lib.hid hA2; have HA3 := Lib.hid hA3; have HA4 := Lib.hid hA4; have HH := Lib.hid hH; have Hs1 := Lib.hid s1; have Hs2 := Lib.hid s2; have Hs3 := Lib.hid s3; have HE4 := Lib.hid hE4
  have hq : (A1.heap.size = H + 1) := s1
  clear hS hT hA1 hA2 hA3 hA4 hH E1 E2 E3 E4 R1 R2 R3 R4 hE4 hL hO R24 s1 s2 s3 hq
  go_enter Tryd.func9, Tryd.ntmps9
  go_upto_region 2 with fail
  rw [HA1.out, HH.out, HA2.out]
  have s2 := Hs2.out
  rw [← HA4.out, ← HA3.out] at v0 v1
  go_wp2_with fail
  rw [HA3.out, HA4.out]
  clear v0 v1 s2
  refine HFit.out.mono ?_
  rintro e w1 ⟨rq, rb, oa, on, oc, sa, sn, sc, ea, en, ec, out, s0, st, rfl, ⟨hO1, hO2, hO3⟩, ⟨hI1, _, _⟩, _, hR, _, hE1⟩
  obtain ⟨rfl, rfl, rfl, hFt⟩ := hR.2 (by rw [bg_fit])
  have hl1 : out.length = on := hO1.1
  have hl2 : (plN bgCr.qubits.toNat).length = sn := hI1.1
  have hsn : sn = 3 := by rw [← hl2, plN_len]; rfl
  have hp := hFt.pos (by unfold bgCr; simp)
  have hf := hFt.few (fun g hg => by
    have : g = xc 2 0 := by unfold bgCr at hg; simpa using hg
    rw [this]; decide)
  have hk : rckN (((3 : Int).toNat : Nat) : Int) bgCr.ops = 4 := by decide +kernel
  rw [hk] at hf
  subst hsn
  rw [bg_fit]
  simp only
  have q1 : (1 : Int) ≤ (on : Int) := by omega
  have q2 : (on : Int) ≤ 4 := by omega
  have rR := heap_alloc_new w1 (.cells #[.int .i64 3, .int .i64 bgCr.bits, .slice oa on oc, .slice sa 3 sc, .slice ea en ec] 38)
  have HEf := Lib.hid ((HE4.out.trans hE1).trans ((ext_al w1 (.cells #[.int .i64 3, .int .i64 bgCr.bits, .slice oa on oc, .slice sa 3 sc, .slice ea en ec] 38)).trans (ext_al _ (.cells #[.int .i64 0, .int .i64 0] 27))))
  have rR2 := ((ext_al (w1.alloc (.cells #[.int .i64 3, .int .i64 bgCr.bits, .slice oa on oc, .slice sa 3 sc, .slice ea en ec] 38)) (.cells #[.int .i64 0, .int .i64 0] 27)).block _ (Array.getElem?_eq_some_iff.1 rR).1).trans rR
  have rF := heap_alloc_new (w1.alloc (.cells #[.int .i64 3, .int .i64 bgCr.bits, .slice oa on oc, .slice sa 3 sc, .slice ea en ec] 38)) (.cells #[.int .i64 0, .int .i64 0] 27)
  rw [World.size_alloc] at rF
  obtain ⟨x0, x1, x2, x3, x4⟩ := rt_row rR2
  have bF : FtB _ _ 0 0 := ⟨rF⟩
  have y0 := bF.x0; have y1 := bF.x1
  clear rR rR2 rF bF hl1 hl2 hp hf hk hFt hR hE1 hO1 hI1 HFit
  go_wp2_with fail
  go_ret
  exact ⟨rfl, HEf.out⟩
end Go.Proofs.YtlmfhopifggeaaaDoor
namespace Go.Proofs.YtlmfhopifggeaaaDoor
open Go.RowKit

theorem opCode_iff (o : Gop) (n b : Int) : opCode o n b = 0 ↔ (1 ≤ o.kind ∧ o.kind ≤ 6) ∧ fitsB o.k 16 (usesK o.kind) = true ∧ fitsB o.q n (usesQ o.kind) = true ∧ (0 < o.ctl.length → usesC o.kind = true) ∧ ctlCode o.q n [] o.ctl = 0 ∧ fitsB o.bit b (usesB o.kind) = true ∧ cndOk b o.cnd = true := by
  unfold opCode
  constructor
  · intro h
    split at h
    · omega
    rename_i h1
    split at h
    · omega
    rename_i h2
    split at h
    · omega
    rename_i h3
    split at h
    · omega
    rename_i h4
    split at h
    · exact absurd h (by assumption)
    rename_i h5
    split at h
    · omega
    rename_i h6
    split at h
    · omega
    rename_i h7
    refine ⟨by omega, by simpa using h2, by simpa using h3, fun hl => ?_, by simpa using h5, by simpa using h6, by simpa using h7⟩
    apply Classical.byContradiction
    intro hn
    exact h4 ⟨hl, by simpa using hn⟩
  · rintro ⟨h1, h2, h3, h4, h5, h6, h7⟩
    rw [if_neg (by omega), if_neg (by rw [h2]; decide), if_neg (by rw [h3]; decide), if_neg (by
      rintro ⟨hl, hu⟩
      rw [h4 hl] at hu
      cases hu), if_neg (by rw [h5]; decide), if_neg (by rw [h6]; decide), if_neg (by rw [h7]; decide)]
theorem below_ofM {x n : Int} (h0 : 0 ≤ x) (h1 : x < n) : below x n = true := by unfold below; simp [h0, h1]
theorem xc_code {q c n b : Int} (_hb : 0 ≤ b) (hq : 0 ≤ q ∧ q < n) (hc : 0 ≤ c ∧ c < n) (hne : c ≠ q) : opCode (xc q c) n b = 0 := by
  rw [opCode_iff]
  refine ⟨⟨show (1 : Int) ≤ 2 by decide, show (2 : Int) ≤ 6 by decide⟩, rfl, below_ofM hq.1 hq.2, fun _ => rfl, ?_, rfl, rfl⟩
  show ctlCode q n [] [c] = 0
  unfold ctlCode
  rw [below_ofM hc.1 hc.2, if_neg (by decide), if_neg (by simp [hne])]
  rfl
theorem xc_wr (q c : Int) : isWr (xc q c) = false := rfl
theorem mapO_wr (st : List Int) (g : Gop) : isWr (mapO st g) = isWr g := by
  unfold isWr isCt mapO
  simp only [List.length_map]
/-- An operation on linked qubits of a device. -/
structure OutOk (N bits : Int) (ls : List Lnk) (o : Gop) : Prop where
  code : opCode o N bits = 0
  wr : isWr o = false
  lnk : ∀ c, o.ctl = [c] → lkd ls c o.q = true
theorem Mvs.out {W : List Nat} {st st' : List Int} {g : List Gop} {k : Nat} (h : Mvs W st g st' k) : ∀ o ∈ g, ∃ f p : Nat, lk W f p = true ∧ (o = xc (p : Int) (f : Int) ∨ o = xc (f : Int) (p : Int)) := by
  induction h with
  | nil => intro o ho; simp at ho
  | snoc f p _ hl ih =>
    intro o ho
    rcases List.mem_append.1 ho with ho | ho
    · exact ih o ho
    · unfold exO at ho
      simp only [List.mem_cons, List.not_mem_nil, or_false] at ho
      rcases ho with rfl | rfl | rfl
      · exact ⟨f, p, hl, Or.inl rfl⟩
      · exact ⟨f, p, hl, Or.inr rfl⟩
      · exact ⟨f, p, hl, Or.inl rfl⟩
theorem StOk.nat {st : List Int} {Q M : Nat} (h : StOk st Q M) {c : Int} {x : Nat} (hc : c = (x : Int)) (hx : x < Q) : ∃ y : Nat, stA st c = (y : Int) ∧ y < M := by
  obtain ⟨y, h1, h2⟩ := h.at hx
  exact ⟨y, by unfold stA; rw [hc, Int.toNat_natCast]; exact h1, h2⟩
theorem ftd_out {N bits : Int} {ls : List Lnk} (hd : DevOk N ls) {Q : Nat} (hQ1 : 1 ≤ Q) (hQ : (Q : Int) ≤ 12) (hb0 : 0 ≤ bits) (hb : bits ≤ 12) {ops out : List Gop} {st : List Int} (h : Ftd (webOf ls) N.toNat Q ops out st) (hok : ∀ g ∈ ops, opCode g (Q : Int) bits = 0 ∧ isWr g = false) : ∀ o ∈ out, OutOk N bits ls o := by
  have hNn : ((N.toNat : Nat) : Int) = N := by have := hd.n1; omega
  induction h with
  | nil => intro o ho; simp at ho
  | @snoc ops0 out0 st0 mv0 st1 j0 g hf hm hj hz hl hs ih =>
    intro o ho
    rcases List.mem_append.1 ho with ho | ho
    · exact ih (fun g hg => hok g (by simp [hg])) o ho
    rcases List.mem_append.1 ho with ho | ho
    · obtain ⟨f, p, hfp, e⟩ := hm.out o ho
      obtain ⟨h1, h2, h3⟩ := hd.web.lt f p hfp
      have h4 := hd.tells f p
      rw [hfp] at h4
      rcases e with rfl | rfl
      · exact ⟨xc_code hb0 (by omega) (by omega) (by omega), xc_wr _ _, fun c hc => by
          have : c = (f : Int) := by unfold xc at hc; simpa using hc.symm
          subst this; exact h4.symm⟩
      · exact ⟨xc_code hb0 (by omega) (by omega) (by omega), xc_wr _ _, fun c hc => by
          have : c = (p : Int) := by unfold xc at hc; simpa using hc.symm
          subst this
          rw [lkd_comm]; exact h4.symm⟩
    · have ho' : o = mapO st1 g := by simpa using ho
      subst ho'
      obtain ⟨hc, hw⟩ := hok g (by simp)
      have hfit := doFit_of (by omega) hQ hb0 hb hc
      rw [Int.toNat_natCast] at hfit
      obtain ⟨⟨x, hx, hxQ, hctl⟩, _⟩ := hfit
      obtain ⟨p1, p2, p3, p4, p5, p6, p7⟩ := (opCode_iff _ _ _).1 hc
      obtain ⟨y, hy, hyM⟩ := hs.nat hx hxQ
      have hlen := wr_len hw
      have hk2 : ∀ c, g.ctl = [c] → g.kind ≠ 1 := fun c e e1 => by
        have := p4 (by rw [e]; exact Nat.zero_lt_one)
        unfold usesC at this
        rw [e1] at this
        simp at this
      refine ⟨(opCode_iff _ _ _).2 ⟨p1, p2, ?_, ?_, ?_, p6, p7⟩, by rw [mapO_wr]; exact hw, ?_⟩
      · show fitsB (if g.kind = 1 then g.q else stA st1 g.q) N (usesQ g.kind) = true
        by_cases e : g.kind = 1
        · rw [if_pos e]
          have e2 : usesQ g.kind = false := by unfold usesQ; rw [e]; rfl
          rw [e2] at p3 ⊢
          exact p3
        · rw [if_neg e]
          have e2 : usesQ g.kind = true := by unfold usesQ; simp [e]
          rw [e2, hy]
          exact below_ofM (x := (y : Int)) (n := N) (by omega) (by omega)
      · show 0 < (g.ctl.map (stA st1)).length → usesC g.kind = true
        rw [List.length_map]; exact p4
      · show ctlCode (if g.kind = 1 then g.q else stA st1 g.q) N [] (g.ctl.map (stA st1)) = 0
        match hgc : g.ctl with
        | [] => rfl
        | [c] =>
          rw [if_neg (hk2 c hgc)]
          obtain ⟨z, hz1, hzQ, hzx⟩ := hctl c (by rw [hgc]; simp)
          obtain ⟨t, ht, htM⟩ := hs.nat hz1 hzQ
          have hne : stA st1 c ≠ stA st1 g.q := fun e => by
            unfold stA at e
            rw [hz1, hx, Int.toNat_natCast, Int.toNat_natCast] at e
            exact hzx (hs.inj hzQ hxQ e)
          show ctlCode (stA st1 g.q) N [] [stA st1 c] = 0
          unfold ctlCode
          rw [below_ofM (by omega) (by omega), if_neg (by decide), if_neg (by simp [hne])]
          rfl
        | c :: d :: r => rw [hgc] at hlen; simp at hlen
      · intro c hcc
        show lkd ls c (if g.kind = 1 then g.q else stA st1 g.q) = true
        match hgc : g.ctl with
        | [] =>
          have : (mapO st1 g).ctl = [] := by unfold mapO; rw [hgc]; rfl
          rw [this] at hcc; cases hcc
        | c0 :: r =>
          have hr : r = [] := by rw [hgc] at hlen; simp at hlen; exact hlen
          subst hr
          rw [if_neg (hk2 c0 hgc)]
          have hcc' : stA st1 c0 = c := by
            have : (mapO st1 g).ctl = [stA st1 c0] := by unfold mapO; rw [hgc]; rfl
            rw [this] at hcc; simpa using hcc
          obtain ⟨z, hz1, hzQ, hzx⟩ := hctl c0 (by rw [hgc]; simp)
          obtain ⟨t, ht, htM⟩ := hs.nat hz1 hzQ
          have h9 := hl c0 (by rw [hgc]; simp)
          rw [hd.tells, ht, hy, Int.toNat_natCast, Int.toNat_natCast] at h9
          rw [← hcc', ht, hy]
          exact h9
theorem chk_of {qb bi : Int} {ops : List Gop} (h1 : 1 ≤ qb) (h2 : qb ≤ 12) (h3 : 0 ≤ bi) (h4 : bi ≤ 12) (h5 : ops.length ≤ 4096) (h6 : ∀ g ∈ ops, opCode g qb bi = 0) : chk ⟨qb, bi, ops⟩ = (0, 0) := by
  unfold chk
  rw [if_neg (by simp only; omega), if_neg (by simp only; omega), if_neg (by simp only; omega)]
  have key : ∀ (l : List Gop) (i : Nat), (∀ g ∈ l, opCode g qb bi = 0) → opsCode qb bi i l = (0, 0) := by
    intro l
    induction l with
    | nil => intro i _; rfl
    | cons a r ih =>
      intro i hl
      unfold opsCode
      rw [if_neg (by rw [hl a (by simp)]; decide)]
      exact ih _ (fun g hg => hl g (by simp [hg]))
  exact key ops 0 h6
set_option maxRecDepth 100000 in
set_option maxHeartbeats 4000000 in
theorem lplaces_any (st : List Int) (Q M : Nat) (ao : Option Addr) (cp : Nat) (w : World) (h : IntsAt w ao Q st) (hs : StOk st Q M) (hQ : Q ≤ 12) :
    Calls Tryd.prog 19 #[.slice ao Q cp, .int .i64 (Q : Int), .int .i64 (M : Int)] w fun e w' => e = .returned (.bool true) ∧ Ext w w' := by
  have Hh := Lib.hid h; have Hs := Lib.hid hs; have HQ := Lib.hid hQ
  clear h hs hQ
  go_enter Tryd.func19, Tryd.ntmps19
  go_wp2_with fail
  go_loopg [7, 8] Q (fun kk s7 _ wr => ∃ i : Nat, s7 = .int .i64 (i : Int) ∧ i ≤ Q ∧ Q - i = kk ∧ Ext w wr)
  case atStart => exact ⟨0, rfl, Nat.zero_le _, rfl, Ext.refl _⟩
  case round =>
    obtain ⟨i, rfl, hi, hk, hE⟩ := hrel
    have HE := Lib.hid hE; have Hk := Lib.hid hk
    by_cases hin : i = Q
    · subst hin
      have q1 : ¬ (i : Int) < (i : Int) := by omega
      clear hi hk hE
      go_wp2_with fail
      go_ret
      exact ⟨rfl, HE.out⟩
    have hlt : i < Q := by omega
    have Hlt := Lib.hid hlt
    have q1 : (i : Int) < (Q : Int) := by omega
    have q0 : (0 : Int) ≤ (i : Int) := by omega
    have wk : IntKind.i64.wrap ((i : Int) + 1) = ((i + 1 : Nat) : Int) := by rw [IntKind.wrap_i64]; have := HQ.out; omega
    obtain ⟨b, o, rfl, _, hcell⟩ := (Hh.out.ext hE).at (by omega)
    have ci := hcell i hlt
    obtain ⟨x, hx, hxM⟩ := Hs.out.at hlt
    rw [hx] at ci
    have d1 : decide ((x : Int) < 0) = false := decide_eq_false (by omega)
    have d2 : ¬ M ≤ x := by omega
    have Hx := Lib.hid hx
    clear hi hk hE hin hlt hcell hxM hx
    go_wp2_with fail
    go_loopg [8] i (fun kk s8 wy => ∃ k : Nat, s8 = .int .i64 (k : Int) ∧ k ≤ i ∧ i - k = kk ∧ Ext w wy)
    case atStart => exact ⟨0, rfl, Nat.zero_le _, rfl, HE.out⟩
    case round =>
      clear HE ci
      obtain ⟨k, rfl, hkk, hkd, hE⟩ := hrel
      have HE := Lib.hid hE; have Hkd := Lib.hid hkd
      by_cases hin : k = i
      · subst hin
        have q2 : ¬ (k : Int) < (k : Int) := by omega
        clear hkk hkd hE
        go_wp2_with fail
        go_roundg (Q - (k + 1))
        case measure => have := Hk.out; have := Hlt.out; omega
        case rel => exact ⟨k + 1, rfl, Hlt.out, rfl, HE.out⟩
      have hklt : k < i := by omega
      have Hklt := Lib.hid hklt
      have q2 : (k : Int) < (i : Int) := by omega
      have q3 : (0 : Int) ≤ (k : Int) := by omega
      have q4 : (k : Int) < (Q : Int) := by omega
      have wk2 : IntKind.i64.wrap ((k : Int) + 1) = ((k + 1 : Nat) : Int) := by rw [IntKind.wrap_i64]; have := HQ.out; omega
      obtain ⟨b', o', e', _, hcell⟩ := (Hh.out.ext hE).at (by omega)
      cases e'
      have ci := hcell i Hlt.out
      have ck := hcell k (by have := Hlt.out; omega)
      rw [Hx.out] at ci
      obtain ⟨y, hy, _⟩ := Hs.out.at (show k < Q by have := Hlt.out; omega)
      rw [hy] at ck
      have hne : ((y : Int) == (x : Int)) = false := beq_eq_false_iff_ne.2 fun e => by
        have := Hs.out.inj (show k < Q by have := Hlt.out; omega) Hlt.out (by rw [hy, Hx.out, e])
        omega
      clear hkk hkd hE hin hklt hcell hy
      go_upto_region 11 with fail
      go_quiet (fail)
      go_wp2_with fail
      go_roundg (i - (k + 1))
      case measure => have := Hkd.out; have := Hklt.out; omega
      case rel => exact ⟨k + 1, rfl, Hklt.out, rfl, HE.out.trans (ext_drewN wr _)⟩
end Go.Proofs.YtlmfhopifggeaaaDoor
namespace Go.Proofs.YtlmfhopifggeaaaDoor
open Go.RowKit

set_option maxHeartbeats 1000000 in
theorem sameInts_any (l : List Int) (a1 : Option Addr) (n c1 : Nat) (a2 : Option Addr) (c2 : Nat) (w : World) (h1 : IntsAt w a1 n l) (h2 : IntsAt w a2 n l) (hc1 : n ≤ c1) (hm1 : c1 ≤ 9223372036854775807) :
    Calls Tryd.prog 22 #[.slice a1 n c1, .slice a2 n c2] w fun e w' => e = .returned (.bool true) ∧ Ext w w' := by
  have H1 := Lib.hid h1; have H2 := Lib.hid h2
  clear h1 h2
  go_enter Tryd.func22, Tryd.ntmps22
  go_wp2_with fail
  go_loopg [5] n (fun kk s5 wx => ∃ i : Nat, s5 = .int .i64 (i : Int) ∧ i ≤ n ∧ n - i = kk ∧ Ext w wx)
  case atStart => exact ⟨0, rfl, by omega, by omega, Ext.refl w⟩
  case round =>
    obtain ⟨i, rfl, hi1, hk, hE⟩ := hrel
    have HE := Lib.hid hE
    by_cases hin : i = n
    · have h2 : ¬ (i : Int) < (n : Int) := by omega
      clear hE
      go_wp2_with fail
      go_ret
      exact ⟨rfl, HE.out⟩
    · have h2 : (i : Int) < (n : Int) := by omega
      have h0 : (0 : Int) ≤ (i : Int) := by omega
      obtain ⟨b1, o1, rfl, hb1, hc1'⟩ := (H1.out.ext hE).at (by omega)
      obtain ⟨b2, o2, rfl, hb2, hc2'⟩ := (H2.out.ext hE).at (by omega)
      have e1 := hc1' i (by omega); have e2 := hc2' i (by omega)
      obtain ⟨x, hx⟩ : ∃ x, l.getD i 0 = x := ⟨_, rfl⟩
      rw [hx] at e1 e2
      have HEd := Lib.hid (cdrew hE)
      clear hE hc1' hc2' hx
      go_wp2_with fail
      go_region
      go_wp2_with fail
      go_roundg (n - (i + 1))
      case measure => omega
      case rel => exact ⟨i + 1, by go_num, by omega, rfl, HEd.out⟩

end Go.Proofs.YtlmfhopifggeaaaDoor
namespace Go.Proofs.YtlmfhopifggeaaaDoor

theorem sprN_ltM {st : List Int} {x m : Nat} : ∀ (i : Nat), (∀ q, q < i → plc st q < m) → sprN st x i < 2 ^ m
  | 0, _ => Nat.two_pow_pos _
  | i + 1, h => by
    unfold sprN
    refine Nat.or_lt_two_pow (sprN_ltM i (fun q hq => h q (by omega))) ?_
    split
    · exact Nat.pow_lt_pow_right (by decide) (h i (by omega))
    · exact Nat.two_pow_pos _
theorem plc_lt {st : List Int} {Q M : Nat} (h : StOk st Q M) {q : Nat} (hq : q < Q) : plc st q < M := by
  have hq' : q < st.length := by rw [h.len]; exact hq
  have h3 := h.lt _ (List.getElem_mem hq')
  have e2 : st.getD q 0 = st[q] := by rw [List.getD_eq_getElem?_getD, List.getElem?_eq_getElem hq']; rfl
  unfold plc
  rw [e2]
  omega
theorem sprN_ltS {st : List Int} {Q M x : Nat} (h : StOk st Q M) : sprN st x Q < 2 ^ M := sprN_ltM Q (fun _ hq => plc_lt h hq)
theorem web_self {W : List Nat} {N : Nat} (h : WebOk W N) (f : Nat) : lk W f f = false := by
  cases e : lk W f f
  · rfl
  · exact absurd rfl (h.lt f f e).2.2
theorem shoF_of {c : Gci} {x : Int} {want : List Int} (hc : (chk c).1 = 0) (h0 : 0 ≤ x) (h1 : x < ((2 ^ c.qubits.toNat : Nat) : Int)) : shoF c x want = (shoR c x want).f := by
  have e : stF c x = (0, 0) := by
    unfold stF
    rw [if_neg (by omega), if_neg (by omega)]
  unfold shoF
  rw [e]
  rfl
/-- Both shots. -/
theorem keeps_plain {W : List Nat} {Q : Nat} {N B : Int} {ops out : List Gop} {st : List Int} (hW : WebOk W N.toNat) (hQM : Q ≤ N.toNat) (hF : Ftd W N.toNat Q ops out st) (h1 : (chk ⟨(Q : Int), B, ops⟩).1 = 0) (h2 : (chk ⟨N, B, out⟩).1 = 0) {x : Nat} (hx : x < 2 ^ Q) (want : List Int) :
    (shoF ⟨(Q : Int), B, ops⟩ (x : Int) want).1 = (shoF ⟨N, B, out⟩ ((sprN (plN Q) x Q : Nat) : Int) want).1 ∧ (shoR ⟨(Q : Int), B, ops⟩ (x : Int) want).bits = (shoR ⟨N, B, out⟩ ((sprN (plN Q) x Q : Nat) : Int) want).bits ∧ (shoR ⟨(Q : Int), B, ops⟩ (x : Int) want).u = (shoR ⟨N, B, out⟩ ((sprN (plN Q) x Q : Nat) : Int) want).u ∧
    ((shoF ⟨(Q : Int), B, ops⟩ (x : Int) want).1 = 0 → Spr (plc st) Q (shoR ⟨(Q : Int), B, ops⟩ (x : Int) want).s (shoR ⟨N, B, out⟩ ((sprN (plN Q) x Q : Nat) : Int) want).s) := by
  have hp := plN_ok hQM
  have hl : sprN (plN Q) x Q < 2 ^ N.toNat := sprN_ltS hp
  rw [shoF_of h1 (by omega) (by simp only [Int.toNat_natCast]; omega), shoF_of h2 (by omega) (by simp only; omega)]
  obtain ⟨_, q1, q12, b0, b12, _, hcode⟩ := chk_zero h1
  simp only at q1 q12 b0 b12 hcode
  have hg : ∀ g ∈ ops, (g.kind ≠ 1 → g.q.toNat < Q) ∧ ∀ c ∈ g.ctl, c.toNat < Q := fun g hgm => by
    have hd := doFit_of q1 q12 b0 b12 (hcode g hgm)
    obtain ⟨y, e1, e2, e3⟩ := hd.q
    refine ⟨fun _ => by rw [e1]; simpa using e2, fun c hc => ?_⟩
    obtain ⟨z, r1, r2, _⟩ := e3 c hc
    rw [r1]
    simpa using r2
  unfold shoR
  simp only [Int.toNat_natCast]
  exact fit_shot (web_self hW) hQM hF want hg (bas_spr hp hx) 0 0 _ 0
end Go.Proofs.YtlmfhopifggeaaaDoor
namespace Go.Proofs.YtlmfhopifggeaaaDoor
open Go.RowKit

theorem fit_zero {c : Gci} {N : Int} {ls : List Lnk} (h : (fitF c N ls).1 = 0) : (chk c).1 = 0 ∧ DevOk N ls ∧ c.qubits ≤ N ∧ (∀ g ∈ c.ops, isWr g = false) ∧ rckN N c.ops ≤ 4096 ∧ (fitF c N ls).2 = 0 := by
  unfold fitF at h ⊢
  by_cases h1 : (chk c).1 ≠ 0
  · rw [if_pos h1] at h; exact absurd h h1
  rw [if_neg h1] at h ⊢
  by_cases h2 : (devF N ls).1 ≠ 0
  · rw [if_pos h2] at h; exact absurd h h2
  rw [if_neg h2] at h ⊢
  by_cases h3 : N < c.qubits
  · rw [if_pos h3] at h; exact absurd h (by show ¬ (36 : Int) = 0; decide)
  rw [if_neg h3] at h ⊢
  by_cases h4 : (bsF c.ops c.ops.length 0).1 ≠ 0
  · rw [if_pos h4] at h; exact absurd h h4
  rw [if_neg h4] at h ⊢
  by_cases h5 : 4096 < rckN N c.ops
  · rw [if_pos h5] at h; exact absurd h (by show ¬ (21 : Int) = 0; decide)
  rw [if_neg h5] at h ⊢
  exact ⟨by omega, (dev_ok (by omega)).1, by omega, bs_wr (by omega), by omega, rfl⟩

end Go.Proofs.YtlmfhopifggeaaaDoor
namespace Go.Proofs.YtlmfhopifggeaaaDoor
open Go.RowKit

section
variable {ops : Array Oper} {P : Program} {Q : Exit → Act → World → Prop}
/-- Two may come up. -/
theorem anyK_pair {md : Region.Mode} {k : Nat} {S : World → Prop} {i j : Nat} {o o' : Oper} {n : Nat} {l : Array Bool} {a : Act} {w : World} (hr : Region.ready md ops l = [i, j]) (ho : ops[i]? = some o) (ho' : ops[j]? = some o')
    (h : ∀ K' : Act → World → Prop, Shut (∀ a w, ((l.setIfInBounds i true).getD k true = false → S w) → anyK P md ops Q k S n (l.setIfInBounds i true) a w → K' a w) → if Region.wanted o (yielded ops a.tmps) = true then Oper.wp P o a w K' Q else K' (a.put o.dst undef) w)
    (h' : ∀ K' : Act → World → Prop, Shut (∀ a w, ((l.setIfInBounds j true).getD k true = false → S w) → anyK P md ops Q k S n (l.setIfInBounds j true) a w → K' a w) → if Region.wanted o' (yielded ops a.tmps) = true then Oper.wp P o' a w K' Q else K' (a.put o'.dst undef) w) :
    anyK P md ops Q k S (n + 1) l a w := by
  refine ⟨fun h0 => (by rw [hr] at h0; cases h0), fun u hu => ?_⟩
  rw [hr] at hu
  rcases List.mem_cons.1 hu with rfl | hu
  · exact wpOp_step ho (fun K' hK => h K' (fun a w hS hW => hK a w ⟨hS, hW⟩))
  · rcases List.mem_singleton.1 hu with rfl
    exact wpOp_step ho' (fun K' hK => h' K' (fun a w hS hW => hK a w ⟨hS, hW⟩))
/-- Three may come up. -/
theorem anyK_three {md : Region.Mode} {k : Nat} {S : World → Prop} {i j t : Nat} {o o' o'' : Oper} {n : Nat} {l : Array Bool} {a : Act} {w : World} (hr : Region.ready md ops l = [i, j, t]) (ho : ops[i]? = some o) (ho' : ops[j]? = some o') (ho'' : ops[t]? = some o'')
    (h : ∀ K' : Act → World → Prop, Shut (∀ a w, ((l.setIfInBounds i true).getD k true = false → S w) → anyK P md ops Q k S n (l.setIfInBounds i true) a w → K' a w) → if Region.wanted o (yielded ops a.tmps) = true then Oper.wp P o a w K' Q else K' (a.put o.dst undef) w)
    (h' : ∀ K' : Act → World → Prop, Shut (∀ a w, ((l.setIfInBounds j true).getD k true = false → S w) → anyK P md ops Q k S n (l.setIfInBounds j true) a w → K' a w) → if Region.wanted o' (yielded ops a.tmps) = true then Oper.wp P o' a w K' Q else K' (a.put o'.dst undef) w)
    (h'' : ∀ K' : Act → World → Prop, Shut (∀ a w, ((l.setIfInBounds t true).getD k true = false → S w) → anyK P md ops Q k S n (l.setIfInBounds t true) a w → K' a w) → if Region.wanted o'' (yielded ops a.tmps) = true then Oper.wp P o'' a w K' Q else K' (a.put o''.dst undef) w) :
    anyK P md ops Q k S (n + 1) l a w := by
  refine ⟨fun h0 => (by rw [hr] at h0; cases h0), fun u hu => ?_⟩
  rw [hr] at hu
  rcases List.mem_cons.1 hu with rfl | hu
  · exact wpOp_step ho (fun K' hK => h K' (fun a w hS hW => hK a w ⟨hS, hW⟩))
  rcases List.mem_cons.1 hu with rfl | hu
  · exact wpOp_step ho' (fun K' hK => h' K' (fun a w hS hW => hK a w ⟨hS, hW⟩))
  · rcases List.mem_singleton.1 hu with rfl
    exact wpOp_step ho'' (fun K' hK => h'' K' (fun a w hS hW => hK a w ⟨hS, hW⟩))
end
set_option maxHeartbeats 400000 in
theorem stepK_allocR {ops : Array Oper} {o : Oper} {a : Act} {K : Act → World → Prop} {Q : Exit → Act → World → Prop} {E : Prop} {w : World} (hgd : o.guard = none) (s : Nat) (hd : o.dst = some s)
    (ho : o.op = .alloc 38) (h : K (a.put (some s) (.pointer (some ⟨w.heap.size, 0, none⟩))) (w.alloc (.cells #[.int .i64 0, .int .i64 0, .slice none 0 0, .slice none 0 0, .slice none 0 0] 38))) :
    if Region.wanted o (yielded ops a.tmps) = true then Oper.wp Tryd.prog o a w K Q else E := by
  have hw : Region.wanted o (yielded ops a.tmps) = true := by simp [Region.wanted, hgd]
  rw [if_pos hw]
  obtain ⟨od, oo, ot, opp, oa, og⟩ := o
  simp only at ho hd
  subst ho hd
  have HH := Lib.hid h
  clear h
  unfold Oper.wp execOp
  go_simp
  exact HH.out
set_option maxHeartbeats 400000 in
theorem stepK_allocF {ops : Array Oper} {o : Oper} {a : Act} {K : Act → World → Prop} {Q : Exit → Act → World → Prop} {E : Prop} {w : World} (hgd : o.guard = none) (s : Nat) (hd : o.dst = some s)
    (ho : o.op = .alloc 27) (h : K (a.put (some s) (.pointer (some ⟨w.heap.size, 0, none⟩))) (w.alloc (.cells #[.int .i64 0, .int .i64 0] 27))) :
    if Region.wanted o (yielded ops a.tmps) = true then Oper.wp Tryd.prog o a w K Q else E := by
  have hw : Region.wanted o (yielded ops a.tmps) = true := by simp [Region.wanted, hgd]
  rw [if_pos hw]
  obtain ⟨od, oo, ot, opp, oa, og⟩ := o
  simp only at ho hd
  subst ho hd
  have HH := Lib.hid h
  clear h
  unfold Oper.wp execOp
  go_simp
  exact HH.out
theorem ne_rows {w : World} {a b : Nat} {c c' : Array Value} {t t' : TypeId} {f f' : Nat × Nat} (h : w.heap[a]? = some (.cells c t f)) (h' : w.heap[b]? = some (.cells c' t' f')) (ht : t ≠ t') : a ≠ b := by
  rintro rfl
  rw [h] at h'
  injection h' with h'
  injection h' with _ h' _
  exact ht h'
theorem lt_row {w : World} {a : Nat} {o : Obj} (h : w.heap[a]? = some o) : a < w.heap.size := (Array.getElem?_eq_some_iff.1 h).1
theorem rowE {w w' : World} {a : Nat} {o : Obj} (h : w.heap[a]? = some o) (k : Ext w w') : w'.heap[a]? = some o := (k.block _ (lt_row h)).trans h
/-- What Fit has answered, where its variables were written meanwhile. -/
theorem fit_lies {wF cur w2 : World} {X B8 B9 : Nat} {P : World → Prop} (hyg : ∀ w2 : World, (∀ k, X ≤ k → k < wF.heap.size → w2.heap[k]? = wF.heap[k]?) → P w2) (hx : Ext wF cur) (n8 : B8 < X ∨ wF.heap.size ≤ B8) (n9 : B9 < X ∨ wF.heap.size ≤ B9) {c8 c9 : Array Value} (e : w2 = (cur.setRow B8 c8).setRow B9 c9) : P w2 := by
  refine hyg w2 fun k h1 h2 => ?_
  subst e
  rw [(setRow_only' _ B9 c9).block k (by omega), (setRow_only' cur B8 c8).block k (by omega)]
  exact hx.block k h2
/-- What Play has answered. -/
def PlR (w0 w : World) (S0 : Int) (m : Nat) (s : Nat → Nm) (bits : List Int) (u : Nat) (q0 q1 q2 : Value) : Prop :=
  (S0 = 0 → ∃ b g, q0 = .slice (some ⟨b, 0, none⟩) m m ∧ q1 = .slice (some ⟨g, 0, none⟩) bits.length bits.length ∧ q2 = .int .i64 (u : Int) ∧ PlA w0 w g b m s bits 4096) ∧ (S0 ≠ 0 → q1 = .slice none 0 0 ∧ q2 = .int .i64 0)
section
variable {w0 w w' W : World} {S0 : Int} {m : Nat} {s : Nat → Nm} {bits : List Int} {u : Nat} {q0 q1 q2 : Value}
theorem PlR.grow (h : PlR w0 w S0 m s bits u q0 q1 q2) (k : Ext w w') : PlR w0 w' S0 m s bits u q0 q1 q2 :=
  ⟨fun hz => by obtain ⟨b, g, e0, e1, e2, hp⟩ := h.1 hz; exact ⟨b, g, e0, e1, e2, hp.ext' k⟩, h.2⟩
theorem PlR.base (h : PlR W w S0 m s bits u q0 q1 q2) (k : Ext w0 W) : PlR w0 w S0 m s bits u q0 q1 q2 :=
  ⟨fun hz => by obtain ⟨b, g, e0, e1, e2, hp⟩ := h.1 hz; exact ⟨b, g, e0, e1, e2, hp.base k⟩, h.2⟩
theorem PlR.put (h : PlR w0 w S0 m s bits u q0 q1 q2) {k : Nat} {c : Array Value} (hr : w.heap[k]? = some (.cells c 27 (0, 0))) (h0 : w0.heap.size ≤ k) (c' : Array Value) : PlR w0 (w.setRow k c') S0 m s bits u q0 q1 q2 :=
  ⟨fun hz => by
    obtain ⟨b, g, e0, e1, e2, hp⟩ := h.1 hz
    obtain ⟨cs, h1, _⟩ := hp.st.row
    exact ⟨b, g, e0, e1, e2, hp.far (ChZ.of_only (setRow_only' _ _ _)) ⟨_, _, _, hr, by decide⟩ h0 (ne_rows hp.bit hr (by decide)) (ne_rows h1 hr (by decide))⟩, h.2⟩
end
end Go.Proofs.YtlmfhopifggeaaaDoor
