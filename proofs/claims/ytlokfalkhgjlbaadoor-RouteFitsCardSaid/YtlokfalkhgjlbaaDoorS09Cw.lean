/-
  The example of the document that every law of devices asks for. What Fit answers is a circuit that the device can do; the law's own look at places. The reference's SameInts and SameCircuit, of alike lists and circuits. RouteFits' walk. A circuit that was handed in, opened: its operations and their lists as they lie in memory. The table of kinds, as it is laid; what is asked behind a call that leaves all that lay there as it was.
-/
import Derived.Test.YtlokfalkhgjlbaaDoorProg
import Derived.Test.YtlokfalkhgjlbaaDoorRows
import Derived.BigQuiet
import Derived.Carry
import Derived.ChangeSame
import Derived.Deep.AppendLies
import Derived.Deep.Cut
import Derived.Deep.CutRange
import Derived.Deep.LoopGhost
import Derived.Deep.QuietTactic
import Derived.Deep.RegionHeld3
import Derived.Deep.Slices
import Derived.FnData
import Derived.Ground.Names2Prog
import Derived.Laws.Bits64b
import Derived.Laws.CopyOwn
import Derived.Laws.ResultCell
import Derived.Lib.AppendZeros
import Derived.Lib.BitFns
import Derived.Lib.Hide
import Derived.Lib.ItoaMem
import Derived.Lib.ItoaNum
import Derived.Lib.Strings
import Derived.Lib.TrailingZeros
import Derived.Maps.AppendAt
import Derived.OpenShut
import Derived.OrdersHeld
import Derived.OrdersIn
import Derived.OwnWalk
import Derived.ProofKit
import Derived.RangeFuncCalls
import Derived.RangeFuncFrom
import Derived.RegionTactic
import Derived.Shelf.Slices.Clone
import Derived.Shelf.Slices.Turned
import Derived.Shelf.Spec.TrailingZeros
import Derived.SizedLaws
import Derived.Stop.LaidErr
import Derived.WalkKit
import Derived.WalkLawsBesides
import Derived.WalkSpells
import Derived.Test.YtlokfalkhgjlbaaDoorS00Ce
import Derived.Test.YtlokfalkhgjlbaaDoorS01Cj
import Derived.Test.YtlokfalkhgjlbaaDoorShelf
import Derived.Test.YtlokfalkhgjlbaaDoorS03Mc
import Derived.Test.YtlokfalkhgjlbaaDoorS04Mg
import Derived.Test.YtlokfalkhgjlbaaDoorS05Mk
import Derived.Test.YtlokfalkhgjlbaaDoorS06Mn
import Derived.Test.YtlokfalkhgjlbaaDoorS07Ms
import Derived.Test.YtlokfalkhgjlbaaDoorS08Mv
namespace Go.Proofs.YtlokfalkhgjlbaaDoor
open Go.RowKit

def bgCr : Gci := ⟨3, 0, [xc 2 0]⟩
def bgLn : List Lnk := [(0, 1), (1, 2)]
theorem bg_fit : fitF bgCr 3 bgLn = (0, 0) := by decide +kernel
theorem Ftd.pos {W : List Nat} {M Q : Nat} {ops out : List Gop} {st : List Int} (h : Ftd W M Q ops out st) (hn : ops ≠ []) : 1 ≤ out.length := by
  cases h with
  | nil => exact absurd rfl hn
  | snoc g _ _ _ _ _ _ => rw [List.length_append, List.length_append]; simp only [List.length_cons, List.length_nil]; omega
theorem rt_row {w : World} {g : Nat} {a b c d e : Value} {T : TypeId} (h : w.heap[g]? = some (.cells #[a, b, c, d, e] T (0, 0))) : w.cell? ⟨g, 0, none⟩ = some a ∧ w.cell? ⟨g, 1, none⟩ = some b ∧ w.cell? ⟨g, 2, none⟩ = some c ∧ w.cell? ⟨g, 3, none⟩ = some d ∧ w.cell? ⟨g, 4, none⟩ = some e :=
  ⟨by rw [cell_of_row w g 0 _ _ (0, 0) h]; rfl, by rw [cell_of_row w g 1 _ _ (0, 0) h]; rfl, by rw [cell_of_row w g 2 _ _ (0, 0) h]; rfl, by rw [cell_of_row w g 3 _ _ (0, 0) h]; rfl, by rw [cell_of_row w g 4 _ _ (0, 0) h]; rfl⟩

set_option maxRecDepth 100000 in
set_option maxHeartbeats 4000000 in
theorem routeBegun_any (w : World) (hS : Shp w) (hT : BruM w) : Calls Tryd.prog 9 #[] w fun e w' => e = .returned (.bool true) ∧ Ext w w' := by
  obtain ⟨H, hH⟩ : ∃ H, w.heap.size = H := ⟨_, rfl⟩
  obtain ⟨A1, hA1⟩ : ∃ A, w.alloc (.cells #[.int .i64 0, .int .i64 1, .int .i64 1, .int .i64 2] 76) = A := ⟨_, rfl⟩
  have s1 : A1.heap.size = H + 1 := by rw [← hA1, World.size_alloc, hH]
  have E1 : Ext w A1 := by rw [← hA1]; exact ext_al _ _
  have R1 : A1.heap[H]? = some (.cells #[.int .i64 0, .int .i64 1, .int .i64 1, .int .i64 2] 76 (0, 0)) := by rw [← hA1, ← hH]; exact heap_alloc_new _ _
  obtain ⟨A2, hA2⟩ : ∃ A, A1.alloc (.cells #[.int .i64 3, .slice (some ⟨H, 0, none⟩) 2 2] 24) = A := ⟨_, rfl⟩
  have s2 : A2.heap.size = H + 2 := by rw [← hA2, World.size_alloc, s1]
  have E2 : Ext A1 A2 := by rw [← hA2]; exact ext_al _ _
  have R2 : DvB A2 (H + 1) 3 (some ⟨H, 0, none⟩) 2 2 := ⟨by rw [← hA2, ← s1]; exact heap_alloc_new _ _⟩
  obtain ⟨A3, hA3⟩ : ∃ A, A2.alloc (.cells #[.int .i64 0] 3) = A := ⟨_, rfl⟩
  have s3 : A3.heap.size = H + 3 := by rw [← hA3, World.size_alloc, s2]
  have E3 : Ext A2 A3 := by rw [← hA3]; exact ext_al _ _
  have R3 : A3.heap[H + 2]? = some (.cells #[.int .i64 0] 3 (0, 0)) := by rw [← hA3, ← s2]; exact heap_alloc_new _ _
  obtain ⟨A4, hA4⟩ : ∃ A, A3.alloc (.cells #[.int .i64 2, .int .i64 0, .slice (some ⟨H + 2, 0, none⟩) 1 1, .int .i64 2, .int .i64 0, .slice none 0 0] 46) = A := ⟨_, rfl⟩
  have E4 : Ext A3 A4 := by rw [← hA4]; exact ext_al _ _
  have R4 : A4.heap[H + 3]? = some (.cells #[.int .i64 2, .int .i64 0, .slice (some ⟨H + 2, 0, none⟩) 1 1, .int .i64 2, .int .i64 0, .slice none 0 0] 46 (0, 0)) := by rw [← hA4, ← s3]; exact heap_alloc_new _ _
  have hE4 := (E1.trans E2).trans (E3.trans E4)
  have hL : LnkAt A4 (some ⟨H, 0, none⟩) 2 bgLn := by
    have r := ((E2.trans (E3.trans E4)).block _ (Array.getElem?_eq_some_iff.1 R1).1).trans R1
    refine ⟨rfl, Or.inr ⟨H, 0, rfl, (Array.getElem?_eq_some_iff.1 r).1, fun t ht => ?_⟩⟩
    have : t = 0 ∨ t = 1 := by omega
    rcases this with rfl | rfl
    · exact ⟨by rw [cell_of_row A4 H _ _ _ (0, 0) r]; rfl, by rw [cell_of_row A4 H _ _ _ (0, 0) r]; rfl⟩
    · exact ⟨by rw [cell_of_row A4 H _ _ _ (0, 0) r]; rfl, by rw [cell_of_row A4 H _ _ _ (0, 0) r]; rfl⟩
  have hO : OpsAt A4 (some ⟨H + 3, 0, none⟩) 1 bgCr.ops := by
    have r3 := (E4.block _ (Array.getElem?_eq_some_iff.1 R3).1).trans R3
    refine ⟨rfl, Or.inr ⟨H + 3, 0, rfl, (Array.getElem?_eq_some_iff.1 R4).1, fun t g hg => ?_⟩⟩
    have ht : t = 0 := by
      have := (List.getElem?_eq_some_iff.1 hg).1
      have h1 : bgCr.ops.length = 1 := rfl
      omega
    subst ht
    have hg' : g = xc 2 0 := by
      have : bgCr.ops[0]? = some (xc 2 0) := rfl
      rw [this] at hg
      exact (Option.some.inj hg).symm
    subst hg'
    refine ⟨some ⟨H + 2, 0, none⟩, 1, 1, none, 0, 0, by rw [cell_of_row A4 (H + 3) _ _ _ (0, 0) R4]; rfl, by rw [cell_of_row A4 (H + 3) _ _ _ (0, 0) R4]; rfl, by rw [cell_of_row A4 (H + 3) _ _ _ (0, 0) R4]; rfl, by rw [cell_of_row A4 (H + 3) _ _ _ (0, 0) R4]; rfl, by rw [cell_of_row A4 (H + 3) _ _ _ (0, 0) R4]; rfl, by rw [cell_of_row A4 (H + 3) _ _ _ (0, 0) R4]; rfl, ?_⟩
    refine ⟨⟨rfl, Or.inr ⟨H + 2, 0, rfl, (Array.getElem?_eq_some_iff.1 r3).1, fun t ht => ?_⟩⟩, Nat.le_refl _, by decide, ⟨rfl, Or.inl rfl⟩, Nat.le_refl _, by decide⟩
    have : t = 0 := by omega
    subst this
    rw [cell_of_row A4 (H + 2) _ _ _ (0, 0) r3]; rfl
  have HFit := Lib.hid (Fit_any bgCr (some ⟨H + 3, 0, none⟩) 1 1 3 bgLn (some ⟨H, 0, none⟩) 2 2 A4 hO (by omega) (by decide) hL (by decide) (hS.ext hE4) (bruM_ext hT hE4))
  have R24 := R2.ext (E3.trans E4)
  have v0 := R24.x0; have v1 := R24.x1
  have HA1 := Lib.hid hA1; have HA2 := Lib.hid hA2; have HA3 := Lib.hid hA3; have HA4 := Lib.hid hA4; have HH := Lib.hid hH; have Hs1 := Lib.hid s1; have Hs2 := Lib.hid s2; have Hs3 := Lib.hid s3; have HE4 := Lib.hid hE4
  have hq : (A1.heap.size = H + 1) := s1
  clear hS hT hA1 hA2 hA3 hA4 hH E1 E2 E3 E4 R1 R2 R3 R4 hE4 hL hO R24 s1 s2 s3 hq
  go_enter Tryd.func9, Tryd.ntmps9
  go_upto_region 2 with fail
  rw [HA1.out, HH.out, HA2.out]
  have s2 := Hs2.out
  rw [← HA4.out, ← HA3.out] at v0 v1
  go_wp2_with fail
  rw [HA3.out, HA4.out]
  clear v0 v1 s2
  refine HFit.out.mono ?_
  rintro e w1 ⟨rq, rb, oa, on, oc, sa, sn, sc, ea, en, ec, out, s0, st, rfl, ⟨hO1, hO2, hO3⟩, ⟨hI1, _, _⟩, _, hR, hE1⟩
  obtain ⟨rfl, rfl, rfl, hFt⟩ := hR.2 (by rw [bg_fit])
  have hl1 : out.length = on := hO1.1
  have hl2 : (plN bgCr.qubits.toNat).length = sn := hI1.1
  have hsn : sn = 3 := by rw [← hl2, plN_len]; rfl
  have hp := hFt.pos (by unfold bgCr; simp)
  have hf := hFt.few (fun g hg => by
    have : g = xc 2 0 := by unfold bgCr at hg; simpa using hg
    rw [this]; decide)
  have hk : rckN (((3 : Int).toNat : Nat) : Int) bgCr.ops = 4 := by decide +kernel
  rw [hk] at hf
  subst hsn
  rw [bg_fit]
  simp only
  have q1 : (1 : Int) ≤ (on : Int) := by omega
  have q2 : (on : Int) ≤ 4 := by omega
  have rR := heap_alloc_new w1 (.cells #[.int .i64 3, .int .i64 bgCr.bits, .slice oa on oc, .slice sa 3 sc, .slice ea en ec] 38)
  have HEf := Lib.hid ((HE4.out.trans hE1).trans ((ext_al w1 (.cells #[.int .i64 3, .int .i64 bgCr.bits, .slice oa on oc, .slice sa 3 sc, .slice ea en ec] 38)).trans (ext_al _ (.cells #[.int .i64 0, .int .i64 0] 27))))
  have rR2 := ((ext_al (w1.alloc (.cells #[.int .i64 3, .int .i64 bgCr.bits, .slice oa on oc, .slice sa 3 sc, .slice ea en ec] 38)) (.cells #[.int .i64 0, .int .i64 0] 27)).block _ (Array.getElem?_eq_some_iff.1 rR).1).trans rR
  have rF := heap_alloc_new (w1.alloc (.cells #[.int .i64 3, .int .i64 bgCr.bits, .slice oa on oc, .slice sa 3 sc, .slice ea en ec] 38)) (.cells #[.int .i64 0, .int .i64 0] 27)
  rw [World.size_alloc] at rF
  obtain ⟨x0, x1, x2, x3, x4⟩ := rt_row rR2
  have bF : FtB _ _ 0 0 := ⟨rF⟩
  have y0 := bF.x0; have y1 := bF.x1
  clear rR rR2 rF bF hl1 hl2 hp hf hk hFt hR hE1 hO1 hI1 HFit
  go_wp2_with fail
  go_ret
  exact ⟨rfl, HEf.out⟩
end Go.Proofs.YtlokfalkhgjlbaaDoor
namespace Go.Proofs.YtlokfalkhgjlbaaDoor
open Go.RowKit

theorem opCode_iff (o : Gop) (n b : Int) : opCode o n b = 0 ↔ (1 ≤ o.kind ∧ o.kind ≤ 6) ∧ fitsB o.k 16 (usesK o.kind) = true ∧ fitsB o.q n (usesQ o.kind) = true ∧ (0 < o.ctl.length → usesC o.kind = true) ∧ ctlCode o.q n [] o.ctl = 0 ∧ fitsB o.bit b (usesB o.kind) = true ∧ cndOk b o.cnd = true := by
  unfold opCode
  constructor
  · intro h
    split at h
    · omega
    rename_i h1
    split at h
    · omega
    rename_i h2
    split at h
    · omega
    rename_i h3
    split at h
    · omega
    rename_i h4
    split at h
    · exact absurd h (by assumption)
    rename_i h5
    split at h
    · omega
    rename_i h6
    split at h
    · omega
    rename_i h7
    refine ⟨by omega, by simpa using h2, by simpa using h3, fun hl => ?_, by simpa using h5, by simpa using h6, by simpa using h7⟩
    apply Classical.byContradiction
    intro hn
    exact h4 ⟨hl, by simpa using hn⟩
  · rintro ⟨h1, h2, h3, h4, h5, h6, h7⟩
    rw [if_neg (by omega), if_neg (by rw [h2]; decide), if_neg (by rw [h3]; decide), if_neg (by
      rintro ⟨hl, hu⟩
      rw [h4 hl] at hu
      cases hu), if_neg (by rw [h5]; decide), if_neg (by rw [h6]; decide), if_neg (by rw [h7]; decide)]
theorem below_of {x n : Int} (h0 : 0 ≤ x) (h1 : x < n) : below x n = true := by unfold below; simp [h0, h1]
theorem xc_code {q c n b : Int} (_hb : 0 ≤ b) (hq : 0 ≤ q ∧ q < n) (hc : 0 ≤ c ∧ c < n) (hne : c ≠ q) : opCode (xc q c) n b = 0 := by
  rw [opCode_iff]
  refine ⟨⟨show (1 : Int) ≤ 2 by decide, show (2 : Int) ≤ 6 by decide⟩, rfl, below_of hq.1 hq.2, fun _ => rfl, ?_, rfl, rfl⟩
  show ctlCode q n [] [c] = 0
  unfold ctlCode
  rw [below_of hc.1 hc.2, if_neg (by decide), if_neg (by simp [hne])]
  rfl
theorem xc_wr (q c : Int) : isWr (xc q c) = false := rfl
theorem mapO_wr (st : List Int) (g : Gop) : isWr (mapO st g) = isWr g := by
  unfold isWr isCt mapO
  simp only [List.length_map]
/-- An operation on linked qubits of a device. -/
structure OutOk (N bits : Int) (ls : List Lnk) (o : Gop) : Prop where
  code : opCode o N bits = 0
  wr : isWr o = false
  lnk : ∀ c, o.ctl = [c] → lkd ls c o.q = true
theorem Mvs.out {W : List Nat} {st st' : List Int} {g : List Gop} {k : Nat} (h : Mvs W st g st' k) : ∀ o ∈ g, ∃ f p : Nat, lk W f p = true ∧ (o = xc (p : Int) (f : Int) ∨ o = xc (f : Int) (p : Int)) := by
  induction h with
  | nil => intro o ho; simp at ho
  | snoc f p _ hl ih =>
    intro o ho
    rcases List.mem_append.1 ho with ho | ho
    · exact ih o ho
    · unfold exO at ho
      simp only [List.mem_cons, List.not_mem_nil, or_false] at ho
      rcases ho with rfl | rfl | rfl
      · exact ⟨f, p, hl, Or.inl rfl⟩
      · exact ⟨f, p, hl, Or.inr rfl⟩
      · exact ⟨f, p, hl, Or.inl rfl⟩
theorem StOk.nat {st : List Int} {Q M : Nat} (h : StOk st Q M) {c : Int} {x : Nat} (hc : c = (x : Int)) (hx : x < Q) : ∃ y : Nat, stA st c = (y : Int) ∧ y < M := by
  obtain ⟨y, h1, h2⟩ := h.at hx
  exact ⟨y, by unfold stA; rw [hc, Int.toNat_natCast]; exact h1, h2⟩
theorem ftd_out {N bits : Int} {ls : List Lnk} (hd : DevOk N ls) {Q : Nat} (hQ1 : 1 ≤ Q) (hQ : (Q : Int) ≤ 12) (hb0 : 0 ≤ bits) (hb : bits ≤ 12) {ops out : List Gop} {st : List Int} (h : Ftd (webOf ls) N.toNat Q ops out st) (hok : ∀ g ∈ ops, opCode g (Q : Int) bits = 0 ∧ isWr g = false) : ∀ o ∈ out, OutOk N bits ls o := by
  have hNn : ((N.toNat : Nat) : Int) = N := by have := hd.n1; omega
  induction h with
  | nil => intro o ho; simp at ho
  | @snoc ops0 out0 st0 mv0 st1 j0 g hf hm hj hz hl hs ih =>
    intro o ho
    rcases List.mem_append.1 ho with ho | ho
    · exact ih (fun g hg => hok g (by simp [hg])) o ho
    rcases List.mem_append.1 ho with ho | ho
    · obtain ⟨f, p, hfp, e⟩ := hm.out o ho
      obtain ⟨h1, h2, h3⟩ := hd.web.lt f p hfp
      have h4 := hd.tells f p
      rw [hfp] at h4
      rcases e with rfl | rfl
      · exact ⟨xc_code hb0 (by omega) (by omega) (by omega), xc_wr _ _, fun c hc => by
          have : c = (f : Int) := by unfold xc at hc; simpa using hc.symm
          subst this; exact h4.symm⟩
      · exact ⟨xc_code hb0 (by omega) (by omega) (by omega), xc_wr _ _, fun c hc => by
          have : c = (p : Int) := by unfold xc at hc; simpa using hc.symm
          subst this
          rw [lkd_comm]; exact h4.symm⟩
    · have ho' : o = mapO st1 g := by simpa using ho
      subst ho'
      obtain ⟨hc, hw⟩ := hok g (by simp)
      have hfit := doFit_of (by omega) hQ hb0 hb hc
      rw [Int.toNat_natCast] at hfit
      obtain ⟨⟨x, hx, hxQ, hctl⟩, _⟩ := hfit
      obtain ⟨p1, p2, p3, p4, p5, p6, p7⟩ := (opCode_iff _ _ _).1 hc
      obtain ⟨y, hy, hyM⟩ := hs.nat hx hxQ
      have hlen := wr_len hw
      have hk2 : ∀ c, g.ctl = [c] → g.kind ≠ 1 := fun c e e1 => by
        have := p4 (by rw [e]; exact Nat.zero_lt_one)
        unfold usesC at this
        rw [e1] at this
        simp at this
      refine ⟨(opCode_iff _ _ _).2 ⟨p1, p2, ?_, ?_, ?_, p6, p7⟩, by rw [mapO_wr]; exact hw, ?_⟩
      · show fitsB (if g.kind = 1 then g.q else stA st1 g.q) N (usesQ g.kind) = true
        by_cases e : g.kind = 1
        · rw [if_pos e]
          have e2 : usesQ g.kind = false := by unfold usesQ; rw [e]; rfl
          rw [e2] at p3 ⊢
          exact p3
        · rw [if_neg e]
          have e2 : usesQ g.kind = true := by unfold usesQ; simp [e]
          rw [e2, hy]
          exact below_of (x := (y : Int)) (n := N) (by omega) (by omega)
      · show 0 < (g.ctl.map (stA st1)).length → usesC g.kind = true
        rw [List.length_map]; exact p4
      · show ctlCode (if g.kind = 1 then g.q else stA st1 g.q) N [] (g.ctl.map (stA st1)) = 0
        match hgc : g.ctl with
        | [] => rfl
        | [c] =>
          rw [if_neg (hk2 c hgc)]
          obtain ⟨z, hz1, hzQ, hzx⟩ := hctl c (by rw [hgc]; simp)
          obtain ⟨t, ht, htM⟩ := hs.nat hz1 hzQ
          have hne : stA st1 c ≠ stA st1 g.q := fun e => by
            unfold stA at e
            rw [hz1, hx, Int.toNat_natCast, Int.toNat_natCast] at e
            exact hzx (hs.inj hzQ hxQ e)
          show ctlCode (stA st1 g.q) N [] [stA st1 c] = 0
          unfold ctlCode
          rw [below_of (by omega) (by omega), if_neg (by decide), if_neg (by simp [hne])]
          rfl
        | c :: d :: r => rw [hgc] at hlen; simp at hlen
      · intro c hcc
        show lkd ls c (if g.kind = 1 then g.q else stA st1 g.q) = true
        match hgc : g.ctl with
        | [] =>
          have : (mapO st1 g).ctl = [] := by unfold mapO; rw [hgc]; rfl
          rw [this] at hcc; cases hcc
        | c0 :: r =>
          have hr : r = [] := by rw [hgc] at hlen; simp at hlen; exact hlen
          subst hr
          rw [if_neg (hk2 c0 hgc)]
          have hcc' : stA st1 c0 = c := by
            have : (mapO st1 g).ctl = [stA st1 c0] := by unfold mapO; rw [hgc]; rfl
            rw [this] at hcc; simpa using hcc
          obtain ⟨z, hz1, hzQ, hzx⟩ := hctl c0 (by rw [hgc]; simp)
          obtain ⟨t, ht, htM⟩ := hs.nat hz1 hzQ
          have h9 := hl c0 (by rw [hgc]; simp)
          rw [hd.tells, ht, hy, Int.toNat_natCast, Int.toNat_natCast] at h9
          rw [← hcc', ht, hy]
          exact h9
theorem chk_of {qb bi : Int} {ops : List Gop} (h1 : 1 ≤ qb) (h2 : qb ≤ 12) (h3 : 0 ≤ bi) (h4 : bi ≤ 12) (h5 : ops.length ≤ 4096) (h6 : ∀ g ∈ ops, opCode g qb bi = 0) : chk ⟨qb, bi, ops⟩ = (0, 0) := by
  unfold chk
  rw [if_neg (by simp only; omega), if_neg (by simp only; omega), if_neg (by simp only; omega)]
  have key : ∀ (l : List Gop) (i : Nat), (∀ g ∈ l, opCode g qb bi = 0) → opsCode qb bi i l = (0, 0) := by
    intro l
    induction l with
    | nil => intro i _; rfl
    | cons a r ih =>
      intro i hl
      unfold opsCode
      rw [if_neg (by rw [hl a (by simp)]; decide)]
      exact ih _ (fun g hg => hl g (by simp [hg]))
  exact key ops 0 h6
theorem bsF_of {ops : List Gop} (h : ∀ g ∈ ops, isWr g = false) : ∀ r i, i + r = ops.length → bsF ops r i = (0, 0)
  | 0, _, _ => rfl
  | r + 1, i, hr => by
    unfold bsF
    have hi : i < ops.length := by omega
    have : isWr (ops.getD i ⟨0, 0, [], 0, 0, []⟩) = false := by
      rw [List.getD_eq_getElem?_getD, List.getElem?_eq_getElem hi]
      exact h _ (List.getElem_mem hi)
    rw [this, if_neg (by decide)]
    exact bsF_of h r (i + 1) (by omega)

theorem Linked_any (N : Int) (ls : List Lnk) (ao : Option Addr) (n cp : Nat) (a b : Int) (w : World) (h : LnkAt w ao n ls) (hn : n ≤ 9223372036854775806) :
    Calls Tryd.prog 18 #[.agg #[.int .i64 N, .slice ao n cp], .int .i64 a, .int .i64 b] w fun e w' => e = .returned (.bool (lkd ls a b)) ∧ Ext w w' := by
  obtain ⟨H, hH⟩ : ∃ H, w.heap.size = H := ⟨_, rfl⟩
  obtain ⟨W0, hW0⟩ : ∃ W0, w.alloc (.cells #[.int .i64 N, .slice ao n cp] 24) = W0 := ⟨_, rfl⟩
  have E0 : Ext w W0 := by rw [← hW0]; exact ext_al w _
  have bD : DvB W0 H N ao n cp := by rw [← hW0, ← hH]; exact ⟨heap_alloc_new w _⟩
  have HC := Lib.hid (linked_any N ls ao n cp a b W0 (h.ext E0) hn)
  have HE0 := Lib.hid E0; have HW0 := Lib.hid hW0; have HH := Lib.hid hH
  have v0 := bD.x0; have v1 := bD.x1
  clear h hn E0 bD hW0 hH
  go_enter Tryd.func18, Tryd.ntmps18
  go_upto_region 1 with fail
  rw [HW0.out, HH.out]
  go_wp2_with fail
  refine HC.out.mono ?_
  rintro e w1 ⟨rfl, hx1⟩
  have HE1 := Lib.hid (HE0.out.trans hx1)
  clear v0 v1 hx1
  go_wp2_with fail
  go_ret
  exact ⟨rfl, HE1.out⟩

set_option maxRecDepth 100000 in
set_option maxHeartbeats 4000000 in
theorem lplaces_any (st : List Int) (Q M : Nat) (ao : Option Addr) (cp : Nat) (w : World) (h : IntsAt w ao Q st) (hs : StOk st Q M) (hQ : Q ≤ 12) :
    Calls Tryd.prog 19 #[.slice ao Q cp, .int .i64 (Q : Int), .int .i64 (M : Int)] w fun e w' => e = .returned (.bool true) ∧ Ext w w' := by
  have Hh := Lib.hid h; have Hs := Lib.hid hs; have HQ := Lib.hid hQ
  clear h hs hQ
  go_enter Tryd.func19, Tryd.ntmps19
  go_wp2_with fail
  go_loopg [7, 8] Q (fun kk s7 _ wr => ∃ i : Nat, s7 = .int .i64 (i : Int) ∧ i ≤ Q ∧ Q - i = kk ∧ Ext w wr)
  case atStart => exact ⟨0, rfl, Nat.zero_le _, rfl, Ext.refl _⟩
  case round =>
    obtain ⟨i, rfl, hi, hk, hE⟩ := hrel
    have HE := Lib.hid hE; have Hk := Lib.hid hk
    by_cases hin : i = Q
    · subst hin
      have q1 : ¬ (i : Int) < (i : Int) := by omega
      clear hi hk hE
      go_wp2_with fail
      go_ret
      exact ⟨rfl, HE.out⟩
    have hlt : i < Q := by omega
    have Hlt := Lib.hid hlt
    have q1 : (i : Int) < (Q : Int) := by omega
    have q0 : (0 : Int) ≤ (i : Int) := by omega
    have wk : IntKind.i64.wrap ((i : Int) + 1) = ((i + 1 : Nat) : Int) := by rw [IntKind.wrap_i64]; have := HQ.out; omega
    obtain ⟨b, o, rfl, _, hcell⟩ := (Hh.out.ext hE).at (by omega)
    have ci := hcell i hlt
    obtain ⟨x, hx, hxM⟩ := Hs.out.at hlt
    rw [hx] at ci
    have d1 : decide ((x : Int) < 0) = false := decide_eq_false (by omega)
    have d2 : ¬ M ≤ x := by omega
    have Hx := Lib.hid hx
    clear hi hk hE hin hlt hcell hxM hx
    go_wp2_with fail
    go_loopg [8] i (fun kk s8 wy => ∃ k : Nat, s8 = .int .i64 (k : Int) ∧ k ≤ i ∧ i - k = kk ∧ Ext w wy)
    case atStart => exact ⟨0, rfl, Nat.zero_le _, rfl, HE.out⟩
    case round =>
      clear HE ci
      obtain ⟨k, rfl, hkk, hkd, hE⟩ := hrel
      have HE := Lib.hid hE; have Hkd := Lib.hid hkd
      by_cases hin : k = i
      · subst hin
        have q2 : ¬ (k : Int) < (k : Int) := by omega
        clear hkk hkd hE
        go_wp2_with fail
        go_roundg (Q - (k + 1))
        case measure => have := Hk.out; have := Hlt.out; omega
        case rel => exact ⟨k + 1, rfl, Hlt.out, rfl, HE.out⟩
      have hklt : k < i := by omega
      have Hklt := Lib.hid hklt
      have q2 : (k : Int) < (i : Int) := by omega
      have q3 : (0 : Int) ≤ (k : Int) := by omega
      have q4 : (k : Int) < (Q : Int) := by omega
      have wk2 : IntKind.i64.wrap ((k : Int) + 1) = ((k + 1 : Nat) : Int) := by rw [IntKind.wrap_i64]; have := HQ.out; omega
      obtain ⟨b', o', e', _, hcell⟩ := (Hh.out.ext hE).at (by omega)
      cases e'
      have ci := hcell i Hlt.out
      have ck := hcell k (by have := Hlt.out; omega)
      rw [Hx.out] at ci
      obtain ⟨y, hy, _⟩ := Hs.out.at (show k < Q by have := Hlt.out; omega)
      rw [hy] at ck
      have hne : ((y : Int) == (x : Int)) = false := beq_eq_false_iff_ne.2 fun e => by
        have := Hs.out.inj (show k < Q by have := Hlt.out; omega) Hlt.out (by rw [hy, Hx.out, e])
        omega
      clear hkk hkd hE hin hklt hcell hy
      go_upto_region 11 with fail
      go_quiet (fail)
      go_wp2_with fail
      go_roundg (i - (k + 1))
      case measure => have := Hkd.out; have := Hklt.out; omega
      case rel => exact ⟨k + 1, rfl, Hklt.out, rfl, HE.out.trans (ext_drewN wr _)⟩
end Go.Proofs.YtlokfalkhgjlbaaDoor
namespace Go.Proofs.YtlokfalkhgjlbaaDoor
open Go.RowKit

set_option maxHeartbeats 1000000 in
theorem sameInts_any (l : List Int) (a1 : Option Addr) (n c1 : Nat) (a2 : Option Addr) (c2 : Nat) (w : World) (h1 : IntsAt w a1 n l) (h2 : IntsAt w a2 n l) (hc1 : n ≤ c1) (hm1 : c1 ≤ 9223372036854775807) :
    Calls Tryd.prog 22 #[.slice a1 n c1, .slice a2 n c2] w fun e w' => e = .returned (.bool true) ∧ Ext w w' := by
  have H1 := Lib.hid h1; have H2 := Lib.hid h2
  clear h1 h2
  go_enter Tryd.func22, Tryd.ntmps22
  go_wp2_with fail
  go_loopg [5] n (fun kk s5 wx => ∃ i : Nat, s5 = .int .i64 (i : Int) ∧ i ≤ n ∧ n - i = kk ∧ Ext w wx)
  case atStart => exact ⟨0, rfl, by omega, by omega, Ext.refl w⟩
  case round =>
    obtain ⟨i, rfl, hi1, hk, hE⟩ := hrel
    have HE := Lib.hid hE
    by_cases hin : i = n
    · have h2 : ¬ (i : Int) < (n : Int) := by omega
      clear hE
      go_wp2_with fail
      go_ret
      exact ⟨rfl, HE.out⟩
    · have h2 : (i : Int) < (n : Int) := by omega
      have h0 : (0 : Int) ≤ (i : Int) := by omega
      obtain ⟨b1, o1, rfl, hb1, hc1'⟩ := (H1.out.ext hE).at (by omega)
      obtain ⟨b2, o2, rfl, hb2, hc2'⟩ := (H2.out.ext hE).at (by omega)
      have e1 := hc1' i (by omega); have e2 := hc2' i (by omega)
      obtain ⟨x, hx⟩ : ∃ x, l.getD i 0 = x := ⟨_, rfl⟩
      rw [hx] at e1 e2
      have HEd := Lib.hid (cdrew hE)
      clear hE hc1' hc2' hx
      go_wp2_with fail
      go_region
      go_wp2_with fail
      go_roundg (n - (i + 1))
      case measure => omega
      case rel => exact ⟨i + 1, by go_num, by omega, rfl, HEd.out⟩

set_option maxHeartbeats 4000000 in
set_option maxRecDepth 100000 in
theorem sameCircuit_any (c : Gci) (a1 : Option Addr) (n c1 : Nat) (a2 : Option Addr) (c2 : Nat) (w : World) (h1 : OpsAt w a1 n c.ops) (h2 : OpsAt w a2 n c.ops) (hn1 : n ≤ c1) (hm1 : c1 ≤ 9223372036854775807) (_hn2 : n ≤ c2) (_hm2 : c2 ≤ 9223372036854775807) :
    Calls Tryd.prog 15 #[.agg #[.int .i64 c.qubits, .int .i64 c.bits, .slice a1 n c1], .agg #[.int .i64 c.qubits, .int .i64 c.bits, .slice a2 n c2]] w fun e w' => e = .returned (.bool true) ∧ Ext w w' := by
  obtain ⟨qb, bi, ops⟩ := c
  simp only at h1 h2 ⊢
  obtain ⟨A1, hA1⟩ : ∃ A1, w.alloc (.cells #[.int .i64 qb, .int .i64 bi, .slice a1 n c1] 34) = A1 := ⟨_, rfl⟩
  obtain ⟨A2, hA2⟩ : ∃ A2, A1.alloc (.cells #[.int .i64 qb, .int .i64 bi, .slice a2 n c2] 34) = A2 := ⟨_, rfl⟩
  have s1 : A1.heap.size = w.heap.size + 1 := by rw [← hA1]; simp
  have x1 : Ext w A1 := by rw [← hA1]; exact ext_al _ _
  have x2 : Ext A1 A2 := by rw [← hA2]; exact ext_al _ _
  have bC : CiB A2 w.heap.size qb bi a1 n c1 := by
    have : CiB A1 w.heap.size qb bi a1 n c1 := by rw [← hA1]; exact ⟨heap_alloc_new w _⟩
    exact this.ext x2
  have bD : CiB A2 (w.heap.size + 1) qb bi a2 n c2 := by rw [← hA2, ← s1]; exact ⟨heap_alloc_new A1 _⟩
  have hA : (w.alloc (.cells #[.int .i64 qb, .int .i64 bi, .slice a1 n c1] 34)).alloc (.cells #[.int .i64 qb, .int .i64 bi, .slice a2 n c2] 34) = A2 := by rw [hA1, hA2]
  have E0 := x1.trans x2
  have m0 := bC.x0; have m1 := bC.x1; have m2 := bC.x2; have k0 := bD.x0; have k1 := bD.x1; have k2 := bD.x2
  rw [← hA] at m0 m1 m2 k0 k1 k2
  have HA := Lib.hid hA; have HC := Lib.hid bC; have HD := Lib.hid bD; have HE0 := Lib.hid E0
  have H1 := Lib.hid h1; have H2 := Lib.hid h2; have Hl := Lib.hid h1.1
  clear h1 h2 hA1 hA2 s1 x1 x2 bC bD hA E0
  go_enter Tryd.func15, Tryd.ntmps15
  go_wp2_with fail
  rw [HA.out]
  clear m0 m1 m2 k0 k1 k2
  go_loopg [5] n (fun kk s5 wx => ∃ i : Nat, s5 = .int .i64 (i : Int) ∧ i ≤ n ∧ n - i = kk ∧ Ext A2 wx)
  case atStart => exact ⟨0, rfl, by omega, by omega, Ext.refl A2⟩
  case round =>
    obtain ⟨i, rfl, hi1, hk, hE⟩ := hrel
    have m2 := (HC.out.ext hE).x2; have k2 := (HD.out.ext hE).x2
    by_cases hin : i = n
    · have h2 : ¬ (i : Int) < (n : Int) := by omega
      have HE := Lib.hid (HE0.out.trans hE)
      clear hE
      go_wp2_with fail
      go_ret
      exact ⟨rfl, HE.out⟩
    · have h2 : (i : Int) < (n : Int) := by omega
      have h0 : (0 : Int) ≤ (i : Int) := by omega
      obtain ⟨b, o, rfl⟩ := H1.out.some_of (by omega)
      obtain ⟨b', o', rfl⟩ := H2.out.some_of (by omega)
      obtain ⟨g, hg⟩ : ∃ g, ops[i]? = some g := ⟨_, List.getElem?_eq_getElem (by rw [Hl.out]; omega)⟩
      obtain ⟨p1, q1, r1, p2, q2, r2, e0, e1, e2, e3, e4, e5, hL⟩ := ((H1.out.ext HE0.out).ext hE).at i g hg
      obtain ⟨p1', q1', r1', p2', q2', r2', d0, d1, d2, d3, d4, d5, hL'⟩ := ((H2.out.ext HE0.out).ext hE).at i g hg
      have hq1 := hL.i1.1.symm.trans hL'.i1.1; have hq2 := hL.i2.1.symm.trans hL'.i2.1
      subst hq1; subst hq2
      have Ea := ext_al wr (.cells #[.int .i64 g.kind, .int .i64 g.k, .slice p1 q1 r1, .int .i64 g.q, .int .i64 g.bit, .slice p2 q2 r2] 46)
      have bO := opbx_new wr g.kind g.k p1 q1 r1 g.q g.bit p2 q2 r2
      obtain ⟨X1, hX1⟩ : ∃ X, wr.alloc (.cells #[.int .i64 g.kind, .int .i64 g.k, .slice p1 q1 r1, .int .i64 g.q, .int .i64 g.bit, .slice p2 q2 r2] 46) = X := ⟨_, rfl⟩
      have sX : X1.heap.size = wr.heap.size + 1 := by rw [← hX1]; simp
      rw [hX1] at Ea bO
      have Eb := ext_al X1 (.cells #[.int .i64 g.kind, .int .i64 g.k, .slice p1' q1 r1', .int .i64 g.q, .int .i64 g.bit, .slice p2' q2 r2'] 46)
      have bP := opbx_new X1 g.kind g.k p1' q1 r1' g.q g.bit p2' q2 r2'
      rw [sX] at bP
      obtain ⟨X2, hX2⟩ : ∃ X, X1.alloc (.cells #[.int .i64 g.kind, .int .i64 g.k, .slice p1' q1 r1', .int .i64 g.q, .int .i64 g.bit, .slice p2' q2 r2'] 46) = X := ⟨_, rfl⟩
      rw [hX2] at Eb bP
      have bO2 := bO.ext Eb
      have EX := Ea.trans Eb
      have HXX : Hid ((wr.alloc (.cells #[.int .i64 g.kind, .int .i64 g.k, .slice p1 q1 r1, .int .i64 g.q, .int .i64 g.bit, .slice p2 q2 r2] 46)).alloc (.cells #[.int .i64 g.kind, .int .i64 g.k, .slice p1' q1 r1', .int .i64 g.q, .int .i64 g.bit, .slice p2' q2 r2'] 46) = X2) := by show _ = _; rw [hX1, hX2]
      have d0' := cell_ext d0 Ea; have d1' := cell_ext d1 Ea; have d2' := cell_ext d2 Ea; have d3' := cell_ext d3 Ea; have d4' := cell_ext d4 Ea; have d5' := cell_ext d5 Ea
      have k2' := cell_ext k2 Ea
      rw [← hX1] at d0' d1' d2' d3' d4' d5' k2'
      have HS1 := Lib.hid (fun wx (hx : Ext X2 wx) => sameInts_any g.ctl p1 q1 r1 p1' r1' wx ((hL.i1.ext EX).ext hx) ((hL'.i1.ext EX).ext hx) hL.h1 hL.m1)
      have HS2 := Lib.hid (fun wx (hx : Ext X2 wx) => sameInts_any g.cnd p2 q2 r2 p2' r2' wx ((hL.i2.ext EX).ext hx) ((hL'.i2.ext EX).ext hx) hL.h2 hL.m2)
      obtain ⟨kd, kk', ctl, qq, bb, cnd⟩ := g
      simp only at e0 e1 e2 e3 e4 e5 d0' d1' d2' d3' d4' d5' k2' bO2 bP HXX HS1 HS2
      have p_0 := bO2.x0; have p_1 := bO2.x1; have p_2 := bO2.x2; have p_3 := bO2.x3; have p_4 := bO2.x4; have p_5 := bO2.x5
      have q_0 := bP.x0; have q_1 := bP.x1; have q_2 := bP.x2; have q_3 := bP.x3; have q_4 := bP.x4; have q_5 := bP.x5
      rw [← HXX.out] at p_0 p_1 p_2 p_3 p_4 p_5 q_0 q_1 q_2 q_3 q_4 q_5
      have HbO := Lib.hid bO2; have HbP := Lib.hid bP
      have HEX := Lib.hid (hE.trans EX)
      clear hg hL hL' d0 d1 d2 d3 d4 d5 Ea Eb bO bP bO2 hX1 hX2 sX EX hE k2
      go_wp2_with fail
      rw [HXX.out]
      refine (HS1.out X2 (Ext.refl X2)).mono ?_
      rintro e w5 ⟨rfl, hx5⟩
      have p_5 := (HbO.out.ext hx5).x5; have q_5 := (HbP.out.ext hx5).x5
      have HX5 := Lib.hid hx5
      clear hx5
      go_wp2_with fail
      refine (HS2.out w5 HX5.out).mono ?_
      rintro e w6 ⟨rfl, hx6⟩
      have HE6 := Lib.hid ((HEX.out.trans HX5.out).trans hx6)
      clear hx6
      go_wp2_with fail
      go_roundg (n - (i + 1))
      case measure => omega
      case rel => exact ⟨i + 1, by go_num, by omega, rfl, HE6.out⟩

end Go.Proofs.YtlokfalkhgjlbaaDoor
namespace Go.Proofs.YtlokfalkhgjlbaaDoor
open Go.RowKit

theorem fit_zero {c : Gci} {N : Int} {ls : List Lnk} (h : (fitF c N ls).1 = 0) : (chk c).1 = 0 ∧ DevOk N ls ∧ c.qubits ≤ N ∧ (∀ g ∈ c.ops, isWr g = false) ∧ rckN N c.ops ≤ 4096 ∧ (fitF c N ls).2 = 0 := by
  unfold fitF at h ⊢
  by_cases h1 : (chk c).1 ≠ 0
  · rw [if_pos h1] at h; exact absurd h h1
  rw [if_neg h1] at h ⊢
  by_cases h2 : (devF N ls).1 ≠ 0
  · rw [if_pos h2] at h; exact absurd h h2
  rw [if_neg h2] at h ⊢
  by_cases h3 : N < c.qubits
  · rw [if_pos h3] at h; exact absurd h (by show ¬ (36 : Int) = 0; decide)
  rw [if_neg h3] at h ⊢
  by_cases h4 : (bsF c.ops c.ops.length 0).1 ≠ 0
  · rw [if_pos h4] at h; exact absurd h h4
  rw [if_neg h4] at h ⊢
  by_cases h5 : 4096 < rckN N c.ops
  · rw [if_pos h5] at h; exact absurd h (by show ¬ (21 : Int) = 0; decide)
  rw [if_neg h5] at h ⊢
  exact ⟨by omega, (dev_ok (by omega)).1, by omega, bs_wr (by omega), by omega, rfl⟩

set_option maxRecDepth 100000 in
set_option maxHeartbeats 16000000 in
theorem fits_walk (c : Gci) (ao : Option Addr) (n cp : Nat) (N : Int) (ls : List Lnk) (bo : Option Addr) (m cq : Nat) (w : World) (h : OpsAt w ao n c.ops) (hn : n ≤ cp) (hcp : cp ≤ 9223372036854775807) (hbn : n * 80 ≤ 140737488355328) (hbl : ∀ g ∈ c.ops, g.ctl.length * 8 ≤ 140737488355328 ∧ g.cnd.length * 8 ≤ 140737488355328)
    (hd : LnkAt w bo m ls) (hmq : m ≤ cq) (hcq : cq ≤ 9223372036854775807) (hbm : m * 16 ≤ 140737488355328) (hnil : bo = none → cq = 0) (hS : Shp w) (hT : BruM w) :
    Calls Tryd.prog 4 #[.agg #[.int .i64 c.qubits, .int .i64 c.bits, .slice ao n cp], .agg #[.int .i64 N, .slice bo m cq]] w fun e w' => e = .returned (.bool true) ∧ Ext w w' := by
  have hm6 : m ≤ 9223372036854775806 := by omega
  obtain ⟨H, hH⟩ : ∃ H, w.heap.size = H := ⟨_, rfl⟩
  obtain ⟨qb, bi, ops⟩ := c
  simp only at h hbl ⊢
  obtain ⟨W0, hW0⟩ : ∃ W0, (w.alloc (.cells #[.int .i64 qb, .int .i64 bi, .slice ao n cp] 34)).alloc (.cells #[.int .i64 N, .slice bo m cq] 24) = W0 := ⟨_, rfl⟩
  have E0 : Ext w W0 := by rw [← hW0]; exact (ext_al w _).trans (ext_al _ _)
  have bC : CiB W0 H qb bi ao n cp := by rw [← hW0, ← hH]; exact CiB.ext ⟨heap_alloc_new w _⟩ (ext_al _ _)
  have bD : DvB W0 (H + 1) N bo m cq := ⟨by
    have := heap_alloc_new (w.alloc (.cells #[.int .i64 qb, .int .i64 bi, .slice ao n cp] 34)) (.cells #[.int .i64 N, .slice bo m cq] 24)
    rw [← hW0, ← hH]
    simpa using this⟩
  have HCp := Lib.hid (CopyCircuit_N ⟨qb, bi, ops⟩ ao n cp W0 (h.ext E0) hbn hbl)
  have HE0 := Lib.hid E0; have HC := Lib.hid bC; have HD := Lib.hid bD; have HW0 := Lib.hid hW0; have HH := Lib.hid hH; have Hh := Lib.hid (h.ext E0); have Hd := Lib.hid (hd.ext E0); have HS := Lib.hid (hS.ext E0); have HT := Lib.hid (bruM_ext hT E0); have Hm6 := Lib.hid hm6; have Hbm := Lib.hid hbm; have Hnil := Lib.hid hnil; have Hn := Lib.hid (And.intro hn hcp); have Hmq := Lib.hid (And.intro hmq hcq)
  have v0 := bC.x0; have v1 := bC.x1; have v2 := bC.x2
  clear h hn hcp hbn hbl hd hmq hcq hbm hnil hS hT E0 bC bD hW0 hH hm6
  go_enter Tryd.func4, Tryd.ntmps4
  go_upto_region 1 with fail
  rw [HW0.out, HH.out]
  go_wp2_with fail
  refine HCp.out.mono ?_
  rintro e w1 ⟨⟨a1, c1, rfl, hO1⟩, hx1⟩
  obtain ⟨_, ho2, ho3, ho4⟩ := hO1.at
  obtain ⟨K1, hK1⟩ : ∃ K, w1.heap.size = K := ⟨_, rfl⟩
  obtain ⟨U1, hU1⟩ : ∃ U, w1.alloc (.cells #[.int .i64 qb, .int .i64 bi, .slice a1 n c1] 34) = U := ⟨_, rfl⟩
  have EU1 : Ext w1 U1 := by rw [← hU1]; exact ext_al _ _
  have bU1 : CiB U1 K1 qb bi a1 n c1 := by rw [← hU1, ← hK1]; exact ⟨heap_alloc_new w1 _⟩
  have EX1 := hx1.trans EU1
  have HX1 := Lib.hid EX1; have HO1 := Lib.hid (ho4.ext EU1); have HbU1 := Lib.hid bU1; have HU1 := Lib.hid hU1; have HK1 := Lib.hid hK1; have Hc1 := Lib.hid (And.intro ho2 ho3)
  have HCd := Lib.hid (copyDevice_any N ls bo m cq U1 (Hd.out.ext EX1) Hbm.out Hnil.out)
  have u0 := (HD.out.ext EX1).x0; have u1 := (HD.out.ext EX1).x1
  clear hO1 ho2 ho3 ho4 hx1 EU1 bU1 EX1 hU1 hK1 v0 v1 v2 HCp HW0 HH
  go_upto_region 2 with fail
  rw [HU1.out, HK1.out]
  go_wp2_with fail
  refine HCd.out.mono ?_
  rintro e w2 ⟨b1, e1, rfl, ⟨hL1, hl2, hl3⟩, hx2⟩
  obtain ⟨K2, hK2⟩ : ∃ K, w2.heap.size = K := ⟨_, rfl⟩
  obtain ⟨U2, hU2⟩ : ∃ U, w2.alloc (.cells #[.int .i64 N, .slice b1 m e1] 24) = U := ⟨_, rfl⟩
  have EU2 : Ext w2 U2 := by rw [← hU2]; exact ext_al _ _
  have bU2 : DvB U2 K2 N b1 m e1 := by rw [← hU2, ← hK2]; exact ⟨heap_alloc_new w2 _⟩
  have EX2 := hx2.trans EU2
  have HX2 := Lib.hid EX2; have HL2 := Lib.hid (hL1.ext EU2); have HbU2 := Lib.hid bU2; have HU2 := Lib.hid hU2; have HK2 := Lib.hid hK2
  have E02 := HX1.out.trans EX2
  have HFit := Lib.hid (Fit_any ⟨qb, bi, ops⟩ a1 n c1 N ls b1 m e1 U2 (HO1.out.ext EX2) Hc1.out.1 Hc1.out.2 (hL1.ext EU2) Hm6.out (HS.out.ext E02) (bruM_ext HT.out E02))
  have t0 := (HbU1.out.ext EX2).x0; have t1 := (HbU1.out.ext EX2).x1; have t2 := (HbU1.out.ext EX2).x2; have t3 := bU2.x0; have t4 := bU2.x1
  have HE02 := Lib.hid E02
  clear hL1 hl2 hl3 hx2 EU2 bU2 EX2 hU2 hK2 u0 u1 HCd HU1 HK1 E02
  go_upto_region 3 with fail
  rw [HU2.out, HK2.out]
  go_wp2_with fail
  refine HFit.out.mono ?_
  rintro e w3 ⟨rq, rb, oa, on, oc, sa, sn, sc, ea, en, ec, out, s0, st, rfl, ⟨hO3, hO4, hO5⟩, ⟨hI1, hI2, hI3⟩, ⟨hJ1, hJ2, hJ3⟩, hR, hx3⟩
  obtain ⟨F, hF⟩ : ∃ F, fitF ⟨qb, bi, ops⟩ N ls = F := ⟨_, rfl⟩
  obtain ⟨F0, F1⟩ := F
  rw [hF]
  simp only
  obtain ⟨K3, hK3⟩ : ∃ K, w3.heap.size = K := ⟨_, rfl⟩
  obtain ⟨U3, hU3⟩ : ∃ U, (w3.alloc (.cells #[.int .i64 rq, .int .i64 rb, .slice oa on oc, .slice sa sn sc, .slice ea en ec] 38)).alloc (.cells #[.int .i64 F0, .int .i64 F1] 27) = U := ⟨_, rfl⟩
  have EU3 : Ext w3 U3 := by rw [← hU3]; exact (ext_al _ _).trans (ext_al _ _)
  have rU3 : U3.heap[K3]? = some (.cells #[.int .i64 rq, .int .i64 rb, .slice oa on oc, .slice sa sn sc, .slice ea en ec] 38 (0, 0)) := by
    have h1 := heap_alloc_new w3 (.cells #[.int .i64 rq, .int .i64 rb, .slice oa on oc, .slice sa sn sc, .slice ea en ec] 38)
    rw [← hU3, ← hK3]
    exact ((ext_al _ _).block _ (Array.getElem?_eq_some_iff.1 h1).1).trans h1
  have bF3 : FtB U3 (K3 + 1) F0 F1 := ⟨by
    have h1 := heap_alloc_new (w3.alloc (.cells #[.int .i64 rq, .int .i64 rb, .slice oa on oc, .slice sa sn sc, .slice ea en ec] 38)) (.cells #[.int .i64 F0, .int .i64 F1] 27)
    rw [World.size_alloc] at h1
    rw [← hU3, ← hK3]
    exact h1⟩
  have EX3 := hx3.trans EU3
  have E03 := HE02.out.trans EX3
  have HFF := Lib.hid (FitFault_any ⟨qb, bi, ops⟩ ao n cp N ls bo m cq U3 (Hh.out.ext E03) Hn.out.1 Hn.out.2 (Hd.out.ext E03) Hm6.out Hmq.out.1 Hmq.out.2)
  rw [hF] at HFF
  simp only at HFF
  obtain ⟨Mo, hMo⟩ : ∃ Mo : Int, (if F0 = 0 then rckN N ops else 0) = Mo := ⟨_, rfl⟩
  rw [hMo] at HFF
  have HX3 := Lib.hid EX3; have HE03 := Lib.hid E03; have HrU3 := Lib.hid rU3; have HbF3 := Lib.hid bF3; have HU3 := Lib.hid hU3; have HK3 := Lib.hid hK3; have HF := Lib.hid hF; have HMo := Lib.hid hMo
  have HO3 := Lib.hid (And.intro (hO3.ext EU3) (And.intro hO4 hO5)); have HI := Lib.hid (And.intro (hI1.ext EU3) (And.intro hI2 hI3)); have HJ := Lib.hid (And.intro (hJ1.ext EU3) (And.intro hJ2 hJ3)); have HR := Lib.hid hR
  have t5 := (HC.out.ext E03).x0; have t6 := (HC.out.ext E03).x1; have t7 := (HC.out.ext E03).x2; have t8 := (HD.out.ext E03).x0; have t9 := (HD.out.ext E03).x1
  clear hF hMo hK3 hU3 EU3 rU3 bF3 EX3 E03 hO3 hO4 hO5 hI1 hI2 hI3 hJ1 hJ2 hJ3 hR hx3 t0 t1 t2 t3 t4 HFit HU2 HK2
  go_upto_region 4 with fail
  rw [HU3.out, HK3.out]
  go_wp2_with fail
  refine HFF.out.mono ?_
  rintro e w4 ⟨rfl, hx4⟩
  obtain ⟨K4, hK4⟩ : ∃ K, w4.heap.size = K := ⟨_, rfl⟩
  obtain ⟨U4, hU4⟩ : ∃ U, w4.alloc (.cells #[.int .i64 F0, .int .i64 F1] 27) = U := ⟨_, rfl⟩
  have EU4 : Ext w4 U4 := by rw [← hU4]; exact ext_al _ _
  have bU4 : FtB U4 K4 F0 F1 := by rw [← hU4, ← hK4]; exact ⟨heap_alloc_new w4 _⟩
  have EX4 := hx4.trans EU4
  have E04 := HE03.out.trans EX4
  have HX4 := Lib.hid EX4; have HE04 := Lib.hid E04; have HbU4 := Lib.hid bU4; have HU4 := Lib.hid hU4; have HK4 := Lib.hid hK4
  clear t5 t6 t7 t8 t9 hx4 EU4 bU4 EX4 E04 hU4 hK4 HFF HU3 HK3
  go_upto_region 5 with fail
  rw [HU4.out, HK4.out]
  clear HU4 HK4
  have HBg := Lib.hid (routeBegun_any U4 (HS.out.ext HE04.out) (bruM_ext HT.out HE04.out))
  have bFr := HbF3.out.ext HX4.out; have bFg := HbU4.out
  have p0 := bFr.x0; have p1 := bFr.x1; have p2 := bFg.x0; have p3 := bFg.x1
  clear bFr bFg
  go_wp2_with fail
  refine HBg.out.mono ?_
  rintro e w5 ⟨rfl, hx5⟩
  have E05 := HE04.out.trans hx5
  have EX5 := HX4.out.trans hx5
  have p0 := cell_ext p0 hx5; have p1 := cell_ext p1 hx5; have p2 := cell_ext p2 hx5; have p3 := cell_ext p3 hx5
  have bGiv := ((HbU1.out.ext HX2.out).ext HX3.out).ext EX5; have bCo := HC.out.ext E05
  have g0 := bGiv.x0; have g1 := bGiv.x1; have g2 := bGiv.x2; have k0 := bCo.x0; have k1 := bCo.x1; have k2 := bCo.x2
  have HSm := Lib.hid (sameCircuit_any ⟨qb, bi, ops⟩ a1 n c1 ao cp w5 (((HO1.out.ext HX2.out).ext HX3.out).ext EX5) (Hh.out.ext E05) Hc1.out.1 Hc1.out.2 Hn.out.1 Hn.out.2)
  have HE05 := Lib.hid E05; have HX5 := Lib.hid EX5; have HX45 := Lib.hid hx5
  clear hx5 bGiv bCo E05 EX5 HBg
  go_wp2_with fail
  refine HSm.out.mono ?_
  rintro e w6 ⟨rfl, hx6⟩
  have E06 := HE05.out.trans hx6; have EX6 := HX5.out.trans hx6
  have bDv := (HbU2.out.ext HX3.out).ext EX6; have bDo := HD.out.ext E06
  have r0 := bDv.x0; have r1 := bDv.x1; have r2 := bDo.x0; have r3 := bDo.x1
  have HSd := Lib.hid (sameDevice_any N ls b1 m e1 bo cq w6 ((HL2.out.ext HX3.out).ext EX6) (Hd.out.ext E06) Hm6.out)
  have HE06 := Lib.hid E06; have HX6 := Lib.hid EX6; have HX47 := Lib.hid (HX45.out.trans hx6)
  clear hx6 bDv bDo E06 EX6 HSm p0 p1 p2 p3 g0 g1 g2 k0 k1 k2
  go_wp2_with fail
  refine HSd.out.mono ?_
  rintro e w7 ⟨rfl, hx7⟩
  have E07 := HE06.out.trans hx7; have EX7 := HX6.out.trans hx7
  have HE07 := Lib.hid E07; have HX7 := Lib.hid EX7
  have hrow := (EX7.block _ (Array.getElem?_eq_some_iff.1 HrU3.out).1).trans HrU3.out
  obtain ⟨y0, y1, y2, y3, y4⟩ := rt_row hrow
  have Hrow := Lib.hid hrow
  have z0 := (HbU4.out.ext (HX47.out.trans hx7)).x0
  clear hx7 E07 EX7 HSd hrow
  by_cases hz : F0 = 0
  rotate_left 1
  · have hcb := nt hz
    obtain ⟨rfl, rfl, rfl, rfl, rfl⟩ := HR.out.1 (by rw [HF.out]; exact hz)
    have hon : on = 0 := by have := HO3.out.1.1; simpa using this.symm
    have hsn : sn = 0 := by have := HI.out.1.1; simpa using this.symm
    have hen : en = 0 := by have := HJ.out.1.1; simpa using this.symm
    subst hon; subst hsn; subst hen
    have HSz := Lib.hid (sameCircuit_any ⟨0, 0, []⟩ oa 0 oc none 0 w7 ⟨rfl, Or.inl rfl⟩ ⟨rfl, Or.inl rfl⟩ (Nat.zero_le _) HO3.out.2.2 (Nat.le_refl _) (by decide))
    clear hz r0 r1 r2 r3
    go_wp2_with fail
    refine HSz.out.mono ?_
    rintro e w8 ⟨rfl, hx8⟩
    have y3 := cell_ext y3 hx8; have y4 := cell_ext y4 hx8
    have HEf := Lib.hid (HE0.out.trans (HE07.out.trans hx8))
    clear hx8
    go_wp2_with fail
    go_ret
    exact ⟨rfl, HEf.out⟩
  have hcb := nf' hz
  obtain ⟨hrq, hrb, hrs, hFt⟩ := HR.out.2 (by rw [HF.out]; exact hz)
  have hrq := hrq.symm; have hrb := hrb.symm; have hrs := hrs.symm
  simp only at hrb
  subst hrq; subst hrb; subst hrs
  have hFz := fit_zero (c := ⟨qb, bi, ops⟩) (N := N) (ls := ls) (by rw [HF.out]; exact hz)
  obtain ⟨hck, hdv, hqN, hwr, hrk, _⟩ := hFz
  simp only at hqN hwr hrk
  obtain ⟨_, hq1, hq12, hb0, hb12, hlen, hcode⟩ := chk_zero hck
  simp only at hq1 hq12 hb0 hb12 hlen hcode
  obtain ⟨Qn, rfl⟩ : ∃ Qn : Nat, qb = (Qn : Int) := ⟨qb.toNat, by omega⟩
  simp only [Int.toNat_natCast] at hFt
  have hout := ftd_out (bits := bi) hdv (Q := Qn) (by omega) hq12 hb0 hb12 hFt (fun g hg => ⟨hcode g hg, hwr g hg⟩)
  have hfew := hFt.few hwr
  have hN12 := hdv.n12; have hN1 := hdv.n1
  have hNn : ((N.toNat : Nat) : Int) = N := by omega
  rw [hNn] at hfew
  have hon : out.length = on := HO3.out.1.1
  have hchk := chk_of (qb := N) (bi := bi) (ops := out) hN1 hN12 hb0 hb12 (by omega) (fun g hg => (hout g hg).code)
  have hbs := bsF_of (fun g hg => (hout g hg).wr) out.length 0 (by omega)
  rw [hon] at hbs
  have hOw := HO3.out.1.ext HX7.out
  have HRC := Lib.hid (fun (wx : World) (hx : Ext w7 wx) => RCheck_any ⟨N, bi, out⟩ oa on oc wx (hOw.ext hx) HO3.out.2.1 HO3.out.2.2)
  rw [hchk] at HRC
  have HNB := Lib.hid (fun (wx : World) (hx : Ext w7 wx) => NotBasic_any ⟨N, bi, out⟩ oa on oc wx (hOw.ext hx) (by omega))
  simp only at HNB
  rw [hbs] at HNB
  have HOw := Lib.hid hOw; have Hout := Lib.hid hout; have Hon := Lib.hid hon
  have hMo : Mo = rckN N ops := by rw [← HMo.out, if_pos hz]
  have hfw : ¬ Mo < (on : Int) := by omega
  have dfw : decide (Mo < (on : Int)) = false := decide_eq_false hfw
  have Hst := Lib.hid (hFt.ok (show Qn ≤ N.toNat by omega)); have Hq := Lib.hid (show 1 ≤ Qn ∧ Qn ≤ 12 by omega); have HNn := Lib.hid hNn; have Hon4 := Lib.hid (show on ≤ 4096 by omega); have HqN := Lib.hid (show Qn ≤ N.toNat by omega)
  clear hz hFt hck hdv hqN hwr hrk hq1 hq12 hb0 hb12 hlen hcode hout hfew hN12 hN1 hNn hon hchk hbs hOw hMo hfw r0 r1 r2 r3
  go_wp2_with fail
  refine (HRC.out w7 (Ext.refl _)).mono ?_
  rintro e w8 ⟨rfl, hx8⟩
  obtain ⟨K8, hK8⟩ : ∃ K, w8.heap.size = K := ⟨_, rfl⟩
  obtain ⟨U8, hU8⟩ : ∃ U, w8.alloc (.cells #[.int .i64 0, .int .i64 0] 27) = U := ⟨_, rfl⟩
  have EU8 : Ext w8 U8 := by rw [← hU8]; exact ext_al _ _
  have bU8 : FtB U8 K8 0 0 := by rw [← hU8, ← hK8]; exact ⟨heap_alloc_new w8 _⟩
  have EX8 := hx8.trans EU8
  have y0 := cell_ext y0 EX8; have y1 := cell_ext y1 EX8; have y2 := cell_ext y2 EX8; have y3 := cell_ext y3 EX8; have y4 := cell_ext y4 EX8
  have HU8 := Lib.hid hU8; have HK8 := Lib.hid hK8; have HX8 := Lib.hid EX8; have HbU8 := Lib.hid bU8
  clear hx8 EU8 bU8 EX8 hU8 hK8 z0
  go_upto_region 10 with fail
  rw [HU8.out, HK8.out]
  go_wp2_with fail
  refine (HNB.out U8 HX8.out).mono ?_
  rintro e w9 ⟨rfl, hx9⟩
  obtain ⟨K9, hK9⟩ : ∃ K, w9.heap.size = K := ⟨_, rfl⟩
  obtain ⟨U9, hU9⟩ : ∃ U, w9.alloc (.cells #[.int .i64 0, .int .i64 0] 27) = U := ⟨_, rfl⟩
  have EU9 : Ext w9 U9 := by rw [← hU9]; exact ext_al _ _
  have bU9 : FtB U9 K9 0 0 := by rw [← hU9, ← hK9]; exact ⟨heap_alloc_new w9 _⟩
  have EX9 := hx9.trans EU9
  have E79 := HX8.out.trans EX9
  have E09 := HE07.out.trans E79
  have y0 := cell_ext y0 EX9; have y1 := cell_ext y1 EX9; have y2 := cell_ext y2 EX9; have y3 := cell_ext y3 EX9; have y4 := cell_ext y4 EX9
  have f8 := (HbU8.out.ext EX9).x0; have f9 := bU9.x0
  have d0 := (HD.out.ext E09).x0; have c0 := (HC.out.ext E09).x0; have c1' := (HC.out.ext E09).x1
  have HU9 := Lib.hid hU9; have HK9 := Lib.hid hK9; have H79 := Lib.hid E79; have HE09 := Lib.hid E09
  clear hx9 EU9 bU9 EX9 E79 E09 hU9 hK9 HU8 HK8 HRC HNB
  go_upto_region 11 with fail
  rw [HU9.out, HK9.out]
  clear HU9 HK9
  go_wp2_with fail
  clear f8 f9 dfw
  go_loopg [13, 14] on (fun kk s13 _ wr => ∃ i : Nat, s13 = .int .i64 (i : Int) ∧ i ≤ on ∧ on - i = kk ∧ Ext U9 wr)
  case atStart => exact ⟨0, rfl, Nat.zero_le _, rfl, Ext.refl _⟩
  case round =>
    obtain ⟨i, rfl, hi, hk, hE⟩ := hrel
    have HE := Lib.hid hE; have Hk := Lib.hid hk
    have y2 := cell_ext y2 hE
    by_cases hin : i = on
    · have q1 : ¬ (i : Int) < (on : Int) := by omega
      have y3 := cell_ext y3 hE; have y4 := cell_ext y4 hE; have d0 := cell_ext d0 hE; have c0 := cell_ext c0 hE
      have E7r := H79.out.trans hE
      obtain ⟨M, hM⟩ : ∃ M : Nat, N = (M : Int) := ⟨N.toNat, by have := HNn.out; omega⟩
      subst hM
      have hsn : sn = Qn := by have h9 := HI.out.1.1; rw [plN_len] at h9; simp only [Int.toNat_natCast] at h9; omega
      have hen : en = Qn := by have h9 := HJ.out.1.1; have h8 := Hst.out.len; omega
      subst hsn
      subst hen
      have HP1 := Lib.hid (fun (wx : World) (hx : Ext wr wx) => lplaces_any (plN en) en M sa sc wx (by have h9 := (HI.out.1.ext HX7.out).ext (E7r.trans hx); simp only [Int.toNat_natCast] at h9; exact h9) (plN_ok (by have := HqN.out; simp only [Int.toNat_natCast] at this; exact this)) Hq.out.2)
      have HP2 := Lib.hid (fun (wx : World) (hx : Ext wr wx) => lplaces_any st en M ea ec wx ((HJ.out.1.ext HX7.out).ext (E7r.trans hx)) (by have := Hst.out; simp only [Int.toNat_natCast] at this; exact this) Hq.out.2)
      have HEr := Lib.hid (HE0.out.trans (HE09.out.trans hE))
      clear hi hk hE hin E7r
      go_wp2_with fail
      refine (HP1.out wr (Ext.refl _)).mono ?_
      rintro e wa ⟨rfl, hxa⟩
      have y4 := cell_ext y4 hxa; have d0 := cell_ext d0 hxa; have c0 := cell_ext c0 hxa
      have Hxa := Lib.hid hxa
      clear hxa
      go_wp2_with fail
      refine (HP2.out wa Hxa.out).mono ?_
      rintro e wb ⟨rfl, hxb⟩
      have HEf := Lib.hid (HEr.out.trans (Hxa.out.trans hxb))
      clear hxb
      go_wp2_with fail
      go_ret
      exact ⟨rfl, HEf.out⟩
    have hlt : i < on := by omega
    have Hlt := Lib.hid hlt
    have q1 : (i : Int) < (on : Int) := by omega
    have q0 : (0 : Int) ≤ (i : Int) := by omega
    have wk : IntKind.i64.wrap ((i : Int) + 1) = ((i + 1 : Nat) : Int) := by rw [IntKind.wrap_i64]; have := Hon4.out; omega
    obtain ⟨g, hg⟩ : ∃ g, out[i]? = some g := ⟨_, List.getElem?_eq_getElem (by have := Hon.out; omega)⟩
    have hOr := HOw.out.ext (H79.out.trans hE)
    obtain ⟨b, o, rfl⟩ := hOr.some_of (by omega)
    obtain ⟨x1, n1, xc1, x2, n2, xc2, e0, e1, e2, e3, e4, e5, hL⟩ := (hOr.at i g hg)
    have hok := Hout.out g (List.mem_of_getElem? hg)
    have hlk := hok.lnk
    have hn1 := hL.i1.1
    have hi1 := hL.i1
    obtain ⟨kd, k, ctl, q, bt, cnd⟩ := g
    simp only at e0 e1 e2 e3 e4 e5 hlk hn1 hi1
    have bO := opbx_new wr kd k x1 n1 xc1 q bt x2 n2 xc2
    have EU := ext_al wr (.cells #[.int .i64 kd, .int .i64 k, .slice x1 n1 xc1, .int .i64 q, .int .i64 bt, .slice x2 n2 xc2] 46)
    have HI1 := Lib.hid (hi1.ext EU); have HbO := Lib.hid bO; have HEU := Lib.hid (HE.out.trans EU); have Hlk := Lib.hid hlk; have Hn1 := Lib.hid hn1
    have HdU := Lib.hid ((HD.out.ext HE09.out).ext (HE.out.trans EU)); have HLr := Lib.hid ((Hd.out.ext HE09.out).ext (HE.out.trans EU))
    clear hi hk hE hin hlt hg hOr hok hlk hn1 hi1 bO EU hL
    go_upto_region 17 with fail
    generalize wr.alloc (.cells #[.int .i64 kd, .int .i64 k, .slice x1 n1 xc1, .int .i64 q, .int .i64 bt, .slice x2 n2 xc2] 46) = U at *
    generalize wr.heap.size = OB at *
    clear e0 e1 e2 e3 e4 e5 y2
    obtain ⟨X, Fw, hXn, hFe, hFs⟩ := fam U
    have f2 : ∀ x, (Fw x).cell? ⟨OB, 2, none⟩ = some (.slice x1 n1 xc1) := fun x => (HbO.out.ext (hFe x)).x2
    have f3 : ∀ x, (Fw x).cell? ⟨OB, 3, none⟩ = some (.int .i64 q) := fun x => (HbO.out.ext (hFe x)).x3
    have hUd : Ext U U.drew := Below.drew (Ext.refl U)
    by_cases hc : n1 = 1
    · subst hc
      obtain ⟨cb, co, rfl, _, hcell⟩ := HI1.out.at (by omega)
      have ci := hcell 0 (by omega)
      obtain ⟨y, hy⟩ : ∃ y, ctl.getD 0 0 = y := ⟨_, rfl⟩
      rw [hy, Nat.add_zero] at ci
      have hcy : ctl = [y] := by
        have h9 := Hn1.out
        match ctl, h9, hy with
        | [a], _, hy => simp at hy; rw [hy]
      have HLk := Lib.hid (fun (wx : World) (hx : Ext U wx) => Linked_any N ls bo m cq y q wx (HLr.out.ext hx) Hm6.out)
      rw [Hlk.out y hcy] at HLk
      have f4 : ∀ x, (Fw x).cell? ⟨cb, co, none⟩ = some (.int .i64 y) := fun x => cell_ext ci (hFe x)
      have f5 : ∀ x, (Fw x).cell? ⟨H + 1, 0, none⟩ = some (.int .i64 N) := fun x => (HdU.out.ext (hFe x)).x0
      have f6 : ∀ x, (Fw x).cell? ⟨H + 1, 1, none⟩ = some (.slice bo m cq) := fun x => (HdU.out.ext (hFe x)).x1
      clear hcell hy hcy ci
      refine wp_region_M (by kernel_rfl) (by kernel_rfl) (hFs _ hUd) ?_
      repeat (go_big_quiet_step (exact (HLk.out _ (hFe _)).mono (fun e w' h => ⟨h.1, hFs _ ((hFe _).trans h.2)⟩)))
      refine wpQuiet_nil ?_
      rintro _ ⟨xq, rfl⟩
      have HEx := Lib.hid (HEU.out.trans (hFe xq))
      generalize Fw xq = W2 at *
      clear f2 f3 f4 f5 f6 hFe hFs hXn HLk hUd
      go_wp2_with fail
      go_roundg (on - (i + 1))
      case measure => have := Hk.out; have := Hlt.out; omega
      case rel => exact ⟨i + 1, rfl, Hlt.out, rfl, HEx.out⟩
    · have hb : ((n1 : Int) == 1) = false := by simp; omega
      refine wp_region_M (by kernel_rfl) (by kernel_rfl) (hFs _ hUd) ?_
      repeat (go_big_quiet_step (fail))
      refine wpQuiet_nil ?_
      rintro _ ⟨xq, rfl⟩
      have HEx := Lib.hid (HEU.out.trans (hFe xq))
      generalize Fw xq = W2 at *
      clear f2 f3 hFe hFs hXn hUd
      go_wp2_with fail
      go_roundg (on - (i + 1))
      case measure => have := Hk.out; have := Hlt.out; omega
      case rel => exact ⟨i + 1, rfl, Hlt.out, rfl, HEx.out⟩
end Go.Proofs.YtlokfalkhgjlbaaDoor
namespace Go.Proofs.YtlokfalkhgjlbaaDoor
open Go.RowKit Go.ChangeShapes Go.WideShapes Go.Deep

instance : Inhabited Gop := ⟨⟨0, 0, [], 0, 0, []⟩⟩

theorem addr_at (b o t : Nat) : (⟨b, o, none⟩ : Addr).add t = ⟨b, o + t, none⟩ := by
  unfold Addr.add
  by_cases h : t = 0 <;> simp [h]

section
variable {H : Type} {enc : TypeId × Value → H} {W : World}

theorem bytes_int : Tryd.prog.bytesOf 3 = 8 := by kernel_rfl
theorem bytes_op : Tryd.prog.bytesOf 46 = 80 := by kernel_rfl
theorem cells_int : Tryd.prog.cellsOf 3 = 1 := by kernel_rfl
theorem cells_op : Tryd.prog.cellsOf 46 = 6 := by kernel_rfl
theorem cells_ci : Tryd.prog.cellsOf 34 = 3 := by kernel_rfl

theorem open_ints {fuel : Nat} {cs : List Value} {x : DataW H × List MemPlace} (h : DataW.trod enc Tryd.prog W 0 (fun _ => true) true fuel 36 cs = some x) (hz : ∀ k ∈ x.1.weights Tryd.prog 36, k ≤ reachBytes) :
    ∃ (ao : Option Addr) (n cp : Nat) (l : List Int), cs = [.slice ao n cp] ∧ n ≤ cp ∧ cp ≤ 9223372036854775807 ∧ IntsAt W ao n l ∧ l.length * 8 ≤ 140737488355328 := by
  rcases open_slice1 Tryd.underlying36 cells_int h with ⟨rfl, rfl⟩ | ⟨a, len, cap, m, n, V, D, Pl, rfl, _, hl, hm, hmm, rfl, hx⟩
  · exact ⟨none, 0, 0, [], rfl, by omega, by omega, ⟨rfl, Or.inl rfl⟩, by simp⟩
  · have hmc : m = cap := by simpa using hmm
    subst hmc
    obtain ⟨F, hF⟩ := choose_lt (α := Int) (n := m) (p := fun i z => W.cell? (a.add i) = some (.int .i64 z)) (fun i hi => by
      obtain ⟨h1, h2⟩ := hx i hi
      obtain ⟨z, e, _⟩ := DataW.trod_int Tryd.underlying3 h2
      injection e with e
      exact ⟨z, by rw [h1, e]⟩)
    refine ⟨some a, len, m, (List.range len).map F, rfl, hl, hm, ⟨by simp, ?_⟩, ?_⟩
    · by_cases h0 : len = 0
      · exact Or.inl h0
      · obtain ⟨b, o, spot⟩ := a
        have h1 := hF 0 (by omega)
        have hs : spot = none := by simpa [Addr.add] using World.cell?_spot h1
        subst hs
        refine Or.inr ⟨b, o, rfl, World.block_lt_of_cell? W _ h1, fun t ht => ?_⟩
        have := hF t (by omega)
        rw [addr_at] at this
        simpa [List.getD_eq_getElem?_getD, ht] using this
    · have := hz ((len + (m - len)) * Tryd.prog.bytesOf 3) (by simp [DataW.weights, Tryd.underlying36])
      rw [bytes_int] at this
      have hr : reachBytes ≤ 140737488355328 := by decide
      rw [List.length_map, List.length_range]
      omega

set_option maxRecDepth 100000 in
theorem open_op {fuel : Nat} {cs : List Value} {x : DataW H × List MemPlace} (h : DataW.trod enc Tryd.prog W 0 (fun _ => true) true fuel 46 cs = some x) (hz : ∀ k ∈ x.1.weights Tryd.prog 46, k ≤ reachBytes) :
    ∃ (o : Gop) (a1 : Option Addr) (n1 c1 : Nat) (a2 : Option Addr) (n2 c2 : Nat), cs = [.int .i64 o.kind, .int .i64 o.k, .slice a1 n1 c1, .int .i64 o.q, .int .i64 o.bit, .slice a2 n2 c2] ∧ OpL W o a1 n1 c1 a2 n2 c2 ∧ o.ctl.length * 8 ≤ 140737488355328 ∧ o.cnd.length * 8 ≤ 140737488355328 := by
  obtain ⟨xs, n, _, rfl, hl, hlen, hf⟩ := DataW.trod_struct Tryd.underlying46 h
  rw [cells_op] at hl
  match xs, hlen, cs, hl with
  | [y0, y1, y2, y3, y4, y5], _, [v0, v1, v2, v3, v4, v5], _ =>
    have g0 := hf 0 _ rfl
    have g1 := hf 1 _ rfl
    have g2 := hf 2 _ rfl
    have g3 := hf 3 _ rfl
    have g4 := hf 4 _ rfl
    have g5 := hf 5 _ rfl
    simp only [List.getElem?_cons_zero, List.getElem?_cons_succ] at g0 g1 g2 g3 g4 g5
    obtain ⟨k0, e0, _⟩ := DataW.trod_int Tryd.underlying3 g0
    obtain ⟨k1, e1, _⟩ := DataW.trod_int Tryd.underlying3 g1
    obtain ⟨k3, e3, _⟩ := DataW.trod_int Tryd.underlying3 g3
    obtain ⟨k4, e4, _⟩ := DataW.trod_int Tryd.underlying3 g4
    obtain ⟨a1, n1, c1, l1, e2, p2, q2, I2, b2⟩ := open_ints g2 (fun k hk => hz k (by simp [DataW.weights, Tryd.underlying46, DataW.weightsEach, hk]))
    obtain ⟨a2, n2, c2, l2, e5, p5, q5, I5, b5⟩ := open_ints g5 (fun k hk => hz k (by simp [DataW.weights, Tryd.underlying46, DataW.weightsEach, hk]))
    injection e0 with e0; injection e1 with e1; injection e2 with e2; injection e3 with e3; injection e4 with e4; injection e5 with e5
    exact ⟨⟨k0, k1, l1, k3, k4, l2⟩, a1, n1, c1, a2, n2, c2, by rw [e0, e1, e2, e3, e4, e5], ⟨I2, p2, q2, I5, p5, q5⟩, b2, b5⟩

set_option maxRecDepth 100000 in
theorem open_circuit_n {v : Value} {d : DataW H} {p : List MemPlace} {base : Nat} (hok : Value.okWide Tryd.prog W .any base 34 v) (h : DataW.Trod enc Tryd.prog W 0 (fun _ => true) true 34 v d p) (hz : ∀ k ∈ d.weights Tryd.prog 34, k ≤ reachBytes) :
    ∃ (c : Gci) (ao : Option Addr) (n cp : Nat), v = .agg #[.int .i64 c.qubits, .int .i64 c.bits, .slice ao n cp] ∧ OpsAt W ao n c.ops ∧ n ≤ cp ∧ cp ≤ 9223372036854775807 ∧ n * 80 ≤ 140737488355328 ∧ (∀ g ∈ c.ops, g.ctl.length * 8 ≤ 140737488355328 ∧ g.cnd.length * 8 ≤ 140737488355328) ∧ (ao = none → cp = 0) := by
  obtain ⟨fuel, h⟩ := h
  have hv : ∃ cs : Array Value, v = .agg cs := by
    unfold Value.okWide at hok
    rw [Tryd.underlying34] at hok
    obtain ⟨cs, e, _⟩ := hok
    exact ⟨cs, e⟩
  obtain ⟨cs, rfl⟩ := hv
  obtain ⟨xs, n, _, hx0, hl, hlen, hf⟩ := DataW.trod_struct Tryd.underlying34 h
  obtain ⟨cl⟩ := cs
  have hcl : (Value.agg ⟨cl⟩).cells.toList = cl := rfl
  rw [hcl] at hl hf
  rw [cells_ci] at hl
  match xs, hlen, cl, hl with
  | [y0, y1, y2], _, [v0, v1, v2], _ =>
    injection hx0 with hd hp
    subst hd
    have g0 := hf 0 _ rfl
    have g1 := hf 1 _ rfl
    have g2 := hf 2 _ rfl
    simp only [List.getElem?_cons_zero, List.getElem?_cons_succ] at g0 g1 g2
    obtain ⟨qb, e0, _⟩ := DataW.trod_int Tryd.underlying3 g0
    obtain ⟨bi, e1, _⟩ := DataW.trod_int Tryd.underlying3 g1
    injection e0 with e0; injection e1 with e1
    have hz2 : ∀ k ∈ y2.1.weights Tryd.prog 32, k ≤ reachBytes := fun k hk => hz k (by simp [DataW.weights, Tryd.underlying34, DataW.weightsEach, hk])
    rcases open_slice Tryd.underlying32 g2 with ⟨e2, _⟩ | ⟨a, len, cap, m, n', D, Pl, e2, _, hl2, hm2, hmm, hy2, hx⟩
    · injection e2 with e2
      refine ⟨⟨qb, bi, []⟩, none, 0, 0, by rw [e0, e1, e2], ⟨rfl, Or.inl rfl⟩, by omega, by omega, by omega, by simp, fun _ => rfl⟩
    · injection e2 with e2
      have hmc : m = cap := by simpa using hmm
      subst hmc
      rw [cells_op] at hx
      subst hy2
      have hr : reachBytes ≤ 140737488355328 := by decide
      have hb := hz2 ((len + (m - len)) * Tryd.prog.bytesOf 46) (by simp [DataW.weights, Tryd.underlying32])
      rw [bytes_op] at hb
      have hel : ∀ i, i < len → ∀ k ∈ (D i).weights Tryd.prog 46, k ≤ reachBytes := by
        intro i hi k hk
        refine hz2 k ?_
        have hmem : ∀ (l : List (DataW H)) (d : DataW H), d ∈ l → ∀ k ∈ d.weights Tryd.prog 46, k ∈ DataW.weightsAll Tryd.prog 46 l := by
          intro l
          induction l with
          | nil => intro d hd; simp at hd
          | cons a r ih =>
            intro d hd k hk
            rw [DataW.weightsAll, List.mem_append]
            rcases List.mem_cons.1 hd with rfl | hd
            · exact Or.inl hk
            · exact Or.inr (ih d hd k hk)
        have := hmem ((List.range len).map D) (D i) (List.mem_map.2 ⟨i, List.mem_range.2 hi, rfl⟩) k hk
        simp only [DataW.weights, Tryd.underlying32]
        exact List.mem_cons_of_mem _ (List.mem_append_left _ this)
      obtain ⟨b, o, spot⟩ := a
      have hpos : 0 < len → spot = none := fun h0 => by
        obtain ⟨cs', h1, _⟩ := hx 0 (by omega)
        obtain ⟨_, hlen', hc⟩ := World.cells?_some h1
        have h2 := hc 0 (by omega)
        rw [List.getElem?_eq_getElem (by omega)] at h2
        simpa [Addr.add] using World.cell?_spot h2
      obtain ⟨G, hG⟩ := choose_lt (α := Gop) (n := len) (p := fun i g => ∃ (a1 : Option Addr) (n1 c1 : Nat) (a2 : Option Addr) (n2 c2 : Nat), W.cell? ⟨b, o + i * 6, none⟩ = some (.int .i64 g.kind) ∧ W.cell? ⟨b, o + i * 6 + 1, none⟩ = some (.int .i64 g.k) ∧ W.cell? ⟨b, o + i * 6 + 2, none⟩ = some (.slice a1 n1 c1) ∧ W.cell? ⟨b, o + i * 6 + 3, none⟩ = some (.int .i64 g.q) ∧ W.cell? ⟨b, o + i * 6 + 4, none⟩ = some (.int .i64 g.bit) ∧ W.cell? ⟨b, o + i * 6 + 5, none⟩ = some (.slice a2 n2 c2) ∧ OpL W g a1 n1 c1 a2 n2 c2 ∧ g.ctl.length * 8 ≤ 140737488355328 ∧ g.cnd.length * 8 ≤ 140737488355328) (fun i hi => by
        obtain rfl := hpos (by omega)
        obtain ⟨cs', h1, h2⟩ := hx i (by omega)
        obtain ⟨_, _, hc⟩ := World.cells?_some h1
        obtain ⟨g, a1, n1, c1, a2, n2, c2, rfl, hL, b1, b2⟩ := open_op h2 (hel i hi)
        have hc' : ∀ j, j < 6 → W.cell? ⟨b, o + i * 6 + j, none⟩ = ([.int .i64 g.kind, .int .i64 g.k, .slice a1 n1 c1, .int .i64 g.q, .int .i64 g.bit, .slice a2 n2 c2] : List Value)[j]? := fun j hj => by have := hc j hj; rw [add_add, addr_at, ← Nat.add_assoc] at this; exact this
        exact ⟨g, a1, n1, c1, a2, n2, c2, hc' 0 (by omega), hc' 1 (by omega), hc' 2 (by omega), hc' 3 (by omega), hc' 4 (by omega), hc' 5 (by omega), hL, b1, b2⟩)
      refine ⟨⟨qb, bi, (List.range len).map G⟩, some ⟨b, o, spot⟩, len, m, by rw [e0, e1, e2], ⟨by simp, ?_⟩, hl2, hm2, by omega, ?_, fun e => by cases e⟩
      · by_cases h0 : len = 0
        · exact Or.inl h0
        · obtain rfl := hpos (by omega)
          obtain ⟨_, _, _, _, _, _, hc0, _⟩ := hG 0 (by omega)
          refine Or.inr ⟨b, o, rfl, World.block_lt_of_cell? W _ hc0, fun t g hg => ?_⟩
          have ht : t < len := by
            have := (List.getElem?_eq_some_iff.1 hg).1
            simpa using this
          have hge : g = G t := by
            have := hg
            simp [ht] at this
            exact this.symm
          subst hge
          obtain ⟨a1, n1, c1, a2, n2, c2, x0, x1, x2, x3, x4, x5, hL, _, _⟩ := hG t ht
          exact ⟨a1, n1, c1, a2, n2, c2, x0, x1, x2, x3, x4, x5, hL⟩
      · intro g hg
        simp only [List.mem_map, List.mem_range] at hg
        obtain ⟨i, hi, rfl⟩ := hg
        obtain ⟨_, _, _, _, _, _, _, _, _, _, _, _, _, b1, b2⟩ := hG i hi
        exact ⟨b1, b2⟩
set_option maxRecDepth 100000 in
theorem open_circuit {v : Value} {d : DataW H} {p : List MemPlace} {base : Nat} (hok : Value.okWide Tryd.prog W .any base 34 v) (h : DataW.Trod enc Tryd.prog W 0 (fun _ => true) true 34 v d p) (hz : ∀ k ∈ d.weights Tryd.prog 34, k ≤ reachBytes) :
    ∃ (c : Gci) (ao : Option Addr) (n cp : Nat), v = .agg #[.int .i64 c.qubits, .int .i64 c.bits, .slice ao n cp] ∧ OpsAt W ao n c.ops ∧ n ≤ cp ∧ cp ≤ 9223372036854775807 ∧ n * 80 ≤ 140737488355328 ∧ ∀ g ∈ c.ops, g.ctl.length * 8 ≤ 140737488355328 ∧ g.cnd.length * 8 ≤ 140737488355328 := by
  obtain ⟨c, ao, n, cp, h1, h2, h3, h4, h5, h6, _⟩ := open_circuit_n hok h hz
  exact ⟨c, ao, n, cp, h1, h2, h3, h4, h5, h6⟩
end

end Go.Proofs.YtlokfalkhgjlbaaDoor
namespace Go.Proofs.YtlokfalkhgjlbaaDoor
open Go.RowKit Go.ChangeShapes Go.WideShapes

set_option maxRecDepth 100000 in
theorem shape_row {H : Type} {enc : TypeId × Value → H} {W : World} {base : Nat} {sp : Nat → Bool} {held : Bool} {fuel : Nat} {cs : List Value} {s : List UInt8} {a b c d : Bool} {p : List MemPlace}
    (h : DataW.trod enc Tryd.prog W base sp held fuel 118 cs = some (.agg [.lit (.string s), .lit (.bool a), .lit (.bool b), .lit (.bool c), .lit (.bool d)], p)) :
    cs = [.string ⟨s.toArray⟩, .bool a, .bool b, .bool c, .bool d] := by
  obtain ⟨xs, n, _, hx, hl, hlen, hf⟩ := DataW.trod_struct Tryd.underlying118 h
  have hc : Tryd.prog.cellsOf 118 = 5 := by kernel_rfl
  rw [hc] at hl
  match xs, hlen, cs, hl with
  | [y0, y1, y2, y3, y4], _, [v0, v1, v2, v3, v4], _ =>
    have g0 := hf 0 _ rfl
    have g1 := hf 1 _ rfl
    have g2 := hf 2 _ rfl
    have g3 := hf 3 _ rfl
    have g4 := hf 4 _ rfl
    simp only [List.getElem?_cons_zero, List.getElem?_cons_succ] at g0 g1 g2 g3 g4
    obtain ⟨s0, e0, z0, _⟩ := DataW.trod_string Tryd.underlying9 g0
    obtain ⟨b1, e1, z1⟩ := DataW.trod_bool Tryd.underlying4 g1
    obtain ⟨b2, e2, z2⟩ := DataW.trod_bool Tryd.underlying4 g2
    obtain ⟨b3, e3, z3⟩ := DataW.trod_bool Tryd.underlying4 g3
    obtain ⟨b4, e4, z4⟩ := DataW.trod_bool Tryd.underlying4 g4
    subst z0; subst z1; subst z2; subst z3; subst z4
    injection hx with hd _
    simp only [List.map_cons, List.map_nil, DataW.agg.injEq, List.cons.injEq, DataW.lit.injEq, Lit.string.injEq, Lit.bool.injEq, and_true] at hd
    obtain ⟨rfl, rfl, rfl, rfl, rfl⟩ := hd
    injection e0 with e0; injection e1 with e1; injection e2 with e2; injection e3 with e3; injection e4 with e4
    rw [e0, e1, e2, e3, e4]

set_option maxRecDepth 100000 in
theorem shp_of_laid {W : World} (h : laidMet Tryd.prog [("qloom/circ.shapes", Rows.laid_qloom_circ_shapes)] W) : Shp W := by
  obtain ⟨ps, ⟨g', t', cs, fuel, p, q, hg', ht', hvar, hd, _, _⟩, _⟩ := h
  obtain rfl := Option.some.inj ((show Tryd.prog.globalNamed "qloom/circ.shapes" = some 0 by kernel_rfl).symm.trans hg')
  obtain rfl := Option.some.inj ((show (Tryd.prog.globals[0]?).map (·.type) = some 119 by kernel_rfl).symm.trans ht')
  obtain ⟨xs, m, _, hx, hl, hlen, hf⟩ := DataW.trod_array Tryd.underlying119 hd
  have hc : Tryd.prog.cellsOf 118 = 5 := by kernel_rfl
  rw [hc] at hf
  match xs, hlen with
  | [y0, y1, y2, y3, y4, y5, y6], _ =>
    injection hx with hx _
    unfold Rows.laid_qloom_circ_shapes at hx
    simp only [List.map_cons, List.map_nil, DataW.agg.injEq, List.cons.injEq, and_true] at hx
    obtain ⟨_, x1, x2, x3, x4, x5, x6⟩ := hx
    have key : ∀ (k : Nat) (y : DataW Unit × List MemPlace) (s : List UInt8) (a b c d : Bool), k < 7 → [y0, y1, y2, y3, y4, y5, y6][k]? = some y → .agg [.lit (.string s), .lit (.bool a), .lit (.bool b), .lit (.bool c), .lit (.bool d)] = y.1 →
        W.cell? ⟨0, k * 5, none⟩ = some (.string ⟨s.toArray⟩) ∧ W.cell? ⟨0, k * 5 + 1, none⟩ = some (.bool a) ∧ W.cell? ⟨0, k * 5 + 2, none⟩ = some (.bool b) ∧ W.cell? ⟨0, k * 5 + 3, none⟩ = some (.bool c) ∧ W.cell? ⟨0, k * 5 + 4, none⟩ = some (.bool d) := by
      intro k y s a b c d hk hy he
      have h1 := hf k hk
      rw [hy] at h1
      obtain ⟨yd, yp⟩ := y
      simp only at he
      subst he
      have h2 := shape_row h1
      have h3 : ∀ j, j < 5 → W.cell? ⟨0, k * 5 + j, none⟩ = ([.string ⟨s.toArray⟩, .bool a, .bool b, .bool c, .bool d] : List Value)[j]? := by
        intro j hj
        rw [World.var?_cell hg' hvar, ← h2, List.getElem?_take, if_pos hj, List.getElem?_drop, Array.getElem?_toList]
      exact ⟨h3 0 (by omega), h3 1 (by omega), h3 2 (by omega), h3 3 (by omega), h3 4 (by omega)⟩
    intro k h1 h6
    have hk : k = 1 ∨ k = 2 ∨ k = 3 ∨ k = 4 ∨ k = 5 ∨ k = 6 := by omega
    rcases hk with rfl | rfl | rfl | rfl | rfl | rfl
    · exact key 1 y1 _ _ _ _ _ (by omega) rfl x1
    · exact key 2 y2 _ _ _ _ _ (by omega) rfl x2
    · exact key 3 y3 _ _ _ _ _ (by omega) rfl x3
    · exact key 4 y4 _ _ _ _ _ (by omega) rfl x4
    · exact key 5 y5 _ _ _ _ _ (by omega) rfl x5
    · exact key 6 y6 _ _ _ _ _ (by omega) rfl x6

/-- What lay there is as it was: what is asked behind the call. -/
theorem post_kept {H : Type} {enc : TypeId × Value → H} {P : Program} {f : Func} {s : ChangeSpec} {apart fresh handsOn again : Bool} {W W' : World} {args : Array Value} {v : Value} {ds gs : List (DataW H)} {ps : List MemPlace}
    (hW : DataW.Whole enc P f.params.toList s.vars apart W args.toList ds gs ps)
    (hres : ∀ (b : Nat) (sp : Nat → Bool) (hd : Bool), DataW.TrodAll enc P W' b sp hd f.resultTypes.toList (v.resultList f.resultTypes.size) (s.fn H (ds ++ gs)).results [])
    (hargs : ∀ sp : Nat → Bool, (∀ x ∈ ps, sp x.block = true) → DataW.TrodAll enc P W' 0 sp true f.params.toList args.toList (s.fn H (ds ++ gs)).args ps)
    (hvars : ∀ sp : Nat → Bool, DataW.TrodVars enc P W' sp s.vars (s.fn H (ds ++ gs)).vars [])
    (hb : Ext W W')
    (hok : ∀ (j : Nat) (t : TypeId) (r : Value), f.resultTypes[j]? = some t → (v.resultList f.resultTypes.size)[j]? = some r → Value.okWide P W' .any 0 t r) :
    s.post enc P f apart fresh handsOn again W args v W' := by
  have hlt := hW.lt
  have hold : ∀ x ∈ ps, decide (x.block < W.heap.size) = true := fun x hx => by simpa using hlt x hx
  have hall : ∀ x ∈ ps, (fun _ : Nat => true) x.block = true := fun _ _ => rfl
  have hn : W.noneFrozen ps ∧ (apart = true → ps.Nodup) := by
    obtain ⟨_, _, _, _, rfl, h1, h2⟩ := hW
    exact ⟨h1, h2⟩
  refine ⟨ds, gs, ps, [], ps, [], hW, hres _ _ _, hargs _ hold, hvars _, Below.frame hb _, fun _ => ?_⟩
  refine ⟨hok, _, _, ([] ++ ps) ++ [], ⟨[] ++ ps, [], trodAll_append (hargs (fun _ => true) hall) (hres _ _ _), hvars _, rfl, ?_, ?_⟩, ?_⟩
  · intro b off hp
    have hp' : MemPlace.cell b off ∈ ps := by simpa using hp
    rw [Below.frozen hb (p := ⟨b, off, none⟩) (hlt _ hp')]
    exact hn.1 b off hp'
  · intro ha
    simpa using hn.2 ha
  · intro x hx _
    simpa using hx

end Go.Proofs.YtlokfalkhgjlbaaDoor
