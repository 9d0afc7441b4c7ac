/-
  What an operation touches, as the reference lists it. Levels: what both sides reckon, as one function of the places that each operation touches; the two numberings of places come to the same. Levels: the program's walk. The first fault of a circuit, as the reference finds it. Why a circuit is not unitary: Pure of both sides. What a circuit without a fault keeps to; what Count tells of one, in plain numbers. A tally in a variable; what is counted, in plain numbers. The reference reads a line loosely. Lists and operations whose memory is their own: no two of them lie in one block. Devices in plain numbers: which qubits are linked, what ways reach. Nothing of the program stands here. Devices: links in memory; small functions of the program. Devices in plain numbers: what is wrong with links; the web tells the links. Nothing of the program stands here.
-/
import Derived.Test.YtlokfalkhgjlbaaDoorProg
import Derived.Test.YtlokfalkhgjlbaaDoorRows
import Derived.BigQuiet
import Derived.Deep.AppendLies
import Derived.Deep.Cut
import Derived.Deep.CutRange
import Derived.Deep.LoopGhost
import Derived.Deep.QuietTactic
import Derived.Deep.RegionHeld3
import Derived.Ground.Names2Prog
import Derived.Laws.Bits64b
import Derived.Laws.CopyOwn
import Derived.Laws.ResultCell
import Derived.Lib.BitFns
import Derived.Lib.Hide
import Derived.Lib.ItoaMem
import Derived.Lib.ItoaNum
import Derived.Lib.Strings
import Derived.Maps.AppendAt
import Derived.OwnWalk
import Derived.Shelf.Slices.Clone
import Derived.Shelf.Slices.Turned
import Derived.WalkKit
import Derived.WalkLawsBesides
import Derived.WalkSpells
import Derived.Test.YtlokfalkhgjlbaaDoorS00Ce
import Derived.Test.YtlokfalkhgjlbaaDoorS01Cj
import Derived.Test.YtlokfalkhgjlbaaDoorShelf
namespace Go.Proofs.YtlokfalkhgjlbaaDoor
open Go.RowKit

/-- The bit that a term names. -/
def bitOf (t : Int) : Int := if 0 < t then t - 1 else -t - 1
def tchQ (kd q : Int) : List Int := if kd = 1 then [] else [q]
def tchB (z kd bt : Int) : List Int := if kd = 5 then [z + bt] else []
def tchC (z : Int) (l : List Int) : List Int := l.map fun t => z + bitOf t
end Go.Proofs.YtlokfalkhgjlbaaDoor
namespace Go.Proofs.YtlokfalkhgjlbaaDoor

/-- The places as the program lists them, and as the reference does. -/
def plP (o : Gop) : List Int := o.ctl ++ tchQ o.kind o.q ++ tchB 12 o.kind o.bit ++ tchC 12 o.cnd
/-- What a circuit that is checked keeps to. -/
def placesFit (o : Gop) : Prop := (∀ t ∈ o.ctl, t < 12) ∧ o.q < 12 ∧ 0 ≤ o.bit ∧ ∀ t ∈ o.cnd, t ≠ 0
end Go.Proofs.YtlokfalkhgjlbaaDoor
namespace Go.Proofs.YtlokfalkhgjlbaaDoor
open Go.RowKit

/-- What a checked operation keeps to. -/
structure LvFit (o : Gop) : Prop where
  kd : 1 ≤ o.kind ∧ o.kind ≤ 6
  bit : 0 ≤ o.bit ∧ o.bit ≤ 12
  cnd : ∀ t ∈ o.cnd, -12 ≤ t ∧ t ≤ 12
  ctl : (o.ctl.length + 26) * 8 ≤ 140737488355328
  few : o.cnd.length ≤ 24
  pl : ∀ t ∈ plP o, 0 ≤ t ∧ t < 24

end Go.Proofs.YtlokfalkhgjlbaaDoor
namespace Go.Proofs.YtlokfalkhgjlbaaDoor
open Go.RowKit

set_option maxHeartbeats 4000000 in
set_option maxRecDepth 100000 in
theorem RCheck_any (c : Gci) (ao : Option Addr) (n cp : Nat) (w : World) (h : OpsAt w ao n c.ops) (_hn : n ≤ cp) (_hcp : cp ≤ 9223372036854775807) :
    Calls Tryd.prog 16 #[.agg #[.int .i64 c.qubits, .int .i64 c.bits, .slice ao n cp]] w fun e w' => e = .returned (.agg #[.int .i64 (chk c).1, .int .i64 (chk c).2]) ∧ Ext w w' := by
  obtain ⟨r, hr⟩ : ∃ r, chk c = r := ⟨_, rfl⟩
  rw [hr]
  obtain ⟨r0, r1⟩ := r
  unfold chk at hr
  obtain ⟨qb, bi, ops⟩ := c
  have E0 := (ext_al w (.cells #[.int .i64 qb, .int .i64 bi, .slice ao n cp] 34)).trans (ext_al _ (.cells #[.int .i64 0, .int .i64 0] 27))
  have bC : CiB ((w.alloc (.cells #[.int .i64 qb, .int .i64 bi, .slice ao n cp] 34)).alloc (.cells #[.int .i64 0, .int .i64 0] 27)) w.heap.size qb bi ao n cp := CiB.ext ⟨heap_alloc_new w _⟩ (ext_al _ _)
  have bF : FtB ((w.alloc (.cells #[.int .i64 qb, .int .i64 bi, .slice ao n cp] 34)).alloc (.cells #[.int .i64 0, .int .i64 0] 27)) (w.heap.size + 1) 0 0 := ⟨by
    have := heap_alloc_new (w.alloc (.cells #[.int .i64 qb, .int .i64 bi, .slice ao n cp] 34)) (.cells #[.int .i64 0, .int .i64 0] 27)
    simpa using this⟩
  have Hl := Lib.hid h.1
  simp only at hr Hl ⊢
  have HE0 := Lib.hid E0; have HO := Lib.hid (h.ext E0); have HC := Lib.hid bC; have HFt := Lib.hid bF
  have m0 := bC.x0; have m1 := bC.x1; have m2 := bC.x2
  have x0 := bF.x0; have x1 := bF.x1; have g0 := bF.f 0; have g1 := bF.f 1
  clear h E0 bC bF
  by_cases hq1 : qb < 1
  · have hz : (r0, r1) = ((6 : Int), (0 : Int)) := by rw [← hr, if_pos (Or.inl hq1)]
    have HF0 : Hid (r0 = 6) := congrArg Prod.fst hz
    have HF1 : Hid (r1 = 0) := congrArg Prod.snd hz
    clear hr hz
    go_enter Tryd.func16, Tryd.ntmps16
    go_wp2_with fail
    generalize (w.alloc (.cells #[.int .i64 qb, .int .i64 bi, .slice ao n cp] 34)).alloc (.cells #[.int .i64 0, .int .i64 0] 27) = W0 at *
    refine (rfault_any 6 0 _).mono ?_
    rintro e wz ⟨rfl, hxz⟩
    have bz := HFt.out.ext hxz; have x0' := bz.x0; have x1' := bz.x1; have g0' := bz.f 0; have g1' := bz.f 1; have HEz := Lib.hid (HE0.out.trans hxz)
    go_wp2_with fail
    exact bodyPost_ret (v := .agg #[.int .i64 6, .int .i64 0]) (by simp [results, Tryd.results16, go_sem, x0', x1']) rfl ⟨by rw [HF0.out, HF1.out], put2x HEz.out (by omega) _ _⟩
  have dq1 := df hq1
  by_cases hq2 : 12 < qb
  · have hz : (r0, r1) = ((6 : Int), (0 : Int)) := by rw [← hr, if_pos (Or.inr hq2)]
    have HF0 : Hid (r0 = 6) := congrArg Prod.fst hz
    have HF1 : Hid (r1 = 0) := congrArg Prod.snd hz
    clear hr hz
    go_enter Tryd.func16, Tryd.ntmps16
    go_wp2_with fail
    generalize (w.alloc (.cells #[.int .i64 qb, .int .i64 bi, .slice ao n cp] 34)).alloc (.cells #[.int .i64 0, .int .i64 0] 27) = W0 at *
    refine (rfault_any 6 0 _).mono ?_
    rintro e wz ⟨rfl, hxz⟩
    have bz := HFt.out.ext hxz; have x0' := bz.x0; have x1' := bz.x1; have g0' := bz.f 0; have g1' := bz.f 1; have HEz := Lib.hid (HE0.out.trans hxz)
    go_wp2_with fail
    exact bodyPost_ret (v := .agg #[.int .i64 6, .int .i64 0]) (by simp [results, Tryd.results16, go_sem, x0', x1']) rfl ⟨by rw [HF0.out, HF1.out], put2x HEz.out (by omega) _ _⟩
  have dq2 := df hq2
  rw [if_neg (by omega)] at hr
  by_cases hb1 : bi < 0
  · have hz : (r0, r1) = ((7 : Int), (0 : Int)) := by rw [← hr, if_pos (Or.inl hb1)]
    have HF0 : Hid (r0 = 7) := congrArg Prod.fst hz
    have HF1 : Hid (r1 = 0) := congrArg Prod.snd hz
    have d1 := dt hb1
    clear hr hz
    go_enter Tryd.func16, Tryd.ntmps16
    go_wp2_with fail
    generalize (w.alloc (.cells #[.int .i64 qb, .int .i64 bi, .slice ao n cp] 34)).alloc (.cells #[.int .i64 0, .int .i64 0] 27) = W0 at *
    refine (rfault_any 7 0 _).mono ?_
    rintro e wz ⟨rfl, hxz⟩
    have bz := HFt.out.ext hxz; have x0' := bz.x0; have x1' := bz.x1; have g0' := bz.f 0; have g1' := bz.f 1; have HEz := Lib.hid (HE0.out.trans hxz)
    go_wp2_with fail
    exact bodyPost_ret (v := .agg #[.int .i64 7, .int .i64 0]) (by simp [results, Tryd.results16, go_sem, x0', x1']) rfl ⟨by rw [HF0.out, HF1.out], put2x HEz.out (by omega) _ _⟩
  have d1 := df hb1
  by_cases hb2 : 12 < bi
  · have hz : (r0, r1) = ((7 : Int), (0 : Int)) := by rw [← hr, if_pos (Or.inr hb2)]
    have HF0 : Hid (r0 = 7) := congrArg Prod.fst hz
    have HF1 : Hid (r1 = 0) := congrArg Prod.snd hz
    have d2 := dt hb2
    clear hr hz
    go_enter Tryd.func16, Tryd.ntmps16
    go_wp2_with fail
    generalize (w.alloc (.cells #[.int .i64 qb, .int .i64 bi, .slice ao n cp] 34)).alloc (.cells #[.int .i64 0, .int .i64 0] 27) = W0 at *
    refine (rfault_any 7 0 _).mono ?_
    rintro e wz ⟨rfl, hxz⟩
    have bz := HFt.out.ext hxz; have x0' := bz.x0; have x1' := bz.x1; have g0' := bz.f 0; have g1' := bz.f 1; have HEz := Lib.hid (HE0.out.trans hxz)
    go_wp2_with fail
    exact bodyPost_ret (v := .agg #[.int .i64 7, .int .i64 0]) (by simp [results, Tryd.results16, go_sem, x0', x1']) rfl ⟨by rw [HF0.out, HF1.out], put2x HEz.out (by omega) _ _⟩
  have d2 := df hb2
  rw [if_neg (by omega), Hl.out] at hr
  by_cases hL : 4096 < n
  · have hz : (r0, r1) = ((2 : Int), (0 : Int)) := by rw [← hr, if_pos hL]
    have HF0 : Hid (r0 = 2) := congrArg Prod.fst hz
    have HF1 : Hid (r1 = 0) := congrArg Prod.snd hz
    have d3 : (4096 : Int) < (n : Int) := by omega
    clear hr hz
    go_enter Tryd.func16, Tryd.ntmps16
    go_wp2_with fail
    generalize (w.alloc (.cells #[.int .i64 qb, .int .i64 bi, .slice ao n cp] 34)).alloc (.cells #[.int .i64 0, .int .i64 0] 27) = W0 at *
    refine (rfault_any 2 0 _).mono ?_
    rintro e wz ⟨rfl, hxz⟩
    have bz := HFt.out.ext hxz; have x0' := bz.x0; have x1' := bz.x1; have g0' := bz.f 0; have g1' := bz.f 1; have HEz := Lib.hid (HE0.out.trans hxz)
    go_wp2_with fail
    exact bodyPost_ret (v := .agg #[.int .i64 2, .int .i64 0]) (by simp [results, Tryd.results16, go_sem, x0', x1']) rfl ⟨by rw [HF0.out, HF1.out], put2x HEz.out (by omega) _ _⟩
  have d3 : ¬ (4096 : Int) < (n : Int) := by omega
  rw [if_neg hL] at hr
  have Hr := Lib.hid hr
  clear hr
  have hab : n = 0 ∨ ∃ b o, ao = some ⟨b, o, none⟩ := by
    by_cases h0 : n = 0
    · exact Or.inl h0
    · exact Or.inr (HO.out.some_of (by omega))
  go_enter Tryd.func16, Tryd.ntmps16
  go_wp2_with fail
  generalize (w.alloc (.cells #[.int .i64 qb, .int .i64 bi, .slice ao n cp] 34)).alloc (.cells #[.int .i64 0, .int .i64 0] 27) = W0 at *
  go_loopg [3] n (fun kk s3 wr => Ext W0 wr ∧ ∃ i : Nat, s3 = .int .i64 (i : Int) ∧ i ≤ n ∧ n - i = kk ∧ (r0, r1) = opsCode qb bi i (ops.drop i))
  case atStart => exact ⟨Ext.refl _, 0, rfl, by omega, by omega, Hr.out.symm⟩
  case round =>
    obtain ⟨hER, i, rfl, hi, hk, hri⟩ := hrel
    have HER := Lib.hid hER
    have bC' := HC.out.ext hER
    have v0 := bC'.x0; have v1 := bC'.x1; have v2 := bC'.x2; have lC := bC'.lt
    clear m0 m1 m2 x0 x1 g0 g1 hER bC'
    by_cases hin : i = n
    · have h2 : ¬ (i : Int) < (n : Int) := by omega
      have hz : (r0, r1) = ((0 : Int), (0 : Int)) := by rw [hri]; exact opsCode_end qb bi ops i (by rw [Hl.out]; omega)
      have HF0 : Hid (r0 = 0) := congrArg Prod.fst hz
      have HF1 : Hid (r1 = 0) := congrArg Prod.snd hz
      have bz := HFt.out.ext HER.out; have x0' := bz.x0; have x1' := bz.x1; have g0' := bz.f 0; have g1' := bz.f 1
      have HEz := Lib.hid (HE0.out.trans HER.out)
      clear hz hri bz
      go_wp2_with fail
      exact bodyPost_ret (v := .agg #[.int .i64 0, .int .i64 0]) (by simp [results, Tryd.results16, go_sem, x0', x1']) rfl ⟨by rw [HF0.out, HF1.out], put2x HEz.out (by omega) _ _⟩
    · have h2 : (i : Int) < (n : Int) := by omega
      have h0 : (0 : Int) ≤ (i : Int) := by omega
      rcases hab with h | ⟨b, o, rfl⟩
      · omega
      obtain ⟨g, hg⟩ : ∃ g, ops[i]? = some g := ⟨_, List.getElem?_eq_getElem (by rw [Hl.out]; omega)⟩
      obtain ⟨a1, n1, c1, a2, n2, c2, e0, e1, e2, e3, e4, e5, hL⟩ := (HO.out.ext HER.out).at i g hg
      have lb := World.block_lt_of_cell? wr ⟨b, o + i * 6, none⟩ e0
      have hst := opsCode_step qb bi ops i g hg
      rw [← hri] at hst
      have HCO := Lib.hid (fun wx (hx : Ext wr wx) => badOp_any g a1 n1 c1 a2 n2 c2 qb bi wx (hL.ext hx) (by omega) (by omega) (by omega))
      obtain ⟨oc, hoc⟩ : ∃ x, opCode g qb bi = x := ⟨_, rfl⟩
      rw [hoc] at HCO hst
      have Hst := Lib.hid hst
      obtain ⟨kd, kk', ctl, qq, bb, cnd⟩ := g
      simp only at e0 e1 e2 e3 e4 e5 HCO
      clear hst hoc hri hg hL
      have hE0d : Ext wr wr.drew := Below.drew (Ext.refl _)
      go_wp2_with fail
      go_region_held3 (fun w' => w'.cell? ⟨w.heap.size, 0, none⟩ = some (.int .i64 qb) ∧ w'.cell? ⟨w.heap.size, 1, none⟩ = some (.int .i64 bi) ∧ w'.cell? ⟨w.heap.size, 2, none⟩ = some (.slice (some ⟨b, o, none⟩) n cp) ∧ w'.cell? ⟨b, o + i * 6, none⟩ = some (.int .i64 kd) ∧ w'.cell? ⟨b, o + i * 6 + 1, none⟩ = some (.int .i64 kk') ∧ w'.cell? ⟨b, o + i * 6 + 2, none⟩ = some (.slice a1 n1 c1) ∧ w'.cell? ⟨b, o + i * 6 + 3, none⟩ = some (.int .i64 qq) ∧ w'.cell? ⟨b, o + i * 6 + 4, none⟩ = some (.int .i64 bb) ∧ w'.cell? ⟨b, o + i * 6 + 5, none⟩ = some (.slice a2 n2 c2))
        (refine ⟨cell_ext (w := wr) v0 ?_, cell_ext (w := wr) v1 ?_, cell_ext (w := wr) v2 ?_, cell_ext (w := wr) e0 ?_, cell_ext (w := wr) e1 ?_, cell_ext (w := wr) e2 ?_, cell_ext (w := wr) e3 ?_, cell_ext (w := wr) e4 ?_, cell_ext (w := wr) e5 ?_⟩ <;> (repeat (first | assumption | refine Below.drew ?_)))
        (first | (go_at_call 37; refine (HCO.out _ (by assumption)).mono ?_; rintro e w6 ⟨rfl, hx6⟩; have he6 : Ext wr w6 := Ext.trans (by assumption) hx6))
      have HE6 := Lib.hid (HER.out.trans he6)
      clear v0 v1 v2 e0 e1 e2 e3 e4 e5 hE0d he6 hx6
      by_cases hc0 : oc = 0
      · have hcb := nf' hc0
        have hz : (r0, r1) = opsCode qb bi (i + 1) (ops.drop (i + 1)) := by rw [Hst.out, if_neg (by simp [hc0])]
        have HF := Lib.hid hz
        clear hz hc0 Hst
        go_wp2_with fail
        go_roundg (n - (i + 1))
        case measure => omega
        case rel => exact ⟨HE6.out, i + 1, by go_num, by omega, rfl, HF.out⟩
      · have hcb := nt hc0
        have hz : (r0, r1) = (oc, (i : Int)) := by rw [Hst.out, if_pos hc0]
        have HF0 : Hid (r0 = oc) := congrArg Prod.fst hz
        have HF1 : Hid (r1 = (i : Int)) := congrArg Prod.snd hz
        clear hz hc0 Hst
        go_wp2_with fail
        refine (rfault_any oc (i : Int) _).mono ?_
        rintro e wz ⟨rfl, hxz⟩
        have bz := HFt.out.ext (HE6.out.trans hxz); have x0' := bz.x0; have x1' := bz.x1; have g0' := bz.f 0; have g1' := bz.f 1
        have HEz := Lib.hid (HE0.out.trans (HE6.out.trans hxz))
        clear bz
        go_wp2_with fail
        exact bodyPost_ret (v := .agg #[.int .i64 oc, .int .i64 (i : Int)]) (by simp [results, Tryd.results16, go_sem, x0', x1']) rfl ⟨by rw [HF0.out, HF1.out], put2x HEz.out (by omega) _ _⟩

end Go.Proofs.YtlokfalkhgjlbaaDoor
namespace Go.Proofs.YtlokfalkhgjlbaaDoor
open Go.RowKit

theorem opsCode_zero (q b : Int) (ops : List Gop) : ∀ i, (opsCode q b i ops).1 = 0 → opsCode q b i ops = (0, 0) ∧ ∀ g ∈ ops, opCode g q b = 0 := by
  induction ops with
  | nil => exact fun _ _ => ⟨rfl, fun g hg => by cases hg⟩
  | cons o r ih =>
    intro i h
    rw [opsCode] at h ⊢
    by_cases ho : opCode o q b = 0
    · rw [if_neg (by simp [ho])] at h ⊢
      obtain ⟨e1, e2⟩ := ih (i + 1) h
      exact ⟨e1, fun g hg => by
        rcases List.mem_cons.1 hg with rfl | hg
        · exact ho
        · exact e2 g hg⟩
    · rw [if_pos ho] at h
      exact absurd h ho
theorem chk_zero {c : Gci} (h : (chk c).1 = 0) : chk c = (0, 0) ∧ 1 ≤ c.qubits ∧ c.qubits ≤ 12 ∧ 0 ≤ c.bits ∧ c.bits ≤ 12 ∧ c.ops.length ≤ 4096 ∧ ∀ g ∈ c.ops, opCode g c.qubits c.bits = 0 := by
  unfold chk at h ⊢
  by_cases h1 : c.qubits < 1 ∨ 12 < c.qubits
  · rw [if_pos h1] at h; exact absurd h (by decide)
  rw [if_neg h1] at h ⊢
  by_cases h2 : c.bits < 0 ∨ 12 < c.bits
  · rw [if_pos h2] at h; exact absurd h (by decide)
  rw [if_neg h2] at h ⊢
  by_cases h3 : 4096 < c.ops.length
  · rw [if_pos h3] at h; exact absurd h (by decide)
  rw [if_neg h3] at h ⊢
  obtain ⟨e1, e2⟩ := opsCode_zero _ _ _ _ h
  exact ⟨e1, by omega, by omega, by omega, by omega, by omega, e2⟩

end Go.Proofs.YtlokfalkhgjlbaaDoor
namespace Go.Proofs.YtlokfalkhgjlbaaDoor
open Go.RowKit

theorem pigeon : ∀ (k : Nat) (l : List Int), l.Nodup → (∀ c ∈ l, 0 ≤ c ∧ c < (k : Int)) → l.length ≤ k := by
  intro k
  induction k with
  | zero =>
    intro l _ h
    cases l with
    | nil => simp
    | cons a r => have := h a (by simp); omega
  | succ k ih =>
    intro l hn h
    by_cases hm : (k : Int) ∈ l
    · have h1 := ih (l.erase (k : Int)) (hn.erase _) (fun c hc => by
        have hc' := hn.mem_erase_iff.1 hc
        have := h c hc'.2
        have := hc'.1
        omega)
      have h2 := List.length_erase_of_mem hm
      omega
    · have := ih l hn (fun c hc => by
        have h3 := h c hc
        have : c ≠ (k : Int) := fun e => hm (e ▸ hc)
        omega)
      omega

theorem below_iff {n b : Int} : below n b = true ↔ 0 ≤ n ∧ n < b := by simp [below]
theorem ctlCode_zero (q n : Int) : ∀ (l s : List Int), ctlCode q n s l = 0 → (∀ c ∈ l, 0 ≤ c ∧ c < n) ∧ (s.Nodup → (s ++ l).Nodup) := by
  intro l
  induction l with
  | nil => intro s _; exact ⟨by simp, by simp⟩
  | cons c r ih =>
    intro s h
    rw [ctlCode] at h
    split at h
    · omega
    · rename_i hb
      split at h
      · omega
      · rename_i hc
        obtain ⟨h1, h2⟩ := ih _ h
        have hb' : below c n = true := by cases hx : below c n with
          | true => rfl
          | false => exact absurd hx hb
        refine ⟨?_, ?_⟩
        · intro x hx
          rcases List.mem_cons.1 hx with rfl | hx
          · exact below_iff.1 hb'
          · exact h1 x hx
        · intro hs
          have hcs : c ∉ s := fun e => hc (Or.inr e)
          have := h2 (by
            rw [List.nodup_append]
            refine ⟨hs, by simp, ?_⟩
            intro a ha b hb e
            simp at hb
            subst hb; subst e
            exact hcs ha)
          simpa using this

theorem fit_of_code {o : Gop} {n b : Int} (hn : n ≤ 12) (hb0 : 0 ≤ b) (hb : b ≤ 12) (h : opCode o n b = 0) : LvFit o ∧ placesFit o ∧ o.ctl.length ≤ 12 ∧ (∀ c ∈ o.ctl, 0 ≤ c ∧ c < n) := by
  unfold opCode at h
  split at h
  · omega
  rename_i hk
  split at h
  · omega
  split at h
  · omega
  rename_i hq
  split at h
  · omega
  split at h
  · exact absurd h (by assumption)
  rename_i hc
  split at h
  · omega
  rename_i hbit
  split at h
  · omega
  rename_i hcn
  have hc0 : ctlCode o.q n [] o.ctl = 0 := by
    by_cases e : ctlCode o.q n [] o.ctl = 0
    · exact e
    · exact absurd e hc
  obtain ⟨z1, z2⟩ := ctlCode_zero o.q n o.ctl [] hc0
  have z3 : o.ctl.Nodup := by simpa using z2 (by simp)
  have z4 := pigeon 12 o.ctl z3 (fun c hc => by have := z1 c hc; omega)
  have q1 : 0 ≤ o.q ∧ o.q < 12 := by
    unfold fitsB at hq
    split at hq
    · have : below o.q n = true := by simpa using hq
      have := below_iff.1 this; omega
    · have : o.q = 0 := by simpa using hq
      omega
  have b1 : 0 ≤ o.bit ∧ o.bit ≤ 12 ∧ (o.kind = 5 → o.bit < 12) := by
    unfold fitsB at hbit
    split at hbit
    · have : below o.bit b = true := by simpa using hbit
      have := below_iff.1 this; omega
    · have : o.bit = 0 := by simpa using hbit
      omega
  have c1 : o.cnd.length ≤ 24 ∧ ∀ t ∈ o.cnd, t ≠ 0 ∧ -12 ≤ t ∧ t ≤ 12 := by
    have : cndOk b o.cnd = true := by simpa using hcn
    unfold cndOk at this
    simp only [Bool.and_eq_true, decide_eq_true_eq, List.all_eq_true] at this
    refine ⟨this.1, fun t ht => ?_⟩
    have ht' := this.2 t ht
    unfold termOk at ht'
    simp at ht'
    omega
  refine ⟨⟨by omega, ⟨b1.1, b1.2.1⟩, fun t ht => (c1.2 t ht).2, by omega, c1.1, ?_⟩, ⟨fun t ht => by have := z1 t ht; omega, q1.2, b1.1, fun t ht => (c1.2 t ht).1⟩, z4, z1⟩
  intro t ht
  unfold plP at ht
  simp only [List.mem_append] at ht
  rcases ht with ((ht | ht) | ht) | ht
  · have := z1 t ht; omega
  · unfold tchQ at ht
    split at ht
    · simp at ht
    · simp at ht; omega
  · unfold tchB at ht
    split at ht
    · simp at ht; have := b1.2.2 (by assumption); omega
    · simp at ht
  · unfold tchC at ht
    simp only [List.mem_map] at ht
    obtain ⟨u, hu, rfl⟩ := ht
    have := c1.2 u hu
    unfold bitOf
    split <;> omega

end Go.Proofs.YtlokfalkhgjlbaaDoor
namespace Go.Proofs.YtlokfalkhgjlbaaDoor
open Go.RowKit

/-- How many of the operations are such. -/
def cntP (p : Gop → Bool) (l : List Gop) : Int := ((l.filter p).length : Int)
theorem cntP_yes {p : Gop → Bool} {l : List Gop} {o : Gop} (h : p o = true) : cntP p (l ++ [o]) = cntP p l + 1 := by simp [cntP, List.filter_append, h]
theorem cntP_no {p : Gop → Bool} {l : List Gop} {o : Gop} (h : p o = false) : cntP p (l ++ [o]) = cntP p l := by simp [cntP, List.filter_append, h]
theorem cntP_bound (p : Gop → Bool) (l : List Gop) : 0 ≤ cntP p l ∧ cntP p l ≤ (l.length : Int) := by
  have := List.length_filter_le p l
  unfold cntP; omega
theorem cdrew {w W : World} (h : Ext w W) : Ext w W.drew := Below.drew h


end Go.Proofs.YtlokfalkhgjlbaaDoor
namespace Go.Proofs.YtlokfalkhgjlbaaDoor
open Go.RowKit

theorem stepK_storeI {ops : Array Oper} {o : Oper} {a : Act} {K : Act → World → Prop} {Q : Exit → Act → World → Prop} {E : Prop} {w : World} (hgd : o.guard = none) (hd : o.dst = none) (p x : Operand)
    (ho : o.op = .store 36 p x) (b off : Nat) (a' : Option Addr) (n' c' : Nat) (u : Value) (hp : a.eval p = .pointer (some ⟨b, off, none⟩)) (hx : a.eval x = .slice a' n' c')
    (hcell : w.cell? ⟨b, off, none⟩ = some u) (hfz : w.frozen? ⟨b, off, none⟩ = false) (h : K a (w.setCell ⟨b, off, none⟩ (.slice a' n' c'))) :
    if Region.wanted o (yielded ops a.tmps) = true then Oper.wp Tryd.prog o a w K Q else E := by
  have hw : Region.wanted o (yielded ops a.tmps) = true := by simp [Region.wanted, hgd]
  rw [if_pos hw]
  obtain ⟨od, oo, ot, opp, oa, og⟩ := o
  simp only at ho hd
  subst ho hd
  have HH := Lib.hid h
  clear h
  unfold Oper.wp execOp
  simp only [hp, hx]
  go_simp
  exact HH.out

end Go.Proofs.YtlokfalkhgjlbaaDoor
namespace Go.Proofs.YtlokfalkhgjlbaaDoor
open Go.RowKit

/-- A list in a block of its own, not older than base. -/
def Iow (w : World) (base : Nat) (a : Option Addr) (n c : Nat) (l : List Int) : Prop := w.ownsRow base 3 1 (.slice a n c) n (iC l)
section
variable {w w' : World} {base base' : Nat} {a : Option Addr} {n c : Nat} {l : List Int}
theorem Iow.keep (h : Iow w base a n c l) (hk : ∀ (b : Nat) (cur : Array Value) (fr : Nat × Nat), w.heap[b]? = some (.cells cur 3 fr) → w'.heap[b]? = w.heap[b]?) : Iow w' base a n c l := own_keep h fun g cur _ hg => hk g cur (0, 0) hg
theorem Iow.ext (h : Iow w base a n c l) (k : Ext w w') : Iow w' base a n c l := own_keep h fun g _ _ hg => k.block g (Array.getElem?_eq_some_iff.1 hg).1
theorem Iow.down (h : Iow w base a n c l) (hb : base' ≤ base) : Iow w base' a n c l := by
  refine ⟨h.1, ?_⟩
  rcases h.2 with h | ⟨g, cap, cur, hv, hbg, rest⟩
  · exact Or.inl h
  · exact Or.inr ⟨g, cap, cur, hv, by omega, rest⟩
theorem Iow.lt (h : Iow w base a n c l) : ∀ k, (Value.slice a n c).ownBlock = some k → base ≤ k ∧ k < w.heap.size := own_lt h
theorem Iow.kind (h : Iow w base a n c l) : ∀ k, (Value.slice a n c).ownBlock = some k → ∃ cur fr, w.heap[k]? = some (.cells cur 3 fr) := fun k hk => (PtKind h k hk).2
theorem Iow.ints (h : Iow w base a n c l) : n ≤ c ∧ c ≤ maxLen ∧ IntsAt w a n l ∧ TyI w a := by
  obtain ⟨a', c', e, h1, h2, h3, h4⟩ := ints_of_own h
  injection e with e1 e2 e3
  subst e1; subst e3
  exact ⟨h1, h2, h3, h4⟩
theorem io_of_own {v : Value} (h : w.ownsRow base 3 1 v n (iC l)) : ∃ (a : Option Addr) (c : Nat), v = .slice a n c ∧ Iow w base a n c l := by
  obtain ⟨a', c', rfl, _⟩ := ints_of_own h
  exact ⟨a', c', rfl, h⟩
end

/-- An operation whose lists lie each in a block of its own. -/
structure OpN (w : World) (base : Nat) (o : Gop) (a1 : Option Addr) (n1 c1 : Nat) (a2 : Option Addr) (n2 c2 : Nat) : Prop where
  i1 : Iow w base a1 n1 c1 o.ctl
  i2 : Iow w base a2 n2 c2 o.cnd
  ne : ∀ k, (Value.slice a1 n1 c1).ownBlock = some k → (Value.slice a2 n2 c2).ownBlock ≠ some k
section
variable {w w' : World} {base base' : Nat} {o : Gop} {a1 : Option Addr} {n1 c1 : Nat} {a2 : Option Addr} {n2 c2 : Nat}
theorem OpN.keep (h : OpN w base o a1 n1 c1 a2 n2 c2) (hk : ∀ (b : Nat) (cur : Array Value) (fr : Nat × Nat), w.heap[b]? = some (.cells cur 3 fr) → w'.heap[b]? = w.heap[b]?) : OpN w' base o a1 n1 c1 a2 n2 c2 := ⟨h.i1.keep hk, h.i2.keep hk, h.ne⟩
theorem OpN.ext (h : OpN w base o a1 n1 c1 a2 n2 c2) (k : Ext w w') : OpN w' base o a1 n1 c1 a2 n2 c2 := ⟨h.i1.ext k, h.i2.ext k, h.ne⟩
theorem OpN.down (h : OpN w base o a1 n1 c1 a2 n2 c2) (hb : base' ≤ base) : OpN w base' o a1 n1 c1 a2 n2 c2 := ⟨h.i1.down hb, h.i2.down hb, h.ne⟩
theorem OpN.opO (h : OpN w base o a1 n1 c1 a2 n2 c2) : OpO w o a1 n1 c1 a2 n2 c2 := by
  obtain ⟨p1, p2, p3, p4⟩ := h.i1.ints
  obtain ⟨q1, q2, q3, q4⟩ := h.i2.ints
  exact ⟨⟨p3, p1, by unfold maxLen at p2; omega, q3, q1, by unfold maxLen at q2; omega⟩, p4, q4⟩
end

/-- Among the first m cells no two lead into one block. -/
def SepF (m : Nat) (f : Nat → Option Value) : Prop := ∀ i j k u v, i < m → j < m → f i = some u → f j = some v → u.ownBlock = some k → v.ownBlock = some k → i = j
/-- Operations, cell by cell. -/
def RowF (w : World) (base : Nat) (f : Nat → Option Value) (ops : List Gop) : Prop :=
  ∀ t g, ops[t]? = some g → ∃ (a1 : Option Addr) (n1 c1 : Nat) (a2 : Option Addr) (n2 c2 : Nat),
    f (t * 6) = some (.int .i64 g.kind) ∧ f (t * 6 + 1) = some (.int .i64 g.k) ∧ f (t * 6 + 2) = some (.slice a1 n1 c1) ∧ f (t * 6 + 3) = some (.int .i64 g.q) ∧ f (t * 6 + 4) = some (.int .i64 g.bit) ∧ f (t * 6 + 5) = some (.slice a2 n2 c2) ∧ OpN w base g a1 n1 c1 a2 n2 c2
section
variable {w w' : World} {base base' : Nat} {f f' : Nat → Option Value} {ops : List Gop}
theorem RowF.map (h : RowF w base f ops) (hk : ∀ g a1 n1 c1 a2 n2 c2, OpN w base g a1 n1 c1 a2 n2 c2 → OpN w' base' g a1 n1 c1 a2 n2 c2) : RowF w' base' f ops := fun t g hg => by
  obtain ⟨a1, n1, c1, a2, n2, c2, e0, e1, e2, e3, e4, e5, e6⟩ := h t g hg
  exact ⟨a1, n1, c1, a2, n2, c2, e0, e1, e2, e3, e4, e5, hk _ _ _ _ _ _ _ e6⟩
theorem RowF.blocks (h : RowF w base f ops) {i : Nat} {u : Value} {k : Nat} (hi : i < ops.length * 6) (hu : f i = some u) (hk : u.ownBlock = some k) : base ≤ k ∧ k < w.heap.size ∧ ∃ cur fr, w.heap[k]? = some (.cells cur 3 fr) := by
  obtain ⟨t, r, hr, rfl⟩ : ∃ t r, r < 6 ∧ i = t * 6 + r := ⟨i / 6, i % 6, by omega, by omega⟩
  have ht : t < ops.length := by omega
  obtain ⟨a1, n1, c1, a2, n2, c2, e0, e1, e2, e3, e4, e5, e6⟩ := h t _ (List.getElem?_eq_getElem ht)
  have : r = 0 ∨ r = 1 ∨ r = 2 ∨ r = 3 ∨ r = 4 ∨ r = 5 := by omega
  rcases this with rfl | rfl | rfl | rfl | rfl | rfl
  · rw [Nat.add_zero, e0] at hu; cases hu; simp [Value.ownBlock] at hk
  · rw [e1] at hu; cases hu; simp [Value.ownBlock] at hk
  · rw [e2] at hu; cases hu; exact ⟨(e6.i1.lt k hk).1, (e6.i1.lt k hk).2, e6.i1.kind k hk⟩
  · rw [e3] at hu; cases hu; simp [Value.ownBlock] at hk
  · rw [e4] at hu; cases hu; simp [Value.ownBlock] at hk
  · rw [e5] at hu; cases hu; exact ⟨(e6.i2.lt k hk).1, (e6.i2.lt k hk).2, e6.i2.kind k hk⟩
end

/-- Operations in a row of the call's own, their lists each in a block of its own; xs are the row's cells. -/
structure OpsX (w : World) (base : Nat) (v : Value) (ops : List Gop) (xs : List Value) : Prop where
  own : w.ownsRow base 46 6 v ops.length xs
  sep : SepF (ops.length * 6) (fun i => xs[i]?)
  row : RowF w base (fun i => xs[i]?) ops
def OpsN (w : World) (base : Nat) (v : Value) (ops : List Gop) : Prop := ∃ xs, OpsX w base v ops xs
section
variable {w w' : World} {base base' : Nat} {v : Value} {ops : List Gop} {xs : List Value}
theorem OpsX.nil (w : World) (base : Nat) : OpsX w base (.slice none 0 0) [] [] := ⟨⟨rfl, Or.inl ⟨rfl, rfl⟩⟩, fun i j k u v hi => by simp at hi, fun t g h => by simp at h⟩
theorem OpsN.nil (w : World) (base : Nat) : OpsN w base (.slice none 0 0) [] := ⟨[], OpsX.nil w base⟩
theorem OpsX.ext (h : OpsX w base v ops xs) (k : Ext w w') : OpsX w' base v ops xs :=
  ⟨own_keep h.own (fun g _ _ hg => k.block g (Array.getElem?_eq_some_iff.1 hg).1), h.sep, h.row.map fun _ _ _ _ _ _ _ o => o.ext k⟩
theorem OpsN.ext (h : OpsN w base v ops) (k : Ext w w') : OpsN w' base v ops := h.elim fun _ hx => ⟨_, hx.ext k⟩
theorem own_keep3 {e : TypeId} {size n : Nat} (h : w.ownsRow base e size v n xs) (hk : ∀ g, v.ownBlock = some g → w'.heap[g]? = w.heap[g]?) : w'.ownsRow base e size v n xs := by
  refine ⟨h.1, ?_⟩
  rcases h.2 with h | ⟨g, cap, cur, hv, hb, hg, rest⟩
  · exact Or.inl h
  · exact Or.inr ⟨g, cap, cur, hv, hb, (hk g (by rw [hv]; rfl)).trans hg, rest⟩
theorem OpsX.keep (h : OpsX w base v ops xs) (hv : ∀ g, v.ownBlock = some g → w'.heap[g]? = w.heap[g]?) (hk : ∀ (b : Nat) (cur : Array Value) (fr : Nat × Nat), w.heap[b]? = some (.cells cur 3 fr) → w'.heap[b]? = w.heap[b]?) : OpsX w' base v ops xs :=
  ⟨own_keep3 h.own hv, h.sep, h.row.map fun _ _ _ _ _ _ _ o => o.keep hk⟩
/-- An older block is written, not of ints. -/
theorem OpsX.only {k : Nat} {cs : Array Value} {T : TypeId} {fr : Nat × Nat} (h : OpsX w base v ops xs) (hk : w.heap[k]? = some (.cells cs T fr)) (hT : T ≠ 3) (hO : Only k w w') (hb : k < base) : OpsX w' base v ops xs :=
  h.keep (fun g hg => hO.block g (by have := (PtKind h.own g hg).1; omega)) (only_ints hk hT hO)
theorem OpsN.only {k : Nat} {cs : Array Value} {T : TypeId} {fr : Nat × Nat} (h : OpsN w base v ops) (hk : w.heap[k]? = some (.cells cs T fr)) (hT : T ≠ 3) (hO : Only k w w') (hb : k < base) : OpsN w' base v ops := h.elim fun _ hx => ⟨_, hx.only hk hT hO hb⟩
theorem OpsN.down (h : OpsN w base v ops) (hb : base' ≤ base) : OpsN w base' v ops := by
  obtain ⟨xs, h⟩ := h
  refine ⟨xs, ⟨⟨h.own.1, ?_⟩, h.sep, h.row.map fun _ _ _ _ _ _ _ o => o.down hb⟩⟩
  rcases h.own.2 with h | ⟨g, cap, cur, hv, hbg, rest⟩
  · exact Or.inl h
  · exact Or.inr ⟨g, cap, cur, hv, by omega, rest⟩
theorem OpsN.o (h : OpsN w base v ops) : OpsO w base v ops := by
  obtain ⟨xs, h⟩ := h
  refine ⟨xs, h.own, fun t g hg => ?_⟩
  obtain ⟨a1, n1, c1, a2, n2, c2, e0, e1, e2, e3, e4, e5, e6⟩ := h.row t g hg
  exact ⟨a1, n1, c1, a2, n2, c2, e0, e1, e2, e3, e4, e5, e6.opO⟩
/-- What is named: where it lies, how much there is, all of it there. -/
theorem OpsN.at {a : Option Addr} {n c : Nat} (h : OpsN w base (.slice a n c) ops) : ops.length = n ∧ n ≤ c ∧ c ≤ 9223372036854775807 ∧ OpsAt w a n ops := by
  obtain ⟨a9, c9, ev9, h1, h2, h3⟩ := h.o.at
  injection ev9 with ea en ec
  subst ea; subst ec; subst en
  exact ⟨rfl, h1, by unfold maxLen at h2; omega, h3⟩
theorem OpsX.old (h : OpsX w base v ops xs) : ∀ (i : Nat) (u : Value) (k : Nat), xs[i]? = some u → u.ownBlock = some k → k < w.heap.size := fun i u k hu hk => by
  have hi : i < ops.length * 6 := by rw [← h.own.1]; exact (List.getElem?_eq_some_iff.1 hu).1
  exact (h.row.blocks hi hu hk).2.1
end
theorem six_block {k0 k1 : Int} {a1 : Option Addr} {n1 c1 : Nat} {k3 k4 : Int} {a2 : Option Addr} {n2 c2 : Nat} {j k : Nat} {u : Value} (hu : ([.int .i64 k0, .int .i64 k1, .slice a1 n1 c1, .int .i64 k3, .int .i64 k4, .slice a2 n2 c2] : List Value)[j]? = some u) (hk : u.ownBlock = some k) :
    (j = 2 ∧ (Value.slice a1 n1 c1).ownBlock = some k) ∨ (j = 5 ∧ (Value.slice a2 n2 c2).ownBlock = some k) := by
  match j, hu with
  | 0, hu => simp at hu; subst hu; simp [Value.ownBlock] at hk
  | 1, hu => simp at hu; subst hu; simp [Value.ownBlock] at hk
  | 2, hu => simp at hu; subst hu; exact Or.inl ⟨rfl, hk⟩
  | 3, hu => simp at hu; subst hu; simp [Value.ownBlock] at hk
  | 4, hu => simp at hu; subst hu; simp [Value.ownBlock] at hk
  | 5, hu => simp at hu; subst hu; exact Or.inr ⟨rfl, hk⟩
  | n + 6, hu => simp at hu
/-- One more behind them, its lists in blocks that are newer. -/
theorem OpsX.snoc {w w' : World} {base B : Nat} {v v' : Value} {ops : List Gop} {xs : List Value} {g : Gop} {a1 : Option Addr} {n1 c1 : Nat} {a2 : Option Addr} {n2 c2 : Nat} (h : OpsX w base v ops xs)
    (h1 : w'.ownsRow base 46 6 v' (ops.length + 1) (xs ++ [.int .i64 g.kind, .int .i64 g.k, .slice a1 n1 c1, .int .i64 g.q, .int .i64 g.bit, .slice a2 n2 c2]))
    (hk : ∀ (b : Nat) (cur : Array Value) (fr : Nat × Nat), w.heap[b]? = some (.cells cur 3 fr) → w'.heap[b]? = w.heap[b]?)
    (hB : ∀ (i : Nat) (u : Value) (k : Nat), xs[i]? = some u → u.ownBlock = some k → k < B) (hb : base ≤ B) (hO : OpN w' B g a1 n1 c1 a2 n2 c2) :
    OpsX w' base v' (ops ++ [g]) (xs ++ [.int .i64 g.kind, .int .i64 g.k, .slice a1 n1 c1, .int .i64 g.q, .int .i64 g.bit, .slice a2 n2 c2]) := by
  have hx : xs.length = ops.length * 6 := h.own.1
  have hl : (ops ++ [g]).length = ops.length + 1 := by simp
  have hr : ∀ j, (xs ++ [.int .i64 g.kind, .int .i64 g.k, .slice a1 n1 c1, .int .i64 g.q, .int .i64 g.bit, .slice a2 n2 c2])[ops.length * 6 + j]? = ([.int .i64 g.kind, .int .i64 g.k, .slice a1 n1 c1, .int .i64 g.q, .int .i64 g.bit, .slice a2 n2 c2] : List Value)[j]? := fun j => by
    rw [List.getElem?_append_right (by omega), hx, Nat.add_sub_cancel_left]
  have hlft : ∀ i, i < ops.length * 6 → (xs ++ [.int .i64 g.kind, .int .i64 g.k, .slice a1 n1 c1, .int .i64 g.q, .int .i64 g.bit, .slice a2 n2 c2])[i]? = xs[i]? := fun i hi => List.getElem?_append_left (by omega)
  refine ⟨by rw [hl]; exact h1, ?_, ?_⟩
  · rw [hl]
    intro i j k u v hi hj eu ev ku kv
    simp only at eu ev
    have key : ∀ p q x y, p < ops.length * 6 → ops.length * 6 ≤ q → (xs ++ [.int .i64 g.kind, .int .i64 g.k, .slice a1 n1 c1, .int .i64 g.q, .int .i64 g.bit, .slice a2 n2 c2])[p]? = some x → (xs ++ [.int .i64 g.kind, .int .i64 g.k, .slice a1 n1 c1, .int .i64 g.q, .int .i64 g.bit, .slice a2 n2 c2])[q]? = some y → x.ownBlock = some k → y.ownBlock = some k → False := by
      intro p q x y hp hq ex ey kx ky
      rw [hlft p hp] at ex
      have h1 := hB p x k ex kx
      obtain ⟨r, rfl⟩ : ∃ r, q = ops.length * 6 + r := ⟨q - ops.length * 6, by omega⟩
      rw [hr] at ey
      rcases six_block ey ky with ⟨_, e⟩ | ⟨_, e⟩
      · have := (hO.i1.lt k e).1; omega
      · have := (hO.i2.lt k e).1; omega
    by_cases h1 : i < ops.length * 6
    · by_cases h2 : j < ops.length * 6
      · exact h.sep i j k u v h1 h2 (by rw [hlft i h1] at eu; exact eu) (by rw [hlft j h2] at ev; exact ev) ku kv
      · exact (key i j u v h1 (by omega) eu ev ku kv).elim
    · by_cases h2 : j < ops.length * 6
      · exact (key j i v u h2 (by omega) ev eu kv ku).elim
      · obtain ⟨r, rfl⟩ : ∃ r, i = ops.length * 6 + r := ⟨i - ops.length * 6, by omega⟩
        obtain ⟨s, rfl⟩ : ∃ s, j = ops.length * 6 + s := ⟨j - ops.length * 6, by omega⟩
        rw [hr] at eu ev
        rcases six_block eu ku with ⟨e1, f1⟩ | ⟨e1, f1⟩ <;> rcases six_block ev kv with ⟨e2, f2⟩ | ⟨e2, f2⟩
        · omega
        · exact absurd f2 (hO.ne k f1)
        · exact absurd f1 (hO.ne k f2)
        · omega
  · intro t gg hgg
    have ht := (List.getElem?_eq_some_iff.1 hgg).1
    rw [hl] at ht
    by_cases e : t = ops.length
    · subst e
      rw [List.getElem?_append_right (Nat.le_refl _), Nat.sub_self] at hgg
      cases hgg
      exact ⟨a1, n1, c1, a2, n2, c2, hr 0, hr 1, hr 2, hr 3, hr 4, hr 5, hO.down hb⟩
    · rw [List.getElem?_append_left (by omega)] at hgg
      obtain ⟨b1, m1, d1, b2, m2, d2, e0, e1, e2, e3, e4, e5, e6⟩ := h.row t gg hgg
      exact ⟨b1, m1, d1, b2, m2, d2, (hlft _ (by omega)).trans e0, (hlft _ (by omega)).trans e1, (hlft _ (by omega)).trans e2, (hlft _ (by omega)).trans e3, (hlft _ (by omega)).trans e4, (hlft _ (by omega)).trans e5, e6.keep hk⟩

end Go.Proofs.YtlokfalkhgjlbaaDoor
namespace Go.Proofs.YtlokfalkhgjlbaaDoor
/-- Are the two linked? -/
def lk (W : List Nat) (a b : Nat) : Bool := (W.getD a 0).testBit b
/-- A set with all that the first k of the web are linked to. -/
def widK (W : List Nat) (s : Nat) : Nat → Nat
  | 0 => s
  | k + 1 => if s.testBit k then widK W s k ||| W.getD k 0 else widK W s k
theorem widK_bit (W : List Nat) (s k b : Nat) : (widK W s k).testBit b = true ↔ s.testBit b = true ∨ ∃ q, q < k ∧ s.testBit q = true ∧ lk W q b = true := by
  induction k with
  | zero => simp [widK]
  | succ k ih =>
    unfold widK
    by_cases h : s.testBit k = true
    · rw [if_pos h, Nat.testBit_or, Bool.or_eq_true, ih]
      constructor
      · rintro ((h1 | ⟨q, h1, h2, h3⟩) | h1)
        · exact Or.inl h1
        · exact Or.inr ⟨q, by omega, h2, h3⟩
        · exact Or.inr ⟨k, by omega, h, h1⟩
      · rintro (h1 | ⟨q, h1, h2, h3⟩)
        · exact Or.inl (Or.inl h1)
        · by_cases e : q = k
          · subst e; exact Or.inr h3
          · exact Or.inl (Or.inr ⟨q, by omega, h2, h3⟩)
    · rw [if_neg h, ih]
      constructor
      · rintro (h1 | ⟨q, h1, h2, h3⟩)
        · exact Or.inl h1
        · exact Or.inr ⟨q, by omega, h2, h3⟩
      · rintro (h1 | ⟨q, h1, h2, h3⟩)
        · exact Or.inl h1
        · by_cases e : q = k
          · subst e; exact absurd h2 h
          · exact Or.inr ⟨q, by omega, h2, h3⟩
def wid (W : List Nat) (s : Nat) : Nat := widK W s 12
def bal (W : List Nat) (s : Nat) : Nat → Nat
  | 0 => s
  | n + 1 => wid W (bal W s n)
/-- A web of N qubits: symmetric, below N. -/
structure WebOk (W : List Nat) (N : Nat) : Prop where
  len : W.length = 12
  n12 : N ≤ 12
  lt : ∀ a b, lk W a b = true → a < N ∧ b < N ∧ a ≠ b
  sym : ∀ a b, lk W a b = true → lk W b a = true
section
variable {W : List Nat} {N : Nat}
theorem WebOk.val (h : WebOk W N) (a : Nat) : W.getD a 0 < 2 ^ N := by
  refine Nat.lt_pow_two_of_testBit _ fun i hi => ?_
  by_cases e : (W.getD a 0).testBit i = true
  · have := (h.lt a i e).2.1; omega
  · simpa using e
theorem wid_bit (h : WebOk W N) (s b : Nat) : (wid W s).testBit b = true ↔ s.testBit b = true ∨ ∃ q, s.testBit q = true ∧ lk W q b = true := by
  unfold wid
  rw [widK_bit]
  constructor
  · rintro (h1 | ⟨q, _, h2⟩)
    · exact Or.inl h1
    · exact Or.inr ⟨q, h2⟩
  · rintro (h1 | ⟨q, h2, h3⟩)
    · exact Or.inl h1
    · exact Or.inr ⟨q, by have := (h.lt q b h3).1; have := h.n12; omega, h2, h3⟩
theorem widK_lt (h : WebOk W N) {s : Nat} (hs : s < 2 ^ N) (k : Nat) : widK W s k < 2 ^ N := by
  induction k with
  | zero => exact hs
  | succ k ih =>
    unfold widK
    split
    · exact Nat.or_lt_two_pow ih (h.val k)
    · exact ih
theorem bal_lt (h : WebOk W N) {s : Nat} (hs : s < 2 ^ N) (n : Nat) : bal W s n < 2 ^ N := by
  induction n with
  | zero => exact hs
  | succ n ih => exact widK_lt h ih 12
theorem bal_mono (h : WebOk W N) (s n b : Nat) (hb : (bal W s n).testBit b = true) : (bal W s (n + 1)).testBit b = true := (wid_bit h _ _).2 (Or.inl hb)
theorem bal_le (h : WebOk W N) (s b : Nat) {n m : Nat} (hm : n ≤ m) (hb : (bal W s n).testBit b = true) : (bal W s m).testBit b = true := by
  obtain ⟨d, rfl⟩ : ∃ d, m = n + d := ⟨m - n, by omega⟩
  clear hm
  induction d with
  | zero => exact hb
  | succ d ih => exact bal_mono h s (n + d) b ih
/-- How many bits below n are 1. -/
def cnt : Nat → Nat → Nat
  | 0, _ => 0
  | n + 1, s => cnt n s + (if s.testBit n then 1 else 0)
theorem cnt_le (n s : Nat) : cnt n s ≤ n := by
  induction n with
  | zero => exact Nat.le_refl _
  | succ n ih => unfold cnt; split <;> omega
theorem cnt_mono (n : Nat) {s t : Nat} (h : ∀ b, s.testBit b = true → t.testBit b = true) : cnt n s ≤ cnt n t := by
  induction n with
  | zero => exact Nat.le_refl _
  | succ n ih =>
    unfold cnt
    by_cases e : s.testBit n = true
    · rw [if_pos e, if_pos (h n e)]; omega
    · rw [if_neg e]; omega
theorem cnt_grow (n : Nat) {s t q : Nat} (h : ∀ b, s.testBit b = true → t.testBit b = true) (hq : q < n) (h1 : ¬ s.testBit q = true) (h2 : t.testBit q = true) : cnt n s < cnt n t := by
  induction n with
  | zero => omega
  | succ n ih =>
    unfold cnt
    by_cases e : q = n
    · subst e
      rw [if_neg h1, if_pos h2]
      have := cnt_mono q h
      omega
    · have := ih (by omega)
      by_cases e : s.testBit n = true
      · rw [if_pos e, if_pos (h n e)]; omega
      · rw [if_neg e]; omega
theorem cnt_pos {n s q : Nat} (hq : q < n) (h : s.testBit q = true) : 1 ≤ cnt n s := by
  have := cnt_grow n (s := 0) (t := s) (q := q) (fun b hb => by simp at hb) hq (by simp) h
  omega
theorem cnt_full {n s : Nat} (h : n ≤ cnt n s) : ∀ q, q < n → s.testBit q = true := by
  induction n with
  | zero => intro q hq; omega
  | succ n ih =>
    unfold cnt at h
    have := cnt_le n s
    intro q hq
    by_cases e : s.testBit n = true
    · rw [if_pos e] at h
      by_cases e2 : q = n
      · subst e2; exact e
      · exact ih (by omega) q (by omega)
    · rw [if_neg e] at h; omega
/-- Closed: what is linked to one of it is in it. -/
def Closed (W : List Nat) (s : Nat) : Prop := ∀ a b, s.testBit a = true → lk W a b = true → s.testBit b = true
theorem bal_closed (h : WebOk W N) {s o : Nat} (ho : o < N) (hs : s.testBit o = true) (n : Nat) : Closed W (bal W s n) ∨ n + 1 ≤ cnt N (bal W s n) := by
  induction n with
  | zero => exact Or.inr (cnt_pos ho hs)
  | succ n ih =>
    by_cases hc : Closed W (bal W s n)
    · refine Or.inl fun a b ha hb => ?_
      rcases (wid_bit h _ _).1 ha with h1 | ⟨q, h1, h2⟩
      · exact bal_mono h s n b (hc a b h1 hb)
      · exact bal_mono h s n b (hc a b (hc q a h1 h2) hb)
    · rcases ih with h1 | h1
      · exact absurd h1 hc
      · right
        have : ∃ a b, (bal W s n).testBit a = true ∧ lk W a b = true ∧ ¬ (bal W s n).testBit b = true := by
          apply Classical.byContradiction
          intro hn
          refine hc fun a b ha hb => ?_
          apply Classical.byContradiction
          intro hx
          exact hn ⟨a, b, ha, hb, hx⟩
        obtain ⟨a, b, ha, hb, hx⟩ := this
        have := cnt_grow N (s := bal W s n) (t := bal W s (n + 1)) (q := b) (fun c hc => bal_mono h s n c hc) (h.lt a b hb).2.1 hx ((wid_bit h _ _).2 (Or.inr ⟨a, ha, hb⟩))
        omega
/-- Behind N - 1 steps: all there is, or closed. -/
theorem bal_end (h : WebOk W N) {s o : Nat} (ho : o < N) (hs : s.testBit o = true) : Closed W (bal W s (N - 1)) ∨ ∀ q, q < N → (bal W s (N - 1)).testBit q = true := by
  rcases bal_closed h ho hs (N - 1) with h1 | h1
  · exact Or.inl h1
  · exact Or.inr (cnt_full (by omega))
/-- Ways lead from 0. -/
def Rch (W : List Nat) (q : Nat) : Prop := ∀ C : Nat → Prop, C 0 → (∀ a b, C a → lk W a b = true → C b) → C q
def Conn (W : List Nat) (N : Nat) : Prop := ∀ q, q < N → Rch W q
theorem bal_rch (h : WebOk W N) (n : Nat) : ∀ q, (bal W 1 n).testBit q = true → Rch W q := by
  induction n with
  | zero =>
    intro q hq C h0 _
    have : q = 0 := by
      apply Classical.byContradiction
      intro hn
      have e : (1 : Nat).testBit q = false := by
        have := Nat.testBit_two_pow_of_ne (n := 0) (m := q) (by omega)
        simpa using this
      simp only [bal] at hq
      rw [e] at hq
      cases hq
    subst this
    exact h0
  | succ n ih =>
    intro q hq
    rcases (wid_bit h _ _).1 hq with h1 | ⟨a, h1, h2⟩
    · exact ih q h1
    · exact fun C h0 hc => hc a q (ih a h1 C h0 hc) h2
theorem full_lt {s n : Nat} (hs : s < 2 ^ n) : (s = 2 ^ n - 1) ↔ ∀ q, q < n → s.testBit q = true := by
  constructor
  · rintro rfl q hq
    rw [Nat.testBit_two_pow_sub_one]; simpa using hq
  · intro h
    apply Nat.eq_of_testBit_eq
    intro i
    rw [Nat.testBit_two_pow_sub_one]
    by_cases hi : i < n
    · rw [h i hi]; simp [hi]
    · rw [Nat.testBit_lt_two_pow (Nat.lt_of_lt_of_le hs (Nat.pow_le_pow_right (by decide) (by omega)))]
      simp [hi]
/-- What the program finds: all are reached just where ways lead to all. -/
theorem reached_iff (h : WebOk W N) (hN : 1 ≤ N) : bal W 1 (N - 1) = 2 ^ N - 1 ↔ Conn W N := by
  have h1 : (1 : Nat) < 2 ^ N := Nat.one_lt_two_pow (by omega)
  rw [full_lt (bal_lt h h1 _)]
  have hb : (1 : Nat).testBit 0 = true := by simp
  constructor
  · intro ha q hq
    exact bal_rch h _ q (ha q hq)
  · intro hc q hq
    rcases bal_end h (show 0 < N by omega) hb with h2 | h2
    · exact hc q hq (fun a => (bal W 1 (N - 1)).testBit a = true) (bal_le h 1 0 (Nat.zero_le _) hb) (fun a b ha hl => h2 a b ha hl)
    · exact h2 q hq
/-- Where ways lead to all, they lead from each. -/
theorem conn_from (h : WebOk W N) (hc : Conn W N) {t : Nat} (ht : t < N) : ∀ q, q < N → (bal W (2 ^ t) (N - 1)).testBit q = true := by
  have hb : (2 ^ t).testBit t = true := Nat.testBit_two_pow_self
  rcases bal_end h ht hb with h2 | h2
  · have ht' : (bal W (2 ^ t) (N - 1)).testBit t = true := bal_le h _ t (Nat.zero_le _) hb
    have h0 : (bal W (2 ^ t) (N - 1)).testBit 0 = true := by
      apply Classical.byContradiction
      intro hn
      have := hc t ht (fun a => ¬ (bal W (2 ^ t) (N - 1)).testBit a = true) hn (fun a b ha hl hx => ha (h2 b a hx (h.sym a b hl)))
      exact this ht'
    intro q hq
    exact hc q hq (fun a => (bal W (2 ^ t) (N - 1)).testBit a = true) h0 (fun a b ha hl => h2 a b ha hl)
  · exact h2
/-- A way of m + 1 links to t begins with a link into what m links reach. -/
theorem bal_step (h : WebOk W N) {t f : Nat} (hne : f ≠ t) : ∀ m, (bal W (2 ^ t) (m + 1)).testBit f = true → ∃ k p, k ≤ m ∧ (bal W (2 ^ t) k).testBit p = true ∧ lk W f p = true
  | 0, hf => by
    rcases (wid_bit h _ _).1 hf with h1 | ⟨q, h1, h2⟩
    · have : (2 ^ t).testBit f = true := h1
      rw [Nat.testBit_two_pow_of_ne (fun e => hne e.symm)] at this
      cases this
    · exact ⟨0, q, Nat.le_refl _, h1, h.sym _ _ h2⟩
  | m + 1, hf => by
    rcases (wid_bit h _ _).1 hf with h1 | ⟨q, h1, h2⟩
    · obtain ⟨k, p, e1, e2, e3⟩ := bal_step h hne m h1
      exact ⟨k, p, by omega, e2, e3⟩
    · exact ⟨m + 1, q, Nat.le_refl _, h1, h.sym _ _ h2⟩
end
/-- A list without twins of numbers below N. -/
theorem nodup_len : ∀ (N : Nat) (l : List Nat), l.Nodup → (∀ x ∈ l, x < N) → l.length ≤ N ∧ (l.length = N → ∀ q, q < N → q ∈ l)
  | 0, l, _, h => by
    cases l with
    | nil => exact ⟨Nat.le_refl _, fun _ q hq => by omega⟩
    | cons a r => exact absurd (h a (by simp)) (by omega)
  | N + 1, l, hd, h => by
    by_cases hN : N ∈ l
    · have h1 := List.length_erase_of_mem hN
      have h2 := nodup_len N (l.erase N) (hd.erase N) (fun x hx => by
        have h3 := h x (List.mem_of_mem_erase hx)
        have h4 : x ≠ N := fun e => by
          subst e
          exact hd.not_mem_erase hx
        omega)
      have hp : 0 < l.length := List.length_pos_of_mem hN
      refine ⟨by omega, fun e q hq => ?_⟩
      by_cases e2 : q = N
      · subst e2; exact hN
      · exact List.mem_of_mem_erase (h2.2 (by omega) q (by omega))
    · have h2 := nodup_len N l hd (fun x hx => by
        have h3 := h x hx
        have h4 : x ≠ N := fun e => hN (e ▸ hx)
        omega)
      exact ⟨by omega, fun e => by omega⟩
theorem full_len : ∀ (N : Nat) (l : List Nat), (∀ q, q < N → q ∈ l) → N ≤ l.length
  | 0, _, _ => Nat.zero_le _
  | N + 1, l, h => by
    have hN := h N (by omega)
    have h1 := List.length_erase_of_mem hN
    have h2 := full_len N (l.erase N) (fun q hq => (List.mem_erase_of_ne (by omega)).2 (h q (by omega)))
    have hp : 0 < l.length := List.length_pos_of_mem hN
    omega
end Go.Proofs.YtlokfalkhgjlbaaDoor
namespace Go.Proofs.YtlokfalkhgjlbaaDoor
open Go.RowKit

theorem u16_bv {x : Nat} (hx : x < 65536) : (BitVec.ofInt 16 (x : Int)).toNat = x := by
  rw [BitVec.toNat_ofInt]; omega
theorem and_u16 {x y : Nat} (hx : x < 65536) (hy : y < 65536) : bits .and .u16 (x : Int) (y : Int) = ((x &&& y : Nat) : Int) := by
  show IntKind.u16.wrap ((BitVec.ofInt 16 (x : Int) &&& BitVec.ofInt 16 (y : Int)).toNat : Int) = _
  rw [BitVec.toNat_and, u16_bv hx, u16_bv hy]
  have : x &&& y < 2 ^ 16 := Nat.and_lt_two_pow (n := 16) x hy
  rw [show IntKind.u16.wrap ((x &&& y : Nat) : Int) = (((x &&& y : Nat) : Int) % 65536) from rfl]
  omega
theorem or_u16 {x y : Nat} (hx : x < 65536) (hy : y < 65536) : bits .or .u16 (x : Int) (y : Int) = ((x ||| y : Nat) : Int) := by
  show IntKind.u16.wrap ((BitVec.ofInt 16 (x : Int) ||| BitVec.ofInt 16 (y : Int)).toNat : Int) = _
  rw [BitVec.toNat_or, u16_bv hx, u16_bv hy]
  have : x ||| y < 2 ^ 16 := Nat.or_lt_two_pow (n := 16) hx hy
  rw [show IntKind.u16.wrap ((x ||| y : Nat) : Int) = (((x ||| y : Nat) : Int) % 65536) from rfl]
  omega

theorem bit_u16 {V : Nat} (hV : V < 65536) (b : Nat) : (bits .and .u16 ((V : Int) / 2 ^ b) 1 == 1) = V.testBit b := by
  have e : ((V : Int) / 2 ^ b) = ((V / 2 ^ b : Nat) : Int) := by rw [Int.natCast_ediv, Int.natCast_pow]; rfl
  have h1 : bits .and .u16 ((V / 2 ^ b : Nat) : Int) 1 = ((V / 2 ^ b &&& 1 : Nat) : Int) := and_u16 (x := V / 2 ^ b) (y := 1) (Nat.lt_of_le_of_lt (Nat.div_le_self _ _) hV) (by decide)
  rw [e, h1, Nat.and_one_is_mod, Nat.testBit_eq_decide_div_mod_eq]
  by_cases h : V / 2 ^ b % 2 = 1
  · rw [h]; rfl
  · rw [show V / 2 ^ b % 2 = 0 by omega]; rfl

/-- A region that draws its order, only reads, and calls what only makes memory, in the order of the text: over all worlds F x. -/
theorem wp_region_M {X : Type} {F : X → World} {id : Nat} {Q : Exit → Act → World → Prop} {a : Act} {w : World} {l : List Oper} (hm : Tryd.prog.follows .mixedOrders = true) (hB : Region.lexB .any l.toArray = true) (hC : ∃ x, w.drew = F x)
    (h : wpQuiet Tryd.prog l.toArray (fun w' => ∃ x, w' = F x) (fun a' => ∀ w', (∃ x, w' = F x) → Q .normal a' w') l a) : (Code.region id l.toArray true).wp Tryd.prog Q a w :=
  wp_region_quiet (C := fun w' => ∃ x, w' = F x) hm hB hC (by simpa using h)
theorem fam (U : World) : ∃ (X : Type) (Fw : X → World), Nonempty X ∧ (∀ x, Ext U (Fw x)) ∧ (∀ w', Ext U w' → ∃ x, w' = Fw x) :=
  ⟨{ w' : World // Ext U w' }, Subtype.val, ⟨⟨U, Ext.refl U⟩⟩, fun x => x.2, fun w' h => ⟨⟨w', h⟩, rfl⟩⟩

/-- A web in memory. -/
structure WebAt (w : World) (g : Nat) (W : List Nat) : Prop where
  len : W.length = 12
  lt : ∀ q, W.getD q 0 < 65536
  cell : ∀ q, q < 12 → w.cell? ⟨g, q, none⟩ = some (.int .u16 ((W.getD q 0 : Nat) : Int))
theorem WebAt.ext {w w' : World} {g : Nat} {W : List Nat} (h : WebAt w g W) (k : Ext w w') : WebAt w' g W := ⟨h.len, h.lt, fun q hq => cell_ext (h.cell q hq) k⟩

theorem has_any (W : List Nat) (g a b : Nat) (w : World) (h : WebAt w g W) (ha : a < 12) (hb : b < 12) :
    Calls Tryd.prog 68 #[.pointer (some ⟨g, 0, none⟩), .int .i64 (a : Int), .int .i64 (b : Int)] w fun e w' => e = .returned (.bool (lk W a b)) ∧ w' = w := by
  have c0 := h.cell a ha
  have hl := h.lt a
  obtain ⟨V, hV⟩ : ∃ V, W.getD a 0 = V := ⟨_, rfl⟩
  have hR : lk W a b = V.testBit b := by unfold lk; rw [hV]
  rw [hV] at c0 hl
  have hB := bit_u16 hl b
  rw [← hR] at hB
  obtain ⟨R, hRR⟩ : ∃ R, lk W a b = R := ⟨_, rfl⟩
  rw [hRR] at hB ⊢
  have q0 : (0 : Int) ≤ (a : Int) := by omega
  have q1 : (a : Int) < 12 := by omega
  have q2 : (0 : Int) ≤ (b : Int) := by omega
  clear h hV hR hRR ha hl
  go_enter Tryd.func68, Tryd.ntmps68
  go_wp2_with fail
  go_ret
  exact ⟨rfl, rfl⟩

theorem wider_step (W : List Nat) (s k : Nat) : (s.testBit k = true → widK W s (k + 1) = widK W s k ||| W.getD k 0) ∧ (s.testBit k = false → widK W s (k + 1) = widK W s k) := by
  constructor
  · intro h; rw [widK, if_pos h]
  · intro h; rw [widK, if_neg (by rw [h]; decide)]
theorem widK_u16 {W : List Nat} (hW : ∀ q, W.getD q 0 < 65536) {s : Nat} (hs : s < 65536) (k : Nat) : widK W s k < 65536 := by
  induction k with
  | zero => exact hs
  | succ k ih =>
    unfold widK
    split
    · exact Nat.or_lt_two_pow (n := 16) ih (hW k)
    · exact ih

set_option maxRecDepth 100000 in
set_option maxHeartbeats 2000000 in
theorem wider_any (W : List Nat) (g s : Nat) (w : World) (h : WebAt w g W) (hs : s < 65536) :
    Calls Tryd.prog 69 #[.pointer (some ⟨g, 0, none⟩), .int .u16 (s : Int)] w fun e w' => e = .returned (.int .u16 (wid W s : Nat)) ∧ Ext w w' := by
  have Hw := Lib.hid h; have Hs := Lib.hid hs
  clear h hs
  go_enter Tryd.func69, Tryd.ntmps69
  go_wp2_with fail
  go_loopg [5, 6, 7, 10] 12 (fun kk s5 s6 s7 s10 wr => ∃ i : Nat, s10 = .int .i64 (i : Int) ∧ s5 = .int .u16 (widK W s i : Nat) ∧ i ≤ 12 ∧ 12 - i = kk ∧ Ext w wr)
  case atStart => exact ⟨0, rfl, rfl, Nat.zero_le _, rfl, Ext.refl _⟩
  case round =>
    obtain ⟨i, rfl, rfl, hi, hk, hE⟩ := hrel
    have HE := Lib.hid hE; have Hk := Lib.hid hk
    by_cases hin : i = 12
    · subst hin
      clear hi hk hE
      go_wp2_with fail
      go_ret
      exact ⟨rfl, HE.out⟩
    have hlt : i < 12 := by omega
    have Hlt := Lib.hid hlt
    have q1 : (i : Int) < 12 := by omega
    have q0 : (0 : Int) ≤ (i : Int) := by omega
    have wk : IntKind.i64.wrap ((i : Int) + 1) = ((i + 1 : Nat) : Int) := by rw [IntKind.wrap_i64]; omega
    have c0 := cell_ext (Hw.out.cell i hlt) hE
    have hst := wider_step W s i
    have b1 := widK_u16 Hw.out.lt Hs.out i
    have b2 := Hw.out.lt i
    obtain ⟨V, hV⟩ : ∃ V, W.getD i 0 = V := ⟨_, rfl⟩
    obtain ⟨C, hC⟩ : ∃ C, widK W s i = C := ⟨_, rfl⟩
    rw [hV, hC] at hst
    rw [hV] at c0 b2
    rw [hC] at b1 ⊢
    have ho := or_u16 b1 b2
    obtain ⟨O, hO⟩ : ∃ O, C ||| V = O := ⟨_, rfl⟩
    rw [hO] at ho hst
    have hB := bit_u16 Hs.out i
    obtain ⟨T, hT⟩ : ∃ T, s.testBit i = T := ⟨_, rfl⟩
    rw [hT] at hB hst
    have Hst := Lib.hid hst
    clear hst b1 b2 hV hC hO hT hin hi hE hk hlt
    cases T
    · have Hn := Lib.hid (Hst.out.2 rfl)
      clear Hst ho
      go_upto_region 4 with fail
      go_quiet (fail)
      go_wp2_with fail
      go_roundg (12 - (i + 1))
      case measure => have := Hk.out; have := Hlt.out; omega
      case rel => exact ⟨i + 1, rfl, by rw [Hn.out], Hlt.out, rfl, HE.out.trans (ext_drewN wr _)⟩
    · have Hn := Lib.hid (Hst.out.1 rfl)
      clear Hst
      go_upto_region 4 with fail
      go_quiet (fail)
      go_wp2_with fail
      go_roundg (12 - (i + 1))
      case measure => have := Hk.out; have := Hlt.out; omega
      case rel => exact ⟨i + 1, rfl, by rw [Hn.out], Hlt.out, rfl, HE.out.trans (ext_drewN wr _)⟩

set_option maxRecDepth 100000 in
set_option maxHeartbeats 2000000 in
theorem reached_any (W : List Nat) (g N : Nat) (w : World) (h : WebAt w g W) (hN1 : 1 ≤ N) (hN : N ≤ 12) :
    Calls Tryd.prog 49 #[.pointer (some ⟨g, 0, none⟩), .int .i64 (N : Int)] w fun e w' => e = .returned (.int .u16 (bal W 1 (N - 1) : Nat)) ∧ Ext w w' := by
  have Hw := Lib.hid h
  obtain ⟨M, hM⟩ : ∃ M, N - 1 = M := ⟨_, rfl⟩
  have wm : IntKind.i64.wrap ((N : Int) - 1) = (M : Int) := by rw [IntKind.wrap_i64]; omega
  rw [hM]
  have HM := Lib.hid (show M ≤ 11 by omega)
  have Hu := Lib.hid (show ∀ i, bal W 1 i < 65536 from fun i => by
    induction i with
    | zero => show (1 : Nat) < 65536; decide
    | succ i ih => exact widK_u16 h.lt ih 12)
  clear h hM hN1 hN
  go_enter Tryd.func49, Tryd.ntmps49
  go_wp2_with fail
  go_loopg [5, 8] M (fun kk s5 s8 wr => ∃ i : Nat, s8 = .int .i64 (i : Int) ∧ s5 = .int .u16 (bal W 1 i : Nat) ∧ i ≤ M ∧ M - i = kk ∧ Ext w wr)
  case atStart => exact ⟨0, rfl, rfl, Nat.zero_le _, rfl, Ext.refl _⟩
  case round =>
    obtain ⟨i, rfl, rfl, hi, hk, hE⟩ := hrel
    have HE := Lib.hid hE; have Hk := Lib.hid hk
    by_cases hin : i = M
    · subst hin
      have q1 : ¬ (i : Int) < (i : Int) := by omega
      clear hi hk hE
      go_wp2_with fail
      go_ret
      exact ⟨rfl, HE.out⟩
    have hlt : i < M := by omega
    have Hlt := Lib.hid hlt
    have q1 : (i : Int) < (M : Int) := by omega
    have wk : IntKind.i64.wrap ((i : Int) + 1) = ((i + 1 : Nat) : Int) := by rw [IntKind.wrap_i64]; have := HM.out; omega
    have HC := Lib.hid (wider_any W g (bal W 1 i) wr (Hw.out.ext hE) (Hu.out i))
    clear hi hk hE hin hlt
    go_wp2_with fail
    refine HC.out.mono ?_
    rintro e w2 ⟨rfl, hx⟩
    have HE2 := Lib.hid (HE.out.trans hx)
    clear hx HC
    go_wp2_with fail
    go_roundg (M - (i + 1))
    case measure => have := Hk.out; have := Hlt.out; omega
    case rel => exact ⟨i + 1, rfl, rfl, Hlt.out, rfl, HE2.out⟩
end Go.Proofs.YtlokfalkhgjlbaaDoor
namespace Go.Proofs.YtlokfalkhgjlbaaDoor
abbrev Lnk := Int × Int
/-- Are two qubits linked? -/
def lkd (ls : List Lnk) (a b : Int) : Bool := ls.any fun k => (k.1 == a && k.2 == b) || (k.1 == b && k.2 == a)
/-- What is wrong with a link behind others. -/
def lnkC (N : Int) (seen : List Lnk) (k : Lnk) : Int :=
  if k.1 < 0 ∨ N ≤ k.1 ∨ k.2 < 0 ∨ N ≤ k.2 then 10 else if k.1 = k.2 then 12 else if lkd seen k.1 k.2 then 27 else 0
/-- The first fault of links from number i on. -/
def lnF (N : Int) (ls : List Lnk) : Nat → Nat → Int × Int
  | 0, _ => (0, 0)
  | r + 1, i => if lnkC N (ls.take i) (ls.getD i (0, 0)) ≠ 0 then (lnkC N (ls.take i) (ls.getD i (0, 0)), (i : Int)) else lnF N ls r (i + 1)
def addL (W : List Nat) (k : Lnk) : List Nat := (W.set k.1.toNat (W.getD k.1.toNat 0 ||| 2 ^ k.2.toNat)).set k.2.toNat ((W.set k.1.toNat (W.getD k.1.toNat 0 ||| 2 ^ k.2.toNat)).getD k.2.toNat 0 ||| 2 ^ k.1.toNat)
/-- Of each qubit those that it is linked to. -/
def webOf (ls : List Lnk) : List Nat := ls.foldl addL (List.replicate 12 0)
def lnOk (N : Int) (ls : List Lnk) (n : Nat) : Prop := ∀ i, i < n → lnkC N (ls.take i) (ls.getD i (0, 0)) = 0
theorem lnF_zero (N : Int) (ls : List Lnk) : ∀ r i, (lnF N ls r i).1 = 0 → lnF N ls r i = (0, 0) ∧ ∀ j, i ≤ j → j < i + r → lnkC N (ls.take j) (ls.getD j (0, 0)) = 0
  | 0, i, _ => ⟨rfl, fun j h1 h2 => by omega⟩
  | r + 1, i, h => by
    unfold lnF at h ⊢
    by_cases e : lnkC N (ls.take i) (ls.getD i (0, 0)) ≠ 0
    · rw [if_pos e] at h; exact absurd h e
    · rw [if_neg e] at h ⊢
      obtain ⟨h1, h2⟩ := lnF_zero N ls r (i + 1) h
      refine ⟨h1, fun j hj hk => ?_⟩
      by_cases e2 : j = i
      · subst e2; omega
      · exact h2 j (by omega) (by omega)
theorem lnkC_zero {N : Int} {seen : List Lnk} {k : Lnk} (h : lnkC N seen k = 0) : (0 ≤ k.1 ∧ k.1 < N) ∧ (0 ≤ k.2 ∧ k.2 < N) ∧ k.1 ≠ k.2 ∧ lkd seen k.1 k.2 = false := by
  unfold lnkC at h
  split at h
  · omega
  split at h
  · omega
  split at h
  · omega
  rename_i h1 h2 h3
  exact ⟨by omega, by omega, h2, by simpa using h3⟩
theorem addL_len (W : List Nat) (k : Lnk) : (addL W k).length = W.length := by unfold addL; simp
theorem getD_set (W : List Nat) (i j v : Nat) (hi : i < W.length) : (W.set i v).getD j 0 = if i = j then v else W.getD j 0 := by
  rw [List.getD_eq_getElem?_getD, List.getElem?_set, List.getD_eq_getElem?_getD]
  by_cases e : i = j
  · rw [if_pos e, if_pos hi, if_pos e]; rfl
  · rw [if_neg e, if_neg e]
theorem addL_lk (W : List Nat) (k : Lnk) (h1 : k.1.toNat < W.length) (h2 : k.2.toNat < W.length) (x y : Nat) : lk (addL W k) x y = (lk W x y || (x == k.1.toNat && y == k.2.toNat) || (x == k.2.toNat && y == k.1.toNat)) := by
  unfold lk addL
  rw [getD_set _ _ _ _ (by simpa using h2), getD_set _ _ _ _ h1, getD_set _ _ _ _ h1]
  obtain ⟨a, b⟩ := k
  simp only at *
  generalize a.toNat = a at *
  generalize b.toNat = b at *
  have t1 : ∀ i j : Nat, (2 ^ i).testBit j = (j == i) := fun i j => by
    rw [Nat.testBit_two_pow]
    by_cases e : i = j
    · subst e; simp
    · have : ¬ j = i := fun h => e h.symm
      simp [e, this]
  by_cases ex1 : b = x
  · subst ex1
    rw [if_pos rfl, Nat.testBit_or, t1]
    by_cases ex2 : a = b
    · subst ex2
      rw [if_pos rfl, Nat.testBit_or, t1]
      simp
    · rw [if_neg ex2]
      have : (b == a) = false := by simpa using fun h : b = a => ex2 h.symm
      simp [this]
  · have hx : (x == b) = false := by simpa using fun h : x = b => ex1 h.symm
    rw [if_neg ex1, hx]
    by_cases ex2 : a = x
    · subst ex2
      rw [if_pos rfl, Nat.testBit_or, t1]
      simp
    · have hx2 : (x == a) = false := by simpa using fun h : x = a => ex2 h.symm
      rw [if_neg ex2, hx2]
      simp
theorem take_snoc {ls : List Lnk} {i : Nat} (h : i < ls.length) : ls.take (i + 1) = ls.take i ++ [ls.getD i (0, 0)] := by
  rw [List.take_add_one, List.getElem?_eq_getElem h, List.getD_eq_getElem?_getD, List.getElem?_eq_getElem h]; rfl
theorem webOf_snoc (ls : List Lnk) (k : Lnk) : webOf (ls ++ [k]) = addL (webOf ls) k := by unfold webOf; rw [List.foldl_append]; rfl
theorem lkd_snoc (ls : List Lnk) (k : Lnk) (a b : Int) : lkd (ls ++ [k]) a b = (lkd ls a b || ((k.1 == a && k.2 == b) || (k.1 == b && k.2 == a))) := by unfold lkd; rw [List.any_append]; simp
theorem lk_zero (x y : Nat) : lk (List.replicate 12 0) x y = false := by
  unfold lk
  rw [List.getD_eq_getElem?_getD, List.getElem?_replicate]
  split <;> simp
/-- The web tells the links. -/
theorem web_tells {N : Int} (hN : N ≤ 12) (ls : List Lnk) : ∀ i, i ≤ ls.length → lnOk N ls i → (webOf (ls.take i)).length = 12 ∧ ∀ x y : Nat, lk (webOf (ls.take i)) x y = lkd (ls.take i) (x : Int) (y : Int)
  | 0, _, _ => ⟨by simp [webOf], fun x y => by rw [List.take_zero]; exact lk_zero x y⟩
  | i + 1, hi, hok => by
    obtain ⟨h1, h2⟩ := web_tells hN ls i (by omega) (fun j hj => hok j (by omega))
    obtain ⟨⟨a1, a2⟩, ⟨b1, b2⟩, _, _⟩ := lnkC_zero (hok i (by omega))
    rw [take_snoc (by omega)]
    obtain ⟨k, hk⟩ : ∃ k, ls.getD i (0, 0) = k := ⟨_, rfl⟩
    rw [hk] at a1 a2 b1 b2 ⊢
    refine ⟨by rw [webOf_snoc, addL_len, h1], fun x y => ?_⟩
    rw [webOf_snoc, addL_lk _ _ (by omega) (by omega), lkd_snoc, h2, Bool.or_assoc]
    have e1 : ∀ (z : Nat) (c : Int), 0 ≤ c → (z == c.toNat) = (c == (z : Int)) := fun z c hc => by
      by_cases e : c = (z : Int)
      · subst e; simp
      · have : ¬ z = c.toNat := by omega
        rw [beq_eq_false_iff_ne.2 this, beq_eq_false_iff_ne.2 e]
    rw [e1 _ _ a1, e1 _ _ b1, e1 _ _ a1, e1 _ _ b1]
    cases lkd (ls.take i) (x : Int) (y : Int) <;> cases (k.1 == (x : Int)) <;> cases (k.2 == (y : Int)) <;> cases (k.1 == (y : Int)) <;> cases (k.2 == (x : Int)) <;> rfl
theorem lkd_mem {ls : List Lnk} {a b : Int} (h : lkd ls a b = true) : ∃ i, i < ls.length ∧ ((ls.getD i (0, 0)).1 = a ∧ (ls.getD i (0, 0)).2 = b ∨ (ls.getD i (0, 0)).1 = b ∧ (ls.getD i (0, 0)).2 = a) := by
  unfold lkd at h
  obtain ⟨k, hk, e⟩ := List.any_eq_true.1 h
  obtain ⟨i, hi, rfl⟩ := List.mem_iff_getElem.1 hk
  refine ⟨i, hi, ?_⟩
  rw [List.getD_eq_getElem?_getD, List.getElem?_eq_getElem hi]
  simpa using e
theorem lkd_comm (ls : List Lnk) (a b : Int) : lkd ls a b = lkd ls b a := by
  unfold lkd
  congr 1
  funext k
  exact Bool.or_comm _ _
theorem web_ok {N : Int} (h1 : 1 ≤ N) (hN : N ≤ 12) (ls : List Lnk) (hok : lnOk N ls ls.length) : WebOk (webOf ls) N.toNat ∧ ∀ x y : Nat, lk (webOf ls) x y = lkd ls (x : Int) (y : Int) := by
  obtain ⟨hl, ht⟩ := web_tells hN ls ls.length (Nat.le_refl _) hok
  rw [List.take_length] at hl ht
  refine ⟨⟨hl, by omega, fun a b h => ?_, fun a b h => ?_⟩, ht⟩
  · rw [ht] at h
    obtain ⟨i, hi, e⟩ := lkd_mem h
    obtain ⟨p1, p2, p3, _⟩ := lnkC_zero (hok i hi)
    omega
  · rw [ht] at h ⊢
    rw [lkd_comm]; exact h
/-- The first fault of a device. -/
def devF (N : Int) (ls : List Lnk) : Int × Int :=
  if N < 1 ∨ 12 < N then (6, 0)
  else if (lnF N ls ls.length 0).1 ≠ 0 then lnF N ls ls.length 0
  else if bal (webOf ls) 1 (N.toNat - 1) = 2 ^ N.toNat - 1 then (0, 0)
  else (37, 0)
/-- A device without a fault. -/
structure DevOk (N : Int) (ls : List Lnk) : Prop where
  n1 : 1 ≤ N
  n12 : N ≤ 12
  web : WebOk (webOf ls) N.toNat
  tells : ∀ x y : Nat, lk (webOf ls) x y = lkd ls (x : Int) (y : Int)
  conn : Conn (webOf ls) N.toNat
theorem dev_ok {N : Int} {ls : List Lnk} (h : (devF N ls).1 = 0) : DevOk N ls ∧ devF N ls = (0, 0) := by
  unfold devF at h ⊢
  by_cases h1 : N < 1 ∨ 12 < N
  · rw [if_pos h1] at h; exact absurd h (by decide)
  rw [if_neg h1] at h ⊢
  by_cases h2 : (lnF N ls ls.length 0).1 ≠ 0
  · rw [if_pos h2] at h; exact absurd h h2
  rw [if_neg h2] at h ⊢
  by_cases h3 : bal (webOf ls) 1 (N.toNat - 1) = 2 ^ N.toNat - 1
  · obtain ⟨_, h4⟩ := lnF_zero N ls ls.length 0 (by omega)
    obtain ⟨h5, h6⟩ := web_ok (by omega) (by omega) ls (fun j hj => h4 j (Nat.zero_le _) (by omega))
    rw [if_pos h3]
    exact ⟨⟨by omega, by omega, h5, h6, (reached_iff h5 (by omega)).1 h3⟩, rfl⟩
  · rw [if_neg h3] at h; exact absurd h (by decide)
end Go.Proofs.YtlokfalkhgjlbaaDoor
