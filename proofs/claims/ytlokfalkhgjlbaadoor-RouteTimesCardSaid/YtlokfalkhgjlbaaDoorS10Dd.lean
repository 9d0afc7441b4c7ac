/-
  Schedule, as the program does it. Whether two lists share a place; when operations begin, as the reference reckons it. The reference's SameInts and SameCircuit, of alike lists and circuits.
-/
import Derived.Test.YtlokfalkhgjlbaaDoorProg
import Derived.Test.YtlokfalkhgjlbaaDoorRows
import Derived.BigQuiet
import Derived.Deep.AppendLies
import Derived.Deep.Cut
import Derived.Deep.CutRange
import Derived.Deep.LoopGhost
import Derived.Deep.QuietTactic
import Derived.Deep.RegionHeld3
import Derived.Deep.Slices
import Derived.Ground.Names2Prog
import Derived.Laws.Bits64b
import Derived.Laws.CopyOwn
import Derived.Laws.ResultCell
import Derived.Lib.AppendZeros
import Derived.Lib.BitFns
import Derived.Lib.Hide
import Derived.Lib.ItoaMem
import Derived.Lib.ItoaNum
import Derived.Lib.MinMax
import Derived.Lib.Strings
import Derived.Lib.TrailingZeros
import Derived.Maps.AppendAt
import Derived.OrdersHeld
import Derived.OrdersIn
import Derived.OwnWalk
import Derived.ProofKit
import Derived.RangeFuncCalls
import Derived.RangeFuncFrom
import Derived.RegionTactic
import Derived.Shelf.Slices.Clone
import Derived.Shelf.Slices.Turned
import Derived.Shelf.Spec.TrailingZeros
import Derived.SizedLaws
import Derived.WalkKit
import Derived.WalkLawsBesides
import Derived.WalkSpells
import Derived.Test.YtlokfalkhgjlbaaDoorS00Ce
import Derived.Test.YtlokfalkhgjlbaaDoorS01Cj
import Derived.Test.YtlokfalkhgjlbaaDoorShelf
import Derived.Test.YtlokfalkhgjlbaaDoorS03Ma
import Derived.Test.YtlokfalkhgjlbaaDoorS04Mg
import Derived.Test.YtlokfalkhgjlbaaDoorS05Mm
import Derived.Test.YtlokfalkhgjlbaaDoorS06Mn
import Derived.Test.YtlokfalkhgjlbaaDoorS07Ms
import Derived.Test.YtlokfalkhgjlbaaDoorS08Cu
import Derived.Test.YtlokfalkhgjlbaaDoorS09Oi
namespace Go.Proofs.YtlokfalkhgjlbaaDoor
open Go.RowKit

/-- The fault that a circuit and times give. -/
def skF (c : Gci) (t : Tms) : Int × Int := if (chk c).1 ≠ 0 then chk c else if (bsF c.ops c.ops.length 0).1 ≠ 0 then bsF c.ops c.ops.length 0 else tmF t
theorem tm_bd {t : Tms} (h : (tmF t).1 = 0) : tmF t = (0, 0) ∧ (0 ≤ t.a ∧ t.a ≤ 1000000) ∧ (0 ≤ t.b ∧ t.b ≤ 1000000) ∧ (0 ≤ t.c ∧ t.c ≤ 1000000) ∧ (0 ≤ t.d ∧ t.d ≤ 1000000) := by
  unfold tmF at h ⊢
  by_cases h1 : tmB t.a
  · rw [if_pos h1] at h; exact absurd h (by show ¬ (29 : Int) = 0; decide)
  rw [if_neg h1] at h ⊢
  by_cases h2 : tmB t.b
  · rw [if_pos h2] at h; exact absurd h (by show ¬ (29 : Int) = 0; decide)
  rw [if_neg h2] at h ⊢
  by_cases h3 : tmB t.c
  · rw [if_pos h3] at h; exact absurd h (by show ¬ (29 : Int) = 0; decide)
  rw [if_neg h3] at h ⊢
  by_cases h4 : tmB t.d
  · rw [if_pos h4] at h; exact absurd h (by show ¬ (29 : Int) = 0; decide)
  rw [if_neg h4] at h ⊢
  unfold tmB at h1 h2 h3 h4
  exact ⟨rfl, by omega, by omega, by omega, by omega⟩
theorem lst_bd {t : Tms} (h : (tmF t).1 = 0) (o : Gop) : 0 ≤ lst t o ∧ lst t o ≤ 1000000 := by
  obtain ⟨_, h1, h2, h3, h4⟩ := tm_bd h
  unfold lst
  split
  · exact h3
  · split
    · exact h4
    · split
      · exact h2
      · exact h1
theorem lstR_bd {t : Tms} (h : (tmF t).1 = 0) (o : Gop) : 0 ≤ lstR t o ∧ lstR t o ≤ 1000000 := by
  obtain ⟨_, h1, h2, h3, h4⟩ := tm_bd h
  unfold lstR
  split
  · exact h4
  · split
    · exact h3
    · split
      · exact h2
      · exact h1

set_option maxRecDepth 100000 in
set_option maxHeartbeats 16000000 in
theorem Schedule_any (c : Gci) (t : Tms) (ao : Option Addr) (n cp : Nat) (w : World) (h : OpsAt w ao n c.ops) (hn : n ≤ cp) (hcp : cp ≤ 9223372036854775807) (hS : Shp w) :
    Calls Tryd.prog 25 #[.agg #[.int .i64 c.qubits, .int .i64 c.bits, .slice ao n cp], .agg #[.int .i64 t.a, .int .i64 t.b, .int .i64 t.c, .int .i64 t.d]] w fun e w' => ∃ (a : Option Addr) (m cc : Nat) (l : List Int) (last : Int), e = .returned (.tuple #[.slice a m cc, .int .i64 last, .agg #[.int .i64 (skF c t).1, .int .i64 (skF c t).2]]) ∧ m ≤ cc ∧ cc ≤ maxLen ∧ IntsAt w' a m l ∧ Ext w w' ∧ ((skF c t).1 ≠ 0 → l = [] ∧ last = 0) ∧ ((skF c t).1 = 0 → l = (pc (lst t) c.ops).2.1 ∧ last = (pc (lst t) c.ops).2.2) := by
  obtain ⟨qb, bi, ops⟩ := c
  simp only at h ⊢
  obtain ⟨f, hf⟩ : ∃ f, chk ⟨qb, bi, ops⟩ = f := ⟨_, rfl⟩
  obtain ⟨f0, f1⟩ := f
  have hn0 : ops.length = n := h.1
  have hzero : f0 = 0 → n ≤ 4096 ∧ (∀ g ∈ ops, LvFit g) := fun h0 => by
    have hc : (chk ⟨qb, bi, ops⟩).1 = 0 := by rw [hf]; exact h0
    obtain ⟨_, h1, h2, h3, h4, h5, h6⟩ := chk_zero hc
    exact ⟨by rw [← hn0]; exact h5, fun g hg => (fit_of_code h2 h3 h4 (h6 g hg)).1⟩
  obtain ⟨s, hs⟩ : ∃ s, bsF ops n 0 = s := ⟨_, rfl⟩
  obtain ⟨s0, s1⟩ := s
  obtain ⟨x, hx⟩ : ∃ x, tmF t = x := ⟨_, rfl⟩
  obtain ⟨x0, x1⟩ := x
  have hF : skF ⟨qb, bi, ops⟩ t = if f0 ≠ 0 then (f0, f1) else if s0 ≠ 0 then (s0, s1) else (x0, x1) := by
    unfold skF
    rw [hf]
    simp only
    rw [hn0, hs, hx]
  have hlb : x0 = 0 → x1 = 0 ∧ ∀ o, 0 ≤ lst t o ∧ lst t o ≤ 1000000 := fun e => ⟨by have := (tm_bd (t := t) (by rw [hx]; exact e)).1; rw [hx] at this; exact congrArg Prod.snd this, lst_bd (by rw [hx]; exact e)⟩
  obtain ⟨H, hH⟩ : ∃ H, w.heap.size = H := ⟨_, rfl⟩
  obtain ⟨W0, hW0⟩ : ∃ W0, ((w.alloc (.cells #[.int .i64 qb, .int .i64 bi, .slice ao n cp] 34)).alloc (.cells #[.int .i64 t.a, .int .i64 t.b, .int .i64 t.c, .int .i64 t.d] 65)).alloc (.cells #[.int .i64 0, .int .i64 0] 27) = W0 := ⟨_, rfl⟩
  have E0 : Ext w W0 := by rw [← hW0]; exact ((ext_al w _).trans (ext_al _ _)).trans (ext_al _ _)
  have bC : CiB W0 H qb bi ao n cp := by rw [← hW0, ← hH]; exact (CiB.ext ⟨heap_alloc_new w _⟩ (ext_al _ _)).ext (ext_al _ _)
  have bT : TmB W0 (H + 1) t := by
    have h1 := heap_alloc_new (w.alloc (.cells #[.int .i64 qb, .int .i64 bi, .slice ao n cp] 34)) (.cells #[.int .i64 t.a, .int .i64 t.b, .int .i64 t.c, .int .i64 t.d] 65)
    have h2 := ext_al ((w.alloc (.cells #[.int .i64 qb, .int .i64 bi, .slice ao n cp] 34)).alloc (.cells #[.int .i64 t.a, .int .i64 t.b, .int .i64 t.c, .int .i64 t.d] 65)) (.cells #[.int .i64 0, .int .i64 0] 27)
    have h3 := (h2.block _ (Array.getElem?_eq_some_iff.1 h1).1).trans h1
    rw [hW0] at h3
    exact ⟨by simpa [hH] using h3⟩
  have bF : FtB W0 (H + 2) 0 0 := by
    have h1 := heap_alloc_new ((w.alloc (.cells #[.int .i64 qb, .int .i64 bi, .slice ao n cp] 34)).alloc (.cells #[.int .i64 t.a, .int .i64 t.b, .int .i64 t.c, .int .i64 t.d] 65)) (.cells #[.int .i64 0, .int .i64 0] 27)
    rw [hW0] at h1
    exact ⟨by simpa [hH] using h1⟩
  have HF0 := Lib.hid hF; have Hf := Lib.hid hf; have Hs := Lib.hid hs; have Hx := Lib.hid hx; have Hzero := Lib.hid hzero; have Hn0 := Lib.hid hn0; have Hlb := Lib.hid hlb
  have HEU := Lib.hid E0; have Hh := Lib.hid h; have HCU := Lib.hid bC; have HTU := Lib.hid bT; have HFU := Lib.hid bF; have HS := Lib.hid hS
  have HH := Lib.hid hH; have HW0 := Lib.hid hW0; have HwH2 := Lib.hid (show w.heap.size ≤ H + 2 by omega)
  have m0 := bC.x0; have m1 := bC.x1; have m2 := bC.x2
  clear h hS E0 bC bT bF hF hf hs hx hH hW0 hzero hn0 hlb
  go_enter Tryd.func25, Tryd.ntmps25
  go_upto_region 1 with fail
  rw [HW0.out, HH.out, show H + 1 + 1 = H + 2 from rfl]
  have HK := Lib.hid (Check_any ⟨qb, bi, ops⟩ ao n cp W0 (Hh.out.ext HEU.out) hn hcp (HS.out.ext HEU.out))
  rw [Hf.out] at HK
  go_wp2_with fail
  refine HK.out.mono ?_
  rintro e w1 ⟨rfl, hx1⟩
  obtain ⟨K, hK⟩ : ∃ K, w1.heap.size = K := ⟨_, rfl⟩
  obtain ⟨U, hU⟩ : ∃ U, w1.alloc (.cells #[.int .i64 f0, .int .i64 f1] 27) = U := ⟨_, rfl⟩
  have EU : Ext w1 U := by rw [← hU]; exact ext_al _ _
  have bf : FtB U K f0 f1 := by rw [← hU, ← hK]; exact ⟨heap_alloc_new w1 _⟩
  have HX := Lib.hid (hx1.trans EU)
  have hKs : H + 2 < K := by have := HFU.out.lt; have := hx1.size; omega
  have HKs := Lib.hid hKs; have HKU := Lib.hid hK; have HU := Lib.hid hU
  have q0 := bf.x0; have q1 := bf.x1
  have HC' := Lib.hid (HCU.out.ext HX.out); have HT' := Lib.hid (HTU.out.ext HX.out); have HF' := Lib.hid (HFU.out.ext HX.out); have HE' := Lib.hid (HEU.out.trans HX.out)
  clear m0 m1 m2 hx1 EU bf hK hU HK hKs HCU HTU HFU HEU HX
  have HCU := HC'; have HTU := HT'; have HFU := HF'; have HEU := HE'
  clear HC' HT' HF' HE'
  by_cases hz : f0 ≠ 0
  · have hcb := nt hz
    have HF := Lib.hid (show skF ⟨qb, bi, ops⟩ t = (f0, f1) by rw [HF0.out, if_pos hz])
    have Hz := Lib.hid hz
    have ne4 : K ≠ H + 2 := by have := HKs.out; omega
    have ne5 : H + 2 ≠ K := by have := HKs.out; omega
    have y0 := HFU.out.x0; have y1 := HFU.out.x1; have h0 := HFU.out.f 0; have h1 := HFU.out.f 1
    clear hz
    go_upto_region 3 with fail
    rw [HU.out, HKU.out]
    go_region
    go_wp2_with fail
    exact bodyPost_ret (v := .tuple #[.slice none 0 0, .int .i64 0, .agg #[.int .i64 f0, .int .i64 f1]]) (by simp [results, Tryd.results25, go_sem, y0, y1]) rfl ⟨none, 0, 0, [], 0, by rw [HF.out], Nat.le_refl _, Nat.zero_le _, ⟨rfl, Or.inl rfl⟩, Below.drew (put2x HEU.out HwH2.out _ _), fun _ => ⟨rfl, rfl⟩, fun e => absurd (by rw [HF.out] at e; exact e) Hz.out⟩
  have hz0 : f0 = 0 := by omega
  have hcb := nf' hz0
  have HF1 := Lib.hid (show skF ⟨qb, bi, ops⟩ t = if s0 ≠ 0 then (s0, s1) else (x0, x1) by rw [HF0.out, if_neg hz])
  have Hz4 := Lib.hid (Hzero.out hz0)
  clear hz hz0 HF0 Hzero
  go_upto_region 4 with fail
  rw [HU.out, HKU.out]
  clear HU HKU q0 q1 hcb
  have m2 := HCU.out.x2
  have HK := Lib.hid (basic_any ops ao n cp U (Hh.out.ext HEU.out) Hz4.out.1)
  rw [Hs.out] at HK
  go_wp2_with fail
  refine HK.out.mono ?_
  rintro e w1 ⟨rfl, hx1⟩
  obtain ⟨K2, hK⟩ : ∃ K, w1.heap.size = K := ⟨_, rfl⟩
  obtain ⟨U2, hU⟩ : ∃ U, w1.alloc (.cells #[.int .i64 s0, .int .i64 s1] 27) = U := ⟨_, rfl⟩
  have EU : Ext w1 U2 := by rw [← hU]; exact ext_al _ _
  have bf : FtB U2 K2 s0 s1 := by rw [← hU, ← hK]; exact ⟨heap_alloc_new w1 _⟩
  have HX := Lib.hid (hx1.trans EU)
  have hKs : H + 2 < K2 := by have := HFU.out.lt; have := hx1.size; omega
  have HKs' := Lib.hid hKs; have HKU := Lib.hid hK; have HU := Lib.hid hU
  have q0 := bf.x0; have q1 := bf.x1
  have HC' := Lib.hid (HCU.out.ext HX.out); have HT' := Lib.hid (HTU.out.ext HX.out); have HF' := Lib.hid (HFU.out.ext HX.out); have HE' := Lib.hid (HEU.out.trans HX.out)
  clear m2 HKs hx1 EU bf hK hU HK hKs HCU HTU HFU HEU HX
  have HCU := HC'; have HTU := HT'; have HFU := HF'; have HEU := HE'
  have HKs := HKs'
  clear HC' HT' HF' HE' HKs'
  by_cases hz : s0 ≠ 0
  · have hcb := nt hz
    have HF := Lib.hid (show skF ⟨qb, bi, ops⟩ t = (s0, s1) by rw [HF1.out, if_pos hz])
    have Hz := Lib.hid hz
    have ne4 : K2 ≠ H + 2 := by have := HKs.out; omega
    have ne5 : H + 2 ≠ K2 := by have := HKs.out; omega
    have y0 := HFU.out.x0; have y1 := HFU.out.x1; have h0 := HFU.out.f 0; have h1 := HFU.out.f 1
    clear hz
    go_upto_region 6 with fail
    rw [HU.out, HKU.out]
    go_region
    go_wp2_with fail
    exact bodyPost_ret (v := .tuple #[.slice none 0 0, .int .i64 0, .agg #[.int .i64 s0, .int .i64 s1]]) (by simp [results, Tryd.results25, go_sem, y0, y1]) rfl ⟨none, 0, 0, [], 0, by rw [HF.out], Nat.le_refl _, Nat.zero_le _, ⟨rfl, Or.inl rfl⟩, Below.drew (put2x HEU.out HwH2.out _ _), fun _ => ⟨rfl, rfl⟩, fun e => absurd (by rw [HF.out] at e; exact e) Hz.out⟩
  have hz0 : s0 = 0 := by omega
  have hcb := nf' hz0
  have HF2 := Lib.hid (show skF ⟨qb, bi, ops⟩ t = (x0, x1) by rw [HF1.out, if_neg hz])
  clear hz hz0 HF1
  go_upto_region 7 with fail
  rw [HU.out, HKU.out]
  clear HU HKU q0 q1 hcb
  have t0 := HTU.out.x0; have t1 := HTU.out.x1; have t2 := HTU.out.x2; have t3 := HTU.out.x3
  have HK := Lib.hid (checkTimes_any t U2)
  rw [Hx.out] at HK
  go_wp2_with fail
  refine HK.out.mono ?_
  rintro e w1 ⟨rfl, hx1⟩
  obtain ⟨K3, hK⟩ : ∃ K, w1.heap.size = K := ⟨_, rfl⟩
  obtain ⟨U3, hU⟩ : ∃ U, w1.alloc (.cells #[.int .i64 x0, .int .i64 x1] 27) = U := ⟨_, rfl⟩
  have EU : Ext w1 U3 := by rw [← hU]; exact ext_al _ _
  have bf : FtB U3 K3 x0 x1 := by rw [← hU, ← hK]; exact ⟨heap_alloc_new w1 _⟩
  have HX := Lib.hid (hx1.trans EU)
  have hKs : H + 2 < K3 := by have := HFU.out.lt; have := hx1.size; omega
  have HKs' := Lib.hid hKs; have HKU := Lib.hid hK; have HU := Lib.hid hU
  have q0 := bf.x0; have q1 := bf.x1
  have HC' := Lib.hid (HCU.out.ext HX.out); have HT' := Lib.hid (HTU.out.ext HX.out); have HF' := Lib.hid (HFU.out.ext HX.out); have HE' := Lib.hid (HEU.out.trans HX.out)
  clear t0 t1 t2 t3 HKs hx1 EU bf hK hU HK hKs HCU HTU HFU HEU HX
  have HCU := HC'; have HTU := HT'; have HFU := HF'; have HEU := HE'
  have HKs := HKs'
  clear HC' HT' HF' HE' HKs'
  by_cases hz : x0 ≠ 0
  · have hcb := nt hz
    have HF := Lib.hid (show skF ⟨qb, bi, ops⟩ t = (x0, x1) by exact HF2.out)
    have Hz := Lib.hid hz
    have ne4 : K3 ≠ H + 2 := by have := HKs.out; omega
    have ne5 : H + 2 ≠ K3 := by have := HKs.out; omega
    have y0 := HFU.out.x0; have y1 := HFU.out.x1; have h0 := HFU.out.f 0; have h1 := HFU.out.f 1
    clear hz
    go_upto_region 9 with fail
    rw [HU.out, HKU.out]
    go_region
    go_wp2_with fail
    exact bodyPost_ret (v := .tuple #[.slice none 0 0, .int .i64 0, .agg #[.int .i64 x0, .int .i64 x1]]) (by simp [results, Tryd.results25, go_sem, y0, y1]) rfl ⟨none, 0, 0, [], 0, by rw [HF.out], Nat.le_refl _, Nat.zero_le _, ⟨rfl, Or.inl rfl⟩, Below.drew (put2x HEU.out HwH2.out _ _), fun _ => ⟨rfl, rfl⟩, fun e => absurd (by rw [HF.out] at e; exact e) Hz.out⟩
  have hz0 : x0 = 0 := by omega
  have hcb := nf' hz0
  obtain ⟨hx1z, hlb⟩ := Hlb.out hz0
  have HF3 := Lib.hid (show skF ⟨qb, bi, ops⟩ t = (0, 0) by rw [HF2.out, hz0, hx1z])
  have HK := Lib.hid (schedule_any ops t ao n cp U3 (Hh.out.ext HEU.out) Hz4.out.1 Hz4.out.2 hlb)
  clear hz hz0 HF2 hx1z hlb
  go_upto_region 10 with fail
  rw [HU.out, HKU.out]
  clear HU HKU q0 q1 hcb
  have m2 := HCU.out.x2
  have t0 := HTU.out.x0; have t1 := HTU.out.x1; have t2 := HTU.out.x2; have t3 := HTU.out.x3
  go_wp2_with fail
  refine HK.out.mono ?_
  rintro e w1 ⟨⟨v', rfl, hown⟩, hx1⟩
  obtain ⟨a', c', rfl, g1, g2, g3, _⟩ := ints_of_own hown
  have bz := HFU.out.ext hx1
  have y0 := bz.x0; have y1 := bz.x1; have h0 := bz.f 0; have h1 := bz.f 1
  obtain ⟨Ls, hLs⟩ : ∃ x, (pc (lst t) ops).2.2 = x := ⟨_, rfl⟩
  rw [hLs]
  have HI := Lib.hid g3; have Hg := Lib.hid (And.intro g1 g2); have HEf := Lib.hid (HEU.out.trans hx1); have HLs := Lib.hid hLs
  have Hfar := Lib.hid (fun b o (e : a' = some ⟨b, o, none⟩) => show b ≠ H + 2 from fun q => by
    subst e
    have := (own_lt hown b (by simp [Value.ownBlock])).1
    have := HFU.out.lt
    omega)
  clear hx1 bz m2 t0 t1 t2 t3 hown g1 g2 g3 HK hLs
  go_wp2_with fail
  exact bodyPost_ret (v := .tuple #[.slice a' n c', .int .i64 Ls, .agg #[.int .i64 0, .int .i64 0]]) (by simp [results, Tryd.results25, go_sem, y0, y1]) rfl ⟨a', n, c', (pc (lst t) ops).2.1, Ls, by rw [HF3.out], Hg.out.1, Hg.out.2, (HI.out.putFar Hfar.out).putFar Hfar.out, put2x HEf.out HwH2.out _ _, fun e => absurd (by rw [HF3.out]) e, fun _ => ⟨rfl, HLs.out.symm⟩⟩

end Go.Proofs.YtlokfalkhgjlbaaDoor
namespace Go.Proofs.YtlokfalkhgjlbaaDoor
open Go.RowKit

set_option maxHeartbeats 1000000 in
theorem share_any (a1 : Option Addr) (n1 c1 : Nat) (L : List Int) (a2 : Option Addr) (n2 c2 : Nat) (M : List Int) (w : World) (h1 : IntsAt w a1 n1 L) (h2 : IntsAt w a2 n2 M) (hn1 : n1 ≤ 9223372036854775807) (hn2 : n2 ≤ c2) (hc2 : c2 ≤ 9223372036854775807) :
    Calls Tryd.prog 46 #[.slice a1 n1 c1, .slice a2 n2 c2] w fun e w' => e = .returned (.bool (shr L M)) ∧ w' = w := by
  obtain ⟨R, hR⟩ : ∃ R, shr L M = R := ⟨_, rfl⟩
  rw [hR]
  have HR := Lib.hid hR; have HL := Lib.hid h1; have Hl := Lib.hid h1.1
  have HM := Lib.hid (fun x => member_any a2 n2 c2 M x w h2 hn2 hc2)
  clear hR h1 h2 hn2 hc2
  go_enter Tryd.func46, Tryd.ntmps46
  go_wp2_with fail
  go_loopg [5] n1 (fun kk s5 wx => ∃ i : Nat, s5 = .int .i64 (i : Int) ∧ i ≤ n1 ∧ n1 - i = kk ∧ w = wx ∧ shr (L.take i) M = false)
  case atStart => exact ⟨0, rfl, by omega, by omega, rfl, rfl⟩
  case round =>
    obtain ⟨i, rfl, hi1, hk, rfl, hsh⟩ := hrel
    have Hsh := Lib.hid hsh
    clear hsh
    by_cases hin : i = n1
    · have q : ¬ (i : Int) < (n1 : Int) := by omega
      have HF := Lib.hid (show false = R by rw [← HR.out, ← Hsh.out, List.take_of_length_le (by rw [Hl.out]; omega)])
      clear hin
      go_wp2_with fail
      go_ret
      exact ⟨congrArg (fun b => Ending.returned (Value.bool b)) HF.out, rfl⟩
    · have q : (i : Int) < (n1 : Int) := by omega
      have q0 : (0 : Int) ≤ (i : Int) := by omega
      obtain ⟨b, o, rfl, hbl, hcell⟩ := HL.out.at (by omega)
      have hci := hcell i (by omega)
      obtain ⟨y, hy⟩ : ∃ y, L.getD i 0 = y := ⟨_, rfl⟩
      rw [hy] at hci
      have hst : L.take (i + 1) = L.take i ++ [y] := by rw [take_succ' L i (by rw [Hl.out]; omega), hy]
      have hyL : y ∈ L := by rw [← hy, List.getD_eq_getElem?_getD, List.getElem?_eq_getElem (by rw [Hl.out]; omega)]; exact List.getElem_mem _
      by_cases hm : y ∈ M
      · have HF := Lib.hid (show true = R by rw [← HR.out]; exact (shr_iff.2 ⟨y, hyL, hm⟩).symm)
        have HMy := Lib.hid (HM.out y)
        rw [dt hm] at HMy
        clear hcell hy hst hyL hm hbl HM
        go_wp2_with fail
        refine HMy.out.mono ?_
        rintro e wz ⟨rfl, rfl⟩
        go_wp2_with fail
        go_ret
        exact ⟨congrArg (fun b => Ending.returned (Value.bool b)) HF.out, rfl⟩
      · have hs2 : shr (L.take (i + 1)) M = false := by
          rw [hst]
          have := Hsh.out
          unfold shr at this ⊢
          rw [List.any_append, this]
          simp [hm]
        have Hs2 := Lib.hid hs2
        have HMy := Lib.hid (HM.out y)
        rw [df hm] at HMy
        clear hcell hy hst hyL hm hbl hs2
        go_wp2_with fail
        refine HMy.out.mono ?_
        rintro e wz ⟨rfl, rfl⟩
        go_wp2_with fail
        go_roundg (n1 - (i + 1))
        case measure => omega
        case rel => exact ⟨i + 1, by go_num, by omega, rfl, rfl, Hs2.out⟩

/-- Two rows that are apart. -/
def Aprt (v u : Value) : Prop := ∀ k, v.ownBlock = some k → u.ownBlock = some k → False
theorem Aprt.symm {v u : Value} (h : Aprt v u) : Aprt u v := fun k h1 h2 => h k h2 h1
theorem aprt_row {W W' : World} {u v : Value} {base n : Nat} {xs : List Value} {e : TypeId} (hu : W.ownsRow base e 1 u n xs) (hg : W.grownBy W' v.ownBlock) (hd : Aprt v u) : W'.ownsRow base e 1 u n xs :=
  own_keepR hu (fun g h1 => hg.block g (own_lt hu g h1).2 (fun h2 => hd g h2.symm h1))
theorem aprt_grown {W : World} {u v : Value} {base n : Nat} {xs : List Value} {e : TypeId} {v' : Value} (hu : W.ownsRow base e 1 u n xs) (hd : Aprt v u) (hat : v'.ownBlock = v.ownBlock ∨ v'.ownBlock = some W.heap.size) : Aprt v' u := by
  intro k h1 h2
  rcases hat with h | h
  · exact hd k (h.symm.trans h1) h2
  · have := (own_lt hu k h2).2
    rw [h] at h1
    injection h1 with h1
    omega
theorem CiB.grown {a w' : World} {v : Value} {base n size : Nat} {xs : List Value} {e : TypeId} {g : Nat} {qb bi : Int} {ao : Option Addr} {m cp : Nat} (hg : a.grownBy w' v.ownBlock) (ho : a.ownsRow base e size v n xs) (h : CiB a g qb bi ao m cp) (hb : g < base) : CiB w' g qb bi ao m cp :=
  ⟨(hg.block g (Array.getElem?_eq_some_iff.1 h.row).1 (fun e => by have := (own_lt ho g e.symm).1; omega)).trans h.row⟩
theorem sc_bound (P : Gop → List Int) (D : Gop → Int) (l : List Gop) (hD : ∀ o ∈ l, 0 ≤ D o ∧ D o ≤ 1000000) : (∀ p ∈ (sc P D l).2.1, 0 ≤ p.2 ∧ p.2 ≤ 1000000 * (l.length : Int)) ∧ 0 ≤ (sc P D l).2.2 ∧ (sc P D l).2.2 ≤ 1000000 * (l.length : Int) := by
  revert hD
  refine list_snoc_ind (p := fun l => (∀ o ∈ l, 0 ≤ D o ∧ D o ≤ 1000000) → (∀ p ∈ (sc P D l).2.1, 0 ≤ p.2 ∧ p.2 ≤ 1000000 * (l.length : Int)) ∧ 0 ≤ (sc P D l).2.2 ∧ (sc P D l).2.2 ≤ 1000000 * (l.length : Int)) (fun _ => ⟨(fun p hp => nomatch hp), Int.le_refl _, Int.le_refl _⟩) ?_ l
  intro l o ih hD
  obtain ⟨h1, h2, h3⟩ := ih (fun x hx => hD x (List.mem_append.2 (Or.inl hx)))
  have hd := hD o (by simp)
  rw [sc_snoc]
  unfold scS
  simp only [List.length_append, List.length_cons, List.length_nil]
  obtain ⟨b1, _, b3⟩ := frm_spec P o (sc P D l).2.1
  have hb : frm P (sc P D l).2.1 o ≤ 1000000 * (l.length : Int) := by
    rcases b3 with b3 | ⟨p, hp, _, e⟩
    · omega
    · have := h1 p hp; omega
  refine ⟨fun p hp => ?_, ?_⟩
  · rcases List.mem_append.1 hp with h | h
    · have := h1 p h; omega
    · rw [List.mem_singleton.1 h]
      simp only
      omega
  · split <;> omega

set_option maxHeartbeats 32000000 in
set_option maxRecDepth 100000 in
theorem Starts_any (c : Gci) (t : Tms) (ao : Option Addr) (n cp : Nat) (w : World) (h : OpsAt w ao n c.ops) (hn4 : n ≤ 4096) (hf : ∀ g ∈ c.ops, LvFit g) (hD : ∀ o, 0 ≤ lstR t o ∧ lstR t o ≤ 1000000) :
    Calls Tryd.prog 26 #[.agg #[.int .i64 c.qubits, .int .i64 c.bits, .slice ao n cp], .agg #[.int .i64 t.a, .int .i64 t.b, .int .i64 t.c, .int .i64 t.d]] w fun e w' => (∃ v' : Value, e = .returned (.tuple #[v', .int .i64 (sc plR (lstR t) c.ops).2.2]) ∧ w'.ownsRow (w.heap.size + 2) 3 1 v' n (iC (sc plR (lstR t) c.ops).1)) ∧ Ext w w' := by
  obtain ⟨i0, hi, hz0, hz1, hz2⟩ := info_parts i_info
  obtain ⟨qb, bi, ops⟩ := c
  simp only at h hf ⊢
  obtain ⟨H, hH⟩ : ∃ H, w.heap.size = H := ⟨_, rfl⟩
  obtain ⟨W0, hW0⟩ : ∃ W0, (w.alloc (.cells #[.int .i64 qb, .int .i64 bi, .slice ao n cp] 34)).alloc (.cells #[.int .i64 t.a, .int .i64 t.b, .int .i64 t.c, .int .i64 t.d] 65) = W0 := ⟨_, rfl⟩
  have E0 : Ext w W0 := by rw [← hW0]; exact (ext_al w _).trans (ext_al _ _)
  have bC : CiB W0 H qb bi ao n cp := by rw [← hW0, ← hH]; exact CiB.ext ⟨heap_alloc_new w _⟩ (ext_al _ _)
  have bT : TmB W0 (H + 1) t := ⟨by
    have := heap_alloc_new (w.alloc (.cells #[.int .i64 qb, .int .i64 bi, .slice ao n cp] 34)) (.cells #[.int .i64 t.a, .int .i64 t.b, .int .i64 t.c, .int .i64 t.d] 65)
    rw [← hW0, ← hH]
    simpa using this⟩
  have hs0 : H + 2 ≤ W0.heap.size := by rw [← hW0, ← hH]; simp
  have HC0 := Lib.hid bC; have HT0 := Lib.hid bT
  have HE0 := Lib.hid E0; have HO := Lib.hid h; have Hf := Lib.hid hf; have HD := Lib.hid hD
  have Hl := Lib.hid h.1
  have HW0 := Lib.hid hW0; have HH := Lib.hid hH
  clear h hf E0 bT bC hW0 hD
  rw [hH]
  go_enter Tryd.func26, Tryd.ntmps26
  go_upto_region 1 with fail
  rw [HW0.out]
  clear HW0
  go_wp2_with fail
  go_loopg [6, 7, 8, 9] n (fun kk s6 s7 s8 s9 wx => ∃ i : Nat, s9 = .int .i64 (i : Int) ∧ i ≤ n ∧ n - i = kk ∧ s8 = .int .i64 (sc plR (lstR t) (ops.take i)).2.2 ∧ Ext w wx ∧ CiB wx H qb bi ao n cp ∧ TmB wx (H + 1) t ∧ wx.ownsRow (H + 2) 3 1 s6 i (iC (sc plR (lstR t) (ops.take i)).1) ∧ wx.ownsRow (H + 2) 3 1 s7 i (iC ((sc plR (lstR t) (ops.take i)).2.1.map Prod.snd)) ∧ Aprt s6 s7 ∧ H + 2 ≤ wx.heap.size)
  case atStart => exact ⟨0, rfl, by omega, by omega, rfl, HE0.out, HC0.out, HT0.out, ⟨rfl, Or.inl ⟨rfl, rfl⟩⟩, ⟨rfl, Or.inl ⟨rfl, rfl⟩⟩, (fun k h1 h2 => nomatch h1), hs0⟩
  case round =>
    clear HE0 HC0 HT0 hs0
    obtain ⟨i, rfl, hi1, hk, rfl, hE, hCi, hTm, hO6, hO7, hAp, hbs⟩ := hrel
    have HE := Lib.hid hE; have HCi := Lib.hid hCi; have HTm := Lib.hid hTm; have HO6 := Lib.hid hO6; have HO7 := Lib.hid hO7; have HAp := Lib.hid hAp
    have v2 := hCi.x2
    clear hE hTm hO6 hO7 hAp hCi
    by_cases hin : i = n
    · have h2 : ¬ (i : Int) < (n : Int) := by omega
      have hR : ops.take i = ops := List.take_of_length_le (by rw [Hl.out]; omega)
      rw [hR] at HO6 ⊢
      have HF := Lib.hid (show wr.ownsRow (H + 2) 3 1 u6 n (iC (sc plR (lstR t) ops).1) by have := HO6.out; rw [hin] at this; exact this)
      clear hR HO6 HO7 HTm HCi
      go_wp2_with fail
      exact bodyPost_ret (v := .tuple #[u6, .int .i64 (sc plR (lstR t) ops).2.2]) (by simp [results, Tryd.results26, go_sem]) rfl ⟨⟨_, rfl, HF.out⟩, HE.out⟩
    · have h2 : (i : Int) < (n : Int) := by omega
      have h0 : (0 : Int) ≤ (i : Int) := by omega
      obtain ⟨b, o, rfl⟩ := HO.out.some_of (by omega)
      obtain ⟨g, hg⟩ : ∃ g, ops[i]? = some g := ⟨_, List.getElem?_eq_getElem (by rw [Hl.out]; omega)⟩
      obtain ⟨a1, n1, c1, a2, n2, c2, e0, e1, e2, e3, e4, e5, hL⟩ := (HO.out.ext HE.out).at i g hg
      have hfit := Hf.out g (List.mem_of_getElem? hg)
      have hst : ops.take (i + 1) = ops.take i ++ [g] := by rw [List.take_add_one, hg]; rfl
      have hst2 : sc plR (lstR t) (ops.take (i + 1)) = scS plR (lstR t) (sc plR (lstR t) (ops.take i)) g := by rw [hst, sc_snoc]
      have hbd := sc_bound plR (lstR t) (ops.take i) (fun o _ => HD.out o)
      have hlen : (ops.take i).length = i := by rw [List.length_take, Hl.out]; omega
      have hops := (sc_ops plR (lstR t) (ops.take i)).1
      rw [hlen] at hbd
      obtain ⟨S, hS⟩ : ∃ S, sc plR (lstR t) (ops.take i) = S := ⟨_, rfl⟩
      rw [hS] at hst2 hbd HO6 HO7 hops ⊢
      obtain ⟨bl, E, gr⟩ := S
      simp only at hbd HO6 HO7 hops
      have Ea := ext_al wr (.cells #[.int .i64 g.kind, .int .i64 g.k, .slice a1 n1 c1, .int .i64 g.q, .int .i64 g.bit, .slice a2 n2 c2] 46)
      have bO := opbx_new wr g.kind g.k a1 n1 c1 g.q g.bit a2 n2 c2
      have hn1 := hL.i1.1; have hn2 := hL.i2.1
      have HM := Lib.hid (fun wx (hx : Ext wr wx) => touches_any g a1 n1 c1 a2 n2 c2 wx (hL.ext hx) (by have := hfit.ctl; omega) (by have := hfit.few; omega) hfit.bit hfit.cnd)
      have hlb := HD.out g
      have hls : lstR t g = (if g.kind = 5 ∨ g.kind = 6 then t.d else if g.kind = 4 ∨ g.kind = 1 then t.c else if n1 = 1 then t.b else t.a) := by unfold lstR; rw [hn1]
      obtain ⟨lng, hlng⟩ : ∃ x, lstR t g = x := ⟨_, rfl⟩
      rw [hlng] at hlb hls
      have Hls := Lib.hid hls
      have hst3 : sc plR (lstR t) (ops.take (i + 1)) = (bl ++ [frm plR E g], E ++ [(g, frm plR E g + lng)], if gr < frm plR E g + lng then frm plR E g + lng else gr) := by rw [hst2, ← hlng]; rfl
      have Hst := Lib.hid hst3
      have Hg := Lib.hid (show frm plR E g = E.foldl (frmS plR g) 0 from rfl)
      have HPg := Lib.hid (show tchQ g.kind g.q ++ g.ctl ++ tchB 100 g.kind g.bit ++ tchC 100 g.cnd = plR g from rfl)
      rw [HPg.out] at HM
      obtain ⟨a7, c7, e7, f1, f2, hI7, _⟩ := ints_of_own HO7.out
      subst e7
      have HI7 := Lib.hid hI7; have Hf1 := Lib.hid (show c7 ≤ 9223372036854775807 from Nat.le_trans f2 (by decide)); have Hf0 := Lib.hid f1
      have HEl := Lib.hid (show E.length = i by have := hI7.1; rw [List.length_map] at this; exact this)
      have Hops := Lib.hid hops; have Hbd := Lib.hid hbd; have Hg' := Lib.hid hg
      have hwl := HE.out.size
      obtain ⟨G, hG⟩ : ∃ x, g = x := ⟨_, rfl⟩
      obtain ⟨kd, kk', ctl, qq, bb, cnd⟩ := g
      simp only at e0 e1 e2 e3 e4 e5 bO Ea Hls HM
      rw [hG] at HM Hst
      have HG := Lib.hid hG
      have HEa := Lib.hid Ea
      have Hbo := Lib.hid bO
      clear hst hst2 hst3 hg hL bO Ea hfit hbd hS hlen hn1 hn2 hls hops hI7 f1 f2 hlng hG Hg HPg
      go_wp2_with fail
      obtain ⟨Ob, hOb⟩ : ∃ x, wr.heap.size = x := ⟨_, rfl⟩
      rw [hOb] at Hbo hwl hbs ⊢
      generalize wr.alloc (.cells #[.int .i64 kd, .int .i64 kk', .slice a1 n1 c1, .int .i64 qq, .int .i64 bb, .slice a2 n2 c2] 46) = w5 at *
      have HC5 := Lib.hid (HCi.out.ext HEa.out); have HT5 := Lib.hid (HTm.out.ext HEa.out); have H65 := Lib.hid (own_on HO6.out HEa.out); have H75 := Lib.hid (own_on HO7.out HEa.out); have HI5 := Lib.hid (HI7.out.ext HEa.out)
      have HE5 := Lib.hid (HE.out.trans HEa.out)
      have hs5 : H + 2 ≤ w5.heap.size := by have := HEa.out.size; omega
      clear e0 e1 e2 e3 e4 e5 v2 HCi HTm HO6 HO7 HI7
      go_loopg [11, 12] i (fun kk s11 s12 wx => ∃ k : Nat, s12 = .int .i64 (k : Int) ∧ k ≤ i ∧ i - k = kk ∧ s11 = .int .i64 (frm plR (E.take k) G) ∧ Ext w5 wx)
      case atStart => exact ⟨0, rfl, by omega, by omega, rfl, Ext.refl _⟩
      case round =>
        obtain ⟨k, rfl, hk1, hkk, rfl, hEk⟩ := hrel
        have HEk := Lib.hid hEk
        by_cases hki : k = i
        · have q1 : ¬ (k : Int) < (i : Int) := by omega
          rw [List.take_of_length_le (by rw [HEl.out]; omega)]
          obtain ⟨hv0, _, hv1⟩ := frm_spec plR G E
          have hvc : frm plR E G ≤ 1000000 * (i : Int) := by
            rcases hv1 with hv1 | ⟨p, hp, _, e⟩
            · omega
            · have := Hbd.out.1 p hp; omega
          obtain ⟨fm, hfm⟩ : ∃ x, frm plR E G = x := ⟨_, rfl⟩
          rw [hfm] at hv0 hvc Hst ⊢
          have bo := Hbo.out.ext hEk
          have p0 := bo.x0; have p2 := bo.x2
          have bt := HT5.out.ext hEk
          have q2 := bt.x0; have q3 := bt.x1; have q4 := bt.x2; have q5 := bt.x3
          obtain ⟨dn, hdn⟩ : ∃ x, fm + lng = x := ⟨_, rfl⟩
          have wd : IntKind.i64.wrap (fm + lng) = dn := by rw [IntKind.wrap_i64]; omega
          rw [hdn] at Hst
          clear hfm hv1 hEk bo bt hdn hki
          obtain ⟨Bv, hBv⟩ : ∃ Bv, decide (kd = 5 ∨ kd = 6) = Bv := ⟨_, rfl⟩
          have HBv := Lib.hid hBv
          clear hBv
          go_upto_region 14 with fail
          go_cut [61] from 54 to 61 (fun s61 wx => s61 = .bool Bv ∧ wr = wx)
          case first =>
            by_cases k5 : kd = 5
            · have HF := Lib.hid (show true = Bv by rw [← HBv.out]; exact (dt (Or.inl k5)).symm)
              have b5 := bt' k5
              clear k5
              go_wp2_with fail
              go_meet
              exact ⟨congrArg Value.bool HF.out, rfl⟩
            have b5 := bf k5
            by_cases k6 : kd = 6
            · have HF := Lib.hid (show true = Bv by rw [← HBv.out]; exact (dt (Or.inr k6)).symm)
              have b6 := bt' k6
              clear k5 k6
              go_wp2_with fail
              go_meet
              exact ⟨congrArg Value.bool HF.out, rfl⟩
            have b6 := bf k6
            have HF := Lib.hid (show false = Bv by rw [← HBv.out]; exact (df (by omega)).symm)
            clear k5 k6
            go_wp2_with fail
            go_meet
            exact ⟨congrArg Value.bool HF.out, rfl⟩
          case rest =>
          obtain ⟨rfl, rfl⟩ := hcut
          go_upto_if 61 with fail
          go_cut [13] from 62 to 79 (fun s13 wx => s13 = .int .i64 lng ∧ wr = wx)
          case first =>
            by_cases k5 : kd = 5
            · have HF := Lib.hid (show t.d = lng by rw [Hls.out, if_pos (Or.inl k5)])
              have b5 : Bv = true := by rw [← HBv.out]; exact dt (Or.inl k5)
              subst b5
              clear k5
              go_wp2_with fail
              go_meet
              exact ⟨congrArg (Value.int .i64) HF.out, rfl⟩
            by_cases k6 : kd = 6
            · have HF := Lib.hid (show t.d = lng by rw [Hls.out, if_pos (Or.inr k6)])
              have b5 : Bv = true := by rw [← HBv.out]; exact dt (Or.inr k6)
              subst b5
              clear k6 k5
              go_wp2_with fail
              go_meet
              exact ⟨congrArg (Value.int .i64) HF.out, rfl⟩
            have b5 : Bv = false := by rw [← HBv.out]; exact df (by omega)
            subst b5
            by_cases k4 : kd = 4
            · have HF := Lib.hid (show t.c = lng by rw [Hls.out, if_neg (by omega), if_pos (Or.inl k4)])
              have b4 := bt' k4
              clear k6 k5 k4
              go_wp2_with fail
              go_meet
              exact ⟨congrArg (Value.int .i64) HF.out, rfl⟩
            have b4 := bf k4
            by_cases k1 : kd = 1
            · have HF := Lib.hid (show t.c = lng by rw [Hls.out, if_neg (by omega), if_pos (Or.inr k1)])
              have b1 := bt' k1
              clear k6 k5 k4 k1
              go_wp2_with fail
              go_meet
              exact ⟨congrArg (Value.int .i64) HF.out, rfl⟩
            have b1 := bf k1
            by_cases kc : n1 = 1
            · have HF := Lib.hid (show t.b = lng by rw [Hls.out, if_neg (by omega), if_neg (by omega), if_pos kc])
              have bc := bt' (show (n1 : Int) = 1 by omega)
              clear k6 k5 k4 k1 kc
              go_wp2_with fail
              go_meet
              exact ⟨congrArg (Value.int .i64) HF.out, rfl⟩
            · have HF := Lib.hid (show t.a = lng by rw [Hls.out, if_neg (by omega), if_neg (by omega), if_neg kc])
              have bc := bf (show ¬ (n1 : Int) = 1 by omega)
              clear k6 k5 k4 k1 kc
              go_wp2_with fail
              go_meet
              exact ⟨congrArg (Value.int .i64) HF.out, rfl⟩
          case rest =>
          obtain ⟨rfl, rfl⟩ := hcut
          clear p0 p2 q2 q3 q4 q5
          have H6r := Lib.hid (own_on H65.out HEk.out); have H7r := Lib.hid (own_on H75.out HEk.out); have HCr := Lib.hid (HC5.out.ext HEk.out); have HTr := Lib.hid (HT5.out.ext HEk.out); have HEr := Lib.hid (HE5.out.trans HEk.out)
          have hsr : H + 2 ≤ wr.heap.size := Nat.le_trans hs5 HEk.out.size
          go_upto_region 20 with fail
          go_cut [6] from 80 to 83 (fun s6 wx => Ext w wx ∧ CiB wx H qb bi (some ⟨b, o, none⟩) n cp ∧ TmB wx (H + 1) t ∧ wx.ownsRow (H + 2) 3 1 s6 (i + 1) (iC (bl ++ [fm])) ∧ wx.ownsRow (H + 2) 3 1 (.slice a7 i c7) i (iC (E.map Prod.snd)) ∧ Aprt s6 (.slice a7 i c7) ∧ H + 2 ≤ wx.heap.size)
          case first =>
            go_wp2_with (at_builtin; refine wpList_append_own_at _ rfl _ _ 36 rfl (H + 2) 3 i0 (.int .i64 0) 1 8 Tryd.underlying36 hi hz0 hz1 hz2 rfl (by decide) _ i (iC (bl)) rfl (H6r.out.alloc _) ⟨wr.heap.size, 0, none⟩ 1 1 [.int .i64 (fm)] rfl rfl (new_i wr (fm) _) (one_i (fm)) (by unfold maxLen; omega) (by omega) (Nat.le_trans hsr (ext_al wr _).size) ?_; intro v' w7 hown' hgrow' _ hat')
            have ho5 := H6r.out.alloc (.cells #[.int .i64 fm] 3)
            have ho7 := H7r.out.alloc (.cells #[.int .i64 fm] 3)
            have hE7 : Ext w w7 := grown_ext (Ext.trans HEr.out (ext_al _ _)) hgrow' (fun k hk => by have := (own_lt ho5 k hk).1; have := HH.out; omega)
            have t7 := TmB.grown hgrow' ho5 (HTr.out.ext (ext_al _ _)) (by omega)
            have c7' := CiB.grown hgrow' ho5 (HCr.out.ext (ext_al _ _)) (by omega)
            have hs7 : H + 2 ≤ w7.heap.size := Nat.le_trans (Nat.le_trans hsr (ext_al _ _).size) hgrow'.size
            have r7 := aprt_row ho7 hgrow' HAp.out
            have ap7 := aprt_grown ho7 HAp.out hat'
            go_meet
            exact ⟨hE7, c7', t7, by rw [iC_snoc]; exact hown', r7, ap7, hs7⟩
          case rest =>
          clear H6r H7r HCr HTr HEr hsr HAp
          obtain ⟨hE6, hC6, hT6, hO6, hO7, hA6, hs6⟩ := hcut
          have HE6 := Lib.hid hE6; have HC6 := Lib.hid hC6; have HT6 := Lib.hid hT6; have HO6 := Lib.hid hO6; have HO7 := Lib.hid hO7; have HA6 := Lib.hid hA6
          clear hE6 hC6 hT6 hO6 hO7 hA6
          by_cases hgv : gr < dn
          · have dg := dt hgv
            have Hs1 : Hid ((sc plR (lstR t) (ops.take (i + 1))) = (bl ++ [fm], E ++ [(G, dn)], dn)) := by have := Hst.out; rw [if_pos hgv] at this; exact this
            clear Hst
            go_wp2_with (at_builtin; refine wpList_append_own_at _ rfl _ _ 36 rfl (H + 2) 3 i0 (.int .i64 0) 1 8 Tryd.underlying36 hi hz0 hz1 hz2 rfl (by decide) _ i (iC (E.map Prod.snd)) rfl (HO7.out.alloc _) ⟨wc.heap.size, 0, none⟩ 1 1 [.int .i64 (dn)] rfl rfl (new_i wc (dn) _) (one_i (dn)) (by unfold maxLen; omega) (by omega) (Nat.le_trans hs6 (ext_al wc _).size) ?_; intro v' w7 hown' hgrow' _ hat')
            have ho5 := HO7.out.alloc (.cells #[.int .i64 dn] 3)
            have ho6 := HO6.out.alloc (.cells #[.int .i64 dn] 3)
            have hE7 : Ext w w7 := grown_ext (Ext.trans HE6.out (ext_al _ _)) hgrow' (fun k hk => by have := (own_lt ho5 k hk).1; have := HH.out; omega)
            have t7 := TmB.grown hgrow' ho5 (HT6.out.ext (ext_al _ _)) (by omega)
            have c7' := CiB.grown hgrow' ho5 (HC6.out.ext (ext_al _ _)) (by omega)
            have hs7 : H + 2 ≤ w7.heap.size := Nat.le_trans (Nat.le_trans hs6 (ext_al _ _).size) hgrow'.size
            have r6 := aprt_row ho6 hgrow' HA6.out.symm
            have ap7 := (aprt_grown ho6 HA6.out.symm hat').symm
            go_roundg (n - (i + 1))
            case measure => omega
            case rel => exact ⟨i + 1, by go_num, by omega, rfl, by rw [Hs1.out], hE7, c7', t7, by rw [Hs1.out]; exact r6, by rw [Hs1.out]; simp only [List.map_append, List.map_cons, List.map_nil]; rw [iC_snoc]; exact hown', ap7, hs7⟩
          · have dg := df hgv
            have Hs1 : Hid ((sc plR (lstR t) (ops.take (i + 1))) = (bl ++ [fm], E ++ [(G, dn)], gr)) := by have := Hst.out; rw [if_neg hgv] at this; exact this
            clear Hst
            go_wp2_with (at_builtin; refine wpList_append_own_at _ rfl _ _ 36 rfl (H + 2) 3 i0 (.int .i64 0) 1 8 Tryd.underlying36 hi hz0 hz1 hz2 rfl (by decide) _ i (iC (E.map Prod.snd)) rfl (HO7.out.alloc _) ⟨wc.heap.size, 0, none⟩ 1 1 [.int .i64 (dn)] rfl rfl (new_i wc (dn) _) (one_i (dn)) (by unfold maxLen; omega) (by omega) (Nat.le_trans hs6 (ext_al wc _).size) ?_; intro v' w7 hown' hgrow' _ hat')
            have ho5 := HO7.out.alloc (.cells #[.int .i64 dn] 3)
            have ho6 := HO6.out.alloc (.cells #[.int .i64 dn] 3)
            have hE7 : Ext w w7 := grown_ext (Ext.trans HE6.out (ext_al _ _)) hgrow' (fun k hk => by have := (own_lt ho5 k hk).1; have := HH.out; omega)
            have t7 := TmB.grown hgrow' ho5 (HT6.out.ext (ext_al _ _)) (by omega)
            have c7' := CiB.grown hgrow' ho5 (HC6.out.ext (ext_al _ _)) (by omega)
            have hs7 : H + 2 ≤ w7.heap.size := Nat.le_trans (Nat.le_trans hs6 (ext_al _ _).size) hgrow'.size
            have r6 := aprt_row ho6 hgrow' HA6.out.symm
            have ap7 := (aprt_grown ho6 HA6.out.symm hat').symm
            go_roundg (n - (i + 1))
            case measure => omega
            case rel => exact ⟨i + 1, by go_num, by omega, rfl, by rw [Hs1.out], hE7, c7', t7, by rw [Hs1.out]; exact r6, by rw [Hs1.out]; simp only [List.map_append, List.map_cons, List.map_nil]; rw [iC_snoc]; exact hown', ap7, hs7⟩
        · have q1 : (k : Int) < (i : Int) := by omega
          have q0 : (0 : Int) ≤ (k : Int) := by omega
          have q9 : (k : Int) < (n : Int) := by omega
          obtain ⟨b7, o7, rfl, hb7, hc7⟩ := HI5.out.at (by omega)
          have hck := hc7 k (by omega)
          obtain ⟨p, hp⟩ : ∃ p, E[k]? = some p := ⟨_, List.getElem?_eq_getElem (by rw [HEl.out]; omega)⟩
          have hpx : (E.map Prod.snd).getD k 0 = p.2 := by rw [List.getD_eq_getElem?_getD, List.getElem?_map, hp]; rfl
          rw [hpx] at hck
          have hg2 : ops[k]? = some p.1 := by
            have h1 : (E.map Prod.fst)[k]? = some p.1 := by rw [List.getElem?_map, hp]; rfl
            rw [Hops.out, List.getElem?_take] at h1
            rw [if_pos (by omega)] at h1
            exact h1
          have hst : frm plR (E.take (k + 1)) G = frmS plR G (frm plR (E.take k) G) p := by rw [List.take_add_one, hp, ← frm_snoc]; rfl
          obtain ⟨b1, m1, k1, b2, m2, k2, e0, e1, e2, e3, e4, e5, hL2⟩ := (HO.out.ext (HE5.out.trans hEk)).at k p.1 hg2
          have hfit := Hf.out p.1 (List.mem_of_getElem? hg2)
          have hm1 := hL2.i1.1; have hm2 := hL2.i2.1
          have HM2 := Lib.hid (fun wx (hx : Ext wr wx) => touches_any p.1 b1 m1 k1 b2 m2 k2 wx (hL2.ext hx) (by have := hfit.ctl; omega) (by have := hfit.few; omega) hfit.bit hfit.cnd)
          rw [show tchQ p.1.kind p.1.q ++ p.1.ctl ++ tchB 100 p.1.kind p.1.bit ++ tchC 100 p.1.cnd = plR p.1 from rfl] at HM2
          have HM1 := Lib.hid (fun wx (hx : Ext wr wx) => HM.out wx ((HEa.out.trans HEk.out).trans hx))
          obtain ⟨fm, hfm⟩ : ∃ x, frm plR (E.take k) G = x := ⟨_, rfl⟩
          rw [hfm] at hst ⊢
          obtain ⟨p1, x⟩ := p
          have hk' := cell_ext hck hEk
          have v2 := (HC5.out.ext hEk).x2
          have bo := Hbo.out.ext hEk
          have z0 := bo.x0; have z1 := bo.x1; have z2 := bo.x2; have z3 := bo.x3; have z4 := bo.x4; have z5 := bo.x5
          have hE0d : Ext wr wr.drew := Below.drew (Ext.refl _)
          unfold frmS at hst
          obtain ⟨sh, hsh⟩ : ∃ s, shr (plR G) (plR p1) = s := ⟨_, rfl⟩
          simp only at hst hck HM2 e0 e1 e2 e3 e4 e5 hk'
          rw [hsh] at hst
          have HS := Lib.hid (fun (a5 : Option Addr) (l5 d5 : Nat) (a6 : Option Addr) (l6 d6 : Nat) (wx : World) (h1 : IntsAt wx a5 l5 (plR G)) (h2 : IntsAt wx a6 l6 (plR p1)) (h3 : l5 ≤ d5) (h4 : d5 ≤ maxLen) (h5 : l6 ≤ d6) (h6 : d6 ≤ maxLen) => share_any a5 l5 d5 (plR G) a6 l6 d6 (plR p1) wx h1 h2 (Nat.le_trans h3 (Nat.le_trans h4 (by decide))) h5 (Nat.le_trans h6 (by decide)))
          rw [hsh] at HS
          obtain ⟨kd2, kk2, ctl2, qq2, bb2, cnd2⟩ := p1
          simp only at e0 e1 e2 e3 e4 e5 HM2 hm1 hm2
          have Hst2 := Lib.hid hst
          clear hc7 hp hpx hg2 hL2 hfit bo hck hfm hb7 hst hm1 hm2 hsh HM
          by_cases hgt : fm < x
          · have dg := dt hgt
            go_upto_region 11 with fail
            go_cut [47] from 31 to 47 (fun s47 wx => s47 = .bool sh ∧ Ext wr wx)
            case first =>
              try clear HE
              try clear HAp
              try clear Hst
              try clear HEl
              try clear Hops
              try clear Hbd
              try clear Hg'
              try clear HO
              try clear Hf
              try clear HD
              try clear Hl
              try clear HH
              try clear Hls
              try clear HEa
              try clear Hbo
              try clear HC5
              try clear HT5
              try clear H65
              try clear H75
              try clear HI5
              try clear HE5
              try clear hs5
              try clear HEk
              try clear hEk
              try clear Hst2
              try clear hbs
              try clear hwl
              try clear hki
              try clear hkk
              try clear hk
              try clear hi1
              try clear hin
              try clear hlb
              go_region_held3 (fun w' => w'.cell? ⟨Ob, 0, none⟩ = some (.int .i64 kd) ∧ w'.cell? ⟨Ob, 1, none⟩ = some (.int .i64 kk') ∧ w'.cell? ⟨Ob, 2, none⟩ = some (.slice a1 n1 c1) ∧ w'.cell? ⟨Ob, 3, none⟩ = some (.int .i64 qq) ∧ w'.cell? ⟨Ob, 4, none⟩ = some (.int .i64 bb) ∧ w'.cell? ⟨Ob, 5, none⟩ = some (.slice a2 n2 c2) ∧ w'.cell? ⟨b7, o7 + k, none⟩ = some (.int .i64 x) ∧ w'.cell? ⟨H, 2, none⟩ = some (.slice (some ⟨b, o, none⟩) n cp) ∧ w'.cell? ⟨b, o + k * 6, none⟩ = some (.int .i64 kd2) ∧ w'.cell? ⟨b, o + k * 6 + 1, none⟩ = some (.int .i64 kk2) ∧ w'.cell? ⟨b, o + k * 6 + 2, none⟩ = some (.slice b1 m1 k1) ∧ w'.cell? ⟨b, o + k * 6 + 3, none⟩ = some (.int .i64 qq2) ∧ w'.cell? ⟨b, o + k * 6 + 4, none⟩ = some (.int .i64 bb2) ∧ w'.cell? ⟨b, o + k * 6 + 5, none⟩ = some (.slice b2 m2 k2))
                (refine ⟨cell_ext (w := wr) z0 ?_, cell_ext (w := wr) z1 ?_, cell_ext (w := wr) z2 ?_, cell_ext (w := wr) z3 ?_, cell_ext (w := wr) z4 ?_, cell_ext (w := wr) z5 ?_, cell_ext (w := wr) hk' ?_, cell_ext (w := wr) v2 ?_, cell_ext (w := wr) e0 ?_, cell_ext (w := wr) e1 ?_, cell_ext (w := wr) e2 ?_, cell_ext (w := wr) e3 ?_, cell_ext (w := wr) e4 ?_, cell_ext (w := wr) e5 ?_⟩ <;> (repeat (first | assumption | refine Below.drew ?_)))
                (first
                  | (go_at_call 46; refine (HS.out _ _ _ _ _ _ _ (hI6.ext hy8) hI8 hm6 hc6 hm8 hc8).mono ?_; rintro e w9 ⟨rfl, rfl⟩)
                  | (have _ := hy6; go_at_call 47; refine (HM2.out _ (by assumption)).mono ?_; rintro e w8 ⟨⟨a8, m8, c8, rfl, hm8, hc8, hI8, _⟩, hy8⟩; have he8 : Ext wr w8 := Ext.trans he6 hy8)
                  | (go_at_call 47; refine (HM1.out _ (by assumption)).mono ?_; rintro e w6 ⟨⟨a6, m6, c6, rfl, hm6, hc6, hI6, _⟩, hy6⟩; have he6 : Ext wr w6 := Ext.trans (by assumption) hy6))
              go_wp2_with fail
              go_meet
              exact ⟨rfl, he8⟩
            case rest =>
            obtain ⟨rfl, hEc⟩ := hcut
            clear z0 z1 z2 z3 z4 z5 v2 e0 e1 e2 e3 e4 e5 HM1 HM2 HS
            have hk2 := cell_ext hk' hEc
            have HEc := Lib.hid (HEk.out.trans hEc)
            cases sh
            · have Hn := Lib.hid (show frm plR (E.take (k + 1)) G = fm by rw [Hst2.out, if_neg (fun q => nomatch q.2)])
              clear Hst2
              go_wp2_with fail
              go_roundg (i - (k + 1))
              case measure => omega
              case rel => exact ⟨k + 1, by go_num, by omega, rfl, by rw [Hn.out], HEc.out⟩
            · have Hn := Lib.hid (show frm plR (E.take (k + 1)) G = x by rw [Hst2.out, if_pos ⟨hgt, rfl⟩])
              clear Hst2
              go_wp2_with fail
              go_roundg (i - (k + 1))
              case measure => omega
              case rel => exact ⟨k + 1, by go_num, by omega, rfl, by rw [Hn.out], HEc.out⟩
          · have dg := df hgt
            have Hn := Lib.hid (show frm plR (E.take (k + 1)) G = fm by rw [Hst2.out, if_neg (fun q => hgt q.1)])
            clear Hst2 e0 e1 e2 e3 e4 e5 z0 z1 z2 z3 z4 z5
            go_upto_region 11 with fail
            go_quiet (fail)
            go_wp2_with fail
            go_roundg (i - (k + 1))
            case measure => omega
            case rel => exact ⟨k + 1, by go_num, by omega, rfl, by rw [Hn.out], HEk.out.trans (ext_drewN wr _)⟩

end Go.Proofs.YtlokfalkhgjlbaaDoor
namespace Go.Proofs.YtlokfalkhgjlbaaDoor
open Go.RowKit

set_option maxHeartbeats 1000000 in
theorem sameInts_any (l : List Int) (a1 : Option Addr) (n c1 : Nat) (a2 : Option Addr) (c2 : Nat) (w : World) (h1 : IntsAt w a1 n l) (h2 : IntsAt w a2 n l) (hc1 : n ≤ c1) (hm1 : c1 ≤ 9223372036854775807) :
    Calls Tryd.prog 22 #[.slice a1 n c1, .slice a2 n c2] w fun e w' => e = .returned (.bool true) ∧ Ext w w' := by
  have H1 := Lib.hid h1; have H2 := Lib.hid h2
  clear h1 h2
  go_enter Tryd.func22, Tryd.ntmps22
  go_wp2_with fail
  go_loopg [5] n (fun kk s5 wx => ∃ i : Nat, s5 = .int .i64 (i : Int) ∧ i ≤ n ∧ n - i = kk ∧ Ext w wx)
  case atStart => exact ⟨0, rfl, by omega, by omega, Ext.refl w⟩
  case round =>
    obtain ⟨i, rfl, hi1, hk, hE⟩ := hrel
    have HE := Lib.hid hE
    by_cases hin : i = n
    · have h2 : ¬ (i : Int) < (n : Int) := by omega
      clear hE
      go_wp2_with fail
      go_ret
      exact ⟨rfl, HE.out⟩
    · have h2 : (i : Int) < (n : Int) := by omega
      have h0 : (0 : Int) ≤ (i : Int) := by omega
      obtain ⟨b1, o1, rfl, hb1, hc1'⟩ := (H1.out.ext hE).at (by omega)
      obtain ⟨b2, o2, rfl, hb2, hc2'⟩ := (H2.out.ext hE).at (by omega)
      have e1 := hc1' i (by omega); have e2 := hc2' i (by omega)
      obtain ⟨x, hx⟩ : ∃ x, l.getD i 0 = x := ⟨_, rfl⟩
      rw [hx] at e1 e2
      have HEd := Lib.hid (cdrew hE)
      clear hE hc1' hc2' hx
      go_wp2_with fail
      go_region
      go_wp2_with fail
      go_roundg (n - (i + 1))
      case measure => omega
      case rel => exact ⟨i + 1, by go_num, by omega, rfl, HEd.out⟩

set_option maxHeartbeats 4000000 in
set_option maxRecDepth 100000 in
theorem sameCircuit_any (c : Gci) (a1 : Option Addr) (n c1 : Nat) (a2 : Option Addr) (c2 : Nat) (w : World) (h1 : OpsAt w a1 n c.ops) (h2 : OpsAt w a2 n c.ops) (hn1 : n ≤ c1) (hm1 : c1 ≤ 9223372036854775807) (_hn2 : n ≤ c2) (_hm2 : c2 ≤ 9223372036854775807) :
    Calls Tryd.prog 15 #[.agg #[.int .i64 c.qubits, .int .i64 c.bits, .slice a1 n c1], .agg #[.int .i64 c.qubits, .int .i64 c.bits, .slice a2 n c2]] w fun e w' => e = .returned (.bool true) ∧ Ext w w' := by
  obtain ⟨qb, bi, ops⟩ := c
  simp only at h1 h2 ⊢
  obtain ⟨A1, hA1⟩ : ∃ A1, w.alloc (.cells #[.int .i64 qb, .int .i64 bi, .slice a1 n c1] 34) = A1 := ⟨_, rfl⟩
  obtain ⟨A2, hA2⟩ : ∃ A2, A1.alloc (.cells #[.int .i64 qb, .int .i64 bi, .slice a2 n c2] 34) = A2 := ⟨_, rfl⟩
  have s1 : A1.heap.size = w.heap.size + 1 := by rw [← hA1]; simp
  have x1 : Ext w A1 := by rw [← hA1]; exact ext_al _ _
  have x2 : Ext A1 A2 := by rw [← hA2]; exact ext_al _ _
  have bC : CiB A2 w.heap.size qb bi a1 n c1 := by
    have : CiB A1 w.heap.size qb bi a1 n c1 := by rw [← hA1]; exact ⟨heap_alloc_new w _⟩
    exact this.ext x2
  have bD : CiB A2 (w.heap.size + 1) qb bi a2 n c2 := by rw [← hA2, ← s1]; exact ⟨heap_alloc_new A1 _⟩
  have hA : (w.alloc (.cells #[.int .i64 qb, .int .i64 bi, .slice a1 n c1] 34)).alloc (.cells #[.int .i64 qb, .int .i64 bi, .slice a2 n c2] 34) = A2 := by rw [hA1, hA2]
  have E0 := x1.trans x2
  have m0 := bC.x0; have m1 := bC.x1; have m2 := bC.x2; have k0 := bD.x0; have k1 := bD.x1; have k2 := bD.x2
  rw [← hA] at m0 m1 m2 k0 k1 k2
  have HA := Lib.hid hA; have HC := Lib.hid bC; have HD := Lib.hid bD; have HE0 := Lib.hid E0
  have H1 := Lib.hid h1; have H2 := Lib.hid h2; have Hl := Lib.hid h1.1
  clear h1 h2 hA1 hA2 s1 x1 x2 bC bD hA E0
  go_enter Tryd.func15, Tryd.ntmps15
  go_wp2_with fail
  rw [HA.out]
  clear m0 m1 m2 k0 k1 k2
  go_loopg [5] n (fun kk s5 wx => ∃ i : Nat, s5 = .int .i64 (i : Int) ∧ i ≤ n ∧ n - i = kk ∧ Ext A2 wx)
  case atStart => exact ⟨0, rfl, by omega, by omega, Ext.refl A2⟩
  case round =>
    obtain ⟨i, rfl, hi1, hk, hE⟩ := hrel
    have m2 := (HC.out.ext hE).x2; have k2 := (HD.out.ext hE).x2
    by_cases hin : i = n
    · have h2 : ¬ (i : Int) < (n : Int) := by omega
      have HE := Lib.hid (HE0.out.trans hE)
      clear hE
      go_wp2_with fail
      go_ret
      exact ⟨rfl, HE.out⟩
    · have h2 : (i : Int) < (n : Int) := by omega
      have h0 : (0 : Int) ≤ (i : Int) := by omega
      obtain ⟨b, o, rfl⟩ := H1.out.some_of (by omega)
      obtain ⟨b', o', rfl⟩ := H2.out.some_of (by omega)
      obtain ⟨g, hg⟩ : ∃ g, ops[i]? = some g := ⟨_, List.getElem?_eq_getElem (by rw [Hl.out]; omega)⟩
      obtain ⟨p1, q1, r1, p2, q2, r2, e0, e1, e2, e3, e4, e5, hL⟩ := ((H1.out.ext HE0.out).ext hE).at i g hg
      obtain ⟨p1', q1', r1', p2', q2', r2', d0, d1, d2, d3, d4, d5, hL'⟩ := ((H2.out.ext HE0.out).ext hE).at i g hg
      have hq1 := hL.i1.1.symm.trans hL'.i1.1; have hq2 := hL.i2.1.symm.trans hL'.i2.1
      subst hq1; subst hq2
      have Ea := ext_al wr (.cells #[.int .i64 g.kind, .int .i64 g.k, .slice p1 q1 r1, .int .i64 g.q, .int .i64 g.bit, .slice p2 q2 r2] 46)
      have bO := opbx_new wr g.kind g.k p1 q1 r1 g.q g.bit p2 q2 r2
      obtain ⟨X1, hX1⟩ : ∃ X, wr.alloc (.cells #[.int .i64 g.kind, .int .i64 g.k, .slice p1 q1 r1, .int .i64 g.q, .int .i64 g.bit, .slice p2 q2 r2] 46) = X := ⟨_, rfl⟩
      have sX : X1.heap.size = wr.heap.size + 1 := by rw [← hX1]; simp
      rw [hX1] at Ea bO
      have Eb := ext_al X1 (.cells #[.int .i64 g.kind, .int .i64 g.k, .slice p1' q1 r1', .int .i64 g.q, .int .i64 g.bit, .slice p2' q2 r2'] 46)
      have bP := opbx_new X1 g.kind g.k p1' q1 r1' g.q g.bit p2' q2 r2'
      rw [sX] at bP
      obtain ⟨X2, hX2⟩ : ∃ X, X1.alloc (.cells #[.int .i64 g.kind, .int .i64 g.k, .slice p1' q1 r1', .int .i64 g.q, .int .i64 g.bit, .slice p2' q2 r2'] 46) = X := ⟨_, rfl⟩
      rw [hX2] at Eb bP
      have bO2 := bO.ext Eb
      have EX := Ea.trans Eb
      have HXX : Hid ((wr.alloc (.cells #[.int .i64 g.kind, .int .i64 g.k, .slice p1 q1 r1, .int .i64 g.q, .int .i64 g.bit, .slice p2 q2 r2] 46)).alloc (.cells #[.int .i64 g.kind, .int .i64 g.k, .slice p1' q1 r1', .int .i64 g.q, .int .i64 g.bit, .slice p2' q2 r2'] 46) = X2) := by show _ = _; rw [hX1, hX2]
      have d0' := cell_ext d0 Ea; have d1' := cell_ext d1 Ea; have d2' := cell_ext d2 Ea; have d3' := cell_ext d3 Ea; have d4' := cell_ext d4 Ea; have d5' := cell_ext d5 Ea
      have k2' := cell_ext k2 Ea
      rw [← hX1] at d0' d1' d2' d3' d4' d5' k2'
      have HS1 := Lib.hid (fun wx (hx : Ext X2 wx) => sameInts_any g.ctl p1 q1 r1 p1' r1' wx ((hL.i1.ext EX).ext hx) ((hL'.i1.ext EX).ext hx) hL.h1 hL.m1)
      have HS2 := Lib.hid (fun wx (hx : Ext X2 wx) => sameInts_any g.cnd p2 q2 r2 p2' r2' wx ((hL.i2.ext EX).ext hx) ((hL'.i2.ext EX).ext hx) hL.h2 hL.m2)
      obtain ⟨kd, kk', ctl, qq, bb, cnd⟩ := g
      simp only at e0 e1 e2 e3 e4 e5 d0' d1' d2' d3' d4' d5' k2' bO2 bP HXX HS1 HS2
      have p_0 := bO2.x0; have p_1 := bO2.x1; have p_2 := bO2.x2; have p_3 := bO2.x3; have p_4 := bO2.x4; have p_5 := bO2.x5
      have q_0 := bP.x0; have q_1 := bP.x1; have q_2 := bP.x2; have q_3 := bP.x3; have q_4 := bP.x4; have q_5 := bP.x5
      rw [← HXX.out] at p_0 p_1 p_2 p_3 p_4 p_5 q_0 q_1 q_2 q_3 q_4 q_5
      have HbO := Lib.hid bO2; have HbP := Lib.hid bP
      have HEX := Lib.hid (hE.trans EX)
      clear hg hL hL' d0 d1 d2 d3 d4 d5 Ea Eb bO bP bO2 hX1 hX2 sX EX hE k2
      go_wp2_with fail
      rw [HXX.out]
      refine (HS1.out X2 (Ext.refl X2)).mono ?_
      rintro e w5 ⟨rfl, hx5⟩
      have p_5 := (HbO.out.ext hx5).x5; have q_5 := (HbP.out.ext hx5).x5
      have HX5 := Lib.hid hx5
      clear hx5
      go_wp2_with fail
      refine (HS2.out w5 HX5.out).mono ?_
      rintro e w6 ⟨rfl, hx6⟩
      have HE6 := Lib.hid ((HEX.out.trans HX5.out).trans hx6)
      clear hx6
      go_wp2_with fail
      go_roundg (n - (i + 1))
      case measure => omega
      case rel => exact ⟨i + 1, by go_num, by omega, rfl, HE6.out⟩

end Go.Proofs.YtlokfalkhgjlbaaDoor
