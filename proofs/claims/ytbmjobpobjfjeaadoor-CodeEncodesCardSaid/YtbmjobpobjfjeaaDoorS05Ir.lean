/-
  The program: the first generator that does not commute with one ahead of it; the group is filled up to the first one that hangs on those ahead of it. The program: a Pauli is read. The program: which generators an error shows at. The program: a syndrome as it is told. The reference: which generators an error shows at; generators without their signs. Paulis as two numbers, and as letters: who commutes with whom, and what is a product, is told alike by both. Nothing of the program stands here. The reference: texts without their signs (bare), the product of two but for its sign (lettersTimes). The reference: the product of two texts but for its sign.
-/
import Derived.Test.YtbmjobpobjfjeaaDoorProg
import Derived.Test.YtbmjobpobjfjeaaDoorRows
import Derived.BigQuiet
import Derived.Deep.Cut
import Derived.Deep.CutRange
import Derived.Deep.LoopGhost
import Derived.Deep.QuietTactic
import Derived.Deep.RegionHeld3
import Derived.DeepKeys4
import Derived.Laws.Bits64b
import Derived.Laws.CopyOwn
import Derived.Laws.ResultCell
import Derived.Lib.BitFns
import Derived.Lib.Hide
import Derived.Lib.ItoaMem
import Derived.Lib.ItoaNum
import Derived.Lib.Strings
import Derived.LoopIn
import Derived.LoopNIn
import Derived.Maps.AppendAt
import Derived.Maps.OwnSet
import Derived.OwnWalk
import Derived.OwnWalkIn
import Derived.RangeFuncBound
import Derived.RangeFuncBox
import Derived.RangeFuncCalls
import Derived.RangeFuncGives
import Derived.RangeFuncLeaves
import Derived.RangeFuncNested
import Derived.RangeFuncStops
import Derived.Shelf.Abstract
import Derived.Shelf.Bits.Mul64
import Derived.Shelf.RegionOpen
import Derived.Shelf.Small.Bits
import Derived.Shelf.Small.Strs
import Derived.Shelf.Strings.Search1
import Derived.Sort.MapsRangeIn
import Derived.TacticsInMore
import Derived.WalkKit
import Derived.WalkLawsBesides
import Derived.WalkSpells
import Derived.Test.YtbmjobpobjfjeaaDoorS00Ca
import Derived.Test.YtbmjobpobjfjeaaDoorShelf
import Derived.Test.YtbmjobpobjfjeaaDoorS02Cn
import Derived.Test.YtbmjobpobjfjeaaDoorS03Ib
import Derived.Test.YtbmjobpobjfjeaaDoorS04Ij
namespace Go.Proofs.YtbmjobpobjfjeaaDoor
open Go.RowKit Go.Maps

/-- A frame in a variable. -/
structure FrB (w : World) (g : Nat) (N : Int) (a : Option Addr) (n c : Nat) (mp : Option Nat) : Prop where
  row : w.heap[g]? = some (.cells #[.int .i64 N, .slice a n c, .map mp] 44 (0, 0))
section
variable {w w' : World} {g : Nat} {N : Int} {a : Option Addr} {n c : Nat} {mp : Option Nat}
theorem FrB.lt (h : FrB w g N a n c mp) : g < w.heap.size := (Array.getElem?_eq_some_iff.1 h.row).1
theorem FrB.ext (h : FrB w g N a n c mp) (k : Ext w w') : FrB w' g N a n c mp := ⟨(k.block _ h.lt).trans h.row⟩
theorem FrB.tur {B : Nat} (h : FrB w g N a n c mp) (k : Tur B w w') (hn : g ≠ B) : FrB w' g N a n c mp := ⟨(k.block g h.lt hn).trans h.row⟩
theorem FrB.x0 (h : FrB w g N a n c mp) : w.cell? ⟨g, 0, none⟩ = some (.int .i64 N) := by rw [cell_of_row w g 0 _ _ (0, 0) h.row]; rfl
theorem FrB.x1 (h : FrB w g N a n c mp) : w.cell? ⟨g, 1, none⟩ = some (.slice a n c) := by rw [cell_of_row w g 1 _ _ (0, 0) h.row]; rfl
theorem FrB.x2 (h : FrB w g N a n c mp) : w.cell? ⟨g, 2, none⟩ = some (.map mp) := by rw [cell_of_row w g 2 _ _ (0, 0) h.row]; rfl
end
theorem FrB.new (w : World) (N : Int) (a : Option Addr) (n c : Nat) (mp : Option Nat) : FrB (w.alloc (.cells #[.int .i64 N, .slice a n c, .map mp] 44)) w.heap.size N a n c mp := ⟨heap_alloc_new w _⟩

/-- The first from number i on of which something holds. -/
def fstI (f : Nat → Bool) : Nat → Nat → Int
  | 0, _ => -1
  | k + 1, i => if f i then (i : Int) else fstI f k (i + 1)
theorem fstI_yes {f : Nat → Bool} {k i : Nat} (h : f i = true) : fstI f (k + 1) i = (i : Int) := by rw [fstI, if_pos h]
theorem fstI_no {f : Nat → Bool} {k i : Nat} (h : f i = false) : fstI f (k + 1) i = fstI f k (i + 1) := by rw [fstI, if_neg (by rw [h]; decide)]
/-- Does generator i not commute with one ahead of it? -/
def apAt (l : List PK) (i : Nat) : Bool := match l[i]? with
  | some q => (l.take i).any (fun p => !(cmB p q))
  | none => false
def apI (l : List PK) : Int := fstI (apAt l) l.length 0

set_option maxRecDepth 100000 in
set_option maxHeartbeats 2000000 in
theorem firstApart_any (l : List PK) (N : Int) (ao : Option Addr) (n c : Nat) (mp : Option Nat) (w : World) (hl : PsAt w ao n l) (hn : n ≤ 4096) (hc : n ≤ c) (hcm : c ≤ 9223372036854775807) :
    Calls Tryd.prog 29 #[.agg #[.int .i64 N, .slice ao n c, .map mp]] w fun e w' => e = .returned (.int .i64 (apI l)) ∧ Ext w w' := by
  obtain ⟨U, hU⟩ : ∃ U, w.alloc (.cells #[.int .i64 N, .slice ao n c, .map mp] 44) = U := ⟨_, rfl⟩
  obtain ⟨H, hH⟩ : ∃ H, w.heap.size = H := ⟨_, rfl⟩
  have EU : Ext w U := by rw [← hU]; exact ext_al _ _
  have F0 : FrB U H N ao n c mp := by rw [← hU, ← hH]; exact FrB.new w _ _ _ _ _
  obtain ⟨R, hR⟩ : ∃ R, apI l = R := ⟨_, rfl⟩
  rw [hR]
  have HR := Lib.hid hR; have Hl := Lib.hid (hl.ext EU); have Hn := Lib.hid hn; have Hln := Lib.hid (show l.length = n from hl.1); have Hc := Lib.hid hc; have Hcm := Lib.hid hcm
  have HEU := Lib.hid EU; have HF := Lib.hid F0; have HU := Lib.hid hU; have HH := Lib.hid hH
  have k1 := F0.x1
  clear hl hn hc hcm EU F0 hU hH hR
  go_enter Tryd.func29, Tryd.ntmps29
  go_upto_region 1 with fail
  rw [HU.out, HH.out]
  clear HU HH
  go_wp2_with fail
  clear k1
  go_loopg [3, 4, 5, 9] n (fun kk s3 s4 s5 s9 wr => ∃ i : Nat, s9 = .int .i64 (i : Int) ∧ i ≤ n ∧ n - i = kk ∧ Ext U wr ∧ fstI (apAt l) (n - i) i = R)
  case atStart => exact ⟨0, rfl, Nat.zero_le _, rfl, Ext.refl _, by rw [← HR.out, ← Hln.out]; rfl⟩
  case round =>
    obtain ⟨i, rfl, hi, hkk, hX, ha⟩ := hrel
    have Hkk := Lib.hid hkk; have HX := Lib.hid hX; have Ha := Lib.hid ha
    by_cases hin : i = n
    · have q1 : ¬ (i : Int) < (n : Int) := by omega
      have Hm : Hid (R = -1) := Lib.hid (by rw [← Ha.out, hin, Nat.sub_self]; rfl)
      clear hkk hi hX ha hin
      go_wp2_with fail
      go_ret
      exact ⟨congrArg (fun b => Ending.returned (Value.int .i64 b)) Hm.out.symm, HEU.out.trans HX.out⟩
    have hlt : i < n := by omega
    have q1 : (i : Int) < (n : Int) := by omega
    have q0 : (0 : Int) ≤ (i : Int) := by omega
    have q2 : (i : Int) ≤ (n : Int) := by omega
    have q3 : (i : Int) ≤ (c : Int) := by have := Hc.out; omega
    have wk : IntKind.i64.wrap ((i : Int) + 1) = ((i + 1 : Nat) : Int) := by rw [IntKind.wrap_i64]; have := Hn.out; omega
    obtain ⟨q, hq⟩ : ∃ q, l[i]? = some q := ⟨_, List.getElem?_eq_getElem (by have := Hln.out; omega)⟩
    have hlr := Hl.out.ext hX
    obtain ⟨b, o, rfl, hb, hcells⟩ := hlr.2.resolve_left (by omega)
    obtain ⟨c0, c1, c2⟩ := hcells i q hq
    obtain ⟨W3, hW3⟩ : ∃ W3, wr.alloc (.cells #[.int .u16 (q.x : Int), .int .u16 (q.z : Int), .bool q.m] 66) = W3 := ⟨_, rfl⟩
    obtain ⟨G, hG⟩ : ∃ G, wr.heap.size = G := ⟨_, rfl⟩
    have E3 : Ext wr W3 := by rw [← hW3]; exact ext_al _ _
    have Pq : PuB W3 G q.x q.z q.m := by rw [← hW3, ← hG]; exact PuB.new wr _ _ _
    have HCf := Lib.hid (fun c' => containsFunc_any (l.take i) q G (some ⟨b, o, none⟩) i c' W3 ((hlr.take (by omega)).ext E3) (by have := Hn.out; omega) Pq)
    obtain ⟨B, hB⟩ : ∃ B, (l.take i).any (fun p => !(cmB p q)) = B := ⟨_, rfl⟩
    rw [hB] at HCf
    have Hap := Lib.hid (show apAt l i = B by unfold apAt; rw [hq]; exact hB)
    have HE3 := Lib.hid (HX.out.trans E3); have HW3 := Lib.hid hW3; have Hlt := Lib.hid hlt; have HF3 := Lib.hid (HF.out.ext (hX.trans E3))
    obtain ⟨d, hd⟩ : ∃ d, n - i = d + 1 := ⟨n - i - 1, by omega⟩
    have Hd := Lib.hid hd
    clear hkk hi hX ha hin hq hlr hcells hb hlt hB E3 Pq hW3 hd
    go_upto_region 4 with fail
    rw [HW3.out]
    clear c0 c1 c2 HW3 hG
    have k1 := HF3.out.x1
    go_wp2_with fail
    refine (HCf.out _).mono ?_
    rintro e w1 ⟨rfl, h1⟩
    have H1 := Lib.hid (HE3.out.trans h1)
    clear h1 k1 HCf
    cases B
    · go_wp2_with fail
      go_roundg (n - (i + 1))
      case measure => have := Hkk.out; have := Hlt.out; omega
      case rel => exact ⟨i + 1, rfl, Hlt.out, rfl, H1.out, by rw [← Ha.out, Hd.out, fstI_no Hap.out]; congr 1; have := Hd.out; omega⟩
    · have Hm : Hid (R = (i : Int)) := Lib.hid (by rw [← Ha.out, Hd.out, fstI_yes Hap.out])
      go_wp2_with fail
      go_ret
      exact ⟨congrArg (fun b => Ending.returned (Value.int .i64 b)) Hm.out.symm, HEU.out.trans H1.out⟩
/-- All products, as two numbers each. -/
def gsL (l : List PK) : List (Nat × Nat) := l.foldl (fun out g => out ++ out.map (fun q => (q.1 ^^^ g.x, q.2 ^^^ g.z))) [(0, 0)]
theorem gsL_snoc (l : List PK) (g : PK) : gsL (l ++ [g]) = gsL l ++ (gsL l).map (fun q => (q.1 ^^^ g.x, q.2 ^^^ g.z)) := by
  unfold gsL
  rw [List.foldl_append]
  rfl
def SamS (keys : List (Nat × Nat)) (l : List PK) : Prop := ∀ p, p ∈ keys ↔ p ∈ gsL l
theorem SamS.step {keys new : List (Nat × Nat)} {l : List PK} {g : PK} (h : SamS keys l) (hn : NewBy keys new g.x g.z) : SamS (keys ++ new) (l ++ [g]) := fun p => by
  rw [gsL_snoc, List.mem_append, List.mem_append, h p, hn p, List.mem_map]
  constructor
  · rintro (h1 | ⟨q, hq, rfl⟩)
    · exact Or.inl h1
    · exact Or.inr ⟨q, (h q).1 hq, rfl⟩
  · rintro (h1 | ⟨q, hq, rfl⟩)
    · exact Or.inl h1
    · exact Or.inr ⟨q, (h q).2 hq, rfl⟩
/-- Is generator i a product of those ahead of it? -/
def dpAt (l : List PK) (i : Nat) : Bool := match l[i]? with
  | some q => decide ((q.x, q.z) ∈ gsL (l.take i))
  | none => false
def dpI (l : List PK) : Int := fstI (dpAt l) l.length 0
theorem fstI_ne (f : Nat → Bool) : ∀ k i, fstI f k i = -1 → ∀ j, i ≤ j → j < i + k → f j = false
  | 0, i, _, j, h1, h2 => by omega
  | k + 1, i, h, j, h1, h2 => by
    by_cases e : f i = true
    · rw [fstI_yes e] at h; omega
    · have e' : f i = false := by simpa using e
      rw [fstI_no e'] at h
      by_cases ej : j = i
      · rw [ej]; exact e'
      · exact fstI_ne f k (i + 1) h j (by omega) (by omega)

set_option maxRecDepth 100000 in
set_option maxHeartbeats 2000000 in
theorem fillGroup_any (l : List PK) (N : Int) (ao : Option Addr) (n c B : Nat) (keys : List (Nat × Nat)) (w : World) (hl : PsAt w ao n l) (hn : n ≤ 12) (hM : GrpM w B keys) (hk1 : keys.length ≤ 1) (hS : SamS keys []) :
    Calls Tryd.prog 30 #[.agg #[.int .i64 N, .slice ao n c, .map (some B)]] w fun e w' => e = .returned (.int .i64 (dpI l)) ∧ Tur B w w' ∧ (dpI l = -1 → ∃ keys', GrpM w' B keys' ∧ SamS keys' l) := by
  obtain ⟨U, hU⟩ : ∃ U, w.alloc (.cells #[.int .i64 N, .slice ao n c, .map (some B)] 44) = U := ⟨_, rfl⟩
  obtain ⟨H, hH⟩ : ∃ H, w.heap.size = H := ⟨_, rfl⟩
  have EU : Ext w U := by rw [← hU]; exact ext_al _ _
  have F0 : FrB U H N ao n c (some B) := by rw [← hU, ← hH]; exact FrB.new w _ _ _ _ _
  have hHB : H ≠ B := by have := hM.lt; omega
  obtain ⟨R, hR⟩ : ∃ R, dpI l = R := ⟨_, rfl⟩
  rw [hR]
  have HR := Lib.hid hR; have Hl := Lib.hid (hl.ext EU); have Hn := Lib.hid hn; have Hln := Lib.hid (show l.length = n from hl.1)
  have HEU := Lib.hid EU; have HF := Lib.hid F0; have HU := Lib.hid hU; have HH := Lib.hid hH; have HHB := Lib.hid hHB
  have HM := Lib.hid (hM.ext EU); have Hk1 := Lib.hid hk1; have HS := Lib.hid hS
  have HiB := Lib.hid (hM.ext EU).is
  have k1 := F0.x1
  clear hl hn hM hk1 hS EU F0 hU hH hR hHB
  go_enter Tryd.func30, Tryd.ntmps30
  go_upto_region 1 with fail
  rw [HU.out, HH.out]
  clear HU HH
  go_wp2_with fail
  clear k1
  go_loopg [3, 4, 8] n (fun kk s3 s4 s8 wr => ∃ (i : Nat) (ks : List (Nat × Nat)), s8 = .int .i64 (i : Int) ∧ i ≤ n ∧ n - i = kk ∧ Tur B U wr ∧ fstI (dpAt l) (n - i) i = R ∧ GrpM wr B ks ∧ ks.length ≤ 2 ^ i ∧ SamS ks (l.take i))
  case atStart => exact ⟨0, keys, rfl, Nat.zero_le _, rfl, Tur.refl _ _, by rw [← HR.out, ← Hln.out]; rfl, HM.out, Hk1.out, HS.out⟩
  case round =>
    obtain ⟨i, ks, rfl, hi, hkk, hX, ha, hG, hkl, hks⟩ := hrel
    have Hkk := Lib.hid hkk; have HX := Lib.hid hX; have Ha := Lib.hid ha; have HG := Lib.hid hG; have Hkl := Lib.hid hkl; have Hks := Lib.hid hks
    by_cases hin : i = n
    · have q1 : ¬ (i : Int) < (n : Int) := by omega
      have Hm : Hid (R = -1) := Lib.hid (by rw [← Ha.out, hin, Nat.sub_self]; rfl)
      have hst : l.take i = l := List.take_of_length_le (by have := Hln.out; omega)
      rw [hst] at Hks
      clear hkk hi hX ha hin hG hkl hks hst
      go_wp2_with fail
      go_ret
      exact ⟨congrArg (fun b => Ending.returned (Value.int .i64 b)) Hm.out.symm, (Tur.of_ext HEU.out).trans HX.out, fun _ => ⟨ks, HG.out, Hks.out⟩⟩
    have hlt : i < n := by omega
    have q1 : (i : Int) < (n : Int) := by omega
    have q0 : (0 : Int) ≤ (i : Int) := by omega
    have wk : IntKind.i64.wrap ((i : Int) + 1) = ((i + 1 : Nat) : Int) := by rw [IntKind.wrap_i64]; have := Hn.out; omega
    obtain ⟨q, hq⟩ : ∃ q, l[i]? = some q := ⟨_, List.getElem?_eq_getElem (by have := Hln.out; omega)⟩
    have hlr := hX.ps Hl.out HiB.out
    obtain ⟨b, o, rfl, hb, hcells⟩ := hlr.2.resolve_left (by omega)
    obtain ⟨c0, c1, c2⟩ := hcells i q hq
    obtain ⟨W3, hW3⟩ : ∃ W3, wr.alloc (.cells #[.int .u16 (q.x : Int), .int .u16 (q.z : Int), .bool q.m] 66) = W3 := ⟨_, rfl⟩
    obtain ⟨G, hGG⟩ : ∃ G, wr.heap.size = G := ⟨_, rfl⟩
    have E3 : Ext wr W3 := by rw [← hW3]; exact ext_al _ _
    have Pq : PuB W3 G q.x q.z q.m := by rw [← hW3, ← hGG]; exact PuB.new wr _ _ _
    have hb4096 : ks.length ≤ 4096 := Nat.le_trans hkl (Nat.le_trans (Nat.pow_le_pow_right (by decide) (show i ≤ 12 by have := Hn.out; omega)) (by decide))
    have Hha := Lib.hid (has_any B ks q.x q.z q.m W3 (hG.ext E3) q.hx q.hz)
    have Hgr := Lib.hid (fun wx (hx : Ext W3 wx) => grow_any B ks q.x q.z q.m wx ((hG.ext E3).ext hx) q.hx q.hz (by omega))
    unfold pv at Hha Hgr
    obtain ⟨Bb, hBb⟩ : ∃ Bb, decide ((q.x, q.z) ∈ ks) = Bb := ⟨_, rfl⟩
    rw [hBb] at Hha
    have Hap := Lib.hid (show dpAt l i = Bb by
      unfold dpAt
      rw [hq, ← hBb]
      exact decide_eq_decide.2 (hks _).symm)
    have HE3 := Lib.hid E3; have HW3 := Lib.hid hW3; have Hlt := Lib.hid hlt
    have HF3 := Lib.hid ((HF.out.tur hX HHB.out).ext E3); have HPq := Lib.hid Pq
    have Htk := Lib.hid (show l.take (i + 1) = l.take i ++ [q] by rw [List.take_add_one, hq]; rfl)
    obtain ⟨d, hd⟩ : ∃ d, n - i = d + 1 := ⟨n - i - 1, by omega⟩
    have Hd := Lib.hid hd
    clear hkk hi hX ha hin hq hlr hcells hb hlt hBb E3 Pq hW3 hd hG hkl hks hb4096
    go_upto_region 4 with fail
    rw [HW3.out]
    clear c0 c1 c2 HW3 hGG
    have k2 := HF3.out.x2; have p0 := HPq.out.x0; have p1 := HPq.out.x1; have p2 := HPq.out.x2
    go_wp2_with fail
    refine Hha.out.mono ?_
    rintro e w1 ⟨rfl, h1⟩
    have H1 := Lib.hid h1
    clear h1 k2 p0 p1 p2 Hha
    cases Bb
    · have k2 := (HF3.out.ext H1.out).x2; have p0 := (HPq.out.ext H1.out).x0; have p1 := (HPq.out.ext H1.out).x1; have p2 := (HPq.out.ext H1.out).x2
      go_wp2_with fail
      refine (Hgr.out w1 H1.out).mono ?_
      rintro e w2 ⟨⟨v, rfl⟩, hT, new, hG2, hnl, hnb⟩
      have HT := Lib.hid ((HX.out.trans (Tur.of_ext (HE3.out.trans H1.out))).trans hT); have HG2 := Lib.hid hG2; have Hnl := Lib.hid hnl; have Hnb := Lib.hid hnb
      clear hT hG2 hnl hnb k2 p0 p1 p2 Hgr
      go_wp2_with fail
      go_roundg (n - (i + 1))
      case measure => have := Hkk.out; have := Hlt.out; omega
      case rel => exact ⟨i + 1, ks ++ new, rfl, Hlt.out, rfl, HT.out, by rw [← Ha.out, Hd.out, fstI_no Hap.out]; congr 1; have := Hd.out; omega, HG2.out, by rw [List.length_append, Nat.pow_succ]; have := Hnl.out; have := Hkl.out; omega, by rw [Htk.out]; exact Hks.out.step Hnb.out⟩
    · have Hm : Hid (R = (i : Int)) := Lib.hid (by rw [← Ha.out, Hd.out, fstI_yes Hap.out])
      go_wp2_with fail
      go_ret
      exact ⟨congrArg (fun b => Ending.returned (Value.int .i64 b)) Hm.out.symm, (Tur.of_ext HEU.out).trans (HX.out.trans (Tur.of_ext (HE3.out.trans H1.out))), fun h => by have := Hm.out; omega⟩
end Go.Proofs.YtbmjobpobjfjeaaDoor
namespace Go.Proofs.YtbmjobpobjfjeaaDoor
open Go.RowKit

/-- What Parse answers. -/
def paX (n : Nat) (T : List UInt8) : Nat := if isP n T then nX (T.drop 1) else 0
def paZ (n : Nat) (T : List UInt8) : Nat := if isP n T then nZz (T.drop 1) else 0
def paM (n : Nat) (T : List UInt8) : Bool := isP n T && (T.headD 0 == 45)
theorem PuB.put {w : World} {g x z : Nat} {m : Bool} (h : PuB w g x z m) (x' z' : Nat) (m' : Bool) : PuB (((w.setCell ⟨g, 0, none⟩ (.int .u16 (x' : Int))).setCell ⟨g, 1, none⟩ (.int .u16 (z' : Int))).setCell ⟨g, 2, none⟩ (.bool m')) g x' z' m' := ⟨by
  have a := heap_setCell_same w g 0 _ _ (.int .u16 (x' : Int)) h.row
  have b := heap_setCell_same _ g 1 _ _ (.int .u16 (z' : Int)) a
  have c := heap_setCell_same _ g 2 _ _ (.bool m') b
  simpa using c⟩
theorem PuB.f {w : World} {g x z : Nat} {m : Bool} (h : PuB w g x z m) (k : Nat) : w.frozen? ⟨g, k, none⟩ = false := frozen_of_row w g k _ _ h.row
theorem row3 {w : World} {g : Nat} {a b c : Value} (h : w.heap[g]? = some (.cells #[a, b, c] 66 (0, 0))) (a' b' c' : Value) : (((w.setCell ⟨g, 0, none⟩ a').setCell ⟨g, 1, none⟩ b').setCell ⟨g, 2, none⟩ c').heap[g]? = some (.cells #[a', b', c'] 66 (0, 0)) := by
  have x := heap_setCell_same w g 0 _ _ a' h
  have y := heap_setCell_same _ g 1 _ _ b' x
  have z := heap_setCell_same _ g 2 _ _ c' y
  simpa using z
theorem cells3 {w : World} {g : Nat} {a b c : Value} (h : w.heap[g]? = some (.cells #[a, b, c] 66 (0, 0))) : w.cell? ⟨g, 0, none⟩ = some a ∧ w.cell? ⟨g, 1, none⟩ = some b ∧ w.cell? ⟨g, 2, none⟩ = some c ∧ ∀ k, w.frozen? ⟨g, k, none⟩ = false :=
  ⟨by rw [cell_of_row w g 0 _ _ (0, 0) h]; rfl, by rw [cell_of_row w g 1 _ _ (0, 0) h]; rfl, by rw [cell_of_row w g 2 _ _ (0, 0) h]; rfl, fun k => frozen_of_row w g k _ _ h⟩
theorem put3x {w w' : World} {g : Nat} (h : Ext w w') (hg : w.heap.size ≤ g) (a b c : Value) : Ext w (((w'.setCell ⟨g, 0, none⟩ a).setCell ⟨g, 1, none⟩ b).setCell ⟨g, 2, none⟩ c) := Below.setCell (Below.setCell (Below.setCell h (p := ⟨g, 0, none⟩) hg a) (p := ⟨g, 1, none⟩) hg b) (p := ⟨g, 2, none⟩) hg c
theorem PuB.put0 {w : World} {g x z : Nat} {m : Bool} (h : PuB w g x z m) (x' : Nat) : PuB (w.setCell ⟨g, 0, none⟩ (.int .u16 (x' : Int))).drew g x' z m := ⟨by
  have a := heap_setCell_same w g 0 _ _ (.int .u16 (x' : Int)) h.row
  have b : (w.setCell ⟨g, 0, none⟩ (.int .u16 (x' : Int))).heap[g]? = some (.cells #[.int .u16 (x' : Int), .int .u16 (z : Int), .bool m] 66 (0, 0)) := by simpa using a
  exact b⟩
theorem PuB.put1 {w : World} {g x z : Nat} {m : Bool} (h : PuB w g x z m) (z' : Nat) : PuB (w.setCell ⟨g, 1, none⟩ (.int .u16 (z' : Int))).drew g x z' m := ⟨by
  have a := heap_setCell_same w g 1 _ _ (.int .u16 (z' : Int)) h.row
  have b : (w.setCell ⟨g, 1, none⟩ (.int .u16 (z' : Int))).heap[g]? = some (.cells #[.int .u16 (x : Int), .int .u16 (z' : Int), .bool m] 66 (0, 0)) := by simpa using a
  exact b⟩
theorem put1x {w w' : World} {g k : Nat} (h : Ext w w') (hg : w.heap.size ≤ g) (a : Value) : Ext w (w'.setCell ⟨g, k, none⟩ a).drew := Below.drew (Below.setCell h (p := ⟨g, k, none⟩) hg a)
theorem lno_parts (y : UInt8) : lno y % 2 = (if lx y then 1 else 0) ∧ lno y / 2 = (if lz y then 1 else 0) ∧ lno y < 4 := by
  unfold lno
  split <;> split <;> omega
theorem and_one {k : Nat} (h : k < 4) : bits .and .i64 (k : Int) 1 = ((k % 2 : Nat) : Int) := by
  match k, h with
  | 0, _ => decide
  | 1, _ => decide
  | 2, _ => decide
  | 3, _ => decide
theorem wrapu {k : Nat} (h : k < 65536) : IntKind.u16.wrap (k : Int) = (k : Int) := by
  rw [show IntKind.u16.wrap (k : Int) = ((k : Int) % 65536) from rfl]; omega
theorem ixb {y : UInt8} (h : isL y = true) : Lib.indexByte [73, 88, 90, 89] y = (lno y : Int) := by
  rcases isL_cases h with rfl | rfl | rfl | rfl <;> decide
theorem ixb_no {y : UInt8} (h : isL y = false) : Lib.indexByte [73, 88, 90, 89] y = -1 := by
  unfold isL at h
  simp only [Bool.or_eq_false_iff, beq_eq_false_iff_ne] at h
  obtain ⟨⟨⟨h1, h2⟩, h3⟩, h4⟩ := h
  have f : ∀ k : UInt8, y ≠ k → (k == y) = false := fun k hk => beq_eq_false_iff_ne.2 (fun e => hk e.symm)
  simp [Lib.indexByte, f 73 h1, f 88 h2, f 89 h3, f 90 h4]
theorem or_u16 {x y : Nat} (hx : x < 65536) (hy : y < 65536) : bits .or .u16 (x : Int) (y : Int) = ((x ||| y : Nat) : Int) := by
  show IntKind.u16.wrap ((BitVec.ofInt 16 (x : Int) ||| BitVec.ofInt 16 (y : Int)).toNat : Int) = _
  rw [BitVec.toNat_or, u16_bv hx, u16_bv hy]
  have : x ||| y < 2 ^ 16 := Nat.or_lt_two_pow (n := 16) hx hy
  rw [show IntKind.u16.wrap ((x ||| y : Nat) : Int) = (((x ||| y : Nat) : Int) % 65536) from rfl]
  omega
theorem or_plus {a i : Nat} (b : Nat) (h : a < 2 ^ i) : a ||| (b * 2 ^ i) = a + b * 2 ^ i := by
  rw [Nat.or_comm, Nat.mul_comm, ← Nat.two_pow_add_eq_or_of_lt h, Nat.add_comm]

set_option maxRecDepth 100000 in
set_option maxHeartbeats 4000000 in
theorem pParse_any (T : List UInt8) (n : Nat) (w : World) (hn1 : 1 ≤ n) (hn : n ≤ 12) (hT : T.length ≤ 9223372036854775807) :
    Calls Tryd.prog 26 #[.string ⟨T.toArray⟩, .int .i64 (n : Int)] w fun e w' => e = .returned (.tuple #[.agg #[.int .u16 (paX n T : Int), .int .u16 (paZ n T : Int), .bool (paM n T)], .bool (isP n T)]) ∧ Ext w w' := by
  have hsT : (⟨T.toArray⟩ : ByteArray).size = T.length := by simp [ByteArray.size]
  obtain ⟨B, hB⟩ : ∃ B, isP n T = B := ⟨_, rfl⟩
  obtain ⟨X, hX⟩ : ∃ X, paX n T = X := ⟨_, rfl⟩
  obtain ⟨Z, hZ⟩ : ∃ Z, paZ n T = Z := ⟨_, rfl⟩
  obtain ⟨M, hM⟩ : ∃ M, paM n T = M := ⟨_, rfl⟩
  have H1 := Lib.hid (show T.length ≠ n + 1 → B = false from fun h => by rw [← hB]; unfold isP; rw [decide_eq_false h]; rfl)
  have H2 := Lib.hid (show T.headD 0 ≠ 43 → T.headD 0 ≠ 45 → B = false from fun h k => by rw [← hB]; unfold isP; rw [show (T.headD 0 == 43) = false from beq_eq_false_iff_ne.2 h, show (T.headD 0 == 45) = false from beq_eq_false_iff_ne.2 k]; simp)
  have H3 := Lib.hid (show ∀ (i : Nat) (y : UInt8), (T.drop 1)[i]? = some y → isL y = false → B = false from fun i y h1 h2 => by
    rw [← hB]
    by_cases e : isP n T = false
    · exact e
    · exfalso
      have := (isP_iff.1 (by simpa using e)).2.2 y (List.mem_of_getElem? h1)
      rw [h2] at this
      exact absurd this (by decide))
  have H4 := Lib.hid (show T.length = n + 1 → (T.headD 0 = 43 ∨ T.headD 0 = 45) → (∀ c ∈ T.drop 1, isL c = true) → B = true ∧ X = nX (T.drop 1) ∧ Z = nZz (T.drop 1) ∧ M = (T.headD 0 == 45) from fun h1 h2 h3 => by
    have h := isP_iff.2 ⟨h1, h2, h3⟩
    refine ⟨by rw [← hB]; exact h, by rw [← hX]; unfold paX; rw [if_pos h], by rw [← hZ]; unfold paZ; rw [if_pos h], by rw [← hM]; unfold paM; rw [h]; rfl⟩)
  have H5 := Lib.hid (show B = false → X = 0 ∧ Z = 0 ∧ M = false from fun h => by
    have h' : isP n T = false := hB.trans h
    refine ⟨by rw [← hX]; unfold paX; rw [h']; rfl, by rw [← hZ]; unfold paZ; rw [h']; rfl, by rw [← hM]; unfold paM; rw [h']; rfl⟩)
  rw [hB, hX, hZ, hM]
  clear hB hX hZ hM
  obtain ⟨H, hH⟩ : ∃ H, w.heap.size = H := ⟨_, rfl⟩
  obtain ⟨W0, hW0⟩ : ∃ W0, w.alloc (.cells #[.int .u16 0, .int .u16 0, .bool false] 66) = W0 := ⟨_, rfl⟩
  have E0 : Ext w W0 := by rw [← hW0]; exact ext_al _ _
  have P0 : W0.heap[H]? = some (.cells #[.int .u16 0, .int .u16 0, .bool false] 66 (0, 0)) := by rw [← hW0, ← hH]; exact heap_alloc_new w _
  have HR0 := Lib.hid P0; have HE0 := Lib.hid E0; have HW0 := Lib.hid hW0; have HH := Lib.hid hH
  have HwH := Lib.hid (show w.heap.size ≤ H by omega)
  clear P0 E0 hW0 hH
  go_enter Tryd.func26, Tryd.ntmps26
  go_upto_region 1 with fail
  rw [HW0.out, HH.out]
  clear HW0 HH
  have hv : IntKind.i64.wrap ((n : Int) + 1) = (n : Int) + 1 := by rw [IntKind.wrap_i64]; omega
  by_cases n2 : T.length = n + 1
  rotate_left 1
  · have q2 : ((T.length : Int) != (n : Int) + 1) = true := nt (by omega)
    have hB := H1.out n2
    obtain ⟨rfl, rfl, rfl⟩ := H5.out hB
    subst hB
    obtain ⟨c0, c1, c2, f⟩ := cells3 HR0.out
    have f0 := f 0; have f1 := f 1; have f2 := f 2
    obtain ⟨z0, z1, z2, _⟩ := cells3 (row3 HR0.out (.int .u16 0) (.int .u16 0) (.bool false))
    have HEz := Lib.hid (put3x HE0.out HwH.out (.int .u16 0) (.int .u16 0) (.bool false))
    clear H1 H2 H3 H4 H5 n2 f
    go_upto_region 2 with fail
    go_wp2_with fail
    exact bodyPost_ret (v := .tuple #[.agg #[.int .u16 0, .int .u16 0, .bool false], .bool false]) (by simp [results, Tryd.results26, go_sem, z0, z1, z2]) rfl ⟨rfl, HEz.out⟩
  have HTl := Lib.hid n2
  have q2 : ((T.length : Int) != (n : Int) + 1) = false := nf' (by omega)
  obtain ⟨x, hx⟩ : ∃ x, T[0]? = some x := ⟨_, List.getElem?_eq_getElem (by omega)⟩
  have hsz0 : 0 < (⟨T.toArray⟩ : ByteArray).size := str_lt (by omega)
  have hsz1 : (0 : Int) < (T.length : Int) := by omega
  have hg0 := let_at hx hsz0
  have hhd := head_at hx
  rw [hhd] at H2 H4
  by_cases n3 : x = 43 ∨ x = 45
  rotate_left 1
  · have q3 : ((x.toNat : Int) != 43) = true := nt (u8_ne (k := 43) (by decide) (fun e => n3 (Or.inl e)))
    have q4 : ((x.toNat : Int) != 45) = true := nt (u8_ne (k := 45) (by decide) (fun e => n3 (Or.inr e)))
    have hB := H2.out (fun e => n3 (Or.inl e)) (fun e => n3 (Or.inr e))
    obtain ⟨rfl, rfl, rfl⟩ := H5.out hB
    subst hB
    obtain ⟨c0, c1, c2, f⟩ := cells3 HR0.out
    have f0 := f 0; have f1 := f 1; have f2 := f 2
    obtain ⟨z0, z1, z2, _⟩ := cells3 (row3 HR0.out (.int .u16 0) (.int .u16 0) (.bool false))
    have HEz := Lib.hid (put3x HE0.out HwH.out (.int .u16 0) (.int .u16 0) (.bool false))
    clear H1 H2 H3 H4 H5 n2 n3 hx hhd f
    go_upto_region 2 with fail
    go_wp2_with fail
    exact bodyPost_ret (v := .tuple #[.agg #[.int .u16 0, .int .u16 0, .bool false], .bool false]) (by simp [results, Tryd.results26, go_sem, z0, z1, z2]) rfl ⟨rfl, HEz.out⟩
  have Hmid := Lib.hid (fun h => H4.out n2 n3 h)
  have Hg0 := Lib.hid hg0
  obtain ⟨mi, hmi⟩ : ∃ mi : Bool, (x == 45) = mi := ⟨_, rfl⟩
  rw [hmi] at Hmid
  have hq5 : ((x.toNat : Int) == 45) = mi := by rw [← hmi]; exact u8_eqb x 45
  clear H1 H2 H4 n2 hhd hx hmi
  go_cut [23] from 9 to 23 (fun s23 wx => W0 = wx ∧ s23 = .bool false)
  case first =>
    rcases n3 with rfl | rfl
    · have hg1' : ((⟨T.toArray⟩ : ByteArray)[0]'hsz0).toNat = 43 := hg0
      clear hg0
      go_wp2_with fail
      go_meet
      exact ⟨rfl, rfl⟩
    · have hg1' : ((⟨T.toArray⟩ : ByteArray)[0]'hsz0).toNat = 45 := hg0
      clear hg0
      go_wp2_with fail
      go_meet
      exact ⟨rfl, rfl⟩
  case rest =>
  obtain ⟨rfl, rfl⟩ := hcut
  clear q2 n3
  obtain ⟨W1, hW1⟩ : ∃ W1, W0.alloc (.cells #[.int .u16 0, .int .u16 0, .bool mi] 66) = W1 := ⟨_, rfl⟩
  obtain ⟨G, hG⟩ : ∃ G, W0.heap.size = G := ⟨_, rfl⟩
  have E1 : Ext W0 W1 := by rw [← hW1]; exact ext_al _ _
  have P1 : PuB W1 G 0 0 mi := ⟨by rw [← hW1, ← hG]; exact heap_alloc_new W0 _⟩
  have HX1 := Lib.hid E1; have HE1 := Lib.hid (HE0.out.trans E1); have HP1 := Lib.hid P1; have HW1 := Lib.hid hW1
  have HR1 := Lib.hid ((E1.block H (Array.getElem?_eq_some_iff.1 HR0.out).1).trans HR0.out)
  have HGe := Lib.hid (show W0.heap.size = G from hG)
  have HHG := Lib.hid (show H < G by rw [← hG]; exact (Array.getElem?_eq_some_iff.1 HR0.out).1)
  clear E1 P1 hW1
  go_upto_region 4 with fail
  rw [HW1.out]
  clear HW1 hG hg0 hq5
  go_wp2_with fail
  go_loopg [7, 8, 30] n (fun kk s7 s8 s30 wr => ∃ i : Nat, s30 = .int .i64 (i : Int) ∧ i ≤ n ∧ n - i = kk ∧ PuB wr G (nX ((T.drop 1).take i)) (nZz ((T.drop 1).take i)) mi ∧ Ext W0 wr ∧ Ext w wr ∧ ∀ c ∈ (T.drop 1).take i, isL c = true)
  case atStart => exact ⟨0, rfl, Nat.zero_le _, rfl, by simpa [nX, nZz] using HP1.out, HX1.out, HE1.out, fun c hc => by simp at hc⟩
  case round =>
    obtain ⟨i, rfl, hi, hkk, hP, hX, hE, hall⟩ := hrel
    have Hkk := Lib.hid hkk; have HP := Lib.hid hP; have HX := Lib.hid hX; have HE := Lib.hid hE; have Hall := Lib.hid hall
    have HRr := Lib.hid ((hX.block H (Array.getElem?_eq_some_iff.1 HR0.out).1).trans HR0.out)
    by_cases hin : i = n
    · have q1 : ¬ (i : Int) < (n : Int) := by omega
      have hst : (T.drop 1).take i = T.drop 1 := List.take_of_length_le (by rw [List.length_drop]; have := HTl.out; omega)
      rw [hst] at HP Hall
      obtain ⟨hB, hX', hZ', hM'⟩ := Hmid.out Hall.out
      rw [← hX', ← hZ'] at HP
      subst hB
      subst hM'
      obtain ⟨c0, c1, c2, f⟩ := cells3 HRr.out
      have f0 := f 0; have f1 := f 1; have f2 := f 2
      have p0 := HP.out.x0; have p1 := HP.out.x1; have p2 := HP.out.x2
      obtain ⟨z0, z1, z2, _⟩ := cells3 (row3 HRr.out (.int .u16 (X : Int)) (.int .u16 (Z : Int)) (.bool M))
      have HEz := Lib.hid (put3x HE.out HwH.out (.int .u16 (X : Int)) (.int .u16 (Z : Int)) (.bool M))
      clear hkk hi hP hX hE hall hst hin f hX' hZ' H3 H5 Hmid
      go_wp2_with fail
      exact bodyPost_ret (v := .tuple #[.agg #[.int .u16 (X : Int), .int .u16 (Z : Int), .bool M], .bool true]) (by simp [results, Tryd.results26, go_sem, z0, z1, z2]) rfl ⟨rfl, HEz.out⟩
    have hlt : i < n := by omega
    have q1 : (i : Int) < (n : Int) := by omega
    have q0 : (0 : Int) ≤ (i : Int) + 1 := by omega
    have q00 : (0 : Int) ≤ (i : Int) := by omega
    have q9 : (i : Int) + 1 < (T.length : Int) := by have := HTl.out; omega
    have wk : IntKind.i64.wrap ((i : Int) + 1) = (i : Int) + 1 := by rw [IntKind.wrap_i64]; omega
    obtain ⟨y, hy⟩ : ∃ y, (T.drop 1)[i]? = some y := ⟨_, List.getElem?_eq_getElem (by rw [List.length_drop]; have := HTl.out; omega)⟩
    have hy' : T[i + 1]? = some y := by rw [List.getElem?_drop] at hy; rw [show i + 1 = 1 + i by omega]; exact hy
    have hsy : i + 1 < (⟨T.toArray⟩ : ByteArray).size := str_lt (by have := HTl.out; omega)
    have hgy := let_at hy' hsy
    have htn : ((i : Int) + 1).toNat = i + 1 := by omega
    have HIx := Lib.hid (fun wx => Tryd.strings_IndexByte ⟨#[73, 88, 90, 89]⟩ (y.toNat : Int) wx)
    have hyy : ((y.toNat : Int)).toNat.toUInt8 = y := by simp
    rw [hyy] at HIx
    have Hy := Lib.hid hy; have Hlt := Lib.hid hlt
    by_cases hL : isL y = true
    rotate_left 1
    · have hLf : isL y = false := by simpa using hL
      have hB := H3.out i y hy hLf
      obtain ⟨rfl, rfl, rfl⟩ := H5.out hB
      subst hB
      rw [show ((⟨#[73, 88, 90, 89]⟩ : ByteArray).data.toList) = [73, 88, 90, 89] from rfl, ixb_no hLf] at HIx
      obtain ⟨c0, c1, c2, f⟩ := cells3 HRr.out
      have f0 := f 0; have f1 := f 1; have f2 := f 2
      obtain ⟨z0, z1, z2, _⟩ := cells3 (row3 HRr.out (.int .u16 0) (.int .u16 0) (.bool false))
      have HEz := Lib.hid (put3x HE.out HwH.out (.int .u16 0) (.int .u16 0) (.bool false))
      clear hkk hi hP hX hE hall hin f H3 H5 Hmid hL hLf hy hy' hyy hlt
      go_wp2_with fail
      refine (HIx.out wr).mono ?_
      rintro e w1 ⟨rfl, rfl⟩
      clear HIx
      go_wp2_with fail
      exact bodyPost_ret (v := .tuple #[.agg #[.int .u16 0, .int .u16 0, .bool false], .bool false]) (by simp [results, Tryd.results26, go_sem, z0, z1, z2]) rfl ⟨rfl, HEz.out⟩
    rw [show ((⟨#[73, 88, 90, 89]⟩ : ByteArray).data.toList) = [73, 88, 90, 89] from rfl, ixb hL] at HIx
    obtain ⟨ln, hln⟩ : ∃ ln, lno y = ln := ⟨_, rfl⟩
    rw [hln] at HIx
    have hpt := lno_parts y
    rw [hln] at hpt
    obtain ⟨xi, hxi⟩ : ∃ xi, nX ((T.drop 1).take i) = xi := ⟨_, rfl⟩
    obtain ⟨zi, hzi⟩ : ∃ zi, nZz ((T.drop 1).take i) = zi := ⟨_, rfl⟩
    have hli : ((T.drop 1).take i).length = i := by rw [List.length_take, List.length_drop]; have := HTl.out; omega
    have bxi : xi < 2 ^ i := by have := nX_lt ((T.drop 1).take i); rw [hli, hxi] at this; exact this
    have bzi : zi < 2 ^ i := by have := nZz_lt ((T.drop 1).take i); rw [hli, hzi] at this; exact this
    have htk : (T.drop 1).take (i + 1) = (T.drop 1).take i ++ [y] := by rw [List.take_add_one, hy]; rfl
    have HxN := Lib.hid (show nX ((T.drop 1).take (i + 1)) = xi + ln % 2 * 2 ^ i by rw [htk, nX_snoc, hxi, hli, hpt.1])
    have HzN := Lib.hid (show nZz ((T.drop 1).take (i + 1)) = zi + ln / 2 * 2 ^ i by rw [htk, nZz_snoc, hzi, hli, hpt.2.1])
    have HaN := Lib.hid (show ∀ c ∈ (T.drop 1).take (i + 1), isL c = true from fun c hc => by
      rw [htk] at hc
      rcases List.mem_append.1 hc with hc | hc
      · exact Hall.out c hc
      · have : c = y := by simpa using hc
        rw [this]; exact hL)
    have hpw : 2 ^ i ≤ 2 ^ 11 := Nat.pow_le_pow_right (by decide) (by omega)
    have hcast : ((2 ^ i : Nat) : Int) = (2 : Int) ^ i := by rw [Int.natCast_pow]; rfl
    obtain ⟨A, hA⟩ : ∃ A, ln % 2 * 2 ^ i = A := ⟨_, rfl⟩
    obtain ⟨Bq, hBq⟩ : ∃ Bq, ln / 2 * 2 ^ i = Bq := ⟨_, rfl⟩
    have hl2 : ln % 2 ≤ 1 ∧ ln / 2 ≤ 1 := by omega
    have bA : A ≤ 2 ^ i := by rw [← hA]; exact Nat.le_trans (Nat.mul_le_mul_right _ hl2.1) (by omega)
    have bB : Bq ≤ 2 ^ i := by rw [← hBq]; exact Nat.le_trans (Nat.mul_le_mul_right _ hl2.2) (by omega)
    have o1 : xi ||| A = xi + A := by rw [← hA]; exact or_plus _ bxi
    have o2 : zi ||| Bq = zi + Bq := by rw [← hBq]; exact or_plus _ bzi
    have r1 := and_one hpt.2.2
    obtain ⟨a, ha⟩ : ∃ a, ln % 2 = a := ⟨_, rfl⟩
    obtain ⟨b, hb⟩ : ∃ b, ln / 2 = b := ⟨_, rfl⟩
    have r2 : IntKind.u16.wrap (a : Int) = (a : Int) := wrapu (by omega)
    have r3 : IntKind.u16.wrap ((a : Int) * 2 ^ i) = (A : Int) := by
      rw [← hcast, ← Int.natCast_mul, ← ha, hA]; exact wrapu (by have h11 : (2 : Nat) ^ 11 = 2048 := (by decide); omega)
    have r4 : bits .or .u16 (xi : Int) (A : Int) = ((xi + A : Nat) : Int) := by
      rw [or_u16 (by have h11 : (2 : Nat) ^ 11 = 2048 := (by decide); omega) (by have h11 : (2 : Nat) ^ 11 = 2048 := (by decide); omega), o1]
    have s1 : (ln : Int) / 2 = (b : Int) := by omega
    have s2 : IntKind.u16.wrap (b : Int) = (b : Int) := wrapu (by omega)
    have s3 : IntKind.u16.wrap ((b : Int) * 2 ^ i) = (Bq : Int) := by
      rw [← hcast, ← Int.natCast_mul, ← hb, hBq]; exact wrapu (by have h11 : (2 : Nat) ^ 11 = 2048 := (by decide); omega)
    have s4 : bits .or .u16 (zi : Int) (Bq : Int) = ((zi + Bq : Nat) : Int) := by
      rw [or_u16 (by have h11 : (2 : Nat) ^ 11 = 2048 := (by decide); omega) (by have h11 : (2 : Nat) ^ 11 = 2048 := (by decide); omega), o2]
    rw [ha] at r1
    rw [hA] at HxN
    rw [hBq] at HzN
    rw [hxi, hzi] at HP
    obtain ⟨xn, hxn⟩ : ∃ xn, xi + A = xn := ⟨_, rfl⟩
    obtain ⟨zn, hzn⟩ : ∃ zn, zi + Bq = zn := ⟨_, rfl⟩
    rw [hxn] at r4 HxN
    rw [hzn] at s4 HzN
    have hq4 : ¬ ((ln : Int) < 0) := by omega
    have hq4' : decide ((ln : Int) < 0) = false := decide_eq_false hq4
    clear hkk hi hP hX hE hall hin H3 H5 Hmid hy hy' hyy hlt hln hpt hxi hzi hli bxi bzi htk hpw hcast hA hBq hl2 bA bB o1 o2 ha hb hxn hzn hL
    go_wp2_with fail
    refine (HIx.out wr).mono ?_
    rintro e w1 ⟨rfl, hw1⟩
    subst hw1
    have p0 := HP.out.x0; have p1 := HP.out.x1; have p2 := HP.out.x2; have f0 := HP.out.f 0; have f1 := HP.out.f 1
    have HQ0 := Lib.hid (HP.out.put0 xn)
    have HwG := Lib.hid (show W0.heap.size ≤ G by have := HGe.out; omega)
    have HXa := Lib.hid (put1x (k := 0) HX.out HwG.out (.int .u16 (xn : Int))); have HEa := Lib.hid (put1x (g := G) (k := 0) HE.out (by have := HwH.out; have := HHG.out; omega) (.int .u16 (xn : Int)))
    clear HIx
    go_upto_region 10 with fail
    go_region
    clear p0 p1 p2 f0 f1 r1 r2 r3 r4
    generalize (w1.setCell ⟨G, 0, none⟩ (.int .u16 (xn : Int))).drew = W4 at *
    have p0 := HQ0.out.x0; have p1 := HQ0.out.x1; have p2 := HQ0.out.x2; have f0 := HQ0.out.f 0; have f1 := HQ0.out.f 1
    have HQ1 := Lib.hid (HQ0.out.put1 zn)
    have HXb := Lib.hid (put1x (k := 1) HXa.out HwG.out (.int .u16 (zn : Int))); have HEb := Lib.hid (put1x (g := G) (k := 1) HEa.out (by have := HwH.out; have := HHG.out; omega) (.int .u16 (zn : Int)))
    go_upto_region 11 with fail
    go_region
    clear p0 p1 p2 f0 f1 s1 s2 s3 s4
    generalize (W4.setCell ⟨G, 1, none⟩ (.int .u16 (zn : Int))).drew = W5 at *
    go_wp2_with fail
    go_roundg (n - (i + 1))
    case measure => have := Hkk.out; have := Hlt.out; omega
    case rel => exact ⟨i + 1, by congr 1, Hlt.out, rfl, by rw [HxN.out, HzN.out]; exact HQ1.out, HXb.out, HEb.out, HaN.out⟩
end Go.Proofs.YtbmjobpobjfjeaaDoor
namespace Go.Proofs.YtbmjobpobjfjeaaDoor
open Go.RowKit

/-- Bits as a number. -/
def numB : List Bool → Nat
  | [] => 0
  | b :: r => (if b then 1 else 0) + 2 * numB r
theorem numB_lt : ∀ l : List Bool, numB l < 2 ^ l.length
  | [] => by simp [numB]
  | b :: r => by
    have := numB_lt r
    rw [List.length_cons, Nat.pow_succ, numB]
    split <;> omega
theorem numB_snoc : ∀ (l : List Bool) (b : Bool), numB (l ++ [b]) = numB l + (if b then 1 else 0) * 2 ^ l.length
  | [], b => by simp [numB]
  | c :: r, b => by
    rw [List.cons_append, numB, numB, numB_snoc r b, List.length_cons, Nat.pow_succ]
    split <;> split <;> omega
theorem numB_at : ∀ (l : List Bool) (i : Nat) (b : Bool), l[i]? = some b → numB l / 2 ^ i % 2 = if b then 1 else 0
  | [], i, b, h => by simp at h
  | a :: r, 0, b, h => by
    have : a = b := by simpa using h
    rw [this, numB, Nat.pow_zero, Nat.div_one]
    split <;> omega
  | a :: r, i + 1, b, h => by
    have ih := numB_at r i b (by simpa using h)
    rw [numB, Nat.pow_succ, Nat.mul_comm (2 ^ i) 2, ← Nat.div_div_eq_div_mul, show ((if a = true then 1 else 0) + 2 * numB r) / 2 = numB r by split <;> omega]
    exact ih
/-- The syndrome as it is kept. -/
def shN (l : List PK) (p : PK) : Nat := numB (l.map fun g => !(cmB p g))

set_option maxRecDepth 100000 in
set_option maxHeartbeats 2000000 in
theorem shown_any (l : List PK) (p : PK) (N : Int) (ao : Option Addr) (n c : Nat) (mp : Option Nat) (w : World) (hl : PsAt w ao n l) (hn : n ≤ 12) :
    Calls Tryd.prog 40 #[.agg #[.int .i64 N, .slice ao n c, .map mp], .agg #[.int .u16 (p.x : Int), .int .u16 (p.z : Int), .bool p.m]] w fun e w' => e = .returned (.int .u16 (shN l p : Int)) ∧ Ext w w' := by
  obtain ⟨U1, hU1⟩ : ∃ U, w.alloc (.cells #[.int .i64 N, .slice ao n c, .map mp] 44) = U := ⟨_, rfl⟩
  obtain ⟨U, hU⟩ : ∃ U, U1.alloc (.cells #[.int .u16 (p.x : Int), .int .u16 (p.z : Int), .bool p.m] 66) = U := ⟨_, rfl⟩
  obtain ⟨H, hH⟩ : ∃ H, w.heap.size = H := ⟨_, rfl⟩
  have s1 : U1.heap.size = H + 1 := by rw [← hU1, ← hH]; simp
  have E1 : Ext w U1 := by rw [← hU1]; exact ext_al _ _
  have E2 : Ext U1 U := by rw [← hU]; exact ext_al _ _
  have F0 : FrB U H N ao n c mp := FrB.ext (by rw [← hU1, ← hH]; exact FrB.new w _ _ _ _ _) E2
  have P0 : PuB U (H + 1) p.x p.z p.m := by rw [← hU, ← s1]; exact PuB.new U1 _ _ _
  have Hl := Lib.hid (hl.ext (E1.trans E2)); have Hn := Lib.hid hn; have Hln := Lib.hid (show l.length = n from hl.1)
  have HEU := Lib.hid (E1.trans E2); have HF := Lib.hid F0; have HP := Lib.hid P0; have HU1 := Lib.hid hU1; have HU := Lib.hid hU; have HH := Lib.hid hH
  have k1 := F0.x1
  clear hl hn E1 E2 F0 P0 hU hU1 hH s1
  go_enter Tryd.func40, Tryd.ntmps40
  go_upto_region 2 with fail
  rw [HU1.out, HU.out, HH.out]
  clear HU1 HU HH
  go_wp2_with fail
  clear k1
  go_loopg [5, 6, 7, 11] n (fun kk s5 s6 s7 s11 wr => ∃ i : Nat, s11 = .int .i64 (i : Int) ∧ s5 = .int .u16 (shN (l.take i) p : Int) ∧ i ≤ n ∧ n - i = kk ∧ Ext U wr)
  case atStart => exact ⟨0, rfl, by simp [shN, numB], Nat.zero_le _, rfl, Ext.refl _⟩
  case round =>
    obtain ⟨i, rfl, rfl, hi, hkk, hX⟩ := hrel
    have Hkk := Lib.hid hkk; have HX := Lib.hid hX
    by_cases hin : i = n
    · have q1 : ¬ (i : Int) < (n : Int) := by omega
      have hst : l.take i = l := List.take_of_length_le (by have := Hln.out; omega)
      rw [hst]
      clear hkk hi hX hin hst
      go_wp2_with fail
      go_ret
      exact ⟨rfl, HEU.out.trans HX.out⟩
    have hlt : i < n := by omega
    have q1 : (i : Int) < (n : Int) := by omega
    have q0 : (0 : Int) ≤ (i : Int) := by omega
    have wk : IntKind.i64.wrap ((i : Int) + 1) = ((i + 1 : Nat) : Int) := by rw [IntKind.wrap_i64]; have := Hn.out; omega
    obtain ⟨q, hq⟩ : ∃ q, l[i]? = some q := ⟨_, List.getElem?_eq_getElem (by have := Hln.out; omega)⟩
    obtain ⟨b, o, rfl, hb, hcells⟩ := (Hl.out.ext hX).2.resolve_left (by omega)
    obtain ⟨c0, c1, c2⟩ := hcells i q hq
    obtain ⟨W3, hW3⟩ : ∃ W3, wr.alloc (.cells #[.int .u16 (q.x : Int), .int .u16 (q.z : Int), .bool q.m] 66) = W3 := ⟨_, rfl⟩
    obtain ⟨G, hG⟩ : ∃ G, wr.heap.size = G := ⟨_, rfl⟩
    have E3 : Ext wr W3 := by rw [← hW3]; exact ext_al _ _
    have Pq : PuB W3 G q.x q.z q.m := by rw [← hW3, ← hG]; exact PuB.new wr _ _ _
    have HC := Lib.hid (Commutes_any p.x p.z q.x q.z p.m q.m W3 p.hx p.hz q.hx q.hz)
    unfold pv at HC
    obtain ⟨B, hB⟩ : ∃ B, cmB p q = B := ⟨_, rfl⟩
    rw [show (((pcF 16 ((p.x &&& q.z) ^^^ (p.z &&& q.x)) : Nat) : Int).tmod 2 == 0) = B from hB] at HC
    have hli : ((l.take i).map fun g => !(cmB p g)).length = i := by rw [List.length_map, List.length_take]; have := Hln.out; omega
    have Hst := Lib.hid (show shN (l.take (i + 1)) p = shN (l.take i) p + (if !B then 1 else 0) * 2 ^ i by
      unfold shN
      rw [List.take_add_one, hq]
      show numB (((l.take i) ++ [q]).map _) = _
      rw [List.map_append, List.map_cons, List.map_nil, numB_snoc, hli, hB])
    obtain ⟨s, hs⟩ : ∃ s, shN (l.take i) p = s := ⟨_, rfl⟩
    have bs : s < 2 ^ i := by rw [← hs]; unfold shN; have := numB_lt ((l.take i).map fun g => !(cmB p g)); rw [hli] at this; exact this
    have hpw : 2 ^ i ≤ 2 ^ 11 := Nat.pow_le_pow_right (by decide) (by have := Hn.out; omega)
    have h11 : (2 : Nat) ^ 11 = 2048 := by decide
    have hcast : ((2 ^ i : Nat) : Int) = (2 : Int) ^ i := by rw [Int.natCast_pow]; rfl
    obtain ⟨P2, hP2⟩ : ∃ P2, 2 ^ i = P2 := ⟨_, rfl⟩
    have r3 : IntKind.u16.wrap ((2 : Int) ^ min i 16) = (P2 : Int) := by rw [show min i 16 = i by have := Hn.out; omega, ← hcast, hP2]; exact wrapu (by omega)
    have r4 : bits .or .u16 (s : Int) (P2 : Int) = ((s + P2 : Nat) : Int) := by
      rw [or_u16 (by omega) (by omega)]
      have := or_plus 1 bs
      rw [Nat.one_mul, hP2] at this
      rw [this]
    rw [hs] at Hst ⊢
    rw [hP2] at Hst
    have HE3 := Lib.hid (HX.out.trans E3); have HW3 := Lib.hid hW3; have HPq := Lib.hid Pq; have HPp := Lib.hid (HP.out.ext (hX.trans E3)); have Hlt := Lib.hid hlt
    clear hkk hi hX hin hq hcells hb hlt hB E3 Pq hW3 hli hs bs hpw h11 hcast hP2
    go_upto_region 5 with fail
    rw [HW3.out]
    clear c0 c1 c2 HW3 hG
    have k0 := HPp.out.x0; have k1 := HPp.out.x1; have k2 := HPp.out.x2; have p0 := HPq.out.x0; have p1 := HPq.out.x1; have p2 := HPq.out.x2
    go_wp2_with fail
    refine HC.out.mono ?_
    rintro e w1 ⟨rfl, h1⟩
    have H1 := Lib.hid (HE3.out.trans h1)
    clear h1 k0 k1 k2 p0 p1 p2 HC
    cases B
    · go_wp2_with fail
      go_roundg (n - (i + 1))
      case measure => have := Hkk.out; have := Hlt.out; omega
      case rel => exact ⟨i + 1, rfl, by rw [Hst.out]; simp only [Bool.not_false, if_true, Nat.one_mul, Int.natCast_add], Hlt.out, rfl, H1.out⟩
    · clear r3 r4
      go_wp2_with fail
      go_roundg (n - (i + 1))
      case measure => have := Hkk.out; have := Hlt.out; omega
      case rel => exact ⟨i + 1, rfl, by rw [Hst.out]; simp only [Bool.not_true, Bool.false_eq_true, if_false, Nat.zero_mul, Nat.add_zero], Hlt.out, rfl, H1.out⟩
end Go.Proofs.YtbmjobpobjfjeaaDoor
namespace Go.Proofs.YtbmjobpobjfjeaaDoor
open Go.RowKit

/-- The first n bits of a number. -/
def bitsL (s n : Nat) : List Int := (List.range n).map fun i => ((s / 2 ^ i % 2 : Nat) : Int)
theorem bitsL_snoc (s n : Nat) : bitsL s (n + 1) = bitsL s n ++ [((s / 2 ^ n % 2 : Nat) : Int)] := by unfold bitsL; rw [List.range_succ, List.map_append]; rfl
theorem bitsL_len (s n : Nat) : (bitsL s n).length = n := by simp [bitsL]
theorem and1_u16 {k : Nat} (h : k < 65536) : bits .and .u16 (k : Int) 1 = ((k % 2 : Nat) : Int) := by
  have := and_u16 h (show 1 < 65536 by decide)
  rw [show k &&& 1 = k % 2 from Nat.and_two_pow_sub_one_eq_mod k 1] at this
  exact this

set_option maxRecDepth 100000 in
set_option maxHeartbeats 2000000 in
theorem list_any (s n : Nat) (w : World) (hs : s < 65536) (hn : n ≤ 12) :
    Calls Tryd.prog 41 #[.int .u16 (s : Int), .int .i64 (n : Int)] w fun e w' => (∃ v, e = .returned v ∧ w'.ownsRow w.heap.size 3 1 v n (iC (bitsL s n))) ∧ Ext w w' := by
  obtain ⟨i0, hi0, hz0, hz1, hz2⟩ := info_parts i_info
  have Hs := Lib.hid hs; have Hn := Lib.hid hn
  clear hs hn
  go_enter Tryd.func41, Tryd.ntmps41
  go_wp2_with fail
  go_loopg [5, 6, 8] n (fun kk s5 s6 s8 wr => Ext w wr ∧ ∃ i : Nat, s8 = .int .i64 (i : Int) ∧ i ≤ n ∧ n - i = kk ∧ wr.ownsRow w.heap.size 3 1 s5 i (iC (bitsL s i)))
  case atStart => exact ⟨Ext.refl _, 0, rfl, Nat.zero_le _, rfl, ⟨rfl, Or.inl ⟨rfl, rfl⟩⟩⟩
  case round =>
    obtain ⟨hER, i, rfl, hi, hk, hown⟩ := hrel
    have HER := Lib.hid hER; have Hk := Lib.hid hk; have Hown := Lib.hid hown
    by_cases hin : i = n
    · have q1 : ¬ (i : Int) < (n : Int) := by omega
      subst hin
      clear hER hk hown hi
      go_wp2_with fail
      go_ret
      exact ⟨⟨_, rfl, Hown.out⟩, HER.out⟩
    have hlt : i < n := by omega
    have q1 : (i : Int) < (n : Int) := by omega
    have q0 : (0 : Int) ≤ (i : Int) := by omega
    have wk : IntKind.i64.wrap ((i : Int) + 1) = ((i + 1 : Nat) : Int) := by rw [IntKind.wrap_i64]; have := Hn.out; omega
    have hcast : ((2 ^ i : Nat) : Int) = (2 : Int) ^ i := by rw [Int.natCast_pow]; rfl
    obtain ⟨d, hd⟩ : ∃ d, s / 2 ^ i = d := ⟨_, rfl⟩
    have bd : d < 65536 := by rw [← hd]; exact Nat.lt_of_le_of_lt (Nat.div_le_self _ _) Hs.out
    have r1 : (s : Int) / 2 ^ i = (d : Int) := by rw [← hcast, ← Int.natCast_ediv, hd]
    have r1' : (s : Int) / 2 ^ min i 16 = (d : Int) := by rw [show min i 16 = i by have := Hn.out; omega]; exact r1
    have r2 := and1_u16 bd
    obtain ⟨e, he⟩ : ∃ e, d % 2 = e := ⟨_, rfl⟩
    rw [he] at r2
    have r3 : wrap64 (e : Int) = (e : Int) := by unfold wrap64; omega
    have Hst := Lib.hid (show bitsL s (i + 1) = bitsL s i ++ [(e : Int)] by rw [bitsL_snoc, hd, he])
    have Hlt := Lib.hid hlt
    clear hER hk hown hi hin hlt hcast hd bd he
    go_wp2_with (at_builtin; refine wpList_append_own _ rfl _ _ 56 rfl w.heap.size 3 i0 (.int .i64 0) 1 8 Tryd.underlying56 hi0 hz0 hz1 hz2 rfl (by decide) _ i (iC (bitsL s i)) rfl (Hown.out.alloc _) ⟨wr.heap.size, 0, none⟩ 1 1 [.int .i64 (e : Int)] rfl rfl (new_i wr _ _) (by simp [Value.oneCell']) (by unfold maxLen; have := Hn.out; have := Hlt.out; omega) (by have := Hn.out; have := Hlt.out; omega) (Nat.le_trans HER.out.size (ext_al wr _).size) ?_; intro v' w7 hown' hgrow' _)
    go_roundg (n - (i + 1))
    case measure => have := Hk.out; have := Hlt.out; omega
    case rel => exact ⟨grown_ext (HER.out.trans (ext_al wr _)) hgrow' (fun k hk => (own_lt Hown.out k hk).1), i + 1, rfl, Hlt.out, rfl, by rw [Hst.out]; unfold iC at hown' ⊢; rw [List.map_append]; exact hown'⟩

end Go.Proofs.YtbmjobpobjfjeaaDoor
namespace Go.Proofs.YtbmjobpobjfjeaaDoor
open Go.RowKit

/-- A code in a variable. -/
structure CoB (w : World) (g : Nat) (N : Int) (a : Option Addr) (n c : Nat) : Prop where
  row : w.heap[g]? = some (.cells #[.int .i64 N, .slice a n c] 24 (0, 0))
section
variable {w w' : World} {g : Nat} {N : Int} {a : Option Addr} {n c : Nat}
theorem CoB.lt (h : CoB w g N a n c) : g < w.heap.size := (Array.getElem?_eq_some_iff.1 h.row).1
theorem CoB.ext (h : CoB w g N a n c) (k : Ext w w') : CoB w' g N a n c := ⟨(k.block _ h.lt).trans h.row⟩
theorem CoB.x0 (h : CoB w g N a n c) : w.cell? ⟨g, 0, none⟩ = some (.int .i64 N) := by rw [cell_of_row w g 0 _ _ (0, 0) h.row]; rfl
theorem CoB.x1 (h : CoB w g N a n c) : w.cell? ⟨g, 1, none⟩ = some (.slice a n c) := by rw [cell_of_row w g 1 _ _ (0, 0) h.row]; rfl
end
theorem CoB.new (w : World) (N : Int) (a : Option Addr) (n c : Nat) : CoB (w.alloc (.cells #[.int .i64 N, .slice a n c] 24)) w.heap.size N a n c := ⟨heap_alloc_new w _⟩
theorem own_kpt {w w' : World} {base n : Nat} {t : TypeId} {v : Value} {l : List Value} (h : w.ownsRow base t 1 v n l) (k : Ext w w') : w'.ownsRow base t 1 v n l := by
  obtain ⟨h1, h2 | ⟨g, cap, cur, e1, e2, e3, e4⟩⟩ := h
  · exact ⟨h1, Or.inl h2⟩
  · exact ⟨h1, Or.inr ⟨g, cap, cur, e1, e2, (k.block g (Array.getElem?_eq_some_iff.1 e3).1).trans e3, e4⟩⟩
theorem own_low {w : World} {base base' n : Nat} {t : TypeId} {v : Value} {l : List Value} (h : w.ownsRow base t 1 v n l) (k : base' ≤ base) : w.ownsRow base' t 1 v n l := by
  obtain ⟨h1, h2 | ⟨g, cap, cur, e1, e2, e3, e4⟩⟩ := h
  · exact ⟨h1, Or.inl h2⟩
  · exact ⟨h1, Or.inr ⟨g, cap, cur, e1, Nat.le_trans k e2, e3, e4⟩⟩
/-- The syndrome, by letters. -/
def synL (gens : List (List UInt8)) (e : List UInt8) : List Int := gens.map fun T => if apN (T.drop 1) e % 2 = 1 then 1 else 0
theorem drop_one_piece (T : List UInt8) : (⟨T.toArray⟩ : ByteArray).extract 1 T.length = ⟨(T.drop 1).toArray⟩ := by
  rw [piece, List.take_of_length_le (by rw [List.length_drop]; exact Nat.le_refl _)]
theorem apart_bool (a b : List UInt8) : ((((apN a b : Nat) : Int).tmod 2 == 1)) = decide (apN a b % 2 = 1) := by
  rw [Int.tmod_eq_emod_of_nonneg (by omega)]
  by_cases h : apN a b % 2 = 1
  · rw [decide_eq_true h]; exact beq_iff_eq.2 (by omega)
  · rw [decide_eq_false h]; exact beq_eq_false_iff_ne.2 (by omega)

end Go.Proofs.YtbmjobpobjfjeaaDoor
namespace Go.Proofs.YtbmjobpobjfjeaaDoor

/-- Letters of n qubits. -/
def Let (n : Nat) (a : List UInt8) : Prop := a.length = n ∧ ∀ c ∈ a, isL c = true
/-- A Pauli is those letters. -/
def IsT (p : PK) (a : List UInt8) : Prop := p.x = nX a ∧ p.z = nZz a
theorem cm_ap {n : Nat} (hn : n ≤ 16) {a b : List UInt8} (ha : Let n a) (hb : Let n b) {p q : PK} (hp : IsT p a) (hq : IsT q b) : cmB p q = decide (apN a b % 2 = 0) := by
  unfold cmB
  rw [hp.1, hp.2, hq.1, hq.2]
  have h1 := ap_pc a b (by rw [ha.1, hb.1]) ha.2 hb.2
  have hx1 := nX_lt a; have hz1 := nZz_lt a
  have hlt : (nX a &&& nZz b) ^^^ (nZz a &&& nX b) < 2 ^ a.length := Nat.xor_lt_two_pow (Nat.lt_of_le_of_lt Nat.and_le_left hx1) (Nat.lt_of_le_of_lt Nat.and_le_left hz1)
  rw [pcF_more a.length _ hlt 16 (by rw [ha.1]; exact hn), ← h1, Int.tmod_eq_emod_of_nonneg (by omega)]
  by_cases h : apN a b % 2 = 0
  · rw [decide_eq_true h]; exact beq_iff_eq.2 (by omega)
  · rw [decide_eq_false h]; exact beq_eq_false_iff_ne.2 (by omega)
/-- Both lists of products tell the same. -/
def Both (n : Nat) (out : List (List UInt8)) (ks : List (Nat × Nat)) : Prop := (∀ p ∈ out, Let n p) ∧ ks = out.map fun p => (nX p, nZz p)
theorem both_step {n : Nat} {out : List (List UInt8)} {ks : List (Nat × Nat)} (h : Both n out ks) {g : PK} {a : List UInt8} (ha : Let n a) (hg : IsT g a) : Both n (out ++ out.map (fun p => mulT p a)) (ks ++ ks.map (fun q => (q.1 ^^^ g.x, q.2 ^^^ g.z))) := by
  have hm : ∀ p ∈ out, (mulT p a).length = p.length ∧ (∀ c ∈ mulT p a, isL c = true) ∧ nX (mulT p a) = nX p ^^^ nX a ∧ nZz (mulT p a) = nZz p ^^^ nZz a := fun p hp => mulT_is p a (by rw [(h.1 p hp).1, ha.1]) (h.1 p hp).2 ha.2
  refine ⟨fun p hp => ?_, ?_⟩
  · rcases List.mem_append.1 hp with hp | hp
    · exact h.1 p hp
    · obtain ⟨q, hq, rfl⟩ := List.mem_map.1 hp
      have := hm q hq
      exact ⟨this.1.trans (h.1 q hq).1, this.2.1⟩
  · rw [List.map_append, h.2, List.map_map, List.map_map]
    congr 1
    refine List.map_congr_left fun p hp => ?_
    have := hm p hp
    simp only [Function.comp_apply]
    rw [this.2.2.1, this.2.2.2, hg.1, hg.2]
theorem both_all {n : Nat} : ∀ (ls : List (List UInt8)) (ps : List PK) (out : List (List UInt8)) (ks : List (Nat × Nat)), ls.length = ps.length → (∀ a ∈ ls, Let n a) → (∀ (i : Nat) (a : List UInt8) (p : PK), ls[i]? = some a → ps[i]? = some p → IsT p a) → Both n out ks →
    Both n (ls.foldl (fun out g => out ++ out.map (fun p => mulT p g)) out) (ps.foldl (fun out g => out ++ out.map (fun q => (q.1 ^^^ g.x, q.2 ^^^ g.z))) ks)
  | [], [], _, _, _, _, _, h => h
  | [], _ :: _, _, _, hl, _, _, _ => by simp at hl
  | _ :: _, [], _, _, hl, _, _, _ => by simp at hl
  | a :: ls, p :: ps, out, ks, hl, ha, hp, h => both_all ls ps _ _ (by simpa using hl) (fun x hx => ha x (by simp [hx])) (fun i x y h1 h2 => hp (i + 1) x y (by simpa using h1) (by simpa using h2)) (both_step h (ha a (by simp)) (hp 0 a p (by simp) (by simp)))
/-- Letters are a product just where their numbers are. -/
theorem grp_gs {n : Nat} {ls : List (List UInt8)} {ps : List PK} (hl : ls.length = ps.length) (ha : ∀ a ∈ ls, Let n a) (hp : ∀ (i : Nat) (a : List UInt8) (p : PK), ls[i]? = some a → ps[i]? = some p → IsT p a) {t : List UInt8} (ht : Let n t) : (nX t, nZz t) ∈ gsL ps ↔ t ∈ grp n ls := by
  have h0 : Both n [oneT n] [(0, 0)] := ⟨fun p hp => by
    have : p = oneT n := by simpa using hp
    rw [this]
    exact ⟨(oneT_is n).1, (oneT_is n).2.1⟩, by
    rw [List.map_cons, List.map_nil, (oneT_is n).2.2.1, (oneT_is n).2.2.2]⟩
  obtain ⟨h1, h2⟩ := both_all ls ps _ _ hl ha hp h0
  have e : gsL ps = (grp n ls).map fun p => (nX p, nZz p) := h2
  rw [e, List.mem_map]
  constructor
  · rintro ⟨p, hp', he⟩
    have hL := h1 p hp'
    injection he with e1 e2
    have := lets_ext p t (by rw [hL.1, ht.1]) hL.2 ht.2 e1 e2
    rw [← this]
    exact hp'
  · exact fun h => ⟨t, h, rfl⟩
end Go.Proofs.YtbmjobpobjfjeaaDoor
namespace Go.Proofs.YtbmjobpobjfjeaaDoor
open Go.RowKit

/-- Texts without their first signs. -/
def barL (gens : List (List UInt8)) : List (List UInt8) := gens.map fun T => T.drop 1
theorem barL_len (gens : List (List UInt8)) : (barL gens).length = gens.length := by simp [barL]

set_option maxRecDepth 100000 in
set_option maxHeartbeats 2000000 in
theorem bare_any (gens : List (List UInt8)) (ao : Option Addr) (k c : Nat) (w : World) (hG : StrsAt w ao k gens) (hk : k ≤ 12) (hall : ∀ T ∈ gens, 1 ≤ T.length) :
    Calls Tryd.prog 17 #[.slice ao k c] w fun r w' => (∃ v, r = .returned v ∧ w'.ownsRow w.heap.size 9 1 v k (sC (barL gens))) ∧ Ext w w' := by
  obtain ⟨i0, hi0, hz0, hz1, hz2⟩ := info_parts s_info
  have HG := Lib.hid hG; have Hk := Lib.hid hk; have Hall := Lib.hid hall
  have Hlg := Lib.hid (show gens.length = k from hG.1)
  clear hG hk hall
  go_enter Tryd.func17, Tryd.ntmps17
  go_wp2_with fail
  go_loopg [3, 4] k (fun kk s3 s4 wr => Ext w wr ∧ ∃ i : Nat, s4 = .int .i64 (i : Int) ∧ i ≤ k ∧ k - i = kk ∧ wr.ownsRow w.heap.size 9 1 s3 i (sC (barL (gens.take i))))
  case atStart => exact ⟨Ext.refl _, 0, rfl, Nat.zero_le _, rfl, ⟨rfl, Or.inl ⟨rfl, rfl⟩⟩⟩
  case round =>
    obtain ⟨hER, i, rfl, hi, hkk, hown⟩ := hrel
    have HER := Lib.hid hER; have Hkk := Lib.hid hkk; have Hown := Lib.hid hown
    by_cases hin : i = k
    · have q1 : ¬ (i : Int) < (k : Int) := by omega
      have hst : gens.take i = gens := List.take_of_length_le (by have := Hlg.out; omega)
      rw [hst] at Hown
      subst hin
      clear hER hkk hown hi hst
      go_wp2_with fail
      go_ret
      exact ⟨⟨_, rfl, Hown.out⟩, HER.out⟩
    have hlt : i < k := by omega
    have q1 : (i : Int) < (k : Int) := by omega
    have q0 : (0 : Int) ≤ (i : Int) := by omega
    have wk : IntKind.i64.wrap ((i : Int) + 1) = ((i + 1 : Nat) : Int) := by rw [IntKind.wrap_i64]; have := Hk.out; omega
    obtain ⟨T, hT⟩ : ∃ T, gens[i]? = some T := ⟨_, List.getElem?_eq_getElem (by have := Hlg.out; omega)⟩
    obtain ⟨b, o, rfl, hb, hcells⟩ := (HG.out.ext hER).at (by omega)
    have c0 := hcells i hlt
    have hgd : gens.getD i [] = T := by rw [List.getD_eq_getElem?_getD, hT]; rfl
    rw [hgd] at c0
    have hTl := Hall.out T (List.mem_of_getElem? hT)
    have hsT : (⟨T.toArray⟩ : ByteArray).size = T.length := by simp [ByteArray.size]
    have hpc := drop_one_piece T
    have h1T : (1 : Int) ≤ (T.length : Int) := by omega
    obtain ⟨D, hD⟩ : ∃ D, T.drop 1 = D := ⟨_, rfl⟩
    rw [hD] at hpc
    have Hst := Lib.hid (show sC (barL (gens.take (i + 1))) = sC (barL (gens.take i)) ++ [.string ⟨D.toArray⟩] by
      rw [List.take_add_one, hT]
      show sC (barL (gens.take i ++ [T])) = _
      unfold barL
      rw [List.map_append, List.map_cons, List.map_nil, hD, sC_snoc])
    have Hlt := Lib.hid hlt
    clear hER hkk hown hi hin hlt hT hcells hb hgd hTl hD
    go_wp2_with (at_builtin; refine wpList_append_own _ rfl _ _ 22 rfl w.heap.size 9 i0 (.string ⟨#[]⟩) 1 16 Tryd.underlying22 hi0 hz0 hz1 hz2 rfl (by decide) _ i (sC (barL (gens.take i))) rfl (Hown.out.alloc _) ⟨wr.heap.size, 0, none⟩ 1 1 [.string ⟨D.toArray⟩] rfl rfl (new_s wr _ _) (one_s _) (by unfold maxLen; have := Hk.out; have := Hlt.out; omega) (by have := Hk.out; have := Hlt.out; omega) (Nat.le_trans HER.out.size (ext_al wr _).size) ?_; intro v' w7 hown' hgrow' _)
    go_roundg (k - (i + 1))
    case measure => have := Hkk.out; have := Hlt.out; omega
    case rel => exact ⟨grown_ext (HER.out.trans (ext_al wr _)) hgrow' (fun k hk => (own_lt Hown.out k hk).1), i + 1, rfl, Hlt.out, rfl, by rw [Hst.out]; exact hown'⟩

theorem mulT_take : ∀ (a b : List UInt8) (i : Nat) (x y : UInt8), a[i]? = some x → b[i]? = some y → mulT (a.take (i + 1)) (b.take (i + 1)) = mulT (a.take i) (b.take i) ++ [mulL x y] := by
  intro a b i x y hx hy
  rw [List.take_add_one, List.take_add_one, hx, hy]
  unfold mulT
  show List.zipWith mulL (a.take i ++ [x]) (b.take i ++ [y]) = _
  rw [List.zipWith_append (by rw [List.length_take, List.length_take]; have h1 := (List.getElem?_eq_some_iff.1 hx).1; have h2 := (List.getElem?_eq_some_iff.1 hy).1; omega)]
  rfl
theorem one_piece {l : List UInt8} {i : Nat} {x : UInt8} (h : l[i]? = some x) : (⟨l.toArray⟩ : ByteArray).extract i (i + 1) = ⟨#[x]⟩ := by
  apply ByteArray.ext
  obtain ⟨h1, h2⟩ := List.getElem?_eq_some_iff.1 h
  apply Array.ext
  · simp [ByteArray.data_extract]
    omega
  · intro j hj1 hj2
    have : j = 0 := by simp at hj2; omega
    subst this
    simp [ByteArray.data_extract, h2]
/-- The third letter as the reference looks for it. -/
def thL (x y : UInt8) : Nat → UInt8
  | 0 => 88
  | k + 1 => if ([88, 89, 90] : List UInt8).getD k 0 ≠ x ∧ ([88, 89, 90] : List UInt8).getD k 0 ≠ y then ([88, 89, 90] : List UInt8).getD k 0 else thL x y k
theorem thL_mul {x y : UInt8} (hx : isL x = true) (hy : isL y = true) (h1 : x ≠ 73) (h2 : x ≠ y) (h3 : y ≠ 73) : thL x y 3 = mulL x y := by
  rcases isL_cases hx with rfl | rfl | rfl | rfl <;> rcases isL_cases hy with rfl | rfl | rfl | rfl <;> first | exact absurd rfl h1 | exact absurd rfl h2 | exact absurd rfl h3 | rfl
end Go.Proofs.YtbmjobpobjfjeaaDoor
namespace Go.Proofs.YtbmjobpobjfjeaaDoor
open Go.RowKit

set_option maxRecDepth 100000 in
set_option maxHeartbeats 4000000 in
theorem lettersTimes_any (a b : List UInt8) (n : Nat) (w : World) (ha : Let n a) (hb : Let n b) (hn : n ≤ 1000) :
    Calls Tryd.prog 39 #[.string ⟨a.toArray⟩, .string ⟨b.toArray⟩] w fun e w' => e = .returned (.string ⟨(mulT a b).toArray⟩) ∧ Ext w w' := by
  have Ha := Lib.hid ha; have Hb := Lib.hid hb; have Hn := Lib.hid hn
  have hsa : (⟨a.toArray⟩ : ByteArray).size = n := by rw [← ha.1]; simp [ByteArray.size]
  have hsb : (⟨b.toArray⟩ : ByteArray).size = n := by rw [← hb.1]; simp [ByteArray.size]
  clear ha hb hn
  go_enter Tryd.func39, Tryd.ntmps39
  go_wp2_with fail
  go_loopg [5, 6, 7, 8] n (fun k s5 s6 _ _ wr => Ext w wr ∧ ∃ i : Nat, s5 = .string ⟨(mulT (a.take i) (b.take i)).toArray⟩ ∧ s6 = .int .i64 (i : Int) ∧ i ≤ n ∧ n - i = k)
  case atStart => exact ⟨Ext.refl _, 0, rfl, rfl, Nat.zero_le _, rfl⟩
  case round =>
    obtain ⟨hER, i, rfl, rfl, hi, hk⟩ := hrel
    have HER := Lib.hid hER; have Hk := Lib.hid hk
    clear hER hk
    by_cases hin : i = n
    · have q1 : ¬ (i : Int) < (n : Int) := by omega
      have e1 : a.take i = a := List.take_of_length_le (by have := Ha.out.1; omega)
      have e2 : b.take i = b := List.take_of_length_le (by have := Hb.out.1; omega)
      rw [e1, e2]
      clear e1 e2 hin hi
      go_wp2_with fail
      go_ret
      exact ⟨rfl, HER.out⟩
    have hlt : i < n := by omega
    have q1 : (i : Int) < (n : Int) := by omega
    have q0 : (0 : Int) ≤ (i : Int) := by omega
    obtain ⟨x, hx⟩ : ∃ x, a[i]? = some x := ⟨_, List.getElem?_eq_getElem (by have := Ha.out.1; omega)⟩
    obtain ⟨y, hy⟩ : ∃ y, b[i]? = some y := ⟨_, List.getElem?_eq_getElem (by have := Hb.out.1; omega)⟩
    have hsz : i < (⟨a.toArray⟩ : ByteArray).size := str_lt (by have := Ha.out.1; omega)
    have hsy : i < (⟨b.toArray⟩ : ByteArray).size := str_lt (by have := Hb.out.1; omega)
    have hg := let_at hx hsz
    have hg' := let_at hy hsy
    have hpx := one_piece hx; have hpy := one_piece hy
    have hix := Ha.out.2 x (List.mem_of_getElem? hx); have hiy := Hb.out.2 y (List.mem_of_getElem? hy)
    have wk : IntKind.i64.wrap ((i : Int) + 1) = ((i + 1 : Nat) : Int) := by rw [IntKind.wrap_i64]; have := Hn.out; omega
    have q2 : ((i + 1 : Nat) : Int) ≤ (n : Int) := by omega
    have q3 : (i : Int) ≤ ((i + 1 : Nat) : Int) := by omega
    have Hst := Lib.hid (mulT_take a b i x y hx hy)
    obtain ⟨O, hO⟩ : ∃ O, mulT (a.take i) (b.take i) = O := ⟨_, rfl⟩
    have hOl : O.length ≤ i := by rw [← hO]; unfold mulT; rw [List.length_zipWith, List.length_take, List.length_take]; omega
    have hs1 : ¬ 9223372036854775807 < O.length + 1 := by have := Hn.out; omega
    rw [hO] at Hst ⊢
    have Hlt := Lib.hid hlt; have Hix := Lib.hid hix; have Hiy := Lib.hid hiy
    clear hx hy hO hOl hin hi hlt hix hiy
    by_cases c1 : x = 73
    · have t1 : ((x.toNat : Int) == 73) = true := bt' (by rw [c1]; rfl)
      have HA := Lib.hid (show (⟨O.toArray⟩ : ByteArray) ++ ⟨#[y]⟩ = ⟨(mulT (a.take (i + 1)) (b.take (i + 1))).toArray⟩ by rw [Hst.out, ← str_append]; unfold mulL; rw [if_pos c1])
      clear c1
      go_wp2_with fail
      go_roundg (n - (i + 1))
      case measure => have := Hk.out; have := Hlt.out; omega
      case rel => exact ⟨HER.out, i + 1, congrArg Value.string HA.out, rfl, Hlt.out, rfl⟩
    have t1 : ((x.toNat : Int) == 73) = false := bf (u8_ne (k := 73) (by decide) c1)
    by_cases c2 : x = y
    · have t2 : ((x.toNat : Int) == (y.toNat : Int)) = true := bt' (by rw [c2])
      have HA := Lib.hid (show (⟨O.toArray⟩ : ByteArray) ++ ⟨#[73]⟩ = ⟨(mulT (a.take (i + 1)) (b.take (i + 1))).toArray⟩ by rw [Hst.out, ← str_append]; unfold mulL; rw [if_neg c1, if_pos c2])
      clear c1 c2
      go_upto_region 8 with fail
      go_quiet (fail)
      go_wp2_with fail
      go_roundg (n - (i + 1))
      case measure => have := Hk.out; have := Hlt.out; omega
      case rel => exact ⟨HER.out.trans (ext_drewN wr _), i + 1, congrArg Value.string HA.out, rfl, Hlt.out, rfl⟩
    have t2 : ((x.toNat : Int) == (y.toNat : Int)) = false := by rw [u8_eqb]; exact beq_eq_false_iff_ne.2 c2
    by_cases c3 : y = 73
    · have t3 : ((y.toNat : Int) != 73) = false := nf' (by rw [c3]; rfl)
      have HA := Lib.hid (show (⟨O.toArray⟩ : ByteArray) ++ ⟨#[x]⟩ = ⟨(mulT (a.take (i + 1)) (b.take (i + 1))).toArray⟩ by rw [Hst.out, ← str_append]; unfold mulL; rw [if_neg c1, if_neg c2, if_pos c3])
      clear c1 c2 c3
      go_upto_region 8 with fail
      go_quiet (fail)
      go_wp2_with fail
      go_roundg (n - (i + 1))
      case measure => have := Hk.out; have := Hlt.out; omega
      case rel => exact ⟨HER.out.trans (ext_drewN wr _), i + 1, congrArg Value.string HA.out, rfl, Hlt.out, rfl⟩
    have t3 : ((y.toNat : Int) != 73) = true := nt (u8_ne (k := 73) (by decide) c3)
    have HA := Lib.hid (show (⟨O.toArray⟩ : ByteArray) ++ ⟨#[thL x y 3]⟩ = ⟨(mulT (a.take (i + 1)) (b.take (i + 1))).toArray⟩ by rw [Hst.out, ← str_append, thL_mul Hix.out Hiy.out c1 c2 c3])
    clear c1 c2 c3
    go_upto_region 8 with fail
    go_quiet (fail)
    go_wp2_with fail
    go_loopg [7, 8] 3 (fun kk s7 s8 wx => Ext w wx ∧ ∃ k : Nat, s8 = .int .i64 (k : Int) ∧ k ≤ 3 ∧ 3 - k = kk ∧ s7 = .string ⟨#[thL x y k]⟩)
    case atStart => exact ⟨HER.out.trans (ext_drewN wr _), 0, rfl, by omega, rfl, rfl⟩
    case round =>
      obtain ⟨hEx, k, rfl, hk3, hkk, rfl⟩ := hrel
      have HEx := Lib.hid hEx; have Hkk := Lib.hid hkk
      clear hEx hkk
      by_cases hk0 : k = 3
      · subst hk0
        obtain ⟨z, hz⟩ : ∃ z, thL x y 3 = z := ⟨_, rfl⟩
        rw [hz] at HA ⊢
        clear hz hk3
        go_wp2_with fail
        go_roundg (n - (i + 1))
        case measure => have := Hk.out; have := Hlt.out; omega
        case rel => exact ⟨HEx.out, i + 1, congrArg Value.string HA.out, rfl, Hlt.out, rfl⟩
      have p1 : (k : Int) < 3 := by omega
      have p0 : (0 : Int) ≤ (k : Int) := by omega
      have p2 : ((k + 1 : Nat) : Int) ≤ 3 := by omega
      have p3 : (k : Int) ≤ ((k + 1 : Nat) : Int) := by omega
      have wk3 : IntKind.i64.wrap ((k : Int) + 1) = ((k + 1 : Nat) : Int) := by rw [IntKind.wrap_i64]; omega
      obtain ⟨L, hL⟩ : ∃ L, ([88, 89, 90] : List UInt8)[k]? = some L := ⟨_, List.getElem?_eq_getElem (show k < ([88, 89, 90] : List UInt8).length by show k < 3; omega)⟩
      have hgL : ([88, 89, 90] : List UInt8).getD k 0 = L := by rw [List.getD_eq_getElem?_getD, hL]; rfl
      have hs3 : k < (⟨([88, 89, 90] : List UInt8).toArray⟩ : ByteArray).size := str_lt (by show k < 3; omega)
      have hg3 := let_at hL hs3
      have hp3 := one_piece hL
      have hz3 : (⟨([88, 89, 90] : List UInt8).toArray⟩ : ByteArray).size = 3 := rfl
      have HT := Lib.hid (show thL x y (k + 1) = if L ≠ x ∧ L ≠ y then L else thL x y k by rw [thL, hgL])
      have Hk3 := Lib.hid (show k + 1 ≤ 3 by omega)
      clear hL hgL hk3 hk0
      by_cases d1 : L = x
      · have n1 : ((L.toNat : Int) != (x.toNat : Int)) = false := nf' (by rw [d1])
        have HZ := Lib.hid (show thL x y k = thL x y (k + 1) by rw [HT.out, if_neg (fun h => h.1 d1)])
        obtain ⟨z, hz⟩ : ∃ z, thL x y k = z := ⟨_, rfl⟩
        rw [hz] at HZ ⊢
        clear d1 hz
        go_upto_region 15 with fail
        go_quiet (fail)
        go_wp2_with fail
        go_roundg (3 - (k + 1))
        case measure => have := Hkk.out; have := Hk3.out; omega
        case rel => exact ⟨HEx.out.trans (ext_drewN wr _), k + 1, rfl, Hk3.out, rfl, by rw [HZ.out]⟩
      have n1 : ((L.toNat : Int) != (x.toNat : Int)) = true := by rw [u8_neq, beq_eq_false_iff_ne.2 d1]; rfl
      by_cases d2 : L = y
      · have n2 : ((L.toNat : Int) != (y.toNat : Int)) = false := nf' (by rw [d2])
        have HZ := Lib.hid (show thL x y k = thL x y (k + 1) by rw [HT.out, if_neg (fun h => h.2 d2)])
        obtain ⟨z, hz⟩ : ∃ z, thL x y k = z := ⟨_, rfl⟩
        rw [hz] at HZ ⊢
        clear d1 d2 hz
        go_upto_region 15 with fail
        go_quiet (fail)
        go_wp2_with fail
        go_roundg (3 - (k + 1))
        case measure => have := Hkk.out; have := Hk3.out; omega
        case rel => exact ⟨HEx.out.trans (ext_drewN wr _), k + 1, rfl, Hk3.out, rfl, by rw [HZ.out]⟩
      have n2 : ((L.toNat : Int) != (y.toNat : Int)) = true := by rw [u8_neq, beq_eq_false_iff_ne.2 d2]; rfl
      have HZ := Lib.hid (show L = thL x y (k + 1) by rw [HT.out, if_pos ⟨d1, d2⟩])
      obtain ⟨z, hz⟩ : ∃ z, thL x y k = z := ⟨_, rfl⟩
      rw [hz]
      clear d1 d2 hz
      go_upto_region 15 with fail
      go_quiet (fail)
      go_wp2_with fail
      go_roundg (3 - (k + 1))
      case measure => have := Hkk.out; have := Hk3.out; omega
      case rel => exact ⟨HEx.out.trans (ext_drewN wr _), k + 1, rfl, Hk3.out, rfl, by rw [← HZ.out]⟩
end Go.Proofs.YtbmjobpobjfjeaaDoor
