/-
  What Decode tells of an error's syndrome mends it: plain. The reference: do two errors differ by a product of generators (Mended)? CodeCorrects' walk. A circuit that was handed in, opened: its operations and their lists as they lie in memory. The table of kinds, as it is laid; what is asked behind a call that leaves all that lay there as it was. A code that was handed in, opened: its generators as they lie in memory; the table of letters, as it is laid.
-/
import Derived.Test.YtfoncakadficlaaDoorProg
import Derived.Test.YtfoncakadficlaaDoorRows
import Derived.BigQuiet
import Derived.Carry
import Derived.ChangeSame
import Derived.Deep.AppendLies
import Derived.Deep.Cut
import Derived.Deep.CutRange
import Derived.Deep.LoopGhost
import Derived.Deep.QuietTactic
import Derived.Deep.RegionHeld3
import Derived.Deep.Slices
import Derived.DeepKeys4
import Derived.FnData
import Derived.Laws.Bits64b
import Derived.Laws.CopyOwn
import Derived.Laws.ResultCell
import Derived.Lib.AppendStr
import Derived.Lib.AppendZeros
import Derived.Lib.BitFns
import Derived.Lib.Hide
import Derived.Lib.ItoaMem
import Derived.Lib.ItoaNum
import Derived.Lib.Strings
import Derived.LoopIn
import Derived.LoopNIn
import Derived.Maps.AppendAt
import Derived.Maps.OwnSet
import Derived.OpenShut
import Derived.OwnWalk
import Derived.OwnWalkIn
import Derived.RangeFuncBound
import Derived.RangeFuncBox
import Derived.RangeFuncCalls
import Derived.RangeFuncGives
import Derived.RangeFuncLeaves
import Derived.RangeFuncNested
import Derived.RangeFuncStops
import Derived.Shelf.Abstract
import Derived.Shelf.Bits.Mul64
import Derived.Shelf.RegionOpen
import Derived.Shelf.Small.Strs
import Derived.Shelf.Strings.Builder1
import Derived.Shelf.Strings.BuilderF
import Derived.Shelf.Strings.BuilderK
import Derived.Shelf.Strings.Prefix
import Derived.Shelf.Strings.Search1
import Derived.SizedLaws
import Derived.Sort.MapsRangeIn
import Derived.Stop.LaidErr
import Derived.TacticsInMore
import Derived.WalkKit
import Derived.WalkLawsBesides
import Derived.WalkSpells
import Derived.Test.YtfoncakadficlaaDoorS00Ca
import Derived.Test.YtfoncakadficlaaDoorShelf
import Derived.Test.YtfoncakadficlaaDoorS02Ig
import Derived.Test.YtfoncakadficlaaDoorS03In
import Derived.Test.YtfoncakadficlaaDoorS04It
import Derived.Test.YtfoncakadficlaaDoorS05Ix
import Derived.Test.YtfoncakadficlaaDoorS06Aa
import Derived.Test.YtfoncakadficlaaDoorS07Aj
import Derived.Test.YtfoncakadficlaaDoorS08Ah
namespace Go.Proofs.YtfoncakadficlaaDoor
open Go.RowKit

theorem wt_mul : ∀ a b : List UInt8, wtT (mulT a b) ≤ wtT a + wtT b
  | [], b => by simp [mulT, wtT]
  | a :: r, [] => by simp [mulT, wtT]
  | a :: r, b :: s => by
    have e : mulT (a :: r) (b :: s) = mulL a b :: mulT r s := rfl
    have ih := wt_mul r s
    rw [e, wtT, wtT, wtT]
    by_cases ha : a = 73
    · have : mulL a b = b := by unfold mulL; rw [if_pos ha]
      rw [this]
      omega
    · rw [if_neg ha]
      split <;> omega
theorem syn_len (gens : List (List UInt8)) (a : List UInt8) : (synL gens a).length = gens.length := by unfold synL; rw [List.length_map]
theorem syn_01 (gens : List (List UInt8)) (a : List UInt8) : ∀ x ∈ synL gens a, x = 0 ∨ x = 1 := by
  intro x hx
  unfold synL at hx
  obtain ⟨T, _, rfl⟩ := List.mem_map.1 hx
  split
  · exact Or.inr rfl
  · exact Or.inl rfl
/-- Two errors of one syndrome: their product has none. -/
theorem syn_mul {n : Nat} {gens : List (List UInt8)} (hall : ∀ T ∈ gens, isP n T = true) {a b : List UInt8} (ha : Let n a) (hb : Let n b) (h : synL gens b = synL gens a) : quB (synL gens (mulT b a)) = true := by
  have hbl := bar_let hall
  rw [syB, syB, List.map_map, List.map_map] at h
  have h1 := List.map_inj_left.1 h
  rw [syB, List.map_map]
  unfold quB
  rw [List.all_eq_true]
  intro x hx
  obtain ⟨g, hg, rfl⟩ := List.mem_map.1 hx
  have h2 := h1 g hg
  have hgl := hbl g hg
  have h3 : apB g (mulT b a) = (apB g b ^^ apB g a) := by
    rw [apB_comm g, apB_mul b a g (by rw [hb.1, ha.1]) (by rw [hb.1, hgl.1]) hb.2 ha.2 hgl.2, apB_comm b, apB_comm a]
  simp only [Function.comp_apply] at h2 ⊢
  rw [h3]
  cases h4 : apB g b <;> cases h5 : apB g a <;> rw [h4, h5] at h2 <;> first | rfl | exact absurd h2 (by decide)
/-- THE LAYER'S THEOREM, plain. -/
theorem mends {n : Nat} {gens : List (List UInt8)} (h : (ccF (n : Int) gens).1 = 0) {a : List UInt8} (ha : Let n a) :
    Let n (txL (deP n gens (synL gens a)) n) ∧ synL gens (txL (deP n gens (synL gens a)) n) = synL gens a ∧ wtT (txL (deP n gens (synL gens a)) n) ≤ wtT a ∧
      (2 * wtT a < diN n gens → inG (grR n (barL gens)) (mulT (txL (deP n gens (synL gens a)) n) a) = true) := by
  obtain ⟨_, h12, _, hall⟩ := cc_zero h
  rw [Int.toNat_natCast] at hall
  have hl := syn_len gens a
  have hs := syn_01 gens a
  obtain ⟨b, hb, hbl, hbs⟩ := bst_syn h hl hs
  rw [de_is h hl hs, hb]
  show Let n b ∧ synL gens b = synL gens a ∧ wtT b ≤ wtT a ∧ _
  have hsp := bst_spec wtT (synQ gens (synL gens a)) (erR n)
  rw [hb] at hsp
  have hw : wtT b ≤ wtT a := hsp.2.2 a ((erR_let n a).2 ha) (by unfold synQ; exact decide_eq_true rfl)
  refine ⟨hbl, hbs, hw, fun h2 => ?_⟩
  show inG (grR n (barL gens)) (mulT b a) = true
  cases hi : inG (grR n (barL gens)) (mulT b a)
  · exfalso
    have hq := syn_mul hall ha hbl hbs
    have hm : mulT b a ∈ erR n := (erR_let n _).2 (let_mul hbl ha)
    have hd := (di_is h).2.2
    have hsq := bst_spec wtT (fun e => quB (synL gens e) && !inG (grR n (barL gens)) e) (erR n)
    cases hx : bst wtT (fun e => quB (synL gens e) && !inG (grR n (barL gens)) e) (erR n) with
    | none =>
      rw [hx] at hsq
      have := hsq _ hm
      simp only [hq, hi] at this
      cases this
    | some x =>
      rw [hx] at hsq hd
      have := hsq.2.2 _ hm (by simp only [hq, hi]; rfl)
      have := wt_mul b a
      have : diN n gens = wtT x := hd
      omega
  · rfl
end Go.Proofs.YtfoncakadficlaaDoor
namespace Go.Proofs.YtfoncakadficlaaDoor
open Go.RowKit

set_option maxHeartbeats 4000000 in
set_option maxRecDepth 100000 in
theorem Mended_any (gens : List (List UInt8)) (ao : Option Addr) (k c : Nat) (w : World) (hG : StrsAt w ao k gens) (n : Nat) (hk : k ≤ n) (hn : n ≤ 12) (hall : ∀ T ∈ gens, isP n T = true) (a b : List UInt8) (ha : Let n a) (hb : Let n b) :
    Calls Tryd.prog 22 #[.agg #[.int .i64 (n : Int), .slice ao k c], .string ⟨a.toArray⟩, .string ⟨b.toArray⟩] w fun r w' => r = .returned (.bool (inG (grR n (barL gens)) (mulT a b))) ∧ Ext w w' := by
  obtain ⟨U, hU⟩ : ∃ U, w.alloc (.cells #[.int .i64 (n : Int), .slice ao k c] 24) = U := ⟨_, rfl⟩
  obtain ⟨H, hH⟩ : ∃ H, w.heap.size = H := ⟨_, rfl⟩
  have EU : Ext w U := by rw [← hU]; exact ext_al _ _
  have C0 : CoB U H n ao k c := by rw [← hU, ← hH]; exact CoB.new w _ _ _ _
  have HG := Lib.hid (hG.ext EU); have Hk := Lib.hid hk; have Hn := Lib.hid hn; have Hall := Lib.hid hall; have HEU := Lib.hid EU; have HU := Lib.hid hU; have HH := Lib.hid hH; have Ha := Lib.hid ha; have Hb := Lib.hid hb
  have Hlg := Lib.hid (show gens.length = k from hG.1)
  have k0 := C0.x0; have k1 := C0.x1
  clear hG hk hn hall EU C0 hU hH ha hb
  go_enter Tryd.func22, Tryd.ntmps22
  go_upto_region 1 with fail
  rw [HU.out, HH.out]
  clear HU HH
  have HBa := Lib.hid (bare_any gens ao k c U HG.out (by have := Hn.out; have := Hk.out; omega) (fun T hT => by have := (isP_let (Hall.out T hT)).1; omega))
  go_wp2_with fail
  refine HBa.out.mono ?_
  rintro e w1 ⟨⟨v1, rfl, hr1⟩, hx1⟩
  obtain ⟨a1, c1, rfl, hac1, hcm1, hS1⟩ := strs_of_own hr1
  have HGr := Lib.hid (Group_any (barL gens) n a1 k c1 w1 hS1 (by have := Hn.out; have := Hk.out; omega) (by have := Hn.out; omega) (bar_let Hall.out))
  have H1 := Lib.hid hx1
  clear hr1 hx1 hac1 hcm1 hS1 HBa k0 k1
  go_wp2_with fail
  refine HGr.out.mono ?_
  rintro e w2 ⟨⟨v2, rfl, hr2⟩, hx2⟩
  obtain ⟨a2, c2, rfl, hac2, hcm2, hS2⟩ := strs_of_own hr2
  have H2 := Lib.hid (H1.out.trans hx2)
  have hgn6 : (grR n (barL gens)).length ≤ 9223372036854775806 := by
    have h5 : (grR n (barL gens)).length ≤ 4096 := by
      unfold grR
      split
      · simp
      · rw [(grp_is n (barL gens) (bar_let Hall.out)).2.2]
        have : (barL gens).length ≤ 12 := by unfold barL; rw [List.length_map, Hlg.out]; have := Hn.out; have := Hk.out; omega
        have : 2 ^ (barL gens).length ≤ 2 ^ 12 := Nat.pow_le_pow_right (by decide) this
        omega
    omega
  have Hgn := Lib.hid hgn6; have HS2 := Lib.hid hS2
  have HLt := Lib.hid (lettersTimes_any a b n w2 Ha.out Hb.out (by have := Hn.out; omega))
  clear hr2 hx2 hac2 hcm2 hS2 hgn6 HGr H1
  go_wp2_with fail
  refine HLt.out.mono ?_
  rintro e w3 ⟨rfl, hx3⟩
  have HIn := Lib.hid (InGroup_any (grR n (barL gens)) (mulT a b) a2 _ c2 w3 (HS2.out.ext hx3) Hgn.out (by have := (let_mul Ha.out Hb.out).1; have := Hn.out; omega))
  have H3 := Lib.hid (H2.out.trans hx3)
  clear hx3 HLt HS2 H2
  go_wp2_with fail
  refine HIn.out.mono ?_
  rintro e w4 ⟨rfl, hx4⟩
  have H4 := Lib.hid (HEU.out.trans (H3.out.trans hx4))
  clear hx4 HIn H3
  go_wp2_with fail
  first
    | (go_ret; exact ⟨rfl, H4.out⟩)
    | exact ⟨rfl, H4.out⟩
end Go.Proofs.YtfoncakadficlaaDoor
namespace Go.Proofs.YtfoncakadficlaaDoor
open Go.RowKit

theorem fstI_none {f : Nat → Bool} : ∀ k i, (∀ j, i ≤ j → j < i + k → f j = false) → fstI f k i = -1
  | 0, _, _ => rfl
  | k + 1, i, h => by
    rw [fstI_no (h i (Nat.le_refl _) (by omega))]
    exact fstI_none k (i + 1) fun j h1 h2 => h j (by omega) (by omega)
/-- A list of noughts and ones of the right length has no fault. -/
theorem rm_good (s : List Int) {n : Nat} (hl : s.length = n) (hs : ∀ x ∈ s, x = 0 ∨ x = 1) : rmF s (n : Int) = (0, 0) := by
  unfold rmF
  rw [if_neg (by omega)]
  have h : fstI (mkAt s) s.length 0 = -1 := by
    refine fstI_none _ _ fun j _ hj => ?_
    have hjl : j < s.length := by omega
    unfold mkAt
    have hx := hs _ (List.getElem_mem hjl)
    rw [List.getD_eq_getElem?_getD, List.getElem?_eq_getElem hjl]
    exact decide_eq_false (by rintro ⟨h1, h2⟩; rcases hx with h | h <;> simp_all)
  rw [if_neg (by rw [h]; decide)]

/-- What lies in memory while CodeCorrects runs, where nothing has gone wrong. -/
structure CrS (u w : World) (N : Int) (gens : List (List UInt8)) (ao : Option Addr) (k cp : Nat) (H K : Nat) (f0 f1 : Int) : Prop where
  e : Ext u w
  c : CoB w H N ao k cp
  f : FtB w K f0 f1
  hs : StrsAt w ao k gens
  lt : LtL w
  o : u.heap.size ≤ K ∧ H < K ∧ (0 : Nat) < K
section
variable {u w w' : World} {N : Int} {gens : List (List UInt8)} {ao : Option Addr} {k cp : Nat} {H K : Nat} {f0 f1 : Int}
theorem CrS.ext (h : CrS u w N gens ao k cp H K f0 f1) (x : Ext w w') : CrS u w' N gens ao k cp H K f0 f1 :=
  ⟨h.e.trans x, h.c.ext x, h.f.ext x, h.hs.ext x, h.lt.ext x, h.o⟩
theorem CrS.put (h : CrS u w N gens ao k cp H K f0 f1) (x y : Int) : CrS u ((w.setCell ⟨K, 0, none⟩ (.int .i64 x)).setCell ⟨K, 1, none⟩ (.int .i64 y)) N gens ao k cp H K x y := by
  have hO : Only K w ((w.setCell ⟨K, 0, none⟩ (.int .i64 x)).setCell ⟨K, 1, none⟩ (.int .i64 y)) := ((Only.refl _ _).setCell _ _).setCell _ _
  obtain ⟨o1, o2, o3⟩ := h.o
  exact ⟨put2x h.e o1 _ _, h.c.far hO (by omega), ⟨row_put (row_put h.f.row rfl) rfl⟩, h.hs.far hO h.f.row noS, h.lt.far hO (by omega), h.o⟩
end

set_option maxRecDepth 100000 in
set_option maxHeartbeats 16000000 in
theorem ccorrects_walk (N : Int) (gens : List (List UInt8)) (T : List UInt8) (ao : Option Addr) (k cp : Nat) (w : World) (hG : StrsAt w ao k gens) (hT : ∀ T ∈ gens, T.length ≤ 9223372036854775807) (hk9 : k * 16 ≤ 140737488355328) (hnil : ao = none → cp = 0) (hTl : T.length ≤ 9223372036854775807) (hN : N ≤ 9223372036854775807) (hL : LtL w) :
    Calls Tryd.prog 5 #[.agg #[.int .i64 N, .slice ao k cp], .string ⟨T.toArray⟩] w fun e w' => e = .returned (.bool true) ∧ Ext w w' := by
  have hk6 : k ≤ 9223372036854775806 := by omega
  obtain ⟨H, hH⟩ : ∃ H, w.heap.size = H := ⟨_, rfl⟩
  obtain ⟨W0, hW0⟩ : ∃ W0, w.alloc (.cells #[.int .i64 N, .slice ao k cp] 24) = W0 := ⟨_, rfl⟩
  have E0 : Ext w W0 := by rw [← hW0]; exact ext_al w _
  have C0 : CoB W0 H N ao k cp := by rw [← hW0, ← hH]; exact CoB.new w _ _ _ _
  have HCp := Lib.hid (fun (wx : World) (h : StrsAt wx ao k gens) => copyCode_any N gens ao k cp wx h hk9 hnil)
  have HE0 := Lib.hid E0; have HD := Lib.hid C0; have HW0 := Lib.hid hW0; have HH := Lib.hid hH; have Hh := Lib.hid (hG.ext E0); have HL := Lib.hid (hL.ext E0); have HT := Lib.hid hT; have Hk6 := Lib.hid hk6; have HTl := Lib.hid hTl; have HN := Lib.hid hN
  have Hlg := Lib.hid (show gens.length = k from hG.1)
  have HB := Lib.hid (codeBegun_any W0 (hL.ext E0))
  clear hG hT hk9 hnil hTl hN hL E0 C0 hW0 hH hk6
  go_enter Tryd.func5, Tryd.ntmps5
  go_upto_region 1 with fail
  rw [HW0.out, HH.out]
  clear HW0
  go_wp2_with fail
  refine HB.out.mono ?_
  rintro e w1 ⟨rfl, hx1⟩
  have c1 := HD.out.ext hx1
  have v0 := c1.x0; have v1 := c1.x1
  have HC := Lib.hid (HCp.out w1 (Hh.out.ext hx1))
  have HX1 := Lib.hid hx1
  clear c1 hx1 HB
  go_upto_region 3 with fail
  go_wp2_with fail
  refine HC.out.mono ?_
  rintro e w2 ⟨a1, c1, rfl, ⟨hL1, hc1, hm1⟩, hx2⟩
  have HCk := Lib.hid (codeCheck_any N gens a1 k c1 w2 hL1 HT.out Hk6.out)
  obtain ⟨d, hd⟩ : ∃ d, ccF N gens = d := ⟨_, rfl⟩
  obtain ⟨d0, d1⟩ := d
  rw [hd] at HCk
  have Hd := Lib.hid hd
  have HX2 := Lib.hid (HX1.out.trans hx2)
  clear hL1 hc1 hm1 hx2 hd v0 v1 HC
  go_wp2_with fail
  refine HCk.out.mono ?_
  rintro e w3 ⟨rfl, hx3⟩
  obtain ⟨K, hK⟩ : ∃ K, w3.heap.size = K := ⟨_, rfl⟩
  obtain ⟨X, hX⟩ : ∃ X, w3.alloc (.cells #[.int .i64 d0, .int .i64 d1] 27) = X := ⟨_, rfl⟩
  have E03 : Ext W0 w3 := HX2.out.trans hx3
  have EX : Ext W0 X := by rw [← hX]; exact E03.trans (ext_al _ _)
  have bX : FtB X K d0 d1 := by rw [← hX, ← hK]; exact ⟨heap_alloc_new w3 _⟩
  have hQ : CrS w X N gens ao k cp H K d0 d1 :=
    ⟨HE0.out.trans EX, HD.out.ext EX, bX, Hh.out.ext EX, HL.out.ext EX, by rw [← hK]; exact ⟨(HE0.out.trans E03).size, Nat.lt_of_lt_of_le HD.out.lt E03.size, Nat.lt_of_lt_of_le HL.out.lt E03.size⟩⟩
  have HQ := Lib.hid hQ; have HX := Lib.hid hX; have HK := Lib.hid hK
  have HIP := Lib.hid (IsPauli_any T N X HN.out (by have := HTl.out; omega))
  have v0 := hQ.c.x0
  clear hQ hX hK bX EX E03 hx3 HCk HX1 HX2 HE0 HD Hh HL HH
  go_upto_region 4 with fail
  rw [HX.out, HK.out]
  clear HX HK
  go_wp2_with fail
  refine HIP.out.mono ?_
  rintro e w4 ⟨rfl, hx4⟩
  obtain ⟨W4, hW4⟩ : ∃ V, w4.alloc (.cells #[.bool (ispM N T), .string ⟨(ispS N T).toArray⟩] 35) = V := ⟨_, rfl⟩
  have E4 : Ext X W4 := by rw [← hW4]; exact hx4.trans (ext_al _ _)
  have hq := HQ.out.ext E4
  have v0 := hq.c.x0; have v1 := hq.c.x1; have z0 := hq.f.x0; have z1 := hq.f.x1
  have HQ := Lib.hid hq
  have HW4 := Lib.hid hW4
  clear hq hx4 hW4 E4 HIP
  go_upto_region 5 with fail
  rw [HW4.out]
  clear HW4
  obtain ⟨B, hB⟩ : ∃ B, ispB N T = B := ⟨_, rfl⟩
  rw [hB]
  have HBe := Lib.hid hB
  clear hB
  by_cases hd0 : d0 = 0
  rotate_left 1
  · -- the code has a fault
    have hcb := bf hd0
    have hnt := nt hd0
    have HEf := Lib.hid HQ.out.e
    clear hd0
    go_wp2_with fail
    go_ret
    exact ⟨rfl, HEf.out⟩
  subst hd0
  have hd1 : d1 = 0 := cc_snd Hd.out
  subst hd1
  cases B
  · -- the error is no Pauli
    have HEf := Lib.hid HQ.out.e
    go_wp2_with fail
    go_ret
    exact ⟨rfl, HEf.out⟩
  by_cases h7 : 7 < N
  · have t7 : decide (7 < N) = true := decide_eq_true h7
    have HEf := Lib.hid HQ.out.e
    clear h7
    go_wp2_with fail
    go_ret
    exact ⟨rfl, HEf.out⟩
  have t7 : decide (7 < N) = false := decide_eq_false h7
  have n1 : 1 ≤ N := (cc_zero (N := N) (gens := gens) (by rw [Hd.out])).1
  obtain ⟨nn, hnn⟩ : ∃ nn : Nat, N = (nn : Int) := ⟨N.toNat, by omega⟩
  subst hnn
  have Hcc := Lib.hid (show (ccF (nn : Int) gens).1 = 0 by rw [Hd.out])
  have H7 := Lib.hid (show nn ≤ 7 ∧ 1 ≤ nn by omega)
  have Hrs := Lib.hid (show rsF (nn : Int) gens = (0, 0) by unfold rsF; rw [if_neg (by have := H7.out; omega), Hd.out])
  clear n1 h7
  go_upto_region 7 with fail
  clear t7 z0 z1
  have HC := Lib.hid (HCp.out W4 HQ.out.hs)
  go_wp2_with fail
  refine HC.out.mono ?_
  rintro e w5 ⟨a1, c1, rfl, ⟨hL1, hc1, hm1⟩, hx5⟩
  have HDi := Lib.hid (Distance_any (nn : Int) gens a1 k c1 w5 hL1 HT.out Hk6.out (HQ.out.lt.ext hx5))
  obtain ⟨dn, hdn⟩ : ∃ dn, diN nn gens = dn := ⟨_, rfl⟩
  rw [Hrs.out, show ((nn : Int)).toNat = nn from Int.toNat_natCast nn, hdn] at HDi
  have Hdn := Lib.hid hdn
  have HQ := Lib.hid (HQ.out.ext hx5)
  clear hL1 hc1 hm1 hx5 v0 v1 HC hdn
  go_wp2_with fail
  refine HDi.out.mono ?_
  rintro e w6 ⟨rfl, hx6⟩
  simp only
  have hq := HQ.out.ext hx6
  have z0 := hq.f.x0; have z1 := hq.f.x1; have zf0 := hq.f.f 0; have zf1 := hq.f.f 1
  have HQ := Lib.hid (hq.put 0 0)
  clear hq hx6 HDi
  go_upto_region 8 with fail
  clear z0 z1 zf0 zf1
  obtain ⟨W6, hW6⟩ : ∃ V, (w6.setCell ⟨K, 0, none⟩ (.int .i64 0)).setCell ⟨K, 1, none⟩ (.int .i64 0) = V := ⟨_, rfl⟩
  rw [hW6] at HQ ⊢
  clear hW6
  have z0 := HQ.out.f.x0; have z1 := HQ.out.f.x1
  have v0 := HQ.out.c.x0; have v1 := HQ.out.c.x1
  go_upto_region 10 with fail
  have HC := Lib.hid (HCp.out W6 HQ.out.hs)
  clear z0 z1
  go_wp2_with fail
  refine HC.out.mono ?_
  rintro e w7 ⟨a1, c1, rfl, ⟨hL1, hc1, hm1⟩, hx7⟩
  have HSy := Lib.hid (Syndrome_any (nn : Int) gens T a1 k c1 w7 hL1 HT.out Hk6.out (by have := HTl.out; omega))
  have hBi : isP nn T = true := by rw [← isp_is (by have := H7.out; omega) T]; exact HBe.out
  have hsy : syF (nn : Int) gens T = (0, 0) := by unfold syF; rw [if_neg (by rw [Hd.out]; simp), Int.toNat_natCast, if_pos hBi]
  rw [hsy] at HSy
  have Hip := Lib.hid hBi
  have HQ := Lib.hid (HQ.out.ext hx7)
  clear hL1 hc1 hm1 hx7 v0 v1 HC hBi hsy
  go_wp2_with fail
  refine HSy.out.mono ?_
  rintro e w8 ⟨r, rfl, hx8, hg1, hg2⟩
  obtain ⟨a5, c5, rfl, hc5, hm5, hI5, hb5⟩ := hg1 trivial
  have hq := HQ.out.ext hx8
  have hK7 : K < w7.heap.size := HQ.out.f.lt
  have z0 := hq.f.x0; have z1 := hq.f.x1; have zf0 := hq.f.f 0; have zf1 := hq.f.f 1
  have HQ := Lib.hid (hq.put 0 0)
  have Hne := Lib.hid (fun (ad : Addr) (e : a5 = some ad) => (show K < ad.block by have := hb5 ad e; omega))
  have HI5 := Lib.hid (hI5.farC (((Only.refl K w8).setCell 0 (.int .i64 0)).setCell 1 (.int .i64 0)) (fun ad e => by have := Hne.out ad e; omega))
  have Hc5 := Lib.hid (And.intro hc5 hm5)
  clear hq hx8 HSy hg1 hg2 hI5 hb5 hK7 hc5 hm5
  go_upto_region 11 with fail
  have z0 := HQ.out.f.x0; have z1 := HQ.out.f.x1
  have v0 := HQ.out.c.x0; have v1 := HQ.out.c.x1
  clear zf0 zf1
  obtain ⟨W8, hW8⟩ : ∃ V, (w8.setCell ⟨K, 0, none⟩ (.int .i64 0)).setCell ⟨K, 1, none⟩ (.int .i64 0) = V := ⟨_, rfl⟩
  rw [hW8] at HQ HI5 z0 z1 v0 v1 ⊢
  clear hW8
  go_upto_region 13 with fail
  have HC := Lib.hid (HCp.out W8 HQ.out.hs)
  clear z0 z1
  go_wp2_with fail
  refine HC.out.mono ?_
  rintro e w9 ⟨a6, c6, rfl, ⟨hL1, hc1, hm1⟩, hx9⟩
  obtain ⟨D, hD⟩ : ∃ D, T.drop 1 = D := ⟨_, rfl⟩
  rw [hD] at HI5
  have hDl : Let nn D := by rw [← hD]; exact ⟨(by rw [List.length_drop, (isP_let Hip.out).1]; omega), (isP_iff.1 Hip.out).2.2⟩
  obtain ⟨m1, m2, m3, m4⟩ := mends Hcc.out hDl
  have hlen := syn_len gens D
  have hDe := Decode_any (nn : Int) gens (synL gens D) a6 k c6 a5 k c5 w9 hL1 HT.out Hk6.out (HI5.out.ext hx9) (HQ.out.lt.ext hx9)
  have hde : deF (nn : Int) gens (synL gens D) = (0, 0) := by
    unfold deF
    rw [if_neg (by rw [Hrs.out]; simp)]
    exact rm_good (synL gens D) hlen (syn_01 gens D)
  obtain ⟨b, hb⟩ : ∃ b, txL (deP nn gens (synL gens D)) nn = b := ⟨_, rfl⟩
  rw [hde, Int.toNat_natCast, hb] at hDe
  rw [hb] at m1 m2 m3 m4
  have HDe := Lib.hid hDe; have Hbl := Lib.hid m1; have Hbs := Lib.hid m2; have Hbw := Lib.hid m3; have Hbm := Lib.hid m4; have HDl := Lib.hid hDl; have HD := Lib.hid hD
  have HQ := Lib.hid (HQ.out.ext hx9); have HI5 := Lib.hid (HI5.out.ext hx9)
  clear hL1 hc1 hm1 hx9 v0 v1 HC m1 m2 m3 m4 hlen hDe hde hb hDl hD
  go_wp2_with fail
  refine HDe.out.mono ?_
  rintro e w10 ⟨rfl, hx10⟩
  simp only [if_true]
  have hq := HQ.out.ext hx10
  have z0 := hq.f.x0; have z1 := hq.f.x1; have zf0 := hq.f.f 0; have zf1 := hq.f.f 1
  have HQ := Lib.hid (hq.put 0 0)
  have HI5 := Lib.hid ((HI5.out.ext hx10).farC (((Only.refl K w10).setCell 0 (.int .i64 0)).setCell 1 (.int .i64 0)) (fun ad e => by have := Hne.out ad e; omega))
  clear hq hx10 HDe
  go_upto_region 14 with fail
  clear z0 z1 zf0 zf1
  obtain ⟨W10, hW10⟩ : ∃ V, (w10.setCell ⟨K, 0, none⟩ (.int .i64 0)).setCell ⟨K, 1, none⟩ (.int .i64 0) = V := ⟨_, rfl⟩
  rw [hW10] at HQ HI5 ⊢
  clear hW10
  have v0 := HQ.out.c.x0
  have hib : isP nn (43 :: b) = true := isP_let43 Hbl.out
  have hIP := IsPauli_any (43 :: b) (nn : Int) W10 HN.out (by have := Hbl.out.1; have := H7.out; rw [List.length_cons]; omega)
  have e1 : ispB (nn : Int) (43 :: b) = true := by rw [isp_is (by have := H7.out; omega)]; exact hib
  have e2 : ispM (nn : Int) (43 :: b) = false := by unfold ispM; rw [e1]; rfl
  have e3 : ispS (nn : Int) (43 :: b) = b := by unfold ispS; rw [e1]; rfl
  rw [e1, e2, e3] at hIP
  have HIP := Lib.hid hIP
  clear hIP e1 e2 e3 hib
  go_wp2_with fail
  refine HIP.out.mono ?_
  rintro e w11 ⟨rfl, hx11⟩
  obtain ⟨Q, hQ⟩ : ∃ Q, w11.heap.size = Q := ⟨_, rfl⟩
  obtain ⟨W14, hW14⟩ : ∃ V, w11.alloc (.cells #[.bool false, .string ⟨b.toArray⟩] 35) = V := ⟨_, rfl⟩
  have E14 : Ext W10 W14 := by rw [← hW14]; exact hx11.trans (ext_al _ _)
  have hq := HQ.out.ext E14
  have hrow : W14.heap[Q]? = some (.cells #[.bool false, .string ⟨b.toArray⟩] 35 (0, 0)) := by rw [← hW14, ← hQ]; exact heap_alloc_new w11 _
  have p0 : W14.cell? ⟨Q, 0, none⟩ = some (.bool false) := by rw [World.cell?, hrow]; rfl
  have p1 : W14.cell? ⟨Q, 1, none⟩ = some (.string ⟨b.toArray⟩) := by rw [World.cell?, hrow]; rfl
  have v0 := hq.c.x0; have v1 := hq.c.x1; have z0 := hq.f.x0; have z1 := hq.f.x1
  have HQ := Lib.hid hq; have HI5 := Lib.hid (HI5.out.ext E14)
  have HW := Lib.hid hW14; have HQq := Lib.hid hQ
  clear hq hx11 hW14 hQ E14 hrow HIP
  go_upto_region 15 with fail
  rw [HW.out, HQq.out]
  clear HW HQq
  have hTn : T.length = nn + 1 := (isP_let Hip.out).1
  have hsT : (⟨T.toArray⟩ : ByteArray).size = T.length := by simp [ByteArray.size]
  have hpc := drop_one_piece T
  have h1T : (1 : Int) ≤ (T.length : Int) := by omega
  rw [HD.out] at hpc
  have HWb := Lib.hid (fun wx => rWeight_any b wx (by have := Hbl.out.1; have := H7.out; omega))
  have HWd := Lib.hid (fun wx => rWeight_any D wx (by have := HDl.out.1; have := H7.out; omega))
  obtain ⟨wb', hwb⟩ : ∃ x, wtT b = x := ⟨_, rfl⟩
  obtain ⟨wd', hwd⟩ : ∃ x, wtT D = x := ⟨_, rfl⟩
  rw [hwb] at HWb Hbw
  rw [hwd] at HWd Hbw Hbm
  have HwdL := Lib.hid (show wd' ≤ 7 by rw [← hwd]; have := wtT_le D; have := HDl.out.1; have := H7.out; omega)
  have q1 : decide ((wd' : Int) < (wb' : Int)) = false := decide_eq_false (by have := Hbw.out; omega)
  have q2 : decide (wd' < wb') = false := decide_eq_false (by have := Hbw.out; omega)
  have hallp := (cc_zero Hcc.out).2.2.2
  rw [Int.toNat_natCast] at hallp
  have HallP := Lib.hid hallp
  clear hallp
  have HSO := Lib.hid (fun (wx : World) (hx : Ext W14 wx) => SyndromeOf_any (nn : Int) gens b ao k cp wx (HQ.out.hs.ext hx) (by have h := (cc_zero Hcc.out).2.2.1; have := Hlg.out; have := H7.out; omega) nn (by have := H7.out; omega) (fun T hT => (isP_let (HallP.out T hT)).1) Hbl.out.1)
  have HSI := Lib.hid (fun (a8 : Option Addr) (c8 : Nat) (wx : World) (h8 : IntsAt wx a8 k (synL gens D)) (hx : Ext W14 wx) => sameInts_dec (synL gens D) (synL gens D) a8 k c8 a5 k c5 wx h8 (HI5.out.ext hx) Hk6.out)
  rw [decide_eq_true (rfl : synL gens D = synL gens D)] at HSI
  have HMe := Lib.hid (fun (wx : World) (hx : Ext W14 wx) => Mended_any gens ao k cp wx (HQ.out.hs.ext hx) nn (by have h := (cc_zero Hcc.out).2.2.1; have := Hlg.out; omega) (by have := H7.out; omega) HallP.out b D Hbl.out HDl.out)
  clear hwb hwd hTn
  go_cut [97] from 69 to 97 (fun s97 wx => s97 = .bool false ∧ Ext W14 wx)
  case first =>
    have HSj := Lib.hid (fun (w' : World) (hx : Ext W14 w') => (show w'.cell? ⟨H, 0, none⟩ = some (.int .i64 (nn : Int)) ∧ w'.cell? ⟨H, 1, none⟩ = some (.slice ao k cp) ∧ w'.cell? ⟨K, 0, none⟩ = some (.int .i64 0) ∧ w'.cell? ⟨Q, 0, none⟩ = some (.bool false) ∧ w'.cell? ⟨Q, 1, none⟩ = some (.string ⟨b.toArray⟩) from ⟨cell_ext v0 hx, cell_ext v1 hx, cell_ext z0 hx, cell_ext p0 hx, cell_ext p1 hx⟩))
    have Ew0 : Ext W14 W14.drew := Below.drew (Ext.refl _)
    clear v0 v1 z0 z1 p0 p1
    refine wp_region_K 28 (fun w' => w'.cell? ⟨H, 0, none⟩ = some (.int .i64 (nn : Int)) ∧ w'.cell? ⟨H, 1, none⟩ = some (.slice ao k cp) ∧ w'.cell? ⟨K, 0, none⟩ = some (.int .i64 0) ∧ w'.cell? ⟨Q, 0, none⟩ = some (.bool false) ∧ w'.cell? ⟨Q, 1, none⟩ = some (.string ⟨b.toArray⟩)) (by kernel_rfl) ?_
    show anyK _ _ _ _ _ _ 29 #[false, false, false, false, false, false, false, false, false, false, false, false, false, false, false, false, false, false, false, false, false, false, false, false, false, false, false, false, false] _ _
    refine anyK_take (i := 0) (v := ?_) rfl (by kernel_rfl) (by kernel_rfl) (by kernel_rfl) (N := 29) (by kernel_rfl) (by kernel_rfl) (by kernel_rfl) (fun _ _ _ h => h) (Or.inl ⟨by rfl, ?_⟩) (HSj.out _ Ew0) ?_
    rotate_left 1
    · intro w hSw
      go_simp
      try with_reducible rfl
    show anyK _ _ _ _ _ _ _ _ (Act.put _ (some 69) _) _
    simp only [Act.put, List.setIfInBounds_toArray, List.set_cons_zero, List.set_cons_succ]
    refine anyK_take (i := 1) (v := ?_) rfl (by kernel_rfl) (by kernel_rfl) (by kernel_rfl) (N := 29) (by kernel_rfl) (by kernel_rfl) (by kernel_rfl) (fun _ _ _ h => h) (Or.inl ⟨by rfl, ?_⟩) (HSj.out _ Ew0) ?_
    rotate_left 1
    · intro w hSw
      go_simp
      try with_reducible rfl
    show anyK _ _ _ _ _ _ _ _ (Act.put _ (some 70) _) _
    simp only [Act.put, List.setIfInBounds_toArray, List.set_cons_zero, List.set_cons_succ]
    refine anyK_take (i := 2) (v := ?_) rfl (by kernel_rfl) (by kernel_rfl) (by kernel_rfl) (N := 29) (by kernel_rfl) (by kernel_rfl) (by kernel_rfl) (fun _ _ _ h => h) (Or.inl ⟨by rfl, ?_⟩) (HSj.out _ Ew0) ?_
    rotate_left 1
    · intro w hSw
      go_simp
      try with_reducible rfl
    show anyK _ _ _ _ _ _ _ _ (Act.put _ (some 71) _) _
    simp only [Act.put, List.setIfInBounds_toArray, List.set_cons_zero, List.set_cons_succ]
    refine anyK_take (i := 3) (v := ?_) rfl (by kernel_rfl) (by kernel_rfl) (by kernel_rfl) (N := 29) (by kernel_rfl) (by kernel_rfl) (by kernel_rfl) (fun _ _ _ h => h) (Or.inl ⟨by rfl, ?_⟩) (HSj.out _ Ew0) ?_
    rotate_left 1
    · intro w hSw
      go_simp
      try with_reducible rfl
    show anyK _ _ _ _ _ _ _ _ (Act.put _ (some 72) _) _
    simp only [Act.put, List.setIfInBounds_toArray, List.set_cons_zero, List.set_cons_succ]
    refine anyK_take (i := 4) (v := ?_) rfl (by kernel_rfl) (by kernel_rfl) (by kernel_rfl) (N := 29) (by kernel_rfl) (by kernel_rfl) (by kernel_rfl) (fun _ _ _ h => h) (Or.inl ⟨by rfl, ?_⟩) (HSj.out _ Ew0) ?_
    rotate_left 1
    · intro w hSw
      go_simp
      try with_reducible rfl
    show anyK _ _ _ _ _ _ _ _ (Act.put _ (some 73) _) _
    simp only [Act.put, List.setIfInBounds_toArray, List.set_cons_zero, List.set_cons_succ]
    refine anyK_take (i := 5) (v := ?_) rfl (by kernel_rfl) (by kernel_rfl) (by kernel_rfl) (N := 29) (by kernel_rfl) (by kernel_rfl) (by kernel_rfl) (fun _ _ _ h => h) (Or.inl ⟨by rfl, ?_⟩) (HSj.out _ Ew0) ?_
    rotate_left 1
    · intro w hSw
      go_simp
      try with_reducible rfl
    show anyK _ _ _ _ _ _ _ _ (Act.put _ (some 74) _) _
    simp only [Act.put, List.setIfInBounds_toArray, List.set_cons_zero, List.set_cons_succ]
    refine anyK_take (i := 6) (v := ?_) rfl (by kernel_rfl) (by kernel_rfl) (by kernel_rfl) (N := 29) (by kernel_rfl) (by kernel_rfl) (by kernel_rfl) (fun _ _ _ h => h) (Or.inl ⟨by rfl, ?_⟩) (HSj.out _ Ew0) ?_
    rotate_left 1
    · intro w hSw
      go_simp
      try with_reducible rfl
    show anyK _ _ _ _ _ _ _ _ (Act.put _ (some 75) _) _
    simp only [Act.put, List.setIfInBounds_toArray, List.set_cons_zero, List.set_cons_succ]
    refine anyK_take (i := 7) (v := ?_) rfl (by kernel_rfl) (by kernel_rfl) (by kernel_rfl) (N := 29) (by kernel_rfl) (by kernel_rfl) (by kernel_rfl) (fun _ _ _ h => h) (Or.inl ⟨by rfl, ?_⟩) (HSj.out _ Ew0) ?_
    rotate_left 1
    · intro w hSw
      go_simp
      try with_reducible rfl
    show anyK _ _ _ _ _ _ _ _ (Act.put _ (some 76) _) _
    simp only [Act.put, List.setIfInBounds_toArray, List.set_cons_zero, List.set_cons_succ]
    refine anyK_take (i := 8) (v := ?_) rfl (by kernel_rfl) (by kernel_rfl) (by kernel_rfl) (N := 29) (by kernel_rfl) (by kernel_rfl) (by kernel_rfl) (fun _ _ _ h => h) (Or.inl ⟨by rfl, ?_⟩) (HSj.out _ Ew0) ?_
    rotate_left 1
    · intro w hSw
      go_simp
      try with_reducible rfl
    show anyK _ _ _ _ _ _ _ _ (Act.put _ (some 77) _) _
    simp only [Act.put, List.setIfInBounds_toArray, List.set_cons_zero, List.set_cons_succ]
    refine anyK_take (i := 9) (v := ?_) rfl (by kernel_rfl) (by kernel_rfl) (by kernel_rfl) (N := 29) (by kernel_rfl) (by kernel_rfl) (by kernel_rfl) (fun _ _ _ h => h) (Or.inl ⟨by rfl, ?_⟩) (HSj.out _ Ew0) ?_
    rotate_left 1
    · intro w hSw
      go_simp
      try with_reducible rfl
    show anyK _ _ _ _ _ _ _ _ (Act.put _ (some 78) _) _
    simp only [Act.put, List.setIfInBounds_toArray, List.set_cons_zero, List.set_cons_succ]
    refine anyK_take (i := 10) (v := ?_) rfl (by kernel_rfl) (by kernel_rfl) (by kernel_rfl) (N := 29) (by kernel_rfl) (by kernel_rfl) (by kernel_rfl) (fun _ _ _ h => h) (Or.inl ⟨by rfl, ?_⟩) (HSj.out _ Ew0) ?_
    rotate_left 1
    · intro w hSw
      go_simp
      try with_reducible rfl
    show anyK _ _ _ _ _ _ _ _ (Act.put _ (some 79) _) _
    simp only [Act.put, List.setIfInBounds_toArray, List.set_cons_zero, List.set_cons_succ]
    refine anyK_take (i := 11) (v := ?_) rfl (by kernel_rfl) (by kernel_rfl) (by kernel_rfl) (N := 29) (by kernel_rfl) (by kernel_rfl) (by kernel_rfl) (fun _ _ _ h => h) (Or.inl ⟨by rfl, ?_⟩) (HSj.out _ Ew0) ?_
    rotate_left 1
    · intro w hSw
      go_simp
      try with_reducible rfl
    show anyK _ _ _ _ _ _ _ _ (Act.put _ (some 80) _) _
    simp only [Act.put, List.setIfInBounds_toArray, List.set_cons_zero, List.set_cons_succ]
    refine anyK_take (i := 12) (v := ?_) rfl (by kernel_rfl) (by kernel_rfl) (by kernel_rfl) (N := 29) (by kernel_rfl) (by kernel_rfl) (by kernel_rfl) (fun _ _ _ h => h) (Or.inl ⟨by rfl, ?_⟩) (HSj.out _ Ew0) ?_
    rotate_left 1
    · intro w hSw
      go_simp
      try with_reducible rfl
    show anyK _ _ _ _ _ _ _ _ (Act.put _ (some 81) _) _
    simp only [Act.put, List.setIfInBounds_toArray, List.set_cons_zero, List.set_cons_succ]
    refine anyK_take (i := 13) (v := ?_) rfl (by kernel_rfl) (by kernel_rfl) (by kernel_rfl) (N := 29) (by kernel_rfl) (by kernel_rfl) (by kernel_rfl) (fun _ _ _ h => h) (Or.inl ⟨by rfl, ?_⟩) (HSj.out _ Ew0) ?_
    rotate_left 1
    · intro w hSw
      go_simp
      try with_reducible rfl
    show anyK _ _ _ _ _ _ _ _ (Act.put _ (some 82) _) _
    simp only [Act.put, List.setIfInBounds_toArray, List.set_cons_zero, List.set_cons_succ]
    refine anyK_take (i := 15) (v := ?_) rfl (by kernel_rfl) (by kernel_rfl) (by kernel_rfl) (N := 29) (by kernel_rfl) (by kernel_rfl) (by kernel_rfl) (fun _ _ _ h => h) (Or.inl ⟨by rfl, ?_⟩) (HSj.out _ Ew0) ?_
    rotate_left 1
    · intro w hSw
      go_simp
      try with_reducible rfl
    show anyK _ _ _ _ _ _ _ _ (Act.put _ (some 84) _) _
    simp only [Act.put, List.setIfInBounds_toArray, List.set_cons_zero, List.set_cons_succ]
    refine anyK_take (i := 16) (v := ?_) rfl (by kernel_rfl) (by kernel_rfl) (by kernel_rfl) (N := 29) (by kernel_rfl) (by kernel_rfl) (by kernel_rfl) (fun _ _ _ h => h) (Or.inl ⟨by rfl, ?_⟩) (HSj.out _ Ew0) ?_
    rotate_left 1
    · intro w hSw
      go_simp
      try with_reducible rfl
    show anyK _ _ _ _ _ _ _ _ (Act.put _ (some 85) _) _
    simp only [Act.put, List.setIfInBounds_toArray, List.set_cons_zero, List.set_cons_succ]
    refine anyK_one (i := 14) (by kernel_rfl) rfl (fun Kk hKk => ?_)
    go_simp
    (go_at_call 21; refine (HWb.out _).mono ?_; rintro e wa ⟨rfl, hx⟩)
    have Ewa : Ext W14 wa := Ew0.trans hx
    go_wp2_with fail
    refine hKk.out _ _ (fun _ => HSj.out _ Ewa) ?_
    clear hKk Kk hx
    simp only [List.setIfInBounds_toArray, List.set_cons_zero, List.set_cons_succ]
    refine anyK_one (i := 17) (by kernel_rfl) rfl (fun Kk hKk => ?_)
    go_simp
    (go_at_call 21; refine (HWd.out _).mono ?_; rintro e wb ⟨rfl, hx⟩)
    have Ewb : Ext W14 wb := Ewa.trans hx
    go_wp2_with fail
    refine hKk.out _ _ (fun _ => HSj.out _ Ewb) ?_
    clear hKk Kk hx
    simp only [List.setIfInBounds_toArray, List.set_cons_zero, List.set_cons_succ]
    refine anyK_take (i := 18) (v := ?_) rfl (by kernel_rfl) (by kernel_rfl) (by kernel_rfl) (N := 29) (by kernel_rfl) (by kernel_rfl) (by kernel_rfl) (fun _ _ _ h => h) (Or.inl ⟨by rfl, ?_⟩) (HSj.out _ Ewb) ?_
    rotate_left 1
    · intro w hSw
      go_simp
      try with_reducible rfl
    show anyK _ _ _ _ _ _ _ _ (Act.put _ (some 87) _) _
    simp only [Act.put, List.setIfInBounds_toArray, List.set_cons_zero, List.set_cons_succ]
    refine anyK_take (i := 19) (v := ?_) rfl (by kernel_rfl) (by kernel_rfl) (by kernel_rfl) (N := 29) (by kernel_rfl) (by kernel_rfl) (by kernel_rfl) (fun _ _ _ h => h) (Or.inl ⟨by rfl, ?_⟩) (HSj.out _ Ewb) ?_
    rotate_left 1
    · intro w hSw
      go_simp
      try with_reducible rfl
    show anyK _ _ _ _ _ _ _ _ (Act.put _ (some 88) _) _
    simp only [Act.put, List.setIfInBounds_toArray, List.set_cons_zero, List.set_cons_succ]
    refine anyK_take (i := 20) (v := ?_) rfl (by kernel_rfl) (by kernel_rfl) (by kernel_rfl) (N := 29) (by kernel_rfl) (by kernel_rfl) (by kernel_rfl) (fun _ _ _ h => h) (Or.inl ⟨by rfl, ?_⟩) (HSj.out _ Ewb) ?_
    rotate_left 1
    · intro w hSw
      go_simp
      try with_reducible rfl
    show anyK _ _ _ _ _ _ _ _ (Act.put _ (some 89) _) _
    simp only [Act.put, List.setIfInBounds_toArray, List.set_cons_zero, List.set_cons_succ]
    refine anyK_take (i := 21) (v := ?_) rfl (by kernel_rfl) (by kernel_rfl) (by kernel_rfl) (N := 29) (by kernel_rfl) (by kernel_rfl) (by kernel_rfl) (fun _ _ _ h => h) (Or.inl ⟨by rfl, ?_⟩) (HSj.out _ Ewb) ?_
    rotate_left 1
    · intro w hSw
      go_simp
      try with_reducible rfl
    show anyK _ _ _ _ _ _ _ _ (Act.put _ (some 90) _) _
    simp only [Act.put, List.setIfInBounds_toArray, List.set_cons_zero, List.set_cons_succ]
    refine anyK_take (i := 22) (v := ?_) rfl (by kernel_rfl) (by kernel_rfl) (by kernel_rfl) (N := 29) (by kernel_rfl) (by kernel_rfl) (by kernel_rfl) (fun _ _ _ h => h) (Or.inl ⟨by rfl, ?_⟩) (HSj.out _ Ewb) ?_
    rotate_left 1
    · intro w hSw
      go_simp
      try with_reducible rfl
    show anyK _ _ _ _ _ _ _ _ (Act.put _ (some 91) _) _
    simp only [Act.put, List.setIfInBounds_toArray, List.set_cons_zero, List.set_cons_succ]
    refine anyK_take (i := 23) (v := ?_) rfl (by kernel_rfl) (by kernel_rfl) (by kernel_rfl) (N := 29) (by kernel_rfl) (by kernel_rfl) (by kernel_rfl) (fun _ _ _ h => h) (Or.inl ⟨by rfl, ?_⟩) (HSj.out _ Ewb) ?_
    rotate_left 1
    · intro w hSw
      go_simp
      try with_reducible rfl
    show anyK _ _ _ _ _ _ _ _ (Act.put _ (some 92) _) _
    simp only [Act.put, List.setIfInBounds_toArray, List.set_cons_zero, List.set_cons_succ]
    refine anyK_take (i := 25) (v := ?_) rfl (by kernel_rfl) (by kernel_rfl) (by kernel_rfl) (N := 29) (by kernel_rfl) (by kernel_rfl) (by kernel_rfl) (fun _ _ _ h => h) (Or.inl ⟨by rfl, ?_⟩) (HSj.out _ Ewb) ?_
    rotate_left 1
    · intro w hSw
      go_simp
      try with_reducible rfl
    show anyK _ _ _ _ _ _ _ _ (Act.put _ (some 94) _) _
    simp only [Act.put, List.setIfInBounds_toArray, List.set_cons_zero, List.set_cons_succ]
    refine anyK_one (i := 24) (by kernel_rfl) rfl (fun Kk hKk => ?_)
    go_simp
    (go_at_call 15; refine (HSO.out _ Ewb).mono ?_; rintro e wc ⟨⟨v8, rfl, hr8⟩, hx⟩)
    have Ewc : Ext W14 wc := Ewb.trans hx
    obtain ⟨a8, c8, rfl, hac8, hcm8, hI8, _⟩ := ints_of_own hr8
    rw [Hbs.out] at hI8
    go_wp2_with fail
    refine hKk.out _ _ (fun _ => HSj.out _ Ewc) ?_
    clear hKk Kk hx
    simp only [List.setIfInBounds_toArray, List.set_cons_zero, List.set_cons_succ]
    refine anyK_one (i := 26) (by kernel_rfl) rfl (fun Kk hKk => ?_)
    go_simp
    (go_at_call 14; refine (HSI.out a8 c8 _ hI8 Ewc).mono ?_; rintro e wd ⟨rfl, hx⟩)
    have Ewd : Ext W14 wd := Ewc.trans hx
    go_wp2_with fail
    refine hKk.out _ _ (fun _ => HSj.out _ Ewd) ?_
    clear hKk Kk hx
    simp only [List.setIfInBounds_toArray, List.set_cons_zero, List.set_cons_succ]
    refine anyK_take (i := 27) (v := ?_) rfl (by kernel_rfl) (by kernel_rfl) (by kernel_rfl) (N := 29) (by kernel_rfl) (by kernel_rfl) (by kernel_rfl) (fun _ _ _ h => h) (Or.inl ⟨by rfl, ?_⟩) (HSj.out _ Ewd) ?_
    rotate_left 1
    · intro w hSw
      go_simp
      try with_reducible rfl
    show anyK _ _ _ _ _ _ _ _ (Act.put _ (some 96) _) _
    simp only [Act.put, List.setIfInBounds_toArray, List.set_cons_zero, List.set_cons_succ]
    refine anyK_one (i := 28) (by kernel_rfl) rfl (fun Kk hKk => ?_)
    go_wp2_with fail
    refine hKk.out _ _ (fun h => Bool.noConfusion (show true = false from h)) ?_
    clear hKk Kk
    simp only [List.setIfInBounds_toArray, List.set_cons_zero, List.set_cons_succ]
    refine anyK_done (by kernel_rfl) ?_ _
    have HEd := Lib.hid Ewd
    clear hr8 hI8 hac8 hcm8 Ew0 Ewa Ewb Ewc HSj
    go_wp2_with fail
    go_meet
    exact ⟨rfl, HEd.out⟩
  case rest =>
  obtain ⟨rfl, HEd⟩ := hcut
  have HEd := Lib.hid HEd
  have v0 := cell_ext v0 HEd.out; have v1 := cell_ext v1 HEd.out; have p1 := cell_ext p1 HEd.out
  clear z0 z1 p0
  go_upto_region 17 with fail
  clear q1 q2
  by_cases hdz : dn = 0
  · -- no distance
    subst hdz
    have HEall := Lib.hid (HQ.out.e.trans HEd.out)
    go_upto_region 19 with fail
    have HSj := Lib.hid (fun (w' : World) (hx : Ext wc w') => (show w'.cell? ⟨H, 0, none⟩ = some (.int .i64 (nn : Int)) ∧ w'.cell? ⟨H, 1, none⟩ = some (.slice ao k cp) ∧ w'.cell? ⟨Q, 1, none⟩ = some (.string ⟨b.toArray⟩) from ⟨cell_ext v0 hx, cell_ext v1 hx, cell_ext p1 hx⟩))
    have Ew0 : Ext wc wc.drew := Below.drew (Ext.refl _)
    clear v0 v1 p1
    refine wp_region_K 10 (fun w' => w'.cell? ⟨H, 0, none⟩ = some (.int .i64 (nn : Int)) ∧ w'.cell? ⟨H, 1, none⟩ = some (.slice ao k cp) ∧ w'.cell? ⟨Q, 1, none⟩ = some (.string ⟨b.toArray⟩)) (by kernel_rfl) ?_
    show anyK _ _ _ _ _ _ 11 #[false, false, false, false, false, false, false, false, false, false, false] _ _
    refine anyK_take (i := 0) (v := ?_) rfl (by kernel_rfl) (by kernel_rfl) (by kernel_rfl) (N := 11) (by kernel_rfl) (by kernel_rfl) (by kernel_rfl) (fun _ _ _ h => h) (Or.inl ⟨by rfl, ?_⟩) (HSj.out _ Ew0) ?_
    rotate_left 1
    · intro w hSw
      go_simp
      try with_reducible rfl
    show anyK _ _ _ _ _ _ _ _ (Act.put _ (some 108) _) _
    simp only [Act.put, List.setIfInBounds_toArray, List.set_cons_zero, List.set_cons_succ]
    refine anyK_take (i := 1) (v := ?_) rfl (by kernel_rfl) (by kernel_rfl) (by kernel_rfl) (N := 11) (by kernel_rfl) (by kernel_rfl) (by kernel_rfl) (fun _ _ _ h => h) (Or.inl ⟨by rfl, ?_⟩) (HSj.out _ Ew0) ?_
    rotate_left 1
    · intro w hSw
      go_simp
      try with_reducible rfl
    show anyK _ _ _ _ _ _ _ _ (Act.put _ (some 109) _) _
    simp only [Act.put, List.setIfInBounds_toArray, List.set_cons_zero, List.set_cons_succ]
    refine anyK_take (i := 2) (v := ?_) rfl (by kernel_rfl) (by kernel_rfl) (by kernel_rfl) (N := 11) (by kernel_rfl) (by kernel_rfl) (by kernel_rfl) (fun _ _ _ h => h) (Or.inl ⟨by rfl, ?_⟩) (HSj.out _ Ew0) ?_
    rotate_left 1
    · intro w hSw
      go_simp
      try with_reducible rfl
    show anyK _ _ _ _ _ _ _ _ (Act.put _ (some 110) _) _
    simp only [Act.put, List.setIfInBounds_toArray, List.set_cons_zero, List.set_cons_succ]
    refine anyK_take (i := 3) (v := undef) rfl (by kernel_rfl) (by kernel_rfl) (by kernel_rfl) (N := 11) (by kernel_rfl) (by kernel_rfl) (by kernel_rfl) (fun _ _ _ h => h) (Or.inr ⟨by rfl, rfl⟩) (HSj.out _ Ew0) ?_
    show anyK _ _ _ _ _ _ _ _ (Act.put _ (some 111) _) _
    simp only [Act.put, List.setIfInBounds_toArray, List.set_cons_zero, List.set_cons_succ]
    refine anyK_take (i := 4) (v := undef) rfl (by kernel_rfl) (by kernel_rfl) (by kernel_rfl) (N := 11) (by kernel_rfl) (by kernel_rfl) (by kernel_rfl) (fun _ _ _ h => h) (Or.inr ⟨by rfl, rfl⟩) (HSj.out _ Ew0) ?_
    show anyK _ _ _ _ _ _ _ _ (Act.put _ (some 112) _) _
    simp only [Act.put, List.setIfInBounds_toArray, List.set_cons_zero, List.set_cons_succ]
    refine anyK_take (i := 5) (v := undef) rfl (by kernel_rfl) (by kernel_rfl) (by kernel_rfl) (N := 11) (by kernel_rfl) (by kernel_rfl) (by kernel_rfl) (fun _ _ _ h => h) (Or.inr ⟨by rfl, rfl⟩) (HSj.out _ Ew0) ?_
    show anyK _ _ _ _ _ _ _ _ (Act.put _ (some 113) _) _
    simp only [Act.put, List.setIfInBounds_toArray, List.set_cons_zero, List.set_cons_succ]
    refine anyK_take (i := 6) (v := undef) rfl (by kernel_rfl) (by kernel_rfl) (by kernel_rfl) (N := 11) (by kernel_rfl) (by kernel_rfl) (by kernel_rfl) (fun _ _ _ h => h) (Or.inr ⟨by rfl, rfl⟩) (HSj.out _ Ew0) ?_
    show anyK _ _ _ _ _ _ _ _ (Act.put _ (some 114) _) _
    simp only [Act.put, List.setIfInBounds_toArray, List.set_cons_zero, List.set_cons_succ]
    refine anyK_take (i := 7) (v := undef) rfl (by kernel_rfl) (by kernel_rfl) (by kernel_rfl) (N := 11) (by kernel_rfl) (by kernel_rfl) (by kernel_rfl) (fun _ _ _ h => h) (Or.inr ⟨by rfl, rfl⟩) (HSj.out _ Ew0) ?_
    show anyK _ _ _ _ _ _ _ _ (Act.put _ (some 115) _) _
    simp only [Act.put, List.setIfInBounds_toArray, List.set_cons_zero, List.set_cons_succ]
    refine anyK_take (i := 8) (v := undef) rfl (by kernel_rfl) (by kernel_rfl) (by kernel_rfl) (N := 11) (by kernel_rfl) (by kernel_rfl) (by kernel_rfl) (fun _ _ _ h => h) (Or.inr ⟨by rfl, rfl⟩) (HSj.out _ Ew0) ?_
    show anyK _ _ _ _ _ _ _ _ (Act.put _ (some 116) _) _
    simp only [Act.put, List.setIfInBounds_toArray, List.set_cons_zero, List.set_cons_succ]
    refine anyK_take (i := 9) (v := ?_) rfl (by kernel_rfl) (by kernel_rfl) (by kernel_rfl) (N := 11) (by kernel_rfl) (by kernel_rfl) (by kernel_rfl) (fun _ _ _ h => h) (Or.inl ⟨by rfl, ?_⟩) (HSj.out _ Ew0) ?_
    rotate_left 1
    · intro w hSw
      go_simp
      try with_reducible rfl
    show anyK _ _ _ _ _ _ _ _ (Act.put _ (some 117) _) _
    simp only [Act.put, List.setIfInBounds_toArray, List.set_cons_zero, List.set_cons_succ]
    refine anyK_one (i := 10) (by kernel_rfl) rfl (fun Kk hKk => ?_)
    go_wp2_with fail
    refine hKk.out _ _ (fun h => Bool.noConfusion (show true = false from h)) ?_
    clear hKk Kk
    simp only [List.setIfInBounds_toArray, List.set_cons_zero, List.set_cons_succ]
    refine anyK_done (by kernel_rfl) ?_ _
    have HEf := Lib.hid (HEall.out.trans Ew0)
    go_wp2_with fail
    go_ret
    exact ⟨rfl, HEf.out⟩
  have d1 : decide ((0 : Int) < (dn : Int)) = true := decide_eq_true (by omega)
  have d2 : decide (0 < dn) = true := decide_eq_true (by omega)
  have wk : IntKind.i64.wrap (2 * (wd' : Int)) = ((2 * wd' : Nat) : Int) := by rw [IntKind.wrap_i64]; have := HwdL.out; omega
  by_cases hge : dn ≤ 2 * wd'
  · have g1 : decide ((dn : Int) ≤ ((2 * wd' : Nat) : Int)) = true := decide_eq_true (by omega)
    have g2 : decide (dn ≤ 2 * wd') = true := decide_eq_true hge
    have g3 : (dn : Int) ≤ 2 * (wd' : Int) := by omega
    clear hdz v0 v1 p1
    go_wp2_with fail
    refine (HWd.out _).mono ?_
    rintro e w15 ⟨rfl, hx15⟩
    have HEf := Lib.hid (HQ.out.e.trans (HEd.out.trans hx15))
    clear hx15
    go_wp2_with fail
    go_ret
    exact ⟨rfl, HEf.out⟩
  have g1 : decide ((dn : Int) ≤ ((2 * wd' : Nat) : Int)) = false := decide_eq_false (by omega)
  have g2 : decide (dn ≤ 2 * wd') = false := decide_eq_false hge
  have g3 : decide ((dn : Int) ≤ 2 * (wd' : Int)) = false := decide_eq_false (by omega)
  have hme := Hbm.out (by have := Hdn.out; omega)
  rw [hme] at HMe
  have z7 := bf (show ¬ (dn : Int) = 0 by omega)
  have z6 : (dn == 0) = false := beq_eq_false_iff_ne.2 hdz
  have z9 : decide ((dn : Int) = 0) = false := decide_eq_false (by omega)
  have z8 : decide (dn = 0) = false := decide_eq_false (by omega)
  clear hge hme
  go_wp2_with fail
  refine (HWd.out _).mono ?_
  rintro e w15 ⟨rfl, hx15⟩
  have HEall := Lib.hid (HQ.out.e.trans (HEd.out.trans hx15))
  have HMe := Lib.hid (fun (wx : World) (hx : Ext w15 wx) => HMe.out wx (HEd.out.trans (hx15.trans hx)))
  have v0 := cell_ext v0 hx15; have v1 := cell_ext v1 hx15; have p1 := cell_ext p1 hx15
  clear hx15
  go_upto_region 19 with fail
  have HSj := Lib.hid (fun (w' : World) (hx : Ext w15 w') => (show w'.cell? ⟨H, 0, none⟩ = some (.int .i64 (nn : Int)) ∧ w'.cell? ⟨H, 1, none⟩ = some (.slice ao k cp) ∧ w'.cell? ⟨Q, 1, none⟩ = some (.string ⟨b.toArray⟩) from ⟨cell_ext v0 hx, cell_ext v1 hx, cell_ext p1 hx⟩))
  have Ew0 : Ext w15 w15.drew := Below.drew (Ext.refl _)
  clear v0 v1 p1
  refine wp_region_K 10 (fun w' => w'.cell? ⟨H, 0, none⟩ = some (.int .i64 (nn : Int)) ∧ w'.cell? ⟨H, 1, none⟩ = some (.slice ao k cp) ∧ w'.cell? ⟨Q, 1, none⟩ = some (.string ⟨b.toArray⟩)) (by kernel_rfl) ?_
  show anyK _ _ _ _ _ _ 11 #[false, false, false, false, false, false, false, false, false, false, false] _ _
  refine anyK_take (i := 0) (v := ?_) rfl (by kernel_rfl) (by kernel_rfl) (by kernel_rfl) (N := 11) (by kernel_rfl) (by kernel_rfl) (by kernel_rfl) (fun _ _ _ h => h) (Or.inl ⟨by rfl, ?_⟩) (HSj.out _ Ew0) ?_
  rotate_left 1
  · intro w hSw
    go_simp
    try with_reducible rfl
  show anyK _ _ _ _ _ _ _ _ (Act.put _ (some 108) _) _
  simp only [Act.put, List.setIfInBounds_toArray, List.set_cons_zero, List.set_cons_succ]
  refine anyK_take (i := 1) (v := ?_) rfl (by kernel_rfl) (by kernel_rfl) (by kernel_rfl) (N := 11) (by kernel_rfl) (by kernel_rfl) (by kernel_rfl) (fun _ _ _ h => h) (Or.inl ⟨by rfl, ?_⟩) (HSj.out _ Ew0) ?_
  rotate_left 1
  · intro w hSw
    go_simp
    try with_reducible rfl
  show anyK _ _ _ _ _ _ _ _ (Act.put _ (some 109) _) _
  simp only [Act.put, List.setIfInBounds_toArray, List.set_cons_zero, List.set_cons_succ]
  refine anyK_take (i := 2) (v := ?_) rfl (by kernel_rfl) (by kernel_rfl) (by kernel_rfl) (N := 11) (by kernel_rfl) (by kernel_rfl) (by kernel_rfl) (fun _ _ _ h => h) (Or.inl ⟨by rfl, ?_⟩) (HSj.out _ Ew0) ?_
  rotate_left 1
  · intro w hSw
    go_simp
    try with_reducible rfl
  show anyK _ _ _ _ _ _ _ _ (Act.put _ (some 110) _) _
  simp only [Act.put, List.setIfInBounds_toArray, List.set_cons_zero, List.set_cons_succ]
  refine anyK_take (i := 3) (v := ?_) rfl (by kernel_rfl) (by kernel_rfl) (by kernel_rfl) (N := 11) (by kernel_rfl) (by kernel_rfl) (by kernel_rfl) (fun _ _ _ h => h) (Or.inl ⟨by rfl, ?_⟩) (HSj.out _ Ew0) ?_
  rotate_left 1
  · intro w hSw
    go_simp
    try with_reducible rfl
  show anyK _ _ _ _ _ _ _ _ (Act.put _ (some 111) _) _
  simp only [Act.put, List.setIfInBounds_toArray, List.set_cons_zero, List.set_cons_succ]
  refine anyK_take (i := 4) (v := ?_) rfl (by kernel_rfl) (by kernel_rfl) (by kernel_rfl) (N := 11) (by kernel_rfl) (by kernel_rfl) (by kernel_rfl) (fun _ _ _ h => h) (Or.inl ⟨by rfl, ?_⟩) (HSj.out _ Ew0) ?_
  rotate_left 1
  · intro w hSw
    go_simp
    try with_reducible rfl
  show anyK _ _ _ _ _ _ _ _ (Act.put _ (some 112) _) _
  simp only [Act.put, List.setIfInBounds_toArray, List.set_cons_zero, List.set_cons_succ]
  refine anyK_take (i := 5) (v := ?_) rfl (by kernel_rfl) (by kernel_rfl) (by kernel_rfl) (N := 11) (by kernel_rfl) (by kernel_rfl) (by kernel_rfl) (fun _ _ _ h => h) (Or.inl ⟨by rfl, ?_⟩) (HSj.out _ Ew0) ?_
  rotate_left 1
  · intro w hSw
    go_simp
    try with_reducible rfl
  show anyK _ _ _ _ _ _ _ _ (Act.put _ (some 113) _) _
  simp only [Act.put, List.setIfInBounds_toArray, List.set_cons_zero, List.set_cons_succ]
  refine anyK_take (i := 6) (v := ?_) rfl (by kernel_rfl) (by kernel_rfl) (by kernel_rfl) (N := 11) (by kernel_rfl) (by kernel_rfl) (by kernel_rfl) (fun _ _ _ h => h) (Or.inl ⟨by rfl, ?_⟩) (HSj.out _ Ew0) ?_
  rotate_left 1
  · intro w hSw
    go_simp
    try with_reducible rfl
  show anyK _ _ _ _ _ _ _ _ (Act.put _ (some 114) _) _
  simp only [Act.put, List.setIfInBounds_toArray, List.set_cons_zero, List.set_cons_succ]
  refine anyK_take (i := 7) (v := ?_) rfl (by kernel_rfl) (by kernel_rfl) (by kernel_rfl) (N := 11) (by kernel_rfl) (by kernel_rfl) (by kernel_rfl) (fun _ _ _ h => h) (Or.inl ⟨by rfl, ?_⟩) (HSj.out _ Ew0) ?_
  rotate_left 1
  · intro w hSw
    go_simp
    try with_reducible rfl
  show anyK _ _ _ _ _ _ _ _ (Act.put _ (some 115) _) _
  simp only [Act.put, List.setIfInBounds_toArray, List.set_cons_zero, List.set_cons_succ]
  refine anyK_one (i := 8) (by kernel_rfl) rfl (fun Kk hKk => ?_)
  go_simp
  (go_at_call 22; refine (HMe.out _ Ew0).mono ?_; rintro e we ⟨rfl, hx⟩)
  have Ewe : Ext w15 we := Ew0.trans hx
  go_wp2_with fail
  refine hKk.out _ _ (fun _ => HSj.out _ Ewe) ?_
  clear hKk Kk hx
  simp only [List.setIfInBounds_toArray, List.set_cons_zero, List.set_cons_succ]
  refine anyK_take (i := 9) (v := ?_) rfl (by kernel_rfl) (by kernel_rfl) (by kernel_rfl) (N := 11) (by kernel_rfl) (by kernel_rfl) (by kernel_rfl) (fun _ _ _ h => h) (Or.inl ⟨by rfl, ?_⟩) (HSj.out _ Ewe) ?_
  rotate_left 1
  · intro w hSw
    go_simp
    try with_reducible rfl
  show anyK _ _ _ _ _ _ _ _ (Act.put _ (some 117) _) _
  simp only [Act.put, List.setIfInBounds_toArray, List.set_cons_zero, List.set_cons_succ]
  refine anyK_one (i := 10) (by kernel_rfl) rfl (fun Kk hKk => ?_)
  go_wp2_with fail
  refine hKk.out _ _ (fun h => Bool.noConfusion (show true = false from h)) ?_
  clear hKk Kk
  simp only [List.setIfInBounds_toArray, List.set_cons_zero, List.set_cons_succ]
  refine anyK_done (by kernel_rfl) ?_ _
  have HEf := Lib.hid (HEall.out.trans Ewe)
  go_wp2_with fail
  go_ret
  exact ⟨rfl, HEf.out⟩
end Go.Proofs.YtfoncakadficlaaDoor
namespace Go.Proofs.YtfoncakadficlaaDoor
open Go.RowKit Go.ChangeShapes Go.WideShapes Go.Deep

theorem addr_at (b o t : Nat) : (⟨b, o, none⟩ : Addr).add t = ⟨b, o + t, none⟩ := by
  unfold Addr.add
  by_cases h : t = 0 <;> simp [h]

section
variable {H : Type} {enc : TypeId × Value → H} {W : World}

end

end Go.Proofs.YtfoncakadficlaaDoor
namespace Go.Proofs.YtfoncakadficlaaDoor
open Go.RowKit Go.ChangeShapes Go.WideShapes

/-- What lay there is as it was: what is asked behind the call. -/
theorem post_kept {H : Type} {enc : TypeId × Value → H} {P : Program} {f : Func} {s : ChangeSpec} {apart fresh handsOn again : Bool} {W W' : World} {args : Array Value} {v : Value} {ds gs : List (DataW H)} {ps : List MemPlace}
    (hW : DataW.Whole enc P f.params.toList s.vars apart W args.toList ds gs ps)
    (hres : ∀ (b : Nat) (sp : Nat → Bool) (hd : Bool), DataW.TrodAll enc P W' b sp hd f.resultTypes.toList (v.resultList f.resultTypes.size) (s.fn H (ds ++ gs)).results [])
    (hargs : ∀ sp : Nat → Bool, (∀ x ∈ ps, sp x.block = true) → DataW.TrodAll enc P W' 0 sp true f.params.toList args.toList (s.fn H (ds ++ gs)).args ps)
    (hvars : ∀ sp : Nat → Bool, DataW.TrodVars enc P W' sp s.vars (s.fn H (ds ++ gs)).vars [])
    (hb : Ext W W')
    (hok : ∀ (j : Nat) (t : TypeId) (r : Value), f.resultTypes[j]? = some t → (v.resultList f.resultTypes.size)[j]? = some r → Value.okWide P W' .any 0 t r) :
    s.post enc P f apart fresh handsOn again W args v W' := by
  have hlt := hW.lt
  have hold : ∀ x ∈ ps, decide (x.block < W.heap.size) = true := fun x hx => by simpa using hlt x hx
  have hall : ∀ x ∈ ps, (fun _ : Nat => true) x.block = true := fun _ _ => rfl
  have hn : W.noneFrozen ps ∧ (apart = true → ps.Nodup) := by
    obtain ⟨_, _, _, _, rfl, h1, h2⟩ := hW
    exact ⟨h1, h2⟩
  refine ⟨ds, gs, ps, [], ps, [], hW, hres _ _ _, hargs _ hold, hvars _, Below.frame hb _, fun _ => ?_⟩
  refine ⟨hok, _, _, ([] ++ ps) ++ [], ⟨[] ++ ps, [], trodAll_append (hargs (fun _ => true) hall) (hres _ _ _), hvars _, rfl, ?_, ?_⟩, ?_⟩
  · intro b off hp
    have hp' : MemPlace.cell b off ∈ ps := by simpa using hp
    rw [Below.frozen hb (p := ⟨b, off, none⟩) (hlt _ hp')]
    exact hn.1 b off hp'
  · intro ha
    simpa using hn.2 ha
  · intro x hx _
    simpa using hx

end Go.Proofs.YtfoncakadficlaaDoor
namespace Go.Proofs.YtfoncakadficlaaDoor
open Go.RowKit Go.ChangeShapes Go.WideShapes Go.Deep

section
variable {H : Type} {enc : TypeId × Value → H} {W : World}
theorem bytes_strC : Tryd.prog.bytesOf 9 = 16 := by kernel_rfl
theorem cells_strC : Tryd.prog.cellsOf 9 = 1 := by kernel_rfl
theorem cells_co : Tryd.prog.cellsOf 24 = 2 := by kernel_rfl

set_option maxRecDepth 100000 in
theorem open_code {v : Value} {d : DataW H} {p : List MemPlace} {base : Nat} (hok : Value.okWide Tryd.prog W .any base 24 v) (h : DataW.Trod enc Tryd.prog W 0 (fun _ => true) true 24 v d p) (hz : ∀ k ∈ d.weights Tryd.prog 24, k ≤ reachBytes) :
    ∃ (N : Int) (gens : List (List UInt8)) (ao : Option Addr) (n cp : Nat), v = .agg #[.int .i64 N, .slice ao n cp] ∧ StrsAt W ao n gens ∧ (∀ T ∈ gens, T.length ≤ 9223372036854775807) ∧ n * 16 ≤ 140737488355328 ∧ (ao = none → cp = 0) ∧ N ≤ 9223372036854775807 := by
  obtain ⟨fuel, h⟩ := h
  have hv : ∃ cs : Array Value, v = .agg cs := by
    unfold Value.okWide at hok
    rw [Tryd.underlying24] at hok
    obtain ⟨cs, e, _⟩ := hok
    exact ⟨cs, e⟩
  obtain ⟨cs, rfl⟩ := hv
  obtain ⟨xs, n, _, hx0, hl, hlen, hf⟩ := DataW.trod_struct Tryd.underlying24 h
  obtain ⟨cl⟩ := cs
  have hcl : (Value.agg ⟨cl⟩).cells.toList = cl := rfl
  rw [hcl] at hl hf
  rw [cells_co] at hl
  match xs, hlen, cl, hl with
  | [y0, y1], _, [v0, v1], _ =>
    injection hx0 with hd hp
    subst hd
    have g0 := hf 0 _ rfl
    have g1 := hf 1 _ rfl
    simp only [List.getElem?_cons_zero, List.getElem?_cons_succ] at g0 g1
    obtain ⟨N, e0, _, hwf⟩ := DataW.trod_int Tryd.underlying3 g0
    injection e0 with e0
    have hN : N ≤ 9223372036854775807 := by
      have h1 : (decide (IntKind.i64.min ≤ N) && decide (N ≤ IntKind.i64.max)) = true := hwf
      rw [Bool.and_eq_true, decide_eq_true_eq, decide_eq_true_eq] at h1
      exact h1.2
    have hz2 : ∀ k ∈ y1.1.weights Tryd.prog 22, k ≤ reachBytes := fun k hk => hz k (by simp [DataW.weights, Tryd.underlying24, DataW.weightsEach, hk])
    rcases open_slice1 Tryd.underlying22 cells_strC g1 with ⟨e2, _⟩ | ⟨a, len, cap, m, n', V, D, Pl, e2, _, hl2, hm2, hmm, hy2, hx⟩
    · injection e2 with e2
      exact ⟨N, [], none, 0, 0, by rw [e0, e2], ⟨rfl, Or.inl rfl⟩, fun T hT => (by cases hT), by omega, fun _ => rfl, hN⟩
    · injection e2 with e2
      have hmc : m = cap := by simpa using hmm
      subst hmc
      subst hy2
      have hr : reachBytes ≤ 140737488355328 := by decide
      have hb := hz2 ((len + (m - len)) * Tryd.prog.bytesOf 9) (by simp [DataW.weights, Tryd.underlying22])
      rw [bytes_strC] at hb
      obtain ⟨F, hF⟩ := choose_lt (α := List UInt8) (n := m) (p := fun i z => W.cell? (a.add i) = some (.string ⟨z.toArray⟩) ∧ z.length ≤ 9223372036854775807) (fun i hi => by
        obtain ⟨h1, h2⟩ := hx i hi
        obtain ⟨s, e, _, hs⟩ := DataW.trod_string Tryd.underlying9 h2
        injection e with e
        refine ⟨s.data.toList, ?_, ?_⟩
        · rw [h1, e]
        · have hm : maxLen ≤ 9223372036854775807 := by unfold maxLen; decide
          have h8 : s.data.toList.length = s.size := by rw [Array.length_toList]; rfl
          rw [h8]
          exact Nat.le_trans hs hm)
      obtain ⟨b, o, spot⟩ := a
      refine ⟨N, (List.range len).map F, some ⟨b, o, spot⟩, len, m, by rw [e0, e2], ⟨by simp, ?_⟩, fun T hT => ?_, by omega, fun e => (by cases e), hN⟩
      · by_cases h0 : len = 0
        · exact Or.inl h0
        · have h1 := (hF 0 (by omega)).1
          have hs : spot = none := by simpa [Addr.add] using World.cell?_spot h1
          subst hs
          refine Or.inr ⟨b, o, rfl, World.block_lt_of_cell? W _ h1, fun t ht => ?_⟩
          have := (hF t (by omega)).1
          rw [addr_at] at this
          rw [this, List.getD_eq_getElem?_getD, List.getElem?_map, List.getElem?_range ht]
          rfl
      · obtain ⟨i, hi, rfl⟩ := List.mem_map.1 hT
        exact (hF i (by have := List.mem_range.1 hi; omega)).2
end

set_option maxRecDepth 100000 in
theorem letter_row {H : Type} {enc : TypeId × Value → H} {W : World} {base : Nat} {sp : Nat → Bool} {held : Bool} {fuel : Nat} {cs : List Value} {a b : Int} {c : Bool} {p : List MemPlace}
    (h : DataW.trod enc Tryd.prog W base sp held fuel 67 cs = some (.agg [.lit (.int .u16 a), .lit (.int .u16 b), .lit (.bool c)], p)) :
    cs = [.int .u16 a, .int .u16 b, .bool c] := by
  obtain ⟨xs, n, _, hx, hl, hlen, hf⟩ := DataW.trod_struct Tryd.underlying67 h
  have hc : Tryd.prog.cellsOf 67 = 3 := by kernel_rfl
  rw [hc] at hl
  match xs, hlen, cs, hl with
  | [y0, y1, y2], _, [v0, v1, v2], _ =>
    have g0 := hf 0 _ rfl
    have g1 := hf 1 _ rfl
    have g2 := hf 2 _ rfl
    simp only [List.getElem?_cons_zero, List.getElem?_cons_succ] at g0 g1 g2
    obtain ⟨b0, e0, z0, _⟩ := DataW.trod_int Tryd.underlying65 g0
    obtain ⟨b1, e1, z1, _⟩ := DataW.trod_int Tryd.underlying65 g1
    obtain ⟨b2, e2, z2⟩ := DataW.trod_bool Tryd.underlying4 g2
    subst z0; subst z1; subst z2
    injection hx with hd _
    simp only [List.map_cons, List.map_nil, DataW.agg.injEq, List.cons.injEq, DataW.lit.injEq, Lit.int.injEq, Lit.bool.injEq, true_and, and_true] at hd
    obtain ⟨rfl, rfl, rfl⟩ := hd
    injection e0 with e0; injection e1 with e1; injection e2 with e2
    rw [e0, e1, e2]

set_option maxRecDepth 100000 in
theorem ltl_of_laid {W : World} (h : laidMet Tryd.prog [("qloom/code.letters", Rows.laid_qloom_code_letters)] W) : LtL W := by
  obtain ⟨ps, ⟨g', t', cs, fuel, p, q, hg', ht', hvar, hd, _, hps⟩, _, hfz⟩ := h
  obtain rfl := Option.some.inj ((show Tryd.prog.globalNamed "qloom/code.letters" = some 0 by kernel_rfl).symm.trans hg')
  obtain rfl := Option.some.inj ((show (Tryd.prog.globals[0]?).map (·.type) = some 120 by kernel_rfl).symm.trans ht')
  have hblk : ∃ t, W.heap[(0 : Nat)]? = some (.cells cs t (0, 0)) := by
    have hv := hvar
    simp only [World.var?, hg', Option.bind_some] at hv
    split at hv
    · rename_i c t f hc
      obtain rfl := Option.some.inj hv
      obtain ⟨xs, m, _, hx, hl, hlen, _⟩ := DataW.trod_array Tryd.underlying120 hd
      have hc9 : Tryd.prog.cellsOf 120 = 9 := by kernel_rfl
      rw [hc9] at hl
      have hs : c.size = 9 := by simpa using hl
      obtain ⟨⟨c', t', h'⟩, _⟩ := hfz 0 0 (by
        rw [hps, hs]
        refine List.mem_append_left _ (List.mem_append_left _ ?_)
        simp [MemPlace.row])
      rw [hc] at h'
      injection h' with h'
      injection h' with h1 h2 h3
      exact ⟨t, by rw [hc, h3]⟩
    · cases hv
  obtain ⟨t, ht⟩ := hblk
  obtain ⟨xs, m, _, hx, hl, hlen, hf⟩ := DataW.trod_array Tryd.underlying120 hd
  have hc9 : Tryd.prog.cellsOf 120 = 9 := by kernel_rfl
  have hc3 : Tryd.prog.cellsOf 67 = 3 := by kernel_rfl
  rw [hc9] at hl
  rw [hc3] at hf
  match xs, hlen with
  | [y0, y1, y2], _ =>
    injection hx with hx _
    unfold Rows.laid_qloom_code_letters at hx
    simp only [List.map_cons, List.map_nil, DataW.agg.injEq, List.cons.injEq, and_true] at hx
    obtain ⟨x0, x1, x2⟩ := hx
    have key : ∀ (k : Nat) (y : DataW Unit × List MemPlace) (a b : Int) (c : Bool), k < 3 → [y0, y1, y2][k]? = some y → .agg [.lit (.int .u16 a), .lit (.int .u16 b), .lit (.bool c)] = y.1 → (cs.toList.drop (k * 3)).take 3 = [.int .u16 a, .int .u16 b, .bool c] := by
      intro k y a b c hk hy he
      have h1 := hf k hk
      rw [hy] at h1
      obtain ⟨yd, yp⟩ := y
      simp only at he
      subst he
      exact letter_row h1
    have k0 := key 0 y0 _ _ _ (by omega) rfl x0
    have k1 := key 1 y1 _ _ _ (by omega) rfl x1
    have k2 := key 2 y2 _ _ _ (by omega) rfl x2
    refine ⟨t, ?_⟩
    rw [ht]
    congr 2
    apply Array.toList_inj.1
    have e : cs.toList = (cs.toList.drop (0 * 3)).take 3 ++ ((cs.toList.drop (1 * 3)).take 3 ++ (cs.toList.drop (2 * 3)).take 3) := by
      apply List.ext_getElem?
      intro i
      have hl9 : cs.toList.length = 9 := hl
      simp only [List.getElem?_append, List.getElem?_take, List.getElem?_drop, List.length_take, List.length_drop, hl9]
      by_cases h3 : i < 3
      · simp [h3]
      · by_cases h6 : i < 6
        · have : i - 3 < 3 := by omega
          simp [h3, this]
          congr 1; omega
        · by_cases h9 : i < 9
          · have a1 : ¬ i - 3 < 3 := by omega
            have a2 : i - 3 - 3 < 3 := by omega
            simp [h3, a1, a2]
            congr 1; omega
          · have a1 : ¬ i - 3 < 3 := by omega
            have a2 : ¬ i - 3 - 3 < 3 := by omega
            simp [h3, a1, a2]
            have : cs.size = 9 := by simpa using hl9
            omega
    rw [e, k0, k1, k2]
    rfl
end Go.Proofs.YtfoncakadficlaaDoor
