/-
  CodeChecks' walk. A circuit that was handed in, opened: its operations and their lists as they lie in memory. The table of kinds, as it is laid; what is asked behind a call that leaves all that lay there as it was. A code that was handed in, opened: its generators as they lie in memory; the table of letters, as it is laid.
-/
import Derived.Test.YtfoncakadficlaaDoorProg
import Derived.Test.YtfoncakadficlaaDoorRows
import Derived.BigQuiet
import Derived.Carry
import Derived.ChangeSame
import Derived.Deep.AppendLies
import Derived.Deep.Cut
import Derived.Deep.CutRange
import Derived.Deep.LoopGhost
import Derived.Deep.QuietTactic
import Derived.Deep.RegionHeld3
import Derived.Deep.Slices
import Derived.DeepKeys4
import Derived.FnData
import Derived.Laws.Bits64b
import Derived.Laws.CopyOwn
import Derived.Laws.ResultCell
import Derived.Lib.AppendStr
import Derived.Lib.BitFns
import Derived.Lib.Hide
import Derived.Lib.ItoaMem
import Derived.Lib.ItoaNum
import Derived.Lib.Strings
import Derived.LoopIn
import Derived.LoopNIn
import Derived.Maps.AppendAt
import Derived.Maps.OwnSet
import Derived.OpenShut
import Derived.OwnWalk
import Derived.OwnWalkIn
import Derived.RangeFuncBound
import Derived.RangeFuncBox
import Derived.RangeFuncCalls
import Derived.RangeFuncGives
import Derived.RangeFuncLeaves
import Derived.RangeFuncNested
import Derived.RangeFuncStops
import Derived.Shelf.Abstract
import Derived.Shelf.Bits.Mul64
import Derived.Shelf.RegionOpen
import Derived.Shelf.Small.Strs
import Derived.Shelf.Strings.Builder1
import Derived.Shelf.Strings.BuilderF
import Derived.Shelf.Strings.BuilderK
import Derived.Shelf.Strings.Prefix
import Derived.Shelf.Strings.Search1
import Derived.SizedLaws
import Derived.Sort.MapsRangeIn
import Derived.Stop.LaidErr
import Derived.TacticsInMore
import Derived.WalkKit
import Derived.WalkLawsBesides
import Derived.WalkSpells
import Derived.Test.YtfoncakadficlaaDoorS00Ca
import Derived.Test.YtfoncakadficlaaDoorShelf
import Derived.Test.YtfoncakadficlaaDoorS02Ig
import Derived.Test.YtfoncakadficlaaDoorS03In
import Derived.Test.YtfoncakadficlaaDoorS04Is
import Derived.Test.YtfoncakadficlaaDoorS05It
import Derived.Test.YtfoncakadficlaaDoorS06Ix
import Derived.Test.YtfoncakadficlaaDoorS07Aa
import Derived.Test.YtfoncakadficlaaDoorS08Ag
namespace Go.Proofs.YtfoncakadficlaaDoor
open Go.RowKit

theorem StrsAt.far {w w' : World} {a : Option Addr} {n k : Nat} {l : List (List UInt8)} (h : StrsAt w a n l) (hO : Only k w w') {cs : Array Value} {t : TypeId} (hr : w.heap[k]? = some (.cells cs t (0, 0))) (hc : ∀ (j : Nat) (x : ByteArray), cs[j]? ≠ some (.string x)) : StrsAt w' a n l := by
  refine ⟨h.1, ?_⟩
  rcases h.2 with h0 | ⟨b, o, e, hb, hcs⟩
  · exact Or.inl h0
  · by_cases hn0 : n = 0
    · exact Or.inl hn0
    refine Or.inr ⟨b, o, e, by rw [hO.size]; exact hb, ?_⟩
    have hne : b ≠ k := by
      rintro rfl
      have h9 := hcs 0 (by omega)
      rw [cell_of_row w b _ cs _ (0, 0) hr] at h9
      exact hc _ _ h9
    intro t ht
    exact (World.cell?_of_block (a := ⟨b, o + t, none⟩) (hO.block b hne)).trans (hcs t ht)
theorem IntsAt.farC {w w' : World} {a : Option Addr} {n k : Nat} {l : List Int} (h : IntsAt w a n l) (hO : Only k w w') (hk : ∀ ad, a = some ad → ad.block ≠ k) : IntsAt w' a n l := by
  refine ⟨h.1, ?_⟩
  rcases h.2 with h0 | ⟨b, o, e, hb, hcs⟩
  · exact Or.inl h0
  · refine Or.inr ⟨b, o, e, by rw [hO.size]; exact hb, ?_⟩
    intro t ht
    exact (World.cell?_of_block (a := ⟨b, o + t, none⟩) (hO.block b (hk _ e))).trans (hcs t ht)
theorem noS {u v : Int} : ∀ (j : Nat) (x : ByteArray), (#[.int .i64 u, .int .i64 v] : Array Value)[j]? ≠ some (.string x) := by
  intro j x h
  match j, h with
  | 0, h => simp at h
  | 1, h => simp at h
  | j + 2, h => simp at h
theorem cc_snd {N : Int} {gens : List (List UInt8)} {d1 : Int} (h : ccF N gens = (0, d1)) : d1 = 0 := by
  unfold ccF at h
  split at h
  · exact absurd (congrArg Prod.fst h) (by simp)
  split at h
  · exact absurd (congrArg Prod.fst h) (by simp)
  split at h
  · exact absurd (congrArg Prod.fst h) (by simp)
  split at h
  · exact absurd (congrArg Prod.fst h) (by simp)
  split at h
  · exact absurd (congrArg Prod.fst h) (by simp)
  exact (congrArg Prod.snd h).symm
theorem isp_is {n : Nat} (hn : 1 ≤ n) (T : List UInt8) : ispB (n : Int) T = isP n T := by
  unfold ispB
  rw [decide_eq_true (by omega), Int.toNat_natCast, Bool.true_and]

set_option maxRecDepth 100000 in
set_option maxHeartbeats 8000000 in
theorem cchecks_walk (N : Int) (gens : List (List UInt8)) (T : List UInt8) (ao : Option Addr) (k cp : Nat) (w : World) (hG : StrsAt w ao k gens) (hT : ∀ T ∈ gens, T.length ≤ 9223372036854775807) (hk9 : k * 16 ≤ 140737488355328) (hnil : ao = none → cp = 0) (hTl : T.length ≤ 9223372036854775807) (hN : N ≤ 9223372036854775807) (hL : LtL w) :
    Calls Tryd.prog 3 #[.agg #[.int .i64 N, .slice ao k cp], .string ⟨T.toArray⟩] w fun e w' => e = .returned (.bool true) ∧ Ext w w' := by
  have hk6 : k ≤ 9223372036854775806 := by omega
  obtain ⟨H, hH⟩ : ∃ H, w.heap.size = H := ⟨_, rfl⟩
  obtain ⟨W0, hW0⟩ : ∃ W0, w.alloc (.cells #[.int .i64 N, .slice ao k cp] 24) = W0 := ⟨_, rfl⟩
  have E0 : Ext w W0 := by rw [← hW0]; exact ext_al w _
  have C0 : CoB W0 H N ao k cp := by rw [← hW0, ← hH]; exact CoB.new w _ _ _ _
  have HC := Lib.hid (copyCode_any N gens ao k cp W0 (hG.ext E0) hk9 hnil)
  have HE0 := Lib.hid E0; have HD := Lib.hid C0; have HW0 := Lib.hid hW0; have HH := Lib.hid hH; have Hh := Lib.hid (hG.ext E0); have HL := Lib.hid (hL.ext E0); have HT := Lib.hid hT; have Hk6 := Lib.hid hk6; have HTl := Lib.hid hTl; have HN := Lib.hid hN
  have Hlg := Lib.hid (show gens.length = k from hG.1)
  have v0 := C0.x0; have v1 := C0.x1
  clear hG hT hk9 hnil hTl hN hL E0 C0 hW0 hH hk6
  go_enter Tryd.func3, Tryd.ntmps3
  go_upto_region 1 with fail
  rw [HW0.out, HH.out]
  go_wp2_with fail
  refine HC.out.mono ?_
  rintro e w1 ⟨a1, c1, rfl, ⟨hL1, hc1, hm1⟩, hx1⟩
  obtain ⟨K, hK⟩ : ∃ K, w1.heap.size = K := ⟨_, rfl⟩
  obtain ⟨U, hU⟩ : ∃ U, w1.alloc (.cells #[.int .i64 N, .slice a1 k c1] 24) = U := ⟨_, rfl⟩
  have EU : Ext w1 U := by rw [← hU]; exact ext_al _ _
  have bU : CoB U K N a1 k c1 := by rw [← hU, ← hK]; exact CoB.new _ _ _ _ _
  have HX := Lib.hid (hx1.trans EU); have HbU := Lib.hid bU; have HLU := Lib.hid (hL1.ext EU); have HU := Lib.hid hU; have HK := Lib.hid hK
  have HCk := Lib.hid (codeCheck_any N gens a1 k c1 U (hL1.ext EU) HT.out Hk6.out)
  obtain ⟨d, hd⟩ : ∃ d, ccF N gens = d := ⟨_, rfl⟩
  obtain ⟨d0, d1⟩ := d
  rw [hd] at HCk
  have Hd := Lib.hid hd
  have u0 := bU.x0; have u1 := bU.x1
  clear hL1 hc1 hm1 hx1 EU bU hU hK hd v0 v1 HC
  go_upto_region 2 with fail
  rw [HU.out, HK.out]
  clear HU HK
  go_wp2_with fail
  refine HCk.out.mono ?_
  rintro e w2 ⟨rfl, hx2⟩
  obtain ⟨K2, hK2⟩ : ∃ K2, w2.heap.size = K2 := ⟨_, rfl⟩
  obtain ⟨V, hV⟩ : ∃ V, w2.alloc (.cells #[.int .i64 d0, .int .i64 d1] 27) = V := ⟨_, rfl⟩
  have EV : Ext w2 V := by rw [← hV]; exact ext_al _ _
  have bV : FtB V K2 d0 d1 := by rw [← hV, ← hK2]; exact ⟨heap_alloc_new w2 _⟩
  have EUV := hx2.trans EV
  have EWV := HX.out.trans EUV
  have HEV := Lib.hid EWV; have HbV := Lib.hid bV; have HV := Lib.hid hV; have HK2 := Lib.hid hK2; have HLV := Lib.hid (HLU.out.ext EUV); have HUV := Lib.hid (HbU.out.ext EUV)
  have hc0 := HD.out.ext EWV
  have v0 := hc0.x0; have v1 := hc0.x1
  have HwK2 := Lib.hid (show w.heap.size ≤ K2 ∧ H < K2 by rw [← hK2]; exact ⟨Nat.le_trans HE0.out.size (Nat.le_trans HX.out.size hx2.size), Nat.lt_of_lt_of_le HD.out.lt (Nat.le_trans HX.out.size hx2.size)⟩)
  have HCD := Lib.hid (CheckCode_any N gens ao k cp V (Hh.out.ext EWV) HT.out Hk6.out)
  rw [Hd.out] at HCD
  clear u0 u1 hx2 EV bV EUV EWV hV hK2 HCk hc0
  go_upto_region 3 with fail
  rw [HV.out, HK2.out]
  clear HV
  go_wp2_with fail
  refine HCD.out.mono ?_
  rintro e w3 ⟨rfl, hx3⟩
  obtain ⟨K3, hK3⟩ : ∃ K3, w3.heap.size = K3 := ⟨_, rfl⟩
  obtain ⟨X, hX⟩ : ∃ X, w3.alloc (.cells #[.int .i64 d0, .int .i64 d1] 27) = X := ⟨_, rfl⟩
  have EX : Ext V X := by rw [← hX]; exact hx3.trans (ext_al _ _)
  have bX : FtB X K3 d0 d1 := by rw [← hX, ← hK3]; exact ⟨heap_alloc_new w3 _⟩
  have EWX := HEV.out.trans EX
  have hK23 : K2 < K3 := by rw [← hK3]; exact Nat.lt_of_lt_of_le HbV.out.lt hx3.size
  have HbX := Lib.hid bX; have HX3 := Lib.hid hX; have HK3 := Lib.hid hK3; have HEX := Lib.hid EWX; have HbV := Lib.hid (HbV.out.ext EX); have HLV := Lib.hid (HLV.out.ext EX); have HUV := Lib.hid (HUV.out.ext EX); have HhX := Lib.hid (Hh.out.ext EWX); have HDX := Lib.hid (HD.out.ext EWX); have HK23 := Lib.hid hK23
  have HB := Lib.hid (codeBegun_any X (HL.out.ext EWX))
  clear hx3 EX bX EWX hX hK3 v0 v1 HCD hK23
  go_upto_region 4 with fail
  rw [HX3.out, HK3.out]
  clear HX3
  go_wp2_with fail
  refine HB.out.mono ?_
  rintro e w4 ⟨rfl, hx4⟩
  have v0 := (HDX.out.ext hx4).x0; have v1 := (HDX.out.ext hx4).x1; have u0 := (HUV.out.ext hx4).x0; have u1 := (HUV.out.ext hx4).x1
  have y0 := (HbV.out.ext hx4).x0; have y1 := (HbV.out.ext hx4).x1; have z0 := (HbX.out.ext hx4).x0; have z1 := (HbX.out.ext hx4).x1
  have HSD := Lib.hid (sameCode_any N gens a1 k c1 ao cp w4 (HLV.out.ext hx4) (HhX.out.ext hx4) Hk6.out)
  have H4 := Lib.hid hx4
  clear hx4 HB
  go_wp2_with fail
  refine HSD.out.mono ?_
  rintro e w5 ⟨rfl, hx5⟩
  have H5 := Lib.hid (H4.out.trans hx5)
  have v0' := cell_ext v0 hx5; have v1' := cell_ext v1 hx5
  have u0' := cell_ext u0 hx5; have u1' := cell_ext u1 hx5
  clear v0 v1 u0 u1 y0 y1 z0 z1 hx5 HSD H4
  go_upto_region 6 with fail
  have HSy := Lib.hid (Syndrome_any N gens T a1 k c1 w5 (HLV.out.ext H5.out) HT.out Hk6.out (by have := HTl.out; omega))
  obtain ⟨y, hy⟩ : ∃ y, syF N gens T = y := ⟨_, rfl⟩
  rw [hy] at HSy
  obtain ⟨f0, f1⟩ := y
  unfold syF at hy
  rw [Hd.out] at hy
  have Hy := Lib.hid hy
  have bv5 := HbV.out.ext H5.out
  have Hbv5 := Lib.hid bv5
  clear hy bv5
  go_wp2_with fail
  refine HSy.out.mono ?_
  rintro e w6 ⟨r, rfl, hx6, hg1, hg2⟩
  have bv := Hbv5.out.ext hx6
  have y0 := bv.x0; have y1 := bv.x1; have yf0 := bv.f 0; have yf1 := bv.f 1
  obtain ⟨W6, hW6⟩ : ∃ V, (w6.setCell ⟨K2, 0, none⟩ (.int .i64 f0)).setCell ⟨K2, 1, none⟩ (.int .i64 f1) = V := ⟨_, rfl⟩
  have hO : Only K2 w6 W6 := by rw [← hW6]; exact ((Only.refl _ _).setCell _ _).setCell _ _
  have b6 : FtB W6 K2 f0 f1 := by rw [← hW6]; exact ⟨row_put (row_put bv.row rfl) rfl⟩
  have EX6 : Ext X w6 := H5.out.trans hx6
  have EW6 : Ext W0 w6 := HEX.out.trans EX6
  have hK2X : K2 < X.heap.size := HbV.out.lt
  have h36 := (HbX.out.ext EX6).farC hO (by have := HK23.out; omega)
  have hh6 : StrsAt W6 ao k gens := (HhX.out.ext EX6).far hO bv.row noS
  have hd6 : CoB W6 H N ao k cp := (HDX.out.ext EX6).far hO (by have h9 := HwK2.out.2; omega)
  have hE6 : Ext w W6 := ext_onlyC (HE0.out.trans EW6) hO HwK2.out.1
  have hgI : (f0, f1).1 = 0 → ∃ a c', r = .slice a k c' ∧ k ≤ c' ∧ c' ≤ 9223372036854775807 ∧ IntsAt W6 a k (synL gens (T.drop 1)) := fun h => by
    obtain ⟨a, c', h1, h2, h3, h4, h5⟩ := hg1 h
    exact ⟨a, c', h1, h2, h3, h4.farC hO (fun ad e => by have h7 := h5 ad e; have h8 := H5.out.size; omega)⟩
  have HIP := Lib.hid (IsPauli_any T N W6 HN.out (by have := HTl.out; omega))
  have Hb6 := Lib.hid b6; have H36 := Lib.hid h36; have Hh6 := Lib.hid hh6; have Hd6 := Lib.hid hd6; have HE6 := Lib.hid hE6; have HgI := Lib.hid hgI; have Hg2 := Lib.hid hg2; have HW6 := Lib.hid hW6
  have v0 := hd6.x0
  clear hx6 hg1 hg2 bv hW6 hO b6 EX6 EW6 hK2X h36 hh6 hd6 hE6 hgI HSy u0' u1' v0' v1'
  go_upto_region 7 with fail
  rw [HW6.out]
  clear HW6 y0 y1 yf0 yf1
  go_wp2_with fail
  refine HIP.out.mono ?_
  rintro e w7 ⟨rfl, hx7⟩
  obtain ⟨W7, hW7⟩ : ∃ V, w7.alloc (.cells #[.bool (ispM N T), .string ⟨(ispS N T).toArray⟩] 35) = V := ⟨_, rfl⟩
  have E7 : Ext W6 W7 := by rw [← hW7]; exact hx7.trans (ext_al _ _)
  have HW7 := Lib.hid hW7
  have by7 := Hb6.out.ext E7; have bg7 := H36.out.ext E7
  have y0 := by7.x0; have y1 := by7.x1; have z0 := bg7.x0; have z1 := bg7.x1; have zf0 := bg7.f 0; have zf1 := bg7.f 1
  have hc7 := Hd6.out.ext E7
  have v0' := hc7.x0; have v1' := hc7.x1
  have HE7 := Lib.hid (HE6.out.trans E7); have Hh7 := Lib.hid (Hh6.out.ext E7); have HE67 := Lib.hid E7; have Hb3 := Lib.hid bg7; have Hb2 := Lib.hid by7
  clear hx7 hW7 E7 by7 bg7 hc7 HIP v0
  go_upto_region 8 with fail
  rw [HW7.out]
  clear HW7
  obtain ⟨B, hB⟩ : ∃ B, ispB N T = B := ⟨_, rfl⟩
  rw [hB]
  have HBe := Lib.hid hB
  clear hB
  by_cases hd0 : d0 = 0
  rotate_left 1
  · -- the code has a fault
    have hcb := bf hd0
    have hy := Hy.out
    rw [if_pos hd0] at hy
    have e0 : f0 = d0 := (congrArg Prod.fst hy).symm
    have e1 : f1 = d1 := (congrArg Prod.snd hy).symm
    subst e0; subst e1
    have hr := Hg2.out hd0
    subst hr
    have hnt := nt hd0
    clear hy hd0 zf0 zf1 v0' v1'
    go_wp2_with fail
    go_ret
    exact ⟨rfl, HE7.out⟩
  subst hd0
  have hd1 : d1 = 0 := cc_snd Hd.out
  subst hd1
  have hy := Hy.out
  rw [if_neg (by simp)] at hy
  obtain ⟨n1, n12, nk, hall⟩ := cc_zero (N := N) (gens := gens) (by rw [Hd.out])
  obtain ⟨nn, rfl⟩ : ∃ nn : Nat, N = (nn : Int) := ⟨N.toNat, by omega⟩
  have hBi : isP nn T = B := by rw [← isp_is (by omega) T]; exact HBe.out
  rw [Int.toNat_natCast] at hy hall
  cases B
  · -- the error is no Pauli
    rw [if_neg (by rw [hBi]; decide)] at hy
    have e0 : f0 = 33 := (congrArg Prod.fst hy).symm
    have e1 : f1 = 0 := (congrArg Prod.snd hy).symm
    subst e0; subst e1
    have hr := Hg2.out (by decide)
    subst hr
    have hE8 : Ext w ((W7.setCell ⟨K3, 0, none⟩ (.int .i64 33)).setCell ⟨K3, 1, none⟩ (.int .i64 0)) := put2x HE7.out (by have := HwK2.out.1; have := HK23.out; omega) _ _
    have hO8 : Only K3 W7 ((W7.setCell ⟨K3, 0, none⟩ (.int .i64 33)).setCell ⟨K3, 1, none⟩ (.int .i64 0)) := ((Only.refl _ _).setCell _ _).setCell _ _
    have b8 : FtB ((W7.setCell ⟨K3, 0, none⟩ (.int .i64 33)).setCell ⟨K3, 1, none⟩ (.int .i64 0)) K3 33 0 := ⟨row_put (row_put Hb3.out.row rfl) rfl⟩
    have c8 := Hb2.out.farC hO8 (by have := HK23.out; omega)
    have HE8 := Lib.hid hE8; have Hb8 := Lib.hid b8; have Hc8 := Lib.hid c8
    clear hy n1 n12 nk hall hBi hE8 hO8 b8 c8 y0 y1 v0' v1'
    go_upto_region 10 with fail
    clear z0 z1 zf0 zf1
    generalize (W7.setCell ⟨K3, 0, none⟩ (.int .i64 33)).setCell ⟨K3, 1, none⟩ (.int .i64 0) = W8 at *
    have z0 := Hb8.out.x0; have z1 := Hb8.out.x1; have y0 := Hc8.out.x0; have y1 := Hc8.out.x1
    go_wp2_with fail
    go_ret
    exact ⟨rfl, HE8.out⟩
  · -- the syndrome
    rw [if_pos hBi] at hy
    have e0 : f0 = 0 := (congrArg Prod.fst hy).symm
    have e1 : f1 = 0 := (congrArg Prod.snd hy).symm
    subst e0; subst e1
    obtain ⟨a5, c5, rfl, hc5, hm5, hI5⟩ := HgI.out rfl
    have hTn : T.length = nn + 1 := (isP_let hBi).1
    have hsT : (⟨T.toArray⟩ : ByteArray).size = T.length := by simp [ByteArray.size]
    have hpc := drop_one_piece T
    have h1T : (1 : Int) ≤ (T.length : Int) := by omega
    obtain ⟨D, hD⟩ : ∃ D, T.drop 1 = D := ⟨_, rfl⟩
    rw [hD] at hpc hI5
    have HI5 := Lib.hid (hI5.ext HE67.out); have Hc5 := Lib.hid (And.intro hc5 hm5)
    have HSO := Lib.hid (fun (wx : World) (hx : Ext W7 wx) => SyndromeOf_any (nn : Int) gens D ao k cp wx (Hh7.out.ext hx) (by have := Hlg.out; omega) nn (by omega) (fun T hT => (isP_let (hall T hT)).1) (by rw [← hD, List.length_drop]; omega))
    clear hy n1 n12 nk hall hBi hTn hD hI5 hc5 hm5 z1 zf0 zf1 y1
    have v0 := v0'; have v1 := v1'
    clear v0' v1'
    go_upto_region 12 with fail
    have HSj := Lib.hid (fun (w' : World) (hx : Ext W7 w') => (show w'.cell? ⟨H, 0, none⟩ = some (.int .i64 (nn : Int)) ∧ w'.cell? ⟨H, 1, none⟩ = some (.slice ao k cp) ∧ w'.cell? ⟨K2, 0, none⟩ = some (.int .i64 0) from ⟨cell_ext v0 hx, cell_ext v1 hx, cell_ext y0 hx⟩))
    have G_ : Ext W7 W7.drew := Below.drew (Ext.refl _)
    clear v0 v1 y0
    refine wp_region_K 11 (fun w' => w'.cell? ⟨H, 0, none⟩ = some (.int .i64 (nn : Int)) ∧ w'.cell? ⟨H, 1, none⟩ = some (.slice ao k cp) ∧ w'.cell? ⟨K2, 0, none⟩ = some (.int .i64 0)) (by kernel_rfl) ?_
    show anyK _ _ _ _ _ _ 12 #[false, false, false, false, false, false, false, false, false, false, false, false] _ _
    refine anyK_take (i := 0) (v := ?_) rfl (by kernel_rfl) (by kernel_rfl) (by kernel_rfl) (N := 12) (by kernel_rfl) (by kernel_rfl) (by kernel_rfl) (fun _ _ _ h => h) (Or.inl ⟨by rfl, ?_⟩) (HSj.out _ G_) ?_
    rotate_left 1
    · intro w hSw
      go_simp
      try with_reducible rfl
    show anyK _ _ _ _ _ _ _ _ (Act.put _ (some 62) _) _
    simp only [Act.put, List.setIfInBounds_toArray, List.set_cons_zero, List.set_cons_succ]
    refine anyK_take (i := 1) (v := ?_) rfl (by kernel_rfl) (by kernel_rfl) (by kernel_rfl) (N := 12) (by kernel_rfl) (by kernel_rfl) (by kernel_rfl) (fun _ _ _ h => h) (Or.inl ⟨by rfl, ?_⟩) (HSj.out _ G_) ?_
    rotate_left 1
    · intro w hSw
      go_simp
      try with_reducible rfl
    show anyK _ _ _ _ _ _ _ _ (Act.put _ (some 63) _) _
    simp only [Act.put, List.setIfInBounds_toArray, List.set_cons_zero, List.set_cons_succ]
    refine anyK_take (i := 2) (v := ?_) rfl (by kernel_rfl) (by kernel_rfl) (by kernel_rfl) (N := 12) (by kernel_rfl) (by kernel_rfl) (by kernel_rfl) (fun _ _ _ h => h) (Or.inl ⟨by rfl, ?_⟩) (HSj.out _ G_) ?_
    rotate_left 1
    · intro w hSw
      go_simp
      try with_reducible rfl
    show anyK _ _ _ _ _ _ _ _ (Act.put _ (some 64) _) _
    simp only [Act.put, List.setIfInBounds_toArray, List.set_cons_zero, List.set_cons_succ]
    refine anyK_take (i := 3) (v := ?_) rfl (by kernel_rfl) (by kernel_rfl) (by kernel_rfl) (N := 12) (by kernel_rfl) (by kernel_rfl) (by kernel_rfl) (fun _ _ _ h => h) (Or.inl ⟨by rfl, ?_⟩) (HSj.out _ G_) ?_
    rotate_left 1
    · intro w hSw
      go_simp
      try with_reducible rfl
    show anyK _ _ _ _ _ _ _ _ (Act.put _ (some 65) _) _
    simp only [Act.put, List.setIfInBounds_toArray, List.set_cons_zero, List.set_cons_succ]
    refine anyK_take (i := 4) (v := ?_) rfl (by kernel_rfl) (by kernel_rfl) (by kernel_rfl) (N := 12) (by kernel_rfl) (by kernel_rfl) (by kernel_rfl) (fun _ _ _ h => h) (Or.inl ⟨by rfl, ?_⟩) (HSj.out _ G_) ?_
    rotate_left 1
    · intro w hSw
      go_simp
      try with_reducible rfl
    show anyK _ _ _ _ _ _ _ _ (Act.put _ (some 66) _) _
    simp only [Act.put, List.setIfInBounds_toArray, List.set_cons_zero, List.set_cons_succ]
    refine anyK_take (i := 5) (v := ?_) rfl (by kernel_rfl) (by kernel_rfl) (by kernel_rfl) (N := 12) (by kernel_rfl) (by kernel_rfl) (by kernel_rfl) (fun _ _ _ h => h) (Or.inl ⟨by rfl, ?_⟩) (HSj.out _ G_) ?_
    rotate_left 1
    · intro w hSw
      go_simp
      try with_reducible rfl
    show anyK _ _ _ _ _ _ _ _ (Act.put _ (some 67) _) _
    simp only [Act.put, List.setIfInBounds_toArray, List.set_cons_zero, List.set_cons_succ]
    refine anyK_take (i := 6) (v := ?_) rfl (by kernel_rfl) (by kernel_rfl) (by kernel_rfl) (N := 12) (by kernel_rfl) (by kernel_rfl) (by kernel_rfl) (fun _ _ _ h => h) (Or.inl ⟨by rfl, ?_⟩) (HSj.out _ G_) ?_
    rotate_left 1
    · intro w hSw
      go_simp
      try with_reducible rfl
    show anyK _ _ _ _ _ _ _ _ (Act.put _ (some 68) _) _
    simp only [Act.put, List.setIfInBounds_toArray, List.set_cons_zero, List.set_cons_succ]
    refine anyK_take (i := 7) (v := ?_) rfl (by kernel_rfl) (by kernel_rfl) (by kernel_rfl) (N := 12) (by kernel_rfl) (by kernel_rfl) (by kernel_rfl) (fun _ _ _ h => h) (Or.inl ⟨by rfl, ?_⟩) (HSj.out _ G_) ?_
    rotate_left 1
    · intro w hSw
      go_simp
      try with_reducible rfl
    show anyK _ _ _ _ _ _ _ _ (Act.put _ (some 69) _) _
    simp only [Act.put, List.setIfInBounds_toArray, List.set_cons_zero, List.set_cons_succ]
    refine anyK_one (i := 8) (by kernel_rfl) rfl (fun Kk hKk => ?_)
    go_simp
    (go_at_call 15; refine (HSO.out _ G_).mono ?_; rintro e w8 ⟨⟨v8, rfl, hr8⟩, hx8⟩)
    have E8 : Ext W7 w8 := G_.trans hx8
    obtain ⟨a8, c8, rfl, hac8, hcm8, hI8, _⟩ := ints_of_own hr8
    go_wp2_with fail
    refine hKk.out _ _ (fun _ => HSj.out _ E8) ?_
    clear hKk Kk hx8
    simp only [List.setIfInBounds_toArray, List.set_cons_zero, List.set_cons_succ]
    refine anyK_one (i := 9) (by kernel_rfl) rfl (fun Kk hKk => ?_)
    go_simp
    (go_at_call 14; refine (sameInts_any (synL gens D) a5 k c5 a8 c8 w8 (HI5.out.ext E8) hI8 Hc5.out.1 Hc5.out.2).mono ?_; rintro e w9 ⟨rfl, hx9⟩)
    have E9 : Ext W7 w9 := E8.trans hx9
    go_wp2_with fail
    refine hKk.out _ _ (fun _ => HSj.out _ E9) ?_
    clear hKk Kk hx9
    simp only [List.setIfInBounds_toArray, List.set_cons_zero, List.set_cons_succ]
    refine anyK_take (i := 10) (v := ?_) rfl (by kernel_rfl) (by kernel_rfl) (by kernel_rfl) (N := 12) (by kernel_rfl) (by kernel_rfl) (by kernel_rfl) (fun _ _ _ h => h) (Or.inl ⟨by rfl, ?_⟩) (HSj.out _ E9) ?_
    rotate_left 1
    · intro w hSw
      go_simp
      try with_reducible rfl
    show anyK _ _ _ _ _ _ _ _ (Act.put _ (some 72) _) _
    simp only [Act.put, List.setIfInBounds_toArray, List.set_cons_zero, List.set_cons_succ]
    refine anyK_one (i := 11) (by kernel_rfl) rfl (fun Kk hKk => ?_)
    go_wp2_with fail
    refine hKk.out _ _ (fun h => Bool.noConfusion (show true = false from h)) ?_
    clear hKk Kk
    simp only [List.setIfInBounds_toArray, List.set_cons_zero, List.set_cons_succ]
    refine anyK_done (by kernel_rfl) ?_ _
    have HEf := Lib.hid (HE7.out.trans E9)
    clear hr8 hI8 E8 E9 G_ HSj
    go_wp2_with fail
    go_ret
    exact ⟨rfl, HEf.out⟩
end Go.Proofs.YtfoncakadficlaaDoor
namespace Go.Proofs.YtfoncakadficlaaDoor
open Go.RowKit Go.ChangeShapes Go.WideShapes Go.Deep

theorem addr_at (b o t : Nat) : (⟨b, o, none⟩ : Addr).add t = ⟨b, o + t, none⟩ := by
  unfold Addr.add
  by_cases h : t = 0 <;> simp [h]

section
variable {H : Type} {enc : TypeId × Value → H} {W : World}

end

end Go.Proofs.YtfoncakadficlaaDoor
namespace Go.Proofs.YtfoncakadficlaaDoor
open Go.RowKit Go.ChangeShapes Go.WideShapes

/-- What lay there is as it was: what is asked behind the call. -/
theorem post_kept {H : Type} {enc : TypeId × Value → H} {P : Program} {f : Func} {s : ChangeSpec} {apart fresh handsOn again : Bool} {W W' : World} {args : Array Value} {v : Value} {ds gs : List (DataW H)} {ps : List MemPlace}
    (hW : DataW.Whole enc P f.params.toList s.vars apart W args.toList ds gs ps)
    (hres : ∀ (b : Nat) (sp : Nat → Bool) (hd : Bool), DataW.TrodAll enc P W' b sp hd f.resultTypes.toList (v.resultList f.resultTypes.size) (s.fn H (ds ++ gs)).results [])
    (hargs : ∀ sp : Nat → Bool, (∀ x ∈ ps, sp x.block = true) → DataW.TrodAll enc P W' 0 sp true f.params.toList args.toList (s.fn H (ds ++ gs)).args ps)
    (hvars : ∀ sp : Nat → Bool, DataW.TrodVars enc P W' sp s.vars (s.fn H (ds ++ gs)).vars [])
    (hb : Ext W W')
    (hok : ∀ (j : Nat) (t : TypeId) (r : Value), f.resultTypes[j]? = some t → (v.resultList f.resultTypes.size)[j]? = some r → Value.okWide P W' .any 0 t r) :
    s.post enc P f apart fresh handsOn again W args v W' := by
  have hlt := hW.lt
  have hold : ∀ x ∈ ps, decide (x.block < W.heap.size) = true := fun x hx => by simpa using hlt x hx
  have hall : ∀ x ∈ ps, (fun _ : Nat => true) x.block = true := fun _ _ => rfl
  have hn : W.noneFrozen ps ∧ (apart = true → ps.Nodup) := by
    obtain ⟨_, _, _, _, rfl, h1, h2⟩ := hW
    exact ⟨h1, h2⟩
  refine ⟨ds, gs, ps, [], ps, [], hW, hres _ _ _, hargs _ hold, hvars _, Below.frame hb _, fun _ => ?_⟩
  refine ⟨hok, _, _, ([] ++ ps) ++ [], ⟨[] ++ ps, [], trodAll_append (hargs (fun _ => true) hall) (hres _ _ _), hvars _, rfl, ?_, ?_⟩, ?_⟩
  · intro b off hp
    have hp' : MemPlace.cell b off ∈ ps := by simpa using hp
    rw [Below.frozen hb (p := ⟨b, off, none⟩) (hlt _ hp')]
    exact hn.1 b off hp'
  · intro ha
    simpa using hn.2 ha
  · intro x hx _
    simpa using hx

end Go.Proofs.YtfoncakadficlaaDoor
namespace Go.Proofs.YtfoncakadficlaaDoor
open Go.RowKit Go.ChangeShapes Go.WideShapes Go.Deep

section
variable {H : Type} {enc : TypeId × Value → H} {W : World}
theorem bytes_strC : Tryd.prog.bytesOf 9 = 16 := by kernel_rfl
theorem cells_strC : Tryd.prog.cellsOf 9 = 1 := by kernel_rfl
theorem cells_co : Tryd.prog.cellsOf 24 = 2 := by kernel_rfl

set_option maxRecDepth 100000 in
theorem open_code {v : Value} {d : DataW H} {p : List MemPlace} {base : Nat} (hok : Value.okWide Tryd.prog W .any base 24 v) (h : DataW.Trod enc Tryd.prog W 0 (fun _ => true) true 24 v d p) (hz : ∀ k ∈ d.weights Tryd.prog 24, k ≤ reachBytes) :
    ∃ (N : Int) (gens : List (List UInt8)) (ao : Option Addr) (n cp : Nat), v = .agg #[.int .i64 N, .slice ao n cp] ∧ StrsAt W ao n gens ∧ (∀ T ∈ gens, T.length ≤ 9223372036854775807) ∧ n * 16 ≤ 140737488355328 ∧ (ao = none → cp = 0) ∧ N ≤ 9223372036854775807 := by
  obtain ⟨fuel, h⟩ := h
  have hv : ∃ cs : Array Value, v = .agg cs := by
    unfold Value.okWide at hok
    rw [Tryd.underlying24] at hok
    obtain ⟨cs, e, _⟩ := hok
    exact ⟨cs, e⟩
  obtain ⟨cs, rfl⟩ := hv
  obtain ⟨xs, n, _, hx0, hl, hlen, hf⟩ := DataW.trod_struct Tryd.underlying24 h
  obtain ⟨cl⟩ := cs
  have hcl : (Value.agg ⟨cl⟩).cells.toList = cl := rfl
  rw [hcl] at hl hf
  rw [cells_co] at hl
  match xs, hlen, cl, hl with
  | [y0, y1], _, [v0, v1], _ =>
    injection hx0 with hd hp
    subst hd
    have g0 := hf 0 _ rfl
    have g1 := hf 1 _ rfl
    simp only [List.getElem?_cons_zero, List.getElem?_cons_succ] at g0 g1
    obtain ⟨N, e0, _, hwf⟩ := DataW.trod_int Tryd.underlying3 g0
    injection e0 with e0
    have hN : N ≤ 9223372036854775807 := by
      have h1 : (decide (IntKind.i64.min ≤ N) && decide (N ≤ IntKind.i64.max)) = true := hwf
      rw [Bool.and_eq_true, decide_eq_true_eq, decide_eq_true_eq] at h1
      exact h1.2
    have hz2 : ∀ k ∈ y1.1.weights Tryd.prog 22, k ≤ reachBytes := fun k hk => hz k (by simp [DataW.weights, Tryd.underlying24, DataW.weightsEach, hk])
    rcases open_slice1 Tryd.underlying22 cells_strC g1 with ⟨e2, _⟩ | ⟨a, len, cap, m, n', V, D, Pl, e2, _, hl2, hm2, hmm, hy2, hx⟩
    · injection e2 with e2
      exact ⟨N, [], none, 0, 0, by rw [e0, e2], ⟨rfl, Or.inl rfl⟩, fun T hT => (by cases hT), by omega, fun _ => rfl, hN⟩
    · injection e2 with e2
      have hmc : m = cap := by simpa using hmm
      subst hmc
      subst hy2
      have hr : reachBytes ≤ 140737488355328 := by decide
      have hb := hz2 ((len + (m - len)) * Tryd.prog.bytesOf 9) (by simp [DataW.weights, Tryd.underlying22])
      rw [bytes_strC] at hb
      obtain ⟨F, hF⟩ := choose_lt (α := List UInt8) (n := m) (p := fun i z => W.cell? (a.add i) = some (.string ⟨z.toArray⟩) ∧ z.length ≤ 9223372036854775807) (fun i hi => by
        obtain ⟨h1, h2⟩ := hx i hi
        obtain ⟨s, e, _, hs⟩ := DataW.trod_string Tryd.underlying9 h2
        injection e with e
        refine ⟨s.data.toList, ?_, ?_⟩
        · rw [h1, e]
        · have hm : maxLen ≤ 9223372036854775807 := by unfold maxLen; decide
          have h8 : s.data.toList.length = s.size := by rw [Array.length_toList]; rfl
          rw [h8]
          exact Nat.le_trans hs hm)
      obtain ⟨b, o, spot⟩ := a
      refine ⟨N, (List.range len).map F, some ⟨b, o, spot⟩, len, m, by rw [e0, e2], ⟨by simp, ?_⟩, fun T hT => ?_, by omega, fun e => (by cases e), hN⟩
      · by_cases h0 : len = 0
        · exact Or.inl h0
        · have h1 := (hF 0 (by omega)).1
          have hs : spot = none := by simpa [Addr.add] using World.cell?_spot h1
          subst hs
          refine Or.inr ⟨b, o, rfl, World.block_lt_of_cell? W _ h1, fun t ht => ?_⟩
          have := (hF t (by omega)).1
          rw [addr_at] at this
          rw [this, List.getD_eq_getElem?_getD, List.getElem?_map, List.getElem?_range ht]
          rfl
      · obtain ⟨i, hi, rfl⟩ := List.mem_map.1 hT
        exact (hF i (by have := List.mem_range.1 hi; omega)).2
end

set_option maxRecDepth 100000 in
theorem letter_row {H : Type} {enc : TypeId × Value → H} {W : World} {base : Nat} {sp : Nat → Bool} {held : Bool} {fuel : Nat} {cs : List Value} {a b : Int} {c : Bool} {p : List MemPlace}
    (h : DataW.trod enc Tryd.prog W base sp held fuel 67 cs = some (.agg [.lit (.int .u16 a), .lit (.int .u16 b), .lit (.bool c)], p)) :
    cs = [.int .u16 a, .int .u16 b, .bool c] := by
  obtain ⟨xs, n, _, hx, hl, hlen, hf⟩ := DataW.trod_struct Tryd.underlying67 h
  have hc : Tryd.prog.cellsOf 67 = 3 := by kernel_rfl
  rw [hc] at hl
  match xs, hlen, cs, hl with
  | [y0, y1, y2], _, [v0, v1, v2], _ =>
    have g0 := hf 0 _ rfl
    have g1 := hf 1 _ rfl
    have g2 := hf 2 _ rfl
    simp only [List.getElem?_cons_zero, List.getElem?_cons_succ] at g0 g1 g2
    obtain ⟨b0, e0, z0, _⟩ := DataW.trod_int Tryd.underlying65 g0
    obtain ⟨b1, e1, z1, _⟩ := DataW.trod_int Tryd.underlying65 g1
    obtain ⟨b2, e2, z2⟩ := DataW.trod_bool Tryd.underlying4 g2
    subst z0; subst z1; subst z2
    injection hx with hd _
    simp only [List.map_cons, List.map_nil, DataW.agg.injEq, List.cons.injEq, DataW.lit.injEq, Lit.int.injEq, Lit.bool.injEq, true_and, and_true] at hd
    obtain ⟨rfl, rfl, rfl⟩ := hd
    injection e0 with e0; injection e1 with e1; injection e2 with e2
    rw [e0, e1, e2]

set_option maxRecDepth 100000 in
theorem ltl_of_laid {W : World} (h : laidMet Tryd.prog [("qloom/code.letters", Rows.laid_qloom_code_letters)] W) : LtL W := by
  obtain ⟨ps, ⟨g', t', cs, fuel, p, q, hg', ht', hvar, hd, _, hps⟩, _, hfz⟩ := h
  obtain rfl := Option.some.inj ((show Tryd.prog.globalNamed "qloom/code.letters" = some 0 by kernel_rfl).symm.trans hg')
  obtain rfl := Option.some.inj ((show (Tryd.prog.globals[0]?).map (·.type) = some 120 by kernel_rfl).symm.trans ht')
  have hblk : ∃ t, W.heap[(0 : Nat)]? = some (.cells cs t (0, 0)) := by
    have hv := hvar
    simp only [World.var?, hg', Option.bind_some] at hv
    split at hv
    · rename_i c t f hc
      obtain rfl := Option.some.inj hv
      obtain ⟨xs, m, _, hx, hl, hlen, _⟩ := DataW.trod_array Tryd.underlying120 hd
      have hc9 : Tryd.prog.cellsOf 120 = 9 := by kernel_rfl
      rw [hc9] at hl
      have hs : c.size = 9 := by simpa using hl
      obtain ⟨⟨c', t', h'⟩, _⟩ := hfz 0 0 (by
        rw [hps, hs]
        refine List.mem_append_left _ (List.mem_append_left _ ?_)
        simp [MemPlace.row])
      rw [hc] at h'
      injection h' with h'
      injection h' with h1 h2 h3
      exact ⟨t, by rw [hc, h3]⟩
    · cases hv
  obtain ⟨t, ht⟩ := hblk
  obtain ⟨xs, m, _, hx, hl, hlen, hf⟩ := DataW.trod_array Tryd.underlying120 hd
  have hc9 : Tryd.prog.cellsOf 120 = 9 := by kernel_rfl
  have hc3 : Tryd.prog.cellsOf 67 = 3 := by kernel_rfl
  rw [hc9] at hl
  rw [hc3] at hf
  match xs, hlen with
  | [y0, y1, y2], _ =>
    injection hx with hx _
    unfold Rows.laid_qloom_code_letters at hx
    simp only [List.map_cons, List.map_nil, DataW.agg.injEq, List.cons.injEq, and_true] at hx
    obtain ⟨x0, x1, x2⟩ := hx
    have key : ∀ (k : Nat) (y : DataW Unit × List MemPlace) (a b : Int) (c : Bool), k < 3 → [y0, y1, y2][k]? = some y → .agg [.lit (.int .u16 a), .lit (.int .u16 b), .lit (.bool c)] = y.1 → (cs.toList.drop (k * 3)).take 3 = [.int .u16 a, .int .u16 b, .bool c] := by
      intro k y a b c hk hy he
      have h1 := hf k hk
      rw [hy] at h1
      obtain ⟨yd, yp⟩ := y
      simp only at he
      subst he
      exact letter_row h1
    have k0 := key 0 y0 _ _ _ (by omega) rfl x0
    have k1 := key 1 y1 _ _ _ (by omega) rfl x1
    have k2 := key 2 y2 _ _ _ (by omega) rfl x2
    refine ⟨t, ?_⟩
    rw [ht]
    congr 2
    apply Array.toList_inj.1
    have e : cs.toList = (cs.toList.drop (0 * 3)).take 3 ++ ((cs.toList.drop (1 * 3)).take 3 ++ (cs.toList.drop (2 * 3)).take 3) := by
      apply List.ext_getElem?
      intro i
      have hl9 : cs.toList.length = 9 := hl
      simp only [List.getElem?_append, List.getElem?_take, List.getElem?_drop, List.length_take, List.length_drop, hl9]
      by_cases h3 : i < 3
      · simp [h3]
      · by_cases h6 : i < 6
        · have : i - 3 < 3 := by omega
          simp [h3, this]
          congr 1; omega
        · by_cases h9 : i < 9
          · have a1 : ¬ i - 3 < 3 := by omega
            have a2 : i - 3 - 3 < 3 := by omega
            simp [h3, a1, a2]
            congr 1; omega
          · have a1 : ¬ i - 3 < 3 := by omega
            have a2 : ¬ i - 3 - 3 < 3 := by omega
            simp [h3, a1, a2]
            have : cs.size = 9 := by simpa using hl9
            omega
    rw [e, k0, k1, k2]
    rfl
end Go.Proofs.YtfoncakadficlaaDoor
