/-
  A number of circuits made of ints: Make. A number of circuits over the root of two: Half. The roots of one, and one over the root of two: Root, Rt. Are two numbers of circuits one: Same. Texts are put together: what strings.Builder's writing methods do in this program, where a written builder is never copied. A row's length: how many parts there are up to the last that is not nought.
-/
import Derived.Test.YtiicfpdiehgikaaGreatDoorProg
import Derived.Test.YtiicfpdiehgikaaGreatDoorRows
import Derived.BigQuiet
import Derived.Deep.Cut
import Derived.Deep.CutRange
import Derived.Deep.LoopGhost
import Derived.Deep.MidRow
import Derived.Deep.QuietTactic
import Derived.Deep.RegionHeld3
import Derived.Laws.Bits64b
import Derived.Laws.CopyOwn
import Derived.Laws.ResultCell
import Derived.Laws.Rows
import Derived.Lib.BitFns
import Derived.Lib.Hide
import Derived.Lib.ItoaNum
import Derived.Lib.Strings
import Derived.Lib.TrailingZeros
import Derived.Shelf.Bits.Mul64
import Derived.Shelf.LaysM
import Derived.Shelf.Small.Bits
import Derived.Shelf.Small.Wraps
import Derived.Shelf.Spec.BitsCarry
import Derived.Shelf.Spec.TrailingZeros
import Derived.Shelf.Strconv.Itoa0
import Derived.Shelf.Strconv.Itoa1
import Derived.Shelf.Strconv.Itoa2
import Derived.Shelf.Strconv.Itoa3
import Derived.Shelf.Strings.Builder1
import Derived.Shelf.Strings.BuilderF
import Derived.Shelf.Strings.BuilderK
import Derived.WalkKit
import Derived.WalkLawsBesides
import Derived.WalkSpells
import Derived.Test.YtiicfpdiehgikaaGreatDoorS00Mem
import Derived.Test.YtiicfpdiehgikaaGreatDoorShelf
import Derived.Test.YtiicfpdiehgikaaGreatDoorS02ShiftI
import Derived.Test.YtiicfpdiehgikaaGreatDoorS03GuessD
import Derived.Test.YtiicfpdiehgikaaGreatDoorS04IntB
import Derived.Test.YtiicfpdiehgikaaGreatDoorS05IntD
import Derived.Test.YtiicfpdiehgikaaGreatDoorS06GcB
import Derived.Test.YtiicfpdiehgikaaGreatDoorS07Rd
import Derived.Test.YtiicfpdiehgikaaGreatDoorS08Rl
import Derived.Test.YtiicfpdiehgikaaGreatDoorS09Ca
namespace Go.Proofs.YtiicfpdiehgikaaGreatDoor
open Go.RowKit

theorem results_row2 {P : Program} {fn : Func} {p q : Tmp} {ty tz : TypeId} (h : fn.results = #[.cell p ty, .cell q tz]) (tmps : Array Value) (w : World) (g g2 : Nat) (t t2 : TypeId) (cs ds : Array Value) (fr fr2 : Nat × Nat) (d d2 : TypeDesc)
    (hp : tmps.getD p undef = .pointer (some ⟨g, 0, none⟩)) (hq : tmps.getD q undef = .pointer (some ⟨g2, 0, none⟩)) (hg : w.heap[g]? = some (.cells cs t fr)) (hg2 : w.heap[g2]? = some (.cells ds t2 fr2))
    (hu : P.underlying ty = some d) (hd : (match d with | .struct _ | .array _ _ => true | _ => false) = true) (hi : (P.info? ty).map (·.size) = some cs.size)
    (hu2 : P.underlying tz = some d2) (hd2 : (match d2 with | .struct _ | .array _ _ => true | _ => false) = true) (hi2 : (P.info? tz).map (·.size) = some ds.size) :
    (results fn tmps).run P w = .ok (.tuple #[.agg cs, .agg ds]) w := by
  have hp' : tmps[p]?.getD undef = .pointer (some ⟨g, 0, none⟩) := by simpa using hp
  have hq' : tmps[q]?.getD undef = .pointer (some ⟨g2, 0, none⟩) := by simpa using hq
  simp [results, h, hp', hq', asAddr, run_loadVar_row w g t ty cs fr d hg hu hd hi, run_loadVar_row w g2 t2 tz ds fr2 d2 hg2 hu2 hd2 hi2]
theorem fault_info : (Tryz.prog.info? 30).map (·.size) = some 2 := by kernel_rfl
theorem fault_one (a b : Int) : (#[.int .i64 a, .int .i64 b] : Array Value).all (·.oneCell') = true := by simp [Value.oneCell']
theorem Chg.row {g : Nat} {w w' : World} (c : Chg g w w') {k : Nat} {o : Obj} (h : w.heap[k]? = some o) (hne : k ≠ g) : w'.heap[k]? = some o := (c.block k hne (Array.getElem?_eq_some_iff.1 h).1).trans h

/-- What Make has made as far as the j-th. -/
def mkN (l : List Int) : Nat → Nat → Int
  | 0 => fun _ => 0
  | j + 1 => addN (mkN l j) j (l.getD j 0)
theorem mkN_abs (l : List Int) (n : Nat) (hr : ∀ t, t < n → -9223372036854775808 ≤ l.getD t 0 ∧ l.getD t 0 ≤ 9223372036854775807) : ∀ j, j ≤ n → ∀ i, i < 8 → (mkN l j i).natAbs ≤ j * 9223372036854775808
  | 0, _, i, hi => by simp [mkN]
  | j + 1, hj, i, hi => by
    have h1 := hr j (by omega)
    have := addN_abs (mkN l j) j (l.getD j 0) (j * 9223372036854775808) 9223372036854775808 (mkN_abs l n hr j (by omega)) (by omega) i hi
    simp only [mkN]; omega
/-- What Make answers, up to the way in which it is kept. -/
def mkNm (l : List Int) (e : Int) : Nm := if e < 0 then ⟨ext8 fun i => mkN l l.length i * ((2 ^ (-e).toNat : Nat) : Int), 0⟩ else ⟨ext8 (mkN l l.length), e.toNat⟩
def badE (e : Int) : Prop := e < -10000 ∨ 10000 < e
instance (e : Int) : Decidable (badE e) := inferInstanceAs (Decidable (_ ∨ _))

set_option maxRecDepth 100000 in
set_option maxHeartbeats 4000000 in
theorem Make_bad (ao : Option Addr) (n cp : Nat) (e : Int) (w : World) (P E : Nat) (hb : badE e) :
    Calls Tryz.prog 27 #[.slice ao n cp, .int .i64 e] w fun r w' => r = .returned (.tuple #[.agg zero9, .agg #[.int .i64 5, .int .i64 0]]) ∧ NmA w' zero9 ⟨ext8 fun _ => 0, 0⟩ P E ∧ Ext w w' := by
  obtain ⟨H, hH⟩ : ∃ H, w.heap.size = H := ⟨_, rfl⟩
  obtain ⟨U, hU⟩ : ∃ U, ((w.alloc (.cells zero9 28)).alloc (.cells #[.int .i64 0, .int .i64 0] 30)) = U := ⟨_, rfl⟩
  have E0 : Ext w U := by rw [← hU]; exact (Ext.alloc _ _).trans (Ext.alloc _ _)
  have N0 : U.heap[H]? = some (.cells zero9 28 (0, 0)) := by rw [← hU, ← hH]; exact ((Ext.alloc _ _).block _ (Array.getElem?_eq_some_iff.1 (heap_alloc_new w (.cells zero9 28))).1).trans (heap_alloc_new w _)
  have F0 : U.heap[H + 1]? = some (.cells #[.int .i64 0, .int .i64 0] 30 (0, 0)) := by
    have h3 := heap_alloc_new (w.alloc (.cells zero9 28)) (.cells #[.int .i64 0, .int .i64 0] 30)
    rw [← hU, ← hH]
    simpa using h3
  have F1 : (U.setRow H zero9).heap[H + 1]? = some (.cells #[.int .i64 0, .int .i64 0] 30 (0, 0)) := (setRow_other U H (H + 1) zero9 (by omega)).trans F0
  have G0 : ((U.setRow H zero9).setRow (H + 1) #[.int .i64 5, .int .i64 0]).heap[H]? = some (.cells zero9 28 (0, 0)) := (setRow_other _ (H + 1) H _ (by omega)).trans (setRow_heap U H _ zero9 _ _ N0)
  have G1 : ((U.setRow H zero9).setRow (H + 1) #[.int .i64 5, .int .i64 0]).heap[H + 1]? = some (.cells #[.int .i64 5, .int .i64 0] 30 (0, 0)) := setRow_heap _ (H + 1) _ _ _ _ F1
  have hE' : Ext w ((U.setRow H zero9).setRow (H + 1) #[.int .i64 5, .int .i64 0]) := by
    have c1 := setRow_only U H zero9
    have c2 := setRow_only (U.setRow H zero9) (H + 1) #[.int .i64 5, .int .i64 0]
    refine ⟨c2.os.trans (c1.os.trans E0.os), c2.tape.trans (c1.tape.trans E0.tape), c2.output.trans (c1.output.trans E0.output), by rw [c2.size, c1.size]; exact E0.size, fun k hk => ?_⟩
    rw [c2.block k (by omega), c1.block k (by omega)]
    exact E0.block k hk
  have Hend := Lib.hid (show NmA ((U.setRow H zero9).setRow (H + 1) #[.int .i64 5, .int .i64 0]) zero9 ⟨ext8 fun _ => 0, 0⟩ P E ∧ Ext w ((U.setRow H zero9).setRow (H + 1) #[.int .i64 5, .int .i64 0]) from
    ⟨⟨anti_ext8 (fun _ => 0), Or.inl rfl, fun k => by rw [ext8_zero]; exact Nat.pow_pos (by decide), Nat.zero_le _, (cells_zero9 _).congr fun i hi => by
      unfold nmF; split
      · rfl
      · rw [ext8_zero]⟩, hE'⟩)
  have HU := Lib.hid hU; have HH := Lib.hid hH
  clear hU hH E0 hE'
  have go : ∀ b1 : (e < -10000) = True ∨ (e < -10000) = False ∧ (10000 < e) = True, True := fun _ => trivial
  clear go
  go_enter Tryz.func27, Tryz.ntmps27
  go_upto_region 1 with fail
  rw [HU.out, HH.out]
  clear HU HH
  have hone9 := (cells_zero9 U).one
  have honeF := fault_one 5 0
  rcases hb with hb | hb
  · go_wp2_with (first
      | refine wpList_store_row rfl 28 _ _ rfl H zero9 rfl rfl 28 _ N0 rnum_info rfl hone9 ?_
      | refine wpList_store_row rfl 30 _ _ rfl (H + 1) #[.int .i64 5, .int .i64 0] rfl rfl 30 _ F1 fault_info rfl honeF ?_)
    refine bodyPost_ret (v := .tuple #[.agg zero9, .agg #[.int .i64 5, .int .i64 0]]) ?_ rfl ⟨rfl, Hend.out⟩
    exact results_row2 rfl _ _ H (H + 1) _ _ _ _ _ _ _ _ rfl rfl G0 G1 Tryz.underlying28 rfl rnum_info Tryz.underlying30 rfl fault_info
  · have hb' : ¬ e < -10000 := by omega
    go_wp2_with (first
      | refine wpList_store_row rfl 28 _ _ rfl H zero9 rfl rfl 28 _ N0 rnum_info rfl hone9 ?_
      | refine wpList_store_row rfl 30 _ _ rfl (H + 1) #[.int .i64 5, .int .i64 0] rfl rfl 30 _ F1 fault_info rfl honeF ?_)
    refine bodyPost_ret (v := .tuple #[.agg zero9, .agg #[.int .i64 5, .int .i64 0]]) ?_ rfl ⟨rfl, Hend.out⟩
    exact results_row2 rfl _ _ H (H + 1) _ _ _ _ _ _ _ _ rfl rfl G0 G1 Tryz.underlying28 rfl rnum_info Tryz.underlying30 rfl fault_info

set_option maxRecDepth 100000 in
set_option maxHeartbeats 4000000 in
theorem Make_good (ao : Option Addr) (n cp : Nat) (l : List Int) (e : Int) (w : World) (hl : IntsAt w ao n l) (hr : ∀ t, t < n → -9223372036854775808 ≤ l.getD t 0 ∧ l.getD t 0 ≤ 9223372036854775807) (hn : n ≤ 17592186044416) (P E K : Nat) (hK : K ≤ 4194304) (hP0 : 10108 ≤ P) (hP : P ≤ 64 * K) (hE0 : 10000 ≤ E) (hE : E ≤ 1099511627776) (hb : ¬ badE e) (hbr : Bru w) :
    Calls Tryz.prog 27 #[.slice ao n cp, .int .i64 e] w fun r w' => ∃ (cr : Array Value) (x : Nm), r = .returned (.tuple #[.agg cr, .agg #[.int .i64 0, .int .i64 0]]) ∧ NmA w' cr x P E ∧ EqN x (mkNm l e) ∧ Ext w w' := by
  have hK1 : 1 ≤ K := by omega
  have hbb : -10000 ≤ e ∧ e ≤ 10000 := by unfold badE at hb; omega
  have hlen := hl.1
  have hmb : ∀ j, j ≤ n → ∀ i, i < 8 → (mkN l j i).natAbs < 2 ^ 108 := fun j hj i hi => by
    have h1 := mkN_abs l n hr j hj i hi
    have h2 : j * 9223372036854775808 ≤ 17592186044416 * 9223372036854775808 := Nat.mul_le_mul_right _ (by omega)
    have h3 : (17592186044416 * 9223372036854775808 : Nat) < 2 ^ 108 := by decide
    omega
  obtain ⟨dn, hdn⟩ : ∃ dn : Nat, dn = (if e < 0 then 0 else e.toNat) := ⟨_, rfl⟩
  obtain ⟨G, hG⟩ : ∃ G : Nat → Int, G = (if e < 0 then fun i => mkN l n i * ((2 ^ (-e).toNat : Nat) : Int) else mkN l n) := ⟨_, rfl⟩
  have hGm : (⟨ext8 G, dn⟩ : Nm) = mkNm l e := by
    unfold mkNm
    rw [hG, hdn, hlen]
    split <;> rfl
  have hGb : ∀ i, i < 8 → (G i).natAbs < 2 ^ P := fun i hi => by
    have h1 := hmb n (Nat.le_refl _) i hi
    obtain ⟨M, hM⟩ : ∃ M : Nat, M = 10000 := ⟨_, rfl⟩
    have hle : 2 ^ 108 * 2 ^ M ≤ 2 ^ P := by rw [← Nat.pow_add]; exact Nat.pow_le_pow_right (by decide) (by omega)
    have hpp : 0 < 2 ^ M := Nat.pow_pos (by decide)
    generalize hQ : 2 ^ M = Q at hle hpp
    rw [hG]
    split
    · have h2 : 2 ^ (-e).toNat ≤ Q := by rw [← hQ]; exact Nat.pow_le_pow_right (by decide) (by omega)
      rw [Int.natAbs_mul, Int.natAbs_natCast]
      exact Nat.lt_of_lt_of_le (Nat.mul_lt_mul_of_lt_of_le h1 h2 hpp) hle
    · refine Nat.lt_of_lt_of_le h1 (Nat.le_trans ?_ hle)
      exact Nat.le_mul_of_pos_right _ hpp
  have HGm := Lib.hid hGm; have HGb := Lib.hid hGb; have HK := Lib.hid hK; have HK1 := Lib.hid hK1; have HP := Lib.hid hP; have HE := Lib.hid hE; have Hl := Lib.hid hl; have Hr := Lib.hid hr; have Hn := Lib.hid hn; have Hbb := Lib.hid hbb; have Hlen := Lib.hid hlen; have HG := Lib.hid hG; have Hdn := Lib.hid hdn
  have Hdb := Lib.hid (show dn ≤ E by rw [hdn]; split <;> omega)
  have HF := Lib.hid (show ∀ j, j ≤ n → ∀ i, i < 8 → Fit K (mkN l j i) from fun j hj i hi => fit_pow (hmb j hj i hi) (by omega))
  obtain ⟨H, hH⟩ : ∃ H, w.heap.size = H := ⟨_, rfl⟩
  obtain ⟨U, hU⟩ : ∃ U, ((w.alloc (.cells zero9 28)).alloc (.cells #[.int .i64 0, .int .i64 0] 30)).alloc (.cells zero8 26) = U := ⟨_, rfl⟩
  have E0 : Ext w U := by rw [← hU]; exact ((Ext.alloc _ _).trans (Ext.alloc _ _)).trans (Ext.alloc _ _)
  have N0 : Nums U H 9 28 (fun _ => 0) := by rw [← hU, ← hH]; exact ((cells_zero9 w).box 28).ext ((Ext.alloc _ _).trans (Ext.alloc _ _))
  have F0 : U.heap[H + 1]? = some (.cells #[.int .i64 0, .int .i64 0] 30 (0, 0)) := by
    have h3 := heap_alloc_new (w.alloc (.cells zero9 28)) (.cells #[.int .i64 0, .int .i64 0] 30)
    have h4 := ((Ext.alloc ((w.alloc (.cells zero9 28)).alloc (.cells #[.int .i64 0, .int .i64 0] 30)) (.cells zero8 26)).block _ (Array.getElem?_eq_some_iff.1 h3).1).trans h3
    rw [← hU, ← hH]
    simpa using h4
  have R0 : Nums U (H + 2) 8 26 (mkN l 0) := by
    have := (cells_zero8 ((w.alloc (.cells zero9 28)).alloc (.cells #[.int .i64 0, .int .i64 0] 30))).box 26
    rw [← hU, ← hH, show mkN l 0 = fun _ => 0 from rfl]
    simpa using this
  have HgH : Hid (∀ q, H ≤ q → Tryz.lays29_ren.g 1 ≠ q) := Lib.hid (by
    intro q hq e
    have h1 := hbr 0 (by decide)
    rw [← hH] at hq
    have hn : w.heap[q]? = none := Array.getElem?_eq_none (by omega)
    simp [World.cell?, e, hn] at h1)
  have b1 : ¬ e < -10000 := by omega
  have b2 : ¬ 10000 < e := by omega
  have HU := Lib.hid hU; have HH := Lib.hid hH; have Hbr := Lib.hid hbr
  have Hst := Lib.hid (show Nums U (H + 2) 8 26 (mkN l 0) ∧ Nums U H 9 28 (fun _ => 0) ∧ U.heap[H + 1]? = some (.cells #[.int .i64 0, .int .i64 0] 30 (0, 0)) ∧ Ext w U from ⟨R0, N0, F0, E0⟩)
  clear hU hH E0 N0 F0 R0 hbr hb hbb hlen hmb hdn hG hGm hGb hK hK1 hP0 hP hE0 hE hl hr hn
  go_enter Tryz.func27, Tryz.ntmps27
  go_wp2_with fail
  rw [HU.out, HH.out]
  clear HU b1 b2
  go_loopg [7, 8, 19] n (fun kk s7 s8 s19 wr => ∃ j : Nat, s19 = .int .i64 (j : Int) ∧ j ≤ n ∧ n - j = kk ∧ Nums wr (H + 2) 8 26 (mkN l j) ∧ Nums wr H 9 28 (fun _ => 0) ∧ wr.heap[H + 1]? = some (.cells #[.int .i64 0, .int .i64 0] 30 (0, 0)) ∧ Ext w wr)
  case atStart => exact ⟨0, rfl, by omega, by omega, Hst.out⟩
  case round =>
    clear Hst
    obtain ⟨j, rfl, hj, hjk, hN, hZ, hF, hE⟩ := hrel
    obtain ⟨wo, rfl⟩ : ∃ wo : World, wo = wr := ⟨_, rfl⟩
    by_cases hj8 : j = n
    · subst hj8
      have HN := Lib.hid hN; have HZ := Lib.hid hZ; have HFl := Lib.hid hF; have HE0 := Lib.hid hE
      clear hN hZ hF hE hjk hj
      go_upto_if 30 with fail
      go_cut [1] from 30 to 33 (fun s1 wx => s1 = .int .i64 (dn : Int) ∧ Nums wx (H + 2) 8 26 G ∧ Nums wx H 9 28 (fun _ => 0) ∧ wx.heap[H + 1]? = some (.cells #[.int .i64 0, .int .i64 0] 30 (0, 0)) ∧ Ext w wx)
      case first =>
        by_cases he : e < 0
        · obtain ⟨m, hm⟩ : ∃ m : Nat, e = -(m : Int) := ⟨(-e).toNat, by omega⟩
          have Hm := Lib.hid (show m ≤ 10000 ∧ dn = 0 by have := Hbb.out; rw [Hdn.out, if_pos he]; omega)
          have HGV := Lib.hid (show ∀ i, G i = mkN l j i * ((2 ^ m : Nat) : Int) by rw [HG.out, if_pos he, hm]; intro i; simp)
          subst hm
          have wn : IntKind.i64.wrap (m : Int) = (m : Int) := by have := Hm.out; rw [IntKind.wrap_i64]; omega
          have HSh := Lib.hid (rowShift_any (H + 2) 8 26 (mkN l j) G (m : Int) wo HN.out (by decide) K HK.out HK1.out (HF.out j (Nat.le_refl _)) (fun i hi => fit_pow (HGb.out i hi) HP.out) (by omega) (by have := Hm.out; omega) (fun i hi => Or.inl ⟨by omega, by rw [HGV.out]; rfl⟩) (bru_ext Hbr.out HE0.out) (HgH.out _ (by omega)))
          go_wp2_with fail
          refine HSh.out.mono ?_
          rintro r w2 ⟨rfl, hN2, hC2⟩
          have Hend := Lib.hid (show Nums w2 (H + 2) 8 26 G ∧ Nums w2 H 9 28 (fun _ => 0) ∧ w2.heap[H + 1]? = some (.cells #[.int .i64 0, .int .i64 0] 30 (0, 0)) ∧ Ext w w2 from
            ⟨hN2.congr fun i hi => by unfold shN; rw [if_pos hi], HZ.out.chg hC2 (by omega), hC2.row HFl.out (by omega), hC2.ext HE0.out (by rw [HH.out]; omega)⟩)
          clear hN2 hC2 HSh HN HZ HFl HE0
          go_wp2_with fail
          go_meet
          exact ⟨by rw [Hm.out.2]; rfl, Hend.out⟩
        · have Hm := Lib.hid (show e = (dn : Int) ∧ G = mkN l j by rw [Hdn.out, HG.out, if_neg he, if_neg he]; exact ⟨by omega, rfl⟩)
          go_wp2_with fail
          go_meet
          exact ⟨by rw [Hm.out.1], by rw [Hm.out.2]; exact HN.out, HZ.out, HFl.out, HE0.out⟩
      case rest =>
      obtain ⟨rfl, hN, hZ, hF, hE⟩ := hcut
      obtain ⟨w3, rfl⟩ : ∃ w3 : World, w3 = wc := ⟨_, rfl⟩
      clear HN HZ HFl HE0
      obtain ⟨cq, hrq, hcq⟩ := hN.cells
      have lq := hN.lt
      have hinfq : (Tryz.prog.info? 26).map (·.size) = some cq.size := by rw [hcq.1]; exact rrow_info
      have HOf := Lib.hid (fun wx => Of_any (dn : Int) (by omega) (by have := Hdb.out; have := HE.out; omega) wx)
      have HLo := Lib.hid (fun (wx : World) (hx : Ext w3 wx) (i9 : IsInt wx (dn : Int) none 0 0 (dn : Int)) => rlowest_any cq (dn : Int) none 0 0 G dn wx (hcq.ext hx) i9 K P E HK.out HK1.out HP.out HE.out HGb.out Hdb.out (bru_ext Hbr.out (hE.trans hx)))
      have HZ := Lib.hid hZ; have HFl := Lib.hid hF; have HE0 := Lib.hid hE
      clear hcq hN hZ hF hE
      go_upto_region 12 with fail
      have hd0 : Ext w3 w3.drew := Below.drew (Ext.refl _)
      refine wp_region_K 6 (fun w' => w'.heap[H + 2]? = some (.cells cq 26 (0, 0))) (by kernel_rfl) ?_
      show anyK _ _ _ _ _ _ 7 #[false, false, false, false, false, false, false] _ _
      have hHeld : w3.drew.heap[H + 2]? = some (.cells cq 26 (0, 0)) := ((hd0.block _ lq).trans hrq)
      refine anyK_take (i := 0) (v := .agg cq) rfl (by kernel_rfl) (by kernel_rfl) (by kernel_rfl) (N := 7) (by kernel_rfl) (by kernel_rfl) (by kernel_rfl) (fun _ _ _ h => h) (Or.inl ⟨by rfl, ?_⟩) hHeld ?_
      · intro w hSw
        exact exec_load_row 26 _ rfl (H + 2) rfl 26 _ (0, 0) _ hSw Tryz.underlying26 rfl hinfq
      show anyK _ _ _ _ _ _ _ _ (Act.put _ (some 34) _) _
      simp only [Act.put, List.setIfInBounds_toArray, List.set_cons_zero, List.set_cons_succ]
      refine anyK_take (i := 1) (v := ?_) rfl (by kernel_rfl) (by kernel_rfl) (by kernel_rfl) (N := 7) (by kernel_rfl) (by kernel_rfl) (by kernel_rfl) (fun _ _ _ h => h) (Or.inl ⟨by rfl, ?_⟩) hHeld ?_
      rotate_left 1
      · intro w hSw
        go_simp
        try with_reducible rfl
      show anyK _ _ _ _ _ _ _ _ (Act.put _ (some 35) _) _
      simp only [Act.put, List.setIfInBounds_toArray, List.set_cons_zero, List.set_cons_succ]
      refine anyK_take (i := 4) (v := ?_) rfl (by kernel_rfl) (by kernel_rfl) (by kernel_rfl) (N := 7) (by kernel_rfl) (by kernel_rfl) (by kernel_rfl) (fun _ _ _ h => h) (Or.inl ⟨by rfl, ?_⟩) hHeld ?_
      rotate_left 1
      · intro w hSw
        go_simp
        try with_reducible rfl
      show anyK _ _ _ _ _ _ _ _ (Act.put _ (some 38) _) _
      simp only [Act.put, List.setIfInBounds_toArray, List.set_cons_zero, List.set_cons_succ]
      clear hHeld
      refine anyK_one (i := 2) (by kernel_rfl) rfl (fun Kk hKk => ?_)
      go_simp
      (go_at_call 44; refine (HOf.out _).mono ?_; rintro r w1 ⟨rfl, i1, hxx⟩)
      have he1 := hd0.trans hxx
      go_wp2_with fail
      refine hKk.out _ _ (fun _ => ((he1.block _ lq).trans hrq)) ?_
      clear hKk Kk hxx
      simp only [List.setIfInBounds_toArray, List.set_cons_zero, List.set_cons_succ]
      refine anyK_one (i := 3) (by kernel_rfl) rfl (fun Kk hKk => ?_)
      go_simp
      (go_at_call 76; refine (HLo.out w1 he1 i1).mono ?_; rintro r w4 ⟨cr, x, rfl, hcr, hy, hxx⟩)
      have he3 := he1.trans hxx
      go_wp2_with fail
      refine hKk.out _ _ (fun _ => ((he3.block _ lq).trans hrq)) ?_
      clear hKk Kk hxx
      simp only [List.setIfInBounds_toArray, List.set_cons_zero, List.set_cons_succ]
      obtain ⟨c1, hr1, hs1, hone, hinf, rr, hnm, hE'⟩ := fin_num hcr (HZ.out.ext he3) (HE0.out.trans he3) (by rw [HH.out]; exact Nat.le_refl _)
      have hF4 : w4.heap[H + 1]? = some (.cells #[.int .i64 0, .int .i64 0] 30 (0, 0)) := (he3.block _ (Array.getElem?_eq_some_iff.1 HFl.out).1).trans HFl.out
      have hF5 : (w4.setRow H cr).heap[H + 1]? = some (.cells #[.int .i64 0, .int .i64 0] 30 (0, 0)) := (setRow_other w4 H (H + 1) cr (by omega)).trans hF4
      have hself := setRow_self (w4.setRow H cr) (H + 1) _ _ _ hF5
      have Hend := Lib.hid (show NmA (w4.setRow H cr) cr x P E ∧ EqN x (mkNm l e) ∧ Ext w (w4.setRow H cr) from ⟨hnm, by rw [← HGm.out]; exact hy, hE'⟩)
      clear hnm hE' hcr hy hF4
      refine anyK_one (i := 5) (by kernel_rfl) rfl (fun Kk hKk => ?_)
      refine stepK_storeR rfl rfl 28 _ _ rfl H cr rfl rfl 28 _ hr1 hinf hs1 hone ?_
      refine hKk.out _ _ (fun _ => (setRow_other w4 H (H + 2) cr (by omega)).trans ((he3.block _ lq).trans hrq)) ?_
      clear hKk Kk
      simp only [List.setIfInBounds_toArray, List.set_cons_zero, List.set_cons_succ]
      refine anyK_one (i := 6) (by kernel_rfl) rfl (fun Kk hKk => ?_)
      refine stepK_storeR rfl rfl 30 _ _ rfl (H + 1) #[.int .i64 0, .int .i64 0] rfl rfl 30 _ hF5 fault_info rfl (fault_one 0 0) ?_
      rw [hself]
      refine hKk.out _ _ (fun h => Bool.noConfusion (show true = false from h)) ?_
      clear hKk Kk hself
      simp only [List.setIfInBounds_toArray, List.set_cons_zero, List.set_cons_succ]
      refine anyK_done (by kernel_rfl) ?_ _
      go_wp2_with fail
      refine bodyPost_ret (v := .tuple #[.agg cr, .agg #[.int .i64 0, .int .i64 0]]) ?_ rfl ⟨_, _, rfl, Hend.out⟩
      exact results_row2 rfl _ _ H (H + 1) _ _ _ _ _ _ _ _ rfl rfl rr hF5 Tryz.underlying28 rfl hinf Tryz.underlying30 rfl fault_info
    have hlt : j < n := by omega
    have q1 : (j : Int) < (n : Int) := by omega
    have q0 : (0 : Int) ≤ (j : Int) := by omega
    obtain ⟨b, o, rfl, hbl, hcell⟩ := (Hl.out.ext hE).at (by omega)
    have hbw : b < H := by
      obtain ⟨b', o', e1, hb', _⟩ := Hl.out.at (by omega)
      injection e1 with e1
      injection e1 with e1
      rw [← HH.out, e1]; exact hb'
    have y0 := hcell j hlt
    obtain ⟨v, hv⟩ : ∃ v, l.getD j 0 = v := ⟨_, rfl⟩
    rw [hv] at y0
    have hrv := Hr.out j hlt
    rw [hv] at hrv
    have wk : IntKind.i64.wrap ((j : Int) + 1) = ((j + 1 : Nat) : Int) := by have := Hn.out; rw [IntKind.wrap_i64]; omega
    have HOf := Lib.hid (Of_any v hrv.1 hrv.2 wo)
    have HAd := Lib.hid (fun (wx : World) (hx : Ext wo wx) (i1 : IsInt wx v none 0 0 v) => rowAdd_any (H + 2) 8 26 (mkN l j) (j : Int) v none 0 0 v wx (hN.ext hx) (by decide) i1 K HK.out (fit_small (z := v) (by omega) HK1.out) (HF.out j hj))
    have Hj1 := Lib.hid (show j + 1 ≤ n by omega)
    have HZ := Lib.hid hZ; have HFl := Lib.hid hF; have HE0 := Lib.hid hE; have Hjk := Lib.hid hjk; have Hv := Lib.hid hv
    clear hN hZ hF hE hjk hj8 hj hlt hrv hv hcell
    go_wp2_with fail
    refine HOf.out.mono ?_
    rintro r w1 ⟨rfl, i1, hx1⟩
    go_wp2_with fail
    refine (HAd.out w1 hx1 i1).mono ?_
    rintro r w2 ⟨rfl, hN2, hC2⟩
    have Hend := Lib.hid (show Nums w2 (H + 2) 8 26 (mkN l (j + 1)) ∧ Nums w2 H 9 28 (fun _ => 0) ∧ w2.heap[H + 1]? = some (.cells #[.int .i64 0, .int .i64 0] 30 (0, 0)) ∧ Ext w w2 from
      ⟨by show Nums w2 (H + 2) 8 26 (addN (mkN l j) j (l.getD j 0)); rw [Hv.out]; exact hN2, (HZ.out.ext hx1).chg hC2 (by omega), hC2.row ((hx1.block _ (Array.getElem?_eq_some_iff.1 HFl.out).1).trans HFl.out) (by omega), hC2.ext (HE0.out.trans hx1) (by rw [HH.out]; omega)⟩)
    clear hN2 hC2 HAd HOf HZ HFl HE0 y0 i1 hx1
    go_wp2_with fail
    go_roundg (n - (j + 1))
    case measure => have := Hjk.out; have := Hj1.out; omega
    case rel => exact ⟨j + 1, rfl, Hj1.out, rfl, Hend.out⟩
end Go.Proofs.YtiicfpdiehgikaaGreatDoor
namespace Go.Proofs.YtiicfpdiehgikaaGreatDoor
open Go.RowKit

set_option maxRecDepth 100000 in
set_option maxHeartbeats 4000000 in
theorem Half_nm (ca : Array Value) (x : Nm) (P E : Nat) (w : World) (h : NmA w ca x P E) (K : Nat) (hK : K ≤ 4194304) (hP : P + 4 ≤ 64 * K) (hE : E + 1 ≤ 1099511627776) (hbr : Bru w) :
    Calls Tryz.prog 23 #[.agg ca] w fun e w' => ∃ (cr : Array Value) (y : Nm), e = .returned (.agg cr) ∧ NmA w' cr y (P + 4) (E + 1) ∧ EqN y (nHf x) ∧ Ext w w' := by
  have hK1 : 1 ≤ K := by omega
  obtain ⟨f, hf⟩ : ∃ f, nmF x = f := ⟨_, rfl⟩
  have hv := h.val
  rw [hf] at hv
  have h3 : 0 < 2 ^ P := Nat.pow_pos (by decide)
  have hF : ∀ i, i < 8 → (f i).natAbs ≤ 2 ^ P - 1 := fun i hi => by
    have := nmF_abs h.abs i hi
    rw [hf] at this
    omega
  have hB : ∀ j, j ≤ 8 → ∀ i, i < 8 → (hfN f j i).natAbs < 2 ^ (P + 4) := fun j hj i hi => by
    have h1 := hfN_abs f (2 ^ P - 1) hF j hj i hi
    have h2 : j * ((2 ^ P - 1) + (2 ^ P - 1)) ≤ 8 * ((2 ^ P - 1) + (2 ^ P - 1)) := Nat.mul_le_mul_right _ hj
    rw [Nat.pow_add]
    omega
  have hB2 : ∀ j, j < 8 → ∀ i, i < 8 → (addN (hfN f j) (j + 2) (f j) i).natAbs < 2 ^ (P + 4) := fun j hj i hi => by
    have h1 := addN_abs (hfN f j) (j + 2) (f j) (j * ((2 ^ P - 1) + (2 ^ P - 1))) (2 ^ P - 1) (hfN_abs f (2 ^ P - 1) hF j (by omega)) (hF j hj) i hi
    have h2 : j * ((2 ^ P - 1) + (2 ^ P - 1)) ≤ 7 * ((2 ^ P - 1) + (2 ^ P - 1)) := Nat.mul_le_mul_right _ (by omega)
    rw [Nat.pow_add]
    omega
  have HB := Lib.hid hB; have HK := Lib.hid hK; have HK1 := Lib.hid hK1; have Hx := Lib.hid h; have Hf := Lib.hid hf; have HP := Lib.hid hP; have HEE := Lib.hid hE
  have HF := Lib.hid (show ∀ j, j ≤ 8 → ∀ i, i < 8 → Fit K (hfN f j i) from fun j hj i hi => fit_pow (hB j hj i hi) hP)
  have HF2 := Lib.hid (show ∀ j, j < 8 → ∀ i, i < 8 → Fit K (addN (hfN f j) (j + 2) (f j) i) from fun j hj i hi => fit_pow (hB2 j hj i hi) hP)
  have HFf := Lib.hid (show ∀ i, i < 8 → Fit K (f i) from fun i hi => fit_pow (P := P) (by have := hF i hi; omega) (by omega))
  obtain ⟨H, hH⟩ : ∃ H, w.heap.size = H := ⟨_, rfl⟩
  obtain ⟨U, hU⟩ : ∃ U, (((w.alloc (.cells ca 28)).alloc (.cells zero9 28)).alloc (.cells zero8 26)) = U := ⟨_, rfl⟩
  have E0 : Ext w U := by rw [← hU]; exact ((Ext.alloc _ _).trans (Ext.alloc _ _)).trans (Ext.alloc _ _)
  have N0 : Nums U H 9 28 f := by rw [← hU, ← hH]; exact (hv.box 28).ext ((Ext.alloc _ _).trans (Ext.alloc _ _))
  have Z0 : Nums U (H + 1) 9 28 (fun _ => 0) := by
    have := ((cells_zero9 (w.alloc (.cells ca 28))).box 28).ext (Ext.alloc _ (.cells zero8 26))
    rw [← hU, ← hH]
    simpa using this
  have R0 : Nums U (H + 2) 8 26 (hfN f 0) := by
    have := (cells_zero8 ((w.alloc (.cells ca 28)).alloc (.cells zero9 28))).box 26
    rw [← hU, ← hH, show hfN f 0 = fun _ => 0 from rfl]
    simpa using this
  have HU := Lib.hid hU; have HH := Lib.hid hH
  have Hst := Lib.hid (show Nums U (H + 2) 8 26 (hfN f 0) ∧ Nums U (H + 1) 9 28 (fun _ => 0) ∧ Nums U H 9 28 f ∧ Ext w U from ⟨R0, Z0, N0, E0⟩)
  have Hbr := Lib.hid hbr
  clear hU hH R0 Z0 N0 E0 hbr hF hB hB2 hv h hf hK hK1 hP hE h3
  go_enter Tryz.func23, Tryz.ntmps23
  go_wp2_with fail
  rw [HU.out, HH.out]
  clear HU
  go_loopg [4, 5] 8 (fun kk s4 s5 wr => ∃ j : Nat, s5 = .int .i64 (j : Int) ∧ j ≤ 8 ∧ 8 - j = kk ∧ Nums wr (H + 2) 8 26 (hfN f j) ∧ Nums wr (H + 1) 9 28 (fun _ => 0) ∧ Nums wr H 9 28 f ∧ Ext w wr)
  case atStart => exact ⟨0, rfl, by omega, by omega, Hst.out⟩
  case round =>
    clear Hst
    obtain ⟨j, rfl, hj, hjk, hN, hZ, hA, hE⟩ := hrel
    obtain ⟨wo, rfl⟩ : ∃ wo : World, wo = wr := ⟨_, rfl⟩
    by_cases hj8 : j = 8
    · subst hj8
      obtain ⟨cq, hrq, hcq⟩ := hN.cells
      have hinfq : (Tryz.prog.info? 26).map (·.size) = some cq.size := by rw [hcq.1]; exact rrow_info
      obtain ⟨s8, a8, n8, c8, l16, l17, _, _, hI8⟩ := hA.get 8 (by decide)
      have hf8 : f 8 = ((x.e : Nat) : Int) := by rw [← Hf.out]; rfl
      rw [hf8] at hI8
      have lq := hN.lt; have lH := hA.lt
      have HOf := Lib.hid (fun wx => Of_any 1 (by decide) (by decide) wx)
      have HAd := Lib.hid (fun (wx : World) (hx : Ext wo wx) (i1 : IsInt wx 1 none 0 0 1) => Add_any s8 1 a8 none n8 c8 0 0 ((x.e : Nat) : Int) 1 wx (hI8.ext hx) i1 K HK.out (fit_small (z := ((x.e : Nat) : Int)) (by have := Hx.out.down; have := HEE.out; omega) HK1.out) (fit_small (z := 1) (by decide) HK1.out))
      have HLo := Lib.hid (fun (wx : World) (hx : Ext wo wx) (s9 : Int) (a9 : Option Addr) (n9 c9 : Nat) (i9 : IsInt wx s9 a9 n9 c9 (((x.e : Nat) : Int) + 1)) => rlowest_any cq s9 a9 n9 c9 (hfN f 8) (x.e + 1) wx (hcq.ext hx) (i9.cast (by omega)) K (P + 4) (E + 1) HK.out HK1.out HP.out HEE.out (HB.out 8 (by decide)) (by have := Hx.out.down; omega) (bru_ext Hbr.out (hE.trans hx)))
      have HZ := Lib.hid hZ; have HE := Lib.hid hE
      clear hI8 hf8 hcq hN hA hZ hE HB HF HF2 HFf
      go_upto_region 8 with fail
      have hd0 : Ext wo wo.drew := Below.drew (Ext.refl _)
      refine wp_region_K 6 (fun w' => w'.heap[H + 2]? = some (.cells cq 26 (0, 0)) ∧ w'.cell? ⟨H, 16, none⟩ = some (.int .i64 s8) ∧ w'.cell? ⟨H, 17, none⟩ = some (.slice a8 n8 c8)) (by kernel_rfl) ?_
      show anyK _ _ _ _ _ _ 7 #[false, false, false, false, false, false, false] _ _
      have hHeld : wo.drew.heap[H + 2]? = some (.cells cq 26 (0, 0)) ∧ wo.drew.cell? ⟨H, 16, none⟩ = some (.int .i64 s8) ∧ wo.drew.cell? ⟨H, 17, none⟩ = some (.slice a8 n8 c8) := ⟨(hd0.block _ lq).trans hrq, cellKeep hd0 lH l16, cellKeep hd0 lH l17⟩
      refine anyK_take (i := 0) (v := .agg cq) rfl (by kernel_rfl) (by kernel_rfl) (by kernel_rfl) (N := 7) (by kernel_rfl) (by kernel_rfl) (by kernel_rfl) (fun _ _ _ h => h) (Or.inl ⟨by rfl, ?_⟩) hHeld ?_
      · intro w hSw
        exact exec_load_row 26 _ rfl (H + 2) rfl 26 _ (0, 0) _ hSw.1 Tryz.underlying26 rfl hinfq
      show anyK _ _ _ _ _ _ _ _ (Act.put _ (some 23) _) _
      simp only [Act.put, List.setIfInBounds_toArray, List.set_cons_zero, List.set_cons_succ]
      refine anyK_take (i := 1) (v := ?_) rfl (by kernel_rfl) (by kernel_rfl) (by kernel_rfl) (N := 7) (by kernel_rfl) (by kernel_rfl) (by kernel_rfl) (fun _ _ _ h => h) (Or.inl ⟨by rfl, ?_⟩) hHeld ?_
      rotate_left 1
      · intro w hSw
        go_simp
        try with_reducible rfl
      show anyK _ _ _ _ _ _ _ _ (Act.put _ (some 24) _) _
      simp only [Act.put, List.setIfInBounds_toArray, List.set_cons_zero, List.set_cons_succ]
      refine anyK_take (i := 2) (v := ?_) rfl (by kernel_rfl) (by kernel_rfl) (by kernel_rfl) (N := 7) (by kernel_rfl) (by kernel_rfl) (by kernel_rfl) (fun _ _ _ h => h) (Or.inl ⟨by rfl, ?_⟩) hHeld ?_
      rotate_left 1
      · intro w hSw
        go_simp
        try with_reducible rfl
      show anyK _ _ _ _ _ _ _ _ (Act.put _ (some 25) _) _
      simp only [Act.put, List.setIfInBounds_toArray, List.set_cons_zero, List.set_cons_succ]
      clear hHeld
      refine anyK_one (i := 3) (by kernel_rfl) rfl (fun Kk hKk => ?_)
      go_simp
      (go_at_call 44; refine (HOf.out _).mono ?_; rintro e w1 ⟨rfl, i1, hxx⟩)
      have he1 := hd0.trans hxx
      go_wp2_with fail
      refine hKk.out _ _ (fun _ => ⟨(he1.block _ lq).trans hrq, cellKeep he1 lH l16, cellKeep he1 lH l17⟩) ?_
      clear hKk Kk hxx
      simp only [List.setIfInBounds_toArray, List.set_cons_zero, List.set_cons_succ]
      refine anyK_one (i := 4) (by kernel_rfl) rfl (fun Kk hKk => ?_)
      go_simp
      (go_at_call 72; refine (HAd.out w1 he1 i1).mono ?_; rintro e w2 ⟨s9, a9, n9, c9, rfl, i9, hxx⟩)
      have he2 := he1.trans hxx
      go_wp2_with fail
      refine hKk.out _ _ (fun _ => ⟨(he2.block _ lq).trans hrq, cellKeep he2 lH l16, cellKeep he2 lH l17⟩) ?_
      clear hKk Kk hxx
      simp only [List.setIfInBounds_toArray, List.set_cons_zero, List.set_cons_succ]
      refine anyK_one (i := 5) (by kernel_rfl) rfl (fun Kk hKk => ?_)
      go_simp
      (go_at_call 76; refine (HLo.out w2 he2 s9 a9 n9 c9 i9).mono ?_; rintro e w3 ⟨cr, y, rfl, hcr, hy, hxx⟩)
      have he3 := he2.trans hxx
      go_wp2_with fail
      refine hKk.out _ _ (fun _ => ⟨(he3.block _ lq).trans hrq, cellKeep he3 lH l16, cellKeep he3 lH l17⟩) ?_
      clear hKk Kk hxx
      simp only [List.setIfInBounds_toArray, List.set_cons_zero, List.set_cons_succ]
      obtain ⟨c1, hr1, hs1, hone, hinf, rr, hnm, hE'⟩ := fin_num hcr (HZ.out.ext he3) (HE.out.trans he3) (by rw [HH.out]; omega)
      have heq : EqN y (nHf x) := by
        have e1 : ext8 (hfN f 8) = addR (trR 2 x.a) (trR (-2) x.a) := by rw [ext8_hfN, ← Hf.out, ext8_nmF Hx.out.anti]
        rw [e1] at hy
        exact hy
      have Hend := Lib.hid (show NmA (w3.setRow (H + 1) cr) cr y (P + 4) (E + 1) ∧ EqN y (nHf x) ∧ Ext w (w3.setRow (H + 1) cr) from ⟨hnm, heq, hE'⟩)
      clear hnm heq hE' hcr hy
      refine anyK_one (i := 6) (by kernel_rfl) rfl (fun Kk hKk => ?_)
      refine stepK_storeR rfl rfl 28 _ _ rfl (H + 1) cr rfl rfl 28 _ hr1 hinf hs1 hone ?_
      refine hKk.out _ _ (fun h => Bool.noConfusion (show true = false from h)) ?_
      clear hKk Kk
      simp only [List.setIfInBounds_toArray, List.set_cons_zero, List.set_cons_succ]
      refine anyK_done (by kernel_rfl) ?_ _
      go_wp2_with fail
      refine bodyPost_ret (v := .agg cr) ?_ rfl ⟨_, _, rfl, Hend.out⟩
      exact results_cell_row rfl _ _ (H + 1) _ _ _ _ rfl rr Tryz.underlying28 rfl hinf
    have hlt : j < 8 := by omega
    have q1 : (j : Int) < 8 := by omega
    have q0 : (0 : Int) ≤ (j : Int) := by omega
    obtain ⟨s1, a1, n1, c1, y0, y1, _, _, hI1⟩ := hA.get j (by omega)
    have wk : IntKind.i64.wrap ((j : Int) + 1) = ((j + 1 : Nat) : Int) := by rw [IntKind.wrap_i64]; omega
    have wk2 : IntKind.i64.wrap ((j : Int) + 2) = (j : Int) + 2 := by rw [IntKind.wrap_i64]; omega
    have wk3 : IntKind.i64.wrap ((j : Int) - 2) = (j : Int) - 2 := by rw [IntKind.wrap_i64]; omega
    have HAd := Lib.hid (rowAdd_any (H + 2) 8 26 (hfN f j) ((j : Int) + 2) s1 a1 n1 c1 (f j) wo hN (by decide) hI1 K HK.out (HFf.out j hlt) (HF.out j hj))
    have Hj1 := Lib.hid (show j + 1 ≤ 8 by omega)
    have HZ := Lib.hid hZ; have HA := Lib.hid hA; have HE := Lib.hid hE; have Hjk := Lib.hid hjk; have HI1 := Lib.hid hI1; have Hlt := Lib.hid hlt
    clear hI1 hN hZ hA hE hjk hj8 hj hlt
    go_wp2_with fail
    refine HAd.out.mono ?_
    rintro e w2 ⟨rfl, hN2, hC2⟩
    have HZ2 := Lib.hid (HZ.out.chg hC2 (by omega)); have HA2 := Lib.hid (HA.out.chg hC2 (by omega)); have HE2 := Lib.hid (hC2.ext HE.out (by rw [HH.out]; omega)); have HI2 := Lib.hid (HI1.out.keep64 hC2.keep)
    have lA := HA.out.lt
    have z0 : w2.cell? ⟨H, j * 2, none⟩ = some (.int .i64 s1) := by
      have hb := hC2.block H (by omega) lA
      simp only [World.cell?] at y0 ⊢
      rw [hb]; exact y0
    have z1 : w2.cell? ⟨H, j * 2 + 1, none⟩ = some (.slice a1 n1 c1) := by
      have hb := hC2.block H (by omega) lA
      simp only [World.cell?] at y1 ⊢
      rw [hb]; exact y1
    have HAd2 := Lib.hid (rowAdd_any (H + 2) 8 26 _ ((j : Int) - 2) s1 a1 n1 c1 (f j) w2 hN2 (by decide) HI2.out K HK.out (HFf.out j Hlt.out) (HF2.out j Hlt.out))
    clear hN2 hC2 HAd HZ HA HE y0 y1 HI1 lA HI2
    go_wp2_with fail
    refine HAd2.out.mono ?_
    rintro e w3 ⟨rfl, hN3, hC3⟩
    have Hend := Lib.hid (show Nums w3 (H + 2) 8 26 (hfN f (j + 1)) ∧ Nums w3 (H + 1) 9 28 (fun _ => 0) ∧ Nums w3 H 9 28 f ∧ Ext w w3 from
      ⟨hN3, HZ2.out.chg hC3 (by omega), HA2.out.chg hC3 (by omega), hC3.ext HE2.out (by rw [HH.out]; omega)⟩)
    clear hN3 hC3 HAd2 HZ2 HA2 HE2 z0 z1
    go_wp2_with fail
    go_roundg (8 - (j + 1))
    case measure => have := Hjk.out; have := Hj1.out; omega
    case rel => exact ⟨j + 1, rfl, Hj1.out, rfl, Hend.out⟩
end Go.Proofs.YtiicfpdiehgikaaGreatDoor
namespace Go.Proofs.YtiicfpdiehgikaaGreatDoor
open Go.RowKit

set_option maxRecDepth 100000 in
set_option maxHeartbeats 4000000 in
theorem RRoot_nm (k : Int) (w : World) :
    Calls Tryz.prog 25 #[.int .i64 k] w fun e w' => ∃ cr : Array Value, e = .returned (.agg cr) ∧ NmA w' cr (nTr k nOne) 1 0 ∧ Ext w w' := by
  obtain ⟨H, hH⟩ : ∃ H, w.heap.size = H := ⟨_, rfl⟩
  obtain ⟨U, hU⟩ : ∃ U, w.alloc (.cells zero9 28) = U := ⟨_, rfl⟩
  have E0 : Ext w U := by rw [← hU]; exact Ext.alloc _ _
  have Z0 : Nums U H 9 28 (fun _ => 0) := by rw [← hU, ← hH]; exact (cells_zero9 w).box 28
  have HU := Lib.hid hU; have HH := Lib.hid hH; have HZ0 := Lib.hid Z0; have HE0 := Lib.hid E0
  clear hU hH Z0 E0
  go_enter Tryz.func25, Tryz.ntmps25
  go_wp2_with fail
  rw [HU.out, HH.out]
  clear HU
  refine (Of_any 1 (by decide) (by decide) U).mono ?_
  rintro e w1 ⟨rfl, i1, hx1⟩
  go_wp2_with fail
  refine (ROf_nm 1 none 0 0 1 1 0 w1 i1 (by decide)).mono ?_
  rintro e w2 ⟨co, rfl, ho, hx2⟩
  rw [nOf_one] at ho
  have he2 := hx1.trans hx2
  clear i1 hx1 hx2
  go_wp2_with fail
  refine (Turn_nm co nOne 1 0 k w2 ho 1 (by decide) (by decide)).mono ?_
  rintro e w3 ⟨cr, rfl, hcr, hx3⟩
  have he3 := he2.trans hx3
  obtain ⟨c1, hr1, hs1, hone, hinf, rr, hnm, hE'⟩ := fin_num hcr (HZ0.out.ext he3) (HE0.out.trans he3) (by rw [HH.out]; omega)
  have Hend := Lib.hid (And.intro hnm hE')
  clear hnm hE' hcr hx3 he3 he2 ho HZ0 HE0
  go_wp2_with (refine wpList_store_row rfl 28 _ _ rfl H cr rfl rfl 28 _ hr1 hinf hs1 hone ?_)
  refine bodyPost_ret (v := .agg cr) ?_ rfl ⟨_, rfl, Hend.out⟩
  exact results_cell_row rfl _ _ H _ _ _ _ rfl rr Tryz.underlying28 rfl hinf

set_option maxRecDepth 100000 in
set_option maxHeartbeats 4000000 in
theorem RRt_nm (w : World) (hbr : Bru w) :
    Calls Tryz.prog 47 #[] w fun e w' => ∃ cr : Array Value, e = .returned (.agg cr) ∧ NmA w' cr (nRt) 5 1 ∧ Ext w w' := by
  obtain ⟨H, hH⟩ : ∃ H, w.heap.size = H := ⟨_, rfl⟩
  obtain ⟨U, hU⟩ : ∃ U, w.alloc (.cells zero9 28) = U := ⟨_, rfl⟩
  have E0 : Ext w U := by rw [← hU]; exact Ext.alloc _ _
  have Z0 : Nums U H 9 28 (fun _ => 0) := by rw [← hU, ← hH]; exact (cells_zero9 w).box 28
  have HU := Lib.hid hU; have HH := Lib.hid hH; have HZ0 := Lib.hid Z0; have HE0 := Lib.hid E0
  clear hU hH Z0 E0
  go_enter Tryz.func47, Tryz.ntmps47
  go_wp2_with fail
  rw [HU.out, HH.out]
  clear HU
  refine (Of_any 1 (by decide) (by decide) U).mono ?_
  rintro e w1 ⟨rfl, i1, hx1⟩
  go_wp2_with fail
  refine (ROf_nm 1 none 0 0 1 1 0 w1 i1 (by decide)).mono ?_
  rintro e w2 ⟨co, rfl, ho, hx2⟩
  rw [nOf_one] at ho
  have he2 := hx1.trans hx2
  clear i1 hx1 hx2
  go_wp2_with fail
  refine (Half_nm co nOne 1 0 w2 ho 1 (by decide) (by decide) (by decide) (bru_ext hbr (HE0.out.trans he2))).mono ?_
  rintro e w3 ⟨cr, y, rfl, hcr, hy, hx3⟩
  obtain rfl : y = nRt := low_one hcr.low low_rt hy
  have he3 := he2.trans hx3
  obtain ⟨c1, hr1, hs1, hone, hinf, rr, hnm, hE'⟩ := fin_num hcr (HZ0.out.ext he3) (HE0.out.trans he3) (by rw [HH.out]; omega)
  have Hend := Lib.hid (And.intro hnm hE')
  clear hnm hE' hcr hx3 he3 he2 ho HZ0 HE0
  go_wp2_with (refine wpList_store_row rfl 28 _ _ rfl H cr rfl rfl 28 _ hr1 hinf hs1 hone ?_)
  refine bodyPost_ret (v := .agg cr) ?_ rfl ⟨_, rfl, Hend.out⟩
  exact results_cell_row rfl _ _ H _ _ _ _ rfl rr Tryz.underlying28 rfl hinf

end Go.Proofs.YtiicfpdiehgikaaGreatDoor
namespace Go.Proofs.YtiicfpdiehgikaaGreatDoor
open Go.RowKit

theorem nm_same {x y : Nm} (hx : Anti x.a) (hy : Anti y.a) (ha : ∀ i, i < 8 → nmF x i = nmF y i) : x = y ↔ x.e = y.e := by
  constructor
  · intro h; rw [h]
  · intro h
    obtain ⟨a, e⟩ := x
    obtain ⟨b, e'⟩ := y
    simp only at h hx hy
    subst h
    congr 1
    refine hx.ext hy fun j h0 h1 => ?_
    have := ha j.toNat (by omega)
    unfold nmF at this
    rw [if_neg (by omega), if_neg (by omega)] at this
    simpa [show ((j.toNat : Nat) : Int) = j by omega] using this
theorem cmp3_iff {x y : Int} : cmp3 x y = 0 ↔ x = y := by unfold cmp3; split; · omega
                                                          · split <;> omega

set_option maxRecDepth 100000 in
set_option maxHeartbeats 4000000 in
theorem Same_nm (ca cb : Array Value) (x y : Nm) (P1 E1 P2 E2 : Nat) (w : World) (h1 : NmA w ca x P1 E1) (h2 : NmA w cb y P2 E2) (K : Nat) (hK : K ≤ 4194304) (hP1 : P1 ≤ 64 * K) (hP2 : P2 ≤ 64 * K) (hE1 : E1 ≤ 1099511627776) (hE2 : E2 ≤ 1099511627776) (hK1 : 1 ≤ K) (B : Bool) (hB : B = true ↔ x = y) :
    Calls Tryz.prog 41 #[.agg ca, .agg cb] w fun e w' => e = .returned (.bool B) ∧ Ext w w' := by
  obtain ⟨f, hf⟩ : ∃ f, nmF x = f := ⟨_, rfl⟩
  obtain ⟨g, hg⟩ : ∃ g, nmF y = g := ⟨_, rfl⟩
  have hv1 := h1.val; have hv2 := h2.val
  rw [hf] at hv1; rw [hg] at hv2
  have HF1 := Lib.hid (show ∀ i, i < 9 → Fit K (f i) from fun i hi => by
    by_cases e : i = 8
    · have hd := h1.down
      rw [← hf, e]
      exact fit_small (z := ((x.e : Nat) : Int)) (by omega) hK1
    · have := nmF_abs h1.abs i (by omega); rw [hf] at this; exact fit_pow this hP1)
  have HF2 := Lib.hid (show ∀ i, i < 9 → Fit K (g i) from fun i hi => by
    by_cases e : i = 8
    · have hd := h2.down
      rw [← hg, e]
      exact fit_small (z := ((y.e : Nat) : Int)) (by omega) hK1
    · have := nmF_abs h2.abs i (by omega); rw [hg] at this; exact fit_pow this hP2)
  have HB1 := Lib.hid (show (∃ i, i < 9 ∧ f i ≠ g i) → B = false from fun ⟨i, hi, hne⟩ => by
    cases hb : B with
    | false => rfl
    | true =>
      have := hB.1 hb
      rw [← hf, ← hg, this] at hne
      exact absurd rfl hne)
  have HB2 := Lib.hid (show (∀ i, i < 9 → f i = g i) → B = true from fun ha => by
    refine hB.2 ((nm_same h1.anti h2.anti (fun i hi => by rw [hf, hg]; exact ha i (by omega))).2 ?_)
    have := ha 8 (by omega)
    rw [← hf, ← hg] at this
    have h8 : ((x.e : Nat) : Int) = ((y.e : Nat) : Int) := this
    omega)
  obtain ⟨H, hH⟩ : ∃ H, w.heap.size = H := ⟨_, rfl⟩
  obtain ⟨U, hU⟩ : ∃ U, ((w.alloc (.cells ca 28)).alloc (.cells cb 28)) = U := ⟨_, rfl⟩
  have E0 : Ext w U := by rw [← hU]; exact (Ext.alloc _ _).trans (Ext.alloc _ _)
  have N0 : Nums U H 9 28 f := by rw [← hU, ← hH]; exact (hv1.box 28).ext (Ext.alloc _ _)
  have N1 : Nums U (H + 1) 9 28 g := by
    have := (hv2.ext (Ext.alloc w (.cells ca 28))).box 28
    rw [← hU, ← hH]
    simpa using this
  have HU := Lib.hid hU; have HH := Lib.hid hH; have HK := Lib.hid hK
  have Hst := Lib.hid (show Nums U H 9 28 f ∧ Nums U (H + 1) 9 28 g ∧ Ext w U from ⟨N0, N1, E0⟩)
  clear hU hH N0 N1 E0 hv1 hv2 h1 h2 hf hg hK hP1 hP2 hE1 hE2 hK1 hB
  go_enter Tryz.func41, Tryz.ntmps41
  go_wp2_with fail
  rw [HU.out, HH.out]
  clear HU
  go_loopg [5, 6] 8 (fun kk s5 s6 wr => ∃ j : Nat, s6 = .int .i64 (j : Int) ∧ j ≤ 8 ∧ 8 - j = kk ∧ (∀ i, i < j → f i = g i) ∧ Nums wr H 9 28 f ∧ Nums wr (H + 1) 9 28 g ∧ Ext w wr)
  case atStart => exact ⟨0, rfl, by omega, by omega, fun i hi => by omega, Hst.out⟩
  case round =>
    clear Hst
    obtain ⟨j, rfl, hj, hjk, hal, hN, hM, hE⟩ := hrel
    obtain ⟨wo, rfl⟩ : ∃ wo : World, wo = wr := ⟨_, rfl⟩
    have Hal := Lib.hid hal
    clear hal
    obtain ⟨k, hk⟩ : ∃ k, cmp3 (f j) (g j) = k := ⟨_, rfl⟩
    obtain ⟨s8, a8, n8, c8, y0, y1, _, _, hI8⟩ := hN.get j (by omega)
    obtain ⟨s7, a7, n7, c7, z0, z1, _, _, hI7⟩ := hM.get j (by omega)
    have HC := Lib.hid (fun (wx : World) (hx : Ext wo wx) => CmpK_is k (hI8.ext hx) (hI7.ext hx) K HK.out (HF1.out j (by omega)) (HF2.out j (by omega)) hk)
    have Hk := Lib.hid hk
    have HN := Lib.hid hN; have HM := Lib.hid hM; have HE := Lib.hid hE; have Hjk := Lib.hid hjk
    have lA := hN.lt; have lB := hM.lt
    clear hI8 hI7 hk hN hM hE hjk
    by_cases hj8 : j = 8
    · subst hj8
      go_wp2_with fail
      refine (HC.out wo (Ext.refl _)).mono ?_
      rintro e w2 ⟨rfl, hx2⟩
      have HE2 := Lib.hid (HE.out.trans hx2)
      clear hx2 y0 y1 z0 z1 HN HM HE HC lA lB
      have hBk : B = (k == 0) := by
        by_cases h0 : k = 0
        · have := HB2.out (fun i hi => by
            by_cases e : i = 8
            · rw [e]; exact cmp3_iff.1 (Hk.out.trans h0)
            · exact Hal.out i (by omega))
          rw [this, h0]; rfl
        · have := HB1.out ⟨8, by decide, fun e => h0 (Hk.out.symm.trans (cmp3_iff.2 e))⟩
          rw [this]; simp [h0]
      have HBk := Lib.hid hBk
      clear hBk Hk
      go_wp2_with fail
      go_ret
      exact ⟨congrArg (fun b => Ending.returned (Value.bool b)) HBk.out.symm, HE2.out⟩
    have hlt : j < 8 := by omega
    have q1 : (j : Int) < 8 := by omega
    have q0 : (0 : Int) ≤ (j : Int) := by omega
    have wk : IntKind.i64.wrap ((j : Int) + 1) = ((j + 1 : Nat) : Int) := by rw [IntKind.wrap_i64]; omega
    have Hj1 := Lib.hid (show j + 1 ≤ 8 by omega)
    have Hlt := Lib.hid hlt
    clear hj8 hj hlt
    go_upto_region 4 with fail
    have h0d : Ext wo wo.drew := Below.drew (Ext.refl _)
    go_region_held3 (fun w' => w'.cell? ⟨H, j * 2, none⟩ = some (.int .i64 s8) ∧ w'.cell? ⟨H, j * 2 + 1, none⟩ = some (.slice a8 n8 c8) ∧ w'.cell? ⟨H + 1, j * 2, none⟩ = some (.int .i64 s7) ∧ w'.cell? ⟨H + 1, j * 2 + 1, none⟩ = some (.slice a7 n7 c7))
      (exact ⟨cellKeep (W := wo) (by assumption) lA y0, cellKeep (W := wo) (by assumption) lA y1, cellKeep (W := wo) (by assumption) lB z0, cellKeep (W := wo) (by assumption) lB z1⟩)
      (first
        | (go_at_call 70; refine (HC.out _ (by assumption)).mono ?_; rintro e v0 ⟨rfl, qv0⟩; have hv0 : Ext wo v0 := Ext.trans (by assumption) qv0))
    have HE2 := Lib.hid (HE.out.trans hv0); have HN2 := Lib.hid (HN.out.ext hv0); have HM2 := Lib.hid (HM.out.ext hv0)
    clear hv0 qv0 y0 y1 z0 z1 HN HM HE HC lA lB h0d
    by_cases h0 : k = 0
    · have b1 : (k != 0) = false := rne_f h0
      have Hal' := Lib.hid (show ∀ i, i < j + 1 → f i = g i from fun i hi => by
        by_cases e : i = j
        · rw [e]; exact cmp3_iff.1 (Hk.out.trans h0)
        · exact Hal.out i (by omega))
      clear h0 Hk
      go_wp2_with fail
      go_roundg (8 - (j + 1))
      case measure => have := Hjk.out; have := Hj1.out; omega
      case rel => exact ⟨j + 1, rfl, Hj1.out, rfl, Hal'.out, HN2.out, HM2.out, HE2.out⟩
    · have b1 : (k != 0) = true := rne_t h0
      have HBf := Lib.hid (HB1.out ⟨j, by have := Hlt.out; omega, fun e => h0 (Hk.out.symm.trans (cmp3_iff.2 e))⟩)
      clear h0 Hk
      go_wp2_with fail
      go_ret
      exact ⟨congrArg (fun b => Ending.returned (Value.bool b)) HBf.out.symm, HE2.out⟩
end Go.Proofs.YtiicfpdiehgikaaGreatDoor
namespace Go.Proofs.YtiicfpdiehgikaaGreatDoor
open Go.RowKit

theorem byte_info : (Tryz.prog.info? 5).map (fun i => (i.zero, i.size, i.bytes)) = some (some (.int .u8 0), 1, 1) := by kernel_rfl
theorem bld_size : (Tryz.prog.info? 85).map (·.size) = some 2 := by kernel_rfl
theorem bld_lies : liesAt Tryz.prog Tryz.prog.depth 85 (2 / Tryz.prog.cellsOf 85) 0 85 1 = true := by kernel_rfl

/-- A builder in block b that holds these cells; all that it owns lies from b on. -/
abbrev Bld (w : World) (b : Nat) (bs : List Value) : Prop := Lib.IsBuilderF 85 5 b b bs w
/-- What is written into the builder b leaves all else as it was. -/
structure Wrt (b : Nat) (w w' : World) : Prop where
  low : Below b w w'
  oth : Lib.OthersKept 5 (some b) w w'
theorem Wrt.refl (b : Nat) (w : World) : Wrt b w w := ⟨Below.refl b w, Lib.OthersKept.refl _ _ w⟩
/-- What lay there ahead of the builder stands. -/
theorem Wrt.ext {b : Nat} {w0 w w' : World} (h : Wrt b w w') (k : Ext w0 w) (hb : w0.heap.size ≤ b) : Ext w0 w' := Below.trans k (h.low.mono hb)
theorem Bld.lt {w : World} {b : Nat} {bs : List Value} (h : Bld w b bs) : b < w.heap.size := by rcases h with h | h <;> exact h.lt
theorem bld_new (w : World) : Bld (w.alloc (.cells #[.pointer none, .slice none 0 0] 85)) w.heap.size [] := Lib.IsBuilderF.of (Lib.fresh_isBuilder _ _ w)

set_option maxHeartbeats 1000000 in
set_option maxRecDepth 100000 in
theorem copyCheck_used (b : Nat) (w : World) (h0 : w.cell? ⟨b, 0, none⟩ = some (.pointer (some ⟨b, 0, none⟩))) :
    Calls Tryz.prog 90 #[.pointer (some ⟨b, 0, none⟩)] w fun e w' => e = .returned (.tuple #[]) ∧ w' = w := by
  obtain ⟨j, hj, _⟩ := Option.map_eq_some_iff.1 bld_size
  go_enter Tryz.func90, Tryz.ntmps90
  go_wp2
  rw [Lib.run_neq_ptr_same w _ Tryz.underlying82 hj]
  go_wp2
  go_end0
  exact ⟨rfl, rfl⟩

set_option maxHeartbeats 1000000 in
set_option maxRecDepth 100000 in
theorem copyCheck_fresh (b : Nat) (w : World) (h0 : w.cell? ⟨b, 0, none⟩ = some (.pointer none)) (hsh : w.shape? b = some (85, 2)) (hfz : w.frozen? ⟨b, 0, none⟩ = false) :
    Calls Tryz.prog 90 #[.pointer (some ⟨b, 0, none⟩)] w fun e w' => e = .returned (.tuple #[]) ∧ w' = w.setCell ⟨b, 0, none⟩ (.pointer (some ⟨b, 0, none⟩)) := by
  obtain ⟨j, hj, hjs⟩ := Option.map_eq_some_iff.1 bld_size
  go_enter Tryz.func90, Tryz.ntmps90
  go_wp2
  rw [Lib.run_to_unsafe w ⟨b, 0, none⟩ Tryz.underlying82 Tryz.underlying144 hj (by rw [hjs]; decide) hsh (Nat.zero_lt_succ 1)]
  simp only [Result.andThen]
  rw [Oper.upon_value]
  go_wp2
  rw [run_callFunc_extern Tryz.func115 (by kernel_rfl) (by kernel_rfl) (by kernel_rfl) (e := Extern.AbiNoEscape.same) (by kernel_rfl), Lib.run_noEscape]
  simp only [Result.andThen]
  rw [Oper.upon_value]
  go_wp2
  rw [Lib.run_from_unsafe w ⟨b, 0, none⟩ Tryz.underlying144 Tryz.underlying82 hj hsh bld_lies]
  simp only [Result.andThen]
  rw [Oper.upon_value]
  go_wp2
  go_end0
  exact ⟨rfl, rfl⟩

theorem copyCheck_any (b : Nat) (bs : List Value) (w : World) (h : Bld w b bs) :
    Calls Tryz.prog 90 #[.pointer (some ⟨b, 0, none⟩)] w fun e w' => e = .returned (.tuple #[]) ∧ Lib.BuilderAtF 85 5 b b (.pointer (some ⟨b, 0, none⟩)) bs w' ∧ Wrt b w w' := by
  cases h with
  | inl h =>
    refine (copyCheck_fresh b w h.cell0 h.shape h.frozen0).mono ?_
    intro e w' hh
    obtain ⟨he, hw⟩ := hh
    subst hw
    exact ⟨he, h.used _, ⟨Below.setCell (Below.refl b w) (Nat.le_refl b) _, (Lib.OthersKept.refl _ (some b) w).setCell ⟨b, 0, none⟩ rfl _⟩⟩
  | inr h =>
    refine (copyCheck_used b w h.cell0).mono ?_
    intro e w' hh
    obtain ⟨he, hw⟩ := hh
    subst hw
    exact ⟨he, h, Wrt.refl b w'⟩

theorem bld_grown {w1 w2 : World} {b : Nat} {p v : Value} {bs : List Value} {n : Nat} {row : Option Nat} (hbk : w1.heap[b]? = some (.cells #[p, v] 85 (0, 0))) (_hown : w1.ownsRowF b 5 1 v n bs) (hne : v.ownBlock ≠ some b) (hg : w1.grownBy w2 row) (hr : row = v.ownBlock) :
    w2.heap[b]? = some (.cells #[p, v] 85 (0, 0)) := by
  subst hr
  rw [hg.block b (Array.getElem?_eq_some_iff.1 hbk).1 (fun e => hne e.symm)]; exact hbk

set_option maxHeartbeats 2000000 in
set_option maxRecDepth 100000 in
/-- A text is written. -/
theorem writeString_any (b : Nat) (bs : List Value) (s : ByteArray) (w : World) (h : Bld w b bs) (hlen : bs.length + s.size ≤ 140737488355328) :
    Calls Tryz.prog 59 #[.pointer (some ⟨b, 0, none⟩), .string s] w fun e w' => e = .returned (.tuple #[.int .i64 s.size, .nilIface]) ∧ Bld w' b (bs ++ Lib.strCells s) ∧ Wrt b w w' := by
  obtain ⟨i0, hi, hz0, hz1, hz2⟩ := info_parts byte_info
  have hbw := h.lt
  go_enter Tryz.func59, Tryz.ntmps59
  go_wp2_with fail
  refine (copyCheck_any b bs w h).mono ?_
  rintro e w1 ⟨rfl, h1, hW1⟩
  obtain ⟨hB, v, hbk, hown, hne⟩ := h1
  have hs1 := hW1.low.size
  have c0 : w1.cell? ⟨b, 0, none⟩ = some (.pointer (some ⟨b, 0, none⟩)) := by rw [Lib.cell_of_heap hbk]; rfl
  have c1 : w1.cell? ⟨b, 1, none⟩ = some v := by rw [Lib.cell_of_heap hbk]; rfl
  go_wp2_with (at_builtin; refine Lib.wpList_append_own_stringF _ rfl _ _ 83 9 rfl b 5 i0 Tryz.underlying83 Tryz.underlying9 hi hz0 hz1 hz2 _ _ _ rfl hown s rfl ?b1 ?b2 ?b3 ?_)
  case b1 => unfold maxLen; omega
  case b2 => omega
  case b3 => omega
  intro v' w2 hown' hgrow _
  have hb2 := bld_grown hbk hown hne hgrow rfl
  have d0 : w2.cell? ⟨b, 0, none⟩ = some (.pointer (some ⟨b, 0, none⟩)) := by rw [Lib.cell_of_heap hb2]; rfl
  have d1 : w2.cell? ⟨b, 1, none⟩ = some v := by rw [Lib.cell_of_heap hb2]; rfl
  have f1 : w2.frozen? ⟨b, 1, none⟩ = false := Lib.frozen_of_heap hb2 1
  obtain ⟨ao, n', cap, rfl⟩ : ∃ ao n' cap, v' = .slice ao n' cap := by
    rcases hown'.2 with ⟨hv, _⟩ | ⟨g, cap, cur, fz, hv, _⟩ <;> exact ⟨_, _, _, hv⟩
  have HF := Lib.hid (show Bld (w2.setCell ⟨b, 1, none⟩ (.slice ao n' cap)) b (bs ++ Lib.strCells s) from Or.inr (Lib.BuilderAtF.put (T := 85) (e := 5) (Nat.le_refl b) hb2 (bs' := bs ++ Lib.strCells s) (by simpa [Lib.strCells_length] using hown') (by decide)))
  have HW := Lib.hid (show Wrt b w (w2.setCell ⟨b, 1, none⟩ (.slice ao n' cap)) from ⟨(hW1.low.grown hgrow (by omega) (fun k hk => (hown.lt k hk).1)).setCell (p := ⟨b, 1, none⟩) (Nat.le_refl b) _, (hW1.oth.grown hgrow (Lib.ownsRowF_kind hown)).setCell ⟨b, 1, none⟩ rfl _⟩)
  go_wp2
  go_ret2
  exact ⟨rfl, HF.out, HW.out⟩

set_option maxHeartbeats 2000000 in
set_option maxRecDepth 100000 in
/-- A byte is written. -/
theorem writeByte_any (b : Nat) (bs : List Value) (c : Int) (w : World) (h : Bld w b bs) (hlen : bs.length + 1 ≤ 140737488355328) :
    Calls Tryz.prog 58 #[.pointer (some ⟨b, 0, none⟩), .int .u8 c] w fun e w' => e = .returned .nilIface ∧ Bld w' b (bs ++ [.int .u8 c]) ∧ Wrt b w w' := by
  obtain ⟨i0, hi, hz0, hz1, hz2⟩ := info_parts byte_info
  have hbw := h.lt
  go_enter Tryz.func58, Tryz.ntmps58
  go_wp2_with fail
  refine (copyCheck_any b bs w h).mono ?_
  rintro e w1 ⟨rfl, h1, hW1⟩
  obtain ⟨hB, v, hbk, hown, hne⟩ := h1
  have hs1 := hW1.low.size
  have c0 : w1.cell? ⟨b, 0, none⟩ = some (.pointer (some ⟨b, 0, none⟩)) := by rw [Lib.cell_of_heap hbk]; rfl
  have c1 : w1.cell? ⟨b, 1, none⟩ = some v := by rw [Lib.cell_of_heap hbk]; rfl
  go_wp2_with (at_builtin; refine wpList_append_ownF _ rfl _ _ 83 rfl b 5 i0 (.int .u8 0) 1 1 Tryz.underlying83 hi hz0 hz1 hz2 rfl (by decide) _ _ _ rfl (hown.alloc _) ⟨w1.heap.size, 0, none⟩ 1 1 [.int .u8 c] rfl rfl ?b0 ?b1 ?b2 ?b3 ?b4 ?_)
  case b0 =>
    intro j u hj
    cases j with
    | zero => simp at hj; subst hj; simp [Addr.add]
    | succ j => simp at hj
  case b1 => intro u hu; simp at hu; subst hu; rfl
  case b2 => unfold maxLen; omega
  case b3 => omega
  case b4 => simp; omega
  intro v' w2 hown' hgrow _
  have hbk' : (w1.alloc (.cells #[.int .u8 c] 5)).heap[b]? = some (.cells #[.pointer (some ⟨b, 0, none⟩), v] 85 (0, 0)) := by rw [Lib.alloc_old w1 _ b (by omega)]; exact hbk
  have hb2 := bld_grown hbk' (hown.alloc _) hne hgrow rfl
  have d0 : w2.cell? ⟨b, 0, none⟩ = some (.pointer (some ⟨b, 0, none⟩)) := by rw [Lib.cell_of_heap hb2]; rfl
  have d1 : w2.cell? ⟨b, 1, none⟩ = some v := by rw [Lib.cell_of_heap hb2]; rfl
  have f1 : w2.frozen? ⟨b, 1, none⟩ = false := Lib.frozen_of_heap hb2 1
  obtain ⟨ao, n', cap, rfl⟩ : ∃ ao n' cap, v' = .slice ao n' cap := by
    rcases hown'.2 with ⟨hv, _⟩ | ⟨g, cap, cur, fz, hv, _⟩ <;> exact ⟨_, _, _, hv⟩
  have HF := Lib.hid (show Bld (w2.setCell ⟨b, 1, none⟩ (.slice ao n' cap)) b (bs ++ [.int .u8 c]) from Or.inr (Lib.BuilderAtF.put (T := 85) (e := 5) (Nat.le_refl b) hb2 (bs' := bs ++ [.int .u8 c]) (by simpa using hown') (by decide)))
  have HW := Lib.hid (show Wrt b w (w2.setCell ⟨b, 1, none⟩ (.slice ao n' cap)) from ⟨((hW1.low.alloc (by omega) _).grown hgrow (by simp; omega) (fun k hk => (hown.lt k hk).1)).setCell (p := ⟨b, 1, none⟩) (Nat.le_refl b) _, ((hW1.oth.alloc _).grown hgrow (Lib.ownsRowF_kind (hown.alloc _))).setCell ⟨b, 1, none⟩ rfl _⟩)
  go_wp2
  go_ret
  exact ⟨rfl, HF.out, HW.out⟩

end Go.Proofs.YtiicfpdiehgikaaGreatDoor
namespace Go.Proofs.YtiicfpdiehgikaaGreatDoor
open Go.RowKit

/-- .. among the first n. -/
def lenN (f : Nat → Int) : Nat → Nat
  | 0 => 0
  | n + 1 => if 0 < n ∧ f n = 0 then lenN f n else n + 1
theorem lenN_le (f : Nat → Int) : ∀ n, lenN f n ≤ n
  | 0 => Nat.le_refl _
  | n + 1 => by
    simp only [lenN]
    split
    · have := lenN_le f n; omega
    · exact Nat.le_refl _
set_option maxRecDepth 100000 in
set_option maxHeartbeats 4000000 in
theorem rowLength_any (g m : Nat) (t : TypeId) (f : Nat → Int) (w : World) (h : Nums w g m t f) (hm : 8 ≤ m) :
    Calls Tryz.prog 57 #[.pointer (some ⟨g, 0, none⟩)] w fun e w' => e = .returned (.int .i64 (lenN f 8 : Nat)) ∧ Ext w w' := by
  have Hh := Lib.hid h; have Hm := Lib.hid hm
  obtain ⟨L, hL⟩ : ∃ L, lenN f 8 = L := ⟨_, rfl⟩
  rw [hL]
  have HL := Lib.hid hL
  clear h hm hL
  go_enter Tryz.func57, Tryz.ntmps57
  go_wp2_with fail
  go_loopg [3] 8 (fun kk s3 wr => ∃ k : Nat, s3 = .int .i64 (k : Int) ∧ k ≤ 8 ∧ 0 < k ∧ k = kk ∧ Ext w wr ∧ lenN f k = L)
  case atStart => exact ⟨8, rfl, by omega, by omega, rfl, Ext.refl _, HL.out⟩
  case round =>
    obtain ⟨k, rfl, hk, hk0, hkk, hx, hz⟩ := hrel
    have Hz := Lib.hid hz; have Hkk := Lib.hid hkk
    clear hz hkk
    by_cases hk1 : k = 1
    · subst hk1
      have HkL : Hid (1 = L) := Lib.hid (by rw [← Hz.out]; simp [lenN])
      go_wp2_with fail
      go_ret
      exact ⟨congrArg (fun b : Nat => Ending.returned (Value.int .i64 (b : Int))) HkL.out, hx⟩
    obtain ⟨j, rfl⟩ : ∃ j, k = j + 1 := ⟨k - 1, by omega⟩
    have q1 : (1 : Int) < ((j + 1 : Nat) : Int) := by omega
    have wj : IntKind.i64.wrap (((j + 1 : Nat) : Int) - 1) = (j : Int) := by rw [IntKind.wrap_i64]; omega
    have q2 : (0 : Int) ≤ (j : Int) := by omega
    have q3 : (j : Int) < 8 := by omega
    obtain ⟨s, a, n, c, l1, l2, _, _, hI⟩ := (Hh.out.ext hx).get j (by have := Hm.out; omega)
    have Hc := Lib.hid hI.cmp3
    have Hs := Lib.hid (Sign_any s (.slice a n c))
    have Hx := Lib.hid hx; have Hj := Lib.hid (show 0 < j ∧ j + 1 ≤ 8 by omega)
    clear hI hx hk hk0 hk1
    obtain ⟨wo, rfl⟩ : ∃ wo : World, wo = wr := ⟨_, rfl⟩
    go_wp2_with fail
    refine (Hs.out wo).mono ?_
    rintro e w2 ⟨rfl, hx2⟩
    have Hx2 := Lib.hid (Hx.out.trans hx2)
    clear hx2 l1 l2 Hs
    rw [Hc.out]
    by_cases hz : f j = 0
    · have b1 : (cmp3 (f j) 0 == 0) = true := by rw [hz]; rfl
      have Hn : Hid (lenN f j = L) := Lib.hid (by rw [← Hz.out]; simp only [lenN]; rw [if_pos ⟨Hj.out.1, hz⟩])
      clear hz Hc
      go_wp2_with fail
      go_roundg j
      case measure => have := Hkk.out; omega
      case rel => exact ⟨j, rfl, by have := Hj.out; omega, Hj.out.1, rfl, Hx2.out, Hn.out⟩
    · have b1 : (cmp3 (f j) 0 == 0) = false := by
        have : cmp3 (f j) 0 ≠ 0 := fun e => hz (cmp3_zero.1 e)
        simp [this]
      have HkL : Hid (j + 1 = L) := Lib.hid (by rw [← Hz.out]; simp only [lenN]; rw [if_neg (fun h => hz h.2)])
      clear hz Hc
      go_wp2_with fail
      go_ret
      exact ⟨congrArg (fun b : Nat => Ending.returned (Value.int .i64 (b : Int))) HkL.out, Hx2.out⟩
end Go.Proofs.YtiicfpdiehgikaaGreatDoor
