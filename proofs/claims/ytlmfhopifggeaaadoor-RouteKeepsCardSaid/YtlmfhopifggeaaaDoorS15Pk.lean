/-
  The reference: a gate's work. A row's length: how many parts there are up to the last that is not nought. A number of circuits as a text: Text. The program: a run that is under way, in memory. The program: check: the first fault of a circuit and of the basis state that it is to begin in. The program: play: a circuit is run to its end, with the outcomes of the tape. The reference: a shot in memory: its state in one block, its bits in another.
-/
import Derived.Test.YtlmfhopifggeaaaDoorProg
import Derived.Test.YtlmfhopifggeaaaDoorRows
import Derived.BigQuiet
import Derived.Deep.AppendLies
import Derived.Deep.Cut
import Derived.Deep.CutRange
import Derived.Deep.LoopGhost
import Derived.Deep.MidRow
import Derived.Deep.QuietTactic
import Derived.Deep.RegionHeld3
import Derived.Ground.Names2Prog
import Derived.Ground.SlgnProg
import Derived.Laws.Bits64b
import Derived.Laws.CopyOwn
import Derived.Laws.IdiomCopy
import Derived.Laws.ResultCell
import Derived.Laws.Rows
import Derived.Lib.AppendIntMem
import Derived.Lib.AppendStr
import Derived.Lib.BitFns
import Derived.Lib.Hide
import Derived.Lib.ItoaMem
import Derived.Lib.ItoaNum
import Derived.Lib.Strings
import Derived.Lib.TrailingZeros
import Derived.LoopIn
import Derived.LoopNIn
import Derived.OrdersHeld
import Derived.OrdersIn
import Derived.OwnWalk
import Derived.OwnWalkIn
import Derived.ProofKit
import Derived.RangeFuncBound
import Derived.RangeFuncCalls
import Derived.RangeFuncFrom
import Derived.RangeFuncLeaves
import Derived.RegionTactic
import Derived.Shelf.Abstract
import Derived.Shelf.Slices.Clone
import Derived.Shelf.SlicesE.Clone
import Derived.TacticsInMore
import Derived.WalkKit
import Derived.WalkLawsBesides
import Derived.WalkSpells
import Derived.Test.YtlmfhopifggeaaaDoorS00Mem
import Derived.Test.YtlmfhopifggeaaaDoorShelf
import Derived.Test.YtlmfhopifggeaaaDoorS02ZBq
import Derived.Test.YtlmfhopifggeaaaDoorS03ZKq
import Derived.Test.YtlmfhopifggeaaaDoorS04Udq
import Derived.Test.YtlmfhopifggeaaaDoorS05Wf
import Derived.Test.YtlmfhopifggeaaaDoorS06Xfq
import Derived.Test.YtlmfhopifggeaaaDoorS07Cn
import Derived.Test.YtlmfhopifggeaaaDoorS08Cj
import Derived.Test.YtlmfhopifggeaaaDoorS13Ms
import Derived.Test.YtlmfhopifggeaaaDoorS14Pi
namespace Go.Proofs.YtlmfhopifggeaaaDoor
variable {Qc : Nat → Prop}
open Go.RowKit

set_option maxRecDepth 100000 in
set_option maxHeartbeats 8000000 in
theorem QGate_any (o : Gop) (s : Nat → Nm) (n m N b cp : Nat) (a1 a2 : Option Addr) (n1 c1 n2 c2 : Nat) (P E : Nat) (w : World)
    (hS : RsAt Qc w b m s P E) (hA : ∀ x, Amp N (s x)) (hm : 2 ^ n = m) (hn : n ≤ 12) (hq0 : 0 ≤ o.q) (hqn : o.q.toNat < n)
    (hI : IntsAt w a1 n1 o.ctl) (hc1 : n1 ≤ c1) (hc2 : c1 ≤ 9223372036854775807) (hct : ∀ c ∈ o.ctl, 0 ≤ c ∧ c ≤ 60) (hne : ∀ c ∈ o.ctl, c.toNat ≠ o.q.toNat)
    (hP : 2 * (N + 1) + 1 ≤ P) (hP2 : P + E + 1 ≤ 400000) (hE : N + 1 ≤ E) (hE2 : E ≤ 9000) (hL : LimQ Qc w) :
    Calls Tryd.prog 41 #[.slice (some ⟨b, 0, none⟩) m cp, .agg #[.int .i64 o.kind, .int .i64 o.k, .slice a1 n1 c1, .int .i64 o.q, .int .i64 o.bit, .slice a2 n2 c2]] w fun e w' => ∃ b', e = .returned (.slice (some ⟨b', 0, none⟩) m m) ∧ RsAt Qc w' b' m (gt o s) P E ∧ w.heap.size ≤ b' ∧ Ext w w' := by
  have hm2 : m ≤ 4096 := by rw [← hm]; exact Nat.le_trans (Nat.pow_le_pow_right (by decide) hn) (by decide)
  obtain ⟨kd, hkd⟩ : ∃ x, o.kind = x := ⟨_, rfl⟩
  obtain ⟨k, hk⟩ : ∃ x, o.k = x := ⟨_, rfl⟩
  obtain ⟨qn, hq⟩ : ∃ qn : Nat, o.q = (qn : Int) := ⟨o.q.toNat, by omega⟩
  obtain ⟨bi, hbi⟩ : ∃ x, o.bit = x := ⟨_, rfl⟩
  obtain ⟨ctl, hctl⟩ : ∃ x, o.ctl = x := ⟨_, rfl⟩
  rw [hq] at hq0 hqn hne
  rw [hctl] at hI hct hne
  rw [hkd, hk, hq, hbi]
  obtain ⟨H, hH⟩ : ∃ H, w.heap.size = H := ⟨_, rfl⟩
  obtain ⟨C, hC⟩ : ∃ C : Array Value, #[.int .i64 kd, .int .i64 k, .slice a1 n1 c1, .int .i64 (qn : Int), .int .i64 bi, .slice a2 n2 c2] = C := ⟨_, rfl⟩
  obtain ⟨U, hU⟩ : ∃ U, w.alloc (.cells #[.int .i64 kd, .int .i64 k, .slice a1 n1 c1, .int .i64 (qn : Int), .int .i64 bi, .slice a2 n2 c2] 46) = U := ⟨_, rfl⟩
  have hEU : Ext w U := by rw [← hU]; exact ext_alloc _ _
  have hrU : U.heap[H]? = some (.cells C 46 (0, 0)) := by rw [← hU, ← hH, ← hC]; exact heap_alloc_new w _
  have hsU : U.heap.size = H + 1 := by rw [← hU, ← hH]; simp
  have hbH : b < H := by rw [← hH]; exact hS.lt
  have Hm := Lib.hid hm; have Hn := Lib.hid hn; have HS := Lib.hid hS; have HA := Lib.hid hA; have Hq0 := Lib.hid hq0; have Hqn := Lib.hid hqn; have HI := Lib.hid hI; have Hc1 := Lib.hid hc1; have Hc2 := Lib.hid hc2; have Hct := Lib.hid hct; have Hne := Lib.hid hne; have HP := Lib.hid hP; have HP2 := Lib.hid hP2; have HE := Lib.hid hE; have HE2 := Lib.hid hE2; have Hm2 := Lib.hid hm2
  have HLm := Lib.hid hL
  clear hL
  have Hkd := Lib.hid hkd; have Hk := Lib.hid hk; have Hq := Lib.hid hq; have Hctl := Lib.hid hctl; have HH := Lib.hid hH; have HC := Lib.hid hC; have HU := Lib.hid hU; have HEU := Lib.hid hEU; have HrU := Lib.hid hrU; have HsU := Lib.hid hsU; have HbH := Lib.hid hbH
  clear hm hn hS hA hq0 hqn hI hc1 hc2 hct hne hP hP2 hE hE2 hm2 hkd hk hq hctl hH hC hU hEU hrU hsU hbH hbi
  go_enter Tryd.func41, Tryd.ntmps41
  go_upto_region 1 with fail
  rw [HU.out, HH.out]
  go_wp2_with (refine wpList_make_R (Qc := Qc) U rfl _ _ rfl .i64 .i64 (m : Int) (m : Int) m rfl rfl rfl rfl (by have := Hm2.out; omega) ?_; intro w1 hR hE1 hl1)
  rw [HsU.out] at hR hl1 ⊢
  have HG0 := Lib.hid (show GSt Qc w w1 H (H + 1) b m C s (gp o s 0) P E from ⟨(HS.out.ext HEU.out).ext hE1, (hR P E).congr (fun y _ => (gp_zero o s y).symm), (hE1.block _ (Array.getElem?_eq_some_iff.1 HrU.out).1).trans HrU.out, HEU.out.trans hE1⟩)
  clear hR hE1 hl1 HU HrU HEU HsU HS
  go_loopg [6, 7, 8] m (fun kk s6 s7 s8 wr => ∃ j : Nat, s6 = .int .i64 (j : Int) ∧ j ≤ m ∧ m - j = kk ∧ GSt Qc w wr H (H + 1) b m C s (gp o s j) P E)
  case atStart => exact ⟨0, rfl, by omega, by omega, HG0.out⟩
  case round =>
    obtain ⟨j, rfl, hj, hkk, hG⟩ := hrel
    clear HG0
    have HG := Lib.hid hG; have Hkk := Lib.hid hkk
    clear hG hkk
    by_cases hjm : j = m
    · have Hend := Lib.hid (show RsAt Qc wr (H + 1) m (gt o s) P E ∧ w.heap.size ≤ H + 1 ∧ Ext w wr from ⟨HG.out.out.congr (fun y hy => by rw [hjm, ← Hm.out]; exact gp_end (by rw [Hm.out]; exact hy) (by rw [Hq.out]; exact Hqn.out)), by rw [HH.out]; omega, HG.out.ext⟩)
      have q1 : ¬ (j : Int) < (m : Int) := by omega
      clear hjm hj
      go_wp2_with fail
      go_ret
      exact ⟨_, rfl, Hend.out⟩
    have hlt : j < m := by omega
    have q1 : (j : Int) < (m : Int) := by omega
    have q0 : (0 : Int) ≤ (j : Int) := by omega
    have wk : IntKind.i64.wrap ((j : Int) + 1) = ((j + 1 : Nat) : Int) := by rw [IntKind.wrap_i64]; have := Hm2.out; omega
    obtain ⟨cl, hcl, hRl, hln⟩ := HG.out.src.at hlt
    have hinl : (Tryd.prog.info? 59).map (·.size) = some cl.length := by rw [hln]; exact R_size
    have Hlt := Lib.hid hlt; have HRl := Lib.hid hRl; have Hln := Lib.hid hln
    clear hjm hj hlt hRl hln
    by_cases hz : s j = nZ
    · have Hz := Lib.hid (QZero_any cl.toArray _ _ wr HRl.out.val true ⟨fun _ => (zero_iff HRl.out).2 hz, fun _ => rfl⟩)
      have Hzz := Lib.hid hz
      clear hz
      go_wp2_with (refine wpList_load_mid rfl 59 _ rfl b (j * 17) rfl cl _ hcl Tryd.underlying59 rfl hinl ?_)
      refine Hz.out.mono ?_
      rintro e w1 ⟨rfl, hE1⟩
      have HG1 := Lib.hid ((HG.out.more hE1).same (gp_nought Hzz.out))
      clear hE1 hcl hinl Hz HG HRl
      go_wp2_with fail
      go_roundg (m - (j + 1))
      case measure => have := Hkk.out; have := Hlt.out; omega
      case rel => exact ⟨j + 1, rfl, Hlt.out, rfl, HG1.out⟩
    have Hz := Lib.hid (QZero_any cl.toArray _ _ wr HRl.out.val false ⟨fun h => by simp at h, fun h => absurd ((zero_iff HRl.out).1 h) hz⟩)
    clear hz
    go_wp2_with (refine wpList_load_mid rfl 59 _ rfl b (j * 17) rfl cl _ hcl Tryd.underlying59 rfl hinl ?_)
    refine Hz.out.mono ?_
    rintro e w1 ⟨rfl, hE1⟩
    have HG1 := Lib.hid (HG.out.more hE1)
    have HR1 := Lib.hid (HRl.out.ext hE1)
    clear hE1 hcl Hz HG HRl
    obtain ⟨cl', hcl, hRl', hln'⟩ := HG1.out.src.at Hlt.out
    have f2 : w1.cell? ⟨H, 2, none⟩ = some (.slice a1 n1 c1) := HG1.out.cell 2 (by rw [← HC.out]; rfl)
    have Hao := Lib.hid (allOne_any j a1 n1 c1 ctl w1 (HI.out.ext HG1.out.ext) Hc1.out Hc2.out Hct.out)
    cases hon : ons j ctl with
    | false =>
      rw [hon] at Hao
      have Hon := Lib.hid hon
      clear hon
      have Hof := Lib.hid (show ons (fl j (qn : Int)) ctl = false by rw [ons_fl Hne.out]; exact Hon.out)
      obtain ⟨co, hco, hRo, hlo⟩ := HG1.out.out.at Hlt.out
      have hio : (Tryd.prog.info? 59).map (·.size) = some co.length := by rw [hlo]; exact R_size
      have hil : (Tryd.prog.info? 59).map (·.size) = some cl'.length := by rw [hln']; exact R_size
      have HAd := Lib.hid (fun (wx : World) (hx : Ext w1 wx) => QAdd_nm co.toArray cl'.toArray _ _ P E wx (hRo.ext hx) (hRl'.ext hx) HP2.out (by have := HE2.out; omega) (HLm.out.grow (HG1.out.ext.trans hx).size))
      have lD := HG1.out.out.lt; have lb := HG1.out.src.lt
      clear hRo hRl' hln' hlo HR1
      go_wp2_with fail
      refine Hao.out.mono ?_
      rintro e w2 ⟨rfl, rfl⟩
      clear Hao f2
      go_upto_region 7 with fail
      have hd0 : Ext w2 w2.drew := Below.drew (Ext.refl _)
      refine wp_region_K 12 (fun w' => w'.rangeAt (H + 1) (j * 17) co ∧ w'.rangeAt b (j * 17) cl') (by kernel_rfl) ?_
      show anyK _ _ _ _ _ _ 13 #[false, false, false, false, false, false, false, false, false, false, false, false, false] _ _
      have hHeld : w2.drew.rangeAt (H + 1) (j * 17) co ∧ w2.drew.rangeAt b (j * 17) cl' := ⟨range_keep hco lD hd0, range_keep hcl lb hd0⟩
      refine anyK_take (i := 0) (v := ?_) rfl (by kernel_rfl) (by kernel_rfl) (by kernel_rfl) (N := 13) (by kernel_rfl) (by kernel_rfl) (by kernel_rfl) (fun _ _ _ h => h) (Or.inl ⟨by rfl, ?_⟩) hHeld ?_
      rotate_left 1
      · intro w hSw
        go_simp
        try with_reducible rfl
      show anyK _ _ _ _ _ _ _ _ (Act.put _ (some 28) _) _
      simp only [Act.put, List.setIfInBounds_toArray, List.set_cons_zero, List.set_cons_succ]
      refine anyK_take (i := 1) (v := ?_) rfl (by kernel_rfl) (by kernel_rfl) (by kernel_rfl) (N := 13) (by kernel_rfl) (by kernel_rfl) (by kernel_rfl) (fun _ _ _ h => h) (Or.inl ⟨by rfl, ?_⟩) hHeld ?_
      rotate_left 1
      · intro w hSw
        go_simp
        try with_reducible rfl
      show anyK _ _ _ _ _ _ _ _ (Act.put _ (some 29) _) _
      simp only [Act.put, List.setIfInBounds_toArray, List.set_cons_zero, List.set_cons_succ]
      refine anyK_take (i := 2) (v := ?_) rfl (by kernel_rfl) (by kernel_rfl) (by kernel_rfl) (N := 13) (by kernel_rfl) (by kernel_rfl) (by kernel_rfl) (fun _ _ _ h => h) (Or.inl ⟨by rfl, ?_⟩) hHeld ?_
      rotate_left 1
      · intro w hSw
        go_simp
        try with_reducible rfl
      show anyK _ _ _ _ _ _ _ _ (Act.put _ (some 30) _) _
      simp only [Act.put, List.setIfInBounds_toArray, List.set_cons_zero, List.set_cons_succ]
      refine anyK_take (i := 3) (v := ?_) rfl (by kernel_rfl) (by kernel_rfl) (by kernel_rfl) (N := 13) (by kernel_rfl) (by kernel_rfl) (by kernel_rfl) (fun _ _ _ h => h) (Or.inl ⟨by rfl, ?_⟩) hHeld ?_
      rotate_left 1
      · intro w hSw
        go_simp
        try with_reducible rfl
      show anyK _ _ _ _ _ _ _ _ (Act.put _ (some 31) _) _
      simp only [Act.put, List.setIfInBounds_toArray, List.set_cons_zero, List.set_cons_succ]
      refine anyK_take (i := 4) (v := ?_) rfl (by kernel_rfl) (by kernel_rfl) (by kernel_rfl) (N := 13) (by kernel_rfl) (by kernel_rfl) (by kernel_rfl) (fun _ _ _ h => h) (Or.inl ⟨by rfl, ?_⟩) hHeld ?_
      rotate_left 1
      · intro w hSw
        go_simp
        try with_reducible rfl
      show anyK _ _ _ _ _ _ _ _ (Act.put _ (some 32) _) _
      simp only [Act.put, List.setIfInBounds_toArray, List.set_cons_zero, List.set_cons_succ]
      refine anyK_take (i := 5) (v := .agg co.toArray) rfl (by kernel_rfl) (by kernel_rfl) (by kernel_rfl) (N := 13) (by kernel_rfl) (by kernel_rfl) (by kernel_rfl) (fun _ _ _ h => h) (yieldsIf_load_mid (by rfl) 59 _ rfl (H + 1) (j * 17) rfl co _ (fun _ h => h.1) Tryd.underlying59 rfl hio) hHeld ?_
      show anyK _ _ _ _ _ _ _ _ (Act.put _ (some 33) _) _
      simp only [Act.put, List.setIfInBounds_toArray, List.set_cons_zero, List.set_cons_succ]
      refine anyK_take (i := 6) (v := ?_) rfl (by kernel_rfl) (by kernel_rfl) (by kernel_rfl) (N := 13) (by kernel_rfl) (by kernel_rfl) (by kernel_rfl) (fun _ _ _ h => h) (Or.inl ⟨by rfl, ?_⟩) hHeld ?_
      rotate_left 1
      · intro w hSw
        go_simp
        try with_reducible rfl
      show anyK _ _ _ _ _ _ _ _ (Act.put _ (some 34) _) _
      simp only [Act.put, List.setIfInBounds_toArray, List.set_cons_zero, List.set_cons_succ]
      refine anyK_take (i := 7) (v := ?_) rfl (by kernel_rfl) (by kernel_rfl) (by kernel_rfl) (N := 13) (by kernel_rfl) (by kernel_rfl) (by kernel_rfl) (fun _ _ _ h => h) (Or.inl ⟨by rfl, ?_⟩) hHeld ?_
      rotate_left 1
      · intro w hSw
        go_simp
        try with_reducible rfl
      show anyK _ _ _ _ _ _ _ _ (Act.put _ (some 35) _) _
      simp only [Act.put, List.setIfInBounds_toArray, List.set_cons_zero, List.set_cons_succ]
      refine anyK_take (i := 8) (v := ?_) rfl (by kernel_rfl) (by kernel_rfl) (by kernel_rfl) (N := 13) (by kernel_rfl) (by kernel_rfl) (by kernel_rfl) (fun _ _ _ h => h) (Or.inl ⟨by rfl, ?_⟩) hHeld ?_
      rotate_left 1
      · intro w hSw
        go_simp
        try with_reducible rfl
      show anyK _ _ _ _ _ _ _ _ (Act.put _ (some 36) _) _
      simp only [Act.put, List.setIfInBounds_toArray, List.set_cons_zero, List.set_cons_succ]
      refine anyK_take (i := 9) (v := .agg cl'.toArray) rfl (by kernel_rfl) (by kernel_rfl) (by kernel_rfl) (N := 13) (by kernel_rfl) (by kernel_rfl) (by kernel_rfl) (fun _ _ _ h => h) (yieldsIf_load_mid (by rfl) 59 _ rfl b (j * 17) rfl cl' _ (fun _ h => h.2) Tryd.underlying59 rfl hil) hHeld ?_
      show anyK _ _ _ _ _ _ _ _ (Act.put _ (some 37) _) _
      simp only [Act.put, List.setIfInBounds_toArray, List.set_cons_zero, List.set_cons_succ]
      clear hHeld
      refine anyK_one (i := 10) (by kernel_rfl) rfl (fun Kk hKk => ?_)
      go_simp
      (go_at_call 60; refine (HAd.out w2.drew hd0).mono ?_; rintro e w3 ⟨cr, z, rfl, hcr, hy, hx3⟩)
      have he3 := hd0.trans hx3
      go_wp2_with fail
      refine hKk.out _ _ (fun _ => ⟨range_keep hco lD he3, range_keep hcl lb he3⟩) ?_
      clear hKk Kk
      simp only [List.setIfInBounds_toArray, List.set_cons_zero, List.set_cons_succ]
      have hHeld : w3.rangeAt (H + 1) (j * 17) co ∧ w3.rangeAt b (j * 17) cl' := ⟨range_keep hco lD he3, range_keep hcl lb he3⟩
      refine anyK_take (i := 11) (v := ?_) rfl (by kernel_rfl) (by kernel_rfl) (by kernel_rfl) (N := 13) (by kernel_rfl) (by kernel_rfl) (by kernel_rfl) (fun _ _ _ h => h) (Or.inl ⟨by rfl, ?_⟩) hHeld ?_
      rotate_left 1
      · intro w hSw
        go_simp
        try with_reducible rfl
      show anyK _ _ _ _ _ _ _ _ (Act.put _ (some 39) _) _
      simp only [Act.put, List.setIfInBounds_toArray, List.set_cons_zero, List.set_cons_succ]
      clear hHeld
      have hzz : z = s j := eq_z_add hcr.low (HA.out j).low (by rw [gp_self_plain (o := o) (s := s) (by rw [Hctl.out]; exact Hon.out)] at hy; exact hy)
      have hz : RmA Qc w3 cr (s j) P E := (hzz ▸ hcr).amp (HA.out j) (by have := HP.out; omega) (by have := HE.out; omega)
      have ht : w3.there (H + 1) (j * 17) cr.size := by rw [hcr.size]; exact (HG1.out.more he3).out.there Hlt.out
      have hinf := hcr.info; have hone := hcr.val.one
      have HG4 := Lib.hid ((HG1.out.more he3).put (g' := gp o s (j + 1)) Hlt.out hz (by have := HbH.out; omega) (by omega) (by rw [HH.out]; omega) (gp_plain (by rw [Hctl.out]; exact Hon.out) (by rw [Hctl.out, Hq.out]; exact Hof.out)))
      clear hz hcr
      refine anyK_one (i := 12) (by kernel_rfl) rfl (fun Kk hKk => ?_)
      refine stepK_storeM rfl rfl 59 _ _ rfl (H + 1) (j * 17) cr rfl rfl ht hinf hone ?_
      refine hKk.out _ _ (fun h => Bool.noConfusion (show true = false from h)) ?_
      clear hKk Kk
      simp only [List.setIfInBounds_toArray, List.set_cons_zero, List.set_cons_succ]
      refine anyK_done (by kernel_rfl) ?_ _
      clear ht hinf hone he3 hd0
      generalize w3.setCells (H + 1) (j * 17) cr.toList = w4 at *
      clear hco hcl hio hil lD lb HAd HG1 hy hzz hx3
      go_wp2_with fail
      go_roundg (m - (j + 1))
      case measure => have := Hkk.out; have := Hlt.out; omega
      case rel => exact ⟨j + 1, rfl, Hlt.out, rfl, HG4.out⟩
    | true =>
      rw [hon] at Hao
      have Hon := Lib.hid hon
      clear hon
      have Hof := Lib.hid (show ons (fl j (qn : Int)) ctl = true by rw [ons_fl Hne.out]; exact Hon.out)
      have hq40 : qn ≤ 40 := by have h1 := Hqn.out; have h2 := Hn.out; have h3 : (qn : Int).toNat = qn := rfl; omega
      obtain ⟨t, ht⟩ : ∃ t : Nat, 2 ^ qn = t := ⟨_, rfl⟩
      have hs8 : wrap64 (2 ^ min qn 64) = (t : Int) := by rw [← ht]; exact shl1 hq40
      obtain ⟨y, hy⟩ : ∃ y : Nat, fl j (qn : Int) = y := ⟨_, rfl⟩
      have hyt : j ^^^ t = y := by rw [← hy, ← ht]; rfl
      have hyj : y ≠ j := by rw [← hy]; exact fl_ne _ _
      have hym : y < m := by rw [← hy, ← Hm.out]; exact fl_lt (by rw [Hm.out]; exact Hlt.out) Hqn.out
      have htm : t < 4097 := by rw [← ht]; have h1 : qn ≤ 12 := (by have h1 := Hqn.out; have h2 := Hn.out; have h3 : (qn : Int).toNat = qn := rfl; omega); have h2 : 2 ^ qn ≤ 2 ^ 12 := Nat.pow_le_pow_right (by decide) h1; have h3 : (2 : Nat) ^ 12 = 4096 := (by decide); omega
      have hx8 : bits .xor .i64 (j : Int) (t : Int) = (y : Int) := by rw [xor_i64 j t (by have := Hlt.out; have := Hm2.out; omega) (by omega), hyt]
      have y0 : (0 : Int) ≤ (y : Int) := by omega
      have y1 : (y : Int) < (m : Int) := by omega
      have qz : (0 : Int) ≤ (qn : Int) := by omega
      have Hyf := Lib.hid hy; have Hyj := Lib.hid hyj; have Hym := Lib.hid hym
      have hq60 : (qn : Int) ≤ 60 := by omega
      have Hb := Lib.hid (fun (wx : World) => bitOf_st j (qn : Int) wx qz hq60)
      rw [Hyf.out] at Hof
      clear hy hyj hym htm ht hyt hq40 hq60
      have hil : (Tryd.prog.info? 59).map (·.size) = some cl'.length := by rw [hln']; exact R_size
      have HRl := Lib.hid hRl'; have Hln' := Lib.hid hln'
      clear hRl' hln' HR1
      have f0 : w1.cell? ⟨H, 0, none⟩ = some (.int .i64 kd) := HG1.out.cell 0 (by rw [← HC.out]; rfl)
      have f3 : w1.cell? ⟨H, 3, none⟩ = some (.int .i64 (qn : Int)) := HG1.out.cell 3 (by rw [← HC.out]; rfl)
      have lD := HG1.out.out.lt; have lb := HG1.out.src.lt
      by_cases e1 : kd = 1
      · subst e1
        have HTu := Lib.hid (fun (wx : World) (hx : Ext w1 wx) => QTurn_nm cl'.toArray _ P E k wx (HRl.out.ext hx) (by have := HP2.out; omega))
        have f1 : w1.cell? ⟨H, 1, none⟩ = some (.int .i64 k) := HG1.out.cell 1 (by rw [← HC.out]; rfl)
        have lH := (Array.getElem?_eq_some_iff.1 HG1.out.box).1
        go_wp2_with fail
        refine Hao.out.mono ?_
        rintro e w2 ⟨rfl, rfl⟩
        clear Hao f2
        go_upto_region 10 with fail
        have hd0 : Ext w2 w2.drew := Below.drew (Ext.refl _)
        refine wp_region_K 10 (fun w' => w'.rangeAt b (j * 17) cl' ∧ w'.cell? ⟨H, 1, none⟩ = some (.int .i64 k)) (by kernel_rfl) ?_
        show anyK _ _ _ _ _ _ 11 #[false, false, false, false, false, false, false, false, false, false, false] _ _
        have hHeld : w2.drew.rangeAt b (j * 17) cl' ∧ w2.drew.cell? ⟨H, 1, none⟩ = some (.int .i64 k) := ⟨range_keep hcl lb hd0, cellKeep hd0 lH f1⟩
        refine anyK_take (i := 0) (v := ?_) rfl (by kernel_rfl) (by kernel_rfl) (by kernel_rfl) (N := 11) (by kernel_rfl) (by kernel_rfl) (by kernel_rfl) (fun _ _ _ h => h) (Or.inl ⟨by rfl, ?_⟩) hHeld ?_
        rotate_left 1
        · intro w hSw
          go_simp
          try with_reducible rfl
        show anyK _ _ _ _ _ _ _ _ (Act.put _ (some 60) _) _
        simp only [Act.put, List.setIfInBounds_toArray, List.set_cons_zero, List.set_cons_succ]
        refine anyK_take (i := 1) (v := ?_) rfl (by kernel_rfl) (by kernel_rfl) (by kernel_rfl) (N := 11) (by kernel_rfl) (by kernel_rfl) (by kernel_rfl) (fun _ _ _ h => h) (Or.inl ⟨by rfl, ?_⟩) hHeld ?_
        rotate_left 1
        · intro w hSw
          go_simp
          try with_reducible rfl
        show anyK _ _ _ _ _ _ _ _ (Act.put _ (some 61) _) _
        simp only [Act.put, List.setIfInBounds_toArray, List.set_cons_zero, List.set_cons_succ]
        refine anyK_take (i := 2) (v := ?_) rfl (by kernel_rfl) (by kernel_rfl) (by kernel_rfl) (N := 11) (by kernel_rfl) (by kernel_rfl) (by kernel_rfl) (fun _ _ _ h => h) (Or.inl ⟨by rfl, ?_⟩) hHeld ?_
        rotate_left 1
        · intro w hSw
          go_simp
          try with_reducible rfl
        show anyK _ _ _ _ _ _ _ _ (Act.put _ (some 62) _) _
        simp only [Act.put, List.setIfInBounds_toArray, List.set_cons_zero, List.set_cons_succ]
        refine anyK_take (i := 3) (v := ?_) rfl (by kernel_rfl) (by kernel_rfl) (by kernel_rfl) (N := 11) (by kernel_rfl) (by kernel_rfl) (by kernel_rfl) (fun _ _ _ h => h) (Or.inl ⟨by rfl, ?_⟩) hHeld ?_
        rotate_left 1
        · intro w hSw
          go_simp
          try with_reducible rfl
        show anyK _ _ _ _ _ _ _ _ (Act.put _ (some 63) _) _
        simp only [Act.put, List.setIfInBounds_toArray, List.set_cons_zero, List.set_cons_succ]
        refine anyK_take (i := 4) (v := ?_) rfl (by kernel_rfl) (by kernel_rfl) (by kernel_rfl) (N := 11) (by kernel_rfl) (by kernel_rfl) (by kernel_rfl) (fun _ _ _ h => h) (Or.inl ⟨by rfl, ?_⟩) hHeld ?_
        rotate_left 1
        · intro w hSw
          go_simp
          try with_reducible rfl
        show anyK _ _ _ _ _ _ _ _ (Act.put _ (some 64) _) _
        simp only [Act.put, List.setIfInBounds_toArray, List.set_cons_zero, List.set_cons_succ]
        refine anyK_take (i := 5) (v := .agg cl'.toArray) rfl (by kernel_rfl) (by kernel_rfl) (by kernel_rfl) (N := 11) (by kernel_rfl) (by kernel_rfl) (by kernel_rfl) (fun _ _ _ h => h) (yieldsIf_load_mid (by rfl) 59 _ rfl b (j * 17) rfl cl' _ (fun _ h => h.1) Tryd.underlying59 rfl hil) hHeld ?_
        show anyK _ _ _ _ _ _ _ _ (Act.put _ (some 65) _) _
        simp only [Act.put, List.setIfInBounds_toArray, List.set_cons_zero, List.set_cons_succ]
        refine anyK_take (i := 6) (v := ?_) rfl (by kernel_rfl) (by kernel_rfl) (by kernel_rfl) (N := 11) (by kernel_rfl) (by kernel_rfl) (by kernel_rfl) (fun _ _ _ h => h) (Or.inl ⟨by rfl, ?_⟩) hHeld ?_
        rotate_left 1
        · intro w hSw
          go_simp
          try with_reducible rfl
        show anyK _ _ _ _ _ _ _ _ (Act.put _ (some 66) _) _
        simp only [Act.put, List.setIfInBounds_toArray, List.set_cons_zero, List.set_cons_succ]
        refine anyK_take (i := 7) (v := ?_) rfl (by kernel_rfl) (by kernel_rfl) (by kernel_rfl) (N := 11) (by kernel_rfl) (by kernel_rfl) (by kernel_rfl) (fun _ _ _ h => h) (Or.inl ⟨by rfl, ?_⟩) hHeld ?_
        rotate_left 1
        · intro w hSw
          go_simp
          try with_reducible rfl
        show anyK _ _ _ _ _ _ _ _ (Act.put _ (some 67) _) _
        simp only [Act.put, List.setIfInBounds_toArray, List.set_cons_zero, List.set_cons_succ]
        clear hHeld
        refine anyK_one (i := 8) (by kernel_rfl) rfl (fun Kk hKk => ?_)
        go_simp
        (go_at_call 62; refine (HTu.out w2.drew hd0).mono ?_; rintro e w3 ⟨cr, rfl, hcr, hx3⟩)
        have he3 := hd0.trans hx3
        go_wp2_with fail
        refine hKk.out _ _ (fun _ => ⟨range_keep hcl lb he3, cellKeep he3 lH f1⟩) ?_
        clear hKk Kk
        simp only [List.setIfInBounds_toArray, List.set_cons_zero, List.set_cons_succ]
        have hHeld : w3.rangeAt b (j * 17) cl' ∧ w3.cell? ⟨H, 1, none⟩ = some (.int .i64 k) := ⟨range_keep hcl lb he3, cellKeep he3 lH f1⟩
        refine anyK_take (i := 9) (v := ?_) rfl (by kernel_rfl) (by kernel_rfl) (by kernel_rfl) (N := 11) (by kernel_rfl) (by kernel_rfl) (by kernel_rfl) (fun _ _ _ h => h) (Or.inl ⟨by rfl, ?_⟩) hHeld ?_
        rotate_left 1
        · intro w hSw
          go_simp
          try with_reducible rfl
        show anyK _ _ _ _ _ _ _ _ (Act.put _ (some 69) _) _
        simp only [Act.put, List.setIfInBounds_toArray, List.set_cons_zero, List.set_cons_succ]
        clear hHeld
        have hz : RmA Qc w3 cr (nTr k (s j)) P E := hcr.amp ((HA.out j).tr k) (by have := HP.out; omega) (by have := HE.out; omega)
        have ht : w3.there (H + 1) (j * 17) cr.size := by rw [hcr.size]; exact (HG1.out.more he3).out.there Hlt.out
        have hinf := hcr.info; have hone := hcr.val.one
        have HG4 := Lib.hid ((HG1.out.more he3).put (g' := gp o s (j + 1)) Hlt.out hz (by have := HbH.out; omega) (by omega) (by rw [HH.out]; omega) (fun y => by rw [gp_turn (by rw [Hctl.out]; exact Hon.out) (Or.inl Hkd.out), Hk.out]))
        clear hz hcr
        refine anyK_one (i := 10) (by kernel_rfl) rfl (fun Kk hKk => ?_)
        refine stepK_storeM rfl rfl 59 _ _ rfl (H + 1) (j * 17) cr rfl rfl ht hinf hone ?_
        refine hKk.out _ _ (fun h => Bool.noConfusion (show true = false from h)) ?_
        clear hKk Kk
        simp only [List.setIfInBounds_toArray, List.set_cons_zero, List.set_cons_succ]
        refine anyK_done (by kernel_rfl) ?_ _
        clear ht hinf hone he3 hd0
        generalize w3.setCells (H + 1) (j * 17) cr.toList = w4 at *
        clear hcl hil lD lb lH f1 HTu HG1 hx3
        go_wp2_with fail
        go_roundg (m - (j + 1))
        case measure => have := Hkk.out; have := Hlt.out; omega
        case rel => exact ⟨j + 1, rfl, Hlt.out, rfl, HG4.out⟩
      have kn1 : (kd == 1) = false := by simpa using e1
      by_cases e4 : kd = 4
      · subst e4
        cases hbt : bt j (qn : Int) with
        | true =>
          have HTu := Lib.hid (fun (wx : World) (hx : Ext w1 wx) => QTurn_nm cl'.toArray _ P E k wx (HRl.out.ext hx) (by have := HP2.out; omega))
          have f1 : w1.cell? ⟨H, 1, none⟩ = some (.int .i64 k) := HG1.out.cell 1 (by rw [← HC.out]; rfl)
          have lH := (Array.getElem?_eq_some_iff.1 HG1.out.box).1
          rw [hbt] at Hb
          have Hbt := Lib.hid hbt
          clear hbt
          go_wp2_with fail
          refine Hao.out.mono ?_
          rintro e w2 ⟨rfl, rfl⟩
          clear Hao f2
          go_wp2_with fail
          refine (Hb.out w2).mono ?_
          rintro e w5 ⟨rfl, rfl⟩
          go_upto_region 10 with fail
          have hd0 : Ext w5 w5.drew := Below.drew (Ext.refl _)
          refine wp_region_K 10 (fun w' => w'.rangeAt b (j * 17) cl' ∧ w'.cell? ⟨H, 1, none⟩ = some (.int .i64 k)) (by kernel_rfl) ?_
          show anyK _ _ _ _ _ _ 11 #[false, false, false, false, false, false, false, false, false, false, false] _ _
          have hHeld : w5.drew.rangeAt b (j * 17) cl' ∧ w5.drew.cell? ⟨H, 1, none⟩ = some (.int .i64 k) := ⟨range_keep hcl lb hd0, cellKeep hd0 lH f1⟩
          refine anyK_take (i := 0) (v := ?_) rfl (by kernel_rfl) (by kernel_rfl) (by kernel_rfl) (N := 11) (by kernel_rfl) (by kernel_rfl) (by kernel_rfl) (fun _ _ _ h => h) (Or.inl ⟨by rfl, ?_⟩) hHeld ?_
          rotate_left 1
          · intro w hSw
            go_simp
            try with_reducible rfl
          show anyK _ _ _ _ _ _ _ _ (Act.put _ (some 60) _) _
          simp only [Act.put, List.setIfInBounds_toArray, List.set_cons_zero, List.set_cons_succ]
          refine anyK_take (i := 1) (v := ?_) rfl (by kernel_rfl) (by kernel_rfl) (by kernel_rfl) (N := 11) (by kernel_rfl) (by kernel_rfl) (by kernel_rfl) (fun _ _ _ h => h) (Or.inl ⟨by rfl, ?_⟩) hHeld ?_
          rotate_left 1
          · intro w hSw
            go_simp
            try with_reducible rfl
          show anyK _ _ _ _ _ _ _ _ (Act.put _ (some 61) _) _
          simp only [Act.put, List.setIfInBounds_toArray, List.set_cons_zero, List.set_cons_succ]
          refine anyK_take (i := 2) (v := ?_) rfl (by kernel_rfl) (by kernel_rfl) (by kernel_rfl) (N := 11) (by kernel_rfl) (by kernel_rfl) (by kernel_rfl) (fun _ _ _ h => h) (Or.inl ⟨by rfl, ?_⟩) hHeld ?_
          rotate_left 1
          · intro w hSw
            go_simp
            try with_reducible rfl
          show anyK _ _ _ _ _ _ _ _ (Act.put _ (some 62) _) _
          simp only [Act.put, List.setIfInBounds_toArray, List.set_cons_zero, List.set_cons_succ]
          refine anyK_take (i := 3) (v := ?_) rfl (by kernel_rfl) (by kernel_rfl) (by kernel_rfl) (N := 11) (by kernel_rfl) (by kernel_rfl) (by kernel_rfl) (fun _ _ _ h => h) (Or.inl ⟨by rfl, ?_⟩) hHeld ?_
          rotate_left 1
          · intro w hSw
            go_simp
            try with_reducible rfl
          show anyK _ _ _ _ _ _ _ _ (Act.put _ (some 63) _) _
          simp only [Act.put, List.setIfInBounds_toArray, List.set_cons_zero, List.set_cons_succ]
          refine anyK_take (i := 4) (v := ?_) rfl (by kernel_rfl) (by kernel_rfl) (by kernel_rfl) (N := 11) (by kernel_rfl) (by kernel_rfl) (by kernel_rfl) (fun _ _ _ h => h) (Or.inl ⟨by rfl, ?_⟩) hHeld ?_
          rotate_left 1
          · intro w hSw
            go_simp
            try with_reducible rfl
          show anyK _ _ _ _ _ _ _ _ (Act.put _ (some 64) _) _
          simp only [Act.put, List.setIfInBounds_toArray, List.set_cons_zero, List.set_cons_succ]
          refine anyK_take (i := 5) (v := .agg cl'.toArray) rfl (by kernel_rfl) (by kernel_rfl) (by kernel_rfl) (N := 11) (by kernel_rfl) (by kernel_rfl) (by kernel_rfl) (fun _ _ _ h => h) (yieldsIf_load_mid (by rfl) 59 _ rfl b (j * 17) rfl cl' _ (fun _ h => h.1) Tryd.underlying59 rfl hil) hHeld ?_
          show anyK _ _ _ _ _ _ _ _ (Act.put _ (some 65) _) _
          simp only [Act.put, List.setIfInBounds_toArray, List.set_cons_zero, List.set_cons_succ]
          refine anyK_take (i := 6) (v := ?_) rfl (by kernel_rfl) (by kernel_rfl) (by kernel_rfl) (N := 11) (by kernel_rfl) (by kernel_rfl) (by kernel_rfl) (fun _ _ _ h => h) (Or.inl ⟨by rfl, ?_⟩) hHeld ?_
          rotate_left 1
          · intro w hSw
            go_simp
            try with_reducible rfl
          show anyK _ _ _ _ _ _ _ _ (Act.put _ (some 66) _) _
          simp only [Act.put, List.setIfInBounds_toArray, List.set_cons_zero, List.set_cons_succ]
          refine anyK_take (i := 7) (v := ?_) rfl (by kernel_rfl) (by kernel_rfl) (by kernel_rfl) (N := 11) (by kernel_rfl) (by kernel_rfl) (by kernel_rfl) (fun _ _ _ h => h) (Or.inl ⟨by rfl, ?_⟩) hHeld ?_
          rotate_left 1
          · intro w hSw
            go_simp
            try with_reducible rfl
          show anyK _ _ _ _ _ _ _ _ (Act.put _ (some 67) _) _
          simp only [Act.put, List.setIfInBounds_toArray, List.set_cons_zero, List.set_cons_succ]
          clear hHeld
          refine anyK_one (i := 8) (by kernel_rfl) rfl (fun Kk hKk => ?_)
          go_simp
          (go_at_call 62; refine (HTu.out w5.drew hd0).mono ?_; rintro e w3 ⟨cr, rfl, hcr, hx3⟩)
          have he3 := hd0.trans hx3
          go_wp2_with fail
          refine hKk.out _ _ (fun _ => ⟨range_keep hcl lb he3, cellKeep he3 lH f1⟩) ?_
          clear hKk Kk
          simp only [List.setIfInBounds_toArray, List.set_cons_zero, List.set_cons_succ]
          have hHeld : w3.rangeAt b (j * 17) cl' ∧ w3.cell? ⟨H, 1, none⟩ = some (.int .i64 k) := ⟨range_keep hcl lb he3, cellKeep he3 lH f1⟩
          refine anyK_take (i := 9) (v := ?_) rfl (by kernel_rfl) (by kernel_rfl) (by kernel_rfl) (N := 11) (by kernel_rfl) (by kernel_rfl) (by kernel_rfl) (fun _ _ _ h => h) (Or.inl ⟨by rfl, ?_⟩) hHeld ?_
          rotate_left 1
          · intro w hSw
            go_simp
            try with_reducible rfl
          show anyK _ _ _ _ _ _ _ _ (Act.put _ (some 69) _) _
          simp only [Act.put, List.setIfInBounds_toArray, List.set_cons_zero, List.set_cons_succ]
          clear hHeld
          have hz : RmA Qc w3 cr (nTr k (s j)) P E := hcr.amp ((HA.out j).tr k) (by have := HP.out; omega) (by have := HE.out; omega)
          have ht : w3.there (H + 1) (j * 17) cr.size := by rw [hcr.size]; exact (HG1.out.more he3).out.there Hlt.out
          have hinf := hcr.info; have hone := hcr.val.one
          have HG4 := Lib.hid ((HG1.out.more he3).put (g' := gp o s (j + 1)) Hlt.out hz (by have := HbH.out; omega) (by omega) (by rw [HH.out]; omega) (fun y => by rw [gp_turn (by rw [Hctl.out]; exact Hon.out) (Or.inr ⟨Hkd.out, by rw [Hq.out]; exact Hbt.out⟩), Hk.out]))
          clear hz hcr
          refine anyK_one (i := 10) (by kernel_rfl) rfl (fun Kk hKk => ?_)
          refine stepK_storeM rfl rfl 59 _ _ rfl (H + 1) (j * 17) cr rfl rfl ht hinf hone ?_
          refine hKk.out _ _ (fun h => Bool.noConfusion (show true = false from h)) ?_
          clear hKk Kk
          simp only [List.setIfInBounds_toArray, List.set_cons_zero, List.set_cons_succ]
          refine anyK_done (by kernel_rfl) ?_ _
          clear ht hinf hone he3 hd0
          generalize w3.setCells (H + 1) (j * 17) cr.toList = w4 at *
          clear hcl hil lD lb lH f1 HTu HG1 hx3
          go_wp2_with fail
          go_roundg (m - (j + 1))
          case measure => have := Hkk.out; have := Hlt.out; omega
          case rel => exact ⟨j + 1, rfl, Hlt.out, rfl, HG4.out⟩
        | false =>
          rw [hbt] at Hb
          have Hbt := Lib.hid hbt
          clear hbt
          have ht : w1.there (H + 1) (j * 17) cl'.toArray.size := by rw [HRl.out.size]; exact HG1.out.out.there Hlt.out
          have hinf := HRl.out.info; have hone := HRl.out.val.one
          have HG4 := Lib.hid (HG1.out.put (g' := gp o s (j + 1)) Hlt.out HRl.out (by have := HbH.out; omega) (by omega) (by rw [HH.out]; omega) (gp_keep (by rw [Hctl.out]; exact Hon.out) Hkd.out (by rw [Hq.out]; exact Hbt.out)))
          go_wp2_with fail
          refine Hao.out.mono ?_
          rintro e w2 ⟨rfl, rfl⟩
          clear Hao f2
          go_wp2_with fail
          refine (Hb.out w2).mono ?_
          rintro e w5 ⟨rfl, rfl⟩
          go_wp2_with (first | refine wpList_load_mid rfl 59 _ rfl b (j * 17) rfl cl' _ hcl Tryd.underlying59 rfl hil ?_ | refine wpList_store_mid rfl 59 _ _ rfl (H + 1) (j * 17) cl'.toArray rfl rfl ht hinf hone ?_)
          go_roundg (m - (j + 1))
          case measure => have := Hkk.out; have := Hlt.out; omega
          case rel => exact ⟨j + 1, rfl, Hlt.out, rfl, HG4.out⟩
      have kn4 : (kd == 4) = false := by simpa using e4
      by_cases e2 : kd = 2
      · subst e2
        have ht : w1.there (H + 1) (y * 17) cl'.toArray.size := by rw [HRl.out.size]; exact HG1.out.out.there Hym.out
        have hinf := HRl.out.info; have hone := HRl.out.val.one
        have HG4 := Lib.hid (HG1.out.put (g' := gp o s (j + 1)) Hym.out HRl.out (by have := HbH.out; omega) (by omega) (by rw [HH.out]; omega) (fun y' => by rw [gp_swap (by rw [Hctl.out, Hq.out, Hyf.out]; exact Hof.out) (by rw [Hctl.out]; exact Hon.out) Hkd.out, Hq.out, Hyf.out]))
        go_wp2_with fail
        refine Hao.out.mono ?_
        rintro e w2 ⟨rfl, rfl⟩
        clear Hao f2
        go_wp2_with (first | refine wpList_load_mid rfl 59 _ rfl b (j * 17) rfl cl' _ hcl Tryd.underlying59 rfl hil ?_ | refine wpList_store_mid rfl 59 _ _ rfl (H + 1) (y * 17) cl'.toArray rfl rfl ht hinf hone ?_)
        go_roundg (m - (j + 1))
        case measure => have := Hkk.out; have := Hlt.out; omega
        case rel => exact ⟨j + 1, rfl, Hlt.out, rfl, HG4.out⟩
      have kn2 : (kd == 2) = false := by simpa using e2
      have HHf := Lib.hid (fun (wx : World) (hx : Ext w1 wx) => QHalf_nm cl'.toArray _ P E wx (HRl.out.ext hx) HP2.out (by have := HE2.out; omega) (HLm.out.grow (HG1.out.ext.trans hx).size))
      have Hnk := Lib.hid (show o.kind ≠ 1 ∧ o.kind ≠ 4 ∧ o.kind ≠ 2 from ⟨by rw [Hkd.out]; exact e1, by rw [Hkd.out]; exact e4, by rw [Hkd.out]; exact e2⟩)
      clear e1 e4 e2
      go_wp2_with fail
      refine Hao.out.mono ?_
      rintro e w2 ⟨rfl, rfl⟩
      clear Hao f2
      go_wp2_with (refine wpList_load_mid rfl 59 _ rfl b (j * 17) rfl cl' _ hcl Tryd.underlying59 rfl hil ?_)
      refine (HHf.out w2 (Ext.refl _)).mono ?_
      rintro e w5 ⟨ch, h, rfl, hch, hhf, hx5⟩
      have Z0 : ZVar Qc (w5.alloc (.cells zeroR 59)) w5.heap.size (fun _ => 0) 0 := by simpa using (zcs_zero (Qc := Qc) w5).box
      have hAh : Amp (N + 1) h := by
        have e : h = lw (nHf (nAdd (s j) nZ)) := lw_one hch.low (hhf.trans (EqN.hf (add_z (s j)).symm))
        rw [e]; exact (HA.out j).hf (Amp.zero N)
      obtain ⟨c9, hr9, hs9, hone, hinf, hrow, hzc, hE9⟩ := fin_rm (w := w5) (hch.val.ext (ext_alloc w5 (.cells zeroR 59))) Z0 (ext_alloc _ _) (Nat.le_refl _)
      have HG5 := Lib.hid (HG1.out.more (hx5.trans hE9))
      have HRh := Lib.hid (show RmA Qc ((w5.alloc (.cells zeroR 59)).setRow w5.heap.size ch) ch h P E from RmA.amp ⟨hch.anti, hch.low, hch.abs, hch.down, hzc⟩ hAh (by have := HP.out; omega) (by have := HE.out; omega))
      have HAh := Lib.hid hAh; have Hhf := Lib.hid hhf
      have hDG : H + 1 < w5.heap.size := Nat.lt_of_lt_of_le lD hx5.size
      have HDG := Lib.hid hDG
      clear hDG hzc hE9 hAh hhf hch Z0 HG1 HHf hx5 lD lb HRl
      go_wp2_with (refine wpList_store_row rfl 59 _ _ rfl w5.heap.size ch rfl rfl 59 _ hr9 hinf hs9 hone ?_)
      obtain ⟨G, hG⟩ : ∃ G, w5.heap.size = G := ⟨_, rfl⟩
      obtain ⟨w6, h6⟩ : ∃ w6, (w5.alloc (.cells zeroR 59)).setRow G ch = w6 := ⟨_, rfl⟩
      rw [hG] at HG5 HRh hrow HDG ⊢
      rw [h6] at HG5 HRh hrow ⊢
      clear h6 hr9 hs9 hone hinf hG
      simp only [Act.put]
      have Hrow := Lib.hid hrow
      have lG := (Array.getElem?_eq_some_iff.1 hrow).1; have lD := HG5.out.out.lt
      obtain ⟨co, hco, hRo, hlo⟩ := HG5.out.out.at Hym.out
      have hio : (Tryd.prog.info? 59).map (·.size) = some co.length := by rw [hlo]; exact R_size
      have hich := HRh.out.info
      have HAd := Lib.hid (fun (wx : World) (hx : Ext w6 wx) => QAdd_nm co.toArray ch _ _ P E wx (hRo.ext hx) (HRh.out.ext hx) HP2.out (by have := HE2.out; omega) (HLm.out.grow (HG5.out.ext.trans hx).size))
      clear hRo hlo hcl hil f0 f3
      have hd0 : Ext w6 w6.drew := Below.drew (Ext.refl _)
      refine wp_region_K 9 (fun w' => w'.rangeAt (H + 1) (y * 17) co ∧ w'.heap[G]? = some (.cells ch 59 (0, 0))) (by kernel_rfl) ?_
      show anyK _ _ _ _ _ _ 10 #[false, false, false, false, false, false, false, false, false, false] _ _
      have hHeld : w6.drew.rangeAt (H + 1) (y * 17) co ∧ w6.drew.heap[G]? = some (.cells ch 59 (0, 0)) := ⟨range_keep hco lD hd0, (hd0.block _ lG).trans Hrow.out⟩
      refine anyK_take (i := 0) (v := ?_) rfl (by kernel_rfl) (by kernel_rfl) (by kernel_rfl) (N := 10) (by kernel_rfl) (by kernel_rfl) (by kernel_rfl) (fun _ _ _ h => h) (Or.inl ⟨by rfl, ?_⟩) hHeld ?_
      rotate_left 1
      · intro w hSw
        go_simp
        try with_reducible rfl
      show anyK _ _ _ _ _ _ _ _ (Act.put _ (some 95) _) _
      simp only [Act.put, List.setIfInBounds_toArray, List.set_cons_zero, List.set_cons_succ]
      refine anyK_take (i := 1) (v := ?_) rfl (by kernel_rfl) (by kernel_rfl) (by kernel_rfl) (N := 10) (by kernel_rfl) (by kernel_rfl) (by kernel_rfl) (fun _ _ _ h => h) (Or.inl ⟨by rfl, ?_⟩) hHeld ?_
      rotate_left 1
      · intro w hSw
        go_simp
        try with_reducible rfl
      show anyK _ _ _ _ _ _ _ _ (Act.put _ (some 96) _) _
      simp only [Act.put, List.setIfInBounds_toArray, List.set_cons_zero, List.set_cons_succ]
      refine anyK_take (i := 2) (v := ?_) rfl (by kernel_rfl) (by kernel_rfl) (by kernel_rfl) (N := 10) (by kernel_rfl) (by kernel_rfl) (by kernel_rfl) (fun _ _ _ h => h) (Or.inl ⟨by rfl, ?_⟩) hHeld ?_
      rotate_left 1
      · intro w hSw
        go_simp
        try with_reducible rfl
      show anyK _ _ _ _ _ _ _ _ (Act.put _ (some 97) _) _
      simp only [Act.put, List.setIfInBounds_toArray, List.set_cons_zero, List.set_cons_succ]
      refine anyK_take (i := 3) (v := ?_) rfl (by kernel_rfl) (by kernel_rfl) (by kernel_rfl) (N := 10) (by kernel_rfl) (by kernel_rfl) (by kernel_rfl) (fun _ _ _ h => h) (Or.inl ⟨by rfl, ?_⟩) hHeld ?_
      rotate_left 1
      · intro w hSw
        go_simp
        try with_reducible rfl
      show anyK _ _ _ _ _ _ _ _ (Act.put _ (some 98) _) _
      simp only [Act.put, List.setIfInBounds_toArray, List.set_cons_zero, List.set_cons_succ]
      refine anyK_take (i := 4) (v := ?_) rfl (by kernel_rfl) (by kernel_rfl) (by kernel_rfl) (N := 10) (by kernel_rfl) (by kernel_rfl) (by kernel_rfl) (fun _ _ _ h => h) (Or.inl ⟨by rfl, ?_⟩) hHeld ?_
      rotate_left 1
      · intro w hSw
        go_simp
        try with_reducible rfl
      show anyK _ _ _ _ _ _ _ _ (Act.put _ (some 99) _) _
      simp only [Act.put, List.setIfInBounds_toArray, List.set_cons_zero, List.set_cons_succ]
      refine anyK_take (i := 5) (v := .agg co.toArray) rfl (by kernel_rfl) (by kernel_rfl) (by kernel_rfl) (N := 10) (by kernel_rfl) (by kernel_rfl) (by kernel_rfl) (fun _ _ _ h => h) (yieldsIf_load_mid (by rfl) 59 _ rfl (H + 1) (y * 17) rfl co _ (fun _ h => h.1) Tryd.underlying59 rfl hio) hHeld ?_
      show anyK _ _ _ _ _ _ _ _ (Act.put _ (some 100) _) _
      simp only [Act.put, List.setIfInBounds_toArray, List.set_cons_zero, List.set_cons_succ]
      refine anyK_take (i := 6) (v := .agg ch) rfl (by kernel_rfl) (by kernel_rfl) (by kernel_rfl) (N := 10) (by kernel_rfl) (by kernel_rfl) (by kernel_rfl) (fun _ _ _ h => h) (Or.inl ⟨by rfl, fun _ h => exec_load_row 59 _ rfl G rfl 59 _ (0, 0) _ (h.2) Tryd.underlying59 rfl hich⟩) hHeld ?_
      show anyK _ _ _ _ _ _ _ _ (Act.put _ (some 101) _) _
      simp only [Act.put, List.setIfInBounds_toArray, List.set_cons_zero, List.set_cons_succ]
      clear hHeld
      refine anyK_one (i := 7) (by kernel_rfl) rfl (fun Kk hKk => ?_)
      go_simp
      (go_at_call 60; refine (HAd.out w6.drew hd0).mono ?_; rintro e w3 ⟨cr, z, rfl, hcr, hyy, hx3⟩)
      have he3 := hd0.trans hx3
      go_wp2_with fail
      refine hKk.out _ _ (fun _ => ⟨range_keep hco lD he3, (he3.block _ lG).trans Hrow.out⟩) ?_
      clear hKk Kk
      simp only [List.setIfInBounds_toArray, List.set_cons_zero, List.set_cons_succ]
      have hHeld : w3.rangeAt (H + 1) (y * 17) co ∧ w3.heap[G]? = some (.cells ch 59 (0, 0)) := ⟨range_keep hco lD he3, (he3.block _ lG).trans Hrow.out⟩
      refine anyK_take (i := 8) (v := ?_) rfl (by kernel_rfl) (by kernel_rfl) (by kernel_rfl) (N := 10) (by kernel_rfl) (by kernel_rfl) (by kernel_rfl) (fun _ _ _ h => h) (Or.inl ⟨by rfl, ?_⟩) hHeld ?_
      rotate_left 1
      · intro w hSw
        go_simp
        try with_reducible rfl
      show anyK _ _ _ _ _ _ _ _ (Act.put _ (some 103) _) _
      simp only [Act.put, List.setIfInBounds_toArray, List.set_cons_zero, List.set_cons_succ]
      clear hHeld
      have hmix := gp_mix (o := o) (s := s) (j := j) (h := h) (z1 := z) (z2 := lw (nAdd (gp o s j j) (if bt j (qn : Int) then nNeg h else h))) (by rw [Hctl.out, Hq.out, Hyf.out]; exact Hof.out) (by rw [Hctl.out]; exact Hon.out) Hnk.out Hhf.out hcr.low (lw_low _) (by rw [Hq.out, Hyf.out]; exact hyy) (by rw [Hq.out]; exact lw_eq _)
      rw [Hq.out, Hyf.out] at hmix
      have hzz : gp o s (j + 1) y = z := by rw [hmix, if_neg Hyj.out, if_pos rfl]
      have hz : RmA Qc w3 cr (z) P E := hcr.amp (hzz ▸ gp_amp HA.out (j + 1) y) (by have := HP.out; omega) (by have := HE.out; omega)
      have ht : w3.there (H + 1) (y * 17) cr.size := by rw [hcr.size]; exact (HG5.out.more he3).out.there Hym.out
      have hinf := hcr.info; have hone := hcr.val.one
      have HG6 := Lib.hid ((HG5.out.more he3).put (g' := fun y' => if y' = y then z else gp o s j y') Hym.out hz (by have := HbH.out; omega) (by omega) (by rw [HH.out]; omega) (fun _ => rfl))
      have k2 := ((HG5.out.more he3).out.set Hym.out hz).2
      have hrow4 := k2.row ((he3.block _ lG).trans Hrow.out) (by have := HDG.out; omega)
      have HRh4 := Lib.hid ((HRh.out.ext he3).chz k2 (HG5.out.more he3).out.no)
      have Hmix := Lib.hid hmix
      clear hz hcr k2 hmix hzz hyy
      refine anyK_one (i := 9) (by kernel_rfl) rfl (fun Kk hKk => ?_)
      refine stepK_storeM rfl rfl 59 _ _ rfl (H + 1) (y * 17) cr rfl rfl ht hinf hone ?_
      refine hKk.out _ _ (fun h => Bool.noConfusion (show true = false from h)) ?_
      clear hKk Kk
      simp only [List.setIfInBounds_toArray, List.set_cons_zero, List.set_cons_succ]
      refine anyK_done (by kernel_rfl) ?_ _
      clear ht hinf hone he3 hd0
      generalize w3.setCells (H + 1) (y * 17) cr.toList = w4 at *
      clear hco hio hich lD lG HAd HG5 HRh hx3 Hrow hrow
      have f3 : w4.cell? ⟨H, 3, none⟩ = some (.int .i64 (qn : Int)) := HG6.out.cell 3 (by rw [← HC.out]; rfl)
      cases hbt : bt j (qn : Int) with
      | true =>
        rw [hbt] at Hb
        have Hbt := Lib.hid hbt
        clear hbt
        have hich := HRh4.out.info
        go_wp2_with fail
        refine (Hb.out w4).mono ?_
        rintro e w8 ⟨rfl, rfl⟩
        go_wp2_with (refine wpList_load_row rfl 59 _ rfl G rfl 59 _ (0, 0) _ hrow4 Tryd.underlying59 rfl hich ?_)
        refine (QNeg_nm ch h P E w8 HRh4.out (by have := HP2.out; omega)).mono ?_
        rintro e w7 ⟨cn, rfl, hcn, hx7⟩
        have hrow7 := (hx7.block _ (Array.getElem?_eq_some_iff.1 hrow4).1).trans hrow4
        have Zg : ZVar Qc w7 G _ _ := ⟨ch, hrow7, (HRh4.out.ext hx7).val⟩
        obtain ⟨hno, kch, hrr, hzc⟩ := hcn.val.setRow Zg
        have HG7 := Lib.hid ((HG6.out.more hx7).chz kch ⟨_, _, _, hrow7, by decide⟩ (by have := HbH.out; have := HDG.out; omega) (by have := HDG.out; omega) (by have := HDG.out; omega) (by rw [HH.out]; have := HDG.out; omega))
        have HRn := Lib.hid (show RmA Qc (w7.setRow G cn) cn (nNeg h) P E from ⟨hcn.anti, hcn.low, hcn.abs, hcn.down, hzc⟩)
        have hinf := hcn.info; have hone := hcn.val.one; have hszz : ch.size = cn.size := by rw [hcn.size, HRh4.out.size]
        clear hcn hx7 hrow4 hich Zg hno kch hzc HG6 HRh4 f3
        go_wp2_with (refine wpList_store_row rfl 59 _ _ rfl G cn rfl rfl 59 _ hrow7 hinf hszz hone ?_)
        obtain ⟨w9, h9⟩ : ∃ w9, w7.setRow G cn = w9 := ⟨_, rfl⟩
        rw [h9] at HG7 HRn hrr ⊢
        clear h9 hrow7 hinf hszz hone
        have Hrr := Lib.hid hrr
        have lG := (Array.getElem?_eq_some_iff.1 hrr).1; have lD := HG7.out.out.lt
        obtain ⟨co, hco, hRo, hlo⟩ := HG7.out.out.at Hlt.out
        have hio : (Tryd.prog.info? 59).map (·.size) = some co.length := by rw [hlo]; exact R_size
        have hich := HRn.out.info
        have HAd := Lib.hid (fun (wx : World) (hx : Ext w9 wx) => QAdd_nm co.toArray cn _ _ P E wx (hRo.ext hx) (HRn.out.ext hx) HP2.out (by have := HE2.out; omega) (HLm.out.grow (HG7.out.ext.trans hx).size))
        clear hRo hlo
        go_upto_region 19 with fail
        have hd0 : Ext w9 w9.drew := Below.drew (Ext.refl _)
        refine wp_region_K 9 (fun w' => w'.rangeAt (H + 1) (j * 17) co ∧ w'.heap[G]? = some (.cells cn 59 (0, 0))) (by kernel_rfl) ?_
        show anyK _ _ _ _ _ _ 10 #[false, false, false, false, false, false, false, false, false, false] _ _
        have hHeld : w9.drew.rangeAt (H + 1) (j * 17) co ∧ w9.drew.heap[G]? = some (.cells cn 59 (0, 0)) := ⟨range_keep hco lD hd0, (hd0.block _ lG).trans Hrr.out⟩
        refine anyK_take (i := 0) (v := ?_) rfl (by kernel_rfl) (by kernel_rfl) (by kernel_rfl) (N := 10) (by kernel_rfl) (by kernel_rfl) (by kernel_rfl) (fun _ _ _ h => h) (Or.inl ⟨by rfl, ?_⟩) hHeld ?_
        rotate_left 1
        · intro w hSw
          go_simp
          try with_reducible rfl
        show anyK _ _ _ _ _ _ _ _ (Act.put _ (some 111) _) _
        simp only [Act.put, List.setIfInBounds_toArray, List.set_cons_zero, List.set_cons_succ]
        refine anyK_take (i := 1) (v := ?_) rfl (by kernel_rfl) (by kernel_rfl) (by kernel_rfl) (N := 10) (by kernel_rfl) (by kernel_rfl) (by kernel_rfl) (fun _ _ _ h => h) (Or.inl ⟨by rfl, ?_⟩) hHeld ?_
        rotate_left 1
        · intro w hSw
          go_simp
          try with_reducible rfl
        show anyK _ _ _ _ _ _ _ _ (Act.put _ (some 112) _) _
        simp only [Act.put, List.setIfInBounds_toArray, List.set_cons_zero, List.set_cons_succ]
        refine anyK_take (i := 2) (v := ?_) rfl (by kernel_rfl) (by kernel_rfl) (by kernel_rfl) (N := 10) (by kernel_rfl) (by kernel_rfl) (by kernel_rfl) (fun _ _ _ h => h) (Or.inl ⟨by rfl, ?_⟩) hHeld ?_
        rotate_left 1
        · intro w hSw
          go_simp
          try with_reducible rfl
        show anyK _ _ _ _ _ _ _ _ (Act.put _ (some 113) _) _
        simp only [Act.put, List.setIfInBounds_toArray, List.set_cons_zero, List.set_cons_succ]
        refine anyK_take (i := 3) (v := ?_) rfl (by kernel_rfl) (by kernel_rfl) (by kernel_rfl) (N := 10) (by kernel_rfl) (by kernel_rfl) (by kernel_rfl) (fun _ _ _ h => h) (Or.inl ⟨by rfl, ?_⟩) hHeld ?_
        rotate_left 1
        · intro w hSw
          go_simp
          try with_reducible rfl
        show anyK _ _ _ _ _ _ _ _ (Act.put _ (some 114) _) _
        simp only [Act.put, List.setIfInBounds_toArray, List.set_cons_zero, List.set_cons_succ]
        refine anyK_take (i := 4) (v := ?_) rfl (by kernel_rfl) (by kernel_rfl) (by kernel_rfl) (N := 10) (by kernel_rfl) (by kernel_rfl) (by kernel_rfl) (fun _ _ _ h => h) (Or.inl ⟨by rfl, ?_⟩) hHeld ?_
        rotate_left 1
        · intro w hSw
          go_simp
          try with_reducible rfl
        show anyK _ _ _ _ _ _ _ _ (Act.put _ (some 115) _) _
        simp only [Act.put, List.setIfInBounds_toArray, List.set_cons_zero, List.set_cons_succ]
        refine anyK_take (i := 5) (v := .agg co.toArray) rfl (by kernel_rfl) (by kernel_rfl) (by kernel_rfl) (N := 10) (by kernel_rfl) (by kernel_rfl) (by kernel_rfl) (fun _ _ _ h => h) (yieldsIf_load_mid (by rfl) 59 _ rfl (H + 1) (j * 17) rfl co _ (fun _ h => h.1) Tryd.underlying59 rfl hio) hHeld ?_
        show anyK _ _ _ _ _ _ _ _ (Act.put _ (some 116) _) _
        simp only [Act.put, List.setIfInBounds_toArray, List.set_cons_zero, List.set_cons_succ]
        refine anyK_take (i := 6) (v := .agg cn) rfl (by kernel_rfl) (by kernel_rfl) (by kernel_rfl) (N := 10) (by kernel_rfl) (by kernel_rfl) (by kernel_rfl) (fun _ _ _ h => h) (Or.inl ⟨by rfl, fun _ h => exec_load_row 59 _ rfl G rfl 59 _ (0, 0) _ (h.2) Tryd.underlying59 rfl hich⟩) hHeld ?_
        show anyK _ _ _ _ _ _ _ _ (Act.put _ (some 117) _) _
        simp only [Act.put, List.setIfInBounds_toArray, List.set_cons_zero, List.set_cons_succ]
        clear hHeld
        refine anyK_one (i := 7) (by kernel_rfl) rfl (fun Kk hKk => ?_)
        go_simp
        (go_at_call 60; refine (HAd.out w9.drew hd0).mono ?_; rintro e w3 ⟨cr, z2, rfl, hcr, hyy, hx3⟩)
        have he3 := hd0.trans hx3
        go_wp2_with fail
        refine hKk.out _ _ (fun _ => ⟨range_keep hco lD he3, (he3.block _ lG).trans Hrr.out⟩) ?_
        clear hKk Kk
        simp only [List.setIfInBounds_toArray, List.set_cons_zero, List.set_cons_succ]
        have hHeld : w3.rangeAt (H + 1) (j * 17) co ∧ w3.heap[G]? = some (.cells cn 59 (0, 0)) := ⟨range_keep hco lD he3, (he3.block _ lG).trans Hrr.out⟩
        refine anyK_take (i := 8) (v := ?_) rfl (by kernel_rfl) (by kernel_rfl) (by kernel_rfl) (N := 10) (by kernel_rfl) (by kernel_rfl) (by kernel_rfl) (fun _ _ _ h => h) (Or.inl ⟨by rfl, ?_⟩) hHeld ?_
        rotate_left 1
        · intro w hSw
          go_simp
          try with_reducible rfl
        show anyK _ _ _ _ _ _ _ _ (Act.put _ (some 119) _) _
        simp only [Act.put, List.setIfInBounds_toArray, List.set_cons_zero, List.set_cons_succ]
        clear hHeld
        have hz2 : z2 = lw (nAdd (gp o s j j) (if bt j (qn : Int) then nNeg h else h)) := lw_one hcr.low (by rw [Hbt.out]; have h1 := hyy; rw [if_neg (Ne.symm Hyj.out)] at h1; exact h1)
        have hzz : gp o s (j + 1) j = z2 := by rw [Hmix.out, if_pos rfl, hz2]
        have hz : RmA Qc w3 cr (z2) P E := hcr.amp (hzz ▸ gp_amp HA.out (j + 1) j) (by have := HP.out; omega) (by have := HE.out; omega)
        have ht : w3.there (H + 1) (j * 17) cr.size := by rw [hcr.size]; exact (HG7.out.more he3).out.there Hlt.out
        have hinf := hcr.info; have hone := hcr.val.one
        have HG4 := Lib.hid ((HG7.out.more he3).put (g' := gp o s (j + 1)) Hlt.out hz (by have := HbH.out; omega) (by omega) (by rw [HH.out]; omega) (fun y' => by rw [Hmix.out, hz2]))
        clear hz hcr
        refine anyK_one (i := 9) (by kernel_rfl) rfl (fun Kk hKk => ?_)
        refine stepK_storeM rfl rfl 59 _ _ rfl (H + 1) (j * 17) cr rfl rfl ht hinf hone ?_
        refine hKk.out _ _ (fun h => Bool.noConfusion (show true = false from h)) ?_
        clear hKk Kk
        simp only [List.setIfInBounds_toArray, List.set_cons_zero, List.set_cons_succ]
        refine anyK_done (by kernel_rfl) ?_ _
        clear ht hinf hone he3 hd0
        generalize w3.setCells (H + 1) (j * 17) cr.toList = w4 at *
        clear hco hio hich lD lG HAd hx3 hzz hz2 hyy
        go_wp2_with fail
        go_roundg (m - (j + 1))
        case measure => have := Hkk.out; have := Hlt.out; omega
        case rel => exact ⟨j + 1, rfl, Hlt.out, rfl, HG4.out⟩
      | false =>
        rw [hbt] at Hb
        have Hbt := Lib.hid hbt
        clear hbt
        have Hrr := Lib.hid hrow4
        have lG := (Array.getElem?_eq_some_iff.1 hrow4).1; have lD := HG6.out.out.lt
        obtain ⟨co, hco, hRo, hlo⟩ := HG6.out.out.at Hlt.out
        have hio : (Tryd.prog.info? 59).map (·.size) = some co.length := by rw [hlo]; exact R_size
        have hich := HRh4.out.info
        have HAd := Lib.hid (fun (wx : World) (hx : Ext w4 wx) => QAdd_nm co.toArray ch _ _ P E wx (hRo.ext hx) (HRh4.out.ext hx) HP2.out (by have := HE2.out; omega) (HLm.out.grow (HG6.out.ext.trans hx).size))
        clear hRo hlo
        go_wp2_with fail
        refine (Hb.out w4).mono ?_
        rintro e w8 ⟨rfl, rfl⟩
        go_upto_region 19 with fail
        have hd0 : Ext w8 w8.drew := Below.drew (Ext.refl _)
        refine wp_region_K 9 (fun w' => w'.rangeAt (H + 1) (j * 17) co ∧ w'.heap[G]? = some (.cells ch 59 (0, 0))) (by kernel_rfl) ?_
        show anyK _ _ _ _ _ _ 10 #[false, false, false, false, false, false, false, false, false, false] _ _
        have hHeld : w8.drew.rangeAt (H + 1) (j * 17) co ∧ w8.drew.heap[G]? = some (.cells ch 59 (0, 0)) := ⟨range_keep hco lD hd0, (hd0.block _ lG).trans Hrr.out⟩
        refine anyK_take (i := 0) (v := ?_) rfl (by kernel_rfl) (by kernel_rfl) (by kernel_rfl) (N := 10) (by kernel_rfl) (by kernel_rfl) (by kernel_rfl) (fun _ _ _ h => h) (Or.inl ⟨by rfl, ?_⟩) hHeld ?_
        rotate_left 1
        · intro w hSw
          go_simp
          try with_reducible rfl
        show anyK _ _ _ _ _ _ _ _ (Act.put _ (some 111) _) _
        simp only [Act.put, List.setIfInBounds_toArray, List.set_cons_zero, List.set_cons_succ]
        refine anyK_take (i := 1) (v := ?_) rfl (by kernel_rfl) (by kernel_rfl) (by kernel_rfl) (N := 10) (by kernel_rfl) (by kernel_rfl) (by kernel_rfl) (fun _ _ _ h => h) (Or.inl ⟨by rfl, ?_⟩) hHeld ?_
        rotate_left 1
        · intro w hSw
          go_simp
          try with_reducible rfl
        show anyK _ _ _ _ _ _ _ _ (Act.put _ (some 112) _) _
        simp only [Act.put, List.setIfInBounds_toArray, List.set_cons_zero, List.set_cons_succ]
        refine anyK_take (i := 2) (v := ?_) rfl (by kernel_rfl) (by kernel_rfl) (by kernel_rfl) (N := 10) (by kernel_rfl) (by kernel_rfl) (by kernel_rfl) (fun _ _ _ h => h) (Or.inl ⟨by rfl, ?_⟩) hHeld ?_
        rotate_left 1
        · intro w hSw
          go_simp
          try with_reducible rfl
        show anyK _ _ _ _ _ _ _ _ (Act.put _ (some 113) _) _
        simp only [Act.put, List.setIfInBounds_toArray, List.set_cons_zero, List.set_cons_succ]
        refine anyK_take (i := 3) (v := ?_) rfl (by kernel_rfl) (by kernel_rfl) (by kernel_rfl) (N := 10) (by kernel_rfl) (by kernel_rfl) (by kernel_rfl) (fun _ _ _ h => h) (Or.inl ⟨by rfl, ?_⟩) hHeld ?_
        rotate_left 1
        · intro w hSw
          go_simp
          try with_reducible rfl
        show anyK _ _ _ _ _ _ _ _ (Act.put _ (some 114) _) _
        simp only [Act.put, List.setIfInBounds_toArray, List.set_cons_zero, List.set_cons_succ]
        refine anyK_take (i := 4) (v := ?_) rfl (by kernel_rfl) (by kernel_rfl) (by kernel_rfl) (N := 10) (by kernel_rfl) (by kernel_rfl) (by kernel_rfl) (fun _ _ _ h => h) (Or.inl ⟨by rfl, ?_⟩) hHeld ?_
        rotate_left 1
        · intro w hSw
          go_simp
          try with_reducible rfl
        show anyK _ _ _ _ _ _ _ _ (Act.put _ (some 115) _) _
        simp only [Act.put, List.setIfInBounds_toArray, List.set_cons_zero, List.set_cons_succ]
        refine anyK_take (i := 5) (v := .agg co.toArray) rfl (by kernel_rfl) (by kernel_rfl) (by kernel_rfl) (N := 10) (by kernel_rfl) (by kernel_rfl) (by kernel_rfl) (fun _ _ _ h => h) (yieldsIf_load_mid (by rfl) 59 _ rfl (H + 1) (j * 17) rfl co _ (fun _ h => h.1) Tryd.underlying59 rfl hio) hHeld ?_
        show anyK _ _ _ _ _ _ _ _ (Act.put _ (some 116) _) _
        simp only [Act.put, List.setIfInBounds_toArray, List.set_cons_zero, List.set_cons_succ]
        refine anyK_take (i := 6) (v := .agg ch) rfl (by kernel_rfl) (by kernel_rfl) (by kernel_rfl) (N := 10) (by kernel_rfl) (by kernel_rfl) (by kernel_rfl) (fun _ _ _ h => h) (Or.inl ⟨by rfl, fun _ h => exec_load_row 59 _ rfl G rfl 59 _ (0, 0) _ (h.2) Tryd.underlying59 rfl hich⟩) hHeld ?_
        show anyK _ _ _ _ _ _ _ _ (Act.put _ (some 117) _) _
        simp only [Act.put, List.setIfInBounds_toArray, List.set_cons_zero, List.set_cons_succ]
        clear hHeld
        refine anyK_one (i := 7) (by kernel_rfl) rfl (fun Kk hKk => ?_)
        go_simp
        (go_at_call 60; refine (HAd.out w8.drew hd0).mono ?_; rintro e w3 ⟨cr, z2, rfl, hcr, hyy, hx3⟩)
        have he3 := hd0.trans hx3
        go_wp2_with fail
        refine hKk.out _ _ (fun _ => ⟨range_keep hco lD he3, (he3.block _ lG).trans Hrr.out⟩) ?_
        clear hKk Kk
        simp only [List.setIfInBounds_toArray, List.set_cons_zero, List.set_cons_succ]
        have hHeld : w3.rangeAt (H + 1) (j * 17) co ∧ w3.heap[G]? = some (.cells ch 59 (0, 0)) := ⟨range_keep hco lD he3, (he3.block _ lG).trans Hrr.out⟩
        refine anyK_take (i := 8) (v := ?_) rfl (by kernel_rfl) (by kernel_rfl) (by kernel_rfl) (N := 10) (by kernel_rfl) (by kernel_rfl) (by kernel_rfl) (fun _ _ _ h => h) (Or.inl ⟨by rfl, ?_⟩) hHeld ?_
        rotate_left 1
        · intro w hSw
          go_simp
          try with_reducible rfl
        show anyK _ _ _ _ _ _ _ _ (Act.put _ (some 119) _) _
        simp only [Act.put, List.setIfInBounds_toArray, List.set_cons_zero, List.set_cons_succ]
        clear hHeld
        have hz2 : z2 = lw (nAdd (gp o s j j) (if bt j (qn : Int) then nNeg h else h)) := lw_one hcr.low (by rw [Hbt.out]; have h1 := hyy; rw [if_neg (Ne.symm Hyj.out)] at h1; exact h1)
        have hzz : gp o s (j + 1) j = z2 := by rw [Hmix.out, if_pos rfl, hz2]
        have hz : RmA Qc w3 cr (z2) P E := hcr.amp (hzz ▸ gp_amp HA.out (j + 1) j) (by have := HP.out; omega) (by have := HE.out; omega)
        have ht : w3.there (H + 1) (j * 17) cr.size := by rw [hcr.size]; exact (HG6.out.more he3).out.there Hlt.out
        have hinf := hcr.info; have hone := hcr.val.one
        have HG4 := Lib.hid ((HG6.out.more he3).put (g' := gp o s (j + 1)) Hlt.out hz (by have := HbH.out; omega) (by omega) (by rw [HH.out]; omega) (fun y' => by rw [Hmix.out, hz2]))
        clear hz hcr
        refine anyK_one (i := 9) (by kernel_rfl) rfl (fun Kk hKk => ?_)
        refine stepK_storeM rfl rfl 59 _ _ rfl (H + 1) (j * 17) cr rfl rfl ht hinf hone ?_
        refine hKk.out _ _ (fun h => Bool.noConfusion (show true = false from h)) ?_
        clear hKk Kk
        simp only [List.setIfInBounds_toArray, List.set_cons_zero, List.set_cons_succ]
        refine anyK_done (by kernel_rfl) ?_ _
        clear ht hinf hone he3 hd0
        generalize w3.setCells (H + 1) (j * 17) cr.toList = w4 at *
        clear hco hio hich lD lG HAd hx3 hzz hz2 hyy
        go_wp2_with fail
        go_roundg (m - (j + 1))
        case measure => have := Hkk.out; have := Hlt.out; omega
        case rel => exact ⟨j + 1, rfl, Hlt.out, rfl, HG4.out⟩
end Go.Proofs.YtlmfhopifggeaaaDoor
namespace Go.Proofs.YtlmfhopifggeaaaDoor
open Go.RowKit

/-- .. among the first n. -/
def lenN (f : Nat → Int) : Nat → Nat
  | 0 => 0
  | n + 1 => if 0 < n ∧ f n = 0 then lenN f n else n + 1
end Go.Proofs.YtlmfhopifggeaaaDoor
namespace Go.Proofs.YtlmfhopifggeaaaDoor
open Go.RowKit

/-- The parts' texts with commas between them. -/
def jnT (f : Nat → Int) : Nat → List UInt8
  | 0 => []
  | i + 1 => jnT f i ++ (if 0 < i then [44] else []) ++ Lib.itoa (f i)
/-- The whole text. -/
def rtx (f : Nat → Int) : List UInt8 := jnT f (lenN f 8) ++ (if f 8 = 0 then [] else 47 :: Lib.itoa (f 8))
/-- A number's text is not too long. -/
theorem ritoa_len (z : Int) (P : Nat) (h : z.natAbs < 2 ^ P) : (Lib.itoa z).length ≤ P + 2 := by
  have h1 : (Lib.itoa z).length = (txt z).length := by unfold txt; rw [List.length_map]
  have h2 : (decN z.natAbs).length ≤ P + 1 := by
    rw [decN_length]
    refine nDigits_le (P + 1) _ (by omega) ?_
    have h3 : 2 ^ P ≤ 10 ^ P := Nat.pow_le_pow_left (by decide) P
    have h4 : 10 ^ P ≤ 10 ^ (P + 1) := Nat.pow_le_pow_right (by decide) (by omega)
    omega
  rw [h1]
  by_cases hz : z < 0
  · rw [txt_neg hz, List.length_cons]; omega
  · rw [txt_pos hz]; omega
theorem jnT_len (f : Nat → Int) (P : Nat) (h : ∀ i, i < 8 → (f i).natAbs < 2 ^ P) : ∀ i, i ≤ 8 → (jnT f i).length ≤ i * (P + 3)
  | 0, _ => by simp [jnT]
  | i + 1, hi => by
    have h1 := jnT_len f P h i (by omega)
    have h2 := ritoa_len (f i) P (h i (by omega))
    have h3 : (if 0 < i then ([44] : List UInt8) else []).length ≤ 1 := by split <;> simp
    simp only [jnT, List.length_append]
    rw [Nat.succ_mul]
    omega

end Go.Proofs.YtlmfhopifggeaaaDoor
namespace Go.Proofs.YtlmfhopifggeaaaDoor
open Go.RowKit

/-- The cells of bits. -/
def bC (bits : List Int) : Array Value := (bits.map fun x => Value.int .i64 x).toArray

end Go.Proofs.YtlmfhopifggeaaaDoor
namespace Go.Proofs.YtlmfhopifggeaaaDoor
open Go.RowKit

def stF (c : Gci) (x : Int) : Int × Int := if (chk c).1 ≠ 0 then chk c else if x < 0 ∨ ((2 ^ c.qubits.toNat : Nat) : Int) ≤ x then (18, 0) else (0, 0)

end Go.Proofs.YtlmfhopifggeaaaDoor
namespace Go.Proofs.YtlmfhopifggeaaaDoor
open Go.RowKit

/-- What play comes to. -/
noncomputable def shoR (c : Gci) (x : Int) (want : List Int) : Sho := plM want c.ops 0 (bas x.toNat) (List.replicate c.bits.toNat 0) 0
noncomputable def shoF (c : Gci) (x : Int) (want : List Int) : Int × Int := if (stF c x).1 ≠ 0 then stF c x else (shoR c x want).f

end Go.Proofs.YtlmfhopifggeaaaDoor
namespace Go.Proofs.YtlmfhopifggeaaaDoor
open Go.RowKit

theorem bC_set (bits : List Int) (k : Nat) (v : Int) : bC (bits.set k v) = (bC bits).setIfInBounds k (.int .i64 v) := by
  unfold bC
  simp [List.map_set]
theorem bC_get (bits : List Int) {k : Nat} (h : k < bits.length) : (bC bits)[k]? = some (.int .i64 (bits.getD k 0)) := by
  unfold bC
  rw [List.getElem?_toArray, List.getElem?_map, List.getElem?_eq_getElem h, List.getD_eq_getElem?_getD, List.getElem?_eq_getElem h]
  rfl

/-- A shot: its state in block b, its bits in block g. -/
structure PlA (w0 w : World) (g b m : Nat) (s : Nat → Nm) (bits : List Int) (N : Nat) : Prop where
  ext : Ext w0 w
  bit : w.heap[g]? = some (.cells (bC bits) 3 (0, 0))
  st : RsAt (fun k => k ≠ g) w b m s 8200 4100
  hg : w0.heap.size ≤ g
  amp : ∀ x, Amp N (s x)
section
variable {w0 w w' : World} {g b m : Nat} {s s' : Nat → Nm} {bits : List Int} {N N' : Nat}
theorem PlA.ltg (h : PlA w0 w g b m s bits N) : g < w.heap.size := (Array.getElem?_eq_some_iff.1 h.bit).1
theorem PlA.lim (h : PlA w0 w g b m s bits N) : LimQ (fun k => k ≠ g) w := LimQ.but h.ltg
theorem PlA.ne (h : PlA w0 w g b m s bits N) : b ≠ g := by
  intro e
  obtain ⟨cs, t, fr, h1, h2⟩ := h.st.no
  rw [e, h.bit] at h1
  injection h1 with h1
  injection h1 with _ h1 _
  exact h2 h1.symm
theorem PlA.ext' (h : PlA w0 w g b m s bits N) (k : Ext w w') : PlA w0 w' g b m s bits N := ⟨h.ext.trans k, (k.block _ h.ltg).trans h.bit, h.st.ext k, h.hg, h.amp⟩
theorem PlA.le (h : PlA w0 w g b m s bits N) (k : N ≤ N') : PlA w0 w g b m s bits N' := ⟨h.ext, h.bit, h.st, h.hg, fun x => (h.amp x).le k⟩
theorem PlA.to (h : PlA w0 w g b m s bits N) (k : Ext w w') {b' : Nat} (hs : RsAt (fun k => k ≠ g) w' b' m s' 8200 4100) (ha : ∀ x, Amp N' (s' x)) : PlA w0 w' g b' m s' bits N' := ⟨h.ext.trans k, (k.block _ h.ltg).trans h.bit, hs, h.hg, ha⟩
theorem PlA.ints (h : PlA w0 w g b m s bits N) {nb : Nat} (hb : bits.length = nb) : IntsAt w (some ⟨g, 0, none⟩) nb bits := by
  refine ⟨hb, ?_⟩
  by_cases e : nb = 0
  · exact Or.inl e
  · refine Or.inr ⟨g, 0, rfl, h.ltg, fun t ht => ?_⟩
    rw [cell_of_row w g (0 + t) _ _ (0, 0) h.bit, Nat.zero_add, bC_get bits (by omega)]
theorem PlA.cell (h : PlA w0 w g b m s bits N) {k : Nat} (hk : k < bits.length) : w.cell? ⟨g, k, none⟩ = some (.int .i64 (bits.getD k 0)) := by
  rw [cell_of_row w g k _ _ (0, 0) h.bit, bC_get bits hk]
theorem PlA.fr (h : PlA w0 w g b m s bits N) (k : Nat) : w.frozen? ⟨g, k, none⟩ = false := frozen_of_row w g k _ _ h.bit
theorem PlA.put (h : PlA w0 w g b m s bits N) (k : Nat) (v : Int) : PlA w0 (w.setCell ⟨g, k, none⟩ (.int .i64 v)) g b m s (bits.set k v) N := by
  have hb := heap_setCell_same w g k _ _ (.int .i64 v) h.bit
  rw [← bC_set] at hb
  have hc : ChZ g w (w.setCell ⟨g, k, none⟩ (.int .i64 v)) := ChZ.of_only ((Only.refl g w).setCell k _)
  exact ⟨hc.ext h.ext h.hg, hb, h.st.apart hc (fun e => e rfl) (fun _ => ⟨_, _, hb⟩) h.ne, h.hg, h.amp⟩
theorem PlA.base {W : World} (h : PlA W w g b m s bits N) (k : Ext w0 W) : PlA w0 w g b m s bits N := ⟨k.trans h.ext, h.bit, h.st, Nat.le_trans k.size h.hg, h.amp⟩
/-- A block that is neither of them, and holds no digits, is written. -/
theorem PlA.far (h : PlA w0 w g b m s bits N) {k : Nat} (hc : ChZ k w w') (hn : NoI w k) (h0 : w0.heap.size ≤ k) (h1 : g ≠ k) (h2 : b ≠ k) : PlA w0 w' g b m s bits N := ⟨hc.ext h.ext h0, hc.row h.bit h1, h.st.chz hc hn h2, h.hg, h.amp⟩
end
/-- It begins. -/
theorem PlA.new {w0 w1 w2 : World} {b m nb : Nat} {s : Nat → Nm} {Qc : Nat → Prop} (h : RsAt Qc w1 b m s 8200 4100) (he : Ext w0 w1) (hr : IRow w2 w1.heap.size (List.replicate nb 0)) (k : Ext w1 w2) (ha : ∀ x, Amp 0 (s x)) : PlA w0 w2 w1.heap.size b m s (List.replicate nb 0) 0 := by
  refine ⟨he.trans k, ?_, h.fresh k (Nat.le_refl _) hr.lt, he.size, ha⟩
  obtain ⟨⟨e, rfl⟩, h1⟩ := hr
  rw [h1]
  unfold bC
  simp
end Go.Proofs.YtlmfhopifggeaaaDoor
