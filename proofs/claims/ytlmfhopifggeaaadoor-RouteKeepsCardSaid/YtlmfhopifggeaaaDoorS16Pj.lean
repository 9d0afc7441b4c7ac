/-
  The reference: Play, as Pl has it; and where there is a fault, no bits and nothing used. Written out of Pl by program. The reference: the text of a number. The program: texts: all amplitudes as they are written. The reference: Texts: the amplitudes as they are written.
-/
import Derived.Test.YtlmfhopifggeaaaDoorProg
import Derived.Test.YtlmfhopifggeaaaDoorRows
import Derived.BigQuiet
import Derived.Deep.AppendLies
import Derived.Deep.Cut
import Derived.Deep.CutRange
import Derived.Deep.LoopGhost
import Derived.Deep.MidRow
import Derived.Deep.QuietTactic
import Derived.Deep.RegionHeld3
import Derived.Ground.Names2Prog
import Derived.Ground.SlgnProg
import Derived.Laws.Bits64b
import Derived.Laws.CopyOwn
import Derived.Laws.IdiomCopy
import Derived.Laws.ResultCell
import Derived.Laws.Rows
import Derived.Lib.AppendIntMem
import Derived.Lib.AppendStr
import Derived.Lib.BitFns
import Derived.Lib.Hide
import Derived.Lib.ItoaMem
import Derived.Lib.ItoaNum
import Derived.Lib.Strings
import Derived.Lib.TrailingZeros
import Derived.LoopIn
import Derived.LoopNIn
import Derived.OrdersHeld
import Derived.OrdersIn
import Derived.OwnWalk
import Derived.OwnWalkIn
import Derived.ProofKit
import Derived.RangeFuncBound
import Derived.RangeFuncCalls
import Derived.RangeFuncFrom
import Derived.RangeFuncLeaves
import Derived.RegionTactic
import Derived.Shelf.Abstract
import Derived.Shelf.Slices.Clone
import Derived.Shelf.SlicesE.Clone
import Derived.TacticsInMore
import Derived.WalkKit
import Derived.WalkLawsBesides
import Derived.WalkSpells
import Derived.Test.YtlmfhopifggeaaaDoorS00Mem
import Derived.Test.YtlmfhopifggeaaaDoorShelf
import Derived.Test.YtlmfhopifggeaaaDoorS02ZBq
import Derived.Test.YtlmfhopifggeaaaDoorS03ZKq
import Derived.Test.YtlmfhopifggeaaaDoorS04Udq
import Derived.Test.YtlmfhopifggeaaaDoorS05Wf
import Derived.Test.YtlmfhopifggeaaaDoorS06Xfq
import Derived.Test.YtlmfhopifggeaaaDoorS07Cn
import Derived.Test.YtlmfhopifggeaaaDoorS08Cj
import Derived.Test.YtlmfhopifggeaaaDoorS13Ms
import Derived.Test.YtlmfhopifggeaaaDoorS14Pi
import Derived.Test.YtlmfhopifggeaaaDoorS15Pk
namespace Go.Proofs.YtlmfhopifggeaaaDoor
open Go.RowKit

set_option maxRecDepth 100000 in
set_option maxHeartbeats 8000000 in
theorem QPlay_all (c : Gci) (ao : Option Addr) (n cp : Nat) (x : Int) (ta : Option Addr) (tn tc : Nat) (want : List Int) (w : World) (h : OpsAt w ao n c.ops) (hn : n ≤ cp) (hcp : cp ≤ 9223372036854775807) (hT : IntsAt w ta tn want) :
    Calls Tryd.prog 20 #[.agg #[.int .i64 c.qubits, .int .i64 c.bits, .slice ao n cp], .int .i64 x, .slice ta tn tc] w fun e w' => ∃ r0 r1 r2, e = .returned (.tuple #[r0, r1, r2, .agg #[.int .i64 (shoF c x want).1, .int .i64 (shoF c x want).2]]) ∧ Ext w w' ∧
      ((shoF c x want).1 = 0 → ∃ b g, r0 = .slice (some ⟨b, 0, none⟩) (2 ^ c.qubits.toNat) (2 ^ c.qubits.toNat) ∧ r1 = .slice (some ⟨g, 0, none⟩) (shoR c x want).bits.length (shoR c x want).bits.length ∧ r2 = .int .i64 ((shoR c x want).u : Int) ∧ PlA w w' g b (2 ^ c.qubits.toNat) (shoR c x want).s (shoR c x want).bits 4096) ∧ ((shoF c x want).1 ≠ 0 → r1 = .slice none 0 0 ∧ r2 = .int .i64 0) := by
  obtain ⟨F, hF⟩ : ∃ F, shoF c x want = F := ⟨_, rfl⟩
  obtain ⟨F0, F1⟩ := F
  obtain ⟨M, hM⟩ : ∃ M, shoR c x want = M := ⟨_, rfl⟩
  rw [hF, hM]
  unfold shoF at hF
  rw [hM] at hF
  unfold shoR at hM
  obtain ⟨qb, bi, ops⟩ := c
  obtain ⟨m, hm⟩ : ∃ m : Nat, 2 ^ qb.toNat = m := ⟨_, rfl⟩
  simp only [hm]
  have Hm0 := Lib.hid hm
  clear hm
  obtain ⟨f, hf⟩ : ∃ f, chk ⟨qb, bi, ops⟩ = f := ⟨_, rfl⟩
  obtain ⟨f0, f1⟩ := f
  have hst : (f0 ≠ 0 → stF ⟨qb, bi, ops⟩ x = (f0, f1)) ∧ (f0 = 0 → (x < 0 ∨ ((2 ^ qb.toNat : Nat) : Int) ≤ x) → stF ⟨qb, bi, ops⟩ x = (18, 0)) ∧ (f0 = 0 → ¬ (x < 0 ∨ ((2 ^ qb.toNat : Nat) : Int) ≤ x) → stF ⟨qb, bi, ops⟩ x = (0, 0)) := by
    unfold stF
    rw [hf]
    exact ⟨fun h => if_pos h, fun h k => by rw [if_neg (fun e => e h), if_pos k], fun h k => by rw [if_neg (fun e => e h), if_neg k]⟩
  have hFs : ∀ a b : Int, stF ⟨qb, bi, ops⟩ x = (a, b) → (a ≠ 0 → F0 = a ∧ F1 = b) ∧ (a = 0 → M.f = (F0, F1)) := by
    intro a b e
    rw [e] at hF
    refine ⟨fun h => ?_, fun h => ?_⟩
    · rw [if_pos h] at hF
      exact ⟨(congrArg Prod.fst hF).symm, (congrArg Prod.snd hF).symm⟩
    · rw [if_neg (fun k => k h)] at hF
      exact hF
  have hz : f0 = 0 → f1 = 0 ∧ (1 ≤ qb ∧ qb ≤ 12) ∧ (0 ≤ bi ∧ bi ≤ 12) ∧ ops.length ≤ 4096 ∧ (∀ g ∈ ops, opCode g qb bi = 0) := by
    intro h0
    have hc : (chk ⟨qb, bi, ops⟩).1 = 0 := by rw [hf]; exact h0
    obtain ⟨hc0, h1, h2, h3, h4, h5, h6⟩ := chk_zero hc
    rw [hf] at hc0
    exact ⟨congrArg Prod.snd hc0, ⟨h1, h2⟩, ⟨h3, h4⟩, h5, h6⟩
  have Hz := Lib.hid hz; have Hf := Lib.hid hf; have HM := Lib.hid hM; have Hst := Lib.hid hst; have HFs := Lib.hid hFs
  obtain ⟨H, hH⟩ : ∃ H, w.heap.size = H := ⟨_, rfl⟩
  obtain ⟨W0, hW0⟩ : ∃ W0, (w.alloc (.cells #[.int .i64 qb, .int .i64 bi, .slice ao n cp] 34)).alloc (.cells #[.int .i64 0, .int .i64 0] 27) = W0 := ⟨_, rfl⟩
  have E0 : Ext w W0 := by rw [← hW0]; exact (ext_al w _).trans (ext_al _ _)
  have bC : CiB W0 H qb bi ao n cp := by rw [← hW0, ← hH]; exact CiB.ext ⟨heap_alloc_new w _⟩ (ext_al _ _)
  have bF : FtB W0 (H + 1) 0 0 := ⟨by
    have := heap_alloc_new (w.alloc (.cells #[.int .i64 qb, .int .i64 bi, .slice ao n cp] 34)) (.cells #[.int .i64 0, .int .i64 0] 27)
    rw [← hW0, ← hH]
    simpa using this⟩
  have HE0 := Lib.hid E0; have HO := Lib.hid (h.ext E0); have HC := Lib.hid bC; have HFt := Lib.hid bF; have HT := Lib.hid (hT.ext E0)
  have m0 := bC.x0; have m1 := bC.x1; have m2 := bC.x2
  have HH := Lib.hid hH; have HW0 := Lib.hid hW0; have HwH := Lib.hid (show w.heap.size ≤ H + 1 by omega)
  clear h E0 bC bF hF hf hz hT hM hH hW0 hst hFs
  go_enter Tryd.func20, Tryd.ntmps20
  go_upto_region 1 with fail
  rw [HW0.out, HH.out]
  have HK := Lib.hid (RCheck_any ⟨qb, bi, ops⟩ ao n cp W0 HO.out hn hcp)
  rw [Hf.out] at HK
  go_wp2_with fail
  refine HK.out.mono ?_
  rintro e w1 ⟨rfl, hx1⟩
  have Ef := ext_al w1 (.cells #[.int .i64 f0, .int .i64 f1] 27)
  have bf1 : FtB (w1.alloc (.cells #[.int .i64 f0, .int .i64 f1] 27)) w1.heap.size f0 f1 := ⟨heap_alloc_new w1 _⟩
  have q0 := bf1.x0; have q1 := bf1.x1
  have HX1 := Lib.hid (hx1.trans Ef)
  have bz := HFt.out.ext HX1.out; have x0' := bz.x0; have x1' := bz.x1; have g0' := bz.f 0; have g1' := bz.f 1
  have bc := HC.out.ext HX1.out; have v0 := bc.x0; have v1 := bc.x1; have v2 := bc.x2
  have HEz := Lib.hid (HE0.out.trans HX1.out)
  clear bz bc m0 m1 m2 hx1 Ef bf1 HK Hf HW0 HH
  by_cases hc0 : f0 = 0
  · obtain ⟨hf1, ⟨hq1, hq2⟩, ⟨hb1, hb2⟩, hlen, hcode⟩ := Hz.out hc0
    obtain ⟨qn, rfl⟩ : ∃ qn : Nat, qb = (qn : Int) := ⟨qb.toNat, by omega⟩
    obtain ⟨nb, rfl⟩ : ∃ nb : Nat, bi = (nb : Int) := ⟨bi.toNat, by omega⟩
    have hcb := nf' hc0
    have hnl := HO.out.1
    have hs := shl1 (q := qn) (by omega)
    have hs1 := Hst.out.2.1 hc0; have hs2 := Hst.out.2.2 hc0
    simp only [Int.toNat_natCast] at hs1 hs2 HM
    have hm : 2 ^ qn = m := by have := Hm0.out; simpa using this
    have Hqn := Lib.hid (show qn ≤ 12 by omega); have Hnb := Lib.hid (show nb ≤ 12 by omega); have Hn4 := Lib.hid (show n ≤ 4096 by omega)
    rw [hm] at hs hs1 hs2
    have Hm := Lib.hid hm
    have Hfit := Lib.hid (fun (o : Gop) (ho : o ∈ ops) => plFit_of_code (o := o) (n := (qn : Int)) (b := (nb : Int)) (by omega) (by omega) (by omega) (by omega) (hcode o ho))
    clear hm Hm0 hf1 hq1 hq2 hb1 hb2 hcode hc0 Hz
    by_cases hx0 : x < 0
    · have HF2 := Lib.hid ((HFs.out 18 0 (hs1 (Or.inl hx0))).1 (by decide))
      have Hz := Lib.hid (HFt.out.ext HX1.out)
      clear hs1 hs2 Hst HFs HM v1 v2 x0' x1' g0' g1' HFt HX1
      go_wp2_with fail
      refine (rfault_any 18 0 _).mono ?_
      rintro e wz ⟨rfl, hxz⟩
      have bz := Hz.out.ext hxz; have x0' := bz.x0; have x1' := bz.x1; have g0' := bz.f 0; have g1' := bz.f 1; have HEy := Lib.hid (HEz.out.trans hxz)
      clear bz hxz
      go_wp2_with fail
      exact bodyPost_ret (v := .tuple #[.slice none 0 0, .slice none 0 0, .int .i64 0, .agg #[.int .i64 18, .int .i64 0]]) (by simp [results, Tryd.results20, go_sem, x0', x1']) rfl ⟨_, _, _, by rw [HF2.out.1, HF2.out.2], put2x HEy.out HwH.out _ _, fun h => absurd (HF2.out.1 ▸ h) (by decide), fun _ => ⟨rfl, rfl⟩⟩
    by_cases hx1 : ((m : Nat) : Int) ≤ x
    · have HF2 := Lib.hid ((HFs.out 18 0 (hs1 (Or.inr hx1))).1 (by decide))
      have qz : (0 : Int) ≤ (qn : Int) := by omega
      have Hz := Lib.hid (HFt.out.ext HX1.out)
      clear hs1 hs2 Hst HFs HM v1 v2 x0' x1' g0' g1' HFt HX1
      go_wp2_with fail
      refine (rfault_any 18 0 _).mono ?_
      rintro e wz ⟨rfl, hxz⟩
      have bz := Hz.out.ext hxz; have x0' := bz.x0; have x1' := bz.x1; have g0' := bz.f 0; have g1' := bz.f 1; have HEy := Lib.hid (HEz.out.trans hxz)
      clear bz hxz
      go_wp2_with fail
      exact bodyPost_ret (v := .tuple #[.slice none 0 0, .slice none 0 0, .int .i64 0, .agg #[.int .i64 18, .int .i64 0]]) (by simp [results, Tryd.results20, go_sem, x0', x1']) rfl ⟨_, _, _, by rw [HF2.out.1, HF2.out.2], put2x HEy.out HwH.out _ _, fun h => absurd (HF2.out.1 ▸ h) (by decide), fun _ => ⟨rfl, rfl⟩⟩
    obtain ⟨xn, rfl⟩ : ∃ xn : Nat, x = (xn : Int) := ⟨x.toNat, by omega⟩
    have HFF := Lib.hid ((HFs.out 0 0 (hs2 (by omega))).2 rfl)
    have HM' := Lib.hid (show plM want ops 0 (bas xn) (List.replicate nb 0) 0 = M from HM.out)
    have Hxn := Lib.hid (show xn < m by omega)
    have qz : (0 : Int) ≤ (qn : Int) := by omega
    clear HM hs1 hs2 Hst HFs
    have HOw := Lib.hid (HO.out.ext HX1.out); have HTw := Lib.hid (HT.out.ext HX1.out); have HFw := Lib.hid (HFt.out.ext HX1.out); have HCw := Lib.hid (HC.out.ext HX1.out)
    have Hnl := Lib.hid hnl; have Hlen := Lib.hid hlen
    clear HO HT HFt HC x0' x1' g0' g1' HX1 HE0 hnl hlen
    go_upto_region 6 with fail
    generalize w1.alloc (.cells #[.int .i64 f0, .int .i64 f1] 27) = W1 at *
    generalize w1.heap.size = FB at *
    have HB := Lib.hid (Basis_any (Qc := fun _ => True) qn xn W1 Hqn.out (by rw [Hm.out]; exact Hxn.out) 8200 4100 (by decide) (fun _ _ => trivial))
    rw [Hm.out] at HB
    clear q0 q1 hs
    go_wp2_with fail
    refine HB.out.mono ?_
    rintro e w2 ⟨b0, rfl, hS2, _, hE2⟩
    have HS2 := Lib.hid hS2; have HE2 := Lib.hid hE2
    have bc := HCw.out.ext hE2
    clear v0 v1 v2 hS2 HB
    have v1 := bc.x1; have v2 := bc.x2
    clear hE2 bc
    go_wp2_with (refine wpList_make_irow w2 rfl _ _ rfl .i64 .i64 (nb : Int) (nb : Int) nb rfl rfl rfl rfl (by have := Hnb.out; omega) ?_; intro w3 hR3 hE3 hl3)
    have HP3 := Lib.hid (PlA.new HS2.out HE2.out hR3 hE3 (fun y => bas_amp xn y))
    generalize w2.heap.size = g at *
    clear HS2 hR3 hE3 hl3 v1 v2 HE2
    go_loopg [11, 13, 14, 15, 16] (n + 1) (fun kk s11 s13 s14 _ _ wr => ∃ (i u b : Nat) (s : Nat → Nm) (bits : List Int), s11 = .slice (some ⟨b, 0, none⟩) m m ∧ s13 = .int .i64 (u : Int) ∧ s14 = .int .i64 (i : Int) ∧ PlA W1 wr g b m s bits i ∧ i ≤ n ∧ n + 1 - i = kk ∧ bits.length = nb ∧ u ≤ i ∧ u ≤ tn ∧ plM want (ops.drop i) i s bits u = M)
    case atStart => exact ⟨0, 0, b0, _, _, rfl, rfl, rfl, HP3.out, Nat.zero_le _, rfl, List.length_replicate, Nat.le_refl _, Nat.zero_le _, HM'.out⟩
    case round =>
      obtain ⟨i, u, b, s, bits, rfl, rfl, rfl, hp, hi, hk, hbl, hui, hut, hpl⟩ := hrel
      have bc := HCw.out.ext hp.ext; have v1 := bc.x1; have v2 := bc.x2; have v0 := bc.x0
      have Hp := Lib.hid hp; have Hk := Lib.hid hk; have Hbl := Lib.hid hbl; have Hui := Lib.hid hui; have Hut := Lib.hid hut; have Hpl := Lib.hid hpl
      clear bc hp hk hbl hui hut hpl HP3 HM' v1 v0
      by_cases hin : i = n
      · have q1 : ¬ (i : Int) < (n : Int) := by omega
        have HMe := Lib.hid (show M = ⟨(0, 0), s, bits, u⟩ by
          rw [← Hpl.out, List.drop_eq_nil_of_le (by have := Hnl.out; omega)]
          rfl)
        have HF2 := Lib.hid (show F0 = 0 ∧ F1 = 0 by
          have := HFF.out
          rw [HMe.out] at this
          exact ⟨(congrArg Prod.fst this).symm, (congrArg Prod.snd this).symm⟩)
        have bz := HFw.out.ext Hp.out.ext; have x0' := bz.x0; have x1' := bz.x1; have g0' := bz.f 0; have g1' := bz.f 1
        have cg : ChZ (H + 1) wr ((wr.setCell ⟨H + 1, 0, none⟩ (.int .i64 0)).setCell ⟨H + 1, 1, none⟩ (.int .i64 0)) := ChZ.of_only (((Only.refl (H + 1) wr).setCell 0 _).setCell 1 _)
        have Hno := Lib.hid (show NoI wr (H + 1) from ⟨_, _, _, bz.row, by decide⟩)
        have Hend := Lib.hid ((((Hp.out.base HEz.out).le (show i ≤ 4096 by have := Hn4.out; omega)).far cg Hno.out HwH.out (by have := HFw.out.lt; have := Hp.out.hg; omega) (by
          rintro rfl
          obtain ⟨cs, h1, _⟩ := Hp.out.st.row
          have h2 := bz.row
          rw [h1] at h2
          injection h2 with h2
          injection h2 with _ h2 _
          exact absurd h2 (by decide))))
        clear cg bz hin hi
        go_wp2_with fail
        refine bodyPost_ret (v := .tuple #[.slice (some ⟨b, 0, none⟩) m m, .slice (some ⟨g, 0, none⟩) nb nb, .int .i64 (u : Int), .agg #[.int .i64 0, .int .i64 0]]) (by simp [results, Tryd.results20, go_sem, x0', x1']) rfl ⟨_, _, _, by rw [HF2.out.1, HF2.out.2], Hend.out.ext, fun _ => ⟨b, rfl, g, ?_, ?_, ?_⟩, fun h => absurd HF2.out.1 h⟩
        · rw [HMe.out, ← Hbl.out]
        · rw [HMe.out]
        · rw [HMe.out]; exact Hend.out
      have hlt : i < n := by omega
      have q1 : (i : Int) < (n : Int) := by omega
      have q0 : (0 : Int) ≤ (i : Int) := by omega
      have wk : IntKind.i64.wrap ((i : Int) + 1) = ((i + 1 : Nat) : Int) := by rw [IntKind.wrap_i64]; have := Hn4.out; omega
      have hil : i < ops.length := by have := Hnl.out; omega
      obtain ⟨o, ho⟩ : ∃ o, ops[i]? = some o := ⟨_, List.getElem?_eq_getElem hil⟩
      have hdr : ops.drop i = o :: ops.drop (i + 1) := by
        rw [List.drop_eq_getElem_cons hil, (List.getElem?_eq_some_iff.1 ho).2]
      have Hpo := Lib.hid (show plM want (o :: ops.drop (i + 1)) i s bits u = M by rw [← hdr]; exact Hpl.out)
      obtain ⟨bo, oo, rfl⟩ := HOw.out.some_of (by omega)
      obtain ⟨a1, n1, c1, a2, n2, c2, e0, e1, e2, e3, e4, e5, hL⟩ := ((HOw.out.ext Hp.out.ext).at i o ho)
      have hft := Hfit.out o (List.mem_of_getElem? ho)
      obtain ⟨kd, k, ctl, q, bt, cnd⟩ := o
      simp only at e0 e1 e2 e3 e4 e5
      have Hft := Lib.hid hft; have HL := Lib.hid hL; have Hlt := Lib.hid hlt
      have Ea := ext_al wr (.cells #[.int .i64 kd, .int .i64 k, .slice a1 n1 c1, .int .i64 q, .int .i64 bt, .slice a2 n2 c2] 46)
      have bO := opbx_new wr kd k a1 n1 c1 q bt a2 n2 c2
      have HEa := Lib.hid Ea; have HbO := Lib.hid bO
      have p0 := bO.x0; have p1 := bO.x1; have p2 := bO.x2; have p3 := bO.x3; have p4 := bO.x4; have p5 := bO.x5
      clear hft hL hlt hdr ho hil hin hi Hpl bO Ea
      go_upto_region 13 with fail
      generalize wr.alloc (.cells #[.int .i64 kd, .int .i64 k, .slice a1 n1 c1, .int .i64 q, .int .i64 bt, .slice a2 n2 c2] 46) = w5 at *
      generalize wr.heap.size = OB at *
      have HQ := Lib.hid (Qcondition_any kd k q bt a1 a2 (some ⟨g, 0, none⟩) n1 c1 n2 c2 nb nb cnd bits w5 (HL.out.i2.ext HEa.out) ((Hp.out.ints Hbl.out).ext HEa.out) HL.out.h2 HL.out.m2 (by have := Hft.out.few; have h2 := HL.out.i2.1; simp only at this h2; omega) Hnb.out Hft.out.cnd)
      obtain ⟨B, hB⟩ : ∃ B, cnM bits cnd = B := ⟨_, rfl⟩
      rw [hB] at HQ
      have HBB := Lib.hid hB
      clear hB e0 e1 e2 e3 e4 e5 v2
      go_wp2_with fail
      refine HQ.out.mono ?_
      rintro e w6 ⟨rfl, hx6⟩
      have Hp6 := Lib.hid (Hp.out.ext' (HEa.out.trans hx6)); have HL6 := Lib.hid (HL.out.ext (HEa.out.trans hx6))
      have b6 := HbO.out.ext hx6
      clear p0 p1 p2 p3 p4 p5
      have p0 := b6.x0; have p1 := b6.x1; have p2 := b6.x2; have p3 := b6.x3; have p4 := b6.x4; have p5 := b6.x5
      have Hb6 := Lib.hid b6
      clear b6 hx6 HQ Hp HL HEa HbO
      cases B with
      | false =>
        have Hpn := Lib.hid (Hpo.out.symm.trans (plM_skip HBB.out)).symm
        clear p0 p1 p2 p3 p4 p5
        go_wp2_with fail
        go_roundg (n + 1 - (i + 1))
        case measure => have := Hk.out; have := Hlt.out; omega
        case rel => exact ⟨i + 1, u, b, s, bits, rfl, rfl, rfl, Hp6.out.le (Nat.le_succ _), Hlt.out, rfl, Hbl.out, by have := Hui.out; omega, Hut.out, Hpn.out⟩
      | true =>
        have hct : ∀ c ∈ ctl, 0 ≤ c ∧ c ≤ 60 := fun c hc => by have := Hft.out.ctl c hc; have := Hqn.out; omega
        have hq12 := Hft.out.q
        simp only at hq12
        obtain ⟨qv, rfl⟩ : ∃ qv : Nat, q = (qv : Int) := ⟨q.toNat, by omega⟩
        have Hqv := Lib.hid (show qv < qn by omega)
        have hne : ∀ c ∈ ctl, c.toNat ≠ ((qv : Nat) : Int).toNat := fun c hc e => by
          have h1 := Hft.out.ne c hc; have h2 := hct c hc
          simp only at h1
          omega
        have HGt := Lib.hid (QGate_any (Qc := fun k => k ≠ g) ⟨kd, k, ctl, (qv : Int), bt, cnd⟩ s qn m i b m a1 a2 n1 c1 n2 c2 8200 4100 w6 Hp6.out.st Hp6.out.amp Hm.out Hqn.out (by simp) (by simpa using Hqv.out) HL6.out.i1 HL6.out.h1 HL6.out.m1 hct hne (by have := Hlt.out; have := Hn4.out; omega) (by decide) (by have := Hlt.out; have := Hn4.out; omega) (by decide) Hp6.out.lim)
        simp only at HGt
        clear hq12 hct hne
        by_cases hk5 : kd < 5
        · have Hpn := Lib.hid (Hpo.out.symm.trans (plM_gate HBB.out hk5)).symm
          go_wp2_with fail
          refine HGt.out.mono ?_
          rintro e w7 ⟨b7, rfl, hS7, _, hx7⟩
          have H7 := Lib.hid (Hp6.out.to hx7 hS7 (gt_amp Hp6.out.amp))
          clear hS7 hx7 HGt p0 p1 p2 p3 p4 p5
          go_wp2_with fail
          go_roundg (n + 1 - (i + 1))
          case measure => have := Hk.out; have := Hlt.out; omega
          case rel => exact ⟨i + 1, u, b7, _, bits, rfl, rfl, rfl, H7.out, Hlt.out, rfl, Hbl.out, by have := Hui.out; omega, Hut.out, Hpn.out⟩
        have Hk5 := Lib.hid hk5
        clear HGt p1 p2
        have Hwl := Lib.hid (show want.length = tn from HTw.out.1)
        by_cases hu : u = tn
        · have HMe := Lib.hid (Hpo.out.symm.trans (plM_out HBB.out hk5 (by rw [Hwl.out]; exact hu)))
          have HF2 := Lib.hid (show F0 = 19 ∧ F1 = (i : Int) by
            have := HFF.out
            rw [HMe.out] at this
            exact ⟨(congrArg Prod.fst this).symm, (congrArg Prod.snd this).symm⟩)
          have bq : ((u : Int) == (tn : Int)) = true := by simp [hu]
          have Hz := Lib.hid (HFw.out.ext Hp6.out.ext)
          have HE6 := Lib.hid (HEz.out.trans Hp6.out.ext)
          clear hu
          go_wp2_with fail
          refine (rfault_any 19 (i : Int) _).mono ?_
          rintro e wz ⟨rfl, hxz⟩
          have bz := Hz.out.ext hxz; have x0' := bz.x0; have x1' := bz.x1; have g0' := bz.f 0; have g1' := bz.f 1; have HEy := Lib.hid (HE6.out.trans hxz)
          clear bz hxz p0 p3 p4 p5
          go_wp2_with fail
          exact bodyPost_ret (v := .tuple #[.slice none 0 0, .slice none 0 0, .int .i64 0, .agg #[.int .i64 19, .int .i64 (i : Int)]]) (by simp [results, Tryd.results20, go_sem, x0', x1']) rfl ⟨_, _, _, by rw [HF2.out.1, HF2.out.2], put2x HEy.out HwH.out _ _, fun h => absurd (HF2.out.1 ▸ h) (by decide), fun _ => ⟨rfl, rfl⟩⟩
        have hlt2 : u < tn := by have := Hut.out; omega
        obtain ⟨tb, to', hta, htb, htc⟩ := HTw.out.2.resolve_left (by omega)
        subst hta
        obtain ⟨v, hv⟩ : ∃ v, want.getD u 0 = v := ⟨_, rfl⟩
        have y0 := htc u hlt2
        rw [hv] at y0
        have y3 := cellKeep Hp6.out.ext (World.block_lt_of_cell? W1 ⟨tb, to' + u, none⟩ y0) y0
        have bq : ((u : Int) == (tn : Int)) = false := by simp; omega
        have u0 : (0 : Int) ≤ (u : Int) := by omega
        have u1 : (u : Int) < (tn : Int) := by omega
        have wu : IntKind.i64.wrap ((u : Int) + 1) = ((u + 1 : Nat) : Int) := by rw [IntKind.wrap_i64]; have := Hn4.out; have := Hui.out; have := Hlt.out; omega
        have Hv := Lib.hid hv; have Hune := Lib.hid hu; have Hlt2 := Lib.hid hlt2
        clear htb htc hu hlt2 hv y0
        by_cases hvb : v ≠ 0 ∧ v ≠ 1
        · have HMe := Lib.hid (Hpo.out.symm.trans (plM_bad HBB.out hk5 (by rw [Hwl.out]; exact Hune.out) Hv.out hvb))
          have HF2 := Lib.hid (show F0 = 20 ∧ F1 = (i : Int) by
            have := HFF.out
            rw [HMe.out] at this
            exact ⟨(congrArg Prod.fst this).symm, (congrArg Prod.snd this).symm⟩)
          have kn0 : (v != 0) = true := by simp; omega
          have kn1 : (v != 1) = true := by simp; omega
          have Hz := Lib.hid (HFw.out.ext Hp6.out.ext)
          have HE6 := Lib.hid (HEz.out.trans Hp6.out.ext)
          clear hvb
          go_wp2_with fail
          refine (rfault_any 20 (i : Int) _).mono ?_
          rintro e wz ⟨rfl, hxz⟩
          have bz := Hz.out.ext hxz; have x0' := bz.x0; have x1' := bz.x1; have g0' := bz.f 0; have g1' := bz.f 1; have HEy := Lib.hid (HE6.out.trans hxz)
          clear bz hxz p0 p3 p4 p5 y3
          go_wp2_with fail
          exact bodyPost_ret (v := .tuple #[.slice none 0 0, .slice none 0 0, .int .i64 0, .agg #[.int .i64 20, .int .i64 (i : Int)]]) (by simp [results, Tryd.results20, go_sem, x0', x1']) rfl ⟨_, _, _, by rw [HF2.out.1, HF2.out.2], put2x HEy.out HwH.out _ _, fun h => absurd (HF2.out.1 ▸ h) (by decide), fun _ => ⟨rfl, rfl⟩⟩
        have hv01 : v = 0 ∨ v = 1 := by omega
        have HOu := Lib.hid (QOutcome_any (Qc := fun k => k ≠ g) s m b m qv v 8200 4100 w6 Hp6.out.st (by rw [← Hm.out]; exact Nat.le_trans (Nat.pow_le_pow_right (by decide) Hqn.out) (by decide)) (by have := Hqv.out; have := Hqn.out; omega))
        have Hoa := Lib.hid (oc_amp (q := (qv : Int)) (b := v) Hp6.out.amp)
        have Hlim := Lib.hid Hp6.out.lim
        by_cases h5 : kd = 5
        · have hbb := Hft.out.bit h5
          simp only at hbb
          obtain ⟨bn, rfl⟩ : ∃ bn : Nat, bt = (bn : Int) := ⟨bt.toNat, by omega⟩
          have Hbn := Lib.hid (show bn < bits.length by rw [Hbl.out]; omega)
          have Hpn := Lib.hid (Hpo.out.symm.trans (plM_bit HBB.out h5 (by rw [Hwl.out]; exact Hune.out) Hv.out hv01)).symm
          have z0 : (0 : Int) ≤ (bn : Int) := by omega
          have z1 : (bn : Int) < (nb : Int) := by omega
          have bk : (kd == 5) = true := by simp [h5]
          have dk : ¬ kd < 5 := by omega
          clear hbb h5
          rcases hv01 with rfl | rfl
          all_goals
            clear hvb
            go_wp2_with fail
            refine HOu.out.mono ?_
            rintro e w7 ⟨b7, rfl, hS7, _, hx7⟩
            have H7 := Lib.hid (Hp6.out.to hx7 hS7 Hoa.out)
            have b7 := Hb6.out.ext hx7
            clear hS7 hx7 HOu p0 p3 p4 p5 y3
            have p0 := b7.x0; have p4 := b7.x4
            have t0 := H7.out.cell Hbn.out; have t1 := H7.out.fr bn
            clear b7
            go_wp2_with fail
            go_roundg (n + 1 - (i + 1))
            case measure => have := Hk.out; have := Hlt.out; omega
            case rel => exact ⟨i + 1, u + 1, _, _, _, rfl, rfl, rfl, (H7.out.put bn _).le (Nat.le_succ _), Hlt.out, rfl, by rw [List.length_set]; exact Hbl.out, by have := Hui.out; omega, Hlt2.out, Hpn.out⟩
        have bk : (kd == 5) = false := by simpa using h5
        rcases hv01 with rfl | rfl
        · have Hpn := Lib.hid (Hpo.out.symm.trans (plM_nought HBB.out hk5 h5 (by rw [Hwl.out]; exact Hune.out) Hv.out)).symm
          clear hvb h5
          go_wp2_with fail
          refine HOu.out.mono ?_
          rintro e w7 ⟨b7, rfl, hS7, _, hx7⟩
          have H7 := Lib.hid (Hp6.out.to hx7 hS7 Hoa.out)
          have o7 := Hb6.out.ext hx7
          clear hS7 hx7 HOu p0 p3 p4 p5 y3
          have p0 := o7.x0
          clear o7
          go_wp2_with fail
          go_roundg (n + 1 - (i + 1))
          case measure => have := Hk.out; have := Hlt.out; omega
          case rel => exact ⟨i + 1, u + 1, b7, _, bits, rfl, rfl, rfl, H7.out.le (Nat.le_succ _), Hlt.out, rfl, Hbl.out, by have := Hui.out; omega, Hlt2.out, Hpn.out⟩
        · have Hpn := Lib.hid (Hpo.out.symm.trans (plM_one HBB.out hk5 h5 (by rw [Hwl.out]; exact Hune.out) Hv.out)).symm
          clear hvb h5
          go_wp2_with fail
          refine HOu.out.mono ?_
          rintro e w7 ⟨b7, rfl, hS7, _, hx7⟩
          have H7 := Lib.hid (Hp6.out.to hx7 hS7 Hoa.out)
          have o7 := Hb6.out.ext hx7
          clear hS7 hx7 HOu p0 p3 p4 p5 y3
          have p0 := o7.x0; have p3 := o7.x3
          clear o7
          have HG7 := Lib.hid (QGate_any (Qc := fun k => k ≠ g) (xOp (qv : Int)) (oc (qv : Int) 1 s) qn m i b7 m none none 0 0 0 0 8200 4100 w7 H7.out.st H7.out.amp Hm.out Hqn.out (show (0 : Int) ≤ (qv : Int) by omega) (by show ((qv : Nat) : Int).toNat < qn; simpa using Hqv.out) ⟨rfl, Or.inl rfl⟩ (Nat.le_refl _) (by decide) (fun c hc => by simp [xOp] at hc) (fun c hc => by simp [xOp] at hc) (by have := Hlt.out; have := Hn4.out; omega) (by decide) (by have := Hlt.out; have := Hn4.out; omega) (by decide) H7.out.lim)
          simp only [xOp] at HG7
          go_wp2_with fail
          refine HG7.out.mono ?_
          rintro e w8 ⟨b8, rfl, hS8, _, hx8⟩
          have H8 := Lib.hid (H7.out.to hx8 hS8 (gt_amp H7.out.amp))
          clear hS8 hx8 HG7 p0 p3
          go_wp2_with fail
          go_roundg (n + 1 - (i + 1))
          case measure => have := Hk.out; have := Hlt.out; omega
          case rel => exact ⟨i + 1, u + 1, b8, _, bits, rfl, rfl, rfl, H8.out, Hlt.out, rfl, Hbl.out, by have := Hui.out; omega, Hlt2.out, Hpn.out⟩
  · have hcb := nt hc0
    have HFF := Lib.hid ((HFs.out f0 f1 (Hst.out.1 hc0)).1 hc0)
    have Hc0 := Lib.hid hc0
    clear hc0 Hz Hst HFs Hm0
    go_upto_region 3 with fail
    go_region
    go_wp2_with fail
    exact bodyPost_ret (v := .tuple #[.slice none 0 0, .slice none 0 0, .int .i64 0, .agg #[.int .i64 f0, .int .i64 f1]]) (by simp [results, Tryd.results20, go_sem, x0', x1']) rfl ⟨_, _, _, by rw [HFF.out.1, HFF.out.2], Below.drew (put2x HEz.out HwH.out _ _), fun h => absurd (HFF.out.1 ▸ h) Hc0.out, fun _ => ⟨rfl, rfl⟩⟩
end Go.Proofs.YtlmfhopifggeaaaDoor
namespace Go.Proofs.YtlmfhopifggeaaaDoor
variable {Qc : Nat → Prop}
open Go.RowKit

/-- The last that is not nought. -/
def lstN (f : Nat → Int) : Nat → Nat
  | 0 => 0
  | n + 1 => if f n = 0 then lstN f n else n
theorem lstN_lt (f : Nat → Int) : ∀ n, 0 < n → lstN f n < n
  | 0, h => absurd h (Nat.lt_irrefl 0)
  | 1, _ => by simp only [lstN]; split <;> omega
  | n + 2, _ => by
    have := lstN_lt f (n + 1) (by omega)
    rw [lstN]; split <;> omega
theorem lstN_len (f : Nat → Int) : ∀ n, 0 < n → lenN f n = lstN f n + 1
  | 0, h => absurd h (Nat.lt_irrefl 0)
  | 1, _ => by simp [lenN, lstN]
  | n + 2, _ => by
    have := lstN_len f (n + 1) (by omega)
    rw [lenN, lstN]
    by_cases h : f (n + 1) = 0
    · rw [if_pos ⟨by omega, h⟩, if_pos h, this]
    · rw [if_neg (fun k => h k.2), if_neg h]
theorem jnT_more (f : Nat → Int) (j : Nat) (h : 0 < j) : (⟨(jnT f j).toArray⟩ : ByteArray) ++ (⟨#[44]⟩ ++ ⟨(Lib.itoa (f j)).toArray⟩) = ⟨(jnT f (j + 1)).toArray⟩ := by
  apply ByteArray.ext
  simp [jnT, h]
set_option maxRecDepth 100000 in
set_option maxHeartbeats 4000000 in
theorem QText_nm (ca : Array Value) (x : Nm) (P E : Nat) (w : World) (h : RmA Qc w ca x P E) (hP : P ≤ 400000) (hE : E ≤ 1099511627776) :
    Calls Tryd.prog 43 #[.agg ca] w fun r w' => r = .returned (.string ⟨(rtx (nmF x)).toArray⟩) ∧ Ext w w' := by
  obtain ⟨f, hf⟩ : ∃ f, nmF x = f := ⟨_, rfl⟩
  obtain ⟨e, he⟩ : ∃ e, x.e = e := ⟨_, rfl⟩
  have hv : ZCs Qc w ca f (e : Int) := by rw [← he]; exact h.val.congr fun i hi => by rw [← hf]; unfold nmF; rw [if_neg (by omega)]
  have h8 : f 8 = (e : Int) := by rw [← hf, ← he]; rfl
  have hab : ∀ i, i < 8 → (f i).natAbs < 2 ^ P := fun i hi => by rw [← hf]; unfold nmF; rw [if_neg (by omega)]; exact h.abs i
  have hdn : e ≤ E := by rw [← he]; exact h.down
  have h0 := hv.box
  have E0 := Ext.alloc w (.cells ca 59)
  obtain ⟨H, hH⟩ : ∃ H, w.heap.size = H := ⟨_, rfl⟩
  obtain ⟨U, hU⟩ : ∃ U, w.alloc (.cells ca 59) = U := ⟨_, rfl⟩
  rw [hU, hH] at h0
  rw [hU] at E0
  rw [hf]
  have hlen := lstN_len f 8 (by decide); have hlt8 := lstN_lt f 8 (by decide)
  have Hrt := Lib.hid (show rtx f = jnT f (lstN f 8 + 1) ++ (if f 8 = 0 then [] else 47 :: Lib.itoa (f 8)) by unfold rtx; rw [hlen])
  have HV := Lib.hid h0; have HE := Lib.hid E0; have HU := Lib.hid hU; have HH := Lib.hid hH; have HP := Lib.hid hP; have HEE := Lib.hid hE; have H8 := Lib.hid h8; have Hab := Lib.hid hab; have Hdn := Lib.hid hdn; have Hlt8 := Lib.hid hlt8
  clear h hv hf he h0 E0 hU hH hP hE h8 hab hdn hlen hlt8
  go_enter Tryd.func43, Tryd.ntmps43
  go_wp2_with fail
  rw [HU.out, HH.out]
  clear HU
  go_loopg [3, 4] 8 (fun kk s3 s4 wr => ∃ j : Nat, s3 = .int .i64 ((lstN f j : Nat) : Int) ∧ s4 = .int .i64 (j : Int) ∧ j ≤ 8 ∧ 8 - j = kk ∧ ZVar Qc wr H f (e : Int) ∧ Ext w wr)
  case atStart => exact ⟨0, rfl, rfl, by omega, by omega, HV.out, HE.out⟩
  case round =>
    clear HV HE
    obtain ⟨j, rfl, rfl, hj, hjk, hV, hE⟩ := hrel
    obtain ⟨wo, rfl⟩ : ∃ wo : World, wo = wr := ⟨_, rfl⟩
    have HV := Lib.hid hV; have HE := Lib.hid hE; have Hjk := Lib.hid hjk
    by_cases hj8 : j = 8
    · subst hj8
      obtain ⟨b, a, n, c, y0, y1, _, _, hI⟩ := hV.get 0 (by decide)
      have hn : n ≤ P := hI.bits (Hab.out 0 (by decide))
      have HT := Lib.hid (ZText_any b a n c (f 0) wo hI (by have := HP.out; omega))
      clear hI hn hV hE hj hjk Hjk
      go_wp2_with fail
      refine HT.out.mono ?_
      rintro r w1 ⟨rfl, hx1⟩
      have HV1 := Lib.hid (HV.out.ext hx1); have HE1 := Lib.hid (HE.out.trans hx1)
      clear HV HE HT hx1 y0 y1
      obtain ⟨m, hm⟩ : ∃ m, lstN f 8 = m := ⟨_, rfl⟩
      rw [hm] at Hlt8 Hrt ⊢
      go_wp2_with fail
      go_loopg [5, 6] m (fun kk s5 s6 wr => ∃ j : Nat, s5 = .string ⟨(jnT f j).toArray⟩ ∧ s6 = .int .i64 (j : Int) ∧ 1 ≤ j ∧ j ≤ m + 1 ∧ m + 1 - j = kk ∧ ZVar Qc wr H f (e : Int) ∧ Ext w wr)
      case atStart => exact ⟨1, by simp [jnT], rfl, by omega, by omega, by omega, HV1.out, HE1.out⟩
      case round =>
        clear HV1 HE1
        obtain ⟨j, rfl, rfl, hj0, hj, hjk, hV, hE⟩ := hrel
        obtain ⟨wo, rfl⟩ : ∃ wo : World, wo = wr := ⟨_, rfl⟩
        by_cases hjm : j = m + 1
        · have q1 : ¬ (j : Int) ≤ (m : Int) := by omega
          have x16 := hV.gete.1
          subst hjm
          by_cases he0 : e = 0
          · subst he0
            have Hend := Lib.hid (show rtx f = jnT f (m + 1) by rw [Hrt.out, H8.out]; simp)
            have HE := Lib.hid hE
            clear hV hE hj hj0 hjk
            go_wp2_with fail
            go_ret
            exact ⟨congrArg (fun l : List UInt8 => Ending.returned (Value.string ⟨l.toArray⟩)) Hend.out.symm, HE.out⟩
          · have q2 : (0 : Int) < (e : Int) := by omega
            have q3 : 0 < e := by omega
            have HZo := Lib.hid (ZOf_any (Qc := fun _ => True) (e : Int) (by omega) (by have := Hdn.out; have := HEE.out; omega) wo (fun _ _ => trivial))
            have Hend := Lib.hid (show (⟨(rtx f).toArray⟩ : ByteArray) = ⟨(jnT f (m + 1)).toArray⟩ ++ (⟨#[47]⟩ ++ ⟨(Lib.itoa (e : Int)).toArray⟩) by
              rw [Hrt.out, H8.out, if_neg (by omega)]
              apply ByteArray.ext
              simp)
            have HE := Lib.hid hE
            have hq1 := ritoa_len (e : Int) 41 (by have := Hdn.out; have := HEE.out; rw [Int.natAbs_natCast]; exact Nat.lt_of_le_of_lt (show e ≤ 1099511627776 by omega) (by decide))
            have hq2 := Nat.le_trans (jnT_len f P Hab.out (m + 1) Hlt8.out) (Nat.mul_le_mul_right (P + 3) (show m + 1 ≤ 8 from Hlt8.out))
            have Hs := Lib.hid (show ¬ 9223372036854775807 < 1 + (Lib.itoa (e : Int)).length ∧ ¬ 9223372036854775807 < (jnT f (m + 1)).length + (1 + (Lib.itoa (e : Int)).length) by have := HP.out; omega)
            clear hV hE hj hj0 hjk he0 hq1 hq2
            go_wp2_with fail
            refine HZo.out.mono ?_
            rintro r w2 ⟨b2, a2, n2, c2, rfl, hI2, hn2, hx2⟩
            have HT2 := Lib.hid (ZText_any b2 a2 n2 c2 (e : Int) w2 hI2 (by omega))
            have HE2 := Lib.hid (HE.out.trans hx2)
            clear hI2 hn2 hx2 HE HZo x16
            go_wp2_with fail
            refine HT2.out.mono ?_
            rintro r w3 ⟨rfl, hx3⟩
            have hs1 := Hs.out.1; have hs2 := Hs.out.2
            have HE3 := Lib.hid (HE2.out.trans hx3)
            clear hx3 HE2 HT2
            go_wp2_with fail
            go_ret
            exact ⟨congrArg (fun b : ByteArray => Ending.returned (Value.string b)) Hend.out.symm, HE3.out⟩
        have q1 : (j : Int) ≤ (m : Int) := by omega
        have q2 : (0 : Int) ≤ (j : Int) := by omega
        have hj8 : j < 8 := by have := Hlt8.out; omega
        have q3 : (j : Int) < 8 := by omega
        have wk : IntKind.i64.wrap ((j : Int) + 1) = ((j + 1 : Nat) : Int) := by rw [IntKind.wrap_i64]; omega
        have Hmore := Lib.hid (jnT_more f j hj0)
        have Hj1 := Lib.hid (show 1 ≤ j + 1 ∧ j + 1 ≤ m + 1 by omega); have Hjk := Lib.hid hjk
        obtain ⟨b, a, n, c, y0, y1, _, _, hI⟩ := hV.get j hj8
        have hn : n ≤ P := hI.bits (Hab.out j hj8)
        have HT := Lib.hid (ZText_any b a n c (f j) wo hI (by have := HP.out; omega))
        have HV := Lib.hid hV; have HE := Lib.hid hE
        have hq1 := ritoa_len (f j) P (Hab.out j hj8)
        have hq2 := Nat.le_trans (jnT_len f P Hab.out j (by omega)) (Nat.mul_le_mul_right (P + 3) (show j ≤ 8 by omega))
        have Hs := Lib.hid (show ¬ 9223372036854775807 < 1 + (Lib.itoa (f j)).length ∧ ¬ 9223372036854775807 < (jnT f j).length + (1 + (Lib.itoa (f j)).length) by have := HP.out; omega)
        clear hI hn hV hE hj hj0 hjk hjm hj8 hq1 hq2
        go_wp2_with fail
        refine HT.out.mono ?_
        rintro r w1 ⟨rfl, hx1⟩
        have hs1 := Hs.out.1; have hs2 := Hs.out.2
        have HV1 := Lib.hid (HV.out.ext hx1); have HE1 := Lib.hid (HE.out.trans hx1)
        clear HV HE HT hx1 y0 y1
        go_wp2_with fail
        go_roundg (m + 1 - (j + 1))
        case measure => have := Hjk.out; have := Hj1.out; omega
        case rel => exact ⟨j + 1, congrArg Value.string Hmore.out, rfl, Hj1.out.1, Hj1.out.2, rfl, HV1.out, HE1.out⟩
    have hlt : j < 8 := by omega
    have q1 : (j : Int) < 8 := by omega
    have q0 : (0 : Int) ≤ (j : Int) := by omega
    have wk : IntKind.i64.wrap ((j : Int) + 1) = ((j + 1 : Nat) : Int) := by rw [IntKind.wrap_i64]; omega
    have Hj1 := Lib.hid (show j + 1 ≤ 8 by omega)
    obtain ⟨b, a, n, c, y0, y1, _, _, hI⟩ := hV.get j hlt
    have hiff := hI.nil_iff
    clear hI hj8 hj hlt hV hE hjk
    by_cases hn : n = 0
    · have q2 : ¬ (0 : Int) < (n : Int) := by omega
      have Hl := Lib.hid (show lstN f (j + 1) = lstN f j by rw [lstN, if_pos (hiff.1 hn)])
      clear hn hiff
      go_wp2_with fail
      go_roundg (8 - (j + 1))
      case measure => have := Hjk.out; have := Hj1.out; omega
      case rel => exact ⟨j + 1, by rw [Hl.out], rfl, Hj1.out, rfl, HV.out, HE.out⟩
    · have q2 : (0 : Int) < (n : Int) := by omega
      have Hl := Lib.hid (show lstN f (j + 1) = j by rw [lstN, if_neg (fun k => hn (hiff.2 k))])
      clear hn hiff
      go_wp2_with fail
      go_roundg (8 - (j + 1))
      case measure => have := Hjk.out; have := Hj1.out; omega
      case rel => exact ⟨j + 1, by rw [Hl.out], rfl, Hj1.out, rfl, HV.out, HE.out⟩
end Go.Proofs.YtlmfhopifggeaaaDoor
namespace Go.Proofs.YtlmfhopifggeaaaDoor
open Go.RowKit

/-- An amplitude as it is written. -/
def txA (z : Nm) : Value := .string ⟨(rtx (nmF z)).toArray⟩
theorem S_info : (Tryd.prog.info? 9).map (fun i => (i.zero, i.size, i.bytes)) = some (some (.string ⟨#[]⟩), 1, 16) := by kernel_rfl
end Go.Proofs.YtlmfhopifggeaaaDoor
namespace Go.Proofs.YtlmfhopifggeaaaDoor
variable {Qc : Nat → Prop}
open Go.RowKit

/-- The first j amplitudes as they are written. -/
def txV (s : Nat → Nm) (j : Nat) : List Value := (List.range j).map fun x => txA (s x)
theorem txV_snoc (s : Nat → Nm) (j : Nat) : txV s (j + 1) = txV s j ++ [txA (s j)] := by unfold txV; rw [List.range_succ, List.map_append]; rfl
theorem txV_get (s : Nat → Nm) {j t : Nat} (h : t < j) : (txV s j)[t]? = some (txA (s t)) := by
  unfold txV
  rw [List.getElem?_map, List.getElem?_range h]; rfl
theorem new_t (w : World) (x : Value) (e : TypeId) : ∀ j u, ([x] : List Value)[j]? = some u → (w.alloc (.cells #[x] e)).cell? ((⟨w.heap.size, 0, none⟩ : Addr).add j) = some u := by
  intro j u hu
  have hadd : (⟨w.heap.size, 0, none⟩ : Addr).add j = ⟨w.heap.size, j, none⟩ := by unfold Addr.add; split <;> simp_all
  rw [hadd, cell_of_row _ _ j _ _ (0, 0) (heap_alloc_new w _)]
  match j, hu with
  | 0, hu => simpa using hu
  | k + 1, hu => simp at hu
theorem one_t (x : ByteArray) : ∀ u ∈ ([Value.string x] : List Value), u.oneCell' = true := by
  intro u hu
  simp only [List.mem_singleton] at hu
  subst hu
  rfl

theorem own_kept {w w' : World} {base n : Nat} {t : TypeId} {v : Value} {l : List Value} (h : w.ownsRow base t 1 v n l) (k : Ext w w') : w'.ownsRow base t 1 v n l := by
  obtain ⟨h1, h2 | ⟨g, cap, cur, e1, e2, e3, e4⟩⟩ := h
  · exact ⟨h1, Or.inl h2⟩
  · exact ⟨h1, Or.inr ⟨g, cap, cur, e1, e2, (k.block g (Array.getElem?_eq_some_iff.1 e3).1).trans e3, e4⟩⟩

set_option maxRecDepth 100000 in
set_option maxHeartbeats 4000000 in
theorem QTexts_any (b n cp : Nat) (s : Nat → Nm) (P E : Nat) (w : World) (h : RsAt Qc w b n s P E) (hn : n ≤ 4096) (hP : P ≤ 400000) (hE : E ≤ 1099511627776) :
    Calls Tryd.prog 24 #[.slice (some ⟨b, 0, none⟩) n cp] w fun e w' => ∃ v, e = .returned v ∧ w'.ownsRow w.heap.size 9 1 v n (txV s n) ∧ Ext w w' := by
  obtain ⟨i0, hi, hz0, hz1, hz2⟩ := info_parts S_info
  have Hh := Lib.hid h; have HP := Lib.hid hP; have HE := Lib.hid hE; have Hn := Lib.hid hn
  clear h hP hE hn
  go_enter Tryd.func24, Tryd.ntmps24
  go_wp2_with fail
  go_loopg [3, 4] n (fun k s3 s4 wr => Ext w wr ∧ ∃ i : Nat, s4 = .int .i64 (i : Int) ∧ i ≤ n ∧ n - i = k ∧ wr.ownsRow w.heap.size 9 1 s3 i (txV s i))
  case atStart => exact ⟨Ext.refl _, 0, rfl, Nat.zero_le _, rfl, ⟨rfl, Or.inl ⟨rfl, rfl⟩⟩⟩
  case round =>
    obtain ⟨hER, i, rfl, hil, hk, hown⟩ := hrel
    have HER := Lib.hid hER; have Hown := Lib.hid hown; have Hk := Lib.hid hk
    clear hER hown hk
    by_cases hin : i = n
    · have q1 : ¬ (i : Int) < (n : Int) := by omega
      have Hend := Lib.hid (show wr.ownsRow w.heap.size 9 1 u3 n (txV s n) ∧ Ext w wr from ⟨hin ▸ Hown.out, HER.out⟩)
      clear hin hil Hown
      go_wp2_with fail
      go_ret
      exact ⟨_, rfl, Hend.out⟩
    have hlt : i < n := by omega
    have q1 : (i : Int) < (n : Int) := by omega
    have q0 : (0 : Int) ≤ (i : Int) := by omega
    have wk : IntKind.i64.wrap ((i : Int) + 1) = ((i + 1 : Nat) : Int) := by rw [IntKind.wrap_i64]; have := Hn.out; omega
    obtain ⟨cl, hcl, hRl, hln⟩ := (Hh.out.ext HER.out).at hlt
    have hil' : (Tryd.prog.info? 59).map (·.size) = some cl.length := by rw [hln]; exact R_size
    have Hlt := Lib.hid hlt; have HRl := Lib.hid hRl
    clear hin hil hlt hRl hln
    go_wp2_with (refine wpList_load_mid rfl 59 _ rfl b (i * 17) rfl cl _ hcl Tryd.underlying59 rfl hil' ?_)
    refine (QText_nm cl.toArray _ _ _ wr HRl.out HP.out HE.out).mono ?_
    rintro e w2 ⟨rfl, hx2⟩
    have HE2 := Lib.hid (HER.out.trans hx2)
    have Hown2 := Lib.hid (own_kept Hown.out hx2)
    clear hx2 hcl hil' HRl Hown
    go_wp2_with (at_builtin; refine wpList_append_own _ rfl _ _ 61 rfl w.heap.size 9 i0 (.string ⟨#[]⟩) 1 16 Tryd.underlying61 hi hz0 hz1 hz2 rfl (by decide) _ i (txV s i) rfl (Hown2.out.alloc _) ⟨w2.heap.size, 0, none⟩ 1 1 [txA (s i)] rfl rfl (new_t w2 _ _) (one_t _) (by unfold maxLen; have := Hn.out; have := Hlt.out; omega) (by have := Hn.out; have := Hlt.out; omega) (Nat.le_trans HE2.out.size (ext_alloc w2 _).size) ?_; intro v' w7 hown' hgrow' _)
    go_roundg (n - (i + 1))
    case measure => have := Hk.out; have := Hlt.out; omega
    case rel => exact ⟨ext_grown (HE2.out.trans (ext_alloc w2 _)) hgrow' (fun k hk => (Hown2.out.lt k hk).1), i + 1, rfl, Hlt.out, rfl, by rw [txV_snoc]; exact hown'⟩
end Go.Proofs.YtlmfhopifggeaaaDoor
