/-
  The reference's Print.
-/
import Derived.Test.YtpabafioofhklaaDoorMDb
import Derived.Laws.Concat

namespace Go.Proofs.YtpabafioofhklaaDoor
open Go.RowKit

theorem sadd (a b : List UInt8) (h : a.length + b.length ≤ 9223372036854775807) (W : World) : (Op.stringOp .add ⟨a.toArray⟩ ⟨b.toArray⟩).run Tryd.prog W = .ok (.string ⟨(a ++ b).toArray⟩) W := by
  rw [run_string_add_sum W _ _ (by simp [ByteArray.size]; omega), ba_add]

set_option maxHeartbeats 4000000 in
set_option maxRecDepth 100000 in
theorem RPrint_any (c : Gci) (ao : Option Addr) (n cp : Nat) (w : World) (h : OpsAt w ao n c.ops) (hn : n ≤ cp) (hcp : cp ≤ 9223372036854775807) :
    Calls Tryd.prog 15 #[.agg #[.int .i64 c.qubits, .int .i64 c.bits, .slice ao n cp]] w fun e w' => e = .returned (.tuple #[.string (prnV c), .agg #[.int .i64 (chk c).1, .int .i64 (chk c).2]]) ∧ Ext w w' := by
  unfold prnV
  obtain ⟨qb, bi, ops⟩ := c
  obtain ⟨f, hf⟩ : ∃ f, chk ⟨qb, bi, ops⟩ = f := ⟨_, rfl⟩
  obtain ⟨f0, f1⟩ := f
  have hz0 : f0 = 0 → f1 = 0 ∧ n ≤ 4096 ∧ (0 ≤ qb ∧ qb < 100) ∧ (0 ≤ bi ∧ bi < 100) ∧ ∀ g ∈ ops, PrFit g := by
    intro h0
    obtain ⟨e1, e0, e3, e4, e5, e6, e2⟩ := chk_zero (c := ⟨qb, bi, ops⟩) (by rw [hf]; exact h0)
    rw [hf] at e1
    have hl := h.1
    simp only at e6 hl e0 e3 e4 e5
    exact ⟨congrArg Prod.snd e1, by omega, by omega, by omega, fun g hg => prFit_of_code e3 e4 e5 (e2 g hg)⟩
  have Hz0 := Lib.hid hz0
  rw [hf]
  have Hf := Lib.hid hf
  obtain ⟨H, hH⟩ : ∃ H, w.heap.size = H := ⟨_, rfl⟩
  obtain ⟨A1, hA1⟩ : ∃ A1, w.alloc (.cells #[.int .i64 qb, .int .i64 bi, .slice ao n cp] 24) = A1 := ⟨_, rfl⟩
  obtain ⟨A3, hA3⟩ : ∃ A3, A1.alloc (.cells #[.int .i64 0, .int .i64 0] 28) = A3 := ⟨_, rfl⟩
  have s1 : A1.heap.size = H + 1 := by rw [← hA1, ← hH]; simp
  have x1 : Ext w A1 := by rw [← hA1]; exact ext_al _ _
  have x3 : Ext A1 A3 := by rw [← hA3]; exact ext_al _ _
  have bC : CiB A3 H qb bi ao n cp := by
    have : CiB A1 H qb bi ao n cp := by rw [← hA1, ← hH]; exact ⟨heap_alloc_new w _⟩
    exact this.ext x3
  have bF : FtB A3 (H + 1) 0 0 := by rw [← hA3, ← s1]; exact ⟨heap_alloc_new A1 _⟩
  have E0 : Ext w A3 := x1.trans x3
  have hA : ( w.alloc (.cells #[.int .i64 qb, .int .i64 bi, .slice ao n cp] 24)).alloc (.cells #[.int .i64 0, .int .i64 0] 28) = A3 := by rw [hA1, hA3]
  have Hl := Lib.hid h.1
  subst hH
  simp only at Hl ⊢
  obtain ⟨V, hV⟩ : ∃ V, (if f0 = 0 then (⟨(prn ⟨qb, bi, ops⟩).toArray⟩ : ByteArray) else ⟨#[]⟩) = V := ⟨_, rfl⟩
  rw [hV]
  have HV := Lib.hid hV
  clear hV
  have HE0 := Lib.hid E0; have HO := Lib.hid (h.ext E0); have HC := Lib.hid bC; have HFt := Lib.hid bF
  have m0 := bC.x0; have m1 := bC.x1; have m2 := bC.x2
  rw [← hA] at m0 m1 m2
  have HA := Lib.hid hA
  clear h E0 bC bF hf hz0 x1 x3 s1 hA1 hA3 hA
  go_enter Tryd.func15, Tryd.ntmps15
  go_wp2_with fail
  rw [HA.out]
  have HK := Lib.hid (RCheck_any ⟨qb, bi, ops⟩ ao n cp A3 HO.out hn hcp)
  rw [Hf.out] at HK
  refine HK.out.mono ?_
  rintro e w1 ⟨rfl, hx1⟩
  have Ef := ext_al w1 (.cells #[.int .i64 f0, .int .i64 f1] 28)
  have bf1 : FtB (w1.alloc (.cells #[.int .i64 f0, .int .i64 f1] 28)) w1.heap.size f0 f1 := ⟨heap_alloc_new w1 _⟩
  have q0 := bf1.x0; have q1 := bf1.x1
  have HX1 := Lib.hid (hx1.trans Ef)
  have bz := HFt.out.ext HX1.out; have x0' := bz.x0; have x1' := bz.x1; have g0' := bz.f 0; have g1' := bz.f 1
  have bc := HC.out.ext HX1.out
  have hsz1 := hx1.size
  have hA3 := HFt.out.lt
  have HbC := Lib.hid bc; have HbF := Lib.hid bz
  have Hf1 := Lib.hid bf1
  clear bz bc m0 m1 m2 hx1 Ef bf1 HK Hf
  by_cases h0 : f0 = 0
  · subst h0
    obtain ⟨rfl, hn4, hqb, hbi, hfit⟩ := Hz0.out rfl
    have HW : Hid (V = ⟨(prn ⟨qb, bi, ops⟩).toArray⟩) := by have := HV.out; rw [if_pos rfl] at this; exact this.symm
    have HbQ := Lib.hid Hf1.out
    have hQlt := Hf1.out.lt
    have HdP : Hid (prn ⟨qb, bi, ops⟩ = ([113, 117, 98, 105, 116, 115, 32] ++ Lib.decDigits qb.toNat ++ [32, 98, 105, 116, 115, 32] ++ Lib.decDigits bi.toNat ++ [10]) ++ prnAll ops) := by
      show _ = _
      simp [prn, numL, prnAll]
    obtain ⟨D1, hD1⟩ : ∃ x, Lib.decDigits qb.toNat = x := ⟨_, rfl⟩
    obtain ⟨D2, hD2⟩ : ∃ x, Lib.decDigits bi.toNat = x := ⟨_, rfl⟩
    have l1 : D1.length ≤ 2 := by rw [← hD1]; exact dd_len (by omega)
    have l2 : D2.length ≤ 2 := by rw [← hD2]; exact dd_len (by omega)
    have HN1 := Lib.hid (fun wx => num_any qb wx hqb.1 hqb.2)
    have HN2 := Lib.hid (fun wx => num_any bi wx hbi.1 hbi.2)
    rw [hD1] at HN1 HdP; rw [hD2] at HN2 HdP
    obtain ⟨s1, hs1'⟩ : ∃ x : List UInt8, [113, 117, 98, 105, 116, 115, 32] ++ D1 = x := ⟨_, rfl⟩
    obtain ⟨s2, hs2'⟩ : ∃ x : List UInt8, s1 ++ [32, 98, 105, 116, 115, 32] = x := ⟨_, rfl⟩
    obtain ⟨s3, hs3'⟩ : ∃ x : List UInt8, s2 ++ D2 = x := ⟨_, rfl⟩
    obtain ⟨hd, hhd⟩ : ∃ x : List UInt8, s3 ++ [10] = x := ⟨_, rfl⟩
    rw [hs1', hs2', hs3', hhd] at HdP
    have k1 : s1.length ≤ 9 := by rw [← hs1']; simp; omega
    have k2 : s2.length ≤ 15 := by rw [← hs2']; simp; omega
    have k3 : s3.length ≤ 17 := by rw [← hs3']; simp; omega
    have hhl : hd.length ≤ 30 := by rw [← hhd]; simp; omega
    have hs1 : ∀ W : World, (Op.stringOp .add ⟨#[113, 117, 98, 105, 116, 115, 32]⟩ ⟨D1.toArray⟩).run Tryd.prog W = .ok (.string ⟨s1.toArray⟩) W := fun W => by rw [← hs1']; exact sadd [113, 117, 98, 105, 116, 115, 32] D1 (by simp; omega) W
    have hs2 : ∀ W : World, (Op.stringOp .add ⟨s1.toArray⟩ ⟨#[32, 98, 105, 116, 115, 32]⟩).run Tryd.prog W = .ok (.string ⟨s2.toArray⟩) W := fun W => by rw [← hs2']; exact sadd s1 [32, 98, 105, 116, 115, 32] (by simp; omega) W
    have hs3 : ∀ W : World, (Op.stringOp .add ⟨s2.toArray⟩ ⟨D2.toArray⟩).run Tryd.prog W = .ok (.string ⟨s3.toArray⟩) W := fun W => by rw [← hs3']; exact sadd s2 D2 (by omega) W
    have hs4 : ∀ W : World, (Op.stringOp .add ⟨s3.toArray⟩ ⟨#[10]⟩).run Tryd.prog W = .ok (.string ⟨hd.toArray⟩) W := fun W => by rw [← hhd]; exact sadd s3 [10] (by simp; omega) W
    obtain ⟨F, hF⟩ := Classical.axiomOfChoice (fun W : World => show ∃ y : Value × World, (convert 9 54 (.string ⟨hd.toArray⟩)).run Tryd.prog W = .ok y.1 y.2 ∧ OwB y.2 W.heap.size y.1 hd ∧ Ext W y.2 from by
      obtain ⟨v, w', h1, h2, h3⟩ := bytes_of W hd (by omega)
      exact ⟨(v, w'), h1, h2, h3⟩)
    have hcv : ∀ W : World, (convert 9 54 (.string ⟨hd.toArray⟩)).run Tryd.prog W = .ok (F W).1 (F W).2 := fun W => (hF W).1
    have HF := Lib.hid hF
    clear hF hD1 hD2 hhd hs1' hs2' hs3' k1 k2 k3 l1 l2 HV Hz0 HC HFt HA x0' x1' g0' g1' Hf1
    have v0 := HbC.out.x0; have v1 := HbC.out.x1
    go_upto_region 4 with fail
    generalize w1.alloc (.cells #[.int .i64 0, .int .i64 0] 28) = W1 at *
    have lB := World.block_lt_of_cell? W1 ⟨w.heap.size, 0, none⟩ v0
    have hE00 : Ext W1 W1 := Ext.refl _
    have hE0d : Ext W1 W1.drew := Below.drew (Ext.refl _)
    go_cut [5] from 13 to 23 (fun s5 wx => OwB wx W1.heap.size s5 hd ∧ Ext W1 wx)
    case first =>
      go_region_with (first
          | (have _ := hy1; go_at_call 33; refine (HN2.out u1).mono ?_; rintro e u2 ⟨rfl, hy2⟩; have hu2 : Ext W1 u2 := hu1.trans hy2; have v0'' := ckeep hu2 lB v0; have v1'' := ckeep hu2 lB v1)
          | (go_at_call 33; refine (HN1.out _).mono ?_; rintro e u1 ⟨rfl, hy1⟩; have hu1 : Ext W1 u1 := hE0d.trans hy1; have v0' := ckeep hu1 lB v0; have v1' := ckeep hu1 lB v1))
      all_goals
        go_wp2_with fail
        go_meet
        exact ⟨by
          obtain ⟨g, cap, cur, fz, r1, r2, r⟩ := (HF.out u2).2.1
          exact ⟨g, cap, cur, fz, r1, Nat.le_trans hu2.size r2, r⟩, hu2.trans (HF.out u2).2.2⟩
    case rest =>
    obtain ⟨hO5, hE5⟩ := hcut
    have HO5 := Lib.hid hO5; have HE5 := Lib.hid hE5
    have v2 := HbC.out.x2
    have hsX := HX1.out.size
    have hlenA := prnAll_len ops hfit
    rw [Hl.out] at hlenA
    have Hfit := Lib.hid hfit
    clear hO5 hE5 hfit HF HN1 HN2 hcv hs1 hs2 hs3 hs4 hE00 hE0d v0 v1 q0 q1
    have v2c := ckeep HE5.out lB v2
    go_wp2_with fail
    go_loopg [5, 6] n (fun kk s5 s6 wx => ∃ i : Nat, s6 = .int .i64 (i : Int) ∧ i ≤ n ∧ n - i = kk ∧ OwB wx W1.heap.size s5 (hd ++ prnAll (ops.take i)) ∧ Ext W1 wx)
    case atStart => exact ⟨0, rfl, by omega, by omega, by simpa [prnAll] using HO5.out, HE5.out⟩
    case round =>
      clear HO5 HE5 v2c
      obtain ⟨i, rfl, hi1, hk, hB, hE⟩ := hrel
      have v2r := ckeep hE lB v2
      by_cases hin : i = n
      · have h2 : ¬ (i : Int) < (n : Int) := by omega
        rw [List.take_of_length_le (by rw [Hl.out]; omega), ← HdP.out] at hB
        obtain ⟨g, cap, cur, fz, rfl, rB⟩ := hB
        have hB : OwB wr W1.heap.size (.slice (some ⟨g, 0, none⟩) (prn ⟨qb, bi, ops⟩).length cap) (prn ⟨qb, bi, ops⟩) := ⟨g, cap, cur, fz, rfl, rB⟩
        obtain ⟨pl, hpl⟩ : ∃ x, (prn ⟨qb, bi, ops⟩).length = x := ⟨_, rfl⟩
        rw [hpl] at hB ⊢
        have hcb := hB.text
        have hcb' : (convert 54 9 (.slice (some ⟨g, 0, none⟩) pl cap)).run Tryd.prog wr.drew = .ok (.string ⟨(prn ⟨qb, bi, ops⟩).toArray⟩) wr.drew := OwB.text (w := wr.drew) hB
        have bF := HbF.out.ext hE; have bQ := HbQ.out.ext hE
        have x0' := bF.x0; have x1' := bF.x1; have g0' := bF.f 0; have g1' := bF.f 1; have q0 := bQ.x0; have q1 := bQ.x1
        have HEz := Lib.hid ((HE0.out.trans HX1.out).trans hE)
        have ne3 : w1.heap.size ≠ w.heap.size + 1 := by omega
        clear hB hE bF bQ v2 rB hpl
        go_wp2_with fail
        go_region
        go_wp2_with fail
        refine bodyPost_ret (v := .tuple #[.string ⟨(prn ⟨qb, bi, ops⟩).toArray⟩, .agg #[.int .i64 0, .int .i64 0]]) (by simp [results, Tryd.results15, go_sem, x0', x1']) rfl ⟨by rw [HW.out], ?_⟩
        exact Below.drew (cput (cput HEz.out (by omega) _) (by omega) _)
      · have h2 : (i : Int) < (n : Int) := by omega
        have h0 : (0 : Int) ≤ (i : Int) := by omega
        obtain ⟨b', o', rfl⟩ := HO.out.some_of (by omega)
        obtain ⟨g, hg⟩ : ∃ g, ops[i]? = some g := ⟨_, List.getElem?_eq_getElem (by rw [Hl.out]; omega)⟩
        obtain ⟨a1, n1, c1, a2, n2, c2, e0, e1, e2, e3, e4, e5, hL⟩ := ((HO.out.ext HX1.out).ext hE).at i g hg
        have hpf := Hfit.out g (List.mem_of_getElem? hg)
        have hpl := prnOp_len hpf
        have hst : ops.take (i + 1) = ops.take i ++ [g] := by rw [List.take_add_one, hg]; rfl
        have Hst : Hid (hd ++ prnAll (ops.take (i + 1)) = (hd ++ prnAll (ops.take i)) ++ (prnOp g ++ [10])) := by
          show _ = _
          rw [hst, prnAll_snoc]; simp
        have hla := prnAll_len (ops.take i) (fun o ho => Hfit.out o (List.mem_of_mem_take ho))
        have hlt : (ops.take i).length ≤ n := by rw [List.length_take, Hl.out]; omega
        obtain ⟨lx, hlx⟩ : ∃ x, hd ++ prnAll (ops.take i) = x := ⟨_, rfl⟩
        have hlxn : lx.length ≤ 40 + 158 * n := by
          rw [← hlx, List.length_append]
          have : 158 * (ops.take i).length ≤ 158 * n := Nat.mul_le_mul_left _ hlt
          omega
        rw [hlx] at hB Hst
        have HT := Lib.hid (opText_any g a1 n1 c1 a2 n2 c2 wr hL hpf)
        obtain ⟨ly, hly⟩ : ∃ x, prnOp g ++ [10] = x := ⟨_, rfl⟩
        have hlyn : ly.length ≤ 158 := by rw [← hly, List.length_append]; simp; omega
        rw [hly] at HT Hst
        obtain ⟨g5, cap5, cur5, fz5, rfl, rB⟩ := hB
        have HBr := Lib.hid (show OwB wr W1.heap.size (.slice (some ⟨g5, 0, none⟩) lx.length cap5) lx from ⟨g5, cap5, cur5, fz5, rfl, rB⟩); have HEr := Lib.hid hE
        clear rB
        obtain ⟨kd, kk', ctl, qq, bb, cnd⟩ := g
        simp only at e0 e1 e2 e3 e4 e5 HT
        clear hg hL hpf hpl hst hla hlt hlx hly hE
        go_wp2_with fail
        refine HT.out.mono ?_
        rintro e w4 ⟨rfl, hx4⟩
        have HB4 := Lib.hid (HBr.out.ext hx4); have HE4 := Lib.hid (HEr.out.trans hx4)
        have hz4 := HE4.out.size
        clear hx4 HT HBr HEr e0 e1 e2 e3 e4 e5
        go_wp2_with (at_builtin; refine wpList_append_ob rfl _ _ rfl w4 W1.heap.size (.slice (some ⟨g5, 0, none⟩) lx.length cap5) lx ly rfl HB4.out hz4 rfl ?bnd ?_)
        case bnd => omega
        intro v' w5 hB5 hb5
        have H5 := Lib.hid hB5; have HE5 := Lib.hid (show Ext W1 w5 from Below.trans HE4.out hb5)
        clear hB5 hb5
        go_wp2_with fail
        go_roundg (n - (i + 1))
        case measure => omega
        case rel => exact ⟨i + 1, by go_num, by omega, rfl, by rw [Hst.out]; exact H5.out, HE5.out⟩
  · have e1 := nt h0
    have HW : Hid (V = ⟨#[]⟩) := by have := HV.out; rw [if_neg h0] at this; exact this.symm
    clear h0
    go_wp2_with fail
    go_region
    go_wp2_with fail
    refine bodyPost_ret (v := .tuple #[.string ⟨#[]⟩, .agg #[.int .i64 f0, .int .i64 f1]]) (by simp [results, Tryd.results15, go_sem, x0', x1']) rfl ⟨by rw [HW.out], ?_⟩
    exact Below.drew (cput (cput (HE0.out.trans HX1.out) (by omega) _) (by omega) _)

end Go.Proofs.YtpabafioofhklaaDoor
