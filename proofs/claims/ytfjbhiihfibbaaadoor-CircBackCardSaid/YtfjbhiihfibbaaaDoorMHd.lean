/-
  The reference reads a line loosely.
-/
import Derived.Test.YtfjbhiihfibbaaaDoorMHc
import Derived.BigQuiet

namespace Go.Proofs.YtfjbhiihfibbaaaDoor
open Go.RowKit

/-- The names of the kinds, in memory. -/
def Nms (W : World) (b : Nat) : Prop := ∀ k, k < 7 → W.cell? ⟨b, k, none⟩ = some (.string ⟨(wordOf k).data.toList.toArray⟩)
theorem Nms.ext {W W' : World} {b : Nat} (h : Nms W b) (k : Ext W W') : Nms W' b := fun j hj => cell_ext (h j hj) k

theorem stepK_storeI {ops : Array Oper} {o : Oper} {a : Act} {K : Act → World → Prop} {Q : Exit → Act → World → Prop} {E : Prop} {w : World} (hgd : o.guard = none) (hd : o.dst = none) (p x : Operand)
    (ho : o.op = .store 32 p x) (b off : Nat) (a' : Option Addr) (n' c' : Nat) (u : Value) (hp : a.eval p = .pointer (some ⟨b, off, none⟩)) (hx : a.eval x = .slice a' n' c')
    (hcell : w.cell? ⟨b, off, none⟩ = some u) (hfz : w.frozen? ⟨b, off, none⟩ = false) (h : K a (w.setCell ⟨b, off, none⟩ (.slice a' n' c'))) :
    if Region.wanted o (yielded ops a.tmps) = true then Oper.wp Tryd.prog o a w K Q else E := by
  have hw : Region.wanted o (yielded ops a.tmps) = true := by simp [Region.wanted, hgd]
  rw [if_pos hw]
  obtain ⟨od, oo, ot, opp, oa, og⟩ := o
  simp only at ho hd
  subst ho hd
  have HH := Lib.hid h
  clear h
  unfold Oper.wp execOp
  simp only [hp, hx]
  go_simp
  exact HH.out

theorem putO_ext {w W : World} {g : Nat} (h : Ext w W) (hg : w.heap.size ≤ g) (u0 u1 u2 u3 u4 u5 : Value) : Ext w (putO W g u0 u1 u2 u3 u4 u5) := put6 h hg _ _ _ _ _ _
theorem putO_own {W : World} {g base n : Nat} {v : Value} {xs : List Value} {e : TypeId} (h : W.ownsRow base e 1 v n xs) (hg : g < base) (u0 u1 u2 u3 u4 u5 : Value) : (putO W g u0 u1 u2 u3 u4 u5).ownsRow base e 1 v n xs :=
  put_row (put_row (put_row (put_row (put_row (put_row h hg) hg) hg) hg) hg) hg

set_option maxHeartbeats 8000000 in
set_option maxRecDepth 100000 in
theorem loose_any (T : List UInt8) (w : World) (hT : T.length ≤ 1000000) :
    Calls Tryd.prog 36 #[.string ⟨T.toArray⟩] w fun e w' => (∃ (a1 : Option Addr) (n1 c1 : Nat) (a2 : Option Addr) (n2 c2 : Nat), e = .returned (.agg #[.int .i64 (loosM T).kind, .int .i64 (loosM T).k, .slice a1 n1 c1, .int .i64 (loosM T).q, .int .i64 (loosM T).bit, .slice a2 n2 c2]) ∧ OpO w' (loosM T) a1 n1 c1 a2 n2 c2) ∧ Ext w w' := by
  obtain ⟨i0, hi, hz0, hz1, hz2⟩ := info_parts i_info
  obtain ⟨o, ho⟩ : ∃ o, loosM T = o := ⟨_, rfl⟩
  rw [ho]
  obtain ⟨W0, T', hw0⟩ := splt_ne 32 T
  obtain ⟨ws, hws⟩ : ∃ ws, splt 32 T = ws := ⟨_, rfl⟩
  have hlen : ws.length ≤ 1000001 := by rw [← hws]; have := splt_len 32 T; omega
  have hwl : ws = W0 :: T' := by rw [← hws]; exact hw0
  have Ho := Lib.hid (show finish ((ws.drop 1).foldl lstep ⟨kindUp (ws.getD 0 []) 6, [], [], 0, [], 0⟩) = o by rw [← hws]; exact ho)
  have hpos : 0 < ws.length := by rw [hwl]; simp
  have Hg0 := Lib.hid (show ws.getD 0 [] = W0 by rw [hwl]; rfl)
  obtain ⟨A1, hA1⟩ : ∃ A1, w.alloc (.cells #[.int .i64 0, .int .i64 0, .slice none 0 0, .int .i64 0, .int .i64 0, .slice none 0 0] 58) = A1 := ⟨_, rfl⟩
  obtain ⟨A2, hA2⟩ : ∃ A2, A1.alloc (.cells #[.string ⟨#[]⟩, .string ⟨#[112, 104, 97, 115, 101]⟩, .string ⟨#[120]⟩, .string ⟨#[104]⟩, .string ⟨#[112]⟩, .string ⟨#[109, 101, 97, 115, 117, 114, 101]⟩, .string ⟨#[114, 101, 115, 101, 116]⟩] 9) = A2 := ⟨_, rfl⟩
  have hA : (w.alloc (.cells #[.int .i64 0, .int .i64 0, .slice none 0 0, .int .i64 0, .int .i64 0, .slice none 0 0] 58)).alloc (.cells #[.string ⟨#[]⟩, .string ⟨#[112, 104, 97, 115, 101]⟩, .string ⟨#[120]⟩, .string ⟨#[104]⟩, .string ⟨#[112]⟩, .string ⟨#[109, 101, 97, 115, 117, 114, 101]⟩, .string ⟨#[114, 101, 115, 101, 116]⟩] 9) = A2 := by rw [hA1, hA2]
  have s1 : A1.heap.size = w.heap.size + 1 := by rw [← hA1]; simp
  have bR : OpBx A2 w.heap.size 0 0 none 0 0 0 0 none 0 0 := by
    have : OpBx A1 w.heap.size 0 0 none 0 0 0 0 none 0 0 := by rw [← hA1]; exact ⟨heap_alloc_new w _⟩
    rw [← hA2]; exact this.ext (ext_al _ _)
  have hN : Nms A2 (w.heap.size + 1) := by
    intro k hk
    rw [← hA2, ← s1, cell_of_row _ _ k _ _ (0, 0) (heap_alloc_new A1 _)]
    have : k = 0 ∨ k = 1 ∨ k = 2 ∨ k = 3 ∨ k = 4 ∨ k = 5 ∨ k = 6 := by omega
    rcases this with rfl | rfl | rfl | rfl | rfl | rfl | rfl <;> rfl
  have E0 : Ext w A2 := by rw [← hA2, ← hA1]; exact (ext_al _ _).trans (ext_al _ _)
  have HSp := Lib.hid (split_any T 32 A2 hT)
  rw [hws] at HSp
  have HA := Lib.hid hA; have HbR := Lib.hid bR; have HN := Lib.hid hN; have HE0 := Lib.hid E0
  clear ho hws hw0 hwl hA1 hA2 hA s1 bR hN E0 hT
  go_enter Tryd.func36, Tryd.ntmps36
  go_wp2_with fail
  rw [HA.out]
  refine HSp.out.mono ?_
  rintro e V ⟨⟨aw, cw', rfl, hc1, hc2, hst⟩, hx1⟩
  obtain ⟨nw, hnw⟩ : ∃ nw, ws.length = nw := ⟨_, rfl⟩
  rw [hnw] at hlen hpos hc1 hst ⊢
  have Hnw := Lib.hid hnw
  have HbR1 := Lib.hid (HbR.out.ext hx1); have HN1 := Lib.hid (HN.out.ext hx1); have HEV := Lib.hid (HE0.out.trans hx1); have HSt := Lib.hid hst
  have H0 := Lib.hid (show LoS V (V.alloc (.cells #[.int .i64 1, .int .i64 0, .slice none 0 0, .int .i64 0, .int .i64 0, .slice none 0 0] 58)) ⟨1, [], [], 0, [], 0⟩ 0 0 none 0 none 0 (.slice none 0 0) from
    ⟨ext_al _ _, ⟨heap_alloc_new V _⟩, World.ownsRow_nil _ _ _ _, World.ownsRow_nil _ _ _ _, World.ownsRow_nil _ _ _ _, fun k h => by simp [Value.ownBlock] at h, fun k h => by simp [Value.ownBlock] at h, fun k h => by simp [Value.ownBlock] at h⟩)
  clear hnw hst hx1 HSp HA HbR HN HE0
  go_wp2_with fail
  go_loopg [6] 6 (fun kk s6 wx => ∃ j : Nat, s6 = .int .i64 (j : Int) ∧ 1 ≤ j ∧ j ≤ 7 ∧ 7 - j = kk ∧ LoS V wx ⟨kindUp W0 (j - 1), [], [], 0, [], 0⟩ 0 0 none 0 none 0 (.slice none 0 0))
  case atStart => exact ⟨1, rfl, by omega, by omega, rfl, H0.out⟩
  case round =>
    clear H0
    obtain ⟨j, rfl, hj1, hj7, hk, hL⟩ := hrel
    by_cases hlast : j = 7
    · subst hlast
      have q1 : ¬ ((7 : Nat) : Int) ≤ 6 := by omega
      have q1' : decide (((7 : Nat) : Int) ≤ 6) = false := df q1
      have HL := Lib.hid hL
      clear hL hk hj1 hj7
      go_wp2_with fail
      have Hfin := Lib.hid (show finish ((ws.drop 1).foldl lstep ⟨kindUp W0 6, [], [], 0, [], 0⟩) = o by rw [← Hg0.out]; exact Ho.out)
      obtain ⟨fin, hfin⟩ : ∃ fin, (ws.drop 1).foldl lstep ⟨kindUp W0 6, [], [], 0, [], 0⟩ = fin := ⟨_, rfl⟩
      rw [hfin] at Hfin
      have Hf := Lib.hid hfin
      clear hfin Ho Hg0
      go_loopg [7, 8, 9, 10] (nw - 1) (fun kk s7 s8 s9 s10 wx => ∃ (i : Nat) (s : Lo) (a1 : Option Addr) (c1 : Nat) (a2 : Option Addr) (c2 : Nat), s9 = .int .i64 (i : Int) ∧ 1 ≤ i ∧ i ≤ nw ∧ nw - i = kk ∧ s8 = .int .i64 s.part ∧ LoS V wx s 0 0 a1 c1 a2 c2 s7 ∧ (ws.drop i).foldl lstep s = fin ∧ s.plain.length ≤ i ∧ s.ctl.length ≤ i ∧ s.cnd.length ≤ i)
      case atStart => exact ⟨1, _, none, 0, none, 0, rfl, by omega, by omega, rfl, rfl, HL.out, Hf.out, by simp, by simp, by simp⟩
      case round =>
        clear HL Hf
        obtain ⟨i, s, a1, c1, a2, c2, rfl, hi1, hin, hk, rfl, hL, hfo, hl1, hl2, hl3⟩ := hrel
        by_cases hlast : i = nw
        · have q1 : ¬ (i : Int) < (nw : Int) := by omega
          have q1' : decide ((i : Int) < (nw : Int)) = false := df q1
          rw [List.drop_eq_nil_of_le (by rw [Hnw.out]; omega), List.foldl_nil] at hfo
          subst hfo
          obtain ⟨kd, plain, ctl, bt, cnd, part⟩ := s
          simp only at hl1 hl2 hl3
          obtain ⟨ap, cp, evp, hp1, hp2, hpI, _⟩ := ints_of_own hL.r3
          subst evp
          have HL := Lib.hid hL; have HpI := Lib.hid hpI
          have HNo := Lib.hid True.intro
          simp only at HpI HL hp1
          clear hL hpI hlast hl1 hl2 hl3 hk hin hi1 hp2
          by_cases k1 : kd = 1
          · have kk1 : (kd == 1) = true := bt' k1
            have kk4 : (kd == 4) = false := bf (by omega)
            clear k1
            rcases plain with _ | ⟨x0, _ | ⟨x1, pl⟩⟩
            · have m0 : ¬ (0 : Int) < ((([] : List Int).length : Nat) : Int) := by simp
              have m1 : ¬ (1 : Int) < ((([] : List Int).length : Nat) : Int) := by simp
              have hLz := (HL.out).putq 0
              have HLz := Lib.hid hLz
              have HEz := Lib.hid (HEV.out.trans hLz.ext)
              have bRz := (HbR1.out.ext hLz.ext)
              have hlo : w.heap.size < V.heap.size := HbR1.out.lt
              have HoE := Lib.hid (show o = ⟨kd, 0, ctl, 0, bt, cnd⟩ by rw [← Hfin.out]; simp [finish, usesK, usesQ, List.getD, kk1, kk4])
              have u0 := HL.out.bx.x0; have u1 := HL.out.bx.x1; have u2 := HL.out.bx.x2; have u3 := HL.out.bx.x3; have u4 := HL.out.bx.x4; have u5 := HL.out.bx.x5
              have fz1 := HL.out.bx.f 1; have fz3 := HL.out.bx.f 3
              have z0 := hLz.bx.x0; have z1 := hLz.bx.x1; have z2 := hLz.bx.x2; have z3 := hLz.bx.x3; have z4 := hLz.bx.x4; have z5 := hLz.bx.x5
              have t0 := bRz.x0; have t1 := bRz.x1; have t2 := bRz.x2; have t3 := bRz.x3; have t4 := bRz.x4; have t5 := bRz.x5
              have g0 := bRz.f 0; have g1 := bRz.f 1; have g2 := bRz.f 2; have g3 := bRz.f 3; have g4 := bRz.f 4; have g5 := bRz.f 5
              have rw' := putO_row bRz.row (.int .i64 kd) (.int .i64 0) (.slice a1 ctl.length c1) (.int .i64 0) (.int .i64 bt) (.slice a2 cnd.length c2)
              have HE9 := Lib.hid (putO_ext HEz.out (Nat.le_refl _) (.int .i64 kd) (.int .i64 0) (.slice a1 ctl.length c1) (.int .i64 0) (.int .i64 bt) (.slice a2 cnd.length c2))
              have HR1 := Lib.hid (putO_own hLz.r1 (show w.heap.size < V.heap.size + 1 by omega) (.int .i64 kd) (.int .i64 0) (.slice a1 ctl.length c1) (.int .i64 0) (.int .i64 bt) (.slice a2 cnd.length c2))
              have HR2 := Lib.hid (putO_own hLz.r2 (show w.heap.size < V.heap.size + 1 by omega) (.int .i64 kd) (.int .i64 0) (.slice a1 ctl.length c1) (.int .i64 0) (.int .i64 bt) (.slice a2 cnd.length c2))
              obtain ⟨Wz, hWz⟩ : ∃ Wz, putO (wr.setCell ⟨V.heap.size, 3, none⟩ (.int .i64 0)) w.heap.size (.int .i64 kd) (.int .i64 0) (.slice a1 ctl.length c1) (.int .i64 0) (.int .i64 bt) (.slice a2 cnd.length c2) = Wz := ⟨_, rfl⟩
              rw [hWz] at rw' HE9 HR1 HR2
              unfold putO at hWz
              have HWz := Lib.hid hWz
              clear hLz HLz HEz bRz hWz HL Hfin HbR1 HN1 HEV HSt HNo
              have neP : V.heap.size ≠ w.heap.size := by omega
              clear hlo
              go_wp2_with fail
              rw [HWz.out]
              have y0 : Wz.cell? ⟨w.heap.size, 0, none⟩ = some (.int .i64 kd) := by rw [cell_of_row Wz _ 0 _ _ (0, 0) rw']; rfl
              have y1 : Wz.cell? ⟨w.heap.size, 1, none⟩ = some (.int .i64 0) := by rw [cell_of_row Wz _ 1 _ _ (0, 0) rw']; rfl
              have y2 : Wz.cell? ⟨w.heap.size, 2, none⟩ = some (.slice a1 ctl.length c1) := by rw [cell_of_row Wz _ 2 _ _ (0, 0) rw']; rfl
              have y3 : Wz.cell? ⟨w.heap.size, 3, none⟩ = some (.int .i64 0) := by rw [cell_of_row Wz _ 3 _ _ (0, 0) rw']; rfl
              have y4 : Wz.cell? ⟨w.heap.size, 4, none⟩ = some (.int .i64 bt) := by rw [cell_of_row Wz _ 4 _ _ (0, 0) rw']; rfl
              have y5 : Wz.cell? ⟨w.heap.size, 5, none⟩ = some (.slice a2 cnd.length c2) := by rw [cell_of_row Wz _ 5 _ _ (0, 0) rw']; rfl
              have hoE := HoE.out
              subst hoE
              obtain ⟨b1, d1, ev1, i11, i12, i13, i14⟩ := ints_of_own HR1.out
              injection ev1 with ev1 _ ev3
              subst ev1; subst ev3
              obtain ⟨b2, d2, ev2, i21, i22, i23, i24⟩ := ints_of_own HR2.out
              injection ev2 with ev4 _ ev5
              subst ev4; subst ev5
              exact bodyPost_ret (v := .agg #[.int .i64 kd, .int .i64 0, .slice a1 ctl.length c1, .int .i64 0, .int .i64 bt, .slice a2 cnd.length c2]) (by simp [results, Tryd.results36, go_sem, y0, y1, y2, y3, y4, y5]) rfl ⟨⟨a1, _, c1, a2, _, c2, rfl, ⟨⟨i13, i11, by unfold maxLen at i12; omega, i23, i21, by unfold maxLen at i22; omega⟩, i14, i24⟩⟩, HE9.out⟩
            · have m0 : (0 : Int) < ((([x0] : List Int).length : Nat) : Int) := by simp
              have m1 : ¬ (1 : Int) < ((([x0] : List Int).length : Nat) : Int) := by simp
              obtain ⟨pb, po, rfl, hpb, hpc⟩ := HpI.out.at (by simp)
              have c0 := hpc 0 (by simp)
              have npP : pb ≠ V.heap.size := by have := (own_lt HL.out.r3 pb rfl).1; omega
              simp only [List.getD_cons_zero, Nat.add_zero] at c0
              clear hpb hpc HpI
              have hLz := ((HL.out).putk x0).putq 0
              have HLz := Lib.hid hLz
              have HEz := Lib.hid (HEV.out.trans hLz.ext)
              have bRz := (HbR1.out.ext hLz.ext)
              have hlo : w.heap.size < V.heap.size := HbR1.out.lt
              have HoE := Lib.hid (show o = ⟨kd, x0, ctl, 0, bt, cnd⟩ by rw [← Hfin.out]; simp [finish, usesK, usesQ, List.getD, kk1, kk4])
              have u0 := HL.out.bx.x0; have u1 := HL.out.bx.x1; have u2 := HL.out.bx.x2; have u3 := HL.out.bx.x3; have u4 := HL.out.bx.x4; have u5 := HL.out.bx.x5
              have fz1 := HL.out.bx.f 1; have fz3 := HL.out.bx.f 3
              have z0 := hLz.bx.x0; have z1 := hLz.bx.x1; have z2 := hLz.bx.x2; have z3 := hLz.bx.x3; have z4 := hLz.bx.x4; have z5 := hLz.bx.x5
              have t0 := bRz.x0; have t1 := bRz.x1; have t2 := bRz.x2; have t3 := bRz.x3; have t4 := bRz.x4; have t5 := bRz.x5
              have g0 := bRz.f 0; have g1 := bRz.f 1; have g2 := bRz.f 2; have g3 := bRz.f 3; have g4 := bRz.f 4; have g5 := bRz.f 5
              have rw' := putO_row bRz.row (.int .i64 kd) (.int .i64 x0) (.slice a1 ctl.length c1) (.int .i64 0) (.int .i64 bt) (.slice a2 cnd.length c2)
              have HE9 := Lib.hid (putO_ext HEz.out (Nat.le_refl _) (.int .i64 kd) (.int .i64 x0) (.slice a1 ctl.length c1) (.int .i64 0) (.int .i64 bt) (.slice a2 cnd.length c2))
              have HR1 := Lib.hid (putO_own hLz.r1 (show w.heap.size < V.heap.size + 1 by omega) (.int .i64 kd) (.int .i64 x0) (.slice a1 ctl.length c1) (.int .i64 0) (.int .i64 bt) (.slice a2 cnd.length c2))
              have HR2 := Lib.hid (putO_own hLz.r2 (show w.heap.size < V.heap.size + 1 by omega) (.int .i64 kd) (.int .i64 x0) (.slice a1 ctl.length c1) (.int .i64 0) (.int .i64 bt) (.slice a2 cnd.length c2))
              obtain ⟨Wz, hWz⟩ : ∃ Wz, putO ((wr.setCell ⟨V.heap.size, 1, none⟩ (.int .i64 x0)).setCell ⟨V.heap.size, 3, none⟩ (.int .i64 0)) w.heap.size (.int .i64 kd) (.int .i64 x0) (.slice a1 ctl.length c1) (.int .i64 0) (.int .i64 bt) (.slice a2 cnd.length c2) = Wz := ⟨_, rfl⟩
              rw [hWz] at rw' HE9 HR1 HR2
              unfold putO at hWz
              have HWz := Lib.hid hWz
              clear hLz HLz HEz bRz hWz HL Hfin HbR1 HN1 HEV HSt HNo
              have neP : V.heap.size ≠ w.heap.size := by omega
              clear hlo
              go_wp2_with fail
              rw [HWz.out]
              have y0 : Wz.cell? ⟨w.heap.size, 0, none⟩ = some (.int .i64 kd) := by rw [cell_of_row Wz _ 0 _ _ (0, 0) rw']; rfl
              have y1 : Wz.cell? ⟨w.heap.size, 1, none⟩ = some (.int .i64 x0) := by rw [cell_of_row Wz _ 1 _ _ (0, 0) rw']; rfl
              have y2 : Wz.cell? ⟨w.heap.size, 2, none⟩ = some (.slice a1 ctl.length c1) := by rw [cell_of_row Wz _ 2 _ _ (0, 0) rw']; rfl
              have y3 : Wz.cell? ⟨w.heap.size, 3, none⟩ = some (.int .i64 0) := by rw [cell_of_row Wz _ 3 _ _ (0, 0) rw']; rfl
              have y4 : Wz.cell? ⟨w.heap.size, 4, none⟩ = some (.int .i64 bt) := by rw [cell_of_row Wz _ 4 _ _ (0, 0) rw']; rfl
              have y5 : Wz.cell? ⟨w.heap.size, 5, none⟩ = some (.slice a2 cnd.length c2) := by rw [cell_of_row Wz _ 5 _ _ (0, 0) rw']; rfl
              have hoE := HoE.out
              subst hoE
              obtain ⟨b1, d1, ev1, i11, i12, i13, i14⟩ := ints_of_own HR1.out
              injection ev1 with ev1 _ ev3
              subst ev1; subst ev3
              obtain ⟨b2, d2, ev2, i21, i22, i23, i24⟩ := ints_of_own HR2.out
              injection ev2 with ev4 _ ev5
              subst ev4; subst ev5
              exact bodyPost_ret (v := .agg #[.int .i64 kd, .int .i64 x0, .slice a1 ctl.length c1, .int .i64 0, .int .i64 bt, .slice a2 cnd.length c2]) (by simp [results, Tryd.results36, go_sem, y0, y1, y2, y3, y4, y5]) rfl ⟨⟨a1, _, c1, a2, _, c2, rfl, ⟨⟨i13, i11, by unfold maxLen at i12; omega, i23, i21, by unfold maxLen at i22; omega⟩, i14, i24⟩⟩, HE9.out⟩
            · have m0 : (0 : Int) < (((x0 :: x1 :: pl : List Int).length : Nat) : Int) := by simp; omega
              have m1 : (1 : Int) < (((x0 :: x1 :: pl : List Int).length : Nat) : Int) := by simp; omega
              obtain ⟨pb, po, rfl, hpb, hpc⟩ := HpI.out.at (by simp)
              have c0 := hpc 0 (by simp)
              have cc1 := hpc 1 (by simp)
              have npP : pb ≠ V.heap.size := by have := (own_lt HL.out.r3 pb rfl).1; omega
              simp only [List.getD_cons_zero, List.getD_cons_succ, Nat.add_zero] at c0 cc1
              clear hpb hpc HpI
              have hLz := (((HL.out).putk x0).putq x1).putq 0
              have HLz := Lib.hid hLz
              have HEz := Lib.hid (HEV.out.trans hLz.ext)
              have bRz := (HbR1.out.ext hLz.ext)
              have hlo : w.heap.size < V.heap.size := HbR1.out.lt
              have HoE := Lib.hid (show o = ⟨kd, x0, ctl, 0, bt, cnd⟩ by rw [← Hfin.out]; simp [finish, usesK, usesQ, List.getD, kk1, kk4])
              have u0 := HL.out.bx.x0; have u1 := HL.out.bx.x1; have u2 := HL.out.bx.x2; have u3 := HL.out.bx.x3; have u4 := HL.out.bx.x4; have u5 := HL.out.bx.x5
              have fz1 := HL.out.bx.f 1; have fz3 := HL.out.bx.f 3
              have z0 := hLz.bx.x0; have z1 := hLz.bx.x1; have z2 := hLz.bx.x2; have z3 := hLz.bx.x3; have z4 := hLz.bx.x4; have z5 := hLz.bx.x5
              have t0 := bRz.x0; have t1 := bRz.x1; have t2 := bRz.x2; have t3 := bRz.x3; have t4 := bRz.x4; have t5 := bRz.x5
              have g0 := bRz.f 0; have g1 := bRz.f 1; have g2 := bRz.f 2; have g3 := bRz.f 3; have g4 := bRz.f 4; have g5 := bRz.f 5
              have rw' := putO_row bRz.row (.int .i64 kd) (.int .i64 x0) (.slice a1 ctl.length c1) (.int .i64 0) (.int .i64 bt) (.slice a2 cnd.length c2)
              have HE9 := Lib.hid (putO_ext HEz.out (Nat.le_refl _) (.int .i64 kd) (.int .i64 x0) (.slice a1 ctl.length c1) (.int .i64 0) (.int .i64 bt) (.slice a2 cnd.length c2))
              have HR1 := Lib.hid (putO_own hLz.r1 (show w.heap.size < V.heap.size + 1 by omega) (.int .i64 kd) (.int .i64 x0) (.slice a1 ctl.length c1) (.int .i64 0) (.int .i64 bt) (.slice a2 cnd.length c2))
              have HR2 := Lib.hid (putO_own hLz.r2 (show w.heap.size < V.heap.size + 1 by omega) (.int .i64 kd) (.int .i64 x0) (.slice a1 ctl.length c1) (.int .i64 0) (.int .i64 bt) (.slice a2 cnd.length c2))
              obtain ⟨Wz, hWz⟩ : ∃ Wz, putO (((wr.setCell ⟨V.heap.size, 1, none⟩ (.int .i64 x0)).setCell ⟨V.heap.size, 3, none⟩ (.int .i64 x1)).setCell ⟨V.heap.size, 3, none⟩ (.int .i64 0)) w.heap.size (.int .i64 kd) (.int .i64 x0) (.slice a1 ctl.length c1) (.int .i64 0) (.int .i64 bt) (.slice a2 cnd.length c2) = Wz := ⟨_, rfl⟩
              rw [hWz] at rw' HE9 HR1 HR2
              unfold putO at hWz
              have HWz := Lib.hid hWz
              clear hLz HLz HEz bRz hWz HL Hfin HbR1 HN1 HEV HSt HNo
              have neP : V.heap.size ≠ w.heap.size := by omega
              clear hlo
              go_wp2_with fail
              rw [HWz.out]
              have y0 : Wz.cell? ⟨w.heap.size, 0, none⟩ = some (.int .i64 kd) := by rw [cell_of_row Wz _ 0 _ _ (0, 0) rw']; rfl
              have y1 : Wz.cell? ⟨w.heap.size, 1, none⟩ = some (.int .i64 x0) := by rw [cell_of_row Wz _ 1 _ _ (0, 0) rw']; rfl
              have y2 : Wz.cell? ⟨w.heap.size, 2, none⟩ = some (.slice a1 ctl.length c1) := by rw [cell_of_row Wz _ 2 _ _ (0, 0) rw']; rfl
              have y3 : Wz.cell? ⟨w.heap.size, 3, none⟩ = some (.int .i64 0) := by rw [cell_of_row Wz _ 3 _ _ (0, 0) rw']; rfl
              have y4 : Wz.cell? ⟨w.heap.size, 4, none⟩ = some (.int .i64 bt) := by rw [cell_of_row Wz _ 4 _ _ (0, 0) rw']; rfl
              have y5 : Wz.cell? ⟨w.heap.size, 5, none⟩ = some (.slice a2 cnd.length c2) := by rw [cell_of_row Wz _ 5 _ _ (0, 0) rw']; rfl
              have hoE := HoE.out
              subst hoE
              obtain ⟨b1, d1, ev1, i11, i12, i13, i14⟩ := ints_of_own HR1.out
              injection ev1 with ev1 _ ev3
              subst ev1; subst ev3
              obtain ⟨b2, d2, ev2, i21, i22, i23, i24⟩ := ints_of_own HR2.out
              injection ev2 with ev4 _ ev5
              subst ev4; subst ev5
              exact bodyPost_ret (v := .agg #[.int .i64 kd, .int .i64 x0, .slice a1 ctl.length c1, .int .i64 0, .int .i64 bt, .slice a2 cnd.length c2]) (by simp [results, Tryd.results36, go_sem, y0, y1, y2, y3, y4, y5]) rfl ⟨⟨a1, _, c1, a2, _, c2, rfl, ⟨⟨i13, i11, by unfold maxLen at i12; omega, i23, i21, by unfold maxLen at i22; omega⟩, i14, i24⟩⟩, HE9.out⟩
          · by_cases k4 : kd = 4
            · have kk1 : (kd == 1) = false := bf k1
              have kk4 : (kd == 4) = true := bt' k4
              clear k1 k4
              rcases plain with _ | ⟨x0, _ | ⟨x1, pl⟩⟩
              · have m0 : ¬ (0 : Int) < ((([] : List Int).length : Nat) : Int) := by simp
                have m1 : ¬ (1 : Int) < ((([] : List Int).length : Nat) : Int) := by simp
                have hLz := HL.out
                have HLz := Lib.hid hLz
                have HEz := Lib.hid (HEV.out.trans hLz.ext)
                have bRz := (HbR1.out.ext hLz.ext)
                have hlo : w.heap.size < V.heap.size := HbR1.out.lt
                have HoE := Lib.hid (show o = ⟨kd, 0, ctl, 0, bt, cnd⟩ by rw [← Hfin.out]; simp [finish, usesK, usesQ, List.getD, kk1, kk4])
                have u0 := HL.out.bx.x0; have u1 := HL.out.bx.x1; have u2 := HL.out.bx.x2; have u3 := HL.out.bx.x3; have u4 := HL.out.bx.x4; have u5 := HL.out.bx.x5
                have fz1 := HL.out.bx.f 1; have fz3 := HL.out.bx.f 3
                have z0 := hLz.bx.x0; have z1 := hLz.bx.x1; have z2 := hLz.bx.x2; have z3 := hLz.bx.x3; have z4 := hLz.bx.x4; have z5 := hLz.bx.x5
                have t0 := bRz.x0; have t1 := bRz.x1; have t2 := bRz.x2; have t3 := bRz.x3; have t4 := bRz.x4; have t5 := bRz.x5
                have g0 := bRz.f 0; have g1 := bRz.f 1; have g2 := bRz.f 2; have g3 := bRz.f 3; have g4 := bRz.f 4; have g5 := bRz.f 5
                have rw' := putO_row bRz.row (.int .i64 kd) (.int .i64 0) (.slice a1 ctl.length c1) (.int .i64 0) (.int .i64 bt) (.slice a2 cnd.length c2)
                have HE9 := Lib.hid (putO_ext HEz.out (Nat.le_refl _) (.int .i64 kd) (.int .i64 0) (.slice a1 ctl.length c1) (.int .i64 0) (.int .i64 bt) (.slice a2 cnd.length c2))
                have HR1 := Lib.hid (putO_own hLz.r1 (show w.heap.size < V.heap.size + 1 by omega) (.int .i64 kd) (.int .i64 0) (.slice a1 ctl.length c1) (.int .i64 0) (.int .i64 bt) (.slice a2 cnd.length c2))
                have HR2 := Lib.hid (putO_own hLz.r2 (show w.heap.size < V.heap.size + 1 by omega) (.int .i64 kd) (.int .i64 0) (.slice a1 ctl.length c1) (.int .i64 0) (.int .i64 bt) (.slice a2 cnd.length c2))
                obtain ⟨Wz, hWz⟩ : ∃ Wz, putO wr w.heap.size (.int .i64 kd) (.int .i64 0) (.slice a1 ctl.length c1) (.int .i64 0) (.int .i64 bt) (.slice a2 cnd.length c2) = Wz := ⟨_, rfl⟩
                rw [hWz] at rw' HE9 HR1 HR2
                unfold putO at hWz
                have HWz := Lib.hid hWz
                clear hLz HLz HEz bRz hWz HL Hfin HbR1 HN1 HEV HSt HNo
                have neP : V.heap.size ≠ w.heap.size := by omega
                clear hlo
                go_wp2_with fail
                rw [HWz.out]
                have y0 : Wz.cell? ⟨w.heap.size, 0, none⟩ = some (.int .i64 kd) := by rw [cell_of_row Wz _ 0 _ _ (0, 0) rw']; rfl
                have y1 : Wz.cell? ⟨w.heap.size, 1, none⟩ = some (.int .i64 0) := by rw [cell_of_row Wz _ 1 _ _ (0, 0) rw']; rfl
                have y2 : Wz.cell? ⟨w.heap.size, 2, none⟩ = some (.slice a1 ctl.length c1) := by rw [cell_of_row Wz _ 2 _ _ (0, 0) rw']; rfl
                have y3 : Wz.cell? ⟨w.heap.size, 3, none⟩ = some (.int .i64 0) := by rw [cell_of_row Wz _ 3 _ _ (0, 0) rw']; rfl
                have y4 : Wz.cell? ⟨w.heap.size, 4, none⟩ = some (.int .i64 bt) := by rw [cell_of_row Wz _ 4 _ _ (0, 0) rw']; rfl
                have y5 : Wz.cell? ⟨w.heap.size, 5, none⟩ = some (.slice a2 cnd.length c2) := by rw [cell_of_row Wz _ 5 _ _ (0, 0) rw']; rfl
                have hoE := HoE.out
                subst hoE
                obtain ⟨b1, d1, ev1, i11, i12, i13, i14⟩ := ints_of_own HR1.out
                injection ev1 with ev1 _ ev3
                subst ev1; subst ev3
                obtain ⟨b2, d2, ev2, i21, i22, i23, i24⟩ := ints_of_own HR2.out
                injection ev2 with ev4 _ ev5
                subst ev4; subst ev5
                exact bodyPost_ret (v := .agg #[.int .i64 kd, .int .i64 0, .slice a1 ctl.length c1, .int .i64 0, .int .i64 bt, .slice a2 cnd.length c2]) (by simp [results, Tryd.results36, go_sem, y0, y1, y2, y3, y4, y5]) rfl ⟨⟨a1, _, c1, a2, _, c2, rfl, ⟨⟨i13, i11, by unfold maxLen at i12; omega, i23, i21, by unfold maxLen at i22; omega⟩, i14, i24⟩⟩, HE9.out⟩
              · have m0 : (0 : Int) < ((([x0] : List Int).length : Nat) : Int) := by simp
                have m1 : ¬ (1 : Int) < ((([x0] : List Int).length : Nat) : Int) := by simp
                obtain ⟨pb, po, rfl, hpb, hpc⟩ := HpI.out.at (by simp)
                have c0 := hpc 0 (by simp)
                have npP : pb ≠ V.heap.size := by have := (own_lt HL.out.r3 pb rfl).1; omega
                simp only [List.getD_cons_zero, Nat.add_zero] at c0
                clear hpb hpc HpI
                have hLz := (HL.out).putk x0
                have HLz := Lib.hid hLz
                have HEz := Lib.hid (HEV.out.trans hLz.ext)
                have bRz := (HbR1.out.ext hLz.ext)
                have hlo : w.heap.size < V.heap.size := HbR1.out.lt
                have HoE := Lib.hid (show o = ⟨kd, x0, ctl, 0, bt, cnd⟩ by rw [← Hfin.out]; simp [finish, usesK, usesQ, List.getD, kk1, kk4])
                have u0 := HL.out.bx.x0; have u1 := HL.out.bx.x1; have u2 := HL.out.bx.x2; have u3 := HL.out.bx.x3; have u4 := HL.out.bx.x4; have u5 := HL.out.bx.x5
                have fz1 := HL.out.bx.f 1; have fz3 := HL.out.bx.f 3
                have z0 := hLz.bx.x0; have z1 := hLz.bx.x1; have z2 := hLz.bx.x2; have z3 := hLz.bx.x3; have z4 := hLz.bx.x4; have z5 := hLz.bx.x5
                have t0 := bRz.x0; have t1 := bRz.x1; have t2 := bRz.x2; have t3 := bRz.x3; have t4 := bRz.x4; have t5 := bRz.x5
                have g0 := bRz.f 0; have g1 := bRz.f 1; have g2 := bRz.f 2; have g3 := bRz.f 3; have g4 := bRz.f 4; have g5 := bRz.f 5
                have rw' := putO_row bRz.row (.int .i64 kd) (.int .i64 x0) (.slice a1 ctl.length c1) (.int .i64 0) (.int .i64 bt) (.slice a2 cnd.length c2)
                have HE9 := Lib.hid (putO_ext HEz.out (Nat.le_refl _) (.int .i64 kd) (.int .i64 x0) (.slice a1 ctl.length c1) (.int .i64 0) (.int .i64 bt) (.slice a2 cnd.length c2))
                have HR1 := Lib.hid (putO_own hLz.r1 (show w.heap.size < V.heap.size + 1 by omega) (.int .i64 kd) (.int .i64 x0) (.slice a1 ctl.length c1) (.int .i64 0) (.int .i64 bt) (.slice a2 cnd.length c2))
                have HR2 := Lib.hid (putO_own hLz.r2 (show w.heap.size < V.heap.size + 1 by omega) (.int .i64 kd) (.int .i64 x0) (.slice a1 ctl.length c1) (.int .i64 0) (.int .i64 bt) (.slice a2 cnd.length c2))
                obtain ⟨Wz, hWz⟩ : ∃ Wz, putO (wr.setCell ⟨V.heap.size, 1, none⟩ (.int .i64 x0)) w.heap.size (.int .i64 kd) (.int .i64 x0) (.slice a1 ctl.length c1) (.int .i64 0) (.int .i64 bt) (.slice a2 cnd.length c2) = Wz := ⟨_, rfl⟩
                rw [hWz] at rw' HE9 HR1 HR2
                unfold putO at hWz
                have HWz := Lib.hid hWz
                clear hLz HLz HEz bRz hWz HL Hfin HbR1 HN1 HEV HSt HNo
                have neP : V.heap.size ≠ w.heap.size := by omega
                clear hlo
                go_wp2_with fail
                rw [HWz.out]
                have y0 : Wz.cell? ⟨w.heap.size, 0, none⟩ = some (.int .i64 kd) := by rw [cell_of_row Wz _ 0 _ _ (0, 0) rw']; rfl
                have y1 : Wz.cell? ⟨w.heap.size, 1, none⟩ = some (.int .i64 x0) := by rw [cell_of_row Wz _ 1 _ _ (0, 0) rw']; rfl
                have y2 : Wz.cell? ⟨w.heap.size, 2, none⟩ = some (.slice a1 ctl.length c1) := by rw [cell_of_row Wz _ 2 _ _ (0, 0) rw']; rfl
                have y3 : Wz.cell? ⟨w.heap.size, 3, none⟩ = some (.int .i64 0) := by rw [cell_of_row Wz _ 3 _ _ (0, 0) rw']; rfl
                have y4 : Wz.cell? ⟨w.heap.size, 4, none⟩ = some (.int .i64 bt) := by rw [cell_of_row Wz _ 4 _ _ (0, 0) rw']; rfl
                have y5 : Wz.cell? ⟨w.heap.size, 5, none⟩ = some (.slice a2 cnd.length c2) := by rw [cell_of_row Wz _ 5 _ _ (0, 0) rw']; rfl
                have hoE := HoE.out
                subst hoE
                obtain ⟨b1, d1, ev1, i11, i12, i13, i14⟩ := ints_of_own HR1.out
                injection ev1 with ev1 _ ev3
                subst ev1; subst ev3
                obtain ⟨b2, d2, ev2, i21, i22, i23, i24⟩ := ints_of_own HR2.out
                injection ev2 with ev4 _ ev5
                subst ev4; subst ev5
                exact bodyPost_ret (v := .agg #[.int .i64 kd, .int .i64 x0, .slice a1 ctl.length c1, .int .i64 0, .int .i64 bt, .slice a2 cnd.length c2]) (by simp [results, Tryd.results36, go_sem, y0, y1, y2, y3, y4, y5]) rfl ⟨⟨a1, _, c1, a2, _, c2, rfl, ⟨⟨i13, i11, by unfold maxLen at i12; omega, i23, i21, by unfold maxLen at i22; omega⟩, i14, i24⟩⟩, HE9.out⟩
              · have m0 : (0 : Int) < (((x0 :: x1 :: pl : List Int).length : Nat) : Int) := by simp; omega
                have m1 : (1 : Int) < (((x0 :: x1 :: pl : List Int).length : Nat) : Int) := by simp; omega
                obtain ⟨pb, po, rfl, hpb, hpc⟩ := HpI.out.at (by simp)
                have c0 := hpc 0 (by simp)
                have cc1 := hpc 1 (by simp)
                have npP : pb ≠ V.heap.size := by have := (own_lt HL.out.r3 pb rfl).1; omega
                simp only [List.getD_cons_zero, List.getD_cons_succ, Nat.add_zero] at c0 cc1
                clear hpb hpc HpI
                have hLz := ((HL.out).putk x0).putq x1
                have HLz := Lib.hid hLz
                have HEz := Lib.hid (HEV.out.trans hLz.ext)
                have bRz := (HbR1.out.ext hLz.ext)
                have hlo : w.heap.size < V.heap.size := HbR1.out.lt
                have HoE := Lib.hid (show o = ⟨kd, x0, ctl, x1, bt, cnd⟩ by rw [← Hfin.out]; simp [finish, usesK, usesQ, List.getD, kk1, kk4])
                have u0 := HL.out.bx.x0; have u1 := HL.out.bx.x1; have u2 := HL.out.bx.x2; have u3 := HL.out.bx.x3; have u4 := HL.out.bx.x4; have u5 := HL.out.bx.x5
                have fz1 := HL.out.bx.f 1; have fz3 := HL.out.bx.f 3
                have z0 := hLz.bx.x0; have z1 := hLz.bx.x1; have z2 := hLz.bx.x2; have z3 := hLz.bx.x3; have z4 := hLz.bx.x4; have z5 := hLz.bx.x5
                have t0 := bRz.x0; have t1 := bRz.x1; have t2 := bRz.x2; have t3 := bRz.x3; have t4 := bRz.x4; have t5 := bRz.x5
                have g0 := bRz.f 0; have g1 := bRz.f 1; have g2 := bRz.f 2; have g3 := bRz.f 3; have g4 := bRz.f 4; have g5 := bRz.f 5
                have rw' := putO_row bRz.row (.int .i64 kd) (.int .i64 x0) (.slice a1 ctl.length c1) (.int .i64 x1) (.int .i64 bt) (.slice a2 cnd.length c2)
                have HE9 := Lib.hid (putO_ext HEz.out (Nat.le_refl _) (.int .i64 kd) (.int .i64 x0) (.slice a1 ctl.length c1) (.int .i64 x1) (.int .i64 bt) (.slice a2 cnd.length c2))
                have HR1 := Lib.hid (putO_own hLz.r1 (show w.heap.size < V.heap.size + 1 by omega) (.int .i64 kd) (.int .i64 x0) (.slice a1 ctl.length c1) (.int .i64 x1) (.int .i64 bt) (.slice a2 cnd.length c2))
                have HR2 := Lib.hid (putO_own hLz.r2 (show w.heap.size < V.heap.size + 1 by omega) (.int .i64 kd) (.int .i64 x0) (.slice a1 ctl.length c1) (.int .i64 x1) (.int .i64 bt) (.slice a2 cnd.length c2))
                obtain ⟨Wz, hWz⟩ : ∃ Wz, putO ((wr.setCell ⟨V.heap.size, 1, none⟩ (.int .i64 x0)).setCell ⟨V.heap.size, 3, none⟩ (.int .i64 x1)) w.heap.size (.int .i64 kd) (.int .i64 x0) (.slice a1 ctl.length c1) (.int .i64 x1) (.int .i64 bt) (.slice a2 cnd.length c2) = Wz := ⟨_, rfl⟩
                rw [hWz] at rw' HE9 HR1 HR2
                unfold putO at hWz
                have HWz := Lib.hid hWz
                clear hLz HLz HEz bRz hWz HL Hfin HbR1 HN1 HEV HSt HNo
                have neP : V.heap.size ≠ w.heap.size := by omega
                clear hlo
                go_wp2_with fail
                rw [HWz.out]
                have y0 : Wz.cell? ⟨w.heap.size, 0, none⟩ = some (.int .i64 kd) := by rw [cell_of_row Wz _ 0 _ _ (0, 0) rw']; rfl
                have y1 : Wz.cell? ⟨w.heap.size, 1, none⟩ = some (.int .i64 x0) := by rw [cell_of_row Wz _ 1 _ _ (0, 0) rw']; rfl
                have y2 : Wz.cell? ⟨w.heap.size, 2, none⟩ = some (.slice a1 ctl.length c1) := by rw [cell_of_row Wz _ 2 _ _ (0, 0) rw']; rfl
                have y3 : Wz.cell? ⟨w.heap.size, 3, none⟩ = some (.int .i64 x1) := by rw [cell_of_row Wz _ 3 _ _ (0, 0) rw']; rfl
                have y4 : Wz.cell? ⟨w.heap.size, 4, none⟩ = some (.int .i64 bt) := by rw [cell_of_row Wz _ 4 _ _ (0, 0) rw']; rfl
                have y5 : Wz.cell? ⟨w.heap.size, 5, none⟩ = some (.slice a2 cnd.length c2) := by rw [cell_of_row Wz _ 5 _ _ (0, 0) rw']; rfl
                have hoE := HoE.out
                subst hoE
                obtain ⟨b1, d1, ev1, i11, i12, i13, i14⟩ := ints_of_own HR1.out
                injection ev1 with ev1 _ ev3
                subst ev1; subst ev3
                obtain ⟨b2, d2, ev2, i21, i22, i23, i24⟩ := ints_of_own HR2.out
                injection ev2 with ev4 _ ev5
                subst ev4; subst ev5
                exact bodyPost_ret (v := .agg #[.int .i64 kd, .int .i64 x0, .slice a1 ctl.length c1, .int .i64 x1, .int .i64 bt, .slice a2 cnd.length c2]) (by simp [results, Tryd.results36, go_sem, y0, y1, y2, y3, y4, y5]) rfl ⟨⟨a1, _, c1, a2, _, c2, rfl, ⟨⟨i13, i11, by unfold maxLen at i12; omega, i23, i21, by unfold maxLen at i22; omega⟩, i14, i24⟩⟩, HE9.out⟩
            · have kk1 : (kd == 1) = false := bf k1
              have kk4 : (kd == 4) = false := bf k4
              clear k1 k4
              rcases plain with _ | ⟨x0, _ | ⟨x1, pl⟩⟩
              · have m0 : ¬ (0 : Int) < ((([] : List Int).length : Nat) : Int) := by simp
                have m1 : ¬ (1 : Int) < ((([] : List Int).length : Nat) : Int) := by simp
                have hLz := HL.out
                have HLz := Lib.hid hLz
                have HEz := Lib.hid (HEV.out.trans hLz.ext)
                have bRz := (HbR1.out.ext hLz.ext)
                have hlo : w.heap.size < V.heap.size := HbR1.out.lt
                have HoE := Lib.hid (show o = ⟨kd, 0, ctl, 0, bt, cnd⟩ by rw [← Hfin.out]; simp [finish, usesK, usesQ, List.getD, kk1, kk4])
                have u0 := HL.out.bx.x0; have u1 := HL.out.bx.x1; have u2 := HL.out.bx.x2; have u3 := HL.out.bx.x3; have u4 := HL.out.bx.x4; have u5 := HL.out.bx.x5
                have fz1 := HL.out.bx.f 1; have fz3 := HL.out.bx.f 3
                have z0 := hLz.bx.x0; have z1 := hLz.bx.x1; have z2 := hLz.bx.x2; have z3 := hLz.bx.x3; have z4 := hLz.bx.x4; have z5 := hLz.bx.x5
                have t0 := bRz.x0; have t1 := bRz.x1; have t2 := bRz.x2; have t3 := bRz.x3; have t4 := bRz.x4; have t5 := bRz.x5
                have g0 := bRz.f 0; have g1 := bRz.f 1; have g2 := bRz.f 2; have g3 := bRz.f 3; have g4 := bRz.f 4; have g5 := bRz.f 5
                have rw' := putO_row bRz.row (.int .i64 kd) (.int .i64 0) (.slice a1 ctl.length c1) (.int .i64 0) (.int .i64 bt) (.slice a2 cnd.length c2)
                have HE9 := Lib.hid (putO_ext HEz.out (Nat.le_refl _) (.int .i64 kd) (.int .i64 0) (.slice a1 ctl.length c1) (.int .i64 0) (.int .i64 bt) (.slice a2 cnd.length c2))
                have HR1 := Lib.hid (putO_own hLz.r1 (show w.heap.size < V.heap.size + 1 by omega) (.int .i64 kd) (.int .i64 0) (.slice a1 ctl.length c1) (.int .i64 0) (.int .i64 bt) (.slice a2 cnd.length c2))
                have HR2 := Lib.hid (putO_own hLz.r2 (show w.heap.size < V.heap.size + 1 by omega) (.int .i64 kd) (.int .i64 0) (.slice a1 ctl.length c1) (.int .i64 0) (.int .i64 bt) (.slice a2 cnd.length c2))
                obtain ⟨Wz, hWz⟩ : ∃ Wz, putO wr w.heap.size (.int .i64 kd) (.int .i64 0) (.slice a1 ctl.length c1) (.int .i64 0) (.int .i64 bt) (.slice a2 cnd.length c2) = Wz := ⟨_, rfl⟩
                rw [hWz] at rw' HE9 HR1 HR2
                unfold putO at hWz
                have HWz := Lib.hid hWz
                clear hLz HLz HEz bRz hWz HL Hfin HbR1 HN1 HEV HSt HNo
                have neP : V.heap.size ≠ w.heap.size := by omega
                clear hlo
                go_wp2_with fail
                rw [HWz.out]
                have y0 : Wz.cell? ⟨w.heap.size, 0, none⟩ = some (.int .i64 kd) := by rw [cell_of_row Wz _ 0 _ _ (0, 0) rw']; rfl
                have y1 : Wz.cell? ⟨w.heap.size, 1, none⟩ = some (.int .i64 0) := by rw [cell_of_row Wz _ 1 _ _ (0, 0) rw']; rfl
                have y2 : Wz.cell? ⟨w.heap.size, 2, none⟩ = some (.slice a1 ctl.length c1) := by rw [cell_of_row Wz _ 2 _ _ (0, 0) rw']; rfl
                have y3 : Wz.cell? ⟨w.heap.size, 3, none⟩ = some (.int .i64 0) := by rw [cell_of_row Wz _ 3 _ _ (0, 0) rw']; rfl
                have y4 : Wz.cell? ⟨w.heap.size, 4, none⟩ = some (.int .i64 bt) := by rw [cell_of_row Wz _ 4 _ _ (0, 0) rw']; rfl
                have y5 : Wz.cell? ⟨w.heap.size, 5, none⟩ = some (.slice a2 cnd.length c2) := by rw [cell_of_row Wz _ 5 _ _ (0, 0) rw']; rfl
                have hoE := HoE.out
                subst hoE
                obtain ⟨b1, d1, ev1, i11, i12, i13, i14⟩ := ints_of_own HR1.out
                injection ev1 with ev1 _ ev3
                subst ev1; subst ev3
                obtain ⟨b2, d2, ev2, i21, i22, i23, i24⟩ := ints_of_own HR2.out
                injection ev2 with ev4 _ ev5
                subst ev4; subst ev5
                exact bodyPost_ret (v := .agg #[.int .i64 kd, .int .i64 0, .slice a1 ctl.length c1, .int .i64 0, .int .i64 bt, .slice a2 cnd.length c2]) (by simp [results, Tryd.results36, go_sem, y0, y1, y2, y3, y4, y5]) rfl ⟨⟨a1, _, c1, a2, _, c2, rfl, ⟨⟨i13, i11, by unfold maxLen at i12; omega, i23, i21, by unfold maxLen at i22; omega⟩, i14, i24⟩⟩, HE9.out⟩
              · have m0 : (0 : Int) < ((([x0] : List Int).length : Nat) : Int) := by simp
                have m1 : ¬ (1 : Int) < ((([x0] : List Int).length : Nat) : Int) := by simp
                obtain ⟨pb, po, rfl, hpb, hpc⟩ := HpI.out.at (by simp)
                have c0 := hpc 0 (by simp)
                have npP : pb ≠ V.heap.size := by have := (own_lt HL.out.r3 pb rfl).1; omega
                simp only [List.getD_cons_zero, Nat.add_zero] at c0
                clear hpb hpc HpI
                have hLz := (HL.out).putq x0
                have HLz := Lib.hid hLz
                have HEz := Lib.hid (HEV.out.trans hLz.ext)
                have bRz := (HbR1.out.ext hLz.ext)
                have hlo : w.heap.size < V.heap.size := HbR1.out.lt
                have HoE := Lib.hid (show o = ⟨kd, 0, ctl, x0, bt, cnd⟩ by rw [← Hfin.out]; simp [finish, usesK, usesQ, List.getD, kk1, kk4])
                have u0 := HL.out.bx.x0; have u1 := HL.out.bx.x1; have u2 := HL.out.bx.x2; have u3 := HL.out.bx.x3; have u4 := HL.out.bx.x4; have u5 := HL.out.bx.x5
                have fz1 := HL.out.bx.f 1; have fz3 := HL.out.bx.f 3
                have z0 := hLz.bx.x0; have z1 := hLz.bx.x1; have z2 := hLz.bx.x2; have z3 := hLz.bx.x3; have z4 := hLz.bx.x4; have z5 := hLz.bx.x5
                have t0 := bRz.x0; have t1 := bRz.x1; have t2 := bRz.x2; have t3 := bRz.x3; have t4 := bRz.x4; have t5 := bRz.x5
                have g0 := bRz.f 0; have g1 := bRz.f 1; have g2 := bRz.f 2; have g3 := bRz.f 3; have g4 := bRz.f 4; have g5 := bRz.f 5
                have rw' := putO_row bRz.row (.int .i64 kd) (.int .i64 0) (.slice a1 ctl.length c1) (.int .i64 x0) (.int .i64 bt) (.slice a2 cnd.length c2)
                have HE9 := Lib.hid (putO_ext HEz.out (Nat.le_refl _) (.int .i64 kd) (.int .i64 0) (.slice a1 ctl.length c1) (.int .i64 x0) (.int .i64 bt) (.slice a2 cnd.length c2))
                have HR1 := Lib.hid (putO_own hLz.r1 (show w.heap.size < V.heap.size + 1 by omega) (.int .i64 kd) (.int .i64 0) (.slice a1 ctl.length c1) (.int .i64 x0) (.int .i64 bt) (.slice a2 cnd.length c2))
                have HR2 := Lib.hid (putO_own hLz.r2 (show w.heap.size < V.heap.size + 1 by omega) (.int .i64 kd) (.int .i64 0) (.slice a1 ctl.length c1) (.int .i64 x0) (.int .i64 bt) (.slice a2 cnd.length c2))
                obtain ⟨Wz, hWz⟩ : ∃ Wz, putO (wr.setCell ⟨V.heap.size, 3, none⟩ (.int .i64 x0)) w.heap.size (.int .i64 kd) (.int .i64 0) (.slice a1 ctl.length c1) (.int .i64 x0) (.int .i64 bt) (.slice a2 cnd.length c2) = Wz := ⟨_, rfl⟩
                rw [hWz] at rw' HE9 HR1 HR2
                unfold putO at hWz
                have HWz := Lib.hid hWz
                clear hLz HLz HEz bRz hWz HL Hfin HbR1 HN1 HEV HSt HNo
                have neP : V.heap.size ≠ w.heap.size := by omega
                clear hlo
                go_wp2_with fail
                rw [HWz.out]
                have y0 : Wz.cell? ⟨w.heap.size, 0, none⟩ = some (.int .i64 kd) := by rw [cell_of_row Wz _ 0 _ _ (0, 0) rw']; rfl
                have y1 : Wz.cell? ⟨w.heap.size, 1, none⟩ = some (.int .i64 0) := by rw [cell_of_row Wz _ 1 _ _ (0, 0) rw']; rfl
                have y2 : Wz.cell? ⟨w.heap.size, 2, none⟩ = some (.slice a1 ctl.length c1) := by rw [cell_of_row Wz _ 2 _ _ (0, 0) rw']; rfl
                have y3 : Wz.cell? ⟨w.heap.size, 3, none⟩ = some (.int .i64 x0) := by rw [cell_of_row Wz _ 3 _ _ (0, 0) rw']; rfl
                have y4 : Wz.cell? ⟨w.heap.size, 4, none⟩ = some (.int .i64 bt) := by rw [cell_of_row Wz _ 4 _ _ (0, 0) rw']; rfl
                have y5 : Wz.cell? ⟨w.heap.size, 5, none⟩ = some (.slice a2 cnd.length c2) := by rw [cell_of_row Wz _ 5 _ _ (0, 0) rw']; rfl
                have hoE := HoE.out
                subst hoE
                obtain ⟨b1, d1, ev1, i11, i12, i13, i14⟩ := ints_of_own HR1.out
                injection ev1 with ev1 _ ev3
                subst ev1; subst ev3
                obtain ⟨b2, d2, ev2, i21, i22, i23, i24⟩ := ints_of_own HR2.out
                injection ev2 with ev4 _ ev5
                subst ev4; subst ev5
                exact bodyPost_ret (v := .agg #[.int .i64 kd, .int .i64 0, .slice a1 ctl.length c1, .int .i64 x0, .int .i64 bt, .slice a2 cnd.length c2]) (by simp [results, Tryd.results36, go_sem, y0, y1, y2, y3, y4, y5]) rfl ⟨⟨a1, _, c1, a2, _, c2, rfl, ⟨⟨i13, i11, by unfold maxLen at i12; omega, i23, i21, by unfold maxLen at i22; omega⟩, i14, i24⟩⟩, HE9.out⟩
              · have m0 : (0 : Int) < (((x0 :: x1 :: pl : List Int).length : Nat) : Int) := by simp; omega
                have m1 : (1 : Int) < (((x0 :: x1 :: pl : List Int).length : Nat) : Int) := by simp; omega
                obtain ⟨pb, po, rfl, hpb, hpc⟩ := HpI.out.at (by simp)
                have c0 := hpc 0 (by simp)
                have cc1 := hpc 1 (by simp)
                have npP : pb ≠ V.heap.size := by have := (own_lt HL.out.r3 pb rfl).1; omega
                simp only [List.getD_cons_zero, List.getD_cons_succ, Nat.add_zero] at c0 cc1
                clear hpb hpc HpI
                have hLz := (HL.out).putq x0
                have HLz := Lib.hid hLz
                have HEz := Lib.hid (HEV.out.trans hLz.ext)
                have bRz := (HbR1.out.ext hLz.ext)
                have hlo : w.heap.size < V.heap.size := HbR1.out.lt
                have HoE := Lib.hid (show o = ⟨kd, 0, ctl, x0, bt, cnd⟩ by rw [← Hfin.out]; simp [finish, usesK, usesQ, List.getD, kk1, kk4])
                have u0 := HL.out.bx.x0; have u1 := HL.out.bx.x1; have u2 := HL.out.bx.x2; have u3 := HL.out.bx.x3; have u4 := HL.out.bx.x4; have u5 := HL.out.bx.x5
                have fz1 := HL.out.bx.f 1; have fz3 := HL.out.bx.f 3
                have z0 := hLz.bx.x0; have z1 := hLz.bx.x1; have z2 := hLz.bx.x2; have z3 := hLz.bx.x3; have z4 := hLz.bx.x4; have z5 := hLz.bx.x5
                have t0 := bRz.x0; have t1 := bRz.x1; have t2 := bRz.x2; have t3 := bRz.x3; have t4 := bRz.x4; have t5 := bRz.x5
                have g0 := bRz.f 0; have g1 := bRz.f 1; have g2 := bRz.f 2; have g3 := bRz.f 3; have g4 := bRz.f 4; have g5 := bRz.f 5
                have rw' := putO_row bRz.row (.int .i64 kd) (.int .i64 0) (.slice a1 ctl.length c1) (.int .i64 x0) (.int .i64 bt) (.slice a2 cnd.length c2)
                have HE9 := Lib.hid (putO_ext HEz.out (Nat.le_refl _) (.int .i64 kd) (.int .i64 0) (.slice a1 ctl.length c1) (.int .i64 x0) (.int .i64 bt) (.slice a2 cnd.length c2))
                have HR1 := Lib.hid (putO_own hLz.r1 (show w.heap.size < V.heap.size + 1 by omega) (.int .i64 kd) (.int .i64 0) (.slice a1 ctl.length c1) (.int .i64 x0) (.int .i64 bt) (.slice a2 cnd.length c2))
                have HR2 := Lib.hid (putO_own hLz.r2 (show w.heap.size < V.heap.size + 1 by omega) (.int .i64 kd) (.int .i64 0) (.slice a1 ctl.length c1) (.int .i64 x0) (.int .i64 bt) (.slice a2 cnd.length c2))
                obtain ⟨Wz, hWz⟩ : ∃ Wz, putO (wr.setCell ⟨V.heap.size, 3, none⟩ (.int .i64 x0)) w.heap.size (.int .i64 kd) (.int .i64 0) (.slice a1 ctl.length c1) (.int .i64 x0) (.int .i64 bt) (.slice a2 cnd.length c2) = Wz := ⟨_, rfl⟩
                rw [hWz] at rw' HE9 HR1 HR2
                unfold putO at hWz
                have HWz := Lib.hid hWz
                clear hLz HLz HEz bRz hWz HL Hfin HbR1 HN1 HEV HSt HNo
                have neP : V.heap.size ≠ w.heap.size := by omega
                clear hlo
                go_wp2_with fail
                rw [HWz.out]
                have y0 : Wz.cell? ⟨w.heap.size, 0, none⟩ = some (.int .i64 kd) := by rw [cell_of_row Wz _ 0 _ _ (0, 0) rw']; rfl
                have y1 : Wz.cell? ⟨w.heap.size, 1, none⟩ = some (.int .i64 0) := by rw [cell_of_row Wz _ 1 _ _ (0, 0) rw']; rfl
                have y2 : Wz.cell? ⟨w.heap.size, 2, none⟩ = some (.slice a1 ctl.length c1) := by rw [cell_of_row Wz _ 2 _ _ (0, 0) rw']; rfl
                have y3 : Wz.cell? ⟨w.heap.size, 3, none⟩ = some (.int .i64 x0) := by rw [cell_of_row Wz _ 3 _ _ (0, 0) rw']; rfl
                have y4 : Wz.cell? ⟨w.heap.size, 4, none⟩ = some (.int .i64 bt) := by rw [cell_of_row Wz _ 4 _ _ (0, 0) rw']; rfl
                have y5 : Wz.cell? ⟨w.heap.size, 5, none⟩ = some (.slice a2 cnd.length c2) := by rw [cell_of_row Wz _ 5 _ _ (0, 0) rw']; rfl
                have hoE := HoE.out
                subst hoE
                obtain ⟨b1, d1, ev1, i11, i12, i13, i14⟩ := ints_of_own HR1.out
                injection ev1 with ev1 _ ev3
                subst ev1; subst ev3
                obtain ⟨b2, d2, ev2, i21, i22, i23, i24⟩ := ints_of_own HR2.out
                injection ev2 with ev4 _ ev5
                subst ev4; subst ev5
                exact bodyPost_ret (v := .agg #[.int .i64 kd, .int .i64 0, .slice a1 ctl.length c1, .int .i64 x0, .int .i64 bt, .slice a2 cnd.length c2]) (by simp [results, Tryd.results36, go_sem, y0, y1, y2, y3, y4, y5]) rfl ⟨⟨a1, _, c1, a2, _, c2, rfl, ⟨⟨i13, i11, by unfold maxLen at i12; omega, i23, i21, by unfold maxLen at i22; omega⟩, i14, i24⟩⟩, HE9.out⟩
        · obtain ⟨kd, plain, ctl, bt, cnd, part⟩ := s
          simp only at hl1 hl2 hl3
          have q1 : (i : Int) < (nw : Int) := by omega
          have q1' : decide ((i : Int) < (nw : Int)) = true := dt q1
          have q0 : (0 : Int) ≤ (i : Int) := by omega
          obtain ⟨wb, wo, rfl, hwb, hwc⟩ := (HSt.out.ext hL.ext).at hpos
          have hci := hwc i (by omega)
          obtain ⟨Wi, hWi⟩ : ∃ x, ws.getD i [] = x := ⟨_, rfl⟩
          rw [hWi] at hci
          have hdr : ws.drop i = Wi :: ws.drop (i + 1) := by
            have hlt : i < ws.length := by rw [Hnw.out]; omega
            rw [List.drop_eq_getElem_cons hlt, ← hWi, List.getD_eq_getElem?_getD, List.getElem?_eq_getElem hlt]; rfl
          rw [hdr, List.foldl_cons] at hfo
          have hst : ∀ s', lstep ⟨kd, plain, ctl, bt, cnd, part⟩ Wi = s' → (ws.drop (i + 1)).foldl lstep s' = fin := fun s' e => by rw [← e]; exact hfo
          unfold lstep at hst
          have HL := Lib.hid hL
          have HFig := Lib.hid (fun wx => figure_any Wi wx)
          have hfg := fig_any Wi
          obtain ⟨fg, hfgd⟩ : ∃ x, fig Wi = x := ⟨_, rfl⟩
          rw [hfgd] at HFig hfg
          clear hL hwc hwb hfo hdr hWi
          by_cases e1 : Wi = wOn
          · have q2 : (Wi == [111, 110]) = true := by rw [e1]; rfl
            have Hst := Lib.hid (hst _ (if_pos e1))
            have HL8 := Lib.hid (HL.out.part 1)
            clear hst e1 hfgd
            go_wp2_with fail
            go_roundg (nw - (i + 1))
            case measure => omega
            case rel => exact ⟨i + 1, _, a1, c1, a2, c2, by go_num, by omega, by omega, rfl, rfl, HL8.out, Hst.out, by simp; omega, by simp; omega, by simp; omega⟩
          rw [if_neg e1] at hst
          have q2 : (Wi == [111, 110]) = false := by simpa [wOn] using e1
          clear e1
          by_cases e2 : Wi = wTo
          · have q3 : (Wi == [116, 111]) = true := by rw [e2]; rfl
            have Hst := Lib.hid (hst _ (if_pos e2))
            have HL8 := Lib.hid (HL.out.part 2)
            clear hst e2 hfgd
            go_wp2_with fail
            go_roundg (nw - (i + 1))
            case measure => omega
            case rel => exact ⟨i + 1, _, a1, c1, a2, c2, by go_num, by omega, by omega, rfl, rfl, HL8.out, Hst.out, by simp; omega, by simp; omega, by simp; omega⟩
          rw [if_neg e2] at hst
          have q3 : (Wi == [116, 111]) = false := by simpa [wTo] using e2
          clear e2
          by_cases e3 : Wi = wIf
          · have q4 : (Wi == [105, 102]) = true := by rw [e3]; rfl
            have Hst := Lib.hid (hst _ (if_pos e3))
            have HL8 := Lib.hid (HL.out.part 3)
            clear hst e3 hfgd
            go_wp2_with fail
            go_roundg (nw - (i + 1))
            case measure => omega
            case rel => exact ⟨i + 1, _, a1, c1, a2, c2, by go_num, by omega, by omega, rfl, rfl, HL8.out, Hst.out, by simp; omega, by simp; omega, by simp; omega⟩
          rw [if_neg e3] at hst
          have q4 : (Wi == [105, 102]) = false := by simpa [wIf] using e3
          clear e3
          by_cases p0 : part = 0
          · have q5 : (part == 0) = true := bt' p0
            have Hst := Lib.hid (hst _ (if_pos p0))
            rw [hfgd] at Hst
            clear hst p0 hfgd
            go_wp2_with fail
            refine (HFig.out _).mono ?_
            rintro e w4 ⟨rfl, hx4⟩
            have HL4 := Lib.hid (HL.out.on (hx4.trans (ext_al w4 (.cells #[.int .i64 (fg : Int)] 3))))
            clear hx4
            go_wp2_with (at_builtin; refine wpList_append_own_at _ rfl _ _ 32 rfl (V.heap.size + 1) 3 i0 (.int .i64 0) 1 8 Tryd.underlying32 hi hz0 hz1 hz2 rfl (by decide) _ plain.length (iC plain) rfl HL4.out.r3 ⟨w4.heap.size, 0, none⟩ 1 1 [.int .i64 (fg : Int)] rfl rfl (new_i w4 _ _) (one_i _) (by unfold maxLen; omega) (by omega) HL4.out.lt ?_; intro v' w7 hown' hgrow' _ hat')
            have HL8 := Lib.hid (HL4.out.app3 hown' hgrow' hat')
            go_roundg (nw - (i + 1))
            case measure => omega
            case rel => exact ⟨i + 1, _, a1, c1, a2, c2, by go_num, by omega, by omega, rfl, rfl, HL8.out, Hst.out, by simp; omega, by simp; omega, by simp; omega⟩
          rw [if_neg p0] at hst
          have q5 : (part == 0) = false := bf p0
          clear p0
          by_cases p1 : part = 1
          · have q6 : (part == 1) = true := bt' p1
            have Hst := Lib.hid (hst _ (if_pos p1))
            rw [hfgd] at Hst
            clear hst p1 hfgd
            have v0 := HL.out.bx.x2
            have HE0d := Lib.hid (show Ext wr wr.drew from Below.drew (Ext.refl _))
            go_upto_region 24 with fail
            refine wp_region_K 7 (fun w' => w'.cell? ⟨V.heap.size, 2, none⟩ = some (.slice a1 ctl.length c1)) (by kernel_rfl) ?_
            show anyK _ _ _ _ _ _ 8 #[false, false, false, false, false, false, false, false] _ _
            have hHeld : wr.drew.cell? ⟨V.heap.size, 2, none⟩ = some (.slice a1 ctl.length c1) := v0
            refine anyK_take (i := 0) (v := ?_) rfl (by kernel_rfl) (by kernel_rfl) (by kernel_rfl) (N := 8) (by kernel_rfl) (by kernel_rfl) (by kernel_rfl) (fun _ _ _ h => h) (Or.inl ⟨by rfl, ?_⟩) hHeld ?_
            rotate_left 1
            · intro w hSw
              go_simp
              try with_reducible rfl
            show anyK _ _ _ _ _ _ _ _ (Act.put _ (some 55) _) _
            simp only [Act.put, List.setIfInBounds_toArray, List.set_cons_zero, List.set_cons_succ]
            refine anyK_take (i := 1) (v := ?_) rfl (by kernel_rfl) (by kernel_rfl) (by kernel_rfl) (N := 8) (by kernel_rfl) (by kernel_rfl) (by kernel_rfl) (fun _ _ _ h => h) (Or.inl ⟨by rfl, ?_⟩) hHeld ?_
            rotate_left 1
            · intro w hSw
              go_simp
              try with_reducible rfl
            show anyK _ _ _ _ _ _ _ _ (Act.put _ (some 56) _) _
            simp only [Act.put, List.setIfInBounds_toArray, List.set_cons_zero, List.set_cons_succ]
            refine anyK_take (i := 2) (v := ?_) rfl (by kernel_rfl) (by kernel_rfl) (by kernel_rfl) (N := 8) (by kernel_rfl) (by kernel_rfl) (by kernel_rfl) (fun _ _ _ h => h) (Or.inl ⟨by rfl, ?_⟩) hHeld ?_
            rotate_left 1
            · intro w hSw
              go_simp
              try with_reducible rfl
            show anyK _ _ _ _ _ _ _ _ (Act.put _ (some 57) _) _
            simp only [Act.put, List.setIfInBounds_toArray, List.set_cons_zero, List.set_cons_succ]
            clear hHeld
            refine anyK_one (i := 3) (by kernel_rfl) rfl (fun Kk hKk => ?_)
            go_simp
            (go_at_call 34; refine (HFig.out _).mono ?_; rintro e w4 ⟨rfl, hx4⟩)
            have hL4 := HL.out.on (HE0d.out.trans hx4)
            have x24 := hL4.bx.x2
            have HL4 := Lib.hid hL4
            clear hL4 hx4
            go_wp2_with fail
            refine hKk.out _ _ (fun _ => x24) ?_
            clear hKk Kk
            simp only [List.setIfInBounds_toArray, List.set_cons_zero, List.set_cons_succ]
            refine anyK_one (i := 4) (by kernel_rfl) rfl (fun Kk hKk => ?_)
            go_wp2_with fail
            refine hKk.out _ _ (fun _ => cell_ext x24 (ext_al _ _)) ?_
            clear hKk Kk
            simp only [List.setIfInBounds_toArray, List.set_cons_zero, List.set_cons_succ]
            have hL5 := HL4.out.on (ext_al w4 (.cells #[.int .i64 (fg : Int)] 3))
            obtain ⟨g, cap, w7, hrun, hown', hgrow', hcase, hglt⟩ := run_append_lies (P := Tryd.prog) (w4.alloc (.cells #[.int .i64 (fg : Int)] 3)) 32 32 (V.heap.size + 1) 3 i0 (.int .i64 0) 1 8 Tryd.underlying32 hi hz0 hz1 hz2 rfl (by decide) (.slice a1 ctl.length c1) ctl.length (iC ctl) hL5.r1 ⟨w4.heap.size, 0, none⟩ 1 1 [.int .i64 (fg : Int)] rfl (new_i w4 _ _) (one_i _) (by omega) (by unfold maxLen; omega) (by omega) hL5.lt _ rfl
            refine anyK_one (i := 5) (by kernel_rfl) rfl (fun Kk hKk => ?_)
            refine stepK_append rfl _ _ 32 rfl (.slice a1 ctl.length c1) (.slice (some ⟨w4.heap.size, 0, none⟩) 1 1) _ rfl rfl hrun ?_
            have hbx7 : OpBx w7 V.heap.size _ _ _ _ _ _ _ _ _ _ := ⟨(hgrow'.block _ hL5.bx.lt (fun e => by have := (own_lt hL5.r1 _ e.symm).1; omega)).trans hL5.bx.row⟩
            have x2' := hbx7.x2; have fz2 := hbx7.f 2
            have hHeld : w7.cell? ⟨V.heap.size, 2, none⟩ = some (.slice a1 ctl.length c1) := x2'
            have HL8 := Lib.hid (hL5.app1 hown' hgrow' hcase)
            refine hKk.out _ _ (fun _ => hHeld) ?_
            clear hKk Kk
            show anyK _ _ _ _ _ _ _ _ (Act.put _ (some 60) _) _
            simp only [Act.put, List.setIfInBounds_toArray, List.set_cons_zero, List.set_cons_succ]
            refine anyK_take (i := 6) (v := ?_) rfl (by kernel_rfl) (by kernel_rfl) (by kernel_rfl) (N := 8) (by kernel_rfl) (by kernel_rfl) (by kernel_rfl) (fun _ _ _ h => h) (Or.inl ⟨by rfl, ?_⟩) hHeld ?_
            rotate_left 1
            · intro w hSw
              go_simp
              try with_reducible rfl
            show anyK _ _ _ _ _ _ _ _ (Act.put _ (some 61) _) _
            simp only [Act.put, List.setIfInBounds_toArray, List.set_cons_zero, List.set_cons_succ]
            clear hHeld
            refine anyK_one (i := 7) (by kernel_rfl) rfl (fun Kk hKk => ?_)
            refine stepK_storeI rfl rfl _ _ rfl V.heap.size 2 (some ⟨g, 0, none⟩) (ctl.length + 1) cap (.slice a1 ctl.length c1) rfl rfl x2' fz2 ?_
            refine hKk.out _ _ (fun h => Bool.noConfusion (show true = false from h)) ?_
            clear hKk Kk
            simp only [List.setIfInBounds_toArray, List.set_cons_zero, List.set_cons_succ]
            refine anyK_done (by kernel_rfl) ?_ _
            clear hbx7 x2' fz2 hrun hown' hgrow' hcase hglt hL5 x24 v0 HL4 HL HE0d
            generalize w7.setCell ⟨V.heap.size, 2, none⟩ (.slice (some ⟨g, 0, none⟩) (ctl.length + 1) cap) = w8 at *
            go_wp2_with fail
            go_roundg (nw - (i + 1))
            case measure => omega
            case rel => exact ⟨i + 1, _, (some ⟨g, 0, none⟩), cap, a2, c2, by go_num, by omega, by omega, rfl, rfl, HL8.out, Hst.out, by simp; omega, by simp; omega, by simp; omega⟩
          rw [if_neg p1] at hst
          have q6 : (part == 1) = false := bf p1
          clear p1
          by_cases p2 : part = 2
          · have q7 : (part == 2) = true := bt' p2
            have Hst := Lib.hid (hst _ (if_pos p2))
            rw [hfgd] at Hst
            clear hst p2 hfgd
            go_wp2_with fail
            refine (HFig.out _).mono ?_
            rintro e w4 ⟨rfl, hx4⟩
            have hL4 := HL.out.on hx4
            have y4 := hL4.bx.x4; have f4 := hL4.bx.f 4
            have HL8 := Lib.hid (hL4.bit (fg : Int))
            clear hx4 hL4
            go_wp2_with fail
            go_roundg (nw - (i + 1))
            case measure => omega
            case rel => exact ⟨i + 1, _, a1, c1, a2, c2, by go_num, by omega, by omega, rfl, rfl, HL8.out, Hst.out, by simp; omega, by simp; omega, by simp; omega⟩
          rw [if_neg p2] at hst
          have q7 : (part == 2) = false := bf p2
          clear p2
          by_cases pn : Wi[0]? = some 33
          · have hl0 : 0 < Wi.length := (List.getElem?_eq_some_iff.1 pn).1
            have b1 : (0 : Int) < (Wi.length : Int) := by omega
            have b2 : (1 : Int) ≤ (Wi.length : Int) := by omega
            have b1' : decide ((0 : Int) < (Wi.length : Int)) = true := dt b1
            have hsz : 0 < (⟨Wi.toArray⟩ : ByteArray).size := by simpa [ByteArray.size] using hl0
            have hg : ((⟨Wi.toArray⟩ : ByteArray)[0]'hsz).toNat = 33 := by rw [byte_at pn hsz]; rfl
            have Hst := Lib.hid (hst _ (if_pos pn))
            clear HFig hfgd hfg
            obtain ⟨Rr, hRr⟩ : ∃ x, Wi.drop 1 = x := ⟨_, rfl⟩
            have hpc : (⟨Wi.toArray⟩ : ByteArray).extract 1 Wi.length = ⟨Rr.toArray⟩ := by
              rw [piece, ← hRr, List.take_of_length_le (by rw [List.length_drop]; omega)]
            have HFig := Lib.hid (fun wx => figure_any Rr wx)
            have hfr := fig_any Rr
            rw [hRr] at Hst
            obtain ⟨fr, hfrd⟩ : ∃ x, fig Rr = x := ⟨_, rfl⟩
            rw [hfrd] at HFig hfr Hst
            obtain ⟨ng, hng⟩ : ∃ x : Int, -(fr : Int) = x := ⟨_, rfl⟩
            rw [hng] at Hst
            obtain ⟨el, hel⟩ : ∃ x : Int, ng - 1 = x := ⟨_, rfl⟩
            rw [hel] at Hst
            have w1' : IntKind.i64.wrap (-(fr : Int)) = ng := by rw [IntKind.wrap_i64]; omega
            have w2' : IntKind.i64.wrap (ng - 1) = el := by rw [IntKind.wrap_i64]; omega
            clear hst pn hRr hfrd hng hel hfr hl0
            have v0 := HL.out.bx.x5
            have HE0d := Lib.hid (show Ext wr wr.drew from Below.drew (Ext.refl _))
            go_upto_region 28 with fail
            refine wp_region_K 10 (fun w' => w'.cell? ⟨V.heap.size, 5, none⟩ = some (.slice a2 cnd.length c2)) (by kernel_rfl) ?_
            show anyK _ _ _ _ _ _ 11 #[false, false, false, false, false, false, false, false, false, false, false] _ _
            have hHeld : wr.drew.cell? ⟨V.heap.size, 5, none⟩ = some (.slice a2 cnd.length c2) := v0
            refine anyK_take (i := 0) (v := ?_) rfl (by kernel_rfl) (by kernel_rfl) (by kernel_rfl) (N := 11) (by kernel_rfl) (by kernel_rfl) (by kernel_rfl) (fun _ _ _ h => h) (Or.inl ⟨by rfl, ?_⟩) hHeld ?_
            rotate_left 1
            · intro w hSw
              go_simp
              try with_reducible rfl
            show anyK _ _ _ _ _ _ _ _ (Act.put _ (some 75) _) _
            simp only [Act.put, List.setIfInBounds_toArray, List.set_cons_zero, List.set_cons_succ]
            refine anyK_take (i := 1) (v := ?_) rfl (by kernel_rfl) (by kernel_rfl) (by kernel_rfl) (N := 11) (by kernel_rfl) (by kernel_rfl) (by kernel_rfl) (fun _ _ _ h => h) (Or.inl ⟨by rfl, ?_⟩) hHeld ?_
            rotate_left 1
            · intro w hSw
              go_simp
              try with_reducible rfl
            show anyK _ _ _ _ _ _ _ _ (Act.put _ (some 76) _) _
            simp only [Act.put, List.setIfInBounds_toArray, List.set_cons_zero, List.set_cons_succ]
            refine anyK_take (i := 2) (v := ?_) rfl (by kernel_rfl) (by kernel_rfl) (by kernel_rfl) (N := 11) (by kernel_rfl) (by kernel_rfl) (by kernel_rfl) (fun _ _ _ h => h) (Or.inl ⟨by rfl, ?_⟩) hHeld ?_
            rotate_left 1
            · intro w hSw
              go_simp
              try with_reducible rfl
            show anyK _ _ _ _ _ _ _ _ (Act.put _ (some 77) _) _
            simp only [Act.put, List.setIfInBounds_toArray, List.set_cons_zero, List.set_cons_succ]
            refine anyK_take (i := 3) (v := ?_) rfl (by kernel_rfl) (by kernel_rfl) (by kernel_rfl) (N := 11) (by kernel_rfl) (by kernel_rfl) (by kernel_rfl) (fun _ _ _ h => h) (Or.inl ⟨by rfl, ?_⟩) hHeld ?_
            rotate_left 1
            · intro w hSw
              go_simp
              try with_reducible rfl
            show anyK _ _ _ _ _ _ _ _ (Act.put _ (some 78) _) _
            simp only [Act.put, List.setIfInBounds_toArray, List.set_cons_zero, List.set_cons_succ]
            clear hHeld
            refine anyK_one (i := 4) (by kernel_rfl) rfl (fun Kk hKk => ?_)
            go_simp
            (go_at_call 34; refine (HFig.out _).mono ?_; rintro e w4 ⟨rfl, hx4⟩)
            have hL4 := HL.out.on (HE0d.out.trans hx4)
            have x24 := hL4.bx.x5
            have HL4 := Lib.hid hL4
            clear hL4 hx4
            go_wp2_with fail
            refine hKk.out _ _ (fun _ => x24) ?_
            clear hKk Kk
            simp only [List.setIfInBounds_toArray, List.set_cons_zero, List.set_cons_succ]
            have hHeld := x24
            refine anyK_take (i := 5) (v := ?_) rfl (by kernel_rfl) (by kernel_rfl) (by kernel_rfl) (N := 11) (by kernel_rfl) (by kernel_rfl) (by kernel_rfl) (fun _ _ _ h => h) (Or.inl ⟨by rfl, ?_⟩) hHeld ?_
            rotate_left 1
            · intro w hSw
              go_simp
              try with_reducible rfl
            show anyK _ _ _ _ _ _ _ _ (Act.put _ (some 80) _) _
            simp only [Act.put, List.setIfInBounds_toArray, List.set_cons_zero, List.set_cons_succ]
            clear hHeld
            have hHeld := x24
            refine anyK_take (i := 6) (v := ?_) rfl (by kernel_rfl) (by kernel_rfl) (by kernel_rfl) (N := 11) (by kernel_rfl) (by kernel_rfl) (by kernel_rfl) (fun _ _ _ h => h) (Or.inl ⟨by rfl, ?_⟩) hHeld ?_
            rotate_left 1
            · intro w hSw
              go_simp
              try with_reducible rfl
            show anyK _ _ _ _ _ _ _ _ (Act.put _ (some 81) _) _
            simp only [Act.put, List.setIfInBounds_toArray, List.set_cons_zero, List.set_cons_succ]
            clear hHeld
            refine anyK_one (i := 7) (by kernel_rfl) rfl (fun Kk hKk => ?_)
            go_wp2_with fail
            refine hKk.out _ _ (fun _ => cell_ext x24 (ext_al _ _)) ?_
            clear hKk Kk
            simp only [List.setIfInBounds_toArray, List.set_cons_zero, List.set_cons_succ]
            have hL5 := HL4.out.on (ext_al w4 (.cells #[.int .i64 el] 3))
            obtain ⟨g, cap, w7, hrun, hown', hgrow', hcase, hglt⟩ := run_append_lies (P := Tryd.prog) (w4.alloc (.cells #[.int .i64 el] 3)) 32 32 (V.heap.size + 1) 3 i0 (.int .i64 0) 1 8 Tryd.underlying32 hi hz0 hz1 hz2 rfl (by decide) (.slice a2 cnd.length c2) cnd.length (iC cnd) hL5.r2 ⟨w4.heap.size, 0, none⟩ 1 1 [.int .i64 el] rfl (new_i w4 _ _) (one_i _) (by omega) (by unfold maxLen; omega) (by omega) hL5.lt _ rfl
            refine anyK_one (i := 8) (by kernel_rfl) rfl (fun Kk hKk => ?_)
            refine stepK_append rfl _ _ 32 rfl (.slice a2 cnd.length c2) (.slice (some ⟨w4.heap.size, 0, none⟩) 1 1) _ rfl rfl hrun ?_
            have hbx7 : OpBx w7 V.heap.size _ _ _ _ _ _ _ _ _ _ := ⟨(hgrow'.block _ hL5.bx.lt (fun e => by have := (own_lt hL5.r2 _ e.symm).1; omega)).trans hL5.bx.row⟩
            have x2' := hbx7.x5; have fz2 := hbx7.f 5
            have hHeld : w7.cell? ⟨V.heap.size, 5, none⟩ = some (.slice a2 cnd.length c2) := x2'
            have HL8 := Lib.hid (hL5.app2 hown' hgrow' hcase)
            refine hKk.out _ _ (fun _ => hHeld) ?_
            clear hKk Kk
            show anyK _ _ _ _ _ _ _ _ (Act.put _ (some 83) _) _
            simp only [Act.put, List.setIfInBounds_toArray, List.set_cons_zero, List.set_cons_succ]
            refine anyK_take (i := 9) (v := ?_) rfl (by kernel_rfl) (by kernel_rfl) (by kernel_rfl) (N := 11) (by kernel_rfl) (by kernel_rfl) (by kernel_rfl) (fun _ _ _ h => h) (Or.inl ⟨by rfl, ?_⟩) hHeld ?_
            rotate_left 1
            · intro w hSw
              go_simp
              try with_reducible rfl
            show anyK _ _ _ _ _ _ _ _ (Act.put _ (some 84) _) _
            simp only [Act.put, List.setIfInBounds_toArray, List.set_cons_zero, List.set_cons_succ]
            clear hHeld
            refine anyK_one (i := 10) (by kernel_rfl) rfl (fun Kk hKk => ?_)
            refine stepK_storeI rfl rfl _ _ rfl V.heap.size 5 (some ⟨g, 0, none⟩) (cnd.length + 1) cap (.slice a2 cnd.length c2) rfl rfl x2' fz2 ?_
            refine hKk.out _ _ (fun h => Bool.noConfusion (show true = false from h)) ?_
            clear hKk Kk
            simp only [List.setIfInBounds_toArray, List.set_cons_zero, List.set_cons_succ]
            refine anyK_done (by kernel_rfl) ?_ _
            clear hbx7 x2' fz2 hrun hown' hgrow' hcase hglt hL5 x24 v0 HL4 HL HE0d
            generalize w7.setCell ⟨V.heap.size, 5, none⟩ (.slice (some ⟨g, 0, none⟩) (cnd.length + 1) cap) = w8 at *
            go_wp2_with fail
            go_roundg (nw - (i + 1))
            case measure => omega
            case rel => exact ⟨i + 1, _, a1, c1, (some ⟨g, 0, none⟩), cap, by go_num, by omega, by omega, rfl, rfl, HL8.out, Hst.out, by simp; omega, by simp; omega, by simp; omega⟩
          · have Hst := Lib.hid (hst _ (if_neg pn))
            rw [hfgd] at Hst
            obtain ⟨el, hel⟩ : ∃ x : Int, (fg : Int) + 1 = x := ⟨_, rfl⟩
            rw [hel] at Hst
            have w1' : IntKind.i64.wrap ((fg : Int) + 1) = el := by rw [IntKind.wrap_i64]; omega
            clear hst hfgd hel hfg
            rcases hW0 : Wi[0]? with _ | x0
            · have b1 : ¬ (0 : Int) < (Wi.length : Int) := by
                have := List.getElem?_eq_none_iff.1 hW0
                omega
              have b1' : decide ((0 : Int) < (Wi.length : Int)) = false := df b1
              clear hW0 pn
              have v0 := HL.out.bx.x5
              have HE0d := Lib.hid (show Ext wr wr.drew from Below.drew (Ext.refl _))
              go_upto_region 29 with fail
              refine wp_region_K 8 (fun w' => w'.cell? ⟨V.heap.size, 5, none⟩ = some (.slice a2 cnd.length c2)) (by kernel_rfl) ?_
              show anyK _ _ _ _ _ _ 9 #[false, false, false, false, false, false, false, false, false] _ _
              have hHeld : wr.drew.cell? ⟨V.heap.size, 5, none⟩ = some (.slice a2 cnd.length c2) := v0
              refine anyK_take (i := 0) (v := ?_) rfl (by kernel_rfl) (by kernel_rfl) (by kernel_rfl) (N := 9) (by kernel_rfl) (by kernel_rfl) (by kernel_rfl) (fun _ _ _ h => h) (Or.inl ⟨by rfl, ?_⟩) hHeld ?_
              rotate_left 1
              · intro w hSw
                go_simp
                try with_reducible rfl
              show anyK _ _ _ _ _ _ _ _ (Act.put _ (some 85) _) _
              simp only [Act.put, List.setIfInBounds_toArray, List.set_cons_zero, List.set_cons_succ]
              refine anyK_take (i := 1) (v := ?_) rfl (by kernel_rfl) (by kernel_rfl) (by kernel_rfl) (N := 9) (by kernel_rfl) (by kernel_rfl) (by kernel_rfl) (fun _ _ _ h => h) (Or.inl ⟨by rfl, ?_⟩) hHeld ?_
              rotate_left 1
              · intro w hSw
                go_simp
                try with_reducible rfl
              show anyK _ _ _ _ _ _ _ _ (Act.put _ (some 86) _) _
              simp only [Act.put, List.setIfInBounds_toArray, List.set_cons_zero, List.set_cons_succ]
              refine anyK_take (i := 2) (v := ?_) rfl (by kernel_rfl) (by kernel_rfl) (by kernel_rfl) (N := 9) (by kernel_rfl) (by kernel_rfl) (by kernel_rfl) (fun _ _ _ h => h) (Or.inl ⟨by rfl, ?_⟩) hHeld ?_
              rotate_left 1
              · intro w hSw
                go_simp
                try with_reducible rfl
              show anyK _ _ _ _ _ _ _ _ (Act.put _ (some 87) _) _
              simp only [Act.put, List.setIfInBounds_toArray, List.set_cons_zero, List.set_cons_succ]
              clear hHeld
              refine anyK_one (i := 3) (by kernel_rfl) rfl (fun Kk hKk => ?_)
              go_simp
              (go_at_call 34; refine (HFig.out _).mono ?_; rintro e w4 ⟨rfl, hx4⟩)
              have hL4 := HL.out.on (HE0d.out.trans hx4)
              have x24 := hL4.bx.x5
              have HL4 := Lib.hid hL4
              clear hL4 hx4
              go_wp2_with fail
              refine hKk.out _ _ (fun _ => x24) ?_
              clear hKk Kk
              simp only [List.setIfInBounds_toArray, List.set_cons_zero, List.set_cons_succ]
              have hHeld := x24
              refine anyK_take (i := 4) (v := ?_) rfl (by kernel_rfl) (by kernel_rfl) (by kernel_rfl) (N := 9) (by kernel_rfl) (by kernel_rfl) (by kernel_rfl) (fun _ _ _ h => h) (Or.inl ⟨by rfl, ?_⟩) hHeld ?_
              rotate_left 1
              · intro w hSw
                go_simp
                try with_reducible rfl
              show anyK _ _ _ _ _ _ _ _ (Act.put _ (some 89) _) _
              simp only [Act.put, List.setIfInBounds_toArray, List.set_cons_zero, List.set_cons_succ]
              clear hHeld
              refine anyK_one (i := 5) (by kernel_rfl) rfl (fun Kk hKk => ?_)
              go_wp2_with fail
              refine hKk.out _ _ (fun _ => cell_ext x24 (ext_al _ _)) ?_
              clear hKk Kk
              simp only [List.setIfInBounds_toArray, List.set_cons_zero, List.set_cons_succ]
              have hL5 := HL4.out.on (ext_al w4 (.cells #[.int .i64 el] 3))
              obtain ⟨g, cap, w7, hrun, hown', hgrow', hcase, hglt⟩ := run_append_lies (P := Tryd.prog) (w4.alloc (.cells #[.int .i64 el] 3)) 32 32 (V.heap.size + 1) 3 i0 (.int .i64 0) 1 8 Tryd.underlying32 hi hz0 hz1 hz2 rfl (by decide) (.slice a2 cnd.length c2) cnd.length (iC cnd) hL5.r2 ⟨w4.heap.size, 0, none⟩ 1 1 [.int .i64 el] rfl (new_i w4 _ _) (one_i _) (by omega) (by unfold maxLen; omega) (by omega) hL5.lt _ rfl
              refine anyK_one (i := 6) (by kernel_rfl) rfl (fun Kk hKk => ?_)
              refine stepK_append rfl _ _ 32 rfl (.slice a2 cnd.length c2) (.slice (some ⟨w4.heap.size, 0, none⟩) 1 1) _ rfl rfl hrun ?_
              have hbx7 : OpBx w7 V.heap.size _ _ _ _ _ _ _ _ _ _ := ⟨(hgrow'.block _ hL5.bx.lt (fun e => by have := (own_lt hL5.r2 _ e.symm).1; omega)).trans hL5.bx.row⟩
              have x2' := hbx7.x5; have fz2 := hbx7.f 5
              have hHeld : w7.cell? ⟨V.heap.size, 5, none⟩ = some (.slice a2 cnd.length c2) := x2'
              have HL8 := Lib.hid (hL5.app2 hown' hgrow' hcase)
              refine hKk.out _ _ (fun _ => hHeld) ?_
              clear hKk Kk
              show anyK _ _ _ _ _ _ _ _ (Act.put _ (some 91) _) _
              simp only [Act.put, List.setIfInBounds_toArray, List.set_cons_zero, List.set_cons_succ]
              refine anyK_take (i := 7) (v := ?_) rfl (by kernel_rfl) (by kernel_rfl) (by kernel_rfl) (N := 9) (by kernel_rfl) (by kernel_rfl) (by kernel_rfl) (fun _ _ _ h => h) (Or.inl ⟨by rfl, ?_⟩) hHeld ?_
              rotate_left 1
              · intro w hSw
                go_simp
                try with_reducible rfl
              show anyK _ _ _ _ _ _ _ _ (Act.put _ (some 92) _) _
              simp only [Act.put, List.setIfInBounds_toArray, List.set_cons_zero, List.set_cons_succ]
              clear hHeld
              refine anyK_one (i := 8) (by kernel_rfl) rfl (fun Kk hKk => ?_)
              refine stepK_storeI rfl rfl _ _ rfl V.heap.size 5 (some ⟨g, 0, none⟩) (cnd.length + 1) cap (.slice a2 cnd.length c2) rfl rfl x2' fz2 ?_
              refine hKk.out _ _ (fun h => Bool.noConfusion (show true = false from h)) ?_
              clear hKk Kk
              simp only [List.setIfInBounds_toArray, List.set_cons_zero, List.set_cons_succ]
              refine anyK_done (by kernel_rfl) ?_ _
              clear hbx7 x2' fz2 hrun hown' hgrow' hcase hglt hL5 x24 v0 HL4 HL HE0d
              generalize w7.setCell ⟨V.heap.size, 5, none⟩ (.slice (some ⟨g, 0, none⟩) (cnd.length + 1) cap) = w8 at *
              go_wp2_with fail
              go_roundg (nw - (i + 1))
              case measure => omega
              case rel => exact ⟨i + 1, _, a1, c1, (some ⟨g, 0, none⟩), cap, by go_num, by omega, by omega, rfl, rfl, HL8.out, Hst.out, by simp; omega, by simp; omega, by simp; omega⟩
            · have hl0 : 0 < Wi.length := (List.getElem?_eq_some_iff.1 hW0).1
              have b1 : (0 : Int) < (Wi.length : Int) := by omega
              have b1' : decide ((0 : Int) < (Wi.length : Int)) = true := dt b1
              have hsz : 0 < (⟨Wi.toArray⟩ : ByteArray).size := by simpa [ByteArray.size] using hl0
              have hg : (((⟨Wi.toArray⟩ : ByteArray)[0]'hsz).toNat : Int) ≠ 33 := by
                rw [byte_at hW0 hsz]
                intro e
                apply pn
                rw [hW0]
                congr 1
                exact UInt8.toNat_inj.1 (by have : (33 : UInt8).toNat = 33 := rfl; omega)
              have hgb : ((((⟨Wi.toArray⟩ : ByteArray)[0]'hsz).toNat : Int) == 33) = false := bf hg
              clear hW0 pn hl0 hg
              have v0 := HL.out.bx.x5
              have HE0d := Lib.hid (show Ext wr wr.drew from Below.drew (Ext.refl _))
              go_upto_region 29 with fail
              refine wp_region_K 8 (fun w' => w'.cell? ⟨V.heap.size, 5, none⟩ = some (.slice a2 cnd.length c2)) (by kernel_rfl) ?_
              show anyK _ _ _ _ _ _ 9 #[false, false, false, false, false, false, false, false, false] _ _
              have hHeld : wr.drew.cell? ⟨V.heap.size, 5, none⟩ = some (.slice a2 cnd.length c2) := v0
              refine anyK_take (i := 0) (v := ?_) rfl (by kernel_rfl) (by kernel_rfl) (by kernel_rfl) (N := 9) (by kernel_rfl) (by kernel_rfl) (by kernel_rfl) (fun _ _ _ h => h) (Or.inl ⟨by rfl, ?_⟩) hHeld ?_
              rotate_left 1
              · intro w hSw
                go_simp
                try with_reducible rfl
              show anyK _ _ _ _ _ _ _ _ (Act.put _ (some 85) _) _
              simp only [Act.put, List.setIfInBounds_toArray, List.set_cons_zero, List.set_cons_succ]
              refine anyK_take (i := 1) (v := ?_) rfl (by kernel_rfl) (by kernel_rfl) (by kernel_rfl) (N := 9) (by kernel_rfl) (by kernel_rfl) (by kernel_rfl) (fun _ _ _ h => h) (Or.inl ⟨by rfl, ?_⟩) hHeld ?_
              rotate_left 1
              · intro w hSw
                go_simp
                try with_reducible rfl
              show anyK _ _ _ _ _ _ _ _ (Act.put _ (some 86) _) _
              simp only [Act.put, List.setIfInBounds_toArray, List.set_cons_zero, List.set_cons_succ]
              refine anyK_take (i := 2) (v := ?_) rfl (by kernel_rfl) (by kernel_rfl) (by kernel_rfl) (N := 9) (by kernel_rfl) (by kernel_rfl) (by kernel_rfl) (fun _ _ _ h => h) (Or.inl ⟨by rfl, ?_⟩) hHeld ?_
              rotate_left 1
              · intro w hSw
                go_simp
                try with_reducible rfl
              show anyK _ _ _ _ _ _ _ _ (Act.put _ (some 87) _) _
              simp only [Act.put, List.setIfInBounds_toArray, List.set_cons_zero, List.set_cons_succ]
              clear hHeld
              refine anyK_one (i := 3) (by kernel_rfl) rfl (fun Kk hKk => ?_)
              go_simp
              (go_at_call 34; refine (HFig.out _).mono ?_; rintro e w4 ⟨rfl, hx4⟩)
              have hL4 := HL.out.on (HE0d.out.trans hx4)
              have x24 := hL4.bx.x5
              have HL4 := Lib.hid hL4
              clear hL4 hx4
              go_wp2_with fail
              refine hKk.out _ _ (fun _ => x24) ?_
              clear hKk Kk
              simp only [List.setIfInBounds_toArray, List.set_cons_zero, List.set_cons_succ]
              have hHeld := x24
              refine anyK_take (i := 4) (v := ?_) rfl (by kernel_rfl) (by kernel_rfl) (by kernel_rfl) (N := 9) (by kernel_rfl) (by kernel_rfl) (by kernel_rfl) (fun _ _ _ h => h) (Or.inl ⟨by rfl, ?_⟩) hHeld ?_
              rotate_left 1
              · intro w hSw
                go_simp
                try with_reducible rfl
              show anyK _ _ _ _ _ _ _ _ (Act.put _ (some 89) _) _
              simp only [Act.put, List.setIfInBounds_toArray, List.set_cons_zero, List.set_cons_succ]
              clear hHeld
              refine anyK_one (i := 5) (by kernel_rfl) rfl (fun Kk hKk => ?_)
              go_wp2_with fail
              refine hKk.out _ _ (fun _ => cell_ext x24 (ext_al _ _)) ?_
              clear hKk Kk
              simp only [List.setIfInBounds_toArray, List.set_cons_zero, List.set_cons_succ]
              have hL5 := HL4.out.on (ext_al w4 (.cells #[.int .i64 el] 3))
              obtain ⟨g, cap, w7, hrun, hown', hgrow', hcase, hglt⟩ := run_append_lies (P := Tryd.prog) (w4.alloc (.cells #[.int .i64 el] 3)) 32 32 (V.heap.size + 1) 3 i0 (.int .i64 0) 1 8 Tryd.underlying32 hi hz0 hz1 hz2 rfl (by decide) (.slice a2 cnd.length c2) cnd.length (iC cnd) hL5.r2 ⟨w4.heap.size, 0, none⟩ 1 1 [.int .i64 el] rfl (new_i w4 _ _) (one_i _) (by omega) (by unfold maxLen; omega) (by omega) hL5.lt _ rfl
              refine anyK_one (i := 6) (by kernel_rfl) rfl (fun Kk hKk => ?_)
              refine stepK_append rfl _ _ 32 rfl (.slice a2 cnd.length c2) (.slice (some ⟨w4.heap.size, 0, none⟩) 1 1) _ rfl rfl hrun ?_
              have hbx7 : OpBx w7 V.heap.size _ _ _ _ _ _ _ _ _ _ := ⟨(hgrow'.block _ hL5.bx.lt (fun e => by have := (own_lt hL5.r2 _ e.symm).1; omega)).trans hL5.bx.row⟩
              have x2' := hbx7.x5; have fz2 := hbx7.f 5
              have hHeld : w7.cell? ⟨V.heap.size, 5, none⟩ = some (.slice a2 cnd.length c2) := x2'
              have HL8 := Lib.hid (hL5.app2 hown' hgrow' hcase)
              refine hKk.out _ _ (fun _ => hHeld) ?_
              clear hKk Kk
              show anyK _ _ _ _ _ _ _ _ (Act.put _ (some 91) _) _
              simp only [Act.put, List.setIfInBounds_toArray, List.set_cons_zero, List.set_cons_succ]
              refine anyK_take (i := 7) (v := ?_) rfl (by kernel_rfl) (by kernel_rfl) (by kernel_rfl) (N := 9) (by kernel_rfl) (by kernel_rfl) (by kernel_rfl) (fun _ _ _ h => h) (Or.inl ⟨by rfl, ?_⟩) hHeld ?_
              rotate_left 1
              · intro w hSw
                go_simp
                try with_reducible rfl
              show anyK _ _ _ _ _ _ _ _ (Act.put _ (some 92) _) _
              simp only [Act.put, List.setIfInBounds_toArray, List.set_cons_zero, List.set_cons_succ]
              clear hHeld
              refine anyK_one (i := 8) (by kernel_rfl) rfl (fun Kk hKk => ?_)
              refine stepK_storeI rfl rfl _ _ rfl V.heap.size 5 (some ⟨g, 0, none⟩) (cnd.length + 1) cap (.slice a2 cnd.length c2) rfl rfl x2' fz2 ?_
              refine hKk.out _ _ (fun h => Bool.noConfusion (show true = false from h)) ?_
              clear hKk Kk
              simp only [List.setIfInBounds_toArray, List.set_cons_zero, List.set_cons_succ]
              refine anyK_done (by kernel_rfl) ?_ _
              clear hbx7 x2' fz2 hrun hown' hgrow' hcase hglt hL5 x24 v0 HL4 HL HE0d
              generalize w7.setCell ⟨V.heap.size, 5, none⟩ (.slice (some ⟨g, 0, none⟩) (cnd.length + 1) cap) = w8 at *
              go_wp2_with fail
              go_roundg (nw - (i + 1))
              case measure => omega
              case rel => exact ⟨i + 1, _, a1, c1, (some ⟨g, 0, none⟩), cap, by go_num, by omega, by omega, rfl, rfl, HL8.out, Hst.out, by simp; omega, by simp; omega, by simp; omega⟩
    · have q1 : (j : Int) ≤ 6 := by omega
      have q1' : decide ((j : Int) ≤ 6) = true := dt q1
      have q0 : (0 : Int) ≤ (j : Int) := by omega
      have q7 : (j : Int) < 7 := by omega
      have hnm := HN1.out.ext hL.ext j (by omega)
      obtain ⟨wl, hwl⟩ : ∃ wl, (wordOf j).data.toList = wl := ⟨_, rfl⟩
      rw [hwl] at hnm
      obtain ⟨wb, wo, rfl, hwb, hwc⟩ := (HSt.out.ext hL.ext).at hpos
      have hc0 := hwc 0 hpos
      rw [Hg0.out, Nat.add_zero] at hc0
      have p0 : (0 : Int) < (nw : Int) := by omega
      have hkd : kindUp W0 (j + 1 - 1) = if wl = W0 then (j : Int) else kindUp W0 (j - 1) := by
        obtain ⟨m, rfl⟩ : ∃ m, j = m + 1 := ⟨j - 1, by omega⟩
        show kindUp W0 (m + 1) = _
        rw [kindUp, hwl]; rfl
      have HL := Lib.hid hL
      by_cases hm : wl = W0
      · have q2 : (wl == W0) = true := by rw [hm]; exact beq_self_eq_true W0
        rw [if_pos hm] at hkd
        have Hkd := Lib.hid hkd
        clear hL hwc hwb hwl hkd hm
        go_upto_region 7 with fail
        go_quiet (fail)
        have hL2 := HL.out.on (ext_drewN wr nq)
        have y0 := hL2.bx.x0; have f0 := hL2.bx.f 0
        have hL3 : LoS V ((wr.drewN nq).setCell ⟨V.heap.size, 0, none⟩ (.int .i64 (j : Int))) ⟨(j : Int), [], [], 0, [], 0⟩ 0 0 none 0 none 0 (.slice none 0 0) :=
          ⟨cput hL2.ext (Nat.le_refl _) _, ⟨row_put hL2.bx.row rfl⟩, put_row hL2.r1 (Nat.lt_succ_self _), put_row hL2.r2 (Nat.lt_succ_self _), put_row hL2.r3 (Nat.lt_succ_self _), hL2.d12, hL2.d13, hL2.d23⟩
        have HL3 := Lib.hid hL3
        clear hL2 hL3 HL
        go_wp2_with fail
        go_roundg (7 - (j + 1))
        case measure => omega
        case rel => exact ⟨j + 1, by go_num, by omega, by omega, rfl, by rw [Hkd.out]; exact HL3.out⟩
      · have q2 : (wl == W0) = false := by simpa using hm
        rw [if_neg hm] at hkd
        have Hkd := Lib.hid hkd
        clear hL hwc hwb hwl hkd hm
        go_upto_region 7 with fail
        go_quiet (fail)
        have HL3 := Lib.hid (HL.out.on (ext_drewN wr nq))
        clear HL
        go_wp2_with fail
        go_roundg (7 - (j + 1))
        case measure => omega
        case rel => exact ⟨j + 1, by go_num, by omega, by omega, rfl, by rw [Hkd.out]; exact HL3.out⟩

end Go.Proofs.YtfjbhiihfibbaaaDoor
