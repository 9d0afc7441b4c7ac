/-
  The program's writer of an operation.
-/
import Derived.Test.YtpabafioofhklaaDoorMBx

namespace Go.Proofs.YtpabafioofhklaaDoor
open Go.RowKit

/-- What a checked operation keeps to. -/
structure PrFit (o : Gop) : Prop where
  kd : 1 ≤ o.kind ∧ o.kind ≤ 6
  k : 0 ≤ o.k ∧ o.k < 100
  q : 0 ≤ o.q ∧ o.q < 100
  bit : 0 ≤ o.bit ∧ o.bit < 100
  ctl : ∀ c ∈ o.ctl, 0 ≤ c ∧ c < 100
  few : o.ctl.length ≤ 12
  cnd : ∀ t ∈ o.cnd, t ≠ 0 ∧ -12 ≤ t ∧ t ≤ 12
  cfew : o.cnd.length ≤ 24

/-- While an operation is written: what is written so far, and the two variables. -/
structure WoS (w W : World) (b H : Nat) (l : List UInt8) (k0 k1 : Int) (a1 : Option Addr) (n1 c1 : Nat) (k3 k4 : Int) (a2 : Option Addr) (n2 c2 : Nat) (wd : ByteArray) (uK uQ uC uB : Bool) : Prop where
  bl : BldT W b l
  wr : Wrt b w W
  op : OpBx W H k0 k1 a1 n1 c1 k3 k4 a2 n2 c2
  sh : W.heap[H + 1]? = some (.cells #[.string wd, .bool uK, .bool uQ, .bool uC, .bool uB] 78 (0, 0))
section
variable {w W W' : World} {b H : Nat} {l l' : List UInt8} {k0 k1 : Int} {a1 : Option Addr} {n1 c1 : Nat} {k3 k4 : Int} {a2 : Option Addr} {n2 c2 : Nat} {wd : ByteArray} {uK uQ uC uB : Bool}
theorem WoS.step (h : WoS w W b H l k0 k1 a1 n1 c1 k3 k4 a2 n2 c2 wd uK uQ uC uB) (hb : b < H) (hl : BldT W' b l') (k : Wrt b W W') : WoS w W' b H l' k0 k1 a1 n1 c1 k3 k4 a2 n2 c2 wd uK uQ uC uB :=
  ⟨hl, h.wr.trans k, ⟨k.row h.op.row (by omega) (by decide)⟩, k.row h.sh (by omega) (by decide)⟩
theorem WoS.s0 (h : WoS w W b H l k0 k1 a1 n1 c1 k3 k4 a2 n2 c2 wd uK uQ uC uB) : W.cell? ⟨H + 1, 0, none⟩ = some (.string wd) := by rw [cell_of_row W _ 0 _ _ (0, 0) h.sh]; rfl
theorem WoS.s1 (h : WoS w W b H l k0 k1 a1 n1 c1 k3 k4 a2 n2 c2 wd uK uQ uC uB) : W.cell? ⟨H + 1, 1, none⟩ = some (.bool uK) := by rw [cell_of_row W _ 1 _ _ (0, 0) h.sh]; rfl
theorem WoS.s2 (h : WoS w W b H l k0 k1 a1 n1 c1 k3 k4 a2 n2 c2 wd uK uQ uC uB) : W.cell? ⟨H + 1, 2, none⟩ = some (.bool uQ) := by rw [cell_of_row W _ 2 _ _ (0, 0) h.sh]; rfl
theorem WoS.s4 (h : WoS w W b H l k0 k1 a1 n1 c1 k3 k4 a2 n2 c2 wd uK uQ uC uB) : W.cell? ⟨H + 1, 4, none⟩ = some (.bool uB) := by rw [cell_of_row W _ 4 _ _ (0, 0) h.sh]; rfl
theorem WoS.cast (h : WoS w W b H l k0 k1 a1 n1 c1 k3 k4 a2 n2 c2 wd uK uQ uC uB) (e : l = l') : WoS w W b H l' k0 k1 a1 n1 c1 k3 k4 a2 n2 c2 wd uK uQ uC uB := e ▸ h
end

theorem flat_len (f : Int → List UInt8) (m : Nat) : ∀ (l : List Int), (∀ x ∈ l, (f x).length ≤ m) → (l.flatMap f).length ≤ m * l.length := by
  intro l
  induction l with
  | nil => intro _; simp
  | cons a r ih =>
    intro h
    have h1 := h a (by simp)
    have h2 := ih (fun x hx => h x (by simp [hx]))
    rw [List.flatMap_cons, List.length_append, List.length_cons, Nat.mul_add]
    omega
theorem flat_snoc (f : Int → List UInt8) (l : List Int) (i : Nat) (h : i < l.length) : (l.take (i + 1)).flatMap f = (l.take i).flatMap f ++ f (l.getD i 0) := by
  rw [take_succ' l i h, List.flatMap_append]; simp
theorem getD_mem' {l : List Int} {i : Nat} (h : i < l.length) : l.getD i 0 ∈ l := by
  rw [List.getD_eq_getElem?_getD, List.getElem?_eq_getElem h]; exact List.getElem_mem _

set_option maxHeartbeats 4000000 in
set_option maxRecDepth 100000 in
theorem writeOp_any (o : Gop) (a1 : Option Addr) (n1 c1 : Nat) (a2 : Option Addr) (n2 c2 : Nat) (b : Nat) (l : List UInt8) (W0 w : World) (hE : Ext W0 w) (hW0 : W0.heap.size ≤ b) (hL : OpL W0 o a1 n1 c1 a2 n2 c2) (hS : Shp W0) (hf : PrFit o) (hB : BldT w b l) (hlen : l.length + 400 ≤ 140737488355328) :
    Calls Tryd.prog 31 #[.pointer (some ⟨b, 0, none⟩), .agg #[.int .i64 o.kind, .int .i64 o.k, .slice a1 n1 c1, .int .i64 o.q, .int .i64 o.bit, .slice a2 n2 c2]] w fun e w' => e = .returned (.tuple #[]) ∧ BldT w' b (l ++ prnOp o) ∧ Wrt b w w' := by
  obtain ⟨R, hR⟩ : ∃ R, l ++ prnOp o = R := ⟨_, rfl⟩
  rw [hR]
  obtain ⟨kd, k, ctl, q, bt, cnd⟩ := o
  obtain ⟨fkd, fk, fq, fbt, fctl, ffew, fcnd, fcfew⟩ := hf
  simp only at fkd fk fq fbt fctl ffew fcnd fcfew hL
  obtain ⟨kn, rfl⟩ : ∃ kn : Nat, kd = (kn : Int) := ⟨kd.toNat, by omega⟩
  have i0 : (0 : Int) ≤ (kn : Int) := by omega
  have i1 : (kn : Int) < 7 := by omega
  have hw7 : (wordOf kn).data.toList.length ≤ 7 := by
    have : kn = 1 ∨ kn = 2 ∨ kn = 3 ∨ kn = 4 ∨ kn = 5 ∨ kn = 6 := by omega
    rcases this with rfl | rfl | rfl | rfl | rfl | rfl <;> decide
  unfold prnOp at hR
  simp only at hR
  have hR0 : (Int.toNat (kn : Int)) = kn := by omega
  rw [hR0] at hR
  have E1 := hE.trans (ext_al w (.cells #[.int .i64 (kn : Int), .int .i64 k, .slice a1 n1 c1, .int .i64 q, .int .i64 bt, .slice a2 n2 c2] 45))
  obtain ⟨t0, t1, t2, t3, t4⟩ := (hS.ext E1) kn (by omega) (by omega)
  obtain ⟨uK, huK⟩ : ∃ x, usesK (kn : Int) = x := ⟨_, rfl⟩
  obtain ⟨uQ, huQ⟩ : ∃ x, usesQ (kn : Int) = x := ⟨_, rfl⟩
  obtain ⟨uC, huC⟩ : ∃ x, usesC (kn : Int) = x := ⟨_, rfl⟩
  obtain ⟨uB, huB⟩ : ∃ x, usesB (kn : Int) = x := ⟨_, rfl⟩
  obtain ⟨wd, hwd⟩ : ∃ x, wordOf kn = x := ⟨_, rfl⟩
  rw [huK] at t1 hR; rw [huQ] at t2 hR; rw [huC] at t3; rw [huB] at t4 hR; rw [hwd] at t0 hR hw7
  have bx := opbx_new w (kn : Int) k a1 n1 c1 q bt a2 n2 c2
  have m0 := bx.x0; have m1 := bx.x1; have m2 := bx.x2; have m3 := bx.x3; have m4 := bx.x4; have m5 := bx.x5
  have hbw := hB.lt
  have S0 : WoS w ((w.alloc (.cells #[.int .i64 (kn : Int), .int .i64 k, .slice a1 n1 c1, .int .i64 q, .int .i64 bt, .slice a2 n2 c2] 45)).alloc (.cells #[.string wd, .bool uK, .bool uQ, .bool uC, .bool uB] 78)) b w.heap.size l (kn : Int) k a1 n1 c1 q bt a2 n2 c2 wd uK uQ uC uB := by
    refine ⟨(hB.alloc _).alloc _, ((Wrt.refl b w).alloc (by omega) _).alloc (by simp; omega) _, bx.ext (ext_al _ _), ?_⟩
    have := heap_alloc_new (w.alloc (.cells #[.int .i64 (kn : Int), .int .i64 k, .slice a1 n1 c1, .int .i64 q, .int .i64 bt, .slice a2 n2 c2] 45)) (.cells #[.string wd, .bool uK, .bool uQ, .bool uC, .bool uB] 78)
    simpa using this
  have z0 := S0.s0
  have HS0 := Lib.hid S0; have HR := Lib.hid hR; have HL := Lib.hid hL; have HE := Lib.hid hE
  have Hctl := Lib.hid fctl; have Hcnd := Lib.hid fcnd
  have hq1 : n1 ≤ 12 := by rw [← hL.i1.1]; exact ffew
  have hq2 : n2 ≤ 24 := by rw [← hL.i2.1]; exact fcfew
  have Hl1 := Lib.hid hL.i1.1; have Hl2 := Lib.hid hL.i2.1
  have hsz : wd.size = wd.data.toList.length := rfl
  clear hR0 huK huQ huC huB hwd bx hB hR hL hS S0 hE E1 fctl fcnd fkd
  go_enter Tryd.func31, Tryd.ntmps31
  go_wp2_with fail
  generalize (w.alloc (.cells #[.int .i64 (kn : Int), .int .i64 k, .slice a1 n1 c1, .int .i64 q, .int .i64 bt, .slice a2 n2 c2] 45)).alloc (.cells #[.string wd, .bool uK, .bool uQ, .bool uC, .bool uB] 78) = W1 at *
  clear m0 m1 m2 m3 m4 m5 t0 t1 t2 t3 t4 z0
  refine (wstr b l wd W1 HS0.out.bl (by omega)).mono ?_
  rintro e w1 ⟨rfl, h1, hW1⟩
  obtain ⟨l1, hl1⟩ : ∃ x, l ++ wd.data.toList = x := ⟨_, rfl⟩
  rw [hl1] at h1
  have hn1 : l1.length ≤ l.length + 7 := by rw [← hl1, List.length_append]; omega
  have HS1 := Lib.hid (HS0.out.step hbw h1 hW1)
  have hR1 := HR.out
  simp only [← List.append_assoc] at hR1
  rw [hl1] at hR1
  have HR1 := Lib.hid hR1
  clear h1 hW1 HS0 HR hR1 hl1 hw7 hsz
  have z := HS1.out.s1; have y := HS1.out.op.x1
  go_upto_if 18 with fail
  go_cut [] from 9 to 70 (fun wx => WoS w wx b w.heap.size (l1 ++ (if uK = true then numL k else [])) (kn : Int) k a1 n1 c1 q bt a2 n2 c2 wd uK uQ uC uB)
  case first =>
    cases uK
    · go_wp2_with fail
      go_meet
      exact HS1.out.cast (by simp)
    · go_wp2_with fail
      refine (writeNumber_any b l1 k _ HS1.out.bl fk.1 fk.2 (by omega)).mono ?_
      rintro e w2 ⟨rfl, h2, hW2⟩
      have H2 := Lib.hid (HS1.out.step hbw h2 hW2)
      clear h2 hW2 z y HS1
      go_wp2_with fail
      go_meet
      exact H2.out.cast (by simp)
  case rest =>
  clear z y
  obtain ⟨l2, hl2⟩ : ∃ x, l1 ++ (if uK = true then numL k else []) = x := ⟨_, rfl⟩
  rw [hl2] at hcut
  have hx : (if uK = true then numL k else []).length ≤ 3 := by split; exact numL_len fk.2; simp
  have hn2 : l2.length ≤ l1.length + 3 := by rw [← hl2, List.length_append]; omega
  have HS2 := Lib.hid hcut
  have hR2 := HR1.out
  rw [hl2] at hR2
  have HR2 := Lib.hid hR2
  clear hcut HS1 HR1 hR2 hl2 hx
  have z := HS2.out.s2; have y := HS2.out.op.x3
  go_upto_if 24 with fail
  go_cut [] from 9 to 70 (fun wx => WoS w wx b w.heap.size (l2 ++ (if uQ = true then numL q else [])) (kn : Int) k a1 n1 c1 q bt a2 n2 c2 wd uK uQ uC uB)
  case first =>
    cases uQ
    · go_wp2_with fail
      go_meet
      exact HS2.out.cast (by simp)
    · go_wp2_with fail
      refine (writeNumber_any b l2 q _ HS2.out.bl fq.1 fq.2 (by omega)).mono ?_
      rintro e w2 ⟨rfl, h2, hW2⟩
      have H2 := Lib.hid (HS2.out.step hbw h2 hW2)
      clear h2 hW2 z y HS2
      go_wp2_with fail
      go_meet
      exact H2.out.cast (by simp)
  case rest =>
  clear z y
  obtain ⟨l3, hl3⟩ : ∃ x, l2 ++ (if uQ = true then numL q else []) = x := ⟨_, rfl⟩
  rw [hl3] at hcut
  have hx : (if uQ = true then numL q else []).length ≤ 3 := by split; exact numL_len fq.2; simp
  have hn3 : l3.length ≤ l2.length + 3 := by rw [← hl3, List.length_append]; omega
  have HS3 := Lib.hid hcut
  have hR3 := HR2.out
  rw [hl3] at hR3
  have HR3 := Lib.hid hR3
  clear hcut HS2 HR2 hR3 hl3 hx
  rw [Hl1.out] at HR3
  have y := HS3.out.op.x2
  go_upto_if 32 with fail
  go_cut [] from 9 to 70 (fun wx => WoS w wx b w.heap.size (l3 ++ (if 0 < n1 then [32, 111, 110] else [])) (kn : Int) k a1 n1 c1 q bt a2 n2 c2 wd uK uQ uC uB)
  case first =>
    by_cases hc : 0 < n1
    · have q1 : (0 : Int) < (n1 : Int) := by omega
      have q2 : decide ((0 : Int) < (n1 : Int)) = true := by simp; omega
      have Hc := Lib.hid hc
      clear hc
      go_wp2_with fail
      refine (wstr b l3 ⟨#[32, 111, 110]⟩ _ HS3.out.bl (by simp [ByteArray.size]; omega)).mono ?_
      rintro e w2 ⟨rfl, h2, hW2⟩
      have H2 := Lib.hid (HS3.out.step hbw h2 hW2)
      clear h2 hW2 y HS3
      go_wp2_with fail
      go_meet
      exact H2.out.cast (by rw [if_pos Hc.out])
    · have q1 : ¬ (0 : Int) < (n1 : Int) := by omega
      have q2 : decide ((0 : Int) < (n1 : Int)) = false := by simp; omega
      have Hc := Lib.hid hc
      clear hc
      go_wp2_with fail
      go_meet
      exact HS3.out.cast (by rw [if_neg Hc.out]; simp)
  case rest =>
  clear y
  obtain ⟨l4, hl4⟩ : ∃ x, l3 ++ (if 0 < n1 then [32, 111, 110] else []) = x := ⟨_, rfl⟩
  rw [hl4] at hcut
  have hx : (if 0 < n1 then [32, 111, 110] else ([] : List UInt8)).length ≤ 3 := by split <;> simp
  have hn4 : l4.length ≤ l3.length + 3 := by rw [← hl4, List.length_append]; omega
  have HS4 := Lib.hid hcut
  have hR4 := HR3.out
  rw [hl4] at hR4
  have HR4 := Lib.hid hR4
  clear hcut HS3 HR3 hR4 hl4 hx
  have y := HS4.out.op.x2
  go_wp2_with fail
  go_loopg [38] n1 (fun kk sx wx => ∃ i : Nat, sx = .int .i64 (i : Int) ∧ i ≤ n1 ∧ n1 - i = kk ∧ WoS w wx b w.heap.size (l4 ++ (ctl.take i).flatMap numL) (kn : Int) k a1 n1 c1 q bt a2 n2 c2 wd uK uQ uC uB)
  case atStart => exact ⟨0, rfl, by omega, by omega, HS4.out.cast (by simp)⟩
  case round =>
  obtain ⟨i, rfl, hi1, hk, hs⟩ := hrel
  clear HS4 y
  by_cases hin : i < n1
  · have h2 : (i : Int) < (n1 : Int) := by omega
    have h0 : (0 : Int) ≤ (i : Int) := by omega
    have hE2 : Ext W0 wr := hs.wr.ext HE.out hW0
    obtain ⟨b', o', rfl, hbl, hcell⟩ := (HL.out.i1.ext hE2).at (by omega)
    have hci := hcell i (by omega)
    have hil : i < ctl.length := by rw [Hl1.out]; omega
    have hfs := flat_snoc numL ctl i hil
    have hm := Hctl.out _ (getD_mem' hil)
    obtain ⟨x, hx⟩ : ∃ x, ctl.getD i 0 = x := ⟨_, rfl⟩
    rw [hx] at hci hfs hm
    have hlf := flat_len numL 3 (ctl.take i) (fun y hy => (fun h => numL_len h.2) (Hctl.out y (List.mem_of_mem_take hy)))
    have htk : (ctl.take i).length ≤ n1 := by rw [List.length_take, Hl1.out]; omega
    have Hfs := Lib.hid hfs; have Hs := Lib.hid hs
    have HC := Lib.hid (writeNumber_any b (l4 ++ (ctl.take i).flatMap numL) x wr hs.bl hm.1 hm.2 (by rw [List.length_append]; omega))
    clear hx hfs hs hcell hE2 hlf htk
    go_wp2_with fail
    refine HC.out.mono ?_
    rintro e w2 ⟨rfl, h2', hW2⟩
    have H2 := Lib.hid (Hs.out.step hbw h2' hW2)
    clear h2' hW2 HC
    go_wp2_with fail
    go_roundg (n1 - (i + 1))
    case measure => omega
    case rel => exact ⟨i + 1, by go_num, by omega, rfl, H2.out.cast (by rw [Hfs.out, List.append_assoc])⟩
  have hin2 : ¬ (i : Int) < (n1 : Int) := by omega
  rw [List.take_of_length_le (by rw [Hl1.out]; omega)] at hs
  clear hin hi1 hk
  have hcut := hs
  clear hs
  obtain ⟨l5, hl5⟩ : ∃ x, l4 ++ ctl.flatMap numL = x := ⟨_, rfl⟩
  rw [hl5] at hcut
  have hx : (ctl.flatMap numL).length ≤ 3 * ctl.length := flat_len numL 3 ctl (fun y hy => (fun h => numL_len h.2) (Hctl.out y hy))
  have hn5 : l5.length ≤ l4.length + 3 * ctl.length := by rw [← hl5, List.length_append]; omega
  have HS5 := Lib.hid hcut
  have hR5 := HR4.out
  rw [hl5] at hR5
  have HR5 := Lib.hid hR5
  clear hcut HR4 hR5 hl5 hx
  have z := HS5.out.s4; have y := HS5.out.op.x4
  go_upto_if 47 with fail
  go_cut [] from 9 to 70 (fun wx => WoS w wx b w.heap.size (l5 ++ (if uB = true then [32, 116, 111] ++ numL bt else [])) (kn : Int) k a1 n1 c1 q bt a2 n2 c2 wd uK uQ uC uB)
  case first =>
    cases uB
    · go_wp2_with fail
      go_meet
      exact HS5.out.cast (by simp)
    · go_wp2_with fail
      refine (wstr b l5 ⟨#[32, 116, 111]⟩ _ HS5.out.bl (by simp [ByteArray.size]; omega)).mono ?_
      rintro e w2 ⟨rfl, h2, hW2⟩
      have H2 := Lib.hid (HS5.out.step hbw h2 hW2)
      have y2 := H2.out.op.x4
      clear h2 hW2 z y HS5
      go_wp2_with fail
      refine (writeNumber_any b (l5 ++ [32, 116, 111]) bt _ H2.out.bl fbt.1 fbt.2 (by simp; omega)).mono ?_
      rintro e w3 ⟨rfl, h3, hW3⟩
      have H3 := Lib.hid (H2.out.step hbw h3 hW3)
      clear h3 hW3 H2 y2
      go_wp2_with fail
      go_meet
      exact H3.out.cast (by simp)
  case rest =>
  clear z y
  obtain ⟨l6, hl6⟩ : ∃ x, l5 ++ (if uB = true then [32, 116, 111] ++ numL bt else []) = x := ⟨_, rfl⟩
  rw [hl6] at hcut
  have hx : (if uB = true then [32, 116, 111] ++ numL bt else []).length ≤ 6 := by split; have := numL_len fbt.2; simp; omega; simp
  have hn6 : l6.length ≤ l5.length + 6 := by rw [← hl6, List.length_append]; omega
  have HS6 := Lib.hid hcut
  have hR6 := HR5.out
  rw [hl6] at hR6
  have HR6 := Lib.hid hR6
  clear hcut HS5 HR5 hR6 hl6 hx
  rw [Hl2.out] at HR6
  have y := HS6.out.op.x5
  go_upto_if 57 with fail
  go_cut [] from 9 to 70 (fun wx => WoS w wx b w.heap.size (l6 ++ (if 0 < n2 then [32, 105, 102] else [])) (kn : Int) k a1 n1 c1 q bt a2 n2 c2 wd uK uQ uC uB)
  case first =>
    by_cases hc : 0 < n2
    · have q1 : (0 : Int) < (n2 : Int) := by omega
      have q2 : decide ((0 : Int) < (n2 : Int)) = true := by simp; omega
      have Hc := Lib.hid hc
      clear hc
      go_wp2_with fail
      refine (wstr b l6 ⟨#[32, 105, 102]⟩ _ HS6.out.bl (by simp [ByteArray.size]; omega)).mono ?_
      rintro e w2 ⟨rfl, h2, hW2⟩
      have H2 := Lib.hid (HS6.out.step hbw h2 hW2)
      clear h2 hW2 y HS6
      go_wp2_with fail
      go_meet
      exact H2.out.cast (by rw [if_pos Hc.out])
    · have q1 : ¬ (0 : Int) < (n2 : Int) := by omega
      have q2 : decide ((0 : Int) < (n2 : Int)) = false := by simp; omega
      have Hc := Lib.hid hc
      clear hc
      go_wp2_with fail
      go_meet
      exact HS6.out.cast (by rw [if_neg Hc.out]; simp)
  case rest =>
  clear y
  obtain ⟨l7, hl7⟩ : ∃ x, l6 ++ (if 0 < n2 then [32, 105, 102] else []) = x := ⟨_, rfl⟩
  rw [hl7] at hcut
  have hx : (if 0 < n2 then [32, 105, 102] else ([] : List UInt8)).length ≤ 3 := by split <;> simp
  have hn7 : l7.length ≤ l6.length + 3 := by rw [← hl7, List.length_append]; omega
  have HS7 := Lib.hid hcut
  have hR7 := HR6.out
  rw [hl7] at hR7
  have HR7 := Lib.hid hR7
  clear hcut HS6 HR6 hR7 hl7 hx
  have y := HS7.out.op.x5
  go_wp2_with fail
  go_loopg [63] n2 (fun kk sx wx => ∃ i : Nat, sx = .int .i64 (i : Int) ∧ i ≤ n2 ∧ n2 - i = kk ∧ WoS w wx b w.heap.size (l7 ++ (cnd.take i).flatMap cndL) (kn : Int) k a1 n1 c1 q bt a2 n2 c2 wd uK uQ uC uB)
  case atStart => exact ⟨0, rfl, by omega, by omega, HS7.out.cast (by simp)⟩
  case round =>
  obtain ⟨i, rfl, hi1, hk, hs⟩ := hrel
  clear HS7 y
  by_cases hin : i < n2
  · have h2 : (i : Int) < (n2 : Int) := by omega
    have h0 : (0 : Int) ≤ (i : Int) := by omega
    have hE2 : Ext W0 wr := hs.wr.ext HE.out hW0
    obtain ⟨b', o', rfl, hbl, hcell⟩ := (HL.out.i2.ext hE2).at (by omega)
    have hci := hcell i (by omega)
    have hil : i < cnd.length := by rw [Hl2.out]; omega
    have hfs := flat_snoc cndL cnd i hil
    have hm := Hcnd.out _ (getD_mem' hil)
    obtain ⟨x, hx⟩ : ∃ x, cnd.getD i 0 = x := ⟨_, rfl⟩
    rw [hx] at hci hfs hm
    have hlf := flat_len cndL 4 (cnd.take i) (fun y hy => (fun h => cndL_len h.2) (Hcnd.out y (List.mem_of_mem_take hy)))
    have htk : (cnd.take i).length ≤ n2 := by rw [List.length_take, Hl2.out]; omega
    have Hfs := Lib.hid hfs; have Hs := Lib.hid hs
    have HC := Lib.hid (writeCondition_any b (l7 ++ (cnd.take i).flatMap cndL) x wr hs.bl hm.1 hm.2 (by rw [List.length_append]; omega))
    clear hx hfs hs hcell hE2 hlf htk
    go_wp2_with fail
    refine HC.out.mono ?_
    rintro e w2 ⟨rfl, h2', hW2⟩
    have H2 := Lib.hid (Hs.out.step hbw h2' hW2)
    clear h2' hW2 HC
    go_wp2_with fail
    go_roundg (n2 - (i + 1))
    case measure => omega
    case rel => exact ⟨i + 1, by go_num, by omega, rfl, H2.out.cast (by rw [Hfs.out, List.append_assoc])⟩
  have hin2 : ¬ (i : Int) < (n2 : Int) := by omega
  rw [List.take_of_length_le (by rw [Hl2.out]; omega)] at hs
  clear hin hi1 hk
  rw [HR7.out] at hs
  have Hs := Lib.hid hs
  clear hs
  go_wp2_with fail
  go_end0
  exact ⟨rfl, Hs.out.bl, Hs.out.wr⟩

end Go.Proofs.YtpabafioofhklaaDoor
