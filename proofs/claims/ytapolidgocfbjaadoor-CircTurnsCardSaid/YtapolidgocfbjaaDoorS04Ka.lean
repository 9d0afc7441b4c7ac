/-
  The program's writer of an operation. The program's Print. The reader: an operation. The reference reads a line loosely. The reader: a circuit, read. Operations turned round in place. Lists and operations whose memory is their own: no two of them lie in one block.
-/
import Derived.Test.YtapolidgocfbjaaDoorProg
import Derived.Test.YtapolidgocfbjaaDoorRows
import Derived.BigQuiet
import Derived.Deep.AppendLies
import Derived.Deep.Cut
import Derived.Deep.CutRange
import Derived.Deep.LoopGhost
import Derived.Deep.QuietTactic
import Derived.Deep.RegionHeld3
import Derived.Laws.Bits64b
import Derived.Laws.CopyOwn
import Derived.Laws.ResultCell
import Derived.Lib.BitFns
import Derived.Lib.Hide
import Derived.Lib.ItoaNum
import Derived.Lib.Strings
import Derived.Maps.AppendAt
import Derived.OwnWalk
import Derived.Shelf.LaysM
import Derived.Shelf.Strconv.Itoa0
import Derived.Shelf.Strconv.Itoa1
import Derived.Shelf.Strconv.Itoa2
import Derived.Shelf.Strconv.Itoa3
import Derived.Shelf.Strings.Builder1
import Derived.Shelf.Strings.BuilderF
import Derived.Shelf.Strings.BuilderK
import Derived.WalkKit
import Derived.WalkLawsBesides
import Derived.WalkSpells
import Derived.Test.YtapolidgocfbjaaDoorS00Ce
import Derived.Test.YtapolidgocfbjaaDoorS01Cj
import Derived.Test.YtapolidgocfbjaaDoorShelf
import Derived.Test.YtapolidgocfbjaaDoorS03Cq
namespace Go.Proofs.YtapolidgocfbjaaDoor
open Go.RowKit

/-- What a checked operation keeps to. -/
structure PrFit (o : Gop) : Prop where
  kd : 1 ≤ o.kind ∧ o.kind ≤ 6
  k : 0 ≤ o.k ∧ o.k < 100
  q : 0 ≤ o.q ∧ o.q < 100
  bit : 0 ≤ o.bit ∧ o.bit < 100
  ctl : ∀ c ∈ o.ctl, 0 ≤ c ∧ c < 100
  few : o.ctl.length ≤ 12
  cnd : ∀ t ∈ o.cnd, t ≠ 0 ∧ -12 ≤ t ∧ t ≤ 12
  cfew : o.cnd.length ≤ 24

/-- While an operation is written: what is written so far, and the two variables. -/
structure WoS (w W : World) (b H : Nat) (l : List UInt8) (k0 k1 : Int) (a1 : Option Addr) (n1 c1 : Nat) (k3 k4 : Int) (a2 : Option Addr) (n2 c2 : Nat) (wd : ByteArray) (uK uQ uC uB : Bool) : Prop where
  bl : BldT W b l
  wr : Wrt b w W
  op : OpBx W H k0 k1 a1 n1 c1 k3 k4 a2 n2 c2
  sh : W.heap[H + 1]? = some (.cells #[.string wd, .bool uK, .bool uQ, .bool uC, .bool uB] 77 (0, 0))
section
variable {w W W' : World} {b H : Nat} {l l' : List UInt8} {k0 k1 : Int} {a1 : Option Addr} {n1 c1 : Nat} {k3 k4 : Int} {a2 : Option Addr} {n2 c2 : Nat} {wd : ByteArray} {uK uQ uC uB : Bool}
theorem WoS.step (h : WoS w W b H l k0 k1 a1 n1 c1 k3 k4 a2 n2 c2 wd uK uQ uC uB) (hb : b < H) (hl : BldT W' b l') (k : Wrt b W W') : WoS w W' b H l' k0 k1 a1 n1 c1 k3 k4 a2 n2 c2 wd uK uQ uC uB :=
  ⟨hl, h.wr.trans k, ⟨k.row h.op.row (by omega) (by decide)⟩, k.row h.sh (by omega) (by decide)⟩
theorem WoS.s0 (h : WoS w W b H l k0 k1 a1 n1 c1 k3 k4 a2 n2 c2 wd uK uQ uC uB) : W.cell? ⟨H + 1, 0, none⟩ = some (.string wd) := by rw [cell_of_row W _ 0 _ _ (0, 0) h.sh]; rfl
theorem WoS.s1 (h : WoS w W b H l k0 k1 a1 n1 c1 k3 k4 a2 n2 c2 wd uK uQ uC uB) : W.cell? ⟨H + 1, 1, none⟩ = some (.bool uK) := by rw [cell_of_row W _ 1 _ _ (0, 0) h.sh]; rfl
theorem WoS.s2 (h : WoS w W b H l k0 k1 a1 n1 c1 k3 k4 a2 n2 c2 wd uK uQ uC uB) : W.cell? ⟨H + 1, 2, none⟩ = some (.bool uQ) := by rw [cell_of_row W _ 2 _ _ (0, 0) h.sh]; rfl
theorem WoS.s4 (h : WoS w W b H l k0 k1 a1 n1 c1 k3 k4 a2 n2 c2 wd uK uQ uC uB) : W.cell? ⟨H + 1, 4, none⟩ = some (.bool uB) := by rw [cell_of_row W _ 4 _ _ (0, 0) h.sh]; rfl
theorem WoS.cast (h : WoS w W b H l k0 k1 a1 n1 c1 k3 k4 a2 n2 c2 wd uK uQ uC uB) (e : l = l') : WoS w W b H l' k0 k1 a1 n1 c1 k3 k4 a2 n2 c2 wd uK uQ uC uB := e ▸ h
end

theorem flat_len (f : Int → List UInt8) (m : Nat) : ∀ (l : List Int), (∀ x ∈ l, (f x).length ≤ m) → (l.flatMap f).length ≤ m * l.length := by
  intro l
  induction l with
  | nil => intro _; simp
  | cons a r ih =>
    intro h
    have h1 := h a (by simp)
    have h2 := ih (fun x hx => h x (by simp [hx]))
    rw [List.flatMap_cons, List.length_append, List.length_cons, Nat.mul_add]
    omega
theorem flat_snoc (f : Int → List UInt8) (l : List Int) (i : Nat) (h : i < l.length) : (l.take (i + 1)).flatMap f = (l.take i).flatMap f ++ f (l.getD i 0) := by
  rw [take_succ' l i h, List.flatMap_append]; simp
theorem getD_mem' {l : List Int} {i : Nat} (h : i < l.length) : l.getD i 0 ∈ l := by
  rw [List.getD_eq_getElem?_getD, List.getElem?_eq_getElem h]; exact List.getElem_mem _

set_option maxHeartbeats 4000000 in
set_option maxRecDepth 100000 in
theorem writeOp_any (o : Gop) (a1 : Option Addr) (n1 c1 : Nat) (a2 : Option Addr) (n2 c2 : Nat) (b : Nat) (l : List UInt8) (W0 w : World) (hE : Ext W0 w) (hW0 : W0.heap.size ≤ b) (hL : OpL W0 o a1 n1 c1 a2 n2 c2) (hS : Shp W0) (hf : PrFit o) (hB : BldT w b l) (hlen : l.length + 400 ≤ 140737488355328) :
    Calls Tryd.prog 46 #[.pointer (some ⟨b, 0, none⟩), .agg #[.int .i64 o.kind, .int .i64 o.k, .slice a1 n1 c1, .int .i64 o.q, .int .i64 o.bit, .slice a2 n2 c2]] w fun e w' => e = .returned (.tuple #[]) ∧ BldT w' b (l ++ prnOp o) ∧ Wrt b w w' := by
  obtain ⟨R, hR⟩ : ∃ R, l ++ prnOp o = R := ⟨_, rfl⟩
  rw [hR]
  obtain ⟨kd, k, ctl, q, bt, cnd⟩ := o
  obtain ⟨fkd, fk, fq, fbt, fctl, ffew, fcnd, fcfew⟩ := hf
  simp only at fkd fk fq fbt fctl ffew fcnd fcfew hL
  obtain ⟨kn, rfl⟩ : ∃ kn : Nat, kd = (kn : Int) := ⟨kd.toNat, by omega⟩
  have i0 : (0 : Int) ≤ (kn : Int) := by omega
  have i1 : (kn : Int) < 7 := by omega
  have hw7 : (wordOf kn).data.toList.length ≤ 7 := by
    have : kn = 1 ∨ kn = 2 ∨ kn = 3 ∨ kn = 4 ∨ kn = 5 ∨ kn = 6 := by omega
    rcases this with rfl | rfl | rfl | rfl | rfl | rfl <;> decide
  unfold prnOp at hR
  simp only at hR
  have hR0 : (Int.toNat (kn : Int)) = kn := by omega
  rw [hR0] at hR
  have E1 := hE.trans (ext_al w (.cells #[.int .i64 (kn : Int), .int .i64 k, .slice a1 n1 c1, .int .i64 q, .int .i64 bt, .slice a2 n2 c2] 43))
  obtain ⟨t0, t1, t2, t3, t4⟩ := (hS.ext E1) kn (by omega) (by omega)
  obtain ⟨uK, huK⟩ : ∃ x, usesK (kn : Int) = x := ⟨_, rfl⟩
  obtain ⟨uQ, huQ⟩ : ∃ x, usesQ (kn : Int) = x := ⟨_, rfl⟩
  obtain ⟨uC, huC⟩ : ∃ x, usesC (kn : Int) = x := ⟨_, rfl⟩
  obtain ⟨uB, huB⟩ : ∃ x, usesB (kn : Int) = x := ⟨_, rfl⟩
  obtain ⟨wd, hwd⟩ : ∃ x, wordOf kn = x := ⟨_, rfl⟩
  rw [huK] at t1 hR; rw [huQ] at t2 hR; rw [huC] at t3; rw [huB] at t4 hR; rw [hwd] at t0 hR hw7
  have bx := opbx_new w (kn : Int) k a1 n1 c1 q bt a2 n2 c2
  have m0 := bx.x0; have m1 := bx.x1; have m2 := bx.x2; have m3 := bx.x3; have m4 := bx.x4; have m5 := bx.x5
  have hbw := hB.lt
  have S0 : WoS w ((w.alloc (.cells #[.int .i64 (kn : Int), .int .i64 k, .slice a1 n1 c1, .int .i64 q, .int .i64 bt, .slice a2 n2 c2] 43)).alloc (.cells #[.string wd, .bool uK, .bool uQ, .bool uC, .bool uB] 77)) b w.heap.size l (kn : Int) k a1 n1 c1 q bt a2 n2 c2 wd uK uQ uC uB := by
    refine ⟨(hB.alloc _).alloc _, ((Wrt.refl b w).alloc (by omega) _).alloc (by simp; omega) _, bx.ext (ext_al _ _), ?_⟩
    have := heap_alloc_new (w.alloc (.cells #[.int .i64 (kn : Int), .int .i64 k, .slice a1 n1 c1, .int .i64 q, .int .i64 bt, .slice a2 n2 c2] 43)) (.cells #[.string wd, .bool uK, .bool uQ, .bool uC, .bool uB] 77)
    simpa using this
  have z0 := S0.s0
  have HS0 := Lib.hid S0; have HR := Lib.hid hR; have HL := Lib.hid hL; have HE := Lib.hid hE
  have Hctl := Lib.hid fctl; have Hcnd := Lib.hid fcnd
  have hq1 : n1 ≤ 12 := by rw [← hL.i1.1]; exact ffew
  have hq2 : n2 ≤ 24 := by rw [← hL.i2.1]; exact fcfew
  have Hl1 := Lib.hid hL.i1.1; have Hl2 := Lib.hid hL.i2.1
  have hsz : wd.size = wd.data.toList.length := rfl
  clear hR0 huK huQ huC huB hwd bx hB hR hL hS S0 hE E1 fctl fcnd fkd
  go_enter Tryd.func46, Tryd.ntmps46
  go_wp2_with fail
  generalize (w.alloc (.cells #[.int .i64 (kn : Int), .int .i64 k, .slice a1 n1 c1, .int .i64 q, .int .i64 bt, .slice a2 n2 c2] 43)).alloc (.cells #[.string wd, .bool uK, .bool uQ, .bool uC, .bool uB] 77) = W1 at *
  clear m0 m1 m2 m3 m4 m5 t0 t1 t2 t3 t4 z0
  refine (wstr b l wd W1 HS0.out.bl (by omega)).mono ?_
  rintro e w1 ⟨rfl, h1, hW1⟩
  obtain ⟨l1, hl1⟩ : ∃ x, l ++ wd.data.toList = x := ⟨_, rfl⟩
  rw [hl1] at h1
  have hn1 : l1.length ≤ l.length + 7 := by rw [← hl1, List.length_append]; omega
  have HS1 := Lib.hid (HS0.out.step hbw h1 hW1)
  have hR1 := HR.out
  simp only [← List.append_assoc] at hR1
  rw [hl1] at hR1
  have HR1 := Lib.hid hR1
  clear h1 hW1 HS0 HR hR1 hl1 hw7 hsz
  have z := HS1.out.s1; have y := HS1.out.op.x1
  go_upto_if 18 with fail
  go_cut [] from 9 to 70 (fun wx => WoS w wx b w.heap.size (l1 ++ (if uK = true then numL k else [])) (kn : Int) k a1 n1 c1 q bt a2 n2 c2 wd uK uQ uC uB)
  case first =>
    cases uK
    · go_wp2_with fail
      go_meet
      exact HS1.out.cast (by simp)
    · go_wp2_with fail
      refine (writeNumber_any b l1 k _ HS1.out.bl fk.1 fk.2 (by omega)).mono ?_
      rintro e w2 ⟨rfl, h2, hW2⟩
      have H2 := Lib.hid (HS1.out.step hbw h2 hW2)
      clear h2 hW2 z y HS1
      go_wp2_with fail
      go_meet
      exact H2.out.cast (by simp)
  case rest =>
  clear z y
  obtain ⟨l2, hl2⟩ : ∃ x, l1 ++ (if uK = true then numL k else []) = x := ⟨_, rfl⟩
  rw [hl2] at hcut
  have hx : (if uK = true then numL k else []).length ≤ 3 := by split; exact numL_len fk.2; simp
  have hn2 : l2.length ≤ l1.length + 3 := by rw [← hl2, List.length_append]; omega
  have HS2 := Lib.hid hcut
  have hR2 := HR1.out
  rw [hl2] at hR2
  have HR2 := Lib.hid hR2
  clear hcut HS1 HR1 hR2 hl2 hx
  have z := HS2.out.s2; have y := HS2.out.op.x3
  go_upto_if 24 with fail
  go_cut [] from 9 to 70 (fun wx => WoS w wx b w.heap.size (l2 ++ (if uQ = true then numL q else [])) (kn : Int) k a1 n1 c1 q bt a2 n2 c2 wd uK uQ uC uB)
  case first =>
    cases uQ
    · go_wp2_with fail
      go_meet
      exact HS2.out.cast (by simp)
    · go_wp2_with fail
      refine (writeNumber_any b l2 q _ HS2.out.bl fq.1 fq.2 (by omega)).mono ?_
      rintro e w2 ⟨rfl, h2, hW2⟩
      have H2 := Lib.hid (HS2.out.step hbw h2 hW2)
      clear h2 hW2 z y HS2
      go_wp2_with fail
      go_meet
      exact H2.out.cast (by simp)
  case rest =>
  clear z y
  obtain ⟨l3, hl3⟩ : ∃ x, l2 ++ (if uQ = true then numL q else []) = x := ⟨_, rfl⟩
  rw [hl3] at hcut
  have hx : (if uQ = true then numL q else []).length ≤ 3 := by split; exact numL_len fq.2; simp
  have hn3 : l3.length ≤ l2.length + 3 := by rw [← hl3, List.length_append]; omega
  have HS3 := Lib.hid hcut
  have hR3 := HR2.out
  rw [hl3] at hR3
  have HR3 := Lib.hid hR3
  clear hcut HS2 HR2 hR3 hl3 hx
  rw [Hl1.out] at HR3
  have y := HS3.out.op.x2
  go_upto_if 32 with fail
  go_cut [] from 9 to 70 (fun wx => WoS w wx b w.heap.size (l3 ++ (if 0 < n1 then [32, 111, 110] else [])) (kn : Int) k a1 n1 c1 q bt a2 n2 c2 wd uK uQ uC uB)
  case first =>
    by_cases hc : 0 < n1
    · have q1 : (0 : Int) < (n1 : Int) := by omega
      have q2 : decide ((0 : Int) < (n1 : Int)) = true := by simp; omega
      have Hc := Lib.hid hc
      clear hc
      go_wp2_with fail
      refine (wstr b l3 ⟨#[32, 111, 110]⟩ _ HS3.out.bl (by simp [ByteArray.size]; omega)).mono ?_
      rintro e w2 ⟨rfl, h2, hW2⟩
      have H2 := Lib.hid (HS3.out.step hbw h2 hW2)
      clear h2 hW2 y HS3
      go_wp2_with fail
      go_meet
      exact H2.out.cast (by rw [if_pos Hc.out])
    · have q1 : ¬ (0 : Int) < (n1 : Int) := by omega
      have q2 : decide ((0 : Int) < (n1 : Int)) = false := by simp; omega
      have Hc := Lib.hid hc
      clear hc
      go_wp2_with fail
      go_meet
      exact HS3.out.cast (by rw [if_neg Hc.out]; simp)
  case rest =>
  clear y
  obtain ⟨l4, hl4⟩ : ∃ x, l3 ++ (if 0 < n1 then [32, 111, 110] else []) = x := ⟨_, rfl⟩
  rw [hl4] at hcut
  have hx : (if 0 < n1 then [32, 111, 110] else ([] : List UInt8)).length ≤ 3 := by split <;> simp
  have hn4 : l4.length ≤ l3.length + 3 := by rw [← hl4, List.length_append]; omega
  have HS4 := Lib.hid hcut
  have hR4 := HR3.out
  rw [hl4] at hR4
  have HR4 := Lib.hid hR4
  clear hcut HS3 HR3 hR4 hl4 hx
  have y := HS4.out.op.x2
  go_wp2_with fail
  go_loopg [38] n1 (fun kk sx wx => ∃ i : Nat, sx = .int .i64 (i : Int) ∧ i ≤ n1 ∧ n1 - i = kk ∧ WoS w wx b w.heap.size (l4 ++ (ctl.take i).flatMap numL) (kn : Int) k a1 n1 c1 q bt a2 n2 c2 wd uK uQ uC uB)
  case atStart => exact ⟨0, rfl, by omega, by omega, HS4.out.cast (by simp)⟩
  case round =>
  obtain ⟨i, rfl, hi1, hk, hs⟩ := hrel
  clear HS4 y
  by_cases hin : i < n1
  · have h2 : (i : Int) < (n1 : Int) := by omega
    have h0 : (0 : Int) ≤ (i : Int) := by omega
    have hE2 : Ext W0 wr := hs.wr.ext HE.out hW0
    obtain ⟨b', o', rfl, hbl, hcell⟩ := (HL.out.i1.ext hE2).at (by omega)
    have hci := hcell i (by omega)
    have hil : i < ctl.length := by rw [Hl1.out]; omega
    have hfs := flat_snoc numL ctl i hil
    have hm := Hctl.out _ (getD_mem' hil)
    obtain ⟨x, hx⟩ : ∃ x, ctl.getD i 0 = x := ⟨_, rfl⟩
    rw [hx] at hci hfs hm
    have hlf := flat_len numL 3 (ctl.take i) (fun y hy => (fun h => numL_len h.2) (Hctl.out y (List.mem_of_mem_take hy)))
    have htk : (ctl.take i).length ≤ n1 := by rw [List.length_take, Hl1.out]; omega
    have Hfs := Lib.hid hfs; have Hs := Lib.hid hs
    have HC := Lib.hid (writeNumber_any b (l4 ++ (ctl.take i).flatMap numL) x wr hs.bl hm.1 hm.2 (by rw [List.length_append]; omega))
    clear hx hfs hs hcell hE2 hlf htk
    go_wp2_with fail
    refine HC.out.mono ?_
    rintro e w2 ⟨rfl, h2', hW2⟩
    have H2 := Lib.hid (Hs.out.step hbw h2' hW2)
    clear h2' hW2 HC
    go_wp2_with fail
    go_roundg (n1 - (i + 1))
    case measure => omega
    case rel => exact ⟨i + 1, by go_num, by omega, rfl, H2.out.cast (by rw [Hfs.out, List.append_assoc])⟩
  have hin2 : ¬ (i : Int) < (n1 : Int) := by omega
  rw [List.take_of_length_le (by rw [Hl1.out]; omega)] at hs
  clear hin hi1 hk
  have hcut := hs
  clear hs
  obtain ⟨l5, hl5⟩ : ∃ x, l4 ++ ctl.flatMap numL = x := ⟨_, rfl⟩
  rw [hl5] at hcut
  have hx : (ctl.flatMap numL).length ≤ 3 * ctl.length := flat_len numL 3 ctl (fun y hy => (fun h => numL_len h.2) (Hctl.out y hy))
  have hn5 : l5.length ≤ l4.length + 3 * ctl.length := by rw [← hl5, List.length_append]; omega
  have HS5 := Lib.hid hcut
  have hR5 := HR4.out
  rw [hl5] at hR5
  have HR5 := Lib.hid hR5
  clear hcut HR4 hR5 hl5 hx
  have z := HS5.out.s4; have y := HS5.out.op.x4
  go_upto_if 47 with fail
  go_cut [] from 9 to 70 (fun wx => WoS w wx b w.heap.size (l5 ++ (if uB = true then [32, 116, 111] ++ numL bt else [])) (kn : Int) k a1 n1 c1 q bt a2 n2 c2 wd uK uQ uC uB)
  case first =>
    cases uB
    · go_wp2_with fail
      go_meet
      exact HS5.out.cast (by simp)
    · go_wp2_with fail
      refine (wstr b l5 ⟨#[32, 116, 111]⟩ _ HS5.out.bl (by simp [ByteArray.size]; omega)).mono ?_
      rintro e w2 ⟨rfl, h2, hW2⟩
      have H2 := Lib.hid (HS5.out.step hbw h2 hW2)
      have y2 := H2.out.op.x4
      clear h2 hW2 z y HS5
      go_wp2_with fail
      refine (writeNumber_any b (l5 ++ [32, 116, 111]) bt _ H2.out.bl fbt.1 fbt.2 (by simp; omega)).mono ?_
      rintro e w3 ⟨rfl, h3, hW3⟩
      have H3 := Lib.hid (H2.out.step hbw h3 hW3)
      clear h3 hW3 H2 y2
      go_wp2_with fail
      go_meet
      exact H3.out.cast (by simp)
  case rest =>
  clear z y
  obtain ⟨l6, hl6⟩ : ∃ x, l5 ++ (if uB = true then [32, 116, 111] ++ numL bt else []) = x := ⟨_, rfl⟩
  rw [hl6] at hcut
  have hx : (if uB = true then [32, 116, 111] ++ numL bt else []).length ≤ 6 := by split; have := numL_len fbt.2; simp; omega; simp
  have hn6 : l6.length ≤ l5.length + 6 := by rw [← hl6, List.length_append]; omega
  have HS6 := Lib.hid hcut
  have hR6 := HR5.out
  rw [hl6] at hR6
  have HR6 := Lib.hid hR6
  clear hcut HS5 HR5 hR6 hl6 hx
  rw [Hl2.out] at HR6
  have y := HS6.out.op.x5
  go_upto_if 57 with fail
  go_cut [] from 9 to 70 (fun wx => WoS w wx b w.heap.size (l6 ++ (if 0 < n2 then [32, 105, 102] else [])) (kn : Int) k a1 n1 c1 q bt a2 n2 c2 wd uK uQ uC uB)
  case first =>
    by_cases hc : 0 < n2
    · have q1 : (0 : Int) < (n2 : Int) := by omega
      have q2 : decide ((0 : Int) < (n2 : Int)) = true := by simp; omega
      have Hc := Lib.hid hc
      clear hc
      go_wp2_with fail
      refine (wstr b l6 ⟨#[32, 105, 102]⟩ _ HS6.out.bl (by simp [ByteArray.size]; omega)).mono ?_
      rintro e w2 ⟨rfl, h2, hW2⟩
      have H2 := Lib.hid (HS6.out.step hbw h2 hW2)
      clear h2 hW2 y HS6
      go_wp2_with fail
      go_meet
      exact H2.out.cast (by rw [if_pos Hc.out])
    · have q1 : ¬ (0 : Int) < (n2 : Int) := by omega
      have q2 : decide ((0 : Int) < (n2 : Int)) = false := by simp; omega
      have Hc := Lib.hid hc
      clear hc
      go_wp2_with fail
      go_meet
      exact HS6.out.cast (by rw [if_neg Hc.out]; simp)
  case rest =>
  clear y
  obtain ⟨l7, hl7⟩ : ∃ x, l6 ++ (if 0 < n2 then [32, 105, 102] else []) = x := ⟨_, rfl⟩
  rw [hl7] at hcut
  have hx : (if 0 < n2 then [32, 105, 102] else ([] : List UInt8)).length ≤ 3 := by split <;> simp
  have hn7 : l7.length ≤ l6.length + 3 := by rw [← hl7, List.length_append]; omega
  have HS7 := Lib.hid hcut
  have hR7 := HR6.out
  rw [hl7] at hR7
  have HR7 := Lib.hid hR7
  clear hcut HS6 HR6 hR7 hl7 hx
  have y := HS7.out.op.x5
  go_wp2_with fail
  go_loopg [63] n2 (fun kk sx wx => ∃ i : Nat, sx = .int .i64 (i : Int) ∧ i ≤ n2 ∧ n2 - i = kk ∧ WoS w wx b w.heap.size (l7 ++ (cnd.take i).flatMap cndL) (kn : Int) k a1 n1 c1 q bt a2 n2 c2 wd uK uQ uC uB)
  case atStart => exact ⟨0, rfl, by omega, by omega, HS7.out.cast (by simp)⟩
  case round =>
  obtain ⟨i, rfl, hi1, hk, hs⟩ := hrel
  clear HS7 y
  by_cases hin : i < n2
  · have h2 : (i : Int) < (n2 : Int) := by omega
    have h0 : (0 : Int) ≤ (i : Int) := by omega
    have hE2 : Ext W0 wr := hs.wr.ext HE.out hW0
    obtain ⟨b', o', rfl, hbl, hcell⟩ := (HL.out.i2.ext hE2).at (by omega)
    have hci := hcell i (by omega)
    have hil : i < cnd.length := by rw [Hl2.out]; omega
    have hfs := flat_snoc cndL cnd i hil
    have hm := Hcnd.out _ (getD_mem' hil)
    obtain ⟨x, hx⟩ : ∃ x, cnd.getD i 0 = x := ⟨_, rfl⟩
    rw [hx] at hci hfs hm
    have hlf := flat_len cndL 4 (cnd.take i) (fun y hy => (fun h => cndL_len h.2) (Hcnd.out y (List.mem_of_mem_take hy)))
    have htk : (cnd.take i).length ≤ n2 := by rw [List.length_take, Hl2.out]; omega
    have Hfs := Lib.hid hfs; have Hs := Lib.hid hs
    have HC := Lib.hid (writeCondition_any b (l7 ++ (cnd.take i).flatMap cndL) x wr hs.bl hm.1 hm.2 (by rw [List.length_append]; omega))
    clear hx hfs hs hcell hE2 hlf htk
    go_wp2_with fail
    refine HC.out.mono ?_
    rintro e w2 ⟨rfl, h2', hW2⟩
    have H2 := Lib.hid (Hs.out.step hbw h2' hW2)
    clear h2' hW2 HC
    go_wp2_with fail
    go_roundg (n2 - (i + 1))
    case measure => omega
    case rel => exact ⟨i + 1, by go_num, by omega, rfl, H2.out.cast (by rw [Hfs.out, List.append_assoc])⟩
  have hin2 : ¬ (i : Int) < (n2 : Int) := by omega
  rw [List.take_of_length_le (by rw [Hl2.out]; omega)] at hs
  clear hin hi1 hk
  rw [HR7.out] at hs
  have Hs := Lib.hid hs
  clear hs
  go_wp2_with fail
  go_end0
  exact ⟨rfl, Hs.out.bl, Hs.out.wr⟩

end Go.Proofs.YtapolidgocfbjaaDoor
namespace Go.Proofs.YtapolidgocfbjaaDoor
open Go.RowKit

def prnAll (l : List Gop) : List UInt8 := l.flatMap (fun o => prnOp o ++ [10])
theorem prnAll_snoc (l : List Gop) (o : Gop) : prnAll (l ++ [o]) = prnAll l ++ prnOp o ++ [10] := by simp [prnAll]
theorem prnOp_len {o : Gop} (h : PrFit o) : (prnOp o).length ≤ 157 := by
  have h7 : (wordOf o.kind.toNat).data.toList.length ≤ 7 := by
    have := h.kd
    have : o.kind.toNat = 1 ∨ o.kind.toNat = 2 ∨ o.kind.toNat = 3 ∨ o.kind.toNat = 4 ∨ o.kind.toNat = 5 ∨ o.kind.toNat = 6 := by omega
    rcases this with e | e | e | e | e | e <;> rw [e] <;> decide
  have h1 : (if usesK o.kind then numL o.k else []).length ≤ 3 := by split; exact numL_len h.k.2; simp
  have h2 : (if usesQ o.kind then numL o.q else []).length ≤ 3 := by split; exact numL_len h.q.2; simp
  have h3 : (if 0 < o.ctl.length then [32, 111, 110] else ([] : List UInt8)).length ≤ 3 := by split <;> simp
  have h4 := flat_len numL 3 o.ctl (fun x hx => numL_len (h.ctl x hx).2)
  have h5 : (if usesB o.kind then [32, 116, 111] ++ numL o.bit else []).length ≤ 6 := by split; have := numL_len h.bit.2; simp; omega; simp
  have h6 : (if 0 < o.cnd.length then [32, 105, 102] else ([] : List UInt8)).length ≤ 3 := by split <;> simp
  have h8 := flat_len cndL 4 o.cnd (fun x hx => cndL_len (h.cnd x hx).2)
  have := h.few; have := h.cfew
  unfold prnOp
  simp only [List.length_append]
  omega
theorem prnAll_len : ∀ (l : List Gop), (∀ o ∈ l, PrFit o) → (prnAll l).length ≤ 158 * l.length := by
  intro l
  induction l with
  | nil => intro _; simp [prnAll]
  | cons a r ih =>
    intro h
    have h1 := prnOp_len (h a (by simp))
    have h2 := ih (fun x hx => h x (by simp [hx]))
    unfold prnAll at h2 ⊢
    rw [List.flatMap_cons, List.length_append, List.length_append, List.length_cons]
    simp only [List.length_cons, List.length_nil] at *
    omega
theorem prFit_of_code {o : Gop} {n b : Int} (hn : n ≤ 12) (hb0 : 0 ≤ b) (hb : b ≤ 12) (h : opCode o n b = 0) : PrFit o := by
  obtain ⟨f1, f2, f3, f4⟩ := fit_of_code hn hb0 hb h
  have hk : 0 ≤ o.k ∧ o.k < 100 := by
    unfold opCode at h
    split at h
    · omega
    split at h
    · omega
    rename_i hk
    unfold fitsB at hk
    split at hk
    · have : below o.k 16 = true := by simpa using hk
      have := below_iff.1 this; omega
    · have : o.k = 0 := by simpa using hk
      omega
  have hq : 0 ≤ o.q := by
    unfold opCode at h
    split at h
    · omega
    split at h
    · omega
    split at h
    · omega
    rename_i hk
    unfold fitsB at hk
    split at hk
    · have : below o.q n = true := by simpa using hk
      have := below_iff.1 this; omega
    · have : o.q = 0 := by simpa using hk
      omega
  have := f1.bit
  exact ⟨f1.kd, hk, ⟨hq, by have := f2.2.1; omega⟩, ⟨this.1, by omega⟩, fun c hc => ⟨(f4 c hc).1, by have := (f4 c hc).2; omega⟩, f3, fun t ht => ⟨f2.2.2.2 t ht, f1.cnd t ht⟩, f1.few⟩

/-- What Print answers. -/
def prnV (c : Gci) : ByteArray := if (chk c).1 = 0 then ⟨(prn c).toArray⟩ else ⟨#[]⟩

set_option maxHeartbeats 4000000 in
set_option maxRecDepth 100000 in
theorem Print_any (c : Gci) (ao : Option Addr) (n cp : Nat) (w : World) (h : OpsAt w ao n c.ops) (hn : n ≤ cp) (hcp : cp ≤ 9223372036854775807) (hS : Shp w) :
    Calls Tryd.prog 28 #[.agg #[.int .i64 c.qubits, .int .i64 c.bits, .slice ao n cp]] w fun e w' => e = .returned (.tuple #[.string (prnV c), .agg #[.int .i64 (chk c).1, .int .i64 (chk c).2]]) ∧ Ext w w' := by
  unfold prnV
  obtain ⟨qb, bi, ops⟩ := c
  obtain ⟨f, hf⟩ : ∃ f, chk ⟨qb, bi, ops⟩ = f := ⟨_, rfl⟩
  obtain ⟨f0, f1⟩ := f
  have hz0 : f0 = 0 → f1 = 0 ∧ n ≤ 4096 ∧ (0 ≤ qb ∧ qb < 100) ∧ (0 ≤ bi ∧ bi < 100) ∧ ∀ g ∈ ops, PrFit g := by
    intro h0
    obtain ⟨e1, e0, e3, e4, e5, e6, e2⟩ := chk_zero (c := ⟨qb, bi, ops⟩) (by rw [hf]; exact h0)
    rw [hf] at e1
    have hl := h.1
    simp only at e6 hl e0 e3 e4 e5
    exact ⟨congrArg Prod.snd e1, by omega, by omega, by omega, fun g hg => prFit_of_code e3 e4 e5 (e2 g hg)⟩
  have Hz0 := Lib.hid hz0
  rw [hf]
  have Hf := Lib.hid hf
  obtain ⟨H, hH⟩ : ∃ H, w.heap.size = H := ⟨_, rfl⟩
  obtain ⟨A1, hA1⟩ : ∃ A1, w.alloc (.cells #[.int .i64 qb, .int .i64 bi, .slice ao n cp] 24) = A1 := ⟨_, rfl⟩
  obtain ⟨A3, hA3⟩ : ∃ A3, A1.alloc (.cells #[.int .i64 0, .int .i64 0] 28) = A3 := ⟨_, rfl⟩
  have s1 : A1.heap.size = H + 1 := by rw [← hA1, ← hH]; simp
  have x1 : Ext w A1 := by rw [← hA1]; exact ext_al _ _
  have x3 : Ext A1 A3 := by rw [← hA3]; exact ext_al _ _
  have bC : CiB A3 H qb bi ao n cp := by
    have : CiB A1 H qb bi ao n cp := by rw [← hA1, ← hH]; exact ⟨heap_alloc_new w _⟩
    exact this.ext x3
  have bF : FtB A3 (H + 1) 0 0 := by rw [← hA3, ← s1]; exact ⟨heap_alloc_new A1 _⟩
  have E0 : Ext w A3 := x1.trans x3
  have hA : ( w.alloc (.cells #[.int .i64 qb, .int .i64 bi, .slice ao n cp] 24)).alloc (.cells #[.int .i64 0, .int .i64 0] 28) = A3 := by rw [hA1, hA3]
  have Hl := Lib.hid h.1
  subst hH
  simp only at Hl ⊢
  obtain ⟨V, hV⟩ : ∃ V, (if f0 = 0 then (⟨(prn ⟨qb, bi, ops⟩).toArray⟩ : ByteArray) else ⟨#[]⟩) = V := ⟨_, rfl⟩
  rw [hV]
  have HV := Lib.hid hV
  clear hV
  have HE0 := Lib.hid E0; have HO := Lib.hid (h.ext E0); have HC := Lib.hid bC; have HFt := Lib.hid bF; have HS := Lib.hid (hS.ext E0)
  have m0 := bC.x0; have m1 := bC.x1; have m2 := bC.x2
  rw [← hA] at m0 m1 m2
  have HA := Lib.hid hA
  clear h E0 bC bF hf hz0 hS x1 x3 s1 hA1 hA3 hA
  go_enter Tryd.func28, Tryd.ntmps28
  go_wp2_with fail
  rw [HA.out]
  have HK := Lib.hid (Check_any ⟨qb, bi, ops⟩ ao n cp A3 HO.out hn hcp HS.out)
  rw [Hf.out] at HK
  refine HK.out.mono ?_
  rintro e w1 ⟨rfl, hx1⟩
  have Ef := ext_al w1 (.cells #[.int .i64 f0, .int .i64 f1] 28)
  have bf1 : FtB (w1.alloc (.cells #[.int .i64 f0, .int .i64 f1] 28)) w1.heap.size f0 f1 := ⟨heap_alloc_new w1 _⟩
  have q0 := bf1.x0; have q1 := bf1.x1
  have HX1 := Lib.hid (hx1.trans Ef)
  have bz := HFt.out.ext HX1.out; have x0' := bz.x0; have x1' := bz.x1; have g0' := bz.f 0; have g1' := bz.f 1
  have bc := HC.out.ext HX1.out
  have hsz1 := hx1.size
  have hA3 := HFt.out.lt
  have HbC := Lib.hid bc; have HbF := Lib.hid bz
  clear bz bc m0 m1 m2 hx1 Ef bf1 HK Hf
  by_cases h0 : f0 = 0
  · subst h0
    obtain ⟨rfl, hn4, hqb, hbi, hfit⟩ := Hz0.out rfl
    have HW : Hid (V = ⟨(prn ⟨qb, bi, ops⟩).toArray⟩) := by have := HV.out; rw [if_pos rfl] at this; exact this.symm
    clear HV Hz0 HC HFt HA x0' x1' g0' g1'
    go_wp2_with fail
    have hsW : (w1.alloc (.cells #[.int .i64 0, .int .i64 0] 28)).heap.size = w1.heap.size + 1 := by simp
    generalize w1.alloc (.cells #[.int .i64 0, .int .i64 0] 28) = W1 at *
    have hb0 := bld_new W1
    have hE0 := ext_al W1 (.cells #[.pointer none, .slice none 0 0] 67)
    have HB0 := Lib.hid (show BldT (W1.alloc (.cells #[.pointer none, .slice none 0 0] 67)) W1.heap.size [] from hb0); have HE1 := Lib.hid hE0
    have hsX := HX1.out.size
    clear hb0 hE0 q0 q1
    generalize W1.alloc (.cells #[.pointer none, .slice none 0 0] 67) = V0 at *
    rw [hsW] at HB0
    obtain ⟨b, hb'⟩ : ∃ b, w1.heap.size + 1 = b := ⟨_, rfl⟩
    rw [hb'] at HB0 hsW ⊢
    have hb := hsW
    clear hsW hb'
    refine (wstr b [] ⟨#[113, 117, 98, 105, 116, 115]⟩ V0 HB0.out (by simp [ByteArray.size])).mono ?_
    rintro e V1 ⟨rfl, h2, hW2⟩
    have hE2 := hW2.ext HE1.out (Nat.le_of_eq hb)
    have y0 := (HbC.out.ext hE2).x0; have y1 := (HbC.out.ext hE2).x1; have y2 := (HbC.out.ext hE2).x2
    obtain ⟨l1, hl1⟩ : ∃ x : List UInt8, [] ++ [113, 117, 98, 105, 116, 115] = x := ⟨_, rfl⟩
    have hn1 : l1.length ≤ 8 := by rw [← hl1]; simp
    have h2' : BldT V1 b l1 := by rw [← hl1]; exact h2
    have HB1 := Lib.hid h2'; have HE2 := Lib.hid hE2; have HL1 := Lib.hid hl1
    clear h2 h2' hW2 hE2 hl1 HB0 HE1
    go_wp2_with fail
    clear y0 y1 y2
    refine (writeNumber_any b l1 qb V1 HB1.out hqb.1 hqb.2 (by omega)).mono ?_
    rintro e V2 ⟨rfl, h2, hW2⟩
    have hE2 := hW2.ext HE2.out (Nat.le_of_eq hb)
    have y0 := (HbC.out.ext hE2).x0; have y1 := (HbC.out.ext hE2).x1; have y2 := (HbC.out.ext hE2).x2
    obtain ⟨l2, hl2⟩ : ∃ x : List UInt8, l1 ++ numL qb = x := ⟨_, rfl⟩
    have hn2 : l2.length ≤ 16 := by rw [← hl2, List.length_append]; have := numL_len hqb.2; simp; omega
    have h2' : BldT V2 b l2 := by rw [← hl2]; exact h2
    have HB2 := Lib.hid h2'; have HE3 := Lib.hid hE2; have HL2 := Lib.hid hl2
    clear h2 h2' hW2 hE2 hl2 HB1 HE2
    go_wp2_with fail
    clear y0 y1 y2
    refine (wstr b l2 ⟨#[32, 98, 105, 116, 115]⟩ V2 HB2.out (by simp [ByteArray.size]; omega)).mono ?_
    rintro e V3 ⟨rfl, h2, hW2⟩
    have hE2 := hW2.ext HE3.out (Nat.le_of_eq hb)
    have y0 := (HbC.out.ext hE2).x0; have y1 := (HbC.out.ext hE2).x1; have y2 := (HbC.out.ext hE2).x2
    obtain ⟨l3, hl3⟩ : ∃ x : List UInt8, l2 ++ [32, 98, 105, 116, 115] = x := ⟨_, rfl⟩
    have hn3 : l3.length ≤ 24 := by rw [← hl3, List.length_append]; simp; omega
    have h2' : BldT V3 b l3 := by rw [← hl3]; exact h2
    have HB3 := Lib.hid h2'; have HE4 := Lib.hid hE2; have HL3 := Lib.hid hl3
    clear h2 h2' hW2 hE2 hl3 HB2 HE3
    go_wp2_with fail
    clear y0 y1 y2
    refine (writeNumber_any b l3 bi V3 HB3.out hbi.1 hbi.2 (by omega)).mono ?_
    rintro e V4 ⟨rfl, h2, hW2⟩
    have hE2 := hW2.ext HE4.out (Nat.le_of_eq hb)
    have y0 := (HbC.out.ext hE2).x0; have y1 := (HbC.out.ext hE2).x1; have y2 := (HbC.out.ext hE2).x2
    obtain ⟨l4, hl4⟩ : ∃ x : List UInt8, l3 ++ numL bi = x := ⟨_, rfl⟩
    have hn4 : l4.length ≤ 32 := by rw [← hl4, List.length_append]; have := numL_len hbi.2; simp; omega
    have h2' : BldT V4 b l4 := by rw [← hl4]; exact h2
    have HB4 := Lib.hid h2'; have HE5 := Lib.hid hE2; have HL4 := Lib.hid hl4
    clear h2 h2' hW2 hE2 hl4 HB3 HE4
    go_wp2_with fail
    clear y0 y1 y2
    refine (wstr b l4 ⟨#[10]⟩ V4 HB4.out (by simp [ByteArray.size]; omega)).mono ?_
    rintro e V5 ⟨rfl, h2, hW2⟩
    have hE2 := hW2.ext HE5.out (Nat.le_of_eq hb)
    have y0 := (HbC.out.ext hE2).x0; have y1 := (HbC.out.ext hE2).x1; have y2 := (HbC.out.ext hE2).x2
    obtain ⟨l5, hl5⟩ : ∃ x : List UInt8, l4 ++ [10] = x := ⟨_, rfl⟩
    have hn5 : l5.length ≤ 40 := by rw [← hl5, List.length_append]; simp; omega
    have h2' : BldT V5 b l5 := by rw [← hl5]; exact h2
    have HB5 := Lib.hid h2'; have HE6 := Lib.hid hE2; have HL5 := Lib.hid hl5
    clear h2 h2' hW2 hE2 hl5 HB4 HE5
    go_wp2_with fail
    clear y0 y1 y2
    have HP : Hid (prn ⟨qb, bi, ops⟩ = l5 ++ prnAll ops) := by
      show prn ⟨qb, bi, ops⟩ = l5 ++ prnAll ops
      rw [← HL5.out, ← HL4.out, ← HL3.out, ← HL2.out, ← HL1.out]
      rfl
    clear HL1 HL2 HL3 HL4 HL5
    have hlenA := prnAll_len ops hfit
    rw [Hl.out] at hlenA
    have Hfit := Lib.hid hfit
    clear hfit
    go_loopg [26] n (fun kk sx wx => ∃ i : Nat, sx = .int .i64 (i : Int) ∧ i ≤ n ∧ n - i = kk ∧ Ext W1 wx ∧ BldT wx b (l5 ++ prnAll (ops.take i)))
    case atStart => exact ⟨0, rfl, by omega, by omega, HE6.out, by simpa [prnAll] using HB5.out⟩
    case round =>
      clear HE6 HB5
      obtain ⟨i, rfl, hi1, hk, hE, hB⟩ := hrel
      by_cases hin : i = n
      · have h2 : ¬ (i : Int) < (n : Int) := by omega
        rw [List.take_of_length_le (by rw [Hl.out]; omega), ← HP.out] at hB
        have hbl := hB.lt
        have HC := Lib.hid (Tryd.Builder_String_any_k b b _ wr hB (by omega))
        have HEw := Lib.hid hE
        clear hE hB
        go_wp2_with fail
        refine HC.out.mono ?_
        rintro e w5 ⟨rfl, h5, hb5, ho5⟩
        have hE5 : Ext W1 w5 := Wrt.ext ⟨hb5, ho5⟩ HEw.out (Nat.le_of_eq hb)
        have bz := HbF.out.ext hE5; have x0' := bz.x0; have x1' := bz.x1; have g0' := bz.f 0; have g1' := bz.f 1
        have HE5 := Lib.hid ((HE0.out.trans HX1.out).trans hE5)
        clear h5 hb5 ho5 hE5 bz HC HEw
        go_wp2_with fail
        refine bodyPost_ret (v := .tuple #[.string ⟨(prn ⟨qb, bi, ops⟩).toArray⟩, .agg #[.int .i64 0, .int .i64 0]]) (by simp [results, Tryd.results28, go_sem, x0', x1']) rfl ⟨by rw [HW.out], ?_⟩
        exact cput (cput HE5.out (by omega) _) (by omega) _
      · have h2 : (i : Int) < (n : Int) := by omega
        have h0 : (0 : Int) ≤ (i : Int) := by omega
        obtain ⟨b', o', rfl⟩ := HO.out.some_of (by omega)
        obtain ⟨g, hg⟩ : ∃ g, ops[i]? = some g := ⟨_, List.getElem?_eq_getElem (by rw [Hl.out]; omega)⟩
        obtain ⟨a1, n1, c1, a2, n2, c2, e0, e1, e2, e3, e4, e5, hL⟩ := ((HO.out.ext HX1.out).ext hE).at i g hg
        have hpf := Hfit.out g (List.mem_of_getElem? hg)
        have hpl := prnOp_len hpf
        have hst : ops.take (i + 1) = ops.take i ++ [g] := by rw [List.take_add_one, hg]; rfl
        have Hst : Hid (l5 ++ prnAll (ops.take (i + 1)) = l5 ++ prnAll (ops.take i) ++ prnOp g ++ [10]) := by
          show _ = _
          rw [hst, prnAll_snoc]; simp
        have hla := prnAll_len (ops.take i) (fun o ho => Hfit.out o (List.mem_of_mem_take ho))
        have hlt : (ops.take i).length ≤ n := by rw [List.length_take, Hl.out]; omega
        obtain ⟨a1', n1', c1', a2', n2', c2', _, _, d2, _, _, d5, hL'⟩ := (HO.out.ext HX1.out).at i g hg
        have Ea := ext_al wr (.cells #[.int .i64 g.kind, .int .i64 g.k, .slice a1 n1 c1, .int .i64 g.q, .int .i64 g.bit, .slice a2 n2 c2] 43)
        have bO := opbx_new wr g.kind g.k a1 n1 c1 g.q g.bit a2 n2 c2
        have k2 := (cell_ext d2 hE).symm.trans e2
        have k5 := (cell_ext d5 hE).symm.trans e5
        simp only [Option.some.injEq, Value.slice.injEq] at k2 k5
        obtain ⟨rfl, rfl, rfl⟩ := k2
        obtain ⟨rfl, rfl, rfl⟩ := k5
        obtain ⟨lx, hlx⟩ : ∃ x, l5 ++ prnAll (ops.take i) = x := ⟨_, rfl⟩
        have hlxn : lx.length ≤ 40 + 158 * n := by
          rw [← hlx, List.length_append]
          have : 158 * (ops.take i).length ≤ 158 * n := Nat.mul_le_mul_left _ hlt
          omega
        rw [hlx] at hB Hst
        have HC := Lib.hid (writeOp_any g a1' n1' c1' a2' n2' c2' b lx W1 (wr.alloc (.cells #[.int .i64 g.kind, .int .i64 g.k, .slice a1' n1' c1', .int .i64 g.q, .int .i64 g.bit, .slice a2' n2' c2'] 43)) (hE.trans Ea) (Nat.le_of_eq hb) hL' (HS.out.ext HX1.out) hpf (hB.alloc _) (by omega))
        have HEa := Lib.hid (hE.trans Ea)
        obtain ⟨kd, kk', ctl, qq, bb, cnd⟩ := g
        simp only at e0 e1 e2 e3 e4 e5 bO HC HEa
        have p0 := bO.x0; have p1 := bO.x1; have p2 := bO.x2; have p3 := bO.x3; have p4 := bO.x4; have p5 := bO.x5
        obtain ⟨ly, hly⟩ : ∃ x, lx ++ prnOp ⟨kd, kk', ctl, qq, bb, cnd⟩ = x := ⟨_, rfl⟩
        have hlyn : ly.length ≤ 40 + 158 * n + 157 := by rw [← hly, List.length_append]; omega
        rw [hly] at HC Hst
        clear hg hL hL' hpf hpl hst hla hlt d2 d5 Ea bO hlx hly hE hB
        go_wp2_with fail
        generalize wr.alloc (.cells #[.int .i64 kd, .int .i64 kk', .slice a1' n1' c1', .int .i64 qq, .int .i64 bb, .slice a2' n2' c2'] 43) = w3 at *
        clear e0 e1 e2 e3 e4 e5 p0 p1 p2 p3 p4 p5
        refine HC.out.mono ?_
        rintro e w4 ⟨rfl, h4, hW4⟩
        have H4 := Lib.hid h4; have HE4 := Lib.hid (hW4.ext HEa.out (Nat.le_of_eq hb))
        clear h4 hW4 HC HEa
        go_wp2_with fail
        refine (wstr b ly ⟨#[10]⟩ w4 H4.out (by simp [ByteArray.size]; omega)).mono ?_
        rintro e w5 ⟨rfl, h5, hW5⟩
        have H5 := Lib.hid h5; have HE5 := Lib.hid (hW5.ext HE4.out (Nat.le_of_eq hb))
        clear h5 hW5
        go_wp2_with fail
        go_roundg (n - (i + 1))
        case measure => omega
        case rel => exact ⟨i + 1, by go_num, by omega, rfl, HE5.out, by rw [Hst.out]; exact H5.out⟩
  · have e1 := nt h0
    have HW : Hid (V = ⟨#[]⟩) := by have := HV.out; rw [if_neg h0] at this; exact this.symm
    clear h0
    go_wp2_with fail
    go_region
    go_wp2_with fail
    refine bodyPost_ret (v := .tuple #[.string ⟨#[]⟩, .agg #[.int .i64 f0, .int .i64 f1]]) (by simp [results, Tryd.results28, go_sem, x0', x1']) rfl ⟨by rw [HW.out], ?_⟩
    exact Below.drew (cput (cput (HE0.out.trans HX1.out) (by omega) _) (by omega) _)

end Go.Proofs.YtapolidgocfbjaaDoor
namespace Go.Proofs.YtapolidgocfbjaaDoor
open Go.RowKit

theorem row_put {W : World} {g k : Nat} {cs cs' : Array Value} {t : TypeId} {u : Value} (h : W.heap[g]? = some (.cells cs t (0, 0))) (e : cs.setIfInBounds k u = cs') : (W.setCell ⟨g, k, none⟩ u).heap[g]? = some (.cells cs' t (0, 0)) := by
  rw [setCell_eq_setRow W g k _ _ _ _ h, setRow_heap W g _ _ _ _ h, e]
theorem row_far {W : World} {g g' k : Nat} {x : Obj} {u : Value} (h : W.heap[g]? = some x) (hne : g' ≠ g) : (W.setCell ⟨g', k, none⟩ u).heap[g]? = some x := by
  rw [Below.heap_setCell W ⟨g', k, none⟩ u g (fun e => hne e.symm)]; exact h

end Go.Proofs.YtapolidgocfbjaaDoor
namespace Go.Proofs.YtapolidgocfbjaaDoor
open Go.RowKit

theorem stepK_storeI {ops : Array Oper} {o : Oper} {a : Act} {K : Act → World → Prop} {Q : Exit → Act → World → Prop} {E : Prop} {w : World} (hgd : o.guard = none) (hd : o.dst = none) (p x : Operand)
    (ho : o.op = .store 25 p x) (b off : Nat) (a' : Option Addr) (n' c' : Nat) (u : Value) (hp : a.eval p = .pointer (some ⟨b, off, none⟩)) (hx : a.eval x = .slice a' n' c')
    (hcell : w.cell? ⟨b, off, none⟩ = some u) (hfz : w.frozen? ⟨b, off, none⟩ = false) (h : K a (w.setCell ⟨b, off, none⟩ (.slice a' n' c'))) :
    if Region.wanted o (yielded ops a.tmps) = true then Oper.wp Tryd.prog o a w K Q else E := by
  have hw : Region.wanted o (yielded ops a.tmps) = true := by simp [Region.wanted, hgd]
  rw [if_pos hw]
  obtain ⟨od, oo, ot, opp, oa, og⟩ := o
  simp only at ho hd
  subst ho hd
  have HH := Lib.hid h
  clear h
  unfold Oper.wp execOp
  simp only [hp, hx]
  go_simp
  exact HH.out

end Go.Proofs.YtapolidgocfbjaaDoor
namespace Go.Proofs.YtapolidgocfbjaaDoor
open Go.RowKit

theorem CiB.set0 {W : World} {g : Nat} {qb bi : Int} {ao : Option Addr} {n cp : Nat} (h : CiB W g qb bi ao n cp) (v : Int) : CiB (W.setCell ⟨g, 0, none⟩ (.int .i64 v)) g v bi ao n cp := ⟨row_put h.row rfl⟩
theorem CiB.set1 {W : World} {g : Nat} {qb bi : Int} {ao : Option Addr} {n cp : Nat} (h : CiB W g qb bi ao n cp) (v : Int) : CiB (W.setCell ⟨g, 1, none⟩ (.int .i64 v)) g qb v ao n cp := ⟨row_put h.row rfl⟩
end Go.Proofs.YtapolidgocfbjaaDoor
namespace Go.Proofs.YtapolidgocfbjaaDoor
open Go.RowKit

/-- Six cells are laid from p on. -/
def set6 (cs : Array Value) (p : Nat) (f : Nat → Value) : Array Value :=
  (((((cs.setIfInBounds p (f 0)).setIfInBounds (p + 1) (f 1)).setIfInBounds (p + 2) (f 2)).setIfInBounds (p + 3) (f 3)).setIfInBounds (p + 4) (f 4)).setIfInBounds (p + 5) (f 5)
theorem set6_size (cs : Array Value) (p : Nat) (f : Nat → Value) : (set6 cs p f).size = cs.size := by simp [set6]
theorem set6_in (cs : Array Value) (p : Nat) (f : Nat → Value) (k : Nat) (hk : k < 6) (hp : p + 6 ≤ cs.size) : (set6 cs p f)[p + k]? = some (f k) := by
  have : k = 0 ∨ k = 1 ∨ k = 2 ∨ k = 3 ∨ k = 4 ∨ k = 5 := by omega
  unfold set6
  rcases this with rfl | rfl | rfl | rfl | rfl | rfl
  all_goals
    simp only [Array.getElem?_setIfInBounds, Array.size_setIfInBounds]
    repeat (first | rw [if_neg (by omega)] | rw [if_pos (by omega)] | rw [if_pos trivial])
theorem set6_out (cs : Array Value) (p : Nat) (f : Nat → Value) (q : Nat) (hq : q < p ∨ p + 6 ≤ q) : (set6 cs p f)[q]? = cs[q]? := by
  unfold set6
  simp only [Array.getElem?_setIfInBounds]
  repeat rw [if_neg (by omega)]

/-- The outer i on each side changed places. -/
def half (ops : List Gop) (i : Nat) : List Gop := ops.reverse.take i ++ ((ops.drop i).take (ops.length - 2 * i) ++ ops.reverse.drop (ops.length - i))
theorem half_len {ops : List Gop} {i : Nat} (h : 2 * i ≤ ops.length) : (half ops i).length = ops.length := by
  unfold half
  simp only [List.length_append, List.length_take, List.length_drop, List.length_reverse]
  omega
theorem half_get {ops : List Gop} {i t : Nat} (h : 2 * i ≤ ops.length) (ht : t < ops.length) : (half ops i)[t]? = if t < i ∨ ops.length - i ≤ t then ops[ops.length - 1 - t]? else ops[t]? := by
  unfold half
  by_cases h1 : t < i
  · rw [if_pos (Or.inl h1), List.getElem?_append_left (by rw [List.length_take, List.length_reverse]; omega), List.getElem?_take, if_pos h1, List.getElem?_reverse (by omega)]
  · rw [List.getElem?_append_right (by rw [List.length_take, List.length_reverse]; omega)]
    have e1 : (ops.reverse.take i).length = i := by rw [List.length_take, List.length_reverse]; omega
    rw [e1]
    by_cases h2 : ops.length - i ≤ t
    · rw [if_pos (Or.inr h2), List.getElem?_append_right (by simp only [List.length_take, List.length_drop]; omega)]
      have e2 : ((ops.drop i).take (ops.length - 2 * i)).length = ops.length - 2 * i := by simp only [List.length_take, List.length_drop]; omega
      rw [e2, List.getElem?_drop, show ops.length - i + (t - i - (ops.length - 2 * i)) = t by omega, List.getElem?_reverse (by omega)]
    · rw [if_neg (by omega), List.getElem?_append_left (by simp only [List.length_take, List.length_drop]; omega), List.getElem?_take, if_pos (by omega), List.getElem?_drop, show i + (t - i) = t by omega]
theorem half_done {ops : List Gop} {i : Nat} (h : 2 * i ≤ ops.length) (h2 : ops.length ≤ 2 * i + 1) : half ops i = ops.reverse := by
  apply List.ext_getElem?
  intro t
  by_cases ht : t < ops.length
  · rw [half_get h ht, List.getElem?_reverse ht]
    split
    · rfl
    · congr 1; omega
  · rw [List.getElem?_eq_none (by rw [half_len h]; omega), List.getElem?_eq_none (by rw [List.length_reverse]; omega)]
theorem half_zero (ops : List Gop) : half ops 0 = ops := by
  unfold half
  simp

end Go.Proofs.YtapolidgocfbjaaDoor
namespace Go.Proofs.YtapolidgocfbjaaDoor
open Go.RowKit

/-- A list in a block of its own, not older than base. -/
def Iow (w : World) (base : Nat) (a : Option Addr) (n c : Nat) (l : List Int) : Prop := w.ownsRow base 3 1 (.slice a n c) n (iC l)
section
variable {w w' : World} {base base' : Nat} {a : Option Addr} {n c : Nat} {l : List Int}
theorem Iow.keep (h : Iow w base a n c l) (hk : ∀ (b : Nat) (cur : Array Value) (fr : Nat × Nat), w.heap[b]? = some (.cells cur 3 fr) → w'.heap[b]? = w.heap[b]?) : Iow w' base a n c l := own_keep h fun g cur _ hg => hk g cur (0, 0) hg
theorem Iow.ext (h : Iow w base a n c l) (k : Ext w w') : Iow w' base a n c l := own_keep h fun g _ _ hg => k.block g (Array.getElem?_eq_some_iff.1 hg).1
theorem Iow.down (h : Iow w base a n c l) (hb : base' ≤ base) : Iow w base' a n c l := by
  refine ⟨h.1, ?_⟩
  rcases h.2 with h | ⟨g, cap, cur, hv, hbg, rest⟩
  · exact Or.inl h
  · exact Or.inr ⟨g, cap, cur, hv, by omega, rest⟩
theorem Iow.lt (h : Iow w base a n c l) : ∀ k, (Value.slice a n c).ownBlock = some k → base ≤ k ∧ k < w.heap.size := own_lt h
theorem Iow.kind (h : Iow w base a n c l) : ∀ k, (Value.slice a n c).ownBlock = some k → ∃ cur fr, w.heap[k]? = some (.cells cur 3 fr) := fun k hk => (PtKind h k hk).2
theorem Iow.ints (h : Iow w base a n c l) : n ≤ c ∧ c ≤ maxLen ∧ IntsAt w a n l ∧ TyI w a := by
  obtain ⟨a', c', e, h1, h2, h3, h4⟩ := ints_of_own h
  injection e with e1 e2 e3
  subst e1; subst e3
  exact ⟨h1, h2, h3, h4⟩
theorem io_of_own {v : Value} (h : w.ownsRow base 3 1 v n (iC l)) : ∃ (a : Option Addr) (c : Nat), v = .slice a n c ∧ Iow w base a n c l := by
  obtain ⟨a', c', rfl, _⟩ := ints_of_own h
  exact ⟨a', c', rfl, h⟩
end

/-- An operation whose lists lie each in a block of its own. -/
structure OpN (w : World) (base : Nat) (o : Gop) (a1 : Option Addr) (n1 c1 : Nat) (a2 : Option Addr) (n2 c2 : Nat) : Prop where
  i1 : Iow w base a1 n1 c1 o.ctl
  i2 : Iow w base a2 n2 c2 o.cnd
  ne : ∀ k, (Value.slice a1 n1 c1).ownBlock = some k → (Value.slice a2 n2 c2).ownBlock ≠ some k
section
variable {w w' : World} {base base' : Nat} {o : Gop} {a1 : Option Addr} {n1 c1 : Nat} {a2 : Option Addr} {n2 c2 : Nat}
theorem OpN.keep (h : OpN w base o a1 n1 c1 a2 n2 c2) (hk : ∀ (b : Nat) (cur : Array Value) (fr : Nat × Nat), w.heap[b]? = some (.cells cur 3 fr) → w'.heap[b]? = w.heap[b]?) : OpN w' base o a1 n1 c1 a2 n2 c2 := ⟨h.i1.keep hk, h.i2.keep hk, h.ne⟩
theorem OpN.ext (h : OpN w base o a1 n1 c1 a2 n2 c2) (k : Ext w w') : OpN w' base o a1 n1 c1 a2 n2 c2 := ⟨h.i1.ext k, h.i2.ext k, h.ne⟩
theorem OpN.down (h : OpN w base o a1 n1 c1 a2 n2 c2) (hb : base' ≤ base) : OpN w base' o a1 n1 c1 a2 n2 c2 := ⟨h.i1.down hb, h.i2.down hb, h.ne⟩
theorem OpN.opO (h : OpN w base o a1 n1 c1 a2 n2 c2) : OpO w o a1 n1 c1 a2 n2 c2 := by
  obtain ⟨p1, p2, p3, p4⟩ := h.i1.ints
  obtain ⟨q1, q2, q3, q4⟩ := h.i2.ints
  exact ⟨⟨p3, p1, by unfold maxLen at p2; omega, q3, q1, by unfold maxLen at q2; omega⟩, p4, q4⟩
end

/-- Among the first m cells no two lead into one block. -/
def SepF (m : Nat) (f : Nat → Option Value) : Prop := ∀ i j k u v, i < m → j < m → f i = some u → f j = some v → u.ownBlock = some k → v.ownBlock = some k → i = j
/-- Operations, cell by cell. -/
def RowF (w : World) (base : Nat) (f : Nat → Option Value) (ops : List Gop) : Prop :=
  ∀ t g, ops[t]? = some g → ∃ (a1 : Option Addr) (n1 c1 : Nat) (a2 : Option Addr) (n2 c2 : Nat),
    f (t * 6) = some (.int .i64 g.kind) ∧ f (t * 6 + 1) = some (.int .i64 g.k) ∧ f (t * 6 + 2) = some (.slice a1 n1 c1) ∧ f (t * 6 + 3) = some (.int .i64 g.q) ∧ f (t * 6 + 4) = some (.int .i64 g.bit) ∧ f (t * 6 + 5) = some (.slice a2 n2 c2) ∧ OpN w base g a1 n1 c1 a2 n2 c2
section
variable {w w' : World} {base base' : Nat} {f f' : Nat → Option Value} {ops : List Gop}
theorem RowF.map (h : RowF w base f ops) (hk : ∀ g a1 n1 c1 a2 n2 c2, OpN w base g a1 n1 c1 a2 n2 c2 → OpN w' base' g a1 n1 c1 a2 n2 c2) : RowF w' base' f ops := fun t g hg => by
  obtain ⟨a1, n1, c1, a2, n2, c2, e0, e1, e2, e3, e4, e5, e6⟩ := h t g hg
  exact ⟨a1, n1, c1, a2, n2, c2, e0, e1, e2, e3, e4, e5, hk _ _ _ _ _ _ _ e6⟩
theorem RowF.congr (h : RowF w base f ops) (he : ∀ i, i < ops.length * 6 → f' i = f i) : RowF w base f' ops := fun t g hg => by
  obtain ⟨a1, n1, c1, a2, n2, c2, e0, e1, e2, e3, e4, e5, e6⟩ := h t g hg
  have ht := (List.getElem?_eq_some_iff.1 hg).1
  exact ⟨a1, n1, c1, a2, n2, c2, (he _ (by omega)).trans e0, (he _ (by omega)).trans e1, (he _ (by omega)).trans e2, (he _ (by omega)).trans e3, (he _ (by omega)).trans e4, (he _ (by omega)).trans e5, e6⟩
theorem SepF.congr {m : Nat} (h : SepF m f) (he : ∀ i, i < m → f' i = f i) : SepF m f' := fun i j k u v hi hj eu ev ku kv =>
  h i j k u v hi hj ((he i hi).symm.trans eu) ((he j hj).symm.trans ev) ku kv
theorem RowF.blocks (h : RowF w base f ops) {i : Nat} {u : Value} {k : Nat} (hi : i < ops.length * 6) (hu : f i = some u) (hk : u.ownBlock = some k) : base ≤ k ∧ k < w.heap.size ∧ ∃ cur fr, w.heap[k]? = some (.cells cur 3 fr) := by
  obtain ⟨t, r, hr, rfl⟩ : ∃ t r, r < 6 ∧ i = t * 6 + r := ⟨i / 6, i % 6, by omega, by omega⟩
  have ht : t < ops.length := by omega
  obtain ⟨a1, n1, c1, a2, n2, c2, e0, e1, e2, e3, e4, e5, e6⟩ := h t _ (List.getElem?_eq_getElem ht)
  have : r = 0 ∨ r = 1 ∨ r = 2 ∨ r = 3 ∨ r = 4 ∨ r = 5 := by omega
  rcases this with rfl | rfl | rfl | rfl | rfl | rfl
  · rw [Nat.add_zero, e0] at hu; cases hu; simp [Value.ownBlock] at hk
  · rw [e1] at hu; cases hu; simp [Value.ownBlock] at hk
  · rw [e2] at hu; cases hu; exact ⟨(e6.i1.lt k hk).1, (e6.i1.lt k hk).2, e6.i1.kind k hk⟩
  · rw [e3] at hu; cases hu; simp [Value.ownBlock] at hk
  · rw [e4] at hu; cases hu; simp [Value.ownBlock] at hk
  · rw [e5] at hu; cases hu; exact ⟨(e6.i2.lt k hk).1, (e6.i2.lt k hk).2, e6.i2.kind k hk⟩
end

/-- Operations in a row of the call's own, their lists each in a block of its own; xs are the row's cells. -/
structure OpsX (w : World) (base : Nat) (v : Value) (ops : List Gop) (xs : List Value) : Prop where
  own : w.ownsRow base 43 6 v ops.length xs
  sep : SepF (ops.length * 6) (fun i => xs[i]?)
  row : RowF w base (fun i => xs[i]?) ops
def OpsN (w : World) (base : Nat) (v : Value) (ops : List Gop) : Prop := ∃ xs, OpsX w base v ops xs
section
variable {w w' : World} {base base' : Nat} {v : Value} {ops : List Gop} {xs : List Value}
theorem OpsX.nil (w : World) (base : Nat) : OpsX w base (.slice none 0 0) [] [] := ⟨⟨rfl, Or.inl ⟨rfl, rfl⟩⟩, fun i j k u v hi => by simp at hi, fun t g h => by simp at h⟩
theorem OpsN.nil (w : World) (base : Nat) : OpsN w base (.slice none 0 0) [] := ⟨[], OpsX.nil w base⟩
theorem OpsX.ext (h : OpsX w base v ops xs) (k : Ext w w') : OpsX w' base v ops xs :=
  ⟨own_keep h.own (fun g _ _ hg => k.block g (Array.getElem?_eq_some_iff.1 hg).1), h.sep, h.row.map fun _ _ _ _ _ _ _ o => o.ext k⟩
theorem OpsN.ext (h : OpsN w base v ops) (k : Ext w w') : OpsN w' base v ops := h.elim fun _ hx => ⟨_, hx.ext k⟩
theorem own_keep3 {e : TypeId} {size n : Nat} (h : w.ownsRow base e size v n xs) (hk : ∀ g, v.ownBlock = some g → w'.heap[g]? = w.heap[g]?) : w'.ownsRow base e size v n xs := by
  refine ⟨h.1, ?_⟩
  rcases h.2 with h | ⟨g, cap, cur, hv, hb, hg, rest⟩
  · exact Or.inl h
  · exact Or.inr ⟨g, cap, cur, hv, hb, (hk g (by rw [hv]; rfl)).trans hg, rest⟩
theorem OpsX.keep (h : OpsX w base v ops xs) (hv : ∀ g, v.ownBlock = some g → w'.heap[g]? = w.heap[g]?) (hk : ∀ (b : Nat) (cur : Array Value) (fr : Nat × Nat), w.heap[b]? = some (.cells cur 3 fr) → w'.heap[b]? = w.heap[b]?) : OpsX w' base v ops xs :=
  ⟨own_keep3 h.own hv, h.sep, h.row.map fun _ _ _ _ _ _ _ o => o.keep hk⟩
/-- A block of another kind is written. -/
theorem OpsX.far {k : Nat} {cs : Array Value} {T : TypeId} {fr : Nat × Nat} (h : OpsX w base v ops xs) (hk : w.heap[k]? = some (.cells cs T fr)) (hT : T ≠ 3) (hT2 : T ≠ 43) (hO : Only k w w') : OpsX w' base v ops xs := by
  refine h.keep (fun g hg => hO.block g (fun e => ?_)) (only_ints hk hT hO)
  obtain ⟨_, cs', fr', e2⟩ := PtKind h.own g hg
  rw [e, hk] at e2
  cases e2
  exact hT2 rfl
theorem OpsN.far {k : Nat} {cs : Array Value} {T : TypeId} {fr : Nat × Nat} (h : OpsN w base v ops) (hk : w.heap[k]? = some (.cells cs T fr)) (hT : T ≠ 3) (hT2 : T ≠ 43) (hO : Only k w w') : OpsN w' base v ops := h.elim fun _ hx => ⟨_, hx.far hk hT hT2 hO⟩
/-- An older block is written, not of ints. -/
theorem OpsX.only {k : Nat} {cs : Array Value} {T : TypeId} {fr : Nat × Nat} (h : OpsX w base v ops xs) (hk : w.heap[k]? = some (.cells cs T fr)) (hT : T ≠ 3) (hO : Only k w w') (hb : k < base) : OpsX w' base v ops xs :=
  h.keep (fun g hg => hO.block g (by have := (PtKind h.own g hg).1; omega)) (only_ints hk hT hO)
theorem OpsN.only {k : Nat} {cs : Array Value} {T : TypeId} {fr : Nat × Nat} (h : OpsN w base v ops) (hk : w.heap[k]? = some (.cells cs T fr)) (hT : T ≠ 3) (hO : Only k w w') (hb : k < base) : OpsN w' base v ops := h.elim fun _ hx => ⟨_, hx.only hk hT hO hb⟩
theorem OpsN.down (h : OpsN w base v ops) (hb : base' ≤ base) : OpsN w base' v ops := by
  obtain ⟨xs, h⟩ := h
  refine ⟨xs, ⟨⟨h.own.1, ?_⟩, h.sep, h.row.map fun _ _ _ _ _ _ _ o => o.down hb⟩⟩
  rcases h.own.2 with h | ⟨g, cap, cur, hv, hbg, rest⟩
  · exact Or.inl h
  · exact Or.inr ⟨g, cap, cur, hv, by omega, rest⟩
theorem OpsN.o (h : OpsN w base v ops) : OpsO w base v ops := by
  obtain ⟨xs, h⟩ := h
  refine ⟨xs, h.own, fun t g hg => ?_⟩
  obtain ⟨a1, n1, c1, a2, n2, c2, e0, e1, e2, e3, e4, e5, e6⟩ := h.row t g hg
  exact ⟨a1, n1, c1, a2, n2, c2, e0, e1, e2, e3, e4, e5, e6.opO⟩
/-- What is named: where it lies, how much there is, all of it there. -/
theorem OpsN.at {a : Option Addr} {n c : Nat} (h : OpsN w base (.slice a n c) ops) : ops.length = n ∧ n ≤ c ∧ c ≤ 9223372036854775807 ∧ OpsAt w a n ops := by
  obtain ⟨a9, c9, ev9, h1, h2, h3⟩ := h.o.at
  injection ev9 with ea en ec
  subst ea; subst ec; subst en
  exact ⟨rfl, h1, by unfold maxLen at h2; omega, h3⟩
theorem OpsX.old (h : OpsX w base v ops xs) : ∀ (i : Nat) (u : Value) (k : Nat), xs[i]? = some u → u.ownBlock = some k → k < w.heap.size := fun i u k hu hk => by
  have hi : i < ops.length * 6 := by rw [← h.own.1]; exact (List.getElem?_eq_some_iff.1 hu).1
  exact (h.row.blocks hi hu hk).2.1
end
theorem six_block {k0 k1 : Int} {a1 : Option Addr} {n1 c1 : Nat} {k3 k4 : Int} {a2 : Option Addr} {n2 c2 : Nat} {j k : Nat} {u : Value} (hu : ([.int .i64 k0, .int .i64 k1, .slice a1 n1 c1, .int .i64 k3, .int .i64 k4, .slice a2 n2 c2] : List Value)[j]? = some u) (hk : u.ownBlock = some k) :
    (j = 2 ∧ (Value.slice a1 n1 c1).ownBlock = some k) ∨ (j = 5 ∧ (Value.slice a2 n2 c2).ownBlock = some k) := by
  match j, hu with
  | 0, hu => simp at hu; subst hu; simp [Value.ownBlock] at hk
  | 1, hu => simp at hu; subst hu; simp [Value.ownBlock] at hk
  | 2, hu => simp at hu; subst hu; exact Or.inl ⟨rfl, hk⟩
  | 3, hu => simp at hu; subst hu; simp [Value.ownBlock] at hk
  | 4, hu => simp at hu; subst hu; simp [Value.ownBlock] at hk
  | 5, hu => simp at hu; subst hu; exact Or.inr ⟨rfl, hk⟩
  | n + 6, hu => simp at hu
/-- One more behind them, its lists in blocks that are newer. -/
theorem OpsX.snoc {w w' : World} {base B : Nat} {v v' : Value} {ops : List Gop} {xs : List Value} {g : Gop} {a1 : Option Addr} {n1 c1 : Nat} {a2 : Option Addr} {n2 c2 : Nat} (h : OpsX w base v ops xs)
    (h1 : w'.ownsRow base 43 6 v' (ops.length + 1) (xs ++ [.int .i64 g.kind, .int .i64 g.k, .slice a1 n1 c1, .int .i64 g.q, .int .i64 g.bit, .slice a2 n2 c2]))
    (hk : ∀ (b : Nat) (cur : Array Value) (fr : Nat × Nat), w.heap[b]? = some (.cells cur 3 fr) → w'.heap[b]? = w.heap[b]?)
    (hB : ∀ (i : Nat) (u : Value) (k : Nat), xs[i]? = some u → u.ownBlock = some k → k < B) (hb : base ≤ B) (hO : OpN w' B g a1 n1 c1 a2 n2 c2) :
    OpsX w' base v' (ops ++ [g]) (xs ++ [.int .i64 g.kind, .int .i64 g.k, .slice a1 n1 c1, .int .i64 g.q, .int .i64 g.bit, .slice a2 n2 c2]) := by
  have hx : xs.length = ops.length * 6 := h.own.1
  have hl : (ops ++ [g]).length = ops.length + 1 := by simp
  have hr : ∀ j, (xs ++ [.int .i64 g.kind, .int .i64 g.k, .slice a1 n1 c1, .int .i64 g.q, .int .i64 g.bit, .slice a2 n2 c2])[ops.length * 6 + j]? = ([.int .i64 g.kind, .int .i64 g.k, .slice a1 n1 c1, .int .i64 g.q, .int .i64 g.bit, .slice a2 n2 c2] : List Value)[j]? := fun j => by
    rw [List.getElem?_append_right (by omega), hx, Nat.add_sub_cancel_left]
  have hlft : ∀ i, i < ops.length * 6 → (xs ++ [.int .i64 g.kind, .int .i64 g.k, .slice a1 n1 c1, .int .i64 g.q, .int .i64 g.bit, .slice a2 n2 c2])[i]? = xs[i]? := fun i hi => List.getElem?_append_left (by omega)
  refine ⟨by rw [hl]; exact h1, ?_, ?_⟩
  · rw [hl]
    intro i j k u v hi hj eu ev ku kv
    simp only at eu ev
    have key : ∀ p q x y, p < ops.length * 6 → ops.length * 6 ≤ q → (xs ++ [.int .i64 g.kind, .int .i64 g.k, .slice a1 n1 c1, .int .i64 g.q, .int .i64 g.bit, .slice a2 n2 c2])[p]? = some x → (xs ++ [.int .i64 g.kind, .int .i64 g.k, .slice a1 n1 c1, .int .i64 g.q, .int .i64 g.bit, .slice a2 n2 c2])[q]? = some y → x.ownBlock = some k → y.ownBlock = some k → False := by
      intro p q x y hp hq ex ey kx ky
      rw [hlft p hp] at ex
      have h1 := hB p x k ex kx
      obtain ⟨r, rfl⟩ : ∃ r, q = ops.length * 6 + r := ⟨q - ops.length * 6, by omega⟩
      rw [hr] at ey
      rcases six_block ey ky with ⟨_, e⟩ | ⟨_, e⟩
      · have := (hO.i1.lt k e).1; omega
      · have := (hO.i2.lt k e).1; omega
    by_cases h1 : i < ops.length * 6
    · by_cases h2 : j < ops.length * 6
      · exact h.sep i j k u v h1 h2 (by rw [hlft i h1] at eu; exact eu) (by rw [hlft j h2] at ev; exact ev) ku kv
      · exact (key i j u v h1 (by omega) eu ev ku kv).elim
    · by_cases h2 : j < ops.length * 6
      · exact (key j i v u h2 (by omega) ev eu kv ku).elim
      · obtain ⟨r, rfl⟩ : ∃ r, i = ops.length * 6 + r := ⟨i - ops.length * 6, by omega⟩
        obtain ⟨s, rfl⟩ : ∃ s, j = ops.length * 6 + s := ⟨j - ops.length * 6, by omega⟩
        rw [hr] at eu ev
        rcases six_block eu ku with ⟨e1, f1⟩ | ⟨e1, f1⟩ <;> rcases six_block ev kv with ⟨e2, f2⟩ | ⟨e2, f2⟩
        · omega
        · exact absurd f2 (hO.ne k f1)
        · exact absurd f1 (hO.ne k f2)
        · omega
  · intro t gg hgg
    have ht := (List.getElem?_eq_some_iff.1 hgg).1
    rw [hl] at ht
    by_cases e : t = ops.length
    · subst e
      rw [List.getElem?_append_right (Nat.le_refl _), Nat.sub_self] at hgg
      cases hgg
      exact ⟨a1, n1, c1, a2, n2, c2, hr 0, hr 1, hr 2, hr 3, hr 4, hr 5, hO.down hb⟩
    · rw [List.getElem?_append_left (by omega)] at hgg
      obtain ⟨b1, m1, d1, b2, m2, d2, e0, e1, e2, e3, e4, e5, e6⟩ := h.row t gg hgg
      exact ⟨b1, m1, d1, b2, m2, d2, (hlft _ (by omega)).trans e0, (hlft _ (by omega)).trans e1, (hlft _ (by omega)).trans e2, (hlft _ (by omega)).trans e3, (hlft _ (by omega)).trans e4, (hlft _ (by omega)).trans e5, e6.keep hk⟩

/-- The row itself: its block and the cells in it. -/
theorem opsN_open {w : World} {base : Nat} {a : Option Addr} {n c : Nat} {ops : List Gop} (h : OpsN w base (.slice a n c) ops) (hn : 0 < n) :
    ops.length = n ∧ ∃ g cur, a = some ⟨g, 0, none⟩ ∧ base ≤ g ∧ w.heap[g]? = some (.cells cur 43 (0, 0)) ∧ n ≤ c ∧ c ≤ maxLen ∧ cur.size = c * 6 ∧ SepF (n * 6) (fun i => cur[i]?) ∧ RowF w base (fun i => cur[i]?) ops := by
  obtain ⟨xs, h⟩ := h
  rcases h.own.2 with ⟨e, h0⟩ | ⟨g, cap, cur, hv, hb, hg, hnc, hcm, hsz, htk⟩
  · injection e with _ e2 _; omega
  · injection hv with e1 e2 e3
    subst e1; subst e3
    have hc : ∀ j, j < ops.length * 6 → cur[j]? = xs[j]? := by
      intro j hj
      rw [← htk, List.getElem?_take, if_pos hj, Array.getElem?_toList]
    refine ⟨e2.symm, g, cur, rfl, hb, hg, by omega, hcm, hsz, ?_, h.row.congr hc⟩
    rw [e2]
    exact h.sep.congr hc
theorem opsN_close {w : World} {base g n c : Nat} {cur : Array Value} {ops : List Gop} (hl : ops.length = n) (hb : base ≤ g) (hg : w.heap[g]? = some (.cells cur 43 (0, 0))) (hnc : n ≤ c) (hcm : c ≤ maxLen) (hsz : cur.size = c * 6) (hS : SepF (n * 6) (fun i => cur[i]?)) (h : RowF w base (fun i => cur[i]?) ops) :
    OpsN w base (.slice (some ⟨g, 0, none⟩) n c) ops := by
  have hc : ∀ j, j < ops.length * 6 → (cur.toList.take (n * 6))[j]? = cur[j]? := by
    intro j hj
    rw [List.getElem?_take, if_pos (by omega), Array.getElem?_toList]
  refine ⟨cur.toList.take (n * 6), ⟨by rw [List.length_take, Array.length_toList, hsz, hl]; omega, Or.inr ⟨g, c, cur, by rw [hl], hb, hg, by omega, hcm, hsz, by rw [hl]⟩⟩, ?_, h.congr hc⟩
  rw [hl]
  exact hS.congr fun i hi => hc i (by omega)

end Go.Proofs.YtapolidgocfbjaaDoor
