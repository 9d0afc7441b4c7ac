/-
  The program's writer of an operation. The program's Print. The reader: an operation. The reference reads a line loosely. Copies that the program makes: of an operation, of operations. The reader: a circuit, read. The program's circuit of copies. Operations turned round in place.
-/
import Derived.Test.YtapolidgocfbjaaDoorProg
import Derived.Test.YtapolidgocfbjaaDoorRows
import Derived.BigQuiet
import Derived.Deep.AppendLies
import Derived.Deep.Cut
import Derived.Deep.CutRange
import Derived.Deep.LoopGhost
import Derived.Deep.QuietTactic
import Derived.Deep.RegionHeld3
import Derived.Laws.Bits64b
import Derived.Laws.CopyOwn
import Derived.Laws.ResultCell
import Derived.Lib.BitFns
import Derived.Lib.Hide
import Derived.Lib.ItoaNum
import Derived.Lib.Strings
import Derived.Maps.AppendAt
import Derived.OwnWalk
import Derived.Shelf.LaysM
import Derived.Shelf.Strconv.Itoa0
import Derived.Shelf.Strconv.Itoa1
import Derived.Shelf.Strconv.Itoa2
import Derived.Shelf.Strconv.Itoa3
import Derived.Shelf.Strings.Builder1
import Derived.Shelf.Strings.BuilderF
import Derived.Shelf.Strings.BuilderK
import Derived.WalkKit
import Derived.WalkLawsBesides
import Derived.WalkSpells
import Derived.Test.YtapolidgocfbjaaDoorS00Ce
import Derived.Test.YtapolidgocfbjaaDoorS01Cj
import Derived.Test.YtapolidgocfbjaaDoorShelf
import Derived.Test.YtapolidgocfbjaaDoorS03Cq
namespace Go.Proofs.YtapolidgocfbjaaDoor
open Go.RowKit

/-- What a checked operation keeps to. -/
structure PrFit (o : Gop) : Prop where
  kd : 1 ≤ o.kind ∧ o.kind ≤ 6
  k : 0 ≤ o.k ∧ o.k < 100
  q : 0 ≤ o.q ∧ o.q < 100
  bit : 0 ≤ o.bit ∧ o.bit < 100
  ctl : ∀ c ∈ o.ctl, 0 ≤ c ∧ c < 100
  few : o.ctl.length ≤ 12
  cnd : ∀ t ∈ o.cnd, t ≠ 0 ∧ -12 ≤ t ∧ t ≤ 12
  cfew : o.cnd.length ≤ 24

/-- While an operation is written: what is written so far, and the two variables. -/
structure WoS (w W : World) (b H : Nat) (l : List UInt8) (k0 k1 : Int) (a1 : Option Addr) (n1 c1 : Nat) (k3 k4 : Int) (a2 : Option Addr) (n2 c2 : Nat) (wd : ByteArray) (uK uQ uC uB : Bool) : Prop where
  bl : BldT W b l
  wr : Wrt b w W
  op : OpBx W H k0 k1 a1 n1 c1 k3 k4 a2 n2 c2
  sh : W.heap[H + 1]? = some (.cells #[.string wd, .bool uK, .bool uQ, .bool uC, .bool uB] 77 (0, 0))
section
variable {w W W' : World} {b H : Nat} {l l' : List UInt8} {k0 k1 : Int} {a1 : Option Addr} {n1 c1 : Nat} {k3 k4 : Int} {a2 : Option Addr} {n2 c2 : Nat} {wd : ByteArray} {uK uQ uC uB : Bool}
theorem WoS.step (h : WoS w W b H l k0 k1 a1 n1 c1 k3 k4 a2 n2 c2 wd uK uQ uC uB) (hb : b < H) (hl : BldT W' b l') (k : Wrt b W W') : WoS w W' b H l' k0 k1 a1 n1 c1 k3 k4 a2 n2 c2 wd uK uQ uC uB :=
  ⟨hl, h.wr.trans k, ⟨k.row h.op.row (by omega) (by decide)⟩, k.row h.sh (by omega) (by decide)⟩
theorem WoS.s0 (h : WoS w W b H l k0 k1 a1 n1 c1 k3 k4 a2 n2 c2 wd uK uQ uC uB) : W.cell? ⟨H + 1, 0, none⟩ = some (.string wd) := by rw [cell_of_row W _ 0 _ _ (0, 0) h.sh]; rfl
theorem WoS.s1 (h : WoS w W b H l k0 k1 a1 n1 c1 k3 k4 a2 n2 c2 wd uK uQ uC uB) : W.cell? ⟨H + 1, 1, none⟩ = some (.bool uK) := by rw [cell_of_row W _ 1 _ _ (0, 0) h.sh]; rfl
theorem WoS.s2 (h : WoS w W b H l k0 k1 a1 n1 c1 k3 k4 a2 n2 c2 wd uK uQ uC uB) : W.cell? ⟨H + 1, 2, none⟩ = some (.bool uQ) := by rw [cell_of_row W _ 2 _ _ (0, 0) h.sh]; rfl
theorem WoS.s4 (h : WoS w W b H l k0 k1 a1 n1 c1 k3 k4 a2 n2 c2 wd uK uQ uC uB) : W.cell? ⟨H + 1, 4, none⟩ = some (.bool uB) := by rw [cell_of_row W _ 4 _ _ (0, 0) h.sh]; rfl
theorem WoS.cast (h : WoS w W b H l k0 k1 a1 n1 c1 k3 k4 a2 n2 c2 wd uK uQ uC uB) (e : l = l') : WoS w W b H l' k0 k1 a1 n1 c1 k3 k4 a2 n2 c2 wd uK uQ uC uB := e ▸ h
end

theorem flat_len (f : Int → List UInt8) (m : Nat) : ∀ (l : List Int), (∀ x ∈ l, (f x).length ≤ m) → (l.flatMap f).length ≤ m * l.length := by
  intro l
  induction l with
  | nil => intro _; simp
  | cons a r ih =>
    intro h
    have h1 := h a (by simp)
    have h2 := ih (fun x hx => h x (by simp [hx]))
    rw [List.flatMap_cons, List.length_append, List.length_cons, Nat.mul_add]
    omega
theorem flat_snoc (f : Int → List UInt8) (l : List Int) (i : Nat) (h : i < l.length) : (l.take (i + 1)).flatMap f = (l.take i).flatMap f ++ f (l.getD i 0) := by
  rw [take_succ' l i h, List.flatMap_append]; simp
theorem getD_mem' {l : List Int} {i : Nat} (h : i < l.length) : l.getD i 0 ∈ l := by
  rw [List.getD_eq_getElem?_getD, List.getElem?_eq_getElem h]; exact List.getElem_mem _

set_option maxHeartbeats 4000000 in
set_option maxRecDepth 100000 in
theorem writeOp_any (o : Gop) (a1 : Option Addr) (n1 c1 : Nat) (a2 : Option Addr) (n2 c2 : Nat) (b : Nat) (l : List UInt8) (W0 w : World) (hE : Ext W0 w) (hW0 : W0.heap.size ≤ b) (hL : OpL W0 o a1 n1 c1 a2 n2 c2) (hS : Shp W0) (hf : PrFit o) (hB : BldT w b l) (hlen : l.length + 400 ≤ 140737488355328) :
    Calls Tryd.prog 46 #[.pointer (some ⟨b, 0, none⟩), .agg #[.int .i64 o.kind, .int .i64 o.k, .slice a1 n1 c1, .int .i64 o.q, .int .i64 o.bit, .slice a2 n2 c2]] w fun e w' => e = .returned (.tuple #[]) ∧ BldT w' b (l ++ prnOp o) ∧ Wrt b w w' := by
  obtain ⟨R, hR⟩ : ∃ R, l ++ prnOp o = R := ⟨_, rfl⟩
  rw [hR]
  obtain ⟨kd, k, ctl, q, bt, cnd⟩ := o
  obtain ⟨fkd, fk, fq, fbt, fctl, ffew, fcnd, fcfew⟩ := hf
  simp only at fkd fk fq fbt fctl ffew fcnd fcfew hL
  obtain ⟨kn, rfl⟩ : ∃ kn : Nat, kd = (kn : Int) := ⟨kd.toNat, by omega⟩
  have i0 : (0 : Int) ≤ (kn : Int) := by omega
  have i1 : (kn : Int) < 7 := by omega
  have hw7 : (wordOf kn).data.toList.length ≤ 7 := by
    have : kn = 1 ∨ kn = 2 ∨ kn = 3 ∨ kn = 4 ∨ kn = 5 ∨ kn = 6 := by omega
    rcases this with rfl | rfl | rfl | rfl | rfl | rfl <;> decide
  unfold prnOp at hR
  simp only at hR
  have hR0 : (Int.toNat (kn : Int)) = kn := by omega
  rw [hR0] at hR
  have E1 := hE.trans (ext_al w (.cells #[.int .i64 (kn : Int), .int .i64 k, .slice a1 n1 c1, .int .i64 q, .int .i64 bt, .slice a2 n2 c2] 43))
  obtain ⟨t0, t1, t2, t3, t4⟩ := (hS.ext E1) kn (by omega) (by omega)
  obtain ⟨uK, huK⟩ : ∃ x, usesK (kn : Int) = x := ⟨_, rfl⟩
  obtain ⟨uQ, huQ⟩ : ∃ x, usesQ (kn : Int) = x := ⟨_, rfl⟩
  obtain ⟨uC, huC⟩ : ∃ x, usesC (kn : Int) = x := ⟨_, rfl⟩
  obtain ⟨uB, huB⟩ : ∃ x, usesB (kn : Int) = x := ⟨_, rfl⟩
  obtain ⟨wd, hwd⟩ : ∃ x, wordOf kn = x := ⟨_, rfl⟩
  rw [huK] at t1 hR; rw [huQ] at t2 hR; rw [huC] at t3; rw [huB] at t4 hR; rw [hwd] at t0 hR hw7
  have bx := opbx_new w (kn : Int) k a1 n1 c1 q bt a2 n2 c2
  have m0 := bx.x0; have m1 := bx.x1; have m2 := bx.x2; have m3 := bx.x3; have m4 := bx.x4; have m5 := bx.x5
  have hbw := hB.lt
  have S0 : WoS w ((w.alloc (.cells #[.int .i64 (kn : Int), .int .i64 k, .slice a1 n1 c1, .int .i64 q, .int .i64 bt, .slice a2 n2 c2] 43)).alloc (.cells #[.string wd, .bool uK, .bool uQ, .bool uC, .bool uB] 77)) b w.heap.size l (kn : Int) k a1 n1 c1 q bt a2 n2 c2 wd uK uQ uC uB := by
    refine ⟨(hB.alloc _).alloc _, ((Wrt.refl b w).alloc (by omega) _).alloc (by simp; omega) _, bx.ext (ext_al _ _), ?_⟩
    have := heap_alloc_new (w.alloc (.cells #[.int .i64 (kn : Int), .int .i64 k, .slice a1 n1 c1, .int .i64 q, .int .i64 bt, .slice a2 n2 c2] 43)) (.cells #[.string wd, .bool uK, .bool uQ, .bool uC, .bool uB] 77)
    simpa using this
  have z0 := S0.s0
  have HS0 := Lib.hid S0; have HR := Lib.hid hR; have HL := Lib.hid hL; have HE := Lib.hid hE
  have Hctl := Lib.hid fctl; have Hcnd := Lib.hid fcnd
  have hq1 : n1 ≤ 12 := by rw [← hL.i1.1]; exact ffew
  have hq2 : n2 ≤ 24 := by rw [← hL.i2.1]; exact fcfew
  have Hl1 := Lib.hid hL.i1.1; have Hl2 := Lib.hid hL.i2.1
  have hsz : wd.size = wd.data.toList.length := rfl
  clear hR0 huK huQ huC huB hwd bx hB hR hL hS S0 hE E1 fctl fcnd fkd
  go_enter Tryd.func46, Tryd.ntmps46
  go_wp2_with fail
  generalize (w.alloc (.cells #[.int .i64 (kn : Int), .int .i64 k, .slice a1 n1 c1, .int .i64 q, .int .i64 bt, .slice a2 n2 c2] 43)).alloc (.cells #[.string wd, .bool uK, .bool uQ, .bool uC, .bool uB] 77) = W1 at *
  clear m0 m1 m2 m3 m4 m5 t0 t1 t2 t3 t4 z0
  refine (wstr b l wd W1 HS0.out.bl (by omega)).mono ?_
  rintro e w1 ⟨rfl, h1, hW1⟩
  obtain ⟨l1, hl1⟩ : ∃ x, l ++ wd.data.toList = x := ⟨_, rfl⟩
  rw [hl1] at h1
  have hn1 : l1.length ≤ l.length + 7 := by rw [← hl1, List.length_append]; omega
  have HS1 := Lib.hid (HS0.out.step hbw h1 hW1)
  have hR1 := HR.out
  simp only [← List.append_assoc] at hR1
  rw [hl1] at hR1
  have HR1 := Lib.hid hR1
  clear h1 hW1 HS0 HR hR1 hl1 hw7 hsz
  have z := HS1.out.s1; have y := HS1.out.op.x1
  go_upto_if 18 with fail
  go_cut [] from 9 to 70 (fun wx => WoS w wx b w.heap.size (l1 ++ (if uK = true then numL k else [])) (kn : Int) k a1 n1 c1 q bt a2 n2 c2 wd uK uQ uC uB)
  case first =>
    cases uK
    · go_wp2_with fail
      go_meet
      exact HS1.out.cast (by simp)
    · go_wp2_with fail
      refine (writeNumber_any b l1 k _ HS1.out.bl fk.1 fk.2 (by omega)).mono ?_
      rintro e w2 ⟨rfl, h2, hW2⟩
      have H2 := Lib.hid (HS1.out.step hbw h2 hW2)
      clear h2 hW2 z y HS1
      go_wp2_with fail
      go_meet
      exact H2.out.cast (by simp)
  case rest =>
  clear z y
  obtain ⟨l2, hl2⟩ : ∃ x, l1 ++ (if uK = true then numL k else []) = x := ⟨_, rfl⟩
  rw [hl2] at hcut
  have hx : (if uK = true then numL k else []).length ≤ 3 := by split; exact numL_len fk.2; simp
  have hn2 : l2.length ≤ l1.length + 3 := by rw [← hl2, List.length_append]; omega
  have HS2 := Lib.hid hcut
  have hR2 := HR1.out
  rw [hl2] at hR2
  have HR2 := Lib.hid hR2
  clear hcut HS1 HR1 hR2 hl2 hx
  have z := HS2.out.s2; have y := HS2.out.op.x3
  go_upto_if 24 with fail
  go_cut [] from 9 to 70 (fun wx => WoS w wx b w.heap.size (l2 ++ (if uQ = true then numL q else [])) (kn : Int) k a1 n1 c1 q bt a2 n2 c2 wd uK uQ uC uB)
  case first =>
    cases uQ
    · go_wp2_with fail
      go_meet
      exact HS2.out.cast (by simp)
    · go_wp2_with fail
      refine (writeNumber_any b l2 q _ HS2.out.bl fq.1 fq.2 (by omega)).mono ?_
      rintro e w2 ⟨rfl, h2, hW2⟩
      have H2 := Lib.hid (HS2.out.step hbw h2 hW2)
      clear h2 hW2 z y HS2
      go_wp2_with fail
      go_meet
      exact H2.out.cast (by simp)
  case rest =>
  clear z y
  obtain ⟨l3, hl3⟩ : ∃ x, l2 ++ (if uQ = true then numL q else []) = x := ⟨_, rfl⟩
  rw [hl3] at hcut
  have hx : (if uQ = true then numL q else []).length ≤ 3 := by split; exact numL_len fq.2; simp
  have hn3 : l3.length ≤ l2.length + 3 := by rw [← hl3, List.length_append]; omega
  have HS3 := Lib.hid hcut
  have hR3 := HR2.out
  rw [hl3] at hR3
  have HR3 := Lib.hid hR3
  clear hcut HS2 HR2 hR3 hl3 hx
  rw [Hl1.out] at HR3
  have y := HS3.out.op.x2
  go_upto_if 32 with fail
  go_cut [] from 9 to 70 (fun wx => WoS w wx b w.heap.size (l3 ++ (if 0 < n1 then [32, 111, 110] else [])) (kn : Int) k a1 n1 c1 q bt a2 n2 c2 wd uK uQ uC uB)
  case first =>
    by_cases hc : 0 < n1
    · have q1 : (0 : Int) < (n1 : Int) := by omega
      have q2 : decide ((0 : Int) < (n1 : Int)) = true := by simp; omega
      have Hc := Lib.hid hc
      clear hc
      go_wp2_with fail
      refine (wstr b l3 ⟨#[32, 111, 110]⟩ _ HS3.out.bl (by simp [ByteArray.size]; omega)).mono ?_
      rintro e w2 ⟨rfl, h2, hW2⟩
      have H2 := Lib.hid (HS3.out.step hbw h2 hW2)
      clear h2 hW2 y HS3
      go_wp2_with fail
      go_meet
      exact H2.out.cast (by rw [if_pos Hc.out])
    · have q1 : ¬ (0 : Int) < (n1 : Int) := by omega
      have q2 : decide ((0 : Int) < (n1 : Int)) = false := by simp; omega
      have Hc := Lib.hid hc
      clear hc
      go_wp2_with fail
      go_meet
      exact HS3.out.cast (by rw [if_neg Hc.out]; simp)
  case rest =>
  clear y
  obtain ⟨l4, hl4⟩ : ∃ x, l3 ++ (if 0 < n1 then [32, 111, 110] else []) = x := ⟨_, rfl⟩
  rw [hl4] at hcut
  have hx : (if 0 < n1 then [32, 111, 110] else ([] : List UInt8)).length ≤ 3 := by split <;> simp
  have hn4 : l4.length ≤ l3.length + 3 := by rw [← hl4, List.length_append]; omega
  have HS4 := Lib.hid hcut
  have hR4 := HR3.out
  rw [hl4] at hR4
  have HR4 := Lib.hid hR4
  clear hcut HS3 HR3 hR4 hl4 hx
  have y := HS4.out.op.x2
  go_wp2_with fail
  go_loopg [38] n1 (fun kk sx wx => ∃ i : Nat, sx = .int .i64 (i : Int) ∧ i ≤ n1 ∧ n1 - i = kk ∧ WoS w wx b w.heap.size (l4 ++ (ctl.take i).flatMap numL) (kn : Int) k a1 n1 c1 q bt a2 n2 c2 wd uK uQ uC uB)
  case atStart => exact ⟨0, rfl, by omega, by omega, HS4.out.cast (by simp)⟩
  case round =>
  obtain ⟨i, rfl, hi1, hk, hs⟩ := hrel
  clear HS4 y
  by_cases hin : i < n1
  · have h2 : (i : Int) < (n1 : Int) := by omega
    have h0 : (0 : Int) ≤ (i : Int) := by omega
    have hE2 : Ext W0 wr := hs.wr.ext HE.out hW0
    obtain ⟨b', o', rfl, hbl, hcell⟩ := (HL.out.i1.ext hE2).at (by omega)
    have hci := hcell i (by omega)
    have hil : i < ctl.length := by rw [Hl1.out]; omega
    have hfs := flat_snoc numL ctl i hil
    have hm := Hctl.out _ (getD_mem' hil)
    obtain ⟨x, hx⟩ : ∃ x, ctl.getD i 0 = x := ⟨_, rfl⟩
    rw [hx] at hci hfs hm
    have hlf := flat_len numL 3 (ctl.take i) (fun y hy => (fun h => numL_len h.2) (Hctl.out y (List.mem_of_mem_take hy)))
    have htk : (ctl.take i).length ≤ n1 := by rw [List.length_take, Hl1.out]; omega
    have Hfs := Lib.hid hfs; have Hs := Lib.hid hs
    have HC := Lib.hid (writeNumber_any b (l4 ++ (ctl.take i).flatMap numL) x wr hs.bl hm.1 hm.2 (by rw [List.length_append]; omega))
    clear hx hfs hs hcell hE2 hlf htk
    go_wp2_with fail
    refine HC.out.mono ?_
    rintro e w2 ⟨rfl, h2', hW2⟩
    have H2 := Lib.hid (Hs.out.step hbw h2' hW2)
    clear h2' hW2 HC
    go_wp2_with fail
    go_roundg (n1 - (i + 1))
    case measure => omega
    case rel => exact ⟨i + 1, by go_num, by omega, rfl, H2.out.cast (by rw [Hfs.out, List.append_assoc])⟩
  have hin2 : ¬ (i : Int) < (n1 : Int) := by omega
  rw [List.take_of_length_le (by rw [Hl1.out]; omega)] at hs
  clear hin hi1 hk
  have hcut := hs
  clear hs
  obtain ⟨l5, hl5⟩ : ∃ x, l4 ++ ctl.flatMap numL = x := ⟨_, rfl⟩
  rw [hl5] at hcut
  have hx : (ctl.flatMap numL).length ≤ 3 * ctl.length := flat_len numL 3 ctl (fun y hy => (fun h => numL_len h.2) (Hctl.out y hy))
  have hn5 : l5.length ≤ l4.length + 3 * ctl.length := by rw [← hl5, List.length_append]; omega
  have HS5 := Lib.hid hcut
  have hR5 := HR4.out
  rw [hl5] at hR5
  have HR5 := Lib.hid hR5
  clear hcut HR4 hR5 hl5 hx
  have z := HS5.out.s4; have y := HS5.out.op.x4
  go_upto_if 47 with fail
  go_cut [] from 9 to 70 (fun wx => WoS w wx b w.heap.size (l5 ++ (if uB = true then [32, 116, 111] ++ numL bt else [])) (kn : Int) k a1 n1 c1 q bt a2 n2 c2 wd uK uQ uC uB)
  case first =>
    cases uB
    · go_wp2_with fail
      go_meet
      exact HS5.out.cast (by simp)
    · go_wp2_with fail
      refine (wstr b l5 ⟨#[32, 116, 111]⟩ _ HS5.out.bl (by simp [ByteArray.size]; omega)).mono ?_
      rintro e w2 ⟨rfl, h2, hW2⟩
      have H2 := Lib.hid (HS5.out.step hbw h2 hW2)
      have y2 := H2.out.op.x4
      clear h2 hW2 z y HS5
      go_wp2_with fail
      refine (writeNumber_any b (l5 ++ [32, 116, 111]) bt _ H2.out.bl fbt.1 fbt.2 (by simp; omega)).mono ?_
      rintro e w3 ⟨rfl, h3, hW3⟩
      have H3 := Lib.hid (H2.out.step hbw h3 hW3)
      clear h3 hW3 H2 y2
      go_wp2_with fail
      go_meet
      exact H3.out.cast (by simp)
  case rest =>
  clear z y
  obtain ⟨l6, hl6⟩ : ∃ x, l5 ++ (if uB = true then [32, 116, 111] ++ numL bt else []) = x := ⟨_, rfl⟩
  rw [hl6] at hcut
  have hx : (if uB = true then [32, 116, 111] ++ numL bt else []).length ≤ 6 := by split; have := numL_len fbt.2; simp; omega; simp
  have hn6 : l6.length ≤ l5.length + 6 := by rw [← hl6, List.length_append]; omega
  have HS6 := Lib.hid hcut
  have hR6 := HR5.out
  rw [hl6] at hR6
  have HR6 := Lib.hid hR6
  clear hcut HS5 HR5 hR6 hl6 hx
  rw [Hl2.out] at HR6
  have y := HS6.out.op.x5
  go_upto_if 57 with fail
  go_cut [] from 9 to 70 (fun wx => WoS w wx b w.heap.size (l6 ++ (if 0 < n2 then [32, 105, 102] else [])) (kn : Int) k a1 n1 c1 q bt a2 n2 c2 wd uK uQ uC uB)
  case first =>
    by_cases hc : 0 < n2
    · have q1 : (0 : Int) < (n2 : Int) := by omega
      have q2 : decide ((0 : Int) < (n2 : Int)) = true := by simp; omega
      have Hc := Lib.hid hc
      clear hc
      go_wp2_with fail
      refine (wstr b l6 ⟨#[32, 105, 102]⟩ _ HS6.out.bl (by simp [ByteArray.size]; omega)).mono ?_
      rintro e w2 ⟨rfl, h2, hW2⟩
      have H2 := Lib.hid (HS6.out.step hbw h2 hW2)
      clear h2 hW2 y HS6
      go_wp2_with fail
      go_meet
      exact H2.out.cast (by rw [if_pos Hc.out])
    · have q1 : ¬ (0 : Int) < (n2 : Int) := by omega
      have q2 : decide ((0 : Int) < (n2 : Int)) = false := by simp; omega
      have Hc := Lib.hid hc
      clear hc
      go_wp2_with fail
      go_meet
      exact HS6.out.cast (by rw [if_neg Hc.out]; simp)
  case rest =>
  clear y
  obtain ⟨l7, hl7⟩ : ∃ x, l6 ++ (if 0 < n2 then [32, 105, 102] else []) = x := ⟨_, rfl⟩
  rw [hl7] at hcut
  have hx : (if 0 < n2 then [32, 105, 102] else ([] : List UInt8)).length ≤ 3 := by split <;> simp
  have hn7 : l7.length ≤ l6.length + 3 := by rw [← hl7, List.length_append]; omega
  have HS7 := Lib.hid hcut
  have hR7 := HR6.out
  rw [hl7] at hR7
  have HR7 := Lib.hid hR7
  clear hcut HS6 HR6 hR7 hl7 hx
  have y := HS7.out.op.x5
  go_wp2_with fail
  go_loopg [63] n2 (fun kk sx wx => ∃ i : Nat, sx = .int .i64 (i : Int) ∧ i ≤ n2 ∧ n2 - i = kk ∧ WoS w wx b w.heap.size (l7 ++ (cnd.take i).flatMap cndL) (kn : Int) k a1 n1 c1 q bt a2 n2 c2 wd uK uQ uC uB)
  case atStart => exact ⟨0, rfl, by omega, by omega, HS7.out.cast (by simp)⟩
  case round =>
  obtain ⟨i, rfl, hi1, hk, hs⟩ := hrel
  clear HS7 y
  by_cases hin : i < n2
  · have h2 : (i : Int) < (n2 : Int) := by omega
    have h0 : (0 : Int) ≤ (i : Int) := by omega
    have hE2 : Ext W0 wr := hs.wr.ext HE.out hW0
    obtain ⟨b', o', rfl, hbl, hcell⟩ := (HL.out.i2.ext hE2).at (by omega)
    have hci := hcell i (by omega)
    have hil : i < cnd.length := by rw [Hl2.out]; omega
    have hfs := flat_snoc cndL cnd i hil
    have hm := Hcnd.out _ (getD_mem' hil)
    obtain ⟨x, hx⟩ : ∃ x, cnd.getD i 0 = x := ⟨_, rfl⟩
    rw [hx] at hci hfs hm
    have hlf := flat_len cndL 4 (cnd.take i) (fun y hy => (fun h => cndL_len h.2) (Hcnd.out y (List.mem_of_mem_take hy)))
    have htk : (cnd.take i).length ≤ n2 := by rw [List.length_take, Hl2.out]; omega
    have Hfs := Lib.hid hfs; have Hs := Lib.hid hs
    have HC := Lib.hid (writeCondition_any b (l7 ++ (cnd.take i).flatMap cndL) x wr hs.bl hm.1 hm.2 (by rw [List.length_append]; omega))
    clear hx hfs hs hcell hE2 hlf htk
    go_wp2_with fail
    refine HC.out.mono ?_
    rintro e w2 ⟨rfl, h2', hW2⟩
    have H2 := Lib.hid (Hs.out.step hbw h2' hW2)
    clear h2' hW2 HC
    go_wp2_with fail
    go_roundg (n2 - (i + 1))
    case measure => omega
    case rel => exact ⟨i + 1, by go_num, by omega, rfl, H2.out.cast (by rw [Hfs.out, List.append_assoc])⟩
  have hin2 : ¬ (i : Int) < (n2 : Int) := by omega
  rw [List.take_of_length_le (by rw [Hl2.out]; omega)] at hs
  clear hin hi1 hk
  rw [HR7.out] at hs
  have Hs := Lib.hid hs
  clear hs
  go_wp2_with fail
  go_end0
  exact ⟨rfl, Hs.out.bl, Hs.out.wr⟩

end Go.Proofs.YtapolidgocfbjaaDoor
namespace Go.Proofs.YtapolidgocfbjaaDoor
open Go.RowKit

def prnAll (l : List Gop) : List UInt8 := l.flatMap (fun o => prnOp o ++ [10])
theorem prnAll_snoc (l : List Gop) (o : Gop) : prnAll (l ++ [o]) = prnAll l ++ prnOp o ++ [10] := by simp [prnAll]
theorem prnOp_len {o : Gop} (h : PrFit o) : (prnOp o).length ≤ 157 := by
  have h7 : (wordOf o.kind.toNat).data.toList.length ≤ 7 := by
    have := h.kd
    have : o.kind.toNat = 1 ∨ o.kind.toNat = 2 ∨ o.kind.toNat = 3 ∨ o.kind.toNat = 4 ∨ o.kind.toNat = 5 ∨ o.kind.toNat = 6 := by omega
    rcases this with e | e | e | e | e | e <;> rw [e] <;> decide
  have h1 : (if usesK o.kind then numL o.k else []).length ≤ 3 := by split; exact numL_len h.k.2; simp
  have h2 : (if usesQ o.kind then numL o.q else []).length ≤ 3 := by split; exact numL_len h.q.2; simp
  have h3 : (if 0 < o.ctl.length then [32, 111, 110] else ([] : List UInt8)).length ≤ 3 := by split <;> simp
  have h4 := flat_len numL 3 o.ctl (fun x hx => numL_len (h.ctl x hx).2)
  have h5 : (if usesB o.kind then [32, 116, 111] ++ numL o.bit else []).length ≤ 6 := by split; have := numL_len h.bit.2; simp; omega; simp
  have h6 : (if 0 < o.cnd.length then [32, 105, 102] else ([] : List UInt8)).length ≤ 3 := by split <;> simp
  have h8 := flat_len cndL 4 o.cnd (fun x hx => cndL_len (h.cnd x hx).2)
  have := h.few; have := h.cfew
  unfold prnOp
  simp only [List.length_append]
  omega
theorem prnAll_len : ∀ (l : List Gop), (∀ o ∈ l, PrFit o) → (prnAll l).length ≤ 158 * l.length := by
  intro l
  induction l with
  | nil => intro _; simp [prnAll]
  | cons a r ih =>
    intro h
    have h1 := prnOp_len (h a (by simp))
    have h2 := ih (fun x hx => h x (by simp [hx]))
    unfold prnAll at h2 ⊢
    rw [List.flatMap_cons, List.length_append, List.length_append, List.length_cons]
    simp only [List.length_cons, List.length_nil] at *
    omega
theorem prFit_of_code {o : Gop} {n b : Int} (hn : n ≤ 12) (hb0 : 0 ≤ b) (hb : b ≤ 12) (h : opCode o n b = 0) : PrFit o := by
  obtain ⟨f1, f2, f3, f4⟩ := fit_of_code hn hb0 hb h
  have hk : 0 ≤ o.k ∧ o.k < 100 := by
    unfold opCode at h
    split at h
    · omega
    split at h
    · omega
    rename_i hk
    unfold fitsB at hk
    split at hk
    · have : below o.k 16 = true := by simpa using hk
      have := below_iff.1 this; omega
    · have : o.k = 0 := by simpa using hk
      omega
  have hq : 0 ≤ o.q := by
    unfold opCode at h
    split at h
    · omega
    split at h
    · omega
    split at h
    · omega
    rename_i hk
    unfold fitsB at hk
    split at hk
    · have : below o.q n = true := by simpa using hk
      have := below_iff.1 this; omega
    · have : o.q = 0 := by simpa using hk
      omega
  have := f1.bit
  exact ⟨f1.kd, hk, ⟨hq, by have := f2.2.1; omega⟩, ⟨this.1, by omega⟩, fun c hc => ⟨(f4 c hc).1, by have := (f4 c hc).2; omega⟩, f3, fun t ht => ⟨f2.2.2.2 t ht, f1.cnd t ht⟩, f1.few⟩

/-- What Print answers. -/
def prnV (c : Gci) : ByteArray := if (chk c).1 = 0 then ⟨(prn c).toArray⟩ else ⟨#[]⟩

set_option maxHeartbeats 4000000 in
set_option maxRecDepth 100000 in
theorem Print_any (c : Gci) (ao : Option Addr) (n cp : Nat) (w : World) (h : OpsAt w ao n c.ops) (hn : n ≤ cp) (hcp : cp ≤ 9223372036854775807) (hS : Shp w) :
    Calls Tryd.prog 28 #[.agg #[.int .i64 c.qubits, .int .i64 c.bits, .slice ao n cp]] w fun e w' => e = .returned (.tuple #[.string (prnV c), .agg #[.int .i64 (chk c).1, .int .i64 (chk c).2]]) ∧ Ext w w' := by
  unfold prnV
  obtain ⟨qb, bi, ops⟩ := c
  obtain ⟨f, hf⟩ : ∃ f, chk ⟨qb, bi, ops⟩ = f := ⟨_, rfl⟩
  obtain ⟨f0, f1⟩ := f
  have hz0 : f0 = 0 → f1 = 0 ∧ n ≤ 4096 ∧ (0 ≤ qb ∧ qb < 100) ∧ (0 ≤ bi ∧ bi < 100) ∧ ∀ g ∈ ops, PrFit g := by
    intro h0
    obtain ⟨e1, e0, e3, e4, e5, e6, e2⟩ := chk_zero (c := ⟨qb, bi, ops⟩) (by rw [hf]; exact h0)
    rw [hf] at e1
    have hl := h.1
    simp only at e6 hl e0 e3 e4 e5
    exact ⟨congrArg Prod.snd e1, by omega, by omega, by omega, fun g hg => prFit_of_code e3 e4 e5 (e2 g hg)⟩
  have Hz0 := Lib.hid hz0
  rw [hf]
  have Hf := Lib.hid hf
  obtain ⟨H, hH⟩ : ∃ H, w.heap.size = H := ⟨_, rfl⟩
  obtain ⟨A1, hA1⟩ : ∃ A1, w.alloc (.cells #[.int .i64 qb, .int .i64 bi, .slice ao n cp] 24) = A1 := ⟨_, rfl⟩
  obtain ⟨A3, hA3⟩ : ∃ A3, A1.alloc (.cells #[.int .i64 0, .int .i64 0] 28) = A3 := ⟨_, rfl⟩
  have s1 : A1.heap.size = H + 1 := by rw [← hA1, ← hH]; simp
  have x1 : Ext w A1 := by rw [← hA1]; exact ext_al _ _
  have x3 : Ext A1 A3 := by rw [← hA3]; exact ext_al _ _
  have bC : CiB A3 H qb bi ao n cp := by
    have : CiB A1 H qb bi ao n cp := by rw [← hA1, ← hH]; exact ⟨heap_alloc_new w _⟩
    exact this.ext x3
  have bF : FtB A3 (H + 1) 0 0 := by rw [← hA3, ← s1]; exact ⟨heap_alloc_new A1 _⟩
  have E0 : Ext w A3 := x1.trans x3
  have hA : ( w.alloc (.cells #[.int .i64 qb, .int .i64 bi, .slice ao n cp] 24)).alloc (.cells #[.int .i64 0, .int .i64 0] 28) = A3 := by rw [hA1, hA3]
  have Hl := Lib.hid h.1
  subst hH
  simp only at Hl ⊢
  obtain ⟨V, hV⟩ : ∃ V, (if f0 = 0 then (⟨(prn ⟨qb, bi, ops⟩).toArray⟩ : ByteArray) else ⟨#[]⟩) = V := ⟨_, rfl⟩
  rw [hV]
  have HV := Lib.hid hV
  clear hV
  have HE0 := Lib.hid E0; have HO := Lib.hid (h.ext E0); have HC := Lib.hid bC; have HFt := Lib.hid bF; have HS := Lib.hid (hS.ext E0)
  have m0 := bC.x0; have m1 := bC.x1; have m2 := bC.x2
  rw [← hA] at m0 m1 m2
  have HA := Lib.hid hA
  clear h E0 bC bF hf hz0 hS x1 x3 s1 hA1 hA3 hA
  go_enter Tryd.func28, Tryd.ntmps28
  go_wp2_with fail
  rw [HA.out]
  have HK := Lib.hid (Check_any ⟨qb, bi, ops⟩ ao n cp A3 HO.out hn hcp HS.out)
  rw [Hf.out] at HK
  refine HK.out.mono ?_
  rintro e w1 ⟨rfl, hx1⟩
  have Ef := ext_al w1 (.cells #[.int .i64 f0, .int .i64 f1] 28)
  have bf1 : FtB (w1.alloc (.cells #[.int .i64 f0, .int .i64 f1] 28)) w1.heap.size f0 f1 := ⟨heap_alloc_new w1 _⟩
  have q0 := bf1.x0; have q1 := bf1.x1
  have HX1 := Lib.hid (hx1.trans Ef)
  have bz := HFt.out.ext HX1.out; have x0' := bz.x0; have x1' := bz.x1; have g0' := bz.f 0; have g1' := bz.f 1
  have bc := HC.out.ext HX1.out
  have hsz1 := hx1.size
  have hA3 := HFt.out.lt
  have HbC := Lib.hid bc; have HbF := Lib.hid bz
  clear bz bc m0 m1 m2 hx1 Ef bf1 HK Hf
  by_cases h0 : f0 = 0
  · subst h0
    obtain ⟨rfl, hn4, hqb, hbi, hfit⟩ := Hz0.out rfl
    have HW : Hid (V = ⟨(prn ⟨qb, bi, ops⟩).toArray⟩) := by have := HV.out; rw [if_pos rfl] at this; exact this.symm
    clear HV Hz0 HC HFt HA x0' x1' g0' g1'
    go_wp2_with fail
    have hsW : (w1.alloc (.cells #[.int .i64 0, .int .i64 0] 28)).heap.size = w1.heap.size + 1 := by simp
    generalize w1.alloc (.cells #[.int .i64 0, .int .i64 0] 28) = W1 at *
    have hb0 := bld_new W1
    have hE0 := ext_al W1 (.cells #[.pointer none, .slice none 0 0] 67)
    have HB0 := Lib.hid (show BldT (W1.alloc (.cells #[.pointer none, .slice none 0 0] 67)) W1.heap.size [] from hb0); have HE1 := Lib.hid hE0
    have hsX := HX1.out.size
    clear hb0 hE0 q0 q1
    generalize W1.alloc (.cells #[.pointer none, .slice none 0 0] 67) = V0 at *
    rw [hsW] at HB0
    obtain ⟨b, hb'⟩ : ∃ b, w1.heap.size + 1 = b := ⟨_, rfl⟩
    rw [hb'] at HB0 hsW ⊢
    have hb := hsW
    clear hsW hb'
    refine (wstr b [] ⟨#[113, 117, 98, 105, 116, 115]⟩ V0 HB0.out (by simp [ByteArray.size])).mono ?_
    rintro e V1 ⟨rfl, h2, hW2⟩
    have hE2 := hW2.ext HE1.out (Nat.le_of_eq hb)
    have y0 := (HbC.out.ext hE2).x0; have y1 := (HbC.out.ext hE2).x1; have y2 := (HbC.out.ext hE2).x2
    obtain ⟨l1, hl1⟩ : ∃ x : List UInt8, [] ++ [113, 117, 98, 105, 116, 115] = x := ⟨_, rfl⟩
    have hn1 : l1.length ≤ 8 := by rw [← hl1]; simp
    have h2' : BldT V1 b l1 := by rw [← hl1]; exact h2
    have HB1 := Lib.hid h2'; have HE2 := Lib.hid hE2; have HL1 := Lib.hid hl1
    clear h2 h2' hW2 hE2 hl1 HB0 HE1
    go_wp2_with fail
    clear y0 y1 y2
    refine (writeNumber_any b l1 qb V1 HB1.out hqb.1 hqb.2 (by omega)).mono ?_
    rintro e V2 ⟨rfl, h2, hW2⟩
    have hE2 := hW2.ext HE2.out (Nat.le_of_eq hb)
    have y0 := (HbC.out.ext hE2).x0; have y1 := (HbC.out.ext hE2).x1; have y2 := (HbC.out.ext hE2).x2
    obtain ⟨l2, hl2⟩ : ∃ x : List UInt8, l1 ++ numL qb = x := ⟨_, rfl⟩
    have hn2 : l2.length ≤ 16 := by rw [← hl2, List.length_append]; have := numL_len hqb.2; simp; omega
    have h2' : BldT V2 b l2 := by rw [← hl2]; exact h2
    have HB2 := Lib.hid h2'; have HE3 := Lib.hid hE2; have HL2 := Lib.hid hl2
    clear h2 h2' hW2 hE2 hl2 HB1 HE2
    go_wp2_with fail
    clear y0 y1 y2
    refine (wstr b l2 ⟨#[32, 98, 105, 116, 115]⟩ V2 HB2.out (by simp [ByteArray.size]; omega)).mono ?_
    rintro e V3 ⟨rfl, h2, hW2⟩
    have hE2 := hW2.ext HE3.out (Nat.le_of_eq hb)
    have y0 := (HbC.out.ext hE2).x0; have y1 := (HbC.out.ext hE2).x1; have y2 := (HbC.out.ext hE2).x2
    obtain ⟨l3, hl3⟩ : ∃ x : List UInt8, l2 ++ [32, 98, 105, 116, 115] = x := ⟨_, rfl⟩
    have hn3 : l3.length ≤ 24 := by rw [← hl3, List.length_append]; simp; omega
    have h2' : BldT V3 b l3 := by rw [← hl3]; exact h2
    have HB3 := Lib.hid h2'; have HE4 := Lib.hid hE2; have HL3 := Lib.hid hl3
    clear h2 h2' hW2 hE2 hl3 HB2 HE3
    go_wp2_with fail
    clear y0 y1 y2
    refine (writeNumber_any b l3 bi V3 HB3.out hbi.1 hbi.2 (by omega)).mono ?_
    rintro e V4 ⟨rfl, h2, hW2⟩
    have hE2 := hW2.ext HE4.out (Nat.le_of_eq hb)
    have y0 := (HbC.out.ext hE2).x0; have y1 := (HbC.out.ext hE2).x1; have y2 := (HbC.out.ext hE2).x2
    obtain ⟨l4, hl4⟩ : ∃ x : List UInt8, l3 ++ numL bi = x := ⟨_, rfl⟩
    have hn4 : l4.length ≤ 32 := by rw [← hl4, List.length_append]; have := numL_len hbi.2; simp; omega
    have h2' : BldT V4 b l4 := by rw [← hl4]; exact h2
    have HB4 := Lib.hid h2'; have HE5 := Lib.hid hE2; have HL4 := Lib.hid hl4
    clear h2 h2' hW2 hE2 hl4 HB3 HE4
    go_wp2_with fail
    clear y0 y1 y2
    refine (wstr b l4 ⟨#[10]⟩ V4 HB4.out (by simp [ByteArray.size]; omega)).mono ?_
    rintro e V5 ⟨rfl, h2, hW2⟩
    have hE2 := hW2.ext HE5.out (Nat.le_of_eq hb)
    have y0 := (HbC.out.ext hE2).x0; have y1 := (HbC.out.ext hE2).x1; have y2 := (HbC.out.ext hE2).x2
    obtain ⟨l5, hl5⟩ : ∃ x : List UInt8, l4 ++ [10] = x := ⟨_, rfl⟩
    have hn5 : l5.length ≤ 40 := by rw [← hl5, List.length_append]; simp; omega
    have h2' : BldT V5 b l5 := by rw [← hl5]; exact h2
    have HB5 := Lib.hid h2'; have HE6 := Lib.hid hE2; have HL5 := Lib.hid hl5
    clear h2 h2' hW2 hE2 hl5 HB4 HE5
    go_wp2_with fail
    clear y0 y1 y2
    have HP : Hid (prn ⟨qb, bi, ops⟩ = l5 ++ prnAll ops) := by
      show prn ⟨qb, bi, ops⟩ = l5 ++ prnAll ops
      rw [← HL5.out, ← HL4.out, ← HL3.out, ← HL2.out, ← HL1.out]
      rfl
    clear HL1 HL2 HL3 HL4 HL5
    have hlenA := prnAll_len ops hfit
    rw [Hl.out] at hlenA
    have Hfit := Lib.hid hfit
    clear hfit
    go_loopg [26] n (fun kk sx wx => ∃ i : Nat, sx = .int .i64 (i : Int) ∧ i ≤ n ∧ n - i = kk ∧ Ext W1 wx ∧ BldT wx b (l5 ++ prnAll (ops.take i)))
    case atStart => exact ⟨0, rfl, by omega, by omega, HE6.out, by simpa [prnAll] using HB5.out⟩
    case round =>
      clear HE6 HB5
      obtain ⟨i, rfl, hi1, hk, hE, hB⟩ := hrel
      by_cases hin : i = n
      · have h2 : ¬ (i : Int) < (n : Int) := by omega
        rw [List.take_of_length_le (by rw [Hl.out]; omega), ← HP.out] at hB
        have hbl := hB.lt
        have HC := Lib.hid (Tryd.Builder_String_any_k b b _ wr hB (by omega))
        have HEw := Lib.hid hE
        clear hE hB
        go_wp2_with fail
        refine HC.out.mono ?_
        rintro e w5 ⟨rfl, h5, hb5, ho5⟩
        have hE5 : Ext W1 w5 := Wrt.ext ⟨hb5, ho5⟩ HEw.out (Nat.le_of_eq hb)
        have bz := HbF.out.ext hE5; have x0' := bz.x0; have x1' := bz.x1; have g0' := bz.f 0; have g1' := bz.f 1
        have HE5 := Lib.hid ((HE0.out.trans HX1.out).trans hE5)
        clear h5 hb5 ho5 hE5 bz HC HEw
        go_wp2_with fail
        refine bodyPost_ret (v := .tuple #[.string ⟨(prn ⟨qb, bi, ops⟩).toArray⟩, .agg #[.int .i64 0, .int .i64 0]]) (by simp [results, Tryd.results28, go_sem, x0', x1']) rfl ⟨by rw [HW.out], ?_⟩
        exact cput (cput HE5.out (by omega) _) (by omega) _
      · have h2 : (i : Int) < (n : Int) := by omega
        have h0 : (0 : Int) ≤ (i : Int) := by omega
        obtain ⟨b', o', rfl⟩ := HO.out.some_of (by omega)
        obtain ⟨g, hg⟩ : ∃ g, ops[i]? = some g := ⟨_, List.getElem?_eq_getElem (by rw [Hl.out]; omega)⟩
        obtain ⟨a1, n1, c1, a2, n2, c2, e0, e1, e2, e3, e4, e5, hL⟩ := ((HO.out.ext HX1.out).ext hE).at i g hg
        have hpf := Hfit.out g (List.mem_of_getElem? hg)
        have hpl := prnOp_len hpf
        have hst : ops.take (i + 1) = ops.take i ++ [g] := by rw [List.take_add_one, hg]; rfl
        have Hst : Hid (l5 ++ prnAll (ops.take (i + 1)) = l5 ++ prnAll (ops.take i) ++ prnOp g ++ [10]) := by
          show _ = _
          rw [hst, prnAll_snoc]; simp
        have hla := prnAll_len (ops.take i) (fun o ho => Hfit.out o (List.mem_of_mem_take ho))
        have hlt : (ops.take i).length ≤ n := by rw [List.length_take, Hl.out]; omega
        obtain ⟨a1', n1', c1', a2', n2', c2', _, _, d2, _, _, d5, hL'⟩ := (HO.out.ext HX1.out).at i g hg
        have Ea := ext_al wr (.cells #[.int .i64 g.kind, .int .i64 g.k, .slice a1 n1 c1, .int .i64 g.q, .int .i64 g.bit, .slice a2 n2 c2] 43)
        have bO := opbx_new wr g.kind g.k a1 n1 c1 g.q g.bit a2 n2 c2
        have k2 := (cell_ext d2 hE).symm.trans e2
        have k5 := (cell_ext d5 hE).symm.trans e5
        simp only [Option.some.injEq, Value.slice.injEq] at k2 k5
        obtain ⟨rfl, rfl, rfl⟩ := k2
        obtain ⟨rfl, rfl, rfl⟩ := k5
        obtain ⟨lx, hlx⟩ : ∃ x, l5 ++ prnAll (ops.take i) = x := ⟨_, rfl⟩
        have hlxn : lx.length ≤ 40 + 158 * n := by
          rw [← hlx, List.length_append]
          have : 158 * (ops.take i).length ≤ 158 * n := Nat.mul_le_mul_left _ hlt
          omega
        rw [hlx] at hB Hst
        have HC := Lib.hid (writeOp_any g a1' n1' c1' a2' n2' c2' b lx W1 (wr.alloc (.cells #[.int .i64 g.kind, .int .i64 g.k, .slice a1' n1' c1', .int .i64 g.q, .int .i64 g.bit, .slice a2' n2' c2'] 43)) (hE.trans Ea) (Nat.le_of_eq hb) hL' (HS.out.ext HX1.out) hpf (hB.alloc _) (by omega))
        have HEa := Lib.hid (hE.trans Ea)
        obtain ⟨kd, kk', ctl, qq, bb, cnd⟩ := g
        simp only at e0 e1 e2 e3 e4 e5 bO HC HEa
        have p0 := bO.x0; have p1 := bO.x1; have p2 := bO.x2; have p3 := bO.x3; have p4 := bO.x4; have p5 := bO.x5
        obtain ⟨ly, hly⟩ : ∃ x, lx ++ prnOp ⟨kd, kk', ctl, qq, bb, cnd⟩ = x := ⟨_, rfl⟩
        have hlyn : ly.length ≤ 40 + 158 * n + 157 := by rw [← hly, List.length_append]; omega
        rw [hly] at HC Hst
        clear hg hL hL' hpf hpl hst hla hlt d2 d5 Ea bO hlx hly hE hB
        go_wp2_with fail
        generalize wr.alloc (.cells #[.int .i64 kd, .int .i64 kk', .slice a1' n1' c1', .int .i64 qq, .int .i64 bb, .slice a2' n2' c2'] 43) = w3 at *
        clear e0 e1 e2 e3 e4 e5 p0 p1 p2 p3 p4 p5
        refine HC.out.mono ?_
        rintro e w4 ⟨rfl, h4, hW4⟩
        have H4 := Lib.hid h4; have HE4 := Lib.hid (hW4.ext HEa.out (Nat.le_of_eq hb))
        clear h4 hW4 HC HEa
        go_wp2_with fail
        refine (wstr b ly ⟨#[10]⟩ w4 H4.out (by simp [ByteArray.size]; omega)).mono ?_
        rintro e w5 ⟨rfl, h5, hW5⟩
        have H5 := Lib.hid h5; have HE5 := Lib.hid (hW5.ext HE4.out (Nat.le_of_eq hb))
        clear h5 hW5
        go_wp2_with fail
        go_roundg (n - (i + 1))
        case measure => omega
        case rel => exact ⟨i + 1, by go_num, by omega, rfl, HE5.out, by rw [Hst.out]; exact H5.out⟩
  · have e1 := nt h0
    have HW : Hid (V = ⟨#[]⟩) := by have := HV.out; rw [if_neg h0] at this; exact this.symm
    clear h0
    go_wp2_with fail
    go_region
    go_wp2_with fail
    refine bodyPost_ret (v := .tuple #[.string ⟨#[]⟩, .agg #[.int .i64 f0, .int .i64 f1]]) (by simp [results, Tryd.results28, go_sem, x0', x1']) rfl ⟨by rw [HW.out], ?_⟩
    exact Below.drew (cput (cput (HE0.out.trans HX1.out) (by omega) _) (by omega) _)

end Go.Proofs.YtapolidgocfbjaaDoor
namespace Go.Proofs.YtapolidgocfbjaaDoor
open Go.RowKit

theorem row_put {W : World} {g k : Nat} {cs cs' : Array Value} {t : TypeId} {u : Value} (h : W.heap[g]? = some (.cells cs t (0, 0))) (e : cs.setIfInBounds k u = cs') : (W.setCell ⟨g, k, none⟩ u).heap[g]? = some (.cells cs' t (0, 0)) := by
  rw [setCell_eq_setRow W g k _ _ _ _ h, setRow_heap W g _ _ _ _ h, e]
theorem row_far {W : World} {g g' k : Nat} {x : Obj} {u : Value} (h : W.heap[g]? = some x) (hne : g' ≠ g) : (W.setCell ⟨g', k, none⟩ u).heap[g]? = some x := by
  rw [Below.heap_setCell W ⟨g', k, none⟩ u g (fun e => hne e.symm)]; exact h

end Go.Proofs.YtapolidgocfbjaaDoor
namespace Go.Proofs.YtapolidgocfbjaaDoor
open Go.RowKit

theorem stepK_storeI {ops : Array Oper} {o : Oper} {a : Act} {K : Act → World → Prop} {Q : Exit → Act → World → Prop} {E : Prop} {w : World} (hgd : o.guard = none) (hd : o.dst = none) (p x : Operand)
    (ho : o.op = .store 25 p x) (b off : Nat) (a' : Option Addr) (n' c' : Nat) (u : Value) (hp : a.eval p = .pointer (some ⟨b, off, none⟩)) (hx : a.eval x = .slice a' n' c')
    (hcell : w.cell? ⟨b, off, none⟩ = some u) (hfz : w.frozen? ⟨b, off, none⟩ = false) (h : K a (w.setCell ⟨b, off, none⟩ (.slice a' n' c'))) :
    if Region.wanted o (yielded ops a.tmps) = true then Oper.wp Tryd.prog o a w K Q else E := by
  have hw : Region.wanted o (yielded ops a.tmps) = true := by simp [Region.wanted, hgd]
  rw [if_pos hw]
  obtain ⟨od, oo, ot, opp, oa, og⟩ := o
  simp only at ho hd
  subst ho hd
  have HH := Lib.hid h
  clear h
  unfold Oper.wp execOp
  simp only [hp, hx]
  go_simp
  exact HH.out

end Go.Proofs.YtapolidgocfbjaaDoor
namespace Go.Proofs.YtapolidgocfbjaaDoor
open Go.RowKit

set_option maxHeartbeats 4000000 in
set_option maxRecDepth 100000 in
theorem ccopyOp_any (o : Gop) (a1 : Option Addr) (n1 c1 : Nat) (a2 : Option Addr) (n2 c2 : Nat) (w : World) (h : OpL w o a1 n1 c1 a2 n2 c2) (hb1 : n1 * 8 ≤ 140737488355328) (hb2 : n2 * 8 ≤ 140737488355328) :
    Calls Tryd.prog 43 #[.agg #[.int .i64 o.kind, .int .i64 o.k, .slice a1 n1 c1, .int .i64 o.q, .int .i64 o.bit, .slice a2 n2 c2]] w fun e w' => (∃ (a1' : Option Addr) (c1' : Nat) (a2' : Option Addr) (c2' : Nat), e = .returned (.agg #[.int .i64 o.kind, .int .i64 o.k, .slice a1' n1 c1', .int .i64 o.q, .int .i64 o.bit, .slice a2' n2 c2']) ∧ OpO w' o a1' n1 c1' a2' n2 c2') ∧ Ext w w' := by
  obtain ⟨kd, k, ctl, q, bt, cnd⟩ := o
  have E0 := (ext_al w (.cells #[.int .i64 kd, .int .i64 k, .slice a1 n1 c1, .int .i64 q, .int .i64 bt, .slice a2 n2 c2] 43)).trans (ext_al _ (.cells #[.int .i64 0, .int .i64 0, .slice none 0 0, .int .i64 0, .int .i64 0, .slice none 0 0] 43))
  have bx := (opbx_new w kd k a1 n1 c1 q bt a2 n2 c2).ext (ext_al _ (.cells #[.int .i64 0, .int .i64 0, .slice none 0 0, .int .i64 0, .int .i64 0, .slice none 0 0] 43))
  have br := opbx_new (w.alloc (.cells #[.int .i64 kd, .int .i64 k, .slice a1 n1 c1, .int .i64 q, .int .i64 bt, .slice a2 n2 c2] 43)) 0 0 none 0 0 0 0 none 0 0
  rw [show (w.alloc (.cells #[.int .i64 kd, .int .i64 k, .slice a1 n1 c1, .int .i64 q, .int .i64 bt, .slice a2 n2 c2] 43)).heap.size = w.heap.size + 1 from by simp] at br
  have HE0 := Lib.hid E0; have HL := Lib.hid (h.ext E0); have Hbx := Lib.hid bx; have Hbr := Lib.hid br
  simp only
  clear h E0 bx br
  go_enter Tryd.func43, Tryd.ntmps43
  go_upto_region 1 with fail
  generalize (w.alloc (.cells #[.int .i64 kd, .int .i64 k, .slice a1 n1 c1, .int .i64 q, .int .i64 bt, .slice a2 n2 c2] 43)).alloc (.cells #[.int .i64 0, .int .i64 0, .slice none 0 0, .int .i64 0, .int .i64 0, .slice none 0 0] 43) = W0 at *
  have hd0 : Ext W0 W0.drew := Below.drew (Ext.refl _)
  have HC1 := Lib.hid (fun wx (hx : Ext W0 wx) => copyList_any a1 n1 c1 ctl wx (HL.out.i1.ext hx) hb1)
  have HC2 := Lib.hid (fun wx (hx : Ext W0 wx) => copyList_any a2 n2 c2 cnd wx (HL.out.i2.ext hx) hb2)
  have v2 := Hbx.out.x2; have v5 := Hbx.out.x5
  refine wp_region_K 7 (fun w' => w'.cell? ⟨w.heap.size, 2, none⟩ = some (.slice a1 n1 c1) ∧ w'.cell? ⟨w.heap.size, 5, none⟩ = some (.slice a2 n2 c2)) (by kernel_rfl) ?_
  show anyK _ _ _ _ _ _ 10 #[false, false, false, false, false, false, false, false, false, false] _ _
  have hHeld : W0.drew.cell? ⟨w.heap.size, 2, none⟩ = some (.slice a1 n1 c1) ∧ W0.drew.cell? ⟨w.heap.size, 5, none⟩ = some (.slice a2 n2 c2) := ⟨v2, v5⟩
  refine anyK_take (i := 0) (v := ?_) rfl (by kernel_rfl) (by kernel_rfl) (by kernel_rfl) (N := 10) (by kernel_rfl) (by kernel_rfl) (by kernel_rfl) (fun _ _ _ h => h) (Or.inl ⟨by rfl, ?_⟩) hHeld ?_
  rotate_left 1
  · intro w hSw
    go_simp
    try with_reducible rfl
  show anyK _ _ _ _ _ _ _ _ (Act.put _ (some 3) _) _
  simp only [Act.put, List.setIfInBounds_toArray, List.set_cons_zero, List.set_cons_succ]
  refine anyK_take (i := 1) (v := ?_) rfl (by kernel_rfl) (by kernel_rfl) (by kernel_rfl) (N := 10) (by kernel_rfl) (by kernel_rfl) (by kernel_rfl) (fun _ _ _ h => h) (Or.inl ⟨by rfl, ?_⟩) hHeld ?_
  rotate_left 1
  · intro w hSw
    go_simp
    try with_reducible rfl
  show anyK _ _ _ _ _ _ _ _ (Act.put _ (some 4) _) _
  simp only [Act.put, List.setIfInBounds_toArray, List.set_cons_zero, List.set_cons_succ]
  refine anyK_take (i := 3) (v := ?_) rfl (by kernel_rfl) (by kernel_rfl) (by kernel_rfl) (N := 10) (by kernel_rfl) (by kernel_rfl) (by kernel_rfl) (fun _ _ _ h => h) (Or.inl ⟨by rfl, ?_⟩) hHeld ?_
  rotate_left 1
  · intro w hSw
    go_simp
    try with_reducible rfl
  show anyK _ _ _ _ _ _ _ _ (Act.put _ (some 6) _) _
  simp only [Act.put, List.setIfInBounds_toArray, List.set_cons_zero, List.set_cons_succ]
  refine anyK_take (i := 4) (v := ?_) rfl (by kernel_rfl) (by kernel_rfl) (by kernel_rfl) (N := 10) (by kernel_rfl) (by kernel_rfl) (by kernel_rfl) (fun _ _ _ h => h) (Or.inl ⟨by rfl, ?_⟩) hHeld ?_
  rotate_left 1
  · intro w hSw
    go_simp
    try with_reducible rfl
  show anyK _ _ _ _ _ _ _ _ (Act.put _ (some 7) _) _
  simp only [Act.put, List.setIfInBounds_toArray, List.set_cons_zero, List.set_cons_succ]
  clear hHeld
  refine anyK_one (i := 2) (by kernel_rfl) rfl (fun Kk hKk => ?_)
  go_simp
  (go_at_call 52; refine (HC1.out _ hd0).mono ?_; rintro e w4 ⟨v', rfl, hown1, hx4⟩)
  obtain ⟨a3, c3, rfl, l3, m3, I3, T3⟩ := ints_of_own hown1
  have hx4' := hd0.trans hx4
  have b4 := Hbx.out.ext hx4'
  have x2 := b4.x2; have x5 := b4.x5
  go_wp2_with fail
  refine hKk.out _ _ (fun _ => ⟨x2, x5⟩) ?_
  clear hKk Kk
  simp only [List.setIfInBounds_toArray, List.set_cons_zero, List.set_cons_succ]
  have hHeld : w4.cell? ⟨w.heap.size, 2, none⟩ = some (.slice a1 n1 c1) ∧ w4.cell? ⟨w.heap.size, 5, none⟩ = some (.slice a2 n2 c2) := ⟨x2, x5⟩
  refine anyK_take (i := 6) (v := ?_) rfl (by kernel_rfl) (by kernel_rfl) (by kernel_rfl) (N := 10) (by kernel_rfl) (by kernel_rfl) (by kernel_rfl) (fun _ _ _ h => h) (Or.inl ⟨by rfl, ?_⟩) hHeld ?_
  rotate_left 1
  · intro w hSw
    go_simp
    try with_reducible rfl
  show anyK _ _ _ _ _ _ _ _ (Act.put _ (some 9) _) _
  simp only [Act.put, List.setIfInBounds_toArray, List.set_cons_zero, List.set_cons_succ]
  clear hHeld
  refine anyK_one (i := 5) (by kernel_rfl) rfl (fun Kk hKk => ?_)
  go_simp
  (have _ := hx4; go_at_call 52; refine (HC2.out _ hx4').mono ?_; rintro e w5 ⟨v'', rfl, hown2, hx5⟩)
  obtain ⟨a5, c5, rfl, l5, m5, I5, T5⟩ := ints_of_own hown2
  have hx5' := hx4'.trans hx5
  have b5 := Hbx.out.ext hx5'
  have y2 := b5.x2; have y5 := b5.x5; have z2 := b5.f 2
  go_wp2_with fail
  refine hKk.out _ _ (fun _ => ⟨y2, y5⟩) ?_
  clear hKk Kk
  simp only [List.setIfInBounds_toArray, List.set_cons_zero, List.set_cons_succ]
  refine anyK_one (i := 7) (by kernel_rfl) rfl (fun Kk hKk => ?_)
  refine stepK_storeI rfl rfl _ _ rfl w.heap.size 2 a3 n1 c3 (.slice a1 n1 c1) rfl rfl y2 z2 ?_
  refine hKk.out _ _ (fun h => Bool.noConfusion (show true = false from h)) ?_
  clear hKk Kk
  simp only [List.setIfInBounds_toArray, List.set_cons_zero, List.set_cons_succ]
  have b6 := b5.set2 a3 n1 c3
  have hk1 := only_ints b5.row (by decide) (only1 w5 w.heap.size 2 (.slice a3 n1 c3))
  have I6 := (I3.ext hx5).keep (T3.ext hx5) (by simp) hk1
  have T6 := (T3.ext hx5).keep hk1
  have I7 := I5.keep T5 (by simp) hk1
  have T7 := T5.keep hk1
  have HE6 := Lib.hid (p := Ext w _) (Below.setCell (HE0.out.trans hx5') (p := ⟨w.heap.size, 2, none⟩) (Nat.le_refl _) (.slice a3 n1 c3))
  have br6 : OpBx (w5.setCell ⟨w.heap.size, 2, none⟩ (.slice a3 n1 c3)) (w.heap.size + 1) 0 0 none 0 0 0 0 none 0 0 := ⟨((only1 w5 w.heap.size 2 (.slice a3 n1 c3)).block _ (by omega)).trans (Hbr.out.ext hx5').row⟩
  have u5 := b6.x5; have s5 := b6.f 5
  clear b4 b5 x2 x5 y2 y5 z2 I3 T3 I5 T5 hk1 hx4 hx5 hx4' hx5' hown1 hown2 v2 v5 hd0
  generalize w5.setCell ⟨w.heap.size, 2, none⟩ (.slice a3 n1 c3) = W6 at *
  refine anyK_one (i := 8) (by kernel_rfl) rfl (fun Kk hKk => ?_)
  go_wp2_with fail
  refine hKk.out _ _ (fun h => Bool.noConfusion (show true = false from h)) ?_
  clear hKk Kk
  simp only [List.setIfInBounds_toArray, List.set_cons_zero, List.set_cons_succ]
  refine anyK_one (i := 9) (by kernel_rfl) rfl (fun Kk hKk => ?_)
  refine stepK_storeI rfl rfl _ _ rfl w.heap.size 5 a5 n2 c5 (.slice a2 n2 c2) rfl rfl u5 s5 ?_
  refine hKk.out _ _ (fun h => Bool.noConfusion (show true = false from h)) ?_
  clear hKk Kk
  simp only [List.setIfInBounds_toArray, List.set_cons_zero, List.set_cons_succ]
  refine anyK_done (by kernel_rfl) ?_ _
  have b8 := b6.set5 a5 n2 c5
  have hk3 := only_ints b6.row (by decide) (only1 W6 w.heap.size 5 (.slice a5 n2 c5))
  have I8 := I6.keep T6 (by simp) hk3
  have T8 := T6.keep hk3
  have I9 := I7.keep T7 (by simp) hk3
  have T9 := T7.keep hk3
  have HE8 := Lib.hid (p := Ext w _) (Below.setCell HE6.out (p := ⟨w.heap.size, 5, none⟩) (Nat.le_refl _) (.slice a5 n2 c5))
  have br8 : OpBx (W6.setCell ⟨w.heap.size, 5, none⟩ (.slice a5 n2 c5)) (w.heap.size + 1) 0 0 none 0 0 0 0 none 0 0 := ⟨((only1 W6 w.heap.size 5 (.slice a5 n2 c5)).block _ (by omega)).trans br6.row⟩
  clear b6 br6 I6 T6 I7 T7 hk3 u5 s5 HE6
  generalize W6.setCell ⟨w.heap.size, 5, none⟩ (.slice a5 n2 c5) = W8 at *
  have hk4 := only_ints br8.row (by decide) (onl6 W8 (w.heap.size + 1) (.int .i64 kd) (.int .i64 k) (.slice a3 n1 c3) (.int .i64 q) (.int .i64 bt) (.slice a5 n2 c5))
  have HI8 := Lib.hid (I8.keep T8 (by simp) hk4); have HT8 := Lib.hid (T8.keep hk4); have HI9 := Lib.hid (I9.keep T9 (by simp) hk4); have HT9 := Lib.hid (T9.keep hk4)
  have p0 := b8.x0; have p1 := b8.x1; have p2 := b8.x2; have p3 := b8.x3; have p4 := b8.x4; have p5 := b8.x5
  have r0 := br8.x0; have r1 := br8.x1; have r2 := br8.x2; have r3 := br8.x3; have r4 := br8.x4; have r5 := br8.x5
  have g0 := br8.f 0; have g1 := br8.f 1; have g2 := br8.f 2; have g3 := br8.f 3; have g4 := br8.f 4; have g5 := br8.f 5
  clear b8 br8 I8 T8 I9 T9 hk4
  go_wp2_with fail
  exact bodyPost_ret (v := .agg #[.int .i64 kd, .int .i64 k, .slice a3 n1 c3, .int .i64 q, .int .i64 bt, .slice a5 n2 c5]) (by simp [results, Tryd.results43, go_sem, r0, r1, r2, r3, r4, r5]) rfl ⟨⟨a3, c3, a5, c5, rfl, ⟨⟨HI8.out, l3, by unfold maxLen at m3; omega, HI9.out, l5, by unfold maxLen at m5; omega⟩, HT8.out, HT9.out⟩⟩, put6 HE8.out (by omega) _ _ _ _ _ _⟩

end Go.Proofs.YtapolidgocfbjaaDoor
namespace Go.Proofs.YtapolidgocfbjaaDoor
open Go.RowKit

theorem CiB.set0 {W : World} {g : Nat} {qb bi : Int} {ao : Option Addr} {n cp : Nat} (h : CiB W g qb bi ao n cp) (v : Int) : CiB (W.setCell ⟨g, 0, none⟩ (.int .i64 v)) g v bi ao n cp := ⟨row_put h.row rfl⟩
theorem CiB.set1 {W : World} {g : Nat} {qb bi : Int} {ao : Option Addr} {n cp : Nat} (h : CiB W g qb bi ao n cp) (v : Int) : CiB (W.setCell ⟨g, 1, none⟩ (.int .i64 v)) g qb v ao n cp := ⟨row_put h.row rfl⟩
end Go.Proofs.YtapolidgocfbjaaDoor
namespace Go.Proofs.YtapolidgocfbjaaDoor
open Go.RowKit

set_option maxHeartbeats 8000000 in
set_option maxRecDepth 100000 in
theorem with_any (qb bi : Int) (ao0 : Option Addr) (n0 cp0 : Nat) (ao : Option Addr) (n cp : Nat) (ops : List Gop) (w : World) (h : OpsAt w ao n ops) (hn : n ≤ 10000) (hb : ∀ g ∈ ops, g.ctl.length ≤ 1000 ∧ g.cnd.length ≤ 1000) :
    Calls Tryd.prog 24 #[.agg #[.int .i64 qb, .int .i64 bi, .slice ao0 n0 cp0], .slice ao n cp] w fun e w' => (∃ (a' : Option Addr) (c' : Nat), e = .returned (.agg #[.int .i64 qb, .int .i64 bi, .slice a' n c']) ∧ n ≤ c' ∧ c' ≤ maxLen ∧ OpsO w' (w.heap.size + 3) (.slice a' n c') ops) ∧ Ext w w' := by
  obtain ⟨i0, hi, hz0, hz1, hz2⟩ := info_parts op_info
  have Hl := Lib.hid h.1
  obtain ⟨H, hH⟩ : ∃ H, w.heap.size = H := ⟨_, rfl⟩
  obtain ⟨A1, hA1⟩ : ∃ A1, w.alloc (.cells #[.int .i64 qb, .int .i64 bi, .slice ao0 n0 cp0] 24) = A1 := ⟨_, rfl⟩
  obtain ⟨A2, hA2⟩ : ∃ A2, A1.alloc (.cells #[.int .i64 0, .int .i64 0, .slice none 0 0] 24) = A2 := ⟨_, rfl⟩
  obtain ⟨A3, hA3⟩ : ∃ A3, A2.alloc (.cells #[.int .i64 qb, .int .i64 bi, .slice none 0 0] 24) = A3 := ⟨_, rfl⟩
  have hA2' : (w.alloc (.cells #[.int .i64 qb, .int .i64 bi, .slice ao0 n0 cp0] 24)).alloc (.cells #[.int .i64 0, .int .i64 0, .slice none 0 0] 24) = A2 := by rw [hA1, hA2]
  have s1 : A1.heap.size = H + 1 := by rw [← hA1, ← hH]; simp
  have s2 : A2.heap.size = H + 2 := by rw [← hA2]; simp; omega
  have s3 : A3.heap.size = H + 3 := by rw [← hA3]; simp; omega
  have x1 : Ext w A1 := by rw [← hA1]; exact ext_al _ _
  have x2 : Ext A1 A2 := by rw [← hA2]; exact ext_al _ _
  have x3 : Ext A2 A3 := by rw [← hA3]; exact ext_al _ _
  have bC : CiB A2 H qb bi ao0 n0 cp0 := by
    have : CiB A1 H qb bi ao0 n0 cp0 := by rw [← hA1, ← hH]; exact ⟨heap_alloc_new w _⟩
    exact this.ext x2
  have bR : CiB A3 (H + 1) 0 0 none 0 0 := by
    have : CiB A2 (H + 1) 0 0 none 0 0 := by rw [← hA2, ← s1]; exact ⟨heap_alloc_new A1 _⟩
    exact this.ext x3
  have bO : CiB A3 (H + 2) qb bi none 0 0 := by rw [← hA3, ← s2]; exact ⟨heap_alloc_new A2 _⟩
  have HhH := Lib.hid hH
  have m0 := bC.x0; have m1 := bC.x1
  have HA := Lib.hid hA2'; have HA3 := Lib.hid hA3; have HE3 := Lib.hid ((x1.trans x2).trans x3); have HbR := Lib.hid bR; have HbO := Lib.hid bO; have Hops := Lib.hid h; have Hb := Lib.hid hb
  have Hs3 := Lib.hid s3; have Hs2 := Lib.hid s2
  rw [← hH] at m0 m1
  rw [← hA2'] at m0 m1
  clear h hb hA1 hA2 hA3 hA2' s1 s2 s3 x1 x2 x3 bC bR bO
  go_enter Tryd.func24, Tryd.ntmps24
  go_wp2_with fail
  rw [HA.out, HA3.out]
  go_loopg [7, 15] n (fun kk s7 s15 wx => ∃ (i : Nat) (av : Option Addr) (cv : Nat), s15 = .int .i64 (i : Int) ∧ i ≤ n ∧ n - i = kk ∧ CiB wx (H + 1) 0 0 none 0 0 ∧ CiB wx (H + 2) qb bi av i cv ∧ OpsO wx (H + 3) (.slice av i cv) (ops.take i) ∧ Ext w wx ∧ H + 3 ≤ wx.heap.size)
  case atStart => exact ⟨0, none, 0, rfl, by omega, by omega, HbR.out, HbO.out, OpsO.nil _ _, HE3.out, by rw [Hs3.out]; exact Nat.le_refl _⟩
  case round =>
    clear HbR HbO HE3 m0 m1
    obtain ⟨i, av, cv, rfl, hin', hk, bR, bO, hown, hX, hbs⟩ := hrel
    by_cases hin : i = n
    · have q1 : ¬ (i : Int) < (n : Int) := by omega
      have q1' : decide ((i : Int) < (n : Int)) = false := df q1
      have htk : ops.take i = ops := List.take_of_length_le (by rw [Hl.out]; omega)
      rw [htk] at hown
      have y0 := bO.x0; have y1 := bO.x1; have y2 := bO.x2
      have r0 := bR.x0; have r1 := bR.x1; have r2 := bR.x2; have g0 := bR.f 0; have g1 := bR.f 1; have g2 := bR.f 2
      have hO3 : Only (H + 1) wr (((wr.setCell ⟨H + 1, 0, none⟩ (.int .i64 qb)).setCell ⟨H + 1, 1, none⟩ (.int .i64 bi)).setCell ⟨H + 1, 2, none⟩ (.slice av i cv)) := (((Only.refl _ _).setCell _ _).setCell _ _).setCell _ _
      have hoF := hown.only bR.row (by decide) hO3 (by simp) (by omega)
      obtain ⟨a9, c9, ev9, k1, k2, _⟩ := hoF.at
      rw [Hl.out] at ev9 k1
      have hav : av = a9 ∧ cv = c9 := by
        injection ev9 with e1 e2 e3
        exact ⟨e1, e3⟩
      obtain ⟨rfl, rfl⟩ := hav
      have zC : CiB (((wr.setCell ⟨H + 1, 0, none⟩ (.int .i64 qb)).setCell ⟨H + 1, 1, none⟩ (.int .i64 bi)).setCell ⟨H + 1, 2, none⟩ (.slice av i cv)) (H + 1) qb bi av i cv := ((bR.set0 qb).set1 bi).set2 av i cv
      have HE := Lib.hid (cput (o := 2) (cput (o := 1) (cput (o := 0) hX (show w.heap.size ≤ H + 1 by omega) (.int .i64 qb)) (show w.heap.size ≤ H + 1 by omega) (.int .i64 bi)) (show w.heap.size ≤ H + 1 by omega) (.slice av i cv))
      have HoF := Lib.hid hoF; have Hk1 := Lib.hid k1; have Hk2 := Lib.hid k2; have Hin := Lib.hid hin; have HzC := Lib.hid zC
      clear hown hO3 hoF ev9 k1 k2 bR bO hX hin htk zC hk hin'
      go_wp2_with fail
      generalize ((wr.setCell ⟨H + 1, 0, none⟩ (.int .i64 qb)).setCell ⟨H + 1, 1, none⟩ (.int .i64 bi)).setCell ⟨H + 1, 2, none⟩ (.slice av i cv) = Wz at *
      have z0 := HzC.out.x0; have z1 := HzC.out.x1; have z2 := HzC.out.x2
      exact bodyPost_ret (v := .agg #[.int .i64 qb, .int .i64 bi, .slice av i cv]) (by simp [results, Tryd.results24, go_sem, z0, z1, z2]) rfl ⟨⟨av, cv, by rw [Hin.out], Hk1.out, Hk2.out, Eq.mp (congrArg (fun v => OpsO _ (H + 3) v ops) (show Value.slice av i cv = Value.slice av n cv by rw [Hin.out])) HoF.out⟩, HE.out⟩
    · have q1 : (i : Int) < (n : Int) := by omega
      have q1' : decide ((i : Int) < (n : Int)) = true := dt q1
      have q0 : (0 : Int) ≤ (i : Int) := by omega
      obtain ⟨gg, hg⟩ : ∃ g, ops[i]? = some g := ⟨_, List.getElem?_eq_getElem (by rw [Hl.out]; omega)⟩
      have hst : ops.take (i + 1) = ops.take i ++ [gg] := by rw [List.take_add_one, hg]; rfl
      obtain ⟨bo, oo, rfl⟩ := (Hops.out.ext hX).some_of (by omega)
      obtain ⟨a1, n1, c1, a2, n2, c2, t0, t1, t2, t3, t4, t5, hLo⟩ := (Hops.out.ext hX).at i gg hg
      obtain ⟨hbl1, hbl2⟩ := Hb.out gg (List.mem_of_getElem? hg)
      obtain ⟨kd, kk', ctl, qq, bb, cnd⟩ := gg
      simp only at t0 t1 t3 t4 hbl1 hbl2
      have hn1 : n1 ≤ 1000 := by rw [← hLo.i1.1]; exact hbl1
      have hn2 : n2 ≤ 1000 := by rw [← hLo.i2.1]; exact hbl2
      have hown' := hown
      obtain ⟨xs0, ho0, _⟩ := hown
      have hnb : ∀ k, (Value.slice av i cv).ownBlock = some k → k < wr.heap.size := fun k hk' => (own_lt ho0 k hk').2
      obtain ⟨U, hU⟩ : ∃ U, wr.alloc (.cells #[.int .i64 kd, .int .i64 kk', .slice a1 n1 c1, .int .i64 qq, .int .i64 bb, .slice a2 n2 c2] 43) = U := ⟨_, rfl⟩
      obtain ⟨Bx, hBx⟩ : ∃ x, wr.heap.size = x := ⟨_, rfl⟩
      have hEU : Ext wr U := by rw [← hU]; exact ext_al _ _
      have bx : OpBx U Bx kd kk' a1 n1 c1 qq bb a2 n2 c2 := by rw [← hU, ← hBx]; exact opbx_new wr kd kk' a1 n1 c1 qq bb a2 n2 c2
      rw [hBx] at hnb
      have HOu := Lib.hid (hown'.ext hEU); have HbR := Lib.hid (bR.ext hEU); have HbO := Lib.hid (bO.ext hEU); have HEU := Lib.hid (hX.trans hEU); have Hbx := Lib.hid bx; have Hnb := Lib.hid hnb
      have HCp := Lib.hid (fun wx (hx : Ext U wx) => ccopyOp_any ⟨kd, kk', ctl, qq, bb, cnd⟩ a1 n1 c1 a2 n2 c2 wx ((hLo.ext hEU).ext hx) (by omega) (by omega))
      simp only at HCp
      have Hst := Lib.hid hst; have HU := Lib.hid hU
      have hbs' : H + 3 ≤ U.heap.size := Nat.le_trans hbs hEU.size
      clear hown' ho0 bR bO hX hEU bx hnb hLo hst hU hg hbl1 hbl2 hbs
      have hbs := hbs'
      clear hbs'
      go_upto_region 5 with fail
      rw [HU.out]
      clear t0 t1 t2 t3 t4 t5
      have v2 := HbO.out.x2
      have e0 := Hbx.out.x0; have e1 := Hbx.out.x1; have e2 := Hbx.out.x2; have e3 := Hbx.out.x3; have e4 := Hbx.out.x4; have e5 := Hbx.out.x5
      have hE0d : Ext U U.drew := Below.drew (Ext.refl _)
      refine wp_region_K 7 (fun w' => w'.cell? ⟨H + 2, 2, none⟩ = some (.slice av i cv) ∧ w'.cell? ⟨Bx, 0, none⟩ = some (.int .i64 kd) ∧ w'.cell? ⟨Bx, 1, none⟩ = some (.int .i64 kk') ∧ w'.cell? ⟨Bx, 2, none⟩ = some (.slice a1 n1 c1) ∧ w'.cell? ⟨Bx, 3, none⟩ = some (.int .i64 qq) ∧ w'.cell? ⟨Bx, 4, none⟩ = some (.int .i64 bb) ∧ w'.cell? ⟨Bx, 5, none⟩ = some (.slice a2 n2 c2)) (by kernel_rfl) ?_
      show anyK _ _ _ _ _ _ 8 #[false, false, false, false, false, false, false, false] _ _
      have hHeld : U.drew.cell? ⟨H + 2, 2, none⟩ = some (.slice av i cv) ∧ U.drew.cell? ⟨Bx, 0, none⟩ = some (.int .i64 kd) ∧ U.drew.cell? ⟨Bx, 1, none⟩ = some (.int .i64 kk') ∧ U.drew.cell? ⟨Bx, 2, none⟩ = some (.slice a1 n1 c1) ∧ U.drew.cell? ⟨Bx, 3, none⟩ = some (.int .i64 qq) ∧ U.drew.cell? ⟨Bx, 4, none⟩ = some (.int .i64 bb) ∧ U.drew.cell? ⟨Bx, 5, none⟩ = some (.slice a2 n2 c2) := ⟨v2, e0, e1, e2, e3, e4, e5⟩
      refine anyK_take (i := 0) (v := ?_) rfl (by kernel_rfl) (by kernel_rfl) (by kernel_rfl) (N := 8) (by kernel_rfl) (by kernel_rfl) (by kernel_rfl) (fun _ _ _ h => h) (Or.inl ⟨by rfl, ?_⟩) hHeld ?_
      rotate_left 1
      · intro w hSw
        go_simp
        try with_reducible rfl
      show anyK _ _ _ _ _ _ _ _ (Act.put _ (some 19) _) _
      simp only [Act.put, List.setIfInBounds_toArray, List.set_cons_zero, List.set_cons_succ]
      refine anyK_take (i := 1) (v := ?_) rfl (by kernel_rfl) (by kernel_rfl) (by kernel_rfl) (N := 8) (by kernel_rfl) (by kernel_rfl) (by kernel_rfl) (fun _ _ _ h => h) (Or.inl ⟨by rfl, ?_⟩) hHeld ?_
      rotate_left 1
      · intro w hSw
        go_simp
        try with_reducible rfl
      show anyK _ _ _ _ _ _ _ _ (Act.put _ (some 20) _) _
      simp only [Act.put, List.setIfInBounds_toArray, List.set_cons_zero, List.set_cons_succ]
      refine anyK_take (i := 2) (v := ?_) rfl (by kernel_rfl) (by kernel_rfl) (by kernel_rfl) (N := 8) (by kernel_rfl) (by kernel_rfl) (by kernel_rfl) (fun _ _ _ h => h) (Or.inl ⟨by rfl, ?_⟩) hHeld ?_
      rotate_left 1
      · intro w hSw
        go_simp
        try with_reducible rfl
      show anyK _ _ _ _ _ _ _ _ (Act.put _ (some 21) _) _
      simp only [Act.put, List.setIfInBounds_toArray, List.set_cons_zero, List.set_cons_succ]
      clear hHeld
      refine anyK_one (i := 3) (by kernel_rfl) rfl (fun Kk hKk => ?_)
      go_simp
      (go_at_call 43; refine (HCp.out _ hE0d).mono ?_; rintro e w4 ⟨⟨a3, c3, a5, c5, rfl, O4⟩, hx4⟩; have he4 : Ext U w4 := hE0d.trans hx4)
      go_wp2_with fail
      refine hKk.out _ _ (fun _ => ⟨cell_ext v2 he4, cell_ext e0 he4, cell_ext e1 he4, cell_ext e2 he4, cell_ext e3 he4, cell_ext e4 he4, cell_ext e5 he4⟩) ?_
      clear hKk Kk
      simp only [List.setIfInBounds_toArray, List.set_cons_zero, List.set_cons_succ]
      have he5 : Ext U (w4.alloc (.cells #[.int .i64 kd, .int .i64 kk', .slice a3 n1 c3, .int .i64 qq, .int .i64 bb, .slice a5 n2 c5] 43)) := he4.trans (ext_al _ _)
      refine anyK_one (i := 4) (by kernel_rfl) rfl (fun Kk hKk => ?_)
      go_wp2_with fail
      refine hKk.out _ _ (fun _ => ⟨cell_ext v2 he5, cell_ext e0 he5, cell_ext e1 he5, cell_ext e2 he5, cell_ext e3 he5, cell_ext e4 he5, cell_ext e5 he5⟩) ?_
      clear hKk Kk
      simp only [List.setIfInBounds_toArray, List.set_cons_zero, List.set_cons_succ]
      obtain ⟨xs, ho, hzx⟩ := (HOu.out.ext he4)
      have ho5 := ho.alloc (.cells #[.int .i64 kd, .int .i64 kk', .slice a3 n1 c3, .int .i64 qq, .int .i64 bb, .slice a5 n2 c5] 43)
      have hli : (ops.take i).length = i := by rw [List.length_take, Hl.out]; omega
      obtain ⟨g, cap, w7, hrun, hown', hgrow', hcase, hglt⟩ := run_append_lies (P := Tryd.prog) (w4.alloc (.cells #[.int .i64 kd, .int .i64 kk', .slice a3 n1 c3, .int .i64 qq, .int .i64 bb, .slice a5 n2 c5] 43)) 22 22 (H + 3) 43 i0 (.agg #[.int .i64 0, .int .i64 0, .slice none 0 0, .int .i64 0, .int .i64 0, .slice none 0 0]) 6 80 Tryd.underlying22 hi hz0 hz1 hz2 rfl (by decide) (.slice av i cv) (ops.take i).length xs ho5 ⟨w4.heap.size, 0, none⟩ 1 1 [.int .i64 kd, .int .i64 kk', .slice a3 n1 c3, .int .i64 qq, .int .i64 bb, .slice a5 n2 c5] rfl (new_op w4 _ _ _ _ _ _ _ _ _ _ _) (one_op _ _ _ _ _ _ _ _ _ _) (by omega) (by rw [hli]; unfold maxLen; omega) (by rw [hli]; omega) (Nat.le_trans hbs he5.size) _ rfl
      rw [hli] at hrun
      refine anyK_one (i := 5) (by kernel_rfl) rfl (fun Kk hKk => ?_)
      refine stepK_append rfl _ _ 22 rfl (.slice av i cv) (.slice (some ⟨w4.heap.size, 0, none⟩) 1 1) _ rfl rfl hrun ?_
      have hkind := PtKind ho5
      have hk7 : ∀ (b' : Nat) (cur : Array Value) (fr : Nat × Nat), (w4.alloc (.cells #[.int .i64 kd, .int .i64 kk', .slice a3 n1 c3, .int .i64 qq, .int .i64 bb, .slice a5 n2 c5] 43)).heap[b']? = some (.cells cur 3 fr) → w7.heap[b']? = (w4.alloc (.cells #[.int .i64 kd, .int .i64 kk', .slice a3 n1 c3, .int .i64 qq, .int .i64 bb, .slice a5 n2 c5] 43)).heap[b']? := fun b' cur fr hb' => by
        refine hgrow'.block b' (Array.getElem?_eq_some_iff.1 hb').1 (fun e => ?_)
        obtain ⟨_, cs, fr', e2⟩ := hkind b' e.symm
        rw [e2] at hb'
        cases hb'
      have O7 := (O4.ext (ext_al _ (.cells #[.int .i64 kd, .int .i64 kk', .slice a3 n1 c3, .int .i64 qq, .int .i64 bb, .slice a5 n2 c5] 43))).keep hgrow'.size hk7
      have own7 := OpsO.snoc hown' ho.1 hzx (fun g a1 n1 c1 a2 n2 c2 h => (h.ext (ext_al _ _)).keep hgrow'.size hk7) O7
      rw [hli] at own7
      clear hli
      have bOut7 : CiB w7 (H + 2) qb bi av i cv := CiB_grown hgrow' hkind (HbO.out.ext he5) (by omega)
      have bRes7 : CiB w7 (H + 1) 0 0 none 0 0 := CiB_grown hgrow' hkind (HbR.out.ext he5) (by omega)
      have bBox7 : OpBx w7 Bx kd kk' a1 n1 c1 qq bb a2 n2 c2 := ⟨(hgrow'.block _ (Hbx.out.ext he5).lt (fun e => by have := Hnb.out _ e.symm; omega)).trans (Hbx.out.ext he5).row⟩
      have x2' := bOut7.x2; have fz2 := bOut7.f 2
      have hHeld : w7.cell? ⟨H + 2, 2, none⟩ = some (.slice av i cv) ∧ w7.cell? ⟨Bx, 0, none⟩ = some (.int .i64 kd) ∧ w7.cell? ⟨Bx, 1, none⟩ = some (.int .i64 kk') ∧ w7.cell? ⟨Bx, 2, none⟩ = some (.slice a1 n1 c1) ∧ w7.cell? ⟨Bx, 3, none⟩ = some (.int .i64 qq) ∧ w7.cell? ⟨Bx, 4, none⟩ = some (.int .i64 bb) ∧ w7.cell? ⟨Bx, 5, none⟩ = some (.slice a2 n2 c2) := ⟨x2', bBox7.x0, bBox7.x1, bBox7.x2, bBox7.x3, bBox7.x4, bBox7.x5⟩
      refine hKk.out _ _ (fun _ => hHeld) ?_
      clear hKk Kk
      show anyK _ _ _ _ _ _ _ _ (Act.put _ (some 24) _) _
      simp only [Act.put, List.setIfInBounds_toArray, List.set_cons_zero, List.set_cons_succ]
      refine anyK_take (i := 6) (v := ?_) rfl (by kernel_rfl) (by kernel_rfl) (by kernel_rfl) (N := 8) (by kernel_rfl) (by kernel_rfl) (by kernel_rfl) (fun _ _ _ h => h) (Or.inl ⟨by rfl, ?_⟩) hHeld ?_
      rotate_left 1
      · intro w hSw
        go_simp
        try with_reducible rfl
      show anyK _ _ _ _ _ _ _ _ (Act.put _ (some 25) _) _
      simp only [Act.put, List.setIfInBounds_toArray, List.set_cons_zero, List.set_cons_succ]
      clear hHeld
      refine anyK_one (i := 7) (by kernel_rfl) rfl (fun Kk hKk => ?_)
      refine stepK_store rfl rfl _ _ rfl (H + 2) 2 (some ⟨g, 0, none⟩) (i + 1) cap (.slice av i cv) rfl rfl x2' fz2 ?_
      refine hKk.out _ _ (fun h => Bool.noConfusion (show true = false from h)) ?_
      clear hKk Kk
      simp only [List.setIfInBounds_toArray, List.set_cons_zero, List.set_cons_succ]
      refine anyK_done (by kernel_rfl) ?_ _
      have hOo := only1 w7 (H + 2) 2 (.slice (some ⟨g, 0, none⟩) (i + 1) cap)
      have Hown8 := Lib.hid (own7.only bOut7.row (by decide) hOo (by simp) (by omega))
      have HbO8 := Lib.hid (bOut7.set2 (some ⟨g, 0, none⟩) (i + 1) cap)
      have HbR8 := Lib.hid (show CiB (w7.setCell ⟨H + 2, 2, none⟩ (.slice (some ⟨g, 0, none⟩) (i + 1) cap)) (H + 1) 0 0 none 0 0 from ⟨(hOo.block _ (by omega)).trans bRes7.row⟩)
      have HE8 := Lib.hid (cput (o := 2) (grown_ext (HEU.out.trans he5) hgrow' (fun k hk => by have := (hkind k hk).1; have := HhH.out; omega)) (show w.heap.size ≤ H + 2 by have := HhH.out; omega) (.slice (some ⟨g, 0, none⟩) (i + 1) cap))
      have Hs8 := Lib.hid (show H + 3 ≤ (w7.setCell ⟨H + 2, 2, none⟩ (.slice (some ⟨g, 0, none⟩) (i + 1) cap)).heap.size by simp; exact Nat.le_trans (Nat.le_trans hbs he5.size) hgrow'.size)
      clear own7 bOut7 bRes7 bBox7 O7 hk7 hkind hgrow' hown' hrun ho5 ho hzx O4 hx4 he4 he5 hE0d v2 e0 e1 e2 e3 e4 e5 x2' fz2 hOo
      generalize w7.setCell ⟨H + 2, 2, none⟩ (.slice (some ⟨g, 0, none⟩) (i + 1) cap) = w8 at *
      go_wp2_with fail
      go_roundg (n - (i + 1))
      case measure => omega
      case rel => exact ⟨i + 1, some ⟨g, 0, none⟩, cap, by go_num, by omega, rfl, HbR8.out, HbO8.out, by rw [Hst.out]; exact Hown8.out, HE8.out, Hs8.out⟩

end Go.Proofs.YtapolidgocfbjaaDoor
namespace Go.Proofs.YtapolidgocfbjaaDoor
open Go.RowKit

/-- Six cells are laid from p on. -/
def set6 (cs : Array Value) (p : Nat) (f : Nat → Value) : Array Value :=
  (((((cs.setIfInBounds p (f 0)).setIfInBounds (p + 1) (f 1)).setIfInBounds (p + 2) (f 2)).setIfInBounds (p + 3) (f 3)).setIfInBounds (p + 4) (f 4)).setIfInBounds (p + 5) (f 5)
theorem set6_size (cs : Array Value) (p : Nat) (f : Nat → Value) : (set6 cs p f).size = cs.size := by simp [set6]
theorem set6_in (cs : Array Value) (p : Nat) (f : Nat → Value) (k : Nat) (hk : k < 6) (hp : p + 6 ≤ cs.size) : (set6 cs p f)[p + k]? = some (f k) := by
  have : k = 0 ∨ k = 1 ∨ k = 2 ∨ k = 3 ∨ k = 4 ∨ k = 5 := by omega
  unfold set6
  rcases this with rfl | rfl | rfl | rfl | rfl | rfl
  all_goals
    simp only [Array.getElem?_setIfInBounds, Array.size_setIfInBounds]
    repeat (first | rw [if_neg (by omega)] | rw [if_pos (by omega)] | rw [if_pos trivial])
theorem set6_out (cs : Array Value) (p : Nat) (f : Nat → Value) (q : Nat) (hq : q < p ∨ p + 6 ≤ q) : (set6 cs p f)[q]? = cs[q]? := by
  unfold set6
  simp only [Array.getElem?_setIfInBounds]
  repeat rw [if_neg (by omega)]

/-- Operations in a block: cs holds them from its begin on. -/
def RowOf (w : World) (cs : Array Value) (ops : List Gop) : Prop :=
  ∀ t g, ops[t]? = some g → ∃ (a1 : Option Addr) (n1 c1 : Nat) (a2 : Option Addr) (n2 c2 : Nat),
    cs[t * 6]? = some (.int .i64 g.kind) ∧ cs[t * 6 + 1]? = some (.int .i64 g.k) ∧ cs[t * 6 + 2]? = some (.slice a1 n1 c1) ∧ cs[t * 6 + 3]? = some (.int .i64 g.q) ∧ cs[t * 6 + 4]? = some (.int .i64 g.bit) ∧ cs[t * 6 + 5]? = some (.slice a2 n2 c2) ∧ OpO w g a1 n1 c1 a2 n2 c2
theorem opsO_open {w : World} {base : Nat} {a : Option Addr} {n c : Nat} {ops : List Gop} (h : OpsO w base (.slice a n c) ops) (hn : 0 < n) :
    ops.length = n ∧ ∃ g cur, a = some ⟨g, 0, none⟩ ∧ base ≤ g ∧ w.heap[g]? = some (.cells cur 43 (0, 0)) ∧ n ≤ c ∧ c ≤ maxLen ∧ cur.size = c * 6 ∧ RowOf w cur ops := by
  obtain ⟨xs, h1, h2⟩ := h
  rcases h1.2 with ⟨e, h0⟩ | ⟨g, cap, cur, hv, hb, hg, hnc, hcm, hsz, htk⟩
  · injection e with _ e2 _; omega
  · injection hv with e1 e2 e3
    subst e1; subst e3
    refine ⟨e2.symm, g, cur, rfl, hb, hg, by omega, hcm, hsz, fun t gg hgg => ?_⟩
    obtain ⟨a1, n1, c1, a2, n2, c2, x0, x1, x2, x3, x4, x5, x6⟩ := h2 t gg hgg
    have ht := (List.getElem?_eq_some_iff.1 hgg).1
    have hc : ∀ j, j < ops.length * 6 → xs[j]? = cur[j]? := by
      intro j hj
      rw [← htk, List.getElem?_take, if_pos hj, Array.getElem?_toList]
    exact ⟨a1, n1, c1, a2, n2, c2, by rw [← hc _ (by omega)]; exact x0, by rw [← hc _ (by omega)]; exact x1, by rw [← hc _ (by omega)]; exact x2, by rw [← hc _ (by omega)]; exact x3, by rw [← hc _ (by omega)]; exact x4, by rw [← hc _ (by omega)]; exact x5, x6⟩
theorem opsO_close {w : World} {base g n c : Nat} {cur : Array Value} {ops : List Gop} (hl : ops.length = n) (hb : base ≤ g) (hg : w.heap[g]? = some (.cells cur 43 (0, 0))) (hnc : n ≤ c) (hcm : c ≤ maxLen) (hsz : cur.size = c * 6) (h : RowOf w cur ops) :
    OpsO w base (.slice (some ⟨g, 0, none⟩) n c) ops := by
  refine ⟨cur.toList.take (n * 6), ⟨by rw [List.length_take, Array.length_toList, hsz, hl]; omega, Or.inr ⟨g, c, cur, by rw [hl], hb, hg, by omega, hcm, hsz, by rw [hl]⟩⟩, fun t gg hgg => ?_⟩
  obtain ⟨a1, n1, c1, a2, n2, c2, x0, x1, x2, x3, x4, x5, x6⟩ := h t gg hgg
  have ht := (List.getElem?_eq_some_iff.1 hgg).1
  have hc : ∀ j, j < n * 6 → (cur.toList.take (n * 6))[j]? = cur[j]? := by
    intro j hj
    rw [List.getElem?_take, if_pos hj, Array.getElem?_toList]
  exact ⟨a1, n1, c1, a2, n2, c2, by rw [hc _ (by omega)]; exact x0, by rw [hc _ (by omega)]; exact x1, by rw [hc _ (by omega)]; exact x2, by rw [hc _ (by omega)]; exact x3, by rw [hc _ (by omega)]; exact x4, by rw [hc _ (by omega)]; exact x5, x6⟩
/-- The outer i on each side changed places. -/
def half (ops : List Gop) (i : Nat) : List Gop := ops.reverse.take i ++ ((ops.drop i).take (ops.length - 2 * i) ++ ops.reverse.drop (ops.length - i))
theorem half_len {ops : List Gop} {i : Nat} (h : 2 * i ≤ ops.length) : (half ops i).length = ops.length := by
  unfold half
  simp only [List.length_append, List.length_take, List.length_drop, List.length_reverse]
  omega
theorem half_get {ops : List Gop} {i t : Nat} (h : 2 * i ≤ ops.length) (ht : t < ops.length) : (half ops i)[t]? = if t < i ∨ ops.length - i ≤ t then ops[ops.length - 1 - t]? else ops[t]? := by
  unfold half
  by_cases h1 : t < i
  · rw [if_pos (Or.inl h1), List.getElem?_append_left (by rw [List.length_take, List.length_reverse]; omega), List.getElem?_take, if_pos h1, List.getElem?_reverse (by omega)]
  · rw [List.getElem?_append_right (by rw [List.length_take, List.length_reverse]; omega)]
    have e1 : (ops.reverse.take i).length = i := by rw [List.length_take, List.length_reverse]; omega
    rw [e1]
    by_cases h2 : ops.length - i ≤ t
    · rw [if_pos (Or.inr h2), List.getElem?_append_right (by simp only [List.length_take, List.length_drop]; omega)]
      have e2 : ((ops.drop i).take (ops.length - 2 * i)).length = ops.length - 2 * i := by simp only [List.length_take, List.length_drop]; omega
      rw [e2, List.getElem?_drop, show ops.length - i + (t - i - (ops.length - 2 * i)) = t by omega, List.getElem?_reverse (by omega)]
    · rw [if_neg (by omega), List.getElem?_append_left (by simp only [List.length_take, List.length_drop]; omega), List.getElem?_take, if_pos (by omega), List.getElem?_drop, show i + (t - i) = t by omega]
theorem half_done {ops : List Gop} {i : Nat} (h : 2 * i ≤ ops.length) (h2 : ops.length ≤ 2 * i + 1) : half ops i = ops.reverse := by
  apply List.ext_getElem?
  intro t
  by_cases ht : t < ops.length
  · rw [half_get h ht, List.getElem?_reverse ht]
    split
    · rfl
    · congr 1; omega
  · rw [List.getElem?_eq_none (by rw [half_len h]; omega), List.getElem?_eq_none (by rw [List.length_reverse]; omega)]
theorem half_zero (ops : List Gop) : half ops 0 = ops := by
  unfold half
  simp

end Go.Proofs.YtapolidgocfbjaaDoor
