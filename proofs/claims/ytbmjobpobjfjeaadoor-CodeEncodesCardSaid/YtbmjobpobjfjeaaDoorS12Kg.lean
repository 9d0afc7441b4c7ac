/-
  The program: slices.Repeat of one gate; a row of gates. The reference reads a line loosely: what it holds meanwhile. The reference reads a line loosely. The reader: a circuit, read. Operations turned round in place. Lists and operations whose memory is their own: no two of them lie in one block. Copies of lists and operations, in memory of their own: as the reference makes them, and as the program does. slices.Reverse of operations. A circuit that has a fault is not answered; what the deferred closure makes of a reader that gave up. The program's Inverse. The program's Inverse: the walk. Circuits undone, in plain lists: twice undone is itself; what is pure stays so. The reference's Inverse. The reference's Then.
-/
import Derived.Test.YtbmjobpobjfjeaaDoorProg
import Derived.Test.YtbmjobpobjfjeaaDoorRows
import Derived.BigQuiet
import Derived.Deep.AppendLies
import Derived.Deep.Cut
import Derived.Deep.CutRange
import Derived.Deep.LoopGhost
import Derived.Deep.QuietTactic
import Derived.Deep.RegionHeld3
import Derived.DeepKeys4
import Derived.Defers
import Derived.Laws.Bits64b
import Derived.Laws.Concat
import Derived.Laws.CopyOwn
import Derived.Laws.IdiomStrings
import Derived.Laws.ResultCell
import Derived.Lib.AppendStr
import Derived.Lib.BitFns
import Derived.Lib.Hide
import Derived.Lib.ItoaMem
import Derived.Lib.ItoaNum
import Derived.Lib.Strings
import Derived.LoopIn
import Derived.LoopNIn
import Derived.Maps.AppendAt
import Derived.Maps.OwnSet
import Derived.OwnWalk
import Derived.OwnWalkIn
import Derived.RangeFuncBound
import Derived.RangeFuncBox
import Derived.RangeFuncCalls
import Derived.RangeFuncGives
import Derived.RangeFuncLeaves
import Derived.RangeFuncNested
import Derived.RangeFuncStops
import Derived.Recover
import Derived.Shelf.Abstract
import Derived.Shelf.Bits.Mul64
import Derived.Shelf.RegionOpen
import Derived.Shelf.Small.Bits
import Derived.Shelf.Small.Strs
import Derived.Shelf.Strings.Search1
import Derived.Sort.MapsRangeIn
import Derived.TacticsInMore
import Derived.WalkKit
import Derived.WalkLawsBesides
import Derived.WalkSpells
import Derived.Test.YtbmjobpobjfjeaaDoorS00Ca
import Derived.Test.YtbmjobpobjfjeaaDoorShelf
import Derived.Test.YtbmjobpobjfjeaaDoorS02Cn
import Derived.Test.YtbmjobpobjfjeaaDoorS03Ib
import Derived.Test.YtbmjobpobjfjeaaDoorS04Ij
import Derived.Test.YtbmjobpobjfjeaaDoorS05Ir
import Derived.Test.YtbmjobpobjfjeaaDoorS06Is
import Derived.Test.YtbmjobpobjfjeaaDoorS07It
import Derived.Test.YtbmjobpobjfjeaaDoorS08Ix
import Derived.Test.YtbmjobpobjfjeaaDoorS09Aa
import Derived.Test.YtbmjobpobjfjeaaDoorS10Dd
import Derived.Test.YtbmjobpobjfjeaaDoorS11Bl
namespace Go.Proofs.YtbmjobpobjfjeaaDoor
open Go.RowKit

/-- n copies of v. -/
def RepAt (U : World) (b : Nat) (n : Nat) (v : Value) : Prop := b < U.heap.size ∧ ∀ t, t < n → U.cell? ⟨b, t, none⟩ = some v
theorem RepAt.ext {U U' : World} {b n : Nat} {v : Value} (h : RepAt U b n v) (k : Ext U U') : RepAt U' b n v := ⟨Nat.lt_of_lt_of_le h.1 k.size, fun t ht => (k.cell (p := ⟨b, t, none⟩) h.1).trans (h.2 t ht)⟩
theorem RepAt.kb {lo : Nat} {U U' : World} {b n : Nat} {v : Value} (h : RepAt U b n v) (k : Kb lo U U') (hl : lo ≤ b) : RepAt U' b n v := ⟨Nat.lt_of_lt_of_le h.1 k.1, fun t ht => (k.cell hl h.1).trans (h.2 t ht)⟩
theorem RepAt.only {U U' : World} {b n H : Nat} {v : Value} (h : RepAt U b n v) (hO : Only H U U') (hb : b ≠ H) : RepAt U' b n v := ⟨by rw [hO.size]; exact h.1, fun t ht => (World.cell?_of_block (a := ⟨b, t, none⟩) (hO.block b hb)).trans (h.2 t ht)⟩
/-- n times A. -/
def itG (A : QP → QP) : Nat → QP → QP
  | 0, p => p
  | n + 1, p => itG A n (A p)
theorem itG_snoc (A : QP → QP) : ∀ n p, itG A (n + 1) p = A (itG A n p)
  | 0, _ => rfl
  | n + 1, p => itG_snoc A n (A p)
theorem itG_ok {A : QP → QP} (h : ∀ p : QP, p.ok → (A p).ok) : ∀ n (p : QP), p.ok → (itG A n p).ok
  | 0, _, hp => hp
  | n + 1, p, hp => itG_ok h n (A p) (h p hp)

set_option maxRecDepth 100000 in
set_option maxHeartbeats 4000000 in
/-- A row of n times the same gate. -/
theorem row1_any (A : QP → QP) (hA : ∀ p : QP, p.ok → (A p).ok) (n : Nat) (hn : n ≤ 100) (v : Value) (g b c lo : Nat) (hlb : lo ≤ b) (hlg : lo ≤ g) (U : World) (hv : GateV lo U v A) (hR : RepAt U b n v) (hg : U.cell? ⟨g, 0, none⟩ = some (.slice (some ⟨b, 0, none⟩) n c)) (lg : g < U.heap.size) (p : QP) (hp : p.ok) (w : World) (hw : Kb lo U w) :
    Calls Tryd.prog 73 #[pvQ p, .pointer (some ⟨g, 0, none⟩)] w fun e w' => e = .returned (pvQ (itG A n p)) ∧ Ext w w' := by
  obtain ⟨F, caps, rfl, hEnt, hC⟩ := hv
  have hT := TwB.new w p
  obtain ⟨H, hH⟩ : ∃ H, w.heap.size = H := ⟨_, rfl⟩
  obtain ⟨W0, hW0⟩ : ∃ W0, (w.alloc (.cells #[.int .u16 (p.x : Int), .int .u16 (p.z : Int), .bool p.m] 66)).alloc (.cells #[.int .u16 0, .int .u16 0, .bool false] 66) = W0 := ⟨_, rfl⟩
  simp only [hW0, hH] at hT
  have c0 := ((hw.ext hT.e).cell hlg lg (o := 0)).trans hg
  have HT := Lib.hid hT; have HW0 := Lib.hid hW0; have HH := Lib.hid hH; have HR := Lib.hid (hR.kb (hw.ext hT.e) hlb); have HC := Lib.hid hC; have Hn := Lib.hid hn; have HA := Lib.hid hA; have Hp := Lib.hid hp; have Hwu := Lib.hid hw; have Hbl := Lib.hid (show b ≠ H by have := hR.1; have := hw.1; omega)
  clear hT hW0 hH hg lg hR hC hw hn hA hp hlb hlg
  unfold pvQ
  go_enter Tryd.func73, Tryd.ntmps73
  go_upto_region 1 with fail
  rw [HW0.out, HH.out]
  go_wp2_with fail
  go_loopg [8] n (fun kk s8 wr => ∃ i : Nat, s8 = .int .i64 (i : Int) ∧ i ≤ n ∧ n - i = kk ∧ TwB w wr H (itG A i p) ⟨0, 0, false⟩ ∧ RepAt wr b n (.func (.func F) #[] caps))
  case atStart => exact ⟨0, rfl, Nat.zero_le _, rfl, HT.out, HR.out⟩
  case round =>
    obtain ⟨i, rfl, hi, hkk, hT, hR⟩ := hrel
    have Hkk := Lib.hid hkk; have HT := Lib.hid hT; have HR := Lib.hid hR
    by_cases hin : i = n
    · have p1 : ¬ (i : Int) < (n : Int) := by omega
      rw [hin] at HT
      have k0 := HT.out.a.x0; have k1 := HT.out.a.x1; have k2 := HT.out.a.x2
      have r0 := HT.out.b.x0; have r1 := HT.out.b.x1; have r2 := HT.out.b.x2; have g0 := HT.out.b.f 0; have g1 := HT.out.b.f 1; have g2 := HT.out.b.f 2
      obtain ⟨P, hP⟩ : ∃ P, itG A n p = P := ⟨_, rfl⟩
      rw [hP] at k0 k1 k2
      have HP := Lib.hid hP
      clear hkk hT hR hi hin hP hEnt
      go_wp2_with fail
      exact bodyPost_ret (v := .agg #[.int .u16 (P.x : Int), .int .u16 (P.z : Int), .bool P.m]) (by simp [results, Tryd.results73, go_sem, r0, r1, r2]) rfl ⟨by rw [HP.out], HT.out.end _ _ _⟩
    have hlt : i < n := by omega
    have p1 : (i : Int) < (n : Int) := by omega
    have p0 : (0 : Int) ≤ (i : Int) := by omega
    have wi : IntKind.i64.wrap ((i : Int) + 1) = ((i + 1 : Nat) : Int) := by rw [IntKind.wrap_i64]; have := Hn.out; omega
    have e1 := hR.2 i hlt
    have k0 := hT.a.x0; have k1 := hT.a.x1; have k2 := hT.a.x2
    have HCc := Lib.hid (HC.out (itG A i p) wr (itG_ok HA.out i p Hp.out) (Hwu.out.ext hT.e))
    rw [← itG_snoc A i p] at HCc
    unfold pvQ at HCc
    obtain ⟨P, hP⟩ : ∃ P, itG A i p = P := ⟨_, rfl⟩
    obtain ⟨Q, hQ⟩ : ∃ Q, itG A (i + 1) p = Q := ⟨_, rfl⟩
    rw [hP] at k0 k1 k2
    rw [hP, hQ] at HCc
    have HQ := Lib.hid hQ; have Hlt := Lib.hid hlt
    clear hkk hT hR hi hin hP hQ hlt
    go_wp2_with fail
    refine HCc.out.mono ?_
    rintro e w3 ⟨rfl, x3⟩
    have HT3 := Lib.hid (HT.out.ext x3)
    have HR3 := Lib.hid (HR.out.ext x3)
    have f0 := HT3.out.a.f 0; have f1 := HT3.out.a.f 1; have f2 := HT3.out.a.f 2
    have j0 := HT3.out.a.x0; have j1 := HT3.out.a.x1; have j2 := HT3.out.a.x2
    clear x3 k0 k1 k2 e1
    go_upto_region 5 with fail
    have HT4 := Lib.hid (HT3.out.pt Q)
    have HR4 := Lib.hid (HR3.out.only ((((Only.refl H w3).setCell 0 (.int .u16 (Q.x : Int))).setCell 1 (.int .u16 (Q.z : Int))).setCell 2 (.bool Q.m)) Hbl.out)
    obtain ⟨W4, hW4⟩ : ∃ V, ((w3.setCell ⟨H, 0, none⟩ (.int .u16 (Q.x : Int))).setCell ⟨H, 1, none⟩ (.int .u16 (Q.z : Int))).setCell ⟨H, 2, none⟩ (.bool Q.m) = V := ⟨_, rfl⟩
    rw [hW4] at HT4 HR4 ⊢
    clear f0 f1 f2 j0 j1 j2 hW4
    go_wp2_with fail
    go_roundg (n - (i + 1))
    case measure => have := Hkk.out; have := Hlt.out; omega
    case rel => exact ⟨i + 1, rfl, Hlt.out, rfl, by rw [HQ.out]; exact HT4.out, HR4.out⟩
theorem row_gate {A : QP → QP} (hA : ∀ p : QP, p.ok → (A p).ok) {n : Nat} (hn : n ≤ 100) {v : Value} {g b c lo : Nat} (hlb : lo ≤ b) (hlg : lo ≤ g) {U : World} (hv : GateV lo U v A) (hR : RepAt U b n v) (hg : U.cell? ⟨g, 0, none⟩ = some (.slice (some ⟨b, 0, none⟩) n c)) (lg : g < U.heap.size) : GateV lo U (.func (.func 73) #[] #[.pointer (some ⟨g, 0, none⟩)]) (itG A n) :=
  ⟨_, _, rfl, enters_of Tryd.func73 (by kernel_rfl) rfl, fun p wx hp hx => row1_any A hA n hn v g b c lo hlb hlg U hv hR hg lg p hp wx hx⟩
set_option maxRecDepth 100000 in
theorem row_any (A : QP → QP) (hA : ∀ p : QP, p.ok → (A p).ok) (n : Nat) (hn : n ≤ 100) (v : Value) (b c lo : Nat) (hlb : lo ≤ b) (w : World) (hlw : lo ≤ w.heap.size) (hv : GateV lo w v A) (hR : RepAt w b n v) :
    Calls Tryd.prog 53 #[.slice (some ⟨b, 0, none⟩) n c] w fun e w' => GaR lo (itG A n) w e w' := by
  have hn := row_gate hA hn hlb hlw (hv.ext (ext_al w (.cells #[.slice (some ⟨b, 0, none⟩) n c] 100))) (hR.ext (ext_al w _)) (g := w.heap.size) (c := c) (by rw [cell_of_row _ _ 0 _ _ (0, 0) (heap_alloc_new w _)]; rfl) (by simp)
  have Hn := Lib.hid hn
  clear hn hv hR hA hlb hlw
  go_enter Tryd.func53, Tryd.ntmps53
  go_wp2_with fail
  go_ret
  exact ⟨_, rfl, ext_al _ _, Hn.out⟩

/-- Three cells that hold v. -/
theorem rep_of_row {w : World} {g n : Nat} {l : List Value} {v : Value} {t : TypeId} (h : w.heap[g]? = some (.cells l.toArray t (0, 0))) (hl : l = List.replicate n v) : RepAt w g n v := by
  refine ⟨(Array.getElem?_eq_some_iff.1 h).1, fun k hk => ?_⟩
  rw [cell_of_row w g k _ _ (0, 0) h]
  subst hl
  simp [hk]
/-- A call that answers n gates. -/
def RpR (n : Nat) (v : Value) (w : World) (e : Ending) (w' : World) : Prop := ∃ g, e = .returned (.slice (some ⟨g, 0, none⟩) n n) ∧ Ext w w' ∧ RepAt w' g n v ∧ w.heap.size ≤ g
theorem g_info : (Tryd.prog.info? 70).map (fun i => (i.zero, i.size, i.bytes)) = some (some .nilFunc, 1, 8) := by kernel_rfl
theorem g_size : (Tryd.prog.info? 70).map (·.size) = some 1 := by kernel_rfl
theorem madeG (n : Nat) : madeCells #[Value.nilFunc] n = (List.replicate n Value.nilFunc).toArray := by
  apply Array.toList_inj.1
  rw [toList_madeCells_one]
theorem run_makeG (n : Nat) (hn : n ≤ 100) (w : World) : (Instr.makeSlice 100 (.int .i64 (n : Int)) (.int .i64 (n : Int))).run Tryd.prog w = .ok (.slice (some ⟨w.heap.size, 0, none⟩) n n) (w.alloc (.cells (List.replicate n Value.nilFunc).toArray 70)) := by
  obtain ⟨i0, hi, hz0, hz1, hz2⟩ := info_parts g_info
  have := run_makeSlice (P := Tryd.prog) w 100 70 i0 .nilFunc Tryd.underlying100 hi hz0 .i64 .i64 n n (by omega) (by omega) (by rw [hz1, Int.toNat_natCast]; omega) (by rw [hz2]; omega) (by omega)
  rw [this, hz1, ← madeG, Int.toNat_natCast, Nat.mul_one]
  rfl
theorem stepC_copy_run {ops : Array Oper} {o : Oper} {a : Act} {K : Act → World → Prop} {Q : Exit → Act → World → Prop} {E : Prop} {w w' : World} (hgd : o.guard = none) (s x : Operand)
    (ho : o.op = .call { callee := .builtin .copy, args := #[s, x], argTypes := #[100, 100] }) (ht : o.type = 3) (v1 v2 r : Value) (hs : a.eval s = v1) (hx : a.eval x = v2)
    (hap : (Builtin.copy_ #[100, 100] 3 #[v1, v2]).run Tryd.prog w = .ok r w') (h : K (a.put o.dst r) w') :
    if Region.wanted o (yielded ops a.tmps) = true then Oper.wp Tryd.prog o a w K Q else E := by
  have hw : Region.wanted o (yielded ops a.tmps) = true := by simp [Region.wanted, hgd]
  rw [if_pos hw]
  unfold Oper.wp execOp
  simp only [ho, ht, resolve, invoke, builtin, Sem.run_bind, Sem.run_pure, Result.andThen_ok, List.map_toArray, List.map_cons, List.map_nil, hs, hx, hap]
  exact h
/-- The row while it is filled. -/
def fillR (v : Value) (n i : Nat) : List Value := List.replicate i v ++ List.replicate (n - i) Value.nilFunc
theorem fill_splice (v : Value) {n i k : Nat} (h : i + k ≤ n) : splice (fillR v n i) i (List.replicate k v) = fillR v n (i + k) := by
  unfold splice fillR
  rw [List.take_append_of_le_length (by simp), List.take_of_length_le (by simp), List.length_replicate, List.drop_append, List.drop_of_length_le (by simp), List.length_replicate, List.drop_replicate, List.nil_append, ← List.append_assoc, List.replicate_append_replicate]
  congr 2
  omega
theorem fill_at (v : Value) {n i j : Nat} (hj : j < i) : (fillR v n i)[j]? = some v := by
  unfold fillR
  rw [List.getElem?_append_left (by simpa using hj)]
  simp [hj]
theorem fill_len (v : Value) {n i : Nat} (h : i ≤ n) : (fillR v n i).length = n := by
  unfold fillR
  simp
  omega
set_option maxRecDepth 100000 in
set_option maxHeartbeats 4000000 in
theorem repeatG_any (n : Nat) (h1 : 1 ≤ n) (hn : n ≤ 100) (b : Nat) (F : FuncId) (caps : Array Value) (w : World) (hR : RepAt w b 1 (.func (.func F) #[] caps)) :
    Calls Tryd.prog 54 #[.slice (some ⟨b, 0, none⟩) 1 1, .int .i64 (n : Int)] w fun e w' => RpR n (.func (.func F) #[] caps) w e w' := by
  have hM := fun wx => Tryd.bits_Mul 1 n (by decide) (by omega) wx
  rw [Nat.one_mul, Nat.div_eq_of_lt (by omega), Nat.mod_eq_of_lt (by omega)] at hM
  have HM := Lib.hid hM
  have hMk := run_makeG n hn w
  obtain ⟨v, hv⟩ : ∃ v, Value.func (.func F) #[] caps = v := ⟨_, rfl⟩
  have hone : v.oneCell' = true := by rw [← hv]; rfl
  rw [hv] at hR ⊢
  have wn1 : IntKind.u64.wrap (n : Int) = (n : Int) := by simp [IntKind.wrap, IntKind.bits, IntKind.signed]; omega
  have wn2 : IntKind.i64.wrap (n : Int) = (n : Int) := by rw [IntKind.wrap_i64]; omega
  have t1 : ¬ (n : Int) < 0 := by omega
  have t2 : ¬ (9223372036854775807 : Int) < (n : Int) := by omega
  have q0 : (0 : Int) ≤ (n : Int) := by omega
  obtain ⟨G, hG⟩ : ∃ G, w.heap.size = G := ⟨_, rfl⟩
  obtain ⟨W1, hW1⟩ : ∃ W, w.alloc (.cells (List.replicate n Value.nilFunc).toArray 70) = W := ⟨_, rfl⟩
  have E1 : Ext w W1 := by rw [← hW1]; exact ext_al _ _
  have hr1 : W1.heap[G]? = some (.cells (fillR v n 0).toArray 70 (0, 0)) := by rw [← hW1, ← hG]; exact heap_alloc_new w _
  rw [hG, hW1] at hMk
  have HMk := Lib.hid hMk
  have HR := Lib.hid (hR.ext E1); have HE1 := Lib.hid E1; have Hr1 := Lib.hid hr1; have Hn := Lib.hid (And.intro h1 hn); have HG := Lib.hid hG; have Hone := Lib.hid hone
  clear hR hM hMk hv hone hG hW1 E1 hr1 hn h1
  go_enter Tryd.func54, Tryd.ntmps54
  go_wp2_with fail
  refine (HM.out _).mono ?_
  rintro e w1 ⟨rfl, hw1⟩
  obtain rfl := hw1.symm
  go_upto_region 7 with fail
  rw [HMk.out]
  simp only [Result.andThen]
  rw [Oper.upon_value]
  go_upto_region 7 with fail
  go_wp2_with fail
  have hrun := run_copy_row (P := Tryd.prog) W1 100 100 3 70 G 0 n n ⟨b, 0, none⟩ 1 1 (fillR v n 0).toArray 70 [v] Tryd.underlying100 g_size Hr1.out (by show 1 = min 1 n; have := Hn.out; omega) (fun j u hj => by
    match j, hj with
    | 0, hj => exact (show some v = some u from hj) ▸ HR.out.2 0 (by decide)
    | k + 1, hj => simp at hj) (by rw [List.size_toArray, fill_len _ (Nat.zero_le _)]; have := Hn.out; simp; omega) (by simpa using Hone.out)
  rw [hrun]
  clear hrun
  simp only [Result.andThen]
  rw [Oper.upon_value]
  obtain ⟨W2, hW2⟩ : ∃ V, W1.setRow G ((fillR v n 0).toArray.toList.take 0 ++ [v] ++ (fillR v n 0).toArray.toList.drop (0 + [v].length)).toArray = V := ⟨_, rfl⟩
  have hb2 : Ext w W2 := by rw [← hW2]; exact below_setRow HE1.out (by rw [HG.out]; exact Nat.le_refl _) _
  have hr2 : W2.heap[G]? = some (.cells (fillR v n 1).toArray 70 (0, 0)) := by
    have h := setRow_heap W1 G _ ((fillR v n 0).toArray.toList.take 0 ++ [v] ++ (fillR v n 0).toArray.toList.drop (0 + [v].length)).toArray 70 _ Hr1.out
    rw [hW2] at h
    rw [h, ← fill_splice v (n := n) (i := 0) (k := 1) (by have := Hn.out; omega)]
    rfl
  rw [hW2]
  clear hW2
  have Hr2 := Lib.hid hr2; have Hb2 := Lib.hid hb2
  clear hr2 hb2
  go_wp2_with fail
  go_loopg [8] (n - 1) (fun kk s8 wx => ∃ i : Nat, s8 = .int .i64 (i : Int) ∧ 1 ≤ i ∧ i ≤ n ∧ n - 1 - (i - 1) = kk ∧ Ext w wx ∧ wx.heap[G]? = some (.cells (fillR v n i).toArray 70 (0, 0)))
  case atStart => exact ⟨1, rfl, Nat.le_refl _, Hn.out.1, rfl, Hb2.out, Hr2.out⟩
  case round =>
    obtain ⟨i, rfl, hi1, hi, hkk, hE, hr⟩ := hrel
    have Hkk := Lib.hid hkk; have HE := Lib.hid hE; have Hr := Lib.hid hr
    by_cases hin : i = n
    · have p1 : ¬ (i : Int) < (n : Int) := by omega
      have hrep := rep_of_row (n := n) hr (v := v) (by rw [hin]; unfold fillR; simp)
      have Hrep := Lib.hid hrep
      clear hkk hE hr hi hi1 hin hrep
      go_wp2_with fail
      go_ret
      exact ⟨G, rfl, HE.out, Hrep.out, by rw [HG.out]; exact Nat.le_refl _⟩
    have hlt : i < n := by omega
    have p1 : (i : Int) < (n : Int) := by omega
    have Hlt := Lib.hid (And.intro hi1 hlt)
    clear hkk hE hr hi hi1 hin hlt
    obtain ⟨k, hk⟩ : ∃ k, min i (n - i) = k := ⟨_, rfl⟩
    have hk1 : 1 ≤ k ∧ i + k ≤ n ∧ k ≤ i := by have := Hlt.out; omega
    have wk : IntKind.i64.wrap ((i : Int) + (k : Int)) = ((i + k : Nat) : Int) := by rw [IntKind.wrap_i64]; have := Hn.out; omega
    have i0 : (0 : Int) ≤ (i : Int) := by omega
    have i1 : (i : Int) ≤ (n : Int) := by have := Hlt.out; omega
    have i2 : i ≤ n := by have := Hlt.out; omega
    have i3 : ¬ n = i := by have := Hlt.out; omega
    have i4 : ¬ n - i = 0 := by have := Hlt.out; omega
    have Hk := Lib.hid hk; have Hk1 := Lib.hid hk1
    obtain ⟨C, hC⟩ : ∃ C, List.replicate k v = C := ⟨_, rfl⟩
    have HC := Lib.hid hC
    have hCl : C.length = k := by rw [← hC]; simp
    have Hone' := Lib.hid (show ∀ u ∈ C, u.oneCell' = true by rw [← hC]; intro u hu; rw [(List.mem_replicate.1 hu).2]; exact Hone.out)
    have Hfs := Lib.hid (show splice (fillR v n i) i C = fillR v n (i + k) by rw [← hC]; exact fill_splice v hk1.2.1)
    have HCl := Lib.hid hCl
    obtain ⟨R, hR0⟩ : ∃ R, fillR v n i = R := ⟨_, rfl⟩
    have HRl := Lib.hid (show R.length = n by rw [← hR0]; exact fill_len v i2)
    have HRa := Lib.hid (fun (j : Nat) (hj : j < i) => (show R[j]? = some v by rw [← hR0]; exact fill_at v hj))
    rw [hR0] at Hr Hfs
    have hrun := run_copy_row (P := Tryd.prog) wr.drew 100 100 3 70 G i (n - i) (n - i) ⟨G, 0, none⟩ i n R.toArray 70 C Tryd.underlying100 g_size Hr.out (by rw [HCl.out]; exact Hk.out.symm) (fun j u hj => by
      have hjk : j < C.length := (List.getElem?_eq_some_iff.1 hj).1
      have hu : v = u := by
        rw [← HC.out, List.getElem?_replicate] at hj
        split at hj
        · exact Option.some.inj hj
        · cases hj
      have hadd : (⟨G, 0, none⟩ : Addr).add j = ⟨G, 0 + j, none⟩ := by unfold Addr.add; split <;> simp_all
      have hrr : wr.drew.heap[G]? = some (.cells R.toArray 70 (0, 0)) := Hr.out
      rw [hadd, cell_of_row _ G (0 + j) _ _ (0, 0) hrr, Nat.zero_add, List.getElem?_toArray, HRa.out j (by have := Hk1.out; have := HCl.out; omega), hu]) (by rw [List.size_toArray, HCl.out, HRl.out]; exact Hk1.out.2.1) Hone'.out
    rw [HCl.out] at hrun
    obtain ⟨W4, hW4⟩ : ∃ V, wr.drew.setRow G (R.toArray.toList.take i ++ C ++ R.toArray.toList.drop (i + k)).toArray = V := ⟨_, rfl⟩
    have hr4 : W4.heap[G]? = some (.cells (fillR v n (i + k)).toArray 70 (0, 0)) := by
      have hrr : wr.drew.heap[G]? = some (.cells R.toArray 70 (0, 0)) := Hr.out
      have h := setRow_heap wr.drew G _ (R.toArray.toList.take i ++ C ++ R.toArray.toList.drop (i + k)).toArray 70 _ hrr
      rw [hW4] at h
      rw [h, ← Hfs.out]
      unfold splice
      rw [HCl.out, List.append_assoc]
    have hb4 : Ext w W4 := by rw [← hW4]; exact below_setRow (Below.drew HE.out) (by rw [HG.out]; exact Nat.le_refl _) _
    rw [hW4] at hrun
    have Hrun := Lib.hid hrun; have Hr4 := Lib.hid hr4; have Hb4 := Lib.hid hb4
    clear hk hk1 hC hCl hR0 hrun hW4 hr4 hb4
    go_upto_region 9 with fail
    refine wp_region_K 9 (fun _ => True) (by kernel_rfl) ?_
    show anyK _ _ _ _ _ _ 10 #[false, false, false, false, false, false, false, false, false, false] _ _
    refine anyK_take (i := 0) (v := ?_) rfl (by kernel_rfl) (by kernel_rfl) (by kernel_rfl) (N := 10) (by kernel_rfl) (by kernel_rfl) (by kernel_rfl) (fun _ _ _ h => h) (Or.inl ⟨by rfl, ?_⟩) trivial ?_
    rotate_left 1
    · intro w hSw
      go_simp
      try with_reducible rfl
    show anyK _ _ _ _ _ _ _ _ (Act.put _ (some 38) _) _
    simp only [Act.put, List.setIfInBounds_toArray, List.set_cons_zero, List.set_cons_succ]
    refine anyK_take (i := 1) (v := ?_) rfl (by kernel_rfl) (by kernel_rfl) (by kernel_rfl) (N := 10) (by kernel_rfl) (by kernel_rfl) (by kernel_rfl) (fun _ _ _ h => h) (Or.inl ⟨by rfl, ?_⟩) trivial ?_
    rotate_left 1
    · intro w hSw
      go_simp
      try with_reducible rfl
    show anyK _ _ _ _ _ _ _ _ (Act.put _ (some 39) _) _
    simp only [Act.put, List.setIfInBounds_toArray, List.set_cons_zero, List.set_cons_succ]
    refine anyK_take (i := 2) (v := ?_) rfl (by kernel_rfl) (by kernel_rfl) (by kernel_rfl) (N := 10) (by kernel_rfl) (by kernel_rfl) (by kernel_rfl) (fun _ _ _ h => h) (Or.inl ⟨by rfl, ?_⟩) trivial ?_
    rotate_left 1
    · intro w hSw
      go_simp
      try with_reducible rfl
    show anyK _ _ _ _ _ _ _ _ (Act.put _ (some 40) _) _
    simp only [Act.put, List.setIfInBounds_toArray, List.set_cons_zero, List.set_cons_succ]
    refine anyK_take (i := 3) (v := ?_) rfl (by kernel_rfl) (by kernel_rfl) (by kernel_rfl) (N := 10) (by kernel_rfl) (by kernel_rfl) (by kernel_rfl) (fun _ _ _ h => h) (Or.inl ⟨by rfl, ?_⟩) trivial ?_
    rotate_left 1
    · intro w hSw
      go_simp
      try with_reducible rfl
    show anyK _ _ _ _ _ _ _ _ (Act.put _ (some 41) _) _
    simp only [Act.put, List.setIfInBounds_toArray, List.set_cons_zero, List.set_cons_succ]
    refine anyK_take (i := 4) (v := ?_) rfl (by kernel_rfl) (by kernel_rfl) (by kernel_rfl) (N := 10) (by kernel_rfl) (by kernel_rfl) (by kernel_rfl) (fun _ _ _ h => h) (Or.inl ⟨by rfl, ?_⟩) trivial ?_
    rotate_left 1
    · intro w hSw
      go_simp
      try with_reducible rfl
    show anyK _ _ _ _ _ _ _ _ (Act.put _ (some 42) _) _
    simp only [Act.put, List.setIfInBounds_toArray, List.set_cons_zero, List.set_cons_succ]
    refine anyK_take (i := 5) (v := ?_) rfl (by kernel_rfl) (by kernel_rfl) (by kernel_rfl) (N := 10) (by kernel_rfl) (by kernel_rfl) (by kernel_rfl) (fun _ _ _ h => h) (Or.inl ⟨by rfl, ?_⟩) trivial ?_
    rotate_left 1
    · intro w hSw
      go_simp
      try with_reducible rfl
    show anyK _ _ _ _ _ _ _ _ (Act.put _ (some 43) _) _
    simp only [Act.put, List.setIfInBounds_toArray, List.set_cons_zero, List.set_cons_succ]
    refine anyK_take (i := 6) (v := ?_) rfl (by kernel_rfl) (by kernel_rfl) (by kernel_rfl) (N := 10) (by kernel_rfl) (by kernel_rfl) (by kernel_rfl) (fun _ _ _ h => h) (Or.inl ⟨by rfl, ?_⟩) trivial ?_
    rotate_left 1
    · intro w hSw
      go_simp
      try with_reducible rfl
    show anyK _ _ _ _ _ _ _ _ (Act.put _ (some 44) _) _
    simp only [Act.put, List.setIfInBounds_toArray, List.set_cons_zero, List.set_cons_succ]
    refine anyK_one (i := 7) (by kernel_rfl) rfl (fun Kk hKk => ?_)
    refine stepC_copy_run rfl _ _ rfl rfl _ _ _ rfl rfl Hrun.out ?_
    refine hKk.out _ _ (fun _ => trivial) ?_
    clear hKk Kk
    show anyK _ _ _ _ _ _ _ _ (Act.put _ (some 45) _) _
    simp only [Act.put, goInt, List.setIfInBounds_toArray, List.set_cons_zero, List.set_cons_succ]
    refine anyK_take (i := 8) (v := ?_) rfl (by kernel_rfl) (by kernel_rfl) (by kernel_rfl) (N := 10) (by kernel_rfl) (by kernel_rfl) (by kernel_rfl) (fun _ _ _ h => h) (Or.inl ⟨by rfl, ?_⟩) trivial ?_
    rotate_left 1
    · intro w hSw
      go_simp
      try with_reducible rfl
    show anyK _ _ _ _ _ _ _ _ (Act.put _ (some 46) _) _
    simp only [Act.put, List.setIfInBounds_toArray, List.set_cons_zero, List.set_cons_succ]
    refine anyK_one (i := 9) (by kernel_rfl) rfl (fun Kk hKk => ?_)
    go_wp2_with fail
    refine hKk.out _ _ (fun h => Bool.noConfusion (show true = false from h)) ?_
    clear hKk Kk
    simp only [List.setIfInBounds_toArray, List.set_cons_zero, List.set_cons_succ]
    refine anyK_done (by kernel_rfl) ?_ _
    go_wp2_with fail
    go_roundg (n - 1 - (i + k - 1))
    case measure => have := Hkk.out; have := Hlt.out; have := Hk1.out; omega
    case rel => exact ⟨i + k, rfl, by have := Hk1.out; omega, Hk1.out.2.1, rfl, Hb4.out, Hr4.out⟩
end Go.Proofs.YtbmjobpobjfjeaaDoor
namespace Go.Proofs.YtbmjobpobjfjeaaDoor
open Go.RowKit

theorem own_keep2 {w w' : World} {base : Nat} {e : TypeId} {size : Nat} {v : Value} {n : Nat} {xs : List Value} (h : w.ownsRow base e size v n xs) (hk : ∀ g, v.ownBlock = some g → w'.heap[g]? = w.heap[g]?) : w'.ownsRow base e size v n xs := by
  refine ⟨h.1, ?_⟩
  rcases h.2 with h | ⟨g, cap, cur, hv, hb, hg, rest⟩
  · exact Or.inl h
  · exact Or.inr ⟨g, cap, cur, hv, hb, (hk g (by rw [hv]; rfl)).trans hg, rest⟩


end Go.Proofs.YtbmjobpobjfjeaaDoor
namespace Go.Proofs.YtbmjobpobjfjeaaDoor
open Go.RowKit

theorem stepK_storeI {ops : Array Oper} {o : Oper} {a : Act} {K : Act → World → Prop} {Q : Exit → Act → World → Prop} {E : Prop} {w : World} (hgd : o.guard = none) (hd : o.dst = none) (p x : Operand)
    (ho : o.op = .store 56 p x) (b off : Nat) (a' : Option Addr) (n' c' : Nat) (u : Value) (hp : a.eval p = .pointer (some ⟨b, off, none⟩)) (hx : a.eval x = .slice a' n' c')
    (hcell : w.cell? ⟨b, off, none⟩ = some u) (hfz : w.frozen? ⟨b, off, none⟩ = false) (h : K a (w.setCell ⟨b, off, none⟩ (.slice a' n' c'))) :
    if Region.wanted o (yielded ops a.tmps) = true then Oper.wp Tryd.prog o a w K Q else E := by
  have hw : Region.wanted o (yielded ops a.tmps) = true := by simp [Region.wanted, hgd]
  rw [if_pos hw]
  obtain ⟨od, oo, ot, opp, oa, og⟩ := o
  simp only at ho hd
  subst ho hd
  have HH := Lib.hid h
  clear h
  unfold Oper.wp execOp
  simp only [hp, hx]
  go_simp
  exact HH.out

end Go.Proofs.YtbmjobpobjfjeaaDoor
namespace Go.Proofs.YtbmjobpobjfjeaaDoor
open Go.RowKit

theorem CiB.set0 {W : World} {g : Nat} {qb bi : Int} {ao : Option Addr} {n cp : Nat} (h : CiB W g qb bi ao n cp) (v : Int) : CiB (W.setCell ⟨g, 0, none⟩ (.int .i64 v)) g v bi ao n cp := ⟨row_put h.row rfl⟩
theorem CiB.set1 {W : World} {g : Nat} {qb bi : Int} {ao : Option Addr} {n cp : Nat} (h : CiB W g qb bi ao n cp) (v : Int) : CiB (W.setCell ⟨g, 1, none⟩ (.int .i64 v)) g qb v ao n cp := ⟨row_put h.row rfl⟩
end Go.Proofs.YtbmjobpobjfjeaaDoor
namespace Go.Proofs.YtbmjobpobjfjeaaDoor
open Go.RowKit

/-- Six cells are laid from p on. -/
def set6 (cs : Array Value) (p : Nat) (f : Nat → Value) : Array Value :=
  (((((cs.setIfInBounds p (f 0)).setIfInBounds (p + 1) (f 1)).setIfInBounds (p + 2) (f 2)).setIfInBounds (p + 3) (f 3)).setIfInBounds (p + 4) (f 4)).setIfInBounds (p + 5) (f 5)
theorem set6_size (cs : Array Value) (p : Nat) (f : Nat → Value) : (set6 cs p f).size = cs.size := by simp [set6]
theorem set6_in (cs : Array Value) (p : Nat) (f : Nat → Value) (k : Nat) (hk : k < 6) (hp : p + 6 ≤ cs.size) : (set6 cs p f)[p + k]? = some (f k) := by
  have : k = 0 ∨ k = 1 ∨ k = 2 ∨ k = 3 ∨ k = 4 ∨ k = 5 := by omega
  unfold set6
  rcases this with rfl | rfl | rfl | rfl | rfl | rfl
  all_goals
    simp only [Array.getElem?_setIfInBounds, Array.size_setIfInBounds]
    repeat (first | rw [if_neg (by omega)] | rw [if_pos (by omega)] | rw [if_pos trivial])
theorem set6_out (cs : Array Value) (p : Nat) (f : Nat → Value) (q : Nat) (hq : q < p ∨ p + 6 ≤ q) : (set6 cs p f)[q]? = cs[q]? := by
  unfold set6
  simp only [Array.getElem?_setIfInBounds]
  repeat rw [if_neg (by omega)]

/-- The outer i on each side changed places. -/
def half (ops : List Gop) (i : Nat) : List Gop := ops.reverse.take i ++ ((ops.drop i).take (ops.length - 2 * i) ++ ops.reverse.drop (ops.length - i))
theorem half_len {ops : List Gop} {i : Nat} (h : 2 * i ≤ ops.length) : (half ops i).length = ops.length := by
  unfold half
  simp only [List.length_append, List.length_take, List.length_drop, List.length_reverse]
  omega
theorem half_get {ops : List Gop} {i t : Nat} (h : 2 * i ≤ ops.length) (ht : t < ops.length) : (half ops i)[t]? = if t < i ∨ ops.length - i ≤ t then ops[ops.length - 1 - t]? else ops[t]? := by
  unfold half
  by_cases h1 : t < i
  · rw [if_pos (Or.inl h1), List.getElem?_append_left (by rw [List.length_take, List.length_reverse]; omega), List.getElem?_take, if_pos h1, List.getElem?_reverse (by omega)]
  · rw [List.getElem?_append_right (by rw [List.length_take, List.length_reverse]; omega)]
    have e1 : (ops.reverse.take i).length = i := by rw [List.length_take, List.length_reverse]; omega
    rw [e1]
    by_cases h2 : ops.length - i ≤ t
    · rw [if_pos (Or.inr h2), List.getElem?_append_right (by simp only [List.length_take, List.length_drop]; omega)]
      have e2 : ((ops.drop i).take (ops.length - 2 * i)).length = ops.length - 2 * i := by simp only [List.length_take, List.length_drop]; omega
      rw [e2, List.getElem?_drop, show ops.length - i + (t - i - (ops.length - 2 * i)) = t by omega, List.getElem?_reverse (by omega)]
    · rw [if_neg (by omega), List.getElem?_append_left (by simp only [List.length_take, List.length_drop]; omega), List.getElem?_take, if_pos (by omega), List.getElem?_drop, show i + (t - i) = t by omega]
theorem half_done {ops : List Gop} {i : Nat} (h : 2 * i ≤ ops.length) (h2 : ops.length ≤ 2 * i + 1) : half ops i = ops.reverse := by
  apply List.ext_getElem?
  intro t
  by_cases ht : t < ops.length
  · rw [half_get h ht, List.getElem?_reverse ht]
    split
    · rfl
    · congr 1; omega
  · rw [List.getElem?_eq_none (by rw [half_len h]; omega), List.getElem?_eq_none (by rw [List.length_reverse]; omega)]
theorem half_zero (ops : List Gop) : half ops 0 = ops := by
  unfold half
  simp

end Go.Proofs.YtbmjobpobjfjeaaDoor
namespace Go.Proofs.YtbmjobpobjfjeaaDoor
open Go.RowKit

/-- A list in a block of its own, not older than base. -/
def Iow (w : World) (base : Nat) (a : Option Addr) (n c : Nat) (l : List Int) : Prop := w.ownsRow base 3 1 (.slice a n c) n (iC l)
section
variable {w w' : World} {base base' : Nat} {a : Option Addr} {n c : Nat} {l : List Int}
theorem Iow.keep (h : Iow w base a n c l) (hk : ∀ (b : Nat) (cur : Array Value) (fr : Nat × Nat), w.heap[b]? = some (.cells cur 3 fr) → w'.heap[b]? = w.heap[b]?) : Iow w' base a n c l := own_keep h fun g cur _ hg => hk g cur (0, 0) hg
theorem Iow.ext (h : Iow w base a n c l) (k : Ext w w') : Iow w' base a n c l := own_keep h fun g _ _ hg => k.block g (Array.getElem?_eq_some_iff.1 hg).1
theorem Iow.down (h : Iow w base a n c l) (hb : base' ≤ base) : Iow w base' a n c l := by
  refine ⟨h.1, ?_⟩
  rcases h.2 with h | ⟨g, cap, cur, hv, hbg, rest⟩
  · exact Or.inl h
  · exact Or.inr ⟨g, cap, cur, hv, by omega, rest⟩
theorem Iow.lt (h : Iow w base a n c l) : ∀ k, (Value.slice a n c).ownBlock = some k → base ≤ k ∧ k < w.heap.size := own_lt h
theorem Iow.kind (h : Iow w base a n c l) : ∀ k, (Value.slice a n c).ownBlock = some k → ∃ cur fr, w.heap[k]? = some (.cells cur 3 fr) := fun k hk => (PtKind h k hk).2
theorem Iow.ints (h : Iow w base a n c l) : n ≤ c ∧ c ≤ maxLen ∧ IntsAt w a n l ∧ TyI w a := by
  obtain ⟨a', c', e, h1, h2, h3, h4⟩ := ints_of_own h
  injection e with e1 e2 e3
  subst e1; subst e3
  exact ⟨h1, h2, h3, h4⟩
theorem io_of_own {v : Value} (h : w.ownsRow base 3 1 v n (iC l)) : ∃ (a : Option Addr) (c : Nat), v = .slice a n c ∧ Iow w base a n c l := by
  obtain ⟨a', c', rfl, _⟩ := ints_of_own h
  exact ⟨a', c', rfl, h⟩
end

/-- An operation whose lists lie each in a block of its own. -/
structure OpN (w : World) (base : Nat) (o : Gop) (a1 : Option Addr) (n1 c1 : Nat) (a2 : Option Addr) (n2 c2 : Nat) : Prop where
  i1 : Iow w base a1 n1 c1 o.ctl
  i2 : Iow w base a2 n2 c2 o.cnd
  ne : ∀ k, (Value.slice a1 n1 c1).ownBlock = some k → (Value.slice a2 n2 c2).ownBlock ≠ some k
section
variable {w w' : World} {base base' : Nat} {o : Gop} {a1 : Option Addr} {n1 c1 : Nat} {a2 : Option Addr} {n2 c2 : Nat}
theorem OpN.keep (h : OpN w base o a1 n1 c1 a2 n2 c2) (hk : ∀ (b : Nat) (cur : Array Value) (fr : Nat × Nat), w.heap[b]? = some (.cells cur 3 fr) → w'.heap[b]? = w.heap[b]?) : OpN w' base o a1 n1 c1 a2 n2 c2 := ⟨h.i1.keep hk, h.i2.keep hk, h.ne⟩
theorem OpN.ext (h : OpN w base o a1 n1 c1 a2 n2 c2) (k : Ext w w') : OpN w' base o a1 n1 c1 a2 n2 c2 := ⟨h.i1.ext k, h.i2.ext k, h.ne⟩
theorem OpN.down (h : OpN w base o a1 n1 c1 a2 n2 c2) (hb : base' ≤ base) : OpN w base' o a1 n1 c1 a2 n2 c2 := ⟨h.i1.down hb, h.i2.down hb, h.ne⟩
theorem OpN.opO (h : OpN w base o a1 n1 c1 a2 n2 c2) : OpO w o a1 n1 c1 a2 n2 c2 := by
  obtain ⟨p1, p2, p3, p4⟩ := h.i1.ints
  obtain ⟨q1, q2, q3, q4⟩ := h.i2.ints
  exact ⟨⟨p3, p1, by unfold maxLen at p2; omega, q3, q1, by unfold maxLen at q2; omega⟩, p4, q4⟩
end

/-- Among the first m cells no two lead into one block. -/
def SepF (m : Nat) (f : Nat → Option Value) : Prop := ∀ i j k u v, i < m → j < m → f i = some u → f j = some v → u.ownBlock = some k → v.ownBlock = some k → i = j
/-- Operations, cell by cell. -/
def RowF (w : World) (base : Nat) (f : Nat → Option Value) (ops : List Gop) : Prop :=
  ∀ t g, ops[t]? = some g → ∃ (a1 : Option Addr) (n1 c1 : Nat) (a2 : Option Addr) (n2 c2 : Nat),
    f (t * 6) = some (.int .i64 g.kind) ∧ f (t * 6 + 1) = some (.int .i64 g.k) ∧ f (t * 6 + 2) = some (.slice a1 n1 c1) ∧ f (t * 6 + 3) = some (.int .i64 g.q) ∧ f (t * 6 + 4) = some (.int .i64 g.bit) ∧ f (t * 6 + 5) = some (.slice a2 n2 c2) ∧ OpN w base g a1 n1 c1 a2 n2 c2
section
variable {w w' : World} {base base' : Nat} {f f' : Nat → Option Value} {ops : List Gop}
theorem RowF.map (h : RowF w base f ops) (hk : ∀ g a1 n1 c1 a2 n2 c2, OpN w base g a1 n1 c1 a2 n2 c2 → OpN w' base' g a1 n1 c1 a2 n2 c2) : RowF w' base' f ops := fun t g hg => by
  obtain ⟨a1, n1, c1, a2, n2, c2, e0, e1, e2, e3, e4, e5, e6⟩ := h t g hg
  exact ⟨a1, n1, c1, a2, n2, c2, e0, e1, e2, e3, e4, e5, hk _ _ _ _ _ _ _ e6⟩
theorem RowF.congr (h : RowF w base f ops) (he : ∀ i, i < ops.length * 6 → f' i = f i) : RowF w base f' ops := fun t g hg => by
  obtain ⟨a1, n1, c1, a2, n2, c2, e0, e1, e2, e3, e4, e5, e6⟩ := h t g hg
  have ht := (List.getElem?_eq_some_iff.1 hg).1
  exact ⟨a1, n1, c1, a2, n2, c2, (he _ (by omega)).trans e0, (he _ (by omega)).trans e1, (he _ (by omega)).trans e2, (he _ (by omega)).trans e3, (he _ (by omega)).trans e4, (he _ (by omega)).trans e5, e6⟩
theorem SepF.congr {m : Nat} (h : SepF m f) (he : ∀ i, i < m → f' i = f i) : SepF m f' := fun i j k u v hi hj eu ev ku kv =>
  h i j k u v hi hj ((he i hi).symm.trans eu) ((he j hj).symm.trans ev) ku kv
theorem RowF.blocks (h : RowF w base f ops) {i : Nat} {u : Value} {k : Nat} (hi : i < ops.length * 6) (hu : f i = some u) (hk : u.ownBlock = some k) : base ≤ k ∧ k < w.heap.size ∧ ∃ cur fr, w.heap[k]? = some (.cells cur 3 fr) := by
  obtain ⟨t, r, hr, rfl⟩ : ∃ t r, r < 6 ∧ i = t * 6 + r := ⟨i / 6, i % 6, by omega, by omega⟩
  have ht : t < ops.length := by omega
  obtain ⟨a1, n1, c1, a2, n2, c2, e0, e1, e2, e3, e4, e5, e6⟩ := h t _ (List.getElem?_eq_getElem ht)
  have : r = 0 ∨ r = 1 ∨ r = 2 ∨ r = 3 ∨ r = 4 ∨ r = 5 := by omega
  rcases this with rfl | rfl | rfl | rfl | rfl | rfl
  · rw [Nat.add_zero, e0] at hu; cases hu; simp [Value.ownBlock] at hk
  · rw [e1] at hu; cases hu; simp [Value.ownBlock] at hk
  · rw [e2] at hu; cases hu; exact ⟨(e6.i1.lt k hk).1, (e6.i1.lt k hk).2, e6.i1.kind k hk⟩
  · rw [e3] at hu; cases hu; simp [Value.ownBlock] at hk
  · rw [e4] at hu; cases hu; simp [Value.ownBlock] at hk
  · rw [e5] at hu; cases hu; exact ⟨(e6.i2.lt k hk).1, (e6.i2.lt k hk).2, e6.i2.kind k hk⟩
end

/-- Operations in a row of the call's own, their lists each in a block of its own; xs are the row's cells. -/
structure OpsX (w : World) (base : Nat) (v : Value) (ops : List Gop) (xs : List Value) : Prop where
  own : w.ownsRow base 62 6 v ops.length xs
  sep : SepF (ops.length * 6) (fun i => xs[i]?)
  row : RowF w base (fun i => xs[i]?) ops
def OpsN (w : World) (base : Nat) (v : Value) (ops : List Gop) : Prop := ∃ xs, OpsX w base v ops xs
section
variable {w w' : World} {base base' : Nat} {v : Value} {ops : List Gop} {xs : List Value}
theorem OpsX.nil (w : World) (base : Nat) : OpsX w base (.slice none 0 0) [] [] := ⟨⟨rfl, Or.inl ⟨rfl, rfl⟩⟩, fun i j k u v hi => by simp at hi, fun t g h => by simp at h⟩
theorem OpsN.nil (w : World) (base : Nat) : OpsN w base (.slice none 0 0) [] := ⟨[], OpsX.nil w base⟩
theorem OpsX.ext (h : OpsX w base v ops xs) (k : Ext w w') : OpsX w' base v ops xs :=
  ⟨own_keep h.own (fun g _ _ hg => k.block g (Array.getElem?_eq_some_iff.1 hg).1), h.sep, h.row.map fun _ _ _ _ _ _ _ o => o.ext k⟩
theorem OpsN.ext (h : OpsN w base v ops) (k : Ext w w') : OpsN w' base v ops := h.elim fun _ hx => ⟨_, hx.ext k⟩
theorem own_keep3 {e : TypeId} {size n : Nat} (h : w.ownsRow base e size v n xs) (hk : ∀ g, v.ownBlock = some g → w'.heap[g]? = w.heap[g]?) : w'.ownsRow base e size v n xs := by
  refine ⟨h.1, ?_⟩
  rcases h.2 with h | ⟨g, cap, cur, hv, hb, hg, rest⟩
  · exact Or.inl h
  · exact Or.inr ⟨g, cap, cur, hv, hb, (hk g (by rw [hv]; rfl)).trans hg, rest⟩
theorem OpsX.keep (h : OpsX w base v ops xs) (hv : ∀ g, v.ownBlock = some g → w'.heap[g]? = w.heap[g]?) (hk : ∀ (b : Nat) (cur : Array Value) (fr : Nat × Nat), w.heap[b]? = some (.cells cur 3 fr) → w'.heap[b]? = w.heap[b]?) : OpsX w' base v ops xs :=
  ⟨own_keep3 h.own hv, h.sep, h.row.map fun _ _ _ _ _ _ _ o => o.keep hk⟩
/-- A block of another kind is written. -/
theorem OpsX.far {k : Nat} {cs : Array Value} {T : TypeId} {fr : Nat × Nat} (h : OpsX w base v ops xs) (hk : w.heap[k]? = some (.cells cs T fr)) (hT : T ≠ 3) (hT2 : T ≠ 62) (hO : Only k w w') : OpsX w' base v ops xs := by
  refine h.keep (fun g hg => hO.block g (fun e => ?_)) (only_ints hk hT hO)
  obtain ⟨_, cs', fr', e2⟩ := PtKind h.own g hg
  rw [e, hk] at e2
  cases e2
  exact hT2 rfl
theorem OpsN.far {k : Nat} {cs : Array Value} {T : TypeId} {fr : Nat × Nat} (h : OpsN w base v ops) (hk : w.heap[k]? = some (.cells cs T fr)) (hT : T ≠ 3) (hT2 : T ≠ 62) (hO : Only k w w') : OpsN w' base v ops := h.elim fun _ hx => ⟨_, hx.far hk hT hT2 hO⟩
/-- An older block is written, not of ints. -/
theorem OpsX.only {k : Nat} {cs : Array Value} {T : TypeId} {fr : Nat × Nat} (h : OpsX w base v ops xs) (hk : w.heap[k]? = some (.cells cs T fr)) (hT : T ≠ 3) (hO : Only k w w') (hb : k < base) : OpsX w' base v ops xs :=
  h.keep (fun g hg => hO.block g (by have := (PtKind h.own g hg).1; omega)) (only_ints hk hT hO)
theorem OpsN.only {k : Nat} {cs : Array Value} {T : TypeId} {fr : Nat × Nat} (h : OpsN w base v ops) (hk : w.heap[k]? = some (.cells cs T fr)) (hT : T ≠ 3) (hO : Only k w w') (hb : k < base) : OpsN w' base v ops := h.elim fun _ hx => ⟨_, hx.only hk hT hO hb⟩
theorem OpsN.down (h : OpsN w base v ops) (hb : base' ≤ base) : OpsN w base' v ops := by
  obtain ⟨xs, h⟩ := h
  refine ⟨xs, ⟨⟨h.own.1, ?_⟩, h.sep, h.row.map fun _ _ _ _ _ _ _ o => o.down hb⟩⟩
  rcases h.own.2 with h | ⟨g, cap, cur, hv, hbg, rest⟩
  · exact Or.inl h
  · exact Or.inr ⟨g, cap, cur, hv, by omega, rest⟩
theorem OpsN.o (h : OpsN w base v ops) : OpsO w base v ops := by
  obtain ⟨xs, h⟩ := h
  refine ⟨xs, h.own, fun t g hg => ?_⟩
  obtain ⟨a1, n1, c1, a2, n2, c2, e0, e1, e2, e3, e4, e5, e6⟩ := h.row t g hg
  exact ⟨a1, n1, c1, a2, n2, c2, e0, e1, e2, e3, e4, e5, e6.opO⟩
/-- What is named: where it lies, how much there is, all of it there. -/
theorem OpsN.at {a : Option Addr} {n c : Nat} (h : OpsN w base (.slice a n c) ops) : ops.length = n ∧ n ≤ c ∧ c ≤ 9223372036854775807 ∧ OpsAt w a n ops := by
  obtain ⟨a9, c9, ev9, h1, h2, h3⟩ := h.o.at
  injection ev9 with ea en ec
  subst ea; subst ec; subst en
  exact ⟨rfl, h1, by unfold maxLen at h2; omega, h3⟩
theorem OpsX.old (h : OpsX w base v ops xs) : ∀ (i : Nat) (u : Value) (k : Nat), xs[i]? = some u → u.ownBlock = some k → k < w.heap.size := fun i u k hu hk => by
  have hi : i < ops.length * 6 := by rw [← h.own.1]; exact (List.getElem?_eq_some_iff.1 hu).1
  exact (h.row.blocks hi hu hk).2.1
end
theorem six_block {k0 k1 : Int} {a1 : Option Addr} {n1 c1 : Nat} {k3 k4 : Int} {a2 : Option Addr} {n2 c2 : Nat} {j k : Nat} {u : Value} (hu : ([.int .i64 k0, .int .i64 k1, .slice a1 n1 c1, .int .i64 k3, .int .i64 k4, .slice a2 n2 c2] : List Value)[j]? = some u) (hk : u.ownBlock = some k) :
    (j = 2 ∧ (Value.slice a1 n1 c1).ownBlock = some k) ∨ (j = 5 ∧ (Value.slice a2 n2 c2).ownBlock = some k) := by
  match j, hu with
  | 0, hu => simp at hu; subst hu; simp [Value.ownBlock] at hk
  | 1, hu => simp at hu; subst hu; simp [Value.ownBlock] at hk
  | 2, hu => simp at hu; subst hu; exact Or.inl ⟨rfl, hk⟩
  | 3, hu => simp at hu; subst hu; simp [Value.ownBlock] at hk
  | 4, hu => simp at hu; subst hu; simp [Value.ownBlock] at hk
  | 5, hu => simp at hu; subst hu; exact Or.inr ⟨rfl, hk⟩
  | n + 6, hu => simp at hu
/-- One more behind them, its lists in blocks that are newer. -/
theorem OpsX.snoc {w w' : World} {base B : Nat} {v v' : Value} {ops : List Gop} {xs : List Value} {g : Gop} {a1 : Option Addr} {n1 c1 : Nat} {a2 : Option Addr} {n2 c2 : Nat} (h : OpsX w base v ops xs)
    (h1 : w'.ownsRow base 62 6 v' (ops.length + 1) (xs ++ [.int .i64 g.kind, .int .i64 g.k, .slice a1 n1 c1, .int .i64 g.q, .int .i64 g.bit, .slice a2 n2 c2]))
    (hk : ∀ (b : Nat) (cur : Array Value) (fr : Nat × Nat), w.heap[b]? = some (.cells cur 3 fr) → w'.heap[b]? = w.heap[b]?)
    (hB : ∀ (i : Nat) (u : Value) (k : Nat), xs[i]? = some u → u.ownBlock = some k → k < B) (hb : base ≤ B) (hO : OpN w' B g a1 n1 c1 a2 n2 c2) :
    OpsX w' base v' (ops ++ [g]) (xs ++ [.int .i64 g.kind, .int .i64 g.k, .slice a1 n1 c1, .int .i64 g.q, .int .i64 g.bit, .slice a2 n2 c2]) := by
  have hx : xs.length = ops.length * 6 := h.own.1
  have hl : (ops ++ [g]).length = ops.length + 1 := by simp
  have hr : ∀ j, (xs ++ [.int .i64 g.kind, .int .i64 g.k, .slice a1 n1 c1, .int .i64 g.q, .int .i64 g.bit, .slice a2 n2 c2])[ops.length * 6 + j]? = ([.int .i64 g.kind, .int .i64 g.k, .slice a1 n1 c1, .int .i64 g.q, .int .i64 g.bit, .slice a2 n2 c2] : List Value)[j]? := fun j => by
    rw [List.getElem?_append_right (by omega), hx, Nat.add_sub_cancel_left]
  have hlft : ∀ i, i < ops.length * 6 → (xs ++ [.int .i64 g.kind, .int .i64 g.k, .slice a1 n1 c1, .int .i64 g.q, .int .i64 g.bit, .slice a2 n2 c2])[i]? = xs[i]? := fun i hi => List.getElem?_append_left (by omega)
  refine ⟨by rw [hl]; exact h1, ?_, ?_⟩
  · rw [hl]
    intro i j k u v hi hj eu ev ku kv
    simp only at eu ev
    have key : ∀ p q x y, p < ops.length * 6 → ops.length * 6 ≤ q → (xs ++ [.int .i64 g.kind, .int .i64 g.k, .slice a1 n1 c1, .int .i64 g.q, .int .i64 g.bit, .slice a2 n2 c2])[p]? = some x → (xs ++ [.int .i64 g.kind, .int .i64 g.k, .slice a1 n1 c1, .int .i64 g.q, .int .i64 g.bit, .slice a2 n2 c2])[q]? = some y → x.ownBlock = some k → y.ownBlock = some k → False := by
      intro p q x y hp hq ex ey kx ky
      rw [hlft p hp] at ex
      have h1 := hB p x k ex kx
      obtain ⟨r, rfl⟩ : ∃ r, q = ops.length * 6 + r := ⟨q - ops.length * 6, by omega⟩
      rw [hr] at ey
      rcases six_block ey ky with ⟨_, e⟩ | ⟨_, e⟩
      · have := (hO.i1.lt k e).1; omega
      · have := (hO.i2.lt k e).1; omega
    by_cases h1 : i < ops.length * 6
    · by_cases h2 : j < ops.length * 6
      · exact h.sep i j k u v h1 h2 (by rw [hlft i h1] at eu; exact eu) (by rw [hlft j h2] at ev; exact ev) ku kv
      · exact (key i j u v h1 (by omega) eu ev ku kv).elim
    · by_cases h2 : j < ops.length * 6
      · exact (key j i v u h2 (by omega) ev eu kv ku).elim
      · obtain ⟨r, rfl⟩ : ∃ r, i = ops.length * 6 + r := ⟨i - ops.length * 6, by omega⟩
        obtain ⟨s, rfl⟩ : ∃ s, j = ops.length * 6 + s := ⟨j - ops.length * 6, by omega⟩
        rw [hr] at eu ev
        rcases six_block eu ku with ⟨e1, f1⟩ | ⟨e1, f1⟩ <;> rcases six_block ev kv with ⟨e2, f2⟩ | ⟨e2, f2⟩
        · omega
        · exact absurd f2 (hO.ne k f1)
        · exact absurd f1 (hO.ne k f2)
        · omega
  · intro t gg hgg
    have ht := (List.getElem?_eq_some_iff.1 hgg).1
    rw [hl] at ht
    by_cases e : t = ops.length
    · subst e
      rw [List.getElem?_append_right (Nat.le_refl _), Nat.sub_self] at hgg
      cases hgg
      exact ⟨a1, n1, c1, a2, n2, c2, hr 0, hr 1, hr 2, hr 3, hr 4, hr 5, hO.down hb⟩
    · rw [List.getElem?_append_left (by omega)] at hgg
      obtain ⟨b1, m1, d1, b2, m2, d2, e0, e1, e2, e3, e4, e5, e6⟩ := h.row t gg hgg
      exact ⟨b1, m1, d1, b2, m2, d2, (hlft _ (by omega)).trans e0, (hlft _ (by omega)).trans e1, (hlft _ (by omega)).trans e2, (hlft _ (by omega)).trans e3, (hlft _ (by omega)).trans e4, (hlft _ (by omega)).trans e5, e6.keep hk⟩

/-- The row itself: its block and the cells in it. -/
theorem opsN_open {w : World} {base : Nat} {a : Option Addr} {n c : Nat} {ops : List Gop} (h : OpsN w base (.slice a n c) ops) (hn : 0 < n) :
    ops.length = n ∧ ∃ g cur, a = some ⟨g, 0, none⟩ ∧ base ≤ g ∧ w.heap[g]? = some (.cells cur 62 (0, 0)) ∧ n ≤ c ∧ c ≤ maxLen ∧ cur.size = c * 6 ∧ SepF (n * 6) (fun i => cur[i]?) ∧ RowF w base (fun i => cur[i]?) ops := by
  obtain ⟨xs, h⟩ := h
  rcases h.own.2 with ⟨e, h0⟩ | ⟨g, cap, cur, hv, hb, hg, hnc, hcm, hsz, htk⟩
  · injection e with _ e2 _; omega
  · injection hv with e1 e2 e3
    subst e1; subst e3
    have hc : ∀ j, j < ops.length * 6 → cur[j]? = xs[j]? := by
      intro j hj
      rw [← htk, List.getElem?_take, if_pos hj, Array.getElem?_toList]
    refine ⟨e2.symm, g, cur, rfl, hb, hg, by omega, hcm, hsz, ?_, h.row.congr hc⟩
    rw [e2]
    exact h.sep.congr hc
theorem opsN_close {w : World} {base g n c : Nat} {cur : Array Value} {ops : List Gop} (hl : ops.length = n) (hb : base ≤ g) (hg : w.heap[g]? = some (.cells cur 62 (0, 0))) (hnc : n ≤ c) (hcm : c ≤ maxLen) (hsz : cur.size = c * 6) (hS : SepF (n * 6) (fun i => cur[i]?)) (h : RowF w base (fun i => cur[i]?) ops) :
    OpsN w base (.slice (some ⟨g, 0, none⟩) n c) ops := by
  have hc : ∀ j, j < ops.length * 6 → (cur.toList.take (n * 6))[j]? = cur[j]? := by
    intro j hj
    rw [List.getElem?_take, if_pos (by omega), Array.getElem?_toList]
  refine ⟨cur.toList.take (n * 6), ⟨by rw [List.length_take, Array.length_toList, hsz, hl]; omega, Or.inr ⟨g, c, cur, by rw [hl], hb, hg, by omega, hcm, hsz, by rw [hl]⟩⟩, ?_, h.congr hc⟩
  rw [hl]
  exact hS.congr fun i hi => hc i (by omega)

end Go.Proofs.YtbmjobpobjfjeaaDoor
namespace Go.Proofs.YtbmjobpobjfjeaaDoor
open Go.RowKit

set_option maxHeartbeats 4000000 in
set_option maxRecDepth 100000 in
theorem ccopyOp_N (o : Gop) (a1 : Option Addr) (n1 c1 : Nat) (a2 : Option Addr) (n2 c2 : Nat) (w : World) (h : OpL w o a1 n1 c1 a2 n2 c2) (hb1 : n1 * 8 ≤ 140737488355328) (hb2 : n2 * 8 ≤ 140737488355328) :
    Calls Tryd.prog 63 #[.agg #[.int .i64 o.kind, .int .i64 o.k, .slice a1 n1 c1, .int .i64 o.q, .int .i64 o.bit, .slice a2 n2 c2]] w fun e w' => (∃ (a1' : Option Addr) (c1' : Nat) (a2' : Option Addr) (c2' : Nat), e = .returned (.agg #[.int .i64 o.kind, .int .i64 o.k, .slice a1' n1 c1', .int .i64 o.q, .int .i64 o.bit, .slice a2' n2 c2']) ∧ OpN w' w.heap.size o a1' n1 c1' a2' n2 c2') ∧ Ext w w' := by
  obtain ⟨kd, k, ctl, q, bt, cnd⟩ := o
  have E0 := (ext_al w (.cells #[.int .i64 kd, .int .i64 k, .slice a1 n1 c1, .int .i64 q, .int .i64 bt, .slice a2 n2 c2] 62)).trans (ext_al _ (.cells #[.int .i64 0, .int .i64 0, .slice none 0 0, .int .i64 0, .int .i64 0, .slice none 0 0] 62))
  have bx := (opbx_new w kd k a1 n1 c1 q bt a2 n2 c2).ext (ext_al _ (.cells #[.int .i64 0, .int .i64 0, .slice none 0 0, .int .i64 0, .int .i64 0, .slice none 0 0] 62))
  have br := opbx_new (w.alloc (.cells #[.int .i64 kd, .int .i64 k, .slice a1 n1 c1, .int .i64 q, .int .i64 bt, .slice a2 n2 c2] 62)) 0 0 none 0 0 0 0 none 0 0
  rw [show (w.alloc (.cells #[.int .i64 kd, .int .i64 k, .slice a1 n1 c1, .int .i64 q, .int .i64 bt, .slice a2 n2 c2] 62)).heap.size = w.heap.size + 1 from by simp] at br
  have HE0 := Lib.hid E0; have HL := Lib.hid (h.ext E0); have Hbx := Lib.hid bx; have Hbr := Lib.hid br
  simp only
  clear h E0 bx br
  go_enter Tryd.func63, Tryd.ntmps63
  go_upto_region 1 with fail
  generalize (w.alloc (.cells #[.int .i64 kd, .int .i64 k, .slice a1 n1 c1, .int .i64 q, .int .i64 bt, .slice a2 n2 c2] 62)).alloc (.cells #[.int .i64 0, .int .i64 0, .slice none 0 0, .int .i64 0, .int .i64 0, .slice none 0 0] 62) = W0 at *
  have hd0 : Ext W0 W0.drew := Below.drew (Ext.refl _)
  have HC1 := Lib.hid (fun wx (hx : Ext W0 wx) => copyList_any a1 n1 c1 ctl wx (HL.out.i1.ext hx) hb1)
  have HC2 := Lib.hid (fun wx (hx : Ext W0 wx) => copyList_any a2 n2 c2 cnd wx (HL.out.i2.ext hx) hb2)
  have v2 := Hbx.out.x2; have v5 := Hbx.out.x5
  refine wp_region_K 7 (fun w' => w'.cell? ⟨w.heap.size, 2, none⟩ = some (.slice a1 n1 c1) ∧ w'.cell? ⟨w.heap.size, 5, none⟩ = some (.slice a2 n2 c2)) (by kernel_rfl) ?_
  show anyK _ _ _ _ _ _ 10 #[false, false, false, false, false, false, false, false, false, false] _ _
  have hHeld : W0.drew.cell? ⟨w.heap.size, 2, none⟩ = some (.slice a1 n1 c1) ∧ W0.drew.cell? ⟨w.heap.size, 5, none⟩ = some (.slice a2 n2 c2) := ⟨v2, v5⟩
  refine anyK_take (i := 0) (v := ?_) rfl (by kernel_rfl) (by kernel_rfl) (by kernel_rfl) (N := 10) (by kernel_rfl) (by kernel_rfl) (by kernel_rfl) (fun _ _ _ h => h) (Or.inl ⟨by rfl, ?_⟩) hHeld ?_
  rotate_left 1
  · intro w hSw
    go_simp
    try with_reducible rfl
  show anyK _ _ _ _ _ _ _ _ (Act.put _ (some 3) _) _
  simp only [Act.put, List.setIfInBounds_toArray, List.set_cons_zero, List.set_cons_succ]
  refine anyK_take (i := 1) (v := ?_) rfl (by kernel_rfl) (by kernel_rfl) (by kernel_rfl) (N := 10) (by kernel_rfl) (by kernel_rfl) (by kernel_rfl) (fun _ _ _ h => h) (Or.inl ⟨by rfl, ?_⟩) hHeld ?_
  rotate_left 1
  · intro w hSw
    go_simp
    try with_reducible rfl
  show anyK _ _ _ _ _ _ _ _ (Act.put _ (some 4) _) _
  simp only [Act.put, List.setIfInBounds_toArray, List.set_cons_zero, List.set_cons_succ]
  refine anyK_take (i := 3) (v := ?_) rfl (by kernel_rfl) (by kernel_rfl) (by kernel_rfl) (N := 10) (by kernel_rfl) (by kernel_rfl) (by kernel_rfl) (fun _ _ _ h => h) (Or.inl ⟨by rfl, ?_⟩) hHeld ?_
  rotate_left 1
  · intro w hSw
    go_simp
    try with_reducible rfl
  show anyK _ _ _ _ _ _ _ _ (Act.put _ (some 6) _) _
  simp only [Act.put, List.setIfInBounds_toArray, List.set_cons_zero, List.set_cons_succ]
  refine anyK_take (i := 4) (v := ?_) rfl (by kernel_rfl) (by kernel_rfl) (by kernel_rfl) (N := 10) (by kernel_rfl) (by kernel_rfl) (by kernel_rfl) (fun _ _ _ h => h) (Or.inl ⟨by rfl, ?_⟩) hHeld ?_
  rotate_left 1
  · intro w hSw
    go_simp
    try with_reducible rfl
  show anyK _ _ _ _ _ _ _ _ (Act.put _ (some 7) _) _
  simp only [Act.put, List.setIfInBounds_toArray, List.set_cons_zero, List.set_cons_succ]
  clear hHeld
  refine anyK_one (i := 2) (by kernel_rfl) rfl (fun Kk hKk => ?_)
  go_simp
  (go_at_call 83; refine (HC1.out _ hd0).mono ?_; rintro e w4 ⟨v', rfl, hown1, hx4⟩)
  obtain ⟨a3, c3, rfl, I3⟩ := io_of_own hown1
  have hx4' := hd0.trans hx4
  have b4 := Hbx.out.ext hx4'
  have x2 := b4.x2; have x5 := b4.x5
  go_wp2_with fail
  refine hKk.out _ _ (fun _ => ⟨x2, x5⟩) ?_
  clear hKk Kk
  simp only [List.setIfInBounds_toArray, List.set_cons_zero, List.set_cons_succ]
  have hHeld : w4.cell? ⟨w.heap.size, 2, none⟩ = some (.slice a1 n1 c1) ∧ w4.cell? ⟨w.heap.size, 5, none⟩ = some (.slice a2 n2 c2) := ⟨x2, x5⟩
  refine anyK_take (i := 6) (v := ?_) rfl (by kernel_rfl) (by kernel_rfl) (by kernel_rfl) (N := 10) (by kernel_rfl) (by kernel_rfl) (by kernel_rfl) (fun _ _ _ h => h) (Or.inl ⟨by rfl, ?_⟩) hHeld ?_
  rotate_left 1
  · intro w hSw
    go_simp
    try with_reducible rfl
  show anyK _ _ _ _ _ _ _ _ (Act.put _ (some 9) _) _
  simp only [Act.put, List.setIfInBounds_toArray, List.set_cons_zero, List.set_cons_succ]
  clear hHeld
  refine anyK_one (i := 5) (by kernel_rfl) rfl (fun Kk hKk => ?_)
  go_simp
  (have _ := hx4; go_at_call 83; refine (HC2.out _ hx4').mono ?_; rintro e w5 ⟨v'', rfl, hown2, hx5⟩)
  obtain ⟨a5, c5, rfl, I5⟩ := io_of_own hown2
  have Hne := Lib.hid (show ∀ k, (Value.slice a3 n1 c3).ownBlock = some k → (Value.slice a5 n2 c5).ownBlock ≠ some k from fun k h1 h2 => by
    have h3 := (I3.lt k h1).2
    have h4 := (I5.lt k h2).1
    omega)
  have HW4 := Lib.hid (HE0.out.trans hx4').size; have HW0 := Lib.hid HE0.out.size
  have hx5' := hx4'.trans hx5
  have b5 := Hbx.out.ext hx5'
  have y2 := b5.x2; have y5 := b5.x5; have z2 := b5.f 2
  go_wp2_with fail
  refine hKk.out _ _ (fun _ => ⟨y2, y5⟩) ?_
  clear hKk Kk
  simp only [List.setIfInBounds_toArray, List.set_cons_zero, List.set_cons_succ]
  refine anyK_one (i := 7) (by kernel_rfl) rfl (fun Kk hKk => ?_)
  refine stepK_storeI rfl rfl _ _ rfl w.heap.size 2 a3 n1 c3 (.slice a1 n1 c1) rfl rfl y2 z2 ?_
  refine hKk.out _ _ (fun h => Bool.noConfusion (show true = false from h)) ?_
  clear hKk Kk
  simp only [List.setIfInBounds_toArray, List.set_cons_zero, List.set_cons_succ]
  have b6 := b5.set2 a3 n1 c3
  have hk1 := only_ints b5.row (by decide) (only1 w5 w.heap.size 2 (.slice a3 n1 c3))
  have I6 := (I3.ext hx5).keep hk1
  have I7 := I5.keep hk1
  have HE6 := Lib.hid (p := Ext w _) (Below.setCell (HE0.out.trans hx5') (p := ⟨w.heap.size, 2, none⟩) (Nat.le_refl _) (.slice a3 n1 c3))
  have br6 : OpBx (w5.setCell ⟨w.heap.size, 2, none⟩ (.slice a3 n1 c3)) (w.heap.size + 1) 0 0 none 0 0 0 0 none 0 0 := ⟨((only1 w5 w.heap.size 2 (.slice a3 n1 c3)).block _ (by omega)).trans (Hbr.out.ext hx5').row⟩
  have u5 := b6.x5; have s5 := b6.f 5
  clear b4 b5 x2 x5 y2 y5 z2 I3 I5 hk1 hx4 hx5 hx4' hx5' hown1 hown2 v2 v5 hd0
  generalize w5.setCell ⟨w.heap.size, 2, none⟩ (.slice a3 n1 c3) = W6 at *
  refine anyK_one (i := 8) (by kernel_rfl) rfl (fun Kk hKk => ?_)
  go_wp2_with fail
  refine hKk.out _ _ (fun h => Bool.noConfusion (show true = false from h)) ?_
  clear hKk Kk
  simp only [List.setIfInBounds_toArray, List.set_cons_zero, List.set_cons_succ]
  refine anyK_one (i := 9) (by kernel_rfl) rfl (fun Kk hKk => ?_)
  refine stepK_storeI rfl rfl _ _ rfl w.heap.size 5 a5 n2 c5 (.slice a2 n2 c2) rfl rfl u5 s5 ?_
  refine hKk.out _ _ (fun h => Bool.noConfusion (show true = false from h)) ?_
  clear hKk Kk
  simp only [List.setIfInBounds_toArray, List.set_cons_zero, List.set_cons_succ]
  refine anyK_done (by kernel_rfl) ?_ _
  have b8 := b6.set5 a5 n2 c5
  have hk3 := only_ints b6.row (by decide) (only1 W6 w.heap.size 5 (.slice a5 n2 c5))
  have I8 := I6.keep hk3
  have I9 := I7.keep hk3
  have HE8 := Lib.hid (p := Ext w _) (Below.setCell HE6.out (p := ⟨w.heap.size, 5, none⟩) (Nat.le_refl _) (.slice a5 n2 c5))
  have br8 : OpBx (W6.setCell ⟨w.heap.size, 5, none⟩ (.slice a5 n2 c5)) (w.heap.size + 1) 0 0 none 0 0 0 0 none 0 0 := ⟨((only1 W6 w.heap.size 5 (.slice a5 n2 c5)).block _ (by omega)).trans br6.row⟩
  clear b6 br6 I6 I7 hk3 u5 s5 HE6
  generalize W6.setCell ⟨w.heap.size, 5, none⟩ (.slice a5 n2 c5) = W8 at *
  have hk4 := only_ints br8.row (by decide) (onl6 W8 (w.heap.size + 1) (.int .i64 kd) (.int .i64 k) (.slice a3 n1 c3) (.int .i64 q) (.int .i64 bt) (.slice a5 n2 c5))
  have HI8 := Lib.hid (I8.keep hk4); have HI9 := Lib.hid (I9.keep hk4)
  have p0 := b8.x0; have p1 := b8.x1; have p2 := b8.x2; have p3 := b8.x3; have p4 := b8.x4; have p5 := b8.x5
  have r0 := br8.x0; have r1 := br8.x1; have r2 := br8.x2; have r3 := br8.x3; have r4 := br8.x4; have r5 := br8.x5
  have g0 := br8.f 0; have g1 := br8.f 1; have g2 := br8.f 2; have g3 := br8.f 3; have g4 := br8.f 4; have g5 := br8.f 5
  clear b8 br8 I8 I9 hk4
  go_wp2_with fail
  exact bodyPost_ret (v := .agg #[.int .i64 kd, .int .i64 k, .slice a3 n1 c3, .int .i64 q, .int .i64 bt, .slice a5 n2 c5]) (by simp [results, Tryd.results63, go_sem, r0, r1, r2, r3, r4, r5]) rfl ⟨⟨a3, c3, a5, c5, rfl, ⟨HI8.out.down (by have h1 := HW0.out; simpa using h1), HI9.out.down HW4.out, Hne.out⟩⟩, put6 HE8.out (by omega) _ _ _ _ _ _⟩

end Go.Proofs.YtbmjobpobjfjeaaDoor
namespace Go.Proofs.YtbmjobpobjfjeaaDoor
open Go.RowKit

/-- The six cells of an operation. -/
def opF (g : Gop) (a1 : Option Addr) (n1 c1 : Nat) (a2 : Option Addr) (n2 c2 : Nat) : Nat → Value
  | 0 => .int .i64 g.kind
  | 1 => .int .i64 g.k
  | 2 => .slice a1 n1 c1
  | 3 => .int .i64 g.q
  | 4 => .int .i64 g.bit
  | _ => .slice a2 n2 c2
def putAt (W : World) (g p : Nat) (f : Nat → Value) : World :=
  (((((W.setCell ⟨g, p, none⟩ (f 0)).setCell ⟨g, p + 1, none⟩ (f 1)).setCell ⟨g, p + 2, none⟩ (f 2)).setCell ⟨g, p + 3, none⟩ (f 3)).setCell ⟨g, p + 4, none⟩ (f 4)).setCell ⟨g, p + 5, none⟩ (f 5)
theorem putAt_row {W : World} {g p : Nat} {cs : Array Value} {t : TypeId} (f : Nat → Value) (h : W.heap[g]? = some (.cells cs t (0, 0))) : (putAt W g p f).heap[g]? = some (.cells (set6 cs p f) t (0, 0)) :=
  row_put (row_put (row_put (row_put (row_put (row_put h rfl) rfl) rfl) rfl) rfl) rfl
theorem putAt_only (W : World) (g p : Nat) (f : Nat → Value) : Only g W (putAt W g p f) := ((((((Only.refl _ _).setCell _ _).setCell _ _).setCell _ _).setCell _ _).setCell _ _).setCell _ _
theorem putAt_size (W : World) (g p : Nat) (f : Nat → Value) : (putAt W g p f).heap.size = W.heap.size := by simp [putAt]
/-- All but the row's own block is as it was. -/
structure Rvs (v : Value) (w w' : World) : Prop where
  os : w'.os = w.os
  tape : w'.tape = w.tape
  output : w'.output = w.output
  size : w'.heap.size = w.heap.size
  block : ∀ k, v.ownBlock ≠ some k → w'.heap[k]? = w.heap[k]?
theorem Rvs.refl (v : Value) (w : World) : Rvs v w w := ⟨rfl, rfl, rfl, rfl, fun _ _ => rfl⟩
theorem Rvs.of_only {g n c : Nat} {w w' : World} (h : Only g w w') : Rvs (.slice (some ⟨g, 0, none⟩) n c) w w' := ⟨h.os, h.tape, h.output, h.size, fun k hk => h.block k (fun e => hk (by rw [e]; rfl))⟩
theorem Rvs.ext {v : Value} {w0 w w' : World} (h : Rvs v w w') (k : Ext w0 w) (hv : ∀ i, v.ownBlock = some i → w0.heap.size ≤ i) : Ext w0 w' :=
  Below.trans k ⟨h.os, h.tape, h.output, Nat.le_of_eq h.size.symm, fun i hi => h.block i (fun e => by have := hv i e; omega)⟩
theorem CiB.rvs {v : Value} {w w' : World} {g : Nat} {qb bi : Int} {ao : Option Addr} {n cp : Nat} (h : CiB w g qb bi ao n cp) (k : Rvs v w w') (hv : v.ownBlock ≠ some g) : CiB w' g qb bi ao n cp := ⟨(k.block g hv).trans h.row⟩
theorem FtB.rvs {v : Value} {w w' : World} {g : Nat} {x y : Int} (h : FtB w g x y) (k : Rvs v w w') (hv : v.ownBlock ≠ some g) : FtB w' g x y := ⟨(k.block g hv).trans h.row⟩
theorem Only.drewn {g : Nat} {w w' : World} (h : Only g w w') : Only g w w'.drew := ⟨h.os, h.tape, h.output, h.size, h.block⟩
end Go.Proofs.YtbmjobpobjfjeaaDoor
namespace Go.Proofs.YtbmjobpobjfjeaaDoor
open Go.RowKit

/-- A circuit into one variable, a fault into another. -/
def putCF (W : World) (g gf : Nat) (q b : Int) (a : Option Addr) (n c : Nat) (u v : Int) : World :=
  ((((W.setCell ⟨g, 0, none⟩ (.int .i64 q)).setCell ⟨g, 1, none⟩ (.int .i64 b)).setCell ⟨g, 2, none⟩ (.slice a n c)).setCell ⟨gf, 0, none⟩ (.int .i64 u)).setCell ⟨gf, 1, none⟩ (.int .i64 v)
theorem putCF_C {W : World} {g gf : Nat} {q0 b0 : Int} {a0 : Option Addr} {n0 c0 : Nat} (h : CiB W g q0 b0 a0 n0 c0) (hne : g ≠ gf) (q b : Int) (a : Option Addr) (n c : Nat) (u v : Int) : CiB (putCF W g gf q b a n c u v) g q b a n c :=
  ⟨row_far (row_far (((h.set0 q).set1 b).set2 a n c).row (by omega)) (by omega)⟩
theorem putCF_F {W : World} {g gf : Nat} {u0 v0 : Int} (h : FtB W gf u0 v0) (hne : g ≠ gf) (q b : Int) (a : Option Addr) (n c : Nat) (u v : Int) : FtB (putCF W g gf q b a n c u v) gf u v :=
  ⟨row_put (row_put (row_far (row_far (row_far h.row (by omega)) (by omega)) (by omega)) rfl) rfl⟩
theorem putCF_ext {w W : World} {g gf : Nat} (h : Ext w W) (hg : w.heap.size ≤ g) (hf : w.heap.size ≤ gf) (q b : Int) (a : Option Addr) (n c : Nat) (u v : Int) : Ext w (putCF W g gf q b a n c u v) :=
  cput (o := 1) (cput (o := 0) (cput (o := 2) (cput (o := 1) (cput (o := 0) h hg _) hg _) hg _) hf _) hf _
theorem CiB.drew {W : World} {g : Nat} {qb bi : Int} {ao : Option Addr} {n cp : Nat} (h : CiB W g qb bi ao n cp) : CiB W.drew g qb bi ao n cp := ⟨h.row⟩
theorem FtB.drew {W : World} {g : Nat} {u v : Int} (h : FtB W g u v) : FtB W.drew g u v := ⟨h.row⟩

end Go.Proofs.YtbmjobpobjfjeaaDoor
namespace Go.Proofs.YtbmjobpobjfjeaaDoor
open Go.RowKit

def opp (k : Int) : Int := (16 - k).tmod 16
/-- An operation undone. -/
def undoO (g : Gop) : Gop := { g with k := opp g.k }
/-- Operations undone. -/
def invO (ops : List Gop) : List Gop := ops.reverse.map undoO
/-- The first i of them undone, in place. -/
def invF (ops : List Gop) (i : Nat) : List Gop := (ops.take i).map undoO ++ ops.drop i
theorem invF_len (ops : List Gop) (i : Nat) : (invF ops i).length = ops.length := by
  unfold invF
  simp only [List.length_append, List.length_map, List.length_take, List.length_drop]
  omega
theorem invF_get {ops : List Gop} {i t : Nat} (ht : t < ops.length) : (invF ops i)[t]? = if t < i then ops[t]?.map undoO else ops[t]? := by
  unfold invF
  by_cases h : t < i
  · rw [if_pos h, List.getElem?_append_left (by rw [List.length_map, List.length_take]; omega), List.getElem?_map, List.getElem?_take, if_pos h]
  · rw [if_neg h, List.getElem?_append_right (by rw [List.length_map, List.length_take]; omega), List.length_map, List.length_take, List.getElem?_drop]
    congr 1; omega
theorem invF_zero (ops : List Gop) : invF ops 0 = ops := by simp [invF]
theorem invF_all {ops : List Gop} {i : Nat} (h : ops.length ≤ i) : invF ops i = ops.map undoO := by
  unfold invF
  rw [List.take_of_length_le h, List.drop_eq_nil_of_le h, List.append_nil]
theorem pur_zero {c : Gci} (h : (pur c).1 = 0) : (chk c).1 = 0 ∧ pur c = (0, 0) := by
  have key : ∀ (l : List Gop) (i : Nat), (purF i l).1 = 0 → purF i l = (0, 0) := by
    intro l
    induction l with
    | nil => intro i _; rfl
    | cons o r ih =>
      intro i h
      rw [purF] at h ⊢
      by_cases hc : 5 ≤ o.kind ∨ 0 < o.cnd.length
      · rw [if_pos hc] at h; exact absurd h (show ¬ (15 : Int) = 0 by decide)
      · rw [if_neg hc] at h ⊢; exact ih _ h
  unfold pur at h ⊢
  by_cases hc : (chk c).1 ≠ 0
  · rw [if_pos hc] at h; exact absurd h hc
  · rw [if_neg hc] at h ⊢; exact ⟨by omega, key _ _ h⟩

theorem opposite_any (k : Int) (w : World) (h0 : 0 ≤ k) (h1 : k ≤ 16) : Calls Tryd.prog 34 #[.int .i64 k] w fun e w' => e = .returned (.int .i64 (opp k)) ∧ w' = w := by
  obtain ⟨r, hr⟩ : ∃ r, opp k = r := ⟨_, rfl⟩
  rw [hr]
  unfold opp at hr
  obtain ⟨d, hd⟩ : ∃ d, 16 - k = d := ⟨_, rfl⟩
  rw [hd] at hr
  have w1 : IntKind.i64.wrap (16 - k) = d := by rw [IntKind.wrap_i64]; omega
  have hdr : d.tmod 16 = r := hr
  have w2 : IntKind.i64.wrap (d.tmod 16) = r := by
    rw [hdr, IntKind.wrap_i64]
    have : 0 ≤ r ∧ r < 16 := by rw [← hr]; exact ⟨Int.tmod_nonneg _ (by omega), Int.tmod_lt_of_pos _ (by omega)⟩
    omega
  clear hr hd
  go_enter Tryd.func34, Tryd.ntmps34
  go_wp2_with fail
  go_ret
  exact ⟨rfl, rfl⟩

theorem stepK_storeN {ops : Array Oper} {o : Oper} {a : Act} {K : Act → World → Prop} {Q : Exit → Act → World → Prop} {E : Prop} {w : World} (hgd : o.guard = none) (hd : o.dst = none) (p x : Operand)
    (ho : o.op = .store 3 p x) (b off : Nat) (z : Int) (u : Value) (hp : a.eval p = .pointer (some ⟨b, off, none⟩)) (hx : a.eval x = .int .i64 z)
    (hcell : w.cell? ⟨b, off, none⟩ = some u) (hfz : w.frozen? ⟨b, off, none⟩ = false) (h : K a (w.setCell ⟨b, off, none⟩ (.int .i64 z))) :
    if Region.wanted o (yielded ops a.tmps) = true then Oper.wp Tryd.prog o a w K Q else E := by
  have hw : Region.wanted o (yielded ops a.tmps) = true := by simp [Region.wanted, hgd]
  rw [if_pos hw]
  obtain ⟨od, oo, ot, opp, oa, og⟩ := o
  simp only at ho hd
  subst ho hd
  have HH := Lib.hid h
  clear h
  unfold Oper.wp execOp
  simp only [hp, hx]
  go_simp
  exact HH.out

end Go.Proofs.YtbmjobpobjfjeaaDoor
namespace Go.Proofs.YtbmjobpobjfjeaaDoor
open Go.RowKit

theorem opk_range {g : Gop} {n b : Int} (h : opCode g n b = 0) : 0 ≤ g.k ∧ g.k ≤ 15 := by
  unfold opCode at h
  split at h
  · omega
  · split at h
    · omega
    · next hk =>
      unfold fitsB at hk
      split at hk
      · unfold below at hk
        simp at hk
        omega
      · simp at hk
        omega

end Go.Proofs.YtbmjobpobjfjeaaDoor
namespace Go.Proofs.YtbmjobpobjfjeaaDoor
open Go.RowKit

/-- Operations in a row stand where a variable of another kind is written. -/
theorem OpsO.far {w w' : World} {base k : Nat} {v : Value} {ops : List Gop} {cs : Array Value} {T : TypeId} {fr : Nat × Nat} (h : OpsO w base v ops) (hk : w.heap[k]? = some (.cells cs T fr)) (hT : T ≠ 3) (hT2 : T ≠ 62) (hO : Only k w w') : OpsO w' base v ops := by
  obtain ⟨xs, h1, h2⟩ := h
  refine ⟨xs, ?_, fun t g hg => ?_⟩
  · refine own_keep2 h1 (fun g hg => hO.block g (fun e => ?_))
    obtain ⟨_, cs', fr', e2⟩ := PtKind h1 g hg
    rw [e, hk] at e2
    cases e2
    exact hT2 rfl
  · obtain ⟨a1, n1, c1, a2, n2, c2, e0, e1, e2, e3, e4, e5, e6⟩ := h2 t g hg
    exact ⟨a1, n1, c1, a2, n2, c2, e0, e1, e2, e3, e4, e5, e6.keep (Nat.le_of_eq hO.size.symm) (only_ints hk hT hO)⟩

end Go.Proofs.YtbmjobpobjfjeaaDoor
namespace Go.Proofs.YtbmjobpobjfjeaaDoor
open Go.RowKit

theorem FtB.kept {w w' : World} {k g : Nat} {x y : Int} (h : FtB w g x y) (hO : Only k w w') (hk : g ≠ k) : FtB w' g x y := ⟨(hO.block g hk).trans h.row⟩
theorem only2 (W : World) (A : Nat) (u v : Value) : Only A W ((W.setCell ⟨A, 0, none⟩ u).setCell ⟨A, 1, none⟩ v) := ((Only.refl _ _).setCell _ _).setCell _ _
end Go.Proofs.YtbmjobpobjfjeaaDoor
namespace Go.Proofs.YtbmjobpobjfjeaaDoor
open Go.RowKit

/-- A circuit and a fault are laid into two variables: a row of operations stands. -/
theorem putCF_opsN {W : World} {R F base : Nat} {v : Value} {ops : List Gop} {x y p q : Int} {a0 : Option Addr} {n0 c0 : Nat} (h : OpsN W base v ops) (hR : CiB W R x y a0 n0 c0) (hF : FtB W F p q) (hne : R ≠ F) (qb bi : Int) (ao : Option Addr) (n cp : Nat) (u w : Int) : OpsN (putCF W R F qb bi ao n cp u w) base v ops := by
  have hP1 : Only R W (((W.setCell ⟨R, 0, none⟩ (.int .i64 qb)).setCell ⟨R, 1, none⟩ (.int .i64 bi)).setCell ⟨R, 2, none⟩ (.slice ao n cp)) := (((Only.refl _ _).setCell _ _).setCell _ _).setCell _ _
  exact (h.far hR.row (by decide) (by decide) hP1).far (hF.kept hP1 (fun e => hne e.symm)).row (by decide) (by decide) (only2 _ F _ _)

end Go.Proofs.YtbmjobpobjfjeaaDoor
