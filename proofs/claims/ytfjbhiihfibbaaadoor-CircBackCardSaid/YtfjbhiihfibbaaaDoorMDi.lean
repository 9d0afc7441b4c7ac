/-
  The reader: an operation.
-/
import Derived.Test.YtfjbhiihfibbaaaDoorMDe
import Derived.Test.YtfjbhiihfibbaaaDoorMBw

namespace Go.Proofs.YtfjbhiihfibbaaaDoor
open Go.RowKit

theorem row_put {W : World} {g k : Nat} {cs cs' : Array Value} {t : TypeId} {u : Value} (h : W.heap[g]? = some (.cells cs t (0, 0))) (e : cs.setIfInBounds k u = cs') : (W.setCell ⟨g, k, none⟩ u).heap[g]? = some (.cells cs' t (0, 0)) := by
  rw [setCell_eq_setRow W g k _ _ _ _ h, setRow_heap W g _ _ _ _ h, e]
theorem row_far {W : World} {g g' k : Nat} {x : Obj} {u : Value} (h : W.heap[g]? = some x) (hne : g' ≠ g) : (W.setCell ⟨g', k, none⟩ u).heap[g]? = some x := by
  rw [Below.heap_setCell W ⟨g', k, none⟩ u g (fun e => hne e.symm)]; exact h
theorem Mvd.putNew {R : Nat} {w a : World} (h : Mvd R w a) {g : Nat} (hg : w.heap.size ≤ g) (k : Nat) (u : Value) : Mvd R w (a.setCell ⟨g, k, none⟩ u) := by
  have hb := Below.setCell (B := g) (a := a) (w := a) (Below.refl g a) (p := ⟨g, k, none⟩) (Nat.le_refl g) u
  exact ⟨hb.os.trans h.os, hb.tape.trans h.tape, hb.output.trans h.output, Nat.le_trans h.size hb.size, fun i hi hne => (Below.heap_setCell a ⟨g, k, none⟩ u i (by show i ≠ g; omega)).trans (h.block i hi hne)⟩
theorem ints_mvd {R : Nat} {W W' : World} {a : Option Addr} {n : Nat} {l : List Int} (h : IntsAt W a n l) (k : Mvd R W W') (hne : ∀ b o, a = some ⟨b, o, none⟩ → b ≠ R) : IntsAt W' a n l := by
  refine ⟨h.1, ?_⟩
  rcases h.2 with h0 | ⟨b, o, e, hb, hc⟩
  · exact Or.inl h0
  · refine Or.inr ⟨b, o, e, Nat.lt_of_lt_of_le hb k.size, fun t ht => ?_⟩
    rw [World.cell?_of_block (w := W) (k.block b hb (hne b o e))]
    exact hc t ht

theorem ty_mvd {R : Nat} {W W' : World} {a : Option Addr} {T : List UInt8} {pos ln : Nat} (h : TyI W a) (hr : Rd W R T pos ln) (k : Mvd R W W') : TyI W' a :=
  h.keep fun b cur fr e => k.block b (Array.getElem?_eq_some_iff.1 e).1 (fun hb => by subst hb; rw [hr.row] at e; cases e)
theorem ty_put {W : World} {a : Option Addr} {g k : Nat} {cs : Array Value} {t : TypeId} {u : Value} (h : TyI W a) (hg : W.heap[g]? = some (.cells cs t (0, 0))) (ht : t ≠ 3) : TyI (W.setCell ⟨g, k, none⟩ u) a :=
  h.keep fun b cur fr e => Below.heap_setCell W ⟨g, k, none⟩ u b (fun hb => by have hb' : b = g := hb; subst hb'; rw [hg] at e; injection e with e; injection e with _ e2; exact ht e2)

/-- While an operation is read. -/
structure OpS (w W : World) (R P : Nat) (T : List UInt8) (pos ln : Nat) (k0 k1 : Int) (a1 : Option Addr) (n1 c1 : Nat) (l1 : List Int) (k3 k4 : Int) (a2 : Option Addr) (n2 c2 : Nat) (l2 : List Int) (uK uQ uC uB : Bool) (wd : ByteArray) : Prop where
  rd : Rd W R T pos ln
  mv : Mvd R w W
  bx : OpBx W P k0 k1 a1 n1 c1 k3 k4 a2 n2 c2
  us : W.heap[P + 1]? = some (.cells #[.string wd, .bool uK, .bool uQ, .bool uC, .bool uB] 99 (0, 0))
  rs : OpBx W w.heap.size 0 0 none 0 0 0 0 none 0 0
  i1 : IntsAt W a1 n1 l1
  m1 : n1 ≤ c1 ∧ c1 ≤ maxLen
  w1 : ∀ b o, a1 = some ⟨b, o, none⟩ → P + 1 < b
  t1 : TyI W a1
  i2 : IntsAt W a2 n2 l2
  m2 : n2 ≤ c2 ∧ c2 ≤ maxLen
  w2 : ∀ b o, a2 = some ⟨b, o, none⟩ → P + 1 < b
  t2 : TyI W a2
section
variable {w W W' : World} {R P : Nat} {T : List UInt8} {pos pos' ln : Nat} {k0 k1 : Int} {a1 : Option Addr} {n1 c1 : Nat} {l1 : List Int} {k3 k4 : Int} {a2 : Option Addr} {n2 c2 : Nat} {l2 : List Int} {uK uQ uC uB : Bool} {wd : ByteArray}
theorem OpS.call (h : OpS w W R P T pos ln k0 k1 a1 n1 c1 l1 k3 k4 a2 n2 c2 l2 uK uQ uC uB wd) (hR : R < w.heap.size) (hP : w.heap.size < P) (hr : Rd W' R T pos' ln) (k : Mvd R W W') : OpS w W' R P T pos' ln k0 k1 a1 n1 c1 l1 k3 k4 a2 n2 c2 l2 uK uQ uC uB wd :=
  ⟨hr, h.mv.trans k, ⟨(k.block P h.bx.lt (by omega)).trans h.bx.row⟩, (k.block (P + 1) (Array.getElem?_eq_some_iff.1 h.us).1 (by omega)).trans h.us, ⟨(k.block _ h.rs.lt (by omega)).trans h.rs.row⟩,
    ints_mvd h.i1 k (fun b o e => by have := h.w1 b o e; omega), h.m1, h.w1, ty_mvd h.t1 h.rd k, ints_mvd h.i2 k (fun b o e => by have := h.w2 b o e; omega), h.m2, h.w2, ty_mvd h.t2 h.rd k⟩
theorem OpS.u1 (h : OpS w W R P T pos ln k0 k1 a1 n1 c1 l1 k3 k4 a2 n2 c2 l2 uK uQ uC uB wd) : W.cell? ⟨P + 1, 1, none⟩ = some (.bool uK) := by rw [cell_of_row W _ 1 _ _ (0, 0) h.us]; rfl
theorem OpS.u2 (h : OpS w W R P T pos ln k0 k1 a1 n1 c1 l1 k3 k4 a2 n2 c2 l2 uK uQ uC uB wd) : W.cell? ⟨P + 1, 2, none⟩ = some (.bool uQ) := by rw [cell_of_row W _ 2 _ _ (0, 0) h.us]; rfl
theorem OpS.u3 (h : OpS w W R P T pos ln k0 k1 a1 n1 c1 l1 k3 k4 a2 n2 c2 l2 uK uQ uC uB wd) : W.cell? ⟨P + 1, 3, none⟩ = some (.bool uC) := by rw [cell_of_row W _ 3 _ _ (0, 0) h.us]; rfl
theorem OpS.u4 (h : OpS w W R P T pos ln k0 k1 a1 n1 c1 l1 k3 k4 a2 n2 c2 l2 uK uQ uC uB wd) : W.cell? ⟨P + 1, 4, none⟩ = some (.bool uB) := by rw [cell_of_row W _ 4 _ _ (0, 0) h.us]; rfl
theorem OpBx.fz (h : OpBx W P k0 k1 a1 n1 c1 k3 k4 a2 n2 c2) (o : Nat) : W.frozen? ⟨P, o, none⟩ = false := frozen_of_row W P o _ _ h.row
theorem OpS.far (h : OpS w W R P T pos ln k0 k1 a1 n1 c1 l1 k3 k4 a2 n2 c2 l2 uK uQ uC uB wd) (hR : R < w.heap.size) (hP : w.heap.size < P) (k : Nat) (u : Value) {k1' : Int} {a1' : Option Addr} {n1' c1' : Nat} {k3' k4' : Int} {a2' : Option Addr} {n2' c2' : Nat} {l1' l2' : List Int}
    (hbx : OpBx (W.setCell ⟨P, k, none⟩ u) P k0 k1' a1' n1' c1' k3' k4' a2' n2' c2') (i1 : IntsAt W a1' n1' l1') (m1 : n1' ≤ c1' ∧ c1' ≤ maxLen) (w1 : ∀ b o, a1' = some ⟨b, o, none⟩ → P + 1 < b) (t1 : TyI W a1') (i2 : IntsAt W a2' n2' l2') (m2 : n2' ≤ c2' ∧ c2' ≤ maxLen) (w2 : ∀ b o, a2' = some ⟨b, o, none⟩ → P + 1 < b) (t2 : TyI W a2') :
    OpS w (W.setCell ⟨P, k, none⟩ u) R P T pos ln k0 k1' a1' n1' c1' l1' k3' k4' a2' n2' c2' l2' uK uQ uC uB wd :=
  ⟨⟨row_far h.rd.row (by omega)⟩, h.mv.putNew (by omega) k u, hbx, row_far h.us (by omega), ⟨row_far h.rs.row (by omega)⟩, i1.putFar (fun b o e => by have := w1 b o e; omega), m1, w1, ty_put t1 h.bx.row (by decide), i2.putFar (fun b o e => by have := w2 b o e; omega), m2, w2, ty_put t2 h.bx.row (by decide)⟩
theorem OpS.put1 (h : OpS w W R P T pos ln k0 k1 a1 n1 c1 l1 k3 k4 a2 n2 c2 l2 uK uQ uC uB wd) (hR : R < w.heap.size) (hP : w.heap.size < P) (v : Int) : OpS w (W.setCell ⟨P, 1, none⟩ (.int .i64 v)) R P T pos ln k0 v a1 n1 c1 l1 k3 k4 a2 n2 c2 l2 uK uQ uC uB wd :=
  h.far hR hP 1 _ ⟨row_put h.bx.row rfl⟩ h.i1 h.m1 h.w1 h.t1 h.i2 h.m2 h.w2 h.t2
theorem OpS.put3 (h : OpS w W R P T pos ln k0 k1 a1 n1 c1 l1 k3 k4 a2 n2 c2 l2 uK uQ uC uB wd) (hR : R < w.heap.size) (hP : w.heap.size < P) (v : Int) : OpS w (W.setCell ⟨P, 3, none⟩ (.int .i64 v)) R P T pos ln k0 k1 a1 n1 c1 l1 v k4 a2 n2 c2 l2 uK uQ uC uB wd :=
  h.far hR hP 3 _ ⟨row_put h.bx.row rfl⟩ h.i1 h.m1 h.w1 h.t1 h.i2 h.m2 h.w2 h.t2
theorem OpS.put4 (h : OpS w W R P T pos ln k0 k1 a1 n1 c1 l1 k3 k4 a2 n2 c2 l2 uK uQ uC uB wd) (hR : R < w.heap.size) (hP : w.heap.size < P) (v : Int) : OpS w (W.setCell ⟨P, 4, none⟩ (.int .i64 v)) R P T pos ln k0 k1 a1 n1 c1 l1 k3 v a2 n2 c2 l2 uK uQ uC uB wd :=
  h.far hR hP 4 _ ⟨row_put h.bx.row rfl⟩ h.i1 h.m1 h.w1 h.t1 h.i2 h.m2 h.w2 h.t2
theorem OpS.put2 (h : OpS w W R P T pos ln k0 k1 a1 n1 c1 l1 k3 k4 a2 n2 c2 l2 uK uQ uC uB wd) (hR : R < w.heap.size) (hP : w.heap.size < P) (a' : Option Addr) (n' c' : Nat) (l' : List Int) (hi : IntsAt W a' n' l') (hm : n' ≤ c' ∧ c' ≤ maxLen) (hw : ∀ b o, a' = some ⟨b, o, none⟩ → P + 1 < b) (ht : TyI W a') :
    OpS w (W.setCell ⟨P, 2, none⟩ (.slice a' n' c')) R P T pos ln k0 k1 a' n' c' l' k3 k4 a2 n2 c2 l2 uK uQ uC uB wd :=
  h.far hR hP 2 _ ⟨row_put h.bx.row rfl⟩ hi hm hw ht h.i2 h.m2 h.w2 h.t2
theorem OpS.put5 (h : OpS w W R P T pos ln k0 k1 a1 n1 c1 l1 k3 k4 a2 n2 c2 l2 uK uQ uC uB wd) (hR : R < w.heap.size) (hP : w.heap.size < P) (a' : Option Addr) (n' c' : Nat) (l' : List Int) (hi : IntsAt W a' n' l') (hm : n' ≤ c' ∧ c' ≤ maxLen) (hw : ∀ b o, a' = some ⟨b, o, none⟩ → P + 1 < b) (ht : TyI W a') :
    OpS w (W.setCell ⟨P, 5, none⟩ (.slice a' n' c')) R P T pos ln k0 k1 a1 n1 c1 l1 k3 k4 a' n' c' l' uK uQ uC uB wd :=
  h.far hR hP 5 _ ⟨row_put h.bx.row rfl⟩ h.i1 h.m1 h.w1 h.t1 hi hm hw ht
end

/-- What an operation that is not used leaves at nought. -/
structure Unused (o : Gop) : Prop where
  k : usesK o.kind = false → o.k = 0
  q : usesQ o.kind = false → o.q = 0
  c : usesC o.kind = false → o.ctl = []
  b : usesB o.kind = false → o.bit = 0
theorem unused_of_code {o : Gop} {n b : Int} (h : opCode o n b = 0) : Unused o := by
  unfold opCode at h
  split at h
  · omega
  split at h
  · omega
  rename_i hk
  split at h
  · omega
  rename_i hq
  split at h
  · omega
  rename_i hc
  split at h
  · exact absurd h (by assumption)
  split at h
  · omega
  rename_i hb
  refine ⟨fun e => ?_, fun e => ?_, fun e => ?_, fun e => ?_⟩
  · rw [e] at hk; simpa [fitsB] using hk
  · rw [e] at hq; simpa [fitsB] using hq
  · have : ¬ 0 < o.ctl.length := fun h0 => hc ⟨h0, e⟩
    exact List.eq_nil_of_length_eq_zero (by omega)
  · rw [e] at hb; simpa [fitsB] using hb

/-- It begins with what is no digit. -/
def Hd (s : List UInt8) : Prop := ∃ c r, s = c :: r ∧ c.toNat < 48
theorem Hd.num (x : Int) (s : List UInt8) : Hd (numL x ++ s) := ⟨32, _, rfl, by decide⟩

end Go.Proofs.YtfjbhiihfibbaaaDoor

/-
  The reader: an operation, read.
-/
namespace Go.Proofs.YtfjbhiihfibbaaaDoor
open Go.RowKit

abbrev putO (W : World) (g : Nat) (v0 v1 v2 v3 v4 v5 : Value) : World :=
  (((((W.setCell ⟨g, 0, none⟩ v0).setCell ⟨g, 1, none⟩ v1).setCell ⟨g, 2, none⟩ v2).setCell ⟨g, 3, none⟩ v3).setCell ⟨g, 4, none⟩ v4).setCell ⟨g, 5, none⟩ v5
theorem putO_row {W : World} {g : Nat} {x0 x1 x2 x3 x4 x5 : Value} {t : TypeId} (h : W.heap[g]? = some (.cells #[x0, x1, x2, x3, x4, x5] t (0, 0))) (v0 v1 v2 v3 v4 v5 : Value) : (putO W g v0 v1 v2 v3 v4 v5).heap[g]? = some (.cells #[v0, v1, v2, v3, v4, v5] t (0, 0)) :=
  row_put (cs := #[v0, v1, v2, v3, v4, x5]) (row_put (cs := #[v0, v1, v2, v3, x4, x5]) (row_put (cs := #[v0, v1, v2, x3, x4, x5]) (row_put (cs := #[v0, v1, x2, x3, x4, x5]) (row_put (cs := #[v0, x1, x2, x3, x4, x5]) (row_put h rfl) rfl) rfl) rfl) rfl) rfl
theorem putO_far {W : World} {g k : Nat} {x : Obj} (h : W.heap[k]? = some x) (hne : g ≠ k) (v0 v1 v2 v3 v4 v5 : Value) : (putO W g v0 v1 v2 v3 v4 v5).heap[k]? = some x :=
  row_far (row_far (row_far (row_far (row_far (row_far h hne) hne) hne) hne) hne) hne
theorem putO_ints {W : World} {g n : Nat} {a : Option Addr} {l : List Int} (h : IntsAt W a n l) (hne : ∀ b o, a = some ⟨b, o, none⟩ → b ≠ g) (v0 v1 v2 v3 v4 v5 : Value) : IntsAt (putO W g v0 v1 v2 v3 v4 v5) a n l :=
  (((((h.putFar hne).putFar hne).putFar hne).putFar hne).putFar hne).putFar hne
theorem putO_mvd {R : Nat} {w W : World} (h : Mvd R w W) {g : Nat} (hg : w.heap.size ≤ g) (v0 v1 v2 v3 v4 v5 : Value) : Mvd R w (putO W g v0 v1 v2 v3 v4 v5) :=
  (((((h.putNew hg 0 v0).putNew hg 1 v1).putNew hg 2 v2).putNew hg 3 v3).putNew hg 4 v4).putNew hg 5 v5
theorem putO_ty {W : World} {g : Nat} {a : Option Addr} {x0 x1 x2 x3 x4 x5 : Value} {t : TypeId} (h : TyI W a) (hg : W.heap[g]? = some (.cells #[x0, x1, x2, x3, x4, x5] t (0, 0))) (ht : t ≠ 3) (v0 v1 v2 v3 v4 v5 : Value) : TyI (putO W g v0 v1 v2 v3 v4 v5) a :=
  ty_put (ty_put (ty_put (ty_put (ty_put (ty_put h hg ht) (row_put hg rfl) ht) (row_put (row_put hg rfl) rfl) ht) (row_put (row_put (row_put hg rfl) rfl) rfl) ht) (row_put (row_put (row_put (row_put hg rfl) rfl) rfl) rfl) ht) (row_put (row_put (row_put (row_put (row_put hg rfl) rfl) rfl) rfl) rfl) ht
theorem uses_cb {k : Int} (h : usesC k = true) : usesB k = false := by
  unfold usesC at h
  unfold usesB
  have : k = 2 ∨ k = 3 ∨ k = 4 := by simpa [or_assoc] using h
  exact bf (by omega)
theorem uses_kq {k : Int} (h : usesK k = false) : usesQ k = true := by
  unfold usesK at h
  unfold usesQ
  have : ¬ k = 1 := by intro e; rw [e] at h; exact absurd h (by decide)
  rw [bf this]; rfl

set_option maxHeartbeats 4000000 in
set_option maxRecDepth 100000 in
theorem op_yes (R : Nat) (T : List UInt8) (at_ ln : Nat) (W0 w : World) (hE : Ext W0 w) (hW0 : W0.heap.size ≤ R) (hS : Shp W0) (h : Rd w R T at_ ln) (hT : T.length ≤ 1000000) (o : Gop) (hf : PrFit o) (hu : Unused o) (r : List UInt8) (hd : T.drop at_ = prnOp o ++ 10 :: r) :
    Calls Tryd.prog 62 #[.pointer (some ⟨R, 0, none⟩)] w fun e w' => (∃ (a1 : Option Addr) (n1 c1 : Nat) (a2 : Option Addr) (n2 c2 : Nat), e = .returned (.agg #[.int .i64 o.kind, .int .i64 o.k, .slice a1 n1 c1, .int .i64 o.q, .int .i64 o.bit, .slice a2 n2 c2]) ∧ OpO w' o a1 n1 c1 a2 n2 c2) ∧ Rd w' R T (at_ + (prnOp o).length) ln ∧ Mvd R w w' := by
  obtain ⟨kd, k, ctl, q, bt, cnd⟩ := o
  obtain ⟨fkd, fk, fq, fbt, fctl, ffew, fcnd, fcfew⟩ := hf
  obtain ⟨uk0, uq0, uc0, ub0⟩ := hu
  simp only at fkd fk fq fbt fctl ffew fcnd fcfew uk0 uq0 uc0 ub0 ⊢
  obtain ⟨kn, rfl⟩ : ∃ kn : Nat, kd = (kn : Int) := ⟨kd.toNat, by omega⟩
  have hlR := h.lt
  obtain ⟨S5, hS5⟩ : ∃ x : List UInt8, (if 0 < cnd.length then [32, 105, 102] else []) ++ (cnd.flatMap cndL ++ 10 :: r) = x := ⟨_, rfl⟩
  obtain ⟨S4, hS4⟩ : ∃ x : List UInt8, (if usesB (kn : Int) then [32, 116, 111] ++ numL bt else []) ++ S5 = x := ⟨_, rfl⟩
  obtain ⟨S3, hS3⟩ : ∃ x : List UInt8, (if 0 < ctl.length then [32, 111, 110] else []) ++ (ctl.flatMap numL ++ S4) = x := ⟨_, rfl⟩
  obtain ⟨S2, hS2⟩ : ∃ x : List UInt8, (if usesQ (kn : Int) then numL q else []) ++ S3 = x := ⟨_, rfl⟩
  obtain ⟨S1, hS1⟩ : ∃ x : List UInt8, (if usesK (kn : Int) then numL k else []) ++ S2 = x := ⟨_, rfl⟩
  have hR0 : (Int.toNat (kn : Int)) = kn := by omega
  have hd1 : T.drop at_ = (wordOf kn).data.toList ++ S1 := by
    rw [hd, ← hS1, ← hS2, ← hS3, ← hS4, ← hS5]
    unfold prnOp
    simp only [hR0, List.append_assoc]
  have hlen : at_ + (prnOp ⟨(kn : Int), k, ctl, q, bt, cnd⟩).length = at_ + (wordOf kn).data.toList.length + (if usesK (kn : Int) then numL k else []).length + (if usesQ (kn : Int) then numL q else []).length + (if 0 < ctl.length then [32, 111, 110] else ([] : List UInt8)).length + (ctl.flatMap numL).length + (if usesB (kn : Int) then [32, 116, 111] ++ numL bt else []).length + (if 0 < cnd.length then [32, 105, 102] else ([] : List UInt8)).length + (cnd.flatMap cndL).length := by
    unfold prnOp
    simp only [hR0, List.length_append]
    omega
  have s5 : Stops S5 := by
    rw [← hS5]
    by_cases h0 : 0 < cnd.length
    · rw [if_pos h0]; exact Or.inr ⟨_, rfl⟩
    · rw [if_neg h0, List.eq_nil_of_length_eq_zero (show cnd.length = 0 by omega)]; exact Or.inl ⟨_, rfl⟩
  have s4 : Hd S4 := by
    rw [← hS4]
    by_cases h0 : usesB (kn : Int) = true
    · rw [if_pos h0]; exact ⟨32, _, rfl, by decide⟩
    · rw [if_neg h0]; exact s5.head
  have s3 : Hd S3 := by
    rw [← hS3]
    by_cases h0 : 0 < ctl.length
    · rw [if_pos h0]; exact ⟨32, _, rfl, by decide⟩
    · rw [if_neg h0, List.eq_nil_of_length_eq_zero (show ctl.length = 0 by omega)]; exact s4
  have s2 : Hd S2 := by
    rw [← hS2]
    by_cases h0 : usesQ (kn : Int) = true
    · rw [if_pos h0]; exact ⟨32, _, rfl, by decide⟩
    · rw [if_neg h0]; exact s3
  have s1 : ∃ x, S1 = 32 :: x := by
    rw [← hS1]
    by_cases h0 : usesK (kn : Int) = true
    · rw [if_pos h0]; exact ⟨_, rfl⟩
    · rw [if_neg h0, ← hS2, if_pos (uses_kq (by simpa using h0))]; exact ⟨_, rfl⟩
  rw [hlen]
  obtain ⟨p0, hp0⟩ : ∃ x, at_ + (wordOf kn).data.toList.length = x := ⟨_, rfl⟩
  have D0 : T.drop p0 = S1 := by rw [← hp0]; exact drop_step hd1
  obtain ⟨x1, hx1⟩ := s1
  have E1 := ext_al w (.cells #[.int .i64 0, .int .i64 0, .slice none 0 0, .int .i64 0, .int .i64 0, .slice none 0 0] 58)
  have HK := Lib.hid (kind_yes R T at_ ln W0 (w.alloc (.cells #[.int .i64 0, .int .i64 0, .slice none 0 0, .int .i64 0, .int .i64 0, .slice none 0 0] 58)) (hE.trans E1) hS (h.ext E1) hT kn (by omega) (by omega) x1 (by rw [hd1, hx1]))
  rw [hp0] at HK
  obtain ⟨uK, huK⟩ : ∃ x, usesK (kn : Int) = x := ⟨_, rfl⟩
  obtain ⟨uQ, huQ⟩ : ∃ x, usesQ (kn : Int) = x := ⟨_, rfl⟩
  obtain ⟨uC, huC⟩ : ∃ x, usesC (kn : Int) = x := ⟨_, rfl⟩
  obtain ⟨uB, huB⟩ : ∃ x, usesB (kn : Int) = x := ⟨_, rfl⟩
  obtain ⟨wd, hwd⟩ : ∃ x, wordOf kn = x := ⟨_, rfl⟩
  have hcb : uC = true → uB = false := fun e => by rw [← huB]; exact uses_cb (huC.trans e)
  rw [huK] at hS1 uk0; rw [huQ] at hS2 uq0; rw [huC] at uc0; rw [huB] at hS4 ub0
  rw [hp0, huK, huQ, huB]
  obtain ⟨p1, hp1⟩ : ∃ x, p0 + (if uK = true then numL k else []).length = x := ⟨_, rfl⟩
  have D1 : T.drop p1 = S2 := by rw [← hp1]; exact drop_step (D0.trans hS1.symm)
  rw [hp1]
  obtain ⟨p2, hp2⟩ : ∃ x, p1 + (if uQ = true then numL q else []).length = x := ⟨_, rfl⟩
  have D2 : T.drop p2 = S3 := by rw [← hp2]; exact drop_step (D1.trans hS2.symm)
  rw [hp2]
  obtain ⟨p3, hp3⟩ : ∃ x, p2 + (if 0 < ctl.length then [32, 111, 110] else ([] : List UInt8)).length = x := ⟨_, rfl⟩
  have D3 : T.drop p3 = ctl.flatMap numL ++ S4 := by rw [← hp3]; exact drop_step (D2.trans hS3.symm)
  rw [hp3]
  obtain ⟨p4, hp4⟩ : ∃ x, p3 + (ctl.flatMap numL).length = x := ⟨_, rfl⟩
  have D4 : T.drop p4 = S4 := by rw [← hp4]; exact drop_step D3
  rw [hp4]
  obtain ⟨p5, hp5⟩ : ∃ x, p4 + (if uB = true then [32, 116, 111] ++ numL bt else []).length = x := ⟨_, rfl⟩
  have D5 : T.drop p5 = S5 := by rw [← hp5]; exact drop_step (D4.trans hS4.symm)
  rw [hp5]
  obtain ⟨p6, hp6⟩ : ∃ x, p5 + (if 0 < cnd.length then [32, 105, 102] else ([] : List UInt8)).length = x := ⟨_, rfl⟩
  have D6 : T.drop p6 = cnd.flatMap cndL ++ 10 :: r := by rw [← hp6]; exact drop_step (D5.trans hS5.symm)
  rw [hp6]
  obtain ⟨p7, hp7⟩ : ∃ x, p6 + (cnd.flatMap cndL).length = x := ⟨_, rfl⟩
  rw [hp7]
  have l2 : p2 ≤ T.length := by obtain ⟨c, x, e, _⟩ := s3; exact Nat.le_of_lt (drop_le (D2.trans e))
  have l4 : p4 ≤ T.length := by obtain ⟨c, x, e, _⟩ := s4; exact Nat.le_of_lt (drop_le (D4.trans e))
  have l5 : p5 ≤ T.length := by obtain ⟨c, x, e, _⟩ := s5.head; exact Nat.le_of_lt (drop_le (D5.trans e))
  have HD0 := Lib.hid (D0.trans hS1.symm); have HD1 := Lib.hid (D1.trans hS2.symm); have HD2 := Lib.hid (D2.trans hS3.symm); have HD3 := Lib.hid D3; have HD4 := Lib.hid (D4.trans hS4.symm); have HD5 := Lib.hid (D5.trans hS5.symm); have HD6 := Lib.hid D6
  have Hs2 := Lib.hid s2; have Hs3 := Lib.hid s3; have Hs5 := Lib.hid s5; have HS54 := Lib.hid hS4
  have HP1 := Lib.hid hp1; have HP2 := Lib.hid hp2; have HP3 := Lib.hid hp3; have HP4 := Lib.hid hp4; have HP5 := Lib.hid hp5; have HP6 := Lib.hid hp6; have HP7 := Lib.hid hp7
  have Hctl := Lib.hid fctl; have Hcnd := Lib.hid fcnd; have HW0 := Lib.hid (hE.trans E1); have HShp := Lib.hid hS
  have HwD := Lib.hid hwd
  have hsz1 : (w.alloc (.cells #[.int .i64 0, .int .i64 0, .slice none 0 0, .int .i64 0, .int .i64 0, .slice none 0 0] 58)).heap.size = w.heap.size + 1 := by simp
  have br := opbx_new w 0 0 none 0 0 0 0 none 0 0
  have Hbr := Lib.hid br; have HE1 := Lib.hid E1
  have q7 := (hS.ext (hE.trans E1)) kn (by omega) (by omega)
  have i0 : (0 : Int) ≤ (kn : Int) := by omega
  have i1 : (kn : Int) < 7 := by omega
  clear h hd hd1 hlen s2 s3 s4 s5 D0 D1 D2 D3 D4 D5 D6 hS1 hS2 hS3 hS4 hS5 hx1 hp0 hp1 hp2 hp3 hp4 hp5 hp6 hp7 fctl fcnd hwd hR0 br E1 hE hS q7
  go_enter Tryd.func62, Tryd.ntmps62
  go_wp2_with fail
  generalize w.alloc (.cells #[.int .i64 0, .int .i64 0, .slice none 0 0, .int .i64 0, .int .i64 0, .slice none 0 0] 58) = W1 at *
  refine HK.out.mono ?_
  rintro e w2 ⟨rfl, hr2, hm2⟩
  have hsz2 := hm2.size
  have hExt2 : Ext W0 w2 := hm2.ext HW0.out hW0
  obtain ⟨t0, t1, t2, t3, t4⟩ := (HShp.out.ext hExt2) kn (by omega) (by omega)
  rw [huK] at t1; rw [huQ] at t2; rw [huC] at t3; rw [huB] at t4; rw [HwD.out] at t0
  have Ea := ext_al w2 (.cells #[.int .i64 (kn : Int), .int .i64 0, .slice none 0 0, .int .i64 0, .int .i64 0, .slice none 0 0] 58)
  have Eb := ext_al (w2.alloc (.cells #[.int .i64 (kn : Int), .int .i64 0, .slice none 0 0, .int .i64 0, .int .i64 0, .slice none 0 0] 58)) (.cells #[.string wd, .bool uK, .bool uQ, .bool uC, .bool uB] 99)
  have bP := opbx_new w2 (kn : Int) 0 none 0 0 0 0 none 0 0
  have y0 := bP.x0
  have t0' := cell_ext t0 Ea; have t1' := cell_ext t1 Ea; have t2' := cell_ext t2 Ea; have t3' := cell_ext t3 Ea; have t4' := cell_ext t4 Ea
  obtain ⟨P, hP⟩ : ∃ P, w2.heap.size = P := ⟨_, rfl⟩
  have hPgt : w.heap.size < P := by omega
  have S0 : OpS w ((w2.alloc (.cells #[.int .i64 (kn : Int), .int .i64 0, .slice none 0 0, .int .i64 0, .int .i64 0, .slice none 0 0] 58)).alloc (.cells #[.string wd, .bool uK, .bool uQ, .bool uC, .bool uB] 99)) R P T p0 ln (kn : Int) 0 none 0 0 [] 0 0 none 0 0 [] uK uQ uC uB wd := by
    have hub : ((w2.alloc (.cells #[.int .i64 (kn : Int), .int .i64 0, .slice none 0 0, .int .i64 0, .int .i64 0, .slice none 0 0] 58)).alloc (.cells #[.string wd, .bool uK, .bool uQ, .bool uC, .bool uB] 99)).heap[P + 1]? = some (.cells #[.string wd, .bool uK, .bool uQ, .bool uC, .bool uB] 99 (0, 0)) := by
      have := heap_alloc_new (w2.alloc (.cells #[.int .i64 (kn : Int), .int .i64 0, .slice none 0 0, .int .i64 0, .int .i64 0, .slice none 0 0] 58)) (.cells #[.string wd, .bool uK, .bool uQ, .bool uC, .bool uB] 99)
      rw [← hP]
      simpa using this
    have hm3 : Mvd R w w2 := (Mvd.of_ext (R := R) HE1.out).trans hm2
    refine ⟨(hr2.ext Ea).ext Eb, hm3.trans (Mvd.of_ext (Ea.trans Eb)), by rw [← hP]; exact bP.ext Eb, hub, ?_, ⟨rfl, Or.inl rfl⟩, ⟨Nat.le_refl _, Nat.zero_le _⟩, fun b o e => (by cases e), fun ad e => (by cases e), ⟨rfl, Or.inl rfl⟩, ⟨Nat.le_refl _, Nat.zero_le _⟩, fun b o e => (by cases e), fun ad e => (by cases e)⟩
    have h1 := Hbr.out
    exact ⟨((Ea.trans Eb).block _ (by omega)).trans ((hm2.block _ (by omega) (by omega)).trans h1.row)⟩
  have HS0 := Lib.hid S0
  clear hr2 hm2 hExt2 t0 t1 t2 t3 t4 Ea Eb bP S0 HK Hbr HE1 HW0 HShp huK huQ huC huB HwD
  rw [hP] at y0
  have u1' := HS0.out.u1
  go_upto_if 13 with fail
  generalize (w2.alloc (.cells #[.int .i64 (kn : Int), .int .i64 0, .slice none 0 0, .int .i64 0, .int .i64 0, .slice none 0 0] 58)).alloc (.cells #[.string wd, .bool uK, .bool uQ, .bool uC, .bool uB] 99) = W2 at *
  clear t0' t1' t2' t3' t4' y0 u1'
  go_cut [] from 5 to 43 (fun wx => OpS w wx R P T p1 ln (kn : Int) k none 0 0 [] 0 0 none 0 0 [] uK uQ uC uB wd)
  case first =>
    have y := HS0.out.bx.x1; have g := HS0.out.bx.fz 1
    cases uK
    · have e0 := uk0 rfl
      have hpp : p1 = p0 := by have := HP1.out; simpa using this.symm
      have HE0 := Lib.hid e0; have HPP := Lib.hid hpp
      clear e0 hpp
      go_wp2_with fail
      go_meet
      rw [HE0.out, HPP.out]
      exact HS0.out
    · obtain ⟨c, rr, ec, hc⟩ := Hs2.out
      have hdd := HD0.out
      rw [if_pos rfl, ec] at hdd
      have HN := Lib.hid (number_yes R T p0 ln _ HS0.out.rd hT k fk.1 fk.2 c rr hdd hc)
      have hpp : p0 + (numL k).length = p1 := by have := HP1.out; rw [if_pos rfl] at this; exact this
      rw [hpp] at HN
      clear hdd ec hpp
      go_wp2_with fail
      refine HN.out.mono ?_
      rintro e w3 ⟨rfl, hr3, hm3⟩
      have st := HS0.out.call hlR hPgt hr3 hm3
      have y' := st.bx.x1; have g' := st.bx.fz 1
      have HSt := Lib.hid (st.put1 hlR hPgt k)
      clear hr3 hm3 st HN
      go_wp2_with fail
      go_meet
      exact HSt.out
  case rest =>
  have HS1 := Lib.hid hcut
  clear hcut HS0
  have u2' := HS1.out.u2
  go_upto_if 18 with fail
  clear u2'
  go_cut [] from 5 to 43 (fun wx => OpS w wx R P T p2 ln (kn : Int) k none 0 0 [] q 0 none 0 0 [] uK uQ uC uB wd)
  case first =>
    have y := HS1.out.bx.x3; have g := HS1.out.bx.fz 3
    cases uQ
    · have e0 := uq0 rfl
      have hpp : p2 = p1 := by have := HP2.out; simpa using this.symm
      have HE0 := Lib.hid e0; have HPP := Lib.hid hpp
      clear e0 hpp
      go_wp2_with fail
      go_meet
      rw [HE0.out, HPP.out]
      exact HS1.out
    · obtain ⟨c, rr, ec, hc⟩ := Hs3.out
      have hdd := HD1.out
      rw [if_pos rfl, ec] at hdd
      have HN := Lib.hid (number_yes R T p1 ln _ HS1.out.rd hT q fq.1 fq.2 c rr hdd hc)
      have hpp : p1 + (numL q).length = p2 := by have := HP2.out; rw [if_pos rfl] at this; exact this
      rw [hpp] at HN
      clear hdd ec hpp
      go_wp2_with fail
      refine HN.out.mono ?_
      rintro e w3 ⟨rfl, hr3, hm3⟩
      have st := HS1.out.call hlR hPgt hr3 hm3
      have y' := st.bx.x3; have g' := st.bx.fz 3
      have HSt := Lib.hid (st.put3 hlR hPgt q)
      clear hr3 hm3 st HN
      go_wp2_with fail
      go_meet
      exact HSt.out
  case rest =>
  have HS2 := Lib.hid hcut
  clear hcut HS1
  have u3' := HS2.out.u3
  go_upto_region 7 with fail
  go_cut [27] from 5 to 43 (fun s27 wx => s27 = .bool (decide (0 < ctl.length)) ∧ OpS w wx R P T p3 ln (kn : Int) k none 0 0 [] q 0 none 0 0 [] uK uQ uC uB wd)
  case first =>
    by_cases hc0 : 0 < ctl.length
    · have hcu : uC = true := by
        cases uC
        · rw [uc0 rfl] at hc0; simp at hc0
        · rfl
      subst hcu
      have hdd := HD2.out
      rw [if_pos hc0] at hdd
      have HT' := Lib.hid (take_yes R T p2 ln [32, 111, 110] _ HS2.out.rd l2 hT (pre_of hdd))
      have hpp : p2 + [(32 : UInt8), 111, 110].length = p3 := by have := HP3.out; rw [if_pos hc0] at this; exact this
      rw [hpp] at HT'
      have Hc0 := Lib.hid hc0
      clear hdd hpp hc0
      go_wp2_with fail
      refine HT'.out.mono ?_
      rintro e w3 ⟨rfl, hr3, hm3⟩
      have HSt := Lib.hid (HS2.out.call hlR hPgt hr3 hm3)
      clear hr3 hm3
      go_wp2_with fail
      go_meet
      exact ⟨by rw [dt Hc0.out], HSt.out⟩
    · have hpp : p3 = p2 := by have := HP3.out; rw [if_neg hc0] at this; simpa using this.symm
      have hctl : ctl = [] := List.eq_nil_of_length_eq_zero (by omega)
      have HPP := Lib.hid hpp; have Hc0 := Lib.hid hc0
      cases uC
      · clear hpp hc0 hctl
        go_wp2_with fail
        go_meet
        rw [HPP.out]
        exact ⟨by rw [df Hc0.out], HS2.out⟩
      · have hub := hcb rfl
        have hdd := HD2.out
        rw [if_neg hc0, hctl] at hdd
        have hs45 : S4 = S5 := by have := HS54.out; rw [hub] at this; simpa using this.symm
        have hnp : Lib.hasPrefix (T.drop p2) [32, 111, 110] = false := by
          rw [hdd, hs45]
          rcases Hs5.out with ⟨x, hx⟩ | ⟨x, hx⟩
          · rw [hx]; rfl
          · rw [hx]; rfl
        have HT' := Lib.hid (take_no R T p2 ln [32, 111, 110] _ HS2.out.rd l2 hnp)
        clear hpp hc0 hctl hub hdd hs45 hnp
        go_wp2_with fail
        refine HT'.out.mono ?_
        rintro e w3 ⟨rfl, hx3⟩
        have HSt := Lib.hid (HS2.out.call hlR hPgt (HS2.out.rd.ext hx3) (Mvd.of_ext hx3))
        clear hx3
        go_wp2_with fail
        go_meet
        rw [HPP.out]
        exact ⟨by rw [df Hc0.out], HSt.out⟩
  case rest =>
  obtain ⟨rfl, hcut⟩ := hcut
  have HS3 := Lib.hid hcut
  clear hcut HS2 u3'
  go_upto_if 27 with fail
  go_cut [] from 5 to 43 (fun wx => ∃ (a1 : Option Addr) (c1 : Nat), OpS w wx R P T p4 ln (kn : Int) k a1 ctl.length c1 ctl q 0 none 0 0 [] uK uQ uC uB wd)
  case first =>
    have y := HS3.out.bx.x2; have g := HS3.out.bx.fz 2
    by_cases hc0 : 0 < ctl.length
    · have hcu : uC = true := by
        cases uC
        · rw [uc0 rfl] at hc0; simp at hc0
        · rfl
      have hub := hcb hcu
      have hs45 : S4 = S5 := by have := HS54.out; rw [hub] at this; simpa using this.symm
      have hdd := HD3.out
      rw [hs45] at hdd
      have HC := Lib.hid (controls_yes R T p3 ln _ HS3.out.rd hT ctl hc0 Hctl.out (by omega) S5 hdd Hs5.out)
      have hq := dt hc0
      rw [HP4.out] at HC
      have hgt := (Array.getElem?_eq_some_iff.1 HS3.out.us).1
      have Hgt := Lib.hid hgt
      clear hdd hs45 hub hcu hc0 hgt
      rw [hq]
      clear hq
      go_wp2_with fail
      refine HC.out.mono ?_
      rintro e w3 ⟨⟨a', c', rfl, q1, q2, hI, hty, hnew⟩, hr3, hm3⟩
      have st := HS3.out.call hlR hPgt hr3 hm3
      have y' := st.bx.x2; have g' := st.bx.fz 2
      have HSt := Lib.hid (st.put2 hlR hPgt a' ctl.length c' ctl hI ⟨q1, q2⟩ (fun b o e => by have := hnew b o e; have := Hgt.out; omega) hty)
      clear hr3 hm3 st HC hI hnew hty
      go_wp2_with fail
      go_meet
      exact ⟨a', c', HSt.out⟩
    · have hctl : ctl = [] := List.eq_nil_of_length_eq_zero (by omega)
      have hpp : p4 = p3 := by have := HP4.out; rw [hctl] at this; simpa using this.symm
      have hq := df hc0
      have HPP := Lib.hid hpp; have Hct := Lib.hid hctl
      clear hpp hctl hc0
      rw [hq]
      clear hq
      go_wp2_with fail
      go_meet
      rw [HPP.out, Hct.out]
      exact ⟨none, 0, HS3.out⟩
  case rest =>
  obtain ⟨a1, c1, hcut⟩ := hcut
  have HS4 := Lib.hid hcut
  clear hcut HS3
  have u4' := HS4.out.u4
  go_upto_if 32 with fail
  clear u4'
  go_cut [] from 5 to 43 (fun wx => OpS w wx R P T p5 ln (kn : Int) k a1 ctl.length c1 ctl q bt none 0 0 [] uK uQ uC uB wd)
  case first =>
    have y := HS4.out.bx.x4; have g := HS4.out.bx.fz 4
    cases uB
    · have e0 := ub0 rfl
      have hpp : p5 = p4 := by have := HP5.out; simpa using this.symm
      have HE0 := Lib.hid e0; have HPP := Lib.hid hpp
      clear e0 hpp
      go_wp2_with fail
      go_meet
      rw [HE0.out, HPP.out]
      exact HS4.out
    · have hdd := HD4.out
      rw [if_pos rfl, List.append_assoc] at hdd
      have HNe := Lib.hid (need_yes R T p4 ln [32, 116, 111] _ HS4.out.rd l4 hT (pre_of hdd))
      have hd2 := drop_step hdd
      obtain ⟨c, rr, ec, hc⟩ := Hs5.out.head
      rw [ec] at hd2
      have hpp : p4 + [(32 : UInt8), 116, 111].length + (numL bt).length = p5 := by have := HP5.out; rw [if_pos rfl, List.length_append, ← Nat.add_assoc] at this; exact this
      have Hd2 := Lib.hid hd2; have Hpp := Lib.hid hpp
      clear hdd ec hpp hd2
      go_wp2_with fail
      refine HNe.out.mono ?_
      rintro e w3 ⟨rfl, hr3, hm3⟩
      have st := HS4.out.call hlR hPgt hr3 hm3
      have HN := Lib.hid (number_yes R T _ ln w3 hr3 hT bt fbt.1 fbt.2 c rr Hd2.out hc)
      rw [Hpp.out] at HN
      have HSt0 := Lib.hid st
      clear hr3 hm3 st HNe
      go_wp2_with fail
      refine HN.out.mono ?_
      rintro e w4 ⟨rfl, hr4, hm4⟩
      have st := HSt0.out.call hlR hPgt hr4 hm4
      have y' := st.bx.x4; have g' := st.bx.fz 4
      have HSt := Lib.hid (st.put4 hlR hPgt bt)
      clear hr4 hm4 st HN
      go_wp2_with fail
      go_meet
      exact HSt.out
  case rest =>
  have HS5 := Lib.hid hcut
  clear hcut HS4
  go_upto_region 12 with fail
  go_cut [39] from 5 to 43 (fun s39 wx => s39 = .bool (decide (0 < cnd.length)) ∧ OpS w wx R P T p6 ln (kn : Int) k a1 ctl.length c1 ctl q bt none 0 0 [] uK uQ uC uB wd)
  case first =>
    by_cases hc0 : 0 < cnd.length
    · have hdd := HD5.out
      rw [if_pos hc0] at hdd
      have HT' := Lib.hid (take_yes R T p5 ln [32, 105, 102] _ HS5.out.rd l5 hT (pre_of hdd))
      have hpp : p5 + [(32 : UInt8), 105, 102].length = p6 := by have := HP6.out; rw [if_pos hc0] at this; exact this
      rw [hpp] at HT'
      have Hc0 := Lib.hid hc0
      clear hdd hpp hc0
      go_wp2_with fail
      refine HT'.out.mono ?_
      rintro e w3 ⟨rfl, hr3, hm3⟩
      have HSt := Lib.hid (HS5.out.call hlR hPgt hr3 hm3)
      clear hr3 hm3
      go_wp2_with fail
      go_meet
      exact ⟨by rw [dt Hc0.out], HSt.out⟩
    · have hpp : p6 = p5 := by have := HP6.out; rw [if_neg hc0] at this; simpa using this.symm
      have hcn : cnd = [] := List.eq_nil_of_length_eq_zero (by omega)
      have HPP := Lib.hid hpp; have Hc0 := Lib.hid hc0
      have hdd := HD5.out
      rw [if_neg hc0, hcn] at hdd
      have hnp : Lib.hasPrefix (T.drop p5) [32, 105, 102] = false := by rw [hdd]; rfl
      have HT' := Lib.hid (take_no R T p5 ln [32, 105, 102] _ HS5.out.rd l5 hnp)
      clear hpp hc0 hcn hdd hnp
      go_wp2_with fail
      refine HT'.out.mono ?_
      rintro e w3 ⟨rfl, hx3⟩
      have HSt := Lib.hid (HS5.out.call hlR hPgt (HS5.out.rd.ext hx3) (Mvd.of_ext hx3))
      clear hx3
      go_wp2_with fail
      go_meet
      rw [HPP.out]
      exact ⟨by rw [df Hc0.out], HSt.out⟩
  case rest =>
  obtain ⟨rfl, hcut⟩ := hcut
  have HS6 := Lib.hid hcut
  clear hcut HS5
  go_upto_if 39 with fail
  go_cut [] from 5 to 43 (fun wx => ∃ (a2 : Option Addr) (c2 : Nat), OpS w wx R P T p7 ln (kn : Int) k a1 ctl.length c1 ctl q bt a2 cnd.length c2 cnd uK uQ uC uB wd)
  case first =>
    have y := HS6.out.bx.x5; have g := HS6.out.bx.fz 5
    by_cases hc0 : 0 < cnd.length
    · have HC := Lib.hid (conditions_yes R T p6 ln _ HS6.out.rd hT cnd hc0 Hcnd.out (by omega) (10 :: r) HD6.out ⟨r, rfl⟩)
      have hq := dt hc0
      rw [HP7.out] at HC
      have hgt := (Array.getElem?_eq_some_iff.1 HS6.out.us).1
      have Hgt := Lib.hid hgt
      clear hc0 hgt
      rw [hq]
      clear hq
      go_wp2_with fail
      refine HC.out.mono ?_
      rintro e w3 ⟨⟨a', c', rfl, q1, q2, hI, hty, hnew⟩, hr3, hm3⟩
      have st := HS6.out.call hlR hPgt hr3 hm3
      have y' := st.bx.x5; have g' := st.bx.fz 5
      have HSt := Lib.hid (st.put5 hlR hPgt a' cnd.length c' cnd hI ⟨q1, q2⟩ (fun b o e => by have := hnew b o e; have := Hgt.out; omega) hty)
      clear hr3 hm3 st HC hI hnew hty
      go_wp2_with fail
      go_meet
      exact ⟨a', c', HSt.out⟩
    · have hcn : cnd = [] := List.eq_nil_of_length_eq_zero (by omega)
      have hpp : p7 = p6 := by have := HP7.out; rw [hcn] at this; simpa using this.symm
      have hq := df hc0
      have HPP := Lib.hid hpp; have Hct := Lib.hid hcn
      clear hpp hcn hc0
      rw [hq]
      clear hq
      go_wp2_with fail
      go_meet
      rw [HPP.out, Hct.out]
      exact ⟨none, 0, HS6.out⟩
  case rest =>
  obtain ⟨a2, c2, st⟩ := hcut
  have y0 := st.bx.x0; have y1 := st.bx.x1; have y2 := st.bx.x2; have y3 := st.bx.x3; have y4 := st.bx.x4; have y5 := st.bx.x5
  have z0 := st.rs.x0; have z1 := st.rs.x1; have z2 := st.rs.x2; have z3 := st.rs.x3; have z4 := st.rs.x4; have z5 := st.rs.x5
  have g0 := st.rs.fz 0; have g1 := st.rs.fz 1; have g2 := st.rs.fz 2; have g3 := st.rs.fz 3; have g4 := st.rs.fz 4; have g5 := st.rs.fz 5
  have rw' := putO_row st.rs.row (.int .i64 (kn : Int)) (.int .i64 k) (.slice a1 ctl.length c1) (.int .i64 q) (.int .i64 bt) (.slice a2 cnd.length c2)
  have HF1 := Lib.hid (show Rd (putO wc w.heap.size (.int .i64 (kn : Int)) (.int .i64 k) (.slice a1 ctl.length c1) (.int .i64 q) (.int .i64 bt) (.slice a2 cnd.length c2)) R T p7 ln from ⟨putO_far st.rd.row (by omega) _ _ _ _ _ _⟩)
  have HF2 := Lib.hid (putO_mvd st.mv (Nat.le_refl _) (.int .i64 (kn : Int)) (.int .i64 k) (.slice a1 ctl.length c1) (.int .i64 q) (.int .i64 bt) (.slice a2 cnd.length c2))
  have HF3 := Lib.hid (putO_ints st.i1 (g := w.heap.size) (fun b o e => by have := st.w1 b o e; omega) (.int .i64 (kn : Int)) (.int .i64 k) (.slice a1 ctl.length c1) (.int .i64 q) (.int .i64 bt) (.slice a2 cnd.length c2))
  have HF4 := Lib.hid (putO_ints st.i2 (g := w.heap.size) (fun b o e => by have := st.w2 b o e; omega) (.int .i64 (kn : Int)) (.int .i64 k) (.slice a1 ctl.length c1) (.int .i64 q) (.int .i64 bt) (.slice a2 cnd.length c2))
  have HT1 := Lib.hid (show TyI (putO wc w.heap.size (.int .i64 (kn : Int)) (.int .i64 k) (.slice a1 ctl.length c1) (.int .i64 q) (.int .i64 bt) (.slice a2 cnd.length c2)) a1 from putO_ty st.t1 st.rs.row (by decide) _ _ _ _ _ _)
  have HT2 := Lib.hid (show TyI (putO wc w.heap.size (.int .i64 (kn : Int)) (.int .i64 k) (.slice a1 ctl.length c1) (.int .i64 q) (.int .i64 bt) (.slice a2 cnd.length c2)) a2 from putO_ty st.t2 st.rs.row (by decide) _ _ _ _ _ _)
  obtain ⟨Wz, hWz⟩ : ∃ Wz, putO wc w.heap.size (.int .i64 (kn : Int)) (.int .i64 k) (.slice a1 ctl.length c1) (.int .i64 q) (.int .i64 bt) (.slice a2 cnd.length c2) = Wz := ⟨_, rfl⟩
  rw [hWz] at rw' HF1 HF2 HF3 HF4 HT1 HT2
  unfold putO at hWz
  have HWz := Lib.hid hWz
  have Hm1 := Lib.hid st.m1; have Hm2 := Lib.hid st.m2; 
  have ne1 : P ≠ w.heap.size := by omega
  clear st hWz HS6
  go_wp2_with fail
  rw [HWz.out]
  have r0 : Wz.cell? ⟨w.heap.size, 0, none⟩ = some (.int .i64 (kn : Int)) := by rw [cell_of_row Wz _ 0 _ _ (0, 0) rw']; rfl
  have r1 : Wz.cell? ⟨w.heap.size, 1, none⟩ = some (.int .i64 k) := by rw [cell_of_row Wz _ 1 _ _ (0, 0) rw']; rfl
  have r2 : Wz.cell? ⟨w.heap.size, 2, none⟩ = some (.slice a1 ctl.length c1) := by rw [cell_of_row Wz _ 2 _ _ (0, 0) rw']; rfl
  have r3 : Wz.cell? ⟨w.heap.size, 3, none⟩ = some (.int .i64 q) := by rw [cell_of_row Wz _ 3 _ _ (0, 0) rw']; rfl
  have r4 : Wz.cell? ⟨w.heap.size, 4, none⟩ = some (.int .i64 bt) := by rw [cell_of_row Wz _ 4 _ _ (0, 0) rw']; rfl
  have r5 : Wz.cell? ⟨w.heap.size, 5, none⟩ = some (.slice a2 cnd.length c2) := by rw [cell_of_row Wz _ 5 _ _ (0, 0) rw']; rfl
  refine bodyPost_ret (v := .agg #[.int .i64 (kn : Int), .int .i64 k, .slice a1 ctl.length c1, .int .i64 q, .int .i64 bt, .slice a2 cnd.length c2]) (by simp [results, Tryd.results62, go_sem, r0, r1, r2, r3, r4, r5]) rfl ⟨⟨a1, _, c1, a2, _, c2, rfl, ⟨⟨HF3.out, Hm1.out.1, Hm1.out.2, HF4.out, Hm2.out.1, Hm2.out.2⟩, HT1.out, HT2.out⟩⟩, HF1.out, HF2.out⟩

end Go.Proofs.YtfjbhiihfibbaaaDoor
