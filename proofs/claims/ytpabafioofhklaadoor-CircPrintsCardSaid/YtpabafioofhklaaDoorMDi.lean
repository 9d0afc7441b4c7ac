/-
  The reader: an operation.
-/
import Derived.Test.YtpabafioofhklaaDoorMDh
import Derived.Test.YtpabafioofhklaaDoorMBz

namespace Go.Proofs.YtpabafioofhklaaDoor
open Go.RowKit

theorem row_put {W : World} {g k : Nat} {cs cs' : Array Value} {t : TypeId} {u : Value} (h : W.heap[g]? = some (.cells cs t (0, 0))) (e : cs.setIfInBounds k u = cs') : (W.setCell ⟨g, k, none⟩ u).heap[g]? = some (.cells cs' t (0, 0)) := by
  rw [setCell_eq_setRow W g k _ _ _ _ h, setRow_heap W g _ _ _ _ h, e]
theorem row_far {W : World} {g g' k : Nat} {x : Obj} {u : Value} (h : W.heap[g]? = some x) (hne : g' ≠ g) : (W.setCell ⟨g', k, none⟩ u).heap[g]? = some x := by
  rw [Below.heap_setCell W ⟨g', k, none⟩ u g (fun e => hne e.symm)]; exact h
theorem Mvd.putNew {R : Nat} {w a : World} (h : Mvd R w a) {g : Nat} (hg : w.heap.size ≤ g) (k : Nat) (u : Value) : Mvd R w (a.setCell ⟨g, k, none⟩ u) := by
  have hb := Below.setCell (B := g) (a := a) (w := a) (Below.refl g a) (p := ⟨g, k, none⟩) (Nat.le_refl g) u
  exact ⟨hb.os.trans h.os, hb.tape.trans h.tape, hb.output.trans h.output, Nat.le_trans h.size hb.size, fun i hi hne => (Below.heap_setCell a ⟨g, k, none⟩ u i (by show i ≠ g; omega)).trans (h.block i hi hne)⟩
theorem ints_mvd {R : Nat} {W W' : World} {a : Option Addr} {n : Nat} {l : List Int} (h : IntsAt W a n l) (k : Mvd R W W') (hne : ∀ b o, a = some ⟨b, o, none⟩ → b ≠ R) : IntsAt W' a n l := by
  refine ⟨h.1, ?_⟩
  rcases h.2 with h0 | ⟨b, o, e, hb, hc⟩
  · exact Or.inl h0
  · refine Or.inr ⟨b, o, e, Nat.lt_of_lt_of_le hb k.size, fun t ht => ?_⟩
    rw [World.cell?_of_block (w := W) (k.block b hb (hne b o e))]
    exact hc t ht

theorem ty_mvd {R : Nat} {W W' : World} {a : Option Addr} {T : List UInt8} {pos ln : Nat} (h : TyI W a) (hr : Rd W R T pos ln) (k : Mvd R W W') : TyI W' a :=
  h.keep fun b cur fr e => k.block b (Array.getElem?_eq_some_iff.1 e).1 (fun hb => by subst hb; rw [hr.row] at e; cases e)
theorem ty_put {W : World} {a : Option Addr} {g k : Nat} {cs : Array Value} {t : TypeId} {u : Value} (h : TyI W a) (hg : W.heap[g]? = some (.cells cs t (0, 0))) (ht : t ≠ 3) : TyI (W.setCell ⟨g, k, none⟩ u) a :=
  h.keep fun b cur fr e => Below.heap_setCell W ⟨g, k, none⟩ u b (fun hb => by have hb' : b = g := hb; subst hb'; rw [hg] at e; injection e with e; injection e with _ e2; exact ht e2)

/-- While an operation is read. -/
structure OpS (w W : World) (R P : Nat) (T : List UInt8) (pos ln : Nat) (k0 k1 : Int) (a1 : Option Addr) (n1 c1 : Nat) (l1 : List Int) (k3 k4 : Int) (a2 : Option Addr) (n2 c2 : Nat) (l2 : List Int) (uK uQ uC uB : Bool) (wd : ByteArray) : Prop where
  rd : Rd W R T pos ln
  mv : Mvd R w W
  bx : OpBx W P k0 k1 a1 n1 c1 k3 k4 a2 n2 c2
  us : W.heap[P + 1]? = some (.cells #[.string wd, .bool uK, .bool uQ, .bool uC, .bool uB] 78 (0, 0))
  rs : OpBx W w.heap.size 0 0 none 0 0 0 0 none 0 0
  i1 : IntsAt W a1 n1 l1
  m1 : n1 ≤ c1 ∧ c1 ≤ maxLen
  w1 : ∀ b o, a1 = some ⟨b, o, none⟩ → P + 1 < b
  t1 : TyI W a1
  i2 : IntsAt W a2 n2 l2
  m2 : n2 ≤ c2 ∧ c2 ≤ maxLen
  w2 : ∀ b o, a2 = some ⟨b, o, none⟩ → P + 1 < b
  t2 : TyI W a2
section
variable {w W W' : World} {R P : Nat} {T : List UInt8} {pos pos' ln : Nat} {k0 k1 : Int} {a1 : Option Addr} {n1 c1 : Nat} {l1 : List Int} {k3 k4 : Int} {a2 : Option Addr} {n2 c2 : Nat} {l2 : List Int} {uK uQ uC uB : Bool} {wd : ByteArray}
theorem OpS.call (h : OpS w W R P T pos ln k0 k1 a1 n1 c1 l1 k3 k4 a2 n2 c2 l2 uK uQ uC uB wd) (hR : R < w.heap.size) (hP : w.heap.size < P) (hr : Rd W' R T pos' ln) (k : Mvd R W W') : OpS w W' R P T pos' ln k0 k1 a1 n1 c1 l1 k3 k4 a2 n2 c2 l2 uK uQ uC uB wd :=
  ⟨hr, h.mv.trans k, ⟨(k.block P h.bx.lt (by omega)).trans h.bx.row⟩, (k.block (P + 1) (Array.getElem?_eq_some_iff.1 h.us).1 (by omega)).trans h.us, ⟨(k.block _ h.rs.lt (by omega)).trans h.rs.row⟩,
    ints_mvd h.i1 k (fun b o e => by have := h.w1 b o e; omega), h.m1, h.w1, ty_mvd h.t1 h.rd k, ints_mvd h.i2 k (fun b o e => by have := h.w2 b o e; omega), h.m2, h.w2, ty_mvd h.t2 h.rd k⟩
theorem OpS.u1 (h : OpS w W R P T pos ln k0 k1 a1 n1 c1 l1 k3 k4 a2 n2 c2 l2 uK uQ uC uB wd) : W.cell? ⟨P + 1, 1, none⟩ = some (.bool uK) := by rw [cell_of_row W _ 1 _ _ (0, 0) h.us]; rfl
theorem OpS.u2 (h : OpS w W R P T pos ln k0 k1 a1 n1 c1 l1 k3 k4 a2 n2 c2 l2 uK uQ uC uB wd) : W.cell? ⟨P + 1, 2, none⟩ = some (.bool uQ) := by rw [cell_of_row W _ 2 _ _ (0, 0) h.us]; rfl
theorem OpS.u3 (h : OpS w W R P T pos ln k0 k1 a1 n1 c1 l1 k3 k4 a2 n2 c2 l2 uK uQ uC uB wd) : W.cell? ⟨P + 1, 3, none⟩ = some (.bool uC) := by rw [cell_of_row W _ 3 _ _ (0, 0) h.us]; rfl
theorem OpS.u4 (h : OpS w W R P T pos ln k0 k1 a1 n1 c1 l1 k3 k4 a2 n2 c2 l2 uK uQ uC uB wd) : W.cell? ⟨P + 1, 4, none⟩ = some (.bool uB) := by rw [cell_of_row W _ 4 _ _ (0, 0) h.us]; rfl
theorem OpBx.fz (h : OpBx W P k0 k1 a1 n1 c1 k3 k4 a2 n2 c2) (o : Nat) : W.frozen? ⟨P, o, none⟩ = false := frozen_of_row W P o _ _ h.row
theorem OpS.far (h : OpS w W R P T pos ln k0 k1 a1 n1 c1 l1 k3 k4 a2 n2 c2 l2 uK uQ uC uB wd) (hR : R < w.heap.size) (hP : w.heap.size < P) (k : Nat) (u : Value) {k1' : Int} {a1' : Option Addr} {n1' c1' : Nat} {k3' k4' : Int} {a2' : Option Addr} {n2' c2' : Nat} {l1' l2' : List Int}
    (hbx : OpBx (W.setCell ⟨P, k, none⟩ u) P k0 k1' a1' n1' c1' k3' k4' a2' n2' c2') (i1 : IntsAt W a1' n1' l1') (m1 : n1' ≤ c1' ∧ c1' ≤ maxLen) (w1 : ∀ b o, a1' = some ⟨b, o, none⟩ → P + 1 < b) (t1 : TyI W a1') (i2 : IntsAt W a2' n2' l2') (m2 : n2' ≤ c2' ∧ c2' ≤ maxLen) (w2 : ∀ b o, a2' = some ⟨b, o, none⟩ → P + 1 < b) (t2 : TyI W a2') :
    OpS w (W.setCell ⟨P, k, none⟩ u) R P T pos ln k0 k1' a1' n1' c1' l1' k3' k4' a2' n2' c2' l2' uK uQ uC uB wd :=
  ⟨⟨row_far h.rd.row (by omega)⟩, h.mv.putNew (by omega) k u, hbx, row_far h.us (by omega), ⟨row_far h.rs.row (by omega)⟩, i1.putFar (fun b o e => by have := w1 b o e; omega), m1, w1, ty_put t1 h.bx.row (by decide), i2.putFar (fun b o e => by have := w2 b o e; omega), m2, w2, ty_put t2 h.bx.row (by decide)⟩
theorem OpS.put1 (h : OpS w W R P T pos ln k0 k1 a1 n1 c1 l1 k3 k4 a2 n2 c2 l2 uK uQ uC uB wd) (hR : R < w.heap.size) (hP : w.heap.size < P) (v : Int) : OpS w (W.setCell ⟨P, 1, none⟩ (.int .i64 v)) R P T pos ln k0 v a1 n1 c1 l1 k3 k4 a2 n2 c2 l2 uK uQ uC uB wd :=
  h.far hR hP 1 _ ⟨row_put h.bx.row rfl⟩ h.i1 h.m1 h.w1 h.t1 h.i2 h.m2 h.w2 h.t2
theorem OpS.put3 (h : OpS w W R P T pos ln k0 k1 a1 n1 c1 l1 k3 k4 a2 n2 c2 l2 uK uQ uC uB wd) (hR : R < w.heap.size) (hP : w.heap.size < P) (v : Int) : OpS w (W.setCell ⟨P, 3, none⟩ (.int .i64 v)) R P T pos ln k0 k1 a1 n1 c1 l1 v k4 a2 n2 c2 l2 uK uQ uC uB wd :=
  h.far hR hP 3 _ ⟨row_put h.bx.row rfl⟩ h.i1 h.m1 h.w1 h.t1 h.i2 h.m2 h.w2 h.t2
theorem OpS.put4 (h : OpS w W R P T pos ln k0 k1 a1 n1 c1 l1 k3 k4 a2 n2 c2 l2 uK uQ uC uB wd) (hR : R < w.heap.size) (hP : w.heap.size < P) (v : Int) : OpS w (W.setCell ⟨P, 4, none⟩ (.int .i64 v)) R P T pos ln k0 k1 a1 n1 c1 l1 k3 v a2 n2 c2 l2 uK uQ uC uB wd :=
  h.far hR hP 4 _ ⟨row_put h.bx.row rfl⟩ h.i1 h.m1 h.w1 h.t1 h.i2 h.m2 h.w2 h.t2
theorem OpS.put2 (h : OpS w W R P T pos ln k0 k1 a1 n1 c1 l1 k3 k4 a2 n2 c2 l2 uK uQ uC uB wd) (hR : R < w.heap.size) (hP : w.heap.size < P) (a' : Option Addr) (n' c' : Nat) (l' : List Int) (hi : IntsAt W a' n' l') (hm : n' ≤ c' ∧ c' ≤ maxLen) (hw : ∀ b o, a' = some ⟨b, o, none⟩ → P + 1 < b) (ht : TyI W a') :
    OpS w (W.setCell ⟨P, 2, none⟩ (.slice a' n' c')) R P T pos ln k0 k1 a' n' c' l' k3 k4 a2 n2 c2 l2 uK uQ uC uB wd :=
  h.far hR hP 2 _ ⟨row_put h.bx.row rfl⟩ hi hm hw ht h.i2 h.m2 h.w2 h.t2
theorem OpS.put5 (h : OpS w W R P T pos ln k0 k1 a1 n1 c1 l1 k3 k4 a2 n2 c2 l2 uK uQ uC uB wd) (hR : R < w.heap.size) (hP : w.heap.size < P) (a' : Option Addr) (n' c' : Nat) (l' : List Int) (hi : IntsAt W a' n' l') (hm : n' ≤ c' ∧ c' ≤ maxLen) (hw : ∀ b o, a' = some ⟨b, o, none⟩ → P + 1 < b) (ht : TyI W a') :
    OpS w (W.setCell ⟨P, 5, none⟩ (.slice a' n' c')) R P T pos ln k0 k1 a1 n1 c1 l1 k3 k4 a' n' c' l' uK uQ uC uB wd :=
  h.far hR hP 5 _ ⟨row_put h.bx.row rfl⟩ h.i1 h.m1 h.w1 h.t1 hi hm hw ht
end

/-- What an operation that is not used leaves at nought. -/
structure Unused (o : Gop) : Prop where
  k : usesK o.kind = false → o.k = 0
  q : usesQ o.kind = false → o.q = 0
  c : usesC o.kind = false → o.ctl = []
  b : usesB o.kind = false → o.bit = 0
theorem unused_of_code {o : Gop} {n b : Int} (h : opCode o n b = 0) : Unused o := by
  unfold opCode at h
  split at h
  · omega
  split at h
  · omega
  rename_i hk
  split at h
  · omega
  rename_i hq
  split at h
  · omega
  rename_i hc
  split at h
  · exact absurd h (by assumption)
  split at h
  · omega
  rename_i hb
  refine ⟨fun e => ?_, fun e => ?_, fun e => ?_, fun e => ?_⟩
  · rw [e] at hk; simpa [fitsB] using hk
  · rw [e] at hq; simpa [fitsB] using hq
  · have : ¬ 0 < o.ctl.length := fun h0 => hc ⟨h0, e⟩
    exact List.eq_nil_of_length_eq_zero (by omega)
  · rw [e] at hb; simpa [fitsB] using hb

/-- It begins with what is no digit. -/
def Hd (s : List UInt8) : Prop := ∃ c r, s = c :: r ∧ c.toNat < 48
theorem Hd.num (x : Int) (s : List UInt8) : Hd (numL x ++ s) := ⟨32, _, rfl, by decide⟩

end Go.Proofs.YtpabafioofhklaaDoor
