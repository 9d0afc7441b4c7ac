/-
  Levels: the program's walk.
-/
import Derived.Test.YtfjbhiihfibbaaaDoorMCm
import Derived.Test.YtfjbhiihfibbaaaDoorMCf

namespace Go.Proofs.YtfjbhiihfibbaaaDoor
open Go.RowKit

/-- The array of last levels, in a variable. -/
def LastAt (w : World) (g : Nat) (f : Int → Int) : Prop := ∀ i : Nat, i < 24 → w.cell? ⟨g, i, none⟩ = some (.int .i64 (f (i : Int))) ∧ w.frozen? ⟨g, i, none⟩ = false
theorem LastAt.ext {w w' : World} {g : Nat} {f : Int → Int} (h : LastAt w g f) (k : Ext w w') : LastAt w' g f := fun i hi => by
  obtain ⟨h1, h2⟩ := h i hi
  have hlt := World.block_lt_of_cell? w ⟨g, i, none⟩ h1
  exact ⟨cell_ext h1 k, by rw [← h2]; simp only [World.frozen?, k.block g hlt]⟩
theorem LastAt.put {w : World} {g : Nat} {f : Int → Int} (h : LastAt w g f) (t : Nat) (ht : t < 24) (v : Int) : LastAt (w.setCell ⟨g, t, none⟩ (.int .i64 v)) g (updL f [(t : Int)] v) := fun i hi => by
  obtain ⟨h1, h2⟩ := h i hi
  refine ⟨?_, ?_⟩
  · by_cases e : i = t
    · subst e
      rw [World.cell?_setCell_same _ _ _ h1]; simp [updL]
    · rw [World.cell?_setCell_other _ _ _ _ (fun q => e (congrArg Addr.off q).symm), h1]
      have : ¬ ((i : Int) = (t : Int)) := by omega
      simp [updL, this]
  · rw [← h2]; simp
theorem LastAt.lt {w : World} {g : Nat} {f : Int → Int} (h : LastAt w g f) : g < w.heap.size := World.block_lt_of_cell? w ⟨g, 0, none⟩ (h 0 (by omega)).1
theorem IntsAt.putFar {w : World} {ao : Option Addr} {n : Nat} {l : List Int} (h : IntsAt w ao n l) {g k : Nat} {u : Value} (hne : ∀ b o, ao = some ⟨b, o, none⟩ → b ≠ g) : IntsAt (w.setCell ⟨g, k, none⟩ u) ao n l := by
  refine ⟨h.1, ?_⟩
  rcases h.2 with h0 | ⟨b, o, e, hb, hc⟩
  · exact Or.inl h0
  · refine Or.inr ⟨b, o, e, by simpa using hb, fun t ht => ?_⟩
    rw [World.cell?_setCell_other _ _ _ _ (fun q => hne b o e (congrArg Addr.block q).symm)]
    exact hc t ht
/-- What a checked operation keeps to. -/
structure LvFit (o : Gop) : Prop where
  kd : 1 ≤ o.kind ∧ o.kind ≤ 6
  bit : 0 ≤ o.bit ∧ o.bit ≤ 12
  cnd : ∀ t ∈ o.cnd, -12 ≤ t ∧ t ≤ 12
  ctl : (o.ctl.length + 26) * 8 ≤ 140737488355328
  few : o.cnd.length ≤ 24
  pl : ∀ t ∈ plP o, 0 ≤ t ∧ t < 24

end Go.Proofs.YtfjbhiihfibbaaaDoor

/-
  What a circuit without a fault keeps to; what Count tells of one, in plain numbers.
-/
namespace Go.Proofs.YtfjbhiihfibbaaaDoor
open Go.RowKit

theorem pigeon : ∀ (k : Nat) (l : List Int), l.Nodup → (∀ c ∈ l, 0 ≤ c ∧ c < (k : Int)) → l.length ≤ k := by
  intro k
  induction k with
  | zero =>
    intro l _ h
    cases l with
    | nil => simp
    | cons a r => have := h a (by simp); omega
  | succ k ih =>
    intro l hn h
    by_cases hm : (k : Int) ∈ l
    · have h1 := ih (l.erase (k : Int)) (hn.erase _) (fun c hc => by
        have hc' := hn.mem_erase_iff.1 hc
        have := h c hc'.2
        have := hc'.1
        omega)
      have h2 := List.length_erase_of_mem hm
      omega
    · have := ih l hn (fun c hc => by
        have h3 := h c hc
        have : c ≠ (k : Int) := fun e => hm (e ▸ hc)
        omega)
      omega

theorem below_iff {n b : Int} : below n b = true ↔ 0 ≤ n ∧ n < b := by simp [below]
theorem ctlCode_zero (q n : Int) : ∀ (l s : List Int), ctlCode q n s l = 0 → (∀ c ∈ l, 0 ≤ c ∧ c < n) ∧ (s.Nodup → (s ++ l).Nodup) := by
  intro l
  induction l with
  | nil => intro s _; exact ⟨by simp, by simp⟩
  | cons c r ih =>
    intro s h
    rw [ctlCode] at h
    split at h
    · omega
    · rename_i hb
      split at h
      · omega
      · rename_i hc
        obtain ⟨h1, h2⟩ := ih _ h
        have hb' : below c n = true := by cases hx : below c n with
          | true => rfl
          | false => exact absurd hx hb
        refine ⟨?_, ?_⟩
        · intro x hx
          rcases List.mem_cons.1 hx with rfl | hx
          · exact below_iff.1 hb'
          · exact h1 x hx
        · intro hs
          have hcs : c ∉ s := fun e => hc (Or.inr e)
          have := h2 (by
            rw [List.nodup_append]
            refine ⟨hs, by simp, ?_⟩
            intro a ha b hb e
            simp at hb
            subst hb; subst e
            exact hcs ha)
          simpa using this

theorem fit_of_code {o : Gop} {n b : Int} (hn : n ≤ 12) (hb0 : 0 ≤ b) (hb : b ≤ 12) (h : opCode o n b = 0) : LvFit o ∧ placesFit o ∧ o.ctl.length ≤ 12 ∧ (∀ c ∈ o.ctl, 0 ≤ c ∧ c < n) := by
  unfold opCode at h
  split at h
  · omega
  rename_i hk
  split at h
  · omega
  split at h
  · omega
  rename_i hq
  split at h
  · omega
  split at h
  · exact absurd h (by assumption)
  rename_i hc
  split at h
  · omega
  rename_i hbit
  split at h
  · omega
  rename_i hcn
  have hc0 : ctlCode o.q n [] o.ctl = 0 := by
    by_cases e : ctlCode o.q n [] o.ctl = 0
    · exact e
    · exact absurd e hc
  obtain ⟨z1, z2⟩ := ctlCode_zero o.q n o.ctl [] hc0
  have z3 : o.ctl.Nodup := by simpa using z2 (by simp)
  have z4 := pigeon 12 o.ctl z3 (fun c hc => by have := z1 c hc; omega)
  have q1 : 0 ≤ o.q ∧ o.q < 12 := by
    unfold fitsB at hq
    split at hq
    · have : below o.q n = true := by simpa using hq
      have := below_iff.1 this; omega
    · have : o.q = 0 := by simpa using hq
      omega
  have b1 : 0 ≤ o.bit ∧ o.bit ≤ 12 ∧ (o.kind = 5 → o.bit < 12) := by
    unfold fitsB at hbit
    split at hbit
    · have : below o.bit b = true := by simpa using hbit
      have := below_iff.1 this; omega
    · have : o.bit = 0 := by simpa using hbit
      omega
  have c1 : o.cnd.length ≤ 24 ∧ ∀ t ∈ o.cnd, t ≠ 0 ∧ -12 ≤ t ∧ t ≤ 12 := by
    have : cndOk b o.cnd = true := by simpa using hcn
    unfold cndOk at this
    simp only [Bool.and_eq_true, decide_eq_true_eq, List.all_eq_true] at this
    refine ⟨this.1, fun t ht => ?_⟩
    have ht' := this.2 t ht
    unfold termOk at ht'
    simp at ht'
    omega
  refine ⟨⟨by omega, ⟨b1.1, b1.2.1⟩, fun t ht => (c1.2 t ht).2, by omega, c1.1, ?_⟩, ⟨fun t ht => by have := z1 t ht; omega, q1.2, b1.1, fun t ht => (c1.2 t ht).1⟩, z4, z1⟩
  intro t ht
  unfold plP at ht
  simp only [List.mem_append] at ht
  rcases ht with ((ht | ht) | ht) | ht
  · have := z1 t ht; omega
  · unfold tchQ at ht
    split at ht
    · simp at ht
    · simp at ht; omega
  · unfold tchB at ht
    split at ht
    · simp at ht; have := b1.2.2 (by assumption); omega
    · simp at ht
  · unfold tchC at ht
    simp only [List.mem_map] at ht
    obtain ⟨u, hu, rfl⟩ := ht
    have := c1.2 u hu
    unfold bitOf
    split <;> omega

/-- Of a circuit without a fault both sides reckon the same levels. -/
theorem levels_same {c : Gci} (h : (chk c).1 = 0) : (lvs plR c.ops).2 = (lvs plP c.ops).2 := by
  obtain ⟨_, _, h2, h3, h4, _, h5⟩ := chk_zero h
  exact (lvs_same c.ops (fun o ho => (fit_of_code h2 h3 h4 (h5 o ho)).2.1)).2

end Go.Proofs.YtfjbhiihfibbaaaDoor

/-
  A tally in a variable; what is counted, in plain numbers.
-/
namespace Go.Proofs.YtfjbhiihfibbaaaDoor
open Go.RowKit

/-- How many of the operations are such. -/
def cntP (p : Gop → Bool) (l : List Gop) : Int := ((l.filter p).length : Int)
theorem cntP_nil (p : Gop → Bool) : cntP p [] = 0 := rfl
theorem cntP_yes {p : Gop → Bool} {l : List Gop} {o : Gop} (h : p o = true) : cntP p (l ++ [o]) = cntP p l + 1 := by simp [cntP, List.filter_append, h]
theorem cntP_no {p : Gop → Bool} {l : List Gop} {o : Gop} (h : p o = false) : cntP p (l ++ [o]) = cntP p l := by simp [cntP, List.filter_append, h]
theorem cntP_bound (p : Gop → Bool) (l : List Gop) : 0 ≤ cntP p l ∧ cntP p l ≤ (l.length : Int) := by
  have := List.length_filter_le p l
  unfold cntP; omega
def isFork (o : Gop) : Bool := o.kind == 3
def isFine (o : Gop) : Bool := o.kind == 4 && !(o.k % 4 == 0)
def isWide (o : Gop) : Bool := decide (0 < o.ctl.length)
def isMeet (o : Gop) : Bool := decide (5 ≤ o.kind)

theorem ckeep {W w' : World} (h : Ext W w') {b o : Nat} {v : Value} (hb : b < W.heap.size) (hc : W.cell? ⟨b, o, none⟩ = some v) : w'.cell? ⟨b, o, none⟩ = some v := (h.cell (p := ⟨b, o, none⟩) hb).trans hc
theorem cthen {w w1 : World} (he : Ext w w1) (o : Obj) : Ext w (w1.alloc o) := he.trans (ext_al _ _)
theorem cput {w W : World} {g o : Nat} (h : Ext w W) (hg : w.heap.size ≤ g) (u : Value) : Ext w (W.setCell ⟨g, o, none⟩ u) := Below.setCell h (p := ⟨g, o, none⟩) hg u
theorem cdrew {w W : World} (h : Ext w W) : Ext w W.drew := Below.drew h

/-- The variable g holds a tally. -/
structure TlB (W : World) (g : Nat) (t0 t1 t2 t3 t4 t5 : Int) : Prop where
  x0 : W.cell? ⟨g, 0, none⟩ = some (.int .i64 t0)
  x1 : W.cell? ⟨g, 1, none⟩ = some (.int .i64 t1)
  x2 : W.cell? ⟨g, 2, none⟩ = some (.int .i64 t2)
  x3 : W.cell? ⟨g, 3, none⟩ = some (.int .i64 t3)
  x4 : W.cell? ⟨g, 4, none⟩ = some (.int .i64 t4)
  x5 : W.cell? ⟨g, 5, none⟩ = some (.int .i64 t5)
  f : ∀ o, W.frozen? ⟨g, o, none⟩ = false
section
variable {W W' : World} {g : Nat} {t0 t1 t2 t3 t4 t5 : Int}
theorem TlB.lt (h : TlB W g t0 t1 t2 t3 t4 t5) : g < W.heap.size := World.block_lt_of_cell? W ⟨g, 0, none⟩ h.x0
theorem TlB.ext (h : TlB W g t0 t1 t2 t3 t4 t5) (k : Ext W W') : TlB W' g t0 t1 t2 t3 t4 t5 :=
  ⟨cell_ext h.x0 k, cell_ext h.x1 k, cell_ext h.x2 k, cell_ext h.x3 k, cell_ext h.x4 k, cell_ext h.x5 k, fun o => by rw [← h.f o]; simp only [World.frozen?, k.block g h.lt]⟩
theorem cell_put_off {o o' : Nat} {u v : Value} (hne : o' ≠ o) (h : W.cell? ⟨g, o, none⟩ = some v) : (W.setCell ⟨g, o', none⟩ u).cell? ⟨g, o, none⟩ = some v := by
  rw [World.cell?_setCell_other _ _ _ _ (fun q => hne (congrArg Addr.off q))]; exact h
theorem TlB.put1 (h : TlB W g t0 t1 t2 t3 t4 t5) (v : Int) : TlB (W.setCell ⟨g, 1, none⟩ (.int .i64 v)) g t0 v t2 t3 t4 t5 :=
  ⟨cell_put_off (by decide) h.x0, World.cell?_setCell_same _ _ _ h.x1, cell_put_off (by decide) h.x2, cell_put_off (by decide) h.x3, cell_put_off (by decide) h.x4, cell_put_off (by decide) h.x5, fun o => by rw [World.frozen?_setCell]; exact h.f o⟩
theorem TlB.put2 (h : TlB W g t0 t1 t2 t3 t4 t5) (v : Int) : TlB (W.setCell ⟨g, 2, none⟩ (.int .i64 v)) g t0 t1 v t3 t4 t5 :=
  ⟨cell_put_off (by decide) h.x0, cell_put_off (by decide) h.x1, World.cell?_setCell_same _ _ _ h.x2, cell_put_off (by decide) h.x3, cell_put_off (by decide) h.x4, cell_put_off (by decide) h.x5, fun o => by rw [World.frozen?_setCell]; exact h.f o⟩
theorem TlB.put3 (h : TlB W g t0 t1 t2 t3 t4 t5) (v : Int) : TlB (W.setCell ⟨g, 3, none⟩ (.int .i64 v)) g t0 t1 t2 v t4 t5 :=
  ⟨cell_put_off (by decide) h.x0, cell_put_off (by decide) h.x1, cell_put_off (by decide) h.x2, World.cell?_setCell_same _ _ _ h.x3, cell_put_off (by decide) h.x4, cell_put_off (by decide) h.x5, fun o => by rw [World.frozen?_setCell]; exact h.f o⟩
theorem TlB.put4 (h : TlB W g t0 t1 t2 t3 t4 t5) (v : Int) : TlB (W.setCell ⟨g, 4, none⟩ (.int .i64 v)) g t0 t1 t2 t3 v t5 :=
  ⟨cell_put_off (by decide) h.x0, cell_put_off (by decide) h.x1, cell_put_off (by decide) h.x2, cell_put_off (by decide) h.x3, World.cell?_setCell_same _ _ _ h.x4, cell_put_off (by decide) h.x5, fun o => by rw [World.frozen?_setCell]; exact h.f o⟩
theorem TlB.put5 (h : TlB W g t0 t1 t2 t3 t4 t5) (v : Int) : TlB (W.setCell ⟨g, 5, none⟩ (.int .i64 v)) g t0 t1 t2 t3 t4 v :=
  ⟨cell_put_off (by decide) h.x0, cell_put_off (by decide) h.x1, cell_put_off (by decide) h.x2, cell_put_off (by decide) h.x3, cell_put_off (by decide) h.x4, World.cell?_setCell_same _ _ _ h.x5, fun o => by rw [World.frozen?_setCell]; exact h.f o⟩
theorem TlB.put0 (h : TlB W g t0 t1 t2 t3 t4 t5) (v : Int) : TlB (W.setCell ⟨g, 0, none⟩ (.int .i64 v)) g v t1 t2 t3 t4 t5 :=
  ⟨World.cell?_setCell_same _ _ _ h.x0, cell_put_off (by decide) h.x1, cell_put_off (by decide) h.x2, cell_put_off (by decide) h.x3, cell_put_off (by decide) h.x4, cell_put_off (by decide) h.x5, fun o => by rw [World.frozen?_setCell]; exact h.f o⟩
theorem cell_put_far {o k : Nat} {g' : Nat} {u v : Value} (hne : g' ≠ g) (h : W.cell? ⟨g, o, none⟩ = some v) : (W.setCell ⟨g', k, none⟩ u).cell? ⟨g, o, none⟩ = some v := by
  rw [World.cell?_setCell_other _ _ _ _ (fun q => hne (congrArg Addr.block q))]; exact h
theorem TlB.far (h : TlB W g t0 t1 t2 t3 t4 t5) {g' k : Nat} (hne : g' ≠ g) (u : Value) : TlB (W.setCell ⟨g', k, none⟩ u) g t0 t1 t2 t3 t4 t5 :=
  ⟨cell_put_far hne h.x0, cell_put_far hne h.x1, cell_put_far hne h.x2, cell_put_far hne h.x3, cell_put_far hne h.x4, cell_put_far hne h.x5, fun o => by rw [World.frozen?_setCell]; exact h.f o⟩
theorem TlB.drew (h : TlB W g t0 t1 t2 t3 t4 t5) : TlB W.drew g t0 t1 t2 t3 t4 t5 := ⟨h.x0, h.x1, h.x2, h.x3, h.x4, h.x5, h.f⟩
/-- The world behind the stores of a tally and of a fault. -/
abbrev putTF (W : World) (g g' : Nat) (a0 a1 a2 a3 a4 a5 f0 f1 : Int) : World :=
  (((((((W.setCell ⟨g, 0, none⟩ (.int .i64 a0)).setCell ⟨g, 1, none⟩ (.int .i64 a1)).setCell ⟨g, 2, none⟩ (.int .i64 a2)).setCell ⟨g, 3, none⟩ (.int .i64 a3)).setCell ⟨g, 4, none⟩ (.int .i64 a4)).setCell ⟨g, 5, none⟩ (.int .i64 a5)).setCell ⟨g', 0, none⟩ (.int .i64 f0)).setCell ⟨g', 1, none⟩ (.int .i64 f1)
theorem TlB.putTF (h : TlB W g t0 t1 t2 t3 t4 t5) {g' : Nat} (hne : g' ≠ g) (a0 a1 a2 a3 a4 a5 f0 f1 : Int) {y0 y1 : Value} (h0 : W.cell? ⟨g', 0, none⟩ = some y0) (h1 : W.cell? ⟨g', 1, none⟩ = some y1) :
    TlB (putTF W g g' a0 a1 a2 a3 a4 a5 f0 f1) g a0 a1 a2 a3 a4 a5 ∧ (putTF W g g' a0 a1 a2 a3 a4 a5 f0 f1).cell? ⟨g', 0, none⟩ = some (.int .i64 f0) ∧ (putTF W g g' a0 a1 a2 a3 a4 a5 f0 f1).cell? ⟨g', 1, none⟩ = some (.int .i64 f1) := by
  have k0 : ∀ (o : Nat) (v : Value), W.cell? ⟨g', o, none⟩ = some v → ((((((W.setCell ⟨g, 0, none⟩ (.int .i64 a0)).setCell ⟨g, 1, none⟩ (.int .i64 a1)).setCell ⟨g, 2, none⟩ (.int .i64 a2)).setCell ⟨g, 3, none⟩ (.int .i64 a3)).setCell ⟨g, 4, none⟩ (.int .i64 a4)).setCell ⟨g, 5, none⟩ (.int .i64 a5)).cell? ⟨g', o, none⟩ = some v := fun o v hv =>
    cell_put_far hne.symm (cell_put_far hne.symm (cell_put_far hne.symm (cell_put_far hne.symm (cell_put_far hne.symm (cell_put_far hne.symm hv)))))
  refine ⟨((((((((h.put0 a0).put1 a1).put2 a2).put3 a3).put4 a4).put5 a5).far hne _).far hne _), ?_, ?_⟩
  · exact cell_put_off (by decide) (World.cell?_setCell_same _ _ _ (k0 0 y0 h0))
  · exact World.cell?_setCell_same _ _ _ (cell_put_off (by decide) (k0 1 y1 h1))
theorem ext_putTF {w0 : World} (h : Ext w0 W) {g' : Nat} (hg : w0.heap.size ≤ g) (hg' : w0.heap.size ≤ g') (a0 a1 a2 a3 a4 a5 f0 f1 : Int) : Ext w0 (putTF W g g' a0 a1 a2 a3 a4 a5 f0 f1) :=
  Below.setCell (Below.setCell (Below.setCell (Below.setCell (Below.setCell (Below.setCell (Below.setCell (Below.setCell h hg _) hg _) hg _) hg _) hg _) hg _) hg' _) hg' _
end

end Go.Proofs.YtfjbhiihfibbaaaDoor
