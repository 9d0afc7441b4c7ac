/-
  The reference reads a line loosely: what it holds meanwhile.
-/
import Derived.Test.YtfjbhiihfibbaaaDoorMHb
import Derived.Test.YtfjbhiihfibbaaaDoorMCj
import Derived.Test.YtfjbhiihfibbaaaDoorMDi
import Derived.Maps.AppendAt

namespace Go.Proofs.YtfjbhiihfibbaaaDoor
open Go.RowKit

/-- Two rows lie in different blocks. -/
def Apt (v u : Value) : Prop := ∀ k, v.ownBlock = some k → u.ownBlock = some k → False
theorem Apt.symm {v u : Value} (h : Apt v u) : Apt u v := fun k h1 h2 => h k h2 h1
theorem own_keep2 {w w' : World} {base : Nat} {e : TypeId} {size : Nat} {v : Value} {n : Nat} {xs : List Value} (h : w.ownsRow base e size v n xs) (hk : ∀ g, v.ownBlock = some g → w'.heap[g]? = w.heap[g]?) : w'.ownsRow base e size v n xs := by
  refine ⟨h.1, ?_⟩
  rcases h.2 with h | ⟨g, cap, cur, hv, hb, hg, rest⟩
  · exact Or.inl h
  · exact Or.inr ⟨g, cap, cur, hv, hb, (hk g (by rw [hv]; rfl)).trans hg, rest⟩

/-- While a line is read: the operation's variable, its two lists, the plain numbers. -/
structure LoS (V W : World) (s : Lo) (k q : Int) (a1 : Option Addr) (c1 : Nat) (a2 : Option Addr) (c2 : Nat) (vp : Value) : Prop where
  ext : Ext V W
  bx : OpBx W V.heap.size s.kind k a1 s.ctl.length c1 q s.bit a2 s.cnd.length c2
  r1 : W.ownsRow (V.heap.size + 1) 3 1 (.slice a1 s.ctl.length c1) s.ctl.length (iC s.ctl)
  r2 : W.ownsRow (V.heap.size + 1) 3 1 (.slice a2 s.cnd.length c2) s.cnd.length (iC s.cnd)
  r3 : W.ownsRow (V.heap.size + 1) 3 1 vp s.plain.length (iC s.plain)
  d12 : Apt (.slice a1 s.ctl.length c1) (.slice a2 s.cnd.length c2)
  d13 : Apt (.slice a1 s.ctl.length c1) vp
  d23 : Apt (.slice a2 s.cnd.length c2) vp
section
variable {V W W' : World} {s : Lo} {k q : Int} {a1 : Option Addr} {c1 : Nat} {a2 : Option Addr} {c2 : Nat} {vp : Value}
theorem LoS.on (h : LoS V W s k q a1 c1 a2 c2 vp) (e : Ext W W') : LoS V W' s k q a1 c1 a2 c2 vp :=
  ⟨h.ext.trans e, h.bx.ext e, own_keep2 h.r1 (fun g hg => e.block g (own_lt h.r1 g hg).2), own_keep2 h.r2 (fun g hg => e.block g (own_lt h.r2 g hg).2), own_keep2 h.r3 (fun g hg => e.block g (own_lt h.r3 g hg).2), h.d12, h.d13, h.d23⟩
theorem LoS.lt (h : LoS V W s k q a1 c1 a2 c2 vp) : V.heap.size < W.heap.size := h.bx.lt
/-- A row grows: the others stand. -/
theorem grown_row {u v : Value} {base n : Nat} {xs : List Value} {e : TypeId} (hu : W.ownsRow base e 1 u n xs) (hg : W.grownBy W' v.ownBlock) (hd : Apt v u) : W'.ownsRow base e 1 u n xs :=
  own_keep2 hu (fun g h1 => hg.block g (own_lt hu g h1).2 (fun h2 => hd g h2.symm h1))
theorem apt_grown {u v : Value} {base n : Nat} {xs : List Value} {e : TypeId} {v' : Value} (hu : W.ownsRow base e 1 u n xs) (hd : Apt v u) (hat : v'.ownBlock = v.ownBlock ∨ v'.ownBlock = some W.heap.size) : Apt v' u := by
  intro k h1 h2
  rcases hat with h | h
  · exact hd k (h.symm.trans h1) h2
  · have := (own_lt hu k h2).2
    rw [h] at h1
    injection h1 with h1
    omega
theorem put_row {u : Value} {base n k' : Nat} {x : Value} {xs : List Value} {e : TypeId} {g' : Nat} (hu : W.ownsRow base e 1 u n xs) (hb : g' < base) : (W.setCell ⟨g', k', none⟩ x).ownsRow base e 1 u n xs :=
  own_keep2 hu (fun g h1 => Below.heap_setCell W ⟨g', k', none⟩ x g (by have := (own_lt hu g h1).1; show g ≠ g'; omega))
theorem LoS.app3 (h : LoS V W s k q a1 c1 a2 c2 vp) {v' : Value} {x : Int} (ho : W'.ownsRow (V.heap.size + 1) 3 1 v' (s.plain.length + 1) (iC s.plain ++ [.int .i64 x])) (hg : W.grownBy W' vp.ownBlock) (hat : v'.ownBlock = vp.ownBlock ∨ v'.ownBlock = some W.heap.size) :
    LoS V W' { s with plain := s.plain ++ [x] } k q a1 c1 a2 c2 v' := by
  refine ⟨grown_ext h.ext hg (fun g e => by have := (own_lt h.r3 g e).1; omega), ⟨(hg.block _ h.bx.lt (fun e => by have := (own_lt h.r3 _ e.symm).1; omega)).trans h.bx.row⟩, grown_row h.r1 hg h.d13.symm, grown_row h.r2 hg h.d23.symm, ?_, h.d12, (apt_grown h.r1 h.d13.symm hat).symm, (apt_grown h.r2 h.d23.symm hat).symm⟩
  simp only [List.length_append, List.length_singleton, iC_snoc]; exact ho
theorem LoS.app1 (h : LoS V W s k q a1 c1 a2 c2 vp) {g cap : Nat} {x : Int} (ho : W'.ownsRow (V.heap.size + 1) 3 1 (.slice (some ⟨g, 0, none⟩) (s.ctl.length + 1) cap) (s.ctl.length + 1) (iC s.ctl ++ [.int .i64 x])) (hg : W.grownBy W' (Value.slice a1 s.ctl.length c1).ownBlock) (hat : (Value.slice a1 s.ctl.length c1).ownBlock = some g ∨ g = W.heap.size) :
    LoS V (W'.setCell ⟨V.heap.size, 2, none⟩ (.slice (some ⟨g, 0, none⟩) (s.ctl.length + 1) cap)) { s with ctl := s.ctl ++ [x] } k q (some ⟨g, 0, none⟩) cap a2 c2 vp := by
  have hat' : (Value.slice (some ⟨g, 0, none⟩) (s.ctl.length + 1) cap).ownBlock = (Value.slice a1 s.ctl.length c1).ownBlock ∨ (Value.slice (some ⟨g, 0, none⟩) (s.ctl.length + 1) cap).ownBlock = some W.heap.size := by
    rcases hat with e | e
    · exact Or.inl e.symm
    · exact Or.inr (by rw [e]; rfl)
  have hb : OpBx W' V.heap.size s.kind k a1 s.ctl.length c1 q s.bit a2 s.cnd.length c2 := ⟨(hg.block _ h.bx.lt (fun e => by have := (own_lt h.r1 _ e.symm).1; omega)).trans h.bx.row⟩
  have hlen : (s.ctl ++ [x]).length = s.ctl.length + 1 := by simp
  refine ⟨cput (grown_ext h.ext hg (fun g e => by have := (own_lt h.r1 g e).1; omega)) (Nat.le_refl _) _, ?_, ?_, put_row (grown_row h.r2 hg h.d12) (Nat.lt_succ_self _), put_row (grown_row h.r3 hg h.d13) (Nat.lt_succ_self _), ?_, ?_, h.d23⟩
  · simp only [hlen]; exact hb.set2 _ _ _
  · simp only [hlen, iC_snoc]; exact put_row ho (Nat.lt_succ_self _)
  · simp only [hlen]; exact apt_grown h.r2 h.d12 hat'
  · simp only [hlen]; exact apt_grown h.r3 h.d13 hat'
theorem LoS.app2 (h : LoS V W s k q a1 c1 a2 c2 vp) {g cap : Nat} {x : Int} (ho : W'.ownsRow (V.heap.size + 1) 3 1 (.slice (some ⟨g, 0, none⟩) (s.cnd.length + 1) cap) (s.cnd.length + 1) (iC s.cnd ++ [.int .i64 x])) (hg : W.grownBy W' (Value.slice a2 s.cnd.length c2).ownBlock) (hat : (Value.slice a2 s.cnd.length c2).ownBlock = some g ∨ g = W.heap.size) :
    LoS V (W'.setCell ⟨V.heap.size, 5, none⟩ (.slice (some ⟨g, 0, none⟩) (s.cnd.length + 1) cap)) { s with cnd := s.cnd ++ [x] } k q a1 c1 (some ⟨g, 0, none⟩) cap vp := by
  have hat' : (Value.slice (some ⟨g, 0, none⟩) (s.cnd.length + 1) cap).ownBlock = (Value.slice a2 s.cnd.length c2).ownBlock ∨ (Value.slice (some ⟨g, 0, none⟩) (s.cnd.length + 1) cap).ownBlock = some W.heap.size := by
    rcases hat with e | e
    · exact Or.inl e.symm
    · exact Or.inr (by rw [e]; rfl)
  have hb : OpBx W' V.heap.size s.kind k a1 s.ctl.length c1 q s.bit a2 s.cnd.length c2 := ⟨(hg.block _ h.bx.lt (fun e => by have := (own_lt h.r2 _ e.symm).1; omega)).trans h.bx.row⟩
  have hlen : (s.cnd ++ [x]).length = s.cnd.length + 1 := by simp
  refine ⟨cput (grown_ext h.ext hg (fun g e => by have := (own_lt h.r2 g e).1; omega)) (Nat.le_refl _) _, ?_, put_row (grown_row h.r1 hg h.d12.symm) (Nat.lt_succ_self _), ?_, put_row (grown_row h.r3 hg h.d23) (Nat.lt_succ_self _), ?_, h.d13, ?_⟩
  · simp only [hlen]; exact hb.set5 _ _ _
  · simp only [hlen, iC_snoc]; exact put_row ho (Nat.lt_succ_self _)
  · simp only [hlen]; exact (apt_grown h.r1 h.d12.symm hat').symm
  · simp only [hlen]; exact apt_grown h.r3 h.d23 hat'
theorem LoS.bit (h : LoS V W s k q a1 c1 a2 c2 vp) (x : Int) : LoS V (W.setCell ⟨V.heap.size, 4, none⟩ (.int .i64 x)) { s with bit := x } k q a1 c1 a2 c2 vp :=
  ⟨cput h.ext (Nat.le_refl _) _, ⟨row_put h.bx.row rfl⟩, put_row h.r1 (Nat.lt_succ_self _), put_row h.r2 (Nat.lt_succ_self _), put_row h.r3 (Nat.lt_succ_self _), h.d12, h.d13, h.d23⟩
theorem LoS.putk (h : LoS V W s k q a1 c1 a2 c2 vp) (x : Int) : LoS V (W.setCell ⟨V.heap.size, 1, none⟩ (.int .i64 x)) s x q a1 c1 a2 c2 vp :=
  ⟨cput h.ext (Nat.le_refl _) _, ⟨row_put h.bx.row rfl⟩, put_row h.r1 (Nat.lt_succ_self _), put_row h.r2 (Nat.lt_succ_self _), put_row h.r3 (Nat.lt_succ_self _), h.d12, h.d13, h.d23⟩
theorem LoS.putq (h : LoS V W s k q a1 c1 a2 c2 vp) (x : Int) : LoS V (W.setCell ⟨V.heap.size, 3, none⟩ (.int .i64 x)) s k x a1 c1 a2 c2 vp :=
  ⟨cput h.ext (Nat.le_refl _) _, ⟨row_put h.bx.row rfl⟩, put_row h.r1 (Nat.lt_succ_self _), put_row h.r2 (Nat.lt_succ_self _), put_row h.r3 (Nat.lt_succ_self _), h.d12, h.d13, h.d23⟩
theorem LoS.part (h : LoS V W s k q a1 c1 a2 c2 vp) (x : Int) : LoS V W { s with part := x } k q a1 c1 a2 c2 vp := ⟨h.ext, h.bx, h.r1, h.r2, h.r3, h.d12, h.d13, h.d23⟩
end

end Go.Proofs.YtfjbhiihfibbaaaDoor
