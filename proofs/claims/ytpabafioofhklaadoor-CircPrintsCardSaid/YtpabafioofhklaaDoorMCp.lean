/-
  What a circuit without a fault keeps to; what Count tells of one, in plain numbers.
-/
import Derived.Test.YtpabafioofhklaaDoorMCo
import Derived.Test.YtpabafioofhklaaDoorMCh

namespace Go.Proofs.YtpabafioofhklaaDoor
open Go.RowKit

theorem pigeon : ∀ (k : Nat) (l : List Int), l.Nodup → (∀ c ∈ l, 0 ≤ c ∧ c < (k : Int)) → l.length ≤ k := by
  intro k
  induction k with
  | zero =>
    intro l _ h
    cases l with
    | nil => simp
    | cons a r => have := h a (by simp); omega
  | succ k ih =>
    intro l hn h
    by_cases hm : (k : Int) ∈ l
    · have h1 := ih (l.erase (k : Int)) (hn.erase _) (fun c hc => by
        have hc' := hn.mem_erase_iff.1 hc
        have := h c hc'.2
        have := hc'.1
        omega)
      have h2 := List.length_erase_of_mem hm
      omega
    · have := ih l hn (fun c hc => by
        have h3 := h c hc
        have : c ≠ (k : Int) := fun e => hm (e ▸ hc)
        omega)
      omega

theorem below_iff {n b : Int} : below n b = true ↔ 0 ≤ n ∧ n < b := by simp [below]
theorem ctlCode_zero (q n : Int) : ∀ (l s : List Int), ctlCode q n s l = 0 → (∀ c ∈ l, 0 ≤ c ∧ c < n) ∧ (s.Nodup → (s ++ l).Nodup) := by
  intro l
  induction l with
  | nil => intro s _; exact ⟨by simp, by simp⟩
  | cons c r ih =>
    intro s h
    rw [ctlCode] at h
    split at h
    · omega
    · rename_i hb
      split at h
      · omega
      · rename_i hc
        obtain ⟨h1, h2⟩ := ih _ h
        have hb' : below c n = true := by cases hx : below c n with
          | true => rfl
          | false => exact absurd hx hb
        refine ⟨?_, ?_⟩
        · intro x hx
          rcases List.mem_cons.1 hx with rfl | hx
          · exact below_iff.1 hb'
          · exact h1 x hx
        · intro hs
          have hcs : c ∉ s := fun e => hc (Or.inr e)
          have := h2 (by
            rw [List.nodup_append]
            refine ⟨hs, by simp, ?_⟩
            intro a ha b hb e
            simp at hb
            subst hb; subst e
            exact hcs ha)
          simpa using this

theorem fit_of_code {o : Gop} {n b : Int} (hn : n ≤ 12) (hb0 : 0 ≤ b) (hb : b ≤ 12) (h : opCode o n b = 0) : LvFit o ∧ placesFit o ∧ o.ctl.length ≤ 12 ∧ (∀ c ∈ o.ctl, 0 ≤ c ∧ c < n) := by
  unfold opCode at h
  split at h
  · omega
  rename_i hk
  split at h
  · omega
  split at h
  · omega
  rename_i hq
  split at h
  · omega
  split at h
  · exact absurd h (by assumption)
  rename_i hc
  split at h
  · omega
  rename_i hbit
  split at h
  · omega
  rename_i hcn
  have hc0 : ctlCode o.q n [] o.ctl = 0 := by
    by_cases e : ctlCode o.q n [] o.ctl = 0
    · exact e
    · exact absurd e hc
  obtain ⟨z1, z2⟩ := ctlCode_zero o.q n o.ctl [] hc0
  have z3 : o.ctl.Nodup := by simpa using z2 (by simp)
  have z4 := pigeon 12 o.ctl z3 (fun c hc => by have := z1 c hc; omega)
  have q1 : 0 ≤ o.q ∧ o.q < 12 := by
    unfold fitsB at hq
    split at hq
    · have : below o.q n = true := by simpa using hq
      have := below_iff.1 this; omega
    · have : o.q = 0 := by simpa using hq
      omega
  have b1 : 0 ≤ o.bit ∧ o.bit ≤ 12 ∧ (o.kind = 5 → o.bit < 12) := by
    unfold fitsB at hbit
    split at hbit
    · have : below o.bit b = true := by simpa using hbit
      have := below_iff.1 this; omega
    · have : o.bit = 0 := by simpa using hbit
      omega
  have c1 : o.cnd.length ≤ 24 ∧ ∀ t ∈ o.cnd, t ≠ 0 ∧ -12 ≤ t ∧ t ≤ 12 := by
    have : cndOk b o.cnd = true := by simpa using hcn
    unfold cndOk at this
    simp only [Bool.and_eq_true, decide_eq_true_eq, List.all_eq_true] at this
    refine ⟨this.1, fun t ht => ?_⟩
    have ht' := this.2 t ht
    unfold termOk at ht'
    simp at ht'
    omega
  refine ⟨⟨by omega, ⟨b1.1, b1.2.1⟩, fun t ht => (c1.2 t ht).2, by omega, c1.1, ?_⟩, ⟨fun t ht => by have := z1 t ht; omega, q1.2, b1.1, fun t ht => (c1.2 t ht).1⟩, z4, z1⟩
  intro t ht
  unfold plP at ht
  simp only [List.mem_append] at ht
  rcases ht with ((ht | ht) | ht) | ht
  · have := z1 t ht; omega
  · unfold tchQ at ht
    split at ht
    · simp at ht
    · simp at ht; omega
  · unfold tchB at ht
    split at ht
    · simp at ht; have := b1.2.2 (by assumption); omega
    · simp at ht
  · unfold tchC at ht
    simp only [List.mem_map] at ht
    obtain ⟨u, hu, rfl⟩ := ht
    have := c1.2 u hu
    unfold bitOf
    split <;> omega

/-- Of a circuit without a fault both sides reckon the same levels. -/
theorem levels_same {c : Gci} (h : (chk c).1 = 0) : (lvs plR c.ops).2 = (lvs plP c.ops).2 := by
  obtain ⟨_, _, h2, h3, h4, _, h5⟩ := chk_zero h
  exact (lvs_same c.ops (fun o ho => (fit_of_code h2 h3 h4 (h5 o ho)).2.1)).2

end Go.Proofs.YtpabafioofhklaaDoor
