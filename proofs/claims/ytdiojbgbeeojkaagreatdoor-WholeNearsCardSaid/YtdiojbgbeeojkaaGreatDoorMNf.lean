/-
  Fractions in lowest terms: the only ones.
-/
import Derived.Test.YtdiojbgbeeojkaaGreatDoorMFraA
import Derived.Test.YtdiojbgbeeojkaaGreatDoorMLawA

namespace Go.Proofs.YtdiojbgbeeojkaaGreatDoor
open Go.RowKit

/-- What both parts are divided by. -/
def nfk (z1 z2 : Int) : Int := if z2 < 0 then -((Nat.gcd z1.natAbs z2.natAbs : Nat) : Int) else ((Nat.gcd z1.natAbs z2.natAbs : Nat) : Int)
/-- z1 over z2 in lowest terms; nought over one, where z2 is 0. -/
def nfp (z1 z2 : Int) : Int := if z2 = 0 then 0 else z1 / nfk z1 z2
def nfq (z1 z2 : Int) : Int := if z2 = 0 then 1 else z2 / nfk z1 z2

theorem nf_of {z1 z2 p q : Int} (hz : z2 ≠ 0) (hq : 0 < q) (hco : Nat.gcd p.natAbs q.natAbs = 1) (he : p * z2 = q * z1) : p = nfp z1 z2 ∧ q = nfq z1 z2 := by
  have h1 : q.natAbs ∣ p.natAbs * z2.natAbs := by
    rw [← Int.natAbs_mul, he, Int.natAbs_mul]; exact Nat.dvd_mul_right _ _
  have h2 : q.natAbs ∣ z2.natAbs := Nat.Coprime.dvd_of_dvd_mul_left (show Nat.Coprime q.natAbs p.natAbs by unfold Nat.Coprime; rw [Nat.gcd_comm]; exact hco) h1
  obtain ⟨k, hk⟩ : q ∣ z2 := Int.natAbs_dvd_natAbs.1 h2
  have hk0 : k ≠ 0 := fun e => hz (by rw [hk, e, Int.mul_zero])
  have hz1 : z1 = p * k := by
    rw [hk] at he
    have h3 : q * (p * k) = q * z1 := by rw [← he, ← Int.mul_assoc, ← Int.mul_assoc, Int.mul_comm q p]
    exact (Int.eq_of_mul_eq_mul_left (by omega) h3).symm
  have hg : Nat.gcd z1.natAbs z2.natAbs = k.natAbs := by
    rw [hz1, hk, Int.natAbs_mul, Int.natAbs_mul, Nat.gcd_mul_right, hco, Nat.one_mul]
  have hkk : nfk z1 z2 = k := by
    unfold nfk
    rw [hg]
    by_cases hn : k < 0
    · have : z2 < 0 := by rw [hk]; exact Int.mul_neg_of_pos_of_neg hq hn
      rw [if_pos this]; omega
    · have : 0 < z2 := by rw [hk]; exact Int.mul_pos hq (by omega)
      rw [if_neg (by omega)]; omega
  refine ⟨?_, ?_⟩
  · unfold nfp; rw [if_neg hz, hkk, hz1, Int.mul_ediv_cancel _ hk0]
  · unfold nfq; rw [if_neg hz, hkk, hk, Int.mul_ediv_cancel _ hk0]

theorem nf_zero (z : Int) : nfp z 0 = 0 ∧ nfq z 0 = 1 := ⟨by unfold nfp; rw [if_pos rfl], by unfold nfq; rw [if_pos rfl]⟩
theorem nf_self {a b : Int} (hb : 0 < b) (h : Nat.gcd a.natAbs b.natAbs = 1) : nfp a b = a ∧ nfq a b = b := by
  obtain ⟨h1, h2⟩ := nf_of (z1 := a) (z2 := b) (p := a) (q := b) (by omega) hb h (Int.mul_comm _ _)
  exact ⟨h1.symm, h2.symm⟩
theorem nf_one (a : Int) : nfp a 1 = a ∧ nfq a 1 = 1 := nf_self (by omega) (by simp)

theorem nfk_ne {z1 z2 : Int} (hz : z2 ≠ 0) : nfk z1 z2 ≠ 0 := by
  have hg : 0 < Nat.gcd z1.natAbs z2.natAbs := Nat.gcd_pos_of_pos_right _ (by omega)
  unfold nfk; split <;> omega
theorem nfk_dvd (z1 z2 : Int) : nfk z1 z2 ∣ z1 ∧ nfk z1 z2 ∣ z2 := by
  have h1 : ((Nat.gcd z1.natAbs z2.natAbs : Nat) : Int) ∣ z1 := Int.ofNat_dvd_left.2 (Nat.gcd_dvd_left _ _)
  have h2 : ((Nat.gcd z1.natAbs z2.natAbs : Nat) : Int) ∣ z2 := Int.ofNat_dvd_left.2 (Nat.gcd_dvd_right _ _)
  unfold nfk
  split
  · exact ⟨Int.neg_dvd.2 h1, Int.neg_dvd.2 h2⟩
  · exact ⟨h1, h2⟩
theorem nfp_le (z1 z2 : Int) : (nfp z1 z2).natAbs ≤ z1.natAbs := by
  unfold nfp; split
  · exact Nat.zero_le _
  · exact Int.natAbs_ediv_le_natAbs _ _
theorem nfq_pos (z1 z2 : Int) : 0 < nfq z1 z2 := by
  unfold nfq; split
  · omega
  · rename_i hz
    have hk := nfk_ne (z1 := z1) hz
    obtain ⟨c, hc⟩ := (nfk_dvd z1 z2).2
    have e : z2 / nfk z1 z2 = c := by
      generalize nfk z1 z2 = k at hc hk
      rw [hc, Int.mul_comm, Int.mul_ediv_cancel _ hk]
    rw [e]
    have hc0 : c ≠ 0 := fun h => hz (by rw [hc, h, Int.mul_zero])
    apply Decidable.byContradiction
    intro hn
    have hcn : c < 0 := by omega
    by_cases h2 : z2 < 0
    · have hkn : nfk z1 z2 < 0 := by
        have : nfk z1 z2 = -((Nat.gcd z1.natAbs z2.natAbs : Nat) : Int) := by unfold nfk; rw [if_pos h2]
        omega
      have := Int.mul_pos_of_neg_of_neg hkn hcn
      omega
    · have hkp : 0 < nfk z1 z2 := by
        have : nfk z1 z2 = ((Nat.gcd z1.natAbs z2.natAbs : Nat) : Int) := by unfold nfk; rw [if_neg h2]
        omega
      have := Int.mul_neg_of_pos_of_neg hkp hcn
      omega
theorem nfq_le (z1 z2 : Int) (h : z2 ≠ 0) : (nfq z1 z2).natAbs ≤ z2.natAbs := by
  unfold nfq; rw [if_neg h]
  exact Int.natAbs_ediv_le_natAbs _ _
theorem nfq_lim {z1 z2 : Int} {m : Nat} (hm : 1 ≤ m) (h : z2.natAbs ≤ m) : (nfq z1 z2).natAbs ≤ m := by
  by_cases hz : z2 = 0
  · subst hz; rw [(nf_zero z1).2]; exact hm
  · exact Nat.le_trans (nfq_le z1 z2 hz) h
/-- A common divisor makes what is below less. -/
theorem nfq_less {z1 z2 : Int} (hz : 0 < z2) (hg : Nat.gcd z1.natAbs z2.natAbs ≠ 1) : nfq z1 z2 < z2 := by
  have hgp : 0 < Nat.gcd z1.natAbs z2.natAbs := Nat.gcd_pos_of_pos_right _ (by omega)
  unfold nfq nfk
  rw [if_neg (by omega), if_neg (by omega)]
  exact Int.ediv_lt_self_of_pos_of_ne_one (by omega) (by omega)

end Go.Proofs.YtdiojbgbeeojkaaGreatDoor

/-
  Fractions of the program: what a value stands for; lowest, Over, Parts in these words.
-/
namespace Go.Proofs.YtdiojbgbeeojkaaGreatDoor
open Go.RowKit

/-- A fraction P over Q, Q above 0 and P, Q in lowest terms: nought has no words. -/
def IsFr (w : World) (s : Int) (a : Option Addr) (n c : Nat) (s' : Int) (a' : Option Addr) (n' c' : Nat) (P Q : Int) : Prop :=
  ∃ q, IsInt w s a n c P ∧ IsInt w s' a' n' c' q ∧ Q = if P = 0 then 1 else q
theorem IsFr.ext {w w' : World} {s : Int} {a : Option Addr} {n c : Nat} {s' : Int} {a' : Option Addr} {n' c' : Nat} {P Q : Int} (h : IsFr w s a n c s' a' n' c' P Q) (k : Ext w w') : IsFr w' s a n c s' a' n' c' P Q := by
  obtain ⟨q, h1, h2, h3⟩ := h
  exact ⟨q, h1.ext k, h2.ext k, h3⟩
theorem IsFr.keep64 {w w' : World} {s : Int} {a : Option Addr} {n c : Nat} {s' : Int} {a' : Option Addr} {n' c' : Nat} {P Q : Int} (h : IsFr w s a n c s' a' n' c' P Q) (k : Keep64 w w') : IsFr w' s a n c s' a' n' c' P Q := by
  obtain ⟨q, h1, h2, h3⟩ := h
  exact ⟨q, h1.keep64 k, h2.keep64 k, h3⟩
theorem IsFr.cast {w : World} {s : Int} {a : Option Addr} {n c : Nat} {s' : Int} {a' : Option Addr} {n' c' : Nat} {P Q P' Q' : Int} (h : IsFr w s a n c s' a' n' c' P Q) (e1 : P = P') (e2 : Q = Q') : IsFr w s a n c s' a' n' c' P' Q' := e1 ▸ e2 ▸ h
theorem IsFr.zero (w : World) : IsFr w 0 Option.none 0 0 0 Option.none 0 0 0 1 := ⟨0, IsInt.small _ 0 (by omega) (by omega), IsInt.small _ 0 (by omega) (by omega), by rw [if_pos rfl]⟩

theorem QBx.lt {W : World} {g : Nat} {s : Int} {a : Option Addr} {n c : Nat} {s' : Int} {a' : Option Addr} {n' c' : Nat} (h : QBx W g s a n c s' a' n' c') : g < W.heap.size := (Array.getElem?_eq_some_iff.1 h.row).1
theorem QBx.ext {W W' : World} {g : Nat} {s : Int} {a : Option Addr} {n c : Nat} {s' : Int} {a' : Option Addr} {n' c' : Nat} (h : QBx W g s a n c s' a' n' c') (k : Ext W W') : QBx W' g s a n c s' a' n' c' := ⟨(k.block _ h.lt).trans h.row⟩
theorem QBx.f {W : World} {g : Nat} {s : Int} {a : Option Addr} {n c : Nat} {s' : Int} {a' : Option Addr} {n' c' : Nat} (h : QBx W g s a n c s' a' n' c') (o : Nat) : W.frozen? ⟨g, o, none⟩ = false := frozen_of_row W g o _ _ h.row

/-- A call answers a fraction. -/
def QRet (w : World) (P Q : Int) (e : Ending) (w' : World) : Prop :=
  ∃ (s : Int) (a : Option Addr) (n c : Nat) (s' : Int) (a' : Option Addr) (n' c' : Nat), e = .returned (.agg #[.int .i64 s, .slice a n c, .int .i64 s', .slice a' n' c']) ∧ IsFr w' s a n c s' a' n' c' P Q ∧ Ext w w'
def QRetF (w : World) (P Q C : Int) (e : Ending) (w' : World) : Prop :=
  ∃ (s : Int) (a : Option Addr) (n c : Nat) (s' : Int) (a' : Option Addr) (n' c' : Nat), e = .returned (.tuple #[.agg #[.int .i64 s, .slice a n c, .int .i64 s', .slice a' n' c'], .agg #[.int .i64 C, .int .i64 0]]) ∧ IsFr w' s a n c s' a' n' c' P Q ∧ Ext w w'

theorem Parts_fr (s s' : Int) (a a' : Option Addr) (n c n' c' : Nat) (P Q : Int) (w : World) (h : IsFr w s a n c s' a' n' c' P Q) :
    Calls Tryz.prog 10 #[.agg #[.int .i64 s, .slice a n c, .int .i64 s', .slice a' n' c']] w fun e w' => ∃ (s3 : Int) (a3 : Option Addr) (n3 c3 : Nat) (s4 : Int) (a4 : Option Addr) (n4 c4 : Nat), e = .returned (.tuple #[.agg #[.int .i64 s3, .slice a3 n3 c3], .agg #[.int .i64 s4, .slice a4 n4 c4]]) ∧ IsInt w' s3 a3 n3 c3 P ∧ IsInt w' s4 a4 n4 c4 Q ∧ Ext w w' := by
  obtain ⟨q, h1, h2, h3⟩ := h
  rw [h3]
  exact Parts_any s s' a a' n c n' c' P q w h1 h2

theorem low_fr {w : World} {s : Int} {a : Option Addr} {n c : Nat} {s' : Int} {a' : Option Addr} {n' c' : Nat} {z1 z2 p q : Int} (hz2 : z2 ≠ 0) (h1 : IsInt w s a n c p) (h2 : IsInt w s' a' n' c' q) (h0 : z1 = 0 → p = 0 ∧ q = 0) (hl : z1 ≠ 0 → IsLow z1 z2 p q) : IsFr w s a n c s' a' n' c' (nfp z1 z2) (nfq z1 z2) := by
  by_cases hz : z1 = 0
  · obtain ⟨rfl, rfl⟩ := h0 hz
    subst hz
    obtain ⟨g1, g2⟩ := nf_of (z1 := 0) (z2 := z2) (p := 0) (q := 1) hz2 (by omega) (by decide) (by simp)
    rw [← g1, ← g2]
    exact ⟨0, h1, h2, by rw [if_pos rfl]⟩
  · have hk := hl hz
    obtain ⟨g1, g2⟩ := nf_of hz2 hk.pos hk.co hk.eq
    rw [← g1, ← g2]
    exact ⟨q, h1, h2, by rw [if_neg hk.ne]⟩

theorem lowest_fr (s1 s2 : Int) (a1 a2 : Option Addr) (n1 c1 n2 c2 : Nat) (z1 z2 : Int) (w : World) (h1 : IsInt w s1 a1 n1 c1 z1) (h2 : IsInt w s2 a2 n2 c2 z2) (K : Nat) (hK : K ≤ 4194304) (hK1 : 1 ≤ K) (hf1 : Fit K z1) (hf2 : Fit K z2) (hz2 : z2 ≠ 0) (hbr : Bru w) :
    Calls Tryz.prog 49 #[.agg #[.int .i64 s1, .slice a1 n1 c1], .agg #[.int .i64 s2, .slice a2 n2 c2]] w (QRet w (nfp z1 z2) (nfq z1 z2)) :=
  (lowest_any s1 s2 a1 a2 n1 c1 n2 c2 z1 z2 w h1 h2 K hK hK1 hf1 hf2 hz2 hbr).mono fun _ _ ⟨s, a, n, c, s', a', n', c', _, _, e, i1, i2, h0, hl, hx⟩ => ⟨s, a, n, c, s', a', n', c', e, low_fr hz2 i1 i2 h0 hl, hx⟩

set_option maxHeartbeats 2000000 in
set_option maxRecDepth 100000 in
theorem Over_zero (s1 s2 : Int) (a1 a2 : Option Addr) (n1 c1 n2 c2 : Nat) (w : World) (h2 : IsInt w s2 a2 n2 c2 0) :
    Calls Tryz.prog 25 #[.agg #[.int .i64 s1, .slice a1 n1 c1], .agg #[.int .i64 s2, .slice a2 n2 c2]] w (QRetF w 0 1 4) := by
  have Hs2 := hid (Sign_any s2 (.slice a2 n2 c2))
  have hc2 := h2.cmp3
  have hc0 : cmp3 (0 : Int) 0 = 0 := by decide
  rw [hc0] at hc2
  rw [hc2] at Hs2
  clear h2 hc2 hc0
  have hbx := boxed2 w (.int .i64 s1) (.slice a1 n1 c1) (.int .i64 s2) (.slice a2 n2 c2)
  have E0 := (hbx.ext.then (.cells #[.int .i64 0, .slice none 0 0, .int .i64 0, .slice none 0 0] 26)).then (.cells #[.int .i64 0, .int .i64 0] 28)
  have qx : QRes ((((w.alloc (.cells #[.int .i64 s1, .slice a1 n1 c1] 24)).alloc (.cells #[.int .i64 s2, .slice a2 n2 c2] 24)).alloc (.cells #[.int .i64 0, .slice none 0 0, .int .i64 0, .slice none 0 0] 26)).alloc (.cells #[.int .i64 0, .int .i64 0] 28)) (w.heap.size + 1 + 1) := by
    have := heap_alloc_new ((w.alloc (.cells #[.int .i64 s1, .slice a1 n1 c1] 24)).alloc (.cells #[.int .i64 s2, .slice a2 n2 c2] 24)) (.cells #[.int .i64 0, .slice none 0 0, .int .i64 0, .slice none 0 0] 26)
    have q : QRes (((w.alloc (.cells #[.int .i64 s1, .slice a1 n1 c1] 24)).alloc (.cells #[.int .i64 s2, .slice a2 n2 c2] 24)).alloc (.cells #[.int .i64 0, .slice none 0 0, .int .i64 0, .slice none 0 0] 26)) (w.heap.size + 1 + 1) := ⟨by simpa using this⟩
    exact q.ext (Ext.alloc _ _)
  have fx : FRes ((((w.alloc (.cells #[.int .i64 s1, .slice a1 n1 c1] 24)).alloc (.cells #[.int .i64 s2, .slice a2 n2 c2] 24)).alloc (.cells #[.int .i64 0, .slice none 0 0, .int .i64 0, .slice none 0 0] 26)).alloc (.cells #[.int .i64 0, .int .i64 0] 28)) (w.heap.size + 1 + 1 + 1) := by
    have := heap_alloc_new (((w.alloc (.cells #[.int .i64 s1, .slice a1 n1 c1] 24)).alloc (.cells #[.int .i64 s2, .slice a2 n2 c2] 24)).alloc (.cells #[.int .i64 0, .slice none 0 0, .int .i64 0, .slice none 0 0] 26)) (.cells #[.int .i64 0, .int .i64 0] 28)
    exact ⟨by simp, by simpa using this⟩
  go_enter Tryz.func25, Tryz.ntmps25
  go_wp2_with fail
  generalize (((w.alloc (.cells #[.int .i64 s1, .slice a1 n1 c1] 24)).alloc (.cells #[.int .i64 s2, .slice a2 n2 c2] 24)).alloc (.cells #[.int .i64 0, .slice none 0 0, .int .i64 0, .slice none 0 0] 26)).alloc (.cells #[.int .i64 0, .int .i64 0] 28) = W0 at *
  refine (Hs2.out _).mono ?_
  rintro e wf ⟨rfl, hxe⟩
  have qe := qx.ext hxe; have fe := fx.ext hxe
  have q0 := qe.c0; have q1 := qe.c1; have q2 := qe.c2; have q3 := qe.c3; have f0 := qe.f0 0; have f1 := qe.f0 1; have f2 := qe.f0 2; have f3 := qe.f0 3
  have q4 := fe.c0; have q5 := fe.c1; have f4 := fe.f0; have f5 := fe.f1
  have HE := hid (E0.trans hxe)
  go_wp2_with fail
  exact bodyPost_ret (v := .tuple #[.agg #[.int .i64 0, .slice none 0 0, .int .i64 0, .slice none 0 0], .agg #[.int .i64 4, .int .i64 0]]) (by simp [results, Tryz.results25, go_sem, q0, q1, q2, q3, q4, q5]) rfl ⟨0, none, 0, 0, 0, none, 0, 0, rfl, IsFr.zero _, ((HE.out.put2 (by omega) _ _).put2 (by omega) _ _).put2 (by omega) _ _⟩

def ovc (y : Int) : Int := if y = 0 then 4 else 0
theorem Over_fr (s1 s2 : Int) (a1 a2 : Option Addr) (n1 c1 n2 c2 : Nat) (z1 z2 : Int) (w : World) (h1 : IsInt w s1 a1 n1 c1 z1) (h2 : IsInt w s2 a2 n2 c2 z2) (K : Nat) (hK : K ≤ 4194304) (hK1 : 1 ≤ K) (hf1 : Fit K z1) (hf2 : Fit K z2) (hbr : Bru w) :
    Calls Tryz.prog 25 #[.agg #[.int .i64 s1, .slice a1 n1 c1], .agg #[.int .i64 s2, .slice a2 n2 c2]] w (QRetF w (nfp z1 z2) (nfq z1 z2) (ovc z2)) := by
  by_cases hz : z2 = 0
  · subst hz
    rw [(nf_zero z1).1, (nf_zero z1).2, show ovc 0 = 4 from by unfold ovc; rw [if_pos rfl]]
    exact Over_zero s1 s2 a1 a2 n1 c1 n2 c2 w h2
  · rw [show ovc z2 = 0 from by unfold ovc; rw [if_neg hz]]
    exact (Over_any s1 s2 a1 a2 n1 c1 n2 c2 z1 z2 w h1 h2 K hK hK1 hf1 hf2 hz hbr).mono fun _ _ ⟨s, a, n, c, s', a', n', c', _, _, e, i1, i2, h0, hl, hx⟩ => ⟨s, a, n, c, s', a', n', c', e, low_fr hz i1 i2 h0 hl, hx⟩

end Go.Proofs.YtdiojbgbeeojkaaGreatDoor
