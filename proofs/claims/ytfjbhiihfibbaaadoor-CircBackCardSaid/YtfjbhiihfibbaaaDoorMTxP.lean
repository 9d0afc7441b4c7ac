/-
  Texts of numbers, read again, in plain lists.
-/
import Derived.Test.YtfjbhiihfibbaaaDoorMParA
import Derived.Test.YtfjbhiihfibbaaaDoorMBasT

namespace Go.Proofs.YtfjbhiihfibbaaaDoor
open Go.RowKit

theorem bs_mk (l : List UInt8) : bs ⟨l.toArray⟩ = l.map UInt8.toNat := by simp [bs]

theorem allD_of_dcount (l : List Nat) (h : dcount l = l.length) : AllD l := by
  induction l with
  | nil => intro t ht; simp at ht
  | cons x r ih =>
    by_cases hx : isD x = true
    · have h2 : dcount r = r.length := by
        unfold dcount at h ⊢
        rw [List.takeWhile_cons, if_pos hx] at h
        simpa using h
      intro t ht
      cases t with
      | zero => simpa using hx
      | succ k => have := ih h2 k (by simpa using ht); simpa using this
    · unfold dcount at h
      rw [List.takeWhile_cons, if_neg hx] at h
      simp at h

theorem dcount_of_allD (l : List Nat) (h : AllD l) : dcount l = l.length :=
  dcount_of l _ (Nat.le_refl _) h (Or.inl rfl)

/-- What is scanned whole is digits behind a sign. -/
theorem allD_of_scan (l : List Nat) (h1 : (scanN l).2 = true) (h2 : ¬ (scanN l).1 < l.length) : AllD (l.drop (sgl l)) := by
  unfold scanN at h1 h2
  by_cases h48 : 0 < l.length ∧ l.getD 0 0 = 48
  · rw [if_pos h48] at h2
    have hl : l.length = 1 := by have := h48.1; simp at h2; omega
    obtain ⟨x, rfl⟩ := List.length_eq_one_iff.1 hl
    have hx : x = 48 := by simpa using h48.2
    subst hx
    have : sgl [48] = 0 := by decide
    rw [this]
    intro t ht
    have ht0 : t = 0 := by simpa using ht
    subst ht0
    decide
  · rw [if_neg h48] at h1 h2
    have hle := spos_le (l.drop (sgl l))
    have hsl := sgl_le l
    have hdl : (l.drop (sgl l)).length = l.length - sgl l := List.length_drop
    have hpos : 0 < spos (l.drop (sgl l)) := by simpa using h1
    have hall : spos (l.drop (sgl l)) = (l.drop (sgl l)).length := by
      simp only [Nat.not_lt] at h2; omega
    unfold spos at hall hpos
    split at hall
    · rename_i hc
      rw [if_pos hc] at hpos
      exact absurd hpos (Nat.lt_irrefl _)
    · exact allD_of_dcount _ hall

theorem digit_toNat (k : Nat) (h : k < 10) : (UInt8.ofNat (48 + k)).toNat = 48 + k := by
  rw [UInt8.toNat_ofNat']
  omega

/-- The digits' bytes, as numbers. -/
def decN (v : Nat) : List Nat := (Lib.decDigits v).map UInt8.toNat
theorem decN_small {v : Nat} (h : v < 10) : decN v = [48 + v] := by
  unfold decN
  rw [Lib.decDigits, dif_pos h, List.map_cons, List.map_nil, digit_toNat v h]
theorem decN_big {v : Nat} (h : ¬ v < 10) : decN v = decN (v / 10) ++ [48 + v % 10] := by
  unfold decN
  rw [Lib.decDigits, dif_neg h, List.map_append, List.map_cons, List.map_nil, digit_toNat (v % 10) (by omega)]
theorem decN_length (v : Nat) : (decN v).length = Lib.nDigits v := by unfold decN; rw [List.length_map, Lib.decDigits_length]

theorem decN_dval (v : Nat) : dval (decN v) = v := by
  induction v using Nat.strongRecOn with
  | _ v ih =>
    by_cases h : v < 10
    · rw [decN_small h]; simp [dval]
    · rw [decN_big h, dval_snoc, ih (v / 10) (by omega)]; omega

theorem allD_snoc (l : List Nat) (x : Nat) (h : AllD l) (hx : isD x = true) : AllD (l ++ [x]) := by
  intro t ht
  rw [List.length_append] at ht
  by_cases h1 : t < l.length
  · have := h t h1
    rw [List.getD_eq_getElem?_getD] at this ⊢
    rw [List.getElem?_append_left h1]; exact this
  · have ht1 : t = l.length := by simp at ht; omega
    subst ht1
    rw [List.getD_eq_getElem?_getD, List.getElem?_append_right (Nat.le_refl _)]
    simpa using hx

theorem isD_digit (k : Nat) (h : k < 10) : isD (48 + k) = true := by
  simp only [isD, decide_eq_true_eq]; omega

theorem decN_allD (v : Nat) : AllD (decN v) := by
  induction v using Nat.strongRecOn with
  | _ v ih =>
    by_cases h : v < 10
    · rw [decN_small h]
      exact allD_snoc [] _ (fun t ht => absurd ht (by simp)) (isD_digit v h)
    · rw [decN_big h]; exact allD_snoc _ _ (ih (v / 10) (by omega)) (isD_digit _ (by omega))

theorem decN_head (v : Nat) : ∃ d r, decN v = d :: r ∧ isD d = true ∧ (d = 48 → v = 0) := by
  induction v using Nat.strongRecOn with
  | _ v ih =>
    by_cases h : v < 10
    · exact ⟨48 + v, [], decN_small h, isD_digit v h, by omega⟩
    · obtain ⟨d, r, e, h1, h2⟩ := ih (v / 10) (by omega)
      exact ⟨d, r ++ [48 + v % 10], by rw [decN_big h, e]; rfl, h1, fun hd => by have := h2 hd; omega⟩

/-- A number's text. -/
def txt (z : Int) : List Nat := (Lib.itoa z).map UInt8.toNat
theorem txt_neg {z : Int} (h : z < 0) : txt z = 45 :: decN z.natAbs := by
  unfold txt Lib.itoa decN; rw [if_pos h]; rfl
theorem txt_pos {z : Int} (h : ¬ z < 0) : txt z = decN z.natAbs := by
  unfold txt Lib.itoa decN; rw [if_neg h]
  have : z.toNat = z.natAbs := by omega
  rw [this]

theorem spos_dec (v : Nat) (h : v ≠ 0) : spos (decN v) = (decN v).length := by
  obtain ⟨d, r, e, _, h2⟩ := decN_head v
  unfold spos
  rw [if_neg, dcount_of_allD _ (decN_allD v)]
  rw [e]
  rintro (hc | hc)
  · simp at hc
  · exact h (h2 (by simpa using hc))

theorem txt_sgl (z : Int) : sgl (txt z) = if z < 0 then 1 else 0 := by
  by_cases h : z < 0
  · rw [txt_neg h, if_pos h]; simp [sgl]
  · rw [txt_pos h, if_neg h]
    obtain ⟨d, r, e, h1, _⟩ := decN_head z.natAbs
    rw [e]
    simp only [isD, decide_eq_true_eq] at h1
    unfold sgl
    rw [if_neg (by simp; omega)]

theorem txt_drop (z : Int) : (txt z).drop (sgl (txt z)) = decN z.natAbs := by
  rw [txt_sgl]
  by_cases h : z < 0
  · rw [if_pos h, txt_neg h]; rfl
  · rw [if_neg h, txt_pos h]; rfl

theorem txt_scan (z : Int) : scanN (txt z) = ((txt z).length, true) := by
  have hd := txt_drop z
  obtain ⟨d, r, e, h1, h2⟩ := decN_head z.natAbs
  simp only [isD, decide_eq_true_eq] at h1
  unfold scanN
  by_cases h48 : 0 < (txt z).length ∧ (txt z).getD 0 0 = 48
  · rw [if_pos h48]
    by_cases h : z < 0
    · rw [txt_neg h] at h48; simp at h48
    · rw [txt_pos h] at h48 ⊢
      rw [e] at h48
      have h0 := h2 (by simpa using h48.2)
      rw [h0, decN_small (by omega)]; rfl
  · rw [if_neg h48, hd]
    have hz : z.natAbs ≠ 0 := by
      intro h0
      apply h48
      rw [txt_pos (by omega), h0, decN_small (by omega)]
      exact ⟨by simp, by simp⟩
    have hs := spos_dec _ hz
    have hl : 0 < (decN z.natAbs).length := by rw [e]; simp
    rw [hs]
    have hlen : sgl (txt z) + (decN z.natAbs).length = (txt z).length := by
      rw [txt_sgl]
      by_cases h : z < 0
      · rw [if_pos h, txt_neg h, List.length_cons]; omega
      · rw [if_neg h, txt_pos h]; omega
    rw [hlen, decide_eq_true hl]

/-- As many digits as Parse takes. -/
def limN : Nat := 1000
/-- What such numbers stay below. -/
def Lim : Nat := 10 ^ limN
theorem lim_le (k : Nat) (h : k ≤ 1000) : 10 ^ k ≤ Lim := by
  unfold Lim
  exact Nat.pow_le_pow_right (by decide) h
theorem lim_pos : 0 < Lim := by unfold Lim; exact Nat.pow_pos (by decide)

theorem txt_short (z : Int) (h : z.natAbs < Lim) : (txt z).length - sgl (txt z) ≤ 1000 := by
  have h1 : (txt z).length - sgl (txt z) = (decN z.natAbs).length := by rw [← txt_drop, List.length_drop]
  rw [h1, decN_length]
  exact nDigits_le limN _ (by decide) h

theorem txt_val (z : Int) : sgn (decide (0 < sgl (txt z))) (dval ((txt z).drop (sgl (txt z)))) = z := by
  rw [txt_drop, decN_dval, txt_sgl]
  by_cases h : z < 0
  · rw [if_pos h]; simp [sgn]; omega
  · rw [if_neg h]; simp [sgn]; omega

/-- What Parse reads. -/
def pz (l : List Nat) : Int := if (scanN l).2 = true ∧ ¬ (scanN l).1 < l.length ∧ ¬ 1000 < l.length - sgl l then sgn (decide (0 < sgl l)) (dval (l.drop (sgl l))) else 0
/-- Parse's fault. -/
def pcode (l : List Nat) : Nat := if (scanN l).2 = true ∧ ¬ (scanN l).1 < l.length then (if 1000 < l.length - sgl l then 2 else 0) else 1
def pat (l : List Nat) : Nat := if (scanN l).2 = true ∧ ¬ (scanN l).1 < l.length then 0 else (scanN l).1

theorem pz_lt (l : List Nat) : (pz l).natAbs < Lim := by
  unfold pz
  split
  · rename_i h
    have ha := allD_of_scan l h.1 h.2.1
    have h1 := dval_lt _ ha
    rw [List.length_drop] at h1
    have h2 := lim_le (l.length - sgl l) (by omega)
    have h3 : (sgn (decide (0 < sgl l)) (dval (l.drop (sgl l)))).natAbs = dval (l.drop (sgl l)) := by
      unfold sgn; split <;> simp
    rw [h3]
    exact Nat.lt_of_lt_of_le h1 h2
  · exact lim_pos

theorem pz_txt (z : Int) (h : z.natAbs < Lim) : pz (txt z) = z := by
  unfold pz
  have h1 := txt_scan z
  have h2 := txt_short z h
  rw [if_pos ⟨by rw [h1], by rw [h1]; simp, by omega⟩, txt_val]

theorem pcode_txt (z : Int) (h : z.natAbs < Lim) : pcode (txt z) = 0 := by
  unfold pcode
  have h1 := txt_scan z
  have h2 := txt_short z h
  rw [if_pos ⟨by rw [h1], by rw [h1]; simp⟩, if_neg (by omega)]

end Go.Proofs.YtfjbhiihfibbaaaDoor
