/-
  Numerals in plain lists: what the reader makes of digits is what is written, and what is written is read.
-/
import Derived.Test.YtfjbhiihfibbaaaDoorMEe

namespace Go.Proofs.YtfjbhiihfibbaaaDoor
open Go.RowKit

/-! Numerals. -/
theorem dd_step {n : Nat} (h : ¬ n < 10) : Lib.decDigits n = Lib.decDigits (n / 10) ++ [UInt8.ofNat (48 + n % 10)] := by rw [Lib.decDigits, dif_neg h]
theorem toNat_dg {d : Nat} (h : d < 10) : (UInt8.ofNat (48 + d)).toNat = 48 + d := by
  rw [UInt8.toNat_ofNat']; omega
theorem dd_digit (n : Nat) : ∀ c ∈ Lib.decDigits n, 48 ≤ c.toNat ∧ c.toNat ≤ 57 := by
  induction n using Nat.strongRecOn with
  | _ n ih =>
    intro c hc
    by_cases h : n < 10
    · rw [Lib.decDigits_one h] at hc
      obtain rfl := List.mem_singleton.1 hc
      rw [toNat_dg h]; omega
    · rw [dd_step h] at hc
      rcases List.mem_append.1 hc with h1 | h1
      · exact ih (n / 10) (by omega) c h1
      · obtain rfl := List.mem_singleton.1 h1
        rw [toNat_dg (by omega)]; omega
theorem dd_ne (n : Nat) : Lib.decDigits n ≠ [] := by
  by_cases h : n < 10
  · rw [Lib.decDigits_one h]; simp
  · rw [dd_step h]; simp
theorem dd_snoc {n d : Nat} (hn : 0 < n) (hd : d < 10) : Lib.decDigits (10 * n + d) = Lib.decDigits n ++ [UInt8.ofNat (48 + d)] := by
  rw [dd_step (by omega), show (10 * n + d) / 10 = n by omega, show (10 * n + d) % 10 = d by omega]
theorem u8_back {c : UInt8} (h : 48 ≤ c.toNat) : UInt8.ofNat (48 + (c.toNat - 48)) = c := by
  rw [show 48 + (c.toNat - 48) = c.toNat by omega]; exact UInt8.ofNat_toNat
theorem dd_cons (n : Nat) : ∃ c r, Lib.decDigits n = c :: r ∧ 48 ≤ c.toNat ∧ c.toNat ≤ 57 := by
  rcases hd : Lib.decDigits n with _ | ⟨c, r⟩
  · exact absurd hd (dd_ne n)
  · exact ⟨c, r, rfl, dd_digit n c (by rw [hd]; simp)⟩

/-! What the reader makes of digits is what is written. -/
theorem scan_snd (L : List UInt8) : ∀ k n m k', 1 ≤ k → 0 < n → n < 10 ^ k → k ≤ 9 → scanD L k n = some (m, k') → ∃ d r, L = d ++ r ∧ k' = k + d.length ∧ Lib.decDigits m = Lib.decDigits n ++ d ∧ m < 10 ^ k' ∧ k' ≤ 9 := by
  induction L with
  | nil =>
    intro k n m k' hk hn hb h9 h
    rw [scanD, if_neg (by omega)] at h
    injection h with h; injection h with h1 h2
    subst h1; subst h2
    exact ⟨[], [], rfl, rfl, by simp, hb, h9⟩
  | cons c r ih =>
    intro k n m k' hk hn hb h9 h
    rw [scanD] at h
    split at h
    · next hc =>
      split at h
      · cases h
      · next h10 =>
        have hd : 48 ≤ c.toNat ∧ c.toNat ≤ 57 := by simpa [isDg] using hc.1
        obtain ⟨d, r', e1, e2, e3, e4, e5⟩ := ih (k + 1) (10 * n + (c.toNat - 48)) m k' (by omega) (by omega) (by rw [Nat.pow_succ]; omega) (by omega) h
        refine ⟨c :: d, r', by rw [e1]; rfl, by simp; omega, ?_, e4, e5⟩
        rw [e3, dd_snoc hn (by omega), u8_back hd.1]; simp
    · rw [if_neg (by omega)] at h
      injection h with h; injection h with h1 h2
      subst h1; subst h2
      exact ⟨[], c :: r, rfl, rfl, by simp, hb, h9⟩
theorem scan_sound {L : List UInt8} {m k : Nat} (h : scanD L 0 0 = some (m, k)) : ∃ r, L = Lib.decDigits m ++ r ∧ k = (Lib.decDigits m).length ∧ m < 1000000000 := by
  match L with
  | [] => simp [scanD] at h
  | c :: r =>
    rw [scanD] at h
    split at h
    · next hc =>
      rw [if_neg (by omega)] at h
      have hd : 48 ≤ c.toNat ∧ c.toNat ≤ 57 := by simpa [isDg] using hc.1
      by_cases h0 : c.toNat = 48
      · rw [scan_stop (by simp [h0])] at h
        simp [h0] at h
        obtain ⟨rfl, rfl⟩ := h
        refine ⟨r, ?_, by rw [Lib.decDigits_one (by decide)]; rfl, by decide⟩
        rw [Lib.decDigits_one (by decide)]
        have : c = UInt8.ofNat (48 + 0) := by rw [← u8_back hd.1, h0]
        rw [this]; rfl
      · obtain ⟨d, r', e1, e2, e3, e4, e5⟩ := scan_snd r (0 + 1) (10 * 0 + (c.toNat - 48)) m k (by omega) (by omega) (by omega) (by omega) h
        have e6 : Lib.decDigits (10 * 0 + (c.toNat - 48)) = [c] := by rw [Lib.decDigits_one (by omega), show 48 + (10 * 0 + (c.toNat - 48)) = 48 + (c.toNat - 48) by omega, u8_back hd.1]
        rw [e6] at e3
        refine ⟨r', by rw [e3, e1]; rfl, by rw [e3, e2]; simp; omega, Nat.lt_of_lt_of_le e4 (Nat.le_trans (Nat.pow_le_pow_right (by decide) e5) (by decide))⟩
    · simp at h
theorem scan_dd (m : Nat) : ∀ r, (Lib.decDigits m).length ≤ 9 → scanD (Lib.decDigits m ++ r) 0 0 = scanD r (Lib.decDigits m).length m := by
  induction m using Nat.strongRecOn with
  | _ m ih =>
    intro r h9
    by_cases h : m < 10
    · rw [Lib.decDigits_one h]
      show scanD (_ :: r) 0 0 = _
      rw [scanD, if_pos ⟨by simp [isDg]; omega, Or.inl rfl⟩, if_neg (by omega), toNat_dg h]
      congr 1; omega
    · rw [dd_step h] at h9 ⊢
      simp only [List.length_append, List.length_singleton] at h9 ⊢
      rw [List.append_assoc, ih (m / 10) (by omega) _ (by omega)]
      show scanD (_ :: r) _ _ = _
      rw [scanD, if_pos ⟨by simp [isDg]; omega, Or.inr (by omega)⟩, if_neg (by omega), toNat_dg (by omega)]
      congr 1; omega
theorem dd_len9 {m : Nat} (h : m < 1000000000) : (Lib.decDigits m).length ≤ 9 := by
  have key : ∀ k, ∀ m, m < 10 ^ (k + 1) → (Lib.decDigits m).length ≤ k + 1 := by
    intro k
    induction k with
    | zero => intro m hm; rw [Lib.decDigits_one (by omega)]; simp
    | succ k ih =>
      intro m hm
      by_cases h : m < 10
      · rw [Lib.decDigits_one h]; simp
      · rw [dd_step h, List.length_append]
        have := ih (m / 10) (by rw [Nat.pow_succ] at hm; omega)
        simp; omega
  exact key 8 m h
theorem scan_full {m : Nat} {r : List UInt8} (h : m < 1000000000) (hr : isDg r[0]? = false) : scanD (Lib.decDigits m ++ r) 0 0 = some (m, (Lib.decDigits m).length) := by
  rw [scan_dd m r (dd_len9 h), scan_stop (by rw [hr]; simp), if_neg]
  have := dd_ne m
  intro e
  exact this (List.length_eq_zero_iff.1 e)

/-! Numbers and conditions. -/
theorem pre_cut {L p : List UInt8} (h : Lib.hasPrefix L p = true) : L = p ++ L.drop p.length := by
  obtain ⟨r, rfl⟩ := List.isPrefixOf_iff_prefix.1 h
  simp
theorem rdNum_sound {L : List UInt8} {n k : Nat} (h : rdNum L = some (n, k)) : L = numL (n : Int) ++ L.drop k ∧ n < 1000000000 := by
  unfold rdNum at h
  split at h
  · next hp =>
    obtain ⟨x, hx, e⟩ := Option.map_eq_some_iff.1 h
    obtain ⟨m, k'⟩ := x
    obtain ⟨rfl, rfl⟩ : m = n ∧ k' + 1 = k := by simpa using e
    obtain ⟨r, e1, e2, e3⟩ := scan_sound hx
    have e0 := pre_cut hp
    refine ⟨?_, e3⟩
    rw [e0]
    simp only [List.length_singleton] at e1 ⊢
    rw [e1, e2]
    simp [numL]
  · cases h
theorem rdNumI_sound {L : List UInt8} {x : Int} {k : Nat} (h : rdNumI L = some (x, k)) : L = numL x ++ L.drop k ∧ (0 ≤ x ∧ x < 1000000000) := by
  unfold rdNumI at h
  obtain ⟨y, hy, e⟩ := Option.map_eq_some_iff.1 h
  obtain ⟨n, k'⟩ := y
  obtain ⟨rfl, rfl⟩ : (n : Int) = x ∧ k' = k := by simpa using e
  obtain ⟨e1, e2⟩ := rdNum_sound hy
  exact ⟨e1, by omega, by omega⟩
theorem rdCnd_sound {L : List UInt8} {t : Int} {k : Nat} (h : rdCnd L = some (t, k)) : L = cndL t ++ L.drop k ∧ (t ≠ 0 ∧ -1000000000 ≤ t ∧ t ≤ 1000000000) := by
  unfold rdCnd at h
  split at h
  · next hp =>
    have e0 := pre_cut hp
    split at h
    · next hq =>
      obtain ⟨x, hx, e⟩ := Option.map_eq_some_iff.1 h
      obtain ⟨m, k'⟩ := x
      obtain ⟨rfl, rfl⟩ : -((m : Int) + 1) = t ∧ k' + 2 = k := by simpa using e
      obtain ⟨r, e1, e2, e3⟩ := scan_sound hx
      have e4 := pre_cut hq
      refine ⟨?_, by omega, by omega, by omega⟩
      have e5 : L = 32 :: 33 :: (Lib.decDigits m ++ r) := by
        rw [e0]; simp only [List.length_singleton] at e4 ⊢
        rw [e4]; simp only [List.drop_drop]
        rw [show 1 + 1 = 2 from rfl, e1]; rfl
      have e6 : cndL (-((m : Int) + 1)) = 32 :: 33 :: Lib.decDigits m := by
        unfold cndL bitOf; rw [if_pos (by omega), if_neg (by omega), show (-(-((m : Int) + 1)) - 1).toNat = m by omega]
      rw [e6, e5, e2]; simp
    · obtain ⟨x, hx, e⟩ := Option.map_eq_some_iff.1 h
      obtain ⟨m, k'⟩ := x
      obtain ⟨rfl, rfl⟩ : (m : Int) + 1 = t ∧ k' + 1 = k := by simpa using e
      obtain ⟨r, e1, e2, e3⟩ := scan_sound hx
      refine ⟨?_, by omega, by omega, by omega⟩
      have e5 : L = 32 :: (Lib.decDigits m ++ r) := by
        rw [e0]; simp only [List.length_singleton]
        rw [e1]; rfl
      have e6 : cndL ((m : Int) + 1) = 32 :: Lib.decDigits m := by
        unfold cndL bitOf numL; rw [if_neg (by omega), if_pos (by omega), show ((m : Int) + 1 - 1).toNat = m by omega]
      rw [e6, e5, e2]; simp
  · cases h
theorem rdNumI_full {x : Int} {r : List UInt8} (h : 0 ≤ x ∧ x < 1000000000) (hr : isDg r[0]? = false) : rdNumI (numL x ++ r) = some (x, (numL x).length) := by
  unfold rdNumI rdNum numL
  rw [if_pos (by rfl)]
  simp only [List.cons_append, List.drop_succ_cons, List.drop_zero]
  rw [scan_full (by omega) hr]
  simp; omega
theorem rdCnd_full {t : Int} {r : List UInt8} (h : t ≠ 0 ∧ -1000000000 ≤ t ∧ t ≤ 1000000000) (hr : isDg r[0]? = false) : rdCnd (cndL t ++ r) = some (t, (cndL t).length) := by
  unfold rdCnd cndL bitOf
  by_cases hn : t < 0
  · simp only [if_pos hn, if_neg (show ¬ 0 < t by omega)]
    rw [if_pos (by rfl), if_pos (by rfl)]
    simp only [List.cons_append, List.drop_succ_cons, List.drop_zero]
    rw [scan_full (by omega) hr]
    simp; omega
  · simp only [if_neg hn, if_pos (show 0 < t by omega), numL]
    obtain ⟨c, d, e, hc⟩ := dd_cons (t - 1).toNat
    rw [if_pos (by rfl), if_neg]
    · simp only [List.cons_append, List.drop_succ_cons, List.drop_zero]
      rw [scan_full (by omega) hr]
      simp; omega
    · rw [e]
      simp [Lib.hasPrefix]
      intro e'
      rw [← e'] at hc
      exact absurd hc.1 (by decide)

end Go.Proofs.YtfjbhiihfibbaaaDoor

/-
  An operation's line in plain lists: what the reader takes is what is written, and what is written is taken.
-/
namespace Go.Proofs.YtfjbhiihfibbaaaDoor
open Go.RowKit

/-! An operation's line: what is taken is what is written. -/
/-- What an operation that is read keeps to. -/
structure WfOp (o : Gop) : Prop where
  kd : 1 ≤ o.kind ∧ o.kind ≤ 6
  k : usesK o.kind = true → 0 ≤ o.k ∧ o.k < 1000000000
  k0 : usesK o.kind = false → o.k = 0
  q : usesQ o.kind = true → 0 ≤ o.q ∧ o.q < 1000000000
  q0 : usesQ o.kind = false → o.q = 0
  ctl : ∀ x ∈ o.ctl, 0 ≤ x ∧ x < 1000000000
  c0 : usesC o.kind = false → o.ctl = []
  bit : usesB o.kind = true → 0 ≤ o.bit ∧ o.bit < 1000000000
  b0 : usesB o.kind = false → o.bit = 0
  cnd : ∀ t ∈ o.cnd, t ≠ 0 ∧ -1000000000 ≤ t ∧ t ≤ 1000000000

def pI (o : Gop) : List UInt8 := (if 0 < o.cnd.length then [32, 105, 102] else []) ++ o.cnd.flatMap cndL
def pB (o : Gop) : List UInt8 := (if usesB o.kind then [32, 116, 111] ++ numL o.bit else []) ++ pI o
def pC (o : Gop) : List UInt8 := (if 0 < o.ctl.length then [32, 111, 110] else []) ++ (o.ctl.flatMap numL ++ pB o)
def pQ (o : Gop) : List UInt8 := (if usesQ o.kind then numL o.q else []) ++ pC o
def pK (o : Gop) : List UInt8 := (if usesK o.kind then numL o.k else []) ++ pQ o
theorem prn_pK (o : Gop) : prnOp o = (wordOf o.kind.toNat).data.toList ++ pK o := by
  simp only [prnOp, pK, pQ, pC, pB, pI, List.append_assoc]

theorem more_sound {el : List UInt8 → Option (Int × Nat)} {stop : List UInt8 → Bool} {P : Int → List UInt8} {Ok : Int → Prop} (hel : ∀ L x k, el L = some (x, k) → L = P x ++ L.drop k ∧ Ok x) (f : Nat) :
    ∀ L l k, rdMore el stop f L = some (l, k) → L = l.flatMap P ++ L.drop k ∧ ∀ x ∈ l, Ok x := by
  induction f with
  | zero => intro L l k h; simp [rdMore] at h
  | succ f ih =>
    intro L l k h
    rw [rdMore] at h
    split at h
    · injection h with h; injection h with h1 h2
      subst h1; subst h2
      exact ⟨by simp, by simp⟩
    · obtain ⟨x, hx, h2⟩ := Option.bind_eq_some_iff.1 h
      obtain ⟨y, hy, e⟩ := Option.map_eq_some_iff.1 h2
      obtain ⟨x1, x2⟩ := x
      obtain ⟨y1, y2⟩ := y
      obtain ⟨rfl, rfl⟩ : x1 :: y1 = l ∧ x2 + y2 = k := by simpa using e
      obtain ⟨e1, o1⟩ := hel _ _ _ hx
      obtain ⟨e2, o2⟩ := ih _ _ _ hy
      refine ⟨?_, fun z hz => ?_⟩
      · rw [List.drop_drop] at e2
        rw [List.flatMap_cons, List.append_assoc, ← e2]; exact e1
      · rcases List.mem_cons.1 hz with rfl | hz
        · exact o1
        · exact o2 z hz
theorem list_sound {el : List UInt8 → Option (Int × Nat)} {stop : List UInt8 → Bool} {P : Int → List UInt8} {Ok : Int → Prop} (hel : ∀ L x k, el L = some (x, k) → L = P x ++ L.drop k ∧ Ok x) {L : List UInt8} {l : List Int} {k : Nat}
    (h : rdList el stop L = some (l, k)) : L = l.flatMap P ++ L.drop k ∧ (∀ x ∈ l, Ok x) ∧ 0 < l.length := by
  rw [rdList] at h
  obtain ⟨x, hx, h2⟩ := Option.bind_eq_some_iff.1 h
  obtain ⟨y, hy, e⟩ := Option.map_eq_some_iff.1 h2
  obtain ⟨x1, x2⟩ := x
  obtain ⟨y1, y2⟩ := y
  obtain ⟨rfl, rfl⟩ : x1 :: y1 = l ∧ x2 + y2 = k := by simpa using e
  obtain ⟨e1, o1⟩ := hel _ _ _ hx
  obtain ⟨e2, o2⟩ := more_sound hel _ _ _ _ hy
  refine ⟨?_, fun z hz => ?_, by simp⟩
  · rw [List.drop_drop] at e2
    rw [List.flatMap_cons, List.append_assoc, ← e2]; exact e1
  · rcases List.mem_cons.1 hz with rfl | hz
    · exact o1
    · exact o2 z hz
theorem pre_cut' {L p : List UInt8} {z : Nat} (h : Lib.hasPrefix (L.drop z) p = true) : L.drop z = p ++ L.drop (z + p.length) := by
  have := pre_cut h
  rwa [List.drop_drop] at this

theorem rdOpI_sound {L : List UInt8} {j k q b : Int} {ct : List Int} {z z' : Nat} {o : Gop} (h : rdOpI L j k ct q b z = some (o, z')) :
    L.drop z = pI o ++ L.drop z' ∧ o.kind = j ∧ o.k = k ∧ o.ctl = ct ∧ o.q = q ∧ o.bit = b ∧ ∀ t ∈ o.cnd, t ≠ 0 ∧ -1000000000 ≤ t ∧ t ≤ 1000000000 := by
  unfold rdOpI at h
  split at h
  · next hp =>
    obtain ⟨x, hx, e⟩ := Option.bind_eq_some_iff.1 h
    injection e with e; injection e with e1 e2
    subst e1; subst e2
    obtain ⟨e3, e4, e5⟩ := list_sound (P := cndL) (fun _ _ _ hh => rdCnd_sound hh) (show rdList rdCnd stopI (L.drop (z + 3)) = some (x.1, x.2) from hx)
    refine ⟨?_, rfl, rfl, rfl, rfl, rfl, e4⟩
    rw [pre_cut' hp]
    unfold pI
    simp only [if_pos e5, List.append_assoc]
    rw [List.drop_drop] at e3
    rw [← e3]; rfl
  · injection h with e; injection e with e1 e2
    subst e1; subst e2
    exact ⟨by simp [pI], rfl, rfl, rfl, rfl, rfl, by simp⟩
theorem rdOpB_sound {L : List UInt8} {j k q : Int} {ct : List Int} {z z' : Nat} {o : Gop} (h : rdOpB L j k ct q z = some (o, z')) :
    L.drop z = pB o ++ L.drop z' ∧ o.kind = j ∧ o.k = k ∧ o.ctl = ct ∧ o.q = q ∧ (usesB j = true → 0 ≤ o.bit ∧ o.bit < 1000000000) ∧ (usesB j = false → o.bit = 0) ∧ ∀ t ∈ o.cnd, t ≠ 0 ∧ -1000000000 ≤ t ∧ t ≤ 1000000000 := by
  unfold rdOpB at h
  split at h
  · next hu =>
    split at h
    · next hp =>
      obtain ⟨x, hx, e⟩ := Option.bind_eq_some_iff.1 h
      obtain ⟨e1, e2, e3, e4, e5, e6, e7⟩ := rdOpI_sound e
      obtain ⟨f1, f2⟩ := rdNumI_sound (show rdNumI (L.drop (z + 3)) = some (x.1, x.2) from hx)
      refine ⟨?_, e2, e3, e4, e5, fun _ => (by rw [e6]; exact f2), fun hf => (by rw [hf] at hu; cases hu), e7⟩
      rw [pre_cut' hp]
      unfold pB
      rw [e2, if_pos hu, e6]
      rw [List.drop_drop] at f1
      simp only [List.append_assoc]
      rw [← e1, ← f1]; rfl
    · cases h
  · next hu =>
    have hu' : usesB j = false := by simpa using hu
    obtain ⟨e1, e2, e3, e4, e5, e6, e7⟩ := rdOpI_sound h
    refine ⟨?_, e2, e3, e4, e5, fun hf => absurd hf hu, fun _ => e6, e7⟩
    unfold pB
    rw [e2, if_neg hu]; exact e1
theorem rdOpC_sound {L : List UInt8} {j k q : Int} {z z' : Nat} {o : Gop} (h : rdOpC L j k q z = some (o, z')) :
    L.drop z = pC o ++ L.drop z' ∧ o.kind = j ∧ o.k = k ∧ o.q = q ∧ (∀ x ∈ o.ctl, 0 ≤ x ∧ x < 1000000000) ∧ (usesC j = false → o.ctl = []) ∧ (usesB j = true → 0 ≤ o.bit ∧ o.bit < 1000000000) ∧ (usesB j = false → o.bit = 0) ∧ ∀ t ∈ o.cnd, t ≠ 0 ∧ -1000000000 ≤ t ∧ t ≤ 1000000000 := by
  unfold rdOpC at h
  split at h
  · next hu =>
    obtain ⟨x, hx, e⟩ := Option.bind_eq_some_iff.1 h
    obtain ⟨e1, e2, e3, e4, e5, e6, e7, e8⟩ := rdOpB_sound e
    obtain ⟨f1, f2, f3⟩ := list_sound (P := numL) (fun _ _ _ hh => rdNumI_sound hh) (show rdList rdNumI stopC (L.drop (z + 3)) = some (x.1, x.2) from hx)
    refine ⟨?_, e2, e3, e5, (by rw [e4]; exact f2), fun hf => (by rw [hf] at hu; cases hu.1), e6, e7, e8⟩
    rw [pre_cut' hu.2]
    unfold pC
    rw [e4, if_pos f3]
    rw [List.drop_drop] at f1
    simp only [List.append_assoc]
    rw [← e1, ← f1]; rfl
  · obtain ⟨e1, e2, e3, e4, e5, e6, e7, e8⟩ := rdOpB_sound h
    refine ⟨?_, e2, e3, e5, by rw [e4]; simp, fun _ => e4, e6, e7, e8⟩
    unfold pC
    rw [e4]; exact e1
theorem rdOpQ_sound {L : List UInt8} {j k : Int} {z z' : Nat} {o : Gop} (h : rdOpQ L j k z = some (o, z')) :
    L.drop z = pQ o ++ L.drop z' ∧ o.kind = j ∧ o.k = k ∧ (usesQ j = true → 0 ≤ o.q ∧ o.q < 1000000000) ∧ (usesQ j = false → o.q = 0) ∧ (∀ x ∈ o.ctl, 0 ≤ x ∧ x < 1000000000) ∧ (usesC j = false → o.ctl = []) ∧ (usesB j = true → 0 ≤ o.bit ∧ o.bit < 1000000000) ∧ (usesB j = false → o.bit = 0) ∧ ∀ t ∈ o.cnd, t ≠ 0 ∧ -1000000000 ≤ t ∧ t ≤ 1000000000 := by
  unfold rdOpQ at h
  split at h
  · next hu =>
    obtain ⟨x, hx, e⟩ := Option.bind_eq_some_iff.1 h
    obtain ⟨e1, e2, e3, e4, e5⟩ := rdOpC_sound e
    obtain ⟨f1, f2⟩ := rdNumI_sound (show rdNumI (L.drop z) = some (x.1, x.2) from hx)
    refine ⟨?_, e2, e3, fun _ => (by rw [e4]; exact f2), fun hf => (by rw [hf] at hu; cases hu), e5⟩
    unfold pQ
    rw [e2, if_pos hu, e4]
    rw [List.drop_drop] at f1
    simp only [List.append_assoc]
    rw [← e1]; exact f1
  · next hu =>
    obtain ⟨e1, e2, e3, e4, e5⟩ := rdOpC_sound h
    refine ⟨?_, e2, e3, fun hf => absurd hf hu, fun _ => e4, e5⟩
    unfold pQ
    rw [e2, if_neg hu]; exact e1
theorem rdOpK_sound {L : List UInt8} {j : Int} {z z' : Nat} {o : Gop} (h : rdOpK L j z = some (o, z')) (hj : 1 ≤ j ∧ j ≤ 6) :
    L.drop z = pK o ++ L.drop z' ∧ o.kind = j ∧ WfOp o := by
  unfold rdOpK at h
  split at h
  · next hu =>
    obtain ⟨x, hx, e⟩ := Option.bind_eq_some_iff.1 h
    obtain ⟨e1, e2, e3, e4, e5, e6, e7, e8, e9, e10⟩ := rdOpQ_sound e
    obtain ⟨f1, f2⟩ := rdNumI_sound (show rdNumI (L.drop z) = some (x.1, x.2) from hx)
    subst e2
    refine ⟨?_, rfl, ⟨hj, fun _ => (by rw [e3]; exact f2), fun hf => (by rw [hf] at hu; cases hu), e4, e5, e6, e7, e8, e9, e10⟩⟩
    unfold pK
    rw [if_pos hu, e3]
    rw [List.drop_drop] at f1
    simp only [List.append_assoc]
    rw [← e1]; exact f1
  · next hu =>
    obtain ⟨e1, e2, e3, e4, e5, e6, e7, e8, e9, e10⟩ := rdOpQ_sound h
    subst e2
    refine ⟨?_, rfl, ⟨hj, fun hf => absurd hf hu, fun _ => e3, e4, e5, e6, e7, e8, e9, e10⟩⟩
    unfold pK
    rw [if_neg hu]; exact e1
theorem kindF_sound {L : List UInt8} : ∀ f j, ∀ j' k, rdKindF L f j = some (j', k) → L = (wordOf j').data.toList ++ L.drop k ∧ j ≤ j' ∧ j' < j + f := by
  intro f
  induction f with
  | zero => intro j j' k h; simp [rdKindF] at h
  | succ f ih =>
    intro j j' k h
    rw [rdKindF] at h
    split at h
    · next hp =>
      injection h with h; injection h with h1 h2
      subst h1; subst h2
      refine ⟨?_, Nat.le_refl _, by omega⟩
      obtain ⟨r, hr⟩ := List.isPrefixOf_iff_prefix.1 hp
      rw [← hr, List.append_assoc]; simp
    · obtain ⟨e1, e2, e3⟩ := ih _ _ _ h
      exact ⟨e1, by omega, by omega⟩
theorem rdOp_sound {L : List UInt8} {o : Gop} {z : Nat} (h : rdOp L = some (o, z)) : L = prnOp o ++ L.drop z ∧ WfOp o := by
  unfold rdOp at h
  obtain ⟨x, hx, e⟩ := Option.bind_eq_some_iff.1 h
  obtain ⟨e1, e2, e3⟩ := kindF_sound 6 1 x.1 x.2 hx
  obtain ⟨f1, f2, f3⟩ := rdOpK_sound e (by omega)
  refine ⟨?_, f3⟩
  rw [prn_pK, f2, List.append_assoc, ← f1]
  simpa using e1

/-! What is written is taken. -/
def Nd (r : List UInt8) : Prop := isDg r[0]? = false
theorem nd_blank (r : List UInt8) : Nd (32 :: r) := by unfold Nd; rfl
theorem nd_end (r : List UInt8) : Nd (10 :: r) := by unfold Nd; rfl
theorem more_full {el : List UInt8 → Option (Int × Nat)} {stop : List UInt8 → Bool} {P : Int → List UInt8} {Ok : Int → Prop} (hel : ∀ x r, Ok x → Nd r → el (P x ++ r) = some (x, (P x).length)) (hst : ∀ x r, Ok x → stop (P x ++ r) = false) (hP : ∀ x, ∃ r, P x = 32 :: r) {R : List UInt8} (hR : Nd R) (hs : stop R = true) (l : List Int) :
    ∀ f, l.length < f → (∀ x ∈ l, Ok x) → rdMore el stop f (l.flatMap P ++ R) = some (l, (l.flatMap P).length) := by
  induction l with
  | nil =>
    intro f hf _
    match f, hf with
    | f + 1, _ => rw [rdMore]; simp [hs]
  | cons x l ih =>
    intro f hf hok
    match f, hf with
    | f + 1, hf =>
      have hn : Nd (l.flatMap P ++ R) := by
        cases l with
        | nil => simpa using hR
        | cons y l =>
          obtain ⟨r, hr⟩ := hP y
          rw [List.flatMap_cons, hr]; exact nd_blank _
      rw [List.flatMap_cons, List.append_assoc, rdMore, if_neg (by rw [hst x _ (hok x (by simp))]; simp), hel x _ (hok x (by simp)) hn]
      simp only [Option.bind_some, List.drop_left]
      rw [ih f (by simp at hf; omega) (fun y hy => hok y (by simp [hy]))]
      simp
theorem list_full {el : List UInt8 → Option (Int × Nat)} {stop : List UInt8 → Bool} {P : Int → List UInt8} {Ok : Int → Prop} (hel : ∀ x r, Ok x → Nd r → el (P x ++ r) = some (x, (P x).length)) (hst : ∀ x r, Ok x → stop (P x ++ r) = false) (hP : ∀ x, ∃ r, P x = 32 :: r) {R : List UInt8} (hR : Nd R) (hs : stop R = true) (l : List Int) (hl : 0 < l.length) (hok : ∀ x ∈ l, Ok x) :
    rdList el stop (l.flatMap P ++ R) = some (l, (l.flatMap P).length) := by
  match l, hl with
  | x :: l, _ =>
    have hn : Nd (l.flatMap P ++ R) := by
      cases l with
      | nil => simpa using hR
      | cons y l =>
        obtain ⟨r, hr⟩ := hP y
        rw [List.flatMap_cons, hr]; exact nd_blank _
    have hlen : ∀ l : List Int, l.length ≤ (l.flatMap P).length := by
      intro l
      induction l with
      | nil => simp
      | cons y l ih =>
        obtain ⟨r, hr⟩ := hP y
        rw [List.flatMap_cons, hr, List.length_append, List.length_cons, List.length_cons]; omega
    rw [rdList, List.flatMap_cons, List.append_assoc, hel x _ (hok x (by simp)) hn]
    simp only [Option.bind_some, List.drop_left]
    rw [more_full hel hst hP hR hs l _ (by have := hlen l; rw [List.length_append, List.length_append]; omega) (fun y hy => hok y (by simp [hy]))]
    simp
theorem numL_hd (x : Int) : ∃ r, numL x = 32 :: r := ⟨_, rfl⟩
theorem cndL_hd (x : Int) : ∃ r, cndL x = 32 :: r := by unfold cndL numL; split <;> exact ⟨_, rfl⟩
theorem drop_app {L a r : List UInt8} {z : Nat} (h : L.drop z = a ++ r) : L.drop (z + a.length) = r := by
  rw [← List.drop_drop, h, List.drop_left]
theorem stopC_num (x : Int) (r : List UInt8) : stopC (numL x ++ r) = false := by
  obtain ⟨c, d, e, hc⟩ := dd_cons x.toNat
  unfold stopC numL Lib.hasPrefix
  rw [e]
  have h1 : (105 : UInt8) ≠ c := by
    intro e'
    rw [← e'] at hc
    exact absurd hc.2 (by decide)
  simp [List.isPrefixOf, h1]
theorem stopI_cnd (x : Int) (r : List UInt8) : stopI (cndL x ++ r) = false := by
  obtain ⟨s, hs⟩ := cndL_hd x
  unfold stopI Lib.hasPrefix
  rw [hs]; simp [List.isPrefixOf]
theorem pI_hd (o : Gop) (r : List UInt8) : (∃ s, pI o ++ 10 :: r = 10 :: s) ∨ ∃ s, pI o ++ 10 :: r = 32 :: 105 :: 102 :: s := by
  unfold pI
  by_cases h : 0 < o.cnd.length
  · rw [if_pos h]; exact Or.inr ⟨_, rfl⟩
  · have : o.cnd = [] := List.length_eq_zero_iff.1 (by omega)
    rw [if_neg h, this]; exact Or.inl ⟨_, rfl⟩

theorem rdOpI_full {L r : List UInt8} {z : Nat} {o : Gop} (ho : WfOp o) (h : L.drop z = pI o ++ 10 :: r) : rdOpI L o.kind o.k o.ctl o.q o.bit z = some (o, z + (pI o).length) := by
  obtain ⟨kd, k, ctl, q, bt, cnd⟩ := o
  unfold rdOpI
  by_cases hc : 0 < cnd.length
  · have hp : pI ⟨kd, k, ctl, q, bt, cnd⟩ = [32, 105, 102] ++ cnd.flatMap cndL := by unfold pI; rw [if_pos hc]
    rw [hp] at h ⊢
    rw [List.append_assoc] at h
    rw [if_pos (by rw [h]; rfl)]
    have h3 : L.drop (z + 3) = cnd.flatMap cndL ++ 10 :: r := drop_app h
    rw [h3, list_full (Ok := fun t => t ≠ 0 ∧ -1000000000 ≤ t ∧ t ≤ 1000000000) (fun x r hx hr => rdCnd_full hx hr) (fun x r _ => stopI_cnd x r) cndL_hd (nd_end r) (by rfl) cnd hc ho.cnd]
    simp; omega
  · obtain rfl : cnd = [] := List.length_eq_zero_iff.1 (by omega)
    have h' : L.drop z = 10 :: r := h
    rw [if_neg (by rw [h']; simp [Lib.hasPrefix])]
    rfl
theorem rdOpB_full {L r : List UInt8} {z : Nat} {o : Gop} (ho : WfOp o) (h : L.drop z = pB o ++ 10 :: r) : rdOpB L o.kind o.k o.ctl o.q z = some (o, z + (pB o).length) := by
  unfold rdOpB
  by_cases hu : usesB o.kind = true
  · have hp : pB o = [32, 116, 111] ++ (numL o.bit ++ pI o) := by unfold pB; rw [if_pos hu, List.append_assoc]
    rw [hp] at h ⊢
    simp only [List.append_assoc] at h
    have h3 : L.drop (z + 3) = numL o.bit ++ (pI o ++ 10 :: r) := drop_app h
    have hn : Nd (pI o ++ 10 :: r) := by
      rcases pI_hd o r with ⟨s, e⟩ | ⟨s, e⟩ <;> rw [e]
      · exact nd_end s
      · exact nd_blank _
    rw [if_pos hu, if_pos (by rw [h]; rfl), h3, rdNumI_full (ho.bit hu) hn]
    simp only [Option.bind_some]
    rw [rdOpI_full ho (show L.drop (z + 3 + (numL o.bit).length) = pI o ++ 10 :: r from drop_app h3)]
    simp; omega
  · have hp : pB o = pI o := by unfold pB; rw [if_neg hu]; rfl
    rw [hp] at h ⊢
    rw [if_neg hu]
    have := rdOpI_full ho h
    rw [ho.b0 (by simpa using hu)] at this
    exact this
theorem usesC_B {j : Int} (h : usesC j = true) : usesB j = false := by
  unfold usesC at h
  unfold usesB
  simp at h ⊢
  omega
theorem rdOpC_full {L r : List UInt8} {z : Nat} {o : Gop} (ho : WfOp o) (h : L.drop z = pC o ++ 10 :: r) : rdOpC L o.kind o.k o.q z = some (o, z + (pC o).length) := by
  unfold rdOpC
  by_cases hc : 0 < o.ctl.length
  · have hp : pC o = [32, 111, 110] ++ (o.ctl.flatMap numL ++ pB o) := by unfold pC; rw [if_pos hc]
    have hu : usesC o.kind = true := by
      rcases hx : usesC o.kind with _ | _
      · rw [ho.c0 hx] at hc; simp at hc
      · rfl
    have hb : pB o = pI o := by unfold pB; rw [usesC_B hu]; rfl
    rw [hp] at h ⊢
    simp only [List.append_assoc] at h
    have h3 : L.drop (z + 3) = o.ctl.flatMap numL ++ (pB o ++ 10 :: r) := drop_app h
    have hn : Nd (pB o ++ 10 :: r) ∧ stopC (pB o ++ 10 :: r) = true := by
      rw [hb]
      rcases pI_hd o r with ⟨s, e⟩ | ⟨s, e⟩ <;> rw [e]
      · exact ⟨nd_end s, rfl⟩
      · exact ⟨nd_blank _, rfl⟩
    rw [if_pos ⟨hu, by rw [h]; rfl⟩, h3, list_full (Ok := fun x => 0 ≤ x ∧ x < 1000000000) (fun x r hx hr => rdNumI_full hx hr) (fun x r _ => stopC_num x r) numL_hd hn.1 hn.2 o.ctl hc ho.ctl]
    simp only [Option.bind_some]
    rw [rdOpB_full ho (show L.drop (z + 3 + (o.ctl.flatMap numL).length) = pB o ++ 10 :: r from drop_app h3)]
    simp; omega
  · have h0 : o.ctl = [] := List.length_eq_zero_iff.1 (by omega)
    have hp : pC o = pB o := by unfold pC; rw [if_neg hc, h0]; rfl
    rw [hp] at h ⊢
    have hne : ¬ (usesC o.kind = true ∧ Lib.hasPrefix (L.drop z) [32, 111, 110] = true) := by
      rintro ⟨hu, hx⟩
      have hb : pB o = pI o := by unfold pB; rw [usesC_B hu]; rfl
      rw [h, hb] at hx
      rcases pI_hd o r with ⟨s, e⟩ | ⟨s, e⟩ <;> rw [e] at hx <;> simp [Lib.hasPrefix] at hx
    rw [if_neg hne]
    have := rdOpB_full ho h
    rw [h0] at this
    exact this
theorem pC_hd (o : Gop) (r : List UInt8) : Nd (pC o ++ 10 :: r) := by
  unfold pC
  by_cases hc : 0 < o.ctl.length
  · rw [if_pos hc]; exact nd_blank _
  · have h0 : o.ctl = [] := List.length_eq_zero_iff.1 (by omega)
    rw [if_neg hc, h0]
    unfold pB
    by_cases hu : usesB o.kind = true
    · rw [if_pos hu]; exact nd_blank _
    · rw [if_neg hu]
      rcases pI_hd o r with ⟨s, e⟩ | ⟨s, e⟩
      · have : (([] : List UInt8) ++ (List.flatMap numL [] ++ ([] ++ pI o))) ++ 10 :: r = 10 :: s := by simpa using e
        rw [this]; exact nd_end s
      · have : (([] : List UInt8) ++ (List.flatMap numL [] ++ ([] ++ pI o))) ++ 10 :: r = 32 :: 105 :: 102 :: s := by simpa using e
        rw [this]; exact nd_blank _
theorem pQ_hd (o : Gop) (r : List UInt8) : Nd (pQ o ++ 10 :: r) := by
  unfold pQ
  by_cases hu : usesQ o.kind = true
  · rw [if_pos hu]; exact nd_blank _
  · rw [if_neg hu]; exact pC_hd o r
theorem rdOpQ_full {L r : List UInt8} {z : Nat} {o : Gop} (ho : WfOp o) (h : L.drop z = pQ o ++ 10 :: r) : rdOpQ L o.kind o.k z = some (o, z + (pQ o).length) := by
  unfold rdOpQ
  by_cases hu : usesQ o.kind = true
  · have hp : pQ o = numL o.q ++ pC o := by unfold pQ; rw [if_pos hu]
    rw [hp] at h ⊢
    rw [List.append_assoc] at h
    rw [if_pos hu, h, rdNumI_full (ho.q hu) (pC_hd o r)]
    simp only [Option.bind_some]
    rw [rdOpC_full ho (drop_app h)]
    simp; omega
  · have hp : pQ o = pC o := by unfold pQ; rw [if_neg hu]; rfl
    rw [hp] at h ⊢
    rw [if_neg hu]
    have := rdOpC_full ho h
    rw [ho.q0 (by simpa using hu)] at this
    exact this
theorem rdOpK_full {L r : List UInt8} {z : Nat} {o : Gop} (ho : WfOp o) (h : L.drop z = pK o ++ 10 :: r) : rdOpK L o.kind z = some (o, z + (pK o).length) := by
  unfold rdOpK
  by_cases hu : usesK o.kind = true
  · have hp : pK o = numL o.k ++ pQ o := by unfold pK; rw [if_pos hu]
    rw [hp] at h ⊢
    rw [List.append_assoc] at h
    rw [if_pos hu, h, rdNumI_full (ho.k hu) (pQ_hd o r)]
    simp only [Option.bind_some]
    rw [rdOpQ_full ho (drop_app h)]
    simp; omega
  · have hp : pK o = pQ o := by unfold pK; rw [if_neg hu]; rfl
    rw [hp] at h ⊢
    rw [if_neg hu]
    have := rdOpQ_full ho h
    rw [ho.k0 (by simpa using hu)] at this
    exact this
theorem pK_hd (o : Gop) : ∃ s, pK o = 32 :: s := by
  unfold pK pQ
  by_cases hk : usesK o.kind = true
  · rw [if_pos hk]; exact ⟨_, rfl⟩
  · by_cases hq : usesQ o.kind = true
    · rw [if_neg hk, if_pos hq]; exact ⟨_, rfl⟩
    · exfalso
      unfold usesK at hk
      unfold usesQ at hq
      simp at hk hq
      omega
theorem rdKind_full {j : Nat} (h1 : 1 ≤ j) (h6 : j ≤ 6) (s : List UInt8) : rdKind ((wordOf j).data.toList ++ 32 :: s) = some (j, (wordOf j).data.toList.length) := by
  have : j = 1 ∨ j = 2 ∨ j = 3 ∨ j = 4 ∨ j = 5 ∨ j = 6 := by omega
  rcases this with rfl | rfl | rfl | rfl | rfl | rfl <;> simp [rdKind, rdKindF, wordOf, Lib.hasPrefix]
theorem rdOp_full {r : List UInt8} {o : Gop} (ho : WfOp o) : rdOp (prnOp o ++ 10 :: r) = some (o, (prnOp o).length) := by
  obtain ⟨s, hs⟩ := pK_hd o
  have hk := ho.kd
  have hL : prnOp o ++ 10 :: r = (wordOf o.kind.toNat).data.toList ++ (pK o ++ 10 :: r) := by rw [prn_pK, List.append_assoc]
  unfold rdOp
  have e1 : rdKind (prnOp o ++ 10 :: r) = some (o.kind.toNat, (wordOf o.kind.toNat).data.toList.length) := by
    rw [hL, hs]; exact rdKind_full (by omega) (by omega) _
  rw [e1]
  simp only [Option.bind_some]
  rw [show ((o.kind.toNat : Nat) : Int) = o.kind by omega, rdOpK_full ho (show (prnOp o ++ 10 :: r).drop (wordOf o.kind.toNat).data.toList.length = pK o ++ 10 :: r by rw [hL, List.drop_left]), prn_pK, List.length_append]

end Go.Proofs.YtfjbhiihfibbaaaDoor

/-
  A line loosely read: it is right just where the reader takes it.
-/
namespace Go.Proofs.YtfjbhiihfibbaaaDoor
open Go.RowKit

/-! Texts cut at a byte. -/
def splt (c : UInt8) : List UInt8 → List (List UInt8)
  | [] => [[]]
  | x :: r => if x = c then [] :: splt c r else (match splt c r with | [] => [[x]] | h :: t => (x :: h) :: t)
theorem splt_ne (c : UInt8) (l : List UInt8) : ∃ h t, splt c l = h :: t := by
  cases l with
  | nil => exact ⟨[], [], rfl⟩
  | cons x r =>
    rw [splt]
    split
    · exact ⟨_, _, rfl⟩
    · split
      · exact ⟨_, _, rfl⟩
      · exact ⟨_, _, rfl⟩
theorem splt_cons_ne {c x : UInt8} {r h : List UInt8} {t : List (List UInt8)} (hx : x ≠ c) (e : splt c r = h :: t) : splt c (x :: r) = (x :: h) :: t := by
  rw [splt, if_neg hx, e]
theorem splt_app {c : UInt8} (a r : List UInt8) (h : c ∉ a) : splt c (a ++ c :: r) = a :: splt c r := by
  induction a with
  | nil => rw [List.nil_append, splt, if_pos rfl]
  | cons x a ih =>
    rw [List.mem_cons, not_or] at h
    exact splt_cons_ne (fun e => h.1 e.symm) (ih h.2)
theorem splt_none {c : UInt8} (a : List UInt8) (h : c ∉ a) : splt c a = [a] := by
  induction a with
  | nil => rfl
  | cons x a ih =>
    rw [List.mem_cons, not_or] at h
    exact splt_cons_ne (fun e => h.1 e.symm) (ih h.2)
theorem splt_words {c : UInt8} (ws : List (List UInt8)) : ∀ w0 : List UInt8, c ∉ w0 → (∀ w ∈ ws, c ∉ w) → splt c (w0 ++ ws.flatMap (fun w => c :: w)) = w0 :: ws := by
  induction ws with
  | nil => intro w0 h0 _; simpa using splt_none w0 h0
  | cons w ws ih =>
    intro w0 h0 hw
    rw [List.flatMap_cons, List.cons_append, splt_app _ _ h0, ih w (hw w (by simp)) (fun v hv => hw v (by simp [hv]))]
theorem splt_head {c : UInt8} (L : List UInt8) : ∀ h t, splt c L = h :: t → c ∉ h ∧ ((t = [] ∧ L = h) ∨ ∃ r, L = h ++ c :: r ∧ splt c r = t) := by
  induction L with
  | nil =>
    intro h t e
    injection e with e1 e2
    subst e1; subst e2
    exact ⟨by simp, Or.inl ⟨rfl, rfl⟩⟩
  | cons x r ih =>
    intro h t e
    by_cases hx : x = c
    · rw [splt, if_pos hx] at e
      injection e with e1 e2
      subst e1; subst e2
      exact ⟨by simp, Or.inr ⟨r, by rw [hx]; rfl, rfl⟩⟩
    · obtain ⟨h', t', e'⟩ := splt_ne c r
      rw [splt_cons_ne hx e'] at e
      injection e with e1 e2
      subst e1; subst e2
      obtain ⟨i1, i2⟩ := ih _ _ e'
      refine ⟨by rw [List.mem_cons, not_or]; exact ⟨fun q => hx q.symm, i1⟩, ?_⟩
      rcases i2 with ⟨j1, j2⟩ | ⟨r', j1, j2⟩
      · exact Or.inl ⟨j1, by rw [j2]⟩
      · exact Or.inr ⟨r', by rw [j1]; rfl, j2⟩

/-! Figures, loosely read. -/
def fig (w : List UInt8) : Nat := (w.take 9).foldl (fun n c => n * 10 + (c.toNat + 208) % 256) 0
theorem fold_dd (m : Nat) : (Lib.decDigits m).foldl (fun n c => n * 10 + (c.toNat + 208) % 256) 0 = m := by
  induction m using Nat.strongRecOn with
  | _ m ih =>
    by_cases h : m < 10
    · rw [Lib.decDigits_one h]
      simp only [List.foldl_cons, List.foldl_nil, toNat_dg h]; omega
    · rw [dd_step h, List.foldl_append, ih (m / 10) (by omega)]
      simp only [List.foldl_cons, List.foldl_nil, toNat_dg (show m % 10 < 10 by omega)]; omega
theorem fold_lt (l : List UInt8) (h : ∀ c ∈ l, 48 ≤ c.toNat ∧ c.toNat ≤ 57) : ∀ n k, n < 10 ^ k → l.foldl (fun n c => n * 10 + (c.toNat + 208) % 256) n < 10 ^ (k + l.length) := by
  induction l with
  | nil => intro n k hn; simpa using hn
  | cons c l ih =>
    intro n k hn
    have hc := h c (by simp)
    rw [List.foldl_cons, List.length_cons, show k + (l.length + 1) = (k + 1) + l.length by omega]
    exact ih (fun d hd => h d (by simp [hd])) _ _ (by rw [Nat.pow_succ]; omega)
theorem fig_dd {m : Nat} (h : m < 1000000000) : fig (Lib.decDigits m) = m := by
  unfold fig
  rw [List.take_of_length_le (dd_len9 h)]; exact fold_dd m
theorem fig_lt (m : Nat) : fig (Lib.decDigits m) < 1000000000 := by
  unfold fig
  have h1 := fold_lt ((Lib.decDigits m).take 9) (fun c hc => dd_digit m c (List.mem_of_mem_take hc)) 0 0 (by decide)
  have h2 : ((Lib.decDigits m).take 9).length ≤ 9 := by rw [List.length_take]; omega
  exact Nat.lt_of_lt_of_le h1 (Nat.le_trans (Nat.pow_le_pow_right (by decide) (show 0 + ((Lib.decDigits m).take 9).length ≤ 9 by omega)) (by decide))
theorem fold_any (l : List UInt8) : ∀ n, l.foldl (fun n c => n * 10 + (c.toNat + 208) % 256) n ≤ (n + 29) * 10 ^ l.length := by
  induction l with
  | nil => intro n; simp
  | cons c l ih =>
    intro n
    rw [List.foldl_cons, List.length_cons]
    refine Nat.le_trans (ih _) ?_
    rw [Nat.pow_succ, Nat.mul_comm (10 ^ l.length) 10, ← Nat.mul_assoc]
    exact Nat.mul_le_mul_right _ (by omega)
theorem fig_any (w : List UInt8) : fig w ≤ 29000000000 := by
  unfold fig
  refine Nat.le_trans (fold_any _ 0) ?_
  have h2 : (w.take 9).length ≤ 9 := by rw [List.length_take]; omega
  exact Nat.le_trans (Nat.mul_le_mul_left _ (Nat.pow_le_pow_right (by decide) h2)) (by decide)

/-! A line, loosely read. -/
structure Lo where
  kind : Int
  plain : List Int
  ctl : List Int
  bit : Int
  cnd : List Int
  part : Int
def wOn : List UInt8 := [111, 110]
def wTo : List UInt8 := [116, 111]
def wIf : List UInt8 := [105, 102]
def lstep (s : Lo) (w : List UInt8) : Lo :=
  if w = wOn then { s with part := 1 } else if w = wTo then { s with part := 2 } else if w = wIf then { s with part := 3 }
  else if s.part = 0 then { s with plain := s.plain ++ [(fig w : Int)] }
  else if s.part = 1 then { s with ctl := s.ctl ++ [(fig w : Int)] }
  else if s.part = 2 then { s with bit := (fig w : Int) }
  else if w[0]? = some 33 then { s with cnd := s.cnd ++ [-(fig (w.drop 1) : Int) - 1] }
  else { s with cnd := s.cnd ++ [(fig w : Int) + 1] }
/-- The last of the kinds up to n whose word it is; 1 else. -/
def kindUp (w : List UInt8) : Nat → Int
  | 0 => 1
  | n + 1 => if (wordOf (n + 1)).data.toList = w then ((n + 1 : Nat) : Int) else kindUp w n
def finish (s : Lo) : Gop :=
  { kind := s.kind, k := if usesK s.kind then s.plain.getD 0 0 else 0, ctl := s.ctl, q := if usesQ s.kind then (if usesK s.kind then s.plain.getD 1 0 else s.plain.getD 0 0) else 0, bit := s.bit, cnd := s.cnd }
def loosW (ws : List (List UInt8)) : Gop := finish ((ws.drop 1).foldl lstep ⟨kindUp (ws.getD 0 []) 6, [], [], 0, [], 0⟩)
def loosM (l : List UInt8) : Gop := loosW (splt 32 l)

/-- What is loosely read keeps to this. -/
structure Weak (o : Gop) : Prop where
  kd : 1 ≤ o.kind ∧ o.kind ≤ 6
  k : 0 ≤ o.k
  q : 0 ≤ o.q
  ctl : ∀ x ∈ o.ctl, 0 ≤ x
  bit : 0 ≤ o.bit
  cnd : ∀ t ∈ o.cnd, t ≠ 0
theorem kindUp_range (w : List UInt8) (n : Nat) : 1 ≤ kindUp w n ∧ kindUp w n ≤ max 1 n := by
  induction n with
  | zero => simp [kindUp]
  | succ n ih =>
    rw [kindUp]
    split
    · omega
    · omega
theorem fold_weak (ws : List (List UInt8)) : ∀ s : Lo, (∀ x ∈ s.plain, 0 ≤ x) → (∀ x ∈ s.ctl, 0 ≤ x) → 0 ≤ s.bit → (∀ t ∈ s.cnd, t ≠ 0) → (ws.foldl lstep s).kind = s.kind ∧ (∀ x ∈ (ws.foldl lstep s).plain, 0 ≤ x) ∧ (∀ x ∈ (ws.foldl lstep s).ctl, 0 ≤ x) ∧ 0 ≤ (ws.foldl lstep s).bit ∧ ∀ t ∈ (ws.foldl lstep s).cnd, t ≠ 0 := by
  induction ws with
  | nil => intro s h1 h2 h3 h4; exact ⟨rfl, h1, h2, h3, h4⟩
  | cons w ws ih =>
    intro s h1 h2 h3 h4
    have snoc : ∀ (l : List Int) (y : Int) (P : Int → Prop), (∀ x ∈ l, P x) → P y → ∀ x ∈ l ++ [y], P x := by
      intro l y P hl hy x hx
      rcases List.mem_append.1 hx with h | h
      · exact hl x h
      · rw [List.mem_singleton.1 h]; exact hy
    have key : (lstep s w).kind = s.kind ∧ (∀ x ∈ (lstep s w).plain, 0 ≤ x) ∧ (∀ x ∈ (lstep s w).ctl, 0 ≤ x) ∧ 0 ≤ (lstep s w).bit ∧ ∀ t ∈ (lstep s w).cnd, t ≠ 0 := by
      unfold lstep
      split
      · exact ⟨rfl, h1, h2, h3, h4⟩
      · split
        · exact ⟨rfl, h1, h2, h3, h4⟩
        · split
          · exact ⟨rfl, h1, h2, h3, h4⟩
          · split
            · exact ⟨rfl, snoc _ _ _ h1 (by omega), h2, h3, h4⟩
            · split
              · exact ⟨rfl, h1, snoc _ _ _ h2 (by omega), h3, h4⟩
              · split
                · exact ⟨rfl, h1, h2, by show (0 : Int) ≤ (fig w : Int); omega, h4⟩
                · split
                  · exact ⟨rfl, h1, h2, h3, snoc _ _ (· ≠ 0) h4 (by omega)⟩
                  · exact ⟨rfl, h1, h2, h3, snoc _ _ (· ≠ 0) h4 (by omega)⟩
    obtain ⟨k0, k1, k2, k3, k4⟩ := key
    obtain ⟨j0, j1⟩ := ih (lstep s w) k1 k2 k3 k4
    exact ⟨j0.trans k0, j1⟩
theorem getD_nn {l : List Int} (h : ∀ x ∈ l, 0 ≤ x) (i : Nat) : 0 ≤ l.getD i 0 := by
  rw [List.getD_eq_getElem?_getD]
  rcases hx : l[i]? with _ | x
  · simp
  · exact h x (List.mem_of_getElem? hx)
theorem loosW_weak (ws : List (List UInt8)) : Weak (loosW ws) := by
  have hk := kindUp_range (ws.getD 0 []) 6
  obtain ⟨j0, j1, j2, j3, j4⟩ := fold_weak (ws.drop 1) ⟨kindUp (ws.getD 0 []) 6, [], [], 0, [], 0⟩ (by simp) (by simp) (by simp) (by simp)
  unfold loosW finish
  generalize (ws.drop 1).foldl lstep ⟨kindUp (ws.getD 0 []) 6, [], [], 0, [], 0⟩ = s at *
  simp only at j0
  refine ⟨by simp only [j0]; omega, ?_, ?_, j2, j3, j4⟩
  · simp only; split
    · exact getD_nn j1 0
    · exact Int.le_refl 0
  · simp only; split
    · split
      · exact getD_nn j1 1
      · exact getD_nn j1 0
    · exact Int.le_refl 0

/-! What is written, loosely read. -/
def tru (x : Int) : Int := (fig (Lib.decDigits x.toNat) : Int)
def truC (t : Int) : Int := if t < 0 then -(fig (Lib.decDigits (bitOf t).toNat) : Int) - 1 else (fig (Lib.decDigits (bitOf t).toNat) : Int) + 1
def cw (t : Int) : List UInt8 := if t < 0 then 33 :: Lib.decDigits (bitOf t).toNat else Lib.decDigits (bitOf t).toNat
def dw (x : Int) : List UInt8 := Lib.decDigits x.toNat
def wds (o : Gop) : List (List UInt8) :=
  (if usesK o.kind then [dw o.k] else []) ++ ((if usesQ o.kind then [dw o.q] else []) ++ ((if 0 < o.ctl.length then [wOn] else []) ++ (o.ctl.map dw ++ ((if usesB o.kind then [wTo, dw o.bit] else []) ++ ((if 0 < o.cnd.length then [wIf] else []) ++ o.cnd.map cw)))))
theorem flat_num (l : List Int) : l.flatMap numL = (l.map dw).flatMap (fun w => 32 :: w) := by
  induction l with
  | nil => rfl
  | cons x l ih => rw [List.flatMap_cons, List.map_cons, List.flatMap_cons, ih]; rfl
theorem flat_cnd (l : List Int) : l.flatMap cndL = (l.map cw).flatMap (fun w => 32 :: w) := by
  induction l with
  | nil => rfl
  | cons x l ih =>
    rw [List.flatMap_cons, List.map_cons, List.flatMap_cons, ih]
    congr 1
    unfold cndL cw numL; split <;> rfl
theorem prn_words (o : Gop) : prnOp o = (wordOf o.kind.toNat).data.toList ++ (wds o).flatMap (fun w => 32 :: w) := by
  have hk : ∀ (b : Bool) (x : Int), (if b = true then numL x else []) = (if b = true then [dw x] else []).flatMap (fun w => 32 :: w) := by
    intro b x; cases b <;> simp [numL, dw]
  have hb : ∀ (b : Bool) (x : Int), (if b = true then [32, 116, 111] ++ numL x else []) = (if b = true then [wTo, dw x] else []).flatMap (fun w => 32 :: w) := by
    intro b x; cases b <;> simp [numL, dw, wTo]
  have hn : ∀ n : Nat, (if 0 < n then [32, 111, 110] else ([] : List UInt8)) = (if 0 < n then [wOn] else []).flatMap (fun w => 32 :: w) := by
    intro n; split <;> simp [wOn]
  have hi : ∀ n : Nat, (if 0 < n then [32, 105, 102] else ([] : List UInt8)) = (if 0 < n then [wIf] else []).flatMap (fun w => 32 :: w) := by
    intro n; split <;> simp [wIf]
  unfold prnOp wds
  rw [hk, hk, hb, hn, hi, flat_num, flat_cnd]
  simp only [List.append_assoc, List.flatMap_append]
theorem blank_dd (n : Nat) : (32 : UInt8) ∉ Lib.decDigits n := fun h => absurd (dd_digit n 32 h).1 (by decide)
theorem end_dd (n : Nat) : (10 : UInt8) ∉ Lib.decDigits n := fun h => absurd (dd_digit n 10 h).1 (by decide)
theorem wds_free (o : Gop) (c : UInt8) (hc : c = 32 ∨ c = 10) : ∀ w ∈ wds o, c ∉ w := by
  have hd : ∀ n, c ∉ Lib.decDigits n := by rcases hc with rfl | rfl; exact blank_dd; exact end_dd
  have h1 : c ∉ wOn ∧ c ∉ wTo ∧ c ∉ wIf ∧ c ≠ 33 := by rcases hc with rfl | rfl <;> decide
  intro w hw
  unfold wds at hw
  simp only [List.mem_append] at hw
  rcases hw with h | h | h | h | h | h | h
  · split at h
    · rw [List.mem_singleton.1 h]; exact hd _
    · simp at h
  · split at h
    · rw [List.mem_singleton.1 h]; exact hd _
    · simp at h
  · split at h
    · rw [List.mem_singleton.1 h]; exact h1.1
    · simp at h
  · obtain ⟨x, _, rfl⟩ := List.mem_map.1 h; exact hd _
  · split at h
    · rcases List.mem_cons.1 h with rfl | h
      · exact h1.2.1
      · rw [List.mem_singleton.1 h]; exact hd _
    · simp at h
  · split at h
    · rw [List.mem_singleton.1 h]; exact h1.2.2.1
    · simp at h
  · obtain ⟨x, _, rfl⟩ := List.mem_map.1 h
    unfold cw
    split
    · rw [List.mem_cons, not_or]; exact ⟨h1.2.2.2, hd _⟩
    · exact hd _
theorem word_free {o : Gop} (h : 1 ≤ o.kind ∧ o.kind ≤ 6) (c : UInt8) (hc : c = 32 ∨ c = 10) : c ∉ (wordOf o.kind.toNat).data.toList := by
  have : o.kind.toNat = 1 ∨ o.kind.toNat = 2 ∨ o.kind.toNat = 3 ∨ o.kind.toNat = 4 ∨ o.kind.toNat = 5 ∨ o.kind.toNat = 6 := by omega
  rcases this with e | e | e | e | e | e <;> rw [e] <;> rcases hc with rfl | rfl <;> decide
theorem prn_free {o : Gop} (h : 1 ≤ o.kind ∧ o.kind ≤ 6) : (10 : UInt8) ∉ prnOp o := by
  rw [prn_words]
  intro hm
  rcases List.mem_append.1 hm with h1 | h1
  · exact word_free h 10 (Or.inr rfl) h1
  · obtain ⟨w, hw, h2⟩ := List.mem_flatMap.1 h1
    rcases List.mem_cons.1 h2 with h3 | h3
    · exact absurd h3 (by decide)
    · exact wds_free o 10 (Or.inr rfl) w hw h3
theorem dw_not {x : Int} : dw x ≠ wOn ∧ dw x ≠ wTo ∧ dw x ≠ wIf := by
  obtain ⟨c, r, e, h1, h2⟩ := dd_cons x.toNat
  unfold dw
  rw [e]
  refine ⟨?_, ?_, ?_⟩ <;> intro h <;> injection h with h3 _ <;> subst h3 <;> exact absurd h2 (by decide)
theorem cw_not {t : Int} : cw t ≠ wOn ∧ cw t ≠ wTo ∧ cw t ≠ wIf := by
  unfold cw
  split
  · refine ⟨?_, ?_, ?_⟩ <;> intro h <;> injection h with h3 _ <;> exact absurd h3 (by decide)
  · exact dw_not
theorem lstep_dw0 (s : Lo) (x : Int) (h : s.part = 0) : lstep s (dw x) = { s with plain := s.plain ++ [tru x] } := by
  obtain ⟨h1, h2, h3⟩ := dw_not (x := x)
  unfold lstep
  rw [if_neg h1, if_neg h2, if_neg h3, if_pos h]; rfl
theorem lstep_dw1 (s : Lo) (x : Int) (h : s.part = 1) : lstep s (dw x) = { s with ctl := s.ctl ++ [tru x] } := by
  obtain ⟨h1, h2, h3⟩ := dw_not (x := x)
  unfold lstep
  rw [if_neg h1, if_neg h2, if_neg h3, if_neg (by omega), if_pos h]; rfl
theorem lstep_dw2 (s : Lo) (x : Int) (h : s.part = 2) : lstep s (dw x) = { s with bit := tru x } := by
  obtain ⟨h1, h2, h3⟩ := dw_not (x := x)
  unfold lstep
  rw [if_neg h1, if_neg h2, if_neg h3, if_neg (by omega), if_neg (by omega), if_pos h]; rfl
theorem lstep_cw (s : Lo) (t : Int) (h : s.part = 3) : lstep s (cw t) = { s with cnd := s.cnd ++ [truC t] } := by
  obtain ⟨h1, h2, h3⟩ := cw_not (t := t)
  unfold lstep
  rw [if_neg h1, if_neg h2, if_neg h3, if_neg (by omega), if_neg (by omega), if_neg (by omega)]
  unfold cw truC
  by_cases hn : t < 0
  · rw [if_pos hn, if_pos hn, if_pos (by rfl)]; rfl
  · rw [if_neg hn, if_neg hn]
    obtain ⟨c, r, e, h1, h2⟩ := dd_cons (bitOf t).toNat
    rw [if_neg]
    rw [e]
    intro hh
    have : c = 33 := by simpa using hh
    subst this
    exact absurd h1 (by decide)
theorem fold_ctl (l : List Int) : ∀ s : Lo, s.part = 1 → (l.map dw).foldl lstep s = { s with ctl := s.ctl ++ l.map tru } := by
  induction l with
  | nil => intro s _; simp
  | cons x l ih =>
    intro s h
    rw [List.map_cons, List.foldl_cons, lstep_dw1 s x h]
    refine (ih { s with ctl := s.ctl ++ [tru x] } h).trans ?_
    simp
theorem fold_cnd (l : List Int) : ∀ s : Lo, s.part = 3 → (l.map cw).foldl lstep s = { s with cnd := s.cnd ++ l.map truC } := by
  induction l with
  | nil => intro s _; simp
  | cons x l ih =>
    intro s h
    rw [List.map_cons, List.foldl_cons, lstep_cw s x h]
    refine (ih { s with cnd := s.cnd ++ [truC x] } h).trans ?_
    simp
/-- What is read of it. -/
def canon (o : Gop) : Gop :=
  { kind := o.kind, k := if usesK o.kind then tru o.k else 0, ctl := o.ctl.map tru, q := if usesQ o.kind then tru o.q else 0, bit := if usesB o.kind then tru o.bit else 0, cnd := o.cnd.map truC }
theorem kindUp_word {j : Nat} (h1 : 1 ≤ j) (h6 : j ≤ 6) : kindUp (wordOf j).data.toList 6 = (j : Int) := by
  have : j = 1 ∨ j = 2 ∨ j = 3 ∨ j = 4 ∨ j = 5 ∨ j = 6 := by omega
  rcases this with rfl | rfl | rfl | rfl | rfl | rfl <;> decide
theorem loos_prn {o : Gop} (h : 1 ≤ o.kind ∧ o.kind ≤ 6) : loosM (prnOp o) = canon o := by
  have e1 : splt 32 (prnOp o) = (wordOf o.kind.toNat).data.toList :: wds o := by
    rw [prn_words]; exact splt_words _ _ (word_free h 32 (Or.inl rfl)) (wds_free o 32 (Or.inl rfl))
  unfold loosM loosW
  rw [e1]
  simp only [List.drop_succ_cons, List.drop_zero, List.getD_cons_zero]
  rw [kindUp_word (by omega) (by omega), show ((o.kind.toNat : Nat) : Int) = o.kind by omega]
  obtain ⟨kd, k, ctl, q, bt, cnd⟩ := o
  simp only at h ⊢
  have hC : ∀ s : Lo, (((if 0 < ctl.length then [wOn] else []) ++ ctl.map dw).foldl lstep s) = if 0 < ctl.length then { s with part := 1, ctl := s.ctl ++ ctl.map tru } else s := by
    intro s
    by_cases hc : 0 < ctl.length
    · rw [if_pos hc, if_pos hc, List.foldl_append]
      have : [wOn].foldl lstep s = { s with part := 1 } := by simp [lstep]
      rw [this, fold_ctl ctl _ rfl]
    · obtain rfl : ctl = [] := List.length_eq_zero_iff.1 (by omega)
      rfl
  have hI : ∀ s : Lo, (((if 0 < cnd.length then [wIf] else []) ++ cnd.map cw).foldl lstep s) = if 0 < cnd.length then { s with part := 3, cnd := s.cnd ++ cnd.map truC } else s := by
    intro s
    by_cases hc : 0 < cnd.length
    · rw [if_pos hc, if_pos hc, List.foldl_append]
      have : [wIf].foldl lstep s = { s with part := 3 } := by simp [lstep, wOn, wTo, wIf]
      rw [this, fold_cnd cnd _ rfl]
    · obtain rfl : cnd = [] := List.length_eq_zero_iff.1 (by omega)
      rfl
  have hB : ∀ (b : Bool) (s : Lo), ((if b = true then [wTo, dw bt] else []).foldl lstep s) = if b = true then { s with part := 2, bit := tru bt } else s := by
    intro b s
    cases b
    · rfl
    · simp only [if_true, List.foldl_cons, List.foldl_nil]
      have : lstep s wTo = { s with part := 2 } := by simp [lstep, wOn, wTo]
      rw [this, lstep_dw2 _ _ rfl]
  unfold wds
  simp only
  rw [List.foldl_append, List.foldl_append, ← List.append_assoc, List.foldl_append, hC, List.foldl_append, hB, hI]
  have : kd = 1 ∨ kd = 2 ∨ kd = 3 ∨ kd = 4 ∨ kd = 5 ∨ kd = 6 := by omega
  have hcl : ctl.map tru = if 0 < ctl.length then ctl.map tru else [] := by
    by_cases hc : 0 < ctl.length
    · rw [if_pos hc]
    · obtain rfl : ctl = [] := List.length_eq_zero_iff.1 (by omega)
      rfl
  have hcn : cnd.map truC = if 0 < cnd.length then cnd.map truC else [] := by
    by_cases hc : 0 < cnd.length
    · rw [if_pos hc]
    · obtain rfl : cnd = [] := List.length_eq_zero_iff.1 (by omega)
      rfl
  unfold canon
  simp only
  rw [hcl, hcn]
  rcases this with rfl | rfl | rfl | rfl | rfl | rfl <;> by_cases h1 : 0 < ctl.length <;> by_cases h2 : 0 < cnd.length <;> simp [finish, usesK, usesQ, usesB, lstep_dw0, h1, h2]
theorem tru_fix {x : Int} (h : tru x = x) : x < 1000000000 := by
  have := fig_lt x.toNat
  unfold tru at h
  omega
theorem tru_small {x : Int} (h0 : 0 ≤ x) (h : x < 1000000000) : tru x = x := by
  unfold tru; rw [fig_dd (by omega)]; omega
theorem truC_fix {t : Int} (h : truC t = t) : -1000000000 ≤ t ∧ t ≤ 1000000000 := by
  have := fig_lt (bitOf t).toNat
  unfold truC at h
  split at h <;> omega
theorem truC_small {t : Int} (h0 : t ≠ 0) (h : -1000000000 ≤ t ∧ t ≤ 1000000000) : truC t = t := by
  unfold truC
  by_cases hn : t < 0
  · rw [if_pos hn]
    have : (bitOf t).toNat < 1000000000 := by unfold bitOf; rw [if_neg (by omega)]; omega
    rw [fig_dd this]; unfold bitOf; rw [if_neg (by omega)]; omega
  · rw [if_neg hn]
    have : (bitOf t).toNat < 1000000000 := by unfold bitOf; rw [if_pos (by omega)]; omega
    rw [fig_dd this]; unfold bitOf; rw [if_pos (by omega)]; omega
theorem map_fix {l : List Int} {f : Int → Int} (h : l.map f = l) : ∀ x ∈ l, f x = x := by
  induction l with
  | nil => simp
  | cons y l ih =>
    rw [List.map_cons] at h
    injection h with h1 h2
    intro x hx
    rcases List.mem_cons.1 hx with rfl | hx
    · exact h1
    · exact ih h2 x hx
theorem wf_canon {o : Gop} (ho : WfOp o) : canon o = o := by
  obtain ⟨kd, k, ctl, q, bt, cnd⟩ := o
  have e1 : (if usesK kd then tru k else 0) = k := by
    by_cases h : usesK kd = true
    · rw [if_pos h]; exact tru_small (ho.k h).1 (ho.k h).2
    · rw [if_neg h]; exact (ho.k0 (by simpa using h)).symm
  have e2 : (if usesQ kd then tru q else 0) = q := by
    by_cases h : usesQ kd = true
    · rw [if_pos h]; exact tru_small (ho.q h).1 (ho.q h).2
    · rw [if_neg h]; exact (ho.q0 (by simpa using h)).symm
  have e3 : (if usesB kd then tru bt else 0) = bt := by
    by_cases h : usesB kd = true
    · rw [if_pos h]; exact tru_small (ho.bit h).1 (ho.bit h).2
    · rw [if_neg h]; exact (ho.b0 (by simpa using h)).symm
  have e4 : ctl.map tru = ctl := by
    conv => rhs; rw [← List.map_id ctl]
    exact List.map_congr_left fun x hx => tru_small (ho.ctl x hx).1 (ho.ctl x hx).2
  have e5 : cnd.map truC = cnd := by
    conv => rhs; rw [← List.map_id cnd]
    exact List.map_congr_left fun x hx => truC_small (ho.cnd x hx).1 (ho.cnd x hx).2
  unfold canon
  simp only [e1, e2, e3, e4, e5]
theorem canon_wf {o : Gop} (hw : Weak o) (hc : canon o = o) (hu : usesC o.kind = false → o.ctl = []) : WfOp o := by
  obtain ⟨kd, k, ctl, q, bt, cnd⟩ := o
  unfold canon at hc
  simp only [Gop.mk.injEq, true_and] at hc
  obtain ⟨e1, e2, e3, e4, e5⟩ := hc
  refine ⟨hw.kd, fun h => ?_, fun h => ?_, fun h => ?_, fun h => ?_, fun x hx => ?_, hu, fun h => ?_, fun h => ?_, fun t ht => ?_⟩
  · rw [if_pos h] at e1; exact ⟨hw.k, tru_fix e1⟩
  · simp only at h; rw [h] at e1; exact e1.symm
  · rw [if_pos h] at e3; exact ⟨hw.q, tru_fix e3⟩
  · simp only at h; rw [h] at e3; exact e3.symm
  · exact ⟨hw.ctl x hx, tru_fix (map_fix e2 x hx)⟩
  · rw [if_pos h] at e4; exact ⟨hw.bit, tru_fix e4⟩
  · simp only at h; rw [h] at e4; exact e4.symm
  · exact ⟨hw.cnd t ht, truC_fix (map_fix e5 t ht)⟩

/-! A line is right, or it isn't. -/
def okC (o : Gop) : Bool := usesC o.kind || o.ctl.length == 0
def lineO (l : List UInt8) : Option Gop := if okC (loosM l) = true ∧ prnOp (loosM l) = l then some (loosM l) else none
theorem lineO_wf {l : List UInt8} {o : Gop} (h : lineO l = some o) : WfOp o ∧ prnOp o = l ∧ o = loosM l := by
  unfold lineO at h
  split at h
  · next hh =>
    injection h with h
    subst h
    have hw := loosW_weak (splt 32 l)
    have hw' : Weak (loosM l) := hw
    have h1 : loosM (prnOp (loosM l)) = loosM l := by rw [hh.2]
    rw [loos_prn hw'.kd] at h1
    refine ⟨canon_wf hw' h1 (fun hc => ?_), hh.2, rfl⟩
    have := hh.1
    unfold okC at this
    rw [hc] at this
    simpa using this
  · cases h
theorem lineO_prn {o : Gop} (ho : WfOp o) : lineO (prnOp o) = some o := by
  have e : loosM (prnOp o) = o := by rw [loos_prn ho.kd, wf_canon ho]
  unfold lineO
  rw [e, if_pos]
  refine ⟨?_, rfl⟩
  unfold okC
  rcases hx : usesC o.kind with _ | _
  · rw [ho.c0 hx]; rfl
  · rfl
/-- The program at a line's begin, where it is right. -/
theorem rd_right {L l : List UInt8} {t : List (List UInt8)} {o : Gop} (hs : splt 10 L = l :: t) (ht : t ≠ []) (h : lineO l = some o) : rdOp L = some (o, l.length) ∧ ∃ r, L = l ++ 10 :: r ∧ splt 10 r = t := by
  obtain ⟨hw, hp, _⟩ := lineO_wf h
  obtain ⟨_, h2⟩ := splt_head L l t hs
  rcases h2 with ⟨h3, _⟩ | ⟨r, h3, h4⟩
  · exact absurd h3 ht
  · refine ⟨?_, r, h3, h4⟩
    rw [h3, ← hp]; exact rdOp_full hw
/-- Where it isn't. -/
theorem rd_wrong {L l : List UInt8} {t : List (List UInt8)} (hs : splt 10 L = l :: t) (h : t = [] ∨ lineO l = none) : ∀ o k, rdOp L = some (o, k) → Lib.hasPrefix (L.drop k) [10] = false := by
  intro o k hr
  obtain ⟨e1, hw⟩ := rdOp_sound hr
  rcases hp : Lib.hasPrefix (L.drop k) [10] with _ | _
  · rfl
  · exfalso
    have e2 := pre_cut hp
    rw [e2] at e1
    have e3 : splt 10 L = prnOp o :: splt 10 ((L.drop k).drop 1) := by
      conv => lhs; rw [e1]
      exact splt_app _ _ (prn_free hw.kd)
    rw [hs] at e3
    injection e3 with e4 e5
    rcases h with h | h
    · obtain ⟨a, b, e6⟩ := splt_ne 10 ((L.drop k).drop 1)
      rw [h, e6] at e5; cases e5
    · rw [e4, lineO_prn hw] at h; cases h

end Go.Proofs.YtfjbhiihfibbaaaDoor

/-
  A whole text in plain lists: a circuit, or the line that is wrong.
-/
namespace Go.Proofs.YtfjbhiihfibbaaaDoor
open Go.RowKit

/-! A whole text. -/
def rdH4 (T : List UInt8) (q b : Int) (z : Nat) : Option (Int × Int × Nat) := if Lib.hasPrefix (T.drop z) [10] = true then some (q, b, z + 1) else none
def rdH3 (T : List UInt8) (q : Int) (z : Nat) : Option (Int × Int × Nat) := (rdNumI (T.drop z)).bind (fun x => rdH4 T q x.1 (z + x.2))
def rdH2 (T : List UInt8) (q : Int) (z : Nat) : Option (Int × Int × Nat) := if Lib.hasPrefix (T.drop z) [32, 98, 105, 116, 115] = true then rdH3 T q (z + 5) else none
def rdH1 (T : List UInt8) (z : Nat) : Option (Int × Int × Nat) := (rdNumI (T.drop z)).bind (fun x => rdH2 T x.1 (z + x.2))
/-- The first line: qubits, bits, and where the next line begins. -/
def rdHead (T : List UInt8) : Option (Int × Int × Nat) := if Lib.hasPrefix T [113, 117, 98, 105, 116, 115] = true then rdH1 T 6 else none
/-- The other lines: the operations, or the line that is wrong. -/
def rdLn : List (List UInt8) → List Gop → Nat → List Gop ⊕ Nat
  | [], acc, _ => .inl acc
  | [l], acc, n => if l = [] then .inl acc else .inr n
  | l :: m :: r, acc, n => match lineO l with | some o => rdLn (m :: r) (acc ++ [o]) (n + 1) | none => .inr n
/-- A circuit, or the line that is wrong. -/
def rdAll (T : List UInt8) : Gci ⊕ Nat :=
  match rdHead T with
  | none => .inr 0
  | some (q, b, p) => (match rdLn (splt 10 (T.drop p)) [] 1 with | .inl ops => .inl ⟨q, b, ops⟩ | .inr n => .inr n)
theorem splt_len (c : UInt8) (L : List UInt8) : (splt c L).length ≤ L.length + 1 := by
  induction L with
  | nil => simp [splt]
  | cons x r ih =>
    obtain ⟨h, t, e⟩ := splt_ne c r
    by_cases hx : x = c
    · rw [splt, if_pos hx]; simp; omega
    · rw [splt_cons_ne hx e]; rw [e] at ih; simp at ih ⊢; omega
theorem rdLn_stop {L : List UInt8} (h : L = []) (acc : List Gop) (n : Nat) : rdLn (splt 10 L) acc n = .inl acc := by
  subst h; rw [splt, rdLn, if_pos rfl]
theorem rdLn_yes {L : List UInt8} {o : Gop} {k : Nat} (hr : rdOp L = some (o, k)) (hp : Lib.hasPrefix (L.drop k) [10] = true) (acc : List Gop) (n : Nat) :
    rdLn (splt 10 L) acc n = rdLn (splt 10 (L.drop (k + 1))) (acc ++ [o]) (n + 1) ∧ (splt 10 (L.drop (k + 1))).length + 1 = (splt 10 L).length := by
  obtain ⟨e1, hw⟩ := rdOp_sound hr
  have e2 := pre_cut hp
  rw [e2] at e1
  have e3 : splt 10 L = prnOp o :: splt 10 (L.drop (k + 1)) := by
    conv => lhs; rw [e1]
    rw [show L.drop (k + 1) = (L.drop k).drop 1 by rw [List.drop_drop]]
    exact splt_app _ _ (prn_free hw.kd)
  rw [e3]
  obtain ⟨h, t, e⟩ := splt_ne 10 (L.drop (k + 1))
  rw [e, rdLn, lineO_prn hw]
  exact ⟨rfl, rfl⟩
theorem rdLn_no {L : List UInt8} (hL : L ≠ []) (h : ∀ o k, rdOp L = some (o, k) → Lib.hasPrefix (L.drop k) [10] = false) (acc : List Gop) (n : Nat) : rdLn (splt 10 L) acc n = .inr n := by
  obtain ⟨l, t, e⟩ := splt_ne 10 L
  obtain ⟨_, h2⟩ := splt_head L l t e
  rw [e]
  match t, h2 with
  | [], h2 =>
    rw [rdLn, if_neg]
    intro hl
    rcases h2 with ⟨_, h3⟩ | ⟨r, _, h4⟩
    · exact hL (h3.trans hl)
    · obtain ⟨a, b, e5⟩ := splt_ne 10 r
      rw [e5] at h4; cases h4
  | m :: r, h2 =>
    rw [rdLn]
    rcases hx : lineO l with _ | o
    · rfl
    · exfalso
      obtain ⟨e3, s, e4, _⟩ := rd_right e (by simp) hx
      have := h o l.length e3
      rw [e4, List.drop_left] at this
      simp [Lib.hasPrefix, List.isPrefixOf] at this
/-- The faults: those of the text, those of the circuit. -/
def prsF (T : List UInt8) : Int × Int :=
  if 1000000 < T.length then (2, 0) else match rdAll T with | .inr n => (1, (n : Int)) | .inl c => chk c
def prsC (T : List UInt8) : Gci :=
  if 1000000 < T.length then ⟨0, 0, []⟩ else match rdAll T with | .inr _ => ⟨0, 0, []⟩ | .inl c => if (chk c).1 = 0 then c else ⟨0, 0, []⟩

end Go.Proofs.YtfjbhiihfibbaaaDoor

/-
  The first line of a text in plain lists, as the reader takes it and as the reference sees it.
-/
namespace Go.Proofs.YtfjbhiihfibbaaaDoor
open Go.RowKit

/-! The first line, as the reference sees it. -/
def hdL (q b : Int) : List UInt8 := [113, 117, 98, 105, 116, 115] ++ (numL q ++ ([32, 98, 105, 116, 115] ++ numL b))
def refQ (l : List UInt8) : Int := if (splt 32 l).length = 4 then (fig ((splt 32 l).getD 1 []) : Int) else 0
def refB (l : List UInt8) : Int := if (splt 32 l).length = 4 then (fig ((splt 32 l).getD 3 []) : Int) else 0
theorem refQ_nn (l : List UInt8) : 0 ≤ refQ l ∧ refQ l ≤ 29000000000 := by
  unfold refQ
  split
  · have := fig_any ((splt 32 l).getD 1 []); omega
  · omega
theorem refB_nn (l : List UInt8) : 0 ≤ refB l ∧ refB l ≤ 29000000000 := by
  unfold refB
  split
  · have := fig_any ((splt 32 l).getD 3 []); omega
  · omega
theorem hd_words (q b : Int) : splt 32 (hdL q b) = [[113, 117, 98, 105, 116, 115], dw q, [98, 105, 116, 115], dw b] := by
  have e : hdL q b = [113, 117, 98, 105, 116, 115] ++ [dw q, [98, 105, 116, 115], dw b].flatMap (fun w => 32 :: w) := by
    simp [hdL, numL, dw]
  rw [e]
  refine splt_words _ _ (by decide) ?_
  intro w hw
  simp only [List.mem_cons, List.not_mem_nil, or_false] at hw
  rcases hw with rfl | rfl | rfl
  · exact blank_dd _
  · decide
  · exact blank_dd _
theorem hd_free (q b : Int) : (10 : UInt8) ∉ hdL q b := by
  unfold hdL numL
  intro h
  simp only [List.mem_append, List.mem_cons, List.not_mem_nil, or_false] at h
  rcases h with h | (h | h) | h | (h | h)
  · revert h; decide
  · revert h; decide
  · exact end_dd _ h
  · revert h; decide
  · revert h; decide
  · exact end_dd _ h
theorem refQ_hd (q b : Int) : refQ (hdL q b) = tru q := by unfold refQ; rw [hd_words]; rfl
theorem refB_hd (q b : Int) : refB (hdL q b) = tru b := by unfold refB; rw [hd_words]; rfl
theorem head_sound {T : List UInt8} {q b : Int} {p : Nat} (h : rdHead T = some (q, b, p)) : T = hdL q b ++ 10 :: T.drop p ∧ (0 ≤ q ∧ q < 1000000000) ∧ (0 ≤ b ∧ b < 1000000000) := by
  unfold rdHead at h
  split at h
  · next h1 =>
    unfold rdH1 at h
    obtain ⟨x, hx, h⟩ := Option.bind_eq_some_iff.1 h
    unfold rdH2 at h
    split at h
    · next h2 =>
      unfold rdH3 at h
      obtain ⟨y, hy, h⟩ := Option.bind_eq_some_iff.1 h
      unfold rdH4 at h
      split at h
      · next h3 =>
        injection h with h; injection h with e1 h; injection h with e2 e3
        subst e1; subst e2; subst e3
        obtain ⟨f1, f2⟩ := rdNumI_sound (show rdNumI (T.drop 6) = some (x.1, x.2) from hx)
        obtain ⟨f3, f4⟩ := rdNumI_sound (show rdNumI (T.drop (6 + x.2 + 5)) = some (y.1, y.2) from hy)
        refine ⟨?_, f2, f4⟩
        have c1 := pre_cut h1
        have c2 := pre_cut' h2
        have c3 := pre_cut' h3
        rw [List.drop_drop] at f1 f3
        unfold hdL
        simp only [List.append_assoc]
        conv => lhs; rw [c1]
        simp only [List.length_cons, List.length_nil, Nat.zero_add, Nat.reduceAdd] at c1 c2 c3 ⊢
        rw [f1, c2, f3, c3]
        simp
      · cases h
    · cases h
  · cases h
theorem head_full {r : List UInt8} {q b : Int} (hq : 0 ≤ q ∧ q < 1000000000) (hb : 0 ≤ b ∧ b < 1000000000) : rdHead (hdL q b ++ 10 :: r) = some (q, b, (hdL q b).length + 1) := by
  obtain ⟨T, hT⟩ : ∃ T, hdL q b ++ 10 :: r = T := ⟨_, rfl⟩
  have d0 : T.drop 0 = [113, 117, 98, 105, 116, 115] ++ (numL q ++ ([32, 98, 105, 116, 115] ++ (numL b ++ 10 :: r))) := by rw [← hT]; simp [hdL]
  have d1 : T.drop 6 = numL q ++ ([32, 98, 105, 116, 115] ++ (numL b ++ 10 :: r)) := by have := drop_app d0; simpa using this
  have d2 : T.drop (6 + (numL q).length) = [32, 98, 105, 116, 115] ++ (numL b ++ 10 :: r) := drop_app d1
  have d3 : T.drop (6 + (numL q).length + 5) = numL b ++ 10 :: r := drop_app d2
  have d4 : T.drop (6 + (numL q).length + 5 + (numL b).length) = 10 :: r := drop_app d3
  rw [hT]
  unfold rdHead
  rw [if_pos (by rw [List.drop_zero] at d0; rw [d0]; rfl)]
  unfold rdH1
  rw [d1, rdNumI_full (r := [32, 98, 105, 116, 115] ++ (numL b ++ 10 :: r)) hq (by rfl)]
  simp only [Option.bind_some]
  unfold rdH2
  rw [if_pos (by rw [d2]; rfl)]
  unfold rdH3
  rw [d3, rdNumI_full hb (nd_end _)]
  simp only [Option.bind_some]
  unfold rdH4
  rw [if_pos (by rw [d4]; rfl)]
  simp [hdL]; omega
theorem head_right {T l : List UInt8} {t : List (List UInt8)} (hs : splt 10 T = l :: t) (ht : t ≠ []) (hl : l = hdL (refQ l) (refB l)) : rdHead T = some (refQ l, refB l, l.length + 1) ∧ splt 10 (T.drop (l.length + 1)) = t := by
  obtain ⟨_, h2⟩ := splt_head T l t hs
  rcases h2 with ⟨h3, _⟩ | ⟨r, h3, h4⟩
  · exact absurd h3 ht
  · have eq : refQ l = tru (refQ l) := by conv => lhs; rw [hl]
                                          rw [refQ_hd]
    have eb : refB l = tru (refB l) := by conv => lhs; rw [hl]
                                          rw [refB_hd]
    have hq := refQ_nn l
    have hb := refB_nn l
    have h5 := head_full (r := r) ⟨hq.1, tru_fix eq.symm⟩ ⟨hb.1, tru_fix eb.symm⟩
    rw [← hl, ← h3] at h5
    refine ⟨h5, ?_⟩
    rw [h3, show l.length + 1 = l.length + 1 from rfl, ← List.drop_drop, List.drop_left]
    exact h4
theorem head_wrong {T l : List UInt8} {t : List (List UInt8)} (hs : splt 10 T = l :: t) (h : t = [] ∨ l ≠ hdL (refQ l) (refB l)) : rdHead T = none := by
  rcases hr : rdHead T with _ | ⟨q, b, p⟩
  · rfl
  · exfalso
    obtain ⟨e1, hq, hb⟩ := head_sound hr
    have e3 : splt 10 T = hdL q b :: splt 10 (T.drop p) := by
      conv => lhs; rw [e1]
      exact splt_app _ _ (hd_free q b)
    rw [hs] at e3
    injection e3 with e4 e5
    rcases h with h | h
    · obtain ⟨a, b, e6⟩ := splt_ne 10 (T.drop p)
      rw [h, e6] at e5; cases e5
    · apply h
      rw [e4, refQ_hd, refB_hd, tru_small hq.1 hq.2, tru_small hb.1 hb.2]

end Go.Proofs.YtfjbhiihfibbaaaDoor
