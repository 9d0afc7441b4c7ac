/-
  Texts of numbers, read again, in plain lists.
-/
import Derived.Test.YtdiojbgbeeojkaaGreatDoorMParA
import Derived.Test.YtdiojbgbeeojkaaGreatDoorMBase

namespace Go.Proofs.YtdiojbgbeeojkaaGreatDoor
open Go.RowKit

theorem bs_mk (l : List UInt8) : bs ⟨l.toArray⟩ = l.map UInt8.toNat := by simp [bs]

theorem allD_of_dcount (l : List Nat) (h : dcount l = l.length) : AllD l := by
  induction l with
  | nil => intro t ht; simp at ht
  | cons x r ih =>
    by_cases hx : isD x = true
    · have h2 : dcount r = r.length := by
        unfold dcount at h ⊢
        rw [List.takeWhile_cons, if_pos hx] at h
        simpa using h
      intro t ht
      cases t with
      | zero => simpa using hx
      | succ k => have := ih h2 k (by simpa using ht); simpa using this
    · unfold dcount at h
      rw [List.takeWhile_cons, if_neg hx] at h
      simp at h

theorem dcount_of_allD (l : List Nat) (h : AllD l) : dcount l = l.length :=
  dcount_of l _ (Nat.le_refl _) h (Or.inl rfl)

/-- What is scanned whole is digits behind a sign. -/
theorem allD_of_scan (l : List Nat) (h1 : (scanN l).2 = true) (h2 : ¬ (scanN l).1 < l.length) : AllD (l.drop (sgl l)) := by
  unfold scanN at h1 h2
  by_cases h48 : 0 < l.length ∧ l.getD 0 0 = 48
  · rw [if_pos h48] at h2
    have hl : l.length = 1 := by have := h48.1; simp at h2; omega
    obtain ⟨x, rfl⟩ := List.length_eq_one_iff.1 hl
    have hx : x = 48 := by simpa using h48.2
    subst hx
    have : sgl [48] = 0 := by decide
    rw [this]
    intro t ht
    have ht0 : t = 0 := by simpa using ht
    subst ht0
    decide
  · rw [if_neg h48] at h1 h2
    have hle := spos_le (l.drop (sgl l))
    have hsl := sgl_le l
    have hdl : (l.drop (sgl l)).length = l.length - sgl l := List.length_drop
    have hpos : 0 < spos (l.drop (sgl l)) := by simpa using h1
    have hall : spos (l.drop (sgl l)) = (l.drop (sgl l)).length := by
      simp only [Nat.not_lt] at h2; omega
    unfold spos at hall hpos
    split at hall
    · rename_i hc
      rw [if_pos hc] at hpos
      exact absurd hpos (Nat.lt_irrefl _)
    · exact allD_of_dcount _ hall

theorem digit_toNat (k : Nat) (h : k < 10) : (UInt8.ofNat (48 + k)).toNat = 48 + k := by
  rw [UInt8.toNat_ofNat']
  omega

/-- The digits' bytes, as numbers. -/
def decN (v : Nat) : List Nat := (Lib.decDigits v).map UInt8.toNat
theorem decN_small {v : Nat} (h : v < 10) : decN v = [48 + v] := by
  unfold decN
  rw [Lib.decDigits, dif_pos h, List.map_cons, List.map_nil, digit_toNat v h]
theorem decN_big {v : Nat} (h : ¬ v < 10) : decN v = decN (v / 10) ++ [48 + v % 10] := by
  unfold decN
  rw [Lib.decDigits, dif_neg h, List.map_append, List.map_cons, List.map_nil, digit_toNat (v % 10) (by omega)]
theorem decN_length (v : Nat) : (decN v).length = Lib.nDigits v := by unfold decN; rw [List.length_map, Lib.decDigits_length]

theorem decN_dval (v : Nat) : dval (decN v) = v := by
  induction v using Nat.strongRecOn with
  | _ v ih =>
    by_cases h : v < 10
    · rw [decN_small h]; simp [dval]
    · rw [decN_big h, dval_snoc, ih (v / 10) (by omega)]; omega

theorem allD_snoc (l : List Nat) (x : Nat) (h : AllD l) (hx : isD x = true) : AllD (l ++ [x]) := by
  intro t ht
  rw [List.length_append] at ht
  by_cases h1 : t < l.length
  · have := h t h1
    rw [List.getD_eq_getElem?_getD] at this ⊢
    rw [List.getElem?_append_left h1]; exact this
  · have ht1 : t = l.length := by simp at ht; omega
    subst ht1
    rw [List.getD_eq_getElem?_getD, List.getElem?_append_right (Nat.le_refl _)]
    simpa using hx

theorem isD_digit (k : Nat) (h : k < 10) : isD (48 + k) = true := by
  simp only [isD, decide_eq_true_eq]; omega

theorem decN_allD (v : Nat) : AllD (decN v) := by
  induction v using Nat.strongRecOn with
  | _ v ih =>
    by_cases h : v < 10
    · rw [decN_small h]
      exact allD_snoc [] _ (fun t ht => absurd ht (by simp)) (isD_digit v h)
    · rw [decN_big h]; exact allD_snoc _ _ (ih (v / 10) (by omega)) (isD_digit _ (by omega))

theorem decN_head (v : Nat) : ∃ d r, decN v = d :: r ∧ isD d = true ∧ (d = 48 → v = 0) := by
  induction v using Nat.strongRecOn with
  | _ v ih =>
    by_cases h : v < 10
    · exact ⟨48 + v, [], decN_small h, isD_digit v h, by omega⟩
    · obtain ⟨d, r, e, h1, h2⟩ := ih (v / 10) (by omega)
      exact ⟨d, r ++ [48 + v % 10], by rw [decN_big h, e]; rfl, h1, fun hd => by have := h2 hd; omega⟩

/-- A number's text. -/
def txt (z : Int) : List Nat := (Lib.itoa z).map UInt8.toNat
theorem txt_neg {z : Int} (h : z < 0) : txt z = 45 :: decN z.natAbs := by
  unfold txt Lib.itoa decN; rw [if_pos h]; rfl
theorem txt_pos {z : Int} (h : ¬ z < 0) : txt z = decN z.natAbs := by
  unfold txt Lib.itoa decN; rw [if_neg h]
  have : z.toNat = z.natAbs := by omega
  rw [this]

theorem spos_dec (v : Nat) (h : v ≠ 0) : spos (decN v) = (decN v).length := by
  obtain ⟨d, r, e, _, h2⟩ := decN_head v
  unfold spos
  rw [if_neg, dcount_of_allD _ (decN_allD v)]
  rw [e]
  rintro (hc | hc)
  · simp at hc
  · exact h (h2 (by simpa using hc))

theorem txt_sgl (z : Int) : sgl (txt z) = if z < 0 then 1 else 0 := by
  by_cases h : z < 0
  · rw [txt_neg h, if_pos h]; simp [sgl]
  · rw [txt_pos h, if_neg h]
    obtain ⟨d, r, e, h1, _⟩ := decN_head z.natAbs
    rw [e]
    simp only [isD, decide_eq_true_eq] at h1
    unfold sgl
    rw [if_neg (by simp; omega)]

theorem txt_drop (z : Int) : (txt z).drop (sgl (txt z)) = decN z.natAbs := by
  rw [txt_sgl]
  by_cases h : z < 0
  · rw [if_pos h, txt_neg h]; rfl
  · rw [if_neg h, txt_pos h]; rfl

theorem txt_scan (z : Int) : scanN (txt z) = ((txt z).length, true) := by
  have hd := txt_drop z
  obtain ⟨d, r, e, h1, h2⟩ := decN_head z.natAbs
  simp only [isD, decide_eq_true_eq] at h1
  unfold scanN
  by_cases h48 : 0 < (txt z).length ∧ (txt z).getD 0 0 = 48
  · rw [if_pos h48]
    by_cases h : z < 0
    · rw [txt_neg h] at h48; simp at h48
    · rw [txt_pos h] at h48 ⊢
      rw [e] at h48
      have h0 := h2 (by simpa using h48.2)
      rw [h0, decN_small (by omega)]; rfl
  · rw [if_neg h48, hd]
    have hz : z.natAbs ≠ 0 := by
      intro h0
      apply h48
      rw [txt_pos (by omega), h0, decN_small (by omega)]
      exact ⟨by simp, by simp⟩
    have hs := spos_dec _ hz
    have hl : 0 < (decN z.natAbs).length := by rw [e]; simp
    rw [hs]
    have hlen : sgl (txt z) + (decN z.natAbs).length = (txt z).length := by
      rw [txt_sgl]
      by_cases h : z < 0
      · rw [if_pos h, txt_neg h, List.length_cons]; omega
      · rw [if_neg h, txt_pos h]; omega
    rw [hlen, decide_eq_true hl]

/-- As many digits as Parse takes. -/
def limN : Nat := 1000
/-- What such numbers stay below. -/
def Lim : Nat := 10 ^ limN
theorem lim_le (k : Nat) (h : k ≤ 1000) : 10 ^ k ≤ Lim := by
  unfold Lim
  exact Nat.pow_le_pow_right (by decide) h
theorem lim_pos : 0 < Lim := by unfold Lim; exact Nat.pow_pos (by decide)

theorem txt_short (z : Int) (h : z.natAbs < Lim) : (txt z).length - sgl (txt z) ≤ 1000 := by
  have h1 : (txt z).length - sgl (txt z) = (decN z.natAbs).length := by rw [← txt_drop, List.length_drop]
  rw [h1, decN_length]
  exact nDigits_le limN _ (by decide) h

theorem txt_val (z : Int) : sgn (decide (0 < sgl (txt z))) (dval ((txt z).drop (sgl (txt z)))) = z := by
  rw [txt_drop, decN_dval, txt_sgl]
  by_cases h : z < 0
  · rw [if_pos h]; simp [sgn]; omega
  · rw [if_neg h]; simp [sgn]; omega

/-- What Parse reads. -/
def pz (l : List Nat) : Int := if (scanN l).2 = true ∧ ¬ (scanN l).1 < l.length ∧ ¬ 1000 < l.length - sgl l then sgn (decide (0 < sgl l)) (dval (l.drop (sgl l))) else 0
/-- Parse's fault. -/
def pcode (l : List Nat) : Nat := if (scanN l).2 = true ∧ ¬ (scanN l).1 < l.length then (if 1000 < l.length - sgl l then 2 else 0) else 1
def pat (l : List Nat) : Nat := if (scanN l).2 = true ∧ ¬ (scanN l).1 < l.length then 0 else (scanN l).1

theorem pz_lt (l : List Nat) : (pz l).natAbs < Lim := by
  unfold pz
  split
  · rename_i h
    have ha := allD_of_scan l h.1 h.2.1
    have h1 := dval_lt _ ha
    rw [List.length_drop] at h1
    have h2 := lim_le (l.length - sgl l) (by omega)
    have h3 : (sgn (decide (0 < sgl l)) (dval (l.drop (sgl l)))).natAbs = dval (l.drop (sgl l)) := by
      unfold sgn; split <;> simp
    rw [h3]
    exact Nat.lt_of_lt_of_le h1 h2
  · exact lim_pos

theorem pz_txt (z : Int) (h : z.natAbs < Lim) : pz (txt z) = z := by
  unfold pz
  have h1 := txt_scan z
  have h2 := txt_short z h
  rw [if_pos ⟨by rw [h1], by rw [h1]; simp, by omega⟩, txt_val]

theorem pcode_txt (z : Int) (h : z.natAbs < Lim) : pcode (txt z) = 0 := by
  unfold pcode
  have h1 := txt_scan z
  have h2 := txt_short z h
  rw [if_pos ⟨by rw [h1], by rw [h1]; simp⟩, if_neg (by omega)]

end Go.Proofs.YtdiojbgbeeojkaaGreatDoor

/-
  Reading numbers: Parse. And what results' cells do to words: nothing.
-/
namespace Go.Proofs.YtdiojbgbeeojkaaGreatDoor
open Go.RowKit

/-- All words stand where they stood. -/
def Keep64 (w w' : World) : Prop := w.heap.size ≤ w'.heap.size ∧ ∀ b o x, w.cell? ⟨b, o, none⟩ = some (.int .u64 x) → w'.cell? ⟨b, o, none⟩ = some (.int .u64 x)

theorem Keep64.refl (w : World) : Keep64 w w := ⟨Nat.le_refl _, fun _ _ _ h => h⟩
theorem Keep64.trans {a b c : World} (h : Keep64 a b) (k : Keep64 b c) : Keep64 a c := ⟨Nat.le_trans h.1 k.1, fun _ _ _ q => k.2 _ _ _ (h.2 _ _ _ q)⟩
theorem Keep64.ext {w w' : World} (h : Ext w w') : Keep64 w w' :=
  ⟨h.size, fun b o _ q => (h.cell (p := ⟨b, o, none⟩) (World.block_lt_of_cell? w ⟨b, o, none⟩ q)).trans q⟩

theorem Seg.keep64 {w w' : World} {ao : Option Addr} {l : List Nat} (h : Seg w ao l) (k : Keep64 w w') : Seg w' ao l := by
  rcases h with h | ⟨b, o, rfl, hb, hc⟩
  · exact Or.inl h
  · exact Or.inr ⟨b, o, rfl, Nat.lt_of_lt_of_le hb k.1, fun t ht => k.2 _ _ _ (hc t ht)⟩

theorem IsInt.keep64 {w w' : World} {sm : Int} {ao : Option Addr} {n c : Nat} {z : Int} (h : IsInt w sm ao n c z) (k : Keep64 w w') : IsInt w' sm ao n c z := by
  rcases h with h | ⟨b, o, l, h1, h2, h3, h4, h5, h6⟩
  · exact Or.inl h
  · exact Or.inr ⟨b, o, l, h1, h2, h3, h4, h5.keep64 k, h6⟩

/-- There is something at p, and it is no word. -/
def NotW (w : World) (p : Addr) : Prop := ∃ u, w.cell? p = some u ∧ ∀ x, u ≠ .int .u64 x

theorem NotW.i64 {w : World} {p : Addr} {x : Int} (h : w.cell? p = some (.int .i64 x)) : NotW w p := ⟨_, h, fun _ h => by cases h⟩
theorem NotW.slice {w : World} {p : Addr} {a : Option Addr} {n c : Nat} (h : w.cell? p = some (.slice a n c)) : NotW w p := ⟨_, h, fun _ h => by cases h⟩

theorem NotW.set {w : World} {p q : Addr} {v : Value} (h : NotW w q) (hp : NotW w p) (hv : ∀ x, v ≠ .int .u64 x) : NotW (w.setCell p v) q := by
  by_cases e : q = p
  · subst e
    obtain ⟨u, hu, _⟩ := hp
    exact ⟨v, World.cell?_setCell_same _ _ _ hu, hv⟩
  · obtain ⟨u, hu, h2⟩ := h
    exact ⟨u, by rw [World.cell?_setCell_other _ _ _ _ (fun h => e h.symm)]; exact hu, h2⟩

theorem Keep64.set {a w : World} {p : Addr} (h : Keep64 a w) (hp : NotW w p) (v : Value) : Keep64 a (w.setCell p v) := by
  refine h.trans ⟨by simp [World.setCell], fun b o x hx => ?_⟩
  by_cases e : (⟨b, o, none⟩ : Addr) = p
  · subst e
    obtain ⟨u, hu, h2⟩ := hp
    rw [hu] at hx
    simp only [Option.some.injEq] at hx
    exact absurd hx (h2 x)
  · rw [World.cell?_setCell_other _ _ _ _ (fun h => e h.symm)]; exact hx

theorem notW_i64 (x y : Int) : Value.int .i64 x ≠ .int .u64 y := by intro h; cases h
theorem notW_slice (a : Option Addr) (n c : Nat) (y : Int) : Value.slice a n c ≠ .int .u64 y := by intro h; cases h

theorem Keep64.set2 {w : World} {p q : Addr} {u : Value} (hp : NotW w p) (hq : NotW w q) (hu : ∀ x, u ≠ .int .u64 x) (v : Value) : Keep64 w ((w.setCell p u).setCell q v) :=
  ((Keep64.refl w).set hp u).set (hq.set hp hu) v

theorem Keep64.set4 {w : World} {p q r s : Addr} {u v x : Value} (hp : NotW w p) (hq : NotW w q) (hr : NotW w r) (hs : NotW w s) (hu : ∀ y, u ≠ .int .u64 y) (hv : ∀ y, v ≠ .int .u64 y) (hx : ∀ y, x ≠ .int .u64 y) (t : Value) :
    Keep64 w ((((w.setCell p u).setCell q v).setCell r x).setCell s t) :=
  (Keep64.set2 hp hq hu v).trans (Keep64.set2 ((hr.set hp hu).set (hq.set hp hu) hv) ((hs.set hp hu).set (hq.set hp hu) hv) hx t)

theorem Ext.set {w W : World} {p : Addr} (h : Ext w W) (hg : w.heap.size ≤ p.block) (u : Value) : Ext w (W.setCell p u) := Below.setCell h hg u

/-- The cells of a fault that is answered. -/
structure FRes (W : World) (g : Nat) : Prop where
  lt : g < W.heap.size
  row : W.heap[g]? = some (.cells #[.int .i64 0, .int .i64 0] 28 (0, 0))
theorem FRes.ext {W W' : World} {g : Nat} (h : FRes W g) (k : Ext W W') : FRes W' g := ⟨Nat.lt_of_lt_of_le h.lt k.size, (k.block _ h.lt).trans h.row⟩
theorem FRes.c0 {W : World} {g : Nat} (h : FRes W g) : W.cell? ⟨g, 0, none⟩ = some (.int .i64 0) := by rw [cell_of_row W g 0 _ _ (0, 0) h.row]; rfl
theorem FRes.c1 {W : World} {g : Nat} (h : FRes W g) : W.cell? ⟨g, 1, none⟩ = some (.int .i64 0) := by rw [cell_of_row W g 1 _ _ (0, 0) h.row]; rfl
theorem FRes.f0 {W : World} {g : Nat} (h : FRes W g) : W.frozen? ⟨g, 0, none⟩ = false := frozen_of_row W g 0 _ _ h.row
theorem FRes.f1 {W : World} {g : Nat} (h : FRes W g) : W.frozen? ⟨g, 1, none⟩ = false := frozen_of_row W g 1 _ _ h.row

set_option maxHeartbeats 800000 in
set_option maxRecDepth 100000 in
theorem Parse_any (s : ByteArray) (w : World) (hs : s.size ≤ 9223372036854775807) :
    Calls Tryz.prog 23 #[.string s] w fun e w' => ∃ (sm : Int) (a' : Option Addr) (n' c' : Nat), e = .returned (.tuple #[.agg #[.int .i64 sm, .slice a' n' c'], .agg #[.int .i64 (pcode (bs s) : Nat), .int .i64 (pat (bs s) : Nat)]]) ∧ IsInt w' sm a' n' c' (pz (bs s)) ∧ Ext w w' := by
  have Hscan := hid (fun wx => scanNumber_any s wx hs)
  have Hlong := hid (fun wx => tooLong_any s wx hs)
  have hlen := bs_length s
  obtain ⟨en, hen⟩ : ∃ en, (scanN (bs s)).1 = en := ⟨_, rfl⟩
  obtain ⟨ok, hok⟩ : ∃ ok, (scanN (bs s)).2 = ok := ⟨_, rfl⟩
  rw [hen, hok] at Hscan
  by_cases hbad : ok = true ∧ ¬ en < s.size
  · obtain ⟨rfl, hlt⟩ := hbad
    have hil : ¬ ((en : Nat) : Int) < (s.size : Int) := by omega
    by_cases hlg : 1000 < s.size - sgl (bs s)
    · have Hz : Hid (pz (bs s) = 0) := by show _ = _; unfold pz; rw [if_neg]; rw [hlen]; exact fun h => h.2.2 hlg
      have Hc : Hid (pcode (bs s) = 2) := by show _ = _; unfold pcode; rw [if_pos ⟨hok, by rw [hen, hlen]; exact hlt⟩, if_pos (by rw [hlen]; exact hlg)]
      have Ha : Hid (pat (bs s) = 0) := by show _ = _; unfold pat; rw [if_pos ⟨hok, by rw [hen, hlen]; exact hlt⟩]
      rw [decide_eq_true hlg] at Hlong
      clear hlg hlt hen hok hlen
      rw [Hz.out, Hc.out, Ha.out]
      go_enter Tryz.func23, Tryz.ntmps23
      go_wp2_with fail
      refine (Hscan.out _).mono ?_
      rintro e w1 ⟨rfl, rfl⟩
      go_wp2_with fail
      refine (Hlong.out _).mono ?_
      rintro e w1 ⟨rfl, rfl⟩
      go_wp2_with fail
      exact bodyPost_ret (v := .tuple #[.agg #[.int .i64 0, .slice none 0 0], .agg #[.int .i64 2, .int .i64 0]]) (by simp [results, Tryz.results23, go_sem]) rfl ⟨0, none, 0, 0, rfl, IsInt.small _ _ (by omega) (by omega), (Ext.alloc _ _).then _⟩
    · have Hz : Hid (pz (bs s) = sgn (decide (0 < sgl (bs s))) (dval ((bs s).drop (sgl (bs s))))) := by show _ = _; unfold pz; rw [if_pos ⟨hok, by rw [hen, hlen]; exact hlt, by rw [hlen]; exact hlg⟩]
      have Hc : Hid (pcode (bs s) = 0) := by show _ = _; unfold pcode; rw [if_pos ⟨hok, by rw [hen, hlen]; exact hlt⟩, if_neg (by rw [hlen]; exact hlg)]
      have Ha : Hid (pat (bs s) = 0) := by show _ = _; unfold pat; rw [if_pos ⟨hok, by rw [hen, hlen]; exact hlt⟩]
      have Hread := hid (fun wx => readNumber_any s wx (by rw [hlen]; omega) (allD_of_scan _ hok (by rw [hen, hlen]; exact hlt)))
      rw [decide_eq_false hlg] at Hlong
      clear hlg hlt hen hok hlen
      rw [Hc.out, Ha.out]
      have hR : Res ((w.alloc (.cells #[.int .i64 0, .slice none 0 0] 24)).alloc (.cells #[.int .i64 0, .int .i64 0] 28)) w.heap.size :=
        ⟨by simp; omega, (Below.heap_alloc _ _ _ (by simp)).trans (heap_alloc_new w _)⟩
      have hF : FRes ((w.alloc (.cells #[.int .i64 0, .slice none 0 0] 24)).alloc (.cells #[.int .i64 0, .int .i64 0] 28)) (w.heap.size + 1) := by
        refine ⟨by simp, ?_⟩
        have := heap_alloc_new (w.alloc (.cells #[.int .i64 0, .slice none 0 0] 24)) (.cells #[.int .i64 0, .int .i64 0] 28)
        simpa using this
      have hE : Ext w ((w.alloc (.cells #[.int .i64 0, .slice none 0 0] 24)).alloc (.cells #[.int .i64 0, .int .i64 0] 28)) := (Ext.alloc _ _).then _
      go_enter Tryz.func23, Tryz.ntmps23
      go_wp2_with fail
      generalize (w.alloc (.cells #[.int .i64 0, .slice none 0 0] 24)).alloc (.cells #[.int .i64 0, .int .i64 0] 28) = W0 at *
      refine (Hscan.out _).mono ?_
      rintro e w1 ⟨rfl, rfl⟩
      go_wp2_with fail
      refine (Hlong.out _).mono ?_
      rintro e w1 ⟨rfl, rfl⟩
      go_wp2_with fail
      refine (Hread.out _).mono ?_
      rintro e w3 ⟨s4, a4, n4, c4, rfl, hI4, he4⟩
      have hr4 := hR.ext he4; have hf4 := hF.ext he4
      have k0 := hr4.c0; have k1 := hr4.c1; have g0 := hr4.f0; have g1 := hr4.f1
      have k2 := hf4.c0; have k3 := hf4.c1; have g2 := hf4.f0; have g3 := hf4.f1
      go_wp2_with fail
      exact bodyPost_ret (v := .tuple #[.agg #[.int .i64 s4, .slice a4 n4 c4], .agg #[.int .i64 0, .int .i64 0]]) (by simp [results, Tryz.results23, go_sem, k0, k1, k2, k3]) rfl
        ⟨s4, a4, n4, c4, rfl, (hI4.cast Hz.out.symm).keep64 (Keep64.set4 (.i64 k0) (.slice k1) (.i64 k2) (.i64 k3) (notW_i64 _) (notW_slice _ _ _) (notW_i64 _) _), ((((hE.trans he4).set (Nat.le_refl _) _).set (Nat.le_refl _) _).set (Nat.le_succ _) _).set (Nat.le_succ _) _⟩
  · have Hz : Hid (pz (bs s) = 0) := by show _ = _; unfold pz; rw [if_neg]; rw [hok, hen, hlen]; exact fun h => hbad ⟨h.1, h.2.1⟩
    have Hc : Hid (pcode (bs s) = 1) := by show _ = _; unfold pcode; rw [if_neg]; rw [hok, hen, hlen]; exact hbad
    have Ha : Hid (pat (bs s) = en) := by show _ = _; unfold pat; rw [if_neg, hen]; rw [hok, hen, hlen]; exact hbad
    rw [Hz.out, Hc.out, Ha.out]
    have hcase : ok = false ∨ (ok = true ∧ ((en : Nat) : Int) < (s.size : Int)) := by
      cases ok
      · exact Or.inl rfl
      · right; refine ⟨rfl, ?_⟩
        have : en < s.size := Decidable.byContradiction fun h => hbad ⟨rfl, h⟩
        omega
    clear hbad hen hok hlen
    rcases hcase with rfl | ⟨rfl, hil⟩
    all_goals
      go_enter Tryz.func23, Tryz.ntmps23
      go_wp2_with fail
      refine (Hscan.out _).mono ?_
      rintro e w1 ⟨rfl, rfl⟩
      go_wp2_with fail
      exact bodyPost_ret (v := .tuple #[.agg #[.int .i64 0, .slice none 0 0], .agg #[.int .i64 1, .int .i64 (en : Nat)]]) (by simp [results, Tryz.results23, go_sem]) rfl ⟨0, none, 0, 0, rfl, IsInt.small _ _ (by omega) (by omega), (Ext.alloc _ _).then _⟩

end Go.Proofs.YtdiojbgbeeojkaaGreatDoor
