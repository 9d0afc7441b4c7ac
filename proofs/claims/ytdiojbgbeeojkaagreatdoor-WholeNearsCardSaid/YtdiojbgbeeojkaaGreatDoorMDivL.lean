/-
  divLong and divWords: words divided by words, with their rest.
-/
import Derived.Test.YtdiojbgbeeojkaaGreatDoorMDivD

namespace Go.Proofs.YtdiojbgbeeojkaaGreatDoor
open Go.RowKit

/-- One round of the long division, in plain numbers. -/
theorem long_round {M M' Q : List Nat} {j n V A q : Nat} (hV0 : 0 < V) (hVn : V < B64 ^ n) (hM : j + (n + 1) ≤ M.length) (dM : Dig M) (hQ : j < Q.length)
    (hinv : val (Q.drop (j + 1)) * B64 ^ (j + 1) * V + val M = A) (hlt : val M < V * B64 ^ (j + 1)) (hT : Turned M M' j (n + 1))
    (hq : q = val (seg M j (n + 1)) / V) (hr : val (seg M' j (n + 1)) = val (seg M j (n + 1)) % V) :
    val ((Q.set j q).drop j) * B64 ^ j * V + val M' = A ∧ val M' < V * B64 ^ j := by
  have hl : M'.length = M.length := hT.1
  have s1 : ∀ X : List Nat, X.length = M.length → val X = val (seg X 0 j) + B64 ^ j * val (seg X j (n + 1)) + B64 ^ (j + (n + 1)) * val (seg X (j + (n + 1)) (M.length - (j + (n + 1)))) := by
    intro X hX
    have e1 := val_seg_split X 0 (j + (n + 1)) M.length hM (by omega)
    have e2 := val_seg_split X 0 j (j + (n + 1)) (by omega) (by omega)
    rw [show seg X 0 M.length = X from by rw [← hX]; exact seg_all X] at e1
    rw [e2] at e1
    rw [show j + (n + 1) - j = n + 1 from by omega, Nat.zero_add, Nat.zero_add] at e1
    exact e1
  have eM := s1 M rfl
  have eM' := s1 M' hl
  have t0 : seg M' 0 j = seg M 0 j := seg_congr _ _ _ _ hl (fun t _ ht => hT.2 t (by omega))
  have t2 : seg M' (j + (n + 1)) (M.length - (j + (n + 1))) = seg M (j + (n + 1)) (M.length - (j + (n + 1))) := seg_congr _ _ _ _ hl (fun t ht _ => hT.2 t (by omega))
  rw [t0, t2, hr] at eM'
  have hlow : val (seg M 0 j) < B64 ^ j := by
    have h := val_lt (l := seg M 0 j) ((dM.drop 0).take j)
    rwa [seg_length M 0 j (by omega)] at h
  generalize val (seg M 0 j) = lo at *
  generalize val (seg M (j + (n + 1)) (M.length - (j + (n + 1)))) = hi at *
  have hhi : hi = 0 := by
    cases hi with
    | zero => rfl
    | succ k =>
      exfalso
      have h1 : V * B64 ^ (j + 1) ≤ B64 ^ n * B64 ^ (j + 1) := Nat.mul_le_mul_right _ (Nat.le_of_lt hVn)
      rw [← Nat.pow_add, show n + (j + 1) = j + (n + 1) from by omega] at h1
      rw [Nat.mul_add, Nat.mul_one] at eM
      omega
  subst hhi
  have hdm := Nat.div_add_mod (val (seg M j (n + 1))) V
  have hml := Nat.mod_lt (val (seg M j (n + 1))) hV0
  rw [← hq] at hdm
  generalize val (seg M j (n + 1)) = P at *
  generalize P % V = r at *
  constructor
  · rw [drop_set_cons Q j q hQ, val, eM', ← hinv, eM, ← hdm]
    have p : B64 ^ (j + 1) = B64 ^ j * B64 := Nat.pow_succ _ _
    rw [p]
    generalize val (Q.drop (j + 1)) = D
    generalize B64 ^ j = X
    generalize B64 = c
    simp only [Nat.mul_add, Nat.add_mul, Nat.mul_zero]
    have a1 : q * X * V = X * (V * q) := by ac_rfl
    have a2 : c * D * X * V = D * (X * c) * V := by ac_rfl
    omega
  · rw [eM']
    have h1 : B64 ^ j * (r + 1) ≤ B64 ^ j * V := Nat.mul_le_mul_left _ hml
    rw [Nat.mul_add, Nat.mul_comm (B64 ^ j) V] at h1
    omega

theorem seg_lt {M : List Nat} {j n V : Nat} (hM : j + (n + 1) ≤ M.length) (hlt : val M < V * B64 ^ (j + 1)) : val (seg M j (n + 1)) < B64 * V := by
  have e1 := val_seg_split M 0 j M.length (by omega) (by omega)
  rw [show seg M 0 M.length = M from seg_all M, Nat.zero_add] at e1
  have e2 := val_seg_split M j (n + 1) (M.length - j) (by omega) (by omega)
  rw [e2, Nat.mul_add] at e1
  have h1 : B64 ^ j * val (seg M j (n + 1)) < B64 ^ j * (B64 * V) := by
    have : V * B64 ^ (j + 1) = B64 ^ j * (B64 * V) := by rw [Nat.pow_succ]; generalize B64 ^ j = X; generalize B64 = c; ac_rfl
    omega
  exact Nat.lt_of_mul_lt_mul_left h1

/-- The divisor, shifted: as many words, its highest bit set. -/
theorem shifted_top {lb l' : List Nat} {n s y : Nat} (hn : lb.length = n) (h1 : 1 ≤ n) (d' : Dig l') (m' : Nrm l') (db : Dig lb) (hy : lb.getD (n - 1) 0 = y) (hs1 : 9223372036854775808 ≤ y * 2 ^ s) (hs2 : y * 2 ^ s < B64) (hv : val l' = val lb * 2 ^ s) :
    l'.length = n ∧ 9223372036854775808 ≤ l'.getD (n - 1) 0 := by
  have hp : 0 < 2 ^ s := Nat.pow_pos (by omega)
  have e1 := val_take_succ lb (n - 1) (by omega)
  rw [show n - 1 + 1 = n from by omega, ← hn, List.take_length, hn, hy] at e1
  have hlow : val (lb.take (n - 1)) < B64 ^ (n - 1) := by
    have h := val_lt (db.take (n - 1))
    rwa [List.length_take, Nat.min_eq_left (by omega)] at h
  have hX : 0 < B64 ^ (n - 1) := Nat.pow_pos B64_pos
  have hge : B64 ^ (n - 1) * 9223372036854775808 ≤ val l' := by
    rw [hv, e1, Nat.add_mul, Nat.mul_assoc]
    have := Nat.mul_le_mul_left (B64 ^ (n - 1)) hs1
    omega
  have hlt : val l' < B64 ^ n := by
    rw [hv, e1]
    have h2 : val (lb.take (n - 1)) + B64 ^ (n - 1) * y + 1 ≤ B64 ^ (n - 1) * (y + 1) := by rw [Nat.mul_add]; omega
    have h3 : (val (lb.take (n - 1)) + B64 ^ (n - 1) * y + 1) * 2 ^ s ≤ B64 ^ (n - 1) * (y + 1) * 2 ^ s := Nat.mul_le_mul_right _ h2
    have h4 : (y + 1) * 2 ^ s ≤ B64 := by
      have hdvd : B64 = 2 ^ s * (B64 / 2 ^ s) := by
        have hsle : s ≤ 64 := by
          apply Nat.le_of_not_lt; intro hs
          have h5 : (2 : Nat) ^ 64 ≤ 2 ^ s := Nat.pow_le_pow_right (by omega) (by omega)
          have h6 : 1 ≤ y := by
            apply Nat.pos_of_ne_zero; intro h; rw [h] at hs1; omega
          have h7 := Nat.mul_le_mul_right (2 ^ s) h6
          rw [B64_pow] at hs2
          omega
        have : B64 = 2 ^ s * 2 ^ (64 - s) := by rw [← Nat.pow_add, B64_pow]; congr 1; omega
        conv => rhs; rw [this, Nat.mul_div_cancel_left _ hp]
        exact this
      rw [hdvd, Nat.mul_comm]
      rw [hdvd, Nat.mul_comm] at hs2
      exact Nat.mul_le_mul_left _ (Nat.lt_of_mul_lt_mul_left hs2)
    have h5 : B64 ^ (n - 1) * (y + 1) * 2 ^ s ≤ B64 ^ n := by
      rw [Nat.mul_assoc, show B64 ^ n = B64 ^ (n - 1) * B64 from by rw [← Nat.pow_succ]; congr 1; omega]
      exact Nat.mul_le_mul_left _ h4
    rw [Nat.add_mul, Nat.one_mul] at h3
    omega
  have hlen : l'.length = n := by
    apply Nat.le_antisymm
    · apply Nat.le_of_not_lt; intro h
      have h6 := m'.ge (by intro e; subst e; simp at h)
      have h7 : B64 ^ n ≤ B64 ^ (l'.length - 1) := Nat.pow_le_pow_right B64_pos (by omega)
      omega
    · apply Nat.le_of_not_lt; intro h
      have h6 := val_lt d'
      have h7 : B64 ^ l'.length ≤ B64 ^ (n - 1) := Nat.pow_le_pow_right B64_pos (by omega)
      omega
  refine ⟨hlen, ?_⟩
  have e2 := val_take_succ l' (n - 1) (by omega)
  rw [show n - 1 + 1 = n from by omega, ← hlen, List.take_length, hlen] at e2
  have hlow' : val (l'.take (n - 1)) < B64 ^ (n - 1) := by
    have h := val_lt (d'.take (n - 1))
    rwa [List.length_take, Nat.min_eq_left (by omega)] at h
  apply Nat.le_of_not_lt; intro h
  have h8 : B64 ^ (n - 1) * (l'.getD (n - 1) 0 + 1) ≤ B64 ^ (n - 1) * 9223372036854775808 := Nat.mul_le_mul_left _ h
  rw [Nat.mul_add] at h8
  omega

end Go.Proofs.YtdiojbgbeeojkaaGreatDoor

/-
  divLong and divWords: the walks.
-/
namespace Go.Proofs.YtdiojbgbeeojkaaGreatDoor
open Go.RowKit

theorem div_scaled (a b s : Nat) : (a * 2 ^ s) / (b * 2 ^ s) = a / b ∧ (a * 2 ^ s) % (b * 2 ^ s) = a % b * 2 ^ s := by
  have hp : 0 < 2 ^ s := Nat.pow_pos (by omega)
  exact ⟨Nat.mul_div_mul_right _ _ hp, Nat.mul_mod_mul_right _ _ _⟩

/-- The start of the long division: the dividend is below the divisor times the power for all digits. -/
theorem long_start {la l' : List Nat} {n d s : Nat} (hla : la.length = n + d) (dla : Dig la) (hl' : l'.length = n) (h1 : 1 ≤ n) (hs : s ≤ 63) (htop : 9223372036854775808 ≤ l'.getD (n - 1) 0) : val la * 2 ^ s < val l' * B64 ^ (d + 1) := by
  have e2 := val_take_succ l' (n - 1) (by omega)
  rw [show n - 1 + 1 = n from by omega, ← hl', List.take_length, hl'] at e2
  have h3 : B64 ^ (n - 1) * 9223372036854775808 ≤ val l' := by
    rw [e2]
    have := Nat.mul_le_mul_left (B64 ^ (n - 1)) htop
    omega
  have h4 := val_lt dla
  rw [hla] at h4
  have h5 : 2 ^ s ≤ 9223372036854775808 := by
    have : (2 : Nat) ^ s ≤ 2 ^ 63 := Nat.pow_le_pow_right (by omega) hs
    exact this
  have h6 : val la * 2 ^ s < B64 ^ (n + d) * 2 ^ s := Nat.mul_lt_mul_of_pos_right h4 (Nat.pow_pos (by omega))
  have h7 : B64 ^ (n + d) * 2 ^ s ≤ B64 ^ (n + d) * 9223372036854775808 := Nat.mul_le_mul_left _ h5
  have h8 : B64 ^ (n - 1) * 9223372036854775808 * B64 ^ (d + 1) ≤ val l' * B64 ^ (d + 1) := Nat.mul_le_mul_right _ h3
  have h9 : B64 ^ (n - 1) * 9223372036854775808 * B64 ^ (d + 1) = B64 ^ (n + d) * 9223372036854775808 := by
    rw [Nat.mul_right_comm, ← Nat.pow_add]; congr 2; omega
  omega

set_option maxHeartbeats 1000000 in
set_option maxRecDepth 100000 in
theorem divLong_any (a1 a2 : Option Addr) (la lb : List Nat) (n d c1 c2 : Nat) (w : World) (hla : la.length = n + d) (hlb : lb.length = n) (h1 : Seg w a1 la) (h2 : Seg w a2 lb) (d1 : Dig la) (d2 : Dig lb) (m2 : Nrm lb) (hc1 : n + d ≤ c1) (hc2 : n ≤ c2) (hn2 : 2 ≤ n) (hm : n + d ≤ 16777216) :
    Calls Tryz.prog 98 #[.slice a1 (n + d) c1, .slice a2 n c2] w fun e w' => ∃ v1 v2 : Value, e = .returned (.tuple #[v1, v2]) ∧ Num w' v1 (val la / val lb) ∧ Num w' v2 (val la % val lb) ∧ Ext w w' := by
  have hla' := hid hla
  have hlb' := hid hlb
  have h2k := h2
  rcases h2 with ⟨_, rfl⟩ | ⟨g2, o2, rfl, hg2, hcell⟩
  · simp at hlb; omega
  have hcl := hcell (n - 1) (by omega)
  have hy := d2.getD (n - 1)
  obtain ⟨y, hyd⟩ : ∃ y, lb.getD (n - 1) 0 = y := ⟨_, rfl⟩
  rw [hyd] at hcl hy
  have hy0 : 0 < y := by
    apply Nat.pos_of_ne_zero; intro h
    have e1 := val_take_succ lb (n - 1) (by omega)
    rw [show n - 1 + 1 = n from by omega, ← hlb, List.take_length, hlb, hyd, h] at e1
    have hlow : val (lb.take (n - 1)) < B64 ^ (n - 1) := by
      have h := val_lt (d2.take (n - 1))
      rwa [List.length_take, Nat.min_eq_left (by omega)] at h
    have h6 := m2.ge (by intro e; subst e; simp at hlb; omega)
    rw [hlb] at h6
    omega
  obtain ⟨s, hs, hs1, hs2, hlz⟩ := lz_any y hy0 hy
  have Hlz := hid hlz; have Hy := hid hyd; have Hs1 := hid hs1; have Hs2 := hid hs2
  have i1 : (2 : Int) ≤ (n : Int) := by omega
  clear hcell hlz hyd hs1 hs2 hla hlb hy hy0 hn2
  go_enter Tryz.func98, Tryz.ntmps98
  go_wp2_with fail
  refine (Hlz.out _).mono ?_
  rintro e w' ⟨rfl, rfl⟩
  go_wp2_with fail
  refine (shiftUp_any _ lb n c2 s w hlb'.out h2k d2 hc2 (by omega) (by omega)).mono ?_
  rintro e w1 ⟨_, rfl, ⟨ao', l', c', rfl, hc', hcm', hs', dl', ml', hvl⟩, he1⟩
  obtain ⟨hll, htop⟩ := shifted_top hlb'.out (by omega) dl' ml' d2 Hy.out Hs1.out Hs2.out hvl
  rw [hll] at hc' ⊢
  have Hll := hid hll; have Htop := hid htop; have Hvl := hid hvl
  clear hll htop hvl ml'
  go_wp2_with (at_make; refine wpList_make_row _ rfl _ _ rfl _ _ _ _ (n + d + 1) rfl rfl (by omega) (by omega) (by omega) ?_; intro w2 hr2 he2 hz2)
  have hwz : w.heap.size ≤ w1.heap.size := he1.size
  have hs1' : Seg w2 a1 la := (h1.ext he1).ext he2
  have hs2' : Seg w2 ao' l' := hs'.ext he2
  refine (shiftInto_any w1.heap.size 0 (n + d + 1) (n + d + 1) a1 (n + d) c1 s la (List.replicate (n + d + 1) 0) w2 hla'.out hr2 hs1' (h1.block_ne hwz) (Dig.replicate _) d1 hs (by simp) (by simp) (Nat.le_refl _) (by simp; unfold maxLen; omega) (Nat.le_refl _) hc1).mono ?_
  rintro e w3 ⟨M0, rfl, hr3, hd3, hT3, ho3, Hv3⟩
  have hM0 : M0.length = n + d + 1 := by rw [hT3.1]; simp
  have HM0 := hid hM0
  have HvM : Hid (val M0 = val la * 2 ^ s) := by
    show _ = _
    have := Hv3.out
    rwa [show seg M0 0 (n + d + 1) = M0 from by rw [← hM0]; exact seg_all M0] at this
  have hs3' : Seg w3 ao' l' := hs2'.only ho3 (hs'.block_ne (Nat.le_refl _))
  have hb3 : Below w.heap.size w w3 := ((he1.trans he2).only ho3 hwz)
  have hz3 : w1.heap.size < w3.heap.size := by rw [ho3.size]; exact hz2
  clear hM0 Hv3 hs1' hs2' hT3 ho3 hr2 hz2 he2
  go_wp2_with (at_make; refine wpList_make_row _ rfl _ _ rfl _ _ _ _ (d + 1) rfl rfl (by omega) (by omega) (by omega) ?_; intro w4 hr4 he4 hz4)
  have hr3' : Row w4 w1.heap.size M0 := hr3.ext he4
  have hs4' : Seg w4 ao' l' := hs3'.ext he4
  have hb4 : Below w.heap.size w w4 := Ext.trans hb3 he4
  have HV0 : Hid (0 < val l') := by
    show 0 < _
    apply Nat.pos_of_ne_zero; intro h
    have e2 := val_take_succ l' (n - 1) (by rw [Hll.out]; omega)
    rw [show n - 1 + 1 = n from by omega, ← Hll.out, List.take_length, Hll.out, h] at e2
    have h9 := Htop.out
    have : 0 < B64 ^ (n - 1) * l'.getD (n - 1) 0 := Nat.mul_pos (Nat.pow_pos B64_pos) (by omega)
    omega
  have HVn : Hid (val l' < B64 ^ n) := by
    show _ < _
    have := val_lt dl'
    rwa [Hll.out] at this
  clear hr3 hs3' hb3
  go_loopw [9] (fun i wr => ∃ (k : Nat) (M Q : List Nat), k ≤ d + 1 ∧ i = .int .i64 ((k : Int) - 1) ∧ Row wr w1.heap.size M ∧ Row wr w3.heap.size Q ∧ Seg wr ao' l' ∧ Dig M ∧ Dig Q ∧ M.length = n + d + 1 ∧ Q.length = d + 1 ∧ Below w.heap.size w wr ∧ val (Q.drop k) * B64 ^ k * val l' + val M = val la * 2 ^ s ∧ val M < val l' * B64 ^ k)
    (fun i _ => (intOf i + 1).toNat)
  case atStart => exact ⟨d + 1, M0, _, Nat.le_refl _, by go_num, hr3', hr4, hs4', hd3, Dig.replicate _, HM0.out, by simp, hb4, by
    rw [List.drop_of_length_le (by simp), val, Nat.zero_mul, Nat.zero_mul, Nat.zero_add]; exact HvM.out, by
    rw [HvM.out]; exact long_start hla'.out d1 Hll.out (by omega) hs Htop.out⟩
  case round =>
    clear hr3' hr4 hs4' hb4 he4 hz4
    obtain ⟨k, M, Q, hk, rfl, hrM, hrQ, hsl, hdM, hdQ, hML, hQL, hB, hinv, hlt⟩ := hrel
    have HML := hid hML; have HQL := hid hQL; have Hinv := hid hinv; have Hlt := hid hlt
    clear hML hQL hinv hlt
    by_cases hp : 0 < k
    · obtain ⟨j, rfl⟩ : ∃ j, k = j + 1 := ⟨k - 1, by omega⟩
      have ej : ((j + 1 : Nat) : Int) - 1 = (j : Int) := by omega
      rw [ej]
      clear ej
      go_wp2_with fail
      rw [show j + n + 1 - j = n + 1 from by omega]
      refine (divDigit_any w1.heap.size j _ ao' n c' l' M wr Hll.out hrM hsl (hs'.block_ne (Nat.le_refl _)) hdM dl' (by omega) (by rw [HML.out]; omega) (by rw [HML.out]; omega) (by omega) (by omega) hc' Htop.out (seg_lt (by rw [HML.out]; omega) Hlt.out)).mono ?_
      rintro e w5 ⟨M', q, rfl, hq, hrM', hdM', hT, ho5, hqe, hre⟩
      have Hqe := hid hqe; have Hre := hid hre
      have hrQ5 := hrQ.only ho5 (by omega)
      have hsl5 := hsl.only ho5 (hs'.block_ne (Nat.le_refl _))
      have hcQ := hrQ5.cell j (by rw [HQL.out]; omega)
      have hfQ := hrQ5.frozen j
      clear hqe hre
      go_wp2
      have hstep := long_round HV0.out HVn.out (by rw [HML.out]; omega) hdM (by rw [HQL.out]; omega) Hinv.out Hlt.out hT Hqe.out Hre.out
      have ho6 : Only w3.heap.size w5 (w5.setCell ⟨w3.heap.size, j, none⟩ (.int .u64 (q : Nat))) := (Only.refl _ _).setCell _ _
      go_roundw
      case rel => exact ⟨j, M', Q.set j q, by omega, by go_num, hrM'.only ho6 (by omega), hrQ5.set _ _, hsl5.only ho6 (fun a ha => by have := hs'.block_lt a ha; omega), hdM', hdQ.set _ _ hq, by rw [hT.1]; exact HML.out, by rw [List.length_set]; exact HQL.out, (hB.trans (ho5.below hwz)).trans (ho6.below (by omega)), hstep.1, hstep.2⟩
      case measure => simp [intOf]
    · obtain rfl : k = 0 := by omega
      have hv := Hinv.out
      have hl0 := Hlt.out
      rw [List.drop_zero, Nat.pow_zero, Nat.mul_one, Nat.mul_comm] at hv
      rw [Nat.pow_zero, Nat.mul_one] at hl0
      have hq : val Q = val la / val lb := by
        rw [← (div_scaled (val la) (val lb) s).1, ← Hvl.out, ← hv, Nat.mul_add_div HV0.out, Nat.div_eq_of_lt hl0, Nat.add_zero]
      have hr : val M / 2 ^ s = val la % val lb := by
        have : val M = val la % val lb * 2 ^ s := by
          rw [← (div_scaled (val la) (val lb) s).2, ← Hvl.out, ← hv, Nat.mul_add_mod, Nat.mod_eq_of_lt hl0]
        rw [this, Nat.mul_div_cancel _ (Nat.pow_pos (by omega))]
      have Hq := hid hq; have Hr := hid hr
      have hsQ := hrQ.segAll
      have hsM := hrM.segAll
      clear hv hl0 hq hr
      go_wp2_with fail
      refine (trim_n _ Q _ _ _ HQL.out (Nat.le_refl _) (by unfold maxLen; omega) hsQ).mono ?_
      rintro e w6 ⟨rfl, rfl⟩
      go_wp2_with fail
      refine (trim_n _ M _ _ _ HML.out (Nat.le_refl _) (by unfold maxLen; omega) hsM).mono ?_
      rintro e w7 ⟨rfl, rfl⟩
      have hnl := nlen_le M
      have hnM : nlen M ≤ 16777217 := by rw [HML.out] at hnl; omega
      clear hnl
      go_wp2_with fail
      refine (shiftDown_any _ (M.take (nlen M)) (nlen M) (nlen M) s _ (by rw [List.length_take]; have := nlen_le M; omega) (hsM.take _) (hdM.take _) (Nat.le_refl _) (by unfold maxLen; omega) (by omega) (by omega)).mono ?_
      rintro e w8 ⟨v2, rfl, hn2, he8⟩
      rw [val_take_nlen] at hn2
      go_wp2_with fail
      go_ret2
      exact ⟨_, _, rfl, ((num_trim hsQ hdQ (by rw [HQL.out]; unfold maxLen; omega)).cast Hq.out).ext he8, hn2.cast Hr.out, hB.trans (he8.mono hB.size)⟩

end Go.Proofs.YtdiojbgbeeojkaaGreatDoor

/-
  divWords: words divided by words, with their rest.
-/
namespace Go.Proofs.YtdiojbgbeeojkaaGreatDoor
open Go.RowKit

/-- A new block of one word. -/
theorem Seg.new1 (w : World) (x : Nat) (e : TypeId) : Seg (w.alloc (.cells #[.int .u64 (x : Nat)] e)) (some ⟨w.heap.size, 0, none⟩) [x] := by
  refine Or.inr ⟨w.heap.size, 0, rfl, by simp, fun t ht => ?_⟩
  have ht0 : t = 0 := by simpa using ht
  subst ht0
  simp

theorem Ext.alloc (w : World) (o : Obj) : Ext w (w.alloc o) := (Below.refl _ _).alloc (Nat.le_refl _) o

set_option maxHeartbeats 600000 in
set_option maxRecDepth 100000 in
theorem divWords_any (a1 a2 : Option Addr) (la lb : List Nat) (n m c1 c2 : Nat) (w : World) (hla : la.length = m) (hlb : lb.length = n) (h1 : Seg w a1 la) (h2 : Seg w a2 lb) (d1 : Dig la) (d2 : Dig lb) (m1 : Nrm la) (m2 : Nrm lb) (hc1 : m ≤ c1) (hc2 : n ≤ c2) (hcm1 : c1 ≤ maxLen) (hn1 : 1 ≤ n) (hmm : m ≤ 16777216) (hnn : n ≤ 16777216) :
    Calls Tryz.prog 75 #[.slice a1 m c1, .slice a2 n c2] w fun e w' => ∃ v1 v2 : Value, e = .returned (.tuple #[v1, v2]) ∧ Num w' v1 (val la / val lb) ∧ Num w' v2 (val la % val lb) ∧ Ext w w' := by
  have Hla := hid hla; have Hlb := hid hlb
  have hbp : 0 < val lb := by
    have := m2.ge (by intro e; subst e; simp at hlb; omega)
    have h0 : 0 < B64 ^ (lb.length - 1) := Nat.pow_pos B64_pos
    omega
  have Hbp := hid hbp
  by_cases hlt : val la < val lb
  · have Hc : Hid (cmp3 (val la) (val lb) = -1) := cmp3_lt (by omega)
    have Hq : Hid (0 = val la / val lb) := (Nat.div_eq_of_lt hlt).symm
    have Hr : Hid (val la = val la % val lb) := (Nat.mod_eq_of_lt hlt).symm
    clear hla hlb hbp hlt
    go_enter Tryz.func75, Tryz.ntmps75
    go_wp2_with fail
    refine (compareWords_any a1 a2 la lb m n c1 c2 w Hla.out Hlb.out h1 h2 d1 d2 m1 m2 hc1 hc2 (by omega) (by omega)).mono ?_
    rintro e w1 ⟨rfl, he1⟩
    rw [Hc.out]
    go_wp2_with fail
    go_ret2
    exact ⟨_, _, rfl, (Num.nil _).cast Hq.out, Num.cast ⟨a1, la, c1, by rw [Hla.out]; rfl, by rw [Hla.out]; exact hc1, hcm1, h1.ext he1, d1, m1, rfl⟩ Hr.out, he1⟩
  · have Hge : Hid (val lb ≤ val la) := by show _ ≤ _; omega
    have Hcn : Hid (¬ cmp3 (val la) (val lb) < 0) := by
      show ¬ _
      unfold cmp3
      rw [if_neg (by omega)]
      split <;> omega
    have hmn : n ≤ m := by rw [← hla, ← hlb]; exact m2.len_le d1 Hge.out
    obtain ⟨cv, hcv⟩ : ∃ cv, cmp3 (val la) (val lb) = cv := ⟨_, rfl⟩
    have Hcv := hid hcv
    have hcn : ¬ cv < 0 := by rw [← hcv]; exact Hcn.out
    clear hla hlb hbp hlt hcv
    by_cases hn : n = 1
    · subst hn
      have hx : ∃ x, lb = [x] := List.length_eq_one_iff.1 Hlb.out
      obtain ⟨x, rfl⟩ := hx
      have hxB : x < B64 := d2 x (List.mem_cons_self ..)
      have h2k := h2
      rcases h2 with ⟨_, h⟩ | ⟨g, o, rfl, hg, hcell⟩
      · simp at h
      have hcl := hcell 0 (by simp)
      simp only [Nat.add_zero, List.getD_cons_zero] at hcl
      clear hcell
      go_enter Tryz.func75, Tryz.ntmps75
      go_wp2_with fail
      refine (compareWords_any a1 _ la [x] m 1 c1 c2 w Hla.out Hlb.out h1 h2k d1 d2 m1 m2 hc1 hc2 (by omega) (by omega)).mono ?_
      rintro e w1 ⟨rfl, he1⟩
      rw [Hcv.out]
      have hcl1 := (he1.cell (p := ⟨g, o, none⟩) hg).trans hcl
      clear hcl
      go_wp2_with fail
      refine (divByWord_any a1 la m c1 x w1 Hla.out (h1.ext he1) d1 hc1 (by omega) hxB (by have := Hbp.out; simpa [val] using this)).mono ?_
      rintro e w2 ⟨v1, r, rfl, hn1', hr, he2⟩
      have Hr := hid hr
      clear hr
      go_wp2_with fail
      have hsn := Seg.new1 w2 r 92
      have hxp : 0 < x := by have := Hbp.out; simpa [val] using this
      have hrB : r < B64 := by
        rw [Hr.out]
        exact Nat.lt_trans (Nat.mod_lt _ hxp) hxB
      have hev : val [x] = x := by simp [val]
      have Hev := hid hev
      have hdr : Dig [r] := Dig.cons hrB Dig.nil
      clear hev
      refine (trim_n _ [r] 1 1 _ rfl (Nat.le_refl _) (by unfold maxLen; omega) hsn).mono ?_
      rintro e w4 ⟨rfl, rfl⟩
      go_wp2_with fail
      go_ret2
      have hea : Ext w2 (w2.alloc (.cells #[.int .u64 (r : Nat)] 92)) := Ext.alloc _ _
      exact ⟨_, _, rfl, (hn1'.ext hea).cast (by rw [Hev.out]), (num_trim hsn hdr (by simp [maxLen])).cast (by rw [Hev.out, ← Hr.out]; simp [val]), (he1.trans he2).trans hea⟩
    · have hbn : ((n : Int) == 1) = false := by rw [beq_eq_false_iff_ne]; omega
      obtain ⟨d, rfl⟩ : ∃ d, m = n + d := ⟨m - n, by omega⟩
      clear hmn
      have hn2 : 2 ≤ n := by omega
      clear hn
      go_enter Tryz.func75, Tryz.ntmps75
      go_wp2_with fail
      refine (compareWords_any a1 a2 la lb (n + d) n c1 c2 w Hla.out Hlb.out h1 h2 d1 d2 m1 m2 hc1 hc2 (by omega) (by omega)).mono ?_
      rintro e w1 ⟨rfl, he1⟩
      rw [Hcv.out]
      go_wp2_with fail
      refine (divLong_any a1 a2 la lb n d c1 c2 w1 Hla.out Hlb.out (h1.ext he1) (h2.ext he1) d1 d2 m2 hc1 hc2 hn2 hmm).mono ?_
      rintro e w2 ⟨v1, v2, rfl, hq, hr, he2⟩
      go_wp2_with fail
      go_ret2
      exact ⟨v1, v2, rfl, hq, hr, he1.trans he2⟩

end Go.Proofs.YtdiojbgbeeojkaaGreatDoor
