/-
  shiftInto: words times a power of two, laid into noughts.
-/
import Derived.Test.YtdiojbgbeeojkaaGreatDoorMAdd
import Derived.Laws.Bits64b

namespace Go.Proofs.YtdiojbgbeeojkaaGreatDoor
open Go.RowKit

theorem B64_pow : B64 = 2 ^ 64 := rfl

/-- A word times a power of two, above what was left of the word below: as the walk spells it. -/
theorem shl_ex (x y s : Nat) (hx : x < B64) (hs : s ≤ 63) (hy : y < 2 ^ s) : ∃ z q : Nat, z < B64 ∧ q < 2 ^ s ∧ Hid (z + B64 * q = y + x * 2 ^ s) ∧
    bits .or .u64 (y : Int) (IntKind.u64.wrap ((x : Int) * 2 ^ s)) = (z : Int) ∧ (x : Int) / 2 ^ (64 - s) = (q : Int) := by
  have hsplit : B64 = 2 ^ s * 2 ^ (64 - s) := by rw [← Nat.pow_add, B64_pow]; congr 1; omega
  have hp : 0 < 2 ^ s := Nat.pow_pos (by omega)
  have hp2 : 0 < 2 ^ (64 - s) := Nat.pow_pos (by omega)
  have hm : x * 2 ^ s % B64 = 2 ^ s * (x % 2 ^ (64 - s)) := by
    rw [hsplit, Nat.mul_comm x, Nat.mul_mod_mul_left]
  have hq : x * 2 ^ s / B64 = x / 2 ^ (64 - s) := by
    rw [hsplit, Nat.mul_comm x, Nat.mul_div_mul_left _ _ hp]
  have hor : y ||| x * 2 ^ s % B64 = y + x * 2 ^ s % B64 := by
    rw [hm, Nat.or_comm, ← Nat.two_pow_add_eq_or_of_lt hy, Nat.add_comm]
  have hlt : y + x * 2 ^ s % B64 < B64 := by
    rw [hm]
    have h1 : x % 2 ^ (64 - s) < 2 ^ (64 - s) := Nat.mod_lt _ hp2
    have h2 : 2 ^ s * (x % 2 ^ (64 - s) + 1) ≤ 2 ^ s * 2 ^ (64 - s) := Nat.mul_le_mul_left _ h1
    rw [Nat.mul_add, ← hsplit] at h2
    omega
  refine ⟨y + x * 2 ^ s % B64, x / 2 ^ (64 - s), hlt, ?_, ?_, ?_, ?_⟩
  · rw [Nat.div_lt_iff_lt_mul hp2, ← hsplit]; exact hx
  · show _ + B64 * _ = _
    rw [← hq]
    have := Nat.div_add_mod (x * 2 ^ s) B64
    omega
  · have e : IntKind.u64.wrap ((x : Int) * 2 ^ s) = ((x * 2 ^ s % B64 : Nat) : Int) := by
      rw [IntKind.wrap_u64]
      have : (x : Int) * 2 ^ s = ((x * 2 ^ s : Nat) : Int) := by simp [Int.natCast_mul, Int.natCast_pow]
      rw [this, B64_eq]
      omega
    have hyB : y < 18446744073709551616 := by have := hlt; rw [B64_eq] at this; omega
    have hmB : x * 2 ^ s % B64 < 18446744073709551616 := Nat.mod_lt _ (by omega)
    rw [e, bits_or_u64_nat _ _ hyB hmB, hor]
  · have : ((2 : Int) ^ (64 - s)) = ((2 ^ (64 - s) : Nat) : Int) := by simp [Int.natCast_pow]
    rw [this]
    exact (Int.natCast_ediv _ _).symm

theorem seg_set_out (M : List Nat) (o n i x : Nat) (h : i < o ∨ o + n ≤ i) : seg (M.set i x) o n = seg M o n :=
  seg_congr _ _ _ _ (by rw [List.length_set]) (fun t _ ht => getD_set_ne _ _ _ _ (by omega))

theorem shift_step {M : List Nat} {o k x y z q s : Nat} (hk : o + k + 1 < M.length) (hy : M.getD (o + k) 0 = y) (hz : z + B64 * q = y + x * 2 ^ s) (X : Nat) (hinv : val (seg M o (k + 1)) = X) :
    val (seg ((M.set (o + k) z).set (o + (k + 1)) q) o (k + 2)) = X + B64 ^ k * (x * 2 ^ s) := by
  rw [val_seg_succ _ o (k + 1) (by rw [List.length_set, List.length_set]; omega), getD_set_eq _ _ _ (by rw [List.length_set]; omega), seg_set_out _ _ _ _ _ (by omega)]
  rw [val_seg_succ _ o k (by rw [List.length_set]; omega), getD_set_eq _ _ _ (by omega), seg_set_out _ _ _ _ _ (by omega)]
  rw [val_seg_succ M o k (by omega), hy] at hinv
  rw [pow_split]
  have e : B64 ^ k * (z + B64 * q) = B64 ^ k * (y + x * 2 ^ s) := by rw [hz]
  rw [Nat.mul_add, Nat.mul_add] at e
  omega

set_option maxHeartbeats 400000 in
set_option maxRecDepth 100000 in
theorem shiftInto_any (b o N c : Nat) (ao : Option Addr) (n c2 s : Nat) (la L : List Nat) (w : World) (hm : la.length = n) (hr : Row w b L) (hs : Seg w ao la) (hne : ∀ a, ao = some a → a.block ≠ b)
    (hd : Dig L) (hda : Dig la) (hs63 : s ≤ 63) (hL0 : L.getD o 0 = 0) (hn : o + N ≤ L.length) (hN : n + 1 ≤ N) (hlen : L.length ≤ maxLen) (_hc : N ≤ c) (_hc2 : n ≤ c2) :
    Calls Tryz.prog 105 #[.slice (some ⟨b, o, none⟩) N c, .slice ao n c2, .int .u64 s] w fun e w' =>
      ∃ M : List Nat, e = .returned (.tuple #[]) ∧ Row w' b M ∧ Dig M ∧ Turned L M o (n + 1) ∧ Only b w w' ∧ Hid (val (seg M o (n + 1)) = val la * 2 ^ s) := by
  unfold maxLen at hlen
  have Hm : Hid (la.length = n) := hm
  have HL0 : Hid (L.getD o 0 = 0) := hL0
  have h64 : (0 : Int) ≤ 64 - (s : Int) := by omega
  clear hm hL0
  go_enter Tryz.func105, Tryz.ntmps105
  go_wp2
  go_loopw [10] (fun i wr => ∃ (k : Nat) (M : List Nat), k ≤ n ∧ i = .int .i64 k ∧ Row wr b M ∧ Dig M ∧ Turned L M o (k + 1) ∧ Only b w wr ∧ M.getD (o + k) 0 < 2 ^ s ∧ val (seg M o (k + 1)) = val (la.take k) * 2 ^ s)
    (fun i _ => n - (intOf i).toNat)
  case atStart => exact ⟨0, L, Nat.zero_le _, rfl, hr, hd, Turned.refl _ _ _, Only.refl _ _, by rw [Nat.add_zero, HL0.out]; exact Nat.pow_pos (by omega), by
    rw [val_seg_succ L o 0 (by omega), Nat.add_zero, HL0.out, seg_zero]; simp [val]⟩
  case round =>
    obtain ⟨k, M, hk, rfl, hrM, hdM, hT, hO, hlow, hinv⟩ := hrel
    have Hinv : Hid (val (seg M o (k + 1)) = val (la.take k) * 2 ^ s) := hinv
    clear hinv
    have hML : M.length = L.length := hT.1
    by_cases hlt : k < n
    · have hsr := hs.only hO hne
      rcases hsr with ⟨_, rfl⟩ | ⟨g, o2, rfl, hg, hcell⟩
      · have := Hm.out; simp at this; omega
      · have hcl := hcell k (by rw [Hm.out]; exact hlt)
        have hcM := hrM.cell (o + k) (by omega)
        have hfz := hrM.frozen (o + k)
        have hcM2 := hrM.cell (o + (k + 1)) (by omega)
        have hfz2 := hrM.frozen (o + (k + 1))
        have hdig := hda.getD k
        obtain ⟨x, hx⟩ : ∃ d, la.getD k 0 = d := ⟨_, rfl⟩
        obtain ⟨y, hy⟩ : ∃ y, M.getD (o + k) 0 = y := ⟨_, rfl⟩
        obtain ⟨y2, hy2⟩ : ∃ y, M.getD (o + (k + 1)) 0 = y := ⟨_, rfl⟩
        rw [hx] at hcl hdig
        rw [hy] at hcM hlow
        rw [hy2] at hcM2
        have Hx : Hid (la.getD k 0 = x) := hx
        have Hy : Hid (M.getD (o + k) 0 = y) := hy
        have HML : Hid (M.length = L.length) := hML
        obtain ⟨z, q, hz, hq, Hz, hor, hshr⟩ := shl_ex x y s hdig hs63 hlow
        clear hx hy hcell hML hy2 hlow
        go_wp2
        have hML := HML.out
        have hstep := shift_step (by omega) Hy.out Hz.out _ Hinv.out
        go_roundw
        case rel => exact ⟨k + 1, (M.set (o + k) z).set (o + (k + 1)) q, by omega, by go_num, (hrM.set _ _).set _ _, (hdM.set _ _ hz).set _ _ (Nat.lt_of_lt_of_le hq (by rw [B64_pow]; exact Nat.pow_le_pow_right (by omega) (by omega))), ⟨by rw [List.length_set, List.length_set]; exact hML, fun t ht => by rw [getD_set_ne _ _ _ _ (by omega), getD_set_ne _ _ _ _ (by omega)]; exact hT.2 t (by omega)⟩, (hO.setCell _ _).setCell _ _, by rw [getD_set_eq _ _ _ (by rw [List.length_set]; omega)]; exact hq, by
          rw [show k + 1 + 1 = k + 2 from rfl, hstep, val_take_succ la k (by rw [Hm.out]; exact hlt), Hx.out, Nat.add_mul, Nat.mul_assoc]⟩
        case measure => simp [intOf]; omega
    · obtain rfl : k = n := by omega
      clear hlow hML
      go_wp2
      go_end0
      exact ⟨M, rfl, hrM, hdM, hT, hO, by rw [← val_take_all la, Hm.out]; exact Hinv.out⟩

end Go.Proofs.YtdiojbgbeeojkaaGreatDoor

/-
  shiftUp and shiftDown: words times and over a power of two.
-/
namespace Go.Proofs.YtdiojbgbeeojkaaGreatDoor
open Go.RowKit

theorem val_zeros_ahead (L M : List Nat) (sk n : Nat) (hL : L = List.replicate (sk + n) 0) (hT : Turned L M sk n) : val M = B64 ^ sk * val (seg M sk n) := by
  have hl : M.length = sk + n := by rw [hT.1, hL]; simp
  have e1 := val_seg_split M 0 sk (sk + n) (by omega) (by omega)
  rw [show seg M 0 (sk + n) = M from by rw [← hl]; exact seg_all M] at e1
  have e2 : seg M 0 sk = seg L 0 sk := seg_congr _ _ _ _ hT.1 (fun t _ ht => hT.2 t (by omega))
  have e3 : seg L 0 sk = List.replicate sk 0 := by rw [hL]; simp [seg]
  rw [e1, e2, e3, val_replicate, Nat.zero_add, Nat.zero_add]
  congr 3
  omega

set_option maxHeartbeats 400000 in
set_option maxRecDepth 100000 in
theorem shiftUp_any (ao : Option Addr) (la : List Nat) (n c sh : Nat) (w : World) (hn : la.length = n) (h1 : Seg w ao la) (d1 : Dig la) (hc : n ≤ c) (hm : n ≤ 1073741824) (hsh : sh ≤ 1073741824) :
    Calls Tryz.prog 92 #[.slice ao n c, .int .u64 sh] w fun e w' => ∃ v, e = .returned v ∧ Num w' v (val la * 2 ^ sh) ∧ Ext w w' := by
  have Hn : Hid (la.length = n) := hn
  obtain ⟨sk, hsk⟩ : ∃ sk, sh / 64 = sk := ⟨_, rfl⟩
  obtain ⟨by', hby⟩ : ∃ r, sh % 64 = r := ⟨_, rfl⟩
  have hq : (sh : Int) / 64 = (sk : Int) := by omega
  have hr : (sh : Int) % 64 = (by' : Int) := by omega
  have hskb : sk ≤ 1073741824 := by omega
  have hbyb : by' ≤ 63 := by omega
  have Hsh : Hid (sh = 64 * sk + by') := by show _ = _; omega
  clear hn hsk hby
  go_enter Tryz.func92, Tryz.ntmps92
  go_wp2_with (at_make; refine wpList_make_row _ rfl _ _ rfl _ _ _ _ (sk + (n + 1)) rfl rfl (by omega) (by omega) (by omega) ?_; intro w1 hr1 he1 hz1)
  refine (shiftInto_any w.heap.size sk (n + 1) (n + 1) ao n c by' la (List.replicate (sk + (n + 1)) 0) w1 Hn.out hr1 (h1.ext he1) (h1.block_ne (Nat.le_refl _)) (Dig.replicate _) d1 hbyb (by simp) (by simp) (Nat.le_refl _) (by simp; unfold maxLen; omega) (Nat.le_refl _) hc).mono ?_
  rintro e w2 ⟨M, rfl, hr2, hd2, hT2, ho2, Hv⟩
  have hML : M.length = sk + (n + 1) := by rw [hT2.1]; simp
  have HML : Hid (M.length = sk + (n + 1)) := hML
  have HV : Hid (val M = val la * 2 ^ sh) := by
    show val M = _
    rw [val_zeros_ahead _ M sk (n + 1) rfl hT2, Hv.out, Hsh.out, B64_pow, ← Nat.pow_mul, Nat.pow_add, Nat.mul_left_comm]
  have hs3 := hr2.segAll
  clear hML
  go_wp2_with fail
  refine (trim_n _ M _ _ _ HML.out (Nat.le_refl _) (by unfold maxLen; omega) hs3).mono ?_
  rintro e w4 ⟨rfl, rfl⟩
  go_wp2_with fail
  go_ret
  exact ⟨_, rfl, (num_trim hs3 hd2 (by rw [HML.out]; unfold maxLen; omega)).cast HV.out, he1.only ho2 (Nat.le_refl _)⟩

/-- What comes down from the next word: as the walk spells it. -/
theorem shr_ex (x y s : Nat) (hx : x < B64) (hs : s ≤ 63) (hy : y < 2 ^ (64 - s)) : ∃ z q r : Nat, z < B64 ∧ q < 2 ^ (64 - s) ∧ r < 2 ^ s ∧ Hid (x = 2 ^ s * q + r) ∧ Hid (z = y + r * 2 ^ (64 - s)) ∧
    bits .or .u64 (y : Int) (IntKind.u64.wrap ((x : Int) * 2 ^ (64 - s))) = (z : Int) ∧ (x : Int) / 2 ^ s = (q : Int) := by
  have hsplit : B64 = 2 ^ (64 - s) * 2 ^ s := by rw [← Nat.pow_add, B64_pow]; congr 1; omega
  have hp : 0 < 2 ^ s := Nat.pow_pos (by omega)
  have hp2 : 0 < 2 ^ (64 - s) := Nat.pow_pos (by omega)
  have hm : x * 2 ^ (64 - s) % B64 = 2 ^ (64 - s) * (x % 2 ^ s) := by
    rw [hsplit, Nat.mul_comm x, Nat.mul_mod_mul_left]
  have hor : y ||| x * 2 ^ (64 - s) % B64 = y + x * 2 ^ (64 - s) % B64 := by
    rw [hm, Nat.or_comm, ← Nat.two_pow_add_eq_or_of_lt hy, Nat.add_comm]
  have hlt : y + x * 2 ^ (64 - s) % B64 < B64 := by
    rw [hm]
    have h1 : x % 2 ^ s < 2 ^ s := Nat.mod_lt _ hp
    have h2 : 2 ^ (64 - s) * (x % 2 ^ s + 1) ≤ 2 ^ (64 - s) * 2 ^ s := Nat.mul_le_mul_left _ h1
    rw [Nat.mul_add, ← hsplit] at h2
    omega
  refine ⟨y + x * 2 ^ (64 - s) % B64, x / 2 ^ s, x % 2 ^ s, hlt, ?_, Nat.mod_lt _ hp, ?_, ?_, ?_, ?_⟩
  · rw [Nat.div_lt_iff_lt_mul hp, ← hsplit]; exact hx
  · exact (Nat.div_add_mod x (2 ^ s)).symm
  · show _ = _
    rw [hm, Nat.mul_comm]
  · have e : IntKind.u64.wrap ((x : Int) * 2 ^ (64 - s)) = ((x * 2 ^ (64 - s) % B64 : Nat) : Int) := by
      rw [IntKind.wrap_u64]
      have : (x : Int) * 2 ^ (64 - s) = ((x * 2 ^ (64 - s) : Nat) : Int) := by simp [Int.natCast_mul, Int.natCast_pow]
      rw [this, B64_eq]
      omega
    have hyB : y < 18446744073709551616 := by have := hlt; rw [B64_eq] at this; omega
    have hmB : x * 2 ^ (64 - s) % B64 < 18446744073709551616 := Nat.mod_lt _ (by omega)
    rw [e, bits_or_u64_nat _ _ hyB hmB, hor]
  · have : ((2 : Int) ^ s) = ((2 ^ s : Nat) : Int) := by simp [Int.natCast_pow]
    rw [this]
    exact (Int.natCast_ediv _ _).symm

/-- One word more, from below: what is left over stays. -/
theorem down_step {M : List Nat} {k x y z q r s V R : Nat} (hs : s ≤ 63) (hk : k + 1 < M.length) (hy : M.getD k 0 = y) (hx : x = 2 ^ s * q + r) (hz : z = y + r * 2 ^ (64 - s)) (hinv : V = 2 ^ s * val (seg M 0 (k + 1)) + R) :
    V + B64 ^ (k + 1) * x = 2 ^ s * val (seg ((M.set (k + 1) q).set k z) 0 (k + 1 + 1)) + R := by
  have hsplit : B64 = 2 ^ s * 2 ^ (64 - s) := by rw [← Nat.pow_add, B64_pow]; congr 1; omega
  have e0 : val (seg ((M.set (k + 1) q).set k z) 0 (k + 1 + 1)) = val (seg M 0 k) + B64 ^ k * z + B64 ^ (k + 1) * q := by
    rw [val_seg_succ _ 0 (k + 1) (by rw [List.length_set, List.length_set]; omega), Nat.zero_add, getD_set_ne _ _ _ _ (by omega), getD_set_eq _ _ _ (by omega)]
    rw [val_seg_succ _ 0 k (by rw [List.length_set, List.length_set]; omega), Nat.zero_add, getD_set_eq _ _ _ (by rw [List.length_set]; omega)]
    rw [seg_set_out _ _ _ _ _ (by omega), seg_set_out _ _ _ _ _ (by omega)]
  rw [val_seg_succ M 0 k (by omega), Nat.zero_add, hy] at hinv
  rw [e0, hinv, hz, hx]
  have e1 : 2 ^ s * (B64 ^ k * (r * 2 ^ (64 - s))) = B64 ^ (k + 1) * r := by
    have e : 2 ^ s * (B64 ^ k * (r * 2 ^ (64 - s))) = B64 ^ k * (2 ^ s * 2 ^ (64 - s)) * r := by
      generalize 2 ^ s = p
      generalize 2 ^ (64 - s) = p'
      generalize B64 ^ k = bk
      ac_rfl
    rw [e, ← hsplit, Nat.pow_succ]
  simp only [Nat.mul_add, e1]
  have e2 : B64 ^ (k + 1) * (2 ^ s * q) = 2 ^ s * (B64 ^ (k + 1) * q) := Nat.mul_left_comm _ _ _
  omega

theorem shiftDown_val (la : List Nat) (sk by' sh R V : Nat) (hsk : sk ≤ la.length) (hsh : sh = 64 * sk + by') (dl : Dig la) (hinv : val (la.drop sk) = 2 ^ by' * V + R) (hR : R < 2 ^ by') : V = val la / 2 ^ sh := by
  have hp : 0 < 2 ^ by' := Nat.pow_pos (by omega)
  have e : 2 ^ sh = B64 ^ sk * 2 ^ by' := by rw [hsh, B64_pow, ← Nat.pow_mul, Nat.pow_add]
  rw [e, ← Nat.div_div_eq_div_mul, val_drop_take la sk hsk, Nat.add_mul_div_left _ _ (Nat.pow_pos B64_pos)]
  have h := val_lt (dl.take sk)
  rw [List.length_take, Nat.min_eq_left hsk] at h
  rw [Nat.div_eq_of_lt h, Nat.zero_add, hinv, Nat.mul_add_div hp, Nat.div_eq_of_lt hR, Nat.add_zero]

theorem drop_getD (la : List Nat) (sk t : Nat) : (la.drop sk).getD t 0 = la.getD (sk + t) 0 := by
  rw [List.getD_eq_getElem?_getD, List.getD_eq_getElem?_getD, List.getElem?_drop]

theorem Num.nil (w : World) : Num w (.slice none 0 0) 0 := ⟨none, [], 0, rfl, Nat.le_refl _, Nat.zero_le _, Or.inl ⟨rfl, rfl⟩, Dig.nil, Nrm.nil, rfl⟩

set_option maxHeartbeats 400000 in
set_option maxRecDepth 100000 in
theorem shiftDown_any (ao : Option Addr) (la : List Nat) (n c sh : Nat) (w : World) (hn : la.length = n) (h1 : Seg w ao la) (d1 : Dig la) (hc : n ≤ c) (_hcm : c ≤ maxLen) (hm : n ≤ 1073741824) (hsh : sh ≤ 1073741824) :
    Calls Tryz.prog 91 #[.slice ao n c, .int .u64 sh] w fun e w' => ∃ v, e = .returned v ∧ Num w' v (val la / 2 ^ sh) ∧ Ext w w' := by
  unfold maxLen at _hcm
  have Hn : Hid (la.length = n) := hn
  obtain ⟨sk, hsk⟩ : ∃ sk, sh / 64 = sk := ⟨_, rfl⟩
  obtain ⟨by', hby⟩ : ∃ r, sh % 64 = r := ⟨_, rfl⟩
  have hq : (sh : Int) / 64 = (sk : Int) := by omega
  have hr : (sh : Int) % 64 = (by' : Int) := by omega
  have hskb : sk ≤ 1073741824 := by omega
  have hbyb : by' ≤ 63 := by omega
  have Hsh : Hid (sh = 64 * sk + by') := by show _ = _; omega
  have h64 : (0 : Int) ≤ 64 - (by' : Int) := by omega
  clear hn hsk hby
  by_cases hlt : sk < n
  · obtain ⟨m, rfl⟩ : ∃ m, n = sk + m := ⟨n - sk, by omega⟩
    have h1k := h1
    rcases h1 with ⟨_, rfl⟩ | ⟨g, o, rfl, hg, hcell⟩
    · have := Hn.out; simp at this; omega
    have Hcell : Hid (∀ t, t < la.length → w.cell? ⟨g, o + t, none⟩ = some (.int .u64 (la.getD t 0 : Nat))) := hcell
    clear hcell
    go_enter Tryz.func91, Tryz.ntmps91
    go_wp2_with (at_make; refine wpList_make_row _ rfl _ _ rfl _ _ _ _ m rfl rfl (by omega) (by omega) (by omega) ?_; intro w1 hr1 he1 hz1)
    go_loopw [28] (fun i wr => ∃ (k : Nat) (M : List Nat), k ≤ m ∧ i = .int .i64 k ∧ Row wr w.heap.size M ∧ Dig M ∧ M.length = m ∧ Only w.heap.size w1 wr ∧ (0 < k → M.getD (k - 1) 0 < 2 ^ (64 - by')) ∧ ∃ R, R < 2 ^ by' ∧ val ((la.drop sk).take k) = 2 ^ by' * val (seg M 0 k) + R)
      (fun i _ => m - (intOf i).toNat)
    case atStart => exact ⟨0, _, Nat.zero_le _, rfl, hr1, Dig.replicate _, by simp, Only.refl _ _, fun h => absurd h (by omega), 0, Nat.pow_pos (by omega), by simp [seg_zero, val]⟩
    case round =>
      obtain ⟨k, M, hk, rfl, hrM, hdM, hML, hO, hlow, R, hR, hinv⟩ := hrel
      have Hinv : Hid (val ((la.drop sk).take k) = 2 ^ by' * val (seg M 0 k) + R) := hinv
      have HML : Hid (M.length = m) := hML
      by_cases hlt2 : k < m
      · have hcl : wr.cell? ⟨g, o + sk + k, none⟩ = some (.int .u64 (la.getD (sk + k) 0 : Nat)) := by
          have e := Hcell.out (sk + k) (by rw [Hn.out]; omega)
          rw [← Nat.add_assoc] at e
          rw [World.cell?_of_block (a := ⟨g, o + sk + k, none⟩) (hO.block g (by omega))]
          exact (he1.cell (p := ⟨g, o + sk + k, none⟩) hg).trans e
        have hdig := d1.getD (sk + k)
        obtain ⟨x, hx⟩ : ∃ d, la.getD (sk + k) 0 = d := ⟨_, rfl⟩
        rw [hx] at hcl hdig
        have Hx : Hid (la.getD (sk + k) 0 = x) := hx
        have hcM := hrM.cell k (by omega)
        have hfz := hrM.frozen k
        obtain ⟨y2, hy2⟩ : ∃ y, M.getD k 0 = y := ⟨_, rfl⟩
        rw [hy2] at hcM
        have hsucc : val ((la.drop sk).take (k + 1)) = val ((la.drop sk).take k) + B64 ^ k * x := by
          rw [val_take_succ _ k (by rw [List.length_drop, Hn.out]; omega), drop_getD, hx]
        have Hsucc : Hid (val ((la.drop sk).take (k + 1)) = val ((la.drop sk).take k) + B64 ^ k * x) := hsucc
        clear hx hinv hML hy2 hsucc
        by_cases hk0 : k = 0
        · subst hk0
          clear hlow
          obtain ⟨z, q, r, hz, hq2, hr2, Hx2, Hz, hor, hshr⟩ := shr_ex x 0 by' hdig hbyb (Nat.pow_pos (by omega))
          clear hor
          rw [Nat.add_zero] at hcl
          go_wp2
          have hML := HML.out
          go_roundw
          case rel => exact ⟨0 + 1, M.set 0 q, by omega, by go_num, hrM.set _ _, hdM.set _ _ (Nat.lt_of_lt_of_le hq2 (by rw [B64_pow]; exact Nat.pow_le_pow_right (by omega) (by omega))), by rw [List.length_set]; exact hML, hO.setCell _ _, fun _ => by rw [getD_set_eq _ _ _ (by omega)]; exact hq2, r, hr2, by
            rw [Hsucc.out, val_seg_succ _ 0 0 (by rw [List.length_set]; omega), seg_zero, getD_set_eq _ _ _ (by omega), Hx2.out]; simp [val]⟩
          case measure => simp [intOf]; omega
        · obtain ⟨j, rfl⟩ : ∃ j, k = j + 1 := ⟨k - 1, by omega⟩
          have hlow' := hlow (by omega)
          rw [Nat.add_sub_cancel] at hlow'
          have hcj := hrM.cell j (by rw [HML.out]; omega)
          have hfj := hrM.frozen j
          obtain ⟨y, hy⟩ : ∃ y, M.getD j 0 = y := ⟨_, rfl⟩
          rw [hy] at hcj hlow'
          have Hy : Hid (M.getD j 0 = y) := hy
          obtain ⟨z, q, r, hz, hq2, hr2, Hx2, Hz, hor, hshr⟩ := shr_ex x y by' hdig hbyb hlow'
          clear hlow hlow' hy hk0
          go_wp2
          have hML := HML.out
          have hstep := down_step hbyb (by omega) Hy.out Hx2.out Hz.out Hinv.out
          go_roundw
          case rel => exact ⟨j + 1 + 1, (M.set (j + 1) q).set j z, by omega, by go_num, (hrM.set _ _).set _ _, (hdM.set _ _ (Nat.lt_of_lt_of_le hq2 (by rw [B64_pow]; exact Nat.pow_le_pow_right (by omega) (by omega)))).set _ _ hz, by rw [List.length_set, List.length_set]; exact hML, (hO.setCell _ _).setCell _ _, fun _ => by rw [Nat.add_sub_cancel, getD_set_ne _ _ _ _ (by omega), getD_set_eq _ _ _ (by omega)]; exact hq2, R, hR, by
            rw [Hsucc.out]; exact hstep⟩
          case measure => simp [intOf]; omega
      · obtain rfl : k = m := by omega
        have HV : Hid (val M = val la / 2 ^ sh) := by
          show val M = _
          refine shiftDown_val la sk by' sh R (val M) (by rw [Hn.out]; omega) Hsh.out d1 ?_ hR
          have e1 : (la.drop sk).take k = la.drop sk := List.take_of_length_le (by rw [List.length_drop, Hn.out]; omega)
          have e2 : seg M 0 k = M := by rw [← hML]; exact seg_all M
          rw [e1, e2] at hinv
          exact hinv
        have hs3 := hrM.segAll
        clear hinv hML hlow
        go_wp2_with fail
        refine (trim_n _ M _ _ _ HML.out (Nat.le_refl _) (by unfold maxLen; omega) hs3).mono ?_
        rintro e w4 ⟨rfl, rfl⟩
        go_wp2_with fail
        go_ret
        exact ⟨_, rfl, (num_trim hs3 hdM (by rw [HML.out]; unfold maxLen; omega)).cast HV.out, he1.only hO (Nat.le_refl _)⟩
  · have HV : Hid (0 = val la / 2 ^ sh) := by
      show _ = _
      symm
      apply Nat.div_eq_of_lt
      refine Nat.lt_of_lt_of_le (val_lt d1) ?_
      rw [Hn.out, Hsh.out, B64_pow, ← Nat.pow_mul]
      exact Nat.pow_le_pow_right (by omega) (by omega)
    go_enter Tryz.func91, Tryz.ntmps91
    go_wp2_with fail
    go_ret
    exact ⟨_, rfl, (Num.nil _).cast HV.out, Ext.refl _⟩

end Go.Proofs.YtdiojbgbeeojkaaGreatDoor
