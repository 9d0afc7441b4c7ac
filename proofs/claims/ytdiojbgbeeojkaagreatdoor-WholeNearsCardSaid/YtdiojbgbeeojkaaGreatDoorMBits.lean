/-
  math/bits: Add64, Sub64, Mul64 by what they answer.
-/
import Derived.Test.YtdiojbgbeeojkaaGreatDoorMBase
import Derived.Test.YtdiojbgbeeojkaaGreatDoorRows
import Derived.Test.YtdiojbgbeeojkaaGreatDoorShelf

namespace Go.Proofs.YtdiojbgbeeojkaaGreatDoor
open Go.RowKit

/-- A sum with carry, its parts under names: to be laid ahead of the walk. -/
theorem add64_ex (x y c : Nat) (hx : x < B64) (hy : y < B64) (hc : c ≤ 1) : ∃ s d : Nat, s ≤ 18446744073709551615 ∧ d ≤ 1 ∧ Hid (s + B64 * d = x + y + c) ∧
    ∀ w : World, (callFunc 104 #[.int .u64 x, .int .u64 y, .int .u64 c]).run Tryz.prog w = .ok (.value (.tuple #[.int .u64 (s : Nat), .int .u64 (d : Nat)])) w := by
  unfold B64 at hx hy
  refine ⟨_, _, ?_, ?_, ?_, fun w => Tryz.bits_Add64 x y c hc w⟩
  · omega
  · omega
  · show _ + B64 * _ = _
    unfold B64; omega
theorem add64_ex0 (x y : Nat) (hx : x < B64) (hy : y < B64) : ∃ s d : Nat, s ≤ 18446744073709551615 ∧ d ≤ 1 ∧ Hid (s + B64 * d = x + y) ∧
    ∀ w : World, (callFunc 104 #[.int .u64 x, .int .u64 y, .int .u64 0]).run Tryz.prog w = .ok (.value (.tuple #[.int .u64 (s : Nat), .int .u64 (d : Nat)])) w := add64_ex x y 0 hx hy (Nat.zero_le _)
theorem add64_ex0y (x c : Nat) (hx : x < B64) (hc : c ≤ 1) : ∃ s d : Nat, s ≤ 18446744073709551615 ∧ d ≤ 1 ∧ Hid (s + B64 * d = x + c) ∧
    ∀ w : World, (callFunc 104 #[.int .u64 x, .int .u64 0, .int .u64 c]).run Tryz.prog w = .ok (.value (.tuple #[.int .u64 (s : Nat), .int .u64 (d : Nat)])) w := add64_ex x 0 c hx B64_pos hc
theorem sub64_ex (x y c : Nat) (hx : x < B64) (hy : y < B64) (hc : c ≤ 1) : ∃ s d : Nat, s ≤ 18446744073709551615 ∧ d ≤ 1 ∧ Hid (s + y + c = x + B64 * d) ∧
    ∀ w : World, (callFunc 117 #[.int .u64 x, .int .u64 y, .int .u64 c]).run Tryz.prog w = .ok (.value (.tuple #[.int .u64 (s : Nat), .int .u64 (d : Nat)])) w := by
  unfold B64 at hx hy
  refine ⟨_, _, ?_, ?_, ?_, fun w => Tryz.bits_Sub64 x y c hc w⟩
  · omega
  · split <;> omega
  · show _ + _ + _ = _ + B64 * _
    unfold B64; split <;> omega
theorem sub64_ex0 (x y : Nat) (hx : x < B64) (hy : y < B64) : ∃ s d : Nat, s ≤ 18446744073709551615 ∧ d ≤ 1 ∧ Hid (s + y = x + B64 * d) ∧
    ∀ w : World, (callFunc 117 #[.int .u64 x, .int .u64 y, .int .u64 0]).run Tryz.prog w = .ok (.value (.tuple #[.int .u64 (s : Nat), .int .u64 (d : Nat)])) w := sub64_ex x y 0 hx hy (Nat.zero_le _)
theorem sub64_ex0y (x c : Nat) (hx : x < B64) (hc : c ≤ 1) : ∃ s d : Nat, s ≤ 18446744073709551615 ∧ d ≤ 1 ∧ Hid (s + c = x + B64 * d) ∧
    ∀ w : World, (callFunc 117 #[.int .u64 x, .int .u64 0, .int .u64 c]).run Tryz.prog w = .ok (.value (.tuple #[.int .u64 (s : Nat), .int .u64 (d : Nat)])) w := sub64_ex x 0 c hx B64_pos hc

end Go.Proofs.YtdiojbgbeeojkaaGreatDoor

/-
  addProduct: it adds a times a word to the words of sum, in their place, and answers what does not fit.
-/
namespace Go.Proofs.YtdiojbgbeeojkaaGreatDoor
open Go.RowKit

theorem mul64_hl (x y : Nat) (hx : x < B64) (hy : y < B64) (w : World) :
    Calls Tryz.prog 77 #[.int .u64 x, .int .u64 y] w fun e w' => ∃ hi lo : Nat, e = .returned (.tuple #[.int .u64 hi, .int .u64 lo]) ∧ w = w' ∧ hi ≤ 18446744073709551614 ∧ lo ≤ 18446744073709551615 ∧ Hid (lo + B64 * hi = x * y) := by
  refine (Tryz.bits_Mul64 x y hx hy w).mono ?_
  rintro e w' ⟨rfl, rfl⟩
  refine ⟨_, _, rfl, rfl, ?_, ?_, ?_⟩
  · have h : x * y ≤ 18446744073709551615 * 18446744073709551615 := Nat.mul_le_mul (by unfold B64 at hx; omega) (by unfold B64 at hy; omega)
    omega
  · omega
  · show _ + B64 * _ = _
    unfold B64; omega

set_option maxHeartbeats 400000 in
set_option maxRecDepth 100000 in
theorem addProduct_any (b o c : Nat) (ao : Option Addr) (c2 : Nat) (la L : List Nat) (word : Nat) (w : World) (hr : Row w b L) (hs : Seg w ao la) (hne : ∀ a, ao = some a → a.block ≠ b)
    (hd : Dig L) (hda : Dig la) (hword : word < B64) (hn : o + la.length ≤ L.length) (hlen : L.length ≤ maxLen) (hc : la.length ≤ c) (hc2 : la.length ≤ c2) :
    Calls Tryz.prog 87 #[.slice (some ⟨b, o, none⟩) la.length c, .slice ao la.length c2, .int .u64 word] w fun e w' =>
      ∃ (M : List Nat) (over : Nat), e = .returned (.int .u64 over) ∧ over < B64 ∧ Row w' b M ∧ Dig M ∧ Turned L M o la.length ∧ Only b w w' ∧ val (seg M o la.length) + B64 ^ la.length * over = val (seg L o la.length) + val la * word := by
  unfold maxLen at hlen
  have hword' : word ≤ 18446744073709551615 := by unfold B64 at hword; omega
  go_enter Tryz.func87, Tryz.ntmps87
  go_wp2
  go_loopw [7, 15] (fun ov i wr => ∃ (k over : Nat) (M : List Nat), k ≤ la.length ∧ i = .int .i64 k ∧ ov = .int .u64 over ∧ over < B64 ∧ Row wr b M ∧ Dig M ∧ Turned L M o k ∧ Only b w wr ∧ val (seg M o k) + B64 ^ k * over = val (seg L o k) + val (la.take k) * word)
    (fun _ i _ => la.length - (intOf i).toNat)
  case atStart => exact ⟨0, 0, L, Nat.zero_le _, rfl, rfl, B64_pos, hr, hd, Turned.refl _ _ _, Only.refl _ _, by simp [seg_zero, val]⟩
  case round =>
    obtain ⟨k, over, M, hk, rfl, rfl, hov, hrM, hdM, hT, hO, hinv⟩ := hrel
    by_cases hlt : k < la.length
    · have hsr := hs.only hO hne
      rcases hsr with ⟨_, rfl⟩ | ⟨g, o2, rfl, hg, hcell⟩
      · simp at hlt
      · have hcl := hcell k hlt
        have hcM := hrM.cell (o + k) (by rw [hT.1]; omega)
        have hfz := hrM.frozen (o + k)
        have hdig := hda.getD k
        have hyig := hdM.getD (o + k)
        obtain ⟨d, hdd⟩ : ∃ d, la.getD k 0 = d := ⟨_, rfl⟩
        obtain ⟨y, hy⟩ : ∃ y, M.getD (o + k) 0 = y := ⟨_, rfl⟩
        rw [hdd] at hcl hdig
        rw [hy] at hcM hyig
        have Hd : Hid (la.getD k 0 = d) := hdd
        have Hy : Hid (M.getD (o + k) 0 = y) := hy
        have Hinv : Hid (val (seg M o k) + B64 ^ k * over = val (seg L o k) + val (la.take k) * word) := hinv
        have hov' : over ≤ 18446744073709551615 := by unfold B64 at hov; omega
        have hy' : y ≤ 18446744073709551615 := by unfold B64 at hyig; omega
        clear hinv hdd hy hcell
        go_wp2_with fail
        refine (mul64_hl _ _ hdig hword _).mono ?_
        rintro e w' ⟨hi, lo, rfl, rfl, hhi, hlo, Hp⟩
        obtain ⟨s1, c1, hs1, hc1, H1, hrun1⟩ := add64_ex0 lo over (by unfold B64; omega) hov
        obtain ⟨s2, c2', hs2, hc2', H2, hrun2⟩ := add64_ex0 y s1 hyig (by unfold B64; omega)
        have hb2 : hi + c1 + c2' ≤ 18446744073709551615 := by
          have h1 := Hp.out; have h2 := H1.out; have h3 := H2.out
          have h4 : d * word ≤ 18446744073709551615 * 18446744073709551615 := Nat.mul_le_mul (by unfold B64 at hdig; omega) (by unfold B64 at hword; omega)
          unfold B64 at h1 h2 h3
          omega
        go_wp2
        have hstep := addProd_step (x := s2) (over' := hi + c1 + c2') hT hn hlt Hinv.out Hy.out Hd.out (by
          have h1 := Hp.out; have h2 := H1.out; have h3 := H2.out
          rw [← h1, Nat.mul_add, Nat.mul_add]; omega)
        go_roundw
        case rel => exact ⟨k + 1, hi + c1 + c2', M.set (o + k) s2, by omega, by go_num, by go_num, by unfold B64; omega, hrM.set _ _, hdM.set _ _ (by unfold B64; omega), hT.step _, hO.setCell _ _, hstep⟩
        case measure => simp [intOf]; omega
    · obtain rfl : k = la.length := by omega
      go_wp2
      go_ret
      exact ⟨M, over, rfl, hov, hrM, hdM, hT, hO, by rw [hinv, List.take_length]⟩

theorem addProduct_n (b o c : Nat) (ao : Option Addr) (n c2 : Nat) (la L : List Nat) (word : Nat) (w : World) (hm : la.length = n) (hr : Row w b L) (hs : Seg w ao la) (hne : ∀ a, ao = some a → a.block ≠ b)
    (hd : Dig L) (hda : Dig la) (hword : word < B64) (hn : o + n ≤ L.length) (hlen : L.length ≤ maxLen) (hc : n ≤ c) (hc2 : n ≤ c2) :
    Calls Tryz.prog 87 #[.slice (some ⟨b, o, none⟩) n c, .slice ao n c2, .int .u64 word] w fun e w' =>
      ∃ (M : List Nat) (over : Nat), e = .returned (.int .u64 over) ∧ over < B64 ∧ Row w' b M ∧ Dig M ∧ Turned L M o n ∧ Only b w w' ∧ Hid (val (seg M o n) + B64 ^ n * over = val (seg L o n) + val la * word) := by
  subst hm; exact addProduct_any b o c ao c2 la L word w hr hs hne hd hda hword hn hlen hc hc2

end Go.Proofs.YtdiojbgbeeojkaaGreatDoor

/-
  addInto: it adds the words b to the words of sum, in their place, and answers what does not fit.
-/
namespace Go.Proofs.YtdiojbgbeeojkaaGreatDoor
open Go.RowKit

set_option maxHeartbeats 400000 in
set_option maxRecDepth 100000 in
theorem addInto_any (b o n c : Nat) (ao : Option Addr) (c2 : Nat) (lb L : List Nat) (w : World) (hr : Row w b L) (hs : Seg w ao lb) (hne : ∀ a, ao = some a → a.block ≠ b)
    (hd : Dig L) (hdb : Dig lb) (hn : o + n ≤ L.length) (hbn : lb.length ≤ n) (hlen : L.length ≤ maxLen) (hc : n ≤ c) (hc2 : lb.length ≤ c2) :
    Calls Tryz.prog 116 #[.slice (some ⟨b, o, none⟩) n c, .slice ao lb.length c2] w fun e w' =>
      ∃ (M : List Nat) (carry : Nat), e = .returned (.int .u64 carry) ∧ carry ≤ 1 ∧ Row w' b M ∧ Dig M ∧ Turned L M o n ∧ Only b w w' ∧ val (seg M o n) + B64 ^ n * carry = val (seg L o n) + val lb := by
  unfold maxLen at hlen
  go_enter Tryz.func116, Tryz.ntmps116
  go_wp2
  go_loopw [5, 11] (fun cv i wr => ∃ (k carry : Nat) (M : List Nat), k ≤ lb.length ∧ i = .int .i64 k ∧ cv = .int .u64 carry ∧ carry ≤ 1 ∧ Row wr b M ∧ Dig M ∧ Turned L M o k ∧ Only b w wr ∧ val (seg M o k) + B64 ^ k * carry = val (seg L o k) + val (lb.take k))
    (fun _ i _ => lb.length - (intOf i).toNat)
  case atStart => exact ⟨0, 0, L, Nat.zero_le _, rfl, rfl, Nat.zero_le _, hr, hd, Turned.refl _ _ _, Only.refl _ _, by simp [seg_zero, val]⟩
  case round =>
    obtain ⟨k, carry, M, hk, rfl, rfl, hca, hrM, hdM, hT, hO, hinv⟩ := hrel
    by_cases hlt : k < lb.length
    · have hsr := hs.only hO hne
      rcases hsr with ⟨_, rfl⟩ | ⟨g, o2, rfl, hg, hcell⟩
      · simp at hlt
      · have hcl := hcell k hlt
        have hcM := hrM.cell (o + k) (by rw [hT.1]; omega)
        have hfz := hrM.frozen (o + k)
        have hdig := hdb.getD k
        have hyig := hdM.getD (o + k)
        obtain ⟨d, hdd⟩ : ∃ d, lb.getD k 0 = d := ⟨_, rfl⟩
        obtain ⟨y, hy⟩ : ∃ y, M.getD (o + k) 0 = y := ⟨_, rfl⟩
        rw [hdd] at hcl hdig
        rw [hy] at hcM hyig
        have Hd : Hid (lb.getD k 0 = d) := hdd
        have Hy : Hid (M.getD (o + k) 0 = y) := hy
        have Hinv : Hid (val (seg M o k) + B64 ^ k * carry = val (seg L o k) + val (lb.take k)) := hinv
        clear hinv hdd hy hcell
        obtain ⟨s1, c1, hs1, hc1, H1, hrun1⟩ := add64_ex y d carry hyig hdig hca
        go_wp2
        have hstep := carry_step (x := s1) (c' := c1) (z := y + d) hT (by omega) Hinv.out H1.out
        have hL : L.getD (o + k) 0 = y := by rw [← hT.2 (o + k) (by omega)]; exact Hy.out
        go_roundw
        case rel => exact ⟨k + 1, c1, M.set (o + k) s1, by omega, by go_num, rfl, hc1, hrM.set _ _, hdM.set _ _ (by unfold B64; omega), hT.step _, hO.setCell _ _, by
          rw [hstep, val_seg_succ L o k (by omega), val_take_succ lb k hlt, Hd.out, hL, Nat.mul_add]; omega⟩
        case measure => simp [intOf]; omega
    · obtain rfl : k = lb.length := by omega
      rw [val_take_all] at hinv
      have Hinv : Hid (val (seg M o lb.length) + B64 ^ lb.length * carry = val (seg L o lb.length) + val lb) := hinv
      clear hinv
      go_wp2
      go_loopw [5, 8] (fun cv i wx => ∃ (j carry : Nat) (M : List Nat), lb.length ≤ j ∧ j ≤ n ∧ i = .int .i64 j ∧ cv = .int .u64 carry ∧ carry ≤ 1 ∧ Row wx b M ∧ Dig M ∧ Turned L M o j ∧ Only b w wx ∧ val (seg M o j) + B64 ^ j * carry = val (seg L o j) + val lb)
        (fun _ i _ => n - (intOf i).toNat)
      case atStart => exact ⟨lb.length, carry, M, Nat.le_refl _, hbn, rfl, rfl, hca, hrM, hdM, hT, hO, Hinv.out⟩
      case round =>
        clear Hinv hrM hdM hT hO hca
        obtain ⟨j, ca, M, hj1, hj2, rfl, rfl, hca, hrM, hdM, hT, hO, hinv⟩ := hrel
        by_cases hlt : j < n
        · by_cases hca0 : ca = 0
          · subst hca0
            have hfin : val (seg M o n) + B64 ^ n * 0 = val (seg L o n) + val lb := by
              rw [val_seg_split M o j n hj2 (by rw [hT.1]; exact hn), val_seg_split L o j n hj2 hn, hT.tail hj2]
              omega
            have Hfin : Hid (val (seg M o n) + B64 ^ n * 0 = val (seg L o n) + val lb) := hfin
            clear hinv hfin
            go_wp2
            go_ret
            exact ⟨M, 0, rfl, Nat.zero_le _, hrM, hdM, hT.mono hj2, hO, Hfin.out⟩
          · have hcM := hrM.cell (o + j) (by rw [hT.1]; omega)
            have hfz := hrM.frozen (o + j)
            have hyig := hdM.getD (o + j)
            obtain ⟨y, hy⟩ : ∃ y, M.getD (o + j) 0 = y := ⟨_, rfl⟩
            rw [hy] at hcM hyig
            have Hy : Hid (M.getD (o + j) 0 = y) := hy
            have Hinv : Hid (val (seg M o j) + B64 ^ j * ca = val (seg L o j) + val lb) := hinv
            have hcab : ((ca : Int) != 0) = true := by rw [bne_iff_ne]; omega
            clear hinv hy hca0
            obtain ⟨s1, c1, hs1, hc1, H1, hrun1⟩ := add64_ex0y y ca hyig hca
            go_wp2
            have hstep := carry_step (x := s1) (c' := c1) (z := y) hT (by omega) Hinv.out H1.out
            have hL : L.getD (o + j) 0 = y := by rw [← hT.2 (o + j) (by omega)]; exact Hy.out
            go_roundw
            case rel => exact ⟨j + 1, c1, M.set (o + j) s1, by omega, by omega, by go_num, rfl, hc1, hrM.set _ _, hdM.set _ _ (by unfold B64; omega), hT.step _, hO.setCell _ _, by
              rw [hstep, val_seg_succ L o j (by omega), hL]; omega⟩
            case measure => simp [intOf]; omega
        · obtain rfl : j = n := by omega
          have Hinv : Hid (val (seg M o j) + B64 ^ j * ca = val (seg L o j) + val lb) := hinv
          clear hinv
          go_wp2
          go_ret
          exact ⟨M, ca, rfl, hca, hrM, hdM, hT, hO, Hinv.out⟩

theorem addInto_n (b o n c : Nat) (ao : Option Addr) (m c2 : Nat) (lb L : List Nat) (w : World) (hm : lb.length = m) (hr : Row w b L) (hs : Seg w ao lb) (hne : ∀ a, ao = some a → a.block ≠ b)
    (hd : Dig L) (hdb : Dig lb) (hn : o + n ≤ L.length) (hbn : m ≤ n) (hlen : L.length ≤ maxLen) (hc : n ≤ c) (hc2 : m ≤ c2) :
    Calls Tryz.prog 116 #[.slice (some ⟨b, o, none⟩) n c, .slice ao m c2] w fun e w' =>
      ∃ (M : List Nat) (carry : Nat), e = .returned (.int .u64 carry) ∧ carry ≤ 1 ∧ Row w' b M ∧ Dig M ∧ Turned L M o n ∧ Only b w w' ∧ Hid (val (seg M o n) + B64 ^ n * carry = val (seg L o n) + val lb) := by
  subst hm; exact addInto_any b o n c ao c2 lb L w hr hs hne hd hdb hn hbn hlen hc hc2

end Go.Proofs.YtdiojbgbeeojkaaGreatDoor

/-
  takeProduct: it takes b times a word from the words of part, in their place, and answers what is still to be taken.
-/
namespace Go.Proofs.YtdiojbgbeeojkaaGreatDoor
open Go.RowKit

set_option maxHeartbeats 400000 in
set_option maxRecDepth 100000 in
theorem takeProduct_any (b o c : Nat) (ao : Option Addr) (c2 : Nat) (la L : List Nat) (word : Nat) (w : World) (hr : Row w b L) (hs : Seg w ao la) (hne : ∀ a, ao = some a → a.block ≠ b)
    (hd : Dig L) (hda : Dig la) (hword : word < B64) (hn : o + la.length ≤ L.length) (hlen : L.length ≤ maxLen) (hc : la.length ≤ c) (hc2 : la.length ≤ c2) :
    Calls Tryz.prog 124 #[.slice (some ⟨b, o, none⟩) la.length c, .slice ao la.length c2, .int .u64 word] w fun e w' =>
      ∃ (M : List Nat) (over : Nat), e = .returned (.int .u64 over) ∧ over < B64 ∧ Row w' b M ∧ Dig M ∧ Turned L M o la.length ∧ Only b w w' ∧ val (seg M o la.length) + val la * word = val (seg L o la.length) + B64 ^ la.length * over := by
  unfold maxLen at hlen
  have hword' : word ≤ 18446744073709551615 := by unfold B64 at hword; omega
  go_enter Tryz.func124, Tryz.ntmps124
  go_wp2
  go_loopw [7, 15] (fun ov i wr => ∃ (k over : Nat) (M : List Nat), k ≤ la.length ∧ i = .int .i64 k ∧ ov = .int .u64 over ∧ over < B64 ∧ Row wr b M ∧ Dig M ∧ Turned L M o k ∧ Only b w wr ∧ val (seg M o k) + val (la.take k) * word = val (seg L o k) + B64 ^ k * over)
    (fun _ i _ => la.length - (intOf i).toNat)
  case atStart => exact ⟨0, 0, L, Nat.zero_le _, rfl, rfl, B64_pos, hr, hd, Turned.refl _ _ _, Only.refl _ _, by simp [seg_zero, val]⟩
  case round =>
    obtain ⟨k, over, M, hk, rfl, rfl, hov, hrM, hdM, hT, hO, hinv⟩ := hrel
    by_cases hlt : k < la.length
    · have hsr := hs.only hO hne
      rcases hsr with ⟨_, rfl⟩ | ⟨g, o2, rfl, hg, hcell⟩
      · simp at hlt
      · have hcl := hcell k hlt
        have hcM := hrM.cell (o + k) (by rw [hT.1]; omega)
        have hfz := hrM.frozen (o + k)
        have hdig := hda.getD k
        have hyig := hdM.getD (o + k)
        obtain ⟨d, hdd⟩ : ∃ d, la.getD k 0 = d := ⟨_, rfl⟩
        obtain ⟨y, hy⟩ : ∃ y, M.getD (o + k) 0 = y := ⟨_, rfl⟩
        rw [hdd] at hcl hdig
        rw [hy] at hcM hyig
        have Hd : Hid (la.getD k 0 = d) := hdd
        have Hy : Hid (M.getD (o + k) 0 = y) := hy
        have Hinv : Hid (val (seg M o k) + val (la.take k) * word = val (seg L o k) + B64 ^ k * over) := hinv
        have hov' : over ≤ 18446744073709551615 := by unfold B64 at hov; omega
        have hy' : y ≤ 18446744073709551615 := by unfold B64 at hyig; omega
        clear hinv hdd hy hcell
        go_wp2_with fail
        refine (mul64_hl _ _ hdig hword _).mono ?_
        rintro e w' ⟨hi, lo, rfl, rfl, hhi, hlo, Hp⟩
        obtain ⟨s1, c1, hs1, hc1, H1, hrun1⟩ := add64_ex0 lo over (by unfold B64; omega) hov
        obtain ⟨s2, c2', hs2, hc2', H2, hrun2⟩ := sub64_ex0 y s1 hyig (by unfold B64; omega)
        have hb2 : hi + c1 + c2' ≤ 18446744073709551615 := by
          have h1 := Hp.out; have h2 := H1.out; have h3 := H2.out
          have h4 : d * word ≤ 18446744073709551615 * 18446744073709551615 := Nat.mul_le_mul (by unfold B64 at hdig; omega) (by unfold B64 at hword; omega)
          unfold B64 at h1 h2 h3
          omega
        go_wp2
        have hstep := borrow_step (x := s2) (c' := hi + c1 + c2') (z := d * word) (y := y) hT (by omega) Hinv.out (by
          have h1 := Hp.out; have h2 := H1.out; have h3 := H2.out
          rw [← h1, Nat.mul_add, Nat.mul_add]; omega)
        have hL : L.getD (o + k) 0 = y := by rw [← hT.2 (o + k) (by omega)]; exact Hy.out
        go_roundw
        case rel => exact ⟨k + 1, hi + c1 + c2', M.set (o + k) s2, by omega, by go_num, by go_num, by unfold B64; omega, hrM.set _ _, hdM.set _ _ (by unfold B64; omega), hT.step _, hO.setCell _ _, by
          rw [← hL, ← val_seg_succ L o k (by omega)] at hstep
          rw [← hstep, val_take_succ la k hlt, Hd.out, Nat.add_mul, Nat.mul_assoc]⟩
        case measure => simp [intOf]; omega
    · obtain rfl : k = la.length := by omega
      go_wp2
      go_ret
      exact ⟨M, over, rfl, hov, hrM, hdM, hT, hO, by rw [← hinv, List.take_length]⟩

theorem takeProduct_n (b o c : Nat) (ao : Option Addr) (n c2 : Nat) (la L : List Nat) (word : Nat) (w : World) (hm : la.length = n) (hr : Row w b L) (hs : Seg w ao la) (hne : ∀ a, ao = some a → a.block ≠ b)
    (hd : Dig L) (hda : Dig la) (hword : word < B64) (hn : o + n ≤ L.length) (hlen : L.length ≤ maxLen) (hc : n ≤ c) (hc2 : n ≤ c2) :
    Calls Tryz.prog 124 #[.slice (some ⟨b, o, none⟩) n c, .slice ao n c2, .int .u64 word] w fun e w' =>
      ∃ (M : List Nat) (over : Nat), e = .returned (.int .u64 over) ∧ over < B64 ∧ Row w' b M ∧ Dig M ∧ Turned L M o n ∧ Only b w w' ∧ Hid (val (seg M o n) + val la * word = val (seg L o n) + B64 ^ n * over) := by
  subst hm; exact takeProduct_any b o c ao c2 la L word w hr hs hne hd hda hword hn hlen hc hc2

end Go.Proofs.YtdiojbgbeeojkaaGreatDoor
