/-
  What basic gates do, in plain numbers: turns of basis states, sums of qubits, qubits joined into a spare one. Nothing of the program stands here. What basic gates do, in plain numbers: qubits joined into a spare one, gates around a turn; what an operation becomes does what the operation does. Nothing of the program stands here. The reference: what an outcome leaves. A state of the reference whose digits lie in a class of blocks: what is written outside the class leaves it as it is; the class may be widened. A state that is older than a block lies outside it.
-/
import Derived.Test.YthgmlhddanbbpaaDoorProg
import Derived.Test.YthgmlhddanbbpaaDoorRows
import Derived.BigQuiet
import Derived.Deep.AppendLies
import Derived.Deep.Cut
import Derived.Deep.CutRange
import Derived.Deep.LoopGhost
import Derived.Deep.MidRow
import Derived.Deep.QuietTactic
import Derived.Deep.RegionHeld3
import Derived.Defers
import Derived.Ground.Names2Prog
import Derived.Laws.AppendOwnNone
import Derived.Laws.Bits64b
import Derived.Laws.Concat
import Derived.Laws.CopyOwn
import Derived.Laws.IdiomCopy
import Derived.Laws.IdiomStrings
import Derived.Laws.ResultCell
import Derived.Laws.Rows
import Derived.Lib.AppendStr
import Derived.Lib.AppendZeros
import Derived.Lib.AppendZerosOnto
import Derived.Lib.BitFns
import Derived.Lib.Hide
import Derived.Lib.ItoaMem
import Derived.Lib.ItoaNum
import Derived.Lib.Strings
import Derived.Lib.TrailingZeros
import Derived.Maps.AppendAt
import Derived.OrdersHeld
import Derived.OwnWalk
import Derived.ProofKit
import Derived.Recover
import Derived.RegionTactic
import Derived.Shelf.Slices.Clone
import Derived.Shelf.Slices.Turned
import Derived.Shelf.Spec.TrailingZeros
import Derived.WalkKit
import Derived.WalkLawsBesides
import Derived.WalkSpells
import Derived.Test.YthgmlhddanbbpaaDoorS00Mem
import Derived.Test.YthgmlhddanbbpaaDoorShelf
import Derived.Test.YthgmlhddanbbpaaDoorS02ZCq
import Derived.Test.YthgmlhddanbbpaaDoorS03Uaq
import Derived.Test.YthgmlhddanbbpaaDoorS04ZXq
import Derived.Test.YthgmlhddanbbpaaDoorS05Xbq
import Derived.Test.YthgmlhddanbbpaaDoorS06Xlq
import Derived.Test.YthgmlhddanbbpaaDoorS07Cn
import Derived.Test.YthgmlhddanbbpaaDoorS08Di
import Derived.Test.YthgmlhddanbbpaaDoorS09Ka
import Derived.Test.YthgmlhddanbbpaaDoorS10Kl
import Derived.Test.YthgmlhddanbbpaaDoorS11Qb
namespace Go.Proofs.YthgmlhddanbbpaaDoor

/-- Each basis state turned by its own number of sixteenths. -/
def dia (f : Nat → Int) (s : Nat → Nm) (x : Nat) : Nm := nTr (f x) (s x)
theorem dia_kp {f : Nat → Int} {s : Nat → Nm} (h : ∀ x, Kpt (s x)) (x : Nat) : Kpt (dia f s x) := (h x).tr _
theorem dia_zero (s : Nat → Nm) : dia (fun _ => 0) s = s := by funext x; exact tr_nil _
theorem dia_dia (f g : Nat → Int) (s : Nat → Nm) : dia f (dia g s) = dia (fun x => g x + f x) s := by
  funext x
  unfold dia
  rw [tr_tr, Int.add_comm]
theorem tr_mulN {x : Nm} (h : Anti x.a) : ∀ n : Nat, nTr (16 * (n : Int)) x = x
  | 0 => tr_nil x
  | n + 1 => by
    rw [show 16 * ((n + 1 : Nat) : Int) = 16 + 16 * (n : Int) by omega, ← tr_tr, tr_mulN h n]
    exact tr_full h
theorem tr_mul {x : Nm} (h : Anti x.a) (m : Int) : nTr (16 * m) x = x := by
  obtain ⟨n, rfl | rfl⟩ := m.eq_nat_or_neg
  · exact tr_mulN h n
  · have h1 : nTr (16 * -(n : Int)) (nTr (16 * (n : Int)) x) = nTr 0 x := by rw [tr_tr]; congr 1; omega
    rw [tr_mulN h n, tr_nil] at h1
    exact h1
theorem tr_mod {x : Nm} (h : Anti x.a) {j k : Int} (e : j % 16 = k % 16) : nTr j x = nTr k x := by
  have h1 : j = k + 16 * ((j - k) / 16) := by omega
  rw [h1, ← tr_tr, tr_mul h]
theorem tr_lw (k : Int) (z : Nm) : nTr k (lw z) = lw (nTr k z) := lw_one ((lw_low z).tr k) ((lw_eq z).tr k)
theorem tr_hf (k : Int) (x y : Nm) : nTr k (nHf (nAdd x y)) = nHf (nAdd (nTr k x) (nTr k y)) := by
  unfold nTr nHf nAdd
  congr 1
  funext j
  simp only [addR, trR]
  rw [show j - k - 2 = j - 2 - k by omega, show j - k - -2 = j - -2 - k by omega]
theorem tr_neg (k : Int) (x : Nm) : nTr k (nNeg x) = nNeg (nTr k x) := rfl

/-- What turns and is free of a gate's qubit may come ahead of it or behind it. -/
theorem dia_gt {o : Gop} {f : Nat → Int} {s : Nat → Nm} (hf : ∀ x, f (fl x o.q) = f x) : dia f (gt o s) = gt o (dia f s) := by
  funext x
  have hx := hf x
  unfold dia gt
  simp only [hx]
  split
  · split
    · rw [tr_tr, tr_tr, Int.add_comm]
    · split
      · split
        · rw [tr_tr, tr_tr, Int.add_comm]
        · rfl
      · split
        · rfl
        · rw [tr_lw, tr_hf]
          split
          · rw [tr_neg]
          · rfl
  · rfl
theorem dia_rnG {f : Nat → Int} : ∀ (ops : List Gop) (s : Nat → Nm), (∀ o ∈ ops, ∀ x, f (fl x o.q) = f x) → dia f (rnG ops s) = rnG ops (dia f s)
  | [], _, _ => rfl
  | o :: r, s, h => by
    have h1 := dia_rnG r (gt o s) (fun p hp => h p (by simp [hp]))
    rw [dia_gt (h o (by simp))] at h1
    exact h1

/-- What operations do where the bits are so: gates whose conditions hold not are left out. -/
noncomputable def efk (bits : List Int) (l : List Gop) (s : Nat → Nm) : Nat → Nm := l.foldl (fun s o => if cnM bits o.cnd then gt o s else s) s
theorem efk_app (bits : List Int) (a b : List Gop) (s : Nat → Nm) : efk bits (a ++ b) s = efk bits b (efk bits a s) := List.foldl_append
theorem efk_nil (bits : List Int) (s : Nat → Nm) : efk bits [] s = s := rfl
theorem efk_cons (bits : List Int) (o : Gop) (r : List Gop) (s : Nat → Nm) : efk bits (o :: r) s = efk bits r (if cnM bits o.cnd then gt o s else s) := rfl
theorem efk_free (bits : List Int) : ∀ (l : List Gop) (s : Nat → Nm), (∀ o ∈ l, o.cnd = []) → efk bits l s = rnG l s
  | [], _, _ => rfl
  | o :: r, s, h => by
    rw [efk_cons, h o (by simp), efk_free bits r _ (fun p hp => h p (by simp [hp]))]
    rfl
/-- By how much a turn with conditions turns. -/
def kEf (bits cnd : List Int) (k : Int) : Int := if cnM bits cnd then k else 0
theorem efk_turn {bits : List Int} {q k : Int} {cnd : List Int} (hk : -16 ≤ k) {s : Nat → Nm} (h : ∀ x, Kpt (s x)) : efk bits [lTurn q k cnd] s = dia (fun x => if bt x q then kEf bits cnd k else 0) s := by
  rw [efk_cons, efk_nil]
  show (if cnM bits cnd = true then gt (lTurn q k cnd) s else s) = _
  unfold kEf
  by_cases hc : cnM bits cnd = true
  · simp only [hc, if_true]
    funext x
    unfold gt lTurn dia
    simp only [ons, List.all_nil, if_true, show ¬ ((4 : Int) = 1) by decide, if_false]
    split
    · refine tr_mod (h x).2 ?_
      rw [Int.tmod_eq_emod_of_nonneg (by omega)]
      omega
    · exact (tr_nil _).symm
  · simp only [hc, Bool.false_eq_true, if_false, ite_self]
    exact (dia_zero s).symm
/-- A qubit flipped, or not. -/
def fi (q : Int) (x : Nat) : Bool → Nat
  | true => fl x q
  | false => x
def b2 : Bool → Int
  | true => 1
  | false => 0
def sg : Bool → Int
  | true => -1
  | false => 1
theorem fi_fi (q : Int) (x : Nat) (a b : Bool) : fi q (fi q x a) b = fi q x (a ^^ b) := by cases a <;> cases b <;> simp [fi, fl_fl]
theorem bt_fi (q : Int) (x : Nat) (a : Bool) : bt (fi q x a) q = (bt x q ^^ a) := by cases a <;> simp [fi, bt_fl]
theorem bt_fi_ne {q c : Int} (h : c.toNat ≠ q.toNat) (x : Nat) (a : Bool) : bt (fi q x a) c = bt x c := by cases a <;> simp [fi, bt_fl_ne h]
theorem efk_flip (bits : List Int) (q c : Int) (s : Nat → Nm) : efk bits [lFlip q c] s = fun x => s (fi q x (bt x c)) := by
  rw [efk_cons, efk_nil]
  show (if cnM bits [] = true then gt (lFlip q c) s else s) = _
  rw [show cnM bits [] = true from rfl, if_pos rfl]
  funext x
  unfold gt lFlip
  simp only [ons, List.all_cons, List.all_nil, Bool.and_true, show ¬ ((2 : Int) = 1) by decide, show ¬ ((2 : Int) = 4) by decide, if_false, if_true]
  cases bt x c <;> rfl

/-! The turns of the sums of one qubit and others. -/
theorem ctz_two (n j : Nat) (h : 2 ^ n * (2 * j + 1) < 2 ^ 64) : Lib.ctz 64 (2 ^ n * (2 * j + 1)) = n := by
  have hp : 0 < 2 ^ n * (2 * j + 1) := Nat.mul_pos (Nat.pow_pos (by decide)) (by omega)
  obtain ⟨m, h1, h2⟩ := Lib.ctzFrom_spec 64 _ hp h
  unfold Lib.ctz
  rw [if_neg (by omega)]
  obtain ⟨c, hc⟩ : ∃ c, Lib.ctzFrom 64 (2 ^ n * (2 * j + 1)) = c := ⟨_, rfl⟩
  rw [hc] at h1 ⊢
  rcases Nat.lt_trichotomy c n with hl | hl | hl
  · exfalso
    obtain ⟨d, rfl⟩ : ∃ d, n = c + (d + 1) := ⟨n - c - 1, by omega⟩
    rw [Nat.pow_add, Nat.mul_assoc] at h1
    have h3 := Nat.eq_of_mul_eq_mul_left (Nat.pow_pos (by decide)) h1
    rw [Nat.pow_succ, Nat.mul_assoc] at h3
    have h4 : (2 ^ d * (2 * (2 * j + 1))) % 2 = 0 := by
      rw [← Nat.mul_assoc, Nat.mul_comm (2 ^ d) 2, Nat.mul_assoc]
      omega
    omega
  · exact hl
  · exfalso
    obtain ⟨d, rfl⟩ : ∃ d, c = n + (d + 1) := ⟨c - n - 1, by omega⟩
    rw [Nat.pow_add, Nat.mul_assoc] at h1
    have h3 := Nat.eq_of_mul_eq_mul_left (Nat.pow_pos (by decide)) h1
    rw [Nat.pow_succ, Nat.mul_assoc] at h3
    have h4 : (2 ^ d * (2 * (2 * m + 1))) % 2 = 0 := by
      rw [← Nat.mul_assoc, Nat.mul_comm (2 ^ d) 2, Nat.mul_assoc]
      omega
    omega
theorem lSums_add (q : Int) (others cnd : List Int) : ∀ (a b i : Nat) (k : Int), lSums q others cnd (a + b) i k = lSums q others cnd a i k ++ lSums q others cnd b (i + a) (if a % 2 = 0 then k else -k)
  | 0, b, i, k => by simp [lSums]
  | a + 1, b, i, k => by
    rw [show a + 1 + b = a + b + 1 by omega]
    simp only [lSums]
    rw [lSums_add q others cnd a b (i + 1) (-k), show i + 1 + a = i + (a + 1) by omega]
    have e : (if a % 2 = 0 then -k else - -k) = if (a + 1) % 2 = 0 then k else -k := by
      split <;> split <;> omega
    rw [e, List.append_assoc]
/-- Where the qubit comes from behind n others: the last of them is added. -/
def adB (others : List Int) : Nat → Nat → Bool
  | 0, _ => false
  | n + 1, x => bt x (others.getD n 0)
/-- By how much it is turned behind n others. -/
def gyN (q : Int) (others : List Int) : Nat → Nat → Int
  | 0, x => b2 (bt x q)
  | n + 1, x => b2 (ons x (others.take (n + 1))) * (2 ^ n * sg (bt x q))
theorem ons_take_succ {x : Nat} {l : List Int} {n : Nat} (h : n < l.length) : ons x (l.take (n + 1)) = (ons x (l.take n) && bt x (l.getD n 0)) := by
  unfold ons
  rw [List.take_add_one, List.getElem?_eq_getElem h, List.all_append]
  have : l.getD n 0 = l[n] := by rw [List.getD_eq_getElem?_getD, List.getElem?_eq_getElem h]; rfl
  rw [this]
  simp
theorem getD_mem {l : List Int} {n : Nat} (h : n < l.length) : l.getD n 0 ∈ l := by
  rw [List.getD_eq_getElem?_getD, List.getElem?_eq_getElem h]
  exact List.getElem_mem h
section
variable {bits : List Int} {q : Int} {others cnd : List Int}
theorem bt_fiO (ho : ∀ c ∈ others, c.toNat ≠ q.toNat) {n : Nat} (hn : n < others.length) (x : Nat) (a : Bool) : bt (fi q x a) (others.getD n 0) = bt x (others.getD n 0) := bt_fi_ne (ho _ (getD_mem hn)) x a
theorem ons_fiO (ho : ∀ c ∈ others, c.toNat ≠ q.toNat) (n : Nat) (x : Nat) (a : Bool) : ons (fi q x a) (others.take n) = ons x (others.take n) := by
  unfold ons
  have : ∀ c ∈ others.take n, bt (fi q x a) c = bt x c := fun c hc => bt_fi_ne (ho c (List.mem_of_mem_take hc)) x a
  rw [Bool.eq_iff_iff, List.all_eq_true, List.all_eq_true]
  exact ⟨fun h c hc => by rw [← this c hc]; exact h c hc, fun h c hc => by rw [this c hc]; exact h c hc⟩
theorem adB_fi (ho : ∀ c ∈ others, c.toNat ≠ q.toNat) {n : Nat} (hn : n ≤ others.length) (x : Nat) (a : Bool) : adB others n (fi q x a) = adB others n x := by
  cases n with
  | zero => rfl
  | succ m => exact bt_fiO ho (by omega) x a
/-- One half, the other half, and what is between them. -/
theorem sums_step (ho : ∀ c ∈ others, c.toNat ≠ q.toNat) {n : Nat} (hn : n < others.length) (k : Int) (x : Nat) :
    (if n = 0 then -k else k) * gyN q others n x + k * gyN q others n (fi q x (adB others n x ^^ bt x (others.getD n 0))) = k * gyN q others (n + 1) x := by
  have e1 := ons_take_succ (x := x) hn
  obtain ⟨v, hv⟩ : ∃ v, bt x q = v := ⟨_, rfl⟩
  obtain ⟨c, hc⟩ : ∃ c, bt x (others.getD n 0) = c := ⟨_, rfl⟩
  rw [hc] at e1 ⊢
  cases n with
  | zero =>
    rw [if_pos rfl]
    simp only [gyN, adB, bt_fi, hv]
    rw [e1, show ons x (others.take 0) = true by simp [ons], Bool.true_and]
    cases c <;> cases v <;> simp [b2, sg] <;> omega
  | succ m =>
    rw [if_neg (by omega)]
    simp only [gyN, adB, bt_fi, hv, ons_fiO ho, e1]
    have e2 := ons_take_succ (x := x) (l := others) (n := m) (by omega)
    obtain ⟨d, hd⟩ : ∃ d, bt x (others.getD m 0) = d := ⟨_, rfl⟩
    rw [hd] at e2 ⊢
    obtain ⟨A, hA⟩ : ∃ A, ons x (others.take (m + 1)) = A := ⟨_, rfl⟩
    rw [hA] at e2 ⊢
    rw [Int.pow_succ]
    obtain ⟨P, hP⟩ : ∃ P : Int, 2 ^ m = P := ⟨_, rfl⟩
    rw [hP]
    cases A
    · simp [b2]
    · cases d
      · simp at e2
      · cases c <;> cases v <;> simp [b2, sg] <;> grind
theorem sums_half (ho : ∀ c ∈ others, c.toNat ≠ q.toNat) (h1 : 1 ≤ others.length) : ∀ (n : Nat), n ≤ others.length → ∀ (j : Nat) (k : Int), 2 ^ n * (j + 1) < 2 ^ 64 → -16 ≤ k → k ≤ 16 → ∀ s : Nat → Nm, (∀ x, Kpt (s x)) →
    efk bits (lSums q others cnd (2 ^ n) (2 ^ n * j) k) s = fun x => (fun y => nTr (kEf bits cnd k * gyN q others n y) (s (fi q y (adB others n y)))) (fi q x (bt x (oth others (2 ^ n * (j + 1) - 1))))
  | 0, _, j, k, hj, hk1, hk2, s, h => by
    simp only [Nat.pow_zero, Nat.one_mul, lSums, List.append_nil]
    rw [if_neg (by omega)]
    show efk bits ([lTurn q k cnd] ++ [lFlip q (oth others j)]) s = _
    rw [efk_app, efk_flip, efk_turn hk1 h]
    funext x
    simp only [dia, adB, gyN, Nat.add_sub_cancel]
    rw [show fi q (fi q x (bt x (oth others j))) false = fi q x (bt x (oth others j)) from rfl]
    congr 1
    cases bt (fi q x (bt x (oth others j))) q <;> simp [b2]
  | n + 1, hn, j, k, hj, hk1, hk2, s, h => by
    have e2 : 2 ^ (n + 1) = 2 ^ n + 2 ^ n := by rw [Nat.pow_succ]; omega
    have ei : 2 ^ (n + 1) * j = 2 ^ n * (2 * j) := by rw [Nat.pow_succ, Nat.mul_assoc]
    have ej : 2 ^ (n + 1) * (j + 1) = 2 ^ n * (2 * j + 1 + 1) := by rw [Nat.pow_succ, Nat.mul_assoc]; congr 1
    have hp : 0 < 2 ^ n := Nat.pow_pos (by decide)
    have hlt : 2 ^ n * (2 * j + 1) < 2 ^ 64 := Nat.lt_of_le_of_lt (Nat.mul_le_mul_left _ (by omega)) (ej ▸ hj)
    have hk' : (if 2 ^ n % 2 = 0 then k else -k) = if n = 0 then -k else k := by
      cases n with
      | zero => simp
      | succ m => rw [if_pos (by rw [Nat.pow_succ]; omega), if_neg (by omega)]
    have h3 : oth others (2 ^ n * (2 * j + 1) - 1) = others.getD n 0 := by
      unfold oth
      rw [Nat.sub_add_cancel (Nat.mul_pos hp (by omega)), ctz_two n j hlt, Nat.min_eq_left (by omega)]
    rw [ei, ej, e2, lSums_add, efk_app, hk', show 2 ^ n * (2 * j) + 2 ^ n = 2 ^ n * (2 * j + 1) by rw [Nat.mul_add (2 ^ n) (2 * j) 1, Nat.mul_one],
      sums_half ho h1 n (by omega) (2 * j) k hlt hk1 hk2 s h, h3,
      sums_half ho h1 n (by omega) (2 * j + 1) _ (ej ▸ hj) (by split <;> omega) (by split <;> omega) _ (fun x => ((h _).tr _))]
    funext x
    obtain ⟨y, hy⟩ : ∃ y, fi q x (bt x (oth others (2 ^ n * (2 * j + 1 + 1) - 1))) = y := ⟨_, rfl⟩
    simp only [hy]
    have s2 := sums_step ho (n := n) (by omega) (kEf bits cnd k) y
    rw [bt_fiO ho (by omega), fi_fi, tr_tr, adB_fi ho (by omega), fi_fi, show adB others (n + 1) y = bt y (others.getD n 0) from rfl]
    have e5 : ((adB others n y ^^ bt y (others.getD n 0)) ^^ adB others n y) = bt y (others.getD n 0) := by cases adB others n y <;> cases bt y (others.getD n 0) <;> rfl
    rw [e5, ← s2]
    congr 3
    unfold kEf
    split <;> split <;> simp
/-- What all turns of one qubit come to. -/
def gyA (q : Int) (others : List Int) (x : Nat) : Int := if others.length = 0 then b2 (bt x q) else b2 (ons x others) * (2 ^ (others.length - 1) * -sg (bt x q))
theorem sums_all (ho : ∀ c ∈ others, c.toNat ≠ q.toNat) (hL : others.length ≤ 60) {k : Int} (hk1 : -16 ≤ k) (hk2 : k ≤ 16) {s : Nat → Nm} (h : ∀ x, Kpt (s x)) :
    efk bits (lSums q others cnd (2 ^ others.length) 0 k) s = dia (fun x => kEf bits cnd k * gyA q others x) s := by
  by_cases h0 : others.length = 0
  · rw [h0]
    simp only [Nat.pow_zero, lSums, h0, if_true, List.append_nil]
    rw [efk_turn hk1 h]
    funext x
    unfold dia gyA
    simp only [h0, if_true]
    congr 1
    cases bt x q <;> simp [b2]
  · have hlt : 2 ^ others.length < 2 ^ 64 := Nat.pow_lt_pow_right (by decide) (by omega)
    have h1 := sums_half (bits := bits) (cnd := cnd) ho (by omega) others.length (Nat.le_refl _) 0 k (by rw [Nat.zero_add, Nat.mul_one]; exact hlt) hk1 hk2 s h
    rw [Nat.mul_zero] at h1
    rw [h1]
    obtain ⟨m, hm⟩ : ∃ m, others.length = m + 1 := ⟨others.length - 1, by omega⟩
    have h3 : oth others (2 ^ others.length * (0 + 1) - 1) = others.getD m 0 := by
      unfold oth
      have hp : 0 < 2 ^ others.length := Nat.pow_pos (by decide)
      have h4 := ctz_two others.length 0 (by rw [Nat.mul_zero, Nat.zero_add, Nat.mul_one]; exact hlt)
      rw [Nat.mul_zero, Nat.zero_add, Nat.mul_one] at h4
      rw [Nat.zero_add, Nat.mul_one, Nat.sub_add_cancel hp, h4, Nat.min_eq_right (by omega), hm]
      rfl
    have ht : others.take (m + 1) = others := List.take_of_length_le (by omega)
    funext x
    simp only [h3]
    unfold dia gyA
    simp only [hm, gyN, ht, Nat.add_sub_cancel]
    rw [adB_fi ho (by omega), fi_fi, show adB others (m + 1) x = bt x (others.getD m 0) from rfl, Bool.xor_self, show fi q x false = x from rfl]
    have hof := ons_fiO ho (m + 1) x (bt x (others.getD m 0))
    rw [ht] at hof
    rw [hof, bt_fi]
    congr 2
    have e2 := ons_take_succ (x := x) (l := others) (n := m) (by omega)
    rw [ht] at e2
    obtain ⟨d, hd⟩ : ∃ d, bt x (others.getD m 0) = d := ⟨_, rfl⟩
    rw [hd] at e2 ⊢
    cases hA : ons x others
    · simp [b2]
    · cases d
      · rw [hA] at e2; simp at e2
      · cases bt x q <;> simp [b2, sg]
end
/-- The sum of all of them: a turn where all are 1. -/
theorem ons_append (x : Nat) (a b : List Int) : ons x (a ++ b) = (ons x a && ons x b) := List.all_append
theorem all_sum (qs : List Int) (x : Nat) : ∀ i, i ≤ qs.length → ∃ S : Int, (∀ p : Int, S * p = (List.range i).foldl (fun a j => a + p * gyA (qs.getD j 0) (qs.take j) x) 0) ∧ (1 ≤ i → S = b2 (ons x (qs.take i)) * 2 ^ (i - 1)) ∧ (i = 0 → S = 0)
  | 0, _ => ⟨0, fun p => by simp, fun h => by omega, fun _ => rfl⟩
  | i + 1, hi => by
    obtain ⟨S, h1, h2, h3⟩ := all_sum qs x i (by omega)
    refine ⟨S + gyA (qs.getD i 0) (qs.take i) x, fun p => ?_, fun _ => ?_, fun h => by omega⟩
    · rw [List.range_succ, List.foldl_append, List.foldl_cons, List.foldl_nil, ← h1 p, Int.add_mul, Int.mul_comm p]
    · rw [ons_take_succ (by omega), Nat.add_sub_cancel]
      unfold gyA
      have hl : (qs.take i).length = i := by rw [List.length_take]; omega
      rw [hl]
      cases i with
      | zero =>
        rw [h3 rfl]
        simp [ons]
      | succ m =>
        rw [h2 (by omega), if_neg (by omega)]
        simp only [Nat.add_sub_cancel]
        rw [Int.pow_succ]
        obtain ⟨P, hP⟩ : ∃ P : Int, 2 ^ m = P := ⟨_, rfl⟩
        rw [hP]
        cases ons x (qs.take (m + 1))
        · simp [b2]
        · cases bt x (qs.getD (m + 1) 0)
          · simp [b2, sg]; omega
          · simp [b2, sg]; omega
theorem efk_all {bits qs cnd : List Int} {part : Int} (hn : qs.Nodup) (hr : ∀ c ∈ qs, 0 ≤ c) (hL : qs.length ≤ 60) (hp1 : -16 ≤ part) (hp2 : part ≤ 16) {s : Nat → Nm} (h : ∀ x, Kpt (s x)) : ∀ i, i ≤ qs.length →
    efk bits (lAll qs cnd part i) s = dia (fun x => (List.range i).foldl (fun a j => a + kEf bits cnd part * gyA (qs.getD j 0) (qs.take j) x) 0) s
  | 0, _ => by
    show s = _
    exact (dia_zero s).symm
  | i + 1, hi => by
    have hl : (qs.take i).length = i := by rw [List.length_take]; omega
    have ho : ∀ c ∈ qs.take i, c.toNat ≠ (qs.getD i 0).toNat := fun c hc => by
      have h1 := nodup_take hn (by omega) c hc
      have h2 := hr c (List.mem_of_mem_take hc)
      have h3 := hr _ (getD_mem (l := qs) (n := i) (by omega))
      omega
    have h1 := sums_all (bits := bits) (cnd := cnd) ho (by omega) hp1 hp2 (s := dia (fun x => (List.range i).foldl (fun a j => a + kEf bits cnd part * gyA (qs.getD j 0) (qs.take j) x) 0) s) (dia_kp h)
    rw [hl] at h1
    rw [lAll, efk_app, efk_all hn hr hL hp1 hp2 h i (by omega), h1, dia_dia]
    funext x
    simp only [List.range_succ, List.foldl_append, List.foldl_cons, List.foldl_nil]
/-- The turn where all of the qubits are 1. -/
theorem efk_body {bits left cnd : List Int} {k : Int} (hn : left.Nodup) (hr : ∀ c ∈ left, 0 ≤ c) (hL : left.length ≤ 60) (h1 : 1 ≤ left.length) (hk : 0 ≤ k ∧ k < 16) (hd : k % 2 ^ (left.length - 1) = 0) {s : Nat → Nm} (h : ∀ x, Kpt (s x)) :
    efk bits (lBody k cnd left) s = dia (fun x => if ons x left then kEf bits cnd k else 0) s := by
  have hp := div_range hk (left.length - 1)
  unfold lBody
  rw [efk_all hn hr hL (by omega) (by omega) h _ (Nat.le_refl _)]
  funext x
  unfold dia
  congr 1
  obtain ⟨S, a1, a2, _⟩ := all_sum left x left.length (Nat.le_refl _)
  show (List.range left.length).foldl (fun a j => a + kEf bits cnd (k / 2 ^ (left.length - 1)) * gyA (left.getD j 0) (left.take j) x) 0 = if ons x left = true then kEf bits cnd k else 0
  rw [← a1, a2 h1, List.take_length]
  cases ons x left
  · simp [b2]
  · simp only [b2, if_true, Int.one_mul]
    unfold kEf
    split
    · rw [Int.mul_comm]; exact Int.ediv_mul_cancel (Int.dvd_of_emod_eq_zero hd)
    · simp
end Go.Proofs.YthgmlhddanbbpaaDoor
namespace Go.Proofs.YthgmlhddanbbpaaDoor

theorem gt_fork (q : Int) (s : Nat → Nm) (x : Nat) : gt (lFork q) s x = lw (nHf (nAdd (s (fl x q)) (if bt x q then nNeg (s x) else s x))) := by
  unfold gt lFork
  simp [ons]
theorem gt_turn (q k : Int) (s : Nat → Nm) (x : Nat) : gt (lTurn q k []) s x = if bt x q then nTr ((k + 16).tmod 16) (s x) else s x := by
  unfold gt lTurn
  simp [ons]
theorem gt_flip (q c : Int) (s : Nat → Nm) (x : Nat) : gt (lFlip q c) s x = if bt x c then s (fl x q) else s x := by
  unfold gt lFlip
  simp [ons]
theorem add_zl (x : Nm) : EqN (nAdd nZ x) x := fun k => by simp only [nAdd, nZ]; simp
theorem add_zr (x : Nm) : EqN (nAdd x nZ) x := fun k => by simp only [nAdd, nZ]; simp
theorem add_negN {x : Nm} : EqN (nAdd x (nNeg x)) nZ := fun k => by simp only [nAdd, nNeg, negR, nZ]; grind
theorem hf_zero {x : Nm} (h : EqN x nZ) : lw (nHf x) = nZ := lw_z ((EqN.hf h).trans (fun k => by simp only [nHf, nZ, addR, trR]; simp))
/-- Two qubits joined into a spare one that is 0: it is 1 behind it just where they are. -/
theorem join_sup {p q sp : Int} (hp : p.toNat ≠ sp.toNat) (hq : q.toNat ≠ sp.toNat) {s : Nat → Nm} (h : ∀ x, Kpt (s x)) (hz : ∀ x, bt x sp = true → s x = nZ) (x : Nat) (hx : bt x sp ≠ (bt x p && bt x q)) : rnG (lJoin p q sp) s x = nZ := by
  have ep : ∀ y, bt (fl y sp) p = bt y p := fun y => bt_fl_ne hp
  have eq : ∀ y, bt (fl y sp) q = bt y q := fun y => bt_fl_ne hq
  obtain ⟨g, hg⟩ : ∃ g : Nat → Nm, gt (lFork sp) s = g := ⟨_, rfl⟩
  have g1 : ∀ y, g (fl y sp) = g y := by
    intro y
    rw [← hg, gt_fork, gt_fork, fl_fl, bt_fl]
    cases hb : bt y sp
    · have h1 : s (fl y sp) = nZ := hz _ (by rw [bt_fl, hb]; rfl)
      simp only [h1, Bool.not_false, if_true, Bool.false_eq_true, if_false, neg_z]
      exact lw_congr (EqN.hf ((add_zr _).trans (add_zl _).symm))
    · have h1 : s y = nZ := hz _ hb
      simp only [h1, Bool.not_true, if_true, Bool.false_eq_true, if_false, neg_z]
      exact lw_congr (EqN.hf ((add_zl _).trans (add_zr _).symm))
  have gk : ∀ y, Anti (g y).a := fun y => by rw [← hg]; exact (gt_kp h y).2
  have e2 : ((2 : Int) + 16).tmod 16 = 2 := by decide
  have e14 : ((14 : Int) + 16).tmod 16 = 14 := by decide
  show gt (lFork sp) (gt (lTurn sp 14 []) (gt (lFlip sp q) (gt (lTurn sp 2 []) (gt (lFlip sp p) (gt (lTurn sp 14 []) (gt (lFlip sp q) (gt (lTurn sp 2 []) (gt (lFork sp) s)))))))) x = nZ
  rw [hg, gt_fork]
  have m : ∀ a b : Int, a % 16 = b % 16 → nTr a (g x) = nTr b (g x) := fun a b e => tr_mod (gk x) e
  cases hb : bt x sp <;> cases h1 : bt x p <;> cases h2 : bt x q <;> simp only [hb, h1, h2, Bool.and_true, Bool.and_false, ne_eq, not_true_eq_false, Bool.false_eq_true, not_false_eq_true] at hx <;>
    simp only [gt_turn, gt_flip, e2, e14, bt_fl, ep, eq, hb, h1, h2, fl_fl, g1, if_true, if_false, Bool.not_true, Bool.not_false, Bool.false_eq_true, tr_tr] <;> refine hf_zero ?_
  · -- both: 0 there
    have e : nTr (14 + (2 + (14 + 2))) (g x) = nTr 0 (g x) := m _ _ (by decide)
    have e3 : nTr (14 + 14) (g x) = nTr 12 (g x) := m _ _ (by decide)
    have e4 : nTr (2 + 2) (g x) = nTr 4 (g x) := m _ _ (by decide)
    have h8 : nTr 12 (g x) = nNeg (nTr 4 (g x)) := by
      rw [show (12 : Int) = 8 + 4 by decide, ← tr_tr]
      exact nNeg_tr ((gk x).tr 4)
    rw [e3, e4, h8]
    exact (EqN.of_eq (nAdd_comm _ _)).trans add_negN
  all_goals
    have e : nTr (14 + (2 + (14 + 2))) (g x) = nTr 0 (g x) := m _ _ (by decide)
    have e3 : nTr (14 + 2) (g x) = nTr 0 (g x) := m _ _ (by decide)
    have e4 : nTr (2 + 14) (g x) = nTr 0 (g x) := m _ _ (by decide)
    simp only [e, e3, e4, tr_nil]
    exact add_negN
/-- Where it is nought stays nought, through many. -/
theorem rnG_nought {q : Int} {v : Bool} : ∀ (ops : List Gop), (∀ o ∈ ops, o.kind ≠ 1 → o.q.toNat ≠ q.toNat) → ∀ s : Nat → Nm, (∀ x, bt x q = v → s x = nZ) → ∀ x, bt x q = v → rnG ops s x = nZ
  | [], _, _, h => h
  | o :: r, hall, s, h => rnG_nought r (fun p hp => hall p (by simp [hp])) _ (gt_nought (hall o (by simp)) h)
theorem join_q {p q sp : Int} {g : Gop} (h : g ∈ lJoin p q sp) : g.q = sp := by
  unfold lJoin at h
  simp only [List.mem_cons, List.not_mem_nil, or_false] at h
  rcases h with rfl | rfl | rfl | rfl | rfl | rfl | rfl | rfl | rfl <;> rfl
theorem join_cnd {p q sp : Int} {g : Gop} (h : g ∈ lJoin p q sp) : g.cnd = [] := by
  unfold lJoin at h
  simp only [List.mem_cons, List.not_mem_nil, or_false] at h
  rcases h with rfl | rfl | rfl | rfl | rfl | rfl | rfl | rfl | rfl <;> rfl
theorem inv_cnd {l : List Gop} (_h : ∀ g ∈ l, g.cnd = []) : ∀ g ∈ invO l, g.cnd = [] := by
  intro g hg
  unfold invO at hg
  obtain ⟨x, hx, rfl⟩ := List.mem_map.1 hg
  exact _h x (List.mem_reverse.1 hx)
/-- What undoes gates, behind them. -/
theorem undo_ok {l : List Gop} (hc : ∀ g ∈ l, LOk 12 12 g) (hk : ∀ g ∈ l, g.kind = 2 ∨ g.kind = 3 ∨ g.kind = 4) {s : Nat → Nm} (h : ∀ x, Kpt (s x)) : rnG (invO l) (rnG l s) = s := by
  rw [← rnG_app]
  exact rnG_undo (n := 12) (b := 12) l (fun o ho => ⟨(hc o ho).code, plFit_of_code (by decide) (by decide) (by decide) (by decide) (hc o ho).code, by have := hk o ho; omega⟩) s h
theorem ons_cons (x : Nat) (c : Int) (l : List Int) : ons x (c :: l) = (bt x c && ons x l) := rfl
theorem ons_free {x : Nat} {l : List Int} {q : Int} (h : ∀ c ∈ l, c.toNat ≠ q.toNat) : ons (fl x q) l = ons x l := by
  have := ons_fiO (q := q) (others := l) h l.length x true
  rwa [List.take_length] at this
/-- What joined makes: a turn where all are 1. -/
theorem efk_joined {bits cnd : List Int} {sp k : Int} (hs : 0 ≤ sp) (hk : 0 ≤ k ∧ k < 16) :
    ∀ (t : Nat) (qs : List Int), sp + t ≤ 12 → t < qs.length → qs.length ≤ 60 → k % 2 ^ (qs.length - t - 1) = 0 → qs.Nodup → (∀ c ∈ qs, (0 ≤ c ∧ c < 12) ∧ (c < sp ∨ sp + t ≤ c)) → ∀ s : Nat → Nm, (∀ x, Kpt (s x)) → (∀ (j : Nat) (x : Nat), j < t → bt x (sp + j) = true → s x = nZ) →
      efk bits (lJoined sp (lBody k cnd) t qs) s = dia (fun x => if ons x qs then kEf bits cnd k else 0) s
  | 0, qs, _, hl, h60, hd, hn, hr, s, h, _ => efk_body hn (fun c hc => (hr c hc).1.1) h60 hl hk hd h
  | t + 1, qs, hN, hl, h60, hd, hn, hr, s, h, hz => by
    match qs, hl, h60, hd, hn, hr with
    | p :: q :: r, hl, h60, hd, hn, hr =>
      have hp := hr p (by simp); have hq := hr q (by simp)
      have hpn : p.toNat ≠ (sp + t).toNat := by omega
      have hqn : q.toNat ≠ (sp + t).toNat := by omega
      have hrn : ∀ c ∈ r, c.toNat ≠ (sp + (t : Int)).toNat := fun c hc => by have := hr c (by simp [hc]); omega
      have hj := lOk_join (N := 12) (B := 12) (p := p) (q := q) (s := sp + t) hp.1 hq.1 (by omega) (by omega) (by omega)
      simp only [lJoined, List.getD_cons_zero, List.getD_cons_succ, List.drop_succ_cons, List.drop_zero]
      obtain ⟨J, hJ⟩ : ∃ J, lJoin p q (sp + t) = J := ⟨_, rfl⟩
      have jq : ∀ g ∈ J, g.q = sp + t := fun g hg => by rw [← hJ] at hg; exact join_q hg
      have jc : ∀ g ∈ J, g.cnd = [] := fun g hg => by rw [← hJ] at hg; exact join_cnd hg
      have jk : ∀ g ∈ J, g.kind = 2 ∨ g.kind = 3 ∨ g.kind = 4 := fun g hg => by rw [← hJ] at hg; exact kind_join hg
      have s0 := join_sup (p := p) (q := q) (sp := sp + t) hpn hqn h (fun x hx => hz t x (by omega) hx)
      rw [hJ] at hj s0 ⊢
      rw [efk_app, efk_app, efk_free bits J s jc, efk_free bits (invO J) _ (inv_cnd jc)]
      rw [efk_joined hs hk t (r ++ [sp + t]) (by omega) (by simp at hl ⊢; omega) (by simp at h60 ⊢; omega) (by
        have e : (r ++ [sp + (t : Int)]).length - t - 1 = (p :: q :: r).length - (t + 1) - 1 := by simp
        rw [e]; exact hd) ?_ ?_ _ (rnG_kp J s h) ?_]
      · have e : dia (fun x => if ons x (r ++ [sp + (t : Int)]) = true then kEf bits cnd k else 0) (rnG J s) = dia (fun x => if ons x (p :: q :: r) = true then kEf bits cnd k else 0) (rnG J s) := by
          funext x
          simp only [dia]
          by_cases hx : bt x (sp + t) = (bt x p && bt x q)
          · rw [ons_append, ons_cons, ons_cons, ons_cons, show ons x [] = true from rfl, Bool.and_true, hx, Bool.and_comm, Bool.and_assoc]
          · rw [s0 x hx, tr_z, tr_z]
        have hf : ∀ o ∈ J, ∀ x, (fun x => if ons x (p :: q :: r) = true then kEf bits cnd k else 0) (fl x o.q) = (fun x => if ons x (p :: q :: r) = true then kEf bits cnd k else 0) x := by
          intro o ho x
          simp only
          rw [jq o ho, ons_free (fun c hc => by
            rcases List.mem_cons.1 hc with rfl | hc
            · exact hpn
            rcases List.mem_cons.1 hc with rfl | hc
            · exact hqn
            exact hrn c hc)]
        rw [e, dia_rnG J s hf]
        exact undo_ok hj jk (dia_kp h)
      · have hn2 : r.Nodup := (List.nodup_cons.1 (List.nodup_cons.1 hn).2).2
        rw [List.nodup_append]
        refine ⟨hn2, by simp, fun a ha b hb' => ?_⟩
        have hb2 : b = sp + t := by simpa using hb'
        rw [hb2]
        have := (hr a (by simp [ha])).2
        omega
      · intro c hc
        rcases List.mem_append.1 hc with hc | hc
        · have := hr c (by simp [hc])
          exact ⟨this.1, by omega⟩
        · have : c = sp + t := by simpa using hc
          rw [this]
          exact ⟨by omega, Or.inr (by omega)⟩
      · intro j x hj' hx
        refine rnG_nought J (fun o ho _ => ?_) s (fun y hy => hz j y (by omega) hy) x hx
        rw [jq o ho]
        omega
    | [_], hl, _, _, _, _ => simp at hl
    | [], hl, _, _, _, _ => simp at hl

/-! The gates around. -/
theorem hf_rep {x y : Nm} {A B : Int → Int} {N : Nat} (h : EqN x ⟨A, N⟩) (g : EqN y ⟨B, N⟩) : EqN (lw (nHf (nAdd x y))) ⟨fun k => A (k - 2) + B (k - 2) + (A (k + 2) + B (k + 2)), N + 1⟩ :=
  (lw_eq _).trans ((EqN.hf (add_rep h g)).trans (EqN.of_eq (by
    unfold nHf addR trR
    congr 1)))
theorem tr_rep {x : Nm} {A : Int → Int} {N : Nat} (h : EqN x ⟨A, N⟩) (m : Int) : EqN (nTr m x) ⟨fun k => A (k - m), N⟩ := h.tr m
theorem neg_rep {x : Nm} {A : Int → Int} {N : Nat} (h : EqN x ⟨A, N⟩) : EqN (nNeg x) ⟨fun k => -A k, N⟩ := h.neg
theorem rep_of (x : Nm) (n : Nat) : EqN x ⟨fun k => x.a k * 2 ^ n, x.e + n⟩ := (eqN_scale x.a x.e n).symm
theorem around_x {q : Int} {ctl : List Int} {o : Gop} (ho : o.kind = 2) (hoq : o.q = q) (hoc : o.ctl = ctl) (hc : ∀ c ∈ ctl, c.toNat ≠ q.toNat) {s : Nat → Nm} (h : ∀ x, Kpt (s x)) :
    dia (fun x => if ons x (ctl ++ [q]) then 8 else 0) (gt (lFork q) s) = gt (lFork q) (gt o s) := by
  funext x
  have hf : ∀ y, ons (fl y q) ctl = ons y ctl := fun y => ons_free hc
  simp only [dia]
  rw [gt_fork, gt_fork]
  have hg : ∀ y, gt o s y = if ons y ctl then s (fl y q) else s y := fun y => by
    unfold gt
    rw [hoc, hoq, ho]
    simp
  rw [hg, hg, ons_append, hf, fl_fl, ons_cons, show ons x [] = true from rfl, Bool.and_true]
  cases ons x ctl
  · simp only [Bool.false_and, Bool.false_eq_true, if_false]
    exact tr_nil _
  · cases hb : bt x q
    · simp only [Bool.and_false, if_true, Bool.false_eq_true, if_false]
      rw [tr_nil, nAdd_comm]
    · simp only [Bool.and_true, if_true]
      rw [tr_lw, tr_hf, tr_neg, nNeg_tr (h _).2, nNeg_tr (h _).2, neg_neg_n, nAdd_comm]
set_option maxHeartbeats 1000000 in
theorem around_h {q : Int} {ctl : List Int} {o : Gop} (ho : o.kind = 3) (hoq : o.q = q) (hoc : o.ctl = ctl) (hc : ∀ c ∈ ctl, c.toNat ≠ q.toNat) {s : Nat → Nm} (h : ∀ x, Kpt (s x)) :
    dia (fun x => if ons x (ctl ++ [q]) then 8 else 0) (rnG [lTurn q 4 [], lFork q, lTurn q 2 [], lFork q] s) = rnG [lTurn q 4 [], lFork q, lTurn q 2 [], lFork q] (gt o s) := by
  funext x
  have hf : ∀ y, ons (fl y q) ctl = ons y ctl := fun y => ons_free hc
  show dia (fun x => if ons x (ctl ++ [q]) then 8 else 0) (gt (lFork q) (gt (lTurn q 2 []) (gt (lFork q) (gt (lTurn q 4 []) s)))) x = gt (lFork q) (gt (lTurn q 2 []) (gt (lFork q) (gt (lTurn q 4 []) (gt o s)))) x
  have hg : ∀ y, gt o s y = if ons y ctl then lw (nHf (nAdd (s (fl y q)) (if bt y q then nNeg (s y) else s y))) else s y := fun y => by
    unfold gt
    rw [hoc, hoq, ho]
    simp
  have e2 : ((2 : Int) + 16).tmod 16 = 2 := by decide
  have e4 : ((4 : Int) + 16).tmod 16 = 4 := by decide
  simp only [dia]
  rw [ons_append, ons_cons, show ons x [] = true from rfl, Bool.and_true]
  obtain ⟨a, ha⟩ : ∃ a, s x = a := ⟨_, rfl⟩
  obtain ⟨b, hb⟩ : ∃ b, s (fl x q) = b := ⟨_, rfl⟩
  have ka := h x; have kb := h (fl x q)
  rw [ha] at ka; rw [hb] at kb
  have ra := rep_of a b.e
  have rb := rep_of b a.e
  rw [Nat.add_comm b.e a.e] at rb
  obtain ⟨A, hA⟩ : ∃ A : Int → Int, (fun k => a.a k * 2 ^ b.e) = A := ⟨_, rfl⟩
  obtain ⟨B, hB⟩ : ∃ B : Int → Int, (fun k => b.a k * 2 ^ a.e) = B := ⟨_, rfl⟩
  obtain ⟨N, hN⟩ : ∃ N, a.e + b.e = N := ⟨_, rfl⟩
  rw [hA, hN] at ra
  rw [hB, hN] at rb
  have tA : ∀ k, A (k + 8) = -A k := fun k => by rw [← hA]; show a.a (k + 8) * _ = -(a.a k * _); rw [ka.2 k, Int.neg_mul]
  have tB : ∀ k, B (k + 8) = -B k := fun k => by rw [← hB]; show b.a (k + 8) * _ = -(b.a k * _); rw [kb.2 k, Int.neg_mul]
  simp only [gt_fork, gt_turn, hg, hf, fl_fl, bt_fl, ha, hb, e2, e4]
  cases ons x ctl
  · simp only [Bool.false_and, Bool.false_eq_true, if_false]
    exact tr_nil _
  · simp only [Bool.true_and, if_true]
    cases bt x q
    · simp only [Bool.not_false, if_true, Bool.false_eq_true, if_false, tr_nil]
      refine low_one (lw_low _) (lw_low _) ?_
      have L1 := hf_rep (tr_rep (hf_rep ra (neg_rep (tr_rep rb 4))) 2) (hf_rep (tr_rep rb 4) ra)
      have R1 := hf_rep (tr_rep (hf_rep (hf_rep rb ra) (neg_rep (tr_rep (hf_rep ra (neg_rep rb)) 4))) 2) (hf_rep (tr_rep (hf_rep ra (neg_rep rb)) 4) (hf_rep rb ra))
      refine L1.trans (EqN.trans ?_ R1.symm)
      intro k
      show _ * 2 ^ (N + 1 + 1 + 1) = _ * 2 ^ (N + 1 + 1)
      rw [Int.pow_succ _ (N + 1 + 1), Int.mul_comm (2 ^ (N + 1 + 1)) 2, ← Int.mul_assoc]
      congr 1
      simp only [Int.sub_eq_add_neg, Int.add_assoc, Int.reduceNeg, Int.reduceAdd, Int.add_zero]
      have afm12 : A (k + -4) = -A (k + -12) := by have := tA (k + -12); simpa only [Int.add_assoc, Int.reduceNeg, Int.reduceAdd, Int.add_zero] using this
      have bfm12 : B (k + -4) = -B (k + -12) := by have := tB (k + -12); simpa only [Int.add_assoc, Int.reduceNeg, Int.reduceAdd, Int.add_zero] using this
      have afm10 : A (k + -2) = -A (k + -10) := by have := tA (k + -10); simpa only [Int.add_assoc, Int.reduceNeg, Int.reduceAdd, Int.add_zero] using this
      have bfm10 : B (k + -2) = -B (k + -10) := by have := tB (k + -10); simpa only [Int.add_assoc, Int.reduceNeg, Int.reduceAdd, Int.add_zero] using this
      have afm8 : A k = -A (k + -8) := by have := tA (k + -8); simpa only [Int.add_assoc, Int.reduceNeg, Int.reduceAdd, Int.add_zero] using this
      have bfm8 : B k = -B (k + -8) := by have := tB (k + -8); simpa only [Int.add_assoc, Int.reduceNeg, Int.reduceAdd, Int.add_zero] using this
      have afm6 : A (k + 2) = -A (k + -6) := by have := tA (k + -6); simpa only [Int.add_assoc, Int.reduceNeg, Int.reduceAdd, Int.add_zero] using this
      have bfm6 : B (k + 2) = -B (k + -6) := by have := tB (k + -6); simpa only [Int.add_assoc, Int.reduceNeg, Int.reduceAdd, Int.add_zero] using this
      have afm4 : A (k + 4) = -A (k + -4) := by have := tA (k + -4); simpa only [Int.add_assoc, Int.reduceNeg, Int.reduceAdd, Int.add_zero] using this
      have bfm4 : B (k + 4) = -B (k + -4) := by have := tB (k + -4); simpa only [Int.add_assoc, Int.reduceNeg, Int.reduceAdd, Int.add_zero] using this
      have afm2 : A (k + 6) = -A (k + -2) := by have := tA (k + -2); simpa only [Int.add_assoc, Int.reduceNeg, Int.reduceAdd, Int.add_zero] using this
      have bfm2 : B (k + 6) = -B (k + -2) := by have := tB (k + -2); simpa only [Int.add_assoc, Int.reduceNeg, Int.reduceAdd, Int.add_zero] using this
      have afp0 : A (k + 8) = -A k := tA k
      have bfp0 : B (k + 8) = -B k := tB k
      have afp2 : A (k + 10) = -A (k + 2) := by have := tA (k + 2); simpa only [Int.add_assoc, Int.reduceNeg, Int.reduceAdd, Int.add_zero] using this
      have bfp2 : B (k + 10) = -B (k + 2) := by have := tB (k + 2); simpa only [Int.add_assoc, Int.reduceNeg, Int.reduceAdd, Int.add_zero] using this
      have afp4 : A (k + 12) = -A (k + 4) := by have := tA (k + 4); simpa only [Int.add_assoc, Int.reduceNeg, Int.reduceAdd, Int.add_zero] using this
      have bfp4 : B (k + 12) = -B (k + 4) := by have := tB (k + 4); simpa only [Int.add_assoc, Int.reduceNeg, Int.reduceAdd, Int.add_zero] using this
      omega
    · simp only [Bool.not_true, if_true, Bool.false_eq_true, if_false]
      rw [tr_lw]
      refine low_one (lw_low _) (lw_low _) ?_
      have L1 := tr_rep (hf_rep (hf_rep (tr_rep ra 4) rb) (neg_rep (tr_rep (hf_rep rb (neg_rep (tr_rep ra 4))) 2))) 8
      have R1 := hf_rep (hf_rep (tr_rep (hf_rep rb (neg_rep ra)) 4) (hf_rep ra rb)) (neg_rep (tr_rep (hf_rep (hf_rep ra rb) (neg_rep (tr_rep (hf_rep rb (neg_rep ra)) 4))) 2))
      rw [← tr_lw]
      refine L1.trans (EqN.trans ?_ R1.symm)
      intro k
      show _ * 2 ^ (N + 1 + 1 + 1) = _ * 2 ^ (N + 1 + 1)
      rw [Int.pow_succ _ (N + 1 + 1), Int.mul_comm (2 ^ (N + 1 + 1)) 2, ← Int.mul_assoc]
      congr 1
      simp only [Int.sub_eq_add_neg, Int.add_assoc, Int.reduceNeg, Int.reduceAdd, Int.add_zero]
      have afm20 : A (k + -12) = -A (k + -20) := by have := tA (k + -20); simpa only [Int.add_assoc, Int.reduceNeg, Int.reduceAdd, Int.add_zero] using this
      have bfm20 : B (k + -12) = -B (k + -20) := by have := tB (k + -20); simpa only [Int.add_assoc, Int.reduceNeg, Int.reduceAdd, Int.add_zero] using this
      have afm18 : A (k + -10) = -A (k + -18) := by have := tA (k + -18); simpa only [Int.add_assoc, Int.reduceNeg, Int.reduceAdd, Int.add_zero] using this
      have bfm18 : B (k + -10) = -B (k + -18) := by have := tB (k + -18); simpa only [Int.add_assoc, Int.reduceNeg, Int.reduceAdd, Int.add_zero] using this
      have afm16 : A (k + -8) = -A (k + -16) := by have := tA (k + -16); simpa only [Int.add_assoc, Int.reduceNeg, Int.reduceAdd, Int.add_zero] using this
      have bfm16 : B (k + -8) = -B (k + -16) := by have := tB (k + -16); simpa only [Int.add_assoc, Int.reduceNeg, Int.reduceAdd, Int.add_zero] using this
      have afm14 : A (k + -6) = -A (k + -14) := by have := tA (k + -14); simpa only [Int.add_assoc, Int.reduceNeg, Int.reduceAdd, Int.add_zero] using this
      have bfm14 : B (k + -6) = -B (k + -14) := by have := tB (k + -14); simpa only [Int.add_assoc, Int.reduceNeg, Int.reduceAdd, Int.add_zero] using this
      have afm12 : A (k + -4) = -A (k + -12) := by have := tA (k + -12); simpa only [Int.add_assoc, Int.reduceNeg, Int.reduceAdd, Int.add_zero] using this
      have bfm12 : B (k + -4) = -B (k + -12) := by have := tB (k + -12); simpa only [Int.add_assoc, Int.reduceNeg, Int.reduceAdd, Int.add_zero] using this
      have afm10 : A (k + -2) = -A (k + -10) := by have := tA (k + -10); simpa only [Int.add_assoc, Int.reduceNeg, Int.reduceAdd, Int.add_zero] using this
      have bfm10 : B (k + -2) = -B (k + -10) := by have := tB (k + -10); simpa only [Int.add_assoc, Int.reduceNeg, Int.reduceAdd, Int.add_zero] using this
      have afm8 : A k = -A (k + -8) := by have := tA (k + -8); simpa only [Int.add_assoc, Int.reduceNeg, Int.reduceAdd, Int.add_zero] using this
      have bfm8 : B k = -B (k + -8) := by have := tB (k + -8); simpa only [Int.add_assoc, Int.reduceNeg, Int.reduceAdd, Int.add_zero] using this
      have afm6 : A (k + 2) = -A (k + -6) := by have := tA (k + -6); simpa only [Int.add_assoc, Int.reduceNeg, Int.reduceAdd, Int.add_zero] using this
      have bfm6 : B (k + 2) = -B (k + -6) := by have := tB (k + -6); simpa only [Int.add_assoc, Int.reduceNeg, Int.reduceAdd, Int.add_zero] using this
      have afm4 : A (k + 4) = -A (k + -4) := by have := tA (k + -4); simpa only [Int.add_assoc, Int.reduceNeg, Int.reduceAdd, Int.add_zero] using this
      have bfm4 : B (k + 4) = -B (k + -4) := by have := tB (k + -4); simpa only [Int.add_assoc, Int.reduceNeg, Int.reduceAdd, Int.add_zero] using this
      have afm2 : A (k + 6) = -A (k + -2) := by have := tA (k + -2); simpa only [Int.add_assoc, Int.reduceNeg, Int.reduceAdd, Int.add_zero] using this
      have bfm2 : B (k + 6) = -B (k + -2) := by have := tB (k + -2); simpa only [Int.add_assoc, Int.reduceNeg, Int.reduceAdd, Int.add_zero] using this
      have afp0 : A (k + 8) = -A k := tA k
      have bfp0 : B (k + 8) = -B k := tB k
      have afp2 : A (k + 10) = -A (k + 2) := by have := tA (k + 2); simpa only [Int.add_assoc, Int.reduceNeg, Int.reduceAdd, Int.add_zero] using this
      have bfp2 : B (k + 10) = -B (k + 2) := by have := tB (k + 2); simpa only [Int.add_assoc, Int.reduceNeg, Int.reduceAdd, Int.add_zero] using this
      omega
/-- A gate with controls is a turn between the gates around it. -/
theorem around_all {o : Gop} (hk : o.kind = 2 ∨ o.kind = 3 ∨ o.kind = 4) (hc : ∀ c ∈ o.ctl, c.toNat ≠ o.q.toNat) {s : Nat → Nm} (h : ∀ x, Kpt (s x)) :
    dia (fun x => if ons x (o.ctl ++ [o.q]) then ang o else 0) (rnG (lAround o) s) = rnG (lAround o) (gt o s) := by
  rcases hk with e | e | e
  · have e1 : lAround o = [lFork o.q] := by unfold lAround; rw [if_pos e]
    have e2 : ang o = 8 := by unfold ang; rw [if_pos (Or.inl e)]
    rw [e1, e2]
    exact around_x e rfl rfl hc h
  · have e1 : lAround o = [lTurn o.q 4 [], lFork o.q, lTurn o.q 2 [], lFork o.q] := by unfold lAround; rw [if_neg (by omega), if_pos e]
    have e2 : ang o = 8 := by unfold ang; rw [if_pos (Or.inr e)]
    rw [e1, e2]
    exact around_h e rfl rfl hc h
  · have e1 : lAround o = [] := by unfold lAround; rw [if_neg (by omega), if_neg (by omega)]
    have e2 : ang o = o.k := by unfold ang; rw [if_neg (by omega)]
    rw [e1, e2]
    show dia _ s = gt o s
    funext x
    simp only [dia]
    unfold gt
    rw [e, ons_append, ons_cons, show ons x [] = true from rfl, Bool.and_true]
    cases ons x o.ctl
    · simp [tr_nil]
    · cases bt x o.q
      · simp [tr_nil]
      · simp
theorem around_cnd {o g : Gop} (h : g ∈ lAround o) : g.cnd = [] := by
  unfold lAround at h
  split at h
  · simp only [List.mem_cons, List.not_mem_nil, or_false] at h
    rw [h]; rfl
  · split at h
    · simp only [List.mem_cons, List.not_mem_nil, or_false] at h
      rcases h with rfl | rfl | rfl | rfl <;> rfl
    · simp at h
theorem around_q {o g : Gop} (h : g ∈ lAround o) : g.q = o.q := by
  unfold lAround at h
  split at h
  · simp only [List.mem_cons, List.not_mem_nil, or_false] at h
    rw [h]; rfl
  · split at h
    · simp only [List.mem_cons, List.not_mem_nil, or_false] at h
      rcases h with rfl | rfl | rfl | rfl <;> rfl
    · simp at h
/-- Qubits from n on are 0. -/
def Sup (n : Int) (s : Nat → Nm) : Prop := ∀ (j : Int) (x : Nat), n ≤ j → bt x j = true → s x = nZ
/-- What an operation becomes does what the operation does. -/
theorem low_does {bits : List Int} {o : Gop} {n B : Int} (hcode : opCode o n B = 0) (h0 : 0 ≤ n) (hN : n + wnt o ≤ 12) (_hk5 : o.kind < 5) {s : Nat → Nm} (h : ∀ x, Kpt (s x)) (hz : Sup n s) : efk bits (lowO n o) s = if cnM bits o.cnd then gt o s else s := by
  have f := opFit_of hcode
  have hw := wntF_le (ang o) o.ctl.length
  have hwn := Int.natCast_nonneg (wnt o)
  unfold lowO
  split
  · rfl
  rename_i hb
  have hl : 0 < o.ctl.length := by
    cases e : o.ctl with
    | nil => exact absurd (by unfold isBas; simp [e]) hb
    | cons => simp
  have hk := f.use hl
  have hq := f.q hl
  have hcn : ∀ c ∈ o.ctl, c.toNat ≠ o.q.toNat := fun c hc => by have := f.ctl c hc; omega
  have hn12 : n ≤ 12 := by omega
  have h11 := f.len hl hn12
  split
  · rename_i ha
    rw [efk_nil]
    split
    · have e4 : o.kind = 4 := by
        rcases hk with e | e | e
        · rw [ang, if_pos (Or.inl e)] at ha; omega
        · rw [ang, if_pos (Or.inr e)] at ha; omega
        · exact e
      have ek : o.k = 0 := by rw [ang, if_neg (by omega)] at ha; exact ha
      funext x
      unfold gt
      rw [e4, ek]
      simp [tr_nil]
    · rfl
  have hg := lOk_around (N := 12) (B := 12) (o := o) (by omega)
  have hgk : ∀ g ∈ lAround o, g.kind = 2 ∨ g.kind = 3 ∨ g.kind = 4 := fun g hg => kind_around hg
  have hd := wntF_div (ang o) o.ctl.length
  rw [efk_app, efk_app, efk_free bits (lAround o) s (fun g hg => around_cnd hg), efk_free bits (invO (lAround o)) _ (inv_cnd (fun g hg => around_cnd hg)),
    efk_joined h0 (ang_range f.k) (wnt o) (o.ctl ++ [o.q]) (by omega) (by simp; unfold wnt; omega) (by simp; omega) (by
      have e : (o.ctl ++ [o.q]).length - wnt o - 1 = o.ctl.length - wntF (ang o) o.ctl.length := by simp; unfold wnt; omega
      rw [e]; exact hd) ?_ ?_ _ (rnG_kp _ s h) ?_]
  · unfold kEf
    split
    · rw [around_all hk hcn h]
      exact undo_ok hg hgk (gt_kp h)
    · have e : (fun x => if ons x (o.ctl ++ [o.q]) = true then (0 : Int) else 0) = fun _ => 0 := by funext x; simp
      rw [e, dia_zero]
      exact undo_ok hg hgk h
  · rw [List.nodup_append]
    refine ⟨f.nd, by simp, fun a ha b hb => ?_⟩
    have : b = o.q := by simpa using hb
    rw [this]
    exact (f.ctl a ha).2
  · intro c hc
    rcases List.mem_append.1 hc with hc | hc
    · have := f.ctl c hc
      exact ⟨by omega, Or.inl (by omega)⟩
    · have e : c = o.q := by simpa using hc
      rw [e]
      exact ⟨by omega, Or.inl (by omega)⟩
  · intro j x hj hx
    refine rnG_nought (lAround o) (fun g hg _ => ?_) s (fun y hy => hz (n + j) y (by omega) hy) x hx
    rw [around_q hg]
    omega
theorem gt_sup {o : Gop} {n B : Int} (hf : PlFit o n B) {s : Nat → Nm} (h : Sup n s) : Sup n (gt o s) := fun j x hj hx => by
  refine gt_nought (fun _ => ?_) (fun y hy => h j y hj hy) x hx
  have := hf.q
  omega
theorem oc_sup {n q v : Int} {s : Nat → Nm} (h : Sup n s) : Sup n (oc q v s) := fun j x hj hx => by
  unfold oc
  rw [h j x hj hx, ite_self]
theorem oc_kp {q v : Int} {s : Nat → Nm} (h : ∀ x, Kpt (s x)) (x : Nat) : Kpt (oc q v s x) := by
  unfold oc
  by_cases e : (if bt x q = true then (1 : Int) else 0) = v
  · rw [if_pos e]; exact h x
  · rw [if_neg e]; exact Kpt.zero
/-- Gates alone, in a shot. -/
theorem plM_efk (want : List Int) : ∀ (l : List Gop) (r : List Gop) (i : Nat) (s : Nat → Nm) (bits : List Int) (u : Nat), (∀ g ∈ l, g.kind < 5) → plM want (l ++ r) i s bits u = plM want r (i + l.length) (efk bits l s) bits u
  | [], r, i, s, bits, u, _ => rfl
  | o :: l, r, i, s, bits, u, h => by
    rw [List.cons_append, efk_cons, List.length_cons]
    cases hc : cnM bits o.cnd
    · rw [plM_skip hc, plM_efk want l r _ _ _ _ (fun g hg => h g (by simp [hg]))]
      simp only [Bool.false_eq_true, if_false]
      congr 1
      omega
    · rw [plM_gate hc (h o (by simp)), plM_efk want l r _ _ _ _ (fun g hg => h g (by simp [hg]))]
      simp only [if_true]
      congr 1
      omega
/-- Two shots that end alike, but for where. -/
structure Alk (a b : Sho) : Prop where
  f : a.f.1 = b.f.1
  s : a.s = b.s
  bits : a.bits = b.bits
  u : a.u = b.u
theorem low_bas {o : Gop} {n B : Int} (hcode : opCode o n B = 0) (hk : ¬ o.kind < 5) : lowO n o = [o] := by
  have f := opFit_of hcode
  unfold lowO
  rw [if_pos]
  unfold isBas
  cases e : o.ctl with
  | nil => rfl
  | cons c l =>
    have := f.use (by rw [e]; simp)
    omega
theorem low_kind {o : Gop} {n B : Int} (hcode : opCode o n B = 0) (hk : o.kind < 5) : ∀ g ∈ lowO n o, g.kind < 5 := by
  have hm := low_mts hcode
  have h0 : mtO o = 0 := by unfold mtO; rw [if_neg (by omega)]
  rw [h0] at hm
  intro g hg
  by_cases e : g.kind < 5
  · exact e
  · exfalso
    have hz : ∀ (l : List Gop), g ∈ l → 1 ≤ mts l := fun l hl => by
      induction l with
      | nil => simp at hl
      | cons a r ih =>
        unfold mts
        rw [List.map_cons, List.sum_cons]
        rcases List.mem_cons.1 hl with rfl | hl
        · have : mtO g = 1 := by unfold mtO; rw [if_pos (by omega)]
          omega
        · have := ih hl
          unfold mts at this
          omega
    have := hz _ hg
    omega
/-- THE LAYER'S THEOREM: a shot of basic gates is the shot of the circuit. -/
theorem low_shot {n B : Int} (hn1 : 1 ≤ n) (hB0 : 0 ≤ B) (hB : B ≤ 12) (want : List Int) : ∀ (ops : List Gop) (i i' : Nat) (s : Nat → Nm) (bits : List Int) (u : Nat), (∀ o ∈ ops, opCode o n B = 0 ∧ n + wnt o ≤ 12) → (∀ x, Kpt (s x)) → Sup n s →
    Alk (plM want (lowA n ops) i s bits u) (plM want ops i' s bits u) ∧ Sup n (plM want ops i' s bits u).s
  | [], i, i', s, bits, u, _, _, hz => ⟨⟨rfl, rfl, rfl, rfl⟩, hz⟩
  | o :: r, i, i', s, bits, u, hall, h, hz => by
    obtain ⟨hcode, hN⟩ := hall o (by simp)
    have hr : ∀ p ∈ r, opCode p n B = 0 ∧ n + wnt p ≤ 12 := fun p hp => hall p (by simp [hp])
    have hwn := Int.natCast_nonneg (wnt o)
    have hfit := plFit_of_code hn1 (by omega) hB0 hB hcode
    have e : lowA n (o :: r) = lowO n o ++ lowA n r := by unfold lowA; simp
    rw [e]
    by_cases hk : o.kind < 5
    · rw [plM_efk want _ _ _ _ _ _ (low_kind hcode hk), low_does hcode (by omega) hN hk h hz]
      cases hc : cnM bits o.cnd
      · rw [plM_skip hc]
        simp only [Bool.false_eq_true, if_false]
        exact low_shot hn1 hB0 hB want r _ _ s bits u hr h hz
      · rw [plM_gate hc hk]
        simp only [if_true]
        exact low_shot hn1 hB0 hB want r _ _ _ bits u hr (gt_kp h) (gt_sup hfit hz)
    · rw [low_bas hcode hk, List.singleton_append]
      cases hc : cnM bits o.cnd
      · rw [plM_skip hc, plM_skip hc]
        exact low_shot hn1 hB0 hB want r _ _ s bits u hr h hz
      · by_cases hu : u = want.length
        · rw [plM_out hc hk hu, plM_out hc hk hu]
          exact ⟨⟨rfl, rfl, rfl, rfl⟩, hz⟩
        · obtain ⟨v, hv⟩ : ∃ v, want.getD u 0 = v := ⟨_, rfl⟩
          by_cases hb : v ≠ 0 ∧ v ≠ 1
          · rw [plM_bad hc hk hu hv hb, plM_bad hc hk hu hv hb]
            exact ⟨⟨rfl, rfl, rfl, rfl⟩, hz⟩
          · have hb' : v = 0 ∨ v = 1 := by omega
            by_cases h5 : o.kind = 5
            · rw [plM_bit hc h5 hu hv hb', plM_bit hc h5 hu hv hb']
              exact low_shot hn1 hB0 hB want r _ _ _ _ _ hr (oc_kp h) (oc_sup hz)
            · rcases hb' with rfl | rfl
              · rw [plM_nought hc hk h5 hu hv, plM_nought hc hk h5 hu hv]
                exact low_shot hn1 hB0 hB want r _ _ _ _ _ hr (oc_kp h) (oc_sup hz)
              · rw [plM_one hc hk h5 hu hv, plM_one hc hk h5 hu hv]
                refine low_shot hn1 hB0 hB want r _ _ _ _ _ hr (gt_kp (oc_kp h)) (fun j x hj hx => ?_)
                refine gt_nought (fun _ => ?_) (fun y hy => oc_sup hz j y hj hy) x hx
                have := hfit.q
                show o.q.toNat ≠ j.toNat
                omega
end Go.Proofs.YthgmlhddanbbpaaDoor
namespace Go.Proofs.YthgmlhddanbbpaaDoor
variable {Qc : Nat → Prop}
open Go.RowKit

/-- What is laid where those below j have been gone through. -/
def op (q v : Int) (s : Nat → Nm) (j y : Nat) : Nm := if y < j then oc q v s y else nZ
theorem op_yes {q v : Int} {s : Nat → Nm} {j : Nat} (h : (if bt j q then (1 : Int) else 0) = v) (y : Nat) : op q v s (j + 1) y = if y = j then s j else op q v s j y := by
  unfold op
  by_cases e : y = j
  · subst e
    rw [if_pos (Nat.lt_succ_self _), if_pos rfl]
    unfold oc
    rw [if_pos h]
  · rw [if_neg e]
    have e1 : (y < j + 1) = (y < j) := propext (by omega)
    simp only [e1]
theorem op_no {q v : Int} {s : Nat → Nm} {j : Nat} (h : ¬ (if bt j q then (1 : Int) else 0) = v) (y : Nat) : op q v s (j + 1) y = op q v s j y := by
  unfold op
  by_cases e : y = j
  · subst e
    rw [if_pos (Nat.lt_succ_self _), if_neg (Nat.lt_irrefl _)]
    unfold oc
    rw [if_neg h]
  · have e1 : (y < j + 1) = (y < j) := propext (by omega)
    simp only [e1]
set_option maxRecDepth 100000 in
set_option maxHeartbeats 4000000 in
theorem QOutcome_any (s : Nat → Nm) (m b cp qn : Nat) (v : Int) (P E : Nat) (w : World) (hS : RsAt Qc w b m s P E) (hm2 : m ≤ 4096) (hq : qn ≤ 60) :
    Calls Tryd.prog 23 #[.slice (some ⟨b, 0, none⟩) m cp, .int .i64 (qn : Int), .int .i64 v] w fun e w' => ∃ b', e = .returned (.slice (some ⟨b', 0, none⟩) m m) ∧ RsAt Qc w' b' m (oc (qn : Int) v s) P E ∧ w.heap.size ≤ b' ∧ Ext w w' := by
  obtain ⟨H, hH⟩ : ∃ H, w.heap.size = H := ⟨_, rfl⟩
  have hbH : b < H := by rw [← hH]; exact hS.lt
  have HS := Lib.hid hS; have Hm2 := Lib.hid hm2; have HH := Lib.hid hH; have HbH := Lib.hid hbH
  have Hb := Lib.hid (fun (j : Nat) (wx : World) => bitOf_st j (qn : Int) wx (by omega) (by omega))
  clear hS hm2 hH hbH hq
  go_enter Tryd.func23, Tryd.ntmps23
  go_wp2_with (refine wpList_make_R (Qc := Qc) w rfl _ _ rfl .i64 .i64 (m : Int) (m : Int) m rfl rfl rfl rfl (by have := Hm2.out; omega) ?_; intro w1 hR hE1 hl1)
  rw [HH.out] at hR hl1 ⊢
  have HG0 := Lib.hid (show RsAt Qc w1 b m s P E ∧ RsAt Qc w1 H m (op (qn : Int) v s 0) P E ∧ Ext w w1 from ⟨HS.out.ext hE1, (hR P E).congr (fun y _ => by unfold op; rw [if_neg (Nat.not_lt_zero _)]), hE1⟩)
  clear hR hE1 hl1 HS
  go_loopg [8] m (fun kk s8 wr => ∃ j : Nat, s8 = .int .i64 (j : Int) ∧ j ≤ m ∧ m - j = kk ∧ RsAt Qc wr b m s P E ∧ RsAt Qc wr H m (op (qn : Int) v s j) P E ∧ Ext w wr)
  case atStart => exact ⟨0, rfl, by omega, by omega, HG0.out⟩
  case round =>
    obtain ⟨j, rfl, hj, hkk, hG⟩ := hrel
    clear HG0
    have HG := Lib.hid hG; have Hkk := Lib.hid hkk
    clear hG hkk
    by_cases hjm : j = m
    · have Hend := Lib.hid (show RsAt Qc wr H m (oc (qn : Int) v s) P E ∧ w.heap.size ≤ H ∧ Ext w wr from ⟨HG.out.2.1.congr (fun y hy => by unfold op; rw [hjm, if_pos hy]), by rw [HH.out]; exact Nat.le_refl _, HG.out.2.2⟩)
      have q1 : ¬ (j : Int) < (m : Int) := by omega
      clear hjm hj
      go_wp2_with fail
      go_ret
      exact ⟨_, rfl, Hend.out⟩
    have hlt : j < m := by omega
    have q1 : (j : Int) < (m : Int) := by omega
    have q0 : (0 : Int) ≤ (j : Int) := by omega
    have wk : IntKind.i64.wrap ((j : Int) + 1) = ((j + 1 : Nat) : Int) := by rw [IntKind.wrap_i64]; have := Hm2.out; omega
    have Hlt := Lib.hid hlt
    clear hjm hj hlt
    obtain ⟨r, hr⟩ : ∃ r : Int, (if bt j (qn : Int) then (1 : Int) else 0) = r := ⟨_, rfl⟩
    have Hbj := Lib.hid (Hb.out j wr)
    rw [hr] at Hbj
    by_cases hrv : r = v
    · subst hrv
      obtain ⟨cl, hcl, hRl, hln⟩ := HG.out.1.at Hlt.out
      have hil : (Tryd.prog.info? 43).map (·.size) = some cl.length := by rw [hln]; exact R_size
      have ht : wr.there H (j * 17) cl.toArray.size := by rw [hRl.size]; exact HG.out.2.1.there Hlt.out
      have hinf := hRl.info; have hone := hRl.val.one
      obtain ⟨k1, k2⟩ := HG.out.2.1.set Hlt.out hRl
      have HG4 := Lib.hid (show RsAt Qc (wr.setCells H (j * 17) cl.toArray.toList) b m s P E ∧ RsAt Qc (wr.setCells H (j * 17) cl.toArray.toList) H m (op (qn : Int) r s (j + 1)) P E ∧ Ext w (wr.setCells H (j * 17) cl.toArray.toList) from ⟨HG.out.1.chz k2 HG.out.2.1.no (by have := HbH.out; omega), k1.congr (fun y _ => (op_yes hr y).symm), k2.ext HG.out.2.2 (by rw [HH.out]; exact Nat.le_refl _)⟩)
      clear k1 k2 hRl hln hr HG
      go_wp2_with fail
      refine Hbj.out.mono ?_
      rintro e w2 ⟨rfl, rfl⟩
      go_wp2_with (first | refine wpList_load_mid rfl 43 _ rfl b (j * 17) rfl cl _ hcl Tryd.underlying43 rfl hil ?_ | refine wpList_store_mid rfl 43 _ _ rfl H (j * 17) cl.toArray rfl rfl ht hinf hone ?_)
      go_roundg (m - (j + 1))
      case measure => have := Hkk.out; have := Hlt.out; omega
      case rel => exact ⟨j + 1, rfl, Hlt.out, rfl, HG4.out⟩
    · have HG4 := Lib.hid (show RsAt Qc wr b m s P E ∧ RsAt Qc wr H m (op (qn : Int) v s (j + 1)) P E ∧ Ext w wr from ⟨HG.out.1, HG.out.2.1.congr (fun y _ => (op_no (by rw [hr]; exact hrv) y).symm), HG.out.2.2⟩)
      have kn : (r == v) = false := by simpa using hrv
      clear hr HG hrv
      go_wp2_with fail
      refine Hbj.out.mono ?_
      rintro e w2 ⟨rfl, rfl⟩
      go_wp2_with fail
      go_roundg (m - (j + 1))
      case measure => have := Hkk.out; have := Hlt.out; omega
      case rel => exact ⟨j + 1, rfl, Hlt.out, rfl, HG4.out⟩
end Go.Proofs.YthgmlhddanbbpaaDoor
namespace Go.Proofs.YthgmlhddanbbpaaDoor
variable {Qc : Nat → Prop}
open Go.RowKit

theorem ClQ.wide {Q' : Nat → Prop} {w : World} {ao : Option Addr} {z : Int} (h : ClQ Qc w ao z) (k : ∀ b, Qc b → Q' b) : ClQ Q' w ao z := h.imp id fun h => ⟨fun b hb => k b (h.1 b hb), fun a ha => k _ (h.2 a ha)⟩
theorem IsZ.wide {Q' : Nat → Prop} {w : World} {neg : Bool} {ao : Option Addr} {n c : Nat} {z : Int} (h : IsZ Qc w neg ao n c z) (k : ∀ b, Qc b → Q' b) : IsZ Q' w neg ao n c z := by
  obtain ⟨l, h1, h2, h3, h4, h5, h6, h7, h8, h9⟩ := h
  exact ⟨l, h1, h2, h3, h4, h5, h6, h7, h8, h9.wide k⟩
theorem ZCs.wide {Q' : Nat → Prop} {w : World} {cs : Array Value} {f : Nat → Int} {e : Int} (h : ZCs Qc w cs f e) (k : ∀ b, Qc b → Q' b) : ZCs Q' w cs f e :=
  ⟨h.1, fun i hi => by obtain ⟨b, a, n, c, q1, q2, q3⟩ := h.2.1 i hi; exact ⟨b, a, n, c, q1, q2, q3.wide k⟩, h.2.2⟩
theorem RmA.wide {Q' : Nat → Prop} {w : World} {cs : Array Value} {x : Nm} {P E : Nat} (h : RmA Qc w cs x P E) (k : ∀ b, Qc b → Q' b) : RmA Q' w cs x P E := ⟨h.anti, h.low, h.abs, h.down, h.val.wide k⟩
theorem RsAt.wide {Q' : Nat → Prop} {w : World} {b n : Nat} {s : Nat → Nm} {P E : Nat} (h : RsAt Qc w b n s P E) (k : ∀ b, Qc b → Q' b) : RsAt Q' w b n s P E := by
  obtain ⟨cs, h1, h2, h3⟩ := h.row
  refine ⟨cs, h1, h2, fun x hx => ?_⟩
  obtain ⟨c, g1, g2⟩ := h3 x hx
  exact ⟨c, g1, g2.wide k⟩
/-- The empty list lies anywhere. -/
theorem IsZ.apart {w w' : World} {g : Nat} {neg : Bool} {ao : Option Addr} {n c : Nat} {z : Int} (h : IsZ Qc w neg ao n c z) (hc : ChZ g w w') (hg : ¬ Qc g) (hI : IBlk w g → IBlk w' g) : IsZ Qc w' neg ao n c z := by
  obtain ⟨l, h1, h2, h3, h4, h5, h6, h7, h8, h9⟩ := h
  refine ⟨l, h1, h2, h3, ?_, h5, h6, h7, h8, h9.grow hc.size⟩
  rcases h4 with h4 | ⟨b, o, rfl, hb, hcc⟩
  · exact Or.inl h4
  · by_cases hne : b = g
    · rw [hne] at hb h9 ⊢
      rcases h9 with h0 | h9
      · have hl : l = [] := by
          rcases h6 with e | e
          · exact e
          · exfalso
            have hpos : 0 < l.length := by
              cases l with
              | nil => simp at e
              | cons => simp
            have := zval_lt_len ZD.nil (Or.inr e) (show [].length < l.length from hpos)
            have e0 : zval [] = 0 := rfl
            rw [e0] at this
            rw [h0] at h7
            split at h7 <;> omega
        subst hl
        exact Or.inr ⟨g, o, rfl, hI hb, fun t ht => by simp at ht⟩
      · exact absurd (h9.2 _ rfl) hg
    · have hblk := hc.block b hne hb.lt
      exact Or.inr ⟨b, o, rfl, hb.block hblk, fun t ht => (World.cell?_of_block (a := ⟨b, o + t, none⟩) hblk).trans (hcc t ht)⟩
theorem RsAt.apart {w w' : World} {b n g : Nat} {s : Nat → Nm} {P E : Nat} (h : RsAt Qc w b n s P E) (hc : ChZ g w w') (hg : ¬ Qc g) (hI : IBlk w g → IBlk w' g) (hne : b ≠ g) : RsAt Qc w' b n s P E := by
  obtain ⟨cs, h1, h2, h3⟩ := h.row
  refine ⟨cs, hc.row h1 hne, h2, fun x hx => ?_⟩
  obtain ⟨c, g1, g2⟩ := h3 x hx
  exact ⟨c, g1, g2.anti, g2.low, g2.abs, g2.down, g2.val.1, fun i hi => by obtain ⟨b, a, n, c, q1, q2, q3⟩ := g2.val.2.1 i hi; exact ⟨b, a, n, c, q1, q2, q3.apart hc hg hI⟩, g2.val.2.2⟩
end Go.Proofs.YthgmlhddanbbpaaDoor
namespace Go.Proofs.YthgmlhddanbbpaaDoor
variable {Qc : Nat → Prop}
open Go.RowKit

theorem LimQ.but {w : World} {g : Nat} (h : g < w.heap.size) : LimQ (fun k => k ≠ g) w := fun b hb => by show b ≠ g; omega
theorem IsZ.fresh {w W : World} {g : Nat} {neg : Bool} {ao : Option Addr} {n c : Nat} {z : Int} (h : IsZ Qc w neg ao n c z) (k : Ext w W) (h1 : w.heap.size ≤ g) (h2 : g < W.heap.size) : IsZ (fun k => k ≠ g) W neg ao n c z := by
  obtain ⟨l, p1, p2, p3, p4, p5, p6, p7, p8, _⟩ := h
  refine ⟨l, p1, p2, p3, p4.ext k, p5, p6, p7, p8, Or.inr ⟨LimQ.but h2, fun a ha => ?_⟩⟩
  rcases p4 with ⟨e, _⟩ | ⟨b, o, e, hb, _⟩
  · rw [e] at ha; cases ha
  · rw [e] at ha
    cases ha
    have := hb.lt
    show b ≠ g
    omega
theorem RsAt.fresh {w W : World} {b n g : Nat} {s : Nat → Nm} {P E : Nat} (h : RsAt Qc w b n s P E) (k : Ext w W) (h1 : w.heap.size ≤ g) (h2 : g < W.heap.size) : RsAt (fun k => k ≠ g) W b n s P E := by
  have hl := h.lt
  obtain ⟨cs, e1, e2, e3⟩ := h.row
  refine ⟨cs, (k.block _ hl).trans e1, e2, fun x hx => ?_⟩
  obtain ⟨c, g1, g2⟩ := e3 x hx
  exact ⟨c, g1, g2.anti, g2.low, g2.abs, g2.down, g2.val.1, fun i hi => by obtain ⟨b, a, n, c, q1, q2, q3⟩ := g2.val.2.1 i hi; exact ⟨b, a, n, c, q1, q2, q3.fresh k h1 h2⟩, g2.val.2.2⟩
end Go.Proofs.YthgmlhddanbbpaaDoor
