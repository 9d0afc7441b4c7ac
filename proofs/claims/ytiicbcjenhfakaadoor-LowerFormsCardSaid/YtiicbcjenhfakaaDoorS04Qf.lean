/-
  Basic gates in plain lists: of an operation without a fault. Nothing of the program stands here. Basic gates: the small functions of both sides. The reference's Parse of any text that is not too long. Basic gates: how many spare qubits an operation wants; how many operations have controls; the most that one wants: the program's, and the reference's fault. Basic gates: how many operations have controls; the most spare qubits that one wants. Basic gates: the reference: how many spare qubits an operation wants; Base's fault.
-/
import Derived.Test.YtiicbcjenhfakaaDoorProg
import Derived.Test.YtiicbcjenhfakaaDoorRows
import Derived.BigQuiet
import Derived.Deep.AppendLies
import Derived.Deep.Cut
import Derived.Deep.CutRange
import Derived.Deep.LoopGhost
import Derived.Deep.QuietTactic
import Derived.Deep.RegionHeld3
import Derived.Defers
import Derived.Ground.Names2Prog
import Derived.Ground.SlgnProg
import Derived.Laws.Bits64b
import Derived.Laws.Concat
import Derived.Laws.CopyOwn
import Derived.Laws.IdiomStrings
import Derived.Laws.ResultCell
import Derived.Lib.AppendStr
import Derived.Lib.BitFns
import Derived.Lib.Hide
import Derived.Lib.ItoaMem
import Derived.Lib.ItoaNum
import Derived.Lib.Strings
import Derived.Lib.TrailingZeros
import Derived.Maps.AppendAt
import Derived.OwnWalk
import Derived.Recover
import Derived.Shelf.Slices.Clone
import Derived.Shelf.Slices.Turned
import Derived.Shelf.SlicesE.Clone
import Derived.Shelf.Spec.TrailingZeros
import Derived.WalkKit
import Derived.WalkLawsBesides
import Derived.WalkSpells
import Derived.Test.YtiicbcjenhfakaaDoorS00Ck
import Derived.Test.YtiicbcjenhfakaaDoorS01Cp
import Derived.Test.YtiicbcjenhfakaaDoorShelf
import Derived.Test.YtiicbcjenhfakaaDoorS03Qa
namespace Go.Proofs.YtiicbcjenhfakaaDoor

theorem ctl_ne (q n : Int) : ∀ (l s : List Int), ctlCode q n s l = 0 → ∀ c ∈ l, c ≠ q
  | [], _, _ => fun c hc => by simp at hc
  | d :: r, s, h => by
    unfold ctlCode at h
    split at h
    · omega
    split at h
    · omega
    rename_i h1 h2
    intro c hc
    rcases List.mem_cons.1 hc with rfl | hc
    · exact fun e => h2 (Or.inl e)
    · exact ctl_ne q n r _ h c hc
theorem ctl_wide (q : Int) {n N : Int} (hN : n ≤ N) : ∀ (l s : List Int), ctlCode q n s l = 0 → ctlCode q N s l = 0
  | [], _, _ => rfl
  | d :: r, s, h => by
    unfold ctlCode at h ⊢
    split at h
    · omega
    rename_i h1
    split at h
    · omega
    rename_i h2
    have h3 : below d n = true := by simpa using h1
    have h4 := below_iff.1 h3
    rw [if_neg (by rw [below_of (n := N) (by omega)]; decide), if_neg h2]
    exact ctl_wide q hN r _ h
/-- What an operation without a fault keeps to. -/
structure OpFit (o : Gop) (n B : Int) : Prop where
  kd : 1 ≤ o.kind ∧ o.kind ≤ 6
  k : 0 ≤ o.k ∧ o.k < 16
  q : 0 < o.ctl.length → 0 ≤ o.q ∧ o.q < n
  ctl : ∀ c ∈ o.ctl, (0 ≤ c ∧ c < n) ∧ c ≠ o.q
  nd : o.ctl.Nodup
  use : 0 < o.ctl.length → o.kind = 2 ∨ o.kind = 3 ∨ o.kind = 4
  cnd : cndOk B o.cnd = true
  len : 0 < o.ctl.length → n ≤ 12 → o.ctl.length ≤ 11
theorem opFit_of {o : Gop} {n B : Int} (h : opCode o n B = 0) : OpFit o n B := by
  unfold opCode at h
  split at h
  · omega
  rename_i hk
  split at h
  · omega
  rename_i hkk
  split at h
  · omega
  rename_i hq
  split at h
  · omega
  rename_i hu
  split at h
  · exact absurd h (by assumption)
  rename_i hc
  split at h
  · omega
  split at h
  · omega
  rename_i hcn
  have hc0 : ctlCode o.q n [] o.ctl = 0 := by
    by_cases e : ctlCode o.q n [] o.ctl = 0
    · exact e
    · exact absurd e hc
  obtain ⟨z1, z2⟩ := ctlCode_zero o.q n o.ctl [] hc0
  have z3 : o.ctl.Nodup := by simpa using z2 (by simp)
  have zne := ctl_ne o.q n o.ctl [] hc0
  have huse : 0 < o.ctl.length → o.kind = 2 ∨ o.kind = 3 ∨ o.kind = 4 := fun hl => by
    have : usesC o.kind = true := by
      by_cases e : usesC o.kind = false
      · exact absurd ⟨hl, e⟩ hu
      · simpa using e
    unfold usesC at this
    simp only [Bool.or_eq_true, beq_iff_eq] at this
    omega
  have hqq : 0 < o.ctl.length → 0 ≤ o.q ∧ o.q < n := fun hl => by
    have hk3 := huse hl
    have : usesQ o.kind = true := by
      unfold usesQ
      rcases hk3 with e | e | e <;> rw [e] <;> rfl
    unfold fitsB at hq
    rw [this] at hq
    have : below o.q n = true := by simpa using hq
    exact below_iff.1 this
  refine ⟨by omega, ?_, hqq, fun c hc => ⟨z1 c hc, zne c hc⟩, z3, huse, by simpa using hcn, fun hl hn => ?_⟩
  · unfold fitsB at hkk
    split at hkk
    · have : below o.k 16 = true := by simpa using hkk
      exact below_iff.1 this
    · have : o.k = 0 := by simpa using hkk
      omega
  · have h1 : (o.ctl ++ [o.q]).Nodup := by
      rw [List.nodup_append]
      refine ⟨z3, by simp, fun a ha b hb => ?_⟩
      have : b = o.q := by simpa using hb
      rw [this]
      exact zne a ha
    have := pigeon 12 (o.ctl ++ [o.q]) h1 (fun c hc => by
      rcases List.mem_append.1 hc with hc | hc
      · have := z1 c hc; omega
      · have e : c = o.q := by simpa using hc
        have := hqq hl
        rw [e]; omega)
    simp at this
    omega
theorem code_wide {o : Gop} {n N B : Int} (h : opCode o n B = 0) (hN : n ≤ N) : opCode o N B = 0 := by
  unfold opCode at h ⊢
  by_cases a1 : o.kind < 1 ∨ 6 < o.kind
  · rw [if_pos a1] at h; omega
  rw [if_neg a1] at h ⊢
  by_cases a2 : fitsB o.k 16 (usesK o.kind) = false
  · rw [if_pos a2] at h; omega
  rw [if_neg a2] at h ⊢
  by_cases a3 : fitsB o.q n (usesQ o.kind) = false
  · rw [if_pos a3] at h; omega
  rw [if_neg a3] at h
  have a3' : ¬ fitsB o.q N (usesQ o.kind) = false := by
    have h3 : fitsB o.q n (usesQ o.kind) = true := by simpa using a3
    have : fitsB o.q N (usesQ o.kind) = true := by
      unfold fitsB at h3 ⊢
      split
      · rename_i hu
        rw [if_pos hu] at h3
        have := below_iff.1 h3
        exact below_of (by omega)
      · rename_i hu
        rw [if_neg hu] at h3
        exact h3
    simp [this]
  rw [if_neg a3']
  by_cases a4 : 0 < o.ctl.length ∧ usesC o.kind = false
  · rw [if_pos a4] at h; omega
  rw [if_neg a4] at h ⊢
  by_cases a5 : ctlCode o.q n [] o.ctl = 0
  · rw [if_neg (fun e => e a5)] at h
    rw [if_neg (fun e => e (ctl_wide o.q hN o.ctl [] a5))]
    exact h
  · rw [if_pos a5] at h
    exact absurd h a5
theorem ang_range {o : Gop} (h : 0 ≤ o.k ∧ o.k < 16) : 0 ≤ ang o ∧ ang o < 16 := by unfold ang; split <;> omega
theorem div_range {k : Int} (h : 0 ≤ k ∧ k < 16) (m : Nat) : 0 ≤ k / 2 ^ m ∧ k / 2 ^ m < 16 := by
  have hp : (0 : Int) < 2 ^ m := Int.pow_pos (by decide)
  refine ⟨Int.ediv_nonneg h.1 (Int.le_of_lt hp), ?_⟩
  exact Int.lt_of_le_of_lt (Int.ediv_le_self _ h.1) h.2
/-- Each is a basic gate without a fault. -/
theorem low_ok {o : Gop} {n N B : Int} (h : opCode o n B = 0) (h0 : 0 ≤ n) (hN : n + wnt o ≤ N) : ∀ g ∈ lowO n o, LOk N B g := by
  have f := opFit_of h
  intro g hg
  unfold lowO at hg
  split at hg
  · rename_i hb
    have : g = o := by simpa using hg
    rw [this]
    exact ⟨code_wide h (by have := Int.natCast_nonneg (wnt o); omega), hb⟩
  rename_i hb
  split at hg
  · simp at hg
  have hl : 0 < o.ctl.length := by
    cases e : o.ctl with
    | nil => exact absurd (by unfold isBas; simp [e]) hb
    | cons => simp
  have hq := f.q hl
  have har := lOk_around (N := N) (B := B) (o := o) (by have := Int.natCast_nonneg (wnt o); omega)
  have hw := wntF_le (ang o) o.ctl.length
  rcases List.mem_append.1 hg with hg | hg
  · rcases List.mem_append.1 hg with hg | hg
    · exact har g hg
    · refine lOk_joined h0 (fun qs hn hr g hg => ?_) (wnt o) (o.ctl ++ [o.q]) hN (by simp; unfold wnt; omega) ?_ ?_ g hg
      · have := div_range (ang_range f.k) (qs.length - 1)
        exact lOk_all hn hr f.cnd (by omega) qs.length (Nat.le_refl _) g hg
      · rw [List.nodup_append]
        refine ⟨f.nd, by simp, fun a ha b hb => ?_⟩
        have : b = o.q := by simpa using hb
        rw [this]
        exact (f.ctl a ha).2
      · intro c hc
        have := Int.natCast_nonneg (wnt o)
        rcases List.mem_append.1 hc with hc | hc
        · have := f.ctl c hc
          exact ⟨by omega, Or.inl (by omega)⟩
        · have e : c = o.q := by simpa using hc
          rw [e]
          exact ⟨by omega, Or.inl (by omega)⟩
  · exact lOk_inv har (fun g hg => kind_around hg) g hg
theorem len_around (o : Gop) : (lAround o).length ≤ 4 := by
  unfold lAround
  split
  · simp
  · split <;> simp
/-- They are not too many. -/
theorem low_len {o : Gop} {n B : Int} (h : opCode o n B = 0) (hn : n ≤ 12) : (lowO n o).length ≤ if 0 < o.ctl.length then 221 else 1 := by
  have f := opFit_of h
  unfold lowO
  split
  · simp only [List.length_cons, List.length_nil]
    split <;> omega
  rename_i hb
  have hl : 0 < o.ctl.length := by
    cases e : o.ctl with
    | nil => exact absurd (by unfold isBas; simp [e]) hb
    | cons => simp
  rw [if_pos hl]
  split
  · simp
  rename_i hne
  have h11 := f.len hl hn
  have hw := wntF_le (ang o) o.ctl.length
  obtain ⟨l, h1, h2⟩ := len_joined n (lBody (ang o) o.cnd) (wnt o) (o.ctl ++ [o.q]) (by simp; unfold wnt; omega)
  have ha := len_around o
  simp only [List.length_append, len_inv, h2]
  simp only [List.length_append, List.length_cons, List.length_nil] at h1
  have hr := ang_range f.k
  have hd := wntF_div (ang o) o.ctl.length
  obtain ⟨r, hr1⟩ : ∃ r, o.ctl.length - wnt o = r := ⟨_, rfl⟩
  have hlr : l.length = r + 1 := by unfold wnt at hr1 h1; omega
  have hr4 : r ≤ 3 := by
    by_cases e : r ≤ 3
    · exact e
    · exfalso
      have h3 : ang o % 2 ^ r = 0 := by rw [← hr1]; exact hd
      have h4 : (16 : Int) ≤ 2 ^ r := by
        have h5 : (2 : Nat) ^ 4 ≤ 2 ^ r := Nat.pow_le_pow_right (by decide) (by omega)
        have h6 : ((2 ^ r : Nat) : Int) = (2 : Int) ^ r := by rw [Int.natCast_pow]; rfl
        rw [← h6]
        have h7 : (2 : Nat) ^ 4 = 16 := by decide
        omega
      rw [Int.emod_eq_of_lt hr.1 (by omega)] at h3
      exact hne h3
  have hA := len_all l o.cnd (ang o / 2 ^ (l.length - 1)) l.length (Nat.le_refl _)
  have hbd : (lBody (ang o) o.cnd l).length ≤ 4 * 2 ^ (r + 1) ∧ (r = 0 → (lBody (ang o) o.cnd l).length = 1) := by
    unfold lBody
    rw [hlr] at hA ⊢
    exact ⟨hA.1, fun e => hA.2.2 (by omega)⟩
  have hwr : wnt o + r = o.ctl.length := by unfold wnt at hr1 ⊢; omega
  have e : r = 0 ∨ r = 1 ∨ r = 2 ∨ r = 3 := by omega
  rcases e with rfl | rfl | rfl | rfl
  · have := hbd.2 rfl; omega
  · have := hbd.1; omega
  · have := hbd.1; omega
  · have := hbd.1; omega
/-- How many there are that measure or reset. -/
def mtO (g : Gop) : Nat := if 5 ≤ g.kind then 1 else 0
def mts (l : List Gop) : Nat := (l.map mtO).sum
theorem mts_append (a b : List Gop) : mts (a ++ b) = mts a + mts b := by unfold mts; simp
theorem mts_zero {l : List Gop} (h : ∀ g ∈ l, g.kind < 5) : mts l = 0 := by
  induction l with
  | nil => rfl
  | cons a r ih =>
    have h1 := h a (by simp)
    have h2 := ih (fun g hg => h g (by simp [hg]))
    unfold mts at h2 ⊢
    rw [List.map_cons, List.sum_cons, h2]
    unfold mtO
    rw [if_neg (by omega)]
theorem kind_sums {q : Int} {others cnd : List Int} : ∀ (r i : Nat) (k : Int), ∀ g ∈ lSums q others cnd r i k, g.kind < 5
  | 0, _, _, g, h => by simp [lSums] at h
  | r + 1, i, k, g, h => by
    unfold lSums at h
    simp only [List.mem_cons, List.mem_append] at h
    rcases h with (rfl | h) | h
    · simp [lTurn]
    · split at h
      · simp at h
      · simp only [List.mem_cons, List.not_mem_nil, or_false] at h
        rw [h]; simp [lFlip]
    · exact kind_sums r (i + 1) (-k) g h
theorem kind_all {qs cnd : List Int} {part : Int} : ∀ i, ∀ g ∈ lAll qs cnd part i, g.kind < 5
  | 0, g, h => by simp [lAll] at h
  | i + 1, g, h => by
    unfold lAll at h
    rcases List.mem_append.1 h with h | h
    · exact kind_all i g h
    · exact kind_sums _ _ _ g h
theorem kind_inv {l : List Gop} (h : ∀ g ∈ l, g.kind < 5) : ∀ g ∈ invO l, g.kind < 5 := by
  intro g hg
  unfold invO at hg
  obtain ⟨x, hx, rfl⟩ := List.mem_map.1 hg
  exact h x (List.mem_reverse.1 hx)
theorem kind_joined {sp : Int} {body : List Int → List Gop} (hb : ∀ qs : List Int, ∀ g ∈ body qs, g.kind < 5) : ∀ (t : Nat) (qs : List Int), ∀ g ∈ lJoined sp body t qs, g.kind < 5
  | 0, qs, g, h => hb qs g h
  | t + 1, qs, g, h => by
    unfold lJoined at h
    have hj : ∀ g ∈ lJoin (qs.getD 0 0) (qs.getD 1 0) (sp + t), g.kind < 5 := fun g hg => by have := kind_join hg; omega
    rcases List.mem_append.1 h with h | h
    · rcases List.mem_append.1 h with h | h
      · exact hj g h
      · exact kind_joined hb t _ g h
    · exact kind_inv hj g h
theorem low_mts {o : Gop} {n B : Int} (h : opCode o n B = 0) : mts (lowO n o) = mtO o := by
  have f := opFit_of h
  unfold lowO
  split
  · unfold mts; simp
  rename_i hb
  have hl : 0 < o.ctl.length := by
    cases e : o.ctl with
    | nil => exact absurd (by unfold isBas; simp [e]) hb
    | cons => simp
  have hk := f.use hl
  have h0 : mtO o = 0 := by unfold mtO; rw [if_neg (by omega)]
  rw [h0]
  split
  · rfl
  have ha : ∀ g ∈ lAround o, g.kind < 5 := fun g hg => by have := kind_around hg; omega
  refine mts_zero (fun g hg => ?_)
  rcases List.mem_append.1 hg with hg | hg
  · rcases List.mem_append.1 hg with hg | hg
    · exact ha g hg
    · exact kind_joined (fun qs g hg => kind_all _ g hg) _ _ g hg
  · exact kind_inv ha g hg
end Go.Proofs.YtiicbcjenhfakaaDoor
namespace Go.Proofs.YtiicbcjenhfakaaDoor
open Go.RowKit

section
variable (kd k : Int) (a1 : Option Addr) (n1 c1 : Nat) (q bt : Int) (a2 : Option Addr) (n2 c2 : Nat) (w : World)
theorem isBasic_any : Calls Tryd.prog 24 #[.agg #[.int .i64 kd, .int .i64 k, .slice a1 n1 c1, .int .i64 q, .int .i64 bt, .slice a2 n2 c2]] w fun e w' => e = .returned (.bool (n1 == 0 || (n1 == 1 && kd == 2))) ∧ Ext w w' := by
  have HE := Lib.hid (ext_al w (.cells #[.int .i64 kd, .int .i64 k, .slice a1 n1 c1, .int .i64 q, .int .i64 bt, .slice a2 n2 c2] 37))
  have bx := opbx_new w kd k a1 n1 c1 q bt a2 n2 c2
  have m0 := bx.x0; have m2 := bx.x2
  clear bx
  by_cases h0 : n1 = 0
  · subst h0
    have e : ((0 : Nat) == 0 || ((0 : Nat) == 1 && kd == 2)) = true := rfl
    rw [e]
    go_enter Tryd.func24, Tryd.ntmps24
    go_wp2_with fail
    go_ret
    exact ⟨rfl, HE.out⟩
  · have b0 : ((n1 : Int) == 0) = false := by simp; omega
    by_cases h1 : n1 = 1
    · subst h1
      by_cases h2 : kd = 2
      · subst h2
        go_enter Tryd.func24, Tryd.ntmps24
        go_wp2_with fail
        go_ret
        exact ⟨rfl, HE.out⟩
      · have b2 : (kd == 2) = false := by simpa using h2
        have e : ((1 : Nat) == 0 || ((1 : Nat) == 1 && kd == 2)) = false := by rw [b2]; rfl
        rw [e]
        clear h2 b0 h0 e
        go_enter Tryd.func24, Tryd.ntmps24
        go_wp2_with fail
        go_ret
        exact ⟨rfl, HE.out⟩
    · have b1 : ((n1 : Int) == 1) = false := by simp; omega
      have e : (n1 == 0 || (n1 == 1 && kd == 2)) = false := by simp [h0, h1]
      rw [e]
      clear h0 h1 e
      go_enter Tryd.func24, Tryd.ntmps24
      go_wp2_with fail
      go_ret
      exact ⟨rfl, HE.out⟩
theorem RBasic_any : Calls Tryd.prog 10 #[.agg #[.int .i64 kd, .int .i64 k, .slice a1 n1 c1, .int .i64 q, .int .i64 bt, .slice a2 n2 c2]] w fun e w' => e = .returned (.bool (n1 == 0 || (n1 == 1 && kd == 2))) ∧ Ext w w' := by
  have HE := Lib.hid (ext_al w (.cells #[.int .i64 kd, .int .i64 k, .slice a1 n1 c1, .int .i64 q, .int .i64 bt, .slice a2 n2 c2] 37))
  have bx := opbx_new w kd k a1 n1 c1 q bt a2 n2 c2
  have m0 := bx.x0; have m2 := bx.x2
  clear bx
  by_cases h0 : n1 = 0
  · subst h0
    have e : ((0 : Nat) == 0 || ((0 : Nat) == 1 && kd == 2)) = true := rfl
    rw [e]
    go_enter Tryd.func10, Tryd.ntmps10
    go_wp2_with fail
    go_ret
    exact ⟨rfl, HE.out⟩
  · have b0 : ((n1 : Int) == 0) = false := by simp; omega
    by_cases h2 : kd = 2
    · subst h2
      by_cases h1 : n1 = 1
      · subst h1
        go_enter Tryd.func10, Tryd.ntmps10
        go_wp2_with fail
        go_ret
        exact ⟨rfl, HE.out⟩
      · have b1 : ((n1 : Int) == 1) = false := by simp; omega
        have e : (n1 == 0 || (n1 == 1 && (2 : Int) == 2)) = false := by simp [h0, h1]
        rw [e]
        clear h0 h1 e
        go_enter Tryd.func10, Tryd.ntmps10
        go_wp2_with fail
        go_ret
        exact ⟨rfl, HE.out⟩
    · have b2 : (kd == 2) = false := by simpa using h2
      have e : (n1 == 0 || (n1 == 1 && kd == 2)) = false := by rw [b2]; simp [h0]
      rw [e]
      clear h2 h0 e
      go_enter Tryd.func10, Tryd.ntmps10
      go_wp2_with fail
      go_ret
      exact ⟨rfl, HE.out⟩
theorem angle_any : Calls Tryd.prog 26 #[.agg #[.int .i64 kd, .int .i64 k, .slice a1 n1 c1, .int .i64 q, .int .i64 bt, .slice a2 n2 c2]] w fun e w' => e = .returned (.int .i64 (if kd = 2 ∨ kd = 3 then 8 else k)) ∧ Ext w w' := by
  have HE := Lib.hid (ext_al w (.cells #[.int .i64 kd, .int .i64 k, .slice a1 n1 c1, .int .i64 q, .int .i64 bt, .slice a2 n2 c2] 37))
  have bx := opbx_new w kd k a1 n1 c1 q bt a2 n2 c2
  have m0 := bx.x0; have m1 := bx.x1
  clear bx
  by_cases h2 : kd = 2
  · subst h2
    rw [if_pos (Or.inl rfl)]
    go_enter Tryd.func26, Tryd.ntmps26
    go_wp2_with fail
    go_ret
    exact ⟨rfl, HE.out⟩
  · have b2 : (kd == 2) = false := by simpa using h2
    by_cases h3 : kd = 3
    · subst h3
      rw [if_pos (Or.inr rfl)]
      clear h2 b2
      go_enter Tryd.func26, Tryd.ntmps26
      go_wp2_with fail
      go_ret
      exact ⟨rfl, HE.out⟩
    · have b3 : (kd == 3) = false := by simpa using h3
      rw [if_neg (by omega)]
      clear h2 h3
      go_enter Tryd.func26, Tryd.ntmps26
      go_wp2_with fail
      go_ret
      exact ⟨rfl, HE.out⟩
end
theorem fork_any (q : Int) (w : World) : Calls Tryd.prog 39 #[.int .i64 q] w fun e w' => e = .returned (.agg #[.int .i64 3, .int .i64 0, .slice none 0 0, .int .i64 q, .int .i64 0, .slice none 0 0]) ∧ Ext w w' := by
  go_enter Tryd.func39, Tryd.ntmps39
  go_wp2
  exact bodyPost_ret (v := .agg #[.int .i64 3, .int .i64 0, .slice none 0 0, .int .i64 q, .int .i64 0, .slice none 0 0]) (by simp [results, Tryd.results39, go_sem]) rfl ⟨rfl, ext_al _ _⟩
theorem turn_any (q k : Int) (w : World) (hk : -1000 ≤ k ∧ k ≤ 1000) : Calls Tryd.prog 40 #[.int .i64 q, .int .i64 k] w fun e w' => e = .returned (.agg #[.int .i64 4, .int .i64 ((k + 16).tmod 16), .slice none 0 0, .int .i64 q, .int .i64 0, .slice none 0 0]) ∧ Ext w w' := by
  obtain ⟨x, hx⟩ : ∃ x, k + 16 = x := ⟨_, rfl⟩
  have wx : IntKind.i64.wrap (k + 16) = x := by rw [IntKind.wrap_i64]; omega
  rw [hx]
  clear hx hk
  go_enter Tryd.func40, Tryd.ntmps40
  go_wp2
  exact bodyPost_ret (v := .agg #[.int .i64 4, .int .i64 (x.tmod 16), .slice none 0 0, .int .i64 q, .int .i64 0, .slice none 0 0]) (by simp [results, Tryd.results40, go_sem]) rfl ⟨rfl, ext_al _ _⟩
end Go.Proofs.YtiicbcjenhfakaaDoor
namespace Go.Proofs.YtiicbcjenhfakaaDoor
open Go.RowKit

/-- A region that draws its order, only reads, and calls what only makes memory, in the order of the text: over all worlds F x. -/
theorem wp_region_F {X : Type} {F : X → World} {id : Nat} {Q : Exit → Act → World → Prop} {a : Act} {w : World} {l : List Oper} (hm : Tryd.prog.follows .mixedOrders = true) (hB : Region.lexB .any l.toArray = true) (hC : ∃ x, w.drew = F x)
    (h : wpQuiet Tryd.prog l.toArray (fun w' => ∃ x, w' = F x) (fun a' => ∀ w', (∃ x, w' = F x) → Q .normal a' w') l a) : (Code.region id l.toArray true).wp Tryd.prog Q a w :=
  wp_region_quiet (C := fun w' => ∃ x, w' = F x) hm hB hC (by simpa using h)

end Go.Proofs.YtiicbcjenhfakaaDoor
namespace Go.Proofs.YtiicbcjenhfakaaDoor
open Go.RowKit

theorem shlN {q : Nat} (h : q ≤ 40) : wrap64 (2 ^ min q 64) = ((2 ^ q : Nat) : Int) := by
  have h1 : 2 ^ q ≤ 2 ^ 40 := Nat.pow_le_pow_right (by decide) h
  rw [show min q 64 = q by omega]
  have h2 : ((2 : Int) ^ q) = ((2 ^ q : Nat) : Int) := by rw [Int.natCast_pow]; rfl
  rw [h2]
  have h3 : (2 ^ 40 : Nat) = 1099511627776 := by decide
  obtain ⟨m, hm⟩ : ∃ m : Nat, 2 ^ q = m := ⟨_, rfl⟩
  rw [hm] at h1 ⊢
  rw [h3] at h1
  clear hm h2
  unfold wrap64
  omega
theorem wnt_stop {k : Int} (h0 : 0 ≤ k) {r : Nat} (h : k.tmod ((2 ^ r : Nat) : Int) = 0) : wntF k r = 0 := by
  rw [Int.tmod_eq_emod_of_nonneg h0] at h
  cases r with
  | zero => rfl
  | succ r =>
    unfold wntF
    rw [if_pos]
    have : ((2 ^ (r + 1) : Nat) : Int) = (2 : Int) ^ (r + 1) := by rw [Int.natCast_pow]; rfl
    rw [← this]; exact h
theorem wnt_go {k : Int} (h0 : 0 ≤ k) {r : Nat} (h : k.tmod ((2 ^ r : Nat) : Int) ≠ 0) : ∃ s, r = s + 1 ∧ wntF k r = wntF k s + 1 := by
  rw [Int.tmod_eq_emod_of_nonneg h0] at h
  cases r with
  | zero => exact absurd (by simp [Int.emod_one]) h
  | succ r =>
    refine ⟨r, rfl, ?_⟩
    rw [wntF, if_neg]
    have : ((2 ^ (r + 1) : Nat) : Int) = (2 : Int) ^ (r + 1) := by rw [Int.natCast_pow]; rfl
    rw [← this]; exact h

set_option maxRecDepth 100000 in
set_option maxHeartbeats 2000000 in
theorem wanted_any (kd k : Int) (a1 : Option Addr) (n1 c1 : Nat) (q bt : Int) (a2 : Option Addr) (n2 c2 : Nat) (w : World) (hk : 0 ≤ k) (hn : n1 ≤ 12) :
    Calls Tryd.prog 23 #[.agg #[.int .i64 kd, .int .i64 k, .slice a1 n1 c1, .int .i64 q, .int .i64 bt, .slice a2 n2 c2]] w fun e w' => e = .returned (.int .i64 (wntF (if kd = 2 ∨ kd = 3 then 8 else k) n1 : Nat)) ∧ Ext w w' := by
  obtain ⟨kk, hkk⟩ : ∃ x : Int, (if kd = 2 ∨ kd = 3 then 8 else k) = x := ⟨_, rfl⟩
  have hk0 : 0 ≤ kk := by rw [← hkk]; split <;> omega
  rw [hkk]
  obtain ⟨v, hv⟩ : ∃ v, wntF kk n1 = v := ⟨_, rfl⟩
  rw [hv]
  obtain ⟨U, hU⟩ : ∃ U, w.alloc (.cells #[.int .i64 kd, .int .i64 k, .slice a1 n1 c1, .int .i64 q, .int .i64 bt, .slice a2 n2 c2] 37) = U := ⟨_, rfl⟩
  obtain ⟨G, hG⟩ : ∃ G, w.heap.size = G := ⟨_, rfl⟩
  have HE := Lib.hid (show Ext w U by rw [← hU]; exact ext_al w _)
  have HB := Lib.hid (show OpBx U G kd k a1 n1 c1 q bt a2 n2 c2 by rw [← hU, ← hG]; exact opbx_new w kd k a1 n1 c1 q bt a2 n2 c2)
  have HA := Lib.hid (fun wx => angle_any kd k a1 n1 c1 q bt a2 n2 c2 wx)
  rw [hkk] at HA
  have HU := Lib.hid hU; have HG := Lib.hid hG; have Hv := Lib.hid hv; have Hk0 := Lib.hid hk0; have Hn := Lib.hid hn
  clear hU hG hv hk0 hkk hk hn
  go_enter Tryd.func23, Tryd.ntmps23
  go_upto_region 1 with fail
  rw [HU.out, HG.out]
  go_wp2_with fail
  go_loopg [3] (n1 + 1) (fun kk' s3 wr => ∃ j : Nat, s3 = .int .i64 (j : Int) ∧ j ≤ n1 ∧ n1 + 1 - j = kk' ∧ v = j + wntF kk (n1 - j) ∧ Ext U wr)
  case atStart => exact ⟨0, rfl, Nat.zero_le _, rfl, by rw [← Hv.out]; simp, Ext.refl _⟩
  case round =>
    obtain ⟨j, rfl, hj, hkj, hvj, hE⟩ := hrel
    obtain ⟨r, hr⟩ : ∃ r, n1 - j = r := ⟨_, rfl⟩
    have ws : IntKind.i64.wrap ((n1 : Int) - (j : Int)) = (r : Int) := by rw [IntKind.wrap_i64]; have := Hn.out; omega
    have r0 : (0 : Int) ≤ (r : Int) := by omega
    have hs := shlN (q := r) (by have := Hn.out; omega)
    have hp0 : ¬ wrap64 (2 ^ min r 64) = 0 := by
      have h2 : 0 < 2 ^ r := Nat.pow_pos (by decide)
      rw [hs]
      generalize 2 ^ r = m at h2
      omega
    have wk : IntKind.i64.wrap ((j : Int) + 1) = ((j + 1 : Nat) : Int) := by rw [IntKind.wrap_i64]; have := Hn.out; omega
    obtain ⟨X, F, hFe, hFs⟩ : ∃ (X : Type) (F : X → World), (∀ x, Ext wr (F x)) ∧ (∀ w', Ext wr w' → ∃ x, w' = F x) := ⟨{ w' : World // Ext wr w' }, Subtype.val, fun x => x.2, fun w' h => ⟨⟨w', h⟩, rfl⟩⟩
    have hXn : Nonempty X := (hFs wr (Ext.refl wr)).elim fun x _ => ⟨x⟩
    have bo := HB.out.ext hE
    have d0 : ∀ x, (F x).cell? ⟨G, 0, none⟩ = some (.int .i64 kd) := fun x => (bo.ext (hFe x)).x0
    have d1 : ∀ x, (F x).cell? ⟨G, 1, none⟩ = some (.int .i64 k) := fun x => (bo.ext (hFe x)).x1
    have d2 : ∀ x, (F x).cell? ⟨G, 2, none⟩ = some (.slice a1 n1 c1) := fun x => (bo.ext (hFe x)).x2
    have d3 : ∀ x, (F x).cell? ⟨G, 3, none⟩ = some (.int .i64 q) := fun x => (bo.ext (hFe x)).x3
    have d4 : ∀ x, (F x).cell? ⟨G, 4, none⟩ = some (.int .i64 bt) := fun x => (bo.ext (hFe x)).x4
    have d5 : ∀ x, (F x).cell? ⟨G, 5, none⟩ = some (.slice a2 n2 c2) := fun x => (bo.ext (hFe x)).x5
    have hUd : Ext wr wr.drew := Below.drew (Ext.refl wr)
    have Hr := Lib.hid hr; have Hvj := Lib.hid hvj; have HEr := Lib.hid hE; have Hj := Lib.hid hj; have Hkj := Lib.hid hkj
    clear bo hr hvj hE hj hkj
    by_cases ht : kk.tmod (wrap64 (2 ^ min r 64)) = 0
    · have Hst := Lib.hid (wnt_stop Hk0.out (r := r) (by rw [← hs]; exact ht))
      have hb : (kk.tmod (wrap64 (2 ^ min r 64)) != 0) = false := by simp [ht]
      have Hend := Lib.hid (show v = j by rw [Hvj.out, Hr.out, Hst.out]; rfl)
      clear ht hs
      go_upto_region 2 with fail
      refine wp_region_F (by kernel_rfl) (by kernel_rfl) (hFs _ hUd) ?_
      repeat (go_big_quiet_step (exact (HA.out _).mono (fun e w' h => ⟨h.1, hFs _ ((hFe _).trans h.2)⟩)))
      refine wpQuiet_nil ?_
      rintro _ ⟨xq, rfl⟩
      have hu2 := hFe xq
      clear d0 d1 d2 d3 d4 d5
      go_wp2_with fail
      go_ret
      exact ⟨congrArg (fun t : Nat => Ending.returned (Value.int .i64 (t : Int))) Hend.out.symm, HE.out.trans (HEr.out.trans hu2)⟩
    · obtain ⟨s, hs1, hs2⟩ := wnt_go Hk0.out (r := r) (by rw [← hs]; exact ht)
      have hb : (kk.tmod (wrap64 (2 ^ min r 64)) != 0) = true := by simpa using ht
      have Hs1 := Lib.hid hs1
      have Hnx := Lib.hid (show v = j + 1 + wntF kk (n1 - (j + 1)) by
        rw [Hvj.out, Hr.out, hs2, show n1 - (j + 1) = s by have := Hr.out; omega]
        omega)
      clear ht hs hs1 hs2
      go_upto_region 2 with fail
      refine wp_region_F (by kernel_rfl) (by kernel_rfl) (hFs _ hUd) ?_
      repeat (go_big_quiet_step (exact (HA.out _).mono (fun e w' h => ⟨h.1, hFs _ ((hFe _).trans h.2)⟩)))
      refine wpQuiet_nil ?_
      rintro _ ⟨xq, rfl⟩
      have hu2 := Lib.hid (hFe xq)
      clear d0 d1 d2 d3 d4 d5
      go_wp2_with fail
      go_roundg (n1 + 1 - (j + 1))
      case measure => have := Hr.out; have := Hs1.out; have := Hkj.out; omega
      case rel => exact ⟨j + 1, rfl, by have := Hr.out; have := Hs1.out; omega, rfl, Hnx.out, HEr.out.trans hu2.out⟩
end Go.Proofs.YtiicbcjenhfakaaDoor
namespace Go.Proofs.YtiicbcjenhfakaaDoor
open Go.RowKit

def hasC (g : Gop) : Bool := decide (0 < g.ctl.length)
def mwN (l : List Gop) : Nat := l.foldl (fun m g => max m (wnt g)) 0
theorem mwN_snoc (l : List Gop) (g : Gop) : mwN (l ++ [g]) = max (mwN l) (wnt g) := by unfold mwN; rw [List.foldl_append]; rfl
theorem mwN_le (l : List Gop) : ∀ g ∈ l, wnt g ≤ mwN l := by
  have key : ∀ (l : List Gop) (m : Nat), m ≤ l.foldl (fun m g => max m (wnt g)) m ∧ ∀ g ∈ l, wnt g ≤ l.foldl (fun m g => max m (wnt g)) m := by
    intro l
    induction l with
    | nil => intro m; exact ⟨Nat.le_refl _, fun g hg => by simp at hg⟩
    | cons a r ih =>
      intro m
      obtain ⟨h1, h2⟩ := ih (max m (wnt a))
      refine ⟨Nat.le_trans (Nat.le_max_left _ _) h1, fun g hg => ?_⟩
      rcases List.mem_cons.1 hg with rfl | hg
      · exact Nat.le_trans (Nat.le_max_right _ _) h1
      · exact h2 g hg
  exact (key l 0).2
theorem take_g {ops : List Gop} {i : Nat} {g : Gop} (h : ops[i]? = some g) : ops.take (i + 1) = ops.take i ++ [g] := by
  rw [List.take_add_one, h]; rfl
/-- Base's fault. -/
def lowF (c : Gci) : Int × Int :=
  if (chk c).1 ≠ 0 then chk c
  else if 4096 < (c.ops.length : Int) + 220 * cntP hasC c.ops then (21, 0)
  else if 12 < c.qubits + mwN c.ops then (36, 0)
  else (0, 0)

set_option maxRecDepth 100000 in
set_option maxHeartbeats 2000000 in
theorem withControls_any (ops : List Gop) (ao : Option Addr) (n cp : Nat) (w : World) (h : OpsAt w ao n ops) (hn : n ≤ 4096) :
    Calls Tryd.prog 13 #[.slice ao n cp] w fun e w' => e = .returned (.int .i64 (cntP hasC ops)) ∧ Ext w w' := by
  have HO := Lib.hid h; have Hn := Lib.hid hn; have Hl := Lib.hid h.1
  obtain ⟨R, hR⟩ : ∃ R, cntP hasC ops = R := ⟨_, rfl⟩
  rw [hR]
  have HR := Lib.hid hR
  clear h hn hR
  go_enter Tryd.func13, Tryd.ntmps13
  go_wp2_with fail
  go_loopg [3, 5, 8] n (fun kk s3 _ s8 wr => ∃ i : Nat, s8 = .int .i64 (i : Int) ∧ s3 = .int .i64 (cntP hasC (ops.take i)) ∧ i ≤ n ∧ n - i = kk ∧ Ext w wr)
  case atStart => exact ⟨0, rfl, rfl, Nat.zero_le _, rfl, Ext.refl _⟩
  case round =>
    obtain ⟨i, rfl, rfl, hi, hk, hE⟩ := hrel
    have HE := Lib.hid hE; have Hk := Lib.hid hk
    by_cases hin : i = n
    · have q1 : ¬ (i : Int) < (n : Int) := by omega
      have HF := Lib.hid (show cntP hasC (ops.take i) = R by rw [List.take_of_length_le (by have := Hl.out; omega)]; exact HR.out)
      clear hin hi hE hk
      go_wp2_with fail
      go_ret
      exact ⟨congrArg (fun b => Ending.returned (Value.int .i64 b)) HF.out, HE.out⟩
    have hlt : i < n := by omega
    have q1 : (i : Int) < (n : Int) := by omega
    have q0 : (0 : Int) ≤ (i : Int) := by omega
    have wk : IntKind.i64.wrap ((i : Int) + 1) = ((i + 1 : Nat) : Int) := by rw [IntKind.wrap_i64]; have := Hn.out; omega
    have hil : i < ops.length := by have := Hl.out; omega
    obtain ⟨g, hg⟩ : ∃ g, ops[i]? = some g := ⟨_, List.getElem?_eq_getElem hil⟩
    obtain ⟨b, o, rfl⟩ := HO.out.some_of (by omega)
    obtain ⟨a1, n1, c1, a2, n2, c2, e0, e1, e2, e3, e4, e5, hL⟩ := ((HO.out.ext hE).at i g hg)
    have hst := take_g hg
    have hn1 := hL.i1.1
    have bd := cntP_bound hasC (ops.take i)
    have bl : (ops.take i).length ≤ 4096 := by rw [List.length_take]; have := Hn.out; omega
    have hyes : hasC g = true → cntP hasC (ops.take (i + 1)) = cntP hasC (ops.take i) + 1 := fun e => by rw [hst]; exact cntP_yes e
    have hno : hasC g = false → cntP hasC (ops.take (i + 1)) = cntP hasC (ops.take i) := fun e => by rw [hst]; exact cntP_no e
    obtain ⟨C, hC⟩ : ∃ C, cntP hasC (ops.take i) = C := ⟨_, rfl⟩
    rw [hC] at hyes hno bd ⊢
    obtain ⟨C1, hC1⟩ : ∃ C1, C + 1 = C1 := ⟨_, rfl⟩
    have wc : IntKind.i64.wrap (C + 1) = C1 := by rw [IntKind.wrap_i64]; omega
    rw [hC1] at hyes
    obtain ⟨kd, k, ctl, q, bt, cnd⟩ := g
    simp only at e0 e1 e2 e3 e4 e5 hn1
    have bO := opbx_new wr kd k a1 n1 c1 q bt a2 n2 c2
    have p2 := bO.x2
    have HE2 := Lib.hid (HE.out.trans (ext_al wr (.cells #[.int .i64 kd, .int .i64 k, .slice a1 n1 c1, .int .i64 q, .int .i64 bt, .slice a2 n2 c2] 37)))
    have Hyes := Lib.hid hyes; have Hno := Lib.hid hno; have Hlt := Lib.hid hlt
    by_cases hc : 0 < n1
    · have q2 : (0 : Int) < (n1 : Int) := by omega
      have Hs := Lib.hid (Hyes.out (decide_eq_true (show 0 < ctl.length by omega)))
      clear hst bd bl hyes hno hC hC1 bO hlt hil hg hL hn1 hin hi hE hk hc
      go_wp2_with fail
      go_roundg (n - (i + 1))
      case measure => have := Hk.out; have := Hlt.out; omega
      case rel => exact ⟨i + 1, rfl, by rw [Hs.out], Hlt.out, rfl, HE2.out⟩
    · have q2 : ¬ (0 : Int) < (n1 : Int) := by omega
      have Hs := Lib.hid (Hno.out (decide_eq_false (show ¬ 0 < ctl.length by omega)))
      clear hst bd bl hyes hno hC hC1 bO hlt hil hg hL hn1 hin hi hE hk hc
      go_wp2_with fail
      go_roundg (n - (i + 1))
      case measure => have := Hk.out; have := Hlt.out; omega
      case rel => exact ⟨i + 1, rfl, by rw [Hs.out], Hlt.out, rfl, HE2.out⟩

set_option maxRecDepth 100000 in
set_option maxHeartbeats 2000000 in
theorem mostWanted_any (ops : List Gop) (ao : Option Addr) (n cp : Nat) (w : World) (h : OpsAt w ao n ops) (hn : n ≤ 4096) (hok : ∀ g ∈ ops, 0 ≤ g.k ∧ g.ctl.length ≤ 12) :
    Calls Tryd.prog 14 #[.slice ao n cp] w fun e w' => e = .returned (.int .i64 (mwN ops : Nat)) ∧ Ext w w' := by
  have HO := Lib.hid h; have Hn := Lib.hid hn; have Hl := Lib.hid h.1; have Hok := Lib.hid hok
  obtain ⟨R, hR⟩ : ∃ R, mwN ops = R := ⟨_, rfl⟩
  rw [hR]
  have HR := Lib.hid hR
  clear h hn hR hok
  go_enter Tryd.func14, Tryd.ntmps14
  go_wp2_with fail
  go_loopg [3, 5, 8] n (fun kk s3 _ s8 wr => ∃ i : Nat, s8 = .int .i64 (i : Int) ∧ s3 = .int .i64 (mwN (ops.take i) : Nat) ∧ i ≤ n ∧ n - i = kk ∧ Ext w wr)
  case atStart => exact ⟨0, rfl, rfl, Nat.zero_le _, rfl, Ext.refl _⟩
  case round =>
    obtain ⟨i, rfl, rfl, hi, hk, hE⟩ := hrel
    have HE := Lib.hid hE; have Hk := Lib.hid hk
    by_cases hin : i = n
    · have q1 : ¬ (i : Int) < (n : Int) := by omega
      have HF := Lib.hid (show mwN (ops.take i) = R by rw [List.take_of_length_le (by have := Hl.out; omega)]; exact HR.out)
      clear hin hi hE hk
      go_wp2_with fail
      go_ret
      exact ⟨congrArg (fun b : Nat => Ending.returned (Value.int .i64 (b : Int))) HF.out, HE.out⟩
    have hlt : i < n := by omega
    have q1 : (i : Int) < (n : Int) := by omega
    have q0 : (0 : Int) ≤ (i : Int) := by omega
    have wk : IntKind.i64.wrap ((i : Int) + 1) = ((i + 1 : Nat) : Int) := by rw [IntKind.wrap_i64]; have := Hn.out; omega
    have hil : i < ops.length := by have := Hl.out; omega
    obtain ⟨g, hg⟩ : ∃ g, ops[i]? = some g := ⟨_, List.getElem?_eq_getElem hil⟩
    obtain ⟨b, o, rfl⟩ := HO.out.some_of (by omega)
    obtain ⟨a1, n1, c1, a2, n2, c2, e0, e1, e2, e3, e4, e5, hL⟩ := ((HO.out.ext hE).at i g hg)
    have Hst := Lib.hid (show mwN (ops.take (i + 1)) = max (mwN (ops.take i)) (wnt g) by rw [take_g hg, mwN_snoc])
    have hgk := Hok.out g (List.mem_of_getElem? hg)
    have hn1 := hL.i1.1
    obtain ⟨C, hC⟩ : ∃ C, mwN (ops.take i) = C := ⟨_, rfl⟩
    rw [hC] at Hst ⊢
    obtain ⟨kd, k, ctl, q, bt, cnd⟩ := g
    simp only at e0 e1 e2 e3 e4 e5 hn1 hgk
    have bO := opbx_new wr kd k a1 n1 c1 q bt a2 n2 c2
    have p0 := bO.x0; have p1 := bO.x1; have p2 := bO.x2; have p3 := bO.x3; have p4 := bO.x4; have p5 := bO.x5
    have HE2 := Lib.hid (HE.out.trans (ext_al wr (.cells #[.int .i64 kd, .int .i64 k, .slice a1 n1 c1, .int .i64 q, .int .i64 bt, .slice a2 n2 c2] 37)))
    have HW := Lib.hid (fun wx => wanted_any kd k a1 n1 c1 q bt a2 n2 c2 wx hgk.1 (by omega))
    obtain ⟨V, hV⟩ : ∃ V, wntF (if kd = 2 ∨ kd = 3 then 8 else k) n1 = V := ⟨_, rfl⟩
    rw [hV] at HW
    have Hst2 := Lib.hid (show mwN (ops.take (i + 1)) = max C V by
      rw [Hst.out, ← hV]
      unfold wnt ang
      rw [hn1])
    have Hlt := Lib.hid hlt
    clear Hst hV hC bO hlt hil hg hL hn1 hin hi hE hk hgk
    go_upto_region 5 with fail
    generalize wr.alloc (.cells #[.int .i64 kd, .int .i64 k, .slice a1 n1 c1, .int .i64 q, .int .i64 bt, .slice a2 n2 c2] 37) = w5 at *
    clear e0 e1 e2 e3 e4 e5
    go_wp2_with fail
    refine (HW.out w5).mono ?_
    rintro e w6 ⟨rfl, hx6⟩
    have HE6 := Lib.hid (HE2.out.trans hx6)
    clear hx6 p0 p1 p2 p3 p4 p5 HW
    go_wp2_with fail
    go_roundg (n - (i + 1))
    case measure => have := Hk.out; have := Hlt.out; omega
    case rel => exact ⟨i + 1, rfl, by rw [Hst2.out]; exact congrArg (Value.int .i64) (by omega), Hlt.out, rfl, HE6.out⟩
end Go.Proofs.YtiicbcjenhfakaaDoor
namespace Go.Proofs.YtiicbcjenhfakaaDoor
open Go.RowKit

set_option maxRecDepth 100000 in
set_option maxHeartbeats 2000000 in
theorem Spares_any (kd k : Int) (a1 : Option Addr) (n1 c1 : Nat) (q bt : Int) (a2 : Option Addr) (n2 c2 : Nat) (w : World) (hk : 0 ≤ k) (hn : n1 ≤ 12) :
    Calls Tryd.prog 16 #[.agg #[.int .i64 kd, .int .i64 k, .slice a1 n1 c1, .int .i64 q, .int .i64 bt, .slice a2 n2 c2]] w fun e w' => e = .returned (.int .i64 (wntF (if kd = 4 then k else 8) n1 : Nat)) ∧ Ext w w' := by
  obtain ⟨kk, hkk⟩ : ∃ x : Int, (if kd = 4 then k else 8) = x := ⟨_, rfl⟩
  have hk0 : 0 ≤ kk := by rw [← hkk]; split <;> omega
  rw [hkk]
  obtain ⟨v, hv⟩ : ∃ v, wntF kk n1 = v := ⟨_, rfl⟩
  rw [hv]
  obtain ⟨U, hU⟩ : ∃ U, w.alloc (.cells #[.int .i64 kd, .int .i64 k, .slice a1 n1 c1, .int .i64 q, .int .i64 bt, .slice a2 n2 c2] 37) = U := ⟨_, rfl⟩
  obtain ⟨G, hG⟩ : ∃ G, w.heap.size = G := ⟨_, rfl⟩
  have HE := Lib.hid (show Ext w U by rw [← hU]; exact ext_al w _)
  have bO : OpBx U G kd k a1 n1 c1 q bt a2 n2 c2 := by rw [← hU, ← hG]; exact opbx_new w kd k a1 n1 c1 q bt a2 n2 c2
  have d0 := bO.x0; have d1 := bO.x1; have d2 := bO.x2
  have HU := Lib.hid hU; have HG := Lib.hid hG; have Hv := Lib.hid hv; have Hk0 := Lib.hid hk0; have Hn := Lib.hid hn; have Hkk := Lib.hid hkk
  clear hU hG hv hk0 hkk hk hn bO
  by_cases hn0 : n1 = 0
  · subst hn0
    have Hv0 := Lib.hid (show v = 0 from Hv.out.symm)
    go_enter Tryd.func16, Tryd.ntmps16
    go_upto_region 1 with fail
    rw [HU.out, HG.out]
    go_wp2_with fail
    go_ret
    exact ⟨congrArg (fun t : Nat => Ending.returned (Value.int .i64 (t : Int))) Hv0.out.symm, HE.out⟩
  have b0 : ((n1 : Int) == 0) = false := by simp; omega
  clear hn0
  go_enter Tryd.func16, Tryd.ntmps16
  go_upto_region 1 with fail
  rw [HU.out, HG.out]
  go_upto_if 13 with fail
  clear HU HG
  go_cut [3] from 11 to 15 (fun s3 wx => s3 = .int .i64 kk ∧ U = wx)
  case first =>
    by_cases h4 : kd = 4
    · have b4 := bt' h4
      have Hk4 := Lib.hid (show k = kk by rw [← Hkk.out, if_pos h4])
      clear h4
      go_wp2_with fail
      go_meet
      exact ⟨by rw [Hk4.out], rfl⟩
    · have b4 := bf h4
      have Hk4 := Lib.hid (show (8 : Int) = kk by rw [← Hkk.out, if_neg h4])
      clear h4
      go_wp2_with fail
      go_meet
      exact ⟨by rw [Hk4.out], rfl⟩
  case rest =>
  obtain ⟨rfl, rfl⟩ := hcut
  go_wp2_with fail
  go_loopg [4, 5, 6] (n1 + 1) (fun kk' s4 _ _ wr => ∃ j : Nat, s4 = .int .i64 (j : Int) ∧ j ≤ n1 ∧ n1 + 1 - j = kk' ∧ v = j + wntF kk (n1 - j) ∧ U = wr)
  case atStart => exact ⟨0, rfl, Nat.zero_le _, rfl, by rw [← Hv.out]; simp, rfl⟩
  case round =>
    obtain ⟨j, rfl, hj, hkj, hvj, rfl⟩ := hrel
    obtain ⟨r, hr⟩ : ∃ r, n1 - j = r := ⟨_, rfl⟩
    have ws : IntKind.i64.wrap ((n1 : Int) - (j : Int)) = (r : Int) := by rw [IntKind.wrap_i64]; have := Hn.out; omega
    have wk : IntKind.i64.wrap ((j : Int) + 1) = ((j + 1 : Nat) : Int) := by rw [IntKind.wrap_i64]; have := Hn.out; omega
    have Hr := Lib.hid hr; have Hvj := Lib.hid hvj; have Hj := Lib.hid hj; have Hkj := Lib.hid hkj
    clear hr hvj hj hkj
    go_wp2_with fail
    go_loopg [5, 6] r (fun kk2 s5 s6 wr2 => ∃ i : Nat, s6 = .int .i64 (i : Int) ∧ s5 = .int .i64 ((2 ^ i : Nat) : Int) ∧ i ≤ r ∧ r - i = kk2 ∧ U = wr2)
    case atStart => exact ⟨0, rfl, rfl, Nat.zero_le _, rfl, rfl⟩
    case round =>
      obtain ⟨i, rfl, rfl, hi, hki, rfl⟩ := hrel
      have Hki := Lib.hid hki
      by_cases hir : i = r
      · have q1 : ¬ (i : Int) < (r : Int) := by omega
        have hp : 0 < 2 ^ i := Nat.pow_pos (by decide)
        obtain ⟨p, hpp⟩ : ∃ p : Nat, 2 ^ i = p := ⟨_, rfl⟩
        rw [hpp] at hp ⊢
        have hp0 : ¬ (p : Int) = 0 := by omega
        by_cases ht : kk.tmod (p : Int) = 0
        · have Hst := Lib.hid (wnt_stop Hk0.out (r := r) (by rw [← hir, hpp]; exact ht))
          have hb : (kk.tmod (p : Int) == 0) = true := by simp [ht]
          have Hend := Lib.hid (show v = j by rw [Hvj.out, Hr.out, Hst.out]; rfl)
          clear ht hpp hp hir hi hki
          go_wp2_with fail
          go_ret
          exact ⟨congrArg (fun t : Nat => Ending.returned (Value.int .i64 (t : Int))) Hend.out.symm, HE.out⟩
        · obtain ⟨s, hs1, hs2⟩ := wnt_go Hk0.out (r := r) (by rw [← hir, hpp]; exact ht)
          have hb : (kk.tmod (p : Int) == 0) = false := by simpa using ht
          have Hs1 := Lib.hid hs1
          have Hnx := Lib.hid (show v = j + 1 + wntF kk (n1 - (j + 1)) by
            rw [Hvj.out, Hr.out, hs2, show n1 - (j + 1) = s by have := Hr.out; omega]
            omega)
          clear ht hpp hp hir hi hki hs1 hs2
          go_wp2_with fail
          go_roundg (n1 + 1 - (j + 1))
          case measure => have := Hr.out; have := Hs1.out; have := Hkj.out; omega
          case rel => exact ⟨j + 1, rfl, by have := Hr.out; have := Hs1.out; omega, rfl, Hnx.out, rfl⟩
      · have q1 : (i : Int) < (r : Int) := by omega
        have Hlt := Lib.hid (show i < r by omega)
        have hb : 2 ^ i ≤ 2 ^ 12 := Nat.pow_le_pow_right (by decide) (by have := Hr.out; have := Hn.out; omega)
        have e12 : (2 : Nat) ^ 12 = 4096 := by decide
        have hps : 2 ^ (i + 1) = 2 ^ i * 2 := Nat.pow_succ ..
        have wi : IntKind.i64.wrap ((i : Int) + 1) = ((i + 1 : Nat) : Int) := by rw [IntKind.wrap_i64]; have := Hr.out; have := Hn.out; omega
        obtain ⟨p, hpp⟩ : ∃ p : Nat, 2 ^ i = p := ⟨_, rfl⟩
        rw [hpp] at hb hps ⊢
        obtain ⟨p2, hp2⟩ : ∃ p2 : Nat, p * 2 = p2 := ⟨_, rfl⟩
        have wp : IntKind.i64.wrap ((p : Int) * 2) = (p2 : Int) := by rw [IntKind.wrap_i64]; omega
        have Hps := Lib.hid (show 2 ^ (i + 1) = p2 by rw [hps, hp2])
        clear hb e12 hps hpp hp2 hir hi hki
        go_wp2_with fail
        go_roundg (r - (i + 1))
        case measure => have := Hki.out; have := Hlt.out; omega
        case rel => exact ⟨i + 1, rfl, by rw [Hps.out], Hlt.out, rfl, rfl⟩

theorem spare_eq {o : Gop} {n B : Int} (f : OpFit o n B) : wntF (if o.kind = 4 then o.k else 8) o.ctl.length = wnt o := by
  unfold wnt ang
  by_cases hl : 0 < o.ctl.length
  · rcases f.use hl with e | e | e
    · rw [if_neg (by omega), if_pos (by omega)]
    · rw [if_neg (by omega), if_pos (by omega)]
    · rw [if_pos e, if_neg (by omega)]
  · have h0 : o.ctl.length = 0 := by omega
    rw [h0]
    rfl
theorem wnt12 {o : Gop} {n B : Int} (f : OpFit o n B) (hn : n ≤ 12) : o.ctl.length ≤ 12 := by
  by_cases hl : 0 < o.ctl.length
  · have := f.len hl hn; omega
  · omega
theorem mw12 {l : List Gop} (h : ∀ g ∈ l, g.ctl.length ≤ 12) : mwN l ≤ 12 := by
  have key : ∀ (l : List Gop) (m : Nat), m ≤ 12 → (∀ g ∈ l, g.ctl.length ≤ 12) → l.foldl (fun m g => max m (wnt g)) m ≤ 12 := by
    intro l
    induction l with
    | nil => intro m hm _; exact hm
    | cons a r ih =>
      intro m hm h
      refine ih _ ?_ (fun g hg => h g (by simp [hg]))
      have h1 := wntF_le (ang a) a.ctl.length
      have h2 := h a (by simp)
      have h3 : wnt a ≤ 12 := by unfold wnt; omega
      show max m (wnt a) ≤ 12
      omega
  exact key l 0 (by decide) h

set_option maxRecDepth 100000 in
set_option maxHeartbeats 4000000 in
theorem LowerFault_any (c : Gci) (ao : Option Addr) (n cp : Nat) (w : World) (h : OpsAt w ao n c.ops) (hn : n ≤ cp) (hcp : cp ≤ 9223372036854775807) :
    Calls Tryd.prog 6 #[.agg #[.int .i64 c.qubits, .int .i64 c.bits, .slice ao n cp]] w fun e w' => e = .returned (.tuple #[.int .i64 (if (lowF c).1 = 0 then (mwN c.ops : Int) else 0), .agg #[.int .i64 (lowF c).1, .int .i64 (lowF c).2]]) ∧ Ext w w' := by
  obtain ⟨F, hF⟩ : ∃ F, lowF c = F := ⟨_, rfl⟩
  obtain ⟨F0, F1⟩ := F
  obtain ⟨Mo, hMo⟩ : ∃ Mo : Int, (if F0 = 0 then (mwN c.ops : Int) else 0) = Mo := ⟨_, rfl⟩
  rw [hF]
  simp only
  rw [hMo]
  obtain ⟨qb, bi, ops⟩ := c
  obtain ⟨f, hf⟩ : ∃ f, chk ⟨qb, bi, ops⟩ = f := ⟨_, rfl⟩
  obtain ⟨f0, f1⟩ := f
  have hz : f0 = 0 → (1 ≤ qb ∧ qb ≤ 12) ∧ ops.length ≤ 4096 ∧ (∀ g ∈ ops, OpFit g qb bi) := by
    intro h0
    have hc : (chk ⟨qb, bi, ops⟩).1 = 0 := by rw [hf]; exact h0
    obtain ⟨_, h1, h2, h3, h4, h5, h6⟩ := chk_zero hc
    exact ⟨⟨h1, h2⟩, h5, fun g hg => opFit_of (h6 g hg)⟩
  unfold lowF at hF
  rw [hf] at hF
  simp only at hF hMo
  have Hz := Lib.hid hz; have Hf := Lib.hid hf; have HF := Lib.hid hF; have HMo := Lib.hid hMo
  obtain ⟨H, hH⟩ : ∃ H, w.heap.size = H := ⟨_, rfl⟩
  obtain ⟨W0, hW0⟩ : ∃ W0, (w.alloc (.cells #[.int .i64 qb, .int .i64 bi, .slice ao n cp] 24)).alloc (.cells #[.int .i64 0, .int .i64 0] 27) = W0 := ⟨_, rfl⟩
  have E0 : Ext w W0 := by rw [← hW0]; exact (ext_al w _).trans (ext_al _ _)
  have bC : CiB W0 H qb bi ao n cp := by rw [← hW0, ← hH]; exact CiB.ext ⟨heap_alloc_new w _⟩ (ext_al _ _)
  have bF : FtB W0 (H + 1) 0 0 := ⟨by
    have := heap_alloc_new (w.alloc (.cells #[.int .i64 qb, .int .i64 bi, .slice ao n cp] 24)) (.cells #[.int .i64 0, .int .i64 0] 27)
    rw [← hW0, ← hH]
    simpa using this⟩
  have HE0 := Lib.hid E0; have HO := Lib.hid (h.ext E0); have HC := Lib.hid bC; have HFt := Lib.hid bF
  have m0 := bC.x0; have m1 := bC.x1; have m2 := bC.x2
  have HH := Lib.hid hH; have HW0 := Lib.hid hW0; have HwH := Lib.hid (show w.heap.size ≤ H + 1 by omega)
  clear h E0 bC bF hF hf hz hMo hH hW0
  go_enter Tryd.func6, Tryd.ntmps6
  go_upto_region 1 with fail
  rw [HW0.out, HH.out]
  have HK := Lib.hid (RCheck_any ⟨qb, bi, ops⟩ ao n cp W0 HO.out hn hcp)
  rw [Hf.out] at HK
  go_wp2_with fail
  refine HK.out.mono ?_
  rintro e w1 ⟨rfl, hx1⟩
  have Ef := ext_al w1 (.cells #[.int .i64 f0, .int .i64 f1] 27)
  have bf1 : FtB (w1.alloc (.cells #[.int .i64 f0, .int .i64 f1] 27)) w1.heap.size f0 f1 := ⟨heap_alloc_new w1 _⟩
  have q0 := bf1.x0; have q1 := bf1.x1
  have HX1 := Lib.hid (hx1.trans Ef)
  have bz := HFt.out.ext HX1.out; have x0' := bz.x0; have x1' := bz.x1; have g0' := bz.f 0; have g1' := bz.f 1
  have bc := HC.out.ext HX1.out; have v0 := bc.x0; have v2 := bc.x2
  have HEz := Lib.hid (HE0.out.trans HX1.out)
  clear bz bc m0 m1 m2 hx1 Ef bf1 HK Hf HW0 HH
  by_cases hc0 : f0 = 0
  · obtain ⟨⟨hq1, hq2⟩, hlen, hfit⟩ := Hz.out hc0
    have hcb := nf' hc0
    have hnl := HO.out.1
    have hF2 := HF.out
    rw [if_neg (fun e => e hc0)] at hF2
    have HF2 := Lib.hid hF2; have Hfit := Lib.hid hfit; have Hn4 := Lib.hid (show n ≤ 4096 by omega); have Hnl := Lib.hid hnl; have Hq := Lib.hid (show 1 ≤ qb ∧ qb ≤ 12 from ⟨hq1, hq2⟩)
    have Hmw := Lib.hid (mw12 (fun g hg => wnt12 (hfit g hg) hq2))
    have HOw := Lib.hid (HO.out.ext HX1.out); have HFw := Lib.hid (HFt.out.ext HX1.out); have HCw := Lib.hid (HC.out.ext HX1.out)
    clear hc0 Hz HF hlen hfit hnl hq1 hq2 hF2 HO HFt HC HX1 HE0 x0' x1' g0' g1'
    go_upto_region 4 with fail
    generalize w1.alloc (.cells #[.int .i64 f0, .int .i64 f1] 27) = W1 at *
    generalize w1.heap.size = FB at *
    clear q0 q1 v0
    go_wp2_with fail
    go_loopg [5, 6, 7, 8] n (fun kk s5 s6 s7 _ wr => ∃ i : Nat, s7 = .int .i64 (i : Int) ∧ s5 = .int .i64 ((n : Int) + 220 * cntP hasC (ops.take i)) ∧ s6 = .int .i64 (mwN (ops.take i) : Nat) ∧ i ≤ n ∧ n - i = kk ∧ Ext W1 wr)
    case atStart => exact ⟨0, rfl, by simp [cntP], rfl, Nat.zero_le _, rfl, Ext.refl _⟩
    case round =>
      obtain ⟨i, rfl, rfl, rfl, hi, hk, hE⟩ := hrel
      have HE := Lib.hid hE; have Hk := Lib.hid hk
      have bc := HCw.out.ext hE
      clear v2
      have v2 := bc.x2; have v0 := bc.x0
      clear bc
      by_cases hin : i = n
      · have q1 : ¬ (i : Int) < (n : Int) := by omega
        have hst : ops.take i = ops := List.take_of_length_le (by have := Hnl.out; omega)
        rw [hst]
        obtain ⟨S, hS⟩ : ∃ S, (n : Int) + 220 * cntP hasC ops = S := ⟨_, rfl⟩
        obtain ⟨m, hm⟩ : ∃ m, mwN ops = m := ⟨_, rfl⟩
        have hF3 := HF2.out
        have hMo := HMo.out
        have hm12 := Hmw.out
        rw [Hnl.out, hS, hm] at hF3
        rw [hm] at hMo hm12
        rw [hS, hm]
        have hq := Hq.out
        obtain ⟨qm, hqm⟩ : ∃ qm, qb + (m : Int) = qm := ⟨_, rfl⟩
        have wq : IntKind.i64.wrap (qb + (m : Int)) = qm := by rw [IntKind.wrap_i64]; omega
        rw [hqm] at hF3
        have HEe := Lib.hid (HEz.out.trans HE.out)
        have Hz := Lib.hid (HFw.out.ext HE.out)
        clear hin hi hk hE hst hS hm hq hm12 hqm
        by_cases hs : 4096 < S
        · rw [if_pos hs] at hF3
          have HFF := Lib.hid (show F0 = 21 ∧ F1 = 0 from ⟨(congrArg Prod.fst hF3).symm, (congrArg Prod.snd hF3).symm⟩)
          have HM0 := Lib.hid (show Mo = 0 by rw [← hMo, HFF.out.1, if_neg (by decide)])
          clear hF3 hMo
          go_wp2_with fail
          refine (rfault_any 21 0 _).mono ?_
          rintro e wz ⟨rfl, hxz⟩
          have bz := Hz.out.ext hxz; have x0' := bz.x0; have x1' := bz.x1; have g0' := bz.f 0; have g1' := bz.f 1; have HEy := Lib.hid (HEe.out.trans hxz)
          clear bz hxz v0 v2
          go_wp2_with fail
          exact bodyPost_ret (v := .tuple #[.int .i64 0, .agg #[.int .i64 21, .int .i64 0]]) (by simp [results, Tryd.results6, go_sem, x0', x1']) rfl ⟨by rw [HFF.out.1, HFF.out.2, HM0.out], put2x HEy.out HwH.out _ _⟩
        · rw [if_neg hs] at hF3
          by_cases hr : 12 < qm
          · rw [if_pos hr] at hF3
            have HFF := Lib.hid (show F0 = 36 ∧ F1 = 0 from ⟨(congrArg Prod.fst hF3).symm, (congrArg Prod.snd hF3).symm⟩)
            have HM0 := Lib.hid (show Mo = 0 by rw [← hMo, HFF.out.1, if_neg (by decide)])
            clear hF3 hMo
            go_wp2_with fail
            refine (rfault_any 36 0 _).mono ?_
            rintro e wz ⟨rfl, hxz⟩
            have bz := Hz.out.ext hxz; have x0' := bz.x0; have x1' := bz.x1; have g0' := bz.f 0; have g1' := bz.f 1; have HEy := Lib.hid (HEe.out.trans hxz)
            clear bz hxz v0 v2
            go_wp2_with fail
            exact bodyPost_ret (v := .tuple #[.int .i64 0, .agg #[.int .i64 36, .int .i64 0]]) (by simp [results, Tryd.results6, go_sem, x0', x1']) rfl ⟨by rw [HFF.out.1, HFF.out.2, HM0.out], put2x HEy.out HwH.out _ _⟩
          · rw [if_neg hr] at hF3
            have HFF := Lib.hid (show F0 = 0 ∧ F1 = 0 from ⟨(congrArg Prod.fst hF3).symm, (congrArg Prod.snd hF3).symm⟩)
            have HM0 := Lib.hid (show Mo = (m : Int) by rw [← hMo, HFF.out.1, if_pos rfl])
            have bz := Hz.out; have x0' := bz.x0; have x1' := bz.x1; have g0' := bz.f 0; have g1' := bz.f 1
            clear hF3 hMo bz
            go_wp2_with fail
            exact bodyPost_ret (v := .tuple #[.int .i64 (m : Int), .agg #[.int .i64 0, .int .i64 0]]) (by simp [results, Tryd.results6, go_sem, x0', x1']) rfl ⟨by rw [HFF.out.1, HFF.out.2, HM0.out], put2x HEe.out HwH.out _ _⟩
      have hlt : i < n := by omega
      have q1 : (i : Int) < (n : Int) := by omega
      have q0 : (0 : Int) ≤ (i : Int) := by omega
      have wk : IntKind.i64.wrap ((i : Int) + 1) = ((i + 1 : Nat) : Int) := by rw [IntKind.wrap_i64]; have := Hn4.out; omega
      have hil : i < ops.length := by have := Hnl.out; omega
      obtain ⟨g, hg⟩ : ∃ g, ops[i]? = some g := ⟨_, List.getElem?_eq_getElem hil⟩
      obtain ⟨b, o, rfl⟩ := HOw.out.some_of (by omega)
      obtain ⟨a1, n1, c1, a2, n2, c2, e0, e1, e2, e3, e4, e5, hL⟩ := ((HOw.out.ext hE).at i g hg)
      have hst := take_g hg
      have hn1 := hL.i1.1
      have hft := Hfit.out g (List.mem_of_getElem? hg)
      have h12 := wnt12 hft Hq.out.2
      have hsp := spare_eq hft
      have Hmst := Lib.hid (show mwN (ops.take (i + 1)) = max (mwN (ops.take i)) (wnt g) by rw [hst, mwN_snoc])
      have bd := cntP_bound hasC (ops.take i)
      have bl : (ops.take i).length ≤ 4096 := by rw [List.length_take]; have := Hn4.out; omega
      have hyes : hasC g = true → (n : Int) + 220 * cntP hasC (ops.take (i + 1)) = (n : Int) + 220 * cntP hasC (ops.take i) + 220 := fun e => by rw [hst, cntP_yes e]; omega
      have hno : hasC g = false → (n : Int) + 220 * cntP hasC (ops.take (i + 1)) = (n : Int) + 220 * cntP hasC (ops.take i) := fun e => by rw [hst, cntP_no e]
      obtain ⟨C, hC⟩ : ∃ C, (n : Int) + 220 * cntP hasC (ops.take i) = C := ⟨_, rfl⟩
      have bC : 0 ≤ C ∧ C ≤ 1000000 := by have := Hn4.out; omega
      rw [hC] at hyes hno ⊢
      obtain ⟨C1, hC1⟩ : ∃ C1, C + 220 = C1 := ⟨_, rfl⟩
      have wc : IntKind.i64.wrap (C + 220) = C1 := by rw [IntKind.wrap_i64]; omega
      rw [hC1] at hyes
      obtain ⟨m, hm⟩ : ∃ m, mwN (ops.take i) = m := ⟨_, rfl⟩
      rw [hm] at Hmst ⊢
      obtain ⟨kd, k, ctl, q, bt, cnd⟩ := g
      have hk0 : 0 ≤ k := hft.k.1
      simp only at e0 e1 e2 e3 e4 e5 hn1 h12 hsp
      have HSp := Lib.hid (fun wx => Spares_any kd k a1 n1 c1 q bt a2 n2 c2 wx hk0 (by omega))
      rw [hn1] at hsp
      rw [hsp] at HSp
      obtain ⟨V, hV⟩ : ∃ V, wnt ⟨kd, k, ctl, q, bt, cnd⟩ = V := ⟨_, rfl⟩
      rw [hV] at HSp Hmst
      have Hlt := Lib.hid hlt
      have Hyes := Lib.hid hyes; have Hno := Lib.hid hno
      clear hst bd bl bC hyes hno hC hC1 hlt hil hg hL hin hi hE hk hft h12 hsp hm hk0 hV v0
      go_upto_if 32 with fail
      go_cut [5] from 25 to 34 (fun s5 wx => s5 = .int .i64 ((n : Int) + 220 * cntP hasC (ops.take (i + 1))) ∧ wr = wx)
      case first =>
        by_cases hc : 0 < n1
        · have q2 : (0 : Int) < (n1 : Int) := by omega
          have Hs := Lib.hid (Hyes.out (decide_eq_true (show 0 < ctl.length by omega)))
          clear hc hn1
          go_wp2_with fail
          go_meet
          exact ⟨by rw [Hs.out], rfl⟩
        · have q2 : ¬ (0 : Int) < (n1 : Int) := by omega
          have Hs := Lib.hid (Hno.out (decide_eq_false (show ¬ 0 < ctl.length by omega)))
          clear hc hn1
          go_wp2_with fail
          go_meet
          exact ⟨by rw [Hs.out], rfl⟩
      case rest =>
      obtain ⟨rfl, rfl⟩ := hcut
      clear hn1 Hyes Hno
      by_cases hmx : m < V
      · have q3 : (m : Int) < (V : Int) := by omega
        have Hm2 := Lib.hid (show mwN (ops.take (i + 1)) = V by rw [Hmst.out]; omega)
        clear hmx Hmst
        go_wp2_with fail
        refine (HSp.out wr).mono ?_
        rintro e w6 ⟨rfl, hx6⟩
        have HE6 := Lib.hid (HE.out.trans hx6)
        clear hx6 HSp e0 e1 e2 e3 e4 e5 v2
        go_wp2_with fail
        go_roundg (n - (i + 1))
        case measure => have := Hk.out; have := Hlt.out; omega
        case rel => exact ⟨i + 1, rfl, rfl, by rw [Hm2.out], Hlt.out, rfl, HE6.out⟩
      · have q3 : ¬ (m : Int) < (V : Int) := by omega
        have Hm2 := Lib.hid (show mwN (ops.take (i + 1)) = m by rw [Hmst.out]; omega)
        clear hmx Hmst
        go_wp2_with fail
        refine (HSp.out wr).mono ?_
        rintro e w6 ⟨rfl, hx6⟩
        have HE6 := Lib.hid (HE.out.trans hx6)
        clear hx6 HSp e0 e1 e2 e3 e4 e5 v2
        go_wp2_with fail
        go_roundg (n - (i + 1))
        case measure => have := Hk.out; have := Hlt.out; omega
        case rel => exact ⟨i + 1, rfl, rfl, by rw [Hm2.out], Hlt.out, rfl, HE6.out⟩
  · have hcb := nt hc0
    have HFF := Lib.hid (show F0 = f0 ∧ F1 = f1 by
      have := HF.out
      rw [if_pos hc0] at this
      exact ⟨(congrArg Prod.fst this).symm, (congrArg Prod.snd this).symm⟩)
    have HM0 := Lib.hid (show Mo = 0 by rw [← HMo.out, HFF.out.1, if_neg hc0])
    clear HF hc0 Hz
    go_upto_region 3 with fail
    go_region
    go_wp2_with fail
    exact bodyPost_ret (v := .tuple #[.int .i64 0, .agg #[.int .i64 f0, .int .i64 f1]]) (by simp [results, Tryd.results6, go_sem, x0', x1']) rfl ⟨by rw [HFF.out.1, HFF.out.2, HM0.out], Below.drew (put2x HEz.out HwH.out _ _)⟩
end Go.Proofs.YtiicbcjenhfakaaDoor
