/-
  A shot of a circuit that was fitted is the shot of the circuit, spread: in plain numbers. Two rows of alike texts are the same; a basis state spread, in memory's numbers. What RouteKeeps lays side by side, in plain numbers: the wanted row, filled one by one, and where a shot begins. The reference: what an outcome leaves. A state of the reference whose digits lie in a class of blocks: what is written outside the class leaves it as it is; the class may be widened. A state that is older than a block lies outside it.
-/
import Derived.Test.YtlmfhopifggeaaaDoorProg
import Derived.Test.YtlmfhopifggeaaaDoorRows
import Derived.BigQuiet
import Derived.Deep.AppendLies
import Derived.Deep.Cut
import Derived.Deep.CutRange
import Derived.Deep.LoopGhost
import Derived.Deep.MidRow
import Derived.Deep.QuietTactic
import Derived.Deep.RegionHeld3
import Derived.Defers
import Derived.Ground.Names2Prog
import Derived.Ground.SlgnProg
import Derived.Laws.AppendOwnNone
import Derived.Laws.Bits64b
import Derived.Laws.Concat
import Derived.Laws.CopyOwn
import Derived.Laws.IdiomCopy
import Derived.Laws.IdiomStrings
import Derived.Laws.ResultCell
import Derived.Laws.Rows
import Derived.Lib.AppendStr
import Derived.Lib.AppendZeros
import Derived.Lib.AppendZerosOnto
import Derived.Lib.BitFns
import Derived.Lib.Hide
import Derived.Lib.ItoaMem
import Derived.Lib.ItoaNum
import Derived.Lib.Strings
import Derived.Lib.TrailingZeros
import Derived.Maps.AppendAt
import Derived.OrdersHeld
import Derived.OrdersIn
import Derived.OwnWalk
import Derived.ProofKit
import Derived.RangeFuncCalls
import Derived.RangeFuncFrom
import Derived.Recover
import Derived.RegionTactic
import Derived.Shelf.Slices.Clone
import Derived.Shelf.SlicesE.Clone
import Derived.Shelf.Spec.TrailingZeros
import Derived.WalkKit
import Derived.WalkLawsBesides
import Derived.WalkSpells
import Derived.Test.YtlmfhopifggeaaaDoorS00Mem
import Derived.Test.YtlmfhopifggeaaaDoorShelf
import Derived.Test.YtlmfhopifggeaaaDoorS02ZBq
import Derived.Test.YtlmfhopifggeaaaDoorS03ZKq
import Derived.Test.YtlmfhopifggeaaaDoorS04Udq
import Derived.Test.YtlmfhopifggeaaaDoorS05Wf
import Derived.Test.YtlmfhopifggeaaaDoorS06Xfq
import Derived.Test.YtlmfhopifggeaaaDoorS07Cn
import Derived.Test.YtlmfhopifggeaaaDoorS08Cj
import Derived.Test.YtlmfhopifggeaaaDoorS09Mb
import Derived.Test.YtlmfhopifggeaaaDoorS10Mf
import Derived.Test.YtlmfhopifggeaaaDoorS11Mh
import Derived.Test.YtlmfhopifggeaaaDoorS12Mm
import Derived.Test.YtlmfhopifggeaaaDoorS13Ms
namespace Go.Proofs.YtlmfhopifggeaaaDoor

/-- A shot goes on where another ended. -/
theorem plM_app (want : List Int) : ∀ (l r : List Gop) (i : Nat) (s : Nat → Nm) (bits : List Int) (u : Nat),
    ((plM want l i s bits u).f.1 ≠ 0 → plM want (l ++ r) i s bits u = plM want l i s bits u) ∧
    ((plM want l i s bits u).f.1 = 0 → plM want (l ++ r) i s bits u = plM want r (i + l.length) (plM want l i s bits u).s (plM want l i s bits u).bits (plM want l i s bits u).u)
  | [], r, i, s, bits, u => ⟨fun h => absurd rfl h, fun _ => rfl⟩
  | o :: l, r, i, s, bits, u => by
    have hl : i + (o :: l).length = i + 1 + l.length := by rw [List.length_cons]; omega
    rw [List.cons_append, hl]
    cases hc : cnM bits o.cnd
    · rw [plM_skip hc, plM_skip hc]
      exact plM_app want l r (i + 1) s bits u
    · by_cases hk : o.kind < 5
      · rw [plM_gate hc hk, plM_gate hc hk]
        exact plM_app want l r (i + 1) _ bits u
      · by_cases hu : u = want.length
        · rw [plM_out hc hk hu, plM_out hc hk hu]
          exact ⟨fun _ => rfl, fun h => absurd h (by show ¬ (19 : Int) = 0; decide)⟩
        · obtain ⟨v, hv⟩ : ∃ v, want.getD u 0 = v := ⟨_, rfl⟩
          by_cases hb : v ≠ 0 ∧ v ≠ 1
          · rw [plM_bad hc hk hu hv hb, plM_bad hc hk hu hv hb]
            exact ⟨fun _ => rfl, fun h => absurd h (by show ¬ (20 : Int) = 0; decide)⟩
          · have hb' : v = 0 ∨ v = 1 := by omega
            by_cases h5 : o.kind = 5
            · rw [plM_bit hc h5 hu hv hb', plM_bit hc h5 hu hv hb']
              exact plM_app want l r (i + 1) _ _ (u + 1)
            · rcases hb' with rfl | rfl
              · rw [plM_nought hc hk h5 hu hv, plM_nought hc hk h5 hu hv]
                exact plM_app want l r (i + 1) _ _ (u + 1)
              · rw [plM_one hc hk h5 hu hv, plM_one hc hk h5 hu hv]
                exact plM_app want l r (i + 1) _ _ (u + 1)
/-- Where qubit q stands. -/
def plc (st : List Int) (q : Nat) : Nat := (st.getD q 0).toNat
theorem plc_inj {st : List Int} {Q M : Nat} (h : StOk st Q M) : Inj (plc st) Q := fun a b ha hb e => by
  have ha' : a < st.length := by rw [h.len]; exact ha
  have hb' : b < st.length := by rw [h.len]; exact hb
  have e1 : ∀ k (hk : k < st.length), st.getD k 0 = st[k] := fun k hk => by rw [List.getD_eq_getElem?_getD, List.getElem?_eq_getElem hk]; rfl
  unfold plc at e
  rw [e1 a ha', e1 b hb'] at e
  have r1 := h.lt _ (List.getElem_mem ha'); have r2 := h.lt _ (List.getElem_mem hb')
  exact (List.getElem_inj h.nd).1 (by omega)
theorem plc_swp {st : List Int} {Q : Nat} (hl : st.length = Q) (hr : ∀ x ∈ st, 0 ≤ x) (f p q : Nat) (hq : q < Q) : plc (st.map (swp (f : Int) (p : Int))) q = swN f p (plc st q) := by
  have hq' : q < st.length := by rw [hl]; exact hq
  unfold plc
  rw [map_getD _ _ hq']
  have e1 : st.getD q 0 = st[q] := by rw [List.getD_eq_getElem?_getD, List.getElem?_eq_getElem hq']; rfl
  have r1 := hr _ (List.getElem_mem hq')
  rw [e1]
  obtain ⟨x, hx⟩ : ∃ x, st[q] = x := ⟨_, rfl⟩
  rw [hx] at r1 ⊢
  obtain ⟨n, rfl⟩ : ∃ n : Nat, x = (n : Int) := ⟨x.toNat, by omega⟩
  unfold swp swN
  simp only [Int.toNat_natCast]
  by_cases h1 : n = f
  · rw [if_pos (by omega), if_pos h1, Int.toNat_natCast]
  · rw [if_neg (by omega), if_neg h1]
    by_cases h2 : n = p
    · rw [if_pos (by omega), if_pos h2, Int.toNat_natCast]
    · rw [if_neg (by omega), if_neg h2, Int.toNat_natCast]
theorem Spr.cong {p p' : Nat → Nat} {Q : Nat} {s s' : Nat → Nm} (h : Spr p Q s s') (e : ∀ q, q < Q → p' q = p q) : Spr p' Q s s' :=
  ⟨fun x y hs => h.on x y ⟨fun q hq => by rw [← e q hq]; exact hs.on q hq, fun j hj => hs.off j (fun q hq => by rw [e q hq]; exact hj q hq), hs.few⟩,
   fun y j hj hy => h.off y j (fun q hq => by rw [← e q hq]; exact hj q hq) hy⟩
/-- Exchanges carry a spread state. -/
theorem mvs_spr {W : List Nat} {st st' : List Int} {mv : List Gop} {k Q : Nat} (hW : ∀ f, lk W f f = false) (h : Mvs W st mv st' k) (hl : st.length = Q) (hr : ∀ x ∈ st, 0 ≤ x) {s s' : Nat → Nm} (hs : Spr (plc st) Q s s') :
    st'.length = Q ∧ (∀ x ∈ st', 0 ≤ x) ∧ (∀ g ∈ mv, g.kind < 5 ∧ g.cnd = []) ∧ Spr (plc st') Q s (rnG mv s') := by
  induction h with
  | nil => exact ⟨hl, hr, fun g hg => (by cases hg), hs⟩
  | @snoc st2 g1 k1 f p hm hlk ih =>
    obtain ⟨h1, h2, h3, h4⟩ := ih
    have hfp : f ≠ p := fun e => by rw [e, hW p] at hlk; cases hlk
    refine ⟨by rw [List.length_map]; exact h1, fun x hx => ?_, fun g hg => ?_, ?_⟩
    · obtain ⟨y, hy, rfl⟩ := List.mem_map.1 hx
      have := h2 y hy
      unfold swp
      split
      · omega
      · split <;> omega
    · rcases List.mem_append.1 hg with hg | hg
      · exact h3 g hg
      · unfold exO at hg
        simp only [List.mem_cons, List.not_mem_nil, or_false] at hg
        rcases hg with rfl | rfl | rfl <;> exact ⟨by unfold xc; simp, rfl⟩
    · rw [rnG_app]
      have := h4.exch (a := (f : Int)) (b := (p : Int)) (by simpa using hfp)
      exact this.cong (fun q hq => plc_swp h1 h2 f p q hq)
theorem stA_plc {st : List Int} {Q : Nat} (hl : st.length = Q) (hr : ∀ x ∈ st, 0 ≤ x) {c : Int} (hc : c.toNat < Q) : stA st c = ((plc st c.toNat : Nat) : Int) := by
  have hq' : c.toNat < st.length := by rw [hl]; exact hc
  have e1 : st.getD c.toNat 0 = st[c.toNat] := by rw [List.getD_eq_getElem?_getD, List.getElem?_eq_getElem hq']; rfl
  have r1 := hr _ (List.getElem_mem hq')
  unfold stA plc
  rw [e1]
  omega
/-- One operation, spread. -/
theorem spr_one {st : List Int} {Q M : Nat} (hst : StOk st Q M) (want : List Int) {g : Gop} (hq : g.kind ≠ 1 → g.q.toNat < Q) (hc : ∀ c ∈ g.ctl, c.toNat < Q) {s s' : Nat → Nm} (h : Spr (plc st) Q s s') (i i' : Nat) (bits : List Int) (u : Nat) :
    (plM want [g] i s bits u).f.1 = (plM want [mapO st g] i' s' bits u).f.1 ∧ (plM want [g] i s bits u).bits = (plM want [mapO st g] i' s' bits u).bits ∧ (plM want [g] i s bits u).u = (plM want [mapO st g] i' s' bits u).u ∧ Spr (plc st) Q (plM want [g] i s bits u).s (plM want [mapO st g] i' s' bits u).s := by
  have hr : ∀ x ∈ st, 0 ≤ x := fun x hx => (hst.lt x hx).1
  have hi := plc_inj hst
  have ek : (mapO st g).kind = g.kind := rfl
  have ec : (mapO st g).cnd = g.cnd := rfl
  have eb : (mapO st g).bit = g.bit := rfl
  have eq : g.kind ≠ 1 → (mapO st g).q = ((plc st g.q.toNat : Nat) : Int) := fun k1 => by
    show (if g.kind = 1 then g.q else stA st g.q) = _
    rw [if_neg k1, stA_plc hst.len hr (hq k1)]
  have ect : (mapO st g).ctl = g.ctl.map fun c => ((plc st c.toNat : Nat) : Int) := by
    show g.ctl.map (stA st) = _
    exact List.map_congr_left fun c hcm => stA_plc hst.len hr (hc c hcm)
  have hgt : Spr (plc st) Q (gt g s) (gt (mapO st g) s') := h.gt hi rfl rfl ect hc (fun k1 => ⟨hq k1, by rw [eq k1, Int.toNat_natCast]⟩)
  cases hcd : cnM bits g.cnd
  · rw [plM_skip hcd, plM_skip (by rw [ec]; exact hcd)]
    exact ⟨rfl, rfl, rfl, h⟩
  have hcd' : cnM bits (mapO st g).cnd = true := by rw [ec]; exact hcd
  by_cases hk : g.kind < 5
  · rw [plM_gate hcd hk, plM_gate hcd' (by rw [ek]; exact hk)]
    exact ⟨rfl, rfl, rfl, hgt⟩
  have hk' : ¬ (mapO st g).kind < 5 := by rw [ek]; exact hk
  have k1 : g.kind ≠ 1 := by omega
  have hqQ := hq k1
  have heq := eq k1
  have hoc : ∀ b, Spr (plc st) Q (Go.Proofs.YtlmfhopifggeaaaDoor.oc g.q b s) (Go.Proofs.YtlmfhopifggeaaaDoor.oc (mapO st g).q b s') := fun b => by
    have := h.oc hqQ (q' := (mapO st g).q) (by rw [heq, Int.toNat_natCast]) b
    have e : Go.Proofs.YtlmfhopifggeaaaDoor.oc ((g.q.toNat : Nat) : Int) b s = Go.Proofs.YtlmfhopifggeaaaDoor.oc g.q b s := by
      funext x
      unfold Go.Proofs.YtlmfhopifggeaaaDoor.oc bt
      rw [Int.toNat_natCast]
    rw [e] at this
    exact this
  by_cases hu : u = want.length
  · rw [plM_out hcd hk hu, plM_out hcd' hk' hu]
    exact ⟨rfl, rfl, rfl, h⟩
  obtain ⟨v, hv⟩ : ∃ v, want.getD u 0 = v := ⟨_, rfl⟩
  by_cases hb : v ≠ 0 ∧ v ≠ 1
  · rw [plM_bad hcd hk hu hv hb, plM_bad hcd' hk' hu hv hb]
    exact ⟨rfl, rfl, rfl, h⟩
  have hb' : v = 0 ∨ v = 1 := by omega
  by_cases h5 : g.kind = 5
  · rw [plM_bit hcd h5 hu hv hb', plM_bit hcd' (by rw [ek]; exact h5) hu hv hb', eb]
    exact ⟨rfl, rfl, rfl, hoc v⟩
  have h5' : (mapO st g).kind ≠ 5 := by rw [ek]; exact h5
  rcases hb' with rfl | rfl
  · rw [plM_nought hcd hk h5 hu hv, plM_nought hcd' hk' h5' hu hv]
    exact ⟨rfl, rfl, rfl, hoc 0⟩
  · rw [plM_one hcd hk h5 hu hv, plM_one hcd' hk' h5' hu hv]
    exact ⟨rfl, rfl, rfl, (hoc 1).gt hi (o := xOp g.q) (o' := xOp (mapO st g).q) rfl rfl rfl (fun c hcm => (by cases hcm)) (fun _ => ⟨hqQ, by show (mapO st g).q.toNat = _; rw [heq, Int.toNat_natCast]; rfl⟩)⟩
/-- THE PLAIN THEOREM: a shot of a circuit that was fitted ends as the shot of the circuit does, spread to the last places. -/
theorem fit_shot {W : List Nat} {M Q : Nat} (hW : ∀ f, lk W f f = false) (hQM : Q ≤ M) {ops out : List Gop} {st : List Int} (h : Ftd W M Q ops out st) (want : List Int) (hg : ∀ g ∈ ops, (g.kind ≠ 1 → g.q.toNat < Q) ∧ ∀ c ∈ g.ctl, c.toNat < Q) {s s' : Nat → Nm} (hs : Spr (plc (plN Q)) Q s s') (i i' : Nat) (bits : List Int) (u : Nat) :
    (plM want ops i s bits u).f.1 = (plM want out i' s' bits u).f.1 ∧ (plM want ops i s bits u).bits = (plM want out i' s' bits u).bits ∧ (plM want ops i s bits u).u = (plM want out i' s' bits u).u ∧ ((plM want ops i s bits u).f.1 = 0 → Spr (plc st) Q (plM want ops i s bits u).s (plM want out i' s' bits u).s) := by
  induction h with
  | nil => exact ⟨rfl, rfl, rfl, fun _ => hs⟩
  | @snoc ops0 out0 st0 mv0 st1 j0 g hf hm hj hz hl hok ih =>
    obtain ⟨h1, h2, h3, h4⟩ := ih (fun x hx => hg x (by simp [hx]))
    obtain ⟨a1, a2⟩ := plM_app want ops0 [g] i s bits u
    obtain ⟨b1, b2⟩ := plM_app want out0 (mv0 ++ [mapO st1 g]) i' s' bits u
    by_cases hf0 : (plM want ops0 i s bits u).f.1 = 0
    · rw [a2 hf0, b2 (by rw [← h1]; exact hf0)]
      have hst0 := hf.ok hQM
      obtain ⟨c1, c2, c3, c4⟩ := mvs_spr hW hm hst0.len (fun x hx => (hst0.lt x hx).1) (h4 hf0)
      rw [plM_efk want mv0 _ _ _ _ _ (fun x hx => (c3 x hx).1), efk_free _ _ _ (fun x hx => (c3 x hx).2), ← h2, ← h3]
      obtain ⟨d1, d2⟩ := hg g (by simp)
      obtain ⟨e1, e2, e3, e4⟩ := spr_one hok want d1 d2 c4 (i + ops0.length) (i' + out0.length + mv0.length) (plM want ops0 i s bits u).bits (plM want ops0 i s bits u).u
      exact ⟨e1, e2, e3, fun _ => e4⟩
    · rw [a1 hf0, b1 (by rw [← h1]; exact hf0)]
      exact ⟨h1, h2, h3, fun e => absurd e hf0⟩
end Go.Proofs.YtlmfhopifggeaaaDoor
namespace Go.Proofs.YtlmfhopifggeaaaDoor
open Go.RowKit

set_option maxRecDepth 100000 in
set_option maxHeartbeats 2000000 in
theorem sameTexts_row (T : Nat → ByteArray) (b1 o1 b2 o2 n c1 c2 : Nat) (w : World) (h1 : ∀ t, t < n → w.cell? ⟨b1, o1 + t, none⟩ = some (.string (T t))) (h2 : ∀ t, t < n → w.cell? ⟨b2, o2 + t, none⟩ = some (.string (T t))) (hn : n ≤ 4096) :
    Calls Tryd.prog 23 #[.slice (some ⟨b1, o1, none⟩) n c1, .slice (some ⟨b2, o2, none⟩) n c2] w fun e w' => e = .returned (.bool true) ∧ Ext w w' := by
  have H1 := Lib.hid h1; have H2 := Lib.hid h2; have Hn := Lib.hid hn
  clear h1 h2 hn
  go_enter Tryd.func23, Tryd.ntmps23
  go_wp2_with fail
  go_loopg [5] n (fun kk s5 wx => ∃ i : Nat, s5 = .int .i64 (i : Int) ∧ i ≤ n ∧ n - i = kk ∧ Ext w wx)
  case atStart => exact ⟨0, rfl, by omega, by omega, Ext.refl w⟩
  case round =>
    obtain ⟨i, rfl, hi1, hk, hE⟩ := hrel
    have HE := Lib.hid hE
    by_cases hin : i = n
    · have h2 : ¬ (i : Int) < (n : Int) := by omega
      clear hE
      go_wp2_with fail
      go_ret
      exact ⟨rfl, HE.out⟩
    · have h2 : (i : Int) < (n : Int) := by omega
      have h0 : (0 : Int) ≤ (i : Int) := by omega
      have wk : IntKind.i64.wrap ((i : Int) + 1) = ((i + 1 : Nat) : Int) := by rw [IntKind.wrap_i64]; have := Hn.out; omega
      have e1 := cell_ext (H1.out i (by omega)) hE; have e2 := cell_ext (H2.out i (by omega)) hE
      obtain ⟨x, hx⟩ : ∃ x, T i = x := ⟨_, rfl⟩
      rw [hx] at e1 e2
      have HEd := Lib.hid (cdrew hE)
      clear hE hx
      go_wp2_with fail
      go_region
      go_wp2_with fail
      go_roundg (n - (i + 1))
      case measure => omega
      case rel => exact ⟨i + 1, rfl, by omega, rfl, HEd.out⟩
/-- The first of the qubits, spread. -/
def sprN (st : List Int) (x : Nat) : Nat → Nat
  | 0 => 0
  | i + 1 => sprN st x i ||| (if x.testBit i then 2 ^ plc st i else 0)
theorem sprN_lt {st : List Int} {x : Nat} : ∀ (i : Nat), (∀ q, q < i → plc st q < 12) → sprN st x i < 2 ^ 12
  | 0, _ => by show (0 : Nat) < 2 ^ 12; decide
  | i + 1, h => by
    unfold sprN
    refine Nat.or_lt_two_pow (sprN_lt i (fun q hq => h q (by omega))) ?_
    split
    · exact Nat.pow_lt_pow_right (by decide) (h i (by omega))
    · decide
theorem sprN_bit (st : List Int) (x j : Nat) : ∀ (i : Nat), (sprN st x i).testBit j = true ↔ ∃ q, q < i ∧ plc st q = j ∧ x.testBit q = true
  | 0 => ⟨fun h => by unfold sprN at h; simp at h, fun ⟨q, h, _⟩ => by omega⟩
  | i + 1 => by
    unfold sprN
    rw [Nat.testBit_or, Bool.or_eq_true, sprN_bit st x j i]
    constructor
    · rintro (⟨q, h1, h2, h3⟩ | h)
      · exact ⟨q, by omega, h2, h3⟩
      · by_cases hx : x.testBit i = true
        · rw [if_pos hx, Nat.testBit_two_pow] at h
          exact ⟨i, by omega, of_decide_eq_true h, hx⟩
        · rw [if_neg hx, Nat.zero_testBit] at h
          cases h
    · rintro ⟨q, h1, h2, h3⟩
      by_cases hq : q = i
      · subst hq
        right
        rw [if_pos h3, Nat.testBit_two_pow]
        exact decide_eq_true h2
      · exact Or.inl ⟨q, by omega, h2, h3⟩
/-- What is spread so is spread. -/
theorem sprN_sp {st : List Int} {Q M x : Nat} (hst : StOk st Q M) (hx : x < 2 ^ Q) : Sp (plc st) Q x (sprN st x Q) := by
  refine ⟨fun q hq => ?_, fun j hj => ?_, fun j hj => Nat.testBit_lt_two_pow (Nat.lt_of_lt_of_le hx (Nat.pow_le_pow_right (by decide) hj))⟩
  · have h := sprN_bit st x (plc st q) Q
    cases hb : x.testBit q
    · rw [← Bool.not_eq_true, h]
      rintro ⟨r, h1, h2, h3⟩
      rw [plc_inj hst r q h1 hq h2, hb] at h3
      cases h3
    · exact h.2 ⟨q, hq, rfl, hb⟩
  · rw [← Bool.not_eq_true, sprN_bit st x j Q]
    rintro ⟨r, h1, h2, _⟩
    exact hj r h1 h2.symm
set_option maxRecDepth 100000 in
set_option maxHeartbeats 2000000 in
theorem spread_any (st : List Int) (Q M : Nat) (x : Nat) (ao : Option Addr) (cp : Nat) (w : World) (h : IntsAt w ao Q st) (hs : StOk st Q M) (hM : M ≤ 12) (hQ : Q ≤ 12) :
    Calls Tryd.prog 21 #[.int .i64 (x : Int), .slice ao Q cp] w fun e w' => e = .returned (.int .i64 ((sprN st x Q : Nat) : Int)) ∧ Ext w w' := by
  have H1 := Lib.hid h; have Hs := Lib.hid hs
  clear h hs
  go_enter Tryd.func21, Tryd.ntmps21
  go_wp2_with fail
  go_loopg [5, 6] Q (fun kk s5 s6 wx => ∃ i : Nat, s6 = .int .i64 (i : Int) ∧ i ≤ Q ∧ Q - i = kk ∧ s5 = .int .i64 ((sprN st x i : Nat) : Int) ∧ Ext w wx)
  case atStart => exact ⟨0, rfl, by omega, by omega, rfl, Ext.refl w⟩
  case round =>
    obtain ⟨i, rfl, hi1, hk, rfl, hE⟩ := hrel
    have HE := Lib.hid hE
    by_cases hin : i = Q
    · have h2 : ¬ (i : Int) < (Q : Int) := by omega
      have HF := Lib.hid (show sprN st x i = sprN st x Q by rw [hin])
      clear hE hin
      go_wp2_with fail
      go_ret
      exact ⟨congrArg (fun b => Ending.returned (Value.int .i64 ((b : Nat) : Int))) HF.out, HE.out⟩
    · have h2 : (i : Int) < (Q : Int) := by omega
      have h0 : (0 : Int) ≤ (i : Int) := by omega
      have wk : IntKind.i64.wrap ((i : Int) + 1) = ((i + 1 : Nat) : Int) := by rw [IntKind.wrap_i64]; omega
      obtain ⟨b, o, rfl, hbl, hc⟩ := (H1.out.ext hE).at (by omega)
      have e1 := hc i (by omega)
      have hst : st.getD i 0 = ((plc st i : Nat) : Int) := by
        have := stA_plc (st := st) (Q := Q) Hs.out.len (fun y hy => (Hs.out.lt y hy).1) (c := (i : Int)) (by omega)
        unfold stA at this
        simpa using this
      rw [hst] at e1
      have hp : plc st i < 12 := by
        have hq' : i < st.length := by rw [Hs.out.len]; omega
        have := (Hs.out.lt _ (List.getElem_mem hq')).2
        have e2 : st.getD i 0 = st[i] := by rw [List.getD_eq_getElem?_getD, List.getElem?_eq_getElem hq']; rfl
        rw [← e2, hst] at this
        omega
      obtain ⟨p, hpp⟩ : ∃ p, plc st i = p := ⟨_, rfl⟩
      rw [hpp] at e1 hp
      have hp0 : (0 : Int) ≤ (p : Int) := by omega
      have HEd := Lib.hid (cdrew hE)
      have hall : ∀ q, q < i → plc st q < 12 := fun q hq => by
        have hq' : q < st.length := by rw [Hs.out.len]; omega
        have h3 := Hs.out.lt _ (List.getElem_mem hq')
        have e2 : st.getD q 0 = st[q] := by rw [List.getD_eq_getElem?_getD, List.getElem?_eq_getElem hq']; rfl
        unfold plc
        rw [e2]
        omega
      have hval : bits .or .i64 ((sprN st x i : Nat) : Int) (wrap64 (bits .and .i64 ((x : Int) / 2 ^ i) 1 * 2 ^ p)) = ((sprN st x (i + 1) : Nat) : Int) := by
        have hb : sprN st x i < 1048576 := Nat.lt_of_lt_of_le (sprN_lt i hall) (by decide)
        have hpw : 2 ^ p < 2 ^ 12 := Nat.pow_lt_pow_right (by decide) hp
        have hcast : ((2 : Int) ^ p) = ((2 ^ p : Nat) : Int) := by push_cast; rfl
        have key : wrap64 ((if x.testBit i = true then 1 else 0) * 2 ^ p) = (((if x.testBit i = true then 2 ^ p else 0 : Nat)) : Int) := by
          rw [hcast]
          generalize 2 ^ p = P at *
          split
          · unfold wrap64; omega
          · unfold wrap64; omega
        rw [shr1, key, or_i64 _ _ hb (by split <;> omega)]
        show _ = ((sprN st x i ||| (if x.testBit i then 2 ^ plc st i else 0) : Nat) : Int)
        rw [hpp]
      have Hval := Lib.hid hval
      clear hE hc hbl hst hall hval
      go_wp2_with fail
      go_region
      go_wp2_with fail
      go_roundg (Q - (i + 1))
      case measure => omega
      case rel => exact ⟨i + 1, rfl, by omega, rfl, congrArg (Value.int .i64) Hval.out, HEd.out⟩
end Go.Proofs.YtlmfhopifggeaaaDoor
namespace Go.Proofs.YtlmfhopifggeaaaDoor

/-- The basis state that y is spread from. -/
def gth (st : List Int) (y : Nat) : Nat → Nat
  | 0 => 0
  | i + 1 => gth st y i ||| (if y.testBit (plc st i) then 2 ^ i else 0)
theorem gth_bit (st : List Int) (y j : Nat) : ∀ (i : Nat), (gth st y i).testBit j = true ↔ j < i ∧ y.testBit (plc st j) = true
  | 0 => ⟨fun h => by unfold gth at h; simp at h, fun ⟨h, _⟩ => by omega⟩
  | i + 1 => by
    unfold gth
    rw [Nat.testBit_or, Bool.or_eq_true, gth_bit st y j i]
    constructor
    · rintro (⟨h1, h2⟩ | h)
      · exact ⟨by omega, h2⟩
      · by_cases hx : y.testBit (plc st i) = true
        · rw [if_pos hx, Nat.testBit_two_pow] at h
          have : i = j := of_decide_eq_true h
          subst this
          exact ⟨by omega, hx⟩
        · rw [if_neg hx, Nat.zero_testBit] at h
          cases h
    · rintro ⟨h1, h2⟩
      by_cases hq : j = i
      · subst hq
        right
        rw [if_pos h2, Nat.testBit_two_pow]
        exact decide_eq_true rfl
      · exact Or.inl ⟨by omega, h2⟩
theorem gth_lt (st : List Int) (y : Nat) : ∀ (i : Nat), gth st y i < 2 ^ i
  | 0 => by show (0 : Nat) < 2 ^ 0; decide
  | i + 1 => by
    unfold gth
    refine Nat.or_lt_two_pow (Nat.lt_of_lt_of_le (gth_lt st y i) (Nat.pow_le_pow_right (by decide) (by omega))) ?_
    split
    · exact Nat.pow_lt_pow_right (by decide) (by omega)
    · exact Nat.two_pow_pos _
theorem gth_spr {st : List Int} {Q : Nat} {y : Nat} (h : ∀ j, (∀ q, q < Q → j ≠ plc st q) → y.testBit j = false) : sprN st (gth st y Q) Q = y := by
  refine Nat.eq_of_testBit_eq fun j => ?_
  cases hb : y.testBit j
  · rw [← Bool.not_eq_true, sprN_bit]
    rintro ⟨q, h1, h2, h3⟩
    rw [gth_bit] at h3
    rw [h2, hb] at h3
    cases h3.2
  · rw [sprN_bit]
    by_cases hj : ∃ q, q < Q ∧ plc st q = j
    · obtain ⟨q, h1, h2⟩ := hj
      exact ⟨q, h1, h2, (gth_bit st y q Q).2 ⟨h1, by rw [h2]; exact hb⟩⟩
    · rw [h j (fun q hq e => hj ⟨q, hq, e.symm⟩)] at hb
      cases hb
theorem sprN_inj {st : List Int} {Q M x x' : Nat} (hst : StOk st Q M) (hx : x < 2 ^ Q) (hx' : x' < 2 ^ Q) (e : sprN st x Q = sprN st x' Q) : x = x' := by
  have h1 := sprN_sp hst hx; have h2 := sprN_sp hst hx'
  refine Nat.eq_of_testBit_eq fun j => ?_
  by_cases hj : j < Q
  · rw [← h1.on j hj, ← h2.on j hj, e]
  · rw [h1.few j (by omega), h2.few j (by omega)]
open Classical in
/-- The wanted row where those below j have been laid. -/
noncomputable def wnr (st : List Int) (Q : Nat) (s : Nat → Nm) (j y : Nat) : Nm := if ∃ x, x < j ∧ sprN st x Q = y then s (gth st y Q) else nZ
theorem gth_of {st : List Int} {Q M x : Nat} (hst : StOk st Q M) (hx : x < 2 ^ Q) : gth st (sprN st x Q) Q = x := by
  have h1 := sprN_sp hst hx
  refine sprN_inj hst (gth_lt st _ Q) hx (gth_spr h1.off)
theorem wnr_zero (st : List Int) (Q : Nat) (s : Nat → Nm) (y : Nat) : wnr st Q s 0 y = nZ := by
  unfold wnr
  rw [if_neg]
  rintro ⟨x, h, _⟩
  omega
theorem wnr_step {st : List Int} {Q M : Nat} (hst : StOk st Q M) (s : Nat → Nm) {j : Nat} (hj : j < 2 ^ Q) (y : Nat) : wnr st Q s (j + 1) y = if y = sprN st j Q then s j else wnr st Q s j y := by
  by_cases e : y = sprN st j Q
  · rw [if_pos e]
    unfold wnr
    rw [if_pos ⟨j, by omega, e.symm⟩, e, gth_of hst hj]
  · rw [if_neg e]
    unfold wnr
    by_cases h : ∃ x, x < j ∧ sprN st x Q = y
    · rw [if_pos h, if_pos]
      obtain ⟨x, h1, h2⟩ := h
      exact ⟨x, by omega, h2⟩
    · rw [if_neg h, if_neg]
      rintro ⟨x, h1, h2⟩
      by_cases hx : x = j
      · subst hx; exact e h2.symm
      · exact h ⟨x, by omega, h2⟩
/-- The row, laid whole, is the spread state. -/
theorem wnr_end {st : List Int} {Q M : Nat} (hst : StOk st Q M) {s s' : Nat → Nm} (h : Spr (plc st) Q s s') (y : Nat) : wnr st Q s (2 ^ Q) y = s' y := by
  unfold wnr
  by_cases hy : ∃ x, x < 2 ^ Q ∧ sprN st x Q = y
  · rw [if_pos hy]
    obtain ⟨x, h1, h2⟩ := hy
    subst h2
    rw [gth_of hst h1]
    exact (h.on x _ (sprN_sp hst h1)).symm
  · rw [if_neg hy]
    by_cases hj : ∃ j, (∀ q, q < Q → j ≠ plc st q) ∧ y.testBit j = true
    · obtain ⟨j, h1, h2⟩ := hj
      exact (h.off y j h1 h2).symm
    · exfalso
      refine hy ⟨gth st y Q, gth_lt st y Q, gth_spr fun j hjq => ?_⟩
      cases hb : y.testBit j
      · rfl
      · exact absurd ⟨j, hjq, hb⟩ hj
theorem Sp.one {p : Nat → Nat} {Q x y y' : Nat} (h : Sp p Q x y) (h' : Sp p Q x y') : y = y' := by
  refine Nat.eq_of_testBit_eq fun j => ?_
  by_cases hj : ∃ q, q < Q ∧ p q = j
  · obtain ⟨q, h1, h2⟩ := hj
    subst h2
    rw [h.on q h1, h'.on q h1]
  · rw [h.off j (fun q hq e => hj ⟨q, hq, e.symm⟩), h'.off j (fun q hq e => hj ⟨q, hq, e.symm⟩)]
theorem Sp.from_one {p : Nat → Nat} {Q x x' y : Nat} (h : Sp p Q x y) (h' : Sp p Q x' y) : x = x' := by
  refine Nat.eq_of_testBit_eq fun j => ?_
  by_cases hj : j < Q
  · rw [← h.on j hj, ← h'.on j hj]
  · rw [h.few j (by omega), h'.few j (by omega)]
/-- Where a shot begins. -/
theorem bas_spr {st : List Int} {Q M x : Nat} (hst : StOk st Q M) (hx : x < 2 ^ Q) : Spr (plc st) Q (bas x) (bas (sprN st x Q)) := by
  have h0 := sprN_sp hst hx
  refine ⟨fun x' y hs => ?_, fun y j hj hy => ?_⟩
  · unfold bas
    by_cases e : x' = x
    · subst e
      rw [if_pos rfl, if_pos (hs.one h0)]
    · rw [if_neg e, if_neg]
      intro ey
      subst ey
      exact e (hs.from_one h0)
  · unfold bas
    rw [if_neg]
    intro e
    subst e
    rw [h0.off j hj] at hy
    cases hy
end Go.Proofs.YtlmfhopifggeaaaDoor
namespace Go.Proofs.YtlmfhopifggeaaaDoor
variable {Qc : Nat → Prop}
open Go.RowKit

/-- What is laid where those below j have been gone through. -/
def op (q v : Int) (s : Nat → Nm) (j y : Nat) : Nm := if y < j then oc q v s y else nZ
theorem op_yes {q v : Int} {s : Nat → Nm} {j : Nat} (h : (if bt j q then (1 : Int) else 0) = v) (y : Nat) : op q v s (j + 1) y = if y = j then s j else op q v s j y := by
  unfold op
  by_cases e : y = j
  · subst e
    rw [if_pos (Nat.lt_succ_self _), if_pos rfl]
    unfold oc
    rw [if_pos h]
  · rw [if_neg e]
    have e1 : (y < j + 1) = (y < j) := propext (by omega)
    simp only [e1]
theorem op_no {q v : Int} {s : Nat → Nm} {j : Nat} (h : ¬ (if bt j q then (1 : Int) else 0) = v) (y : Nat) : op q v s (j + 1) y = op q v s j y := by
  unfold op
  by_cases e : y = j
  · subst e
    rw [if_pos (Nat.lt_succ_self _), if_neg (Nat.lt_irrefl _)]
    unfold oc
    rw [if_neg h]
  · have e1 : (y < j + 1) = (y < j) := propext (by omega)
    simp only [e1]
set_option maxRecDepth 100000 in
set_option maxHeartbeats 4000000 in
theorem QOutcome_any (s : Nat → Nm) (m b cp qn : Nat) (v : Int) (P E : Nat) (w : World) (hS : RsAt Qc w b m s P E) (hm2 : m ≤ 4096) (hq : qn ≤ 60) :
    Calls Tryd.prog 42 #[.slice (some ⟨b, 0, none⟩) m cp, .int .i64 (qn : Int), .int .i64 v] w fun e w' => ∃ b', e = .returned (.slice (some ⟨b', 0, none⟩) m m) ∧ RsAt Qc w' b' m (oc (qn : Int) v s) P E ∧ w.heap.size ≤ b' ∧ Ext w w' := by
  obtain ⟨H, hH⟩ : ∃ H, w.heap.size = H := ⟨_, rfl⟩
  have hbH : b < H := by rw [← hH]; exact hS.lt
  have HS := Lib.hid hS; have Hm2 := Lib.hid hm2; have HH := Lib.hid hH; have HbH := Lib.hid hbH
  have Hb := Lib.hid (fun (j : Nat) (wx : World) => bitOf_st j (qn : Int) wx (by omega) (by omega))
  clear hS hm2 hH hbH hq
  go_enter Tryd.func42, Tryd.ntmps42
  go_wp2_with (refine wpList_make_R (Qc := Qc) w rfl _ _ rfl .i64 .i64 (m : Int) (m : Int) m rfl rfl rfl rfl (by have := Hm2.out; omega) ?_; intro w1 hR hE1 hl1)
  rw [HH.out] at hR hl1 ⊢
  have HG0 := Lib.hid (show RsAt Qc w1 b m s P E ∧ RsAt Qc w1 H m (op (qn : Int) v s 0) P E ∧ Ext w w1 from ⟨HS.out.ext hE1, (hR P E).congr (fun y _ => by unfold op; rw [if_neg (Nat.not_lt_zero _)]), hE1⟩)
  clear hR hE1 hl1 HS
  go_loopg [8] m (fun kk s8 wr => ∃ j : Nat, s8 = .int .i64 (j : Int) ∧ j ≤ m ∧ m - j = kk ∧ RsAt Qc wr b m s P E ∧ RsAt Qc wr H m (op (qn : Int) v s j) P E ∧ Ext w wr)
  case atStart => exact ⟨0, rfl, by omega, by omega, HG0.out⟩
  case round =>
    obtain ⟨j, rfl, hj, hkk, hG⟩ := hrel
    clear HG0
    have HG := Lib.hid hG; have Hkk := Lib.hid hkk
    clear hG hkk
    by_cases hjm : j = m
    · have Hend := Lib.hid (show RsAt Qc wr H m (oc (qn : Int) v s) P E ∧ w.heap.size ≤ H ∧ Ext w wr from ⟨HG.out.2.1.congr (fun y hy => by unfold op; rw [hjm, if_pos hy]), by rw [HH.out]; exact Nat.le_refl _, HG.out.2.2⟩)
      have q1 : ¬ (j : Int) < (m : Int) := by omega
      clear hjm hj
      go_wp2_with fail
      go_ret
      exact ⟨_, rfl, Hend.out⟩
    have hlt : j < m := by omega
    have q1 : (j : Int) < (m : Int) := by omega
    have q0 : (0 : Int) ≤ (j : Int) := by omega
    have wk : IntKind.i64.wrap ((j : Int) + 1) = ((j + 1 : Nat) : Int) := by rw [IntKind.wrap_i64]; have := Hm2.out; omega
    have Hlt := Lib.hid hlt
    clear hjm hj hlt
    obtain ⟨r, hr⟩ : ∃ r : Int, (if bt j (qn : Int) then (1 : Int) else 0) = r := ⟨_, rfl⟩
    have Hbj := Lib.hid (Hb.out j wr)
    rw [hr] at Hbj
    by_cases hrv : r = v
    · subst hrv
      obtain ⟨cl, hcl, hRl, hln⟩ := HG.out.1.at Hlt.out
      have hil : (Tryd.prog.info? 59).map (·.size) = some cl.length := by rw [hln]; exact R_size
      have ht : wr.there H (j * 17) cl.toArray.size := by rw [hRl.size]; exact HG.out.2.1.there Hlt.out
      have hinf := hRl.info; have hone := hRl.val.one
      obtain ⟨k1, k2⟩ := HG.out.2.1.set Hlt.out hRl
      have HG4 := Lib.hid (show RsAt Qc (wr.setCells H (j * 17) cl.toArray.toList) b m s P E ∧ RsAt Qc (wr.setCells H (j * 17) cl.toArray.toList) H m (op (qn : Int) r s (j + 1)) P E ∧ Ext w (wr.setCells H (j * 17) cl.toArray.toList) from ⟨HG.out.1.chz k2 HG.out.2.1.no (by have := HbH.out; omega), k1.congr (fun y _ => (op_yes hr y).symm), k2.ext HG.out.2.2 (by rw [HH.out]; exact Nat.le_refl _)⟩)
      clear k1 k2 hRl hln hr HG
      go_wp2_with fail
      refine Hbj.out.mono ?_
      rintro e w2 ⟨rfl, rfl⟩
      go_wp2_with (first | refine wpList_load_mid rfl 59 _ rfl b (j * 17) rfl cl _ hcl Tryd.underlying59 rfl hil ?_ | refine wpList_store_mid rfl 59 _ _ rfl H (j * 17) cl.toArray rfl rfl ht hinf hone ?_)
      go_roundg (m - (j + 1))
      case measure => have := Hkk.out; have := Hlt.out; omega
      case rel => exact ⟨j + 1, rfl, Hlt.out, rfl, HG4.out⟩
    · have HG4 := Lib.hid (show RsAt Qc wr b m s P E ∧ RsAt Qc wr H m (op (qn : Int) v s (j + 1)) P E ∧ Ext w wr from ⟨HG.out.1, HG.out.2.1.congr (fun y _ => (op_no (by rw [hr]; exact hrv) y).symm), HG.out.2.2⟩)
      have kn : (r == v) = false := by simpa using hrv
      clear hr HG hrv
      go_wp2_with fail
      refine Hbj.out.mono ?_
      rintro e w2 ⟨rfl, rfl⟩
      go_wp2_with fail
      go_roundg (m - (j + 1))
      case measure => have := Hkk.out; have := Hlt.out; omega
      case rel => exact ⟨j + 1, rfl, Hlt.out, rfl, HG4.out⟩
end Go.Proofs.YtlmfhopifggeaaaDoor
namespace Go.Proofs.YtlmfhopifggeaaaDoor
variable {Qc : Nat → Prop}
open Go.RowKit

theorem ClQ.wide {Q' : Nat → Prop} {w : World} {ao : Option Addr} {z : Int} (h : ClQ Qc w ao z) (k : ∀ b, Qc b → Q' b) : ClQ Q' w ao z := h.imp id fun h => ⟨fun b hb => k b (h.1 b hb), fun a ha => k _ (h.2 a ha)⟩
theorem IsZ.wide {Q' : Nat → Prop} {w : World} {neg : Bool} {ao : Option Addr} {n c : Nat} {z : Int} (h : IsZ Qc w neg ao n c z) (k : ∀ b, Qc b → Q' b) : IsZ Q' w neg ao n c z := by
  obtain ⟨l, h1, h2, h3, h4, h5, h6, h7, h8, h9⟩ := h
  exact ⟨l, h1, h2, h3, h4, h5, h6, h7, h8, h9.wide k⟩
theorem ZCs.wide {Q' : Nat → Prop} {w : World} {cs : Array Value} {f : Nat → Int} {e : Int} (h : ZCs Qc w cs f e) (k : ∀ b, Qc b → Q' b) : ZCs Q' w cs f e :=
  ⟨h.1, fun i hi => by obtain ⟨b, a, n, c, q1, q2, q3⟩ := h.2.1 i hi; exact ⟨b, a, n, c, q1, q2, q3.wide k⟩, h.2.2⟩
theorem RmA.wide {Q' : Nat → Prop} {w : World} {cs : Array Value} {x : Nm} {P E : Nat} (h : RmA Qc w cs x P E) (k : ∀ b, Qc b → Q' b) : RmA Q' w cs x P E := ⟨h.anti, h.low, h.abs, h.down, h.val.wide k⟩
theorem RsAt.wide {Q' : Nat → Prop} {w : World} {b n : Nat} {s : Nat → Nm} {P E : Nat} (h : RsAt Qc w b n s P E) (k : ∀ b, Qc b → Q' b) : RsAt Q' w b n s P E := by
  obtain ⟨cs, h1, h2, h3⟩ := h.row
  refine ⟨cs, h1, h2, fun x hx => ?_⟩
  obtain ⟨c, g1, g2⟩ := h3 x hx
  exact ⟨c, g1, g2.wide k⟩
/-- The empty list lies anywhere. -/
theorem IsZ.apart {w w' : World} {g : Nat} {neg : Bool} {ao : Option Addr} {n c : Nat} {z : Int} (h : IsZ Qc w neg ao n c z) (hc : ChZ g w w') (hg : ¬ Qc g) (hI : IBlk w g → IBlk w' g) : IsZ Qc w' neg ao n c z := by
  obtain ⟨l, h1, h2, h3, h4, h5, h6, h7, h8, h9⟩ := h
  refine ⟨l, h1, h2, h3, ?_, h5, h6, h7, h8, h9.grow hc.size⟩
  rcases h4 with h4 | ⟨b, o, rfl, hb, hcc⟩
  · exact Or.inl h4
  · by_cases hne : b = g
    · rw [hne] at hb h9 ⊢
      rcases h9 with h0 | h9
      · have hl : l = [] := by
          rcases h6 with e | e
          · exact e
          · exfalso
            have hpos : 0 < l.length := by
              cases l with
              | nil => simp at e
              | cons => simp
            have := zval_lt_len ZD.nil (Or.inr e) (show [].length < l.length from hpos)
            have e0 : zval [] = 0 := rfl
            rw [e0] at this
            rw [h0] at h7
            split at h7 <;> omega
        subst hl
        exact Or.inr ⟨g, o, rfl, hI hb, fun t ht => by simp at ht⟩
      · exact absurd (h9.2 _ rfl) hg
    · have hblk := hc.block b hne hb.lt
      exact Or.inr ⟨b, o, rfl, hb.block hblk, fun t ht => (World.cell?_of_block (a := ⟨b, o + t, none⟩) hblk).trans (hcc t ht)⟩
theorem RsAt.apart {w w' : World} {b n g : Nat} {s : Nat → Nm} {P E : Nat} (h : RsAt Qc w b n s P E) (hc : ChZ g w w') (hg : ¬ Qc g) (hI : IBlk w g → IBlk w' g) (hne : b ≠ g) : RsAt Qc w' b n s P E := by
  obtain ⟨cs, h1, h2, h3⟩ := h.row
  refine ⟨cs, hc.row h1 hne, h2, fun x hx => ?_⟩
  obtain ⟨c, g1, g2⟩ := h3 x hx
  exact ⟨c, g1, g2.anti, g2.low, g2.abs, g2.down, g2.val.1, fun i hi => by obtain ⟨b, a, n, c, q1, q2, q3⟩ := g2.val.2.1 i hi; exact ⟨b, a, n, c, q1, q2, q3.apart hc hg hI⟩, g2.val.2.2⟩
end Go.Proofs.YtlmfhopifggeaaaDoor
namespace Go.Proofs.YtlmfhopifggeaaaDoor
variable {Qc : Nat → Prop}
open Go.RowKit

theorem LimQ.but {w : World} {g : Nat} (h : g < w.heap.size) : LimQ (fun k => k ≠ g) w := fun b hb => by show b ≠ g; omega
theorem IsZ.fresh {w W : World} {g : Nat} {neg : Bool} {ao : Option Addr} {n c : Nat} {z : Int} (h : IsZ Qc w neg ao n c z) (k : Ext w W) (h1 : w.heap.size ≤ g) (h2 : g < W.heap.size) : IsZ (fun k => k ≠ g) W neg ao n c z := by
  obtain ⟨l, p1, p2, p3, p4, p5, p6, p7, p8, _⟩ := h
  refine ⟨l, p1, p2, p3, p4.ext k, p5, p6, p7, p8, Or.inr ⟨LimQ.but h2, fun a ha => ?_⟩⟩
  rcases p4 with ⟨e, _⟩ | ⟨b, o, e, hb, _⟩
  · rw [e] at ha; cases ha
  · rw [e] at ha
    cases ha
    have := hb.lt
    show b ≠ g
    omega
theorem RsAt.fresh {w W : World} {b n g : Nat} {s : Nat → Nm} {P E : Nat} (h : RsAt Qc w b n s P E) (k : Ext w W) (h1 : w.heap.size ≤ g) (h2 : g < W.heap.size) : RsAt (fun k => k ≠ g) W b n s P E := by
  have hl := h.lt
  obtain ⟨cs, e1, e2, e3⟩ := h.row
  refine ⟨cs, (k.block _ hl).trans e1, e2, fun x hx => ?_⟩
  obtain ⟨c, g1, g2⟩ := e3 x hx
  exact ⟨c, g1, g2.anti, g2.low, g2.abs, g2.down, g2.val.1, fun i hi => by obtain ⟨b, a, n, c, q1, q2, q3⟩ := g2.val.2.1 i hi; exact ⟨b, a, n, c, q1, q2, q3.fresh k h1 h2⟩, g2.val.2.2⟩
end Go.Proofs.YtlmfhopifggeaaaDoor
