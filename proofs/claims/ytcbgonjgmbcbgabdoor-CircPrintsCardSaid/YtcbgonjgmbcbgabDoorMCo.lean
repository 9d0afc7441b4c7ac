/-
  Levels: the program's walk.
-/
import Derived.Test.YtcbgonjgmbcbgabDoorMCm
import Derived.Test.YtcbgonjgmbcbgabDoorMCf

namespace Go.Proofs.YtcbgonjgmbcbgabDoor
open Go.RowKit

/-- The array of last levels, in a variable. -/
def LastAt (w : World) (g : Nat) (f : Int → Int) : Prop := ∀ i : Nat, i < 24 → w.cell? ⟨g, i, none⟩ = some (.int .i64 (f (i : Int))) ∧ w.frozen? ⟨g, i, none⟩ = false
theorem LastAt.ext {w w' : World} {g : Nat} {f : Int → Int} (h : LastAt w g f) (k : Ext w w') : LastAt w' g f := fun i hi => by
  obtain ⟨h1, h2⟩ := h i hi
  have hlt := World.block_lt_of_cell? w ⟨g, i, none⟩ h1
  exact ⟨cell_ext h1 k, by rw [← h2]; simp only [World.frozen?, k.block g hlt]⟩
theorem LastAt.put {w : World} {g : Nat} {f : Int → Int} (h : LastAt w g f) (t : Nat) (ht : t < 24) (v : Int) : LastAt (w.setCell ⟨g, t, none⟩ (.int .i64 v)) g (updL f [(t : Int)] v) := fun i hi => by
  obtain ⟨h1, h2⟩ := h i hi
  refine ⟨?_, ?_⟩
  · by_cases e : i = t
    · subst e
      rw [World.cell?_setCell_same _ _ _ h1]; simp [updL]
    · rw [World.cell?_setCell_other _ _ _ _ (fun q => e (congrArg Addr.off q).symm), h1]
      have : ¬ ((i : Int) = (t : Int)) := by omega
      simp [updL, this]
  · rw [← h2]; simp
theorem LastAt.lt {w : World} {g : Nat} {f : Int → Int} (h : LastAt w g f) : g < w.heap.size := World.block_lt_of_cell? w ⟨g, 0, none⟩ (h 0 (by omega)).1
theorem IntsAt.putFar {w : World} {ao : Option Addr} {n : Nat} {l : List Int} (h : IntsAt w ao n l) {g k : Nat} {u : Value} (hne : ∀ b o, ao = some ⟨b, o, none⟩ → b ≠ g) : IntsAt (w.setCell ⟨g, k, none⟩ u) ao n l := by
  refine ⟨h.1, ?_⟩
  rcases h.2 with h0 | ⟨b, o, e, hb, hc⟩
  · exact Or.inl h0
  · refine Or.inr ⟨b, o, e, by simpa using hb, fun t ht => ?_⟩
    rw [World.cell?_setCell_other _ _ _ _ (fun q => hne b o e (congrArg Addr.block q).symm)]
    exact hc t ht
theorem lastAt_new (w : World) : LastAt (w.alloc (.cells (Array.replicate 24 (.int .i64 0)) 69)) w.heap.size (fun _ => 0) := fun i hi => by
  have hr : (w.alloc (.cells (Array.replicate 24 (.int .i64 0)) 69)).heap[w.heap.size]? = some (.cells (Array.replicate 24 (.int .i64 0)) 69 (0, 0)) := heap_alloc_new w _
  refine ⟨?_, frozen_of_row _ _ i _ _ hr⟩
  rw [cell_of_row _ _ i _ _ (0, 0) hr]
  simp [hi]

/-- What a checked operation keeps to. -/
structure LvFit (o : Gop) : Prop where
  kd : 1 ≤ o.kind ∧ o.kind ≤ 6
  bit : 0 ≤ o.bit ∧ o.bit ≤ 12
  cnd : ∀ t ∈ o.cnd, -12 ≤ t ∧ t ≤ 12
  ctl : (o.ctl.length + 26) * 8 ≤ 140737488355328
  few : o.cnd.length ≤ 24
  pl : ∀ t ∈ plP o, 0 ≤ t ∧ t < 24

set_option maxHeartbeats 4000000 in
set_option maxRecDepth 100000 in
theorem levels_any (ops : List Gop) (ao : Option Addr) (n cp : Nat) (w : World) (h : OpsAt w ao n ops) (_hn : n ≤ cp) (_hcp : cp ≤ 9223372036854775807) (hn4 : n ≤ 4096) (hS : Shp w) (hf : ∀ g ∈ ops, LvFit g) :
    Calls Tryd.prog 17 #[.slice ao n cp] w fun e w' => e = .returned (.int .i64 (lvs plP ops).2) ∧ Ext w w' := by
  have E0 := ext_al w (.cells (Array.replicate 24 (.int .i64 0)) 69)
  have HL0 := Lib.hid (lastAt_new w)
  have HE0 := Lib.hid E0; have HO := Lib.hid h; have HS := Lib.hid hS; have Hf := Lib.hid hf
  have Hl := Lib.hid h.1
  clear h hS hf E0
  go_enter Tryd.func17, Tryd.ntmps17
  go_wp2_with fail
  go_loopg [4, 15] n (fun kk s4 s15 wx => ∃ i : Nat, s15 = .int .i64 (i : Int) ∧ i ≤ n ∧ n - i = kk ∧ s4 = .int .i64 (lvs plP (ops.take i)).2 ∧ Ext w wx ∧ LastAt wx w.heap.size (lvs plP (ops.take i)).1)
  case atStart => exact ⟨0, rfl, by omega, by omega, rfl, HE0.out, HL0.out⟩
  case round =>
    clear HE0 HL0
    obtain ⟨i, rfl, hi1, hk, rfl, hE, hLa⟩ := hrel
    have HE := Lib.hid hE; have HLa := Lib.hid hLa
    clear hE hLa
    by_cases hin : i = n
    · have h2 : ¬ (i : Int) < (n : Int) := by omega
      have hR : lvs plP (ops.take i) = lvs plP ops := by rw [List.take_of_length_le (by rw [Hl.out]; omega)]
      rw [hR]
      clear hR HLa
      go_wp2_with fail
      go_ret
      exact ⟨rfl, HE.out⟩
    · have h2 : (i : Int) < (n : Int) := by omega
      have h0 : (0 : Int) ≤ (i : Int) := by omega
      obtain ⟨b, o, rfl⟩ := HO.out.some_of (by omega)
      obtain ⟨g, hg⟩ : ∃ g, ops[i]? = some g := ⟨_, List.getElem?_eq_getElem (by rw [Hl.out]; omega)⟩
      obtain ⟨a1, n1, c1, a2, n2, c2, e0, e1, e2, e3, e4, e5, hL⟩ := (HO.out.ext HE.out).at i g hg
      have hfit := Hf.out g (List.mem_of_getElem? hg)
      have hst : ops.take (i + 1) = ops.take i ++ [g] := by rw [List.take_add_one, hg]; rfl
      have hst2 : lvs plP (ops.take (i + 1)) = lvStep plP (lvs plP (ops.take i)) g := by rw [hst, lvs_snoc]
      have hbd := lvs_bound plP (ops.take i)
      have hlen : (ops.take i).length = i := by rw [List.length_take, Hl.out]; omega
      rw [hlen] at hbd
      obtain ⟨S, hS⟩ : ∃ S, lvs plP (ops.take i) = S := ⟨_, rfl⟩
      rw [hS] at hst2 hbd HLa ⊢
      obtain ⟨f, gr⟩ := S
      have Ea := ext_al wr (.cells #[.int .i64 g.kind, .int .i64 g.k, .slice a1 n1 c1, .int .i64 g.q, .int .i64 g.bit, .slice a2 n2 c2] 43)
      have bO := opbx_new wr g.kind g.k a1 n1 c1 g.q g.bit a2 n2 c2
      have hn1 := hL.i1.1; have hn2 := hL.i2.1
      have HM := Lib.hid (touched_any g a1 n1 c1 a2 n2 c2 (wr.alloc (.cells #[.int .i64 g.kind, .int .i64 g.k, .slice a1 n1 c1, .int .i64 g.q, .int .i64 g.bit, .slice a2 n2 c2] 43)) ⟨hL.i1.ext Ea, hL.h1, hL.m1, hL.i2.ext Ea, hL.h2, hL.m2⟩ ((HS.out.ext HE.out).ext Ea) hfit.kd (by have := hfit.ctl; omega) (by have := hfit.few; omega) hfit.bit hfit.cnd)
      have hsz : (wr.alloc (.cells #[.int .i64 g.kind, .int .i64 g.k, .slice a1 n1 c1, .int .i64 g.q, .int .i64 g.bit, .slice a2 n2 c2] 43)).heap.size = wr.heap.size + 1 := by simp
      have Hpl := Lib.hid hfit.pl
      have hPL : g.ctl ++ tchQ g.kind g.q ++ tchB 12 g.kind g.bit ++ tchC 12 g.cnd = plP g := rfl
      rw [hPL] at HM
      obtain ⟨L, hLL⟩ : ∃ L, plP g = L := ⟨_, rfl⟩
      rw [hLL] at HM Hpl
      have hst3 : lvs plP (ops.take (i + 1)) = (updL f L (lev f L), if gr < lev f L then lev f L else gr) := by rw [hst2, ← hLL]; rfl
      have Hst := Lib.hid hst3
      have hlb := HLa.out.lt
      have hwl := HE.out.size
      obtain ⟨kd, kk', ctl, qq, bb, cnd⟩ := g
      simp only at e0 e1 e2 e3 e4 e5 HM bO Ea hsz hbd HLa ⊢
      have p0 := bO.x0; have p1 := bO.x1; have p2 := bO.x2; have p3 := bO.x3; have p4 := bO.x4; have p5 := bO.x5
      have HEa := Lib.hid Ea
      have Hbd := Lib.hid hbd
      clear hst hst2 hst3 hg hL bO Ea hfit hbd hS hlen hPL hLL hn1 hn2
      go_wp2_with fail
      generalize wr.alloc (.cells #[.int .i64 kd, .int .i64 kk', .slice a1 n1 c1, .int .i64 qq, .int .i64 bb, .slice a2 n2 c2] 43) = w5 at *
      refine HM.out.mono ?_
      rintro e w6 ⟨⟨a', m, c', rfl, hm1, hm2, hI, hnew⟩, hx6⟩
      have HI := Lib.hid hI; have Hnew := Lib.hid hnew; have Hx6 := Lib.hid hx6
      have HLb := Lib.hid ((HLa.out.ext HEa.out).ext hx6)
      have hm3 : m ≤ 9223372036854775807 := Nat.le_trans hm1 (Nat.le_trans hm2 (by decide))
      clear p0 p1 p2 p3 p4 p5 e0 e1 e2 e3 e4 e5 hI hnew hx6 HM hm2
      go_wp2_with fail
      go_loopg [8, 23] m (fun kk s8 s23 wx => ∃ j : Nat, s23 = .int .i64 (j : Int) ∧ j ≤ m ∧ m - j = kk ∧ s8 = .int .i64 (lev f (L.take j)) ∧ wx = w6)
      case atStart => exact ⟨0, rfl, by omega, by omega, rfl, rfl⟩
      case round =>
        obtain ⟨j, rfl, hj1, hkj, rfl, rfl⟩ := hrel
        by_cases hjm : j = m
        · have h3 : ¬ (j : Int) < (m : Int) := by omega
          have hIl := HI.out.1
          rw [List.take_of_length_le (by omega)]
          have hvb := lev_bound Hbd.out.1 (by omega) L
          obtain ⟨v, hv⟩ : ∃ v, lev f L = v := ⟨_, rfl⟩
          rw [hv] at Hst hvb ⊢
          have hEE := (HE.out.trans HEa.out).trans Hx6.out
          have HEE := Lib.hid hEE
          clear hv hIl hEE
          go_wp2_with fail
          go_loopg [36] m (fun kk s36 wx => ∃ j : Nat, s36 = .int .i64 (j : Int) ∧ j ≤ m ∧ m - j = kk ∧ Ext w wx ∧ IntsAt wx a' m L ∧ LastAt wx w.heap.size (updL f (L.take j) v))
          case atStart => exact ⟨0, rfl, by omega, by omega, HEE.out, HI.out, by simpa [updL_nil] using HLb.out⟩
          case round =>
            have Hlen := Lib.hid HI.out.1
            clear HI HLb HEE
            obtain ⟨q, rfl, hq1, hkq, hEq, hIq, hLq⟩ := hrel
            have HEq := Lib.hid hEq; have HIq := Lib.hid hIq; have HLq := Lib.hid hLq
            clear hEq hIq hLq
            by_cases hqm : q = m
            · have h4 : ¬ (q : Int) < (m : Int) := by omega
              have hLz := HLq.out
              rw [List.take_of_length_le (by rw [Hlen.out]; omega)] at hLz
              have HLz := Lib.hid hLz
              clear hLz HLq HIq
              by_cases hgv : gr < v
              · have Hs1 : Hid ((lvs plP (ops.take (i + 1))) = (updL f L v, v)) := by have := Hst.out; rw [if_pos hgv] at this; exact this
                clear Hst
                go_wp2_with fail
                go_roundg (n - (i + 1))
                case measure => omega
                case rel => exact ⟨i + 1, by go_num, by omega, rfl, by rw [Hs1.out], HEq.out, by rw [Hs1.out]; exact HLz.out⟩
              · have Hs1 : Hid ((lvs plP (ops.take (i + 1))) = (updL f L v, gr)) := by have := Hst.out; rw [if_neg hgv] at this; exact this
                clear Hst
                go_wp2_with fail
                go_roundg (n - (i + 1))
                case measure => omega
                case rel => exact ⟨i + 1, by go_num, by omega, rfl, by rw [Hs1.out], HEq.out, by rw [Hs1.out]; exact HLz.out⟩
            · have h4 : (q : Int) < (m : Int) := by omega
              have h40 : (0 : Int) ≤ (q : Int) := by omega
              obtain ⟨b', o', rfl, hbl, hcell⟩ := HIq.out.at (by omega)
              have hci := hcell q (by omega)
              obtain ⟨t, ht⟩ : ∃ t, L.getD q 0 = t := ⟨_, rfl⟩
              rw [ht] at hci
              have htm : 0 ≤ t ∧ t < 24 := Hpl.out t (by rw [← ht, List.getD_eq_getElem?_getD, List.getElem?_eq_getElem (by rw [Hlen.out]; omega)]; exact List.getElem_mem _)
              have hsn : updL f (L.take (q + 1)) v = updL (updL f (L.take q) v) [t] v := by rw [take_succ' L q (by rw [Hlen.out]; omega), ht, updL_snoc]
              obtain ⟨tn, rfl⟩ : ∃ tn : Nat, t = (tn : Int) := ⟨t.toNat, by omega⟩
              have Hsn := Lib.hid hsn
              obtain ⟨x1, x2⟩ := HLq.out tn (by omega)
              have ht0 := htm.1; have ht1 := htm.2
              have hne : b' ≠ w.heap.size := by have := Hnew.out b' o' rfl; omega
              have HP := Lib.hid (HLq.out.put tn (by omega) v)
              have HIp := Lib.hid (HIq.out.putFar (g := w.heap.size) (k := tn) (u := .int .i64 v) (fun b o e => by cases e; exact hne))
              have HEp := Lib.hid (show Ext w _ from Below.setCell HEq.out (p := ⟨w.heap.size, tn, none⟩) (Nat.le_refl _) (.int .i64 v))
              clear hcell ht hsn htm
              go_wp2_with fail
              go_roundg (m - (q + 1))
              case measure => omega
              case rel => exact ⟨q + 1, by go_num, by omega, rfl, HEp.out, HIp.out, by rw [Hsn.out]; exact HP.out⟩
        · have h3 : (j : Int) < (m : Int) := by omega
          have h30 : (0 : Int) ≤ (j : Int) := by omega
          obtain ⟨b', o', rfl, hbl, hcell⟩ := HI.out.at (by omega)
          have hci := hcell j (by omega)
          have hIl := HI.out.1
          obtain ⟨t, ht⟩ : ∃ t, L.getD j 0 = t := ⟨_, rfl⟩
          rw [ht] at hci
          have htm : 0 ≤ t ∧ t < 24 := Hpl.out t (by rw [← ht, List.getD_eq_getElem?_getD, List.getElem?_eq_getElem (by omega)]; exact List.getElem_mem _)
          have hsn : lev f (L.take (j + 1)) = levOne f (lev f (L.take j)) t := by rw [take_succ' L j (by omega), ht, lev_snoc]
          obtain ⟨tn, rfl⟩ : ∃ tn : Nat, t = (tn : Int) := ⟨t.toNat, by omega⟩
          obtain ⟨x1, x2⟩ := HLb.out tn (by omega)
          have ht0 := htm.1; have ht1 := htm.2
          have hfb := Hbd.out.1 (tn : Int)
          unfold levOne at hsn
          obtain ⟨ft, hft⟩ : ∃ x, f (tn : Int) = x := ⟨_, rfl⟩
          obtain ⟨lv, hlv⟩ : ∃ x, lev f (L.take j) = x := ⟨_, rfl⟩
          rw [hft] at x1 hfb hsn
          rw [hlv] at hsn ⊢
          obtain ⟨fu, hfu⟩ : ∃ x, ft + 1 = x := ⟨_, rfl⟩
          have hw1 : IntKind.i64.wrap (ft + 1) = fu := by rw [IntKind.wrap_i64]; omega
          rw [hfu] at hsn
          by_cases hlt : lv < fu
          · rw [if_pos hlt] at hsn
            have Hsn := Lib.hid hsn
            clear hcell ht hsn htm hft hlv hfu hfb hIl
            go_wp2_with fail
            go_roundg (m - (j + 1))
            case measure => omega
            case rel => exact ⟨j + 1, by go_num, by omega, rfl, by rw [Hsn.out], rfl⟩
          · rw [if_neg hlt] at hsn
            have Hsn := Lib.hid hsn
            clear hcell ht hsn htm hft hlv hfu hfb hIl
            go_wp2_with fail
            go_roundg (m - (j + 1))
            case measure => omega
            case rel => exact ⟨j + 1, by go_num, by omega, rfl, by rw [Hsn.out], rfl⟩

end Go.Proofs.YtcbgonjgmbcbgabDoor

/-
  What a circuit without a fault keeps to; what Count tells of one, in plain numbers.
-/
namespace Go.Proofs.YtcbgonjgmbcbgabDoor
open Go.RowKit

theorem pigeon : ∀ (k : Nat) (l : List Int), l.Nodup → (∀ c ∈ l, 0 ≤ c ∧ c < (k : Int)) → l.length ≤ k := by
  intro k
  induction k with
  | zero =>
    intro l _ h
    cases l with
    | nil => simp
    | cons a r => have := h a (by simp); omega
  | succ k ih =>
    intro l hn h
    by_cases hm : (k : Int) ∈ l
    · have h1 := ih (l.erase (k : Int)) (hn.erase _) (fun c hc => by
        have hc' := hn.mem_erase_iff.1 hc
        have := h c hc'.2
        have := hc'.1
        omega)
      have h2 := List.length_erase_of_mem hm
      omega
    · have := ih l hn (fun c hc => by
        have h3 := h c hc
        have : c ≠ (k : Int) := fun e => hm (e ▸ hc)
        omega)
      omega

theorem below_iff {n b : Int} : below n b = true ↔ 0 ≤ n ∧ n < b := by simp [below]
theorem ctlCode_zero (q n : Int) : ∀ (l s : List Int), ctlCode q n s l = 0 → (∀ c ∈ l, 0 ≤ c ∧ c < n) ∧ (s.Nodup → (s ++ l).Nodup) := by
  intro l
  induction l with
  | nil => intro s _; exact ⟨by simp, by simp⟩
  | cons c r ih =>
    intro s h
    rw [ctlCode] at h
    split at h
    · omega
    · rename_i hb
      split at h
      · omega
      · rename_i hc
        obtain ⟨h1, h2⟩ := ih _ h
        have hb' : below c n = true := by cases hx : below c n with
          | true => rfl
          | false => exact absurd hx hb
        refine ⟨?_, ?_⟩
        · intro x hx
          rcases List.mem_cons.1 hx with rfl | hx
          · exact below_iff.1 hb'
          · exact h1 x hx
        · intro hs
          have hcs : c ∉ s := fun e => hc (Or.inr e)
          have := h2 (by
            rw [List.nodup_append]
            refine ⟨hs, by simp, ?_⟩
            intro a ha b hb e
            simp at hb
            subst hb; subst e
            exact hcs ha)
          simpa using this

theorem fit_of_code {o : Gop} {n b : Int} (hn : n ≤ 12) (hb0 : 0 ≤ b) (hb : b ≤ 12) (h : opCode o n b = 0) : LvFit o ∧ placesFit o ∧ o.ctl.length ≤ 12 ∧ (∀ c ∈ o.ctl, 0 ≤ c ∧ c < n) := by
  unfold opCode at h
  split at h
  · omega
  rename_i hk
  split at h
  · omega
  split at h
  · omega
  rename_i hq
  split at h
  · omega
  split at h
  · exact absurd h (by assumption)
  rename_i hc
  split at h
  · omega
  rename_i hbit
  split at h
  · omega
  rename_i hcn
  have hc0 : ctlCode o.q n [] o.ctl = 0 := by
    by_cases e : ctlCode o.q n [] o.ctl = 0
    · exact e
    · exact absurd e hc
  obtain ⟨z1, z2⟩ := ctlCode_zero o.q n o.ctl [] hc0
  have z3 : o.ctl.Nodup := by simpa using z2 (by simp)
  have z4 := pigeon 12 o.ctl z3 (fun c hc => by have := z1 c hc; omega)
  have q1 : 0 ≤ o.q ∧ o.q < 12 := by
    unfold fitsB at hq
    split at hq
    · have : below o.q n = true := by simpa using hq
      have := below_iff.1 this; omega
    · have : o.q = 0 := by simpa using hq
      omega
  have b1 : 0 ≤ o.bit ∧ o.bit ≤ 12 ∧ (o.kind = 5 → o.bit < 12) := by
    unfold fitsB at hbit
    split at hbit
    · have : below o.bit b = true := by simpa using hbit
      have := below_iff.1 this; omega
    · have : o.bit = 0 := by simpa using hbit
      omega
  have c1 : o.cnd.length ≤ 24 ∧ ∀ t ∈ o.cnd, t ≠ 0 ∧ -12 ≤ t ∧ t ≤ 12 := by
    have : cndOk b o.cnd = true := by simpa using hcn
    unfold cndOk at this
    simp only [Bool.and_eq_true, decide_eq_true_eq, List.all_eq_true] at this
    refine ⟨this.1, fun t ht => ?_⟩
    have ht' := this.2 t ht
    unfold termOk at ht'
    simp at ht'
    omega
  refine ⟨⟨by omega, ⟨b1.1, b1.2.1⟩, fun t ht => (c1.2 t ht).2, by omega, c1.1, ?_⟩, ⟨fun t ht => by have := z1 t ht; omega, q1.2, b1.1, fun t ht => (c1.2 t ht).1⟩, z4, z1⟩
  intro t ht
  unfold plP at ht
  simp only [List.mem_append] at ht
  rcases ht with ((ht | ht) | ht) | ht
  · have := z1 t ht; omega
  · unfold tchQ at ht
    split at ht
    · simp at ht
    · simp at ht; omega
  · unfold tchB at ht
    split at ht
    · simp at ht; have := b1.2.2 (by assumption); omega
    · simp at ht
  · unfold tchC at ht
    simp only [List.mem_map] at ht
    obtain ⟨u, hu, rfl⟩ := ht
    have := c1.2 u hu
    unfold bitOf
    split <;> omega

/-- Of a circuit without a fault both sides reckon the same levels. -/
theorem levels_same {c : Gci} (h : (chk c).1 = 0) : (lvs plR c.ops).2 = (lvs plP c.ops).2 := by
  obtain ⟨_, _, h2, h3, h4, _, h5⟩ := chk_zero h
  exact (lvs_same c.ops (fun o ho => (fit_of_code h2 h3 h4 (h5 o ho)).2.1)).2

end Go.Proofs.YtcbgonjgmbcbgabDoor

/-
  A tally in a variable; what is counted, in plain numbers.
-/
namespace Go.Proofs.YtcbgonjgmbcbgabDoor
open Go.RowKit

/-- How many of the operations are such. -/
def cntP (p : Gop → Bool) (l : List Gop) : Int := ((l.filter p).length : Int)
theorem cntP_nil (p : Gop → Bool) : cntP p [] = 0 := rfl
theorem cntP_yes {p : Gop → Bool} {l : List Gop} {o : Gop} (h : p o = true) : cntP p (l ++ [o]) = cntP p l + 1 := by simp [cntP, List.filter_append, h]
theorem cntP_no {p : Gop → Bool} {l : List Gop} {o : Gop} (h : p o = false) : cntP p (l ++ [o]) = cntP p l := by simp [cntP, List.filter_append, h]
theorem cntP_bound (p : Gop → Bool) (l : List Gop) : 0 ≤ cntP p l ∧ cntP p l ≤ (l.length : Int) := by
  have := List.length_filter_le p l
  unfold cntP; omega
def isFork (o : Gop) : Bool := o.kind == 3
def isFine (o : Gop) : Bool := o.kind == 4 && !(o.k % 4 == 0)
def isWide (o : Gop) : Bool := decide (0 < o.ctl.length)
def isMeet (o : Gop) : Bool := decide (5 ≤ o.kind)

theorem ckeep {W w' : World} (h : Ext W w') {b o : Nat} {v : Value} (hb : b < W.heap.size) (hc : W.cell? ⟨b, o, none⟩ = some v) : w'.cell? ⟨b, o, none⟩ = some v := (h.cell (p := ⟨b, o, none⟩) hb).trans hc
theorem cthen {w w1 : World} (he : Ext w w1) (o : Obj) : Ext w (w1.alloc o) := he.trans (ext_al _ _)
theorem cput {w W : World} {g o : Nat} (h : Ext w W) (hg : w.heap.size ≤ g) (u : Value) : Ext w (W.setCell ⟨g, o, none⟩ u) := Below.setCell h (p := ⟨g, o, none⟩) hg u
theorem cdrew {w W : World} (h : Ext w W) : Ext w W.drew := Below.drew h

/-- The variable g holds a tally. -/
structure TlB (W : World) (g : Nat) (t0 t1 t2 t3 t4 t5 : Int) : Prop where
  x0 : W.cell? ⟨g, 0, none⟩ = some (.int .i64 t0)
  x1 : W.cell? ⟨g, 1, none⟩ = some (.int .i64 t1)
  x2 : W.cell? ⟨g, 2, none⟩ = some (.int .i64 t2)
  x3 : W.cell? ⟨g, 3, none⟩ = some (.int .i64 t3)
  x4 : W.cell? ⟨g, 4, none⟩ = some (.int .i64 t4)
  x5 : W.cell? ⟨g, 5, none⟩ = some (.int .i64 t5)
  f : ∀ o, W.frozen? ⟨g, o, none⟩ = false
section
variable {W W' : World} {g : Nat} {t0 t1 t2 t3 t4 t5 : Int}
theorem TlB.lt (h : TlB W g t0 t1 t2 t3 t4 t5) : g < W.heap.size := World.block_lt_of_cell? W ⟨g, 0, none⟩ h.x0
theorem TlB.ext (h : TlB W g t0 t1 t2 t3 t4 t5) (k : Ext W W') : TlB W' g t0 t1 t2 t3 t4 t5 :=
  ⟨cell_ext h.x0 k, cell_ext h.x1 k, cell_ext h.x2 k, cell_ext h.x3 k, cell_ext h.x4 k, cell_ext h.x5 k, fun o => by rw [← h.f o]; simp only [World.frozen?, k.block g h.lt]⟩
theorem cell_put_off {o o' : Nat} {u v : Value} (hne : o' ≠ o) (h : W.cell? ⟨g, o, none⟩ = some v) : (W.setCell ⟨g, o', none⟩ u).cell? ⟨g, o, none⟩ = some v := by
  rw [World.cell?_setCell_other _ _ _ _ (fun q => hne (congrArg Addr.off q))]; exact h
theorem TlB.put1 (h : TlB W g t0 t1 t2 t3 t4 t5) (v : Int) : TlB (W.setCell ⟨g, 1, none⟩ (.int .i64 v)) g t0 v t2 t3 t4 t5 :=
  ⟨cell_put_off (by decide) h.x0, World.cell?_setCell_same _ _ _ h.x1, cell_put_off (by decide) h.x2, cell_put_off (by decide) h.x3, cell_put_off (by decide) h.x4, cell_put_off (by decide) h.x5, fun o => by rw [World.frozen?_setCell]; exact h.f o⟩
theorem TlB.put2 (h : TlB W g t0 t1 t2 t3 t4 t5) (v : Int) : TlB (W.setCell ⟨g, 2, none⟩ (.int .i64 v)) g t0 t1 v t3 t4 t5 :=
  ⟨cell_put_off (by decide) h.x0, cell_put_off (by decide) h.x1, World.cell?_setCell_same _ _ _ h.x2, cell_put_off (by decide) h.x3, cell_put_off (by decide) h.x4, cell_put_off (by decide) h.x5, fun o => by rw [World.frozen?_setCell]; exact h.f o⟩
theorem TlB.put3 (h : TlB W g t0 t1 t2 t3 t4 t5) (v : Int) : TlB (W.setCell ⟨g, 3, none⟩ (.int .i64 v)) g t0 t1 t2 v t4 t5 :=
  ⟨cell_put_off (by decide) h.x0, cell_put_off (by decide) h.x1, cell_put_off (by decide) h.x2, World.cell?_setCell_same _ _ _ h.x3, cell_put_off (by decide) h.x4, cell_put_off (by decide) h.x5, fun o => by rw [World.frozen?_setCell]; exact h.f o⟩
theorem TlB.put4 (h : TlB W g t0 t1 t2 t3 t4 t5) (v : Int) : TlB (W.setCell ⟨g, 4, none⟩ (.int .i64 v)) g t0 t1 t2 t3 v t5 :=
  ⟨cell_put_off (by decide) h.x0, cell_put_off (by decide) h.x1, cell_put_off (by decide) h.x2, cell_put_off (by decide) h.x3, World.cell?_setCell_same _ _ _ h.x4, cell_put_off (by decide) h.x5, fun o => by rw [World.frozen?_setCell]; exact h.f o⟩
theorem TlB.put5 (h : TlB W g t0 t1 t2 t3 t4 t5) (v : Int) : TlB (W.setCell ⟨g, 5, none⟩ (.int .i64 v)) g t0 t1 t2 t3 t4 v :=
  ⟨cell_put_off (by decide) h.x0, cell_put_off (by decide) h.x1, cell_put_off (by decide) h.x2, cell_put_off (by decide) h.x3, cell_put_off (by decide) h.x4, World.cell?_setCell_same _ _ _ h.x5, fun o => by rw [World.frozen?_setCell]; exact h.f o⟩
theorem TlB.put0 (h : TlB W g t0 t1 t2 t3 t4 t5) (v : Int) : TlB (W.setCell ⟨g, 0, none⟩ (.int .i64 v)) g v t1 t2 t3 t4 t5 :=
  ⟨World.cell?_setCell_same _ _ _ h.x0, cell_put_off (by decide) h.x1, cell_put_off (by decide) h.x2, cell_put_off (by decide) h.x3, cell_put_off (by decide) h.x4, cell_put_off (by decide) h.x5, fun o => by rw [World.frozen?_setCell]; exact h.f o⟩
theorem cell_put_far {o k : Nat} {g' : Nat} {u v : Value} (hne : g' ≠ g) (h : W.cell? ⟨g, o, none⟩ = some v) : (W.setCell ⟨g', k, none⟩ u).cell? ⟨g, o, none⟩ = some v := by
  rw [World.cell?_setCell_other _ _ _ _ (fun q => hne (congrArg Addr.block q))]; exact h
theorem TlB.far (h : TlB W g t0 t1 t2 t3 t4 t5) {g' k : Nat} (hne : g' ≠ g) (u : Value) : TlB (W.setCell ⟨g', k, none⟩ u) g t0 t1 t2 t3 t4 t5 :=
  ⟨cell_put_far hne h.x0, cell_put_far hne h.x1, cell_put_far hne h.x2, cell_put_far hne h.x3, cell_put_far hne h.x4, cell_put_far hne h.x5, fun o => by rw [World.frozen?_setCell]; exact h.f o⟩
theorem TlB.drew (h : TlB W g t0 t1 t2 t3 t4 t5) : TlB W.drew g t0 t1 t2 t3 t4 t5 := ⟨h.x0, h.x1, h.x2, h.x3, h.x4, h.x5, h.f⟩
/-- The world behind the stores of a tally and of a fault. -/
abbrev putTF (W : World) (g g' : Nat) (a0 a1 a2 a3 a4 a5 f0 f1 : Int) : World :=
  (((((((W.setCell ⟨g, 0, none⟩ (.int .i64 a0)).setCell ⟨g, 1, none⟩ (.int .i64 a1)).setCell ⟨g, 2, none⟩ (.int .i64 a2)).setCell ⟨g, 3, none⟩ (.int .i64 a3)).setCell ⟨g, 4, none⟩ (.int .i64 a4)).setCell ⟨g, 5, none⟩ (.int .i64 a5)).setCell ⟨g', 0, none⟩ (.int .i64 f0)).setCell ⟨g', 1, none⟩ (.int .i64 f1)
theorem TlB.putTF (h : TlB W g t0 t1 t2 t3 t4 t5) {g' : Nat} (hne : g' ≠ g) (a0 a1 a2 a3 a4 a5 f0 f1 : Int) {y0 y1 : Value} (h0 : W.cell? ⟨g', 0, none⟩ = some y0) (h1 : W.cell? ⟨g', 1, none⟩ = some y1) :
    TlB (putTF W g g' a0 a1 a2 a3 a4 a5 f0 f1) g a0 a1 a2 a3 a4 a5 ∧ (putTF W g g' a0 a1 a2 a3 a4 a5 f0 f1).cell? ⟨g', 0, none⟩ = some (.int .i64 f0) ∧ (putTF W g g' a0 a1 a2 a3 a4 a5 f0 f1).cell? ⟨g', 1, none⟩ = some (.int .i64 f1) := by
  have k0 : ∀ (o : Nat) (v : Value), W.cell? ⟨g', o, none⟩ = some v → ((((((W.setCell ⟨g, 0, none⟩ (.int .i64 a0)).setCell ⟨g, 1, none⟩ (.int .i64 a1)).setCell ⟨g, 2, none⟩ (.int .i64 a2)).setCell ⟨g, 3, none⟩ (.int .i64 a3)).setCell ⟨g, 4, none⟩ (.int .i64 a4)).setCell ⟨g, 5, none⟩ (.int .i64 a5)).cell? ⟨g', o, none⟩ = some v := fun o v hv =>
    cell_put_far hne.symm (cell_put_far hne.symm (cell_put_far hne.symm (cell_put_far hne.symm (cell_put_far hne.symm (cell_put_far hne.symm hv)))))
  refine ⟨((((((((h.put0 a0).put1 a1).put2 a2).put3 a3).put4 a4).put5 a5).far hne _).far hne _), ?_, ?_⟩
  · exact cell_put_off (by decide) (World.cell?_setCell_same _ _ _ (k0 0 y0 h0))
  · exact World.cell?_setCell_same _ _ _ (cell_put_off (by decide) (k0 1 y1 h1))
theorem ext_putTF {w0 : World} (h : Ext w0 W) {g' : Nat} (hg : w0.heap.size ≤ g) (hg' : w0.heap.size ≤ g') (a0 a1 a2 a3 a4 a5 f0 f1 : Int) : Ext w0 (putTF W g g' a0 a1 a2 a3 a4 a5 f0 f1) :=
  Below.setCell (Below.setCell (Below.setCell (Below.setCell (Below.setCell (Below.setCell (Below.setCell (Below.setCell h hg _) hg _) hg _) hg _) hg _) hg _) hg' _) hg' _
theorem tlb_new (w : World) (t0 t1 t2 t3 t4 t5 : Int) : TlB (w.alloc (.cells #[.int .i64 t0, .int .i64 t1, .int .i64 t2, .int .i64 t3, .int .i64 t4, .int .i64 t5] 26)) w.heap.size t0 t1 t2 t3 t4 t5 := by
  have hr := heap_alloc_new w (.cells #[.int .i64 t0, .int .i64 t1, .int .i64 t2, .int .i64 t3, .int .i64 t4, .int .i64 t5] 26)
  refine ⟨?_, ?_, ?_, ?_, ?_, ?_, fun o => frozen_of_row _ _ o _ _ hr⟩ <;> (rw [cell_of_row _ _ _ _ _ (0, 0) hr]; rfl)
end

end Go.Proofs.YtcbgonjgmbcbgabDoor
