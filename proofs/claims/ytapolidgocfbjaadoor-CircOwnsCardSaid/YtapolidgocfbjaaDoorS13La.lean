/-
  The law's mark: every number of a circuit's lists is turned; nothing else is touched. What is answered fits the law's mark; memory that a mark of another circuit leaves alone.
-/
import Derived.Test.YtapolidgocfbjaaDoorProg
import Derived.Test.YtapolidgocfbjaaDoorRows
import Derived.BigQuiet
import Derived.Deep.AppendLies
import Derived.Deep.Cut
import Derived.Deep.CutRange
import Derived.Deep.LoopGhost
import Derived.Deep.QuietTactic
import Derived.Deep.RegionHeld3
import Derived.Defers
import Derived.Laws.AppendOwnNone
import Derived.Laws.Bits64b
import Derived.Laws.Concat
import Derived.Laws.CopyOwn
import Derived.Laws.IdiomStrings
import Derived.Laws.ResultCell
import Derived.Lib.AppendStr
import Derived.Lib.AppendZeros
import Derived.Lib.AppendZerosOnto
import Derived.Lib.BitFns
import Derived.Lib.Hide
import Derived.Lib.ItoaMem
import Derived.Lib.ItoaNum
import Derived.Lib.Strings
import Derived.Maps.AppendAt
import Derived.OwnWalk
import Derived.Recover
import Derived.Shelf.LaysM
import Derived.Shelf.Strconv.Itoa0
import Derived.Shelf.Strconv.Itoa1
import Derived.Shelf.Strconv.Itoa2
import Derived.Shelf.Strconv.Itoa3
import Derived.Shelf.Strings.Builder1
import Derived.Shelf.Strings.BuilderF
import Derived.Shelf.Strings.BuilderK
import Derived.WalkKit
import Derived.WalkLawsBesides
import Derived.WalkSpells
import Derived.Test.YtapolidgocfbjaaDoorS00Ce
import Derived.Test.YtapolidgocfbjaaDoorS01Cj
import Derived.Test.YtapolidgocfbjaaDoorShelf
import Derived.Test.YtapolidgocfbjaaDoorS03Cq
import Derived.Test.YtapolidgocfbjaaDoorS04Jc
import Derived.Test.YtapolidgocfbjaaDoorS05Gb
import Derived.Test.YtapolidgocfbjaaDoorS06Ke
import Derived.Test.YtapolidgocfbjaaDoorS07Kf
import Derived.Test.YtapolidgocfbjaaDoorS08Kd
import Derived.Test.YtapolidgocfbjaaDoorS09Km
import Derived.Test.YtapolidgocfbjaaDoorS10Ku
import Derived.Test.YtapolidgocfbjaaDoorS11Kv
import Derived.Test.YtapolidgocfbjaaDoorS12Kq
namespace Go.Proofs.YtapolidgocfbjaaDoor
open Go.RowKit

def mkO (g : Gop) : Gop := ⟨g.kind, g.k + 100, g.ctl.map (· + 100), g.q, g.bit, g.cnd.map (· + 100)⟩
/-- Operations in memory of their own, none of it where P holds. -/
def OpsP (P : Nat → Prop) (w : World) (base : Nat) (v : Value) (ops : List Gop) : Prop :=
  ∃ xs, OpsX w base v ops xs ∧ (∀ k, v.ownBlock = some k → ¬ P k) ∧ ∀ (i : Nat) (u : Value) (k : Nat), xs[i]? = some u → u.ownBlock = some k → ¬ P k
theorem OpsP.n {P : Nat → Prop} {w : World} {base : Nat} {v : Value} {ops : List Gop} (h : OpsP P w base v ops) : OpsN w base v ops := h.elim fun xs hx => ⟨xs, hx.1⟩
theorem OpsP.ext {P : Nat → Prop} {w w' : World} {base : Nat} {v : Value} {ops : List Gop} (h : OpsP P w base v ops) (k : Ext w w') : OpsP P w' base v ops := h.elim fun xs hx => ⟨xs, hx.1.ext k, hx.2⟩
theorem opsP_open {P : Nat → Prop} {w : World} {base : Nat} {a : Option Addr} {n c : Nat} {ops : List Gop} (h : OpsP P w base (.slice a n c) ops) (hn : 0 < n) :
    ops.length = n ∧ ∃ g cur, a = some ⟨g, 0, none⟩ ∧ ¬ P g ∧ base ≤ g ∧ w.heap[g]? = some (.cells cur 43 (0, 0)) ∧ n ≤ c ∧ c ≤ maxLen ∧ cur.size = c * 6 ∧ SepF (n * 6) (fun i => cur[i]?) ∧ RowF w base (fun i => cur[i]?) ops ∧ ∀ (i : Nat) (u : Value) (k : Nat), i < n * 6 → cur[i]? = some u → u.ownBlock = some k → ¬ P k := by
  obtain ⟨xs, h, hp1, hp2⟩ := h
  rcases h.own.2 with ⟨e, h0⟩ | ⟨g, cap, cur, hv, hb, hg, hnc, hcm, hsz, htk⟩
  · injection e with _ e2 _; omega
  · injection hv with e1 e2 e3
    subst e1; subst e3
    have hc : ∀ j, j < ops.length * 6 → cur[j]? = xs[j]? := by
      intro j hj
      rw [← htk, List.getElem?_take, if_pos hj, Array.getElem?_toList]
    refine ⟨e2.symm, g, cur, rfl, hp1 g rfl, hb, hg, by omega, hcm, hsz, ?_, h.row.congr hc, fun i u k hi hu hk => hp2 i u k (by rw [← hc i (by omega)]; exact hu) hk⟩
    rw [e2]
    exact h.sep.congr hc
theorem opsP_close {P : Nat → Prop} {w : World} {base g n c : Nat} {cur : Array Value} {ops : List Gop} (hl : ops.length = n) (hp : ¬ P g) (hb : base ≤ g) (hg : w.heap[g]? = some (.cells cur 43 (0, 0))) (hnc : n ≤ c) (hcm : c ≤ maxLen) (hsz : cur.size = c * 6) (hS : SepF (n * 6) (fun i => cur[i]?)) (h : RowF w base (fun i => cur[i]?) ops)
    (hq : ∀ (i : Nat) (u : Value) (k : Nat), i < n * 6 → cur[i]? = some u → u.ownBlock = some k → ¬ P k) : OpsP P w base (.slice (some ⟨g, 0, none⟩) n c) ops := by
  have hc : ∀ j, j < ops.length * 6 → (cur.toList.take (n * 6))[j]? = cur[j]? := by
    intro j hj
    rw [List.getElem?_take, if_pos (by omega), Array.getElem?_toList]
  refine ⟨cur.toList.take (n * 6), ⟨⟨by rw [List.length_take, Array.length_toList, hsz, hl]; omega, Or.inr ⟨g, c, cur, by rw [hl], hb, hg, by omega, hcm, hsz, by rw [hl]⟩⟩, ?_, h.congr hc⟩, fun k hk => by cases hk; exact hp, fun i u k hu hk => ?_⟩
  · rw [hl]
    exact hS.congr fun i hi => hc i (by omega)
  · have hi : i < n * 6 := by
      have := (List.getElem?_eq_some_iff.1 hu).1
      rw [List.length_take] at this
      omega
    rw [hc i (by omega)] at hu
    exact hq i u k hi hu hk
/-- One block that holds a list is written over: the other lists lie elsewhere. -/
theorem rowF_blk {w w' : World} {base : Nat} {f : Nat → Option Value} {L : List Gop} {n i r K : Nat} {u0 : Value} {g' : Gop} {a1 : Option Addr} {n1 c1 : Nat} {a2 : Option Addr} {n2 c2 : Nat} (hl : L.length = n) (hS : SepF (n * 6) f) (h : RowF w base f L) (hi : i < n) (hr : r < 6) (hu0 : f (i * 6 + r) = some u0) (hK : u0.ownBlock = some K) (hgn : OpN w' base g' a1 n1 c1 a2 n2 c2)
    (f0 : f (i * 6) = some (.int .i64 g'.kind)) (f1 : f (i * 6 + 1) = some (.int .i64 g'.k)) (f2 : f (i * 6 + 2) = some (.slice a1 n1 c1)) (f3 : f (i * 6 + 3) = some (.int .i64 g'.q)) (f4 : f (i * 6 + 4) = some (.int .i64 g'.bit)) (f5 : f (i * 6 + 5) = some (.slice a2 n2 c2))
    (hk : ∀ k, k ≠ K → w'.heap[k]? = w.heap[k]?) : RowF w' base f (L.set i g') := by
  intro t x hx
  have ht : t < n := by have := (List.getElem?_eq_some_iff.1 hx).1; rw [List.length_set, hl] at this; exact this
  by_cases e : t = i
  · subst e
    rw [List.getElem?_set_self (by omega)] at hx
    injection hx with hx
    subst hx
    exact ⟨a1, n1, c1, a2, n2, c2, f0, f1, f2, f3, f4, f5, hgn⟩
  · rw [List.getElem?_set_ne (fun h => e h.symm)] at hx
    obtain ⟨x1, x2, x3, x4, x5, x6, y0, y1, y2, y3, y4, y5, y6⟩ := h t x hx
    refine ⟨x1, x2, x3, x4, x5, x6, y0, y1, y2, y3, y4, y5, ⟨y6.i1.keep1 (fun k hk1 => hk k (fun e2 => ?_)), y6.i2.keep1 (fun k hk1 => hk k (fun e2 => ?_)), y6.ne⟩⟩
    · subst e2; have := hS (t * 6 + 2) (i * 6 + r) k _ _ (by omega) (by omega) y2 hu0 hk1 hK; omega
    · subst e2; have := hS (t * 6 + 5) (i * 6 + r) k _ _ (by omega) (by omega) y5 hu0 hk1 hK; omega
theorem rowF_k {w w' : World} {base : Nat} {cs : Array Value} {L : List Gop} {n i : Nat} {gx : Gop} (k' : Int) (hl : L.length = n) (hi : i < n) (hsz : n * 6 ≤ cs.size) (h : RowF w base (fun p => cs[p]?) L) (hg : L[i]? = some gx)
    (hk : ∀ g a1 n1 c1 a2 n2 c2, OpN w base g a1 n1 c1 a2 n2 c2 → OpN w' base g a1 n1 c1 a2 n2 c2) : RowF w' base (fun p => (cs.setIfInBounds (i * 6 + 1) (.int .i64 k'))[p]?) (L.set i ⟨gx.kind, k', gx.ctl, gx.q, gx.bit, gx.cnd⟩) := by
  intro t x hx
  have ht : t < n := by have := (List.getElem?_eq_some_iff.1 hx).1; rw [List.length_set, hl] at this; exact this
  by_cases e : t = i
  · subst e
    rw [List.getElem?_set_self (by omega)] at hx
    injection hx with hx
    subst hx
    obtain ⟨x1, x2, x3, x4, x5, x6, y0, y1, y2, y3, y4, y5, y6⟩ := h t gx hg
    have ho := hk _ _ _ _ _ _ _ y6
    refine ⟨x1, x2, x3, x4, x5, x6, ?_, ?_, ?_, ?_, ?_, ?_, ⟨ho.i1, ho.i2, ho.ne⟩⟩
    · show (cs.setIfInBounds _ _)[_]? = _; rw [Array.getElem?_setIfInBounds, if_neg (by omega)]; exact y0
    · show (cs.setIfInBounds _ _)[_]? = _; rw [Array.getElem?_setIfInBounds, if_pos rfl, if_pos (by omega)]
    · show (cs.setIfInBounds _ _)[_]? = _; rw [Array.getElem?_setIfInBounds, if_neg (by omega)]; exact y2
    · show (cs.setIfInBounds _ _)[_]? = _; rw [Array.getElem?_setIfInBounds, if_neg (by omega)]; exact y3
    · show (cs.setIfInBounds _ _)[_]? = _; rw [Array.getElem?_setIfInBounds, if_neg (by omega)]; exact y4
    · show (cs.setIfInBounds _ _)[_]? = _; rw [Array.getElem?_setIfInBounds, if_neg (by omega)]; exact y5
  · rw [List.getElem?_set_ne (fun h => e h.symm)] at hx
    obtain ⟨x1, x2, x3, x4, x5, x6, y0, y1, y2, y3, y4, y5, y6⟩ := h t x hx
    refine ⟨x1, x2, x3, x4, x5, x6, ?_, ?_, ?_, ?_, ?_, ?_, hk _ _ _ _ _ _ _ y6⟩
    · show (cs.setIfInBounds _ _)[_]? = _; rw [Array.getElem?_setIfInBounds, if_neg (by omega)]; exact y0
    · show (cs.setIfInBounds _ _)[_]? = _; rw [Array.getElem?_setIfInBounds, if_neg (by omega)]; exact y1
    · show (cs.setIfInBounds _ _)[_]? = _; rw [Array.getElem?_setIfInBounds, if_neg (by omega)]; exact y2
    · show (cs.setIfInBounds _ _)[_]? = _; rw [Array.getElem?_setIfInBounds, if_neg (by omega)]; exact y3
    · show (cs.setIfInBounds _ _)[_]? = _; rw [Array.getElem?_setIfInBounds, if_neg (by omega)]; exact y4
    · show (cs.setIfInBounds _ _)[_]? = _; rw [Array.getElem?_setIfInBounds, if_neg (by omega)]; exact y5
/-- What P holds of stands; the rest may have turned. -/
structure Sta (P : Nat → Prop) (w w' : World) : Prop where
  os : w'.os = w.os
  tape : w'.tape = w.tape
  output : w'.output = w.output
  size : w.heap.size ≤ w'.heap.size
  block : ∀ k, P k → k < w.heap.size → w'.heap[k]? = w.heap[k]?
theorem Sta.of_ext {P : Nat → Prop} {w w' : World} (h : Ext w w') : Sta P w w' := ⟨h.os, h.tape, h.output, h.size, fun k _ hk => h.block k hk⟩
theorem Sta.only {P : Nat → Prop} {a b c : World} {g : Nat} (h : Sta P a b) (k : Only g b c) (hg : ¬ P g) : Sta P a c := ⟨k.os.trans h.os, k.tape.trans h.tape, k.output.trans h.output, by rw [k.size]; exact h.size, fun i hp hi => (k.block i (fun e => hg (e ▸ hp))).trans (h.block i hp hi)⟩

set_option maxHeartbeats 8000000 in
set_option maxRecDepth 100000 in
theorem mark_any (P : Nat → Prop) (qb bi : Int) (av : Option Addr) (n cv base : Nat) (ops : List Gop) (w : World) (h : OpsP P w base (.slice av n cv) ops) (hn : n ≤ 10000) (hfit : ∀ g ∈ ops, (-1000 ≤ g.k ∧ g.k ≤ 1000) ∧ g.ctl.length ≤ 1000 ∧ g.cnd.length ≤ 1000 ∧ (∀ x ∈ g.ctl, -1000 ≤ x ∧ x ≤ 1000) ∧ (∀ x ∈ g.cnd, -1000 ≤ x ∧ x ≤ 1000)) :
    Calls Tryd.prog 21 #[.agg #[.int .i64 qb, .int .i64 bi, .slice av n cv]] w fun e w' => e = .returned (.tuple #[]) ∧ OpsP P w' base (.slice av n cv) (ops.map mkO) ∧ Sta P w w' := by
  have hl : ops.length = n := h.n.at.1
  have hat := h.n.at
  obtain ⟨H, hH⟩ : ∃ H, w.heap.size = H := ⟨_, rfl⟩
  obtain ⟨A1, hA1⟩ : ∃ A1, w.alloc (.cells #[.int .i64 qb, .int .i64 bi, .slice av n cv] 24) = A1 := ⟨_, rfl⟩
  have E0 : Ext w A1 := by rw [← hA1]; exact ext_al _ _
  have bC : CiB A1 H qb bi av n cv := by rw [← hA1, ← hH]; exact ⟨heap_alloc_new w _⟩
  have m2 := bC.x2
  rw [← hA1] at m2
  have HA := Lib.hid hA1; have HC0 := Lib.hid bC; have HO0 := Lib.hid (h.ext E0); have HS0 := Lib.hid (show Sta P w A1 from Sta.of_ext E0); have Hl := Lib.hid hl; have Hfit := Lib.hid hfit; have Hcv := Lib.hid hat.2
  clear hA1 bC E0 h hl hat hfit
  go_enter Tryd.func21, Tryd.ntmps21
  go_wp2_with fail
  rw [HA.out]
  clear m2
  go_loopg [2, 3, 4, 8] n (fun kk s2 s3 s4 s8 wx => ∃ i : Nat, s8 = .int .i64 (i : Int) ∧ i ≤ n ∧ n - i = kk ∧ CiB wx H qb bi av n cv ∧ OpsP P wx base (.slice av n cv) (mapF mkO ops i) ∧ Sta P w wx)
  case atStart => exact ⟨0, rfl, by omega, by omega, HC0.out, by rw [mapF_zero]; exact HO0.out, HS0.out⟩
  case round =>
    clear HC0 HO0 HS0
    obtain ⟨i, rfl, hin', hk, bC, hO, hSt⟩ := hrel
    by_cases hin : i = n
    · have q1 : ¬ (i : Int) < (n : Int) := by omega
      have q1' : decide ((i : Int) < (n : Int)) = false := df q1
      rw [mapF_all (by rw [Hl.out]; omega)] at hO
      have HO := Lib.hid hO; have HSt := Lib.hid hSt
      clear bC hO hSt hin hin' hk
      go_wp2_with fail
      go_end0
      exact ⟨rfl, HO.out, HSt.out⟩
    have q1 : (i : Int) < (n : Int) := by omega
    have q1' : decide ((i : Int) < (n : Int)) = true := dt q1
    have p0 : (0 : Int) ≤ (i : Int) := by omega
    obtain ⟨gg, hg⟩ : ∃ g, ops[i]? = some g := ⟨_, List.getElem?_eq_getElem (by rw [Hl.out]; omega)⟩
    obtain ⟨hgk, hg1, hg2, hgc, hgd⟩ := Hfit.out gg (List.mem_of_getElem? hg)
    have hgi : (mapF mkO ops i)[i]? = some gg := by rw [mapF_get (by rw [Hl.out]; omega), if_neg (by omega)]; exact hg
    have hml : (mapF mkO ops i).length = n := by rw [mapF_len]; exact Hl.out
    have hms := mapF_set (f := mkO) hg
    obtain ⟨L, hL⟩ : ∃ y, mapF mkO ops i = y := ⟨_, rfl⟩
    rw [hL] at hO hgi hml hms
    have Hms := Lib.hid hms; have Hml := Lib.hid hml; have Hk := Lib.hid hk
    have hLs : L.set i gg = L := set_same hgi
    obtain ⟨kd, kk', ctl, qq, bb, cnd⟩ := gg
    simp only at hgk hg1 hg2 hgc hgd
    have HC1 := Lib.hid bC; have HO1 := Lib.hid (show OpsP P wr base (.slice av n cv) (L.set i ⟨kd, kk', mapI (· + 100) ctl 0, qq, bb, cnd⟩) by rw [mapI_zero, hLs]; exact hO); have HSt1 := Lib.hid hSt
    obtain ⟨nl, hnl⟩ : ∃ y, ctl.length = y := ⟨_, rfl⟩
    obtain ⟨nd, hnd⟩ : ∃ y, cnd.length = y := ⟨_, rfl⟩
    rw [hnl] at hg1
    rw [hnd] at hg2
    have Hnl := Lib.hid hnl; have Hnd := Lib.hid hnd; have Hgc := Lib.hid hgc; have Hgd := Lib.hid hgd; have Hgk := Lib.hid hgk
    have v2 := bC.x2
    obtain ⟨hl2, g, cur, eav, hpg, hbg, hrw, hnc, hcm, hsz, hsep, hrow, hpc⟩ := opsP_open hO (by omega)
    obtain ⟨a1, m1, c1, a2, m2, c2, x0, x1, x2, x3, x4, x5, x6⟩ := hrow i ⟨kd, kk', ctl, qq, bb, cnd⟩ hgi
    have hm1 : m1 = nl := by have h1 := x6.opO.l.i1.1; simp only at h1; rw [hnl] at h1; exact h1.symm
    subst hm1
    have Hav := Lib.hid eav
    rw [eav] at v2
    have t2 : wr.cell? ⟨g, i * 6 + 2, none⟩ = some (.slice a1 m1 c1) := by rw [cell_of_row wr g _ cur _ (0, 0) hrw]; exact x2
    obtain ⟨wo, rfl⟩ : ∃ wo : World, wo = wr := ⟨_, rfl⟩
    clear bC hO hSt hms hml hk hLs hgi hL hgk hgc hgd hnl hnd hl2 hpg hbg hrw hnc hcm hsz hsep hrow hpc x0 x1 x2 x3 x4 x5 x6 eav hg
    go_wp2_with fail
    clear v2 t2
    go_loopg [3, 18] m1 (fun kk sa sb wx => ∃ j : Nat, sb = .int .i64 (j : Int) ∧ j ≤ m1 ∧ m1 - j = kk ∧ CiB wx H qb bi av n cv ∧ OpsP P wx base (.slice av n cv) (L.set i ⟨kd, kk', mapI (· + 100) ctl j, qq, bb, cnd⟩) ∧ Sta P w wx)
    case atStart => exact ⟨0, rfl, by omega, by omega, HC1.out, HO1.out, HSt1.out⟩
    case round =>
      clear HC1 HO1 HSt1
      obtain ⟨j, rfl, hjn, hkj, bC, hO, hSt⟩ := hrel
      have v2 := bC.x2
      obtain ⟨hl2, g, cur, eav, hpg, hbg, hrw, hnc, hcm, hsz, hsep, hrow, hpc⟩ := opsP_open hO (by omega)
      obtain ⟨a1, k1, c1, a2, k2, c2, x0, x1, x2, x3, x4, x5, x6⟩ := hrow i ⟨kd, kk', mapI (· + 100) ctl j, qq, bb, cnd⟩ (List.getElem?_set_self (by rw [Hml.out]; omega))
      rw [eav] at v2
      have ce : ∀ (k : Nat) (v : Value), cur[k]? = some v → wr.cell? ⟨g, k, none⟩ = some v := fun k v e => by rw [cell_of_row wr g k cur _ (0, 0) hrw]; exact e
      by_cases hjm : j = m1
      · have z1 : ¬ (j : Int) < (m1 : Int) := by omega
        have z1' : decide ((j : Int) < (m1 : Int)) = false := df z1
        rw [mapI_all (by rw [Hnl.out]; omega)] at hrow x6 hO
        have hO2 : OpsP P wr base (.slice av n cv) (L.set i ⟨kd, kk', ctl.map (· + 100), qq, bb, mapI (· + 100) cnd 0⟩) := by rw [mapI_zero]; exact hO
        have hm2 : k2 = nd := by have h1 := x6.opO.l.i2.1; simp only at h1; rw [Hnd.out] at h1; exact h1.symm
        subst hm2
        have t5 := ce _ _ x5
        have HC1 := Lib.hid bC; have HO1 := Lib.hid hO2; have HSt1 := Lib.hid hSt
        obtain ⟨wq, rfl⟩ : ∃ wq : World, wq = wr := ⟨_, rfl⟩
        clear bC hO hO2 hSt hrow hrw hsep ce x0 x1 x2 x3 x4 x5 x6 hjm hl2 hnc hcm hsz hbg hpg hpc eav
        go_wp2_with fail
        clear v2 t5
        go_loopg [4, 40] k2 (fun kk sa sb wx => ∃ j : Nat, sb = .int .i64 (j : Int) ∧ j ≤ k2 ∧ k2 - j = kk ∧ CiB wx H qb bi av n cv ∧ OpsP P wx base (.slice av n cv) (L.set i ⟨kd, kk', ctl.map (· + 100), qq, bb, mapI (· + 100) cnd j⟩) ∧ Sta P w wx)
        case atStart => exact ⟨0, rfl, by omega, by omega, HC1.out, HO1.out, HSt1.out⟩
        case round =>
          clear HC1 HO1 HSt1
          obtain ⟨j, rfl, hjn, hkj, bC, hO, hSt⟩ := hrel
          have v2 := bC.x2
          obtain ⟨hl2, g, cur, eav, hpg, hbg, hrw, hnc, hcm, hsz, hsep, hrow, hpc⟩ := opsP_open hO (by omega)
          obtain ⟨a1, k1, c1, a2, k3, c2, x0, x1, x2, x3, x4, x5, x6⟩ := hrow i ⟨kd, kk', ctl.map (· + 100), qq, bb, mapI (· + 100) cnd j⟩ (List.getElem?_set_self (by rw [Hml.out]; omega))
          rw [eav] at v2
          have ce : ∀ (k : Nat) (v : Value), cur[k]? = some v → wr.cell? ⟨g, k, none⟩ = some v := fun k v e => by rw [cell_of_row wr g k cur _ (0, 0) hrw]; exact e
          by_cases hjm : j = k2
          · have z1 : ¬ (j : Int) < (k2 : Int) := by omega
            have z1' : decide ((j : Int) < (k2 : Int)) = false := df z1
            rw [mapI_all (by rw [Hnd.out]; omega)] at hrow x6 hO
            obtain ⟨v, hv⟩ : ∃ y : Int, kk' + 100 = y := ⟨_, rfl⟩
            have wv : IntKind.i64.wrap (kk' + 100) = v := by have := Hgk.out; rw [IntKind.wrap_i64]; omega
            have t1 := ce _ _ x1
            have f1 : wr.frozen? ⟨g, i * 6 + 1, none⟩ = false := frozen_of_row wr g _ _ _ hrw
            have hOn := only1 wr g (i * 6 + 1) (.int .i64 v)
            have hki := only_ints hrw (by decide) hOn
            have hr8 : (wr.setCell ⟨g, i * 6 + 1, none⟩ (.int .i64 v)).heap[g]? = some (.cells (cur.setIfInBounds (i * 6 + 1) (.int .i64 v)) 43 (0, 0)) := row_put hrw rfl
            have hrow8 := rowF_k (w' := wr.setCell ⟨g, i * 6 + 1, none⟩ (.int .i64 v)) v (by rw [List.length_set]; exact Hml.out) (show i < n by omega) (by rw [hsz]; omega) hrow (List.getElem?_set_self (by rw [Hml.out]; omega)) (fun _ _ _ _ _ _ _ o => o.keep hki)
            simp only at hrow8
            rw [List.set_set, ← hv] at hrow8
            have hmk : (⟨kd, kk' + 100, ctl.map (· + 100), qq, bb, cnd.map (· + 100)⟩ : Gop) = mkO ⟨kd, kk', ctl, qq, bb, cnd⟩ := rfl
            rw [hmk, Hms.out, hv] at hrow8
            have hO8 := opsP_close (P := P) (base := base) (n := n) (c := cv) (by rw [mapF_len]; exact Hl.out) hpg hbg hr8 hnc hcm (by simp [hsz]) (sepF_int hsep) hrow8 (fun p u k hp hu hk => by
              rw [Array.getElem?_setIfInBounds] at hu
              split at hu
              · split at hu
                · cases hu; simp [Value.ownBlock] at hk
                · cases hu
              · exact hpc p u k hp hu hk)
            rw [← eav] at hO8
            have hgk : ∀ k (cs' : Array Value) (T : TypeId) fr, wr.heap[k]? = some (.cells cs' T fr) → T ≠ 43 → k ≠ g := fun k cs' T fr h1 h2 e => by rw [e, hrw] at h1; cases h1; exact h2 rfl
            have H4 := Lib.hid (bC.kept hOn (hgk _ _ _ _ bC.row (by decide))); have H5 := Lib.hid hO8; have H6 := Lib.hid (hSt.only hOn hpg)
            clear bC hO hSt hrow hrw hsep ce x0 x1 x2 x3 x4 x5 x6 hjm hl2 hnc hcm hsz hbg hpg hpc eav hOn hki hrow8 hgk hr8 hO8 hv hmk
            go_wp2_with fail
            generalize wr.setCell ⟨g, i * 6 + 1, none⟩ (.int .i64 v) = Wd at *
            go_roundg (n - (i + 1))
            case measure => have := Hk.out; omega
            case rel => exact ⟨i + 1, by go_num, by omega, rfl, H4.out, H5.out, H6.out⟩
          · have z1 : (j : Int) < (k2 : Int) := by omega
            have z1' : decide ((j : Int) < (k2 : Int)) = true := dt z1
            have z0 : (0 : Int) ≤ (j : Int) := by omega
            have hm1 : k3 = k2 := by have h1 := x6.opO.l.i2.1; simp only at h1; rw [mapI_len, Hnd.out] at h1; exact h1.symm
            subst hm1
            obtain ⟨gl, rfl⟩ := x6.i2.addr (by omega)
            obtain ⟨c0, f0, cs, hcs⟩ := x6.i2.cell j (by omega)
            simp only at c0
            rw [mapI_get (by rw [Hnd.out]; omega)] at c0
            obtain ⟨x, hx⟩ : ∃ y, cnd.getD j 0 = y := ⟨_, rfl⟩
            have hxm : x ∈ cnd := by
              rw [← hx, List.getD_eq_getElem?_getD, List.getElem?_eq_getElem (by rw [Hnd.out]; omega)]
              exact List.getElem_mem _
            obtain ⟨hx0, hx1⟩ := Hgd.out x hxm
            rw [hx] at c0
            obtain ⟨v, hv⟩ : ∃ y : Int, x + 100 = y := ⟨_, rfl⟩
            have wv : IntKind.i64.wrap (x + 100) = v := by rw [IntKind.wrap_i64]; omega
            have hIs := x6.i2.put (i := j) (show j < k3 by omega) v
            simp only at hIs
            rw [← hv, ← hx, mapI_set (f := (· + 100)) (by rw [Hnd.out]; omega), hx, hv] at hIs
            have t2 := ce _ _ x5
            have hOn := only1 wr gl j (.int .i64 v)
            have hkk : ∀ k, k ≠ gl → (wr.setCell ⟨gl, j, none⟩ (.int .i64 v)).heap[k]? = wr.heap[k]? := fun k he => hOn.block k he
            have hON : OpN (wr.setCell ⟨gl, j, none⟩ (.int .i64 v)) base ⟨kd, kk', ctl.map (· + 100), qq, bb, mapI (· + 100) cnd (j + 1)⟩ a1 k1 c1 (some ⟨gl, 0, none⟩) k3 c2 := ⟨x6.i1.keep1 (fun k hk => hkk k (fun e => by subst e; exact x6.ne k hk rfl)), hIs, x6.ne⟩
            have hrow8 := rowF_blk (by rw [List.length_set]; exact Hml.out) hsep hrow (show i < n by omega) (show 5 < 6 by omega) x5 rfl hON x0 x1 x2 x3 x4 x5 hkk
            rw [List.set_set] at hrow8
            have hgk : ∀ k (cs' : Array Value) (T : TypeId) fr, wr.heap[k]? = some (.cells cs' T fr) → T ≠ 3 → k ≠ gl := fun k cs' T fr h1 h2 e => by rw [e, hcs] at h1; cases h1; exact h2 rfl
            have hr8 : (wr.setCell ⟨gl, j, none⟩ (.int .i64 v)).heap[g]? = some (.cells cur 43 (0, 0)) := (hOn.block g (hgk _ _ _ _ hrw (by decide))).trans hrw
            have hO8 := opsP_close (P := P) (base := base) (n := n) (c := cv) (by rw [List.length_set]; exact Hml.out) hpg hbg hr8 hnc hcm hsz hsep hrow8 hpc
            rw [← eav] at hO8
            have H4 := Lib.hid (bC.kept hOn (hgk _ _ _ _ bC.row (by decide))); have H5 := Lib.hid hO8; have H6 := Lib.hid (hSt.only hOn (hpc _ _ gl (by omega) x5 rfl))
            have Hkj := Lib.hid hkj; have Hjm := Lib.hid (show j + 1 ≤ k3 by omega)
            clear bC hO hSt hrow hrw hsep ce x0 x1 x2 x3 x4 x5 x6 hjm hl2 hnc hcm hsz hbg hpg hpc eav hIs hOn hkk hON hrow8 hgk hr8 hO8 hx hxm hv hcs hkj
            go_wp2_with fail
            generalize wr.setCell ⟨gl, j, none⟩ (.int .i64 v) = Wd at *
            go_roundg (k3 - (j + 1))
            case measure => have := Hkj.out; have := Hjm.out; omega
            case rel => exact ⟨j + 1, by go_num, Hjm.out, rfl, H4.out, H5.out, H6.out⟩
      · have z1 : (j : Int) < (m1 : Int) := by omega
        have z1' : decide ((j : Int) < (m1 : Int)) = true := dt z1
        have z0 : (0 : Int) ≤ (j : Int) := by omega
        have hm1 : k1 = m1 := by have h1 := x6.opO.l.i1.1; simp only at h1; rw [mapI_len, Hnl.out] at h1; exact h1.symm
        subst hm1
        obtain ⟨gl, rfl⟩ := x6.i1.addr (by omega)
        obtain ⟨c0, f0, cs, hcs⟩ := x6.i1.cell j (by omega)
        simp only at c0
        rw [mapI_get (by rw [Hnl.out]; omega)] at c0
        obtain ⟨x, hx⟩ : ∃ y, ctl.getD j 0 = y := ⟨_, rfl⟩
        have hxm : x ∈ ctl := by
          rw [← hx, List.getD_eq_getElem?_getD, List.getElem?_eq_getElem (by rw [Hnl.out]; omega)]
          exact List.getElem_mem _
        obtain ⟨hx0, hx1⟩ := Hgc.out x hxm
        rw [hx] at c0
        obtain ⟨v, hv⟩ : ∃ y : Int, x + 100 = y := ⟨_, rfl⟩
        have wv : IntKind.i64.wrap (x + 100) = v := by rw [IntKind.wrap_i64]; omega
        have hIs := x6.i1.put (i := j) (show j < k1 by omega) v
        simp only at hIs
        rw [← hv, ← hx, mapI_set (f := (· + 100)) (by rw [Hnl.out]; omega), hx, hv] at hIs
        have t2 := ce _ _ x2
        have hOn := only1 wr gl j (.int .i64 v)
        have hkk : ∀ k, k ≠ gl → (wr.setCell ⟨gl, j, none⟩ (.int .i64 v)).heap[k]? = wr.heap[k]? := fun k he => hOn.block k he
        have hON : OpN (wr.setCell ⟨gl, j, none⟩ (.int .i64 v)) base ⟨kd, kk', mapI (· + 100) ctl (j + 1), qq, bb, cnd⟩ (some ⟨gl, 0, none⟩) k1 c1 a2 k2 c2 := ⟨hIs, x6.i2.keep1 (fun k hk => hkk k (fun e => by subst e; exact x6.ne k rfl hk)), x6.ne⟩
        have hrow8 := rowF_blk (by rw [List.length_set]; exact Hml.out) hsep hrow (show i < n by omega) (show 2 < 6 by omega) x2 rfl hON x0 x1 x2 x3 x4 x5 hkk
        rw [List.set_set] at hrow8
        have hgk : ∀ k (cs' : Array Value) (T : TypeId) fr, wr.heap[k]? = some (.cells cs' T fr) → T ≠ 3 → k ≠ gl := fun k cs' T fr h1 h2 e => by rw [e, hcs] at h1; cases h1; exact h2 rfl
        have hr8 : (wr.setCell ⟨gl, j, none⟩ (.int .i64 v)).heap[g]? = some (.cells cur 43 (0, 0)) := (hOn.block g (hgk _ _ _ _ hrw (by decide))).trans hrw
        have hO8 := opsP_close (P := P) (base := base) (n := n) (c := cv) (by rw [List.length_set]; exact Hml.out) hpg hbg hr8 hnc hcm hsz hsep hrow8 hpc
        rw [← eav] at hO8
        have H4 := Lib.hid (bC.kept hOn (hgk _ _ _ _ bC.row (by decide))); have H5 := Lib.hid hO8; have H6 := Lib.hid (hSt.only hOn (hpc _ _ gl (by omega) x2 rfl))
        have Hkj := Lib.hid hkj; have Hjm := Lib.hid (show j + 1 ≤ k1 by omega)
        clear bC hO hSt hrow hrw hsep ce x0 x1 x2 x3 x4 x5 x6 hjm hl2 hnc hcm hsz hbg hpg hpc eav hIs hOn hkk hON hrow8 hgk hr8 hO8 hx hxm hv hcs hkj
        go_wp2_with fail
        generalize wr.setCell ⟨gl, j, none⟩ (.int .i64 v) = Wd at *
        go_roundg (k1 - (j + 1))
        case measure => have := Hkj.out; have := Hjm.out; omega
        case rel => exact ⟨j + 1, by go_num, Hjm.out, rfl, H4.out, H5.out, H6.out⟩

end Go.Proofs.YtapolidgocfbjaaDoor
namespace Go.Proofs.YtapolidgocfbjaaDoor
open Go.RowKit

/-- Operations whose numbers are small. -/
def MkFit (ops : List Gop) : Prop := ops.length ≤ 10000 ∧ ∀ g ∈ ops, (-1000 ≤ g.k ∧ g.k ≤ 1000) ∧ g.ctl.length ≤ 1000 ∧ g.cnd.length ≤ 1000 ∧ (∀ x ∈ g.ctl, -1000 ≤ x ∧ x ≤ 1000) ∧ (∀ x ∈ g.cnd, -1000 ≤ x ∧ x ≤ 1000)
theorem fit_nil : MkFit [] := ⟨by simp, fun g hg => by simp at hg⟩
theorem fit_chk {c : Gci} (h : (chk c).1 = 0) : MkFit c.ops ∧ c.ops.length ≤ 4096 := by
  obtain ⟨_, h1, h2, h3, h4, h5, h6⟩ := chk_zero h
  refine ⟨⟨by omega, fun g hg => ?_⟩, h5⟩
  have f := prFit_of_code h2 h3 h4 (h6 g hg)
  have := f.k; have := f.few; have := f.cfew
  exact ⟨by omega, by omega, by omega, fun x hx => by have := f.ctl x hx; omega, fun x hx => by have := f.cnd x hx; omega⟩
theorem fit_inv {ops : List Gop} (h : MkFit ops) (hk : ∀ g ∈ ops, 0 ≤ g.k ∧ g.k ≤ 15) : MkFit (invO ops) := by
  refine ⟨by rw [invO_len]; exact h.1, fun g hg => ?_⟩
  unfold invO at hg
  obtain ⟨g', hg', rfl⟩ := List.mem_map.1 hg
  have hm := List.mem_reverse.1 hg'
  have h1 := h.2 g' hm
  have h2 := opp_range (hk g' hm)
  unfold undoO
  exact ⟨by simp only; omega, h1.2⟩
theorem invM_fit (c : Gci) : MkFit (invM c).2.ops := by
  unfold invM
  by_cases hp : (pur c).1 ≠ 0
  · rw [if_pos hp]; exact fit_nil
  · rw [if_neg hp]
    have hP := (pur_iff (qb := c.qubits) (bi := c.bits) (ops := c.ops)).1 (by have : (pur c).1 = 0 := by omega
                                                                              exact this)
    exact fit_inv (fit_chk (pur_zero (by omega)).1).1 hP.ks
theorem powM_fit (c : Gci) (x : Int) : MkFit (powM c x).2.ops := by
  unfold powM
  by_cases hp : (pur c).1 ≠ 0
  · rw [if_pos hp]; exact fit_nil
  rw [if_neg hp]
  have hP := (pur_iff (qb := c.qubits) (bi := c.bits) (ops := c.ops)).1 (by have : (pur c).1 = 0 := by omega
                                                                            exact this)
  obtain ⟨hf, h4⟩ := fit_chk (pur_zero (c := c) (by omega)).1
  by_cases hb : 0 < c.ops.length ∧ 4096 / c.ops.length < x.natAbs
  · rw [if_pos hb]; exact fit_nil
  rw [if_neg hb]
  have ho : MkFit (onceO x c.ops) := by
    unfold onceO
    split
    · exact fit_inv hf hP.ks
    · exact hf
  refine ⟨?_, fun g hg => ho.2 g (repO_mem hg)⟩
  rw [repO_len, onceO_len]
  rcases Nat.eq_zero_or_pos c.ops.length with h0 | h0
  · rw [h0]; omega
  · have h1 : x.natAbs ≤ 4096 / c.ops.length := Nat.le_of_not_lt fun hh => hb ⟨h0, hh⟩
    have := Nat.mul_le_mul_right c.ops.length h1
    have := Nat.div_mul_le_self 4096 c.ops.length
    omega
theorem thnM_fit (a b : Gci) : MkFit (thnM a b).2.ops := by
  unfold thnM
  by_cases hp : (thnF a b).1 ≠ 0
  · rw [if_pos hp]; exact fit_nil
  rw [if_neg hp]
  obtain ⟨h1, h2, _, _, h5⟩ := thnF_zero (a := a) (b := b) (by omega)
  obtain ⟨f1, _⟩ := fit_chk h1
  obtain ⟨f2, _⟩ := fit_chk h2
  refine ⟨by rw [List.length_append]; omega, fun g hg => ?_⟩
  rcases List.mem_append.1 hg with h | h
  · exact f1.2 g h
  · exact f2.2 g h
theorem mpF_zero {m : Int} {tl : List Int} : ∀ (r : List Int) (i : Nat), (mpF m tl i r).1 = 0 → ∀ x ∈ r, 0 ≤ x ∧ x < m := by
  intro r
  induction r with
  | nil => intro i _ x hx; simp at hx
  | cons y r ih =>
    intro i h x hx
    rw [mpF] at h
    by_cases hc : below y m = false ∨ y ∈ tl.take i
    · rw [if_pos hc] at h; exact absurd h (show ¬ (17 : Int) = 0 by decide)
    · rw [if_neg hc] at h
      rcases List.mem_cons.1 hx with rfl | hx
      · exact below_iff.1 (by cases hb : below x m with
          | true => rfl
          | false => exact absurd (Or.inl hb) hc)
      · exact ih _ h x hx
theorem movM_fit (c : Gci) (tl : List Int) (m : Int) : MkFit (movM c tl m).2.ops := by
  unfold movM
  by_cases hp : (movF c tl m).1 ≠ 0
  · rw [if_pos hp]; exact fit_nil
  rw [if_neg hp]
  have hz : (movF c tl m).1 = 0 := by omega
  unfold movF at hz
  by_cases h1 : (chk c).1 ≠ 0
  · rw [if_pos h1] at hz; exact absurd hz h1
  rw [if_neg h1] at hz
  by_cases h2 : m < 1 ∨ 12 < m
  · rw [if_pos h2] at hz; exact absurd hz (by decide)
  rw [if_neg h2] at hz
  by_cases h3 : (tl.length : Int) ≠ c.qubits
  · rw [if_pos h3] at hz; exact absurd hz (by decide)
  rw [if_neg h3] at hz
  have ht := mpF_zero tl 0 hz
  obtain ⟨f, _⟩ := fit_chk (c := c) (by omega)
  have htq : ∀ x, -1000 ≤ tq tl x ∧ tq tl x ≤ 1000 := fun x => by
    unfold tq
    rw [List.getD_eq_getElem?_getD]
    cases he : tl[x.toNat]? with
    | none => simp
    | some y =>
      have := ht y (List.mem_of_getElem? he)
      simp only [Option.getD_some]
      omega
  refine ⟨by rw [List.length_map]; exact f.1, fun g hg => ?_⟩
  obtain ⟨g', hg', rfl⟩ := List.mem_map.1 hg
  have h5 := f.2 g' hg'
  unfold movO
  refine ⟨h5.1, by simp only [List.length_map]; exact h5.2.1, h5.2.2.1, fun x hx => ?_, h5.2.2.2.2⟩
  obtain ⟨y, _, rfl⟩ := List.mem_map.1 hx
  exact htq y

section
variable {P Q : Nat → Prop} {w w' : World} {base : Nat} {v : Value} {ops : List Gop} {xs : List Value}
theorem OpsX.keepB (h : OpsX w base v ops xs) (hv : ∀ g, v.ownBlock = some g → w'.heap[g]? = w.heap[g]?) (hb : ∀ (i : Nat) (u : Value) (k : Nat), xs[i]? = some u → u.ownBlock = some k → w'.heap[k]? = w.heap[k]?) : OpsX w' base v ops xs := by
  refine ⟨own_keep3 h.own hv, h.sep, fun t g hg => ?_⟩
  obtain ⟨a1, n1, c1, a2, n2, c2, e0, e1, e2, e3, e4, e5, e6⟩ := h.row t g hg
  exact ⟨a1, n1, c1, a2, n2, c2, e0, e1, e2, e3, e4, e5, ⟨e6.i1.keep1 (fun k hk => hb _ _ k e2 hk), e6.i2.keep1 (fun k hk => hb _ _ k e5 hk), e6.ne⟩⟩
/-- A mark of another circuit: what lies where its P holds stands. -/
theorem OpsP.sta (h : OpsP Q w base v ops) (hs : Sta P w w') (hq : ∀ k, base ≤ k → ¬ Q k → P k) : OpsP Q w' base v ops := by
  obtain ⟨xs, hx, h1, h2⟩ := h
  refine ⟨xs, hx.keepB (fun g hg => ?_) (fun i u k hu hk => ?_), h1, h2⟩
  · have := own_lt hx.own g hg
    exact hs.block g (hq g this.1 (h1 g hg)) this.2
  · have hi : i < ops.length * 6 := by rw [← hx.own.1]; exact (List.getElem?_eq_some_iff.1 hu).1
    have := hx.row.blocks hi hu hk
    exact hs.block k (hq k this.1 (h2 i u k hu hk)) this.2.1
/-- What was made in a world of that size, seen later. -/
theorem OpsN.p {w0 : World} (h : OpsN w0 base v ops) (hE : Ext w0 w) : OpsP (fun k => k < base ∨ w0.heap.size ≤ k) w base v ops := by
  obtain ⟨xs, hx⟩ := h
  refine ⟨xs, hx.ext hE, fun k hk => ?_, fun i u k hu hk => ?_⟩
  · have := own_lt hx.own k hk; simp only; omega
  · have hi : i < ops.length * 6 := by rw [← hx.own.1]; exact (List.getElem?_eq_some_iff.1 hu).1
    have := hx.row.blocks hi hu hk; simp only; omega
theorem OpsP.mono (h : OpsP P w base v ops) (hq : ∀ k, base ≤ k → Q k → P k) : OpsP Q w base v ops := by
  obtain ⟨xs, hx, h1, h2⟩ := h
  refine ⟨xs, hx, fun k hk hQ => h1 k hk (hq k (own_lt hx.own k hk).1 hQ), fun i u k hu hk hQ => ?_⟩
  have hi : i < ops.length * 6 := by rw [← hx.own.1]; exact (List.getElem?_eq_some_iff.1 hu).1
  exact h2 i u k hu hk (hq k (hx.row.blocks hi hu hk).1 hQ)
theorem OpsP.far {k : Nat} {cs : Array Value} {T : TypeId} {fr : Nat × Nat} (h : OpsP P w base v ops) (hk : w.heap[k]? = some (.cells cs T fr)) (hT : T ≠ 3) (hT2 : T ≠ 43) (hO : Only k w w') : OpsP P w' base v ops := h.elim fun xs hx => ⟨xs, hx.1.far hk hT hT2 hO, hx.2⟩
theorem Sta.ext {w0 : World} (h : Sta P w w') (hE : Ext w0 w) (hp : ∀ k, k < w0.heap.size → P k) : Ext w0 w' :=
  Below.trans hE ⟨h.os, h.tape, h.output, Nat.le_trans (Nat.le_refl _) h.size, fun i hi => h.block i (hp i hi) (Nat.lt_of_lt_of_le hi hE.size)⟩
theorem CiB.sta {g : Nat} {qb bi : Int} {ao : Option Addr} {n cp : Nat} (h : CiB w g qb bi ao n cp) (hs : Sta P w w') (hp : P g) : CiB w' g qb bi ao n cp := ⟨(hs.block g hp h.lt).trans h.row⟩
end

end Go.Proofs.YtapolidgocfbjaaDoor
