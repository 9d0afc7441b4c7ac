/-
  Devices: the reference: the first fault of a device. Circuits that a device can do: the small functions of both sides.
-/
import Derived.Test.YtlmfhopifggeaaaDoorRows
import Derived.BigQuiet
import Derived.Deep.CutRange
import Derived.Deep.LoopGhost
import Derived.Deep.RegionHeld3
import Derived.Lib.Hide
import Derived.OwnWalk
import Derived.WalkKit
import Derived.WalkLawsBesides
import Derived.WalkSpells
import Derived.Test.YtlmfhopifggeaaaDoorS00Mem
import Derived.Test.YtlmfhopifggeaaaDoorS02ZBq
import Derived.Test.YtlmfhopifggeaaaDoorS06Xfq
import Derived.Test.YtlmfhopifggeaaaDoorS07Cn
import Derived.Test.YtlmfhopifggeaaaDoorS08Cj
import Derived.Test.YtlmfhopifggeaaaDoorS09Mb
import Derived.Test.YtlmfhopifggeaaaDoorS10Mf
namespace Go.Proofs.YtlmfhopifggeaaaDoor
open Go.RowKit

/-- What was reached so far: of the first i, and of the next one up to q, all that they are linked to is there. -/
structure BfS (W : List Nat) (M : Nat) (l : List Nat) (i q : Nat) : Prop where
  nd : l.Nodup
  z : 0 ∈ l
  lt : ∀ x ∈ l, x < M
  rch : ∀ x ∈ l, Rch W x
  cl : ∀ j b, j < i → lk W (l.getD j 0) b = true → b ∈ l
  cq : ∀ b, b < q → lk W (l.getD i 0) b = true → b ∈ l
section
variable {W : List Nat} {M : Nat} {l : List Nat} {i q : Nat}
theorem BfS.init (hM : 1 ≤ M) : BfS W M [0] 0 0 := ⟨by simp, by simp, fun x hx => by simp at hx; omega, fun x hx => by
  simp at hx; subst hx; exact fun C h0 _ => h0, fun j b hj => by omega, fun b hb => by omega⟩
theorem BfS.skip (h : BfS W M l i q) (hs : q ∈ l ∨ lk W (l.getD i 0) q = false) : BfS W M l i (q + 1) := ⟨h.nd, h.z, h.lt, h.rch, h.cl, fun b hb hl => by
  by_cases e : b = q
  · subst e
    rcases hs with hs | hs
    · exact hs
    · rw [hs] at hl; cases hl
  · exact h.cq b (by omega) hl⟩
theorem getD_app (l : List Nat) (x j : Nat) (h : j < l.length) : (l ++ [x]).getD j 0 = l.getD j 0 := by
  rw [List.getD_eq_getElem?_getD, List.getD_eq_getElem?_getD, List.getElem?_append_left h]
theorem getD_memN (l : List Nat) {j : Nat} (h : j < l.length) : l.getD j 0 ∈ l := by
  rw [List.getD_eq_getElem?_getD, List.getElem?_eq_getElem h]
  exact List.getElem_mem h
theorem BfS.add (h : BfS W M l i q) (hi : i < l.length) (hq : q < M) (hn : q ∉ l) (hl : lk W (l.getD i 0) q = true) : BfS W M (l ++ [q]) i (q + 1) := by
  refine ⟨?_, by simp [h.z], ?_, ?_, ?_, ?_⟩
  · rw [List.nodup_append]
    refine ⟨h.nd, by simp, fun a ha b hb e => ?_⟩
    simp at hb
    subst hb; subst e
    exact hn ha
  · intro x hx
    rcases List.mem_append.1 hx with hx | hx
    · exact h.lt x hx
    · simp at hx; omega
  · intro x hx
    rcases List.mem_append.1 hx with hx | hx
    · exact h.rch x hx
    · simp at hx
      subst hx
      exact fun C h0 hc => hc _ _ (h.rch _ (getD_memN l hi) C h0 hc) hl
  · intro j b hj hb
    rw [getD_app l q j (by omega)] at hb
    exact List.mem_append.2 (Or.inl (h.cl j b hj hb))
  · intro b hb hbl
    rw [getD_app l q i hi] at hbl
    by_cases e : b = q
    · subst e; simp
    · exact List.mem_append.2 (Or.inl (h.cq b (by omega) hbl))
theorem BfS.next (h : BfS W M l i M) (hw : WebOk W M) : BfS W M l (i + 1) 0 := ⟨h.nd, h.z, h.lt, h.rch, fun j b hj hl => by
  by_cases e : j = i
  · subst e; exact h.cq b (hw.lt _ _ hl).2.1 hl
  · exact h.cl j b (by omega) hl, fun b hb => by omega⟩
theorem BfS.len (h : BfS W M l i q) : l.length ≤ M := (nodup_len M l h.nd h.lt).1
theorem BfS.fin (h : BfS W M l i q) (hi : l.length ≤ i) : l.length < M ↔ ¬ Conn W M := by
  have hc : ∀ a b, a ∈ l → lk W a b = true → b ∈ l := fun a b ha hl => by
    obtain ⟨j, hj, rfl⟩ := List.mem_iff_getElem.1 ha
    refine h.cl j b (by omega) ?_
    rw [List.getD_eq_getElem?_getD, List.getElem?_eq_getElem hj]
    exact hl
  constructor
  · intro hlt hC
    have := full_len M l (fun q hq => hC q hq (fun x => x ∈ l) h.z hc)
    omega
  · intro hn
    apply Classical.byContradiction
    intro hx
    have h1 := nodup_len M l h.nd h.lt
    exact hn fun q hq => h.rch q (h1.2 (by omega) q hq)
end
def intL (l : List Nat) : List Int := l.map fun x : Nat => (x : Int)
theorem intL_getD (l : List Nat) (i : Nat) : (intL l).getD i 0 = ((l.getD i 0 : Nat) : Int) := by
  unfold intL
  rw [List.getD_eq_getElem?_getD, List.getD_eq_getElem?_getD, List.getElem?_map]
  cases l[i]? <;> rfl
theorem intL_mem (l : List Nat) (q : Nat) : (decide ((q : Int) ∈ intL l)) = decide (q ∈ l) := by
  apply decide_eq_decide.2
  unfold intL
  rw [List.mem_map]
  constructor
  · rintro ⟨x, hx, e⟩
    have : x = q := by omega
    subst this; exact hx
  · intro h; exact ⟨q, h, rfl⟩
theorem intL_snoc (l : List Nat) (q : Nat) : iC (intL (l ++ [q])) = iC (intL l) ++ [.int .i64 (q : Int)] := by unfold intL; rw [List.map_append, ← iC_snoc]; rfl
/-- A list of one, just made. -/
theorem own_fst {w : World} {b base : Nat} {x : Int} (h : w.heap[b]? = some (.cells #[.int .i64 x] 3 (0, 0))) (hb : base ≤ b) : w.ownsRow base 3 1 (.slice (some ⟨b, 0, none⟩) 1 1) 1 (iC [x]) :=
  ⟨rfl, Or.inr ⟨b, 1, _, rfl, hb, h, Nat.le_refl _, by decide, rfl, rfl⟩⟩
theorem own_ext {w w' : World} {base n size : Nat} {v : Value} {xs : List Value} {e : TypeId} (h : w.ownsRow base e size v n xs) (k : Ext w w') : w'.ownsRow base e size v n xs := by
  refine ⟨h.1, ?_⟩
  rcases h.2 with h | ⟨g, cap, cur, hv, hb, hg, rest⟩
  · exact Or.inl h
  · exact Or.inr ⟨g, cap, cur, hv, hb, (k.block g (Array.getElem?_eq_some_iff.1 hg).1).trans hg, rest⟩
theorem lkI {N : Int} (h1 : 1 ≤ N) (hN : N ≤ 12) {ls : List Lnk} (hok : lnOk N ls ls.length) (x y : Nat) : lkd ls (x : Int) (y : Int) = lk (webOf ls) x y := ((web_ok h1 hN ls hok).2 x y).symm

set_option maxRecDepth 100000 in
set_option maxHeartbeats 8000000 in
theorem CheckDevice_any (N : Int) (ls : List Lnk) (ao : Option Addr) (n cp : Nat) (w : World) (h : LnkAt w ao n ls) (hn : n ≤ 9223372036854775806) (hnc : n ≤ cp) (_hcp : cp ≤ 9223372036854775807) :
    Calls Tryd.prog 10 #[.agg #[.int .i64 N, .slice ao n cp]] w fun e w' => e = .returned (.agg #[.int .i64 (devF N ls).1, .int .i64 (devF N ls).2]) ∧ Ext w w' := by
  obtain ⟨r, hr⟩ : ∃ r, devF N ls = r := ⟨_, rfl⟩
  obtain ⟨r0, r1⟩ := r
  rw [hr]
  unfold devF at hr
  simp only
  have Hl := Lib.hid h.1
  obtain ⟨H, hH⟩ : ∃ H, w.heap.size = H := ⟨_, rfl⟩
  obtain ⟨W0, hW0⟩ : ∃ W0, (w.alloc (.cells #[.int .i64 N, .slice ao n cp] 24)).alloc (.cells #[.int .i64 0, .int .i64 0] 27) = W0 := ⟨_, rfl⟩
  have E0 : Ext w W0 := by rw [← hW0]; exact (ext_al w _).trans (ext_al _ _)
  have bD : DvB W0 H N ao n cp := by rw [← hW0, ← hH]; exact DvB.ext ⟨heap_alloc_new w _⟩ (ext_al _ _)
  have bF : FtB W0 (H + 1) 0 0 := ⟨by
    have := heap_alloc_new (w.alloc (.cells #[.int .i64 N, .slice ao n cp] 24)) (.cells #[.int .i64 0, .int .i64 0] 27)
    rw [← hW0, ← hH]
    simpa using this⟩
  have HE0 := Lib.hid E0; have Hh := Lib.hid (h.ext E0); have HD := Lib.hid bD; have HFt := Lib.hid bF
  have HwH := Lib.hid (show w.heap.size ≤ H + 1 by omega); have HW0 := Lib.hid hW0; have HH := Lib.hid hH; have Hn := Lib.hid hn
  have v0 := bD.x0; have v1 := bD.x1
  clear h E0 bD bF hW0 hH hn
  have q9 : (n : Int) ≤ (cp : Int) := by omega
  by_cases hq : N < 1 ∨ 12 < N
  · rw [if_pos hq] at hr
    have HF := Lib.hid (show r0 = 6 ∧ r1 = 0 from ⟨(congrArg Prod.fst hr).symm, (congrArg Prod.snd hr).symm⟩)
    have fin : ∀ (wz : World), Ext W0 wz → FtB wz (H + 1) 0 0 := fun wz h => HFt.out.ext h
    by_cases hq1 : N < 1
    · have d1 := dt hq1
      clear hr hq
      go_enter Tryd.func10, Tryd.ntmps10
      go_upto_region 1 with fail
      rw [HW0.out, HH.out]
      go_wp2_with fail
      refine (rfault_any 6 0 _).mono ?_
      rintro e wz ⟨rfl, hxz⟩
      have bz := fin wz hxz; have x0 := bz.x0; have x1 := bz.x1; have g0 := bz.f 0; have g1 := bz.f 1; have HEz := Lib.hid (HE0.out.trans hxz)
      clear bz
      go_wp2_with fail
      exact bodyPost_ret (v := .agg #[.int .i64 6, .int .i64 0]) (by simp [results, Tryd.results10, go_sem, x0, x1]) rfl ⟨by rw [HF.out.1, HF.out.2], put2x HEz.out HwH.out _ _⟩
    · have d1 := df hq1
      have d2 := dt (show 12 < N by omega)
      clear hr hq
      go_enter Tryd.func10, Tryd.ntmps10
      go_upto_region 1 with fail
      rw [HW0.out, HH.out]
      go_wp2_with fail
      refine (rfault_any 6 0 _).mono ?_
      rintro e wz ⟨rfl, hxz⟩
      have bz := fin wz hxz; have x0 := bz.x0; have x1 := bz.x1; have g0 := bz.f 0; have g1 := bz.f 1; have HEz := Lib.hid (HE0.out.trans hxz)
      clear bz
      go_wp2_with fail
      exact bodyPost_ret (v := .agg #[.int .i64 6, .int .i64 0]) (by simp [results, Tryd.results10, go_sem, x0, x1]) rfl ⟨by rw [HF.out.1, HF.out.2], put2x HEz.out HwH.out _ _⟩
  rw [if_neg hq, Hl.out] at hr
  have dq1 := df (show ¬ N < 1 by omega)
  have dq2 := df (show ¬ 12 < N by omega)
  have Hr := Lib.hid hr; have Hq := Lib.hid (show 1 ≤ N ∧ N ≤ 12 by omega)
  clear hr hq
  go_enter Tryd.func10, Tryd.ntmps10
  go_upto_region 1 with fail
  rw [HW0.out, HH.out]
  clear HW0 HH
  go_wp2_with fail
  clear v0 v1
  go_loopg [3, 4] n (fun kk s3 _ wr => ∃ i : Nat, s3 = .int .i64 (i : Int) ∧ i ≤ n ∧ n - i = kk ∧ Ext W0 wr ∧ lnOk N ls i ∧ lnF N ls n 0 = lnF N ls (n - i) i)
  case atStart => exact ⟨0, rfl, Nat.zero_le _, rfl, Ext.refl _, fun j hj => by omega, rfl⟩
  case round =>
    obtain ⟨i, rfl, hi, hk, hE, hok, hln⟩ := hrel
    have HE := Lib.hid hE; have Hk := Lib.hid hk; have Hok := Lib.hid hok; have Hln := Lib.hid hln
    have bD := HD.out.ext hE
    have v0 := bD.x0; have v1 := bD.x1
    by_cases hin : i = n
    · subst hin
      have q1 : ¬ (i : Int) < (i : Int) := by omega
      have hr := Hr.out
      rw [hln, show i - i = 0 by omega, show lnF N ls 0 i = ((0 : Int), (0 : Int)) from rfl, if_neg (show ¬ ((0 : Int), (0 : Int)).1 ≠ 0 from fun h => h rfl)] at hr
      have hwo := web_ok Hq.out.1 Hq.out.2 ls (by rw [Hl.out]; exact hok)
      obtain ⟨M, hM⟩ : ∃ M : Nat, N = (M : Int) := ⟨N.toNat, by have := Hq.out; omega⟩
      subst hM
      rw [Int.toNat_natCast] at hr hwo
      have hM1 : 1 ≤ M ∧ M ≤ 12 := by have := Hq.out; omega
      have HY := Lib.hid (show Conn (webOf ls) M → r0 = 0 ∧ r1 = 0 from fun hc => by
        rw [if_pos ((reached_iff hwo.1 hM1.1).2 hc)] at hr
        exact ⟨(congrArg Prod.fst hr).symm, (congrArg Prod.snd hr).symm⟩)
      have HX := Lib.hid (show ¬ Conn (webOf ls) M → r0 = 37 ∧ r1 = 0 from fun hc => by
        rw [if_neg (fun e => hc ((reached_iff hwo.1 hM1.1).1 e))] at hr
        exact ⟨(congrArg Prod.fst hr).symm, (congrArg Prod.snd hr).symm⟩)
      have Hwo := Lib.hid hwo; have HM := Lib.hid hM1
      have Hn0 := Lib.hid (own_fst (base := W0.heap.size) (heap_alloc_new wr (.cells #[.int .i64 0] 3)) hE.size)
      have Ea := ext_al wr (.cells #[.int .i64 0] 3)
      have HEa := Lib.hid (hE.trans Ea)
      obtain ⟨i0, hi0, hz0, hz1, hz2⟩ := info_parts i_info
      have HI := Lib.hid (show lnOk (M : Int) ls ls.length by rw [Hl.out]; exact hok)
      clear hi hk hE hok hln hr hwo bD Ea
      go_wp2_with fail
      generalize wr.alloc (.cells #[.int .i64 0] 3) = U0 at *
      clear v0 v1
      go_loopg [5, 6, 7] M (fun kk s5 s6 _ wx => ∃ (l : List Nat) (j : Nat), s6 = .int .i64 (j : Int) ∧ j ≤ l.length ∧ M - j = kk ∧ BfS (webOf ls) M l j 0 ∧ Ext W0 wx ∧ wx.ownsRow W0.heap.size 3 1 s5 l.length (iC (intL l)))
      case atStart => exact ⟨[0], 0, rfl, Nat.zero_le _, rfl, BfS.init HM.out.1, HEa.out, Hn0.out⟩
      case round =>
        clear HEa Hn0 HE
        obtain ⟨l, j, rfl, hj, hjk, hB, hE, hown⟩ := hrel
        have HE := Lib.hid hE; have HB := Lib.hid hB; have Hjk := Lib.hid hjk
        obtain ⟨av, cv, rfl, hlc, hcm, hints, hty⟩ := ints_of_own hown
        have Hown := Lib.hid hown
        have bD := HD.out.ext hE
        have v0 := bD.x0
        have hlen := hB.len
        by_cases hjl : j = l.length
        · have q1 : ¬ (j : Int) < (l.length : Int) := by omega
          have hfin := hB.fin (by omega)
          by_cases hc : Conn (webOf ls) M
          · have q2 : ¬ (l.length : Int) < (M : Int) := by
              have : ¬ l.length < M := fun h => hfin.1 h hc
              omega
            have HF := Lib.hid (HY.out hc)
            have bz := HFt.out.ext hE; have x0 := bz.x0; have x1 := bz.x1; have g0 := bz.f 0; have g1 := bz.f 1; have HEz := Lib.hid (HE0.out.trans hE)
            clear hj hjk hB hE hown hints hty bD hlen hjl hfin hc bz
            go_wp2_with fail
            exact bodyPost_ret (v := .agg #[.int .i64 0, .int .i64 0]) (by simp [results, Tryd.results10, go_sem, x0, x1]) rfl ⟨by rw [HF.out.1, HF.out.2], put2x HEz.out HwH.out _ _⟩
          · have q2 : (l.length : Int) < (M : Int) := by
              have : l.length < M := hfin.2 hc
              omega
            have HF := Lib.hid (HX.out hc)
            clear hj hjk hB hown hints hty bD hlen hjl hfin hc
            go_wp2_with fail
            refine (rfault_any 37 0 _).mono ?_
            rintro e wz ⟨rfl, hxz⟩
            have bz := HFt.out.ext (HE.out.trans hxz); have x0 := bz.x0; have x1 := bz.x1; have g0 := bz.f 0; have g1 := bz.f 1; have HEz := Lib.hid (HE0.out.trans (HE.out.trans hxz))
            clear bz
            go_wp2_with fail
            exact bodyPost_ret (v := .agg #[.int .i64 37, .int .i64 0]) (by simp [results, Tryd.results10, go_sem, x0, x1]) rfl ⟨by rw [HF.out.1, HF.out.2], put2x HEz.out HwH.out _ _⟩
        have hjlt : j < l.length := by omega
        have q1 : (j : Int) < (l.length : Int) := by omega
        have q0 : (0 : Int) ≤ (j : Int) := by omega
        have wj : IntKind.i64.wrap ((j : Int) + 1) = ((j + 1 : Nat) : Int) := by rw [IntKind.wrap_i64]; have := HM.out; omega
        have Hjlt := Lib.hid hjlt
        have HjM := Lib.hid (show j < M by omega)
        clear hj hjk hB hE hown hints hty bD hlen hjl v0
        go_wp2_with fail
        go_loopg [5, 7] M (fun kk s5 s7 wy => ∃ (l : List Nat) (q : Nat), s7 = .int .i64 (q : Int) ∧ q ≤ M ∧ M - q = kk ∧ j < l.length ∧ BfS (webOf ls) M l j q ∧ Ext W0 wy ∧ wy.ownsRow W0.heap.size 3 1 s5 l.length (iC (intL l)))
        case atStart => exact ⟨l, 0, rfl, Nat.zero_le _, rfl, Hjlt.out, HB.out, HE.out, Hown.out⟩
        case round =>
          clear HE HB Hown Hjlt hjlt q1
          clear hlc hcm
          obtain ⟨l, q, rfl, hq, hqk, hjlt, hB, hE, hown⟩ := hrel
          have HE := Lib.hid hE; have HB := Lib.hid hB; have Hqk := Lib.hid hqk; have Hjlt := Lib.hid hjlt
          obtain ⟨av, cv, rfl, hlc, hcm, hints, hty⟩ := ints_of_own hown
          have Hown := Lib.hid hown
          have bD := HD.out.ext hE
          have v0 := bD.x0
          by_cases hqM : q = M
          · subst hqM
            have q1 : ¬ (q : Int) < (q : Int) := by omega
            have Hnx := Lib.hid (hB.next Hwo.out.1)
            clear hq hqk hB hE hown hints hty bD hjlt
            go_wp2_with fail
            go_roundg (q - (j + 1))
            case measure => have := Hjk.out; have := HjM.out; omega
            case rel => exact ⟨l, j + 1, rfl, Hjlt.out, rfl, Hnx.out, HE.out, Hown.out⟩
          have hqlt : q < M := by omega
          have q1 : (q : Int) < (M : Int) := by omega
          have wq : IntKind.i64.wrap ((q : Int) + 1) = ((q + 1 : Nat) : Int) := by rw [IntKind.wrap_i64]; have := HM.out; omega
          obtain ⟨X, Fw, hXn, hFe, hFs⟩ := fam wr
          have hUd : Ext wr wr.drew := Below.drew (Ext.refl wr)
          have HMb := Lib.hid (fun wx (hx : Ext wr wx) => member_any av l.length cv (intL l) (q : Int) wx (hints.ext hx) hlc (by unfold maxLen at hcm; omega))
          rw [intL_mem] at HMb
          obtain ⟨b, o, rfl, hbl, hcell⟩ := hints.at (by omega)
          have hci := hcell j hjlt
          rw [intL_getD] at hci
          have HLk := Lib.hid (fun wx (hx : Ext wr wx) => linked_any (M : Int) ls ao i cp ((l.getD j 0 : Nat) : Int) (q : Int) wx (Hh.out.ext (hE.trans hx)) Hn.out)
          rw [lkI Hq.out.1 Hq.out.2 HI.out] at HLk
          obtain ⟨B, hBB⟩ : ∃ B, decide (q ∈ l) = B := ⟨_, rfl⟩
          obtain ⟨L, hL⟩ : ∃ L, lk (webOf ls) (l.getD j 0) q = L := ⟨_, rfl⟩
          rw [hBB] at HMb
          rw [hL] at HLk
          obtain ⟨Y, hY⟩ : ∃ Y, l.getD j 0 = Y := ⟨_, rfl⟩
          rw [hY] at hci HLk
          have e0 : ∀ x, (Fw x).cell? ⟨H, 0, none⟩ = some (.int .i64 (M : Int)) := fun x => (bD.ext (hFe x)).x0
          have e1 : ∀ x, (Fw x).cell? ⟨H, 1, none⟩ = some (.slice ao i cp) := fun x => (bD.ext (hFe x)).x1
          have e2 : ∀ x, (Fw x).cell? ⟨b, o + j, none⟩ = some (.int .i64 (Y : Int)) := fun x => cell_ext hci (hFe x)
          have q2 : (j : Int) < (l.length : Int) := by omega
          have Hsk := Lib.hid (show (B = true ∨ L = false) → BfS (webOf ls) M l j (q + 1) from fun h => HB.out.skip (by
            rcases h with h | h
            · exact Or.inl (of_decide_eq_true (hBB.trans h))
            · exact Or.inr (hL.trans h)))
          have Had := Lib.hid (show B = false → L = true → BfS (webOf ls) M (l ++ [q]) j (q + 1) from fun h1 h2 => HB.out.add hjlt hqlt (of_decide_eq_false (hBB.trans h1)) (hL.trans h2))
          have Hqlt := Lib.hid hqlt
          clear hq hqk hB hE hown hints hty bD hjlt hqlt hbl hcell hBB hL hY hci HB
          cases B
          · cases L
            · go_upto_region 20 with fail
              refine wp_region_M (by kernel_rfl) (by kernel_rfl) (hFs _ hUd) ?_
              repeat (go_big_quiet_step (first | exact (HMb.out _ (hFe _)).mono (fun e w' h => ⟨h.1, hFs _ (by rw [h.2]; exact hFe _)⟩) | exact (HLk.out _ (hFe _)).mono (fun e w' h => ⟨h.1, hFs _ ((hFe _).trans h.2)⟩)))
              refine wpQuiet_nil ?_
              rintro _ ⟨xq, rfl⟩
              have HEx := Lib.hid (hFe xq)
              generalize Fw xq = W2 at *
              clear e0 e1 e2 hFe hFs hXn HMb HLk hUd v0
              have Hnx := Lib.hid (Hsk.out (Or.inr rfl))
              have HE2 := Lib.hid (HE.out.trans HEx.out)
              have Hown2 := Lib.hid (own_ext Hown.out HEx.out)
              clear Hsk Had
              go_wp2_with fail
              go_roundg (M - (q + 1))
              case measure => have := Hqk.out; have := Hqlt.out; omega
              case rel => exact ⟨l, q + 1, rfl, Hqlt.out, rfl, Hjlt.out, Hnx.out, HE2.out, Hown2.out⟩
            · go_upto_region 20 with fail
              refine wp_region_M (by kernel_rfl) (by kernel_rfl) (hFs _ hUd) ?_
              repeat (go_big_quiet_step (first | exact (HMb.out _ (hFe _)).mono (fun e w' h => ⟨h.1, hFs _ (by rw [h.2]; exact hFe _)⟩) | exact (HLk.out _ (hFe _)).mono (fun e w' h => ⟨h.1, hFs _ ((hFe _).trans h.2)⟩)))
              refine wpQuiet_nil ?_
              rintro _ ⟨xq, rfl⟩
              have HEx := Lib.hid (hFe xq)
              generalize Fw xq = W2 at *
              clear e0 e1 e2 hFe hFs hXn HMb HLk hUd v0
              have Hnx := Lib.hid (Had.out rfl rfl)
              have HE2 := Lib.hid (HE.out.trans HEx.out)
              have Hown2 := Lib.hid (own_ext Hown.out HEx.out)
              have HlM := Lib.hid (show l.length + 1 ≤ 13 from by have := Hnx.out.len; rw [List.length_append] at this; have h2 := HM.out.2; simp at this; omega)
              have Hst := Lib.hid (intL_snoc l q)
              clear Hsk Had
              go_wp2_with (at_builtin; refine wpList_append_own _ rfl _ _ 36 rfl W0.heap.size 3 i0 (.int .i64 0) 1 8 Tryd.underlying36 hi0 hz0 hz1 hz2 rfl (by decide) _ l.length (iC (intL l)) rfl (Hown2.out.alloc _) ⟨W2.heap.size, 0, none⟩ 1 1 [.int .i64 (q : Int)] rfl rfl (new_i W2 (q : Int) _) (one_i (q : Int)) (by have := HlM.out; unfold maxLen; omega) (by have := HlM.out; omega) (Nat.le_trans HE2.out.size (ext_al W2 _).size) ?_; intro v' w7 hown' hgrow' _)
              go_roundg (M - (q + 1))
              case measure => have := Hqk.out; have := Hqlt.out; omega
              case rel => exact ⟨l ++ [q], q + 1, rfl, Hqlt.out, rfl, by rw [List.length_append]; have := Hjlt.out; omega, Hnx.out, grown_ext (HE2.out.trans (ext_al W2 _)) hgrow' (fun k hk => (own_lt Hown2.out k hk).1), by rw [Hst.out, List.length_append]; exact hown'⟩
          · go_upto_region 20 with fail
            refine wp_region_M (by kernel_rfl) (by kernel_rfl) (hFs _ hUd) ?_
            repeat (go_big_quiet_step (first | exact (HMb.out _ (hFe _)).mono (fun e w' h => ⟨h.1, hFs _ (by rw [h.2]; exact hFe _)⟩) | exact (HLk.out _ (hFe _)).mono (fun e w' h => ⟨h.1, hFs _ ((hFe _).trans h.2)⟩)))
            refine wpQuiet_nil ?_
            rintro _ ⟨xq, rfl⟩
            have HEx := Lib.hid (hFe xq)
            generalize Fw xq = W2 at *
            clear e0 e1 e2 hFe hFs hXn HMb HLk hUd v0
            have Hnx := Lib.hid (Hsk.out (Or.inl rfl))
            have HE2 := Lib.hid (HE.out.trans HEx.out)
            have Hown2 := Lib.hid (own_ext Hown.out HEx.out)
            clear Hsk Had
            go_wp2_with fail
            go_roundg (M - (q + 1))
            case measure => have := Hqk.out; have := Hqlt.out; omega
            case rel => exact ⟨l, q + 1, rfl, Hqlt.out, rfl, Hjlt.out, Hnx.out, HE2.out, Hown2.out⟩
    have hlt : i < n := by omega
    have Hlt := Lib.hid hlt
    have q1 : (i : Int) < (n : Int) := by omega
    have q0 : (0 : Int) ≤ (i : Int) := by omega
    have wk : IntKind.i64.wrap ((i : Int) + 1) = ((i + 1 : Nat) : Int) := by rw [IntKind.wrap_i64]; have := Hn.out; omega
    have qc : (i : Int) ≤ (cp : Int) := by omega
    have qc2 : i ≤ cp := by omega
    obtain ⟨b, o, rfl, hbl, hcell⟩ := (Hh.out.ext hE).at (by omega)
    obtain ⟨e0, e1⟩ := hcell i hlt
    have hst := lnF_step N ls i n hlt
    rw [← hln] at hst
    obtain ⟨⟨a, c⟩, hkk⟩ : ∃ k, ls.getD i (0, 0) = k := ⟨_, rfl⟩
    have HC0 := Lib.hid (show ∀ j, j < i + 1 → lnkC N (ls.take i) (a, c) = 0 → lnkC N (ls.take j) (ls.getD j (0, 0)) = 0 from fun j hj h0 => by
      by_cases e : j = i
      · rw [e, hkk]; exact h0
      · exact Hok.out j (by omega))
    rw [hkk] at e0 e1 hst
    simp only at e0 e1
    have Hst := Lib.hid hst
    have HFc := Lib.hid (show ∀ k : Int, k ≠ 0 → lnkC N (ls.take i) (a, c) = k → r0 = k ∧ r1 = (i : Int) from fun k hk0 hk => by
      have hr := Hr.out
      rw [Hst.out, hk, if_pos hk0, if_pos hk0] at hr
      exact ⟨(congrArg Prod.fst hr).symm, (congrArg Prod.snd hr).symm⟩)
    obtain ⟨G, hG⟩ : ∃ G, wr.heap.size = G := ⟨_, rfl⟩
    obtain ⟨U, hU⟩ : ∃ U, wr.alloc (.cells #[.int .i64 a, .int .i64 c] 76) = U := ⟨_, rfl⟩
    have EU : Ext wr U := by rw [← hU]; exact ext_al _ _
    have rU : U.heap[G]? = some (.cells #[.int .i64 a, .int .i64 c] 76 (0, 0)) := by rw [← hU, ← hG]; exact heap_alloc_new _ _
    have y0 : U.cell? ⟨G, 0, none⟩ = some (.int .i64 a) := by rw [cell_of_row U G 0 _ _ (0, 0) rU]; rfl
    have y1 : U.cell? ⟨G, 1, none⟩ = some (.int .i64 c) := by rw [cell_of_row U G 1 _ _ (0, 0) rU]; rfl
    have z0 := (bD.ext EU).x0; have z1 := (bD.ext EU).x1
    have HU := Lib.hid hU; have HG := Lib.hid hG; have HEU := Lib.hid (hE.trans EU); have HbD := Lib.hid (bD.ext EU)
    obtain ⟨E, hEE⟩ : ∃ E, decide (a < 0 ∨ N ≤ a ∨ c < 0 ∨ N ≤ c) = E := ⟨_, rfl⟩
    have HEE := Lib.hid hEE
    clear hcell hbl hst hkk hU hG rU bD EU hE hk hok hln hEE
    go_upto_region 7 with fail
    rw [HU.out, HG.out]
    clear HU HG v0 v1 e0 e1
    go_cut [50] from 29 to 50 (fun s50 wx => s50 = .bool E ∧ U = wx)
    case first =>
      by_cases h1 : a < 0
      · have d1 := dt h1
        have hb : E = true := by rw [← HEE.out]; exact decide_eq_true (by omega)
        subst hb
        go_wp2_with fail
        go_meet
        exact ⟨rfl, rfl⟩
      have d1 := df h1
      by_cases h2 : c < 0
      · have d2 := dt h2
        have hb : E = true := by rw [← HEE.out]; exact decide_eq_true (by omega)
        subst hb
        go_wp2_with fail
        go_meet
        exact ⟨rfl, rfl⟩
      have d2 := df h2
      by_cases h3 : N ≤ a
      · have d3 := dt h3
        have hb : E = true := by rw [← HEE.out]; exact decide_eq_true (by omega)
        subst hb
        go_wp2_with fail
        go_meet
        exact ⟨rfl, rfl⟩
      have d3 := df h3
      by_cases h4 : N ≤ c
      · have d4 := dt h4
        have hb : E = true := by rw [← HEE.out]; exact decide_eq_true (by omega)
        subst hb
        go_wp2_with fail
        go_meet
        exact ⟨rfl, rfl⟩
      have d4 := df h4
      have hb : E = false := by rw [← HEE.out]; exact decide_eq_false (by omega)
      subst hb
      go_wp2_with fail
      go_meet
      exact ⟨rfl, rfl⟩
    case rest =>
    obtain ⟨rfl, rfl⟩ := hcut
    cases E
    rotate_left 1
    · have HF := Lib.hid (HFc.out 10 (by decide) (by unfold lnkC; rw [if_pos (of_decide_eq_true HEE.out)]))
      clear y0 y1 z0 z1
      go_wp2_with fail
      refine (rfault_any 10 (i : Int) _).mono ?_
      rintro e wz ⟨rfl, hxz⟩
      have bz := HFt.out.ext (HEU.out.trans hxz); have x0 := bz.x0; have x1 := bz.x1; have g0 := bz.f 0; have g1 := bz.f 1; have HEz := Lib.hid (HE0.out.trans (HEU.out.trans hxz))
      clear bz
      go_wp2_with fail
      exact bodyPost_ret (v := .agg #[.int .i64 10, .int .i64 (i : Int)]) (by simp [results, Tryd.results10, go_sem, x0, x1]) rfl ⟨by rw [HF.out.1, HF.out.2], put2x HEz.out HwH.out _ _⟩
    have Hne := Lib.hid (of_decide_eq_false HEE.out)
    by_cases h5 : a = c
    · subst h5
      have HF := Lib.hid (HFc.out 12 (by decide) (by unfold lnkC; rw [if_neg Hne.out, if_pos rfl]))
      clear z0 z1
      go_wp2_with fail
      refine (rfault_any 12 (i : Int) _).mono ?_
      rintro e wz ⟨rfl, hxz⟩
      have bz := HFt.out.ext (HEU.out.trans hxz); have x0 := bz.x0; have x1 := bz.x1; have g0 := bz.f 0; have g1 := bz.f 1; have HEz := Lib.hid (HE0.out.trans (HEU.out.trans hxz))
      clear bz
      go_wp2_with fail
      exact bodyPost_ret (v := .agg #[.int .i64 12, .int .i64 (i : Int)]) (by simp [results, Tryd.results10, go_sem, x0, x1]) rfl ⟨by rw [HF.out.1, HF.out.2], put2x HEz.out HwH.out _ _⟩
    have d5 : (a == c) = false := beq_eq_false_iff_ne.2 h5
    have HLk := Lib.hid (fun wx (hx : Ext U wx) => linked_any N (ls.take i) (some ⟨b, o, none⟩) i cp a c wx ((Hh.out.take i (by omega)).ext (HEU.out.trans hx)) (by have := Hn.out; omega))
    obtain ⟨L, hL⟩ : ∃ L, lkd (ls.take i) a c = L := ⟨_, rfl⟩
    rw [hL] at HLk
    have HLc := Lib.hid (show lnkC N (ls.take i) (a, c) = if L = true then 27 else 0 by unfold lnkC; rw [if_neg Hne.out, if_neg h5, ← hL])
    clear hL h5
    go_upto_region 11 with fail
    obtain ⟨X, Fw, hXn, hFe, hFs⟩ := fam U
    have f0 : ∀ x, (Fw x).cell? ⟨H, 0, none⟩ = some (.int .i64 N) := fun x => (HbD.out.ext (hFe x)).x0
    have f1 : ∀ x, (Fw x).cell? ⟨H, 1, none⟩ = some (.slice (some ⟨b, o, none⟩) n cp) := fun x => (HbD.out.ext (hFe x)).x1
    have f2 : ∀ x, (Fw x).cell? ⟨G, 0, none⟩ = some (.int .i64 a) := fun x => cell_ext y0 (hFe x)
    have f3 : ∀ x, (Fw x).cell? ⟨G, 1, none⟩ = some (.int .i64 c) := fun x => cell_ext y1 (hFe x)
    have hUd : Ext U U.drew := Below.drew (Ext.refl U)
    clear y0 y1 z0 z1
    cases L
    · have Hz := Lib.hid (show lnkC N (ls.take i) (a, c) = 0 from HLc.out)
      refine wp_region_M (by kernel_rfl) (by kernel_rfl) (hFs _ hUd) ?_
      repeat (go_big_quiet_step (exact (HLk.out _ (hFe _)).mono (fun e w' h => ⟨h.1, hFs _ ((hFe _).trans h.2)⟩)))
      refine wpQuiet_nil ?_
      rintro _ ⟨xq, rfl⟩
      have HEx := Lib.hid (HEU.out.trans (hFe xq))
      generalize Fw xq = W2 at *
      clear f0 f1 f2 f3 hFe hFs hXn HLk hUd
      go_wp2_with fail
      go_roundg (n - (i + 1))
      case measure => have := Hk.out; have := Hlt.out; omega
      case rel => exact ⟨i + 1, rfl, Hlt.out, rfl, HEx.out, fun j hj => HC0.out j hj Hz.out, by rw [Hst.out, if_neg (by rw [Hz.out]; decide)]⟩
    · have HF := Lib.hid (HFc.out 27 (by decide) HLc.out)
      refine wp_region_M (by kernel_rfl) (by kernel_rfl) (hFs _ hUd) ?_
      repeat (go_big_quiet_step (exact (HLk.out _ (hFe _)).mono (fun e w' h => ⟨h.1, hFs _ ((hFe _).trans h.2)⟩)))
      refine wpQuiet_nil ?_
      rintro _ ⟨xq, rfl⟩
      have HEx := Lib.hid (HEU.out.trans (hFe xq))
      generalize Fw xq = W2 at *
      clear f0 f1 f2 f3 hFe hFs hXn HLk hUd
      go_wp2_with fail
      refine (rfault_any 27 (i : Int) _).mono ?_
      rintro e wz ⟨rfl, hxz⟩
      have bz := HFt.out.ext (HEx.out.trans hxz); have x0 := bz.x0; have x1 := bz.x1; have g0 := bz.f 0; have g1 := bz.f 1; have HEz := Lib.hid (HE0.out.trans (HEx.out.trans hxz))
      clear bz
      go_wp2_with fail
      exact bodyPost_ret (v := .agg #[.int .i64 27, .int .i64 (i : Int)]) (by simp [results, Tryd.results10, go_sem, x0, x1]) rfl ⟨by rw [HF.out.1, HF.out.2], put2x HEz.out HwH.out _ _⟩
end Go.Proofs.YtlmfhopifggeaaaDoor
namespace Go.Proofs.YtlmfhopifggeaaaDoor
open Go.RowKit

/-- An X with one control. -/
def isCt (g : Gop) : Bool := g.kind == 2 && g.ctl.length == 1
/-- Controls that a device cannot do. -/
def isWr (g : Gop) : Bool := decide (0 < g.ctl.length) && !(isCt g)
/-- The first fault of operations by their controls. -/
def bsF (ops : List Gop) : Nat → Nat → Int × Int
  | 0, _ => (0, 0)
  | r + 1, i => if isWr (ops.getD i ⟨0, 0, [], 0, 0, []⟩) then (11, (i : Int)) else bsF ops r (i + 1)
theorem bsF_zero (ops : List Gop) : ∀ r i, (bsF ops r i).1 = 0 → bsF ops r i = (0, 0) ∧ ∀ j, i ≤ j → j < i + r → isWr (ops.getD j ⟨0, 0, [], 0, 0, []⟩) = false
  | 0, i, _ => ⟨rfl, fun j h1 h2 => by omega⟩
  | r + 1, i, h => by
    unfold bsF at h ⊢
    by_cases e : isWr (ops.getD i ⟨0, 0, [], 0, 0, []⟩) = true
    · rw [if_pos e] at h; exact absurd h (by show ¬ (11 : Int) = 0; decide)
    · rw [if_neg e] at h ⊢
      obtain ⟨h1, h2⟩ := bsF_zero ops r (i + 1) h
      refine ⟨h1, fun j hj hk => ?_⟩
      by_cases e2 : j = i
      · subst e2; simpa using e
      · exact h2 j (by omega) (by omega)
theorem bsF_step (ops : List Gop) (i n : Nat) (h : i < n) (g : Gop) (hg : ops[i]? = some g) : bsF ops (n - i) i = if isWr g then (11, (i : Int)) else bsF ops (n - (i + 1)) (i + 1) := by
  obtain ⟨r, hr⟩ : ∃ r, n - i = r + 1 := ⟨n - i - 1, by omega⟩
  rw [hr, bsF, show n - (i + 1) = r by omega, List.getD_eq_getElem?_getD, hg]; rfl
theorem bs_wr {ops : List Gop} (h : (bsF ops ops.length 0).1 = 0) : ∀ g ∈ ops, isWr g = false := by
  obtain ⟨_, h2⟩ := bsF_zero ops ops.length 0 h
  intro g hg
  obtain ⟨i, hi, rfl⟩ := List.mem_iff_getElem.1 hg
  have := h2 i (Nat.zero_le _) (by omega)
  rw [List.getD_eq_getElem?_getD, List.getElem?_eq_getElem hi] at this
  exact this
theorem take_gg {ops : List Gop} {i : Nat} {g : Gop} (h : ops[i]? = some g) : ops.take (i + 1) = ops.take i ++ [g] := by
  rw [List.take_add_one, h]; rfl
/-- How many operations there may be. -/
def rckN (N : Int) (ops : List Gop) : Int := (ops.length : Int) + 3 * max (N - 2) 0 * cntP isCt ops

section
variable (kd k : Int) (a1 : Option Addr) (n1 c1 : Nat) (q bt : Int) (a2 : Option Addr) (n2 c2 : Nat) (w : World)
theorem isControlled_any : Calls Tryd.prog 53 #[.agg #[.int .i64 kd, .int .i64 k, .slice a1 n1 c1, .int .i64 q, .int .i64 bt, .slice a2 n2 c2]] w fun e w' => e = .returned (.bool (kd == 2 && n1 == 1)) ∧ Ext w w' := by
  have HE := Lib.hid (ext_al w (.cells #[.int .i64 kd, .int .i64 k, .slice a1 n1 c1, .int .i64 q, .int .i64 bt, .slice a2 n2 c2] 46))
  have bx := opbx_new w kd k a1 n1 c1 q bt a2 n2 c2
  have m0 := bx.x0; have m2 := bx.x2
  clear bx
  by_cases h2 : kd = 2
  · subst h2
    by_cases h1 : n1 = 1
    · subst h1
      go_enter Tryd.func53, Tryd.ntmps53
      go_wp2_with fail
      go_ret
      exact ⟨rfl, HE.out⟩
    · have b1 : ((n1 : Int) == 1) = false := by simp; omega
      have e : ((2 : Int) == 2 && n1 == 1) = false := by simp [h1]
      rw [e]
      clear h1 e
      go_enter Tryd.func53, Tryd.ntmps53
      go_wp2_with fail
      go_ret
      exact ⟨rfl, HE.out⟩
  · have b2 : (kd == 2) = false := by simpa using h2
    have e : (kd == 2 && n1 == 1) = false := by rw [b2]; rfl
    rw [e]
    clear h2 e
    go_enter Tryd.func53, Tryd.ntmps53
    go_wp2_with fail
    go_ret
    exact ⟨rfl, HE.out⟩
theorem RBasic_all : Calls Tryd.prog 38 #[.agg #[.int .i64 kd, .int .i64 k, .slice a1 n1 c1, .int .i64 q, .int .i64 bt, .slice a2 n2 c2]] w fun e w' => e = .returned (.bool (n1 == 0 || (kd == 2 && n1 == 1))) ∧ Ext w w' := by
  have HE := Lib.hid (ext_al w (.cells #[.int .i64 kd, .int .i64 k, .slice a1 n1 c1, .int .i64 q, .int .i64 bt, .slice a2 n2 c2] 46))
  have bx := opbx_new w kd k a1 n1 c1 q bt a2 n2 c2
  have m0 := bx.x0; have m2 := bx.x2
  clear bx
  by_cases h0 : n1 = 0
  · subst h0
    have e : ((0 : Nat) == 0 || (kd == 2 && (0 : Nat) == 1)) = true := rfl
    rw [e]
    go_enter Tryd.func38, Tryd.ntmps38
    go_wp2_with fail
    go_ret
    exact ⟨rfl, HE.out⟩
  · have b0 : ((n1 : Int) == 0) = false := by simp; omega
    by_cases h2 : kd = 2
    · subst h2
      by_cases h1 : n1 = 1
      · subst h1
        go_enter Tryd.func38, Tryd.ntmps38
        go_wp2_with fail
        go_ret
        exact ⟨rfl, HE.out⟩
      · have b1 : ((n1 : Int) == 1) = false := by simp; omega
        have e : (n1 == 0 || ((2 : Int) == 2 && n1 == 1)) = false := by simp [h0, h1]
        rw [e]
        clear h0 h1 e
        go_enter Tryd.func38, Tryd.ntmps38
        go_wp2_with fail
        go_ret
        exact ⟨rfl, HE.out⟩
    · have b2 : (kd == 2) = false := by simpa using h2
      have e : (n1 == 0 || (kd == 2 && n1 == 1)) = false := by rw [b2]; simp [h0]
      rw [e]
      clear h2 h0 e
      go_enter Tryd.func38, Tryd.ntmps38
      go_wp2_with fail
      go_ret
      exact ⟨rfl, HE.out⟩
end
theorem wr_basic {kd k : Int} {ctl : List Int} {q bt : Int} {cnd : List Int} {n1 : Nat} (h : ctl.length = n1) : (n1 == 0 || (kd == 2 && n1 == 1)) = !(isWr ⟨kd, k, ctl, q, bt, cnd⟩) := by
  unfold isWr isCt
  simp only [h]
  by_cases h0 : n1 = 0
  · subst h0; rfl
  · have e1 : (n1 == 0) = false := by simpa using h0
    have e2 : decide (0 < n1) = true := decide_eq_true (by omega)
    rw [e1, e2]
    cases (kd == 2 && n1 == 1) <;> rfl

set_option maxRecDepth 100000 in
set_option maxHeartbeats 4000000 in
theorem basic_any (ops : List Gop) (ao : Option Addr) (n cp : Nat) (w : World) (h : OpsAt w ao n ops) (hn : n ≤ 4096) :
    Calls Tryd.prog 33 #[.slice ao n cp] w fun e w' => e = .returned (.agg #[.int .i64 (bsF ops n 0).1, .int .i64 (bsF ops n 0).2]) ∧ Ext w w' := by
  obtain ⟨r, hr⟩ : ∃ r, bsF ops n 0 = r := ⟨_, rfl⟩
  obtain ⟨r0, r1⟩ := r
  rw [hr]
  simp only
  have Hr := Lib.hid hr; have Hn := Lib.hid hn; have Hl := Lib.hid h.1
  obtain ⟨H, hH⟩ : ∃ H, w.heap.size = H := ⟨_, rfl⟩
  obtain ⟨W0, hW0⟩ : ∃ W0, w.alloc (.cells #[.int .i64 0, .int .i64 0] 27) = W0 := ⟨_, rfl⟩
  have E0 : Ext w W0 := by rw [← hW0]; exact ext_al w _
  have bF : FtB W0 H 0 0 := by rw [← hW0, ← hH]; exact ⟨heap_alloc_new w _⟩
  have HE0 := Lib.hid E0; have HO := Lib.hid (h.ext E0); have HFt := Lib.hid bF; have HW0 := Lib.hid hW0; have HH := Lib.hid hH
  have HwH := Lib.hid (show w.heap.size ≤ H by omega)
  clear h hn hr E0 bF hW0 hH
  go_enter Tryd.func33, Tryd.ntmps33
  go_upto_region 1 with fail
  rw [HW0.out, HH.out]
  clear HW0 HH
  go_wp2_with fail
  go_loopg [3, 4, 7] n (fun kk _ _ s7 wr => ∃ i : Nat, s7 = .int .i64 (i : Int) ∧ i ≤ n ∧ n - i = kk ∧ Ext W0 wr ∧ bsF ops n 0 = bsF ops (n - i) i)
  case atStart => exact ⟨0, rfl, Nat.zero_le _, rfl, Ext.refl _, rfl⟩
  case round =>
    obtain ⟨i, rfl, hi, hk, hE, hln⟩ := hrel
    have HE := Lib.hid hE; have Hk := Lib.hid hk
    by_cases hin : i = n
    · subst hin
      have q1 : ¬ (i : Int) < (i : Int) := by omega
      have hr := Hr.out
      rw [hln, show i - i = 0 by omega, show bsF ops 0 i = ((0 : Int), (0 : Int)) from rfl] at hr
      have HF := Lib.hid (show r0 = 0 ∧ r1 = 0 from ⟨(congrArg Prod.fst hr).symm, (congrArg Prod.snd hr).symm⟩)
      have bz := HFt.out.ext hE; have x0 := bz.x0; have x1 := bz.x1; have g0 := bz.f 0; have g1 := bz.f 1; have HEz := Lib.hid (HE0.out.trans hE)
      clear hi hk hE hln hr bz
      go_wp2_with fail
      exact bodyPost_ret (v := .agg #[.int .i64 0, .int .i64 0]) (by simp [results, Tryd.results33, go_sem, x0, x1]) rfl ⟨by rw [HF.out.1, HF.out.2], put2x HEz.out HwH.out _ _⟩
    have hlt : i < n := by omega
    have Hlt := Lib.hid hlt
    have q1 : (i : Int) < (n : Int) := by omega
    have q0 : (0 : Int) ≤ (i : Int) := by omega
    have wk : IntKind.i64.wrap ((i : Int) + 1) = ((i + 1 : Nat) : Int) := by rw [IntKind.wrap_i64]; have := Hn.out; omega
    obtain ⟨g, hg⟩ : ∃ g, ops[i]? = some g := ⟨_, List.getElem?_eq_getElem (by have := Hl.out; omega)⟩
    obtain ⟨b, o, rfl⟩ := HO.out.some_of (by omega)
    obtain ⟨a1, n1, c1, a2, n2, c2, e0, e1, e2, e3, e4, e5, hL⟩ := ((HO.out.ext hE).at i g hg)
    have hn1 := hL.i1.1
    have hst := bsF_step ops i n hlt g hg
    rw [← hln] at hst
    have Hst := Lib.hid hst
    obtain ⟨kd, k, ctl, q, bt, cnd⟩ := g
    simp only at e0 e1 e2 e3 e4 e5 hn1
    have bO := opbx_new wr kd k a1 n1 c1 q bt a2 n2 c2
    have p0 := bO.x0; have p1 := bO.x1; have p2 := bO.x2; have p3 := bO.x3; have p4 := bO.x4; have p5 := bO.x5
    have HE2 := Lib.hid (HE.out.trans (ext_al wr (.cells #[.int .i64 kd, .int .i64 k, .slice a1 n1 c1, .int .i64 q, .int .i64 bt, .slice a2 n2 c2] 46)))
    have Hwr := Lib.hid (show isWr ⟨kd, k, ctl, q, bt, cnd⟩ = (decide (0 < n1) && !(kd == 2 && n1 == 1)) by unfold isWr isCt; simp only [hn1])
    have HC := Lib.hid (fun wx => isControlled_any kd k a1 n1 c1 q bt a2 n2 c2 wx)
    clear hst bO hlt hg hL hn1 hin hi hE hk hln
    go_upto_region 4 with fail
    generalize wr.alloc (.cells #[.int .i64 kd, .int .i64 k, .slice a1 n1 c1, .int .i64 q, .int .i64 bt, .slice a2 n2 c2] 46) = U at *
    clear e0 e1 e2 e3 e4 e5
    by_cases hc : 0 < n1
    · have q2 : (0 : Int) < (n1 : Int) := by omega
      obtain ⟨B, hB⟩ : ∃ B, (kd == 2 && n1 == 1) = B := ⟨_, rfl⟩
      have hw : isWr ⟨kd, k, ctl, q, bt, cnd⟩ = !B := by rw [Hwr.out, decide_eq_true hc, hB]; rfl
      rw [hB] at HC
      cases B
      · have hs := Hst.out
        rw [hw, if_pos (by decide)] at hs
        have hr := Hr.out
        rw [hs] at hr
        have HF := Lib.hid (show r0 = 11 ∧ r1 = (i : Int) from ⟨(congrArg Prod.fst hr).symm, (congrArg Prod.snd hr).symm⟩)
        clear hs hr hw hB Hst Hwr
        go_wp2_with fail
        refine (HC.out U).mono ?_
        rintro e w6 ⟨rfl, hx6⟩
        have bz := HFt.out.ext (HE2.out.trans hx6); have x0 := bz.x0; have x1 := bz.x1; have g0 := bz.f 0; have g1 := bz.f 1; have HEz := Lib.hid (HE0.out.trans (HE2.out.trans hx6))
        clear bz
        go_wp2_with fail
        exact bodyPost_ret (v := .agg #[.int .i64 11, .int .i64 (i : Int)]) (by simp [results, Tryd.results33, go_sem, x0, x1]) rfl ⟨by rw [HF.out.1, HF.out.2], put2x HEz.out HwH.out _ _⟩
      · have hs := Hst.out
        rw [hw, if_neg (by decide)] at hs
        have Hs := Lib.hid hs
        clear hs hw hB Hst Hwr
        go_wp2_with fail
        refine (HC.out U).mono ?_
        rintro e w6 ⟨rfl, hx6⟩
        have HE6 := Lib.hid (HE2.out.trans hx6)
        clear hx6 p0 p1 p2 p3 p4 p5
        go_wp2_with fail
        go_roundg (n - (i + 1))
        case measure => have := Hk.out; have := Hlt.out; omega
        case rel => exact ⟨i + 1, rfl, Hlt.out, rfl, HE6.out, Hs.out⟩
    · have q2 : ¬ (0 : Int) < (n1 : Int) := by omega
      have q3 : decide ((0 : Int) < (n1 : Int)) = false := decide_eq_false q2
      have hw : isWr ⟨kd, k, ctl, q, bt, cnd⟩ = false := by rw [Hwr.out, decide_eq_false hc]; rfl
      have hs := Hst.out
      rw [hw, if_neg (by decide)] at hs
      have Hs := Lib.hid hs
      clear hs hw Hst Hwr HC hc
      go_wp2_with fail
      go_roundg (n - (i + 1))
      case measure => have := Hk.out; have := Hlt.out; omega
      case rel => exact ⟨i + 1, rfl, Hlt.out, rfl, HE2.out, Hs.out⟩

set_option maxRecDepth 100000 in
set_option maxHeartbeats 4000000 in
theorem reckoned_any (ops : List Gop) (N : Int) (ao : Option Addr) (n cp : Nat) (w : World) (h : OpsAt w ao n ops) (hn : n ≤ 4096) (hN1 : 1 ≤ N) (hN : N ≤ 12) :
    Calls Tryd.prog 34 #[.slice ao n cp, .int .i64 N] w fun e w' => e = .returned (.int .i64 (rckN N ops)) ∧ Ext w w' := by
  have HO := Lib.hid h; have Hn := Lib.hid hn; have Hl := Lib.hid h.1
  obtain ⟨R, hR⟩ : ∃ R, rckN N ops = R := ⟨_, rfl⟩
  rw [hR]
  have HR := Lib.hid hR
  obtain ⟨D, hD⟩ : ∃ D : Int, max (N - 2) 0 = D := ⟨_, rfl⟩
  have hDb : 0 ≤ D ∧ D ≤ 10 := by omega
  obtain ⟨N2, hN2⟩ : ∃ N2, N - 2 = N2 := ⟨_, rfl⟩
  have wN : IntKind.i64.wrap (N - 2) = N2 := by rw [IntKind.wrap_i64]; omega
  have wD : max N2 0 = D := by rw [← hN2]; exact hD
  have w3 : IntKind.i64.wrap (3 * D) = 3 * D := by rw [IntKind.wrap_i64]; omega
  have HDb := Lib.hid hDb; have HD := Lib.hid hD
  clear h hn hR hD hDb hN2 hN1 hN
  go_enter Tryd.func34, Tryd.ntmps34
  go_wp2_with fail
  go_loopg [5, 7, 12] n (fun kk s5 _ s12 wr => ∃ i : Nat, s12 = .int .i64 (i : Int) ∧ s5 = .int .i64 ((n : Int) + 3 * D * cntP isCt (ops.take i)) ∧ i ≤ n ∧ n - i = kk ∧ Ext w wr)
  case atStart => exact ⟨0, rfl, by simp [cntP], Nat.zero_le _, rfl, Ext.refl _⟩
  case round =>
    obtain ⟨i, rfl, rfl, hi, hk, hE⟩ := hrel
    have HE := Lib.hid hE; have Hk := Lib.hid hk
    by_cases hin : i = n
    · have q1 : ¬ (i : Int) < (n : Int) := by omega
      have HF := Lib.hid (show (n : Int) + 3 * D * cntP isCt (ops.take i) = R by rw [List.take_of_length_le (by have := Hl.out; omega), ← HR.out]; unfold rckN; rw [HD.out, Hl.out])
      clear hin hi hE hk
      go_wp2_with fail
      go_ret
      exact ⟨congrArg (fun b => Ending.returned (Value.int .i64 b)) HF.out, HE.out⟩
    have hlt : i < n := by omega
    have q1 : (i : Int) < (n : Int) := by omega
    have q0 : (0 : Int) ≤ (i : Int) := by omega
    have wk : IntKind.i64.wrap ((i : Int) + 1) = ((i + 1 : Nat) : Int) := by rw [IntKind.wrap_i64]; have := Hn.out; omega
    obtain ⟨g, hg⟩ : ∃ g, ops[i]? = some g := ⟨_, List.getElem?_eq_getElem (by have := Hl.out; omega)⟩
    obtain ⟨b, o, rfl⟩ := HO.out.some_of (by omega)
    obtain ⟨a1, n1, c1, a2, n2, c2, e0, e1, e2, e3, e4, e5, hL⟩ := ((HO.out.ext hE).at i g hg)
    have hst := take_gg hg
    have hn1 := hL.i1.1
    have bd := cntP_bound isCt (ops.take i)
    have bl : (ops.take i).length ≤ 4096 := by rw [List.length_take]; have := Hn.out; omega
    have hyes : isCt g = true → cntP isCt (ops.take (i + 1)) = cntP isCt (ops.take i) + 1 := fun e => by rw [hst]; exact cntP_yes e
    have hno : isCt g = false → cntP isCt (ops.take (i + 1)) = cntP isCt (ops.take i) := fun e => by rw [hst]; exact cntP_no e
    obtain ⟨C, hC⟩ : ∃ C, cntP isCt (ops.take i) = C := ⟨_, rfl⟩
    rw [hC] at hyes hno bd ⊢
    have hm : 0 ≤ D * C ∧ D * C ≤ 10 * 4096 := ⟨Int.mul_nonneg HDb.out.1 bd.1, Int.mul_le_mul HDb.out.2 (by omega) bd.1 (by decide)⟩
    have em : 3 * D * C = 3 * (D * C) := Int.mul_assoc _ _ _
    have em1 : 3 * D * (C + 1) = 3 * (D * C) + 3 * D := by rw [Int.mul_add, Int.mul_one, em]
    obtain ⟨S, hS⟩ : ∃ S, (n : Int) + 3 * D * C = S := ⟨_, rfl⟩
    have wc : IntKind.i64.wrap (S + 3 * D) = S + 3 * D := by have := HDb.out; have := Hn.out; rw [IntKind.wrap_i64]; omega
    have HSb := Lib.hid (show 0 ≤ S ∧ S ≤ 1000000 by have := Hn.out; omega)
    have HS1 := Lib.hid (show isCt g = true → (n : Int) + 3 * D * cntP isCt (ops.take (i + 1)) = S + 3 * D from fun e => by rw [hyes e, em1, ← hS, em]; omega)
    have HS0 := Lib.hid (show isCt g = false → (n : Int) + 3 * D * cntP isCt (ops.take (i + 1)) = S from fun e => by rw [hno e, hS])
    rw [hS]
    obtain ⟨kd, k, ctl, q, bt, cnd⟩ := g
    simp only at e0 e1 e2 e3 e4 e5 hn1
    have bO := opbx_new wr kd k a1 n1 c1 q bt a2 n2 c2
    have p0 := bO.x0; have p1 := bO.x1; have p2 := bO.x2; have p3 := bO.x3; have p4 := bO.x4; have p5 := bO.x5
    have HE2 := Lib.hid (HE.out.trans (ext_al wr (.cells #[.int .i64 kd, .int .i64 k, .slice a1 n1 c1, .int .i64 q, .int .i64 bt, .slice a2 n2 c2] 46)))
    have HC := Lib.hid (fun wx => isControlled_any kd k a1 n1 c1 q bt a2 n2 c2 wx)
    have Hct := Lib.hid (show isCt ⟨kd, k, ctl, q, bt, cnd⟩ = (kd == 2 && n1 == 1) by unfold isCt; simp only [hn1])
    obtain ⟨B, hB⟩ : ∃ B, (kd == 2 && n1 == 1) = B := ⟨_, rfl⟩
    rw [hB] at HC Hct
    have Hlt := Lib.hid hlt
    clear hst bd bl hyes hno hC bO hlt hg hL hn1 hin hi hE hk hm em em1 hS hB
    go_upto_region 5 with fail
    generalize wr.alloc (.cells #[.int .i64 kd, .int .i64 k, .slice a1 n1 c1, .int .i64 q, .int .i64 bt, .slice a2 n2 c2] 46) = U at *
    clear e0 e1 e2 e3 e4 e5
    cases B
    · have Hs := Lib.hid (HS0.out Hct.out)
      go_wp2_with fail
      refine (HC.out U).mono ?_
      rintro e w6 ⟨rfl, hx6⟩
      have HE6 := Lib.hid (HE2.out.trans hx6)
      clear hx6 p0 p1 p2 p3 p4 p5
      go_wp2_with fail
      go_roundg (n - (i + 1))
      case measure => have := Hk.out; have := Hlt.out; omega
      case rel => exact ⟨i + 1, rfl, by rw [Hs.out], Hlt.out, rfl, HE6.out⟩
    · have Hs := Lib.hid (HS1.out Hct.out)
      by_cases hneg : N2 < 0
      · have HDz := Lib.hid (show D = 0 by omega)
        go_wp2_with fail
        refine (HC.out U).mono ?_
        rintro e w6 ⟨rfl, hx6⟩
        have HE6 := Lib.hid (HE2.out.trans hx6)
        clear hx6 p0 p1 p2 p3 p4 p5
        go_wp2_with fail
        go_roundg (n - (i + 1))
        case measure => have := Hk.out; have := Hlt.out; omega
        case rel => exact ⟨i + 1, rfl, (by first | (rw [Hs.out]; done) | (rw [Hs.out]; refine congrArg (Value.int .i64) ?_; have := HSb.out; have := HDz.out; unfold wrap64; omega)), Hlt.out, rfl, HE6.out⟩
      · have HDn := Lib.hid (show N2 = D by omega)
        have w3n : IntKind.i64.wrap (3 * N2) = 3 * D := by have := HDb.out; rw [IntKind.wrap_i64]; omega
        have hz : decide (N2 < 0) = false := decide_eq_false hneg
        go_wp2_with fail
        refine (HC.out U).mono ?_
        rintro e w6 ⟨rfl, hx6⟩
        have HE6 := Lib.hid (HE2.out.trans hx6)
        clear hx6 p0 p1 p2 p3 p4 p5
        go_wp2_with fail
        go_roundg (n - (i + 1))
        case measure => have := Hk.out; have := Hlt.out; omega
        case rel => exact ⟨i + 1, rfl, (by first | (rw [Hs.out]; done) | (rw [Hs.out]; refine congrArg (Value.int .i64) ?_; have := HSb.out; have := HDn.out; have := HDb.out; unfold wrap64; omega)), Hlt.out, rfl, HE6.out⟩

set_option maxRecDepth 100000 in
set_option maxHeartbeats 4000000 in
theorem NotBasic_any (c : Gci) (ao : Option Addr) (n cp : Nat) (w : World) (h : OpsAt w ao n c.ops) (hn : n ≤ 4096) :
    Calls Tryd.prog 17 #[.agg #[.int .i64 c.qubits, .int .i64 c.bits, .slice ao n cp]] w fun e w' => e = .returned (.agg #[.int .i64 (bsF c.ops n 0).1, .int .i64 (bsF c.ops n 0).2]) ∧ Ext w w' := by
  obtain ⟨qb, bi, ops⟩ := c
  simp only at h ⊢
  obtain ⟨r, hr⟩ : ∃ r, bsF ops n 0 = r := ⟨_, rfl⟩
  obtain ⟨r0, r1⟩ := r
  rw [hr]
  simp only
  have Hr := Lib.hid hr; have Hn := Lib.hid hn; have Hl := Lib.hid h.1
  obtain ⟨H, hH⟩ : ∃ H, w.heap.size = H := ⟨_, rfl⟩
  obtain ⟨W0, hW0⟩ : ∃ W0, (w.alloc (.cells #[.int .i64 qb, .int .i64 bi, .slice ao n cp] 34)).alloc (.cells #[.int .i64 0, .int .i64 0] 27) = W0 := ⟨_, rfl⟩
  have E0 : Ext w W0 := by rw [← hW0]; exact (ext_al w _).trans (ext_al _ _)
  have bC : CiB W0 H qb bi ao n cp := by rw [← hW0, ← hH]; exact CiB.ext ⟨heap_alloc_new w _⟩ (ext_al _ _)
  have bF : FtB W0 (H + 1) 0 0 := ⟨by
    have := heap_alloc_new (w.alloc (.cells #[.int .i64 qb, .int .i64 bi, .slice ao n cp] 34)) (.cells #[.int .i64 0, .int .i64 0] 27)
    rw [← hW0, ← hH]
    simpa using this⟩
  have HE0 := Lib.hid E0; have HO := Lib.hid (h.ext E0); have HFt := Lib.hid bF; have HC := Lib.hid bC; have HW0 := Lib.hid hW0; have HH := Lib.hid hH
  have HwH := Lib.hid (show w.heap.size ≤ H + 1 by omega)
  clear h hn hr E0 bF bC hW0 hH
  go_enter Tryd.func17, Tryd.ntmps17
  go_upto_region 1 with fail
  rw [HW0.out, HH.out]
  clear HW0 HH
  go_wp2_with fail
  go_loopg [3] n (fun kk s3 wr => ∃ i : Nat, s3 = .int .i64 (i : Int) ∧ i ≤ n ∧ n - i = kk ∧ Ext W0 wr ∧ bsF ops n 0 = bsF ops (n - i) i)
  case atStart => exact ⟨0, rfl, Nat.zero_le _, rfl, Ext.refl _, rfl⟩
  case round =>
    obtain ⟨i, rfl, hi, hk, hE, hln⟩ := hrel
    have HE := Lib.hid hE; have Hk := Lib.hid hk
    have bC := HC.out.ext hE
    have v2 := bC.x2
    by_cases hin : i = n
    · subst hin
      have q1 : ¬ (i : Int) < (i : Int) := by omega
      have hr := Hr.out
      rw [hln, show i - i = 0 by omega, show bsF ops 0 i = ((0 : Int), (0 : Int)) from rfl] at hr
      have HF := Lib.hid (show r0 = 0 ∧ r1 = 0 from ⟨(congrArg Prod.fst hr).symm, (congrArg Prod.snd hr).symm⟩)
      have bz := HFt.out.ext hE; have x0 := bz.x0; have x1 := bz.x1; have g0 := bz.f 0; have g1 := bz.f 1; have HEz := Lib.hid (HE0.out.trans hE)
      clear hi hk hE hln hr bz bC
      go_wp2_with fail
      exact bodyPost_ret (v := .agg #[.int .i64 0, .int .i64 0]) (by simp [results, Tryd.results17, go_sem, x0, x1]) rfl ⟨by rw [HF.out.1, HF.out.2], put2x HEz.out HwH.out _ _⟩
    have hlt : i < n := by omega
    have Hlt := Lib.hid hlt
    have q1 : (i : Int) < (n : Int) := by omega
    have q0 : (0 : Int) ≤ (i : Int) := by omega
    have wk : IntKind.i64.wrap ((i : Int) + 1) = ((i + 1 : Nat) : Int) := by rw [IntKind.wrap_i64]; have := Hn.out; omega
    obtain ⟨g, hg⟩ : ∃ g, ops[i]? = some g := ⟨_, List.getElem?_eq_getElem (by have := Hl.out; omega)⟩
    obtain ⟨b, o, rfl⟩ := HO.out.some_of (by omega)
    obtain ⟨a1, n1, c1, a2, n2, c2, e0, e1, e2, e3, e4, e5, hL⟩ := ((HO.out.ext hE).at i g hg)
    have hn1 := hL.i1.1
    have hst := bsF_step ops i n hlt g hg
    rw [← hln] at hst
    obtain ⟨kd, k, ctl, q, bt, cnd⟩ := g
    simp only at e0 e1 e2 e3 e4 e5 hn1
    have HCl := Lib.hid (fun wx => RBasic_all kd k a1 n1 c1 q bt a2 n2 c2 wx)
    rw [wr_basic (k := k) (q := q) (bt := bt) (cnd := cnd) hn1] at HCl
    obtain ⟨B, hB⟩ : ∃ B, isWr ⟨kd, k, ctl, q, bt, cnd⟩ = B := ⟨_, rfl⟩
    have hst : bsF ops n 0 = if B = true then (11, (i : Int)) else bsF ops (n - (i + 1)) (i + 1) := by rw [← hB]; exact hst
    rw [hB] at HCl
    have Hst := Lib.hid hst
    clear hst bC hlt hg hL hn1 hin hi hE hk hln hB
    cases B
    · have Hs := Lib.hid (show bsF ops n 0 = bsF ops (n - (i + 1)) (i + 1) from Hst.out)
      go_wp2_with fail
      refine (HCl.out wr).mono ?_
      rintro e w6 ⟨rfl, hx6⟩
      have HE6 := Lib.hid (HE.out.trans hx6)
      clear hx6 e0 e1 e2 e3 e4 e5 v2
      go_wp2_with fail
      go_roundg (n - (i + 1))
      case measure => have := Hk.out; have := Hlt.out; omega
      case rel => exact ⟨i + 1, rfl, Hlt.out, rfl, HE6.out, Hs.out⟩
    · have hr := Hr.out
      rw [Hst.out, if_pos rfl] at hr
      have HF := Lib.hid (show r0 = 11 ∧ r1 = (i : Int) from ⟨(congrArg Prod.fst hr).symm, (congrArg Prod.snd hr).symm⟩)
      clear hr
      go_wp2_with fail
      refine (HCl.out wr).mono ?_
      rintro e w6 ⟨rfl, hx6⟩
      have HE6 := Lib.hid (HE.out.trans hx6)
      clear hx6 e0 e1 e2 e3 e4 e5 v2
      go_wp2_with fail
      refine (rfault_any 11 (i : Int) _).mono ?_
      rintro e wz ⟨rfl, hxz⟩
      have bz := HFt.out.ext (HE6.out.trans hxz); have x0 := bz.x0; have x1 := bz.x1; have g0 := bz.f 0; have g1 := bz.f 1; have HEz := Lib.hid (HE0.out.trans (HE6.out.trans hxz))
      clear bz
      go_wp2_with fail
      exact bodyPost_ret (v := .agg #[.int .i64 11, .int .i64 (i : Int)]) (by simp [results, Tryd.results17, go_sem, x0, x1]) rfl ⟨by rw [HF.out.1, HF.out.2], put2x HEz.out HwH.out _ _⟩
end Go.Proofs.YtlmfhopifggeaaaDoor
