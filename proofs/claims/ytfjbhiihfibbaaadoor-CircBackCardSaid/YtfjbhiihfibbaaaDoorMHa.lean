/-
  The reference: texts cut at a byte; figures.
-/
import Derived.Test.YtfjbhiihfibbaaaDoorMFa
import Derived.Test.YtfjbhiihfibbaaaDoorMDa

namespace Go.Proofs.YtfjbhiihfibbaaaDoor
open Go.RowKit

theorem s_info : (Tryd.prog.info? 9).map (fun i => (i.zero, i.size, i.bytes)) = some (some (.string ⟨#[]⟩), 1, 16) := by kernel_rfl
/-- Texts as cells. -/
def sC (l : List (List UInt8)) : List Value := l.map fun x => Value.string ⟨x.toArray⟩
theorem sC_length (l : List (List UInt8)) : (sC l).length = l.length := by simp [sC]
theorem sC_snoc (l : List (List UInt8)) (x : List UInt8) : sC (l ++ [x]) = sC l ++ [.string ⟨x.toArray⟩] := by simp [sC]
/-- The texts l lie at ao. -/
def StrsAt (w : World) (ao : Option Addr) (n : Nat) (l : List (List UInt8)) : Prop :=
  l.length = n ∧ (n = 0 ∨ ∃ b o, ao = some ⟨b, o, none⟩ ∧ b < w.heap.size ∧ ∀ t, t < n → w.cell? ⟨b, o + t, none⟩ = some (.string ⟨(l.getD t []).toArray⟩))
theorem StrsAt.ext {w w' : World} {ao : Option Addr} {n : Nat} {l : List (List UInt8)} (h : StrsAt w ao n l) (k : Ext w w') : StrsAt w' ao n l := by
  refine ⟨h.1, ?_⟩
  rcases h.2 with h0 | ⟨b, o, e, hb, hc⟩
  · exact Or.inl h0
  · exact Or.inr ⟨b, o, e, Nat.lt_of_lt_of_le hb k.size, fun t ht => (k.cell (p := ⟨b, o + t, none⟩) hb).trans (hc t ht)⟩
theorem StrsAt.at {w : World} {ao : Option Addr} {n : Nat} {l : List (List UInt8)} (h : StrsAt w ao n l) (hn : 0 < n) : ∃ b o, ao = some ⟨b, o, none⟩ ∧ b < w.heap.size ∧ ∀ t, t < n → w.cell? ⟨b, o + t, none⟩ = some (.string ⟨(l.getD t []).toArray⟩) := by
  rcases h.2 with h0 | h
  · omega
  · exact h
theorem strs_of_own {w : World} {base n : Nat} {v : Value} {l : List (List UInt8)} (h : w.ownsRow base 9 1 v n (sC l)) : ∃ (a : Option Addr) (c : Nat), v = .slice a n c ∧ n ≤ c ∧ c ≤ maxLen ∧ StrsAt w a n l := by
  have hl : l.length = n := by have := h.1; simpa [sC] using this
  rcases h.2 with ⟨rfl, rfl⟩ | ⟨g, cap, cur, rfl, _, hg, hnc, hcm, _, htk⟩
  · exact ⟨none, 0, rfl, Nat.le_refl _, Nat.zero_le _, ⟨hl, Or.inl rfl⟩⟩
  · refine ⟨some ⟨g, 0, none⟩, cap, rfl, hnc, hcm, ⟨hl, Or.inr ⟨g, 0, rfl, (Array.getElem?_eq_some_iff.1 hg).1, fun t ht => ?_⟩⟩⟩
    rw [cell_of_row w g (0 + t) cur _ (0, 0) hg, Nat.zero_add]
    have h1 : (sC l)[t]? = cur.toList[t]? := by
      rw [← htk, List.getElem?_take, if_pos (by omega)]
    rw [← Array.getElem?_toList, ← h1]
    simp only [sC, List.getElem?_map, List.getD_eq_getElem?_getD]
    rw [List.getElem?_eq_getElem (by omega)]
    rfl
theorem new_s (w : World) (x : ByteArray) (e : TypeId) : ∀ j u, ([Value.string x] : List Value)[j]? = some u → (w.alloc (.cells #[.string x] e)).cell? ((⟨w.heap.size, 0, none⟩ : Addr).add j) = some u := by
  intro j u hu
  have hadd : (⟨w.heap.size, 0, none⟩ : Addr).add j = ⟨w.heap.size, j, none⟩ := by unfold Addr.add; split <;> simp_all
  rw [hadd, cell_of_row _ _ j _ _ (0, 0) (heap_alloc_new w _)]
  match j, hu with
  | 0, hu => simpa using hu
  | k + 1, hu => simp at hu
theorem one_s (x : ByteArray) : ∀ u ∈ ([Value.string x] : List Value), u.oneCell' = true := by
  intro u hu
  simp only [List.mem_singleton] at hu
  subst hu
  rfl

/-- A piece ahead of the first of texts. -/
def glue (p : List UInt8) : List (List UInt8) → List (List UInt8)
  | [] => [p]
  | h :: t => (p ++ h) :: t
theorem glue_nil (c : UInt8) (r : List UInt8) : glue [] (splt c r) = splt c r := by
  obtain ⟨h, t, e⟩ := splt_ne c r
  rw [e]; rfl
theorem glue_hit {c : UInt8} {L r : List UInt8} (p : List UInt8) (h : L = c :: r) : glue p (splt c L) = p :: splt c r := by
  subst h; rw [splt, if_pos rfl, glue, List.append_nil]
theorem glue_miss {c x : UInt8} {L r : List UInt8} (p : List UInt8) (hx : x ≠ c) (h : L = x :: r) : glue p (splt c L) = glue (p ++ [x]) (splt c r) := by
  subst h
  obtain ⟨a, t, e⟩ := splt_ne c r
  rw [splt_cons_ne hx e, e, glue, glue]; simp
theorem glue_end {c : UInt8} {L : List UInt8} (p : List UInt8) (h : L = []) : glue p (splt c L) = [p] := by
  subst h; rw [splt, glue, List.append_nil]
theorem piece (T : List UInt8) (fr i : Nat) : (⟨T.toArray⟩ : ByteArray).extract fr i = ⟨((T.drop fr).take (i - fr)).toArray⟩ := by
  apply ByteArray.ext
  rw [ByteArray.data_extract]
  simp [List.take_drop]
theorem piece_snoc {T : List UInt8} {fr i : Nat} {x : UInt8} (hx : T[i]? = some x) (hf : fr ≤ i) : (T.drop fr).take (i + 1 - fr) = (T.drop fr).take (i - fr) ++ [x] := by
  rw [show i + 1 - fr = (i - fr) + 1 by omega, List.take_add_one, List.getElem?_drop, show fr + (i - fr) = i by omega, hx]; rfl

set_option maxHeartbeats 4000000 in
set_option maxRecDepth 100000 in
theorem split_any (T : List UInt8) (c : UInt8) (w : World) (hT : T.length ≤ 1000000) :
    Calls Tryd.prog 33 #[.string ⟨T.toArray⟩, .int .u8 (c.toNat : Int)] w fun e w' => (∃ (a' : Option Addr) (c' : Nat), e = .returned (.slice a' (splt c T).length c') ∧ (splt c T).length ≤ c' ∧ c' ≤ maxLen ∧ StrsAt w' a' (splt c T).length (splt c T)) ∧ Ext w w' := by
  obtain ⟨i0, hi, hz0, hz1, hz2⟩ := info_parts s_info
  obtain ⟨S, hS⟩ : ∃ S, splt c T = S := ⟨_, rfl⟩
  rw [hS]
  have HS := Lib.hid hS
  clear hS
  go_enter Tryd.func33, Tryd.ntmps33
  go_wp2_with fail
  go_loopg [5, 6, 7] (T.length + 1) (fun k s5 s6 s7 wr => Ext w wr ∧ ∃ (i fr : Nat) (out : List (List UInt8)), s6 = .int .i64 (fr : Int) ∧ s7 = .int .i64 (i : Int) ∧ (T.length + 1) - i = k ∧ out.length ≤ i ∧ wr.ownsRow w.heap.size 9 1 s5 out.length (sC out) ∧ ((i ≤ T.length ∧ fr ≤ i ∧ out ++ glue ((T.drop fr).take (i - fr)) (splt c (T.drop i)) = S) ∨ (i = T.length + 1 ∧ out = S)))
  case atStart => exact ⟨Ext.refl _, 0, 0, [], rfl, rfl, by omega, by simp, ⟨rfl, Or.inl ⟨rfl, rfl⟩⟩, Or.inl ⟨Nat.zero_le _, Nat.le_refl _, by rw [Nat.sub_self, List.take_zero, List.drop_zero, glue_nil]; exact HS.out⟩⟩
  case round =>
    clear HS
    obtain ⟨hER, i, fr, out, rfl, rfl, hk, hoi, hown, hcase⟩ := hrel
    have HER := Lib.hid hER; have Hown := Lib.hid hown
    clear hER hown
    rcases hcase with ⟨hil, hfi, hgl⟩ | ⟨hil, hou⟩
    rotate_left 1
    · have h2 : ¬ (i : Int) ≤ (T.length : Int) := by omega
      have h2' : decide ((i : Int) ≤ (T.length : Int)) = false := df h2
      subst hou
      obtain ⟨a', c', e, e1, e2, e3⟩ := strs_of_own Hown.out
      subst e
      have HI := Lib.hid e3; have He1 := Lib.hid e1; have He2 := Lib.hid e2
      clear e1 e2 e3 Hown hil hk
      go_wp2_with fail
      go_ret
      exact ⟨⟨a', c', rfl, He1.out, He2.out, HI.out⟩, HER.out⟩
    · have h2 : (i : Int) ≤ (T.length : Int) := by omega
      have h2' : decide ((i : Int) ≤ (T.length : Int)) = true := dt h2
      have h0 : (0 : Int) ≤ (i : Int) := by omega
      have hf0 : (0 : Int) ≤ (fr : Int) := by omega
      have hf1 : (fr : Int) ≤ (i : Int) := by omega
      have hpc := piece T fr i
      obtain ⟨P, hP⟩ : ∃ P, (T.drop fr).take (i - fr) = P := ⟨_, rfl⟩
      rw [hP] at hpc hgl
      have hw1 : IntKind.i64.wrap ((i : Int) + 1) = ((i + 1 : Nat) : Int) := by rw [IntKind.wrap_i64]; omega
      by_cases hend : i = T.length
      · have q1 : ((i : Int) == (T.length : Int)) = true := bt' (by omega)
        rw [glue_end P (List.drop_eq_nil_of_le (by omega))] at hgl
        have Hgl := Lib.hid hgl; have Hend := Lib.hid hend; have HP := Lib.hid hP
        clear hgl hend hP
        go_wp2_with (at_builtin; refine wpList_append_own _ rfl _ _ 53 rfl w.heap.size 9 i0 (.string ⟨#[]⟩) 1 16 Tryd.underlying53 hi hz0 hz1 hz2 rfl (by decide) _ out.length (sC out) rfl (Hown.out.alloc _) ⟨wr.heap.size, 0, none⟩ 1 1 [.string ⟨P.toArray⟩] rfl rfl (new_s wr _ _) (one_s _) (by unfold maxLen; omega) (by omega) (Nat.le_trans HER.out.size (ext_al wr _).size) ?_; intro v' w7 hown' hgrow' _)
        go_roundg ((T.length + 1) - (i + 1))
        case measure => omega
        case rel => exact ⟨grown_ext (HER.out.trans (ext_al wr _)) hgrow' (fun k hk => (own_lt Hown.out k hk).1), i + 1, i + 1, out ++ [P], by go_num, by go_num, rfl, by simp; omega, by rw [sC_snoc, List.length_append]; exact hown', Or.inr ⟨by have := Hend.out; omega, Hgl.out⟩⟩
      · have q1 : ((i : Int) == (T.length : Int)) = false := bf (by omega)
        have hlt : i < T.length := by omega
        have b1 : (i : Int) < (T.length : Int) := by omega
        obtain ⟨x, hx⟩ : ∃ x, T[i]? = some x := ⟨_, List.getElem?_eq_getElem hlt⟩
        have hsz : i < (⟨T.toArray⟩ : ByteArray).size := by simpa [ByteArray.size] using hlt
        have hg : ((⟨T.toArray⟩ : ByteArray)[i]'hsz).toNat = x.toNat := by rw [byte_at hx hsz]
        have hdr : T.drop i = x :: T.drop (i + 1) := by
          rw [List.drop_eq_getElem_cons hlt]
          congr 1
          exact (List.getElem?_eq_some_iff.1 hx).2
        by_cases hxc : x = c
        · subst hxc
          have q2 : ((((⟨T.toArray⟩ : ByteArray)[i]'hsz).toNat : Int) == (x.toNat : Int)) = true := by rw [hg]; exact bt' rfl
          rw [glue_hit P hdr] at hgl
          have Hgl := Lib.hid hgl; have HP := Lib.hid hP
          clear hgl hP hend hx hg hdr
          go_wp2_with (at_builtin; refine wpList_append_own _ rfl _ _ 53 rfl w.heap.size 9 i0 (.string ⟨#[]⟩) 1 16 Tryd.underlying53 hi hz0 hz1 hz2 rfl (by decide) _ out.length (sC out) rfl (Hown.out.alloc _) ⟨wr.heap.size, 0, none⟩ 1 1 [.string ⟨P.toArray⟩] rfl rfl (new_s wr _ _) (one_s _) (by unfold maxLen; omega) (by omega) (Nat.le_trans HER.out.size (ext_al wr _).size) ?_; intro v' w7 hown' hgrow' _)
          go_roundg ((T.length + 1) - (i + 1))
          case measure => omega
          case rel => exact ⟨grown_ext (HER.out.trans (ext_al wr _)) hgrow' (fun k hk => (own_lt Hown.out k hk).1), i + 1, i + 1, out ++ [P], by go_num, by go_num, rfl, by simp; omega, by rw [sC_snoc, List.length_append]; exact hown', Or.inl ⟨by omega, Nat.le_refl _, by rw [Nat.sub_self, List.take_zero, glue_nil, List.append_assoc]; exact Hgl.out⟩⟩
        · have hne : ¬ ((x.toNat : Int) = (c.toNat : Int)) := fun e => hxc (UInt8.toNat_inj.1 (by omega))
          have q2 : ((((⟨T.toArray⟩ : ByteArray)[i]'hsz).toNat : Int) == (c.toNat : Int)) = false := by rw [hg]; exact bf hne
          rw [glue_miss P hxc hdr, ← hP, ← piece_snoc hx hfi] at hgl
          have Hgl := Lib.hid hgl; have Ho2 := Lib.hid Hown.out
          clear hgl hP hend hx hg hdr hne hxc hpc
          go_wp2_with fail
          go_roundg ((T.length + 1) - (i + 1))
          case measure => omega
          case rel => exact ⟨HER.out, i + 1, fr, out, rfl, by go_num, rfl, by omega, Ho2.out, Or.inl ⟨by omega, by omega, Hgl.out⟩⟩

set_option maxHeartbeats 2000000 in
set_option maxRecDepth 100000 in
theorem figure_any (T : List UInt8) (w : World) :
    Calls Tryd.prog 34 #[.string ⟨T.toArray⟩] w fun e w' => e = .returned (.int .i64 (fig T : Int)) ∧ Ext w w' := by
  obtain ⟨F, hF⟩ : ∃ F, fig T = F := ⟨_, rfl⟩
  rw [hF]
  have HF := Lib.hid (show (T.take 9).foldl (fun n c => n * 10 + (c.toNat + 208) % 256) 0 = F from hF)
  clear hF
  go_enter Tryd.func34, Tryd.ntmps34
  go_wp2_with fail
  go_loopg [3, 4] 9 (fun k s3 s4 wr => Ext w wr ∧ ∃ (i n : Nat), s3 = .int .i64 (n : Int) ∧ s4 = .int .i64 (i : Int) ∧ i ≤ 9 ∧ i ≤ T.length ∧ 9 - i = k ∧ (T.take i).foldl (fun n c => n * 10 + (c.toNat + 208) % 256) 0 = n)
  case atStart => exact ⟨Ext.refl _, 0, 0, rfl, rfl, by omega, by omega, rfl, rfl⟩
  case round =>
    obtain ⟨hER, i, n, rfl, rfl, hi9, hil, hk, hfo⟩ := hrel
    have HER := Lib.hid hER
    clear hER
    have hn : n ≤ 29000000000 := by
      rw [← hfo]
      refine Nat.le_trans (fold_any _ 0) ?_
      have h2 : (T.take i).length ≤ 9 := by rw [List.length_take]; omega
      exact Nat.le_trans (Nat.mul_le_mul_left _ (Nat.pow_le_pow_right (by decide) h2)) (by decide)
    have hnn : ¬ (n : Int) < 0 := by omega
    have hnd : decide ((n : Int) < 0) = false := df hnn
    by_cases hlt : i < T.length
    · have q1 : (i : Int) < (T.length : Int) := by omega
      have q1' : decide ((i : Int) < (T.length : Int)) = true := dt q1
      by_cases h9 : i = 9
      · have q2 : ¬ (i : Int) < 9 := by omega
        have q2' : decide ((i : Int) < 9) = false := df q2
        have hFn : F = n := by rw [← HF.out, ← hfo, h9]
        have HFn := Lib.hid hFn
        clear hfo hFn h9 HF hlt
        go_wp2_with fail
        go_ret
        exact ⟨congrArg (fun b : Nat => Ending.returned (Value.int .i64 (b : Int))) HFn.out.symm, HER.out⟩
      · have q2 : (i : Int) < 9 := by omega
        have q2' : decide ((i : Int) < 9) = true := dt q2
        obtain ⟨x, hx⟩ : ∃ x, T[i]? = some x := ⟨_, List.getElem?_eq_getElem hlt⟩
        have hsz : i < (⟨T.toArray⟩ : ByteArray).size := by simpa [ByteArray.size] using hlt
        have hg : ((⟨T.toArray⟩ : ByteArray)[i]'hsz).toNat = x.toNat := by rw [byte_at hx hsz]
        have hxl : x.toNat < 256 := x.toNat_lt
        obtain ⟨d, hd⟩ : ∃ d, (x.toNat + 208) % 256 = d := ⟨_, rfl⟩
        have hst : (T.take (i + 1)).foldl (fun n c => n * 10 + (c.toNat + 208) % 256) 0 = n * 10 + d := by
          rw [List.take_add_one, hx, List.foldl_append, hfo, ← hd]; rfl
        have w1' : IntKind.u8.wrap ((((⟨T.toArray⟩ : ByteArray)[i]'hsz).toNat : Int) - 48) = (d : Int) := by rw [hg]; simp [IntKind.wrap, IntKind.bits, IntKind.signed]; omega
        obtain ⟨tn, htn⟩ : ∃ s, (n : Int) * 10 = s := ⟨_, rfl⟩
        have w2' : IntKind.i64.wrap ((n : Int) * 10) = tn := by rw [IntKind.wrap_i64]; omega
        obtain ⟨m, hm⟩ : ∃ m, n * 10 + d = m := ⟨_, rfl⟩
        have w3' : IntKind.i64.wrap (tn + (d : Int)) = (m : Int) := by rw [IntKind.wrap_i64]; omega
        have w4' : IntKind.i64.wrap (d : Int) = (d : Int) := by rw [IntKind.wrap_i64]; omega
        have b0 : (0 : Int) ≤ (i : Int) := by omega
        rw [hm] at hst
        have Hst := Lib.hid hst
        clear hst hfo hx hg hd htn hm hxl h9
        go_wp2_with fail
        go_roundg (9 - (i + 1))
        case measure => omega
        case rel => exact ⟨HER.out, i + 1, m, rfl, by go_num, by omega, by omega, rfl, Hst.out⟩
    · have q1 : ¬ (i : Int) < (T.length : Int) := by omega
      have q1' : decide ((i : Int) < (T.length : Int)) = false := df q1
      have hFn : F = n := by rw [← HF.out, ← hfo, List.take_of_length_le (by omega), List.take_of_length_le (by omega)]
      have HFn := Lib.hid hFn
      clear hfo hFn HF hlt
      go_wp2_with fail
      go_ret
      exact ⟨congrArg (fun b : Nat => Ending.returned (Value.int .i64 (b : Int))) HFn.out.symm, HER.out⟩

end Go.Proofs.YtfjbhiihfibbaaaDoor
