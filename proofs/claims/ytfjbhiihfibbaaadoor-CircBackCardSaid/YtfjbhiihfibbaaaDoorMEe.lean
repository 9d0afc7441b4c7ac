/-
  The reader: lists of numbers and of conditions of any text.
-/
import Derived.Test.YtfjbhiihfibbaaaDoorMEa
import Derived.Test.YtfjbhiihfibbaaaDoorMDe
import Derived.Test.YtfjbhiihfibbaaaDoorMDi

namespace Go.Proofs.YtfjbhiihfibbaaaDoor
open Go.RowKit

def rdNumI (L : List UInt8) : Option (Int × Nat) := (rdNum L).map (fun x => ((x.1 : Int), x.2))
/-- One element behind another, up to where it stops. -/
def rdMore (el : List UInt8 → Option (Int × Nat)) (stop : List UInt8 → Bool) : Nat → List UInt8 → Option (List Int × Nat)
  | 0, _ => none
  | f + 1, L => if stop L = true then some ([], 0) else (el L).bind (fun x => (rdMore el stop f (L.drop x.2)).map (fun y => (x.1 :: y.1, x.2 + y.2)))
/-- One element or more. -/
def rdList (el : List UInt8 → Option (Int × Nat)) (stop : List UInt8 → Bool) (L : List UInt8) : Option (List Int × Nat) :=
  (el L).bind (fun x => (rdMore el stop (L.length + 1) (L.drop x.2)).map (fun y => (x.1 :: y.1, x.2 + y.2)))
def stopC (L : List UInt8) : Bool := Lib.hasPrefix L [10] || Lib.hasPrefix L [32, 105, 102]
def stopI (L : List UInt8) : Bool := Lib.hasPrefix L [10]

theorem rdNum_pos {L : List UInt8} {n k : Nat} (h : rdNum L = some (n, k)) : 1 ≤ k := by
  unfold rdNum at h
  split at h
  · obtain ⟨x, _, e⟩ := Option.map_eq_some_iff.1 h
    injection e with _ e2
    omega
  · cases h
theorem rdCnd_pos {L : List UInt8} {t : Int} {k : Nat} (h : rdCnd L = some (t, k)) : 1 ≤ k := by
  unfold rdCnd at h
  split at h
  · split at h
    · obtain ⟨x, _, e⟩ := Option.map_eq_some_iff.1 h
      injection e with _ e2
      omega
    · obtain ⟨x, _, e⟩ := Option.map_eq_some_iff.1 h
      injection e with _ e2
      omega
  · cases h
theorem map_map' {o : Option (List Int × Nat)} {acc : List Int} {k x2 : Nat} {x : Int} : (o.map (fun y => (x :: y.1, x2 + y.2))).map (fun y => (acc ++ y.1, k + y.2)) = o.map (fun y => ((acc ++ [x]) ++ y.1, (k + x2) + y.2)) := by
  cases o with
  | none => rfl
  | some y => simp [Nat.add_assoc]

theorem el_controls (R : Nat) (T : List UInt8) (at_ ln : Nat) (w : World) (h : Rd w R T at_ ln) (hat : at_ ≤ T.length) (hT : T.length ≤ 1000000) :
    Calls Tryd.prog 60 #[.pointer (some ⟨R, 0, none⟩)] w fun e w' => Mvd R w w' ∧ ((∃ (x : Int) (k : Nat), rdNumI (T.drop at_) = some (x, k) ∧ e = .returned (.int .i64 x) ∧ Rd w' R T (at_ + k) ln ∧ at_ + k ≤ T.length ∧ 1 ≤ k) ∨ (rdNumI (T.drop at_) = none ∧ e = .panicked (gup ln))) := by
  refine (number_any R T at_ ln w h hat hT).mono ?_
  rintro e w' ⟨hm, (⟨n, k, hs, rfl, hr, hl, hn⟩ | ⟨hs, rfl⟩)⟩
  · exact ⟨hm, Or.inl ⟨(n : Int), k, by unfold rdNumI; rw [hs]; rfl, rfl, hr, hl, rdNum_pos hs⟩⟩
  · exact ⟨hm, Or.inr ⟨by unfold rdNumI; rw [hs]; rfl, rfl⟩⟩
theorem el_conditions (R : Nat) (T : List UInt8) (at_ ln : Nat) (w : World) (h : Rd w R T at_ ln) (hat : at_ ≤ T.length) (hT : T.length ≤ 1000000) :
    Calls Tryd.prog 91 #[.pointer (some ⟨R, 0, none⟩)] w fun e w' => Mvd R w w' ∧ ((∃ (x : Int) (k : Nat), rdCnd (T.drop at_) = some (x, k) ∧ e = .returned (.int .i64 x) ∧ Rd w' R T (at_ + k) ln ∧ at_ + k ≤ T.length ∧ 1 ≤ k) ∨ (rdCnd (T.drop at_) = none ∧ e = .panicked (gup ln))) := by
  refine (readCond_any R T at_ ln w h hat hT).mono ?_
  rintro e w' ⟨hm, (⟨t, k, hs, rfl, hr, hl, hn⟩ | ⟨hs, rfl⟩)⟩
  · exact ⟨hm, Or.inl ⟨t, k, hs, rfl, hr, hl, rdCnd_pos hs⟩⟩
  · exact ⟨hm, Or.inr ⟨hs, rfl⟩⟩

set_option maxHeartbeats 4000000 in
set_option maxRecDepth 100000 in
theorem controls_any (R : Nat) (T : List UInt8) (at_ ln : Nat) (w : World) (h : Rd w R T at_ ln) (hat : at_ ≤ T.length) (hT : T.length ≤ 1000000) :
    Calls Tryd.prog 79 #[.pointer (some ⟨R, 0, none⟩)] w fun e w' => Mvd R w w' ∧ ((∃ (l : List Int) (k : Nat) (a' : Option Addr) (c' : Nat), rdList rdNumI stopC (T.drop at_) = some (l, k) ∧ e = .returned (.slice a' l.length c') ∧ l.length ≤ c' ∧ c' ≤ maxLen ∧ IntsAt w' a' l.length l ∧ TyI w' a' ∧ (∀ b o, a' = some ⟨b, o, none⟩ → w.heap.size ≤ b) ∧ Rd w' R T (at_ + k) ln ∧ at_ + k ≤ T.length) ∨ (rdList rdNumI stopC (T.drop at_) = none ∧ e = .panicked (gup ln))) := by
  obtain ⟨i0, hi, hz0, hz1, hz2⟩ := info_parts i_info
  have hlR := h.lt
  obtain ⟨o, ho⟩ : ∃ o, rdList rdNumI stopC (T.drop at_) = o := ⟨_, rfl⟩
  rw [ho]
  have HEl := Lib.hid (fun (p : Nat) (wx : World) (hp : p ≤ T.length) (hx : Rd wx R T p ln) => el_controls R T p ln wx hx hp hT)
  have HN0 := Lib.hid (el_controls R T at_ ln w h hat hT)
  have Ho := Lib.hid ho
  clear h ho
  go_enter Tryd.func79, Tryd.ntmps79
  go_wp2_with fail
  refine HN0.out.mono ?_
  rintro e w1 ⟨hm1, (⟨x0, k0, hs0, rfl, hr1, hl1, hk0⟩ | ⟨hs0, rfl⟩)⟩
  · have ho := Ho.out
    unfold rdList at ho
    rw [hs0] at ho
    simp only [Option.bind_some, List.drop_drop] at ho
    have ho1 := own_one w1 x0
    have E1 := ext_al w1 (.cells #[.int .i64 x0] 3)
    have hsz1 := hm1.size
    have Ho1 := Lib.hid (show (w1.alloc (.cells #[.int .i64 x0] 3)).ownsRow w.heap.size 3 1 (.slice (some ⟨w1.heap.size, 0, none⟩) 1 1) 1 (iC [x0]) from ⟨ho1.1, by
      rcases ho1.2 with h0 | ⟨g, cap, cur, q1, q2, q3⟩
      · exact Or.inl h0
      · exact Or.inr ⟨g, cap, cur, q1, Nat.le_trans hsz1 q2, q3⟩⟩)
    have HR1 := Lib.hid (hr1.ext E1); have HM1 := Lib.hid (hm1.trans (Mvd.of_ext (R := R) E1))
    have Hoo := Lib.hid ho; have Hk0 := Lib.hid hk0; have Hl1 := Lib.hid hl1
    have HlR := Lib.hid hlR
    have hld : (T.drop at_).length = T.length - at_ := List.length_drop
    have Hld := Lib.hid hld
    clear hr1 hm1 ho1 E1 HN0 hs0 ho hk0 hl1 hsz1 hlR hld
    go_wp2_with fail
    go_loopg [3] (T.length - (at_ + k0)) (fun kk s3 wx => ∃ (acc : List Int) (k f : Nat), at_ + k ≤ T.length ∧ T.length - (at_ + k) = kk ∧ T.length - (at_ + k) < f ∧ acc.length ≤ k ∧ (rdMore rdNumI stopC f (T.drop (at_ + k))).map (fun y => (acc ++ y.1, k + y.2)) = o ∧ wx.ownsRow w.heap.size 3 1 s3 acc.length (iC acc) ∧ Rd wx R T (at_ + k) ln ∧ Mvd R w wx)
    case atStart => exact ⟨[x0], k0, (T.drop at_).length + 1, Hl1.out, rfl, by rw [Hld.out]; omega, Hk0.out, Hoo.out, Ho1.out, HR1.out, HM1.out⟩
    case round =>
      clear Ho1 HR1 HM1 Hoo Hk0 Hl1 Ho Hld
      obtain ⟨acc, k, f, hkl, hkk, hf, hacc, ho, hown, hr, hm⟩ := hrel
      obtain ⟨f', rfl⟩ : ∃ f', f = f' + 1 := ⟨f - 1, by omega⟩
      have hsz := hm.size
      obtain ⟨ap, hap⟩ : ∃ x, at_ + k = x := ⟨_, rfl⟩
      rw [hap] at hr ho hkl hf hkk
      have HS1 := Lib.hid (sees_any R T ap ln [10] wr hr hkl)
      have HS2 := Lib.hid (fun wx (hx : Ext wr wx) => sees_any R T ap ln [32, 105, 102] wx (hr.ext hx) hkl)
      have Hown := Lib.hid hown; have HRr := Lib.hid hr; have HMr := Lib.hid hm; have Hap := Lib.hid hap; have Hkl := Lib.hid hkl
      rw [rdMore] at ho
      by_cases hst : stopC (T.drop ap) = true
      · rw [if_pos hst] at ho
        obtain ⟨a', c', hv, q1, q2, hI, hTy⟩ := ints_of_own hown
        subst hv
        have Hnew := Lib.hid (show ∀ b o, a' = some ⟨b, o, none⟩ → w.heap.size ≤ b from fun b o e => by subst e; exact (own_lt hown b (by simp [Value.ownBlock])).1)
        have HI := Lib.hid hI; have HTy := Lib.hid hTy
        have Ho := Lib.hid (show o = some (acc, k) by rw [← ho]; simp)
        have Hq := Lib.hid (And.intro q1 q2)
        clear hTy hI q1 q2
        by_cases p1 : Lib.hasPrefix (T.drop ap) [10] = true
        · rw [p1] at HS1
          clear hr hm hown ho hap p1 hkl hf hkk hst hacc
          go_wp2_with fail
          refine HS1.out.mono ?_
          rintro e w5 ⟨rfl, hx5⟩
          have HXz := Lib.hid hx5
          clear hx5
          go_wp2_with fail
          go_ret
          exact ⟨HMr.out.trans (Mvd.of_ext HXz.out), Or.inl ⟨acc, k, a', c', Ho.out, rfl, Hq.out.1, Hq.out.2, HI.out.ext HXz.out, HTy.out.ext HXz.out, Hnew.out, by rw [Hap.out]; exact HRr.out.ext HXz.out, by rw [Hap.out]; exact Hkl.out⟩⟩
        · have p2 : Lib.hasPrefix (T.drop ap) [32, 105, 102] = true := by
            have p1' : Lib.hasPrefix (T.drop ap) [10] = false := by simpa using p1
            unfold stopC at hst; rw [p1'] at hst; simpa using hst
          have p1' : Lib.hasPrefix (T.drop ap) [10] = false := by simpa using p1
          rw [p1'] at HS1
          rw [p2] at HS2
          clear hr hm hown ho hap p1 p1' p2 hkl hf hkk hst hacc
          go_wp2_with fail
          refine HS1.out.mono ?_
          rintro e w5 ⟨rfl, hx5⟩
          have HX5 := Lib.hid hx5
          clear hx5
          go_wp2_with fail
          refine (HS2.out w5 HX5.out).mono ?_
          rintro e w6 ⟨rfl, hx6⟩
          have HXz := Lib.hid (HX5.out.trans hx6)
          clear hx6
          go_wp2_with fail
          go_ret
          exact ⟨HMr.out.trans (Mvd.of_ext HXz.out), Or.inl ⟨acc, k, a', c', Ho.out, rfl, Hq.out.1, Hq.out.2, HI.out.ext HXz.out, HTy.out.ext HXz.out, Hnew.out, by rw [Hap.out]; exact HRr.out.ext HXz.out, by rw [Hap.out]; exact Hkl.out⟩⟩
      · rw [if_neg hst] at ho
        have HNm := Lib.hid (fun wx (hx' : Ext wr wx) => HEl.out ap wx hkl (hr.ext hx'))
        have Ho := Lib.hid ho; have Hf := Lib.hid hf; have Hkk := Lib.hid hkk
        have p1 : Lib.hasPrefix (T.drop ap) [10] = false := by
          rcases hx : Lib.hasPrefix (T.drop ap) [10] with _ | _
          · rfl
          · exact absurd (by unfold stopC; rw [hx]; rfl) hst
        have p2 : Lib.hasPrefix (T.drop ap) [32, 105, 102] = false := by
          rcases hx : Lib.hasPrefix (T.drop ap) [32, 105, 102] with _ | _
          · rfl
          · exact absurd (by unfold stopC; rw [hx]; simp) hst
        rw [p1] at HS1
        rw [p2] at HS2
        clear hr hm hown ho hap p1 p2 hkl hf hst
        go_wp2_with fail
        refine HS1.out.mono ?_
        rintro e w5 ⟨rfl, hx5⟩
        have HX5 := Lib.hid hx5
        clear hx5
        go_wp2_with fail
        refine (HS2.out w5 HX5.out).mono ?_
        rintro e w6 ⟨rfl, hx6⟩
        have HX6 := Lib.hid (HX5.out.trans hx6)
        clear hx6
        go_wp2_with fail
        refine (HNm.out w6 HX6.out).mono ?_
        rintro e w8 ⟨hm8, (⟨x, kx, hsx, rfl, hr8, hl8, hkx⟩ | ⟨hsx, rfl⟩)⟩
        · have ho := Ho.out
          rw [hsx] at ho
          simp only [Option.bind_some, List.drop_drop] at ho
          rw [map_map'] at ho
          have hm9 := (Mvd.of_ext (R := R) HX6.out).trans hm8
          have ho8 := own_mvd Hown.out hm9 HlR.out
          have hsz8 := (HMr.out.trans hm9).size
          have hap := Hap.out
          have hacc2 : acc.length ≤ 1000000 := by have := Hkl.out; omega
          have Ho8 := Lib.hid ho8; have HR8 := Lib.hid hr8; have HM8 := Lib.hid (HMr.out.trans hm9)
          have Hoo := Lib.hid ho; have Hl8 := Lib.hid hl8; have Hkx := Lib.hid hkx
          have Hacc := Lib.hid (show (acc ++ [x]).length ≤ k + kx by rw [List.length_append]; simp; omega)
          have Hpos := Lib.hid (show at_ + (k + kx) = ap + kx by omega)
          have hRw := HlR.out
          clear hr8 hm8 hm9 ho8 ho hl8 hkx hsx hap
          clear HS1 HS2 HX5 HNm Hown HRr HMr HX6 Ho hacc hkk
          go_wp2_with (at_builtin; refine wpList_append_own _ rfl _ _ 32 rfl w.heap.size 3 i0 (.int .i64 0) 1 8 Tryd.underlying32 hi hz0 hz1 hz2 rfl (by decide) _ (acc).length (iC (acc)) rfl (Ho8.out.alloc _) ⟨w8.heap.size, 0, none⟩ 1 1 [.int .i64 (x)] rfl rfl (new_i w8 (x) _) (one_i (x)) (by unfold maxLen; omega) (by omega) (Nat.le_trans hsz8 (ext_al w8 _).size) ?_; intro v' w7 hown' hgrow' _)
          have ho9 := Ho8.out.alloc (.cells #[.int .i64 x] 3)
          have HM9 := Lib.hid (Mvd.grown (HM8.out.trans (Mvd.of_ext (ext_al w8 (.cells #[.int .i64 x] 3)))) hgrow' (fun k hk => (own_lt ho9 k hk).1))
          have HR9 := Lib.hid (Rd.grown (HR8.out.ext (ext_al w8 (.cells #[.int .i64 x] 3))) hgrow' (fun k hk => by have := (own_lt ho9 k hk).1; omega))
          have HO9 := Lib.hid (own_snoc hown')
          clear hown' hgrow' ho9
          go_wp2_with fail
          go_roundg (T.length - (at_ + (k + kx)))
          case measure => have := Hkk.out; have := Hpos.out; have := Hl8.out; have := Hkx.out; omega
          case rel => exact ⟨acc ++ [x], k + kx, f', by rw [Hpos.out]; exact Hl8.out, rfl, by have := Hf.out; have := Hpos.out; have := Hl8.out; have := Hkx.out; omega, Hacc.out, by rw [Hpos.out]; exact Hoo.out, HO9.out, by rw [Hpos.out]; exact HR9.out, HM9.out⟩
        · have ho := Ho.out
          rw [hsx] at ho
          have Ho2 := Lib.hid (show o = none from ho.symm)
          have HMz := Lib.hid ((HMr.out.trans (Mvd.of_ext (R := R) HX6.out)).trans hm8)
          clear ho hsx hm8
          go_wp2_with fail
          exact ⟨rfl, HMz.out, Or.inr ⟨Ho2.out, rfl⟩⟩
  · have ho := Ho.out
    unfold rdList at ho
    rw [hs0] at ho
    have Ho2 := Lib.hid (show o = none from ho.symm)
    have HM := Lib.hid hm1
    clear ho hs0 hm1
    go_wp2_with fail
    exact ⟨rfl, HM.out, Or.inr ⟨Ho2.out, rfl⟩⟩

set_option maxHeartbeats 4000000 in
set_option maxRecDepth 100000 in
theorem conditions_any (R : Nat) (T : List UInt8) (at_ ln : Nat) (w : World) (h : Rd w R T at_ ln) (hat : at_ ≤ T.length) (hT : T.length ≤ 1000000) :
    Calls Tryd.prog 80 #[.pointer (some ⟨R, 0, none⟩)] w fun e w' => Mvd R w w' ∧ ((∃ (l : List Int) (k : Nat) (a' : Option Addr) (c' : Nat), rdList rdCnd stopI (T.drop at_) = some (l, k) ∧ e = .returned (.slice a' l.length c') ∧ l.length ≤ c' ∧ c' ≤ maxLen ∧ IntsAt w' a' l.length l ∧ TyI w' a' ∧ (∀ b o, a' = some ⟨b, o, none⟩ → w.heap.size ≤ b) ∧ Rd w' R T (at_ + k) ln ∧ at_ + k ≤ T.length) ∨ (rdList rdCnd stopI (T.drop at_) = none ∧ e = .panicked (gup ln))) := by
  obtain ⟨i0, hi, hz0, hz1, hz2⟩ := info_parts i_info
  have hlR := h.lt
  obtain ⟨o, ho⟩ : ∃ o, rdList rdCnd stopI (T.drop at_) = o := ⟨_, rfl⟩
  rw [ho]
  have HEl := Lib.hid (fun (p : Nat) (wx : World) (hp : p ≤ T.length) (hx : Rd wx R T p ln) => el_conditions R T p ln wx hx hp hT)
  have HN0 := Lib.hid (el_conditions R T at_ ln w h hat hT)
  have Ho := Lib.hid ho
  clear h ho
  go_enter Tryd.func80, Tryd.ntmps80
  go_wp2_with fail
  refine HN0.out.mono ?_
  rintro e w1 ⟨hm1, (⟨x0, k0, hs0, rfl, hr1, hl1, hk0⟩ | ⟨hs0, rfl⟩)⟩
  · have ho := Ho.out
    unfold rdList at ho
    rw [hs0] at ho
    simp only [Option.bind_some, List.drop_drop] at ho
    have ho1 := own_one w1 x0
    have E1 := ext_al w1 (.cells #[.int .i64 x0] 3)
    have hsz1 := hm1.size
    have Ho1 := Lib.hid (show (w1.alloc (.cells #[.int .i64 x0] 3)).ownsRow w.heap.size 3 1 (.slice (some ⟨w1.heap.size, 0, none⟩) 1 1) 1 (iC [x0]) from ⟨ho1.1, by
      rcases ho1.2 with h0 | ⟨g, cap, cur, q1, q2, q3⟩
      · exact Or.inl h0
      · exact Or.inr ⟨g, cap, cur, q1, Nat.le_trans hsz1 q2, q3⟩⟩)
    have HR1 := Lib.hid (hr1.ext E1); have HM1 := Lib.hid (hm1.trans (Mvd.of_ext (R := R) E1))
    have Hoo := Lib.hid ho; have Hk0 := Lib.hid hk0; have Hl1 := Lib.hid hl1
    have HlR := Lib.hid hlR
    have hld : (T.drop at_).length = T.length - at_ := List.length_drop
    have Hld := Lib.hid hld
    clear hr1 hm1 ho1 E1 HN0 hs0 ho hk0 hl1 hsz1 hlR hld
    go_wp2_with fail
    go_loopg [3] (T.length - (at_ + k0)) (fun kk s3 wx => ∃ (acc : List Int) (k f : Nat), at_ + k ≤ T.length ∧ T.length - (at_ + k) = kk ∧ T.length - (at_ + k) < f ∧ acc.length ≤ k ∧ (rdMore rdCnd stopI f (T.drop (at_ + k))).map (fun y => (acc ++ y.1, k + y.2)) = o ∧ wx.ownsRow w.heap.size 3 1 s3 acc.length (iC acc) ∧ Rd wx R T (at_ + k) ln ∧ Mvd R w wx)
    case atStart => exact ⟨[x0], k0, (T.drop at_).length + 1, Hl1.out, rfl, by rw [Hld.out]; omega, Hk0.out, Hoo.out, Ho1.out, HR1.out, HM1.out⟩
    case round =>
      clear Ho1 HR1 HM1 Hoo Hk0 Hl1 Ho Hld
      obtain ⟨acc, k, f, hkl, hkk, hf, hacc, ho, hown, hr, hm⟩ := hrel
      obtain ⟨f', rfl⟩ : ∃ f', f = f' + 1 := ⟨f - 1, by omega⟩
      have hsz := hm.size
      obtain ⟨ap, hap⟩ : ∃ x, at_ + k = x := ⟨_, rfl⟩
      rw [hap] at hr ho hkl hf hkk
      have HS1 := Lib.hid (sees_any R T ap ln [10] wr hr hkl)
      have Hown := Lib.hid hown; have HRr := Lib.hid hr; have HMr := Lib.hid hm; have Hap := Lib.hid hap; have Hkl := Lib.hid hkl
      rw [rdMore] at ho
      by_cases hst : stopI (T.drop ap) = true
      · rw [if_pos hst] at ho
        obtain ⟨a', c', hv, q1, q2, hI, hTy⟩ := ints_of_own hown
        subst hv
        have Hnew := Lib.hid (show ∀ b o, a' = some ⟨b, o, none⟩ → w.heap.size ≤ b from fun b o e => by subst e; exact (own_lt hown b (by simp [Value.ownBlock])).1)
        have HI := Lib.hid hI; have HTy := Lib.hid hTy
        have Ho := Lib.hid (show o = some (acc, k) by rw [← ho]; simp)
        have Hq := Lib.hid (And.intro q1 q2)
        clear hTy hI q1 q2
        have p1 : Lib.hasPrefix (T.drop ap) [10] = true := hst
        rw [p1] at HS1
        clear hr hm hown ho hap p1 hkl hf hkk hst hacc
        go_wp2_with fail
        refine HS1.out.mono ?_
        rintro e w5 ⟨rfl, hx5⟩
        have HXz := Lib.hid hx5
        clear hx5
        go_wp2_with fail
        go_ret
        exact ⟨HMr.out.trans (Mvd.of_ext HXz.out), Or.inl ⟨acc, k, a', c', Ho.out, rfl, Hq.out.1, Hq.out.2, HI.out.ext HXz.out, HTy.out.ext HXz.out, Hnew.out, by rw [Hap.out]; exact HRr.out.ext HXz.out, by rw [Hap.out]; exact Hkl.out⟩⟩
      · rw [if_neg hst] at ho
        have HNm := Lib.hid (fun wx (hx' : Ext wr wx) => HEl.out ap wx hkl (hr.ext hx'))
        have Ho := Lib.hid ho; have Hf := Lib.hid hf; have Hkk := Lib.hid hkk
        have p1 : Lib.hasPrefix (T.drop ap) [10] = false := by
          rcases hx : Lib.hasPrefix (T.drop ap) [10] with _ | _
          · rfl
          · exact absurd hx hst
        rw [p1] at HS1
        clear hr hm hown ho hap p1 hkl hf hst
        go_wp2_with fail
        refine HS1.out.mono ?_
        rintro e w5 ⟨rfl, hx5⟩
        have HX6 := Lib.hid hx5
        clear hx5
        go_wp2_with fail
        refine (HNm.out w5 HX6.out).mono ?_
        rintro e w8 ⟨hm8, (⟨x, kx, hsx, rfl, hr8, hl8, hkx⟩ | ⟨hsx, rfl⟩)⟩
        · have ho := Ho.out
          rw [hsx] at ho
          simp only [Option.bind_some, List.drop_drop] at ho
          rw [map_map'] at ho
          have hm9 := (Mvd.of_ext (R := R) HX6.out).trans hm8
          have ho8 := own_mvd Hown.out hm9 HlR.out
          have hsz8 := (HMr.out.trans hm9).size
          have hap := Hap.out
          have hacc2 : acc.length ≤ 1000000 := by have := Hkl.out; omega
          have Ho8 := Lib.hid ho8; have HR8 := Lib.hid hr8; have HM8 := Lib.hid (HMr.out.trans hm9)
          have Hoo := Lib.hid ho; have Hl8 := Lib.hid hl8; have Hkx := Lib.hid hkx
          have Hacc := Lib.hid (show (acc ++ [x]).length ≤ k + kx by rw [List.length_append]; simp; omega)
          have Hpos := Lib.hid (show at_ + (k + kx) = ap + kx by omega)
          have hRw := HlR.out
          clear hr8 hm8 hm9 ho8 ho hl8 hkx hsx hap
          clear HS1 HNm Hown HRr HMr HX6 Ho hacc hkk
          go_wp2_with (at_builtin; refine wpList_append_own _ rfl _ _ 32 rfl w.heap.size 3 i0 (.int .i64 0) 1 8 Tryd.underlying32 hi hz0 hz1 hz2 rfl (by decide) _ (acc).length (iC (acc)) rfl (Ho8.out.alloc _) ⟨w8.heap.size, 0, none⟩ 1 1 [.int .i64 (x)] rfl rfl (new_i w8 (x) _) (one_i (x)) (by unfold maxLen; omega) (by omega) (Nat.le_trans hsz8 (ext_al w8 _).size) ?_; intro v' w7 hown' hgrow' _)
          have ho9 := Ho8.out.alloc (.cells #[.int .i64 x] 3)
          have HM9 := Lib.hid (Mvd.grown (HM8.out.trans (Mvd.of_ext (ext_al w8 (.cells #[.int .i64 x] 3)))) hgrow' (fun k hk => (own_lt ho9 k hk).1))
          have HR9 := Lib.hid (Rd.grown (HR8.out.ext (ext_al w8 (.cells #[.int .i64 x] 3))) hgrow' (fun k hk => by have := (own_lt ho9 k hk).1; omega))
          have HO9 := Lib.hid (own_snoc hown')
          clear hown' hgrow' ho9
          go_wp2_with fail
          go_roundg (T.length - (at_ + (k + kx)))
          case measure => have := Hkk.out; have := Hpos.out; have := Hl8.out; have := Hkx.out; omega
          case rel => exact ⟨acc ++ [x], k + kx, f', by rw [Hpos.out]; exact Hl8.out, rfl, by have := Hf.out; have := Hpos.out; have := Hl8.out; have := Hkx.out; omega, Hacc.out, by rw [Hpos.out]; exact Hoo.out, HO9.out, by rw [Hpos.out]; exact HR9.out, HM9.out⟩
        · have ho := Ho.out
          rw [hsx] at ho
          have Ho2 := Lib.hid (show o = none from ho.symm)
          have HMz := Lib.hid ((HMr.out.trans (Mvd.of_ext (R := R) HX6.out)).trans hm8)
          clear ho hsx hm8
          go_wp2_with fail
          exact ⟨rfl, HMz.out, Or.inr ⟨Ho2.out, rfl⟩⟩
  · have ho := Ho.out
    unfold rdList at ho
    rw [hs0] at ho
    have Ho2 := Lib.hid (show o = none from ho.symm)
    have HM := Lib.hid hm1
    clear ho hs0 hm1
    go_wp2_with fail
    exact ⟨rfl, HM.out, Or.inr ⟨Ho2.out, rfl⟩⟩

end Go.Proofs.YtfjbhiihfibbaaaDoor

/-
  The reader: an operation of any text.
-/
namespace Go.Proofs.YtfjbhiihfibbaaaDoor
open Go.RowKit

def rdOpI (L : List UInt8) (j k : Int) (ct : List Int) (q b : Int) (z : Nat) : Option (Gop × Nat) :=
  if Lib.hasPrefix (L.drop z) [32, 105, 102] = true then (rdList rdCnd stopI (L.drop (z + 3))).bind (fun x => some (⟨j, k, ct, q, b, x.1⟩, z + 3 + x.2)) else some (⟨j, k, ct, q, b, []⟩, z)
def rdOpB (L : List UInt8) (j k : Int) (ct : List Int) (q : Int) (z : Nat) : Option (Gop × Nat) :=
  if usesB j = true then (if Lib.hasPrefix (L.drop z) [32, 116, 111] = true then (rdNumI (L.drop (z + 3))).bind (fun x => rdOpI L j k ct q x.1 (z + 3 + x.2)) else none) else rdOpI L j k ct q 0 z
def rdOpC (L : List UInt8) (j k q : Int) (z : Nat) : Option (Gop × Nat) :=
  if usesC j = true ∧ Lib.hasPrefix (L.drop z) [32, 111, 110] = true then (rdList rdNumI stopC (L.drop (z + 3))).bind (fun x => rdOpB L j k x.1 q (z + 3 + x.2)) else rdOpB L j k [] q z
def rdOpQ (L : List UInt8) (j k : Int) (z : Nat) : Option (Gop × Nat) :=
  if usesQ j = true then (rdNumI (L.drop z)).bind (fun x => rdOpC L j k x.1 (z + x.2)) else rdOpC L j k 0 z
def rdOpK (L : List UInt8) (j : Int) (z : Nat) : Option (Gop × Nat) :=
  if usesK j = true then (rdNumI (L.drop z)).bind (fun x => rdOpQ L j x.1 (z + x.2)) else rdOpQ L j 0 z
/-- What the reader makes of an operation's line, and how many bytes it takes. -/
def rdOp (L : List UInt8) : Option (Gop × Nat) := (rdKind L).bind (fun x => rdOpK L (x.1 : Int) x.2)

set_option maxHeartbeats 8000000 in
set_option maxRecDepth 100000 in
theorem op_any (R : Nat) (T : List UInt8) (at_ ln : Nat) (W0 w : World) (hE : Ext W0 w) (hW0 : W0.heap.size ≤ R) (hS : Shp W0) (h : Rd w R T at_ ln) (hat : at_ ≤ T.length) (hT : T.length ≤ 1000000) :
    Calls Tryd.prog 62 #[.pointer (some ⟨R, 0, none⟩)] w fun e w' => Mvd R w w' ∧ ((∃ (g : Gop) (k : Nat) (a1 : Option Addr) (n1 c1 : Nat) (a2 : Option Addr) (n2 c2 : Nat), rdOp (T.drop at_) = some (g, k) ∧ e = .returned (.agg #[.int .i64 g.kind, .int .i64 g.k, .slice a1 n1 c1, .int .i64 g.q, .int .i64 g.bit, .slice a2 n2 c2]) ∧ OpO w' g a1 n1 c1 a2 n2 c2 ∧ Rd w' R T (at_ + k) ln ∧ at_ + k ≤ T.length) ∨ (rdOp (T.drop at_) = none ∧ e = .panicked (gup ln))) := by
  obtain ⟨o, ho⟩ : ∃ o, rdOp (T.drop at_) = o := ⟨_, rfl⟩
  rw [ho]
  have hlR := h.lt
  have E1 := ext_al w (.cells #[.int .i64 0, .int .i64 0, .slice none 0 0, .int .i64 0, .int .i64 0, .slice none 0 0] 58)
  have HK := Lib.hid (kind_any R T at_ ln W0 (w.alloc (.cells #[.int .i64 0, .int .i64 0, .slice none 0 0, .int .i64 0, .int .i64 0, .slice none 0 0] 58)) (hE.trans E1) hS (h.ext E1) hat hT)
  have HW0 := Lib.hid (hE.trans E1); have HShp := Lib.hid hS
  have hsz1 : (w.alloc (.cells #[.int .i64 0, .int .i64 0, .slice none 0 0, .int .i64 0, .int .i64 0, .slice none 0 0] 58)).heap.size = w.heap.size + 1 := by simp
  have br := opbx_new w 0 0 none 0 0 0 0 none 0 0
  have Hbr := Lib.hid br; have HE1 := Lib.hid E1
  have HoK := Lib.hid (show ∀ j k, rdKind (T.drop at_) = some (j, k) → rdOpK (T.drop at_) (j : Int) k = o from fun j k e => by unfold rdOp at ho; rw [e] at ho; exact ho)
  have HoN := Lib.hid (show rdKind (T.drop at_) = none → o = none from fun e => by unfold rdOp at ho; rw [e] at ho; exact ho.symm)
  clear h br E1 hE hS ho
  go_enter Tryd.func62, Tryd.ntmps62
  go_wp2_with fail
  generalize w.alloc (.cells #[.int .i64 0, .int .i64 0, .slice none 0 0, .int .i64 0, .int .i64 0, .slice none 0 0] 58) = W1 at *
  refine HK.out.mono ?_
  rintro e w2 ⟨hm2, (⟨kn, k0, hs2, rfl, hr2, hl2, hkn1, hkn6⟩ | ⟨hs2, rfl⟩)⟩
  rotate_left 1
  · have Ho2 := Lib.hid (HoN.out hs2); have HMz := Lib.hid ((Mvd.of_ext (R := R) HE1.out).trans hm2)
    clear hs2 hm2
    go_wp2_with fail
    exact ⟨rfl, HMz.out, Or.inr ⟨Ho2.out, rfl⟩⟩
  have Ho := Lib.hid (HoK.out kn k0 hs2); have Hl := Lib.hid hl2
  clear HoK HoN hs2 hl2
  obtain ⟨uK, huK⟩ : ∃ x, usesK (kn : Int) = x := ⟨_, rfl⟩
  obtain ⟨uQ, huQ⟩ : ∃ x, usesQ (kn : Int) = x := ⟨_, rfl⟩
  obtain ⟨uC, huC⟩ : ∃ x, usesC (kn : Int) = x := ⟨_, rfl⟩
  obtain ⟨uB, huB⟩ : ∃ x, usesB (kn : Int) = x := ⟨_, rfl⟩
  obtain ⟨wd, hwd⟩ : ∃ x, wordOf kn = x := ⟨_, rfl⟩
  have HuK := Lib.hid huK; have HuQ := Lib.hid huQ; have HuC := Lib.hid huC; have HuB := Lib.hid huB; have HwD := Lib.hid hwd
  have i0 : (0 : Int) ≤ (kn : Int) := by omega
  have i1 : (kn : Int) < 7 := by omega
  clear hwd
  have hsz2 := hm2.size
  have hExt2 : Ext W0 w2 := hm2.ext HW0.out hW0
  obtain ⟨t0, t1, t2, t3, t4⟩ := (HShp.out.ext hExt2) kn (by omega) (by omega)
  rw [huK] at t1; rw [huQ] at t2; rw [huC] at t3; rw [huB] at t4; rw [HwD.out] at t0
  have Ea := ext_al w2 (.cells #[.int .i64 (kn : Int), .int .i64 0, .slice none 0 0, .int .i64 0, .int .i64 0, .slice none 0 0] 58)
  have Eb := ext_al (w2.alloc (.cells #[.int .i64 (kn : Int), .int .i64 0, .slice none 0 0, .int .i64 0, .int .i64 0, .slice none 0 0] 58)) (.cells #[.string wd, .bool uK, .bool uQ, .bool uC, .bool uB] 99)
  have bP := opbx_new w2 (kn : Int) 0 none 0 0 0 0 none 0 0
  have y0 := bP.x0
  have t0' := cell_ext t0 Ea; have t1' := cell_ext t1 Ea; have t2' := cell_ext t2 Ea; have t3' := cell_ext t3 Ea; have t4' := cell_ext t4 Ea
  obtain ⟨P, hP⟩ : ∃ P, w2.heap.size = P := ⟨_, rfl⟩
  have hPgt : w.heap.size < P := by omega
  have S0 : OpS w ((w2.alloc (.cells #[.int .i64 (kn : Int), .int .i64 0, .slice none 0 0, .int .i64 0, .int .i64 0, .slice none 0 0] 58)).alloc (.cells #[.string wd, .bool uK, .bool uQ, .bool uC, .bool uB] 99)) R P T (at_ + k0) ln (kn : Int) 0 none 0 0 [] 0 0 none 0 0 [] uK uQ uC uB wd := by
    have hub : ((w2.alloc (.cells #[.int .i64 (kn : Int), .int .i64 0, .slice none 0 0, .int .i64 0, .int .i64 0, .slice none 0 0] 58)).alloc (.cells #[.string wd, .bool uK, .bool uQ, .bool uC, .bool uB] 99)).heap[P + 1]? = some (.cells #[.string wd, .bool uK, .bool uQ, .bool uC, .bool uB] 99 (0, 0)) := by
      have := heap_alloc_new (w2.alloc (.cells #[.int .i64 (kn : Int), .int .i64 0, .slice none 0 0, .int .i64 0, .int .i64 0, .slice none 0 0] 58)) (.cells #[.string wd, .bool uK, .bool uQ, .bool uC, .bool uB] 99)
      rw [← hP]
      simpa using this
    have hm3 : Mvd R w w2 := (Mvd.of_ext (R := R) HE1.out).trans hm2
    refine ⟨(hr2.ext Ea).ext Eb, hm3.trans (Mvd.of_ext (Ea.trans Eb)), by rw [← hP]; exact bP.ext Eb, hub, ?_, ⟨rfl, Or.inl rfl⟩, ⟨Nat.le_refl _, Nat.zero_le _⟩, fun b o e => (by cases e), fun ad e => (by cases e), ⟨rfl, Or.inl rfl⟩, ⟨Nat.le_refl _, Nat.zero_le _⟩, fun b o e => (by cases e), fun ad e => (by cases e)⟩
    have h1 := Hbr.out
    exact ⟨((Ea.trans Eb).block _ (by omega)).trans ((hm2.block _ (by omega) (by omega)).trans h1.row)⟩
  have HS0 := Lib.hid S0
  clear hr2 hm2 hExt2 t0 t1 t2 t3 t4 Ea Eb bP S0 HK Hbr HE1 HW0 HShp huK huQ huC huB HwD hkn1 hkn6
  rw [hP] at y0
  have u1' := HS0.out.u1
  go_upto_if 13 with fail
  generalize (w2.alloc (.cells #[.int .i64 (kn : Int), .int .i64 0, .slice none 0 0, .int .i64 0, .int .i64 0, .slice none 0 0] 58)).alloc (.cells #[.string wd, .bool uK, .bool uQ, .bool uC, .bool uB] 99) = W2 at *
  clear t0' t1' t2' t3' t4' y0 u1'
  go_cut [] from 5 to 43 (fun wx => ∃ (v : Int) (z : Nat), at_ + z ≤ T.length ∧ rdOpQ (T.drop at_) (kn : Int) v z = o ∧ OpS w wx R P T (at_ + z) ln (kn : Int) v none 0 0 [] 0 0 none 0 0 [] uK uQ uC uB wd)
  case first =>
    have y := HS0.out.bx.x1; have g := HS0.out.bx.fz 1
    have ho := Ho.out
    rw [rdOpK, HuK.out] at ho
    cases uK
    · have Ho1 := Lib.hid (show rdOpQ (T.drop at_) (kn : Int) 0 k0 = o by simpa using ho)
      clear ho
      go_wp2_with fail
      go_meet
      exact ⟨0, k0, Hl.out, Ho1.out, HS0.out⟩
    · rw [if_pos rfl, List.drop_drop] at ho
      have HN := Lib.hid (el_controls R T (at_ + k0) ln _ HS0.out.rd Hl.out hT)
      have HoS := Lib.hid (show ∀ x kx, rdNumI (T.drop (at_ + k0)) = some (x, kx) → rdOpQ (T.drop at_) (kn : Int) x (k0 + kx) = o from fun x kx e => by rw [e] at ho; exact ho)
      have HoN := Lib.hid (show rdNumI (T.drop (at_ + k0)) = none → o = none from fun e => by rw [e] at ho; exact ho.symm)
      clear ho
      go_wp2_with fail
      refine HN.out.mono ?_
      rintro e w3 ⟨hm3, (⟨x, kx, hs3, rfl, hr3, hl3, hk3⟩ | ⟨hs3, rfl⟩)⟩
      · have Ho2 := Lib.hid (HoS.out x kx hs3)
        have hr3' : Rd w3 R T (at_ + (k0 + kx)) ln := by rw [← Nat.add_assoc]; exact hr3
        have st := HS0.out.call hlR hPgt hr3' hm3
        have y' := st.bx.x1; have g' := st.bx.fz 1
        have HSt := Lib.hid (st.put1 hlR hPgt x)
        have Hl3 := Lib.hid (show at_ + (k0 + kx) ≤ T.length by omega)
        clear hr3 hr3' hm3 st HN hs3 hl3 hk3 HoS HoN
        go_wp2_with fail
        go_meet
        exact ⟨x, k0 + kx, Hl3.out, Ho2.out, HSt.out⟩
      · have Ho2 := Lib.hid (HoN.out hs3); have HMz := Lib.hid (HS0.out.mv.trans hm3)
        clear hs3 hm3
        go_wp2_with fail
        exact ⟨rfl, HMz.out, Or.inr ⟨Ho2.out, rfl⟩⟩
  case rest =>
  obtain ⟨k, z1, hl, ho, hcut⟩ := hcut
  have HS1 := Lib.hid hcut; have Ho1 := Lib.hid ho; have Hl1 := Lib.hid hl
  clear hcut HS0 ho hl Ho Hl
  have Ho := Ho1; have Hl := Hl1
  clear Ho1 Hl1
  have u2' := HS1.out.u2
  go_upto_if 18 with fail
  clear u2'
  go_cut [] from 5 to 43 (fun wx => ∃ (v : Int) (z : Nat), at_ + z ≤ T.length ∧ rdOpC (T.drop at_) (kn : Int) k v z = o ∧ OpS w wx R P T (at_ + z) ln (kn : Int) k none 0 0 [] v 0 none 0 0 [] uK uQ uC uB wd)
  case first =>
    have y := HS1.out.bx.x3; have g := HS1.out.bx.fz 3
    have ho := Ho.out
    rw [rdOpQ, HuQ.out] at ho
    cases uQ
    · have Ho1 := Lib.hid (show rdOpC (T.drop at_) (kn : Int) k 0 z1 = o by simpa using ho)
      clear ho
      go_wp2_with fail
      go_meet
      exact ⟨0, z1, Hl.out, Ho1.out, HS1.out⟩
    · rw [if_pos rfl, List.drop_drop] at ho
      have HN := Lib.hid (el_controls R T (at_ + z1) ln _ HS1.out.rd Hl.out hT)
      have HoS := Lib.hid (show ∀ x kx, rdNumI (T.drop (at_ + z1)) = some (x, kx) → rdOpC (T.drop at_) (kn : Int) k x (z1 + kx) = o from fun x kx e => by rw [e] at ho; exact ho)
      have HoN := Lib.hid (show rdNumI (T.drop (at_ + z1)) = none → o = none from fun e => by rw [e] at ho; exact ho.symm)
      clear ho
      go_wp2_with fail
      refine HN.out.mono ?_
      rintro e w3 ⟨hm3, (⟨x, kx, hs3, rfl, hr3, hl3, hk3⟩ | ⟨hs3, rfl⟩)⟩
      · have Ho2 := Lib.hid (HoS.out x kx hs3)
        have hr3' : Rd w3 R T (at_ + (z1 + kx)) ln := by rw [← Nat.add_assoc]; exact hr3
        have st := HS1.out.call hlR hPgt hr3' hm3
        have y' := st.bx.x3; have g' := st.bx.fz 3
        have HSt := Lib.hid (st.put3 hlR hPgt x)
        have Hl3 := Lib.hid (show at_ + (z1 + kx) ≤ T.length by omega)
        clear hr3 hr3' hm3 st HN hs3 hl3 hk3 HoS HoN
        go_wp2_with fail
        go_meet
        exact ⟨x, z1 + kx, Hl3.out, Ho2.out, HSt.out⟩
      · have Ho2 := Lib.hid (HoN.out hs3); have HMz := Lib.hid (HS1.out.mv.trans hm3)
        clear hs3 hm3
        go_wp2_with fail
        exact ⟨rfl, HMz.out, Or.inr ⟨Ho2.out, rfl⟩⟩
  case rest =>
  obtain ⟨q, z2, hl, ho, hcut⟩ := hcut
  have HS2 := Lib.hid hcut; have Ho1 := Lib.hid ho; have Hl1 := Lib.hid hl
  clear hcut HS1 ho hl Ho Hl
  have Ho := Ho1; have Hl := Hl1
  clear Ho1 Hl1
  have u3' := HS2.out.u3
  go_upto_region 7 with fail
  go_cut [27] from 5 to 43 (fun s27 wx => ∃ b : Bool, s27 = .bool b ∧ ((b = true ∧ at_ + (z2 + 3) ≤ T.length ∧ (∀ x kx, rdList rdNumI stopC (T.drop (at_ + (z2 + 3))) = some (x, kx) → rdOpB (T.drop at_) (kn : Int) k x q (z2 + 3 + kx) = o) ∧ (rdList rdNumI stopC (T.drop (at_ + (z2 + 3))) = none → o = none) ∧ OpS w wx R P T (at_ + (z2 + 3)) ln (kn : Int) k none 0 0 [] q 0 none 0 0 [] uK uQ uC uB wd) ∨ (b = false ∧ at_ + z2 ≤ T.length ∧ rdOpB (T.drop at_) (kn : Int) k [] q z2 = o ∧ OpS w wx R P T (at_ + z2) ln (kn : Int) k none 0 0 [] q 0 none 0 0 [] uK uQ uC uB wd)))
  case first =>
    have ho := Ho.out
    rw [rdOpC, HuC.out, List.drop_drop, List.drop_drop] at ho
    cases uC
    · have Ho1 := Lib.hid (show rdOpB (T.drop at_) (kn : Int) k [] q z2 = o by simpa using ho)
      clear ho
      go_wp2_with fail
      go_meet
      exact ⟨false, rfl, Or.inr ⟨rfl, Hl.out, Ho1.out, HS2.out⟩⟩
    · by_cases hp : Lib.hasPrefix (T.drop (at_ + z2)) [32, 111, 110] = true
      · rw [if_pos ⟨rfl, hp⟩] at ho
        have hlp := pre_len hp
        have HT' := Lib.hid (take_yes R T (at_ + z2) ln [32, 111, 110] _ HS2.out.rd Hl.out hT hp)
        have HoS := Lib.hid (show ∀ x kx, rdList rdNumI stopC (T.drop (at_ + (z2 + 3))) = some (x, kx) → rdOpB (T.drop at_) (kn : Int) k x q (z2 + 3 + kx) = o from fun x kx e => by rw [e] at ho; exact ho)
        have HoN := Lib.hid (show rdList rdNumI stopC (T.drop (at_ + (z2 + 3))) = none → o = none from fun e => by rw [e] at ho; exact ho.symm)
        have Hl3 := Lib.hid (show at_ + (z2 + 3) ≤ T.length by have := Hl.out; simp at hlp; omega)
        clear ho hp hlp
        go_wp2_with fail
        refine HT'.out.mono ?_
        rintro e w3 ⟨rfl, hr3, hm3⟩
        have hr3' : Rd w3 R T (at_ + (z2 + 3)) ln := hr3
        have HSt := Lib.hid (HS2.out.call hlR hPgt hr3' hm3)
        clear hr3 hr3' hm3
        go_wp2_with fail
        go_meet
        exact ⟨true, rfl, Or.inl ⟨rfl, Hl3.out, HoS.out, HoN.out, HSt.out⟩⟩
      · rw [if_neg (fun e => hp e.2)] at ho
        have hpf : Lib.hasPrefix (T.drop (at_ + z2)) [32, 111, 110] = false := by simpa using hp
        have HT' := Lib.hid (take_no R T (at_ + z2) ln [32, 111, 110] _ HS2.out.rd Hl.out hpf)
        have Ho1 := Lib.hid ho
        clear ho hp hpf
        go_wp2_with fail
        refine HT'.out.mono ?_
        rintro e w3 ⟨rfl, hx3⟩
        have HSt := Lib.hid (HS2.out.call hlR hPgt (HS2.out.rd.ext hx3) (Mvd.of_ext hx3))
        clear hx3
        go_wp2_with fail
        go_meet
        exact ⟨false, rfl, Or.inr ⟨rfl, Hl.out, Ho1.out, HSt.out⟩⟩
  case rest =>
  obtain ⟨b, rfl, hdis⟩ := hcut
  have HDis := Lib.hid hdis
  clear hdis HS2 u3' Ho Hl
  go_upto_if 27 with fail
  go_cut [] from 5 to 43 (fun wx => ∃ (a1 : Option Addr) (c1 : Nat) (ctl : List Int) (z : Nat), at_ + z ≤ T.length ∧ rdOpB (T.drop at_) (kn : Int) k ctl q z = o ∧ OpS w wx R P T (at_ + z) ln (kn : Int) k a1 ctl.length c1 ctl q 0 none 0 0 [] uK uQ uC uB wd)
  case first =>
    rcases HDis.out with ⟨rfl, hl, hoS, hoN, st0⟩ | ⟨rfl, hl, ho, st0⟩
    · have y := st0.bx.x2; have g := st0.bx.fz 2
      have HC := Lib.hid (controls_any R T (at_ + (z2 + 3)) ln _ st0.rd hl hT)
      have HoS := Lib.hid hoS; have HoN := Lib.hid hoN; have HSx := Lib.hid st0
      have Hgt := Lib.hid (Array.getElem?_eq_some_iff.1 st0.us).1
      clear hl hoS hoN st0 HDis
      go_wp2_with fail
      refine HC.out.mono ?_
      rintro e w3 ⟨hm3, (⟨l, kx, a', c', hs3, rfl, q1, q2, hI, hty, hnew, hr3, hl3⟩ | ⟨hs3, rfl⟩)⟩
      · have Ho2 := Lib.hid (HoS.out l kx hs3)
        have hr3' : Rd w3 R T (at_ + (z2 + 3 + kx)) ln := by rw [← Nat.add_assoc]; exact hr3
        have st := HSx.out.call hlR hPgt hr3' hm3
        have y' := st.bx.x2; have g' := st.bx.fz 2
        have HSt := Lib.hid (st.put2 hlR hPgt a' l.length c' l hI ⟨q1, q2⟩ (fun b o e => by have := hnew b o e; have := Hgt.out; omega) hty)
        have Hl3 := Lib.hid (show at_ + (z2 + 3 + kx) ≤ T.length by omega)
        clear hr3 hr3' hm3 st HC hI hnew hty hs3 hl3 q1 q2 HoS HoN HSx
        go_wp2_with fail
        go_meet
        exact ⟨a', c', l, z2 + 3 + kx, Hl3.out, Ho2.out, HSt.out⟩
      · have Ho2 := Lib.hid (HoN.out hs3); have HMz := Lib.hid (HSx.out.mv.trans hm3)
        clear hs3 hm3
        go_wp2_with fail
        exact ⟨rfl, HMz.out, Or.inr ⟨Ho2.out, rfl⟩⟩
    · have Hl1 := Lib.hid hl; have Ho1 := Lib.hid ho; have HSx := Lib.hid st0
      clear hl ho st0 HDis
      go_wp2_with fail
      go_meet
      exact ⟨none, 0, [], z2, Hl1.out, Ho1.out, HSx.out⟩
  case rest =>
  obtain ⟨a1, c1, ctl, z3, hl, ho, hcut⟩ := hcut
  have HS4 := Lib.hid hcut; have Ho := Lib.hid ho; have Hl := Lib.hid hl
  clear hcut ho hl HDis
  have u4' := HS4.out.u4
  go_upto_if 32 with fail
  clear u4'
  go_cut [] from 5 to 43 (fun wx => ∃ (v : Int) (z : Nat), at_ + z ≤ T.length ∧ rdOpI (T.drop at_) (kn : Int) k ctl q v z = o ∧ OpS w wx R P T (at_ + z) ln (kn : Int) k a1 ctl.length c1 ctl q v none 0 0 [] uK uQ uC uB wd)
  case first =>
    have y := HS4.out.bx.x4; have g := HS4.out.bx.fz 4
    have ho := Ho.out
    rw [rdOpB, HuB.out, List.drop_drop, List.drop_drop] at ho
    cases uB
    · have Ho1 := Lib.hid (show rdOpI (T.drop at_) (kn : Int) k ctl q 0 z3 = o by simpa using ho)
      clear ho
      go_wp2_with fail
      go_meet
      exact ⟨0, z3, Hl.out, Ho1.out, HS4.out⟩
    · rw [if_pos rfl] at ho
      by_cases hp : Lib.hasPrefix (T.drop (at_ + z3)) [32, 116, 111] = true
      · rw [if_pos hp] at ho
        have hlp := pre_len hp
        have hl3 : at_ + (z3 + 3) ≤ T.length := by have := Hl.out; simp at hlp; omega
        have HNe := Lib.hid (need_yes R T (at_ + z3) ln [32, 116, 111] _ HS4.out.rd Hl.out hT hp)
        have HoS := Lib.hid (show ∀ x kx, rdNumI (T.drop (at_ + (z3 + 3))) = some (x, kx) → rdOpI (T.drop at_) (kn : Int) k ctl q x (z3 + 3 + kx) = o from fun x kx e => by rw [e] at ho; exact ho)
        have HoN := Lib.hid (show rdNumI (T.drop (at_ + (z3 + 3))) = none → o = none from fun e => by rw [e] at ho; exact ho.symm)
        have HEl := Lib.hid (fun wx (hx : Rd wx R T (at_ + (z3 + 3)) ln) => el_controls R T (at_ + (z3 + 3)) ln wx hx hl3 hT)
        clear ho hp hlp hl3
        go_wp2_with fail
        refine HNe.out.mono ?_
        rintro e w3 ⟨rfl, hr3, hm3⟩
        have hr3' : Rd w3 R T (at_ + (z3 + 3)) ln := hr3
        have HN := Lib.hid (HEl.out w3 hr3')
        have HSt0 := Lib.hid (HS4.out.call hlR hPgt hr3' hm3)
        clear hr3 hr3' hm3 HNe HEl
        go_wp2_with fail
        refine HN.out.mono ?_
        rintro e w4 ⟨hm3, (⟨x, kx, hs3, rfl, hr4, hl4, hk4⟩ | ⟨hs3, rfl⟩)⟩
        · have Ho2 := Lib.hid (HoS.out x kx hs3)
          have hr4' : Rd w4 R T (at_ + (z3 + 3 + kx)) ln := by rw [← Nat.add_assoc]; exact hr4
          have st := HSt0.out.call hlR hPgt hr4' hm3
          have y' := st.bx.x4; have g' := st.bx.fz 4
          have HSt := Lib.hid (st.put4 hlR hPgt x)
          have Hl3 := Lib.hid (show at_ + (z3 + 3 + kx) ≤ T.length by omega)
          clear hr4 hr4' hm3 st HN hs3 hl4 hk4 HoS HoN
          go_wp2_with fail
          go_meet
          exact ⟨x, z3 + 3 + kx, Hl3.out, Ho2.out, HSt.out⟩
        · have Ho2 := Lib.hid (HoN.out hs3); have HMz := Lib.hid (HSt0.out.mv.trans hm3)
          clear hs3 hm3
          go_wp2_with fail
          exact ⟨rfl, HMz.out, Or.inr ⟨Ho2.out, rfl⟩⟩
      · rw [if_neg hp] at ho
        have hpf : Lib.hasPrefix (T.drop (at_ + z3)) [32, 116, 111] = false := by simpa using hp
        have HNe := Lib.hid (need_no R T (at_ + z3) ln [32, 116, 111] _ HS4.out.rd Hl.out hpf)
        have Ho2 := Lib.hid (show o = none from ho.symm)
        clear ho hp hpf
        go_wp2_with fail
        refine HNe.out.mono ?_
        rintro e w3 ⟨rfl, hx3⟩
        have HMz := Lib.hid (HS4.out.mv.trans (Mvd.of_ext (R := R) hx3))
        clear hx3
        go_wp2_with fail
        exact ⟨rfl, HMz.out, Or.inr ⟨Ho2.out, rfl⟩⟩
  case rest =>
  obtain ⟨bt, z4, hl, ho, hcut⟩ := hcut
  have HS5 := Lib.hid hcut; have Ho1 := Lib.hid ho; have Hl1 := Lib.hid hl
  clear hcut HS4 ho hl Ho Hl
  have Ho := Ho1; have Hl := Hl1
  clear Ho1 Hl1
  go_upto_region 12 with fail
  go_cut [39] from 5 to 43 (fun s39 wx => ∃ b : Bool, s39 = .bool b ∧ ((b = true ∧ at_ + (z4 + 3) ≤ T.length ∧ (∀ x kx, rdList rdCnd stopI (T.drop (at_ + (z4 + 3))) = some (x, kx) → o = some (⟨(kn : Int), k, ctl, q, bt, x⟩, (z4 + 3 + kx))) ∧ (rdList rdCnd stopI (T.drop (at_ + (z4 + 3))) = none → o = none) ∧ OpS w wx R P T (at_ + (z4 + 3)) ln (kn : Int) k a1 ctl.length c1 ctl q bt none 0 0 [] uK uQ uC uB wd) ∨ (b = false ∧ at_ + z4 ≤ T.length ∧ o = some (⟨(kn : Int), k, ctl, q, bt, []⟩, z4) ∧ OpS w wx R P T (at_ + z4) ln (kn : Int) k a1 ctl.length c1 ctl q bt none 0 0 [] uK uQ uC uB wd)))
  case first =>
    have ho := Ho.out
    rw [rdOpI, List.drop_drop, List.drop_drop] at ho
    by_cases hp : Lib.hasPrefix (T.drop (at_ + z4)) [32, 105, 102] = true
    · rw [if_pos hp] at ho
      have hlp := pre_len hp
      have HT' := Lib.hid (take_yes R T (at_ + z4) ln [32, 105, 102] _ HS5.out.rd Hl.out hT hp)
      have HoS := Lib.hid (show ∀ x kx, rdList rdCnd stopI (T.drop (at_ + (z4 + 3))) = some (x, kx) → o = some (⟨(kn : Int), k, ctl, q, bt, x⟩, (z4 + 3 + kx)) from fun x kx e => by rw [e] at ho; exact ho.symm)
      have HoN := Lib.hid (show rdList rdCnd stopI (T.drop (at_ + (z4 + 3))) = none → o = none from fun e => by rw [e] at ho; exact ho.symm)
      have Hl3 := Lib.hid (show at_ + (z4 + 3) ≤ T.length by have := Hl.out; simp at hlp; omega)
      clear ho hp hlp
      go_wp2_with fail
      refine HT'.out.mono ?_
      rintro e w3 ⟨rfl, hr3, hm3⟩
      have hr3' : Rd w3 R T (at_ + (z4 + 3)) ln := hr3
      have HSt := Lib.hid (HS5.out.call hlR hPgt hr3' hm3)
      clear hr3 hr3' hm3
      go_wp2_with fail
      go_meet
      exact ⟨true, rfl, Or.inl ⟨rfl, Hl3.out, HoS.out, HoN.out, HSt.out⟩⟩
    · rw [if_neg hp] at ho
      have hpf : Lib.hasPrefix (T.drop (at_ + z4)) [32, 105, 102] = false := by simpa using hp
      have HT' := Lib.hid (take_no R T (at_ + z4) ln [32, 105, 102] _ HS5.out.rd Hl.out hpf)
      have Ho1 := Lib.hid ho.symm
      clear ho hp hpf
      go_wp2_with fail
      refine HT'.out.mono ?_
      rintro e w3 ⟨rfl, hx3⟩
      have HSt := Lib.hid (HS5.out.call hlR hPgt (HS5.out.rd.ext hx3) (Mvd.of_ext hx3))
      clear hx3
      go_wp2_with fail
      go_meet
      exact ⟨false, rfl, Or.inr ⟨rfl, Hl.out, Ho1.out, HSt.out⟩⟩
  case rest =>
  obtain ⟨b, rfl, hdis⟩ := hcut
  have HDis := Lib.hid hdis
  clear hdis HS5 Ho Hl
  go_upto_if 39 with fail
  go_cut [] from 5 to 43 (fun wx => ∃ (a2 : Option Addr) (c2 : Nat) (cnd : List Int) (z : Nat), at_ + z ≤ T.length ∧ o = some (⟨(kn : Int), k, ctl, q, bt, cnd⟩, z) ∧ OpS w wx R P T (at_ + z) ln (kn : Int) k a1 ctl.length c1 ctl q bt a2 cnd.length c2 cnd uK uQ uC uB wd)
  case first =>
    rcases HDis.out with ⟨rfl, hl, hoS, hoN, st0⟩ | ⟨rfl, hl, ho, st0⟩
    · have y := st0.bx.x5; have g := st0.bx.fz 5
      have HC := Lib.hid (conditions_any R T (at_ + (z4 + 3)) ln _ st0.rd hl hT)
      have HoS := Lib.hid hoS; have HoN := Lib.hid hoN; have HSx := Lib.hid st0
      have Hgt := Lib.hid (Array.getElem?_eq_some_iff.1 st0.us).1
      clear hl hoS hoN st0 HDis
      go_wp2_with fail
      refine HC.out.mono ?_
      rintro e w3 ⟨hm3, (⟨l, kx, a', c', hs3, rfl, q1, q2, hI, hty, hnew, hr3, hl3⟩ | ⟨hs3, rfl⟩)⟩
      · have Ho2 := Lib.hid (HoS.out l kx hs3)
        have hr3' : Rd w3 R T (at_ + (z4 + 3 + kx)) ln := by rw [← Nat.add_assoc]; exact hr3
        have st := HSx.out.call hlR hPgt hr3' hm3
        have y' := st.bx.x5; have g' := st.bx.fz 5
        have HSt := Lib.hid (st.put5 hlR hPgt a' l.length c' l hI ⟨q1, q2⟩ (fun b o e => by have := hnew b o e; have := Hgt.out; omega) hty)
        have Hl3 := Lib.hid (show at_ + (z4 + 3 + kx) ≤ T.length by omega)
        clear hr3 hr3' hm3 st HC hI hnew hty hs3 hl3 q1 q2 HoS HoN HSx
        go_wp2_with fail
        go_meet
        exact ⟨a', c', l, z4 + 3 + kx, Hl3.out, Ho2.out, HSt.out⟩
      · have Ho2 := Lib.hid (HoN.out hs3); have HMz := Lib.hid (HSx.out.mv.trans hm3)
        clear hs3 hm3
        go_wp2_with fail
        exact ⟨rfl, HMz.out, Or.inr ⟨Ho2.out, rfl⟩⟩
    · have Hl1 := Lib.hid hl; have Ho1 := Lib.hid ho; have HSx := Lib.hid st0
      clear hl ho st0 HDis
      go_wp2_with fail
      go_meet
      exact ⟨none, 0, [], z4, Hl1.out, Ho1.out, HSx.out⟩
  case rest =>
  obtain ⟨a2, c2, cnd, zz5, hl, ho, st⟩ := hcut
  obtain ⟨p7, hp7⟩ : ∃ x, at_ + zz5 = x := ⟨_, rfl⟩
  rw [hp7] at st hl
  have Ho := Lib.hid ho; have Hl := Lib.hid hl; have Hp7 := Lib.hid hp7
  clear ho hl HDis hp7
  have y0 := st.bx.x0; have y1 := st.bx.x1; have y2 := st.bx.x2; have y3 := st.bx.x3; have y4 := st.bx.x4; have y5 := st.bx.x5
  have z0 := st.rs.x0; have z1 := st.rs.x1; have z2 := st.rs.x2; have z3 := st.rs.x3; have z4 := st.rs.x4; have z5 := st.rs.x5
  have g0 := st.rs.fz 0; have g1 := st.rs.fz 1; have g2 := st.rs.fz 2; have g3 := st.rs.fz 3; have g4 := st.rs.fz 4; have g5 := st.rs.fz 5
  have rw' := putO_row st.rs.row (.int .i64 (kn : Int)) (.int .i64 k) (.slice a1 ctl.length c1) (.int .i64 q) (.int .i64 bt) (.slice a2 cnd.length c2)
  have HF1 := Lib.hid (show Rd (putO wc w.heap.size (.int .i64 (kn : Int)) (.int .i64 k) (.slice a1 ctl.length c1) (.int .i64 q) (.int .i64 bt) (.slice a2 cnd.length c2)) R T p7 ln from ⟨putO_far st.rd.row (by omega) _ _ _ _ _ _⟩)
  have HF2 := Lib.hid (putO_mvd st.mv (Nat.le_refl _) (.int .i64 (kn : Int)) (.int .i64 k) (.slice a1 ctl.length c1) (.int .i64 q) (.int .i64 bt) (.slice a2 cnd.length c2))
  have HF3 := Lib.hid (putO_ints st.i1 (g := w.heap.size) (fun b o e => by have := st.w1 b o e; omega) (.int .i64 (kn : Int)) (.int .i64 k) (.slice a1 ctl.length c1) (.int .i64 q) (.int .i64 bt) (.slice a2 cnd.length c2))
  have HF4 := Lib.hid (putO_ints st.i2 (g := w.heap.size) (fun b o e => by have := st.w2 b o e; omega) (.int .i64 (kn : Int)) (.int .i64 k) (.slice a1 ctl.length c1) (.int .i64 q) (.int .i64 bt) (.slice a2 cnd.length c2))
  have HT1 := Lib.hid (show TyI (putO wc w.heap.size (.int .i64 (kn : Int)) (.int .i64 k) (.slice a1 ctl.length c1) (.int .i64 q) (.int .i64 bt) (.slice a2 cnd.length c2)) a1 from putO_ty st.t1 st.rs.row (by decide) _ _ _ _ _ _)
  have HT2 := Lib.hid (show TyI (putO wc w.heap.size (.int .i64 (kn : Int)) (.int .i64 k) (.slice a1 ctl.length c1) (.int .i64 q) (.int .i64 bt) (.slice a2 cnd.length c2)) a2 from putO_ty st.t2 st.rs.row (by decide) _ _ _ _ _ _)
  obtain ⟨Wz, hWz⟩ : ∃ Wz, putO wc w.heap.size (.int .i64 (kn : Int)) (.int .i64 k) (.slice a1 ctl.length c1) (.int .i64 q) (.int .i64 bt) (.slice a2 cnd.length c2) = Wz := ⟨_, rfl⟩
  rw [hWz] at rw' HF1 HF2 HF3 HF4 HT1 HT2
  unfold putO at hWz
  have HWz := Lib.hid hWz
  have Hm1 := Lib.hid st.m1; have Hm2 := Lib.hid st.m2; 
  have ne1 : P ≠ w.heap.size := by omega
  clear st hWz
  go_wp2_with fail
  rw [HWz.out]
  have r0 : Wz.cell? ⟨w.heap.size, 0, none⟩ = some (.int .i64 (kn : Int)) := by rw [cell_of_row Wz _ 0 _ _ (0, 0) rw']; rfl
  have r1 : Wz.cell? ⟨w.heap.size, 1, none⟩ = some (.int .i64 k) := by rw [cell_of_row Wz _ 1 _ _ (0, 0) rw']; rfl
  have r2 : Wz.cell? ⟨w.heap.size, 2, none⟩ = some (.slice a1 ctl.length c1) := by rw [cell_of_row Wz _ 2 _ _ (0, 0) rw']; rfl
  have r3 : Wz.cell? ⟨w.heap.size, 3, none⟩ = some (.int .i64 q) := by rw [cell_of_row Wz _ 3 _ _ (0, 0) rw']; rfl
  have r4 : Wz.cell? ⟨w.heap.size, 4, none⟩ = some (.int .i64 bt) := by rw [cell_of_row Wz _ 4 _ _ (0, 0) rw']; rfl
  have r5 : Wz.cell? ⟨w.heap.size, 5, none⟩ = some (.slice a2 cnd.length c2) := by rw [cell_of_row Wz _ 5 _ _ (0, 0) rw']; rfl
  refine bodyPost_ret (v := .agg #[.int .i64 (kn : Int), .int .i64 k, .slice a1 ctl.length c1, .int .i64 q, .int .i64 bt, .slice a2 cnd.length c2]) (by simp [results, Tryd.results62, go_sem, r0, r1, r2, r3, r4, r5]) rfl ⟨HF2.out, Or.inl ⟨⟨(kn : Int), k, ctl, q, bt, cnd⟩, zz5, a1, _, c1, a2, _, c2, Ho.out, rfl, ⟨⟨HF3.out, Hm1.out.1, Hm1.out.2, HF4.out, Hm2.out.1, Hm2.out.2⟩, HT1.out, HT2.out⟩, by rw [Hp7.out]; exact HF1.out, by rw [Hp7.out]; exact Hl.out⟩⟩

end Go.Proofs.YtfjbhiihfibbaaaDoor
