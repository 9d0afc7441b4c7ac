/-
  The reader: lists of numbers and of conditions.
-/
import Derived.Test.YtpabafioofhklaaDoorMDg
import Derived.Test.YtpabafioofhklaaDoorMCk
import Derived.Test.YtpabafioofhklaaDoorMBy

namespace Go.Proofs.YtpabafioofhklaaDoor
open Go.RowKit

theorem own_mvd {w w' : World} {base n R : Nat} {v : Value} {xs : List Value} (h : w.ownsRow base 3 1 v n xs) (k : Mvd R w w') (hR : R < base) : w'.ownsRow base 3 1 v n xs := by
  refine ⟨h.1, ?_⟩
  rcases h.2 with h0 | ⟨g, cap, cur, e1, e2, e3, r⟩
  · exact Or.inl h0
  · exact Or.inr ⟨g, cap, cur, e1, e2, (k.block g (Array.getElem?_eq_some_iff.1 e3).1 (by omega)).trans e3, r⟩
theorem own_one (w : World) (x : Int) : (w.alloc (.cells #[.int .i64 x] 3)).ownsRow w.heap.size 3 1 (.slice (some ⟨w.heap.size, 0, none⟩) 1 1) 1 (iC [x]) :=
  ⟨rfl, Or.inr ⟨w.heap.size, 1, #[.int .i64 x], rfl, Nat.le_refl _, heap_alloc_new w _, by omega, by unfold maxLen; omega, rfl, rfl⟩⟩
theorem Mvd.grown {R : Nat} {w a b : World} {row : Option Nat} (h : Mvd R w a) (hg : a.grownBy b row) (hr : ∀ k, row = some k → w.heap.size ≤ k) : Mvd R w b := by
  refine ⟨hg.os.trans h.os, hg.tape.trans h.tape, hg.output.trans h.output, Nat.le_trans h.size hg.size, fun k hk hne => ?_⟩
  rw [hg.block k (Nat.lt_of_lt_of_le hk h.size) (fun e => by have := hr k e.symm; omega)]
  exact h.block k hk hne
theorem Rd.grown {a b : World} {R at_ ln : Nat} {T : List UInt8} {row : Option Nat} (h : Rd a R T at_ ln) (hg : a.grownBy b row) (hr : ∀ k, row = some k → R < k) : Rd b R T at_ ln := by
  refine ⟨?_⟩
  rw [hg.block R h.lt (fun e => by have := hr R e.symm; omega)]
  exact h.row
theorem take_flat (f : Int → List UInt8) (l : List Int) (j : Nat) : l.flatMap f = (l.take j).flatMap f ++ (l.drop j).flatMap f := by
  rw [← List.flatMap_append, List.take_append_drop]
theorem drop_cons' {l : List Int} {j : Nat} (h : j < l.length) : l.drop j = l.getD j 0 :: l.drop (j + 1) := by
  rw [List.drop_eq_getElem_cons h, List.getD_eq_getElem?_getD, List.getElem?_eq_getElem h]; rfl
/-- What follows a list on a line. -/
def Stops (tl : List UInt8) : Prop := (∃ r, tl = 10 :: r) ∨ ∃ r, tl = 32 :: 105 :: 102 :: r
theorem Stops.head {tl : List UInt8} (h : Stops tl) : ∃ c r, tl = c :: r ∧ c.toNat < 48 := by
  rcases h with ⟨r, rfl⟩ | ⟨r, rfl⟩
  · exact ⟨_, _, rfl, by decide⟩
  · exact ⟨_, _, rfl, by decide⟩
theorem pre_cons {c : UInt8} {l q : List UInt8} : Lib.hasPrefix (c :: l) (c :: q) = Lib.hasPrefix l q := by
  show ((c == c) && _) = _
  simp [Lib.hasPrefix]

theorem numL_head (x : Int) : ∃ r, numL x = 32 :: r := ⟨_, rfl⟩
theorem cndL_head (x : Int) : ∃ r, cndL x = 32 :: r := by
  unfold cndL
  split
  · exact ⟨_, rfl⟩
  · exact ⟨_, rfl⟩

set_option maxHeartbeats 4000000 in
set_option maxRecDepth 100000 in
theorem controls_yes (R : Nat) (T : List UInt8) (at_ ln : Nat) (w : World) (h : Rd w R T at_ ln) (hT : T.length ≤ 1000000) (l : List Int) (hl0 : 0 < l.length) (hl : ∀ c ∈ l, 0 ≤ c ∧ c < 100) (hlen : l.length ≤ 24) (tl : List UInt8) (hd : T.drop at_ = l.flatMap numL ++ tl) (hs : Stops tl) :
    Calls Tryd.prog 70 #[.pointer (some ⟨R, 0, none⟩)] w fun e w' => (∃ (a' : Option Addr) (c' : Nat), e = .returned (.slice a' l.length c') ∧ l.length ≤ c' ∧ c' ≤ maxLen ∧ IntsAt w' a' l.length l ∧ TyI w' a' ∧ ∀ b o, a' = some ⟨b, o, none⟩ → w.heap.size ≤ b) ∧ Rd w' R T (at_ + (l.flatMap numL).length) ln ∧ Mvd R w w' := by
  obtain ⟨i0, hi, hz0, hz1, hz2⟩ := info_parts i_info
  have hst : Stops tl := hs
  have hlR := h.lt
  have hrest : ∀ j, j ≤ l.length → T.drop (at_ + ((l.take j).flatMap numL).length) = (l.drop j).flatMap numL ++ tl := fun j _ => by
    have : T.drop at_ = (l.take j).flatMap numL ++ ((l.drop j).flatMap numL ++ tl) := by rw [hd, take_flat numL l j, List.append_assoc]
    exact drop_step this
  have hone : ∀ j, j < l.length → ∃ (c : UInt8) (r : List UInt8), T.drop (at_ + ((l.take j).flatMap numL).length) = numL (l.getD j 0) ++ c :: r ∧ c.toNat < 48 := fun j hj => by
    rw [hrest j (Nat.le_of_lt hj), drop_cons' hj, List.flatMap_cons, List.append_assoc]
    by_cases h2 : j + 1 < l.length
    · rw [drop_cons' h2, List.flatMap_cons]
      obtain ⟨r', hr'⟩ := numL_head (l.getD (j + 1) 0)
      exact ⟨32, _, by rw [hr']; rfl, by decide⟩
    · rw [List.drop_eq_nil_of_le (by omega)]
      obtain ⟨c, r, e, hc⟩ := hst.head
      exact ⟨c, r, by rw [e]; rfl, hc⟩
  have hin : ∀ j, j ≤ l.length → at_ + ((l.take j).flatMap numL).length ≤ T.length := fun j hj => by
    obtain ⟨c, r, e, _⟩ := hst.head
    have h1 := hrest j hj
    rw [e] at h1
    have := drop_le' (p := (l.drop j).flatMap numL ++ [c]) (r := r) (by rw [h1]; simp) (by simp)
    omega
  have hnx : ∀ j, j < l.length → (l.take (j + 1)).flatMap numL = (l.take j).flatMap numL ++ numL (l.getD j 0) := fun j hj => flat_snoc numL l j hj
  have Hrest := Lib.hid hrest; have Hone := Lib.hid hone; have Hin := Lib.hid hin; have Hnx := Lib.hid hnx; have Hfit := Lib.hid hl; have Hst := Lib.hid hs
  have HR := Lib.hid h
  obtain ⟨c0, r0, e0, hc0⟩ := hone 0 hl0
  have hat0 : at_ + ((l.take 0).flatMap numL).length = at_ := by simp
  rw [hat0] at e0
  have hm0 := hl _ (getD_mem' hl0)
  obtain ⟨x0, hx0⟩ : ∃ x, l.getD 0 0 = x := ⟨_, rfl⟩
  rw [hx0] at e0 hm0
  have HN0 := Lib.hid (number_yes R T at_ ln w h hT x0 hm0.1 hm0.2 c0 r0 e0 hc0)
  have h1t : l.take 1 = [x0] := by
    rw [take_succ' l 0 hl0, hx0]; rfl
  have H1t := Lib.hid h1t
  clear h hd hs hst hrest hone hin hnx hl e0 hx0 hat0 h1t hc0
  go_enter Tryd.func70, Tryd.ntmps70
  go_wp2_with fail
  refine HN0.out.mono ?_
  rintro e w1 ⟨rfl, hr1, hm1⟩
  have ho1 := own_one w1 x0
  have E1 := ext_al w1 (.cells #[.int .i64 x0] 3)
  have hsz1 := hm1.size
  have Ho1 := Lib.hid (show (w1.alloc (.cells #[.int .i64 x0] 3)).ownsRow w.heap.size 3 1 (.slice (some ⟨w1.heap.size, 0, none⟩) 1 1) 1 (iC [x0]) from ⟨ho1.1, by
    rcases ho1.2 with h0 | ⟨g, cap, cur, q1, q2, q3⟩
    · exact Or.inl h0
    · exact Or.inr ⟨g, cap, cur, q1, Nat.le_trans hsz1 q2, q3⟩⟩)
  have HR1 := Lib.hid (hr1.ext E1); have HM1 := Lib.hid (hm1.trans (Mvd.of_ext (R := R) E1))
  have hs2 := HM1.out.size
  clear hr1 hm1 ho1 E1 HN0 HR
  go_wp2_with fail
  go_loopg [3] (l.length - 1) (fun kk s3 wx => ∃ j : Nat, 1 ≤ j ∧ j ≤ l.length ∧ l.length - j = kk ∧ wx.ownsRow w.heap.size 3 1 s3 (l.take j).length (iC (l.take j)) ∧ Rd wx R T (at_ + ((l.take j).flatMap numL).length) ln ∧ Mvd R w wx)
  case atStart => exact ⟨1, by omega, by omega, rfl, by rw [H1t.out]; exact Ho1.out, by rw [H1t.out]; simpa using HR1.out, HM1.out⟩
  case round =>
    clear Ho1 HR1 HM1 hs2 hsz1
    obtain ⟨j, hj1, hj2, hk, hown, hr, hm⟩ := hrel
    have hll : (l.take j).length = j := by rw [List.length_take]; omega
    have hsz := hm.size
    obtain ⟨ap, hap⟩ : ∃ x, at_ + ((l.take j).flatMap numL).length = x := ⟨_, rfl⟩
    have hrest := Hrest.out j hj2
    have hinj := Hin.out j hj2
    rw [hap] at hr hrest hinj
    have HS1 := Lib.hid (sees_any R T ap ln [10] wr hr hinj)
    have HS2 := Lib.hid (fun wx (hx : Ext wr wx) => sees_any R T ap ln [32, 105, 102] wx (hr.ext hx) hinj)
    have Hown := Lib.hid hown; have HRr := Lib.hid hr; have HMr := Lib.hid hm; have Hap := Lib.hid hap
    by_cases hjn : j = l.length
    · have hdn : l.drop j = [] := List.drop_eq_nil_of_le (by omega)
      rw [hdn] at hrest
      have htk : l.take j = l := List.take_of_length_le (by omega)
      rw [htk] at hown
      have hto : (l.take j).flatMap numL = l.flatMap numL := by rw [htk]
      obtain ⟨a', c', hv, q1, q2, hI, hTy⟩ := ints_of_own hown
      subst hv
      have Hnew := Lib.hid (show ∀ b o, a' = some ⟨b, o, none⟩ → w.heap.size ≤ b from fun b o e => by subst e; exact (own_lt hown b (by simp [Value.ownBlock])).1)
      have HI := Lib.hid hI; have Hto := Lib.hid hto; have HTy := Lib.hid hTy
      clear hTy
      rw [htk] at Hown
      rcases Hst.out with ⟨r, htl⟩ | ⟨r, htl⟩
      · have p1 : Lib.hasPrefix (T.drop ap) [10] = true := by rw [hrest, htl]; simp [Lib.hasPrefix]
        rw [p1] at HS1
        clear hr hm hown hrest hI hll hto htk hdn htl p1 hap
        go_wp2_with fail
        refine HS1.out.mono ?_
        rintro e w5 ⟨rfl, hx5⟩
        have HXz := Lib.hid hx5
        clear hx5
        go_wp2_with fail
        go_ret
        exact ⟨⟨a', c', rfl, q1, q2, HI.out.ext HXz.out, HTy.out.ext HXz.out, Hnew.out⟩, by rw [← Hto.out, Hap.out]; exact HRr.out.ext HXz.out, HMr.out.trans (Mvd.of_ext HXz.out)⟩
      · have p1 : Lib.hasPrefix (T.drop ap) [10] = false := by rw [hrest, htl]; rfl
        have p2 : Lib.hasPrefix (T.drop ap) [32, 105, 102] = true := by rw [hrest, htl]; simp [Lib.hasPrefix]
        rw [p1] at HS1
        rw [p2] at HS2
        clear hr hm hown hrest hI hll hto htk hdn htl p1 p2 hap
        go_wp2_with fail
        refine HS1.out.mono ?_
        rintro e w5 ⟨rfl, hx5⟩
        have HX5 := Lib.hid hx5
        clear hx5
        go_wp2_with fail
        refine (HS2.out w5 HX5.out).mono ?_
        rintro e w6 ⟨rfl, hx6⟩
        have HXz := Lib.hid (HX5.out.trans hx6)
        clear hx6
        go_wp2_with fail
        go_ret
        exact ⟨⟨a', c', rfl, q1, q2, HI.out.ext HXz.out, HTy.out.ext HXz.out, Hnew.out⟩, by rw [← Hto.out, Hap.out]; exact HRr.out.ext HXz.out, HMr.out.trans (Mvd.of_ext HXz.out)⟩
    · have hjl : j < l.length := by omega
      obtain ⟨c, r, e, hc⟩ := Hone.out j hjl
      rw [hap] at e
      have hm' := Hfit.out _ (getD_mem' hjl)
      have hnx := Hnx.out j hjl
      have htk1 := take_succ' l j hjl
      obtain ⟨x, hx⟩ : ∃ x, l.getD j 0 = x := ⟨_, rfl⟩
      rw [hx] at e hm' hnx htk1
      obtain ⟨rr, hrr⟩ := numL_head x
      have p1 : Lib.hasPrefix (T.drop ap) [10] = false := by rw [e, hrr]; rfl
      rw [p1] at HS1
      have p2 : Lib.hasPrefix (T.drop ap) [32, 105, 102] = false := by
        obtain ⟨d, r2, hd2, h48, h57⟩ := dd_head (i := x.toNat) (by omega)
        rw [e]
        show Lib.hasPrefix (32 :: (Lib.decDigits x.toNat ++ c :: r)) (32 :: [105, 102]) = false
        rw [pre_cons, hd2]
        exact pre_not rfl (fun e => by rw [e] at h57; exact absurd h57 (by decide)) _
      rw [p2] at HS2
      have HNm := Lib.hid (fun wx (hx' : Ext wr wx) => number_yes R T ap ln wx (hr.ext hx') hT x hm'.1 hm'.2 c r e hc)
      have Hnx' := Lib.hid hnx; have Htk := Lib.hid htk1
      clear hr hm hown hrest e hnx htk1 hx hrr p1 p2 hap hm'
      go_wp2_with fail
      refine HS1.out.mono ?_
      rintro e w5 ⟨rfl, hx5⟩
      have HX5 := Lib.hid hx5
      clear hx5
      go_wp2_with fail
      refine (HS2.out w5 HX5.out).mono ?_
      rintro e w6 ⟨rfl, hx6⟩
      have HX6 := Lib.hid (HX5.out.trans hx6)
      clear hx6
      go_wp2_with fail
      refine (HNm.out w6 HX6.out).mono ?_
      rintro e w8 ⟨rfl, hr8, hm8⟩
      have hm9 := (Mvd.of_ext (R := R) HX6.out).trans hm8
      have ho8 := own_mvd Hown.out hm9 hlR
      have hsz8 := (HMr.out.trans hm9).size
      have Ho8 := Lib.hid ho8; have HR8 := Lib.hid hr8; have HM8 := Lib.hid (HMr.out.trans hm9)
      clear hr8 hm8 hm9 ho8
      obtain ⟨L, hL⟩ : ∃ L, l.take j = L := ⟨_, rfl⟩
      rw [hL] at Ho8 Htk hll
      clear HS1 HS2 HNm Hown HRr HMr HX5 HX6
      go_wp2_with (at_builtin; refine wpList_append_own _ rfl _ _ 43 rfl w.heap.size 3 i0 (.int .i64 0) 1 8 Tryd.underlying43 hi hz0 hz1 hz2 rfl (by decide) _ (L).length (iC (L)) rfl (Ho8.out.alloc _) ⟨w8.heap.size, 0, none⟩ 1 1 [.int .i64 (x)] rfl rfl (new_i w8 (x) _) (one_i (x)) (by unfold maxLen; omega) (by omega) (Nat.le_trans hsz8 (ext_al w8 _).size) ?_; intro v' w7 hown' hgrow' _)
      have ho9 := Ho8.out.alloc (.cells #[.int .i64 x] 3)
      have HM9 := Lib.hid (Mvd.grown (HM8.out.trans (Mvd.of_ext (ext_al w8 (.cells #[.int .i64 x] 3)))) hgrow' (fun k hk => (own_lt ho9 k hk).1))
      have HR9 := Lib.hid (Rd.grown (HR8.out.ext (ext_al w8 (.cells #[.int .i64 x] 3))) hgrow' (fun k hk => by have := (own_lt ho9 k hk).1; omega))
      have HO9 := Lib.hid (own_snoc hown')
      clear hown' hgrow' ho9
      go_wp2_with fail
      go_roundg (l.length - (j + 1))
      case measure => omega
      case rel => exact ⟨j + 1, by omega, by omega, rfl, by rw [Htk.out]; exact HO9.out, by rw [Hnx'.out, List.length_append, ← Nat.add_assoc, Hap.out]; exact HR9.out, HM9.out⟩

set_option maxHeartbeats 4000000 in
set_option maxRecDepth 100000 in
theorem conditions_yes (R : Nat) (T : List UInt8) (at_ ln : Nat) (w : World) (h : Rd w R T at_ ln) (hT : T.length ≤ 1000000) (l : List Int) (hl0 : 0 < l.length) (hl : ∀ t ∈ l, t ≠ 0 ∧ -12 ≤ t ∧ t ≤ 12) (hlen : l.length ≤ 24) (tl : List UInt8) (hd : T.drop at_ = l.flatMap cndL ++ tl) (hs : ∃ r, tl = 10 :: r) :
    Calls Tryd.prog 71 #[.pointer (some ⟨R, 0, none⟩)] w fun e w' => (∃ (a' : Option Addr) (c' : Nat), e = .returned (.slice a' l.length c') ∧ l.length ≤ c' ∧ c' ≤ maxLen ∧ IntsAt w' a' l.length l ∧ TyI w' a' ∧ ∀ b o, a' = some ⟨b, o, none⟩ → w.heap.size ≤ b) ∧ Rd w' R T (at_ + (l.flatMap cndL).length) ln ∧ Mvd R w w' := by
  obtain ⟨i0, hi, hz0, hz1, hz2⟩ := info_parts i_info
  have hst : Stops tl := Or.inl hs
  have hlR := h.lt
  have hrest : ∀ j, j ≤ l.length → T.drop (at_ + ((l.take j).flatMap cndL).length) = (l.drop j).flatMap cndL ++ tl := fun j _ => by
    have : T.drop at_ = (l.take j).flatMap cndL ++ ((l.drop j).flatMap cndL ++ tl) := by rw [hd, take_flat cndL l j, List.append_assoc]
    exact drop_step this
  have hone : ∀ j, j < l.length → ∃ (c : UInt8) (r : List UInt8), T.drop (at_ + ((l.take j).flatMap cndL).length) = cndL (l.getD j 0) ++ c :: r ∧ c.toNat < 48 := fun j hj => by
    rw [hrest j (Nat.le_of_lt hj), drop_cons' hj, List.flatMap_cons, List.append_assoc]
    by_cases h2 : j + 1 < l.length
    · rw [drop_cons' h2, List.flatMap_cons]
      obtain ⟨r', hr'⟩ := cndL_head (l.getD (j + 1) 0)
      exact ⟨32, _, by rw [hr']; rfl, by decide⟩
    · rw [List.drop_eq_nil_of_le (by omega)]
      obtain ⟨c, r, e, hc⟩ := hst.head
      exact ⟨c, r, by rw [e]; rfl, hc⟩
  have hin : ∀ j, j ≤ l.length → at_ + ((l.take j).flatMap cndL).length ≤ T.length := fun j hj => by
    obtain ⟨c, r, e, _⟩ := hst.head
    have h1 := hrest j hj
    rw [e] at h1
    have := drop_le' (p := (l.drop j).flatMap cndL ++ [c]) (r := r) (by rw [h1]; simp) (by simp)
    omega
  have hnx : ∀ j, j < l.length → (l.take (j + 1)).flatMap cndL = (l.take j).flatMap cndL ++ cndL (l.getD j 0) := fun j hj => flat_snoc cndL l j hj
  have Hrest := Lib.hid hrest; have Hone := Lib.hid hone; have Hin := Lib.hid hin; have Hnx := Lib.hid hnx; have Hfit := Lib.hid hl; have Hst := Lib.hid hs
  have HR := Lib.hid h
  obtain ⟨c0, r0, e0, hc0⟩ := hone 0 hl0
  have hat0 : at_ + ((l.take 0).flatMap cndL).length = at_ := by simp
  rw [hat0] at e0
  have hm0 := hl _ (getD_mem' hl0)
  obtain ⟨x0, hx0⟩ : ∃ x, l.getD 0 0 = x := ⟨_, rfl⟩
  rw [hx0] at e0 hm0
  have HN0 := Lib.hid (condition_yes R T at_ ln w h hT x0 hm0.1 hm0.2 c0 r0 e0 hc0)
  have h1t : l.take 1 = [x0] := by
    rw [take_succ' l 0 hl0, hx0]; rfl
  have H1t := Lib.hid h1t
  clear h hd hs hst hrest hone hin hnx hl e0 hx0 hat0 h1t hc0
  go_enter Tryd.func71, Tryd.ntmps71
  go_wp2_with fail
  refine HN0.out.mono ?_
  rintro e w1 ⟨rfl, hr1, hm1⟩
  have ho1 := own_one w1 x0
  have E1 := ext_al w1 (.cells #[.int .i64 x0] 3)
  have hsz1 := hm1.size
  have Ho1 := Lib.hid (show (w1.alloc (.cells #[.int .i64 x0] 3)).ownsRow w.heap.size 3 1 (.slice (some ⟨w1.heap.size, 0, none⟩) 1 1) 1 (iC [x0]) from ⟨ho1.1, by
    rcases ho1.2 with h0 | ⟨g, cap, cur, q1, q2, q3⟩
    · exact Or.inl h0
    · exact Or.inr ⟨g, cap, cur, q1, Nat.le_trans hsz1 q2, q3⟩⟩)
  have HR1 := Lib.hid (hr1.ext E1); have HM1 := Lib.hid (hm1.trans (Mvd.of_ext (R := R) E1))
  have hs2 := HM1.out.size
  clear hr1 hm1 ho1 E1 HN0 HR
  go_wp2_with fail
  go_loopg [3] (l.length - 1) (fun kk s3 wx => ∃ j : Nat, 1 ≤ j ∧ j ≤ l.length ∧ l.length - j = kk ∧ wx.ownsRow w.heap.size 3 1 s3 (l.take j).length (iC (l.take j)) ∧ Rd wx R T (at_ + ((l.take j).flatMap cndL).length) ln ∧ Mvd R w wx)
  case atStart => exact ⟨1, by omega, by omega, rfl, by rw [H1t.out]; exact Ho1.out, by rw [H1t.out]; simpa using HR1.out, HM1.out⟩
  case round =>
    clear Ho1 HR1 HM1 hs2 hsz1
    obtain ⟨j, hj1, hj2, hk, hown, hr, hm⟩ := hrel
    have hll : (l.take j).length = j := by rw [List.length_take]; omega
    have hsz := hm.size
    obtain ⟨ap, hap⟩ : ∃ x, at_ + ((l.take j).flatMap cndL).length = x := ⟨_, rfl⟩
    have hrest := Hrest.out j hj2
    have hinj := Hin.out j hj2
    rw [hap] at hr hrest hinj
    have HS1 := Lib.hid (sees_any R T ap ln [10] wr hr hinj)
    have Hown := Lib.hid hown; have HRr := Lib.hid hr; have HMr := Lib.hid hm; have Hap := Lib.hid hap
    by_cases hjn : j = l.length
    · have hdn : l.drop j = [] := List.drop_eq_nil_of_le (by omega)
      rw [hdn] at hrest
      have htk : l.take j = l := List.take_of_length_le (by omega)
      rw [htk] at hown
      have hto : (l.take j).flatMap cndL = l.flatMap cndL := by rw [htk]
      obtain ⟨a', c', hv, q1, q2, hI, hTy⟩ := ints_of_own hown
      subst hv
      have Hnew := Lib.hid (show ∀ b o, a' = some ⟨b, o, none⟩ → w.heap.size ≤ b from fun b o e => by subst e; exact (own_lt hown b (by simp [Value.ownBlock])).1)
      have HI := Lib.hid hI; have Hto := Lib.hid hto; have HTy := Lib.hid hTy
      clear hTy
      rw [htk] at Hown
      obtain ⟨r, htl⟩ := Hst.out
      have p1 : Lib.hasPrefix (T.drop ap) [10] = true := by rw [hrest, htl]; simp [Lib.hasPrefix]
      rw [p1] at HS1
      clear hr hm hown hrest hI hll hto htk hdn htl p1 hap
      go_wp2_with fail
      refine HS1.out.mono ?_
      rintro e w5 ⟨rfl, hx5⟩
      have HXz := Lib.hid hx5
      clear hx5
      go_wp2_with fail
      go_ret
      exact ⟨⟨a', c', rfl, q1, q2, HI.out.ext HXz.out, HTy.out.ext HXz.out, Hnew.out⟩, by rw [← Hto.out, Hap.out]; exact HRr.out.ext HXz.out, HMr.out.trans (Mvd.of_ext HXz.out)⟩
    · have hjl : j < l.length := by omega
      obtain ⟨c, r, e, hc⟩ := Hone.out j hjl
      rw [hap] at e
      have hm' := Hfit.out _ (getD_mem' hjl)
      have hnx := Hnx.out j hjl
      have htk1 := take_succ' l j hjl
      obtain ⟨x, hx⟩ : ∃ x, l.getD j 0 = x := ⟨_, rfl⟩
      rw [hx] at e hm' hnx htk1
      obtain ⟨rr, hrr⟩ := cndL_head x
      have p1 : Lib.hasPrefix (T.drop ap) [10] = false := by rw [e, hrr]; rfl
      rw [p1] at HS1
      have HNm := Lib.hid (fun wx (hx' : Ext wr wx) => condition_yes R T ap ln wx (hr.ext hx') hT x hm'.1 hm'.2 c r e hc)
      have Hnx' := Lib.hid hnx; have Htk := Lib.hid htk1
      clear hr hm hown hrest e hnx htk1 hx hrr p1 hap hm'
      go_wp2_with fail
      refine HS1.out.mono ?_
      rintro e w5 ⟨rfl, hx5⟩
      have HX5 := Lib.hid hx5
      clear hx5
      go_wp2_with fail
      have HX6 := HX5
      refine (HNm.out w5 HX6.out).mono ?_
      rintro e w8 ⟨rfl, hr8, hm8⟩
      have hm9 := (Mvd.of_ext (R := R) HX6.out).trans hm8
      have ho8 := own_mvd Hown.out hm9 hlR
      have hsz8 := (HMr.out.trans hm9).size
      have Ho8 := Lib.hid ho8; have HR8 := Lib.hid hr8; have HM8 := Lib.hid (HMr.out.trans hm9)
      clear hr8 hm8 hm9 ho8
      obtain ⟨L, hL⟩ : ∃ L, l.take j = L := ⟨_, rfl⟩
      rw [hL] at Ho8 Htk hll
      clear HS1 HNm Hown HRr HMr HX5 HX6
      go_wp2_with (at_builtin; refine wpList_append_own _ rfl _ _ 43 rfl w.heap.size 3 i0 (.int .i64 0) 1 8 Tryd.underlying43 hi hz0 hz1 hz2 rfl (by decide) _ (L).length (iC (L)) rfl (Ho8.out.alloc _) ⟨w8.heap.size, 0, none⟩ 1 1 [.int .i64 (x)] rfl rfl (new_i w8 (x) _) (one_i (x)) (by unfold maxLen; omega) (by omega) (Nat.le_trans hsz8 (ext_al w8 _).size) ?_; intro v' w7 hown' hgrow' _)
      have ho9 := Ho8.out.alloc (.cells #[.int .i64 x] 3)
      have HM9 := Lib.hid (Mvd.grown (HM8.out.trans (Mvd.of_ext (ext_al w8 (.cells #[.int .i64 x] 3)))) hgrow' (fun k hk => (own_lt ho9 k hk).1))
      have HR9 := Lib.hid (Rd.grown (HR8.out.ext (ext_al w8 (.cells #[.int .i64 x] 3))) hgrow' (fun k hk => by have := (own_lt ho9 k hk).1; omega))
      have HO9 := Lib.hid (own_snoc hown')
      clear hown' hgrow' ho9
      go_wp2_with fail
      go_roundg (l.length - (j + 1))
      case measure => omega
      case rel => exact ⟨j + 1, by omega, by omega, rfl, by rw [Htk.out]; exact HO9.out, by rw [Hnx'.out, List.length_append, ← Nat.add_assoc, Hap.out]; exact HR9.out, HM9.out⟩

end Go.Proofs.YtpabafioofhklaaDoor
