/-
  The reference's numbers: a block of ints that is written; the digits of a product.
-/
import Derived.Test.YtdiojbgbeeojkaaGreatDoorMZE
import Derived.Test.YtdiojbgbeeojkaaGreatDoorMAdd

namespace Go.Proofs.YtdiojbgbeeojkaaGreatDoor
open Go.RowKit

/-- Block b is a block of ints, L, that may be written. -/
def IRow (w : World) (b : Nat) (L : List Nat) : Prop :=
  ∃ e : { t : TypeId // t = 3 }, w.heap[b]? = some (.cells (L.map fun x => Value.int .i64 (x : Nat)).toArray e.1 (0, 0))

theorem IRow.lt {w : World} {b : Nat} {L : List Nat} (h : IRow w b L) : b < w.heap.size := by
  obtain ⟨e, h⟩ := h
  exact (Array.getElem?_eq_some_iff.1 h).1
theorem IRow.cell {w : World} {b : Nat} {L : List Nat} (h : IRow w b L) (j : Nat) (hj : j < L.length) : w.cell? ⟨b, j, none⟩ = some (.int .i64 (L.getD j 0 : Nat)) := by
  obtain ⟨e, h⟩ := h
  rw [cell_of_row w b j _ _ (0, 0) h]
  simp [hj, List.getD_eq_getElem?_getD]
theorem IRow.frozen {w : World} {b : Nat} {L : List Nat} (h : IRow w b L) (j : Nat) : w.frozen? ⟨b, j, none⟩ = false := by
  obtain ⟨e, h⟩ := h
  exact frozen_of_row w b j _ _ h
theorem IRow.set {w : World} {b : Nat} {L : List Nat} (h : IRow w b L) (j x : Nat) : IRow (w.setCell ⟨b, j, none⟩ (.int .i64 (x : Nat))) b (L.set j x) := by
  obtain ⟨e, h⟩ := h
  refine ⟨e, ?_⟩
  rw [heap_setCell_same w b j _ _ _ h]
  congr 2
  apply Array.toList_inj.1
  simp [List.map_set]
theorem IRow.ext {w w' : World} {b : Nat} {L : List Nat} (h : IRow w b L) (k : Ext w w') : IRow w' b L := by
  have hb := h.lt
  obtain ⟨e, h⟩ := h
  exact ⟨e, (k.block b hb).trans h⟩
theorem IRow.seg {w : World} {b : Nat} {L : List Nat} (h : IRow w b L) : ISeg w (some ⟨b, 0, none⟩) L :=
  Or.inr ⟨b, 0, rfl, by obtain ⟨⟨e, rfl⟩, hh⟩ := h; exact ⟨_, _, hh⟩, fun t ht => by rw [Nat.zero_add]; exact h.cell t ht⟩

theorem irow_of_made {w w' : World} {base n : Nat} (h : w'.ownsRow base 3 1 (.slice (some ⟨w.heap.size, 0, none⟩) n n) n (madeCells (Value.int .i64 0).cells (n * 1)).toList) :
    IRow w' w.heap.size (List.replicate n 0) := by
  obtain ⟨_, h | ⟨g, cap, cur, hv, _, hh, _, _, hsz, ht⟩⟩ := h
  · simp at h
  · simp only [Value.slice.injEq, Option.some.injEq, Addr.mk.injEq, and_true, true_and] at hv
    obtain ⟨hg, rfl⟩ := hv
    subst hg
    refine ⟨⟨3, rfl⟩, ?_⟩
    rw [hh]
    congr 2
    apply Array.toList_inj.1
    have e1 : cur.toList.take (n * 1) = cur.toList := List.take_of_length_le (by rw [Array.length_toList, hsz]; exact Nat.le_refl _)
    have e2 : (Value.int .i64 0).cells = #[Value.int .i64 0] := rfl
    rw [e1, e2, Nat.mul_one, toList_madeCells_one] at ht
    rw [ht]
    simp

/-- 'make([]int, n)'. -/
theorem wpList_make_irow (w : World) {ops : Array Oper} {rest : List Oper} {o : Oper} {a : Act} {Q : Exit → Act → World → Prop}
    (hg : o.guard = none) (l c : Operand) (hop : o.op = Op.makeSlice 31 l c) (kl kc : IntKind) (L C : Int) (n : Nat) (hl : a.eval l = .int kl L) (hc : a.eval c = .int kc C) (hL : L = (n : Int)) (hC : C = (n : Int)) (b2 : n ≤ 1099511627776)
    (hK : ∀ w', IRow w' w.heap.size (List.replicate n 0) → Ext w w' → w.heap.size < w'.heap.size → wpList Tryz.prog ops Q rest (a.put o.dst (.slice (some ⟨w.heap.size, 0, none⟩) n n)) w') :
    wpList Tryz.prog ops Q (o :: rest) a w := by
  obtain ⟨i0, hi, hz0, hz1, hz2⟩ := info_parts int_info
  refine wpList_make_full w hg l c 31 hop w.heap.size 3 i0 (.int .i64 0) 1 Tryz.underlying31 hi hz0 hz1 kl kc L C n hl hc hL hC (by rw [hz2]; omega) (by unfold maxLen; omega) (Nat.le_refl _) ?_
  intro w' hown hgrow
  have hr := irow_of_made hown
  exact hK w' hr ((Below.refl _ _).grown hgrow (Nat.le_refl _) (fun k h => by cases h)) hr.lt

theorem ZD.replicate (n : Nat) : ZD (List.replicate n 0) := fun x hx => by rw [List.eq_of_mem_replicate hx]; decide
theorem ZD.set {l : List Nat} (h : ZD l) (k x : Nat) (hx : x < 10000) : ZD (l.set k x) := fun y hy => by
  rcases List.mem_or_eq_of_mem_set hy with h1 | h1
  · exact h y h1
  · rw [h1]; exact hx
theorem zval_replicate (n : Nat) : zval (List.replicate n 0) = 0 := by
  induction n with
  | zero => rfl
  | succ n ih => rw [List.replicate_succ, zval, ih]

theorem zval_set (l : List Nat) : ∀ (k x : Nat), k < l.length → zval (l.set k x) + 10000 ^ k * l.getD k 0 = zval l + 10000 ^ k * x := by
  induction l with
  | nil => intro k x h; simp at h
  | cons y r ih =>
    intro k x h
    cases k with
    | zero => simp [zval]; omega
    | succ k =>
      have h1 := ih k x (by simpa using h)
      simp only [List.set_cons_succ, zval, List.getD_cons_succ]
      rw [Nat.pow_succ]
      have e1 : 10000 ^ k * 10000 * r.getD k 0 = 10000 * (10000 ^ k * r.getD k 0) := by rw [Nat.mul_comm (10000 ^ k) 10000, Nat.mul_assoc]
      have e2 : 10000 ^ k * 10000 * x = 10000 * (10000 ^ k * x) := by rw [Nat.mul_comm (10000 ^ k) 10000, Nat.mul_assoc]
      rw [e1, e2]
      omega

/-- One digit more of a product's row: t is what comes to its place. -/
theorem zmul_put {M : List Nat} {k c y p t d c' : Nat} (hk : k < M.length) (hy : M.getD k 0 = y) (ht : t = c + y + p) (hd : t % 10000 = d) (hc : t / 10000 = c') :
    zval (M.set k d) + 10000 ^ (k + 1) * c' = zval M + 10000 ^ k * (c + p) := by
  have h1 := zval_set M k d hk
  rw [hy] at h1
  have h2 : 10000 ^ k * t = 10000 ^ k * d + 10000 ^ (k + 1) * c' := by
    rw [Nat.pow_succ, Nat.mul_assoc, ← Nat.mul_add]
    congr 1
    omega
  rw [ht, Nat.mul_add, Nat.mul_add] at h2
  rw [Nat.mul_add]
  omega

/-- A row of the product, digit by digit. -/
theorem zmul_step {M lb : List Nat} {i j c y x b t d c' V : Nat} (hk : i + j < M.length) (hy : M.getD (i + j) 0 = y) (hb : zval (lb.take (j + 1)) = zval (lb.take j) + 10000 ^ j * b) (ht : t = c + y + x * b) (hd : t % 10000 = d) (hc : t / 10000 = c')
    (h : zval M + 10000 ^ (i + j) * c = V + 10000 ^ i * (x * zval (lb.take j))) :
    zval (M.set (i + j) d) + 10000 ^ (i + (j + 1)) * c' = V + 10000 ^ i * (x * zval (lb.take (j + 1))) := by
  have h1 := zmul_put hk hy ht hd hc
  rw [hb]
  have e1 : 10000 ^ i * (x * (zval (lb.take j) + 10000 ^ j * b)) = 10000 ^ i * (x * zval (lb.take j)) + 10000 ^ (i + j) * (x * b) := by
    rw [Nat.mul_add, Nat.mul_add, Nat.pow_add]
    congr 1
    rw [Nat.mul_assoc]
    congr 1
    rw [Nat.mul_left_comm]
  rw [e1, show i + (j + 1) = i + j + 1 by omega, h1, Nat.mul_add]
  omega

/-- Where something is still carried, the place is one of the row's. -/
theorem zmul_room {M la lb : List Nat} {i j c x : Nat} (hi : i < la.length) (ha : ZD la) (hb : ZD lb) (hx : la.getD i 0 = x) (hc : 0 < c)
    (h : zval M + 10000 ^ (i + j) * c = zval (la.take i) * zval lb + 10000 ^ i * (x * zval (lb.take j))) (hj : lb.length ≤ j) : j = lb.length := by
  rw [List.take_of_length_le hj] at h
  have h1 := zval_lt (ha.take (i + 1))
  have hl : (la.take (i + 1)).length = i + 1 := by rw [List.length_take]; omega
  rw [hl] at h1
  have h2 := zval_lt hb
  have e : zval (la.take (i + 1)) * zval lb = zval (la.take i) * zval lb + 10000 ^ i * (x * zval lb) := by
    rw [zval_take_in hi, hx, Nat.add_mul, Nat.mul_assoc]
  rw [← e] at h
  have h3 : zval (la.take (i + 1)) * zval lb < 10000 ^ (i + 1) * 10000 ^ lb.length := by
    have hp : 0 < 10000 ^ lb.length := Nat.pow_pos (by decide)
    have q1 : zval (la.take (i + 1)) * zval lb ≤ zval (la.take (i + 1)) * 10000 ^ lb.length := Nat.mul_le_mul_left _ (by omega)
    have q2 : zval (la.take (i + 1)) * 10000 ^ lb.length < 10000 ^ (i + 1) * 10000 ^ lb.length := Nat.mul_lt_mul_of_pos_right h1 hp
    omega
  rw [← Nat.pow_add] at h3
  have h4 : 10000 ^ (i + j) ≤ 10000 ^ (i + j) * c := Nat.le_mul_of_pos_right _ hc
  have h5 : 10000 ^ (i + j) < 10000 ^ (i + 1 + lb.length) := by omega
  have h6 := (Nat.pow_lt_pow_iff_right (a := 10000) (by decide)).1 h5
  omega

theorem zmul_row {M la lb : List Nat} {i j x : Nat} (hi : i < la.length) (hx : la.getD i 0 = x) (hj : lb.length ≤ j)
    (h : zval M + 10000 ^ (i + j) * 0 = zval (la.take i) * zval lb + 10000 ^ i * (x * zval (lb.take j))) : zval M = zval (la.take (i + 1)) * zval lb := by
  rw [List.take_of_length_le hj, Nat.mul_zero, Nat.add_zero] at h
  rw [h, zval_take_in hi, hx, Nat.add_mul, Nat.mul_assoc]

theorem zmul_carry {c y x b : Nat} (hc : c ≤ 9999) (hy : y < 10000) (hx : x < 10000) (hb : b < 10000) : (c + y + x * b) / 10000 ≤ 9999 ∧ x * b ≤ 99980001 := by
  have : x * b ≤ 9999 * 9999 := Nat.mul_le_mul (by omega) (by omega)
  omega

end Go.Proofs.YtdiojbgbeeojkaaGreatDoor

/-
  The reference's numbers: ZMul.
-/
namespace Go.Proofs.YtdiojbgbeeojkaaGreatDoor
open Go.RowKit

set_option maxHeartbeats 2000000 in
set_option maxRecDepth 100000 in
theorem ZMul_any (b1 b2 : Bool) (a1 a2 : Option Addr) (n1 c1 n2 c2 : Nat) (z1 z2 : Int) (w : World) (h1 : IsZ w b1 a1 n1 c1 z1) (h2 : IsZ w b2 a2 n2 c2 z2) (hn1 : n1 ≤ 400000) (hn2 : n2 ≤ 400000) :
    Calls Tryz.prog 47 #[.agg #[.bool b1, .slice a1 n1 c1], .agg #[.bool b2, .slice a2 n2 c2]] w (ZRet w (z1 * z2) (n1 + n2 + 1)) := by
  obtain ⟨la, p1, p2, p3, p4, p5, p6, p7, p8⟩ := h1
  obtain ⟨lb, q1, q2, q3, q4, q5, q6, q7, q8⟩ := h2
  have hE := ((ext_alloc w (.cells #[.bool b1, .slice a1 n1 c1] 33)).trans (ext_alloc _ (.cells #[.bool b2, .slice a2 n2 c2] 33))).trans (ext_alloc _ (.cells #[.bool false, .slice none 0 0] 33))
  have bA := ((zbx_new w b1 a1 n1 c1).ext (ext_alloc _ (.cells #[.bool b2, .slice a2 n2 c2] 33))).ext (ext_alloc _ (.cells #[.bool false, .slice none 0 0] 33))
  have bB := (zbx_new (w.alloc (.cells #[.bool b1, .slice a1 n1 c1] 33)) b2 a2 n2 c2).ext (ext_alloc _ (.cells #[.bool false, .slice none 0 0] 33))
  have hR := zres_new ((w.alloc (.cells #[.bool b1, .slice a1 n1 c1] 33)).alloc (.cells #[.bool b2, .slice a2 n2 c2] 33))
  rw [show (w.alloc (.cells #[.bool b1, .slice a1 n1 c1] 33)).heap.size = w.heap.size + 1 from by simp] at bB
  rw [show ((w.alloc (.cells #[.bool b1, .slice a1 n1 c1] 33)).alloc (.cells #[.bool b2, .slice a2 n2 c2] 33)).heap.size = w.heap.size + 1 + 1 from by simp] at hR
  have HV : Hid (∀ M : List Nat, zval M = zval la * zval lb → z1 * z2 = if (!(b1 == b2)) = true then -(zval M : Int) else (zval M : Int)) := by
    intro M hM
    rw [p7, q7, hM]
    cases b1 <;> cases b2 <;> simp [Int.neg_mul, Int.mul_neg]
  have hA : n1 = 0 ∨ ∃ b o, a1 = some ⟨b, o, none⟩ := by
    by_cases h0 : n1 = 0
    · exact Or.inl h0
    · exact Or.inr (p4.some_of (by omega))
  have hB : n2 = 0 ∨ ∃ b o, a2 = some ⟨b, o, none⟩ := by
    by_cases h0 : n2 = 0
    · exact Or.inl h0
    · exact Or.inr (q4.some_of (by omega))
  have P1 := Lib.hid p1; have P4 := Lib.hid p4; have P5 := Lib.hid p5
  have Q1 := Lib.hid q1; have Q4 := Lib.hid q4; have Q5 := Lib.hid q5
  have x0 := bA.c0; have x1 := bA.c1; have y0 := bB.c0; have y1 := bB.c1
  obtain ⟨bb, ebb⟩ : ∃ bb, (!(b1 == b2)) = bb := ⟨_, rfl⟩
  rw [ebb] at HV
  clear p1 p2 p3 p4 p5 p6 p7 p8 q1 q2 q3 q4 q5 q6 q7 q8
  go_enter Tryz.func47, Tryz.ntmps47
  go_wp2_with (at_make; refine wpList_make_irow _ rfl _ _ rfl _ _ _ _ (n1 + n2 + 1) rfl rfl (by omega) (by omega) (by omega) ?_; intro w1 hr1 he1 hz1)
  have hWB : (((w.alloc (.cells #[.bool b1, .slice a1 n1 c1] 33)).alloc (.cells #[.bool b2, .slice a2 n2 c2] 33)).alloc (.cells #[.bool false, .slice none 0 0] 33)).heap.size = w.heap.size + 1 + 1 + 1 := by simp
  generalize ((w.alloc (.cells #[.bool b1, .slice a1 n1 c1] 33)).alloc (.cells #[.bool b2, .slice a2 n2 c2] 33)).alloc (.cells #[.bool false, .slice none 0 0] 33) = WB at *
  rw [hWB] at hr1
  have HWB := Lib.hid hWB
  clear hWB
  have lB : w.heap.size + 1 + 1 < WB.heap.size := hR.lt
  go_loopw [6] (fun iv wr => ∃ (i : Nat) (L : List Nat), iv = .int .i64 i ∧ i ≤ n1 ∧ L.length = n1 + n2 + 1 ∧ ZD L ∧ IRow wr (w.heap.size + 1 + 1 + 1) L ∧ zval L = zval (la.take i) * zval lb ∧ Ext WB wr) (fun iv _ => n1 - (intOf iv).toNat)
  case atStart => exact ⟨0, List.replicate (n1 + n2 + 1) 0, rfl, Nat.zero_le _, by simp, ZD.replicate _, hr1, by rw [zval_replicate]; simp [zval], he1⟩
  case round =>
    clear hr1 he1 hz1
    obtain ⟨i, L, rfl, hi, hL, hd, hr, hval, hEr⟩ := hrel
    have HL := Lib.hid hL; have Hd := Lib.hid hd; have Hr := Lib.hid hr; have Hval := Lib.hid hval; have HEr := Lib.hid hEr
    have d0 := zKeep hEr bA.lt x0; have d1 := zKeep hEr bA.lt x1; have d2 := zKeep hEr bB.lt y0; have d3 := zKeep hEr bB.lt y1
    clear hL hd hr hval hEr
    by_cases hlt : i < n1
    · have ii : (i : Int) < (n1 : Int) := by omega
      rcases hA with h0 | ⟨b, o, rfl⟩
      · omega
      obtain ⟨x, hx⟩ : ∃ x, la.getD i 0 = x := ⟨_, rfl⟩
      have hx4 : x < 10000 := by rw [← hx]; exact P5.out.get i
      have Hx := Lib.hid hx
      clear hx
      go_wp2_with fail
      go_loopw [7, 8] (fun cv jv wx => ∃ (j c : Nat) (M : List Nat), jv = .int .i64 j ∧ cv = .int .i64 c ∧ c ≤ 9999 ∧ j ≤ n2 + 1 ∧ M.length = n1 + n2 + 1 ∧ ZD M ∧ IRow wx (w.heap.size + 1 + 1 + 1) M ∧ zval M + 10000 ^ (i + j) * c = zval (la.take i) * zval lb + 10000 ^ i * (x * zval (lb.take j)) ∧ Ext WB wx) (fun _ jv _ => n2 + 1 - (intOf jv).toNat)
      case atStart => exact ⟨0, 0, L, rfl, rfl, by omega, by omega, HL.out, Hd.out, Hr.out, by rw [Hval.out]; simp [zval], HEr.out⟩
      case round =>
        clear d0 d1 d2 d3 Hr Hval HEr HL Hd
        obtain ⟨j, c, M, rfl, rfl, hc9, hjm, hM, hdM, hrM, hinv, hEx⟩ := hrel
        have HM := Lib.hid hM; have HdM := Lib.hid hdM; have HrM := Lib.hid hrM; have Hinv := Lib.hid hinv
        have d0 := zKeep hEx bA.lt x0; have d1 := zKeep hEx bA.lt x1; have d2 := zKeep hEx bB.lt y0; have d3 := zKeep hEx bB.lt y1
        have HEx := Lib.hid hEx
        clear hM hdM hrM hinv hEx
        by_cases hgo : j < n2 ∨ 0 < c
        · have hj2 : j ≤ n2 := by
            by_cases h : j < n2
            · omega
            · have h3 : 0 < c := by omega
              have := zmul_room (by rw [P1.out]; exact hlt) P5.out Q5.out Hx.out h3 Hinv.out (by rw [Q1.out]; omega)
              rw [Q1.out] at this
              omega
          have hcM := HrM.out.cell (i + j) (by rw [HM.out]; omega)
          have hfz := HrM.out.frozen (i + j)
          obtain ⟨y, hy⟩ : ∃ y, M.getD (i + j) 0 = y := ⟨_, rfl⟩
          have hy4 : y < 10000 := by rw [← hy]; exact HdM.out.get _
          rw [hy] at hcM
          have Hy := Lib.hid hy
          have ij : (i : Int) + (j : Int) < (n1 : Int) + (n2 : Int) + 1 := by omega
          clear hy
          by_cases hjn : j < n2
          · rcases hB with h0 | ⟨b', o', rfl⟩
            · omega
            have ij2 : (j : Int) < (n2 : Int) := by omega
            have hcx := (P4.out.ext (hE.trans HEx.out)).at i (by rw [P1.out]; exact hlt)
            have hcy := (Q4.out.ext (hE.trans HEx.out)).at j (by rw [Q1.out]; exact hjn)
            rw [Hx.out] at hcx
            obtain ⟨d, hdd⟩ : ∃ d, lb.getD j 0 = d := ⟨_, rfl⟩
            have hd4 : d < 10000 := by rw [← hdd]; exact Q5.out.get j
            rw [hdd] at hcy
            have Hb := Lib.hid (zval_take_in (l := lb) (k := j) (by rw [Q1.out]; exact hjn))
            rw [hdd] at Hb
            obtain ⟨hca, hpb⟩ := zmul_carry hc9 hy4 hx4 hd4
            obtain ⟨p, hp⟩ : ∃ p, x * d = p := ⟨_, rfl⟩
            obtain ⟨dg, hdg⟩ : ∃ dg, (c + y + x * d) % 10000 = dg := ⟨_, rfl⟩
            obtain ⟨c', hc'⟩ : ∃ c', (c + y + x * d) / 10000 = c' := ⟨_, rfl⟩
            have Hstep := Lib.hid (zmul_step (t := c + y + x * d) (by rw [HM.out]; omega) Hy.out Hb.out rfl hdg hc' Hinv.out)
            rw [hp] at hdg hc' hca hpb
            rw [hc'] at hca
            have ip : (x : Int) * (d : Int) = (p : Int) := by rw [← hp]; exact (Int.natCast_mul x d).symm
            have hdl : dg < 10000 := by omega
            have rr : ((c : Int) + (y : Int) + (p : Int)).tmod 10000 = (dg : Int) := by rw [Int.tmod_eq_emod_of_nonneg (by omega)]; omega
            have qq : ((c : Int) + (y : Int) + (p : Int)).tdiv 10000 = (c' : Int) := by rw [Int.tdiv_eq_ediv_of_nonneg (by omega)]; omega
            clear hdg hc' hp hdd hgo
            go_wp2_with fail
            go_quiet (fail)
            go_wp2_with fail
            go_roundw
            case rel => exact ⟨j + 1, c', M.set (i + j) dg, by go_num, rfl, hca, by omega, by rw [List.length_set]; exact HM.out, HdM.out.set _ _ hdl, (HrM.out.ext (ext_drewN (Ext.refl _) _)).set _ _, Hstep.out, Below.setCell (ext_drewN HEx.out _) (by rw [HWB.out]; exact Nat.le_refl _) _⟩
            case measure => simp [intOf]; omega
          · have ij2 : ¬ (j : Int) < (n2 : Int) := by omega
            have ic : (0 : Int) < (c : Int) := by omega
            obtain rfl : j = n2 := by omega
            obtain ⟨dg, hdg⟩ : ∃ dg, (c + y + x * 0) % 10000 = dg := ⟨_, rfl⟩
            obtain ⟨c', hc'⟩ : ∃ c', (c + y + x * 0) / 10000 = c' := ⟨_, rfl⟩
            have Hstep := Lib.hid (zmul_step (t := c + y + x * 0) (by rw [HM.out]; omega) Hy.out (zval_take_out (l := lb) (k := j) (by rw [Q1.out]; omega)) rfl hdg hc' Hinv.out)
            rw [Nat.mul_zero, Nat.add_zero] at hdg hc'
            have hdl : dg < 10000 := by omega
            have hca : c' ≤ 9999 := by omega
            have rr : ((c : Int) + (y : Int)).tmod 10000 = (dg : Int) := by rw [Int.tmod_eq_emod_of_nonneg (by omega)]; omega
            have qq : ((c : Int) + (y : Int)).tdiv 10000 = (c' : Int) := by rw [Int.tdiv_eq_ediv_of_nonneg (by omega)]; omega
            clear hdg hc' hgo
            go_wp2_with fail
            go_roundw
            case rel => exact ⟨j + 1, c', M.set (i + j) dg, by go_num, rfl, hca, by omega, by rw [List.length_set]; exact HM.out, HdM.out.set _ _ hdl, HrM.out.set _ _, Hstep.out, Below.setCell HEx.out (by rw [HWB.out]; exact Nat.le_refl _) _⟩
            case measure => simp [intOf]
        · obtain rfl : c = 0 := by omega
          have ij2 : ¬ (j : Int) < (n2 : Int) := by omega
          have Hrow := Lib.hid (zmul_row (by rw [P1.out]; exact hlt) Hx.out (by rw [Q1.out]; omega) Hinv.out)
          clear hgo
          go_wp2_with fail
          go_roundw
          case rel => exact ⟨i + 1, M, by go_num, by omega, HM.out, HdM.out, HrM.out, Hrow.out, HEx.out⟩
          case measure => simp [intOf]; omega
    · obtain rfl : i = n1 := by omega
      have ii : ¬ (i : Int) < (i : Int) := by omega
      have Hm := Lib.hid (zmade_any bb (some ⟨w.heap.size + 1 + 1 + 1, 0, none⟩) L (i + n2 + 1) (i + n2 + 1) wr HL.out Hr.out.seg Hd.out (Nat.le_refl _) (by unfold maxLen; omega) (by omega) (z1 * z2) (HV.out L (by rw [Hval.out, List.take_of_length_le (by rw [P1.out]; exact Nat.le_refl _)])))
      clear hlt
      go_wp2_with fail
      refine Hm.out.mono ?_
      rintro e w9 ⟨b', a', n', c', rfl, hI, hle, hx9⟩
      have hR9 := hR.ext (HEr.out.trans hx9)
      have k0 := hR9.c0; have k1 := hR9.c1; have f0 := hR9.f 0; have f1 := hR9.f 1
      go_wp2_with fail
      exact bodyPost_ret (v := .agg #[.bool b', .slice a' n' c']) (by simp [results, Tryz.results47, go_sem, k0, k1]) rfl ⟨b', a', n', c', rfl, hI.keepRes hR9.row _ _, by omega, zput2 (hE.trans (HEr.out.trans hx9)) (by omega) _ _⟩

end Go.Proofs.YtdiojbgbeeojkaaGreatDoor
