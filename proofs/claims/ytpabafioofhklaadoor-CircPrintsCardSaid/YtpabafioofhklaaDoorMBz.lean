/-
  The program's Print.
-/
import Derived.Test.YtpabafioofhklaaDoorMBy
import Derived.Test.YtpabafioofhklaaDoorMCq

namespace Go.Proofs.YtpabafioofhklaaDoor
open Go.RowKit

def prnAll (l : List Gop) : List UInt8 := l.flatMap (fun o => prnOp o ++ [10])
theorem prnAll_snoc (l : List Gop) (o : Gop) : prnAll (l ++ [o]) = prnAll l ++ prnOp o ++ [10] := by simp [prnAll]
theorem prnOp_len {o : Gop} (h : PrFit o) : (prnOp o).length ≤ 157 := by
  have h7 : (wordOf o.kind.toNat).data.toList.length ≤ 7 := by
    have := h.kd
    have : o.kind.toNat = 1 ∨ o.kind.toNat = 2 ∨ o.kind.toNat = 3 ∨ o.kind.toNat = 4 ∨ o.kind.toNat = 5 ∨ o.kind.toNat = 6 := by omega
    rcases this with e | e | e | e | e | e <;> rw [e] <;> decide
  have h1 : (if usesK o.kind then numL o.k else []).length ≤ 3 := by split; exact numL_len h.k.2; simp
  have h2 : (if usesQ o.kind then numL o.q else []).length ≤ 3 := by split; exact numL_len h.q.2; simp
  have h3 : (if 0 < o.ctl.length then [32, 111, 110] else ([] : List UInt8)).length ≤ 3 := by split <;> simp
  have h4 := flat_len numL 3 o.ctl (fun x hx => numL_len (h.ctl x hx).2)
  have h5 : (if usesB o.kind then [32, 116, 111] ++ numL o.bit else []).length ≤ 6 := by split; have := numL_len h.bit.2; simp; omega; simp
  have h6 : (if 0 < o.cnd.length then [32, 105, 102] else ([] : List UInt8)).length ≤ 3 := by split <;> simp
  have h8 := flat_len cndL 4 o.cnd (fun x hx => cndL_len (h.cnd x hx).2)
  have := h.few; have := h.cfew
  unfold prnOp
  simp only [List.length_append]
  omega
theorem prnAll_len : ∀ (l : List Gop), (∀ o ∈ l, PrFit o) → (prnAll l).length ≤ 158 * l.length := by
  intro l
  induction l with
  | nil => intro _; simp [prnAll]
  | cons a r ih =>
    intro h
    have h1 := prnOp_len (h a (by simp))
    have h2 := ih (fun x hx => h x (by simp [hx]))
    unfold prnAll at h2 ⊢
    rw [List.flatMap_cons, List.length_append, List.length_append, List.length_cons]
    simp only [List.length_cons, List.length_nil] at *
    omega
theorem prFit_of_code {o : Gop} {n b : Int} (hn : n ≤ 12) (hb0 : 0 ≤ b) (hb : b ≤ 12) (h : opCode o n b = 0) : PrFit o := by
  obtain ⟨f1, f2, f3, f4⟩ := fit_of_code hn hb0 hb h
  have hk : 0 ≤ o.k ∧ o.k < 100 := by
    unfold opCode at h
    split at h
    · omega
    split at h
    · omega
    rename_i hk
    unfold fitsB at hk
    split at hk
    · have : below o.k 16 = true := by simpa using hk
      have := below_iff.1 this; omega
    · have : o.k = 0 := by simpa using hk
      omega
  have hq : 0 ≤ o.q := by
    unfold opCode at h
    split at h
    · omega
    split at h
    · omega
    split at h
    · omega
    rename_i hk
    unfold fitsB at hk
    split at hk
    · have : below o.q n = true := by simpa using hk
      have := below_iff.1 this; omega
    · have : o.q = 0 := by simpa using hk
      omega
  have := f1.bit
  exact ⟨f1.kd, hk, ⟨hq, by have := f2.2.1; omega⟩, ⟨this.1, by omega⟩, fun c hc => ⟨(f4 c hc).1, by have := (f4 c hc).2; omega⟩, f3, fun t ht => ⟨f2.2.2.2 t ht, f1.cnd t ht⟩, f1.few⟩

/-- What Print answers. -/
def prnV (c : Gci) : ByteArray := if (chk c).1 = 0 then ⟨(prn c).toArray⟩ else ⟨#[]⟩

set_option maxHeartbeats 4000000 in
set_option maxRecDepth 100000 in
theorem Print_any (c : Gci) (ao : Option Addr) (n cp : Nat) (w : World) (h : OpsAt w ao n c.ops) (hn : n ≤ cp) (hcp : cp ≤ 9223372036854775807) (hS : Shp w) :
    Calls Tryd.prog 14 #[.agg #[.int .i64 c.qubits, .int .i64 c.bits, .slice ao n cp]] w fun e w' => e = .returned (.tuple #[.string (prnV c), .agg #[.int .i64 (chk c).1, .int .i64 (chk c).2]]) ∧ Ext w w' := by
  unfold prnV
  obtain ⟨qb, bi, ops⟩ := c
  obtain ⟨f, hf⟩ : ∃ f, chk ⟨qb, bi, ops⟩ = f := ⟨_, rfl⟩
  obtain ⟨f0, f1⟩ := f
  have hz0 : f0 = 0 → f1 = 0 ∧ n ≤ 4096 ∧ (0 ≤ qb ∧ qb < 100) ∧ (0 ≤ bi ∧ bi < 100) ∧ ∀ g ∈ ops, PrFit g := by
    intro h0
    obtain ⟨e1, e0, e3, e4, e5, e6, e2⟩ := chk_zero (c := ⟨qb, bi, ops⟩) (by rw [hf]; exact h0)
    rw [hf] at e1
    have hl := h.1
    simp only at e6 hl e0 e3 e4 e5
    exact ⟨congrArg Prod.snd e1, by omega, by omega, by omega, fun g hg => prFit_of_code e3 e4 e5 (e2 g hg)⟩
  have Hz0 := Lib.hid hz0
  rw [hf]
  have Hf := Lib.hid hf
  obtain ⟨H, hH⟩ : ∃ H, w.heap.size = H := ⟨_, rfl⟩
  obtain ⟨A1, hA1⟩ : ∃ A1, w.alloc (.cells #[.int .i64 qb, .int .i64 bi, .slice ao n cp] 24) = A1 := ⟨_, rfl⟩
  obtain ⟨A3, hA3⟩ : ∃ A3, A1.alloc (.cells #[.int .i64 0, .int .i64 0] 28) = A3 := ⟨_, rfl⟩
  have s1 : A1.heap.size = H + 1 := by rw [← hA1, ← hH]; simp
  have x1 : Ext w A1 := by rw [← hA1]; exact ext_al _ _
  have x3 : Ext A1 A3 := by rw [← hA3]; exact ext_al _ _
  have bC : CiB A3 H qb bi ao n cp := by
    have : CiB A1 H qb bi ao n cp := by rw [← hA1, ← hH]; exact ⟨heap_alloc_new w _⟩
    exact this.ext x3
  have bF : FtB A3 (H + 1) 0 0 := by rw [← hA3, ← s1]; exact ⟨heap_alloc_new A1 _⟩
  have E0 : Ext w A3 := x1.trans x3
  have hA : ( w.alloc (.cells #[.int .i64 qb, .int .i64 bi, .slice ao n cp] 24)).alloc (.cells #[.int .i64 0, .int .i64 0] 28) = A3 := by rw [hA1, hA3]
  have Hl := Lib.hid h.1
  subst hH
  simp only at Hl ⊢
  obtain ⟨V, hV⟩ : ∃ V, (if f0 = 0 then (⟨(prn ⟨qb, bi, ops⟩).toArray⟩ : ByteArray) else ⟨#[]⟩) = V := ⟨_, rfl⟩
  rw [hV]
  have HV := Lib.hid hV
  clear hV
  have HE0 := Lib.hid E0; have HO := Lib.hid (h.ext E0); have HC := Lib.hid bC; have HFt := Lib.hid bF; have HS := Lib.hid (hS.ext E0)
  have m0 := bC.x0; have m1 := bC.x1; have m2 := bC.x2
  rw [← hA] at m0 m1 m2
  have HA := Lib.hid hA
  clear h E0 bC bF hf hz0 hS x1 x3 s1 hA1 hA3 hA
  go_enter Tryd.func14, Tryd.ntmps14
  go_wp2_with fail
  rw [HA.out]
  have HK := Lib.hid (Check_any ⟨qb, bi, ops⟩ ao n cp A3 HO.out hn hcp HS.out)
  rw [Hf.out] at HK
  refine HK.out.mono ?_
  rintro e w1 ⟨rfl, hx1⟩
  have Ef := ext_al w1 (.cells #[.int .i64 f0, .int .i64 f1] 28)
  have bf1 : FtB (w1.alloc (.cells #[.int .i64 f0, .int .i64 f1] 28)) w1.heap.size f0 f1 := ⟨heap_alloc_new w1 _⟩
  have q0 := bf1.x0; have q1 := bf1.x1
  have HX1 := Lib.hid (hx1.trans Ef)
  have bz := HFt.out.ext HX1.out; have x0' := bz.x0; have x1' := bz.x1; have g0' := bz.f 0; have g1' := bz.f 1
  have bc := HC.out.ext HX1.out
  have hsz1 := hx1.size
  have hA3 := HFt.out.lt
  have HbC := Lib.hid bc; have HbF := Lib.hid bz
  clear bz bc m0 m1 m2 hx1 Ef bf1 HK Hf
  by_cases h0 : f0 = 0
  · subst h0
    obtain ⟨rfl, hn4, hqb, hbi, hfit⟩ := Hz0.out rfl
    have HW : Hid (V = ⟨(prn ⟨qb, bi, ops⟩).toArray⟩) := by have := HV.out; rw [if_pos rfl] at this; exact this.symm
    clear HV Hz0 HC HFt HA x0' x1' g0' g1'
    go_wp2_with fail
    have hsW : (w1.alloc (.cells #[.int .i64 0, .int .i64 0] 28)).heap.size = w1.heap.size + 1 := by simp
    generalize w1.alloc (.cells #[.int .i64 0, .int .i64 0] 28) = W1 at *
    have hb0 := bld_new W1
    have hE0 := ext_al W1 (.cells #[.pointer none, .slice none 0 0] 56)
    have HB0 := Lib.hid (show BldT (W1.alloc (.cells #[.pointer none, .slice none 0 0] 56)) W1.heap.size [] from hb0); have HE1 := Lib.hid hE0
    have hsX := HX1.out.size
    clear hb0 hE0 q0 q1
    generalize W1.alloc (.cells #[.pointer none, .slice none 0 0] 56) = V0 at *
    rw [hsW] at HB0
    obtain ⟨b, hb'⟩ : ∃ b, w1.heap.size + 1 = b := ⟨_, rfl⟩
    rw [hb'] at HB0 hsW ⊢
    have hb := hsW
    clear hsW hb'
    refine (wstr b [] ⟨#[113, 117, 98, 105, 116, 115]⟩ V0 HB0.out (by simp [ByteArray.size])).mono ?_
    rintro e V1 ⟨rfl, h2, hW2⟩
    have hE2 := hW2.ext HE1.out (Nat.le_of_eq hb)
    have y0 := (HbC.out.ext hE2).x0; have y1 := (HbC.out.ext hE2).x1; have y2 := (HbC.out.ext hE2).x2
    obtain ⟨l1, hl1⟩ : ∃ x : List UInt8, [] ++ [113, 117, 98, 105, 116, 115] = x := ⟨_, rfl⟩
    have hn1 : l1.length ≤ 8 := by rw [← hl1]; simp
    have h2' : BldT V1 b l1 := by rw [← hl1]; exact h2
    have HB1 := Lib.hid h2'; have HE2 := Lib.hid hE2; have HL1 := Lib.hid hl1
    clear h2 h2' hW2 hE2 hl1 HB0 HE1
    go_wp2_with fail
    clear y0 y1 y2
    refine (writeNumber_any b l1 qb V1 HB1.out hqb.1 hqb.2 (by omega)).mono ?_
    rintro e V2 ⟨rfl, h2, hW2⟩
    have hE2 := hW2.ext HE2.out (Nat.le_of_eq hb)
    have y0 := (HbC.out.ext hE2).x0; have y1 := (HbC.out.ext hE2).x1; have y2 := (HbC.out.ext hE2).x2
    obtain ⟨l2, hl2⟩ : ∃ x : List UInt8, l1 ++ numL qb = x := ⟨_, rfl⟩
    have hn2 : l2.length ≤ 16 := by rw [← hl2, List.length_append]; have := numL_len hqb.2; simp; omega
    have h2' : BldT V2 b l2 := by rw [← hl2]; exact h2
    have HB2 := Lib.hid h2'; have HE3 := Lib.hid hE2; have HL2 := Lib.hid hl2
    clear h2 h2' hW2 hE2 hl2 HB1 HE2
    go_wp2_with fail
    clear y0 y1 y2
    refine (wstr b l2 ⟨#[32, 98, 105, 116, 115]⟩ V2 HB2.out (by simp [ByteArray.size]; omega)).mono ?_
    rintro e V3 ⟨rfl, h2, hW2⟩
    have hE2 := hW2.ext HE3.out (Nat.le_of_eq hb)
    have y0 := (HbC.out.ext hE2).x0; have y1 := (HbC.out.ext hE2).x1; have y2 := (HbC.out.ext hE2).x2
    obtain ⟨l3, hl3⟩ : ∃ x : List UInt8, l2 ++ [32, 98, 105, 116, 115] = x := ⟨_, rfl⟩
    have hn3 : l3.length ≤ 24 := by rw [← hl3, List.length_append]; simp; omega
    have h2' : BldT V3 b l3 := by rw [← hl3]; exact h2
    have HB3 := Lib.hid h2'; have HE4 := Lib.hid hE2; have HL3 := Lib.hid hl3
    clear h2 h2' hW2 hE2 hl3 HB2 HE3
    go_wp2_with fail
    clear y0 y1 y2
    refine (writeNumber_any b l3 bi V3 HB3.out hbi.1 hbi.2 (by omega)).mono ?_
    rintro e V4 ⟨rfl, h2, hW2⟩
    have hE2 := hW2.ext HE4.out (Nat.le_of_eq hb)
    have y0 := (HbC.out.ext hE2).x0; have y1 := (HbC.out.ext hE2).x1; have y2 := (HbC.out.ext hE2).x2
    obtain ⟨l4, hl4⟩ : ∃ x : List UInt8, l3 ++ numL bi = x := ⟨_, rfl⟩
    have hn4 : l4.length ≤ 32 := by rw [← hl4, List.length_append]; have := numL_len hbi.2; simp; omega
    have h2' : BldT V4 b l4 := by rw [← hl4]; exact h2
    have HB4 := Lib.hid h2'; have HE5 := Lib.hid hE2; have HL4 := Lib.hid hl4
    clear h2 h2' hW2 hE2 hl4 HB3 HE4
    go_wp2_with fail
    clear y0 y1 y2
    refine (wstr b l4 ⟨#[10]⟩ V4 HB4.out (by simp [ByteArray.size]; omega)).mono ?_
    rintro e V5 ⟨rfl, h2, hW2⟩
    have hE2 := hW2.ext HE5.out (Nat.le_of_eq hb)
    have y0 := (HbC.out.ext hE2).x0; have y1 := (HbC.out.ext hE2).x1; have y2 := (HbC.out.ext hE2).x2
    obtain ⟨l5, hl5⟩ : ∃ x : List UInt8, l4 ++ [10] = x := ⟨_, rfl⟩
    have hn5 : l5.length ≤ 40 := by rw [← hl5, List.length_append]; simp; omega
    have h2' : BldT V5 b l5 := by rw [← hl5]; exact h2
    have HB5 := Lib.hid h2'; have HE6 := Lib.hid hE2; have HL5 := Lib.hid hl5
    clear h2 h2' hW2 hE2 hl5 HB4 HE5
    go_wp2_with fail
    clear y0 y1 y2
    have HP : Hid (prn ⟨qb, bi, ops⟩ = l5 ++ prnAll ops) := by
      show prn ⟨qb, bi, ops⟩ = l5 ++ prnAll ops
      rw [← HL5.out, ← HL4.out, ← HL3.out, ← HL2.out, ← HL1.out]
      rfl
    clear HL1 HL2 HL3 HL4 HL5
    have hlenA := prnAll_len ops hfit
    rw [Hl.out] at hlenA
    have Hfit := Lib.hid hfit
    clear hfit
    go_loopg [26] n (fun kk sx wx => ∃ i : Nat, sx = .int .i64 (i : Int) ∧ i ≤ n ∧ n - i = kk ∧ Ext W1 wx ∧ BldT wx b (l5 ++ prnAll (ops.take i)))
    case atStart => exact ⟨0, rfl, by omega, by omega, HE6.out, by simpa [prnAll] using HB5.out⟩
    case round =>
      clear HE6 HB5
      obtain ⟨i, rfl, hi1, hk, hE, hB⟩ := hrel
      by_cases hin : i = n
      · have h2 : ¬ (i : Int) < (n : Int) := by omega
        rw [List.take_of_length_le (by rw [Hl.out]; omega), ← HP.out] at hB
        have hbl := hB.lt
        have HC := Lib.hid (Tryd.Builder_String_any_k b b _ wr hB (by omega))
        have HEw := Lib.hid hE
        clear hE hB
        go_wp2_with fail
        refine HC.out.mono ?_
        rintro e w5 ⟨rfl, h5, hb5, ho5⟩
        have hE5 : Ext W1 w5 := Wrt.ext ⟨hb5, ho5⟩ HEw.out (Nat.le_of_eq hb)
        have bz := HbF.out.ext hE5; have x0' := bz.x0; have x1' := bz.x1; have g0' := bz.f 0; have g1' := bz.f 1
        have HE5 := Lib.hid ((HE0.out.trans HX1.out).trans hE5)
        clear h5 hb5 ho5 hE5 bz HC HEw
        go_wp2_with fail
        refine bodyPost_ret (v := .tuple #[.string ⟨(prn ⟨qb, bi, ops⟩).toArray⟩, .agg #[.int .i64 0, .int .i64 0]]) (by simp [results, Tryd.results14, go_sem, x0', x1']) rfl ⟨by rw [HW.out], ?_⟩
        exact cput (cput HE5.out (by omega) _) (by omega) _
      · have h2 : (i : Int) < (n : Int) := by omega
        have h0 : (0 : Int) ≤ (i : Int) := by omega
        obtain ⟨b', o', rfl⟩ := HO.out.some_of (by omega)
        obtain ⟨g, hg⟩ : ∃ g, ops[i]? = some g := ⟨_, List.getElem?_eq_getElem (by rw [Hl.out]; omega)⟩
        obtain ⟨a1, n1, c1, a2, n2, c2, e0, e1, e2, e3, e4, e5, hL⟩ := ((HO.out.ext HX1.out).ext hE).at i g hg
        have hpf := Hfit.out g (List.mem_of_getElem? hg)
        have hpl := prnOp_len hpf
        have hst : ops.take (i + 1) = ops.take i ++ [g] := by rw [List.take_add_one, hg]; rfl
        have Hst : Hid (l5 ++ prnAll (ops.take (i + 1)) = l5 ++ prnAll (ops.take i) ++ prnOp g ++ [10]) := by
          show _ = _
          rw [hst, prnAll_snoc]; simp
        have hla := prnAll_len (ops.take i) (fun o ho => Hfit.out o (List.mem_of_mem_take ho))
        have hlt : (ops.take i).length ≤ n := by rw [List.length_take, Hl.out]; omega
        obtain ⟨a1', n1', c1', a2', n2', c2', _, _, d2, _, _, d5, hL'⟩ := (HO.out.ext HX1.out).at i g hg
        have Ea := ext_al wr (.cells #[.int .i64 g.kind, .int .i64 g.k, .slice a1 n1 c1, .int .i64 g.q, .int .i64 g.bit, .slice a2 n2 c2] 45)
        have bO := opbx_new wr g.kind g.k a1 n1 c1 g.q g.bit a2 n2 c2
        have k2 := (cell_ext d2 hE).symm.trans e2
        have k5 := (cell_ext d5 hE).symm.trans e5
        simp only [Option.some.injEq, Value.slice.injEq] at k2 k5
        obtain ⟨rfl, rfl, rfl⟩ := k2
        obtain ⟨rfl, rfl, rfl⟩ := k5
        obtain ⟨lx, hlx⟩ : ∃ x, l5 ++ prnAll (ops.take i) = x := ⟨_, rfl⟩
        have hlxn : lx.length ≤ 40 + 158 * n := by
          rw [← hlx, List.length_append]
          have : 158 * (ops.take i).length ≤ 158 * n := Nat.mul_le_mul_left _ hlt
          omega
        rw [hlx] at hB Hst
        have HC := Lib.hid (writeOp_any g a1' n1' c1' a2' n2' c2' b lx W1 (wr.alloc (.cells #[.int .i64 g.kind, .int .i64 g.k, .slice a1' n1' c1', .int .i64 g.q, .int .i64 g.bit, .slice a2' n2' c2'] 45)) (hE.trans Ea) (Nat.le_of_eq hb) hL' (HS.out.ext HX1.out) hpf (hB.alloc _) (by omega))
        have HEa := Lib.hid (hE.trans Ea)
        obtain ⟨kd, kk', ctl, qq, bb, cnd⟩ := g
        simp only at e0 e1 e2 e3 e4 e5 bO HC HEa
        have p0 := bO.x0; have p1 := bO.x1; have p2 := bO.x2; have p3 := bO.x3; have p4 := bO.x4; have p5 := bO.x5
        obtain ⟨ly, hly⟩ : ∃ x, lx ++ prnOp ⟨kd, kk', ctl, qq, bb, cnd⟩ = x := ⟨_, rfl⟩
        have hlyn : ly.length ≤ 40 + 158 * n + 157 := by rw [← hly, List.length_append]; omega
        rw [hly] at HC Hst
        clear hg hL hL' hpf hpl hst hla hlt d2 d5 Ea bO hlx hly hE hB
        go_wp2_with fail
        generalize wr.alloc (.cells #[.int .i64 kd, .int .i64 kk', .slice a1' n1' c1', .int .i64 qq, .int .i64 bb, .slice a2' n2' c2'] 45) = w3 at *
        clear e0 e1 e2 e3 e4 e5 p0 p1 p2 p3 p4 p5
        refine HC.out.mono ?_
        rintro e w4 ⟨rfl, h4, hW4⟩
        have H4 := Lib.hid h4; have HE4 := Lib.hid (hW4.ext HEa.out (Nat.le_of_eq hb))
        clear h4 hW4 HC HEa
        go_wp2_with fail
        refine (wstr b ly ⟨#[10]⟩ w4 H4.out (by simp [ByteArray.size]; omega)).mono ?_
        rintro e w5 ⟨rfl, h5, hW5⟩
        have H5 := Lib.hid h5; have HE5 := Lib.hid (hW5.ext HE4.out (Nat.le_of_eq hb))
        clear h5 hW5
        go_wp2_with fail
        go_roundg (n - (i + 1))
        case measure => omega
        case rel => exact ⟨i + 1, by go_num, by omega, rfl, HE5.out, by rw [Hst.out]; exact H5.out⟩
  · have e1 := nt h0
    have HW : Hid (V = ⟨#[]⟩) := by have := HV.out; rw [if_neg h0] at this; exact this.symm
    clear h0
    go_wp2_with fail
    go_region
    go_wp2_with fail
    refine bodyPost_ret (v := .tuple #[.string ⟨#[]⟩, .agg #[.int .i64 f0, .int .i64 f1]]) (by simp [results, Tryd.results14, go_sem, x0', x1']) rfl ⟨by rw [HW.out], ?_⟩
    exact Below.drew (cput (cput (HE0.out.trans HX1.out) (by omega) _) (by omega) _)

end Go.Proofs.YtpabafioofhklaaDoor
