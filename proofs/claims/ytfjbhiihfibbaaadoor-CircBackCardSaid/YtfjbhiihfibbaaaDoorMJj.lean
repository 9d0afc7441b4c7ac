/-
  Circuits undone, in plain lists: twice undone is itself; what is pure stays so.
-/
import Derived.Test.YtfjbhiihfibbaaaDoorMJh
import Derived.Test.YtfjbhiihfibbaaaDoorMBs
import Derived.Test.YtfjbhiihfibbaaaDoorMDk
import Derived.Test.YtfjbhiihfibbaaaDoorMGa
import Derived.Test.YtfjbhiihfibbaaaDoorMDa

namespace Go.Proofs.YtfjbhiihfibbaaaDoor
open Go.RowKit

theorem opp_range {k : Int} (h : 0 ≤ k ∧ k ≤ 15) : 0 ≤ opp k ∧ opp k ≤ 15 := by
  unfold opp
  have h1 := Int.tmod_nonneg 16 (show 0 ≤ 16 - k by omega)
  have h2 := Int.tmod_lt_of_pos (16 - k) (show (0 : Int) < 16 by omega)
  omega
theorem opp_eq {k : Int} (h : 0 ≤ k ∧ k ≤ 15) : opp k = if k = 0 then 0 else 16 - k := by
  unfold opp
  rw [Int.tmod_eq_emod_of_nonneg (by omega)]
  split <;> omega
theorem opp_opp {k : Int} (h : 0 ≤ k ∧ k ≤ 15) : opp (opp k) = k := by
  rw [opp_eq (opp_range h), opp_eq h]
  split <;> (split <;> omega)
theorem undo_undo {g : Gop} (h : 0 ≤ g.k ∧ g.k ≤ 15) : undoO (undoO g) = g := by
  unfold undoO
  simp only [opp_opp h]
theorem undo_code {g : Gop} {n b : Int} (h : opCode g n b = 0) : opCode (undoO g) n b = 0 := by
  have hk := opk_range h
  obtain ⟨kd, k, ctl, q, bt, cnd⟩ := g
  simp only at hk
  unfold undoO
  simp only
  unfold opCode at h ⊢
  simp only at h ⊢
  by_cases h1 : kd < 1 ∨ 6 < kd
  · rw [if_pos h1] at h; omega
  rw [if_neg h1] at h ⊢
  by_cases h2 : fitsB k 16 (usesK kd) = false
  · rw [if_pos h2] at h; omega
  rw [if_neg h2] at h
  have h2' : ¬ fitsB (opp k) 16 (usesK kd) = false := by
    have hr := opp_range hk
    unfold fitsB at h2 ⊢
    by_cases hu : usesK kd = true
    · rw [if_pos hu]
      unfold below
      simp
      omega
    · rw [if_neg hu] at h2 ⊢
      have : k = 0 := by simpa using h2
      rw [this]
      decide
  rw [if_neg h2']
  exact h
/-- A circuit of gates alone. -/
structure Pur (qb bi : Int) (ops : List Gop) : Prop where
  q : 1 ≤ qb ∧ qb ≤ 12
  b : 0 ≤ bi ∧ bi ≤ 12
  l : ops.length ≤ 4096
  o : ∀ g ∈ ops, opCode g qb bi = 0 ∧ g.kind < 5 ∧ g.cnd.length = 0
theorem purF_of {l : List Gop} : ∀ i, (∀ g ∈ l, g.kind < 5 ∧ g.cnd.length = 0) → purF i l = (0, 0) := by
  induction l with
  | nil => intro i _; rfl
  | cons o r ih =>
    intro i h
    have := h o (by simp)
    rw [purF, if_neg (by omega)]
    exact ih _ (fun g hg => h g (by simp [hg]))
theorem purF_to {l : List Gop} : ∀ i, (purF i l).1 = 0 → ∀ g ∈ l, g.kind < 5 ∧ g.cnd.length = 0 := by
  induction l with
  | nil => intro i _ g hg; simp at hg
  | cons o r ih =>
    intro i h g hg
    rw [purF] at h
    by_cases hc : 5 ≤ o.kind ∨ 0 < o.cnd.length
    · rw [if_pos hc] at h; exact absurd h (show ¬ (15 : Int) = 0 by decide)
    · rw [if_neg hc] at h
      rcases List.mem_cons.1 hg with rfl | hg
      · omega
      · exact ih _ h g hg
theorem opsCode_of {n b : Int} {l : List Gop} : ∀ i, (∀ g ∈ l, opCode g n b = 0) → opsCode n b i l = (0, 0) := by
  induction l with
  | nil => intro i _; rfl
  | cons o r ih =>
    intro i h
    rw [opsCode, if_neg (by rw [h o (by simp)]; simp)]
    exact ih _ (fun g hg => h g (by simp [hg]))
theorem pur_iff {qb bi : Int} {ops : List Gop} : (pur ⟨qb, bi, ops⟩).1 = 0 ↔ Pur qb bi ops := by
  constructor
  · intro h
    obtain ⟨hck, hpz⟩ := pur_zero h
    obtain ⟨hz, hq1, hq2, hb1, hb2, hl4, hop⟩ := chk_zero hck
    unfold pur at h
    rw [if_neg (by omega)] at h
    exact ⟨⟨hq1, hq2⟩, ⟨hb1, hb2⟩, hl4, fun g hg => ⟨hop g hg, purF_to 0 h g hg⟩⟩
  · intro h
    have hc : chk ⟨qb, bi, ops⟩ = (0, 0) := by
      unfold chk
      have := h.q; have := h.b; have := h.l
      rw [if_neg (by simp only; omega), if_neg (by simp only; omega), if_neg (by simp only; omega)]
      exact opsCode_of 0 (fun g hg => (h.o g hg).1)
    unfold pur
    rw [if_neg (by rw [hc]; simp), purF_of 0 (fun g hg => (h.o g hg).2)]
theorem Pur.inv {qb bi : Int} {ops : List Gop} (h : Pur qb bi ops) : Pur qb bi (invO ops) := by
  refine ⟨h.q, h.b, by unfold invO; rw [List.length_map, List.length_reverse]; exact h.l, fun g hg => ?_⟩
  unfold invO at hg
  obtain ⟨g', hg', rfl⟩ := List.mem_map.1 hg
  obtain ⟨h1, h2, h3⟩ := h.o g' (List.mem_reverse.1 hg')
  exact ⟨undo_code h1, h2, h3⟩
theorem Pur.rep {qb bi : Int} {ops : List Gop} (h : Pur qb bi ops) {k : Nat} (hk : k * ops.length ≤ 4096) : Pur qb bi (repO k ops) :=
  ⟨h.q, h.b, by rw [repO_len]; exact hk, fun g hg => h.o g (repO_mem hg)⟩
theorem invO_invO {ops : List Gop} (h : ∀ g ∈ ops, 0 ≤ g.k ∧ g.k ≤ 15) : invO (invO ops) = ops := by
  unfold invO
  rw [← List.map_reverse, List.reverse_reverse, List.map_map]
  conv => rhs; rw [← List.map_id ops]
  exact List.map_congr_left fun g hg => undo_undo (h g hg)
theorem repO_comm (k : Nat) (ops : List Gop) : repO (k + 1) ops = ops ++ repO k ops := by
  unfold repO
  rw [List.replicate_succ, List.flatten_cons]
theorem invO_app (a b : List Gop) : invO (a ++ b) = invO b ++ invO a := by
  unfold invO
  rw [List.reverse_append, List.map_append]
theorem invO_rep (k : Nat) (ops : List Gop) : invO (repO k ops) = repO k (invO ops) := by
  induction k with
  | zero => rfl
  | succ k ih => rw [repO_succ, invO_app, ih, repO_comm]
theorem Pur.ks {qb bi : Int} {ops : List Gop} (h : Pur qb bi ops) : ∀ g ∈ ops, 0 ≤ g.k ∧ g.k ≤ 15 := fun g hg => opk_range (h.o g hg).1
theorem Pur.once {qb bi : Int} {ops : List Gop} (h : Pur qb bi ops) (x : Int) : Pur qb bi (onceO x ops) := by
  unfold onceO
  split
  · exact h.inv
  · exact h
theorem once_inv {qb bi : Int} {ops : List Gop} (h : Pur qb bi ops) (x : Int) : invO (onceO x (invO ops)) = onceO x ops := by
  unfold onceO
  split
  · rw [invO_invO h.ks]
  · rw [invO_invO h.ks]
/-- Operations in a row stand where a variable of another kind is written. -/
theorem OpsO.far {w w' : World} {base k : Nat} {v : Value} {ops : List Gop} {cs : Array Value} {T : TypeId} {fr : Nat × Nat} (h : OpsO w base v ops) (hk : w.heap[k]? = some (.cells cs T fr)) (hT : T ≠ 3) (hT2 : T ≠ 58) (hO : Only k w w') : OpsO w' base v ops := by
  obtain ⟨xs, h1, h2⟩ := h
  refine ⟨xs, ?_, fun t g hg => ?_⟩
  · refine own_keep2 h1 (fun g hg => hO.block g (fun e => ?_))
    obtain ⟨_, cs', fr', e2⟩ := PtKind h1 g hg
    rw [e, hk] at e2
    cases e2
    exact hT2 rfl
  · obtain ⟨a1, n1, c1, a2, n2, c2, e0, e1, e2, e3, e4, e5, e6⟩ := h2 t g hg
    exact ⟨a1, n1, c1, a2, n2, c2, e0, e1, e2, e3, e4, e5, e6.keep (Nat.le_of_eq hO.size.symm) (only_ints hk hT hO)⟩

end Go.Proofs.YtfjbhiihfibbaaaDoor

/-
  CircBack: its walk.
-/
namespace Go.Proofs.YtfjbhiihfibbaaaDoor
open Go.RowKit

section
variable {w w0 : World} {g A : Nat}
theorem CiB.stepF {qb bi : Int} {ao : Option Addr} {n cp : Nat} (h : CiB w g qb bi ao n cp) (hne : A ≠ g) (o : Obj) (u v : Value) : CiB (((w.alloc o).setCell ⟨A, 0, none⟩ u).setCell ⟨A, 1, none⟩ v) g qb bi ao n cp := ⟨row_far (row_far (h.ext (ext_al _ _)).row hne) hne⟩
theorem FtB.farF {x y : Int} (h : FtB w g x y) (hne : A ≠ g) (o : Obj) (u v : Value) : FtB (((w.alloc o).setCell ⟨A, 0, none⟩ u).setCell ⟨A, 1, none⟩ v) g x y := ⟨row_far (row_far (h.ext (ext_al _ _)).row hne) hne⟩
theorem FtB.stepF {x y : Int} (h : FtB w A x y) (o : Obj) (u v : Int) : FtB (((w.alloc o).setCell ⟨A, 0, none⟩ (.int .i64 u)).setCell ⟨A, 1, none⟩ (.int .i64 v)) A u v := (h.ext (ext_al _ _)).put u v
theorem onlyF (W : World) (A : Nat) (u v : Value) : Only A W ((W.setCell ⟨A, 0, none⟩ u).setCell ⟨A, 1, none⟩ v) := ((Only.refl _ _).setCell _ _).setCell _ _
theorem OpsO.stepF {base : Nat} {z : Value} {ops : List Gop} {x y : Int} (h : OpsO w base z ops) (hA : FtB w A x y) (o : Obj) (u v : Value) : OpsO (((w.alloc o).setCell ⟨A, 0, none⟩ u).setCell ⟨A, 1, none⟩ v) base z ops :=
  (h.ext (ext_al w o)).far (hA.ext (ext_al w o)).row (by decide) (by decide) (onlyF _ A u v)
theorem ext_stepF (h : Ext w0 w) (hA : w0.heap.size ≤ A) (o : Obj) (u v : Value) : Ext w0 (((w.alloc o).setCell ⟨A, 0, none⟩ u).setCell ⟨A, 1, none⟩ v) := cput (o := 1) (cput (o := 0) (h.trans (ext_al _ _)) hA u) hA v
theorem newF {qb bi : Int} {ao : Option Addr} {n cp : Nat} (hne : A ≠ w.heap.size) (u v : Value) : CiB (((w.alloc (.cells #[.int .i64 qb, .int .i64 bi, .slice ao n cp] 24)).setCell ⟨A, 0, none⟩ u).setCell ⟨A, 1, none⟩ v) w.heap.size qb bi ao n cp := ⟨row_far (row_far (heap_alloc_new w _) hne) hne⟩
end
theorem opsO_at {w : World} {base n c : Nat} {a : Option Addr} {ops : List Gop} (h : OpsO w base (.slice a n c) ops) : n ≤ c ∧ c ≤ 9223372036854775807 ∧ OpsAt w a n ops := by
  obtain ⟨a9, c9, ev9, h1, h2, h3⟩ := h.at
  injection ev9 with ea en ec
  subst ea; subst ec; subst en
  exact ⟨h1, by unfold maxLen at h2; omega, h3⟩

set_option maxHeartbeats 8000000 in
set_option maxRecDepth 100000 in
theorem back_walk (c : Gci) (ao : Option Addr) (n cp : Nat) (x : Int) (w : World) (h : OpsAt w ao n c.ops) (hn : n ≤ cp) (hcp : cp ≤ 9223372036854775807) (hx0 : -9223372036854775808 ≤ x) (hx1 : x ≤ 9223372036854775807) (hS : Shp w) :
    Calls Tryd.prog 7 #[.agg #[.int .i64 c.qubits, .int .i64 c.bits, .slice ao n cp], .int .i64 x] w fun e w' => e = .returned (.bool true) ∧ Ext w w' := by
  have HIn := Lib.hid (fun wx (hx : Ext w wx) => Inverse_no c ao n cp wx (h.ext hx) hn hcp (hS.ext hx))
  have HIy := Lib.hid (fun wx (hx : Ext w wx) => Inverse_yes c ao n cp wx (h.ext hx) hn hcp (hS.ext hx))
  have HPu := Lib.hid (fun wx (hx : Ext w wx) => Pure_any c ao n cp wx (h.ext hx) hn hcp (hS.ext hx))
  have HPy := Lib.hid (fun wx (hx : Ext w wx) (hp : (pur c).1 = 0) => Power_yes c ao n cp x wx (h.ext hx) hn hcp (hS.ext hx) hp hx0 hx1)
  have HPr := Lib.hid (fun wx (hx : Ext w wx) => Print_any c ao n cp wx (h.ext hx) hn hcp (hS.ext hx))
  have HPa := Lib.hid (fun wx (hx : Ext w wx) => parse_yes c wx (hS.ext hx))
  have HSm := Lib.hid (fun wx (hx : Ext w wx) a2 c2 (h2 : OpsAt wx a2 n c.ops) (hn2 : n ≤ c2) (hm2 : c2 ≤ 9223372036854775807) => sameCircuit_any c ao n cp a2 c2 wx (h.ext hx) h2 hn hcp hn2 hm2)
  have HBg := Lib.hid (fun wx (hx : Ext w wx) => circBegun_any wx (hS.ext hx))
  have hl : c.ops.length = n := h.1
  obtain ⟨qb, bi, ops⟩ := c
  simp only at HIn HIy HPu HPy HPr HPa HSm hl ⊢
  have Hl := Lib.hid hl; have HS := Lib.hid hS
  have bC : CiB (w.alloc (.cells #[.int .i64 qb, .int .i64 bi, .slice ao n cp] 24)) w.heap.size qb bi ao n cp := ⟨heap_alloc_new w _⟩
  have HC := Lib.hid bC; have HE0 := Lib.hid (ext_al w (.cells #[.int .i64 qb, .int .i64 bi, .slice ao n cp] 24))
  have m0 := bC.x0; have m1 := bC.x1; have m2 := bC.x2
  clear h hS hl bC
  go_enter Tryd.func7, Tryd.ntmps7
  go_wp2_with fail
  refine (HBg.out _ HE0.out).mono ?_
  rintro e w1 ⟨rfl, hxa⟩
  have bC1 := HC.out.ext hxa
  have y0 := bC1.x0; have y1 := bC1.x1; have y2 := bC1.x2
  have HC1 := Lib.hid bC1; have HE1 := Lib.hid (HE0.out.trans hxa)
  clear hxa bC1 HC HE0 m0 m1 m2
  go_wp2_with fail
  by_cases hp : (pur ⟨qb, bi, ops⟩).1 = 0
  rotate_left 1
  · refine (HIn.out w1 HE1.out hp).mono ?_
    rintro e w2 ⟨rfl, hxb⟩
    obtain ⟨F, hF⟩ : ∃ F, pur ⟨qb, bi, ops⟩ = F := ⟨_, rfl⟩
    rw [hF] at HPu hp ⊢
    obtain ⟨u, v⟩ := F
    simp only at HPu hp ⊢
    clear hF
    have nu := nt hp; have nb := bf hp
    have s1 : (w2.alloc (.cells #[.int .i64 0, .int .i64 0, .slice none 0 0] 24)).heap.size = w2.heap.size + 1 := by simp
    have bF : FtB ((w2.alloc (.cells #[.int .i64 0, .int .i64 0, .slice none 0 0] 24)).alloc (.cells #[.int .i64 u, .int .i64 v] 26)) (w2.heap.size + 1) u v := by rw [← s1]; exact ⟨heap_alloc_new _ _⟩
    have E2 := (ext_al w2 (.cells #[.int .i64 0, .int .i64 0, .slice none 0 0] 24)).trans (ext_al (w2.alloc (.cells #[.int .i64 0, .int .i64 0, .slice none 0 0] 24)) (.cells #[.int .i64 u, .int .i64 v] 26))
    have bC2 := HC1.out.ext (hxb.trans E2)
    have HE2 := Lib.hid (HE1.out.trans (hxb.trans E2))
    have f0 := bF.x0; have f1 := bF.x1
    have HbF := Lib.hid bF; have HbC := Lib.hid bC2
    clear hxb E2 bF bC2 s1 y0 y1 y2 HC1 HE1
    go_upto_region 5 with fail
    generalize (w2.alloc (.cells #[.int .i64 0, .int .i64 0, .slice none 0 0] 24)).alloc (.cells #[.int .i64 u, .int .i64 v] 26) = U at *
    obtain ⟨A, hA⟩ : ∃ y, w2.heap.size + 1 = y := ⟨_, rfl⟩
    rw [hA] at HbF f0 f1 ⊢
    clear hA
    have hUd : Ext U U.drew := Below.drew (Ext.refl U)
    obtain ⟨X, F, hFe, hFs⟩ : ∃ (X : Type) (F : X → World), (∀ x, Ext U (F x)) ∧ (∀ w', Ext U w' → ∃ x, w' = F x) := ⟨{ w' : World // Ext U w' }, Subtype.val, fun x => x.2, fun w' h => ⟨⟨w', h⟩, rfl⟩⟩
    have hXn : Nonempty X := (hFs U (Ext.refl U)).elim fun x _ => ⟨x⟩
    have fd0 : ∀ x, (F x).cell? ⟨A, 0, none⟩ = some (.int .i64 u) := fun x => ((HbF.out.ext (hFe x))).x0
    have fd1 : ∀ x, (F x).cell? ⟨A, 1, none⟩ = some (.int .i64 v) := fun x => ((HbF.out.ext (hFe x))).x1
    have fc0 : ∀ x, (F x).cell? ⟨w.heap.size, 0, none⟩ = some (.int .i64 qb) := fun x => ((HbC.out.ext (hFe x))).x0
    have fc1 : ∀ x, (F x).cell? ⟨w.heap.size, 1, none⟩ = some (.int .i64 bi) := fun x => ((HbC.out.ext (hFe x))).x1
    have fc2 : ∀ x, (F x).cell? ⟨w.heap.size, 2, none⟩ = some (.slice ao n cp) := fun x => ((HbC.out.ext (hFe x))).x2
    clear f0 f1
    refine wp_region_F (by kernel_rfl) (by kernel_rfl) (hFs _ hUd) ?_
    repeat (go_big_quiet_step (exact (HPu.out _ (HE2.out.trans (hFe _))).mono (fun e w' h => ⟨h.1, hFs _ ((hFe _).trans h.2)⟩)))
    refine wpQuiet_nil ?_
    rintro _ ⟨xq, rfl⟩
    have HE3 := Lib.hid (HE2.out.trans (hFe xq))
    generalize F xq = Wq at *
    go_wp2_with fail
    go_ret
    exact ⟨rfl, HE3.out⟩
  have hPur := pur_iff.1 hp
  have HPur := Lib.hid hPur
  refine (HIy.out w1 HE1.out hp).mono ?_
  rintro e w2 ⟨⟨ax, cx, rfl, hcx1, hcx2, hOx⟩, hxb⟩
  have s1 : (w2.alloc (.cells #[.int .i64 qb, .int .i64 bi, .slice ax n cx] 24)).heap.size = w2.heap.size + 1 := by simp
  have bF : FtB ((w2.alloc (.cells #[.int .i64 qb, .int .i64 bi, .slice ax n cx] 24)).alloc (.cells #[.int .i64 0, .int .i64 0] 26)) (w2.heap.size + 1) 0 0 := by rw [← s1]; exact ⟨heap_alloc_new _ _⟩
  have bX : CiB ((w2.alloc (.cells #[.int .i64 qb, .int .i64 bi, .slice ax n cx] 24)).alloc (.cells #[.int .i64 0, .int .i64 0] 26)) w2.heap.size qb bi ax n cx := CiB.ext ⟨heap_alloc_new w2 _⟩ (ext_al _ _)
  have E2 := (ext_al w2 (.cells #[.int .i64 qb, .int .i64 bi, .slice ax n cx] 24)).trans (ext_al (w2.alloc (.cells #[.int .i64 qb, .int .i64 bi, .slice ax n cx] 24)) (.cells #[.int .i64 0, .int .i64 0] 26))
  have HC2 := Lib.hid (HC1.out.ext (hxb.trans E2)); have HE2 := Lib.hid (HE1.out.trans (hxb.trans E2)); have HX2 := Lib.hid bX; have HF2 := Lib.hid bF; have HO2 := Lib.hid (hOx.ext E2)
  have hHX : w.heap.size < w2.heap.size := Nat.lt_of_lt_of_le HC1.out.lt hxb.size
  have x0 := bX.x0; have x1 := bX.x1; have x2 := bX.x2; have f0 := bF.x0; have f1 := bF.x1; have k0 := bF.f 0; have k1 := bF.f 1
  clear hxb E2 bF bX s1 y0 y1 y2 HC1 HE1 hOx hcx1 hcx2
  go_upto_region 6 with fail
  generalize (w2.alloc (.cells #[.int .i64 qb, .int .i64 bi, .slice ax n cx] 24)).alloc (.cells #[.int .i64 0, .int .i64 0] 26) = V2 at *
  obtain ⟨X, hX⟩ : ∃ y, w2.heap.size = y := ⟨_, rfl⟩
  rw [hX] at HX2 HF2 x0 x1 x2 f0 f1 k0 k1 hHX ⊢
  clear hX
  have hFX := HF2.out.lt
  obtain ⟨A, hA⟩ : ∃ y, X + 1 = y := ⟨_, rfl⟩
  rw [hA] at HF2 f0 f1 k0 k1 hFX ⊢
  have hXA : X < A := by omega
  clear hA
  obtain ⟨hxn, hxm, hxat⟩ := opsO_at HO2.out
  have HIx := Lib.hid (Inverse_yes ⟨qb, bi, invO ops⟩ ax n cx V2 hxat hxn hxm (HS.out.ext HE2.out) (pur_iff.2 hPur.inv))
  simp only at HIx
  rw [invO_invO hPur.ks] at HIx
  clear hxat
  go_wp2_with fail
  refine HIx.out.mono ?_
  rintro e w3 ⟨⟨ay, cy, rfl, hcy1, hcy2, hOy⟩, hxc⟩
  have hA3 : A < w3.heap.size := Nat.lt_of_lt_of_le hFX hxc.size
  have hF3 := HF2.out.ext hxc
  have hF3a := hF3.ext (ext_al w3 (.cells #[.int .i64 qb, .int .i64 bi, .slice ay n cy] 24))
  have g0 := hF3a.x0; have g1 := hF3a.x1; have g2 := hF3a.f 0; have g3 := hF3a.f 1
  have HC3 := Lib.hid ((HC2.out.ext hxc).stepF (A := A) (by omega) (.cells #[.int .i64 qb, .int .i64 bi, .slice ay n cy] 24) (.int .i64 0) (.int .i64 0)); have HX3 := Lib.hid ((HX2.out.ext hxc).stepF (A := A) (by omega) (.cells #[.int .i64 qb, .int .i64 bi, .slice ay n cy] 24) (.int .i64 0) (.int .i64 0)); have HF3 := Lib.hid (hF3.stepF (.cells #[.int .i64 qb, .int .i64 bi, .slice ay n cy] 24) 0 0)
  have HY3 := Lib.hid (newF (w := w3) (A := A) (qb := qb) (bi := bi) (ao := ay) (n := n) (cp := cy) (by omega) (.int .i64 0) (.int .i64 0)); have HOx3 := Lib.hid ((HO2.out.ext hxc).stepF hF3 (.cells #[.int .i64 qb, .int .i64 bi, .slice ay n cy] 24) (.int .i64 0) (.int .i64 0)); have HOy3 := Lib.hid (hOy.stepF hF3 (.cells #[.int .i64 qb, .int .i64 bi, .slice ay n cy] 24) (.int .i64 0) (.int .i64 0)); have HE3 := Lib.hid (ext_stepF (A := A) (HE2.out.trans hxc) (by omega) (.cells #[.int .i64 qb, .int .i64 bi, .slice ay n cy] 24) (.int .i64 0) (.int .i64 0))
  have hs3 : (((w3.alloc (.cells #[.int .i64 qb, .int .i64 bi, .slice ay n cy] 24)).setCell ⟨A, 0, none⟩ (.int .i64 0)).setCell ⟨A, 1, none⟩ (.int .i64 0)).heap.size = w3.heap.size + 1 := by simp
  have HA3 := Lib.hid hA3; have Hs3 := Lib.hid hs3
  clear hxc hF3 hF3a hOy hcy1 hcy2 HIx HC2 HE2 HX2 HF2 HO2 x0 x1 x2 f0 f1 k0 k1 hA3 hs3 hFX
  go_upto_region 7 with fail
  generalize (((w3.alloc (.cells #[.int .i64 qb, .int .i64 bi, .slice ay n cy] 24)).setCell ⟨A, 0, none⟩ (.int .i64 0)).setCell ⟨A, 1, none⟩ (.int .i64 0)) = V3 at *
  clear g0 g1 g2 g3
  have f0 := HF3.out.x0
  have c0 := HC3.out.x0; have c1 := HC3.out.x1; have c2 := HC3.out.x2; have e0 := HY3.out.x0; have e1 := HY3.out.x1; have e2 := HY3.out.x2
  obtain ⟨hyn, hym, hyat⟩ := opsO_at HOy3.out
  have HSy := Lib.hid (HSm.out V3 HE3.out ay cy hyat hyn hym)
  clear hyat
  go_wp2_with fail
  refine HSy.out.mono ?_
  rintro e w4 ⟨rfl, hxd⟩
  have hC4 := HC3.out.ext hxd
  have d0 := hC4.x0; have d1 := hC4.x1; have d2 := hC4.x2
  have HC4 := Lib.hid hC4; have HX4 := Lib.hid (HX3.out.ext hxd); have HF4 := Lib.hid (HF3.out.ext hxd); have HOx4 := Lib.hid (HOx3.out.ext hxd); have HE4 := Lib.hid (HE3.out.trans hxd)
  have hA4 : A < w4.heap.size := by have h1 := hxd.size; have h2 := Hs3.out; have h3 := HA3.out; omega
  clear hxd hC4 HC3 HX3 HF3 HOx3 HOy3 HE3 HY3 HSy c0 c1 c2 e0 e1 e2 f0 Hs3 HA3
  have HA4 := Lib.hid hA4
  clear hA4
  go_wp2_with fail
  obtain ⟨tm, htm⟩ : ∃ y, x.natAbs = y := ⟨_, rfl⟩
  have HPc := Lib.hid (HPy.out w4 HE4.out (pur_iff.2 HPur.out))
  rw [htm] at HPc
  have Hcon := Lib.hid (show (n = 0 ∨ tm ≤ 4096 / n) → tm * n ≤ 4096 from fun hh => by
    rcases hh with h0 | h0
    · rw [h0]; omega
    · exact Nat.le_trans (Nat.mul_le_mul_right n h0) (Nat.div_mul_le_self 4096 n))
  refine HPc.out.mono ?_
  rintro e w5 ⟨hdis, hxe⟩
  have Hdis := Lib.hid hdis
  have hF5 := HF4.out.ext hxe
  have Hlt5 := Lib.hid (show A < w5.heap.size by have h1 := HA4.out; have h2 := hxe.size; omega)
  have hkey : ∃ (u v qp bp : Int) (pops : List Gop) (a5 : Option Addr) (m5 c5 : Nat), e = .returned (.tuple #[.agg #[.int .i64 qp, .int .i64 bp, .slice a5 m5 c5], .agg #[.int .i64 u, .int .i64 v]]) ∧ OpsO w5 0 (.slice a5 m5 c5) pops ∧ pops.length = m5 ∧ ((u = 2 ∧ v = 0 ∧ 0 < n ∧ 4096 / n < tm) ∨ (u = 0 ∧ v = 0 ∧ (n = 0 ∨ tm ≤ 4096 / n) ∧ qp = qb ∧ bp = bi ∧ pops = repO tm (onceO x ops))) := by
    rcases hdis with ⟨h1, h2, h3⟩ | ⟨h1, a5, m5, c5, h2, h3, h4, h5, h6⟩
    · exact ⟨2, 0, 0, 0, [], none, 0, 0, h3, OpsO.nil _ _, rfl, Or.inl ⟨rfl, rfl, h1, h2⟩⟩
    · exact ⟨0, 0, qb, bi, _, a5, m5, c5, h3, opsO_base h6 (Nat.zero_le _), h2.symm, Or.inr ⟨rfl, rfl, h1, rfl, rfl, rfl⟩⟩
  obtain ⟨u, v, qp, bp, pops, a5, m5, c5, rfl, hOp, hpl, hcase⟩ := hkey
  have Hcase := Lib.hid hcase; have Hpl := Lib.hid hpl
  have hF5a := hF5.ext (ext_al w5 (.cells #[.int .i64 qp, .int .i64 bp, .slice a5 m5 c5] 24))
  have g0 := hF5a.x0; have g1 := hF5a.x1; have g2 := hF5a.f 0; have g3 := hF5a.f 1
  have HC5 := Lib.hid ((HC4.out.ext hxe).stepF (A := A) (by omega) (.cells #[.int .i64 qp, .int .i64 bp, .slice a5 m5 c5] 24) (.int .i64 u) (.int .i64 v)); have HX5 := Lib.hid ((HX4.out.ext hxe).stepF (A := A) (by omega) (.cells #[.int .i64 qp, .int .i64 bp, .slice a5 m5 c5] 24) (.int .i64 u) (.int .i64 v)); have HF5 := Lib.hid (hF5.stepF (.cells #[.int .i64 qp, .int .i64 bp, .slice a5 m5 c5] 24) u v)
  have HP5 := Lib.hid (newF (w := w5) (A := A) (qb := qp) (bi := bp) (ao := a5) (n := m5) (cp := c5) (by have := Hlt5.out; omega) (.int .i64 u) (.int .i64 v)); have HOx5 := Lib.hid ((HOx4.out.ext hxe).stepF hF5 (.cells #[.int .i64 qp, .int .i64 bp, .slice a5 m5 c5] 24) (.int .i64 u) (.int .i64 v)); have HOp5 := Lib.hid (hOp.stepF hF5 (.cells #[.int .i64 qp, .int .i64 bp, .slice a5 m5 c5] 24) (.int .i64 u) (.int .i64 v)); have HE5 := Lib.hid (ext_stepF (A := A) (HE4.out.trans hxe) (by omega) (.cells #[.int .i64 qp, .int .i64 bp, .slice a5 m5 c5] 24) (.int .i64 u) (.int .i64 v))
  have HX5c := HX5.out
  have Hs5 := Lib.hid (show (((w5.alloc (.cells #[.int .i64 qp, .int .i64 bp, .slice a5 m5 c5] 24)).setCell ⟨A, 0, none⟩ (.int .i64 u)).setCell ⟨A, 1, none⟩ (.int .i64 v)).heap.size = w5.heap.size + 1 by simp)
  have Htm := Lib.hid htm
  clear hdis hcase hpl hxe hF5 hF5a hOp HC4 HX4 HF4 HOx4 HE4 HPc Hdis d0 d1 d2 htm HX5c
  go_upto_region 10 with fail
  generalize (((w5.alloc (.cells #[.int .i64 qp, .int .i64 bp, .slice a5 m5 c5] 24)).setCell ⟨A, 0, none⟩ (.int .i64 u)).setCell ⟨A, 1, none⟩ (.int .i64 v)) = V5 at *
  clear g0 g1 g2 g3
  have x0 := HX5.out.x0; have x1 := HX5.out.x1; have x2 := HX5.out.x2
  obtain ⟨hxn5, hxm5, hxat5⟩ := opsO_at HOx5.out
  have HPx := Lib.hid (Power_yes ⟨qb, bi, invO ops⟩ ax n cx x V5 hxat5 hxn5 hxm5 (HS.out.ext HE5.out) (pur_iff.2 HPur.out.inv) hx0 hx1)
  simp only at HPx
  rw [Htm.out] at HPx
  clear hxat5
  go_wp2_with fail
  refine HPx.out.mono ?_
  rintro e w6 ⟨hdis, hxf⟩
  have hkey : ∃ (qq bq : Int) (qops : List Gop) (a6 : Option Addr) (m6 c6 : Nat), e = .returned (.tuple #[.agg #[.int .i64 qq, .int .i64 bq, .slice a6 m6 c6], .agg #[.int .i64 u, .int .i64 v]]) ∧ OpsO w6 0 (.slice a6 m6 c6) qops ∧ qops.length = m6 ∧ ((u = 2 ∧ v = 0) ∨ (u = 0 ∧ v = 0 ∧ (n = 0 ∨ tm ≤ 4096 / n) ∧ qp = qb ∧ bp = bi ∧ pops = repO tm (onceO x ops) ∧ qq = qb ∧ bq = bi ∧ qops = repO tm (onceO x (invO ops)))) := by
    rcases Hcase.out with ⟨k1, k2, k3, k4⟩ | ⟨k1, k2, k3, k4, k5, k6⟩
    · rcases hdis with ⟨h1, h2, h3⟩ | ⟨h1, a6, m6, c6, h2, h3, h4, h5, h6⟩
      · exact ⟨0, 0, [], none, 0, 0, by rw [k1, k2]; exact h3, OpsO.nil _ _, rfl, Or.inl ⟨k1, k2⟩⟩
      · omega
    · rcases hdis with ⟨h1, h2, h3⟩ | ⟨h1, a6, m6, c6, h2, h3, h4, h5, h6⟩
      · omega
      · exact ⟨qb, bi, _, a6, m6, c6, by rw [k1, k2]; exact h3, opsO_base h6 (Nat.zero_le _), h2.symm, Or.inr ⟨k1, k2, k3, k4, k5, k6, rfl, rfl, rfl⟩⟩
  obtain ⟨qq, bq, qops, a6, m6, c6, rfl, hOq, hql, hcase⟩ := hkey
  have s6 : (w6.alloc (.cells #[.int .i64 qq, .int .i64 bq, .slice a6 m6 c6] 24)).heap.size = w6.heap.size + 1 := by simp
  have E6 := (ext_al w6 (.cells #[.int .i64 qq, .int .i64 bq, .slice a6 m6 c6] 24)).trans (ext_al (w6.alloc (.cells #[.int .i64 qq, .int .i64 bq, .slice a6 m6 c6] 24)) (.cells #[.int .i64 u, .int .i64 v] 26))
  have bG : FtB ((w6.alloc (.cells #[.int .i64 qq, .int .i64 bq, .slice a6 m6 c6] 24)).alloc (.cells #[.int .i64 u, .int .i64 v] 26)) (w6.heap.size + 1) u v := by rw [← s6]; exact ⟨heap_alloc_new _ _⟩
  have bQ : CiB ((w6.alloc (.cells #[.int .i64 qq, .int .i64 bq, .slice a6 m6 c6] 24)).alloc (.cells #[.int .i64 u, .int .i64 v] 26)) w6.heap.size qq bq a6 m6 c6 := CiB.ext ⟨heap_alloc_new w6 _⟩ (ext_al _ _)
  have hE6 := hxf.trans E6
  have HC6 := Lib.hid (HC5.out.ext hE6); have HF6 := Lib.hid (HF5.out.ext hE6); have HP6 := Lib.hid (HP5.out.ext hE6); have HOp6 := Lib.hid (HOp5.out.ext hE6); have HE6 := Lib.hid (HE5.out.trans hE6); have HG6 := Lib.hid bG; have HQ6 := Lib.hid bQ; have HOq6 := Lib.hid (hOq.ext E6)
  have Hlt6 := Lib.hid (show A < w6.heap.size by have h1 := Hlt5.out; have h2 := Hs5.out; have h3 := hxf.size; omega)
  have Hcase6 := Lib.hid hcase; have Hql := Lib.hid hql
  have f0 := HF6.out.x0; have f1 := HF6.out.x1; have gg0 := bG.x0; have gg1 := bG.x1
  clear hdis hxf E6 bG bQ hE6 s6 hOq hql hcase HC5 HF5 HP5 HOp5 HOx5 HE5 HX5 HPx x0 x1 x2
  go_upto_region 13 with fail
  generalize (w6.alloc (.cells #[.int .i64 qq, .int .i64 bq, .slice a6 m6 c6] 24)).alloc (.cells #[.int .i64 u, .int .i64 v] 26) = V6 at *
  obtain ⟨Q, hQ⟩ : ∃ y, w6.heap.size = y := ⟨_, rfl⟩
  rw [hQ] at HQ6 HG6 Hlt6 gg0 gg1 ⊢
  clear hQ
  have hGl := HG6.out.lt
  obtain ⟨G, hG⟩ : ∃ y, Q + 1 = y := ⟨_, rfl⟩
  rw [hG] at HG6 gg0 gg1 hGl ⊢
  have HAG := Lib.hid (show A < G by have := Hlt6.out; omega); have HHA := Lib.hid (show w.heap.size < A by omega)
  have HGl := Lib.hid hGl
  clear hG hGl gg0 gg1 f1
  go_upto_if 60 with fail
  go_cut [11, 12] from 60 to 74 (fun s11 s12 wx => CiB wx w.heap.size qb bi ao n cp ∧ FtB wx A u v ∧ FtB wx G u v ∧ Ext w wx)
  case first =>
    rcases Hcase6.out with ⟨k1, k2⟩ | ⟨k1, k2, k3, k4, k5, k6, k7, k8, k9⟩
    · have q1 : (u == 0) = false := bf (by omega)
      clear k1 k2
      go_wp2_with fail
      go_meet
      exact ⟨HC6.out, HF6.out, HG6.out, HE6.out⟩
    · have q1 : (u == 0) = true := bt' k1
      have hlo : (onceO x (invO ops)).length = n := by rw [onceO_len]; unfold invO; rw [List.length_map, List.length_reverse]; exact Hl.out
      have hpq : Pur qb bi qops := by rw [k9]; exact (HPur.out.inv.once x).rep (by rw [hlo]; exact Hcon.out k3)
      have hip : invO qops = pops := by rw [k9, k6, invO_rep, once_inv HPur.out x]
      have hmm : m5 = m6 := by
        rw [← Hpl.out, ← Hql.out, ← hip]; unfold invO; rw [List.length_map, List.length_reverse]
      replace k7 := k7.symm; replace k8 := k8.symm; replace k4 := k4.symm; replace k5 := k5.symm
      subst k7; subst k8; subst k4; subst k5
      obtain ⟨hqn, hqm, hqat⟩ := opsO_at HOq6.out
      obtain ⟨hpn, hpm, hpat⟩ := opsO_at HOp6.out
      have HIq := Lib.hid (Inverse_yes ⟨qb, bi, qops⟩ a6 m6 c6 V6 hqat hqn hqm (HS.out.ext HE6.out) (pur_iff.2 hpq))
      simp only at HIq
      rw [hip] at HIq
      have Hmm := Lib.hid hmm
      have x0 := HQ6.out.x0; have x1 := HQ6.out.x1; have x2 := HQ6.out.x2
      clear hqat hpq hip hlo k1 k2 k3 k6 k9 hmm
      go_wp2_with fail
      refine HIq.out.mono ?_
      rintro e w7 ⟨⟨a7, c7, rfl, hc71, hc72, hOr⟩, hxg⟩
      have s7 : (w7.alloc (.cells #[.int .i64 qb, .int .i64 bi, .slice a7 m6 c7] 24)).heap.size = w7.heap.size + 1 := by simp
      have E7 := (ext_al w7 (.cells #[.int .i64 qb, .int .i64 bi, .slice a7 m6 c7] 24)).trans (ext_al (w7.alloc (.cells #[.int .i64 qb, .int .i64 bi, .slice a7 m6 c7] 24)) (.cells #[.int .i64 0, .int .i64 0] 26))
      have bK : FtB ((w7.alloc (.cells #[.int .i64 qb, .int .i64 bi, .slice a7 m6 c7] 24)).alloc (.cells #[.int .i64 0, .int .i64 0] 26)) (w7.heap.size + 1) 0 0 := by rw [← s7]; exact ⟨heap_alloc_new _ _⟩
      have bR : CiB ((w7.alloc (.cells #[.int .i64 qb, .int .i64 bi, .slice a7 m6 c7] 24)).alloc (.cells #[.int .i64 0, .int .i64 0] 26)) w7.heap.size qb bi a7 m6 c7 := CiB.ext ⟨heap_alloc_new w7 _⟩ (ext_al _ _)
      have hE7 := hxg.trans E7
      have HC7 := Lib.hid (HC6.out.ext hE7); have HF7 := Lib.hid (HF6.out.ext hE7); have HG7 := Lib.hid (HG6.out.ext hE7); have HE7 := Lib.hid (HE6.out.trans hE7)
      have hP7 := HP6.out.ext hE7
      have v0 := hP7.x0; have v1 := hP7.x1; have v2 := hP7.x2; have z0 := bR.x0; have z1 := bR.x1; have z2 := bR.x2; have t0 := bK.x0
      obtain ⟨hrn, hrm, hrat⟩ := opsO_at (hOr.ext E7)
      have hsm := sameCircuit_any ⟨qb, bi, pops⟩ a5 m5 c5 a7 c7 _ (hpat.ext hE7) (by rw [Hmm.out]; exact hrat) hpn hpm (by rw [Hmm.out]; exact hrn) hrm
      simp only at hsm
      rw [Hmm.out] at hsm v2
      have HSq := Lib.hid hsm
      clear hsm hrat hpat hP7 bR bK hE7 E7 s7 hxg hOr hc71 hc72 HIq x0 x1 x2 HC6 HF6 HG6 HE6 HP6 HQ6 HOp6 HOq6 f0
      go_upto_region 15 with fail
      generalize (w7.alloc (.cells #[.int .i64 qb, .int .i64 bi, .slice a7 m6 c7] 24)).alloc (.cells #[.int .i64 0, .int .i64 0] 26) = V7 at *
      go_wp2_with fail
      refine HSq.out.mono ?_
      rintro e w8 ⟨rfl, hxh⟩
      have HC8 := Lib.hid (HC7.out.ext hxh); have HF8 := Lib.hid (HF7.out.ext hxh); have HG8 := Lib.hid (HG7.out.ext hxh); have HE8 := Lib.hid (HE7.out.trans hxh)
      clear hxh HC7 HF7 HG7 HE7 v0 v1 v2 z0 z1 z2 t0
      go_wp2_with fail
      go_meet
      exact ⟨HC8.out, HF8.out, HG8.out, HE8.out⟩
  case rest =>
  obtain ⟨hC9, hF9, hG9, hE9⟩ := hcut
  clear HC6 HF6 HG6 HE6 HP6 HQ6 HOp6 HOq6 Hcase6 Hql Hpl Hcase f0
  have y0 := hC9.x0; have y1 := hC9.x1; have y2 := hC9.x2
  have HC9 := Lib.hid hC9; have HF9 := Lib.hid hF9; have HG9 := Lib.hid hG9; have HE9 := Lib.hid hE9
  clear hC9 hF9 hG9 hE9
  generalize wc = V9 at *
  obtain ⟨hck, _⟩ := pur_zero (pur_iff.2 HPur.out)
  obtain ⟨hcz, _⟩ := chk_zero hck
  have HPp := Lib.hid (HPr.out V9 HE9.out)
  unfold prnV at HPp
  rw [if_pos hck, hcz] at HPp
  simp only at HPp
  obtain ⟨S, hSd⟩ : ∃ y, prn ⟨qb, bi, ops⟩ = y := ⟨_, rfl⟩
  rw [hSd] at HPp
  have HPs := Lib.hid (fun wx (hx : Ext w wx) (hlen : S.length ≤ 1000000) => HPa.out wx hx hck (by rw [hSd]; exact hlen))
  rw [hSd] at HPs
  clear hcz hSd hck
  go_wp2_with fail
  refine HPp.out.mono ?_
  rintro e wa ⟨rfl, hxi⟩
  have hFa := HF9.out.ext hxi
  have g0 := hFa.x0; have g1 := hFa.x1; have g2 := hFa.f 0; have g3 := hFa.f 1
  have hOnl := onlyF wa A (.int .i64 0) (.int .i64 0)
  have HCa := Lib.hid (show CiB ((wa.setCell ⟨A, 0, none⟩ (.int .i64 0)).setCell ⟨A, 1, none⟩ (.int .i64 0)) w.heap.size qb bi ao n cp from ⟨(hOnl.block _ (by have := HHA.out; omega)).trans (HC9.out.ext hxi).row⟩)
  have HGa := Lib.hid (show FtB ((wa.setCell ⟨A, 0, none⟩ (.int .i64 0)).setCell ⟨A, 1, none⟩ (.int .i64 0)) G u v from ⟨(hOnl.block _ (by have := HAG.out; omega)).trans (HG9.out.ext hxi).row⟩)
  have HFa := Lib.hid (hFa.put 0 0)
  have HEa := Lib.hid (cput (o := 1) (cput (o := 0) (HE9.out.trans hxi) (Nat.le_of_lt HHA.out) (.int .i64 0)) (Nat.le_of_lt HHA.out) (.int .i64 0))
  clear hxi hFa hOnl HC9 HF9 HG9 HE9 HPp y0 y1 y2
  go_upto_region 18 with fail
  generalize (wa.setCell ⟨A, 0, none⟩ (.int .i64 0)).setCell ⟨A, 1, none⟩ (.int .i64 0) = Va at *
  clear g0 g1 g2 g3
  by_cases hlen : S.length ≤ 1000000
  · go_wp2_with fail
    refine (HPs.out Va HEa.out hlen).mono ?_
    rintro e wb ⟨⟨az, cz, rfl, hz1, hz2, hOz⟩, hxj⟩
    rw [Hl.out] at hz1 hOz ⊢
    have hGb := HGa.out.ext hxj
    have hGc := hGb.ext (ext_al wb (.cells #[.int .i64 qb, .int .i64 bi, .slice az n cz] 24))
    have g0 := hGc.x0; have g1 := hGc.x1; have g2 := hGc.f 0; have g3 := hGc.f 1
    have HCb := Lib.hid ((HCa.out.ext hxj).stepF (A := G) (by have := HAG.out; have := HHA.out; omega) (.cells #[.int .i64 qb, .int .i64 bi, .slice az n cz] 24) (.int .i64 0) (.int .i64 0)); have HFb := Lib.hid ((HFa.out.ext hxj).farF (A := G) (by have := HAG.out; omega) (.cells #[.int .i64 qb, .int .i64 bi, .slice az n cz] 24) (.int .i64 0) (.int .i64 0)); have HGb := Lib.hid (hGb.stepF (.cells #[.int .i64 qb, .int .i64 bi, .slice az n cz] 24) 0 0)
    have HZb := Lib.hid (newF (w := wb) (A := G) (qb := qb) (bi := bi) (ao := az) (n := n) (cp := cz) (by have := hGb.lt; omega) (.int .i64 0) (.int .i64 0)); have HOb := Lib.hid (hOz.stepF hGb (.cells #[.int .i64 qb, .int .i64 bi, .slice az n cz] 24) (.int .i64 0) (.int .i64 0)); have HEb := Lib.hid (ext_stepF (A := G) (HEa.out.trans hxj) (by have := HAG.out; have := HHA.out; omega) (.cells #[.int .i64 qb, .int .i64 bi, .slice az n cz] 24) (.int .i64 0) (.int .i64 0))
    clear hxj hGb hGc hOz hz1 hz2 HCa HFa HGa HEa hlen HPs
    go_upto_region 19 with fail
    generalize (((wb.alloc (.cells #[.int .i64 qb, .int .i64 bi, .slice az n cz] 24)).setCell ⟨G, 0, none⟩ (.int .i64 0)).setCell ⟨G, 1, none⟩ (.int .i64 0)) = Vb at *
    clear g0 g1 g2 g3
    have f0 := HFb.out.x0; have j0 := HGb.out.x0
    have c0 := HCb.out.x0; have c1 := HCb.out.x1; have c2 := HCb.out.x2; have e0 := HZb.out.x0; have e1 := HZb.out.x1; have e2 := HZb.out.x2
    obtain ⟨hzn, hzm, hzat⟩ := opsO_at HOb.out
    have HSz := Lib.hid (HSm.out Vb HEb.out az cz hzat hzn hzm)
    clear hzat
    go_wp2_with fail
    refine HSz.out.mono ?_
    rintro e wd ⟨rfl, hxk⟩
    have HEd := Lib.hid (HEb.out.trans hxk)
    clear hxk
    go_wp2_with fail
    go_ret
    exact ⟨rfl, HEd.out⟩
  · have HLg := Lib.hid (parse_long S Va (by omega))
    clear hlen
    go_wp2_with fail
    refine HLg.out.mono ?_
    rintro e wb ⟨rfl, hxj⟩
    have hGb := HGa.out.ext hxj
    have hGc := hGb.ext (ext_al wb (.cells #[.int .i64 0, .int .i64 0, .slice none 0 0] 24))
    have g0 := hGc.x0; have g1 := hGc.x1; have g2 := hGc.f 0; have g3 := hGc.f 1
    have HFb := Lib.hid ((HFa.out.ext hxj).farF (A := G) (by have := HAG.out; omega) (.cells #[.int .i64 0, .int .i64 0, .slice none 0 0] 24) (.int .i64 2) (.int .i64 0)); have HGb := Lib.hid (hGb.stepF (.cells #[.int .i64 0, .int .i64 0, .slice none 0 0] 24) 2 0)
    have HEb := Lib.hid (ext_stepF (A := G) (HEa.out.trans hxj) (by have := HAG.out; have := HHA.out; omega) (.cells #[.int .i64 0, .int .i64 0, .slice none 0 0] 24) (.int .i64 2) (.int .i64 0))
    clear hxj hGb hGc HCa HFa HGa HEa HPs HLg
    go_upto_region 19 with fail
    generalize (((wb.alloc (.cells #[.int .i64 0, .int .i64 0, .slice none 0 0] 24)).setCell ⟨G, 0, none⟩ (.int .i64 2)).setCell ⟨G, 1, none⟩ (.int .i64 0)) = Vb at *
    clear g0 g1 g2 g3
    have f0 := HFb.out.x0; have j0 := HGb.out.x0
    go_wp2_with fail
    go_ret
    exact ⟨rfl, HEb.out⟩

end Go.Proofs.YtfjbhiihfibbaaaDoor
