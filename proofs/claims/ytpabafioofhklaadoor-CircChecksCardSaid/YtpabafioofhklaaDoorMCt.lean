/-
  CircChecks: the walk.
-/
import Derived.Test.YtpabafioofhklaaDoorMCs
import Derived.Test.YtpabafioofhklaaDoorMBs
import Derived.Test.YtpabafioofhklaaDoorMCj

namespace Go.Proofs.YtpabafioofhklaaDoor
open Go.RowKit

theorem tly_six (c : Gci) : ∃ t0 t1 t2 t3 t4 t5 : Int, tlyV c = .agg #[.int .i64 t0, .int .i64 t1, .int .i64 t2, .int .i64 t3, .int .i64 t4, .int .i64 t5] := by
  unfold tlyV
  split
  · exact ⟨_, _, _, _, _, _, rfl⟩
  · exact ⟨_, _, _, _, _, _, rfl⟩

set_option maxHeartbeats 8000000 in
set_option maxRecDepth 100000 in
theorem checks_walk (c : Gci) (ao : Option Addr) (n cp : Nat) (w : World) (h : OpsAt w ao n c.ops) (hn : n ≤ cp) (hcp : cp ≤ 9223372036854775807) (hbn : n * 80 ≤ 140737488355328) (hbl : ∀ g ∈ c.ops, g.ctl.length * 8 ≤ 140737488355328 ∧ g.cnd.length * 8 ≤ 140737488355328) (hS : Shp w) :
    Calls Tryd.prog 3 #[.agg #[.int .i64 c.qubits, .int .i64 c.bits, .slice ao n cp]] w fun e w' => e = .returned (.bool true) ∧ Ext w w' := by
  have hmx : ∀ {k : Nat}, k ≤ maxLen → k ≤ 9223372036854775807 := fun h => h
  obtain ⟨t0, t1, t2, t3, t4, t5, ht⟩ := tly_six c
  obtain ⟨f, hf⟩ : ∃ f, chk c = f := ⟨_, rfl⟩
  obtain ⟨p, hp⟩ : ∃ p, pur c = p := ⟨_, rfl⟩
  obtain ⟨f0, f1⟩ := f
  obtain ⟨p0, p1⟩ := p
  have HCp := Lib.hid (fun wx (hx : Ext w wx) => CopyCircuit_any c ao n cp wx (h.ext hx) hbn hbl)
  have HCn := Lib.hid (fun wx (hx : Ext w wx) a' c' (hO : OpsAt wx a' n c.ops) (h1 : n ≤ c') (h2 : c' ≤ maxLen) => Count_any c a' n c' wx hO h1 (hmx h2) (hS.ext hx))
  have HRn := Lib.hid (fun wx (hx : Ext w wx) => RCount_any c ao n cp wx (h.ext hx) hn hcp)
  have HCk := Lib.hid (fun wx (hx : Ext w wx) a' c' (hO : OpsAt wx a' n c.ops) (h1 : n ≤ c') (h2 : c' ≤ maxLen) => Check_any c a' n c' wx hO h1 (hmx h2) (hS.ext hx))
  have HRk := Lib.hid (fun wx (hx : Ext w wx) => RCheck_any c ao n cp wx (h.ext hx) hn hcp)
  have HCu := Lib.hid (fun wx (hx : Ext w wx) a' c' (hO : OpsAt wx a' n c.ops) (h1 : n ≤ c') (h2 : c' ≤ maxLen) => Pure_any c a' n c' wx hO h1 (hmx h2) (hS.ext hx))
  have HRu := Lib.hid (fun wx (hx : Ext w wx) => RPure_any c ao n cp wx (h.ext hx) hn hcp)
  have HBg := Lib.hid (fun wx (hx : Ext w wx) => circBegun_any wx (hS.ext hx))
  rw [ht, hf] at HCn HRn
  rw [hf] at HCk HRk
  rw [hp] at HCu HRu
  clear ht hf hp h hS hbn hbl
  obtain ⟨qb, bi, ops⟩ := c
  simp only at HCp HCn HRn HCk HRk HCu HRu ⊢
  have EC := ext_al w (.cells #[.int .i64 qb, .int .i64 bi, .slice ao n cp] 24)
  have bC : CiB (w.alloc (.cells #[.int .i64 qb, .int .i64 bi, .slice ao n cp] 24)) w.heap.size qb bi ao n cp := ⟨heap_alloc_new w _⟩
  have d0 := bC.x0; have d1 := bC.x1; have d2 := bC.x2
  go_enter Tryd.func3, Tryd.ntmps3
  go_wp2_with fail
  generalize w.alloc (.cells #[.int .i64 qb, .int .i64 bi, .slice ao n cp] 24) = W0 at *
  refine (HCp.out _ EC).mono ?_
  rintro e w1 ⟨⟨a1, c1, rfl, m1, x1, K1⟩, hx1⟩
  have E1 := EC.trans hx1
  clear d0 d1 d2
  go_wp2_with fail
  refine (HCn.out w1 E1 a1 c1 K1 m1 x1).mono ?_
  rintro e w2 ⟨rfl, hx2⟩
  have E2 := E1.trans hx2
  have bA0 := tlb_new w2 t0 t1 t2 t3 t4 t5
  have Ea := ext_al w2 (.cells #[.int .i64 t0, .int .i64 t1, .int .i64 t2, .int .i64 t3, .int .i64 t4, .int .i64 t5] 26)
  have hsa : (w2.alloc (.cells #[.int .i64 t0, .int .i64 t1, .int .i64 t2, .int .i64 t3, .int .i64 t4, .int .i64 t5] 26)).heap.size = w2.heap.size + 1 := by simp
  have bF0 : FtB ((w2.alloc (.cells #[.int .i64 t0, .int .i64 t1, .int .i64 t2, .int .i64 t3, .int .i64 t4, .int .i64 t5] 26)).alloc (.cells #[.int .i64 f0, .int .i64 f1] 28)) (w2.alloc (.cells #[.int .i64 t0, .int .i64 t1, .int .i64 t2, .int .i64 t3, .int .i64 t4, .int .i64 t5] 26)).heap.size f0 f1 := ⟨heap_alloc_new _ _⟩
  have Eb := ext_al (w2.alloc (.cells #[.int .i64 t0, .int .i64 t1, .int .i64 t2, .int .i64 t3, .int .i64 t4, .int .i64 t5] 26)) (.cells #[.int .i64 f0, .int .i64 f1] 28)
  have bA1 := bA0.ext Eb
  rw [hsa] at bF0
  have E3 := (E2.trans Ea).trans Eb
  have bC3 := ((bC.ext hx1).ext hx2).ext (Ea.trans Eb)
  have d0 := bC3.x0; have d1 := bC3.x1; have d2 := bC3.x2
  clear K1 m1 x1 hx1 hx2 E1 E2 bA0 Ea Eb hsa bC
  go_wp2_with fail
  generalize (w2.alloc (.cells #[.int .i64 t0, .int .i64 t1, .int .i64 t2, .int .i64 t3, .int .i64 t4, .int .i64 t5] 26)).alloc (.cells #[.int .i64 f0, .int .i64 f1] 28) = W3 at *
  generalize w2.heap.size = A at *
  refine (HRn.out W3 E3).mono ?_
  rintro e w4 ⟨rfl, hx4⟩
  have E4 := E3.trans hx4
  have bB0 := tlb_new w4 t0 t1 t2 t3 t4 t5
  have Ea := ext_al w4 (.cells #[.int .i64 t0, .int .i64 t1, .int .i64 t2, .int .i64 t3, .int .i64 t4, .int .i64 t5] 26)
  have hsa : (w4.alloc (.cells #[.int .i64 t0, .int .i64 t1, .int .i64 t2, .int .i64 t3, .int .i64 t4, .int .i64 t5] 26)).heap.size = w4.heap.size + 1 := by simp
  have bG0 : FtB ((w4.alloc (.cells #[.int .i64 t0, .int .i64 t1, .int .i64 t2, .int .i64 t3, .int .i64 t4, .int .i64 t5] 26)).alloc (.cells #[.int .i64 f0, .int .i64 f1] 28)) (w4.alloc (.cells #[.int .i64 t0, .int .i64 t1, .int .i64 t2, .int .i64 t3, .int .i64 t4, .int .i64 t5] 26)).heap.size f0 f1 := ⟨heap_alloc_new _ _⟩
  have Eb := ext_al (w4.alloc (.cells #[.int .i64 t0, .int .i64 t1, .int .i64 t2, .int .i64 t3, .int .i64 t4, .int .i64 t5] 26)) (.cells #[.int .i64 f0, .int .i64 f1] 28)
  have bB1 := bB0.ext Eb
  rw [hsa] at bG0
  have E5 := (E4.trans Ea).trans Eb
  have Ex := hx4.trans (Ea.trans Eb)
  have bC5 := bC3.ext Ex; have bA5 := bA1.ext Ex; have bF5 := bF0.ext Ex
  clear hx4 E4 bB0 Ea Eb hsa d0 d1 d2 bC3 bA1 bF0 Ex E3 EC
  go_wp2_with fail
  generalize (w4.alloc (.cells #[.int .i64 t0, .int .i64 t1, .int .i64 t2, .int .i64 t3, .int .i64 t4, .int .i64 t5] 26)).alloc (.cells #[.int .i64 f0, .int .i64 f1] 28) = V at *
  generalize w4.heap.size = B at *
  have lC := bC5.lt; have lA := bA5.lt; have lA1 := bF5.lt; have lB := bB1.lt; have lB1 := bG0.lt
  have d0 := bC5.x0; have d1 := bC5.x1; have d2 := bC5.x2
  have ta0 := bA5.x0; have tb0 := bB1.x0
  have ta1 := bA5.x1; have tb1 := bB1.x1
  have ta2 := bA5.x2; have tb2 := bB1.x2
  have ta3 := bA5.x3; have tb3 := bB1.x3
  have ta4 := bA5.x4; have tb4 := bB1.x4
  have ta5 := bA5.x5; have tb5 := bB1.x5
  have fa0 := bF5.x0; have fa1 := bF5.x1; have fb0 := bG0.x0; have fb1 := bG0.x1
  have HE5 := Lib.hid E5
  have hVd : Ext V V.drew := Below.drew (Ext.refl _)
  have hVV : Ext V V := Ext.refl _
  clear bC5 bA5 bF5 bB1 bG0 E5 HCn HRn
  go_region_held3 (fun w' => w'.cell? ⟨w.heap.size, 0, none⟩ = some (.int .i64 qb) ∧ w'.cell? ⟨w.heap.size, 1, none⟩ = some (.int .i64 bi) ∧ w'.cell? ⟨w.heap.size, 2, none⟩ = some (.slice ao n cp) ∧ w'.cell? ⟨A, 0, none⟩ = some (.int .i64 t0) ∧ w'.cell? ⟨A, 1, none⟩ = some (.int .i64 t1) ∧ w'.cell? ⟨A, 2, none⟩ = some (.int .i64 t2) ∧ w'.cell? ⟨A, 3, none⟩ = some (.int .i64 t3) ∧ w'.cell? ⟨A, 4, none⟩ = some (.int .i64 t4) ∧ w'.cell? ⟨A, 5, none⟩ = some (.int .i64 t5) ∧ w'.cell? ⟨A + 1, 0, none⟩ = some (.int .i64 f0) ∧ w'.cell? ⟨A + 1, 1, none⟩ = some (.int .i64 f1) ∧ w'.cell? ⟨B, 0, none⟩ = some (.int .i64 t0) ∧ w'.cell? ⟨B, 1, none⟩ = some (.int .i64 t1) ∧ w'.cell? ⟨B, 2, none⟩ = some (.int .i64 t2) ∧ w'.cell? ⟨B, 3, none⟩ = some (.int .i64 t3) ∧ w'.cell? ⟨B, 4, none⟩ = some (.int .i64 t4) ∧ w'.cell? ⟨B, 5, none⟩ = some (.int .i64 t5) ∧ w'.cell? ⟨B + 1, 0, none⟩ = some (.int .i64 f0) ∧ w'.cell? ⟨B + 1, 1, none⟩ = some (.int .i64 f1))
    (exact ⟨ckeep (W := V) (by with_reducible assumption) lC d0, ckeep (W := V) (by with_reducible assumption) lC d1, ckeep (W := V) (by with_reducible assumption) lC d2, ckeep (W := V) (by with_reducible assumption) lA ta0, ckeep (W := V) (by with_reducible assumption) lA ta1, ckeep (W := V) (by with_reducible assumption) lA ta2, ckeep (W := V) (by with_reducible assumption) lA ta3, ckeep (W := V) (by with_reducible assumption) lA ta4, ckeep (W := V) (by with_reducible assumption) lA ta5, ckeep (W := V) (by with_reducible assumption) lA1 fa0, ckeep (W := V) (by with_reducible assumption) lA1 fa1, ckeep (W := V) (by with_reducible assumption) lB tb0, ckeep (W := V) (by with_reducible assumption) lB tb1, ckeep (W := V) (by with_reducible assumption) lB tb2, ckeep (W := V) (by with_reducible assumption) lB tb3, ckeep (W := V) (by with_reducible assumption) lB tb4, ckeep (W := V) (by with_reducible assumption) lB tb5, ckeep (W := V) (by with_reducible assumption) lB1 fb0, ckeep (W := V) (by with_reducible assumption) lB1 fb1⟩)
    (first
      | (have _ := hy6; go_at_call 13; refine (HRu.out u6 (HE5.out.trans hu6)).mono ?_; rintro e u7 ⟨rfl, hy7⟩; have hu7 : Ext V u7 := hu6.trans hy7)
      | (have _ := hy5; go_at_call 12; refine (HCu.out u5 (HE5.out.trans hu5) a5 c5 K5 m5 x5).mono ?_; rintro e u6 ⟨rfl, hy6⟩; have hu6 : Ext V u6 := hu5.trans hy6)
      | (have _ := hy4; go_at_call 7; refine (HCp.out u4 (HE5.out.trans hu4)).mono ?_; rintro e u5 ⟨⟨a5, c5, rfl, m5, x5, K5⟩, hy5⟩; have hu5 : Ext V u5 := hu4.trans hy5)
      | (have _ := hy3; go_at_call 11; refine (HRk.out u3 (HE5.out.trans hu3)).mono ?_; rintro e u4 ⟨rfl, hy4⟩; have hu4 : Ext V u4 := hu3.trans hy4)
      | (have _ := hy2; go_at_call 10; refine (HCk.out u2 (HE5.out.trans hu2) a2 c2 K2 m2 x2).mono ?_; rintro e u3 ⟨rfl, hy3⟩; have hu3 : Ext V u3 := hu2.trans hy3)
      | (have _ := hy1; go_at_call 7; refine (HCp.out u1 (HE5.out.trans hu1)).mono ?_; rintro e u2 ⟨⟨a2, c2, rfl, m2, x2, K2⟩, hy2⟩; have hu2 : Ext V u2 := hu1.trans hy2)
      | (go_at_call 9; refine (HBg.out _ (HE5.out.trans hVd)).mono ?_; rintro e u1 ⟨rfl, hy1⟩; have hu1 : Ext V u1 := hVd.trans hy1))
  have HEz := Lib.hid (HE5.out.trans hu7)
  go_wp2
  go_ret
  exact ⟨rfl, HEz.out⟩

end Go.Proofs.YtpabafioofhklaaDoor
