/-
  CircPrints: the walk.
-/
import Derived.Test.YtcbgonjgmbcbgabDoorMDk
import Derived.Test.YtcbgonjgmbcbgabDoorMDa
import Derived.Test.YtcbgonjgmbcbgabDoorMBw
import Derived.Test.YtcbgonjgmbcbgabDoorMBs
import Derived.Test.YtcbgonjgmbcbgabDoorMCj

namespace Go.Proofs.YtcbgonjgmbcbgabDoor
open Go.RowKit

set_option maxHeartbeats 8000000 in
set_option maxRecDepth 100000 in
theorem prints_walk (c : Gci) (ao : Option Addr) (n cp : Nat) (w : World) (h : OpsAt w ao n c.ops) (hn : n ≤ cp) (hcp : cp ≤ 9223372036854775807) (hbn : n * 80 ≤ 140737488355328) (hbl : ∀ g ∈ c.ops, g.ctl.length * 8 ≤ 140737488355328 ∧ g.cnd.length * 8 ≤ 140737488355328) (hS : Shp w) :
    Calls Tryd.prog 4 #[.agg #[.int .i64 c.qubits, .int .i64 c.bits, .slice ao n cp]] w fun e w' => e = .returned (.bool true) ∧ Ext w w' := by
  have hmx : ∀ {k : Nat}, k ≤ maxLen → k ≤ 9223372036854775807 := fun h => h
  obtain ⟨S, hs, hs0⟩ : ∃ S : List UInt8, prnV c = ⟨S.toArray⟩ ∧ ((chk c).1 = 0 → prn c = S) := by
    unfold prnV
    split
    · exact ⟨_, rfl, fun _ => rfl⟩
    · rename_i hne
      exact ⟨[], rfl, fun h => absurd h hne⟩
  have hlen : c.ops.length = n := h.1
  obtain ⟨f, hf⟩ : ∃ f, chk c = f := ⟨_, rfl⟩
  obtain ⟨f0, f1⟩ := f
  have HCp := Lib.hid (fun wx (hx : Ext w wx) => CopyCircuit_any c ao n cp wx (h.ext hx) hbn hbl)
  have HPr := Lib.hid (fun wx (hx : Ext w wx) a' c' (hO : OpsAt wx a' n c.ops) (h1 : n ≤ c') (h2 : c' ≤ maxLen) => Print_any c a' n c' wx hO h1 (hmx h2) (hS.ext hx))
  have HRp := Lib.hid (fun wx (hx : Ext w wx) => RPrint_any c ao n cp wx (h.ext hx) hn hcp)
  have HBg := Lib.hid (fun wx (hx : Ext w wx) => circBegun_any wx (hS.ext hx))
  have HPa := Lib.hid (fun wx (hx : Ext w wx) (h0 : f0 = 0) (hl : S.length ≤ 1000000) => show Calls Tryd.prog 15 #[.string ⟨S.toArray⟩] wx fun e w' => (∃ (a' : Option Addr) (c' : Nat), e = .returned (.tuple #[.agg #[.int .i64 c.qubits, .int .i64 c.bits, .slice a' n c'], .agg #[.int .i64 0, .int .i64 0]]) ∧ n ≤ c' ∧ c' ≤ maxLen ∧ OpsO w' (wx.heap.size + 5) (.slice a' n c') c.ops) ∧ Ext wx w' by
    have h0' : (chk c).1 = 0 := by rw [hf]; exact h0
    have hp := hs0 h0'
    have hk := parse_yes c wx (hS.ext hx) h0' (by rw [hp]; exact hl)
    rw [hp, hlen] at hk
    exact hk)
  have HSm := Lib.hid (fun wx (hx : Ext w wx) a' c' (hO : OpsAt wx a' n c.ops) (h1 : n ≤ c') (h2 : c' ≤ maxLen) => sameCircuit_any c ao n cp a' c' wx (h.ext hx) hO hn hcp h1 (hmx h2))
  rw [hs, hf] at HPr HRp
  have HLn := Lib.hid hlen
  clear hs hs0 hf h hS hbn hbl hlen
  obtain ⟨qb, bi, ops⟩ := c
  simp only at HCp HPr HRp HPa HSm HLn ⊢
  have EC := ext_al w (.cells #[.int .i64 qb, .int .i64 bi, .slice ao n cp] 24)
  have bC : CiB (w.alloc (.cells #[.int .i64 qb, .int .i64 bi, .slice ao n cp] 24)) w.heap.size qb bi ao n cp := ⟨heap_alloc_new w _⟩
  have d0 := bC.x0; have d1 := bC.x1; have d2 := bC.x2
  go_enter Tryd.func4, Tryd.ntmps4
  go_wp2_with fail
  generalize w.alloc (.cells #[.int .i64 qb, .int .i64 bi, .slice ao n cp] 24) = W0 at *
  refine (HCp.out _ EC).mono ?_
  rintro e w1 ⟨⟨a1, c1, rfl, m1, x1, K1⟩, hx1⟩
  have E1 := EC.trans hx1
  clear d0 d1 d2
  go_wp2_with fail
  refine (HPr.out w1 E1 a1 c1 K1 m1 x1).mono ?_
  rintro e w2 ⟨rfl, hx2⟩
  have E2 := E1.trans hx2
  have bF0 : FtB (w2.alloc (.cells #[.int .i64 f0, .int .i64 f1] 28)) w2.heap.size f0 f1 := ⟨heap_alloc_new _ _⟩
  have Eb := ext_al w2 (.cells #[.int .i64 f0, .int .i64 f1] 28)
  have E3 := E2.trans Eb
  have bC3 := (bC.ext (hx1.trans hx2)).ext Eb
  have d0 := bC3.x0; have d1 := bC3.x1; have d2 := bC3.x2
  have hCA0 : w.heap.size < w2.heap.size := (bC.ext (hx1.trans hx2)).lt
  clear K1 m1 x1 hx1 hx2 E1 E2 Eb bC
  go_wp2_with fail
  generalize w2.alloc (.cells #[.int .i64 f0, .int .i64 f1] 28) = W3 at *
  generalize w2.heap.size = A at *
  refine (HRp.out W3 E3).mono ?_
  rintro e w4 ⟨rfl, hx4⟩
  have E4 := E3.trans hx4
  have bG0 : FtB (w4.alloc (.cells #[.int .i64 f0, .int .i64 f1] 28)) w4.heap.size f0 f1 := ⟨heap_alloc_new _ _⟩
  have Eb := ext_al w4 (.cells #[.int .i64 f0, .int .i64 f1] 28)
  have E5 := E4.trans Eb
  have Ex := hx4.trans Eb
  have bC5 := bC3.ext Ex; have bF5 := bF0.ext Ex
  have hAB : A < w4.heap.size := Nat.lt_of_lt_of_le bF0.lt hx4.size
  clear hx4 E4 Eb d0 d1 d2 bC3 bF0 Ex E3 EC
  go_wp2_with fail
  generalize w4.alloc (.cells #[.int .i64 f0, .int .i64 f1] 28) = V at *
  generalize w4.heap.size = B at *
  refine (HBg.out V E5).mono ?_
  rintro e w6 ⟨rfl, hx6⟩
  have bC6 := bC5.ext hx6; have bF6 := bF5.ext hx6; have bG6 := bG0.ext hx6
  have E6 := E5.trans hx6
  clear E5 hx6 bC5 bF5 bG0
  have d0 := bC6.x0; have d1 := bC6.x1; have d2 := bC6.x2
  have fa0 := bF6.x0; have fa1 := bF6.x1; have fb0 := bG6.x0; have fb1 := bG6.x1
  have ff0 := bF6.f 0; have ff1 := bF6.f 1
  have HE6 := Lib.hid E6; have HC6 := Lib.hid bC6; have HF6 := Lib.hid bF6
  clear E6 bC6 bF6 bG6
  by_cases h0 : f0 = 0
  · subst h0
    by_cases hl : S.length ≤ 1000000
    · have hl1 : ¬ (1000000 : Int) < (S.length : Int) := by omega
      have hl2 : decide ((1000000 : Int) < (S.length : Int)) = false := df hl1
      have hBg := HF6.out.lt
      go_wp2_with fail
      refine (HPa.out w6 HE6.out (by trivial) hl).mono ?_
      rintro e w7 ⟨⟨a7, c7, rfl, m7, x7, K7⟩, hx7⟩
      have Eb := ext_al w7 (.cells #[.int .i64 qb, .int .i64 bi, .slice a7 n c7] 24)
      have E8 := hx7.trans Eb
      have bC8 := HC6.out.ext E8; have bF8 := HF6.out.ext E8
      have bD8 : CiB (w7.alloc (.cells #[.int .i64 qb, .int .i64 bi, .slice a7 n c7] 24)) w7.heap.size qb bi a7 n c7 := ⟨heap_alloc_new _ _⟩
      have hA7 : A < w7.heap.size := Nat.lt_of_lt_of_le hBg hx7.size
      have ho8 := K7.ext Eb
      have hcl : w.heap.size < w6.heap.size := HC6.out.lt
      have hO8 : Only A (w7.alloc (.cells #[.int .i64 qb, .int .i64 bi, .slice a7 n c7] 24)) (((w7.alloc (.cells #[.int .i64 qb, .int .i64 bi, .slice a7 n c7] 24)).setCell ⟨A, 0, none⟩ (.int .i64 0)).setCell ⟨A, 1, none⟩ (.int .i64 0)) := ((Only.refl _ _).setCell _ _).setCell _ _
      have ho9 := ho8.only bF8.row (by decide) hO8 (by simp) (by omega)
      have bC9 : CiB (((w7.alloc (.cells #[.int .i64 qb, .int .i64 bi, .slice a7 n c7] 24)).setCell ⟨A, 0, none⟩ (.int .i64 0)).setCell ⟨A, 1, none⟩ (.int .i64 0)) w.heap.size qb bi ao n cp := ⟨row_far (row_far bC8.row (by omega)) (by omega)⟩
      have bD9 : CiB (((w7.alloc (.cells #[.int .i64 qb, .int .i64 bi, .slice a7 n c7] 24)).setCell ⟨A, 0, none⟩ (.int .i64 0)).setCell ⟨A, 1, none⟩ (.int .i64 0)) w7.heap.size qb bi a7 n c7 := ⟨row_far (row_far bD8.row (by omega)) (by omega)⟩
      have bF9 : FtB (((w7.alloc (.cells #[.int .i64 qb, .int .i64 bi, .slice a7 n c7] 24)).setCell ⟨A, 0, none⟩ (.int .i64 0)).setCell ⟨A, 1, none⟩ (.int .i64 0)) A 0 0 := ⟨row_put (row_put bF8.row rfl) rfl⟩
      have E9 := cput (o := 1) (cput (o := 0) (HE6.out.trans E8) (Nat.le_of_lt hCA0) (.int .i64 0)) (Nat.le_of_lt hCA0) (.int .i64 0)
      have g0 := bF8.x0; have g1 := bF8.x1; have g2 := bF8.f 0; have g3 := bF8.f 1
      have HC9 := Lib.hid bC9; have HD9 := Lib.hid bD9; have HF9 := Lib.hid bF9; have HE9 := Lib.hid E9
      obtain ⟨a9, c9, ev9, u1, u2, hat9⟩ := ho9.at
      have hops : ops.length = n := HLn.out
      injection ev9 with e1 e2 e3
      clear e2
      subst e1; subst e3
      rw [hops] at hat9
      have Hat := Lib.hid hat9; have Hm7 := Lib.hid m7; have Hx7 := Lib.hid x7
      clear m7 x7
      clear fa0 fa1 fb0 fb1 ff0 ff1 d0 d1 d2 hx7 Eb E8 bC8 bF8 bD8 ho8 hO8 ho9 bC9 bD9 bF9 E9 hat9 K7 hops u1 u2
      clear hl hl1 hl2 HPa HCp HBg HPr HRp hn hcp hmx hcl hA7 hBg hAB HC6 HF6 HE6 hCA0
      go_upto_region 8 with fail
      generalize ((w7.alloc (.cells #[.int .i64 qb, .int .i64 bi, .slice a7 n c7] 24)).setCell ⟨A, 0, none⟩ (.int .i64 0)).setCell ⟨A, 1, none⟩ (.int .i64 0) = Wz at *
      clear g0 g1 g2 g3
      have z0 := HF9.out.x0; have z1 := HF9.out.x1; have y0 := HC9.out.x0; have y1 := HC9.out.x1; have y2 := HC9.out.x2; have v0 := HD9.out.x0; have v1 := HD9.out.x1; have v2 := HD9.out.x2
      go_wp2_with fail
      refine (HSm.out Wz HE9.out a7 c7 Hat.out Hm7.out Hx7.out).mono ?_
      rintro e wA ⟨rfl, hxA⟩
      have HEA := Lib.hid (HE9.out.trans hxA)
      go_wp2_with fail
      go_ret
      exact ⟨rfl, HEA.out⟩
    · have hl1 : (1000000 : Int) < (S.length : Int) := by omega
      have hl2 : decide ((1000000 : Int) < (S.length : Int)) = true := dt hl1
      go_wp2_with fail
      go_ret
      exact ⟨rfl, HE6.out⟩
  · go_wp2_with fail
    go_ret
    exact ⟨rfl, HE6.out⟩

end Go.Proofs.YtcbgonjgmbcbgabDoor
