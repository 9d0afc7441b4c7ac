/-
  divDigit: one digit of a long quotient; what is left stands where the part stood.
-/
import Derived.Test.YtfjbhiihfibbaaaDoorMDivW
import Derived.Deep.RegionHeld3
import Derived.Test.YtfjbhiihfibbaaaDoorMAdd

namespace Go.Proofs.YtfjbhiihfibbaaaDoor
open Go.RowKit

theorem seg_take (L : List Nat) (o n m : Nat) (h : m ≤ n) : (seg L o n).take m = seg L o m := by
  unfold seg; rw [List.take_take, Nat.min_eq_left h]

/-- A row whose word behind the part is set: the part is all that counts. -/
theorem seg_top {L M : List Nat} {o n x : Nat} (hT : Turned L M o n) (hn : o + (n + 1) ≤ L.length) : val (seg (M.set (o + n) x) o (n + 1)) = val (seg M o n) + B64 ^ n * x ∧ Turned L (M.set (o + n) x) o (n + 1) := by
  constructor
  · rw [seg_step hT x (by omega), val_snoc, seg_length M o n (by rw [hT.1]; omega)]
  · exact hT.step x

theorem Turned.trans {L M N : List Nat} {o n : Nat} (h : Turned L M o n) (k : Turned M N o n) : Turned L N o n := ⟨k.1.trans h.1, fun t ht => (k.2 t ht).trans (h.2 t ht)⟩

theorem addBack {P0 P0' r b X carry : Nat} (h : P0' + X * carry = P0 + b) (hb : P0 + b = r + X) (_hr : r < X) (hP : P0' < X) (hc : carry ≤ 1) : carry = 1 ∧ P0' = r := by
  have : carry = 0 ∨ carry = 1 := by omega
  rcases this with rfl | rfl
  · omega
  · exact ⟨rfl, by omega⟩

theorem Only.undrawn {b : Nat} {w w' : World} (h : Only b w.drew w') : Only b w w' := ⟨h.os, h.tape, h.output, h.size, h.block⟩

theorem divDigit_back {L N M' lb : List Nat} {b o n G1 : Nat} {w w5 : World} (hn : o + (n + 1) ≤ L.length) (hr' : Row w5 b M') (hd' : Dig M') (hT5 : Turned L N o (n + 1)) (hT' : Turned N M' o n) (hO : Only b w w5)
    (hv : val (seg M' o n) = val (seg L o (n + 1)) % val lb) (hG1 : G1 = val (seg L o (n + 1)) / val lb) (hG1b : G1 < B64) :
    ∃ (M : List Nat) (q : Nat), Ending.returned (.int .u64 (G1 : Int)) = .returned (.int .u64 q) ∧ q < B64 ∧ Row (w5.setCell ⟨b, o + n, none⟩ (.int .u64 0)) b M ∧ Dig M ∧ Turned L M o (n + 1) ∧ Only b w (w5.setCell ⟨b, o + n, none⟩ (.int .u64 0)) ∧ q = val (seg L o (n + 1)) / val lb ∧ val (seg M o (n + 1)) = val (seg L o (n + 1)) % val lb := by
  have hl : N.length = L.length := hT5.1
  have hst := seg_top (x := 0) hT' (by omega)
  refine ⟨M'.set (o + n) 0, G1, rfl, hG1b, hr'.set _ 0, hd'.set _ _ B64_pos, ?_, hO.setCell _ _, hG1, by rw [hst.1, hv]; omega⟩
  exact hT5.trans hst.2

end Go.Proofs.YtfjbhiihfibbaaaDoor
