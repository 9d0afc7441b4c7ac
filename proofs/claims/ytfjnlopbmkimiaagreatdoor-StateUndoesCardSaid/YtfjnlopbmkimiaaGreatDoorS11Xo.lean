/-
  A number of circuits as a text: Text. The roots of one, and one over the root of two: Root, Rt. What Text wrote is read as the same number, in plain lists. Make in one; Zero; how the ring begins. A region that draws its order, calls one function behind the other, and makes one or two variables that wait for nothing: the variables may be made ahead of, between or behind the calls. What is asked of the calls is asked once, in every world that extends the one at hand. The reference: bits of basis states; a basis state; what an outcome leaves. A gate's work as the reference does it: basis state by basis state, in plain numbers. Lists: what stands in one; conditions; controls. (The program's, and the reference's member.) Operations in memory; controls; the first fault of an operation, as the program finds it. Steps of a walk over a state: stores and loads of one amplitude; bits of places. The basis states in which some qubits are fixed, in their order: the next one. Nothing of the program stands here. The program: a set of qubits as a number.
-/
import Derived.Test.YtfjnlopbmkimiaaGreatDoorProg
import Derived.Test.YtfjnlopbmkimiaaGreatDoorRows
import Derived.BigQuiet
import Derived.Deep.AppendLies
import Derived.Deep.Cut
import Derived.Deep.CutRange
import Derived.Deep.LoopGhost
import Derived.Deep.MidRow
import Derived.Deep.QuietTactic
import Derived.Deep.RegionHeld3
import Derived.Ground.Names2Prog
import Derived.Laws.Bits64b
import Derived.Laws.CopyOwn
import Derived.Laws.IdiomCopy
import Derived.Laws.ResultCell
import Derived.Laws.Rows
import Derived.Lib.AppendIntMem
import Derived.Lib.AppendStr
import Derived.Lib.BitFns
import Derived.Lib.Hide
import Derived.Lib.ItoaMem
import Derived.Lib.ItoaNum
import Derived.Lib.Strings
import Derived.Lib.TrailingZeros
import Derived.OrdersHeld
import Derived.OwnWalk
import Derived.ProofKit
import Derived.RegionTactic
import Derived.Shelf.Bits.Mul64
import Derived.Shelf.LaysM
import Derived.Shelf.Slices.SearchI
import Derived.Shelf.Small.Bits
import Derived.Shelf.Small.Wraps
import Derived.Shelf.Spec.BitsCarry
import Derived.Shelf.Spec.TrailingZeros
import Derived.Shelf.Strconv.Itoa0
import Derived.Shelf.Strconv.Itoa1
import Derived.Shelf.Strconv.Itoa2
import Derived.Shelf.Strconv.Itoa3
import Derived.Shelf.Strings.Builder1
import Derived.Shelf.Strings.BuilderF
import Derived.Shelf.Strings.BuilderK
import Derived.WalkKit
import Derived.WalkLawsBesides
import Derived.WalkSpells
import Derived.Test.YtfjnlopbmkimiaaGreatDoorS00Mem
import Derived.Test.YtfjnlopbmkimiaaGreatDoorShelf
import Derived.Test.YtfjnlopbmkimiaaGreatDoorS02ShiftI
import Derived.Test.YtfjnlopbmkimiaaGreatDoorS03GuessD
import Derived.Test.YtfjnlopbmkimiaaGreatDoorS04IntB
import Derived.Test.YtfjnlopbmkimiaaGreatDoorS05IntD
import Derived.Test.YtfjnlopbmkimiaaGreatDoorS06GcB
import Derived.Test.YtfjnlopbmkimiaaGreatDoorS07Rg
import Derived.Test.YtfjnlopbmkimiaaGreatDoorS08ZC
import Derived.Test.YtfjnlopbmkimiaaGreatDoorS09Bw
import Derived.Test.YtfjnlopbmkimiaaGreatDoorS10TxT
namespace Go.Proofs.YtfjnlopbmkimiaaGreatDoor
open Go.RowKit

/-- The parts' texts with commas between them. -/
def jnT (f : Nat → Int) : Nat → List UInt8
  | 0 => []
  | i + 1 => jnT f i ++ (if 0 < i then [44] else []) ++ Lib.itoa (f i)
/-- The whole text. -/
def rtx (f : Nat → Int) : List UInt8 := jnT f (lenN f 8) ++ (if f 8 = 0 then [] else 47 :: Lib.itoa (f 8))
abbrev BldU (w : World) (b : Nat) (l : List UInt8) : Prop := Bld w b (Lib.byteCells l)
theorem Bld.ext {w w' : World} {b : Nat} {bs : List Value} (h : Bld w b bs) (k : Ext w w') : Bld w' b bs := by
  have go : ∀ p, Lib.BuilderAtF 110 5 b b p bs w → Lib.BuilderAtF 110 5 b b p bs w' := by
    rintro p ⟨h1, v, h2, h3, h4⟩
    refine ⟨h1, v, (k.block _ (Array.getElem?_eq_some_iff.1 h2).1).trans h2, ⟨h3.1, ?_⟩, h4⟩
    rcases h3.2 with h5 | ⟨g, cap, cur, fz, e1, e2, e3, e4⟩
    · exact Or.inl h5
    · exact Or.inr ⟨g, cap, cur, fz, e1, e2, (k.block _ (Array.getElem?_eq_some_iff.1 e3).1).trans e3, e4⟩
  rcases h with h | h
  · exact Or.inl (go _ h)
  · exact Or.inr (go _ h)
theorem ustr (b : Nat) (l : List UInt8) (s : ByteArray) (w : World) (h : BldU w b l) (hlen : l.length + s.size ≤ 140737488355328) :
    Calls Tryz.prog 59 #[.pointer (some ⟨b, 0, none⟩), .string s] w fun e w' => e = .returned (.tuple #[.int .i64 s.size, .nilIface]) ∧ BldU w' b (l ++ s.data.toList) ∧ Wrt b w w' := by
  refine (writeString_any b _ s w h (by rw [Lib.byteCells_length]; exact hlen)).mono ?_
  intro e w' hh
  refine ⟨hh.1, ?_, hh.2.2⟩
  have := hh.2.1
  rw [Lib.strCells_eq, ← Lib.byteCells_append] at this
  exact this
theorem ubyte (b : Nat) (l : List UInt8) (c : UInt8) (w : World) (h : BldU w b l) (hlen : l.length + 1 ≤ 140737488355328) :
    Calls Tryz.prog 58 #[.pointer (some ⟨b, 0, none⟩), .int .u8 (c.toNat : Int)] w fun e w' => e = .returned .nilIface ∧ BldU w' b (l ++ [c]) ∧ Wrt b w w' := by
  refine (writeByte_any b _ (c.toNat : Int) w h (by rw [Lib.byteCells_length]; exact hlen)).mono ?_
  intro e w' hh
  refine ⟨hh.1, ?_, hh.2.2⟩
  have := hh.2.1
  have e1 : Lib.byteCells (l ++ [c]) = Lib.byteCells l ++ [.int .u8 (c.toNat : Int)] := by rw [Lib.byteCells_append]; rfl
  rw [← e1] at this
  exact this
/-- A number's text is not too long. -/
theorem ritoa_len (z : Int) (P : Nat) (h : z.natAbs < 2 ^ P) : (Lib.itoa z).length ≤ P + 2 := by
  have h1 : (Lib.itoa z).length = (txt z).length := by unfold txt; rw [List.length_map]
  have h2 : (decN z.natAbs).length ≤ P + 1 := by
    rw [decN_length]
    refine nDigits_le (P + 1) _ (by omega) ?_
    have h3 : 2 ^ P ≤ 10 ^ P := Nat.pow_le_pow_left (by decide) P
    have h4 : 10 ^ P ≤ 10 ^ (P + 1) := Nat.pow_le_pow_right (by decide) (by omega)
    omega
  rw [h1]
  by_cases hz : z < 0
  · rw [txt_neg hz, List.length_cons]; omega
  · rw [txt_pos hz]; omega
theorem jnT_len (f : Nat → Int) (P : Nat) (h : ∀ i, i < 8 → (f i).natAbs < 2 ^ P) : ∀ i, i ≤ 8 → (jnT f i).length ≤ i * (P + 3)
  | 0, _ => by simp [jnT]
  | i + 1, hi => by
    have h1 := jnT_len f P h i (by omega)
    have h2 := ritoa_len (f i) P (h i (by omega))
    have h3 : (if 0 < i then ([44] : List UInt8) else []).length ≤ 1 := by split <;> simp
    simp only [jnT, List.length_append]
    rw [Nat.succ_mul]
    omega

set_option maxRecDepth 100000 in
set_option maxHeartbeats 4000000 in
theorem RText_nm (ca : Array Value) (x : Nm) (P E : Nat) (w : World) (h : NmA w ca x P E) (K : Nat) (hK : K ≤ 100000) (hK1 : 1 ≤ K) (hP : P ≤ 64 * K) (hE : E ≤ 1099511627776) (hT : Ten w) :
    Calls Tryz.prog 28 #[.agg ca] w fun e w' => e = .returned (.string ⟨(rtx (nmF x)).toArray⟩) ∧ Ext w w' := by
  obtain ⟨f, hf⟩ : ∃ f, nmF x = f := ⟨_, rfl⟩
  rw [hf]
  have hv := h.val
  rw [hf] at hv
  have hF : ∀ i, i < 8 → (f i).natAbs < 2 ^ P := fun i hi => by have := nmF_abs h.abs i hi; rw [hf] at this; exact this
  have hf8 : f 8 = ((x.e : Nat) : Int) := by rw [← hf]; rfl
  have hd := h.down
  have HFit := Lib.hid (show ∀ i, i < 9 → Fit K (f i) from fun i hi => by
    by_cases e : i = 8
    · rw [e, hf8]
      exact fit_small (z := ((x.e : Nat) : Int)) (by omega) hK1
    · exact fit_pow (hF i (by omega)) hP)
  have h8b : (Lib.itoa (f 8)).length ≤ 66 := ritoa_len (f 8) 64 (by rw [hf8]; omega)
  obtain ⟨L, hL⟩ : ∃ L, lenN f 8 = L := ⟨_, rfl⟩
  have hL8 : L ≤ 8 := by rw [← hL]; exact lenN_le f 8
  have hjl := jnT_len f P hF
  have HjL := Lib.hid (show ∀ i, i ≤ 8 → (jnT f i).length ≤ 51200024 from fun i hi => by
    have h1 := hjl i hi
    have h2 : i * (P + 3) ≤ 8 * (P + 3) := Nat.mul_le_mul_right _ hi
    omega)
  have HiL := Lib.hid (show ∀ i, i < 8 → (Lib.itoa (f i)).length ≤ 6400002 from fun i hi => by
    have h1 := ritoa_len (f i) P (hF i hi)
    omega)
  have hrtx : rtx f = jnT f L ++ (if f 8 = 0 then [] else 47 :: Lib.itoa (f 8)) := by unfold rtx; rw [hL]
  obtain ⟨R, hR⟩ : ∃ R, rtx f = R := ⟨_, rfl⟩
  rw [hR]
  have HR := Lib.hid (hR.symm.trans hrtx)
  obtain ⟨H, hH⟩ : ∃ H, w.heap.size = H := ⟨_, rfl⟩
  obtain ⟨W0, hW0⟩ : ∃ W0, w.alloc (.cells ca 78) = W0 := ⟨_, rfl⟩
  obtain ⟨U, hU⟩ : ∃ U, W0.alloc (.cells #[.pointer none, .slice none 0 0] 110) = U := ⟨_, rfl⟩
  have s0 : W0.heap.size = H + 1 := by rw [← hW0, ← hH]; simp
  have e0 : Ext w W0 := by rw [← hW0]; exact Ext.alloc _ _
  have N0 : Nums W0 H 9 78 f := by rw [← hW0, ← hH]; exact hv.box 78
  have e1 : Ext W0 U := by rw [← hU]; exact Ext.alloc _ _
  have B0 : BldU U (H + 1) [] := by rw [← hU, ← s0]; exact bld_new W0
  have hUU : (w.alloc (.cells ca 78)).alloc (.cells #[.pointer none, .slice none 0 0] 110) = U := by rw [hW0, hU]
  have HLn := Lib.hid (rowLength_any H 9 78 f U (N0.ext e1) (by decide))
  rw [hL] at HLn
  have HU := Lib.hid hUU; have HH := Lib.hid hH; have HN0 := Lib.hid N0; have He0 := Lib.hid e0; have He1 := Lib.hid e1; have HB0 := Lib.hid B0; have HL8 := Lib.hid hL8; have Hs0 := Lib.hid s0; have HT := Lib.hid hT; have HK := Lib.hid hK; have H8b := Lib.hid h8b
  clear hUU hU hW0 hH s0 e0 e1 N0 B0 hv hF hf8 hd h hf hL hL8 hjl hrtx hR hT hK hK1 hP hE h8b
  go_enter Tryz.func28, Tryz.ntmps28
  go_wp2_with fail
  rw [HU.out, HH.out]
  clear HU
  refine HLn.out.mono ?_
  rintro e w1 ⟨rfl, hx1⟩
  have Hst := Lib.hid (show BldU w1 (H + 1) (jnT f 0) ∧ Ext W0 w1 from ⟨HB0.out.ext hx1, He1.out.trans hx1⟩)
  clear hx1 HB0 He1 HLn
  go_wp2_with fail
  go_loopg [4, 7] L (fun kk s4 s7 wr => ∃ j : Nat, s7 = .int .i64 (j : Int) ∧ j ≤ L ∧ L - j = kk ∧ BldU wr (H + 1) (jnT f j) ∧ Ext W0 wr)
  case atStart => exact ⟨0, rfl, by omega, by omega, Hst.out⟩
  case round =>
    clear Hst
    obtain ⟨j, rfl, hj, hjk, hB, hE⟩ := hrel
    obtain ⟨wo, rfl⟩ : ∃ wo : World, wo = wr := ⟨_, rfl⟩
    by_cases hjL : j = L
    · have q0 : ¬ (j : Int) < (L : Int) := by omega
      subst hjL
      obtain ⟨s8, a8, n8, c8, l16, l17, _, _, hI8⟩ := (HN0.out.ext hE).get 8 (by decide)
      have lH := (HN0.out.ext hE).lt
      have HI8 := Lib.hid hI8; have Hc := Lib.hid hI8.cmp3; have HB := Lib.hid hB; have HE := Lib.hid hE
      have Hs := Lib.hid (Sign_any s8 (.slice a8 n8 c8))
      clear hI8 hB hE hjk hj q0
      go_wp2_with fail
      refine (Hs.out wo).mono ?_
      rintro e w2 ⟨rfl, hx2⟩
      have HB2 := Lib.hid (HB.out.ext hx2); have HE2 := Lib.hid (HE.out.trans hx2)
      clear hx2 HB HE Hs l16 l17
      rw [Hc.out]
      clear Hc
      go_upto_if 23 with fail
      go_cut [] from 23 to 28 (fun wx => BldU wx (H + 1) R ∧ Ext W0 wx)
      case first =>
        by_cases hz : f 8 = 0
        · have b1 : (cmp3 (f 8) 0 != 0) = false := rne_f (cmp3_zero.2 hz)
          have HRz := Lib.hid (show R = jnT f j by rw [HR.out, if_pos hz]; simp)
          clear hz
          go_wp2_with fail
          go_meet
          exact ⟨by rw [HRz.out]; exact HB2.out, HE2.out⟩
        · have b1 : (cmp3 (f 8) 0 != 0) = true := rne_t fun e => hz (cmp3_zero.1 e)
          have HRz := Lib.hid (show R = (jnT f j ++ [47]) ++ Lib.itoa (f 8) by rw [HR.out, if_neg hz]; simp)
          have HW := Lib.hid (ubyte (H + 1) (jnT f j) 47 w2 HB2.out (by have := HjL.out j HL8.out; omega))
          clear hz
          go_wp2_with fail
          refine HW.out.mono ?_
          rintro e w3 ⟨rfl, hB3, hW3⟩
          have hE3 : Ext W0 w3 := hW3.ext HE2.out (Nat.le_of_eq Hs0.out)
          obtain ⟨t8, b8, m8, d8, l16, l17, _, _, hI⟩ := (HN0.out.ext hE3).get 8 (by decide)
          have HTx := Lib.hid (Text_any t8 b8 m8 d8 (f 8) w3 hI (by have h1 := hI.len (HFit.out 8 (by decide)); have h2 := HK.out; omega) (tab_ext HT.out (He0.out.trans hE3)))
          have HB3 := Lib.hid hB3; have HE3 := Lib.hid hE3
          clear hB3 hW3 hE3 hI HW HB2 HE2 b1
          go_wp2_with fail
          refine HTx.out.mono ?_
          rintro e w4 ⟨rfl, hx4⟩
          have HWs := Lib.hid (ustr (H + 1) (jnT f j ++ [47]) ⟨(Lib.itoa (f 8)).toArray⟩ w4 (HB3.out.ext hx4) (by
            have h1 := HjL.out j HL8.out; have h2 := H8b.out
            simp only [List.length_append, List.length_cons, List.length_nil, ByteArray.size, List.size_toArray]; omega))
          have HE4 := Lib.hid (HE3.out.trans hx4)
          clear hx4 HTx HB3 HE3 l16 l17
          go_wp2_with fail
          refine HWs.out.mono ?_
          rintro e w5 ⟨rfl, hB5, hW5⟩
          have Hend := Lib.hid (show BldU w5 (H + 1) R ∧ Ext W0 w5 from ⟨by rw [HRz.out]; exact hB5, hW5.ext HE4.out (Nat.le_of_eq Hs0.out)⟩)
          clear hB5 hW5 HWs HE4 HRz
          go_wp2_with fail
          go_meet
          exact Hend.out
      case rest =>
      obtain ⟨hB, hE⟩ := hcut
      obtain ⟨w6, rfl⟩ : ∃ w6 : World, w6 = wc := ⟨_, rfl⟩
      have hbl := hB.lt
      have HC := Lib.hid (Tryz.Builder_String_any_f (H + 1) (H + 1) _ w6 hB (by omega))
      have HE := Lib.hid hE
      clear hB hE
      go_wp2_with fail
      refine HC.out.mono ?_
      rintro e w7 ⟨rfl, _, hb7⟩
      have HE7 := Lib.hid (He0.out.trans (Below.trans HE.out (hb7.mono (Nat.le_of_eq Hs0.out))))
      clear hb7 HC HE
      go_wp2_with fail
      go_ret
      exact ⟨rfl, HE7.out⟩
    have q0 : (j : Int) < (L : Int) := by omega
    have q1 : (0 : Int) ≤ (j : Int) := by omega
    have q2 : (j : Int) < 8 := by have := HL8.out; omega
    have wk : IntKind.i64.wrap ((j : Int) + 1) = ((j + 1 : Nat) : Int) := by have := HL8.out; rw [IntKind.wrap_i64]; omega
    have Hj8 := Lib.hid (show j < 8 by have := HL8.out; omega)
    have Hj1 := Lib.hid (show j + 1 ≤ L by omega)
    have HB := Lib.hid hB; have HE := Lib.hid hE; have Hjk := Lib.hid hjk
    clear hB hE hjk hjL hj
    go_upto_if 11 with fail
    go_cut [] from 11 to 12 (fun wx => BldU wx (H + 1) (jnT f j ++ (if 0 < j then [44] else [])) ∧ Ext W0 wx)
    case first =>
      by_cases hj0 : 0 < j
      · have b1 : (0 : Int) < (j : Int) := by omega
        have HW := Lib.hid (ubyte (H + 1) (jnT f j) 44 wo HB.out (by have := HjL.out j (by have := Hj8.out; omega); omega))
        have Hj0 := Lib.hid hj0
        clear hj0
        go_wp2_with fail
        refine HW.out.mono ?_
        rintro e w3 ⟨rfl, hB3, hW3⟩
        have Hend := Lib.hid (show BldU w3 (H + 1) (jnT f j ++ (if 0 < j then [44] else [])) ∧ Ext W0 w3 from ⟨by rw [if_pos Hj0.out]; exact hB3, hW3.ext HE.out (Nat.le_of_eq Hs0.out)⟩)
        clear hB3 hW3 HW
        go_wp2_with fail
        go_meet
        exact Hend.out
      · have b1 : ¬ (0 : Int) < (j : Int) := by omega
        have Hend := Lib.hid (show BldU wo (H + 1) (jnT f j ++ (if 0 < j then [44] else [])) ∧ Ext W0 wo from ⟨by rw [if_neg hj0, List.append_nil]; exact HB.out, HE.out⟩)
        go_wp2_with fail
        go_meet
        exact Hend.out
    case rest =>
    obtain ⟨hB, hE⟩ := hcut
    obtain ⟨w3, rfl⟩ : ∃ w3 : World, w3 = wc := ⟨_, rfl⟩
    obtain ⟨t8, b8, m8, d8, y0, y1, _, _, hI⟩ := (HN0.out.ext hE).get j (by have := Hj8.out; omega)
    have HTx := Lib.hid (Text_any t8 b8 m8 d8 (f j) w3 hI (by have h1 := hI.len (HFit.out j (by have := Hj8.out; omega)); have h2 := HK.out; omega) (tab_ext HT.out (He0.out.trans hE)))
    have HB3 := Lib.hid hB; have HE3 := Lib.hid hE
    clear hB hE hI HB HE
    go_wp2_with fail
    refine HTx.out.mono ?_
    rintro e w4 ⟨rfl, hx4⟩
    have HWs := Lib.hid (ustr (H + 1) _ ⟨(Lib.itoa (f j)).toArray⟩ w4 (HB3.out.ext hx4) (by
      have h1 := HjL.out j (by have := Hj8.out; omega); have h2 := HiL.out j Hj8.out
      have h3 : (if 0 < j then ([44] : List UInt8) else []).length ≤ 1 := by split <;> simp
      simp only [List.length_append, ByteArray.size, List.size_toArray]; omega))
    have HE4 := Lib.hid (HE3.out.trans hx4)
    clear hx4 HTx HB3 HE3 y0 y1
    go_wp2_with fail
    refine HWs.out.mono ?_
    rintro e w5 ⟨rfl, hB5, hW5⟩
    have Hend := Lib.hid (show BldU w5 (H + 1) (jnT f (j + 1)) ∧ Ext W0 w5 from ⟨hB5, hW5.ext HE4.out (Nat.le_of_eq Hs0.out)⟩)
    clear hB5 hW5 HWs HE4
    go_wp2_with fail
    go_roundg (L - (j + 1))
    case measure => have := Hjk.out; have := Hj1.out; omega
    case rel => exact ⟨j + 1, rfl, Hj1.out, rfl, Hend.out⟩
end Go.Proofs.YtfjnlopbmkimiaaGreatDoor
namespace Go.Proofs.YtfjnlopbmkimiaaGreatDoor
open Go.RowKit

set_option maxRecDepth 100000 in
set_option maxHeartbeats 4000000 in
theorem RRoot_nm (k : Int) (w : World) :
    Calls Tryz.prog 116 #[.int .i64 k] w fun e w' => ∃ cr : Array Value, e = .returned (.agg cr) ∧ NmA w' cr (nTr k nOne) 1 0 ∧ Ext w w' := by
  obtain ⟨H, hH⟩ : ∃ H, w.heap.size = H := ⟨_, rfl⟩
  obtain ⟨U, hU⟩ : ∃ U, w.alloc (.cells zero9 78) = U := ⟨_, rfl⟩
  have E0 : Ext w U := by rw [← hU]; exact Ext.alloc _ _
  have Z0 : Nums U H 9 78 (fun _ => 0) := by rw [← hU, ← hH]; exact (cells_zero9 w).box 78
  have HU := Lib.hid hU; have HH := Lib.hid hH; have HZ0 := Lib.hid Z0; have HE0 := Lib.hid E0
  clear hU hH Z0 E0
  go_enter Tryz.func116, Tryz.ntmps116
  go_wp2_with fail
  rw [HU.out, HH.out]
  clear HU
  refine (Of_any 1 (by decide) (by decide) U).mono ?_
  rintro e w1 ⟨rfl, i1, hx1⟩
  go_wp2_with fail
  refine (ROf_nm 1 none 0 0 1 1 0 w1 i1 (by decide)).mono ?_
  rintro e w2 ⟨co, rfl, ho, hx2⟩
  rw [nOf_one] at ho
  have he2 := hx1.trans hx2
  clear i1 hx1 hx2
  go_wp2_with fail
  refine (Turn_nm co nOne 1 0 k w2 ho 1 (by decide) (by decide)).mono ?_
  rintro e w3 ⟨cr, rfl, hcr, hx3⟩
  have he3 := he2.trans hx3
  obtain ⟨c1, hr1, hs1, hone, hinf, rr, hnm, hE'⟩ := fin_num hcr (HZ0.out.ext he3) (HE0.out.trans he3) (by rw [HH.out]; omega)
  have Hend := Lib.hid (And.intro hnm hE')
  clear hnm hE' hcr hx3 he3 he2 ho HZ0 HE0
  go_wp2_with (refine wpList_store_row rfl 78 _ _ rfl H cr rfl rfl 78 _ hr1 hinf hs1 hone ?_)
  refine bodyPost_ret (v := .agg cr) ?_ rfl ⟨_, rfl, Hend.out⟩
  exact results_cell_row rfl _ _ H _ _ _ _ rfl rr Tryz.underlying78 rfl hinf

end Go.Proofs.YtfjnlopbmkimiaaGreatDoor
namespace Go.Proofs.YtfjnlopbmkimiaaGreatDoor

theorem itoa_0 : Lib.itoa 0 = [48] := by unfold Lib.itoa; rw [if_neg (by decide), Lib.decDigits, dif_pos (by decide)]; rfl
theorem itoa_1 : Lib.itoa 1 = [49] := by unfold Lib.itoa; rw [if_neg (by decide), Lib.decDigits, dif_pos (by decide)]; rfl
theorem itoa_m1 : Lib.itoa (-1) = [45, 49] := by unfold Lib.itoa; rw [if_pos (by decide), Lib.decDigits, dif_pos (by decide)]; rfl
end Go.Proofs.YtfjnlopbmkimiaaGreatDoor
namespace Go.Proofs.YtfjnlopbmkimiaaGreatDoor
open Go.RowKit

theorem nm_zero {x : Nm} (hx : Anti x.a) : zeroN (nmF x) ↔ ∀ k, x.a k = 0 := by
  constructor
  · intro h
    refine all_zero hx fun j h0 h1 => ?_
    have := h j.toNat (by omega)
    unfold nmF at this
    rw [if_neg (by omega)] at this
    rwa [show ((j.toNat : Nat) : Int) = j by omega] at this
  · intro h i hi
    unfold nmF
    rw [if_neg (by omega)]; exact h _

set_option maxRecDepth 100000 in
set_option maxHeartbeats 1000000 in
theorem Zero_nm (ca : Array Value) (x : Nm) (P E : Nat) (w : World) (h : NmA w ca x P E) (B : Bool) (hB : B = true ↔ ∀ k, x.a k = 0) :
    Calls Tryz.prog 138 #[.agg ca] w fun e w' => e = .returned (.bool B) ∧ Ext w w' := by
  have hn := h.val.box 78
  have HZ := Lib.hid (rowZero_yes _ 9 _ _ _ hn (by decide) B (hB.trans (nm_zero h.anti).symm))
  have HE := Lib.hid (Ext.alloc w (.cells ca 78))
  clear hn h hB
  go_enter Tryz.func138, Tryz.ntmps138
  go_wp2_with fail
  refine HZ.out.mono ?_
  rintro e w1 ⟨rfl, hx⟩
  have HE1 := Lib.hid (HE.out.trans hx)
  clear hx HZ HE
  go_wp2_with fail
  go_ret
  exact ⟨rfl, HE1.out⟩

theorem rtx_rt : rtx (nmF nRt) = [48, 44, 48, 44, 49, 44, 48, 44, 48, 44, 48, 44, 45, 49, 47, 49] := by
  have h0 : nmF nRt 0 = 0 := by decide
  have h1 : nmF nRt 1 = 0 := by decide
  have h2 : nmF nRt 2 = 1 := by decide
  have h3 : nmF nRt 3 = 0 := by decide
  have h4 : nmF nRt 4 = 0 := by decide
  have h5 : nmF nRt 5 = 0 := by decide
  have h6 : nmF nRt 6 = -1 := by decide
  have h8 : nmF nRt 8 = 1 := by decide
  have hL : lenN (nmF nRt) 8 = 7 := by decide
  unfold rtx
  rw [hL]
  simp only [jnT]
  rw [h0, h1, h2, h3, h4, h5, h6, h8, itoa_0, itoa_1, itoa_m1]
  decide

end Go.Proofs.YtfjnlopbmkimiaaGreatDoor
namespace Go.Proofs.YtfjnlopbmkimiaaGreatDoor
open Go.RowKit

theorem extN (w : World) (o : Obj) : Ext w (w.alloc o) := (Below.refl _ _).alloc (Nat.le_refl _) o
section
variable {P : Program} {md : Region.Mode} {ops : Array Oper} {Q : Exit → Act → World → Prop} {S : World → Prop}

theorem anyH_one {i : Nat} {o : Oper} {n : Nat} {l : Array Bool} {a : Act} {w : World} (hr : Region.ready md ops l = [i]) (ho : ops[i]? = some o)
    (h : ∀ K' : Act → World → Prop, Shut (∀ a w, S w → wpAnyH P md ops Q S n (l.setIfInBounds i true) a w → K' a w) → if Region.wanted o (yielded ops a.tmps) = true then Oper.wp P o a w K' Q else K' (a.put o.dst undef) w) :
    wpAnyH P md ops Q S (n + 1) l a w := by
  refine ⟨fun h0 => (by rw [hr] at h0; cases h0), fun j hj => ?_⟩
  rw [hr] at hj
  rcases List.mem_singleton.1 hj with rfl
  exact wpOp_step ho (fun K' hK => h K' (fun a w hS hW => hK a w ⟨hS, hW⟩))

/-- Operation j makes a variable of type ty that holds z, and lays its place into slot d. -/
def IsAlloc (P : Program) (ops : Array Oper) (j d : Nat) (ty : TypeId) (z : Array Value) : Prop :=
  ∃ o, ops[j]? = some o ∧ o.dst = some d ∧ (∀ a : Act, Region.wanted o (yielded ops a.tmps) = true) ∧ ∀ (a : Act) (w : World), (execOp a.eval o).run P w = .ok (.value (.pointer (some ⟨w.heap.size, 0, none⟩))) (w.alloc (.cells z ty))

theorem wpOp_alloc {j d : Nat} {ty : TypeId} {z : Array Value} (hA : IsAlloc P ops j d ty z) {K : Act → World → Prop} {a : Act} {w : World} (h : K (a.put (some d) (.pointer (some ⟨w.heap.size, 0, none⟩))) (w.alloc (.cells z ty))) : wpOp P ops Q j K a w := by
  obtain ⟨o, ho, hd, hw, hrun⟩ := hA
  refine wpOp_step ho fun K' hK => ?_
  rw [if_pos (hw a)]
  unfold Oper.wp
  rw [hrun, Oper.upon_value, hd]
  exact hK _ _ h
theorem wpOp_call {i : Nat} {o : Oper} {a : Act} {w : World} (ho : ops[i]? = some o) (hw : Region.wanted o (yielded ops a.tmps) = true) {f : FuncId} {args : Array Value}
    (hrun : (execOp a.eval o).run P w = .ok (.enter f args) w) {R : Value → World → Prop} (hc : Calls P f args w fun e w' => ∃ v, e = .returned v ∧ R v w') {K : Act → World → Prop} (h : ∀ v w', R v w' → K (a.put o.dst v) w') : wpOp P ops Q i K a w := by
  refine wpOp_step ho fun K' hK => ?_
  rw [if_pos hw]
  unfold Oper.wp
  rw [hrun, Oper.upon_enter]
  refine hc.mono ?_
  rintro e w' ⟨v, rfl, hv⟩
  exact hK _ _ (h v w' hv)

/-- A new variable. -/
def NewV (W0 w : World) (ty : TypeId) (z : Array Value) (D : Nat) : Prop := W0.heap.size ≤ D ∧ w.heap[D]? = some (.cells z ty (0, 0))
theorem NewV.ext {W0 w w' : World} {ty : TypeId} {z : Array Value} {D : Nat} (h : NewV W0 w ty z D) (k : Ext w w') : NewV W0 w' ty z D := ⟨h.1, (k.block _ (Array.getElem?_eq_some_iff.1 h.2).1).trans h.2⟩
theorem newV_alloc {W0 w : World} (h : Ext W0 w) (ty : TypeId) (z : Array Value) : NewV W0 (w.alloc (.cells z ty)) ty z w.heap.size := ⟨h.size, heap_alloc_new w _⟩
theorem NewV.lt {W0 w : World} {ty : TypeId} {z : Array Value} {D : Nat} (h : NewV W0 w ty z D) : D < w.heap.size := (Array.getElem?_eq_some_iff.1 h.2).1

abbrev ptrV (D : Nat) : Value := .pointer (some ⟨D, 0, none⟩)

/-- One variable is made at some time. -/
def Flo1 (P : Program) (md : Region.Mode) (ops : Array Oper) (Q : Exit → Act → World → Prop) (S : World → Prop) (W0 : World) (ty : TypeId) (z : Array Value) (n : Nat) (l : Bool → Array Bool) (fr : Value → Act) (w : World) : Prop :=
  ∀ wx, Ext w wx → wpAnyH P md ops Q S (n + 1) (l false) (fr undef) wx ∧ ∀ D, NewV W0 wx ty z D → wpAnyH P md ops Q S n (l true) (fr (ptrV D)) wx
/-- A call comes up; or the variable is made. -/
theorem Flo1.call {W0 w : World} {ty : TypeId} {z : Array Value} {n : Nat} {l : Bool → Array Bool} {fr : Value → Act} {j d : Nat} (hA : IsAlloc P ops j d ty z) (hS : ∀ w', Ext W0 w' → S w') (hw : Ext W0 w) (i : Nat) {o : Oper} (ho : ops[i]? = some o)
    (hr : ∀ p, Region.ready md ops (l p) = i :: (if p then [] else [j])) (hl : (l false).setIfInBounds j true = l true) (hfr : ∀ t v, (fr t).put (some d) v = fr v)
    (hwa : ∀ t, Region.wanted o (yielded ops (fr t).tmps) = true) (f : FuncId) (args : Array Value) (hrun : ∀ t wx, (execOp (fr t).eval o).run P wx = .ok (.enter f args) wx)
    {R : Value → World → Prop} (hc : ∀ wx, Ext w wx → Calls P f args wx fun e w' => ∃ v, e = .returned v ∧ R v w' ∧ Ext wx w') (l' : Bool → Array Bool) (hl' : ∀ p, (l p).setIfInBounds i true = l' p) (fr' : Value → Value → Act) (hf' : ∀ v t, (fr t).put o.dst v = fr' v t)
    (next : ∀ v w', R v w' → Ext w w' → Flo1 P md ops Q S W0 ty z n l' (fr' v) w') : Flo1 P md ops Q S W0 ty z (n + 1) l fr w := by
  have two : ∀ wx, Ext w wx → ∀ D, NewV W0 wx ty z D → wpAnyH P md ops Q S (n + 1) (l true) (fr (ptrV D)) wx := fun wx hx D hD => by
    have hr1 : Region.ready md ops (l true) = [i] := hr true
    refine ⟨fun h0 => (by rw [hr1] at h0; cases h0), fun t ht => ?_⟩
    rw [hr1] at ht
    rcases List.mem_singleton.1 ht with rfl
    refine wpOp_call ho (hwa _) (hrun _ _) (hc wx hx) fun v w' ⟨hv, hx'⟩ => ?_
    rw [hl', hf']
    exact ⟨hS _ ((hw.trans hx).trans hx'), (next v w' hv (hx.trans hx') w' (Ext.refl _)).2 D (hD.ext hx')⟩
  intro wx hx
  refine ⟨?_, two wx hx⟩
  have hr0 : Region.ready md ops (l false) = [i, j] := hr false
  refine ⟨fun h0 => (by rw [hr0] at h0; cases h0), fun t ht => ?_⟩
  rw [hr0] at ht
  rcases List.mem_cons.1 ht with rfl | ht
  · refine wpOp_call ho (hwa _) (hrun _ _) (hc wx hx) fun v w' ⟨hv, hx'⟩ => ?_
    rw [hl', hf']
    exact ⟨hS _ ((hw.trans hx).trans hx'), (next v w' hv (hx.trans hx') w' (Ext.refl _)).1⟩
  · rcases List.mem_singleton.1 ht with rfl
    refine wpOp_alloc hA ?_
    rw [hl, hfr]
    have he := extN wx (.cells z ty)
    exact ⟨hS _ ((hw.trans hx).trans he), two _ (hx.trans he) _ (newV_alloc (hw.trans hx) ty z)⟩
/-- Two variables are made at some time. -/
def Flo2 (P : Program) (md : Region.Mode) (ops : Array Oper) (Q : Exit → Act → World → Prop) (S : World → Prop) (W0 : World) (ty : TypeId) (z : Array Value) (ty' : TypeId) (z' : Array Value) (n : Nat) (l : Bool → Bool → Array Bool) (fr : Value → Value → Act) (w : World) : Prop :=
  ∀ wx, Ext w wx → wpAnyH P md ops Q S (n + 2) (l false false) (fr undef undef) wx ∧ (∀ D, NewV W0 wx ty z D → wpAnyH P md ops Q S (n + 1) (l true false) (fr (ptrV D) undef) wx) ∧
    (∀ D, NewV W0 wx ty' z' D → wpAnyH P md ops Q S (n + 1) (l false true) (fr undef (ptrV D)) wx) ∧ ∀ D D', NewV W0 wx ty z D → NewV W0 wx ty' z' D' → D ≠ D' → wpAnyH P md ops Q S n (l true true) (fr (ptrV D) (ptrV D')) wx
theorem Flo2.start {W0 w : World} {ty ty' : TypeId} {z z' : Array Value} {n : Nat} {l : Bool → Bool → Array Bool} {fr : Value → Value → Act} (h : Flo2 P md ops Q S W0 ty z ty' z' n l fr w) : wpAnyH P md ops Q S (n + 2) (l false false) (fr undef undef) w := (h w (Ext.refl _)).1
/-- What holds where nothing of the variables is left holds of each state, if from each of them one goes on. -/
theorem Flo2.of {W0 w : World} {ty ty' : TypeId} {z z' : Array Value} {n : Nat} {l : Bool → Bool → Array Bool} {fr : Value → Value → Act} {j d j' d' : Nat} (hA : IsAlloc P ops j d ty z) (hA' : IsAlloc P ops j' d' ty' z') (hS : ∀ w', Ext W0 w' → S w') (hw : Ext W0 w)
    (hl : ∀ q, (l false q).setIfInBounds j true = l true q) (hl' : ∀ p, (l p false).setIfInBounds j' true = l p true) (hfr : ∀ t t' v, (fr t t').put (some d) v = fr v t') (hfr' : ∀ t t' v, (fr t t').put (some d') v = fr t v)
    (M : (p q : Bool) → List Nat) (hr : ∀ p q, Region.ready md ops (l p q) = M p q ++ ((if p then [] else [j]) ++ (if q then [] else [j'])))
    (hm : ∀ p q, ∀ i ∈ M p q, ∀ t t' wx, Ext w wx → (p = true → ∃ D, t = ptrV D ∧ NewV W0 wx ty z D ∧ (q = true → ∀ D', t' = ptrV D' → D ≠ D')) → (p = false → t = undef) → (q = true → ∃ D, t' = ptrV D ∧ NewV W0 wx ty' z' D) → (q = false → t' = undef) →
      wpOp P ops Q i (fun a' w' => S w' ∧ wpAnyH P md ops Q S (n + (if p then 0 else 1) + (if q then 0 else 1)) ((l p q).setIfInBounds i true) a' w') (fr t t') wx)
    (hne : M true true ≠ []) : Flo2 P md ops Q S W0 ty z ty' z' (n + 1) l fr w := by
  have tt : ∀ wx, Ext w wx → ∀ D D', NewV W0 wx ty z D → NewV W0 wx ty' z' D' → D ≠ D' → wpAnyH P md ops Q S (n + 1) (l true true) (fr (ptrV D) (ptrV D')) wx := fun wx hx D D' hD hD' hne' => by
    have hr1 : Region.ready md ops (l true true) = M true true := by rw [hr]; simp
    refine ⟨fun h0 => absurd (hr1 ▸ h0) hne, fun i hi => ?_⟩
    rw [hr1] at hi
    exact hm true true i hi _ _ wx hx (fun _ => ⟨D, rfl, hD, fun _ D2 e => by injection e with e; injection e with e; injection e with e; omega⟩) (fun h => by cases h) (fun _ => ⟨D', rfl, hD'⟩) (fun h => by cases h)
  have tf : ∀ wx, Ext w wx → ∀ D, NewV W0 wx ty z D → wpAnyH P md ops Q S (n + 2) (l true false) (fr (ptrV D) undef) wx := fun wx hx D hD => by
    have hr1 : Region.ready md ops (l true false) = M true false ++ [j'] := by rw [hr]; simp
    refine ⟨fun h0 => (by rw [hr1] at h0; simp at h0), fun i hi => ?_⟩
    rw [hr1] at hi
    rcases List.mem_append.1 hi with hi | hi
    · exact hm true false i hi _ _ wx hx (fun _ => ⟨D, rfl, hD, fun h => by cases h⟩) (fun h => by cases h) (fun h => by cases h) (fun _ => rfl)
    · rcases List.mem_singleton.1 hi with rfl
      refine wpOp_alloc hA' ?_
      rw [hl', hfr']
      have he := extN wx (.cells z' ty')
      exact ⟨hS _ ((hw.trans hx).trans he), tt _ (hx.trans he) _ _ (hD.ext he) (newV_alloc (hw.trans hx) ty' z') (Nat.ne_of_lt hD.lt)⟩
  have ft : ∀ wx, Ext w wx → ∀ D, NewV W0 wx ty' z' D → wpAnyH P md ops Q S (n + 2) (l false true) (fr undef (ptrV D)) wx := fun wx hx D hD => by
    have hr1 : Region.ready md ops (l false true) = M false true ++ [j] := by rw [hr]; simp
    refine ⟨fun h0 => (by rw [hr1] at h0; simp at h0), fun i hi => ?_⟩
    rw [hr1] at hi
    rcases List.mem_append.1 hi with hi | hi
    · exact hm false true i hi _ _ wx hx (fun h => by cases h) (fun _ => rfl) (fun _ => ⟨D, rfl, hD⟩) (fun h => by cases h)
    · rcases List.mem_singleton.1 hi with rfl
      refine wpOp_alloc hA ?_
      rw [hl, hfr]
      have he := extN wx (.cells z ty)
      exact ⟨hS _ ((hw.trans hx).trans he), tt _ (hx.trans he) _ _ (newV_alloc (hw.trans hx) ty z) (hD.ext he) (Nat.ne_of_gt hD.lt)⟩
  intro wx hx
  refine ⟨?_, tf wx hx, ft wx hx, tt wx hx⟩
  have hr1 : Region.ready md ops (l false false) = M false false ++ [j, j'] := by rw [hr]; simp
  refine ⟨fun h0 => (by rw [hr1] at h0; simp at h0), fun i hi => ?_⟩
  rw [hr1] at hi
  rcases List.mem_append.1 hi with hi | hi
  · exact hm false false i hi _ _ wx hx (fun h => by cases h) (fun _ => rfl) (fun h => by cases h) (fun _ => rfl)
  · rcases List.mem_cons.1 hi with rfl | hi
    · refine wpOp_alloc hA ?_
      rw [hl, hfr]
      have he := extN wx (.cells z ty)
      exact ⟨hS _ ((hw.trans hx).trans he), tf _ (hx.trans he) _ (newV_alloc (hw.trans hx) ty z)⟩
    · rcases List.mem_singleton.1 hi with rfl
      refine wpOp_alloc hA' ?_
      rw [hl', hfr']
      have he := extN wx (.cells z' ty')
      exact ⟨hS _ ((hw.trans hx).trans he), ft _ (hx.trans he) _ (newV_alloc (hw.trans hx) ty' z')⟩
/-- A call comes up; or a variable is made. -/
theorem Flo2.call {W0 w : World} {ty ty' : TypeId} {z z' : Array Value} {n : Nat} {l : Bool → Bool → Array Bool} {fr : Value → Value → Act} {j d j' d' : Nat} (hA : IsAlloc P ops j d ty z) (hA' : IsAlloc P ops j' d' ty' z') (hS : ∀ w', Ext W0 w' → S w') (hw : Ext W0 w) (i : Nat) {o : Oper} (ho : ops[i]? = some o)
    (hl : ∀ q, (l false q).setIfInBounds j true = l true q) (hl' : ∀ p, (l p false).setIfInBounds j' true = l p true) (hfr : ∀ t t' v, (fr t t').put (some d) v = fr v t') (hfr' : ∀ t t' v, (fr t t').put (some d') v = fr t v)
    (hr : ∀ p q, Region.ready md ops (l p q) = [i] ++ ((if p then [] else [j]) ++ (if q then [] else [j'])))
    (hwa : ∀ t t', Region.wanted o (yielded ops (fr t t').tmps) = true) (f : FuncId) (args : Array Value) (hrun : ∀ t t' wx, (execOp (fr t t').eval o).run P wx = .ok (.enter f args) wx)
    {R : Value → World → Prop} (hc : ∀ wx, Ext w wx → Calls P f args wx fun e w' => ∃ v, e = .returned v ∧ R v w' ∧ Ext wx w') (m : Bool → Bool → Array Bool) (hm : ∀ p q, (l p q).setIfInBounds i true = m p q) (fr' : Value → Value → Value → Act) (hf' : ∀ v t t', (fr t t').put o.dst v = fr' v t t')
    (next : ∀ v w', R v w' → Ext w w' → Flo2 P md ops Q S W0 ty z ty' z' n m (fr' v) w') : Flo2 P md ops Q S W0 ty z ty' z' (n + 1) l fr w := by
  refine Flo2.of hA hA' hS hw hl hl' hfr hfr' (fun _ _ => [i]) hr ?_ (by simp)
  intro p q k hk t t' wx hx h1 h2 h3 h4
  rcases List.mem_singleton.1 hk with rfl
  refine wpOp_call ho (hwa _ _) (hrun _ _ _) (hc wx hx) fun v w' ⟨hv, hx'⟩ => ?_
  rw [hm, hf']
  refine ⟨hS _ ((hw.trans hx).trans hx'), ?_⟩
  have hn := next v w' hv (hx.trans hx') w' (Ext.refl _)
  cases p <;> cases q
  · rw [h2 rfl, h4 rfl]; exact hn.1
  · obtain ⟨D, rfl, hD⟩ := h3 rfl
    rw [h2 rfl]; exact hn.2.2.1 D (hD.ext hx')
  · obtain ⟨D, rfl, hD, _⟩ := h1 rfl
    rw [h4 rfl]; exact hn.2.1 D (hD.ext hx')
  · obtain ⟨D, rfl, hD, hne⟩ := h1 rfl
    obtain ⟨D', rfl, hD'⟩ := h3 rfl
    exact hn.2.2.2 D D' (hD.ext hx') (hD'.ext hx') (hne rfl D' rfl)
/-- An operation that makes no memory is taken first. -/
theorem Flo2.take {W0 w : World} {ty ty' : TypeId} {z z' : Array Value} {n : Nat} {l : Bool → Bool → Array Bool} {fr : Value → Value → Act} (hS : ∀ w', Ext W0 w' → S w') (hw : Ext W0 w) (i : Nat) {o : Oper} (v : Value) (ho : ops[i]? = some o) (hs : Region.noSelect ops = true)
    (hf : ∀ p q, Region.free md ops (l p q) i = true) (hr : ∀ p q, (Region.ready md ops (l p q)).contains i = true) (hQ : ∀ c a w, Q (.panic c) (a.put o.dst v) w → Q (.panic c) a w) (hy : ∀ t t', YieldsIf P ops S o v (fr t t'))
    (l' : Bool → Bool → Array Bool) (hl' : ∀ p q, (l p q).setIfInBounds i true = l' p q) (fr' : Value → Value → Act) (hf' : ∀ t t', (fr t t').put o.dst v = fr' t t')
    (next : Flo2 P md ops Q S W0 ty z ty' z' n l' fr' w) : Flo2 P md ops Q S W0 ty z ty' z' (n + 1) l fr w := fun wx hx =>
  have k := fun {fuel : Nat} {p q : Bool} {t t' : Value} (h : wpAnyH P md ops Q S fuel (l' p q) (fr' t t') wx) => wpAnyH_take (fuel := fuel) ho hs (hf p q) (hr p q) hQ (hy t t') (hS _ (hw.trans hx)) (by rw [hl', hf']; exact h)
  ⟨k (next wx hx).1, fun D hD => k ((next wx hx).2.1 D hD), fun D hD => k ((next wx hx).2.2.1 D hD), fun D D' hD hD' hne => k ((next wx hx).2.2.2 D D' hD hD' hne)⟩
/-- Nothing but the variables is left, or what waits for both. -/
theorem Flo2.done {W0 w : World} {ty ty' : TypeId} {z z' : Array Value} {n : Nat} {l : Bool → Bool → Array Bool} {fr : Value → Value → Act} {j d j' d' : Nat} (hA : IsAlloc P ops j d ty z) (hA' : IsAlloc P ops j' d' ty' z') (hS : ∀ w', Ext W0 w' → S w') (hw : Ext W0 w)
    (hl : ∀ q, (l false q).setIfInBounds j true = l true q) (hl' : ∀ p, (l p false).setIfInBounds j' true = l p true) (hfr : ∀ t t' v, (fr t t').put (some d) v = fr v t') (hfr' : ∀ t t' v, (fr t t').put (some d') v = fr t v)
    (hr : ∀ p q, (p && q) = false → Region.ready md ops (l p q) = ((if p then [] else [j]) ++ (if q then [] else [j'])))
    (h : ∀ wx, Ext w wx → ∀ D D', NewV W0 wx ty z D → NewV W0 wx ty' z' D' → D ≠ D' → wpAnyH P md ops Q S n (l true true) (fr (ptrV D) (ptrV D')) wx) : Flo2 P md ops Q S W0 ty z ty' z' n l fr w := by
  have tf : ∀ wx, Ext w wx → ∀ D, NewV W0 wx ty z D → wpAnyH P md ops Q S (n + 1) (l true false) (fr (ptrV D) undef) wx := fun wx hx D hD => by
    have hr1 : Region.ready md ops (l true false) = [j'] := hr true false rfl
    refine ⟨fun h0 => (by rw [hr1] at h0; cases h0), fun i hi => ?_⟩
    rw [hr1] at hi
    rcases List.mem_singleton.1 hi with rfl
    refine wpOp_alloc hA' ?_
    rw [hl', hfr']
    have he := extN wx (.cells z' ty')
    exact ⟨hS _ ((hw.trans hx).trans he), h _ (hx.trans he) _ _ (hD.ext he) (newV_alloc (hw.trans hx) ty' z') (Nat.ne_of_lt hD.lt)⟩
  have ft : ∀ wx, Ext w wx → ∀ D, NewV W0 wx ty' z' D → wpAnyH P md ops Q S (n + 1) (l false true) (fr undef (ptrV D)) wx := fun wx hx D hD => by
    have hr1 : Region.ready md ops (l false true) = [j] := hr false true rfl
    refine ⟨fun h0 => (by rw [hr1] at h0; cases h0), fun i hi => ?_⟩
    rw [hr1] at hi
    rcases List.mem_singleton.1 hi with rfl
    refine wpOp_alloc hA ?_
    rw [hl, hfr]
    have he := extN wx (.cells z ty)
    exact ⟨hS _ ((hw.trans hx).trans he), h _ (hx.trans he) _ _ (newV_alloc (hw.trans hx) ty z) (hD.ext he) (Nat.ne_of_gt hD.lt)⟩
  intro wx hx
  refine ⟨?_, tf wx hx, ft wx hx, h wx hx⟩
  have hr1 : Region.ready md ops (l false false) = [j, j'] := hr false false rfl
  refine ⟨fun h0 => (by rw [hr1] at h0; cases h0), fun i hi => ?_⟩
  rw [hr1] at hi
  rcases List.mem_cons.1 hi with rfl | hi
  · refine wpOp_alloc hA ?_
    rw [hl, hfr]
    have he := extN wx (.cells z ty)
    exact ⟨hS _ ((hw.trans hx).trans he), tf _ (hx.trans he) _ (newV_alloc (hw.trans hx) ty z)⟩
  · rcases List.mem_singleton.1 hi with rfl
    refine wpOp_alloc hA' ?_
    rw [hl', hfr']
    have he := extN wx (.cells z' ty')
    exact ⟨hS _ ((hw.trans hx).trans he), ft _ (hx.trans he) _ (newV_alloc (hw.trans hx) ty' z')⟩
end
end Go.Proofs.YtfjnlopbmkimiaaGreatDoor
namespace Go.Proofs.YtfjnlopbmkimiaaGreatDoor
open Go.RowKit

theorem and1 (k : Int) : bits .and .i64 k 1 = k % 2 := by
  show IntKind.i64.wrap ((BitVec.ofInt 64 k &&& BitVec.ofInt 64 1).toNat : Int) = _
  have h1 := ofInt_toNat k
  have h2 : (BitVec.ofInt 64 1).toNat = 2 ^ 1 - 1 := by decide
  rw [BitVec.toNat_and, h2, Nat.and_two_pow_sub_one_eq_mod, IntKind.wrap_i64]
  omega
theorem shr1 (x q : Nat) : bits .and .i64 ((x : Int) / 2 ^ q) 1 = if x.testBit q then 1 else 0 := by
  rw [and1]
  have h1 : (x : Int) / 2 ^ q = ((x / 2 ^ q : Nat) : Int) := by
    rw [Int.natCast_ediv, Int.natCast_pow]; rfl
  have h2 : x.testBit q = decide (x / 2 ^ q % 2 = 1) := by
    rw [Nat.testBit_eq_decide_div_mod_eq]
  rw [h1, h2]
  by_cases h : x / 2 ^ q % 2 = 1
  · rw [decide_eq_true h, if_pos rfl]; omega
  · rw [decide_eq_false h]; simp; omega

/-- 1 << q. -/
theorem shl1 {q : Nat} (h : q ≤ 40) : wrap64 (2 ^ min q 64) = ((2 ^ q : Nat) : Int) := by
  have h1 : 2 ^ q ≤ 2 ^ 40 := Nat.pow_le_pow_right (by decide) h
  rw [show min q 64 = q by omega]
  have h2 : ((2 : Int) ^ q) = ((2 ^ q : Nat) : Int) := by rw [Int.natCast_pow]; rfl
  rw [h2]
  have h3 : (2 ^ 40 : Nat) = 1099511627776 := by decide
  obtain ⟨m, hm⟩ : ∃ m : Nat, 2 ^ q = m := ⟨_, rfl⟩
  rw [hm] at h1 ⊢
  rw [h3] at h1
  clear hm h2
  unfold wrap64
  omega
/-- The basis state. -/
def bas (x : Nat) : Nat → Nm := fun y => if y = x then nOne else nZ
theorem amp_one : Amp 0 nOne := ⟨Or.inl rfl, anti_one, Nat.le_refl _, fun k => by
  show (oneR k).natAbs * 1 < 2
  unfold oneR
  split
  · decide
  · split <;> decide⟩
theorem bas_amp (x y : Nat) : Amp 0 (bas x y) := by
  unfold bas
  split
  · exact amp_one
  · exact Amp.zero 0

end Go.Proofs.YtfjnlopbmkimiaaGreatDoor
namespace Go.Proofs.YtfjnlopbmkimiaaGreatDoor

theorem tr_z (m : Int) : nTr m nZ = nZ := rfl
theorem neg_z : nNeg nZ = nZ := by unfold nNeg nZ; congr 1
theorem hf_z : EqN (nHf (nAdd nZ nZ)) nZ := fun k => by simp only [nHf, nAdd, nZ, addR, trR]; simp
theorem lw_z {x : Nm} (h : EqN x nZ) : lw x = nZ := (lw_congr h).trans (lw_self low_nZ)
end Go.Proofs.YtfjnlopbmkimiaaGreatDoor
namespace Go.Proofs.YtfjnlopbmkimiaaGreatDoor
open Go.RowKit

theorem mem_take_iff (l : List Int) (x : Int) (i : Nat) : x ∈ l.take i ↔ ∃ t, t < i ∧ t < l.length ∧ l.getD t 0 = x := by
  constructor
  · intro h
    obtain ⟨t, ht, e⟩ := List.mem_iff_getElem.1 h
    rw [List.length_take] at ht
    refine ⟨t, by omega, by omega, ?_⟩
    rw [List.getD_eq_getElem?_getD, List.getElem?_eq_getElem (by omega)]
    rw [List.getElem_take] at e
    exact e
  · rintro ⟨t, h1, h2, e⟩
    rw [List.getD_eq_getElem?_getD, List.getElem?_eq_getElem h2] at e
    exact List.mem_iff_getElem.2 ⟨t, by rw [List.length_take]; omega, by rw [List.getElem_take]; exact e⟩

set_option maxHeartbeats 1000000 in
theorem Index_any (ao : Option Addr) (n c : Nat) (l : List Int) (x : Int) (w : World) (h : IntsAt w ao n l) (hnc : n ≤ c) (hc : c ≤ 9223372036854775807) :
    Calls Tryz.prog 114 #[.slice ao n c, .int .i64 x] w fun e w' => (∃ k : Int, e = .returned (.int .i64 k) ∧ (0 ≤ k ↔ x ∈ l)) ∧ w' = w := by
  have Hl := Lib.hid h.1
  have hab : n = 0 ∨ ∃ b o, ao = some ⟨b, o, none⟩ ∧ ∀ t, t < n → w.cell? ⟨b, o + t, none⟩ = some (.int .i64 (l.getD t 0)) := by
    rcases h.2 with h0 | ⟨b, o, e, _, hc⟩
    · exact Or.inl h0
    · exact Or.inr ⟨b, o, e, hc⟩
  clear h
  go_enter Tryz.func114, Tryz.ntmps114
  go_wp2_with fail
  go_loopg [8] n (fun k s8 wr => wr = w ∧ ∃ i : Nat, s8 = .int .i64 (i : Int) ∧ i ≤ n ∧ n - i = k ∧ ¬ x ∈ l.take i)
  case atStart => exact ⟨rfl, 0, rfl, by omega, by omega, by simp⟩
  case round =>
    obtain ⟨rfl, i, rfl, hi, hk, hno⟩ := hrel
    have Hno := Lib.hid hno
    clear hno
    by_cases hin : i = n
    · have h1 : ¬ (i : Int) < (n : Int) := by omega
      go_wp2_with fail
      go_ret
      refine ⟨⟨-1, rfl, ⟨fun h => absurd h (by decide), fun h => ?_⟩⟩, rfl⟩
      have := Hno.out
      rw [List.take_of_length_le (by rw [Hl.out]; omega)] at this
      exact absurd h this
    · have h1 : (i : Int) < (n : Int) := by omega
      have h0 : (0 : Int) ≤ (i : Int) := by omega
      rcases hab with h | ⟨b, o, rfl, hcell⟩
      · omega
      have hci := hcell i (by omega)
      obtain ⟨y, hy⟩ : ∃ y, l.getD i 0 = y := ⟨_, rfl⟩
      rw [hy] at hci
      have Hy := Lib.hid hy
      have Hcell := Lib.hid hcell
      clear hcell hy
      by_cases hxy : x = y
      · have hb : (x == y) = true := by simp [hxy]
        have Hxy := Lib.hid hxy
        clear hxy
        go_wp2_with fail
        go_ret
        exact ⟨⟨_, rfl, ⟨fun _ => by
          rw [Hxy.out, ← Hy.out, List.getD_eq_getElem?_getD, List.getElem?_eq_getElem (by rw [Hl.out]; omega)]
          exact List.getElem_mem _, fun _ => h0⟩⟩, rfl⟩
      · have hb : (x == y) = false := by simp [hxy]
        have Hxy := Lib.hid hxy
        clear hxy
        go_wp2_with fail
        go_roundg (n - (i + 1))
        case measure => omega
        case rel => exact ⟨rfl, i + 1, by go_num, by omega, rfl, fun h => by
          obtain ⟨t, h1, h2, h3⟩ := (mem_take_iff l x (i + 1)).1 h
          by_cases e : t = i
          · subst e; exact Hxy.out (by rw [← Hy.out, h3])
          · exact Hno.out ((mem_take_iff l x i).2 ⟨t, by omega, h2, h3⟩)⟩

set_option maxHeartbeats 400000 in
theorem Contains_any (ao : Option Addr) (n c : Nat) (l : List Int) (x : Int) (w : World) (h : IntsAt w ao n l) (hnc : n ≤ c) (hc : c ≤ 9223372036854775807) :
    Calls Tryz.prog 80 #[.slice ao n c, .int .i64 x] w fun e w' => e = .returned (.bool (decide (x ∈ l))) ∧ w' = w := by
  have Hi := Lib.hid (Index_any ao n c l x w h hnc hc)
  clear h
  go_enter Tryz.func80, Tryz.ntmps80
  go_wp2_with fail
  refine Hi.out.mono ?_
  rintro e w1 ⟨⟨k, rfl, hk⟩, rfl⟩
  have hb : decide (0 ≤ k) = decide (x ∈ l) := by rw [decide_eq_decide]; exact hk
  have Hb := Lib.hid hb
  clear hk hb
  go_wp2_with fail
  go_ret
  exact ⟨congrArg (fun b => Ending.returned (Value.bool b)) Hb.out, rfl⟩

set_option maxHeartbeats 1000000 in
theorem areConditions_any (ao : Option Addr) (n c : Nat) (l : List Int) (bits : Int) (w : World) (h : IntsAt w ao n l) (_hnc : n ≤ c) (_hc : c ≤ 9223372036854775807) (hb0 : 0 ≤ bits) (hb1 : bits ≤ 12) :
    Calls Tryz.prog 113 #[.slice ao n c, .int .i64 bits] w fun e w' => e = .returned (.bool (cndOk bits l)) ∧ w' = w := by
  have Hl := Lib.hid h.1
  have hab : n = 0 ∨ ∃ b o, ao = some ⟨b, o, none⟩ ∧ ∀ t, t < n → w.cell? ⟨b, o + t, none⟩ = some (.int .i64 (l.getD t 0)) := by
    rcases h.2 with h0 | ⟨b, o, e, _, hc⟩
    · exact Or.inl h0
    · exact Or.inr ⟨b, o, e, hc⟩
  obtain ⟨r, hr⟩ : ∃ r, cndOk bits l = r := ⟨_, rfl⟩
  rw [hr]
  have Hr := Lib.hid hr
  clear h hr
  by_cases hn : 24 < n
  · have h1 : (24 : Int) < (n : Int) := by omega
    have hf : r = false := by rw [← Hr.out]; unfold cndOk; rw [Hl.out]; simp; omega
    have HF := Lib.hid hf
    clear hf Hr hn
    go_enter Tryz.func113, Tryz.ntmps113
    go_wp2_with fail
    go_ret
    exact ⟨congrArg (fun b => Ending.returned (Value.bool b)) HF.out.symm, rfl⟩
  · have h1 : ¬ (24 : Int) < (n : Int) := by omega
    have hall : r = l.all (termOk bits) := by
      rw [← Hr.out]; unfold cndOk
      have : decide (l.length ≤ 24) = true := by rw [Hl.out]; simp; omega
      rw [this, Bool.true_and]
    have Hall := Lib.hid hall
    have hwb : IntKind.i64.wrap (-bits) = -bits := by rw [IntKind.wrap_i64]; omega
    clear hall Hr hn
    go_enter Tryz.func113, Tryz.ntmps113
    go_wp2_with fail
    go_loopg [12] n (fun k s12 wr => wr = w ∧ ∃ i : Nat, s12 = .int .i64 (i : Int) ∧ i ≤ n ∧ n - i = k ∧ r = (l.drop i).all (termOk bits))
    case atStart => exact ⟨rfl, 0, rfl, by omega, by omega, Hall.out⟩
    case round =>
      obtain ⟨rfl, i, rfl, hi, hk, hr⟩ := hrel
      by_cases hin : i = n
      · have h2 : ¬ (i : Int) < (n : Int) := by omega
        have ht : r = true := by rw [hr, List.drop_eq_nil_of_le (by rw [Hl.out]; omega)]; rfl
        have HF := Lib.hid ht
        clear hr ht Hall
        go_wp2_with fail
        go_ret
        exact ⟨congrArg (fun b => Ending.returned (Value.bool b)) HF.out.symm, rfl⟩
      · have h2 : (i : Int) < (n : Int) := by omega
        have h0 : (0 : Int) ≤ (i : Int) := by omega
        rcases hab with h | ⟨b, o, rfl, hcell⟩
        · omega
        have hci := hcell i (by omega)
        obtain ⟨y, hy⟩ : ∃ y, l.getD i 0 = y := ⟨_, rfl⟩
        rw [hy] at hci
        have hst := all_step (termOk bits) l i (by rw [Hl.out]; omega)
        rw [hy, ← hr] at hst
        have Hst := Lib.hid hst
        have Hcell := Lib.hid hcell
        clear hcell hy hr hst
        by_cases y0 : y = 0
        · have ht : termOk bits y = false := by simp [termOk, y0]
          have hf : r = false := by rw [Hst.out, ht]; rfl
          have HF := Lib.hid hf
          subst y0
          clear hf ht Hst Hall
          go_wp2_with fail
          go_ret
          exact ⟨congrArg (fun b => Ending.returned (Value.bool b)) HF.out.symm, rfl⟩
        · have e0 : (y == 0) = false := by simp [y0]
          by_cases y1 : y < -bits
          · have ht : termOk bits y = false := by unfold termOk; simp; omega
            have hf : r = false := by rw [Hst.out, ht]; rfl
            have HF := Lib.hid hf
            clear hf ht Hst Hall
            go_wp2_with fail
            go_ret
            exact ⟨congrArg (fun b => Ending.returned (Value.bool b)) HF.out.symm, rfl⟩
          · have e1 : decide (y < -bits) = false := by simp; omega
            by_cases y2 : bits < y
            · have ht : termOk bits y = false := by unfold termOk; simp; omega
              have hf : r = false := by rw [Hst.out, ht]; rfl
              have HF := Lib.hid hf
              clear hf ht Hst Hall
              go_wp2_with fail
              go_ret
              exact ⟨congrArg (fun b => Ending.returned (Value.bool b)) HF.out.symm, rfl⟩
            · have e2 : decide (bits < y) = false := by simp; omega
              have ht : termOk bits y = true := by unfold termOk; simp; omega
              have hst' : r = (l.drop (i + 1)).all (termOk bits) := by rw [Hst.out, ht]; rfl
              have Hst' := Lib.hid hst'
              clear ht hst' Hst y1 y2
              go_wp2_with fail
              go_roundg (n - (i + 1))
              case measure => omega
              case rel => exact ⟨rfl, i + 1, by go_num, by omega, rfl, Hst'.out⟩

end Go.Proofs.YtfjnlopbmkimiaaGreatDoor
namespace Go.Proofs.YtfjnlopbmkimiaaGreatDoor
open Go.RowKit

/-- The lists of an operation. -/
structure OpL (w : World) (o : Gop) (a1 : Option Addr) (n1 c1 : Nat) (a2 : Option Addr) (n2 c2 : Nat) : Prop where
  i1 : IntsAt w a1 n1 o.ctl
  h1 : n1 ≤ c1
  m1 : c1 ≤ 9223372036854775807
  i2 : IntsAt w a2 n2 o.cnd
  h2 : n2 ≤ c2
  m2 : c2 ≤ 9223372036854775807
theorem OpL.ext {w w' : World} {o : Gop} {a1 : Option Addr} {n1 c1 : Nat} {a2 : Option Addr} {n2 c2 : Nat} (h : OpL w o a1 n1 c1 a2 n2 c2) (k : Ext w w') : OpL w' o a1 n1 c1 a2 n2 c2 := ⟨h.i1.ext k, h.h1, h.m1, h.i2.ext k, h.h2, h.m2⟩

/-- The cells of an operation in a variable. -/
structure OpBx (W : World) (g : Nat) (k0 k1 : Int) (a1 : Option Addr) (n1 c1 : Nat) (k3 k4 : Int) (a2 : Option Addr) (n2 c2 : Nat) : Prop where
  row : W.heap[g]? = some (.cells #[.int .i64 k0, .int .i64 k1, .slice a1 n1 c1, .int .i64 k3, .int .i64 k4, .slice a2 n2 c2] 60 (0, 0))
section
variable {W W' : World} {g : Nat} {k0 k1 : Int} {a1 : Option Addr} {n1 c1 : Nat} {k3 k4 : Int} {a2 : Option Addr} {n2 c2 : Nat}
theorem OpBx.lt (h : OpBx W g k0 k1 a1 n1 c1 k3 k4 a2 n2 c2) : g < W.heap.size := (Array.getElem?_eq_some_iff.1 h.row).1
theorem OpBx.ext (h : OpBx W g k0 k1 a1 n1 c1 k3 k4 a2 n2 c2) (k : Ext W W') : OpBx W' g k0 k1 a1 n1 c1 k3 k4 a2 n2 c2 := ⟨(k.block _ h.lt).trans h.row⟩
theorem OpBx.x0 (h : OpBx W g k0 k1 a1 n1 c1 k3 k4 a2 n2 c2) : W.cell? ⟨g, 0, none⟩ = some (.int .i64 k0) := by rw [cell_of_row W g 0 _ _ (0, 0) h.row]; rfl
theorem OpBx.x1 (h : OpBx W g k0 k1 a1 n1 c1 k3 k4 a2 n2 c2) : W.cell? ⟨g, 1, none⟩ = some (.int .i64 k1) := by rw [cell_of_row W g 1 _ _ (0, 0) h.row]; rfl
theorem OpBx.x2 (h : OpBx W g k0 k1 a1 n1 c1 k3 k4 a2 n2 c2) : W.cell? ⟨g, 2, none⟩ = some (.slice a1 n1 c1) := by rw [cell_of_row W g 2 _ _ (0, 0) h.row]; rfl
theorem OpBx.x3 (h : OpBx W g k0 k1 a1 n1 c1 k3 k4 a2 n2 c2) : W.cell? ⟨g, 3, none⟩ = some (.int .i64 k3) := by rw [cell_of_row W g 3 _ _ (0, 0) h.row]; rfl
theorem OpBx.x4 (h : OpBx W g k0 k1 a1 n1 c1 k3 k4 a2 n2 c2) : W.cell? ⟨g, 4, none⟩ = some (.int .i64 k4) := by rw [cell_of_row W g 4 _ _ (0, 0) h.row]; rfl
theorem OpBx.x5 (h : OpBx W g k0 k1 a1 n1 c1 k3 k4 a2 n2 c2) : W.cell? ⟨g, 5, none⟩ = some (.slice a2 n2 c2) := by rw [cell_of_row W g 5 _ _ (0, 0) h.row]; rfl
theorem OpBx.f (h : OpBx W g k0 k1 a1 n1 c1 k3 k4 a2 n2 c2) (o : Nat) : W.frozen? ⟨g, o, none⟩ = false := frozen_of_row W g o _ _ h.row
theorem opbx_new (w : World) (k0 k1 : Int) (a1 : Option Addr) (n1 c1 : Nat) (k3 k4 : Int) (a2 : Option Addr) (n2 c2 : Nat) : OpBx (w.alloc (.cells #[.int .i64 k0, .int .i64 k1, .slice a1 n1 c1, .int .i64 k3, .int .i64 k4, .slice a2 n2 c2] 60)) w.heap.size k0 k1 a1 n1 c1 k3 k4 a2 n2 c2 := ⟨heap_alloc_new w _⟩
end
theorem cell_ext {w w' : World} {b o : Nat} {v : Value} (h : w.cell? ⟨b, o, none⟩ = some v) (k : Ext w w') : w'.cell? ⟨b, o, none⟩ = some v :=
  (k.cell (p := ⟨b, o, none⟩) (World.block_lt_of_cell? w ⟨b, o, none⟩ h)).trans h
theorem ext_al (w : World) (o : Obj) : Ext w (w.alloc o) := (Below.refl _ _).alloc (Nat.le_refl _) o

set_option maxHeartbeats 2000000 in
theorem checkControls_any (k0 k1 : Int) (a1 : Option Addr) (n1 c1 : Nat) (q k4 : Int) (a2 : Option Addr) (n2 c2 : Nat) (l : List Int) (n : Int) (w : World) (h : IntsAt w a1 n1 l) (hnc : n1 ≤ c1) (hc : c1 ≤ 9223372036854775807) :
    Calls Tryz.prog 112 #[.agg #[.int .i64 k0, .int .i64 k1, .slice a1 n1 c1, .int .i64 q, .int .i64 k4, .slice a2 n2 c2], .int .i64 n] w fun e w' => e = .returned (.int .i64 (ctlCode q n [] l)) ∧ Ext w w' := by
  have HE := Lib.hid (ext_al w (.cells #[.int .i64 k0, .int .i64 k1, .slice a1 n1 c1, .int .i64 q, .int .i64 k4, .slice a2 n2 c2] 60))
  have bx := opbx_new w k0 k1 a1 n1 c1 q k4 a2 n2 c2
  have I0 := h.ext HE.out
  have m2 := bx.x2; have m3 := bx.x3
  have Hl := Lib.hid h.1
  have hab : n1 = 0 ∨ ∃ b o, a1 = some ⟨b, o, none⟩ := by
    rcases h.2 with h0 | ⟨b, o, e, _, hc⟩
    · exact Or.inl h0
    · exact Or.inr ⟨b, o, e⟩
  obtain ⟨r, hr⟩ : ∃ r, ctlCode q n [] l = r := ⟨_, rfl⟩
  rw [hr]
  have Hr := Lib.hid hr
  clear h hr bx
  go_enter Tryz.func112, Tryz.ntmps112
  go_wp2_with fail
  generalize w.alloc (.cells #[.int .i64 k0, .int .i64 k1, .slice a1 n1 c1, .int .i64 q, .int .i64 k4, .slice a2 n2 c2] 60) = W0 at *
  have HI0 := Lib.hid I0
  clear I0
  go_loopg [10] n1 (fun k s10 wr => wr = W0 ∧ ∃ i : Nat, s10 = .int .i64 (i : Int) ∧ i ≤ n1 ∧ n1 - i = k ∧ r = ctlCode q n (l.take i) (l.drop i))
  case atStart => exact ⟨rfl, 0, rfl, by omega, by omega, Hr.out.symm⟩
  case round =>
    obtain ⟨rfl, i, rfl, hi, hk, hri⟩ := hrel
    by_cases hin : i = n1
    · have h2 : ¬ (i : Int) < (n1 : Int) := by omega
      have hz : r = 0 := by rw [hri]; exact ctlCode_end q n l i (by rw [Hl.out]; omega)
      have HF := Lib.hid hz
      clear hri hz
      go_wp2_with fail
      go_ret
      exact ⟨congrArg (fun b => Ending.returned (Value.int .i64 b)) HF.out.symm, HE.out⟩
    · have h2 : (i : Int) < (n1 : Int) := by omega
      have h0 : (0 : Int) ≤ (i : Int) := by omega
      have hic : (i : Int) ≤ (c1 : Int) := by omega
      rcases hab with h | ⟨b, o, rfl⟩
      · omega
      obtain ⟨b', o', e, _, hcell⟩ := HI0.out.at (by omega)
      cases e
      have hci := hcell i (by omega)
      obtain ⟨y, hy⟩ : ∃ y, l.getD i 0 = y := ⟨_, rfl⟩
      rw [hy] at hci
      have hst := ctlCode_step q n l i (by rw [Hl.out]; omega)
      rw [← hri, hy] at hst
      have Hst := Lib.hid hst
      have HB := Lib.hid (isBelow_any y n wr)
      have HC := Lib.hid (Contains_any (some ⟨b, o, none⟩) i c1 (l.take i) y wr (HI0.out.take i (by omega)) (by omega) hc)
      obtain ⟨bl, hbl⟩ : ∃ x, below y n = x := ⟨_, rfl⟩
      rw [hbl] at HB
      clear hcell hy hri hst
      cases bl
      · have hz : r = 10 := by rw [Hst.out, if_pos hbl]
        have HF := Lib.hid hz
        clear hz Hst hbl
        go_wp2_with fail
        refine HB.out.mono ?_
        rintro e w1 ⟨rfl, rfl⟩
        go_wp2_with fail
        go_ret
        exact ⟨congrArg (fun b => Ending.returned (Value.int .i64 b)) HF.out.symm, HE.out⟩
      · have hst1 : r = if y = q ∨ y ∈ l.take i then 12 else ctlCode q n (l.take (i + 1)) (l.drop (i + 1)) := by rw [Hst.out, if_neg (by rw [hbl]; decide)]
        have Hst1 := Lib.hid hst1
        clear hst1 Hst hbl
        by_cases hyq : y = q
        · have hb : (y == q) = true := by simp [hyq]
          have hz : r = 12 := by rw [Hst1.out, if_pos (Or.inl hyq)]
          have HF := Lib.hid hz
          clear hz hyq Hst1
          go_wp2_with fail
          refine HB.out.mono ?_
          rintro e w1 ⟨rfl, rfl⟩
          go_wp2_with fail
          go_ret
          exact ⟨congrArg (fun b => Ending.returned (Value.int .i64 b)) HF.out.symm, HE.out⟩
        · have hb : (y == q) = false := by simp [hyq]
          have Hyq := Lib.hid hyq
          obtain ⟨bm, hbm⟩ : ∃ x, decide (y ∈ l.take i) = x := ⟨_, rfl⟩
          rw [hbm] at HC
          clear hyq
          cases bm
          · have hz : r = ctlCode q n (l.take (i + 1)) (l.drop (i + 1)) := by rw [Hst1.out, if_neg (fun h => h.elim Hyq.out (of_decide_eq_false hbm))]
            have HF := Lib.hid hz
            clear hz hbm Hst1
            go_wp2_with fail
            refine HB.out.mono ?_
            rintro e w1 ⟨rfl, rfl⟩
            go_wp2_with fail
            refine HC.out.mono ?_
            rintro e w1 ⟨rfl, rfl⟩
            go_wp2_with fail
            go_roundg (n1 - (i + 1))
            case measure => omega
            case rel => exact ⟨rfl, i + 1, by go_num, by omega, rfl, HF.out⟩
          · have hz : r = 12 := by rw [Hst1.out, if_pos (Or.inr (of_decide_eq_true hbm))]
            have HF := Lib.hid hz
            clear hz hbm Hst1
            go_wp2_with fail
            refine HB.out.mono ?_
            rintro e w1 ⟨rfl, rfl⟩
            go_wp2_with fail
            refine HC.out.mono ?_
            rintro e w1 ⟨rfl, rfl⟩
            go_wp2_with fail
            go_ret
            exact ⟨congrArg (fun b => Ending.returned (Value.int .i64 b)) HF.out.symm, HE.out⟩

end Go.Proofs.YtfjnlopbmkimiaaGreatDoor
namespace Go.Proofs.YtfjnlopbmkimiaaGreatDoor
open Go.RowKit

theorem ons_fl {x : Nat} {q : Int} {l : List Int} (h : ∀ c ∈ l, c.toNat ≠ q.toNat) : ons (fl x q) l = ons x l := by
  unfold ons
  rw [Bool.eq_iff_iff, List.all_eq_true, List.all_eq_true]
  constructor
  · intro g c hc; have := g c hc; rw [bt_fl_ne (h c hc)] at this; exact this
  · intro g c hc; rw [bt_fl_ne (h c hc)]; exact g c hc
end Go.Proofs.YtfjnlopbmkimiaaGreatDoor
namespace Go.Proofs.YtfjnlopbmkimiaaGreatDoor

theorem and_half {m f : Nat} (h : m &&& f = f) : (m / 2) &&& (f / 2) = f / 2 := by rw [← Nat.and_div_two, h]
theorem and_low {m f : Nat} (h : m &&& f = f) (hf : f % 2 = 1) : m % 2 = 1 := by
  have h1 : f.testBit 0 = true := by simp [hf]
  rw [← h, Nat.testBit_and] at h1
  have h2 := (Bool.and_eq_true_iff.1 h1).1
  simpa using h2
theorem or_low (x y : Nat) : (x ||| y) % 2 = if x % 2 = 1 ∨ y % 2 = 1 then 1 else 0 := by
  have h := Nat.or_mod_two_eq_one (a := x) (b := y)
  by_cases e : x % 2 = 1 ∨ y % 2 = 1
  · rw [if_pos e]; exact h.2 e
  · rw [if_neg e]
    have : ¬ (x ||| y) % 2 = 1 := fun g => e (h.1 g)
    omega
/-- The next number that holds all of f. -/
theorem next_sup : ∀ (m f z : Nat), m &&& f = f → z &&& f = f → m < z → (m + 1) ||| f ≤ z := by
  intro m
  induction m using Nat.strongRecOn with
  | ind m ih =>
    intro f z hm hz hlt
    have hd : ((m + 1) ||| f) / 2 = (m + 1) / 2 ||| f / 2 := Nat.or_div_two
    have hl := or_low (m + 1) f
    by_cases h0 : m % 2 = 0
    · have hf : f % 2 = 0 := by
        by_cases e : f % 2 = 1
        · have := and_low hm e; omega
        · omega
      have e1 : (m + 1) / 2 = m / 2 := by omega
      have e2 : m / 2 ||| f / 2 = m / 2 := by
        have := and_half hm
        apply Nat.eq_of_testBit_eq
        intro i
        rw [Nat.testBit_or]
        have h3 : (f / 2).testBit i = ((m / 2).testBit i && (f / 2).testBit i) := by rw [← Nat.testBit_and, this]
        cases ha : (m / 2).testBit i <;> simp_all
      rw [e1, e2] at hd
      have : ((m + 1) ||| f) % 2 ≤ 1 := by omega
      omega
    · have e1 : (m + 1) / 2 = m / 2 + 1 := by omega
      rw [e1] at hd
      have hc : m / 2 < z / 2 := by omega
      have h1 := ih (m / 2) (by omega) (f / 2) (z / 2) (and_half hm) (and_half hz) hc
      by_cases e : f % 2 = 1
      · have := and_low hz e
        omega
      · rw [if_neg (by omega)] at hl
        omega
theorem or_and (a b : Nat) : (a ||| b) + (a &&& b) = a + b := by
  induction a using Nat.strongRecOn generalizing b with
  | ind a ih =>
    by_cases h : a = 0
    · subst h; simp
    have h1 := ih (a / 2) (by omega) (b / 2)
    have d1 : (a ||| b) / 2 = a / 2 ||| b / 2 := Nat.or_div_two
    have d2 : (a &&& b) / 2 = a / 2 &&& b / 2 := Nat.and_div_two
    have l1 := or_low a b
    have l2 : (a &&& b) % 2 = if a % 2 = 1 ∧ b % 2 = 1 then 1 else 0 := by
      have h := Nat.and_mod_two_eq_one (a := a) (b := b)
      by_cases e : a % 2 = 1 ∧ b % 2 = 1
      · rw [if_pos e]; exact h.2 e
      · rw [if_neg e]
        have : ¬ (a &&& b) % 2 = 1 := fun g => e (h.1 g)
        omega
    rw [← d1, ← d2] at h1
    obtain ⟨O, hO⟩ : ∃ O, a ||| b = O := ⟨_, rfl⟩
    obtain ⟨A, hA⟩ : ∃ A, a &&& b = A := ⟨_, rfl⟩
    rw [hO] at h1 l1 ⊢
    rw [hA] at h1 l2 ⊢
    clear hO hA d1 d2 ih
    by_cases ha : a % 2 = 1
    · by_cases hb : b % 2 = 1
      · rw [if_pos (Or.inl ha)] at l1; rw [if_pos ⟨ha, hb⟩] at l2; omega
      · rw [if_pos (Or.inl ha)] at l1; rw [if_neg (fun e => hb e.2)] at l2; omega
    · by_cases hb : b % 2 = 1
      · rw [if_pos (Or.inr hb)] at l1; rw [if_neg (fun e => ha e.1)] at l2; omega
      · rw [if_neg (fun e => e.elim ha hb)] at l1; rw [if_neg (fun e => ha e.1)] at l2; omega
/-- Without the qubits of f. -/
def andN (t f : Nat) : Nat := t ^^^ (t &&& f)
theorem andN_bit (t f i : Nat) : (andN t f).testBit i = (t.testBit i && !f.testBit i) := by
  unfold andN
  rw [Nat.testBit_xor, Nat.testBit_and]
  cases t.testBit i <;> cases f.testBit i <;> rfl
/-- The next basis state whose qubits of f are as o says. -/
def nxt (o f y : Nat) : Nat := andN ((y ||| f) + 1) f ||| o
theorem nxt_in {o f : Nat} (ho : o &&& f = o) (y : Nat) : nxt o f y &&& f = o := by
  apply Nat.eq_of_testBit_eq
  intro i
  have h3 : o.testBit i = (o.testBit i && f.testBit i) := by rw [← Nat.testBit_and, ho]
  unfold nxt
  rw [Nat.testBit_and, Nat.testBit_or, andN_bit]
  cases ha : o.testBit i <;> cases hb : f.testBit i <;> simp_all
theorem nxt_or {o f : Nat} (ho : o &&& f = o) (y : Nat) : nxt o f y ||| f = ((y ||| f) + 1) ||| f := by
  apply Nat.eq_of_testBit_eq
  intro i
  have h3 : o.testBit i = (o.testBit i && f.testBit i) := by rw [← Nat.testBit_and, ho]
  unfold nxt
  rw [Nat.testBit_or, Nat.testBit_or, Nat.testBit_or, andN_bit]
  cases ha : o.testBit i <;> cases hb : f.testBit i <;> simp_all
theorem sup_of (y f : Nat) : (y ||| f) &&& f = f := by
  apply Nat.eq_of_testBit_eq
  intro i
  rw [Nat.testBit_and, Nat.testBit_or]
  cases y.testBit i <;> cases f.testBit i <;> rfl
theorem nxt_gt {o f y : Nat} (ho : o &&& f = o) (hy : y &&& f = o) : y < nxt o f y := by
  have h1 := or_and y f; have h2 := or_and (nxt o f y) f
  rw [hy] at h1
  rw [nxt_in ho, nxt_or ho] at h2
  have h3 : (y ||| f) + 1 ≤ ((y ||| f) + 1) ||| f := Nat.left_le_or
  omega
theorem nxt_least {o f y z : Nat} (ho : o &&& f = o) (hy : y &&& f = o) (hz : z &&& f = o) (h : y < z) : nxt o f y ≤ z := by
  have h1 := or_and y f; have h2 := or_and (nxt o f y) f; have h3 := or_and z f
  rw [hy] at h1
  rw [hz] at h3
  rw [nxt_in ho, nxt_or ho] at h2
  have h4 := next_sup (y ||| f) f (z ||| f) (sup_of _ _) (sup_of _ _) (by omega)
  omega
/-- The first one is o itself. -/
theorem first_least {o f z : Nat} (hz : z &&& f = o) : o ≤ z := by rw [← hz]; exact Nat.and_le_left
end Go.Proofs.YtfjnlopbmkimiaaGreatDoor
namespace Go.Proofs.YtfjnlopbmkimiaaGreatDoor
open Go.RowKit

theorem or_i64 (x y : Nat) (hx : x < 1048576) (hy : y < 1048576) : bits .or .i64 (x : Int) (y : Int) = ((x ||| y : Nat) : Int) := by
  show IntKind.i64.wrap ((BitVec.ofInt 64 (x : Int) ||| BitVec.ofInt 64 (y : Int)).toNat : Int) = _
  have h1 := ofInt_toNat (x : Int); have h2 := ofInt_toNat (y : Int)
  have h3 : (BitVec.ofInt 64 (x : Int)).toNat = x := by omega
  have h4 : (BitVec.ofInt 64 (y : Int)).toNat = y := by omega
  have h5 : x ||| y < 2 ^ 20 := Nat.or_lt_two_pow hx hy
  rw [BitVec.toNat_or, h3, h4, IntKind.wrap_i64]
  omega
/-- The set of these qubits. -/
def msk (l : List Int) : Nat := l.foldl (fun a c => a ||| 2 ^ c.toNat) 0
theorem msk_snoc (l : List Int) (c : Int) : msk (l ++ [c]) = msk l ||| 2 ^ c.toNat := by unfold msk; rw [List.foldl_append]; rfl
theorem msk_take {l : List Int} {i : Nat} (h : i < l.length) : msk (l.take (i + 1)) = msk (l.take i) ||| 2 ^ (l.getD i 0).toNat := by
  rw [List.take_succ_eq_append_getElem h, msk_snoc, List.getD_eq_getElem?_getD, List.getElem?_eq_getElem h]
  rfl
theorem msk_bit_from (l : List Int) (a i : Nat) : (l.foldl (fun a c => a ||| 2 ^ c.toNat) a).testBit i = (a.testBit i || l.any (fun c => c.toNat == i)) := by
  induction l generalizing a with
  | nil => simp
  | cons c r ih =>
    rw [List.foldl_cons, ih, Nat.testBit_or, Nat.testBit_two_pow, List.any_cons, Bool.or_assoc]
    congr 2
theorem msk_bit (l : List Int) (i : Nat) : (msk l).testBit i = l.any (fun c => c.toNat == i) := by
  unfold msk
  rw [msk_bit_from]
  simp
theorem msk_lt {l : List Int} {n : Nat} (h : ∀ c ∈ l, c.toNat < n) : msk l < 2 ^ n := by
  refine Nat.lt_pow_two_of_testBit _ fun i hi => ?_
  rw [msk_bit, List.any_eq_false]
  intro c hc
  have := h c hc
  simp only [beq_iff_eq]
  omega
/-- All of these are 1 just where the set lies within. -/
theorem ons_msk (x : Nat) (l : List Int) : ons x l = true ↔ x &&& msk l = msk l := by
  unfold ons
  rw [List.all_eq_true]
  constructor
  · intro h
    apply Nat.eq_of_testBit_eq
    intro i
    rw [Nat.testBit_and, msk_bit]
    cases hb : l.any (fun c => c.toNat == i) with
    | false => simp
    | true =>
      obtain ⟨c, hc, e⟩ := List.any_eq_true.1 hb
      have h1 := h c hc
      have h2 : c.toNat = i := by simpa using e
      unfold bt at h1
      rw [h2] at h1
      rw [h1]; rfl
  · intro h c hc
    have h1 : (msk l).testBit c.toNat = true := by
      rw [msk_bit]
      exact List.any_eq_true.2 ⟨c, hc, by simp⟩
    rw [← h, Nat.testBit_and] at h1
    exact (Bool.and_eq_true_iff.1 h1).1

set_option maxRecDepth 100000 in
set_option maxHeartbeats 2000000 in
theorem set_any (ao : Option Addr) (n cp : Nat) (l : List Int) (w : World) (h : IntsAt w ao n l) (hn : n ≤ 1000) (h0 : ∀ c ∈ l, 0 ≤ c ∧ c < 19) :
    Calls Tryz.prog 117 #[.slice ao n cp] w fun e w' => e = .returned (.int .i64 (msk l : Int)) ∧ w' = w := by
  have hlen := h.1
  have Hh := Lib.hid h; have H0 := Lib.hid h0; have Hlen := Lib.hid hlen; have Hn := Lib.hid hn
  clear h h0 hlen hn
  obtain ⟨R, hR⟩ : ∃ R : Int, (msk l : Int) = R := ⟨_, rfl⟩
  rw [hR]
  have HR := Lib.hid hR
  clear hR
  go_enter Tryz.func117, Tryz.ntmps117
  go_wp2_with fail
  go_loopg [3, 8] n (fun kk s3 s8 wr => ∃ i a : Nat, s8 = .int .i64 (i : Int) ∧ s3 = .int .i64 (a : Int) ∧ a = msk (l.take i) ∧ i ≤ n ∧ n - i = kk ∧ wr = w)
  case atStart => exact ⟨0, 0, rfl, rfl, rfl, by omega, by omega, rfl⟩
  case round =>
    obtain ⟨i, a, rfl, rfl, ha, hi, hk, rfl⟩ := hrel
    have Ha := Lib.hid ha; have Hk := Lib.hid hk
    clear ha hk
    by_cases hin : i = n
    · have Hr := Lib.hid (show (a : Int) = R by
        rw [← HR.out, Ha.out, hin, List.take_of_length_le (by rw [Hlen.out]; exact Nat.le_refl _)])
      have q1 : ¬ (i : Int) < (n : Int) := by omega
      clear hin hi
      go_wp2_with fail
      go_ret
      exact ⟨congrArg (fun b => Ending.returned (Value.int .i64 b)) Hr.out, rfl⟩
    have hlt : i < n := by omega
    have q1 : (i : Int) < (n : Int) := by omega
    have q0 : (0 : Int) ≤ (i : Int) := by omega
    have wk : IntKind.i64.wrap ((i : Int) + 1) = ((i + 1 : Nat) : Int) := by rw [IntKind.wrap_i64]; have := Hn.out; omega
    obtain ⟨b, o, rfl, hb, hc⟩ := Hh.out.2.resolve_left (by omega)
    have y0 := hc i hlt
    have hil : i < l.length := by rw [Hlen.out]; exact hlt
    have hc0 : 0 ≤ l.getD i 0 ∧ l.getD i 0 < 19 := by
      rw [List.getD_eq_getElem?_getD, List.getElem?_eq_getElem hil]
      exact H0.out _ (List.getElem_mem hil)
    obtain ⟨c, hcc⟩ : ∃ c : Nat, l.getD i 0 = (c : Int) := ⟨(l.getD i 0).toNat, by omega⟩
    rw [hcc] at y0 hc0
    obtain ⟨t, ht⟩ : ∃ t : Nat, 2 ^ c = t := ⟨_, rfl⟩
    have hs : wrap64 (2 ^ min c 64) = (t : Int) := by rw [← ht]; exact shl1 (by omega)
    have ht2 : t < 1048576 := by rw [← ht]; exact Nat.lt_of_le_of_lt (Nat.pow_le_pow_right (by decide) (show c ≤ 19 by omega)) (by decide)
    have ha2 : a < 1048576 := by
      rw [Ha.out]
      exact msk_lt (n := 20) (fun d hd => by have := H0.out d (List.mem_of_mem_take hd); omega)
    obtain ⟨a', ha'⟩ : ∃ a' : Nat, a ||| t = a' := ⟨_, rfl⟩
    have ho : bits .or .i64 (a : Int) (t : Int) = (a' : Int) := by rw [or_i64 a t ha2 ht2, ha']
    have c0 : (0 : Int) ≤ (c : Int) := by omega
    have Hn2 := Lib.hid (show a' = msk (l.take (i + 1)) by rw [msk_take hil, hcc, ← ha', Ha.out, ← ht]; rfl)
    have Hlt := Lib.hid hlt
    clear hcc hc0 hb hc hin hi ht ht2 ha2 ha' hil
    go_wp2_with fail
    go_roundg (n - (i + 1))
    case measure => have := Hk.out; have := Hlt.out; omega
    case rel => exact ⟨i + 1, a', rfl, rfl, Hn2.out, Hlt.out, rfl, rfl⟩
end Go.Proofs.YtfjnlopbmkimiaaGreatDoor
