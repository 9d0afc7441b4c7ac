/-
  A number of circuits as a text: Text. A part's text becomes a number, or is refused: readWhole. A number of circuits made of the texts of its parts and of its power: makeNumber. A text read: read. What Text wrote is read as the same number, in plain lists. Make in one; Zero; how the ring begins. A text read, or refused: Parse.
-/
import Derived.Test.YtldkomeacocjbaaGreatDoorProg
import Derived.Test.YtldkomeacocjbaaGreatDoorRows
import Derived.BigQuiet
import Derived.Deep.Cut
import Derived.Deep.CutRange
import Derived.Deep.LoopGhost
import Derived.Deep.MidRow
import Derived.Deep.QuietTactic
import Derived.Deep.RegionHeld3
import Derived.Laws.Bits64b
import Derived.Laws.CopyOwn
import Derived.Laws.ResultCell
import Derived.Laws.Rows
import Derived.Lib.AppendIntMem
import Derived.Lib.AppendStr
import Derived.Lib.BitFns
import Derived.Lib.Hide
import Derived.Lib.ItoaMem
import Derived.Lib.ItoaNum
import Derived.Lib.Strings
import Derived.Lib.TrailingZeros
import Derived.OwnWalk
import Derived.Shelf.Bits.Mul64
import Derived.Shelf.LaysM
import Derived.Shelf.Small.Bits
import Derived.Shelf.Small.Wraps
import Derived.Shelf.Spec.BitsCarry
import Derived.Shelf.Spec.TrailingZeros
import Derived.Shelf.Strconv.Itoa0
import Derived.Shelf.Strconv.Itoa1
import Derived.Shelf.Strconv.Itoa2
import Derived.Shelf.Strconv.Itoa3
import Derived.Shelf.Strings.Builder1
import Derived.Shelf.Strings.BuilderF
import Derived.Shelf.Strings.BuilderK
import Derived.WalkKit
import Derived.WalkLawsBesides
import Derived.WalkSpells
import Derived.Test.YtldkomeacocjbaaGreatDoorS00Mem
import Derived.Test.YtldkomeacocjbaaGreatDoorShelf
import Derived.Test.YtldkomeacocjbaaGreatDoorS02ShiftI
import Derived.Test.YtldkomeacocjbaaGreatDoorS03GuessD
import Derived.Test.YtldkomeacocjbaaGreatDoorS04IntB
import Derived.Test.YtldkomeacocjbaaGreatDoorS05IntD
import Derived.Test.YtldkomeacocjbaaGreatDoorS06ParC
import Derived.Test.YtldkomeacocjbaaGreatDoorS07GcD
import Derived.Test.YtldkomeacocjbaaGreatDoorS08Rh
import Derived.Test.YtldkomeacocjbaaGreatDoorS09Rs
import Derived.Test.YtldkomeacocjbaaGreatDoorS10Tb
import Derived.Test.YtldkomeacocjbaaGreatDoorS11Td
import Derived.Test.YtldkomeacocjbaaGreatDoorS12TxT
namespace Go.Proofs.YtldkomeacocjbaaGreatDoor
open Go.RowKit

/-- The parts' texts with commas between them. -/
def jnT (f : Nat → Int) : Nat → List UInt8
  | 0 => []
  | i + 1 => jnT f i ++ (if 0 < i then [44] else []) ++ Lib.itoa (f i)
/-- The whole text. -/
def rtx (f : Nat → Int) : List UInt8 := jnT f (lenN f 8) ++ (if f 8 = 0 then [] else 47 :: Lib.itoa (f 8))
abbrev BldU (w : World) (b : Nat) (l : List UInt8) : Prop := Bld w b (Lib.byteCells l)
theorem Bld.ext {w w' : World} {b : Nat} {bs : List Value} (h : Bld w b bs) (k : Ext w w') : Bld w' b bs := by
  have go : ∀ p, Lib.BuilderAtF 85 5 b b p bs w → Lib.BuilderAtF 85 5 b b p bs w' := by
    rintro p ⟨h1, v, h2, h3, h4⟩
    refine ⟨h1, v, (k.block _ (Array.getElem?_eq_some_iff.1 h2).1).trans h2, ⟨h3.1, ?_⟩, h4⟩
    rcases h3.2 with h5 | ⟨g, cap, cur, fz, e1, e2, e3, e4⟩
    · exact Or.inl h5
    · exact Or.inr ⟨g, cap, cur, fz, e1, e2, (k.block _ (Array.getElem?_eq_some_iff.1 e3).1).trans e3, e4⟩
  rcases h with h | h
  · exact Or.inl (go _ h)
  · exact Or.inr (go _ h)
theorem ustr (b : Nat) (l : List UInt8) (s : ByteArray) (w : World) (h : BldU w b l) (hlen : l.length + s.size ≤ 140737488355328) :
    Calls Tryz.prog 59 #[.pointer (some ⟨b, 0, none⟩), .string s] w fun e w' => e = .returned (.tuple #[.int .i64 s.size, .nilIface]) ∧ BldU w' b (l ++ s.data.toList) ∧ Wrt b w w' := by
  refine (writeString_any b _ s w h (by rw [Lib.byteCells_length]; exact hlen)).mono ?_
  intro e w' hh
  refine ⟨hh.1, ?_, hh.2.2⟩
  have := hh.2.1
  rw [Lib.strCells_eq, ← Lib.byteCells_append] at this
  exact this
theorem ubyte (b : Nat) (l : List UInt8) (c : UInt8) (w : World) (h : BldU w b l) (hlen : l.length + 1 ≤ 140737488355328) :
    Calls Tryz.prog 58 #[.pointer (some ⟨b, 0, none⟩), .int .u8 (c.toNat : Int)] w fun e w' => e = .returned .nilIface ∧ BldU w' b (l ++ [c]) ∧ Wrt b w w' := by
  refine (writeByte_any b _ (c.toNat : Int) w h (by rw [Lib.byteCells_length]; exact hlen)).mono ?_
  intro e w' hh
  refine ⟨hh.1, ?_, hh.2.2⟩
  have := hh.2.1
  have e1 : Lib.byteCells (l ++ [c]) = Lib.byteCells l ++ [.int .u8 (c.toNat : Int)] := by rw [Lib.byteCells_append]; rfl
  rw [← e1] at this
  exact this
/-- A number's text is not too long. -/
theorem ritoa_len (z : Int) (P : Nat) (h : z.natAbs < 2 ^ P) : (Lib.itoa z).length ≤ P + 2 := by
  have h1 : (Lib.itoa z).length = (txt z).length := by unfold txt; rw [List.length_map]
  have h2 : (decN z.natAbs).length ≤ P + 1 := by
    rw [decN_length]
    refine nDigits_le (P + 1) _ (by omega) ?_
    have h3 : 2 ^ P ≤ 10 ^ P := Nat.pow_le_pow_left (by decide) P
    have h4 : 10 ^ P ≤ 10 ^ (P + 1) := Nat.pow_le_pow_right (by decide) (by omega)
    omega
  rw [h1]
  by_cases hz : z < 0
  · rw [txt_neg hz, List.length_cons]; omega
  · rw [txt_pos hz]; omega
theorem jnT_len (f : Nat → Int) (P : Nat) (h : ∀ i, i < 8 → (f i).natAbs < 2 ^ P) : ∀ i, i ≤ 8 → (jnT f i).length ≤ i * (P + 3)
  | 0, _ => by simp [jnT]
  | i + 1, hi => by
    have h1 := jnT_len f P h i (by omega)
    have h2 := ritoa_len (f i) P (h i (by omega))
    have h3 : (if 0 < i then ([44] : List UInt8) else []).length ≤ 1 := by split <;> simp
    simp only [jnT, List.length_append]
    rw [Nat.succ_mul]
    omega

set_option maxRecDepth 100000 in
set_option maxHeartbeats 4000000 in
theorem RText_nm (ca : Array Value) (x : Nm) (P E : Nat) (w : World) (h : NmA w ca x P E) (K : Nat) (hK : K ≤ 100000) (hK1 : 1 ≤ K) (hP : P ≤ 64 * K) (hE : E ≤ 1099511627776) (hT : Ten w) :
    Calls Tryz.prog 9 #[.agg ca] w fun e w' => e = .returned (.string ⟨(rtx (nmF x)).toArray⟩) ∧ Ext w w' := by
  obtain ⟨f, hf⟩ : ∃ f, nmF x = f := ⟨_, rfl⟩
  rw [hf]
  have hv := h.val
  rw [hf] at hv
  have hF : ∀ i, i < 8 → (f i).natAbs < 2 ^ P := fun i hi => by have := nmF_abs h.abs i hi; rw [hf] at this; exact this
  have hf8 : f 8 = ((x.e : Nat) : Int) := by rw [← hf]; rfl
  have hd := h.down
  have HFit := Lib.hid (show ∀ i, i < 9 → Fit K (f i) from fun i hi => by
    by_cases e : i = 8
    · rw [e, hf8]
      exact fit_small (z := ((x.e : Nat) : Int)) (by omega) hK1
    · exact fit_pow (hF i (by omega)) hP)
  have h8b : (Lib.itoa (f 8)).length ≤ 66 := ritoa_len (f 8) 64 (by rw [hf8]; omega)
  obtain ⟨L, hL⟩ : ∃ L, lenN f 8 = L := ⟨_, rfl⟩
  have hL8 : L ≤ 8 := by rw [← hL]; exact lenN_le f 8
  have hjl := jnT_len f P hF
  have HjL := Lib.hid (show ∀ i, i ≤ 8 → (jnT f i).length ≤ 51200024 from fun i hi => by
    have h1 := hjl i hi
    have h2 : i * (P + 3) ≤ 8 * (P + 3) := Nat.mul_le_mul_right _ hi
    omega)
  have HiL := Lib.hid (show ∀ i, i < 8 → (Lib.itoa (f i)).length ≤ 6400002 from fun i hi => by
    have h1 := ritoa_len (f i) P (hF i hi)
    omega)
  have hrtx : rtx f = jnT f L ++ (if f 8 = 0 then [] else 47 :: Lib.itoa (f 8)) := by unfold rtx; rw [hL]
  obtain ⟨R, hR⟩ : ∃ R, rtx f = R := ⟨_, rfl⟩
  rw [hR]
  have HR := Lib.hid (hR.symm.trans hrtx)
  obtain ⟨H, hH⟩ : ∃ H, w.heap.size = H := ⟨_, rfl⟩
  obtain ⟨W0, hW0⟩ : ∃ W0, w.alloc (.cells ca 28) = W0 := ⟨_, rfl⟩
  obtain ⟨U, hU⟩ : ∃ U, W0.alloc (.cells #[.pointer none, .slice none 0 0] 85) = U := ⟨_, rfl⟩
  have s0 : W0.heap.size = H + 1 := by rw [← hW0, ← hH]; simp
  have e0 : Ext w W0 := by rw [← hW0]; exact Ext.alloc _ _
  have N0 : Nums W0 H 9 28 f := by rw [← hW0, ← hH]; exact hv.box 28
  have e1 : Ext W0 U := by rw [← hU]; exact Ext.alloc _ _
  have B0 : BldU U (H + 1) [] := by rw [← hU, ← s0]; exact bld_new W0
  have hUU : (w.alloc (.cells ca 28)).alloc (.cells #[.pointer none, .slice none 0 0] 85) = U := by rw [hW0, hU]
  have HLn := Lib.hid (rowLength_any H 9 28 f U (N0.ext e1) (by decide))
  rw [hL] at HLn
  have HU := Lib.hid hUU; have HH := Lib.hid hH; have HN0 := Lib.hid N0; have He0 := Lib.hid e0; have He1 := Lib.hid e1; have HB0 := Lib.hid B0; have HL8 := Lib.hid hL8; have Hs0 := Lib.hid s0; have HT := Lib.hid hT; have HK := Lib.hid hK; have H8b := Lib.hid h8b
  clear hUU hU hW0 hH s0 e0 e1 N0 B0 hv hF hf8 hd h hf hL hL8 hjl hrtx hR hT hK hK1 hP hE h8b
  go_enter Tryz.func9, Tryz.ntmps9
  go_wp2_with fail
  rw [HU.out, HH.out]
  clear HU
  refine HLn.out.mono ?_
  rintro e w1 ⟨rfl, hx1⟩
  have Hst := Lib.hid (show BldU w1 (H + 1) (jnT f 0) ∧ Ext W0 w1 from ⟨HB0.out.ext hx1, He1.out.trans hx1⟩)
  clear hx1 HB0 He1 HLn
  go_wp2_with fail
  go_loopg [4, 7] L (fun kk s4 s7 wr => ∃ j : Nat, s7 = .int .i64 (j : Int) ∧ j ≤ L ∧ L - j = kk ∧ BldU wr (H + 1) (jnT f j) ∧ Ext W0 wr)
  case atStart => exact ⟨0, rfl, by omega, by omega, Hst.out⟩
  case round =>
    clear Hst
    obtain ⟨j, rfl, hj, hjk, hB, hE⟩ := hrel
    obtain ⟨wo, rfl⟩ : ∃ wo : World, wo = wr := ⟨_, rfl⟩
    by_cases hjL : j = L
    · have q0 : ¬ (j : Int) < (L : Int) := by omega
      subst hjL
      obtain ⟨s8, a8, n8, c8, l16, l17, _, _, hI8⟩ := (HN0.out.ext hE).get 8 (by decide)
      have lH := (HN0.out.ext hE).lt
      have HI8 := Lib.hid hI8; have Hc := Lib.hid hI8.cmp3; have HB := Lib.hid hB; have HE := Lib.hid hE
      have Hs := Lib.hid (Sign_any s8 (.slice a8 n8 c8))
      clear hI8 hB hE hjk hj q0
      go_wp2_with fail
      refine (Hs.out wo).mono ?_
      rintro e w2 ⟨rfl, hx2⟩
      have HB2 := Lib.hid (HB.out.ext hx2); have HE2 := Lib.hid (HE.out.trans hx2)
      clear hx2 HB HE Hs l16 l17
      rw [Hc.out]
      clear Hc
      go_upto_if 23 with fail
      go_cut [] from 23 to 28 (fun wx => BldU wx (H + 1) R ∧ Ext W0 wx)
      case first =>
        by_cases hz : f 8 = 0
        · have b1 : (cmp3 (f 8) 0 != 0) = false := rne_f (cmp3_zero.2 hz)
          have HRz := Lib.hid (show R = jnT f j by rw [HR.out, if_pos hz]; simp)
          clear hz
          go_wp2_with fail
          go_meet
          exact ⟨by rw [HRz.out]; exact HB2.out, HE2.out⟩
        · have b1 : (cmp3 (f 8) 0 != 0) = true := rne_t fun e => hz (cmp3_zero.1 e)
          have HRz := Lib.hid (show R = (jnT f j ++ [47]) ++ Lib.itoa (f 8) by rw [HR.out, if_neg hz]; simp)
          have HW := Lib.hid (ubyte (H + 1) (jnT f j) 47 w2 HB2.out (by have := HjL.out j HL8.out; omega))
          clear hz
          go_wp2_with fail
          refine HW.out.mono ?_
          rintro e w3 ⟨rfl, hB3, hW3⟩
          have hE3 : Ext W0 w3 := hW3.ext HE2.out (Nat.le_of_eq Hs0.out)
          obtain ⟨t8, b8, m8, d8, l16, l17, _, _, hI⟩ := (HN0.out.ext hE3).get 8 (by decide)
          have HTx := Lib.hid (Text_any t8 b8 m8 d8 (f 8) w3 hI (by have h1 := hI.len (HFit.out 8 (by decide)); have h2 := HK.out; omega) (tab_ext HT.out (He0.out.trans hE3)))
          have HB3 := Lib.hid hB3; have HE3 := Lib.hid hE3
          clear hB3 hW3 hE3 hI HW HB2 HE2 b1
          go_wp2_with fail
          refine HTx.out.mono ?_
          rintro e w4 ⟨rfl, hx4⟩
          have HWs := Lib.hid (ustr (H + 1) (jnT f j ++ [47]) ⟨(Lib.itoa (f 8)).toArray⟩ w4 (HB3.out.ext hx4) (by
            have h1 := HjL.out j HL8.out; have h2 := H8b.out
            simp only [List.length_append, List.length_cons, List.length_nil, ByteArray.size, List.size_toArray]; omega))
          have HE4 := Lib.hid (HE3.out.trans hx4)
          clear hx4 HTx HB3 HE3 l16 l17
          go_wp2_with fail
          refine HWs.out.mono ?_
          rintro e w5 ⟨rfl, hB5, hW5⟩
          have Hend := Lib.hid (show BldU w5 (H + 1) R ∧ Ext W0 w5 from ⟨by rw [HRz.out]; exact hB5, hW5.ext HE4.out (Nat.le_of_eq Hs0.out)⟩)
          clear hB5 hW5 HWs HE4 HRz
          go_wp2_with fail
          go_meet
          exact Hend.out
      case rest =>
      obtain ⟨hB, hE⟩ := hcut
      obtain ⟨w6, rfl⟩ : ∃ w6 : World, w6 = wc := ⟨_, rfl⟩
      have hbl := hB.lt
      have HC := Lib.hid (Tryz.Builder_String_any_f (H + 1) (H + 1) _ w6 hB (by omega))
      have HE := Lib.hid hE
      clear hB hE
      go_wp2_with fail
      refine HC.out.mono ?_
      rintro e w7 ⟨rfl, _, hb7⟩
      have HE7 := Lib.hid (He0.out.trans (Below.trans HE.out (hb7.mono (Nat.le_of_eq Hs0.out))))
      clear hb7 HC HE
      go_wp2_with fail
      go_ret
      exact ⟨rfl, HE7.out⟩
    have q0 : (j : Int) < (L : Int) := by omega
    have q1 : (0 : Int) ≤ (j : Int) := by omega
    have q2 : (j : Int) < 8 := by have := HL8.out; omega
    have wk : IntKind.i64.wrap ((j : Int) + 1) = ((j + 1 : Nat) : Int) := by have := HL8.out; rw [IntKind.wrap_i64]; omega
    have Hj8 := Lib.hid (show j < 8 by have := HL8.out; omega)
    have Hj1 := Lib.hid (show j + 1 ≤ L by omega)
    have HB := Lib.hid hB; have HE := Lib.hid hE; have Hjk := Lib.hid hjk
    clear hB hE hjk hjL hj
    go_upto_if 11 with fail
    go_cut [] from 11 to 12 (fun wx => BldU wx (H + 1) (jnT f j ++ (if 0 < j then [44] else [])) ∧ Ext W0 wx)
    case first =>
      by_cases hj0 : 0 < j
      · have b1 : (0 : Int) < (j : Int) := by omega
        have HW := Lib.hid (ubyte (H + 1) (jnT f j) 44 wo HB.out (by have := HjL.out j (by have := Hj8.out; omega); omega))
        have Hj0 := Lib.hid hj0
        clear hj0
        go_wp2_with fail
        refine HW.out.mono ?_
        rintro e w3 ⟨rfl, hB3, hW3⟩
        have Hend := Lib.hid (show BldU w3 (H + 1) (jnT f j ++ (if 0 < j then [44] else [])) ∧ Ext W0 w3 from ⟨by rw [if_pos Hj0.out]; exact hB3, hW3.ext HE.out (Nat.le_of_eq Hs0.out)⟩)
        clear hB3 hW3 HW
        go_wp2_with fail
        go_meet
        exact Hend.out
      · have b1 : ¬ (0 : Int) < (j : Int) := by omega
        have Hend := Lib.hid (show BldU wo (H + 1) (jnT f j ++ (if 0 < j then [44] else [])) ∧ Ext W0 wo from ⟨by rw [if_neg hj0, List.append_nil]; exact HB.out, HE.out⟩)
        go_wp2_with fail
        go_meet
        exact Hend.out
    case rest =>
    obtain ⟨hB, hE⟩ := hcut
    obtain ⟨w3, rfl⟩ : ∃ w3 : World, w3 = wc := ⟨_, rfl⟩
    obtain ⟨t8, b8, m8, d8, y0, y1, _, _, hI⟩ := (HN0.out.ext hE).get j (by have := Hj8.out; omega)
    have HTx := Lib.hid (Text_any t8 b8 m8 d8 (f j) w3 hI (by have h1 := hI.len (HFit.out j (by have := Hj8.out; omega)); have h2 := HK.out; omega) (tab_ext HT.out (He0.out.trans hE)))
    have HB3 := Lib.hid hB; have HE3 := Lib.hid hE
    clear hB hE hI HB HE
    go_wp2_with fail
    refine HTx.out.mono ?_
    rintro e w4 ⟨rfl, hx4⟩
    have HWs := Lib.hid (ustr (H + 1) _ ⟨(Lib.itoa (f j)).toArray⟩ w4 (HB3.out.ext hx4) (by
      have h1 := HjL.out j (by have := Hj8.out; omega); have h2 := HiL.out j Hj8.out
      have h3 : (if 0 < j then ([44] : List UInt8) else []).length ≤ 1 := by split <;> simp
      simp only [List.length_append, ByteArray.size, List.size_toArray]; omega))
    have HE4 := Lib.hid (HE3.out.trans hx4)
    clear hx4 HTx HB3 HE3 y0 y1
    go_wp2_with fail
    refine HWs.out.mono ?_
    rintro e w5 ⟨rfl, hB5, hW5⟩
    have Hend := Lib.hid (show BldU w5 (H + 1) (jnT f (j + 1)) ∧ Ext W0 w5 from ⟨hB5, hW5.ext HE4.out (Nat.le_of_eq Hs0.out)⟩)
    clear hB5 hW5 HWs HE4
    go_wp2_with fail
    go_roundg (L - (j + 1))
    case measure => have := Hjk.out; have := Hj1.out; omega
    case rel => exact ⟨j + 1, rfl, Hj1.out, rfl, Hend.out⟩
end Go.Proofs.YtldkomeacocjbaaGreatDoor
namespace Go.Proofs.YtldkomeacocjbaaGreatDoor
open Go.RowKit

/-- What a text comes to; its fault. -/
def pzU (l : List UInt8) : Int := pz (l.map UInt8.toNat)
def pcU (l : List UInt8) : Nat := pcode (l.map UInt8.toNat)
def paU (l : List UInt8) : Nat := pat (l.map UInt8.toNat)
theorem pow_bits (m n k : Nat) (hn : n = 3 * m + 1) (hk : k = 10 * m + 4) : 10 ^ n ≤ 2 ^ k := by
  have h1 : (10 ^ 3) ^ m ≤ (2 ^ 10) ^ m := Nat.pow_le_pow_left (by decide) m
  rw [← Nat.pow_mul, ← Nat.pow_mul] at h1
  rw [hn, hk, Nat.pow_add 10, Nat.pow_add 2]
  exact Nat.mul_le_mul h1 (by decide)
theorem pzU_lt (l : List UInt8) (P : Nat) (hP : 3334 ≤ P) : (pzU l).natAbs < 2 ^ P :=
  Nat.lt_of_lt_of_le (pz_lt _) (Nat.le_trans (by unfold Lim; exact pow_bits 333 limN 3334 rfl rfl) (Nat.pow_le_pow_right (by decide) hP))

set_option maxRecDepth 100000 in
set_option maxHeartbeats 4000000 in
theorem readWhole_any (l : List UInt8) (w : World) (hl : l.length ≤ 9223372036854775807) :
    Calls Tryz.prog 114 #[.string ⟨l.toArray⟩] w fun e w' => Ext w w' ∧ ((pcU l = 0 ∧ ∃ (s : Int) (a : Option Addr) (n c : Nat), e = .returned (.agg #[.int .i64 s, .slice a n c]) ∧ IsInt w' s a n c (pzU l)) ∨ (pcU l ≠ 0 ∧ e = .panicked (gupR (pcU l : Nat) (paU l : Nat)))) := by
  obtain ⟨H, hH⟩ : ∃ H, w.heap.size = H := ⟨_, rfl⟩
  obtain ⟨U, hU⟩ : ∃ U, w.alloc (.cells #[.int .i64 0, .slice none 0 0] 24) = U := ⟨_, rfl⟩
  have E0 : Ext w U := by rw [← hU]; exact Ext.alloc _ _
  have B0 : Box U H 0 none 0 0 := by rw [← hU, ← hH]; exact box_new w 0 none 0 0
  have HP := Lib.hid (Parse_any ⟨l.toArray⟩ U (by simpa [ByteArray.size] using hl))
  have hbs : bs ⟨l.toArray⟩ = l.map UInt8.toNat := bs_mk l
  rw [hbs] at HP
  obtain ⟨c0, hc0⟩ : ∃ c0, pcode (l.map UInt8.toNat) = c0 := ⟨_, rfl⟩
  obtain ⟨k0, hk0⟩ : ∃ k0, pat (l.map UInt8.toNat) = k0 := ⟨_, rfl⟩
  rw [hc0, hk0] at HP
  have Hc0 := Lib.hid (show pcU l = c0 from hc0); have Hk0 := Lib.hid (show paU l = k0 from hk0)
  rw [show pcU l = c0 from hc0, show paU l = k0 from hk0]
  have HU := Lib.hid hU; have HH := Lib.hid hH; have HB0 := Lib.hid B0; have HE0 := Lib.hid E0
  clear hU hH B0 E0 hbs hc0 hk0 hl
  go_enter Tryz.func114, Tryz.ntmps114
  go_wp2_with fail
  rw [HU.out, HH.out]
  clear HU
  refine HP.out.mono ?_
  rintro e w1 ⟨s, a, n, c, rfl, hI, hx1⟩
  have hBx := HB0.out.ext hx1
  have hE1 := HE0.out.trans hx1
  obtain ⟨D, hD⟩ : ∃ D, w1.heap.size = D := ⟨_, rfl⟩
  have lH := hBx.lt
  rw [hD] at lH
  obtain ⟨V, hV⟩ : ∃ V, (w1.alloc (.cells #[.int .i64 s, .slice a n c] 24)).alloc (.cells #[.int .i64 (c0 : Int), .int .i64 (k0 : Int)] 30) = V := ⟨_, rfl⟩
  have eV : Ext w1 V := by rw [← hV]; exact (Ext.alloc _ _).trans (Ext.alloc _ _)
  have r0 : V.heap[D]? = some (.cells #[.int .i64 s, .slice a n c] 24 (0, 0)) := by rw [← hV, ← hD]; exact ((Ext.alloc _ _).block _ (Array.getElem?_eq_some_iff.1 (heap_alloc_new w1 (.cells #[.int .i64 s, .slice a n c] 24))).1).trans (heap_alloc_new w1 _)
  have r1 : V.heap[D + 1]? = some (.cells #[.int .i64 (c0 : Int), .int .i64 (k0 : Int)] 30 (0, 0)) := by
    have h3 := heap_alloc_new (w1.alloc (.cells #[.int .i64 s, .slice a n c] 24)) (.cells #[.int .i64 (c0 : Int), .int .i64 (k0 : Int)] 30)
    rw [← hV, ← hD]
    simpa using h3
  have v0 : V.cell? ⟨D, 0, none⟩ = some (.int .i64 s) := by rw [cell_of_row _ _ _ _ _ _ r0]; rfl
  have v1 : V.cell? ⟨D, 1, none⟩ = some (.slice a n c) := by rw [cell_of_row _ _ _ _ _ _ r0]; rfl
  have u0 : V.cell? ⟨D + 1, 0, none⟩ = some (.int .i64 (c0 : Int)) := by rw [cell_of_row _ _ _ _ _ _ r1]; rfl
  have u1 : V.cell? ⟨D + 1, 1, none⟩ = some (.int .i64 (k0 : Int)) := by rw [cell_of_row _ _ _ _ _ _ r1]; rfl
  have bV := hBx.ext eV
  have HbV := Lib.hid bV; have HE := Lib.hid (hE1.trans eV); have HI := Lib.hid (hI.ext eV)
  have HV := Lib.hid hV; have HD := Lib.hid hD
  have b0 := bV.c0; have b1 := bV.c1; have f0 := bV.f0; have f1 := bV.f1
  clear hV hD eV r0 r1 hBx hE1 hI hx1 HP HB0 HE0
  by_cases hc : c0 = 0
  · have q1 : ((c0 : Int) != 0) = false := rne_f (by omega)
    have Hend := Lib.hid (show Ext w ((V.setCell ⟨H, 0, none⟩ (.int .i64 s)).setCell ⟨H, 1, none⟩ (.slice a n c)) ∧ IsInt ((V.setCell ⟨H, 0, none⟩ (.int .i64 s)).setCell ⟨H, 1, none⟩ (.slice a n c)) s a n c (pzU l) from
      ⟨HE.out.put2 (by rw [HH.out]; exact Nat.le_refl _) _ _, HI.out.keep64 (Keep64.set2 (.i64 b0) (.slice b1) (notW_i64 s) (.slice a n c))⟩)
    have bR := bV.own s a n c
    have k0' := bR.c0; have k1' := bR.c1
    have Hc := Lib.hid hc
    clear hc bV bR
    go_upto_region 2 with fail
    rw [HV.out, HD.out]
    clear HV HD
    go_wp2_with fail
    exact bodyPost_ret (v := .agg #[.int .i64 s, .slice a n c]) (by simp [results, Tryz.results114, go_sem, k0', k1']) rfl ⟨Hend.out.1, Or.inl ⟨Hc.out, s, a, n, c, rfl, Hend.out.2⟩⟩
  · have q1 : ((c0 : Int) != 0) = true := rne_t (by omega)
    have Hc := Lib.hid hc
    clear hc bV
    go_upto_region 2 with fail
    rw [HV.out, HD.out]
    clear HV HD
    go_wp2_with fail
    exact ⟨rfl, HE.out, Or.inr ⟨Hc.out, rfl⟩⟩
end Go.Proofs.YtldkomeacocjbaaGreatDoor
namespace Go.Proofs.YtldkomeacocjbaaGreatDoor
open Go.RowKit

/-- The parts that the texts come to. -/
def pF (ps : List (List UInt8)) (j : Nat) : Nat → Int := fun i => if i < j then pzU (ps.getD i []) else 0
/-- The texts make the number x. -/
structure MkGood (ps : List (List UInt8)) (dn : List UInt8) (x : Nm) : Prop where
  parts : ∀ i, i < ps.length → pcU (ps.getD i []) = 0
  down : pcU dn = 0
  small : pzU dn ≤ 10000
  eq : x = ⟨ext8 (pF ps ps.length), (pzU dn).toNat⟩
  low : Low x
  len : lenN (pF ps ps.length) 8 = ps.length
/-- The texts are refused, with this fault. -/
def MkBad (ps : List (List UInt8)) (dn : List UInt8) (c k : Nat) : Prop :=
  (∃ i, i < ps.length ∧ (∀ j, j < i → pcU (ps.getD j []) = 0) ∧ pcU (ps.getD i []) ≠ 0 ∧ c = pcU (ps.getD i []) ∧ k = paU (ps.getD i [])) ∨
  ((∀ i, i < ps.length → pcU (ps.getD i []) = 0) ∧ ((pcU dn ≠ 0 ∧ c = pcU dn ∧ k = paU dn) ∨ (pcU dn = 0 ∧ ((10000 < pzU dn ∧ c = 2 ∧ k = 0) ∨
    (pzU dn ≤ 10000 ∧ c = 3 ∧ k = 0 ∧ ¬ (Low ⟨ext8 (pF ps ps.length), (pzU dn).toNat⟩ ∧ lenN (pF ps ps.length) 8 = ps.length))))))
theorem lenN_congr {f g : Nat → Int} : ∀ n, (∀ i, i < n → f i = g i) → lenN f n = lenN g n
  | 0, _ => rfl
  | n + 1, h => by simp only [lenN]; rw [h n (by omega), lenN_congr n fun i hi => h i (by omega)]
theorem pF_step (ps : List (List UInt8)) (j i : Nat) : updN (pF ps j) j (pzU (ps.getD j [])) i = pF ps (j + 1) i := by
  unfold updN pF
  by_cases e : i = j
  · subst e; simp
  · rw [if_neg e]
    by_cases h : i < j
    · rw [if_pos h, if_pos (by omega)]
    · rw [if_neg h, if_neg (by omega)]
theorem pF_abs (ps : List (List UInt8)) (j P : Nat) (hP : 3334 ≤ P) (i : Nat) : (pF ps j i).natAbs < 2 ^ P := by
  unfold pF
  split
  · exact pzU_lt _ P hP
  · exact Nat.pow_pos (by decide)

set_option maxRecDepth 100000 in
set_option maxHeartbeats 4000000 in
theorem makeNumber_any (ps : List (List UInt8)) (dn : List UInt8) (ao : Option Addr) (n cp : Nat) (w : World) (hs : RStr w ao n ps) (h1 : 1 ≤ n) (h8 : n ≤ 8) (hl : ∀ i, i < n → (ps.getD i []).length ≤ 9223372036854775807) (hdl : dn.length ≤ 9223372036854775807) (hd0 : 0 ≤ pzU dn)
    (P E K : Nat) (hK : K ≤ 4194304) (hP0 : 3334 ≤ P) (hP : P ≤ 64 * K) (hE0 : 10000 ≤ E) (hE : E ≤ 1099511627776) (hbr : Bru w) :
    Calls Tryz.prog 86 #[.slice ao n cp, .string ⟨dn.toArray⟩] w fun e w' => Ext w w' ∧ ((∃ c k : Nat, MkBad ps dn c k ∧ e = .panicked (gupR c k)) ∨ (∃ (cr : Array Value) (x : Nm), MkGood ps dn x ∧ e = .returned (.agg cr) ∧ NmA w' cr x P E)) := by
  have hK1 : 1 ≤ K := by omega
  have hpl := hs.1
  obtain ⟨H, hH⟩ : ∃ H, w.heap.size = H := ⟨_, rfl⟩
  obtain ⟨U, hU⟩ : ∃ U, (w.alloc (.cells zero9 28)).alloc (.cells zero8 26) = U := ⟨_, rfl⟩
  have E0 : Ext w U := by rw [← hU]; exact (Ext.alloc _ _).trans (Ext.alloc _ _)
  have N0 : Nums U H 9 28 (fun _ => 0) := by rw [← hU, ← hH]; exact ((cells_zero9 w).box 28).ext (Ext.alloc _ _)
  have R0 : Nums U (H + 1) 8 26 (pF ps 0) := by
    have := (cells_zero8 (w.alloc (.cells zero9 28))).box 26
    rw [← hU, ← hH]
    have e : pF ps 0 = fun _ => 0 := by funext i; simp [pF]
    rw [e]
    simpa using this
  have HU := Lib.hid hU; have HH := Lib.hid hH; have Hs := Lib.hid hs; have Hl := Lib.hid hl; have Hdl := Lib.hid hdl; have Hd0 := Lib.hid hd0; have HK := Lib.hid hK; have HK1 := Lib.hid hK1; have HP0 := Lib.hid hP0; have HP := Lib.hid hP; have HE0 := Lib.hid hE0; have HEE := Lib.hid hE; have Hbr := Lib.hid hbr; have Hpl := Lib.hid hpl; have Hn1 := Lib.hid h1; have Hn8 := Lib.hid h8
  have Hst := Lib.hid (show Nums U (H + 1) 8 26 (pF ps 0) ∧ Nums U H 9 28 (fun _ => 0) ∧ Ext w U from ⟨R0, N0, E0⟩)
  clear hU hH hs hl hdl hd0 hK hK1 hP0 hP hE0 hE hbr hpl R0 N0 E0 h1
  go_enter Tryz.func86, Tryz.ntmps86
  go_wp2_with fail
  rw [HU.out, HH.out]
  clear HU
  go_loopg [6, 7, 12] n (fun kk s6 s7 s12 wr => ∃ j : Nat, s12 = .int .i64 (j : Int) ∧ j ≤ n ∧ n - j = kk ∧ (∀ i, i < j → pcU (ps.getD i []) = 0) ∧ Nums wr (H + 1) 8 26 (pF ps j) ∧ Nums wr H 9 28 (fun _ => 0) ∧ Ext w wr)
  case atStart => exact ⟨0, rfl, by omega, by omega, fun i hi => by omega, Hst.out⟩
  case round =>
    clear Hst
    obtain ⟨j, rfl, hj, hjk, hall, hN, hZ, hE⟩ := hrel
    obtain ⟨wo, rfl⟩ : ∃ wo : World, wo = wr := ⟨_, rfl⟩
    have Hall := Lib.hid hall
    clear hall
    by_cases hjn : j = n
    · subst hjn
      have HRd := Lib.hid (readWhole_any dn wo Hdl.out)
      have HN := Lib.hid hN; have HZ := Lib.hid hZ; have HE := Lib.hid hE
      clear hN hZ hE hjk hj
      go_wp2_with fail
      refine HRd.out.mono ?_
      rintro e w2 ⟨hx2, (⟨hc0, s, a, m, c, rfl, hI⟩ | ⟨hc0, rfl⟩)⟩
      rotate_left 1
      · have Hbad := Lib.hid (show MkBad ps dn (pcU dn) (paU dn) from Or.inr ⟨by rw [Hpl.out]; exact Hall.out, Or.inl ⟨hc0, rfl, rfl⟩⟩)
        have HE2 := Lib.hid (HE.out.trans hx2)
        clear hc0 hx2 HRd HE HN HZ
        go_wp2_with fail
        exact ⟨rfl, HE2.out, Or.inl ⟨_, _, Hbad.out, rfl⟩⟩
      obtain ⟨d, hd⟩ : ∃ d : Nat, pzU dn = (d : Int) := ⟨(pzU dn).toNat, by have := Hd0.out; omega⟩
      have hI' := hI.cast hd
      have hfd : Fit K (d : Int) := by rw [← hd]; exact fit_pow (pzU_lt dn P HP0.out) HP.out
      obtain ⟨D, hD⟩ : ∃ D, w2.heap.size = D := ⟨_, rfl⟩
      obtain ⟨V, hV⟩ : ∃ V, w2.alloc (.cells #[.int .i64 s, .slice a m c] 24) = V := ⟨_, rfl⟩
      have eV : Ext w2 V := by rw [← hV]; exact Ext.alloc _ _
      have bV : Box V D s a m c := by rw [← hV, ← hD]; exact box_new w2 s a m c
      have HNV := Lib.hid ((HN.out.ext hx2).ext eV); have HZV := Lib.hid ((HZ.out.ext hx2).ext eV); have HEV := Lib.hid ((HE.out.trans hx2).trans eV); have HIV := Lib.hid (hI'.ext eV); have HbV := Lib.hid bV
      have Hc0 := Lib.hid hc0; have Hd := Lib.hid hd; have Hfd := Lib.hid hfd
      have l0 := bV.c0; have l1 := bV.c1; have lD := bV.lt
      have HV := Lib.hid hV; have HD := Lib.hid hD
      obtain ⟨k, hk⟩ : ∃ k, cmp3 (d : Int) 10000 = k := ⟨_, rfl⟩
      have Hk := Lib.hid hk
      clear hc0 hd hI hI' hfd hD hV eV bV hx2 HRd HN HZ HE hk
      go_upto_region 8 with fail
      rw [HV.out, HD.out]
      clear HV
      have h0d : Ext V V.drew := Below.drew (Ext.refl _)
      go_region_held3 (fun w' => w'.cell? ⟨D, 0, none⟩ = some (.int .i64 s) ∧ w'.cell? ⟨D, 1, none⟩ = some (.slice a m c))
        (exact ⟨cellKeep (W := V) (by assumption) lD l0, cellKeep (W := V) (by assumption) lD l1⟩)
        (first
          | (have _ := qv0; go_at_call 70; refine (CmpK_is k (HIV.out.ext hv0) Kv0 K HK.out Hfd.out (fit_small (z := 10000) (by decide) HK1.out) Hk.out).mono ?_; rintro e v1 ⟨rfl, qv1⟩; have hv1 : Ext V v1 := hv0.trans qv1)
          | (go_at_call 44; refine (Of_any 10000 (by decide) (by decide) _).mono ?_; rintro e v0 ⟨rfl, Kv0, qv0⟩; have hv0 : Ext V v0 := Ext.trans (by assumption) qv0))
      clear Kv0
      have HNv := Lib.hid (HNV.out.ext hv1); have HZv := Lib.hid (HZV.out.ext hv1); have HEv := Lib.hid (HEV.out.trans hv1); have HIv := Lib.hid (HIV.out.ext hv1); have Hbv := Lib.hid (HbV.out.ext hv1)
      clear HNV HZV HEV HIV HbV l0 l1 lD h0d
      by_cases hbig : 10000 < d
      · have q1 : (0 : Int) < k := by rw [← Hk.out, cmp3_gt (by omega)]; decide
        have Hbad := Lib.hid (show MkBad ps dn 2 0 from Or.inr ⟨by rw [Hpl.out]; exact Hall.out, Or.inr ⟨Hc0.out, Or.inl ⟨by rw [Hd.out]; omega, rfl, rfl⟩⟩⟩)
        clear hbig hv1 qv1 hv0 qv0
        go_wp2_with fail
        exact ⟨rfl, HEv.out, Or.inl ⟨_, _, Hbad.out, rfl⟩⟩
      have q1 : ¬ (0 : Int) < k := by
        rw [← Hk.out]; unfold cmp3
        split
        · decide
        · rw [if_neg (by omega)]; decide
      have Hsm := Lib.hid (show d ≤ 10000 by omega)
      clear hbig hv1 qv1 hv0 qv0
      obtain ⟨cq, hrq, hcq⟩ := HNv.out.cells
      have hinfq : (Tryz.prog.info? 26).map (·.size) = some cq.size := by rw [hcq.1]; exact rrow_info
      have HLo := Lib.hid (rlowest_any cq s a m c (pF ps j) d v1 hcq HIv.out K P E HK.out HK1.out HP.out HEE.out (fun i _ => pF_abs ps j P HP0.out i) (by have := Hsm.out; have := HE0.out; omega) (bru_ext Hbr.out HEv.out))
      have y0 := Hbv.out.c0; have y1 := Hbv.out.c1
      clear hcq
      go_wp2_with (refine wpList_load_row rfl 26 _ rfl (H + 1) rfl 26 _ (0, 0) _ hrq Tryz.underlying26 rfl hinfq ?_)
      refine HLo.out.mono ?_
      rintro e w5 ⟨cr, x, rfl, hcr, hx, hx5⟩
      clear q1 y0 y1 hrq hinfq HLo
      have hs18 : cr.size = 18 := hcr.size
      have hinf := hcr.info
      have hone := hcr.val.one
      obtain ⟨G, hG⟩ : ∃ G, w5.heap.size = G := ⟨_, rfl⟩
      have r2 : (w5.alloc (.cells zero9 28)).heap[w5.heap.size]? = some (.cells zero9 28 (0, 0)) := heap_alloc_new w5 _
      have hs9 : (zero9 : Array Value).size = cr.size := by rw [hs18]; rfl
      obtain ⟨V2, hV2⟩ : ∃ V2, (w5.alloc (.cells zero9 28)).setRow w5.heap.size cr = V2 := ⟨_, rfl⟩
      have hst := ((hcr.val.ext (Ext.alloc w5 (.cells zero9 28))).setRow ((cells_zero9 _).nums r2))
      rw [hV2] at hst
      obtain ⟨nG, cG, rG⟩ := hst
      have e52 : Ext w5 V2 := cG.ext (Ext.alloc _ _) (Nat.le_refl _)
      have lG := nG.lt
      rw [hG] at nG rG lG
      have HnG := Lib.hid nG; have HrG := Lib.hid rG
      have Hcr2 := Lib.hid (hcr.ext e52); have HE2 := Lib.hid ((HEv.out.trans hx5).trans e52); have HZ2 := Lib.hid ((HZv.out.ext hx5).ext e52); have HI2 := Lib.hid ((HIv.out.ext hx5).ext e52); have Hb2 := Lib.hid ((Hbv.out.ext hx5).ext e52)
      have HV2 := Lib.hid hV2; have HG := Lib.hid hG; have Hx := Lib.hid hx
      clear hV2 hG nG cG rG e52 hx5 hcr hx HNv HZv HEv HIv Hbv lG
      go_upto_region 11 with (refine wpList_store_row rfl 28 _ _ rfl w5.heap.size cr rfl rfl 28 _ r2 hinf hs9 hone ?_)
      rw [HV2.out, HG.out]
      clear HV2 HG r2 hs9
      have HLn := Lib.hid (rowLength_any G 9 28 (nmF x) V2 HnG.out (by decide))
      obtain ⟨L, hL⟩ : ∃ L, lenN (nmF x) 8 = L := ⟨_, rfl⟩
      rw [hL] at HLn
      have HL := Lib.hid hL
      clear hL
      go_wp2_with fail
      refine HLn.out.mono ?_
      rintro e w6 ⟨rfl, hx6⟩
      have HE6 := Lib.hid (HE2.out.trans hx6); have HZ6 := Lib.hid (HZ2.out.ext hx6); have Hcr6 := Lib.hid (Hcr2.out.ext hx6)
      have r6 : w6.heap[G]? = some (.cells cr 28 (0, 0)) := (hx6.block _ (Array.getElem?_eq_some_iff.1 HrG.out).1).trans HrG.out
      obtain ⟨s8, a8, n8, c8, l16, l17, _, _, hI8⟩ := (HnG.out.ext hx6).get 8 (by decide)
      have hI8' : IsInt w6 s8 a8 n8 c8 ((x.e : Nat) : Int) := hI8
      have b6 := Hb2.out.ext hx6
      have y0 := b6.c0; have y1 := b6.c1
      have HI6 := Lib.hid (HI2.out.ext hx6); have HI8 := Lib.hid hI8'
      have Hx8 := Lib.hid (show x = ⟨ext8 (pF ps j), d⟩ ∨ ¬ Low ⟨ext8 (pF ps j), d⟩ from by
        by_cases hlo : Low ⟨ext8 (pF ps j), d⟩
        · exact Or.inl (low_one Hcr6.out.low hlo Hx.out)
        · exact Or.inr hlo)
      have HdN := Lib.hid (show (pzU dn).toNat = d by rw [Hd.out]; rfl)
      have hne : ∀ P : Prop, (x = ⟨ext8 (pF ps j), d⟩ → lenN (pF ps j) 8 = j → P) → ¬ P → ¬ (Low ⟨ext8 (pF ps j), d⟩ ∧ lenN (pF ps j) 8 = j) := fun P h1 h2 ⟨h3, h4⟩ => by
        rcases Hx8.out with h5 | h5
        · exact h2 (h1 h5 h4)
        · exact h5 h3
      have Hlx := Lib.hid (show x = ⟨ext8 (pF ps j), d⟩ → L = lenN (pF ps j) 8 from fun h => by
        rw [← HL.out, h]
        refine lenN_congr 8 fun i hi => ?_
        unfold nmF
        rw [if_neg (by omega)]
        show ext8 (pF ps j) (i : Int) = _
        rw [ext8_at _ _ (by omega) (by omega)]; rfl)
      have Hbad3 := Lib.hid (show ¬ (Low ⟨ext8 (pF ps j), d⟩ ∧ lenN (pF ps j) 8 = j) → MkBad ps dn 3 0 from fun h => Or.inr ⟨by rw [Hpl.out]; exact Hall.out, Or.inr ⟨Hc0.out, Or.inr ⟨by rw [Hd.out]; have := Hsm.out; omega, rfl, rfl, by rw [Hpl.out, HdN.out]; exact h⟩⟩⟩)
      have Hne := Lib.hid hne
      clear hne hI8 hI8' b6 hx6 HLn HE2 HZ2 Hcr2 HnG HrG HI2 Hb2
      by_cases hLn : L = j
      rotate_left 1
      · have q1 : ((L : Int) != (j : Int)) = true := rne_t (by omega)
        have Hbad := Lib.hid (Hbad3.out (Hne.out (L = j) (fun h1 h2 => (Hlx.out h1).trans h2) hLn))
        clear hLn
        go_wp2_with fail
        exact ⟨rfl, HE6.out, Or.inl ⟨_, _, Hbad.out, rfl⟩⟩
      have q1 : ((L : Int) != (j : Int)) = false := rne_f (by omega)
      have HLj := Lib.hid hLn
      obtain ⟨k2, hk2⟩ : ∃ k2, cmp3 ((x.e : Nat) : Int) (d : Int) = k2 := ⟨_, rfl⟩
      have Hxe := Lib.hid (show x.e ≤ 1099511627776 by have := Hcr6.out.down; have := HEE.out; omega)
      have HC2 := Lib.hid (CmpK_is k2 HI8.out HI6.out K HK.out (fit_small (z := ((x.e : Nat) : Int)) (by have := Hxe.out; omega) HK1.out) Hfd.out hk2)
      have Hk2 := Lib.hid hk2
      clear hk2 hLn
      go_wp2_with fail
      refine HC2.out.mono ?_
      rintro e w7 ⟨rfl, hx7⟩
      have HE7 := Lib.hid (HE6.out.trans hx7); have HZ7 := Lib.hid (HZ6.out.ext hx7); have Hcr7 := Lib.hid (Hcr6.out.ext hx7)
      have r7 : w7.heap[G]? = some (.cells cr 28 (0, 0)) := (hx7.block _ (Array.getElem?_eq_some_iff.1 r6).1).trans r6
      clear hx7 r6 l16 l17 y0 y1 HC2 HE6 HZ6 Hcr6 HI6 HI8
      by_cases hk0 : k2 = 0
      rotate_left 1
      · have q2 : (k2 != 0) = true := rne_t hk0
        have Hbad := Lib.hid (Hbad3.out (Hne.out (k2 = 0) (fun h1 _ => by rw [← Hk2.out, h1]; exact cmp3_eq _) hk0))
        clear hk0
        go_wp2_with fail
        exact ⟨rfl, HE7.out, Or.inl ⟨_, _, Hbad.out, rfl⟩⟩
      have q2 : (k2 != 0) = false := rne_f hk0
      have hxe : x.e = d := by
        have h1 := Hk2.out
        rw [hk0] at h1
        have h2 : ((x.e : Nat) : Int) = (d : Int) := by
          unfold cmp3 at h1
          split at h1
          · omega
          · split at h1
            · omega
            · omega
        omega
      have hxx : x = ⟨ext8 (pF ps j), d⟩ := by
        have h1 := Hx.out
        obtain ⟨xa, xe⟩ := x
        simp only at hxe
        subst hxe
        congr 1
        funext k
        exact Int.eq_of_mul_eq_mul_right (two_ne _) (h1 k)
      have Hgood := Lib.hid (show MkGood ps dn x from ⟨by rw [Hpl.out]; exact Hall.out, Hc0.out, by rw [Hd.out]; have := Hsm.out; omega, by rw [Hpl.out, HdN.out]; exact hxx, Hcr7.out.low, by rw [Hpl.out, ← Hlx.out hxx]; exact HLj.out⟩)
      obtain ⟨c1, hr1, hs1, _, _, rr, hnm, hE'⟩ := fin_num Hcr7.out HZ7.out HE7.out (by rw [HH.out]; exact Nat.le_refl _)
      have Hend := Lib.hid (And.intro hnm hE')
      clear hnm hE' hxx hxe hk0 Hne Hbad3 Hlx Hx8 Hx Hcr7 HZ7 HE7
      go_wp2_with (first
        | refine wpList_load_row rfl 28 _ rfl G rfl 28 _ (0, 0) _ r7 Tryz.underlying28 rfl hinf ?_
        | refine wpList_store_row rfl 28 _ _ rfl H cr rfl rfl 28 _ hr1 hinf hs1 hone ?_)
      refine bodyPost_ret (v := .agg cr) ?_ rfl ⟨Hend.out.2, Or.inr ⟨cr, x, Hgood.out, rfl, Hend.out.1⟩⟩
      exact results_cell_row rfl _ _ H _ _ _ _ rfl rr Tryz.underlying28 rfl hinf
    have hlt : j < n := by omega
    have q1 : (j : Int) < (n : Int) := by omega
    have q0 : (0 : Int) ≤ (j : Int) := by omega
    have q8 : (j : Int) < 8 := by omega
    obtain ⟨b, o, rfl, hbl, hcell⟩ := ((Hs.out.ext hE).2.resolve_left (by omega))
    have y0 := hcell j hlt
    obtain ⟨l, hl⟩ : ∃ l, ps.getD j [] = l := ⟨_, rfl⟩
    rw [hl] at y0
    have HRd := Lib.hid (readWhole_any l wo (by rw [← hl]; exact Hl.out j hlt))
    have wk : IntKind.i64.wrap ((j : Int) + 1) = ((j + 1 : Nat) : Int) := by rw [IntKind.wrap_i64]; omega
    have Hj1 := Lib.hid (show j + 1 ≤ n by omega)
    have Hjl := Lib.hid hlt; have Hll := Lib.hid hl
    have HN := Lib.hid hN; have HZ := Lib.hid hZ; have HE := Lib.hid hE; have Hjk := Lib.hid hjk
    clear hN hZ hE hjk hjn hj hlt hl hcell hbl
    go_wp2_with fail
    refine HRd.out.mono ?_
    rintro e w2 ⟨hx2, (⟨hc0, s, a, m, c, rfl, hI⟩ | ⟨hc0, rfl⟩)⟩
    rotate_left 1
    · have Hbad := Lib.hid (show MkBad ps dn (pcU l) (paU l) from Or.inl ⟨j, by rw [Hpl.out]; exact Hjl.out, Hall.out, by rw [Hll.out]; exact hc0, by rw [Hll.out], by rw [Hll.out]⟩)
      have HE2 := Lib.hid (HE.out.trans hx2)
      clear hc0 hx2 HRd HE HN HZ y0
      go_wp2_with fail
      exact ⟨rfl, HE2.out, Or.inl ⟨_, _, Hbad.out, rfl⟩⟩
    have hN2 := HN.out.ext hx2
    obtain ⟨s4, a4, n4, c4, z0, z1, fz0, fz1, _⟩ := hN2.get j (by have := Hjl.out; have := Hn8.out; omega)
    have hset := hN2.set j (by have := Hjl.out; have := Hn8.out; omega) hI
    have hkp := hN2.keep j (by have := Hjl.out; have := Hn8.out; omega) s (.slice a m c)
    have hO : Only (H + 1) w2 ((w2.setCell ⟨H + 1, j * 2, none⟩ (.int .i64 s)).setCell ⟨H + 1, j * 2 + 1, none⟩ (.slice a m c)) := ((Only.refl _ _).setCell _ _).setCell _ _
    have Hend := Lib.hid (show Nums ((w2.setCell ⟨H + 1, j * 2, none⟩ (.int .i64 s)).setCell ⟨H + 1, j * 2 + 1, none⟩ (.slice a m c)) (H + 1) 8 26 (pF ps (j + 1)) ∧ Nums ((w2.setCell ⟨H + 1, j * 2, none⟩ (.int .i64 s)).setCell ⟨H + 1, j * 2 + 1, none⟩ (.slice a m c)) H 9 28 (fun _ => 0) ∧ Ext w ((w2.setCell ⟨H + 1, j * 2, none⟩ (.int .i64 s)).setCell ⟨H + 1, j * 2 + 1, none⟩ (.slice a m c)) from
      ⟨hset.congr fun i _ => by rw [← Hll.out]; exact pF_step ps j i, (HZ.out.ext hx2).put hO (by omega) hkp, (Chg.of_only hO hkp).ext (HE.out.trans hx2) (by rw [HH.out]; omega)⟩)
    have Hall' := Lib.hid (show ∀ i, i < j + 1 → pcU (ps.getD i []) = 0 from fun i hi => by
      by_cases e : i = j
      · rw [e, Hll.out]; exact hc0
      · exact Hall.out i (by omega))
    clear hset hkp hO hN2 hI hx2 hc0 HRd HN HZ HE y0
    go_wp2_with fail
    clear z0 z1 fz0 fz1
    generalize (w2.setCell ⟨H + 1, j * 2, none⟩ (.int .i64 s)).setCell ⟨H + 1, j * 2 + 1, none⟩ (.slice a m c) = V at *
    go_roundg (n - (j + 1))
    case measure => have := Hjk.out; have := Hj1.out; omega
    case rel => exact ⟨j + 1, rfl, Hj1.out, rfl, Hall'.out, Hend.out⟩
end Go.Proofs.YtldkomeacocjbaaGreatDoor
namespace Go.Proofs.YtldkomeacocjbaaGreatDoor
open Go.RowKit

/-- The text is refused. -/
def RdBad (T : List UInt8) (c k : Nat) : Prop := (rdS T = .inl k ∧ c = 1) ∨ ∃ ps dn, rdS T = .inr (ps, dn) ∧ MkBad ps dn c k
/-- The text is that of x. -/
def RdGood (T : List UInt8) (x : Nm) : Prop := ∃ ps dn, rdS T = .inr (ps, dn) ∧ MkGood ps dn x
theorem MkBad.ne {ps : List (List UInt8)} {dn : List UInt8} {c k : Nat} (h : MkBad ps dn c k) : c ≠ 0 := by
  rcases h with ⟨i, _, _, h1, h2, _⟩ | ⟨_, (⟨h1, h2, _⟩ | ⟨_, (⟨_, h2, _⟩ | ⟨_, h2, _⟩)⟩)⟩
  · rw [h2]; exact h1
  · rw [h2]; exact h1
  · omega
  · omega
theorem RdBad.ne {T : List UInt8} {c k : Nat} (h : RdBad T c k) : c ≠ 0 := by
  rcases h with ⟨_, h⟩ | ⟨_, _, _, h⟩
  · omega
  · exact h.ne
theorem pzU_nn (l : List UInt8) (h : l[0]? ≠ some 45) : 0 ≤ pzU l := by
  have h1 : sgl (l.map UInt8.toNat) = 0 := by
    unfold sgl
    rw [if_neg]
    cases l with
    | nil => decide
    | cons c r =>
      intro e
      apply h
      simp only [List.getElem?_cons_zero, Option.some.injEq]
      apply UInt8.toNat_inj.1
      simpa using e
  unfold pzU pz
  rw [h1]
  split
  · simp [sgn]
  · exact Int.le_refl _
theorem rdP_fit (T : List UInt8) : ∀ (m : Nat) (acc : List (List UInt8)) (k : Nat) (acc' : List (List UInt8)) (k' : Nat), (∀ x ∈ acc, x.length ≤ T.length) → rdP T m acc k = .inr (acc', k') → ∀ x ∈ acc', x.length ≤ T.length
  | 0, acc, k, acc', k', h, e => by simp only [rdP] at e; injection e with e; injection e with e1 _; rw [← e1]; exact h
  | m + 1, acc, k, acc', k', h, e => by
    simp only [rdP] at e
    split at e
    · split at e
      · refine rdP_fit T m _ _ acc' k' ?_ e
        intro x hx
        rcases List.mem_append.1 hx with hx | hx
        · exact h x hx
        · rw [List.mem_singleton.1 hx, List.length_take, List.length_drop]; omega
      · cases e
    · injection e with e; injection e with e1 _; rw [← e1]; exact h
theorem isDr_sign {c : UInt8} (h : isDr (some c) = true) : some c ≠ some 45 := by
  intro e
  injection e with e
  subst e
  exact absurd h (by decide)
theorem posN_sign (L : List UInt8) (h : posN L ≠ 0) : (L.take (posN L))[0]? ≠ some 45 := by
  have h1 : isDr L[0]? = true := dgRun_at (by
    unfold posN at h
    split at h
    · omega
    · omega)
  rw [List.getElem?_take, if_pos (by omega)]
  cases hc : L[0]? with
  | none => simp
  | some c => rw [hc] at h1; exact isDr_sign h1
theorem rdS_fit {T : List UInt8} {ps : List (List UInt8)} {dn : List UInt8} (h : rdS T = .inr (ps, dn)) : (∀ x ∈ ps, x.length ≤ T.length) ∧ dn.length ≤ T.length + 1 ∧ 0 ≤ pzU dn := by
  unfold rdS at h
  split at h
  · cases hp : rdP T 7 [T.take (numK T)] (numK T) with
    | inl k => rw [hp] at h; cases h
    | inr q =>
      obtain ⟨acc, k⟩ := q
      rw [hp] at h
      have hf := rdP_fit T 7 _ _ acc k (by
        intro x hx
        rw [List.mem_singleton.1 hx, List.length_take]; omega) hp
      simp only [rdF] at h
      unfold rdE at h
      split at h
      · split at h
        · cases h
        · rename_i hp0
          split at h
          · cases h
          · injection h with h
            injection h with e1 e2
            subst e1; subst e2
            exact ⟨hf, by rw [List.length_take, List.length_drop]; omega, pzU_nn _ (posN_sign _ hp0)⟩
      · split at h
        · cases h
        · injection h with h
          injection h with e1 e2
          subst e1; subst e2
          exact ⟨hf, by simp, pzU_nn _ (by simp)⟩
  · cases h
theorem mem_getD {ps : List (List UInt8)} {i : Nat} (h : i < ps.length) : ps.getD i [] ∈ ps := by
  rw [List.getD_eq_getElem?_getD, List.getElem?_eq_getElem h]; exact List.getElem_mem h

set_option maxRecDepth 100000 in
set_option maxHeartbeats 4000000 in
theorem read_any (T : List UInt8) (w : World) (hT : T.length ≤ 4611686018427387904) (P E K : Nat) (hK : K ≤ 4194304) (hP0 : 3334 ≤ P) (hP : P ≤ 64 * K) (hE0 : 10000 ≤ E) (hE : E ≤ 1099511627776) (hbr : Bru w) :
    Calls Tryz.prog 50 #[.string ⟨T.toArray⟩] w fun e w' => Ext w w' ∧ ((∃ c k : Nat, RdBad T c k ∧ e = .panicked (gupR c k)) ∨ (∃ (cr : Array Value) (x : Nm), RdGood T x ∧ e = .returned (.agg cr) ∧ NmA w' cr x P E)) := by
  obtain ⟨H, hH⟩ : ∃ H, w.heap.size = H := ⟨_, rfl⟩
  obtain ⟨W0, hW0⟩ : ∃ W0, w.alloc (.cells zero9 28) = W0 := ⟨_, rfl⟩
  obtain ⟨U, hU⟩ : ∃ U, W0.alloc (.cells #[.string ⟨T.toArray⟩, .int .i64 0] 113) = U := ⟨_, rfl⟩
  have s0 : W0.heap.size = H + 1 := by rw [← hW0, ← hH]; simp
  have e0 : Ext w W0 := by rw [← hW0]; exact Ext.alloc _ _
  have e1 : Ext W0 U := by rw [← hU]; exact Ext.alloc _ _
  have N0 : Nums W0 H 9 28 (fun _ => 0) := by rw [← hW0, ← hH]; exact (cells_zero9 w).box 28
  have r0 : RdR U (H + 1) T 0 := ⟨by rw [← hU, ← s0]; exact heap_alloc_new W0 _⟩
  have hUU : ((w.alloc (.cells zero9 28)).alloc (.cells #[.string ⟨T.toArray⟩, .int .i64 0] 113)) = U := by rw [hW0, hU]
  have HSm := Lib.hid (rsum_any (H + 1) T U r0 hT)
  have HU := Lib.hid hUU; have HH := Lib.hid hH; have HN0 := Lib.hid N0; have He0 := Lib.hid e0; have He1 := Lib.hid e1; have Hs0 := Lib.hid s0; have HT := Lib.hid hT
  have HMk := Lib.hid (fun (ps : List (List UInt8)) (dn : List UInt8) (ao : Option Addr) (cp : Nat) (wx : World) (hx : Ext w wx) (hs : RStr wx ao ps.length ps) (h1 : 1 ≤ ps.length) (h8 : ps.length ≤ 8) (hr : rdS T = .inr (ps, dn)) =>
    makeNumber_any ps dn ao ps.length cp wx hs h1 h8 (fun i hi => by have := (rdS_fit hr).1 _ (mem_getD hi); omega) (by have := (rdS_fit hr).2.1; omega) (rdS_fit hr).2.2 P E K hK hP0 hP hE0 hE (bru_ext hbr hx))
  clear hUU hU hW0 hH s0 e0 e1 N0 r0 hT hK hP0 hP hE0 hE hbr
  go_enter Tryz.func50, Tryz.ntmps50
  go_wp2_with fail
  rw [HU.out, HH.out]
  clear HU
  refine HSm.out.mono ?_
  rintro e w1 ⟨hC1, (⟨ps, dn, a, c, hrs, rfl, hc1, hc2, hst, h1, h8⟩ | ⟨k, hrs, rfl⟩)⟩
  rotate_left 1
  · have HE := Lib.hid (He0.out.trans (hC1.ext He1.out (Nat.le_of_eq Hs0.out)))
    have Hr := Lib.hid hrs
    clear hC1 hrs HSm
    go_wp2_with fail
    exact ⟨rfl, HE.out, Or.inl ⟨1, k, Or.inl ⟨Hr.out, rfl⟩, rfl⟩⟩
  have E1 : Ext W0 w1 := hC1.ext He1.out (Nat.le_of_eq Hs0.out)
  have HM := Lib.hid (HMk.out ps dn a c w1 (He0.out.trans E1) hst h1 h8 hrs)
  have HE1 := Lib.hid E1; have Hrs := Lib.hid hrs
  clear E1 hC1 hrs hc1 hc2 hst h1 h8 HMk HSm
  go_wp2_with fail
  refine HM.out.mono ?_
  rintro e w2 ⟨hx2, (⟨c', k', hb, rfl⟩ | ⟨cr, x, hg, rfl, hcr⟩)⟩
  · have HE2 := Lib.hid ((He0.out.trans HE1.out).trans hx2)
    have Hb := Lib.hid (show RdBad T c' k' from Or.inr ⟨ps, dn, Hrs.out, hb⟩)
    clear hx2 hb HM HE1
    go_wp2_with fail
    exact ⟨rfl, HE2.out, Or.inl ⟨c', k', Hb.out, rfl⟩⟩
  obtain ⟨c1, hr1, hs1, hone, hinf, rr, hnm, hE'⟩ := fin_num hcr ((HN0.out.ext HE1.out).ext hx2) ((He0.out.trans HE1.out).trans hx2) (by rw [HH.out]; exact Nat.le_refl _)
  have Hend := Lib.hid (And.intro hnm hE')
  have Hg := Lib.hid (show RdGood T x from ⟨ps, dn, Hrs.out, hg⟩)
  clear hnm hE' hcr hg hx2 HM HE1 HN0
  go_wp2_with (refine wpList_store_row rfl 28 _ _ rfl H cr rfl rfl 28 _ hr1 hinf hs1 hone ?_)
  refine bodyPost_ret (v := .agg cr) ?_ rfl ⟨Hend.out.2, Or.inr ⟨cr, x, Hg.out, rfl, Hend.out.1⟩⟩
  exact results_cell_row rfl _ _ H _ _ _ _ rfl rr Tryz.underlying28 rfl hinf
end Go.Proofs.YtldkomeacocjbaaGreatDoor
namespace Go.Proofs.YtldkomeacocjbaaGreatDoor

theorem isDr_of_isD {c : UInt8} (h : isD c.toNat = true) : isDr (some c) = true := by
  simp only [isD, decide_eq_true_eq] at h
  simp [isDr]; omega
theorem dd_all (v : Nat) : ∀ c ∈ Lib.decDigits v, isDr (some c) = true := by
  intro c hc
  obtain ⟨j, hj, e⟩ := List.getElem_of_mem hc
  have h := decN_allD v j (by unfold decN; rw [List.length_map]; exact hj)
  refine isDr_of_isD ?_
  rw [List.getD_eq_getElem?_getD] at h
  unfold decN at h
  rw [List.getElem?_map, List.getElem?_eq_getElem hj, e] at h
  exact h
theorem dd_head (v : Nat) : ∃ c r, Lib.decDigits v = c :: r ∧ (c = 48 → v = 0) ∧ c ≠ 45 := by
  obtain ⟨d, r, e, h1, h2⟩ := decN_head v
  unfold decN at e
  cases hd : Lib.decDigits v with
  | nil => rw [hd] at e; cases e
  | cons c q =>
    rw [hd, List.map_cons] at e
    injection e with e1 e2
    refine ⟨c, q, rfl, fun h => h2 ?_, fun h => ?_⟩
    · rw [← e1, h]; rfl
    · rw [← e1, h] at h1; exact absurd h1 (by decide)
theorem itoa_0 : Lib.itoa 0 = [48] := by unfold Lib.itoa; rw [if_neg (by decide), Lib.decDigits, dif_pos (by decide)]; rfl
theorem itoa_1 : Lib.itoa 1 = [49] := by unfold Lib.itoa; rw [if_neg (by decide), Lib.decDigits, dif_pos (by decide)]; rfl
theorem itoa_m1 : Lib.itoa (-1) = [45, 49] := by unfold Lib.itoa; rw [if_pos (by decide), Lib.decDigits, dif_pos (by decide)]; rfl
theorem dgRun_app {l rest : List UInt8} (h : ∀ c ∈ l, isDr (some c) = true) (hr : isDr rest[0]? = false) : dgRun (l ++ rest) = l.length := by
  induction l with
  | nil =>
    cases rest with
    | nil => rfl
    | cons c r =>
      simp only [List.nil_append, dgRun, List.length_nil]
      rw [if_neg (by simpa using hr)]
  | cons c l ih =>
    simp only [List.cons_append, dgRun, List.length_cons]
    rw [if_pos (h c (by simp)), ih fun d hd => h d (by simp [hd])]
theorem posN_dd {v : Nat} (hv : v ≠ 0) {rest : List UInt8} (hr : isDr rest[0]? = false) : posN (Lib.decDigits v ++ rest) = (Lib.decDigits v).length := by
  obtain ⟨c, r, e, h1, _⟩ := dd_head v
  unfold posN
  rw [if_neg, dgRun_app (dd_all v) hr]
  rw [e]
  simp only [List.cons_append, List.getElem?_cons_zero, Option.some.injEq]
  exact fun h => hv (h1 h)
theorem dd_len (v : Nat) : (Lib.decDigits v).length ≠ 0 := by
  obtain ⟨c, r, e, _⟩ := dd_head v
  rw [e]; simp
theorem num_itoa (z : Int) {rest : List UInt8} (hr : isDr rest[0]? = false) : numOk (Lib.itoa z ++ rest) = true ∧ numK (Lib.itoa z ++ rest) = (Lib.itoa z).length := by
  by_cases hz : z < 0
  · have e : Lib.itoa z = 45 :: Lib.decDigits z.natAbs := by unfold Lib.itoa; rw [if_pos hz]
    have hp := posN_dd (v := z.natAbs) (by omega) hr
    have hl := dd_len z.natAbs
    have hs : numS (45 :: (Lib.decDigits z.natAbs ++ rest)) = 1 := by unfold numS; simp
    rw [e, List.cons_append]
    constructor
    · unfold numOk
      rw [hs]
      simp only [List.drop_succ_cons, List.drop_zero, hp, Bool.or_eq_true, decide_eq_true_eq]
      exact Or.inr hl
    · unfold numK
      rw [hs, if_neg (by simp)]
      simp only [List.drop_succ_cons, List.drop_zero, hp, List.length_cons]
      omega
  · have e : Lib.itoa z = Lib.decDigits z.toNat := by unfold Lib.itoa; rw [if_neg hz]
    by_cases h0 : z = 0
    · subst h0
      have e0 : Lib.itoa 0 = [48] := itoa_0
      rw [e0]
      exact ⟨by unfold numOk; simp, by unfold numK; simp⟩
    · have hp := posN_dd (v := z.toNat) (by omega) hr
      have hl := dd_len z.toNat
      obtain ⟨c, r, e2, h48, h45⟩ := dd_head z.toNat
      have hh : (Lib.decDigits z.toNat ++ rest)[0]? = some c := by rw [e2]; rfl
      have hs : numS (Lib.decDigits z.toNat ++ rest) = 0 := by unfold numS; rw [hh, if_neg (by simpa using h45)]
      have hc : ¬ (some c = some (48 : UInt8)) := fun h => by injection h with h; have := h48 h; omega
      rw [e]
      constructor
      · unfold numOk
        rw [hs, List.drop_zero, hp]
        simp [hl]
      · unfold numK
        rw [hh, if_neg hc, hs, List.drop_zero, hp]
        omega
/-- The parts from the i-th on, each with its comma, and what follows. -/
def rst (f : Nat → Int) (tl : List UInt8) : Nat → Nat → List UInt8
  | _, 0 => tl
  | i, m + 1 => 44 :: (Lib.itoa (f i) ++ rst f tl (i + 1) m)
def its (f : Nat → Int) : Nat → Nat → List (List UInt8)
  | _, 0 => []
  | i, m + 1 => Lib.itoa (f i) :: its f (i + 1) m
theorem its_length (f : Nat → Int) : ∀ i m, (its f i m).length = m
  | _, 0 => rfl
  | i, m + 1 => by simp only [its, List.length_cons, its_length f (i + 1) m]
theorem its_getD (f : Nat → Int) : ∀ i m t, t < m → (its f i m).getD t [] = Lib.itoa (f (i + t))
  | i, m + 1, 0, _ => by simp [its]
  | i, m + 1, t + 1, h => by
    simp only [its, List.getD_cons_succ]
    rw [its_getD f (i + 1) m t (by omega), show i + 1 + t = i + (t + 1) by omega]
theorem jnT_rst (f : Nat → Int) (tl : List UInt8) : ∀ m i, 1 ≤ i → jnT f (i + m) ++ tl = jnT f i ++ rst f tl i m
  | 0, i, _ => rfl
  | m + 1, i, hi => by
    rw [show i + (m + 1) = (i + 1) + m by omega, jnT_rst f tl m (i + 1) (by omega)]
    simp only [jnT, rst]
    rw [if_pos (by omega)]
    simp
theorem rst_head {f : Nat → Int} {tl : List UInt8} (ht : isDr tl[0]? = false) : ∀ m i, isDr (rst f tl i m)[0]? = false
  | 0, _ => ht
  | m + 1, i => by simp only [rst, List.getElem?_cons_zero]; decide
theorem rdP_rst (f : Nat → Int) (tl : List UInt8) (ht : isDr tl[0]? = false) (ht44 : tl[0]? ≠ some 44) (T : List UInt8) : ∀ (m i M : Nat) (acc : List (List UInt8)) (pre : List UInt8), m ≤ M → T = pre ++ rst f tl i m →
    ∃ k, rdP T M acc pre.length = .inr (acc ++ its f i m, k) ∧ T.drop k = tl ∧ k ≤ T.length
  | 0, i, M, acc, pre, _, e => by
    have hd : T.drop pre.length = tl := by rw [e]; simp [rst]
    have hT : T[pre.length]? = tl[0]? := by rw [← hd, List.getElem?_drop, Nat.add_zero]
    exact ⟨pre.length, by rw [rdP_end (Or.inr (by rw [hT]; exact ht44))]; simp [its], hd, by rw [e]; simp⟩
  | m + 1, i, M, acc, pre, hM, e => by
    obtain ⟨M', rfl⟩ : ∃ M', M = M' + 1 := ⟨M - 1, by omega⟩
    have hh := rst_head (f := f) ht m (i + 1)
    have hn := num_itoa (f i) hh
    have h44 : T[pre.length]? = some 44 := by rw [e]; simp [rst]
    have hd : T.drop (pre.length + 1) = Lib.itoa (f i) ++ rst f tl (i + 1) m := by
      rw [e, ← List.drop_drop]; simp [rst]
    have hp : rdP T (M' + 1) acc pre.length = rdP T M' (acc ++ [Lib.itoa (f i)]) (pre ++ 44 :: Lib.itoa (f i)).length := by
      rw [rdP_hit h44 (by rw [hd]; exact hn.1), hd, hn.2]
      simp only [List.take_left', List.length_append, List.length_cons]
      congr 1
      omega
    obtain ⟨k, h1, h2, h3⟩ := rdP_rst f tl ht ht44 T m (i + 1) M' (acc ++ [Lib.itoa (f i)]) (pre ++ 44 :: Lib.itoa (f i)) (by omega) (by rw [e]; simp [rst])
    refine ⟨k, ?_, h2, h3⟩
    rw [hp, h1]
    simp [its]
theorem lenN_zero (f : Nat → Int) : ∀ n i, lenN f n ≤ i → i < n → f i = 0
  | n + 1, i, h1, h2 => by
    simp only [lenN] at h1
    split at h1
    · rename_i h
      by_cases e : i = n
      · rw [e]; exact h.2
      · exact lenN_zero f n i h1 (by omega)
    · omega
/-- What is below, as it is written. -/
def dnT (f : Nat → Int) : List UInt8 := if f 8 = 0 then [48] else Lib.itoa (f 8)
theorem rdS_rtx (f : Nat → Int) (h8 : 0 ≤ f 8) : rdS (rtx f) = .inr (its f 0 (lenN f 8), dnT f) := by
  obtain ⟨tl, htl⟩ : ∃ tl, (if f 8 = 0 then ([] : List UInt8) else 47 :: Lib.itoa (f 8)) = tl := ⟨_, rfl⟩
  have ht : isDr tl[0]? = false := by rw [← htl]; split <;> rfl
  have ht44 : tl[0]? ≠ some 44 := by rw [← htl]; split <;> simp
  obtain ⟨m, hm⟩ : ∃ m, lenN f 8 = 1 + m := ⟨lenN f 8 - 1, by have := lenN_pos f 8 (by decide); omega⟩
  have hm7 : m ≤ 7 := by have := lenN_le f 8; omega
  obtain ⟨T, hT⟩ : ∃ T, rtx f = T := ⟨_, rfl⟩
  have hT1 : T = Lib.itoa (f 0) ++ rst f tl 1 m := by
    rw [← hT]; unfold rtx
    rw [htl, hm, jnT_rst f tl m 1 (Nat.le_refl _)]
    simp [jnT]
  have hn := num_itoa (f 0) (rst_head (f := f) ht m 1)
  rw [← hT1] at hn
  have htk : T.take (Lib.itoa (f 0)).length = Lib.itoa (f 0) := by rw [hT1]; simp
  obtain ⟨k, h1, h2, h3⟩ := rdP_rst f tl ht ht44 T m 1 7 [Lib.itoa (f 0)] (Lib.itoa (f 0)) hm7 hT1
  rw [hT]
  unfold rdS
  rw [if_pos hn.1, hn.2, htk, h1]
  simp only [rdF]
  have hk : T[k]? = tl[0]? := by rw [← h2, List.getElem?_drop, Nat.add_zero]
  have hits : [Lib.itoa (f 0)] ++ its f 1 m = its f 0 (lenN f 8) := by rw [hm, Nat.add_comm]; simp [its]
  unfold rdE dnT
  rw [hk, hits]
  by_cases h0 : f 8 = 0
  · rw [if_pos h0] at htl
    subst htl
    have hkl : ¬ k < T.length := by
      intro h
      have := congrArg List.length h2
      rw [List.length_drop, List.length_nil] at this
      omega
    rw [if_pos h0, if_neg (by simp), if_neg hkl]
  · rw [if_neg h0] at htl
    subst htl
    have e : Lib.itoa (f 8) = Lib.decDigits (f 8).toNat := by unfold Lib.itoa; rw [if_neg (by omega)]
    have hd : T.drop (k + 1) = Lib.decDigits (f 8).toNat ++ [] := by rw [← List.drop_drop, h2, List.append_nil, ← e]; rfl
    have hp : posN (T.drop (k + 1)) = (Lib.decDigits (f 8).toNat).length := by rw [hd]; exact posN_dd (by omega) rfl
    have hl := dd_len (f 8).toNat
    have hlen : k + 1 + (Lib.decDigits (f 8).toNat).length = T.length := by
      have h5 := congrArg List.length hd
      rw [List.length_drop, List.length_append, List.length_nil] at h5
      omega
    rw [if_neg h0, if_pos (by simp), hp, if_neg hl, if_neg (by omega), hd, List.append_nil, List.take_length, e]
theorem pzU_itoa (z : Int) (h : pcU (Lib.itoa z) = 0) : pzU (Lib.itoa z) = z := by
  have hs := txt_scan z
  have hv := txt_val z
  have h' : pcode (txt z) = 0 := h
  show pz (txt z) = z
  unfold pcode at h'
  rw [hs] at h'
  unfold pz
  rw [hs]
  simp only [Nat.lt_irrefl, not_false_eq_true, and_self, if_true, true_and] at h' ⊢
  split at h'
  · cases h'
  · rename_i h1
    rw [if_pos h1]; exact hv
/-- What is read of what was written is what was written. -/
theorem read_back {x y : Nm} (hx : Anti x.a) (h : RdGood (rtx (nmF x)) y) : y = x := by
  obtain ⟨ps, dn, h1, hg⟩ := h
  rw [rdS_rtx _ (by show (0 : Int) ≤ ((x.e : Nat) : Int); omega)] at h1
  injection h1 with h1
  injection h1 with e1 e2
  subst e1; subst e2
  have hl := its_length (nmF x) 0 (lenN (nmF x) 8)
  have hpF : ∀ i, i < 8 → pF (its (nmF x) 0 (lenN (nmF x) 8)) (its (nmF x) 0 (lenN (nmF x) 8)).length i = nmF x i := fun i hi => by
    unfold pF
    rw [hl]
    by_cases hi2 : i < lenN (nmF x) 8
    · have h2 := hg.parts i (by rw [hl]; exact hi2)
      rw [if_pos hi2]
      rw [its_getD _ _ _ _ hi2, Nat.zero_add] at h2 ⊢
      exact pzU_itoa _ h2
    · rw [if_neg hi2, lenN_zero (nmF x) 8 i (by omega) hi]
  have hd : (pzU (dnT (nmF x))).toNat = x.e := by
    have h2 := hg.down
    unfold dnT at h2 ⊢
    have e8 : nmF x 8 = ((x.e : Nat) : Int) := rfl
    split
    · rename_i h0
      have h3 : pzU [48] = 0 := by decide
      rw [h3]; rw [e8] at h0; omega
    · rename_i h0
      rw [if_neg h0] at h2
      rw [pzU_itoa _ h2, e8]; rfl
  rw [hg.eq, hd, ext8_congr hpF, ext8_nmF hx]
end Go.Proofs.YtldkomeacocjbaaGreatDoor
namespace Go.Proofs.YtldkomeacocjbaaGreatDoor
open Go.RowKit

theorem Make_nm (ao : Option Addr) (n cp : Nat) (l : List Int) (e : Int) (w : World) (hl : IntsAt w ao n l) (hr : ∀ t, t < n → -9223372036854775808 ≤ l.getD t 0 ∧ l.getD t 0 ≤ 9223372036854775807) (hn : n ≤ 17592186044416) (P E K : Nat) (hK : K ≤ 4194304) (hP0 : 10108 ≤ P) (hP : P ≤ 64 * K) (hE0 : 10000 ≤ E) (hE : E ≤ 1099511627776) (hbr : Bru w) :
    Calls Tryz.prog 27 #[.slice ao n cp, .int .i64 e] w fun r w' => ∃ (cr : Array Value) (x : Nm) (c : Int), r = .returned (.tuple #[.agg cr, .agg #[.int .i64 c, .int .i64 0]]) ∧ c = (if badE e then 5 else 0) ∧ NmA w' cr x P E ∧ EqN x (if badE e then ⟨fun _ => 0, 0⟩ else mkNm l e) ∧ Ext w w' := by
  by_cases hb : badE e
  · refine (Make_bad ao n cp e w P E hb).mono ?_
    rintro r w' ⟨hr, hn, hx⟩
    exact ⟨zero9, _, 5, hr, by rw [if_pos hb], hn, by rw [if_pos hb, ext8_zero]; exact EqN.refl _, hx⟩
  · refine (Make_good ao n cp l e w hl hr hn P E K hK hP0 hP hE0 hE hb hbr).mono ?_
    rintro r w' ⟨cr, x, hr, hn, he, hx⟩
    exact ⟨cr, x, 0, hr, by rw [if_neg hb], hn, by rw [if_neg hb]; exact he, hx⟩
theorem nm_zero {x : Nm} (hx : Anti x.a) : zeroN (nmF x) ↔ ∀ k, x.a k = 0 := by
  constructor
  · intro h
    refine all_zero hx fun j h0 h1 => ?_
    have := h j.toNat (by omega)
    unfold nmF at this
    rw [if_neg (by omega)] at this
    rwa [show ((j.toNat : Nat) : Int) = j by omega] at this
  · intro h i hi
    unfold nmF
    rw [if_neg (by omega)]; exact h _

set_option maxRecDepth 100000 in
set_option maxHeartbeats 1000000 in
theorem Zero_nm (ca : Array Value) (x : Nm) (P E : Nat) (w : World) (h : NmA w ca x P E) (B : Bool) (hB : B = true ↔ ∀ k, x.a k = 0) :
    Calls Tryz.prog 15 #[.agg ca] w fun e w' => e = .returned (.bool B) ∧ Ext w w' := by
  have hn := h.val.box 28
  have HZ := Lib.hid (rowZero_yes _ 9 _ _ _ hn (by decide) B (hB.trans (nm_zero h.anti).symm))
  have HE := Lib.hid (Ext.alloc w (.cells ca 28))
  clear hn h hB
  go_enter Tryz.func15, Tryz.ntmps15
  go_wp2_with fail
  refine HZ.out.mono ?_
  rintro e w1 ⟨rfl, hx⟩
  have HE1 := Lib.hid (HE.out.trans hx)
  clear hx HZ HE
  go_wp2_with fail
  go_ret
  exact ⟨rfl, HE1.out⟩

theorem rtx_half1 : rtx (nmF ⟨oneR, 1⟩) = [49, 47, 49] := by
  have h0 : nmF ⟨oneR, 1⟩ 0 = 1 := by decide
  have h8 : nmF ⟨oneR, 1⟩ 8 = 1 := by decide
  have hL : lenN (nmF ⟨oneR, 1⟩) 8 = 1 := by decide
  unfold rtx
  rw [hL]
  simp only [jnT]
  rw [h0, h8, itoa_1]
  decide
theorem rtx_rt : rtx (nmF nRt) = [48, 44, 48, 44, 49, 44, 48, 44, 48, 44, 48, 44, 45, 49, 47, 49] := by
  have h0 : nmF nRt 0 = 0 := by decide
  have h1 : nmF nRt 1 = 0 := by decide
  have h2 : nmF nRt 2 = 1 := by decide
  have h3 : nmF nRt 3 = 0 := by decide
  have h4 : nmF nRt 4 = 0 := by decide
  have h5 : nmF nRt 5 = 0 := by decide
  have h6 : nmF nRt 6 = -1 := by decide
  have h8 : nmF nRt 8 = 1 := by decide
  have hL : lenN (nmF nRt) 8 = 7 := by decide
  unfold rtx
  rw [hL]
  simp only [jnT]
  rw [h0, h1, h2, h3, h4, h5, h6, h8, itoa_0, itoa_1, itoa_m1]
  decide

set_option maxRecDepth 100000 in
set_option maxHeartbeats 1000000 in
theorem ringBegun_any (w : World) (hbr : Bru w) (hT : Ten w) :
    Calls Tryz.prog 8 #[] w fun e w' => e = .returned (.bool true) ∧ Ext w w' := by
  go_enter Tryz.func8, Tryz.ntmps8
  go_wp2_with fail
  refine (RRt_nm w hbr).mono ?_
  rintro e w1 ⟨cr, rfl, hcr, hx1⟩
  have HTx := Lib.hid (RText_nm cr nRt 5 1 w1 hcr 1 (by decide) (by decide) (by decide) (by decide) (tab_ext hT hx1))
  rw [rtx_rt] at HTx
  clear hcr
  go_wp2_with fail
  refine HTx.out.mono ?_
  rintro e w2 ⟨rfl, hx2⟩
  have HE := Lib.hid (hx1.trans hx2)
  have q : (([48, 44, 48, 44, 49, 44, 48, 44, 48, 44, 48, 44, 45, 49, 47, 49] : List UInt8) == [48, 44, 48, 44, 49, 44, 48, 44, 48, 44, 48, 44, 45, 49, 47, 49]) = true := by decide
  clear hx1 hx2 HTx
  go_wp2_with fail
  go_ret
  exact ⟨rfl, HE.out⟩
end Go.Proofs.YtldkomeacocjbaaGreatDoor
namespace Go.Proofs.YtldkomeacocjbaaGreatDoor
open Go.RowKit

set_option maxRecDepth 100000 in
set_option maxHeartbeats 1000000 in
theorem rfaultOf_any (a b : Int) (w : World) :
    Calls Tryz.prog 49 #[.iface 110 (.agg #[.int .i64 a, .int .i64 b])] w fun e w' => e = .returned (.agg #[.int .i64 a, .int .i64 b]) ∧ Ext w w' := by
  have hta : ∀ (t : TypeId) (w : World), Sem.run Tryz.prog (Instr.typeAssert (.iface 110 (.agg #[.int .i64 a, .int .i64 b])) t 110 true) w = .ok (.tuple #[.agg #[.int .i64 a, .int .i64 b], .bool true]) w := fun _ _ => by kernel_rfl
  go_enter Tryz.func49, Tryz.ntmps49
  have HX := Lib.hid ((Ext.alloc w (.cells #[.int .i64 a, .int .i64 b] 30)).trans (Ext.alloc _ (.cells #[.int .i64 a, .int .i64 b] 110)))
  go_wp2_with fail
  exact bodyPost_ret (v := .agg #[.int .i64 a, .int .i64 b]) (by simp [results, Tryz.results49, go_sem]) rfl ⟨rfl, HX.out⟩

set_option maxRecDepth 100000 in
theorem rparse1_idle (q : Addr) (w : World) :
    CallsD Tryz.prog 48 #[.pointer (some q)] .returning w fun e u' w' => e = .returned (.tuple #[]) ∧ u' = .returning ∧ w' = w := by
  refine callsD_of_wpS Tryz.func48 rfl fun c₀ cs hu => ?_
  apply wpS_seq
  apply wpS_region
  simp [wpOpsS, go_sem, recoverD, hu, Tryz.ntmps48, Exit.thenS]
  apply wpS_seq
  apply wpS_region
  simp [wpOpsS, go_sem, Exit.thenS]
  refine wpS_cond (t := false) (by simp [Act.eval, Array.replicate]) ?_
  simp only [if_false, Bool.false_eq_true]
  refine wpS_of_wp (wp_skip ?_)
  cases c₀
  simp_all [bodyPostS, results, Tryz.results48]

set_option maxRecDepth 100000 in
set_option maxHeartbeats 1000000 in
/-- The reader gave up: the fault is laid into the result's variable. -/
theorem rparse1_catch (B : Nat) (c k : Int) (w : World) (h : w.heap[B]? = some (.cells #[.int .i64 0, .int .i64 0] 30 (0, 0))) :
    CallsD Tryz.prog 48 #[.pointer (some ⟨B, 0, none⟩)] (.panicking (gupR c k)) w fun e u' w' => e = .returned (.tuple #[]) ∧ (u' = .panicking [{ v := .iface 110 (.agg #[.int .i64 c, .int .i64 k]), recovered := true }]) ∧ ∃ w1, Ext w w1 ∧ w' = w1.setRow B #[.int .i64 c, .int .i64 k] := by
  unfold gupR
  refine callsD_of_wpS Tryz.func48 rfl fun c₀ cs hu => ?_
  apply wpS_seq
  apply wpS_region
  simp [wpOpsS, go_sem, recoverD, hu, Tryz.ntmps48, Exit.thenS]
  apply wpS_seq
  apply wpS_region
  simp [wpOpsS, go_sem, Exit.thenS]
  refine wpS_cond (t := true) (by simp [Act.eval, Array.replicate]) ?_
  simp only [if_true]
  refine wpS_of_wp ?_
  show Code.wp _ _ _ { tmps := #[.pointer (some ⟨B, 0, none⟩), .iface 110 (.agg #[.int .i64 c, .int .i64 k]), .iface 110 (.agg #[.int .i64 c, .int .i64 k]), .iface 110 (.agg #[.int .i64 c, .int .i64 k]), .bool true, undef, undef], defers := [] } w
  have HF := Lib.hid h
  clear h
  go_wp2_with fail
  refine (rfaultOf_any c k w).mono ?_
  rintro e w1 ⟨rfl, hx⟩
  have hF1 : w1.heap[B]? = some (.cells #[.int .i64 0, .int .i64 0] 30 (0, 0)) := (hx.block _ (Array.getElem?_eq_some_iff.1 HF.out).1).trans HF.out
  have hone := fault_one c k
  have HX := Lib.hid hx
  clear hx
  go_wp2_with (refine wpList_store_row rfl 30 _ _ rfl B #[.int .i64 c, .int .i64 k] rfl rfl 30 _ hF1 fault_info rfl hone ?_)
  cases c₀
  simp_all [bodyPostS, results, Tryz.results48]
  exact ⟨w1, HX.out, rfl⟩

set_option maxHeartbeats 4000000 in
set_option maxRecDepth 100000 in
theorem RParse_any (T : List UInt8) (w : World) (hT : T.length ≤ 4611686018427387904) (P E K : Nat) (hK : K ≤ 4194304) (hP0 : 3334 ≤ P) (hP : P ≤ 64 * K) (hE0 : 10000 ≤ E) (hE : E ≤ 1099511627776) (hbr : Bru w) :
    Calls Tryz.prog 6 #[.string ⟨T.toArray⟩] w fun e w' => Ext w w' ∧ ((∃ c k : Nat, RdBad T c k ∧ e = .returned (.tuple #[.agg zero9, .agg #[.int .i64 (c : Int), .int .i64 (k : Int)]])) ∨ (∃ (cr : Array Value) (x : Nm), RdGood T x ∧ e = .returned (.tuple #[.agg cr, .agg #[.int .i64 0, .int .i64 0]]) ∧ NmA w' cr x P E)) := by
  have hmf : ∀ (fn : Fn) (first cap : Array Value) (w : World), (Instr.makeFunc fn first cap).run Tryz.prog w = .ok (.func fn first cap) w := fun _ _ _ _ => rfl
  obtain ⟨H, hH⟩ : ∃ H, w.heap.size = H := ⟨_, rfl⟩
  obtain ⟨U, hU⟩ : ∃ U, ((w.alloc (.cells zero9 28)).alloc (.cells #[.int .i64 0, .int .i64 0] 30)) = U := ⟨_, rfl⟩
  have E0 : Ext w U := by rw [← hU]; exact (Ext.alloc _ _).trans (Ext.alloc _ _)
  have N0 : Nums U H 9 28 (fun _ => 0) := by rw [← hU, ← hH]; exact ((cells_zero9 w).box 28).ext (Ext.alloc _ _)
  have Z0 : U.heap[H]? = some (.cells zero9 28 (0, 0)) := by rw [← hU, ← hH]; exact ((Ext.alloc _ _).block _ (Array.getElem?_eq_some_iff.1 (heap_alloc_new w (.cells zero9 28))).1).trans (heap_alloc_new w _)
  have F0 : U.heap[H + 1]? = some (.cells #[.int .i64 0, .int .i64 0] 30 (0, 0)) := by
    have h3 := heap_alloc_new (w.alloc (.cells zero9 28)) (.cells #[.int .i64 0, .int .i64 0] 30)
    rw [← hU, ← hH]
    simpa using h3
  have HRd := Lib.hid (read_any T U hT P E K hK hP0 hP hE0 hE (bru_ext hbr E0))
  have HU := Lib.hid hU; have HH := Lib.hid hH; have HN0 := Lib.hid N0; have HF0 := Lib.hid F0; have HE0 := Lib.hid E0; have HZ0 := Lib.hid Z0
  clear hU hH N0 F0 E0 Z0 hT hK hP0 hP hE0 hE hbr
  go_enter_defers Tryz.func6, Tryz.ntmps6
  go_wp2_with fail
  rw [HU.out, HH.out]
  clear HU
  refine HRd.out.mono ?_
  rintro e w1 ⟨hx1, (⟨c, k, hb, rfl⟩ | ⟨cr, x, hg, rfl, hcr⟩)⟩
  · have Hb := Lib.hid hb
    have hF1 : w1.heap[H + 1]? = some (.cells #[.int .i64 0, .int .i64 0] 30 (0, 0)) := (hx1.block _ (Array.getElem?_eq_some_iff.1 HF0.out).1).trans HF0.out
    have hZ1 : w1.heap[H]? = some (.cells zero9 28 (0, 0)) := (hx1.block _ (Array.getElem?_eq_some_iff.1 HZ0.out).1).trans HZ0.out
    have HE1 := Lib.hid (HE0.out.trans hx1); have HF1 := Lib.hid hF1; have HZ1 := Lib.hid hZ1
    clear hb hx1 hF1 hZ1 HRd HN0 HF0 HE0 HZ0
    go_wp2_with fail
    refine leaves_cons (f := 48) (args := #[.pointer (some ⟨H + 1, 0, none⟩)]) (by simp) (by simp [go_sem]) ?_
    refine (rparse1_catch (H + 1) c k w1 HF1.out).mono ?_
    rintro e u' w'' ⟨rfl, rfl, w2, hx2, rfl⟩
    have hF2 : w2.heap[H + 1]? = some (.cells #[.int .i64 0, .int .i64 0] 30 (0, 0)) := (hx2.block _ (Array.getElem?_eq_some_iff.1 HF1.out).1).trans HF1.out
    have g1 : (w2.setRow (H + 1) #[.int .i64 (c : Int), .int .i64 (k : Int)]).heap[H + 1]? = some (.cells #[.int .i64 (c : Int), .int .i64 (k : Int)] 30 (0, 0)) := setRow_heap _ _ _ _ _ _ hF2
    have g0 : (w2.setRow (H + 1) #[.int .i64 (c : Int), .int .i64 (k : Int)]).heap[H]? = some (.cells zero9 28 (0, 0)) := (setRow_other _ _ _ _ (by omega)).trans ((hx2.block _ (Array.getElem?_eq_some_iff.1 HZ1.out).1).trans HZ1.out)
    have HE2 := Lib.hid (show Ext w (w2.setRow (H + 1) #[.int .i64 (c : Int), .int .i64 (k : Int)]) from by
      have c2 := setRow_only w2 (H + 1) #[.int .i64 (c : Int), .int .i64 (k : Int)]
      have E2 := HE1.out.trans hx2
      refine ⟨c2.os.trans E2.os, c2.tape.trans E2.tape, c2.output.trans E2.output, by rw [c2.size]; exact E2.size, fun k hk => ?_⟩
      rw [c2.block k (by rw [HH.out] at hk; omega)]
      exact E2.block k hk)
    clear hF2 hx2
    generalize w2.setRow (H + 1) #[.int .i64 (c : Int), .int .i64 (k : Int)] = Wz at *
    have hres := fun (tm : Array Value) (h1 : tm.getD 2 undef = .pointer (some ⟨H, 0, none⟩)) (h2 : tm.getD 3 undef = .pointer (some ⟨H + 1, 0, none⟩)) => results_row2 (P := Tryz.prog) (fn := Tryz.f6) (p := 2) (q := 3) rfl tm Wz H (H + 1) _ _ _ _ _ _ _ _ h1 h2 g0 g1 Tryz.underlying28 rfl rnum_info Tryz.underlying30 rfl fault_info
    show Leaves _ _ _ _ [] .returning Wz
    exact ⟨_, hres _ rfl rfl, HE2.out, Or.inl ⟨c, k, Hb.out, rfl⟩⟩
  obtain ⟨c1, hr1, hs1, hone, hinf, rr, hnm, hE'⟩ := fin_num hcr (HN0.out.ext hx1) (HE0.out.trans hx1) (by rw [HH.out]; exact Nat.le_refl _)
  have hF5 : (w1.setRow H cr).heap[H + 1]? = some (.cells #[.int .i64 0, .int .i64 0] 30 (0, 0)) := (setRow_other w1 H (H + 1) cr (by omega)).trans ((hx1.block _ (Array.getElem?_eq_some_iff.1 HF0.out).1).trans HF0.out)
  have hself := setRow_self (w1.setRow H cr) (H + 1) _ _ _ hF5
  have honeF := fault_one 0 0
  have Hend := Lib.hid (And.intro hnm hE'); have Hg := Lib.hid hg; have Hself := Lib.hid hself
  clear hnm hE' hcr hg hx1 HRd HN0 HF0 HE0 HZ0 hself
  go_wp2_with (first
    | refine wpList_store_row rfl 28 _ _ rfl H cr rfl rfl 28 _ hr1 hinf hs1 hone ?_
    | refine wpList_store_row rfl 30 _ _ rfl (H + 1) #[.int .i64 0, .int .i64 0] rfl rfl 30 _ hF5 fault_info rfl honeF ?_)
  rw [Hself.out]
  clear Hself
  refine leaves_cons (f := 48) (args := #[.pointer (some ⟨H + 1, 0, none⟩)]) (by simp) (by simp [go_sem]) ?_
  refine (rparse1_idle ⟨H + 1, 0, none⟩ _).mono ?_
  rintro e u' w'' ⟨rfl, rfl, rfl⟩
  generalize w1.setRow H cr = Wz at *
  have hres := fun (tm : Array Value) (h1 : tm.getD 2 undef = .pointer (some ⟨H, 0, none⟩)) (h2 : tm.getD 3 undef = .pointer (some ⟨H + 1, 0, none⟩)) => results_row2 (P := Tryz.prog) (fn := Tryz.f6) (p := 2) (q := 3) rfl tm Wz H (H + 1) _ _ _ _ _ _ _ _ h1 h2 rr hF5 Tryz.underlying28 rfl hinf Tryz.underlying30 rfl fault_info
  show Leaves _ _ _ _ [] .returning Wz
  exact ⟨_, hres _ rfl rfl, Hend.out.2, Or.inr ⟨cr, x, Hg.out, rfl, Hend.out.1⟩⟩
end Go.Proofs.YtldkomeacocjbaaGreatDoor
