/-
  A number of circuits as a text: Text. What Text wrote is read as the same number, in plain lists. Make in one; Zero; how the ring begins. A product: Mul. A sum: Add. A difference: Sub; a number times its mirror: Norm. The laws of the ring: the walk.
-/
import Derived.Test.YtiicfpdiehgikaaGreatDoorProg
import Derived.Test.YtiicfpdiehgikaaGreatDoorRows
import Derived.BigQuiet
import Derived.Deep.Cut
import Derived.Deep.CutRange
import Derived.Deep.LoopGhost
import Derived.Deep.MidRow
import Derived.Deep.QuietTactic
import Derived.Deep.RegionHeld3
import Derived.Laws.Bits64b
import Derived.Laws.CopyOwn
import Derived.Laws.ResultCell
import Derived.Laws.Rows
import Derived.Lib.AppendIntMem
import Derived.Lib.AppendStr
import Derived.Lib.BitFns
import Derived.Lib.Hide
import Derived.Lib.ItoaMem
import Derived.Lib.ItoaNum
import Derived.Lib.Strings
import Derived.Lib.TrailingZeros
import Derived.OwnWalk
import Derived.Shelf.Bits.Mul64
import Derived.Shelf.LaysM
import Derived.Shelf.Small.Bits
import Derived.Shelf.Small.Wraps
import Derived.Shelf.Spec.BitsCarry
import Derived.Shelf.Spec.TrailingZeros
import Derived.Shelf.Strconv.Itoa0
import Derived.Shelf.Strconv.Itoa1
import Derived.Shelf.Strconv.Itoa2
import Derived.Shelf.Strconv.Itoa3
import Derived.Shelf.Strings.Builder1
import Derived.Shelf.Strings.BuilderF
import Derived.Shelf.Strings.BuilderK
import Derived.WalkKit
import Derived.WalkLawsBesides
import Derived.WalkSpells
import Derived.Test.YtiicfpdiehgikaaGreatDoorS00Mem
import Derived.Test.YtiicfpdiehgikaaGreatDoorShelf
import Derived.Test.YtiicfpdiehgikaaGreatDoorS02ShiftI
import Derived.Test.YtiicfpdiehgikaaGreatDoorS03GuessD
import Derived.Test.YtiicfpdiehgikaaGreatDoorS04IntB
import Derived.Test.YtiicfpdiehgikaaGreatDoorS05IntD
import Derived.Test.YtiicfpdiehgikaaGreatDoorS06GcB
import Derived.Test.YtiicfpdiehgikaaGreatDoorS07Rd
import Derived.Test.YtiicfpdiehgikaaGreatDoorS08Rl
import Derived.Test.YtiicfpdiehgikaaGreatDoorS09Ca
import Derived.Test.YtiicfpdiehgikaaGreatDoorS10Td
import Derived.Test.YtiicfpdiehgikaaGreatDoorS11TxT
namespace Go.Proofs.YtiicfpdiehgikaaGreatDoor
open Go.RowKit

/-- The parts' texts with commas between them. -/
def jnT (f : Nat → Int) : Nat → List UInt8
  | 0 => []
  | i + 1 => jnT f i ++ (if 0 < i then [44] else []) ++ Lib.itoa (f i)
/-- The whole text. -/
def rtx (f : Nat → Int) : List UInt8 := jnT f (lenN f 8) ++ (if f 8 = 0 then [] else 47 :: Lib.itoa (f 8))
abbrev BldU (w : World) (b : Nat) (l : List UInt8) : Prop := Bld w b (Lib.byteCells l)
theorem Bld.ext {w w' : World} {b : Nat} {bs : List Value} (h : Bld w b bs) (k : Ext w w') : Bld w' b bs := by
  have go : ∀ p, Lib.BuilderAtF 85 5 b b p bs w → Lib.BuilderAtF 85 5 b b p bs w' := by
    rintro p ⟨h1, v, h2, h3, h4⟩
    refine ⟨h1, v, (k.block _ (Array.getElem?_eq_some_iff.1 h2).1).trans h2, ⟨h3.1, ?_⟩, h4⟩
    rcases h3.2 with h5 | ⟨g, cap, cur, fz, e1, e2, e3, e4⟩
    · exact Or.inl h5
    · exact Or.inr ⟨g, cap, cur, fz, e1, e2, (k.block _ (Array.getElem?_eq_some_iff.1 e3).1).trans e3, e4⟩
  rcases h with h | h
  · exact Or.inl (go _ h)
  · exact Or.inr (go _ h)
theorem ustr (b : Nat) (l : List UInt8) (s : ByteArray) (w : World) (h : BldU w b l) (hlen : l.length + s.size ≤ 140737488355328) :
    Calls Tryz.prog 59 #[.pointer (some ⟨b, 0, none⟩), .string s] w fun e w' => e = .returned (.tuple #[.int .i64 s.size, .nilIface]) ∧ BldU w' b (l ++ s.data.toList) ∧ Wrt b w w' := by
  refine (writeString_any b _ s w h (by rw [Lib.byteCells_length]; exact hlen)).mono ?_
  intro e w' hh
  refine ⟨hh.1, ?_, hh.2.2⟩
  have := hh.2.1
  rw [Lib.strCells_eq, ← Lib.byteCells_append] at this
  exact this
theorem ubyte (b : Nat) (l : List UInt8) (c : UInt8) (w : World) (h : BldU w b l) (hlen : l.length + 1 ≤ 140737488355328) :
    Calls Tryz.prog 58 #[.pointer (some ⟨b, 0, none⟩), .int .u8 (c.toNat : Int)] w fun e w' => e = .returned .nilIface ∧ BldU w' b (l ++ [c]) ∧ Wrt b w w' := by
  refine (writeByte_any b _ (c.toNat : Int) w h (by rw [Lib.byteCells_length]; exact hlen)).mono ?_
  intro e w' hh
  refine ⟨hh.1, ?_, hh.2.2⟩
  have := hh.2.1
  have e1 : Lib.byteCells (l ++ [c]) = Lib.byteCells l ++ [.int .u8 (c.toNat : Int)] := by rw [Lib.byteCells_append]; rfl
  rw [← e1] at this
  exact this
/-- A number's text is not too long. -/
theorem ritoa_len (z : Int) (P : Nat) (h : z.natAbs < 2 ^ P) : (Lib.itoa z).length ≤ P + 2 := by
  have h1 : (Lib.itoa z).length = (txt z).length := by unfold txt; rw [List.length_map]
  have h2 : (decN z.natAbs).length ≤ P + 1 := by
    rw [decN_length]
    refine nDigits_le (P + 1) _ (by omega) ?_
    have h3 : 2 ^ P ≤ 10 ^ P := Nat.pow_le_pow_left (by decide) P
    have h4 : 10 ^ P ≤ 10 ^ (P + 1) := Nat.pow_le_pow_right (by decide) (by omega)
    omega
  rw [h1]
  by_cases hz : z < 0
  · rw [txt_neg hz, List.length_cons]; omega
  · rw [txt_pos hz]; omega
theorem jnT_len (f : Nat → Int) (P : Nat) (h : ∀ i, i < 8 → (f i).natAbs < 2 ^ P) : ∀ i, i ≤ 8 → (jnT f i).length ≤ i * (P + 3)
  | 0, _ => by simp [jnT]
  | i + 1, hi => by
    have h1 := jnT_len f P h i (by omega)
    have h2 := ritoa_len (f i) P (h i (by omega))
    have h3 : (if 0 < i then ([44] : List UInt8) else []).length ≤ 1 := by split <;> simp
    simp only [jnT, List.length_append]
    rw [Nat.succ_mul]
    omega

set_option maxRecDepth 100000 in
set_option maxHeartbeats 4000000 in
theorem RText_nm (ca : Array Value) (x : Nm) (P E : Nat) (w : World) (h : NmA w ca x P E) (K : Nat) (hK : K ≤ 100000) (hK1 : 1 ≤ K) (hP : P ≤ 64 * K) (hE : E ≤ 1099511627776) (hT : Ten w) :
    Calls Tryz.prog 9 #[.agg ca] w fun e w' => e = .returned (.string ⟨(rtx (nmF x)).toArray⟩) ∧ Ext w w' := by
  obtain ⟨f, hf⟩ : ∃ f, nmF x = f := ⟨_, rfl⟩
  rw [hf]
  have hv := h.val
  rw [hf] at hv
  have hF : ∀ i, i < 8 → (f i).natAbs < 2 ^ P := fun i hi => by have := nmF_abs h.abs i hi; rw [hf] at this; exact this
  have hf8 : f 8 = ((x.e : Nat) : Int) := by rw [← hf]; rfl
  have hd := h.down
  have HFit := Lib.hid (show ∀ i, i < 9 → Fit K (f i) from fun i hi => by
    by_cases e : i = 8
    · rw [e, hf8]
      exact fit_small (z := ((x.e : Nat) : Int)) (by omega) hK1
    · exact fit_pow (hF i (by omega)) hP)
  have h8b : (Lib.itoa (f 8)).length ≤ 66 := ritoa_len (f 8) 64 (by rw [hf8]; omega)
  obtain ⟨L, hL⟩ : ∃ L, lenN f 8 = L := ⟨_, rfl⟩
  have hL8 : L ≤ 8 := by rw [← hL]; exact lenN_le f 8
  have hjl := jnT_len f P hF
  have HjL := Lib.hid (show ∀ i, i ≤ 8 → (jnT f i).length ≤ 51200024 from fun i hi => by
    have h1 := hjl i hi
    have h2 : i * (P + 3) ≤ 8 * (P + 3) := Nat.mul_le_mul_right _ hi
    omega)
  have HiL := Lib.hid (show ∀ i, i < 8 → (Lib.itoa (f i)).length ≤ 6400002 from fun i hi => by
    have h1 := ritoa_len (f i) P (hF i hi)
    omega)
  have hrtx : rtx f = jnT f L ++ (if f 8 = 0 then [] else 47 :: Lib.itoa (f 8)) := by unfold rtx; rw [hL]
  obtain ⟨R, hR⟩ : ∃ R, rtx f = R := ⟨_, rfl⟩
  rw [hR]
  have HR := Lib.hid (hR.symm.trans hrtx)
  obtain ⟨H, hH⟩ : ∃ H, w.heap.size = H := ⟨_, rfl⟩
  obtain ⟨W0, hW0⟩ : ∃ W0, w.alloc (.cells ca 28) = W0 := ⟨_, rfl⟩
  obtain ⟨U, hU⟩ : ∃ U, W0.alloc (.cells #[.pointer none, .slice none 0 0] 85) = U := ⟨_, rfl⟩
  have s0 : W0.heap.size = H + 1 := by rw [← hW0, ← hH]; simp
  have e0 : Ext w W0 := by rw [← hW0]; exact Ext.alloc _ _
  have N0 : Nums W0 H 9 28 f := by rw [← hW0, ← hH]; exact hv.box 28
  have e1 : Ext W0 U := by rw [← hU]; exact Ext.alloc _ _
  have B0 : BldU U (H + 1) [] := by rw [← hU, ← s0]; exact bld_new W0
  have hUU : (w.alloc (.cells ca 28)).alloc (.cells #[.pointer none, .slice none 0 0] 85) = U := by rw [hW0, hU]
  have HLn := Lib.hid (rowLength_any H 9 28 f U (N0.ext e1) (by decide))
  rw [hL] at HLn
  have HU := Lib.hid hUU; have HH := Lib.hid hH; have HN0 := Lib.hid N0; have He0 := Lib.hid e0; have He1 := Lib.hid e1; have HB0 := Lib.hid B0; have HL8 := Lib.hid hL8; have Hs0 := Lib.hid s0; have HT := Lib.hid hT; have HK := Lib.hid hK; have H8b := Lib.hid h8b
  clear hUU hU hW0 hH s0 e0 e1 N0 B0 hv hF hf8 hd h hf hL hL8 hjl hrtx hR hT hK hK1 hP hE h8b
  go_enter Tryz.func9, Tryz.ntmps9
  go_wp2_with fail
  rw [HU.out, HH.out]
  clear HU
  refine HLn.out.mono ?_
  rintro e w1 ⟨rfl, hx1⟩
  have Hst := Lib.hid (show BldU w1 (H + 1) (jnT f 0) ∧ Ext W0 w1 from ⟨HB0.out.ext hx1, He1.out.trans hx1⟩)
  clear hx1 HB0 He1 HLn
  go_wp2_with fail
  go_loopg [4, 7] L (fun kk s4 s7 wr => ∃ j : Nat, s7 = .int .i64 (j : Int) ∧ j ≤ L ∧ L - j = kk ∧ BldU wr (H + 1) (jnT f j) ∧ Ext W0 wr)
  case atStart => exact ⟨0, rfl, by omega, by omega, Hst.out⟩
  case round =>
    clear Hst
    obtain ⟨j, rfl, hj, hjk, hB, hE⟩ := hrel
    obtain ⟨wo, rfl⟩ : ∃ wo : World, wo = wr := ⟨_, rfl⟩
    by_cases hjL : j = L
    · have q0 : ¬ (j : Int) < (L : Int) := by omega
      subst hjL
      obtain ⟨s8, a8, n8, c8, l16, l17, _, _, hI8⟩ := (HN0.out.ext hE).get 8 (by decide)
      have lH := (HN0.out.ext hE).lt
      have HI8 := Lib.hid hI8; have Hc := Lib.hid hI8.cmp3; have HB := Lib.hid hB; have HE := Lib.hid hE
      have Hs := Lib.hid (Sign_any s8 (.slice a8 n8 c8))
      clear hI8 hB hE hjk hj q0
      go_wp2_with fail
      refine (Hs.out wo).mono ?_
      rintro e w2 ⟨rfl, hx2⟩
      have HB2 := Lib.hid (HB.out.ext hx2); have HE2 := Lib.hid (HE.out.trans hx2)
      clear hx2 HB HE Hs l16 l17
      rw [Hc.out]
      clear Hc
      go_upto_if 23 with fail
      go_cut [] from 23 to 28 (fun wx => BldU wx (H + 1) R ∧ Ext W0 wx)
      case first =>
        by_cases hz : f 8 = 0
        · have b1 : (cmp3 (f 8) 0 != 0) = false := rne_f (cmp3_zero.2 hz)
          have HRz := Lib.hid (show R = jnT f j by rw [HR.out, if_pos hz]; simp)
          clear hz
          go_wp2_with fail
          go_meet
          exact ⟨by rw [HRz.out]; exact HB2.out, HE2.out⟩
        · have b1 : (cmp3 (f 8) 0 != 0) = true := rne_t fun e => hz (cmp3_zero.1 e)
          have HRz := Lib.hid (show R = (jnT f j ++ [47]) ++ Lib.itoa (f 8) by rw [HR.out, if_neg hz]; simp)
          have HW := Lib.hid (ubyte (H + 1) (jnT f j) 47 w2 HB2.out (by have := HjL.out j HL8.out; omega))
          clear hz
          go_wp2_with fail
          refine HW.out.mono ?_
          rintro e w3 ⟨rfl, hB3, hW3⟩
          have hE3 : Ext W0 w3 := hW3.ext HE2.out (Nat.le_of_eq Hs0.out)
          obtain ⟨t8, b8, m8, d8, l16, l17, _, _, hI⟩ := (HN0.out.ext hE3).get 8 (by decide)
          have HTx := Lib.hid (Text_any t8 b8 m8 d8 (f 8) w3 hI (by have h1 := hI.len (HFit.out 8 (by decide)); have h2 := HK.out; omega) (tab_ext HT.out (He0.out.trans hE3)))
          have HB3 := Lib.hid hB3; have HE3 := Lib.hid hE3
          clear hB3 hW3 hE3 hI HW HB2 HE2 b1
          go_wp2_with fail
          refine HTx.out.mono ?_
          rintro e w4 ⟨rfl, hx4⟩
          have HWs := Lib.hid (ustr (H + 1) (jnT f j ++ [47]) ⟨(Lib.itoa (f 8)).toArray⟩ w4 (HB3.out.ext hx4) (by
            have h1 := HjL.out j HL8.out; have h2 := H8b.out
            simp only [List.length_append, List.length_cons, List.length_nil, ByteArray.size, List.size_toArray]; omega))
          have HE4 := Lib.hid (HE3.out.trans hx4)
          clear hx4 HTx HB3 HE3 l16 l17
          go_wp2_with fail
          refine HWs.out.mono ?_
          rintro e w5 ⟨rfl, hB5, hW5⟩
          have Hend := Lib.hid (show BldU w5 (H + 1) R ∧ Ext W0 w5 from ⟨by rw [HRz.out]; exact hB5, hW5.ext HE4.out (Nat.le_of_eq Hs0.out)⟩)
          clear hB5 hW5 HWs HE4 HRz
          go_wp2_with fail
          go_meet
          exact Hend.out
      case rest =>
      obtain ⟨hB, hE⟩ := hcut
      obtain ⟨w6, rfl⟩ : ∃ w6 : World, w6 = wc := ⟨_, rfl⟩
      have hbl := hB.lt
      have HC := Lib.hid (Tryz.Builder_String_any_f (H + 1) (H + 1) _ w6 hB (by omega))
      have HE := Lib.hid hE
      clear hB hE
      go_wp2_with fail
      refine HC.out.mono ?_
      rintro e w7 ⟨rfl, _, hb7⟩
      have HE7 := Lib.hid (He0.out.trans (Below.trans HE.out (hb7.mono (Nat.le_of_eq Hs0.out))))
      clear hb7 HC HE
      go_wp2_with fail
      go_ret
      exact ⟨rfl, HE7.out⟩
    have q0 : (j : Int) < (L : Int) := by omega
    have q1 : (0 : Int) ≤ (j : Int) := by omega
    have q2 : (j : Int) < 8 := by have := HL8.out; omega
    have wk : IntKind.i64.wrap ((j : Int) + 1) = ((j + 1 : Nat) : Int) := by have := HL8.out; rw [IntKind.wrap_i64]; omega
    have Hj8 := Lib.hid (show j < 8 by have := HL8.out; omega)
    have Hj1 := Lib.hid (show j + 1 ≤ L by omega)
    have HB := Lib.hid hB; have HE := Lib.hid hE; have Hjk := Lib.hid hjk
    clear hB hE hjk hjL hj
    go_upto_if 11 with fail
    go_cut [] from 11 to 12 (fun wx => BldU wx (H + 1) (jnT f j ++ (if 0 < j then [44] else [])) ∧ Ext W0 wx)
    case first =>
      by_cases hj0 : 0 < j
      · have b1 : (0 : Int) < (j : Int) := by omega
        have HW := Lib.hid (ubyte (H + 1) (jnT f j) 44 wo HB.out (by have := HjL.out j (by have := Hj8.out; omega); omega))
        have Hj0 := Lib.hid hj0
        clear hj0
        go_wp2_with fail
        refine HW.out.mono ?_
        rintro e w3 ⟨rfl, hB3, hW3⟩
        have Hend := Lib.hid (show BldU w3 (H + 1) (jnT f j ++ (if 0 < j then [44] else [])) ∧ Ext W0 w3 from ⟨by rw [if_pos Hj0.out]; exact hB3, hW3.ext HE.out (Nat.le_of_eq Hs0.out)⟩)
        clear hB3 hW3 HW
        go_wp2_with fail
        go_meet
        exact Hend.out
      · have b1 : ¬ (0 : Int) < (j : Int) := by omega
        have Hend := Lib.hid (show BldU wo (H + 1) (jnT f j ++ (if 0 < j then [44] else [])) ∧ Ext W0 wo from ⟨by rw [if_neg hj0, List.append_nil]; exact HB.out, HE.out⟩)
        go_wp2_with fail
        go_meet
        exact Hend.out
    case rest =>
    obtain ⟨hB, hE⟩ := hcut
    obtain ⟨w3, rfl⟩ : ∃ w3 : World, w3 = wc := ⟨_, rfl⟩
    obtain ⟨t8, b8, m8, d8, y0, y1, _, _, hI⟩ := (HN0.out.ext hE).get j (by have := Hj8.out; omega)
    have HTx := Lib.hid (Text_any t8 b8 m8 d8 (f j) w3 hI (by have h1 := hI.len (HFit.out j (by have := Hj8.out; omega)); have h2 := HK.out; omega) (tab_ext HT.out (He0.out.trans hE)))
    have HB3 := Lib.hid hB; have HE3 := Lib.hid hE
    clear hB hE hI HB HE
    go_wp2_with fail
    refine HTx.out.mono ?_
    rintro e w4 ⟨rfl, hx4⟩
    have HWs := Lib.hid (ustr (H + 1) _ ⟨(Lib.itoa (f j)).toArray⟩ w4 (HB3.out.ext hx4) (by
      have h1 := HjL.out j (by have := Hj8.out; omega); have h2 := HiL.out j Hj8.out
      have h3 : (if 0 < j then ([44] : List UInt8) else []).length ≤ 1 := by split <;> simp
      simp only [List.length_append, ByteArray.size, List.size_toArray]; omega))
    have HE4 := Lib.hid (HE3.out.trans hx4)
    clear hx4 HTx HB3 HE3 y0 y1
    go_wp2_with fail
    refine HWs.out.mono ?_
    rintro e w5 ⟨rfl, hB5, hW5⟩
    have Hend := Lib.hid (show BldU w5 (H + 1) (jnT f (j + 1)) ∧ Ext W0 w5 from ⟨hB5, hW5.ext HE4.out (Nat.le_of_eq Hs0.out)⟩)
    clear hB5 hW5 HWs HE4
    go_wp2_with fail
    go_roundg (L - (j + 1))
    case measure => have := Hjk.out; have := Hj1.out; omega
    case rel => exact ⟨j + 1, rfl, Hj1.out, rfl, Hend.out⟩
end Go.Proofs.YtiicfpdiehgikaaGreatDoor
namespace Go.Proofs.YtiicfpdiehgikaaGreatDoor

theorem itoa_0 : Lib.itoa 0 = [48] := by unfold Lib.itoa; rw [if_neg (by decide), Lib.decDigits, dif_pos (by decide)]; rfl
theorem itoa_1 : Lib.itoa 1 = [49] := by unfold Lib.itoa; rw [if_neg (by decide), Lib.decDigits, dif_pos (by decide)]; rfl
theorem itoa_m1 : Lib.itoa (-1) = [45, 49] := by unfold Lib.itoa; rw [if_pos (by decide), Lib.decDigits, dif_pos (by decide)]; rfl
end Go.Proofs.YtiicfpdiehgikaaGreatDoor
namespace Go.Proofs.YtiicfpdiehgikaaGreatDoor
open Go.RowKit

theorem Make_nm (ao : Option Addr) (n cp : Nat) (l : List Int) (e : Int) (w : World) (hl : IntsAt w ao n l) (hr : ∀ t, t < n → -9223372036854775808 ≤ l.getD t 0 ∧ l.getD t 0 ≤ 9223372036854775807) (hn : n ≤ 17592186044416) (P E K : Nat) (hK : K ≤ 4194304) (hP0 : 10108 ≤ P) (hP : P ≤ 64 * K) (hE0 : 10000 ≤ E) (hE : E ≤ 1099511627776) (hbr : Bru w) :
    Calls Tryz.prog 27 #[.slice ao n cp, .int .i64 e] w fun r w' => ∃ (cr : Array Value) (x : Nm) (c : Int), r = .returned (.tuple #[.agg cr, .agg #[.int .i64 c, .int .i64 0]]) ∧ c = (if badE e then 5 else 0) ∧ NmA w' cr x P E ∧ EqN x (if badE e then ⟨fun _ => 0, 0⟩ else mkNm l e) ∧ Ext w w' := by
  by_cases hb : badE e
  · refine (Make_bad ao n cp e w P E hb).mono ?_
    rintro r w' ⟨hr, hn, hx⟩
    exact ⟨zero9, _, 5, hr, by rw [if_pos hb], hn, by rw [if_pos hb, ext8_zero]; exact EqN.refl _, hx⟩
  · refine (Make_good ao n cp l e w hl hr hn P E K hK hP0 hP hE0 hE hb hbr).mono ?_
    rintro r w' ⟨cr, x, hr, hn, he, hx⟩
    exact ⟨cr, x, 0, hr, by rw [if_neg hb], hn, by rw [if_neg hb]; exact he, hx⟩
theorem rtx_rt : rtx (nmF nRt) = [48, 44, 48, 44, 49, 44, 48, 44, 48, 44, 48, 44, 45, 49, 47, 49] := by
  have h0 : nmF nRt 0 = 0 := by decide
  have h1 : nmF nRt 1 = 0 := by decide
  have h2 : nmF nRt 2 = 1 := by decide
  have h3 : nmF nRt 3 = 0 := by decide
  have h4 : nmF nRt 4 = 0 := by decide
  have h5 : nmF nRt 5 = 0 := by decide
  have h6 : nmF nRt 6 = -1 := by decide
  have h8 : nmF nRt 8 = 1 := by decide
  have hL : lenN (nmF nRt) 8 = 7 := by decide
  unfold rtx
  rw [hL]
  simp only [jnT]
  rw [h0, h1, h2, h3, h4, h5, h6, h8, itoa_0, itoa_1, itoa_m1]
  decide

set_option maxRecDepth 100000 in
set_option maxHeartbeats 1000000 in
theorem ringBegun_any (w : World) (hbr : Bru w) (hT : Ten w) :
    Calls Tryz.prog 8 #[] w fun e w' => e = .returned (.bool true) ∧ Ext w w' := by
  go_enter Tryz.func8, Tryz.ntmps8
  go_wp2_with fail
  refine (RRt_nm w hbr).mono ?_
  rintro e w1 ⟨cr, rfl, hcr, hx1⟩
  have HTx := Lib.hid (RText_nm cr nRt 5 1 w1 hcr 1 (by decide) (by decide) (by decide) (by decide) (tab_ext hT hx1))
  rw [rtx_rt] at HTx
  clear hcr
  go_wp2_with fail
  refine HTx.out.mono ?_
  rintro e w2 ⟨rfl, hx2⟩
  have HE := Lib.hid (hx1.trans hx2)
  have q : (([48, 44, 48, 44, 49, 44, 48, 44, 48, 44, 48, 44, 45, 49, 47, 49] : List UInt8) == [48, 44, 48, 44, 49, 44, 48, 44, 48, 44, 48, 44, 45, 49, 47, 49]) = true := by decide
  clear hx1 hx2 HTx
  go_wp2_with fail
  go_ret
  exact ⟨rfl, HE.out⟩
end Go.Proofs.YtiicfpdiehgikaaGreatDoor
namespace Go.Proofs.YtiicfpdiehgikaaGreatDoor
open Go.RowKit

set_option maxRecDepth 100000 in
set_option maxHeartbeats 4000000 in
theorem RMul_nm (ca cb : Array Value) (x y : Nm) (P1 E1 P2 E2 : Nat) (w : World) (h1 : NmA w ca x P1 E1) (h2 : NmA w cb y P2 E2) (K : Nat) (hK : K ≤ 4194304) (hP : P1 + P2 + 6 ≤ 64 * K) (hE : E1 + E2 ≤ 1099511627776) (hbr : Bru w) :
    Calls Tryz.prog 33 #[.agg ca, .agg cb] w fun e w' => ∃ (cr : Array Value) (z : Nm), e = .returned (.agg cr) ∧ NmA w' cr z (P1 + P2 + 6) (E1 + E2) ∧ EqN z (nMul x y) ∧ Ext w w' := by
  have hK1 : 1 ≤ K := by omega
  obtain ⟨f, hf⟩ : ∃ f, nmF x = f := ⟨_, rfl⟩
  obtain ⟨g, hg⟩ : ∃ g, nmF y = g := ⟨_, rfl⟩
  have hv1 := h1.val; have hv2 := h2.val
  rw [hf] at hv1; rw [hg] at hv2
  have hF1 : ∀ i, i < 8 → (f i).natAbs < 2 ^ P1 := fun i hi => by have := nmF_abs h1.abs i hi; rw [hf] at this; exact this
  have hF2 : ∀ i, i < 8 → (g i).natAbs < 2 ^ P2 := fun i hi => by have := nmF_abs h2.abs i hi; rw [hg] at this; exact this
  have hpos : 0 < 2 ^ (P1 + P2) := Nat.pow_pos (by decide)
  have hpr : ∀ i j, i < 8 → j < 8 → (f i * g j).natAbs ≤ 2 ^ (P1 + P2) - 1 := fun i j hi hj => by
    have := Nat.mul_lt_mul'' (hF1 i hi) (hF2 j hj)
    rw [← Nat.pow_add] at this
    rw [Int.natAbs_mul]
    omega
  have hab : ∀ j, j ≤ 8 → ∀ i, i < 8 → (prN f g j i).natAbs ≤ j * (8 * (2 ^ (P1 + P2) - 1)) := prN_abs f g _ hpr
  have hB : ∀ i, i < 8 → (prN f g 8 i).natAbs < 2 ^ (P1 + P2 + 6) := fun i hi => by
    have h1 := hab 8 (by decide) i hi
    rw [Nat.pow_add]
    omega
  have hbig : 64 * (2 ^ (P1 + P2) - 1) < B64 ^ K := by
    have h1 : 2 ^ (P1 + P2 + 6) ≤ 2 ^ (64 * K) := Nat.pow_le_pow_right (by decide) hP
    have h2 : B64 ^ K = 2 ^ (64 * K) := by rw [Nat.pow_mul]; rfl
    rw [Nat.pow_add] at h1
    omega
  have HB := Lib.hid hB; have HK := Lib.hid hK; have HK1 := Lib.hid hK1; have Hx := Lib.hid h1; have Hy := Lib.hid h2; have Hf := Lib.hid hf; have Hg := Lib.hid hg; have HP := Lib.hid hP; have HEE := Lib.hid hE
  have Hpr := Lib.hid hpr; have Hab := Lib.hid hab; have Hbig := Lib.hid hbig
  have HF1 := Lib.hid (show ∀ i, i < 8 → Fit K (f i) from fun i hi => fit_pow (hF1 i hi) (by omega))
  have HF2 := Lib.hid (show ∀ i, i < 8 → Fit K (g i) from fun i hi => fit_pow (hF2 i hi) (by omega))
  obtain ⟨H, hH⟩ : ∃ H, w.heap.size = H := ⟨_, rfl⟩
  obtain ⟨U, hU⟩ : ∃ U, ((((w.alloc (.cells ca 28)).alloc (.cells cb 28)).alloc (.cells zero9 28)).alloc (.cells zero8 26)) = U := ⟨_, rfl⟩
  have E0 : Ext w U := by rw [← hU]; exact (((Ext.alloc _ _).trans (Ext.alloc _ _)).trans (Ext.alloc _ _)).trans (Ext.alloc _ _)
  have N0 : Nums U H 9 28 f := by rw [← hU, ← hH]; exact (hv1.box 28).ext (((Ext.alloc _ _).trans (Ext.alloc _ _)).trans (Ext.alloc _ _))
  have N1 : Nums U (H + 1) 9 28 g := by
    have := ((hv2.ext (Ext.alloc w (.cells ca 28))).box 28).ext ((Ext.alloc _ (.cells zero9 28)).trans (Ext.alloc _ (.cells zero8 26)))
    rw [← hU, ← hH]
    simpa using this
  have Z0 : Nums U (H + 2) 9 28 (fun _ => 0) := by
    have := ((cells_zero9 ((w.alloc (.cells ca 28)).alloc (.cells cb 28))).box 28).ext (Ext.alloc _ (.cells zero8 26))
    rw [← hU, ← hH]
    simpa using this
  have R0 : Nums U (H + 3) 8 26 (prN f g 0) := by
    have := (cells_zero8 (((w.alloc (.cells ca 28)).alloc (.cells cb 28)).alloc (.cells zero9 28))).box 26
    rw [← hU, ← hH, show prN f g 0 = fun _ => 0 from rfl]
    simpa using this
  have HU := Lib.hid hU; have HH := Lib.hid hH
  have Hst := Lib.hid (show Nums U (H + 3) 8 26 (prN f g 0) ∧ Nums U (H + 2) 9 28 (fun _ => 0) ∧ Nums U H 9 28 f ∧ Nums U (H + 1) 9 28 g ∧ Ext w U from ⟨R0, Z0, N0, N1, E0⟩)
  have Hbr := Lib.hid hbr
  clear hU hH R0 Z0 N0 N1 E0 hbr hF1 hF2 hpos hpr hab hB hbig hv1 hv2 h1 h2 hf hg hK hK1 hP hE
  go_enter Tryz.func33, Tryz.ntmps33
  go_wp2_with fail
  rw [HU.out, HH.out]
  clear HU
  go_loopg [6, 7] 8 (fun kk s6 s7 wr => ∃ j : Nat, s7 = .int .i64 (j : Int) ∧ j ≤ 8 ∧ 8 - j = kk ∧ Nums wr (H + 3) 8 26 (prN f g j) ∧ Nums wr (H + 2) 9 28 (fun _ => 0) ∧ Nums wr H 9 28 f ∧ Nums wr (H + 1) 9 28 g ∧ Ext w wr)
  case atStart => exact ⟨0, rfl, by omega, by omega, Hst.out⟩
  case round =>
    clear Hst
    obtain ⟨j, rfl, hj, hjk, hN, hZ, hA, hA2, hE⟩ := hrel
    obtain ⟨wo, rfl⟩ : ∃ wo : World, wo = wr := ⟨_, rfl⟩
    by_cases hj8 : j = 8
    · subst hj8
      obtain ⟨cq, hrq, hcq⟩ := hN.cells
      have hinfq : (Tryz.prog.info? 26).map (·.size) = some cq.size := by rw [hcq.1]; exact rrow_info
      obtain ⟨s8, a8, n8, c8, l16, l17, _, _, hI8⟩ := hA.get 8 (by decide)
      obtain ⟨s7, a7, n7, c7, m16, m17, _, _, hI7⟩ := hA2.get 8 (by decide)
      have hf8 : f 8 = ((x.e : Nat) : Int) := by rw [← Hf.out]; rfl
      have hg8 : g 8 = ((y.e : Nat) : Int) := by rw [← Hg.out]; rfl
      rw [hf8] at hI8; rw [hg8] at hI7
      have lq := hN.lt; have lH := hA.lt; have lH1 := hA2.lt
      have HAd := Lib.hid (fun (wx : World) (hx : Ext wo wx) => Add_any s8 s7 a8 a7 n8 c8 n7 c7 ((x.e : Nat) : Int) ((y.e : Nat) : Int) wx (hI8.ext hx) (hI7.ext hx) K HK.out (fit_small (z := ((x.e : Nat) : Int)) (by have := Hx.out.down; have := HEE.out; omega) HK1.out) (fit_small (z := ((y.e : Nat) : Int)) (by have := Hy.out.down; have := HEE.out; omega) HK1.out))
      have HLo := Lib.hid (fun (wx : World) (hx : Ext wo wx) (s9 : Int) (a9 : Option Addr) (n9 c9 : Nat) (i9 : IsInt wx s9 a9 n9 c9 (((x.e : Nat) : Int) + ((y.e : Nat) : Int))) => rlowest_any cq s9 a9 n9 c9 (prN f g 8) (x.e + y.e) wx (hcq.ext hx) (i9.cast (by omega)) K (P1 + P2 + 6) (E1 + E2) HK.out HK1.out HP.out HEE.out HB.out (by have := Hx.out.down; have := Hy.out.down; omega) (bru_ext Hbr.out (hE.trans hx)))
      have HZ := Lib.hid hZ; have HE := Lib.hid hE
      clear hI8 hI7 hf8 hg8 hcq hN hA hA2 hZ hE HB HF1 HF2 Hpr Hab Hbig
      go_upto_region 7 with fail
      have hd0 : Ext wo wo.drew := Below.drew (Ext.refl _)
      refine wp_region_K 7 (fun w' => w'.heap[H + 3]? = some (.cells cq 26 (0, 0)) ∧ (w'.cell? ⟨H, 16, none⟩ = some (.int .i64 s8) ∧ w'.cell? ⟨H, 17, none⟩ = some (.slice a8 n8 c8)) ∧ w'.cell? ⟨H + 1, 16, none⟩ = some (.int .i64 s7) ∧ w'.cell? ⟨H + 1, 17, none⟩ = some (.slice a7 n7 c7)) (by kernel_rfl) ?_
      show anyK _ _ _ _ _ _ 8 #[false, false, false, false, false, false, false, false] _ _
      have hHeld : wo.drew.heap[H + 3]? = some (.cells cq 26 (0, 0)) ∧ (wo.drew.cell? ⟨H, 16, none⟩ = some (.int .i64 s8) ∧ wo.drew.cell? ⟨H, 17, none⟩ = some (.slice a8 n8 c8)) ∧ wo.drew.cell? ⟨H + 1, 16, none⟩ = some (.int .i64 s7) ∧ wo.drew.cell? ⟨H + 1, 17, none⟩ = some (.slice a7 n7 c7) := ⟨(hd0.block _ lq).trans hrq, ⟨cellKeep hd0 lH l16, cellKeep hd0 lH l17⟩, cellKeep hd0 lH1 m16, cellKeep hd0 lH1 m17⟩
      refine anyK_take (i := 0) (v := .agg cq) rfl (by kernel_rfl) (by kernel_rfl) (by kernel_rfl) (N := 8) (by kernel_rfl) (by kernel_rfl) (by kernel_rfl) (fun _ _ _ h => h) (Or.inl ⟨by rfl, ?_⟩) hHeld ?_
      · intro w hSw
        exact exec_load_row 26 _ rfl (H + 3) rfl 26 _ (0, 0) _ hSw.1 Tryz.underlying26 rfl hinfq
      show anyK _ _ _ _ _ _ _ _ (Act.put _ (some 18) _) _
      simp only [Act.put, List.setIfInBounds_toArray, List.set_cons_zero, List.set_cons_succ]
      refine anyK_take (i := 1) (v := ?_) rfl (by kernel_rfl) (by kernel_rfl) (by kernel_rfl) (N := 8) (by kernel_rfl) (by kernel_rfl) (by kernel_rfl) (fun _ _ _ h => h) (Or.inl ⟨by rfl, ?_⟩) hHeld ?_
      rotate_left 1
      · intro w hSw
        go_simp
        try with_reducible rfl
      show anyK _ _ _ _ _ _ _ _ (Act.put _ (some 19) _) _
      simp only [Act.put, List.setIfInBounds_toArray, List.set_cons_zero, List.set_cons_succ]
      refine anyK_take (i := 2) (v := ?_) rfl (by kernel_rfl) (by kernel_rfl) (by kernel_rfl) (N := 8) (by kernel_rfl) (by kernel_rfl) (by kernel_rfl) (fun _ _ _ h => h) (Or.inl ⟨by rfl, ?_⟩) hHeld ?_
      rotate_left 1
      · intro w hSw
        go_simp
        try with_reducible rfl
      show anyK _ _ _ _ _ _ _ _ (Act.put _ (some 20) _) _
      simp only [Act.put, List.setIfInBounds_toArray, List.set_cons_zero, List.set_cons_succ]
      refine anyK_take (i := 3) (v := ?_) rfl (by kernel_rfl) (by kernel_rfl) (by kernel_rfl) (N := 8) (by kernel_rfl) (by kernel_rfl) (by kernel_rfl) (fun _ _ _ h => h) (Or.inl ⟨by rfl, ?_⟩) hHeld ?_
      rotate_left 1
      · intro w hSw
        go_simp
        try with_reducible rfl
      show anyK _ _ _ _ _ _ _ _ (Act.put _ (some 21) _) _
      simp only [Act.put, List.setIfInBounds_toArray, List.set_cons_zero, List.set_cons_succ]
      refine anyK_take (i := 4) (v := ?_) rfl (by kernel_rfl) (by kernel_rfl) (by kernel_rfl) (N := 8) (by kernel_rfl) (by kernel_rfl) (by kernel_rfl) (fun _ _ _ h => h) (Or.inl ⟨by rfl, ?_⟩) hHeld ?_
      rotate_left 1
      · intro w hSw
        go_simp
        try with_reducible rfl
      show anyK _ _ _ _ _ _ _ _ (Act.put _ (some 22) _) _
      simp only [Act.put, List.setIfInBounds_toArray, List.set_cons_zero, List.set_cons_succ]
      clear hHeld
      refine anyK_one (i := 5) (by kernel_rfl) rfl (fun Kk hKk => ?_)
      go_simp
      (go_at_call 72; refine (HAd.out _ hd0).mono ?_; rintro e w2 ⟨s9, a9, n9, c9, rfl, i9, hxx⟩)
      have he2 := hd0.trans hxx
      go_wp2_with fail
      refine hKk.out _ _ (fun _ => ⟨(he2.block _ lq).trans hrq, ⟨cellKeep he2 lH l16, cellKeep he2 lH l17⟩, cellKeep he2 lH1 m16, cellKeep he2 lH1 m17⟩) ?_
      clear hKk Kk hxx
      simp only [List.setIfInBounds_toArray, List.set_cons_zero, List.set_cons_succ]
      refine anyK_one (i := 6) (by kernel_rfl) rfl (fun Kk hKk => ?_)
      go_simp
      (go_at_call 76; refine (HLo.out w2 he2 s9 a9 n9 c9 i9).mono ?_; rintro e w3 ⟨cr, z, rfl, hcr, hy, hxx⟩)
      have he3 := he2.trans hxx
      go_wp2_with fail
      refine hKk.out _ _ (fun _ => ⟨(he3.block _ lq).trans hrq, ⟨cellKeep he3 lH l16, cellKeep he3 lH l17⟩, cellKeep he3 lH1 m16, cellKeep he3 lH1 m17⟩) ?_
      clear hKk Kk hxx
      simp only [List.setIfInBounds_toArray, List.set_cons_zero, List.set_cons_succ]
      obtain ⟨c1, hr1, hs1, hone, hinf, rr, hnm, hE'⟩ := fin_num hcr (HZ.out.ext he3) (HE.out.trans he3) (by rw [HH.out]; omega)
      have heq : EqN z (nMul x y) := by
        have e1 : ext8 (prN f g 8) = mulR x.a y.a := by rw [ext8_prN, ← Hf.out, ← Hg.out, ext8_nmF Hx.out.anti, ext8_nmF Hy.out.anti]
        rw [e1] at hy
        exact hy
      have Hend := Lib.hid (show NmA (w3.setRow (H + 2) cr) cr z (P1 + P2 + 6) (E1 + E2) ∧ EqN z (nMul x y) ∧ Ext w (w3.setRow (H + 2) cr) from ⟨hnm, heq, hE'⟩)
      clear hnm heq hE' hcr hy
      refine anyK_one (i := 7) (by kernel_rfl) rfl (fun Kk hKk => ?_)
      refine stepK_storeR rfl rfl 28 _ _ rfl (H + 2) cr rfl rfl 28 _ hr1 hinf hs1 hone ?_
      refine hKk.out _ _ (fun h => Bool.noConfusion (show true = false from h)) ?_
      clear hKk Kk
      simp only [List.setIfInBounds_toArray, List.set_cons_zero, List.set_cons_succ]
      refine anyK_done (by kernel_rfl) ?_ _
      go_wp2_with fail
      refine bodyPost_ret (v := .agg cr) ?_ rfl ⟨_, _, rfl, Hend.out⟩
      exact results_cell_row rfl _ _ (H + 2) _ _ _ _ rfl rr Tryz.underlying28 rfl hinf
    have hlt : j < 8 := by omega
    have q1 : (j : Int) < 8 := by omega
    have q0 : (0 : Int) ≤ (j : Int) := by omega
    obtain ⟨s1, a1, n1, c1, y0, y1, _, _, hI1⟩ := hA.get j (by omega)
    have wk : IntKind.i64.wrap ((j : Int) + 1) = ((j + 1 : Nat) : Int) := by rw [IntKind.wrap_i64]; omega
    have HAd := Lib.hid (rowAddProduct_any (H + 3) 8 26 (prN f g j) (j : Int) s1 a1 n1 c1 (f j) (H + 1) 9 28 g wo hN (by decide) hI1 hA2 (by decide) (by omega) K (j * (8 * (2 ^ (P1 + P2) - 1))) (2 ^ (P1 + P2) - 1) HK.out (HF1.out j hlt) HF2.out (Hab.out j hj) (fun i hi => Hpr.out j i hlt hi) (by
      have h1 := Hbig.out
      have h2 : j * (8 * (2 ^ (P1 + P2) - 1)) ≤ 7 * (8 * (2 ^ (P1 + P2) - 1)) := Nat.mul_le_mul_right _ (by omega)
      omega))
    have Hj1 := Lib.hid (show j + 1 ≤ 8 by omega)
    have HZ := Lib.hid hZ; have HA := Lib.hid hA; have HA2 := Lib.hid hA2; have HE := Lib.hid hE; have Hjk := Lib.hid hjk
    clear hI1 hN hZ hA hA2 hE hjk hj8 hj hlt
    go_wp2_with fail
    refine HAd.out.mono ?_
    rintro e w2 ⟨rfl, hN2, hC2⟩
    have Hend := Lib.hid (show Nums w2 (H + 3) 8 26 (prN f g (j + 1)) ∧ Nums w2 (H + 2) 9 28 (fun _ => 0) ∧ Nums w2 H 9 28 f ∧ Nums w2 (H + 1) 9 28 g ∧ Ext w w2 from
      ⟨hN2, HZ.out.chg hC2 (by omega), HA.out.chg hC2 (by omega), HA2.out.chg hC2 (by omega), hC2.ext HE.out (by rw [HH.out]; omega)⟩)
    clear hN2 hC2 HAd HZ HA HA2 HE y0 y1
    go_wp2_with fail
    go_roundg (8 - (j + 1))
    case measure => have := Hjk.out; have := Hj1.out; omega
    case rel => exact ⟨j + 1, rfl, Hj1.out, rfl, Hend.out⟩
end Go.Proofs.YtiicfpdiehgikaaGreatDoor
namespace Go.Proofs.YtiicfpdiehgikaaGreatDoor
open Go.RowKit

/-- What Add has made as far as the j-th. -/
def adN (f g : Nat → Int) : Nat → Nat → Int
  | 0 => f
  | j + 1 => addN (adN f g j) j (g j)
theorem ext8_adN (f g : Nat → Int) : ext8 (adN f g 8) = addR (ext8 f) (ext8 g) := by
  have hs := sum_monos (anti_ext8 g) 0
  have e : ∀ i : Nat, i < 8 → ext8 g (i : Int) = g i := fun i hi => by rw [ext8_at g i (by omega) (by omega)]; rfl
  funext x
  have h2 := congrFun hs x
  simp only [trR, Int.sub_zero, Int.add_zero] at h2
  simp only [addR]
  rw [← h2]
  simp only [adN, ext8_add, addR, sum8]
  have e0 := e 0 (by omega); have e1 := e 1 (by omega); have e2 := e 2 (by omega); have e3 := e 3 (by omega); have e4 := e 4 (by omega); have e5 := e 5 (by omega); have e6 := e 6 (by omega); have e7 := e 7 (by omega)
  simp only [Int.cast_ofNat_Int] at e0 e1 e2 e3 e4 e5 e6 e7 ⊢
  rw [e0, e1, e2, e3, e4, e5, e6, e7]
  omega
theorem adN_down (f g : Nat → Int) : ∀ j, adN f g j 8 = f 8
  | 0 => rfl
  | j + 1 => by simp only [adN]; rw [addN_far]; exact adN_down f g j
theorem adN_abs (f g : Nat → Int) (A B : Nat) (hA : ∀ i, i < 8 → (f i).natAbs ≤ A) (hB : ∀ i, i < 8 → (g i).natAbs ≤ B) : ∀ j, j ≤ 8 → ∀ i, i < 8 → (adN f g j i).natAbs ≤ A + j * B
  | 0, _, i, hi => by have := hA i hi; simp only [adN]; omega
  | j + 1, hj, i, hi => by
    have := addN_abs (adN f g j) j (g j) (A + j * B) B (adN_abs f g A B hA hB j (by omega)) (hB j (by omega)) i hi
    simp only [adN]; rw [Nat.succ_mul]; omega
theorem cmp3_le {x y : Int} (h : y ≤ x) : ¬ cmp3 x y < 0 := by unfold cmp3; rw [if_neg (by omega)]; split <;> decide

set_option maxRecDepth 100000 in
set_option maxHeartbeats 4000000 in
theorem RAdd_ge (ca cb : Array Value) (x y : Nm) (P1 E1 P2 E2 : Nat) (w : World) (h1 : NmA w ca x P1 E1) (h2 : NmA w cb y P2 E2) (hle : y.e ≤ x.e) (K : Nat) (hK : K ≤ 4194304) (hP : P1 + P2 + E1 + 4 ≤ 64 * K) (hE : E1 ≤ 1099511627776) (hbr : Bru w) :
    Calls Tryz.prog 29 #[.agg ca, .agg cb] w fun e w' => ∃ (cr : Array Value) (z : Nm), e = .returned (.agg cr) ∧ NmA w' cr z (P1 + P2 + E1 + 4) E1 ∧ EqN z (nAdd x y) ∧ Ext w w' := by
  have hK1 : 1 ≤ K := by omega
  obtain ⟨f, hf⟩ : ∃ f, nmF x = f := ⟨_, rfl⟩
  obtain ⟨g, hg⟩ : ∃ g, nmF y = g := ⟨_, rfl⟩
  have hv1 := h1.val; have hv2 := h2.val
  rw [hf] at hv1; rw [hg] at hv2
  have hF1 : ∀ i, i < 8 → (f i).natAbs < 2 ^ P1 := fun i hi => by have := nmF_abs h1.abs i hi; rw [hf] at this; exact this
  have hF2 : ∀ i, i < 8 → (g i).natAbs < 2 ^ P2 := fun i hi => by have := nmF_abs h2.abs i hi; rw [hg] at this; exact this
  obtain ⟨ap, hap⟩ : ∃ ap, x.e - y.e = ap := ⟨_, rfl⟩
  obtain ⟨V, hV⟩ : ∃ V : Nat → Int, V = fun i => g i * ((2 ^ ap : Nat) : Int) := ⟨_, rfl⟩
  have hVV : ∀ i, V i = g i * ((2 ^ ap : Nat) : Int) := fun i => by rw [hV]
  have hdx := h1.down
  have hFV : ∀ i, i < 8 → (V i).natAbs < 2 ^ (P2 + E1) := fun i hi => by
    rw [hVV, Int.natAbs_mul, Int.natAbs_natCast]
    have h4 : 2 ^ ap ≤ 2 ^ E1 := Nat.pow_le_pow_right (by decide) (by omega)
    have h5 : 0 < 2 ^ ap := Nat.pow_pos (by decide)
    have h6 := Nat.mul_lt_mul_of_lt_of_le (hF2 i hi) h4 (Nat.pow_pos (by decide))
    rw [← Nat.pow_add] at h6
    exact h6
  have hB : ∀ j, j ≤ 8 → ∀ i, i < 8 → (adN f V j i).natAbs < 2 ^ (P1 + P2 + E1 + 4) := fun j hj i hi => by
    have p1 : 0 < 2 ^ P1 := Nat.pow_pos (by decide)
    have p2 : 0 < 2 ^ (P2 + E1) := Nat.pow_pos (by decide)
    have h5 := adN_abs f V (2 ^ P1 - 1) (2 ^ (P2 + E1) - 1) (fun i hi => by have := hF1 i hi; omega) (fun i hi => by have := hFV i hi; omega) j hj i hi
    have h6 : j * (2 ^ (P2 + E1) - 1) ≤ 8 * (2 ^ (P2 + E1) - 1) := Nat.mul_le_mul_right _ hj
    have h7 : 2 ^ P1 ≤ 2 ^ (P1 + P2 + E1) := Nat.pow_le_pow_right (by decide) (by omega)
    have h8 : 2 ^ (P2 + E1) ≤ 2 ^ (P1 + P2 + E1) := Nat.pow_le_pow_right (by decide) (by omega)
    rw [Nat.pow_add 2 (P1 + P2 + E1) 4]
    omega
  have HB := Lib.hid hB; have HK := Lib.hid hK; have HK1 := Lib.hid hK1; have Hx := Lib.hid h1; have Hy := Lib.hid h2; have Hf := Lib.hid hf; have Hg := Lib.hid hg; have HP := Lib.hid hP; have HEE := Lib.hid hE; have Hle := Lib.hid hle; have Hap := Lib.hid hap; have HVV := Lib.hid hVV; have Hdx := Lib.hid hdx
  have HF1 := Lib.hid (show ∀ i, i < 8 → Fit K (f i) from fun i hi => fit_pow (hF1 i hi) (by omega))
  have HF2 := Lib.hid (show ∀ i, i < 8 → Fit K (g i) from fun i hi => fit_pow (hF2 i hi) (by omega))
  have HFV := Lib.hid (show ∀ i, i < 8 → Fit K (V i) from fun i hi => fit_pow (hFV i hi) (by omega))
  have HFA := Lib.hid (show ∀ j, j ≤ 8 → ∀ i, i < 8 → Fit K (adN f V j i) from fun j hj i hi => fit_pow (hB j hj i hi) hP)
  obtain ⟨H, hH⟩ : ∃ H, w.heap.size = H := ⟨_, rfl⟩
  obtain ⟨U, hU⟩ : ∃ U, (((w.alloc (.cells ca 28)).alloc (.cells cb 28)).alloc (.cells zero9 28)) = U := ⟨_, rfl⟩
  have E0 : Ext w U := by rw [← hU]; exact ((Ext.alloc _ _).trans (Ext.alloc _ _)).trans (Ext.alloc _ _)
  have N0 : Nums U H 9 28 f := by rw [← hU, ← hH]; exact (hv1.box 28).ext ((Ext.alloc _ _).trans (Ext.alloc _ _))
  have N1 : Nums U (H + 1) 9 28 g := by
    have := ((hv2.ext (Ext.alloc w (.cells ca 28))).box 28).ext (Ext.alloc _ (.cells zero9 28))
    rw [← hU, ← hH]
    simpa using this
  have Z0 : Nums U (H + 2) 9 28 (fun _ => 0) := by
    have := (cells_zero9 ((w.alloc (.cells ca 28)).alloc (.cells cb 28))).box 28
    rw [← hU, ← hH]
    simpa using this
  obtain ⟨s8, a8, n8, c8, l16, l17, _, _, hI8⟩ := N0.get 8 (by decide)
  obtain ⟨s7, a7, n7, c7, m16, m17, _, _, hI7⟩ := N1.get 8 (by decide)
  have hf8 : f 8 = ((x.e : Nat) : Int) := by rw [← hf]; rfl
  have hg8 : g 8 = ((y.e : Nat) : Int) := by rw [← hg]; rfl
  rw [hf8] at hI8; rw [hg8] at hI7
  have HI8 := Lib.hid hI8; have HI7 := Lib.hid hI7
  have Hfx := Lib.hid (show Fit K ((x.e : Nat) : Int) from fit_small (z := ((x.e : Nat) : Int)) (by omega) hK1)
  have Hfy := Lib.hid (show Fit K ((y.e : Nat) : Int) from fit_small (z := ((y.e : Nat) : Int)) (by omega) hK1)
  obtain ⟨k, hk⟩ : ∃ k, cmp3 ((x.e : Nat) : Int) ((y.e : Nat) : Int) = k := ⟨_, rfl⟩
  have b1 : ¬ k < 0 := by rw [← hk]; exact cmp3_le (by omega)
  have HC := Lib.hid (CmpK_is k hI8 hI7 K hK Hfx.out Hfy.out hk)
  have HgH : Hid (∀ q, H ≤ q → Tryz.lays29_ren.g 1 ≠ q) := Lib.hid (by
    intro q hq e
    have h1 := hbr 0 (by decide)
    rw [← hH] at hq
    have hn : w.heap[q]? = none := Array.getElem?_eq_none (by omega)
    simp [World.cell?, e, hn] at h1)
  have HU := Lib.hid hU; have HH := Lib.hid hH; have HN0 := Lib.hid N0; have HN1 := Lib.hid N1; have HZ0 := Lib.hid Z0; have HE0 := Lib.hid E0; have Hbr := Lib.hid hbr
  have lH := N0.lt; have lH1 := N1.lt
  clear hU hH Z0 N0 N1 E0 hbr hF1 hF2 hFV hB hv1 hv2 h1 h2 hf hg hK hK1 hP hE hap hV hVV hle hdx hI8 hI7 hf8 hg8 hk
  go_enter Tryz.func29, Tryz.ntmps29
  go_upto_region 1 with fail
  rw [HU.out, HH.out]
  clear HU
  go_wp2_with fail
  refine HC.out.mono ?_
  rintro e w1 ⟨rfl, hx1⟩
  have n16 := cellKeep hx1 lH l16; have n17 := cellKeep hx1 lH l17; have o16 := cellKeep hx1 lH1 m16; have o17 := cellKeep hx1 lH1 m17
  have HN1' := Lib.hid (HN0.out.ext hx1); have HM1 := Lib.hid (HN1.out.ext hx1); have HZ1 := Lib.hid (HZ0.out.ext hx1); have HE1 := Lib.hid (HE0.out.trans hx1)
  have HS := Lib.hid (Sub_any s8 s7 a8 a7 n8 c8 n7 c7 _ _ w1 (HI8.out.ext hx1) (HI7.out.ext hx1) K HK.out Hfx.out Hfy.out)
  clear hx1 l16 l17 m16 m17 lH lH1 HN0 HN1 HZ0 HE0 HC HI8 HI7
  go_wp2_with fail
  clear b1 n16 n17 o16 o17
  refine HS.out.mono ?_
  rintro e w2 ⟨s9, a9, n9, c9, rfl, hI9, hx2⟩
  have HN2 := Lib.hid (HN1'.out.ext hx2); have HM2 := Lib.hid (HM1.out.ext hx2); have HZ2 := Lib.hid (HZ1.out.ext hx2); have HE2 := Lib.hid (HE1.out.trans hx2)
  have hI9' := hI9.cast (show ((x.e : Nat) : Int) - ((y.e : Nat) : Int) = (ap : Int) by have := Hle.out; have := Hap.out; omega)
  have HSm := Lib.hid (Small_any s9 a9 n9 c9 (ap : Int) w2 hI9')
  have Hapb := Lib.hid (show ap ≤ 1099511627776 by have := Hap.out; have := Hdx.out; have := HEE.out; omega)
  rw [if_pos (by have := Hapb.out; omega)] at HSm
  clear hx2 hI9 hI9' HN1' HM1 HZ1 HE1 HS
  go_wp2_with fail
  refine HSm.out.mono ?_
  rintro e w3 ⟨rfl, hx3⟩
  have HN3 := Lib.hid (HN2.out.ext hx3); have HM3 := Lib.hid (HM2.out.ext hx3); have HZ3 := Lib.hid (HZ2.out.ext hx3); have HE3 := Lib.hid (HE2.out.trans hx3)
  clear hx3 HN2 HM2 HZ2 HE2 HSm
  have HSh := Lib.hid (rowShift_any (H + 1) 9 28 g V (ap : Int) w3 HM3.out (by decide) K HK.out HK1.out HF2.out HFV.out (by omega) (by have := Hapb.out; omega) (fun i hi => Or.inl ⟨by omega, by rw [HVV.out]; rfl⟩) (bru_ext Hbr.out HE3.out) (HgH.out (H + 1) (by omega)))
  go_wp2_with fail
  refine HSh.out.mono ?_
  rintro e w4 ⟨rfl, hM4, hC4⟩
  have Hst := Lib.hid (show Nums w4 H 9 28 (adN f V 0) ∧ Nums w4 (H + 1) 9 28 (shN g V 8) ∧ Nums w4 (H + 2) 9 28 (fun _ => 0) ∧ Ext w w4 from
    ⟨HN3.out.chg hC4 (by omega), hM4, HZ3.out.chg hC4 (by omega), hC4.ext HE3.out (by rw [HH.out]; omega)⟩)
  clear hM4 hC4 HN3 HM3 HZ3 HE3 HSh
  go_wp2_with fail
  go_loopg [7, 29] 8 (fun kk s7 s29 wr => ∃ j : Nat, s29 = .int .i64 (j : Int) ∧ j ≤ 8 ∧ 8 - j = kk ∧ Nums wr H 9 28 (adN f V j) ∧ Nums wr (H + 1) 9 28 (shN g V 8) ∧ Nums wr (H + 2) 9 28 (fun _ => 0) ∧ Ext w wr)
  case atStart => exact ⟨0, rfl, by omega, by omega, Hst.out⟩
  case round =>
    clear Hst
    obtain ⟨j, rfl, hj, hjk, hN, hM, hZ, hE⟩ := hrel
    obtain ⟨wo, rfl⟩ : ∃ wo : World, wo = wr := ⟨_, rfl⟩
    by_cases hj8 : j = 8
    · subst hj8
      obtain ⟨c9', hr9, hc9⟩ := hN.cells
      have hrow := hc9.row8 (by decide)
      have hrg := range8 hr9
      obtain ⟨cl, hcl⟩ : ∃ cl, c9'.toList.take 16 = cl := ⟨_, rfl⟩
      rw [hcl] at hrow hrg
      have hlen : cl.length = 16 := by simpa using hrow.1
      have hinfq : (Tryz.prog.info? 26).map (·.size) = some cl.length := by rw [hlen]; exact rrow_info
      obtain ⟨t8, b8, u8, d8, l16, l17, _, _, hI8⟩ := hN.get 8 (by decide)
      rw [adN_down, ← Hf.out] at hI8
      have hI8' : IsInt wo t8 b8 u8 d8 ((x.e : Nat) : Int) := hI8
      have HLo := Lib.hid (rlowest_any cl.toArray t8 b8 u8 d8 (adN f V 8) x.e wo hrow hI8' K (P1 + P2 + E1 + 4) E1 HK.out HK1.out HP.out HEE.out (HB.out 8 (by decide)) Hdx.out (bru_ext Hbr.out hE))
      have HZ := Lib.hid hZ; have HE := Lib.hid hE
      clear hI8 hI8' hrow hc9 hN hM hZ hE HB HF1 HF2 HFV HFA hr9
      go_wp2_with (refine wpList_load_mid rfl 26 _ rfl H 0 rfl cl _ hrg Tryz.underlying26 rfl hinfq ?_)
      refine HLo.out.mono ?_
      rintro e w3 ⟨cr, z, rfl, hcr, hy, he3⟩
      obtain ⟨c1, hr1, hs1, hone, hinf, rr, hnm, hE'⟩ := fin_num hcr (HZ.out.ext he3) (HE.out.trans he3) (by rw [HH.out]; omega)
      have heq : EqN z (nAdd x y) := by
        have e1 : ext8 (adN f V 8) = addR x.a (fun k => y.a k * 2 ^ (x.e - y.e)) := by
          rw [ext8_adN, ← Hf.out, ext8_nmF Hx.out.anti]
          congr 1
          funext k
          rw [ext8_scale (V := g) (c := 2 ^ ap) (fun i _ => by rw [HVV.out, Int.natCast_pow]; rfl) k, ← Hg.out, ext8_nmF Hy.out.anti, Hap.out]
        rw [e1] at hy
        exact hy.trans (n_add_over Hle.out)
      have Hend := Lib.hid (show NmA (w3.setRow (H + 2) cr) cr z (P1 + P2 + E1 + 4) E1 ∧ EqN z (nAdd x y) ∧ Ext w (w3.setRow (H + 2) cr) from ⟨hnm, heq, hE'⟩)
      clear hnm heq hE' hcr hy he3 HLo HZ HE hrg l16 l17
      go_wp2_with (refine wpList_store_row rfl 28 _ _ rfl (H + 2) cr rfl rfl 28 _ hr1 hinf hs1 hone ?_)
      refine bodyPost_ret (v := .agg cr) ?_ rfl ⟨_, _, rfl, Hend.out⟩
      exact results_cell_row rfl _ _ (H + 2) _ _ _ _ rfl rr Tryz.underlying28 rfl hinf
    have hlt : j < 8 := by omega
    have q1 : (j : Int) < 8 := by omega
    have q0 : (0 : Int) ≤ (j : Int) := by omega
    obtain ⟨s1, a1, n1, c1, y0, y1, _, _, hI1⟩ := hM.get j (by omega)
    have hI1' := hI1.cast (show shN g V 8 j = V j by unfold shN; rw [if_pos hlt])
    have wk : IntKind.i64.wrap ((j : Int) + 1) = ((j + 1 : Nat) : Int) := by rw [IntKind.wrap_i64]; omega
    have HAd := Lib.hid (rowAdd_any H 9 28 (adN f V j) (j : Int) s1 a1 n1 c1 (V j) wo hN (by decide) hI1' K HK.out (HFV.out j hlt) (HFA.out j hj))
    have Hj1 := Lib.hid (show j + 1 ≤ 8 by omega)
    have HZ := Lib.hid hZ; have HM := Lib.hid hM; have HE := Lib.hid hE; have Hjk := Lib.hid hjk
    clear hI1 hI1' hN hZ hM hE hjk hj8 hj hlt
    go_wp2_with fail
    refine HAd.out.mono ?_
    rintro e w2 ⟨rfl, hN2, hC2⟩
    have Hend := Lib.hid (show Nums w2 H 9 28 (adN f V (j + 1)) ∧ Nums w2 (H + 1) 9 28 (shN g V 8) ∧ Nums w2 (H + 2) 9 28 (fun _ => 0) ∧ Ext w w2 from
      ⟨hN2, HM.out.chg hC2 (by omega), HZ.out.chg hC2 (by omega), hC2.ext HE.out (by rw [HH.out]; exact Nat.le_refl _)⟩)
    clear hN2 hC2 HAd HZ HM HE y0 y1
    go_wp2_with fail
    go_roundg (8 - (j + 1))
    case measure => have := Hjk.out; have := Hj1.out; omega
    case rel => exact ⟨j + 1, rfl, Hj1.out, rfl, Hend.out⟩

set_option maxRecDepth 100000 in
set_option maxHeartbeats 4000000 in
theorem RAdd_nm (ca cb : Array Value) (x y : Nm) (P1 E1 P2 E2 : Nat) (w : World) (h1 : NmA w ca x P1 E1) (h2 : NmA w cb y P2 E2) (K : Nat) (hK : K ≤ 4194304) (hP : P1 + P2 + E1 + E2 + 4 ≤ 64 * K) (_hE : E1 + E2 ≤ 1099511627776) (hbr : Bru w) :
    Calls Tryz.prog 29 #[.agg ca, .agg cb] w fun e w' => ∃ (cr : Array Value) (z : Nm), e = .returned (.agg cr) ∧ NmA w' cr z (P1 + P2 + E1 + E2 + 4) (E1 + E2) ∧ EqN z (nAdd x y) ∧ Ext w w' := by
  by_cases hle : y.e ≤ x.e
  · refine (RAdd_ge ca cb x y P1 E1 P2 E2 w h1 h2 hle K hK (by omega) (by omega) hbr).mono ?_
    rintro e w' ⟨cr, z, he, hn, hq, hx⟩
    exact ⟨cr, z, he, hn.le (by omega) (by omega), hq, hx⟩
  have hK1 : 1 ≤ K := by omega
  have hv1 := h1.val; have hv2 := h2.val
  obtain ⟨H, hH⟩ : ∃ H, w.heap.size = H := ⟨_, rfl⟩
  obtain ⟨U, hU⟩ : ∃ U, (((w.alloc (.cells ca 28)).alloc (.cells cb 28)).alloc (.cells zero9 28)) = U := ⟨_, rfl⟩
  have E0 : Ext w U := by rw [← hU]; exact ((Ext.alloc _ _).trans (Ext.alloc _ _)).trans (Ext.alloc _ _)
  have N0 : U.heap[H]? = some (.cells ca 28 (0, 0)) := by rw [← hU, ← hH]; exact (((Ext.alloc _ _).trans (Ext.alloc _ _)).block _ (Array.getElem?_eq_some_iff.1 (heap_alloc_new w (.cells ca 28))).1).trans (heap_alloc_new w _)
  have N1 : U.heap[H + 1]? = some (.cells cb 28 (0, 0)) := by
    have h3 := heap_alloc_new (w.alloc (.cells ca 28)) (.cells cb 28)
    have h4 := ((Ext.alloc ((w.alloc (.cells ca 28)).alloc (.cells cb 28)) (.cells zero9 28)).block _ (Array.getElem?_eq_some_iff.1 h3).1).trans h3
    rw [← hU, ← hH]
    simpa using h4
  have Z0 : Nums U (H + 2) 9 28 (fun _ => 0) := by
    have := (cells_zero9 ((w.alloc (.cells ca 28)).alloc (.cells cb 28))).box 28
    rw [← hU, ← hH]
    simpa using this
  have HN0 := Lib.hid N0; have HN1 := Lib.hid N1
  obtain ⟨s8, a8, n8, c8, l16, l17, _, _, hI8⟩ := ((hv1.ext E0).nums N0).get 8 (by decide)
  obtain ⟨s7, a7, n7, c7, m16, m17, _, _, hI7⟩ := ((hv2.ext E0).nums N1).get 8 (by decide)
  have hI8' : IsInt U s8 a8 n8 c8 ((x.e : Nat) : Int) := hI8
  have hI7' : IsInt U s7 a7 n7 c7 ((y.e : Nat) : Int) := hI7
  have hdx := h1.down; have hdy := h2.down
  have HC := Lib.hid (CmpK_is (-1) hI8' hI7' K hK (fit_small (z := ((x.e : Nat) : Int)) (by omega) hK1) (fit_small (z := ((y.e : Nat) : Int)) (by omega) hK1) (cmp3_lt (by omega)))
  have HAd := Lib.hid (fun (wx : World) (hx : Ext w wx) => RAdd_ge cb ca y x P2 E2 P1 E1 wx (h2.ext hx) (h1.ext hx) (by omega) K hK (by omega) (by omega) (bru_ext hbr hx))
  have hi1 := h1.info; have hi2 := h2.info
  have HU := Lib.hid hU; have HH := Lib.hid hH; have HZ0 := Lib.hid Z0; have HE0 := Lib.hid E0; have Hbr := Lib.hid hbr
  clear hU hH Z0 N0 N1 E0 hbr hv1 hv2 h1 h2 hK hK1 hP _hE hle hdx hdy hI8 hI7 hI8' hI7'
  have b1 : (-1 : Int) < 0 := by decide
  go_enter Tryz.func29, Tryz.ntmps29
  go_upto_region 1 with fail
  rw [HU.out, HH.out]
  clear HU
  go_wp2_with fail
  refine HC.out.mono ?_
  rintro e w1 ⟨rfl, hx1⟩
  have hrA : w1.heap[H]? = some (.cells ca 28 (0, 0)) := (hx1.block _ (Array.getElem?_eq_some_iff.1 HN0.out).1).trans HN0.out
  have hrB : w1.heap[H + 1]? = some (.cells cb 28 (0, 0)) := (hx1.block _ (Array.getElem?_eq_some_iff.1 HN1.out).1).trans HN1.out
  have HZ1 := Lib.hid (HZ0.out.ext hx1); have HE1 := Lib.hid (HE0.out.trans hx1)
  clear hx1 l16 l17 m16 m17 HZ0 HE0 HC HN0 HN1
  go_wp2_with (first
    | refine wpList_load_row rfl 28 _ rfl (H + 1) rfl 28 _ (0, 0) _ hrB Tryz.underlying28 rfl hi2 ?_
    | refine wpList_load_row rfl 28 _ rfl H rfl 28 _ (0, 0) _ hrA Tryz.underlying28 rfl hi1 ?_)
  refine (HAd.out w1 HE1.out).mono ?_
  rintro e w2 ⟨cr, z, rfl, hcr, hy, he3⟩
  obtain ⟨c1, hr1, hs1, hone, hinf, rr, hnm, hE'⟩ := fin_num hcr (HZ1.out.ext he3) (HE1.out.trans he3) (by rw [HH.out]; omega)
  have heq : EqN z (nAdd x y) := by rw [nAdd_comm]; exact hy
  have Hend := Lib.hid (show NmA (w2.setRow (H + 2) cr) cr z (P1 + P2 + E1 + E2 + 4) (E1 + E2) ∧ EqN z (nAdd x y) ∧ Ext w (w2.setRow (H + 2) cr) from ⟨hnm.le (by omega) (by omega), heq, hE'⟩)
  clear hnm heq hE' hcr hy he3 HZ1 HE1 hrA hrB HAd
  go_wp2_with (refine wpList_store_row rfl 28 _ _ rfl (H + 2) cr rfl rfl 28 _ hr1 hinf hs1 hone ?_)
  refine bodyPost_ret (v := .agg cr) ?_ rfl ⟨_, _, rfl, Hend.out⟩
  exact results_cell_row rfl _ _ (H + 2) _ _ _ _ rfl rr Tryz.underlying28 rfl hinf
end Go.Proofs.YtiicfpdiehgikaaGreatDoor
namespace Go.Proofs.YtiicfpdiehgikaaGreatDoor
open Go.RowKit

set_option maxRecDepth 100000 in
set_option maxHeartbeats 4000000 in
theorem RSub_nm (ca cb : Array Value) (x y : Nm) (P1 E1 P2 E2 : Nat) (w : World) (h1 : NmA w ca x P1 E1) (h2 : NmA w cb y P2 E2) (K : Nat) (hK : K ≤ 4194304) (hP : P1 + P2 + E1 + E2 + 4 ≤ 64 * K) (hE : E1 + E2 ≤ 1099511627776) (hbr : Bru w) :
    Calls Tryz.prog 31 #[.agg ca, .agg cb] w fun e w' => ∃ (cr : Array Value) (z : Nm), e = .returned (.agg cr) ∧ NmA w' cr z (P1 + P2 + E1 + E2 + 4) (E1 + E2) ∧ EqN z (nAdd x (nNeg y)) ∧ Ext w w' := by
  obtain ⟨H, hH⟩ : ∃ H, w.heap.size = H := ⟨_, rfl⟩
  obtain ⟨U, hU⟩ : ∃ U, (((w.alloc (.cells ca 28)).alloc (.cells cb 28)).alloc (.cells zero9 28)) = U := ⟨_, rfl⟩
  have E0 : Ext w U := by rw [← hU]; exact ((Ext.alloc _ _).trans (Ext.alloc _ _)).trans (Ext.alloc _ _)
  have hrA : U.heap[H]? = some (.cells ca 28 (0, 0)) := by rw [← hU, ← hH]; exact (((Ext.alloc _ _).trans (Ext.alloc _ _)).block _ (Array.getElem?_eq_some_iff.1 (heap_alloc_new w (.cells ca 28))).1).trans (heap_alloc_new w _)
  have hrB : U.heap[H + 1]? = some (.cells cb 28 (0, 0)) := by
    have h3 := heap_alloc_new (w.alloc (.cells ca 28)) (.cells cb 28)
    have h4 := ((Ext.alloc ((w.alloc (.cells ca 28)).alloc (.cells cb 28)) (.cells zero9 28)).block _ (Array.getElem?_eq_some_iff.1 h3).1).trans h3
    rw [← hU, ← hH]
    simpa using h4
  have Z0 : Nums U (H + 2) 9 28 (fun _ => 0) := by
    have := (cells_zero9 ((w.alloc (.cells ca 28)).alloc (.cells cb 28))).box 28
    rw [← hU, ← hH]
    simpa using this
  have lA := (Array.getElem?_eq_some_iff.1 hrA).1; have lB := (Array.getElem?_eq_some_iff.1 hrB).1
  have HNe := Lib.hid (fun (wx : World) (hx : Ext U wx) => RNeg_nm cb y P2 E2 wx (h2.ext (E0.trans hx)) K hK (by omega))
  have HAd := Lib.hid (fun (wx : World) (hx : Ext U wx) (cn : Array Value) (hn : NmA wx cn (nNeg y) P2 E2) => RAdd_nm ca cn x (nNeg y) P1 E1 P2 E2 wx (h1.ext (E0.trans hx)) hn K hK hP hE (bru_ext hbr (E0.trans hx)))
  have hi1 := h1.info; have hi2 := h2.info
  have HU := Lib.hid hU; have HH := Lib.hid hH; have HZ0 := Lib.hid Z0; have HE0 := Lib.hid E0
  clear hU hH Z0 E0 hbr h1 h2 hK hP hE
  go_enter Tryz.func31, Tryz.ntmps31
  go_upto_region 1 with fail
  rw [HU.out, HH.out]
  clear HU
  have hd0 : Ext U U.drew := Below.drew (Ext.refl _)
  refine wp_region_K 4 (fun w' => w'.heap[H]? = some (.cells ca 28 (0, 0)) ∧ w'.heap[H + 1]? = some (.cells cb 28 (0, 0))) (by kernel_rfl) ?_
  show anyK _ _ _ _ _ _ 5 #[false, false, false, false, false] _ _
  have hHeld : U.drew.heap[H]? = some (.cells ca 28 (0, 0)) ∧ U.drew.heap[H + 1]? = some (.cells cb 28 (0, 0)) := ⟨(hd0.block _ lA).trans hrA, (hd0.block _ lB).trans hrB⟩
  refine anyK_take (i := 0) (v := .agg ca) rfl (by kernel_rfl) (by kernel_rfl) (by kernel_rfl) (N := 5) (by kernel_rfl) (by kernel_rfl) (by kernel_rfl) (fun _ _ _ h => h) (Or.inl ⟨by rfl, ?_⟩) hHeld ?_
  · intro w hSw
    exact exec_load_row 28 _ rfl (H) rfl 28 _ (0, 0) _ hSw.1 Tryz.underlying28 rfl hi1
  show anyK _ _ _ _ _ _ _ _ (Act.put _ (some 5) _) _
  simp only [Act.put, List.setIfInBounds_toArray, List.set_cons_zero, List.set_cons_succ]
  refine anyK_take (i := 1) (v := .agg cb) rfl (by kernel_rfl) (by kernel_rfl) (by kernel_rfl) (N := 5) (by kernel_rfl) (by kernel_rfl) (by kernel_rfl) (fun _ _ _ h => h) (Or.inl ⟨by rfl, ?_⟩) hHeld ?_
  · intro w hSw
    exact exec_load_row 28 _ rfl (H + 1) rfl 28 _ (0, 0) _ hSw.2 Tryz.underlying28 rfl hi2
  show anyK _ _ _ _ _ _ _ _ (Act.put _ (some 6) _) _
  simp only [Act.put, List.setIfInBounds_toArray, List.set_cons_zero, List.set_cons_succ]
  clear hHeld
  refine anyK_one (i := 2) (by kernel_rfl) rfl (fun Kk hKk => ?_)
  go_simp
  (go_at_call 35; refine (HNe.out _ hd0).mono ?_; rintro e w1 ⟨cn, rfl, hn1, hxx⟩)
  have he1 := hd0.trans hxx
  go_wp2_with fail
  refine hKk.out _ _ (fun _ => ⟨(he1.block _ lA).trans hrA, (he1.block _ lB).trans hrB⟩) ?_
  clear hKk Kk hxx
  simp only [List.setIfInBounds_toArray, List.set_cons_zero, List.set_cons_succ]
  refine anyK_one (i := 3) (by kernel_rfl) rfl (fun Kk hKk => ?_)
  go_simp
  (go_at_call 29; refine (HAd.out w1 he1 cn hn1).mono ?_; rintro e w2 ⟨cr, z, rfl, hcr, hy, hxx⟩)
  have he2 := he1.trans hxx
  go_wp2_with fail
  refine hKk.out _ _ (fun _ => ⟨(he2.block _ lA).trans hrA, (he2.block _ lB).trans hrB⟩) ?_
  clear hKk Kk hxx
  simp only [List.setIfInBounds_toArray, List.set_cons_zero, List.set_cons_succ]
  obtain ⟨c1, hr1, hs1, hone, hinf, rr, hnm, hE'⟩ := fin_num hcr (HZ0.out.ext he2) (HE0.out.trans he2) (by rw [HH.out]; omega)
  have Hend := Lib.hid (show NmA (w2.setRow (H + 2) cr) cr z (P1 + P2 + E1 + E2 + 4) (E1 + E2) ∧ EqN z (nAdd x (nNeg y)) ∧ Ext w (w2.setRow (H + 2) cr) from ⟨hnm, hy, hE'⟩)
  clear hnm hE' hcr hy
  refine anyK_one (i := 4) (by kernel_rfl) rfl (fun Kk hKk => ?_)
  refine stepK_storeR rfl rfl 28 _ _ rfl (H + 2) cr rfl rfl 28 _ hr1 hinf hs1 hone ?_
  refine hKk.out _ _ (fun h => Bool.noConfusion (show true = false from h)) ?_
  clear hKk Kk
  simp only [List.setIfInBounds_toArray, List.set_cons_zero, List.set_cons_succ]
  refine anyK_done (by kernel_rfl) ?_ _
  go_wp2_with fail
  refine bodyPost_ret (v := .agg cr) ?_ rfl ⟨_, _, rfl, Hend.out⟩
  exact results_cell_row rfl _ _ (H + 2) _ _ _ _ rfl rr Tryz.underlying28 rfl hinf

set_option maxRecDepth 100000 in
set_option maxHeartbeats 4000000 in
theorem RNorm_nm (ca : Array Value) (x : Nm) (P E : Nat) (w : World) (h1 : NmA w ca x P E) (K : Nat) (hK : K ≤ 4194304) (hP : P + P + 6 ≤ 64 * K) (hE : E + E ≤ 1099511627776) (hbr : Bru w) :
    Calls Tryz.prog 39 #[.agg ca] w fun e w' => ∃ (cr : Array Value) (z : Nm), e = .returned (.agg cr) ∧ NmA w' cr z (P + P + 6) (E + E) ∧ EqN z (nMul x (nCj x)) ∧ Ext w w' := by
  obtain ⟨H, hH⟩ : ∃ H, w.heap.size = H := ⟨_, rfl⟩
  obtain ⟨U, hU⟩ : ∃ U, ((w.alloc (.cells ca 28)).alloc (.cells zero9 28)) = U := ⟨_, rfl⟩
  have E0 : Ext w U := by rw [← hU]; exact (Ext.alloc _ _).trans (Ext.alloc _ _)
  have hrA : U.heap[H]? = some (.cells ca 28 (0, 0)) := by rw [← hU, ← hH]; exact ((Ext.alloc _ _).block _ (Array.getElem?_eq_some_iff.1 (heap_alloc_new w (.cells ca 28))).1).trans (heap_alloc_new w _)
  have Z0 : Nums U (H + 1) 9 28 (fun _ => 0) := by
    have := (cells_zero9 (w.alloc (.cells ca 28))).box 28
    rw [← hU, ← hH]
    simpa using this
  have lA := (Array.getElem?_eq_some_iff.1 hrA).1
  have HNe := Lib.hid (fun (wx : World) (hx : Ext U wx) => Conj_nm ca x P E wx (h1.ext (E0.trans hx)) K hK (by omega))
  have HAd := Lib.hid (fun (wx : World) (hx : Ext U wx) (cn : Array Value) (hn : NmA wx cn (nCj x) P E) => RMul_nm ca cn x (nCj x) P E P E wx (h1.ext (E0.trans hx)) hn K hK hP hE (bru_ext hbr (E0.trans hx)))
  have hi1 := h1.info
  have HU := Lib.hid hU; have HH := Lib.hid hH; have HZ0 := Lib.hid Z0; have HE0 := Lib.hid E0
  clear hU hH Z0 E0 hbr h1 hK hP hE
  go_enter Tryz.func39, Tryz.ntmps39
  go_upto_region 1 with fail
  rw [HU.out, HH.out]
  clear HU
  have hd0 : Ext U U.drew := Below.drew (Ext.refl _)
  refine wp_region_K 4 (fun w' => w'.heap[H]? = some (.cells ca 28 (0, 0))) (by kernel_rfl) ?_
  show anyK _ _ _ _ _ _ 5 #[false, false, false, false, false] _ _
  have hHeld : U.drew.heap[H]? = some (.cells ca 28 (0, 0)) := ((hd0.block _ lA).trans hrA)
  refine anyK_take (i := 0) (v := .agg ca) rfl (by kernel_rfl) (by kernel_rfl) (by kernel_rfl) (N := 5) (by kernel_rfl) (by kernel_rfl) (by kernel_rfl) (fun _ _ _ h => h) (Or.inl ⟨by rfl, ?_⟩) hHeld ?_
  · intro w hSw
    exact exec_load_row 28 _ rfl (H) rfl 28 _ (0, 0) _ hSw Tryz.underlying28 rfl hi1
  show anyK _ _ _ _ _ _ _ _ (Act.put _ (some 3) _) _
  simp only [Act.put, List.setIfInBounds_toArray, List.set_cons_zero, List.set_cons_succ]
  refine anyK_take (i := 1) (v := .agg ca) rfl (by kernel_rfl) (by kernel_rfl) (by kernel_rfl) (N := 5) (by kernel_rfl) (by kernel_rfl) (by kernel_rfl) (fun _ _ _ h => h) (Or.inl ⟨by rfl, ?_⟩) hHeld ?_
  · intro w hSw
    exact exec_load_row 28 _ rfl (H) rfl 28 _ (0, 0) _ hSw Tryz.underlying28 rfl hi1
  show anyK _ _ _ _ _ _ _ _ (Act.put _ (some 4) _) _
  simp only [Act.put, List.setIfInBounds_toArray, List.set_cons_zero, List.set_cons_succ]
  clear hHeld
  refine anyK_one (i := 2) (by kernel_rfl) rfl (fun Kk hKk => ?_)
  go_simp
  (go_at_call 37; refine (HNe.out _ hd0).mono ?_; rintro e w1 ⟨cn, rfl, hn1, hxx⟩)
  have he1 := hd0.trans hxx
  go_wp2_with fail
  refine hKk.out _ _ (fun _ => ((he1.block _ lA).trans hrA)) ?_
  clear hKk Kk hxx
  simp only [List.setIfInBounds_toArray, List.set_cons_zero, List.set_cons_succ]
  refine anyK_one (i := 3) (by kernel_rfl) rfl (fun Kk hKk => ?_)
  go_simp
  (go_at_call 33; refine (HAd.out w1 he1 cn hn1).mono ?_; rintro e w2 ⟨cr, z, rfl, hcr, hy, hxx⟩)
  have he2 := he1.trans hxx
  go_wp2_with fail
  refine hKk.out _ _ (fun _ => ((he2.block _ lA).trans hrA)) ?_
  clear hKk Kk hxx
  simp only [List.setIfInBounds_toArray, List.set_cons_zero, List.set_cons_succ]
  obtain ⟨c1, hr1, hs1, hone, hinf, rr, hnm, hE'⟩ := fin_num hcr (HZ0.out.ext he2) (HE0.out.trans he2) (by rw [HH.out]; omega)
  have Hend := Lib.hid (show NmA (w2.setRow (H + 1) cr) cr z (P + P + 6) (E + E) ∧ EqN z (nMul x (nCj x)) ∧ Ext w (w2.setRow (H + 1) cr) from ⟨hnm, hy, hE'⟩)
  clear hnm hE' hcr hy
  refine anyK_one (i := 4) (by kernel_rfl) rfl (fun Kk hKk => ?_)
  refine stepK_storeR rfl rfl 28 _ _ rfl (H + 1) cr rfl rfl 28 _ hr1 hinf hs1 hone ?_
  refine hKk.out _ _ (fun h => Bool.noConfusion (show true = false from h)) ?_
  clear hKk Kk
  simp only [List.setIfInBounds_toArray, List.set_cons_zero, List.set_cons_succ]
  refine anyK_done (by kernel_rfl) ?_ _
  go_wp2_with fail
  refine bodyPost_ret (v := .agg cr) ?_ rfl ⟨_, _, rfl, Hend.out⟩
  exact results_cell_row rfl _ _ (H + 1) _ _ _ _ rfl rr Tryz.underlying28 rfl hinf
end Go.Proofs.YtiicfpdiehgikaaGreatDoor
namespace Go.Proofs.YtiicfpdiehgikaaGreatDoor
open Go.RowKit

section
variable {P : Program} {md : Region.Mode} {ops : Array Oper} {Q : Exit → Act → World → Prop} {S : World → Prop}
/-- A call that alone may come up. -/
theorem anyH_call {i : Nat} {o : Oper} {n : Nat} {l : Array Bool} {a : Act} {w : World} (hr : Region.ready md ops l = [i]) (ho : ops[i]? = some o) (hw : Region.wanted o (yielded ops a.tmps) = true) (f : FuncId) (args : Array Value)
    (hrun : (execOp a.eval o).run P w = .ok (.enter f args) w) {R : Value → World → Prop} (hc : Calls P f args w fun e w' => ∃ v, e = .returned v ∧ R v w')
    (h : ∀ v w', R v w' → S w' ∧ wpAnyH P md ops Q S n (l.setIfInBounds i true) (a.put o.dst v) w') : wpAnyH P md ops Q S (n + 1) l a w := by
  refine ⟨fun h0 => (by rw [hr] at h0; cases h0), fun j hj => ?_⟩
  rw [hr] at hj
  rcases List.mem_singleton.1 hj with rfl
  refine wpOp_step ho fun K' hK => ?_
  rw [if_pos hw]
  unfold Oper.wp
  rw [hrun, Oper.upon_enter]
  refine hc.mono ?_
  rintro e w' ⟨v, rfl, hv⟩
  exact hK _ _ (h v w' hv)
theorem anyH_cast {n : Nat} {l l' : Array Bool} {a a' : Act} {w : World} (ha : a = a') (hl : l = l') (h : wpAnyH P md ops Q S n l' a' w) : wpAnyH P md ops Q S n l a w := by subst ha hl; exact h
theorem anyH_done {l : Array Bool} {a : Act} {w : World} (hr : Region.ready md ops l = []) (h : Q .normal a w) (n : Nat) : wpAnyH P md ops Q S n l a w := by
  cases n with
  | zero => exact ⟨hr, h⟩
  | succ n => exact ⟨fun _ => h, by rw [hr]; intro i hi; cases hi⟩
theorem act_cast {a a' : Act} {w : World} (ha : a = a') (h : Q .normal a' w) : Q .normal a w := by subst ha; exact h
end
theorem new2_a (w : World) : ((w.alloc (.cells zero9 28)).alloc (.cells #[.int .i64 0, .int .i64 0] 30)).heap[w.heap.size]? = some (.cells zero9 28 (0, 0)) := ((Ext.alloc _ _).block _ (Array.getElem?_eq_some_iff.1 (heap_alloc_new w (.cells zero9 28))).1).trans (heap_alloc_new w _)
theorem new2_c (w : World) : ((w.alloc (.cells zero9 28)).alloc (.cells #[.int .i64 0, .int .i64 0] 30)).heap[w.heap.size + 1]? = some (.cells #[.int .i64 0, .int .i64 0] 30 (0, 0)) := by
  have h3 := heap_alloc_new (w.alloc (.cells zero9 28)) (.cells #[.int .i64 0, .int .i64 0] 30)
  simpa using h3
theorem new2_b (w : World) (cr : Array Value) : (((w.alloc (.cells zero9 28)).alloc (.cells #[.int .i64 0, .int .i64 0] 30)).setRow w.heap.size cr).heap[w.heap.size + 1]? = some (.cells #[.int .i64 0, .int .i64 0] 30 (0, 0)) := (setRow_other _ _ _ _ (by omega)).trans (new2_c w)
/-- A number and a fault in variables of their own. -/
theorem new2 (w : World) (cr fl : Array Value) : ∃ V, (((w.alloc (.cells zero9 28)).alloc (.cells #[.int .i64 0, .int .i64 0] 30)).setRow w.heap.size cr).setRow (w.heap.size + 1) fl = V ∧ Ext w V ∧ V.heap[w.heap.size]? = some (.cells cr 28 (0, 0)) ∧ V.heap[w.heap.size + 1]? = some (.cells fl 30 (0, 0)) := by
  refine ⟨_, rfl, ?_, ?_, ?_⟩
  · have E0 : Ext w ((w.alloc (.cells zero9 28)).alloc (.cells #[.int .i64 0, .int .i64 0] 30)) := (Ext.alloc _ _).trans (Ext.alloc _ _)
    have c1 := setRow_only ((w.alloc (.cells zero9 28)).alloc (.cells #[.int .i64 0, .int .i64 0] 30)) w.heap.size cr
    have c2 := setRow_only (((w.alloc (.cells zero9 28)).alloc (.cells #[.int .i64 0, .int .i64 0] 30)).setRow w.heap.size cr) (w.heap.size + 1) fl
    refine ⟨c2.os.trans (c1.os.trans E0.os), c2.tape.trans (c1.tape.trans E0.tape), c2.output.trans (c1.output.trans E0.output), by rw [c2.size, c1.size]; exact E0.size, fun k hk => ?_⟩
    rw [c2.block k (by omega), c1.block k (by omega)]
    exact E0.block k hk
  · exact (setRow_other _ _ _ _ (by omega)).trans (setRow_heap _ _ _ _ _ _ (new2_a w))
  · exact setRow_heap _ _ _ _ _ _ (new2_b w cr)
end Go.Proofs.YtiicfpdiehgikaaGreatDoor
