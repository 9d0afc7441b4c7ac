/-
  Writing numbers: Text.
-/
import Derived.Test.YtdiojbgbeeojkaaGreatDoorMTxC
import Derived.Test.YtdiojbgbeeojkaaGreatDoorMIntC
import Derived.Test.YtdiojbgbeeojkaaGreatDoorMTxP

namespace Go.Proofs.YtdiojbgbeeojkaaGreatDoor
open Go.RowKit

theorem run_convert_own {w : World} {v : Value} {l : List UInt8} (h : Own w 5 v l) (hl : l ≠ []) : (convert 75 9 v).run Tryz.prog w = .ok (.string ⟨l.toArray⟩) w := by
  rcases h with ⟨_, h⟩ | ⟨g, cap, cur, rfl, hg, _, _, _, htk, _⟩
  · exact absurd h hl
  · refine run_convert_bytes_back (P := Tryz.prog) w 75 9 5 ⟨g, 0, none⟩ cap l Tryz.underlying75 Tryz.underlying5 Tryz.underlying9 (fun j hj => ?_)
    rw [Lib.add_plain, Nat.zero_add, cell_of_row w g j cur _ (0, 0) hg]
    have h1 : (byC l)[j]? = cur.toList[j]? := by
      rw [← htk, List.getElem?_take, if_pos hj]
    rw [← Array.getElem?_toList, ← h1]
    simp [byC, hj]

theorem room20 {k m : Nat} (h : k ≤ 20) (hm : m ≤ 1) : m + 19 * 2 ^ k ≤ 1000000000 := by
  have : (2 : Nat) ^ k ≤ 2 ^ 20 := Nat.pow_le_pow_right (by decide) h
  omega

theorem decDigits_ne (x : Nat) : Lib.decDigits x ≠ [] := by
  intro h
  have := Lib.decDigits_length x
  rw [h] at this
  have := Lib.nDigits_pos x
  simp at *
  omega

theorem keepA {w5 w6 : World} {e : TypeId} {v v' : Value} {bl : List UInt8} {B : Nat} {sm : Int} {ao : Option Addr} {n c : Nat} (ha : Apd w5 w6 v v') (ho : Own w5 e v bl) (h : w5.cell? ⟨B, 0, none⟩ = some (.int .i64 sm) ∧ w5.cell? ⟨B, 1, none⟩ = some (.slice ao n c)) :
    w6.cell? ⟨B, 0, none⟩ = some (.int .i64 sm) ∧ w6.cell? ⟨B, 1, none⟩ = some (.slice ao n c) :=
  ⟨ha.cell ho h.1 (fun x hx => by cases hx), ha.cell ho h.2 (fun x hx => by cases hx)⟩

set_option maxHeartbeats 1600000 in
set_option maxRecDepth 100000 in
theorem Text_any (sm : Int) (ao : Option Addr) (n c : Nat) (z : Int) (w : World) (h : IsInt w sm ao n c z) (hn : n ≤ 100000) (htab : Ten w) :
    Calls Tryz.prog 11 #[.agg #[.int .i64 sm, .slice ao n c]] w fun e w' => e = .returned (.string ⟨(Lib.itoa z).toArray⟩) ∧ Ext w w' := by
  have q1 := eql_nil ao n c 0 0
  have hEb := Ext.alloc w (.cells #[.int .i64 sm, .slice ao n c] 24)
  rcases h with ⟨rfl, rfl, rfl, rfl, h1, h2⟩ | ⟨b, o, l, rfl, hl, hnc, hcm, hs, hd, hr, hz⟩
  · have Hit := hid (fun wx (hx : Ten wx) => itoa_any sm h1 h2 wx hx)
    have Htab := hid htab
    clear htab
    go_enter Tryz.func11, Tryz.ntmps11
    go_wp2_with fail
    refine (Hit.out _ (tab_ext Htab.out hEb)).mono ?_
    rintro e w1 ⟨rfl, he1⟩
    go_wp2_with fail
    go_ret
    exact ⟨rfl, hEb.trans he1⟩
  · have hno : (some (⟨b, o, none⟩ : Addr)).isNone = false := rfl
    have hsm : sm = -1 ∨ sm = 1 := hz.elim (fun h => Or.inl h.1) (fun h => Or.inr h.1)
    have Hz : Hid (Lib.itoa z = (if sm < 0 then [45] else []) ++ Lib.decDigits (val l)) := by
      show _ = _
      rcases hz with ⟨rfl, rfl, h⟩ | ⟨rfl, rfl, h⟩
      · unfold Lib.itoa
        rw [if_pos (by omega), if_pos (by omega)]
        simp
      · unfold Lib.itoa
        rw [if_neg (by omega), if_neg (by omega)]
        simp
    obtain ⟨i0, hi, hz0, hz1, hz2⟩ := info_parts byte_info
    have Htab := hid htab
    have Hcp := hid (fun wx => chunkPowers_any n hn wx)
    have hvl : val l < B64 ^ n := by rw [← hl]; exact val_lt hd
    have Hvl := hid hvl
    have Had := hid (fun (k : Nat) (v : Value) (bl : List UInt8) (b5 cap : Nat) (wx : World) (h1 : Seg wx (some ⟨b, o, none⟩) l) (h2 : k ≤ 20) (h3 : k ≤ cap) (h4 : cap ≤ maxLen) (h5 : Pows wx (some ⟨b5, 0, none⟩) k) (h6 : Own wx 5 v bl) (h7 : bl.length ≤ 1) (h8 : Ten wx) (h9 : B64 ^ n ≤ Pw k) =>
      appendDigits_any k v bl (some ⟨b, o, none⟩) (some ⟨b5, 0, none⟩) l n c cap false wx hl h1 hd hr hnc hcm (by omega) (hid (Nat.lt_of_lt_of_le hvl h9)) h2 h3 h4 h5 h6 (hid (room20 h2 h7)) h8)
    have hs0 := hs.ext hEb
    have Htb := hid (tab_ext htab hEb)
    have c0 : (w.alloc (.cells #[.int .i64 sm, .slice (some ⟨b, o, none⟩) n c] 24)).cell? ⟨w.heap.size, 0, none⟩ = some (.int .i64 sm) := by simp
    have c1 : (w.alloc (.cells #[.int .i64 sm, .slice (some ⟨b, o, none⟩) n c] 24)).cell? ⟨w.heap.size, 1, none⟩ = some (.slice (some ⟨b, o, none⟩) n c) := by simp
    have hB : w.heap.size < (w.alloc (.cells #[.int .i64 sm, .slice (some ⟨b, o, none⟩) n c] 24)).heap.size := by simp
    clear hz hvl hl hd hr hs htab
    rcases hsm with rfl | rfl
    · have Hz' : Hid (Lib.itoa z = ([] ++ [45]) ++ digs 0 false (val l)) := by
        show _ = _
        rw [Hz.out]; rfl
      go_enter Tryz.func11, Tryz.ntmps11
      go_wp2_with fail
      generalize w.alloc (.cells #[.int .i64 (-1), .slice (some ⟨b, o, none⟩) n c] 24) = W1 at *
      refine (negative_any _ _ W1).mono ?_
      rintro e w2 ⟨rfl, he2⟩
      go_wp2_with (at_builtin; refine wpList_append_bytes _ rfl _ _ 75 rfl 5 i0 Tryz.underlying75 hi hz0 hz1 hz2 (.slice none 0 0) [] rfl (Own.nil _ _) ⟨w2.heap.size, 0, none⟩ 1 1 [45] rfl rfl (by omega) (new_byte w2 45 45 rfl _) (by simp) ?_; intro v3 w3 ho3 ha3)
      have hES : Ext w (w2.alloc (.cells #[.int .u8 45] 5)) := hEb.trans (he2.trans (Ext.alloc _ _))
      have hE3 : Ext W1 w3 := he2.trans ((Ext.alloc _ _).trans ha3.ext)
      have hs3 := hs0.ext hE3
      have Htb3 := hid (tab_ext Htb.out hE3)
      obtain ⟨d0, d1⟩ := keep2 hE3 hB c0 c1
      have hB3 : w.heap.size < w3.heap.size := by have := hE3.size; omega
      have hE0d : Ext w3 w3.drew := Below.drew (Ext.refl _)
      clear c0 c1 hB
      go_region_with (first
        | (go_at_call 45; refine (Hcp.out _).mono ?_; rintro e w5 ⟨k5, b5, cap5, rfl, hk5, hk6, hk7, hp5, hw5, hx5⟩; have he5 : Ext w3 w5 := Ext.trans (by assumption) hx5; have ho5 := ho3.ext he5; obtain ⟨y0, y1⟩ := keep2 he5 hB3 d0 d1)
        | (go_at_call 44; refine (Had.out k5 v3 _ b5 cap5 w5 (hs3.ext he5) hk5 hk6 hk7 hp5 ho5 (by simp) (tab_ext Htb3.out he5) hw5.out).mono ?_; rintro e w6 ⟨v6, rfl, ho6, ha6⟩; have hcv := run_convert_own ho6 (by simp)))
      all_goals
        go_wp2_with fail
        go_ret
        exact ⟨by rw [Hz'.out]; rfl, hES.trans ((ha3.trans (Apd.of_ext he5 _)).trans ha6).ext⟩
    · have Hz' : Hid (Lib.itoa z = [] ++ digs 0 false (val l)) := by
        show _ = _
        rw [Hz.out]; rfl
      go_enter Tryz.func11, Tryz.ntmps11
      go_wp2_with fail
      generalize w.alloc (.cells #[.int .i64 1, .slice (some ⟨b, o, none⟩) n c] 24) = W1 at *
      refine (negative_any _ _ W1).mono ?_
      rintro e w3 ⟨rfl, hE3⟩
      go_wp2_with fail
      have ho3 := Own.nil w3 5
      have hs3 := hs0.ext hE3
      have Htb3 := hid (tab_ext Htb.out hE3)
      obtain ⟨d0, d1⟩ := keep2 hE3 hB c0 c1
      have hB3 : w.heap.size < w3.heap.size := by have := hE3.size; omega
      have hE0d : Ext w3 w3.drew := Below.drew (Ext.refl _)
      clear c0 c1 hB
      go_region_with (first
        | (go_at_call 45; refine (Hcp.out _).mono ?_; rintro e w5 ⟨k5, b5, cap5, rfl, hk5, hk6, hk7, hp5, hw5, hx5⟩; have he5 : Ext w3 w5 := Ext.trans (by assumption) hx5; have ho5 := ho3.ext he5; obtain ⟨y0, y1⟩ := keep2 he5 hB3 d0 d1)
        | (go_at_call 44; refine (Had.out k5 (.slice none 0 0) _ b5 cap5 w5 (hs3.ext he5) hk5 hk6 hk7 hp5 ho5 (by simp) (tab_ext Htb3.out he5) hw5.out).mono ?_; rintro e w6 ⟨v6, rfl, ho6, ha6⟩; have hcv := run_convert_own ho6 (by simp only [List.nil_append]; exact decDigits_ne _)))
      all_goals
        go_wp2_with fail
        go_ret
        exact ⟨by rw [Hz'.out]; rfl, hEb.trans (hE3.trans ((Apd.of_ext he5 _).trans ha6).ext)⟩

end Go.Proofs.YtdiojbgbeeojkaaGreatDoor
