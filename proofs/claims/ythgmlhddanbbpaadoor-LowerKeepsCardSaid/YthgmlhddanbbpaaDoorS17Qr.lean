/-
  Qubits joined: joined. An operation made of basic gates: the closure of lower. An operation made of basic gates: lower.
-/
import Derived.Test.YthgmlhddanbbpaaDoorProg
import Derived.Test.YthgmlhddanbbpaaDoorRows
import Derived.BigQuiet
import Derived.Deep.AppendLies
import Derived.Deep.Cut
import Derived.Deep.CutRange
import Derived.Deep.LoopGhost
import Derived.Deep.QuietTactic
import Derived.Deep.RegionHeld3
import Derived.Defers
import Derived.Ground.Names2Prog
import Derived.Laws.AppendOwnNone
import Derived.Laws.Bits64b
import Derived.Laws.Concat
import Derived.Laws.CopyOwn
import Derived.Laws.IdiomStrings
import Derived.Laws.ResultCell
import Derived.Lib.AppendStr
import Derived.Lib.AppendZeros
import Derived.Lib.AppendZerosOnto
import Derived.Lib.BitFns
import Derived.Lib.Hide
import Derived.Lib.ItoaMem
import Derived.Lib.ItoaNum
import Derived.Lib.Strings
import Derived.Lib.TrailingZeros
import Derived.Maps.AppendAt
import Derived.OrdersIn
import Derived.OwnWalk
import Derived.RangeFuncCalls
import Derived.RangeFuncFrom
import Derived.Recover
import Derived.Shelf.Slices.Clone
import Derived.Shelf.Slices.Turned
import Derived.Shelf.Spec.TrailingZeros
import Derived.WalkKit
import Derived.WalkLawsBesides
import Derived.WalkSpells
import Derived.Test.YthgmlhddanbbpaaDoorS00Mem
import Derived.Test.YthgmlhddanbbpaaDoorShelf
import Derived.Test.YthgmlhddanbbpaaDoorS02ZCq
import Derived.Test.YthgmlhddanbbpaaDoorS03Uaq
import Derived.Test.YthgmlhddanbbpaaDoorS06Xlq
import Derived.Test.YthgmlhddanbbpaaDoorS07Cn
import Derived.Test.YthgmlhddanbbpaaDoorS08Di
import Derived.Test.YthgmlhddanbbpaaDoorS09Ka
import Derived.Test.YthgmlhddanbbpaaDoorS10Kl
import Derived.Test.YthgmlhddanbbpaaDoorS11Qb
import Derived.Test.YthgmlhddanbbpaaDoorS13Yrq
import Derived.Test.YthgmlhddanbbpaaDoorS14Qf
import Derived.Test.YthgmlhddanbbpaaDoorS15Qk
import Derived.Test.YthgmlhddanbbpaaDoorS16Qo
namespace Go.Proofs.YthgmlhddanbbpaaDoor
open Go.RowKit

set_option maxHeartbeats 400000 in
/-- A number is stored, in a drawn region. -/
theorem stepK_storeT {ops : Array Oper} {o : Oper} {a : Act} {K : Act → World → Prop} {Q : Exit → Act → World → Prop} {E : Prop} {w : World} (hgd : o.guard = none) (hd : o.dst = none) (p x : Operand)
    (ho : o.op = .store 3 p x) (b off : Nat) (z : Int) (u : Value) (hp : a.eval p = .pointer (some ⟨b, off, none⟩)) (hx : a.eval x = .int .i64 z)
    (hcell : w.cell? ⟨b, off, none⟩ = some u) (hfz : w.frozen? ⟨b, off, none⟩ = false) (h : K a (w.setCell ⟨b, off, none⟩ (.int .i64 z))) :
    if Region.wanted o (yielded ops a.tmps) = true then Oper.wp Tryd.prog o a w K Q else E := by
  have hw : Region.wanted o (yielded ops a.tmps) = true := by simp [Region.wanted, hgd]
  rw [if_pos hw]
  obtain ⟨od, oo, ot, opp, oa, og⟩ := o
  simp only at ho hd
  subst ho hd
  have HH := Lib.hid h
  clear h
  unfold Oper.wp execOp
  simp only [hp, hx]
  go_simp
  exact HH.out

set_option maxRecDepth 100000 in
set_option maxHeartbeats 2000000 in
theorem joined_zero (w0 : World) (Bd : Nat) (sp : Int) (PB OB : Nat) (tP : TypeId) (kd k : Int) (a1 : Option Addr) (n1 c1 : Nat) (q bt : Int) (a2 : Option Addr) (n2 c2 : Nat) (cnd : List Int) (kk : Int) (hkk : (if kd = 2 ∨ kd = 3 then 8 else k) = kk) (hC : IntsAt w0 a2 n2 cnd) (hcn : n2 ≤ 24) (hk : 0 ≤ k ∧ k < 16) (hbr : BruL w0) : JnS w0 Bd sp PB OB tP kd k a1 n1 c1 q bt a2 n2 c2 cnd kk 0 := by
  intro w v ops qa qn qc qs hB hP hO hQ hQt hq12 hqc hqc2 htq hnd hr hl
  unfold Apps
  obtain ⟨TT, hTT⟩ : ∃ TT : Int, (((0 : Nat) : Int)) = TT := ⟨_, rfl⟩
  have tz : (TT == 0) = true := by rw [← hTT]; rfl
  rw [hTT]
  have E1 := ext_al w (.cells #[.pointer (some ⟨Bd, 0, none⟩)] 63)
  have r1 := heap_alloc_new w (.cells #[.pointer (some ⟨Bd, 0, none⟩)] 63)
  obtain ⟨u1, hu1⟩ : ∃ u1, w.alloc (.cells #[.pointer (some ⟨Bd, 0, none⟩)] 63) = u1 := ⟨_, rfl⟩
  rw [hu1] at E1 r1
  have E2 := ext_al u1 (.cells #[.slice qa qn qc] 25)
  have r2 := heap_alloc_new u1 (.cells #[.slice qa qn qc] 25)
  obtain ⟨u2, hu2⟩ : ∃ u2, u1.alloc (.cells #[.slice qa qn qc] 25) = u2 := ⟨_, rfl⟩
  rw [hu2] at E2 r2
  have E3 := ext_al u2 (.cells #[.int .i64 TT] 3)
  have r3 := heap_alloc_new u2 (.cells #[.int .i64 TT] 3)
  obtain ⟨u3, hu3⟩ : ∃ u3, u2.alloc (.cells #[.int .i64 TT] 3) = u3 := ⟨_, rfl⟩
  rw [hu3] at E3 r3
  have E4 := ext_al u3 (.cells #[bdV PB OB] 71)
  have r4 := heap_alloc_new u3 (.cells #[bdV PB OB] 71)
  obtain ⟨u4, hu4⟩ : ∃ u4, u3.alloc (.cells #[bdV PB OB] 71) = u4 := ⟨_, rfl⟩
  rw [hu4] at E4 r4
  have s1 : u1.heap.size = w.heap.size + 1 := by rw [← hu1, World.size_alloc]
  have s2 : u2.heap.size = w.heap.size + 1 + 1 := by rw [← hu2, World.size_alloc, s1]
  have s3 : u3.heap.size = w.heap.size + 1 + 1 + 1 := by rw [← hu3, World.size_alloc, s2]
  have hW4 : (((w.alloc (.cells #[.pointer (some ⟨Bd, 0, none⟩)] 63)).alloc (.cells #[.slice qa qn qc] 25)).alloc (.cells #[.int .i64 TT] 3)).alloc (.cells #[bdV PB OB] 71) = u4 := by rw [hu1, hu2, hu3, hu4]
  have EE : Ext w u4 := ((E1.trans E2).trans E3).trans E4
  obtain ⟨H, hH⟩ : ∃ H, w.heap.size = H := ⟨_, rfl⟩
  have aB : Aw Bd v u4 H (.cells #[.pointer (some ⟨Bd, 0, none⟩)] 63 (0, 0)) := Aw.new hB (by omega) (by rw [← hH]; exact (((E2.trans E3).trans E4).block _ (Array.getElem?_eq_some_iff.1 r1).1).trans r1)
  have aQ : Aw Bd v u4 (H + 1) (.cells #[.slice qa qn qc] 25 (0, 0)) := Aw.new hB (by omega) (by rw [← hH, ← s1]; exact ((E3.trans E4).block _ (Array.getElem?_eq_some_iff.1 r2).1).trans r2)
  have aT : Aw Bd v u4 (H + 1 + 1) (.cells #[.int .i64 TT] 3 (0, 0)) := Aw.new hB (by omega) (by rw [← hH, ← s2]; exact (E4.block _ (Array.getElem?_eq_some_iff.1 r3).1).trans r3)
  have aY : Aw Bd v u4 (H + 1 + 1 + 1) (.cells #[bdV PB OB] 71 (0, 0)) := Aw.new hB (by omega) (by rw [← hH, ← s3]; exact r4)
  have HBo := Lib.hid (body2_any w0 u4 Bd sp v ops qa qn qc qs PB OB tP kd k a1 n1 c1 q bt a2 n2 c2 cnd (hB.ext' EE) (hP.ext EE) (hO.ext EE) (hQ.ext EE) (hQt.ext EE) (by omega) hqc hqc2 hC hcn hk hbr (by omega))
  unfold Apps at HBo
  rw [hkk] at HBo
  have x1 := aQ.x0; have x2 := aT.x0; have x3 := aY.x0
  have HEE := Lib.hid EE; have HW := Lib.hid hW4; have HH := Lib.hid hH
  clear hB hP hO hQ hQt hq12 hqc hqc2 htq hnd hr hl E1 E2 E3 E4 r1 r2 r3 r4 hu1 hu2 hu3 hu4 s1 s2 s3 hW4 EE hH aB aQ aT aY hTT hkk hC hcn hk hbr
  go_enter Tryd.func34, Tryd.ntmps34
  go_upto_region 1 with fail
  rw [HW.out, HH.out]
  clear HW HH
  go_wp2_with fail
  refine HBo.out.mono ?_
  rintro e w2 ⟨rfl, v2, hM2, hB2⟩
  have HEnd := Lib.hid (show ∃ v', Mv Bd v v' w w2 ∧ BdA w0 w2 Bd sp v' (ops ++ lJoined sp (lBody kk cnd) 0 qs) from ⟨v2, (Mv.of_ext HEE.out).trans hM2, hB2⟩)
  clear hM2 hB2 x1 x2 x3 HBo
  go_wp2_with fail
  exact bodyPost_ret (v := .tuple #[]) (by simp [results, Tryd.results34, go_sem]) rfl ⟨rfl, HEnd.out⟩

set_option maxRecDepth 100000 in
set_option maxHeartbeats 4000000 in
theorem joined_succ (w0 : World) (Bd : Nat) (sp : Int) (PB OB : Nat) (tP : TypeId) (kd k : Int) (a1 : Option Addr) (n1 c1 : Nat) (q bt : Int) (a2 : Option Addr) (n2 c2 : Nat) (cnd : List Int) (kk : Int) (hS : Shp w0) (t : Nat) (hsp : 0 ≤ sp ∧ sp + ((t + 1 : Nat) : Int) ≤ 12) (ih : JnS w0 Bd sp PB OB tP kd k a1 n1 c1 q bt a2 n2 c2 cnd kk t) : JnS w0 Bd sp PB OB tP kd k a1 n1 c1 q bt a2 n2 c2 cnd kk (t + 1) := by
  intro w v ops qa qn qc qs hB hP hO hQ hQt hq12 hqc hqc2 htq hnd hr hl
  unfold Apps
  obtain ⟨TT, hTT⟩ : ∃ TT : Int, ((t + 1 : Nat) : Int) = TT := ⟨_, rfl⟩
  have tz : (TT == 0) = false := by rw [← hTT]; simp; omega
  obtain ⟨qb, qo, rfl, hqb, hqcell⟩ := hQ.2.resolve_left (by omega)
  rw [hTT]
  have E1 := ext_al w (.cells #[.pointer (some ⟨Bd, 0, none⟩)] 63)
  have r1 := heap_alloc_new w (.cells #[.pointer (some ⟨Bd, 0, none⟩)] 63)
  obtain ⟨u1, hu1⟩ : ∃ u1, w.alloc (.cells #[.pointer (some ⟨Bd, 0, none⟩)] 63) = u1 := ⟨_, rfl⟩
  rw [hu1] at E1 r1
  have E2 := ext_al u1 (.cells #[.slice (some ⟨qb, qo, none⟩) qn qc] 25)
  have r2 := heap_alloc_new u1 (.cells #[.slice (some ⟨qb, qo, none⟩) qn qc] 25)
  obtain ⟨u2, hu2⟩ : ∃ u2, u1.alloc (.cells #[.slice (some ⟨qb, qo, none⟩) qn qc] 25) = u2 := ⟨_, rfl⟩
  rw [hu2] at E2 r2
  have E3 := ext_al u2 (.cells #[.int .i64 TT] 3)
  have r3 := heap_alloc_new u2 (.cells #[.int .i64 TT] 3)
  obtain ⟨u3, hu3⟩ : ∃ u3, u2.alloc (.cells #[.int .i64 TT] 3) = u3 := ⟨_, rfl⟩
  rw [hu3] at E3 r3
  have E4 := ext_al u3 (.cells #[bdV PB OB] 71)
  have r4 := heap_alloc_new u3 (.cells #[bdV PB OB] 71)
  obtain ⟨u4, hu4⟩ : ∃ u4, u3.alloc (.cells #[bdV PB OB] 71) = u4 := ⟨_, rfl⟩
  rw [hu4] at E4 r4
  have s1 : u1.heap.size = w.heap.size + 1 := by rw [← hu1, World.size_alloc]
  have s2 : u2.heap.size = w.heap.size + 1 + 1 := by rw [← hu2, World.size_alloc, s1]
  have s3 : u3.heap.size = w.heap.size + 1 + 1 + 1 := by rw [← hu3, World.size_alloc, s2]
  have hW4 : (((w.alloc (.cells #[.pointer (some ⟨Bd, 0, none⟩)] 63)).alloc (.cells #[.slice (some ⟨qb, qo, none⟩) qn qc] 25)).alloc (.cells #[.int .i64 TT] 3)).alloc (.cells #[bdV PB OB] 71) = u4 := by rw [hu1, hu2, hu3, hu4]
  have EE : Ext w u4 := ((E1.trans E2).trans E3).trans E4
  obtain ⟨H, hH⟩ : ∃ H, w.heap.size = H := ⟨_, rfl⟩
  have aB : Aw Bd v u4 H (.cells #[.pointer (some ⟨Bd, 0, none⟩)] 63 (0, 0)) := Aw.new hB (by omega) (by rw [← hH]; exact (((E2.trans E3).trans E4).block _ (Array.getElem?_eq_some_iff.1 r1).1).trans r1)
  have aQ : Aw Bd v u4 (H + 1) (.cells #[.slice (some ⟨qb, qo, none⟩) qn qc] 25 (0, 0)) := Aw.new hB (by omega) (by rw [← hH, ← s1]; exact ((E3.trans E4).block _ (Array.getElem?_eq_some_iff.1 r2).1).trans r2)
  have aT : Aw Bd v u4 (H + 1 + 1) (.cells #[.int .i64 TT] 3 (0, 0)) := Aw.new hB (by omega) (by rw [← hH, ← s2]; exact (E4.block _ (Array.getElem?_eq_some_iff.1 r3).1).trans r3)
  have aY : Aw Bd v u4 (H + 1 + 1 + 1) (.cells #[bdV PB OB] 71 (0, 0)) := Aw.new hB (by omega) (by rw [← hH, ← s3]; exact r4)
  have hp0 := hqcell 0 (by omega); have hp1 := hqcell 1 (by omega)
  obtain ⟨p, hp⟩ : ∃ p, qs.getD 0 0 = p := ⟨_, rfl⟩
  obtain ⟨p', hp'⟩ : ∃ p', qs.getD 1 0 = p' := ⟨_, rfl⟩
  rw [hp, Nat.add_zero] at hp0
  rw [hp'] at hp1
  have hmem : ∀ i, i < qn → qs.getD i 0 ∈ qs := fun i hi => by
    have hl : i < qs.length := by rw [hQ.1]; exact hi
    rw [List.getD_eq_getElem?_getD, List.getElem?_eq_getElem hl]
    exact List.getElem_mem hl
  have hpr := hr p (by rw [← hp]; exact hmem 0 (by omega)); have hpr' := hr p' (by rw [← hp']; exact hmem 1 (by omega))
  obtain ⟨sv, hsv⟩ : ∃ sv, sp + (t : Int) = sv := ⟨_, rfl⟩
  obtain ⟨s1v, hs1v⟩ : ∃ s1v, sp + TT = s1v := ⟨_, rfl⟩
  have w1' : IntKind.i64.wrap (sp + TT) = s1v := by rw [IntKind.wrap_i64]; omega
  have w2' : IntKind.i64.wrap (s1v - 1) = sv := by rw [IntKind.wrap_i64]; omega
  clear hs1v
  have hjok : ∀ g ∈ lJoin p p' sv, LOk 12 0 g := lOk_join hpr.1 hpr'.1 (by omega) (by omega) (by omega)
  have hpur : (pur ⟨12, 0, lJoin p p' sv⟩).1 = 0 := pur_gates (by simp [lJoin]) hjok (fun g hg => ⟨by have := kind_join hg; omega, by
    unfold lJoin at hg
    simp only [List.mem_cons, List.not_mem_nil, or_false] at hg
    rcases hg with rfl | rfl | rfl | rfl | rfl | rfl | rfl | rfl | rfl <;> rfl⟩)
  have hst : lJoined sp (lBody kk cnd) (t + 1) qs = lJoin p p' sv ++ lJoined sp (lBody kk cnd) t (qs.drop 2 ++ [sv]) ++ invO (lJoin p p' sv) := by
    simp only [lJoined, hp, hp', hsv]
  rw [hst]
  have hj1 := fun (wx : World) (vx : Value) (SB : Nat) (hx : Mv Bd v vx u4 wx) (hBx : BdA w0 wx Bd sp vx (ops ++ lJoin p p' sv)) (hSB : Aw Bd vx wx SB (.cells #[.int .i64 sv] 3 (0, 0))) => joined1_of w0 Bd sp PB OB tP kd k a1 n1 c1 q bt a2 n2 c2 cnd kk t ih wx vx (ops ++ lJoin p p' sv) (some ⟨qb, qo, none⟩) qn qc qs H (H + 1) SB (H + 1 + 1) (H + 1 + 1 + 1) _ _ 3 _ _ hBx ((hP.ext EE).mv hx) ((hO.ext EE).mv hx) (aB.mv hx) (aQ.mv hx) (by rw [hsv]; exact hSB) (by rw [hTT]; exact aT.mv hx) (aY.mv hx) ((hB.ext' EE).list hx (hQ.ext EE) (hQt.ext EE)).1 ((hB.ext' EE).list hx (hQ.ext EE) (hQt.ext EE)).2 hq12 hqc hqc2 (by omega) hnd hr hsp (by
    rw [List.length_append]
    have : (lJoin p p' sv).length = 9 := rfl
    omega)
  simp only [hsv] at hj1
  have HJ := Lib.hid hj1
  have hmore : (lJoined sp (lBody kk cnd) t (qs.drop 2 ++ [sv])).length ≤ 100000 := by
    obtain ⟨l, h1, h2⟩ := len_joined sp (lBody kk cnd) t (qs.drop 2 ++ [sv]) (by rw [List.length_append, List.length_drop, hQ.1]; simp; omega)
    rw [h2]
    have h3 := (len_all l cnd (kk / 2 ^ (l.length - 1)) l.length (Nat.le_refl _)).1
    have h4 : 2 ^ l.length ≤ 2 ^ 12 := Nat.pow_le_pow_right (by decide) (by rw [h1, List.length_append, List.length_drop, hQ.1]; simp; omega)
    have h5 : (2 : Nat) ^ 12 = 4096 := by decide
    unfold lBody
    omega
  have x0 := aB.x0; have x1 := aQ.x0; have x2 := aT.x0; have x3 := aY.x0
  have z0 := (hB.ext' EE).x0
  have c0 := cell_ext hp0 EE; have c1' := cell_ext hp1 EE
  have HB4 := Lib.hid (hB.ext' EE); have HEE := Lib.hid EE; have HW := Lib.hid hW4; have HH := Lib.hid hH; have Hpur := Lib.hid hpur; have HS := Lib.hid hS; have Hmore := Lib.hid hmore; have Hl := Lib.hid hl
  have HaS := Lib.hid (show u4.heap.size = H + 1 + 1 + 1 + 1 by rw [← hu4, World.size_alloc, s3, hH])
  have t1 : (1 : Int) < (qn : Int) := by omega
  have t0 : 0 < qn := by omega
  clear hj1 hP hO hQ hQt hq12 hqc hqc2 htq hnd hr hl E1 E2 E3 E4 r1 r2 r3 r4 hu1 hu2 hu3 hu4 s1 s2 s3 hW4 EE hH aB aQ aT aY hTT hS ih hp0 hp1 hp hp' hmem hpr hpr' hsv hjok hpur hst hmore hqb hqcell hsp hB
  go_enter Tryd.func34, Tryd.ntmps34
  go_upto_region 1 with fail
  rw [HW.out, HH.out]
  clear HW HH
  go_upto_region 3 with fail

  have Ed : Ext u4 u4.drew := Below.drew (Ext.refl _)
  refine wp_region_K 8 (fun w' => w'.cell? ⟨H, 0, none⟩ = some (.pointer (some ⟨Bd, 0, none⟩)) ∧ w'.cell? ⟨Bd, 0, none⟩ = some (.int .i64 sp) ∧ w'.cell? ⟨H + 1 + 1, 0, none⟩ = some (.int .i64 TT)) (by kernel_rfl) ?_
  show anyK _ _ _ _ _ _ 9 #[false, false, false, false, false, false, false, false, false] _ _
  have hHeld : u4.drew.cell? ⟨H, 0, none⟩ = some (.pointer (some ⟨Bd, 0, none⟩)) ∧ u4.drew.cell? ⟨Bd, 0, none⟩ = some (.int .i64 sp) ∧ u4.drew.cell? ⟨H + 1 + 1, 0, none⟩ = some (.int .i64 TT) := ⟨cell_ext x0 Ed, cell_ext z0 Ed, cell_ext x2 Ed⟩
  refine anyK_take (i := 0) (v := ?_) rfl (by kernel_rfl) (by kernel_rfl) (by kernel_rfl) (N := 9) (by kernel_rfl) (by kernel_rfl) (by kernel_rfl) (fun _ _ _ h => h) (Or.inl ⟨by rfl, ?_⟩) hHeld ?_
  rotate_left 1
  · intro w hSw
    go_simp
    try with_reducible rfl
  show anyK _ _ _ _ _ _ _ _ (Act.put _ (some 14) _) _
  simp only [Act.put, List.setIfInBounds_toArray, List.set_cons_zero, List.set_cons_succ]
  refine anyK_take (i := 1) (v := ?_) rfl (by kernel_rfl) (by kernel_rfl) (by kernel_rfl) (N := 9) (by kernel_rfl) (by kernel_rfl) (by kernel_rfl) (fun _ _ _ h => h) (Or.inl ⟨by rfl, ?_⟩) hHeld ?_
  rotate_left 1
  · intro w hSw
    go_simp
    try with_reducible rfl
  show anyK _ _ _ _ _ _ _ _ (Act.put _ (some 15) _) _
  simp only [Act.put, List.setIfInBounds_toArray, List.set_cons_zero, List.set_cons_succ]
  refine anyK_take (i := 2) (v := ?_) rfl (by kernel_rfl) (by kernel_rfl) (by kernel_rfl) (N := 9) (by kernel_rfl) (by kernel_rfl) (by kernel_rfl) (fun _ _ _ h => h) (Or.inl ⟨by rfl, ?_⟩) hHeld ?_
  rotate_left 1
  · intro w hSw
    go_simp
    try with_reducible rfl
  show anyK _ _ _ _ _ _ _ _ (Act.put _ (some 16) _) _
  simp only [Act.put, List.setIfInBounds_toArray, List.set_cons_zero, List.set_cons_succ]
  refine anyK_take (i := 3) (v := ?_) rfl (by kernel_rfl) (by kernel_rfl) (by kernel_rfl) (N := 9) (by kernel_rfl) (by kernel_rfl) (by kernel_rfl) (fun _ _ _ h => h) (Or.inl ⟨by rfl, ?_⟩) hHeld ?_
  rotate_left 1
  · intro w hSw
    go_simp
    try with_reducible rfl
  show anyK _ _ _ _ _ _ _ _ (Act.put _ (some 17) _) _
  simp only [Act.put, List.setIfInBounds_toArray, List.set_cons_zero, List.set_cons_succ]
  refine anyK_take (i := 4) (v := ?_) rfl (by kernel_rfl) (by kernel_rfl) (by kernel_rfl) (N := 9) (by kernel_rfl) (by kernel_rfl) (by kernel_rfl) (fun _ _ _ h => h) (Or.inl ⟨by rfl, ?_⟩) hHeld ?_
  rotate_left 1
  · intro w hSw
    go_simp
    try with_reducible rfl
  show anyK _ _ _ _ _ _ _ _ (Act.put _ (some 18) _) _
  simp only [Act.put, List.setIfInBounds_toArray, List.set_cons_zero, List.set_cons_succ]
  refine anyK_take (i := 5) (v := ?_) rfl (by kernel_rfl) (by kernel_rfl) (by kernel_rfl) (N := 9) (by kernel_rfl) (by kernel_rfl) (by kernel_rfl) (fun _ _ _ h => h) (Or.inl ⟨by rfl, ?_⟩) hHeld ?_
  rotate_left 1
  · intro w hSw
    go_simp
    try with_reducible rfl
  show anyK _ _ _ _ _ _ _ _ (Act.put _ (some 19) _) _
  simp only [Act.put, List.setIfInBounds_toArray, List.set_cons_zero, List.set_cons_succ]
  refine anyK_take (i := 6) (v := ?_) rfl (by kernel_rfl) (by kernel_rfl) (by kernel_rfl) (N := 9) (by kernel_rfl) (by kernel_rfl) (by kernel_rfl) (fun _ _ _ h => h) (Or.inl ⟨by rfl, ?_⟩) hHeld ?_
  rotate_left 1
  · intro w hSw
    go_simp
    try with_reducible rfl
  show anyK _ _ _ _ _ _ _ _ (Act.put _ (some 20) _) _
  simp only [Act.put, List.setIfInBounds_toArray, List.set_cons_zero, List.set_cons_succ]
  clear hHeld
  have E5 : Ext u4 (u4.alloc (.cells #[.int .i64 0] 3)).drew := Below.drew (ext_al _ _)
  have r5 : (u4.alloc (.cells #[.int .i64 0] 3)).drew.heap[u4.heap.size]? = some (.cells #[.int .i64 0] 3 (0, 0)) := heap_alloc_new u4 (.cells #[.int .i64 0] 3)
  refine anyK_one (i := 7) (by kernel_rfl) rfl (fun Kk hKk => ?_)
  go_wp2_with fail
  refine hKk.out _ _ (fun _ => ⟨cell_ext x0 E5, cell_ext z0 E5, cell_ext x2 E5⟩) ?_
  clear hKk Kk
  simp only [List.setIfInBounds_toArray, List.set_cons_zero, List.set_cons_succ]
  obtain ⟨SB, hSB⟩ : ∃ SB, u4.heap.size = SB := ⟨_, rfl⟩
  obtain ⟨u5, hu5⟩ : ∃ u5, (u4.alloc (.cells #[.int .i64 0] 3)).drew = u5 := ⟨_, rfl⟩
  rw [hSB, hu5] at r5
  rw [hu5] at E5
  rw [hSB, hu5]
  have y5 : u5.cell? ⟨SB, 0, none⟩ = some (.int .i64 0) := by rw [cell_of_row u5 SB 0 _ _ (0, 0) r5]; rfl
  have f5 : u5.frozen? ⟨SB, 0, none⟩ = false := frozen_of_row u5 SB 0 _ _ r5
  refine anyK_one (i := 8) (by kernel_rfl) rfl (fun Kk hKk => ?_)
  refine stepK_storeT rfl rfl _ _ rfl SB 0 sv (.int .i64 0) rfl rfl y5 f5 ?_
  refine hKk.out _ _ (fun h => Bool.noConfusion (show true = false from h)) ?_
  clear hKk Kk
  simp only [List.setIfInBounds_toArray, List.set_cons_zero, List.set_cons_succ]
  refine anyK_done (by kernel_rfl) ?_ _
  have on6 := only1 u5 SB 0 (.int .i64 sv)
  have E6 : Ext u4 (u5.setCell ⟨SB, 0, none⟩ (.int .i64 sv)) := ext_only E5 on6 (by rw [← hSB]; exact Nat.le_refl _)
  have aS : Aw Bd v (u5.setCell ⟨SB, 0, none⟩ (.int .i64 sv)) SB (.cells #[.int .i64 sv] 3 (0, 0)) := Aw.new HB4.out (by rw [← hSB]; exact Nat.le_refl _) (heap_setCell_same u5 SB 0 _ _ (.int .i64 sv) r5)
  generalize u5.setCell ⟨SB, 0, none⟩ (.int .i64 sv) = u6 at *
  have HaSB := Lib.hid aS; have HE6 := Lib.hid E6
  have b0 := cell_ext x0 E6; have b1 := cell_ext x1 E6; have b2 := aS.x0; have b3 := cell_ext c0 E6; have b4 := cell_ext c1' E6
  clear x0 x1 x2 x3 z0 c0 c1' Ed E5 E6 r5 hSB hu5 y5 f5 on6 aS
  go_upto_region 4 with fail
  have Ed : Ext u6 u6.drew := Below.drew (Ext.refl _)
  refine wp_region_K 10 (fun w' => w'.cell? ⟨H, 0, none⟩ = some (.pointer (some ⟨Bd, 0, none⟩)) ∧ w'.cell? ⟨H + 1, 0, none⟩ = some (.slice (some ⟨qb, qo, none⟩) qn qc) ∧ w'.cell? ⟨SB, 0, none⟩ = some (.int .i64 sv) ∧ w'.cell? ⟨qb, qo, none⟩ = some (.int .i64 p) ∧ w'.cell? ⟨qb, qo + 1, none⟩ = some (.int .i64 p')) (by kernel_rfl) ?_
  show anyK _ _ _ _ _ _ 11 #[false, false, false, false, false, false, false, false, false, false, false] _ _
  have hHeld : u6.drew.cell? ⟨H, 0, none⟩ = some (.pointer (some ⟨Bd, 0, none⟩)) ∧ u6.drew.cell? ⟨H + 1, 0, none⟩ = some (.slice (some ⟨qb, qo, none⟩) qn qc) ∧ u6.drew.cell? ⟨SB, 0, none⟩ = some (.int .i64 sv) ∧ u6.drew.cell? ⟨qb, qo, none⟩ = some (.int .i64 p) ∧ u6.drew.cell? ⟨qb, qo + 1, none⟩ = some (.int .i64 p') := ⟨cell_ext b0 Ed, cell_ext b1 Ed, cell_ext b2 Ed, cell_ext b3 Ed, cell_ext b4 Ed⟩
  refine anyK_take (i := 0) (v := ?_) rfl (by kernel_rfl) (by kernel_rfl) (by kernel_rfl) (N := 11) (by kernel_rfl) (by kernel_rfl) (by kernel_rfl) (fun _ _ _ h => h) (Or.inl ⟨by rfl, ?_⟩) hHeld ?_
  rotate_left 1
  · intro w hSw
    go_simp
    try with_reducible rfl
  show anyK _ _ _ _ _ _ _ _ (Act.put _ (some 21) _) _
  simp only [Act.put, List.setIfInBounds_toArray, List.set_cons_zero, List.set_cons_succ]
  refine anyK_take (i := 1) (v := ?_) rfl (by kernel_rfl) (by kernel_rfl) (by kernel_rfl) (N := 11) (by kernel_rfl) (by kernel_rfl) (by kernel_rfl) (fun _ _ _ h => h) (Or.inl ⟨by rfl, ?_⟩) hHeld ?_
  rotate_left 1
  · intro w hSw
    go_simp
    try with_reducible rfl
  show anyK _ _ _ _ _ _ _ _ (Act.put _ (some 22) _) _
  simp only [Act.put, List.setIfInBounds_toArray, List.set_cons_zero, List.set_cons_succ]
  refine anyK_take (i := 2) (v := ?_) rfl (by kernel_rfl) (by kernel_rfl) (by kernel_rfl) (N := 11) (by kernel_rfl) (by kernel_rfl) (by kernel_rfl) (fun _ _ _ h => h) (Or.inl ⟨by rfl, ?_⟩) hHeld ?_
  rotate_left 1
  · intro w hSw
    go_simp
    try with_reducible rfl
  show anyK _ _ _ _ _ _ _ _ (Act.put _ (some 23) _) _
  simp only [Act.put, List.setIfInBounds_toArray, List.set_cons_zero, List.set_cons_succ]
  refine anyK_take (i := 3) (v := ?_) rfl (by kernel_rfl) (by kernel_rfl) (by kernel_rfl) (N := 11) (by kernel_rfl) (by kernel_rfl) (by kernel_rfl) (fun _ _ _ h => h) (Or.inl ⟨by rfl, ?_⟩) hHeld ?_
  rotate_left 1
  · intro w hSw
    go_simp
    try with_reducible rfl
  show anyK _ _ _ _ _ _ _ _ (Act.put _ (some 24) _) _
  simp only [Act.put, List.setIfInBounds_toArray, List.set_cons_zero, List.set_cons_succ]
  refine anyK_take (i := 4) (v := ?_) rfl (by kernel_rfl) (by kernel_rfl) (by kernel_rfl) (N := 11) (by kernel_rfl) (by kernel_rfl) (by kernel_rfl) (fun _ _ _ h => h) (Or.inl ⟨by rfl, ?_⟩) hHeld ?_
  rotate_left 1
  · intro w hSw
    go_simp
    try with_reducible rfl
  show anyK _ _ _ _ _ _ _ _ (Act.put _ (some 25) _) _
  simp only [Act.put, List.setIfInBounds_toArray, List.set_cons_zero, List.set_cons_succ]
  refine anyK_take (i := 5) (v := ?_) rfl (by kernel_rfl) (by kernel_rfl) (by kernel_rfl) (N := 11) (by kernel_rfl) (by kernel_rfl) (by kernel_rfl) (fun _ _ _ h => h) (Or.inl ⟨by rfl, ?_⟩) hHeld ?_
  rotate_left 1
  · intro w hSw
    go_simp
    try with_reducible rfl
  show anyK _ _ _ _ _ _ _ _ (Act.put _ (some 26) _) _
  simp only [Act.put, List.setIfInBounds_toArray, List.set_cons_zero, List.set_cons_succ]
  refine anyK_take (i := 6) (v := ?_) rfl (by kernel_rfl) (by kernel_rfl) (by kernel_rfl) (N := 11) (by kernel_rfl) (by kernel_rfl) (by kernel_rfl) (fun _ _ _ h => h) (Or.inl ⟨by rfl, ?_⟩) hHeld ?_
  rotate_left 1
  · intro w hSw
    go_simp
    try with_reducible rfl
  show anyK _ _ _ _ _ _ _ _ (Act.put _ (some 27) _) _
  simp only [Act.put, List.setIfInBounds_toArray, List.set_cons_zero, List.set_cons_succ]
  refine anyK_take (i := 7) (v := ?_) rfl (by kernel_rfl) (by kernel_rfl) (by kernel_rfl) (N := 11) (by kernel_rfl) (by kernel_rfl) (by kernel_rfl) (fun _ _ _ h => h) (Or.inl ⟨by rfl, ?_⟩) hHeld ?_
  rotate_left 1
  · intro w hSw
    go_simp
    try with_reducible rfl
  show anyK _ _ _ _ _ _ _ _ (Act.put _ (some 28) _) _
  simp only [Act.put, List.setIfInBounds_toArray, List.set_cons_zero, List.set_cons_succ]
  refine anyK_take (i := 9) (v := ?_) rfl (by kernel_rfl) (by kernel_rfl) (by kernel_rfl) (N := 11) (by kernel_rfl) (by kernel_rfl) (by kernel_rfl) (fun _ _ _ h => h) (Or.inl ⟨by rfl, ?_⟩) hHeld ?_
  rotate_left 1
  · intro w hSw
    go_simp
    try with_reducible rfl
  show anyK _ _ _ _ _ _ _ _ (Act.put _ (some 30) _) _
  simp only [Act.put, List.setIfInBounds_toArray, List.set_cons_zero, List.set_cons_succ]
  clear hHeld
  refine anyK_one (i := 8) (by kernel_rfl) rfl (fun Kk hKk => ?_)
  go_simp
  (go_at_call 54; refine (join_any p p' sv u6.drew).mono ?_; rintro e w7 ⟨jb, rfl, hJ7, hjb, hx7⟩)
  have E7 := Ed.trans hx7
  go_wp2_with fail
  refine hKk.out _ _ (fun _ => ⟨cell_ext b0 E7, cell_ext b1 E7, cell_ext b2 E7, cell_ext b3 E7, cell_ext b4 E7⟩) ?_
  clear hKk Kk
  simp only [List.setIfInBounds_toArray, List.set_cons_zero, List.set_cons_succ]
  have B7 := (HB4.out.ext' HE6.out).ext' E7
  have hne7 : ∀ k, (Value.slice (some ⟨jb, 0, none⟩) 9 9).ownBlock = some k → v.ownBlock ≠ some k := fun k hk e => by
    have h1 := (own_lt HB4.out.ops.rows.choose_spec.1 k e).2
    have h2 : jb = k := by simpa [Value.ownBlock] using hk
    have h3 := HE6.out.size
    have h4 := Ed.size
    omega
  have HBt := Lib.hid (between_any 55 #[.pointer (some ⟨H, 0, none⟩), .pointer (some ⟨H + 1, 0, none⟩), .pointer (some ⟨SB, 0, none⟩), .pointer (some ⟨H + 1 + 1, 0, none⟩), .pointer (some ⟨H + 1 + 1 + 1, 0, none⟩)] w0 w7 Bd sp v ops (lJoin p p' sv) (lJoined sp (lBody kk cnd) t (qs.drop 2 ++ [sv])) (some ⟨jb, 0, none⟩) 9 9 u6.drew.heap.size B7 hJ7 hne7 Hpur.out HS.out (fun args wx => by kernel_rfl) (by
    have h1 := Hmore.out; have h2 := Hl.out
    have h3 : (lJoin p p' sv).length = 9 := rfl
    omega) (fun wx vx hM hBx => HJ.out wx vx SB ((Mv.of_ext (HE6.out.trans E7)).trans hM) hBx ((HaSB.out.ext E7).mv hM)))
  unfold Apps at HBt
  refine anyK_one (i := 10) (by kernel_rfl) rfl (fun Kk hKk => ?_)
  go_simp
  (go_at_call 31; refine HBt.out.mono ?_; rintro e w8 ⟨rfl, v8, hM8, hB8⟩)
  go_wp2_with fail
  refine hKk.out _ _ (fun h => Bool.noConfusion (show true = false from h)) ?_
  clear hKk Kk
  simp only [List.setIfInBounds_toArray, List.set_cons_zero, List.set_cons_succ]
  refine anyK_done (by kernel_rfl) ?_ _
  have HEnd := Lib.hid (show ∃ v', Mv Bd v v' w w8 ∧ BdA w0 w8 Bd sp v' (ops ++ (lJoin p p' sv ++ lJoined sp (lBody kk cnd) t (qs.drop 2 ++ [sv]) ++ invO (lJoin p p' sv))) from ⟨v8, (Mv.of_ext (HEE.out.trans (HE6.out.trans E7))).trans hM8, hB8⟩)
  clear hM8 hB8 E7 hx7 hJ7 hjb hne7 B7 HBt Ed b0 b1 b2 b3 b4
  go_wp2_with fail
  go_end0
  exact ⟨rfl, HEnd.out⟩
end Go.Proofs.YthgmlhddanbbpaaDoor
namespace Go.Proofs.YthgmlhddanbbpaaDoor
open Go.RowKit

theorem joined_all (w0 : World) (Bd : Nat) (sp : Int) (PB OB : Nat) (tP : TypeId) (kd k : Int) (a1 : Option Addr) (n1 c1 : Nat) (q bt : Int) (a2 : Option Addr) (n2 c2 : Nat) (cnd : List Int) (kk : Int) (hkk : (if kd = 2 ∨ kd = 3 then 8 else k) = kk) (hC : IntsAt w0 a2 n2 cnd) (hcn : n2 ≤ 24) (hk : 0 ≤ k ∧ k < 16) (hbr : BruL w0) (hS : Shp w0) (hsp : 0 ≤ sp) :
    ∀ t : Nat, sp + t ≤ 12 → JnS w0 Bd sp PB OB tP kd k a1 n1 c1 q bt a2 n2 c2 cnd kk t
  | 0, _ => joined_zero w0 Bd sp PB OB tP kd k a1 n1 c1 q bt a2 n2 c2 cnd kk hkk hC hcn hk hbr
  | t + 1, h => joined_succ w0 Bd sp PB OB tP kd k a1 n1 c1 q bt a2 n2 c2 cnd kk hS t ⟨hsp, h⟩ (joined_all w0 Bd sp PB OB tP kd k a1 n1 c1 q bt a2 n2 c2 cnd kk hkk hC hcn hk hbr hS hsp t (by omega))

set_option maxRecDepth 100000 in
set_option maxHeartbeats 2000000 in
theorem lower1_any (w0 w : World) (Bd : Nat) (sp : Int) (v : Value) (ops : List Gop) (PB OB : Nat) (tP : TypeId) (kd k : Int) (a1 : Option Addr) (n1 c1 : Nat) (q bt : Int) (a2 : Option Addr) (n2 c2 : Nat) (ctl cnd : List Int) (kk : Int) (hkk : (if kd = 2 ∨ kd = 3 then 8 else k) = kk) (hB : BdA w0 w Bd sp v ops) (hP : Aw Bd v w PB (.cells #[.pointer (some ⟨Bd, 0, none⟩)] tP (0, 0))) (hO : Aw Bd v w OB (opC kd k a1 n1 c1 q bt a2 n2 c2))
    (hT : IntsAt w0 a1 n1 ctl) (hn1 : 1 ≤ n1 ∧ n1 ≤ 11) (hJ : JnS w0 Bd sp PB OB tP kd k a1 n1 c1 q bt a2 n2 c2 cnd kk (wntF kk n1)) (hk : 0 ≤ k) (hnd : (ctl ++ [q]).Nodup) (hr : ∀ c ∈ ctl ++ [q], (0 ≤ c ∧ c < 12) ∧ (c < sp ∨ sp + (wntF kk n1 : Nat) ≤ c)) (hl : ops.length + 108 ≤ 100000) :
    Apps w0 Bd sp 33 #[.pointer (some ⟨PB, 0, none⟩), .pointer (some ⟨OB, 0, none⟩)] w v ops (lJoined sp (lBody kk cnd) (wntF kk n1) (ctl ++ [q])) := by
  unfold Apps
  obtain ⟨b, of, rfl, _, _⟩ := hT.2.resolve_left (by omega)
  have hw := wntF_le kk n1
  have HJ := Lib.hid (fun (wx : World) (hx : Ext w wx) (a : Option Addr) (m c : Nat) (hi : IntsAt wx a m (ctl ++ [q])) (ht : TyI wx a) (hm : m = n1 + 1) (hc : m ≤ c) (hc2 : c ≤ 9223372036854775807) => hJ wx v ops a m c (ctl ++ [q]) (hB.ext' hx) (hP.ext hx) (hO.ext hx) hi ht (by omega) hc hc2 (by omega) hnd hr (by omega))
  have HW := Lib.hid (fun wx => wanted_any kd k (some ⟨b, of, none⟩) n1 c1 q bt a2 n2 c2 wx hk (by omega))
  rw [hkk] at HW
  obtain ⟨t, ht⟩ : ∃ t, wntF kk n1 = t := ⟨_, rfl⟩
  rw [ht] at HJ HW ⊢
  have HTl := Lib.hid (hT.ext hB.ext); have Hn1 := Lib.hid hn1
  have p0 := hP.x0
  have d0 := hO.bx.x0; have d1 := hO.bx.x1; have d2 := hO.bx.x2; have d3 := hO.bx.x3; have d4 := hO.bx.x4; have d5 := hO.bx.x5
  clear hkk hB hP hO hT hn1 hJ hk hnd hr hl hw ht
  go_enter Tryd.func33, Tryd.ntmps33
  have Ed : Ext w w.drew := Below.drew (Ext.refl _)
  refine wp_region_K 11 (fun w' => w'.cell? ⟨PB, 0, none⟩ = some (.pointer (some ⟨Bd, 0, none⟩)) ∧ w'.cell? ⟨OB, 0, none⟩ = some (.int .i64 kd) ∧ w'.cell? ⟨OB, 1, none⟩ = some (.int .i64 k) ∧ w'.cell? ⟨OB, 2, none⟩ = some (.slice (some ⟨b, of, none⟩) n1 c1) ∧ w'.cell? ⟨OB, 3, none⟩ = some (.int .i64 q) ∧ w'.cell? ⟨OB, 4, none⟩ = some (.int .i64 bt) ∧ w'.cell? ⟨OB, 5, none⟩ = some (.slice a2 n2 c2)) (by kernel_rfl) ?_
  show anyK _ _ _ _ _ _ 12 #[false, false, false, false, false, false, false, false, false, false, false, false] _ _
  have hHeld : w.drew.cell? ⟨PB, 0, none⟩ = some (.pointer (some ⟨Bd, 0, none⟩)) ∧ w.drew.cell? ⟨OB, 0, none⟩ = some (.int .i64 kd) ∧ w.drew.cell? ⟨OB, 1, none⟩ = some (.int .i64 k) ∧ w.drew.cell? ⟨OB, 2, none⟩ = some (.slice (some ⟨b, of, none⟩) n1 c1) ∧ w.drew.cell? ⟨OB, 3, none⟩ = some (.int .i64 q) ∧ w.drew.cell? ⟨OB, 4, none⟩ = some (.int .i64 bt) ∧ w.drew.cell? ⟨OB, 5, none⟩ = some (.slice a2 n2 c2) := ⟨cell_ext p0 Ed, cell_ext d0 Ed, cell_ext d1 Ed, cell_ext d2 Ed, cell_ext d3 Ed, cell_ext d4 Ed, cell_ext d5 Ed⟩
  refine anyK_take (i := 0) (v := ?_) rfl (by kernel_rfl) (by kernel_rfl) (by kernel_rfl) (N := 12) (by kernel_rfl) (by kernel_rfl) (by kernel_rfl) (fun _ _ _ h => h) (Or.inl ⟨by rfl, ?_⟩) hHeld ?_
  rotate_left 1
  · intro w hSw
    go_simp
    try with_reducible rfl
  show anyK _ _ _ _ _ _ _ _ (Act.put _ (some 2) _) _
  simp only [Act.put, List.setIfInBounds_toArray, List.set_cons_zero, List.set_cons_succ]
  refine anyK_take (i := 1) (v := ?_) rfl (by kernel_rfl) (by kernel_rfl) (by kernel_rfl) (N := 12) (by kernel_rfl) (by kernel_rfl) (by kernel_rfl) (fun _ _ _ h => h) (Or.inl ⟨by rfl, ?_⟩) hHeld ?_
  rotate_left 1
  · intro w hSw
    go_simp
    try with_reducible rfl
  show anyK _ _ _ _ _ _ _ _ (Act.put _ (some 3) _) _
  simp only [Act.put, List.setIfInBounds_toArray, List.set_cons_zero, List.set_cons_succ]
  refine anyK_take (i := 2) (v := ?_) rfl (by kernel_rfl) (by kernel_rfl) (by kernel_rfl) (N := 12) (by kernel_rfl) (by kernel_rfl) (by kernel_rfl) (fun _ _ _ h => h) (Or.inl ⟨by rfl, ?_⟩) hHeld ?_
  rotate_left 1
  · intro w hSw
    go_simp
    try with_reducible rfl
  show anyK _ _ _ _ _ _ _ _ (Act.put _ (some 4) _) _
  simp only [Act.put, List.setIfInBounds_toArray, List.set_cons_zero, List.set_cons_succ]
  refine anyK_take (i := 3) (v := ?_) rfl (by kernel_rfl) (by kernel_rfl) (by kernel_rfl) (N := 12) (by kernel_rfl) (by kernel_rfl) (by kernel_rfl) (fun _ _ _ h => h) (Or.inl ⟨by rfl, ?_⟩) hHeld ?_
  rotate_left 1
  · intro w hSw
    go_simp
    try with_reducible rfl
  show anyK _ _ _ _ _ _ _ _ (Act.put _ (some 5) _) _
  simp only [Act.put, List.setIfInBounds_toArray, List.set_cons_zero, List.set_cons_succ]
  refine anyK_take (i := 4) (v := ?_) rfl (by kernel_rfl) (by kernel_rfl) (by kernel_rfl) (N := 12) (by kernel_rfl) (by kernel_rfl) (by kernel_rfl) (fun _ _ _ h => h) (Or.inl ⟨by rfl, ?_⟩) hHeld ?_
  rotate_left 1
  · intro w hSw
    go_simp
    try with_reducible rfl
  show anyK _ _ _ _ _ _ _ _ (Act.put _ (some 6) _) _
  simp only [Act.put, List.setIfInBounds_toArray, List.set_cons_zero, List.set_cons_succ]
  refine anyK_take (i := 8) (v := ?_) rfl (by kernel_rfl) (by kernel_rfl) (by kernel_rfl) (N := 12) (by kernel_rfl) (by kernel_rfl) (by kernel_rfl) (fun _ _ _ h => h) (Or.inl ⟨by rfl, ?_⟩) hHeld ?_
  rotate_left 1
  · intro w hSw
    go_simp
    try with_reducible rfl
  show anyK _ _ _ _ _ _ _ _ (Act.put _ (some 10) _) _
  simp only [Act.put, List.setIfInBounds_toArray, List.set_cons_zero, List.set_cons_succ]
  refine anyK_take (i := 10) (v := ?_) rfl (by kernel_rfl) (by kernel_rfl) (by kernel_rfl) (N := 12) (by kernel_rfl) (by kernel_rfl) (by kernel_rfl) (fun _ _ _ h => h) (Or.inl ⟨by rfl, ?_⟩) hHeld ?_
  rotate_left 1
  · intro w hSw
    go_simp
    try with_reducible rfl
  show anyK _ _ _ _ _ _ _ _ (Act.put _ (some 12) _) _
  simp only [Act.put, List.setIfInBounds_toArray, List.set_cons_zero, List.set_cons_succ]
  clear hHeld
  have E1 : Ext w (w.drew.alloc (.cells #[.int .i64 q] 3)) := Ed.trans (ext_al _ _)
  refine anyK_one (i := 5) (by kernel_rfl) rfl (fun Kk hKk => ?_)
  refine stepK_buildI rfl _ rfl q rfl ?_
  refine hKk.out _ _ (fun _ => ⟨cell_ext p0 E1, cell_ext d0 E1, cell_ext d1 E1, cell_ext d2 E1, cell_ext d3 E1, cell_ext d4 E1, cell_ext d5 E1⟩) ?_
  clear hKk Kk
  show anyK _ _ _ _ _ _ _ _ (Act.put _ (some 7) _) _
  simp only [Act.put, List.setIfInBounds_toArray, List.set_cons_zero, List.set_cons_succ]
  obtain ⟨w1, hw1⟩ : ∃ w1, w.drew.alloc (.cells #[.int .i64 q] 3) = w1 := ⟨_, rfl⟩
  have rI : w1.heap[w.drew.heap.size]? = some (.cells #[.int .i64 q] 3 (0, 0)) := by rw [← hw1]; exact heap_alloc_new _ _
  rw [hw1] at E1 ⊢
  have iI : IntsAt w1 (some ⟨w.drew.heap.size, 0, none⟩) 1 [q] := ⟨rfl, Or.inr ⟨_, 0, rfl, (Array.getElem?_eq_some_iff.1 rI).1, fun u hu => by
    have : u = 0 := by omega
    subst this
    rw [cell_of_row w1 _ (0 + 0) _ _ (0, 0) rI]; rfl⟩⟩
  obtain ⟨SS, hSS⟩ : ∃ SS, w1.heap.size = SS := ⟨_, rfl⟩
  obtain ⟨w2, hw2⟩ : ∃ w2, w1.alloc (.cells #[.slice (some ⟨b, of, none⟩) n1 c1, .slice (some ⟨w.drew.heap.size, 0, none⟩) 1 1] 25) = w2 := ⟨_, rfl⟩
  have rS : w2.heap[SS]? = some (.cells #[.slice (some ⟨b, of, none⟩) n1 c1, .slice (some ⟨w.drew.heap.size, 0, none⟩) 1 1] 25 (0, 0)) := by rw [← hw2, ← hSS]; exact heap_alloc_new _ _
  have E12 : Ext w1 w2 := by rw [← hw2]; exact ext_al _ _
  have E2 : Ext w w2 := E1.trans E12
  refine anyK_one (i := 6) (by kernel_rfl) rfl (fun Kk hKk => ?_)
  refine stepK_buildS rfl _ _ rfl (some ⟨b, of, none⟩) n1 c1 (some ⟨w.drew.heap.size, 0, none⟩) 1 1 rfl rfl ?_
  rw [hw2, hSS]
  refine hKk.out _ _ (fun _ => ⟨cell_ext p0 E2, cell_ext d0 E2, cell_ext d1 E2, cell_ext d2 E2, cell_ext d3 E2, cell_ext d4 E2, cell_ext d5 E2⟩) ?_
  clear hKk Kk
  show anyK _ _ _ _ _ _ _ _ (Act.put _ (some 8) _) _
  simp only [Act.put, List.setIfInBounds_toArray, List.set_cons_zero, List.set_cons_succ]
  have HCo := Lib.hid (concatI_any SS (some ⟨b, of, none⟩) n1 c1 (some ⟨w.drew.heap.size, 0, none⟩) 1 1 ctl [q] w2 (HTl.out.ext E2) (iI.ext E12) (fun e => by cases e) (fun e => by cases e) (by have := Hn1.out; omega) (by decide) (by rw [cell_of_row w2 SS 0 _ _ (0, 0) rS]; rfl) (by rw [cell_of_row w2 SS 1 _ _ (0, 0) rS]; rfl))
  clear rI iI rS hw1 hw2 hSS
  refine anyK_one (i := 7) (by kernel_rfl) rfl (fun Kk hKk => ?_)
  go_simp
  (go_at_call 35; refine HCo.out.mono ?_; rintro e w3 ⟨v3, rfl, hown3, hx3⟩)
  have E3 := E2.trans hx3
  obtain ⟨a3, c3, rfl, hc3, hc3', hi3, ht3⟩ := ints_of_own hown3
  go_wp2_with fail
  refine hKk.out _ _ (fun _ => ⟨cell_ext p0 E3, cell_ext d0 E3, cell_ext d1 E3, cell_ext d2 E3, cell_ext d3 E3, cell_ext d4 E3, cell_ext d5 E3⟩) ?_
  clear hKk Kk
  simp only [List.setIfInBounds_toArray, List.set_cons_zero, List.set_cons_succ]
  refine anyK_one (i := 9) (by kernel_rfl) rfl (fun Kk hKk => ?_)
  go_simp
  (go_at_call 27; refine (HW.out w3).mono ?_; rintro e w4 ⟨rfl, hx4⟩)
  have E4 := E3.trans hx4
  go_wp2_with fail
  refine hKk.out _ _ (fun _ => ⟨cell_ext p0 E4, cell_ext d0 E4, cell_ext d1 E4, cell_ext d2 E4, cell_ext d3 E4, cell_ext d4 E4, cell_ext d5 E4⟩) ?_
  clear hKk Kk
  simp only [List.setIfInBounds_toArray, List.set_cons_zero, List.set_cons_succ]
  have HJJ := Lib.hid (HJ.out w4 E4 a3 (n1 + 1) c3 (hi3.ext hx4) (ht3.ext hx4) rfl hc3 (by unfold maxLen at hc3'; omega))
  unfold Apps at HJJ
  refine anyK_one (i := 11) (by kernel_rfl) rfl (fun Kk hKk => ?_)
  go_simp
  (go_at_call 34; refine HJJ.out.mono ?_; rintro e w5 ⟨rfl, v5, hM5, hB5⟩)
  go_wp2_with fail
  refine hKk.out _ _ (fun h => Bool.noConfusion (show true = false from h)) ?_
  clear hKk Kk
  simp only [List.setIfInBounds_toArray, List.set_cons_zero, List.set_cons_succ]
  refine anyK_done (by kernel_rfl) ?_ _
  have HEnd := Lib.hid (show ∃ v', Mv Bd v v' w w5 ∧ BdA w0 w5 Bd sp v' (ops ++ lJoined sp (lBody kk cnd) t (ctl ++ [q])) from ⟨v5, (Mv.of_ext E4).trans hM5, hB5⟩)
  clear hM5 hB5 E1 E2 E12 E3 E4 hx3 hx4 hown3 hi3 ht3 hc3 hc3' Ed HJJ HCo p0 d0 d1 d2 d3 d4 d5
  go_wp2_with fail
  go_end0
  exact ⟨rfl, HEnd.out⟩
end Go.Proofs.YthgmlhddanbbpaaDoor
namespace Go.Proofs.YthgmlhddanbbpaaDoor
open Go.RowKit

set_option maxRecDepth 100000 in
set_option maxHeartbeats 4000000 in
/-- One that is basic. -/
theorem lower_bas (w0 w : World) (Bd : Nat) (sp : Int) (v : Value) (ops : List Gop) (kd k : Int) (a1 : Option Addr) (n1 c1 : Nat) (q bt : Int) (a2 : Option Addr) (n2 c2 : Nat) (ctl cnd : List Int) (hB : BdA w0 w Bd sp v ops) (hL : OpL w0 ⟨kd, k, ctl, q, bt, cnd⟩ a1 n1 c1 a2 n2 c2) (hb : (n1 == 0 || (n1 == 1 && kd == 2)) = true) (hb1 : n1 * 8 ≤ 140737488355328) (hb2 : n2 * 8 ≤ 140737488355328) (hl : ops.length ≤ 100000) :
    Apps w0 Bd sp 15 #[.pointer (some ⟨Bd, 0, none⟩), .agg #[.int .i64 kd, .int .i64 k, .slice a1 n1 c1, .int .i64 q, .int .i64 bt, .slice a2 n2 c2]] w v ops [⟨kd, k, ctl, q, bt, cnd⟩] := by
  unfold Apps
  obtain ⟨u1, hu1⟩ : ∃ u1, w.alloc (.cells #[.pointer (some ⟨Bd, 0, none⟩)] 63) = u1 := ⟨_, rfl⟩
  have E1 : Ext w u1 := by rw [← hu1]; exact ext_al _ _
  have r1 : u1.heap[w.heap.size]? = some (.cells #[.pointer (some ⟨Bd, 0, none⟩)] 63 (0, 0)) := by rw [← hu1]; exact heap_alloc_new _ _
  obtain ⟨u2, hu2⟩ : ∃ u2, u1.alloc (.cells #[.int .i64 kd, .int .i64 k, .slice a1 n1 c1, .int .i64 q, .int .i64 bt, .slice a2 n2 c2] 51) = u2 := ⟨_, rfl⟩
  have E2 : Ext u1 u2 := by rw [← hu2]; exact ext_al _ _
  have s1 : u1.heap.size = w.heap.size + 1 := by rw [← hu1, World.size_alloc]
  have r2 : u2.heap[w.heap.size + 1]? = some (opC kd k a1 n1 c1 q bt a2 n2 c2) := by rw [← s1, ← hu2]; exact heap_alloc_new _ _
  have EE : Ext w u2 := E1.trans E2
  obtain ⟨H, hH⟩ : ∃ H, w.heap.size = H := ⟨_, rfl⟩
  have aP : Aw Bd v u2 H (.cells #[.pointer (some ⟨Bd, 0, none⟩)] 63 (0, 0)) := Aw.new hB (by omega) (by rw [← hH]; exact (E2.block _ (Array.getElem?_eq_some_iff.1 r1).1).trans r1)
  have aO : Aw Bd v u2 (H + 1) (opC kd k a1 n1 c1 q bt a2 n2 c2) := Aw.new hB (by omega) (by rw [← hH]; exact r2)
  have hW2 : (w.alloc (.cells #[.pointer (some ⟨Bd, 0, none⟩)] 63)).alloc (.cells #[.int .i64 kd, .int .i64 k, .slice a1 n1 c1, .int .i64 q, .int .i64 bt, .slice a2 n2 c2] 51) = u2 := by rw [hu1, hu2]
  have hBu := hB.ext' EE
  have p0 := aP.x0
  have d0 := aO.bx.x0; have d1 := aO.bx.x1; have d2 := aO.bx.x2; have d3 := aO.bx.x3; have d4 := aO.bx.x4; have d5 := aO.bx.x5
  have HBs := Lib.hid (isBasic_any kd k a1 n1 c1 q bt a2 n2 c2 u2)
  have HW := Lib.hid hW2; have HH := Lib.hid hH; have HEE := Lib.hid EE; have HBu := Lib.hid hBu
  rw [hb] at HBs
  have HC1 := Lib.hid (fun (wx : World) (hx : Ext u2 wx) => cloneI_any a1 n1 c1 ctl wx (hL.i1.ext (hBu.ext.trans hx)) hb1)
  have HC2 := Lib.hid (fun (wx : World) (hx : Ext u2 wx) => cloneI_any a2 n2 c2 cnd wx (hL.i2.ext (hBu.ext.trans hx)) hb2)
  have HaO := Lib.hid aO; have HaP := Lib.hid aP; have Hl := Lib.hid hl; have HB0 := Lib.hid hB
  have HH1 := Lib.hid (show w.heap.size ≤ H + 1 by omega)
  clear hB hL hb hb1 hb2 hl hu1 hu2 E1 E2 r1 r2 s1 EE hH aP aO hW2 hBu
  go_enter Tryd.func15, Tryd.ntmps15
  go_upto_region 1 with fail
  rw [HW.out, HH.out]
  clear HW HH
  go_wp2_with fail
  refine HBs.out.mono ?_
  rintro e u3 ⟨rfl, hx3⟩
  have HX3 := Lib.hid hx3
  have e2 := cell_ext d2 hx3; have e5 := cell_ext d5 hx3
  clear hx3 HBs
  go_upto_region 2 with fail
  have Ed : Ext u3 u3.drew := Below.drew (Ext.refl _)
  refine wp_region_any (by kernel_rfl) (anyT_plain (k := 7) (S := fun w' => w'.cell? ⟨H + 1, 2, none⟩ = some (.slice a1 n1 c1) ∧ w'.cell? ⟨H + 1, 5, none⟩ = some (.slice a2 n2 c2)) (T := fun w' => True) _ _ _ _ ?_)
  show anyT _ _ _ _ _ _ _ 10 #[false, false, false, false, false, false, false, false, false, false] _ _
  have hT : True := trivial
  have hHeld : u3.drew.cell? ⟨H + 1, 2, none⟩ = some (.slice a1 n1 c1) ∧ u3.drew.cell? ⟨H + 1, 5, none⟩ = some (.slice a2 n2 c2) := ⟨cell_ext e2 Ed, cell_ext e5 Ed⟩
  refine anyT_takeT (i := 0) (v := ?_) rfl (by decide) (by kernel_rfl) (by kernel_rfl) (by kernel_rfl) (fun _ _ _ h => h) (Or.inl ⟨by rfl, ?_⟩) hT (fun _ => hHeld) ?_
  rotate_left 1
  · intro w hSw
    go_simp
    try with_reducible rfl
  show anyT _ _ _ _ _ _ _ _ _ (Act.put _ (some 7) _) _
  simp only [Act.put, List.setIfInBounds_toArray, List.set_cons_zero, List.set_cons_succ]
  refine anyT_take (i := 1) (v := ?_) rfl (by kernel_rfl) (by kernel_rfl) (by kernel_rfl) (N := 10) (by kernel_rfl) (by kernel_rfl) (by kernel_rfl) (fun _ _ _ h => h) (Or.inl ⟨by rfl, ?_⟩) hHeld hT ?_
  rotate_left 1
  · intro w hSw
    go_simp
    try with_reducible rfl
  show anyT _ _ _ _ _ _ _ _ _ (Act.put _ (some 8) _) _
  simp only [Act.put, List.setIfInBounds_toArray, List.set_cons_zero, List.set_cons_succ]
  refine anyT_takeT (i := 3) (v := ?_) rfl (by decide) (by kernel_rfl) (by kernel_rfl) (by kernel_rfl) (fun _ _ _ h => h) (Or.inl ⟨by rfl, ?_⟩) hT (fun _ => hHeld) ?_
  rotate_left 1
  · intro w hSw
    go_simp
    try with_reducible rfl
  show anyT _ _ _ _ _ _ _ _ _ (Act.put _ (some 10) _) _
  simp only [Act.put, List.setIfInBounds_toArray, List.set_cons_zero, List.set_cons_succ]
  refine anyT_take (i := 4) (v := ?_) rfl (by kernel_rfl) (by kernel_rfl) (by kernel_rfl) (N := 10) (by kernel_rfl) (by kernel_rfl) (by kernel_rfl) (fun _ _ _ h => h) (Or.inl ⟨by rfl, ?_⟩) hHeld hT ?_
  rotate_left 1
  · intro w hSw
    go_simp
    try with_reducible rfl
  show anyT _ _ _ _ _ _ _ _ _ (Act.put _ (some 11) _) _
  simp only [Act.put, List.setIfInBounds_toArray, List.set_cons_zero, List.set_cons_succ]
  clear hT hHeld
  refine anyT_one (i := 2) (by kernel_rfl) rfl (fun Kk hKk => ?_)
  go_simp
  (go_at_call 29; refine (HC1.out u3.drew (HX3.out.trans Ed)).mono ?_; rintro e u4 ⟨a3, c3, rfl, hc3, hc3', hi3, ht3, hx4⟩)
  have E4 := Ed.trans hx4
  go_wp2_with fail
  refine hKk.out _ _ (trivial) (fun _ => ⟨cell_ext e2 E4, cell_ext e5 E4⟩) ?_
  clear hKk Kk
  simp only [List.setIfInBounds_toArray, List.set_cons_zero, List.set_cons_succ]
  have hT : True := trivial
  have hHeld : u4.cell? ⟨H + 1, 2, none⟩ = some (.slice a1 n1 c1) ∧ u4.cell? ⟨H + 1, 5, none⟩ = some (.slice a2 n2 c2) := ⟨cell_ext e2 E4, cell_ext e5 E4⟩
  refine anyT_takeT (i := 6) (v := ?_) rfl (by decide) (by kernel_rfl) (by kernel_rfl) (by kernel_rfl) (fun _ _ _ h => h) (Or.inl ⟨by rfl, ?_⟩) hT (fun _ => hHeld) ?_
  rotate_left 1
  · intro w hSw
    go_simp
    try with_reducible rfl
  show anyT _ _ _ _ _ _ _ _ _ (Act.put _ (some 13) _) _
  simp only [Act.put, List.setIfInBounds_toArray, List.set_cons_zero, List.set_cons_succ]
  clear hT hHeld
  refine anyT_one (i := 5) (by kernel_rfl) rfl (fun Kk hKk => ?_)
  go_simp
  (go_at_call 29; refine (HC2.out u4 (HX3.out.trans E4)).mono ?_; rintro e u5 ⟨a5, c5, rfl, hc5, hc5', hi5, ht5, hx5⟩)
  have E5 := E4.trans hx5
  go_wp2_with fail
  refine hKk.out _ _ (trivial) (fun _ => ⟨cell_ext e2 E5, cell_ext e5 E5⟩) ?_
  clear hKk Kk
  simp only [List.setIfInBounds_toArray, List.set_cons_zero, List.set_cons_succ]
  have b5 := (HaO.out.bx.ext HX3.out).ext E5
  have y2 := b5.x2; have f2 := b5.f 2
  refine anyT_one (i := 7) (by kernel_rfl) rfl (fun Kk hKk => ?_)
  refine stepK_storeI rfl rfl _ _ rfl (H + 1) 2 a3 n1 c3 (.slice a1 n1 c1) rfl rfl y2 f2 ?_
  refine hKk.out _ _ (trivial) (fun h => Bool.noConfusion (show true = false from h)) ?_
  clear hKk Kk
  simp only [List.setIfInBounds_toArray, List.set_cons_zero, List.set_cons_succ]
  have b6 : OpBx (u5.setCell ⟨H + 1, 2, none⟩ (.slice a3 n1 c3)) (H + 1) kd k a3 n1 c3 q bt a2 n2 c2 := ⟨heap_setCell_same u5 (H + 1) 2 _ _ (.slice a3 n1 c3) b5.row⟩
  have y5 := b6.x5; have f5 := b6.f 5
  have hT : True := trivial
  refine anyT_takeT (i := 8) (v := ?_) rfl (by decide) (by kernel_rfl) (by kernel_rfl) (by kernel_rfl) (fun _ _ _ h => h) (Or.inl ⟨by rfl, ?_⟩) hT (fun h => Bool.noConfusion (show true = false from h)) ?_
  rotate_left 1
  · intro w hSw
    go_simp
    try with_reducible rfl
  show anyT _ _ _ _ _ _ _ _ _ (Act.put _ (some 14) _) _
  simp only [Act.put, List.setIfInBounds_toArray, List.set_cons_zero, List.set_cons_succ]
  clear hT
  refine anyT_one (i := 9) (by kernel_rfl) rfl (fun Kk hKk => ?_)
  refine stepK_storeI rfl rfl _ _ rfl (H + 1) 5 a5 n2 c5 (.slice a2 n2 c2) rfl rfl y5 f5 ?_
  refine hKk.out _ _ (trivial) (fun h => Bool.noConfusion (show true = false from h)) ?_
  clear hKk Kk
  simp only [List.setIfInBounds_toArray, List.set_cons_zero, List.set_cons_succ]
  refine anyT_done (by kernel_rfl) ?_ _
  have b7 : OpBx ((u5.setCell ⟨H + 1, 2, none⟩ (.slice a3 n1 c3)).setCell ⟨H + 1, 5, none⟩ (.slice a5 n2 c5)) (H + 1) kd k a3 n1 c3 q bt a5 n2 c5 := ⟨heap_setCell_same _ (H + 1) 5 _ _ (.slice a5 n2 c5) b6.row⟩
  have on7 : Only (H + 1) u5 ((u5.setCell ⟨H + 1, 2, none⟩ (.slice a3 n1 c3)).setCell ⟨H + 1, 5, none⟩ (.slice a5 n2 c5)) := ((Only.refl _ _).setCell _ _).setCell _ _
  have hin := only_ints b5.row (by decide) on7
  have hsz : u5.heap.size ≤ ((u5.setCell ⟨H + 1, 2, none⟩ (.slice a3 n1 c3)).setCell ⟨H + 1, 5, none⟩ (.slice a5 n2 c5)).heap.size := by rw [on7.size]; exact Nat.le_refl _
  have E7 : Ext w ((u5.setCell ⟨H + 1, 2, none⟩ (.slice a3 n1 c3)).setCell ⟨H + 1, 5, none⟩ (.slice a5 n2 c5)) := ext_only (HEE.out.trans (HX3.out.trans E5)) on7 HH1.out
  have hOO : OpO ((u5.setCell ⟨H + 1, 2, none⟩ (.slice a3 n1 c3)).setCell ⟨H + 1, 5, none⟩ (.slice a5 n2 c5)) ⟨kd, k, ctl, q, bt, cnd⟩ a3 n1 c3 a5 n2 c5 := ⟨⟨(hi3.ext hx5).keep (ht3.ext hx5) hsz hin, hc3, by unfold maxLen at hc3'; omega, hi5.keep ht5 hsz hin, hc5, by unfold maxLen at hc5'; omega⟩, (ht3.ext hx5).keep hin, ht5.keep hin⟩
  have a7 : ((u5.setCell ⟨H + 1, 2, none⟩ (.slice a3 n1 c3)).setCell ⟨H + 1, 5, none⟩ (.slice a5 n2 c5)).heap[H]? = some (.cells #[.pointer (some ⟨Bd, 0, none⟩)] 63 (0, 0)) := (on7.block H (by omega)).trans (((HaP.out.ext HX3.out).ext E5).row)
  generalize (u5.setCell ⟨H + 1, 2, none⟩ (.slice a3 n1 c3)).setCell ⟨H + 1, 5, none⟩ (.slice a5 n2 c5) = w6 at *
  have HOO := Lib.hid hOO; have Hb7 := Lib.hid b7; have HE7 := Lib.hid E7; have HB6 := Lib.hid (HB0.out.ext' E7); have Hnv := Lib.hid HaO.out.nv
  have q0 : w6.cell? ⟨H, 0, none⟩ = some (.pointer (some ⟨Bd, 0, none⟩)) := by rw [cell_of_row w6 H 0 _ _ (0, 0) a7]; rfl
  have Ha7 := Lib.hid a7; have HnP := Lib.hid HaP.out.nv; have HnB := Lib.hid HaP.out.ne; have HnO := Lib.hid HaO.out.ne
  clear hOO b7 E7 on7 hin hsz hi3 ht3 hc3 hc3' hi5 ht5 hc5 hc5' hx4 hx5 E4 E5 Ed b5 b6 y2 f2 y5 f5 e2 e5 a7 HX3 HaO HaP p0 d0 d1 d2 d3 d4 d5 HC1 HC2 HEE HBu
  go_upto_region 3 with fail
  obtain ⟨va, vc, hva⟩ := HB6.out.sl
  subst hva
  obtain ⟨LL, hLL⟩ : ∃ LL, ops.length = LL := ⟨_, rfl⟩
  rw [hLL] at HB6 HnP Hnv HB0
  have HLL := Lib.hid hLL
  have x1 := HB6.out.x1
  have p0 := Hb7.out.x0; have p1 := Hb7.out.x1; have p2 := Hb7.out.x2; have p3 := Hb7.out.x3; have p4 := Hb7.out.x4; have p5 := Hb7.out.x5
  have Ed : Ext w6 w6.drew := Below.drew (Ext.refl _)
  clear hLL
  refine wp_region_K 10 (fun w' => w'.cell? ⟨H, 0, none⟩ = some (.pointer (some ⟨Bd, 0, none⟩)) ∧ w'.cell? ⟨Bd, 1, none⟩ = some (.slice va LL vc) ∧ w'.cell? ⟨H + 1, 0, none⟩ = some (.int .i64 kd) ∧ w'.cell? ⟨H + 1, 1, none⟩ = some (.int .i64 k) ∧ w'.cell? ⟨H + 1, 2, none⟩ = some (.slice a3 n1 c3) ∧ w'.cell? ⟨H + 1, 3, none⟩ = some (.int .i64 q) ∧ w'.cell? ⟨H + 1, 4, none⟩ = some (.int .i64 bt) ∧ w'.cell? ⟨H + 1, 5, none⟩ = some (.slice a5 n2 c5)) (by kernel_rfl) ?_
  show anyK _ _ _ _ _ _ 11 #[false, false, false, false, false, false, false, false, false, false, false] _ _
  have hHeld : w6.drew.cell? ⟨H, 0, none⟩ = some (.pointer (some ⟨Bd, 0, none⟩)) ∧ w6.drew.cell? ⟨Bd, 1, none⟩ = some (.slice va LL vc) ∧ w6.drew.cell? ⟨H + 1, 0, none⟩ = some (.int .i64 kd) ∧ w6.drew.cell? ⟨H + 1, 1, none⟩ = some (.int .i64 k) ∧ w6.drew.cell? ⟨H + 1, 2, none⟩ = some (.slice a3 n1 c3) ∧ w6.drew.cell? ⟨H + 1, 3, none⟩ = some (.int .i64 q) ∧ w6.drew.cell? ⟨H + 1, 4, none⟩ = some (.int .i64 bt) ∧ w6.drew.cell? ⟨H + 1, 5, none⟩ = some (.slice a5 n2 c5) := ⟨cell_ext q0 Ed, cell_ext x1 Ed, cell_ext p0 Ed, cell_ext p1 Ed, cell_ext p2 Ed, cell_ext p3 Ed, cell_ext p4 Ed, cell_ext p5 Ed⟩
  refine anyK_take (i := 0) (v := ?_) rfl (by kernel_rfl) (by kernel_rfl) (by kernel_rfl) (N := 11) (by kernel_rfl) (by kernel_rfl) (by kernel_rfl) (fun _ _ _ h => h) (Or.inl ⟨by rfl, ?_⟩) hHeld ?_
  rotate_left 1
  · intro w hSw
    go_simp
    try with_reducible rfl
  show anyK _ _ _ _ _ _ _ _ (Act.put _ (some 15) _) _
  simp only [Act.put, List.setIfInBounds_toArray, List.set_cons_zero, List.set_cons_succ]
  refine anyK_take (i := 1) (v := ?_) rfl (by kernel_rfl) (by kernel_rfl) (by kernel_rfl) (N := 11) (by kernel_rfl) (by kernel_rfl) (by kernel_rfl) (fun _ _ _ h => h) (Or.inl ⟨by rfl, ?_⟩) hHeld ?_
  rotate_left 1
  · intro w hSw
    go_simp
    try with_reducible rfl
  show anyK _ _ _ _ _ _ _ _ (Act.put _ (some 16) _) _
  simp only [Act.put, List.setIfInBounds_toArray, List.set_cons_zero, List.set_cons_succ]
  refine anyK_take (i := 2) (v := ?_) rfl (by kernel_rfl) (by kernel_rfl) (by kernel_rfl) (N := 11) (by kernel_rfl) (by kernel_rfl) (by kernel_rfl) (fun _ _ _ h => h) (Or.inl ⟨by rfl, ?_⟩) hHeld ?_
  rotate_left 1
  · intro w hSw
    go_simp
    try with_reducible rfl
  show anyK _ _ _ _ _ _ _ _ (Act.put _ (some 17) _) _
  simp only [Act.put, List.setIfInBounds_toArray, List.set_cons_zero, List.set_cons_succ]
  refine anyK_take (i := 3) (v := ?_) rfl (by kernel_rfl) (by kernel_rfl) (by kernel_rfl) (N := 11) (by kernel_rfl) (by kernel_rfl) (by kernel_rfl) (fun _ _ _ h => h) (Or.inl ⟨by rfl, ?_⟩) hHeld ?_
  rotate_left 1
  · intro w hSw
    go_simp
    try with_reducible rfl
  show anyK _ _ _ _ _ _ _ _ (Act.put _ (some 18) _) _
  simp only [Act.put, List.setIfInBounds_toArray, List.set_cons_zero, List.set_cons_succ]
  refine anyK_take (i := 4) (v := ?_) rfl (by kernel_rfl) (by kernel_rfl) (by kernel_rfl) (N := 11) (by kernel_rfl) (by kernel_rfl) (by kernel_rfl) (fun _ _ _ h => h) (Or.inl ⟨by rfl, ?_⟩) hHeld ?_
  rotate_left 1
  · intro w hSw
    go_simp
    try with_reducible rfl
  show anyK _ _ _ _ _ _ _ _ (Act.put _ (some 19) _) _
  simp only [Act.put, List.setIfInBounds_toArray, List.set_cons_zero, List.set_cons_succ]
  refine anyK_take (i := 5) (v := ?_) rfl (by kernel_rfl) (by kernel_rfl) (by kernel_rfl) (N := 11) (by kernel_rfl) (by kernel_rfl) (by kernel_rfl) (fun _ _ _ h => h) (Or.inl ⟨by rfl, ?_⟩) hHeld ?_
  rotate_left 1
  · intro w hSw
    go_simp
    try with_reducible rfl
  show anyK _ _ _ _ _ _ _ _ (Act.put _ (some 20) _) _
  simp only [Act.put, List.setIfInBounds_toArray, List.set_cons_zero, List.set_cons_succ]
  clear hHeld
  have E7 : Ext w6 (w6.drew.alloc (.cells #[.int .i64 kd, .int .i64 k, .slice a3 n1 c3, .int .i64 q, .int .i64 bt, .slice a5 n2 c5] 51)) := Ed.trans (ext_al _ _)
  refine anyK_one (i := 6) (by kernel_rfl) rfl (fun Kk hKk => ?_)
  refine stepK_buildO rfl _ rfl kd k a3 n1 c3 q bt a5 n2 c5 rfl ?_
  refine hKk.out _ _ (fun _ => ⟨cell_ext q0 E7, cell_ext x1 E7, cell_ext p0 E7, cell_ext p1 E7, cell_ext p2 E7, cell_ext p3 E7, cell_ext p4 E7, cell_ext p5 E7⟩) ?_
  clear hKk Kk
  show anyK _ _ _ _ _ _ _ _ (Act.put _ (some 21) _) _
  simp only [Act.put, List.setIfInBounds_toArray, List.set_cons_zero, List.set_cons_succ]
  have B7 := HB6.out.ext' E7
  have O7 := HOO.out.ext E7
  obtain ⟨a8, c8, w8, r8, k8, m8, B8, M8⟩ := bd_append B7 22 (a := some ⟨w6.drew.heap.size, 0, none⟩) (n := 1) (c := 1) (gs := [⟨kd, k, ctl, q, bt, cnd⟩]) rfl (fun e => by cases e) _ rfl (fun ad e => by cases e; exact new_op w6.drew _ _ _ _ _ _ _ _ _ _ _) (one_op _ _ _ _ _ _ _ _ _ _) (RowL.one O7) (by have := Hl.out; omega)
  rw [HLL.out] at r8 B8 M8 m8
  have y8 : w8.cell? ⟨Bd, 1, none⟩ = some (.slice va LL vc) := (World.cell?_of_block (a := ⟨Bd, 1, none⟩) k8).trans (cell_ext x1 E7)
  have f8 : w8.frozen? ⟨Bd, 1, none⟩ = false := (World.frozen?_of_block (a := ⟨Bd, 1, none⟩) k8).trans (B7.f 1)
  have bb8 : OpBx w8 (H + 1) kd k a3 n1 c3 q bt a5 n2 c5 := ⟨(m8.block (H + 1) (Nat.lt_of_lt_of_le Hb7.out.lt E7.size) HnO.out Hnv.out).trans (Hb7.out.ext E7).row⟩
  have q8 : w8.cell? ⟨H, 0, none⟩ = some (.pointer (some ⟨Bd, 0, none⟩)) := by
    have hq := (m8.block H (Nat.lt_of_lt_of_le (Array.getElem?_eq_some_iff.1 Ha7.out).1 E7.size) HnB.out HnP.out).trans ((E7.block H (Array.getElem?_eq_some_iff.1 Ha7.out).1).trans Ha7.out)
    rw [cell_of_row w8 H 0 _ _ (0, 0) hq]; rfl
  have h8 : w8.cell? ⟨H, 0, none⟩ = some (.pointer (some ⟨Bd, 0, none⟩)) ∧ w8.cell? ⟨Bd, 1, none⟩ = some (.slice va LL vc) ∧ w8.cell? ⟨H + 1, 0, none⟩ = some (.int .i64 kd) ∧ w8.cell? ⟨H + 1, 1, none⟩ = some (.int .i64 k) ∧ w8.cell? ⟨H + 1, 2, none⟩ = some (.slice a3 n1 c3) ∧ w8.cell? ⟨H + 1, 3, none⟩ = some (.int .i64 q) ∧ w8.cell? ⟨H + 1, 4, none⟩ = some (.int .i64 bt) ∧ w8.cell? ⟨H + 1, 5, none⟩ = some (.slice a5 n2 c5) := ⟨q8, y8, bb8.x0, bb8.x1, bb8.x2, bb8.x3, bb8.x4, bb8.x5⟩
  refine anyK_one (i := 7) (by kernel_rfl) rfl (fun Kk hKk => ?_)
  refine stepK_append rfl _ _ 22 rfl (.slice va LL vc) (.slice (some ⟨w6.drew.heap.size, 0, none⟩) 1 1) _ rfl rfl r8 ?_
  refine hKk.out _ _ (fun _ => h8) ?_
  clear hKk Kk
  show anyK _ _ _ _ _ _ _ _ (Act.put _ (some 22) _) _
  simp only [Act.put, List.setIfInBounds_toArray, List.set_cons_zero, List.set_cons_succ]
  have hHeld := h8
  refine anyK_take (i := 8) (v := ?_) rfl (by kernel_rfl) (by kernel_rfl) (by kernel_rfl) (N := 11) (by kernel_rfl) (by kernel_rfl) (by kernel_rfl) (fun _ _ _ h => h) (Or.inl ⟨by rfl, ?_⟩) hHeld ?_
  rotate_left 1
  · intro w hSw
    go_simp
    try with_reducible rfl
  show anyK _ _ _ _ _ _ _ _ (Act.put _ (some 23) _) _
  simp only [Act.put, List.setIfInBounds_toArray, List.set_cons_zero, List.set_cons_succ]
  refine anyK_take (i := 9) (v := ?_) rfl (by kernel_rfl) (by kernel_rfl) (by kernel_rfl) (N := 11) (by kernel_rfl) (by kernel_rfl) (by kernel_rfl) (fun _ _ _ h => h) (Or.inl ⟨by rfl, ?_⟩) hHeld ?_
  rotate_left 1
  · intro w hSw
    go_simp
    try with_reducible rfl
  show anyK _ _ _ _ _ _ _ _ (Act.put _ (some 24) _) _
  simp only [Act.put, List.setIfInBounds_toArray, List.set_cons_zero, List.set_cons_succ]
  clear hHeld
  refine anyK_one (i := 10) (by kernel_rfl) rfl (fun Kk hKk => ?_)
  refine stepK_store rfl rfl _ _ rfl Bd 1 a8 (LL + 1) c8 (.slice va LL vc) rfl rfl y8 f8 ?_
  refine hKk.out _ _ (fun h => Bool.noConfusion (show true = false from h)) ?_
  clear hKk Kk
  simp only [List.setIfInBounds_toArray, List.set_cons_zero, List.set_cons_succ]
  refine anyK_done (by kernel_rfl) ?_ _
  have HEnd := Lib.hid (show ∃ v', Mv Bd (.slice va LL vc) v' w (w8.setCell ⟨Bd, 1, none⟩ (.slice a8 (LL + 1) c8)) ∧ BdA w0 (w8.setCell ⟨Bd, 1, none⟩ (.slice a8 (LL + 1) c8)) Bd sp v' (ops ++ [⟨kd, k, ctl, q, bt, cnd⟩]) from ⟨_, (Mv.of_ext (HE7.out.trans E7)).trans M8, B8⟩)
  generalize w8.setCell ⟨Bd, 1, none⟩ (.slice a8 (LL + 1) c8) = W9 at *
  clear B7 O7 r8 k8 m8 B8 M8 y8 f8 bb8 q8 h8 E7 Ed x1 q0 p0 p1 p2 p3 p4 p5
  go_wp2_with fail
  go_end0
  exact ⟨rfl, by have := HEnd.out; rw [← HLL.out] at this; exact this⟩

set_option maxRecDepth 100000 in
set_option maxHeartbeats 4000000 in
/-- One that is not. -/
theorem lower_not (w0 w : World) (Bd : Nat) (sp : Int) (v : Value) (ops : List Gop) (kd k : Int) (a1 : Option Addr) (n1 c1 : Nat) (q bt : Int) (a2 : Option Addr) (n2 c2 : Nat) (ctl cnd : List Int) (hB : BdA w0 w Bd sp v ops) (hL : OpL w0 ⟨kd, k, ctl, q, bt, cnd⟩ a1 n1 c1 a2 n2 c2) (hb : (n1 == 0 || (n1 == 1 && kd == 2)) = false) (N : Int) (f : OpFit ⟨kd, k, ctl, q, bt, cnd⟩ sp N) (hsp : 0 ≤ sp ∧ sp + (wnt ⟨kd, k, ctl, q, bt, cnd⟩ : Nat) ≤ 12) (hn2 : n2 ≤ 24) (hbr : BruL w0) (hS : Shp w0) (hl : ops.length ≤ 90000) :
    Apps w0 Bd sp 15 #[.pointer (some ⟨Bd, 0, none⟩), .agg #[.int .i64 kd, .int .i64 k, .slice a1 n1 c1, .int .i64 q, .int .i64 bt, .slice a2 n2 c2]] w v ops (if ang ⟨kd, k, ctl, q, bt, cnd⟩ = 0 then [] else lAround ⟨kd, k, ctl, q, bt, cnd⟩ ++ lJoined sp (lBody (ang ⟨kd, k, ctl, q, bt, cnd⟩) cnd) (wnt ⟨kd, k, ctl, q, bt, cnd⟩) (ctl ++ [q]) ++ invO (lAround ⟨kd, k, ctl, q, bt, cnd⟩)) := by
  unfold Apps
  obtain ⟨u1, hu1⟩ : ∃ u1, w.alloc (.cells #[.pointer (some ⟨Bd, 0, none⟩)] 63) = u1 := ⟨_, rfl⟩
  have E1 : Ext w u1 := by rw [← hu1]; exact ext_al _ _
  have r1 : u1.heap[w.heap.size]? = some (.cells #[.pointer (some ⟨Bd, 0, none⟩)] 63 (0, 0)) := by rw [← hu1]; exact heap_alloc_new _ _
  obtain ⟨u2, hu2⟩ : ∃ u2, u1.alloc (.cells #[.int .i64 kd, .int .i64 k, .slice a1 n1 c1, .int .i64 q, .int .i64 bt, .slice a2 n2 c2] 51) = u2 := ⟨_, rfl⟩
  have E2 : Ext u1 u2 := by rw [← hu2]; exact ext_al _ _
  have s1 : u1.heap.size = w.heap.size + 1 := by rw [← hu1, World.size_alloc]
  have r2 : u2.heap[w.heap.size + 1]? = some (opC kd k a1 n1 c1 q bt a2 n2 c2) := by rw [← s1, ← hu2]; exact heap_alloc_new _ _
  have EE : Ext w u2 := E1.trans E2
  obtain ⟨H, hH⟩ : ∃ H, w.heap.size = H := ⟨_, rfl⟩
  have aP : Aw Bd v u2 H (.cells #[.pointer (some ⟨Bd, 0, none⟩)] 63 (0, 0)) := Aw.new hB (by omega) (by rw [← hH]; exact (E2.block _ (Array.getElem?_eq_some_iff.1 r1).1).trans r1)
  have aO : Aw Bd v u2 (H + 1) (opC kd k a1 n1 c1 q bt a2 n2 c2) := Aw.new hB (by omega) (by rw [← hH]; exact r2)
  have hW2 : (w.alloc (.cells #[.pointer (some ⟨Bd, 0, none⟩)] 63)).alloc (.cells #[.int .i64 kd, .int .i64 k, .slice a1 n1 c1, .int .i64 q, .int .i64 bt, .slice a2 n2 c2] 51) = u2 := by rw [hu1, hu2]
  have hBu := hB.ext' EE
  have p0 := aP.x0
  have d0 := aO.bx.x0; have d1 := aO.bx.x1; have d2 := aO.bx.x2; have d3 := aO.bx.x3; have d4 := aO.bx.x4; have d5 := aO.bx.x5
  have HBs := Lib.hid (isBasic_any kd k a1 n1 c1 q bt a2 n2 c2 u2)
  have HW := Lib.hid hW2; have HH := Lib.hid hH; have HEE := Lib.hid EE; have HBu := Lib.hid hBu
  rw [hb] at HBs
  obtain ⟨kk, hkk⟩ : ∃ kk : Int, (if kd = 2 ∨ kd = 3 then 8 else k) = kk := ⟨_, rfl⟩
  have hang : ang ⟨kd, k, ctl, q, bt, cnd⟩ = kk := hkk
  have hlen : ctl.length = n1 := hL.i1.1
  have hn1 : 1 ≤ n1 := by
    cases n1 with
    | zero => simp at hb
    | succ => omega
  have hwnt : wnt ⟨kd, k, ctl, q, bt, cnd⟩ = wntF kk n1 := by unfold wnt; rw [hang]; show wntF kk ctl.length = _; rw [hlen]
  have hf := f.len (show 0 < ctl.length by omega) (by have := wnt ⟨kd, k, ctl, q, bt, cnd⟩; omega)
  simp only at hf
  have hq := f.q (show 0 < ctl.length by omega)
  simp only at hq
  rw [hang, hwnt]
  rw [hwnt] at hsp
  have hjn := joined_all w0 Bd sp H (H + 1) 63 kd k a1 n1 c1 q bt a2 n2 c2 cnd kk hkk hL.i2 hn2 f.k hbr hS hsp.1 (wntF kk n1) hsp.2
  have hnd : (ctl ++ [q]).Nodup := by
    rw [List.nodup_append]
    refine ⟨f.nd, by simp, fun a ha b hb => ?_⟩
    have : b = q := by simpa using hb
    rw [this]
    exact (f.ctl a ha).2
  have hr : ∀ c ∈ ctl ++ [q], (0 ≤ c ∧ c < 12) ∧ (c < sp ∨ sp + (wntF kk n1 : Nat) ≤ c) := by
    intro c hc
    have hw0 := Int.natCast_nonneg (wntF kk n1)
    rcases List.mem_append.1 hc with hc | hc
    · have := (f.ctl c hc).1
      exact ⟨by omega, Or.inl (by omega)⟩
    · have e : c = q := by simpa using hc
      rw [e]
      exact ⟨by omega, Or.inl (by omega)⟩
  have hbody := fun (wx : World) (vx : Value) (gs : List Gop) (hg : gs.length ≤ 4) (hM : Mv Bd v vx u2 wx) (hBx : BdA w0 wx Bd sp vx (ops ++ gs)) => lower1_any w0 wx Bd sp vx (ops ++ gs) H (H + 1) 63 kd k a1 n1 c1 q bt a2 n2 c2 ctl cnd kk hkk hBx (aP.mv hM) (aO.mv hM) hL.i1 ⟨hn1, by omega⟩ hjn f.k.1 hnd hr (by rw [List.length_append]; omega)
  have hpur : (pur ⟨12, 0, lAround ⟨kd, k, ctl, q, bt, cnd⟩⟩).1 = 0 := pur_gates (Nat.le_trans (len_around _) (by decide)) (lOk_around (by show 0 ≤ q ∧ q < 12; have hw0 := Int.natCast_nonneg (wntF kk n1); omega)) (fun g hg => ⟨by have := kind_around hg; omega, by
    unfold lAround at hg
    split at hg
    · simp only [List.mem_cons, List.not_mem_nil, or_false] at hg
      rw [hg]; rfl
    · split at hg
      · simp only [List.mem_cons, List.not_mem_nil, or_false] at hg
        rcases hg with rfl | rfl | rfl | rfl <;> rfl
      · simp at hg⟩)
  have hmore : (lJoined sp (lBody kk cnd) (wntF kk n1) (ctl ++ [q])).length ≤ 100000 := by
    have hw := wntF_le kk n1
    obtain ⟨l, h1, h2⟩ := len_joined sp (lBody kk cnd) (wntF kk n1) (ctl ++ [q]) (by rw [List.length_append, hlen]; simp; omega)
    rw [h2]
    have h3 := (len_all l cnd (kk / 2 ^ (l.length - 1)) l.length (Nat.le_refl _)).1
    have h4 : 2 ^ l.length ≤ 2 ^ 12 := Nat.pow_le_pow_right (by decide) (by rw [h1, List.length_append, hlen]; simp; omega)
    have h5 : (2 : Nat) ^ 12 = 4096 := by decide
    unfold lBody
    omega
  have HA := Lib.hid (fun wx => angle_any kd k a1 n1 c1 q bt a2 n2 c2 wx)
  rw [hkk] at HA
  have HAr := Lib.hid (fun wx => around_any kd k a1 n1 c1 q bt a2 n2 c2 ctl cnd wx)
  have Hbody := Lib.hid hbody; have HB0 := Lib.hid hB; have Hpur := Lib.hid hpur; have Hmore := Lib.hid hmore; have HS := Lib.hid hS; have Hl := Lib.hid hl
  have Hla := Lib.hid (len_around ⟨kd, k, ctl, q, bt, cnd⟩)
  clear hB hL hb hl hu1 hu2 E1 E2 r1 r2 s1 EE hH aP aO hW2 hBu hkk hang hlen hn1 hwnt hf hq f hsp hn2 hbr hS hjn hnd hr hbody hpur hmore
  generalize lAround ⟨kd, k, ctl, q, bt, cnd⟩ = GS at *
  generalize lJoined sp (lBody kk cnd) (wntF kk n1) (ctl ++ [q]) = MO at *
  by_cases hz : kk = 0
  · have bz := nf' hz
    have HEnd := Lib.hid (show ∀ wx, Ext w wx → ∃ v', Mv Bd v v' w wx ∧ BdA w0 wx Bd sp v' ops from fun wx hx => ⟨v, Mv.of_ext hx, HB0.out.ext' hx⟩)
    have Hif := Lib.hid (show (if kk = 0 then ([] : List Gop) else GS ++ MO ++ invO GS) = [] from if_pos hz)
    rw [Hif.out, List.append_nil]
    clear Hif
    clear hz
    go_enter Tryd.func15, Tryd.ntmps15
    go_upto_region 1 with fail
    rw [HW.out, HH.out]
    clear HW HH
    go_wp2_with fail
    refine HBs.out.mono ?_
    rintro e u3 ⟨rfl, hx3⟩
    have e0 := cell_ext d0 hx3; have e1 := cell_ext d1 hx3; have e2 := cell_ext d2 hx3; have e3 := cell_ext d3 hx3; have e4 := cell_ext d4 hx3; have e5 := cell_ext d5 hx3
    have HX3 := Lib.hid hx3
    clear hx3 HBs d0 d1 d2 d3 d4 d5
    go_wp2_with fail
    refine (HA.out u3).mono ?_
    rintro e u4 ⟨rfl, hx4⟩
    have HX4 := Lib.hid (HEnd.out u4 (HEE.out.trans (HX3.out.trans hx4)))
    clear hx4 HEnd e0 e1 e2 e3 e4 e5
    go_wp2_with fail
    go_end0
    exact ⟨rfl, HX4.out⟩
  have bz := nt hz
  have Hif := Lib.hid (show (if kk = 0 then ([] : List Gop) else GS ++ MO ++ invO GS) = GS ++ MO ++ invO GS from if_neg hz)
  rw [Hif.out]
  clear hz Hif
  go_enter Tryd.func15, Tryd.ntmps15
  go_upto_region 1 with fail
  rw [HW.out, HH.out]
  clear HW HH
  go_wp2_with fail
  refine HBs.out.mono ?_
  rintro e u3 ⟨rfl, hx3⟩
  have e0 := cell_ext d0 hx3; have e1 := cell_ext d1 hx3; have e2 := cell_ext d2 hx3; have e3 := cell_ext d3 hx3; have e4 := cell_ext d4 hx3; have e5 := cell_ext d5 hx3
  have HX3 := Lib.hid hx3
  clear hx3 HBs
  go_wp2_with fail
  refine (HA.out u3).mono ?_
  rintro e u4 ⟨rfl, hx4⟩
  have X4 := HX3.out.trans hx4
  have HX4 := Lib.hid X4
  clear e0 e1 e2 e3 e4 e5
  have e0 := cell_ext d0 X4; have e1 := cell_ext d1 X4; have e2 := cell_ext d2 X4; have e3 := cell_ext d3 X4; have e4 := cell_ext d4 X4; have e5 := cell_ext d5 X4; have e6 := cell_ext p0 X4
  clear hx4 X4 d0 d1 d2 d3 d4 d5 p0 HX3
  go_upto_region 5 with fail
  have Ed : Ext u4 u4.drew := Below.drew (Ext.refl _)
  refine wp_region_K 4 (fun w' => w'.cell? ⟨H, 0, none⟩ = some (.pointer (some ⟨Bd, 0, none⟩)) ∧ w'.cell? ⟨H + 1, 0, none⟩ = some (.int .i64 kd) ∧ w'.cell? ⟨H + 1, 1, none⟩ = some (.int .i64 k) ∧ w'.cell? ⟨H + 1, 2, none⟩ = some (.slice a1 n1 c1) ∧ w'.cell? ⟨H + 1, 3, none⟩ = some (.int .i64 q) ∧ w'.cell? ⟨H + 1, 4, none⟩ = some (.int .i64 bt) ∧ w'.cell? ⟨H + 1, 5, none⟩ = some (.slice a2 n2 c2)) (by kernel_rfl) ?_
  show anyK _ _ _ _ _ _ 5 #[false, false, false, false, false] _ _
  have hHeld : u4.drew.cell? ⟨H, 0, none⟩ = some (.pointer (some ⟨Bd, 0, none⟩)) ∧ u4.drew.cell? ⟨H + 1, 0, none⟩ = some (.int .i64 kd) ∧ u4.drew.cell? ⟨H + 1, 1, none⟩ = some (.int .i64 k) ∧ u4.drew.cell? ⟨H + 1, 2, none⟩ = some (.slice a1 n1 c1) ∧ u4.drew.cell? ⟨H + 1, 3, none⟩ = some (.int .i64 q) ∧ u4.drew.cell? ⟨H + 1, 4, none⟩ = some (.int .i64 bt) ∧ u4.drew.cell? ⟨H + 1, 5, none⟩ = some (.slice a2 n2 c2) := ⟨cell_ext e6 Ed, cell_ext e0 Ed, cell_ext e1 Ed, cell_ext e2 Ed, cell_ext e3 Ed, cell_ext e4 Ed, cell_ext e5 Ed⟩
  refine anyK_take (i := 0) (v := ?_) rfl (by kernel_rfl) (by kernel_rfl) (by kernel_rfl) (N := 5) (by kernel_rfl) (by kernel_rfl) (by kernel_rfl) (fun _ _ _ h => h) (Or.inl ⟨by rfl, ?_⟩) hHeld ?_
  rotate_left 1
  · intro w hSw
    go_simp
    try with_reducible rfl
  show anyK _ _ _ _ _ _ _ _ (Act.put _ (some 29) _) _
  simp only [Act.put, List.setIfInBounds_toArray, List.set_cons_zero, List.set_cons_succ]
  refine anyK_take (i := 1) (v := ?_) rfl (by kernel_rfl) (by kernel_rfl) (by kernel_rfl) (N := 5) (by kernel_rfl) (by kernel_rfl) (by kernel_rfl) (fun _ _ _ h => h) (Or.inl ⟨by rfl, ?_⟩) hHeld ?_
  rotate_left 1
  · intro w hSw
    go_simp
    try with_reducible rfl
  show anyK _ _ _ _ _ _ _ _ (Act.put _ (some 30) _) _
  simp only [Act.put, List.setIfInBounds_toArray, List.set_cons_zero, List.set_cons_succ]
  refine anyK_take (i := 3) (v := ?_) rfl (by kernel_rfl) (by kernel_rfl) (by kernel_rfl) (N := 5) (by kernel_rfl) (by kernel_rfl) (by kernel_rfl) (fun _ _ _ h => h) (Or.inl ⟨by rfl, ?_⟩) hHeld ?_
  rotate_left 1
  · intro w hSw
    go_simp
    try with_reducible rfl
  show anyK _ _ _ _ _ _ _ _ (Act.put _ (some 32) _) _
  simp only [Act.put, List.setIfInBounds_toArray, List.set_cons_zero, List.set_cons_succ]
  clear hHeld
  refine anyK_one (i := 2) (by kernel_rfl) rfl (fun Kk hKk => ?_)
  go_simp
  (go_at_call 32; refine (HAr.out u4.drew).mono ?_; rintro e u5 ⟨ga, gn, gc, rfl, hG, hx5⟩)
  have E5 := Ed.trans hx5
  go_wp2_with fail
  refine hKk.out _ _ (fun _ => ⟨cell_ext e6 E5, cell_ext e0 E5, cell_ext e1 E5, cell_ext e2 E5, cell_ext e3 E5, cell_ext e4 E5, cell_ext e5 E5⟩) ?_
  clear hKk Kk
  simp only [List.setIfInBounds_toArray, List.set_cons_zero, List.set_cons_succ]
  have B5 := (HBu.out.ext' HX4.out).ext' E5
  have hne5 : ∀ k, (Value.slice ga gn gc).ownBlock = some k → v.ownBlock ≠ some k := fun k hk e => by
    have h1 := (own_lt HBu.out.ops.rows.choose_spec.1 k e).2
    have h2 := (own_lt hG.rows.choose_spec.1 k hk).1
    have h3 := HX4.out.size
    have h4 := Ed.size
    omega
  have HBt := Lib.hid (between_any 33 #[.pointer (some ⟨H, 0, none⟩), .pointer (some ⟨H + 1, 0, none⟩)] w0 u5 Bd sp v ops GS MO ga gn gc u4.drew.heap.size B5 hG hne5 Hpur.out HS.out (fun args wx => by kernel_rfl) (by
    have h1 := Hmore.out; have h2 := Hl.out; have h3 := Hla.out
    omega) (fun wx vx hM hBx => Hbody.out wx vx GS Hla.out ((Mv.of_ext (HX4.out.trans E5)).trans hM) hBx))
  unfold Apps at HBt
  refine anyK_one (i := 4) (by kernel_rfl) rfl (fun Kk hKk => ?_)
  go_simp
  (go_at_call 31; refine HBt.out.mono ?_; rintro e w8 ⟨rfl, v8, hM8, hB8⟩)
  go_wp2_with fail
  refine hKk.out _ _ (fun h => Bool.noConfusion (show true = false from h)) ?_
  clear hKk Kk
  simp only [List.setIfInBounds_toArray, List.set_cons_zero, List.set_cons_succ]
  refine anyK_done (by kernel_rfl) ?_ _
  have HEnd := Lib.hid (show ∃ v', Mv Bd v v' w w8 ∧ BdA w0 w8 Bd sp v' (ops ++ (GS ++ MO ++ invO GS)) from ⟨v8, (Mv.of_ext (HEE.out.trans (HX4.out.trans E5))).trans hM8, hB8⟩)
  clear hM8 hB8 E5 hx5 hG hne5 B5 HBt Ed e0 e1 e2 e3 e4 e5 e6
  go_wp2_with fail
  go_end0
  exact ⟨rfl, HEnd.out⟩
end Go.Proofs.YthgmlhddanbbpaaDoor
