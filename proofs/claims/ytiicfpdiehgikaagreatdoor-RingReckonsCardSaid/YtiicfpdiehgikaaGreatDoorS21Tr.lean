/-
  Lists of ints that were handed in, opened, each number with its range; what is asked behind a call that leaves all as it was.
-/
import Derived.Test.YtiicfpdiehgikaaGreatDoorRows
import Derived.Carry
import Derived.ChangeSame
import Derived.ChangeShapes
import Derived.Deep.CutRange
import Derived.Deep.LoopGhost
import Derived.Deep.Slices
import Derived.FnData
import Derived.Lib.Hide
import Derived.OpenShut
import Derived.SizedLaws
import Derived.Stop.LaidErr
import Derived.WalkKit
import Derived.WalkLawsBesides
import Derived.WalkSpells
import Derived.Test.YtiicfpdiehgikaaGreatDoorS00Mem
import Derived.Test.YtiicfpdiehgikaaGreatDoorS09Ca
namespace Go.Proofs.YtiicfpdiehgikaaGreatDoor
open Go.RowKit Go.ChangeShapes Go.WideShapes Go.Deep

theorem raddr_at (b o t : Nat) : (⟨b, o, none⟩ : Addr).add t = ⟨b, o + t, none⟩ := by
  unfold Addr.add
  by_cases h : t = 0 <;> simp [h]
theorem rwf_int {n : Int} (h : (Lit.int .i64 n).wf = true) : -9223372036854775808 ≤ n ∧ n ≤ 9223372036854775807 := by
  simp [Lit.wf, IntKind.min, IntKind.max, IntKind.signed, IntKind.bits] at h
  omega

section
variable {H : Type} {enc : TypeId × Value → H} {W : World}
theorem rbytes_int : Tryz.prog.bytesOf 3 = 8 := by kernel_rfl
theorem rcells_int : Tryz.prog.cellsOf 3 = 1 := by kernel_rfl

theorem ropen_ints {fuel : Nat} {cs : List Value} {x : DataW H × List MemPlace} (h : DataW.trod enc Tryz.prog W 0 (fun _ => true) true fuel 33 cs = some x) (hz : ∀ k ∈ x.1.weights Tryz.prog 33, k ≤ reachBytes) :
    ∃ (ao : Option Addr) (n cp : Nat) (l : List Int), cs = [.slice ao n cp] ∧ n ≤ cp ∧ cp ≤ 9223372036854775807 ∧ IntsAt W ao n l ∧ l.length * 8 ≤ 140737488355328 ∧ ∀ t, t < n → -9223372036854775808 ≤ l.getD t 0 ∧ l.getD t 0 ≤ 9223372036854775807 := by
  rcases open_slice1 Tryz.underlying33 rcells_int h with ⟨rfl, rfl⟩ | ⟨a, len, cap, m, n, V, D, Pl, rfl, _, hl, hm, hmm, rfl, hx⟩
  · exact ⟨none, 0, 0, [], rfl, by omega, by omega, ⟨rfl, Or.inl rfl⟩, by simp, fun t ht => by omega⟩
  · have hmc : m = cap := by simpa using hmm
    subst hmc
    obtain ⟨F, hF⟩ := choose_lt (α := Int) (n := m) (p := fun i z => W.cell? (a.add i) = some (.int .i64 z) ∧ (Lit.int .i64 z).wf = true) (fun i hi => by
      obtain ⟨h1, h2⟩ := hx i hi
      obtain ⟨z, e, _, hw⟩ := DataW.trod_int Tryz.underlying3 h2
      injection e with e
      exact ⟨z, by rw [h1, e], hw⟩)
    refine ⟨some a, len, m, (List.range len).map F, rfl, hl, hm, ⟨by simp, ?_⟩, ?_, fun t ht => ?_⟩
    · by_cases h0 : len = 0
      · exact Or.inl h0
      · obtain ⟨b, o, spot⟩ := a
        have h1 := (hF 0 (by omega)).1
        have hs : spot = none := by simpa [Addr.add] using World.cell?_spot h1
        subst hs
        refine Or.inr ⟨b, o, rfl, World.block_lt_of_cell? W _ h1, fun t ht => ?_⟩
        have := (hF t (by omega)).1
        rw [raddr_at] at this
        simpa [List.getD_eq_getElem?_getD, ht] using this
    · have := hz ((len + (m - len)) * Tryz.prog.bytesOf 3) (by simp [DataW.weights, Tryz.underlying33])
      rw [rbytes_int] at this
      have hr : reachBytes ≤ 140737488355328 := by decide
      rw [List.length_map, List.length_range]
      omega
    · have hw := rwf_int (hF t (by omega)).2
      have e : ((List.range len).map F).getD t 0 = F t := by simp [List.getD_eq_getElem?_getD, ht]
      rw [e]; exact hw
set_option maxRecDepth 100000 in
theorem ropen_list {v : Value} {d : DataW H} {p : List MemPlace} {base : Nat} (hok : Value.okWide Tryz.prog W .any base 33 v) (h : DataW.Trod enc Tryz.prog W 0 (fun _ => true) true 33 v d p) (hz : ∀ k ∈ d.weights Tryz.prog 33, k ≤ reachBytes) :
    ∃ (ao : Option Addr) (n cp : Nat) (l : List Int), v = .slice ao n cp ∧ IntsAt W ao n l ∧ (∀ t, t < n → -9223372036854775808 ≤ l.getD t 0 ∧ l.getD t 0 ≤ 9223372036854775807) ∧ n ≤ 17592186044416 := by
  obtain ⟨fuel, h⟩ := h
  have hv : ∃ a n c, v = .slice a n c := by
    cases v <;> simp [Value.okWide, Cell.okWide, Cell.ok, Tryz.underlying33] at hok
    exact ⟨_, _, _, rfl⟩
  obtain ⟨a, n, c, rfl⟩ := hv
  obtain ⟨ao, n', cp, l, e, h1, h2, h3, h4, h5⟩ := ropen_ints h hz
  have hc : (Value.slice a n c).cells.toList = [.slice a n c] := rfl
  rw [hc] at e
  injection e with e
  injection e with e1 e2 e3
  subst e1; subst e2; subst e3
  exact ⟨a, n, c, l, rfl, h3, h5, by have := h3.1; omega⟩
end

/-- What lay there is as it was: what is asked behind the call. -/
theorem post_keptR {H : Type} {enc : TypeId × Value → H} {P : Program} {f : Func} {s : ChangeSpec} {apart fresh handsOn again : Bool} {W W' : World} {args : Array Value} {v : Value} {ds gs : List (DataW H)} {ps : List MemPlace}
    (hW : DataW.Whole enc P f.params.toList s.vars apart W args.toList ds gs ps)
    (hres : ∀ (b : Nat) (sp : Nat → Bool) (hd : Bool), DataW.TrodAll enc P W' b sp hd f.resultTypes.toList (v.resultList f.resultTypes.size) (s.fn H (ds ++ gs)).results [])
    (hargs : ∀ sp : Nat → Bool, (∀ x ∈ ps, sp x.block = true) → DataW.TrodAll enc P W' 0 sp true f.params.toList args.toList (s.fn H (ds ++ gs)).args ps)
    (hvars : ∀ sp : Nat → Bool, DataW.TrodVars enc P W' sp s.vars (s.fn H (ds ++ gs)).vars [])
    (hb : Ext W W')
    (hok : ∀ (j : Nat) (t : TypeId) (r : Value), f.resultTypes[j]? = some t → (v.resultList f.resultTypes.size)[j]? = some r → Value.okWide P W' .any 0 t r) :
    s.post enc P f apart fresh handsOn again W args v W' := by
  have hlt := hW.lt
  have hold : ∀ x ∈ ps, decide (x.block < W.heap.size) = true := fun x hx => by simpa using hlt x hx
  have hall : ∀ x ∈ ps, (fun _ : Nat => true) x.block = true := fun _ _ => rfl
  have hn : W.noneFrozen ps ∧ (apart = true → ps.Nodup) := by
    obtain ⟨_, _, _, _, rfl, h1, h2⟩ := hW
    exact ⟨h1, h2⟩
  refine ⟨ds, gs, ps, [], ps, [], hW, hres _ _ _, hargs _ hold, hvars _, Below.frame hb _, fun _ => ?_⟩
  refine ⟨hok, _, _, ([] ++ ps) ++ [], ⟨[] ++ ps, [], trodAll_append (hargs (fun _ => true) hall) (hres _ _ _), hvars _, rfl, ?_, ?_⟩, ?_⟩
  · intro b off hp
    have hp' : MemPlace.cell b off ∈ ps := by simpa using hp
    rw [Below.frozen hb (p := ⟨b, off, none⟩) (hlt _ hp')]
    exact hn.1 b off hp'
  · intro ha
    simpa using hn.2 ha
  · intro x hx _
    simpa using hx

end Go.Proofs.YtiicfpdiehgikaaGreatDoor
