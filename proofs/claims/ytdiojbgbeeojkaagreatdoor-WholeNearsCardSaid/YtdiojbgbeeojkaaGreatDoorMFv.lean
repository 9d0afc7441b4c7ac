/-
  What a law about fractions has read, in variables; calls whose answers are named.
-/
import Derived.Test.YtdiojbgbeeojkaaGreatDoorMFqC
import Derived.Test.YtdiojbgbeeojkaaGreatDoorMFpC
import Derived.Test.YtdiojbgbeeojkaaGreatDoorMFzB
import Derived.Test.YtdiojbgbeeojkaaGreatDoorMFzC

namespace Go.Proofs.YtdiojbgbeeojkaaGreatDoor
open Go.RowKit

theorem isZ_keepF {w : World} {g : Nat} {u v : Int} {b : Bool} {ao : Option Addr} {n c : Nat} {z : Int} (h : IsZ w b ao n c z) (hf : FBx w g u v) (u' v' : Int) : IsZ ((w.setCell ⟨g, 0, none⟩ (.int .i64 u')).setCell ⟨g, 1, none⟩ (.int .i64 v')) b ao n c z :=
  h.box hf.row (by decide) (((Only.refl _ _).setCell _ _).setCell _ _)
theorem keepF64 {w : World} {g : Nat} {u v : Int} (hf : FBx w g u v) (u' v' : Int) : Keep64 w ((w.setCell ⟨g, 0, none⟩ (.int .i64 u')).setCell ⟨g, 1, none⟩ (.int .i64 v')) := Keep64.set2 (.i64 hf.c0) (.i64 hf.c1) (notW_i64 u') (.int .i64 v')
theorem only2 (w : World) (g : Nat) (u v : Value) : Only g w ((w.setCell ⟨g, 0, none⟩ u).setCell ⟨g, 1, none⟩ v) := ((Only.refl _ _).setCell _ _).setCell _ _
theorem FBx.only {W W' : World} {g k : Nat} {u v : Int} (h : FBx W g u v) (hO : Only k W W') (hne : g ≠ k) : FBx W' g u v := ⟨(hO.block _ hne).trans h.row⟩

structure Fv (W0 w : World) (A B C D : Nat) (s1 : Int) (a1 : Option Addr) (n1 c1 : Nat) (s1x : Int) (a1x : Option Addr) (n1x c1x : Nat) (s2 : Int) (a2 : Option Addr) (n2 c2 : Nat) (s2x : Int) (a2x : Option Addr) (n2x c2x : Nat) (b3 : Bool) (a3 : Option Addr) (n3 c3 : Nat) (b3x : Bool) (a3x : Option Addr) (n3x c3x : Nat) (b4 : Bool) (a4 : Option Addr) (n4 c4 : Nat) (b4x : Bool) (a4x : Option Addr) (n4x c4x : Nat) (P Q R S f f' rf rf' : Int) : Prop where
  qA : QBx w A s1 a1 n1 c1 s1x a1x n1x c1x
  qB : QBx w B s2 a2 n2 c2 s2x a2x n2x c2x
  zC : FZBx w C b3 a3 n3 c3 b3x a3x n3x c3x
  zD : FZBx w D b4 a4 n4 c4 b4x a4x n4x c4x
  fA : FBx w (A + 1) f f'
  fC : FBx w (C + 1) rf rf'
  IX : IsFr w s1 a1 n1 c1 s1x a1x n1x c1x P Q
  IY : IsFr w s2 a2 n2 c2 s2x a2x n2x c2x R S
  i3 : IsZ w b3 a3 n3 c3 P
  i3x : IsZ w b3x a3x n3x c3x Q
  i4 : IsZ w b4 a4 n4 c4 R
  i4x : IsZ w b4x a4x n4x c4x S
  E : Ext W0 w
  ne : W0.heap.size ≤ A ∧ A + 1 < B ∧ B + 1 < C ∧ C + 1 < D
section
variable {W0 w w' : World} {A B C D : Nat} {s1 : Int} {a1 : Option Addr} {n1 c1 : Nat} {s1x : Int} {a1x : Option Addr} {n1x c1x : Nat} {s2 : Int} {a2 : Option Addr} {n2 c2 : Nat} {s2x : Int} {a2x : Option Addr} {n2x c2x : Nat} {b3 : Bool} {a3 : Option Addr} {n3 c3 : Nat} {b3x : Bool} {a3x : Option Addr} {n3x c3x : Nat} {b4 : Bool} {a4 : Option Addr} {n4 c4 : Nat} {b4x : Bool} {a4x : Option Addr} {n4x c4x : Nat} {P Q R S f f' rf rf' : Int}
theorem Fv.ext (h : Fv W0 w A B C D s1 a1 n1 c1 s1x a1x n1x c1x s2 a2 n2 c2 s2x a2x n2x c2x b3 a3 n3 c3 b3x a3x n3x c3x b4 a4 n4 c4 b4x a4x n4x c4x P Q R S f f' rf rf') (k : Ext w w') : Fv W0 w' A B C D s1 a1 n1 c1 s1x a1x n1x c1x s2 a2 n2 c2 s2x a2x n2x c2x b3 a3 n3 c3 b3x a3x n3x c3x b4 a4 n4 c4 b4x a4x n4x c4x P Q R S f f' rf rf' :=
  ⟨h.qA.ext k, h.qB.ext k, h.zC.ext k, h.zD.ext k, h.fA.ext k, h.fC.ext k, h.IX.ext k, h.IY.ext k, h.i3.ext k, h.i3x.ext k, h.i4.ext k, h.i4x.ext k, h.E.trans k, h.ne⟩
theorem Fv.putF (h : Fv W0 w A B C D s1 a1 n1 c1 s1x a1x n1x c1x s2 a2 n2 c2 s2x a2x n2x c2x b3 a3 n3 c3 b3x a3x n3x c3x b4 a4 n4 c4 b4x a4x n4x c4x P Q R S f f' rf rf') (u v : Int) : Fv W0 ((w.setCell ⟨A + 1, 0, none⟩ (.int .i64 u)).setCell ⟨A + 1, 1, none⟩ (.int .i64 v)) A B C D s1 a1 n1 c1 s1x a1x n1x c1x s2 a2 n2 c2 s2x a2x n2x c2x b3 a3 n3 c3 b3x a3x n3x c3x b4 a4 n4 c4 b4x a4x n4x c4x P Q R S u v rf rf' := by
  have hn := h.ne
  have hO := only2 w (A + 1) (.int .i64 u) (.int .i64 v)
  have hk := keepF64 h.fA u v
  exact ⟨h.qA.only hO (by omega), h.qB.only hO (by omega), h.zC.only hO (by omega), h.zD.only hO (by omega), h.fA.own u v, h.fC.only hO (by omega), h.IX.keep64 hk, h.IY.keep64 hk, isZ_keepF h.i3 h.fA u v, isZ_keepF h.i3x h.fA u v, isZ_keepF h.i4 h.fA u v, isZ_keepF h.i4x h.fA u v, h.E.put2 (g := A + 1) (o := 0) (o' := 1) (by omega) (.int .i64 u) (.int .i64 v), hn⟩
theorem Fv.putR (h : Fv W0 w A B C D s1 a1 n1 c1 s1x a1x n1x c1x s2 a2 n2 c2 s2x a2x n2x c2x b3 a3 n3 c3 b3x a3x n3x c3x b4 a4 n4 c4 b4x a4x n4x c4x P Q R S f f' rf rf') (u v : Int) : Fv W0 ((w.setCell ⟨C + 1, 0, none⟩ (.int .i64 u)).setCell ⟨C + 1, 1, none⟩ (.int .i64 v)) A B C D s1 a1 n1 c1 s1x a1x n1x c1x s2 a2 n2 c2 s2x a2x n2x c2x b3 a3 n3 c3 b3x a3x n3x c3x b4 a4 n4 c4 b4x a4x n4x c4x P Q R S f f' u v := by
  have hn := h.ne
  have hO := only2 w (C + 1) (.int .i64 u) (.int .i64 v)
  have hk := keepF64 h.fC u v
  exact ⟨h.qA.only hO (by omega), h.qB.only hO (by omega), h.zC.only hO (by omega), h.zD.only hO (by omega), h.fA.only hO (by omega), h.fC.own u v, h.IX.keep64 hk, h.IY.keep64 hk, isZ_keepF h.i3 h.fC u v, isZ_keepF h.i3x h.fC u v, isZ_keepF h.i4 h.fC u v, isZ_keepF h.i4x h.fC u v, h.E.put2 (g := C + 1) (o := 0) (o' := 1) (by omega) (.int .i64 u) (.int .i64 v), hn⟩
end

/-- What all numbers of the law stay below. -/
structure Room (K : Nat) (P Q R S : Int) : Prop where
  fP : Fit K P
  fQ : Fit K Q
  fR : Fit K R
  fS : Fit K S
  fnR : Fit K (-R)
  PS : Fit K (P * S)
  RQ : Fit K (R * Q)
  QS : Fit K (Q * S)
  PR : Fit K (P * R)
  QR : Fit K (Q * R)
  nRQ : Fit K (-R * Q)
  sum : Fit K (P * S + R * Q)
  dif : Fit K (P * S + -R * Q)
  ne : Q * S ≠ 0
  aP : Fit K (nfp (P * S + R * Q) (Q * S))
  aQ : Fit K (nfq (P * S + R * Q) (Q * S))
  dP : Fit K (nfp (P * S + -R * Q) (Q * S))
  dQ : Fit K (nfq (P * S + -R * Q) (Q * S))
  mP : Fit K (nfp (P * R) (Q * S))
  mQ : Fit K (nfq (P * R) (Q * S))
  uP : Fit K (nfp (P * S) (Q * R))
  uQ : Fit K (nfq (P * S) (Q * R))
theorem room_of {K M : Nat} {P Q R S : Int} (hP : P.natAbs < Lim) (hQ : Q.natAbs < Lim) (hR : R.natAbs < Lim) (hS : S.natAbs < Lim) (h0 : 0 < Q) (h1 : 0 < S) (hLM : Lim ≤ M) (hmul : ∀ a b : Int, a.natAbs ≤ Lim → b.natAbs ≤ Lim → (a * b).natAbs ≤ M) (hfit : ∀ z : Int, z.natAbs ≤ 4 * M → Fit K z) : Room K P Q R S := by
  have b1 := hmul P S (by omega) (by omega); have b2 := hmul R Q (by omega) (by omega); have b3 := hmul Q S (by omega) (by omega); have b4 := hmul P R (by omega) (by omega); have b5 := hmul Q R (by omega) (by omega)
  have b6 := hmul (-R) Q (by omega) (by omega)
  have hne : Q * S ≠ 0 := by have := Int.mul_pos h0 h1; omega
  have hM : 1 ≤ M := by have := lim_pos; omega
  exact ⟨hfit _ (by omega), hfit _ (by omega), hfit _ (by omega), hfit _ (by omega), hfit _ (by omega), hfit _ (by omega), hfit _ (by omega), hfit _ (by omega), hfit _ (by omega), hfit _ (by omega), hfit _ (by omega), hfit _ (by omega), hfit _ (by omega), hne,
    hfit _ (by have := nfp_le (P * S + R * Q) (Q * S); omega), hfit _ (by have := nfq_le (P * S + R * Q) (Q * S) hne; omega),
    hfit _ (by have := nfp_le (P * S + -R * Q) (Q * S); omega), hfit _ (by have := nfq_le (P * S + -R * Q) (Q * S) hne; omega),
    hfit _ (by have := nfp_le (P * R) (Q * S); omega), hfit _ (by have := nfq_le (P * R) (Q * S) hne; omega),
    hfit _ (by have := nfp_le (P * S) (Q * R); omega), hfit _ (by have := nfq_lim (z1 := P * S) (z2 := Q * R) hM b5; omega)⟩

theorem QAdd_is (s1 : Int) (a1 : Option Addr) (n1 c1 : Nat) (s1x : Int) (a1x : Option Addr) (n1x c1x : Nat) (s2 : Int) (a2 : Option Addr) (n2 c2 : Nat) (s2x : Int) (a2x : Option Addr) (n2x c2x : Nat) (P Q R S : Int) (w : World) (h1 : IsFr w s1 a1 n1 c1 s1x a1x n1x c1x P Q) (h2 : IsFr w s2 a2 n2 c2 s2x a2x n2x c2x R S) (K : Nat) (hK : K ≤ 4194304) (hK1 : 1 ≤ K) (hr : Room K P Q R S) (hbr : Bru w) (p q : Int) (e1 : nfp (P * S + R * Q) (Q * S) = p) (e2 : nfq (P * S + R * Q) (Q * S) = q) :
    Calls Tryz.prog 17 #[.agg #[.int .i64 s1, .slice a1 n1 c1, .int .i64 s1x, .slice a1x n1x c1x], .agg #[.int .i64 s2, .slice a2 n2 c2, .int .i64 s2x, .slice a2x n2x c2x]] w (QRet w p q) := by
  subst e1; subst e2
  exact QAdd_any s1 a1 n1 c1 s1x a1x n1x c1x s2 a2 n2 c2 s2x a2x n2x c2x P Q R S w h1 h2 K hK hK1 hr.fP hr.fQ hr.fR hr.fS hr.PS hr.RQ hr.sum hr.QS hr.ne hbr
theorem QSub_is (s1 : Int) (a1 : Option Addr) (n1 c1 : Nat) (s1x : Int) (a1x : Option Addr) (n1x c1x : Nat) (s2 : Int) (a2 : Option Addr) (n2 c2 : Nat) (s2x : Int) (a2x : Option Addr) (n2x c2x : Nat) (P Q R S : Int) (w : World) (h1 : IsFr w s1 a1 n1 c1 s1x a1x n1x c1x P Q) (h2 : IsFr w s2 a2 n2 c2 s2x a2x n2x c2x R S) (K : Nat) (hK : K ≤ 4194304) (hK1 : 1 ≤ K) (hr : Room K P Q R S) (hbr : Bru w) (p q : Int) (e1 : nfp (P * S + -R * Q) (Q * S) = p) (e2 : nfq (P * S + -R * Q) (Q * S) = q) :
    Calls Tryz.prog 19 #[.agg #[.int .i64 s1, .slice a1 n1 c1, .int .i64 s1x, .slice a1x n1x c1x], .agg #[.int .i64 s2, .slice a2 n2 c2, .int .i64 s2x, .slice a2x n2x c2x]] w (QRet w p q) := by
  subst e1; subst e2
  exact QSub_any s1 a1 n1 c1 s1x a1x n1x c1x s2 a2 n2 c2 s2x a2x n2x c2x P Q R S w h1 h2 K hK hK1 hr.fP hr.fQ hr.fnR hr.fS hr.PS hr.nRQ hr.dif hr.QS hr.ne hbr
theorem QMul_is (s1 : Int) (a1 : Option Addr) (n1 c1 : Nat) (s1x : Int) (a1x : Option Addr) (n1x c1x : Nat) (s2 : Int) (a2 : Option Addr) (n2 c2 : Nat) (s2x : Int) (a2x : Option Addr) (n2x c2x : Nat) (P Q R S : Int) (w : World) (h1 : IsFr w s1 a1 n1 c1 s1x a1x n1x c1x P Q) (h2 : IsFr w s2 a2 n2 c2 s2x a2x n2x c2x R S) (K : Nat) (hK : K ≤ 4194304) (hK1 : 1 ≤ K) (hr : Room K P Q R S) (hbr : Bru w) (p q : Int) (e1 : nfp (P * R) (Q * S) = p) (e2 : nfq (P * R) (Q * S) = q) :
    Calls Tryz.prog 21 #[.agg #[.int .i64 s1, .slice a1 n1 c1, .int .i64 s1x, .slice a1x n1x c1x], .agg #[.int .i64 s2, .slice a2 n2 c2, .int .i64 s2x, .slice a2x n2x c2x]] w (QRet w p q) := by
  subst e1; subst e2
  exact QMul_any s1 a1 n1 c1 s1x a1x n1x c1x s2 a2 n2 c2 s2x a2x n2x c2x P Q R S w h1 h2 K hK hK1 hr.fP hr.fQ hr.fR hr.fS hr.PR hr.QS hr.ne hbr
theorem FAdd_is (b3 : Bool) (a3 : Option Addr) (n3 c3 : Nat) (b3x : Bool) (a3x : Option Addr) (n3x c3x : Nat) (b4 : Bool) (a4 : Option Addr) (n4 c4 : Nat) (b4x : Bool) (a4x : Option Addr) (n4x c4x : Nat) (P Q R S : Int) (w : World) (h1 : IsZ w b3 a3 n3 c3 P) (h2 : IsZ w b3x a3x n3x c3x Q) (h3 : IsZ w b4 a4 n4 c4 R) (h4 : IsZ w b4x a4x n4x c4x S) (hn1 : n3 ≤ 40000) (hn2 : n3x ≤ 40000) (hn3 : n4 ≤ 40000) (hn4 : n4x ≤ 40000) (p q : Int) (e1 : nfp (P * S + R * Q) (Q * S) = p) (e2 : nfq (P * S + R * Q) (Q * S) = q) :
    Calls Tryz.prog 18 #[.agg #[.bool b3, .slice a3 n3 c3, .bool b3x, .slice a3x n3x c3x], .agg #[.bool b4, .slice a4 n4 c4, .bool b4x, .slice a4x n4x c4x]] w (FRet w p q 100006) := by
  subst e1; subst e2
  exact FAdd_any b3 a3 n3 c3 b3x a3x n3x c3x b4 a4 n4 c4 b4x a4x n4x c4x P Q R S w h1 h2 h3 h4 hn1 hn2 hn3 hn4
theorem FSub_is (b3 : Bool) (a3 : Option Addr) (n3 c3 : Nat) (b3x : Bool) (a3x : Option Addr) (n3x c3x : Nat) (b4 : Bool) (a4 : Option Addr) (n4 c4 : Nat) (b4x : Bool) (a4x : Option Addr) (n4x c4x : Nat) (P Q R S : Int) (w : World) (h1 : IsZ w b3 a3 n3 c3 P) (h2 : IsZ w b3x a3x n3x c3x Q) (h3 : IsZ w b4 a4 n4 c4 R) (h4 : IsZ w b4x a4x n4x c4x S) (hn1 : n3 ≤ 40000) (hn2 : n3x ≤ 40000) (hn3 : n4 ≤ 40000) (hn4 : n4x ≤ 40000) (p q : Int) (e1 : nfp (P * S + -R * Q) (Q * S) = p) (e2 : nfq (P * S + -R * Q) (Q * S) = q) :
    Calls Tryz.prog 20 #[.agg #[.bool b3, .slice a3 n3 c3, .bool b3x, .slice a3x n3x c3x], .agg #[.bool b4, .slice a4 n4 c4, .bool b4x, .slice a4x n4x c4x]] w (FRet w p q 100006) := by
  subst e1; subst e2
  exact FSub_any b3 a3 n3 c3 b3x a3x n3x c3x b4 a4 n4 c4 b4x a4x n4x c4x P Q R S w h1 h2 h3 h4 hn1 hn2 hn3 hn4
theorem FMul_is (b3 : Bool) (a3 : Option Addr) (n3 c3 : Nat) (b3x : Bool) (a3x : Option Addr) (n3x c3x : Nat) (b4 : Bool) (a4 : Option Addr) (n4 c4 : Nat) (b4x : Bool) (a4x : Option Addr) (n4x c4x : Nat) (P Q R S : Int) (w : World) (h1 : IsZ w b3 a3 n3 c3 P) (h2 : IsZ w b3x a3x n3x c3x Q) (h3 : IsZ w b4 a4 n4 c4 R) (h4 : IsZ w b4x a4x n4x c4x S) (hn1 : n3 ≤ 40000) (hn2 : n3x ≤ 40000) (hn3 : n4 ≤ 40000) (hn4 : n4x ≤ 40000) (p q : Int) (e1 : nfp (P * R) (Q * S) = p) (e2 : nfq (P * R) (Q * S) = q) :
    Calls Tryz.prog 22 #[.agg #[.bool b3, .slice a3 n3 c3, .bool b3x, .slice a3x n3x c3x], .agg #[.bool b4, .slice a4 n4 c4, .bool b4x, .slice a4x n4x c4x]] w (FRet w p q 100006) := by
  subst e1; subst e2
  exact FMul_any b3 a3 n3 c3 b3x a3x n3x c3x b4 a4 n4 c4 b4x a4x n4x c4x P Q R S w h1 h2 h3 h4 hn1 hn2 hn3 hn4
theorem QQuo_is (s1 : Int) (a1 : Option Addr) (n1 c1 : Nat) (s1x : Int) (a1x : Option Addr) (n1x c1x : Nat) (s2 : Int) (a2 : Option Addr) (n2 c2 : Nat) (s2x : Int) (a2x : Option Addr) (n2x c2x : Nat) (P Q R S : Int) (w : World) (h1 : IsFr w s1 a1 n1 c1 s1x a1x n1x c1x P Q) (h2 : IsFr w s2 a2 n2 c2 s2x a2x n2x c2x R S) (K : Nat) (hK : K ≤ 4194304) (hK1 : 1 ≤ K) (hr : Room K P Q R S) (hbr : Bru w) (p q c : Int) (e1 : nfp (P * S) (Q * R) = p) (e2 : nfq (P * S) (Q * R) = q) (e3 : ovc (Q * R) = c) :
    Calls Tryz.prog 13 #[.agg #[.int .i64 s1, .slice a1 n1 c1, .int .i64 s1x, .slice a1x n1x c1x], .agg #[.int .i64 s2, .slice a2 n2 c2, .int .i64 s2x, .slice a2x n2x c2x]] w (QRetF w p q c) := by
  subst e1; subst e2; subst e3
  exact QQuo_any s1 a1 n1 c1 s1x a1x n1x c1x s2 a2 n2 c2 s2x a2x n2x c2x P Q R S w h1 h2 K hK hK1 hr.fP hr.fQ hr.fR hr.fS hr.PS hr.QR hbr
theorem FQuo_is (b3 : Bool) (a3 : Option Addr) (n3 c3 : Nat) (b3x : Bool) (a3x : Option Addr) (n3x c3x : Nat) (b4 : Bool) (a4 : Option Addr) (n4 c4 : Nat) (b4x : Bool) (a4x : Option Addr) (n4x c4x : Nat) (P Q R S : Int) (w : World) (h1 : IsZ w b3 a3 n3 c3 P) (h2 : IsZ w b3x a3x n3x c3x Q) (h3 : IsZ w b4 a4 n4 c4 R) (h4 : IsZ w b4x a4x n4x c4x S) (hn1 : n3 ≤ 40000) (hn2 : n3x ≤ 40000) (hn3 : n4 ≤ 40000) (hn4 : n4x ≤ 40000) (p q c : Int) (e1 : nfp (P * S) (Q * R) = p) (e2 : nfq (P * S) (Q * R) = q) (e3 : ovc (Q * R) = c) :
    Calls Tryz.prog 14 #[.agg #[.bool b3, .slice a3 n3 c3, .bool b3x, .slice a3x n3x c3x], .agg #[.bool b4, .slice a4 n4 c4, .bool b4x, .slice a4x n4x c4x]] w (FRetF w p q c 100006) := by
  subst e1; subst e2; subst e3
  exact FQuo_any b3 a3 n3 c3 b3x a3x n3x c3x b4 a4 n4 c4 b4x a4x n4x c4x P Q R S w h1 h2 h3 h4 hn1 hn2 hn3 hn4
theorem ParseFrac_is (s : ByteArray) (w : World) (hs : s.size ≤ 9223372036854775807) (K : Nat) (hK : K ≤ 4194304) (hK1 : 1 ≤ K) (hfit : ∀ z : Int, z.natAbs < Lim → Fit K z) (hbr : Bru w) (P Q c a : Int) (e1 : fP (bs s) = P) (e2 : fQ (bs s) = Q) (e3 : fcode (bs s) = c) (e4 : fat (bs s) = a) :
    Calls Tryz.prog 5 #[.string s] w (QRetG w P Q c a) := by
  subst e1; subst e2; subst e3; subst e4
  exact ParseFrac_any s w hs K hK hK1 hfit hbr
theorem FParse_is (s : ByteArray) (w : World) (hs : s.size ≤ 9223372036854775807) (K : Nat) (hK : K ≤ 100000) (hK1 : 1 ≤ K) (hfit : ∀ z : Int, z.natAbs < Lim → Fit K z) (P Q c a : Int) (e1 : fP (bs s) = P) (e2 : fQ (bs s) = Q) (e3 : fcode (bs s) = c) (e4 : fat (bs s) = a) :
    Calls Tryz.prog 6 #[.string s] w (FRetG w P Q c a 40000) := by
  subst e1; subst e2; subst e3; subst e4
  exact FParse_any s w hs K hK hK1 hfit
theorem zcmp3 (x y : Int) : (if x - y < 0 then (-1 : Int) else if 0 < x - y then 1 else 0) = cmp3 x y := by
  unfold cmp3
  by_cases h : x < y
  · rw [if_pos (by omega), if_pos h]
  · rw [if_neg (by omega), if_neg h]
    by_cases h2 : y < x
    · rw [if_pos (by omega), if_pos h2]
    · rw [if_neg (by omega), if_neg h2]
theorem qbx2_new (w : World) (s : Int) (a : Option Addr) (n c : Nat) (sx : Int) (ax : Option Addr) (nx cx : Nat) (u v : Value) : QBx ((w.alloc (.cells #[.int .i64 s, .slice a n c, .int .i64 sx, .slice ax nx cx] 26)).alloc (.cells #[u, v] 28)) w.heap.size s a n c sx ax nx cx := (qbx_new w s a n c sx ax nx cx).ext (Ext.alloc _ _)
theorem fzbx2_new (w : World) (b : Bool) (a : Option Addr) (n c : Nat) (bx : Bool) (ax : Option Addr) (nx cx : Nat) (u v : Value) : FZBx ((w.alloc (.cells #[.bool b, .slice a n c, .bool bx, .slice ax nx cx] 35)).alloc (.cells #[u, v] 28)) w.heap.size b a n c bx ax nx cx := (fzbx_new w b a n c bx ax nx cx).ext (ext_alloc _ _)
theorem fbq_new (w : World) (o : Obj) (u v : Int) : FBx ((w.alloc o).alloc (.cells #[.int .i64 u, .int .i64 v] 28)) (w.heap.size + 1) u v := by
  have h := fbx_new (w.alloc o) u v
  rw [show (w.alloc o).heap.size = w.heap.size + 1 from by simp] at h
  exact h

end Go.Proofs.YtdiojbgbeeojkaaGreatDoor
