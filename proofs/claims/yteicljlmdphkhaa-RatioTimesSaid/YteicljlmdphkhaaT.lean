/- add over a fraction that has been reduced: the document's step. And what a sum of any list is. -/
import Derived.Test.YteicljlmdphkhaaR
namespace Go.Proofs.Yteicljlmdphkhaa
open Go.RowKit
set_option linter.unusedVariables false
theorem gcd_le {a b : Nat} (h : 0 < b) : Nat.gcd a b ≤ b := Nat.le_of_dvd h (Nat.gcd_dvd_right _ _)
theorem gcd_le' {a b : Nat} (h : 0 < a) : Nat.gcd a b ≤ a := Nat.le_of_dvd h (Nat.gcd_dvd_left _ _)
theorem mulM {a b : Nat} (ha : a < M63) (hb : b < M63) : a * b ≤ 85070591730234615847396907784232501249 := by
  have : a * b ≤ (M63 - 1) * (M63 - 1) := Nat.mul_le_mul (by omega) (by omega)
  exact this
theorem add_step (x y c d c2 d2 : Nat) (ok : Bool) (p q : Int) (hx : x < M63) (hy : y < M63) (hy0 : 0 < y) (hxy : Nat.gcd x y = 1) (hc : c < M63) (hd : d < M63) (hd0 : 0 < d)
    (e1 : c / Nat.gcd c d = c2) (e2 : d / Nat.gcd c d = d2)
    (hok : sN x y c d < M63 ∧ sD x y c d < M63 ∧ ok = true ∧ p = sN x y c d ∧ q = sD x y c d ∨ ¬ (sN x y c d < M63 ∧ sD x y c d < M63) ∧ ok = false ∧ p = 0 ∧ q = 0) (w : World) :
    Calls Try.prog 32 #[.agg #[.int .i64 x, .int .i64 y], .agg #[.int .i64 c2, .int .i64 d2]] w fun e w' => e = .returned (.tuple #[.agg #[.int .i64 p, .int .i64 q], .bool ok]) ∧ Below w.heap.size w w' := by
  have hgp : 0 < Nat.gcd c d := Nat.gcd_pos_of_pos_right _ hd0
  have hc2 : c2 < M63 := by rw [← e1]; exact Nat.lt_of_le_of_lt (Nat.div_le_self _ _) hc
  have hd2 : d2 < M63 := by rw [← e2]; exact Nat.lt_of_le_of_lt (Nat.div_le_self _ _) hd
  have hd20 : 0 < d2 := by rw [← e2]; exact Nat.div_pos (gcd_le hd0) hgp
  have h22 : Nat.gcd c2 d2 = 1 := by
    rw [← e1, ← e2, Nat.gcd_div (Nat.gcd_dvd_left _ _) (Nat.gcd_dvd_right _ _)]; exact Nat.div_self hgp
  obtain ⟨r1, r2⟩ := reduced_first x y c d hd0
  rw [e1, e2] at r1 r2
  obtain ⟨s1, s2⟩ := short_way x y c2 d2 hxy h22 hy0 hd20
  rw [r1] at s1
  rw [r2] at s2
  have g0 : 0 < Nat.gcd y d2 := Nat.gcd_pos_of_pos_left _ hy0
  have gl : Nat.gcd y d2 ≤ y := gcd_le' hy0
  have G0 : 0 < hG x y c2 d2 := Nat.gcd_pos_of_pos_left _ g0
  have Gl : hG x y c2 d2 ≤ Nat.gcd y d2 := gcd_le' g0
  have k2 : d2 / Nat.gcd y d2 < M63 := Nat.lt_of_le_of_lt (Nat.div_le_self _ _) hd2
  have k1 : y / Nat.gcd y d2 < M63 := Nat.lt_of_le_of_lt (Nat.div_le_self _ _) hy
  have hnum : hN x y c2 d2 < U * U := by
    unfold hN
    have a1 := mulM hx k2
    have a2 := mulM hc2 k1
    have e : U * U = 340282366920938463463374607431768211456 := by decide
    omega
  exact add_any x y c2 d2 (Nat.gcd y d2) (d2 / Nat.gcd y d2) (y / Nat.gcd y d2) (hN x y c2 d2) (hG x y c2 d2) (sN x y c d) (sD x y c d) ok p q (M63_lt hx) (M63_lt hy) (M63_lt hc2) (M63_lt hd2) rfl g0 (M63_lt (by omega)) rfl rfl (M63_lt k2) (M63_lt k1) rfl hnum rfl G0 (M63_lt (by omega)) (M63_lt (Nat.lt_of_le_of_lt (Nat.div_le_self _ _) hd2)) s1 s2 hok w
/-- The whole sum. -/
def validL (L : List (Int × Int)) : Bool := L.all fun p => okf p.1 p.2
def natL (L : List (Int × Int)) : List (Nat × Nat) := L.map fun p => (p.1.toNat, p.2.toNat)
def sumV (L : List (Int × Int)) : Option (Nat × Nat) := if validL L = true then sumF 0 1 (natL L) else none
def numR (L : List (Int × Int)) : Int := match sumV L with | some p => p.1 | none => 0
def denR (L : List (Int × Int)) : Int := match sumV L with | some p => p.2 | none => 0
def okR (L : List (Int × Int)) : Bool := (sumV L).isSome
theorem res_none {L : List (Int × Int)} (h : sumV L = none) : numR L = 0 ∧ denR L = 0 ∧ okR L = false := by unfold numR denR okR; rw [h]; exact ⟨rfl, rfl, rfl⟩
theorem res_some {L : List (Int × Int)} {x y : Nat} (h : sumV L = some (x, y)) : numR L = x ∧ denR L = y ∧ okR L = true := by unfold numR denR okR; rw [h]; exact ⟨rfl, rfl, rfl⟩
theorem getD_lt {A : Type} (L : List A) (z : A) {k : Nat} (hk : k < L.length) : L.getD k z = L[k] := by simp [List.getD, hk]
theorem sumV_bad {L : List (Int × Int)} {k : Nat} (hk : k < L.length) (h : okf (L.getD k (0, 0)).1 (L.getD k (0, 0)).2 = false) : sumV L = none := by
  unfold sumV
  rw [if_neg]
  unfold validL
  rw [List.all_eq_true]
  intro ha
  have := ha (L.getD k (0, 0)) (by rw [getD_lt _ _ hk]; exact List.getElem_mem hk)
  rw [h] at this; exact absurd this (by decide)
theorem valid_of {L : List (Int × Int)} (h : ∀ j, j < L.length → okf (L.getD j (0, 0)).1 (L.getD j (0, 0)).2 = true) : validL L = true := by
  unfold validL
  rw [List.all_eq_true]
  intro p hp
  obtain ⟨i, hi, rfl⟩ := List.getElem_of_mem hp
  have := h i hi
  rwa [getD_lt _ _ hi] at this
theorem sumV_eq {L : List (Int × Int)} (h : validL L = true) : sumV L = sumF 0 1 (natL L) := by unfold sumV; rw [if_pos h]
theorem drop_step {L : List (Int × Int)} {k : Nat} (hk : k < L.length) : (natL L).drop k = ((L.getD k (0, 0)).1.toNat, (L.getD k (0, 0)).2.toNat) :: (natL L).drop (k + 1) := by
  unfold natL
  rw [List.drop_eq_getElem_cons (by simpa using hk), List.getElem_map, getD_lt _ _ hk]
theorem drop_end {L : List (Int × Int)} : (natL L).drop L.length = [] := by unfold natL; simp
end Go.Proofs.Yteicljlmdphkhaa
