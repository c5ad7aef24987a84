/- Plain mathematics of sums of fractions: what is added at once, reduced, is what the shorter way gives. -/
import Derived.Test.YteicljlmdphkhaaM
namespace Go.Proofs.Yteicljlmdphkhaa
set_option linter.unusedVariables false
/-- The shorter way: of two reduced fractions only what divides both denominators can divide the sum as well. -/
theorem add_gcd (n1 d1 n2 d2 : Nat) (h1 : Nat.gcd n1 d1 = 1) (h2 : Nat.gcd n2 d2 = 1) (hd1 : 0 < d1) (hd2 : 0 < d2) :
    Nat.gcd (n1 * d2 + n2 * d1) (d1 * d2) = Nat.gcd d1 d2 * Nat.gcd (Nat.gcd d1 d2) (n1 * (d2 / Nat.gcd d1 d2) + n2 * (d1 / Nat.gcd d1 d2)) := by
  obtain ⟨g, hg⟩ : ∃ g, g = Nat.gcd d1 d2 := ⟨_, rfl⟩
  have hgp : 0 < g := by rw [hg]; exact Nat.gcd_pos_of_pos_left _ hd1
  obtain ⟨x, hx⟩ : g ∣ d1 := by rw [hg]; exact Nat.gcd_dvd_left _ _
  obtain ⟨y, hy⟩ : g ∣ d2 := by rw [hg]; exact Nat.gcd_dvd_right _ _
  have exy : Nat.gcd x y = 1 := by
    have := Nat.gcd_mul_left g x y
    rw [← hx, ← hy, ← hg] at this
    exact Nat.eq_of_mul_eq_mul_left hgp (by omega)
  rw [← hg]
  have ed1 : d1 / g = x := by rw [hx]; exact Nat.mul_div_cancel_left _ hgp
  have ed2 : d2 / g = y := by rw [hy]; exact Nat.mul_div_cancel_left _ hgp
  rw [ed1, ed2]
  have e1 : n1 * d2 + n2 * d1 = g * (n1 * y + n2 * x) := by
    rw [hx, hy, Nat.mul_add, Nat.mul_left_comm, Nat.mul_left_comm n2]
  have e2 : d1 * d2 = g * (x * (g * y)) := by rw [hx, hy, Nat.mul_assoc]
  rw [e1, e2, Nat.gcd_mul_left]
  congr 1
  obtain ⟨N, hN⟩ : ∃ N, N = n1 * y + n2 * x := ⟨_, rfl⟩
  rw [← hN]
  -- what divides x, and what divides y, divides nothing of N
  have c1 : Nat.gcd x N = 1 := by
    have h : Nat.gcd x n1 = 1 := by
      have : Nat.gcd x n1 ∣ Nat.gcd n1 d1 := Nat.dvd_gcd (Nat.gcd_dvd_right _ _) (Nat.dvd_trans (Nat.gcd_dvd_left _ _) ⟨g, by rw [hx, Nat.mul_comm]⟩)
      rw [h1] at this; exact Nat.dvd_one.mp this
    have hc : Nat.Coprime x (n1 * y) := Nat.Coprime.mul_right h exy
    have : Nat.gcd x N = Nat.gcd x (n1 * y) := by rw [hN, Nat.gcd_add_mul_right_right]
    rw [this]; exact hc
  have c2 : Nat.gcd y N = 1 := by
    have h : Nat.gcd y n2 = 1 := by
      have : Nat.gcd y n2 ∣ Nat.gcd n2 d2 := Nat.dvd_gcd (Nat.gcd_dvd_right _ _) (Nat.dvd_trans (Nat.gcd_dvd_left _ _) ⟨g, by rw [hy, Nat.mul_comm]⟩)
      rw [h2] at this; exact Nat.dvd_one.mp this
    have hc : Nat.Coprime y (n2 * x) := Nat.Coprime.mul_right h (by rw [Nat.coprime_comm]; exact exy)
    have : Nat.gcd y N = Nat.gcd y (n2 * x) := by rw [hN, Nat.add_comm, Nat.gcd_add_mul_right_right]
    rw [this]; exact hc
  have e3 : x * (g * y) = (x * y) * g := by rw [Nat.mul_comm g y, Nat.mul_assoc]
  rw [e3, Nat.gcd_comm]
  have hc : Nat.Coprime (x * y) N := Nat.Coprime.mul_left c1 c2
  exact Nat.Coprime.gcd_mul_left_cancel g hc
/-- A sum's two numbers, reduced. -/
def gN (x y c d : Nat) : Nat := Nat.gcd (x * d + c * y) (y * d)
def sN (x y c d : Nat) : Nat := (x * d + c * y) / gN x y c d
def sD (x y c d : Nat) : Nat := y * d / gN x y c d
theorem gN_pos (x y c d : Nat) (hy : 0 < y) (hd : 0 < d) : 0 < gN x y c d := Nat.gcd_pos_of_pos_right _ (Nat.mul_pos hy hd)
theorem sD_pos (x y c d : Nat) (hy : 0 < y) (hd : 0 < d) : 0 < sD x y c d :=
  Nat.div_pos (Nat.le_of_dvd (Nat.mul_pos hy hd) (Nat.gcd_dvd_right _ _)) (gN_pos x y c d hy hd)
theorem s_reduced (x y c d : Nat) (hy : 0 < y) (hd : 0 < d) : Nat.gcd (sN x y c d) (sD x y c d) = 1 := by
  unfold sN sD gN
  rw [Nat.gcd_div (Nat.gcd_dvd_left _ _) (Nat.gcd_dvd_right _ _)]
  exact Nat.div_self (gN_pos x y c d hy hd)
/-- The short way's numbers. -/
def hN (n1 d1 n2 d2 : Nat) : Nat := n1 * (d2 / Nat.gcd d1 d2) + n2 * (d1 / Nat.gcd d1 d2)
def hG (n1 d1 n2 d2 : Nat) : Nat := Nat.gcd (Nat.gcd d1 d2) (hN n1 d1 n2 d2 % Nat.gcd d1 d2)
theorem hG_eq (n1 d1 n2 d2 : Nat) : hG n1 d1 n2 d2 = Nat.gcd (Nat.gcd d1 d2) (hN n1 d1 n2 d2) := by
  unfold hG; rw [Nat.gcd_comm, ← Nat.gcd_rec]
theorem short_way (n1 d1 n2 d2 : Nat) (h1 : Nat.gcd n1 d1 = 1) (h2 : Nat.gcd n2 d2 = 1) (hd1 : 0 < d1) (hd2 : 0 < d2) :
    hN n1 d1 n2 d2 / hG n1 d1 n2 d2 = sN n1 d1 n2 d2 ∧ d1 / Nat.gcd d1 d2 * (d2 / hG n1 d1 n2 d2) = sD n1 d1 n2 d2 := by
  have e := add_gcd n1 d1 n2 d2 h1 h2 hd1 hd2
  have eg : gN n1 d1 n2 d2 = Nat.gcd d1 d2 * hG n1 d1 n2 d2 := by rw [hG_eq]; exact e
  have hgp : 0 < Nat.gcd d1 d2 := Nat.gcd_pos_of_pos_left _ hd1
  have ex := Nat.div_mul_cancel (Nat.gcd_dvd_left d1 d2)
  have ey := Nat.div_mul_cancel (Nat.gcd_dvd_right d1 d2)
  constructor
  · unfold sN
    rw [eg]
    have : n1 * d2 + n2 * d1 = Nat.gcd d1 d2 * hN n1 d1 n2 d2 := by
      unfold hN
      rw [Nat.mul_add, Nat.mul_left_comm, Nat.mul_left_comm _ n2, Nat.mul_comm (Nat.gcd d1 d2) (d2 / _), Nat.mul_comm (Nat.gcd d1 d2) (d1 / _), ex, ey]
    rw [this, Nat.mul_div_mul_left _ _ hgp]
  · unfold sD
    rw [eg]
    have hdv : hG n1 d1 n2 d2 ∣ d2 := by rw [hG_eq]; exact Nat.dvd_trans (Nat.gcd_dvd_left _ _) (Nat.gcd_dvd_right _ _)
    rw [Nat.mul_div_mul_comm (Nat.gcd_dvd_left _ _) hdv]
/-- What is reduced first gives the same sum. -/
theorem reduced_first (x y c d : Nat) (hd : 0 < d) : sN x y (c / Nat.gcd c d) (d / Nat.gcd c d) = sN x y c d ∧ sD x y (c / Nat.gcd c d) (d / Nat.gcd c d) = sD x y c d := by
  have hgp : 0 < Nat.gcd c d := Nat.gcd_pos_of_pos_right _ hd
  obtain ⟨g, hg⟩ : ∃ g, g = Nat.gcd c d := ⟨_, rfl⟩
  rw [← hg]
  obtain ⟨c', hc⟩ : g ∣ c := by rw [hg]; exact Nat.gcd_dvd_left _ _
  obtain ⟨d', hd'⟩ : g ∣ d := by rw [hg]; exact Nat.gcd_dvd_right _ _
  rw [← hg] at hgp
  have e1 : c / g = c' := by rw [hc]; exact Nat.mul_div_cancel_left _ hgp
  have e2 : d / g = d' := by rw [hd']; exact Nat.mul_div_cancel_left _ hgp
  rw [e1, e2]
  have a1 : x * d + c * y = g * (x * d' + c' * y) := by rw [hc, hd', Nat.mul_add, Nat.mul_left_comm, Nat.mul_assoc]
  have a2 : y * d = g * (y * d') := by rw [hd', Nat.mul_left_comm]
  unfold sN sD gN
  rw [a1, a2, Nat.gcd_mul_left, Nat.mul_div_mul_left _ _ hgp, Nat.mul_div_mul_left _ _ hgp]
  exact ⟨rfl, rfl⟩
/-- 2^63 -/
def M63 : Nat := 9223372036854775808
/-- The sum of whole fractions, from the left on; none: a step is too long. -/
def sumF : Nat → Nat → List (Nat × Nat) → Option (Nat × Nat)
  | x, y, [] => some (x, y)
  | x, y, (c, d) :: l => if sN x y c d < M63 ∧ sD x y c d < M63 then sumF (sN x y c d) (sD x y c d) l else none
theorem sumF_yes (x y c d : Nat) (l : List (Nat × Nat)) (h1 : sN x y c d < M63) (h2 : sD x y c d < M63) : sumF x y ((c, d) :: l) = sumF (sN x y c d) (sD x y c d) l := by
  show (if _ then _ else _) = _; rw [if_pos ⟨h1, h2⟩]
theorem sumF_no (x y c d : Nat) (l : List (Nat × Nat)) (h : ¬ (sN x y c d < M63 ∧ sD x y c d < M63)) : sumF x y ((c, d) :: l) = none := by
  show (if _ then _ else _) = _; rw [if_neg h]
end Go.Proofs.Yteicljlmdphkhaa
