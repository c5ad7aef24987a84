/- The laws' walks: RatioTurns. -/
import Derived.Test.YteicljlmdphkhaaLd
namespace Go.Proofs.Yteicljlmdphkhaa
open Go.RowKit
set_option linter.unusedVariables false
theorem gN_comm (x y c d : Nat) : gN x y c d = gN c d x y := by unfold gN; rw [Nat.add_comm, Nat.mul_comm y d]
theorem sN_comm (x y c d : Nat) : sN x y c d = sN c d x y := by unfold sN; rw [gN_comm, Nat.add_comm]
theorem sD_comm (x y c d : Nat) : sD x y c d = sD c d x y := by unfold sD; rw [gN_comm, Nat.mul_comm y d]
theorem first_step (x y : Nat) : sN 0 1 x y = x / Nat.gcd x y ∧ sD 0 1 x y = y / Nat.gcd x y := by
  unfold sN sD gN; simp
theorem second_step (x y c d : Nat) (hy : 0 < y) : sN (x / Nat.gcd x y) (y / Nat.gcd x y) c d = sN x y c d ∧ sD (x / Nat.gcd x y) (y / Nat.gcd x y) c d = sD x y c d := by
  have h := reduced_first c d x y hy
  exact ⟨by rw [sN_comm, h.1, sN_comm], by rw [sD_comm, h.2, sD_comm]⟩
theorem sumF_two (x y c d : Nat) (hx : x < M63) (hy : y < M63) (hy0 : 0 < y) : sumF 0 1 [(x, y), (c, d)] = if sN x y c d < M63 ∧ sD x y c d < M63 then some (sN x y c d, sD x y c d) else none := by
  obtain ⟨f1, f2⟩ := first_step x y
  obtain ⟨s1, s2⟩ := second_step x y c d hy0
  have l1 : sN 0 1 x y < M63 := by rw [f1]; exact Nat.lt_of_le_of_lt (Nat.div_le_self _ _) hx
  have l2 : sD 0 1 x y < M63 := by rw [f2]; exact Nat.lt_of_le_of_lt (Nat.div_le_self _ _) hy
  rw [sumF_yes _ _ _ _ _ l1 l2, f1, f2]
  by_cases h : sN x y c d < M63 ∧ sD x y c d < M63
  · rw [sumF_yes _ _ _ _ _ (by rw [s1]; exact h.1) (by rw [s2]; exact h.2), s1, s2, if_pos h]; rfl
  · rw [sumF_no _ _ _ _ _ (by rw [s1, s2]; exact h), if_neg h]
theorem sumV_two (a b c d : Int) : sumV [(a, b), (c, d)] = if okf a b = true ∧ okf c d = true then sumF 0 1 [(a.toNat, b.toNat), (c.toNat, d.toNat)] else none := by
  unfold sumV validL natL
  by_cases h1 : okf a b = true <;> by_cases h2 : okf c d = true <;> simp [h1, h2]
/-- Turned round the sum is the same. -/
theorem sumV_turn (a b c d : Int) (ha : a ≤ 9223372036854775807) (hb : b ≤ 9223372036854775807) (hc : c ≤ 9223372036854775807) (hd : d ≤ 9223372036854775807) : sumV [(c, d), (a, b)] = sumV [(a, b), (c, d)] := by
  rw [sumV_two, sumV_two]
  by_cases h : okf a b = true ∧ okf c d = true
  · rw [if_pos h, if_pos h.symm]
    obtain ⟨x, y, rfl, rfl, l1, l2, l3⟩ := nats_of h.1 ha hb
    obtain ⟨u, v, rfl, rfl, k1, k2, k3⟩ := nats_of h.2 hc hd
    simp only [Int.toNat_natCast]
    rw [sumF_two _ _ _ _ l1 l2 l3, sumF_two _ _ _ _ k1 k2 k3, sN_comm u v x y, sD_comm u v x y]
  · rw [if_neg h, if_neg (fun k => h k.symm)]
/-- Small ones have a sum. -/
theorem sum_small (a b c d : Int) (h1 : okf a b = true) (h2 : okf c d = true) (hb : b < 2147483648) (hd : d < 2147483648) (ha : a < 2147483648) (hc : c < 2147483648) : sumV [(a, b), (c, d)] ≠ none := by
  rw [sumV_two, if_pos ⟨h1, h2⟩]
  obtain ⟨x, y, rfl, rfl, l1, l2, l3⟩ := nats_of h1 (by omega) (by omega)
  obtain ⟨u, v, rfl, rfl, k1, k2, k3⟩ := nats_of h2 (by omega) (by omega)
  simp only [Int.toNat_natCast]
  rw [sumF_two _ _ _ _ l1 l2 l3, if_pos]
  · exact fun h => by cases h
  · have m1 : x * v ≤ 2147483647 * 2147483647 := Nat.mul_le_mul (by omega) (by omega)
    have m2 : u * y ≤ 2147483647 * 2147483647 := Nat.mul_le_mul (by omega) (by omega)
    have m3 : y * v ≤ 2147483647 * 2147483647 := Nat.mul_le_mul (by omega) (by omega)
    have e1 : sN x y u v ≤ x * v + u * y := Nat.div_le_self _ _
    have e2 : sD x y u v ≤ y * v := Nat.div_le_self _ _
    unfold M63
    omega
/-- What a sum of two is, where there is one. -/
theorem sum_is (a b c d : Int) (ha : a ≤ 9223372036854775807) (hb : b ≤ 9223372036854775807) (hc : c ≤ 9223372036854775807) (hd : d ≤ 9223372036854775807) (h : sumV [(a, b), (c, d)] ≠ none) :
    ∃ x y u v p q : Nat, a = x ∧ b = y ∧ c = u ∧ d = v ∧ 0 < y ∧ 0 < v ∧ sumV [(a, b), (c, d)] = some (p, q) ∧ p < M63 ∧ q < M63 ∧ 0 < q ∧ sumV [((p : Int), (q : Int))] = some (p, q) ∧ x * q ≤ p * y ∧ u * q ≤ p * v := by
  rw [sumV_two] at h ⊢
  by_cases hk : okf a b = true ∧ okf c d = true
  · rw [if_pos hk] at h ⊢
    obtain ⟨x, y, rfl, rfl, l1, l2, l3⟩ := nats_of hk.1 ha hb
    obtain ⟨u, v, rfl, rfl, k1, k2, k3⟩ := nats_of hk.2 hc hd
    simp only [Int.toNat_natCast] at h ⊢
    rw [sumF_two _ _ _ _ l1 l2 l3] at h ⊢
    by_cases hs : sN x y u v < M63 ∧ sD x y u v < M63
    · rw [if_pos hs]
      have hg := gN_pos x y u v l3 k3
      have e1 : sN x y u v * gN x y u v = x * v + u * y := Nat.div_mul_cancel (Nat.gcd_dvd_left _ _)
      have e2 : sD x y u v * gN x y u v = y * v := Nat.div_mul_cancel (Nat.gcd_dvd_right _ _)
      have hq := sD_pos x y u v l3 k3
      have hr := s_reduced x y u v l3 k3
      refine ⟨x, y, u, v, sN x y u v, sD x y u v, rfl, rfl, rfl, rfl, l3, k3, rfl, hs.1, hs.2, hq, ?_, ?_, ?_⟩
      · unfold sumV validL natL
        have ho : okf (sN x y u v : Int) (sD x y u v : Int) = true := okf_t (by omega) (by omega)
        simp only [List.all_cons, List.all_nil, Bool.and_true, ho, if_true, List.map_cons, List.map_nil, Int.toNat_natCast]
        obtain ⟨f1, f2⟩ := first_step (sN x y u v) (sD x y u v)
        rw [hr, Nat.div_one] at f1
        rw [hr, Nat.div_one] at f2
        rw [sumF_yes _ _ _ _ _ (by rw [f1]; exact hs.1) (by rw [f2]; exact hs.2), f1, f2]; rfl
      · apply Nat.le_of_mul_le_mul_right _ hg
        have t1 : x * sD x y u v * gN x y u v = x * (y * v) := by rw [Nat.mul_assoc, e2]
        have t2 : sN x y u v * y * gN x y u v = (x * v + u * y) * y := by rw [Nat.mul_right_comm, e1]
        rw [t1, t2, Nat.add_mul, Nat.mul_comm y v, ← Nat.mul_assoc]
        exact Nat.le_add_right _ _
      · apply Nat.le_of_mul_le_mul_right _ hg
        have t1 : u * sD x y u v * gN x y u v = u * (y * v) := by rw [Nat.mul_assoc, e2]
        have t2 : sN x y u v * v * gN x y u v = (x * v + u * y) * v := by rw [Nat.mul_right_comm, e1]
        rw [t1, t2, Nat.add_mul, ← Nat.mul_assoc]
        exact Nat.le_add_left _ _
    · rw [if_neg hs] at h; exact absurd rfl h
  · rw [if_neg hk] at h; exact absurd rfl h
theorem ge_of {p q r s : Nat} (h : r * q ≤ p * s) : 0 ≤ cmpF p q r s := by
  rcases cmpF_cases p q r s with ⟨h', k⟩ | ⟨h', k⟩ | ⟨h', k⟩ <;> omega
end Go.Proofs.Yteicljlmdphkhaa
