/- Plain mathematics of numbers of 128 bits as two halves; of nothing else. -/
import Derived.WalkKit
namespace Go.Proofs.Yteicljlmdphkhaa
open Go.RowKit
set_option linter.unusedVariables false
/-- 2^64 -/
def U : Nat := 18446744073709551616
def hi (n : Nat) : Int := ((n / U : Nat) : Int)
def lo (n : Nat) : Int := ((n % U : Nat) : Int)
theorem wrapU (x : Int) : IntKind.u64.wrap x = x % 18446744073709551616 := by rfl
theorem plus_lo (m n : Nat) : IntKind.u64.wrap (lo m + lo n) = lo ((m + n) % (U * U)) := by
  unfold lo U; rw [wrapU]; omega
theorem plus_hi (m n : Nat) (hm : m < U * U) (hn : n < U * U) (h : lo n ≤ IntKind.u64.wrap (lo m + lo n)) : IntKind.u64.wrap (hi m + hi n) = hi ((m + n) % (U * U)) := by
  revert h; unfold lo hi; rw [wrapU, wrapU]; unfold U at *; omega
theorem plus_hi' (m n : Nat) (hm : m < U * U) (hn : n < U * U) (h : IntKind.u64.wrap (lo m + lo n) < lo n) : IntKind.u64.wrap (IntKind.u64.wrap (hi m + hi n) + 1) = hi ((m + n) % (U * U)) := by
  revert h; unfold lo hi; rw [wrapU, wrapU, wrapU]; unfold U at *; omega
theorem hi_small {n : Nat} (h : n < U) : hi n = 0 := by unfold hi; rw [Nat.div_eq_of_lt h]; rfl
theorem lo_small {n : Nat} (h : n < U) : lo n = n := by unfold lo; rw [Nat.mod_eq_of_lt h]
theorem hi_pair (a b : Nat) (h : b < U) : hi (a * U + b) = a := by
  unfold hi; unfold U at *; omega
theorem lo_pair (a b : Nat) (h : b < U) : lo (a * U + b) = b := by
  unfold lo; unfold U at *; omega
theorem mul_lt_U {a b : Nat} (ha : a < 4294967296) (hb : b < 4294967296) : a * b < U := by
  have h1 : a * b ≤ 4294967295 * 4294967295 := Nat.mul_le_mul (by omega) (by omega)
  unfold U; omega
theorem UU (a b : Nat) (ha : a < U) (hb : b < U) : a * b < U * U := Nat.mul_lt_mul'' ha hb
/-- The four products of halves. -/
def p0 (a b : Nat) : Nat := (a / 4294967296) * (b / 4294967296) * U + (a % 4294967296) * (b % 4294967296)
def p1 (a b : Nat) : Nat := (a / 4294967296) * (b % 4294967296) * 4294967296
def p2 (a b : Nat) : Nat := (a % 4294967296) * (b / 4294967296) * 4294967296
theorem p_sum (a b : Nat) : p0 a b + p1 a b + p2 a b = a * b := by
  unfold p0 p1 p2
  obtain ⟨x, hx⟩ : ∃ x, x = a / 4294967296 := ⟨_, rfl⟩
  obtain ⟨y, hy⟩ : ∃ y, y = a % 4294967296 := ⟨_, rfl⟩
  obtain ⟨z, hz⟩ : ∃ x, x = b / 4294967296 := ⟨_, rfl⟩
  obtain ⟨t, ht⟩ : ∃ y, y = b % 4294967296 := ⟨_, rfl⟩
  have ea : a = x * 4294967296 + y := by omega
  have eb : b = z * 4294967296 + t := by omega
  rw [← hx, ← hy, ← hz, ← ht, ea, eb]
  have hU : U = 4294967296 * 4294967296 := rfl
  rw [hU]
  generalize 4294967296 = k
  simp only [Nat.add_mul, Nat.mul_add]
  have e1 : x * k * (z * k) = x * z * (k * k) := by simp only [Nat.mul_left_comm, Nat.mul_comm]
  have e2 : x * k * t = x * t * k := by simp only [Nat.mul_left_comm, Nat.mul_comm]
  have e3 : y * (z * k) = y * z * k := by simp only [Nat.mul_assoc]
  rw [e1, e2, e3]
  omega
theorem castdiv (a : Nat) : (a : Int) / 4294967296 = ((a / 4294967296 : Nat) : Int) := by omega
theorem castmod (a : Nat) : (a : Int) % 4294967296 = ((a % 4294967296 : Nat) : Int) := by omega
theorem p0_hi (a b : Nat) (ha : a < U) (hb : b < U) : IntKind.u64.wrap ((a : Int) / 4294967296 * ((b : Int) / 4294967296)) = hi (p0 a b) := by
  unfold p0
  rw [hi_pair _ _ (mul_lt_U (by omega) (by omega)), wrapU, castdiv, castdiv]
  have := mul_lt_U (a := a / 4294967296) (b := b / 4294967296) (by unfold U at *; omega) (by unfold U at *; omega)
  unfold U at *
  omega
theorem p0_lo (a b : Nat) (ha : a < U) (hb : b < U) : IntKind.u64.wrap (((a : Int) % 4294967296) * ((b : Int) % 4294967296)) = lo (p0 a b) := by
  unfold p0
  have := mul_lt_U (a := a % 4294967296) (b := b % 4294967296) (by omega) (by omega)
  rw [lo_pair _ _ this, wrapU, castmod, castmod]
  unfold U at *
  omega
theorem p1_hi (a b : Nat) (ha : a < U) (hb : b < U) : IntKind.u64.wrap ((a : Int) / 4294967296 * ((b : Int) % 4294967296)) / 4294967296 = hi (p1 a b) := by
  unfold p1 hi
  have := mul_lt_U (a := a / 4294967296) (b := b % 4294967296) (by unfold U at *; omega) (by omega)
  rw [wrapU, castdiv, castmod]
  unfold U at *
  omega
theorem p1_lo (a b : Nat) (ha : a < U) (hb : b < U) : IntKind.u64.wrap (IntKind.u64.wrap ((a : Int) / 4294967296 * ((b : Int) % 4294967296)) * 4294967296) = lo (p1 a b) := by
  unfold p1 lo
  have := mul_lt_U (a := a / 4294967296) (b := b % 4294967296) (by unfold U at *; omega) (by omega)
  rw [wrapU, wrapU, castdiv, castmod]
  unfold U at *
  omega
theorem p2_hi (a b : Nat) (ha : a < U) (hb : b < U) : IntKind.u64.wrap (((a : Int) % 4294967296) * ((b : Int) / 4294967296)) / 4294967296 = hi (p2 a b) := by
  unfold p2 hi
  have := mul_lt_U (a := a % 4294967296) (b := b / 4294967296) (by omega) (by unfold U at *; omega)
  rw [wrapU, castdiv, castmod]
  unfold U at *
  omega
theorem p2_lo (a b : Nat) (ha : a < U) (hb : b < U) : IntKind.u64.wrap (IntKind.u64.wrap (((a : Int) % 4294967296) * ((b : Int) / 4294967296)) * 4294967296) = lo (p2 a b) := by
  unfold p2 lo
  have := mul_lt_U (a := a % 4294967296) (b := b / 4294967296) (by omega) (by unfold U at *; omega)
  rw [wrapU, wrapU, castdiv, castmod]
  unfold U at *
  omega
theorem p0_lt (a b : Nat) (ha : a < U) (hb : b < U) : p0 a b < U * U := by have := p_sum a b; have := UU a b ha hb; omega
theorem p1_lt (a b : Nat) (ha : a < U) (hb : b < U) : p1 a b < U * U := by have := p_sum a b; have := UU a b ha hb; omega
theorem p2_lt (a b : Nat) (ha : a < U) (hb : b < U) : p2 a b < U * U := by have := p_sum a b; have := UU a b ha hb; omega
theorem p_all (a b : Nat) (ha : a < U) (hb : b < U) : ((p0 a b + p1 a b) % (U * U) + p2 a b) % (U * U) = a * b := by
  have := p_sum a b; have := UU a b ha hb
  rw [Nat.mod_eq_of_lt (a := p0 a b + p1 a b) (by omega), Nat.mod_eq_of_lt (by omega)]; omega
theorem mask32 (a : Nat) (ha : a < U) : bits BinOp.and IntKind.u64 (a : Int) 4294967295 = ((a : Int) % 4294967296) := by
  have h := bits_and_u64_nat a 4294967295 (by unfold U at ha; omega) (by omega)
  rw [show (4294967295 : Nat) = 2 ^ 32 - 1 by decide, Nat.and_two_pow_sub_one_eq_mod] at h
  exact h.trans (by omega)
theorem rplus_hi (m n : Nat) (hm : m < U * U) (hn : n < U * U) (h : lo m ≤ IntKind.u64.wrap (lo m + lo n)) : IntKind.u64.wrap (hi m + hi n) = hi ((m + n) % (U * U)) := by
  revert h; unfold lo hi; rw [wrapU, wrapU]; unfold U at *; omega
theorem rplus_hi' (m n : Nat) (hm : m < U * U) (hn : n < U * U) (h : IntKind.u64.wrap (lo m + lo n) < lo m) : IntKind.u64.wrap (IntKind.u64.wrap (hi m + hi n) + 1) = hi ((m + n) % (U * U)) := by
  revert h; unfold lo hi; rw [wrapU, wrapU, wrapU]; unfold U at *; omega
theorem minus_lo (m n : Nat) (h : n ≤ m) : IntKind.u64.wrap (lo m - lo n) = lo (m - n) := by
  unfold lo; rw [wrapU]; unfold U at *; omega
theorem minus_hi (m n : Nat) (hm : m < U * U) (hn : n ≤ m) (h : lo n ≤ lo m) : IntKind.u64.wrap (hi m - hi n) = hi (m - n) := by
  revert h; unfold lo hi; rw [wrapU]; unfold U at *; omega
theorem minus_hi' (m n : Nat) (hm : m < U * U) (hn : n ≤ m) (h : lo m < lo n) : IntKind.u64.wrap (IntKind.u64.wrap (hi m - hi n) - 1) = hi (m - n) := by
  revert h; unfold lo hi; rw [wrapU, wrapU]; unfold U at *; omega
def lt (m n : Nat) : Bool := decide (m < n)
theorem lt_hi (m n : Nat) (h : hi m < hi n) : lt m n = true := by
  revert h; unfold hi lt; rw [decide_eq_true_iff]; unfold U; omega
theorem lt_hi' (m n : Nat) (h : hi n ≤ hi m) (h' : ¬ hi m = hi n) : lt m n = false := by
  revert h h'; unfold hi lt; rw [decide_eq_false_iff_not]; unfold U; omega
theorem lt_lo (m n : Nat) (h : hi m = hi n) : lt m n = decide (lo m < lo n) := by
  revert h; unfold hi lt lo; intro h
  have : (m < n) ↔ (((m % U : Nat) : Int) < ((n % U : Nat) : Int)) := by unfold U at *; omega
  simp [this]
theorem times_odd (o x b M : Nat) (h : b % 2 = 1) : ((o + x) % M + ((x + x) % M) * (b / 2)) % M = (o + x * b) % M := by
  obtain ⟨k, rfl⟩ : ∃ k, b = 2 * k + 1 := ⟨b / 2, by omega⟩
  have e : (2 * k + 1) / 2 = k := by omega
  rw [e, Nat.add_mod, Nat.mod_mod, Nat.mul_mod, Nat.mod_mod, ← Nat.mul_mod, ← Nat.add_mod]
  congr 1
  simp only [Nat.add_mul, Nat.mul_add, Nat.mul_one]
  have : x * (2 * k) = x * k + x * k := by rw [Nat.mul_left_comm]; omega
  omega
theorem times_even (o x b M : Nat) (h : b % 2 = 0) : (o + ((x + x) % M) * (b / 2)) % M = (o + x * b) % M := by
  obtain ⟨k, rfl⟩ : ∃ k, b = 2 * k := ⟨b / 2, by omega⟩
  have e : (2 * k) / 2 = k := by omega
  rw [e, Nat.add_mod, Nat.mul_mod, Nat.mod_mod, ← Nat.mul_mod, ← Nat.add_mod]
  congr 1
  simp only [Nat.add_mul]
  have : x * (2 * k) = x * k + x * k := by rw [Nat.mul_left_comm]; omega
  omega
theorem half_u (b : Nat) (h : b < U) : IntKind.u64.wrap ((b : Int) / 2) = ((b / 2 : Nat) : Int) := by
  rw [wrapU]; unfold U at h; omega
end Go.Proofs.Yteicljlmdphkhaa
