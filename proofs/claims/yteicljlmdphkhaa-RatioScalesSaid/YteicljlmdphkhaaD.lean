/- Plain mathematics of the long division by two digits (what math/bits.Div64 does), over natural numbers. -/
import Derived.Test.YteicljlmdphkhaaM
import Derived.Laws.MathBits
namespace Go.Proofs.Yteicljlmdphkhaa
open Go.RowKit
set_option linter.unusedVariables false
/-- The digit's base. -/
def Bd : Nat := 4294967296
/-- What holds of a guessed digit q with its rest r: u over Y = n1 * Bd + n0. -/
structure Kn (u v n1 n0 q r : Nat) : Prop where
  eq : q * n1 + r = u
  ge : (u * Bd + v) / (n1 * Bd + n0) ≤ q
  le : q ≤ Bd + 1
variable {u v n1 n0 q r : Nat}
theorem kn_start (h1 : 2 * n1 ≥ Bd) (h0 : n0 < Bd) (hv : v < Bd) (hu : u < n1 * Bd + n0) : Kn u v n1 n0 (u / n1) (u % n1) := by
  have hp : 0 < n1 := by unfold Bd at h1; omega
  have e : u / n1 * n1 + u % n1 = u := by rw [Nat.mul_comm]; exact Nat.div_add_mod u n1
  refine ⟨e, ?_, ?_⟩
  · apply Nat.le_of_lt_succ
    rw [Nat.div_lt_iff_lt_mul (by have := Nat.mul_pos hp (show 0 < Bd by decide); omega)]
    have hlt : u % n1 < n1 := Nat.mod_lt _ hp
    have h3 : u * Bd = u / n1 * n1 * Bd + u % n1 * Bd := by rw [← Nat.add_mul, e]
    have h4 : (u / n1).succ * (n1 * Bd + n0) = u / n1 * n1 * Bd + n1 * Bd + (u / n1).succ * n0 := by
      rw [Nat.mul_add, Nat.succ_mul, Nat.mul_assoc]
    have h5 : u % n1 * Bd + Bd ≤ n1 * Bd := by
      have : (u % n1 + 1) * Bd ≤ n1 * Bd := Nat.mul_le_mul_right _ hlt
      rw [Nat.add_mul, Nat.one_mul] at this; exact this
    omega
  · apply Nat.le_of_lt_succ
    rw [Nat.div_lt_iff_lt_mul hp]
    have : (Bd + 1).succ * n1 = n1 * Bd + 2 * n1 := by rw [Nat.succ_mul, Nat.add_mul, Nat.mul_comm Bd n1]; omega
    omega
theorem kn_prod (k : Kn u v n1 n0 q r) : q * (n1 * Bd + n0) + r * Bd = u * Bd + q * n0 := by
  have e := k.eq
  have : u * Bd = q * n1 * Bd + r * Bd := by rw [← e, Nat.add_mul]
  rw [Nat.mul_add, ← Nat.mul_assoc]; omega
theorem kn_pos (hu : u < n1 * Bd + n0) : 0 < n1 * Bd + n0 := by omega
theorem kn_digit (hv : v < Bd) (hu : u < n1 * Bd + n0) : (u * Bd + v) / (n1 * Bd + n0) < Bd := by
  rw [Nat.div_lt_iff_lt_mul (kn_pos hu)]
  have : (u + 1) * Bd ≤ (n1 * Bd + n0) * Bd := Nat.mul_le_mul_right _ hu
  rw [Nat.add_mul, Nat.one_mul] at this
  rw [Nat.mul_comm Bd]; omega
theorem kn_dec (hv : v < Bd) (hu : u < n1 * Bd + n0) (k : Kn u v n1 n0 q r) (h : Bd ≤ q ∨ Bd * r + v < q * n0) : 1 ≤ q ∧ q - 1 ≤ Bd ∧ Kn u v n1 n0 (q - 1) (r + n1) := by
  have hq : (u * Bd + v) / (n1 * Bd + n0) < q := by
    rcases h with h | h
    · exact Nat.lt_of_lt_of_le (kn_digit hv hu) h
    · rw [Nat.div_lt_iff_lt_mul (kn_pos hu)]
      have := kn_prod k
      rw [Nat.mul_comm r Bd] at this
      omega
  have hle := k.le
  have e := k.eq
  have hq1 : 1 ≤ q := Nat.lt_of_le_of_lt (Nat.zero_le _) hq
  refine ⟨hq1, by omega, ⟨?_, Nat.le_sub_one_of_lt hq, by omega⟩⟩
  obtain ⟨p, rfl⟩ : ∃ p, q = p + 1 := ⟨q - 1, by clear hq; omega⟩
  rw [Nat.add_sub_cancel]; rw [Nat.add_mul, Nat.one_mul] at e; clear hq; omega
theorem kn_stop (hu : u < n1 * Bd + n0) (k : Kn u v n1 n0 q r) (h : q * n0 ≤ Bd * r + v) : q = (u * Bd + v) / (n1 * Bd + n0) := by
  apply Nat.le_antisymm _ k.ge
  rw [Nat.le_div_iff_mul_le (kn_pos hu)]
  have := kn_prod k
  rw [Nat.mul_comm r Bd] at this
  omega
theorem kn_break (h0 : n0 < Bd) (hu : u < n1 * Bd + n0) (k : Kn u v n1 n0 q r) (hq : q ≤ Bd) (h : Bd ≤ r) : q = (u * Bd + v) / (n1 * Bd + n0) := by
  apply kn_stop hu k
  have h1 : q * n0 ≤ Bd * n0 := Nat.mul_le_mul_right _ hq
  have h2 : Bd * n0 ≤ Bd * r := Nat.mul_le_mul_left _ (by omega)
  omega
/-- The two digits. -/
theorem two_digits (u v t Y : Nat) (hY : 0 < Y) (ht : t < Bd) : ((u * Bd + v) * Bd + t) / Y = (u * Bd + v) / Y * Bd + ((u * Bd + v) % Y * Bd + t) / Y ∧ ((u * Bd + v) * Bd + t) % Y = ((u * Bd + v) % Y * Bd + t) % Y := by
  obtain ⟨N, hN⟩ : ∃ N, N = u * Bd + v := ⟨_, rfl⟩
  rw [← hN]
  have e : N * Bd + t = (N % Y * Bd + t) + Y * (N / Y * Bd) := by
    have := Nat.div_add_mod N Y
    have h2 : N * Bd = Y * (N / Y) * Bd + N % Y * Bd := by rw [← Nat.add_mul, this]
    rw [Nat.mul_assoc] at h2; omega
  rw [e, Nat.add_mul_div_left _ _ hY, Nat.add_mul_mod_self_left]
  exact ⟨by omega, rfl⟩
/-- Both numbers moved by s. -/
theorem moved (N y s : Nat) : (N * 2 ^ s) / (y * 2 ^ s) = N / y ∧ (N * 2 ^ s) % (y * 2 ^ s) / 2 ^ s = N % y := by
  have hp : 0 < 2 ^ s := Nat.pow_pos (by decide)
  constructor
  · exact Nat.mul_div_mul_right _ _ hp
  · rw [Nat.mul_mod_mul_right, Nat.mul_div_cancel _ hp]
/-- What the round's operations give, none of which goes round. -/
theorem kn_rules (hr : r < Bd) (h0 : n0 < Bd) (hn1 : n1 < Bd) (hv : v < Bd) (hq : 1 ≤ q) (hqB : q ≤ Bd + 1) : IntKind.u64.wrap ((q : Int) * ↑n0) = ((q * n0 : Nat) : Int) ∧ IntKind.u64.wrap (4294967296 * (r : Int)) = ((Bd * r : Nat) : Int) ∧ IntKind.u64.wrap (((Bd * r : Nat) : Int) + ↑v) = ((Bd * r + v : Nat) : Int) ∧ IntKind.u64.wrap ((q : Int) - 1) = ((q - 1 : Nat) : Int) ∧ IntKind.u64.wrap ((r : Int) + ↑n1) = ((r + n1 : Nat) : Int) := by
  simp only [wrapU]
  unfold Bd at *
  have h1 : q * n0 ≤ 4294967297 * 4294967295 := Nat.mul_le_mul hqB (by omega)
  refine ⟨?_, ?_, ?_, ?_, ?_⟩
  · rw [← Int.natCast_mul]; omega
  · omega
  · omega
  · omega
  · omega
theorem kn_tests (hr : r < Bd) (h0 : n0 < Bd) (hv : v < Bd) (hqB : q < Bd) : IntKind.u64.wrap ((q : Int) * ↑n0) = ((q * n0 : Nat) : Int) ∧ IntKind.u64.wrap (4294967296 * (r : Int)) = ((Bd * r : Nat) : Int) ∧ IntKind.u64.wrap (((Bd * r : Nat) : Int) + ↑v) = ((Bd * r + v : Nat) : Int) := by
  simp only [wrapU]
  unfold Bd at *
  have h1 : q * n0 ≤ 4294967295 * 4294967295 := Nat.mul_le_mul (by omega) (by omega)
  refine ⟨?_, ?_, ?_⟩
  · rw [← Int.natCast_mul]; omega
  · omega
  · omega
end Go.Proofs.Yteicljlmdphkhaa
