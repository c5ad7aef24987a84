/- math/bits.Div64 whole: what the core's hypotheses ask, met for every divisor. -/
import Derived.Test.YteicljlmdphkhaaE
import Derived.Laws.MathBits
namespace Go.Proofs.Yteicljlmdphkhaa
open Go.RowKit
set_option linter.unusedVariables false
theorem bl_spec (x : Nat) (h : x < U) : x < 2 ^ Lib.bitLen x ∧ (x ≠ 0 → 2 ^ (Lib.bitLen x - 1) ≤ x) := by
  induction x using Nat.strongRecOn with
  | ind x ih =>
    rcases Nat.eq_zero_or_pos x with h0 | h0
    · subst h0; exact ⟨Nat.pow_pos (by decide), fun h => absurd rfl h⟩
    · have e := Lib.bitLen_half x (by omega) h
      rcases Nat.eq_zero_or_pos (x / 2) with hz | hz
      · have h1 : x = 1 := by omega
        subst h1
        exact ⟨by decide, by decide⟩
      · obtain ⟨i1, i2⟩ := ih (x / 2) (by omega) (by omega)
        have i2 := i2 (by omega)
        rw [e]
        generalize Lib.bitLen (x / 2) = k at *
        have hk : k ≠ 0 := by intro hk; rw [hk] at i1; simp at i1; omega
        obtain ⟨k, rfl⟩ : ∃ j, k = j + 1 := ⟨k - 1, by omega⟩
        rw [Nat.add_sub_cancel] at i2
        rw [show 1 + (k + 1) - 1 = k + 1 by omega, show 1 + (k + 1) = k + 1 + 1 by omega, Nat.pow_succ 2 (k + 1)]
        rw [Nat.pow_succ] at i1 ⊢
        exact ⟨by omega, fun _ => by omega⟩
theorem U_pow : U = 2 ^ 64 := by decide
theorem U_Bd : U = Bd * Bd := by decide
theorem wrap_cast (x : Nat) (h : x < U) : IntKind.u64.wrap (x : Int) = x := by rw [wrapU]; unfold U at h; omega
theorem wrap_cast' (x : Nat) : IntKind.u64.wrap (x : Int) = ((x % U : Nat) : Int) := by rw [wrapU]; unfold U; omega
theorem or_add (h s L : Nat) (hL : L < 2 ^ s) (hlt : h * 2 ^ s + L < U) : bits .or .u64 ((h * 2 ^ s : Nat) : Int) (L : Int) = ((h * 2 ^ s + L : Nat) : Int) := by
  have e := bits_or_u64_nat (h * 2 ^ s) L (by unfold U at hlt; omega) (by unfold U at hlt; omega)
  rw [e, Nat.mul_comm, ← Nat.two_pow_add_eq_or_of_lt hL]
theorem step_rem (u v Y Q : Nat) (hY : Y < U) (hY0 : 0 < Y) (hQ : (u * Bd + v) / Y = Q) : IntKind.u64.wrap (IntKind.u64.wrap (IntKind.u64.wrap ((u : Int) * 4294967296) + ↑v) - IntKind.u64.wrap (↑Q * ↑Y)) = (((u * Bd + v) % Y : Nat) : Int) := by
  have e := Nat.div_add_mod (u * Bd + v) Y
  have hl := Nat.mod_lt (u * Bd + v) hY0
  rw [hQ] at e
  generalize (u * Bd + v) % Y = z at *
  have e' : (Q : Int) * ↑Y + ↑z = ↑u * 4294967296 + ↑v := by
    have : ((Y * Q + z : Nat) : Int) = ((u * Bd + v : Nat) : Int) := by rw [e]
    unfold Bd at this
    rw [Int.natCast_add, Int.natCast_mul, Int.mul_comm] at this
    omega
  simp only [wrapU]
  unfold U at hY
  generalize (Q : Int) * ↑Y = c at *
  omega
theorem step_first (u n1 : Nat) (hu : u < U) : IntKind.u64.wrap ((u : Int) / ↑n1) = ((u / n1 : Nat) : Int) ∧ IntKind.u64.wrap ((u : Int) - IntKind.u64.wrap (((u / n1 : Nat) : Int) * ↑n1)) = ((u % n1 : Nat) : Int) := by
  have h1 := Nat.div_le_self u n1
  have e := Nat.div_add_mod u n1
  have h3 := Nat.mod_le u n1
  unfold U at hu
  constructor
  · rw [wrapU, ← Int.natCast_ediv]; generalize u / n1 = z at *; omega
  · rw [Nat.mul_comm] at e
    rw [← Int.natCast_mul]
    generalize u / n1 * n1 = c at *
    generalize u % n1 = z at *
    simp only [wrapU]; omega

theorem div64_big (h l y : Nat) (hh : 0 < h) (hy : h < y) (hyU : y < U) (hl : l < U) (w : World) :
    Calls Try.prog 37 #[.int .u64 h, .int .u64 l, .int .u64 y] w fun e w' => e = .returned (.tuple #[.int .u64 (((h * U + l) / y : Nat) : Int), .int .u64 (((h * U + l) % y : Nat) : Int)]) ∧ Below w.heap.size w w' := by
  obtain ⟨b1, b2⟩ := bl_spec y hyU
  have b2 := b2 (by omega)
  have hb64 : Lib.bitLen y ≤ 64 := by
    rcases Nat.lt_or_ge 64 (Lib.bitLen y) with h' | h'
    · have : 2 ^ 64 ≤ 2 ^ (Lib.bitLen y - 1) := Nat.pow_le_pow_right (by decide) (by omega)
      rw [← U_pow] at this; omega
    · exact h'
  have hb1 : 1 ≤ Lib.bitLen y := by
    rcases Nat.eq_zero_or_pos (Lib.bitLen y) with h' | h'
    · rw [h'] at b1; omega
    · exact h'
  obtain ⟨s, hs⟩ : ∃ s, s = 64 - Lib.bitLen y := ⟨_, rfl⟩
  have hs64 : s < 64 := by omega
  have hsp : 0 < 2 ^ s := Nat.pow_pos (by decide)
  have hYU : y * 2 ^ s < U := by
    have : y * 2 ^ s < 2 ^ Lib.bitLen y * 2 ^ s := Nat.mul_lt_mul_of_pos_right b1 hsp
    rw [← Nat.pow_add, show Lib.bitLen y + s = 64 by omega, ← U_pow] at this; exact this
  have hYl : 2 ^ 63 ≤ y * 2 ^ s := by
    have : 2 ^ (Lib.bitLen y - 1) * 2 ^ s ≤ y * 2 ^ s := Nat.mul_le_mul_right _ b2
    rw [← Nat.pow_add, show Lib.bitLen y - 1 + s = 63 by omega] at this; exact this
  have hHY : h * 2 ^ s < y * 2 ^ s := Nat.mul_lt_mul_of_pos_right hy hsp
  have hsplit : 2 ^ (64 - s) * 2 ^ s = U := by rw [← Nat.pow_add, show 64 - s + s = 64 by omega, U_pow]
  have hLs : l / 2 ^ (64 - s) < 2 ^ s := by
    rw [Nat.div_lt_iff_lt_mul (Nat.pow_pos (by decide)), Nat.mul_comm, hsplit]; exact hl
  have hmv : l * 2 ^ s / U = l / 2 ^ (64 - s) := by rw [← hsplit]; exact Nat.mul_div_mul_right _ _ hsp
  obtain ⟨Y, hY⟩ : ∃ Y, Y = y * 2 ^ s := ⟨_, rfl⟩
  obtain ⟨u, hu⟩ : ∃ u, u = h * 2 ^ s + l / 2 ^ (64 - s) := ⟨_, rfl⟩
  obtain ⟨t, ht⟩ : ∃ t, t = l * 2 ^ s % U := ⟨_, rfl⟩
  have hut : (h * U + l) * 2 ^ s = u * U + t := by
    have := Nat.div_add_mod (l * 2 ^ s) U
    rw [hmv, ← ht] at this
    rw [hu, Nat.add_mul, Nat.add_mul, ← this, Nat.mul_right_comm h U, Nat.mul_comm U]; omega
  have huY : u < Y := by
    have e1 : (h * U + l) * 2 ^ s < ((h + 1) * U) * 2 ^ s := Nat.mul_lt_mul_of_pos_right (by rw [Nat.add_mul]; omega) hsp
    have e2 : ((h + 1) * U) * 2 ^ s ≤ (y * U) * 2 ^ s := Nat.mul_le_mul_right _ (Nat.mul_le_mul_right _ hy)
    have e3 : (y * U) * 2 ^ s = Y * U := by rw [hY, Nat.mul_right_comm]
    have e4 : u * U < Y * U := by omega
    exact Nat.lt_of_mul_lt_mul_right e4
  have htU : t < U := by rw [ht]; exact Nat.mod_lt _ (by decide)
  have hYU' : Y < U := by rw [hY]; exact hYU
  have hY63 : 2 ^ 63 ≤ Y := by rw [hY]; exact hYl
  have dY : Y / 4294967296 * Bd + Y % 4294967296 = Y := by unfold Bd; omega
  have dt : t / 4294967296 * Bd + t % 4294967296 = t := by unfold Bd; omega
  have hn1 : Bd ≤ 2 * (Y / 4294967296) := by unfold Bd; omega
  have hn1B : Y / 4294967296 < Bd := by unfold Bd; unfold U at hYU'; omega
  have hn0 : Y % 4294967296 < Bd := by unfold Bd; omega
  have hv : t / 4294967296 < Bd := by unfold Bd; unfold U at htU; omega
  have ht0 : t % 4294967296 < Bd := by unfold Bd; omega
  have huU : u < U := by omega
  have hu' : u < Y / 4294967296 * Bd + Y % 4294967296 := by rw [dY]; exact huY
  have K1 := kn_start hn1 hn0 hv hu'
  have hY0 : 0 < Y := by omega
  have hu2 : (u * Bd + t / 4294967296) % Y < Y := Nat.mod_lt _ hY0
  have hu2' : (u * Bd + t / 4294967296) % Y < Y / 4294967296 * Bd + Y % 4294967296 := by rw [dY]; exact hu2
  have K2 := kn_start hn1 hn0 ht0 hu2'
  have hn1p : 0 < Y / 4294967296 := by unfold Bd at hn1; omega
  have hQ1 : (u * Bd + t / 4294967296) / Y < Bd := by have := kn_digit hv hu'; rw [dY] at this; exact this
  have hQ0 : ((u * Bd + t / 4294967296) % Y * Bd + t % 4294967296) / Y < Bd := by have := kn_digit ht0 hu2'; rw [dY] at this; exact this
  have two := two_digits u (t / 4294967296) (t % 4294967296) Y hY0 ht0
  have hN : (u * Bd + t / 4294967296) * Bd + t % 4294967296 = (h * U + l) * 2 ^ s := by
    rw [hut, Nat.add_mul, Nat.mul_assoc, ← U_Bd]; omega
  rw [hN, hY] at two
  rw [(moved (h * U + l) y s).1] at two
  have mv2 := (moved (h * U + l) y s).2
  rw [two.2] at mv2
  rw [two.1, ← mv2]
  rw [← hY]
  have sf1 := step_first u (Y / 4294967296) huU
  have sf2 := step_first ((u * Bd + t / 4294967296) % Y) (Y / 4294967296) (by omega)
  have hm1 := Nat.mod_lt u hn1p
  have hm2 := Nat.mod_lt ((u * Bd + t / 4294967296) % Y) hn1p
  refine div64_core h l y s Y (Y / 4294967296) (Y % 4294967296) (h * 2 ^ s) (l / 2 ^ (64 - s)) u t (t / 4294967296) (t % 4294967296) (u / (Y / 4294967296)) (u % (Y / 4294967296)) ((u * Bd + t / 4294967296) / Y) ((u * Bd + t / 4294967296) % Y) _ _ (((u * Bd + t / 4294967296) % Y * Bd + t % 4294967296) / Y) (((u * Bd + t / 4294967296) % Y * Bd + t % 4294967296) % Y) _ _ hh hy (by unfold U at hyU; omega) w (by omega) hs64 (Nat.min_eq_left (by omega)) ?eY ?en1 (mask32 Y hYU') ?eH ?eL ?eu ?et ?ev (mask32 t htU) dY hn0 hv ht0 hu' hn1B K1 (Nat.lt_trans hm1 hn1B) ?hn1 hn1p sf1.1 sf1.2 rfl (step_rem u (t / 4294967296) Y _ hYU' hY0 rfl) hu2' K2 (Nat.lt_trans hm2 hn1B) sf2.1 sf2.2 rfl ?eQ (step_rem _ _ Y _ hYU' hY0 rfl) ?eR
  case eY => rw [hY, ← wrap_cast (y * 2 ^ s) hYU]; norm_cast
  case en1 => omega
  case eH => rw [← wrap_cast (h * 2 ^ s) (by omega)]; norm_cast
  case eL => norm_cast
  case eu => rw [hu]; exact or_add h s _ hLs (by omega)
  case et => rw [ht, ← wrap_cast']; norm_cast
  case ev => omega
  case hn1 => simp; omega
  case eQ =>
    generalize (u * Bd + t / 4294967296) / Y = a at *
    generalize ((u * Bd + t / 4294967296) % Y * Bd + t % 4294967296) / Y = b at *
    simp only [wrapU]
    unfold Bd at *
    omega
  case eR => norm_cast
end Go.Proofs.Yteicljlmdphkhaa
