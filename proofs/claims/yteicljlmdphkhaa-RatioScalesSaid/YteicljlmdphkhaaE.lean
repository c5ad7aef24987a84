/- Proved: what math/bits.Div64 gives where the high half is 0, and where it is not, once its numbers are named. -/
import Derived.Test.YteicljlmdphkhaaB
import Derived.Test.YteicljlmdphkhaaD
import Derived.Test.YteicljlmdphkhaaS
import Derived.Deep.QuietTactic
import Derived.BigQuiet
import Derived.Deep.DeepCutAuto
import Derived.Deep.CutBlock
import Derived.WalkSmall
namespace Go.Proofs.Yteicljlmdphkhaa
open Go.RowKit
set_option linter.unusedVariables false
theorem div64_small (l y : Nat) (hy : 0 < y) (hyU : y < U) (hl : l < U) (w : World) :
    Calls Try.prog 37 #[.int .u64 0, .int .u64 l, .int .u64 y] w fun e w' => e = .returned (.tuple #[.int .u64 ((l / y : Nat) : Int), .int .u64 ((l % y : Nat) : Int)]) ∧ Below w.heap.size w w' := by
  have h1 : ((y : Int) == 0) = false := by simp; omega
  have h1' : (y == 0) = false := by simp; omega
  have e1 : IntKind.u64.wrap ((l : Int) / (y : Int)) = ((l / y : Nat) : Int) := by
    have := Nat.div_le_self l y
    rw [wrapU]; unfold U at hl
    rw [← Int.natCast_ediv]; generalize l / y = z at *; omega
  have H1 := Lib.hid hyU
  have H2 := Lib.hid hl
  clear hyU hl
  go_enter Try.func37, Try.ntmps37
  go_wp2
  go_quiet (fail)
  go_wp2
  go_ret2
  exact ⟨rfl, below_drewN (Below.refl _ _) _⟩
set_option maxRecDepth 100000 in
set_option maxHeartbeats 1000000 in
theorem div64_core (h l y s Y n1 n0 H L u t v t0 q0 r0 Q1 u2 q2 r2 Q0 R2 Q R : Nat) (hh : 0 < h) (hy : h < y) (hyU : y ≤ 18446744073709551615) (w : World)
    (es : (64 : Int) - ↑(Lib.bitLen y) = ↑s) (hs : s < 64) (em : min s 64 = s)
    (eY : IntKind.u64.wrap ((y : Int) * 2 ^ s) = ↑Y) (en1 : (Y : Int) / 4294967296 = ↑n1) (en0 : bits .and .u64 (Y : Int) 4294967295 = ↑n0)
    (eH : IntKind.u64.wrap ((h : Int) * 2 ^ s) = ↑H) (eL : (l : Int) / 2 ^ (64 - s) = ↑L) (eu : bits .or .u64 (H : Int) ↑L = ↑u)
    (et : IntKind.u64.wrap ((l : Int) * 2 ^ s) = ↑t) (ev : (t : Int) / 4294967296 = ↑v) (et0 : bits .and .u64 (t : Int) 4294967295 = ↑t0)
    (hY : Hid (n1 * Bd + n0 = Y)) (h0 : Hid (n0 < Bd)) (hv : Hid (v < Bd)) (ht0 : Hid (t0 < Bd)) (hu : Hid (u < n1 * Bd + n0)) (hn1B : Hid (n1 < Bd)) (Kq : Hid (Kn u v n1 n0 q0 r0)) (Kr : Hid (r0 < Bd))
    (hn1 : ((n1 : Int) == 0) = false) (hn1' : 0 < n1) (eq0 : IntKind.u64.wrap ((u : Int) / ↑n1) = ↑q0) (er0 : IntKind.u64.wrap ((u : Int) - IntKind.u64.wrap (↑q0 * ↑n1)) = ↑r0)
    (hQ1 : Hid ((u * Bd + v) / Y = Q1)) (eu2 : IntKind.u64.wrap (IntKind.u64.wrap (IntKind.u64.wrap ((u : Int) * 4294967296) + ↑v) - IntKind.u64.wrap (↑Q1 * ↑Y)) = ↑u2)
    (hu2 : Hid (u2 < n1 * Bd + n0)) (Kq2 : Hid (Kn u2 t0 n1 n0 q2 r2)) (Kr2 : Hid (r2 < Bd))
    (eq2 : IntKind.u64.wrap ((u2 : Int) / ↑n1) = ↑q2) (er2 : IntKind.u64.wrap ((u2 : Int) - IntKind.u64.wrap (↑q2 * ↑n1)) = ↑r2)
    (hQ0 : Hid ((u2 * Bd + t0) / Y = Q0)) (eQ : IntKind.u64.wrap (IntKind.u64.wrap ((Q1 : Int) * 4294967296) + ↑Q0) = ↑Q)
    (eR2 : IntKind.u64.wrap (IntKind.u64.wrap (IntKind.u64.wrap ((u2 : Int) * 4294967296) + ↑t0) - IntKind.u64.wrap (↑Q0 * ↑Y)) = ↑R2) (eR : (R2 : Int) / 2 ^ s = ↑R) :
    Calls Try.prog 37 #[.int .u64 h, .int .u64 l, .int .u64 y] w fun e w' => e = .returned (.tuple #[.int .u64 Q, .int .u64 R]) ∧ Below w.heap.size w w' := by
  have H1 := Lib.hid hyU
  clear hyU
  go_enter Try.func37, Try.ntmps37
  go_wp2_with fail
  refine (Try.bits_LeadingZeros64 _ _ (by omega) (by have := H1.out; omega)).mono ?_
  rintro e w' ⟨rfl, rfl⟩
  go_upto_block 0 with fail
  go_cut [15, 16] from 67 to 85 (fun a b w2 => a = .int .u64 Q1 ∧ w2 = w')
  case first =>
    go_wp2_with fail
    go_loop [15, 16] (fun a b => ∃ q r : Nat, a = .int .u64 q ∧ b = .int .u64 r ∧ Hid (Kn u v n1 n0 q r) ∧ Hid (r < Bd)) (fun a _ => (intOf a).toNat)
    case atStart =>
      exact ⟨q0, r0, rfl, rfl, Kq, Kr⟩
    case round =>
      obtain ⟨q, r, rfl, rfl, hk, hr⟩ := hrel
      have hqB := hk.out.le
      by_cases hA : Bd ≤ q ∨ Bd * r + v < q * n0
      · obtain ⟨d1, d2, d3⟩ := kn_dec hv.out hu.out hk.out hA
        obtain ⟨m1, m2, m3, m4, m5⟩ := kn_rules hr.out h0.out hn1B.out hv.out d1 hqB
        obtain ⟨P, hP⟩ : ∃ P, q * n0 = P := ⟨_, rfl⟩
        obtain ⟨G1, hG1⟩ : ∃ P, Bd * r = P := ⟨_, rfl⟩
        obtain ⟨G, hG⟩ : ∃ P, G1 + v = P := ⟨_, rfl⟩
        obtain ⟨q1, hq1⟩ : ∃ P, q - 1 = P := ⟨_, rfl⟩
        obtain ⟨r1, hr1⟩ : ∃ P, r + n1 = P := ⟨_, rfl⟩
        rw [hG1, hP, hG] at hA
        rw [hq1, hr1] at d3
        rw [hq1] at d2
        rw [hP] at m1
        rw [hG1] at m2
        rw [hG1, hG] at m3
        rw [hq1] at m4
        rw [hr1] at m5
        have D3 := Lib.hid d3
        have D1 := Lib.hid d1
        have D2 := Lib.hid d2
        have HQ1 := Lib.hid hq1
        have HA := Lib.hid hA
        clear hP hG1 hG hq1 hr1 d3 hqB d1 d2 hA
        by_cases hb : Bd ≤ r1
        · have hb' : decide ((4294967296 : Int) ≤ (r1 : Int)) = true := by unfold Bd at hb; simp; omega
          have HB := Lib.hid hb
          clear hb
          have fin := Lib.hid (kn_break h0.out hu.out D3.out D2.out HB.out)
          by_cases hqB : Bd ≤ q
          · have t1 : decide ((4294967296 : Int) ≤ (q : Int)) = true := by unfold Bd at hqB; simp; omega
            clear hqB
            go_wp2_with fail
            go_meet
            exact ⟨by rw [fin.out, hY.out, hQ1.out], rfl⟩
          · have hPG : G < P := by have := HA.out; unfold Bd at *; omega
            have t1 : decide ((4294967296 : Int) ≤ (q : Int)) = false := by unfold Bd at hqB; simp; omega
            clear hqB
            go_wp2_with fail
            go_meet
            exact ⟨by rw [fin.out, hY.out, hQ1.out], rfl⟩
        · have hb' : decide ((4294967296 : Int) ≤ (r1 : Int)) = false := by unfold Bd at hb; simp; omega
          have HB := Lib.hid (show r1 < Bd by omega)
          clear hb
          by_cases hqB : Bd ≤ q
          · have t1 : decide ((4294967296 : Int) ≤ (q : Int)) = true := by unfold Bd at hqB; simp; omega
            clear hqB
            go_wp2_with fail
            go_round
            case rel => exact ⟨q1, r1, rfl, rfl, D3, HB⟩
            case measure => have := D1.out; have := HQ1.out; simp [intOf]; omega
          · have hPG : G < P := by have := HA.out; unfold Bd at *; omega
            have t1 : decide ((4294967296 : Int) ≤ (q : Int)) = false := by unfold Bd at hqB; simp; omega
            clear hqB
            go_wp2_with fail
            go_round
            case rel => exact ⟨q1, r1, rfl, rfl, D3, HB⟩
            case measure => have := D1.out; have := HQ1.out; simp [intOf]; omega
      · have hq2 : q < Bd := by omega
        have hst : q * n0 ≤ Bd * r + v := by omega
        have fin := Lib.hid (kn_stop hu.out hk.out hst)
        have t1 : decide ((4294967296 : Int) ≤ (q : Int)) = false := by unfold Bd at hq2; simp; omega
        obtain ⟨m1, m2, m3⟩ := kn_tests hr.out h0.out hv.out hq2
        obtain ⟨P, hP⟩ : ∃ P, q * n0 = P := ⟨_, rfl⟩
        obtain ⟨G1, hG1⟩ : ∃ P, Bd * r = P := ⟨_, rfl⟩
        obtain ⟨G, hG⟩ : ∃ P, G1 + v = P := ⟨_, rfl⟩
        rw [hP] at m1
        rw [hG1] at m2
        rw [hG1, hG] at m3
        rw [hP, hG1, hG] at hst
        have t2 : ¬ G < P := by omega
        clear hP hG1 hG hst hq2 hA hqB
        go_wp2_with fail
        go_meet
        exact ⟨by rw [fin.out, hY.out, hQ1.out], rfl⟩
  case rest =>
    obtain ⟨rfl, rfl⟩ := hcut
    go_upto_block 2 with fail
    go_cut [18, 16] from 102 to 120 (fun a b w2 => a = .int .u64 Q0 ∧ w2 = wc)
    case first =>
      go_wp2_with fail
      go_loop [18, 16] (fun a b => ∃ q r : Nat, a = .int .u64 q ∧ b = .int .u64 r ∧ Hid (Kn u2 t0 n1 n0 q r) ∧ Hid (r < Bd)) (fun a _ => (intOf a).toNat)
      case atStart =>
        exact ⟨q2, r2, rfl, rfl, Kq2, Kr2⟩
      case round =>
        obtain ⟨q, r, rfl, rfl, hk, hr⟩ := hrel
        have hqB := hk.out.le
        by_cases hA : Bd ≤ q ∨ Bd * r + t0 < q * n0
        · obtain ⟨d1, d2, d3⟩ := kn_dec ht0.out hu2.out hk.out hA
          obtain ⟨m1, m2, m3, m4, m5⟩ := kn_rules hr.out h0.out hn1B.out ht0.out d1 hqB
          obtain ⟨P, hP⟩ : ∃ P, q * n0 = P := ⟨_, rfl⟩
          obtain ⟨G1, hG1⟩ : ∃ P, Bd * r = P := ⟨_, rfl⟩
          obtain ⟨G, hG⟩ : ∃ P, G1 + t0 = P := ⟨_, rfl⟩
          obtain ⟨q1, hq1⟩ : ∃ P, q - 1 = P := ⟨_, rfl⟩
          obtain ⟨r1, hr1⟩ : ∃ P, r + n1 = P := ⟨_, rfl⟩
          rw [hG1, hP, hG] at hA
          rw [hq1, hr1] at d3
          rw [hq1] at d2
          rw [hP] at m1
          rw [hG1] at m2
          rw [hG1, hG] at m3
          rw [hq1] at m4
          rw [hr1] at m5
          have D3 := Lib.hid d3
          have D1 := Lib.hid d1
          have D2 := Lib.hid d2
          have HQ1 := Lib.hid hq1
          have HA := Lib.hid hA
          clear hP hG1 hG hq1 hr1 d3 hqB d1 d2 hA
          by_cases hb : Bd ≤ r1
          · have hb' : decide ((4294967296 : Int) ≤ (r1 : Int)) = true := by unfold Bd at hb; simp; omega
            have HB := Lib.hid hb
            clear hb
            have fin := Lib.hid (kn_break h0.out hu2.out D3.out D2.out HB.out)
            by_cases hqB : Bd ≤ q
            · have t1 : decide ((4294967296 : Int) ≤ (q : Int)) = true := by unfold Bd at hqB; simp; omega
              clear hqB
              go_wp2_with fail
              go_meet
              exact ⟨by rw [fin.out, hY.out, hQ0.out], rfl⟩
            · have hPG : G < P := by have := HA.out; unfold Bd at *; omega
              have t1 : decide ((4294967296 : Int) ≤ (q : Int)) = false := by unfold Bd at hqB; simp; omega
              clear hqB
              go_wp2_with fail
              go_meet
              exact ⟨by rw [fin.out, hY.out, hQ0.out], rfl⟩
          · have hb' : decide ((4294967296 : Int) ≤ (r1 : Int)) = false := by unfold Bd at hb; simp; omega
            have HB := Lib.hid (show r1 < Bd by omega)
            clear hb
            by_cases hqB : Bd ≤ q
            · have t1 : decide ((4294967296 : Int) ≤ (q : Int)) = true := by unfold Bd at hqB; simp; omega
              clear hqB
              go_wp2_with fail
              go_round
              case rel => exact ⟨q1, r1, rfl, rfl, D3, HB⟩
              case measure => have := D1.out; have := HQ1.out; simp [intOf]; omega
            · have hPG : G < P := by have := HA.out; unfold Bd at *; omega
              have t1 : decide ((4294967296 : Int) ≤ (q : Int)) = false := by unfold Bd at hqB; simp; omega
              clear hqB
              go_wp2_with fail
              go_round
              case rel => exact ⟨q1, r1, rfl, rfl, D3, HB⟩
              case measure => have := D1.out; have := HQ1.out; simp [intOf]; omega
        · have hq2 : q < Bd := by omega
          have hst : q * n0 ≤ Bd * r + t0 := by omega
          have fin := Lib.hid (kn_stop hu2.out hk.out hst)
          have t1 : decide ((4294967296 : Int) ≤ (q : Int)) = false := by unfold Bd at hq2; simp; omega
          obtain ⟨m1, m2, m3⟩ := kn_tests hr.out h0.out ht0.out hq2
          obtain ⟨P, hP⟩ : ∃ P, q * n0 = P := ⟨_, rfl⟩
          obtain ⟨G1, hG1⟩ : ∃ P, Bd * r = P := ⟨_, rfl⟩
          obtain ⟨G, hG⟩ : ∃ P, G1 + t0 = P := ⟨_, rfl⟩
          rw [hP] at m1
          rw [hG1] at m2
          rw [hG1, hG] at m3
          rw [hP, hG1, hG] at hst
          have t2 : ¬ G < P := by omega
          clear hP hG1 hG hst hq2 hA hqB
          go_wp2_with fail
          go_meet
          exact ⟨by rw [fin.out, hY.out, hQ0.out], rfl⟩

    case rest =>
      obtain ⟨rfl, rfl⟩ := hcut
      go_wp2
      go_ret2
      exact ⟨rfl, Below.refl _ _⟩
end Go.Proofs.Yteicljlmdphkhaa
