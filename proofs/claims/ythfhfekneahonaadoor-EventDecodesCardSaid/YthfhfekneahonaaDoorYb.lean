/- The reference's reading: numbers. -/
import Derived.Test.YthfhfekneahonaaDoorYa
namespace Go.Proofs.YthfhfekneahonaaDoor
open Go.RowKit
set_option linter.unusedVariables false
/-- A number, the place behind it, the code. -/
def cntV (l : List UInt8) : Rd Nat → Int × Int × Int
  | .ok n r => (n, ((l.length - r.length : Nat) : Int), 0)
  | .bad c => (0, 0, c)
set_option maxRecDepth 100000 in
set_option maxHeartbeats 1000000 in
theorem rcount_any (v : Value) (l : List UInt8) (at' : Nat) (hk : at' ≤ l.length) (hl : l.length ≤ 1000) (B : Nat) (w : World) (hv : Seen w B v l) :
    Calls Tryd.prog 61 #[v, .int .i64 at'] w fun e w' => e = .returned (.tuple #[.int .i64 (cntV l (rdNum (l.drop at'))).1, .int .i64 (cntV l (rdNum (l.drop at'))).2.1, .int .i64 (cntV l (rdNum (l.drop at'))).2.2]) ∧ w' = w := by
  have HV := Lib.hid hv
  obtain ⟨p, cap, rfl⟩ : ∃ p cap, v = .slice p l.length cap := by
    rcases hv with ⟨rfl, rfl⟩ | ⟨ad, cap, rfl, hc, hg, hh⟩
    · exact ⟨none, 0, rfl⟩
    · exact ⟨_, _, rfl⟩
  clear hv
  go_enter Tryd.func61, Tryd.ntmps61
  go_wp2_with fail
  go_loopw [9, 7, 8] (fun i n pw wr => ∃ (k m q : Nat), k ≤ 6 ∧ at' + k ≤ l.length ∧ i = .int .i64 k ∧ n = .int .i64 m ∧ pw = .int .i64 q ∧ Hid (m < 128 ^ k) ∧ Hid (q = 128 ^ k) ∧ Hid (rdNum (l.drop at') = accN k m (.ok () (l.drop (at' + k)))) ∧ wr = w) (fun i _ _ _ => 6 - (intOf i).toNat)
  case atStart => exact ⟨0, 0, 1, by omega, by omega, rfl, rfl, rfl, by unfold Hid; simp, rfl, acc_start (.ok () (l.drop at')), rfl⟩
  case round =>
    obtain ⟨k, m, q, hk6, hkl, rfl, rfl, rfl, HM, HQ, HE, rfl⟩ := hrel
    by_cases h6 : k = 6
    · subst h6
      go_wp2_with fail
      refine bodyPost_ret (v := .tuple #[.int .i64 0, .int .i64 0, .int .i64 2]) (by simp [results, Tryd.results61, go_sem]) rfl ⟨?_, rfl⟩
      rw [HE.out, acc_end _ _ () _ rfl]; rfl
    · have hk5 : k < 6 := by omega
      cases hd : l.drop (at' + k) with
      | nil =>
        have hend : at' + k = l.length := by have := congrArg List.length hd; simp at this; omega
        have g1 : decide ((l.length : Int) ≤ (at' : Int) + (k : Int)) = true := by simp; omega
        have HD := Lib.hid hd
        clear hd
        go_wp2_with fail
        all_goals first
          | (exfalso; omega)
          | (refine bodyPost_ret (v := .tuple #[.int .i64 0, .int .i64 0, .int .i64 3]) (by simp [results, Tryd.results61, go_sem]) rfl ⟨?_, rfl⟩
             rw [HE.out, HD.out, acc_nil _ _ hk5]; rfl)
          | trace_state
      | cons c r =>
        obtain ⟨hlt, hx, hr, hrl⟩ := drop_cons hd
        have hcell : ∃ ad, p = some ad ∧ wr.cell? (ad.add (at' + k)) = some (.int .u8 (c.toNat : Int)) := by
          rcases HV.out with ⟨h0, _⟩ | ⟨ad, cap', hv', hc, hg, hh⟩
          · rw [h0] at hlt; simp at hlt
          · injection hv' with h1 h2 h3
            have := hh (at' + k) hlt
            rw [hx] at this
            exact ⟨ad, h1, this⟩
        obtain ⟨ad, rfl, cc⟩ := hcell
        have g1 : decide ((l.length : Int) ≤ (at' : Int) + (k : Int)) = false := by simp; omega
        have wc := wrap_u8n c
        have c8 := c.toNat_lt
        have hp : 128 ^ k ≤ 128 ^ 5 := Nat.pow_le_pow_right (by omega) (by omega)
        have hq := HQ.out
        have hm := HM.out
        obtain ⟨u, hu⟩ : ∃ u, c.toNat = u := ⟨_, rfl⟩
        rw [hu] at cc wc c8
        have hum : u % 128 < 128 := Nat.mod_lt _ (by omega)
        have hle : u % 128 * q ≤ 127 * 128 ^ 5 := Nat.mul_le_mul (by omega) (by omega)
        have e1 : IntKind.i64.wrap ((u : Int) % 128 * (q : Int)) = ((u % 128 * q : Nat) : Int) := by
          have : (u : Int) % 128 * (q : Int) = ((u % 128 * q : Nat) : Int) := by push_cast; rfl
          rw [this, IntKind.wrap_i64]; omega
        have e2 : IntKind.i64.wrap ((m : Int) + ((u % 128 * q : Nat) : Int)) = ((m + u % 128 * q : Nat) : Int) := by rw [IntKind.wrap_i64]; omega
        have e3 : IntKind.i64.wrap ((q : Int) * 128) = ((q * 128 : Nat) : Int) := by rw [IntKind.wrap_i64]; omega
        have HU := Lib.hid hu
        have HR := Lib.hid hr
        have HD := Lib.hid hd
        clear hu hd hr hp hq hm hum hle hx
        obtain ⟨x, hxx⟩ : ∃ x, u % 128 * q = x := ⟨_, rfl⟩
        obtain ⟨y, hyy⟩ : ∃ y, m + x = y := ⟨_, rfl⟩
        obtain ⟨z, hzz⟩ : ∃ z, q * 128 = z := ⟨_, rfl⟩
        rw [hxx] at e1 e2
        rw [hyy] at e2
        rw [hzz] at e3
        have HX := Lib.hid hxx
        have HY := Lib.hid hyy
        have HZ := Lib.hid hzz
        clear hxx hyy hzz
        by_cases hu0 : u = 0
        · subst hu0
          by_cases hk0 : 0 < k
          · have g2 : decide ((0 : Int) < (k : Int)) = true := by simp; omega
            go_wp2_with fail
            all_goals first
              | (exfalso; omega)
              | (refine bodyPost_ret (v := .tuple #[.int .i64 0, .int .i64 0, .int .i64 2]) (by simp [results, Tryd.results61, go_sem]) rfl ⟨?_, rfl⟩
                 rw [HE.out, HD.out, acc_zero k m hk5 hk0 () c HU.out]; rfl)
              | trace_state
          · have g2 : decide ((0 : Int) < (k : Int)) = false := by simp; omega
            have g3 : decide (0 < k) = false := by simp; omega
            have ha := acc_last k m hk5 () c (by rw [HU.out]; omega) (by rw [HU.out]; omega) r
            rw [HU.out, Nat.mul_zero, Nat.add_zero] at ha
            have er : ((l.length - r.length : Nat) : Int) = (at' : Int) + (k : Int) + 1 := by omega
            have HA := Lib.hid ha
            have HER := Lib.hid er
            have em : wrap64 (m : Int) = (m : Int) := by
              have hm := HM.out
              have hp : 128 ^ k ≤ 128 ^ 5 := Nat.pow_le_pow_right (by omega) (by omega)
              unfold wrap64; omega
            clear ha er e1 e2
            go_wp2_with fail
            all_goals first
              | (exfalso; omega)
              | (refine bodyPost_ret (v := .tuple #[.int .i64 (m : Int), .int .i64 ((at' : Int) + (k : Int) + 1), .int .i64 0]) (by simp [results, Tryd.results61, go_sem, em]) rfl ⟨?_, rfl⟩
                 rw [HE.out, HD.out, HA.out]
                 simp only [cntV]
                 rw [HER.out])
              | trace_state
        · have hu1 : ((u : Int) = 0) = False := by simp; omega
          have er : ((l.length - r.length : Nat) : Int) = (at' : Int) + (k : Int) + 1 := by omega
          have HER := Lib.hid er
          clear er
          go_wp2_with fail
          · refine bodyPost_ret (v := .tuple #[.int .i64 (y : Int), .int .i64 ((at' : Int) + (k : Int) + 1), .int .i64 0]) (by simp [results, Tryd.results61, go_sem]) rfl ⟨?_, rfl⟩
            have hul : u < 128 := by omega
            have ha := acc_last k m hk5 () c (by rw [HU.out]; exact hul) (by rw [HU.out]; omega) r
            have hx := HX.out
            have hy := HY.out
            rw [Nat.mod_eq_of_lt hul, HQ.out, Nat.mul_comm] at hx
            rw [HU.out, hx, hy] at ha
            rw [HE.out, HD.out, ha]
            simp only [cntV]
            rw [HER.out]
          · have hul : ¬ u < 128 := by omega
            have ha := acc_next k m hk5 () c (by rw [HU.out]; exact hul) r
            have hx := HX.out
            have hy := HY.out
            have hz := HZ.out
            have hm := HM.out
            rw [HQ.out] at hx hz
            rw [HU.out, Nat.mul_comm (128 ^ k), hx, hy] at ha
            have hum : u % 128 < 128 := Nat.mod_lt _ (by omega)
            have hxl : x ≤ 127 * 128 ^ k := by rw [← hx]; exact Nat.mul_le_mul_right _ (by omega)
            refine ⟨⟨k + 1, y, z, by omega, by omega, by go_num, rfl, rfl, by unfold Hid; rw [Nat.pow_succ]; omega, by unfold Hid; rw [Nat.pow_succ]; omega, by unfold Hid; rw [HE.out, HD.out, ha, HR.out, Nat.add_assoc], trivial⟩, by simp only [intOf]; omega⟩
end Go.Proofs.YthfhfekneahonaaDoor
