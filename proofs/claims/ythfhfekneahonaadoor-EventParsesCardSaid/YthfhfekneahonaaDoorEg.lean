/- A number read: the reference's. -/
import Derived.Test.YthfhfekneahonaaDoorEf
namespace Go.Proofs.YthfhfekneahonaaDoor
open Go.RowKit
set_option linter.unusedVariables false
theorem numR_no {s : ByteArray} (h : ¬ ((1 ≤ s.size ∧ s.size ≤ 13) ∧ ¬ (1 < s.size ∧ s.data.toList[0]? = some 48) ∧ digB s.data.toList = true)) : numR s = -1 := by unfold numR; rw [if_neg h]
theorem digB_take (s : ByteArray) (k : Nat) (h : k < s.size) : digB (s.data.toList.take (k + 1)) = (digB (s.data.toList.take k) && (decide (48 ≤ (s[k]).toNat) && decide ((s[k]).toNat ≤ 57))) := by
  unfold digB
  rw [take_snoc s k h, List.all_append]; simp
theorem digB_bad {s : ByteArray} {k : Nat} (h : k < s.size) (hb : ¬ (48 ≤ (s[k]).toNat ∧ (s[k]).toNat ≤ 57)) : digB s.data.toList = false := by
  unfold digB
  rw [List.all_eq_false]
  refine ⟨s[k], by show s.data[k] ∈ _; simp, ?_⟩
  simp only [Bool.and_eq_true, decide_eq_true_eq]
  exact hb
theorem valL_take (s : ByteArray) (k : Nat) (h : k < s.size) : valL (s.data.toList.take (k + 1)) = 10 * valL (s.data.toList.take k) + ((s[k]).toNat - 48) := by rw [take_snoc s k h, valL_snoc]
set_option maxRecDepth 100000 in
set_option maxHeartbeats 1000000 in
theorem read_any (s : ByteArray) (hs : s.size ≤ 1000000) (w : World) : Calls Tryd.prog 72 #[.string s] w fun e w' => e = .returned (.int .i64 (numR s)) ∧ w = w' := by
  by_cases h1 : 1 ≤ s.size
  · by_cases h2 : s.size ≤ 13
    · have z1 : ¬ s.size < 1 := by omega
      have z2 : ¬ 13 < s.size := by omega
      have z3 : ¬ ((s.size : Int) < 1) := by omega
      have z4 : ¬ ((13 : Int) < (s.size : Int)) := by omega
      have g0 : s.data.toList[0]? = some s[0] := by rw [List.getElem?_eq_getElem (by rw [show s.data.toList.length = s.size by simp]; omega)]; rfl
      by_cases h3 : 1 < s.size ∧ (s[0]).toNat = 48
      · have e : numR s = -1 := numR_no (fun h => h.2.1 ⟨h3.1, by rw [g0, UInt8.toNat_inj.1 (show (s[0]).toNat = (48 : UInt8).toNat from h3.2)]⟩)
        rw [e]
        obtain ⟨h4, h5⟩ := h3
        have z5 : (1 : Int) < (s.size : Int) := by omega
        have z6 : (((s[0]).toNat : Int) == 48) = true := by rw [h5]; rfl
        have z7 : decide (1 < s.size) = true := by simpa using h4
        clear e g0 hs
        go_enter Tryd.func72, Tryd.ntmps72
        go_wp2
        go_ret
        exact ⟨rfl, rfl⟩
      · obtain ⟨r, hr⟩ : ∃ r, numR s = r := ⟨_, rfl⟩
        rw [hr]
        have HR := Lib.hid hr
        have H3 : Hid (¬ (1 < s.size ∧ s.data.toList[0]? = some 48)) := fun h => h3 ⟨h.1, by
          have := h.2
          rw [g0] at this
          rw [Option.some.inj this]; rfl⟩
        clear hr g0
        have z6 : (¬ 1 < s.size) ∨ (1 < s.size ∧ (((s[0]).toNat : Int) == 48) = false) := by
          by_cases h4 : 1 < s.size
          · right
            refine ⟨h4, ?_⟩
            rw [beq_eq_false_iff_ne]
            intro e
            exact h3 ⟨h4, by omega⟩
          · left; exact h4
        have start : Calls Tryd.prog 72 #[.string s] w fun e w' => e = .returned (.int .i64 r) ∧ w = w' := by
          rcases z6 with z7 | ⟨z7, z6⟩
          all_goals
            first
              | (have z8 : ¬ ((1 : Int) < (s.size : Int)) := by omega)
              | (have z8 : (1 : Int) < (s.size : Int) := by omega)
            clear h3 hs
            go_enter Tryd.func72, Tryd.ntmps72
            go_wp2
            go_loopw [3, 4] (fun vn vi wr => ∃ (k n : Nat), wr = w ∧ k ≤ s.size ∧ vi = .int .i64 k ∧ vn = .int .i64 n ∧ n < 10000000000000 ∧ Hid (n = valL (s.data.toList.take k)) ∧ Hid (digB (s.data.toList.take k) = true)) (fun _ vi _ => s.size - (intOf vi).toNat)
            case atStart => exact ⟨0, 0, rfl, by omega, rfl, rfl, by omega, by unfold Hid; rfl, by unfold Hid; rfl⟩
            case round =>
              obtain ⟨k, n, rfl, hk, rfl, rfl, hn, HN, HD⟩ := hrel
              by_cases hlt : k < s.size
              · have hltz : (k : Int) < (s.size : Int) := by omega
                have hc256 : (s[k]).toNat < 256 := (s[k]).toNat_lt
                by_cases hb : 48 ≤ (s[k]).toNat ∧ (s[k]).toNat ≤ 57
                · obtain ⟨y1, y2⟩ := hb
                  have y3 : ¬ (((s[k]).toNat : Int) < 48) := by omega
                  have y4 : ¬ ((57 : Int) < ((s[k]).toNat : Int)) := by omega
                  have y5 : IntKind.u8.wrap (((s[k]).toNat : Int) - 48) = (((s[k]).toNat - 48 : Nat) : Int) := by rw [IntKind.wrap_u8]; omega
                  have HV : Hid (valL (s.data.toList.take (k + 1)) = 10 * n + ((s[k]).toNat - 48)) := by
                    show _ = _
                    rw [valL_take s k hlt, HN.out]
                  have HD2 : Hid (digB (s.data.toList.take (k + 1)) = true) := by
                    show _ = _
                    rw [digB_take s k hlt, HD.out]; simp [y1, y2]
                  have hbound : 10 * n + ((s[k]).toNat - 48) < 10000000000000 := by
                    have b1 := valL_lt (s.data.toList.take (k + 1)) 0 0 (digB_all HD2.out) (by decide)
                    have b2 : (s.data.toList.take (k + 1)).length ≤ 13 := by rw [List.length_take]; omega
                    have b3 : (10 : Nat) ^ ((s.data.toList.take (k + 1)).length + 0) ≤ 10 ^ 13 := Nat.pow_le_pow_right (by decide) (by omega)
                    have b4 : valF 0 (s.data.toList.take (k + 1)) = valL (s.data.toList.take (k + 1)) := rfl
                    rw [b4, HV.out] at b1
                    omega
                  obtain ⟨x, hx⟩ : ∃ x, x = (s[k]).toNat - 48 := ⟨_, rfl⟩
                  rw [← hx] at y5 hbound HV
                  have HX := Lib.hid hx
                  clear hx
                  go_wp2
                  go_roundw
                  case rel => exact ⟨k + 1, 10 * n + x, trivial, by omega, by go_num, by go_num, hbound, HV.out.symm, HD2⟩
                  case measure => simp [intOf]; omega
                · have e : r = -1 := by
                    rw [← HR.out]
                    exact numR_no (fun h => by rw [digB_bad hlt hb] at h; exact absurd h.2.2 (by decide))
                  subst e
                  by_cases y1 : 48 ≤ (s[k]).toNat
                  · have y2 : (57 : Int) < ((s[k]).toNat : Int) := by omega
                    have y3 : ¬ (((s[k]).toNat : Int) < 48) := by omega
                    clear hb
                    go_wp2
                    go_ret
                    exact ⟨rfl, rfl⟩
                  · have y3 : (((s[k]).toNat : Int) < 48) := by omega
                    clear hb
                    go_wp2
                    go_ret
                    exact ⟨rfl, rfl⟩
              · have hltz : ¬ (k : Int) < (s.size : Int) := by omega
                obtain rfl : k = s.size := by omega
                have ht : s.data.toList.take s.size = s.data.toList := List.take_of_length_le (by simp)
                have e : r = n := by
                  rw [← HR.out]
                  have h1' := HN.out
                  have h2' := HD.out
                  rw [ht] at h1' h2'
                  unfold numR
                  rw [if_pos ⟨⟨by omega, by omega⟩, H3.out, h2'⟩, h1']
                subst e
                go_wp2
                go_ret
                exact ⟨rfl, rfl⟩
        exact start
    · have e : numR s = -1 := numR_no (fun h => h2 h.1.2)
      rw [e]
      have z1 : ¬ s.size < 1 := by omega
      have z2 : 13 < s.size := by omega
      have z3 : ¬ ((s.size : Int) < 1) := by omega
      have z4 : ((13 : Int) < (s.size : Int)) := by omega
      clear e
      go_enter Tryd.func72, Tryd.ntmps72
      go_wp2
      go_ret
      exact ⟨rfl, rfl⟩
  · have e : numR s = -1 := numR_no (fun h => h1 h.1.1)
    rw [e]
    have z1 : s.size < 1 := by omega
    have z3 : ((s.size : Int) < 1) := by omega
    clear e
    go_enter Tryd.func72, Tryd.ntmps72
    go_wp2
    go_ret
    exact ⟨rfl, rfl⟩
end Go.Proofs.YthfhfekneahonaaDoor
