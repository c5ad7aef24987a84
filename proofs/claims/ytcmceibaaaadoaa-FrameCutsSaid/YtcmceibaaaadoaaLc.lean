/- A frame that is cut anywhere is torn. -/
import Derived.Test.YtcmceibaaaadoaaI
namespace Go.Proofs.Ytcmceibaaaadoaa
open Go.RowKit
set_option linter.unusedVariables false
set_option maxRecDepth 100000 in
set_option maxHeartbeats 1000000 in
theorem law_cuts (v : Value) (l : List UInt8) (cut : Int) (w : World) (hv : Seen w w.heap.size v l) :
    Calls Try.prog 5 #[v, .int .i64 cut] w fun e w' => e = .returned (.bool true) ∧ Below w.heap.size w w' := by
  obtain ⟨q, cap, rfl, hcap⟩ := hv.len
  have HV := Lib.hid hv
  clear hv
  by_cases hl : 5000 < l.length
  · have h1 : decide ((5000 : Int) < (l.length : Int)) = true := by simp; omega
    clear hl
    go_enter Try.func5, Try.ntmps5
    go_wp2_with fail
    refine (awake_any _).mono ?_
    rintro e w1 ⟨rfl, hb⟩
    go_wp2_with fail
    go_ret
    exact ⟨rfl, hb⟩
  · have h1 : decide ((5000 : Int) < (l.length : Int)) = false := by simp; omega
    by_cases hc : cut < 0 ∨ (l.length : Int) + 10 ≤ cut
    · have h2 : decide (cut < 0) = true ∨ (decide (cut < 0) = false ∧ decide ((l.length : Int) + 10 ≤ cut) = true) := by
        by_cases h : cut < 0
        · exact .inl (by simpa using h)
        · exact .inr ⟨by simpa using h, by simp; omega⟩
      go_enter Try.func5, Try.ntmps5
      go_wp2_with fail
      refine (awake_any _).mono ?_
      rintro e w1 ⟨rfl, hb⟩
      have hv1 := (HV.out.below hb (Nat.le_refl _)).mono hb.size
      have HV1 := Lib.hid hv1
      clear hv1
      go_wp2_with fail
      refine (seal_any _ l (by omega) _ HV1.out).mono ?_
      rintro e w2 ⟨rfl, hr, hb2⟩
      have bw := hb.trans (hb2.mono hb.size)
      clear hr hb hb2
      rcases h2 with h2 | ⟨h2, h3⟩
      · go_wp2_with fail
        go_ret
        exact ⟨rfl, bw⟩
      · go_wp2_with fail
        go_ret
        exact ⟨rfl, bw⟩
    · obtain ⟨k, rfl⟩ : ∃ k : Nat, cut = k := ⟨cut.toNat, by omega⟩
      have h2 : decide ((k : Int) < 0) = false := by simp
      have h3 : decide ((l.length : Int) + 10 ≤ (k : Int)) = false := by simp; omega
      have hk : k < l.length + 10 := by omega
      have HO := Lib.hid (open_cut l (by omega) k hk)
      clear hc
      go_enter Try.func5, Try.ntmps5
      go_wp2_with fail
      refine (awake_any _).mono ?_
      rintro e w1 ⟨rfl, hb⟩
      have hv1 := (HV.out.below hb (Nat.le_refl _)).mono hb.size
      have HV1 := Lib.hid hv1
      clear hv1
      go_wp2_with fail
      refine (seal_any _ l (by omega) _ HV1.out).mono ?_
      rintro e w2 ⟨rfl, hr, hb2⟩
      have bw := hb.trans (hb2.mono hb.size)
      have HS := Lib.hid (hr.seen.take k (by rw [frameL_len]; omega))
      clear hr hb hb2
      go_wp2_with fail
      refine (open_bad _ ((frameL l).take k) (by rw [List.length_take]; omega) 1 HO.out (by decide) _ HS.out).mono ?_
      rintro e w3 ⟨rfl, hb3⟩
      have bw3 := bw.trans (hb3.mono bw.size)
      clear bw hb3
      go_wp2_with fail
      go_ret
      exact ⟨rfl, bw3⟩
end Go.Proofs.Ytcmceibaaaadoaa
