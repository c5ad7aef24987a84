/- A frame of which one byte is another one is bad. -/
import Derived.Test.YtcmceibaaaadoaaJ
namespace Go.Proofs.Ytcmceibaaaadoaa
open Go.RowKit
set_option linter.unusedVariables false
set_option maxRecDepth 100000 in
set_option maxHeartbeats 1000000 in
theorem turned_early (n m : Nat) (q q1 : Option Addr) (cap cap1 : Nat) (at_ b : Int) (w : World) (h : 5000 < n ∨ 3000 < m ∨ b = 0) :
    Calls Try.prog 6 #[.slice q n cap, .slice q1 m cap1, .int .i64 at_, .int .u8 b] w fun e w' => e = .returned (.bool true) ∧ Below w.heap.size w w' := by
  by_cases h1 : 5000 < n
  · have d1 : decide ((5000 : Int) < (n : Int)) = true := by simp; omega
    clear h
    go_enter Try.func6, Try.ntmps6
    go_wp2_with fail
    refine (awake_any _).mono ?_
    rintro e w1 ⟨rfl, hb⟩
    go_wp2_with fail
    go_ret
    exact ⟨rfl, hb⟩
  · have d1 : decide ((5000 : Int) < (n : Int)) = false := by simp; omega
    by_cases h2 : 3000 < m
    · have d2 : decide ((3000 : Int) < (m : Int)) = true := by simp; omega
      clear h
      go_enter Try.func6, Try.ntmps6
      go_wp2_with fail
      refine (awake_any _).mono ?_
      rintro e w1 ⟨rfl, hb⟩
      go_wp2_with fail
      go_ret
      exact ⟨rfl, hb⟩
    · have d2 : decide ((3000 : Int) < (m : Int)) = false := by simp; omega
      obtain rfl : b = 0 := by omega
      clear h
      go_enter Try.func6, Try.ntmps6
      go_wp2_with fail
      refine (awake_any _).mono ?_
      rintro e w1 ⟨rfl, hb⟩
      go_wp2_with fail
      go_ret
      exact ⟨rfl, hb⟩
set_option maxRecDepth 100000 in
set_option maxHeartbeats 1000000 in
theorem turned_late (v : Value) (l : List UInt8) (v1 : Value) (l1 : List UInt8) (at_ : Int) (by_ : UInt8) (w : World) (hv : Seen w w.heap.size v l) (hv1 : Seen w w.heap.size v1 l1) (hl : l.length ≤ 5000) (hl1 : l1.length ≤ 3000) (hb0 : by_ ≠ 0) :
    Calls Try.prog 6 #[v, v1, .int .i64 at_, .int .u8 (by_.toNat : Int)] w fun e w' => e = .returned (.bool true) ∧ Below w.heap.size w w' := by
  obtain ⟨q, cap, rfl, hcap⟩ := hv.len
  obtain ⟨q1, cap1, rfl, hcap1⟩ := hv1.len
  have HV := Lib.hid hv
  have HV1 := Lib.hid hv1
  clear hv hv1
  have d1 : decide ((5000 : Int) < (l.length : Int)) = false := by simp; omega
  have d2 : decide ((3000 : Int) < (l1.length : Int)) = false := by simp; omega
  have hby := by_.toNat_lt
  have d3 : ((by_.toNat : Int) == 0) = false := by
    have : by_.toNat ≠ 0 := fun e => hb0 (UInt8.toNat_inj.1 e)
    simp; omega
  have HB0 := Lib.hid hb0
  clear hb0
  by_cases hc : at_ < 0 ∨ (l.length : Int) + 10 ≤ at_
  · have h2 : decide (at_ < 0) = true ∨ (decide (at_ < 0) = false ∧ decide ((l.length : Int) + 10 ≤ at_) = true) := by
      by_cases h : at_ < 0
      · exact .inl (by simpa using h)
      · exact .inr ⟨by simpa using h, by simp; omega⟩
    go_enter Try.func6, Try.ntmps6
    go_wp2_with fail
    refine (awake_any _).mono ?_
    rintro e w1 ⟨rfl, hb⟩
    have hv1 := (HV.out.below hb (Nat.le_refl _)).mono hb.size
    have HW1 := Lib.hid hv1
    clear hv1
    go_wp2_with fail
    refine (seal_any _ l (by omega) _ HW1.out).mono ?_
    rintro e w2 ⟨rfl, hr, hb2⟩
    have bw := hb.trans (hb2.mono hb.size)
    clear hr hb hb2
    rcases h2 with h2 | ⟨h2, h3⟩
    · go_wp2_with fail
      go_ret
      exact ⟨rfl, bw⟩
    · go_wp2_with fail
      go_ret
      exact ⟨rfl, bw⟩
  · obtain ⟨k, rfl⟩ : ∃ k : Nat, at_ = k := ⟨at_.toNat, by omega⟩
    have h2 : decide ((k : Int) < 0) = false := by simp
    have h3 : decide ((l.length : Int) + 10 ≤ (k : Int)) = false := by simp; omega
    have hk : k < l.length + 10 := by omega
    have hkf : k < (frameL l).length := by rw [frameL_len]; exact hk
    obtain ⟨x, hx⟩ : ∃ x, (frameL l)[k] = x := ⟨_, rfl⟩
    have hxl := x.toNat_lt
    have HX := Lib.hid (xor8 x by_)
    have HO := Lib.hid (open_turn l l1 (by omega) k hk (x ^^^ by_) (by rw [getD_at hkf, hx]; exact xor_ne HB0.out))
    clear hc
    go_enter Try.func6, Try.ntmps6
    go_wp2_with fail
    refine (awake_any _).mono ?_
    rintro e w1 ⟨rfl, hb⟩
    have hw1 := (HV.out.below hb (Nat.le_refl _)).mono hb.size
    have HW1 := Lib.hid hw1
    clear hw1
    go_wp2_with fail
    refine (seal_any _ l (by omega) _ HW1.out).mono ?_
    rintro e w2 ⟨rfl, hr, hb2⟩
    have bw := hb.trans (hb2.mono hb.size)
    have hsz := hb.size
    have hgz := hr.lt
    have hcell := hr.cells hkf
    rw [hx] at hcell
    have hfr := hr.frozen k
    have hs3 := hr.set k (x ^^^ by_)
    rw [← HX.out] at hs3
    have hsv : Hid (∀ u, Below w.heap.size w (w2.setCell ⟨w1.heap.size, k, none⟩ u)) := fun u => bw.setCell (p := ⟨w1.heap.size, k, none⟩) hsz u
    have HS3 := Lib.hid hs3
    clear hr hb hb2 hs3
    go_wp2_with (at_builtin; refine wpList_append_seen rfl (.tmp 57) (.tmp 58) rfl w1.heap.size _ _ rfl HS3.out.own w.heap.size _ l1 rfl (HV1.out.below (hsv.out _) (Nat.le_refl _)) ?c1 ?c2 w.heap.size w (hsv.out _) hsz ?_)
    case c1 => rw [List.length_set, frameL_len]; omega
    case c2 => simp; omega
    intro v3 w3 hr3 hb3
    have hs3 := Seen.own hr3
    have HS4 := Lib.hid hs3
    have hl3 : ((frameL l).set k (x ^^^ by_) ++ l1).length ≤ 1000000000 := by rw [List.length_append, List.length_set, frameL_len]; omega
    clear hr3 hs3
    go_wp2_with fail
    refine (open_bad _ _ hl3 2 HO.out (by decide) w3 HS4.out).mono ?_
    rintro e w4 ⟨rfl, hb4⟩
    have bw4 := hb3.out.trans (hb4.mono hb3.out.size)
    clear hb4
    go_wp2_with fail
    go_ret
    exact ⟨rfl, bw4⟩
theorem law_turned (v : Value) (l : List UInt8) (v1 : Value) (l1 : List UInt8) (at_ b : Int) (w : World) (hv : Seen w w.heap.size v l) (hv1 : Seen w w.heap.size v1 l1) (hb0 : 0 ≤ b) (hb1 : b < 256) :
    Calls Try.prog 6 #[v, v1, .int .i64 at_, .int .u8 b] w fun e w' => e = .returned (.bool true) ∧ Below w.heap.size w w' := by
  by_cases h : 5000 < l.length ∨ 3000 < l1.length ∨ b = 0
  · obtain ⟨q, cap, rfl, _⟩ := hv.len
    obtain ⟨q1, cap1, rfl, _⟩ := hv1.len
    exact turned_early l.length l1.length q q1 cap cap1 at_ b w h
  · obtain ⟨n, rfl⟩ : ∃ n : Nat, b = n := ⟨b.toNat, by omega⟩
    have e := u8_nat (n := n) (by omega)
    rw [e]
    refine turned_late v l v1 l1 at_ n.toUInt8 w hv hv1 (by omega) (by omega) (fun e0 => ?_)
    rw [e0] at e
    exact h (.inr (.inr (by simpa using e)))
end Go.Proofs.Ytcmceibaaaadoaa
