/- The laws' walks: RatioProducts, RatioScales, RatioLeft, RatioSums. -/
import Derived.Test.YteicljlmdphkhaaY
namespace Go.Proofs.Yteicljlmdphkhaa
open Go.RowKit
set_option linter.unusedVariables false
set_option maxRecDepth 100000 in
theorem law_products (a b : Int) (ha : a ≤ 9223372036854775807) (hb : b ≤ 9223372036854775807) (w : World) :
    Calls Try.prog 6 #[.int .i64 a, .int .i64 b] w fun e w' => e = .returned (.bool true) ∧ Below w.heap.size w w' := by
  obtain ⟨x, hx⟩ : ∃ x : Nat, max a 0 = (x : Int) := ⟨(max a 0).toNat, by omega⟩
  obtain ⟨y, hy⟩ : ∃ x : Nat, max b 0 = (x : Int) := ⟨(max b 0).toNat, by omega⟩
  have HX := Lib.hid (show x < U by unfold U; omega)
  have HY := Lib.hid (show y < U by unfold U; omega)
  have cx := wrap_cast x HX.out
  have cy := wrap_cast y HY.out
  clear ha hb
  go_enter Try.func6, Try.ntmps6
  go_wp2_with fail
  refine (product_any a b x y hx hy HX.out HY.out _).mono ?_
  rintro e w1 ⟨rfl, hb1⟩
  go_wp2_with fail
  refine (times_any x y HX.out HY.out _).mono ?_
  rintro e w2 ⟨rfl, hb2⟩
  have bw := hb1.trans (hb2.mono hb1.size)
  clear hb1 hb2
  go_wp2_with fail
  refine (awake_any _).mono ?_
  rintro e w3 ⟨rfl, hb3⟩
  have bw3 := (bw.alloc bw.size _).trans (hb3.mono (by have := bw.size; simp <;> omega))
  clear hb3 bw
  go_wp2
  go_ret
  exact ⟨rfl, bw3⟩
set_option maxRecDepth 100000 in
theorem law_scales (a b c : Int) (ha : a ≤ 9223372036854775807) (hb : b ≤ 9223372036854775807) (hc : c ≤ 9223372036854775807) (w : World) :
    Calls Try.prog 7 #[.int .i64 a, .int .i64 b, .int .i64 c] w fun e w' => e = .returned (.bool true) ∧ Below w.heap.size w w' := by
  by_cases hbad : a < 0 ∨ b < 0 ∨ c < 1
  · go_enter Try.func7, Try.ntmps7
    go_wp2_with fail
    refine (scale_bad a b c hbad _).mono ?_
    rintro e w1 ⟨rfl, hb1⟩
    go_wp2_with fail
    refine (rscale_bad a b c hbad _).mono ?_
    rintro e w2 ⟨rfl, hb2⟩
    have bw := hb1.trans (hb2.mono hb1.size)
    clear hb1 hb2 hbad
    go_wp2_with fail
    refine (awake_any _).mono ?_
    rintro e w3 ⟨rfl, hb3⟩
    have bw3 := bw.trans (hb3.mono bw.size)
    clear hb3 bw
    go_wp2
    go_ret
    exact ⟨rfl, bw3⟩
  · obtain ⟨x, rfl⟩ : ∃ x : Nat, a = x := ⟨a.toNat, by omega⟩
    obtain ⟨y, rfl⟩ : ∃ x : Nat, b = x := ⟨b.toNat, by omega⟩
    obtain ⟨d, rfl⟩ : ∃ x : Nat, c = x := ⟨c.toNat, by omega⟩
    have HX := Lib.hid (show x < U by unfold U; omega)
    have HY := Lib.hid (show y < U by unfold U; omega)
    have HD := Lib.hid (show d < U by unfold U; omega)
    have hd := Lib.hid (show 0 < d by omega)
    clear ha hb hc hbad
    by_cases hq : x * y / d < M63
    · have Hq := Lib.hid hq
      clear hq
      go_enter Try.func7, Try.ntmps7
      go_wp2_with fail
      refine (scale_ok x y d HX.out HY.out hd.out HD.out Hq.out _).mono ?_
      rintro e w1 ⟨rfl, hb1⟩
      go_wp2_with fail
      refine (rscale_ok x y d HX.out HY.out hd.out HD.out Hq.out _).mono ?_
      rintro e w2 ⟨rfl, hb2⟩
      have bw := hb1.trans (hb2.mono hb1.size)
      clear hb1 hb2
      go_wp2_with fail
      refine (awake_any _).mono ?_
      rintro e w3 ⟨rfl, hb3⟩
      have bw3 := bw.trans (hb3.mono bw.size)
      clear hb3 bw
      go_wp2
      go_ret
      exact ⟨rfl, bw3⟩
    · have Hq := Lib.hid (show M63 ≤ x * y / d from Nat.le_of_not_lt hq)
      clear hq
      go_enter Try.func7, Try.ntmps7
      go_wp2_with fail
      refine (scale_no x y d HX.out HY.out hd.out HD.out Hq.out _).mono ?_
      rintro e w1 ⟨rfl, hb1⟩
      go_wp2_with fail
      refine (rscale_no x y d HX.out HY.out hd.out HD.out Hq.out _).mono ?_
      rintro e w2 ⟨rfl, hb2⟩
      have bw := hb1.trans (hb2.mono hb1.size)
      clear hb1 hb2
      go_wp2_with fail
      refine (awake_any _).mono ?_
      rintro e w3 ⟨rfl, hb3⟩
      have bw3 := bw.trans (hb3.mono bw.size)
      clear hb3 bw
      go_wp2
      go_ret
      exact ⟨rfl, bw3⟩
set_option maxRecDepth 100000 in
theorem law_left_no (a b c : Int) (w : World) (h : ∀ w : World, Calls Try.prog 18 #[.int .i64 a, .int .i64 b, .int .i64 c] w fun e w' => e = .returned (.tuple #[.int .i64 0, .bool false]) ∧ Below w.heap.size w w') :
    Calls Try.prog 8 #[.int .i64 a, .int .i64 b, .int .i64 c] w fun e w' => e = .returned (.bool true) ∧ Below w.heap.size w w' := by
  have H := Lib.hid h
  clear h
  go_enter Try.func8, Try.ntmps8
  go_wp2_with fail
  refine (H.out _).mono ?_
  rintro e w1 ⟨rfl, hb1⟩
  go_wp2_with fail
  refine (awake_any _).mono ?_
  rintro e w3 ⟨rfl, hb3⟩
  have bw3 := hb1.trans (hb3.mono hb1.size)
  clear hb3 hb1
  go_wp2
  go_ret
  exact ⟨rfl, bw3⟩
theorem left_eq (n d : Nat) : n - n / d * d = n % d := by
  have := Nat.div_add_mod n d
  rw [Nat.mul_comm] at this; omega
set_option maxRecDepth 100000 in
theorem law_left (a b c : Int) (ha : a ≤ 9223372036854775807) (hb : b ≤ 9223372036854775807) (hc : c ≤ 9223372036854775807) (w : World) :
    Calls Try.prog 8 #[.int .i64 a, .int .i64 b, .int .i64 c] w fun e w' => e = .returned (.bool true) ∧ Below w.heap.size w w' := by
  by_cases hbad : a < 0 ∨ b < 0 ∨ c < 1
  · exact law_left_no a b c w (fun w => scale_bad a b c hbad w)
  · obtain ⟨x, rfl⟩ : ∃ x : Nat, a = x := ⟨a.toNat, by omega⟩
    obtain ⟨y, rfl⟩ : ∃ x : Nat, b = x := ⟨b.toNat, by omega⟩
    obtain ⟨d, rfl⟩ : ∃ x : Nat, c = x := ⟨c.toNat, by omega⟩
    have HX := Lib.hid (show x < U by unfold U; omega)
    have HY := Lib.hid (show y < U by unfold U; omega)
    have HD := Lib.hid (show d < U by unfold U; omega)
    have hd := Lib.hid (show 0 < d by omega)
    clear ha hb hc hbad
    by_cases hq : x * y / d < M63
    · obtain ⟨n, hn⟩ : ∃ n, x * y / d = n := ⟨_, rfl⟩
      obtain ⟨z, hz⟩ : ∃ z, x * y % d = z := ⟨_, rfl⟩
      have hzd : z < d := by rw [← hz]; exact Nat.mod_lt _ hd.out
      have hle : n * d ≤ x * y := by rw [← hn]; exact Nat.div_mul_le_self _ _
      have hsub : x * y - n * d = z := by rw [← hn, ← hz]; exact left_eq _ _
      have hnU : n < U := M63_lt (by rw [← hn]; exact hq)
      have Hq := Lib.hid hq
      have Hn := Lib.hid hn
      have Hz := Lib.hid hz
      have Hle := Lib.hid hle
      have Hsub := Lib.hid hsub
      have HN := Lib.hid hnU
      have m1 := show max (x : Int) 0 = (x : Int) by omega
      have m2 := show max (y : Int) 0 = (y : Int) by omega
      have m3 := show max (n : Int) 0 = (n : Int) by omega
      have m4 := show max (d : Int) 0 = (d : Int) by omega
      have hlt : lt (x * y) (n * d) = false := by unfold lt; simp; omega
      have hzU : z < U := Nat.lt_trans hzd HD.out
      have z1 := Lib.hid (hi_small hzU)
      have z2 := Lib.hid (lo_small hzU)
      have cd := wrap_cast d HD.out
      clear hq hn hz hle hsub hnU hzU
      go_enter Try.func8, Try.ntmps8
      go_wp2_with fail
      refine (scale_ok x y d HX.out HY.out hd.out HD.out Hq.out _).mono ?_
      rw [Hn.out]
      rintro e w1 ⟨rfl, hb1⟩
      go_wp2_with fail
      refine (product_any x y x y m1 m2 HX.out HY.out _).mono ?_
      rintro e w2 ⟨rfl, hb2⟩
      have bw := hb1.trans (hb2.mono hb1.size)
      clear hb1 hb2
      go_wp2_with fail
      refine (product_any n d n d m3 m4 HN.out HD.out _).mono ?_
      rintro e w3 ⟨rfl, hb3⟩
      have bw3 := bw.trans (hb3.mono bw.size)
      clear hb3 bw
      go_wp2_with fail
      refine (less_any (x * y) (n * d) _ _ _ _ rfl rfl rfl rfl _).mono ?_
      rintro e w4 ⟨rfl, hb4⟩
      have A := ((Blk2.new w3 _ _ _).alloc _).below hb4 (by simp <;> omega)
      have B := (Blk2.new (w3.alloc _) _ _ _).below hb4 (by simp)
      simp at B
      have bw4 := ((bw3.alloc bw3.size _).alloc (by have := bw3.size; simp <;> omega) _).trans (hb4.mono (by have := bw3.size; simp <;> omega))
      clear hb4 bw3
      obtain ⟨a0, a1, _, _⟩ := A.all
      obtain ⟨b0, b1, _, _⟩ := B.all
      go_wp2_with fail
      refine (minus_any (x * y) (n * d) z _ _ _ _ (UU x y HX.out HY.out) Hle.out Hsub.out rfl rfl rfl rfl _).mono ?_
      rintro e w5 ⟨rfl, hb5⟩
      have bw5 := bw4.trans (hb5.mono bw4.size)
      rw [z1.out, z2.out]
      clear hb5 bw4
      go_wp2_with fail
      refine (awake_any _).mono ?_
      rintro e w6 ⟨rfl, hb6⟩
      have bw6 := (bw5.alloc bw5.size _).trans (hb6.mono (by have := bw5.size; simp <;> omega))
      clear hb6 bw5
      go_wp2
      go_ret
      exact ⟨rfl, bw6⟩
    · exact law_left_no _ _ _ w (fun w => scale_no x y d HX.out HY.out hd.out HD.out (Nat.le_of_not_lt hq) w)
set_option maxRecDepth 100000 in
theorem law_sums_long (ad : Option Addr) (len cap : Nat) (h : 12 < len) (w : World) :
    Calls Try.prog 9 #[.slice ad len cap] w fun e w' => e = .returned (.bool true) ∧ Below w.heap.size w w' := by
  have h1 : (12 : Int) < (len : Int) := by omega
  go_enter Try.func9, Try.ntmps9
  go_wp2_with fail
  refine (awake_any _).mono ?_
  rintro e w1 ⟨rfl, hb1⟩
  go_wp2
  go_ret
  exact ⟨rfl, hb1⟩
set_option maxRecDepth 100000 in
theorem law_sums_core (ad : Option Addr) (len cap : Nat) (h : len ≤ 12) (p q : Int) (ok : Bool) (w : World) (B : Nat) (hB : B ≤ w.heap.size)
    (h1 : ∀ w' : World, Below w.heap.size w w' → Calls Try.prog 22 #[.slice ad len cap] w' fun e w'' => e = .returned (.tuple #[.agg #[.int .i64 p, .int .i64 q], .bool ok]) ∧ Below w'.heap.size w' w'')
    (h2 : ∀ w' : World, Below w.heap.size w w' → Calls Try.prog 23 #[.slice ad len cap] w' fun e w'' => e = .returned (.tuple #[.agg #[.int .i64 p, .int .i64 q], .bool ok]) ∧ Below w'.heap.size w' w'') :
    Calls Try.prog 9 #[.slice ad len cap] w fun e w' => e = .returned (.bool true) ∧ Below w.heap.size w w' := by
  have H1 := Lib.hid h1
  have H2 := Lib.hid h2
  have h3 : ¬ (12 : Int) < (len : Int) := by omega
  clear h1 h2
  go_enter Try.func9, Try.ntmps9
  go_wp2_with fail
  refine (H1.out _ (Below.refl _ _)).mono ?_
  rintro e w1 ⟨rfl, hb1⟩
  have bw1 := hb1.alloc hb1.size (.cells #[.int .i64 p, .int .i64 q] 23)
  have A := Blk2.new w1 (.int .i64 p) (.int .i64 q) 23
  go_wp2_with fail
  refine (H2.out _ bw1).mono ?_
  rintro e w2 ⟨rfl, hb2⟩
  have A2 := A.below hb2 (by simp)
  have bw2 := bw1.trans (hb2.mono bw1.size)
  clear hb1 hb2 bw1 A
  obtain ⟨a0, a1, _, _⟩ := A2.all
  have hs := A2.lt
  go_wp2_with fail
  refine (awake_any _).mono ?_
  rintro e w3 ⟨rfl, hb3⟩
  have bw3 := (bw2.alloc bw2.size _).trans (hb3.mono (by have := bw2.size; simp <;> omega))
  clear hb3 bw2
  go_wp2
  go_ret
  exact ⟨rfl, bw3⟩
end Go.Proofs.Yteicljlmdphkhaa
