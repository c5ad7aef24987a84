/- Products and Scale: the program's and the reference's. -/
import Derived.Test.YteicljlmdphkhaaH
import Derived.Test.YteicljlmdphkhaaP
namespace Go.Proofs.Yteicljlmdphkhaa
open Go.RowKit
set_option linter.unusedVariables false
theorem div64_any (h l y : Nat) (hy : h < y) (hyU : y < U) (hl : l < U) (w : World) :
    Calls Try.prog 37 #[.int .u64 h, .int .u64 l, .int .u64 y] w fun e w' => e = .returned (.tuple #[.int .u64 (((h * U + l) / y : Nat) : Int), .int .u64 (((h * U + l) % y : Nat) : Int)]) ∧ Below w.heap.size w w' := by
  rcases Nat.eq_zero_or_pos h with h0 | h0
  · subst h0
    rw [Nat.zero_mul, Nat.zero_add]
    exact div64_small l y hy hyU hl w
  · exact div64_big h l y h0 hy hyU hl w
theorem hi_lt_iff (n d : Nat) : hi n < (d : Int) ↔ n / U < d := by unfold hi; omega
theorem pair_eq (n : Nat) : n / U * U + n % U = n := by rw [Nat.mul_comm]; exact Nat.div_add_mod n U
theorem divide_ok (n d : Nat) (a b : Int) (ha : a = hi n) (hb : b = lo n) (hd : 0 < d) (hdU : d < U) (h : n / d < M63) (w : World) :
    Calls Try.prog 29 #[.agg #[.int .u64 a, .int .u64 b], .int .u64 d] w fun e w' => e = .returned (.tuple #[.int .i64 ((n / d : Nat) : Int), .bool true]) ∧ Below w.heap.size w w' := by
  subst ha hb
  have hlt : n / U < d := by
    rw [Nat.div_lt_iff_lt_mul (by decide)]
    have h1 := Nat.div_add_mod n d
    have h2 := Nat.mod_lt n hd
    have h3 : d * (n / d) ≤ d * (M63 - 1) := Nat.mul_le_mul_left _ (by omega)
    have h4 : d * U = d * (M63 - 1) + d * (U - (M63 - 1)) := by rw [← Nat.mul_add]; rfl
    have h5 : d * 1 ≤ d * (U - (M63 - 1)) := Nat.mul_le_mul_left _ (by decide)
    omega
  have h1 : ¬ ((d : Int) ≤ hi n) := by have := (hi_lt_iff n d).mpr hlt; omega
  obtain ⟨q, hq⟩ : ∃ q, n / d = q := ⟨_, rfl⟩
  rw [hq] at h ⊢
  have H1 := Lib.hid hlt
  have H2 := Lib.hid hdU
  have H4 := Lib.hid hq
  have e := pair_eq n
  have H5 := Lib.hid e
  have t1 : decide ((9223372036854775807 : Int) < (q : Int)) = false := by unfold M63 at h; simp; omega
  have t2 : IntKind.i64.wrap (q : Int) = q := by rw [IntKind.wrap_i64]; unfold M63 at h; omega
  clear hlt hdU hq e h
  go_enter Try.func29, Try.ntmps29
  go_wp2_with fail
  refine (div64_any (n / U) (n % U) d H1.out H2.out (Nat.mod_lt _ (by decide)) _).mono ?_
  rw [H5.out, H4.out]
  rintro e w1 ⟨rfl, hb⟩
  have bw : Below w.heap.size w w1 := Below.trans ((Below.refl _ _).alloc (by simp) _) (hb.mono (by simp <;> omega))
  clear hb
  go_wp2
  go_ret2
  exact ⟨rfl, bw⟩
theorem divide_no (n d : Nat) (a b : Int) (ha : a = hi n) (hb : b = lo n) (hd : 0 < d) (hdU : d < U) (h : M63 ≤ n / d) (w : World) :
    Calls Try.prog 29 #[.agg #[.int .u64 a, .int .u64 b], .int .u64 d] w fun e w' => e = .returned (.tuple #[.int .i64 0, .bool false]) ∧ Below w.heap.size w w' := by
  subst ha hb
  by_cases hlt : n / U < d
  · have h1 : ¬ ((d : Int) ≤ hi n) := by have := (hi_lt_iff n d).mpr hlt; omega
    obtain ⟨q, hq⟩ : ∃ q, n / d = q := ⟨_, rfl⟩
    rw [hq] at h
    have H1 := Lib.hid hlt
    have H2 := Lib.hid hdU
    have H4 := Lib.hid hq
    have e := pair_eq n
    have H5 := Lib.hid e
    have t1 : decide ((9223372036854775807 : Int) < (q : Int)) = true := by unfold M63 at h; simp; omega
    clear hlt hdU hq e h
    go_enter Try.func29, Try.ntmps29
    go_wp2_with fail
    refine (div64_any (n / U) (n % U) d H1.out H2.out (Nat.mod_lt _ (by decide)) _).mono ?_
    rw [H5.out, H4.out]
    rintro e w1 ⟨rfl, hb⟩
    have bw : Below w.heap.size w w1 := Below.trans ((Below.refl _ _).alloc (by simp) _) (hb.mono (by simp <;> omega))
    clear hb
    go_wp2
    go_ret2
    exact ⟨rfl, bw⟩
  · have h1 : (d : Int) ≤ hi n := by have := (hi_lt_iff n d); omega
    go_enter Try.func29, Try.ntmps29
    go_wp2
    go_ret2
    exact ⟨rfl, (Below.refl _ _).alloc (by simp) _⟩
theorem scale_bad (x y d : Int) (h : x < 0 ∨ y < 0 ∨ d < 1) (w : World) :
    Calls Try.prog 18 #[.int .i64 x, .int .i64 y, .int .i64 d] w fun e w' => e = .returned (.tuple #[.int .i64 0, .bool false]) ∧ Below w.heap.size w w' := by
  by_cases h1 : x < 0
  · clear h
    go_enter Try.func18, Try.ntmps18
    go_wp2
    go_ret2
    exact ⟨rfl, Below.refl _ _⟩
  · by_cases h2 : y < 0
    · clear h
      go_enter Try.func18, Try.ntmps18
      go_wp2
      go_ret2
      exact ⟨rfl, Below.refl _ _⟩
    · have h3 : d < 1 := by omega
      clear h
      go_enter Try.func18, Try.ntmps18
      go_wp2
      go_ret2
      exact ⟨rfl, Below.refl _ _⟩
theorem rscale_bad (x y d : Int) (h : x < 0 ∨ y < 0 ∨ d < 1) (w : World) :
    Calls Try.prog 19 #[.int .i64 x, .int .i64 y, .int .i64 d] w fun e w' => e = .returned (.tuple #[.int .i64 0, .bool false]) ∧ Below w.heap.size w w' := by
  by_cases h1 : x < 0
  · clear h
    go_enter Try.func19, Try.ntmps19
    go_wp2
    go_ret2
    exact ⟨rfl, Below.refl _ _⟩
  · by_cases h2 : y < 0
    · clear h
      go_enter Try.func19, Try.ntmps19
      go_wp2
      go_ret2
      exact ⟨rfl, Below.refl _ _⟩
    · have h3 : d < 1 := by omega
      clear h
      go_enter Try.func19, Try.ntmps19
      go_wp2
      go_ret2
      exact ⟨rfl, Below.refl _ _⟩
theorem scale_ok (x y d : Nat) (hx : x < U) (hy : y < U) (hd : 0 < d) (hdU : d < U) (h : x * y / d < M63) (w : World) :
    Calls Try.prog 18 #[.int .i64 x, .int .i64 y, .int .i64 d] w fun e w' => e = .returned (.tuple #[.int .i64 ((x * y / d : Nat) : Int), .bool true]) ∧ Below w.heap.size w w' := by
  have cx := wrap_cast x hx
  have cy := wrap_cast y hy
  have cd := wrap_cast d hdU
  have Hx := Lib.hid hx
  have Hy := Lib.hid hy
  have Hd := Lib.hid hdU
  have H := Lib.hid h
  obtain ⟨q, hq⟩ : ∃ q, x * y / d = q := ⟨_, rfl⟩
  have Hq := Lib.hid hq
  rw [hq]
  clear hx hy hdU h hq
  go_enter Try.func18, Try.ntmps18
  go_wp2_with fail
  refine (mul_any x y Hx.out Hy.out _).mono ?_
  rintro e w1 ⟨rfl, hb1⟩
  go_wp2_with fail
  refine (divide_ok (x * y) d _ _ rfl rfl hd Hd.out H.out _).mono ?_
  rw [Hq.out]
  rintro e w2 ⟨rfl, hb2⟩
  have bw := hb1.trans (hb2.mono hb1.size)
  clear hb1 hb2
  go_wp2
  go_ret2
  exact ⟨rfl, bw⟩
theorem scale_no (x y d : Nat) (hx : x < U) (hy : y < U) (hd : 0 < d) (hdU : d < U) (h : M63 ≤ x * y / d) (w : World) :
    Calls Try.prog 18 #[.int .i64 x, .int .i64 y, .int .i64 d] w fun e w' => e = .returned (.tuple #[.int .i64 0, .bool false]) ∧ Below w.heap.size w w' := by
  have cx := wrap_cast x hx
  have cy := wrap_cast y hy
  have cd := wrap_cast d hdU
  have Hx := Lib.hid hx
  have Hy := Lib.hid hy
  have Hd := Lib.hid hdU
  have H := Lib.hid h
  
  
  
  clear hx hy hdU h
  go_enter Try.func18, Try.ntmps18
  go_wp2_with fail
  refine (mul_any x y Hx.out Hy.out _).mono ?_
  rintro e w1 ⟨rfl, hb1⟩
  go_wp2_with fail
  refine (divide_no (x * y) d _ _ rfl rfl hd Hd.out H.out _).mono ?_
  
  rintro e w2 ⟨rfl, hb2⟩
  have bw := hb1.trans (hb2.mono hb1.size)
  clear hb1 hb2
  go_wp2
  go_ret2
  exact ⟨rfl, bw⟩
theorem rscale_ok (x y d : Nat) (hx : x < U) (hy : y < U) (hd : 0 < d) (hdU : d < U) (h : x * y / d < M63) (w : World) :
    Calls Try.prog 19 #[.int .i64 x, .int .i64 y, .int .i64 d] w fun e w' => e = .returned (.tuple #[.int .i64 ((x * y / d : Nat) : Int), .bool true]) ∧ Below w.heap.size w w' := by
  have cx := wrap_cast x hx
  have cy := wrap_cast y hy
  have cd := wrap_cast d hdU
  have Hx := Lib.hid hx
  have Hy := Lib.hid hy
  have Hd := Lib.hid hdU
  have H := Lib.hid h
  obtain ⟨q, hq⟩ : ∃ q, x * y / d = q := ⟨_, rfl⟩
  have Hq := Lib.hid hq
  rw [hq]
  clear hx hy hdU h hq
  go_enter Try.func19, Try.ntmps19
  go_wp2_with fail
  refine (times_any x y Hx.out Hy.out _).mono ?_
  rintro e w1 ⟨rfl, hb1⟩
  go_wp2_with fail
  refine (rdivide_any (x * y) d _ _ _ _ (UU x y Hx.out Hy.out) hd (by have := Hd.out; unfold U at *; omega) rfl rfl (hi_small Hd.out).symm (lo_small Hd.out).symm _).mono ?_
  rw [Hq.out]
  rintro e w2 ⟨rfl, hb2⟩
  have bw := hb1.trans (hb2.mono hb1.size)
  clear hb1 hb2
  have hq : q < M63 := by rw [← Hq.out]; exact H.out
  have hqU : q < U := by unfold M63 at hq; unfold U; omega
  have e1 := hi_small hqU
  have e2 := lo_small hqU
  have t1 : decide ((9223372036854775807 : Int) < (q : Int)) = false := by unfold M63 at hq; simp; omega
  have t2 : IntKind.i64.wrap (q : Int) = q := by rw [IntKind.wrap_i64]; unfold M63 at hq; omega
  clear hq hqU
  go_wp2
  go_ret2
  exact ⟨rfl, (bw.alloc bw.size _).alloc (by simp; have := bw.size; omega) _⟩
theorem rscale_no (x y d : Nat) (hx : x < U) (hy : y < U) (hd : 0 < d) (hdU : d < U) (h : M63 ≤ x * y / d) (w : World) :
    Calls Try.prog 19 #[.int .i64 x, .int .i64 y, .int .i64 d] w fun e w' => e = .returned (.tuple #[.int .i64 0, .bool false]) ∧ Below w.heap.size w w' := by
  have cx := wrap_cast x hx
  have cy := wrap_cast y hy
  have cd := wrap_cast d hdU
  have Hx := Lib.hid hx
  have Hy := Lib.hid hy
  have Hd := Lib.hid hdU
  have H := Lib.hid h
  obtain ⟨q, hq⟩ : ∃ q, x * y / d = q := ⟨_, rfl⟩
  have Hq := Lib.hid hq
  skip
  clear hx hy hdU h hq
  go_enter Try.func19, Try.ntmps19
  go_wp2_with fail
  refine (times_any x y Hx.out Hy.out _).mono ?_
  rintro e w1 ⟨rfl, hb1⟩
  go_wp2_with fail
  refine (rdivide_any (x * y) d _ _ _ _ (UU x y Hx.out Hy.out) hd (by have := Hd.out; unfold U at *; omega) rfl rfl (hi_small Hd.out).symm (lo_small Hd.out).symm _).mono ?_
  rw [Hq.out]
  rintro e w2 ⟨rfl, hb2⟩
  have bw := hb1.trans (hb2.mono hb1.size)
  clear hb1 hb2
  have hq : M63 ≤ q := by rw [← Hq.out]; exact H.out
  by_cases hqU : q < U
  · have e1 := hi_small hqU
    have e2 := lo_small hqU
    have t1 : decide ((9223372036854775807 : Int) < (q : Int)) = true := by unfold M63 at hq; simp; omega
    clear hq hqU
    go_wp2
    go_ret2
    exact ⟨rfl, (bw.alloc bw.size _).alloc (by simp; have := bw.size; omega) _⟩
  · have e1 : decide ((0 : Int) < hi q) = true := by
      have h0 : 0 < q / U := Nat.div_pos (by omega) (by decide)
      unfold hi; simp; omega
    clear hq hqU
    go_wp2
    go_ret2
    exact ⟨rfl, (bw.alloc bw.size _).alloc (by simp; have := bw.size; omega) _⟩
theorem product_any (a b : Int) (x y : Nat) (ha : max a 0 = (x : Int)) (hb : max b 0 = (y : Int)) (hx : x < U) (hy : y < U) (w : World) :
    Calls Try.prog 16 #[.int .i64 a, .int .i64 b] w fun e w' => e = .returned (.tuple #[.int .u64 (hi (x * y)), .int .u64 (lo (x * y))]) ∧ Below w.heap.size w w' := by
  have cx := wrap_cast x hx
  have cy := wrap_cast y hy
  have Hx := Lib.hid hx
  have Hy := Lib.hid hy
  clear hx hy
  go_enter Try.func16, Try.ntmps16
  go_wp2_with fail
  refine (mul_any x y Hx.out Hy.out _).mono ?_
  rintro e w1 ⟨rfl, hb1⟩
  have hs := hb1.size
  go_wp2
  go_quiet (fail)
  go_wp2
  go_ret2
  exact ⟨rfl, below_drewN (hb1.alloc (by omega) _) _⟩
end Go.Proofs.Yteicljlmdphkhaa
