/- The laws' walks: RatioTimes. -/
import Derived.Test.YteicljlmdphkhaaLc
namespace Go.Proofs.Yteicljlmdphkhaa
open Go.RowKit
set_option linter.unusedVariables false
theorem ownN_nat (x y : Nat) (h : 1 ≤ y) : ownN (x : Int) (y : Int) = x := by unfold ownN; rw [if_pos (by omega)]; omega
theorem ownD_nat (x y : Nat) (h : 1 ≤ y) : ownD (x : Int) (y : Int) = y := by unfold ownD; rw [if_pos (by omega)]; omega
theorem cmpF_lt {p q r s : Nat} (h : p * s < r * q) : cmpF p q r s = -1 := cmp_lt h
theorem cmpF_eq {p q r s : Nat} (h : p * s = r * q) : cmpF p q r s = 0 := cmp_eq (by omega) (by omega)
theorem cmpF_gt {p q r s : Nat} (h : r * q < p * s) : cmpF p q r s = 1 := cmp_gt h
/-- Four boxes that are read alone. -/
structure QS (W : World) (B k : Nat) (a b c d e f g z : Int) (w : World) : Prop where
  b0 : Blk2 w B (.int .i64 a) (.int .i64 b) 23
  b1 : Blk2 w k (.int .i64 c) (.int .i64 d) 23
  b2 : Blk2 w (k + 1) (.int .i64 e) (.int .i64 f) 23
  b3 : Blk2 w (k + 1 + 1) (.int .i64 g) (.int .i64 z) 23
  lk : B < k
  bw : Below B W w
theorem QS.lt {W w : World} {B k : Nat} {a b c d e f g z : Int} (h : QS W B k a b c d e f g z w) : k + 1 + 1 < w.heap.size := h.b3.lt
theorem QS.below {W w w' : World} {B k : Nat} {a b c d e f g z : Int} (h : QS W B k a b c d e f g z w) (hb : Below w.heap.size w w') : QS W B k a b c d e f g z w' :=
  have := h.lt
  have := h.lk
  ⟨h.b0.below hb (by omega), h.b1.below hb (by omega), h.b2.below hb (by omega), h.b3.below hb (by omega), h.lk, h.bw.trans (hb.mono (by omega))⟩
theorem QS.drew {W w : World} {B k : Nat} {a b c d e f g z : Int} (h : QS W B k a b c d e f g z w) : QS W B k a b c d e f g z w.drew := ⟨h.b0, h.b1, h.b2, h.b3, h.lk, h.bw.drew⟩
theorem QS.out {W w : World} {B k : Nat} {a b c d e f g z : Int} (h : QS W B k a b c d e f g z w) : (w.cell? ⟨B, 0, none⟩ = some (.int .i64 a) ∧ w.cell? ⟨B, 1, none⟩ = some (.int .i64 b) ∧ w.cell? ⟨k, 0, none⟩ = some (.int .i64 c) ∧ w.cell? ⟨k, 1, none⟩ = some (.int .i64 d) ∧ w.cell? ⟨k + 1, 0, none⟩ = some (.int .i64 e) ∧ w.cell? ⟨k + 1, 1, none⟩ = some (.int .i64 f) ∧ w.cell? ⟨k + 1 + 1, 0, none⟩ = some (.int .i64 g) ∧ w.cell? ⟨k + 1 + 1, 1, none⟩ = some (.int .i64 z)) ∧ QS W B k a b c d e f g z w :=
  ⟨⟨h.b0.c0, h.b0.c1, h.b1.c0, h.b1.c1, h.b2.c0, h.b2.c1, h.b3.c0, h.b3.c1⟩, h⟩
theorem QS.start {W w : World} {B : Nat} {a b : Int} (h0 : Blk2 w B (.int .i64 a) (.int .i64 b) 23) (bw : Below B W w) (c d e f g z : Int) : QS W B w.heap.size a b c d e f g z (((w.alloc (.cells #[.int .i64 c, .int .i64 d] 23)).alloc (.cells #[.int .i64 e, .int .i64 f] 23)).alloc (.cells #[.int .i64 g, .int .i64 z] 23)) := by
  have hl := h0.lt
  refine ⟨((h0.alloc _).alloc _).alloc _, ((Blk2.new w _ _ _).alloc _).alloc _, ?_, ?_, hl, ((bw.alloc (by omega) _).alloc (by simp <;> omega) _).alloc (by simp <;> omega) _⟩
  · have h := Blk2.new (w.alloc (.cells #[.int .i64 c, .int .i64 d] 23)) (.int .i64 e) (.int .i64 f) 23
    simp at h
    exact h.alloc _
  · have h := Blk2.new ((w.alloc (.cells #[.int .i64 c, .int .i64 d] 23)).alloc (.cells #[.int .i64 e, .int .i64 f] 23)) (.int .i64 g) (.int .i64 z) 23
    simpa using h
set_option maxRecDepth 100000 in
set_option maxHeartbeats 4000000 in
theorem law_times_main (x y n : Nat) (hx : x ≤ 1073741824) (hy : y ≤ 1073741824) (hy1 : 1 ≤ y) (hn : n ≤ 1073741824) (hn1 : 1 ≤ n) (w : World) :
    Calls Try.prog 5 #[.agg #[.int .i64 x, .int .i64 y], .int .i64 n] w fun e w' => e = .returned (.bool true) ∧ Below w.heap.size w w' := by
  obtain ⟨P, hP⟩ : ∃ P, x * n = P := ⟨_, rfl⟩
  obtain ⟨Q, hQ⟩ : ∃ P, y * n = P := ⟨_, rfl⟩
  have lP : P ≤ 1073741824 * 1073741824 := by rw [← hP]; exact Nat.mul_le_mul hx hn
  have lQ : Q ≤ 1073741824 * 1073741824 := by rw [← hQ]; exact Nat.mul_le_mul hy hn
  have lQ1 : 1 ≤ Q := by rw [← hQ]; exact Nat.mul_pos hy1 hn1
  have m1 : IntKind.i64.wrap ((x : Int) * ↑n) = (P : Int) := by rw [← Int.natCast_mul, hP, IntKind.wrap_i64]; omega
  have m2 : IntKind.i64.wrap ((y : Int) * ↑n) = (Q : Int) := by rw [← Int.natCast_mul, hQ, IntKind.wrap_i64]; omega
  have m3 : IntKind.i64.wrap ((P : Int) + 1) = ((P + 1 : Nat) : Int) := by rw [IntKind.wrap_i64]; omega
  have m4 : IntKind.i64.wrap ((Q : Int) + 1) = ((Q + 1 : Nat) : Int) := by rw [IntKind.wrap_i64]; omega
  have k1 := okf_t (n := (x : Int)) (d := (y : Int)) (by omega) (by omega)
  have e0 : x * Q = P * y := by rw [← hP, ← hQ, Nat.mul_right_comm, Nat.mul_assoc]
  have C1 := Lib.hid (cmpF_eq (p := x) (q := y) (r := P) (s := Q) e0)
  have C2 := Lib.hid (cmpF_gt (p := P + 1) (q := Q) (r := x) (s := y) (by rw [e0, Nat.add_mul]; omega))
  obtain ⟨P1, hP1⟩ : ∃ z, P + 1 = z := ⟨_, rfl⟩
  obtain ⟨Q1, hQ1⟩ : ∃ z, Q + 1 = z := ⟨_, rfl⟩
  have C3 : ∃ T : Int, cmpF P Q1 x y = T ∧ (x = 0 ∧ T = 0 ∨ x ≠ 0 ∧ T = -1) := by
    rcases Nat.eq_zero_or_pos x with h0 | h0
    · refine ⟨0, cmpF_eq ?_, Or.inl ⟨h0, rfl⟩⟩
      subst h0; rw [Nat.zero_mul] at hP; subst hP; simp
    · refine ⟨-1, cmpF_lt ?_, Or.inr ⟨by omega, rfl⟩⟩
      rw [← hQ1, Nat.mul_add, e0]; omega
  obtain ⟨T, hT, hTx⟩ := C3
  rw [hP1] at m3 C2
  rw [hQ1] at m4
  have HT := Lib.hid hT
  have NX := Lib.hid (ownN_nat x y hy1)
  have DX := Lib.hid (ownD_nat x y hy1)
  have NB := Lib.hid (ownN_nat P Q lQ1)
  have DB := Lib.hid (ownD_nat P Q lQ1)
  have NM := Lib.hid (ownN_nat P1 Q lQ1)
  have DM := Lib.hid (ownD_nat P1 Q lQ1)
  have NL := Lib.hid (ownN_nat P Q1 (by omega))
  have DL := Lib.hid (ownD_nat P Q1 (by omega))
  have UX := Lib.hid (show x < U by unfold U; omega)
  have UY := Lib.hid (show y < U by unfold U; omega)
  have UP := Lib.hid (show P < U by unfold U; omega)
  have UQ := Lib.hid (show Q < U by unfold U; omega)
  have UP1 := Lib.hid (show P1 < U by unfold U; omega)
  have UQ1 := Lib.hid (show Q1 < U by unfold U; omega)
  have t1 : decide ((1073741824 : Int) < (x : Int)) = false := by simp; omega
  have t2 : decide ((1073741824 : Int) < (y : Int)) = false := by simp; omega
  have t3 : decide ((1073741824 : Int) < (n : Int)) = false := by simp; omega
  have t4 : ¬ (n : Int) < 1 := by omega
  have t5 : (x = 0 ∧ T = 0 ∨ x ≠ 0 ∧ T = -1) := hTx
  have TT := Lib.hid t5
  clear hP hQ lP lQ lQ1 hP1 hQ1 hT hTx t5 e0 hx hy hn hy1 hn1
  go_enter Try.func5, Try.ntmps5
  go_wp2_with fail
  refine (may_any x y _).mono ?_
  rw [k1]
  rintro e w1 ⟨rfl, hb1⟩
  have A := (Blk2.new w _ _ _).below hb1 (by simp)
  have bw1 := ((Below.refl w.heap.size w).alloc (by simp) _).trans (hb1.mono (by simp <;> omega))
  clear hb1
  obtain ⟨a0, a1, _, _⟩ := A.all
  have hs := A.lt
  go_upto_region 6 with fail
  have M := QS.start A bw1 P Q P1 Q P Q1
  generalize World.alloc (World.alloc (World.alloc w1 _) _) _ = wz at M ⊢
  have H0 := M.out
  clear a0 a1 hs A bw1
  go_cut [4] (fun s4 wx => s4 = .bool true ∧ Below w.heap.size w wx)
  case first =>
    have TV : ((x : Int) == 0) = true ∧ T = 0 ∨ ((x : Int) == 0) = false ∧ T = -1 := by
      rcases TT.out with ⟨h, h'⟩ | ⟨h, h'⟩
      · exact Or.inl ⟨by simp [h], h'⟩
      · exact Or.inr ⟨by simp; omega, h'⟩
    rcases TV with ⟨tx, rfl⟩ | ⟨tx, rfl⟩
    all_goals
      go_region_held3 (fun wx => (wx.cell? ⟨w.heap.size, 0, none⟩ = some (.int .i64 x) ∧ wx.cell? ⟨w.heap.size, 1, none⟩ = some (.int .i64 y) ∧ wx.cell? ⟨w1.heap.size, 0, none⟩ = some (.int .i64 P) ∧ wx.cell? ⟨w1.heap.size, 1, none⟩ = some (.int .i64 Q) ∧ wx.cell? ⟨w1.heap.size + 1, 0, none⟩ = some (.int .i64 P1) ∧ wx.cell? ⟨w1.heap.size + 1, 1, none⟩ = some (.int .i64 Q) ∧ wx.cell? ⟨w1.heap.size + 1 + 1, 0, none⟩ = some (.int .i64 P) ∧ wx.cell? ⟨w1.heap.size + 1 + 1, 1, none⟩ = some (.int .i64 Q1)) ∧ QS w w.heap.size w1.heap.size x y P Q P1 Q P Q1 wx)
        ((refine QS.out ?_; repeat (first | exact M | refine QS.drew ?_ | refine QS.below ?_ (by assumption))))
        (first | (go_at_call 11; with_reducible refine (compare_any x y P Q x y P Q NX.out DX.out NB.out DB.out UX.out UY.out UP.out UQ.out _).mono ?_; rw [C1.out]; rintro e w2 ⟨rfl, hb2⟩) | (go_at_call 11; with_reducible refine (compare_any P1 Q x y P1 Q x y NM.out DM.out NX.out DX.out UP1.out UQ.out UX.out UY.out _).mono ?_; rw [C2.out]; rintro e w2 ⟨rfl, hb2⟩) | (go_at_call 11; with_reducible refine (compare_any P Q1 x y P Q1 x y NL.out DL.out NX.out DX.out UP.out UQ1.out UX.out UY.out _).mono ?_; rw [HT.out]; rintro e w2 ⟨rfl, hb2⟩) | (go_at_call 15; refine (awake_any _).mono ?_; rintro e w2 ⟨rfl, hb2⟩))
      all_goals (go_wp2_with fail)
      all_goals (go_meet; exact ⟨rfl, (‹_ ∧ QS _ _ _ _ _ _ _ _ _ _ _ _›).2.bw⟩)
  case rest =>
    obtain ⟨rfl, bw⟩ := hcut
    go_wp2
    go_ret
    exact ⟨rfl, bw⟩
/-- Where the law asks nothing. -/
theorem law_times_none (a b n : Int) (h : okf a b = false ∨ n < 1 ∨ 1073741824 < a ∨ 1073741824 < b ∨ 1073741824 < n) (w : World) :
    Calls Try.prog 5 #[.agg #[.int .i64 a, .int .i64 b], .int .i64 n] w fun e w' => e = .returned (.bool true) ∧ Below w.heap.size w w' := by
  have ways : okf a b = false ∨ okf a b = true ∧ (decide (n < 1) = true ∨ decide (n < 1) = false ∧ (decide (1073741824 < a) = true ∨ decide (1073741824 < a) = false ∧ (decide (1073741824 < b) = true ∨ decide (1073741824 < b) = false ∧ decide (1073741824 < n) = true))) := by
    cases hk : okf a b
    · exact Or.inl rfl
    · right
      refine ⟨rfl, ?_⟩
      simp only [decide_eq_true_eq, decide_eq_false_iff_not]
      rcases h with h | h
      · rw [hk] at h; exact absurd h (by decide)
      · omega
  clear h
  rcases ways with k | ⟨k, t1 | ⟨t1, t2 | ⟨t2, t3 | ⟨t3, t4⟩⟩⟩⟩
  all_goals
    go_enter Try.func5, Try.ntmps5
    go_wp2_with fail
    refine (may_any a b _).mono ?_
    rw [k]
    rintro e w1 ⟨rfl, hb1⟩
    have A := (Blk2.new w _ _ _).below hb1 (by simp)
    have bw1 := ((Below.refl w.heap.size w).alloc (by simp) _).trans (hb1.mono (by simp <;> omega))
    clear hb1
    obtain ⟨a0, a1, _, _⟩ := A.all
    have hs := A.lt
    go_wp2_with fail
    refine (awake_any _).mono ?_
    rintro e w2 ⟨rfl, hb2⟩
    have bw2 := bw1.trans (hb2.mono bw1.size)
    clear hb2 bw1
    go_wp2
    go_ret
    exact ⟨rfl, bw2⟩
theorem law_times (a b n : Int) (w : World) :
    Calls Try.prog 5 #[.agg #[.int .i64 a, .int .i64 b], .int .i64 n] w fun e w' => e = .returned (.bool true) ∧ Below w.heap.size w w' := by
  by_cases h : okf a b = false ∨ n < 1 ∨ 1073741824 < a ∨ 1073741824 < b ∨ 1073741824 < n
  · exact law_times_none a b n h w
  · have h1 : okf a b = true := by cases hk : okf a b; exact absurd (Or.inl hk) h; rfl
    unfold okf at h1; simp at h1
    have h2 : ¬ (n < 1 ∨ 1073741824 < a ∨ 1073741824 < b ∨ 1073741824 < n) := fun k => h (Or.inr k)
    obtain ⟨x, rfl⟩ : ∃ x : Nat, a = x := ⟨a.toNat, by omega⟩
    obtain ⟨y, rfl⟩ : ∃ x : Nat, b = x := ⟨b.toNat, by omega⟩
    obtain ⟨m, rfl⟩ : ∃ x : Nat, n = x := ⟨n.toNat, by omega⟩
    exact law_times_main x y m (by omega) (by omega) (by omega) (by omega) (by omega) w
end Go.Proofs.Yteicljlmdphkhaa
