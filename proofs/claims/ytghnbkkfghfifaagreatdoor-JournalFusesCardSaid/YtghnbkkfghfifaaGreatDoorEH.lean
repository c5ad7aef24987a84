/- What may be: the reference's. -/
import Derived.Test.YtghnbkkfghfifaaGreatDoorEG
import Derived.BigGuardPart
namespace Go.Proofs.YtghnbkkfghfifaaGreatDoor.E
open Go.RowKit
set_option linter.unusedVariables false
theorem in_at {n lo hi : Int} {r : Bool} (h : (decide (lo ≤ n) && decide (n ≤ hi)) = r) (w : World) :
    Calls Tryz.prog 63 #[.int .i64 n, .int .i64 lo, .int .i64 hi] w fun e w' => e = .returned (.bool r) ∧ w = w' := by subst h; exact in_any n lo hi w
theorem in_t {n lo hi : Int} (h1 : lo ≤ n) (h2 : n ≤ hi) : (decide (lo ≤ n) && decide (n ≤ hi)) = true := by simp [h1, h2]
theorem in_f1 {n lo hi : Int} (h1 : ¬ lo ≤ n) : (decide (lo ≤ n) && decide (n ≤ hi)) = false := by simp [h1]
theorem in_f2 {n lo hi : Int} (h1 : ¬ n ≤ hi) : (decide (lo ≤ n) && decide (n ≤ hi)) = false := by simp [h1]
theorem em (s : ByteArray) : (s.toList == []) = decide (s.size = 0) ∧ s.toList.isEmpty = decide (s.size = 0) := by
  rcases empty_of s with ⟨h1, h2, h3, h4, h5⟩ | ⟨h1, h3, h4, h5⟩
  · rw [h3, h4, h5]; exact ⟨rfl, rfl⟩
  · rw [h3, h4, h5]; exact ⟨rfl, rfl⟩
theorem v0 (v : Int) : (decide (0 ≤ v) && decide (v ≤ 0)) = (v == 0) := by rw [Bool.eq_iff_iff]; simp; omega
theorem restE (r : KRow) (e : Ev) : restB r e = (nonB r.per e.p && nonB r.item e.i && wordB r.tx e.t && (decide (r.lo ≤ e.v) && decide (e.v ≤ r.hi))) := by
  unfold restB
  cases nonB r.per e.p <;> cases nonB r.item e.i <;> cases decide (r.lo ≤ e.v) <;> cases decide (e.v ≤ r.hi) <;> cases wordB r.tx e.t <;> rfl
theorem rk0 (e : Ev) : restB (kR 0) e = (nameB e.p && nameB e.i && e.t.toList.isEmpty && (e.v == 0)) := by rw [restE, ← v0, (em e.t).2]; rfl
theorem rk1 (e : Ev) : restB (kR 1) e = (nameB e.p && nameB e.i && e.t.toList.isEmpty && (e.v == 0)) := by rw [restE, ← v0, (em e.t).2]; rfl
theorem rk2 (e : Ev) : restB (kR 2) e = (nameB e.p && nameB e.i && e.t.toList.isEmpty && (e.v == 0)) := by rw [restE, ← v0, (em e.t).2]; rfl
theorem rk3 (e : Ev) : restB (kR 3) e = (nameB e.p && nameB e.i && e.t.toList.isEmpty && (e.v == 0)) := by rw [restE, ← v0, (em e.t).2]; rfl
theorem rk4 (e : Ev) : restB (kR 4) e = (nameB e.p && nameB e.i && e.t.toList.isEmpty && (decide (1 ≤ e.v) && decide (e.v ≤ 5))) := by rw [restE, (em e.t).2]; rfl
theorem rk5 (e : Ev) : restB (kR 5) e = (nameB e.p && nameB e.i && e.t.toList.isEmpty && (e.v == 0)) := by rw [restE, ← v0, (em e.t).2]; rfl
theorem rk6 (e : Ev) : restB (kR 6) e = (nameB e.p && nameB e.i && e.t.toList.isEmpty && (e.v == 0)) := by rw [restE, ← v0, (em e.t).2]; rfl
theorem rk7 (e : Ev) : restB (kR 7) e = (nameB e.p && e.i.toList.isEmpty && nameB e.t && (e.v == 0)) := by rw [restE, ← v0, (em e.i).2]; rfl
theorem rk8 (e : Ev) : restB (kR 8) e = (nameB e.p && e.i.toList.isEmpty && nameB e.t && (e.v == 0)) := by rw [restE, ← v0, (em e.i).2]; rfl
theorem rk9 (e : Ev) : restB (kR 9) e = (nameB e.p && e.i.toList.isEmpty && nameB e.t && (e.v == 0)) := by rw [restE, ← v0, (em e.i).2]; rfl
theorem rk10 (e : Ev) : restB (kR 10) e = (nameB e.p && e.i.toList.isEmpty && nameB e.t && (e.v == 0)) := by rw [restE, ← v0, (em e.i).2]; rfl
theorem rk11 (e : Ev) : restB (kR 11) e = (e.p.toList.isEmpty && nameB e.i && labB e.t && (decide (0 ≤ e.v) && decide (e.v ≤ 1048576))) := by rw [restE, (em e.p).2]; rfl
theorem rk12 (e : Ev) : restB (kR 12) e = (e.p.toList.isEmpty && nameB e.i && e.t.toList.isEmpty && (decide (0 ≤ e.v) && decide (e.v ≤ 1048576))) := by rw [restE, (em e.p).2, (em e.t).2]; rfl
theorem rk13 (e : Ev) : restB (kR 13) e = (e.p.toList.isEmpty && nameB e.i && e.t.toList.isEmpty && (e.v == 0)) := by rw [restE, ← v0, (em e.p).2, (em e.t).2]; rfl
theorem rk14 (e : Ev) : restB (kR 14) e = (nameB e.p && e.i.toList.isEmpty && e.t.toList.isEmpty && (e.v == 0)) := by rw [restE, ← v0, (em e.i).2, (em e.t).2]; rfl
set_option maxRecDepth 100000 in
set_option maxHeartbeats 4000000 in
theorem rmay_0 (s : ByteArray) (n a : Int) (p i : ByteArray) (v : Int) (t : ByteArray) (ht : t.size ≤ 1000000000) (hn : nameB s = true) (h1 : 1 ≤ n) (h2 : n ≤ 1099511627776) (h3 : 0 ≤ a) (h4 : a ≤ 1099511627776) (w : World) :
    Calls Tryz.prog 29 #[.agg #[.string s, .int .i64 n, .int .i64 a, .int .i64 0, .string p, .string i, .int .i64 v, .string t]] w fun e w' => e = .returned (.bool (restB (kR 0) ⟨s, n, a, 0, p, i, v, t⟩)) ∧ Below w.heap.size w w' := by
  rw [rk0]
  have HN := Lib.hid hn
  have I1 := Lib.hid (in_t h1 h2)
  have I2 := Lib.hid (in_t h3 h4)
  clear hn
  go_enter Tryz.func29, Tryz.ntmps29
  go_wp2_with (first | (go_at_call 39; (with_reducible refine (rname_at HN.out _).mono ?_); rintro e w' ⟨rfl, rfl⟩) | (go_at_call 63; (with_reducible refine (in_at I1.out _).mono ?_); rintro e w' ⟨rfl, rfl⟩) | (go_at_call 63; (with_reducible refine (in_at I2.out _).mono ?_); rintro e w' ⟨rfl, rfl⟩))
  go_quiet (fail)
  clear HN I1 I2
  go_wp2_with (first | (go_at_call 39; refine (rname_any _ _).mono ?_; rintro e w' ⟨rfl, rfl⟩) | (go_at_call 63; refine (in_any _ _ _ _).mono ?_; rintro e w' ⟨rfl, rfl⟩))
  all_goals go_ret
  all_goals (refine ⟨ret_bool ?_, below_drewN ((Below.refl _ _).alloc (by simp) _) _⟩; simp_all)
set_option maxRecDepth 100000 in
set_option maxHeartbeats 4000000 in
theorem rmay_1 (s : ByteArray) (n a : Int) (p i : ByteArray) (v : Int) (t : ByteArray) (ht : t.size ≤ 1000000000) (hn : nameB s = true) (h1 : 1 ≤ n) (h2 : n ≤ 1099511627776) (h3 : 0 ≤ a) (h4 : a ≤ 1099511627776) (w : World) :
    Calls Tryz.prog 29 #[.agg #[.string s, .int .i64 n, .int .i64 a, .int .i64 1, .string p, .string i, .int .i64 v, .string t]] w fun e w' => e = .returned (.bool (restB (kR 1) ⟨s, n, a, 1, p, i, v, t⟩)) ∧ Below w.heap.size w w' := by
  rw [rk1]
  have HN := Lib.hid hn
  have I1 := Lib.hid (in_t h1 h2)
  have I2 := Lib.hid (in_t h3 h4)
  clear hn
  go_enter Tryz.func29, Tryz.ntmps29
  go_wp2_with (first | (go_at_call 39; (with_reducible refine (rname_at HN.out _).mono ?_); rintro e w' ⟨rfl, rfl⟩) | (go_at_call 63; (with_reducible refine (in_at I1.out _).mono ?_); rintro e w' ⟨rfl, rfl⟩) | (go_at_call 63; (with_reducible refine (in_at I2.out _).mono ?_); rintro e w' ⟨rfl, rfl⟩))
  go_quiet (fail)
  clear HN I1 I2
  go_wp2_with (first | (go_at_call 39; refine (rname_any _ _).mono ?_; rintro e w' ⟨rfl, rfl⟩) | (go_at_call 63; refine (in_any _ _ _ _).mono ?_; rintro e w' ⟨rfl, rfl⟩))
  all_goals go_ret
  all_goals (refine ⟨ret_bool ?_, below_drewN ((Below.refl _ _).alloc (by simp) _) _⟩; simp_all)
set_option maxRecDepth 100000 in
set_option maxHeartbeats 4000000 in
theorem rmay_2 (s : ByteArray) (n a : Int) (p i : ByteArray) (v : Int) (t : ByteArray) (ht : t.size ≤ 1000000000) (hn : nameB s = true) (h1 : 1 ≤ n) (h2 : n ≤ 1099511627776) (h3 : 0 ≤ a) (h4 : a ≤ 1099511627776) (w : World) :
    Calls Tryz.prog 29 #[.agg #[.string s, .int .i64 n, .int .i64 a, .int .i64 2, .string p, .string i, .int .i64 v, .string t]] w fun e w' => e = .returned (.bool (restB (kR 2) ⟨s, n, a, 2, p, i, v, t⟩)) ∧ Below w.heap.size w w' := by
  rw [rk2]
  have HN := Lib.hid hn
  have I1 := Lib.hid (in_t h1 h2)
  have I2 := Lib.hid (in_t h3 h4)
  clear hn
  go_enter Tryz.func29, Tryz.ntmps29
  go_wp2_with (first | (go_at_call 39; (with_reducible refine (rname_at HN.out _).mono ?_); rintro e w' ⟨rfl, rfl⟩) | (go_at_call 63; (with_reducible refine (in_at I1.out _).mono ?_); rintro e w' ⟨rfl, rfl⟩) | (go_at_call 63; (with_reducible refine (in_at I2.out _).mono ?_); rintro e w' ⟨rfl, rfl⟩))
  go_quiet (fail)
  clear HN I1 I2
  go_wp2_with (first | (go_at_call 39; refine (rname_any _ _).mono ?_; rintro e w' ⟨rfl, rfl⟩) | (go_at_call 63; refine (in_any _ _ _ _).mono ?_; rintro e w' ⟨rfl, rfl⟩))
  all_goals go_ret
  all_goals (refine ⟨ret_bool ?_, below_drewN ((Below.refl _ _).alloc (by simp) _) _⟩; simp_all)
set_option maxRecDepth 100000 in
set_option maxHeartbeats 4000000 in
theorem rmay_3 (s : ByteArray) (n a : Int) (p i : ByteArray) (v : Int) (t : ByteArray) (ht : t.size ≤ 1000000000) (hn : nameB s = true) (h1 : 1 ≤ n) (h2 : n ≤ 1099511627776) (h3 : 0 ≤ a) (h4 : a ≤ 1099511627776) (w : World) :
    Calls Tryz.prog 29 #[.agg #[.string s, .int .i64 n, .int .i64 a, .int .i64 3, .string p, .string i, .int .i64 v, .string t]] w fun e w' => e = .returned (.bool (restB (kR 3) ⟨s, n, a, 3, p, i, v, t⟩)) ∧ Below w.heap.size w w' := by
  rw [rk3]
  have HN := Lib.hid hn
  have I1 := Lib.hid (in_t h1 h2)
  have I2 := Lib.hid (in_t h3 h4)
  clear hn
  go_enter Tryz.func29, Tryz.ntmps29
  go_wp2_with (first | (go_at_call 39; (with_reducible refine (rname_at HN.out _).mono ?_); rintro e w' ⟨rfl, rfl⟩) | (go_at_call 63; (with_reducible refine (in_at I1.out _).mono ?_); rintro e w' ⟨rfl, rfl⟩) | (go_at_call 63; (with_reducible refine (in_at I2.out _).mono ?_); rintro e w' ⟨rfl, rfl⟩))
  go_quiet (fail)
  clear HN I1 I2
  go_wp2_with (first | (go_at_call 39; refine (rname_any _ _).mono ?_; rintro e w' ⟨rfl, rfl⟩) | (go_at_call 63; refine (in_any _ _ _ _).mono ?_; rintro e w' ⟨rfl, rfl⟩))
  all_goals go_ret
  all_goals (refine ⟨ret_bool ?_, below_drewN ((Below.refl _ _).alloc (by simp) _) _⟩; simp_all)
set_option maxRecDepth 100000 in
set_option maxHeartbeats 4000000 in
theorem rmay_4 (s : ByteArray) (n a : Int) (p i : ByteArray) (v : Int) (t : ByteArray) (ht : t.size ≤ 1000000000) (hn : nameB s = true) (h1 : 1 ≤ n) (h2 : n ≤ 1099511627776) (h3 : 0 ≤ a) (h4 : a ≤ 1099511627776) (w : World) :
    Calls Tryz.prog 29 #[.agg #[.string s, .int .i64 n, .int .i64 a, .int .i64 4, .string p, .string i, .int .i64 v, .string t]] w fun e w' => e = .returned (.bool (restB (kR 4) ⟨s, n, a, 4, p, i, v, t⟩)) ∧ Below w.heap.size w w' := by
  rw [rk4]
  have HN := Lib.hid hn
  have I1 := Lib.hid (in_t h1 h2)
  have I2 := Lib.hid (in_t h3 h4)
  clear hn
  go_enter Tryz.func29, Tryz.ntmps29
  go_wp2_with (first | (go_at_call 39; (with_reducible refine (rname_at HN.out _).mono ?_); rintro e w' ⟨rfl, rfl⟩) | (go_at_call 63; (with_reducible refine (in_at I1.out _).mono ?_); rintro e w' ⟨rfl, rfl⟩) | (go_at_call 63; (with_reducible refine (in_at I2.out _).mono ?_); rintro e w' ⟨rfl, rfl⟩))
  go_quiet (fail)
  clear HN I1 I2
  go_wp2_with (first | (go_at_call 39; refine (rname_any _ _).mono ?_; rintro e w' ⟨rfl, rfl⟩) | (go_at_call 63; refine (in_any _ _ _ _).mono ?_; rintro e w' ⟨rfl, rfl⟩))
  all_goals go_ret
  all_goals (refine ⟨ret_bool ?_, below_drewN ((Below.refl _ _).alloc (by simp) _) _⟩; simp_all)
set_option maxRecDepth 100000 in
set_option maxHeartbeats 4000000 in
theorem rmay_5 (s : ByteArray) (n a : Int) (p i : ByteArray) (v : Int) (t : ByteArray) (ht : t.size ≤ 1000000000) (hn : nameB s = true) (h1 : 1 ≤ n) (h2 : n ≤ 1099511627776) (h3 : 0 ≤ a) (h4 : a ≤ 1099511627776) (w : World) :
    Calls Tryz.prog 29 #[.agg #[.string s, .int .i64 n, .int .i64 a, .int .i64 5, .string p, .string i, .int .i64 v, .string t]] w fun e w' => e = .returned (.bool (restB (kR 5) ⟨s, n, a, 5, p, i, v, t⟩)) ∧ Below w.heap.size w w' := by
  rw [rk5]
  have HN := Lib.hid hn
  have I1 := Lib.hid (in_t h1 h2)
  have I2 := Lib.hid (in_t h3 h4)
  clear hn
  go_enter Tryz.func29, Tryz.ntmps29
  go_wp2_with (first | (go_at_call 39; (with_reducible refine (rname_at HN.out _).mono ?_); rintro e w' ⟨rfl, rfl⟩) | (go_at_call 63; (with_reducible refine (in_at I1.out _).mono ?_); rintro e w' ⟨rfl, rfl⟩) | (go_at_call 63; (with_reducible refine (in_at I2.out _).mono ?_); rintro e w' ⟨rfl, rfl⟩))
  go_quiet (fail)
  clear HN I1 I2
  go_wp2_with (first | (go_at_call 39; refine (rname_any _ _).mono ?_; rintro e w' ⟨rfl, rfl⟩) | (go_at_call 63; refine (in_any _ _ _ _).mono ?_; rintro e w' ⟨rfl, rfl⟩))
  all_goals go_ret
  all_goals (refine ⟨ret_bool ?_, below_drewN ((Below.refl _ _).alloc (by simp) _) _⟩; simp_all)
set_option maxRecDepth 100000 in
set_option maxHeartbeats 4000000 in
theorem rmay_6 (s : ByteArray) (n a : Int) (p i : ByteArray) (v : Int) (t : ByteArray) (ht : t.size ≤ 1000000000) (hn : nameB s = true) (h1 : 1 ≤ n) (h2 : n ≤ 1099511627776) (h3 : 0 ≤ a) (h4 : a ≤ 1099511627776) (w : World) :
    Calls Tryz.prog 29 #[.agg #[.string s, .int .i64 n, .int .i64 a, .int .i64 6, .string p, .string i, .int .i64 v, .string t]] w fun e w' => e = .returned (.bool (restB (kR 6) ⟨s, n, a, 6, p, i, v, t⟩)) ∧ Below w.heap.size w w' := by
  rw [rk6]
  have HN := Lib.hid hn
  have I1 := Lib.hid (in_t h1 h2)
  have I2 := Lib.hid (in_t h3 h4)
  clear hn
  go_enter Tryz.func29, Tryz.ntmps29
  go_wp2_with (first | (go_at_call 39; (with_reducible refine (rname_at HN.out _).mono ?_); rintro e w' ⟨rfl, rfl⟩) | (go_at_call 63; (with_reducible refine (in_at I1.out _).mono ?_); rintro e w' ⟨rfl, rfl⟩) | (go_at_call 63; (with_reducible refine (in_at I2.out _).mono ?_); rintro e w' ⟨rfl, rfl⟩))
  go_quiet (fail)
  clear HN I1 I2
  go_wp2_with (first | (go_at_call 39; refine (rname_any _ _).mono ?_; rintro e w' ⟨rfl, rfl⟩) | (go_at_call 63; refine (in_any _ _ _ _).mono ?_; rintro e w' ⟨rfl, rfl⟩))
  all_goals go_ret
  all_goals (refine ⟨ret_bool ?_, below_drewN ((Below.refl _ _).alloc (by simp) _) _⟩; simp_all)
set_option maxRecDepth 100000 in
set_option maxHeartbeats 4000000 in
theorem rmay_7 (s : ByteArray) (n a : Int) (p i : ByteArray) (v : Int) (t : ByteArray) (ht : t.size ≤ 1000000000) (hn : nameB s = true) (h1 : 1 ≤ n) (h2 : n ≤ 1099511627776) (h3 : 0 ≤ a) (h4 : a ≤ 1099511627776) (w : World) :
    Calls Tryz.prog 29 #[.agg #[.string s, .int .i64 n, .int .i64 a, .int .i64 7, .string p, .string i, .int .i64 v, .string t]] w fun e w' => e = .returned (.bool (restB (kR 7) ⟨s, n, a, 7, p, i, v, t⟩)) ∧ Below w.heap.size w w' := by
  rw [rk7]
  have HN := Lib.hid hn
  have I1 := Lib.hid (in_t h1 h2)
  have I2 := Lib.hid (in_t h3 h4)
  clear hn
  go_enter Tryz.func29, Tryz.ntmps29
  go_wp2_with (first | (go_at_call 39; (with_reducible refine (rname_at HN.out _).mono ?_); rintro e w' ⟨rfl, rfl⟩) | (go_at_call 63; (with_reducible refine (in_at I1.out _).mono ?_); rintro e w' ⟨rfl, rfl⟩) | (go_at_call 63; (with_reducible refine (in_at I2.out _).mono ?_); rintro e w' ⟨rfl, rfl⟩))
  go_quiet (fail)
  clear HN I1 I2
  go_wp2_with (first | (go_at_call 39; refine (rname_any _ _).mono ?_; rintro e w' ⟨rfl, rfl⟩) | (go_at_call 63; refine (in_any _ _ _ _).mono ?_; rintro e w' ⟨rfl, rfl⟩))
  all_goals go_ret
  all_goals (refine ⟨ret_bool ?_, below_drewN ((Below.refl _ _).alloc (by simp) _) _⟩; simp_all)
set_option maxRecDepth 100000 in
set_option maxHeartbeats 4000000 in
theorem rmay_8 (s : ByteArray) (n a : Int) (p i : ByteArray) (v : Int) (t : ByteArray) (ht : t.size ≤ 1000000000) (hn : nameB s = true) (h1 : 1 ≤ n) (h2 : n ≤ 1099511627776) (h3 : 0 ≤ a) (h4 : a ≤ 1099511627776) (w : World) :
    Calls Tryz.prog 29 #[.agg #[.string s, .int .i64 n, .int .i64 a, .int .i64 8, .string p, .string i, .int .i64 v, .string t]] w fun e w' => e = .returned (.bool (restB (kR 8) ⟨s, n, a, 8, p, i, v, t⟩)) ∧ Below w.heap.size w w' := by
  rw [rk8]
  have HN := Lib.hid hn
  have I1 := Lib.hid (in_t h1 h2)
  have I2 := Lib.hid (in_t h3 h4)
  clear hn
  go_enter Tryz.func29, Tryz.ntmps29
  go_wp2_with (first | (go_at_call 39; (with_reducible refine (rname_at HN.out _).mono ?_); rintro e w' ⟨rfl, rfl⟩) | (go_at_call 63; (with_reducible refine (in_at I1.out _).mono ?_); rintro e w' ⟨rfl, rfl⟩) | (go_at_call 63; (with_reducible refine (in_at I2.out _).mono ?_); rintro e w' ⟨rfl, rfl⟩))
  go_quiet (fail)
  clear HN I1 I2
  go_wp2_with (first | (go_at_call 39; refine (rname_any _ _).mono ?_; rintro e w' ⟨rfl, rfl⟩) | (go_at_call 63; refine (in_any _ _ _ _).mono ?_; rintro e w' ⟨rfl, rfl⟩))
  all_goals go_ret
  all_goals (refine ⟨ret_bool ?_, below_drewN ((Below.refl _ _).alloc (by simp) _) _⟩; simp_all)
set_option maxRecDepth 100000 in
set_option maxHeartbeats 4000000 in
theorem rmay_9 (s : ByteArray) (n a : Int) (p i : ByteArray) (v : Int) (t : ByteArray) (ht : t.size ≤ 1000000000) (hn : nameB s = true) (h1 : 1 ≤ n) (h2 : n ≤ 1099511627776) (h3 : 0 ≤ a) (h4 : a ≤ 1099511627776) (w : World) :
    Calls Tryz.prog 29 #[.agg #[.string s, .int .i64 n, .int .i64 a, .int .i64 9, .string p, .string i, .int .i64 v, .string t]] w fun e w' => e = .returned (.bool (restB (kR 9) ⟨s, n, a, 9, p, i, v, t⟩)) ∧ Below w.heap.size w w' := by
  rw [rk9]
  have HN := Lib.hid hn
  have I1 := Lib.hid (in_t h1 h2)
  have I2 := Lib.hid (in_t h3 h4)
  clear hn
  go_enter Tryz.func29, Tryz.ntmps29
  go_wp2_with (first | (go_at_call 39; (with_reducible refine (rname_at HN.out _).mono ?_); rintro e w' ⟨rfl, rfl⟩) | (go_at_call 63; (with_reducible refine (in_at I1.out _).mono ?_); rintro e w' ⟨rfl, rfl⟩) | (go_at_call 63; (with_reducible refine (in_at I2.out _).mono ?_); rintro e w' ⟨rfl, rfl⟩))
  go_quiet (fail)
  clear HN I1 I2
  go_wp2_with (first | (go_at_call 39; refine (rname_any _ _).mono ?_; rintro e w' ⟨rfl, rfl⟩) | (go_at_call 63; refine (in_any _ _ _ _).mono ?_; rintro e w' ⟨rfl, rfl⟩))
  all_goals go_ret
  all_goals (refine ⟨ret_bool ?_, below_drewN ((Below.refl _ _).alloc (by simp) _) _⟩; simp_all)
set_option maxRecDepth 100000 in
set_option maxHeartbeats 4000000 in
theorem rmay_10 (s : ByteArray) (n a : Int) (p i : ByteArray) (v : Int) (t : ByteArray) (ht : t.size ≤ 1000000000) (hn : nameB s = true) (h1 : 1 ≤ n) (h2 : n ≤ 1099511627776) (h3 : 0 ≤ a) (h4 : a ≤ 1099511627776) (w : World) :
    Calls Tryz.prog 29 #[.agg #[.string s, .int .i64 n, .int .i64 a, .int .i64 10, .string p, .string i, .int .i64 v, .string t]] w fun e w' => e = .returned (.bool (restB (kR 10) ⟨s, n, a, 10, p, i, v, t⟩)) ∧ Below w.heap.size w w' := by
  rw [rk10]
  have HN := Lib.hid hn
  have I1 := Lib.hid (in_t h1 h2)
  have I2 := Lib.hid (in_t h3 h4)
  clear hn
  go_enter Tryz.func29, Tryz.ntmps29
  go_wp2_with (first | (go_at_call 39; (with_reducible refine (rname_at HN.out _).mono ?_); rintro e w' ⟨rfl, rfl⟩) | (go_at_call 63; (with_reducible refine (in_at I1.out _).mono ?_); rintro e w' ⟨rfl, rfl⟩) | (go_at_call 63; (with_reducible refine (in_at I2.out _).mono ?_); rintro e w' ⟨rfl, rfl⟩))
  go_quiet (fail)
  clear HN I1 I2
  go_wp2_with (first | (go_at_call 39; refine (rname_any _ _).mono ?_; rintro e w' ⟨rfl, rfl⟩) | (go_at_call 63; refine (in_any _ _ _ _).mono ?_; rintro e w' ⟨rfl, rfl⟩))
  all_goals go_ret
  all_goals (refine ⟨ret_bool ?_, below_drewN ((Below.refl _ _).alloc (by simp) _) _⟩; simp_all)
set_option maxRecDepth 100000 in
set_option maxHeartbeats 4000000 in
theorem rmay_11 (s : ByteArray) (n a : Int) (p i : ByteArray) (v : Int) (t : ByteArray) (ht : t.size ≤ 1000000000) (hn : nameB s = true) (h1 : 1 ≤ n) (h2 : n ≤ 1099511627776) (h3 : 0 ≤ a) (h4 : a ≤ 1099511627776) (w : World) :
    Calls Tryz.prog 29 #[.agg #[.string s, .int .i64 n, .int .i64 a, .int .i64 11, .string p, .string i, .int .i64 v, .string t]] w fun e w' => e = .returned (.bool (restB (kR 11) ⟨s, n, a, 11, p, i, v, t⟩)) ∧ Below w.heap.size w w' := by
  rw [rk11]
  have HN := Lib.hid hn
  have I1 := Lib.hid (in_t h1 h2)
  have I2 := Lib.hid (in_t h3 h4)
  clear hn
  go_enter Tryz.func29, Tryz.ntmps29
  go_wp2_with (first | (go_at_call 39; (with_reducible refine (rname_at HN.out _).mono ?_); rintro e w' ⟨rfl, rfl⟩) | (go_at_call 63; (with_reducible refine (in_at I1.out _).mono ?_); rintro e w' ⟨rfl, rfl⟩) | (go_at_call 63; (with_reducible refine (in_at I2.out _).mono ?_); rintro e w' ⟨rfl, rfl⟩))
  go_quiet (fail)
  clear HN I1 I2
  go_wp2_with (first | (go_at_call 39; refine (rname_any _ _).mono ?_; rintro e w' ⟨rfl, rfl⟩) | (go_at_call 63; refine (in_any _ _ _ _).mono ?_; rintro e w' ⟨rfl, rfl⟩))
  refine (label_any t ht _).mono ?_
  rintro e w1 ⟨rfl, hb⟩
  have hb2 := (below_drewN ((Below.refl w.heap.size w).alloc (by simp) _) _).trans (hb.mono (by simp))
  clear hb
  go_wp2
  all_goals go_ret
  all_goals (refine ⟨ret_bool ?_, hb2⟩; simp_all)
set_option maxRecDepth 100000 in
set_option maxHeartbeats 4000000 in
theorem rmay_12 (s : ByteArray) (n a : Int) (p i : ByteArray) (v : Int) (t : ByteArray) (ht : t.size ≤ 1000000000) (hn : nameB s = true) (h1 : 1 ≤ n) (h2 : n ≤ 1099511627776) (h3 : 0 ≤ a) (h4 : a ≤ 1099511627776) (w : World) :
    Calls Tryz.prog 29 #[.agg #[.string s, .int .i64 n, .int .i64 a, .int .i64 12, .string p, .string i, .int .i64 v, .string t]] w fun e w' => e = .returned (.bool (restB (kR 12) ⟨s, n, a, 12, p, i, v, t⟩)) ∧ Below w.heap.size w w' := by
  rw [rk12]
  have HN := Lib.hid hn
  have I1 := Lib.hid (in_t h1 h2)
  have I2 := Lib.hid (in_t h3 h4)
  clear hn
  go_enter Tryz.func29, Tryz.ntmps29
  go_wp2_with (first | (go_at_call 39; (with_reducible refine (rname_at HN.out _).mono ?_); rintro e w' ⟨rfl, rfl⟩) | (go_at_call 63; (with_reducible refine (in_at I1.out _).mono ?_); rintro e w' ⟨rfl, rfl⟩) | (go_at_call 63; (with_reducible refine (in_at I2.out _).mono ?_); rintro e w' ⟨rfl, rfl⟩))
  go_quiet (fail)
  clear HN I1 I2
  go_wp2_with (first | (go_at_call 39; refine (rname_any _ _).mono ?_; rintro e w' ⟨rfl, rfl⟩) | (go_at_call 63; refine (in_any _ _ _ _).mono ?_; rintro e w' ⟨rfl, rfl⟩))
  all_goals go_ret
  all_goals (refine ⟨ret_bool ?_, below_drewN ((Below.refl _ _).alloc (by simp) _) _⟩; simp_all)
set_option maxRecDepth 100000 in
set_option maxHeartbeats 4000000 in
theorem rmay_13 (s : ByteArray) (n a : Int) (p i : ByteArray) (v : Int) (t : ByteArray) (ht : t.size ≤ 1000000000) (hn : nameB s = true) (h1 : 1 ≤ n) (h2 : n ≤ 1099511627776) (h3 : 0 ≤ a) (h4 : a ≤ 1099511627776) (w : World) :
    Calls Tryz.prog 29 #[.agg #[.string s, .int .i64 n, .int .i64 a, .int .i64 13, .string p, .string i, .int .i64 v, .string t]] w fun e w' => e = .returned (.bool (restB (kR 13) ⟨s, n, a, 13, p, i, v, t⟩)) ∧ Below w.heap.size w w' := by
  rw [rk13]
  have HN := Lib.hid hn
  have I1 := Lib.hid (in_t h1 h2)
  have I2 := Lib.hid (in_t h3 h4)
  clear hn
  go_enter Tryz.func29, Tryz.ntmps29
  go_wp2_with (first | (go_at_call 39; (with_reducible refine (rname_at HN.out _).mono ?_); rintro e w' ⟨rfl, rfl⟩) | (go_at_call 63; (with_reducible refine (in_at I1.out _).mono ?_); rintro e w' ⟨rfl, rfl⟩) | (go_at_call 63; (with_reducible refine (in_at I2.out _).mono ?_); rintro e w' ⟨rfl, rfl⟩))
  go_quiet (fail)
  clear HN I1 I2
  go_wp2_with (first | (go_at_call 39; refine (rname_any _ _).mono ?_; rintro e w' ⟨rfl, rfl⟩) | (go_at_call 63; refine (in_any _ _ _ _).mono ?_; rintro e w' ⟨rfl, rfl⟩))
  all_goals go_ret
  all_goals (refine ⟨ret_bool ?_, below_drewN ((Below.refl _ _).alloc (by simp) _) _⟩; simp_all)
set_option maxRecDepth 100000 in
set_option maxHeartbeats 4000000 in
theorem rmay_14 (s : ByteArray) (n a : Int) (p i : ByteArray) (v : Int) (t : ByteArray) (ht : t.size ≤ 1000000000) (hn : nameB s = true) (h1 : 1 ≤ n) (h2 : n ≤ 1099511627776) (h3 : 0 ≤ a) (h4 : a ≤ 1099511627776) (w : World) :
    Calls Tryz.prog 29 #[.agg #[.string s, .int .i64 n, .int .i64 a, .int .i64 14, .string p, .string i, .int .i64 v, .string t]] w fun e w' => e = .returned (.bool (restB (kR 14) ⟨s, n, a, 14, p, i, v, t⟩)) ∧ Below w.heap.size w w' := by
  rw [rk14]
  have HN := Lib.hid hn
  have I1 := Lib.hid (in_t h1 h2)
  have I2 := Lib.hid (in_t h3 h4)
  clear hn
  go_enter Tryz.func29, Tryz.ntmps29
  go_wp2_with (first | (go_at_call 39; (with_reducible refine (rname_at HN.out _).mono ?_); rintro e w' ⟨rfl, rfl⟩) | (go_at_call 63; (with_reducible refine (in_at I1.out _).mono ?_); rintro e w' ⟨rfl, rfl⟩) | (go_at_call 63; (with_reducible refine (in_at I2.out _).mono ?_); rintro e w' ⟨rfl, rfl⟩))
  go_quiet (fail)
  clear HN I1 I2
  go_wp2_with (first | (go_at_call 39; refine (rname_any _ _).mono ?_; rintro e w' ⟨rfl, rfl⟩) | (go_at_call 63; refine (in_any _ _ _ _).mono ?_; rintro e w' ⟨rfl, rfl⟩))
  all_goals go_ret
  all_goals (refine ⟨ret_bool ?_, below_drewN ((Below.refl _ _).alloc (by simp) _) _⟩; simp_all)
end Go.Proofs.YtghnbkkfghfifaaGreatDoor.E
