/- What may be: the reference's, whatever the kind; worth; long texts; lists of texts. -/
import Derived.Test.YtghnbkkfghfifaaGreatDoorEH
namespace Go.Proofs.YtghnbkkfghfifaaGreatDoor.E
open Go.RowKit
set_option linter.unusedVariables false
set_option maxRecDepth 100000 in
set_option maxHeartbeats 4000000 in
theorem rmay_any (s : ByteArray) (n a k : Int) (p i : ByteArray) (v : Int) (t : ByteArray) (ht : t.size ≤ 1000000000) (w : World) :
    Calls Tryz.prog 29 #[.agg #[.string s, .int .i64 n, .int .i64 a, .int .i64 k, .string p, .string i, .int .i64 v, .string t]] w fun e w' => e = .returned (.bool (mayB ⟨s, n, a, k, p, i, v, t⟩)) ∧ Below w.heap.size w w' := by
  by_cases hh : headB ⟨s, n, a, k, p, i, v, t⟩ = true
  · have hh2 := hh
    unfold headB at hh2
    simp only [Bool.and_eq_true, decide_eq_true_eq] at hh2
    obtain ⟨⟨⟨⟨hn, h1⟩, h2⟩, h3⟩, h4⟩ := hh2
    by_cases hk : 0 ≤ k ∧ k < 15
    · obtain ⟨j, rfl⟩ : ∃ j : Nat, k = j := ⟨k.toNat, by omega⟩
      rw [may_rest hh rfl (by omega)]
      have hj : j < 15 := by omega
      clear hh hk
      match j, hj with
      | 0, _ => exact rmay_0 s n a p i v t ht hn h1 h2 h3 h4 w
      | 1, _ => exact rmay_1 s n a p i v t ht hn h1 h2 h3 h4 w
      | 2, _ => exact rmay_2 s n a p i v t ht hn h1 h2 h3 h4 w
      | 3, _ => exact rmay_3 s n a p i v t ht hn h1 h2 h3 h4 w
      | 4, _ => exact rmay_4 s n a p i v t ht hn h1 h2 h3 h4 w
      | 5, _ => exact rmay_5 s n a p i v t ht hn h1 h2 h3 h4 w
      | 6, _ => exact rmay_6 s n a p i v t ht hn h1 h2 h3 h4 w
      | 7, _ => exact rmay_7 s n a p i v t ht hn h1 h2 h3 h4 w
      | 8, _ => exact rmay_8 s n a p i v t ht hn h1 h2 h3 h4 w
      | 9, _ => exact rmay_9 s n a p i v t ht hn h1 h2 h3 h4 w
      | 10, _ => exact rmay_10 s n a p i v t ht hn h1 h2 h3 h4 w
      | 11, _ => exact rmay_11 s n a p i v t ht hn h1 h2 h3 h4 w
      | 12, _ => exact rmay_12 s n a p i v t ht hn h1 h2 h3 h4 w
      | 13, _ => exact rmay_13 s n a p i v t ht hn h1 h2 h3 h4 w
      | 14, _ => exact rmay_14 s n a p i v t ht hn h1 h2 h3 h4 w
      | j + 15, hj => omega
    · rw [may_kind hk]
      have HN := Lib.hid hn
      have I1 := Lib.hid (in_t h1 h2)
      have I2 := Lib.hid (in_t h3 h4)
      clear hh hn h1 h2 h3 h4
      have e0 : (k == 0) = false := by simp; omega
      have e1 : (k == 1) = false := by simp; omega
      have e2 : (k == 2) = false := by simp; omega
      have e3 : (k == 3) = false := by simp; omega
      have e4 : (k == 4) = false := by simp; omega
      have e5 : (k == 5) = false := by simp; omega
      have e6 : (k == 6) = false := by simp; omega
      have e7 : (k == 7) = false := by simp; omega
      have e8 : (k == 8) = false := by simp; omega
      have e9 : (k == 9) = false := by simp; omega
      have e10 : (k == 10) = false := by simp; omega
      have e11 : (k == 11) = false := by simp; omega
      have e12 : (k == 12) = false := by simp; omega
      have e13 : (k == 13) = false := by simp; omega
      have e14 : (k == 14) = false := by simp; omega
      clear hk
      go_enter Tryz.func29, Tryz.ntmps29
      go_wp2_with (first | (go_at_call 39; (with_reducible refine (rname_at HN.out _).mono ?_); rintro e w' ⟨rfl, rfl⟩) | (go_at_call 63; (with_reducible refine (in_at I1.out _).mono ?_); rintro e w' ⟨rfl, rfl⟩) | (go_at_call 63; (with_reducible refine (in_at I2.out _).mono ?_); rintro e w' ⟨rfl, rfl⟩))
      go_quiet (fail)
      go_wp2
      go_ret
      exact ⟨rfl, below_drewN ((Below.refl _ _).alloc (by simp) _) _⟩
  · have hf : headB ⟨s, n, a, k, p, i, v, t⟩ = false := by simpa using hh
    rw [may_head hf]
    clear hh
    unfold headB at hf
    simp only at hf
    cases hn : nameB s
    · have HN := Lib.hid hn
      clear hf hn
      go_enter Tryz.func29, Tryz.ntmps29
      go_wp2_with (go_at_call 39; refine (rname_at HN.out _).mono ?_; rintro e w' ⟨rfl, rfl⟩)
      go_ret
      exact ⟨rfl, (Below.refl _ _).alloc (by simp) _⟩
    · have HN := Lib.hid hn
      rw [hn] at hf
      by_cases hb : 1 ≤ n ∧ n ≤ 1099511627776
      · have hc : (decide (0 ≤ a) && decide (a ≤ 1099511627776)) = false := by
          rw [Bool.eq_false_iff]; intro h; simp at h hf; omega
        have I1 := Lib.hid (in_t hb.1 hb.2)
        have I2 := Lib.hid hc
        clear hf hn hb hc
        go_enter Tryz.func29, Tryz.ntmps29
        go_wp2_with (first | (go_at_call 39; (with_reducible refine (rname_at HN.out _).mono ?_); rintro e w' ⟨rfl, rfl⟩) | (go_at_call 63; (with_reducible refine (in_at I1.out _).mono ?_); rintro e w' ⟨rfl, rfl⟩) | (go_at_call 63; (with_reducible refine (in_at I2.out _).mono ?_); rintro e w' ⟨rfl, rfl⟩))
        go_ret
        exact ⟨rfl, (Below.refl _ _).alloc (by simp) _⟩
      · have hc : (decide (1 ≤ n) && decide (n ≤ 1099511627776)) = false := by
          rw [Bool.eq_false_iff]; intro h; simp at h; omega
        have I1 := Lib.hid hc
        clear hf hn hb hc
        go_enter Tryz.func29, Tryz.ntmps29
        go_wp2_with (first | (go_at_call 39; (with_reducible refine (rname_at HN.out _).mono ?_); rintro e w' ⟨rfl, rfl⟩) | (go_at_call 63; (with_reducible refine (in_at I1.out _).mono ?_); rintro e w' ⟨rfl, rfl⟩))
        go_ret
        exact ⟨rfl, (Below.refl _ _).alloc (by simp) _⟩
/-- What an event is worth. -/
def worthI (k v : Int) : Int := if k = 1 then 1 else if k = 2 then 3 else if k = 3 then 5 else if k = 4 then v else 0
theorem worth_cases (k v : Int) : (k = 1 ∧ worthI k v = 1) ∨ (k = 2 ∧ worthI k v = 3) ∨ (k = 3 ∧ worthI k v = 5) ∨ (k = 4 ∧ worthI k v = v) ∨ ((k ≠ 1 ∧ k ≠ 2 ∧ k ≠ 3 ∧ k ≠ 4) ∧ worthI k v = 0) := by
  unfold worthI
  by_cases h1 : k = 1
  · left; rw [if_pos h1]; exact ⟨h1, rfl⟩
  by_cases h2 : k = 2
  · right; left; rw [if_neg h1, if_pos h2]; exact ⟨h2, rfl⟩
  by_cases h3 : k = 3
  · right; right; left; rw [if_neg h1, if_neg h2, if_pos h3]; exact ⟨h3, rfl⟩
  by_cases h4 : k = 4
  · right; right; right; left; rw [if_neg h1, if_neg h2, if_neg h3, if_pos h4]; exact ⟨h4, rfl⟩
  · right; right; right; right; rw [if_neg h1, if_neg h2, if_neg h3, if_neg h4]; exact ⟨⟨h1, h2, h3, h4⟩, rfl⟩
/-- Are no texts longer? -/
def Small (e : Ev) (m : Nat) : Prop := e.s.size ≤ m ∧ e.p.size ≤ m ∧ e.i.size ≤ m ∧ e.t.size ≤ m
set_option maxRecDepth 100000 in
theorem big_no (s : ByteArray) (n a k : Int) (p i : ByteArray) (v : Int) (t : ByteArray) (m : Nat) (h : Small ⟨s, n, a, k, p, i, v, t⟩ m) (w : World) :
    Calls Tryz.prog 26 #[.agg #[.string s, .int .i64 n, .int .i64 a, .int .i64 k, .string p, .string i, .int .i64 v, .string t], .int .i64 m] w fun e w' => e = .returned (.bool false) ∧ Below w.heap.size w w' := by
  obtain ⟨h1, h2, h3, h4⟩ := h
  simp only at h1 h2 h3 h4
  have t1 : decide ((m : Int) < (s.size : Int)) = false := by simp; omega
  have t2 : decide ((m : Int) < (p.size : Int)) = false := by simp; omega
  have t3 : decide ((m : Int) < (i.size : Int)) = false := by simp; omega
  have t4 : decide ((m : Int) < (t.size : Int)) = false := by simp; omega
  have u1 : decide (m < s.size) = false := by simp; omega
  have u2 : decide (m < p.size) = false := by simp; omega
  have u3 : decide (m < i.size) = false := by simp; omega
  have u4 : decide (m < t.size) = false := by simp; omega
  clear h1 h2 h3 h4
  go_enter Tryz.func26, Tryz.ntmps26
  go_wp2
  go_ret
  exact ⟨rfl, (Below.refl _ _).alloc (by simp) _⟩
set_option maxRecDepth 100000 in
theorem big_yes (s : ByteArray) (n a k : Int) (p i : ByteArray) (v : Int) (t : ByteArray) (m : Nat) (h : ¬ Small ⟨s, n, a, k, p, i, v, t⟩ m) (w : World) :
    Calls Tryz.prog 26 #[.agg #[.string s, .int .i64 n, .int .i64 a, .int .i64 k, .string p, .string i, .int .i64 v, .string t], .int .i64 m] w fun e w' => e = .returned (.bool true) ∧ Below w.heap.size w w' := by
  have h' : m < s.size ∨ (¬ m < s.size ∧ m < p.size) ∨ (¬ m < s.size ∧ ¬ m < p.size ∧ m < i.size) ∨ (¬ m < s.size ∧ ¬ m < p.size ∧ ¬ m < i.size ∧ m < t.size) := by
    unfold Small at h; simp only at h; omega
  clear h
  rcases h' with h | ⟨h1, h⟩ | ⟨h1, h2, h⟩ | ⟨h1, h2, h3, h⟩
  all_goals
    (try have u1 : decide (m < s.size) = false := by simp; omega)
    (try have u2 : decide (m < p.size) = false := by simp; omega)
    (try have u3 : decide (m < i.size) = false := by simp; omega)
    (try have v1 : decide (m < s.size) = true := by simp; omega)
    (try have v2 : decide (m < p.size) = true := by simp; omega)
    (try have v3 : decide (m < i.size) = true := by simp; omega)
    (try have v4 : decide (m < t.size) = true := by simp; omega)
    (try clear h)
    (try clear h1)
    (try clear h2)
    (try clear h3)
    go_enter Tryz.func26, Tryz.ntmps26
    go_wp2
    go_ret
    exact ⟨rfl, (Below.refl _ _).alloc (by simp) _⟩
set_option maxRecDepth 100000 in
theorem texts_same (v1 v2 : Value) (xs : List ByteArray) (hx : xs.length ≤ 4294967296) (w : World) (h1 : Strs w v1 xs) (h2 : Strs w v2 xs) :
    Calls Tryz.prog 15 #[v1, v2] w fun e w' => e = .returned (.bool true) ∧ ∃ n, w' = w.drewN n := by
  rcases h1 with ⟨rfl, a, c, rfl⟩ | ⟨b, c, hb, hc, rfl, hcell⟩
  · have e : ∃ a2 c2, v2 = .slice a2 0 c2 := by
      rcases h2 with ⟨_, a2, c2, rfl⟩ | ⟨b2, c2, hb2, hc2, rfl, hcell2⟩
      · exact ⟨_, _, rfl⟩
      · exact ⟨_, _, rfl⟩
    obtain ⟨a2, c2, rfl⟩ := e
    clear h2
    go_enter Tryz.func15, Tryz.ntmps15
    go_wp2
    refine wp_loop_rounds 1 ?_
    rw [rounds_succ]
    go_wp2
    go_ret
    exact ⟨rfl, 0, rfl⟩
  · rcases h2 with ⟨rfl, a2, c2, rfl⟩ | ⟨b2, c2, hb2, hc2, rfl, hcell2⟩
    · go_enter Tryz.func15, Tryz.ntmps15
      go_wp2
      refine wp_loop_rounds 1 ?_
      rw [rounds_succ]
      go_wp2
      go_ret
      exact ⟨rfl, 0, rfl⟩
    · have HC := Lib.hid hcell
      have HC2 := Lib.hid hcell2
      clear hcell hcell2
      go_enter Tryz.func15, Tryz.ntmps15
      go_wp2
      go_loopw [5] (fun i wr => ∃ k : Nat, k ≤ xs.length ∧ i = .int .i64 k ∧ Hid (∀ i x, xs[i]? = some x → wr.cell? ⟨b, i, none⟩ = some (.string x)) ∧ Hid (∀ i x, xs[i]? = some x → wr.cell? ⟨b2, i, none⟩ = some (.string x)) ∧ Hid (∃ n, wr = w.drewN n)) (fun i _ => xs.length - (intOf i).toNat)
      case atStart => exact ⟨0, Nat.zero_le _, rfl, HC, HC2, 0, rfl⟩
      case round =>
        clear HC HC2
        obtain ⟨k, hk, rfl, HC, HC2, HW⟩ := hrel
        by_cases hlt : k < xs.length
        · have c1 := HC.out k xs[k] (List.getElem?_eq_getElem hlt)
          have c2' := HC2.out k xs[k] (List.getElem?_eq_getElem hlt)
          go_wp2
          go_quiet (fail)
          go_wp2
          go_roundw
          case rel => exact ⟨k + 1, by omega, by go_num, HC.out, HC2.out, by obtain ⟨n, hn⟩ := HW.out; exact ⟨_, by rw [hn, World.drewN_drewN]⟩⟩
          case measure => simp [intOf]; omega
        · obtain rfl : k = xs.length := by omega
          go_wp2
          go_ret
          exact ⟨rfl, HW.out⟩
end Go.Proofs.YtghnbkkfghfifaaGreatDoor.E
