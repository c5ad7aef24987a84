/- What may be: the program's. -/
import Derived.Test.YtghnbkkfghfifaaGreatDoorEF
namespace Go.Proofs.YtghnbkkfghfifaaGreatDoor.E
open Go.RowKit
set_option linter.unusedVariables false
theorem may_head {e : Ev} (h : headB e = false) : mayB e = false := by unfold mayB; rw [h]; rfl
theorem may_kind {e : Ev} (h : ¬ (0 ≤ e.k ∧ e.k < 15)) : mayB e = false := by
  unfold mayB
  by_cases h0 : 0 ≤ e.k
  · rw [show decide (e.k < 15) = false by simp; omega]; simp
  · rw [show decide (0 ≤ e.k) = false by simp; omega]; simp
theorem may_rest {e : Ev} (h1 : headB e = true) {k : Nat} (h2 : e.k = k) (h3 : k < 15) : mayB e = restB (kR k) e := by
  unfold mayB
  rw [h1, h2, show decide ((0 : Int) ≤ (k : Int)) = true by simp, show decide ((k : Int) < 15) = true by simp; omega]
  simp
theorem rest_1 {r : KRow} {e : Ev} (h : nonB r.per e.p = false) : restB r e = false := by unfold restB; rw [h]; rfl
theorem rest_2 {r : KRow} {e : Ev} (h : nonB r.item e.i = false) : restB r e = false := by unfold restB; rw [h]; simp
theorem rest_3 {r : KRow} {e : Ev} (h : ¬ r.lo ≤ e.v) : restB r e = false := by unfold restB; rw [decide_eq_false h]; simp
theorem rest_4 {r : KRow} {e : Ev} (h : ¬ e.v ≤ r.hi) : restB r e = false := by unfold restB; rw [decide_eq_false h]; simp
theorem rest_5 {r : KRow} {e : Ev} (h1 : nonB r.per e.p = true) (h2 : nonB r.item e.i = true) (h3 : r.lo ≤ e.v) (h4 : e.v ≤ r.hi) : restB r e = wordB r.tx e.t := by unfold restB; rw [h1, h2, decide_eq_true h3, decide_eq_true h4]; rfl
set_option maxRecDepth 100000 in
set_option maxHeartbeats 1000000 in
theorem may_ok (s : ByteArray) (n a : Int) (k : Nat) (p i : ByteArray) (v : Int) (t : ByteArray) (ht : t.size ≤ 1000000000) (hk : k < 15) (hn : nameB s = true) (h1 : 1 ≤ n) (h2 : n ≤ 1099511627776) (h3 : 0 ≤ a) (h4 : a ≤ 1099511627776) (w : World) (hL : Lay w) :
    Calls Tryz.prog 88 #[.agg #[.string s, .int .i64 n, .int .i64 a, .int .i64 k, .string p, .string i, .int .i64 v, .string t]] w fun e w' => e = .returned (.bool (restB (kR k) ⟨s, n, a, k, p, i, v, t⟩)) ∧ Below w.heap.size w w' := by
  have HN := Lib.hid hn
  have HL := Lib.hid hL
  have hz : 0 < w.heap.size := by have := hL.sz; omega
  have hz9 : 7 ≤ w.heap.size := hL.sz
  obtain ⟨c0, c1, c2, c3, c4, c5⟩ := hL.row k hk
  clear hn hL
  generalize kR k = r at *
  obtain ⟨rw, rp, ri, rl, rh, rt⟩ := r
  simp only at c0 c1 c2 c3 c4 c5
  cases hp : nonB rp p
  · rw [rest_1 (r := ⟨rw, rp, ri, rl, rh, rt⟩) (e := ⟨s, n, a, k, p, i, v, t⟩) hp]
    have HP := Lib.hid hp
    clear hp
    go_enter Tryz.func88, Tryz.ntmps88
    go_wp2_with (first | (go_at_call 53; refine (name_at HN.out _).mono ?_; rintro e w' ⟨rfl, rfl⟩) | (go_at_call 112; refine (non_at HP.out _).mono ?_; rintro e w' ⟨rfl, rfl⟩))
    go_ret
    exact ⟨rfl, ((Below.refl _ _).alloc (by simp) _).alloc (by simp) _⟩
  · cases hi : nonB ri i
    · rw [rest_2 (r := ⟨rw, rp, ri, rl, rh, rt⟩) (e := ⟨s, n, a, k, p, i, v, t⟩) hi]
      have HP := Lib.hid hp
      have HI := Lib.hid hi
      clear hp hi
      go_enter Tryz.func88, Tryz.ntmps88
      go_wp2_with (first | (go_at_call 53; refine (name_at HN.out _).mono ?_; rintro e w' ⟨rfl, rfl⟩) | (go_at_call 112; (with_reducible refine (non_at HP.out _).mono ?_); rintro e w' ⟨rfl, rfl⟩) | (go_at_call 112; (with_reducible refine (non_at HI.out _).mono ?_); rintro e w' ⟨rfl, rfl⟩))
      go_ret
      exact ⟨rfl, ((Below.refl _ _).alloc (by simp) _).alloc (by simp) _⟩
    · by_cases hlo : rl ≤ v
      · by_cases hhi : v ≤ rh
        · rw [rest_5 (r := ⟨rw, rp, ri, rl, rh, rt⟩) (e := ⟨s, n, a, k, p, i, v, t⟩) hp hi hlo hhi]
          have HP := Lib.hid hp
          have HI := Lib.hid hi
          have t1 : decide (rl ≤ v) = true := decide_eq_true hlo
          have t2 : decide (v ≤ rh) = true := decide_eq_true hhi
          clear hp hi
          go_enter Tryz.func88, Tryz.ntmps88
          go_wp2_with (first | (go_at_call 53; refine (name_at HN.out _).mono ?_; rintro e w' ⟨rfl, rfl⟩) | (go_at_call 112; (with_reducible refine (non_at HP.out _).mono ?_); rintro e w' ⟨rfl, rfl⟩) | (go_at_call 112; (with_reducible refine (non_at HI.out _).mono ?_); rintro e w' ⟨rfl, rfl⟩))
          refine (wording_any _ _ ht _ (HL.out.next (((Below.refl _ _).alloc (by simp) _).alloc (by simp) _))).mono ?_
          rintro e w1 ⟨rfl, hb⟩
          have hb2 := (((Below.refl w.heap.size w).alloc (by simp) _).alloc (by simp) _).trans (hb.mono (by simp <;> omega))
          clear hb
          go_wp2
          go_ret
          exact ⟨rfl, hb2⟩
        · rw [rest_4 (r := ⟨rw, rp, ri, rl, rh, rt⟩) (e := ⟨s, n, a, k, p, i, v, t⟩) hhi]
          have HP := Lib.hid hp
          have HI := Lib.hid hi
          have t1 : decide (rl ≤ v) = true := decide_eq_true hlo
          have t2 : decide (v ≤ rh) = false := decide_eq_false hhi
          clear hp hi
          go_enter Tryz.func88, Tryz.ntmps88
          go_wp2_with (first | (go_at_call 53; refine (name_at HN.out _).mono ?_; rintro e w' ⟨rfl, rfl⟩) | (go_at_call 112; (with_reducible refine (non_at HP.out _).mono ?_); rintro e w' ⟨rfl, rfl⟩) | (go_at_call 112; (with_reducible refine (non_at HI.out _).mono ?_); rintro e w' ⟨rfl, rfl⟩))
          go_ret
          exact ⟨rfl, ((Below.refl _ _).alloc (by simp) _).alloc (by simp) _⟩
      · rw [rest_3 (r := ⟨rw, rp, ri, rl, rh, rt⟩) (e := ⟨s, n, a, k, p, i, v, t⟩) hlo]
        have HP := Lib.hid hp
        have HI := Lib.hid hi
        have t1 : decide (rl ≤ v) = false := decide_eq_false hlo
        clear hp hi
        go_enter Tryz.func88, Tryz.ntmps88
        go_wp2_with (first | (go_at_call 53; refine (name_at HN.out _).mono ?_; rintro e w' ⟨rfl, rfl⟩) | (go_at_call 112; (with_reducible refine (non_at HP.out _).mono ?_); rintro e w' ⟨rfl, rfl⟩) | (go_at_call 112; (with_reducible refine (non_at HI.out _).mono ?_); rintro e w' ⟨rfl, rfl⟩))
        go_ret
        exact ⟨rfl, ((Below.refl _ _).alloc (by simp) _).alloc (by simp) _⟩
theorem may_any (s : ByteArray) (n a k : Int) (p i : ByteArray) (v : Int) (t : ByteArray) (ht : t.size ≤ 1000000000) (w : World) (hL : Lay w) :
    Calls Tryz.prog 88 #[.agg #[.string s, .int .i64 n, .int .i64 a, .int .i64 k, .string p, .string i, .int .i64 v, .string t]] w fun e w' => e = .returned (.bool (mayB ⟨s, n, a, k, p, i, v, t⟩)) ∧ Below w.heap.size w w' := by
  by_cases hh : headB ⟨s, n, a, k, p, i, v, t⟩ = true
  · have hh2 := hh
    unfold headB at hh2
    simp only [Bool.and_eq_true, decide_eq_true_eq] at hh2
    obtain ⟨⟨⟨⟨hn, h1⟩, h2⟩, h3⟩, h4⟩ := hh2
    by_cases hk : 0 ≤ k ∧ k < 15
    · obtain ⟨j, rfl⟩ : ∃ j : Nat, k = j := ⟨k.toNat, by omega⟩
      rw [may_rest hh rfl (by omega)]
      exact may_ok s n a j p i v t ht (by omega) hn h1 h2 h3 h4 w hL
    · rw [may_kind hk]
      have HN := Lib.hid hn
      clear hh hL hn
      by_cases h0 : 0 ≤ k
      · have h5 : ¬ k < 15 := fun h => hk ⟨h0, h⟩
        clear hk
        go_enter Tryz.func88, Tryz.ntmps88
        go_wp2_with (go_at_call 53; refine (name_at HN.out _).mono ?_; rintro e w' ⟨rfl, rfl⟩)
        go_ret
        exact ⟨rfl, (Below.refl _ _).alloc (by simp) _⟩
      · clear hk
        go_enter Tryz.func88, Tryz.ntmps88
        go_wp2_with (go_at_call 53; refine (name_at HN.out _).mono ?_; rintro e w' ⟨rfl, rfl⟩)
        go_ret
        exact ⟨rfl, (Below.refl _ _).alloc (by simp) _⟩
  · have hf : headB ⟨s, n, a, k, p, i, v, t⟩ = false := by simpa using hh
    rw [may_head hf]
    clear hh hL
    unfold headB at hf
    simp only at hf
    cases hn : nameB s
    · have HN := Lib.hid hn
      clear hf hn
      go_enter Tryz.func88, Tryz.ntmps88
      go_wp2_with (go_at_call 53; refine (name_at HN.out _).mono ?_; rintro e w' ⟨rfl, rfl⟩)
      go_ret
      exact ⟨rfl, (Below.refl _ _).alloc (by simp) _⟩
    · have HN := Lib.hid hn
      rw [hn] at hf
      have hf2 : n < 1 ∨ (1 ≤ n ∧ 1099511627776 < n) ∨ (1 ≤ n ∧ n ≤ 1099511627776 ∧ a < 0) ∨ (1 ≤ n ∧ n ≤ 1099511627776 ∧ 0 ≤ a ∧ 1099511627776 < a) := by
        simp at hf; omega
      clear hf hn
      rcases hf2 with h | ⟨h0, h⟩ | ⟨h0, h1, h⟩ | ⟨h0, h1, h2, h⟩
      all_goals
        go_enter Tryz.func88, Tryz.ntmps88
        go_wp2_with (go_at_call 53; refine (name_at HN.out _).mono ?_; rintro e w' ⟨rfl, rfl⟩)
        go_ret
        exact ⟨rfl, (Below.refl _ _).alloc (by simp) _⟩
end Go.Proofs.YtghnbkkfghfifaaGreatDoor.E
