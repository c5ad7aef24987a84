/- Fractions: whether they may be, what they count as, how they are held against one another. -/
import Derived.Test.YteicljlmdphkhaaG
import Derived.Deep.RegionHeld3
namespace Go.Proofs.Yteicljlmdphkhaa
open Go.RowKit
set_option linter.unusedVariables false
/-- May it be? -/
def okf (n d : Int) : Bool := decide (0 ≤ n) && decide (1 ≤ d)
def ownN (n d : Int) : Nat := if 0 ≤ n ∧ 1 ≤ d then n.toNat else 0
def ownD (n d : Int) : Nat := if 0 ≤ n ∧ 1 ≤ d then d.toNat else 1
theorem okf_t {n d : Int} (h1 : 0 ≤ n) (h2 : 1 ≤ d) : okf n d = true := by unfold okf; simp [h1, h2]
theorem okf_f1 {n d : Int} (h1 : ¬ 0 ≤ n) : okf n d = false := by unfold okf; simp; intro h; omega
theorem okf_f2 {n d : Int} (h1 : ¬ 1 ≤ d) : okf n d = false := by unfold okf; simp; intro h; omega
theorem may_any (n d : Int) (w : World) :
    Calls Try.prog 13 #[.agg #[.int .i64 n, .int .i64 d]] w fun e w' => e = .returned (.bool (okf n d)) ∧ Below w.heap.size w w' := by
  by_cases h1 : 0 ≤ n
  · by_cases h2 : 1 ≤ d
    · have e := Lib.hid (okf_t h1 h2)
      have h3 : decide (1 ≤ d) = true := by simpa using h2
      rw [e.out]
      go_enter Try.func13, Try.ntmps13
      go_wp2
      go_ret
      exact ⟨rfl, (Below.refl _ _).alloc (by simp) _⟩
    · have e := Lib.hid (okf_f2 (n := n) h2)
      have h3 : decide (1 ≤ d) = false := by simpa using h2
      rw [e.out]
      go_enter Try.func13, Try.ntmps13
      go_wp2
      go_ret
      exact ⟨rfl, (Below.refl _ _).alloc (by simp) _⟩
  · have e := Lib.hid (okf_f1 (d := d) h1)
    have h3 : decide (0 ≤ n) = false := by simpa using h1
    rw [e.out]
    go_enter Try.func13, Try.ntmps13
    go_wp2
    go_ret
    exact ⟨rfl, (Below.refl _ _).alloc (by simp) _⟩
theorem rmay_any (n d : Int) (w : World) :
    Calls Try.prog 14 #[.agg #[.int .i64 n, .int .i64 d]] w fun e w' => e = .returned (.bool (okf n d)) ∧ Below w.heap.size w w' := by
  by_cases h1 : 0 ≤ n
  · by_cases h2 : 1 ≤ d
    · have e := Lib.hid (okf_t h1 h2)
      have h3 : decide (1 ≤ d) = true := by simpa using h2
      rw [e.out]
      go_enter Try.func14, Try.ntmps14
      go_wp2
      go_ret
      exact ⟨rfl, (Below.refl _ _).alloc (by simp) _⟩
    · have e := Lib.hid (okf_f2 (n := n) h2)
      have h3 : decide (1 ≤ d) = false := by simpa using h2
      rw [e.out]
      go_enter Try.func14, Try.ntmps14
      go_wp2
      go_ret
      exact ⟨rfl, (Below.refl _ _).alloc (by simp) _⟩
  · have e := Lib.hid (okf_f1 (d := d) h1)
    have h3 : decide (0 ≤ n) = false := by simpa using h1
    rw [e.out]
    go_enter Try.func14, Try.ntmps14
    go_wp2
    go_ret
    exact ⟨rfl, (Below.refl _ _).alloc (by simp) _⟩
theorem own_t {n d : Int} (h : okf n d = true) : (ownN n d : Int) = n ∧ (ownD n d : Int) = d := by
  unfold okf at h; simp at h
  unfold ownN ownD; rw [if_pos h, if_pos h]; omega
theorem own_f {n d : Int} (h : okf n d = false) : (ownN n d : Int) = 0 ∧ (ownD n d : Int) = 1 := by
  unfold okf at h; simp at h
  unfold ownN ownD; rw [if_neg (by omega), if_neg (by omega)]; exact ⟨rfl, rfl⟩
theorem nought_any (w : World) :
    Calls Try.prog 31 #[] w fun e w' => e = .returned (.agg #[.int .i64 0, .int .i64 1]) ∧ Below w.heap.size w w' := by
  go_enter Try.func31, Try.ntmps31
  go_wp2
  refine bodyPost_ret (v := .agg #[.int .i64 0, .int .i64 1]) (by simp [results, Try.results31, go_sem]) rfl ⟨rfl, ?_⟩
  exact (Below.refl _ _).alloc (by simp) _
theorem orNought_any (n d : Int) (p q : Nat) (hp : ownN n d = p) (hq : ownD n d = q) (w : World) :
    Calls Try.prog 24 #[.agg #[.int .i64 n, .int .i64 d]] w fun e w' => e = .returned (.agg #[.int .i64 p, .int .i64 q]) ∧ Below w.heap.size w w' := by
  subst hp hq
  cases hok : okf n d
  · obtain ⟨e1, e2⟩ := own_f hok
    rw [e1, e2]
    clear e1 e2
    go_enter Try.func24, Try.ntmps24
    go_wp2_with fail
    refine (may_any n d _).mono ?_
    rintro e w1 ⟨rfl, hb⟩
    have B1 := (Blk2.new _ _ _ _).below hb (by simp)
    simp at B1
    have bw : Below w.heap.size w w1 := Below.trans (((Below.refl _ _).alloc (by simp) _).alloc (by simp) _) (hb.mono (by simp <;> omega))
    clear hb
    obtain ⟨c10, c11, f10, f11⟩ := B1.all
    have hz1 := B1.lt
    go_wp2_with fail
    refine (nought_any _).mono ?_
    rintro e w2 ⟨rfl, hb2⟩
    have B2 := B1.below hb2 B1.lt
    have bw2 := bw.trans (hb2.mono bw.size)
    clear c10 c11 f10 f11 hz1 B1 bw hb2
    obtain ⟨c10, c11, f10, f11⟩ := B2.all
    have hz1 := B2.lt
    go_wp2
    refine bodyPost_ret (v := .agg #[.int .i64 0, .int .i64 1]) (by simp [results, Try.results24, go_sem, c10, c11]) rfl ⟨rfl, ?_⟩
    repeat (first | assumption | refine Below.setCell ?_ (by simp <;> omega) _ | refine Below.alloc ?_ (by simp <;> omega) _)
  · obtain ⟨e1, e2⟩ := own_t hok
    rw [e1, e2]
    clear e1 e2
    go_enter Try.func24, Try.ntmps24
    go_wp2_with fail
    refine (may_any n d _).mono ?_
    rintro e w1 ⟨rfl, hb⟩
    have B0 := ((Blk2.new w _ _ _).alloc _).below hb (by simp <;> omega)
    have B1 := (Blk2.new _ _ _ _).below hb (by simp)
    simp at B1
    have bw : Below w.heap.size w w1 := Below.trans (((Below.refl _ _).alloc (by simp) _).alloc (by simp) _) (hb.mono (by simp <;> omega))
    clear hb
    obtain ⟨c00, c01, f00, f01⟩ := B0.all
    obtain ⟨c10, c11, f10, f11⟩ := B1.all
    have hz1 := B1.lt
    go_wp2
    refine bodyPost_ret (v := .agg #[.int .i64 n, .int .i64 d]) (by simp [results, Try.results24, go_sem, c10, c11]) rfl ⟨rfl, ?_⟩
    repeat (first | assumption | refine Below.setCell ?_ (by simp <;> omega) _ | refine Below.alloc ?_ (by simp <;> omega) _)
theorem own_any (n d : Int) (p q : Nat) (hp : ownN n d = p) (hq : ownD n d = q) (w : World) :
    Calls Try.prog 27 #[.agg #[.int .i64 n, .int .i64 d]] w fun e w' => e = .returned (.agg #[.int .i64 p, .int .i64 q]) ∧ Below w.heap.size w w' := by
  subst hp hq
  cases hok : okf n d
  · obtain ⟨e1, e2⟩ := own_f hok
    rw [e1, e2]
    clear e1 e2
    go_enter Try.func27, Try.ntmps27
    go_wp2_with fail
    refine (rmay_any n d _).mono ?_
    rintro e w1 ⟨rfl, hb⟩
    have B1 := (Blk2.new _ _ _ _).below hb (by simp)
    simp at B1
    have bw : Below w.heap.size w w1 := Below.trans (((Below.refl _ _).alloc (by simp) _).alloc (by simp) _) (hb.mono (by simp <;> omega))
    clear hb
    obtain ⟨c10, c11, f10, f11⟩ := B1.all
    have hz1 := B1.lt
    go_wp2
    refine bodyPost_ret (v := .agg #[.int .i64 0, .int .i64 1]) (by simp [results, Try.results27, go_sem, c10, c11]) rfl ⟨rfl, ?_⟩
    repeat (first | assumption | refine Below.setCell ?_ (by simp <;> omega) _ | refine Below.alloc ?_ (by simp <;> omega) _)
  · obtain ⟨e1, e2⟩ := own_t hok
    rw [e1, e2]
    clear e1 e2
    go_enter Try.func27, Try.ntmps27
    go_wp2_with fail
    refine (rmay_any n d _).mono ?_
    rintro e w1 ⟨rfl, hb⟩
    have B0 := ((Blk2.new w _ _ _).alloc _).below hb (by simp <;> omega)
    have B1 := (Blk2.new _ _ _ _).below hb (by simp)
    simp at B1
    have bw : Below w.heap.size w w1 := Below.trans (((Below.refl _ _).alloc (by simp) _).alloc (by simp) _) (hb.mono (by simp <;> omega))
    clear hb
    obtain ⟨c00, c01, f00, f01⟩ := B0.all
    obtain ⟨c10, c11, f10, f11⟩ := B1.all
    have hz1 := B1.lt
    go_wp2
    refine bodyPost_ret (v := .agg #[.int .i64 n, .int .i64 d]) (by simp [results, Try.results27, go_sem, c10, c11]) rfl ⟨rfl, ?_⟩
    repeat (first | assumption | refine Below.setCell ?_ (by simp <;> omega) _ | refine Below.alloc ?_ (by simp <;> omega) _)
/-- -1, 0, 1. -/
def cmpI (a b : Int) : Int := if a < b then -1 else if b < a then 1 else 0
theorem cmp_any (a b : Int) (w : World) :
    Calls Try.prog 26 #[.int .u64 a, .int .u64 b] w fun e w' => e = .returned (.int .i64 (cmpI a b)) ∧ w' = w := by
  by_cases h1 : a < b
  · have e : cmpI a b = -1 := by unfold cmpI; rw [if_pos h1]
    rw [e]
    clear e
    go_enter Try.func26, Try.ntmps26
    go_wp2
    go_ret
    exact ⟨rfl, rfl⟩
  · by_cases h2 : b < a
    · have e : cmpI a b = 1 := by unfold cmpI; rw [if_neg h1, if_pos h2]
      rw [e]
      clear e
      go_enter Try.func26, Try.ntmps26
      go_wp2
      go_ret
      exact ⟨rfl, rfl⟩
    · have e : cmpI a b = 0 := by unfold cmpI; rw [if_neg h1, if_neg h2]
      rw [e]
      clear e
      go_enter Try.func26, Try.ntmps26
      go_wp2
      go_ret
      exact ⟨rfl, rfl⟩
/-- How a fraction of whole numbers is held against another one. -/
def cmpF (a b c d : Nat) : Int := cmpI ((a * d : Nat) : Int) ((c * b : Nat) : Int)
theorem cmp_hi (x y : Nat) (h : cmpI (hi x) (hi y) ≠ 0) : cmpI (hi x) (hi y) = cmpI (x : Int) (y : Int) := by
  revert h
  unfold cmpI hi
  unfold U
  split
  · rw [if_pos (by omega)]; exact fun _ => rfl
  · split
    · rw [if_neg (by omega), if_pos (by omega)]; exact fun _ => rfl
    · exact fun h => absurd rfl h
theorem cmp_lo (x y : Nat) (h : cmpI (hi x) (hi y) = 0) : cmpI (lo x) (lo y) = cmpI (x : Int) (y : Int) := by
  revert h
  unfold cmpI hi lo
  unfold U
  split
  · intro h; simp at h
  · split
    · intro h; simp at h
    · intro _
      split
      · rw [if_pos (by omega)]
      · split
        · rw [if_neg (by omega), if_pos (by omega)]
        · rw [if_neg (by omega), if_neg (by omega)]
end Go.Proofs.Yteicljlmdphkhaa
