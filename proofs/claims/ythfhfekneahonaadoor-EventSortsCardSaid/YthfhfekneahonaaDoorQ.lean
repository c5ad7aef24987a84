/- The order of events: the program's and the reference's. -/
import Derived.Test.YthfhfekneahonaaDoorP
namespace Go.Proofs.YthfhfekneahonaaDoor
open Go.RowKit
set_option linter.unusedVariables false
/-- Ahead of, at one place with, behind: by At, Source, Number. -/
def lessK (a1 a2 : Int) (s1 s2 : ByteArray) (n1 n2 : Int) : Bool := if a1 = a2 then (if s1 = s2 then decide (n1 < n2) else ltB s1 s2) else decide (a1 < a2)
def cmpK (a1 a2 : Int) (s1 s2 : ByteArray) (n1 n2 : Int) : Int := if a1 = a2 then (if s1 = s2 then Lib.compareInt n1 n2 else Lib.compareBytes s1.data.toList s2.data.toList) else Lib.compareInt a1 a2
theorem cb_eq : ∀ x y : List UInt8, Lib.compareBytes x y = if Op.bytesLess x y then -1 else if Op.bytesLess y x then 1 else 0
  | [], [] => by simp [Lib.compareBytes, Op.bytesLess]
  | [], _ :: _ => by simp [Lib.compareBytes, Op.bytesLess]
  | _ :: _, [] => by simp [Lib.compareBytes, Op.bytesLess]
  | a :: x, b :: y => by
    have ih := cb_eq x y
    unfold Lib.compareBytes Op.bytesLess
    by_cases h1 : a < b
    · simp [h1]
    · by_cases h2 : b < a
      · have h3 : a ≠ b := by rintro rfl; exact h1 h2
        simp [h1, h2, h3]
      · have h3 : a = b := by
          rw [UInt8.lt_iff_toNat_lt] at h1 h2
          exact UInt8.toNat_inj.1 (by omega)
        subst h3
        simp [h1, ih]
theorem lessL_trans : ∀ a b c : List UInt8, Op.bytesLess a b = true → Op.bytesLess b c = true → Op.bytesLess a c = true
  | _, _, [], _, h => by cases ‹List UInt8› <;> simp [Op.bytesLess] at h
  | [], _, _ :: _, _, _ => by simp [Op.bytesLess]
  | _ :: _, [], _ :: _, h, _ => by simp [Op.bytesLess] at h
  | x :: a, y :: b, z :: c, h1, h2 => by
    unfold Op.bytesLess at h1 h2 ⊢
    simp only [Bool.or_eq_true, Bool.and_eq_true, decide_eq_true_eq, beq_iff_eq] at h1 h2 ⊢
    rcases h1 with h1 | ⟨rfl, h1⟩
    · rcases h2 with h2 | ⟨rfl, h2⟩
      · left; rw [UInt8.lt_iff_toNat_lt] at *; omega
      · left; exact h1
    · rcases h2 with h2 | ⟨rfl, h2⟩
      · left; exact h2
      · right; exact ⟨rfl, lessL_trans a b c h1 h2⟩
theorem cmpK_eq (a1 a2 : Int) (s1 s2 : ByteArray) (n1 n2 : Int) : cmpK a1 a2 s1 s2 n1 n2 = if lessK a1 a2 s1 s2 n1 n2 then -1 else if lessK a2 a1 s2 s1 n2 n1 then 1 else 0 := by
  unfold cmpK lessK
  by_cases h1 : a1 = a2
  · subst h1
    by_cases h2 : s1 = s2
    · subst h2
      simp [Lib.compareInt]
    · have h3 : ¬ s2 = s1 := fun e => h2 e.symm
      simp [h2, h3, cb_eq, ltB, toL]
  · have h3 : ¬ a2 = a1 := fun e => h1 e.symm
    simp [h1, h3, Lib.compareInt]
theorem less_tri (a1 a2 : Int) (s1 s2 : ByteArray) (n1 n2 : Int) : (lessK a1 a2 s1 s2 n1 n2 = true ∧ lessK a2 a1 s2 s1 n2 n1 = false) ∨ (lessK a1 a2 s1 s2 n1 n2 = false ∧ lessK a2 a1 s2 s1 n2 n1 = true) ∨ (lessK a1 a2 s1 s2 n1 n2 = false ∧ lessK a2 a1 s2 s1 n2 n1 = false ∧ a1 = a2 ∧ s1 = s2 ∧ n1 = n2) := by
  unfold lessK
  by_cases h1 : a1 = a2
  · subst h1
    by_cases h2 : s1 = s2
    · subst h2
      simp; omega
    · have h3 : ¬ s2 = s1 := fun e => h2 e.symm
      simp only [h2, h3, if_true, if_false]
      rcases ltB_tri s1 s2 with ⟨t1, t2, t3⟩ | ⟨t1, t2, t3⟩ | ⟨t1, t2, t3⟩
      · simp [t1, t2]
      · simp [t1, t2]
      · exact absurd t3 h2
  · have h3 : ¬ a2 = a1 := fun e => h1 e.symm
    simp [h1, h3]; omega
theorem less_trans {a1 a2 a3 : Int} {s1 s2 s3 : ByteArray} {n1 n2 n3 : Int} (h1 : lessK a1 a2 s1 s2 n1 n2 = true) (h2 : lessK a2 a3 s2 s3 n2 n3 = true) : lessK a1 a3 s1 s3 n1 n3 = true := by
  unfold lessK at *
  by_cases e1 : a1 = a2
  · subst e1
    by_cases e2 : a1 = a3
    · subst e2
      simp only [if_true] at h1 h2 ⊢
      by_cases f1 : s1 = s2
      · subst f1
        by_cases f2 : s1 = s3
        · subst f2
          simp at h1 h2 ⊢; omega
        · simp only [f2, if_false] at h2 ⊢; exact h2
      · by_cases f2 : s2 = s3
        · subst f2
          simp only [f1, if_false] at h1 ⊢; exact h1
        · simp only [f1, f2, if_false] at h1 h2
          have ht : ltB s1 s3 = true := lessL_trans _ _ _ h1 h2
          have hne : s1 ≠ s3 := by
            rintro rfl
            rcases ltB_tri s1 s2 with ⟨t1, t2, t3⟩ | ⟨t1, t2, t3⟩ | ⟨t1, t2, t3⟩
            · rw [t2] at h2; cases h2
            · rw [t1] at h1; cases h1
            · exact f1 t3
          simp only [hne, if_false]; exact ht
    · simp only [e2, if_false] at h2 ⊢; exact h2
  · by_cases e2 : a2 = a3
    · subst e2
      simp only [e1, if_false] at h1 ⊢; exact h1
    · simp only [e1, e2, if_false, decide_eq_true_eq] at h1 h2
      have : a1 ≠ a3 := by omega
      simp only [this, if_false, decide_eq_true_eq]; omega
theorem strs_ne (a b : ByteArray) (h : ¬ a = b) : (a.toList == b.toList) = false ∧ (a.toList != b.toList) = true := by
  have h1 : (a.toList == b.toList) = false := by rw [eqB]; simpa using h
  exact ⟨h1, by simp [bne, h1]⟩
set_option maxRecDepth 100000 in
theorem less_any (s1 : ByteArray) (n1 a1 k1 : Int) (p1 i1 : ByteArray) (v1 : Int) (t1 : ByteArray) (s2 : ByteArray) (n2 a2 k2 : Int) (p2 i2 : ByteArray) (v2 : Int) (t2 : ByteArray) (w : World) :
    Calls Tryd.prog 25 #[.agg #[.string s1, .int .i64 n1, .int .i64 a1, .int .i64 k1, .string p1, .string i1, .int .i64 v1, .string t1], .agg #[.string s2, .int .i64 n2, .int .i64 a2, .int .i64 k2, .string p2, .string i2, .int .i64 v2, .string t2]] w fun e w' => e = .returned (.bool (lessK a1 a2 s1 s2 n1 n2)) ∧ Below w.heap.size w w' := by
  by_cases h1 : a1 = a2
  · subst h1
    by_cases h2 : s1 = s2
    · subst h2
      have e : lessK a1 a1 s1 s1 n1 n2 = decide (n1 < n2) := by unfold lessK; simp
      rw [e]
      clear e
      go_enter Tryd.func25, Tryd.ntmps25
      go_wp2
      go_ret
      exact ⟨rfl, ((Below.refl _ _).alloc (by simp) _).alloc (by simp) _⟩
    · have e : lessK a1 a1 s1 s2 n1 n2 = ltB s1 s2 := by unfold lessK; simp [h2]
      rw [e]
      obtain ⟨u1, u2⟩ := strs_ne s1 s2 h2
      clear e h2
      unfold ltB
      go_enter Tryd.func25, Tryd.ntmps25
      go_wp2
      go_ret
      exact ⟨rfl, ((Below.refl _ _).alloc (by simp) _).alloc (by simp) _⟩
  · have e : lessK a1 a2 s1 s2 n1 n2 = decide (a1 < a2) := by unfold lessK; simp [h1]
    rw [e]
    have u1 : (a1 == a2) = false := by simpa using h1
    have u2 : (a1 != a2) = true := by simpa using h1
    clear e h1
    go_enter Tryd.func25, Tryd.ntmps25
    go_wp2
    go_ret
    exact ⟨rfl, ((Below.refl _ _).alloc (by simp) _).alloc (by simp) _⟩
set_option maxRecDepth 100000 in
theorem compare_any (s1 : ByteArray) (n1 a1 k1 : Int) (p1 i1 : ByteArray) (v1 : Int) (t1 : ByteArray) (s2 : ByteArray) (n2 a2 k2 : Int) (p2 i2 : ByteArray) (v2 : Int) (t2 : ByteArray) (w : World) :
    Calls Tryd.prog 26 #[.agg #[.string s1, .int .i64 n1, .int .i64 a1, .int .i64 k1, .string p1, .string i1, .int .i64 v1, .string t1], .agg #[.string s2, .int .i64 n2, .int .i64 a2, .int .i64 k2, .string p2, .string i2, .int .i64 v2, .string t2]] w fun e w' => e = .returned (.int .i64 (cmpK a1 a2 s1 s2 n1 n2)) ∧ Below w.heap.size w w' := by
  by_cases h1 : a1 = a2
  · subst h1
    by_cases h2 : s1 = s2
    · subst h2
      have e : cmpK a1 a1 s1 s1 n1 n2 = Lib.compareInt n1 n2 := by unfold cmpK; simp
      rw [e]
      clear e
      go_enter Tryd.func26, Tryd.ntmps26
      go_wp2_with (go_at_call 50; refine (Tryd.cmp_Compare_int _ _ _).mono ?_; rintro e w' ⟨rfl, rfl⟩)
      go_ret
      exact ⟨rfl, ((Below.refl _ _).alloc (by simp) _).alloc (by simp) _⟩
    · have e : cmpK a1 a1 s1 s2 n1 n2 = Lib.compareBytes s1.data.toList s2.data.toList := by unfold cmpK; simp [h2]
      rw [e]
      obtain ⟨u1, u2⟩ := strs_ne s1 s2 h2
      clear e h2
      go_enter Tryd.func26, Tryd.ntmps26
      go_wp2_with (go_at_call 51; refine (Tryd.strings_Compare _ _ _).mono ?_; rintro e w' ⟨rfl, rfl⟩)
      go_ret
      exact ⟨rfl, ((Below.refl _ _).alloc (by simp) _).alloc (by simp) _⟩
  · have e : cmpK a1 a2 s1 s2 n1 n2 = Lib.compareInt a1 a2 := by unfold cmpK; simp [h1]
    rw [e]
    have u1 : (a1 == a2) = false := by simpa using h1
    have u2 : (a1 != a2) = true := by simpa using h1
    clear e h1
    go_enter Tryd.func26, Tryd.ntmps26
    go_wp2_with (go_at_call 50; refine (Tryd.cmp_Compare_int _ _ _).mono ?_; rintro e w' ⟨rfl, rfl⟩)
    go_ret
    exact ⟨rfl, ((Below.refl _ _).alloc (by simp) _).alloc (by simp) _⟩
set_option maxRecDepth 100000 in
theorem same_eq (s1 : ByteArray) (n1 a1 k1 : Int) (p1 i1 : ByteArray) (v1 : Int) (t1 : ByteArray) (n2 a2 k2 : Int) (p2 i2 : ByteArray) (v2 : Int) (t2 : ByteArray) (w : World) :
    Calls Tryd.prog 27 #[.agg #[.string s1, .int .i64 n1, .int .i64 a1, .int .i64 k1, .string p1, .string i1, .int .i64 v1, .string t1], .agg #[.string s1, .int .i64 n2, .int .i64 a2, .int .i64 k2, .string p2, .string i2, .int .i64 v2, .string t2]] w fun e w' => e = .returned (.bool (n1 == n2)) ∧ Below w.heap.size w w' := by
  go_enter Tryd.func27, Tryd.ntmps27
  go_wp2
  go_ret
  exact ⟨rfl, ((Below.refl _ _).alloc (by simp) _).alloc (by simp) _⟩
set_option maxRecDepth 100000 in
theorem same_ne (s1 : ByteArray) (n1 a1 k1 : Int) (p1 i1 : ByteArray) (v1 : Int) (t1 : ByteArray) (s2 : ByteArray) (n2 a2 k2 : Int) (p2 i2 : ByteArray) (v2 : Int) (t2 : ByteArray) (u1 : (s1.toList == s2.toList) = false) (w : World) :
    Calls Tryd.prog 27 #[.agg #[.string s1, .int .i64 n1, .int .i64 a1, .int .i64 k1, .string p1, .string i1, .int .i64 v1, .string t1], .agg #[.string s2, .int .i64 n2, .int .i64 a2, .int .i64 k2, .string p2, .string i2, .int .i64 v2, .string t2]] w fun e w' => e = .returned (.bool false) ∧ Below w.heap.size w w' := by
  go_enter Tryd.func27, Tryd.ntmps27
  go_wp2
  go_ret
  exact ⟨rfl, ((Below.refl _ _).alloc (by simp) _).alloc (by simp) _⟩
end Go.Proofs.YthfhfekneahonaaDoor
