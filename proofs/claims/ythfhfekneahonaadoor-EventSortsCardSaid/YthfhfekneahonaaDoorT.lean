/- What a text is, plainly. -/
import Derived.Test.YthfhfekneahonaaDoorR
namespace Go.Proofs.YthfhfekneahonaaDoor
open Go.RowKit
set_option linter.unusedVariables false
/-- No blank in it. -/
def NoBl (l : List UInt8) : Prop := ∀ x ∈ l, x ≠ 32
theorem line8_parts {a b c d e f g h : List UInt8} (ha : NoBl a) (hb : NoBl b) (hc : NoBl c) (hd : NoBl d) (he : NoBl e) (hf : NoBl f) (hg : NoBl g) (hh : NoBl h) : parts 32 (line8 a b c d e f g h) = [a, b, c, d, e, f, g, h] := by
  have e1 : line8 a b c d e f g h = a ++ 32 :: (b ++ 32 :: (c ++ 32 :: (d ++ 32 :: (e ++ 32 :: (f ++ 32 :: (g ++ 32 :: h)))))) := by unfold line8; simp
  rw [e1, parts_cut 32 a _ ha, parts_cut 32 b _ hb, parts_cut 32 c _ hc, parts_cut 32 d _ hd, parts_cut 32 e _ he, parts_cut 32 f _ hf, parts_cut 32 g _ hg, parts_none 32 h hh]
theorem name_bytes {s : ByteArray} (h : nameB s = true) : ∀ x ∈ s.data.toList, nbN x.toNat = true := by
  unfold nameB at h
  rw [Bool.and_eq_true] at h
  exact List.all_eq_true.1 h.2
theorem nbN_ne {x : UInt8} (h : nbN x.toNat = true) : x ≠ 32 ∧ x ≠ 46 ∧ x ≠ 59 ∧ x ≠ 44 := by
  refine ⟨?_, ?_, ?_, ?_⟩ <;> (rintro rfl; revert h; decide)
theorem name_nobl {s : ByteArray} (h : nameB s = true) : NoBl s.data.toList := fun x hx => (nbN_ne (name_bytes h x hx)).1
theorem name_nopt {s : ByteArray} (h : nameB s = true) : s.data.toList ≠ [46] := fun e => (nbN_ne (name_bytes h 46 (by rw [e]; simp))).2.1 rfl
theorem mem_pF (c : UInt8) : ∀ (l : List UInt8) (o : List (List UInt8)) (u : List UInt8) (x : UInt8), (x ∈ l ∨ x ∈ u ∨ ∃ p ∈ o, x ∈ p) → x = c ∨ x ∈ (pF c (o, u) l).2 ∨ ∃ p ∈ (pF c (o, u) l).1, x ∈ p
  | [], o, u, x, h => by
    right
    rcases h with h | h
    · cases h
    · exact h
  | y :: l, o, u, x, h => by
    unfold pF
    rw [List.foldl_cons]
    by_cases hy : y = c
    · rw [if_pos hy]
      have ih := mem_pF c l (o ++ [u]) [] x
      unfold pF at ih
      simp only at ih ⊢
      rcases h with h | h | ⟨p, hp, h⟩
      · rcases List.mem_cons.1 h with e | h
        · left; rw [e, hy]
        · exact ih (.inl h)
      · exact ih (.inr (.inr ⟨u, by simp, h⟩))
      · exact ih (.inr (.inr ⟨p, by simp [hp], h⟩))
    · rw [if_neg hy]
      have ih := mem_pF c l o (u ++ [y]) x
      unfold pF at ih
      simp only at ih ⊢
      rcases h with h | h | h
      · rcases List.mem_cons.1 h with e | h
        · exact ih (.inr (.inl (by simp [e])))
        · exact ih (.inl h)
      · exact ih (.inr (.inl (by simp [h])))
      · exact ih (.inr (.inr h))
theorem mem_parts {c : UInt8} {l : List UInt8} {x : UInt8} (h : x ∈ l) : x = c ∨ ∃ p ∈ parts c l, x ∈ p := by
  rcases mem_pF c l [] [] x (.inl h) with h | h | ⟨p, hp, h⟩
  · exact .inl h
  · exact .inr ⟨_, by unfold parts; simp, h⟩
  · exact .inr ⟨p, by unfold parts; simp [hp], h⟩
theorem tags_all {xs : List ByteArray} (h : risB xs = true) : ∀ x ∈ xs, nameB x = true := by
  unfold risB at h
  rw [Bool.and_eq_true] at h
  intro x hx
  obtain ⟨k, hk, e⟩ := List.getElem_of_mem hx
  have h2 := h.2
  unfold tagsTo at h2
  rw [List.all_eq_true] at h2
  have h3 := h2 k (by simpa using hk)
  unfold tagAt at h3
  rw [getD_of hk, Bool.and_eq_true, e] at h3
  exact h3.1
theorem lab_bytes {s : ByteArray} (h : labB s = true) : ∀ x ∈ s.data.toList, x = 59 ∨ x = 44 ∨ nbN x.toNat = true := by
  unfold labB at h
  rw [Bool.and_eq_true, Bool.and_eq_true] at h
  obtain ⟨⟨h1, h2⟩, h3⟩ := h
  intro x hx
  rcases idx_cases 59 s.data.toList with e | ⟨i, e⟩
  · rw [(cut_no e).2.2] at h1; cases h1
  · obtain ⟨e1, e2, _⟩ := cut_yes e
    obtain ⟨q1, q2⟩ := at_split 59 s.data.toList i e
    rw [q1] at hx
    rcases List.mem_append.1 hx with hx | hx
    · right; right
      refine name_bytes h2 x ?_
      rw [e1, Lib.extract_from_zero]; exact hx
    · rcases List.mem_cons.1 hx with hx | hx
      · exact .inl hx
      · right
        have et : (tlB s).data.toList = s.data.toList.drop (i + 1) := by rw [e2, Lib.extract_to_end]
        by_cases hz : (tlB s).size = 0
        · have : (tlB s).data.toList = [] := by rw [List.eq_nil_iff_length_eq_zero]; simpa using hz
          rw [← et, this] at hx; cases hx
        · rw [tags_some hz] at h3
          rw [← et] at hx
          rcases mem_parts (c := 44) hx with e | ⟨p, hp, hx⟩
          · exact .inl e
          · right
            have hn := tags_all h3 (bs p) (by unfold partsB; exact List.mem_map.2 ⟨p, hp, rfl⟩)
            exact name_bytes hn x (by rw [bs_data]; exact hx)
theorem lab_nobl {s : ByteArray} (h : labB s = true) : NoBl s.data.toList := fun x hx => by
  rcases lab_bytes h x hx with rfl | rfl | h
  · decide
  · decide
  · exact (nbN_ne h).1
theorem lab_nopt {s : ByteArray} (h : labB s = true) : s.data.toList ≠ [46] := fun e => by
  rcases lab_bytes h 46 (by rw [e]; simp) with h | h | h
  · exact absurd h (by decide)
  · exact absurd h (by decide)
  · exact (nbN_ne h).2.1 rfl
/-- A text that a field may have: none, or one without a blank that isn't a point. -/
def FieldOk (s : ByteArray) : Prop := s.size = 0 ∨ (NoBl s.data.toList ∧ s.data.toList ≠ [46])
theorem non_field {b : Bool} {s : ByteArray} (h : nonB b s = true) : FieldOk s := by
  cases b
  · have : decide (s.size = 0) = true := h
    exact .inl (by simpa only [decide_eq_true_eq] using this)
  · exact .inr ⟨name_nobl h, name_nopt h⟩
theorem word_field {tx : Int} {s : ByteArray} (h : wordB tx s = true) : FieldOk s := by
  unfold wordB at h
  split at h
  · exact .inr ⟨name_nobl h, name_nopt h⟩
  · split at h
    · exact .inr ⟨lab_nobl h, lab_nopt h⟩
    · exact .inl (by simpa only [decide_eq_true_eq] using h)
theorem pt_nobl {s : ByteArray} (h : FieldOk s) : NoBl (pt s).data.toList := by
  unfold pt
  split
  · intro x hx
    have : x = 46 := by simpa using hx
    rw [this]; decide
  · rcases h with h | h
    · contradiction
    · exact h.1
theorem pt_inj {a b : ByteArray} (ha : FieldOk a) (hb : FieldOk b) (h : (pt a).data.toList = (pt b).data.toList) : a = b := by
  unfold pt at h
  by_cases h1 : a.size = 0
  · by_cases h2 : b.size = 0
    · have e1 : a.data.toList = [] := by rw [List.eq_nil_iff_length_eq_zero]; simpa using h1
      have e2 : b.data.toList = [] := by rw [List.eq_nil_iff_length_eq_zero]; simpa using h2
      exact ba_ext (e1.trans e2.symm)
    · rw [if_pos h1, if_neg h2] at h
      rcases hb with hb | hb
      · contradiction
      · exact absurd h.symm hb.2
  · by_cases h2 : b.size = 0
    · rw [if_neg h1, if_pos h2] at h
      rcases ha with ha | ha
      · contradiction
      · exact absurd h ha.2
    · rw [if_neg h1, if_neg h2] at h
      exact ba_ext h
/-- The number that digits are. -/
def valL (l : List UInt8) : Nat := l.foldl (fun a c => 10 * a + (c.toNat - 48)) 0
theorem valL_snoc (l : List UInt8) (c : UInt8) : valL (l ++ [c]) = 10 * valL l + (c.toNat - 48) := by unfold valL; rw [List.foldl_append]; rfl
theorem dig_toNat {u : Nat} (h : u < 10) : (UInt8.ofNat (48 + u)).toNat = 48 + u := by simp; omega
theorem valL_dec (n : Nat) : valL (Lib.decDigits n) = n := by
  induction n using Nat.strongRecOn with
  | _ n ih =>
    by_cases h : n < 10
    · rw [dec_small h]
      show 10 * 0 + ((UInt8.ofNat (48 + n)).toNat - 48) = n
      rw [dig_toNat h]; omega
    · rw [dec_big h, valL_snoc, ih (n / 10) (by omega), dig_toNat (by omega)]; omega
theorem dec_digits (n : Nat) : ∀ x ∈ Lib.decDigits n, 48 ≤ x.toNat ∧ x.toNat ≤ 57 := by
  induction n using Nat.strongRecOn with
  | _ n ih =>
    by_cases h : n < 10
    · rw [dec_small h]
      intro x hx
      obtain rfl : x = UInt8.ofNat (48 + n) := by simpa using hx
      rw [dig_toNat h]; omega
    · rw [dec_big h]
      intro x hx
      rcases List.mem_append.1 hx with hx | hx
      · exact ih (n / 10) (by omega) x hx
      · obtain rfl : x = UInt8.ofNat (48 + n % 10) := by simpa using hx
        rw [dig_toNat (by omega)]; omega
theorem dec_nobl (n : Nat) : NoBl (Lib.decDigits n) := fun x hx e => by
  have := dec_digits n x hx
  rw [e] at this
  exact absurd this.1 (by decide)
theorem words_nobl : ∀ k, k < 15 → (kR k).word.all (fun x => x != 32) = true := by decide
theorem words_inj : ∀ i, i < 15 → ∀ j, j < 15 → (kR i).word = (kR j).word → i = j := by decide
theorem word_nobl {k : Nat} (h : k < 15) : NoBl (kR k).word := fun x hx e => by
  have := List.all_eq_true.1 (words_nobl k h) x hx
  rw [e] at this
  exact absurd this (by decide)
/-- The eight words of an event. -/
def evWords (e : Ev) : List (List UInt8) := [e.s.data.toList, Lib.decDigits e.n.toNat, Lib.decDigits e.a.toNat, (kR e.k.toNat).word, (pt e.p).data.toList, (pt e.i).data.toList, Lib.decDigits e.v.toNat, (pt e.t).data.toList]
theorem may_fields {e : Ev} (h : mayB e = true) : nameB e.s = true ∧ FieldOk e.p ∧ FieldOk e.i ∧ FieldOk e.t := by
  unfold mayB headB restB at h
  simp only [Bool.and_eq_true, decide_eq_true_eq] at h
  obtain ⟨⟨⟨⟨⟨⟨h1, h2⟩, h3⟩, h4⟩, h5⟩, h6, h7⟩, h8, h9, h10, h11, h12⟩ := h
  exact ⟨h1, non_field h8, non_field h9, word_field h12⟩
theorem fmt_parts {e : Ev} (h : mayB e = true) : parts 32 (fmtL e) = evWords e := by
  obtain ⟨h1, h2, h3, h4⟩ := may_fields h
  have hf := fit_of h
  exact line8_parts (name_nobl h1) (dec_nobl _) (dec_nobl _) (word_nobl (by have := hf.k; omega)) (pt_nobl h2) (pt_nobl h3) (dec_nobl _) (pt_nobl h4)
theorem words_eq {a b : Ev} (ha : mayB a = true) (hb : mayB b = true) (h : evWords a = evWords b) : a = b := by
  obtain ⟨h1, h2, h3, h4⟩ := may_fields ha
  obtain ⟨g1, g2, g3, g4⟩ := may_fields hb
  have fa := fit_of ha
  have fb := fit_of hb
  unfold evWords at h
  simp only [List.cons.injEq, and_true] at h
  obtain ⟨e1, e2, e3, e4, e5, e6, e7, e8⟩ := h
  have n1 := congrArg valL e2
  have n2 := congrArg valL e3
  have n3 := congrArg valL e7
  rw [valL_dec, valL_dec] at n1 n2 n3
  have k1 := words_inj _ (by have := fa.k; omega) _ (by have := fb.k; omega) e4
  have q1 := fa.n; have q2 := fb.n; have q3 := fa.a; have q4 := fb.a; have q5 := fa.k; have q6 := fb.k; have q7 := fa.v; have q8 := fb.v
  have z1 := ba_ext e1
  have z2 := pt_inj h2 g2 e5
  have z3 := pt_inj h3 g3 e6
  have z4 := pt_inj h4 g4 e8
  obtain ⟨s, n, x, k, p, i, v, t⟩ := a
  obtain ⟨s', n', x', k', p', i', v', t'⟩ := b
  simp only at *
  subst z1 z2 z3 z4
  have y1 : n = n' := by omega
  have y2 : x = x' := by omega
  have y3 : k = k' := by omega
  have y4 : v = v' := by omega
  subst y1 y2 y3 y4
  rfl
theorem fmt_inj {a b : Ev} (ha : mayB a = true) (hb : mayB b = true) (h : fmtL a = fmtL b) : a = b :=
  words_eq ha hb (by rw [← fmt_parts ha, ← fmt_parts hb, h])
end Go.Proofs.YthfhfekneahonaaDoor
