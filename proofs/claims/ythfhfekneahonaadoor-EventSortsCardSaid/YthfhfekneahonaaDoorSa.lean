/- A stable sort, plainly: of places by where they stood. -/
import Derived.Sort.LotA
namespace Go.Proofs.YthfhfekneahonaaDoor
open Go.Sort (swp swp_get PermIn SortedIn SWO permIn_refl permIn_trans permIn_mono permIn_all swp_permIn insInner insOuter insertionSort insInner_spec insOuter_spec insertionSort_holds)
set_option linter.unusedVariables false
/-- Ahead: less, or not told apart and of an earlier place. -/
def prec (lt : Nat → Nat → Bool) (x y : Nat) : Bool := lt x y || (!lt y x && decide (x < y))
theorem prec_swo {lt : Nat → Nat → Bool} (h : SWO lt) : SWO (prec lt) := by
  have asy : ∀ x y, lt x y = true → lt y x = false := fun x y hxy => h.asymmA hxy
  refine ⟨fun x => ?_, fun x y z h1 h2 => ?_, fun x y z h1 h2 => ?_⟩
  · unfold prec; rw [h.irrefl]; simp
  · unfold prec at *
    simp only [Bool.or_eq_true, Bool.and_eq_true, Bool.not_eq_true', decide_eq_true_eq] at *
    rcases h1 with h1 | ⟨h1, h1'⟩
    · rcases h2 with h2 | ⟨h2, h2'⟩
      · exact .inl (h.trans _ _ _ h1 h2)
      · left
        cases hxz : lt x z with
        | true => rfl
        | false => have := h.ntrans _ _ _ hxz h2; rw [this] at h1; cases h1
    · rcases h2 with h2 | ⟨h2, h2'⟩
      · left
        cases hxz : lt x z with
        | true => rfl
        | false => have := h.ntrans _ _ _ h1 hxz; rw [this] at h2; cases h2
      · right
        exact ⟨h.ntrans _ _ _ h2 h1, by omega⟩
  · unfold prec at *
    simp only [Bool.or_eq_false_iff, Bool.and_eq_false_iff, Bool.not_eq_false', decide_eq_false_iff_not] at *
    obtain ⟨a1, a2⟩ := h1
    obtain ⟨b1, b2⟩ := h2
    have c1 := h.ntrans _ _ _ a1 b1
    refine ⟨c1, ?_⟩
    rcases a2 with a2 | a2
    · left
      cases hzx : lt z x with
      | true => rfl
      | false => have := h.ntrans _ _ _ b1 hzx; rw [this] at a2; cases a2
    · rcases b2 with b2 | b2
      · left
        cases hzx : lt z x with
        | true => rfl
        | false => have := h.ntrans _ _ _ hzx a1; rw [this] at b2; cases b2
      · right; omega
theorem prec_total {lt : Nat → Nat → Bool} {x y : Nat} (h1 : prec lt x y = false) (h2 : prec lt y x = false) : x = y := by
  unfold prec at *
  simp only [Bool.or_eq_false_iff, Bool.and_eq_false_iff, Bool.not_eq_false', decide_eq_false_iff_not] at *
  obtain ⟨a1, a2⟩ := h1
  obtain ⟨b1, b2⟩ := h2
  rcases a2 with a2 | a2
  · rw [a2] at b1; cases b1
  · rcases b2 with b2 | b2
    · rw [b2] at a1; cases a1
    · omega
theorem prec_late {lt : Nat → Nat → Bool} {x y : Nat} (h : y < x) : prec lt x y = lt x y := by
  unfold prec
  rw [show decide (x < y) = false by simp; omega]; simp
theorem prec_early {lt : Nat → Nat → Bool} (hs : SWO lt) {x y : Nat} (h : x < y) : prec lt x y = !lt y x := by
  unfold prec
  rw [show decide (x < y) = true by simp; omega]
  cases hx : lt x y
  · simp
  · rw [hs.asymmA hx]; simp
/-- Two runs that stand side by side have changed places. -/
def Rot (d r : Array Nat) (lo m hi : Nat) : Prop := r.size = d.size ∧ (∀ t, lo ≤ t → t < lo + (hi - m) → r[t]! = d[m + (t - lo)]!) ∧ (∀ t, lo + (hi - m) ≤ t → t < hi → r[t]! = d[t - (hi - m)]!) ∧ (∀ t, t < lo ∨ hi ≤ t → r[t]! = d[t]!)
theorem rot_none_l (d : Array Nat) (m hi : Nat) (h : m ≤ hi) : Rot d d m m hi := ⟨rfl, fun t h1 h2 => by rw [show m + (t - m) = t by omega], fun t h1 h2 => by omega, fun _ _ => rfl⟩
theorem rot_none_r (d : Array Nat) (lo m : Nat) (h : lo ≤ m) : Rot d d lo m m := ⟨rfl, fun t h1 h2 => by omega, fun t h1 h2 => by rw [show t - (m - m) = t by omega], fun _ _ => rfl⟩
/-- The first n of two runs apart have changed places. -/
def Chg (d r : Array Nat) (a b n : Nat) : Prop := r.size = d.size ∧ (∀ t, t < n → r[a + t]! = d[b + t]!) ∧ (∀ t, t < n → r[b + t]! = d[a + t]!) ∧ (∀ t, (t < a ∨ a + n ≤ t) → (t < b ∨ b + n ≤ t) → r[t]! = d[t]!)
theorem chg_zero (d : Array Nat) (a b : Nat) : Chg d d a b 0 := ⟨rfl, fun t h => by omega, fun t h => by omega, fun _ _ _ => rfl⟩
theorem chg_succ {d r : Array Nat} {a b n : Nat} (h : Chg d r a b n) (hab : a + n < b) (hb : b + n < d.size) : Chg d (swp r (a + n) (b + n)) a b (n + 1) := by
  obtain ⟨h0, h1, h2, h3⟩ := h
  have g := swp_get r (i := a + n) (j := b + n) (by omega) (by omega)
  refine ⟨by rw [Go.Sort.swp_size, h0], fun t ht => ?_, fun t ht => ?_, fun t ha hb2 => ?_⟩
  · rw [g, if_neg (by omega)]
    by_cases e : t = n
    · subst e; rw [if_pos rfl]; exact h3 _ (by omega) (by omega)
    · rw [if_neg (by omega)]; exact h1 t (by omega)
  · rw [g]
    by_cases e : t = n
    · subst e; rw [if_pos rfl]; exact h3 _ (by omega) (by omega)
    · rw [if_neg (by omega), if_neg (by omega)]; exact h2 t (by omega)
  · rw [g, if_neg (by omega), if_neg (by omega)]; exact h3 t (by omega) (by omega)
/-- The end of a rotation: both runs are of one length. -/
theorem rot_same {d r : Array Nat} {m i : Nat} (hi : i ≤ m) (h : Chg d r (m - i) m i) : Rot d r (m - i) m (m + i) := by
  obtain ⟨h0, h1, h2, h3⟩ := h
  refine ⟨h0, fun t ha hb => ?_, fun t ha hb => ?_, fun t ht => h3 t (by omega) (by omega)⟩
  · have := h1 (t - (m - i)) (by omega)
    rw [show m - i + (t - (m - i)) = t by omega] at this
    exact this
  · have := h2 (t - m) (by omega)
    rw [show m + (t - m) = t by omega] at this
    rw [this]; congr 1; omega
/-- A round of a rotation: the left run is longer. -/
theorem rot_left {d r q : Array Nat} {m i j : Nat} (hi : i ≤ m) (hj : j < i) (h : Chg d r (m - i) m j) (hq : Rot r q (m - (i - j)) m (m + j)) : Rot d q (m - i) m (m + j) := by
  obtain ⟨h0, h1, h2, h3⟩ := h
  obtain ⟨q0, q1, q2, q3⟩ := hq
  refine ⟨by rw [q0, h0], fun t ha hb => ?_, fun t ha hb => ?_, fun t ht => ?_⟩
  · rw [q3 t (by omega)]
    have := h1 (t - (m - i)) (by omega)
    rw [show m - i + (t - (m - i)) = t by omega] at this
    exact this
  · by_cases hc : t < m - (i - j) + (m + j - m)
    · rw [q1 t (by omega) hc]
      have := h2 (t - (m - (i - j))) (by omega)
      rw [this]; congr 1; omega
    · rw [q2 t (by omega) hb, h3 _ (by omega) (by omega)]
  · rw [q3 t (by omega), h3 t (by omega) (by omega)]
/-- .. the right run is longer. -/
theorem rot_right {d r q : Array Nat} {m i j : Nat} (hi : i ≤ m) (hj : i < j) (h : Chg d r (m - i) (m + j - i) i) (hq : Rot r q (m - i) m (m + (j - i))) : Rot d q (m - i) m (m + j) := by
  obtain ⟨h0, h1, h2, h3⟩ := h
  obtain ⟨q0, q1, q2, q3⟩ := hq
  refine ⟨by rw [q0, h0], fun t ha hb => ?_, fun t ha hb => ?_, fun t ht => ?_⟩
  · by_cases hc : t < m - i + (m + (j - i) - m)
    · rw [q1 t (by omega) hc, h3 _ (by omega) (by omega)]
    · rw [q2 t (by omega) (by omega)]
      have := h1 (t - (m + (j - i) - m) - (m - i)) (by omega)
      rw [show m - i + (t - (m + (j - i) - m) - (m - i)) = t - (m + (j - i) - m) by omega] at this
      rw [this]; congr 1; omega
  · rw [q3 t (by omega)]
    have := h2 (t - (m + j - i)) (by omega)
    rw [show m + j - i + (t - (m + j - i)) = t by omega] at this
    rw [this]; congr 1; omega
  · rw [q3 t (by omega), h3 t (by omega) (by omega)]
section
variable {lt : Nat → Nat → Bool}
theorem sorted_join {p : Nat → Nat → Bool} {r : Array Nat} {a c b : Nat} (h1 : SortedIn p a c r) (h2 : SortedIn p c b r) (h3 : ∀ s t, a ≤ s → s < c → c ≤ t → t < b → p r[t]! r[s]! = false) : SortedIn p a b r := by
  intro i j ha hij hj
  by_cases hc : j < c
  · exact h1 i j ha hij hc
  · by_cases hc2 : i < c
    · exact h3 i j ha hc2 (by omega) hj
    · exact h2 i j (by omega) hij hj
theorem sorted_rot_l {p : Nat → Nat → Bool} {d r : Array Nat} {a lo m hi b : Nat} (hr : Rot d r lo m hi) (h1 : SortedIn p a m d) (h2 : SortedIn p m b d) (ha : a ≤ lo) (hm : lo ≤ m) (hh : m ≤ hi) (hb : hi ≤ b) : SortedIn p a lo r ∧ SortedIn p lo (lo + (hi - m)) r ∧ SortedIn p (lo + (hi - m)) hi r ∧ SortedIn p hi b r := by
  obtain ⟨r0, r1, r2, r3⟩ := hr
  refine ⟨fun i j x y z => ?_, fun i j x y z => ?_, fun i j x y z => ?_, fun i j x y z => ?_⟩
  · rw [r3 i (by omega), r3 j (by omega)]; exact h1 i j x y (by omega)
  · rw [r1 i (by omega) (by omega), r1 j (by omega) (by omega)]; exact h2 _ _ (by omega) (by omega) (by omega)
  · rw [r2 i (by omega) (by omega), r2 j (by omega) (by omega)]; exact h1 _ _ (by omega) (by omega) (by omega)
  · rw [r3 i (by omega), r3 j (by omega)]; exact h2 i j (by omega) y z
/-- Behind a rotation what stands left of where it turned is ahead of what stands right of it. -/
theorem cross_rot {p : Nat → Nat → Bool} {d r : Array Nat} {a lo m hi b : Nat} (hr : Rot d r lo m hi) (h1 : SortedIn p a m d) (h2 : SortedIn p m b d) (ha : a ≤ lo) (hm : lo ≤ m) (hh : m ≤ hi) (hb : hi ≤ b)
    (c1 : ∀ s t, a ≤ s → s < lo → hi ≤ t → t < b → p d[t]! d[s]! = false) (c2 : ∀ s t, lo ≤ s → s < m → m ≤ t → t < hi → p d[s]! d[t]! = false) :
    ∀ s t, a ≤ s → s < lo + (hi - m) → lo + (hi - m) ≤ t → t < b → p r[t]! r[s]! = false := by
  obtain ⟨r0, r1, r2, r3⟩ := hr
  intro s t x1 x2 x3 x4
  by_cases hs : s < lo
  · rw [r3 s (by omega)]
    by_cases ht : t < hi
    · rw [r2 t x3 ht]; exact h1 _ _ x1 (by omega) (by omega)
    · rw [r3 t (by omega)]; exact c1 s t x1 hs (by omega) x4
  · rw [r1 s (by omega) x2]
    by_cases ht : t < hi
    · rw [r2 t x3 ht]; exact c2 _ _ (by omega) (by omega) (by omega) (by omega)
    · rw [r3 t (by omega)]; exact h2 _ _ (by omega) (by omega) x4
/-- One alone at the left, put behind those that are less. -/
theorem merge_one_l {d r : Array Nat} {a i b : Nat} (hS : SWO lt) (hX : ∀ s t, a ≤ s → s < a + 1 → a + 1 ≤ t → t < b → d[s]! < d[t]!) (h2 : SortedIn (prec lt) (a + 1) b d) (hi : a + 1 ≤ i) (hib : i ≤ b)
    (l1 : ∀ t, a + 1 ≤ t → t < i → lt d[t]! d[a]! = true) (l2 : ∀ t, i ≤ t → t < b → lt d[t]! d[a]! = false) (hr : Rot d r a (a + 1) i) : SortedIn (prec lt) a b r := by
  have h1 : SortedIn (prec lt) a (a + 1) d := fun i j _ _ _ => by omega
  have P := prec_swo hS
  obtain ⟨s1, s2, s3, s4⟩ := sorted_rot_l hr h1 h2 (Nat.le_refl _) (by omega) hi hib
  have hc := cross_rot hr h1 h2 (Nat.le_refl _) (by omega) hi hib (fun s t _ _ _ _ => by omega) (fun s t x1 x2 x3 x4 => by
    obtain rfl : s = a := by omega
    exact P.asymmA (by rw [prec_late (hX _ t (by omega) (by omega) x3 (by omega))]; exact l1 t x3 x4))
  refine sorted_join s2 (sorted_join s3 s4 (fun s t x1 x2 x3 x4 => ?_)) hc
  obtain ⟨r0, r1, r2, r3⟩ := hr
  rw [r2 s x1 x2, r3 t (by omega)]
  obtain e : s - (i - (a + 1)) = a := by omega
  rw [e, prec_late (hX a t (by omega) (by omega) (by omega) x4)]
  exact l2 t x3 x4
/-- One alone at the right, put ahead of those that it is less than. -/
theorem merge_one_r {d r : Array Nat} {a i m : Nat} (hS : SWO lt) (hX : ∀ s t, a ≤ s → s < m → m ≤ t → t < m + 1 → d[s]! < d[t]!) (h1 : SortedIn (prec lt) a m d) (hi : a ≤ i) (him : i ≤ m)
    (l1 : ∀ t, a ≤ t → t < i → lt d[m]! d[t]! = false) (l2 : ∀ t, i ≤ t → t < m → lt d[m]! d[t]! = true) (hr : Rot d r i m (m + 1)) : SortedIn (prec lt) a (m + 1) r := by
  have h2 : SortedIn (prec lt) m (m + 1) d := fun i j _ _ _ => by omega
  have P := prec_swo hS
  obtain ⟨s1, s2, s3, s4⟩ := sorted_rot_l hr h1 h2 hi him (by omega) (by omega)
  have hc := cross_rot hr h1 h2 hi him (by omega) (by omega) (fun s t _ _ _ _ => by omega) (fun s t x1 x2 x3 x4 => by
    obtain rfl : t = m := by omega
    exact P.asymmA (by rw [prec_late (hX s _ (by omega) (by omega) x3 (by omega))]; exact l2 s x1 x2))
  refine sorted_join (sorted_join s1 s2 (fun s t x1 x2 x3 x4 => ?_)) s3 hc
  obtain ⟨r0, r1, r2, r3⟩ := hr
  rw [r3 s (by omega), r1 t x3 x4]
  obtain e : m + (t - i) = m := by omega
  rw [e, prec_late (hX s m x1 (by omega) (by omega) (by omega))]
  exact l1 s x1 x2
/-- What is sorted by places, sorted by insertion: as by 'ahead'. -/
theorem insInner_prec (hS : SWO lt) (a : Nat) : ∀ (j : Nat) (d : Array Nat), j < d.size → (∀ t, a ≤ t → t < j → d[t]! < d[j]!) → insInner lt a j d = insInner (prec lt) a j d
  | 0, d, _, _ => rfl
  | j + 1, d, hj, h => by
    unfold insInner
    by_cases hja : j + 1 > a
    · have e : prec lt d[j + 1]! d[j]! = lt d[j + 1]! d[j]! := prec_late (h j (by omega) (by omega))
      rw [e]
      by_cases hl : (decide (j + 1 > a) && lt d[j + 1]! d[j]!) = true
      · rw [if_pos hl, if_pos hl]
        refine insInner_prec hS a j _ (by rw [Go.Sort.swp_size]; omega) (fun t h1 h2 => ?_)
        have g := swp_get d (i := j + 1) (j := j) hj (by omega)
        rw [g, g, if_neg (by omega), if_neg (by omega), if_pos rfl]
        exact h t h1 (by omega)
      · rw [if_neg hl, if_neg hl]
    · rw [show decide (j + 1 > a) = false by simp; omega]; simp
theorem insOuter_prec (hS : SWO lt) (a b : Nat) : ∀ (n i : Nat) (d : Array Nat), b - i = n → a < i → i ≤ b → b ≤ d.size → SortedIn (prec lt) a i d → (∀ s t, a ≤ s → s < t → i ≤ t → t < b → d[s]! < d[t]!) → insOuter lt a b i d = insOuter (prec lt) a b i d
  | 0, i, d, hn, _, _, _, _, _ => by
    rw [insOuter, if_neg (by omega), insOuter, if_neg (by omega)]
  | n + 1, i, d, hn, hai, hib, hb, hs, hX => by
    have hlt : i < b := by omega
    have e1 : insOuter lt a b i d = insOuter lt a b (i + 1) (insInner lt a i d) := by conv => lhs; rw [insOuter, if_pos hlt]
    have e2 : insOuter (prec lt) a b i d = insOuter (prec lt) a b (i + 1) (insInner (prec lt) a i d) := by conv => lhs; rw [insOuter, if_pos hlt]
    rw [e1, e2, insInner_prec hS a i d (by omega) (fun t h1 h2 => hX t i h1 h2 (Nat.le_refl _) hlt)]
    have h1 := insInner_spec (prec_swo hS) swp_permIn permIn_refl permIn_trans a (i + 1) i (by omega) i d (by omega) (Nat.le_refl _) (by omega) ⟨fun p q hap hpq hqi _ hq => hs p q hap hpq (by omega), fun q h1 h2 => by omega⟩
    refine insOuter_prec hS a b n (i + 1) _ (by omega) (by omega) (by omega) (by rw [h1.1.1]; exact hb) h1.2 (fun s t x1 x2 x3 x4 => ?_)
    rw [h1.1.2.1 t (by omega)]
    by_cases hsi : s < i + 1
    · exact permIn_all d _ a (i + 1) (fun v => v < d[t]!) (by omega) h1.1 (fun s x1 x2 => hX s t x1 (by omega) (by omega) x4) s x1 hsi
    · rw [h1.1.2.1 s (by omega)]
      exact hX s t x1 x2 (by omega) x4
theorem insertion_stable (hS : SWO lt) (d : Array Nat) (a b : Nat) (hab : a ≤ b) (hb : b ≤ d.size) (hX : ∀ s t, a ≤ s → s < t → t < b → d[s]! < d[t]!) : PermIn a b d (insertionSort lt d a b) ∧ SortedIn (prec lt) a b (insertionSort lt d a b) := by
  have e : insertionSort lt d a b = insertionSort (prec lt) d a b := by
    unfold insertionSort
    by_cases h : a = b
    · subst h
      rw [insOuter, if_neg (by omega), insOuter, if_neg (by omega)]
    · exact insOuter_prec hS a b (b - (a + 1)) (a + 1) d rfl (by omega) (by omega) hb (fun i j h1 h2 h3 => by omega) (fun s t x1 x2 x3 x4 => hX s t x1 x2 x4)
  rw [e]
  exact insertionSort_holds (prec_swo hS) d a b hab hb
/-- Sorted places of one list are one list. -/
theorem sorted_one (l1 l2 : List Nat) (h1 : l1.Pairwise (fun x y => prec lt y x = false)) (h2 : l2.Pairwise (fun x y => prec lt y x = false)) (hp : l1.Perm l2) : l1 = l2 :=
  List.Perm.eq_of_pairwise (fun a b _ _ x y => prec_total y x) h1 h2 hp
end
end Go.Proofs.YthfhfekneahonaaDoor
