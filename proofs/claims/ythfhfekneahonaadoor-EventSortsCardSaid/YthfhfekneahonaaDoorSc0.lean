/- A merge in place, plainly. -/
import Derived.Test.YthfhfekneahonaaDoorSa
namespace Go.Proofs.YthfhfekneahonaaDoor
open Go.Sort (swp swp_get PermIn SortedIn SWO permIn_refl permIn_trans permIn_mono permIn_all swp_permIn)
set_option linter.unusedVariables false
theorem rot_step_l {d r : Array Nat} {a k : Nat} (h : Rot d r a (a + 1) (k + 1)) (hk : a ≤ k) (hs : k + 1 < d.size) : Rot d (swp r k (k + 1)) a (a + 1) (k + 2) := by
  obtain ⟨r0, r1, r2, r3⟩ := h
  have g := swp_get r (i := k) (j := k + 1) (by omega) (by omega)
  refine ⟨by rw [Go.Sort.swp_size, r0], fun t x1 x2 => ?_, fun t x1 x2 => ?_, fun t x => ?_⟩
  · rw [g, if_neg (by omega)]
    by_cases e : t = k
    · subst e
      rw [if_pos rfl, r3 _ (by omega)]; congr 1; omega
    · rw [if_neg e, r1 t x1 (by omega)]
  · obtain rfl : t = k + 1 := by omega
    rw [g, if_pos rfl, r2 k (by omega) (by omega)]; congr 1; omega
  · rw [g, if_neg (by omega), if_neg (by omega), r3 t (by omega)]
theorem rot_step_r {d r : Array Nat} {k m : Nat} (h : Rot d r (k + 1) m (m + 1)) (hk : k + 1 ≤ m) (hs : m < d.size) : Rot d (swp r (k + 1) k) k m (m + 1) := by
  obtain ⟨r0, r1, r2, r3⟩ := h
  have g := swp_get r (i := k + 1) (j := k) (by omega) (by omega)
  refine ⟨by rw [Go.Sort.swp_size, r0], fun t x1 x2 => ?_, fun t x1 x2 => ?_, fun t x => ?_⟩
  · obtain rfl : t = k := by omega
    rw [g, if_pos rfl, r1 (t + 1) (by omega) (by omega)]; congr 1; omega
  · rw [g, if_neg (by omega)]
    by_cases e : t = k + 1
    · subst e
      rw [if_pos rfl, r3 k (by omega)]; congr 1; omega
    · rw [if_neg e, r2 t (by omega) x2]
  · rw [g, if_neg (by omega), if_neg (by omega), r3 t (by omega)]
section
variable {lt : Nat → Nat → Bool}
/-- What a merge is handed: two runs, each in order, the left one's from earlier places. -/
structure Pre (lt : Nat → Nat → Bool) (a m b : Nat) (d : Array Nat) : Prop where
  swo : SWO lt
  x : ∀ s t, a ≤ s → s < m → m ≤ t → t < b → d[s]! < d[t]!
  l : SortedIn (prec lt) a m d
  r : SortedIn (prec lt) m b d
theorem sorted_le {p : Nat → Nat → Bool} (hp : SWO p) {a b : Nat} {d : Array Nat} (h : SortedIn p a b d) {i j : Nat} (hi : a ≤ i) (hij : i ≤ j) (hj : j < b) : p d[j]! d[i]! = false := by
  by_cases e : i = j
  · subst e; exact hp.irrefl _
  · exact h i j hi (by omega) hj
theorem Pre.late {a m b : Nat} {d : Array Nat} (h : Pre lt a m b d) {s t : Nat} (h1 : a ≤ s) (h2 : s < m) (h3 : m ≤ t) (h4 : t < b) : prec lt d[t]! d[s]! = lt d[t]! d[s]! := prec_late (h.x s t h1 h2 h3 h4)
/-- Right places that are less stay so to the left, and to the right of the left run. -/
theorem Pre.up {a m b : Nat} {d : Array Nat} (h : Pre lt a m b d) {s s' t t' : Nat} (h1 : a ≤ s) (h2 : s ≤ s') (h3 : s' < m) (h4 : m ≤ t') (h5 : t' ≤ t) (h6 : t < b) (hl : lt d[t]! d[s]! = true) : lt d[t']! d[s']! = true := by
  have P := prec_swo h.swo
  rw [← h.late (s := s') (t := t') (by omega) h3 h4 (by omega)]
  rw [← h.late (s := s) (t := t) h1 (by omega) (by omega) h6] at hl
  cases hc : prec lt d[t']! d[s']! with
  | true => rfl
  | false =>
    have e1 := sorted_le P h.r h4 h5 h6
    have e2 := sorted_le P h.l h1 h2 h3
    have := P.ntrans _ _ _ (P.ntrans _ _ _ e1 hc) e2
    rw [this] at hl; cases hl
theorem Pre.down {a m b : Nat} {d : Array Nat} (h : Pre lt a m b d) {s s' t t' : Nat} (h1 : a ≤ s') (h2 : s' ≤ s) (h3 : s < m) (h4 : m ≤ t) (h5 : t ≤ t') (h6 : t' < b) (hl : lt d[t]! d[s]! = false) : lt d[t']! d[s']! = false := by
  cases hc : lt d[t']! d[s']! with
  | false => rfl
  | true =>
    have := h.up h1 h2 h3 h4 h5 h6 hc
    rw [this] at hl; cases hl
/-- Behind the search: what was turned is two halves, each two runs in order. -/
theorem Pre.halves {a m b lo hi : Nat} {d r : Array Nat} (h : Pre lt a m b d) (hb : b ≤ d.size) (h1 : a ≤ lo) (h2 : lo ≤ m) (h3 : m ≤ hi) (h4 : hi ≤ b) (hr : Rot d r lo m hi)
    (k1 : a < lo → hi < b → lt d[hi]! d[lo - 1]! = false) (k2 : lo < m → m < hi → lt d[hi - 1]! d[lo]! = true) :
    Pre lt a lo (lo + (hi - m)) r ∧ Pre lt (lo + (hi - m)) hi b r ∧ (∀ s t, a ≤ s → s < lo + (hi - m) → lo + (hi - m) ≤ t → t < b → prec lt r[t]! r[s]! = false) := by
  have P := prec_swo h.swo
  obtain ⟨s1, s2, s3, s4⟩ := sorted_rot_l hr h.l h.r h1 h2 h3 h4
  have hc := cross_rot hr h.l h.r h1 h2 h3 h4 (fun s t x1 x2 x3 x4 => by
      rw [h.late x1 (by omega) (by omega) x4]
      exact h.down (s := lo - 1) (t := hi) x1 (by omega) (by omega) h3 x3 x4 (k1 (by omega) (by omega)))
    (fun s t x1 x2 x3 x4 => by
      refine P.asymmA ?_
      rw [h.late (by omega) x2 x3 (by omega)]
      exact h.up (s := lo) (t := hi - 1) h1 x1 x2 x3 (by omega) (by omega) (k2 (by omega) (by omega)))
  obtain ⟨r0, r1, r2, r3⟩ := hr
  refine ⟨⟨h.swo, fun s t x1 x2 x3 x4 => ?_, s1, s2⟩, ⟨h.swo, fun s t x1 x2 x3 x4 => ?_, s3, s4⟩, hc⟩
  · rw [r3 s (by omega), r1 t x3 x4]; exact h.x _ _ x1 (by omega) (by omega) (by omega)
  · rw [r2 s x1 x2, r3 t (by omega)]; exact h.x _ _ (by omega) (by omega) (by omega) x4
theorem Pre.congr {a m b : Nat} {d d' : Array Nat} (h : Pre lt a m b d) (e : ∀ t, a ≤ t → t < b → d'[t]! = d[t]!) (hm : a ≤ m := by omega) (hb : m ≤ b := by omega) : Pre lt a m b d' :=
  ⟨h.swo, fun s t x1 x2 x3 x4 => by rw [e s x1 (by omega), e t (by omega) x4]; exact h.x s t x1 x2 x3 x4,
    fun i j x1 x2 x3 => by rw [e i x1 (by omega), e j (by omega) (by omega)]; exact h.l i j x1 x2 x3,
    fun i j x1 x2 x3 => by rw [e i (by omega) (by omega), e j (by omega) x3]; exact h.r i j x1 x2 x3⟩
/-- Both halves merged. -/
theorem merged {a c b : Nat} {d1 d2 d3 : Array Nat} (hb : b ≤ d1.size) (hac : a ≤ c) (hcb : c ≤ b) (hx : ∀ s t, a ≤ s → s < c → c ≤ t → t < b → prec lt d1[t]! d1[s]! = false)
    (p2 : PermIn a c d1 d2) (q2 : SortedIn (prec lt) a c d2) (p3 : PermIn c b d2 d3) (q3 : SortedIn (prec lt) c b d3) : PermIn a b d1 d3 ∧ SortedIn (prec lt) a b d3 := by
  have hz2 : d2.size = d1.size := p2.1
  refine ⟨permIn_trans _ _ _ _ _ (permIn_mono _ _ _ _ _ _ (Nat.le_refl _) hcb hb p2) (permIn_mono _ _ _ _ _ _ hac (Nat.le_refl _) (by omega) p3), sorted_join (fun i j x1 x2 x3 => ?_) q3 (fun s t x1 x2 x3 x4 => ?_)⟩
  · rw [p3.2.1 i (by omega), p3.2.1 j (by omega)]; exact q2 i j x1 x2 x3
  · rw [p3.2.1 s (by omega)]
    refine permIn_all d2 d3 c b (fun v => prec lt v d2[s]! = false) (by omega) p3 (fun t x1' x2' => ?_) t x3 x4
    rw [p2.2.1 t (by omega)]
    exact permIn_all d1 d2 a c (fun v => prec lt d1[t]! v = false) (by omega) p2 (fun s y1 y2 => hx s t y1 y2 x1' x2') s x1 x2
end
end Go.Proofs.YthfhfekneahonaaDoor
