/- A stable sort: slices' stableCmpFunc, SortStableFunc. -/
import Derived.Test.YthfhfekneahonaaDoorSc1
import Derived.Test.YthfhfekneahonaaDoorSc2
import Derived.Test.YthfhfekneahonaaDoorSc3
import Derived.Test.YthfhfekneahonaaDoorSc4
namespace Go.Proofs.YthfhfekneahonaaDoor
open Go.Shelf Go.RowKit Go.Lib Go.Sort
set_option linter.unusedVariables false
theorem merge_k (k : Nat) (zE : ∀ w, (Go.sizeOf 24).run Tryd.prog w = .ok k w) (enc : Nat → List Value) (cf : Nat → Nat → Int) (g : Nat) (cb : Array Value) (eg : ∀ args w, (callFunc g args).run Tryd.prog w = .ok (.enter g args) w) (blk off cap : Nat) (d0 : Array Nat) (w0 : World) (R : RowK enc k w0 blk off d0) (N : Nat) (hs0 : d0.size = N) (hcmp : CmpLays Tryd.prog g cb enc k cf blk off d0.size w0) (hsz : N < 4611686018427387904) :
    ∀ (B a m b : Nat) (d : Array Nat) (w : World), b - a ≤ B → a < m → m < b → b ≤ N → d.size = N → Pre (ltOf cf) a m b d → SWK enc k w0 blk off d w →
    Calls Tryd.prog 93 #[.slice (some ⟨blk, off, none⟩) N cap, .int .i64 a, .int .i64 m, .int .i64 b, .func (.func g) #[] cb] w fun e w' => e = .returned (.tuple #[]) ∧ ∃ r, PermIn a b d r ∧ SortedIn (prec (ltOf cf)) a b r ∧ SWK enc k w0 blk off r w'
  | 0, a, m, b, d, w, hB, ham, hmb, _, _, _, _ => by omega
  | B + 1, a, m, b, d, w, hB, ham, hmb, hb, hds, hp, S => by
    by_cases h1 : m = a + 1
    · exact merge_left k zE enc cf g cb eg blk off cap d0 w0 R N hs0 hcmp hsz a m b d w h1 hmb hb hds hp S
    · by_cases h2 : b = m + 1
      · exact merge_right k zE enc cf g cb eg blk off cap d0 w0 R N hs0 hcmp hsz a m b d w (by omega) h2 hb hds hp S
      · have IH := merge_k k zE enc cf g cb eg blk off cap d0 w0 R N hs0 hcmp hsz B
        by_cases h3 : (a + b) / 2 < m
        · exact merge_up k zE enc cf g cb eg blk off cap d0 w0 R N hs0 hcmp hsz B IH a m b d w hB (by omega) (by omega) hb hds hp S h3
        · exact merge_low k zE enc cf g cb eg blk off cap d0 w0 R N hs0 hcmp hsz B IH a m b d w hB (by omega) (by omega) hb hds hp S (by omega)
theorem insert_k (k : Nat) (aE : ∀ w, (isAgg 24).run Tryd.prog w = .ok true w) (zE : ∀ w, (Go.sizeOf 24).run Tryd.prog w = .ok k w) (enc : Nat → List Value) (cf : Nat → Nat → Int) (g : Nat) (cb : Array Value) (eg : ∀ args w, (callFunc g args).run Tryd.prog w = .ok (.enter g args) w) (blk off cap : Nat) (d0 : Array Nat) (w0 : World) (R : RowK enc k w0 blk off d0) (N : Nat) (hs0 : d0.size = N) (hcmp : CmpLays Tryd.prog g cb enc k cf blk off d0.size w0) (hsz : N < 4611686018427387904) (hS : SWO (ltOf cf))
    (a b : Nat) (d : Array Nat) (w : World) (hab : a ≤ b) (hb : b ≤ N) (hds : d.size = N) (hX : ∀ s t, a ≤ s → s < t → t < b → d[s]! < d[t]!) (S : SWK enc k w0 blk off d w) :
    Calls Tryd.prog 92 #[.slice (some ⟨blk, off, none⟩) N cap, .int .i64 a, .int .i64 b, .func (.func g) #[] cb] w fun e w' => e = .returned (.tuple #[]) ∧ ∃ r, PermIn a b d r ∧ SortedIn (prec (ltOf cf)) a b r ∧ SWK enc k w0 blk off r w' := by
  subst hds
  have hc : CmpLays Tryd.prog g cb enc k cf blk off d.size w := by
    obtain ⟨n, os, rfl⟩ := S
    intro m os' dk hk x y
    rw [sortWorldK_on enc k w0 blk off n m d dk os os' R.hblk hk]
    exact hcmp _ _ dk (by omega) x y
  have C := AnyQ.insertionSortCmpFunc Tryd.insE k aE zE enc R.hk R.h1 cf g cb blk off cap a b d w eg hc (S.holds R.hblk R.hH (by omega)) (S.lt R.hblk) hab hb hsz
  have hi := insertion_stable hS d a b hab hb hX
  refine Calls.mono (P := Tryd.prog) C ?_
  rintro e w' ⟨rfl, n, os, rfl⟩
  exact ⟨rfl, _, hi.1, hi.2, S.on R.hblk n _ os hi.1.1⟩
/-- A stretch in order, of just those that stood there. -/
def Good (lt : Nat → Nat → Bool) (lo hi : Nat) (d : Array Nat) : Prop := SortedIn (prec lt) lo hi d ∧ ∀ t, lo ≤ t → t < hi → lo ≤ d[t]! ∧ d[t]! < hi
theorem Good.perm {lt : Nat → Nat → Bool} {lo hi : Nat} {d r : Array Nat} (h : ∀ t, lo ≤ t → t < hi → lo ≤ d[t]! ∧ d[t]! < hi) (hp : PermIn lo hi d r) (hb : hi ≤ d.size) (hs : SortedIn (prec lt) lo hi r) : Good lt lo hi r := ⟨hs, permIn_all d r lo hi (fun v => lo ≤ v ∧ v < hi) hb hp h⟩
theorem Good.congr {lt : Nat → Nat → Bool} {lo hi : Nat} {d d' : Array Nat} (h : Good lt lo hi d) (e : ∀ t, lo ≤ t → t < hi → d'[t]! = d[t]!) : Good lt lo hi d' :=
  ⟨fun i j x1 x2 x3 => by rw [e i x1 (by omega), e j (by omega) x3]; exact h.1 i j x1 x2 x3, fun t x1 x2 => by rw [e t x1 x2]; exact h.2 t x1 x2⟩
theorem Good.pre {lt : Nat → Nat → Bool} {a m b : Nat} {d : Array Nat} (hS : SWO lt) (h1 : Good lt a m d) (h2 : Good lt m b d) : Pre lt a m b d := ⟨hS, fun s t x1 x2 x3 x4 => by have := h1.2 s x1 x2; have := h2.2 t x3 x4; omega, h1.1, h2.1⟩
theorem Good.both {lt : Nat → Nat → Bool} {a m b : Nat} {d r : Array Nat} (h1 : Good lt a m d) (h2 : Good lt m b d) (ham : a ≤ m) (hmb : m ≤ b) (hp : PermIn a b d r) (hb : b ≤ d.size) (hs : SortedIn (prec lt) a b r) : Good lt a b r :=
  Good.perm (fun t x1 x2 => by
    by_cases h : t < m
    · have := h1.2 t x1 h; omega
    · have := h2.2 t (by omega) x2; omega) hp hb hs
theorem gap {c x y : Nat} (hx : c ∣ x) (hy : c ∣ y) (h : x < y) : x + c ≤ y := by
  have := Nat.le_of_dvd (by omega) (Nat.dvd_sub hy hx)
  omega
theorem dvd_two {c x : Nat} (h : 2 * c ∣ x) : c ∣ x := Nat.dvd_trans ⟨2, by omega⟩ h
theorem dvd_next {c x : Nat} (h : c ∣ x) : c ∣ x + c := Nat.dvd_add h (Nat.dvd_refl c)
/-- All stretches of one length are in order. -/
def Blocks (lt : Nat → Nat → Bool) (c N : Nat) (d : Array Nat) : Prop := ∀ lo, c ∣ lo → lo < N → Good lt lo (min (lo + c) N) d
/-- Those ahead of a place in double length, the others in length. -/
structure Half (lt : Nat → Nat → Bool) (c N a : Nat) (d : Array Nat) : Prop where
  dv : 2 * c ∣ a
  l : ∀ lo, 2 * c ∣ lo → lo < a → Good lt lo (lo + 2 * c) d
  r : ∀ lo, c ∣ lo → a ≤ lo → lo < N → Good lt lo (min (lo + c) N) d
theorem Half.start {lt : Nat → Nat → Bool} {c N : Nat} {d : Array Nat} (h : Blocks lt c N d) : Half lt c N 0 d := ⟨⟨0, by simp⟩, fun lo _ x => by omega, fun lo x _ y => h lo x y⟩
theorem Half.two {lt : Nat → Nat → Bool} {c N a : Nat} {d : Array Nat} (h : Half lt c N a d) (h1 : a + c < N) : Good lt a (a + c) d ∧ Good lt (a + c) (min (a + c + c) N) d := by
  have e1 := h.r a (dvd_two h.dv) (Nat.le_refl _) (by omega)
  have e2 := h.r (a + c) (dvd_next (dvd_two h.dv)) (by omega) h1
  rw [show min (a + c) N = a + c by omega] at e1
  exact ⟨e1, e2⟩
theorem Half.step {lt : Nat → Nat → Bool} {c N a : Nat} {d r : Array Nat} (h : Half lt c N a d) (hc : 0 < c) (hN : d.size = N) (h1 : a + 2 * c ≤ N) (hp : PermIn a (a + 2 * c) d r) (hs : SortedIn (prec lt) a (a + 2 * c) r) : Half lt c N (a + 2 * c) r := by
  obtain ⟨g1, g2⟩ := h.two (by omega)
  rw [show min (a + c + c) N = a + 2 * c by omega] at g2
  refine ⟨Nat.dvd_add h.dv (Nat.dvd_refl _), fun lo x y => ?_, fun lo x y z => ?_⟩
  · by_cases hl : lo < a
    · have := gap x h.dv hl
      exact (h.l lo x hl).congr (fun t x1 x2 => hp.2.1 t (by omega))
    · have : lo = a := by
        rcases Nat.lt_or_ge a lo with hh | hh
        · have := gap h.dv x hh; omega
        · omega
      subst this
      exact Good.both g1 g2 (by omega) (by omega) hp (by omega) hs
  · exact (h.r lo x (by omega) z).congr (fun t x1 x2 => hp.2.1 t (by omega))
theorem Half.last {lt : Nat → Nat → Bool} {c N a : Nat} {d r : Array Nat} (h : Half lt c N a d) (hc : 0 < c) (hN : d.size = N) (h1 : a + c < N) (h2 : N < a + 2 * c) (hp : PermIn a N d r) (hs : SortedIn (prec lt) a N r) : Blocks lt (2 * c) N r := by
  obtain ⟨g1, g2⟩ := h.two h1
  rw [show min (a + c + c) N = N by omega] at g2
  intro lo x y
  by_cases hl : lo < a
  · have := gap x h.dv hl
    rw [show min (lo + 2 * c) N = lo + 2 * c by omega]
    exact (h.l lo x hl).congr (fun t x1 x2 => hp.2.1 t (by omega))
  · have : lo = a := by
      rcases Nat.lt_or_ge a lo with hh | hh
      · have := gap h.dv x hh; omega
      · omega
    subst this
    rw [show min (lo + 2 * c) N = N by omega]
    exact Good.both g1 g2 (by omega) (by omega) hp (by omega) hs
theorem Half.done {lt : Nat → Nat → Bool} {c N a : Nat} {d : Array Nat} (h : Half lt c N a d) (hc : 0 < c) (h1 : ¬ a + c < N) (ha : a ≤ N) : Blocks lt (2 * c) N d := by
  intro lo x y
  by_cases hl : lo < a
  · have := gap x h.dv hl
    rw [show min (lo + 2 * c) N = lo + 2 * c by omega]
    exact h.l lo x hl
  · have : lo = a := by
      rcases Nat.lt_or_ge a lo with hh | hh
      · have := gap h.dv x hh; omega
      · omega
    subst this
    have := h.r lo (dvd_two h.dv) (Nat.le_refl _) y
    rw [show min (lo + 2 * c) N = N by omega]
    rw [show min (lo + c) N = N by omega] at this
    exact this
theorem Blocks.whole {lt : Nat → Nat → Bool} {c N : Nat} {d : Array Nat} (h : Blocks lt c N d) (hc : N ≤ c) : SortedIn (prec lt) 0 N d := by
  by_cases h0 : N = 0
  · intro i j x1 x2 x3; omega
  · have := h 0 ⟨0, by simp⟩ (by omega)
    rw [show min (0 + c) N = N by omega] at this
    exact this.1
/-- The first stretches are in order, the others as they stood. -/
structure First (lt : Nat → Nat → Bool) (N a : Nat) (d : Array Nat) : Prop where
  dv : 20 ∣ a
  l : ∀ lo, 20 ∣ lo → lo < a → Good lt lo (lo + 20) d
  r : ∀ t, a ≤ t → t < N → d[t]! = t
theorem First.step {lt : Nat → Nat → Bool} {N a : Nat} {d r : Array Nat} (h : First lt N a d) (hN : d.size = N) (h1 : a + 20 ≤ N) (hp : PermIn a (a + 20) d r) (hs : SortedIn (prec lt) a (a + 20) r) : First lt N (a + 20) r := by
  refine ⟨Nat.dvd_add h.dv (Nat.dvd_refl _), fun lo x y => ?_, fun t x y => by rw [hp.2.1 t (by omega)]; exact h.r t (by omega) y⟩
  by_cases hl : lo < a
  · have := gap x h.dv hl
    exact (h.l lo x hl).congr (fun t x1 x2 => hp.2.1 t (by omega))
  · have : lo = a := by
      rcases Nat.lt_or_ge a lo with hh | hh
      · have := gap h.dv x hh; omega
      · omega
    subst this
    exact Good.perm (fun t x1 x2 => by rw [h.r t x1 (by omega)]; omega) hp (by omega) hs
theorem First.last {lt : Nat → Nat → Bool} {N a : Nat} {d r : Array Nat} (h : First lt N a d) (hN : d.size = N) (ha : a ≤ N) (h1 : N < a + 20) (hp : PermIn a N d r) (hs : SortedIn (prec lt) a N r) : Blocks lt 20 N r := by
  intro lo x y
  by_cases hl : lo < a
  · have := gap x h.dv hl
    rw [show min (lo + 20) N = lo + 20 by omega]
    exact (h.l lo x hl).congr (fun t x1 x2 => hp.2.1 t (by omega))
  · have : lo = a := by
      rcases Nat.lt_or_ge a lo with hh | hh
      · have := gap h.dv x hh; omega
      · omega
    subst this
    rw [show min (lo + 20) N = N by omega]
    exact Good.perm (fun t x1 x2 => by rw [h.r t x1 x2]; omega) hp (by omega) hs
end Go.Proofs.YthfhfekneahonaaDoor
