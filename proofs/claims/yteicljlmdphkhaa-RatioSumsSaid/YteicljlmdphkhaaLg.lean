/- The law's walk: RatioSums, of any slice. -/
import Derived.Test.YteicljlmdphkhaaLb
namespace Go.Proofs.Yteicljlmdphkhaa
open Go.RowKit
set_option linter.unusedVariables false
theorem law_sums_empty (ad : Option Addr) (cap : Nat) (w : World) :
    Calls Try.prog 9 #[.slice ad 0 cap] w fun e w' => e = .returned (.bool true) ∧ Below w.heap.size w w' :=
  law_sums_core ad 0 cap (by decide) 0 1 true w w.heap.size (Nat.le_refl _) (fun w' _ => sum_empty ad cap w') (fun w' _ => rsum_empty ad cap w')
theorem law_sums_list (b off cap : Nat) (L : List (Int × Int)) (hl : L.length ≤ 12) (w : World) (hb : b < w.heap.size) (hL : ListAt w b off L) (hF : Fits L) :
    Calls Try.prog 9 #[.slice (some ⟨b, off, none⟩) L.length cap] w fun e w' => e = .returned (.bool true) ∧ Below w.heap.size w w' :=
  law_sums_core _ _ cap hl _ _ _ w w.heap.size (Nat.le_refl _)
    (fun w' h => sum_any b off cap L (by omega) w' (Nat.lt_of_lt_of_le hb h.size) (hL.below h hb) hF)
    (fun w' h => rsum_any b off cap L (by omega) w' (Nat.lt_of_lt_of_le hb h.size) (hL.below h hb) hF)
theorem lt_of_cell {w : World} {b off : Nat} {v : Value} (h : w.cell? ⟨b, off, none⟩ = some v) : b < w.heap.size := by
  rcases Nat.lt_or_ge b w.heap.size with h' | h'
  · exact h'
  · simp [World.cell?, Array.getElem?_eq_none h'] at h
/-- Of any slice whose cells are known. -/
theorem law_sums (a : Addr) (len cap : Nat) (n d : Nat → Int) (w : World) (hc : ∀ i, i < len → w.cell? (a.add (i * 2)) = some (.int .i64 (n i)) ∧ w.cell? (a.add (i * 2 + 1)) = some (.int .i64 (d i))) (hF : ∀ i, i < len → n i ≤ 9223372036854775807 ∧ d i ≤ 9223372036854775807) :
    Calls Try.prog 9 #[.slice (some a) len cap] w fun e w' => e = .returned (.bool true) ∧ Below w.heap.size w w' := by
  rcases Nat.eq_zero_or_pos len with h0 | h0
  · subst h0; exact law_sums_empty _ cap w
  · by_cases h12 : 12 < len
    · exact law_sums_long _ len cap h12 w
    · obtain ⟨b, off, spot⟩ := a
      have hs : spot = none := by simpa [Addr.add] using World.cell?_spot (hc 0 h0).1
      subst hs
      have hL : ((List.range len).map fun i => (n i, d i)).length = len := by simp
      have hg : ∀ k, k < len → ((List.range len).map fun i => (n i, d i)).getD k (0, 0) = (n k, d k) := fun k hk => by simp [List.getD, hk]
      have hc0 : ∀ k, k < len → w.cell? ⟨b, off + k * 2, none⟩ = some (.int .i64 (n k)) ∧ w.cell? ⟨b, off + k * 2 + 1, none⟩ = some (.int .i64 (d k)) := fun k hk => by
        have h1 := hc k hk
        rw [Go.WideShapes.add_plain, Go.WideShapes.add_plain] at h1
        exact h1
      have h := law_sums_list b off cap ((List.range len).map fun i => (n i, d i)) (by rw [hL]; omega) w (lt_of_cell (hc0 0 h0).1)
        (fun k hk => by rw [hL] at hk; rw [hg k hk]; exact hc0 k hk) (fun k hk => by rw [hL] at hk; rw [hg k hk]; exact hF k hk)
      rw [hL] at h
      exact h
end Go.Proofs.Yteicljlmdphkhaa
