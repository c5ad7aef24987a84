/- Sum of no fractions; the chapter's examples. -/
import Derived.Test.YteicljlmdphkhaaW
namespace Go.Proofs.Yteicljlmdphkhaa
open Go.RowKit
set_option linter.unusedVariables false
theorem sum_any (b off cap : Nat) (L : List (Int × Int)) (hl : L.length ≤ 9223372036854775807) (w : World) (hb : b < w.heap.size) (hL : ListAt w b off L) (hF : Fits L) :
    Calls Try.prog 22 #[.slice (some ⟨b, off, none⟩) L.length cap] w fun e w' => e = .returned (.tuple #[.agg #[.int .i64 (numR L), .int .i64 (denR L)], .bool (okR L)]) ∧ Below w.heap.size w w' :=
  sum_core b off cap L _ _ _ (Lib.hid ⟨rfl, rfl, rfl⟩) hl w hb hL hF
theorem rsum_any (b off cap : Nat) (L : List (Int × Int)) (hl : L.length ≤ 9223372036854775807) (w : World) (hb : b < w.heap.size) (hL : ListAt w b off L) (hF : Fits L) :
    Calls Try.prog 23 #[.slice (some ⟨b, off, none⟩) L.length cap] w fun e w' => e = .returned (.tuple #[.agg #[.int .i64 (numR L), .int .i64 (denR L)], .bool (okR L)]) ∧ Below w.heap.size w w' :=
  rsum_core b off cap L _ _ _ (Lib.hid ⟨rfl, rfl, rfl⟩) hl w hb hL hF
set_option maxRecDepth 100000 in
theorem sum_empty (ad : Option Addr) (cap : Nat) (w : World) :
    Calls Try.prog 22 #[.slice ad 0 cap] w fun e w' => e = .returned (.tuple #[.agg #[.int .i64 0, .int .i64 1], .bool true]) ∧ Below w.heap.size w w' := by
  go_enter Try.func22, Try.ntmps22
  go_wp2
  refine wp_loop_rounds 1 ?_
  rw [rounds_succ]
  go_wp2_with fail
  refine (nought_any _).mono ?_
  rintro e w1 ⟨rfl, hb1⟩
  have B1 := (Blk2.new w _ _ _).below hb1 (by simp)
  have bw1 := ((Below.refl w.heap.size w).alloc (by simp) _).trans (hb1.mono (by simp <;> omega))
  clear hb1
  obtain ⟨c0, c1, f0, f1⟩ := B1.all
  have hs := B1.lt
  go_wp2
  refine wp_loop_rounds 1 ?_
  rw [rounds_succ]
  go_wp2
  refine bodyPost_ret (v := .tuple #[.agg #[.int .i64 0, .int .i64 1], .bool true]) (by simp [results, Try.results22, go_sem, c0, c1, hs]) rfl ⟨rfl, ?_⟩
  repeat (first | exact bw1 | refine Below.setCell ?_ (by simp <;> omega) _ | refine Below.alloc ?_ (by simp <;> omega) _)
set_option maxRecDepth 100000 in
theorem rsum_empty (ad : Option Addr) (cap : Nat) (w : World) :
    Calls Try.prog 23 #[.slice ad 0 cap] w fun e w' => e = .returned (.tuple #[.agg #[.int .i64 0, .int .i64 1], .bool true]) ∧ Below w.heap.size w w' := by
  go_enter Try.func23, Try.ntmps23
  go_wp2
  refine wp_loop_rounds 1 ?_
  rw [rounds_succ]
  go_wp2
  refine wp_loop_rounds 1 ?_
  rw [rounds_succ]
  go_wp2
  refine bodyPost_ret (v := .tuple #[.agg #[.int .i64 0, .int .i64 1], .bool true]) (by simp [results, Try.results23, go_sem]) rfl ⟨rfl, ?_⟩
  repeat (first | exact Below.refl _ _ | refine Below.setCell ?_ (by simp <;> omega) _ | refine Below.alloc ?_ (by simp <;> omega) _)
theorem awake_val : numR [(1, 6), (1, 3)] = 1 ∧ denR [(1, 6), (1, 3)] = 2 ∧ okR [(1, 6), (1, 3)] = true := by decide
set_option maxRecDepth 100000 in
theorem awake_any (w : World) : Calls Try.prog 15 #[] w fun e w' => e = .returned (.bool true) ∧ Below w.heap.size w w' := by
  go_enter Try.func15, Try.ntmps15
  go_wp2_with fail
  refine (product_any 1099511627776 1099511627776 1099511627776 1099511627776 (by decide) (by decide) (by decide) (by decide) _).mono ?_
  rw [show hi (1099511627776 * 1099511627776) = 65536 by decide, show lo (1099511627776 * 1099511627776) = 0 by decide]
  rintro e w1 ⟨rfl, hb1⟩
  go_wp2_with fail
  refine (scale_ok 10 7 3 (by decide) (by decide) (by decide) (by decide) (by decide) _).mono ?_
  rw [show ((10 * 7 / 3 : Nat) : Int) = 23 by decide]
  rintro e w2 ⟨rfl, hb2⟩
  have bw2 := hb1.trans (hb2.mono hb1.size)
  clear hb1 hb2
  go_wp2_with fail
  refine (sum_any w2.heap.size 0 2 [(1, 6), (1, 3)] (by decide) _ (by simp) ?_ ?_).mono ?_
  · intro k hk
    match k, hk with
    | 0, _ => exact ⟨by go_simp, by go_simp⟩
    | 1, _ => exact ⟨by go_simp, by go_simp⟩
    | k + 2, hk => simp at hk; omega
  · intro k hk
    match k, hk with
    | 0, _ => exact ⟨by decide, by decide⟩
    | 1, _ => exact ⟨by decide, by decide⟩
    | k + 2, hk => simp at hk; omega
  rw [awake_val.1, awake_val.2.1, awake_val.2.2]
  rintro e w3 ⟨rfl, hb3⟩
  have bw3 := (bw2.alloc bw2.size _).trans (hb3.mono (by have := bw2.size; simp <;> omega))
  clear hb3 bw2
  go_wp2
  go_ret
  exact ⟨rfl, bw3.alloc bw3.size _⟩
end Go.Proofs.Yteicljlmdphkhaa
