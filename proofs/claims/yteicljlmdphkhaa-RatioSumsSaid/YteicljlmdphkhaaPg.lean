/-
  Proved: whatever list of fractions comes in, nil among them, RatioSums returns true, and the list reads as before. Conditions: none.
-/
import Derived.Test.YteicljlmdphkhaaRows
import Derived.Test.YteicljlmdphkhaaLg
import Derived.WalkKit
import Derived.ProofKit
import Derived.OpenShut
import Derived.Deep.SlicePairs
import Derived.Carry
namespace Go.Proofs.Yteicljlmdphkhaa.ratioSums
open Go.ChangeShapes Go.WideShapes Go.ChangeAt Go.RowKit Go.Deep
set_option linter.unusedVariables false

theorem own : ownKnob Try.prog.godebug = none := by kernel_rfl
theorem cells23 : Try.prog.cellsOf 23 = 2 := by kernel_rfl
theorem cells2 : Try.prog.cellsOf 2 = 1 := by kernel_rfl
theorem laidOut : laidOutB Try.prog = true := by kernel_rfl
theorem le_of_wf {a : Int} (h : (Lit.int .i64 a).wf = true) : a ≤ 9223372036854775807 := (bounds_i64 h).2

set_option maxRecDepth 100000 in
theorem lifted (os : Os) (started : os.Started) (H : Type) (enc : TypeId × Value → H) :
    ReturnsInHanded {} Try.checked os 9 .any (Rows.ratioSumsSpec.pre6 enc Try.prog Try.f9 Rows.ratioSumsRow.domain false) (Rows.ratioSumsSpec.post enc Try.prog Try.f9 false true false false) := by
  refine returnsInHanded_of_change (C := Try.checked) own started (by kernel_rfl) Try.func9
    (ChangeSpec.witness6 (enc := enc) (C := Try.checked) false ⟨#[], #[.slice none 0 0], []⟩ 8 (by kernel_rfl) (by kernel_rfl) (by kernel_rfl) (by kernel_rfl)) ?_
  intro W base args ds gs before hval0 hW hcnd _
  have hval : ∀ (j : Nat) t v, Try.f9.params[j]? = some t → args[j]? = some v → Value.okWide Try.prog W .any base t v := hval0
  have hW' := hW
  obtain ⟨p, q, hA0, hV, rfl, hfz, hnd⟩ := hW
  have hA : DataW.TrodAll enc Try.prog W 0 (fun _ => true) true Try.f9.params.toList args.toList ds p := hA0
  rw [Try.params9] at hA hval
  obtain ⟨v0, d0, hargs, rfl, h0⟩ := trodAll_one hA
  obtain rfl : args = #[v0] := by cases args; simp_all
  obtain ⟨rfl, rfl⟩ := trodVars_none hV
  clear hA0 hval0
  simp only [List.append_nil] at hW'
  have hlt : ∀ x ∈ p, x.block < W.heap.size := fun x hx => by simpa using hW'.lt x hx
  have fin : ∀ W' : World, Below W.heap.size W W' → ∃ v, Ending.returned (.bool true) = .returned v ∧ Rows.ratioSumsSpec.post enc Try.prog Try.f9 false true false false W #[v0] v W' := fun W' hb => by
    refine ⟨_, rfl, _, _, _, [], p, [], hW', trodAll_cons_mk (shut_bool Try.underlying4 _) trodAll_mk0, trodAll_mk1 (Below.trod laidOut (by kernel_rfl) (of_decide_eq_true (by kernel_rfl)) h0 hb hlt), rfl, hb.frame _, fun h => by cases h⟩
  have go : Calls Try.prog 9 #[v0] W fun e w' => e = .returned (.bool true) ∧ Below W.heap.size W w' := by
    obtain ⟨a0, len, cap, rfl⟩ := okWide_slice Try.underlying42 (hval 0 42 v0 rfl rfl)
    obtain ⟨fuel, hf⟩ := h0
    rcases open_slice_pairs Try.underlying42 Try.underlying23 cells23 rfl rfl cells2 cells2 hf with ⟨hcs, hx⟩ | ⟨a, len', cap', m, n, V0, V1, D0, D1, P0, P1, hcs, hb, hl, hm, hmm, hx, hcell⟩
    · simp [Value.cells] at hcs
      obtain ⟨rfl, rfl, rfl⟩ := hcs
      exact law_sums_empty none 0 W
    · simp [Value.cells] at hcs
      obtain ⟨rfl, rfl, rfl⟩ := hcs
      have hlm : len ≤ m := by rw [hmm]; simpa using hl
      have hv : ∀ i, i < len → ∃ x y : Int, V0 i = .int .i64 x ∧ V1 i = .int .i64 y ∧ x ≤ 9223372036854775807 ∧ y ≤ 9223372036854775807 := fun i hi => by
        obtain ⟨_, _, t0, t1⟩ := hcell i (by omega)
        obtain ⟨x, e0, _, w0⟩ := DataW.trod_int Try.underlying2 t0
        obtain ⟨y, e1, _, w1⟩ := DataW.trod_int Try.underlying2 t1
        simp at e0 e1
        exact ⟨x, y, e0, e1, le_of_wf w0, le_of_wf w1⟩
      refine law_sums a len cap (fun i => intOf (V0 i)) (fun i => intOf (V1 i)) W (fun i hi => ?_) (fun i hi => ?_)
      · obtain ⟨x, y, e0, e1, _, _⟩ := hv i hi
        obtain ⟨c0, c1, _, _⟩ := hcell i (by omega)
        rw [e0] at c0
        rw [e1] at c1
        simp only [e0, e1, intOf]
        exact ⟨c0, c1⟩
      · obtain ⟨x, y, e0, e1, l0, l1⟩ := hv i hi
        simp only [e0, e1, intOf]
        exact ⟨l0, l1⟩
  refine go.mono fun e W' ⟨he, hb⟩ => ?_
  subst he
  exact fin W' hb

theorem over : Rows.ratioSumsRow.holds Try.pinned (OpenSpec.ofChange Rows.ratioSumsSpec) :=
  OpenClaim.holds_of_wide 9 Try.f9 rfl rfl rfl rfl rfl rfl rfl ⟨rfl, rfl, rfl, rfl, rfl⟩ rfl rfl rfl rfl rfl (by kernel_rfl) Try.func9 (by kernel_rfl)
    (of_decide_eq_true (by kernel_rfl)) (by unfold Func.isWrapper; first | (rw [if_pos (by decide +kernel)]; kernel_rfl) | (rw [if_neg (by decide +kernel)]; exact ⟨rfl, rfl⟩))
    (fun os started H enc _ => lifted os started H enc)

theorem proved : Rows.RatioSumsSaid := over
end Go.Proofs.Yteicljlmdphkhaa.ratioSums
