/- What the rows share: the listed variables, and what the walks ask, out of them. -/
import Derived.Test.YthfhfekneahonaaDoorCards
import Derived.Test.YthfhfekneahonaaDoorTie
import Derived.Test.YthfhfekneahonaaDoorZ
import Derived.SevenTiedAt
namespace Go.Proofs.YthfhfekneahonaaDoor
open Go Go.ChangeShapes Go.WideShapes Go.ChangeAt Go.RowKit
set_option linter.unusedVariables false
def laid6 : List (String × DataW Unit) := [("math/bits.deBruijn32tab", Rows.laid_math_bits_deBruijn32tab), ("math/bits.deBruijn64tab", Rows.laid_math_bits_deBruijn64tab), ("internal/strconv.uint64pow10", Rows.laid_internal_strconv_uint64pow10), ("unicode/utf8.acceptRanges", Rows.laid_unicode_utf8_acceptRanges), ("cicerone/event.rows", Rows.laid_cicerone_event_rows), ("unicode/utf8.first", Rows.laid_unicode_utf8_first)]
def laid8 : List (String × DataW Unit) := [("math/bits.deBruijn32tab", Rows.laid_math_bits_deBruijn32tab), ("math/bits.deBruijn64tab", Rows.laid_math_bits_deBruijn64tab), ("internal/strconv.uint64pow10", Rows.laid_internal_strconv_uint64pow10), ("unicode/utf8.acceptRanges", Rows.laid_unicode_utf8_acceptRanges), ("strconv.ErrRange", Rows.laid_strconv_ErrRange), ("strconv.ErrSyntax", Rows.laid_strconv_ErrSyntax), ("cicerone/event.rows", Rows.laid_cicerone_event_rows), ("unicode/utf8.first", Rows.laid_unicode_utf8_first)]
theorem own : ownKnob Tryd.prog.godebug = none := by kernel_rfl
theorem laidOut : laidOutB Tryd.prog = true := by kernel_rfl
theorem g_last : Tryd.prog.globalNamed "math/bits.deBruijn64tab" = some 8 := by kernel_rfl
theorem plain6 (W : World) : laidMetH Tryd.prog laid6 W = laidMet Tryd.prog laid6 W := MakeChecks.laidMetH_plain _ _ _ (by kernel_rfl)
theorem plain8 (W : World) : laidMetH Tryd.prog laid8 W = laidMet Tryd.prog laid8 W := MakeChecks.laidMetH_plain _ _ _ (by kernel_rfl)
theorem nine {W : World} {laid : List (String × DataW Unit)} {ps : List MemPlace} (hl : DataW.LaidVars Tryd.prog W laid ps) (h : ("math/bits.deBruijn64tab", Rows.laid_math_bits_deBruijn64tab) ∈ laid) : 9 ≤ W.heap.size := by
  obtain ⟨g, t, cs, fuel, p, hg, ht, hv, hd⟩ := laid_at hl h
  obtain rfl := Option.some.inj (g_last.symm.trans hg)
  rcases Nat.lt_or_ge 8 W.heap.size with h | h
  · exact h
  · exfalso
    unfold World.var? at hv
    rw [g_last] at hv
    simp [Array.getElem?_eq_none h] at hv
set_option maxRecDepth 100000 in
theorem lay6 {W : World} (h : laidMetH Tryd.prog laid6 W) (hsh : W.ShapedOpen Tryd.prog) : Lay W := by
  rw [plain6] at h
  obtain ⟨ps, hl, _⟩ := h
  exact lay_of hl (by simp [laid6]) (by simp [laid6]) hsh (nine hl (List.mem_cons_of_mem _ (List.mem_cons_self ..)))
set_option maxRecDepth 100000 in
theorem lay8 {W : World} (h : laidMetH Tryd.prog laid8 W) (hsh : W.ShapedOpen Tryd.prog) : Lay W := by
  rw [plain8] at h
  obtain ⟨ps, hl, _⟩ := h
  exact lay_of hl (by simp [laid8]) (by simp [laid8]) hsh (nine hl (List.mem_cons_of_mem _ (List.mem_cons_self ..)))
theorem met6 (os : Os) (args : Array Value) : laidMetH Tryd.prog laid6 ((World.laidAll Tryd.prog os laid6).forCall (fun _ _ => 0) ⟨#[], args, []⟩).memory := by
  rw [plain6]; exact laidMet_laidAll _ (by kernel_rfl) (by kernel_rfl)
theorem met8 (os : Os) (args : Array Value) : laidMetH Tryd.prog laid8 ((World.laidAll Tryd.prog os laid8).forCall (fun _ _ => 0) ⟨#[], args, []⟩).memory := by
  rw [plain8]; exact laidMet_laidAll _ (by kernel_rfl) (by kernel_rfl)
end Go.Proofs.YthfhfekneahonaaDoor
