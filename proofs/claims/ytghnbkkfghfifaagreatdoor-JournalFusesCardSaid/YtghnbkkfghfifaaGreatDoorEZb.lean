/- What the rows share: the listed variables, and what the walks ask, out of them. -/
import Derived.Test.YtghnbkkfghfifaaGreatDoorCards
import Derived.Test.YtghnbkkfghfifaaGreatDoorTie
import Derived.Test.YtghnbkkfghfifaaGreatDoorEZ
import Derived.SevenTiedAt
namespace Go.Proofs.YtghnbkkfghfifaaGreatDoor.E
open Go Go.ChangeShapes Go.WideShapes Go.ChangeAt Go.RowKit
set_option linter.unusedVariables false
def laid6 : List (String × DataW Unit) := [("math/bits.deBruijn32tab", Rows.laid_math_bits_deBruijn32tab), ("math/bits.deBruijn64tab", Rows.laid_math_bits_deBruijn64tab), ("internal/strconv.uint64pow10", Rows.laid_internal_strconv_uint64pow10), ("unicode/utf8.acceptRanges", Rows.laid_unicode_utf8_acceptRanges), ("cicerone/event.rows", Rows.laid_cicerone_event_rows), ("unicode/utf8.first", Rows.laid_unicode_utf8_first)]
theorem own : ownKnob Tryz.prog.godebug = none := by kernel_rfl
theorem laidOut : laidOutB Tryz.prog = true := by kernel_rfl
theorem g_last : Tryz.prog.globalNamed "unicode/utf8.acceptRanges" = some 6 := by kernel_rfl
theorem plain6 (W : World) : laidMetH Tryz.prog laid6 W = laidMet Tryz.prog laid6 W := MakeChecks.laidMetH_plain _ _ _ (by kernel_rfl)
theorem nine {W : World} {laid : List (String × DataW Unit)} {ps : List MemPlace} (hl : DataW.LaidVars Tryz.prog W laid ps) (h : ("unicode/utf8.acceptRanges", Rows.laid_unicode_utf8_acceptRanges) ∈ laid) : 7 ≤ W.heap.size := by
  obtain ⟨g, t, cs, fuel, p, hg, ht, hv, hd⟩ := laid_at hl h
  obtain rfl := Option.some.inj (g_last.symm.trans hg)
  rcases Nat.lt_or_ge 6 W.heap.size with h | h
  · exact h
  · exfalso
    unfold World.var? at hv
    rw [g_last] at hv
    simp [Array.getElem?_eq_none h] at hv
set_option maxRecDepth 100000 in
theorem lay6 {W : World} (h : laidMetH Tryz.prog laid6 W) (hsh : W.ShapedOpen Tryz.prog) : Lay W := by
  rw [plain6] at h
  obtain ⟨ps, hl, _⟩ := h
  exact lay_of hl (by simp [laid6]) (by simp [laid6]) hsh (nine hl (by simp [laid6]))
theorem met6 (os : Os) (args : Array Value) : laidMetH Tryz.prog laid6 ((World.laidAll Tryz.prog os laid6).forCall (fun _ _ => 0) ⟨#[], args, []⟩).memory := by
  rw [plain6]; exact laidMet_laidAll _ (by kernel_rfl) (by kernel_rfl)
end Go.Proofs.YtghnbkkfghfifaaGreatDoor.E
