/- The two variables of errors, out of a row's conditions. -/
import Derived.Test.YthfhfekneahonaaDoorZb
import Derived.Stop.LaidErr
namespace Go.Proofs.YthfhfekneahonaaDoor
open Go Go.ChangeShapes Go.WideShapes Go.ChangeAt Go.RowKit
set_option linter.unusedVariables false
theorem er_star : "*" ++ "errors.errorString" = "*errors.errorString" := by decide
theorem er_row (u : TypeId) (h : Tryd.prog.typeName? 3 u = some "*errors.errorString") : u = 149 :=
  typeName_ptr_named (nm := "errors.errorString") (by rw [er_star]; kernel_rfl) (by kernel_rfl) (by decide) u (by rw [er_star]; exact h)
theorem g_rng : Tryd.prog.globalNamed "strconv.ErrRange" = some 4 := by kernel_rfl
theorem g_syn : Tryd.prog.globalNamed "strconv.ErrSyntax" = some 3 := by kernel_rfl
theorem t_rng : (Tryd.prog.globals[4]?).map (·.type) = some 103 := by kernel_rfl
theorem t_syn : (Tryd.prog.globals[3]?).map (·.type) = some 103 := by kernel_rfl
theorem u_err : ∃ ms, Tryd.prog.underlying 103 = some (.interface ms) := ⟨_, Tryd.underlying103⟩
theorem u_ptr : Tryd.prog.underlying 149 = some (.pointer 151) := by kernel_rfl
theorem c151 : Tryd.prog.cellsOf 151 = 1 := by kernel_rfl
set_option maxRecDepth 100000 in
theorem err8 {W : World} (h : laidMetH Tryd.prog laid8 W) : (∃ tp p, W.cell? ⟨3, 0, none⟩ = some (.iface tp p)) ∧ ∃ tp p, W.cell? ⟨4, 0, none⟩ = some (.iface tp p) := by
  rw [plain8] at h
  obtain ⟨ms, hu⟩ := u_err
  have h4 := h.tail.tail.tail.tail
  have h5 := h4.tail
  obtain ⟨a4, s4, v4, _⟩ := laid_sentinel h4 g_rng t_rng hu er_row u_ptr Tryd.underlying151 rfl rfl Tryd.underlying9 c151 c9
  obtain ⟨a5, s5, v5, _⟩ := laid_sentinel h5 g_syn t_syn hu er_row u_ptr Tryd.underlying151 rfl rfl Tryd.underlying9 c151 c9
  exact ⟨⟨_, _, by have := World.var?_cell g_syn v5 0; simpa using this⟩, ⟨_, _, by have := World.var?_cell g_rng v4 0; simpa using this⟩⟩
end Go.Proofs.YthfhfekneahonaaDoor
