/- A slice of numbers that came in: off a row's conditions. -/
import Derived.Test.YtfkefppabjbbdaaRows
import Derived.Test.YtfkefppabjbbdaaO
import Derived.WalkKit
import Derived.ProofKit
import Derived.OpenShut
import Derived.Carry
import Derived.ChangeSlices
import Derived.ShutString
namespace Go.Proofs.Ytfkefppabjbbdaa
open Go Go.ChangeShapes Go.WideShapes Go.ChangeAt Go.RowKit
set_option linter.unusedVariables false
theorem own : ownKnob Try.prog.godebug = none := by kernel_rfl
theorem laidOut : laidOutB Try.prog = true := by kernel_rfl
theorem c3 : Try.prog.cellsOf 3 = 1 := by kernel_rfl
set_option maxRecDepth 100000 in
theorem ints_in {H : Type} {enc : TypeId × Value → H} {W : World} {base : Nat} {fuel : Nat} {held : Bool} {spare : Nat → Bool} (hsp : spare = fun _ => true) {a1 : Option Addr} {len cap : Nat} {x : DataW H × List MemPlace} (hf : DataW.trod enc Try.prog W base spare held fuel 38 (Value.slice a1 len cap).cells.toList = some x)
    (hlt : ∀ y ∈ x.2, y.block < W.heap.size) : ∃ l, Ints W (fun i => i < W.heap.size) (.slice a1 len cap) l := by
  subst hsp
  rcases open_ints Try.underlying38 Try.underlying3 c3 hf with ⟨hcs, hx⟩ | ⟨a, len', cap', zs, hcs, _, hl, hm, hz, hx, hcell, hwz⟩
  · simp [Value.cells] at hcs
    obtain ⟨rfl, rfl, rfl⟩ := hcs
    exact ⟨[], .inl ⟨rfl, rfl⟩⟩
  · simp [Value.cells] at hcs
    obtain ⟨rfl, rfl, rfl⟩ := hcs
    subst hx
    simp only [if_true] at hz
    have hlen : (zs.take len).length = len := by simp; omega
    refine ⟨zs.take len, .inr ⟨a, cap, by rw [hlen], fun h0 => ?_, fun j hj => ?_⟩⟩
    · rw [hlen] at h0
      have := hlt (.cell a.block a.off) (MemPlace.mem_row.2 ⟨0, by omega, by simp⟩)
      exact ⟨this, this⟩
    · rw [hlen] at hj
      rw [hcell j (by omega), List.getElem_take, List.getD_eq_getElem?_getD, List.getElem?_eq_getElem (by omega)]
      rfl
set_option maxRecDepth 100000 in
theorem open_nums {H : Type} {enc : TypeId × Value → H} {W : World} {base : Nat} {v : Value} {d : DataW H} {p : List MemPlace} (hval : Value.okWide Try.prog W .any base 38 v) (h : DataW.Trod enc Try.prog W 0 (fun _ => true) true 38 v d p)
    (hlt : ∀ y ∈ p, y.block < W.heap.size) : ∃ l, Ints W (fun i => i < W.heap.size) v l := by
  obtain ⟨a1, len, cap, rfl⟩ := okWide_slice Try.underlying38 hval
  obtain ⟨fuel, hf⟩ := h
  exact ints_in rfl hf hlt
end Go.Proofs.Ytfkefppabjbbdaa
