/- A slice of slices of bytes that came in: off a row's conditions. -/
import Derived.Test.YtcmceibaaaadoaaZ
import Derived.Test.YtcmceibaaaadoaaN
import Derived.Deep.Slices
namespace Go.Proofs.Ytcmceibaaaadoaa
open Go Go.ChangeShapes Go.WideShapes Go.ChangeAt Go.RowKit Go.Deep
set_option linter.unusedVariables false
theorem c22 : Try.prog.cellsOf 22 = 1 := by kernel_rfl
theorem bytes_of {H : Type} {enc : TypeId × Value → H} {W : World} {base : Nat} {fuel : Nat} {held : Bool} {cs : List Value} {x : DataW H × List MemPlace} (hf : DataW.trod enc Try.prog W base (fun _ => true) held fuel 22 cs = some x)
    (hlt : ∀ y ∈ x.2, y.block < W.heap.size) : ∃ v l, cs = [v] ∧ Seen W W.heap.size v l := by
  rcases open_ints Try.underlying22 Try.underlying5 c5 hf with ⟨hcs, _⟩ | ⟨a, len', cap', zs, hcs, _⟩
  · obtain ⟨l, hl⟩ := bytes_in (W := W) (a1 := none) (len := 0) (cap := 0) rfl (by rw [hcs] at hf; exact hf) hlt
    exact ⟨_, l, hcs, hl⟩
  · obtain ⟨l, hl⟩ := bytes_in (W := W) (a1 := some a) (len := len') (cap := cap') rfl (by rw [hcs] at hf; exact hf) hlt
    exact ⟨_, l, hcs, hl⟩
theorem open_lists {H : Type} {enc : TypeId × Value → H} {W : World} {base : Nat} {v : Value} {d : DataW H} {p : List MemPlace} (hval : Value.okWide Try.prog W .any base 35 v) (h : DataW.Trod enc Try.prog W 0 (fun _ => true) true 35 v d p)
    (hlt : ∀ y ∈ p, y.block < W.heap.size) : ∃ ps, Lists W W.heap.size v ps := by
  obtain ⟨a1, len, cap, rfl⟩ := okWide_slice Try.underlying35 hval
  obtain ⟨fuel, hf⟩ := h
  rcases open_slice1 Try.underlying35 c22 hf with ⟨hcs, hx⟩ | ⟨a, len', cap', m, n, V, D, Pl, hcs, _, hl, hm, hmm, hx, hcell⟩
  · simp [Value.cells] at hcs
    obtain ⟨rfl, rfl, rfl⟩ := hcs
    exact ⟨[], .inl ⟨rfl, rfl⟩⟩
  · simp [Value.cells] at hcs
    obtain ⟨rfl, rfl, rfl⟩ := hcs
    simp only [Prod.mk.injEq] at hx
    obtain ⟨rfl, rfl⟩ := hx
    simp only [if_true] at hmm
    subst hmm
    obtain ⟨f, hf⟩ := choose_lt (α := List UInt8) (p := fun i l => Seen W W.heap.size (V i) l) (n := len) (fun i hi => by
      obtain ⟨_, h2⟩ := hcell i (by omega)
      obtain ⟨v, l, hv, hs⟩ := bytes_of h2 (fun y hy => hlt y (List.mem_append_right _ (List.mem_flatMap.2 ⟨i, by simp; omega, hy⟩)))
      obtain rfl : V i = v := by simpa using hv
      exact ⟨l, hs⟩)
    refine ⟨(List.range len).map f, .inr ⟨a, m, by simp, by simp; omega, fun h0 => hlt (.cell a.block a.off) (List.mem_append_left _ (MemPlace.mem_row.2 ⟨0, by simp at h0; omega, by simp⟩)), fun j hj => ?_⟩⟩
    simp only [List.length_map, List.length_range] at hj
    simp only [List.getElem_map, List.getElem_range]
    exact ⟨V j, (hcell j (by omega)).1, hf j hj⟩
end Go.Proofs.Ytcmceibaaaadoaa
