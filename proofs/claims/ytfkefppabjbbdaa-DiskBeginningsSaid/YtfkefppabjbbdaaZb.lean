/- A slice of calls that came in: off a row's conditions. -/
import Derived.Test.YtfkefppabjbbdaaZ
import Derived.Test.YtfkefppabjbbdaaU
import Derived.Deep.Slices
namespace Go.Proofs.Ytfkefppabjbbdaa
open Go Go.ChangeShapes Go.WideShapes Go.ChangeAt Go.RowKit Go.Deep
set_option linter.unusedVariables false
theorem c41 : Try.prog.cellsOf 41 = 5 := by kernel_rfl
instance : Inhabited Cl := ⟨⟨0, 0, [], [], []⟩⟩
theorem nums_of {H : Type} {enc : TypeId × Value → H} {W : World} {base : Nat} {fuel : Nat} {held : Bool} {cs : List Value} {x : DataW H × List MemPlace} (hf : DataW.trod enc Try.prog W base (fun _ => true) held fuel 38 cs = some x)
    (hlt : ∀ y ∈ x.2, y.block < W.heap.size) : ∃ v l, cs = [v] ∧ Ints W (fun i => i < W.heap.size) v l := by
  rcases open_ints Try.underlying38 Try.underlying3 c3 hf with ⟨hcs, _⟩ | ⟨a, len', cap', zs, hcs, _⟩
  · obtain ⟨l, hl⟩ := ints_in (W := W) (a1 := none) (len := 0) (cap := 0) rfl (by rw [hcs] at hf; exact hf) hlt
    exact ⟨_, l, hcs, hl⟩
  · obtain ⟨l, hl⟩ := ints_in (W := W) (a1 := some a) (len := len') (cap := cap') rfl (by rw [hcs] at hf; exact hf) hlt
    exact ⟨_, l, hcs, hl⟩
set_option maxRecDepth 100000 in
theorem call_cells {H : Type} {enc : TypeId × Value → H} {w : World} {base : Nat} {held : Bool} {fuel : Nat} {cs : List Value} {x : DataW H × List MemPlace} (hl : cs.length = 5) (hf : DataW.trod enc Try.prog w base (fun _ => true) held fuel 41 cs = some x)
    (hlt : ∀ y ∈ x.2, y.block < w.heap.size) :
    ∃ (e : Cl) (kv : Value), cs = [.int .i64 e.kind, .int .i64 e.n, .string (bs e.name), .string (bs e.s), kv] ∧ (-9223372036854775808 ≤ e.n ∧ e.n ≤ 9223372036854775807) ∧ Ints w (fun i => i < w.heap.size) kv e.keep := by
  obtain ⟨ys, m, _, hx, _, hn, hg⟩ := DataW.trod_struct Try.underlying41 hf
  match cs, hl with
  | [x0, x1, x2, x3, x4], _ =>
    match ys, hn with
    | [y0, y1, y2, y3, y4], _ =>
      have k0 := hg 0 _ rfl
      have k1 := hg 1 _ rfl
      have k2 := hg 2 _ rfl
      have k3 := hg 3 _ rfl
      have k4 := hg 4 _ rfl
      replace k0 : DataW.trod enc Try.prog w base (fun _ => true) held m 3 [x0] = some y0 := k0
      replace k1 : DataW.trod enc Try.prog w base (fun _ => true) held m 3 [x1] = some y1 := k1
      replace k2 : DataW.trod enc Try.prog w base (fun _ => true) held m 9 [x2] = some y2 := k2
      replace k3 : DataW.trod enc Try.prog w base (fun _ => true) held m 9 [x3] = some y3 := k3
      replace k4 : DataW.trod enc Try.prog w base (fun _ => true) held m 38 [x4] = some y4 := k4
      obtain ⟨s, q0, _, _⟩ := DataW.trod_int Try.underlying3 k0
      obtain ⟨n, q1, _, wn⟩ := DataW.trod_int Try.underlying3 k1
      obtain ⟨a, q2, _, _⟩ := DataW.trod_string Try.underlying9 k2
      obtain ⟨b, q3, _, _⟩ := DataW.trod_string Try.underlying9 k3
      obtain ⟨v, l, q4, hI⟩ := nums_of k4 (fun y hy => hlt y (by rw [hx]; simp [hy]))
      simp only [List.cons.injEq, and_true] at q0 q1 q2 q3 q4
      exact ⟨⟨s, n, a.data.toList, b.data.toList, l⟩, v, by rw [q0, q1, q2, q3, q4, data_bs, data_bs], bounds_i64 wn, hI⟩
set_option maxRecDepth 100000 in
theorem open_ops {H : Type} {enc : TypeId × Value → H} {W : World} {base : Nat} {v : Value} {d : DataW H} {p : List MemPlace} (hval : Value.okWide Try.prog W .any base 22 v) (h : DataW.Trod enc Try.prog W 0 (fun _ => true) true 22 v d p)
    (hlt : ∀ y ∈ p, y.block < W.heap.size) : ∃ l, Cls W W.heap.size v l := by
  obtain ⟨a1, len, cap, rfl⟩ := okWide_slice Try.underlying22 hval
  obtain ⟨fuel, hf⟩ := h
  rcases open_slice Try.underlying22 hf with ⟨hcs, hx⟩ | ⟨a, len', cap', m, n, D, Pl, hcs, _, hl, hm, hmm, hx, hcell⟩
  · simp [Value.cells] at hcs
    obtain ⟨rfl, rfl, rfl⟩ := hcs
    exact ⟨[], .inl ⟨rfl, rfl⟩⟩
  · simp [Value.cells] at hcs
    obtain ⟨rfl, rfl, rfl⟩ := hcs
    simp only [Prod.mk.injEq] at hx
    obtain ⟨rfl, rfl⟩ := hx
    simp only [if_true] at hmm
    subst hmm
    rw [c41] at hcell hlt
    obtain ⟨f, hf⟩ := choose_lt (α := Cl) (p := fun i e => ClIn W W.heap.size a i e) (n := len) (fun i hi => by
      obtain ⟨cs', h1, h2⟩ := hcell i (by omega)
      obtain ⟨_, hlen, hget⟩ := World.cells?_some h1
      obtain ⟨e, kv, rfl, hb, hI⟩ := call_cells hlen h2 (fun y hy => hlt y (List.mem_append_right _ (List.mem_flatMap.2 ⟨i, by simp; omega, hy⟩)))
      refine ⟨e, hb, kv, ?_⟩
      have g0 := hget 0 (by omega)
      rw [Addr.add_zero'] at g0
      exact ⟨g0, hget 1 (by omega), hget 2 (by omega), hget 3 (by omega), hget 4 (by omega), hI⟩)
    refine ⟨(List.range len).map f, .inr ⟨a, m, by simp, by simp; unfold maxLen at *; omega, fun h0 => hlt (.cell a.block a.off) (List.mem_append_left _ (MemPlace.mem_row.2 ⟨0, by simp at h0; omega, by simp⟩)), fun j hj => ?_⟩⟩
    simp only [List.length_map, List.length_range] at hj
    simp only [List.getElem_map, List.getElem_range]
    exact hf j hj
end Go.Proofs.Ytfkefppabjbbdaa
