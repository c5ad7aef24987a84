/- A slice of events that came in: off a row's conditions. -/
import Derived.Test.YtghnbkkfghfifaaGreatDoorEZb
import Derived.Test.YtghnbkkfghfifaaGreatDoorERa
import Derived.Deep.Slices
namespace Go.Proofs.YtghnbkkfghfifaaGreatDoor.E
open Go Go.ChangeShapes Go.WideShapes Go.ChangeAt Go.RowKit Go.Deep
set_option linter.unusedVariables false
theorem c24 : Tryz.prog.cellsOf 52 = 8 := by kernel_rfl
instance : Inhabited Ev := ⟨zeroE⟩
set_option maxRecDepth 100000 in
theorem ev_cells {H : Type} {enc : TypeId × Value → H} {w : World} {base : Nat} {spare : Nat → Bool} {held : Bool} {fuel : Nat} {cs : List Value} {x : DataW H × List MemPlace} (hl : cs.length = 8) (hf : DataW.trod enc Tryz.prog w base spare held fuel 52 cs = some x) :
    ∃ e : Ev, cs = [.string e.s, .int .i64 e.n, .int .i64 e.a, .int .i64 e.k, .string e.p, .string e.i, .int .i64 e.v, .string e.t] := by
  obtain ⟨ys, m, _, hx, _, hn, hg⟩ := DataW.trod_struct Tryz.underlying52 hf
  match cs, hl with
  | [x0, x1, x2, x3, x4, x5, x6, x7], _ =>
    match ys, hn with
    | [y0, y1, y2, y3, y4, y5, y6, y7], _ =>
      have k0 := hg 0 _ rfl
      have k1 := hg 1 _ rfl
      have k2 := hg 2 _ rfl
      have k3 := hg 3 _ rfl
      have k4 := hg 4 _ rfl
      have k5 := hg 5 _ rfl
      have k6 := hg 6 _ rfl
      have k7 := hg 7 _ rfl
      replace k0 : DataW.trod enc Tryz.prog w base spare held m 9 [x0] = some y0 := k0
      replace k1 : DataW.trod enc Tryz.prog w base spare held m 3 [x1] = some y1 := k1
      replace k2 : DataW.trod enc Tryz.prog w base spare held m 3 [x2] = some y2 := k2
      replace k3 : DataW.trod enc Tryz.prog w base spare held m 50 [x3] = some y3 := k3
      replace k4 : DataW.trod enc Tryz.prog w base spare held m 9 [x4] = some y4 := k4
      replace k5 : DataW.trod enc Tryz.prog w base spare held m 9 [x5] = some y5 := k5
      replace k6 : DataW.trod enc Tryz.prog w base spare held m 3 [x6] = some y6 := k6
      replace k7 : DataW.trod enc Tryz.prog w base spare held m 9 [x7] = some y7 := k7
      obtain ⟨s, q0, _, _⟩ := DataW.trod_string Tryz.underlying9 k0
      obtain ⟨n, q1, _, _⟩ := DataW.trod_int Tryz.underlying3 k1
      obtain ⟨a, q2, _, _⟩ := DataW.trod_int Tryz.underlying3 k2
      obtain ⟨k, q3, _, _⟩ := DataW.trod_int Tryz.underlying50 k3
      obtain ⟨q, q4, _, _⟩ := DataW.trod_string Tryz.underlying9 k4
      obtain ⟨i, q5, _, _⟩ := DataW.trod_string Tryz.underlying9 k5
      obtain ⟨v, q6, _, _⟩ := DataW.trod_int Tryz.underlying3 k6
      obtain ⟨t, q7, _, _⟩ := DataW.trod_string Tryz.underlying9 k7
      simp only [List.cons.injEq, and_true] at q0 q1 q2 q3 q4 q5 q6 q7
      exact ⟨⟨s, n, a, k, q, i, v, t⟩, by rw [q0, q1, q2, q3, q4, q5, q6, q7]⟩
set_option maxRecDepth 100000 in
theorem open_evs {H : Type} {enc : TypeId × Value → H} {W : World} {base : Nat} {v : Value} {d : DataW H} {p : List MemPlace} (hval : Value.okWide Tryz.prog W .any base 62 v) (h : DataW.Trod enc Tryz.prog W 0 (fun _ => true) true 62 v d p)
    (hlt : ∀ y ∈ p, y.block < W.heap.size) : ∃ es, Evs W W.heap.size v es := by
  obtain ⟨a1, len, cap, rfl⟩ := okWide_slice Tryz.underlying62 hval
  obtain ⟨fuel, hf⟩ := h
  rcases open_slice Tryz.underlying62 hf with ⟨hcs, hx⟩ | ⟨a, len', cap', m, n, D, Pl, hcs, _, hl, hm, hmm, hx, hcell⟩
  · simp [Value.cells] at hcs
    obtain ⟨rfl, rfl, rfl⟩ := hcs
    exact ⟨[], .inl ⟨rfl, rfl⟩⟩
  · simp [Value.cells] at hcs
    obtain ⟨rfl, rfl, rfl⟩ := hcs
    simp only [Prod.mk.injEq] at hx
    obtain ⟨rfl, rfl⟩ := hx
    simp only [if_true] at hmm
    subst hmm
    rw [c24] at hcell hlt
    obtain ⟨f, hf⟩ := choose_lt (α := Ev) (p := fun i e => EvIn W a i e) (n := len) (fun i hi => by
      obtain ⟨cs', h1, h2⟩ := hcell i (by omega)
      obtain ⟨_, hlen, hget⟩ := World.cells?_some h1
      obtain ⟨e, rfl⟩ := ev_cells hlen h2
      refine ⟨e, ?_⟩
      have g0 := hget 0 (by omega)
      rw [Addr.add_zero'] at g0
      exact ⟨g0, hget 1 (by omega), hget 2 (by omega), hget 3 (by omega), hget 4 (by omega), hget 5 (by omega), hget 6 (by omega), hget 7 (by omega)⟩)
    refine ⟨(List.range len).map f, .inr ⟨a, m, by simp, by simp; omega, fun h0 => hlt (.cell a.block a.off) (List.mem_append_left _ (MemPlace.mem_row.2 ⟨0, by simp at h0; omega, by simp⟩)), fun j hj => ?_⟩⟩
    simp only [List.length_map, List.length_range] at hj
    simp only [List.getElem_map, List.getElem_range]
    exact hf j hj
end Go.Proofs.YtghnbkkfghfifaaGreatDoor.E
