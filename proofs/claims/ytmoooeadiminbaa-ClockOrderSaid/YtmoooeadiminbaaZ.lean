/- Slices of numbers and of acts that came in: off a row's conditions. -/
import Derived.Test.YtmoooeadiminbaaRows
import Derived.Test.YtmoooeadiminbaaU
import Derived.WalkKit
import Derived.ProofKit
import Derived.OpenShut
import Derived.Carry
import Derived.ChangeSlices
import Derived.ShutString
import Derived.Deep.Slices
namespace Go.Proofs.Ytmoooeadiminbaa
open Go Go.ChangeShapes Go.WideShapes Go.ChangeAt Go.RowKit Go.Deep
set_option linter.unusedVariables false
theorem own : ownKnob Try.prog.godebug = none := by kernel_rfl
theorem laidOut : laidOutB Try.prog = true := by kernel_rfl
theorem c3 : Try.prog.cellsOf 3 = 1 := by kernel_rfl
theorem c29 : Try.prog.cellsOf 29 = 4 := by kernel_rfl
instance : Inhabited Ac := ⟨⟨0, [], 0, 0⟩⟩
/-- A slice shows these numbers; they lie below B. -/
def Ints (w : World) (B : Nat) (v : Value) (ks : List Int) : Prop :=
  (ks = [] ∧ v = .slice none 0 0) ∨ ∃ (ad : Addr) (cap : Nat), v = .slice (some ad) ks.length cap ∧ ks.length ≤ 9223372036854775807 ∧ (0 < ks.length → ad.block < B) ∧ ∀ (j : Nat) (hj : j < ks.length), w.cell? (ad.add j) = some (.int .i64 ks[j])
theorem Ints.below {w w' : World} {B : Nat} {v : Value} {ks : List Int} (h : Ints w B v ks) (hb : Below B w w') : Ints w' B v ks := by
  rcases h with h | ⟨ad, cap, hv, hl, hbb, hh⟩
  · exact .inl h
  · refine .inr ⟨ad, cap, hv, hl, hbb, fun j hj => ?_⟩
    rw [World.cell?_of_block (w := w) (a := ad.add j) (hb.block _ (by rw [add_block]; exact hbb (by omega)))]
    exact hh j hj
theorem Ints.shape {w : World} {B : Nat} {v : Value} {ks : List Int} (h : Ints w B v ks) : ∃ q cap, v = .slice q ks.length cap ∧ ks.length ≤ 9223372036854775807 := by
  rcases h with ⟨rfl, rfl⟩ | ⟨ad, cap, hv, hl, _⟩
  · exact ⟨none, 0, rfl, by simp⟩
  · exact ⟨_, cap, hv, hl⟩
theorem Ints.at {w : World} {B : Nat} {q : Option Addr} {n cap : Nat} {ks : List Int} (h : Ints w B (.slice q n cap) ks) (j : Nat) (hj : j < ks.length) : ∃ ad, q = some ad ∧ ad.block < B ∧ w.cell? (ad.add j) = some (.int .i64 ks[j]) := by
  rcases h with ⟨rfl, _⟩ | ⟨ad, cap', hv, hl, hb, hh⟩
  · simp at hj
  · cases hv
    exact ⟨ad, rfl, hb (by omega), hh j hj⟩
set_option maxRecDepth 100000 in
theorem open_nums {H : Type} {enc : TypeId × Value → H} {W : World} {base : Nat} {v : Value} {d : DataW H} {p : List MemPlace} (hval : Value.okWide Try.prog W .any base 39 v) (h : DataW.Trod enc Try.prog W 0 (fun _ => true) true 39 v d p)
    (hlt : ∀ y ∈ p, y.block < W.heap.size) : ∃ l, Ints W W.heap.size v l := by
  obtain ⟨a1, len, cap, rfl⟩ := okWide_slice Try.underlying39 hval
  obtain ⟨fuel, hf⟩ := h
  rcases open_ints Try.underlying39 Try.underlying3 c3 hf with ⟨hcs, hx⟩ | ⟨a, len', cap', zs, hcs, _, hl, hm, hz, hx, hcell, hwz⟩
  · simp [Value.cells] at hcs
    obtain ⟨rfl, rfl, rfl⟩ := hcs
    exact ⟨[], .inl ⟨rfl, rfl⟩⟩
  · simp [Value.cells] at hcs
    obtain ⟨rfl, rfl, rfl⟩ := hcs
    simp only [Prod.mk.injEq] at hx
    obtain ⟨-, rfl⟩ := hx
    simp only [if_true] at hz
    have hlen : (zs.take len).length = len := by simp; omega
    refine ⟨zs.take len, .inr ⟨a, cap, by rw [hlen], by rw [hlen]; unfold maxLen at *; omega, fun h0 => ?_, fun j hj => ?_⟩⟩
    · rw [hlen] at h0
      exact hlt (.cell a.block a.off) (MemPlace.mem_row.2 ⟨0, by omega, by simp⟩)
    · rw [hlen] at hj
      rw [hcell j (by omega), List.getElem_take, List.getD_eq_getElem?_getD, List.getElem?_eq_getElem (by omega)]
      rfl
set_option maxRecDepth 100000 in
theorem act_cells {H : Type} {enc : TypeId × Value → H} {w : World} {base : Nat} {held : Bool} {fuel : Nat} {cs : List Value} {x : DataW H × List MemPlace} (hl : cs.length = 4) (hf : DataW.trod enc Try.prog w base (fun _ => true) held fuel 29 cs = some x) :
    ∃ (e : Ac), cs = [.int .i64 e.kind, .string (bs e.name), .int .i64 e.far, .int .i64 e.now] := by
  obtain ⟨ys, m, _, hx, _, hn, hg⟩ := DataW.trod_struct Try.underlying29 hf
  match cs, hl with
  | [x0, x1, x2, x3], _ =>
    match ys, hn with
    | [y0, y1, y2, y3], _ =>
      have k0 := hg 0 _ rfl
      have k1 := hg 1 _ rfl
      have k2 := hg 2 _ rfl
      have k3 := hg 3 _ rfl
      replace k0 : DataW.trod enc Try.prog w base (fun _ => true) held m 3 [x0] = some y0 := k0
      replace k1 : DataW.trod enc Try.prog w base (fun _ => true) held m 9 [x1] = some y1 := k1
      replace k2 : DataW.trod enc Try.prog w base (fun _ => true) held m 3 [x2] = some y2 := k2
      replace k3 : DataW.trod enc Try.prog w base (fun _ => true) held m 3 [x3] = some y3 := k3
      obtain ⟨s, q0, _, _⟩ := DataW.trod_int Try.underlying3 k0
      obtain ⟨a, q1, _, _⟩ := DataW.trod_string Try.underlying9 k1
      obtain ⟨n, q2, _, _⟩ := DataW.trod_int Try.underlying3 k2
      obtain ⟨t, q3, _, _⟩ := DataW.trod_int Try.underlying3 k3
      simp only [List.cons.injEq, and_true] at q0 q1 q2 q3
      exact ⟨⟨s, a.data.toList, n, t⟩, by rw [q0, q1, q2, q3, data_bs]⟩
set_option maxRecDepth 100000 in
theorem open_ops {H : Type} {enc : TypeId × Value → H} {W : World} {base : Nat} {v : Value} {d : DataW H} {p : List MemPlace} (hval : Value.okWide Try.prog W .any base 22 v) (h : DataW.Trod enc Try.prog W 0 (fun _ => true) true 22 v d p)
    (hlt : ∀ y ∈ p, y.block < W.heap.size) : ∃ l, Acs W W.heap.size v l := by
  obtain ⟨a1, len, cap, rfl⟩ := okWide_slice Try.underlying22 hval
  obtain ⟨fuel, hf⟩ := h
  rcases open_slice Try.underlying22 hf with ⟨hcs, hx⟩ | ⟨a, len', cap', m, n, D, Pl, hcs, _, hl, hm, hmm, hx, hcell⟩
  · simp [Value.cells] at hcs
    obtain ⟨rfl, rfl, rfl⟩ := hcs
    exact ⟨[], .inl ⟨rfl, rfl⟩⟩
  · simp [Value.cells] at hcs
    obtain ⟨rfl, rfl, rfl⟩ := hcs
    simp only [Prod.mk.injEq] at hx
    obtain ⟨rfl, rfl⟩ := hx
    simp only [if_true] at hmm
    subst hmm
    rw [c29] at hcell hlt
    obtain ⟨f, hf⟩ := choose_lt (α := Ac) (p := fun i e => AcIn W a i e) (n := len) (fun i hi => by
      obtain ⟨cs', h1, h2⟩ := hcell i (by omega)
      obtain ⟨_, hlen, hget⟩ := World.cells?_some h1
      obtain ⟨e, rfl⟩ := act_cells hlen h2
      refine ⟨e, ?_⟩
      have g0 := hget 0 (by omega)
      rw [Addr.add_zero'] at g0
      exact ⟨g0, hget 1 (by omega), hget 2 (by omega), hget 3 (by omega)⟩)
    refine ⟨(List.range len).map f, .inr ⟨a, m, by simp, by simp; omega, by unfold maxLen at *; omega, fun h0 => hlt (.cell a.block a.off) (List.mem_append_left _ (MemPlace.mem_row.2 ⟨0, by simp at h0; omega, by simp⟩)), fun j hj => ?_⟩⟩
    simp only [List.length_map, List.length_range] at hj
    simp only [List.getElem_map, List.getElem_range]
    exact hf j hj
end Go.Proofs.Ytmoooeadiminbaa
