/- A text parsed: the program's, whole. -/
import Derived.Test.YthfhfekneahonaaDoorEe
namespace Go.Proofs.YthfhfekneahonaaDoor
open Go.RowKit
set_option linter.unusedVariables false
theorem mem_sum : ∀ (l : List (List UInt8)) (x : List UInt8), x ∈ l → x.length + 1 ≤ (l.map (fun x => x.length + 1)).sum
  | [], _, h => by cases h
  | y :: l, x, h => by
    rw [List.map_cons, List.sum_cons]
    rcases List.mem_cons.1 h with rfl | h
    · omega
    · have := mem_sum l x h; omega
theorem part_size {c : UInt8} {s x : ByteArray} (h : x ∈ partsB c s) : x.size ≤ s.size := by
  unfold partsB at h
  obtain ⟨l, hl, rfl⟩ := List.mem_map.1 h
  have h1 := mem_sum _ l hl
  rw [parts_sum] at h1
  rw [bs_size]
  have : s.data.toList.length = s.size := by simp
  omega
theorem parse_is {s : ByteArray} {e : Ev} (h : Is s e) (hs : s.size ≤ 1000) (w : World) (hL : LayE w) :
    Calls Tryd.prog 37 #[.string s] w fun q w' => q = .returned (.tuple #[.agg #[.string e.s, .int .i64 e.n, .int .i64 e.a, .int .i64 e.k, .string e.p, .string e.i, .int .i64 e.v, .string e.t], .int .i64 0]) ∧ Below w.heap.size w w' := by
  obtain ⟨a, b, c, d, p, i, v, t, hw, he, _⟩ := h.words
  subst he
  have hb := part_size (c := 32) (s := s) (x := b) (by rw [hw]; simp)
  have hc := part_size (c := 32) (s := s) (x := c) (by rw [hw]; simp)
  have hv := part_size (c := 32) (s := s) (x := v) (by rw [hw]; simp)
  have C := parse_eight s a b c d p i v t (bs (fmtL (evP a b c d p i v t))) hs hw (by omega) (by omega) (by omega) (fun w hL => fmt_at h.1 w hL) true (by rw [eqB, h.2, data_bs]; simp) w hL
  exact C
theorem parts_long {c : UInt8} {s : ByteArray} (h : 2 ≤ (partsB c s).length) : 1 ≤ s.size := by
  have h1 := parts_le c s.data.toList
  rw [← partsB_length] at h1
  have : s.data.toList.length = s.size := by simp
  omega
theorem parse_not {s : ByteArray} (h : ∀ e, ¬ Is s e) (hs : s.size ≤ 1000) (w : World) (hL : LayE w) :
    Calls Tryd.prog 37 #[.string s] w fun q w' => q = .returned (.tuple #[.agg #[.string ⟨#[]⟩, .int .i64 0, .int .i64 0, .int .i64 0, .string ⟨#[]⟩, .string ⟨#[]⟩, .int .i64 0, .string ⟨#[]⟩], .int .i64 2]) ∧ Below w.heap.size w w' := by
  by_cases h8 : (partsB 32 s).length = 8
  · obtain ⟨a, b, c, d, p, i, v, t, hw⟩ := eight h8
    have hb := part_size (c := 32) (s := s) (x := b) (by rw [hw]; simp)
    have hc := part_size (c := 32) (s := s) (x := c) (by rw [hw]; simp)
    have hv := part_size (c := 32) (s := s) (x := v) (by rw [hw]; simp)
    have ht := part_size (c := 32) (s := s) (x := t) (by rw [hw]; simp)
    have ht2 := unpt_size t
    by_cases hm : mayB (evP a b c d p i v t) = true
    · exact parse_eight s a b c d p i v t (bs (fmtL (evP a b c d p i v t))) hs hw (by omega) (by omega) (by omega) (fun w hL => fmt_at hm w hL) false (by
        rw [eqB]
        simp only [decide_eq_false_iff_not]
        intro e
        exact h _ ⟨hm, by rw [← e, bs_data]⟩) w hL
    · exact parse_eight s a b c d p i v t ⟨#[]⟩ hs hw (by omega) (by omega) (by omega) (fun w hL => fmt_no _ _ _ _ _ _ _ _ (by omega) (Bool.not_eq_true _ ▸ hm) w hL) false (by
        rw [eqB]
        simp only [decide_eq_false_iff_not]
        intro e
        have := parts_long (c := 32) (s := s) (by omega)
        rw [← e] at this
        exact absurd this (by decide)) w hL
  · exact parse_few s hs h8 w hL
end Go.Proofs.YthfhfekneahonaaDoor
