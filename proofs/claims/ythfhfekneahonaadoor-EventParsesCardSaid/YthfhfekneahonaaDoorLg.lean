/- The walk of EventParses. -/
import Derived.Test.YthfhfekneahonaaDoorEh
import Derived.Test.YthfhfekneahonaaDoorP
namespace Go.Proofs.YthfhfekneahonaaDoor
open Go.RowKit
set_option linter.unusedVariables false
theorem rparse_is {s : ByteArray} {e : Ev} (h : Is s e) (hs : s.size ≤ 1000) (w : World) (hL : LayE w) :
    Calls Tryd.prog 39 #[.string s] w fun q w' => q = .returned (.tuple #[.agg #[.string e.s, .int .i64 e.n, .int .i64 e.a, .int .i64 e.k, .string e.p, .string e.i, .int .i64 e.v, .string e.t], .bool true]) ∧ Below w.heap.size w w' := by
  obtain ⟨a, b, c, d, p, i, v, t, hw, _, he⟩ := h.words
  subst he
  have hb := part_size (c := 32) (s := s) (x := b) (by rw [hw]; simp)
  have hc := part_size (c := 32) (s := s) (x := c) (by rw [hw]; simp)
  have hv := part_size (c := 32) (s := s) (x := v) (by rw [hw]; simp)
  have ht := part_size (c := 32) (s := s) (x := t) (by rw [hw]; simp)
  have ht2 := unpt_size t
  exact rparse_eight s a b c d p i v t (bs (fmtL (evR a b c d p i v t))) hs hw (by omega) (by omega) (by omega) (by omega) true true h.1 (fun _ w hL => rfmt_at h.1 w hL) (fun _ => by rw [eqB, h.2, data_bs]; simp) w hL
theorem rparse_not {s : ByteArray} (h : ∀ e, ¬ Is s e) (hs : s.size ≤ 1000) (w : World) (hL : LayE w) :
    Calls Tryd.prog 39 #[.string s] w fun q w' => q = .returned (.tuple #[.agg #[.string ⟨#[]⟩, .int .i64 0, .int .i64 0, .int .i64 0, .string ⟨#[]⟩, .string ⟨#[]⟩, .int .i64 0, .string ⟨#[]⟩], .bool false]) ∧ Below w.heap.size w w' := by
  by_cases h8 : (partsB 32 s).length = 8
  · obtain ⟨a, b, c, d, p, i, v, t, hw⟩ := eight h8
    have hb := part_size (c := 32) (s := s) (x := b) (by rw [hw]; simp)
    have hc := part_size (c := 32) (s := s) (x := c) (by rw [hw]; simp)
    have hv := part_size (c := 32) (s := s) (x := v) (by rw [hw]; simp)
    have ht := part_size (c := 32) (s := s) (x := t) (by rw [hw]; simp)
    have ht2 := unpt_size t
    cases hm : mayB (evR a b c d p i v t) with
    | true =>
      exact rparse_eight s a b c d p i v t (bs (fmtL (evR a b c d p i v t))) hs hw (by omega) (by omega) (by omega) (by omega) true false hm (fun _ w hL => rfmt_at hm w hL) (fun _ => by
        rw [eqB]
        simp only [decide_eq_false_iff_not]
        intro e
        exact h _ ⟨hm, by rw [← e, bs_data]⟩) w hL
    | false =>
      exact rparse_eight s a b c d p i v t ⟨#[]⟩ hs hw (by omega) (by omega) (by omega) (by omega) false false hm (fun e => by cases e) (fun e => by cases e) w hL
  · exact rparse_few s hs h8 w
/-- What stands while a text is parsed. -/
structure LE (W : World) (w : World) : Prop where
  lay : LayE w
  bw : Below W.heap.size W w
theorem LE.below {W w w' : World} (h : LE W w) (hb : Below w.heap.size w w') : LE W w' := ⟨h.lay.next hb, h.bw.trans (hb.mono h.bw.size)⟩
theorem LE.alloc {W w : World} (h : LE W w) (o : Obj) : LE W (w.alloc o) := h.below ((Below.refl _ _).alloc (Nat.le_refl _) o)
set_option maxRecDepth 100000 in
set_option maxHeartbeats 1000000 in
theorem parses_long (s : ByteArray) (h : 1000 < s.size) (w : World) (hL : LayE w) : Calls Tryd.prog 9 #[.string s] w fun e w' => e = .returned (.bool true) ∧ Below w.heap.size w w' := by
  have HL := Lib.hid hL
  have h1 : (1000 : Int) < (s.size : Int) := by omega
  clear hL
  go_enter Tryd.func9, Tryd.ntmps9
  go_wp2_with fail
  refine (lives_any _ HL.out.lay).mono ?_
  rintro e w1 ⟨rfl, hb⟩
  go_wp2_with fail
  go_ret
  exact ⟨rfl, hb⟩
set_option maxRecDepth 100000 in
set_option maxHeartbeats 2000000 in
theorem parses_not (s : ByteArray) (h : ∀ e, ¬ Is s e) (hs : ¬ 1000 < s.size) (w : World) (hL : LayE w) : Calls Tryd.prog 9 #[.string s] w fun e w' => e = .returned (.bool true) ∧ Below w.heap.size w w' := by
  have C1 := fun w hL => parse_not h (by omega) w hL
  have C2 := fun w hL => rparse_not h (by omega) w hL
  have H1 := Lib.hid C1
  have H2 := Lib.hid C2
  have HL := Lib.hid hL
  have h1 : ¬ (1000 : Int) < (s.size : Int) := by omega
  clear hL C1 C2 h
  go_enter Tryd.func9, Tryd.ntmps9
  go_wp2_with fail
  refine (lives_any _ HL.out.lay).mono ?_
  rintro e w1 ⟨rfl, hb⟩
  have M1 : LE w w1 := ⟨HL.out.next hb, hb⟩
  clear hb
  go_wp2_with fail
  refine (H1.out _ M1.lay).mono ?_
  rintro e w2 ⟨rfl, hb⟩
  have M2 := M1.below hb
  have E2 := EvAt.newZ w2
  clear hb
  go_wp2_with fail
  refine (H2.out _ (M2.alloc _).lay).mono ?_
  rintro e w3 ⟨rfl, hb⟩
  have M3 := (M2.alloc _).below hb
  have E3 := E2.below hb (by simp)
  clear hb E2
  obtain ⟨c0, c1, c2, c3, c4, c5, c6, c7⟩ := E3.all
  simp only [zeroE] at c0 c1 c2 c3 c4 c5 c6 c7
  have hlt := E3.lt
  go_wp2_with fail
  go_ret
  exact ⟨rfl, M3.bw.alloc M3.bw.size _⟩
set_option maxRecDepth 100000 in
set_option maxHeartbeats 2000000 in
theorem parses_is (S s : ByteArray) (n a k : Int) (p i : ByteArray) (v : Int) (t : ByteArray) (h : Is S ⟨s, n, a, k, p, i, v, t⟩) (hs : ¬ 1000 < S.size) (w : World) (hL : LayE w) : Calls Tryd.prog 9 #[.string S] w fun e w' => e = .returned (.bool true) ∧ Below w.heap.size w w' := by
  have C1 := fun w hL => parse_is h (by omega) w hL
  have C2 := fun w hL => rparse_is h (by omega) w hL
  have C3 := fun w hL => fmt_at h.1 w hL
  rw [h.2, data_bs] at C3
  have H1 := Lib.hid C1
  have H2 := Lib.hid C2
  have H3 := Lib.hid C3
  have HL := Lib.hid hL
  have h1 : ¬ (1000 : Int) < (S.size : Int) := by omega
  clear hL C1 C2 C3 h
  go_enter Tryd.func9, Tryd.ntmps9
  go_wp2_with fail
  refine (lives_any _ HL.out.lay).mono ?_
  rintro e w1 ⟨rfl, hb⟩
  have M1 : LE w w1 := ⟨HL.out.next hb, hb⟩
  clear hb
  go_wp2_with fail
  refine (H1.out _ M1.lay).mono ?_
  rintro e w2 ⟨rfl, hb⟩
  have M2 := M1.below hb
  have E2 := EvAt.new w2 ⟨s, n, a, k, p, i, v, t⟩
  clear hb
  go_wp2_with fail
  refine (H2.out _ (M2.alloc _).lay).mono ?_
  rintro e w3 ⟨rfl, hb⟩
  have M3 := (M2.alloc _).below hb
  have E3 : EvAt w3 w2.heap.size ⟨s, n, a, k, p, i, v, t⟩ := E2.below hb (by simp)
  clear hb E2
  have E4 := EvAt.new w3 ⟨s, n, a, k, p, i, v, t⟩
  obtain ⟨c0, c1, c2, c3, c4, c5, c6, c7⟩ := E3.all
  simp only at c0 c1 c2 c3 c4 c5 c6 c7
  have hlt := E3.lt
  have M4 := M3.alloc (.cells #[.string s, .int .i64 n, .int .i64 a, .int .i64 k, .string p, .string i, .int .i64 v, .string t] 24)
  go_wp2_with fail
  refine (H3.out _ M4.lay.lay).mono ?_
  rintro e w5 ⟨rfl, hb⟩
  have M5 := M4.below hb
  clear hb c0 c1 c2 c3 c4 c5 c6 c7 hlt
  go_wp2_with fail
  go_ret
  exact ⟨rfl, M5.bw⟩
theorem law_parses (s : ByteArray) (w : World) (hL : Lay w) (hE : (∃ tp p, w.cell? ⟨3, 0, none⟩ = some (.iface tp p)) ∧ ∃ tp p, w.cell? ⟨4, 0, none⟩ = some (.iface tp p)) :
    Calls Tryd.prog 9 #[.string s] w fun e w' => e = .returned (.bool true) ∧ Below w.heap.size w w' := by
  have hLE : LayE w := ⟨hL, hE.1, hE.2⟩
  by_cases hs : 1000 < s.size
  · exact parses_long s hs w hLE
  · by_cases h : ∃ e, Is s e
    · obtain ⟨⟨s1, n, a, k, p, i, v, t⟩, h⟩ := h
      exact parses_is s s1 n a k p i v t h hs w hLE
    · exact parses_not s (fun e he => h ⟨e, he⟩) hs w hLE
end Go.Proofs.YthfhfekneahonaaDoor
