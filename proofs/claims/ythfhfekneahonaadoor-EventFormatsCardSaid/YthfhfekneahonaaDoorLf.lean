/- The walk of EventFormats. -/
import Derived.Test.YthfhfekneahonaaDoorEf
namespace Go.Proofs.YthfhfekneahonaaDoor
open Go.RowKit
set_option linter.unusedVariables false
theorem fmt_len {e : Ev} (h : mayB e = true) : (fmtL e).length ≤ 500 := by
  obtain ⟨f1, f2, f3, f4, f5, f6, f7, f8⟩ := fit_of h
  have d1 := dec_len 18 e.n.toNat (by omega)
  have d2 := dec_len 18 e.a.toNat (by omega)
  have d3 := dec_len 18 e.v.toNat (by omega)
  have d4 := word_len e.k.toNat (by omega)
  have l5 := pt_size e.p
  have l6 := pt_size e.i
  have l7 := pt_size e.t
  have q1 : e.s.data.toList.length = e.s.size := by simp
  have q2 : (pt e.p).data.toList.length = (pt e.p).size := by simp
  have q3 : (pt e.i).data.toList.length = (pt e.i).size := by simp
  have q4 : (pt e.t).data.toList.length = (pt e.t).size := by simp
  unfold fmtL line8
  simp only [List.length_append, List.length_singleton]
  omega
/-- What stands while an event is printed and parsed. -/
structure FE (W : World) (e : Ev) (w : World) : Prop where
  ev : EvAt w W.heap.size e
  lay : LayE w
  bw : Below W.heap.size W w
theorem FE.below {W w w' : World} {e : Ev} (h : FE W e w) (hb : Below w.heap.size w w') : FE W e w' := ⟨h.ev.below hb h.ev.lt, h.lay.next hb, h.bw.trans (hb.mono h.bw.size)⟩
theorem FE.alloc {W w : World} {e : Ev} (h : FE W e w) (o : Obj) : FE W e (w.alloc o) := h.below ((Below.refl _ _).alloc (Nat.le_refl _) o)
theorem FE.out {W w : World} {s : ByteArray} {n a k : Int} {p i : ByteArray} {v : Int} {t : ByteArray} (h : FE W ⟨s, n, a, k, p, i, v, t⟩ w) : (w.cell? ⟨W.heap.size, 0, none⟩ = some (.string s) ∧ w.cell? ⟨W.heap.size, 1, none⟩ = some (.int .i64 n) ∧ w.cell? ⟨W.heap.size, 2, none⟩ = some (.int .i64 a) ∧ w.cell? ⟨W.heap.size, 3, none⟩ = some (.int .i64 k) ∧ w.cell? ⟨W.heap.size, 4, none⟩ = some (.string p) ∧ w.cell? ⟨W.heap.size, 5, none⟩ = some (.string i) ∧ w.cell? ⟨W.heap.size, 6, none⟩ = some (.int .i64 v) ∧ w.cell? ⟨W.heap.size, 7, none⟩ = some (.string t)) ∧ W.heap.size < w.heap.size := ⟨h.ev.all, h.ev.lt⟩
theorem FE.start {w w' : World} {s : ByteArray} {n a k : Int} {p i : ByteArray} {v : Int} {t : ByteArray} (hL : LayE w) (hb : Below (w.alloc (.cells #[.string s, .int .i64 n, .int .i64 a, .int .i64 k, .string p, .string i, .int .i64 v, .string t] 24)).heap.size (w.alloc (.cells #[.string s, .int .i64 n, .int .i64 a, .int .i64 k, .string p, .string i, .int .i64 v, .string t] 24)) w') : FE w ⟨s, n, a, k, p, i, v, t⟩ w' :=
  ⟨(EvAt.new w ⟨s, n, a, k, p, i, v, t⟩).below hb (by simp), (hL.alloc _).next hb, ((Below.refl w.heap.size w).alloc (by simp) _).trans (hb.mono (by simp))⟩
set_option maxRecDepth 100000 in
set_option maxHeartbeats 4000000 in
theorem formats_may (s : ByteArray) (n a k : Int) (p i : ByteArray) (v : Int) (t : ByteArray) (hs : Small ⟨s, n, a, k, p, i, v, t⟩ 1000) (hm : mayB ⟨s, n, a, k, p, i, v, t⟩ = true) (w : World) (hL : LayE w) :
    Calls Tryd.prog 8 #[.agg #[.string s, .int .i64 n, .int .i64 a, .int .i64 k, .string p, .string i, .int .i64 v, .string t]] w fun e w' => e = .returned (.bool true) ∧ Below w.heap.size w w' := by
  have B1 : t.size ≤ 1000000000 := by have := hs.2.2.2; simp only at this; omega
  have fl := fmt_len hm
  have C1 := fun w hL => fmt_at hm w hL
  have C2 := fun w hL => rfmt_at hm w hL
  have C3 := fun w hL => parse_is (s := bs (fmtL ⟨s, n, a, k, p, i, v, t⟩)) (e := ⟨s, n, a, k, p, i, v, t⟩) ⟨hm, (bs_data _).symm⟩ (by rw [bs_size]; omega) w hL
  have C4 := fun w => rmay_any s n a k p i v t B1 w
  rw [hm] at C4
  have C5 := fun w => big_no s n a k p i v t 1000 hs w
  have H1 := Lib.hid C1
  have H2 := Lib.hid C2
  have H3 := Lib.hid C3
  have H4 := Lib.hid C4
  have H5 := Lib.hid C5
  have HL := Lib.hid hL
  clear C1 C2 C3 C4 C5 hL hs hm fl
  generalize bs (fmtL ⟨s, n, a, k, p, i, v, t⟩) = F at H1 H2 H3
  go_enter Tryd.func8, Tryd.ntmps8
  go_wp2_with fail
  refine (lives_any _ (HL.out.lay.alloc _)).mono ?_
  rintro e w1 ⟨rfl, hb⟩
  have M1 := FE.start HL.out hb
  clear hb
  obtain ⟨⟨c0, c1, c2, c3, c4, c5, c6, c7⟩, hlt⟩ := M1.out
  go_wp2_with fail
  refine (H5.out _).mono ?_
  rintro e w2 ⟨rfl, hb⟩
  have M2 := M1.below hb
  clear hb c0 c1 c2 c3 c4 c5 c6 c7 hlt
  obtain ⟨⟨c0, c1, c2, c3, c4, c5, c6, c7⟩, hlt⟩ := M2.out
  go_wp2_with fail
  refine (H1.out _ M2.lay.lay).mono ?_
  rintro e w3 ⟨rfl, hb⟩
  have M3 := M2.below hb
  clear hb c0 c1 c2 c3 c4 c5 c6 c7 hlt
  obtain ⟨⟨c0, c1, c2, c3, c4, c5, c6, c7⟩, hlt⟩ := M3.out
  go_wp2_with fail
  refine (H4.out _).mono ?_
  rintro e w4 ⟨rfl, hb⟩
  have M4 := M3.below hb
  clear hb c0 c1 c2 c3 c4 c5 c6 c7 hlt
  obtain ⟨⟨c0, c1, c2, c3, c4, c5, c6, c7⟩, hlt⟩ := M4.out
  go_wp2_with fail
  refine (H3.out _ M4.lay).mono ?_
  rintro e w5 ⟨rfl, hb⟩
  have M5 := M4.below hb
  have E5 := EvAt.new w5 ⟨s, n, a, k, p, i, v, t⟩
  have M6 := M5.alloc (.cells #[.string s, .int .i64 n, .int .i64 a, .int .i64 k, .string p, .string i, .int .i64 v, .string t] 24)
  clear hb c0 c1 c2 c3 c4 c5 c6 c7 hlt
  obtain ⟨⟨c0, c1, c2, c3, c4, c5, c6, c7⟩, hlt⟩ := M5.out
  go_wp2_with fail
  refine (H2.out _ M6.lay.lay).mono ?_
  rintro e w6 ⟨rfl, hb⟩
  have M7 := M6.below hb
  have E7 := E5.below hb (by simp)
  clear hb c0 c1 c2 c3 c4 c5 c6 c7 hlt E5
  obtain ⟨⟨c0, c1, c2, c3, c4, c5, c6, c7⟩, hlt⟩ := M7.out
  obtain ⟨d0, d1, d2, d3, d4, d5, d6, d7⟩ := E7.all
  simp only at d0 d1 d2 d3 d4 d5 d6 d7
  have hlt2 := E7.lt
  go_wp2_with fail
  go_ret
  exact ⟨rfl, M7.bw⟩
set_option maxRecDepth 100000 in
set_option maxHeartbeats 1000000 in
theorem formats_not (s : ByteArray) (n a k : Int) (p i : ByteArray) (v : Int) (t : ByteArray) (hs : Small ⟨s, n, a, k, p, i, v, t⟩ 1000) (hm : mayB ⟨s, n, a, k, p, i, v, t⟩ = false) (w : World) (hL : LayE w) :
    Calls Tryd.prog 8 #[.agg #[.string s, .int .i64 n, .int .i64 a, .int .i64 k, .string p, .string i, .int .i64 v, .string t]] w fun e w' => e = .returned (.bool true) ∧ Below w.heap.size w w' := by
  have B1 : t.size ≤ 1000000000 := by have := hs.2.2.2; simp only at this; omega
  have C1 := fun w hL => fmt_no s n a k p i v t B1 hm w hL
  have C4 := fun w => rmay_any s n a k p i v t B1 w
  rw [hm] at C4
  have C5 := fun w => big_no s n a k p i v t 1000 hs w
  have H1 := Lib.hid C1
  have H4 := Lib.hid C4
  have H5 := Lib.hid C5
  have HL := Lib.hid hL
  clear C1 C4 C5 hL hs hm
  go_enter Tryd.func8, Tryd.ntmps8
  go_wp2_with fail
  refine (lives_any _ (HL.out.lay.alloc _)).mono ?_
  rintro e w1 ⟨rfl, hb⟩
  have M1 := FE.start HL.out hb
  clear hb
  obtain ⟨⟨c0, c1, c2, c3, c4, c5, c6, c7⟩, hlt⟩ := M1.out
  go_wp2_with fail
  refine (H5.out _).mono ?_
  rintro e w2 ⟨rfl, hb⟩
  have M2 := M1.below hb
  clear hb c0 c1 c2 c3 c4 c5 c6 c7 hlt
  obtain ⟨⟨c0, c1, c2, c3, c4, c5, c6, c7⟩, hlt⟩ := M2.out
  go_wp2_with fail
  refine (H1.out _ M2.lay.lay).mono ?_
  rintro e w3 ⟨rfl, hb⟩
  have M3 := M2.below hb
  clear hb c0 c1 c2 c3 c4 c5 c6 c7 hlt
  obtain ⟨⟨c0, c1, c2, c3, c4, c5, c6, c7⟩, hlt⟩ := M3.out
  go_wp2_with fail
  refine (H4.out _).mono ?_
  rintro e w4 ⟨rfl, hb⟩
  have M4 := M3.below hb
  clear hb c0 c1 c2 c3 c4 c5 c6 c7 hlt
  go_wp2_with fail
  go_ret
  exact ⟨rfl, M4.bw⟩
set_option maxRecDepth 100000 in
set_option maxHeartbeats 1000000 in
theorem formats_big (s : ByteArray) (n a k : Int) (p i : ByteArray) (v : Int) (t : ByteArray) (hs : ¬ Small ⟨s, n, a, k, p, i, v, t⟩ 1000) (w : World) (hL : LayE w) :
    Calls Tryd.prog 8 #[.agg #[.string s, .int .i64 n, .int .i64 a, .int .i64 k, .string p, .string i, .int .i64 v, .string t]] w fun e w' => e = .returned (.bool true) ∧ Below w.heap.size w w' := by
  have C5 := fun w => big_yes s n a k p i v t 1000 hs w
  have H5 := Lib.hid C5
  have HL := Lib.hid hL
  clear C5 hL hs
  go_enter Tryd.func8, Tryd.ntmps8
  go_wp2_with fail
  refine (lives_any _ (HL.out.lay.alloc _)).mono ?_
  rintro e w1 ⟨rfl, hb⟩
  have M1 := FE.start HL.out hb
  clear hb
  obtain ⟨⟨c0, c1, c2, c3, c4, c5, c6, c7⟩, hlt⟩ := M1.out
  go_wp2_with fail
  refine (H5.out _).mono ?_
  rintro e w2 ⟨rfl, hb⟩
  have M2 := M1.below hb
  clear hb c0 c1 c2 c3 c4 c5 c6 c7 hlt
  go_wp2_with fail
  go_ret
  exact ⟨rfl, M2.bw⟩
theorem law_formats (s : ByteArray) (n a k : Int) (p i : ByteArray) (v : Int) (t : ByteArray) (w : World) (hL : Lay w) (hE : (∃ tp p, w.cell? ⟨3, 0, none⟩ = some (.iface tp p)) ∧ ∃ tp p, w.cell? ⟨4, 0, none⟩ = some (.iface tp p)) :
    Calls Tryd.prog 8 #[.agg #[.string s, .int .i64 n, .int .i64 a, .int .i64 k, .string p, .string i, .int .i64 v, .string t]] w fun e w' => e = .returned (.bool true) ∧ Below w.heap.size w w' := by
  have hLE : LayE w := ⟨hL, hE.1, hE.2⟩
  by_cases hs : Small ⟨s, n, a, k, p, i, v, t⟩ 1000
  · cases hm : mayB ⟨s, n, a, k, p, i, v, t⟩ with
    | true => exact formats_may s n a k p i v t hs hm w hLE
    | false => exact formats_not s n a k p i v t hs hm w hLE
  · exact formats_big s n a k p i v t hs w hLE
end Go.Proofs.YthfhfekneahonaaDoor
