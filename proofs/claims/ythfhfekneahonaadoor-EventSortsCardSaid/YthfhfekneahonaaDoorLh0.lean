/- Two events in two blocks; the walk of EventUnlike. -/
import Derived.Test.YthfhfekneahonaaDoorT
import Derived.Test.YthfhfekneahonaaDoorLa
import Derived.Lib.QuietBelow
namespace Go.Proofs.YthfhfekneahonaaDoor
open Go.RowKit
set_option linter.unusedVariables false
/-- Two events in two blocks, and what the walk asks. -/
structure F2 (W : World) (e1 e2 : Ev) (w : World) : Prop where
  v1 : EvAt w W.heap.size e1
  v2 : EvAt w (W.heap.size + 1) e2
  lay : Lay w
  bw : Below W.heap.size W w
theorem F2.below {W w w' : World} {e1 e2 : Ev} (h : F2 W e1 e2 w) (hb : Below w.heap.size w w') : F2 W e1 e2 w' := ⟨h.v1.below hb h.v1.lt, h.v2.below hb h.v2.lt, h.lay.next hb, h.bw.trans (hb.mono h.bw.size)⟩
theorem F2.out {W w : World} {s1 : ByteArray} {n1 a1 k1 : Int} {p1 i1 : ByteArray} {v1 : Int} {t1 : ByteArray} {s2 : ByteArray} {n2 a2 k2 : Int} {p2 i2 : ByteArray} {v2 : Int} {t2 : ByteArray} (h : F2 W ⟨s1, n1, a1, k1, p1, i1, v1, t1⟩ ⟨s2, n2, a2, k2, p2, i2, v2, t2⟩ w) : (w.cell? ⟨W.heap.size, 0, none⟩ = some (.string s1) ∧ w.cell? ⟨W.heap.size, 1, none⟩ = some (.int .i64 n1) ∧ w.cell? ⟨W.heap.size, 2, none⟩ = some (.int .i64 a1) ∧ w.cell? ⟨W.heap.size, 3, none⟩ = some (.int .i64 k1) ∧ w.cell? ⟨W.heap.size, 4, none⟩ = some (.string p1) ∧ w.cell? ⟨W.heap.size, 5, none⟩ = some (.string i1) ∧ w.cell? ⟨W.heap.size, 6, none⟩ = some (.int .i64 v1) ∧ w.cell? ⟨W.heap.size, 7, none⟩ = some (.string t1) ∧ w.cell? ⟨W.heap.size + 1, 0, none⟩ = some (.string s2) ∧ w.cell? ⟨W.heap.size + 1, 1, none⟩ = some (.int .i64 n2) ∧ w.cell? ⟨W.heap.size + 1, 2, none⟩ = some (.int .i64 a2) ∧ w.cell? ⟨W.heap.size + 1, 3, none⟩ = some (.int .i64 k2) ∧ w.cell? ⟨W.heap.size + 1, 4, none⟩ = some (.string p2) ∧ w.cell? ⟨W.heap.size + 1, 5, none⟩ = some (.string i2) ∧ w.cell? ⟨W.heap.size + 1, 6, none⟩ = some (.int .i64 v2) ∧ w.cell? ⟨W.heap.size + 1, 7, none⟩ = some (.string t2) ∧ W.heap.size + 1 < w.heap.size) ∧ F2 W ⟨s1, n1, a1, k1, p1, i1, v1, t1⟩ ⟨s2, n2, a2, k2, p2, i2, v2, t2⟩ w := by
  obtain ⟨c0, c1, c2, c3, c4, c5, c6, c7⟩ := h.v1.all
  obtain ⟨d0, d1, d2, d3, d4, d5, d6, d7⟩ := h.v2.all
  exact ⟨⟨c0, c1, c2, c3, c4, c5, c6, c7, d0, d1, d2, d3, d4, d5, d6, d7, h.v2.lt⟩, h⟩
theorem F2.start {w w' : World} {s1 : ByteArray} {n1 a1 k1 : Int} {p1 i1 : ByteArray} {v1 : Int} {t1 : ByteArray} {s2 : ByteArray} {n2 a2 k2 : Int} {p2 i2 : ByteArray} {v2 : Int} {t2 : ByteArray} (hL : Lay w) (hb : Below ((w.alloc (.cells #[.string s1, .int .i64 n1, .int .i64 a1, .int .i64 k1, .string p1, .string i1, .int .i64 v1, .string t1] 24)).alloc (.cells #[.string s2, .int .i64 n2, .int .i64 a2, .int .i64 k2, .string p2, .string i2, .int .i64 v2, .string t2] 24)).heap.size ((w.alloc (.cells #[.string s1, .int .i64 n1, .int .i64 a1, .int .i64 k1, .string p1, .string i1, .int .i64 v1, .string t1] 24)).alloc (.cells #[.string s2, .int .i64 n2, .int .i64 a2, .int .i64 k2, .string p2, .string i2, .int .i64 v2, .string t2] 24)) w') : F2 w ⟨s1, n1, a1, k1, p1, i1, v1, t1⟩ ⟨s2, n2, a2, k2, p2, i2, v2, t2⟩ w' := by
  refine ⟨((EvAt.new w ⟨s1, n1, a1, k1, p1, i1, v1, t1⟩).alloc _).below hb (by simp; omega), ?_, ((hL.alloc _).alloc _).next hb, ((((Below.refl w.heap.size w).alloc (by simp) _).alloc (by simp) _)).trans (hb.mono (by simp; omega))⟩
  have h := EvAt.new (w.alloc (.cells #[.string s1, .int .i64 n1, .int .i64 a1, .int .i64 k1, .string p1, .string i1, .int .i64 v1, .string t1] 24)) ⟨s2, n2, a2, k2, p2, i2, v2, t2⟩
  simp only [World.size_alloc] at h
  exact h.below hb (by simp)
theorem ne_cases (s1 : ByteArray) (n1 a1 k1 : Int) (p1 i1 : ByteArray) (v1 : Int) (t1 : ByteArray) (s2 : ByteArray) (n2 a2 k2 : Int) (p2 i2 : ByteArray) (v2 : Int) (t2 : ByteArray) (h : (⟨s1, n1, a1, k1, p1, i1, v1, t1⟩ : Ev) ≠ ⟨s2, n2, a2, k2, p2, i2, v2, t2⟩) :
    (¬ s1.toList = s2.toList) ∨ (s1 = s2 ∧ ¬ n1 = n2) ∨ (s1 = s2 ∧ n1 = n2 ∧ ¬ a1 = a2) ∨ (s1 = s2 ∧ n1 = n2 ∧ a1 = a2 ∧ ¬ k1 = k2) ∨ (s1 = s2 ∧ n1 = n2 ∧ a1 = a2 ∧ k1 = k2 ∧ ¬ p1.toList = p2.toList) ∨ (s1 = s2 ∧ n1 = n2 ∧ a1 = a2 ∧ k1 = k2 ∧ p1 = p2 ∧ ¬ i1.toList = i2.toList) ∨ (s1 = s2 ∧ n1 = n2 ∧ a1 = a2 ∧ k1 = k2 ∧ p1 = p2 ∧ i1 = i2 ∧ ¬ v1 = v2) ∨ (s1 = s2 ∧ n1 = n2 ∧ a1 = a2 ∧ k1 = k2 ∧ p1 = p2 ∧ i1 = i2 ∧ v1 = v2 ∧ ¬ t1.toList = t2.toList) := by
  have L : ∀ x y : ByteArray, (x.toList = y.toList) ↔ x = y := fun x y => by rw [toL, toL, ba_eq_iff]
  rw [L, L, L, L]
  by_cases h1 : s1 = s2
  · by_cases h2 : n1 = n2
    · by_cases h3 : a1 = a2
      · by_cases h4 : k1 = k2
        · by_cases h5 : p1 = p2
          · by_cases h6 : i1 = i2
            · by_cases h7 : v1 = v2
              · by_cases h8 : t1 = t2
                · exfalso; exact h (by rw [h1, h2, h3, h4, h5, h6, h7, h8])
                · simp [h1, h2, h3, h4, h5, h6, h7, h8]
              · simp [h1, h2, h3, h4, h5, h6, h7]
            · simp [h1, h2, h3, h4, h5, h6]
          · simp [h1, h2, h3, h4, h5]
        · simp [h1, h2, h3, h4]
      · simp [h1, h2, h3]
    · simp [h1, h2]
  · simp [h1]
theorem own_size {w : World} {base : Nat} {v : Value} {l : List UInt8} (h : OwnB w base v l) (hl : 0 < l.length) : ∃ g cap, v = .slice (some ⟨g, 0, none⟩) l.length cap ∧ base ≤ g ∧ l.length ≤ cap := by
  rcases h.2 with ⟨_, h0⟩ | ⟨g, cap, cur, hv, hb, hg, hc, _⟩
  · omega
  · exact ⟨g, cap, hv, hb, hc⟩
theorem conv_take {w : World} {base g cap : Nat} {l : List UInt8} (h : OwnB w base (.slice (some ⟨g, 0, none⟩) l.length cap) l) (m c : Nat) (hm : m ≤ l.length) : (convert 44 9 (.slice (some ⟨g, 0, none⟩) m c)).run Tryd.prog w = .ok (.string (bs (l.take m))) w := by
  have e : m = (l.take m).length := by rw [List.length_take]; omega
  have hh := run_convert_bytes_back (P := Tryd.prog) w 44 9 5 ⟨g, 0, none⟩ c (l.take m) Tryd.underlying44 Tryd.underlying5 Tryd.underlying9 (fun j hj => by
    rw [List.length_take] at hj
    refine own_cells h j _ ?_
    unfold u8s
    rw [List.getElem?_map, List.getElem?_eq_getElem (by omega)]
    simp [List.getElem_take])
  rw [← e] at hh
  exact hh
theorem enc_prefix {a b : Ev} (ha : mayB a = true) (hb : mayB b = true) (h : encL a = (encL b).take (encL a).length) : a = b := by
  refine encL_inj (r := (encL b).drop (encL a).length) (q := []) ha hb ?_
  conv => lhs; lhs; rw [h]
  rw [List.take_append_drop, List.append_nil]
theorem encL_pos (e : Ev) : 0 < (encL e).length := by unfold encL; simp only [List.length_append, List.length_singleton]; omega
set_option maxRecDepth 100000 in
set_option maxHeartbeats 4000000 in
theorem unl_1 (s1 : ByteArray) (n1 a1 k1 : Int) (p1 i1 : ByteArray) (v1 : Int) (t1 : ByteArray) (s2 : ByteArray) (n2 a2 k2 : Int) (p2 i2 : ByteArray) (v2 : Int) (t2 : ByteArray) (z1 : ¬ Small ⟨s1, n1, a1, k1, p1, i1, v1, t1⟩ 300) (w : World) (hL : Lay w) :
    Calls Tryd.prog 10 #[.agg #[.string s1, .int .i64 n1, .int .i64 a1, .int .i64 k1, .string p1, .string i1, .int .i64 v1, .string t1], .agg #[.string s2, .int .i64 n2, .int .i64 a2, .int .i64 k2, .string p2, .string i2, .int .i64 v2, .string t2]] w fun e w' => e = .returned (.bool true) ∧ Below w.heap.size w w' := by
  have Z1 := Lib.hid z1
  have HL := Lib.hid hL
  clear hL z1
  go_enter Tryd.func10, Tryd.ntmps10
  go_wp2_with fail
  refine (lives_any _ ((HL.out.alloc _).alloc _)).mono ?_
  rintro e w1 ⟨rfl, hb⟩
  have M0 := F2.start HL.out hb
  clear hb
  obtain ⟨⟨c0, c1, c2, c3, c4, c5, c6, c7, d0, d1, d2, d3, d4, d5, d6, d7, gz⟩, _⟩ := M0.out
  go_wp2_with fail
  refine (big_yes s1 n1 a1 k1 p1 i1 v1 t1 300 Z1.out _).mono ?_
  rintro e w2 ⟨rfl, hb⟩
  have M1 := M0.below hb
  clear hb c0 c1 c2 c3 c4 c5 c6 c7 d0 d1 d2 d3 d4 d5 d6 d7 gz
  obtain ⟨⟨c0, c1, c2, c3, c4, c5, c6, c7, d0, d1, d2, d3, d4, d5, d6, d7, gz⟩, _⟩ := M1.out
  go_wp2_with fail
  go_ret
  exact ⟨rfl, M1.bw⟩
set_option maxRecDepth 100000 in
set_option maxHeartbeats 4000000 in
theorem unl_2 (s1 : ByteArray) (n1 a1 k1 : Int) (p1 i1 : ByteArray) (v1 : Int) (t1 : ByteArray) (s2 : ByteArray) (n2 a2 k2 : Int) (p2 i2 : ByteArray) (v2 : Int) (t2 : ByteArray) (z1 : Small ⟨s1, n1, a1, k1, p1, i1, v1, t1⟩ 300) (z2 : ¬ Small ⟨s2, n2, a2, k2, p2, i2, v2, t2⟩ 300) (w : World) (hL : Lay w) :
    Calls Tryd.prog 10 #[.agg #[.string s1, .int .i64 n1, .int .i64 a1, .int .i64 k1, .string p1, .string i1, .int .i64 v1, .string t1], .agg #[.string s2, .int .i64 n2, .int .i64 a2, .int .i64 k2, .string p2, .string i2, .int .i64 v2, .string t2]] w fun e w' => e = .returned (.bool true) ∧ Below w.heap.size w w' := by
  have Z1 := Lib.hid z1
  have Z2 := Lib.hid z2
  have HL := Lib.hid hL
  clear hL z1 z2
  go_enter Tryd.func10, Tryd.ntmps10
  go_wp2_with fail
  refine (lives_any _ ((HL.out.alloc _).alloc _)).mono ?_
  rintro e w1 ⟨rfl, hb⟩
  have M0 := F2.start HL.out hb
  clear hb
  obtain ⟨⟨c0, c1, c2, c3, c4, c5, c6, c7, d0, d1, d2, d3, d4, d5, d6, d7, gz⟩, _⟩ := M0.out
  go_wp2_with fail
  refine (big_no s1 n1 a1 k1 p1 i1 v1 t1 300 Z1.out _).mono ?_
  rintro e w2 ⟨rfl, hb⟩
  have M1 := M0.below hb
  clear hb c0 c1 c2 c3 c4 c5 c6 c7 d0 d1 d2 d3 d4 d5 d6 d7 gz
  obtain ⟨⟨c0, c1, c2, c3, c4, c5, c6, c7, d0, d1, d2, d3, d4, d5, d6, d7, gz⟩, _⟩ := M1.out
  go_wp2_with fail
  refine (big_yes s2 n2 a2 k2 p2 i2 v2 t2 300 Z2.out _).mono ?_
  rintro e w3 ⟨rfl, hb⟩
  have M2 := M1.below hb
  clear hb c0 c1 c2 c3 c4 c5 c6 c7 d0 d1 d2 d3 d4 d5 d6 d7 gz
  obtain ⟨⟨c0, c1, c2, c3, c4, c5, c6, c7, d0, d1, d2, d3, d4, d5, d6, d7, gz⟩, _⟩ := M2.out
  go_wp2_with fail
  go_ret
  exact ⟨rfl, M2.bw⟩
set_option maxRecDepth 100000 in
set_option maxHeartbeats 4000000 in
theorem unl_3 (s1 : ByteArray) (n1 a1 k1 : Int) (p1 i1 : ByteArray) (v1 : Int) (t1 : ByteArray) (s2 : ByteArray) (n2 a2 k2 : Int) (p2 i2 : ByteArray) (v2 : Int) (t2 : ByteArray) (z1 : Small ⟨s1, n1, a1, k1, p1, i1, v1, t1⟩ 300) (z2 : Small ⟨s2, n2, a2, k2, p2, i2, v2, t2⟩ 300) (y1 : mayB ⟨s1, n1, a1, k1, p1, i1, v1, t1⟩ = false) (w : World) (hL : Lay w) :
    Calls Tryd.prog 10 #[.agg #[.string s1, .int .i64 n1, .int .i64 a1, .int .i64 k1, .string p1, .string i1, .int .i64 v1, .string t1], .agg #[.string s2, .int .i64 n2, .int .i64 a2, .int .i64 k2, .string p2, .string i2, .int .i64 v2, .string t2]] w fun e w' => e = .returned (.bool true) ∧ Below w.heap.size w w' := by
  have B1 : t1.size ≤ 1000000000 := by have := z1.2.2.2; simp only at this; omega
  have Z1 := Lib.hid z1
  have Z2 := Lib.hid z2
  have Y1 := Lib.hid y1
  have HL := Lib.hid hL
  clear hL z1 z2 y1
  go_enter Tryd.func10, Tryd.ntmps10
  go_wp2_with fail
  refine (lives_any _ ((HL.out.alloc _).alloc _)).mono ?_
  rintro e w1 ⟨rfl, hb⟩
  have M0 := F2.start HL.out hb
  clear hb
  obtain ⟨⟨c0, c1, c2, c3, c4, c5, c6, c7, d0, d1, d2, d3, d4, d5, d6, d7, gz⟩, _⟩ := M0.out
  go_wp2_with fail
  refine (big_no s1 n1 a1 k1 p1 i1 v1 t1 300 Z1.out _).mono ?_
  rintro e w2 ⟨rfl, hb⟩
  have M1 := M0.below hb
  clear hb c0 c1 c2 c3 c4 c5 c6 c7 d0 d1 d2 d3 d4 d5 d6 d7 gz
  obtain ⟨⟨c0, c1, c2, c3, c4, c5, c6, c7, d0, d1, d2, d3, d4, d5, d6, d7, gz⟩, _⟩ := M1.out
  go_wp2_with fail
  refine (big_no s2 n2 a2 k2 p2 i2 v2 t2 300 Z2.out _).mono ?_
  rintro e w3 ⟨rfl, hb⟩
  have M2 := M1.below hb
  clear hb c0 c1 c2 c3 c4 c5 c6 c7 d0 d1 d2 d3 d4 d5 d6 d7 gz
  obtain ⟨⟨c0, c1, c2, c3, c4, c5, c6, c7, d0, d1, d2, d3, d4, d5, d6, d7, gz⟩, _⟩ := M2.out
  go_wp2_with fail
  refine (rmay_any s1 n1 a1 k1 p1 i1 v1 t1 B1 _).mono ?_
  rw [Y1.out]
  rintro e w4 ⟨rfl, hb⟩
  have M3 := M2.below hb
  clear hb c0 c1 c2 c3 c4 c5 c6 c7 d0 d1 d2 d3 d4 d5 d6 d7 gz
  obtain ⟨⟨c0, c1, c2, c3, c4, c5, c6, c7, d0, d1, d2, d3, d4, d5, d6, d7, gz⟩, _⟩ := M3.out
  go_wp2_with fail
  go_ret
  exact ⟨rfl, M3.bw⟩
set_option maxRecDepth 100000 in
set_option maxHeartbeats 4000000 in
theorem unl_4 (s1 : ByteArray) (n1 a1 k1 : Int) (p1 i1 : ByteArray) (v1 : Int) (t1 : ByteArray) (s2 : ByteArray) (n2 a2 k2 : Int) (p2 i2 : ByteArray) (v2 : Int) (t2 : ByteArray) (z1 : Small ⟨s1, n1, a1, k1, p1, i1, v1, t1⟩ 300) (z2 : Small ⟨s2, n2, a2, k2, p2, i2, v2, t2⟩ 300) (y1 : mayB ⟨s1, n1, a1, k1, p1, i1, v1, t1⟩ = true) (y2 : mayB ⟨s2, n2, a2, k2, p2, i2, v2, t2⟩ = false) (w : World) (hL : Lay w) :
    Calls Tryd.prog 10 #[.agg #[.string s1, .int .i64 n1, .int .i64 a1, .int .i64 k1, .string p1, .string i1, .int .i64 v1, .string t1], .agg #[.string s2, .int .i64 n2, .int .i64 a2, .int .i64 k2, .string p2, .string i2, .int .i64 v2, .string t2]] w fun e w' => e = .returned (.bool true) ∧ Below w.heap.size w w' := by
  have B1 : t1.size ≤ 1000000000 := by have := z1.2.2.2; simp only at this; omega
  have B2 : t2.size ≤ 1000000000 := by have := z2.2.2.2; simp only at this; omega
  have Z1 := Lib.hid z1
  have Z2 := Lib.hid z2
  have Y1 := Lib.hid y1
  have Y2 := Lib.hid y2
  have HL := Lib.hid hL
  clear hL z1 z2 y1 y2
  go_enter Tryd.func10, Tryd.ntmps10
  go_wp2_with fail
  refine (lives_any _ ((HL.out.alloc _).alloc _)).mono ?_
  rintro e w1 ⟨rfl, hb⟩
  have M0 := F2.start HL.out hb
  clear hb
  obtain ⟨⟨c0, c1, c2, c3, c4, c5, c6, c7, d0, d1, d2, d3, d4, d5, d6, d7, gz⟩, _⟩ := M0.out
  go_wp2_with fail
  refine (big_no s1 n1 a1 k1 p1 i1 v1 t1 300 Z1.out _).mono ?_
  rintro e w2 ⟨rfl, hb⟩
  have M1 := M0.below hb
  clear hb c0 c1 c2 c3 c4 c5 c6 c7 d0 d1 d2 d3 d4 d5 d6 d7 gz
  obtain ⟨⟨c0, c1, c2, c3, c4, c5, c6, c7, d0, d1, d2, d3, d4, d5, d6, d7, gz⟩, _⟩ := M1.out
  go_wp2_with fail
  refine (big_no s2 n2 a2 k2 p2 i2 v2 t2 300 Z2.out _).mono ?_
  rintro e w3 ⟨rfl, hb⟩
  have M2 := M1.below hb
  clear hb c0 c1 c2 c3 c4 c5 c6 c7 d0 d1 d2 d3 d4 d5 d6 d7 gz
  obtain ⟨⟨c0, c1, c2, c3, c4, c5, c6, c7, d0, d1, d2, d3, d4, d5, d6, d7, gz⟩, _⟩ := M2.out
  go_wp2_with fail
  refine (rmay_any s1 n1 a1 k1 p1 i1 v1 t1 B1 _).mono ?_
  rw [Y1.out]
  rintro e w4 ⟨rfl, hb⟩
  have M3 := M2.below hb
  clear hb c0 c1 c2 c3 c4 c5 c6 c7 d0 d1 d2 d3 d4 d5 d6 d7 gz
  obtain ⟨⟨c0, c1, c2, c3, c4, c5, c6, c7, d0, d1, d2, d3, d4, d5, d6, d7, gz⟩, _⟩ := M3.out
  go_wp2_with fail
  refine (rmay_any s2 n2 a2 k2 p2 i2 v2 t2 B2 _).mono ?_
  rw [Y2.out]
  rintro e w5 ⟨rfl, hb⟩
  have M4 := M3.below hb
  clear hb c0 c1 c2 c3 c4 c5 c6 c7 d0 d1 d2 d3 d4 d5 d6 d7 gz
  obtain ⟨⟨c0, c1, c2, c3, c4, c5, c6, c7, d0, d1, d2, d3, d4, d5, d6, d7, gz⟩, _⟩ := M4.out
  go_wp2_with fail
  go_ret
  exact ⟨rfl, M4.bw⟩
theorem enc_at {s : ByteArray} {n a k : Int} {p i : ByteArray} {v : Int} {t : ByteArray} (hm : mayB ⟨s, n, a, k, p, i, v, t⟩ = true) (w : World) (hL : Lay w) :
    Calls Tryd.prog 32 #[.agg #[.string s, .int .i64 n, .int .i64 a, .int .i64 k, .string p, .string i, .int .i64 v, .string t]] w fun e w' => ∃ u, e = .returned (.tuple #[u, .int .i64 0]) ∧ OwnB w' w.heap.size u (encL ⟨s, n, a, k, p, i, v, t⟩) ∧ Below w.heap.size w w' := by
  have hf := fit_of hm
  have h1 := hf.n; have h2 := hf.a; have h3 := hf.k; have h4 := hf.v
  simp only at h1 h2 h3 h4
  obtain ⟨n', rfl⟩ : ∃ n' : Nat, n = n' := ⟨n.toNat, by omega⟩
  obtain ⟨a', rfl⟩ : ∃ a' : Nat, a = a' := ⟨a.toNat, by omega⟩
  obtain ⟨k', rfl⟩ : ∃ k' : Nat, k = k' := ⟨k.toNat, by omega⟩
  obtain ⟨v', rfl⟩ : ∃ v' : Nat, v = v' := ⟨v.toNat, by omega⟩
  exact enc_nat s n' a' k' p i v' t hm w hL
theorem fmt_at {s : ByteArray} {n a k : Int} {p i : ByteArray} {v : Int} {t : ByteArray} (hm : mayB ⟨s, n, a, k, p, i, v, t⟩ = true) (w : World) (hL : Lay w) :
    Calls Tryd.prog 36 #[.agg #[.string s, .int .i64 n, .int .i64 a, .int .i64 k, .string p, .string i, .int .i64 v, .string t]] w fun e w' => e = .returned (.string (bs (fmtL ⟨s, n, a, k, p, i, v, t⟩))) ∧ Below w.heap.size w w' := by
  have hf := fit_of hm
  have h1 := hf.n; have h2 := hf.a; have h3 := hf.k; have h4 := hf.v
  simp only at h1 h2 h3 h4
  obtain ⟨n', rfl⟩ : ∃ n' : Nat, n = n' := ⟨n.toNat, by omega⟩
  obtain ⟨a', rfl⟩ : ∃ a' : Nat, a = a' := ⟨a.toNat, by omega⟩
  obtain ⟨k', rfl⟩ : ∃ k' : Nat, k = k' := ⟨k.toNat, by omega⟩
  obtain ⟨v', rfl⟩ : ∃ v' : Nat, v = v' := ⟨v.toNat, by omega⟩
  exact fmt_nat s n' a' k' p i v' t hm w hL
end Go.Proofs.YthfhfekneahonaaDoor
