/- The walk of EventCompares: all ways. -/
import Derived.Test.YthfhfekneahonaaDoorLb1
import Derived.Test.YthfhfekneahonaaDoorLb2
import Derived.Test.YthfhfekneahonaaDoorLb3
namespace Go.Proofs.YthfhfekneahonaaDoor
open Go.RowKit
set_option linter.unusedVariables false
set_option maxRecDepth 100000 in
set_option maxHeartbeats 4000000 in
theorem cmp_big1 (s1 : ByteArray) (n1 a1 k1 : Int) (p1 i1 : ByteArray) (v1 : Int) (t1 : ByteArray) (s2 : ByteArray) (n2 a2 k2 : Int) (p2 i2 : ByteArray) (v2 : Int) (t2 : ByteArray) (s3 : ByteArray) (n3 a3 k3 : Int) (p3 i3 : ByteArray) (v3 : Int) (t3 : ByteArray)  (z1 : ¬ Small ⟨s1, n1, a1, k1, p1, i1, v1, t1⟩ 1000) (w : World) (hL : Lay w) :
    Calls Tryd.prog 4 #[.agg #[.string s1, .int .i64 n1, .int .i64 a1, .int .i64 k1, .string p1, .string i1, .int .i64 v1, .string t1], .agg #[.string s2, .int .i64 n2, .int .i64 a2, .int .i64 k2, .string p2, .string i2, .int .i64 v2, .string t2], .agg #[.string s3, .int .i64 n3, .int .i64 a3, .int .i64 k3, .string p3, .string i3, .int .i64 v3, .string t3]] w fun e w' => e = .returned (.bool true) ∧ Below w.heap.size w w' := by
  have Z1 := Lib.hid z1
  have HL := Lib.hid hL
  clear hL z1
  go_enter Tryd.func4, Tryd.ntmps4
  go_wp2_with fail
  refine (lives_any _ (((HL.out.alloc _).alloc _).alloc _)).mono ?_
  rintro e w1 ⟨rfl, hb⟩
  have M0 := F3.start HL.out hb
  clear hb
  obtain ⟨⟨c0, c1, c2, c3, c4, c5, c6, c7, d0, d1, d2, d3, d4, d5, d6, d7, g0, g1, g2, g3, g4, g5, g6, g7, gz⟩, _⟩ := M0.out
  go_wp2_with fail
  refine (big_yes s1 n1 a1 k1 p1 i1 v1 t1 1000 Z1.out _).mono ?_
  rintro e w2 ⟨rfl, hb⟩
  have M1 := M0.below hb
  clear hb c0 c1 c2 c3 c4 c5 c6 c7 d0 d1 d2 d3 d4 d5 d6 d7 g0 g1 g2 g3 g4 g5 g6 g7 gz
  obtain ⟨⟨c0, c1, c2, c3, c4, c5, c6, c7, d0, d1, d2, d3, d4, d5, d6, d7, g0, g1, g2, g3, g4, g5, g6, g7, gz⟩, _⟩ := M1.out
  go_wp2_with fail
  go_ret
  exact ⟨rfl, M1.bw⟩
set_option maxRecDepth 100000 in
set_option maxHeartbeats 4000000 in
theorem cmp_big2 (s1 : ByteArray) (n1 a1 k1 : Int) (p1 i1 : ByteArray) (v1 : Int) (t1 : ByteArray) (s2 : ByteArray) (n2 a2 k2 : Int) (p2 i2 : ByteArray) (v2 : Int) (t2 : ByteArray) (s3 : ByteArray) (n3 a3 k3 : Int) (p3 i3 : ByteArray) (v3 : Int) (t3 : ByteArray) (z1 : Small ⟨s1, n1, a1, k1, p1, i1, v1, t1⟩ 1000) (z2 : ¬ Small ⟨s2, n2, a2, k2, p2, i2, v2, t2⟩ 1000) (w : World) (hL : Lay w) :
    Calls Tryd.prog 4 #[.agg #[.string s1, .int .i64 n1, .int .i64 a1, .int .i64 k1, .string p1, .string i1, .int .i64 v1, .string t1], .agg #[.string s2, .int .i64 n2, .int .i64 a2, .int .i64 k2, .string p2, .string i2, .int .i64 v2, .string t2], .agg #[.string s3, .int .i64 n3, .int .i64 a3, .int .i64 k3, .string p3, .string i3, .int .i64 v3, .string t3]] w fun e w' => e = .returned (.bool true) ∧ Below w.heap.size w w' := by
  have Z1 := Lib.hid z1
  have Z2 := Lib.hid z2
  have HL := Lib.hid hL
  clear hL z1 z2
  go_enter Tryd.func4, Tryd.ntmps4
  go_wp2_with fail
  refine (lives_any _ (((HL.out.alloc _).alloc _).alloc _)).mono ?_
  rintro e w1 ⟨rfl, hb⟩
  have M0 := F3.start HL.out hb
  clear hb
  obtain ⟨⟨c0, c1, c2, c3, c4, c5, c6, c7, d0, d1, d2, d3, d4, d5, d6, d7, g0, g1, g2, g3, g4, g5, g6, g7, gz⟩, _⟩ := M0.out
  go_wp2_with fail
  refine (big_no s1 n1 a1 k1 p1 i1 v1 t1 1000 Z1.out _).mono ?_
  rintro e w2 ⟨rfl, hb⟩
  have M1 := M0.below hb
  clear hb c0 c1 c2 c3 c4 c5 c6 c7 d0 d1 d2 d3 d4 d5 d6 d7 g0 g1 g2 g3 g4 g5 g6 g7 gz
  obtain ⟨⟨c0, c1, c2, c3, c4, c5, c6, c7, d0, d1, d2, d3, d4, d5, d6, d7, g0, g1, g2, g3, g4, g5, g6, g7, gz⟩, _⟩ := M1.out
  go_wp2_with fail
  refine (big_yes s2 n2 a2 k2 p2 i2 v2 t2 1000 Z2.out _).mono ?_
  rintro e w3 ⟨rfl, hb⟩
  have M2 := M1.below hb
  clear hb c0 c1 c2 c3 c4 c5 c6 c7 d0 d1 d2 d3 d4 d5 d6 d7 g0 g1 g2 g3 g4 g5 g6 g7 gz
  obtain ⟨⟨c0, c1, c2, c3, c4, c5, c6, c7, d0, d1, d2, d3, d4, d5, d6, d7, g0, g1, g2, g3, g4, g5, g6, g7, gz⟩, _⟩ := M2.out
  go_wp2_with fail
  go_ret
  exact ⟨rfl, M2.bw⟩
set_option maxRecDepth 100000 in
set_option maxHeartbeats 4000000 in
theorem cmp_big3 (s1 : ByteArray) (n1 a1 k1 : Int) (p1 i1 : ByteArray) (v1 : Int) (t1 : ByteArray) (s2 : ByteArray) (n2 a2 k2 : Int) (p2 i2 : ByteArray) (v2 : Int) (t2 : ByteArray) (s3 : ByteArray) (n3 a3 k3 : Int) (p3 i3 : ByteArray) (v3 : Int) (t3 : ByteArray) (z1 : Small ⟨s1, n1, a1, k1, p1, i1, v1, t1⟩ 1000) (z2 : Small ⟨s2, n2, a2, k2, p2, i2, v2, t2⟩ 1000) (z3 : ¬ Small ⟨s3, n3, a3, k3, p3, i3, v3, t3⟩ 1000) (w : World) (hL : Lay w) :
    Calls Tryd.prog 4 #[.agg #[.string s1, .int .i64 n1, .int .i64 a1, .int .i64 k1, .string p1, .string i1, .int .i64 v1, .string t1], .agg #[.string s2, .int .i64 n2, .int .i64 a2, .int .i64 k2, .string p2, .string i2, .int .i64 v2, .string t2], .agg #[.string s3, .int .i64 n3, .int .i64 a3, .int .i64 k3, .string p3, .string i3, .int .i64 v3, .string t3]] w fun e w' => e = .returned (.bool true) ∧ Below w.heap.size w w' := by
  have Z1 := Lib.hid z1
  have Z2 := Lib.hid z2
  have Z3 := Lib.hid z3
  have HL := Lib.hid hL
  clear hL z1 z2 z3
  go_enter Tryd.func4, Tryd.ntmps4
  go_wp2_with fail
  refine (lives_any _ (((HL.out.alloc _).alloc _).alloc _)).mono ?_
  rintro e w1 ⟨rfl, hb⟩
  have M0 := F3.start HL.out hb
  clear hb
  obtain ⟨⟨c0, c1, c2, c3, c4, c5, c6, c7, d0, d1, d2, d3, d4, d5, d6, d7, g0, g1, g2, g3, g4, g5, g6, g7, gz⟩, _⟩ := M0.out
  go_wp2_with fail
  refine (big_no s1 n1 a1 k1 p1 i1 v1 t1 1000 Z1.out _).mono ?_
  rintro e w2 ⟨rfl, hb⟩
  have M1 := M0.below hb
  clear hb c0 c1 c2 c3 c4 c5 c6 c7 d0 d1 d2 d3 d4 d5 d6 d7 g0 g1 g2 g3 g4 g5 g6 g7 gz
  obtain ⟨⟨c0, c1, c2, c3, c4, c5, c6, c7, d0, d1, d2, d3, d4, d5, d6, d7, g0, g1, g2, g3, g4, g5, g6, g7, gz⟩, _⟩ := M1.out
  go_wp2_with fail
  refine (big_no s2 n2 a2 k2 p2 i2 v2 t2 1000 Z2.out _).mono ?_
  rintro e w3 ⟨rfl, hb⟩
  have M2 := M1.below hb
  clear hb c0 c1 c2 c3 c4 c5 c6 c7 d0 d1 d2 d3 d4 d5 d6 d7 g0 g1 g2 g3 g4 g5 g6 g7 gz
  obtain ⟨⟨c0, c1, c2, c3, c4, c5, c6, c7, d0, d1, d2, d3, d4, d5, d6, d7, g0, g1, g2, g3, g4, g5, g6, g7, gz⟩, _⟩ := M2.out
  go_wp2_with fail
  refine (big_yes s3 n3 a3 k3 p3 i3 v3 t3 1000 Z3.out _).mono ?_
  rintro e w4 ⟨rfl, hb⟩
  have M3 := M2.below hb
  clear hb c0 c1 c2 c3 c4 c5 c6 c7 d0 d1 d2 d3 d4 d5 d6 d7 g0 g1 g2 g3 g4 g5 g6 g7 gz
  obtain ⟨⟨c0, c1, c2, c3, c4, c5, c6, c7, d0, d1, d2, d3, d4, d5, d6, d7, g0, g1, g2, g3, g4, g5, g6, g7, gz⟩, _⟩ := M3.out
  go_wp2_with fail
  go_ret
  exact ⟨rfl, M3.bw⟩
theorem cmp_refl (a : Int) (s : ByteArray) (n : Int) : cmpK a a s s n n = 0 := by unfold cmpK; simp [Lib.compareInt]
theorem law_compares (s1 : ByteArray) (n1 a1 k1 : Int) (p1 i1 : ByteArray) (v1 : Int) (t1 : ByteArray) (s2 : ByteArray) (n2 a2 k2 : Int) (p2 i2 : ByteArray) (v2 : Int) (t2 : ByteArray) (s3 : ByteArray) (n3 a3 k3 : Int) (p3 i3 : ByteArray) (v3 : Int) (t3 : ByteArray) (w : World) (hL : Lay w) :
    Calls Tryd.prog 4 #[.agg #[.string s1, .int .i64 n1, .int .i64 a1, .int .i64 k1, .string p1, .string i1, .int .i64 v1, .string t1], .agg #[.string s2, .int .i64 n2, .int .i64 a2, .int .i64 k2, .string p2, .string i2, .int .i64 v2, .string t2], .agg #[.string s3, .int .i64 n3, .int .i64 a3, .int .i64 k3, .string p3, .string i3, .int .i64 v3, .string t3]] w fun e w' => e = .returned (.bool true) ∧ Below w.heap.size w w' := by
  by_cases z1 : Small ⟨s1, n1, a1, k1, p1, i1, v1, t1⟩ 1000
  · by_cases z2 : Small ⟨s2, n2, a2, k2, p2, i2, v2, t2⟩ 1000
    · by_cases z3 : Small ⟨s3, n3, a3, k3, p3, i3, v3, t3⟩ 1000
      · have h0 := cmp_refl a1 s1 n1
        have e12 := cmpK_eq a1 a2 s1 s2 n1 n2
        have e21 := cmpK_eq a2 a1 s2 s1 n2 n1
        have e23 := cmpK_eq a2 a3 s2 s3 n2 n3
        have e13 := cmpK_eq a1 a3 s1 s3 n1 n3
        rcases less_tri a1 a2 s1 s2 n1 n2 with ⟨p1', p2'⟩ | ⟨p1', p2'⟩ | ⟨p1', p2', rfl, rfl, rfl⟩
        · rw [p1'] at e12
          rw [p2', p1'] at e21
          rcases less_tri a2 a3 s2 s3 n2 n3 with ⟨q1, q2⟩ | ⟨q1, q2⟩ | ⟨q1, q2, rfl, rfl, rfl⟩
          · rw [q1] at e23
            rw [less_trans p1' q1] at e13
            by_cases he : s1 = s2
            · exact cmpA1_eq s1 n1 a1 k1 p1 i1 v1 t1 s2 n2 a2 k2 p2 i2 v2 t2 s3 n3 a3 k3 p3 i3 v3 t3 z1 z2 z3 e12 e23 e13 e21 h0 p1' p2' he w hL
            · exact cmpA1_ne s1 n1 a1 k1 p1 i1 v1 t1 s2 n2 a2 k2 p2 i2 v2 t2 s3 n3 a3 k3 p3 i3 v3 t3 z1 z2 z3 e12 e23 e13 e21 h0 p1' p2' (strs_ne _ _ he).1 w hL
          · rw [q1, q2] at e23
            by_cases he : s1 = s2
            · exact cmpA2_eq s1 n1 a1 k1 p1 i1 v1 t1 s2 n2 a2 k2 p2 i2 v2 t2 s3 n3 a3 k3 p3 i3 v3 t3 _ z1 z2 z3 e12 e23 rfl e21 h0 p1' p2' he w hL
            · exact cmpA2_ne s1 n1 a1 k1 p1 i1 v1 t1 s2 n2 a2 k2 p2 i2 v2 t2 s3 n3 a3 k3 p3 i3 v3 t3 _ z1 z2 z3 e12 e23 rfl e21 h0 p1' p2' (strs_ne _ _ he).1 w hL
          · rw [q1] at e23
            by_cases he : s1 = s2
            · exact cmpA3_eq s1 n1 a1 k1 p1 i1 v1 t1 s2 n2 a2 k2 p2 i2 v2 t2 s2 n2 a2 k3 p3 i3 v3 t3 z1 z2 z3 e12 e23 e12 e21 h0 p1' p2' he w hL
            · exact cmpA3_ne s1 n1 a1 k1 p1 i1 v1 t1 s2 n2 a2 k2 p2 i2 v2 t2 s2 n2 a2 k3 p3 i3 v3 t3 z1 z2 z3 e12 e23 e12 e21 h0 p1' p2' (strs_ne _ _ he).1 w hL
        · rw [p1', p2'] at e12
          rw [p2'] at e21
          by_cases he : s1 = s2
          · exact cmpB_eq s1 n1 a1 k1 p1 i1 v1 t1 s2 n2 a2 k2 p2 i2 v2 t2 s3 n3 a3 k3 p3 i3 v3 t3 _ _ z1 z2 z3 e12 rfl rfl e21 h0 p1' p2' he w hL
          · exact cmpB_ne s1 n1 a1 k1 p1 i1 v1 t1 s2 n2 a2 k2 p2 i2 v2 t2 s3 n3 a3 k3 p3 i3 v3 t3 _ _ z1 z2 z3 e12 rfl rfl e21 h0 p1' p2' (strs_ne _ _ he).1 w hL
        · rw [p1'] at e12
          rcases less_tri a1 a3 s1 s3 n1 n3 with ⟨q1, q2⟩ | ⟨q1, q2⟩ | ⟨q1, q2, _⟩
          · rw [q1] at e13
            exact cmpC1 s1 n1 a1 k1 p1 i1 v1 t1 s1 n1 a1 k2 p2 i2 v2 t2 s3 n3 a3 k3 p3 i3 v3 t3 z1 z2 z3 e12 e13 e13 e12 h0 p1' p1' rfl w hL
          · rw [q1, q2] at e13
            exact cmpC2 s1 n1 a1 k1 p1 i1 v1 t1 s1 n1 a1 k2 p2 i2 v2 t2 s3 n3 a3 k3 p3 i3 v3 t3 z1 z2 z3 e12 e13 e13 e12 h0 p1' p1' rfl w hL
          · rw [q1, q2] at e13
            exact cmpC3 s1 n1 a1 k1 p1 i1 v1 t1 s1 n1 a1 k2 p2 i2 v2 t2 s3 n3 a3 k3 p3 i3 v3 t3 z1 z2 z3 e12 e13 e13 e12 h0 p1' p1' rfl w hL
      · exact cmp_big3 s1 n1 a1 k1 p1 i1 v1 t1 s2 n2 a2 k2 p2 i2 v2 t2 s3 n3 a3 k3 p3 i3 v3 t3 z1 z2 z3 w hL
    · exact cmp_big2 s1 n1 a1 k1 p1 i1 v1 t1 s2 n2 a2 k2 p2 i2 v2 t2 s3 n3 a3 k3 p3 i3 v3 t3 z1 z2 w hL
  · exact cmp_big1 s1 n1 a1 k1 p1 i1 v1 t1 s2 n2 a2 k2 p2 i2 v2 t2 s3 n3 a3 k3 p3 i3 v3 t3 z1 w hL
end Go.Proofs.YthfhfekneahonaaDoor
