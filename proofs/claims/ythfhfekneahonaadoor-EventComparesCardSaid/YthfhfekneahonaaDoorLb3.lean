/- The walk of EventCompares: some of its ways. -/
import Derived.Test.YthfhfekneahonaaDoorLb
namespace Go.Proofs.YthfhfekneahonaaDoor
open Go.RowKit
set_option linter.unusedVariables false
set_option maxRecDepth 100000 in
set_option maxHeartbeats 16000000 in
theorem cmpC1 (s1 : ByteArray) (n1 a1 k1 : Int) (p1 i1 : ByteArray) (v1 : Int) (t1 : ByteArray) (s2 : ByteArray) (n2 a2 k2 : Int) (p2 i2 : ByteArray) (v2 : Int) (t2 : ByteArray) (s3 : ByteArray) (n3 a3 k3 : Int) (p3 i3 : ByteArray) (v3 : Int) (t3 : ByteArray)  (z1 : Small ⟨s1, n1, a1, k1, p1, i1, v1, t1⟩ 1000) (z2 : Small ⟨s2, n2, a2, k2, p2, i2, v2, t2⟩ 1000) (z3 : Small ⟨s3, n3, a3, k3, p3, i3, v3, t3⟩ 1000)
    (hx : cmpK a1 a2 s1 s2 n1 n2 = 0) (hy : cmpK a2 a3 s2 s3 n2 n3 = -1) (hz : cmpK a1 a3 s1 s3 n1 n3 = -1) (hr : cmpK a2 a1 s2 s1 n2 n1 = 0) (h0 : cmpK a1 a1 s1 s1 n1 n1 = 0) (h12 : lessK a1 a2 s1 s2 n1 n2 = false) (h21 : lessK a2 a1 s2 s1 n2 n1 = false) (he : s1 = s2) (w : World) (hL : Lay w) :
    Calls Tryd.prog 4 #[.agg #[.string s1, .int .i64 n1, .int .i64 a1, .int .i64 k1, .string p1, .string i1, .int .i64 v1, .string t1], .agg #[.string s2, .int .i64 n2, .int .i64 a2, .int .i64 k2, .string p2, .string i2, .int .i64 v2, .string t2], .agg #[.string s3, .int .i64 n3, .int .i64 a3, .int .i64 k3, .string p3, .string i3, .int .i64 v3, .string t3]] w fun e w' => e = .returned (.bool true) ∧ Below w.heap.size w w' := by
  subst he
  have HX := Lib.hid hx
  have HY := Lib.hid hy
  have HZ := Lib.hid hz
  have HR := Lib.hid hr
  have H0 := Lib.hid h0
  have H12 := Lib.hid h12
  have H21 := Lib.hid h21
  have Z1 := Lib.hid z1
  have Z2 := Lib.hid z2
  have Z3 := Lib.hid z3
  have HL := Lib.hid hL
  clear hx hy hz hr h0 h12 h21 z1 z2 z3 hL
  go_enter Tryd.func4, Tryd.ntmps4
  go_wp2_with fail
  refine (lives_any _ (((HL.out.alloc _).alloc _).alloc _)).mono ?_
  rintro e w1 ⟨rfl, hb⟩
  have M0 := F3.start HL.out hb
  clear hb
  obtain ⟨⟨c0, c1, c2, c3, c4, c5, c6, c7, d0, d1, d2, d3, d4, d5, d6, d7, g0, g1, g2, g3, g4, g5, g6, g7, gz⟩, _⟩ := M0.out
  go_wp2_with fail
  refine (big_no s1 n1 a1 k1 p1 i1 v1 t1 1000 Z1.out _).mono ?_
  rintro e w2 ⟨rfl, hb⟩
  have M1 := M0.below hb
  clear hb c0 c1 c2 c3 c4 c5 c6 c7 d0 d1 d2 d3 d4 d5 d6 d7 g0 g1 g2 g3 g4 g5 g6 g7 gz
  obtain ⟨⟨c0, c1, c2, c3, c4, c5, c6, c7, d0, d1, d2, d3, d4, d5, d6, d7, g0, g1, g2, g3, g4, g5, g6, g7, gz⟩, _⟩ := M1.out
  go_wp2_with fail
  refine (big_no s1 n2 a2 k2 p2 i2 v2 t2 1000 Z2.out _).mono ?_
  rintro e w3 ⟨rfl, hb⟩
  have M2 := M1.below hb
  clear hb c0 c1 c2 c3 c4 c5 c6 c7 d0 d1 d2 d3 d4 d5 d6 d7 g0 g1 g2 g3 g4 g5 g6 g7 gz
  obtain ⟨⟨c0, c1, c2, c3, c4, c5, c6, c7, d0, d1, d2, d3, d4, d5, d6, d7, g0, g1, g2, g3, g4, g5, g6, g7, gz⟩, _⟩ := M2.out
  go_wp2_with fail
  refine (big_no s3 n3 a3 k3 p3 i3 v3 t3 1000 Z3.out _).mono ?_
  rintro e w4 ⟨rfl, hb⟩
  have M3 := M2.below hb
  clear hb c0 c1 c2 c3 c4 c5 c6 c7 d0 d1 d2 d3 d4 d5 d6 d7 g0 g1 g2 g3 g4 g5 g6 g7 gz
  obtain ⟨⟨c0, c1, c2, c3, c4, c5, c6, c7, d0, d1, d2, d3, d4, d5, d6, d7, g0, g1, g2, g3, g4, g5, g6, g7, gz⟩, _⟩ := M3.out
  go_wp2_with fail
  refine (less_any s1 n1 a1 k1 p1 i1 v1 t1 s1 n2 a2 k2 p2 i2 v2 t2 _).mono ?_
  rw [H12.out]
  rintro e w5 ⟨rfl, hb⟩
  have M4 := M3.below hb
  clear hb c0 c1 c2 c3 c4 c5 c6 c7 d0 d1 d2 d3 d4 d5 d6 d7 g0 g1 g2 g3 g4 g5 g6 g7 gz
  obtain ⟨⟨c0, c1, c2, c3, c4, c5, c6, c7, d0, d1, d2, d3, d4, d5, d6, d7, g0, g1, g2, g3, g4, g5, g6, g7, gz⟩, _⟩ := M4.out
  go_wp2_with fail
  refine (less_any s1 n2 a2 k2 p2 i2 v2 t2 s1 n1 a1 k1 p1 i1 v1 t1 _).mono ?_
  rw [H21.out]
  rintro e w6 ⟨rfl, hb⟩
  have M5 := M4.below hb
  clear hb c0 c1 c2 c3 c4 c5 c6 c7 d0 d1 d2 d3 d4 d5 d6 d7 g0 g1 g2 g3 g4 g5 g6 g7 gz
  obtain ⟨⟨c0, c1, c2, c3, c4, c5, c6, c7, d0, d1, d2, d3, d4, d5, d6, d7, g0, g1, g2, g3, g4, g5, g6, g7, gz⟩, _⟩ := M5.out
  go_upto_region 10 with fail
  have M := M5
  clear c0 c1 c2 c3 c4 c5 c6 c7 d0 d1 d2 d3 d4 d5 d6 d7 g0 g1 g2 g3 g4 g5 g6 g7 gz
  have HH := M.out
  go_cut [8, 9, 10] (fun x8 x9 x10 wx => x8 = .int .i64 (0) ∧ x9 = .int .i64 (-1) ∧ x10 = .int .i64 (-1) ∧ F3 w ⟨s1, n1, a1, k1, p1, i1, v1, t1⟩ ⟨s1, n2, a2, k2, p2, i2, v2, t2⟩ ⟨s3, n3, a3, k3, p3, i3, v3, t3⟩ wx)
  case first =>
    go_region_held3 (fun wx => (wx.cell? ⟨w.heap.size, 0, none⟩ = some (.string s1) ∧ wx.cell? ⟨w.heap.size, 1, none⟩ = some (.int .i64 n1) ∧ wx.cell? ⟨w.heap.size, 2, none⟩ = some (.int .i64 a1) ∧ wx.cell? ⟨w.heap.size, 3, none⟩ = some (.int .i64 k1) ∧ wx.cell? ⟨w.heap.size, 4, none⟩ = some (.string p1) ∧ wx.cell? ⟨w.heap.size, 5, none⟩ = some (.string i1) ∧ wx.cell? ⟨w.heap.size, 6, none⟩ = some (.int .i64 v1) ∧ wx.cell? ⟨w.heap.size, 7, none⟩ = some (.string t1) ∧ wx.cell? ⟨w.heap.size + 1, 0, none⟩ = some (.string s1) ∧ wx.cell? ⟨w.heap.size + 1, 1, none⟩ = some (.int .i64 n2) ∧ wx.cell? ⟨w.heap.size + 1, 2, none⟩ = some (.int .i64 a2) ∧ wx.cell? ⟨w.heap.size + 1, 3, none⟩ = some (.int .i64 k2) ∧ wx.cell? ⟨w.heap.size + 1, 4, none⟩ = some (.string p2) ∧ wx.cell? ⟨w.heap.size + 1, 5, none⟩ = some (.string i2) ∧ wx.cell? ⟨w.heap.size + 1, 6, none⟩ = some (.int .i64 v2) ∧ wx.cell? ⟨w.heap.size + 1, 7, none⟩ = some (.string t2) ∧ wx.cell? ⟨w.heap.size + 1 + 1, 0, none⟩ = some (.string s3) ∧ wx.cell? ⟨w.heap.size + 1 + 1, 1, none⟩ = some (.int .i64 n3) ∧ wx.cell? ⟨w.heap.size + 1 + 1, 2, none⟩ = some (.int .i64 a3) ∧ wx.cell? ⟨w.heap.size + 1 + 1, 3, none⟩ = some (.int .i64 k3) ∧ wx.cell? ⟨w.heap.size + 1 + 1, 4, none⟩ = some (.string p3) ∧ wx.cell? ⟨w.heap.size + 1 + 1, 5, none⟩ = some (.string i3) ∧ wx.cell? ⟨w.heap.size + 1 + 1, 6, none⟩ = some (.int .i64 v3) ∧ wx.cell? ⟨w.heap.size + 1 + 1, 7, none⟩ = some (.string t3) ∧ w.heap.size + 1 + 1 < wx.heap.size) ∧ F3 w ⟨s1, n1, a1, k1, p1, i1, v1, t1⟩ ⟨s1, n2, a2, k2, p2, i2, v2, t2⟩ ⟨s3, n3, a3, k3, p3, i3, v3, t3⟩ wx)
      ((refine F3.out ?_; repeat (first | exact M | refine F3.drew ?_ | refine F3.alloc ?_ _ | refine F3.below ?_ (by assumption))))
      (first | (go_at_call 26; (with_reducible refine (compare_any s1 n1 a1 k1 p1 i1 v1 t1 s1 n2 a2 k2 p2 i2 v2 t2 _).mono ?_); rw [HX.out]; rintro e w9 ⟨rfl, hb9⟩) | (go_at_call 26; (with_reducible refine (compare_any s1 n2 a2 k2 p2 i2 v2 t2 s3 n3 a3 k3 p3 i3 v3 t3 _).mono ?_); rw [HY.out]; rintro e w9 ⟨rfl, hb9⟩) | (go_at_call 26; (with_reducible refine (compare_any s1 n1 a1 k1 p1 i1 v1 t1 s3 n3 a3 k3 p3 i3 v3 t3 _).mono ?_); rw [HZ.out]; rintro e w9 ⟨rfl, hb9⟩) | (go_at_call 26; (with_reducible refine (compare_any s1 n2 a2 k2 p2 i2 v2 t2 s1 n1 a1 k1 p1 i1 v1 t1 _).mono ?_); rw [HR.out]; rintro e w9 ⟨rfl, hb9⟩) | (go_at_call 26; (with_reducible refine (compare_any s1 n1 a1 k1 p1 i1 v1 t1 s1 n1 a1 k1 p1 i1 v1 t1 _).mono ?_); rw [H0.out]; rintro e w9 ⟨rfl, hb9⟩))
    all_goals (go_wp2_with fail)
    all_goals (go_meet; exact ⟨rfl, rfl, rfl, (‹_ ∧ F3 _ _ _ _ _›).2⟩)
  case rest =>
    clear HH
    obtain ⟨rfl, rfl, rfl, N⟩ := hcut
    go_upto_region 13 with fail
    have hw : IntKind.i64.wrap (0) = 0 := by rw [IntKind.wrap_i64]; omega
    obtain ⟨⟨c0, c1, c2, c3, c4, c5, c6, c7, d0, d1, d2, d3, d4, d5, d6, d7, g0, g1, g2, g3, g4, g5, g6, g7, gz⟩, _⟩ := N.out
    have qc0 := cell_regrown c0
    have qc1 := cell_regrown c1
    have qc2 := cell_regrown c2
    have qc3 := cell_regrown c3
    have qc4 := cell_regrown c4
    have qc5 := cell_regrown c5
    have qc6 := cell_regrown c6
    have qc7 := cell_regrown c7
    have qd0 := cell_regrown d0
    have qd1 := cell_regrown d1
    have qd2 := cell_regrown d2
    have qd3 := cell_regrown d3
    have qd4 := cell_regrown d4
    have qd5 := cell_regrown d5
    have qd6 := cell_regrown d6
    have qd7 := cell_regrown d7
    clear c0 c1 c2 c3 c4 c5 c6 c7 d0 d1 d2 d3 d4 d5 d6 d7 g0 g1 g2 g3 g4 g5 g6 g7 gz
    have cR : ∀ d os, Calls Tryd.prog 26 #[.agg #[.string s1, .int .i64 n2, .int .i64 a2, .int .i64 k2, .string p2, .string i2, .int .i64 v2, .string t2], .agg #[.string s1, .int .i64 n1, .int .i64 a1, .int .i64 k1, .string p1, .string i1, .int .i64 v1, .string t1]] (Sort.grow (redrawn wc d) os) fun e w'' => e = .returned (.int .i64 (0)) ∧ ∃ p : Regrown, w'' = Sort.grow (redrawn wc p.d) p.os := fun d os => Calls.regrown_of ((compare_any s1 n2 a2 k2 p2 i2 v2 t2 s1 n1 a1 k1 p1 i1 v1 t1 _).mono (by rw [HR.out]; exact fun _ _ h => h))
    have c0 : ∀ d os, Calls Tryd.prog 26 #[.agg #[.string s1, .int .i64 n1, .int .i64 a1, .int .i64 k1, .string p1, .string i1, .int .i64 v1, .string t1], .agg #[.string s1, .int .i64 n1, .int .i64 a1, .int .i64 k1, .string p1, .string i1, .int .i64 v1, .string t1]] (Sort.grow (redrawn wc d) os) fun e w'' => e = .returned (.int .i64 0) ∧ ∃ p : Regrown, w'' = Sort.grow (redrawn wc p.d) p.os := fun d os => Calls.regrown_of ((compare_any s1 n1 a1 k1 p1 i1 v1 t1 s1 n1 a1 k1 p1 i1 v1 t1 _).mono (by rw [H0.out]; exact fun _ _ h => h))
    have cS : ∀ d os, Calls Tryd.prog 27 #[.agg #[.string s1, .int .i64 n1, .int .i64 a1, .int .i64 k1, .string p1, .string i1, .int .i64 v1, .string t1], .agg #[.string s1, .int .i64 n2, .int .i64 a2, .int .i64 k2, .string p2, .string i2, .int .i64 v2, .string t2]] (Sort.grow (redrawn wc d) os) fun e w'' => e = .returned (.bool (n1 == n2)) ∧ ∃ p : Regrown, w'' = Sort.grow (redrawn wc p.d) p.os := fun d os => Calls.regrown_of (same_eq _ _ _ _ _ _ _ _ _ _ _ _ _ _ _ _)
    refine wp_region_quiet_below (by kernel_rfl) (by kernel_rfl) ?_
    repeat (go_big_quiet_step ((first | with_reducible exact cR _ _ | with_reducible exact c0 _ _ | with_reducible exact cS _ _)))
    refine wpQuiet_nil ?_
    intro _ hw'
    obtain ⟨⟨dq, osq⟩, hw''⟩ := hw'
    subst hw''
    have bq := below_regrown wc dq osq
    go_wp2_with fail
    go_ret
    exact ⟨rfl, N.bw.trans (bq.mono N.bw.size)⟩
set_option maxRecDepth 100000 in
set_option maxHeartbeats 16000000 in
theorem cmpC2 (s1 : ByteArray) (n1 a1 k1 : Int) (p1 i1 : ByteArray) (v1 : Int) (t1 : ByteArray) (s2 : ByteArray) (n2 a2 k2 : Int) (p2 i2 : ByteArray) (v2 : Int) (t2 : ByteArray) (s3 : ByteArray) (n3 a3 k3 : Int) (p3 i3 : ByteArray) (v3 : Int) (t3 : ByteArray)  (z1 : Small ⟨s1, n1, a1, k1, p1, i1, v1, t1⟩ 1000) (z2 : Small ⟨s2, n2, a2, k2, p2, i2, v2, t2⟩ 1000) (z3 : Small ⟨s3, n3, a3, k3, p3, i3, v3, t3⟩ 1000)
    (hx : cmpK a1 a2 s1 s2 n1 n2 = 0) (hy : cmpK a2 a3 s2 s3 n2 n3 = 1) (hz : cmpK a1 a3 s1 s3 n1 n3 = 1) (hr : cmpK a2 a1 s2 s1 n2 n1 = 0) (h0 : cmpK a1 a1 s1 s1 n1 n1 = 0) (h12 : lessK a1 a2 s1 s2 n1 n2 = false) (h21 : lessK a2 a1 s2 s1 n2 n1 = false) (he : s1 = s2) (w : World) (hL : Lay w) :
    Calls Tryd.prog 4 #[.agg #[.string s1, .int .i64 n1, .int .i64 a1, .int .i64 k1, .string p1, .string i1, .int .i64 v1, .string t1], .agg #[.string s2, .int .i64 n2, .int .i64 a2, .int .i64 k2, .string p2, .string i2, .int .i64 v2, .string t2], .agg #[.string s3, .int .i64 n3, .int .i64 a3, .int .i64 k3, .string p3, .string i3, .int .i64 v3, .string t3]] w fun e w' => e = .returned (.bool true) ∧ Below w.heap.size w w' := by
  subst he
  have HX := Lib.hid hx
  have HY := Lib.hid hy
  have HZ := Lib.hid hz
  have HR := Lib.hid hr
  have H0 := Lib.hid h0
  have H12 := Lib.hid h12
  have H21 := Lib.hid h21
  have Z1 := Lib.hid z1
  have Z2 := Lib.hid z2
  have Z3 := Lib.hid z3
  have HL := Lib.hid hL
  clear hx hy hz hr h0 h12 h21 z1 z2 z3 hL
  go_enter Tryd.func4, Tryd.ntmps4
  go_wp2_with fail
  refine (lives_any _ (((HL.out.alloc _).alloc _).alloc _)).mono ?_
  rintro e w1 ⟨rfl, hb⟩
  have M0 := F3.start HL.out hb
  clear hb
  obtain ⟨⟨c0, c1, c2, c3, c4, c5, c6, c7, d0, d1, d2, d3, d4, d5, d6, d7, g0, g1, g2, g3, g4, g5, g6, g7, gz⟩, _⟩ := M0.out
  go_wp2_with fail
  refine (big_no s1 n1 a1 k1 p1 i1 v1 t1 1000 Z1.out _).mono ?_
  rintro e w2 ⟨rfl, hb⟩
  have M1 := M0.below hb
  clear hb c0 c1 c2 c3 c4 c5 c6 c7 d0 d1 d2 d3 d4 d5 d6 d7 g0 g1 g2 g3 g4 g5 g6 g7 gz
  obtain ⟨⟨c0, c1, c2, c3, c4, c5, c6, c7, d0, d1, d2, d3, d4, d5, d6, d7, g0, g1, g2, g3, g4, g5, g6, g7, gz⟩, _⟩ := M1.out
  go_wp2_with fail
  refine (big_no s1 n2 a2 k2 p2 i2 v2 t2 1000 Z2.out _).mono ?_
  rintro e w3 ⟨rfl, hb⟩
  have M2 := M1.below hb
  clear hb c0 c1 c2 c3 c4 c5 c6 c7 d0 d1 d2 d3 d4 d5 d6 d7 g0 g1 g2 g3 g4 g5 g6 g7 gz
  obtain ⟨⟨c0, c1, c2, c3, c4, c5, c6, c7, d0, d1, d2, d3, d4, d5, d6, d7, g0, g1, g2, g3, g4, g5, g6, g7, gz⟩, _⟩ := M2.out
  go_wp2_with fail
  refine (big_no s3 n3 a3 k3 p3 i3 v3 t3 1000 Z3.out _).mono ?_
  rintro e w4 ⟨rfl, hb⟩
  have M3 := M2.below hb
  clear hb c0 c1 c2 c3 c4 c5 c6 c7 d0 d1 d2 d3 d4 d5 d6 d7 g0 g1 g2 g3 g4 g5 g6 g7 gz
  obtain ⟨⟨c0, c1, c2, c3, c4, c5, c6, c7, d0, d1, d2, d3, d4, d5, d6, d7, g0, g1, g2, g3, g4, g5, g6, g7, gz⟩, _⟩ := M3.out
  go_wp2_with fail
  refine (less_any s1 n1 a1 k1 p1 i1 v1 t1 s1 n2 a2 k2 p2 i2 v2 t2 _).mono ?_
  rw [H12.out]
  rintro e w5 ⟨rfl, hb⟩
  have M4 := M3.below hb
  clear hb c0 c1 c2 c3 c4 c5 c6 c7 d0 d1 d2 d3 d4 d5 d6 d7 g0 g1 g2 g3 g4 g5 g6 g7 gz
  obtain ⟨⟨c0, c1, c2, c3, c4, c5, c6, c7, d0, d1, d2, d3, d4, d5, d6, d7, g0, g1, g2, g3, g4, g5, g6, g7, gz⟩, _⟩ := M4.out
  go_wp2_with fail
  refine (less_any s1 n2 a2 k2 p2 i2 v2 t2 s1 n1 a1 k1 p1 i1 v1 t1 _).mono ?_
  rw [H21.out]
  rintro e w6 ⟨rfl, hb⟩
  have M5 := M4.below hb
  clear hb c0 c1 c2 c3 c4 c5 c6 c7 d0 d1 d2 d3 d4 d5 d6 d7 g0 g1 g2 g3 g4 g5 g6 g7 gz
  obtain ⟨⟨c0, c1, c2, c3, c4, c5, c6, c7, d0, d1, d2, d3, d4, d5, d6, d7, g0, g1, g2, g3, g4, g5, g6, g7, gz⟩, _⟩ := M5.out
  go_upto_region 10 with fail
  have M := M5
  clear c0 c1 c2 c3 c4 c5 c6 c7 d0 d1 d2 d3 d4 d5 d6 d7 g0 g1 g2 g3 g4 g5 g6 g7 gz
  have HH := M.out
  go_cut [8, 9, 10] (fun x8 x9 x10 wx => x8 = .int .i64 (0) ∧ x9 = .int .i64 (1) ∧ x10 = .int .i64 (1) ∧ F3 w ⟨s1, n1, a1, k1, p1, i1, v1, t1⟩ ⟨s1, n2, a2, k2, p2, i2, v2, t2⟩ ⟨s3, n3, a3, k3, p3, i3, v3, t3⟩ wx)
  case first =>
    go_region_held3 (fun wx => (wx.cell? ⟨w.heap.size, 0, none⟩ = some (.string s1) ∧ wx.cell? ⟨w.heap.size, 1, none⟩ = some (.int .i64 n1) ∧ wx.cell? ⟨w.heap.size, 2, none⟩ = some (.int .i64 a1) ∧ wx.cell? ⟨w.heap.size, 3, none⟩ = some (.int .i64 k1) ∧ wx.cell? ⟨w.heap.size, 4, none⟩ = some (.string p1) ∧ wx.cell? ⟨w.heap.size, 5, none⟩ = some (.string i1) ∧ wx.cell? ⟨w.heap.size, 6, none⟩ = some (.int .i64 v1) ∧ wx.cell? ⟨w.heap.size, 7, none⟩ = some (.string t1) ∧ wx.cell? ⟨w.heap.size + 1, 0, none⟩ = some (.string s1) ∧ wx.cell? ⟨w.heap.size + 1, 1, none⟩ = some (.int .i64 n2) ∧ wx.cell? ⟨w.heap.size + 1, 2, none⟩ = some (.int .i64 a2) ∧ wx.cell? ⟨w.heap.size + 1, 3, none⟩ = some (.int .i64 k2) ∧ wx.cell? ⟨w.heap.size + 1, 4, none⟩ = some (.string p2) ∧ wx.cell? ⟨w.heap.size + 1, 5, none⟩ = some (.string i2) ∧ wx.cell? ⟨w.heap.size + 1, 6, none⟩ = some (.int .i64 v2) ∧ wx.cell? ⟨w.heap.size + 1, 7, none⟩ = some (.string t2) ∧ wx.cell? ⟨w.heap.size + 1 + 1, 0, none⟩ = some (.string s3) ∧ wx.cell? ⟨w.heap.size + 1 + 1, 1, none⟩ = some (.int .i64 n3) ∧ wx.cell? ⟨w.heap.size + 1 + 1, 2, none⟩ = some (.int .i64 a3) ∧ wx.cell? ⟨w.heap.size + 1 + 1, 3, none⟩ = some (.int .i64 k3) ∧ wx.cell? ⟨w.heap.size + 1 + 1, 4, none⟩ = some (.string p3) ∧ wx.cell? ⟨w.heap.size + 1 + 1, 5, none⟩ = some (.string i3) ∧ wx.cell? ⟨w.heap.size + 1 + 1, 6, none⟩ = some (.int .i64 v3) ∧ wx.cell? ⟨w.heap.size + 1 + 1, 7, none⟩ = some (.string t3) ∧ w.heap.size + 1 + 1 < wx.heap.size) ∧ F3 w ⟨s1, n1, a1, k1, p1, i1, v1, t1⟩ ⟨s1, n2, a2, k2, p2, i2, v2, t2⟩ ⟨s3, n3, a3, k3, p3, i3, v3, t3⟩ wx)
      ((refine F3.out ?_; repeat (first | exact M | refine F3.drew ?_ | refine F3.alloc ?_ _ | refine F3.below ?_ (by assumption))))
      (first | (go_at_call 26; (with_reducible refine (compare_any s1 n1 a1 k1 p1 i1 v1 t1 s1 n2 a2 k2 p2 i2 v2 t2 _).mono ?_); rw [HX.out]; rintro e w9 ⟨rfl, hb9⟩) | (go_at_call 26; (with_reducible refine (compare_any s1 n2 a2 k2 p2 i2 v2 t2 s3 n3 a3 k3 p3 i3 v3 t3 _).mono ?_); rw [HY.out]; rintro e w9 ⟨rfl, hb9⟩) | (go_at_call 26; (with_reducible refine (compare_any s1 n1 a1 k1 p1 i1 v1 t1 s3 n3 a3 k3 p3 i3 v3 t3 _).mono ?_); rw [HZ.out]; rintro e w9 ⟨rfl, hb9⟩) | (go_at_call 26; (with_reducible refine (compare_any s1 n2 a2 k2 p2 i2 v2 t2 s1 n1 a1 k1 p1 i1 v1 t1 _).mono ?_); rw [HR.out]; rintro e w9 ⟨rfl, hb9⟩) | (go_at_call 26; (with_reducible refine (compare_any s1 n1 a1 k1 p1 i1 v1 t1 s1 n1 a1 k1 p1 i1 v1 t1 _).mono ?_); rw [H0.out]; rintro e w9 ⟨rfl, hb9⟩))
    all_goals (go_wp2_with fail)
    all_goals (go_meet; exact ⟨rfl, rfl, rfl, (‹_ ∧ F3 _ _ _ _ _›).2⟩)
  case rest =>
    clear HH
    obtain ⟨rfl, rfl, rfl, N⟩ := hcut
    go_upto_region 13 with fail
    have hw : IntKind.i64.wrap (0) = 0 := by rw [IntKind.wrap_i64]; omega
    obtain ⟨⟨c0, c1, c2, c3, c4, c5, c6, c7, d0, d1, d2, d3, d4, d5, d6, d7, g0, g1, g2, g3, g4, g5, g6, g7, gz⟩, _⟩ := N.out
    have qc0 := cell_regrown c0
    have qc1 := cell_regrown c1
    have qc2 := cell_regrown c2
    have qc3 := cell_regrown c3
    have qc4 := cell_regrown c4
    have qc5 := cell_regrown c5
    have qc6 := cell_regrown c6
    have qc7 := cell_regrown c7
    have qd0 := cell_regrown d0
    have qd1 := cell_regrown d1
    have qd2 := cell_regrown d2
    have qd3 := cell_regrown d3
    have qd4 := cell_regrown d4
    have qd5 := cell_regrown d5
    have qd6 := cell_regrown d6
    have qd7 := cell_regrown d7
    clear c0 c1 c2 c3 c4 c5 c6 c7 d0 d1 d2 d3 d4 d5 d6 d7 g0 g1 g2 g3 g4 g5 g6 g7 gz
    have cR : ∀ d os, Calls Tryd.prog 26 #[.agg #[.string s1, .int .i64 n2, .int .i64 a2, .int .i64 k2, .string p2, .string i2, .int .i64 v2, .string t2], .agg #[.string s1, .int .i64 n1, .int .i64 a1, .int .i64 k1, .string p1, .string i1, .int .i64 v1, .string t1]] (Sort.grow (redrawn wc d) os) fun e w'' => e = .returned (.int .i64 (0)) ∧ ∃ p : Regrown, w'' = Sort.grow (redrawn wc p.d) p.os := fun d os => Calls.regrown_of ((compare_any s1 n2 a2 k2 p2 i2 v2 t2 s1 n1 a1 k1 p1 i1 v1 t1 _).mono (by rw [HR.out]; exact fun _ _ h => h))
    have c0 : ∀ d os, Calls Tryd.prog 26 #[.agg #[.string s1, .int .i64 n1, .int .i64 a1, .int .i64 k1, .string p1, .string i1, .int .i64 v1, .string t1], .agg #[.string s1, .int .i64 n1, .int .i64 a1, .int .i64 k1, .string p1, .string i1, .int .i64 v1, .string t1]] (Sort.grow (redrawn wc d) os) fun e w'' => e = .returned (.int .i64 0) ∧ ∃ p : Regrown, w'' = Sort.grow (redrawn wc p.d) p.os := fun d os => Calls.regrown_of ((compare_any s1 n1 a1 k1 p1 i1 v1 t1 s1 n1 a1 k1 p1 i1 v1 t1 _).mono (by rw [H0.out]; exact fun _ _ h => h))
    have cS : ∀ d os, Calls Tryd.prog 27 #[.agg #[.string s1, .int .i64 n1, .int .i64 a1, .int .i64 k1, .string p1, .string i1, .int .i64 v1, .string t1], .agg #[.string s1, .int .i64 n2, .int .i64 a2, .int .i64 k2, .string p2, .string i2, .int .i64 v2, .string t2]] (Sort.grow (redrawn wc d) os) fun e w'' => e = .returned (.bool (n1 == n2)) ∧ ∃ p : Regrown, w'' = Sort.grow (redrawn wc p.d) p.os := fun d os => Calls.regrown_of (same_eq _ _ _ _ _ _ _ _ _ _ _ _ _ _ _ _)
    refine wp_region_quiet_below (by kernel_rfl) (by kernel_rfl) ?_
    repeat (go_big_quiet_step ((first | with_reducible exact cR _ _ | with_reducible exact c0 _ _ | with_reducible exact cS _ _)))
    refine wpQuiet_nil ?_
    intro _ hw'
    obtain ⟨⟨dq, osq⟩, hw''⟩ := hw'
    subst hw''
    have bq := below_regrown wc dq osq
    go_wp2_with fail
    go_ret
    exact ⟨rfl, N.bw.trans (bq.mono N.bw.size)⟩
set_option maxRecDepth 100000 in
set_option maxHeartbeats 16000000 in
theorem cmpC3 (s1 : ByteArray) (n1 a1 k1 : Int) (p1 i1 : ByteArray) (v1 : Int) (t1 : ByteArray) (s2 : ByteArray) (n2 a2 k2 : Int) (p2 i2 : ByteArray) (v2 : Int) (t2 : ByteArray) (s3 : ByteArray) (n3 a3 k3 : Int) (p3 i3 : ByteArray) (v3 : Int) (t3 : ByteArray)  (z1 : Small ⟨s1, n1, a1, k1, p1, i1, v1, t1⟩ 1000) (z2 : Small ⟨s2, n2, a2, k2, p2, i2, v2, t2⟩ 1000) (z3 : Small ⟨s3, n3, a3, k3, p3, i3, v3, t3⟩ 1000)
    (hx : cmpK a1 a2 s1 s2 n1 n2 = 0) (hy : cmpK a2 a3 s2 s3 n2 n3 = 0) (hz : cmpK a1 a3 s1 s3 n1 n3 = 0) (hr : cmpK a2 a1 s2 s1 n2 n1 = 0) (h0 : cmpK a1 a1 s1 s1 n1 n1 = 0) (h12 : lessK a1 a2 s1 s2 n1 n2 = false) (h21 : lessK a2 a1 s2 s1 n2 n1 = false) (he : s1 = s2) (w : World) (hL : Lay w) :
    Calls Tryd.prog 4 #[.agg #[.string s1, .int .i64 n1, .int .i64 a1, .int .i64 k1, .string p1, .string i1, .int .i64 v1, .string t1], .agg #[.string s2, .int .i64 n2, .int .i64 a2, .int .i64 k2, .string p2, .string i2, .int .i64 v2, .string t2], .agg #[.string s3, .int .i64 n3, .int .i64 a3, .int .i64 k3, .string p3, .string i3, .int .i64 v3, .string t3]] w fun e w' => e = .returned (.bool true) ∧ Below w.heap.size w w' := by
  subst he
  have HX := Lib.hid hx
  have HY := Lib.hid hy
  have HZ := Lib.hid hz
  have HR := Lib.hid hr
  have H0 := Lib.hid h0
  have H12 := Lib.hid h12
  have H21 := Lib.hid h21
  have Z1 := Lib.hid z1
  have Z2 := Lib.hid z2
  have Z3 := Lib.hid z3
  have HL := Lib.hid hL
  clear hx hy hz hr h0 h12 h21 z1 z2 z3 hL
  go_enter Tryd.func4, Tryd.ntmps4
  go_wp2_with fail
  refine (lives_any _ (((HL.out.alloc _).alloc _).alloc _)).mono ?_
  rintro e w1 ⟨rfl, hb⟩
  have M0 := F3.start HL.out hb
  clear hb
  obtain ⟨⟨c0, c1, c2, c3, c4, c5, c6, c7, d0, d1, d2, d3, d4, d5, d6, d7, g0, g1, g2, g3, g4, g5, g6, g7, gz⟩, _⟩ := M0.out
  go_wp2_with fail
  refine (big_no s1 n1 a1 k1 p1 i1 v1 t1 1000 Z1.out _).mono ?_
  rintro e w2 ⟨rfl, hb⟩
  have M1 := M0.below hb
  clear hb c0 c1 c2 c3 c4 c5 c6 c7 d0 d1 d2 d3 d4 d5 d6 d7 g0 g1 g2 g3 g4 g5 g6 g7 gz
  obtain ⟨⟨c0, c1, c2, c3, c4, c5, c6, c7, d0, d1, d2, d3, d4, d5, d6, d7, g0, g1, g2, g3, g4, g5, g6, g7, gz⟩, _⟩ := M1.out
  go_wp2_with fail
  refine (big_no s1 n2 a2 k2 p2 i2 v2 t2 1000 Z2.out _).mono ?_
  rintro e w3 ⟨rfl, hb⟩
  have M2 := M1.below hb
  clear hb c0 c1 c2 c3 c4 c5 c6 c7 d0 d1 d2 d3 d4 d5 d6 d7 g0 g1 g2 g3 g4 g5 g6 g7 gz
  obtain ⟨⟨c0, c1, c2, c3, c4, c5, c6, c7, d0, d1, d2, d3, d4, d5, d6, d7, g0, g1, g2, g3, g4, g5, g6, g7, gz⟩, _⟩ := M2.out
  go_wp2_with fail
  refine (big_no s3 n3 a3 k3 p3 i3 v3 t3 1000 Z3.out _).mono ?_
  rintro e w4 ⟨rfl, hb⟩
  have M3 := M2.below hb
  clear hb c0 c1 c2 c3 c4 c5 c6 c7 d0 d1 d2 d3 d4 d5 d6 d7 g0 g1 g2 g3 g4 g5 g6 g7 gz
  obtain ⟨⟨c0, c1, c2, c3, c4, c5, c6, c7, d0, d1, d2, d3, d4, d5, d6, d7, g0, g1, g2, g3, g4, g5, g6, g7, gz⟩, _⟩ := M3.out
  go_wp2_with fail
  refine (less_any s1 n1 a1 k1 p1 i1 v1 t1 s1 n2 a2 k2 p2 i2 v2 t2 _).mono ?_
  rw [H12.out]
  rintro e w5 ⟨rfl, hb⟩
  have M4 := M3.below hb
  clear hb c0 c1 c2 c3 c4 c5 c6 c7 d0 d1 d2 d3 d4 d5 d6 d7 g0 g1 g2 g3 g4 g5 g6 g7 gz
  obtain ⟨⟨c0, c1, c2, c3, c4, c5, c6, c7, d0, d1, d2, d3, d4, d5, d6, d7, g0, g1, g2, g3, g4, g5, g6, g7, gz⟩, _⟩ := M4.out
  go_wp2_with fail
  refine (less_any s1 n2 a2 k2 p2 i2 v2 t2 s1 n1 a1 k1 p1 i1 v1 t1 _).mono ?_
  rw [H21.out]
  rintro e w6 ⟨rfl, hb⟩
  have M5 := M4.below hb
  clear hb c0 c1 c2 c3 c4 c5 c6 c7 d0 d1 d2 d3 d4 d5 d6 d7 g0 g1 g2 g3 g4 g5 g6 g7 gz
  obtain ⟨⟨c0, c1, c2, c3, c4, c5, c6, c7, d0, d1, d2, d3, d4, d5, d6, d7, g0, g1, g2, g3, g4, g5, g6, g7, gz⟩, _⟩ := M5.out
  go_upto_region 10 with fail
  have M := M5
  clear c0 c1 c2 c3 c4 c5 c6 c7 d0 d1 d2 d3 d4 d5 d6 d7 g0 g1 g2 g3 g4 g5 g6 g7 gz
  have HH := M.out
  go_cut [8, 9, 10] (fun x8 x9 x10 wx => x8 = .int .i64 (0) ∧ x9 = .int .i64 (0) ∧ x10 = .int .i64 (0) ∧ F3 w ⟨s1, n1, a1, k1, p1, i1, v1, t1⟩ ⟨s1, n2, a2, k2, p2, i2, v2, t2⟩ ⟨s3, n3, a3, k3, p3, i3, v3, t3⟩ wx)
  case first =>
    go_region_held3 (fun wx => (wx.cell? ⟨w.heap.size, 0, none⟩ = some (.string s1) ∧ wx.cell? ⟨w.heap.size, 1, none⟩ = some (.int .i64 n1) ∧ wx.cell? ⟨w.heap.size, 2, none⟩ = some (.int .i64 a1) ∧ wx.cell? ⟨w.heap.size, 3, none⟩ = some (.int .i64 k1) ∧ wx.cell? ⟨w.heap.size, 4, none⟩ = some (.string p1) ∧ wx.cell? ⟨w.heap.size, 5, none⟩ = some (.string i1) ∧ wx.cell? ⟨w.heap.size, 6, none⟩ = some (.int .i64 v1) ∧ wx.cell? ⟨w.heap.size, 7, none⟩ = some (.string t1) ∧ wx.cell? ⟨w.heap.size + 1, 0, none⟩ = some (.string s1) ∧ wx.cell? ⟨w.heap.size + 1, 1, none⟩ = some (.int .i64 n2) ∧ wx.cell? ⟨w.heap.size + 1, 2, none⟩ = some (.int .i64 a2) ∧ wx.cell? ⟨w.heap.size + 1, 3, none⟩ = some (.int .i64 k2) ∧ wx.cell? ⟨w.heap.size + 1, 4, none⟩ = some (.string p2) ∧ wx.cell? ⟨w.heap.size + 1, 5, none⟩ = some (.string i2) ∧ wx.cell? ⟨w.heap.size + 1, 6, none⟩ = some (.int .i64 v2) ∧ wx.cell? ⟨w.heap.size + 1, 7, none⟩ = some (.string t2) ∧ wx.cell? ⟨w.heap.size + 1 + 1, 0, none⟩ = some (.string s3) ∧ wx.cell? ⟨w.heap.size + 1 + 1, 1, none⟩ = some (.int .i64 n3) ∧ wx.cell? ⟨w.heap.size + 1 + 1, 2, none⟩ = some (.int .i64 a3) ∧ wx.cell? ⟨w.heap.size + 1 + 1, 3, none⟩ = some (.int .i64 k3) ∧ wx.cell? ⟨w.heap.size + 1 + 1, 4, none⟩ = some (.string p3) ∧ wx.cell? ⟨w.heap.size + 1 + 1, 5, none⟩ = some (.string i3) ∧ wx.cell? ⟨w.heap.size + 1 + 1, 6, none⟩ = some (.int .i64 v3) ∧ wx.cell? ⟨w.heap.size + 1 + 1, 7, none⟩ = some (.string t3) ∧ w.heap.size + 1 + 1 < wx.heap.size) ∧ F3 w ⟨s1, n1, a1, k1, p1, i1, v1, t1⟩ ⟨s1, n2, a2, k2, p2, i2, v2, t2⟩ ⟨s3, n3, a3, k3, p3, i3, v3, t3⟩ wx)
      ((refine F3.out ?_; repeat (first | exact M | refine F3.drew ?_ | refine F3.alloc ?_ _ | refine F3.below ?_ (by assumption))))
      (first | (go_at_call 26; (with_reducible refine (compare_any s1 n1 a1 k1 p1 i1 v1 t1 s1 n2 a2 k2 p2 i2 v2 t2 _).mono ?_); rw [HX.out]; rintro e w9 ⟨rfl, hb9⟩) | (go_at_call 26; (with_reducible refine (compare_any s1 n2 a2 k2 p2 i2 v2 t2 s3 n3 a3 k3 p3 i3 v3 t3 _).mono ?_); rw [HY.out]; rintro e w9 ⟨rfl, hb9⟩) | (go_at_call 26; (with_reducible refine (compare_any s1 n1 a1 k1 p1 i1 v1 t1 s3 n3 a3 k3 p3 i3 v3 t3 _).mono ?_); rw [HZ.out]; rintro e w9 ⟨rfl, hb9⟩) | (go_at_call 26; (with_reducible refine (compare_any s1 n2 a2 k2 p2 i2 v2 t2 s1 n1 a1 k1 p1 i1 v1 t1 _).mono ?_); rw [HR.out]; rintro e w9 ⟨rfl, hb9⟩) | (go_at_call 26; (with_reducible refine (compare_any s1 n1 a1 k1 p1 i1 v1 t1 s1 n1 a1 k1 p1 i1 v1 t1 _).mono ?_); rw [H0.out]; rintro e w9 ⟨rfl, hb9⟩))
    all_goals (go_wp2_with fail)
    all_goals (go_meet; exact ⟨rfl, rfl, rfl, (‹_ ∧ F3 _ _ _ _ _›).2⟩)
  case rest =>
    clear HH
    obtain ⟨rfl, rfl, rfl, N⟩ := hcut
    go_upto_region 13 with fail
    have hw : IntKind.i64.wrap (0) = 0 := by rw [IntKind.wrap_i64]; omega
    obtain ⟨⟨c0, c1, c2, c3, c4, c5, c6, c7, d0, d1, d2, d3, d4, d5, d6, d7, g0, g1, g2, g3, g4, g5, g6, g7, gz⟩, _⟩ := N.out
    have qc0 := cell_regrown c0
    have qc1 := cell_regrown c1
    have qc2 := cell_regrown c2
    have qc3 := cell_regrown c3
    have qc4 := cell_regrown c4
    have qc5 := cell_regrown c5
    have qc6 := cell_regrown c6
    have qc7 := cell_regrown c7
    have qd0 := cell_regrown d0
    have qd1 := cell_regrown d1
    have qd2 := cell_regrown d2
    have qd3 := cell_regrown d3
    have qd4 := cell_regrown d4
    have qd5 := cell_regrown d5
    have qd6 := cell_regrown d6
    have qd7 := cell_regrown d7
    clear c0 c1 c2 c3 c4 c5 c6 c7 d0 d1 d2 d3 d4 d5 d6 d7 g0 g1 g2 g3 g4 g5 g6 g7 gz
    have cR : ∀ d os, Calls Tryd.prog 26 #[.agg #[.string s1, .int .i64 n2, .int .i64 a2, .int .i64 k2, .string p2, .string i2, .int .i64 v2, .string t2], .agg #[.string s1, .int .i64 n1, .int .i64 a1, .int .i64 k1, .string p1, .string i1, .int .i64 v1, .string t1]] (Sort.grow (redrawn wc d) os) fun e w'' => e = .returned (.int .i64 (0)) ∧ ∃ p : Regrown, w'' = Sort.grow (redrawn wc p.d) p.os := fun d os => Calls.regrown_of ((compare_any s1 n2 a2 k2 p2 i2 v2 t2 s1 n1 a1 k1 p1 i1 v1 t1 _).mono (by rw [HR.out]; exact fun _ _ h => h))
    have c0 : ∀ d os, Calls Tryd.prog 26 #[.agg #[.string s1, .int .i64 n1, .int .i64 a1, .int .i64 k1, .string p1, .string i1, .int .i64 v1, .string t1], .agg #[.string s1, .int .i64 n1, .int .i64 a1, .int .i64 k1, .string p1, .string i1, .int .i64 v1, .string t1]] (Sort.grow (redrawn wc d) os) fun e w'' => e = .returned (.int .i64 0) ∧ ∃ p : Regrown, w'' = Sort.grow (redrawn wc p.d) p.os := fun d os => Calls.regrown_of ((compare_any s1 n1 a1 k1 p1 i1 v1 t1 s1 n1 a1 k1 p1 i1 v1 t1 _).mono (by rw [H0.out]; exact fun _ _ h => h))
    have cS : ∀ d os, Calls Tryd.prog 27 #[.agg #[.string s1, .int .i64 n1, .int .i64 a1, .int .i64 k1, .string p1, .string i1, .int .i64 v1, .string t1], .agg #[.string s1, .int .i64 n2, .int .i64 a2, .int .i64 k2, .string p2, .string i2, .int .i64 v2, .string t2]] (Sort.grow (redrawn wc d) os) fun e w'' => e = .returned (.bool (n1 == n2)) ∧ ∃ p : Regrown, w'' = Sort.grow (redrawn wc p.d) p.os := fun d os => Calls.regrown_of (same_eq _ _ _ _ _ _ _ _ _ _ _ _ _ _ _ _)
    refine wp_region_quiet_below (by kernel_rfl) (by kernel_rfl) ?_
    repeat (go_big_quiet_step ((first | with_reducible exact cR _ _ | with_reducible exact c0 _ _ | with_reducible exact cS _ _)))
    refine wpQuiet_nil ?_
    intro _ hw'
    obtain ⟨⟨dq, osq⟩, hw''⟩ := hw'
    subst hw''
    have bq := below_regrown wc dq osq
    go_wp2_with fail
    go_ret
    exact ⟨rfl, N.bw.trans (bq.mono N.bw.size)⟩
end Go.Proofs.YthfhfekneahonaaDoor
