/- The walk of EventUnlike: its main ways. -/
import Derived.Test.YthfhfekneahonaaDoorLh0
namespace Go.Proofs.YthfhfekneahonaaDoor
open Go.RowKit
set_option linter.unusedVariables false
set_option maxRecDepth 100000 in
set_option maxHeartbeats 16000000 in
theorem unl_m5gt (s1 : ByteArray) (n1 a1 k1 : Int) (p1 i1 : ByteArray) (v1 : Int) (t1 : ByteArray) (i2 : ByteArray) (v2 : Int) (t2 : ByteArray) (z1 : Small ⟨s1, n1, a1, k1, p1, i1, v1, t1⟩ 300) (z2 : Small ⟨s1, n1, a1, k1, p1, i2, v2, t2⟩ 300) (y1 : mayB ⟨s1, n1, a1, k1, p1, i1, v1, t1⟩ = true) (y2 : mayB ⟨s1, n1, a1, k1, p1, i2, v2, t2⟩ = true) (x0 : ¬ i1.toList = i2.toList) (he : (⟨s1, n1, a1, k1, p1, i1, v1, t1⟩ : Ev) ≠ ⟨s1, n1, a1, k1, p1, i2, v2, t2⟩) (hle0 : ¬ (encL ⟨s1, n1, a1, k1, p1, i1, v1, t1⟩).length ≤ (encL ⟨s1, n1, a1, k1, p1, i2, v2, t2⟩).length) (w : World) (hL : Lay w) :
    Calls Tryd.prog 10 #[.agg #[.string s1, .int .i64 n1, .int .i64 a1, .int .i64 k1, .string p1, .string i1, .int .i64 v1, .string t1], .agg #[.string s1, .int .i64 n1, .int .i64 a1, .int .i64 k1, .string p1, .string i2, .int .i64 v2, .string t2]] w fun e w' => e = .returned (.bool true) ∧ Below w.heap.size w w' := by
  have B1 : t1.size ≤ 1000000000 := by have := z1.2.2.2; simp only at this; omega
  have B2 : t2.size ≤ 1000000000 := by have := z2.2.2.2; simp only at this; omega
  have E1' := fun w hL => enc_at y1 w hL
  have G1' := fun w hL => fmt_at y1 w hL
  have l1p := encL_pos ⟨s1, n1, a1, k1, p1, i1, v1, t1⟩
  have E2' := fun w hL => enc_at y2 w hL
  have G2' := fun w hL => fmt_at y2 w hL
  have l2p := encL_pos ⟨s1, n1, a1, k1, p1, i2, v2, t2⟩
  have Q1 : encL ⟨s1, n1, a1, k1, p1, i1, v1, t1⟩ ≠ encL ⟨s1, n1, a1, k1, p1, i2, v2, t2⟩ := fun h => he (encL_inj (r := []) (q := []) y1 y2 (by rw [h]))
  have Q2 : fmtL ⟨s1, n1, a1, k1, p1, i1, v1, t1⟩ ≠ fmtL ⟨s1, n1, a1, k1, p1, i2, v2, t2⟩ := fun h => he (fmt_inj y1 y2 h)
  have Q3 : encL ⟨s1, n1, a1, k1, p1, i1, v1, t1⟩ ≠ (encL ⟨s1, n1, a1, k1, p1, i2, v2, t2⟩).take (encL ⟨s1, n1, a1, k1, p1, i1, v1, t1⟩).length := fun h => he (enc_prefix y1 y2 h)
  generalize encL ⟨s1, n1, a1, k1, p1, i1, v1, t1⟩ = l1 at *
  generalize fmtL ⟨s1, n1, a1, k1, p1, i1, v1, t1⟩ = f1 at *
  have hle := hle0
  clear hle0
  generalize encL ⟨s1, n1, a1, k1, p1, i2, v2, t2⟩ = l2 at *
  generalize fmtL ⟨s1, n1, a1, k1, p1, i2, v2, t2⟩ = f2 at *
  have E1 := Lib.hid E1'
  have G1 := Lib.hid G1'
  have E2 := Lib.hid E2'
  have G2 := Lib.hid G2'
  have Z1 := Lib.hid z1
  have Z2 := Lib.hid z2
  have Y1 := Lib.hid y1
  have Y2 := Lib.hid y2
  have HL := Lib.hid hL
  have X1 : ((bs l1).toList == (bs l2).toList) = false := by rw [toL, toL, bs_data, bs_data]; simpa using Q1
  have X2 : ((bs f1).toList == (bs f2).toList) = false := by rw [toL, toL, bs_data, bs_data]; simpa using Q2
  have X3 : ((bs l1).toList == (bs (l2.take l1.length)).toList) = false := by rw [toL, toL, bs_data, bs_data]; simpa using Q3
  clear Q1 Q2 Q3
  clear hL z1 z2 y1 y2 E1' G1' E2' G2' he
  go_enter Tryd.func10, Tryd.ntmps10
  go_wp2_with fail
  refine (lives_any _ ((HL.out.alloc _).alloc _)).mono ?_
  rintro e w1 ⟨rfl, hb⟩
  have M0 := F2.start HL.out hb
  clear hb
  obtain ⟨⟨c0, c1, c2, c3, c4, c5, c6, c7, d0, d1, d2, d3, d4, d5, d6, d7, gz⟩, _⟩ := M0.out
  go_wp2_with fail
  refine (big_no s1 n1 a1 k1 p1 i1 v1 t1 300 Z1.out _).mono ?_
  rintro e w2 ⟨rfl, hb⟩
  have M1 := M0.below hb
  clear hb c0 c1 c2 c3 c4 c5 c6 c7 d0 d1 d2 d3 d4 d5 d6 d7 gz
  obtain ⟨⟨c0, c1, c2, c3, c4, c5, c6, c7, d0, d1, d2, d3, d4, d5, d6, d7, gz⟩, _⟩ := M1.out
  go_wp2_with fail
  refine (big_no s1 n1 a1 k1 p1 i2 v2 t2 300 Z2.out _).mono ?_
  rintro e w3 ⟨rfl, hb⟩
  have M2 := M1.below hb
  clear hb c0 c1 c2 c3 c4 c5 c6 c7 d0 d1 d2 d3 d4 d5 d6 d7 gz
  obtain ⟨⟨c0, c1, c2, c3, c4, c5, c6, c7, d0, d1, d2, d3, d4, d5, d6, d7, gz⟩, _⟩ := M2.out
  go_wp2_with fail
  refine (rmay_any s1 n1 a1 k1 p1 i1 v1 t1 B1 _).mono ?_
  rw [Y1.out]
  rintro e w4 ⟨rfl, hb⟩
  have M3 := M2.below hb
  clear hb c0 c1 c2 c3 c4 c5 c6 c7 d0 d1 d2 d3 d4 d5 d6 d7 gz
  obtain ⟨⟨c0, c1, c2, c3, c4, c5, c6, c7, d0, d1, d2, d3, d4, d5, d6, d7, gz⟩, _⟩ := M3.out
  go_wp2_with fail
  refine (rmay_any s1 n1 a1 k1 p1 i2 v2 t2 B2 _).mono ?_
  rw [Y2.out]
  rintro e w5 ⟨rfl, hb⟩
  have M4 := M3.below hb
  clear hb c0 c1 c2 c3 c4 c5 c6 c7 d0 d1 d2 d3 d4 d5 d6 d7 gz
  obtain ⟨⟨c0, c1, c2, c3, c4, c5, c6, c7, d0, d1, d2, d3, d4, d5, d6, d7, gz⟩, _⟩ := M4.out
  go_wp2_with fail
  refine (E1.out _ M4.lay).mono ?_
  rintro e w6 ⟨y1v, rfl, o1, hb⟩
  have M5 := M4.below hb
  clear hb c0 c1 c2 c3 c4 c5 c6 c7 d0 d1 d2 d3 d4 d5 d6 d7 gz
  obtain ⟨⟨c0, c1, c2, c3, c4, c5, c6, c7, d0, d1, d2, d3, d4, d5, d6, d7, gz⟩, _⟩ := M5.out
  go_wp2_with fail
  refine (E2.out _ M5.lay).mono ?_
  rintro e wc ⟨y2v, rfl, o2, hb⟩
  have o1 := o1.below hb (Nat.le_refl _)
  have M := M5.below hb
  clear hb c0 c1 c2 c3 c4 c5 c6 c7 d0 d1 d2 d3 d4 d5 d6 d7 gz
  obtain ⟨g1, cp1, rfl, hg1, hk1⟩ := own_size o1 l1p
  obtain ⟨g2, cp2, rfl, hg2, hk2⟩ := own_size o2 l2p
  obtain ⟨⟨c0, c1, c2, c3, c4, c5, c6, c7, d0, d1, d2, d3, d4, d5, d6, d7, gz⟩, _⟩ := M.out
  go_upto_region 7 with fail
  have cA : ∀ d os, (convert 44 9 (.slice (some ⟨g1, 0, none⟩) l1.length cp1)).run Tryd.prog (Sort.grow (redrawn wc d) os) = .ok (.string (bs l1)) (Sort.grow (redrawn wc d) os) := fun d os => conv_own (o1.below (below_regrown wc d os) (Nat.le_refl _)) l1p
  have cB : ∀ d os, (convert 44 9 (.slice (some ⟨g2, 0, none⟩) l2.length cp2)).run Tryd.prog (Sort.grow (redrawn wc d) os) = .ok (.string (bs l2)) (Sort.grow (redrawn wc d) os) := fun d os => conv_own (o2.below (below_regrown wc d os) (Nat.le_refl _)) l2p
  have cF : ∀ d os, Calls Tryd.prog 36 #[.agg #[.string s1, .int .i64 n1, .int .i64 a1, .int .i64 k1, .string p1, .string i1, .int .i64 v1, .string t1]] (Sort.grow (redrawn wc d) os) fun e w'' => e = .returned (.string (bs f1)) ∧ ∃ p : Regrown, w'' = Sort.grow (redrawn wc p.d) p.os := fun d os => Calls.regrown_of (G1.out _ (M.lay.next (below_regrown wc d os)))
  have cG : ∀ d os, Calls Tryd.prog 36 #[.agg #[.string s1, .int .i64 n1, .int .i64 a1, .int .i64 k1, .string p1, .string i2, .int .i64 v2, .string t2]] (Sort.grow (redrawn wc d) os) fun e w'' => e = .returned (.string (bs f2)) ∧ ∃ p : Regrown, w'' = Sort.grow (redrawn wc p.d) p.os := fun d os => Calls.regrown_of (G2.out _ (M.lay.next (below_regrown wc d os)))
  have qc0 := cell_regrown c0
  have qc1 := cell_regrown c1
  have qc2 := cell_regrown c2
  have qc3 := cell_regrown c3
  have qc4 := cell_regrown c4
  have qc5 := cell_regrown c5
  have qc6 := cell_regrown c6
  have qc7 := cell_regrown c7
  have qd0 := cell_regrown d0
  have qd1 := cell_regrown d1
  have qd2 := cell_regrown d2
  have qd3 := cell_regrown d3
  have qd4 := cell_regrown d4
  have qd5 := cell_regrown d5
  have qd6 := cell_regrown d6
  have qd7 := cell_regrown d7
  clear c0 c1 c2 c3 c4 c5 c6 c7 d0 d1 d2 d3 d4 d5 d6 d7 gz
  refine wp_region_quiet_below (by kernel_rfl) (by kernel_rfl) ?_
  repeat (go_big_quiet_step (first | with_reducible exact cF _ _ | with_reducible exact cG _ _))
  refine wpQuiet_nil ?_
  intro _ hw'
  obtain ⟨⟨dq, osq⟩, hw''⟩ := hw'
  subst hw''
  have bq := below_regrown wc dq osq
  have NN := M.below bq
  obtain ⟨⟨c0, c1, c2, c3, c4, c5, c6, c7, d0, d1, d2, d3, d4, d5, d6, d7, gz⟩, _⟩ := NN.out
  have o1 := o1.below bq (Nat.le_refl _)
  have o2 := o2.below bq (Nat.le_refl _)
  clear cA cB cF cG qc0 qc1 qc2 qc3 qc4 qc5 qc6 qc7 qd0 qd1 qd2 qd3 qd4 qd5 qd6 qd7
  clear hg1 hg2
  generalize Sort.grow (redrawn wc dq) osq = wd at *
  clear bq
  go_upto_region 9 with fail
  have qc0 := cell_regrown c0
  have qc1 := cell_regrown c1
  have qc2 := cell_regrown c2
  have qc3 := cell_regrown c3
  have qc4 := cell_regrown c4
  have qc5 := cell_regrown c5
  have qc6 := cell_regrown c6
  have qc7 := cell_regrown c7
  have qd0 := cell_regrown d0
  have qd1 := cell_regrown d1
  have qd2 := cell_regrown d2
  have qd3 := cell_regrown d3
  have qd4 := cell_regrown d4
  have qd5 := cell_regrown d5
  have qd6 := cell_regrown d6
  have qd7 := cell_regrown d7
  clear c0 c1 c2 c3 c4 c5 c6 c7 d0 d1 d2 d3 d4 d5 d6 d7 gz
  have ht : decide ((l2.length : Int) < (l1.length : Int)) = true := by simp; omega
  have hn : decide (l2.length < l1.length) = true := by simp; omega
  refine wp_region_quiet_below (by kernel_rfl) (by kernel_rfl) ?_
  repeat (go_big_quiet_step (fail))
  refine wpQuiet_nil ?_
  intro _ hw'
  obtain ⟨⟨dq, osq⟩, hw''⟩ := hw'
  subst hw''
  have bq := below_regrown wd dq osq
  go_wp2_with fail
  go_ret
  exact ⟨rfl, NN.bw.trans (bq.mono NN.bw.size)⟩
set_option maxRecDepth 100000 in
set_option maxHeartbeats 16000000 in
theorem unl_m6le (s1 : ByteArray) (n1 a1 k1 : Int) (p1 i1 : ByteArray) (v1 : Int) (t1 : ByteArray) (v2 : Int) (t2 : ByteArray) (z1 : Small ⟨s1, n1, a1, k1, p1, i1, v1, t1⟩ 300) (z2 : Small ⟨s1, n1, a1, k1, p1, i1, v2, t2⟩ 300) (y1 : mayB ⟨s1, n1, a1, k1, p1, i1, v1, t1⟩ = true) (y2 : mayB ⟨s1, n1, a1, k1, p1, i1, v2, t2⟩ = true) (x0 : ¬ v1 = v2) (he : (⟨s1, n1, a1, k1, p1, i1, v1, t1⟩ : Ev) ≠ ⟨s1, n1, a1, k1, p1, i1, v2, t2⟩) (hle0 : (encL ⟨s1, n1, a1, k1, p1, i1, v1, t1⟩).length ≤ (encL ⟨s1, n1, a1, k1, p1, i1, v2, t2⟩).length) (w : World) (hL : Lay w) :
    Calls Tryd.prog 10 #[.agg #[.string s1, .int .i64 n1, .int .i64 a1, .int .i64 k1, .string p1, .string i1, .int .i64 v1, .string t1], .agg #[.string s1, .int .i64 n1, .int .i64 a1, .int .i64 k1, .string p1, .string i1, .int .i64 v2, .string t2]] w fun e w' => e = .returned (.bool true) ∧ Below w.heap.size w w' := by
  have B1 : t1.size ≤ 1000000000 := by have := z1.2.2.2; simp only at this; omega
  have B2 : t2.size ≤ 1000000000 := by have := z2.2.2.2; simp only at this; omega
  have E1' := fun w hL => enc_at y1 w hL
  have G1' := fun w hL => fmt_at y1 w hL
  have l1p := encL_pos ⟨s1, n1, a1, k1, p1, i1, v1, t1⟩
  have E2' := fun w hL => enc_at y2 w hL
  have G2' := fun w hL => fmt_at y2 w hL
  have l2p := encL_pos ⟨s1, n1, a1, k1, p1, i1, v2, t2⟩
  have Q1 : encL ⟨s1, n1, a1, k1, p1, i1, v1, t1⟩ ≠ encL ⟨s1, n1, a1, k1, p1, i1, v2, t2⟩ := fun h => he (encL_inj (r := []) (q := []) y1 y2 (by rw [h]))
  have Q2 : fmtL ⟨s1, n1, a1, k1, p1, i1, v1, t1⟩ ≠ fmtL ⟨s1, n1, a1, k1, p1, i1, v2, t2⟩ := fun h => he (fmt_inj y1 y2 h)
  have Q3 : encL ⟨s1, n1, a1, k1, p1, i1, v1, t1⟩ ≠ (encL ⟨s1, n1, a1, k1, p1, i1, v2, t2⟩).take (encL ⟨s1, n1, a1, k1, p1, i1, v1, t1⟩).length := fun h => he (enc_prefix y1 y2 h)
  generalize encL ⟨s1, n1, a1, k1, p1, i1, v1, t1⟩ = l1 at *
  generalize fmtL ⟨s1, n1, a1, k1, p1, i1, v1, t1⟩ = f1 at *
  have hle := hle0
  clear hle0
  generalize encL ⟨s1, n1, a1, k1, p1, i1, v2, t2⟩ = l2 at *
  generalize fmtL ⟨s1, n1, a1, k1, p1, i1, v2, t2⟩ = f2 at *
  have E1 := Lib.hid E1'
  have G1 := Lib.hid G1'
  have E2 := Lib.hid E2'
  have G2 := Lib.hid G2'
  have Z1 := Lib.hid z1
  have Z2 := Lib.hid z2
  have Y1 := Lib.hid y1
  have Y2 := Lib.hid y2
  have HL := Lib.hid hL
  have X1 : ((bs l1).toList == (bs l2).toList) = false := by rw [toL, toL, bs_data, bs_data]; simpa using Q1
  have X2 : ((bs f1).toList == (bs f2).toList) = false := by rw [toL, toL, bs_data, bs_data]; simpa using Q2
  have X3 : ((bs l1).toList == (bs (l2.take l1.length)).toList) = false := by rw [toL, toL, bs_data, bs_data]; simpa using Q3
  clear Q1 Q2 Q3
  clear hL z1 z2 y1 y2 E1' G1' E2' G2' he
  go_enter Tryd.func10, Tryd.ntmps10
  go_wp2_with fail
  refine (lives_any _ ((HL.out.alloc _).alloc _)).mono ?_
  rintro e w1 ⟨rfl, hb⟩
  have M0 := F2.start HL.out hb
  clear hb
  obtain ⟨⟨c0, c1, c2, c3, c4, c5, c6, c7, d0, d1, d2, d3, d4, d5, d6, d7, gz⟩, _⟩ := M0.out
  go_wp2_with fail
  refine (big_no s1 n1 a1 k1 p1 i1 v1 t1 300 Z1.out _).mono ?_
  rintro e w2 ⟨rfl, hb⟩
  have M1 := M0.below hb
  clear hb c0 c1 c2 c3 c4 c5 c6 c7 d0 d1 d2 d3 d4 d5 d6 d7 gz
  obtain ⟨⟨c0, c1, c2, c3, c4, c5, c6, c7, d0, d1, d2, d3, d4, d5, d6, d7, gz⟩, _⟩ := M1.out
  go_wp2_with fail
  refine (big_no s1 n1 a1 k1 p1 i1 v2 t2 300 Z2.out _).mono ?_
  rintro e w3 ⟨rfl, hb⟩
  have M2 := M1.below hb
  clear hb c0 c1 c2 c3 c4 c5 c6 c7 d0 d1 d2 d3 d4 d5 d6 d7 gz
  obtain ⟨⟨c0, c1, c2, c3, c4, c5, c6, c7, d0, d1, d2, d3, d4, d5, d6, d7, gz⟩, _⟩ := M2.out
  go_wp2_with fail
  refine (rmay_any s1 n1 a1 k1 p1 i1 v1 t1 B1 _).mono ?_
  rw [Y1.out]
  rintro e w4 ⟨rfl, hb⟩
  have M3 := M2.below hb
  clear hb c0 c1 c2 c3 c4 c5 c6 c7 d0 d1 d2 d3 d4 d5 d6 d7 gz
  obtain ⟨⟨c0, c1, c2, c3, c4, c5, c6, c7, d0, d1, d2, d3, d4, d5, d6, d7, gz⟩, _⟩ := M3.out
  go_wp2_with fail
  refine (rmay_any s1 n1 a1 k1 p1 i1 v2 t2 B2 _).mono ?_
  rw [Y2.out]
  rintro e w5 ⟨rfl, hb⟩
  have M4 := M3.below hb
  clear hb c0 c1 c2 c3 c4 c5 c6 c7 d0 d1 d2 d3 d4 d5 d6 d7 gz
  obtain ⟨⟨c0, c1, c2, c3, c4, c5, c6, c7, d0, d1, d2, d3, d4, d5, d6, d7, gz⟩, _⟩ := M4.out
  go_wp2_with fail
  refine (E1.out _ M4.lay).mono ?_
  rintro e w6 ⟨y1v, rfl, o1, hb⟩
  have M5 := M4.below hb
  clear hb c0 c1 c2 c3 c4 c5 c6 c7 d0 d1 d2 d3 d4 d5 d6 d7 gz
  obtain ⟨⟨c0, c1, c2, c3, c4, c5, c6, c7, d0, d1, d2, d3, d4, d5, d6, d7, gz⟩, _⟩ := M5.out
  go_wp2_with fail
  refine (E2.out _ M5.lay).mono ?_
  rintro e wc ⟨y2v, rfl, o2, hb⟩
  have o1 := o1.below hb (Nat.le_refl _)
  have M := M5.below hb
  clear hb c0 c1 c2 c3 c4 c5 c6 c7 d0 d1 d2 d3 d4 d5 d6 d7 gz
  obtain ⟨g1, cp1, rfl, hg1, hk1⟩ := own_size o1 l1p
  obtain ⟨g2, cp2, rfl, hg2, hk2⟩ := own_size o2 l2p
  obtain ⟨⟨c0, c1, c2, c3, c4, c5, c6, c7, d0, d1, d2, d3, d4, d5, d6, d7, gz⟩, _⟩ := M.out
  go_upto_region 7 with fail
  have cA : ∀ d os, (convert 44 9 (.slice (some ⟨g1, 0, none⟩) l1.length cp1)).run Tryd.prog (Sort.grow (redrawn wc d) os) = .ok (.string (bs l1)) (Sort.grow (redrawn wc d) os) := fun d os => conv_own (o1.below (below_regrown wc d os) (Nat.le_refl _)) l1p
  have cB : ∀ d os, (convert 44 9 (.slice (some ⟨g2, 0, none⟩) l2.length cp2)).run Tryd.prog (Sort.grow (redrawn wc d) os) = .ok (.string (bs l2)) (Sort.grow (redrawn wc d) os) := fun d os => conv_own (o2.below (below_regrown wc d os) (Nat.le_refl _)) l2p
  have cF : ∀ d os, Calls Tryd.prog 36 #[.agg #[.string s1, .int .i64 n1, .int .i64 a1, .int .i64 k1, .string p1, .string i1, .int .i64 v1, .string t1]] (Sort.grow (redrawn wc d) os) fun e w'' => e = .returned (.string (bs f1)) ∧ ∃ p : Regrown, w'' = Sort.grow (redrawn wc p.d) p.os := fun d os => Calls.regrown_of (G1.out _ (M.lay.next (below_regrown wc d os)))
  have cG : ∀ d os, Calls Tryd.prog 36 #[.agg #[.string s1, .int .i64 n1, .int .i64 a1, .int .i64 k1, .string p1, .string i1, .int .i64 v2, .string t2]] (Sort.grow (redrawn wc d) os) fun e w'' => e = .returned (.string (bs f2)) ∧ ∃ p : Regrown, w'' = Sort.grow (redrawn wc p.d) p.os := fun d os => Calls.regrown_of (G2.out _ (M.lay.next (below_regrown wc d os)))
  have qc0 := cell_regrown c0
  have qc1 := cell_regrown c1
  have qc2 := cell_regrown c2
  have qc3 := cell_regrown c3
  have qc4 := cell_regrown c4
  have qc5 := cell_regrown c5
  have qc6 := cell_regrown c6
  have qc7 := cell_regrown c7
  have qd0 := cell_regrown d0
  have qd1 := cell_regrown d1
  have qd2 := cell_regrown d2
  have qd3 := cell_regrown d3
  have qd4 := cell_regrown d4
  have qd5 := cell_regrown d5
  have qd6 := cell_regrown d6
  have qd7 := cell_regrown d7
  clear c0 c1 c2 c3 c4 c5 c6 c7 d0 d1 d2 d3 d4 d5 d6 d7 gz
  refine wp_region_quiet_below (by kernel_rfl) (by kernel_rfl) ?_
  repeat (go_big_quiet_step (first | with_reducible exact cF _ _ | with_reducible exact cG _ _))
  refine wpQuiet_nil ?_
  intro _ hw'
  obtain ⟨⟨dq, osq⟩, hw''⟩ := hw'
  subst hw''
  have bq := below_regrown wc dq osq
  have NN := M.below bq
  obtain ⟨⟨c0, c1, c2, c3, c4, c5, c6, c7, d0, d1, d2, d3, d4, d5, d6, d7, gz⟩, _⟩ := NN.out
  have o1 := o1.below bq (Nat.le_refl _)
  have o2 := o2.below bq (Nat.le_refl _)
  clear cA cB cF cG qc0 qc1 qc2 qc3 qc4 qc5 qc6 qc7 qd0 qd1 qd2 qd3 qd4 qd5 qd6 qd7
  clear hg1 hg2
  generalize Sort.grow (redrawn wc dq) osq = wd at *
  clear bq
  go_upto_region 9 with fail
  have qc0 := cell_regrown c0
  have qc1 := cell_regrown c1
  have qc2 := cell_regrown c2
  have qc3 := cell_regrown c3
  have qc4 := cell_regrown c4
  have qc5 := cell_regrown c5
  have qc6 := cell_regrown c6
  have qc7 := cell_regrown c7
  have qd0 := cell_regrown d0
  have qd1 := cell_regrown d1
  have qd2 := cell_regrown d2
  have qd3 := cell_regrown d3
  have qd4 := cell_regrown d4
  have qd5 := cell_regrown d5
  have qd6 := cell_regrown d6
  have qd7 := cell_regrown d7
  clear c0 c1 c2 c3 c4 c5 c6 c7 d0 d1 d2 d3 d4 d5 d6 d7 gz
  have cA : ∀ d os, (convert 44 9 (.slice (some ⟨g1, 0, none⟩) l1.length cp1)).run Tryd.prog (Sort.grow (redrawn wd d) os) = .ok (.string (bs l1)) (Sort.grow (redrawn wd d) os) := fun d os => conv_own (o1.below (below_regrown wd d os) (Nat.le_refl _)) l1p
  have cB : ∀ c d os, (convert 44 9 (.slice (some ⟨g2, 0, none⟩) l1.length c)).run Tryd.prog (Sort.grow (redrawn wd d) os) = .ok (.string (bs (l2.take l1.length))) (Sort.grow (redrawn wd d) os) := fun c d os => conv_take (o2.below (below_regrown wd d os) (Nat.le_refl _)) _ c hle
  have ht : decide ((l2.length : Int) < (l1.length : Int)) = false := by simp; omega
  have hn : decide (l2.length < l1.length) = false := by simp; omega
  have hs : l1.length ≤ cp2 := by omega
  refine wp_region_quiet_below (by kernel_rfl) (by kernel_rfl) ?_
  repeat (go_big_quiet_step (fail))
  refine wpQuiet_nil ?_
  intro _ hw'
  obtain ⟨⟨dq, osq⟩, hw''⟩ := hw'
  subst hw''
  have bq := below_regrown wd dq osq
  go_wp2_with fail
  go_ret
  exact ⟨rfl, NN.bw.trans (bq.mono NN.bw.size)⟩
set_option maxRecDepth 100000 in
set_option maxHeartbeats 16000000 in
theorem unl_m6gt (s1 : ByteArray) (n1 a1 k1 : Int) (p1 i1 : ByteArray) (v1 : Int) (t1 : ByteArray) (v2 : Int) (t2 : ByteArray) (z1 : Small ⟨s1, n1, a1, k1, p1, i1, v1, t1⟩ 300) (z2 : Small ⟨s1, n1, a1, k1, p1, i1, v2, t2⟩ 300) (y1 : mayB ⟨s1, n1, a1, k1, p1, i1, v1, t1⟩ = true) (y2 : mayB ⟨s1, n1, a1, k1, p1, i1, v2, t2⟩ = true) (x0 : ¬ v1 = v2) (he : (⟨s1, n1, a1, k1, p1, i1, v1, t1⟩ : Ev) ≠ ⟨s1, n1, a1, k1, p1, i1, v2, t2⟩) (hle0 : ¬ (encL ⟨s1, n1, a1, k1, p1, i1, v1, t1⟩).length ≤ (encL ⟨s1, n1, a1, k1, p1, i1, v2, t2⟩).length) (w : World) (hL : Lay w) :
    Calls Tryd.prog 10 #[.agg #[.string s1, .int .i64 n1, .int .i64 a1, .int .i64 k1, .string p1, .string i1, .int .i64 v1, .string t1], .agg #[.string s1, .int .i64 n1, .int .i64 a1, .int .i64 k1, .string p1, .string i1, .int .i64 v2, .string t2]] w fun e w' => e = .returned (.bool true) ∧ Below w.heap.size w w' := by
  have B1 : t1.size ≤ 1000000000 := by have := z1.2.2.2; simp only at this; omega
  have B2 : t2.size ≤ 1000000000 := by have := z2.2.2.2; simp only at this; omega
  have E1' := fun w hL => enc_at y1 w hL
  have G1' := fun w hL => fmt_at y1 w hL
  have l1p := encL_pos ⟨s1, n1, a1, k1, p1, i1, v1, t1⟩
  have E2' := fun w hL => enc_at y2 w hL
  have G2' := fun w hL => fmt_at y2 w hL
  have l2p := encL_pos ⟨s1, n1, a1, k1, p1, i1, v2, t2⟩
  have Q1 : encL ⟨s1, n1, a1, k1, p1, i1, v1, t1⟩ ≠ encL ⟨s1, n1, a1, k1, p1, i1, v2, t2⟩ := fun h => he (encL_inj (r := []) (q := []) y1 y2 (by rw [h]))
  have Q2 : fmtL ⟨s1, n1, a1, k1, p1, i1, v1, t1⟩ ≠ fmtL ⟨s1, n1, a1, k1, p1, i1, v2, t2⟩ := fun h => he (fmt_inj y1 y2 h)
  have Q3 : encL ⟨s1, n1, a1, k1, p1, i1, v1, t1⟩ ≠ (encL ⟨s1, n1, a1, k1, p1, i1, v2, t2⟩).take (encL ⟨s1, n1, a1, k1, p1, i1, v1, t1⟩).length := fun h => he (enc_prefix y1 y2 h)
  generalize encL ⟨s1, n1, a1, k1, p1, i1, v1, t1⟩ = l1 at *
  generalize fmtL ⟨s1, n1, a1, k1, p1, i1, v1, t1⟩ = f1 at *
  have hle := hle0
  clear hle0
  generalize encL ⟨s1, n1, a1, k1, p1, i1, v2, t2⟩ = l2 at *
  generalize fmtL ⟨s1, n1, a1, k1, p1, i1, v2, t2⟩ = f2 at *
  have E1 := Lib.hid E1'
  have G1 := Lib.hid G1'
  have E2 := Lib.hid E2'
  have G2 := Lib.hid G2'
  have Z1 := Lib.hid z1
  have Z2 := Lib.hid z2
  have Y1 := Lib.hid y1
  have Y2 := Lib.hid y2
  have HL := Lib.hid hL
  have X1 : ((bs l1).toList == (bs l2).toList) = false := by rw [toL, toL, bs_data, bs_data]; simpa using Q1
  have X2 : ((bs f1).toList == (bs f2).toList) = false := by rw [toL, toL, bs_data, bs_data]; simpa using Q2
  have X3 : ((bs l1).toList == (bs (l2.take l1.length)).toList) = false := by rw [toL, toL, bs_data, bs_data]; simpa using Q3
  clear Q1 Q2 Q3
  clear hL z1 z2 y1 y2 E1' G1' E2' G2' he
  go_enter Tryd.func10, Tryd.ntmps10
  go_wp2_with fail
  refine (lives_any _ ((HL.out.alloc _).alloc _)).mono ?_
  rintro e w1 ⟨rfl, hb⟩
  have M0 := F2.start HL.out hb
  clear hb
  obtain ⟨⟨c0, c1, c2, c3, c4, c5, c6, c7, d0, d1, d2, d3, d4, d5, d6, d7, gz⟩, _⟩ := M0.out
  go_wp2_with fail
  refine (big_no s1 n1 a1 k1 p1 i1 v1 t1 300 Z1.out _).mono ?_
  rintro e w2 ⟨rfl, hb⟩
  have M1 := M0.below hb
  clear hb c0 c1 c2 c3 c4 c5 c6 c7 d0 d1 d2 d3 d4 d5 d6 d7 gz
  obtain ⟨⟨c0, c1, c2, c3, c4, c5, c6, c7, d0, d1, d2, d3, d4, d5, d6, d7, gz⟩, _⟩ := M1.out
  go_wp2_with fail
  refine (big_no s1 n1 a1 k1 p1 i1 v2 t2 300 Z2.out _).mono ?_
  rintro e w3 ⟨rfl, hb⟩
  have M2 := M1.below hb
  clear hb c0 c1 c2 c3 c4 c5 c6 c7 d0 d1 d2 d3 d4 d5 d6 d7 gz
  obtain ⟨⟨c0, c1, c2, c3, c4, c5, c6, c7, d0, d1, d2, d3, d4, d5, d6, d7, gz⟩, _⟩ := M2.out
  go_wp2_with fail
  refine (rmay_any s1 n1 a1 k1 p1 i1 v1 t1 B1 _).mono ?_
  rw [Y1.out]
  rintro e w4 ⟨rfl, hb⟩
  have M3 := M2.below hb
  clear hb c0 c1 c2 c3 c4 c5 c6 c7 d0 d1 d2 d3 d4 d5 d6 d7 gz
  obtain ⟨⟨c0, c1, c2, c3, c4, c5, c6, c7, d0, d1, d2, d3, d4, d5, d6, d7, gz⟩, _⟩ := M3.out
  go_wp2_with fail
  refine (rmay_any s1 n1 a1 k1 p1 i1 v2 t2 B2 _).mono ?_
  rw [Y2.out]
  rintro e w5 ⟨rfl, hb⟩
  have M4 := M3.below hb
  clear hb c0 c1 c2 c3 c4 c5 c6 c7 d0 d1 d2 d3 d4 d5 d6 d7 gz
  obtain ⟨⟨c0, c1, c2, c3, c4, c5, c6, c7, d0, d1, d2, d3, d4, d5, d6, d7, gz⟩, _⟩ := M4.out
  go_wp2_with fail
  refine (E1.out _ M4.lay).mono ?_
  rintro e w6 ⟨y1v, rfl, o1, hb⟩
  have M5 := M4.below hb
  clear hb c0 c1 c2 c3 c4 c5 c6 c7 d0 d1 d2 d3 d4 d5 d6 d7 gz
  obtain ⟨⟨c0, c1, c2, c3, c4, c5, c6, c7, d0, d1, d2, d3, d4, d5, d6, d7, gz⟩, _⟩ := M5.out
  go_wp2_with fail
  refine (E2.out _ M5.lay).mono ?_
  rintro e wc ⟨y2v, rfl, o2, hb⟩
  have o1 := o1.below hb (Nat.le_refl _)
  have M := M5.below hb
  clear hb c0 c1 c2 c3 c4 c5 c6 c7 d0 d1 d2 d3 d4 d5 d6 d7 gz
  obtain ⟨g1, cp1, rfl, hg1, hk1⟩ := own_size o1 l1p
  obtain ⟨g2, cp2, rfl, hg2, hk2⟩ := own_size o2 l2p
  obtain ⟨⟨c0, c1, c2, c3, c4, c5, c6, c7, d0, d1, d2, d3, d4, d5, d6, d7, gz⟩, _⟩ := M.out
  go_upto_region 7 with fail
  have cA : ∀ d os, (convert 44 9 (.slice (some ⟨g1, 0, none⟩) l1.length cp1)).run Tryd.prog (Sort.grow (redrawn wc d) os) = .ok (.string (bs l1)) (Sort.grow (redrawn wc d) os) := fun d os => conv_own (o1.below (below_regrown wc d os) (Nat.le_refl _)) l1p
  have cB : ∀ d os, (convert 44 9 (.slice (some ⟨g2, 0, none⟩) l2.length cp2)).run Tryd.prog (Sort.grow (redrawn wc d) os) = .ok (.string (bs l2)) (Sort.grow (redrawn wc d) os) := fun d os => conv_own (o2.below (below_regrown wc d os) (Nat.le_refl _)) l2p
  have cF : ∀ d os, Calls Tryd.prog 36 #[.agg #[.string s1, .int .i64 n1, .int .i64 a1, .int .i64 k1, .string p1, .string i1, .int .i64 v1, .string t1]] (Sort.grow (redrawn wc d) os) fun e w'' => e = .returned (.string (bs f1)) ∧ ∃ p : Regrown, w'' = Sort.grow (redrawn wc p.d) p.os := fun d os => Calls.regrown_of (G1.out _ (M.lay.next (below_regrown wc d os)))
  have cG : ∀ d os, Calls Tryd.prog 36 #[.agg #[.string s1, .int .i64 n1, .int .i64 a1, .int .i64 k1, .string p1, .string i1, .int .i64 v2, .string t2]] (Sort.grow (redrawn wc d) os) fun e w'' => e = .returned (.string (bs f2)) ∧ ∃ p : Regrown, w'' = Sort.grow (redrawn wc p.d) p.os := fun d os => Calls.regrown_of (G2.out _ (M.lay.next (below_regrown wc d os)))
  have qc0 := cell_regrown c0
  have qc1 := cell_regrown c1
  have qc2 := cell_regrown c2
  have qc3 := cell_regrown c3
  have qc4 := cell_regrown c4
  have qc5 := cell_regrown c5
  have qc6 := cell_regrown c6
  have qc7 := cell_regrown c7
  have qd0 := cell_regrown d0
  have qd1 := cell_regrown d1
  have qd2 := cell_regrown d2
  have qd3 := cell_regrown d3
  have qd4 := cell_regrown d4
  have qd5 := cell_regrown d5
  have qd6 := cell_regrown d6
  have qd7 := cell_regrown d7
  clear c0 c1 c2 c3 c4 c5 c6 c7 d0 d1 d2 d3 d4 d5 d6 d7 gz
  refine wp_region_quiet_below (by kernel_rfl) (by kernel_rfl) ?_
  repeat (go_big_quiet_step (first | with_reducible exact cF _ _ | with_reducible exact cG _ _))
  refine wpQuiet_nil ?_
  intro _ hw'
  obtain ⟨⟨dq, osq⟩, hw''⟩ := hw'
  subst hw''
  have bq := below_regrown wc dq osq
  have NN := M.below bq
  obtain ⟨⟨c0, c1, c2, c3, c4, c5, c6, c7, d0, d1, d2, d3, d4, d5, d6, d7, gz⟩, _⟩ := NN.out
  have o1 := o1.below bq (Nat.le_refl _)
  have o2 := o2.below bq (Nat.le_refl _)
  clear cA cB cF cG qc0 qc1 qc2 qc3 qc4 qc5 qc6 qc7 qd0 qd1 qd2 qd3 qd4 qd5 qd6 qd7
  clear hg1 hg2
  generalize Sort.grow (redrawn wc dq) osq = wd at *
  clear bq
  go_upto_region 9 with fail
  have qc0 := cell_regrown c0
  have qc1 := cell_regrown c1
  have qc2 := cell_regrown c2
  have qc3 := cell_regrown c3
  have qc4 := cell_regrown c4
  have qc5 := cell_regrown c5
  have qc6 := cell_regrown c6
  have qc7 := cell_regrown c7
  have qd0 := cell_regrown d0
  have qd1 := cell_regrown d1
  have qd2 := cell_regrown d2
  have qd3 := cell_regrown d3
  have qd4 := cell_regrown d4
  have qd5 := cell_regrown d5
  have qd6 := cell_regrown d6
  have qd7 := cell_regrown d7
  clear c0 c1 c2 c3 c4 c5 c6 c7 d0 d1 d2 d3 d4 d5 d6 d7 gz
  have ht : decide ((l2.length : Int) < (l1.length : Int)) = true := by simp; omega
  have hn : decide (l2.length < l1.length) = true := by simp; omega
  refine wp_region_quiet_below (by kernel_rfl) (by kernel_rfl) ?_
  repeat (go_big_quiet_step (fail))
  refine wpQuiet_nil ?_
  intro _ hw'
  obtain ⟨⟨dq, osq⟩, hw''⟩ := hw'
  subst hw''
  have bq := below_regrown wd dq osq
  go_wp2_with fail
  go_ret
  exact ⟨rfl, NN.bw.trans (bq.mono NN.bw.size)⟩
set_option maxRecDepth 100000 in
set_option maxHeartbeats 16000000 in
theorem unl_m7le (s1 : ByteArray) (n1 a1 k1 : Int) (p1 i1 : ByteArray) (v1 : Int) (t1 : ByteArray) (t2 : ByteArray) (z1 : Small ⟨s1, n1, a1, k1, p1, i1, v1, t1⟩ 300) (z2 : Small ⟨s1, n1, a1, k1, p1, i1, v1, t2⟩ 300) (y1 : mayB ⟨s1, n1, a1, k1, p1, i1, v1, t1⟩ = true) (y2 : mayB ⟨s1, n1, a1, k1, p1, i1, v1, t2⟩ = true) (x0 : ¬ t1.toList = t2.toList) (he : (⟨s1, n1, a1, k1, p1, i1, v1, t1⟩ : Ev) ≠ ⟨s1, n1, a1, k1, p1, i1, v1, t2⟩) (hle0 : (encL ⟨s1, n1, a1, k1, p1, i1, v1, t1⟩).length ≤ (encL ⟨s1, n1, a1, k1, p1, i1, v1, t2⟩).length) (w : World) (hL : Lay w) :
    Calls Tryd.prog 10 #[.agg #[.string s1, .int .i64 n1, .int .i64 a1, .int .i64 k1, .string p1, .string i1, .int .i64 v1, .string t1], .agg #[.string s1, .int .i64 n1, .int .i64 a1, .int .i64 k1, .string p1, .string i1, .int .i64 v1, .string t2]] w fun e w' => e = .returned (.bool true) ∧ Below w.heap.size w w' := by
  have B1 : t1.size ≤ 1000000000 := by have := z1.2.2.2; simp only at this; omega
  have B2 : t2.size ≤ 1000000000 := by have := z2.2.2.2; simp only at this; omega
  have E1' := fun w hL => enc_at y1 w hL
  have G1' := fun w hL => fmt_at y1 w hL
  have l1p := encL_pos ⟨s1, n1, a1, k1, p1, i1, v1, t1⟩
  have E2' := fun w hL => enc_at y2 w hL
  have G2' := fun w hL => fmt_at y2 w hL
  have l2p := encL_pos ⟨s1, n1, a1, k1, p1, i1, v1, t2⟩
  have Q1 : encL ⟨s1, n1, a1, k1, p1, i1, v1, t1⟩ ≠ encL ⟨s1, n1, a1, k1, p1, i1, v1, t2⟩ := fun h => he (encL_inj (r := []) (q := []) y1 y2 (by rw [h]))
  have Q2 : fmtL ⟨s1, n1, a1, k1, p1, i1, v1, t1⟩ ≠ fmtL ⟨s1, n1, a1, k1, p1, i1, v1, t2⟩ := fun h => he (fmt_inj y1 y2 h)
  have Q3 : encL ⟨s1, n1, a1, k1, p1, i1, v1, t1⟩ ≠ (encL ⟨s1, n1, a1, k1, p1, i1, v1, t2⟩).take (encL ⟨s1, n1, a1, k1, p1, i1, v1, t1⟩).length := fun h => he (enc_prefix y1 y2 h)
  generalize encL ⟨s1, n1, a1, k1, p1, i1, v1, t1⟩ = l1 at *
  generalize fmtL ⟨s1, n1, a1, k1, p1, i1, v1, t1⟩ = f1 at *
  have hle := hle0
  clear hle0
  generalize encL ⟨s1, n1, a1, k1, p1, i1, v1, t2⟩ = l2 at *
  generalize fmtL ⟨s1, n1, a1, k1, p1, i1, v1, t2⟩ = f2 at *
  have E1 := Lib.hid E1'
  have G1 := Lib.hid G1'
  have E2 := Lib.hid E2'
  have G2 := Lib.hid G2'
  have Z1 := Lib.hid z1
  have Z2 := Lib.hid z2
  have Y1 := Lib.hid y1
  have Y2 := Lib.hid y2
  have HL := Lib.hid hL
  have X1 : ((bs l1).toList == (bs l2).toList) = false := by rw [toL, toL, bs_data, bs_data]; simpa using Q1
  have X2 : ((bs f1).toList == (bs f2).toList) = false := by rw [toL, toL, bs_data, bs_data]; simpa using Q2
  have X3 : ((bs l1).toList == (bs (l2.take l1.length)).toList) = false := by rw [toL, toL, bs_data, bs_data]; simpa using Q3
  clear Q1 Q2 Q3
  clear hL z1 z2 y1 y2 E1' G1' E2' G2' he
  go_enter Tryd.func10, Tryd.ntmps10
  go_wp2_with fail
  refine (lives_any _ ((HL.out.alloc _).alloc _)).mono ?_
  rintro e w1 ⟨rfl, hb⟩
  have M0 := F2.start HL.out hb
  clear hb
  obtain ⟨⟨c0, c1, c2, c3, c4, c5, c6, c7, d0, d1, d2, d3, d4, d5, d6, d7, gz⟩, _⟩ := M0.out
  go_wp2_with fail
  refine (big_no s1 n1 a1 k1 p1 i1 v1 t1 300 Z1.out _).mono ?_
  rintro e w2 ⟨rfl, hb⟩
  have M1 := M0.below hb
  clear hb c0 c1 c2 c3 c4 c5 c6 c7 d0 d1 d2 d3 d4 d5 d6 d7 gz
  obtain ⟨⟨c0, c1, c2, c3, c4, c5, c6, c7, d0, d1, d2, d3, d4, d5, d6, d7, gz⟩, _⟩ := M1.out
  go_wp2_with fail
  refine (big_no s1 n1 a1 k1 p1 i1 v1 t2 300 Z2.out _).mono ?_
  rintro e w3 ⟨rfl, hb⟩
  have M2 := M1.below hb
  clear hb c0 c1 c2 c3 c4 c5 c6 c7 d0 d1 d2 d3 d4 d5 d6 d7 gz
  obtain ⟨⟨c0, c1, c2, c3, c4, c5, c6, c7, d0, d1, d2, d3, d4, d5, d6, d7, gz⟩, _⟩ := M2.out
  go_wp2_with fail
  refine (rmay_any s1 n1 a1 k1 p1 i1 v1 t1 B1 _).mono ?_
  rw [Y1.out]
  rintro e w4 ⟨rfl, hb⟩
  have M3 := M2.below hb
  clear hb c0 c1 c2 c3 c4 c5 c6 c7 d0 d1 d2 d3 d4 d5 d6 d7 gz
  obtain ⟨⟨c0, c1, c2, c3, c4, c5, c6, c7, d0, d1, d2, d3, d4, d5, d6, d7, gz⟩, _⟩ := M3.out
  go_wp2_with fail
  refine (rmay_any s1 n1 a1 k1 p1 i1 v1 t2 B2 _).mono ?_
  rw [Y2.out]
  rintro e w5 ⟨rfl, hb⟩
  have M4 := M3.below hb
  clear hb c0 c1 c2 c3 c4 c5 c6 c7 d0 d1 d2 d3 d4 d5 d6 d7 gz
  obtain ⟨⟨c0, c1, c2, c3, c4, c5, c6, c7, d0, d1, d2, d3, d4, d5, d6, d7, gz⟩, _⟩ := M4.out
  go_wp2_with fail
  refine (E1.out _ M4.lay).mono ?_
  rintro e w6 ⟨y1v, rfl, o1, hb⟩
  have M5 := M4.below hb
  clear hb c0 c1 c2 c3 c4 c5 c6 c7 d0 d1 d2 d3 d4 d5 d6 d7 gz
  obtain ⟨⟨c0, c1, c2, c3, c4, c5, c6, c7, d0, d1, d2, d3, d4, d5, d6, d7, gz⟩, _⟩ := M5.out
  go_wp2_with fail
  refine (E2.out _ M5.lay).mono ?_
  rintro e wc ⟨y2v, rfl, o2, hb⟩
  have o1 := o1.below hb (Nat.le_refl _)
  have M := M5.below hb
  clear hb c0 c1 c2 c3 c4 c5 c6 c7 d0 d1 d2 d3 d4 d5 d6 d7 gz
  obtain ⟨g1, cp1, rfl, hg1, hk1⟩ := own_size o1 l1p
  obtain ⟨g2, cp2, rfl, hg2, hk2⟩ := own_size o2 l2p
  obtain ⟨⟨c0, c1, c2, c3, c4, c5, c6, c7, d0, d1, d2, d3, d4, d5, d6, d7, gz⟩, _⟩ := M.out
  go_upto_region 7 with fail
  have cA : ∀ d os, (convert 44 9 (.slice (some ⟨g1, 0, none⟩) l1.length cp1)).run Tryd.prog (Sort.grow (redrawn wc d) os) = .ok (.string (bs l1)) (Sort.grow (redrawn wc d) os) := fun d os => conv_own (o1.below (below_regrown wc d os) (Nat.le_refl _)) l1p
  have cB : ∀ d os, (convert 44 9 (.slice (some ⟨g2, 0, none⟩) l2.length cp2)).run Tryd.prog (Sort.grow (redrawn wc d) os) = .ok (.string (bs l2)) (Sort.grow (redrawn wc d) os) := fun d os => conv_own (o2.below (below_regrown wc d os) (Nat.le_refl _)) l2p
  have cF : ∀ d os, Calls Tryd.prog 36 #[.agg #[.string s1, .int .i64 n1, .int .i64 a1, .int .i64 k1, .string p1, .string i1, .int .i64 v1, .string t1]] (Sort.grow (redrawn wc d) os) fun e w'' => e = .returned (.string (bs f1)) ∧ ∃ p : Regrown, w'' = Sort.grow (redrawn wc p.d) p.os := fun d os => Calls.regrown_of (G1.out _ (M.lay.next (below_regrown wc d os)))
  have cG : ∀ d os, Calls Tryd.prog 36 #[.agg #[.string s1, .int .i64 n1, .int .i64 a1, .int .i64 k1, .string p1, .string i1, .int .i64 v1, .string t2]] (Sort.grow (redrawn wc d) os) fun e w'' => e = .returned (.string (bs f2)) ∧ ∃ p : Regrown, w'' = Sort.grow (redrawn wc p.d) p.os := fun d os => Calls.regrown_of (G2.out _ (M.lay.next (below_regrown wc d os)))
  have qc0 := cell_regrown c0
  have qc1 := cell_regrown c1
  have qc2 := cell_regrown c2
  have qc3 := cell_regrown c3
  have qc4 := cell_regrown c4
  have qc5 := cell_regrown c5
  have qc6 := cell_regrown c6
  have qc7 := cell_regrown c7
  have qd0 := cell_regrown d0
  have qd1 := cell_regrown d1
  have qd2 := cell_regrown d2
  have qd3 := cell_regrown d3
  have qd4 := cell_regrown d4
  have qd5 := cell_regrown d5
  have qd6 := cell_regrown d6
  have qd7 := cell_regrown d7
  clear c0 c1 c2 c3 c4 c5 c6 c7 d0 d1 d2 d3 d4 d5 d6 d7 gz
  refine wp_region_quiet_below (by kernel_rfl) (by kernel_rfl) ?_
  repeat (go_big_quiet_step (first | with_reducible exact cF _ _ | with_reducible exact cG _ _))
  refine wpQuiet_nil ?_
  intro _ hw'
  obtain ⟨⟨dq, osq⟩, hw''⟩ := hw'
  subst hw''
  have bq := below_regrown wc dq osq
  have NN := M.below bq
  obtain ⟨⟨c0, c1, c2, c3, c4, c5, c6, c7, d0, d1, d2, d3, d4, d5, d6, d7, gz⟩, _⟩ := NN.out
  have o1 := o1.below bq (Nat.le_refl _)
  have o2 := o2.below bq (Nat.le_refl _)
  clear cA cB cF cG qc0 qc1 qc2 qc3 qc4 qc5 qc6 qc7 qd0 qd1 qd2 qd3 qd4 qd5 qd6 qd7
  clear hg1 hg2
  generalize Sort.grow (redrawn wc dq) osq = wd at *
  clear bq
  go_upto_region 9 with fail
  have qc0 := cell_regrown c0
  have qc1 := cell_regrown c1
  have qc2 := cell_regrown c2
  have qc3 := cell_regrown c3
  have qc4 := cell_regrown c4
  have qc5 := cell_regrown c5
  have qc6 := cell_regrown c6
  have qc7 := cell_regrown c7
  have qd0 := cell_regrown d0
  have qd1 := cell_regrown d1
  have qd2 := cell_regrown d2
  have qd3 := cell_regrown d3
  have qd4 := cell_regrown d4
  have qd5 := cell_regrown d5
  have qd6 := cell_regrown d6
  have qd7 := cell_regrown d7
  clear c0 c1 c2 c3 c4 c5 c6 c7 d0 d1 d2 d3 d4 d5 d6 d7 gz
  have cA : ∀ d os, (convert 44 9 (.slice (some ⟨g1, 0, none⟩) l1.length cp1)).run Tryd.prog (Sort.grow (redrawn wd d) os) = .ok (.string (bs l1)) (Sort.grow (redrawn wd d) os) := fun d os => conv_own (o1.below (below_regrown wd d os) (Nat.le_refl _)) l1p
  have cB : ∀ c d os, (convert 44 9 (.slice (some ⟨g2, 0, none⟩) l1.length c)).run Tryd.prog (Sort.grow (redrawn wd d) os) = .ok (.string (bs (l2.take l1.length))) (Sort.grow (redrawn wd d) os) := fun c d os => conv_take (o2.below (below_regrown wd d os) (Nat.le_refl _)) _ c hle
  have ht : decide ((l2.length : Int) < (l1.length : Int)) = false := by simp; omega
  have hn : decide (l2.length < l1.length) = false := by simp; omega
  have hs : l1.length ≤ cp2 := by omega
  refine wp_region_quiet_below (by kernel_rfl) (by kernel_rfl) ?_
  repeat (go_big_quiet_step (fail))
  refine wpQuiet_nil ?_
  intro _ hw'
  obtain ⟨⟨dq, osq⟩, hw''⟩ := hw'
  subst hw''
  have bq := below_regrown wd dq osq
  go_wp2_with fail
  go_ret
  exact ⟨rfl, NN.bw.trans (bq.mono NN.bw.size)⟩
set_option maxRecDepth 100000 in
set_option maxHeartbeats 16000000 in
theorem unl_m7gt (s1 : ByteArray) (n1 a1 k1 : Int) (p1 i1 : ByteArray) (v1 : Int) (t1 : ByteArray) (t2 : ByteArray) (z1 : Small ⟨s1, n1, a1, k1, p1, i1, v1, t1⟩ 300) (z2 : Small ⟨s1, n1, a1, k1, p1, i1, v1, t2⟩ 300) (y1 : mayB ⟨s1, n1, a1, k1, p1, i1, v1, t1⟩ = true) (y2 : mayB ⟨s1, n1, a1, k1, p1, i1, v1, t2⟩ = true) (x0 : ¬ t1.toList = t2.toList) (he : (⟨s1, n1, a1, k1, p1, i1, v1, t1⟩ : Ev) ≠ ⟨s1, n1, a1, k1, p1, i1, v1, t2⟩) (hle0 : ¬ (encL ⟨s1, n1, a1, k1, p1, i1, v1, t1⟩).length ≤ (encL ⟨s1, n1, a1, k1, p1, i1, v1, t2⟩).length) (w : World) (hL : Lay w) :
    Calls Tryd.prog 10 #[.agg #[.string s1, .int .i64 n1, .int .i64 a1, .int .i64 k1, .string p1, .string i1, .int .i64 v1, .string t1], .agg #[.string s1, .int .i64 n1, .int .i64 a1, .int .i64 k1, .string p1, .string i1, .int .i64 v1, .string t2]] w fun e w' => e = .returned (.bool true) ∧ Below w.heap.size w w' := by
  have B1 : t1.size ≤ 1000000000 := by have := z1.2.2.2; simp only at this; omega
  have B2 : t2.size ≤ 1000000000 := by have := z2.2.2.2; simp only at this; omega
  have E1' := fun w hL => enc_at y1 w hL
  have G1' := fun w hL => fmt_at y1 w hL
  have l1p := encL_pos ⟨s1, n1, a1, k1, p1, i1, v1, t1⟩
  have E2' := fun w hL => enc_at y2 w hL
  have G2' := fun w hL => fmt_at y2 w hL
  have l2p := encL_pos ⟨s1, n1, a1, k1, p1, i1, v1, t2⟩
  have Q1 : encL ⟨s1, n1, a1, k1, p1, i1, v1, t1⟩ ≠ encL ⟨s1, n1, a1, k1, p1, i1, v1, t2⟩ := fun h => he (encL_inj (r := []) (q := []) y1 y2 (by rw [h]))
  have Q2 : fmtL ⟨s1, n1, a1, k1, p1, i1, v1, t1⟩ ≠ fmtL ⟨s1, n1, a1, k1, p1, i1, v1, t2⟩ := fun h => he (fmt_inj y1 y2 h)
  have Q3 : encL ⟨s1, n1, a1, k1, p1, i1, v1, t1⟩ ≠ (encL ⟨s1, n1, a1, k1, p1, i1, v1, t2⟩).take (encL ⟨s1, n1, a1, k1, p1, i1, v1, t1⟩).length := fun h => he (enc_prefix y1 y2 h)
  generalize encL ⟨s1, n1, a1, k1, p1, i1, v1, t1⟩ = l1 at *
  generalize fmtL ⟨s1, n1, a1, k1, p1, i1, v1, t1⟩ = f1 at *
  have hle := hle0
  clear hle0
  generalize encL ⟨s1, n1, a1, k1, p1, i1, v1, t2⟩ = l2 at *
  generalize fmtL ⟨s1, n1, a1, k1, p1, i1, v1, t2⟩ = f2 at *
  have E1 := Lib.hid E1'
  have G1 := Lib.hid G1'
  have E2 := Lib.hid E2'
  have G2 := Lib.hid G2'
  have Z1 := Lib.hid z1
  have Z2 := Lib.hid z2
  have Y1 := Lib.hid y1
  have Y2 := Lib.hid y2
  have HL := Lib.hid hL
  have X1 : ((bs l1).toList == (bs l2).toList) = false := by rw [toL, toL, bs_data, bs_data]; simpa using Q1
  have X2 : ((bs f1).toList == (bs f2).toList) = false := by rw [toL, toL, bs_data, bs_data]; simpa using Q2
  have X3 : ((bs l1).toList == (bs (l2.take l1.length)).toList) = false := by rw [toL, toL, bs_data, bs_data]; simpa using Q3
  clear Q1 Q2 Q3
  clear hL z1 z2 y1 y2 E1' G1' E2' G2' he
  go_enter Tryd.func10, Tryd.ntmps10
  go_wp2_with fail
  refine (lives_any _ ((HL.out.alloc _).alloc _)).mono ?_
  rintro e w1 ⟨rfl, hb⟩
  have M0 := F2.start HL.out hb
  clear hb
  obtain ⟨⟨c0, c1, c2, c3, c4, c5, c6, c7, d0, d1, d2, d3, d4, d5, d6, d7, gz⟩, _⟩ := M0.out
  go_wp2_with fail
  refine (big_no s1 n1 a1 k1 p1 i1 v1 t1 300 Z1.out _).mono ?_
  rintro e w2 ⟨rfl, hb⟩
  have M1 := M0.below hb
  clear hb c0 c1 c2 c3 c4 c5 c6 c7 d0 d1 d2 d3 d4 d5 d6 d7 gz
  obtain ⟨⟨c0, c1, c2, c3, c4, c5, c6, c7, d0, d1, d2, d3, d4, d5, d6, d7, gz⟩, _⟩ := M1.out
  go_wp2_with fail
  refine (big_no s1 n1 a1 k1 p1 i1 v1 t2 300 Z2.out _).mono ?_
  rintro e w3 ⟨rfl, hb⟩
  have M2 := M1.below hb
  clear hb c0 c1 c2 c3 c4 c5 c6 c7 d0 d1 d2 d3 d4 d5 d6 d7 gz
  obtain ⟨⟨c0, c1, c2, c3, c4, c5, c6, c7, d0, d1, d2, d3, d4, d5, d6, d7, gz⟩, _⟩ := M2.out
  go_wp2_with fail
  refine (rmay_any s1 n1 a1 k1 p1 i1 v1 t1 B1 _).mono ?_
  rw [Y1.out]
  rintro e w4 ⟨rfl, hb⟩
  have M3 := M2.below hb
  clear hb c0 c1 c2 c3 c4 c5 c6 c7 d0 d1 d2 d3 d4 d5 d6 d7 gz
  obtain ⟨⟨c0, c1, c2, c3, c4, c5, c6, c7, d0, d1, d2, d3, d4, d5, d6, d7, gz⟩, _⟩ := M3.out
  go_wp2_with fail
  refine (rmay_any s1 n1 a1 k1 p1 i1 v1 t2 B2 _).mono ?_
  rw [Y2.out]
  rintro e w5 ⟨rfl, hb⟩
  have M4 := M3.below hb
  clear hb c0 c1 c2 c3 c4 c5 c6 c7 d0 d1 d2 d3 d4 d5 d6 d7 gz
  obtain ⟨⟨c0, c1, c2, c3, c4, c5, c6, c7, d0, d1, d2, d3, d4, d5, d6, d7, gz⟩, _⟩ := M4.out
  go_wp2_with fail
  refine (E1.out _ M4.lay).mono ?_
  rintro e w6 ⟨y1v, rfl, o1, hb⟩
  have M5 := M4.below hb
  clear hb c0 c1 c2 c3 c4 c5 c6 c7 d0 d1 d2 d3 d4 d5 d6 d7 gz
  obtain ⟨⟨c0, c1, c2, c3, c4, c5, c6, c7, d0, d1, d2, d3, d4, d5, d6, d7, gz⟩, _⟩ := M5.out
  go_wp2_with fail
  refine (E2.out _ M5.lay).mono ?_
  rintro e wc ⟨y2v, rfl, o2, hb⟩
  have o1 := o1.below hb (Nat.le_refl _)
  have M := M5.below hb
  clear hb c0 c1 c2 c3 c4 c5 c6 c7 d0 d1 d2 d3 d4 d5 d6 d7 gz
  obtain ⟨g1, cp1, rfl, hg1, hk1⟩ := own_size o1 l1p
  obtain ⟨g2, cp2, rfl, hg2, hk2⟩ := own_size o2 l2p
  obtain ⟨⟨c0, c1, c2, c3, c4, c5, c6, c7, d0, d1, d2, d3, d4, d5, d6, d7, gz⟩, _⟩ := M.out
  go_upto_region 7 with fail
  have cA : ∀ d os, (convert 44 9 (.slice (some ⟨g1, 0, none⟩) l1.length cp1)).run Tryd.prog (Sort.grow (redrawn wc d) os) = .ok (.string (bs l1)) (Sort.grow (redrawn wc d) os) := fun d os => conv_own (o1.below (below_regrown wc d os) (Nat.le_refl _)) l1p
  have cB : ∀ d os, (convert 44 9 (.slice (some ⟨g2, 0, none⟩) l2.length cp2)).run Tryd.prog (Sort.grow (redrawn wc d) os) = .ok (.string (bs l2)) (Sort.grow (redrawn wc d) os) := fun d os => conv_own (o2.below (below_regrown wc d os) (Nat.le_refl _)) l2p
  have cF : ∀ d os, Calls Tryd.prog 36 #[.agg #[.string s1, .int .i64 n1, .int .i64 a1, .int .i64 k1, .string p1, .string i1, .int .i64 v1, .string t1]] (Sort.grow (redrawn wc d) os) fun e w'' => e = .returned (.string (bs f1)) ∧ ∃ p : Regrown, w'' = Sort.grow (redrawn wc p.d) p.os := fun d os => Calls.regrown_of (G1.out _ (M.lay.next (below_regrown wc d os)))
  have cG : ∀ d os, Calls Tryd.prog 36 #[.agg #[.string s1, .int .i64 n1, .int .i64 a1, .int .i64 k1, .string p1, .string i1, .int .i64 v1, .string t2]] (Sort.grow (redrawn wc d) os) fun e w'' => e = .returned (.string (bs f2)) ∧ ∃ p : Regrown, w'' = Sort.grow (redrawn wc p.d) p.os := fun d os => Calls.regrown_of (G2.out _ (M.lay.next (below_regrown wc d os)))
  have qc0 := cell_regrown c0
  have qc1 := cell_regrown c1
  have qc2 := cell_regrown c2
  have qc3 := cell_regrown c3
  have qc4 := cell_regrown c4
  have qc5 := cell_regrown c5
  have qc6 := cell_regrown c6
  have qc7 := cell_regrown c7
  have qd0 := cell_regrown d0
  have qd1 := cell_regrown d1
  have qd2 := cell_regrown d2
  have qd3 := cell_regrown d3
  have qd4 := cell_regrown d4
  have qd5 := cell_regrown d5
  have qd6 := cell_regrown d6
  have qd7 := cell_regrown d7
  clear c0 c1 c2 c3 c4 c5 c6 c7 d0 d1 d2 d3 d4 d5 d6 d7 gz
  refine wp_region_quiet_below (by kernel_rfl) (by kernel_rfl) ?_
  repeat (go_big_quiet_step (first | with_reducible exact cF _ _ | with_reducible exact cG _ _))
  refine wpQuiet_nil ?_
  intro _ hw'
  obtain ⟨⟨dq, osq⟩, hw''⟩ := hw'
  subst hw''
  have bq := below_regrown wc dq osq
  have NN := M.below bq
  obtain ⟨⟨c0, c1, c2, c3, c4, c5, c6, c7, d0, d1, d2, d3, d4, d5, d6, d7, gz⟩, _⟩ := NN.out
  have o1 := o1.below bq (Nat.le_refl _)
  have o2 := o2.below bq (Nat.le_refl _)
  clear cA cB cF cG qc0 qc1 qc2 qc3 qc4 qc5 qc6 qc7 qd0 qd1 qd2 qd3 qd4 qd5 qd6 qd7
  clear hg1 hg2
  generalize Sort.grow (redrawn wc dq) osq = wd at *
  clear bq
  go_upto_region 9 with fail
  have qc0 := cell_regrown c0
  have qc1 := cell_regrown c1
  have qc2 := cell_regrown c2
  have qc3 := cell_regrown c3
  have qc4 := cell_regrown c4
  have qc5 := cell_regrown c5
  have qc6 := cell_regrown c6
  have qc7 := cell_regrown c7
  have qd0 := cell_regrown d0
  have qd1 := cell_regrown d1
  have qd2 := cell_regrown d2
  have qd3 := cell_regrown d3
  have qd4 := cell_regrown d4
  have qd5 := cell_regrown d5
  have qd6 := cell_regrown d6
  have qd7 := cell_regrown d7
  clear c0 c1 c2 c3 c4 c5 c6 c7 d0 d1 d2 d3 d4 d5 d6 d7 gz
  have ht : decide ((l2.length : Int) < (l1.length : Int)) = true := by simp; omega
  have hn : decide (l2.length < l1.length) = true := by simp; omega
  refine wp_region_quiet_below (by kernel_rfl) (by kernel_rfl) ?_
  repeat (go_big_quiet_step (fail))
  refine wpQuiet_nil ?_
  intro _ hw'
  obtain ⟨⟨dq, osq⟩, hw''⟩ := hw'
  subst hw''
  have bq := below_regrown wd dq osq
  go_wp2_with fail
  go_ret
  exact ⟨rfl, NN.bw.trans (bq.mono NN.bw.size)⟩
end Go.Proofs.YthfhfekneahonaaDoor
