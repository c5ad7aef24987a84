/- reduce, and the reference's Reduce. -/
import Derived.Test.YteicljlmdphkhaaQ
namespace Go.Proofs.Yteicljlmdphkhaa
open Go.RowKit
set_option linter.unusedVariables false
theorem wrap_i (x : Nat) (h : x < M63) : IntKind.i64.wrap (x : Int) = x := by rw [IntKind.wrap_i64]; unfold M63 at h; omega
theorem quo_i (x g : Nat) (hx : x < M63) : IntKind.i64.wrap ((x : Int) / (g : Int)) = ((x / g : Nat) : Int) := by
  have := Nat.div_le_self x g
  rw [IntKind.wrap_i64]; unfold M63 at hx
  rw [← Int.natCast_ediv]; generalize x / g = z at *; omega
theorem M63_lt {x : Nat} (h : x < M63) : x < U := by unfold M63 at h; unfold U; omega
set_option maxRecDepth 100000 in
set_option maxHeartbeats 1000000 in
theorem reduce_any (c d c2 d2 : Nat) (hc : c < M63) (hd : d < M63) (hd0 : 0 < d) (e1 : c / Nat.gcd c d = c2) (e2 : d / Nat.gcd c d = d2) (w : World) :
    Calls Try.prog 33 #[.agg #[.int .i64 c, .int .i64 d]] w fun e w' => e = .returned (.agg #[.int .i64 c2, .int .i64 d2]) ∧ Below w.heap.size w w' := by
  have cc := wrap_cast c (M63_lt hc)
  have cd := wrap_cast d (M63_lt hd)
  obtain ⟨g, hg⟩ : ∃ g, Nat.gcd c d = g := ⟨_, rfl⟩
  have hgp : 0 < g := by rw [← hg]; exact Nat.gcd_pos_of_pos_right _ hd0
  have hgM : g < M63 := by rw [← hg]; exact Nat.lt_of_le_of_lt (Nat.le_of_dvd hd0 (Nat.gcd_dvd_right _ _)) hd
  have cg := wrap_i g hgM
  have qc := quo_i c g hc
  have qd := quo_i d g hd
  rw [hg] at e1 e2
  rw [e1] at qc
  rw [e2] at qd
  have t1 : ((g : Int) == 0) = false := by simp; omega
  have t1' : ¬ g = 0 := by omega
  have Hc := Lib.hid hc
  have Hd := Lib.hid hd
  have Hg := Lib.hid hg
  clear hc hd hg e1 e2 hgp hgM
  go_enter Try.func33, Try.ntmps33
  go_wp2_with fail
  refine (divisor_any c d (M63_lt Hc.out) (M63_lt Hd.out) _).mono ?_
  rw [Hg.out]
  rintro e w1 ⟨rfl, hb1⟩
  have B0 := ((Blk2.new w _ _ _).alloc _).below hb1 (by simp <;> omega)
  have B1 := (Blk2.new _ _ _ _).below hb1 (by simp)
  simp at B1
  have bw : Below w.heap.size w w1 := Below.trans (((Below.refl _ _).alloc (by simp) _).alloc (by simp) _) (hb1.mono (by simp <;> omega))
  clear hb1
  obtain ⟨c00, c01, f00, f01⟩ := B0.all
  obtain ⟨c10, c11, f10, f11⟩ := B1.all
  have hs := B1.lt
  go_wp2
  go_region
  all_goals (try go_wp2)
  all_goals (refine bodyPost_ret (v := .agg #[.int .i64 c2, .int .i64 d2]) (by simp [results, Try.results33, go_sem, c10, c11]) rfl ⟨rfl, ?_⟩)
  all_goals (exact ((bw.setCell (by simp <;> omega) _).setCell (by simp <;> omega) _).drew)
theorem five (n m : Nat) : (decide ((0 : Int) < hi n) = true ∧ ¬ (n < M63 ∧ m < M63)) ∨
    (decide ((0 : Int) < hi n) = false ∧ decide ((0 : Int) < hi m) = true ∧ ¬ (n < M63 ∧ m < M63)) ∨
    (decide ((0 : Int) < hi n) = false ∧ decide ((0 : Int) < hi m) = false ∧ decide ((9223372036854775807 : Int) < lo n) = true ∧ ¬ (n < M63 ∧ m < M63)) ∨
    (decide ((0 : Int) < hi n) = false ∧ decide ((0 : Int) < hi m) = false ∧ decide ((9223372036854775807 : Int) < lo n) = false ∧ decide ((9223372036854775807 : Int) < lo m) = true ∧ ¬ (n < M63 ∧ m < M63)) ∨
    (decide ((0 : Int) < hi n) = false ∧ decide ((0 : Int) < hi m) = false ∧ decide ((9223372036854775807 : Int) < lo n) = false ∧ decide ((9223372036854775807 : Int) < lo m) = false ∧ IntKind.i64.wrap (lo n) = n ∧ IntKind.i64.wrap (lo m) = m ∧ n < M63 ∧ m < M63) := by
  simp only [decide_eq_true_eq, decide_eq_false_iff_not, IntKind.wrap_i64]
  unfold hi lo U M63
  omega
set_option maxRecDepth 100000 in
set_option maxHeartbeats 4000000 in
theorem rreduce_any (num den n m G : Nat) (ok : Bool) (p q a b c d : Int) (hnum : num < U * U) (hden : 2 * den ≤ U * U) (hden0 : 0 < den) (ha : a = hi num) (hb : b = lo num) (hc : c = hi den) (hd : d = lo den)
    (hG : Nat.gcd num den = G) (hn : num / G = n) (hm : den / G = m)
    (hok : n < M63 ∧ m < M63 ∧ ok = true ∧ p = n ∧ q = m ∨ ¬ (n < M63 ∧ m < M63) ∧ ok = false ∧ p = 0 ∧ q = 0) (w : World) :
    Calls Try.prog 34 #[.agg #[.int .u64 a, .int .u64 b], .agg #[.int .u64 c, .int .u64 d]] w fun e w' => e = .returned (.tuple #[.agg #[.int .i64 p, .int .i64 q], .bool ok]) ∧ Below w.heap.size w w' := by
  subst ha hb hc hd
  have hGp : 0 < G := by rw [← hG]; exact Nat.gcd_pos_of_pos_right _ hden0
  have hGl : G ≤ den := by rw [← hG]; exact Nat.le_of_dvd hden0 (Nat.gcd_dvd_right _ _)
  have Hnum := Lib.hid hnum
  have Hden := Lib.hid hden
  have HG := Lib.hid hG
  have Hn := Lib.hid hn
  have Hm := Lib.hid hm
  have Hok := Lib.hid hok
  have HGp := Lib.hid hGp
  have HGl := Lib.hid hGl
  have Hden0 := Lib.hid hden0
  clear hnum hden hG hn hm hok hGp hGl hden0
  go_enter Try.func34, Try.ntmps34
  go_wp2_with fail
  refine (rdivisor_any num den _ _ _ _ Hnum.out Hden.out rfl rfl rfl rfl _).mono ?_
  rw [HG.out]
  rintro e w1 ⟨rfl, hb1⟩
  have N0 := (((Blk2.new w _ _ _).alloc _).alloc _).below hb1 (by simp <;> omega)
  have N1 := ((Blk2.new (w.alloc (.cells #[.int .u64 (hi num), .int .u64 (lo num)] 34)) (.int .u64 (hi den)) (.int .u64 (lo den)) 34).alloc (.cells #[.int .i64 0, .int .i64 0] 23)).below hb1 (by simp <;> omega)
  have N2 := (Blk2.new ((w.alloc (.cells #[.int .u64 (hi num), .int .u64 (lo num)] 34)).alloc (.cells #[.int .u64 (hi den), .int .u64 (lo den)] 34)) (.int .i64 0) (.int .i64 0) 23).below hb1 (by simp <;> omega)
  simp at N1 N2
  have bw : Below w.heap.size w w1 := Below.trans ((((Below.refl _ _).alloc (by simp) _).alloc (by simp) _).alloc (by simp <;> omega) _) (hb1.mono (by simp <;> omega))
  have K3 := Blk2.new w1 (.int .u64 (hi G)) (.int .u64 (lo G)) 34
  have l1 := N2.lt
  have l1a : w.heap.size < w1.heap.size := by omega
  have l1b : w.heap.size + 1 < w1.heap.size := by omega
  clear hb1
  obtain ⟨c00, c01, f00, f01⟩ := N0.all
  go_wp2_with fail
  refine (rdivide_any num G _ _ _ _ Hnum.out HGp.out (by have := HGl.out; have := Hden.out; omega) rfl rfl rfl rfl _).mono ?_
  rw [Hn.out]
  rintro e w2 ⟨rfl, hb2⟩
  have P1 := (N1.alloc _).below hb2 (by simp <;> omega)
  have P2 := (N2.alloc _).below hb2 (by simp <;> omega)
  have P3 := K3.below hb2 (by simp)
  have bw2 := (bw.alloc bw.size _).trans (hb2.mono (by simp <;> omega))
  have l2 := P3.lt
  clear c00 c01 f00 f01 N0 N1 N2 K3 bw hb2
  obtain ⟨c10, c11, f10, f11⟩ := P1.all
  obtain ⟨c30, c31, f30, f31⟩ := P3.all
  have l2' : w.heap.size + 1 + 1 < w2.heap.size := by omega
  have l2a : w.heap.size < w2.heap.size := by omega
  have l2b : w.heap.size + 1 < w2.heap.size := by omega
  go_wp2_with fail
  refine (rdivide_any den G _ _ _ _ (by have := Hden.out; have := Hden0.out; omega) HGp.out (by have := HGl.out; have := Hden.out; omega) rfl rfl rfl rfl _).mono ?_
  rw [Hm.out]
  rintro e w3 ⟨rfl, hb3⟩
  have Q2 := ((P2.alloc _).alloc _).below hb3 (by simp <;> omega)
  have Q7 := ((Blk2.new w2 _ _ _).alloc _).below hb3 (by simp <;> omega)
  have bw3 := ((bw2.alloc bw2.size _).alloc (by have := bw2.size; simp <;> omega) _).trans (hb3.mono (by simp <;> omega))
  have l3 := Q7.lt
  have l3a : w.heap.size + 1 + 1 < w3.heap.size := by omega
  have l3b : w.heap.size + 1 < w3.heap.size := by omega
  have l3c : w.heap.size < w3.heap.size := by omega
  clear c10 c11 f10 f11 c30 c31 f30 f31 P1 P2 P3 bw2 hb3
  obtain ⟨c20, c21, f20, f21⟩ := Q2.all
  obtain ⟨c70, c71, f70, f71⟩ := Q7.all
  have fin : ∀ {w' : World}, Below w.heap.size w w' → Below w.heap.size w w' := fun h => h
  rcases five n m with ⟨t1, hno⟩ | ⟨t1, t2, hno⟩ | ⟨t1, t2, t3, hno⟩ | ⟨t1, t2, t3, t4, hno⟩ | ⟨t1, t2, t3, t4, e1, e2, hy1, hy2⟩
  iterate 4
    · obtain ⟨rfl, rfl, rfl⟩ : ok = false ∧ p = 0 ∧ q = 0 := by rcases Hok.out with ⟨h1, h2, _⟩ | ⟨_, h1, h2, h3⟩; exact absurd ⟨h1, h2⟩ hno; exact ⟨h1, h2, h3⟩
      clear hno fin
      go_wp2
      refine bodyPost_ret (v := .tuple #[.agg #[.int .i64 0, .int .i64 0], .bool false]) (by simp [results, Try.results34, go_sem, c20, c21, l3a, l3b]) rfl ⟨rfl, ?_⟩
      repeat (first | exact bw3 | refine Below.alloc ?_ (by simp <;> omega) _ | refine Below.setCell ?_ (by simp <;> omega) _)
  · obtain ⟨rfl, rfl, rfl⟩ : ok = true ∧ p = n ∧ q = m := by rcases Hok.out with ⟨_, _, h1, h2, h3⟩ | ⟨h, _⟩; exact ⟨h1, h2, h3⟩; exact absurd ⟨hy1, hy2⟩ h
    clear hy1 hy2 fin
    go_wp2
    refine bodyPost_ret (v := .tuple #[.agg #[.int .i64 n, .int .i64 m], .bool true]) (by simp [results, Try.results34, go_sem, c20, c21, l3a, l3b]) rfl ⟨rfl, ?_⟩
    repeat (first | exact bw3 | refine Below.alloc ?_ (by simp <;> omega) _ | refine Below.setCell ?_ (by simp <;> omega) _)
end Go.Proofs.Yteicljlmdphkhaa
