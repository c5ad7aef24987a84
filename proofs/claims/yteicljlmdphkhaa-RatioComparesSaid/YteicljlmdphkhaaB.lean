/- Proved: the reference's sum, difference, comparison and bit-by-bit product of numbers of 128 bits. -/
import Derived.Test.YteicljlmdphkhaaA
namespace Go.Proofs.Yteicljlmdphkhaa
open Go.RowKit
set_option linter.unusedVariables false

theorem rplus_any (m n r : Nat) (a b c d : Int) (hm : m < U * U) (hn : n < U * U) (hr : (m + n) % (U * U) = r) (ha : a = hi m) (hb : b = lo m) (hc : c = hi n) (hd : d = lo n) (w : World) :
    Calls Try.prog 28 #[.agg #[.int .u64 a, .int .u64 b], .agg #[.int .u64 c, .int .u64 d]] w fun e w' => e = .returned (.agg #[.int .u64 (hi r), .int .u64 (lo r)]) ∧ Below w.heap.size w w' := by
  subst ha hb hc hd
  have H1 := Lib.hid hm
  have H2 := Lib.hid hn
  have H3 := Lib.hid hr
  clear hm hn hr
  go_enter Try.func28, Try.ntmps28
  go_wp2
  · have h := rplus_hi' m n H1.out H2.out (by assumption)
    have h' := plus_lo m n
    rw [H3.out] at h h'
    refine bodyPost_ret (v := .agg #[.int .u64 (hi r), .int .u64 (lo r)]) (by simp [results, Try.results28, go_sem, h, h']) rfl ⟨rfl, ?_⟩
    exact (((Below.refl _ _).alloc (by simp) _).alloc (by simp) _).alloc (by simp <;> omega) _
  · have h := rplus_hi m n H1.out H2.out (by assumption)
    have h' := plus_lo m n
    rw [H3.out] at h h'
    refine bodyPost_ret (v := .agg #[.int .u64 (hi r), .int .u64 (lo r)]) (by simp [results, Try.results28, go_sem, h, h']) rfl ⟨rfl, ?_⟩
    exact (((Below.refl _ _).alloc (by simp) _).alloc (by simp) _).alloc (by simp <;> omega) _

theorem minus_any (m n r : Nat) (a b c d : Int) (hm : m < U * U) (hn : n ≤ m) (hr : m - n = r) (ha : a = hi m) (hb : b = lo m) (hc : c = hi n) (hd : d = lo n) (w : World) :
    Calls Try.prog 21 #[.agg #[.int .u64 a, .int .u64 b], .agg #[.int .u64 c, .int .u64 d]] w fun e w' => e = .returned (.agg #[.int .u64 (hi r), .int .u64 (lo r)]) ∧ Below w.heap.size w w' := by
  subst ha hb hc hd
  have H1 := Lib.hid hm
  have H2 := Lib.hid hn
  have H3 := Lib.hid hr
  clear hm hn hr
  go_enter Try.func21, Try.ntmps21
  go_wp2
  · have h := minus_hi' m n H1.out H2.out (by assumption)
    have h' := minus_lo m n H2.out
    rw [H3.out] at h h'
    refine bodyPost_ret (v := .agg #[.int .u64 (hi r), .int .u64 (lo r)]) (by simp [results, Try.results21, go_sem, h, h']) rfl ⟨rfl, ?_⟩
    exact (((Below.refl _ _).alloc (by simp) _).alloc (by simp) _).alloc (by simp <;> omega) _
  · have h := minus_hi m n H1.out H2.out (by assumption)
    have h' := minus_lo m n H2.out
    rw [H3.out] at h h'
    refine bodyPost_ret (v := .agg #[.int .u64 (hi r), .int .u64 (lo r)]) (by simp [results, Try.results21, go_sem, h, h']) rfl ⟨rfl, ?_⟩
    exact (((Below.refl _ _).alloc (by simp) _).alloc (by simp) _).alloc (by simp <;> omega) _

theorem less_any (m n : Nat) (a b c d : Int) (ha : a = hi m) (hb : b = lo m) (hc : c = hi n) (hd : d = lo n) (w : World) :
    Calls Try.prog 20 #[.agg #[.int .u64 a, .int .u64 b], .agg #[.int .u64 c, .int .u64 d]] w fun e w' => e = .returned (.bool (lt m n)) ∧ Below w.heap.size w w' := by
  subst ha hb hc hd
  by_cases h1 : hi m < hi n
  · have g := Lib.hid (lt_hi m n h1)
    go_enter Try.func20, Try.ntmps20
    go_wp2
    rw [g.out]
    go_ret
    exact ⟨rfl, ((Below.refl _ _).alloc (by simp) _).alloc (by simp) _⟩
  · by_cases h2 : hi m = hi n
    · have g := Lib.hid (lt_lo m n h2)
      rw [g.out]
      have h3 : (hi m == hi n) = true := by simpa using h2
      have h4 : decide (hi m < hi n) = false := by simpa using h1
      clear h2 h1
      go_enter Try.func20, Try.ntmps20
      go_wp2
      go_ret
      exact ⟨rfl, ((Below.refl _ _).alloc (by simp) _).alloc (by simp) _⟩
    · have g := Lib.hid (lt_hi' m n (by omega) h2)
      rw [g.out]
      have h3 : (hi m == hi n) = false := by simpa using h2
      have h4 : decide (hi m < hi n) = false := by simpa using h1
      go_enter Try.func20, Try.ntmps20
      go_wp2
      go_ret
      exact ⟨rfl, ((Below.refl _ _).alloc (by simp) _).alloc (by simp) _⟩

set_option maxHeartbeats 400000 in
theorem times_any (a b : Nat) (ha : a < U) (hb : b < U) (w : World) :
    Calls Try.prog 17 #[.int .u64 a, .int .u64 b] w fun e w' => e = .returned (.agg #[.int .u64 (hi (a * b)), .int .u64 (lo (a * b))]) ∧ Below w.heap.size w w' := by
  obtain ⟨T, hT⟩ : ∃ T, a * b = T := ⟨_, rfl⟩
  have hT2 : (0 + a * b) % (U * U) = T := by rw [Nat.zero_add, Nat.mod_eq_of_lt (UU a b ha hb)]; exact hT
  have hTl : T < U * U := by rw [← hT]; exact UU a b ha hb
  have haa : a < U * U := Nat.lt_of_lt_of_le ha (by decide)
  rw [hT]
  have HT := Lib.hid hT
  have HT2 := Lib.hid hT2
  have HTl := Lib.hid hTl
  have Ha := Lib.hid haa
  have Ha1 := Lib.hid ha
  have Hb := Lib.hid hb
  clear hT hT2 hTl haa hb ha
  go_enter Try.func17, Try.ntmps17
  go_wp2
  go_loopw [1] (fun bv wr => ∃ b o x : Nat, bv = .int .u64 b ∧ Hid (b < U) ∧ Hid (o < U * U) ∧ Hid (x < U * U) ∧ Hid ((o + x * b) % (U * U) = T) ∧ Blk2 wr w.heap.size (.int .u64 0) (.int .u64 0) 34 ∧ Blk2 wr (w.heap.size + 1) (.int .u64 (hi o)) (.int .u64 (lo o)) 34 ∧ Blk2 wr (w.heap.size + 1 + 1) (.int .u64 (hi x)) (.int .u64 (lo x)) 34 ∧ Below w.heap.size w wr) (fun b _ => (intOf b).toNat)
  case atStart =>
    refine ⟨b, 0, a, rfl, Hb, Lib.hid (by decide), Ha, HT2, ?_, ?_, ?_, ?_⟩
    · exact ((Blk2.new w _ _ _).alloc _).alloc _
    · have h := (Blk2.new (w.alloc (Obj.cells #[Value.int IntKind.u64 0, Value.int IntKind.u64 0] 34)) (.int .u64 0) (.int .u64 0) 34).alloc (Obj.cells #[Value.int IntKind.u64 0, Value.int IntKind.u64 ↑a] 34)
      simpa [hi_small, lo_small, show (0 : Nat) < U by decide] using h
    · have h := (Blk2.new ((w.alloc (Obj.cells #[Value.int IntKind.u64 0, Value.int IntKind.u64 0] 34)).alloc (Obj.cells #[Value.int IntKind.u64 0, Value.int IntKind.u64 0] 34)) (.int .u64 0) (.int .u64 a) 34)
      simpa [hi_small Ha1.out, lo_small Ha1.out] using h
    · exact (((Below.refl _ _).alloc (by simp) _).alloc (by simp) _).alloc (by simp <;> omega) _
  case round =>
    obtain ⟨b, o, x, rfl, hb, ho, hx, hinv, B0, B1, B2, bw⟩ := hrel
    obtain ⟨c00, c01, f00, f01⟩ := B0.all
    obtain ⟨c10, c11, f10, f11⟩ := B1.all
    obtain ⟨c20, c21, f20, f21⟩ := B2.all
    have hsz := B2.lt
    have t2 := half_u b hb.out
    by_cases hzero : b = 0
    · subst hzero
      have ho' : o = T := by have := hinv.out; rw [Nat.mul_zero, Nat.add_zero, Nat.mod_eq_of_lt ho.out] at this; exact this
      have HO := Lib.hid ho'
      clear ho'
      go_wp2
      rw [HO.out]
      refine bodyPost_ret (v := .agg #[.int .u64 (hi T), .int .u64 (lo T)]) (by simp [results, Try.results17, go_sem, c00, c01]) rfl ⟨rfl, ?_⟩
      exact (bw.setCell (by simp <;> omega) _).setCell (by simp <;> omega) _
    · by_cases hodd : b % 2 = 1
      · have t1 : ((b : Int) % 2 == 1) = true := by simp; omega
        obtain ⟨o2, ho2⟩ : ∃ r, (o + x) % (U * U) = r := ⟨_, rfl⟩
        obtain ⟨x2, hx2⟩ : ∃ r, (x + x) % (U * U) = r := ⟨_, rfl⟩
        have HO2 := Lib.hid ho2
        have HX2 := Lib.hid hx2
        have Z := Lib.hid hodd
        clear ho2 hx2 hodd
        go_wp2_with fail
        refine (rplus_any o x o2 _ _ _ _ ho.out hx.out HO2.out rfl rfl rfl rfl _).mono ?_
        rintro e w1 ⟨rfl, hb1⟩
        have B0' := B0.below hb1 (by omega)
        have B1' := B1.below hb1 (by omega)
        have B2' := B2.below hb1 (by omega)
        have bw' := bw.trans (hb1.mono bw.size)
        clear c00 c01 f00 f01 c10 c11 f10 f11 c20 c21 f20 f21 B0 B1 B2 bw hb1 hsz
        obtain ⟨c10, c11, f10, f11⟩ := B1'.all
        obtain ⟨c20, c21, f20, f21⟩ := B2'.all
        have hsz := B2'.lt
        go_wp2_with fail
        refine (rplus_any x x x2 _ _ _ _ hx.out hx.out HX2.out rfl rfl rfl rfl _).mono ?_
        rintro e w2 ⟨rfl, hb2⟩
        have B0 := ((B0'.other (by simp <;> omega) _).other (by simp <;> omega) _).below hb2 (by simp <;> omega)
        have B1 := ((B1'.set0 _).set1 _).below hb2 (by simp <;> omega)
        have B2 := ((B2'.other (by simp <;> omega) _).other (by simp <;> omega) _).below hb2 (by simp <;> omega)
        have bw := ((bw'.setCell (p := ⟨w.heap.size + 1, 0, none⟩) (by simp <;> omega) _).setCell (p := ⟨w.heap.size + 1, 1, none⟩) (by simp <;> omega) _).trans (hb2.mono (by simp <;> omega))
        clear c10 c11 f10 f11 c20 c21 f20 f21 B0' B1' B2' bw' hb2 hsz
        obtain ⟨c20, c21, f20, f21⟩ := B2.all
        have hsz := B2.lt
        go_wp2
        go_roundw
        case rel =>
          refine ⟨b / 2, o2, x2, by go_num, Lib.hid (by have := hb.out; omega), Lib.hid (by rw [← HO2.out]; exact Nat.mod_lt _ (by decide)), Lib.hid (by rw [← HX2.out]; exact Nat.mod_lt _ (by decide)), Lib.hid ?_, ?_, ?_, ?_, ?_⟩
          · rw [← HO2.out, ← HX2.out, times_odd _ _ _ _ Z.out]; exact hinv.out
          · exact (B0.other (by simp <;> omega) _).other (by simp <;> omega) _
          · exact (B1.other (by simp <;> omega) _).other (by simp <;> omega) _
          · exact (B2.set0 _).set1 _
          · exact (bw.setCell (by simp <;> omega) _).setCell (by simp <;> omega) _
        case measure => simp [intOf]; omega
      · have t1 : ((b : Int) % 2 == 1) = false := by simp; omega
        obtain ⟨x2, hx2⟩ : ∃ r, (x + x) % (U * U) = r := ⟨_, rfl⟩
        have HX2 := Lib.hid hx2
        have Z := Lib.hid (show b % 2 = 0 by omega)
        clear hx2 hodd
        go_wp2_with fail
        refine (rplus_any x x x2 _ _ _ _ hx.out hx.out HX2.out rfl rfl rfl rfl _).mono ?_
        rintro e w1 ⟨rfl, hb1⟩
        have B0' := B0.below hb1 (by omega)
        have B1' := B1.below hb1 (by omega)
        have B2' := B2.below hb1 (by omega)
        have bw' := bw.trans (hb1.mono bw.size)
        clear c00 c01 f00 f01 c10 c11 f10 f11 c20 c21 f20 f21 B0 B1 B2 bw hb1 hsz
        obtain ⟨c20, c21, f20, f21⟩ := B2'.all
        have hsz := B2'.lt
        go_wp2
        go_roundw
        case rel =>
          refine ⟨b / 2, o, x2, by go_num, Lib.hid (by have := hb.out; omega), ho, Lib.hid (by rw [← HX2.out]; exact Nat.mod_lt _ (by decide)), Lib.hid ?_, ?_, ?_, ?_, ?_⟩
          · rw [← HX2.out, times_even _ _ _ _ Z.out]; exact hinv.out
          · exact (B0'.other (by simp <;> omega) _).other (by simp <;> omega) _
          · exact (B1'.other (by simp <;> omega) _).other (by simp <;> omega) _
          · exact (B2'.set0 _).set1 _
          · exact (bw'.setCell (by simp <;> omega) _).setCell (by simp <;> omega) _
        case measure => simp [intOf]; omega
end Go.Proofs.Yteicljlmdphkhaa
