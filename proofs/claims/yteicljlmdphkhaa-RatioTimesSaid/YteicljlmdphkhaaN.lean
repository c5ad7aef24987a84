/- Greatest common divisors: the program's and the reference's. -/
import Derived.Test.YteicljlmdphkhaaL
namespace Go.Proofs.Yteicljlmdphkhaa
open Go.RowKit
set_option linter.unusedVariables false
theorem gcd_step (x y : Nat) (h : y ≠ 0) : Nat.gcd y (x % y) = Nat.gcd x y := by
  rw [Nat.gcd_comm x y, Nat.gcd_rec y x, Nat.gcd_comm]
theorem rem_cast (x y : Nat) : ((x : Int) % (y : Int)) = ((x % y : Nat) : Int) := rfl
set_option maxRecDepth 100000 in
theorem divisor_any (a b : Nat) (ha : a < U) (hb : b < U) (w : World) :
    Calls Try.prog 39 #[.int .u64 a, .int .u64 b] w fun e w' => e = .returned (.int .u64 (Nat.gcd a b)) ∧ Below w.heap.size w w' := by
  have Ha := Lib.hid ha
  have Hb := Lib.hid hb
  clear ha hb
  obtain ⟨G, hG⟩ : ∃ G, Nat.gcd a b = G := ⟨_, rfl⟩
  have HG := Lib.hid hG
  rw [hG]
  clear hG
  go_enter Try.func39, Try.ntmps39
  go_wp2
  go_loopw [0, 1] (fun av bv wr => ∃ x y : Nat, av = .int .u64 x ∧ bv = .int .u64 y ∧ Hid (x < U) ∧ Hid (y < U) ∧ Hid (Nat.gcd x y = G) ∧ Below w.heap.size w wr) (fun _ b _ => (intOf b).toNat)
  case atStart => exact ⟨a, b, rfl, rfl, Ha, Hb, HG, Below.refl _ _⟩
  case round =>
    obtain ⟨x, y, rfl, rfl, hx, hy, hg, bw⟩ := hrel
    by_cases h0 : y = 0
    · subst h0
      have e : x = G := by have := hg.out; rwa [Nat.gcd_zero_right] at this
      have E := Lib.hid e
      clear e
      go_wp2
      rw [E.out]
      go_ret
      exact ⟨rfl, bw⟩
    · have t1 : ((y : Int) == 0) = false := by simp; omega
      have t2 : (y == 0) = false := by simp; omega
      have h1 := Lib.hid (Nat.mod_lt x (show 0 < y by omega))
      have hg2 := Lib.hid (gcd_step x y h0)
      go_wp2
      go_quiet (fail)
      go_wp2
      go_roundw
      case rel => exact ⟨y, x % y, rfl, rfl, hy, Lib.hid (by have := h1.out; have := hy.out; omega), Lib.hid (hg2.out.trans hg.out), below_drewN bw _⟩
      case measure => have := h1.out; show (intOf (.int .u64 ((x : Int) % (y : Int)))).toNat < _; rw [rem_cast]; simp only [intOf]; omega
theorem rem64_any (n y : Nat) (a b : Int) (ha : a = hi n) (hb : b = lo n) (hy : 0 < y) (hyU : y < U) (w : World) :
    Calls Try.prog 40 #[.int .u64 a, .int .u64 b, .int .u64 y] w fun e w' => e = .returned (.int .u64 ((n % y : Nat) : Int)) ∧ Below w.heap.size w w' := by
  subst ha hb
  have t1 : ((y : Int) == 0) = false := by simp; omega
  obtain ⟨z, hz⟩ : ∃ z, n / U % y = z := ⟨_, rfl⟩
  have t3 : hi n % (y : Int) = (z : Int) := by unfold hi; rw [rem_cast, hz]
  have hzl : z < y := by rw [← hz]; exact Nat.mod_lt _ hy
  have e : (z * U + n % U) % y = n % y := by
    rw [← hz, Nat.add_mod, Nat.mul_mod, Nat.mod_mod, ← Nat.mul_mod, ← Nat.add_mod, pair_eq]
  have E := Lib.hid e
  have HY := Lib.hid hyU
  have HZ := Lib.hid hzl
  have h0 : 0 ≤ hi n := hi_nonneg n
  clear hz e hyU hzl
  go_enter Try.func40, Try.ntmps40
  go_wp2_with fail
  refine (div64_any z (n % U) y HZ.out HY.out (Nat.mod_lt _ (by decide)) _).mono ?_
  rw [E.out]
  rintro e w1 ⟨rfl, hb1⟩
  go_wp2
  go_ret
  exact ⟨rfl, hb1⟩
theorem hilo_zero (n : Nat) : (n = 0 → hi n = 0 ∧ lo n = 0) ∧ (n ≠ 0 → 0 < hi n ∨ hi n = 0 ∧ 0 < lo n) := by
  unfold hi lo U
  constructor
  · intro h; subst h; exact ⟨rfl, rfl⟩
  · intro h; omega
set_option maxRecDepth 100000 in
set_option maxHeartbeats 1000000 in
theorem rdivisor_any (a b : Nat) (p q r s : Int) (ha : a < U * U) (hb : 2 * b ≤ U * U) (hp : p = hi a) (hq : q = lo a) (hr : r = hi b) (hs : s = lo b) (w : World) :
    Calls Try.prog 41 #[.agg #[.int .u64 p, .int .u64 q], .agg #[.int .u64 r, .int .u64 s]] w fun e w' => e = .returned (.agg #[.int .u64 (hi (Nat.gcd a b)), .int .u64 (lo (Nat.gcd a b))]) ∧ Below w.heap.size w w' := by
  subst hp hq hr hs
  have Ha := Lib.hid ha
  have Hb := Lib.hid hb
  clear ha hb
  obtain ⟨G, hG⟩ : ∃ G, Nat.gcd a b = G := ⟨_, rfl⟩
  have HG := Lib.hid hG
  rw [hG]
  clear hG
  go_enter Try.func41, Try.ntmps41
  go_wp2
  go_loopg [5, 6] b (fun g _ _ wr => ∃ x : Nat, Hid (x < U * U) ∧ Hid (2 * g ≤ U * U) ∧ Hid (Nat.gcd x g = G) ∧ Blk2 wr w.heap.size (.int .u64 (hi x)) (.int .u64 (lo x)) 34 ∧ Blk2 wr (w.heap.size + 1) (.int .u64 (hi g)) (.int .u64 (lo g)) 34 ∧ Blk2 wr (w.heap.size + 1 + 1) (.int .u64 0) (.int .u64 0) 34 ∧ Below w.heap.size w wr)
  case atStart =>
    refine ⟨a, Ha, Hb, HG, ((Blk2.new w _ _ _).alloc _).alloc _, ?_, ?_, (((Below.refl _ _).alloc (by simp) _).alloc (by simp) _).alloc (by simp <;> omega) _⟩
    · have h := Blk2.new (w.alloc (Obj.cells #[Value.int IntKind.u64 (hi a), Value.int IntKind.u64 (lo a)] 34)) (Value.int IntKind.u64 (hi b)) (Value.int IntKind.u64 (lo b)) 34
      simp at h
      exact h.alloc _
    · have h := Blk2.new ((w.alloc (Obj.cells #[Value.int IntKind.u64 (hi a), Value.int IntKind.u64 (lo a)] 34)).alloc (Obj.cells #[Value.int IntKind.u64 (hi b), Value.int IntKind.u64 (lo b)] 34)) (Value.int IntKind.u64 0) (Value.int IntKind.u64 0) 34
      simpa using h
  case round =>
    obtain ⟨x, hx, hg, hG, B0, B1, B2, bw⟩ := hrel
    obtain ⟨c00, c01, f00, f01⟩ := B0.all
    obtain ⟨c10, c11, f10, f11⟩ := B1.all
    obtain ⟨c20, c21, f20, f21⟩ := B2.all
    have hsz := B2.lt
    by_cases h0 : gk = 0
    · have e : x = G := by have := hG.out; rwa [h0, Nat.gcd_zero_right] at this
      have E := Lib.hid e
      obtain ⟨z1, z2⟩ := (hilo_zero gk).1 h0
      clear h0 e
      have t1 : decide ((0 : Int) < hi gk) = false := by rw [z1]; decide
      have t2 : decide ((0 : Int) < lo gk) = false := by rw [z2]; decide
      clear z1 z2
      go_wp2
      rw [← E.out]
      refine bodyPost_ret (v := .agg #[.int .u64 (hi x), .int .u64 (lo x)]) (by simp [results, Try.results41, go_sem, c20, c21]) rfl ⟨rfl, ?_⟩
      exact (bw.setCell (by simp <;> omega) _).setCell (by simp <;> omega) _
    · have hstep := Lib.hid (gcd_step x gk h0)
      have hm := Lib.hid (Nat.mod_lt x (show 0 < gk by omega))
      have hpos := Lib.hid (show 0 < gk by omega)
      have tt : decide ((0 : Int) < hi gk) = true ∧ True ∨ decide ((0 : Int) < hi gk) = false ∧ decide ((0 : Int) < lo gk) = true := by
        rcases (hilo_zero gk).2 h0 with t1 | ⟨t1, t2⟩
        · left; exact ⟨by simpa using t1, trivial⟩
        · right; exact ⟨by rw [t1]; decide, by simpa using t2⟩
      clear h0
      rcases tt with ⟨t1, t2⟩ | ⟨t1, t2⟩
      all_goals
        go_wp2_with fail
        refine (rdivide_any x gk _ _ _ _ hx.out hpos.out hg.out rfl rfl rfl rfl _).mono ?_
        rintro e w1 ⟨rfl, hb1⟩
        have K0 := B0.below hb1 B0.lt
        have K1 := B1.below hb1 B1.lt
        have K2 := B2.below hb1 B2.lt
        have bw1 := bw.trans (hb1.mono bw.size)
        clear c00 c01 f00 f01 c10 c11 f10 f11 c20 c21 f20 f21 B0 B1 B2 bw hb1 hsz
        obtain ⟨c00, c01, f00, f01⟩ := K0.all
        obtain ⟨c10, c11, f10, f11⟩ := K1.all
        have hsz := K2.lt
        go_wp2
        generalize hW : World.alloc (World.alloc w1 _) _ = wz
        have N0 : Blk2 wz w.heap.size (.int .u64 (hi x)) (.int .u64 (lo x)) 34 := by rw [← hW]; exact (K0.alloc _).alloc _
        have N1 : Blk2 wz (w.heap.size + 1) (.int .u64 (hi gk)) (.int .u64 (lo gk)) 34 := by rw [← hW]; exact (K1.alloc _).alloc _
        have N2 : Blk2 wz (w.heap.size + 1 + 1) (.int .u64 0) (.int .u64 0) 34 := by rw [← hW]; exact (K2.alloc _).alloc _
        have N3 : Blk2 wz (w1.heap.size + 1) (.int .u64 (hi (x % gk))) (.int .u64 (lo (x % gk))) 34 := by
          rw [← hW]
          have h := Blk2.new (w1.alloc (Obj.cells #[Value.int IntKind.u64 (hi (x / gk)), Value.int IntKind.u64 (lo (x / gk))] 34)) (.int .u64 (hi (x % gk))) (.int .u64 (lo (x % gk))) 34
          simpa using h
        have bwz : Below w.heap.size w wz := by rw [← hW]; exact (bw1.alloc bw1.size _).alloc (by simp; have := bw1.size; omega) _
        clear hW c00 c01 f00 f01 c10 c11 f10 f11 K0 K1 K2 bw1
        obtain ⟨c00, c01, f00, f01⟩ := N0.all
        obtain ⟨c10, c11, f10, f11⟩ := N1.all
        obtain ⟨c30, c31, f30, f31⟩ := N3.all
        go_region
        all_goals (try go_wp2)
        all_goals (go_roundg (x % gk))
        case measure => exact hm.out
        case rel =>
          refine ⟨gk, Lib.hid (by have := hg.out; unfold U at *; omega), Lib.hid (by have := hg.out; have := hm.out; omega), Lib.hid (hstep.out.trans hG.out), ?_, ?_, ?_, ?_⟩
          · exact (((N0.set0 _).set1 _).other (by simp <;> omega) _).other (by simp <;> omega) _
          · exact (((N1.other (by simp <;> omega) _).other (by simp <;> omega) _).set0 _).set1 _
          · exact (((N2.other (by simp <;> omega) _).other (by simp <;> omega) _).other (by simp <;> omega) _).other (by simp <;> omega) _
          · exact ((((bwz.setCell (by simp <;> omega) _).setCell (by simp <;> omega) _).setCell (by simp <;> omega) _).setCell (by simp <;> omega) _).drew
end Go.Proofs.Yteicljlmdphkhaa
