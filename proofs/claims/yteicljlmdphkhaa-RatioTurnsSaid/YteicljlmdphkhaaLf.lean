/- The law's walk: RatioTurns. -/
import Derived.Test.YteicljlmdphkhaaLe
namespace Go.Proofs.Yteicljlmdphkhaa
open Go.RowKit
set_option linter.unusedVariables false
theorem list_at (w : World) (a b c d : Int) (B : Nat) (hB : B = w.heap.size) : ListAt (((w.alloc (.cells #[.int .i64 a, .int .i64 b] 23)).alloc (.cells #[.int .i64 c, .int .i64 d] 23)).alloc (.cells #[.int .i64 a, .int .i64 b, .int .i64 c, .int .i64 d] 23)) (B + 1 + 1) 0 [(a, b), (c, d)] := by
  subst hB
  intro k hk
  match k, hk with
  | 0, _ => exact ⟨by go_simp, by go_simp⟩
  | 1, _ => exact ⟨by go_simp, by go_simp⟩
  | k + 2, hk => simp at hk; omega
theorem list_at' (w : World) (o : Obj) (a b c d : Int) : ∀ B : Nat, B = w.heap.size → ListAt ((w.alloc o).alloc (.cells #[.int .i64 c, .int .i64 d, .int .i64 a, .int .i64 b] 23)) (B + 1) 0 [(c, d), (a, b)] := by
  intro B hB
  subst hB
  intro k hk
  match k, hk with
  | 0, _ => exact ⟨by go_simp, by go_simp⟩
  | 1, _ => exact ⟨by go_simp, by go_simp⟩
  | k + 2, hk => simp at hk; omega
theorem list_one (w : World) (a b : Int) : ∀ B : Nat, B = w.heap.size → ListAt (w.alloc (.cells #[.int .i64 a, .int .i64 b] 23)) B 0 [(a, b)] := by
  intro B hB
  subst hB
  intro k hk
  match k, hk with
  | 0, _ => exact ⟨by go_simp, by go_simp⟩
  | k + 1, hk => simp at hk
set_option maxRecDepth 100000 in
set_option maxHeartbeats 4000000 in
theorem law_turns_no (a b c d N D : Int) (K : Bool) (hN : N = 0) (hD : D = 0) (hK : K = false) (h1 : Hid (numR [(a, b), (c, d)] = N ∧ denR [(a, b), (c, d)] = D ∧ okR [(a, b), (c, d)] = K)) (h2 : Hid (numR [(c, d), (a, b)] = N ∧ denR [(c, d), (a, b)] = D ∧ okR [(c, d), (a, b)] = K)) (hF : Fits [(a, b), (c, d)]) (hF2 : Fits [(c, d), (a, b)])
    (ways : okf a b = false ∨ okf a b = true ∧ (okf c d = false ∨ okf c d = true ∧ (decide (b < 2147483648) = false ∨ decide (b < 2147483648) = true ∧ (decide (d < 2147483648) = false ∨ decide (d < 2147483648) = true ∧ (decide (a < 2147483648) = false ∨ decide (a < 2147483648) = true ∧ decide (c < 2147483648) = false))))) (w : World) :
    Calls Try.prog 10 #[.agg #[.int .i64 a, .int .i64 b], .agg #[.int .i64 c, .int .i64 d]] w fun e w' => e = .returned (.bool true) ∧ Below w.heap.size w w' := by
  subst hN hD hK
  have WY := Lib.hid ways
  clear ways
  have H1 := Lib.hid h1
  have H2 := Lib.hid h2
  have HF := Lib.hid hF
  have HF2 := Lib.hid hF2
  clear h1 h2 hF hF2
  go_enter Try.func10, Try.ntmps10
  go_wp2_with fail
  refine (sum_core (w.heap.size + 1 + 1) 0 2 [(a, b), (c, d)] 0 0 false H1 (by simp) _ (by simp) (list_at _ _ _ _ _ _ rfl) HF.out).mono ?_
  rintro e w1 ⟨rfl, hb1⟩
  have A0 := (((Blk2.new w _ _ _).alloc _).alloc _).below hb1 (by simp <;> omega)
  have A1 := ((Blk2.new (w.alloc (.cells #[.int .i64 a, .int .i64 b] 23)) (.int .i64 c) (.int .i64 d) 23).alloc (.cells #[.int .i64 a, .int .i64 b, .int .i64 c, .int .i64 d] 23)).below hb1 (by simp <;> omega)
  simp at A1
  have bw1 := ((((Below.refl w.heap.size w).alloc (by simp) _).alloc (by simp) _).alloc (by simp <;> omega) _).trans (hb1.mono (by simp <;> omega))
  clear hb1
  obtain ⟨a0, a1, _, _⟩ := A0.all
  obtain ⟨b0, b1, _, _⟩ := A1.all
  have l0 := A0.lt
  have l1 := A1.lt
  go_wp2_with fail
  refine (sum_core (w1.heap.size + 1) 0 2 [(c, d), (a, b)] 0 0 false H2 (by simp) _ (by simp) (list_at' _ _ _ _ _ _ _ rfl) HF2.out).mono ?_
  rintro e w2 ⟨rfl, hb2⟩
  have B0 := ((A0.alloc _).alloc _).below hb2 (by simp <;> omega)
  have B1 := ((A1.alloc _).alloc _).below hb2 (by simp <;> omega)
  have T5 := ((Blk2.new w1 (.int .i64 0) (.int .i64 0) 23).alloc (.cells #[.int .i64 c, .int .i64 d, .int .i64 a, .int .i64 b] 23)).below hb2 (by simp <;> omega)
  have bw2 := ((bw1.alloc bw1.size _).alloc (by have := bw1.size; simp <;> omega) _).trans (hb2.mono (by have := bw1.size; simp <;> omega))
  clear hb2 bw1 a0 a1 b0 b1 l0 l1 A0 A1
  obtain ⟨a0, a1, _, _⟩ := B0.all
  obtain ⟨b0, b1, _, _⟩ := B1.all
  obtain ⟨s0, s1, _, _⟩ := T5.all
  have l0 := B0.lt
  have l1 := B1.lt
  have l2 := T5.lt
  rcases WY.out with k1 | ⟨k1, k2 | ⟨k2, t1 | ⟨t1, t2 | ⟨t2, t3 | ⟨t3, t4⟩⟩⟩⟩⟩
  · skip
    go_wp2_with fail
    refine (may_any a b _).mono ?_
    rw [k1]
    rintro e w3 ⟨rfl, hb3⟩
    have C0 := (B0.alloc _).below hb3 (by simp <;> omega)
    have C1 := (B1.alloc _).below hb3 (by simp <;> omega)
    have C5 := (T5.alloc _).below hb3 (by simp <;> omega)
    have bw3 := (bw2.alloc bw2.size _).trans (hb3.mono (by have := bw2.size; simp <;> omega))
    clear hb3 bw2 a0 a1 b0 b1 s0 s1 l0 l1 l2 B0 B1 T5
    obtain ⟨a0, a1, _, _⟩ := C0.all
    obtain ⟨b0, b1, _, _⟩ := C1.all
    obtain ⟨s0, s1, _, _⟩ := C5.all
    have l0 := C0.lt
    go_wp2_with fail
    refine (awake_any _).mono ?_
    rintro e w5 ⟨rfl, hb5⟩
    have bw5 := bw3.trans (hb5.mono bw3.size)
    clear hb5 bw3
    go_wp2
    go_ret
    exact ⟨rfl, bw5⟩
  all_goals
    go_wp2_with fail
    refine (may_any a b _).mono ?_
    rw [k1]
    rintro e w3 ⟨rfl, hb3⟩
    have C0 := (B0.alloc _).below hb3 (by simp <;> omega)
    have C1 := (B1.alloc _).below hb3 (by simp <;> omega)
    have C5 := (T5.alloc _).below hb3 (by simp <;> omega)
    have bw3 := (bw2.alloc bw2.size _).trans (hb3.mono (by have := bw2.size; simp <;> omega))
    clear hb3 bw2 a0 a1 b0 b1 s0 s1 l0 l1 l2 B0 B1 T5
    obtain ⟨a0, a1, _, _⟩ := C0.all
    obtain ⟨b0, b1, _, _⟩ := C1.all
    obtain ⟨s0, s1, _, _⟩ := C5.all
    have l0 := C0.lt
    go_wp2_with fail
    refine (may_any c d _).mono ?_
    rw [k2]
    rintro e w4 ⟨rfl, hb4⟩
    have D0 := C0.below hb4 C0.lt
    have D1 := C1.below hb4 C1.lt
    have D5 := C5.below hb4 C5.lt
    have bw4 := bw3.trans (hb4.mono bw3.size)
    clear hb4 bw3 a0 a1 b0 b1 s0 s1 l0 C0 C1 C5
    obtain ⟨a0, a1, _, _⟩ := D0.all
    obtain ⟨b0, b1, _, _⟩ := D1.all
    obtain ⟨s0, s1, _, _⟩ := D5.all
    have l0 := D0.lt
    go_wp2_with fail
    refine (awake_any _).mono ?_
    rintro e w5 ⟨rfl, hb5⟩
    have bw5 := bw4.trans (hb5.mono bw4.size)
    clear hb5 bw4
    go_wp2
    go_ret
    exact ⟨rfl, bw5⟩
set_option maxRecDepth 100000 in
set_option maxHeartbeats 4000000 in
theorem law_turns_yes (x y u v p q : Nat) (hx : x < M63) (hy : y < M63) (hy0 : 0 < y) (hu : u < M63) (hv : v < M63) (hv0 : 0 < v) (hp : p < M63) (hq : q < M63) (hq0 : 0 < q) (h1 : Hid (numR [((x : Int), (y : Int)), ((u : Int), (v : Int))] = p ∧ denR [((x : Int), (y : Int)), ((u : Int), (v : Int))] = q ∧ okR [((x : Int), (y : Int)), ((u : Int), (v : Int))] = true)) (h2 : Hid (numR [((u : Int), (v : Int)), ((x : Int), (y : Int))] = p ∧ denR [((u : Int), (v : Int)), ((x : Int), (y : Int))] = q ∧ okR [((u : Int), (v : Int)), ((x : Int), (y : Int))] = true)) (h3 : Hid (numR [((p : Int), (q : Int))] = p ∧ denR [((p : Int), (q : Int))] = q ∧ okR [((p : Int), (q : Int))] = true))
    (hF : Fits [((x : Int), (y : Int)), ((u : Int), (v : Int))]) (hF2 : Fits [((u : Int), (v : Int)), ((x : Int), (y : Int))]) (hF3 : Fits [((p : Int), (q : Int))]) (g1 : x * q ≤ p * y) (g2 : u * q ≤ p * v) (w : World) :
    Calls Try.prog 10 #[.agg #[.int .i64 x, .int .i64 y], .agg #[.int .i64 u, .int .i64 v]] w fun e w' => e = .returned (.bool true) ∧ Below w.heap.size w w' := by
  have HX := Lib.hid (M63_lt hx)
  have HY := Lib.hid (M63_lt hy)
  have HUu := Lib.hid (M63_lt hu)
  have HV := Lib.hid (M63_lt hv)
  have HP := Lib.hid (M63_lt hp)
  have HQ := Lib.hid (M63_lt hq)
  have NX := Lib.hid (ownN_nat x y hy0)
  have DX := Lib.hid (ownD_nat x y hy0)
  have NU := Lib.hid (ownN_nat u v hv0)
  have DU := Lib.hid (ownD_nat u v hv0)
  have NP := Lib.hid (ownN_nat p q hq0)
  have DP := Lib.hid (ownD_nat p q hq0)
  obtain ⟨X, hX⟩ : ∃ X, cmpF p q x y = X := ⟨_, rfl⟩
  obtain ⟨Y, hY⟩ : ∃ X, cmpF p q u v = X := ⟨_, rfl⟩
  have bX := ge_of g1
  have bY := ge_of g2
  rw [hX] at bX
  rw [hY] at bY
  have EX := Lib.hid hX
  have EY := Lib.hid hY
  have HF3 := Lib.hid hF3
  have cX : decide (0 ≤ X) = true := by simpa using bX
  have cY : decide (0 ≤ Y) = true := by simpa using bY
  clear hx hy hy0 hu hv hv0 hp hq hq0 hX hY g1 g2 hF3
  have H1 := Lib.hid h1
  have H2 := Lib.hid h2
  have HF := Lib.hid hF
  have HF2 := Lib.hid hF2
  clear h1 h2 hF hF2
  go_enter Try.func10, Try.ntmps10
  go_wp2_with fail
  refine (sum_core (w.heap.size + 1 + 1) 0 2 [((x : Int), (y : Int)), ((u : Int), (v : Int))] p q true H1 (by simp) _ (by simp) (list_at _ _ _ _ _ _ rfl) HF.out).mono ?_
  rintro e w1 ⟨rfl, hb1⟩
  have A0 := (((Blk2.new w _ _ _).alloc _).alloc _).below hb1 (by simp <;> omega)
  have A1 := ((Blk2.new (w.alloc (.cells #[.int .i64 x, .int .i64 y] 23)) (.int .i64 u) (.int .i64 v) 23).alloc (.cells #[.int .i64 x, .int .i64 y, .int .i64 u, .int .i64 v] 23)).below hb1 (by simp <;> omega)
  simp at A1
  have bw1 := ((((Below.refl w.heap.size w).alloc (by simp) _).alloc (by simp) _).alloc (by simp <;> omega) _).trans (hb1.mono (by simp <;> omega))
  clear hb1
  obtain ⟨a0, a1, _, _⟩ := A0.all
  obtain ⟨b0, b1, _, _⟩ := A1.all
  have l0 := A0.lt
  have l1 := A1.lt
  go_wp2_with fail
  refine (sum_core (w1.heap.size + 1) 0 2 [((u : Int), (v : Int)), ((x : Int), (y : Int))] p q true H2 (by simp) _ (by simp) (list_at' _ _ _ _ _ _ _ rfl) HF2.out).mono ?_
  rintro e w2 ⟨rfl, hb2⟩
  have B0 := ((A0.alloc _).alloc _).below hb2 (by simp <;> omega)
  have B1 := ((A1.alloc _).alloc _).below hb2 (by simp <;> omega)
  have T5 := ((Blk2.new w1 (.int .i64 p) (.int .i64 q) 23).alloc (.cells #[.int .i64 u, .int .i64 v, .int .i64 x, .int .i64 y] 23)).below hb2 (by simp <;> omega)
  have bw2 := ((bw1.alloc bw1.size _).alloc (by have := bw1.size; simp <;> omega) _).trans (hb2.mono (by have := bw1.size; simp <;> omega))
  clear hb2 bw1 a0 a1 b0 b1 l0 l1 A0 A1
  obtain ⟨a0, a1, _, _⟩ := B0.all
  obtain ⟨b0, b1, _, _⟩ := B1.all
  obtain ⟨s0, s1, _, _⟩ := T5.all
  have l0 := B0.lt
  have l1 := B1.lt
  have l2 := T5.lt
  go_wp2_with fail
  refine (sum_core (w2.heap.size + 1) 0 1 [((p : Int), (q : Int))] p q true h3 (by simp) _ (by simp) (list_one (w2.alloc _) _ _ _ (by simp)) HF3.out).mono ?_
  rintro e w3 ⟨rfl, hb3⟩
  have C0 := ((B0.alloc _).alloc _).below hb3 (by simp <;> omega)
  have C1 := ((B1.alloc _).alloc _).below hb3 (by simp <;> omega)
  have C5 := ((T5.alloc _).alloc _).below hb3 (by simp <;> omega)
  have bw3 := ((bw2.alloc bw2.size _).alloc (by have := bw2.size; simp <;> omega) _).trans (hb3.mono (by have := bw2.size; simp <;> omega))
  clear hb3 bw2 a0 a1 b0 b1 s0 s1 l0 l1 l2 B0 B1 T5
  obtain ⟨a0, a1, _, _⟩ := C0.all
  obtain ⟨b0, b1, _, _⟩ := C1.all
  obtain ⟨s0, s1, _, _⟩ := C5.all
  have l0 := C0.lt
  have l1 := C1.lt
  have l2 := C5.lt
  go_wp2_with fail
  refine (compare_any p q x y p q x y NP.out DP.out NX.out DX.out HP.out HQ.out HX.out HY.out _).mono ?_
  rw [EX.out]
  rintro e w4 ⟨rfl, hb4⟩
  have D1 := (C1.alloc _).below hb4 (by simp <;> omega)
  have D5 := (C5.alloc _).below hb4 (by simp <;> omega)
  have bw4 := (bw3.alloc bw3.size _).trans (hb4.mono (by have := bw3.size; simp <;> omega))
  clear hb4 bw3 a0 a1 b0 b1 s0 s1 l0 l1 l2 C0 C1 C5
  obtain ⟨b0, b1, _, _⟩ := D1.all
  obtain ⟨s0, s1, _, _⟩ := D5.all
  have l1 := D1.lt
  have l2 := D5.lt
  go_wp2_with fail
  refine (compare_any p q u v p q u v NP.out DP.out NU.out DU.out HP.out HQ.out HUu.out HV.out _).mono ?_
  rw [EY.out]
  rintro e w5 ⟨rfl, hb5⟩
  have bw5 := bw4.trans (hb5.mono bw4.size)
  clear hb5 bw4 b0 b1 s0 s1 l1 l2 D1 D5
  go_wp2_with fail
  refine (awake_any _).mono ?_
  rintro e w6 ⟨rfl, hb6⟩
  have bw6 := bw5.trans (hb6.mono bw5.size)
  clear hb6 bw5
  go_wp2
  go_ret
  exact ⟨rfl, bw6⟩
theorem fits_two (a b c d : Int) (ha : a ≤ 9223372036854775807) (hb : b ≤ 9223372036854775807) (hc : c ≤ 9223372036854775807) (hd : d ≤ 9223372036854775807) : Fits [(a, b), (c, d)] := by
  intro k hk
  match k, hk with
  | 0, _ => exact ⟨ha, hb⟩
  | 1, _ => exact ⟨hc, hd⟩
  | k + 2, hk => simp at hk; omega
theorem fits_one (a b : Int) (ha : a ≤ 9223372036854775807) (hb : b ≤ 9223372036854775807) : Fits [(a, b)] := by
  intro k hk
  match k, hk with
  | 0, _ => exact ⟨ha, hb⟩
  | k + 1, hk => simp at hk
theorem res_eq {L L' : List (Int × Int)} (h : sumV L = sumV L') : numR L = numR L' ∧ denR L = denR L' ∧ okR L = okR L' := by unfold numR denR okR; rw [h]; exact ⟨rfl, rfl, rfl⟩
theorem law_turns (a b c d : Int) (ha : a ≤ 9223372036854775807) (hb : b ≤ 9223372036854775807) (hc : c ≤ 9223372036854775807) (hd : d ≤ 9223372036854775807) (w : World) :
    Calls Try.prog 10 #[.agg #[.int .i64 a, .int .i64 b], .agg #[.int .i64 c, .int .i64 d]] w fun e w' => e = .returned (.bool true) ∧ Below w.heap.size w w' := by
  have ht := sumV_turn a b c d ha hb hc hd
  by_cases hn : sumV [(a, b), (c, d)] = none
  · have h1 := res_none hn
    have h2 := res_none (ht.trans hn)
    refine law_turns_no a b c d 0 0 false rfl rfl rfl (Lib.hid h1) (Lib.hid h2) (fits_two a b c d ha hb hc hd) (fits_two c d a b hc hd ha hb) ?_ w
    have hs : ¬ (okf a b = true ∧ okf c d = true ∧ b < 2147483648 ∧ d < 2147483648 ∧ a < 2147483648 ∧ c < 2147483648) := fun h => sum_small a b c d h.1 h.2.1 h.2.2.1 h.2.2.2.1 h.2.2.2.2.1 h.2.2.2.2.2 hn
    simp only [decide_eq_true_eq, decide_eq_false_iff_not]
    cases k1 : okf a b
    · exact Or.inl rfl
    · cases k2 : okf c d
      · exact Or.inr ⟨rfl, Or.inl rfl⟩
      · rw [k1, k2] at hs
        refine Or.inr ⟨rfl, Or.inr ⟨rfl, ?_⟩⟩
        have hs' : ¬ (b < 2147483648 ∧ d < 2147483648 ∧ a < 2147483648 ∧ c < 2147483648) := fun h => hs ⟨rfl, rfl, h⟩
        omega
  · obtain ⟨x, y, u, v, p, q, rfl, rfl, rfl, rfl, hy0, hv0, hs, hp, hq, hq0, hown, g1, g2⟩ := sum_is a b c d ha hb hc hd hn
    have h1 := res_some hs
    have h2 := res_some (ht.trans hs)
    have h3 := res_some hown
    have lp : (p : Int) ≤ 9223372036854775807 := by unfold M63 at hp; omega
    have lq : (q : Int) ≤ 9223372036854775807 := by unfold M63 at hq; omega
    exact law_turns_yes x y u v p q (by unfold M63; omega) (by unfold M63; omega) hy0 (by unfold M63; omega) (by unfold M63; omega) hv0 hp hq hq0 (Lib.hid h1) (Lib.hid h2) (Lib.hid h3) (fits_two _ _ _ _ ha hb hc hd) (fits_two _ _ _ _ hc hd ha hb) (fits_one _ _ lp lq) g1 g2 w
end Go.Proofs.Yteicljlmdphkhaa
