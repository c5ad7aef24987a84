/- The laws' walks: RatioOrders. -/
import Derived.Test.YteicljlmdphkhaaLa
namespace Go.Proofs.Yteicljlmdphkhaa
open Go.RowKit
set_option linter.unusedVariables false
theorem ownD_pos (n d : Int) : 0 < ownD n d := by unfold ownD; split <;> omega
theorem cmpF_cases (p q r s : Nat) : (cmpF p q r s = -1 ∧ p * s < r * q) ∨ (cmpF p q r s = 0 ∧ p * s = r * q) ∨ (cmpF p q r s = 1 ∧ r * q < p * s) := by
  unfold cmpF
  rcases Nat.lt_trichotomy (p * s) (r * q) with h | h | h
  · exact Or.inl ⟨cmp_lt h, h⟩
  · exact Or.inr (Or.inl ⟨cmp_eq (by omega) (by omega), h⟩)
  · exact Or.inr (Or.inr ⟨cmp_gt h, h⟩)
theorem cmpF_neg (p q r s : Nat) : cmpF r s p q = - cmpF p q r s := by
  rcases cmpF_cases p q r s with ⟨h, k⟩ | ⟨h, k⟩ | ⟨h, k⟩ <;> rcases cmpF_cases r s p q with ⟨h', k'⟩ | ⟨h', k'⟩ | ⟨h', k'⟩ <;> rw [h, h'] <;> omega
theorem cmpF_self (p q : Nat) : cmpF p q p q = 0 := by
  rcases cmpF_cases p q p q with ⟨h, k⟩ | ⟨h, k⟩ | ⟨h, k⟩ <;> omega
theorem le_chain {p q r s t u : Nat} (hs : 0 < s) (h1 : p * s ≤ r * q) (h2 : r * u ≤ t * s) : p * u ≤ t * q := by
  apply Nat.le_of_mul_le_mul_right _ hs
  have a1 : p * s * u ≤ r * q * u := Nat.mul_le_mul_right u h1
  have a2 : r * u * q ≤ t * s * q := Nat.mul_le_mul_right q h2
  have e1 : p * u * s = p * s * u := Nat.mul_right_comm p u s
  have e2 : r * u * q = r * q * u := Nat.mul_right_comm r u q
  have e3 : t * q * s = t * s * q := Nat.mul_right_comm t q s
  omega
theorem lt_chain {p q r s t u : Nat} (hs : 0 < s) (hq : 0 < q) (hu : 0 < u) (h1 : p * s ≤ r * q) (h2 : r * u ≤ t * s) (h : p * s < r * q ∨ r * u < t * s) : p * u < t * q := by
  apply Nat.lt_of_mul_lt_mul_right (a := s)
  have a1 : p * s * u ≤ r * q * u := Nat.mul_le_mul_right u h1
  have a2 : r * u * q ≤ t * s * q := Nat.mul_le_mul_right q h2
  have e1 : p * u * s = p * s * u := Nat.mul_right_comm p u s
  have e2 : r * u * q = r * q * u := Nat.mul_right_comm r u q
  have e3 : t * q * s = t * s * q := Nat.mul_right_comm t q s
  rcases h with h | h
  · have := Nat.mul_lt_mul_of_pos_right h hu; omega
  · have := Nat.mul_lt_mul_of_pos_right h hq; omega
/-- Which three may come. -/
def Trio (X Y Z : Int) : Prop := X = -1 ∧ Y = -1 ∧ Z = -1 ∨ X = -1 ∧ Y = 0 ∧ Z = -1 ∨ X = 0 ∧ Y = -1 ∧ Z = -1 ∨ X = 0 ∧ Y = 0 ∧ Z = 0 ∨ X = -1 ∧ Y = 1 ∨ X = 0 ∧ Y = 1 ∨ X = 1
theorem trio (p q r s t u : Nat) (hq : 0 < q) (hs : 0 < s) (hu : 0 < u) : Trio (cmpF p q r s) (cmpF r s t u) (cmpF p q t u) := by
  unfold Trio
  rcases cmpF_cases p q r s with ⟨h, k⟩ | ⟨h, k⟩ | ⟨h, k⟩ <;> rcases cmpF_cases r s t u with ⟨h', k'⟩ | ⟨h', k'⟩ | ⟨h', k'⟩ <;> rcases cmpF_cases p q t u with ⟨h2, k2⟩ | ⟨h2, k2⟩ | ⟨h2, k2⟩ <;> rw [h, h', h2]
  all_goals first
    | omega
    | (exfalso; have := lt_chain hs hq hu (by omega) (by omega) (by omega) (p := p) (t := t) (r := r); omega)
    | (exfalso; have a1 := le_chain hs (p := p) (q := q) (r := r) (t := t) (u := u) (by omega) (by omega); have a2 := le_chain hs (p := t) (q := u) (r := r) (t := p) (u := q) (by omega) (by omega); omega)
/-- Three boxes that are read alone. -/
structure TS (W : World) (B : Nat) (a b c d f g : Int) (w : World) : Prop where
  b0 : Blk2 w B (.int .i64 a) (.int .i64 b) 23
  b1 : Blk2 w (B + 1) (.int .i64 c) (.int .i64 d) 23
  b2 : Blk2 w (B + 1 + 1) (.int .i64 f) (.int .i64 g) 23
  bw : Below B W w
theorem TS.lt {W w : World} {B : Nat} {a b c d f g : Int} (h : TS W B a b c d f g w) : B + 1 + 1 < w.heap.size := h.b2.lt
theorem TS.below {W w w' : World} {B : Nat} {a b c d f g : Int} (h : TS W B a b c d f g w) (hb : Below w.heap.size w w') : TS W B a b c d f g w' :=
  have := h.lt
  ⟨h.b0.below hb (by omega), h.b1.below hb (by omega), h.b2.below hb (by omega), h.bw.trans (hb.mono (by omega))⟩
theorem TS.drew {W w : World} {B : Nat} {a b c d f g : Int} (h : TS W B a b c d f g w) : TS W B a b c d f g w.drew := ⟨h.b0, h.b1, h.b2, h.bw.drew⟩
theorem TS.out {W w : World} {B : Nat} {a b c d f g : Int} (h : TS W B a b c d f g w) : (w.cell? ⟨B, 0, none⟩ = some (.int .i64 a) ∧ w.cell? ⟨B, 1, none⟩ = some (.int .i64 b) ∧ w.cell? ⟨B + 1, 0, none⟩ = some (.int .i64 c) ∧ w.cell? ⟨B + 1, 1, none⟩ = some (.int .i64 d) ∧ w.cell? ⟨B + 1 + 1, 0, none⟩ = some (.int .i64 f) ∧ w.cell? ⟨B + 1 + 1, 1, none⟩ = some (.int .i64 g)) ∧ TS W B a b c d f g w :=
  ⟨⟨h.b0.c0, h.b0.c1, h.b1.c0, h.b1.c1, h.b2.c0, h.b2.c1⟩, h⟩
theorem TS.start (w : World) (a b c d f g : Int) : TS w w.heap.size a b c d f g (((w.alloc (.cells #[.int .i64 a, .int .i64 b] 23)).alloc (.cells #[.int .i64 c, .int .i64 d] 23)).alloc (.cells #[.int .i64 f, .int .i64 g] 23)) := by
  refine ⟨((Blk2.new w _ _ _).alloc _).alloc _, ?_, ?_, (((Below.refl _ _).alloc (by simp) _).alloc (by simp) _).alloc (by simp <;> omega) _⟩
  · have h := Blk2.new (w.alloc (.cells #[.int .i64 a, .int .i64 b] 23)) (.int .i64 c) (.int .i64 d) 23
    simp at h
    exact h.alloc _
  · have h := Blk2.new ((w.alloc (.cells #[.int .i64 a, .int .i64 b] 23)).alloc (.cells #[.int .i64 c, .int .i64 d] 23)) (.int .i64 f) (.int .i64 g) 23
    simpa using h
theorem cmpF_bd (p q r s : Nat) : -1 ≤ cmpF p q r s ∧ cmpF p q r s ≤ 1 := by
  rcases cmpF_cases p q r s with ⟨h, k⟩ | ⟨h, k⟩ | ⟨h, k⟩ <;> omega
set_option maxRecDepth 100000 in
set_option maxHeartbeats 4000000 in
theorem law_orders (a b c d f g : Int) (ha : a ≤ 9223372036854775807) (hb : b ≤ 9223372036854775807) (hc : c ≤ 9223372036854775807) (hd : d ≤ 9223372036854775807) (hf : f ≤ 9223372036854775807) (hg : g ≤ 9223372036854775807) (w : World) :
    Calls Try.prog 4 #[.agg #[.int .i64 a, .int .i64 b], .agg #[.int .i64 c, .int .i64 d], .agg #[.int .i64 f, .int .i64 g]] w fun e w' => e = .returned (.bool true) ∧ Below w.heap.size w w' := by
  obtain ⟨p, hp⟩ : ∃ p, ownN a b = p := ⟨_, rfl⟩
  obtain ⟨q, hq⟩ : ∃ p, ownD a b = p := ⟨_, rfl⟩
  obtain ⟨r, hr⟩ : ∃ p, ownN c d = p := ⟨_, rfl⟩
  obtain ⟨s, hs⟩ : ∃ p, ownD c d = p := ⟨_, rfl⟩
  obtain ⟨t, ht⟩ : ∃ p, ownN f g = p := ⟨_, rfl⟩
  obtain ⟨u, hu⟩ : ∃ p, ownD f g = p := ⟨_, rfl⟩
  have HP := Lib.hid (show p < U by rw [← hp]; exact ownN_lt ha)
  have HQ := Lib.hid (show q < U by rw [← hq]; exact ownD_lt hb)
  have HR := Lib.hid (show r < U by rw [← hr]; exact ownN_lt hc)
  have HS := Lib.hid (show s < U by rw [← hs]; exact ownD_lt hd)
  have HT := Lib.hid (show t < U by rw [← ht]; exact ownN_lt hf)
  have HU := Lib.hid (show u < U by rw [← hu]; exact ownD_lt hg)
  have Hp := Lib.hid hp
  have Hq := Lib.hid hq
  have Hr := Lib.hid hr
  have Hs := Lib.hid hs
  have Ht := Lib.hid ht
  have Hu := Lib.hid hu
  have tri := trio p q r s t u (by rw [← hq]; exact ownD_pos _ _) (by rw [← hs]; exact ownD_pos _ _) (by rw [← hu]; exact ownD_pos _ _)
  have E4 := Lib.hid (cmpF_neg p q r s)
  have E5 := Lib.hid (cmpF_self p q)
  obtain ⟨X, hX⟩ : ∃ X, cmpF p q r s = X := ⟨_, rfl⟩
  obtain ⟨Y, hY⟩ : ∃ X, cmpF r s t u = X := ⟨_, rfl⟩
  obtain ⟨Z, hZ⟩ : ∃ X, cmpF p q t u = X := ⟨_, rfl⟩
  have bX := cmpF_bd p q r s
  have bY := cmpF_bd r s t u
  have bZ := cmpF_bd p q t u
  rw [hX] at bX tri E4
  rw [hY] at bY tri
  rw [hZ] at bZ tri
  obtain ⟨x1, x2⟩ := bX
  obtain ⟨y1, y2⟩ := bY
  obtain ⟨z1, z2⟩ := bZ
  have E1 := Lib.hid hX
  have E2 := Lib.hid hY
  have E3 := Lib.hid hZ
  have TR := Lib.hid tri
  clear hp hq hr hs ht hu ha hb hc hd hf hg hX hY hZ tri
  go_enter Try.func4, Try.ntmps4
  go_wp2
  have M := TS.start w a b c d f g
  generalize World.alloc (World.alloc (World.alloc w _) _) _ = wz at M ⊢
  have H0 := M.out
  go_upto_region 1 with fail
  go_cut [7, 8, 9] (fun s7 s8 s9 wx => s7 = .int .i64 X ∧ s8 = .int .i64 Y ∧ s9 = .int .i64 Z ∧ TS w w.heap.size a b c d f g wx)
  case first =>
    go_region_held3 (fun wx => (wx.cell? ⟨w.heap.size, 0, none⟩ = some (.int .i64 a) ∧ wx.cell? ⟨w.heap.size, 1, none⟩ = some (.int .i64 b) ∧ wx.cell? ⟨w.heap.size + 1, 0, none⟩ = some (.int .i64 c) ∧ wx.cell? ⟨w.heap.size + 1, 1, none⟩ = some (.int .i64 d) ∧ wx.cell? ⟨w.heap.size + 1 + 1, 0, none⟩ = some (.int .i64 f) ∧ wx.cell? ⟨w.heap.size + 1 + 1, 1, none⟩ = some (.int .i64 g)) ∧ TS w w.heap.size a b c d f g wx)
      ((refine TS.out ?_; repeat (first | exact M | refine TS.drew ?_ | refine TS.below ?_ (by assumption))))
      (first | (go_at_call 11; with_reducible refine (compare_any a b c d p q r s Hp.out Hq.out Hr.out Hs.out HP.out HQ.out HR.out HS.out _).mono ?_; rw [E1.out]; rintro e w1 ⟨rfl, hb1⟩) | (go_at_call 11; with_reducible refine (compare_any c d f g r s t u Hr.out Hs.out Ht.out Hu.out HR.out HS.out HT.out HU.out _).mono ?_; rw [E2.out]; rintro e w1 ⟨rfl, hb1⟩) | (go_at_call 11; with_reducible refine (compare_any a b f g p q t u Hp.out Hq.out Ht.out Hu.out HP.out HQ.out HT.out HU.out _).mono ?_; rw [E3.out]; rintro e w1 ⟨rfl, hb1⟩))
    all_goals (go_wp2_with fail)
    all_goals (go_meet; exact ⟨rfl, rfl, rfl, (‹_ ∧ TS _ _ _ _ _ _ _ _ _›).2⟩)
  case rest =>
    obtain ⟨rfl, rfl, rfl, M⟩ := hcut
    obtain ⟨⟨c00, c01, c10, c11, c20, c21⟩, _⟩ := M.out
    clear H0
    go_wp2_with fail
    refine (compare_any c d a b r s p q Hr.out Hs.out Hp.out Hq.out HR.out HS.out HP.out HQ.out _).mono ?_
    rw [E4.out]
    rintro e w1 ⟨rfl, hb1⟩
    have M1 := M.below hb1
    clear c00 c01 c10 c11 c20 c21 M hb1
    obtain ⟨⟨c00, c01, c10, c11, c20, c21⟩, _⟩ := M1.out
    go_wp2_with fail
    refine (compare_any a b a b p q p q Hp.out Hq.out Hp.out Hq.out HP.out HQ.out HP.out HQ.out _).mono ?_
    rw [E5.out]
    rintro e w2 ⟨rfl, hb2⟩
    have bw := (M1.below hb2).bw
    clear c00 c01 c10 c11 c20 c21 M1 hb2
    rcases TR.out with ⟨rfl, rfl, rfl⟩ | ⟨rfl, rfl, rfl⟩ | ⟨rfl, rfl, rfl⟩ | ⟨rfl, rfl, rfl⟩ | ⟨rfl, rfl⟩ | ⟨rfl, rfl⟩ | rfl
    all_goals
      go_wp2_with fail
      refine (awake_any _).mono ?_
      rintro e w3 ⟨rfl, hb3⟩
      have bw3 := bw.trans (hb3.mono bw.size)
      clear hb3 bw
      go_wp2
      go_ret
      exact ⟨rfl, bw3⟩
end Go.Proofs.Yteicljlmdphkhaa
