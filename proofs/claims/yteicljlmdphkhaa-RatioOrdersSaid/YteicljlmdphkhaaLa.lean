/- The laws' walks: RatioCompares, RatioProducts, RatioScales, RatioSums. -/
import Derived.Test.YteicljlmdphkhaaY
import Derived.Test.YteicljlmdphkhaaJ
namespace Go.Proofs.Yteicljlmdphkhaa
open Go.RowKit
set_option linter.unusedVariables false
theorem ownN_lt {n d : Int} (h : n ≤ 9223372036854775807) : ownN n d < U := by unfold ownN U; split <;> omega
theorem ownD_lt {n d : Int} (h : d ≤ 9223372036854775807) : ownD n d < U := by unfold ownD U; split <;> omega
/-- Two boxes that are read alone. -/
structure BS (W : World) (B : Nat) (a b c d : Int) (w : World) : Prop where
  b0 : Blk2 w B (.int .i64 a) (.int .i64 b) 23
  b1 : Blk2 w (B + 1) (.int .i64 c) (.int .i64 d) 23
  bw : Below B W w
theorem BS.lt {W w : World} {B : Nat} {a b c d : Int} (h : BS W B a b c d w) : B + 1 < w.heap.size := h.b1.lt
theorem BS.below {W w w' : World} {B : Nat} {a b c d : Int} (h : BS W B a b c d w) (hb : Below w.heap.size w w') : BS W B a b c d w' :=
  have := h.lt
  ⟨h.b0.below hb (by omega), h.b1.below hb (by omega), h.bw.trans (hb.mono (by omega))⟩
theorem BS.drew {W w : World} {B : Nat} {a b c d : Int} (h : BS W B a b c d w) : BS W B a b c d w.drew := ⟨h.b0, h.b1, h.bw.drew⟩
theorem BS.out {W w : World} {B : Nat} {a b c d : Int} (h : BS W B a b c d w) : (w.cell? ⟨B, 0, none⟩ = some (.int .i64 a) ∧ w.cell? ⟨B, 1, none⟩ = some (.int .i64 b) ∧ w.cell? ⟨B + 1, 0, none⟩ = some (.int .i64 c) ∧ w.cell? ⟨B + 1, 1, none⟩ = some (.int .i64 d)) ∧ BS W B a b c d w :=
  ⟨⟨h.b0.c0, h.b0.c1, h.b1.c0, h.b1.c1⟩, h⟩
theorem BS.start (w : World) (a b c d : Int) : BS w w.heap.size a b c d ((w.alloc (.cells #[.int .i64 a, .int .i64 b] 23)).alloc (.cells #[.int .i64 c, .int .i64 d] 23)) := by
  refine ⟨(Blk2.new w _ _ _).alloc _, ?_, ((Below.refl _ _).alloc (by simp) _).alloc (by simp) _⟩
  have h := Blk2.new (w.alloc (.cells #[.int .i64 a, .int .i64 b] 23)) (.int .i64 c) (.int .i64 d) 23
  simpa using h
set_option maxRecDepth 100000 in
set_option maxHeartbeats 4000000 in
theorem law_compares (a b c d : Int) (ha : a ≤ 9223372036854775807) (hb : b ≤ 9223372036854775807) (hc : c ≤ 9223372036854775807) (hd : d ≤ 9223372036854775807) (w : World) :
    Calls Try.prog 3 #[.agg #[.int .i64 a, .int .i64 b], .agg #[.int .i64 c, .int .i64 d]] w fun e w' => e = .returned (.bool true) ∧ Below w.heap.size w w' := by
  obtain ⟨p, hp⟩ : ∃ p, ownN a b = p := ⟨_, rfl⟩
  obtain ⟨q, hq⟩ : ∃ p, ownD a b = p := ⟨_, rfl⟩
  obtain ⟨r, hr⟩ : ∃ p, ownN c d = p := ⟨_, rfl⟩
  obtain ⟨s, hs⟩ : ∃ p, ownD c d = p := ⟨_, rfl⟩
  have HP := Lib.hid (show p < U by rw [← hp]; exact ownN_lt ha)
  have HQ := Lib.hid (show q < U by rw [← hq]; exact ownD_lt hb)
  have HR := Lib.hid (show r < U by rw [← hr]; exact ownN_lt hc)
  have HS := Lib.hid (show s < U by rw [← hs]; exact ownD_lt hd)
  have Hp := Lib.hid hp
  have Hq := Lib.hid hq
  have Hr := Lib.hid hr
  have Hs := Lib.hid hs
  clear hp hq hr hs ha hb hc hd
  go_enter Try.func3, Try.ntmps3
  go_wp2
  have M := BS.start w a b c d
  generalize World.alloc (World.alloc w _) _ = wz at M ⊢
  have H0 := M.out
  go_upto_region 1 with fail
  go_cut [4] (fun s4 wx => s4 = .bool true ∧ Below w.heap.size w wx)
  case first =>
    go_region_held3 (fun wx => (wx.cell? ⟨w.heap.size, 0, none⟩ = some (.int .i64 a) ∧ wx.cell? ⟨w.heap.size, 1, none⟩ = some (.int .i64 b) ∧ wx.cell? ⟨w.heap.size + 1, 0, none⟩ = some (.int .i64 c) ∧ wx.cell? ⟨w.heap.size + 1, 1, none⟩ = some (.int .i64 d)) ∧ BS w w.heap.size a b c d wx)
      ((refine BS.out ?_; repeat (first | exact M | refine BS.drew ?_ | refine BS.below ?_ (by assumption))))
      (first | (go_at_call 11; refine (compare_any a b c d p q r s Hp.out Hq.out Hr.out Hs.out HP.out HQ.out HR.out HS.out _).mono ?_; rintro e w1 ⟨rfl, hb1⟩) | (go_at_call 12; refine (rcompare_any a b c d p q r s Hp.out Hq.out Hr.out Hs.out HP.out HQ.out HR.out HS.out _).mono ?_; rintro e w1 ⟨rfl, hb1⟩) | (go_at_call 13; refine (may_any _ _ _).mono ?_; rintro e w1 ⟨rfl, hb1⟩) | (go_at_call 14; refine (rmay_any _ _ _).mono ?_; rintro e w1 ⟨rfl, hb1⟩) | (go_at_call 15; refine (awake_any _).mono ?_; rintro e w1 ⟨rfl, hb1⟩))
    all_goals (go_wp2_with fail)
    all_goals (go_meet; exact ⟨rfl, (‹_ ∧ BS _ _ _ _ _ _ _›).2.bw⟩)
  case rest =>
    obtain ⟨rfl, bw⟩ := hcut
    go_wp2
    go_ret
    exact ⟨rfl, bw⟩
end Go.Proofs.Yteicljlmdphkhaa
