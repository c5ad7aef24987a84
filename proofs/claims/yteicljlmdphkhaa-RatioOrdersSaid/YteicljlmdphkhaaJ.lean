/- How the reference holds fractions against one another. -/
import Derived.Test.YteicljlmdphkhaaI
namespace Go.Proofs.Yteicljlmdphkhaa
open Go.RowKit
set_option linter.unusedVariables false
theorem cmp_lt {x y : Nat} (h : x < y) : cmpI (x : Int) (y : Int) = -1 := by unfold cmpI; rw [if_pos (by omega)]
theorem cmp_gt {x y : Nat} (h : y < x) : cmpI (x : Int) (y : Int) = 1 := by unfold cmpI; rw [if_neg (by omega), if_pos (by omega)]
theorem cmp_eq {x y : Nat} (h : ¬ x < y) (h' : ¬ y < x) : cmpI (x : Int) (y : Int) = 0 := by unfold cmpI; rw [if_neg (by omega), if_neg (by omega)]
set_option maxRecDepth 100000 in
set_option maxHeartbeats 8000000 in
theorem rcompare_any (a b c d : Int) (p q r s : Nat) (hp : ownN a b = p) (hq : ownD a b = q) (hr : ownN c d = r) (hs : ownD c d = s) (hpU : p < U) (hqU : q < U) (hrU : r < U) (hsU : s < U) (w : World) :
    Calls Try.prog 12 #[.agg #[.int .i64 a, .int .i64 b], .agg #[.int .i64 c, .int .i64 d]] w fun e w' => e = .returned (.int .i64 (cmpF p q r s)) ∧ Below w.heap.size w w' := by
  have cp := wrap_cast p hpU
  have cq := wrap_cast q hqU
  have cr := wrap_cast r hrU
  have cs := wrap_cast s hsU
  have Hp := Lib.hid hp
  have Hq := Lib.hid hq
  have Hr := Lib.hid hr
  have Hs := Lib.hid hs
  have HpU := Lib.hid hpU
  have HqU := Lib.hid hqU
  have HrU := Lib.hid hrU
  have HsU := Lib.hid hsU
  clear hp hq hr hs hpU hqU hrU hsU
  go_enter Try.func12, Try.ntmps12
  go_upto_region 1 with fail
  have M : CS w w.heap.size a b c d ((w.alloc (.cells #[.int .i64 a, .int .i64 b] 23)).alloc (.cells #[.int .i64 c, .int .i64 d] 23)) := by
    refine ⟨⟨(Blk2.new w _ _ _).alloc _, ?_⟩, ((Below.refl _ _).alloc (by simp) _).alloc (by simp) _⟩
    have h := Blk2.new (w.alloc (.cells #[.int .i64 a, .int .i64 b] 23)) (.int .i64 c) (.int .i64 d) 23
    simpa using h
  generalize ((w.alloc (.cells #[.int .i64 a, .int .i64 b] 23)).alloc (.cells #[.int .i64 c, .int .i64 d] 23)) = wz at M ⊢
  obtain ⟨c00, c01, c10, c11⟩ := M.1.cells
  have hsz := M.1.lt
  go_cut [2, 3] (fun s2 s3 wx => s2 = .pointer (some ⟨w.heap.size, 0, none⟩) ∧ s3 = .pointer (some ⟨w.heap.size + 1, 0, none⟩) ∧ CS w w.heap.size p q r s wx)
  case first =>
    go_region_with (first
      | (go_at_call_of 27 (Value.agg #[Value.int IntKind.i64 a, Value.int IntKind.i64 b]); refine (own_any a b p q Hp.out Hq.out _).mono ?_; rintro e w3 ⟨rfl, hb3⟩; have M3 := M.drew.below hb3; clear c00 c01 c10 c11 hsz; obtain ⟨c00, c01, c10, c11⟩ := M3.1.cells; have hsz := M3.1.lt)
      | (go_at_call_of 27 (Value.agg #[Value.int IntKind.i64 c, Value.int IntKind.i64 d]); refine (own_any c d r s Hr.out Hs.out _).mono ?_; rintro e w4 ⟨rfl, hb4⟩; have M4 := M3.below hb4; clear c00 c01 c10 c11 hsz; obtain ⟨c00, c01, c10, c11⟩ := M4.1.cells; have f00 := M4.1.b0.f0; have f01 := M4.1.b0.f1; have f10 := M4.1.b1.f0; have f11 := M4.1.b1.f1; have hsz := M4.1.lt))
    all_goals (go_wp2_with fail)
    all_goals (go_meet; exact ⟨rfl, rfl, M4.sets _ _ _ _⟩)
  case rest =>
    obtain ⟨rfl, rfl, M⟩ := hcut
    clear c00 c01 c10 c11 hsz
    obtain ⟨c00, c01, c10, c11⟩ := M.1.cells
    have hsz := M.1.lt
    go_upto_region 2 with fail
    go_cut [5, 6] (fun s5 s6 wx => ∃ g1 g2 : Nat, s5 = .pointer (some ⟨g1, 0, none⟩) ∧ s6 = .pointer (some ⟨g2, 0, none⟩) ∧ wx.cell? ⟨g1, 0, none⟩ = some (.int .u64 (hi (p * s))) ∧ wx.cell? ⟨g1, 1, none⟩ = some (.int .u64 (lo (p * s))) ∧ wx.cell? ⟨g2, 0, none⟩ = some (.int .u64 (hi (r * q))) ∧ wx.cell? ⟨g2, 1, none⟩ = some (.int .u64 (lo (r * q))) ∧ g1 < wx.heap.size ∧ g2 < wx.heap.size ∧ Below w.heap.size w wx)
    case first =>
      have H0 := M.out
      clear c00 c01 c10 c11 hsz
      go_region_held3 (fun wx => (wx.cell? ⟨w.heap.size, 0, none⟩ = some (.int .i64 p) ∧ wx.cell? ⟨w.heap.size, 1, none⟩ = some (.int .i64 q) ∧ wx.cell? ⟨w.heap.size + 1, 0, none⟩ = some (.int .i64 r) ∧ wx.cell? ⟨w.heap.size + 1, 1, none⟩ = some (.int .i64 s) ∧ w.heap.size + 1 < wx.heap.size) ∧ CS w w.heap.size p q r s wx)
        ((refine CS.out ?_; repeat (first | exact M | refine CS.drew ?_ | refine CS.alloc ?_ _ | refine CS.other ?_ (by simp <;> omega) _ | refine CS.below ?_ (by assumption))))
        (first | (go_at_call_of 17 (Value.int IntKind.u64 (p : Int)); refine (times_any p s HpU.out HsU.out _).mono ?_; rintro e w3 ⟨rfl, hb3⟩; obtain ⟨hc3, hf3⟩ := bcell hb3; have hz3 := hb3.size; (try simp at hz3); (try have z31 : wc.heap.size < w3.heap.size := by omega); (try have z32 : wc.heap.size + 1 < w3.heap.size := by omega)) | (go_at_call_of 17 (Value.int IntKind.u64 (r : Int)); refine (times_any r q HrU.out HqU.out _).mono ?_; rintro e w4 ⟨rfl, hb4⟩; obtain ⟨hc4, hf4⟩ := bcell hb4; have hz4 := hb4.size; (try simp at hz4); (try have z41 : wc.heap.size < w4.heap.size := by omega); (try have z42 : wc.heap.size + 1 < w4.heap.size := by omega); (try have z43 : w3.heap.size < w4.heap.size := by omega); (try have z44 : w3.heap.size + 1 < w4.heap.size := by omega)))
      all_goals (go_wp2_with fail)
      all_goals (go_meet; exact ⟨_, _, rfl, rfl, (by go_simp <;> (refine World.cell?_setCell_same _ _ _ (u := .int .u64 0) ?_; go_simp)), (by go_simp <;> (refine World.cell?_setCell_same _ _ _ (u := .int .u64 0) ?_; go_simp)), (by go_simp <;> (refine World.cell?_setCell_same _ _ _ (u := .int .u64 0) ?_; go_simp)), (by go_simp <;> (refine World.cell?_setCell_same _ _ _ (u := .int .u64 0) ?_; go_simp)), by simp <;> omega, by simp <;> omega, (‹_ ∧ CS _ _ _ _ _ _ _›).2.2⟩)
    case rest =>
      obtain ⟨g1, g2, rfl, rfl, c10, c11, c20, c21, l1, l2, bw⟩ := hcut
      go_wp2_with fail
      refine (less_any (p * s) (r * q) _ _ _ _ rfl rfl rfl rfl _).mono ?_
      rintro e w5 ⟨rfl, hb5⟩
      have k10 := (hb5.cell (p := ⟨g1, 0, none⟩) l1).trans c10
      have k11 := (hb5.cell (p := ⟨g1, 1, none⟩) l1).trans c11
      have k20 := (hb5.cell (p := ⟨g2, 0, none⟩) l2).trans c20
      have k21 := (hb5.cell (p := ⟨g2, 1, none⟩) l2).trans c21
      have bw5 := bw.trans (hb5.mono bw.size)
      clear c10 c11 c20 c21 hb5 bw l1 l2
      by_cases h : p * s < r * q
      · have h1 : lt (p * s) (r * q) = true := by unfold lt; simpa using h
        have fin := Lib.hid (cmp_lt h)
        clear h
        go_wp2
        go_ret
        exact ⟨by unfold cmpF; rw [fin.out]; rfl, bw5⟩
      · have h1 : lt (p * s) (r * q) = false := by unfold lt; simpa using h
        have H := Lib.hid h
        clear h
        go_wp2_with fail
        refine (less_any (r * q) (p * s) _ _ _ _ rfl rfl rfl rfl _).mono ?_
        rintro e w6 ⟨rfl, hb6⟩
        have bw6 := bw5.trans (hb6.mono bw5.size)
        clear hb6 bw5 k10 k11 k20 k21
        by_cases h2 : r * q < p * s
        · have h3 : lt (r * q) (p * s) = true := by unfold lt; simpa using h2
          have fin := Lib.hid (cmp_gt h2)
          clear h2
          go_wp2
          go_ret
          exact ⟨by unfold cmpF; rw [fin.out]; rfl, bw6⟩
        · have h3 : lt (r * q) (p * s) = false := by unfold lt; simpa using h2
          have fin := Lib.hid (cmp_eq H.out h2)
          clear h2
          go_wp2
          go_ret
          exact ⟨by unfold cmpF; rw [fin.out]; rfl, bw6⟩
end Go.Proofs.Yteicljlmdphkhaa
