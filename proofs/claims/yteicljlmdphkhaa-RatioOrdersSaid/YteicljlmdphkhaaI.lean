/- How fractions are held against one another: the program's and the reference's. -/
import Derived.Test.YteicljlmdphkhaaH
import Derived.Deep.DeepCutAuto
namespace Go.Proofs.Yteicljlmdphkhaa
open Go.RowKit
set_option linter.unusedVariables false
/-- Two fractions in two blocks, and what the walk asks of them. -/
structure CMem (w : World) (B : Nat) (p q r s : Int) : Prop where
  b0 : Blk2 w B (.int .i64 p) (.int .i64 q) 23
  b1 : Blk2 w (B + 1) (.int .i64 r) (.int .i64 s) 23
theorem CMem.lt {w : World} {B : Nat} {p q r s : Int} (h : CMem w B p q r s) : B + 1 < w.heap.size := h.b1.lt
theorem CMem.below {w w' : World} {B K : Nat} {p q r s : Int} (h : CMem w B p q r s) (hb : Below K w w') (hK : B + 1 < K) : CMem w' B p q r s := ⟨h.b0.below hb (by omega), h.b1.below hb (by omega)⟩
theorem CMem.alloc {w : World} {B : Nat} {p q r s : Int} (h : CMem w B p q r s) (o : Obj) : CMem (w.alloc o) B p q r s := ⟨h.b0.alloc o, h.b1.alloc o⟩
theorem CMem.drew {w : World} {B : Nat} {p q r s : Int} (h : CMem w B p q r s) : CMem w.drew B p q r s := ⟨h.b0, h.b1⟩
theorem CMem.cells {w : World} {B : Nat} {p q r s : Int} (h : CMem w B p q r s) : w.cell? ⟨B, 0, none⟩ = some (.int .i64 p) ∧ w.cell? ⟨B, 1, none⟩ = some (.int .i64 q) ∧ w.cell? ⟨B + 1, 0, none⟩ = some (.int .i64 r) ∧ w.cell? ⟨B + 1, 1, none⟩ = some (.int .i64 s) := ⟨h.b0.c0, h.b0.c1, h.b1.c0, h.b1.c1⟩
def CS (W : World) (B : Nat) (p q r s : Int) (w : World) : Prop := CMem w B p q r s ∧ Below B W w
theorem CS.below {W w w' : World} {B : Nat} {p q r s : Int} (h : CS W B p q r s w) (hb : Below w.heap.size w w') : CS W B p q r s w' := ⟨h.1.below hb h.1.lt, h.2.trans (hb.mono (by have := h.1.lt; omega))⟩
theorem CS.alloc {W w : World} {B : Nat} {p q r s : Int} (h : CS W B p q r s w) (o : Obj) : CS W B p q r s (w.alloc o) := ⟨h.1.alloc o, h.2.alloc (by have := h.1.lt; omega) o⟩
theorem CS.drew {W w : World} {B : Nat} {p q r s : Int} (h : CS W B p q r s w) : CS W B p q r s w.drew := ⟨h.1.drew, h.2.drew⟩
theorem CMem.sets {w : World} {B : Nat} {p q r s : Int} (h : CMem w B p q r s) (p' q' r' s' : Int) : CMem ((((w.setCell ⟨B, 0, none⟩ (.int .i64 p')).setCell ⟨B, 1, none⟩ (.int .i64 q')).setCell ⟨B + 1, 0, none⟩ (.int .i64 r')).setCell ⟨B + 1, 1, none⟩ (.int .i64 s')) B p' q' r' s' :=
  ⟨(((h.b0.set0 _).set1 _).other (by simp) _).other (by simp) _, ((((h.b1.other (by simp) _).other (by simp) _).set0 _).set1 _)⟩
theorem CS.sets {W w : World} {B : Nat} {p q r s : Int} (h : CS W B p q r s w) (p' q' r' s' : Int) : CS W B p' q' r' s' ((((w.setCell ⟨B, 0, none⟩ (.int .i64 p')).setCell ⟨B, 1, none⟩ (.int .i64 q')).setCell ⟨B + 1, 0, none⟩ (.int .i64 r')).setCell ⟨B + 1, 1, none⟩ (.int .i64 s')) :=
  ⟨h.1.sets _ _ _ _, (((h.2.setCell (by simp) _).setCell (by simp) _).setCell (by simp) _).setCell (by simp) _⟩

theorem CS.out {W w : World} {B : Nat} {p q r s : Int} (h : CS W B p q r s w) : (w.cell? ⟨B, 0, none⟩ = some (.int .i64 p) ∧ w.cell? ⟨B, 1, none⟩ = some (.int .i64 q) ∧ w.cell? ⟨B + 1, 0, none⟩ = some (.int .i64 r) ∧ w.cell? ⟨B + 1, 1, none⟩ = some (.int .i64 s) ∧ B + 1 < w.heap.size) ∧ CS W B p q r s w :=
  ⟨⟨h.1.b0.c0, h.1.b0.c1, h.1.b1.c0, h.1.b1.c1, h.1.lt⟩, h⟩
theorem CS.other {W w : World} {B : Nat} {p q r s : Int} (h : CS W B p q r s w) {a : Addr} (ha : B + 1 < a.block) (u : Value) : CS W B p q r s (w.setCell a u) :=
  ⟨⟨h.1.b0.other (by omega) u, h.1.b1.other (by omega) u⟩, h.2.setCell (by omega) u⟩
set_option maxRecDepth 100000 in
set_option maxHeartbeats 8000000 in
theorem compare_any (a b c d : Int) (p q r s : Nat) (hp : ownN a b = p) (hq : ownD a b = q) (hr : ownN c d = r) (hs : ownD c d = s) (hpU : p < U) (hqU : q < U) (hrU : r < U) (hsU : s < U) (w : World) :
    Calls Try.prog 11 #[.agg #[.int .i64 a, .int .i64 b], .agg #[.int .i64 c, .int .i64 d]] w fun e w' => e = .returned (.int .i64 (cmpF p q r s)) ∧ Below w.heap.size w w' := by
  have cp := wrap_cast p hpU
  have cq := wrap_cast q hqU
  have cr := wrap_cast r hrU
  have cs := wrap_cast s hsU
  have Hp := Lib.hid hp
  have Hq := Lib.hid hq
  have Hr := Lib.hid hr
  have Hs := Lib.hid hs
  have HpU := Lib.hid hpU
  have HqU := Lib.hid hqU
  have HrU := Lib.hid hrU
  have HsU := Lib.hid hsU
  clear hp hq hr hs hpU hqU hrU hsU
  go_enter Try.func11, Try.ntmps11
  go_upto_region 1 with fail
  have M : CS w w.heap.size a b c d ((w.alloc (.cells #[.int .i64 a, .int .i64 b] 23)).alloc (.cells #[.int .i64 c, .int .i64 d] 23)) := by
    refine ⟨⟨(Blk2.new w _ _ _).alloc _, ?_⟩, ((Below.refl _ _).alloc (by simp) _).alloc (by simp) _⟩
    have h := Blk2.new (w.alloc (.cells #[.int .i64 a, .int .i64 b] 23)) (.int .i64 c) (.int .i64 d) 23
    simpa using h
  generalize ((w.alloc (.cells #[.int .i64 a, .int .i64 b] 23)).alloc (.cells #[.int .i64 c, .int .i64 d] 23)) = wz at M ⊢
  obtain ⟨c00, c01, c10, c11⟩ := M.1.cells
  have hsz := M.1.lt
  go_cut [2, 3] (fun s2 s3 wx => s2 = .pointer (some ⟨w.heap.size, 0, none⟩) ∧ s3 = .pointer (some ⟨w.heap.size + 1, 0, none⟩) ∧ CS w w.heap.size p q r s wx)
  case first =>
    go_region_with (first
      | (go_at_call_of 24 (Value.agg #[Value.int IntKind.i64 a, Value.int IntKind.i64 b]); refine (orNought_any a b p q Hp.out Hq.out _).mono ?_; rintro e w3 ⟨rfl, hb3⟩; have M3 := M.drew.below hb3; clear c00 c01 c10 c11 hsz; obtain ⟨c00, c01, c10, c11⟩ := M3.1.cells; have hsz := M3.1.lt)
      | (go_at_call_of 24 (Value.agg #[Value.int IntKind.i64 c, Value.int IntKind.i64 d]); refine (orNought_any c d r s Hr.out Hs.out _).mono ?_; rintro e w4 ⟨rfl, hb4⟩; have M4 := M3.below hb4; clear c00 c01 c10 c11 hsz; obtain ⟨c00, c01, c10, c11⟩ := M4.1.cells; have f00 := M4.1.b0.f0; have f01 := M4.1.b0.f1; have f10 := M4.1.b1.f0; have f11 := M4.1.b1.f1; have hsz := M4.1.lt))
    all_goals (go_wp2_with fail)
    all_goals (go_meet; exact ⟨rfl, rfl, M4.sets _ _ _ _⟩)
  case rest =>
    obtain ⟨rfl, rfl, M⟩ := hcut
    clear c00 c01 c10 c11 hsz
    obtain ⟨c00, c01, c10, c11⟩ := M.1.cells
    have hsz := M.1.lt
    go_upto_region 2 with fail
    go_cut [5, 6] (fun s5 s6 wx => ∃ g1 g2 : Nat, s5 = .pointer (some ⟨g1, 0, none⟩) ∧ s6 = .pointer (some ⟨g2, 0, none⟩) ∧ wx.cell? ⟨g1, 0, none⟩ = some (.int .u64 (hi (p * s))) ∧ wx.cell? ⟨g1, 1, none⟩ = some (.int .u64 (lo (p * s))) ∧ wx.cell? ⟨g2, 0, none⟩ = some (.int .u64 (hi (r * q))) ∧ wx.cell? ⟨g2, 1, none⟩ = some (.int .u64 (lo (r * q))) ∧ Below w.heap.size w wx)
    case first =>
      have H0 := M.out
      clear c00 c01 c10 c11 hsz
      go_region_held3 (fun wx => (wx.cell? ⟨w.heap.size, 0, none⟩ = some (.int .i64 p) ∧ wx.cell? ⟨w.heap.size, 1, none⟩ = some (.int .i64 q) ∧ wx.cell? ⟨w.heap.size + 1, 0, none⟩ = some (.int .i64 r) ∧ wx.cell? ⟨w.heap.size + 1, 1, none⟩ = some (.int .i64 s) ∧ w.heap.size + 1 < wx.heap.size) ∧ CS w w.heap.size p q r s wx)
        ((refine CS.out ?_; repeat (first | exact M | refine CS.drew ?_ | refine CS.alloc ?_ _ | refine CS.other ?_ (by simp <;> omega) _ | refine CS.below ?_ (by assumption))))
        (first | (go_at_call_of 25 (Value.int IntKind.u64 (p : Int)); refine (mul_any p s HpU.out HsU.out _).mono ?_; rintro e w3 ⟨rfl, hb3⟩; obtain ⟨hc3, hf3⟩ := bcell hb3; have hz3 := hb3.size; (try simp at hz3); (try have z31 : wc.heap.size < w3.heap.size := by omega); (try have z32 : wc.heap.size + 1 < w3.heap.size := by omega)) | (go_at_call_of 25 (Value.int IntKind.u64 (r : Int)); refine (mul_any r q HrU.out HqU.out _).mono ?_; rintro e w4 ⟨rfl, hb4⟩; obtain ⟨hc4, hf4⟩ := bcell hb4; have hz4 := hb4.size; (try simp at hz4); (try have z41 : wc.heap.size < w4.heap.size := by omega); (try have z42 : wc.heap.size + 1 < w4.heap.size := by omega); (try have z43 : w3.heap.size < w4.heap.size := by omega); (try have z44 : w3.heap.size + 1 < w4.heap.size := by omega)))
      all_goals (go_wp2_with fail)
      all_goals (go_meet; exact ⟨_, _, rfl, rfl, (by go_simp <;> (refine World.cell?_setCell_same _ _ _ (u := .int .u64 0) ?_; go_simp)), (by go_simp <;> (refine World.cell?_setCell_same _ _ _ (u := .int .u64 0) ?_; go_simp)), (by go_simp <;> (refine World.cell?_setCell_same _ _ _ (u := .int .u64 0) ?_; go_simp)), (by go_simp <;> (refine World.cell?_setCell_same _ _ _ (u := .int .u64 0) ?_; go_simp)), (‹_ ∧ CS _ _ _ _ _ _ _›).2.2⟩)
    case rest =>
      obtain ⟨g1, g2, rfl, rfl, c10, c11, c20, c21, bw⟩ := hcut
      by_cases h : cmpI (hi (p * s)) (hi (r * q)) = 0
      · have h1 : (cmpI (hi (p * s)) (hi (r * q)) == 0) = true := by simpa using h
        have fin := Lib.hid (cmp_lo _ _ h)
        have HH := Lib.hid h
        clear h
        go_wp2_with fail
        refine (cmp_any _ _ _).mono ?_
        rintro e w5 ⟨rfl, rfl⟩
        go_wp2_with fail
        refine (cmp_any _ _ _).mono ?_
        rintro e w6 ⟨rfl, rfl⟩
        go_wp2
        go_ret
        exact ⟨by rw [fin.out]; rfl, bw⟩
      · have h1 : (cmpI (hi (p * s)) (hi (r * q)) == 0) = false := by simpa using h
        have fin := Lib.hid (cmp_hi _ _ h)
        clear h
        go_wp2_with fail
        refine (cmp_any _ _ _).mono ?_
        rintro e w5 ⟨rfl, rfl⟩
        go_wp2
        go_ret
        exact ⟨by rw [fin.out]; rfl, bw⟩
end Go.Proofs.Yteicljlmdphkhaa
