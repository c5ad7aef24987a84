/- The document's example holds. -/
import Derived.Test.YtmoooeadiminbaaU
namespace Go.Proofs.Ytmoooeadiminbaa
open Go.RowKit Go.Maps
set_option linter.unusedVariables false
theorem kept_below {w w' : World} {B : Nat} (h : Kept (fun i => B ≤ i) w w') (hB : B ≤ w.heap.size) : Below B w w' := h.below hB (fun i hi => hi)
theorem hear_at {B0 : Nat} {wx : World} {c B : Nat} {k : Ck} (h : ClkM wx (fun i => B0 ≤ i) c B k) (n : List UInt8) (a t : Int) (k' : Ck) (r : Bool) (hs : B0 ≤ wx.heap.size) (hn : n.length ≤ 1000000) (hL : k.L.length ≤ 1000000) (e1 : hearC k n a t = k') (e2 : hearB k n a t = r) :
    Calls Try.prog 13 #[.pointer (some ⟨c, 0, none⟩), .string (bs n), .int .i64 a, .int .i64 t] wx fun e w' => e = .returned (.bool r) ∧ ClkM w' (fun i => B0 ≤ i) c B k' ∧ Below B0 wx w' := by
  refine (hear_any h n a t hn hL).mono ?_
  rintro e w' ⟨h1, h2, h3⟩
  exact ⟨by rw [h1, e2], by rw [← e1]; exact h2, kept_below h3 hs⟩
set_option maxHeartbeats 2000000 in
set_option maxRecDepth 100000 in
theorem awake_any (w : World) : Calls Try.prog 7 #[] w fun e w' => e = .returned (.bool true) ∧ Below w.heap.size w w' := by
  obtain ⟨B0, hB0⟩ : ∃ B0, w.heap.size = B0 := ⟨_, rfl⟩
  rw [hB0]
  have hbs1 : bs [97] = ⟨#[97]⟩ := rfl
  have hbs2 : bs [98] = ⟨#[98]⟩ := rfl
  have hsz : B0 ≤ w.heap.size := by omega
  go_enter Try.func7, Try.ntmps7
  go_wp2_with fail
  refine (new_any 3 0 w (fun i => B0 ≤ i) (fun i hi => by omega)).mono ?_
  rintro e w1 ⟨c, B, rfl, -, hc1, hb1⟩
  have hs1 := hb1.size
  have HB1 : Hid (Below B0 w w1) := Lib.hid (hb1.mono hsz)
  have HC1 : Hid (ClkM w1 (fun i => B0 ≤ i) c B x0) := Lib.hid hc1
  clear hb1 hc1
  have hs1' : B0 ≤ w1.heap.size := by omega
  go_wp2_with fail
  refine (hear_at HC1.out [97] 10 0 x1 true hs1' (by decide) (by have := x_l; omega) rfl x_b1).mono ?_
  rintro e w2 ⟨rfl, hc2, hb2⟩
  have HB2 := Lib.hid (HB1.out.trans hb2)
  have HC2 := Lib.hid hc2
  have hs2 : B0 ≤ w2.heap.size := Nat.le_trans hs1' hb2.size
  clear hb2 hc2
  go_wp2_with fail
  refine (mark_any HC2.out).mono ?_
  rintro e w3 ⟨rfl, rfl⟩
  rw [x_m1]
  go_wp2_with fail
  refine (hear_at HC2.out [98] 8 0 x2 true hs2 (by decide) (by have := x_l; omega) rfl x_b2).mono ?_
  rintro e w4 ⟨rfl, hc4, hb4⟩
  have HB4 := Lib.hid (HB2.out.trans hb4)
  have HC4 := Lib.hid hc4
  have hs4 : B0 ≤ w4.heap.size := Nat.le_trans hs2 hb4.size
  clear hb4 hc4
  go_wp2_with fail
  refine (hear_at HC4.out [98] 5 0 x3 false hs4 (by decide) (by have := x_l; omega) rfl x_b3).mono ?_
  rintro e w5 ⟨rfl, hc5, hb5⟩
  have HB5 := Lib.hid (HB4.out.trans hb5)
  have HC5 := Lib.hid hc5
  have hs5 : B0 ≤ w5.heap.size := Nat.le_trans hs4 hb5.size
  clear hb5 hc5
  go_wp2_with fail
  refine (hear_at HC5.out [97] 20 0 x4 _ hs5 (by decide) (by have := x_l; omega) rfl rfl).mono ?_
  rintro e w6 ⟨rfl, hc6, hb6⟩
  have HB6 := Lib.hid (HB5.out.trans hb6)
  have HC6 := Lib.hid hc6
  have hs6 : B0 ≤ w6.heap.size := Nat.le_trans hs5 hb6.size
  clear hb6 hc6
  go_wp2_with fail
  refine (mark_any HC6.out).mono ?_
  rintro e w7 ⟨rfl, rfl⟩
  rw [x_m4]
  go_wp2_with fail
  refine (hear_at HC6.out [98] 20 0 x5 _ hs6 (by decide) (by have := x_l; omega) rfl rfl).mono ?_
  rintro e w8 ⟨rfl, hc8, hb8⟩
  have HB8 := Lib.hid (HB6.out.trans hb8)
  have HC8 := Lib.hid hc8
  clear hb8 hc8
  go_wp2_with fail
  refine (mark_any HC8.out).mono ?_
  rintro e w9 ⟨rfl, rfl⟩
  rw [x_m5]
  go_wp2_with fail
  go_ret
  exact ⟨rfl, HB8.out⟩
end Go.Proofs.Ytmoooeadiminbaa
