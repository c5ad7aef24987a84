/- The walk of EventMay. -/
import Derived.Test.YthfhfekneahonaaDoorP
namespace Go.Proofs.YthfhfekneahonaaDoor
open Go.RowKit
set_option linter.unusedVariables false
theorem texts_b (v1 v2 : Value) (xs : List ByteArray) (hx : xs.length ≤ 4294967296) (w : World) (h1 : Strs w v1 xs) (h2 : Strs w v2 xs) :
    Calls Tryd.prog 22 #[v1, v2] w fun e w' => e = .returned (.bool true) ∧ Below w.heap.size w w' :=
  (texts_same v1 v2 xs hx w h1 h2).mono fun e w' ⟨he, n, hn⟩ => ⟨he, by rw [hn]; exact below_drewN (Below.refl _ _) n⟩
theorem FSt.start {w w' : World} {s : ByteArray} {n a k : Int} {p i : ByteArray} {v : Int} {t : ByteArray} (hL : Lay w) (hb : Below (w.alloc (.cells #[.string s, .int .i64 n, .int .i64 a, .int .i64 k, .string p, .string i, .int .i64 v, .string t] 24)).heap.size (w.alloc (.cells #[.string s, .int .i64 n, .int .i64 a, .int .i64 k, .string p, .string i, .int .i64 v, .string t] 24)) w') : FSt w ⟨s, n, a, k, p, i, v, t⟩ w' :=
  ⟨(EvAt.new w ⟨s, n, a, k, p, i, v, t⟩).below hb (by simp), (hL.alloc _).next hb, ((Below.refl w.heap.size w).alloc (by simp) _).trans (hb.mono (by simp))⟩
set_option maxRecDepth 100000 in
set_option maxHeartbeats 16000000 in
theorem law_may_small (s : ByteArray) (n a k : Int) (p i : ByteArray) (v : Int) (t : ByteArray) (u : ByteArray) (hs : Small ⟨s, n, a, k, p, i, v, t⟩ 1000) (hu : u.size ≤ 1000) (w : World) (hL : Lay w) :
    Calls Tryd.prog 3 #[.agg #[.string s, .int .i64 n, .int .i64 a, .int .i64 k, .string p, .string i, .int .i64 v, .string t], .string u] w fun e w' => e = .returned (.bool true) ∧ Below w.heap.size w w' := by
  have ht : t.size ≤ 1000 := hs.2.2.2
  have HL := Lib.hid hL
  have HS := Lib.hid hs
  have l1 := tagsB_len u
  have l2 := tagsB_len t
  have z1 : (tagsB u).length ≤ 4294967296 := by omega
  have z2 : (tagsB t).length ≤ 4294967296 := by omega
  clear hL hs l1 l2
  go_enter Tryd.func3, Tryd.ntmps3
  go_wp2_with fail
  refine (lives_any _ (HL.out.alloc _)).mono ?_
  rintro e w1 ⟨rfl, hb⟩
  have M1 := FSt.start HL.out hb
  have H1 := M1.out 0 (by decide)
  clear hb
  obtain ⟨⟨c0, c1, c2, c3, c4, c5, c6, c7, c8, h1, h2⟩, _⟩ := H1
  go_wp2_with fail
  refine (big_no s n a k p i v t 1000 HS.out _).mono ?_
  rintro e w2 ⟨rfl, hb⟩
  have M := M1.below hb
  clear hb c0 c1 c2 c3 c4 c5 c6 c7 c8 h1 h2
  have H0 := M.out 0 (by decide)
  go_upto_region 5 with fail
  go_region_held3 (fun wx => (wx.cell? ⟨w.heap.size, 0, none⟩ = some (.string s) ∧ wx.cell? ⟨w.heap.size, 1, none⟩ = some (.int .i64 n) ∧ wx.cell? ⟨w.heap.size, 2, none⟩ = some (.int .i64 a) ∧ wx.cell? ⟨w.heap.size, 3, none⟩ = some (.int .i64 k) ∧ wx.cell? ⟨w.heap.size, 4, none⟩ = some (.string p) ∧ wx.cell? ⟨w.heap.size, 5, none⟩ = some (.string i) ∧ wx.cell? ⟨w.heap.size, 6, none⟩ = some (.int .i64 v) ∧ wx.cell? ⟨w.heap.size, 7, none⟩ = some (.string t) ∧ wx.cell? ⟨0, 0 * 6, none⟩ = some (.string (bs (kR 0).word)) ∧ w.heap.size < wx.heap.size ∧ 0 < wx.heap.size) ∧ FSt w ⟨s, n, a, k, p, i, v, t⟩ wx)
    ((refine FSt.out ?_ 0 (by decide); repeat (first | exact M | refine FSt.drew ?_ | refine FSt.alloc ?_ _ | refine FSt.below ?_ (by assumption))))
    (first
      | (go_at_call 14; refine (name_any _ _).mono ?_; rintro e w9 ⟨rfl, rfl⟩)
      | (go_at_call 15; refine (rname_any _ _).mono ?_; rintro e w9 ⟨rfl, rfl⟩)
      | (go_at_call 16; refine (may_any _ _ _ _ _ _ _ _ (by omega) _ (And.right (by assumption : _ ∧ FSt _ _ _)).lay).mono ?_; rintro e w9 ⟨rfl, hb9⟩)
      | (go_at_call 17; refine (rmay_any _ _ _ _ _ _ _ _ (by omega) _).mono ?_; rintro e w9 ⟨rfl, hb9⟩)
      | (go_at_call 18; refine (worth_any _ _ _ _ _ _ _ _ _).mono ?_; rintro e w9 ⟨rfl, hb9⟩)
      | (go_at_call 19; refine (rworth_any _ _ _ _ _ _ _ _ _).mono ?_; rintro e w9 ⟨rfl, hb9⟩)
      | (go_at_call 20; refine (maker_any _ (by omega) _ (And.right (by assumption : _ ∧ FSt _ _ _)).lay).mono ?_; rintro e w9 ⟨rfl, hb9⟩)
      | (go_at_call 21; refine (rmaker_any _ (by omega) _).mono ?_; rintro e w9 ⟨rfl, rfl⟩)
      | (go_at_call 23; refine (tags_any _ (by omega) _ (And.right (by assumption : _ ∧ FSt _ _ _)).lay).mono ?_; rintro e w9 ⟨v9, rfl, hv9, hb9⟩)
      | (go_at_call 24; refine (rtags_any _ (by omega) _).mono ?_; rintro e w8 ⟨v8, rfl, hv8, hb8⟩; have hv9 := Strs.below hv9 hb8)
      | (go_at_call 22; refine (texts_b _ _ _ (by assumption) _ hv9 hv8).mono ?_; rintro e w9 ⟨rfl, hb9⟩))
  all_goals (go_wp2_with fail)
  all_goals go_ret
  all_goals exact ⟨rfl, (‹_ ∧ FSt _ _ _›).2.bw⟩
set_option maxRecDepth 100000 in
set_option maxHeartbeats 1000000 in
theorem law_may_big (s : ByteArray) (n a k : Int) (p i : ByteArray) (v : Int) (t : ByteArray) (u : ByteArray) (hs : ¬ Small ⟨s, n, a, k, p, i, v, t⟩ 1000) (w : World) (hL : Lay w) :
    Calls Tryd.prog 3 #[.agg #[.string s, .int .i64 n, .int .i64 a, .int .i64 k, .string p, .string i, .int .i64 v, .string t], .string u] w fun e w' => e = .returned (.bool true) ∧ Below w.heap.size w w' := by
  have HL := Lib.hid hL
  have HS := Lib.hid hs
  clear hL hs
  go_enter Tryd.func3, Tryd.ntmps3
  go_wp2_with fail
  refine (lives_any _ (HL.out.alloc _)).mono ?_
  rintro e w1 ⟨rfl, hb⟩
  have M1 := FSt.start HL.out hb
  have H1 := M1.out 0 (by decide)
  clear hb
  obtain ⟨⟨c0, c1, c2, c3, c4, c5, c6, c7, c8, h1, h2⟩, _⟩ := H1
  go_wp2_with fail
  refine (big_yes s n a k p i v t 1000 HS.out _).mono ?_
  rintro e w2 ⟨rfl, hb⟩
  have M := M1.below hb
  clear hb c0 c1 c2 c3 c4 c5 c6 c7 c8 h1 h2
  go_wp2_with fail
  go_ret
  exact ⟨rfl, M.bw⟩
set_option maxRecDepth 100000 in
set_option maxHeartbeats 1000000 in
theorem law_may_long (s : ByteArray) (n a k : Int) (p i : ByteArray) (v : Int) (t : ByteArray) (u : ByteArray) (hs : Small ⟨s, n, a, k, p, i, v, t⟩ 1000) (hu : 1000 < u.size) (w : World) (hL : Lay w) :
    Calls Tryd.prog 3 #[.agg #[.string s, .int .i64 n, .int .i64 a, .int .i64 k, .string p, .string i, .int .i64 v, .string t], .string u] w fun e w' => e = .returned (.bool true) ∧ Below w.heap.size w w' := by
  have HL := Lib.hid hL
  have HS := Lib.hid hs
  have q1 : decide (1000 < u.size) = true := by simpa using hu
  have q2 : decide ((1000 : Int) < (u.size : Int)) = true := by simp; omega
  clear hL hs
  go_enter Tryd.func3, Tryd.ntmps3
  go_wp2_with fail
  refine (lives_any _ (HL.out.alloc _)).mono ?_
  rintro e w1 ⟨rfl, hb⟩
  have M1 := FSt.start HL.out hb
  have H1 := M1.out 0 (by decide)
  clear hb
  obtain ⟨⟨c0, c1, c2, c3, c4, c5, c6, c7, c8, h1, h2⟩, _⟩ := H1
  go_wp2_with fail
  refine (big_no s n a k p i v t 1000 HS.out _).mono ?_
  rintro e w2 ⟨rfl, hb⟩
  have M := M1.below hb
  clear hb c0 c1 c2 c3 c4 c5 c6 c7 c8 h1 h2
  go_wp2_with fail
  go_ret
  exact ⟨rfl, M.bw⟩
theorem law_may (s : ByteArray) (n a k : Int) (p i : ByteArray) (v : Int) (t : ByteArray) (u : ByteArray) (w : World) (hL : Lay w) :
    Calls Tryd.prog 3 #[.agg #[.string s, .int .i64 n, .int .i64 a, .int .i64 k, .string p, .string i, .int .i64 v, .string t], .string u] w fun e w' => e = .returned (.bool true) ∧ Below w.heap.size w w' := by
  by_cases hs : Small ⟨s, n, a, k, p, i, v, t⟩ 1000
  · by_cases hu : u.size ≤ 1000
    · exact law_may_small s n a k p i v t u hs hu w hL
    · exact law_may_long s n a k p i v t u hs (by omega) w hL
  · exact law_may_big s n a k p i v t u hs w hL
end Go.Proofs.YthfhfekneahonaaDoor
