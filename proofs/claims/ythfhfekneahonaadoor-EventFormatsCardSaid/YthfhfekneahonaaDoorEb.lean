/- Words of a text, one by one: the program's and the reference's. -/
import Derived.Test.YthfhfekneahonaaDoorEa
import Derived.Test.YthfhfekneahonaaDoorS2
namespace Go.Proofs.YthfhfekneahonaaDoor
open Go.RowKit
set_option linter.unusedVariables false
/-- The two variables of errors hold errors. -/
structure LayE (w : World) : Prop where
  lay : Lay w
  syn : ∃ tp p, w.cell? ⟨3, 0, none⟩ = some (.iface tp p)
  rng : ∃ tp p, w.cell? ⟨4, 0, none⟩ = some (.iface tp p)
theorem LayE.next {w w' : World} (h : LayE w) (hb : Below w.heap.size w w') : LayE w' := by
  have hz := h.lay.sz
  obtain ⟨tp, p, h1⟩ := h.syn
  obtain ⟨tq, q, h2⟩ := h.rng
  exact ⟨h.lay.next hb, ⟨tp, p, (hb.cell (show (⟨3, 0, none⟩ : Addr).block < w.heap.size by show 3 < _; omega)).trans h1⟩, ⟨tq, q, (hb.cell (show (⟨4, 0, none⟩ : Addr).block < w.heap.size by show 4 < _; omega)).trans h2⟩⟩
theorem LayE.alloc {w : World} (h : LayE w) (o : Obj) : LayE (w.alloc o) := h.next ((Below.refl _ _).alloc (Nat.le_refl _) o)
theorem LayE.drew {w : World} (h : LayE w) : LayE w.drew := h.next ((Below.refl _ _).drew)
theorem unpt_text (s : ByteArray) (w : World) : Calls Tryd.prog 66 #[.string s] w fun e w' => e = .returned (.string (unpt s)) ∧ w = w' := by
  by_cases h : s = ⟨#[46]⟩
  · rw [unpt_yes h]
    subst h
    go_enter Tryd.func66, Tryd.ntmps66
    go_wp2
    go_ret
    exact ⟨rfl, rfl⟩
  · rw [unpt_no h]
    have h1 : (s.toList == [46]) = false := by
      have := eqB s ⟨#[46]⟩
      rw [toL ⟨#[46]⟩] at this
      rw [show ([46] : List UInt8) = (ByteArray.mk #[46]).data.toList from rfl, this]; simpa using h
    have H := Lib.hid h
    clear h
    go_enter Tryd.func66, Tryd.ntmps66
    go_wp2
    go_ret
    exact ⟨rfl, rfl⟩
theorem unpt_ref (s : ByteArray) (w : World) : Calls Tryd.prog 73 #[.string s] w fun e w' => e = .returned (.string (unpt s)) ∧ w = w' := by
  by_cases h : s = ⟨#[46]⟩
  · rw [unpt_yes h]
    subst h
    go_enter Tryd.func73, Tryd.ntmps73
    go_wp2
    go_ret
    exact ⟨rfl, rfl⟩
  · rw [unpt_no h]
    have h1 : (s.toList == [46]) = false := by
      have := eqB s ⟨#[46]⟩
      rw [toL ⟨#[46]⟩] at this
      rw [show ([46] : List UInt8) = (ByteArray.mk #[46]).data.toList from rfl, this]; simpa using h
    have H := Lib.hid h
    clear h
    go_enter Tryd.func73, Tryd.ntmps73
    go_wp2
    go_ret
    exact ⟨rfl, rfl⟩
set_option maxRecDepth 100000 in
theorem numP_any (s : ByteArray) (hs : s.size ≤ 1000000) (w : World) (hL : LayE w) : Calls Tryd.prog 67 #[.string s] w fun e w' => e = .returned (.int .i64 (numP s)) ∧ Below w.heap.size w w' := by
  obtain ⟨b1, b2⟩ := numP_bounds s
  obtain ⟨tp, p, h1⟩ := hL.syn
  obtain ⟨tq, q, h2⟩ := hL.rng
  cases h : Lib.atoiAll s.data.toList with
  | ok v =>
    have hv := numP_ok h
    rw [hv] at b1 b2 ⊢
    have C := Tryd.strconv_Atoi_ok s (by omega) v h w
    clear hv h h1 h2
    go_enter Tryd.func67, Tryd.ntmps67
    go_wp2_with (go_at_call 86; refine C.mono ?_; rintro e w1 ⟨rfl, hw⟩)
    go_wp2
    go_ret
    refine ⟨rfl, ?_⟩
    rcases hw with rfl | ⟨t, rfl⟩
    · exact Below.refl _ _
    · exact Lib.bytesWorld_below _ _ _
  | range =>
    rw [numP_range h]
    have C := Tryd.strconv_Atoi_range s (by omega) h _ w h2 (.inr ⟨tq, q, rfl⟩)
    obtain ⟨a1, a2⟩ := Lib.atoiSat_bounds s.data.toList
    generalize Lib.atoiSat s.data.toList = x at C a1 a2
    clear h h1 h2 b1 b2
    go_enter Tryd.func67, Tryd.ntmps67
    go_wp2_with (go_at_call 86; refine C.mono ?_; rintro e w1 ⟨N, rfl, hN, hc, hb⟩)
    go_wp2
    go_ret
    exact ⟨rfl, hb⟩
  | _ =>
    rw [numP_syntax h]
    have C := Tryd.strconv_Atoi_syntax s (by omega) h _ w h1 (.inr ⟨tp, p, rfl⟩)
    clear h h1 h2 b1 b2
    go_enter Tryd.func67, Tryd.ntmps67
    go_wp2_with (go_at_call 86; refine C.mono ?_; rintro e w1 ⟨N, rfl, hN, hc, hb⟩)
    go_wp2
    go_ret
    exact ⟨rfl, hb⟩
set_option maxRecDepth 100000 in
theorem kdOf_any (s : ByteArray) (w : World) (hL : Lay w) : Calls Tryd.prog 68 #[.string s] w fun e w' => e = .returned (.int .i64 (kdOf s)) ∧ w = w' := by
  have HL := Lib.hid hL
  have hz : 0 < w.heap.size := by have := hL.sz; omega
  clear hL
  rcases kd_cases s with ⟨k, hk, h⟩ | h
  · rw [kdOf_yes hk h]
    have H := Lib.hid h
    clear h
    go_enter Tryd.func68, Tryd.ntmps68
    go_wp2
    go_loop [4] (fun i => ∃ j : Nat, j ≤ k ∧ i = .int .i64 j) (fun i => 15 - (intOf i).toNat)
    case atStart => exact ⟨0, Nat.zero_le _, rfl⟩
    case round =>
      obtain ⟨j, hj, rfl⟩ := hrel
      have cj := (HL.out.row j (by omega)).1
      have b1 : j < 15 := by omega
      by_cases e : j = k
      · subst e
        have q : ((bs (kR j).word).toList == s.toList) = true := by rw [eqB]; simpa using H.out
        go_wp2
        go_ret
        exact ⟨rfl, rfl⟩
      · have q : ((bs (kR j).word).toList == s.toList) = false := by
          rw [eqB]
          simp only [decide_eq_false_iff_not]
          intro e2
          exact e (words_inj j b1 k hk (by rw [← bs_data (kR j).word, ← bs_data (kR k).word, e2, H.out]))
        go_wp2
        go_round
        case rel => exact ⟨j + 1, by omega, by go_num⟩
        case measure => simp [intOf]; omega
  · rw [kdOf_no h]
    have H := Lib.hid h
    clear h
    go_enter Tryd.func68, Tryd.ntmps68
    go_wp2
    go_loop [4] (fun i => ∃ j : Nat, j ≤ 15 ∧ i = .int .i64 j) (fun i => 15 - (intOf i).toNat)
    case atStart => exact ⟨0, Nat.zero_le _, rfl⟩
    case round =>
      obtain ⟨j, hj, rfl⟩ := hrel
      by_cases b1 : j < 15
      · have cj := (HL.out.row j (by omega)).1
        have q : ((bs (kR j).word).toList == s.toList) = false := by
          rw [eqB]
          simp only [decide_eq_false_iff_not]
          exact H.out j b1
        go_wp2
        go_round
        case rel => exact ⟨j + 1, by omega, by go_num⟩
        case measure => simp [intOf]; omega
      · go_wp2
        go_ret
        exact ⟨rfl, rfl⟩
end Go.Proofs.YthfhfekneahonaaDoor
