/- The order in which things are heard plays no part: no acts; the law. -/
import Derived.Test.YtmoooeadiminbaaLe
namespace Go.Proofs.Ytmoooeadiminbaa
open Go.RowKit Go.Maps
set_option linter.unusedVariables false
set_option maxHeartbeats 4000000 in
set_option maxRecDepth 100000 in
theorem order_nil (sl : Int) (w : World) :
    Calls Try.prog 4 #[.int .i64 sl, .slice none 0 0, .int .i64 ((0 : Nat) : Int)] w fun e w' => e = .returned (.bool true) ∧ Below w.heap.size w w' := by
  obtain ⟨B0, hB0⟩ : ∃ B0, w.heap.size = B0 := ⟨_, rfl⟩
  have haw := Lib.hid (awake_any w)
  rw [hB0] at haw ⊢
  have HFEW : Hid (∀ wx, Below B0 w wx → Calls Try.prog 8 #[.slice none 0 0] wx fun e w' => e = .returned (.bool true) ∧ w' = wx) := Lib.hid (fun wx hb => by
    exact few_any (.slice none 0 0) [] B0 wx (.inl ⟨rfl, rfl⟩))
  go_enter Try.func4, Try.ntmps4
  go_wp2_with fail
  refine (haw.out).mono ?_
  rintro e w1 ⟨rfl, hb1⟩
  have hs1 : B0 ≤ w1.heap.size := by have := hb1.size; omega
  have HB1 := Lib.hid hb1
  clear hb1 haw
  go_wp2_with fail
  refine (HFEW.out w1 HB1.out).mono ?_
  rintro e w2 ⟨rfl, rfl⟩
  go_wp2_with fail
  refine (new_any sl 0 w2 (fun i => B0 ≤ i) (fun i hi => by omega)).mono ?_
  rintro e w3 ⟨c, B, rfl, -, hc3, hb3⟩
  have HC3 := Lib.hid hc3
  have HB3 := Lib.hid (HB1.out.trans (hb3.mono hs1))
  clear hc3 hb3 HFEW hs1
  go_wp2_with fail
  refine (new_any sl 0 w3 (fun i => w3.heap.size ≤ i) (fun i hi => hi)).mono ?_
  rintro e w4 ⟨d, D, rfl, -, hd4, hb4⟩
  have HP4 : Hid (Pair w4 B0 c B d D (newC sl 0) (newC sl 0)) := Lib.hid (by
    have h1 := HC3.out.below hb4
    have h2 := HC3.out.self.lt
    have h3 := World.ownsMap.lt HC3.out.map
    have h4 : w3.heap.size ≤ d := hd4.fc
    have h5 : w3.heap.size ≤ D := hd4.fB
    have h6 := HB3.out.size
    refine ⟨h1.two, hd4.two, fun i hi hj => ?_, HC3.out.fc, HC3.out.fB, by omega, by omega⟩
    rcases hi with hi | hi <;> rcases hj with hj | hj <;> omega)
  have HI4 : Hid (c < w4.heap.size ∧ B < w4.heap.size ∧ d < w4.heap.size ∧ D < w4.heap.size) := Lib.hid (by
    have h2 := HC3.out.self.lt
    have h3 := World.ownsMap.lt HC3.out.map
    have h4 := hd4.self.lt
    have h5 := World.ownsMap.lt hd4.map
    have h6 := hb4.size
    omega)
  have HB4 : Hid (Below B0 w w4) := Lib.hid (HB3.out.trans (hb4.mono (by have := HB3.out.size; omega)))
  clear hd4 hb4
  have HLIT : Hid (∀ wx : World, wx.heap.size = w4.heap.size → AcRow (wx.alloc (.cells #[] 29)) w4.heap.size (.slice (some ⟨w4.heap.size, 0, none⟩) 0 0) []) := Lib.hid (fun wx hs => by
    refine ⟨rfl, .inr ⟨w4.heap.size, 0, #[], rfl, Nat.le_refl _, ?_, by simp, by unfold maxLen; omega, by simp, by simp [acsL]⟩⟩
    rw [← hs]
    exact heap_alloc_new wx (.cells #[] 29))
  have HLITD : Hid (AcRow (w4.alloc (.cells #[] 29)).drew w4.heap.size (.slice (some ⟨w4.heap.size, 0, none⟩) 0 0) []) := Lib.hid (HLIT.out w4 rfl)
  have hs4 : B0 ≤ w4.heap.size := by have := HB4.out.size; omega
  go_wp2_with fail
  have HBD' : Hid (Below w4.heap.size w4 (w4.alloc (.cells #[] 29)).drew) := Lib.hid (((Below.refl _ w4).alloc (Nat.le_refl _) _).drew)
  have HBD : Hid (Below B0 w (w4.alloc (.cells #[] 29)).drew) := Lib.hid (HB4.out.trans (HBD'.out.mono hs4))
  have HSD : Hid (w4.heap.size ≤ (w4.alloc (.cells #[] 29)).drew.heap.size) := Lib.hid HBD'.out.size
  go_region_held3 (fun _ => True) (trivial) (first | (refine step_append_acs rfl (.tmp 44) (.tmp 47) rfl w4.heap.size v5 ([] ++ []) rfl HR5.out B0 (.slice none 0 0) [] rfl (.inl ⟨rfl, rfl⟩) (by simp) HS5.out ?_; intro v6 w6 hr6 hg6; have HR6 := Lib.hid hr6; have HB6 : Hid (Below w4.heap.size w4 w6) := Lib.hid (HB5'.out.grown hg6 HB5'.out.size (fun k hk => own_blk4 HR5.out k hk)); clear hr6 hg6) | (refine step_append_acs rfl (.tmp 40) (.tmp 43) rfl w4.heap.size (.slice (some ⟨w4.heap.size, 0, none⟩) 0 0) [] rfl HLITD.out B0 (.slice none 0 0) [] rfl (.inl ⟨rfl, rfl⟩) (by simp) HSD.out ?_; intro v5 w5 hr5 hg5; have HR5 := Lib.hid hr5; have HB5' : Hid (Below w4.heap.size w4 w5) := Lib.hid (HBD'.out.grown hg5 HBD'.out.size (fun k hk => own_blk4 HLITD.out k hk)); have HS5 : Hid (w4.heap.size ≤ w5.heap.size) := Lib.hid HB5'.out.size; clear hr5 hg5) | fail)
  obtain ⟨q6, p6, rfl⟩ := HR6.out.form
  have HP6 := Lib.hid (HP4.out.below HB6.out)
  have HB6w : Hid (Below B0 w w6) := Lib.hid (HB4.out.trans (HB6.out.mono hs4))
  have hs6 : B0 ≤ w6.heap.size := by have := HB6w.out.size; omega
  have hz : (([] ++ [] ++ [] : List Ac).length) = 0 := rfl
  rw [hz]
  clear HR6 HB6 HLIT HBD HBD' HSD HB5' HS5 HR5 hz
  have hsa := src_any HP6.out.mc (by simp [newC])
  have HSA := Lib.hid hsa
  clear hsa
  go_wp2_with fail
  refine wp_loop_rounds 1 ?_
  rw [rounds_succ]
  go_wp2_with fail
  refine wp_loop_rounds 1 ?_
  rw [rounds_succ]
  go_wp2_with fail
  refine (HSA.out).mono ?_
  rintro e w8 ⟨v8, rfl, ht8, hb8⟩
  obtain ⟨q8, p8, rfl⟩ := ht8.len
  have HP8 := Lib.hid (HP6.out.below hb8)
  have HB8 : Hid (Below B0 w w8) := Lib.hid (HB6w.out.trans (hb8.mono hs6))
  have hs8 : B0 ≤ w8.heap.size := by have := HB8.out.size; omega
  have HSB := Lib.hid (src_any HP8.out.md (by simp [newC]))
  rw [show ((newC sl 0).L.map Sr.name).length = 0 from rfl]
  clear ht8 hb8 HSA
  go_wp2_with fail
  refine (HSB.out).mono ?_
  rintro e w9 ⟨v9, rfl, ht9, hb9⟩
  obtain ⟨q9, p9, rfl⟩ := ht9.len
  have HB9 : Hid (Below B0 w w9) := Lib.hid (HB8.out.trans (hb9.mono hs8))
  rw [show ((newC sl 0).L.map Sr.name).length = 0 from rfl]
  clear ht9 hb9 HSB
  go_wp2_with fail
  refine wp_loop_rounds 1 ?_
  rw [rounds_succ]
  go_wp2_with fail
  go_ret
  exact ⟨rfl, HB9.out⟩
set_option maxHeartbeats 1000000 in
set_option maxRecDepth 100000 in
theorem law_order (sl : Int) (v : Value) (l : List Ac) (t : Int) (w : World) (hv : Acs w w.heap.size v l) :
    Calls Try.prog 4 #[.int .i64 sl, v, .int .i64 t] w fun e w' => e = .returned (.bool true) ∧ Below w.heap.size w w' := by
  by_cases h : fewL l = true ∧ 0 ≤ t ∧ t ≤ l.length
  · obtain ⟨hf, h0, h1⟩ := h
    obtain ⟨T, rfl⟩ : ∃ T : Nat, t = T := ⟨t.toNat, by omega⟩
    obtain ⟨q, cap, rfl, hcap, hmax, hq⟩ := hv.shape
    cases q with
    | none =>
      obtain ⟨rfl, rfl⟩ := hq rfl
      obtain rfl : T = 0 := by simp at h1; omega
      exact order_nil sl w
    | some ad => exact order_some sl ad cap l T w hv hf (by omega) hcap hmax
  · have haw := Lib.hid (awake_any w)
    obtain ⟨f, hf⟩ : ∃ f, fewL l = f := ⟨_, rfl⟩
    have HFEW : Hid (∀ wx, Below w.heap.size w wx → Calls Try.prog 8 #[v] wx fun e w' => e = .returned (.bool f) ∧ w' = wx) := Lib.hid (fun wx hb => by
      have := few_any v l w.heap.size wx (hv.below hb)
      rwa [hf] at this)
    rw [hf] at h
    obtain ⟨q, cap, rfl, hcap, hmax, hq⟩ := hv.shape
    obtain ⟨N, hN⟩ : ∃ N, l.length = N := ⟨_, rfl⟩
    rw [hN] at h HFEW ⊢
    clear hf hv hN hq hcap
    cases f with
    | false =>
      clear h
      go_enter Try.func4, Try.ntmps4
      go_wp2_with fail
      refine (haw.out).mono ?_
      rintro e w1 ⟨rfl, hb1⟩
      have HB1 := Lib.hid hb1
      clear hb1 haw
      go_wp2_with fail
      refine (HFEW.out w1 HB1.out).mono ?_
      rintro e w2 ⟨rfl, rfl⟩
      go_wp2_with fail
      go_ret
      exact ⟨rfl, HB1.out⟩
    | true =>
      simp only [true_and] at h
      have hh := Lib.hid h
      clear h
      by_cases h1 : t < 0
      · have g1 : decide (t < 0) = true := by simpa using h1
        clear hh
        go_enter Try.func4, Try.ntmps4
        go_wp2_with fail
        refine (haw.out).mono ?_
        rintro e w1 ⟨rfl, hb1⟩
        have HB1 := Lib.hid hb1
        clear hb1 haw
        go_wp2_with fail
        refine (HFEW.out w1 HB1.out).mono ?_
        rintro e w2 ⟨rfl, rfl⟩
        go_wp2_with fail
        go_ret
        exact ⟨rfl, HB1.out⟩
      · have g1 : decide (t < 0) = false := by simpa using h1
        have g2 : decide ((N : Int) < t) = true := by have := hh.out; simp; omega
        clear hh
        go_enter Try.func4, Try.ntmps4
        go_wp2_with fail
        refine (haw.out).mono ?_
        rintro e w1 ⟨rfl, hb1⟩
        have HB1 := Lib.hid hb1
        clear hb1 haw
        go_wp2_with fail
        refine (HFEW.out w1 HB1.out).mono ?_
        rintro e w2 ⟨rfl, rfl⟩
        go_wp2_with fail
        go_ret
        exact ⟨rfl, HB1.out⟩
end Go.Proofs.Ytmoooeadiminbaa
