/- A clock ticks; what is asked of it; it hears. -/
import Derived.Test.YtmoooeadiminbaaJ
namespace Go.Proofs.Ytmoooeadiminbaa
open Go.RowKit Go.Maps
set_option linter.unusedVariables false
set_option maxHeartbeats 1000000 in
set_option maxRecDepth 100000 in
theorem time_any {w : World} {F : Nat → Prop} {c B : Nat} {k : Ck} (h : ClkM w F c B k) (n : Int) :
    Calls Try.prog 12 #[.pointer (some ⟨c, 0, none⟩), .int .i64 n] w fun e w' => e = .returned (.int .i64 (tickC k n).mark) ∧ ClkM w' F c B (tickC k n) ∧ Kept F w w' := by
  have HH := Lib.hid h
  have c2 := h.self.c 2 rfl
  have f2 := h.self.f 2
  obtain ⟨M, hM⟩ : ∃ M, k.now = M := ⟨_, rfl⟩
  rw [hM] at c2
  have HFIN : Hid (ClkM (w.drew.setCell ⟨c, 2, none⟩ (.int .i64 (max M (near n)))) F c B (timeC k n) ∧ Kept F w (w.drew.setCell ⟨c, 2, none⟩ (.int .i64 (max M (near n))))) := Lib.hid (by
    have := h.drew.setNow n
    rw [hM] at this
    exact ⟨this, ((Kept.refl F w).drew).set _ _ (.inr h.fc)⟩)
  clear h hM
  go_enter Try.func12, Try.ntmps12
  go_wp2_with fail
  go_region_with ((go_at_call 17; refine (near_any _ _).mono ?_; rintro e w3 ⟨rfl, rfl⟩))
  all_goals
    go_wp2_with fail
    refine (fol_any HFIN.out.1).mono ?_
    rintro e w4 ⟨rfl, hc4, hk4⟩
    have c3 := hc4.self.c 3 rfl
    have HC4 := Lib.hid hc4
    have HK4 := Lib.hid (HFIN.out.2.trans hk4)
    clear hc4 hk4
    go_wp2_with fail
    go_ret
    exact ⟨rfl, HC4.out, HK4.out⟩
set_option maxHeartbeats 1000000 in
set_option maxRecDepth 100000 in
theorem heard_any {w : World} {F : Nat → Prop} {c B : Nat} {k : Ck} (h : ClkM w F c B k) (n : List UInt8) (hn : n.length ≤ 1000000) :
    Calls Try.prog 15 #[.pointer (some ⟨c, 0, none⟩), .string (bs n)] w fun e w' => e = .returned (.int .i64 (heardC k n)) ∧ Below w.heap.size w w' := by
  have c4 := h.self.c 4 rfl
  have hl := h.map.look (n := n) (by unfold maxLen; omega)
  have hlt := h.self.lt
  unfold heardC
  clear h
  cases hg : getK Sr.name n k.L with
  | none =>
    rw [hg] at hl
    simp only [Option.isSome_none, srcV] at hl
    clear hg
    go_enter Try.func15, Try.ntmps15
    go_wp2_with fail
    go_ret
    exact ⟨rfl, (Below.refl _ w).alloc (Nat.le_refl _) _⟩
  | some s =>
    rw [hg] at hl
    simp only [Option.isSome_some, srcV] at hl
    clear hg
    go_enter Try.func15, Try.ntmps15
    go_wp2_with fail
    go_ret
    exact ⟨rfl, (Below.refl _ w).alloc (Nat.le_refl _) _⟩
set_option maxHeartbeats 1000000 in
set_option maxRecDepth 100000 in
theorem active_any {w : World} {F : Nat → Prop} {c B : Nat} {k : Ck} (h : ClkM w F c B k) (n : List UInt8) (hn : n.length ≤ 1000000) :
    Calls Try.prog 16 #[.pointer (some ⟨c, 0, none⟩), .string (bs n)] w fun e w' => e = .returned (.bool (activeC k n)) ∧ Below w.heap.size w w' := by
  have c4 := h.self.c 4 rfl
  have hl := h.map.look (n := n) (by unfold maxLen; omega)
  have HH := Lib.hid h
  unfold activeC
  cases hg : getK Sr.name n k.L with
  | none =>
    rw [hg] at hl
    simp only [Option.isSome_none, srcV] at hl
    clear hg h
    go_enter Try.func16, Try.ntmps16
    go_wp2_with fail
    go_ret
    exact ⟨rfl, (Below.refl _ w).alloc (Nat.le_refl _) _⟩
  | some s =>
    rw [hg] at hl
    simp only [Option.isSome_some, srcV] at hl
    have hs := h.ok.last s (getK_some hg).1
    have hn := h.ok.now
    have HA := Lib.hid (act_any (h.alloc (.cells #[.int .i64 s.far, .int .i64 s.last] 46)) s (by omega))
    clear hg h
    go_enter Try.func16, Try.ntmps16
    go_wp2_with fail
    refine (HA.out).mono ?_
    rintro e w4 ⟨rfl, hb4⟩
    go_wp2_with fail
    go_ret
    exact ⟨rfl, ((Below.refl w.heap.size w).alloc (Nat.le_refl _) _).trans (hb4.mono (by rw [World.size_alloc]; omega))⟩
theorem okTick_dec {a : Int} : okTick a = true → 0 ≤ a ∧ a ≤ 1099511627776 := okTick_iff.1
set_option maxHeartbeats 2000000 in
set_option maxRecDepth 100000 in
theorem hear_any {w : World} {F : Nat → Prop} {c B : Nat} {k : Ck} (h : ClkM w F c B k) (n : List UInt8) (a t : Int) (hn : n.length ≤ 1000000) (hL : k.L.length ≤ 1000000) :
    Calls Try.prog 13 #[.pointer (some ⟨c, 0, none⟩), .string (bs n), .int .i64 a, .int .i64 t] w fun e w' => e = .returned (.bool (hearB k n a t)) ∧ ClkM w' F c B (hearC k n a t) ∧ Kept F w w' := by
  have HT := Lib.hid (time_any h t)
  obtain ⟨k1, hk1⟩ : ∃ k1, tickC k t = k1 := ⟨_, rfl⟩
  have hL1 : k1.L.length ≤ 1000000 := by rw [← hk1]; exact hL
  have hBe : hearB k n a t = hearOk k1 n a := by unfold hearB; rw [hk1]
  have hCe : hearC k n a t = if hearOk k1 n a then folC (putC k1 n a) else k1 := by unfold hearC; rw [hBe, hk1]
  rw [hBe, hCe]
  rw [hk1] at HT
  clear hk1 hBe hCe h hL
  have HL1 := Lib.hid hL1
  have HN := Lib.hid hn
  clear hL1 hn
  obtain ⟨N, hN⟩ : ∃ N, okName n = N := ⟨_, rfl⟩
  obtain ⟨T, hT⟩ : ∃ T, okTick a = T := ⟨_, rfl⟩
  have hname := Lib.hid (fun wx => name_any n wx)
  have htick := Lib.hid (fun wx => tick_any a wx)
  rw [hN] at hname
  rw [hT] at htick
  have e1 : hearOk k1 n a = (N && T && decide (k1.mark < a)) := by unfold hearOk; rw [hN, hT]
  rw [e1]
  have HNN := Lib.hid hN
  have HTT := Lib.hid hT
  clear e1 hN hT
  cases N with
  | false =>
    rw [show (false && T && decide (k1.mark < a)) = false by simp, if_neg (by simp)]
    go_enter Try.func13, Try.ntmps13
    go_wp2_with fail
    refine (HT.out).mono ?_
    rintro e w1 ⟨rfl, hc1, hk1⟩
    go_wp2_with fail
    refine (hname.out _).mono ?_
    rintro e w2 ⟨rfl, rfl⟩
    go_wp2_with fail
    go_ret
    exact ⟨rfl, hc1, hk1⟩
  | true =>
    cases T with
    | false =>
      rw [show (true && false && decide (k1.mark < a)) = false by simp, if_neg (by simp)]
      go_enter Try.func13, Try.ntmps13
      go_wp2_with fail
      refine (HT.out).mono ?_
      rintro e w1 ⟨rfl, hc1, hk1⟩
      go_wp2_with fail
      refine (hname.out _).mono ?_
      rintro e w2 ⟨rfl, rfl⟩
      go_wp2_with fail
      refine (htick.out _).mono ?_
      rintro e w2 ⟨rfl, rfl⟩
      go_wp2_with fail
      go_ret
      exact ⟨rfl, hc1, hk1⟩
    | true =>
      by_cases hm : k1.mark < a
      · have g0 : decide (a ≤ k1.mark) = false := by simp; omega
        have HM := Lib.hid hm
        rw [show (true && true && decide (k1.mark < a)) = true by simp [hm], if_pos rfl]
        clear hm
        go_enter Try.func13, Try.ntmps13
        go_wp2_with fail
        refine (HT.out).mono ?_
        rintro e w1 ⟨rfl, hc1, hk1⟩
        have HC1 := Lib.hid hc1
        have HK1 := Lib.hid hk1
        have c3 := hc1.self.c 3 rfl
        clear hc1 hk1 HT
        go_wp2_with fail
        refine (hname.out _).mono ?_
        rintro e w2 ⟨rfl, rfl⟩
        go_wp2_with fail
        refine (htick.out _).mono ?_
        rintro e w2 ⟨rfl, rfl⟩
        go_wp2_with fail
        refine (heard_any HC1.out n HN.out).mono ?_
        rintro e w3 ⟨rfl, hb3⟩
        have hc3 := HC1.out.below hb3
        have HC3 := Lib.hid hc3
        have HK3 := Lib.hid (HK1.out.of_below hb3 (fun i hi _ => Nat.lt_of_lt_of_le hi HK1.out.size))
        have d2 := hc3.self.c 2 rfl
        have d4 := hc3.self.c 4 rfl
        have hup := World.ownsMap.update (t := 41) (hc3.map.drew) law9 Try.underlying41 (by have := HL1.out; unfold maxLen; omega) (key9 (n := n) (by have := HN.out; unfold maxLen; omega)) (relem_mk (max a (heardC k1 n)) k1.now)
        obtain ⟨w4, hrun, hown4, hgr4⟩ := hup
        have HO4 := Lib.hid hown4
        have HG4 := Lib.hid hgr4
        clear hc3 hb3 hown4 hgr4 c3
        go_upto_region 5 with fail
        go_region
        have HP4 := Lib.hid (HC3.out.drew.putM HNN.out HTT.out HG4.out HO4.out)
        have HK4 : Hid (Kept F w w4) := Lib.hid ((HK3.out.drew).grown HG4.out (fun j hj => by cases hj; exact .inr HC3.out.fB))
        clear hrun
        go_wp2_with fail
        refine (fol_any HP4.out).mono ?_
        rintro e w5 ⟨rfl, hc5, hk5⟩
        have HK5 := Lib.hid (HK4.out.trans hk5)
        go_wp2_with fail
        go_ret
        exact ⟨rfl, hc5, HK5.out⟩
      · have g0 : decide (a ≤ k1.mark) = true := by simp; omega
        rw [show (true && true && decide (k1.mark < a)) = false by simp [hm], if_neg (by simp)]
        clear hm
        go_enter Try.func13, Try.ntmps13
        go_wp2_with fail
        refine (HT.out).mono ?_
        rintro e w1 ⟨rfl, hc1, hk1⟩
        have HC1 := Lib.hid hc1
        have HK1 := Lib.hid hk1
        have c3 := hc1.self.c 3 rfl
        clear hc1 hk1 HT
        go_wp2_with fail
        refine (hname.out _).mono ?_
        rintro e w2 ⟨rfl, rfl⟩
        go_wp2_with fail
        refine (htick.out _).mono ?_
        rintro e w2 ⟨rfl, rfl⟩
        go_wp2_with fail
        go_ret
        exact ⟨rfl, HC1.out, HK1.out⟩
end Go.Proofs.Ytmoooeadiminbaa
