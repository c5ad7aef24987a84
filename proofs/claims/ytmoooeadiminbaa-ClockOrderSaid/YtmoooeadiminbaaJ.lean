/- A clock follows its sources; it ticks. -/
import Derived.Test.YtmoooeadiminbaaI
namespace Go.Proofs.Ytmoooeadiminbaa
open Go.RowKit Go.Maps
set_option linter.unusedVariables false
theorem ClkM.drew {w : World} {F : Nat → Prop} {c B : Nat} {k : Ck} (h : ClkM w F c B k) : ClkM w.drew F c B k := h.quiet ⟨rfl, rfl, rfl, Nat.le_refl _, fun _ _ _ => rfl⟩
theorem ClkM.drewN {w : World} {F : Nat → Prop} {c B : Nat} {k : Ck} (h : ClkM w F c B k) (n : Nat) : ClkM (w.drewN n) F c B k := h.quiet ⟨rfl, rfl, rfl, Nat.le_refl _, fun _ _ _ => rfl⟩
set_option maxHeartbeats 1000000 in
set_option maxRecDepth 100000 in
theorem fol_any {w : World} {F : Nat → Prop} {c B : Nat} {k : Ck} (h : ClkM w F c B k) :
    Calls Try.prog 18 #[.pointer (some ⟨c, 0, none⟩)] w fun e w' => e = .returned (.tuple #[]) ∧ ClkM w' F c B (folC k) ∧ Kept F w w' := by
  have HH := Lib.hid h
  have c3 := h.self.c 3 rfl
  have HT : Hid (∀ wx, ClkM wx F c B k → Calls Try.prog 24 #[.pointer (some ⟨c, 0, none⟩)] wx fun e w' => e = .returned (.int .i64 (told k)) ∧ Below wx.heap.size wx w') := Lib.hid (fun wx hx => told_any hx)
  obtain ⟨T, hT⟩ : ∃ T, told k = T := ⟨_, rfl⟩
  obtain ⟨M, hM⟩ : ∃ M, k.mark = M := ⟨_, rfl⟩
  rw [hT] at HT
  rw [hM] at c3
  have HFIN : Hid (∀ w3, Below w.heap.size w w3 → ClkM (w3.setCell ⟨c, 3, none⟩ (.int .i64 (max M T))) F c B (folC k) ∧ Kept F w (w3.setCell ⟨c, 3, none⟩ (.int .i64 (max M T)))) := Lib.hid (fun w3 h3 => by
    have := (h.below h3).setMark
    rw [hM, hT] at this
    exact ⟨this, ((Kept.refl F w).of_below h3 (fun i hi _ => hi)).set _ _ (.inr h.fc)⟩)
  have HC3 : Hid (∀ w3, Below w.heap.size w w3 → w3.cell? ⟨c, 3, none⟩ = some (.int .i64 M) ∧ w3.frozen? ⟨c, 3, none⟩ = false) := Lib.hid (fun w3 h3 => by
    have := (h.below h3).self.c 3 rfl
    rw [hM] at this
    exact ⟨this, (h.below h3).self.f 3⟩)
  have f3 := h.self.f 3
  clear h hT hM
  go_enter Try.func18, Try.ntmps18
  go_region_with ((go_at_call 24; refine (HT.out _ HH.out.drew).mono ?_; rintro e w3 ⟨rfl, hb3⟩; have hB3 := Below.trans ((Below.refl w.heap.size w).drew) hb3; obtain ⟨c31, f31⟩ := HC3.out w3 hB3; have HB3 := Lib.hid hB3; clear hb3 hB3))
  all_goals (go_wp2_with fail)
  all_goals go_end0
  all_goals exact ⟨rfl, (HFIN.out _ HB3.out).1, (HFIN.out _ HB3.out).2⟩
end Go.Proofs.Ytmoooeadiminbaa
