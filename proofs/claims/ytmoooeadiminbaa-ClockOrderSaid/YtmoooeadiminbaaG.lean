/- A clock's new one, what it tells, its mark, its now. -/
import Derived.Test.YtmoooeadiminbaaE
import Derived.Deep.LoopGhost
import Derived.Deep.CutRange
namespace Go.Proofs.Ytmoooeadiminbaa
open Go.RowKit Go.Maps
set_option linter.unusedVariables false
set_option maxRecDepth 100000 in
theorem new_any (a b : Int) (w : World) (F : Nat → Prop) (hF : ∀ i, w.heap.size ≤ i → F i) : Calls Try.prog 9 #[.int .i64 a, .int .i64 b] w fun e w' => ∃ c B, e = .returned (.pointer (some ⟨c, 0, none⟩)) ∧ w.heap.size ≤ c ∧ ClkM w' F c B (newC a b) ∧ Below w.heap.size w w' := by
  have hmm := @run_makeMap Try.prog
  go_enter Try.func9, Try.ntmps9
  go_wp2_with fail
  refine (near_any _ _).mono ?_
  rintro e w1 ⟨rfl, rfl⟩
  go_wp2_with fail
  refine (near_any _ _).mono ?_
  rintro e w1 ⟨rfl, rfl⟩
  go_wp2_with fail
  go_ret
  refine ⟨w1.heap.size + 1, w1.heap.size, rfl, by omega, ?_, ((Below.refl _ w1).alloc (Nat.le_refl _) _).alloc (by simp) _⟩
  refine ⟨?_, (World.ownsMap_made w1 Try.prog 9 relem).alloc _, hF _ (by simp), hF _ (by simp), ok_new a b⟩
  exact Blk.at (by simp) [_, _, _, _, _] 43
set_option maxRecDepth 100000 in
theorem mark_any {w : World} {F : Nat → Prop} {c B : Nat} {k : Ck} (h : ClkM w F c B k) : Calls Try.prog 10 #[.pointer (some ⟨c, 0, none⟩)] w fun e w' => e = .returned (.int .i64 k.mark) ∧ w' = w := by
  have c3 := h.self.c 3 rfl
  clear h
  go_enter Try.func10, Try.ntmps10
  go_wp2
  go_ret
  exact ⟨rfl, rfl⟩
set_option maxRecDepth 100000 in
theorem now_any {w : World} {F : Nat → Prop} {c B : Nat} {k : Ck} (h : ClkM w F c B k) : Calls Try.prog 11 #[.pointer (some ⟨c, 0, none⟩)] w fun e w' => e = .returned (.int .i64 k.now) ∧ w' = w := by
  have c2 := h.self.c 2 rfl
  clear h
  go_enter Try.func11, Try.ntmps11
  go_wp2
  go_ret
  exact ⟨rfl, rfl⟩
theorem wrap_in {x : Int} (h : -9223372036854775808 ≤ x) (h' : x ≤ 9223372036854775807) : IntKind.i64.wrap x = x := by rw [IntKind.wrap_i64]; omega
set_option maxRecDepth 100000 in
/-- Is a source active? -/
theorem act_any {w : World} {F : Nat → Prop} {c B : Nat} {k : Ck} (h : ClkM w F c B k) (s : Sr) (hs : 0 ≤ s.last ∧ s.last ≤ 1099511627776) :
    Calls Try.prog 23 #[.pointer (some ⟨c, 0, none⟩), .agg #[.int .i64 s.far, .int .i64 s.last]] w fun e w' => e = .returned (.bool (act k s)) ∧ Below w.heap.size w w' := by
  have hb := (Below.refl w.heap.size w).alloc (Nat.le_refl _) (.cells #[.int .i64 s.far, .int .i64 s.last] 46)
  have h' := h.alloc (.cells #[.int .i64 s.far, .int .i64 s.last] 46)
  have c1 := h'.self.c 1 rfl
  have c2 := h'.self.c 2 rfl
  have hn := h.ok.now
  have hlt := h.self.lt
  have HB := Lib.hid hb
  obtain ⟨slack, idle, now, mark, L⟩ := k
  obtain ⟨nm, far, last⟩ := s
  simp only at c1 c2 hn hs HB
  clear h h' hb
  have hw : IntKind.i64.wrap (now - last) = now - last := wrap_in (by omega) (by omega)
  by_cases h0 : idle = 0
  · have g0 : (idle == 0) = true := by simpa using h0
    have e0 : act ⟨slack, idle, now, mark, L⟩ ⟨nm, far, last⟩ = true := by unfold act; simp [h0]
    rw [e0]
    clear e0 h0
    go_enter Try.func23, Try.ntmps23
    go_wp2_with fail
    go_quiet (fail)
    go_wp2_with fail
    go_ret
    exact ⟨rfl, drewN_below HB.out _⟩
  · have g0 : (idle == 0) = false := by simpa using h0
    have e0 : act ⟨slack, idle, now, mark, L⟩ ⟨nm, far, last⟩ = decide (now - last ≤ idle) := by unfold act; simp [h0]
    rw [e0]
    clear e0 h0
    go_enter Try.func23, Try.ntmps23
    go_wp2_with fail
    go_quiet (fail)
    go_wp2_with fail
    go_ret
    exact ⟨rfl, drewN_below HB.out _⟩
end Go.Proofs.Ytmoooeadiminbaa
