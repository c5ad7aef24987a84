/- The small calls of a disk: a new one, what may be asked, a step. -/
import Derived.Test.YtfkefppabjbbdaaD
namespace Go.Proofs.Ytfkefppabjbbdaa
open Go.RowKit Go.Maps
set_option linter.unusedVariables false
set_option maxRecDepth 100000 in
theorem new_any (w : World) (F : Nat → Prop) (hF : ∀ i, w.heap.size ≤ i → F i) : Calls Try.prog 16 #[] w fun e w' => ∃ d B, e = .returned (.pointer (some ⟨d, 0, none⟩)) ∧ DiskM w' F d B [] 0 (-1) false ∧ Below w.heap.size w w' := by
  have hmm := @run_makeMap Try.prog
  go_enter Try.func16, Try.ntmps16
  go_wp2
  go_ret
  refine ⟨w.heap.size + 1, w.heap.size, rfl, ?_, ((Below.refl _ w).alloc (Nat.le_refl _) _).alloc (by simp) _⟩
  refine ⟨?_, (World.ownsMap_made w Try.prog 9 relem).alloc _, by simp, List.Pairwise.nil, hF _ (by simp), hF _ (by simp), List.Pairwise.nil⟩
  exact Blk.at (by simp) [_, _, _, _] 74
def askN (down : Bool) (n : List UInt8) : Nat := if down then 8 else if n.length < 1 ∨ 64 < n.length then 1 else 0
theorem empty_eq (n : List UInt8) : ((bs n).toList == []) = decide (n.length = 0) := by
  rw [bs_toList]
  cases n <;> rfl
set_option maxRecDepth 100000 in
theorem ask_any (w : World) (d : Nat) (down : Bool) (n : List UInt8) (hc : w.cell? ⟨d, 3, none⟩ = some (.bool down)) :
    Calls Try.prog 44 #[.pointer (some ⟨d, 0, none⟩), .string (bs n)] w fun e w' => e = .returned (.int .i64 (askN down n)) ∧ w' = w := by
  have h1 := empty_eq n
  have h2 := bs_size n
  obtain ⟨X, hX⟩ : ∃ X, bs n = X := ⟨_, rfl⟩
  obtain ⟨N, hN⟩ : ∃ N, n.length = N := ⟨_, rfl⟩
  rw [hX, hN] at h1 h2
  rw [hX]
  have hr : askN down n = if down then 8 else if N < 1 ∨ 64 < N then 1 else 0 := by unfold askN; rw [hN]
  rw [hr]
  clear hX hN hr
  cases down
  · by_cases h0 : N = 0
    · have g1 : decide (N = 0) = true := by simp [h0]
      go_enter Try.func44, Try.ntmps44
      go_wp2
      go_ret
      exact ⟨by simp, rfl⟩
    · have g1 : decide (N = 0) = false := by simp [h0]
      rw [g1] at h1
      by_cases h64 : 64 < N
      · have g2 : decide ((64 : Int) < (N : Int)) = true := by simp; omega
        go_enter Try.func44, Try.ntmps44
        go_wp2
        go_ret
        exact ⟨rfl, rfl⟩
      · have g2 : decide ((64 : Int) < (N : Int)) = false := by simp; omega
        go_enter Try.func44, Try.ntmps44
        go_wp2
        go_ret
        exact ⟨rfl, rfl⟩
  · go_enter Try.func44, Try.ntmps44
    go_wp2
    go_ret
    exact ⟨rfl, rfl⟩
theorem ptr_of (b : Nat) : Value.pointer (some ⟨b, 0, none⟩) = .pointer (some ⟨b, 0, none⟩) := rfl
set_option maxRecDepth 100000 in
theorem find_ask {w : World} {F : Nat → Prop} {d B : Nat} {E : List Ent} {u fuse : Int} {down : Bool} (h : DiskM w F d B E u fuse down) (n : List UInt8) (ha : askN down n ≠ 0) :
    Calls Try.prog 32 #[.pointer (some ⟨d, 0, none⟩), .string (bs n)] w fun e w' => e = .returned (.tuple #[.pointer none, .int .i64 (askN down n)]) ∧ w' = w := by
  have hs := Lib.hid (ask_any w d down n (h.self.c 3 rfl))
  clear h
  obtain ⟨a, hA⟩ : ∃ a, askN down n = a := ⟨_, rfl⟩
  rw [hA] at hs ha ⊢
  have h0 : ((a : Int) == 0) = false := by simp; omega
  clear hA ha
  go_enter Try.func32, Try.ntmps32
  go_wp2_with fail
  refine (hs.out).mono ?_
  rintro e w1 ⟨rfl, rfl⟩
  go_wp2_with fail
  go_ret2
  exact ⟨rfl, rfl⟩
set_option maxRecDepth 100000 in
theorem find_any {w : World} {F : Nat → Prop} {d B : Nat} {E : List Ent} {u fuse : Int} {down : Bool} (h : DiskM w F d B E u fuse down) (n : List UInt8) (ha : askN down n = 0) (hn : n.length ≤ 1000000) :
    Calls Try.prog 32 #[.pointer (some ⟨d, 0, none⟩), .string (bs n)] w fun e w' => e = .returned (match getK Ent.k n E with | some e => .tuple #[.pointer (some ⟨e.blk, 0, none⟩), .int .i64 0] | none => .tuple #[.pointer none, .int .i64 6]) ∧ w' = w := by
  have hs := Lib.hid (ask_any w d down n (h.self.c 3 rfl))
  have c0 := h.self.c 0 rfl
  have hl := h.map.look (n := n) (by unfold maxLen; omega)
  clear h
  rw [ha] at hs
  cases hg : getK Ent.k n E with
  | none =>
    rw [hg] at hl
    simp only [Option.isSome_none] at hl
    clear hg ha
    go_enter Try.func32, Try.ntmps32
    go_wp2_with fail
    refine (hs.out).mono ?_
    rintro e w1 ⟨rfl, rfl⟩
    go_wp2_with fail
    go_ret2
    exact ⟨rfl, rfl⟩
  | some x =>
    rw [hg] at hl
    simp only [Option.isSome_some] at hl
    clear hg ha
    go_enter Try.func32, Try.ntmps32
    go_wp2_with fail
    refine (hs.out).mono ?_
    rintro e w1 ⟨rfl, rfl⟩
    go_wp2_with fail
    go_ret2
    exact ⟨rfl, rfl⟩
set_option maxRecDepth 100000 in
theorem hold_ask {w : World} {F : Nat → Prop} {d B : Nat} {E : List Ent} {u fuse : Int} {down : Bool} (h : DiskM w F d B E u fuse down) (n : List UInt8) (more : Int) (ha : askN down n ≠ 0) :
    Calls Try.prog 39 #[.pointer (some ⟨d, 0, none⟩), .string (bs n), .int .i64 more] w fun e w' => e = .returned (.int .i64 (askN down n)) ∧ w' = w := by
  have hs := Lib.hid (ask_any w d down n (h.self.c 3 rfl))
  clear h
  obtain ⟨a, hA⟩ : ∃ a, askN down n = a := ⟨_, rfl⟩
  rw [hA] at hs ha ⊢
  have h0 : ((a : Int) == 0) = false := by simp; omega
  clear hA ha
  go_enter Try.func39, Try.ntmps39
  go_wp2_with fail
  refine (hs.out).mono ?_
  rintro e w1 ⟨rfl, rfl⟩
  go_wp2_with fail
  go_ret
  exact ⟨rfl, rfl⟩
set_option maxRecDepth 100000 in
theorem hold_any {w : World} {F : Nat → Prop} {d B : Nat} {E : List Ent} {u : Nat} {fuse : Int} {down : Bool} (h : DiskM w F d B E u fuse down) (hu : u ≤ 4194304) (n : List UInt8) (more : Int) (ha : askN down n = 0) (hn : n.length ≤ 1000000) :
    Calls Try.prog 39 #[.pointer (some ⟨d, 0, none⟩), .string (bs n), .int .i64 more] w fun e w' => e = .returned (.int .i64 (if more > 4194304 - (u : Int) ∨ ((getK Ent.k n E).isNone = true ∧ E.length = 4096) then 5 else 0 : Nat)) ∧ w' = w := by
  have hs := Lib.hid (ask_any w d down n (h.self.c 3 rfl))
  have c0 := h.self.c 0 rfl
  have c1 := h.self.c 1 rfl
  have hl := h.map.look (n := n) (by unfold maxLen; omega)
  have hlen : ∀ ty, (Builtin.len_ #[72] ty #[.map (some B)]).run Try.prog w = .ok (.int .i64 E.length) w := fun ty => by
    have := World.ownsMap.len h.map Try.underlying72 ty
    rwa [size_mapOf] at this
  clear h
  rw [ha] at hs
  obtain ⟨L, hL⟩ : ∃ L, E.length = L := ⟨_, rfl⟩
  rw [hL] at hlen ⊢
  have hl2 : ∃ p, (Instr.lookup 72 (.map (some B)) (.string (bs n)) true).run Try.prog w = .ok (.tuple #[.pointer p, .bool (getK Ent.k n E).isSome]) w := by
    rw [hl]; cases getK Ent.k n E <;> exact ⟨_, rfl⟩
  obtain ⟨p, hl3⟩ := hl2
  clear hl
  obtain ⟨G, hG⟩ : ∃ G, (getK Ent.k n E).isSome = G := ⟨_, rfl⟩
  have hN : (getK Ent.k n E).isNone = !G := by rw [← hG]; cases getK Ent.k n E <;> rfl
  rw [hG] at hl3
  rw [hN]
  clear hN hG hL ha
  by_cases hm : more > 4194304 - (u : Int)
  · have g1 : decide (4194304 - (u : Int) < more) = true := by simpa using hm
    rw [if_pos (.inl hm)]
    go_enter Try.func39, Try.ntmps39
    go_wp2_with fail
    refine (hs.out).mono ?_
    rintro e w1 ⟨rfl, rfl⟩
    go_wp2_with fail
    go_ret
    exact ⟨rfl, rfl⟩
  · have g1 : decide (4194304 - (u : Int) < more) = false := by simpa using hm
    cases G
    · by_cases hL : L = 4096
      · have g2 : ((L : Int) == 4096) = true := by simp; omega
        rw [if_pos (.inr ⟨rfl, hL⟩)]
        clear hL
        go_enter Try.func39, Try.ntmps39
        go_wp2_with fail
        refine (hs.out).mono ?_
        rintro e w1 ⟨rfl, rfl⟩
        go_wp2_with fail
        go_ret
        exact ⟨rfl, rfl⟩
      · have g2 : ((L : Int) == 4096) = false := by simp; omega
        rw [if_neg (by rintro (h | ⟨_, h⟩); exact hm h; exact hL h)]
        clear hL
        go_enter Try.func39, Try.ntmps39
        go_wp2_with fail
        refine (hs.out).mono ?_
        rintro e w1 ⟨rfl, rfl⟩
        go_wp2_with fail
        go_ret
        exact ⟨rfl, rfl⟩
    · rw [if_neg (by rintro (h | ⟨h, _⟩); exact hm h; cases h)]
      go_enter Try.func39, Try.ntmps39
      go_wp2_with fail
      refine (hs.out).mono ?_
      rintro e w1 ⟨rfl, rfl⟩
      go_wp2_with fail
      go_ret
      exact ⟨rfl, rfl⟩
end Go.Proofs.Ytfkefppabjbbdaa
