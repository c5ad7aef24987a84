/- The program's Append. -/
import Derived.Test.YtfkefppabjbbdaaG
namespace Go.Proofs.Ytfkefppabjbbdaa
open Go.RowKit Go.Maps
set_option linter.unusedVariables false
/-- A disk in memory that is this disk. -/
def DiskAt (w : World) (F : Nat → Prop) (d : Nat) (k : Dk) : Prop := ∃ B E, DiskM w F d B E (tot k.L : Nat) k.fuse k.down ∧ E.map Ent.f = k.L ∧ Ok k
theorem DiskAt.ok {w : World} {F : Nat → Prop} {d : Nat} {k : Dk} (h : DiskAt w F d k) : Ok k := by obtain ⟨_, _, _, _, ho⟩ := h; exact ho
theorem get_E {E : List Ent} {k : Dk} (hE : E.map Ent.f = k.L) (n : List UInt8) : get n k.L = (getK Ent.k n E).map Ent.f := by
  rw [← hE]
  exact (getK_map (k := Ent.k) (k' := Fl.name) (g := Ent.f) (fun _ => rfl) n E).symm
theorem len_E {E : List Ent} {k : Dk} (hE : E.map Ent.f = k.L) : k.L.length = E.length := by rw [← hE, List.length_map]
theorem ask_E (k : Dk) (n : List UInt8) : ask k n = askN k.down n := rfl
theorem hold_dk {w : World} {F : Nat → Prop} {d : Nat} {k : Dk} (h : DiskAt w F d k) (n : List UInt8) (hn : n.length ≤ 1000000) (more : Int) :
    Calls Try.prog 39 #[.pointer (some ⟨d, 0, none⟩), .string (bs n), .int .i64 more] w fun e w' => e = .returned (.int .i64 (mayHold k n more : Nat)) ∧ w' = w := by
  obtain ⟨B, E, hm, hE, hok⟩ := h
  unfold mayHold
  by_cases ha : ask k n = 0
  · rw [if_neg (by simpa using ha)]
    refine (hold_any hm hok.tot n more ha hn).mono ?_
    rintro e w' ⟨rfl, rfl⟩
    refine ⟨?_, rfl⟩
    rw [get_E hE, len_E hE]
    simp
  · rw [if_pos ha]
    exact hold_ask hm n more ha
theorem ask_good {down : Bool} {n : List UInt8} (h : askN down n = 0) : down = false ∧ 1 ≤ n.length ∧ n.length ≤ 64 := by
  unfold askN at h
  cases down
  · by_cases h1 : n.length < 1 ∨ 64 < n.length
    · rw [if_neg (by simp), if_pos h1] at h; cases h
    · refine ⟨rfl, by omega, by omega⟩
  · simp at h
theorem hold_good {k : Dk} {n : List UInt8} {more : Int} (h : mayHold k n more = 0) : askN k.down n = 0 ∧ more ≤ 4194304 - (tot k.L : Int) ∧ (get n k.L = none → k.L.length ≠ 4096) := by
  unfold mayHold at h
  by_cases ha : ask k n = 0
  · rw [if_neg (by simpa using ha)] at h
    split at h
    · cases h
    · rename_i h1
      refine ⟨ha, by omega, fun h2 h3 => h1 (.inr ⟨by rw [h2]; rfl, h3⟩)⟩
  · rw [if_pos ha] at h; exact absurd h ha
theorem wpList_append_loc {ops : Array Oper} {rest : List Oper} {o : Oper} {a : Act} {Q : Exit → Act → World → Prop} {w : World} (hgd : o.guard = none) (s x : Operand)
    (ho : o.op = .call { callee := .builtin .append, args := #[s, x], argTypes := #[31, 31] }) (v : Value) (l : List UInt8) (hs : a.eval s = v) (hown : OwnB w 0 v l) (B : Nat) (xv : Value) (m : List UInt8) (hx : a.eval x = xv) (hsn : Seen w B xv m)
    (hlen : l.length + m.length ≤ 2000000000)
    (h : ∀ v' w', Hid (OwnB w' 0 v' (l ++ m)) → Hid (w.grownBy w' v.ownBlock) → Hid (∀ g, v'.ownBlock = some g → v.ownBlock = some g ∨ w.heap.size ≤ g) → wpList Try.prog ops Q rest (a.put o.dst v') w') : wpList Try.prog ops Q (o :: rest) a w := by
  obtain ⟨i0, hi, hz0, hz1, hz2⟩ := info_parts info5
  rcases hsn with ⟨rfl, rfl⟩ | ⟨ad, cap, rfl, hc, hg, hh⟩
  · refine wpList_append_own_none hgd s x 31 ho 0 5 i0 1 Try.underlying31 hi v l.length (u8s l) hs hown hx ?_
    exact h v w (by rw [List.append_nil]; exact hown) (grown_refl w _) (fun g hg => .inl hg)
  · refine wpList_append_own_at _ hgd s x 31 ho 0 5 i0 (.int .u8 0) 1 1 Try.underlying31 hi hz0 hz1 hz2 rfl (by decide) v l.length (u8s l) hs hown ad m.length cap (u8s m) hx (by rw [u8s_len]; omega) (fun j u hu => ?_) (u8s_one m) (by unfold maxLen; omega) (by omega) (Nat.zero_le _) (fun v' w' h1 h2 _ h3 => ?_)
    · obtain ⟨hj, rfl⟩ := u8s_of hu
      exact hh j hj
    · refine h v' w' ?_ h2 (fun g hg => ?_)
      · unfold Hid OwnB
        rw [List.length_append, u8s_app]
        exact h1
      · rcases h3 with h3 | h3
        · exact .inl (by rw [← h3]; exact hg)
        · rw [h3] at hg; cases hg; exact .inr (Nat.le_refl _)
theorem burn_E (k : Dk) : (burn k).fuse = burnF k.fuse ∧ (burn k).down = burnB k.fuse k.down ∧ (burn k).L = k.L := by
  unfold burn burnF burnB
  by_cases h1 : k.fuse = -1
  · rw [if_pos h1, if_pos h1, if_neg (by rw [h1]; decide)]; exact ⟨h1, rfl, rfl⟩
  · rw [if_neg h1, if_neg h1]
    by_cases h0 : k.fuse = 0
    · rw [if_pos h0, if_pos h0, if_pos h0]; exact ⟨h0, rfl, rfl⟩
    · rw [if_neg h0, if_neg h0, if_neg h0]; exact ⟨rfl, rfl, rfl⟩
theorem ok_burn {k : Dk} (h : Ok k) : Ok (burn k) := by
  obtain ⟨h1, h2, h3⟩ := burn_E k
  refine ⟨by rw [h3]; exact h.sorted, by rw [h3]; exact h.names, by rw [h3]; exact h.lasts, by rw [h3]; exact h.tot, by rw [h3]; exact h.len, ?_, ?_⟩
  · rw [h1]; unfold burnF
    have := h.fuse
    split
    · omega
    · split <;> omega
  · rw [h1]; unfold burnF
    have := h.top
    split
    · omega
    · split <;> omega
/-- A step, at the end. -/
theorem step_dk {w : World} {F : Nat → Prop} {d B : Nat} {E : List Ent} {u : Int} {k : Dk} (h : DiskM w F d B E u k.fuse k.down) (hE : E.map Ent.f = k.L) (hu : u = (tot k.L : Nat)) (hok : Ok k) :
    Calls Try.prog 40 #[.pointer (some ⟨d, 0, none⟩)] w fun e w' => e = .returned (.int .i64 (burnE k.fuse : Nat)) ∧ DiskAt w' F d (burn k) ∧ w.grownBy w' (some d) := by
  refine (step_any h hok.fuse hok.top).mono ?_
  rintro e w' ⟨rfl, hm, hg⟩
  obtain ⟨h1, h2, h3⟩ := burn_E k
  refine ⟨rfl, ⟨B, E, ?_, by rw [h3]; exact hE, ok_burn hok⟩, hg⟩
  rw [h1, h2, h3, ← hu]
  exact hm
theorem old_some {n : List UInt8} {L : List Fl} {f : Fl} (h : get n L = some f) : old n L = f := by unfold old; rw [h]; rfl
theorem old_none {n : List UInt8} {L : List Fl} (h : get n L = none) : old n L = ⟨n, [], 0, false⟩ := by unfold old; rw [h]; rfl
theorem ok_ins {k : Dk} (h : Ok k) {f : Fl} (h1 : 1 ≤ f.name.length) (h2 : f.name.length ≤ 64) (h3 : f.lasts ≤ f.s.length) (h4 : tot (ins f k.L) ≤ 4194304) (h5 : get f.name k.L = none → k.L.length ≠ 4096) : Ok (withL k (ins f k.L)) := by
  refine ⟨sorted_insK h.sorted, fun g hg => ?_, fun g hg => ?_, h4, ?_, h.fuse, h.top⟩
  · rcases (mem_insK h.sorted).1 hg with rfl | ⟨hg, _⟩
    · exact ⟨h1, h2⟩
    · exact h.names g hg
  · rcases (mem_insK h.sorted).1 hg with rfl | ⟨hg, _⟩
    · exact h3
    · exact h.lasts g hg
  · show (ins f k.L).length ≤ 4096
    cases hg : get f.name k.L with
    | none =>
      have := (insK_new (getK_none hg)).length_eq
      have h6 := h5 hg
      have h7 := h.len
      simp only [List.length_cons] at this
      show (insK Fl.name f k.L).length ≤ 4096
      omega
    | some e =>
      obtain ⟨he, hk⟩ := getK_some hg
      have := insK_old_len h.sorted he hk
      have h7 := h.len
      show (insK Fl.name f k.L).length ≤ 4096
      omega
end Go.Proofs.Ytfkefppabjbbdaa
