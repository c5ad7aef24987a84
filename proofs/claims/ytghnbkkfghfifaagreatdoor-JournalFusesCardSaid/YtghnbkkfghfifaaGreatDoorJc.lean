/- The small calls of a journal: names of files, what was told, lengths. -/
import Derived.Test.YtghnbkkfghfifaaGreatDoorJm
import Derived.Deep.RegionHeld3
import Derived.Lib.QuietBelow
import Derived.Lib.AppendIntMem
import Derived.BigRegion
import Derived.Deep.DeepCutAuto
namespace Go.Proofs.YtghnbkkfghfifaaGreatDoor
open Go.RowKit Go.Maps D
set_option linter.unusedVariables false
theorem itoa_any (n : Nat) (hn : n ≤ 9223372036854775807) (w : World) (hL : E.Lay w) :
    Calls Tryz.prog 108 #[.int .i64 n] w fun e w' => e = .returned (.string (bs (Lib.decDigits n))) ∧ Below w.heap.size w w' := by
  refine (Tryz.strconv_Itoa n (by omega) (by omega) w hL.tab).mono ?_
  rintro e w' ⟨rfl, k, os, rfl⟩
  refine ⟨?_, Lib.below_grow _ _ (Nat.le_refl _) _ _⟩
  have : Lib.itoa (n : Int) = Lib.decDigits n := by unfold Lib.itoa; rw [if_neg (by omega)]; rfl
  rw [this]; rfl
theorem bs_app (a b : List UInt8) : bs a ++ bs b = bs (a ++ b) := ByteArray.mk_append_mk a b
theorem name_eq (n : List UInt8) (k : Nat) : bs n ++ ⟨#[46]⟩ ++ bs (Lib.decDigits k) = bs (fileN n k) := by
  have e : (⟨#[46]⟩ : ByteArray) = bs [46] := rfl
  rw [e, bs_app, bs_app]
  unfold fileN
  simp
section
variable {w : World} {F : Nat → Prop} {d l : Nat} {n : List UInt8} {per : Nat} {v : Value} {j : Jn Ev}
set_option maxRecDepth 100000 in
theorem told_any (h : LogM w F d l n per v j) (e : Nat) :
    Calls Tryz.prog 57 #[.pointer (some ⟨l, 0, none⟩), .int .i64 (e : Int)] w fun x w' => x = .returned (.int .i64 (e : Int)) ∧ LogM w' F d l n per v ⟨j.dk, j.files, j.es, j.lasts, e⟩ ∧ Kept F w w' := by
  have c6 := h.self.c 6 rfl
  have f6 := h.self.f 6
  have HS := Lib.hid (h.stuck e)
  clear h
  go_enter Tryz.func57, Tryz.ntmps57
  go_wp2
  go_ret
  exact ⟨rfl, HS.out.1, HS.out.2⟩
set_option maxRecDepth 100000 in
theorem len_any (h : LogM w F d l n per v j) :
    Calls Tryz.prog 31 #[.pointer (some ⟨l, 0, none⟩)] w fun e w' => e = .returned (.int .i64 (j.es.length : Int)) ∧ w' = w := by
  have c4 := h.self.c 4 rfl
  obtain ⟨q, cap, rfl⟩ := h.row.len
  clear h
  go_enter Tryz.func31, Tryz.ntmps31
  go_wp2
  go_ret
  exact ⟨rfl, rfl⟩
set_option maxRecDepth 100000 in
theorem lasting_any (h : LogM w F d l n per v j) :
    Calls Tryz.prog 35 #[.pointer (some ⟨l, 0, none⟩)] w fun e w' => e = .returned (.int .i64 (j.lasts : Int)) ∧ w' = w := by
  have c5 := h.self.c 5 rfl
  clear h
  go_enter Tryz.func35, Tryz.ntmps35
  go_wp2
  go_ret
  exact ⟨rfl, rfl⟩
set_option maxRecDepth 100000 in
theorem file_any (h : LogM w F d l n per v j) (k : Nat) (hk : k ≤ 9223372036854775807) :
    Calls Tryz.prog 82 #[.pointer (some ⟨l, 0, none⟩), .int .i64 (k : Int)] w fun e w' => e = .returned (.string (bs (fileN n k))) ∧ Below w.heap.size w w' := by
  have q1 := cell_regrown (h.self.c 1 rfl)
  obtain ⟨D, hD⟩ : ∃ D, bs (Lib.decDigits k) = D := ⟨_, rfl⟩
  have HN : Hid (bs n ++ ⟨#[46]⟩ ++ D = bs (fileN n k)) := Lib.hid (by rw [← hD]; exact name_eq n k)
  have s1 : (bs n).size ≤ 24 := by rw [bs_size]; exact h.name
  have s2 : D.size ≤ 19 := by rw [← hD, bs_size]; exact dec_len 18 k (by omega)
  have s3 : (⟨#[46]⟩ : ByteArray).size = 1 := rfl
  have s4 : (bs n ++ ⟨#[46]⟩).size ≤ 25 := by rw [ByteArray.size_append]; omega
  have cI : ∀ dd os, Calls Tryz.prog 108 #[.int .i64 (k : Int)] (Sort.grow (redrawn w dd) os) fun e w'' => e = .returned (.string D) ∧ ∃ p : Regrown, w'' = Sort.grow (redrawn w p.d) p.os := fun dd os => Calls.regrown_of (by
    rw [← hD]
    exact itoa_any k hk _ (h.below (below_regrown w dd os)).lay)
  clear hD h
  go_enter Tryz.func82, Tryz.ntmps82
  go_wp2_with fail
  refine wp_region_quiet_below (by kernel_rfl) (by kernel_rfl) ?_
  repeat (go_big_quiet_step ((first | with_reducible exact cI _ _)))
  refine wpQuiet_nil ?_
  intro _ hw'
  obtain ⟨⟨dq, osq⟩, hw''⟩ := hw'
  subst hw''
  have bq := below_regrown w dq osq
  go_wp2_with fail
  go_ret
  exact ⟨by rw [HN.out]; rfl, bq⟩
set_option maxRecDepth 100000 in
theorem lastFile_any (h : LogM w F d l n per v j) (hf : 0 < j.files) :
    Calls Tryz.prog 58 #[.pointer (some ⟨l, 0, none⟩)] w fun e w' => e = .returned (.string (bs (lastN n j.files))) ∧ Below w.heap.size w w' := by
  have c3 := h.self.c 3 rfl
  have hz := h.small.2.1
  obtain ⟨k, hk⟩ : ∃ k : Nat, j.files = k + 1 := ⟨j.files - 1, by omega⟩
  have HC := Lib.hid (file_any h k (by omega))
  unfold lastN
  rw [hk] at c3 ⊢
  rw [show k + 1 - 1 = k by omega]
  have e1 : ((k + 1 : Nat) : Int) - 1 = (k : Int) := by omega
  rw [hk] at hz
  clear h hk hf
  go_enter Tryz.func58, Tryz.ntmps58
  go_wp2_with fail
  refine (HC.out).mono ?_
  rintro e w1 ⟨rfl, hb⟩
  go_wp2_with fail
  go_ret
  exact ⟨rfl, hb⟩
end
end Go.Proofs.YtghnbkkfghfifaaGreatDoor
