/- A disk takes just as many bytes as there may be: the statement's walk. -/
import Derived.Test.YtfkefppabjbbdaaT
namespace Go.Proofs.Ytfkefppabjbbdaa
open Go.RowKit Go.Maps
set_option linter.unusedVariables false
theorem hold_one {Z : List UInt8} {n : List UInt8} (h1 : 1 ≤ n.length) (h2 : n.length ≤ 64) (more : Int) : mayHold (one [102] Z (-1) false) n more = if more > 4194304 - (Z.length : Int) then 5 else 0 := by
  unfold mayHold
  rw [ask_ok rfl h1 h2, if_neg (by simp)]
  have ht : tot (one [102] Z (-1) false).L = Z.length := rfl
  rw [ht]
  by_cases h : more > 4194304 - (Z.length : Int)
  · rw [if_pos (.inl h), if_pos h]
  · rw [if_neg h, if_neg]
    rintro (h' | ⟨_, h'⟩)
    · exact h h'
    · simp [one] at h'
def nm (other : Bool) : List UInt8 := if other then [103] else [102]
theorem full_no {Z b : List UInt8} (other : Bool) (h : (b.length : Int) > 4194304 - (Z.length : Int)) : appendE (one [102] Z (-1) false) (nm other) b = 5 ∧ appendD (one [102] Z (-1) false) (nm other) b = one [102] Z (-1) false := by
  have : mayHold (one [102] Z (-1) false) (nm other) b.length = 5 := by
    rw [hold_one (by cases other <;> decide) (by cases other <;> decide), if_pos h]
  constructor
  · unfold appendE; rw [this]; rfl
  · unfold appendD; rw [this]; rfl
theorem full_yes {Z b : List UInt8} (other : Bool) (h : ¬ (b.length : Int) > 4194304 - (Z.length : Int)) : appendE (one [102] Z (-1) false) (nm other) b = 0 ∧ find (appendD (one [102] Z (-1) false) (nm other) b) [102] = 0 ∧
    readS (appendD (one [102] Z (-1) false) (nm other) b) [102] = if other then Z else Z ++ b := by
  have : mayHold (one [102] Z (-1) false) (nm other) b.length = 0 := by
    rw [hold_one (by cases other <;> decide) (by cases other <;> decide), if_neg h]
  refine ⟨by unfold appendE; rw [this]; rfl, ?_, ?_⟩
  · unfold appendD; rw [this]
    cases other <;> rfl
  · unfold appendD; rw [this]
    cases other <;> rfl
theorem full_yesT {Z b : List UInt8} (h : (b.length : Int) ≤ 4194304 - (Z.length : Int)) : ∃ X : List UInt8, appendE (one [102] Z (-1) false) (nm true) b = 0 ∧ find (appendD (one [102] Z (-1) false) (nm true) b) [102] = 0 ∧ readS (appendD (one [102] Z (-1) false) (nm true) b) [102] = X ∧ X.length = Z.length := by
  obtain ⟨h1, h2, h3⟩ := full_yes (Z := Z) (b := b) true (by omega)
  exact ⟨_, h1, h2, h3, rfl⟩
theorem full_yesF {Z b : List UInt8} (h : (b.length : Int) ≤ 4194304 - (Z.length : Int)) : ∃ X : List UInt8, appendE (one [102] Z (-1) false) (nm false) b = 0 ∧ find (appendD (one [102] Z (-1) false) (nm false) b) [102] = 0 ∧ readS (appendD (one [102] Z (-1) false) (nm false) b) [102] = X ∧ X.length = Z.length + b.length := by
  obtain ⟨h1, h2, h3⟩ := full_yes (Z := Z) (b := b) false (by omega)
  exact ⟨_, h1, h2, h3, List.length_append⟩
theorem full_h {Z b : List UInt8} (h : (b.length : Int) > 4194304 - (Z.length : Int)) : replaceE (one [102] Z (-1) false) [104] b = 5 ∧ replaceD (one [102] Z (-1) false) [104] b = one [102] Z (-1) false := by
  have hg : get [104] (one [102] Z (-1) false).L = none := rfl
  have : mayHold (one [102] Z (-1) false) [104] (moreR (one [102] Z (-1) false) [104] b) = 5 := by
    rw [replace_none hg, hold_one (by decide) (by decide), if_pos h]
  constructor
  · unfold replaceE; rw [this]; rfl
  · unfold replaceD; rw [this]; rfl
theorem full_f {Z b : List UInt8} (hb : b.length ≤ 4194304) : replaceE (one [102] Z (-1) false) [102] b = 0 := by
  have hg := get_one [102] Z (-1) false
  have : mayHold (one [102] Z (-1) false) [102] (moreR (one [102] Z (-1) false) [102] b) = 0 := by
    rw [replace_some hg, hold_one (by decide) (by decide), if_neg]
    show ¬ ((b.length : Int) - (Z.length : Int) > _)
    omega
  unfold replaceE; rw [this]; rfl
theorem find_f (Z : List UInt8) : find (one [102] Z (-1) false) [102] = 0 ∧ readS (one [102] Z (-1) false) [102] = Z := find_one (by decide) (by decide)
theorem made_zero {w w' : World} {base M : Nat} {v : Value} (h : w'.ownsRow base 5 1 v M (madeCells (Value.cells (.int .u8 0)) (M * 1)).toList) : OwnB w' base v (List.replicate M 0) := by
  have e : (madeCells (Value.cells (.int .u8 0)) (M * 1)).toList = u8s (List.replicate M 0) := by
    have : Value.cells (.int .u8 0) = #[.int .u8 0] := rfl
    rw [this, Nat.mul_one, toList_madeCells_one]
    unfold u8s
    rw [List.map_replicate]
    rfl
  rw [e] at h
  unfold OwnB
  rw [List.length_replicate]
  exact h
set_option maxRecDepth 100000 in
theorem full_long (l : Nat) (b : List UInt8) (hb : 255 < b.length) (other : Bool) (w : World) :
    Calls Try.prog 8 #[.int .u8 (l : Int), .string (bs b), .bool other] w fun e w' => e = .returned (.bool true) ∧ Below w.heap.size w w' := by
  have hn := bs_size b
  have g1 : decide ((255 : Int) < (b.length : Int)) = true := by simp; omega
  have ha := Lib.hid (awake_any w)
  go_enter Try.func8, Try.ntmps8
  go_wp2_with fail
  refine (ha.out).mono ?_
  rintro e w1 ⟨rfl, hb⟩
  go_wp2_with fail
  go_ret
  exact ⟨rfl, hb⟩
/-- What both roads begin with. -/
theorem full_start {w w1 : World} {d : Nat} (hd1 : DiskAt w1 (fun i => w.heap.size ≤ i) d newD) (hb1 : Below w.heap.size w w1) {M : Nat} (hM : M ≤ 4194304) : ∃ w2, (Instr.makeSlice 31 (.int .i64 (M : Int)) (.int .i64 (M : Int))).run Try.prog w1 = .ok (.slice (some ⟨w1.heap.size, 0, none⟩) M M) w2 ∧
    ∃ Z : List UInt8, Z.length = M ∧ Calls Try.prog 22 #[.pointer (some ⟨d, 0, none⟩), .string (bs [102]), .slice (some ⟨w1.heap.size, 0, none⟩) M M] w2 fun e w' => e = .returned (.int .i64 ((0 : Nat) : Int)) ∧ DiskAt w' (fun i => w.heap.size ≤ i) d (one [102] Z (-1) false) ∧ Below w.heap.size w w' := by
  obtain ⟨i0, hi, hz0, hz1, hz2⟩ := info_parts info5
  obtain ⟨w2, hrun, hrow, hg⟩ := run_make_full (P := Try.prog) w1 w1.heap.size 31 5 i0 (.int .u8 0) 1 Try.underlying31 hi hz0 hz1 .i64 .i64 M (by rw [hz2]; omega) (by unfold maxLen; omega) (Nat.le_refl _)
  refine ⟨w2, hrun, List.replicate M 0, List.length_replicate, ?_⟩
  have ho := made_zero (w := w1) hrow
  have hd2 : DiskAt w2 (fun i => w.heap.size ≤ i) d newD := hd1.below ⟨hg.os, hg.tape, hg.output, hg.size, fun k hk => hg.block k hk (by simp)⟩
  have hF : ∀ i, w2.heap.size ≤ i → w.heap.size ≤ i := fun i hi => by have := hb1.size; have := hg.size; omega
  refine (replace_any hF hd2 [102] (by decide) _ (List.replicate M 0) (Seen.own ho) (by rw [List.length_replicate]; omega)).mono ?_
  rw [(rep_new (n := [102]) (b := List.replicate M 0) (by decide) (by decide) (by rw [List.length_replicate]; exact hM)).1, (rep_new (n := [102]) (b := List.replicate M 0) (by decide) (by decide) (by rw [List.length_replicate]; exact hM)).2]
  rintro e w' ⟨rfl, hd, hk⟩
  exact ⟨rfl, hd, (hb1.grown hg hb1.size (fun j hj => by cases hj)).trans (hk.below (by have := hb1.size; have := hg.size; omega) (fun i hi => hi))⟩
set_option maxRecDepth 100000 in
theorem full_no_true (l : Nat) (hl : l ≤ 255) (b : List UInt8) (hb : b.length ≤ 255) (w : World) (hc : l < b.length) :
    Calls Try.prog 8 #[.int .u8 (l : Int), .string (bs b), .bool true] w fun e w' => e = .returned (.bool true) ∧ Below w.heap.size w w' := by
  have hn := bs_size b
  have cv := run_conv
  have g1 : decide ((255 : Int) < (b.length : Int)) = false := by simp; omega
  have hnew := Lib.hid (new_dk w (fun i => w.heap.size ≤ i) (fun i hi => hi))
  have haw := Lib.hid awake_any
  go_enter Try.func8, Try.ntmps8
  go_wp2_with fail
  refine (hnew.out).mono ?_
  rintro e w1 ⟨d, rfl, hd1, hb1⟩
  obtain ⟨M, hM⟩ : ∃ M : Nat, M = 4194304 - l := ⟨_, rfl⟩
  obtain ⟨w2, hrun, Z, hZ, hrep⟩ := full_start hd1 hb1 (M := M) (by omega)
  have hMi : (M : Int) = 4194304 - (l : Int) := by omega
  rw [hMi] at hrun
  have HREP := Lib.hid hrep
  have HZ : Hid ((Z.length : Int) = 4194304 - (l : Int)) := Lib.hid (by omega)
  have HM := Lib.hid hMi
  have HC : Hid ((b.length : Int) > 4194304 - (Z.length : Int)) := Lib.hid (by have := HZ.out; omega)
  clear hd1 hb1 hnew hrep hZ hM hMi
  go_wp2_with fail
  refine (HREP.out).mono ?_
  rintro e w3 ⟨rfl, hd3, hb3⟩
  have HD3 := Lib.hid hd3
  have HB3 := Lib.hid hb3
  clear hd3 hb3 hrun
  go_wp2_with fail
  have hF : ∀ i, (w3.alloc (.cells (crow w3 b) 5 (cfr w3 b))).drew.heap.size ≤ i → w.heap.size ≤ i := fun i hi => by have := HB3.out.size; rw [conv_size] at hi; omega
  refine (append_any hF (HD3.out.conv b) (nm true) (by decide) _ b _ (conv_seen w3 b) (Nat.le_refl _) (by omega)).mono ?_
  rw [(full_no true HC.out).1, (full_no true HC.out).2]
  rintro e w4 ⟨rfl, hd4, hk4⟩
  have HD4 := Lib.hid hd4
  have HB4 := Lib.hid (HB3.out.trans ((((Kept.refl (fun i => w.heap.size ≤ i) w3).conv b).trans hk4).below HB3.out.size (fun i hi => hi)))
  clear hd4 hk4 hF
  go_wp2_with fail
  refine (read_any HD4.out [102] (by decide)).mono ?_
  rw [(find_f Z).1, (find_f Z).2]
  rintro e w5 ⟨u5, rfl, hu5, hd5, hb5⟩
  obtain ⟨q5, cap5, rfl⟩ := hu5.len
  have HD5 := Lib.hid hd5
  have HB5 := Lib.hid (HB4.out.trans (hb5.mono HB4.out.size))
  have k1 : decide ((l : Int) < (b.length : Int)) = true := by simp; omega
  have k2 : ((Z.length : Int) == 4194304 - (l : Int)) = true := by have := HZ.out; simp; omega
  clear hu5 hd5 hb5
  go_wp2_with fail
  refine (names_dk HD5.out).mono ?_
  rintro e w6 ⟨q6, cap6, rfl, _, hd6, hb6⟩
  have HD6 := Lib.hid hd6
  have HB6 := Lib.hid (HB5.out.trans (hb6.mono HB5.out.size))
  have hone : (one [102] Z (-1) false).L.length = 1 := rfl
  rw [hone]
  clear hd6 hb6 hone
  go_wp2_with fail
  have hF6 : ∀ i, (w6.alloc (.cells (crow w6 b) 5 (cfr w6 b))).drew.heap.size ≤ i → w.heap.size ≤ i := fun i hi => by have := HB6.out.size; rw [conv_size] at hi; omega
  refine (replace_any hF6 (HD6.out.conv b) [104] (by decide) _ b (conv_seen w6 b) (by omega)).mono ?_
  rw [(full_h HC.out).1, (full_h HC.out).2]
  rintro e w7 ⟨rfl, hd7, hk7⟩
  have HD7 := Lib.hid hd7
  have HB7 := Lib.hid (HB6.out.trans ((((Kept.refl (fun i => w.heap.size ≤ i) w6).conv b).trans hk7).below HB6.out.size (fun i hi => hi)))
  clear hd7 hk7 hF6
  go_wp2_with fail
  have hF7 : ∀ i, (w7.alloc (.cells (crow w7 b) 5 (cfr w7 b))).drew.heap.size ≤ i → w.heap.size ≤ i := fun i hi => by have := HB7.out.size; rw [conv_size] at hi; omega
  refine (replace_any hF7 (HD7.out.conv b) [102] (by decide) _ b (conv_seen w7 b) (by omega)).mono ?_
  rw [full_f (Z := Z) (b := b) (by omega)]
  rintro e w8 ⟨rfl, hd8, hk8⟩
  have HB8 := Lib.hid (HB7.out.trans ((((Kept.refl (fun i => w.heap.size ≤ i) w7).conv b).trans hk8).below HB7.out.size (fun i hi => hi)))
  clear hd8 hk8 hF7
  go_wp2_with fail
  refine (haw.out _).mono ?_
  rintro e w9 ⟨rfl, hb9⟩
  have HB9 := Lib.hid (HB8.out.trans (hb9.mono HB8.out.size))
  clear hb9
  go_wp2_with fail
  go_ret
  exact ⟨rfl, HB9.out⟩
set_option maxRecDepth 100000 in
theorem full_yes_true (l : Nat) (hl : l ≤ 255) (b : List UInt8) (hb : b.length ≤ 255) (w : World) (hc : b.length ≤ l) :
    Calls Try.prog 8 #[.int .u8 (l : Int), .string (bs b), .bool true] w fun e w' => e = .returned (.bool true) ∧ Below w.heap.size w w' := by
  have hn := bs_size b
  have cv := run_conv
  have g1 : decide ((255 : Int) < (b.length : Int)) = false := by simp; omega
  have hnew := Lib.hid (new_dk w (fun i => w.heap.size ≤ i) (fun i hi => hi))
  have haw := Lib.hid awake_any
  go_enter Try.func8, Try.ntmps8
  go_wp2_with fail
  refine (hnew.out).mono ?_
  rintro e w1 ⟨d, rfl, hd1, hb1⟩
  obtain ⟨M, hM⟩ : ∃ M : Nat, M = 4194304 - l := ⟨_, rfl⟩
  obtain ⟨w2, hrun, Z, hZ, hrep⟩ := full_start hd1 hb1 (M := M) (by omega)
  have hMi : (M : Int) = 4194304 - (l : Int) := by omega
  rw [hMi] at hrun
  have HREP := Lib.hid hrep
  have HZ : Hid ((Z.length : Int) = 4194304 - (l : Int)) := Lib.hid (by omega)
  have HM := Lib.hid hMi
  have HC : Hid ((b.length : Int) ≤ 4194304 - (Z.length : Int)) := Lib.hid (by have := HZ.out; omega)
  clear hd1 hb1 hnew hrep hZ hM hMi
  go_wp2_with fail
  refine (HREP.out).mono ?_
  rintro e w3 ⟨rfl, hd3, hb3⟩
  have HD3 := Lib.hid hd3
  have HB3 := Lib.hid hb3
  clear hd3 hb3 hrun
  go_wp2_with fail
  have hF : ∀ i, (w3.alloc (.cells (crow w3 b) 5 (cfr w3 b))).drew.heap.size ≤ i → w.heap.size ≤ i := fun i hi => by have := HB3.out.size; rw [conv_size] at hi; omega
  refine (append_any hF (HD3.out.conv b) (nm true) (by decide) _ b _ (conv_seen w3 b) (Nat.le_refl _) (by omega)).mono ?_
  obtain ⟨X, hf1, hf2, hf3, hXl⟩ := full_yesT HC.out
  have HXL := Lib.hid hXl
  rw [hf1]
  obtain ⟨K2, hK2⟩ : ∃ K2, appendD (one [102] Z (-1) false) (nm true) b = K2 := ⟨_, rfl⟩
  rw [hK2] at hf2 hf3
  rw [hK2]
  have HF2 := Lib.hid hf2
  have HF3 := Lib.hid hf3
  clear hf1 hf2 hf3 hK2 hXl
  rintro e w4 ⟨rfl, hd4, hk4⟩
  have HD4 := Lib.hid hd4
  have HB4 := Lib.hid (HB3.out.trans ((((Kept.refl (fun i => w.heap.size ≤ i) w3).conv b).trans hk4).below HB3.out.size (fun i hi => hi)))
  clear hd4 hk4 hF
  go_wp2_with fail
  refine (read_any HD4.out [102] (by decide)).mono ?_
  rw [HF2.out, HF3.out]
  rintro e w5 ⟨u5, rfl, hu5, hd5, hb5⟩
  obtain ⟨q5, cap5, hu5'⟩ := hu5.len
  have HB5 := Lib.hid (HB4.out.trans (hb5.mono HB4.out.size))
  have k1 : decide ((l : Int) < (b.length : Int)) = false := by simp; omega
  obtain ⟨W, hW⟩ : ∃ W, X.length = W := ⟨_, rfl⟩
  rw [hW] at hu5'
  subst hu5'
  have k2 : ((W : Int) == 4194304 - (l : Int)) = true := by
    have h1 := HZ.out
    have h2 := HXL.out
    simp; omega
  clear hu5 hd5 hb5 hW
  go_wp2_with fail
  refine (haw.out _).mono ?_
  rintro e w9 ⟨rfl, hb9⟩
  have HB9 := Lib.hid (HB5.out.trans (hb9.mono HB5.out.size))
  clear hb9
  go_wp2_with fail
  go_ret
  exact ⟨rfl, HB9.out⟩
set_option maxRecDepth 100000 in
theorem full_no_false (l : Nat) (hl : l ≤ 255) (b : List UInt8) (hb : b.length ≤ 255) (w : World) (hc : l < b.length) :
    Calls Try.prog 8 #[.int .u8 (l : Int), .string (bs b), .bool false] w fun e w' => e = .returned (.bool true) ∧ Below w.heap.size w w' := by
  have hn := bs_size b
  have cv := run_conv
  have g1 : decide ((255 : Int) < (b.length : Int)) = false := by simp; omega
  have hnew := Lib.hid (new_dk w (fun i => w.heap.size ≤ i) (fun i hi => hi))
  have haw := Lib.hid awake_any
  go_enter Try.func8, Try.ntmps8
  go_wp2_with fail
  refine (hnew.out).mono ?_
  rintro e w1 ⟨d, rfl, hd1, hb1⟩
  obtain ⟨M, hM⟩ : ∃ M : Nat, M = 4194304 - l := ⟨_, rfl⟩
  obtain ⟨w2, hrun, Z, hZ, hrep⟩ := full_start hd1 hb1 (M := M) (by omega)
  have hMi : (M : Int) = 4194304 - (l : Int) := by omega
  rw [hMi] at hrun
  have HREP := Lib.hid hrep
  have HZ : Hid ((Z.length : Int) = 4194304 - (l : Int)) := Lib.hid (by omega)
  have HM := Lib.hid hMi
  have HC : Hid ((b.length : Int) > 4194304 - (Z.length : Int)) := Lib.hid (by have := HZ.out; omega)
  clear hd1 hb1 hnew hrep hZ hM hMi
  go_wp2_with fail
  refine (HREP.out).mono ?_
  rintro e w3 ⟨rfl, hd3, hb3⟩
  have HD3 := Lib.hid hd3
  have HB3 := Lib.hid hb3
  clear hd3 hb3 hrun
  go_wp2_with fail
  have hF : ∀ i, (w3.alloc (.cells (crow w3 b) 5 (cfr w3 b))).drew.heap.size ≤ i → w.heap.size ≤ i := fun i hi => by have := HB3.out.size; rw [conv_size] at hi; omega
  refine (append_any hF (HD3.out.conv b) (nm false) (by decide) _ b _ (conv_seen w3 b) (Nat.le_refl _) (by omega)).mono ?_
  rw [(full_no false HC.out).1, (full_no false HC.out).2]
  rintro e w4 ⟨rfl, hd4, hk4⟩
  have HD4 := Lib.hid hd4
  have HB4 := Lib.hid (HB3.out.trans ((((Kept.refl (fun i => w.heap.size ≤ i) w3).conv b).trans hk4).below HB3.out.size (fun i hi => hi)))
  clear hd4 hk4 hF
  go_wp2_with fail
  refine (read_any HD4.out [102] (by decide)).mono ?_
  rw [(find_f Z).1, (find_f Z).2]
  rintro e w5 ⟨u5, rfl, hu5, hd5, hb5⟩
  obtain ⟨q5, cap5, rfl⟩ := hu5.len
  have HD5 := Lib.hid hd5
  have HB5 := Lib.hid (HB4.out.trans (hb5.mono HB4.out.size))
  have k1 : decide ((l : Int) < (b.length : Int)) = true := by simp; omega
  have k2 : ((Z.length : Int) == 4194304 - (l : Int)) = true := by have := HZ.out; simp; omega
  clear hu5 hd5 hb5
  go_wp2_with fail
  refine (names_dk HD5.out).mono ?_
  rintro e w6 ⟨q6, cap6, rfl, _, hd6, hb6⟩
  have HD6 := Lib.hid hd6
  have HB6 := Lib.hid (HB5.out.trans (hb6.mono HB5.out.size))
  have hone : (one [102] Z (-1) false).L.length = 1 := rfl
  rw [hone]
  clear hd6 hb6 hone
  go_wp2_with fail
  have hF6 : ∀ i, (w6.alloc (.cells (crow w6 b) 5 (cfr w6 b))).drew.heap.size ≤ i → w.heap.size ≤ i := fun i hi => by have := HB6.out.size; rw [conv_size] at hi; omega
  refine (replace_any hF6 (HD6.out.conv b) [104] (by decide) _ b (conv_seen w6 b) (by omega)).mono ?_
  rw [(full_h HC.out).1, (full_h HC.out).2]
  rintro e w7 ⟨rfl, hd7, hk7⟩
  have HD7 := Lib.hid hd7
  have HB7 := Lib.hid (HB6.out.trans ((((Kept.refl (fun i => w.heap.size ≤ i) w6).conv b).trans hk7).below HB6.out.size (fun i hi => hi)))
  clear hd7 hk7 hF6
  go_wp2_with fail
  have hF7 : ∀ i, (w7.alloc (.cells (crow w7 b) 5 (cfr w7 b))).drew.heap.size ≤ i → w.heap.size ≤ i := fun i hi => by have := HB7.out.size; rw [conv_size] at hi; omega
  refine (replace_any hF7 (HD7.out.conv b) [102] (by decide) _ b (conv_seen w7 b) (by omega)).mono ?_
  rw [full_f (Z := Z) (b := b) (by omega)]
  rintro e w8 ⟨rfl, hd8, hk8⟩
  have HB8 := Lib.hid (HB7.out.trans ((((Kept.refl (fun i => w.heap.size ≤ i) w7).conv b).trans hk8).below HB7.out.size (fun i hi => hi)))
  clear hd8 hk8 hF7
  go_wp2_with fail
  refine (haw.out _).mono ?_
  rintro e w9 ⟨rfl, hb9⟩
  have HB9 := Lib.hid (HB8.out.trans (hb9.mono HB8.out.size))
  clear hb9
  go_wp2_with fail
  go_ret
  exact ⟨rfl, HB9.out⟩
set_option maxRecDepth 100000 in
theorem full_yes_false (l : Nat) (hl : l ≤ 255) (b : List UInt8) (hb : b.length ≤ 255) (w : World) (hc : b.length ≤ l) :
    Calls Try.prog 8 #[.int .u8 (l : Int), .string (bs b), .bool false] w fun e w' => e = .returned (.bool true) ∧ Below w.heap.size w w' := by
  have hn := bs_size b
  have cv := run_conv
  have g1 : decide ((255 : Int) < (b.length : Int)) = false := by simp; omega
  have hnew := Lib.hid (new_dk w (fun i => w.heap.size ≤ i) (fun i hi => hi))
  have haw := Lib.hid awake_any
  go_enter Try.func8, Try.ntmps8
  go_wp2_with fail
  refine (hnew.out).mono ?_
  rintro e w1 ⟨d, rfl, hd1, hb1⟩
  obtain ⟨M, hM⟩ : ∃ M : Nat, M = 4194304 - l := ⟨_, rfl⟩
  obtain ⟨w2, hrun, Z, hZ, hrep⟩ := full_start hd1 hb1 (M := M) (by omega)
  have hMi : (M : Int) = 4194304 - (l : Int) := by omega
  rw [hMi] at hrun
  have HREP := Lib.hid hrep
  have HZ : Hid ((Z.length : Int) = 4194304 - (l : Int)) := Lib.hid (by omega)
  have HM := Lib.hid hMi
  have HC : Hid ((b.length : Int) ≤ 4194304 - (Z.length : Int)) := Lib.hid (by have := HZ.out; omega)
  clear hd1 hb1 hnew hrep hZ hM hMi
  go_wp2_with fail
  refine (HREP.out).mono ?_
  rintro e w3 ⟨rfl, hd3, hb3⟩
  have HD3 := Lib.hid hd3
  have HB3 := Lib.hid hb3
  clear hd3 hb3 hrun
  go_wp2_with fail
  have hF : ∀ i, (w3.alloc (.cells (crow w3 b) 5 (cfr w3 b))).drew.heap.size ≤ i → w.heap.size ≤ i := fun i hi => by have := HB3.out.size; rw [conv_size] at hi; omega
  refine (append_any hF (HD3.out.conv b) (nm false) (by decide) _ b _ (conv_seen w3 b) (Nat.le_refl _) (by omega)).mono ?_
  obtain ⟨X, hf1, hf2, hf3, hXl⟩ := full_yesF HC.out
  have HXL := Lib.hid hXl
  rw [hf1]
  obtain ⟨K2, hK2⟩ : ∃ K2, appendD (one [102] Z (-1) false) (nm false) b = K2 := ⟨_, rfl⟩
  rw [hK2] at hf2 hf3
  rw [hK2]
  have HF2 := Lib.hid hf2
  have HF3 := Lib.hid hf3
  clear hf1 hf2 hf3 hK2 hXl
  rintro e w4 ⟨rfl, hd4, hk4⟩
  have HD4 := Lib.hid hd4
  have HB4 := Lib.hid (HB3.out.trans ((((Kept.refl (fun i => w.heap.size ≤ i) w3).conv b).trans hk4).below HB3.out.size (fun i hi => hi)))
  clear hd4 hk4 hF
  go_wp2_with fail
  refine (read_any HD4.out [102] (by decide)).mono ?_
  rw [HF2.out, HF3.out]
  rintro e w5 ⟨u5, rfl, hu5, hd5, hb5⟩
  obtain ⟨q5, cap5, hu5'⟩ := hu5.len
  have HB5 := Lib.hid (HB4.out.trans (hb5.mono HB4.out.size))
  have k1 : decide ((l : Int) < (b.length : Int)) = false := by simp; omega
  obtain ⟨W, hW⟩ : ∃ W, X.length = W := ⟨_, rfl⟩
  rw [hW] at hu5'
  subst hu5'
  have k2 : ((W : Int) == 4194304 - (l : Int) + (b.length : Int)) = true := by
    have h1 := HZ.out
    have h2 := HXL.out
    simp; omega
  clear hu5 hd5 hb5 hW
  go_wp2_with fail
  refine (haw.out _).mono ?_
  rintro e w9 ⟨rfl, hb9⟩
  have HB9 := Lib.hid (HB5.out.trans (hb9.mono HB5.out.size))
  clear hb9
  go_wp2_with fail
  go_ret
  exact ⟨rfl, HB9.out⟩
theorem law_full (l : Int) (hl : 0 ≤ l ∧ l ≤ 255) (b : List UInt8) (other : Bool) (w : World) :
    Calls Try.prog 8 #[.int .u8 l, .string (bs b), .bool other] w fun e w' => e = .returned (.bool true) ∧ Below w.heap.size w w' := by
  obtain ⟨L, rfl⟩ : ∃ L : Nat, l = (L : Int) := ⟨l.toNat, by omega⟩
  have hL : L ≤ 255 := by omega
  by_cases hb : b.length ≤ 255
  · by_cases hc : L < b.length
    · cases other
      · exact full_no_false L hL b hb w hc
      · exact full_no_true L hL b hb w hc
    · cases other
      · exact full_yes_false L hL b hb w (by omega)
      · exact full_yes_true L hL b hb w (by omega)
  · exact full_long L b (by omega) other w
end Go.Proofs.Ytfkefppabjbbdaa
