/- A journal's Sync. -/
import Derived.Test.YtghnbkkfghfifaaGreatDoorJc
namespace Go.Proofs.YtghnbkkfghfifaaGreatDoor
open Go.RowKit Go.Maps D
set_option linter.unusedVariables false
theorem fileN_short {n : List UInt8} {k : Nat} (hn : n.length ≤ 24) (hk : k ≤ 1048576) : (fileN n k).length ≤ 1000000 := by
  have := dec_len 7 k (by omega)
  unfold fileN
  simp only [List.length_append, List.length_cons]
  omega
theorem lastN_short {n : List UInt8} {k : Nat} (hn : n.length ≤ 24) (hk : k ≤ 1048576) : (lastN n k).length ≤ 1000000 := fileN_short hn (by omega)
section
variable {w : World} {F : Nat → Prop} {d l : Nat} {n : List UInt8} {per : Nat} {v : Value} {j : Jn Ev}
set_option maxRecDepth 100000 in
theorem jsync_stuck (h : LogM w F d l n per v j) (hs : j.stuck ≠ 0) :
    Calls Tryz.prog 33 #[.pointer (some ⟨l, 0, none⟩)] w fun e w' => e = .returned (.int .i64 (j.stuck : Int)) ∧ w' = w := by
  have c6 := h.self.c 6 rfl
  have g0 : ¬ (j.stuck : Int) = 0 := by omega
  clear h hs
  go_enter Tryz.func33, Tryz.ntmps33
  go_wp2_with fail
  go_ret
  exact ⟨rfl, rfl⟩
set_option maxRecDepth 100000 in
theorem jsync_none (h : LogM w F d l n per v j) (hs : j.stuck = 0) (hf : j.files = 0) :
    Calls Tryz.prog 33 #[.pointer (some ⟨l, 0, none⟩)] w fun e w' => e = .returned (.int .i64 (j.stuck : Int)) ∧ w' = w := by
  have c6 := h.self.c 6 rfl
  have c3 := h.self.c 3 rfl
  rw [hs] at c6 ⊢
  rw [hf] at c3
  clear h hs hf
  go_enter Tryz.func33, Tryz.ntmps33
  go_wp2_with fail
  go_ret
  exact ⟨rfl, rfl⟩
set_option maxRecDepth 100000 in
theorem jsync_do (hF : ∀ i, w.heap.size ≤ i → F i) (h : LogM w F d l n per v j) (hs : j.stuck = 0) (hf : 0 < j.files) :
    Calls Tryz.prog 33 #[.pointer (some ⟨l, 0, none⟩)] w fun e w' => e = .returned (.int .i64 ((jsync n j).2 : Int)) ∧ LogM w' F d l n per v (jsync n j).1 ∧ Kept F w w' := by
  have c0 := h.self.c 0 rfl
  have c6 := h.self.c 6 rfl
  have c3 := h.self.c 3 rfl
  have g3 : ((j.files : Int) == 0) = false := by simp; omega
  have HJ : Hid (jsync n j = if syncE j.dk (lastN n j.files) ≠ 0 then (⟨syncD j.dk (lastN n j.files), j.files, j.es, j.lasts, syncE j.dk (lastN n j.files)⟩, syncE j.dk (lastN n j.files))
    else (⟨syncD j.dk (lastN n j.files), j.files, j.es, j.es.length, 0⟩, 0)) := Lib.hid (by unfold jsync; rw [if_neg (by omega)])
  rw [hs] at c6
  have HN := Lib.hid (lastN_short h.name h.small.2.1)
  have HL := Lib.hid (lastFile_any h.drew hf)
  have HM := Lib.hid h
  obtain ⟨E, hE⟩ : ∃ E, syncE j.dk (lastN n j.files) = E := ⟨_, rfl⟩
  rw [hE] at HJ
  have HE := Lib.hid hE
  clear h hs hf hE
  go_enter Tryz.func33, Tryz.ntmps33
  go_wp2_with fail
  go_region_held3 (fun w' => w'.cell? ⟨l, 0, none⟩ = some (.pointer (some ⟨d, 0, none⟩))) (first | exact c0 | assumption)
    (first | (go_at_call 58; refine (HL.out).mono ?_; rintro e w1 ⟨rfl, hb1⟩; have HM1 := Lib.hid (HM.out.drew.below hb1); have c1 := HM1.out.self.c 0 rfl) | (go_at_call 67; refine (D.sync_any (F := Foot F l v) HM1.out.sep (lastN n j.files) HN.out).mono ?_; rintro e w2 ⟨rfl, hd2, hk2⟩; have HM2 := Lib.hid (HM1.out.turn hd2 hk2); clear hd2 hk2; have c2 := HM2.out.1.self.c 0 rfl) | (go_at_call 57; refine (told_any HM2.out.1 (syncE j.dk (lastN n j.files))).mono ?_; rintro e w3 ⟨rfl, hm3, hk3⟩; have HM3 := Lib.hid hm3; have HK3 := Lib.hid hk3; clear hm3 hk3; have c3 := HM3.out.self.c 0 rfl))
  rw [HE.out] at HM3 ⊢
  have HKK := Lib.hid (((((Kept.refl F w).drew.of_below hb1 (fun i hi _ => hi)).trans HM2.out.2).trans HK3.out))
  clear c0 c1 c2 c6 hb1 HM2 HK3 HL HM1 HM
  by_cases hz : E = 0
  · subst hz
    have HJ2 := Lib.hid ((HJ.out).trans (if_neg (by simp)))
    obtain ⟨q, cap, hv⟩ := HM3.out.row.len
    have c4 := HM3.out.self.c 4 rfl
    have f5 := HM3.out.self.f 5
    have c5 := HM3.out.self.c 5 rfl
    simp only at hv
    rw [hv] at c4
    have HM4 := Lib.hid (HM3.out.lasts j.es.length (HM3.out.small.1))
    clear HM3 HJ hv
    go_wp2_with fail
    go_ret
    rw [HJ2.out]
    exact ⟨rfl, HM4.out.1, HKK.out.trans HM4.out.2⟩
  · have hz1 : ¬ (E : Int) = 0 := by omega
    have HJ2 := Lib.hid ((HJ.out).trans (if_pos hz))
    clear hz HJ
    go_wp2_with fail
    go_ret
    rw [HJ2.out]
    exact ⟨rfl, HM3.out, HKK.out⟩
/-- Sync, whatever it is. -/
theorem jsync_any (hF : ∀ i, w.heap.size ≤ i → F i) (h : LogM w F d l n per v j) :
    Calls Tryz.prog 33 #[.pointer (some ⟨l, 0, none⟩)] w fun e w' => e = .returned (.int .i64 ((jsync n j).2 : Int)) ∧ LogM w' F d l n per v (jsync n j).1 ∧ Kept F w w' := by
  by_cases hs : j.stuck = 0
  · by_cases hf : j.files = 0
    · have e : jsync n j = (j, j.stuck) := by unfold jsync; rw [if_pos (.inr hf)]
      rw [e]
      refine (jsync_none h hs hf).mono ?_
      rintro e w' ⟨rfl, rfl⟩
      exact ⟨rfl, h, Kept.refl _ _⟩
    · exact jsync_do hF h hs (by omega)
  · have e : jsync n j = (j, j.stuck) := by unfold jsync; rw [if_pos (.inl hs)]
    rw [e]
    refine (jsync_stuck h hs).mono ?_
    rintro e w' ⟨rfl, rfl⟩
    exact ⟨rfl, h, Kept.refl _ _⟩
end
end Go.Proofs.YtghnbkkfghfifaaGreatDoor
