/- Have two disks the same files? · A crash of what a crash left. -/
import Derived.Test.YtfkefppabjbbdaaLp
namespace Go.Proofs.Ytfkefppabjbbdaa
open Go.RowKit Go.Maps
set_option linter.unusedVariables false
theorem crash_mem' {g : Fl} : ∀ {L : List Fl} {ks : List Int}, g ∈ crashL L ks → ∃ f ∈ L, ∃ left, g = lastF (cutF f left)
  | [], _, h => by cases h
  | f :: r, ks, h => by
    simp only [crashL, List.mem_append] at h
    rcases h with h | h
    · unfold crashF at h
      split at h
      · cases h
      · rw [List.mem_singleton] at h
        exact ⟨f, List.mem_cons.2 (.inl rfl), _, h⟩
    · obtain ⟨f', h1, l, h2⟩ := crash_mem' h
      exact ⟨f', List.mem_cons.2 (.inr h1), l, h2⟩
theorem crash_same {L : List Fl} (h : ∀ f ∈ L, f.lasts = f.s.length ∧ f.stays = true) : ∀ ks, crashL L ks = L := by
  induction L with
  | nil => intro ks; rfl
  | cons f r ih =>
    intro ks
    obtain ⟨h1, h2⟩ := h f (List.mem_cons.2 (.inl rfl))
    have hl : ∀ left, leftN f left = 0 := fun left => by unfold leftN; rw [h1]; simp
    have hc : ∀ left, cutF f left = f := fun left => by
      unfold cutF
      rw [hl, h1]
      obtain ⟨a, b, c, d⟩ := f
      simp only at h1 h2
      subst h1
      subst h2
      simp
    have hcf : ∀ left, crashF f left = [f] := fun left => by
      unfold crashF
      rw [hc, if_neg (by unfold goneF; rw [h2]; simp)]
      obtain ⟨a, b, c, d⟩ := f
      simp only at h1 h2
      subst h1
      subst h2
      rfl
    show crashF f _ ++ crashL r _ = f :: r
    rw [hcf, ih (fun x hx => h x (List.mem_cons.2 (.inr hx)))]
    rfl
theorem crash_again (k : Dk) (ks more : List Int) : crashD (crashD k ks) more = crashD k ks := by
  have : crashL (crashL k.L ks) more = crashL k.L ks := crash_same (fun f hf => by
    obtain ⟨f', _, left, rfl⟩ := crash_mem' hf
    exact ⟨rfl, rfl⟩) more
  show Dk.mk (crashL (crashL k.L ks) more) (-1) false = Dk.mk (crashL k.L ks) (-1) false
  rw [this]
/-- What is read of a file behind a crash is a beginning of what was read of it. -/
theorem read_crash {k : Dk} (hok : Ok k) (hd : k.down = false) {ks : List Int} (hok2 : Ok (crashD k ks)) {g : Fl} (hg : g ∈ crashL k.L ks) :
    find k g.name = 0 ∧ find (crashD k ks) g.name = 0 ∧ (readS (crashD k ks) g.name).length ≤ (readS k g.name).length ∧ (readS k g.name).take (readS (crashD k ks) g.name).length = readS (crashD k ks) g.name := by
  obtain ⟨f, hf, left, rfl⟩ := crash_mem' hg
  have hnm : (lastF (cutF f left)).name = f.name := rfl
  have h1 : get f.name k.L = some f := getK_mem hok.sorted hf
  have h2 : get f.name (crashD k ks).L = some (lastF (cutF f left)) := getK_mem (k := Fl.name) (e := lastF (cutF f left)) hok2.sorted hg
  have hn := hok.names f hf
  have f1 : find k f.name = 0 := find_ok (ask_ok hd hn.1 hn.2) h1
  have f2 : find (crashD k ks) f.name = 0 := find_ok (ask_ok rfl hn.1 hn.2) h2
  have r1 : readS k f.name = f.s := by unfold readS; rw [f1]; simp only [ne_eq, not_true_eq_false, if_false]; rw [old_at h1]
  have r2 : readS (crashD k ks) f.name = f.s.take (f.lasts + leftN f left) := by unfold readS; rw [f2]; simp only [ne_eq, not_true_eq_false, if_false]; rw [old_at h2]; rfl
  rw [hnm, f1, f2, r1, r2]
  refine ⟨rfl, rfl, ?_, ?_⟩
  · rw [List.length_take]; omega
  · rw [List.length_take, List.take_eq_take_iff]; omega
set_option maxRecDepth 100000 in
set_option maxHeartbeats 1000000 in
theorem same_any {w : World} {Fa Fb : Nat → Prop} {a b : Nat} {k : Dk} (ha : DiskAt w Fa a k) (hb : DiskAt w Fb b k) :
    Calls Try.prog 21 #[.pointer (some ⟨a, 0, none⟩), .pointer (some ⟨b, 0, none⟩)] w fun e w' => e = .returned (.bool true) ∧ Below w.heap.size w w' := by
  have hok := ha.ok
  obtain ⟨N, hN⟩ : ∃ N, k.L.length = N := ⟨_, rfl⟩
  have hN4 : N ≤ 4096 := by rw [← hN]; exact hok.len
  have HA := Lib.hid ha
  have HB := Lib.hid hb
  have hna := names_dk ha
  rw [hN] at hna
  have HNA := Lib.hid hna
  have HN := Lib.hid hN
  have HOK := Lib.hid hok
  clear ha hb hok hna hN
  go_enter Try.func21, Try.ntmps21
  go_wp2_with fail
  refine (HNA.out).mono ?_
  rintro e w1 ⟨qa, ca, rfl, hta, hda, hb1⟩
  have hnb := names_dk (HB.out.below hb1)
  rw [HN.out] at hnb
  have HNB := Lib.hid hnb
  have HTA := Lib.hid hta
  have HA1 := Lib.hid hda
  have HB1 := Lib.hid (HB.out.below hb1)
  have HW1 := Lib.hid hb1
  clear hta hda hb1 hnb HNA HA HB
  go_wp2_with fail
  refine (HNB.out).mono ?_
  rintro e w2 ⟨qb, cb, rfl, htb, hdb, hb2⟩
  have HTA2 := Lib.hid (HTA.out.below hb2 (Nat.le_refl _))
  have HTB2 := Lib.hid htb
  have HA2 := Lib.hid (HA1.out.below hb2)
  have HB2 := Lib.hid hdb
  have HW2 := Lib.hid (HW1.out.trans (hb2.mono HW1.out.size))
  clear htb hdb hb2 HTA HA1 HB1 HW1 HNB
  go_wp2_with fail
  go_loopw [23] (fun iv wr => ∃ i : Nat, i ≤ N ∧ iv = .int .i64 i ∧ Hid (DiskAt wr Fa a k) ∧ Hid (DiskAt wr Fb b k) ∧ Hid (Below w2.heap.size w2 wr)) (fun iv _ => N - (intOf iv).toNat)
  case atStart => exact ⟨0, by omega, rfl, HA2, HB2, Lib.hid (Below.refl _ _)⟩
  case round =>
    obtain ⟨i, hi, rfl, HA, HB, HW⟩ := hrel
    by_cases hlt : i < N
    · have hil : i < k.L.length := by rw [HN.out]; exact hlt
      have hTA := HTA2.out.below HW.out (Nat.le_refl _)
      have hTB := HTB2.out.below HW.out (Nat.le_refl _)
      obtain ⟨ga, rfl, hca⟩ := hTA.at i (by rw [List.length_map]; exact hil)
      obtain ⟨gb, rfl, hcb⟩ := hTB.at i (by rw [List.length_map]; exact hil)
      rw [List.getElem_map] at hca hcb
      have hfn := HOK.out.names _ (List.getElem_mem hil)
      obtain ⟨f, hf⟩ : ∃ f, k.L[i] = f := ⟨_, rfl⟩
      rw [hf] at hca hcb hfn
      have HF := Lib.hid hf
      have hrd := read_any HA.out f.name (by omega)
      obtain ⟨X, hX⟩ : ∃ X, readS k f.name = X := ⟨_, rfl⟩
      obtain ⟨R, hR⟩ : ∃ R, find k f.name = R := ⟨_, rfl⟩
      rw [hX, hR] at hrd
      have HX := Lib.hid hX
      have HR := Lib.hid hR
      have HRD := Lib.hid hrd
      have HFN := Lib.hid hfn
      clear hTA hTB hf hX hR hrd hfn
      go_wp2_with fail
      refine (HRD.out).mono ?_
      rintro e w3 ⟨u, rfl, hob, hd3, hb3⟩
      have hW3 := HW.out.trans (hb3.mono HW.out.size)
      have hrd2 := read_any (HB.out.below hb3) f.name (by have := HFN.out; omega)
      rw [HX.out, HR.out] at hrd2
      obtain ⟨qu, cu, hu⟩ := hob.len
      obtain ⟨lx, hlx⟩ : ∃ n, X.length = n := ⟨_, rfl⟩
      rw [hlx] at hu
      subst hu
      have hTB3 := HTB2.out.below hW3 (Nat.le_refl _)
      obtain ⟨gb3, hgb3, hcb3⟩ := hTB3.at i (by rw [List.length_map]; exact hil)
      cases hgb3
      rw [List.getElem_map, HF.out] at hcb3
      have HOB := Lib.hid hob
      have HA3 := Lib.hid hd3
      have HW3 := Lib.hid hW3
      have HRD2 := Lib.hid hrd2
      have HLX := Lib.hid hlx
      clear hca hcb hob hd3 hb3 hW3 hrd2 hlx hTB3 HRD HA HB HW
      go_wp2_with fail
      refine (HRD2.out).mono ?_
      rintro e w4 ⟨u2, rfl, hob2, hd4, hb4⟩
      have hW4 := HW3.out.trans (hb4.mono HW3.out.size)
      obtain ⟨qu2, cu2, hu2⟩ := hob2.len
      rw [HLX.out] at hu2
      subst hu2
      have s1 := Seen.own (HOB.out.below hb4 (Nat.le_refl _))
      have s2 := Seen.own hob2
      have cv1 : ∀ m, (convert 31 9 (.slice qu lx cu)).run Try.prog (w4.drewN m) = .ok (.string (bs X)) (w4.drewN m) := fun m => Seen.text (w := w4.drewN m) (B := w4.heap.size) s1
      have cv2 : ∀ m, (convert 31 9 (.slice qu2 lx cu2)).run Try.prog (w4.drewN m) = .ok (.string (bs X)) (w4.drewN m) := fun m => Seen.text (w := w4.drewN m) (B := w4.heap.size) s2
      have cv3 := cv1 0
      have cv4 := cv2 0
      have hTA4 := HTA2.out.below hW4 (Nat.le_refl _)
      have hTB4 := HTB2.out.below hW4 (Nat.le_refl _)
      obtain ⟨ga4, hga4, hca4⟩ := hTA4.at i (by rw [List.length_map]; exact hil)
      obtain ⟨gb4, hgb4, hcb4⟩ := hTB4.at i (by rw [List.length_map]; exact hil)
      cases hga4
      cases hgb4
      rw [List.getElem_map, HF.out] at hca4 hcb4
      have q1 := text_yes (a := f.name) rfl
      have q2 : ((bs f.name).toList != (bs f.name).toList) = false := by rw [bne, q1]; rfl
      have q3 := text_yes (a := X) rfl
      have q4 : ((bs X).toList != (bs X).toList) = false := by rw [bne, q3]; rfl
      have HA4 := Lib.hid (HA3.out.below hb4)
      have HB4 := Lib.hid hd4
      have HW4 := Lib.hid hW4
      clear hob2 hd4 hb4 hW4 s1 s2 hTA4 hTB4 hcb3 HOB HA3 HW3 HRD2 cv3 cv4
      go_wp2_with fail
      go_quiet (fail)
      go_wp2_with fail
      go_roundw
      case rel => exact ⟨i + 1, by omega, by simp, Lib.hid (HA4.out.drewN _), Lib.hid (HB4.out.drewN _), Lib.hid (HW4.out.trans (below_drewN3 _ w4 _))⟩
      case measure => simp only [intOf]; omega
    · obtain rfl : i = N := by omega
      have HWB := Lib.hid (HW2.out.trans (HW.out.mono HW2.out.size))
      go_wp2_with fail
      go_ret
      exact ⟨rfl, HWB.out⟩
end Go.Proofs.Ytfkefppabjbbdaa
