/- A crash, plainly. -/
import Derived.Test.YtghnbkkfghfifaaGreatDoorJv
namespace Go.Proofs.YtghnbkkfghfifaaGreatDoor
open Go.RowKit Go.Maps D
set_option linter.unusedVariables false
theorem crashL_uni (keep : Int) : ∀ (L : List Fl) (ks : List Int), (∀ i, i < L.length → ks[i]?.getD 0 = keep) → crashL L ks = L.flatMap fun f => crashF f keep
  | [], _, _ => rfl
  | f :: r, ks, h => by
    have h0 := h 0 (by simp)
    have hr := crashL_uni keep r ks.tail (fun i hi => by
      have := h (i + 1) (by simpa using hi)
      rw [List.getElem?_tail]; exact this)
    unfold crashL
    rw [hr, List.flatMap_cons]
    congr 2
    cases ks with
    | nil => simpa using h0
    | cons a b => simpa using h0
theorem range_flat {α : Type} (f : Nat → List α) (g : Nat → α) : ∀ m, (∀ i, i < m → f i = [g i]) → (List.range m).flatMap f = (List.range m).map g
  | 0, _ => rfl
  | m + 1, h => by
    rw [List.range_succ, List.flatMap_append, List.map_append, range_flat f g m (fun i hi => h i (by omega))]
    simp [h m (by omega)]
section
variable {α : Type} {pay : α → List UInt8} {n : List UInt8} {per : Nat} {d : Dk} {files : Nat} {es : List α} {lasts : Nat} {st : Bool}
/-- How many bytes of the last file a crash leaves. -/
def cutN (pay : α → List UInt8) (per files : Nat) (es : List α) (lasts : Nat) (keep : Int) : Nat := leftN (⟨[], byt pay (seg es per (files - 1)), (byt pay ((seg es per (files - 1)).take (lasts - (files - 1) * per))).length, false⟩ : Fl) keep + (byt pay ((seg es per (files - 1)).take (lasts - (files - 1) * per))).length
theorem want_zero (ps : List (List UInt8)) : F.wantF ps 0 = (0, 0) := by
  cases ps with
  | nil => rfl
  | cons p r => unfold F.wantF; rw [if_neg (by omega)]
theorem Lie.crash (h : Lie pay n per d files es lasts st) (keep : Int) (ks : List Int) (hk : ∀ i, i < d.L.length → ks[i]?.getD 0 = keep) (hsort : Sorted Fl.name (crashD d ks).L) :
    ∃ files' es' cut', Tn pay n per (crashD d ks) files' es' cut' ∧ tnN pay per files' es' cut' = tnN pay per files es (cutN pay per files es lasts keep) ∧ es'.take (tnN pay per files' es' cut') = es.take (tnN pay per files es (cutN pay per files es lasts keep)) ∧ (∀ x ∈ es', x ∈ es) := by
  have hL : (crashD d ks).L = d.L.flatMap fun f => crashF f keep := crashL_uni keep d.L ks hk
  have hperm : (crashD d ks).L.Perm ((List.range files).flatMap fun i => crashF (fsk pay n per files es lasts st i) keep) := by
    rw [hL]
    have := h.lies.perm.flatMap_right (fun f => crashF f keep)
    rwa [List.flatMap_map] at this
  have hp := h.shp.pos
  have hge := h.shp.ge
  have hla := h.shp.lasts
  have hle := h.shp.le
  have hold : ∀ i, i + 1 < files → crashF (fsk pay n per files es lasts st i) keep = [⟨fileN n i, byt pay (seg es per i), (byt pay (seg es per i)).length, true⟩] := by
    intro i hi
    have hw := seg_lasts (l := es) (h.whole hi)
    have e : fsk pay n per files es lasts st i = ⟨fileN n i, byt pay (seg es per i), (byt pay (seg es per i)).length, true⟩ := by
      unfold fsk
      rw [hw, decide_eq_true hi]; rfl
    rw [e]
    unfold crashF goneF cutF leftN lastF
    simp
  rcases Nat.eq_zero_or_pos files with h0 | h0
  · subst h0
    have he : es = [] := List.length_eq_zero_iff.1 (by omega)
    refine ⟨0, es, 0, ⟨⟨fun i => ⟨fileN n i, [], 0, true⟩, ⟨hsort, hperm, fun k hk => by omega⟩, fun i hi => by omega, fun hi => by omega⟩, hp, hle, by omega, h.short, h.few, h.name⟩, rfl, rfl, fun x hx => hx⟩
  · obtain ⟨f, rfl⟩ : ∃ f, files = f + 1 := ⟨files - 1, by omega⟩
    have hlast : crashF (fsk pay n per (f + 1) es lasts st f) keep = if st = false ∧ (byt pay (seg es per f)).take (cutN pay per (f + 1) es lasts keep) = [] then [] else [⟨fileN n f, (byt pay (seg es per f)).take (cutN pay per (f + 1) es lasts keep), ((byt pay (seg es per f)).take (cutN pay per (f + 1) es lasts keep)).length, true⟩] := by
      unfold crashF goneF cutF lastF fsk cutN leftN
      simp only [Nat.add_sub_cancel, Nat.lt_irrefl, decide_false, Bool.false_or]
      rw [Nat.add_comm (min _ _)]
      cases st
      · simp only [Bool.not_false, Bool.true_and, true_and, List.isEmpty_iff]
      · simp
    rw [List.range_succ, List.flatMap_append, range_flat _ _ f (fun i hi => hold i (by omega)), List.flatMap_singleton, hlast] at hperm
    by_cases hg : st = false ∧ (byt pay (seg es per f)).take (cutN pay per (f + 1) es lasts keep) = []
    · rw [if_pos hg, List.append_nil] at hperm
      obtain ⟨hst, hemp⟩ := hg
      have hstf := h.stf hst
      rw [Nat.add_sub_cancel] at hstf hge
      have hfl : f * per ≤ es.length := by omega
      have hlen : (es.take (f * per)).length = f * per := by rw [List.length_take]; omega
      have hsegs : ∀ i, i < f → seg (es.take (f * per)) per i = seg es per i := by
        intro i hi
        have : (i + 1) * per ≤ f * per := Nat.mul_le_mul_right _ hi
        have := seg_app (l := es.take (f * per)) (r := es.drop (f * per)) (per := per) (k := i) (by omega)
        rw [List.take_append_drop] at this
        exact this.symm
      have hcut : (F.wantF ((seg es per f).map pay) (cutN pay per (f + 1) es lasts keep)).1 = 0 := by
        cases hs : seg es per f with
        | nil => rfl
        | cons x r =>
          rw [hs, byt_cons] at hemp
          have hz : cutN pay per (f + 1) es lasts keep = 0 := by
            have := congrArg List.length hemp
            rw [List.length_take, List.length_append, F.frameL_len, List.length_nil] at this
            omega
          rw [hz, want_zero]
      have hT : Tn pay n per (crashD d ks) f (es.take (f * per)) (byt pay (seg (es.take (f * per)) per (f - 1))).length := by
        refine ⟨⟨fun i => ⟨fileN n i, byt pay (seg es per i), (byt pay (seg es per i)).length, true⟩, ⟨hsort, hperm, fun k hk => rfl⟩, fun i hi => by rw [hsegs i (by omega)], fun h1 => ?_⟩, hp, by omega, by rw [hlen]; exact Nat.mul_le_mul_right _ (by omega), fun x hx => h.short x (List.mem_of_mem_take hx), by have := h.few; omega, h.name⟩
        rw [List.take_length, hsegs _ (by omega)]
      have e1 : tnN pay per f (es.take (f * per)) (byt pay (seg (es.take (f * per)) per (f - 1))).length = f * per := by
        unfold tnN
        rcases Nat.eq_zero_or_pos f with h1 | h1
        · rw [if_pos h1, h1]; omega
        · have hww := want_whole ((seg (es.take (f * per)) per (f - 1)).map pay) (byt pay (seg (es.take (f * per)) per (f - 1))).length (Nat.le_refl _)
          rw [if_neg (by omega), hww]
          simp only
          rw [List.length_map, seg_len, hlen]
          have : f * per = (f - 1) * per + per := by conv => lhs; rw [← Nat.sub_add_cancel h1, Nat.succ_mul]
          omega
      have e2 : tnN pay per (f + 1) es (cutN pay per (f + 1) es lasts keep) = f * per := by
        unfold tnN
        rw [if_neg (by omega), Nat.add_sub_cancel, hcut, Nat.add_zero]
      refine ⟨f, _, _, hT, by rw [e1, e2], by rw [e1, e2, List.take_take, Nat.min_self], fun x hx => List.mem_of_mem_take hx⟩
    · rw [if_neg hg] at hperm
      refine ⟨f + 1, es, cutN pay per (f + 1) es lasts keep, ⟨⟨fun i => if i = f then ⟨fileN n f, (byt pay (seg es per f)).take (cutN pay per (f + 1) es lasts keep), ((byt pay (seg es per f)).take (cutN pay per (f + 1) es lasts keep)).length, true⟩ else ⟨fileN n i, byt pay (seg es per i), (byt pay (seg es per i)).length, true⟩, ⟨hsort, ?_, fun k hk => ?_⟩, fun i hi => by simp only [if_neg (show ¬ i = f by omega)], fun h1 => by simp⟩, hp, hle, by omega, h.short, h.few, h.name⟩, rfl, rfl, fun x hx => hx⟩
      · refine hperm.trans (List.Perm.of_eq ?_)
        rw [List.range_succ, List.map_append]
        congr 1
        · exact List.map_congr_left fun i hi => by
            have := List.mem_range.1 hi
            rw [if_neg (by omega)]
        · simp
      · by_cases hkf : k = f
        · simp [hkf]
        · simp only [if_neg hkf]
end
end Go.Proofs.YtghnbkkfghfifaaGreatDoor
