/- A journal is opened where its files lie: the last one may be torn. -/
import Derived.Test.YtghnbkkfghfifaaGreatDoorJs
import Derived.Test.YtghnbkkfghfifaaGreatDoorMJ
namespace Go.Proofs.YtghnbkkfghfifaaGreatDoor
open Go.RowKit Go.Maps D
set_option linter.unusedVariables false
theorem want_take : ∀ (ps : List (List UInt8)) (cut : Nat), (F.wantF ps cut).2 = (F.framesL (ps.take (F.wantF ps cut).1)).length ∧ (F.wantF ps cut).1 ≤ ps.length ∧ (F.wantF ps cut).2 ≤ cut
  | [], cut => ⟨rfl, Nat.le_refl _, Nat.zero_le _⟩
  | p :: ps, cut => by
    unfold F.wantF
    by_cases hc : p.length + 10 ≤ cut
    · obtain ⟨h1, h2, h3⟩ := want_take ps (cut - (p.length + 10))
      rw [if_pos hc]
      simp only [List.take_succ_cons, List.length_cons]
      rw [F.framesL_cons, List.length_append, F.frameL_len, ← h1]
      omega
    · rw [if_neg hc]
      exact ⟨rfl, Nat.zero_le _, Nat.zero_le _⟩
theorem want_whole : ∀ (ps : List (List UInt8)) (cut : Nat), (F.framesL ps).length ≤ cut → F.wantF ps cut = (ps.length, (F.framesL ps).length)
  | [], cut, _ => rfl
  | p :: ps, cut, h => by
    rw [F.framesL_cons, List.length_append, F.frameL_len] at h ⊢
    unfold F.wantF
    rw [if_pos (by omega), want_whole ps _ (by omega)]
    simp only [List.length_cons]
    congr 1
    omega
theorem frames_take (ps : List (List UInt8)) (m : Nat) : (F.framesL ps).take (F.framesL (ps.take m)).length = F.framesL (ps.take m) := by
  have : F.framesL ps = F.framesL (ps.take m) ++ F.framesL (ps.drop m) := by
    unfold F.framesL
    rw [← List.flatten_append, ← List.map_append, List.take_append_drop]
  rw [this, List.take_left]
section
variable {α : Type} (pay : α → List UInt8) (n : List UInt8) (per : Nat)
/-- What lies on a disk, of whose last file so many bytes are there. -/
structure Tn (d : Dk) (files : Nat) (es : List α) (cut : Nat) : Prop where
  lies : ∃ g : Nat → Fl, Holds n d files g ∧ (∀ i, i + 1 < files → g i = ⟨fileN n i, byt pay (seg es per i), (byt pay (seg es per i)).length, true⟩) ∧ (0 < files → (g (files - 1)).s = (byt pay (seg es per (files - 1))).take cut)
  pos : 1 ≤ per
  le : es.length ≤ files * per
  ge : (files - 1) * per ≤ es.length
  short : Short pay es
  few : es.length ≤ 2000
  name : n.length ≤ 24
/-- How many entries are whole there. -/
def tnN (files : Nat) (es : List α) (cut : Nat) : Nat := if files = 0 then 0 else (files - 1) * per + (F.wantF ((seg es per (files - 1)).map pay) cut).1
variable {pay n per} {d : Dk} {files : Nat} {es : List α} {cut : Nat}
theorem Lie.tn {lasts : Nat} {st : Bool} (h : Lie pay n per d files es lasts st) : Tn pay n per d files es (byt pay (seg es per (files - 1))).length := by
  refine ⟨⟨_, h.lies, fun i hi => ?_, fun h0 => ?_⟩, h.shp.pos, h.shp.le, Nat.le_trans h.shp.ge h.shp.lasts, h.short, h.few, h.name⟩
  · have hw := seg_lasts (l := es) (h.whole hi)
    unfold fsk
    rw [hw, decide_eq_true hi]; rfl
  · unfold fsk
    rw [List.take_length]
theorem tnN_le (h : Tn pay n per d files es cut) : tnN pay per files es cut ≤ es.length := by
  unfold tnN
  split
  · exact Nat.zero_le _
  · have := (want_take ((seg es per (files - 1)).map pay) cut).2.1
    rw [List.length_map, seg_len] at this
    have := h.ge
    omega
theorem Tn.files_le (h : Tn pay n per d files es cut) : files ≤ 2001 := by
  have h1 := h.ge
  have h3 := h.few
  have h4 := h.pos
  have h5 : (files - 1) * 1 ≤ (files - 1) * per := Nat.mul_le_mul_left _ h4
  omega
theorem Tn.seg_take (h : Tn pay n per d files es cut) (i : Nat) (hi : i < files) : seg (es.take (tnN pay per files es cut)) per i = if i + 1 = files then (seg es per i).take (F.wantF ((seg es per i).map pay) cut).1 else seg es per i := by
  have ht : tnN pay per files es cut = (files - 1) * per + (F.wantF ((seg es per (files - 1)).map pay) cut).1 := by unfold tnN; rw [if_neg (by omega)]
  by_cases hl : i + 1 = files
  · rw [if_pos hl]
    have e : files - 1 = i := by omega
    rw [ht, e]
    have hm := (want_take ((seg es per i).map pay) cut).2.1
    rw [List.length_map] at hm
    unfold seg at hm ⊢
    rw [List.drop_take, Nat.add_sub_cancel_left]
    generalize (F.wantF ((((es.drop (i * per)).take per).map pay)) cut).1 = m at *
    rw [List.take_take, List.take_take, Nat.min_comm]
  · rw [if_neg hl]
    have h1 : (i + 1) * per ≤ (files - 1) * per := Nat.mul_le_mul_right _ (by omega)
    rw [Nat.succ_mul] at h1
    unfold seg
    rw [ht, List.drop_take, List.take_take, Nat.min_eq_left (by omega)]
/-- It's whole again. -/
theorem Tn.heal (h : Tn pay n per d files es cut) (h0 : 0 < files) {d' : Dk} (hd : d'.L = ins ⟨fileN n (files - 1), byt pay (seg (es.take (tnN pay per files es cut)) per (files - 1)), (byt pay (seg (es.take (tnN pay per files es cut)) per (files - 1))).length, true⟩ d.L) :
    Lie pay n per d' files (es.take (tnN pay per files es cut)) (es.take (tnN pay per files es cut)).length true := by
  obtain ⟨g, hg, h1, h2⟩ := h.lies
  have hi := hg.ins (k := files - 1) (by omega) (f := ⟨fileN n (files - 1), byt pay (seg (es.take (tnN pay per files es cut)) per (files - 1)), (byt pay (seg (es.take (tnN pay per files es cut)) per (files - 1))).length, true⟩) rfl hd
  have hle := tnN_le h
  have hlen : (es.take (tnN pay per files es cut)).length = tnN pay per files es cut := by rw [List.length_take]; omega
  have hge : (files - 1) * per ≤ tnN pay per files es cut := by unfold tnN; rw [if_neg (by omega)]; omega
  refine ⟨hi.congr (fun i hik => ?_), ⟨h.pos, by rw [hlen]; exact Nat.le_trans hle h.le, by rw [hlen]; exact hge, Nat.le_refl _⟩, fun y hy => h.short y (List.mem_of_mem_take hy), by rw [hlen]; exact Nat.le_trans hle h.few, h.name, fun e => by cases e⟩
  have hfull := seg_lasts' (l := es.take (tnN pay per files es cut)) (per := per) (k := i) (lasts := (es.take (tnN pay per files es cut)).length) (Nat.le_refl _)
  by_cases hk : i = files - 1
  · subst hk
    simp only [if_pos]
    unfold fsk
    rw [hfull]
    simp
  · simp only [if_neg hk]
    rw [h1 i (by omega)]
    have hs := h.seg_take i hik
    rw [if_neg (by omega)] at hs
    unfold fsk
    rw [hfull, hs, decide_eq_true (show i + 1 < files by omega)]; rfl
end
end Go.Proofs.YtghnbkkfghfifaaGreatDoor
