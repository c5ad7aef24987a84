/- Open, where files lie. -/
import Derived.Test.YtghnbkkfghfifaaGreatDoorJv
namespace Go.Proofs.YtghnbkkfghfifaaGreatDoor
open Go.RowKit Go.Maps D
set_option linter.unusedVariables false
theorem all_cut (ps : List (List UInt8)) (cut : Nat) (hp : ∀ p ∈ ps, p.length ≤ 65536) : allB ((F.framesL ps).take cut) = (ps.take (F.wantF ps cut).1, (F.wantF ps cut).2, if (F.wantF ps cut).2 = ((F.framesL ps).take cut).length then 0 else 1) := by
  unfold allB
  rcases Nat.le_total cut (F.framesL ps).length with h | h
  · rw [F.all_rows ps cut hp h, List.length_take, Nat.min_eq_left h]
  · have := F.all_rows ps (F.framesL ps).length hp (Nat.le_refl _)
    rw [want_whole ps _ (Nat.le_refl _), List.take_length] at this
    rw [want_whole ps cut h, List.take_of_length_le h, this]
theorem short_of {es : List Ev} (h : ∀ x ∈ es, OkE x) : Short pay es := fun x hx => pay_short (h x hx)
section
variable {n : List UInt8} {per : Nat} {k : Dk} {files : Nat} {es : List Ev} {cut : Nat}
theorem Tn.file (T : Tn pay n per k files es cut) (hup : k.down = false) {i : Nat} (hi : i < files) : find k (fileN n i) = 0 ∧ readS k (fileN n i) = (if i + 1 = files then (byt pay (seg es per i)).take cut else byt pay (seg es per i)) := by
  obtain ⟨g, hg, h1, h2⟩ := T.lies
  have hle := T.files_le
  have hf : find k (fileN n i) = 0 := by
    obtain ⟨a1, a2⟩ := fileN_len (k := i) T.name (by omega)
    have ha : D.ask k (fileN n i) = 0 := by
      unfold D.ask
      rw [hup, if_neg (by simp), if_neg (by omega)]
    unfold find
    rw [ha, if_neg (by simp), hg.get hi]
    simp
  refine ⟨hf, ?_⟩
  unfold readS
  rw [hf, if_neg (by simp), hg.old hi]
  by_cases hl : i + 1 = files
  · rw [if_pos hl]
    have := h2 (by omega)
    rw [show files - 1 = i by omega] at this
    exact this
  · rw [if_neg hl, h1 i (by omega)]
theorem Tn.all (T : Tn pay n per k files es cut) (hup : k.down = false) {i : Nat} (hi : i < files) :
    allB (readS k (fileN n i)) = ((seg (es.take (tnN pay per files es cut)) per i).map pay, (byt pay (seg (es.take (tnN pay per files es cut)) per i)).length, if (byt pay (seg (es.take (tnN pay per files es cut)) per i)).length = (readS k (fileN n i)).length then 0 else 1) ∧
    (i + 1 < files → (byt pay (seg (es.take (tnN pay per files es cut)) per i)).length = (readS k (fileN n i)).length) ∧ (byt pay (seg (es.take (tnN pay per files es cut)) per i)) = (readS k (fileN n i)).take (byt pay (seg (es.take (tnN pay per files es cut)) per i)).length ∧ (byt pay (seg (es.take (tnN pay per files es cut)) per i)).length ≤ (readS k (fileN n i)).length ∧ (readS k (fileN n i)).length ≤ 820000 := by
  obtain ⟨_, hr⟩ := T.file hup hi
  have hs := T.seg_take i hi
  have hp : ∀ p ∈ (seg es per i).map pay, p.length ≤ 65536 := by
    intro p hp
    obtain ⟨x, hx, rfl⟩ := List.mem_map.1 hp
    have := T.short x (by unfold seg at hx; exact List.mem_of_mem_drop (List.mem_of_mem_take hx))
    omega
  have hb : (byt pay (seg es per i)).length ≤ 820000 := by
    have h1 := byt_len pay (l := seg es per i) (fun x hx => T.short x (by unfold seg at hx; exact List.mem_of_mem_drop (List.mem_of_mem_take hx)))
    have h2 : (seg es per i).length ≤ es.length := by rw [seg_len]; omega
    have := T.few
    omega
  by_cases hl : i + 1 = files
  · rw [if_pos hl] at hr hs
    obtain ⟨w1, w2, w3⟩ := want_take ((seg es per i).map pay) cut
    rw [← List.map_take] at w1
    have e1 : byt pay ((seg es per i).take (F.wantF ((seg es per i).map pay) cut).1) = F.framesL (((seg es per i).take (F.wantF ((seg es per i).map pay) cut).1).map pay) := rfl
    rw [hs, hr]
    have hall := all_cut ((seg es per i).map pay) cut hp
    rw [← List.map_take, w1] at hall
    have hft := frames_take ((seg es per i).map pay) (F.wantF ((seg es per i).map pay) cut).1
    rw [← List.map_take, ← w1] at hft
    have hmin : (F.wantF ((seg es per i).map pay) cut).2 ≤ (F.framesL ((seg es per i).map pay)).length := by
      have := congrArg List.length hft
      rw [List.length_take, ← w1] at this
      omega
    refine ⟨hall, fun h => by omega, ?_, ?_, ?_⟩
    · rw [e1, ← w1, List.take_take, Nat.min_eq_left w3]
      exact hft.symm
    · rw [e1, ← w1, List.length_take]
      show _ ≤ min cut (F.framesL ((seg es per i).map pay)).length
      omega
    · rw [List.length_take]; omega
  · rw [if_neg hl] at hr hs
    rw [hs, hr]
    have hall := all_cut ((seg es per i).map pay) (byt pay (seg es per i)).length hp
    have e0 : byt pay (seg es per i) = F.framesL ((seg es per i).map pay) := rfl
    rw [← e0, List.take_length, want_whole _ _ (by rw [e0]; exact Nat.le_refl _)] at hall
    rw [List.take_of_length_le (Nat.le_refl _), ← e0] at hall
    refine ⟨hall, fun _ => rfl, by rw [List.take_length], Nat.le_refl _, hb⟩
end
section
variable {w : World} {F : Nat → Prop} {d : Nat} {n : List UInt8} {per : Nat} {k : Dk} {files : Nat} {es : List Ev} {cut : Nat}
theorem open_tn (hF : ∀ i, w.heap.size ≤ i → F i) (h7 : ∀ i, F i → 7 ≤ i) (hL : E.Lay w) (hd : DiskAt w F d k) (hup : k.down = false) (hfu : k.fuse = -1) (hnm : E.nameB (bs n) = true) (hp : per ≤ 4096)
    (T : Tn pay n per k files es cut) (hok : ∀ x ∈ es, OkE x) :
    Calls Tryz.prog 23 #[.pointer (some ⟨d, 0, none⟩), .string (bs n), .int .i64 (per : Int)] w fun e w' => ∃ l v k', e = .returned (.tuple #[.pointer (some ⟨l, 0, none⟩), .int .i64 0]) ∧
      LogM w' F d l n per v ⟨k', files, es.take (tnN pay per files es cut), tnN pay per files es cut, 0⟩ ∧ Kept F w w' ∧ ∃ st, Up pay n per (⟨k', files, es.take (tnN pay per files es cut), tnN pay per files es cut, 0⟩ : Jn Ev) st := by
  obtain ⟨g, hg, hg1, hg2⟩ := T.lies
  have hle := T.files_le
  have htle := tnN_le T
  have hfew := T.few
  have hp1 := T.pos
  obtain ⟨m, hm⟩ : ∃ m, tnN pay per files es cut = m := ⟨_, rfl⟩
  have hTA := fun i hi => T.all (i := i) hup hi
  have hheal := T.heal (pay := pay)
  have hst := fun i hi => T.seg_take (pay := pay) i hi
  rw [hm] at htle hTA hheal ⊢
  obtain ⟨es', hes'⟩ : ∃ es', es.take m = es' := ⟨_, rfl⟩
  have hlen : es'.length = m := by rw [← hes', List.length_take]; omega
  have hml : m ≤ files * per := Nat.le_trans htle T.le
  have hok' : ∀ x ∈ es', OkE x := fun x hx => hok x (by rw [← hes'] at hx; exact List.mem_of_mem_take hx)
  rw [hes'] at hTA hheal ⊢
  have hflat : ((List.range files).map (seg es' per)).flatten = es' := segs_all (by rw [hlen]; exact hml)
  have hge : ∀ i, i + 1 < files → (i + 1) * per ≤ m := by
    intro i hi
    rw [← hm]
    unfold tnN
    rw [if_neg (by omega)]
    have : (i + 1) * per ≤ (files - 1) * per := Nat.mul_le_mul_right _ (by omega)
    omega
  -- what the last file says
  obtain ⟨W, hW⟩ : ∃ W, curW (fun i => (byt pay (seg es' per i)).length) files = W := ⟨_, rfl⟩
  obtain ⟨c, hc⟩ : ∃ c, curC (fun i => readS k (fileN n i)) files = c := ⟨_, rfl⟩
  have hlast : 0 < files → c = readS k (fileN n (files - 1)) ∧ W = (byt pay (seg es' per (files - 1))).length := by
    intro h0
    obtain ⟨f, rfl⟩ : ∃ f, files = f + 1 := ⟨files - 1, by omega⟩
    exact ⟨hc.symm, hW.symm⟩
  have hnone : files = 0 → c = [] ∧ W = 0 := by
    rintro rfl
    exact ⟨hc.symm, hW.symm⟩
  -- the disk behind it
  have hk' : ∃ k', ((W < c.length → 0 < files ∧ replaceE k (lastN n files) (c.take W) = 0 ∧ k' = replaceD k (lastN n files) (c.take W)) ∧ (¬ W < c.length → jsync n (⟨k, files, es', 0, 0⟩ : Jn Ev) = (⟨k', files, es', if files = 0 then 0 else es'.length, 0⟩, 0))) ∧ ∃ st, Up pay n per (⟨k', files, es', m, 0⟩ : Jn Ev) st := by
    rcases Nat.eq_zero_or_pos files with h0 | h0
    · obtain ⟨q1, q2⟩ := hnone h0
      refine ⟨k, ⟨fun h => by rw [q1, q2] at h; exact absurd h (by decide), fun _ => ?_⟩, true, ?_⟩
      · unfold jsync
        rw [if_pos (.inr h0), if_pos h0]
      · have hm0 : m = 0 := by rw [h0] at hml; omega
        refine ⟨⟨hg.congr (fun i hi => by omega), ⟨hp1, by rw [hlen]; exact hml, ?_, by rw [hlen]; exact Nat.le_refl _⟩, short_of hok', by rw [hlen]; omega, T.name, fun e => by cases e⟩, hup, hfu, rfl⟩
        simp only [h0, hm0]
        simp
    · obtain ⟨q1, q2⟩ := hlast h0
      obtain ⟨t1, t2, t3, t4, t5⟩ := hTA (files - 1) (by omega)
      rw [← q1, ← q2] at t3 t4
      rw [← q1] at t5
      have hfind := (T.file hup (i := files - 1) (by omega)).1
      have hask : D.ask k (fileN n (files - 1)) = 0 := by
        unfold find at hfind
        by_cases ha : D.ask k (fileN n (files - 1)) = 0
        · exact ha
        · rw [if_pos ha] at hfind; exact absurd hfind ha
      have hold := hg.old (k := files - 1) (by omega)
      have hc2 : c = (g (files - 1)).s := by
        rw [q1]
        unfold readS
        rw [hfind, if_neg (by simp), hold]
      have hnm2 := hg.name (files - 1) (by omega)
      by_cases hlt : W < c.length
      · have hmore : moreR k (fileN n (files - 1)) (c.take W) ≤ 0 := by
          unfold moreR
          rw [hold, ← hc2, List.length_take]
          omega
        have hhold : mayHold k (fileN n (files - 1)) (moreR k (fileN n (files - 1)) (c.take W)) = 0 := by
          have htot := hd.ok.tot
          unfold mayHold
          rw [hask, if_neg (by simp), if_neg]
          rintro (h | ⟨h, _⟩)
          · omega
          · rw [hg.get (by omega)] at h; simp at h
        have hE : replaceE k (lastN n files) (c.take W) = 0 := by unfold replaceE lastN; rw [hhold, if_neg (by simp), hfu]; rfl
        have hD : replaceD k (lastN n files) (c.take W) = withL k (ins ⟨fileN n (files - 1), c.take W, (c.take W).length, true⟩ k.L) := by
          unfold replaceD lastN
          rw [hhold, if_neg (by simp), if_neg (by rw [hfu]; decide)]
          exact burn_none (d := withL k _) hfu
        refine ⟨_, ⟨fun _ => ⟨h0, hE, rfl⟩, fun h => absurd hlt h⟩, true, ?_⟩
        rw [hD]
        have := hheal h0 (d' := withL k (ins ⟨fileN n (files - 1), c.take W, (c.take W).length, true⟩ k.L)) (by rw [t3]; rfl)
        rw [hlen] at this
        exact ⟨this, hup, hfu, rfl⟩
      · have hWc : W = c.length := by omega
        have hbs : byt pay (seg es' per (files - 1)) = c := by rw [t3, hWc, List.take_length]
        have hE : syncE k (lastN n files) = 0 := by unfold syncE lastN; rw [hfind, if_neg (by simp), hfu]; rfl
        have hD : syncD k (lastN n files) = withL k (ins (lastF (g (files - 1))) k.L) := by
          unfold syncD lastN
          rw [hfind, if_neg (by simp), if_neg (by rw [hfu]; decide), hold]
          exact burn_none (d := withL k _) hfu
        refine ⟨syncD k (lastN n files), ⟨fun h => absurd h hlt, fun _ => ?_⟩, true, ?_⟩
        · unfold jsync
          rw [if_neg (by simp; omega), hE, if_neg (by simp), if_neg (by omega)]
        · rw [hD]
          have := hheal h0 (d' := withL k (ins (lastF (g (files - 1))) k.L)) (by rw [hbs]; unfold lastF withL; rw [hnm2, ← hc2])
          rw [hlen] at this
          exact ⟨this, hup, hfu, rfl⟩
  obtain ⟨k', hk1, st, hup'⟩ := hk'
  have hcall := open_any (n := n) (per := per) hF h7 hL hd hup hnm ⟨hp1, hp⟩ (fun f hf => by obtain ⟨i, hi, rfl⟩ := hg.inv hf; exact ⟨i, by omega, hg.name i hi⟩) files hg.len (fun i hi => by rw [← hg.name i hi]; exact List.mem_map.2 ⟨_, hg.mem hi, rfl⟩)
    (fun i => readS k (fileN n i)) (seg es' per) (fun i => (byt pay (seg es' per i)).length) (fun i => if (byt pay (seg es' per i)).length = (readS k (fileN n i)).length then 0 else 1) (fun i => (seg es' per i).map pay) files (Nat.le_refl _)
    (fun i hi => by
      obtain ⟨t1, t2, t3, t4, t5⟩ := hTA i hi
      refine ⟨(T.file hup hi).1, rfl, by omega, t1, t4, ?_, by split <;> omega⟩
      rw [List.length_map, seg_len]; omega)
    (fun i hi => by
      obtain ⟨t1, t2, t3, t4, t5⟩ := hTA i hi
      refine ⟨?_, rfl, fun x hx => hok' x (by unfold seg at hx; exact List.mem_of_mem_drop (List.mem_of_mem_take hx))⟩
      unfold badSeg
      rw [List.length_map, seg_len, hlen]
      rintro (h | h | ⟨h, h5⟩)
      · split at h <;> omega
      · omega
      · rw [t2 h, if_pos rfl] at h5
        have := hge i h
        rw [Nat.succ_mul] at this
        rcases h5 with h5 | h5 <;> omega)
    (fun h => by omega) (by rw [hflat, hlen]; omega) es' hflat W hW c hc k' (fun _ => hk1)
  refine hcall.mono ?_
  rintro e w' (⟨h, _⟩ | ⟨_, l, v, rfl, hm1, hk2⟩)
  · omega
  · rw [hlen] at hm1
    exact ⟨l, v, k', rfl, hm1, hk2, st, hup'⟩
end
end Go.Proofs.YtghnbkkfghfifaaGreatDoor
