/- Several texts in one: Jz, La, Lb, Lc, Lc1, Lc2, Ld, Le, Lf, Lg. -/
import Derived.Test.YtghnbkkfghfifaaGreatDoorMJ
import Derived.Test.YtghnbkkfghfifaaGreatDoorJv
import Derived.Test.YtghnbkkfghfifaaGreatDoorJi
import Derived.Test.YtghnbkkfghfifaaGreatDoorS
import Derived.Test.YtghnbkkfghfifaaGreatDoorEM
import Derived.Test.YtghnbkkfghfifaaGreatDoorKa
/- Rewrites on a disk that is up, plainly. -/
namespace Go.Proofs.YtghnbkkfghfifaaGreatDoor
open D
set_option linter.unusedVariables false
section
variable {α : Type} {pay : α → List UInt8} {n : List UInt8} {per : Nat} {j : Jn α} {st : Bool} {er kp : α → Bool} {zero : α}
theorem short_rw {l : List α} (h : Short pay l) (hz : (pay zero).length ≤ 400) : Short pay (l.map (rw1 er kp zero)) := by
  intro y hy
  obtain ⟨x, hx, rfl⟩ := List.mem_map.1 hy
  unfold rw1
  split
  · exact hz
  · exact h x hx
theorem Up.rew1 (h : Up pay n per j st) (hz : (pay zero).length ≤ 400) {k : Nat} (hk : k < j.files) :
    ∃ j' st', jrew1 pay n per er kp zero k j = (j', cnt er kp (seg j.es per k), 0) ∧ Up pay n per j' st' ∧ j'.files = j.files ∧ j'.lasts = (if cnt er kp (seg j.es per k) ≠ 0 ∧ k + 1 = j.files then j.es.length else j.lasts) := by
  unfold jrew1
  by_cases hc : cnt er kp (seg j.es per k) = 0
  · rw [if_pos hc]
    exact ⟨j, st, by rw [hc], h, rfl, by rw [if_neg (by simp [hc])]⟩
  · rw [if_neg hc]
    have hsh : Short pay ((seg j.es per k).map (rw1 er kp zero)) := short_rw (fun x hx => h.lie.short x (by
      unfold seg at hx
      exact List.mem_of_mem_drop (List.mem_of_mem_take hx))) hz
    have hbl := byt_len pay hsh
    have hsl : ((seg j.es per k).map (rw1 er kp zero)).length ≤ 2000 := by
      rw [List.length_map, seg_len]
      have := h.lie.few
      omega
    have hfl := h.lie.files_le
    have hhold := h.lie.hold h.up (k := k) (by omega) (more := moreR j.dk (fileN n k) (byt pay ((seg j.es per k).map (rw1 er kp zero)))) (by unfold moreR; omega)
    have hE : replaceE j.dk (fileN n k) (byt pay ((seg j.es per k).map (rw1 er kp zero))) = 0 := by unfold replaceE; rw [hhold, if_neg (by simp), h.fuse]; rfl
    have hD : replaceD j.dk (fileN n k) (byt pay ((seg j.es per k).map (rw1 er kp zero))) = withL j.dk (ins ⟨fileN n k, byt pay ((seg j.es per k).map (rw1 er kp zero)), (byt pay ((seg j.es per k).map (rw1 er kp zero))).length, true⟩ j.dk.L) := by
      unfold replaceD
      rw [hhold, if_neg (by simp), if_neg (by rw [h.fuse]; decide)]
      exact burn_none (d := withL j.dk _) h.fuse
    rw [if_neg (by rw [hE]; simp), hD]
    exact ⟨_, _, rfl, ⟨h.lie.put hk (by simp) hsh (d' := withL j.dk (ins ⟨fileN n k, byt pay ((seg j.es per k).map (rw1 er kp zero)), (byt pay ((seg j.es per k).map (rw1 er kp zero))).length, true⟩ j.dk.L)) rfl, h.up, h.fuse, rfl⟩, rfl, by
      show (if k + 1 = j.files then _ else _) = _
      by_cases hl : k + 1 = j.files
      · rw [if_pos hl, if_pos ⟨hc, hl⟩]
      · rw [if_neg hl, if_neg (fun e => hl e.2)]⟩
theorem Up.ge (h : Up pay n per j st) : (j.files - 1) * per ≤ j.es.length := Nat.le_trans h.lie.shp.ge h.lie.shp.lasts
theorem Up.rews (h : Up pay n per j st) (hz : (pay zero).length ≤ 400) : ∀ i, i ≤ j.files → ∃ j' st' c, jrews pay n per er kp zero (List.range i) j 0 = (j', c, 0) ∧ Up pay n per j' st' ∧ j'.files = j.files ∧ j'.es.length = j.es.length ∧ j'.lasts = (if cnt er kp (seg j.es per (j.files - 1)) ≠ 0 ∧ i = j.files ∧ 0 < i then j.es.length else j.lasts)
  | 0, _ => ⟨j, st, 0, rfl, h, rfl, rfl, by rw [if_neg (fun e => by omega)]⟩
  | i + 1, hi => by
    obtain ⟨j1, st1, c1, e1, h1, hf1, hl1, hla1⟩ := Up.rews h hz i (by omega)
    have hge := h.ge
    have hil : i * per ≤ j.es.length := Nat.le_trans (Nat.mul_le_mul_right _ (by omega)) hge
    obtain ⟨b1, b2, b3, b4⟩ := jrews_ok pay n per er kp zero (j := j) i (by
      rcases Nat.eq_zero_or_pos i with h0 | h0
      · exact .inl h0
      · exact .inr (Nat.le_trans (Nat.mul_le_mul_right _ (by omega)) hil)) (by rw [e1])
    rw [e1] at b3
    have hs := b3 i
    rw [if_neg (by omega)] at hs
    obtain ⟨j2, st2, e2, h2, hf2, hla2⟩ := h1.rew1 (er := er) (kp := kp) hz (k := i) (by omega)
    have hes : j2.es.length = j1.es.length := by
      have hfit : i * per + ((seg j1.es per i).map (rw1 er kp zero)).length ≤ j1.es.length := by rw [List.length_map, seg_len]; omega
      rcases jrew1_es pay n per er kp zero i j1 (by rw [e2]) with e | ⟨e, _⟩
      · rw [e2] at e
        rw [e, putSeg_len hfit]
      · rw [e2] at e
        rw [e]
    refine ⟨j2, st2, c1 + cnt er kp (seg j1.es per i), ?_, h2, by rw [hf2, hf1], by rw [hes, hl1], ?_⟩
    · rw [List.range_succ, jrews_app pay n per er kp zero _ _ _ _ (by rw [e1]), e1, jrews_cons pay n per er kp zero (by rw [e2]), e2]
      rfl
    · rw [hla2, hs, hl1, hf1]
      by_cases hlast : i + 1 = j.files
      · have e3 : j.files - 1 = i := by omega
        rw [e3]
        by_cases hc : cnt er kp (seg j.es per i) = 0
        · rw [if_neg (fun e => e.1 hc), if_neg (fun e => e.1 hc), hla1, if_neg (fun e => by omega)]
        · rw [if_pos ⟨hc, hlast⟩, if_pos ⟨hc, hlast, by omega⟩]
      · rw [if_neg (fun e => hlast e.2), if_neg (fun e => hlast e.2.1), hla1, if_neg (fun e => by omega)]
theorem segs_eq {a b : List α} {per f : Nat} (ha : a.length ≤ f * per) (hb : b.length ≤ f * per) (h : ∀ k, k < f → seg a per k = seg b per k) : a = b := by
  rw [← segs_all ha, ← segs_all hb]
  congr 1
  exact List.map_congr_left fun k hk => h k (List.mem_range.1 hk)
theorem seg_map {β : Type} (f : α → β) (l : List α) (per k : Nat) : seg (l.map f) per k = (seg l per k).map f := by unfold seg; rw [List.map_take, List.map_drop]
theorem cnt_flat (ls : List (List α)) : cnt er kp ls.flatten = (ls.map (cnt er kp)).sum := by unfold cnt; rw [List.countP_flatten]
/-- A Rewrite where nothing fails. -/
theorem Up.rewrite (h : Up pay n per j st) (hz : (pay zero).length ≤ 400) : ∃ j' st', jrews pay n per er kp zero (List.range j.files) j 0 = (j', cnt er kp j.es, 0) ∧ Up pay n per j' st' ∧ j'.files = j.files ∧ j'.es = j.es.map (rw1 er kp zero) ∧ j'.lasts = (if cnt er kp (seg j.es per (j.files - 1)) ≠ 0 ∧ 0 < j.files then j.es.length else j.lasts) := by
  obtain ⟨j', st', c, e, h1, hf, hl, hla⟩ := h.rews (er := er) (kp := kp) (zero := zero) hz j.files (Nat.le_refl _)
  have hge := h.ge
  have hle := h.lie.shp.le
  obtain ⟨b1, b2, b3, b4⟩ := jrews_ok pay n per er kp zero (j := j) j.files (.inr hge) (by rw [e])
  rw [e] at b3 b4
  simp only at b3 b4
  have hc : c = cnt er kp j.es := by
    rw [b4]
    conv => rhs; rw [← segs_all hle]
    rw [cnt_flat, List.map_map]
    rfl
  refine ⟨j', st', by rw [e, hc], h1, hf, ?_, ?_⟩
  · refine segs_eq (per := per) (f := j.files) (by rw [hl]; exact hle) (by rw [List.length_map]; exact hle) (fun k hk => ?_)
    rw [b3 k, if_pos hk, seg_map]
  · rw [hla]
    by_cases hcz : cnt er kp (seg j.es per (j.files - 1)) ≠ 0 ∧ 0 < j.files
    · rw [if_pos hcz, if_pos ⟨hcz.1, rfl, hcz.2⟩]
    · rw [if_neg hcz, if_neg (fun e => hcz ⟨e.1, e.2.2⟩)]
/-- Where nothing is torn, all is whole. -/
theorem Lie.tn_all {d : Dk} {files : Nat} {es : List α} {lasts : Nat} (h : Lie pay n per d files es lasts st) : tnN pay per files es (byt pay (seg es per (files - 1))).length = es.length := by
  have hle := h.shp.le
  have hge := Nat.le_trans h.shp.ge h.shp.lasts
  have hp := h.shp.pos
  unfold tnN
  split
  · rename_i h0; rw [h0] at hle; omega
  · rename_i h0
    have hww := want_whole ((seg es per (files - 1)).map pay) (byt pay (seg es per (files - 1))).length (Nat.le_refl _)
    rw [hww]
    simp only
    rw [List.length_map, seg_len]
    have : files * per = (files - 1) * per + per := by conv => lhs; rw [← Nat.sub_add_cancel (show 1 ≤ files by omega), Nat.succ_mul]
    omega
end
end Go.Proofs.YtghnbkkfghfifaaGreatDoor
/- A journal on a disk that may have a fuse, plainly. -/
namespace Go.Proofs.YtghnbkkfghfifaaGreatDoor
open D
set_option linter.unusedVariables false
section
variable {α : Type} (pay : α → List UInt8) (n : List UInt8) (per : Nat)
/-- A journal that isn't stuck, on a disk that is up, whatever its fuse. -/
structure Lit (j : Jn α) (st : Bool) : Prop where
  lie : Lie pay n per j.dk j.files j.es j.lasts st
  up : j.dk.down = false
  stuck : j.stuck = 0
/-- One that is stuck: the disk is down. -/
structure Dim (j : Jn α) (files : Nat) (es : List α) (st : Bool) : Prop where
  lie : Lie pay n per j.dk files es j.lasts st
  down : j.dk.down = true
  stuck : j.stuck = 8
  pre : j.es <+: es
  le : j.lasts ≤ j.es.length
variable {pay n per} {j : Jn α} {st : Bool} {er kp : α → Bool} {zero : α}
theorem Up.lit (h : Up pay n per j st) : Lit pay n per j st := ⟨h.lie, h.up, h.stuck⟩
theorem burn_L (d : Dk) : (burn d).L = d.L := (burn_E d).2.2
theorem burn_up {d : Dk} (h : d.fuse ≠ 0) : (burn d).down = d.down := by
  unfold burn
  by_cases h1 : d.fuse = -1
  · rw [if_pos h1]
  · rw [if_neg h1, if_neg h]
theorem burn_up' {d : Dk} {L : List Fl} (h : d.fuse ≠ 0) (hu : d.down = false) : (burn (withL d L)).down = false := (burn_up (d := withL d L) h).trans hu
theorem burn_down {d : Dk} (h : d.fuse = 0) : (burn d).down = true := by
  unfold burn
  rw [if_neg (by omega), if_pos h]
theorem burnE_zero : burnE 0 = 8 := by decide
theorem burnE_not {f : Int} (h : f ≠ 0) : burnE f = 0 := by unfold burnE; rw [if_neg h]
theorem Lit.rew1 (h : Lit pay n per j st) (hz : (pay zero).length ≤ 400) {k : Nat} (hk : k < j.files) :
    (∃ j' st', jrew1 pay n per er kp zero k j = (j', cnt er kp (seg j.es per k), 0) ∧ Lit pay n per j' st' ∧ j'.files = j.files ∧ (j.lasts = j.es.length → j'.lasts = j.es.length)) ∨
    (∃ j', jrew1 pay n per er kp zero k j = (j', 0, 8) ∧ Dim pay n per j' j.files j.es st ∧ j'.files = j.files ∧ j'.es = j.es ∧ j'.lasts = j.lasts) := by
  unfold jrew1
  by_cases hc : cnt er kp (seg j.es per k) = 0
  · rw [if_pos hc]
    exact .inl ⟨j, st, by rw [hc], h, rfl, id⟩
  · rw [if_neg hc]
    have hsh : Short pay ((seg j.es per k).map (rw1 er kp zero)) := short_rw (fun x hx => h.lie.short x (by
      unfold seg at hx
      exact List.mem_of_mem_drop (List.mem_of_mem_take hx))) hz
    have hbl := byt_len pay hsh
    have hsl : ((seg j.es per k).map (rw1 er kp zero)).length ≤ 2000 := by
      rw [List.length_map, seg_len]
      have := h.lie.few
      omega
    have hfl := h.lie.files_le
    have hhold := h.lie.hold h.up (k := k) (by omega) (more := moreR j.dk (fileN n k) (byt pay ((seg j.es per k).map (rw1 er kp zero)))) (by unfold moreR; omega)
    have hE : replaceE j.dk (fileN n k) (byt pay ((seg j.es per k).map (rw1 er kp zero))) = burnE j.dk.fuse := by unfold replaceE; rw [hhold, if_neg (by simp)]
    by_cases hf : j.dk.fuse = 0
    · right
      have hD : replaceD j.dk (fileN n k) (byt pay ((seg j.es per k).map (rw1 er kp zero))) = burn j.dk := by
        unfold replaceD
        rw [hhold, if_neg (by simp), if_pos hf]
      rw [hE, hf, burnE_zero, if_pos (by decide), hD]
      exact ⟨_, rfl, ⟨h.lie.of (burn_L _), burn_down hf, rfl, List.prefix_refl _, h.lie.shp.lasts⟩, rfl, rfl, rfl⟩
    · left
      have hD : replaceD j.dk (fileN n k) (byt pay ((seg j.es per k).map (rw1 er kp zero))) = burn (withL j.dk (ins ⟨fileN n k, byt pay ((seg j.es per k).map (rw1 er kp zero)), (byt pay ((seg j.es per k).map (rw1 er kp zero))).length, true⟩ j.dk.L)) := by
        unfold replaceD
        rw [hhold, if_neg (by simp), if_neg hf]
      rw [if_neg (by rw [hE, burnE_not hf]; simp), hD]
      refine ⟨_, _, rfl, ⟨h.lie.put hk (by simp) hsh (d' := burn (withL j.dk (ins ⟨fileN n k, byt pay ((seg j.es per k).map (rw1 er kp zero)), (byt pay ((seg j.es per k).map (rw1 er kp zero))).length, true⟩ j.dk.L))) (burn_L _), burn_up' hf h.up, rfl⟩, rfl, fun e => ?_⟩
      show (if k + 1 = j.files then _ else _) = _
      split
      · rfl
      · exact e
/-- A Rewrite that a fuse may cut off: the first segments are done. -/
theorem Lit.rews (h : Lit pay n per j st) (hz : (pay zero).length ≤ 400) (hla : j.lasts = j.es.length) : ∀ i, i ≤ j.files → ∃ j' c e m st', jrews pay n per er kp zero (List.range i) j 0 = (j', c, e) ∧ m ≤ i ∧ j'.files = j.files ∧ j'.es.length = j.es.length ∧ j'.lasts = j.es.length ∧
    (∀ k, seg j'.es per k = if k < m then (seg j.es per k).map (rw1 er kp zero) else seg j.es per k) ∧ c = ((List.range m).map fun k => cnt er kp (seg j.es per k)).sum ∧
    ((e = 0 ∧ m = i ∧ Lit pay n per j' st') ∨ (e = 8 ∧ m < i ∧ Dim pay n per j' j.files j'.es st'))
  | 0, _ => ⟨j, 0, 0, 0, st, rfl, Nat.le_refl _, rfl, rfl, hla, fun k => by rw [if_neg (by omega)], rfl, .inl ⟨rfl, rfl, h⟩⟩
  | i + 1, hi => by
    obtain ⟨j1, c1, e1, m, st1, he, hm, hf1, hl1, hla1, hs1, hc1, hr⟩ := Lit.rews h hz hla i (by omega)
    rw [List.range_succ]
    rcases hr with ⟨rfl, rfl, h1⟩ | ⟨rfl, hmi, h1⟩
    · have hge : (j.files - 1) * per ≤ j.es.length := Nat.le_trans h.lie.shp.ge h.lie.shp.lasts
      have hil : m * per ≤ j.es.length := Nat.le_trans (Nat.mul_le_mul_right _ (by omega)) hge
      have hs := hs1 m
      rw [if_neg (by omega)] at hs
      have hfit : ((seg j1.es per m).map (rw1 er kp zero)).length = (seg j1.es per m).length := by simp
      have hle : m * per + ((seg j1.es per m).map (rw1 er kp zero)).length ≤ j1.es.length := by rw [hfit, seg_len, hl1]; omega
      rw [jrews_app pay n per er kp zero _ _ _ _ (by rw [he]), he]
      rcases h1.rew1 (er := er) (kp := kp) hz (k := m) (by omega) with ⟨j2, st2, e2, h2, hf2, hla2⟩ | ⟨j2, e2, h2, hf2, hes2, hla2⟩
      · have hes := jrew1_es pay n per er kp zero m j1 (by rw [e2])
        rw [e2] at hes
        have hl2 : j2.es.length = j1.es.length := by
          rcases hes with e | ⟨e, _⟩
          · rw [e, putSeg_len hle]
          · rw [e]
        refine ⟨j2, c1 + cnt er kp (seg j1.es per m), 0, m + 1, st2, ?_, Nat.le_refl _, by rw [hf2, hf1], by rw [hl2, hl1], by rw [hla2 (by rw [hla1, hl1]), hl1], fun k => ?_, ?_, .inl ⟨rfl, rfl, h2⟩⟩
        · rw [jrews_cons pay n per er kp zero (by rw [e2]), e2]; rfl
        · rcases hes with e | ⟨e, e3⟩
          · rw [e, seg_put hfit (by rw [hl1]; exact hil)]
            by_cases hk : k = m
            · subst hk
              rw [if_pos rfl, if_pos (by omega), hs]
            · rw [if_neg hk, hs1]
              by_cases hk2 : k < m
              · rw [if_pos hk2, if_pos (by omega)]
              · rw [if_neg hk2, if_neg (by omega)]
          · rw [e, hs1]
            by_cases hk : k = m
            · subst hk
              rw [if_neg (by omega), if_pos (by omega)]
              rw [hs] at e3
              exact (cnt_zero er kp zero e3).symm
            · by_cases hk2 : k < m
              · rw [if_pos hk2, if_pos (by omega)]
              · rw [if_neg hk2, if_neg (by omega)]
        · rw [List.range_succ, List.map_append, List.sum_append, ← hc1, hs]; simp
      · refine ⟨j2, c1, 8, m, st1, ?_, by omega, by rw [hf2, hf1], by rw [hes2, hl1], by rw [hla2, hla1], fun k => by rw [hes2]; exact hs1 k, hc1, .inr ⟨rfl, by omega, ?_⟩⟩
        · unfold jrews
          rw [if_pos (by rw [e2]; simp), e2]
        · rw [hes2]
          rw [hf1] at h2
          exact h2
    · rw [jrews_err pay n per er kp zero _ _ _ _ (by rw [he]; simp), he]
      exact ⟨j1, c1, 8, m, st1, rfl, by omega, hf1, hl1, hla1, hs1, hc1, .inr ⟨rfl, by omega, h1⟩⟩
/-- Sync, whatever the fuse. -/
theorem Lit.sync (h : Lit pay n per j st) : (∃ j', jsync n j = (j', 0) ∧ Lit pay n per j' (if j.files = 0 then st else true) ∧ j'.es = j.es ∧ j'.files = j.files ∧ j'.lasts = j.es.length) ∨
    (∃ j', jsync n j = (j', 8) ∧ Dim pay n per j' j.files j.es st ∧ j'.es = j.es ∧ j'.lasts = j.lasts) := by
  unfold jsync
  by_cases h0 : j.files = 0
  · rw [if_pos (.inr h0), h.stuck]
    have h1 := h.lie.shp.le
    have h2 := h.lie.shp.lasts
    rw [h0, Nat.zero_mul] at h1
    exact .inl ⟨j, rfl, by rw [if_pos h0]; exact h, rfl, rfl, by omega⟩
  · have hf := h.lie.found h.up (k := j.files - 1) (by omega)
    rw [if_neg (by rw [h.stuck]; simp [h0]), if_neg h0]
    have hE : syncE j.dk (lastN n j.files) = burnE j.dk.fuse := by unfold syncE lastN; rw [hf, if_neg (by simp)]
    by_cases hfu : j.dk.fuse = 0
    · have hD : syncD j.dk (lastN n j.files) = burn j.dk := by
        unfold syncD lastN
        rw [hf, if_neg (by simp), if_pos hfu]
      rw [hE, hfu, burnE_zero, if_pos (by decide), hD]
      exact .inr ⟨_, rfl, ⟨h.lie.of (burn_L _), burn_down hfu, rfl, List.prefix_refl _, h.lie.shp.lasts⟩, rfl, rfl⟩
    · have hD : syncD j.dk (lastN n j.files) = burn (withL j.dk (ins (lastF (old (fileN n (j.files - 1)) j.dk.L)) j.dk.L)) := by
        unfold syncD lastN
        rw [hf, if_neg (by simp), if_neg hfu]
      rw [if_neg (by rw [hE, burnE_not hfu]; simp), hD]
      exact .inl ⟨_, rfl, ⟨h.lie.sync (by omega) (burn_L _), burn_up' hfu h.up, rfl⟩, rfl, rfl, rfl⟩
theorem Lit.jput (h : Lit pay n per j st) (x : α) (hx : (pay x).length ≤ 400) (hf : j.es.length + 1 ≤ 2000) (hst : j.es.length = j.files * per → (0 < j.files → st = true) ∧ j.lasts = j.es.length) :
    (∃ j' st', jput pay n per x j = (j', 0) ∧ Lit pay n per j' st' ∧ j'.es = j.es ++ [x]) ∨ (∃ j' f' st', jput pay n per x j = (j', 8) ∧ Dim pay n per j' f' (j.es ++ [x]) st' ∧ j'.es = j.es) := by
  have hp := h.lie.shp.pos
  have hfl := h.lie.files_le
  have hle := h.lie.shp.le
  have hk : j.es.length / per ≤ j.files := by
    have := Nat.div_le_div_right (c := per) hle
    rw [Nat.mul_div_cancel _ hp] at this
    exact this
  have hhold := h.lie.hold h.up (k := j.es.length / per) (by omega) (more := (F.frameL (pay x)).length) (by rw [F.frameL_len]; omega)
  have hE : appendE j.dk (fileN n (j.es.length / per)) (F.frameL (pay x)) = burnE j.dk.fuse := by unfold appendE; rw [hhold, if_neg (by simp)]
  have hD : appendD j.dk (fileN n (j.es.length / per)) (F.frameL (pay x)) = burn (withL j.dk (ins (addF (old (fileN n (j.es.length / per)) j.dk.L) (F.frameL (pay x))) j.dk.L)) := by
    unfold appendD
    rw [hhold, if_neg (by simp)]
  have hlie : ∃ f' st', j.es.length / per + 1 = f' ∧ Lie pay n per (burn (withL j.dk (ins (addF (old (fileN n (j.es.length / per)) j.dk.L) (F.frameL (pay x))) j.dk.L))) f' (j.es ++ [x]) j.lasts st' := by
    rcases Nat.lt_or_ge j.es.length (j.files * per) with hl | hl
    · obtain ⟨h1, h2⟩ := h.lie.more hl x hx hf (d' := burn (withL j.dk (ins (addF (old (fileN n (j.es.length / per)) j.dk.L) (F.frameL (pay x))) j.dk.L))) (burn_L _)
      exact ⟨_, st, h1, h2⟩
    · have hl' : j.es.length = j.files * per := Nat.le_antisymm hle hl
      obtain ⟨h3, h4⟩ := hst hl'
      obtain ⟨h1, h2⟩ := h.lie.next hl' h3 h4 x hx hf (d' := burn (withL j.dk (ins (addF (old (fileN n (j.es.length / per)) j.dk.L) (F.frameL (pay x))) j.dk.L))) (burn_L _)
      exact ⟨_, false, by rw [h1], h2⟩
  obtain ⟨f', st', hf', h2⟩ := hlie
  unfold Go.Proofs.YtghnbkkfghfifaaGreatDoor.jput
  by_cases hfu : j.dk.fuse = 0
  · rw [hE, hfu, burnE_zero, if_pos (by decide), hD]
    exact .inr ⟨_, f', st', rfl, ⟨h2, burn_down (d := withL j.dk _) hfu, rfl, List.prefix_append _ _, h.lie.shp.lasts⟩, rfl⟩
  · rw [if_neg (by rw [hE, burnE_not hfu]; simp), hD]
    exact .inl ⟨_, st', rfl, ⟨by rw [hf']; exact h2, burn_up' hfu h.up, rfl⟩, rfl⟩
theorem Lit.add (h : Lit pay n per j st) (x : α) (hx : (pay x).length ≤ 400) (hf : j.es.length + 1 ≤ 2000) :
    (∃ j' st', jadd pay n per x j = (j', 0) ∧ Lit pay n per j' st' ∧ j'.es = j.es ++ [x]) ∨ (∃ j' f' es' st', jadd pay n per x j = (j', 8) ∧ Dim pay n per j' f' es' st' ∧ j'.es = j.es ∧ es' <+: j.es ++ [x]) := by
  unfold jadd
  by_cases hm : j.es.length % per = 0
  · rw [if_pos hm]
    rcases h.sync with ⟨j1, e1, h1, h2, h3, h4⟩ | ⟨j1, e1, h1, h2, h3⟩
    · rw [e1, if_neg (by simp)]
      rcases h1.jput x hx (by rw [h2]; exact hf) (fun hl => ⟨fun h0 => by rw [if_neg (by omega)], by rw [h4, h2]⟩) with ⟨j2, st2, e2, g1, g2⟩ | ⟨j2, f2, st2, e2, g1, g2⟩
      · exact .inl ⟨j2, st2, e2, g1, by rw [g2, h2]⟩
      · exact .inr ⟨j2, f2, _, st2, e2, g1, by rw [g2, h2], by rw [h2]; exact List.prefix_refl _⟩
    · rw [e1, if_pos (by simp)]
      exact .inr ⟨j1, j.files, j.es, st, rfl, h1, h2, List.prefix_append _ _⟩
  · rw [if_neg hm]
    rcases h.jput x hx hf (fun hl => absurd (show j.es.length % per = 0 by rw [hl]; exact Nat.mul_mod_left _ _) hm) with ⟨j2, st2, e2, g1, g2⟩ | ⟨j2, f2, st2, e2, g1, g2⟩
    · exact .inl ⟨j2, st2, e2, g1, g2⟩
    · exact .inr ⟨j2, f2, _, st2, e2, g1, g2, List.prefix_refl _⟩
theorem Lit.adds : ∀ (xs : List α) {j : Jn α} {st : Bool}, Lit pay n per j st → Short pay xs → j.es.length + xs.length ≤ 2000 →
    (∃ j' st', jadds pay n per xs j = (j', 0) ∧ Lit pay n per j' st' ∧ j'.es = j.es ++ xs) ∨ (∃ j' f' es' st', jadds pay n per xs j = (j', 8) ∧ Dim pay n per j' f' es' st' ∧ es' <+: j.es ++ xs)
  | [], j, st, h, _, _ => .inl ⟨j, st, rfl, h, by simp⟩
  | x :: r, j, st, h, hs, hl => by
    rw [List.length_cons] at hl
    unfold jadds
    rcases h.add x (hs x (by simp)) (by omega) with ⟨j1, s1, e1, h1, h2⟩ | ⟨j1, f1, es1, s1, e1, h1, h2, h3⟩
    · rw [e1, if_neg (by simp)]
      rcases Lit.adds r h1 (fun y hy => hs y (by simp [hy])) (by rw [h2]; simp; omega) with ⟨j2, s2, e2, g1, g2⟩ | ⟨j2, f2, es2, s2, e2, g1, g2⟩
      · exact .inl ⟨j2, s2, e2, g1, by rw [g2, h2, List.append_assoc]; rfl⟩
      · exact .inr ⟨j2, f2, es2, s2, e2, g1, by rw [h2, List.append_assoc] at g2; exact g2⟩
    · rw [e1, if_pos (by simp)]
      exact .inr ⟨j1, f1, es1, s1, rfl, h1, h3.trans (by rw [show j.es ++ x :: r = (j.es ++ [x]) ++ r by simp]; exact List.prefix_append _ _)⟩
end
end Go.Proofs.YtghnbkkfghfifaaGreatDoor
/- Entries in rows; the reference's answers for a journal. -/
namespace Go.Proofs.YtghnbkkfghfifaaGreatDoor
open Go.RowKit Go.Maps D
set_option linter.unusedVariables false
/-- An entry's cells. -/
def enL (x : Ev) : List Value := evL x ++ [.bool (gone x)]
def ensL (es : List Ev) : List Value := es.flatMap enL
abbrev enV (x : Ev) : Value := .agg #[.string x.s, .int .i64 x.n, .int .i64 x.a, .int .i64 x.k, .string x.p, .string x.i, .int .i64 x.v, .string x.t, .bool (gone x)]
theorem info79 : (Tryz.prog.info? 79).map (fun i => (i.zero, i.size, i.bytes)) = some (some (.agg #[.string ⟨#[]⟩, .int .i64 0, .int .i64 0, .int .i64 0, .string ⟨#[]⟩, .string ⟨#[]⟩, .int .i64 0, .string ⟨#[]⟩, .bool false]), 9, 104) := by kernel_rfl
theorem enL_len (x : Ev) : (enL x).length = 9 := rfl
theorem ensL_cons (x : Ev) (es : List Ev) : ensL (x :: es) = enL x ++ ensL es := by unfold ensL; rw [List.flatMap_cons]
theorem ensL_app (a b : List Ev) : ensL (a ++ b) = ensL a ++ ensL b := by unfold ensL; rw [List.flatMap_append]
theorem ensL_one (x : Ev) : ensL [x] = enL x := by unfold ensL; simp
theorem ensL_len : ∀ es : List Ev, (ensL es).length = es.length * 9
  | [] => rfl
  | e :: es => by
    rw [ensL_cons, List.length_append, ensL_len es, enL_len, List.length_cons]; omega
theorem ensL_get : ∀ (es : List Ev) (i m : Nat) (hi : i < es.length), m < 9 → (ensL es)[i * 9 + m]? = (enL es[i])[m]?
  | e :: es, 0, m, hi, hm => by
    rw [ensL_cons, List.getElem?_append_left (by rw [enL_len]; omega)]; simp
  | e :: es, i + 1, m, hi, hm => by
    rw [ensL_cons, List.getElem?_append_right (by rw [enL_len]; omega), enL_len, show (i + 1) * 9 + m - 9 = i * 9 + m by omega]
    exact ensL_get es i m (by simpa using hi) hm
theorem enL_cell (x : Ev) : ∀ v ∈ enL x, v.oneCell' = true := by
  intro v hv
  unfold enL at hv
  rcases List.mem_append.1 hv with h | h
  · exact evL_one x v h
  · rw [List.mem_singleton.1 h]; rfl
/-- The cells of one of a slice's entries. -/
def EnIn (w : World) (ad : Addr) (j : Nat) (x : Ev) : Prop := ∀ m, m < 9 → w.cell? (ad.add (j * 9 + m)) = (enL x)[m]?
theorem EnIn.cells {w : World} {ad : Addr} {j : Nat} {e : Ev} (h : EnIn w ad j e) : w.cell? (ad.add (j * 9)) = some (.string e.s) ∧ w.cell? ⟨(ad.add (j * 9)).block, (ad.add (j * 9)).off + 1, none⟩ = some (.int .i64 e.n) ∧ w.cell? ⟨(ad.add (j * 9)).block, (ad.add (j * 9)).off + 2, none⟩ = some (.int .i64 e.a) ∧ w.cell? ⟨(ad.add (j * 9)).block, (ad.add (j * 9)).off + 3, none⟩ = some (.int .i64 e.k) ∧ w.cell? ⟨(ad.add (j * 9)).block, (ad.add (j * 9)).off + 4, none⟩ = some (.string e.p) ∧ w.cell? ⟨(ad.add (j * 9)).block, (ad.add (j * 9)).off + 5, none⟩ = some (.string e.i) ∧ w.cell? ⟨(ad.add (j * 9)).block, (ad.add (j * 9)).off + 6, none⟩ = some (.int .i64 e.v) ∧ w.cell? ⟨(ad.add (j * 9)).block, (ad.add (j * 9)).off + 7, none⟩ = some (.string e.t) ∧ w.cell? ⟨(ad.add (j * 9)).block, (ad.add (j * 9)).off + 8, none⟩ = some (.bool (gone e)) := by
  rw [add_pos _ _ _ (by decide), add_pos _ _ _ (by decide), add_pos _ _ _ (by decide), add_pos _ _ _ (by decide), add_pos _ _ _ (by decide), add_pos _ _ _ (by decide), add_pos _ _ _ (by decide), add_pos _ _ _ (by decide)]
  exact ⟨h 0 (by decide), h 1 (by decide), h 2 (by decide), h 3 (by decide), h 4 (by decide), h 5 (by decide), h 6 (by decide), h 7 (by decide), h 8 (by decide)⟩
theorem EnIn.below {w w' : World} {B : Nat} {ad : Addr} {j : Nat} {e : Ev} (h : EnIn w ad j e) (hb : Below B w w') (hl : ad.block < B) : EnIn w' ad j e := fun m hm => by
  rw [← h m hm]
  exact World.cell?_of_block (w := w) (a := ad.add (j * 9 + m)) (hb.block _ (by rw [add_block]; exact hl))
/-- A slice of entries; they lie below B. -/
def Ens (w : World) (B : Nat) (v : Value) (es : List Ev) : Prop := ∃ (q : Option Addr) (cap : Nat), v = .slice q es.length cap ∧ es.length ≤ cap ∧ ∀ (j : Nat) (hj : j < es.length), ∃ ad, q = some ad ∧ ad.block < B ∧ EnIn w ad j es[j]
theorem Ens.shape {w : World} {B : Nat} {v : Value} {es : List Ev} (h : Ens w B v es) : ∃ q cap, v = .slice q es.length cap ∧ es.length ≤ cap := by
  obtain ⟨q, cap, hv, hc, _⟩ := h
  exact ⟨q, cap, hv, hc⟩
theorem Ens.below {w w' : World} {B b : Nat} {v : Value} {es : List Ev} (h : Ens w b v es) (hb : Below B w w') (hl : b ≤ B) : Ens w' b v es := by
  obtain ⟨q, cap, hv, hc, hh⟩ := h
  exact ⟨q, cap, hv, hc, fun j hj => by
    obtain ⟨ad, h1, h2, h3⟩ := hh j hj
    exact ⟨ad, h1, h2, h3.below hb (by omega)⟩⟩
theorem Ens.mono {w : World} {B b : Nat} {v : Value} {es : List Ev} (h : Ens w b v es) (hl : b ≤ B) : Ens w B v es := by
  obtain ⟨q, cap, hv, hc, hh⟩ := h
  exact ⟨q, cap, hv, hc, fun j hj => by
    obtain ⟨ad, h1, h2, h3⟩ := hh j hj
    exact ⟨ad, h1, by omega, h3⟩⟩
theorem Ens.at {w : World} {B : Nat} {q : Option Addr} {cap : Nat} {es : List Ev} (h : Ens w B (.slice q es.length cap) es) (j : Nat) (hj : j < es.length) : ∃ ad, q = some ad ∧ ad.block < B ∧ EnIn w ad j es[j] := by
  obtain ⟨q', cap', hv, hc, hh⟩ := h
  cases hv
  exact hh j hj
theorem Ens.nil (w : World) (B cap : Nat) (q : Option Addr) : Ens w B (.slice q 0 cap) [] := ⟨q, cap, rfl, Nat.zero_le _, fun j hj => by cases hj⟩
theorem Ens.take {w : World} {B : Nat} {q : Option Addr} {n cap : Nat} {es : List Ev} (h : Ens w B (.slice q n cap) es) (K : Nat) (hK : K ≤ es.length) : Ens w B (.slice q K cap) (es.take K) := by
  obtain ⟨q', cap', hv, hc, hh⟩ := h
  cases hv
  have hl : (es.take K).length = K := by rw [List.length_take]; omega
  refine ⟨q, cap, by rw [hl], by omega, fun j hj => ?_⟩
  rw [List.getElem_take]
  exact hh j (by omega)
theorem Ens.drop {w : World} {B : Nat} {q : Option Addr} {n cap : Nat} {es : List Ev} (h : Ens w B (.slice q n cap) es) (K : Nat) (hK : K ≤ es.length) : Ens w B (.slice (if cap = K then q else q.map (fun x => x.add (K * 9))) (n - K) (cap - K)) (es.drop K) := by
  obtain ⟨q', cap', hv, hc, hh⟩ := h
  cases hv
  have hl : (es.drop K).length = es.length - K := by rw [List.length_drop]
  refine ⟨_, _, by rw [hl], by omega, fun j hj => ?_⟩
  obtain ⟨ad, rfl, h2, h3⟩ := hh (K + j) (by omega)
  rw [if_neg (by omega)]
  refine ⟨ad.add (K * 9), rfl, by rw [add_block]; exact h2, fun m hm => ?_⟩
  rw [List.getElem_drop, ← h3 m hm]
  congr 1
  rw [Addr.add_add]
  congr 1
  omega
/-- A row of entries. -/
def EnRow (w : World) (base : Nat) (v : Value) (es : List Ev) : Prop := w.ownsRow base 79 9 v es.length (ensL es)
theorem EnRow.ens {w : World} {base : Nat} {v : Value} {es : List Ev} (h : EnRow w base v es) : Ens w w.heap.size v es := by
  have hh := h
  rcases h.2 with ⟨hv, h0⟩ | ⟨g, cap, cur, hv, hb, hg, hc, _⟩
  · exact ⟨none, 0, by rw [hv, h0], by omega, fun j hj => by omega⟩
  · subst hv
    refine ⟨some ⟨g, 0, none⟩, cap, rfl, hc, fun j hj => ⟨_, rfl, lt_of_block hg, fun m hm => ?_⟩⟩
    have e := ensL_get es j m hj hm
    have h9 : (enL es[j]).length = 9 := rfl
    rw [List.getElem?_eq_getElem (show m < (enL es[j]).length by omega)] at e ⊢
    exact World.ownsRow.cells hh rfl _ _ e
theorem EnRow.nil (w : World) (base : Nat) : EnRow w base (.slice none 0 0) [] := World.ownsRow_nil w base 79 9
theorem EnRow.below {w w' : World} {base B : Nat} {v : Value} {l : List Ev} (h : EnRow w base v l) (hb : Below B w w') (hB : w.heap.size ≤ B) : EnRow w' base v l := by
  obtain ⟨h1, h2⟩ := h
  refine ⟨h1, ?_⟩
  rcases h2 with h2 | ⟨g, cap, cur, e, hg, hh, r⟩
  · exact .inl h2
  · exact .inr ⟨g, cap, cur, e, hg, by rw [hb.block g (Nat.lt_of_lt_of_le (lt_of_block hh) hB)]; exact hh, r⟩
theorem EnRow.keptF {w w' : World} {G : Nat → Prop} {base : Nat} {v : Value} {l : List Ev} (h : EnRow w base v l) (hk : Kept G w w') (hv : ∀ g, base ≤ g → g < w.heap.size → ¬ G g) : EnRow w' base v l := by
  obtain ⟨h1, h2⟩ := h
  refine ⟨h1, ?_⟩
  rcases h2 with h2 | ⟨g, cap, cur, e, hg, hh, r⟩
  · exact .inl h2
  · exact .inr ⟨g, cap, cur, e, hg, by rw [hk.block g (lt_of_block hh) (hv g hg (lt_of_block hh))]; exact hh, r⟩
theorem EnRow.shape {w : World} {base : Nat} {v : Value} {es : List Ev} (h : EnRow w base v es) : ∃ q cap, v = .slice q es.length cap := by
  obtain ⟨q, cap, hv, _⟩ := h.ens
  exact ⟨q, cap, hv⟩
/-- A slice of numbers; they lie below B. -/
def Nums (w : World) (B : Nat) (v : Value) (ks : List Nat) : Prop := ∃ (q : Option Addr) (cap : Nat), v = .slice q ks.length cap ∧ ∀ (j : Nat) (hj : j < ks.length), ∃ ad, q = some ad ∧ ad.block < B ∧ w.cell? (ad.add j) = some (.int .i64 (ks[j] : Int))
theorem IntRow.nums {w : World} {base : Nat} {v : Value} {ks : List Nat} (h : IntRow w base v ks) : Nums w w.heap.size v ks := by
  have hh := h
  rcases h.2 with ⟨hv, h0⟩ | ⟨g, cap, cur, hv, hb, hg, hc, _⟩
  · exact ⟨none, 0, by rw [hv, h0], fun j hj => by omega⟩
  · subst hv
    refine ⟨some ⟨g, 0, none⟩, cap, rfl, fun j hj => ⟨_, rfl, lt_of_block hg, ?_⟩⟩
    have e : (intL ks)[j]? = some (.int .i64 (ks[j] : Int)) := by unfold intL; rw [List.getElem?_map, List.getElem?_eq_getElem hj]; rfl
    have := World.ownsRow.cells hh rfl _ _ e
    exact this
theorem Nums.below {w w' : World} {B b : Nat} {v : Value} {ks : List Nat} (h : Nums w b v ks) (hb : Below B w w') (hl : b ≤ B) : Nums w' b v ks := by
  obtain ⟨q, cap, hv, hh⟩ := h
  refine ⟨q, cap, hv, fun j hj => ?_⟩
  obtain ⟨ad, h1, h2, h3⟩ := hh j hj
  refine ⟨ad, h1, h2, ?_⟩
  rw [← h3]
  exact World.cell?_of_block (w := w) (a := ad.add j) (hb.block _ (by rw [add_block]; omega))
theorem Nums.mono {w : World} {B b : Nat} {v : Value} {ks : List Nat} (h : Nums w b v ks) (hl : b ≤ B) : Nums w B v ks := by
  obtain ⟨q, cap, hv, hh⟩ := h
  refine ⟨q, cap, hv, fun j hj => ?_⟩
  obtain ⟨ad, h1, h2, h3⟩ := hh j hj
  exact ⟨ad, h1, by omega, h3⟩
theorem Nums.at {w : World} {B : Nat} {q : Option Addr} {cap : Nat} {ks : List Nat} (h : Nums w B (.slice q ks.length cap) ks) (j : Nat) (hj : j < ks.length) : ∃ ad, q = some ad ∧ ad.block < B ∧ w.cell? (ad.add j) = some (.int .i64 (ks[j] : Int)) := by
  obtain ⟨q', cap', hv, hh⟩ := h
  cases hv
  exact hh j hj
section
/-- Segments. -/
theorem rsegs_any (m per : Nat) (hp : 1 ≤ per ∧ per ≤ 4096) (hm : m ≤ 1000000) (w : World) : Calls Tryz.prog 18 #[.int .i64 (m : Int), .int .i64 (per : Int)] w fun e w' => e = .returned (.int .i64 ((((m + per - 1) / per : Nat)) : Int)) ∧ w' = w := by
  obtain ⟨A, hA⟩ : ∃ A, m + per = A := ⟨_, rfl⟩
  obtain ⟨B, hB⟩ : ∃ B, m + per - 1 = B := ⟨_, rfl⟩
  obtain ⟨Q, hQ⟩ : ∃ Q, B / per = Q := ⟨_, rfl⟩
  have hd : Q ≤ 1005000 := by rw [← hQ]; exact Nat.le_trans (Nat.div_le_self _ _) (by omega)
  have e1 : wrap64 ((m : Int) + (per : Int)) = (A : Int) := by unfold wrap64; omega
  have e2 : wrap64 ((A : Int) - 1) = (B : Int) := by unfold wrap64; omega
  have r2 : ((B : Int)).tdiv (per : Int) = (Q : Int) := by rw [← hQ]; exact (Int.ofNat_tdiv _ _).symm
  have g0 : ((per : Int) == 0) = false := by simp; omega
  have g1 : ¬ (per : Int) = 0 := by omega
  have g2 : ¬ (per : Int) = -1 := by omega
  have g3 : wrap64 (Q : Int) = (Q : Int) := by unfold wrap64; omega
  rw [hB, hQ]
  clear hA hB hQ hm
  go_enter Tryz.func18, Tryz.ntmps18
  go_wp2_with fail
  go_ret
  exact ⟨rfl, rfl⟩
end
end Go.Proofs.YtghnbkkfghfifaaGreatDoor
/- The reference's frames, bytes, segments and names. -/
namespace Go.Proofs.YtghnbkkfghfifaaGreatDoor
open Go.RowKit Go.Maps D
set_option linter.unusedVariables false
set_option maxRecDepth 100000 in
theorem rfile_any (k : Nat) (hk : k ≤ 9223372036854775807) (n : List UInt8) (hn : n.length ≤ 1000) (w : World) : Calls Tryz.prog 20 #[.string (bs n), .int .i64 (k : Int)] w fun e w' => e = .returned (.string (bs (fileN n k))) ∧ Below w.heap.size w w' := by
  obtain ⟨D, hD⟩ : ∃ D, bs (Lib.decDigits k) = D := ⟨_, rfl⟩
  have HD := Lib.hid (E.digits_any k hk w)
  have HN : Hid (bs n ++ ⟨#[46]⟩ ++ D = bs (fileN n k)) := Lib.hid (by rw [← hD]; exact name_eq n k)
  have s1 : (bs n).size ≤ 1000 := by rw [bs_size]; exact hn
  have s2 : D.size ≤ 19 := by rw [← hD, bs_size]; exact dec_len 18 k (by omega)
  have s3 : (⟨#[46]⟩ : ByteArray).size = 1 := rfl
  have s4 : (bs n ++ ⟨#[46]⟩).size ≤ 1001 := by rw [ByteArray.size_append]; omega
  rw [show E.bs (Lib.decDigits k) = D from hD] at HD
  clear hD hn
  go_enter Tryz.func20, Tryz.ntmps20
  go_wp2_with fail
  refine (HD.out).mono ?_
  rintro e w1 ⟨rfl, hb⟩
  go_wp2_with fail
  go_ret
  exact ⟨by rw [HN.out]; rfl, hb⟩
set_option maxRecDepth 100000 in
theorem rframe_zero (w : World) : Calls Tryz.prog 52 #[.agg #[.string ⟨#[]⟩, .int .i64 0, .int .i64 0, .int .i64 0, .string ⟨#[]⟩, .string ⟨#[]⟩, .int .i64 0, .string ⟨#[]⟩, .bool true]] w fun e w' => e = .returned (.string (bs (F.frameL []))) ∧ Below w.heap.size w w' := by
  have HS := Lib.hid (fun w1 => F.rseal_any ⟨#[]⟩ [] rfl (by simp) w1)
  go_enter Tryz.func52, Tryz.ntmps52
  go_wp2_with fail
  refine (HS.out _).mono ?_
  rintro e w1 ⟨rfl, hb⟩
  have HB := Lib.hid (((Below.refl _ w).alloc (Nat.le_refl _) _).trans (hb.mono (by rw [World.size_alloc]; omega)))
  clear hb
  go_wp2_with fail
  go_ret
  exact ⟨rfl, HB.out⟩
set_option maxRecDepth 100000 in
theorem rframe_may (s : ByteArray) (n a k : Nat) (p i : ByteArray) (v : Nat) (t : ByteArray) (hm : E.mayB ⟨s, n, a, k, p, i, v, t⟩ = true) (w : World) :
    Calls Tryz.prog 52 #[.agg #[.string s, .int .i64 n, .int .i64 a, .int .i64 k, .string p, .string i, .int .i64 v, .string t, .bool false]] w fun e w' => e = .returned (.string (bs (F.frameL (pay ⟨s, n, a, k, p, i, v, t⟩)))) ∧ Below w.heap.size w w' := by
  have hf := E.fit_of hm
  have hp := pay_may hm
  have hl := E.encL_len _ hf
  obtain ⟨l, hl'⟩ : ∃ l, E.encL (⟨s, n, a, k, p, i, v, t⟩ : E.Ev) = l := ⟨_, rfl⟩
  have HE := Lib.hid (fun w1 => E.renc_nat s n a k p i v t hf w1)
  rw [hp]
  simp only [hl'] at HE
  rw [hl'] at hl ⊢
  have HS := Lib.hid (fun w1 => F.rseal_any (bs l) l rfl (by omega) w1)
  clear hm hf hp hl hl'
  go_enter Tryz.func52, Tryz.ntmps52
  go_wp2_with fail
  refine (HE.out _).mono ?_
  rintro e w1 ⟨u, rfl, ho, hb⟩
  have ht := (Seen.own ho).text
  have HB := Lib.hid (((Below.refl _ w).alloc (Nat.le_refl _) _).trans (hb.mono (by rw [World.size_alloc]; omega)))
  clear ho hb HE
  go_wp2_with fail
  refine (HS.out _).mono ?_
  rintro e w2 ⟨rfl, hb2⟩
  have HB2 := Lib.hid (HB.out.trans (hb2.mono HB.out.size))
  clear hb2 HB
  go_wp2_with fail
  go_ret
  exact ⟨rfl, HB2.out⟩
theorem rframe_any (x : Ev) (hx : OkE x) (w : World) : Calls Tryz.prog 52 #[enV x] w fun e w' => e = .returned (.string (bs (F.frameL (pay x)))) ∧ Below w.heap.size w w' := by
  rcases hx with rfl | hm
  · exact rframe_zero w
  · have hf := E.fit_of hm
    have hg := gone_may hm
    obtain ⟨s, n, a, k, p, i, v, t⟩ := x
    obtain ⟨n, rfl⟩ := Int.eq_ofNat_of_zero_le (show 0 ≤ n by have := hf.n.1; simp only at this; omega)
    obtain ⟨a, rfl⟩ := Int.eq_ofNat_of_zero_le hf.a.1
    obtain ⟨k, rfl⟩ := Int.eq_ofNat_of_zero_le hf.k.1
    obtain ⟨v, rfl⟩ := Int.eq_ofNat_of_zero_le hf.v.1
    unfold enV
    rw [hg]
    exact rframe_may s n a k p i v t hm w
end Go.Proofs.YtghnbkkfghfifaaGreatDoor
/- The reference's frames, bytes, segments and names. -/
namespace Go.Proofs.YtghnbkkfghfifaaGreatDoor
open Go.RowKit Go.Maps D
set_option linter.unusedVariables false
set_option maxRecDepth 100000 in
set_option maxHeartbeats 1000000 in
theorem rbytes_any (bv : Value) (es : List Ev) (hok : ∀ e ∈ es, OkE e) (hle : es.length ≤ 100000) (w : World) (hv : Ens w w.heap.size bv es) :
    Calls Tryz.prog 21 #[bv] w fun e w' => e = .returned (.string (bs (byt pay es))) ∧ Below w.heap.size w w' := by
  obtain ⟨q, cap, rfl, _⟩ := hv.shape
  have HV := Lib.hid hv
  have HOK := Lib.hid hok
  clear hv hok
  go_enter Tryz.func21, Tryz.ntmps21
  go_wp2_with fail
  go_loopw [3, 4] (fun s i wr => ∃ k : Nat, k ≤ es.length ∧ i = .int .i64 k ∧ s = .string (bs (byt pay (es.take k))) ∧ Hid (Ens wr w.heap.size (.slice q es.length cap) es) ∧ Hid (Below w.heap.size w wr)) (fun _ i _ => es.length - (intOf i).toNat)
  case atStart => exact ⟨0, by omega, rfl, rfl, HV, Lib.hid (Below.refl _ _)⟩
  case round =>
    obtain ⟨k, hk, rfl, rfl, HE, HB⟩ := hrel
    by_cases hlt : k < es.length
    · obtain ⟨ad, rfl, hab, hc⟩ := HE.out.at k hlt
      obtain ⟨c0, c1, c2, c3, c4, c5, c6, c7, c8⟩ := hc.cells
      have hnx : bs (byt pay (es.take k)) ++ bs (F.frameL (pay es[k])) = bs (byt pay (es.take (k + 1))) := by
        rw [List.take_succ_eq_append_getElem hlt, byt_app, byt_one, bs_app]
      have hfr := fun w1 => rframe_any es[k] (HOK.out _ (List.getElem_mem hlt)) w1
      obtain ⟨ev, hev⟩ : ∃ ev, es[k] = ev := ⟨_, rfl⟩
      rw [hev] at c0 c1 c2 c3 c4 c5 c6 c7 c8 hfr hnx
      obtain ⟨G, hG⟩ : ∃ G, gone ev = G := ⟨_, rfl⟩
      unfold enV at hfr
      rw [hG] at c8 hfr
      obtain ⟨X, hX⟩ : ∃ X, bs (byt pay (es.take k)) = X := ⟨_, rfl⟩
      obtain ⟨Y, hY⟩ : ∃ Y, bs (F.frameL (pay ev)) = Y := ⟨_, rfl⟩
      rw [hX, hY] at hnx
      rw [hY] at hfr
      rw [hX]
      have s1 : X.size ≤ 41000000 := by
        rw [← hX, bs_size]
        have h1 := byt_len pay (l := es.take k) (fun x hx => pay_short (HOK.out x (List.mem_of_mem_take hx)))
        rw [List.length_take] at h1
        omega
      have s2 : Y.size ≤ 410 := by
        rw [← hY, bs_size, F.frameL_len, ← hev]
        have := pay_short (HOK.out _ (List.getElem_mem hlt))
        omega
      have HNX := Lib.hid hnx
      have HFR := Lib.hid hfr
      obtain ⟨s, n, a, kd, p, i, v, t⟩ := ev
      simp only at c0 c1 c2 c3 c4 c5 c6 c7 c8 HFR
      clear hev hG hX hY hc hnx hfr
      go_wp2_with fail
      refine (HFR.out _).mono ?_
      rintro e w1 ⟨rfl, hb⟩
      have HE1 := Lib.hid (HE.out.below hb HB.out.size)
      have HB1 := Lib.hid (HB.out.trans (hb.mono HB.out.size))
      clear hb HFR c0 c1 c2 c3 c4 c5 c6 c7 c8 HE HB
      go_wp2_with fail
      exact ⟨⟨k + 1, by omega, by go_num, by rw [HNX.out], HE1, HB1⟩, by simp only [intOf]; omega⟩
    · have hall : es.take k = es := List.take_of_length_le (by omega)
      rw [hall]
      go_wp2_with fail
      go_ret
      exact ⟨rfl, HB.out⟩
end Go.Proofs.YtghnbkkfghfifaaGreatDoor
/- The reference's frames, bytes, segments and names. -/
namespace Go.Proofs.YtghnbkkfghfifaaGreatDoor
open Go.RowKit Go.Maps D
set_option linter.unusedVariables false
/-- The slice of a segment's entries. -/
def segV (q : Option Addr) (cap L per k : Nat) : Value := .slice (if cap = k * per then q else q.map (fun x => x.add (k * per * 9))) (min (k * per + per) L - k * per) (cap - k * per)
theorem Ens.seg {w : World} {B : Nat} {q : Option Addr} {cap : Nat} {es : List Ev} (h : Ens w B (.slice q es.length cap) es) (per k : Nat) (hk : k * per ≤ es.length) : Ens w B (segV q cap es.length per k) (seg es per k) := by
  have h1 := h.drop (k * per) hk
  have h2 := h1.take (min (k * per + per) es.length - k * per) (by rw [List.length_drop]; omega)
  have : YtghnbkkfghfifaaGreatDoor.seg es per k = (es.drop (k * per)).take (min (k * per + per) es.length - k * per) := by
    unfold YtghnbkkfghfifaaGreatDoor.seg
    refine List.take_eq_take_iff.2 ?_
    rw [List.length_drop]
    omega
  rw [this]
  exact h2
set_option maxRecDepth 100000 in
set_option maxHeartbeats 1000000 in
theorem rsegm_any (q : Option Addr) (cap : Nat) (es : List Ev) (per k : Nat) (hp : 1 ≤ per ∧ per ≤ 4096) (hk : k * per ≤ es.length) (hle : es.length ≤ 100000) (w : World) (B : Nat) (hv : Ens w B (.slice q es.length cap) es) :
    Calls Tryz.prog 22 #[.slice q es.length cap, .int .i64 (per : Int), .int .i64 (k : Int)] w fun e w' => e = .returned (segV q cap es.length per k) ∧ w' = w := by
  have hcap : es.length ≤ cap := by obtain ⟨q', cap', h1, h2, _⟩ := hv; cases h1; exact h2
  obtain ⟨L, hL⟩ : ∃ L, es.length = L := ⟨_, rfl⟩
  obtain ⟨lo, hlo⟩ : ∃ lo, k * per = lo := ⟨_, rfl⟩
  obtain ⟨hi, hhi⟩ : ∃ hi, min (lo + per) L = hi := ⟨_, rfl⟩
  have hk1 : k ≤ 100000 := by
    have := Nat.mul_le_mul_left k hp.1
    omega
  unfold segV
  rw [hlo, hL, hhi]
  have hlh : lo ≤ hi := by omega
  have hhL : hi ≤ L := by omega
  have hup : lo + per ≤ 104096 := by omega
  have HC1 : Hid (L < lo + per → hi = L) := Lib.hid (by omega)
  have HC2 : Hid (¬ L < lo + per → hi - lo = per ∧ (hi : Int) = (lo : Int) + (per : Int)) := Lib.hid (by omega)
  have e1 : (k : Int) * (per : Int) = (lo : Int) := by rw [← hlo]; simp
  have e2 : wrap64 ((lo : Int)) = (lo : Int) := by unfold wrap64; omega
  have e3 : wrap64 ((k : Int) + 1) = (k : Int) + 1 := by unfold wrap64; omega
  have e4 : ((k : Int) + 1) * (per : Int) = (lo : Int) + (per : Int) := by rw [Int.add_mul, e1]; simp
  have e5 : wrap64 ((lo : Int) + (per : Int)) = (lo : Int) + (per : Int) := by unfold wrap64; omega
  have hcap2 : q = none → L = 0 := by
    rintro rfl
    rcases Nat.eq_zero_or_pos L with h | h
    · exact h
    · obtain ⟨ad, h1, _⟩ := hv.at 0 (by omega)
      cases h1
  rw [hL] at hcap
  have f1 : (lo : Int) ≤ (hi : Int) := Int.ofNat_le.2 hlh
  have f2 : (0 : Int) ≤ (lo : Int) := Int.natCast_nonneg _
  have f3 : (hi : Int) ≤ (cap : Int) := Int.ofNat_le.2 (Nat.le_trans hhL hcap)
  have f4 : (0 : Int) ≤ (hi : Int) := Int.natCast_nonneg _
  have f5 : (lo : Int) ≤ (cap : Int) := Int.ofNat_le.2 (Nat.le_trans hlh (Nat.le_trans hhL hcap))
  by_cases hc : L < lo + per
  · have hc1 : (L : Int) < (lo : Int) + (per : Int) := by rw [← Int.natCast_add]; exact Int.ofNat_lt.2 hc
    obtain rfl : hi = L := HC1.out hc
    clear hv hlo hL hhi hk1 hk hle hp hup HC1 HC2 hc
    go_enter Tryz.func22, Tryz.ntmps22
    go_wp2_with fail
    all_goals
      go_ret
      exact ⟨rfl, rfl⟩
  · have hc1 : ¬ (L : Int) < (lo : Int) + (per : Int) := by rw [← Int.natCast_add]; exact fun h => hc (Int.ofNat_lt.1 h)
    obtain ⟨hs3, hiu⟩ := HC2.out hc
    rw [hiu] at f1 f3 f4
    rw [hs3]
    clear hv hlo hL hhi hk1 hk hle hp hup HC1 HC2 hc hiu hs3
    go_enter Tryz.func22, Tryz.ntmps22
    go_wp2_with fail
    all_goals
      go_ret
      exact ⟨rfl, rfl⟩
end Go.Proofs.YtghnbkkfghfifaaGreatDoor
/- The reference's Read, Same, Same of numbers. -/
namespace Go.Proofs.YtghnbkkfghfifaaGreatDoor
open Go.RowKit Go.Maps D
set_option linter.unusedVariables false
set_option maxRecDepth 100000 in
set_option maxHeartbeats 1000000 in
theorem rsame_any (b1 b2 : Value) (es : List Ev) (hle : es.length ≤ 100000) (w : World) (h1 : E.Evs w w.heap.size b1 es) (h2 : E.Evs w w.heap.size b2 es) :
    Calls Tryz.prog 37 #[b1, b2] w fun e w' => e = .returned (.bool true) ∧ Below w.heap.size w w' := by
  obtain ⟨q1, c1, rfl⟩ := h1.shape
  obtain ⟨q2, c2, rfl⟩ := h2.shape
  have H1 := Lib.hid h1
  have H2 := Lib.hid h2
  clear h1 h2
  go_enter Tryz.func37, Tryz.ntmps37
  go_wp2_with fail
  go_loopw [5] (fun i wr => ∃ k : Nat, k ≤ es.length ∧ i = .int .i64 k ∧ Hid (E.Evs wr w.heap.size (.slice q1 es.length c1) es) ∧ Hid (E.Evs wr w.heap.size (.slice q2 es.length c2) es) ∧ Below w.heap.size w wr) (fun i _ => es.length - (intOf i).toNat)
  case atStart => exact ⟨0, by omega, rfl, H1, H2, Below.refl _ _⟩
  case round =>
    obtain ⟨k, hk, rfl, E1, E2, hb⟩ := hrel
    by_cases hlt : k < es.length
    · obtain ⟨ad, rfl, hab, hc⟩ := E1.out.at k hlt
      obtain ⟨ad2, rfl, hab2, hd⟩ := E2.out.at k hlt
      obtain ⟨c0, c1', c2', c3, c4, c5, c6, c7⟩ := hc
      obtain ⟨d0, d1, d2, d3, d4, d5, d6, d7⟩ := hd
      obtain ⟨ev, hev⟩ : ∃ ev, es[k] = ev := ⟨_, rfl⟩
      rw [hev] at c0 c1' c2' c3 c4 c5 c6 c7 d0 d1 d2 d3 d4 d5 d6 d7
      obtain ⟨s, n, a, kd, p, i, v, t⟩ := ev
      simp only at c0 c1' c2' c3 c4 c5 c6 c7 d0 d1 d2 d3 d4 d5 d6 d7
      clear hev
      have HB := Lib.hid hb
      clear hb
      go_wp2
      go_quiet (fail)
      have hb2 : Below w.heap.size w (wr.drewN nq) := E.below_drewN HB.out nq
      have E1' : Hid (E.Evs (wr.drewN nq) w.heap.size (.slice (some ad) es.length c1) es) := E1.out.below (E.below_drewN (Below.refl _ _) nq) (Nat.le_refl _)
      have E2' : Hid (E.Evs (wr.drewN nq) w.heap.size (.slice (some ad2) es.length c2) es) := E2.out.below (E.below_drewN (Below.refl _ _) nq) (Nat.le_refl _)
      clear c0 c1' c2' c3 c4 c5 c6 c7 d0 d1 d2 d3 d4 d5 d6 d7 HB E1 E2
      go_wp2
      go_roundw
      case rel => exact ⟨k + 1, by omega, by go_num, E1', E2', hb2⟩
      case measure => simp [intOf]; omega
    · go_wp2
      go_ret
      exact ⟨rfl, hb⟩
set_option maxRecDepth 100000 in
set_option maxHeartbeats 1000000 in
theorem rnsame_any (b1 b2 : Value) (ks : List Nat) (hle : ks.length ≤ 100000) (w : World) (h1 : Nums w w.heap.size b1 ks) (h2 : Nums w w.heap.size b2 ks) :
    Calls Tryz.prog 60 #[b1, b2] w fun e w' => e = .returned (.bool true) ∧ Below w.heap.size w w' := by
  obtain ⟨q1, c1, rfl, _⟩ := id h1
  obtain ⟨q2, c2, rfl, _⟩ := id h2
  have H1 := Lib.hid h1
  have H2 := Lib.hid h2
  clear h1 h2
  go_enter Tryz.func60, Tryz.ntmps60
  go_wp2_with fail
  go_loopw [5] (fun i wr => ∃ k : Nat, k ≤ ks.length ∧ i = .int .i64 k ∧ Hid (Nums wr w.heap.size (.slice q1 ks.length c1) ks) ∧ Hid (Nums wr w.heap.size (.slice q2 ks.length c2) ks) ∧ Below w.heap.size w wr) (fun i _ => ks.length - (intOf i).toNat)
  case atStart => exact ⟨0, by omega, rfl, H1, H2, Below.refl _ _⟩
  case round =>
    obtain ⟨k, hk, rfl, E1, E2, hb⟩ := hrel
    by_cases hlt : k < ks.length
    · obtain ⟨ad, rfl, hab, c0⟩ := E1.out.at k hlt
      obtain ⟨ad2, rfl, hab2, d0⟩ := E2.out.at k hlt
      obtain ⟨x, hx⟩ : ∃ x, ks[k] = x := ⟨_, rfl⟩
      rw [hx] at c0 d0
      have HB := Lib.hid hb
      clear hb hx
      go_wp2_with fail
      go_quiet (fail)
      have hb2 : Below w.heap.size w (wr.drewN nq) := E.below_drewN HB.out nq
      have E1' : Hid (Nums (wr.drewN nq) w.heap.size (.slice (some ad) ks.length c1) ks) := E1.out.below (E.below_drewN (Below.refl _ _) nq) (Nat.le_refl _)
      have E2' : Hid (Nums (wr.drewN nq) w.heap.size (.slice (some ad2) ks.length c2) ks) := E2.out.below (E.below_drewN (Below.refl _ _) nq) (Nat.le_refl _)
      clear c0 d0 HB E1 E2
      go_wp2_with fail
      exact ⟨⟨k + 1, by omega, by go_num, E1', E2', hb2⟩, by simp only [intOf]; omega⟩
    · go_wp2_with fail
      go_ret
      exact ⟨rfl, hb⟩
set_option maxRecDepth 100000 in
set_option maxHeartbeats 400000 in
theorem rread_any (bv : Value) (es : List Ev) (hle : es.length ≤ 100000) (fr m K : Nat) (hfr : fr ≤ es.length) (hK : K = min m (es.length - fr)) (w : World) (hv : Ens w w.heap.size bv es) :
    Calls Tryz.prog 59 #[bv, .int .i64 (fr : Int), .int .i64 (m : Int)] w fun e w' => ∃ v1 v2, e = .returned (.tuple #[v1, v2]) ∧ EvRow w' w.heap.size v1 (rdE es fr K) ∧ IntRow w' w.heap.size v2 (rdO es fr K) ∧ Below w.heap.size w w' := by
  obtain ⟨i0, hi0, hz0, hz1, hz2⟩ := info52_parts
  obtain ⟨i3, hi3, hy0, hy1, hy2⟩ := info_parts info3
  obtain ⟨q, cap, rfl, _⟩ := hv.shape
  obtain ⟨L, hL⟩ : ∃ L, es.length = L := ⟨_, rfl⟩
  have HV := Lib.hid hv
  rw [hL] at HV hfr hK hle ⊢
  have HL := Lib.hid hL
  have HK := Lib.hid hK
  have HLE := Lib.hid hle
  have HKL : Hid (fr + K ≤ L) := Lib.hid (by omega)
  have HFR := Lib.hid hfr
  clear hv hL hK hle hfr
  go_enter Tryz.func59, Tryz.ntmps59
  go_wp2_with fail
  have hrowE : EvRow ((w.alloc (.cells #[] 52)).alloc (.cells #[] 3)) w.heap.size (.slice (some ⟨w.heap.size, 0, none⟩) 0 0) [] := World.ownsRow.alloc (World.ownsRow_made w #[] 0 (Nat.le_refl _) (by decide) rfl) _
  have hrowO : IntRow ((w.alloc (.cells #[] 52)).alloc (.cells #[] 3)) w.heap.size (.slice (some ⟨w.heap.size + 1, 0, none⟩) 0 0) [] := by
    have := World.ownsRow_made (base := w.heap.size) (e := 3) (size := 1) (w.alloc (.cells #[] 52)) #[] 0 (by rw [World.size_alloc]; omega) (by decide) rfl
    rw [World.size_alloc] at this
    exact this
  have hbw : Below w.heap.size w ((w.alloc (.cells #[] 52)).alloc (.cells #[] 3)) := ((Below.refl _ w).alloc (Nat.le_refl _) _).alloc (by rw [World.size_alloc]; omega) _
  have HRE := Lib.hid hrowE
  have HRO := Lib.hid hrowO
  have HBW := Lib.hid hbw
  clear hrowE hrowO hbw
  go_loopw [8, 9, 10] (fun a b i wr => ∃ k : Nat, k ≤ K ∧ i = .int .i64 ((fr + k : Nat) : Int) ∧ Hid (EvRow wr w.heap.size a (rdE es fr k)) ∧ Hid (IntRow wr w.heap.size b (rdO es fr k)) ∧ Hid (Below w.heap.size w wr)) (fun _ _ i _ => fr + K - (intOf i).toNat)
  case atStart =>
    exact ⟨0, by omega, rfl, HRE, HRO, HBW⟩
  case round =>
    obtain ⟨k, hk, rfl, HE, HO, HB⟩ := hrel
    obtain ⟨M, hM⟩ : ∃ M, fr + k = M := ⟨_, rfl⟩
    have l1 := rdE_len es fr k
    have l2 := rdO_len es fr k
    by_cases hlt : k < K
    · have hke : fr + k < es.length := by rw [HL.out]; have := HKL.out; omega
      obtain ⟨r1, r2⟩ := rd_step hke
      obtain ⟨ad, rfl, hab, hc⟩ := ((HV.out.below HB.out (Nat.le_refl _)) : Ens wr w.heap.size (.slice q L cap) es) |> (fun h => by rw [← HL.out] at h; exact h.at (fr + k) hke)
      obtain ⟨c0, c1, c2, c3, c5, c6, c7, c8, c9⟩ := hc.cells
      have hKm := HK.out
      have E3 : Hid (wrap64 ((M : Int) - (fr : Int)) = (k : Int)) := Lib.hid (by have := HL.out; have := HLE.out; unfold wrap64; omega)
      have g2 : k < m := by omega
      have E5 : Hid (wrap64 ((M : Int) + 1) = ((M : Int) + 1)) := Lib.hid (by have := HL.out; have := HLE.out; unfold wrap64; omega)
      have HN1 : Hid (fr + (k + 1) = M + 1 ∧ k + 1 ≤ K ∧ fr + K - (M + 1) < fr + K - M) := Lib.hid (by have := HKL.out; omega)
      have e4 : M < L := by rw [← HL.out, ← hM]; exact hke
      obtain ⟨ev, hev⟩ : ∃ ev, es[fr + k] = ev := ⟨_, rfl⟩
      rw [hev] at c0 c1 c2 c3 c5 c6 c7 c8 c9 r1 r2
      rw [hM] at c0 c1 c2 c3 c5 c6 c7 c8 c9 r2
      obtain ⟨s, n', a, kd, p, i, vv, t⟩ := ev
      simp only at c0 c1 c2 c3 c5 c6 c7 c8 c9
      have HR1 := Lib.hid r1
      have HR2 := Lib.hid r2
      have HL1 : Hid ((rdE es fr k).length ≤ 1048576) := Lib.hid (by have := HKL.out; have := HLE.out; omega)
      have HL2 : Hid ((rdO es fr k).length ≤ 1048576) := Lib.hid (by have := HKL.out; have := HLE.out; omega)
      have HMM := Lib.hid hM
      rw [hM]
      clear hke r1 r2 hev hM l1 l2 hc hKm
      by_cases hg : gone (⟨s, n', a, kd, p, i, vv, t⟩ : Ev) = true
      · have HX : Hid (rdE es fr (k + 1) = rdE es fr k ∧ rdO es fr (k + 1) = rdO es fr k) := Lib.hid ⟨by rw [HR1.out, if_pos hg]; simp, by rw [HR2.out, if_pos hg]; simp⟩
        rw [hg] at c9
        rw [← HX.out.1] at HE
        rw [← HX.out.2] at HO
        clear HR1 HR2 hg HX
        have e3 := E3.out
        have e5 := E5.out
        clear E3
        go_wp2_with fail
        clear e3 e5
        exact ⟨⟨k + 1, HN1.out.2.1, by rw [HN1.out.1, E5.out]; rfl, HE, HO, HB⟩, by rw [E5.out]; exact HN1.out.2.2⟩
      · have hg' : gone (⟨s, n', a, kd, p, i, vv, t⟩ : Ev) = false := by simpa using hg
        have HX : Hid (rdE es fr (k + 1) = rdE es fr k ++ [⟨s, n', a, kd, p, i, vv, t⟩] ∧ rdO es fr (k + 1) = rdO es fr k ++ [M]) := Lib.hid ⟨by rw [HR1.out, if_neg hg], by rw [HR2.out, if_neg hg]⟩
        rw [hg'] at c9
        have hl1m : (rdE es fr k).length + 1 ≤ maxLen := by have := HL1.out; unfold maxLen; omega
        have hl1b : ((rdE es fr k).length + 1) * 96 ≤ 140737488355328 := by have := HL1.out; omega
        have hl2m : (rdO es fr k).length + 1 ≤ maxLen := by have := HL2.out; unfold maxLen; omega
        have hl2b : ((rdO es fr k).length + 1) * 8 ≤ 140737488355328 := by have := HL2.out; omega
        have H1m := Lib.hid hl1m
        have H1b := Lib.hid hl1b
        have H2m := Lib.hid hl2m
        have H2b := Lib.hid hl2b
        have e3 := E3.out
        have e5 := E5.out
        clear HR1 HR2 hg hg' hl1m hl1b hl2m hl2b E3
        go_wp2_with (first | (at_builtin; refine wpList_append_own _ rfl (.tmp 33) (.tmp 39) 62 rfl w.heap.size 52 i0 _ 8 96 Tryz.underlying62 hi0 hz0 hz1 hz2 rfl (by decide) u8 (rdE es fr k).length (evsL (rdE es fr k)) rfl (World.ownsRow.alloc HE.out _) ⟨wr.heap.size, 0, none⟩ 1 1 (evL ⟨s, n', a, kd, p, i, vv, t⟩) rfl rfl (news_of (w := wr) ⟨s, n', a, kd, p, i, vv, t⟩ wr.heap.size rfl) (evL_one _) H1m.out H1b.out (by rw [World.size_alloc]; exact Nat.le_succ_of_le HB.out.size) ?_; intro v4 w4 hown4 hg4 hn4; have HO4 : Hid (IntRow w4 w.heap.size u9 (rdO es fr k)) := Lib.hid (World.ownsRow.kept (World.ownsRow.alloc HO.out (.cells #[.string s, .int .i64 n', .int .i64 a, .int .i64 kd, .string p, .string i, .int .i64 vv, .string t] 52)) hg4 (rows_apart (by decide) (World.ownsRow.alloc HE.out (.cells #[.string s, .int .i64 n', .int .i64 a, .int .i64 kd, .string p, .string i, .int .i64 vv, .string t] 52)) (World.ownsRow.alloc HO.out (.cells #[.string s, .int .i64 n', .int .i64 a, .int .i64 kd, .string p, .string i, .int .i64 vv, .string t] 52)))); have HE4 : Hid (EvRow w4 w.heap.size v4 (rdE es fr (k + 1))) := Lib.hid (by rw [HX.out.1]; unfold EvRow; rw [List.length_append, evsL_app, evsL_one']; exact hown4); have HB4 : Hid (Below w.heap.size w w4) := Lib.hid ((HB.out.alloc HB.out.size (.cells #[.string s, .int .i64 n', .int .i64 a, .int .i64 kd, .string p, .string i, .int .i64 vv, .string t] 52)).grown hg4 (by rw [World.size_alloc]; exact Nat.le_succ_of_le HB.out.size) (own_block HE.out)); clear hown4 hg4 hn4) | (at_builtin; refine wpList_append_own _ rfl (.tmp 41) (.tmp 43) 54 rfl w.heap.size 3 i3 _ 1 8 Tryz.underlying54 hi3 hy0 hy1 hy2 rfl (by decide) u9 (rdO es fr k).length (intL (rdO es fr k)) rfl (World.ownsRow.alloc HO4.out _) ⟨w4.heap.size, 0, none⟩ 1 1 [.int .i64 (M : Int)] rfl rfl (cell_one _ _ _) (by intro u hu; simp at hu; subst hu; rfl) H2m.out H2b.out (by rw [World.size_alloc]; exact Nat.le_succ_of_le HB4.out.size) ?_; intro v5 w5 hown5 hg5 hn5; have HE5 : Hid (EvRow w5 w.heap.size v4 (rdE es fr (k + 1))) := Lib.hid (World.ownsRow.kept (World.ownsRow.alloc HE4.out (.cells #[.int .i64 (M : Int)] 3)) hg5 (rows_apart (by decide) (World.ownsRow.alloc HO4.out (.cells #[.int .i64 (M : Int)] 3)) (World.ownsRow.alloc HE4.out (.cells #[.int .i64 (M : Int)] 3)))); have HO5 : Hid (IntRow w5 w.heap.size v5 (rdO es fr (k + 1))) := Lib.hid (by rw [HX.out.2]; unfold IntRow; rw [List.length_append]; unfold intL; rw [List.map_append]; exact hown5); have HB5 : Hid (Below w.heap.size w w5) := Lib.hid ((HB4.out.alloc HB4.out.size (.cells #[.int .i64 (M : Int)] 3)).grown hg5 (by rw [World.size_alloc]; exact Nat.le_succ_of_le HB4.out.size) (own_block HO4.out)); clear hown5 hg5 hn5) | fail)
        clear e3 e5
        exact ⟨⟨k + 1, HN1.out.2.1, by rw [HN1.out.1, E5.out]; rfl, HE5, HO5, HB5⟩, by rw [E5.out]; exact HN1.out.2.2⟩
    · obtain rfl : k = K := by omega
      have hKm := HK.out
      rw [hM]
      by_cases h1 : M < L
      · have g1 : ¬ k < m := by omega
        have e3 : wrap64 ((M : Int) - (fr : Int)) = (k : Int) := by have := HLE.out; unfold wrap64; omega
        clear hKm hM l1 l2
        go_wp2_with fail
        go_ret2
        exact ⟨_, _, rfl, HE.out, HO.out, HB.out⟩
      · clear hKm hM l1 l2
        go_wp2_with fail
        go_ret2
        exact ⟨_, _, rfl, HE.out, HO.out, HB.out⟩
end Go.Proofs.YtghnbkkfghfifaaGreatDoor
/- Does a journal tell just this? -/
namespace Go.Proofs.YtghnbkkfghfifaaGreatDoor
open Go.RowKit Go.Maps D
set_option linter.unusedVariables false
section
variable {w : World} {F : Nat → Prop} {d l : Nat} {n : List UInt8} {per : Nat} {v : Value} {j : Jn Ev}
theorem LogM.drop {w' : World} (h : LogM w F d l n per v j) (hb : Below w.heap.size w w') : LogM w' F d l n per v j := h.below hb
set_option maxRecDepth 100000 in
set_option maxHeartbeats 2000000 in
theorem even_any (h : LogM w F d l n per v j) (hok : ∀ e ∈ j.es, OkE e) (hle : j.es.length ≤ 100000) (mv : Value) (L : Nat) (hL : j.lasts = L) (hm : Ens w w.heap.size mv j.es) :
    Calls Tryz.prog 24 #[.pointer (some ⟨l, 0, none⟩), .agg #[mv, .int .i64 (L : Int)]] w fun e w' => e = .returned (.bool true) ∧ Below w.heap.size w w' := by
  obtain ⟨q, cap, rfl, _⟩ := hm.shape
  obtain ⟨N, hN⟩ : ∃ N, j.es.length = N := ⟨_, rfl⟩
  have hq0 : rdE j.es 0 (min (N + 1) (N - 0)) = rdE j.es 0 (min N (N - 0)) := by rw [show min (N + 1) (N - 0) = min N (N - 0) by omega]
  have hq1 : rdO j.es 0 (min (N + 1) (N - 0)) = rdO j.es 0 (min N (N - 0)) := by rw [show min (N + 1) (N - 0) = min N (N - 0) by omega]
  have e1 : wrap64 ((N : Int) + 1) = ((N + 1 : Nat) : Int) := by unfold wrap64; omega
  obtain ⟨N1, hN1⟩ : ∃ N1, N + 1 = N1 := ⟨_, rfl⟩
  obtain ⟨wA, hwA⟩ : ∃ wA : World, w.alloc (.cells #[.slice q N cap, .int .i64 (L : Int)] 30) = wA := ⟨_, rfl⟩
  have hbA : Below w.heap.size w wA := by rw [← hwA]; exact (Below.refl _ w).alloc (Nat.le_refl _) _
  have hxA : Blk wA w.heap.size [.slice q N cap, .int .i64 (L : Int)] 30 := by rw [← hwA]; exact Blk.new w [.slice q N cap, .int .i64 (L : Int)] 30
  have c0 := hxA.c 0 rfl
  have c1 := hxA.c 1 rfl
  have hr1 := jread_good (h.below hbA) hok 0 N1 (min (N + 1) (N - 0)) (Nat.zero_le _) (by rw [hN, hN1])
  rw [show ((0 : Nat) : Int) = 0 from rfl] at hr1
  have HR1 := Lib.hid hr1
  have HRR := Lib.hid (fun (w1 : World) (hb : Below w.heap.size w w1) => rread_any (.slice q j.es.length cap) j.es hle 0 N (min N (N - 0)) (Nat.zero_le _) (by rw [hN]) w1 ((hm.below hb (Nat.le_refl _)).mono hb.size))
  simp only [show ((0 : Nat) : Int) = 0 from rfl] at HRR
  have HM := Lib.hid h
  have HN := Lib.hid hN
  have HLL := Lib.hid hL
  have HLE := Lib.hid hle
  have HBA := Lib.hid hbA
  have HXA := Lib.hid hxA
  rw [hN1] at e1
  rw [hq0, hq1] at HR1
  have hl1 : (rdE j.es 0 (min N (N - 0))).length ≤ 100000 := by have := rdE_len j.es 0 (min N (N - 0)); omega
  have hl2 : (rdO j.es 0 (min N (N - 0))).length ≤ 100000 := by have := rdO_len j.es 0 (min N (N - 0)); omega
  obtain ⟨A, hA⟩ : ∃ A, rdE j.es 0 (min N (N - 0)) = A := ⟨_, rfl⟩
  obtain ⟨O, hO⟩ : ∃ O, rdO j.es 0 (min N (N - 0)) = O := ⟨_, rfl⟩
  rw [hA] at HR1 hl1
  rw [hO] at HR1 hl2
  simp only [hA, hO] at HRR
  rw [hN] at HRR ⊢
  have HA1 := Lib.hid hl1
  have HO1 := Lib.hid hl2
  clear h hok hle hL hm hN hN1 hq0 hq1 hl1 hl2 hA hO hr1 hbA hxA
  go_enter Tryz.func24, Tryz.ntmps24
  go_wp2_with fail
  refine (HR1.out).mono ?_
  rintro e w1 ⟨v1, v2, rfl, hr1, ho1, hb1⟩
  have HB1 := Lib.hid (HBA.out.trans (hb1.mono HBA.out.size))
  have HE1 := Lib.hid hr1
  have HO2 := Lib.hid ho1
  clear c0 c1
  have hx1 := HXA.out.below hb1 HXA.out.lt
  have HX1 := Lib.hid hx1
  have c0 := hx1.c 0 rfl
  have c1 := hx1.c 1 rfl
  clear hr1 ho1 hb1 HR1 hwA hx1 HXA
  go_wp2_with fail
  refine (HRR.out _ HB1.out).mono ?_
  rintro e w2 ⟨v3, v4, rfl, hr2, ho2, hb2⟩
  have HB2 := Lib.hid (HB1.out.trans (hb2.mono HB1.out.size))
  have HM2 := Lib.hid (HM.out.below HB2.out)
  have HE2 := Lib.hid (HE1.out.below hb2 (Nat.le_refl _))
  have HO3 : Hid (IntRow w2 wA.heap.size v2 O) := Lib.hid (own_keepB HO2.out hb2)
  have HE3 := Lib.hid hr2
  have HOV := Lib.hid (IntRow.nums ho2)
  clear c0 c1
  have hx2 := HX1.out.below hb2 HX1.out.lt
  have HX2 := Lib.hid hx2
  have c0 := hx2.c 0 rfl
  have c1 := hx2.c 1 rfl
  clear hr2 ho2 hb2 HE1 HO2 HRR HM hx2 HX1
  have q0 := cell_regrown c0
  have q1 := cell_regrown c1
  have cA : ∀ dd os, Calls Tryz.prog 31 #[.pointer (some ⟨l, 0, none⟩)] (Sort.grow (redrawn w2 dd) os) fun e w'' => e = .returned (.int .i64 (N : Int)) ∧ ∃ p : Regrown, w'' = Sort.grow (redrawn w2 p.d) p.os := fun dd os => Calls.regrown_of (by
    have h := len_any (HM2.out.below (below_regrown w2 dd os))
    rw [HN.out] at h
    exact h.mono (by rintro e w' ⟨rfl, rfl⟩; exact ⟨rfl, Below.refl _ _⟩))
  have cB : ∀ dd os, Calls Tryz.prog 35 #[.pointer (some ⟨l, 0, none⟩)] (Sort.grow (redrawn w2 dd) os) fun e w'' => e = .returned (.int .i64 (L : Int)) ∧ ∃ p : Regrown, w'' = Sort.grow (redrawn w2 p.d) p.os := fun dd os => Calls.regrown_of (by
    have h := lasting_any (HM2.out.below (below_regrown w2 dd os))
    rw [HLL.out] at h
    exact h.mono (by rintro e w' ⟨rfl, rfl⟩; exact ⟨rfl, Below.refl _ _⟩))
  have cC : ∀ dd os, Calls Tryz.prog 37 #[v1, v3] (Sort.grow (redrawn w2 dd) os) fun e w'' => e = .returned (.bool true) ∧ ∃ p : Regrown, w'' = Sort.grow (redrawn w2 p.d) p.os := fun dd os => Calls.regrown_of (by
    have hb := below_regrown w2 dd os
    exact rsame_any v1 v3 A HA1.out _ (EvRow.evs (HE2.out.below hb (Nat.le_refl _))) (EvRow.evs (HE3.out.below hb (Nat.le_refl _))))
  have cD : ∀ dd os, Calls Tryz.prog 60 #[v2, v4] (Sort.grow (redrawn w2 dd) os) fun e w'' => e = .returned (.bool true) ∧ ∃ p : Regrown, w'' = Sort.grow (redrawn w2 p.d) p.os := fun dd os => Calls.regrown_of (by
    have hb := below_regrown w2 dd os
    exact rnsame_any v2 v4 O HO1.out _ ((HO3.out.nums.below hb (Nat.le_refl _)).mono hb.size) ((HOV.out.below hb (Nat.le_refl _)).mono hb.size))
  clear c0 c1
  go_wp2_with fail
  refine wp_region_quiet_below (by kernel_rfl) (by kernel_rfl) ?_
  repeat (go_big_quiet_step (first | with_reducible exact cA _ _ | with_reducible exact cB _ _ | with_reducible exact cC _ _ | with_reducible exact cD _ _))
  refine wpQuiet_nil ?_
  intro _ hw'
  obtain ⟨⟨dq, osq⟩, hw''⟩ := hw'
  subst hw''
  have bq := below_regrown w2 dq osq
  go_wp2_with fail
  go_ret
  exact ⟨rfl, HB2.out.trans (bq.mono HB2.out.size)⟩
end
end Go.Proofs.YtghnbkkfghfifaaGreatDoor
/- A captured text; what the laws share. -/
namespace Go.Proofs.YtghnbkkfghfifaaGreatDoor
open Go.RowKit Go.Maps D
set_option linter.unusedVariables false
theorem Up.at {n : List UInt8} {per : Nat} {j : Jn Ev} {st : Bool} (h : Up pay n per j st) {k : Nat} (hk : k < j.files) : find j.dk (fileN n k) = 0 ∧ readS j.dk (fileN n k) = byt pay (seg j.es per k) := by
  have hfd := h.lie.found h.up hk
  refine ⟨hfd, ?_⟩
  unfold readS
  rw [hfd, if_neg (by simp), h.lie.lies.old hk]
  rfl
def kpS (s : ByteArray) (e : Ev) : Bool := !(e.p.toList == s.toList)
/-- A text in a box of its own. -/
def HasS (b : Nat) (s : ByteArray) (w : World) (P : Nat → Prop) (qs : List Ev) : Prop := Blk w b [.string s] 9 ∧ P b
set_option maxRecDepth 100000 in
theorem kpS44_any (b : Nat) (s : ByteArray) (e : Ev) (w : World) (h : Blk w b [.string s] 9) : Calls Tryz.prog 44 #[evV e, .pointer (some ⟨b, 0, none⟩)] w fun x w' => x = .returned (.bool (kpS s e)) ∧ Below w.heap.size w w' := by
  have c := h.c 0 rfl
  obtain ⟨s0, n0, a0, k0, p0, i0, v0, t0⟩ := e
  unfold kpS
  obtain ⟨G, hG⟩ : ∃ G, (p0.toList == s.toList) = G := ⟨_, rfl⟩
  rw [hG]
  have hlt : b < w.heap.size := h.lt
  clear h
  go_enter Tryz.func44, Tryz.ntmps44
  go_wp2_with fail
  go_ret
  exact ⟨rfl, (Below.refl _ w).alloc (Nat.le_refl _) _⟩
theorem keeps44 (b : Nat) (s : ByteArray) : Keeps 44 #[.pointer (some ⟨b, 0, none⟩)] (kpS s) (HasS b s) where
  ent := fun args w => by kernel_rfl
  far := fun h hk hG => ⟨h.1.keptF hk (hG b h.2 h.1.lt), h.2⟩
  mono := fun h hQ => ⟨h.1, hQ b h.2 h.1.lt⟩
  call := fun {w P qs} e h hq hP => by
    refine (kpS44_any b s e w h.1).mono ?_
    rintro x w' ⟨rfl, hb⟩
    exact ⟨rfl, ⟨h.1.below hb h.1.lt, h.2⟩, Kept.bel (Kept.refl P w) hb⟩
set_option maxRecDepth 100000 in
theorem kpS45_any (b : Nat) (s : ByteArray) (e : Ev) (w : World) (h : Blk w b [.string s] 9) : Calls Tryz.prog 45 #[evV e, .pointer (some ⟨b, 0, none⟩)] w fun x w' => x = .returned (.bool (kpS s e)) ∧ Below w.heap.size w w' := by
  have c := h.c 0 rfl
  obtain ⟨s0, n0, a0, k0, p0, i0, v0, t0⟩ := e
  unfold kpS
  obtain ⟨G, hG⟩ : ∃ G, (p0.toList == s.toList) = G := ⟨_, rfl⟩
  rw [hG]
  have hlt : b < w.heap.size := h.lt
  clear h
  go_enter Tryz.func45, Tryz.ntmps45
  go_wp2_with fail
  go_ret
  exact ⟨rfl, (Below.refl _ w).alloc (Nat.le_refl _) _⟩
theorem keeps45 (b : Nat) (s : ByteArray) : Keeps 45 #[.pointer (some ⟨b, 0, none⟩)] (kpS s) (HasS b s) where
  ent := fun args w => by kernel_rfl
  far := fun h hk hG => ⟨h.1.keptF hk (hG b h.2 h.1.lt), h.2⟩
  mono := fun h hQ => ⟨h.1, hQ b h.2 h.1.lt⟩
  call := fun {w P qs} e h hq hP => by
    refine (kpS45_any b s e w h.1).mono ?_
    rintro x w' ⟨rfl, hb⟩
    exact ⟨rfl, ⟨h.1.below hb h.1.lt, h.2⟩, Kept.bel (Kept.refl P w) hb⟩
set_option maxRecDepth 100000 in
theorem kpS46_any (b : Nat) (s : ByteArray) (e : Ev) (w : World) (h : Blk w b [.string s] 9) : Calls Tryz.prog 46 #[evV e, .pointer (some ⟨b, 0, none⟩)] w fun x w' => x = .returned (.bool (kpS s e)) ∧ Below w.heap.size w w' := by
  have c := h.c 0 rfl
  obtain ⟨s0, n0, a0, k0, p0, i0, v0, t0⟩ := e
  unfold kpS
  obtain ⟨G, hG⟩ : ∃ G, (p0.toList == s.toList) = G := ⟨_, rfl⟩
  rw [hG]
  have hlt : b < w.heap.size := h.lt
  clear h
  go_enter Tryz.func46, Tryz.ntmps46
  go_wp2_with fail
  go_ret
  exact ⟨rfl, (Below.refl _ w).alloc (Nat.le_refl _) _⟩
theorem keeps46 (b : Nat) (s : ByteArray) : Keeps 46 #[.pointer (some ⟨b, 0, none⟩)] (kpS s) (HasS b s) where
  ent := fun args w => by kernel_rfl
  far := fun h hk hG => ⟨h.1.keptF hk (hG b h.2 h.1.lt), h.2⟩
  mono := fun h hQ => ⟨h.1, hQ b h.2 h.1.lt⟩
  call := fun {w P qs} e h hq hP => by
    refine (kpS46_any b s e w h.1).mono ?_
    rintro x w' ⟨rfl, hb⟩
    exact ⟨rfl, ⟨h.1.below hb h.1.lt, h.2⟩, Kept.bel (Kept.refl P w) hb⟩
end Go.Proofs.YtghnbkkfghfifaaGreatDoor
/- What a crash leaves, and Open behind it. -/
namespace Go.Proofs.YtghnbkkfghfifaaGreatDoor
open Go.RowKit Go.Maps D
set_option linter.unusedVariables false
theorem want_ge : ∀ (ps : List (List UInt8)) (m cut : Nat), (F.framesL (ps.take m)).length ≤ cut → min m ps.length ≤ (F.wantF ps cut).1
  | [], m, cut, _ => by simp
  | p :: ps, 0, cut, _ => by simp
  | p :: ps, m + 1, cut, h => by
    rw [List.take_succ_cons, F.framesL_cons, List.length_append, F.frameL_len] at h
    unfold F.wantF
    rw [if_pos (by omega)]
    have := want_ge ps m (cut - (p.length + 10)) (by omega)
    simp only [List.length_cons]
    omega
section
variable {α : Type} {pay : α → List UInt8} {n : List UInt8} {per : Nat} {d : Dk} {files : Nat} {es : List α} {lasts : Nat} {st : Bool}
theorem Lie.last_fit (h : Lie pay n per d files es lasts st) (h0 : 0 < files) : files * per = (files - 1) * per + per ∧ (files - 1) * per ≤ lasts ∧ lasts ≤ es.length ∧ es.length ≤ files * per := by
  refine ⟨?_, h.shp.ge, h.shp.lasts, h.shp.le⟩
  conv => lhs; rw [← Nat.sub_add_cancel (show 1 ≤ files by omega), Nat.succ_mul]
theorem Lie.lasts_le (h : Lie pay n per d files es lasts st) (keep : Int) : lasts ≤ tnN pay per files es (cutN pay per files es lasts keep) := by
  unfold tnN
  split
  · rename_i h0
    have h1 := h.shp.le
    have h2 := h.shp.lasts
    rw [h0] at h1
    omega
  · rename_i h0
    obtain ⟨h1, h2, h3, h4⟩ := h.last_fit (by omega)
    have hw := want_ge ((seg es per (files - 1)).map pay) (lasts - (files - 1) * per) (cutN pay per files es lasts keep) (by
      unfold cutN
      rw [← List.map_take]
      show (byt pay ((seg es per (files - 1)).take (lasts - (files - 1) * per))).length ≤ _
      omega)
    rw [List.length_map, seg_len] at hw
    omega
theorem Lie.tnN_le (h : Lie pay n per d files es lasts st) (cut : Nat) : tnN pay per files es cut ≤ es.length := by
  unfold tnN
  split
  · exact Nat.zero_le _
  · rename_i h0
    obtain ⟨h1, h2, h3, h4⟩ := h.last_fit (by omega)
    have := (want_take ((seg es per (files - 1)).map pay) cut).2.1
    rw [List.length_map, seg_len] at this
    omega
end
section
variable {w : World} {F : Nat → Prop} {d : Nat} {n : List UInt8} {per : Nat} {k : Dk} {files : Nat} {es : List Ev} {lasts : Nat} {st : Bool}
/-- Open behind a crash. -/
theorem open_crashed (hF : ∀ i, w.heap.size ≤ i → F i) (h7 : ∀ i, F i → 7 ≤ i) (hL : E.Lay w) (keep : Int) (ks : List Int) (hd : DiskAt w F d (crashD k ks)) (hnm : E.nameB (bs n) = true) (hp : per ≤ 4096)
    (h : Lie pay n per k files es lasts st) (hok : ∀ x ∈ es, OkE x) (hk : ∀ i, i < k.L.length → ks[i]?.getD 0 = keep) (T : Nat) (hT : tnN pay per files es (cutN pay per files es lasts keep) = T) :
    Calls Tryz.prog 23 #[.pointer (some ⟨d, 0, none⟩), .string (bs n), .int .i64 (per : Int)] w fun e w' => ∃ l v k' files', e = .returned (.tuple #[.pointer (some ⟨l, 0, none⟩), .int .i64 0]) ∧
      LogM w' F d l n per v ⟨k', files', es.take T, T, 0⟩ ∧ Kept F w w' ∧ ∃ st', Up pay n per (⟨k', files', es.take T, T, 0⟩ : Jn Ev) st' := by
  have hsort : Sorted Fl.name (crashD k ks).L := by
    obtain ⟨B, E, hm, hE, hok⟩ := hd
    exact hok.sorted
  obtain ⟨f', es', cut', h1, h2, h3, h4⟩ := h.crash keep ks hk hsort
  have ho := open_tn hF h7 hL hd rfl rfl hnm hp h1 (fun x hx => hok x (h4 x hx))
  rw [h3, h2, hT] at ho
  refine ho.mono ?_
  rintro e w' ⟨l, v, k', rfl, hm, hk, st', hu⟩
  exact ⟨l, v, k', f', rfl, hm, hk, st', hu⟩
/-- Open where all lies. -/
theorem open_lie (hF : ∀ i, w.heap.size ≤ i → F i) (h7 : ∀ i, F i → 7 ≤ i) (hL : E.Lay w) (hd : DiskAt w F d k) (hup : k.down = false) (hfu : k.fuse = -1) (hnm : E.nameB (bs n) = true) (hp : per ≤ 4096)
    (h : Lie pay n per k files es lasts st) (hok : ∀ x ∈ es, OkE x) :
    Calls Tryz.prog 23 #[.pointer (some ⟨d, 0, none⟩), .string (bs n), .int .i64 (per : Int)] w fun e w' => ∃ l v k', e = .returned (.tuple #[.pointer (some ⟨l, 0, none⟩), .int .i64 0]) ∧
      LogM w' F d l n per v ⟨k', files, es, es.length, 0⟩ ∧ Kept F w w' ∧ ∃ st', Up pay n per (⟨k', files, es, es.length, 0⟩ : Jn Ev) st' := by
  have ho := open_tn hF h7 hL hd hup hfu hnm hp h.tn hok
  rw [h.tn_all, List.take_length] at ho
  exact ho
end
end Go.Proofs.YtghnbkkfghfifaaGreatDoor
