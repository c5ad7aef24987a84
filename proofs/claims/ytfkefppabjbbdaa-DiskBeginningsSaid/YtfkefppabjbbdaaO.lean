/- What a crash leaves, plainly and in memory. -/
import Derived.Test.YtfkefppabjbbdaaN
namespace Go.Proofs.Ytfkefppabjbbdaa
open Go.RowKit Go.Maps
set_option linter.unusedVariables false
/-- A slice shows these numbers; they lie where P says. -/
def Ints (w : World) (P : Nat → Prop) (v : Value) (ks : List Int) : Prop :=
  (ks = [] ∧ v = .slice none 0 0) ∨ ∃ (ad : Addr) (cap : Nat), v = .slice (some ad) ks.length cap ∧ (0 < ks.length → P ad.block ∧ ad.block < w.heap.size) ∧ ∀ (j : Nat) (hj : j < ks.length), w.cell? (ad.add j) = some (.int .i64 ks[j])
theorem Ints.keptF {w w' : World} {P G : Nat → Prop} {v : Value} {ks : List Int} (h : Ints w P v ks) (hk : Kept G w w') (hPG : ∀ i, P i → ¬ G i) : Ints w' P v ks := by
  rcases h with h | ⟨ad, cap, hv, hb, hh⟩
  · exact .inl h
  · refine .inr ⟨ad, cap, hv, fun h0 => ⟨(hb h0).1, Nat.lt_of_lt_of_le (hb h0).2 hk.size⟩, fun j hj => ?_⟩
    obtain ⟨h1, h2⟩ := hb (by omega)
    rw [World.cell?_of_block (w := w) (a := ad.add j) (by rw [add_block]; exact hk.block _ h2 (hPG _ h1))]
    exact hh j hj
theorem Ints.len {w : World} {P : Nat → Prop} {v : Value} {ks : List Int} (h : Ints w P v ks) : ∃ q cap, v = .slice q ks.length cap := by
  rcases h with ⟨rfl, rfl⟩ | ⟨ad, cap, hv, _⟩
  · exact ⟨none, 0, rfl⟩
  · exact ⟨_, cap, hv⟩
theorem Ints.at {w : World} {P : Nat → Prop} {q : Option Addr} {n cap : Nat} {ks : List Int} (h : Ints w P (.slice q n cap) ks) (j : Nat) (hj : j < ks.length) : ∃ ad, q = some ad ∧ w.cell? (ad.add j) = some (.int .i64 ks[j]) := by
  rcases h with ⟨rfl, _⟩ | ⟨ad, cap', hv, _, hh⟩
  · simp at hj
  · cases hv
    exact ⟨ad, rfl, hh j hj⟩
theorem Ints.nil (w : World) (P : Nat → Prop) : Ints w P (.slice none 0 0) [] := .inl ⟨rfl, rfl⟩
theorem Ints.mono {w : World} {P Q : Nat → Prop} {v : Value} {ks : List Int} (h : Ints w P v ks) (hPQ : ∀ i, P i → i < w.heap.size → Q i) : Ints w Q v ks := by
  rcases h with h | ⟨ad, cap, hv, hb, hh⟩
  · exact .inl h
  · exact .inr ⟨ad, cap, hv, fun h0 => ⟨hPQ _ (hb h0).1 (hb h0).2, (hb h0).2⟩, hh⟩
/-- The number for the file at this place. -/
def keepAt (ks : List Int) (i : Nat) : Int := ks.getD i 0
theorem crash_snoc : ∀ (a : List Fl) (f : Fl) (ks : List Int), crashL (a ++ [f]) ks = crashL a ks ++ crashF f (keepAt ks a.length)
  | [], f, ks => by
    simp only [List.nil_append, crashL, List.append_nil]
    cases ks <;> rfl
  | g :: a, f, ks => by
    simp only [List.cons_append, crashL, List.length_cons]
    rw [crash_snoc a f ks.tail, List.append_assoc]
    congr 3
    cases ks with
    | nil => simp [keepAt]
    | cons x r => simp [keepAt]
theorem crash_take {L : List Fl} {i : Nat} (hi : i < L.length) (ks : List Int) : crashL (L.take (i + 1)) ks = crashL (L.take i) ks ++ crashF L[i] (keepAt ks i) := by
  rw [List.take_succ_eq_append_getElem hi, crash_snoc, List.length_take]
  congr 2
  congr 1
  omega
theorem insK_mid {x x' : Ent} {R : List Ent} (hk : x'.k = x.k) : ∀ {A : List Ent}, Sorted Ent.k (A ++ x :: R) → insK Ent.k x' (A ++ x :: R) = A ++ x' :: R
  | [], _ => by
    show (if x'.k < x.k then _ else if x'.k = x.k then _ else _) = _
    rw [if_neg (by rw [hk]; exact lt_irr _), if_pos hk]; rfl
  | y :: A, hs => by
    have h := List.pairwise_cons.1 hs
    have hy : y.k < x'.k := by rw [hk]; exact h.1 x (by simp)
    show (if x'.k < y.k then _ else if x'.k = y.k then _ else _) = _
    rw [if_neg (lt_asy hy), if_neg (fun e => by rw [e] at hy; exact lt_irr _ hy), show insK Ent.k x' (A.append (x :: R)) = A ++ x' :: R from insK_mid hk h.2]; rfl
theorem delK_mid {x : Ent} {R : List Ent} : ∀ {A : List Ent}, Sorted Ent.k (A ++ x :: R) → delK Ent.k x.k (A ++ x :: R) = A ++ R
  | [], hs => by
    have h := List.pairwise_cons.1 hs
    unfold delK
    rw [List.nil_append, List.filter_cons, if_neg (by simp), List.filter_eq_self.2 (fun y hy => by
      have h1 := h.1 y hy
      simp only [ne_eq, decide_not, Bool.not_eq_eq_eq_not, Bool.not_true, decide_eq_false_iff_not]
      exact fun e => by rw [e] at h1; exact lt_irr _ h1)]
    rfl
  | y :: A, hs => by
    have h := List.pairwise_cons.1 hs
    have hy : y.k < x.k := h.1 x (by simp)
    have ih := delK_mid h.2
    unfold delK at *
    rw [List.cons_append, List.filter_cons, if_pos (by
      simp only [ne_eq, decide_not, Bool.not_eq_eq_eq_not, Bool.not_true, decide_eq_false_iff_not]
      exact fun e => by rw [e] at hy; exact lt_irr _ hy), ih]
    rfl
theorem left_le (f : Fl) (left : Int) : leftN f left ≤ f.s.length - f.lasts := by unfold leftN; omega
theorem cut_len {f : Fl} (hf : f.lasts ≤ f.s.length) (left : Int) : (cutF f left).s.length = f.lasts + leftN f left := by
  have := left_le f left
  show (f.s.take _).length = _
  rw [List.length_take]
  omega
theorem gone_eq {f : Fl} (hf : f.lasts ≤ f.s.length) (left : Int) : goneF (cutF f left) = (!f.stays && decide (f.lasts + leftN f left = 0)) := by
  have := cut_len hf left
  unfold goneF
  rw [show (cutF f left).stays = f.stays from rfl]
  congr 1
  rw [← this]
  cases (cutF f left).s <;> simp
theorem crash_tot : ∀ (L : List Fl) (ks : List Int), tot (crashL L ks) ≤ tot L
  | [], ks => Nat.le_refl _
  | f :: r, ks => by
    simp only [crashL, tot_app, tot]
    have h1 := crash_tot r ks.tail
    have h2 : tot (crashF f (ks.headD 0)) ≤ f.s.length := by
      unfold crashF
      split
      · simp [tot]
      · simp only [tot, Nat.add_zero]
        show (f.s.take _).length ≤ _
        rw [List.length_take]
        omega
    omega
theorem crash_len : ∀ (L : List Fl) (ks : List Int), (crashL L ks).length ≤ L.length
  | [], ks => Nat.le_refl _
  | f :: r, ks => by
    simp only [crashL, List.length_append, List.length_cons]
    have h1 := crash_len r ks.tail
    have h2 : (crashF f (ks.headD 0)).length ≤ 1 := by unfold crashF; split <;> simp
    omega
theorem crash_mem : ∀ {L : List Fl} {ks : List Int} {g : Fl}, g ∈ crashL L ks → ∃ f ∈ L, ∃ left, g = lastF (cutF f left) ∧ goneF (cutF f left) = false
  | [], ks, g, h => by simp [crashL] at h
  | f :: r, ks, g, h => by
    simp only [crashL, List.mem_append] at h
    rcases h with h | h
    · unfold crashF at h
      split at h
      · simp at h
      · rename_i hg
        obtain rfl : g = _ := by simpa using h
        exact ⟨f, by simp, _, rfl, by simpa using hg⟩
    · obtain ⟨f', h1, h2⟩ := crash_mem h
      exact ⟨f', by simp [h1], h2⟩
theorem crash_sorted : ∀ {L : List Fl} {ks : List Int}, Sorted Fl.name L → Sorted Fl.name (crashL L ks)
  | [], ks, _ => List.Pairwise.nil
  | f :: r, ks, hs => by
    obtain ⟨h1, h2⟩ := List.pairwise_cons.1 hs
    have ih : Sorted Fl.name (crashL r ks.tail) := crash_sorted h2
    simp only [crashL]
    unfold crashF
    split
    · exact ih
    · refine List.pairwise_cons.2 ⟨fun g hg => ?_, ih⟩
      obtain ⟨f', h3, left, rfl, _⟩ := crash_mem hg
      exact h1 f' h3
theorem ok_crash {k : Dk} (h : Ok k) (ks : List Int) : Ok (crashD k ks) := by
  refine ⟨crash_sorted h.sorted, fun g hg => ?_, fun g hg => ?_, Nat.le_trans (crash_tot _ _) h.tot, Nat.le_trans (crash_len _ _) h.len, by show (-1 : Int) ≤ -1; decide, by show (-1 : Int) ≤ _; decide⟩
  · obtain ⟨f, h1, left, rfl, _⟩ := crash_mem hg
    exact h.names f h1
  · obtain ⟨f, h1, left, rfl, _⟩ := crash_mem hg
    exact Nat.le_refl _
/-- A file in memory, when it has been cut. -/
theorem cut_mem {w w' : World} {F : Nat → Prop} {d B : Nat} {A R : List Ent} {u fuse : Int} {down : Bool} {xf : Fl} {xb : Nat} {q : Option Addr} {n cap : Nat} (h : DiskM w F d B (A ++ ⟨xf, xb, .slice q n cap⟩ :: R) u fuse down) (hf : xf.lasts ≤ xf.s.length) (left : Int)
    (hb : Blk w' xb [.slice q (xf.lasts + leftN xf left : Nat) cap, .int .i64 xf.lasts, .bool xf.stays] 68) (hg : w.grownBy w' (some xb)) :
    DiskM w' F d B (A ++ ⟨cutF xf left, xb, .slice q (xf.lasts + leftN xf left) cap⟩ :: R) u fuse down ∧ Kept F w w' := by
  have hx := h.each ⟨xf, xb, .slice q n cap⟩ (by simp)
  have hle := left_le xf left
  have ho : OwnB w' 0 (.slice q n cap) xf.s := World.ownsRow.kept hx.row hg (by
    cases hv : Value.ownBlock (.slice q n cap) with
    | none => exact .inl rfl
    | some g => exact .inr (fun e => own_ne hx.row hx.cells (by decide) (by rw [hv, e])))
  have ht := ho.take (xf.lasts + leftN xf left) (by omega)
  have hsame : ∀ g, Value.ownBlock (.slice q (xf.lasts + leftN xf left) cap) = some g → Value.ownBlock (.slice q n cap) = some g := by
    intro g hg'
    cases q with
    | none => exact hg'
    | some a => exact hg'
  have h1 := h.renew (e := ⟨xf, xb, .slice q n cap⟩) (x := ⟨cutF xf left, xb, .slice q (xf.lasts + leftN xf left) cap⟩) (by simp) rfl rfl ((Kept.refl _ w).grown hg (fun j hj => by cases hj; exact .inr (.inl rfl)))
    ⟨hb, ht, hx.fb, fun g hg' => hx.fr g (hsame g hg')⟩ (fun g hg' => .inl (hsame g hg'))
  rw [insK_mid (by rfl) h.sorted] at h1
  exact ⟨h1, (Kept.refl F w).grown hg (fun j hj => by cases hj; exact .inr hx.fb)⟩
end Go.Proofs.Ytfkefppabjbbdaa
