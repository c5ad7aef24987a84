/- What lasts, plainly. -/
import Derived.Test.YtfkefppabjbbdaaV
namespace Go.Proofs.Ytfkefppabjbbdaa
open Go.RowKit Go.Maps
set_option linter.unusedVariables false
theorem get_ins_same {f : Fl} {L : List Fl} (hs : Sorted Fl.name L) : get f.name (ins f L) = some f := getK_mem (sorted_insK hs) ((mem_insK hs).2 (.inl rfl))
theorem get_ins_other {f : Fl} {L : List Fl} (hs : Sorted Fl.name L) {n : List UInt8} (h : n ≠ f.name) : get n (ins f L) = get n L := by
  cases hg : get n L with
  | some g =>
    obtain ⟨h1, h2⟩ := getK_some hg
    rw [← h2]
    exact getK_mem (sorted_insK hs) ((mem_insK hs).2 (.inr ⟨h1, by rw [h2]; exact h⟩))
  | none =>
    cases hg' : get n (ins f L) with
    | none => rfl
    | some g =>
      obtain ⟨h1, h2⟩ := getK_some hg'
      rcases (mem_insK hs).1 h1 with rfl | ⟨h3, _⟩
      · exact absurd h2.symm h
      · exact absurd h2 (getK_none hg g h3)
theorem get_del_same {n : List UInt8} {L : List Fl} : get n (del n L) = none := by
  cases hg : get n (del n L) with
  | none => rfl
  | some g =>
    obtain ⟨h1, h2⟩ := getK_some hg
    exact absurd h2 (mem_delK.1 h1).2
theorem get_del_other {n m : List UInt8} {L : List Fl} (hs : Sorted Fl.name L) (h : n ≠ m) : get n (del m L) = get n L := by
  cases hg : get n L with
  | some g =>
    obtain ⟨h1, h2⟩ := getK_some hg
    rw [← h2]
    exact getK_mem (sorted_delK hs) (mem_delK.2 ⟨h1, by rw [h2]; exact h⟩)
  | none =>
    cases hg' : get n (del m L) with
    | none => rfl
    | some g =>
      obtain ⟨h1, h2⟩ := getK_some hg'
      exact absurd h2 (getK_none hg g (mem_delK.1 h1).1)
theorem burn_nofuse {k : Dk} (h : k.fuse = -1) : burn k = k := by unfold burn; rw [if_pos h]
theorem burnE_nofuse {k : Dk} (h : k.fuse = -1) : burnE k.fuse = 0 := by unfold burnE; rw [h]; rfl
theorem appendE_no {k : Dk} (hf : k.fuse = -1) {n b : List UInt8} : appendE k n b = mayHold k n b.length := by
  unfold appendE
  by_cases h : mayHold k n b.length = 0
  · rw [if_neg (by simpa using h), h, burnE_nofuse hf]
  · rw [if_pos h]
theorem syncE_no {k : Dk} (hf : k.fuse = -1) {n : List UInt8} : syncE k n = find k n := by
  unfold syncE
  by_cases h : find k n = 0
  · rw [if_neg (by simpa using h), h, burnE_nofuse hf]
  · rw [if_pos h]
theorem replaceE_no {k : Dk} (hf : k.fuse = -1) {n b : List UInt8} : replaceE k n b = mayHold k n (moreR k n b) := by
  unfold replaceE
  by_cases h : mayHold k n (moreR k n b) = 0
  · rw [if_neg (by simpa using h), h, burnE_nofuse hf]
  · rw [if_pos h]
theorem stD_err {k : Dk} (hf : k.fuse = -1) {kd : Int} {n b : List UInt8} (h : stE k kd n b ≠ 0) : stD k kd n b = k := by
  unfold stE at h
  unfold stD
  by_cases h1 : kd = 1
  · rw [if_pos h1] at h ⊢
    rw [appendE_no hf] at h
    unfold appendD
    rw [if_pos h]
  · rw [if_neg h1] at h ⊢
    by_cases h2 : kd = 2
    · rw [if_pos h2] at h ⊢
      rw [syncE_no hf] at h
      unfold syncD
      rw [if_pos h]
    · rw [if_neg h2] at h ⊢
      by_cases h3 : kd = 3
      · rw [if_pos h3] at h ⊢
        rw [replaceE_no hf] at h
        unfold replaceD
        rw [if_pos h]
      · rw [if_neg h3] at h ⊢
        unfold removeE at h
        rw [syncE_no hf] at h
        unfold removeD
        rw [if_pos h]
theorem stD_ok {k : Dk} (hf : k.fuse = -1) {kd : Int} {n b : List UInt8} (h : stE k kd n b = 0) :
    stD k kd n b = withL k (if kd = 1 then ins (addF (old n k.L) b) k.L else if kd = 2 then ins (lastF (old n k.L)) k.L else if kd = 3 then ins ⟨n, b, b.length, true⟩ k.L else del n k.L) ∧ askN k.down n = 0 ∧ (kd = 2 ∨ ¬ (kd = 1 ∨ kd = 2 ∨ kd = 3) → ∃ f, get n k.L = some f) := by
  have hf0 : ¬ k.fuse = 0 := by rw [hf]; decide
  have hb : ∀ L, burn (withL k L) = withL k L := fun L => burn_nofuse hf
  unfold stE at h
  unfold stD
  by_cases h1 : kd = 1
  · rw [if_pos h1] at h
    rw [if_pos h1, if_pos h1]
    rw [appendE_no hf] at h
    refine ⟨?_, (hold_good h).1, fun h' => by omega⟩
    unfold appendD
    rw [if_neg (by simpa using h), hb]
  · rw [if_neg h1] at h
    rw [if_neg h1, if_neg h1]
    by_cases h2 : kd = 2
    · rw [if_pos h2] at h
      rw [if_pos h2, if_pos h2]
      rw [syncE_no hf] at h
      refine ⟨?_, (find_zero h).1, fun _ => (find_zero h).2⟩
      unfold syncD
      rw [if_neg (by simpa using h), if_neg hf0, hb]
    · rw [if_neg h2] at h
      rw [if_neg h2, if_neg h2]
      by_cases h3 : kd = 3
      · rw [if_pos h3] at h
        rw [if_pos h3, if_pos h3]
        rw [replaceE_no hf] at h
        refine ⟨?_, (hold_good h).1, fun h' => by omega⟩
        unfold replaceD
        rw [if_neg (by simpa using h), if_neg hf0, hb]
      · rw [if_neg h3] at h
        rw [if_neg h3, if_neg h3]
        unfold removeE at h
        rw [syncE_no hf] at h
        refine ⟨?_, (find_zero h).1, fun _ => (find_zero h).2⟩
        unfold removeD
        rw [if_neg (by simpa using h), if_neg hf0, hb]
/-- What is sure of a file. -/
structure LInv (k : Dk) (n : List UInt8) (sure : List UInt8) (th : Bool) : Prop where
  fuse : k.fuse = -1
  down : k.down = false
  no : th = false → sure = []
  yes : th = true → ∃ f, get n k.L = some f ∧ f.stays = true ∧ sure.length ≤ f.lasts ∧ f.s.take sure.length = sure
theorem linv_new (n : List UInt8) : LInv newD n [] false := ⟨rfl, rfl, fun _ => rfl, fun h => by cases h⟩
theorem old_name (m : List UInt8) (L : List Fl) : (old m L).name = m := by
  cases hg : get m L with
  | none => rw [old_none hg]
  | some f => rw [old_some hg]; exact (getK_some hg).2
/-- A step of another name, or one that tells an error. -/
theorem linv_other {k : Dk} (hok : Ok k) {n sure : List UInt8} {th : Bool} (h : LInv k n sure th) {kd : Int} {m b : List UInt8} (hm : m ≠ n ∨ stE k kd m b ≠ 0) : LInv (stD k kd m b) n sure th := by
  by_cases he : stE k kd m b = 0
  · have hm' : m ≠ n := by rcases hm with hm | hm; exact hm; exact absurd he hm
    obtain ⟨h1, _, _⟩ := stD_ok h.fuse he
    have hg : get n (stD k kd m b).L = get n k.L := by
      rw [h1]
      show get n (if kd = 1 then _ else _) = _
      have ho := old_name m k.L
      split
      · exact get_ins_other hok.sorted (by show n ≠ (old m k.L).name; rw [ho]; exact hm'.symm)
      · split
        · exact get_ins_other hok.sorted (by show n ≠ (old m k.L).name; rw [ho]; exact hm'.symm)
        · split
          · exact get_ins_other hok.sorted hm'.symm
          · exact get_del_other hok.sorted hm'.symm
    refine ⟨by rw [h1]; exact h.fuse, by rw [h1]; exact h.down, h.no, fun ht => ?_⟩
    obtain ⟨f, hf⟩ := h.yes ht
    exact ⟨f, by rw [hg]; exact hf.1, hf.2⟩
  · rw [stD_err h.fuse he]; exact h
theorem linv_append {k : Dk} (hok : Ok k) {n sure : List UInt8} {th : Bool} (h : LInv k n sure th) {b : List UInt8} (he : stE k 1 n b = 0) : LInv (stD k 1 n b) n sure th := by
  obtain ⟨h1, _, _⟩ := stD_ok h.fuse he
  rw [if_pos rfl] at h1
  refine ⟨by rw [h1]; exact h.fuse, by rw [h1]; exact h.down, h.no, fun ht => ?_⟩
  obtain ⟨f, hf1, hf2, hf3, hf4⟩ := h.yes ht
  have hfm := getK_some hf1
  have hl := hok.lasts f hfm.1
  refine ⟨addF f b, ?_, hf2, hf3, ?_⟩
  · rw [h1]
    show get n (ins (addF (old n k.L) b) k.L) = _
    rw [old_some hf1]
    have := get_ins_same (f := addF f b) hok.sorted
    rw [show (addF f b).name = n from hfm.2] at this
    exact this
  · show (f.s ++ b).take sure.length = sure
    rw [List.take_append_of_le_length (by omega)]
    exact hf4
theorem find_is {k : Dk} {n : List UInt8} {f : Fl} (ha : askN k.down n = 0) (hg : get n k.L = some f) : find k n = 0 ∧ readS k n = f.s := by
  have h : find k n = 0 := by
    unfold find
    rw [if_neg (by rw [ask_E, ha]; simp), hg]
    rfl
  refine ⟨h, ?_⟩
  unfold readS
  rw [if_neg (by rw [h]; simp), old_some hg]
/-- A Sync or a Replace that told OK. -/
theorem linv_set {k : Dk} (hok : Ok k) {n sure : List UInt8} {th : Bool} (h : LInv k n sure th) {kd : Int} (hk : kd = 2 ∨ kd = 3) {b : List UInt8} (he : stE k kd n b = 0) : LInv (stD k kd n b) n (readS (stD k kd n b) n) true := by
  obtain ⟨h1, ha, _⟩ := stD_ok h.fuse he
  have hf : ∃ f, get n (stD k kd n b).L = some f ∧ f.stays = true ∧ f.lasts = f.s.length := by
    rw [h1]
    rcases hk with rfl | rfl
    · refine ⟨lastF (old n k.L), ?_, rfl, rfl⟩
      show get n (ins (lastF (old n k.L)) k.L) = _
      have := get_ins_same (f := lastF (old n k.L)) hok.sorted
      rw [show (lastF (old n k.L)).name = n from old_name n k.L] at this
      exact this
    · exact ⟨⟨n, b, b.length, true⟩, get_ins_same (f := ⟨n, b, b.length, true⟩) hok.sorted, rfl, rfl⟩
  obtain ⟨f, hf1, hf2, hf3⟩ := hf
  have hr := (find_is (k := stD k kd n b) (by rw [h1]; exact ha) hf1).2
  refine ⟨by rw [h1]; exact h.fuse, by rw [h1]; exact h.down, fun h' => (by cases h'), fun _ => ⟨f, hf1, hf2, ?_, ?_⟩⟩
  · rw [hr, hf3]; exact Nat.le_refl _
  · rw [hr, List.take_length]
/-- A Remove that told OK. -/
theorem linv_del {k : Dk} {n sure : List UInt8} {th : Bool} (h : LInv k n sure th) {kd : Int} (h1 : kd ≠ 1) (h2 : kd ≠ 2) (h3 : kd ≠ 3) {b : List UInt8} (he : stE k kd n b = 0) : LInv (stD k kd n b) n [] false ∧ find (stD k kd n b) n = 6 := by
  obtain ⟨e, ha, _⟩ := stD_ok h.fuse he
  rw [if_neg h1, if_neg h2, if_neg h3] at e
  refine ⟨⟨by rw [e]; exact h.fuse, by rw [e]; exact h.down, fun _ => rfl, fun h' => by cases h'⟩, ?_⟩
  rw [e]
  unfold find
  rw [if_neg (by show ¬ askN k.down n ≠ 0; rw [ha]; simp)]
  show (if (get n (del n k.L)).isNone = true then 6 else 0) = 6
  rw [get_del_same]
  rfl
theorem crash_keeps : ∀ {L : List Fl} {ks : List Int} {f : Fl}, f ∈ L → f.stays = true → ∃ left, lastF (cutF f left) ∈ crashL L ks
  | [], ks, f, h, _ => by simp at h
  | g :: r, ks, f, h, hs => by
    rcases List.mem_cons.1 h with rfl | h
    · refine ⟨ks.headD 0, ?_⟩
      simp only [crashL, List.mem_append]
      left
      unfold crashF
      rw [if_neg (by unfold goneF; rw [show (cutF f (ks.headD 0)).stays = f.stays from rfl, hs]; simp)]
      simp
    · obtain ⟨left, hl⟩ := crash_keeps (ks := ks.tail) h hs
      exact ⟨left, by simp only [crashL, List.mem_append]; exact .inr hl⟩
/-- Behind a crash what was sure is a beginning. -/
theorem linv_crash {k : Dk} (hok : Ok k) {n sure : List UInt8} {th : Bool} (h : LInv k n sure th) (ks : List Int) :
    (th = true → find (crashD k ks) n = 0) ∧ sure.length ≤ (readS (crashD k ks) n).length ∧ (readS (crashD k ks) n).take sure.length = sure := by
  cases th with
  | false =>
    have := h.no rfl
    subst this
    refine ⟨fun h' => (by cases h'), by simp, by simp⟩
  | true =>
    obtain ⟨f, hf1, hf2, hf3, hf4⟩ := h.yes rfl
    obtain ⟨hfm, hfn⟩ := getK_some hf1
    obtain ⟨left, hl⟩ := crash_keeps (ks := ks) hfm hf2
    have hg : get n (crashD k ks).L = some (lastF (cutF f left)) := by
      have := getK_mem (crash_sorted (ks := ks) hok.sorted) hl
      rw [show (lastF (cutF f left)).name = n from hfn] at this
      exact this
    have hnm := hok.names f hfm
    rw [hfn] at hnm
    have ha : askN (crashD k ks).down n = 0 := ask_ok (k := crashD k ks) rfl hnm.1 hnm.2
    obtain ⟨r1, r2⟩ := find_is ha hg
    have hlen := cut_len (hok.lasts f hfm) left
    refine ⟨fun _ => r1, ?_, ?_⟩
    · rw [r2]
      show sure.length ≤ (cutF f left).s.length
      omega
    · rw [r2]
      show (f.s.take _).take sure.length = sure
      rw [List.take_take, Nat.min_eq_left (by omega)]
      exact hf4
end Go.Proofs.Ytfkefppabjbbdaa
