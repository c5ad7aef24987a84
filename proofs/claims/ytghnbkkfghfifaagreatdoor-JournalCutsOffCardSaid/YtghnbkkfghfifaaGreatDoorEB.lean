/- Texts, plainly: makers, tags, parts. -/
import Derived.Test.YtghnbkkfghfifaaGreatDoorEA
import Derived.Lib.SplitLaws
import Derived.Lib.IndexBytes
import Derived.Lib.IndexLaws
import Derived.Lib.Strings
namespace Go.Proofs.YtghnbkkfghfifaaGreatDoor.E
open Go.RowKit
set_option linter.unusedVariables false
/-- A list of bytes as a text. -/
def bs (l : List UInt8) : ByteArray := ⟨l.toArray⟩
theorem bs_data (l : List UInt8) : (bs l).data.toList = l := by simp [bs]
theorem data_bs (s : ByteArray) : bs s.data.toList = s := by simp [bs]
theorem bs_size (l : List UInt8) : (bs l).size = l.length := by simp [bs, ByteArray.size]
theorem ba_ext {a b : ByteArray} (h : a.data.toList = b.data.toList) : a = b := by rw [← data_bs a, ← data_bs b, h]
theorem ba_eq_iff (a b : ByteArray) : a = b ↔ a.data.toList = b.data.toList := ⟨fun h => by rw [h], ba_ext⟩
theorem toL (s : ByteArray) : s.toList = s.data.toList := ByteArray.toList_eq s
theorem eqB (a b : ByteArray) : (a.toList == b.toList) = decide (a = b) := by
  rw [Bool.eq_iff_iff]; simp [toL, ba_eq_iff]
/-- The pieces ahead of the last sign, and what stands behind it. -/
def pF (c : UInt8) (a : List (List UInt8) × List UInt8) (l : List UInt8) : List (List UInt8) × List UInt8 := l.foldl (fun a x => if x = c then (a.1 ++ [a.2], []) else (a.1, a.2 ++ [x])) a
def parts (c : UInt8) (l : List UInt8) : List (List UInt8) := (pF c ([], []) l).1 ++ [(pF c ([], []) l).2]
theorem pF_snoc (c : UInt8) (a : List (List UInt8) × List UInt8) (l : List UInt8) (x : UInt8) : pF c a (l ++ [x]) = if x = c then ((pF c a l).1 ++ [(pF c a l).2], []) else ((pF c a l).1, (pF c a l).2 ++ [x]) := by
  unfold pF; rw [List.foldl_append]; rfl
theorem pF_none (c : UInt8) : ∀ (l : List UInt8) (a : List (List UInt8) × List UInt8), (∀ x ∈ l, x ≠ c) → pF c a l = (a.1, a.2 ++ l)
  | [], a, _ => by simp [pF]
  | x :: l, a, h => by
    have h1 := h x (by simp)
    have ih := pF_none c l (a.1, a.2 ++ [x]) (fun y hy => h y (by simp [hy]))
    unfold pF at *
    rw [List.foldl_cons, if_neg h1, ih]
    simp
theorem pF_acc (c : UInt8) : ∀ (l : List UInt8) (o : List (List UInt8)) (u : List UInt8), pF c (o, u) l = (o ++ (pF c ([], u) l).1, (pF c ([], u) l).2)
  | [], o, u => by simp [pF]
  | x :: l, o, u => by
    unfold pF
    rw [List.foldl_cons, List.foldl_cons]
    by_cases h : x = c
    · rw [if_pos h, if_pos h]
      have e1 := pF_acc c l (o ++ [u]) []
      have e2 := pF_acc c l ([] ++ [u]) []
      unfold pF at e1 e2
      simp only at e1 e2 ⊢
      rw [e1, e2]; simp
    · rw [if_neg h, if_neg h]
      have e1 := pF_acc c l o (u ++ [x])
      unfold pF at e1
      exact e1
theorem parts_none (c : UInt8) (l : List UInt8) (h : ∀ x ∈ l, x ≠ c) : parts c l = [l] := by
  unfold parts; rw [pF_none c l _ h]; simp
theorem parts_cut (c : UInt8) (a b : List UInt8) (h : ∀ x ∈ a, x ≠ c) : parts c (a ++ c :: b) = a :: parts c b := by
  have e : pF c ([], []) (a ++ c :: b) = pF c ([a], []) b := by
    have h0 := pF_none c a ([], []) h
    unfold pF at *
    rw [List.foldl_append, h0, List.foldl_cons, if_pos rfl]; simp
  unfold parts
  rw [e, pF_acc c b [a] []]
  simp
theorem parts_pos (c : UInt8) (l : List UInt8) : 1 ≤ (parts c l).length := by unfold parts; simp
theorem at_split (c : UInt8) (l : List UInt8) (i : Nat) (h : Lib.indexByte l c = i) : l = l.take i ++ c :: l.drop (i + 1) ∧ ∀ x ∈ l.take i, x ≠ c := by
  obtain ⟨h1, h2⟩ := Lib.indexByte_some h
  have hi : i < l.length := by
    rcases Nat.lt_or_ge i l.length with h | h
    · exact h
    · rw [List.getElem?_eq_none h] at h1; cases h1
  have hg : l[i] = c := by rw [List.getElem?_eq_getElem hi] at h1; exact Option.some.inj h1
  refine ⟨?_, ?_⟩
  · conv => lhs; rw [← List.take_append_drop i l]
    rw [List.drop_eq_getElem_cons hi, hg]
  · intro x hx e
    subst e
    obtain ⟨k, hk, e⟩ := List.getElem_of_mem hx
    rw [List.length_take] at hk
    refine h2 k (by omega) ?_
    rw [List.getElem?_eq_getElem (by omega)]
    rw [List.getElem_take] at e
    exact congrArg some e
theorem none_of (c : UInt8) (l : List UInt8) (h : Lib.indexByte l c = -1) : ∀ x ∈ l, x ≠ c := by
  intro x hx e
  subst e
  obtain ⟨k, hk, e⟩ := List.getElem_of_mem hx
  exact Lib.indexByte_none h k (by rw [List.getElem?_eq_getElem hk, e])
theorem idx_cases (c : UInt8) (l : List UInt8) : Lib.indexByte l c = -1 ∨ ∃ i : Nat, Lib.indexByte l c = i := by
  have := Lib.indexByte_ge l c
  by_cases h : Lib.indexByte l c = -1
  · exact .inl h
  · exact .inr ⟨(Lib.indexByte l c).toNat, by omega⟩
theorem splitK_parts (c : UInt8) : ∀ (k : Nat) (l : List UInt8), (parts c l).length ≤ k + 1 → Lib.splitK [c] 0 k l = parts c l
  | 0, l, h => by
    rcases idx_cases c l with e | ⟨i, e⟩
    · rw [parts_none c l (none_of c l e)]; rfl
    · obtain ⟨e1, e2⟩ := at_split c l i e
      rw [e1, parts_cut c _ _ e2, List.length_cons] at h
      have := parts_pos c (l.drop (i + 1))
      omega
  | k + 1, l, h => by
    rcases idx_cases c l with e | ⟨i, e⟩
    · rw [parts_none c l (none_of c l e)]
      unfold Lib.splitK
      rw [Lib.index_one, e]; simp
    · obtain ⟨e1, e2⟩ := at_split c l i e
      have e3 : parts c l = l.take i :: parts c (l.drop (i + 1)) := (congrArg (parts c) e1).trans (parts_cut c _ _ e2)
      rw [e3, List.length_cons] at h
      have ih := splitK_parts c k (l.drop (i + 1)) (by omega)
      unfold Lib.splitK
      rw [Lib.index_one, e, if_neg (by simp), e3]
      simp [ih]
theorem splitK_more (c : UInt8) : ∀ (k : Nat) (l : List UInt8), k + 1 < (parts c l).length → (Lib.splitK [c] 0 k l).length = k + 1
  | 0, l, h => rfl
  | k + 1, l, h => by
    rcases idx_cases c l with e | ⟨i, e⟩
    · rw [parts_none c l (none_of c l e)] at h; simp at h
    · obtain ⟨e1, e2⟩ := at_split c l i e
      have e3 : parts c l = l.take i :: parts c (l.drop (i + 1)) := (congrArg (parts c) e1).trans (parts_cut c _ _ e2)
      rw [e3, List.length_cons] at h
      have ih := splitK_more c k (l.drop (i + 1)) (by omega)
      unfold Lib.splitK
      rw [Lib.index_one, e, if_neg (by simp)]
      simp [ih]
theorem parts_length (c : UInt8) : ∀ (n : Nat) (l : List UInt8), l.length ≤ n → (parts c l).length = l.count c + 1
  | n, l, hn => by
    rcases idx_cases c l with e | ⟨i, e⟩
    · rw [parts_none c l (none_of c l e), List.count_eq_zero.2 (fun h => none_of c l e c h rfl)]; rfl
    · obtain ⟨e1, e2⟩ := at_split c l i e
      have hl : i + 1 ≤ l.length := by
        have := congrArg List.length e1
        rw [List.length_append, List.length_cons, List.length_take, List.length_drop] at this
        omega
      match n with
      | 0 => omega
      | n + 1 =>
        have ih := parts_length c n (l.drop (i + 1)) (by rw [List.length_drop]; omega)
        rw [e1, parts_cut c _ _ e2, List.length_cons, ih, List.count_append, List.count_cons_self, List.count_eq_zero.2 (fun h => e2 c h rfl)]
        omega
theorem parts_le (c : UInt8) (l : List UInt8) : (parts c l).length ≤ l.length + 1 := by
  rw [parts_length c l.length l (Nat.le_refl _)]
  have := List.count_le_length (a := c) (l := l)
  omega
/-- The parts of a text. -/
def partsB (c : UInt8) (s : ByteArray) : List ByteArray := (parts c s.data.toList).map bs
theorem map_inj : ∀ {a b : List ByteArray}, a.map (·.data.toList) = b.map (·.data.toList) → a = b
  | [], [], _ => rfl
  | [], _ :: _, h => by simp at h
  | _ :: _, [], h => by simp at h
  | x :: a, y :: b, h => by
    simp only [List.map_cons, List.cons.injEq] at h
    rw [ba_ext h.1, map_inj h.2]
theorem partsB_data (c : UInt8) (s : ByteArray) : (partsB c s).map (·.data.toList) = parts c s.data.toList := by
  unfold partsB; rw [List.map_map]
  have : ((fun x : ByteArray => x.data.toList) ∘ bs) = id := by funext l; exact bs_data l
  rw [this, List.map_id]
theorem partsB_length (c : UInt8) (s : ByteArray) : (partsB c s).length = (parts c s.data.toList).length := by unfold partsB; rw [List.length_map]
theorem splitB_parts (c : UInt8) (k : Nat) (s : ByteArray) (h : (partsB c s).length ≤ k + 1) : Lib.splitB ⟨#[c]⟩ 0 k s = partsB c s := by
  rw [partsB_length] at h
  refine map_inj ?_
  rw [Lib.splitB_data, partsB_data]
  exact splitK_parts c k _ h
theorem splitB_more (c : UInt8) (k : Nat) (s : ByteArray) (h : k + 1 < (partsB c s).length) : (Lib.splitB ⟨#[c]⟩ 0 k s).length = k + 1 := by
  rw [partsB_length] at h
  have := congrArg List.length (Lib.splitB_data ⟨#[c]⟩ 0 k s)
  rw [List.length_map] at this
  rw [this]
  exact splitK_more c k _ h
theorem countB_parts (c : UInt8) (s : ByteArray) : Lib.countB s ⟨#[c]⟩ + 1 = (partsB c s).length := by
  rw [partsB_length, parts_length c _ _ (Nat.le_refl _)]
  unfold Lib.countB
  rw [show (ByteArray.mk #[c]).data.toList = [c] from rfl, Lib.count_one]
theorem split_all (c : UInt8) (s : ByteArray) : Lib.splitB ⟨#[c]⟩ 0 (Lib.countB s ⟨#[c]⟩) s = partsB c s := splitB_parts c _ s (by rw [← countB_parts]; omega)
theorem idx_of {c : UInt8} {l : List UInt8} (k : Nat) (h : l[k]? = some c) (hn : ∀ j, j < k → l[j]? ≠ some c) : Lib.indexByte l c = k := by
  rcases idx_cases c l with e | ⟨i, e⟩
  · exact absurd h (Lib.indexByte_none e k)
  · obtain ⟨h1, h2⟩ := Lib.indexByte_some e
    rcases Nat.lt_trichotomy i k with hlt | rfl | hlt
    · exact absurd h1 (hn i hlt)
    · exact e
    · exact absurd h (h2 k hlt)
theorem idx_no {c : UInt8} {s : ByteArray} (hn : ∀ j, j < s.size → s.data.toList[j]? ≠ some c) : Lib.indexByte s.data.toList c = -1 := by
  rcases idx_cases c s.data.toList with e | ⟨i, e⟩
  · exact e
  · obtain ⟨h1, h2⟩ := Lib.indexByte_some e
    have : i < s.data.toList.length := (List.getElem?_eq_some_iff.1 h1).1
    exact absurd h1 (hn i (by simpa using this))
/-- Ahead of the first ;, and behind it. -/
def mkB (s : ByteArray) : ByteArray := bs (Lib.cut s.data.toList [59]).1
def tlB (s : ByteArray) : ByteArray := bs (Lib.cut s.data.toList [59]).2.1
def hasB (s : ByteArray) : Bool := decide (0 ≤ Lib.indexByte s.data.toList 59)
def tagsB (s : ByteArray) : List ByteArray := if (tlB s).size = 0 then [] else partsB 44 (tlB s)
theorem tags_nil {s : ByteArray} (h : (tlB s).size = 0) : tagsB s = [] := by unfold tagsB; rw [if_pos h]
theorem tags_some {s : ByteArray} (h : ¬ (tlB s).size = 0) : tagsB s = partsB 44 (tlB s) := by unfold tagsB; rw [if_neg h]
theorem cut_no {s : ByteArray} (h : Lib.indexByte s.data.toList 59 = -1) : mkB s = s ∧ tlB s = bs [] ∧ hasB s = false := by
  unfold mkB tlB hasB Lib.cut
  rw [Lib.index_one, h]
  simp [data_bs]
theorem cut_yes {s : ByteArray} {i : Nat} (h : Lib.indexByte s.data.toList 59 = i) : mkB s = s.extract 0 i ∧ tlB s = s.extract (i + 1) s.size ∧ hasB s = true := by
  unfold mkB tlB hasB Lib.cut
  rw [Lib.index_one, h, if_pos (by omega)]
  refine ⟨ba_ext ?_, ba_ext ?_, by simp⟩
  · rw [bs_data, Lib.extract_from_zero]; simp
  · rw [bs_data, Lib.extract_to_end]; simp
theorem idx_lt {s : ByteArray} {c : UInt8} {i : Nat} (h : Lib.indexByte s.data.toList c = i) : i < s.size := by
  obtain ⟨h1, h2⟩ := Lib.indexByte_some h
  rcases Nat.lt_or_ge i s.data.toList.length with h | h
  · simpa using h
  · rw [List.getElem?_eq_none h] at h1; cases h1
theorem mkB_size (s : ByteArray) : (mkB s).size ≤ s.size := by
  rcases idx_cases 59 s.data.toList with e | ⟨i, e⟩
  · rw [(cut_no e).1]; omega
  · rw [(cut_yes e).1, ByteArray.size_extract]; omega
theorem tlB_size (s : ByteArray) : (tlB s).size ≤ s.size := by
  rcases idx_cases 59 s.data.toList with e | ⟨i, e⟩
  · rw [(cut_no e).2.1, bs_size]; simp
  · rw [(cut_yes e).2.1, ByteArray.size_extract]; omega
/-- One text is less than another one, byte by byte. -/
def ltB (a b : ByteArray) : Bool := Op.bytesLess a.toList b.toList
theorem lessL_irr : ∀ l : List UInt8, Op.bytesLess l l = false
  | [] => rfl
  | a :: l => by unfold Op.bytesLess; rw [lessL_irr l]; simp
theorem lessL_tri : ∀ a b : List UInt8, (Op.bytesLess a b = true ∧ Op.bytesLess b a = false ∧ a ≠ b) ∨ (Op.bytesLess a b = false ∧ Op.bytesLess b a = true ∧ a ≠ b) ∨ (Op.bytesLess a b = false ∧ Op.bytesLess b a = false ∧ a = b)
  | [], [] => by simp [Op.bytesLess]
  | [], _ :: _ => by simp [Op.bytesLess]
  | _ :: _, [] => by simp [Op.bytesLess]
  | x :: a, y :: b => by
    have ih := lessL_tri a b
    unfold Op.bytesLess
    by_cases h1 : x < y
    · left
      have h2 : ¬ y < x := by have := UInt8.lt_iff_toNat_lt.1 h1; rw [UInt8.lt_iff_toNat_lt]; omega
      have h3 : y ≠ x := by rintro rfl; exact h2 h1
      simp [h1, h2, h3, Ne.symm h3]
    · by_cases h2 : y < x
      · right; left
        have h3 : y ≠ x := by rintro rfl; exact h1 h2
        simp [h1, h2, Ne.symm h3]
      · have h3 : x = y := by
          rw [UInt8.lt_iff_toNat_lt] at h1 h2
          exact UInt8.toNat_inj.1 (by omega)
        subst h3
        simp only [h1, decide_false, BEq.rfl, Bool.true_and, Bool.false_or, List.cons.injEq, true_and]
        simpa using ih
theorem ltB_tri (a b : ByteArray) : (ltB a b = true ∧ ltB b a = false ∧ a ≠ b) ∨ (ltB a b = false ∧ ltB b a = true ∧ a ≠ b) ∨ (ltB a b = false ∧ ltB b a = false ∧ a = b) := by
  have := lessL_tri a.toList b.toList
  have e : a = b ↔ a.toList = b.toList := by rw [ba_eq_iff, toL, toL]
  unfold ltB
  rw [Ne, e]
  exact this
theorem geB (a b : ByteArray) : (ltB a b || decide (a = b)) = !(ltB b a) := by
  rcases ltB_tri a b with ⟨h1, h2, h3⟩ | ⟨h1, h2, h3⟩ | ⟨h1, h2, h3⟩
  · simp [h1, h2, h3]
  · simp [h1, h2, h3]
  · rw [h1, h2]; simp [h3]
/-- Is tag i all right: a name, above the one ahead of it? -/
def tagAt (xs : List ByteArray) (i : Nat) : Bool := nameB (xs.getD i ⟨#[]⟩) && (decide (i = 0) || ltB (xs.getD (i - 1) ⟨#[]⟩) (xs.getD i ⟨#[]⟩))
def tagsTo (xs : List ByteArray) (k : Nat) : Bool := (List.range k).all (tagAt xs)
def risB (xs : List ByteArray) : Bool := decide (xs.length ≤ 8) && tagsTo xs xs.length
/-- The text of a listing. -/
def labB (s : ByteArray) : Bool := hasB s && nameB (mkB s) && risB (tagsB s)
theorem tagsTo_succ (xs : List ByteArray) (k : Nat) : tagsTo xs (k + 1) = (tagsTo xs k && tagAt xs k) := by
  unfold tagsTo; rw [List.range_succ, List.all_append]; simp
theorem ris_bad {xs : List ByteArray} {k : Nat} (hk : k < xs.length) (h : tagAt xs k = false) : risB xs = false := by
  unfold risB tagsTo
  have : (List.range xs.length).all (tagAt xs) = false := by
    rw [List.all_eq_false]; exact ⟨k, by simpa using hk, by simp [h]⟩
  rw [this]; simp
theorem ris_long {xs : List ByteArray} (h : ¬ xs.length ≤ 8) : risB xs = false := by unfold risB; simp; intros; omega
theorem ris_ok {xs : List ByteArray} (h : xs.length ≤ 8) (h2 : tagsTo xs xs.length = true) : risB xs = true := by unfold risB; rw [h2]; simp; omega
end Go.Proofs.YtghnbkkfghfifaaGreatDoor.E
