/- Clocks, plainly. -/
import Derived.Lib.Hide
namespace Go.Proofs.Ytmoooeadiminbaa
set_option linter.unusedVariables false
theorem lt_irr (a : List UInt8) : ¬ a < a := List.lt_irrefl a
theorem lt_tr {a b c : List UInt8} (h : a < b) (k : b < c) : a < c := List.lt_trans h k
theorem lt_asy {a b : List UInt8} (h : a < b) : ¬ b < a := fun k => lt_irr a (lt_tr h k)
theorem lt_tri {a b : List UInt8} (h : ¬ a < b) (k : a ≠ b) : b < a := by
  have h1 : b ≤ a := List.not_lt.1 h
  refine Decidable.byContradiction fun h2 => k (List.le_antisymm (List.not_lt.1 h2) h1)
section
variable {α β : Type} {k : α → List UInt8}
def insK (k : α → List UInt8) (x : α) : List α → List α
  | [] => [x]
  | y :: r => if k x < k y then x :: y :: r else if k x = k y then x :: r else y :: insK k x r
def delK (k : α → List UInt8) (n : List UInt8) (l : List α) : List α := l.filter fun y => decide (k y ≠ n)
def getK (k : α → List UInt8) (n : List UInt8) (l : List α) : Option α := l.find? fun y => decide (k y = n)
def Sorted (k : α → List UInt8) (l : List α) : Prop := l.Pairwise fun x y => k x < k y
theorem insK_map {k' : β → List UInt8} {g : α → β} (h : ∀ a, k' (g a) = k a) (x : α) : ∀ l : List α, (insK k x l).map g = insK k' (g x) (l.map g)
  | [] => rfl
  | y :: r => by
    simp only [insK, List.map_cons, h]
    split
    · rfl
    · split
      · rfl
      · rw [List.map_cons, insK_map h x r]
theorem delK_map {k' : β → List UInt8} {g : α → β} (h : ∀ a, k' (g a) = k a) (n : List UInt8) (l : List α) : (delK k n l).map g = delK k' n (l.map g) := by
  unfold delK
  rw [List.filter_map]
  congr 1
  apply List.filter_congr
  intro x _
  simp [h]
theorem getK_map {k' : β → List UInt8} {g : α → β} (h : ∀ a, k' (g a) = k a) (n : List UInt8) (l : List α) : (getK k n l).map g = getK k' n (l.map g) := by
  unfold getK
  rw [List.find?_map]
  congr 1
  have : (fun y => decide (k' y = n)) ∘ g = fun y => decide (k y = n) := by funext x; simp [h]
  rw [this]
theorem Sorted.map {k' : β → List UInt8} {g : α → β} (h : ∀ a, k' (g a) = k a) {l : List α} (hs : Sorted k l) : Sorted k' (l.map g) := by
  unfold Sorted at *
  rw [List.pairwise_map]
  exact hs.imp (fun {a b} hab => by rw [h, h]; exact hab)
theorem mem_insK {x y : α} : ∀ {l : List α}, Sorted k l → (y ∈ insK k x l ↔ y = x ∨ (y ∈ l ∧ k y ≠ k x))
  | [], _ => by simp [insK]
  | z :: r, hs => by
    obtain ⟨h1, h2⟩ := List.pairwise_cons.1 hs
    unfold insK
    split
    · rename_i hlt
      constructor
      · intro h
        rcases List.mem_cons.1 h with h | h
        · exact .inl h
        · refine .inr ⟨h, fun e => ?_⟩
          rcases List.mem_cons.1 h with rfl | h'
          · rw [e] at hlt; exact lt_irr _ hlt
          · have := lt_tr hlt (h1 y h'); rw [e] at this; exact lt_irr _ this
      · rintro (rfl | ⟨h, _⟩)
        · simp
        · exact List.mem_cons.2 (.inr h)
    · split
      · rename_i hlt he
        constructor
        · intro h
          rcases List.mem_cons.1 h with h | h
          · exact .inl h
          · refine .inr ⟨List.mem_cons.2 (.inr h), fun e => ?_⟩
            have := h1 y h
            rw [e, he] at this
            exact lt_irr _ this
        · rintro (rfl | ⟨h, hne⟩)
          · simp
          · rcases List.mem_cons.1 h with rfl | h'
            · exact absurd he.symm hne
            · exact List.mem_cons.2 (.inr h')
      · rename_i hlt he
        rw [List.mem_cons, mem_insK h2, List.mem_cons]
        constructor
        · rintro (rfl | rfl | ⟨h, hne⟩)
          · exact .inr ⟨.inl rfl, fun e => he e.symm⟩
          · exact .inl rfl
          · exact .inr ⟨.inr h, hne⟩
        · rintro (rfl | ⟨rfl | h, hne⟩)
          · exact .inr (.inl rfl)
          · exact .inl rfl
          · exact .inr (.inr ⟨h, hne⟩)
theorem sorted_insK {x : α} : ∀ {l : List α}, Sorted k l → Sorted k (insK k x l)
  | [], _ => by unfold Sorted insK; simp
  | z :: r, hs => by
    obtain ⟨h1, h2⟩ := List.pairwise_cons.1 hs
    unfold insK
    split
    · rename_i hlt
      exact List.pairwise_cons.2 ⟨fun y hy => by
        rcases List.mem_cons.1 hy with rfl | hy
        · exact hlt
        · exact lt_tr hlt (h1 y hy), hs⟩
    · split
      · rename_i hlt he
        exact List.pairwise_cons.2 ⟨fun y hy => by rw [he]; exact h1 y hy, h2⟩
      · rename_i hlt he
        refine List.pairwise_cons.2 ⟨fun y hy => ?_, sorted_insK h2⟩
        rcases (mem_insK h2).1 hy with rfl | ⟨h, _⟩
        · exact lt_tri hlt he
        · exact h1 y h
theorem sorted_delK {n : List UInt8} {l : List α} (hs : Sorted k l) : Sorted k (delK k n l) := List.Pairwise.filter _ hs
theorem getK_some {n : List UInt8} {l : List α} {e : α} (h : getK k n l = some e) : e ∈ l ∧ k e = n := ⟨List.mem_of_find?_eq_some h, by simpa using List.find?_some h⟩
theorem getK_none {n : List UInt8} {l : List α} (h : getK k n l = none) : ∀ e ∈ l, k e ≠ n := fun e he => by simpa using (List.find?_eq_none.1 h) e he
theorem sorted_inj {l : List α} (hs : Sorted k l) {x y : α} (hx : x ∈ l) (hy : y ∈ l) (h : k x = k y) : x = y := by
  induction l with
  | nil => simp at hx
  | cons z r ih =>
    obtain ⟨h1, h2⟩ := List.pairwise_cons.1 hs
    rcases List.mem_cons.1 hx with rfl | hx
    · rcases List.mem_cons.1 hy with rfl | hy
      · rfl
      · have := h1 y hy; rw [h] at this; exact absurd this (lt_irr _)
    · rcases List.mem_cons.1 hy with rfl | hy
      · have := h1 x (by assumption); rw [h] at this; exact absurd this (lt_irr _)
      · exact ih h2 (by assumption) (by assumption)
theorem getK_mem {l : List α} (hs : Sorted k l) {e : α} (he : e ∈ l) : getK k (k e) l = some e := by
  cases hg : getK k (k e) l with
  | none => exact absurd rfl (getK_none hg e he)
  | some e' =>
    obtain ⟨h1, h2⟩ := getK_some hg
    rw [sorted_inj hs h1 he h2]
theorem insK_new {x : α} : ∀ {l : List α}, (∀ e ∈ l, k e ≠ k x) → (insK k x l).Perm (x :: l)
  | [], _ => by simp [insK]
  | z :: r, h => by
    unfold insK
    split
    · exact List.Perm.refl _
    · split
      · rename_i he
        exact absurd he.symm (h z (by simp))
      · exact (List.Perm.cons z (insK_new (fun e he => h e (by simp [he])))).trans (List.Perm.swap x z r)
theorem insK_old {x : α} : ∀ {l : List α}, Sorted k l → ∀ {e : α}, e ∈ l → k e = k x → insK k x l = l.map fun y => if k y = k x then x else y
  | [], _, _, he, _ => by simp at he
  | z :: r, hs, e, he, hk => by
    obtain ⟨h1, h2⟩ := List.pairwise_cons.1 hs
    unfold insK
    rcases List.mem_cons.1 he with rfl | he'
    · rw [if_neg (by rw [hk]; exact lt_irr _), if_pos hk.symm, List.map_cons, if_pos hk]
      congr 1
      symm
      refine (List.map_congr_left (fun y hy => ?_)).trans (List.map_id _)
      rw [if_neg (fun e1 => by have := h1 y hy; rw [e1, hk] at this; exact lt_irr _ this)]
      rfl
    · have hz : k z < k x := by rw [← hk]; exact h1 e he'
      rw [if_neg (lt_asy hz), if_neg (fun e1 => by rw [e1] at hz; exact lt_irr _ hz), List.map_cons, if_neg (fun e1 => by rw [e1] at hz; exact lt_irr _ hz), insK_old h2 he' hk]
theorem insK_old_len {x : α} {l : List α} (hs : Sorted k l) {e : α} (he : e ∈ l) (hk : k e = k x) : (insK k x l).length = l.length := by rw [insK_old hs he hk, List.length_map]
theorem delK_perm {l : List α} (hs : Sorted k l) {e : α} (he : e ∈ l) : l.Perm (e :: delK k (k e) l) := by
  induction l with
  | nil => simp at he
  | cons z r ih =>
    obtain ⟨h1, h2⟩ := List.pairwise_cons.1 hs
    rcases List.mem_cons.1 he with rfl | he'
    · unfold delK
      rw [List.filter_cons, if_neg (by simp)]
      rw [List.filter_eq_self.2 (fun y hy => ?_)]
      simp only [ne_eq, decide_not, Bool.not_eq_eq_eq_not, Bool.not_true, decide_eq_false_iff_not]
      exact fun e1 => by have := h1 y hy; rw [e1] at this; exact lt_irr _ this
    · unfold delK
      rw [List.filter_cons, if_pos (by simp only [ne_eq, decide_not, Bool.not_eq_eq_eq_not, Bool.not_true, decide_eq_false_iff_not]; exact fun e1 => by have := h1 e he'; rw [e1] at this; exact lt_irr _ this)]
      exact ((ih h2 he').cons z).trans (List.Perm.swap e z _)
theorem delK_none {n : List UInt8} {l : List α} (h : ∀ e ∈ l, k e ≠ n) : delK k n l = l := List.filter_eq_self.2 (fun y hy => by simpa using h y hy)
theorem mem_delK {n : List UInt8} {l : List α} {y : α} : y ∈ delK k n l ↔ y ∈ l ∧ k y ≠ n := by unfold delK; rw [List.mem_filter]; simp
end
/-- A source, plainly. -/
structure Sr where
  name : List UInt8
  far : Int
  last : Int
/-- A clock, plainly. -/
structure Ck where
  slack : Int
  idle : Int
  now : Int
  mark : Int
  L : List Sr
def near (n : Int) : Int := min (max n 0) 1099511627776
theorem near_lo (n : Int) : 0 ≤ near n := by unfold near; omega
theorem near_hi (n : Int) : near n ≤ 1099511627776 := by unfold near; omega
theorem near_id {n : Int} (h : 0 ≤ n) (h' : n ≤ 1099511627776) : near n = n := by unfold near; omega
def okCh (c : UInt8) : Bool := (decide (97 ≤ c.toNat) && decide (c.toNat ≤ 122)) || (decide (48 ≤ c.toNat) && decide (c.toNat ≤ 57)) || decide (c.toNat = 45)
def okName (s : List UInt8) : Bool := decide (1 ≤ s.length) && decide (s.length ≤ 24) && s.all okCh
theorem okName_len {s : List UInt8} (h : okName s = true) : 1 ≤ s.length ∧ s.length ≤ 24 := by
  unfold okName at h
  simp only [Bool.and_eq_true, decide_eq_true_eq] at h
  exact h.1
def okTick (a : Int) : Bool := decide (0 ≤ a) && decide (a ≤ 1099511627776)
theorem okTick_iff {a : Int} : okTick a = true ↔ 0 ≤ a ∧ a ≤ 1099511627776 := by unfold okTick; simp
def act (k : Ck) (s : Sr) : Bool := decide (k.idle = 0) || decide (k.now - s.last ≤ k.idle)
def leastOf : List Int → Option Int
  | [] => none
  | x :: r => some (match leastOf r with | none => x | some m => min x m)
theorem leastOf_none {l : List Int} (h : leastOf l = none) : l = [] := by
  cases l with
  | nil => rfl
  | cons x r => simp [leastOf] at h
theorem leastOf_some : ∀ {l : List Int} {m : Int}, leastOf l = some m → m ∈ l ∧ ∀ x ∈ l, m ≤ x
  | [], m, h => by simp [leastOf] at h
  | x :: r, m, h => by
    simp only [leastOf, Option.some.injEq] at h
    cases hr : leastOf r with
    | none =>
      rw [hr] at h
      obtain rfl := leastOf_none hr
      simp only at h
      subst h
      simp
    | some m' =>
      rw [hr] at h
      simp only at h
      obtain ⟨h1, h2⟩ := leastOf_some hr
      refine ⟨?_, fun y hy => ?_⟩
      · by_cases hx : x ≤ m'
        · rw [← h]; simp [Int.min_eq_left hx]
        · rw [← h, Int.min_eq_right (by omega)]; simp [h1]
      · rcases List.mem_cons.1 hy with rfl | hy
        · omega
        · have := h2 y hy; omega
theorem leastOf_of {l : List Int} {m : Int} (h1 : m ∈ l) (h2 : ∀ x ∈ l, m ≤ x) : leastOf l = some m := by
  cases h : leastOf l with
  | none => rw [leastOf_none h] at h1; simp at h1
  | some m' =>
    obtain ⟨h3, h4⟩ := leastOf_some h
    have a := h2 m' h3
    have b := h4 m h1
    rw [show m = m' by omega]
/-- The At of the active source that has come least far. -/
def tells (k : Ck) : Option Int := leastOf ((k.L.filter (act k)).map Sr.far)
def told (k : Ck) : Int := match tells k with | none => -1 | some m => m - k.slack - 1
theorem told_none {k : Ck} (h : ∀ s ∈ k.L, act k s = false) : told k = -1 := by
  unfold told tells
  rw [List.filter_eq_nil_iff.2 (fun s hs => by rw [h s hs]; simp)]
  rfl
theorem told_some {k : Ck} {s : Sr} (hs : s ∈ k.L) (ha : act k s = true) (h : ∀ x ∈ k.L, act k x = true → s.far ≤ x.far) : told k = s.far - k.slack - 1 := by
  unfold told tells
  rw [leastOf_of (m := s.far) (List.mem_map.2 ⟨s, List.mem_filter.2 ⟨hs, ha⟩, rfl⟩) (fun x hx => by
    obtain ⟨y, hy, rfl⟩ := List.mem_map.1 hx
    obtain ⟨h1, h2⟩ := List.mem_filter.1 hy
    exact h y h1 h2)]
theorem told_cases (k : Ck) : told k = -1 ∧ (∀ s ∈ k.L, act k s = false) ∨ ∃ s ∈ k.L, act k s = true ∧ told k = s.far - k.slack - 1 ∧ ∀ x ∈ k.L, act k x = true → s.far ≤ x.far := by
  cases h : tells k with
  | none =>
    refine .inl ⟨by unfold told; rw [h], fun s hs => ?_⟩
    have := leastOf_none h
    simp only [List.map_eq_nil_iff, List.filter_eq_nil_iff] at this
    simpa using this s hs
  | some m =>
    obtain ⟨h1, h2⟩ := leastOf_some h
    obtain ⟨s, hs, rfl⟩ := List.mem_map.1 h1
    obtain ⟨h3, h4⟩ := List.mem_filter.1 hs
    exact .inr ⟨s, h3, h4, by unfold told; rw [h], fun x hx ha => h2 _ (List.mem_map.2 ⟨x, List.mem_filter.2 ⟨hx, ha⟩, rfl⟩)⟩
def folC (k : Ck) : Ck := ⟨k.slack, k.idle, k.now, max k.mark (told k), k.L⟩
def timeC (k : Ck) (n : Int) : Ck := ⟨k.slack, k.idle, max k.now (near n), k.mark, k.L⟩
def tickC (k : Ck) (n : Int) : Ck := folC (timeC k n)
def heardC (k : Ck) (n : List UInt8) : Int := match getK Sr.name n k.L with | none => -1 | some s => s.far
def activeC (k : Ck) (n : List UInt8) : Bool := match getK Sr.name n k.L with | none => false | some s => act k s
def hearOk (k : Ck) (n : List UInt8) (a : Int) : Bool := okName n && okTick a && decide (k.mark < a)
def putC (k : Ck) (n : List UInt8) (a : Int) : Ck := ⟨k.slack, k.idle, k.now, k.mark, insK Sr.name ⟨n, max a (heardC k n), k.now⟩ k.L⟩
def hearB (k : Ck) (n : List UInt8) (a t : Int) : Bool := hearOk (tickC k t) n a
def hearC (k : Ck) (n : List UInt8) (a t : Int) : Ck := if hearB k n a t then folC (putC (tickC k t) n a) else tickC k t
def newC (slack idle : Int) : Ck := ⟨near slack, near idle, 0, -1, []⟩
/-- What a clock is within. -/
structure OkC (k : Ck) : Prop where
  sorted : Sorted Sr.name k.L
  names : ∀ s ∈ k.L, okName s.name = true
  far : ∀ s ∈ k.L, 0 ≤ s.far ∧ s.far ≤ 1099511627776
  last : ∀ s ∈ k.L, 0 ≤ s.last ∧ s.last ≤ k.now
  slack : 0 ≤ k.slack ∧ k.slack ≤ 1099511627776
  idle : 0 ≤ k.idle ∧ k.idle ≤ 1099511627776
  now : 0 ≤ k.now ∧ k.now ≤ 1099511627776
  mark : -1 ≤ k.mark ∧ k.mark ≤ 1099511627776
theorem OkC.told {k : Ck} (h : OkC k) : -1099511627777 ≤ told k ∧ told k ≤ 1099511627775 := by
  have hs := h.slack
  rcases told_cases k with ⟨e, _⟩ | ⟨s, h1, _, e, _⟩
  · omega
  · have := h.far s h1; omega
theorem OkC.fol {k : Ck} (h : OkC k) : OkC (folC k) :=
  ⟨h.sorted, h.names, h.far, h.last, h.slack, h.idle, h.now, by
    have h1 := h.told; have h2 := h.mark
    show -1 ≤ max _ _ ∧ max _ _ ≤ (_ : Int); omega⟩
theorem OkC.time {k : Ck} (h : OkC k) (n : Int) : OkC (timeC k n) :=
  ⟨h.sorted, h.names, h.far, fun s hs => by
    have := h.last s hs
    show 0 ≤ s.last ∧ s.last ≤ max k.now (near n); omega, h.slack, h.idle, by
    have h1 := h.now; have h2 := near_lo n; have h3 := near_hi n
    show 0 ≤ max k.now (near n) ∧ max k.now (near n) ≤ _; omega, h.mark⟩
theorem OkC.tick {k : Ck} (h : OkC k) (n : Int) : OkC (tickC k n) := (h.time n).fol
theorem heard_ge {k : Ck} (h : OkC k) (n : List UInt8) : -1 ≤ heardC k n ∧ heardC k n ≤ 1099511627776 := by
  unfold heardC
  cases hg : getK Sr.name n k.L with
  | none => simp only; omega
  | some s => have := h.far s (getK_some hg).1; simp only; omega
theorem OkC.put {k : Ck} (h : OkC k) {n : List UInt8} {a : Int} (hn : okName n = true) (ha : okTick a = true) : OkC (putC k n a) := by
  have hh := heard_ge h n
  have ha' := okTick_iff.1 ha
  have hnow := h.now
  refine ⟨sorted_insK h.sorted, fun s hs => ?_, fun s hs => ?_, fun s hs => ?_, h.slack, h.idle, h.now, h.mark⟩
  · rcases (mem_insK h.sorted).1 hs with rfl | ⟨h1, _⟩
    · exact hn
    · exact h.names s h1
  · rcases (mem_insK h.sorted).1 hs with rfl | ⟨h1, _⟩
    · show 0 ≤ max a (heardC k n) ∧ max a (heardC k n) ≤ _; omega
    · exact h.far s h1
  · rcases (mem_insK h.sorted).1 hs with rfl | ⟨h1, _⟩
    · show 0 ≤ k.now ∧ k.now ≤ k.now; omega
    · exact h.last s h1
theorem hearOk_iff {k : Ck} {n : List UInt8} {a : Int} : hearOk k n a = true ↔ okName n = true ∧ okTick a = true ∧ k.mark < a := by
  unfold hearOk; simp [and_assoc]
theorem OkC.hear {k : Ck} (h : OkC k) (n : List UInt8) (a t : Int) : OkC (hearC k n a t) := by
  unfold hearC
  split
  · rename_i hb
    obtain ⟨h1, h2, _⟩ := hearOk_iff.1 hb
    exact ((h.tick t).put h1 h2).fol
  · exact h.tick t
theorem ok_new (slack idle : Int) : OkC (newC slack idle) :=
  ⟨List.Pairwise.nil, fun s hs => by simp [newC] at hs, fun s hs => by simp [newC] at hs, fun s hs => by simp [newC] at hs, ⟨near_lo _, near_hi _⟩, ⟨near_lo _, near_hi _⟩, by simp [newC], by simp [newC]⟩
theorem insK_len {α : Type} {k : α → List UInt8} (x : α) : ∀ l : List α, (insK k x l).length ≤ l.length + 1
  | [] => by simp [insK]
  | y :: r => by
    unfold insK
    split
    · simp
    · split
      · simp
      · have := insK_len (k := k) x r
        simp; omega
theorem hear_len (k : Ck) (n : List UInt8) (a t : Int) : (hearC k n a t).L.length ≤ k.L.length + 1 := by
  unfold hearC
  split
  · exact insK_len _ _
  · show k.L.length ≤ _; omega
end Go.Proofs.Ytmoooeadiminbaa
