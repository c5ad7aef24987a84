/- Disks, plainly. -/
import Derived.Lib.Hide
namespace Go.Proofs.Ytfkefppabjbbdaa
set_option linter.unusedVariables false
/-- A file, plainly. -/
structure Fl where
  name : List UInt8
  s : List UInt8
  lasts : Nat
  stays : Bool
theorem lt_irr (a : List UInt8) : ¬ a < a := List.lt_irrefl a
theorem lt_tr {a b c : List UInt8} (h : a < b) (k : b < c) : a < c := List.lt_trans h k
theorem lt_asy {a b : List UInt8} (h : a < b) : ¬ b < a := fun k => lt_irr a (lt_tr h k)
theorem lt_tri {a b : List UInt8} (h : ¬ a < b) (k : a ≠ b) : b < a := by
  have h1 : b ≤ a := List.not_lt.1 h
  refine Decidable.byContradiction fun h2 => k (List.le_antisymm (List.not_lt.1 h2) h1)
section
variable {α β : Type} {k : α → List UInt8}
def insK (k : α → List UInt8) (x : α) : List α → List α
  | [] => [x]
  | y :: r => if k x < k y then x :: y :: r else if k x = k y then x :: r else y :: insK k x r
def delK (k : α → List UInt8) (n : List UInt8) (l : List α) : List α := l.filter fun y => decide (k y ≠ n)
def getK (k : α → List UInt8) (n : List UInt8) (l : List α) : Option α := l.find? fun y => decide (k y = n)
def Sorted (k : α → List UInt8) (l : List α) : Prop := l.Pairwise fun x y => k x < k y
theorem insK_map {k' : β → List UInt8} {g : α → β} (h : ∀ a, k' (g a) = k a) (x : α) : ∀ l : List α, (insK k x l).map g = insK k' (g x) (l.map g)
  | [] => rfl
  | y :: r => by
    simp only [insK, List.map_cons, h]
    split
    · rfl
    · split
      · rfl
      · rw [List.map_cons, insK_map h x r]
theorem delK_map {k' : β → List UInt8} {g : α → β} (h : ∀ a, k' (g a) = k a) (n : List UInt8) (l : List α) : (delK k n l).map g = delK k' n (l.map g) := by
  unfold delK
  rw [List.filter_map]
  congr 1
  apply List.filter_congr
  intro x _
  simp [h]
theorem getK_map {k' : β → List UInt8} {g : α → β} (h : ∀ a, k' (g a) = k a) (n : List UInt8) (l : List α) : (getK k n l).map g = getK k' n (l.map g) := by
  unfold getK
  rw [List.find?_map]
  congr 1
  have : (fun y => decide (k' y = n)) ∘ g = fun y => decide (k y = n) := by funext x; simp [h]
  rw [this]
theorem Sorted.map {k' : β → List UInt8} {g : α → β} (h : ∀ a, k' (g a) = k a) {l : List α} (hs : Sorted k l) : Sorted k' (l.map g) := by
  unfold Sorted at *
  rw [List.pairwise_map]
  exact hs.imp (fun {a b} hab => by rw [h, h]; exact hab)
theorem mem_insK {x y : α} : ∀ {l : List α}, Sorted k l → (y ∈ insK k x l ↔ y = x ∨ (y ∈ l ∧ k y ≠ k x))
  | [], _ => by simp [insK]
  | z :: r, hs => by
    obtain ⟨h1, h2⟩ := List.pairwise_cons.1 hs
    unfold insK
    split
    · rename_i hlt
      constructor
      · intro h
        rcases List.mem_cons.1 h with h | h
        · exact .inl h
        · refine .inr ⟨h, fun e => ?_⟩
          rcases List.mem_cons.1 h with rfl | h'
          · rw [e] at hlt; exact lt_irr _ hlt
          · have := lt_tr hlt (h1 y h'); rw [e] at this; exact lt_irr _ this
      · rintro (rfl | ⟨h, _⟩)
        · simp
        · exact List.mem_cons.2 (.inr h)
    · split
      · rename_i hlt he
        constructor
        · intro h
          rcases List.mem_cons.1 h with h | h
          · exact .inl h
          · refine .inr ⟨List.mem_cons.2 (.inr h), fun e => ?_⟩
            have := h1 y h
            rw [e, he] at this
            exact lt_irr _ this
        · rintro (rfl | ⟨h, hne⟩)
          · simp
          · rcases List.mem_cons.1 h with rfl | h'
            · exact absurd he.symm hne
            · exact List.mem_cons.2 (.inr h')
      · rename_i hlt he
        rw [List.mem_cons, mem_insK h2, List.mem_cons]
        constructor
        · rintro (rfl | rfl | ⟨h, hne⟩)
          · exact .inr ⟨.inl rfl, fun e => he e.symm⟩
          · exact .inl rfl
          · exact .inr ⟨.inr h, hne⟩
        · rintro (rfl | ⟨rfl | h, hne⟩)
          · exact .inr (.inl rfl)
          · exact .inl rfl
          · exact .inr (.inr ⟨h, hne⟩)
theorem sorted_insK {x : α} : ∀ {l : List α}, Sorted k l → Sorted k (insK k x l)
  | [], _ => by unfold Sorted insK; simp
  | z :: r, hs => by
    obtain ⟨h1, h2⟩ := List.pairwise_cons.1 hs
    unfold insK
    split
    · rename_i hlt
      exact List.pairwise_cons.2 ⟨fun y hy => by
        rcases List.mem_cons.1 hy with rfl | hy
        · exact hlt
        · exact lt_tr hlt (h1 y hy), hs⟩
    · split
      · rename_i hlt he
        exact List.pairwise_cons.2 ⟨fun y hy => by rw [he]; exact h1 y hy, h2⟩
      · rename_i hlt he
        refine List.pairwise_cons.2 ⟨fun y hy => ?_, sorted_insK h2⟩
        rcases (mem_insK h2).1 hy with rfl | ⟨h, _⟩
        · exact lt_tri hlt he
        · exact h1 y h
theorem sorted_delK {n : List UInt8} {l : List α} (hs : Sorted k l) : Sorted k (delK k n l) := List.Pairwise.filter _ hs
theorem getK_some {n : List UInt8} {l : List α} {e : α} (h : getK k n l = some e) : e ∈ l ∧ k e = n := ⟨List.mem_of_find?_eq_some h, by simpa using List.find?_some h⟩
theorem getK_none {n : List UInt8} {l : List α} (h : getK k n l = none) : ∀ e ∈ l, k e ≠ n := fun e he => by simpa using (List.find?_eq_none.1 h) e he
theorem sorted_inj {l : List α} (hs : Sorted k l) {x y : α} (hx : x ∈ l) (hy : y ∈ l) (h : k x = k y) : x = y := by
  induction l with
  | nil => simp at hx
  | cons z r ih =>
    obtain ⟨h1, h2⟩ := List.pairwise_cons.1 hs
    rcases List.mem_cons.1 hx with rfl | hx
    · rcases List.mem_cons.1 hy with rfl | hy
      · rfl
      · have := h1 y hy; rw [h] at this; exact absurd this (lt_irr _)
    · rcases List.mem_cons.1 hy with rfl | hy
      · have := h1 x (by assumption); rw [h] at this; exact absurd this (lt_irr _)
      · exact ih h2 (by assumption) (by assumption)
theorem getK_mem {l : List α} (hs : Sorted k l) {e : α} (he : e ∈ l) : getK k (k e) l = some e := by
  cases hg : getK k (k e) l with
  | none => exact absurd rfl (getK_none hg e he)
  | some e' =>
    obtain ⟨h1, h2⟩ := getK_some hg
    rw [sorted_inj hs h1 he h2]
theorem insK_new {x : α} : ∀ {l : List α}, (∀ e ∈ l, k e ≠ k x) → (insK k x l).Perm (x :: l)
  | [], _ => by simp [insK]
  | z :: r, h => by
    unfold insK
    split
    · exact List.Perm.refl _
    · split
      · rename_i he
        exact absurd he.symm (h z (by simp))
      · exact (List.Perm.cons z (insK_new (fun e he => h e (by simp [he])))).trans (List.Perm.swap x z r)
theorem insK_old {x : α} : ∀ {l : List α}, Sorted k l → ∀ {e : α}, e ∈ l → k e = k x → insK k x l = l.map fun y => if k y = k x then x else y
  | [], _, _, he, _ => by simp at he
  | z :: r, hs, e, he, hk => by
    obtain ⟨h1, h2⟩ := List.pairwise_cons.1 hs
    unfold insK
    rcases List.mem_cons.1 he with rfl | he'
    · rw [if_neg (by rw [hk]; exact lt_irr _), if_pos hk.symm, List.map_cons, if_pos hk]
      congr 1
      symm
      refine (List.map_congr_left (fun y hy => ?_)).trans (List.map_id _)
      rw [if_neg (fun e1 => by have := h1 y hy; rw [e1, hk] at this; exact lt_irr _ this)]
      rfl
    · have hz : k z < k x := by rw [← hk]; exact h1 e he'
      rw [if_neg (lt_asy hz), if_neg (fun e1 => by rw [e1] at hz; exact lt_irr _ hz), List.map_cons, if_neg (fun e1 => by rw [e1] at hz; exact lt_irr _ hz), insK_old h2 he' hk]
theorem insK_old_len {x : α} {l : List α} (hs : Sorted k l) {e : α} (he : e ∈ l) (hk : k e = k x) : (insK k x l).length = l.length := by rw [insK_old hs he hk, List.length_map]
theorem delK_perm {l : List α} (hs : Sorted k l) {e : α} (he : e ∈ l) : l.Perm (e :: delK k (k e) l) := by
  induction l with
  | nil => simp at he
  | cons z r ih =>
    obtain ⟨h1, h2⟩ := List.pairwise_cons.1 hs
    rcases List.mem_cons.1 he with rfl | he'
    · unfold delK
      rw [List.filter_cons, if_neg (by simp)]
      rw [List.filter_eq_self.2 (fun y hy => ?_)]
      simp only [ne_eq, decide_not, Bool.not_eq_eq_eq_not, Bool.not_true, decide_eq_false_iff_not]
      exact fun e1 => by have := h1 y hy; rw [e1] at this; exact lt_irr _ this
    · unfold delK
      rw [List.filter_cons, if_pos (by simp only [ne_eq, decide_not, Bool.not_eq_eq_eq_not, Bool.not_true, decide_eq_false_iff_not]; exact fun e1 => by have := h1 e he'; rw [e1] at this; exact lt_irr _ this)]
      exact ((ih h2 he').cons z).trans (List.Perm.swap e z _)
theorem delK_none {n : List UInt8} {l : List α} (h : ∀ e ∈ l, k e ≠ n) : delK k n l = l := List.filter_eq_self.2 (fun y hy => by simpa using h y hy)
theorem mem_delK {n : List UInt8} {l : List α} {y : α} : y ∈ delK k n l ↔ y ∈ l ∧ k y ≠ n := by unfold delK; rw [List.mem_filter]; simp
end
/-- All bytes of files. -/
def tot : List Fl → Nat
  | [] => 0
  | f :: r => f.s.length + tot r
theorem tot_perm {a b : List Fl} (h : a.Perm b) : tot a = tot b := by
  induction h with
  | nil => rfl
  | cons x _ ih => simp only [tot, ih]
  | swap x y l => simp only [tot]; omega
  | trans _ _ h1 h2 => rw [h1, h2]
theorem tot_mem {f : Fl} {l : List Fl} (h : f ∈ l) : f.s.length ≤ tot l := by
  induction l with
  | nil => simp at h
  | cons z r ih =>
    simp only [tot]
    rcases List.mem_cons.1 h with rfl | h
    · omega
    · have := ih h; omega
theorem tot_app (a b : List Fl) : tot (a ++ b) = tot a + tot b := by
  induction a with
  | nil => simp [tot]
  | cons x r ih => simp only [List.cons_append, tot, ih]; omega
abbrev ins (f : Fl) (L : List Fl) : List Fl := insK Fl.name f L
abbrev del (n : List UInt8) (L : List Fl) : List Fl := delK Fl.name n L
abbrev get (n : List UInt8) (L : List Fl) : Option Fl := getK Fl.name n L
theorem tot_ins_new {f : Fl} {L : List Fl} (h : get f.name L = none) : tot (ins f L) = tot L + f.s.length := by
  rw [tot_perm (insK_new (getK_none h))]; simp only [tot]; omega
theorem tot_del {f : Fl} {L : List Fl} (hs : Sorted Fl.name L) (h : f ∈ L) : tot L = f.s.length + tot (del f.name L) := by
  rw [tot_perm (delK_perm hs h)]; rfl
theorem del_ins {f : Fl} {L : List Fl} (hs : Sorted Fl.name L) : del f.name (ins f L) = del f.name L := by
  induction L with
  | nil => simp [insK, delK]
  | cons z r ih =>
    obtain ⟨h1, h2⟩ := List.pairwise_cons.1 hs
    show delK _ _ (insK _ _ _) = _
    unfold insK
    split
    · simp [delK]
    · split
      · rename_i he
        simp [delK, he]
      · unfold delK at *
        rw [List.filter_cons]
        show _ = List.filter _ (z :: r)
        rw [List.filter_cons]
        have e := ih h2
        unfold del ins delK at e
        rw [e]
theorem tot_ins_old {f e : Fl} {L : List Fl} (hs : Sorted Fl.name L) (h : e ∈ L) (hn : e.name = f.name) : tot (ins f L) + e.s.length = tot L + f.s.length := by
  have h1 := tot_del (f := f) (L := ins f L) (sorted_insK hs) ((mem_insK hs).2 (.inl rfl))
  have h2 := tot_del hs h
  rw [del_ins hs] at h1
  rw [hn] at h2
  omega
/-- A disk, plainly. -/
structure Dk where
  L : List Fl
  fuse : Int
  down : Bool
structure Ok (d : Dk) : Prop where
  sorted : Sorted Fl.name d.L
  names : ∀ f ∈ d.L, 1 ≤ f.name.length ∧ f.name.length ≤ 64
  lasts : ∀ f ∈ d.L, f.lasts ≤ f.s.length
  tot : tot d.L ≤ 4194304
  len : d.L.length ≤ 4096
  fuse : -1 ≤ d.fuse
  top : d.fuse ≤ 9223372036854775807
def ask (d : Dk) (n : List UInt8) : Nat := if d.down then 8 else if n.length < 1 ∨ 64 < n.length then 1 else 0
def mayHold (d : Dk) (n : List UInt8) (more : Int) : Nat :=
  if ask d n ≠ 0 then ask d n else if more > 4194304 - (tot d.L : Int) ∨ ((get n d.L).isNone = true ∧ d.L.length = 4096) then 5 else 0
def find (d : Dk) (n : List UInt8) : Nat := if ask d n ≠ 0 then ask d n else if (get n d.L).isNone then 6 else 0
/-- One off the fuse. -/
def burnE (f : Int) : Nat := if f = 0 then 8 else 0
def burn (d : Dk) : Dk := if d.fuse = -1 then d else if d.fuse = 0 then ⟨d.L, d.fuse, true⟩ else ⟨d.L, d.fuse - 1, d.down⟩
def old (n : List UInt8) (L : List Fl) : Fl := (get n L).getD ⟨n, [], 0, false⟩
def addF (f : Fl) (b : List UInt8) : Fl := ⟨f.name, f.s ++ b, f.lasts, f.stays⟩
def withL (d : Dk) (L : List Fl) : Dk := ⟨L, d.fuse, d.down⟩
def appendD (d : Dk) (n b : List UInt8) : Dk := if mayHold d n b.length ≠ 0 then d else burn (withL d (ins (addF (old n d.L) b) d.L))
def appendE (d : Dk) (n b : List UInt8) : Nat := if mayHold d n b.length ≠ 0 then mayHold d n b.length else burnE d.fuse
def lastF (f : Fl) : Fl := ⟨f.name, f.s, f.s.length, true⟩
def syncE (d : Dk) (n : List UInt8) : Nat := if find d n ≠ 0 then find d n else burnE d.fuse
def syncD (d : Dk) (n : List UInt8) : Dk := if find d n ≠ 0 then d else if d.fuse = 0 then burn d else burn (withL d (ins (lastF (old n d.L)) d.L))
def moreR (d : Dk) (n b : List UInt8) : Int := (b.length : Int) - (old n d.L).s.length
def replaceE (d : Dk) (n b : List UInt8) : Nat := if mayHold d n (moreR d n b) ≠ 0 then mayHold d n (moreR d n b) else burnE d.fuse
def replaceD (d : Dk) (n b : List UInt8) : Dk := if mayHold d n (moreR d n b) ≠ 0 then d else if d.fuse = 0 then burn d else burn (withL d (ins ⟨n, b, b.length, true⟩ d.L))
def removeE (d : Dk) (n : List UInt8) : Nat := syncE d n
def removeD (d : Dk) (n : List UInt8) : Dk := if find d n ≠ 0 then d else if d.fuse = 0 then burn d else burn (withL d (del n d.L))
def readS (d : Dk) (n : List UInt8) : List UInt8 := if find d n ≠ 0 then [] else (old n d.L).s
/-- How many of the loose bytes are left. -/
def leftN (f : Fl) (left : Int) : Nat := min left.toNat (f.s.length - f.lasts)
def cutF (f : Fl) (left : Int) : Fl := ⟨f.name, f.s.take (f.lasts + leftN f left), f.lasts, f.stays⟩
def goneF (f : Fl) : Bool := !f.stays && f.s.isEmpty
def crashF (f : Fl) (left : Int) : List Fl := if goneF (cutF f left) then [] else [lastF (cutF f left)]
def crashL : List Fl → List Int → List Fl
  | [], _ => []
  | f :: r, ks => crashF f (ks.headD 0) ++ crashL r ks.tail
def crashD (d : Dk) (ks : List Int) : Dk := ⟨crashL d.L ks, -1, false⟩
def armD (d : Dk) (n : Int) : Dk := ⟨d.L, max n (-1), d.down⟩
def newD : Dk := ⟨[], -1, false⟩
end Go.Proofs.Ytfkefppabjbbdaa
