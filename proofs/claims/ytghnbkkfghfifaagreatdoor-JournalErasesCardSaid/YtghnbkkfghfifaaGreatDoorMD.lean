/- Several texts in one: DA, DB, DC, DD, DE, DG, DH, DI, DJ, DK, DL, DM, DN, DO, DQ, DR, DT, DU. -/
import Derived.Test.YtghnbkkfghfifaaGreatDoorProg
import Derived.WalkKit
import Derived.LoopTactic
import Derived.Lib.Hide
import Derived.Lib.AppendStr
import Derived.Lib.Strings
import Derived.WalkLawsBesides
import Derived.WalkSpells
import Derived.WalkSmall
import Derived.Deep.QuietTactic
import Derived.BigQuiet
import Derived.Outline
import Derived.BigGuardPart
import Derived.Deep.AppendLies
import Derived.Deep.MidRow
import Derived.Deep.RegionLaw
import Derived.Laws.AppendOwnNone
import Derived.Laws.CopyOwn
import Derived.Maps.Ext
import Derived.Maps.RangeWalk
import Derived.Sort.KeysCollected
import Derived.Sort.Walk0
import Derived.Maps.AppendAt
import Derived.Test.YtghnbkkfghfifaaGreatDoorS
import Derived.Sort.OwnSorted
import Derived.Deep.LoopGhost
import Derived.Deep.CutRange
import Derived.Lib.SlBytesConst
import Derived.Laws.IdiomStrings
/- Bytes in memory: those that a slice shows, those that a call owns. -/
namespace Go.Proofs.YtghnbkkfghfifaaGreatDoor.D
open Go.RowKit
set_option linter.unusedVariables false
/-- A list of bytes as a text. -/
def bs (l : List UInt8) : ByteArray := ⟨l.toArray⟩
theorem bs_data (l : List UInt8) : (bs l).data.toList = l := by simp [bs]
theorem data_bs (s : ByteArray) : bs s.data.toList = s := by simp [bs]
theorem bs_size (l : List UInt8) : (bs l).size = l.length := by simp [bs, ByteArray.size]
theorem bs_inj {a b : List UInt8} (h : bs a = bs b) : a = b := by rw [← bs_data a, ← bs_data b, h]
theorem toL (s : ByteArray) : s.toList = s.data.toList := ByteArray.toList_eq s
theorem bs_toList (l : List UInt8) : (bs l).toList = l := by rw [toL, bs_data]
theorem info5 : (Tryz.prog.info? 5).map (fun i => (i.zero, i.size, i.bytes)) = some (some (.int .u8 0), 1, 1) := by kernel_rfl
/-- Bytes as cells. -/
def u8s (l : List UInt8) : List Value := l.map fun b => Value.int .u8 b.toNat
theorem u8s_app (a b : List UInt8) : u8s (a ++ b) = u8s a ++ u8s b := by unfold u8s; simp
theorem u8s_len (l : List UInt8) : (u8s l).length = l.length := by unfold u8s; simp
theorem u8s_one (l : List UInt8) : ∀ u ∈ u8s l, u.oneCell' = true := by
  intro u hu
  obtain ⟨b, _, rfl⟩ := List.mem_map.1 hu
  rfl
theorem u8s_get {l : List UInt8} {j : Nat} (hj : j < l.length) : (u8s l)[j]? = some (.int .u8 (l[j].toNat : Int)) := by
  unfold u8s; rw [List.getElem?_map, List.getElem?_eq_getElem hj]; rfl
theorem u8s_of {l : List UInt8} {j : Nat} {u : Value} (h : (u8s l)[j]? = some u) : ∃ hj : j < l.length, u = .int .u8 (l[j].toNat : Int) := by
  have hj : j < l.length := by have := (List.getElem?_eq_some_iff.1 h).1; rwa [u8s_len] at this
  rw [u8s_get hj] at h
  exact ⟨hj, (Option.some.inj h).symm⟩
theorem u8_nat {n : Nat} (h : n < 256) : (n : Int) = ((n.toUInt8.toNat : Nat) : Int) := by
  have : n.toUInt8.toNat = n := by simp; omega
  rw [this]
theorem cell_one (w : World) (x : Value) (t : TypeId) : ∀ (j : Nat) (u : Value), [x][j]? = some u → (w.alloc (.cells #[x] t)).cell? ((⟨w.heap.size, 0, none⟩ : Addr).add j) = some u := by
  intro j u hj
  match j, hj with
  | 0, hj =>
    simp at hj; subst hj
    exact cell_of_one (heap_alloc_new w (.cells #[x] t))
theorem own_base {w : World} {base base' : Nat} {e : TypeId} {size : Nat} {v : Value} {n : Nat} {xs : List Value} (h : w.ownsRow base e size v n xs) (hb : base' ≤ base) : w.ownsRow base' e size v n xs := by
  obtain ⟨h1, h2⟩ := h
  refine ⟨h1, ?_⟩
  rcases h2 with h2 | ⟨g, cap, cur, hv, hg, r⟩
  · exact .inl h2
  · exact .inr ⟨g, cap, cur, hv, Nat.le_trans hb hg, r⟩
theorem own_block {w : World} {base : Nat} {e : TypeId} {size : Nat} {v : Value} {n : Nat} {xs : List Value} (h : w.ownsRow base e size v n xs) : ∀ k, v.ownBlock = some k → base ≤ k := by
  intro k hk
  obtain ⟨h1, h2⟩ := h
  rcases h2 with ⟨rfl, _⟩ | ⟨g, cap, cur, rfl, hg, r⟩
  · cases hk
  · cases hk; exact hg
/-- A value owns these bytes. -/
def OwnB (w : World) (base : Nat) (v : Value) (l : List UInt8) : Prop := w.ownsRow base 5 1 v l.length (u8s l)
theorem OwnB.below {w w' : World} {base B : Nat} {v : Value} {l : List UInt8} (h : OwnB w base v l) (hb : Below B w w') (hB : w.heap.size ≤ B) : OwnB w' base v l := by
  obtain ⟨h1, h2⟩ := h
  refine ⟨h1, ?_⟩
  rcases h2 with h2 | ⟨g, cap, cur, hv, hg, hh, r⟩
  · exact .inl h2
  · exact .inr ⟨g, cap, cur, hv, hg, by rw [hb.block g (Nat.lt_of_lt_of_le (lt_of_block hh) hB)]; exact hh, r⟩
theorem OwnB.mono {w : World} {base base' : Nat} {v : Value} {l : List UInt8} (h : OwnB w base v l) (hb : base' ≤ base) : OwnB w base' v l := own_base h hb
theorem OwnB.drew {w : World} {base : Nat} {v : Value} {l : List UInt8} (h : OwnB w base v l) : OwnB w.drew base v l := h
theorem OwnB.alloc {w : World} {base : Nat} {v : Value} {l : List UInt8} (h : OwnB w base v l) (o : Obj) : OwnB (w.alloc o) base v l := World.ownsRow.alloc h o
theorem OwnB.nil (w : World) (base : Nat) : OwnB w base (.slice none 0 0) [] := World.ownsRow_nil w base 5 1
theorem own_cells {w : World} {base g cap : Nat} {l : List UInt8} (h : OwnB w base (.slice (some ⟨g, 0, none⟩) l.length cap) l) : ∀ j u, (u8s l)[j]? = some u → w.cell? ((⟨g, 0, none⟩ : Addr).add j) = some u := World.ownsRow.cells h rfl
theorem OwnB.form {w : World} {base : Nat} {v : Value} {l : List UInt8} (h : OwnB w base v l) (hl : 0 < l.length) : ∃ g cap, v = .slice (some ⟨g, 0, none⟩) l.length cap ∧ base ≤ g ∧ g < w.heap.size ∧ l.length ≤ cap := by
  rcases h.2 with ⟨_, h0⟩ | ⟨g, cap, cur, hv, hb, hg, hc, _⟩
  · omega
  · exact ⟨g, cap, hv, hb, lt_of_block hg, hc⟩
theorem OwnB.len {w : World} {base : Nat} {v : Value} {l : List UInt8} (h : OwnB w base v l) : ∃ q cap, v = .slice q l.length cap := by
  rcases h.2 with ⟨hv, h0⟩ | ⟨g, cap, cur, hv, _⟩
  · exact ⟨none, 0, by rw [hv, h0]⟩
  · exact ⟨_, cap, hv⟩
theorem add_block (a : Addr) (j : Nat) : (a.add j).block = a.block := by unfold Addr.add; split <;> rfl
/-- A slice shows these bytes; they lie below B. -/
def Seen (w : World) (B : Nat) (v : Value) (l : List UInt8) : Prop :=
  (l = [] ∧ v = .slice none 0 0) ∨ ∃ (ad : Addr) (cap : Nat), v = .slice (some ad) l.length cap ∧ l.length ≤ cap ∧ (0 < l.length → ad.block < B) ∧ ∀ (j : Nat) (hj : j < l.length), w.cell? (ad.add j) = some (.int .u8 (l[j].toNat : Int))
theorem Seen.below {w w' : World} {B b : Nat} {v : Value} {l : List UInt8} (h : Seen w b v l) (hb : Below B w w') (hl : b ≤ B) : Seen w' b v l := by
  rcases h with h | ⟨ad, cap, hv, hc, hg, hh⟩
  · exact .inl h
  · refine .inr ⟨ad, cap, hv, hc, hg, fun j hj => ?_⟩
    rw [World.cell?_of_block (w := w) (a := ad.add j) (hb.block _ (by rw [add_block]; have := hg (by omega); omega))]; exact hh j hj
theorem Seen.mono {w : World} {B b : Nat} {v : Value} {l : List UInt8} (h : Seen w b v l) (hl : b ≤ B) : Seen w B v l := by
  rcases h with h | ⟨ad, cap, hv, hc, hg, hh⟩
  · exact .inl h
  · exact .inr ⟨ad, cap, hv, hc, fun h0 => by have := hg h0; omega, hh⟩
theorem Seen.drew {w : World} {b : Nat} {v : Value} {l : List UInt8} (h : Seen w b v l) : Seen w.drew b v l := h
theorem Seen.own {w : World} {base : Nat} {v : Value} {l : List UInt8} (h : OwnB w base v l) : Seen w w.heap.size v l := by
  rcases h.2 with ⟨hv, h0⟩ | ⟨g, cap, cur, rfl, hb, hg, hc, _⟩
  · exact .inl ⟨List.length_eq_zero_iff.1 h0, hv⟩
  · exact .inr ⟨⟨g, 0, none⟩, cap, rfl, hc, fun _ => lt_of_block hg, fun j hj => own_cells h j _ (u8s_get hj)⟩
/-- Its text. -/
theorem Seen.text {w : World} {B : Nat} {v : Value} {l : List UInt8} (h : Seen w B v l) : (convert 38 9 v).run Tryz.prog w = .ok (.string (bs l)) w := by
  rcases h with ⟨rfl, rfl⟩ | ⟨ad, cap, rfl, hc, hg, hh⟩
  · rw [run_convert_bytes_string (P := Tryz.prog) w 38 9 5 none 0 0 Tryz.underlying38 Tryz.underlying5 Tryz.underlying9]
    rfl
  · exact run_convert_bytes_back (P := Tryz.prog) w 38 9 5 ad cap l Tryz.underlying38 Tryz.underlying5 Tryz.underlying9 (fun j hj => hh j hj)
theorem Seen.len {w : World} {B : Nat} {v : Value} {l : List UInt8} (h : Seen w B v l) : ∃ q cap, v = .slice q l.length cap ∧ l.length ≤ cap := by
  rcases h with ⟨rfl, rfl⟩ | ⟨ad, cap, rfl, hc, _⟩
  · exact ⟨none, 0, rfl, by simp⟩
  · exact ⟨_, cap, rfl, hc⟩
theorem Seen.at {w : World} {B : Nat} {q : Option Addr} {n cap : Nat} {l : List UInt8} (h : Seen w B (.slice q n cap) l) (j : Nat) (hj : j < l.length) : ∃ ad, q = some ad ∧ ad.block < B ∧ w.cell? (ad.add j) = some (.int .u8 (l[j].toNat : Int)) := by
  rcases h with ⟨h0, _⟩ | ⟨ad, cap', hv, hc, hg, hh⟩
  · rw [h0] at hj; simp at hj
  · injection hv with h1 h2 h3
    exact ⟨ad, h1, hg (by omega), hh j hj⟩
theorem Seen.mk {w : World} {B : Nat} {ad : Addr} {cap n : Nat} {l : List UInt8} (hn : n = l.length) (hc : l.length ≤ cap) (hg : 0 < l.length → ad.block < B) (hh : ∀ (j : Nat) (hj : j < l.length), w.cell? (ad.add j) = some (.int .u8 (l[j].toNat : Int))) : Seen w B (.slice (some ad) n cap) l := by
  subst hn
  exact .inr ⟨ad, cap, rfl, hc, hg, hh⟩
theorem Seen.nil (w : World) (B : Nat) : Seen w B (.slice none 0 0) [] := .inl ⟨rfl, rfl⟩
theorem Seen.nil_at {w : World} {B : Nat} {ad : Addr} {cap : Nat} {n : Nat} (hn : n = 0) : Seen w B (.slice (some ad) n cap) [] := by
  subst hn
  exact .inr ⟨ad, cap, rfl, by simp, fun h => by simp at h, fun j hj => by simp at hj⟩
/-- Its first bytes. -/
theorem Seen.take {w : World} {B : Nat} {ad : Addr} {cap n : Nat} {l : List UInt8} (h : Seen w B (.slice (some ad) n cap) l) (k : Nat) (hk : k ≤ l.length) : Seen w B (.slice (some ad) k cap) (l.take k) := by
  rcases h with ⟨h0, hv⟩ | ⟨ad', cap', hv, hc, hg, hh⟩
  · cases hv
  · injection hv with h1 h2 h3
    cases h1
    subst h2 h3
    exact Seen.mk (by rw [List.length_take]; omega) (by rw [List.length_take]; omega) (fun h0 => hg (by rw [List.length_take] at h0; omega)) (fun j hj => by
      rw [List.length_take] at hj
      rw [hh j (by omega), List.getElem_take])
/-- Its later bytes. -/
theorem Seen.drop {w : World} {B : Nat} {ad : Addr} {cap n : Nat} {l : List UInt8} (h : Seen w B (.slice (some ad) n cap) l) (k : Nat) (hk : k ≤ l.length) : Seen w B (.slice (some (ad.add k)) (l.length - k) (cap - k)) (l.drop k) := by
  rcases h with ⟨h0, hv⟩ | ⟨ad', cap', hv, hc, hg, hh⟩
  · cases hv
  · injection hv with h1 h2 h3
    cases h1
    subst h2 h3
    exact Seen.mk (by rw [List.length_drop]) (by rw [List.length_drop]; omega) (fun h0 => by rw [add_block]; exact hg (by rw [List.length_drop] at h0; omega)) (fun j hj => by
      rw [List.length_drop] at hj
      have := hh (k + j) (by omega)
      rw [Addr.add_add, this, List.getElem_drop])
end Go.Proofs.YtghnbkkfghfifaaGreatDoor.D
/- Disks, plainly. -/
namespace Go.Proofs.YtghnbkkfghfifaaGreatDoor.D
set_option linter.unusedVariables false
/-- A file, plainly. -/
structure Fl where
  name : List UInt8
  s : List UInt8
  lasts : Nat
  stays : Bool
theorem lt_irr (a : List UInt8) : ¬ a < a := List.lt_irrefl a
theorem lt_tr {a b c : List UInt8} (h : a < b) (k : b < c) : a < c := List.lt_trans h k
theorem lt_asy {a b : List UInt8} (h : a < b) : ¬ b < a := fun k => lt_irr a (lt_tr h k)
theorem lt_tri {a b : List UInt8} (h : ¬ a < b) (k : a ≠ b) : b < a := by
  have h1 : b ≤ a := List.not_lt.1 h
  refine Decidable.byContradiction fun h2 => k (List.le_antisymm (List.not_lt.1 h2) h1)
section
variable {α β : Type} {k : α → List UInt8}
def insK (k : α → List UInt8) (x : α) : List α → List α
  | [] => [x]
  | y :: r => if k x < k y then x :: y :: r else if k x = k y then x :: r else y :: insK k x r
def delK (k : α → List UInt8) (n : List UInt8) (l : List α) : List α := l.filter fun y => decide (k y ≠ n)
def getK (k : α → List UInt8) (n : List UInt8) (l : List α) : Option α := l.find? fun y => decide (k y = n)
def Sorted (k : α → List UInt8) (l : List α) : Prop := l.Pairwise fun x y => k x < k y
theorem insK_map {k' : β → List UInt8} {g : α → β} (h : ∀ a, k' (g a) = k a) (x : α) : ∀ l : List α, (insK k x l).map g = insK k' (g x) (l.map g)
  | [] => rfl
  | y :: r => by
    simp only [insK, List.map_cons, h]
    split
    · rfl
    · split
      · rfl
      · rw [List.map_cons, insK_map h x r]
theorem delK_map {k' : β → List UInt8} {g : α → β} (h : ∀ a, k' (g a) = k a) (n : List UInt8) (l : List α) : (delK k n l).map g = delK k' n (l.map g) := by
  unfold delK
  rw [List.filter_map]
  congr 1
  apply List.filter_congr
  intro x _
  simp [h]
theorem getK_map {k' : β → List UInt8} {g : α → β} (h : ∀ a, k' (g a) = k a) (n : List UInt8) (l : List α) : (getK k n l).map g = getK k' n (l.map g) := by
  unfold getK
  rw [List.find?_map]
  congr 1
  have : (fun y => decide (k' y = n)) ∘ g = fun y => decide (k y = n) := by funext x; simp [h]
  rw [this]
theorem Sorted.map {k' : β → List UInt8} {g : α → β} (h : ∀ a, k' (g a) = k a) {l : List α} (hs : Sorted k l) : Sorted k' (l.map g) := by
  unfold Sorted at *
  rw [List.pairwise_map]
  exact hs.imp (fun {a b} hab => by rw [h, h]; exact hab)
theorem mem_insK {x y : α} : ∀ {l : List α}, Sorted k l → (y ∈ insK k x l ↔ y = x ∨ (y ∈ l ∧ k y ≠ k x))
  | [], _ => by simp [insK]
  | z :: r, hs => by
    obtain ⟨h1, h2⟩ := List.pairwise_cons.1 hs
    unfold insK
    split
    · rename_i hlt
      constructor
      · intro h
        rcases List.mem_cons.1 h with h | h
        · exact .inl h
        · refine .inr ⟨h, fun e => ?_⟩
          rcases List.mem_cons.1 h with rfl | h'
          · rw [e] at hlt; exact lt_irr _ hlt
          · have := lt_tr hlt (h1 y h'); rw [e] at this; exact lt_irr _ this
      · rintro (rfl | ⟨h, _⟩)
        · simp
        · exact List.mem_cons.2 (.inr h)
    · split
      · rename_i hlt he
        constructor
        · intro h
          rcases List.mem_cons.1 h with h | h
          · exact .inl h
          · refine .inr ⟨List.mem_cons.2 (.inr h), fun e => ?_⟩
            have := h1 y h
            rw [e, he] at this
            exact lt_irr _ this
        · rintro (rfl | ⟨h, hne⟩)
          · simp
          · rcases List.mem_cons.1 h with rfl | h'
            · exact absurd he.symm hne
            · exact List.mem_cons.2 (.inr h')
      · rename_i hlt he
        rw [List.mem_cons, mem_insK h2, List.mem_cons]
        constructor
        · rintro (rfl | rfl | ⟨h, hne⟩)
          · exact .inr ⟨.inl rfl, fun e => he e.symm⟩
          · exact .inl rfl
          · exact .inr ⟨.inr h, hne⟩
        · rintro (rfl | ⟨rfl | h, hne⟩)
          · exact .inr (.inl rfl)
          · exact .inl rfl
          · exact .inr (.inr ⟨h, hne⟩)
theorem sorted_insK {x : α} : ∀ {l : List α}, Sorted k l → Sorted k (insK k x l)
  | [], _ => by unfold Sorted insK; simp
  | z :: r, hs => by
    obtain ⟨h1, h2⟩ := List.pairwise_cons.1 hs
    unfold insK
    split
    · rename_i hlt
      exact List.pairwise_cons.2 ⟨fun y hy => by
        rcases List.mem_cons.1 hy with rfl | hy
        · exact hlt
        · exact lt_tr hlt (h1 y hy), hs⟩
    · split
      · rename_i hlt he
        exact List.pairwise_cons.2 ⟨fun y hy => by rw [he]; exact h1 y hy, h2⟩
      · rename_i hlt he
        refine List.pairwise_cons.2 ⟨fun y hy => ?_, sorted_insK h2⟩
        rcases (mem_insK h2).1 hy with rfl | ⟨h, _⟩
        · exact lt_tri hlt he
        · exact h1 y h
theorem sorted_delK {n : List UInt8} {l : List α} (hs : Sorted k l) : Sorted k (delK k n l) := List.Pairwise.filter _ hs
theorem getK_some {n : List UInt8} {l : List α} {e : α} (h : getK k n l = some e) : e ∈ l ∧ k e = n := ⟨List.mem_of_find?_eq_some h, by simpa using List.find?_some h⟩
theorem getK_none {n : List UInt8} {l : List α} (h : getK k n l = none) : ∀ e ∈ l, k e ≠ n := fun e he => by simpa using (List.find?_eq_none.1 h) e he
theorem sorted_inj {l : List α} (hs : Sorted k l) {x y : α} (hx : x ∈ l) (hy : y ∈ l) (h : k x = k y) : x = y := by
  induction l with
  | nil => simp at hx
  | cons z r ih =>
    obtain ⟨h1, h2⟩ := List.pairwise_cons.1 hs
    rcases List.mem_cons.1 hx with rfl | hx
    · rcases List.mem_cons.1 hy with rfl | hy
      · rfl
      · have := h1 y hy; rw [h] at this; exact absurd this (lt_irr _)
    · rcases List.mem_cons.1 hy with rfl | hy
      · have := h1 x (by assumption); rw [h] at this; exact absurd this (lt_irr _)
      · exact ih h2 (by assumption) (by assumption)
theorem getK_mem {l : List α} (hs : Sorted k l) {e : α} (he : e ∈ l) : getK k (k e) l = some e := by
  cases hg : getK k (k e) l with
  | none => exact absurd rfl (getK_none hg e he)
  | some e' =>
    obtain ⟨h1, h2⟩ := getK_some hg
    rw [sorted_inj hs h1 he h2]
theorem insK_new {x : α} : ∀ {l : List α}, (∀ e ∈ l, k e ≠ k x) → (insK k x l).Perm (x :: l)
  | [], _ => by simp [insK]
  | z :: r, h => by
    unfold insK
    split
    · exact List.Perm.refl _
    · split
      · rename_i he
        exact absurd he.symm (h z (by simp))
      · exact (List.Perm.cons z (insK_new (fun e he => h e (by simp [he])))).trans (List.Perm.swap x z r)
theorem insK_old {x : α} : ∀ {l : List α}, Sorted k l → ∀ {e : α}, e ∈ l → k e = k x → insK k x l = l.map fun y => if k y = k x then x else y
  | [], _, _, he, _ => by simp at he
  | z :: r, hs, e, he, hk => by
    obtain ⟨h1, h2⟩ := List.pairwise_cons.1 hs
    unfold insK
    rcases List.mem_cons.1 he with rfl | he'
    · rw [if_neg (by rw [hk]; exact lt_irr _), if_pos hk.symm, List.map_cons, if_pos hk]
      congr 1
      symm
      refine (List.map_congr_left (fun y hy => ?_)).trans (List.map_id _)
      rw [if_neg (fun e1 => by have := h1 y hy; rw [e1, hk] at this; exact lt_irr _ this)]
      rfl
    · have hz : k z < k x := by rw [← hk]; exact h1 e he'
      rw [if_neg (lt_asy hz), if_neg (fun e1 => by rw [e1] at hz; exact lt_irr _ hz), List.map_cons, if_neg (fun e1 => by rw [e1] at hz; exact lt_irr _ hz), insK_old h2 he' hk]
theorem insK_old_len {x : α} {l : List α} (hs : Sorted k l) {e : α} (he : e ∈ l) (hk : k e = k x) : (insK k x l).length = l.length := by rw [insK_old hs he hk, List.length_map]
theorem delK_perm {l : List α} (hs : Sorted k l) {e : α} (he : e ∈ l) : l.Perm (e :: delK k (k e) l) := by
  induction l with
  | nil => simp at he
  | cons z r ih =>
    obtain ⟨h1, h2⟩ := List.pairwise_cons.1 hs
    rcases List.mem_cons.1 he with rfl | he'
    · unfold delK
      rw [List.filter_cons, if_neg (by simp)]
      rw [List.filter_eq_self.2 (fun y hy => ?_)]
      simp only [ne_eq, decide_not, Bool.not_eq_eq_eq_not, Bool.not_true, decide_eq_false_iff_not]
      exact fun e1 => by have := h1 y hy; rw [e1] at this; exact lt_irr _ this
    · unfold delK
      rw [List.filter_cons, if_pos (by simp only [ne_eq, decide_not, Bool.not_eq_eq_eq_not, Bool.not_true, decide_eq_false_iff_not]; exact fun e1 => by have := h1 e he'; rw [e1] at this; exact lt_irr _ this)]
      exact ((ih h2 he').cons z).trans (List.Perm.swap e z _)
theorem delK_none {n : List UInt8} {l : List α} (h : ∀ e ∈ l, k e ≠ n) : delK k n l = l := List.filter_eq_self.2 (fun y hy => by simpa using h y hy)
theorem mem_delK {n : List UInt8} {l : List α} {y : α} : y ∈ delK k n l ↔ y ∈ l ∧ k y ≠ n := by unfold delK; rw [List.mem_filter]; simp
end
/-- All bytes of files. -/
def tot : List Fl → Nat
  | [] => 0
  | f :: r => f.s.length + tot r
theorem tot_perm {a b : List Fl} (h : a.Perm b) : tot a = tot b := by
  induction h with
  | nil => rfl
  | cons x _ ih => simp only [tot, ih]
  | swap x y l => simp only [tot]; omega
  | trans _ _ h1 h2 => rw [h1, h2]
theorem tot_mem {f : Fl} {l : List Fl} (h : f ∈ l) : f.s.length ≤ tot l := by
  induction l with
  | nil => simp at h
  | cons z r ih =>
    simp only [tot]
    rcases List.mem_cons.1 h with rfl | h
    · omega
    · have := ih h; omega
theorem tot_app (a b : List Fl) : tot (a ++ b) = tot a + tot b := by
  induction a with
  | nil => simp [tot]
  | cons x r ih => simp only [List.cons_append, tot, ih]; omega
abbrev ins (f : Fl) (L : List Fl) : List Fl := insK Fl.name f L
abbrev del (n : List UInt8) (L : List Fl) : List Fl := delK Fl.name n L
abbrev get (n : List UInt8) (L : List Fl) : Option Fl := getK Fl.name n L
theorem tot_ins_new {f : Fl} {L : List Fl} (h : get f.name L = none) : tot (ins f L) = tot L + f.s.length := by
  rw [tot_perm (insK_new (getK_none h))]; simp only [tot]; omega
theorem tot_del {f : Fl} {L : List Fl} (hs : Sorted Fl.name L) (h : f ∈ L) : tot L = f.s.length + tot (del f.name L) := by
  rw [tot_perm (delK_perm hs h)]; rfl
theorem del_ins {f : Fl} {L : List Fl} (hs : Sorted Fl.name L) : del f.name (ins f L) = del f.name L := by
  induction L with
  | nil => simp [insK, delK]
  | cons z r ih =>
    obtain ⟨h1, h2⟩ := List.pairwise_cons.1 hs
    show delK _ _ (insK _ _ _) = _
    unfold insK
    split
    · simp [delK]
    · split
      · rename_i he
        simp [delK, he]
      · unfold delK at *
        rw [List.filter_cons]
        show _ = List.filter _ (z :: r)
        rw [List.filter_cons]
        have e := ih h2
        unfold del ins delK at e
        rw [e]
theorem tot_ins_old {f e : Fl} {L : List Fl} (hs : Sorted Fl.name L) (h : e ∈ L) (hn : e.name = f.name) : tot (ins f L) + e.s.length = tot L + f.s.length := by
  have h1 := tot_del (f := f) (L := ins f L) (sorted_insK hs) ((mem_insK hs).2 (.inl rfl))
  have h2 := tot_del hs h
  rw [del_ins hs] at h1
  rw [hn] at h2
  omega
/-- A disk, plainly. -/
structure Dk where
  L : List Fl
  fuse : Int
  down : Bool
structure Ok (d : Dk) : Prop where
  sorted : Sorted Fl.name d.L
  names : ∀ f ∈ d.L, 1 ≤ f.name.length ∧ f.name.length ≤ 64
  lasts : ∀ f ∈ d.L, f.lasts ≤ f.s.length
  tot : tot d.L ≤ 4194304
  len : d.L.length ≤ 4096
  fuse : -1 ≤ d.fuse
  top : d.fuse ≤ 9223372036854775807
def ask (d : Dk) (n : List UInt8) : Nat := if d.down then 8 else if n.length < 1 ∨ 64 < n.length then 1 else 0
def mayHold (d : Dk) (n : List UInt8) (more : Int) : Nat :=
  if ask d n ≠ 0 then ask d n else if more > 4194304 - (tot d.L : Int) ∨ ((get n d.L).isNone = true ∧ d.L.length = 4096) then 5 else 0
def find (d : Dk) (n : List UInt8) : Nat := if ask d n ≠ 0 then ask d n else if (get n d.L).isNone then 6 else 0
/-- One off the fuse. -/
def burnE (f : Int) : Nat := if f = 0 then 8 else 0
def burn (d : Dk) : Dk := if d.fuse = -1 then d else if d.fuse = 0 then ⟨d.L, d.fuse, true⟩ else ⟨d.L, d.fuse - 1, d.down⟩
def old (n : List UInt8) (L : List Fl) : Fl := (get n L).getD ⟨n, [], 0, false⟩
def addF (f : Fl) (b : List UInt8) : Fl := ⟨f.name, f.s ++ b, f.lasts, f.stays⟩
def withL (d : Dk) (L : List Fl) : Dk := ⟨L, d.fuse, d.down⟩
def appendD (d : Dk) (n b : List UInt8) : Dk := if mayHold d n b.length ≠ 0 then d else burn (withL d (ins (addF (old n d.L) b) d.L))
def appendE (d : Dk) (n b : List UInt8) : Nat := if mayHold d n b.length ≠ 0 then mayHold d n b.length else burnE d.fuse
def lastF (f : Fl) : Fl := ⟨f.name, f.s, f.s.length, true⟩
def syncE (d : Dk) (n : List UInt8) : Nat := if find d n ≠ 0 then find d n else burnE d.fuse
def syncD (d : Dk) (n : List UInt8) : Dk := if find d n ≠ 0 then d else if d.fuse = 0 then burn d else burn (withL d (ins (lastF (old n d.L)) d.L))
def moreR (d : Dk) (n b : List UInt8) : Int := (b.length : Int) - (old n d.L).s.length
def replaceE (d : Dk) (n b : List UInt8) : Nat := if mayHold d n (moreR d n b) ≠ 0 then mayHold d n (moreR d n b) else burnE d.fuse
def replaceD (d : Dk) (n b : List UInt8) : Dk := if mayHold d n (moreR d n b) ≠ 0 then d else if d.fuse = 0 then burn d else burn (withL d (ins ⟨n, b, b.length, true⟩ d.L))
def removeE (d : Dk) (n : List UInt8) : Nat := syncE d n
def removeD (d : Dk) (n : List UInt8) : Dk := if find d n ≠ 0 then d else if d.fuse = 0 then burn d else burn (withL d (del n d.L))
def readS (d : Dk) (n : List UInt8) : List UInt8 := if find d n ≠ 0 then [] else (old n d.L).s
/-- How many of the loose bytes are left. -/
def leftN (f : Fl) (left : Int) : Nat := min left.toNat (f.s.length - f.lasts)
def cutF (f : Fl) (left : Int) : Fl := ⟨f.name, f.s.take (f.lasts + leftN f left), f.lasts, f.stays⟩
def goneF (f : Fl) : Bool := !f.stays && f.s.isEmpty
def crashF (f : Fl) (left : Int) : List Fl := if goneF (cutF f left) then [] else [lastF (cutF f left)]
def crashL : List Fl → List Int → List Fl
  | [], _ => []
  | f :: r, ks => crashF f (ks.headD 0) ++ crashL r ks.tail
def crashD (d : Dk) (ks : List Int) : Dk := ⟨crashL d.L ks, -1, false⟩
def armD (d : Dk) (n : Int) : Dk := ⟨d.L, max n (-1), d.down⟩
def newD : Dk := ⟨[], -1, false⟩
end Go.Proofs.YtghnbkkfghfifaaGreatDoor.D
/- A disk in memory: its four cells, its map, its files' cells, their bytes. -/
namespace Go.Proofs.YtghnbkkfghfifaaGreatDoor.D
open Go.RowKit Go.Maps
set_option linter.unusedVariables false
/-- A block of cells. -/
def Blk (w : World) (b : Nat) (cs : List Value) (t : TypeId) : Prop := w.heap[b]? = some (.cells cs.toArray t (0, 0))
theorem Blk.lt {w : World} {b : Nat} {cs : List Value} {t : TypeId} (h : Blk w b cs t) : b < w.heap.size := lt_of_block h
theorem Blk.c {w : World} {b : Nat} {cs : List Value} {t : TypeId} (h : Blk w b cs t) (i : Nat) {u : Value} (hi : cs[i]? = some u) : w.cell? ⟨b, i, none⟩ = some u := by unfold Blk at h; simp [World.cell?, h, hi]
theorem Blk.f {w : World} {b : Nat} {cs : List Value} {t : TypeId} (h : Blk w b cs t) (i : Nat) : w.frozen? ⟨b, i, none⟩ = false := by unfold Blk at h; simp [World.frozen?, h]
theorem Blk.set {w : World} {b : Nat} {cs : List Value} {t : TypeId} (h : Blk w b cs t) (i : Nat) (u : Value) : Blk (w.setCell ⟨b, i, none⟩ u) b (cs.set i u) t := by
  have hlt := h.lt
  have h' : w.heap[b] = .cells cs.toArray t (0, 0) := by unfold Blk at h; simpa [Array.getElem?_eq_getElem hlt] using h
  show (w.heap.modify b _)[b]? = _
  rw [Array.getElem?_eq_getElem (by simpa using hlt), Array.getElem_modify_self, h']
  simp
theorem Blk.other {w : World} {b : Nat} {cs : List Value} {t : TypeId} (h : Blk w b cs t) {a : Addr} (ha : b ≠ a.block) (u : Value) : Blk (w.setCell a u) b cs t := by
  unfold Blk; rw [Below.heap_setCell _ _ _ _ ha]; exact h
theorem Blk.kept {w w' : World} {b : Nat} {cs : List Value} {t : TypeId} {row : Option Nat} (h : Blk w b cs t) (hg : w.grownBy w' row) (hr : some b ≠ row) : Blk w' b cs t := by
  unfold Blk; rw [hg.block b h.lt hr]; exact h
theorem Blk.alloc {w : World} {b : Nat} {cs : List Value} {t : TypeId} (h : Blk w b cs t) (o : Obj) : Blk (w.alloc o) b cs t := h.kept (World.grownBy_alloc w o none) (by simp)
theorem Blk.new (w : World) (cs : List Value) (t : TypeId) : Blk (w.alloc (.cells cs.toArray t)) w.heap.size cs t := by
  show (w.heap.push _)[_]? = _
  simp
theorem Blk.at {w : World} {b : Nat} (hb : b = w.heap.size) (cs : List Value) (t : TypeId) : Blk (w.alloc (.cells cs.toArray t)) b cs t := by
  subst hb
  exact Blk.new w cs t
theorem Blk.below {w w' : World} {B b : Nat} {cs : List Value} {t : TypeId} (h : Blk w b cs t) (hb : Below B w w') (hl : b < B) : Blk w' b cs t := by
  unfold Blk; rw [hb.block b hl]; exact h
theorem Blk.ne {w : World} {b b' : Nat} {cs cs' : List Value} {t t' : TypeId} (h : Blk w b cs t) (h' : Blk w b' cs' t') (ht : t ≠ t') : b ≠ b' := by
  rintro rfl
  unfold Blk at h h'
  rw [h] at h'
  cases h'
  exact ht rfl
/-- Only blocks in F have turned, and new ones are there. -/
structure Kept (F : Nat → Prop) (w w' : World) : Prop where
  os : w'.os = w.os
  tape : w'.tape = w.tape
  output : w'.output = w.output
  size : w.heap.size ≤ w'.heap.size
  block : ∀ k, k < w.heap.size → ¬ F k → w'.heap[k]? = w.heap[k]?
theorem Kept.refl (F : Nat → Prop) (w : World) : Kept F w w := ⟨rfl, rfl, rfl, Nat.le_refl _, fun _ _ _ => rfl⟩
theorem Kept.trans {F : Nat → Prop} {a b c : World} (h : Kept F a b) (k : Kept F b c) : Kept F a c :=
  ⟨k.os.trans h.os, k.tape.trans h.tape, k.output.trans h.output, Nat.le_trans h.size k.size, fun i hi hF => (k.block i (Nat.lt_of_lt_of_le hi h.size) hF).trans (h.block i hi hF)⟩
theorem Kept.grown {F : Nat → Prop} {a b c : World} {row : Option Nat} (h : Kept F a b) (k : b.grownBy c row) (hr : ∀ j, row = some j → a.heap.size ≤ j ∨ F j) : Kept F a c :=
  ⟨k.os.trans h.os, k.tape.trans h.tape, k.output.trans h.output, Nat.le_trans h.size k.size, fun i hi hF => by
    refine (k.block i (Nat.lt_of_lt_of_le hi h.size) (fun e => ?_)).trans (h.block i hi hF)
    rcases hr i e.symm with h1 | h1
    · omega
    · exact hF h1⟩
theorem Kept.alloc {F : Nat → Prop} {a b : World} (h : Kept F a b) (o : Obj) : Kept F a (b.alloc o) := h.grown (World.grownBy_alloc b o none) (fun j hj => by cases hj)
theorem grownBy_set (w : World) (a : Addr) (u : Value) : w.grownBy (w.setCell a u) (some a.block) :=
  ⟨rfl, rfl, rfl, by simp [World.setCell], fun k hk hne => Below.heap_setCell _ _ _ _ (fun e => hne (by rw [e]))⟩
theorem Kept.set {F : Nat → Prop} {a b : World} (h : Kept F a b) (p : Addr) (u : Value) (hp : a.heap.size ≤ p.block ∨ F p.block) : Kept F a (b.setCell p u) := h.grown (grownBy_set b p u) (fun j hj => by cases hj; exact hp)
theorem Kept.drew {F : Nat → Prop} {a b : World} (h : Kept F a b) : Kept F a b.drew := ⟨h.os, h.tape, h.output, h.size, h.block⟩
theorem Kept.drewN {F : Nat → Prop} {a b : World} (h : Kept F a b) (n : Nat) : Kept F a (b.drewN n) := ⟨h.os, h.tape, h.output, h.size, h.block⟩
theorem Kept.mono {F G : Nat → Prop} {a b : World} (h : Kept F a b) (hFG : ∀ i, F i → G i) : Kept G a b := ⟨h.os, h.tape, h.output, h.size, fun k hk hG => h.block k hk (fun hF => hG (hFG k hF))⟩
theorem Kept.below {F : Nat → Prop} {a b : World} (h : Kept F a b) {B : Nat} (hB : B ≤ a.heap.size) (hF : ∀ i, F i → B ≤ i) : Below B a b :=
  ⟨h.os, h.tape, h.output, h.size, fun k hk => h.block k (Nat.lt_of_lt_of_le hk hB) (fun e => by have := hF k e; omega)⟩
theorem Kept.of_below {F : Nat → Prop} {a b c : World} (h : Kept F a b) {B : Nat} (k : Below B b c) (hB : ∀ i, i < a.heap.size → ¬ F i → i < B) : Kept F a c :=
  ⟨k.os.trans h.os, k.tape.trans h.tape, k.output.trans h.output, Nat.le_trans h.size k.size, fun i hi hF => (k.block i (hB i hi hF)).trans (h.block i hi hF)⟩
/-- A file in memory. -/
structure Ent where
  f : Fl
  blk : Nat
  v : Value
def Ent.k (e : Ent) : List UInt8 := e.f.name
/-- An element of the map: a file's block. -/
def relem (v : Value) : Option (DataW Unit × List MemPlace) :=
  match v with
  | .pointer (some ⟨b, 0, none⟩) => some (.lit (.int .i64 b), [])
  | .pointer none => some (.nil, [])
  | _ => none
theorem relem_inv {v : Value} {y : DataW Unit × List MemPlace} (h : relem v = some y) : (v = .pointer none ∧ y = (.nil, [])) ∨ ∃ b : Nat, v = .pointer (some ⟨b, 0, none⟩) ∧ y = (.lit (.int .i64 b), []) := by
  unfold relem at h
  split at h
  · cases h; exact .inr ⟨_, rfl, rfl⟩
  · cases h; exact .inl ⟨rfl, rfl⟩
  · cases h
theorem relem_at {v : Value} {ps : List MemPlace} {b : Nat} (h : relem v = some (.lit (.int .i64 b), ps)) : v = .pointer (some ⟨b, 0, none⟩) := by
  rcases relem_inv h with ⟨_, e⟩ | ⟨c, rfl, e⟩
  · cases e
  · simp only [Prod.mk.injEq, DataW.lit.injEq, Lit.int.injEq, true_and] at e
    have : b = c := by omega
    rw [this]
theorem relem_nil {v : Value} {ps : List MemPlace} (h : relem v = some (.nil, ps)) : v = .pointer none := by
  rcases relem_inv h with ⟨rfl, _⟩ | ⟨c, rfl, e⟩
  · rfl
  · simp at e
def pairOf (e : Ent) : Lit × DataW Unit := (.string e.f.name, .lit (.int .i64 e.blk))
def mapOf (E : List Ent) : DataW Unit := .map (E.map pairOf)
theorem before_eq (a b : List UInt8) : (Lit.string a).before (.string b) = decide (a < b) := by
  rw [← Go.Proofs.bytesLess_eq]
  show bytesBefore a b = _
  induction a generalizing b with
  | nil => cases b <;> rfl
  | cons x r ih =>
    cases b with
    | nil => rfl
    | cons y s => simp only [bytesBefore, Op.bytesLess, ih]
theorem same_eq (a b : List UInt8) : (Lit.string a).sameKey (.string b) = decide (a = b) := by
  show (a == b) = _
  by_cases h : a = b <;> simp [h]
theorem has_mapOf (E : List Ent) (n : List UInt8) : Maps.has (mapOf E) (.string n) = (getK Ent.k n E).isSome := by
  show (E.map pairOf).any _ = _
  unfold getK
  induction E with
  | nil => rfl
  | cons x r ih =>
    rw [List.map_cons, List.any_cons, ih, List.find?_cons]
    show ((Lit.string x.f.name).sameKey _ || _) = _
    rw [same_eq]
    by_cases h : x.f.name = n
    · simp [h, Ent.k]
    · simp [h, Ent.k]
theorem at_mapOf (E : List Ent) (n : List UInt8) (z : DataW Unit) : (mapOf E).atKey (.string n) z = match getK Ent.k n E with | some e => .lit (.int .i64 e.blk) | none => z := by
  unfold mapOf DataW.atKey getK
  simp only
  induction E with
  | nil => rfl
  | cons x r ih =>
    rw [List.map_cons, List.find?_cons, List.find?_cons]
    have e : (pairOf x).1.sameKey (.string n) = decide (x.k = n) := same_eq _ _
    rw [e]
    by_cases h : x.k = n
    · simp only [h, decide_true]; rfl
    · simp only [h, decide_false]; exact ih
theorem keep_pair (n : List UInt8) (E : List Ent) : (E.map pairOf).filter (fun p => !p.1.sameKey (.string n)) = (delK Ent.k n E).map pairOf := by
  unfold delK
  rw [List.filter_map]
  congr 1
  apply List.filter_congr
  intro x _
  have e : (pairOf x).1.sameKey (.string n) = decide (x.k = n) := same_eq _ _
  show (!(pairOf x).1.sameKey (.string n)) = _
  rw [e]
  by_cases h : x.k = n <;> simp [h]
theorem del_mapOf (n : List UInt8) (E : List Ent) : (mapOf E).del (.string n) = mapOf (delK Ent.k n E) := by
  show DataW.map ((E.map pairOf).filter _) = _
  rw [keep_pair]; rfl
theorem insert_pair {x : Ent} : ∀ {E : List Ent}, Sorted Ent.k E → DataW.insert (pairOf x) ((delK Ent.k x.f.name E).map pairOf) = (insK Ent.k x E).map pairOf
  | [], _ => rfl
  | z :: r, hs => by
    obtain ⟨h1, h2⟩ := List.pairwise_cons.1 hs
    have hfront : ∀ l : List Ent, (∀ y ∈ l, x.f.name < y.f.name) → DataW.insert (pairOf x) (l.map pairOf) = pairOf x :: l.map pairOf := by
      intro l hl
      cases l with
      | nil => rfl
      | cons y s =>
        show (if (Lit.string x.f.name).before (.string y.f.name) = true then _ else _) = _
        rw [before_eq, if_pos (by simpa using hl y (by simp))]
        rfl
    unfold insK
    split
    · rename_i hlt
      rw [delK_none (fun y hy e => ?_)]
      · rw [hfront _ (fun y hy => ?_)]
        · rfl
        · rcases List.mem_cons.1 hy with rfl | hy
          · exact hlt
          · exact lt_tr hlt (h1 y hy)
      · rcases List.mem_cons.1 hy with rfl | hy
        · change x.f.name < y.k at hlt
          rw [e] at hlt; exact lt_irr _ hlt
        · have := lt_tr hlt (h1 y hy)
          rw [e] at this; exact lt_irr _ this
    · split
      · rename_i hlt he
        have : delK Ent.k x.f.name (z :: r) = r := by
          unfold delK
          rw [List.filter_cons, if_neg (by have he' : z.k = x.f.name := he.symm; simp [he'])]
          exact List.filter_eq_self.2 (fun y hy => by
            have := h1 y hy
            simp only [ne_eq, decide_not, Bool.not_eq_eq_eq_not, Bool.not_true, decide_eq_false_iff_not]
            intro e
            rw [e, ← he] at this
            exact lt_irr _ this)
        rw [this, hfront _ (fun y hy => by have := h1 y hy; rw [← he] at this; exact this)]
        rfl
      · rename_i hlt he
        have : delK Ent.k x.f.name (z :: r) = z :: delK Ent.k x.f.name r := by
          unfold delK
          rw [List.filter_cons, if_pos (by have he' : ¬ z.k = x.f.name := fun e => he e.symm; simp [he'])]
        rw [this, List.map_cons, List.map_cons, ← insert_pair h2]
        show (if (Lit.string x.f.name).before (.string z.f.name) = true then _ else _) = _
        rw [before_eq, if_neg (by have hlt' : ¬ x.f.name < z.f.name := hlt; simpa using hlt')]
theorem put_mapOf {x : Ent} {E : List Ent} (hs : Sorted Ent.k E) : (mapOf E).put (.string x.f.name) (.lit (.int .i64 x.blk)) = mapOf (insK Ent.k x E) := by
  show DataW.map (DataW.insert (pairOf x) ((E.map pairOf).filter _)) = _
  rw [keep_pair, insert_pair hs]; rfl
theorem size_mapOf (E : List Ent) : Maps.size (mapOf E) = E.length := by
  show (E.map pairOf).length = _
  rw [List.length_map]
theorem keys_mapOf (E : List Ent) : strKeys (mapOf E) = E.map Ent.k := by
  show (E.map pairOf).map _ = _
  rw [List.map_map]
  rfl
theorem law9 : Keyed Tryz.prog 9 := string_keyed Tryz.underlying9
theorem zero63 (w : World) : (zeroValue 89).run Tryz.prog w = .ok (.pointer none) w := by kernel_rfl
theorem key9 {n : List UInt8} (h : n.length ≤ maxLen) : keyOf Tryz.prog 9 (.string (bs n)) = some (.string n) := by
  have := Go.WideMaps.keyOf_string_mk (P := Tryz.prog) (k := 9) Tryz.underlying9 (s := bs n) (by rw [bs_size]; exact h)
  rwa [bs_data] at this
/-- The map of files. -/
def DMap (w : World) (B : Nat) (E : List Ent) : Prop := w.ownsMap Tryz.prog 9 relem B E.length (mapOf E)
theorem tight {w : World} {B n : Nat} {E : List Ent} (h : w.ownsMap Tryz.prog 9 relem B n (mapOf E)) : DMap w B E := by
  have hs : ∃ es clock, w.heap[B]? = some (.map es clock) ∧ WideElems.Fit Tryz.prog 9 relem es clock ∧ es.size ≤ n ∧ mapOf E = .map ((es.toList.map (WideElems.rg Tryz.prog 9 relem)).foldr DataW.insert []) := h
  obtain ⟨es, clock, hb, F, _, hD⟩ := hs
  refine ⟨es, clock, hb, F, ?_, hD⟩
  have e : Maps.size (mapOf E) = es.size := by rw [hD]; simp [Maps.size, length_sorted]
  rw [size_mapOf] at e
  omega
theorem DMap.look {w : World} {B : Nat} {E : List Ent} (h : DMap w B E) {n : List UInt8} (hn : n.length ≤ maxLen) : (Instr.lookup 83 (.map (some B)) (.string (bs n)) true).run Tryz.prog w =
    .ok (.tuple #[match getK Ent.k n E with | some e => .pointer (some ⟨e.blk, 0, none⟩) | none => .pointer none, .bool (getK Ent.k n E).isSome]) w := by
  obtain ⟨v, ps, hrun, hv⟩ := World.ownsMap.look_ok h law9 Tryz.underlying83 (zero63 w) (zd := .nil) (zp := []) rfl (key9 hn)
  rw [hrun, has_mapOf]
  rw [at_mapOf] at hv
  cases hg : getK Ent.k n E with
  | none => rw [hg] at hv; rw [relem_nil hv]
  | some e => rw [hg] at hv; rw [relem_at hv]
theorem DMap.look1 {w : World} {B : Nat} {E : List Ent} (h : DMap w B E) {n : List UInt8} (hn : n.length ≤ maxLen) : (Instr.lookup 83 (.map (some B)) (.string (bs n)) false).run Tryz.prog w =
    .ok (match getK Ent.k n E with | some e => .pointer (some ⟨e.blk, 0, none⟩) | none => .pointer none) w := by
  obtain ⟨v, ps, hrun, hv⟩ := World.ownsMap.lookup h law9 Tryz.underlying83 (zero63 w) (zd := .nil) (zp := []) rfl (key9 hn)
  rw [hrun]
  rw [at_mapOf] at hv
  cases hg : getK Ent.k n E with
  | none => rw [hg] at hv; rw [relem_nil hv]
  | some e => rw [hg] at hv; rw [relem_at hv]
theorem DMap.notCells {w : World} {B : Nat} {E : List Ent} (h : DMap w B E) {cs : Array Value} {t : TypeId} {fr : Nat × Nat} {b : Nat} (hb : w.heap[b]? = some (.cells cs t fr)) : b ≠ B := by
  rintro rfl
  obtain ⟨es, clock, hb', _⟩ := h
  rw [hb] at hb'
  cases hb'
end Go.Proofs.YtghnbkkfghfifaaGreatDoor.D
/- A disk in memory: what it is behind each thing that is done to its blocks. -/
namespace Go.Proofs.YtghnbkkfghfifaaGreatDoor.D
open Go.RowKit Go.Maps
set_option linter.unusedVariables false
/-- A file's cells, and its bytes. -/
structure EntM (w : World) (F : Nat → Prop) (e : Ent) : Prop where
  cells : Blk w e.blk [e.v, .int .i64 (e.f.lasts : Int), .bool e.f.stays] 94
  row : OwnB w 0 e.v e.f.s
  fb : F e.blk
  fr : ∀ g, e.v.ownBlock = some g → F g
def Apart (x y : Ent) : Prop := x.blk ≠ y.blk ∧ ∀ g, x.v.ownBlock = some g → y.v.ownBlock ≠ some g
theorem Apart.symm {x y : Ent} (h : Apart x y) : Apart y x := ⟨fun e => h.1 e.symm, fun g h1 h2 => h.2 g h2 h1⟩
/-- A disk in memory. -/
structure DiskM (w : World) (F : Nat → Prop) (d B : Nat) (E : List Ent) (u fuse : Int) (down : Bool) : Prop where
  self : Blk w d [.map (some B), .int .i64 u, .int .i64 fuse, .bool down] 85
  map : DMap w B E
  each : ∀ e ∈ E, EntM w F e
  apart : E.Pairwise Apart
  fd : F d
  fB : F B
  sorted : Sorted Ent.k E
theorem own_blk {w : World} {base : Nat} {v : Value} {l : List UInt8} (h : OwnB w base v l) {g : Nat} (hg : v.ownBlock = some g) : ∃ cur, w.heap[g]? = some (.cells cur 5 (0, 0)) := by
  rcases h.2 with ⟨rfl, _⟩ | ⟨g', cap, cur, rfl, _, hh, _⟩
  · cases hg
  · cases hg; exact ⟨cur, hh⟩
theorem own_ne {w : World} {base : Nat} {v : Value} {l : List UInt8} (h : OwnB w base v l) {b : Nat} {cs : List Value} {t : TypeId} (hb : Blk w b cs t) (ht : t ≠ 5) : v.ownBlock ≠ some b := by
  intro hg
  obtain ⟨cur, hh⟩ := own_blk h hg
  unfold Blk at hb
  rw [hb] at hh
  cases hh
  exact ht rfl
theorem own_map {w : World} {base : Nat} {v : Value} {l : List UInt8} (h : OwnB w base v l) {B : Nat} {E : List Ent} (hB : DMap w B E) : v.ownBlock ≠ some B := by
  intro hg
  obtain ⟨cur, hh⟩ := own_blk h hg
  exact hB.notCells hh rfl
theorem Blk.map {w : World} {b : Nat} {cs : List Value} {t : TypeId} (h : Blk w b cs t) {B : Nat} {E : List Ent} (hB : DMap w B E) : b ≠ B := hB.notCells h
theorem EntM.kept {w w' : World} {F : Nat → Prop} {e : Ent} {row : Option Nat} (h : EntM w F e) (hg : w.grownBy w' row) (h1 : some e.blk ≠ row) (h2 : ∀ g, e.v.ownBlock = some g → some g ≠ row) : EntM w' F e :=
  ⟨h.cells.kept hg h1, World.ownsRow.kept h.row hg (by
    cases hv : e.v.ownBlock with
    | none => exact .inl rfl
    | some g => exact .inr (h2 g hv)), h.fb, h.fr⟩
theorem DMap.kept {w w' : World} {B : Nat} {E : List Ent} {row : Option Nat} (h : DMap w B E) (hg : w.grownBy w' row) (hr : some B ≠ row) : DMap w' B E := World.ownsMap.kept h hg hr
section
variable {w w' : World} {F : Nat → Prop} {d B : Nat} {E : List Ent} {u fuse : Int} {down : Bool}
theorem DiskM.quiet (h : DiskM w F d B E u fuse down) (hg : w.grownBy w' none) : DiskM w' F d B E u fuse down :=
  ⟨h.self.kept hg (by simp), h.map.kept hg (by simp), fun e he => (h.each e he).kept hg (by simp) (by simp), h.apart, h.fd, h.fB, h.sorted⟩
theorem DiskM.alloc (h : DiskM w F d B E u fuse down) (o : Obj) : DiskM (w.alloc o) F d B E u fuse down := h.quiet (World.grownBy_alloc w o none)
theorem grown_below {w w' : World} (h : Below w.heap.size w w') : w.grownBy w' none := ⟨h.os, h.tape, h.output, h.size, fun k hk _ => h.block k hk⟩
theorem DiskM.below (h : DiskM w F d B E u fuse down) (hb : Below w.heap.size w w') : DiskM w' F d B E u fuse down := h.quiet (grown_below hb)
theorem DiskM.mono {G : Nat → Prop} (h : DiskM w F d B E u fuse down) (hFG : ∀ i, F i → i < w.heap.size → G i) : DiskM w G d B E u fuse down :=
  ⟨h.self, h.map, fun e he => ⟨(h.each e he).cells, (h.each e he).row, hFG _ (h.each e he).fb (h.each e he).cells.lt, fun g hg => hFG g ((h.each e he).fr g hg) (by
    obtain ⟨cur, hh⟩ := own_blk (h.each e he).row hg
    exact lt_of_block hh)⟩, h.apart, hFG _ h.fd h.self.lt, hFG _ h.fB (World.ownsMap.lt h.map), h.sorted⟩
/-- What turns elsewhere leaves it as it is. -/
theorem DiskM.far (h : DiskM w F d B E u fuse down) {G : Nat → Prop} (hk : Kept G w w') (hFG : ∀ i, F i → i < w.heap.size → ¬ G i) : DiskM w' F d B E u fuse down := by
  have blk : ∀ i, F i → i < w.heap.size → w'.heap[i]? = w.heap[i]? := fun i hi hs => hk.block i hs (hFG i hi hs)
  refine ⟨by unfold Blk; rw [blk d h.fd h.self.lt]; exact h.self, ?_, fun e he => ⟨?_, ?_, (h.each e he).fb, (h.each e he).fr⟩, h.apart, h.fd, h.fB, h.sorted⟩
  · have hl := World.ownsMap.lt h.map
    obtain ⟨es, clock, hb, r⟩ := h.map
    exact ⟨es, clock, by rw [blk B h.fB hl]; exact hb, r⟩
  · unfold Blk; rw [blk _ (h.each e he).fb (h.each e he).cells.lt]; exact (h.each e he).cells
  · have ho := (h.each e he).row
    obtain ⟨h1, h2⟩ := ho
    refine ⟨h1, ?_⟩
    rcases h2 with h2 | ⟨g, cap, cur, hv, hg, hh, r⟩
    · exact .inl h2
    · exact .inr ⟨g, cap, cur, hv, hg, by rw [blk g ((h.each e he).fr g (by rw [hv]; rfl)) (lt_of_block hh)]; exact hh, r⟩
/-- A store into the disk's own cells. -/
theorem DiskM.own (h : DiskM w F d B E u fuse down) (hg : w.grownBy w' (some d)) {u' fuse' : Int} {down' : Bool} (hs : Blk w' d [.map (some B), .int .i64 u', .int .i64 fuse', .bool down'] 85) : DiskM w' F d B E u' fuse' down' :=
  ⟨hs, h.map.kept hg (fun e => h.self.map h.map (Option.some.inj e).symm), fun e he => (h.each e he).kept hg (fun e1 => (h.each e he).cells.ne h.self (by decide) (Option.some.inj e1)) (fun g hg' e1 => own_ne (h.each e he).row h.self (by decide) (by rw [hg', e1])),
    h.apart, h.fd, h.fB, h.sorted⟩
theorem DiskM.setUsed (h : DiskM w F d B E u fuse down) (u' : Int) : DiskM (w.setCell ⟨d, 1, none⟩ (.int .i64 u')) F d B E u' fuse down := h.own (grownBy_set w ⟨d, 1, none⟩ _) (h.self.set 1 _)
theorem DiskM.setFuse (h : DiskM w F d B E u fuse down) (f' : Int) : DiskM (w.setCell ⟨d, 2, none⟩ (.int .i64 f')) F d B E u f' down := h.own (grownBy_set w ⟨d, 2, none⟩ _) (h.self.set 2 _)
theorem DiskM.setDown (h : DiskM w F d B E u fuse down) (b : Bool) : DiskM (w.setCell ⟨d, 3, none⟩ (.bool b)) F d B E u fuse b := h.own (grownBy_set w ⟨d, 3, none⟩ _) (h.self.set 3 _)
theorem insK_perm {x : Ent} {E : List Ent} (hs : Sorted Ent.k E) : (insK Ent.k x E).Perm (x :: delK Ent.k x.k E) := by
  cases hg : getK Ent.k x.k E with
  | none => rw [delK_none (getK_none hg)]; exact insK_new (getK_none hg)
  | some e =>
    obtain ⟨he, hk⟩ := getK_some hg
    have h2 := delK_perm (sorted_insK (x := x) hs) ((mem_insK hs).2 (.inl rfl))
    have h3 : delK Ent.k x.k (insK Ent.k x E) = delK Ent.k x.k E := by
      rw [insK_old hs he hk]
      unfold delK
      clear hg h2 he hs
      induction E with
      | nil => rfl
      | cons z r ih =>
        rw [List.map_cons, List.filter_cons, List.filter_cons, ih]
        by_cases hz : z.k = x.k
        · simp [hz]
        · simp [hz]
    rw [h3] at h2
    exact h2
theorem apart_ins {x : Ent} (hs : Sorted Ent.k E) (ha : E.Pairwise Apart) (hx : ∀ y ∈ E, y.k ≠ x.k → Apart x y) : (insK Ent.k x E).Pairwise Apart := by
  refine ((insK_perm hs).pairwise_iff (fun {a b} h => Apart.symm h)).2 (List.pairwise_cons.2 ⟨fun y hy => ?_, ha.filter _⟩)
  obtain ⟨h1, h2⟩ := mem_delK.1 hy
  exact hx y h1 h2
/-- A file that is put into its place. -/
theorem DiskM.ins (h : DiskM w F d B E u fuse down) {x : Ent} {u' fuse' : Int} {down' : Bool} (hs : Blk w' d [.map (some B), .int .i64 u', .int .i64 fuse', .bool down'] 85) (hm : DMap w' B (insK Ent.k x E)) (hx : EntM w' F x)
    (hr : ∀ y ∈ E, y.k ≠ x.k → EntM w' F y) (ha : ∀ y ∈ E, y.k ≠ x.k → Apart x y) : DiskM w' F d B (insK Ent.k x E) u' fuse' down' :=
  ⟨hs, hm, fun e he => by
    rcases (mem_insK h.sorted).1 he with rfl | ⟨h1, h2⟩
    · exact hx
    · exact hr e h1 h2, apart_ins h.sorted h.apart ha, h.fd, h.fB, sorted_insK h.sorted⟩
theorem pairwise_mem {E : List Ent} (ha : E.Pairwise Apart) {x y : Ent} (hx : x ∈ E) (hy : y ∈ E) (hne : x.k ≠ y.k) : Apart x y := by
  induction ha with
  | nil => simp at hx
  | cons h1 h2 ih =>
    rcases List.mem_cons.1 hx with rfl | hx'
    · rcases List.mem_cons.1 hy with rfl | hy'
      · exact absurd rfl hne
      · exact h1 y hy'
    · rcases List.mem_cons.1 hy with rfl | hy'
      · exact (h1 x hx').symm
      · exact ih hx' hy'
/-- The map is the same where a file of that name and that block is there. -/
theorem map_old {e x : Ent} (hs : Sorted Ent.k E) (he : e ∈ E) (hk : x.f.name = e.f.name) (hb : x.blk = e.blk) : mapOf (insK Ent.k x E) = mapOf E ∧ (insK Ent.k x E).length = E.length := by
  have hk' : e.k = x.k := hk.symm
  refine ⟨?_, insK_old_len hs he hk'⟩
  unfold mapOf
  rw [insK_old hs he hk', List.map_map]
  congr 1
  apply List.map_congr_left
  intro y hy
  simp only [Function.comp]
  split
  · rename_i hyx
    have : y = e := sorted_inj hs hy he (hyx.trans hk'.symm)
    subst this
    unfold pairOf
    rw [hk, hb]
  · rfl
theorem DMap.old {e x : Ent} (h : DMap w B E) (hs : Sorted Ent.k E) (he : e ∈ E) (hk : x.f.name = e.f.name) (hb : x.blk = e.blk) : DMap w B (insK Ent.k x E) := by
  obtain ⟨h1, h2⟩ := map_old hs he hk hb
  unfold DMap
  rw [h1, h2]
  exact h
theorem Blk.keptF {w w' : World} {b : Nat} {cs : List Value} {t : TypeId} {G : Nat → Prop} (h : Blk w b cs t) (hk : Kept G w w') (hb : ¬ G b) : Blk w' b cs t := by
  unfold Blk; rw [hk.block b h.lt hb]; exact h
theorem DMap.keptF {G : Nat → Prop} (h : DMap w B E) (hk : Kept G w w') (hb : ¬ G B) : DMap w' B E := by
  have hl := World.ownsMap.lt h
  obtain ⟨es, clock, hh, r⟩ := h
  exact ⟨es, clock, by rw [hk.block B hl hb]; exact hh, r⟩
theorem OwnB.keptF {G : Nat → Prop} {base : Nat} {v : Value} {l : List UInt8} (h : OwnB w base v l) (hk : Kept G w w') (hv : ∀ g, v.ownBlock = some g → ¬ G g) : OwnB w' base v l := by
  obtain ⟨h1, h2⟩ := h
  refine ⟨h1, ?_⟩
  rcases h2 with h2 | ⟨g, cap, cur, e, hg, hh, r⟩
  · exact .inl h2
  · exact .inr ⟨g, cap, cur, e, hg, by rw [hk.block g (lt_of_block hh) (hv g (by rw [e]; rfl))]; exact hh, r⟩
theorem EntM.keptF {G : Nat → Prop} {e : Ent} (h : EntM w F e) (hk : Kept G w w') (h1 : ¬ G e.blk) (h2 : ∀ g, e.v.ownBlock = some g → ¬ G g) : EntM w' F e :=
  ⟨h.cells.keptF hk h1, h.row.keptF hk h2, h.fb, h.fr⟩
/-- A file's cells are written, or its bytes; all else is as it was. -/
theorem DiskM.renew (h : DiskM w F d B E u fuse down) {e x : Ent} (he : e ∈ E) (hk : x.f.name = e.f.name) (hb : x.blk = e.blk) (hg : Kept (fun i => i = e.blk ∨ e.v.ownBlock = some i) w w')
    (hx : EntM w' F x) (hv : ∀ g, x.v.ownBlock = some g → e.v.ownBlock = some g ∨ w.heap.size ≤ g) : DiskM w' F d B (insK Ent.k x E) u fuse down := by
  have hxe := h.each e he
  refine h.ins (h.self.keptF hg ?_) ((h.map.keptF hg ?_).old h.sorted he hk hb) hx (fun y hy hyk => ?_) (fun y hy hyk => ?_)
  · rintro (e1 | e1)
    · exact hxe.cells.ne h.self (by decide) e1.symm
    · exact own_ne hxe.row h.self (by decide) e1
  · rintro (e1 | e1)
    · exact hxe.cells.map h.map e1.symm
    · exact own_map hxe.row h.map e1
  · have hap := pairwise_mem h.apart he hy (fun e1 => hyk (e1.symm.trans hk.symm))
    refine (h.each y hy).keptF hg ?_ (fun g hyg => ?_)
    · rintro (e1 | e1)
      · exact hap.1 e1.symm
      · exact own_ne hxe.row (h.each y hy).cells (by decide) e1
    · rintro (e1 | e1)
      · exact own_ne (h.each y hy).row hxe.cells (by decide) (by rw [hyg, e1])
      · exact hap.2 g e1 hyg
  · have hap := pairwise_mem h.apart he hy (fun e1 => hyk (e1.symm.trans hk.symm))
    refine ⟨by rw [hb]; exact hap.1, fun g hxg hyg => ?_⟩
    rcases hv g hxg with ho | ho
    · exact hap.2 g ho hyg
    · obtain ⟨cur, hh⟩ := own_blk (h.each y hy).row hyg
      have := lt_of_block hh
      omega
/-- A file is taken out. -/
theorem DiskM.drop (h : DiskM w F d B E u fuse down) {n : List UInt8} (hg : w.grownBy w' (some B)) (hm : w'.ownsMap Tryz.prog 9 relem B E.length ((mapOf E).del (.string n))) : DiskM w' F d B (delK Ent.k n E) u fuse down := by
  rw [del_mapOf] at hm
  refine ⟨h.self.kept hg (fun e1 => h.self.map h.map (Option.some.inj e1)), tight hm, fun e he => ?_, h.apart.filter _, h.fd, h.fB, sorted_delK h.sorted⟩
  have he' := (mem_delK.1 he).1
  exact (h.each e he').kept hg (fun e1 => (h.each e he').cells.map h.map (Option.some.inj e1)) (fun g hg' e1 => own_map (h.each e he').row h.map (by rw [hg', e1]))
/-- A file is put into the map: a new block. -/
theorem DiskM.put (h : DiskM w F d B E u fuse down) {x : Ent} (hx : EntM w F x) (hg : w.grownBy w' (some B)) (hm : w'.ownsMap Tryz.prog 9 relem B (E.length + 1) ((mapOf E).put (.string x.f.name) (.lit (.int .i64 x.blk))))
    (ha : ∀ y ∈ E, y.k ≠ x.k → Apart x y) : DiskM w' F d B (insK Ent.k x E) u fuse down := by
  rw [put_mapOf h.sorted] at hm
  refine h.ins (h.self.kept hg (fun e1 => h.self.map h.map (Option.some.inj e1))) (tight hm) (hx.kept hg (fun e1 => hx.cells.map h.map (Option.some.inj e1)) (fun g hg' e1 => own_map hx.row h.map (by rw [hg', e1]))) (fun y hy _ => ?_) ha
  exact (h.each y hy).kept hg (fun e1 => (h.each y hy).cells.map h.map (Option.some.inj e1)) (fun g hg' e1 => own_map (h.each y hy).row h.map (by rw [hg', e1]))
end
end Go.Proofs.YtghnbkkfghfifaaGreatDoor.D
/- The small calls of a disk: a new one, what may be asked, a step. -/
namespace Go.Proofs.YtghnbkkfghfifaaGreatDoor.D
open Go.RowKit Go.Maps
set_option linter.unusedVariables false
set_option maxRecDepth 100000 in
theorem new_any (w : World) (F : Nat → Prop) (hF : ∀ i, w.heap.size ≤ i → F i) : Calls Tryz.prog 13 #[] w fun e w' => ∃ d B, e = .returned (.pointer (some ⟨d, 0, none⟩)) ∧ DiskM w' F d B [] 0 (-1) false ∧ Below w.heap.size w w' := by
  have hmm := @run_makeMap Tryz.prog
  go_enter Tryz.func13, Tryz.ntmps13
  go_wp2
  go_ret
  refine ⟨w.heap.size + 1, w.heap.size, rfl, ?_, ((Below.refl _ w).alloc (Nat.le_refl _) _).alloc (by simp) _⟩
  refine ⟨?_, (World.ownsMap_made w Tryz.prog 9 relem).alloc _, by simp, List.Pairwise.nil, hF _ (by simp), hF _ (by simp), List.Pairwise.nil⟩
  exact Blk.at (by simp) [_, _, _, _] 85
def askN (down : Bool) (n : List UInt8) : Nat := if down then 8 else if n.length < 1 ∨ 64 < n.length then 1 else 0
theorem empty_eq (n : List UInt8) : ((bs n).toList == []) = decide (n.length = 0) := by
  rw [bs_toList]
  cases n <;> rfl
set_option maxRecDepth 100000 in
theorem ask_any (w : World) (d : Nat) (down : Bool) (n : List UInt8) (hc : w.cell? ⟨d, 3, none⟩ = some (.bool down)) :
    Calls Tryz.prog 75 #[.pointer (some ⟨d, 0, none⟩), .string (bs n)] w fun e w' => e = .returned (.int .i64 (askN down n)) ∧ w' = w := by
  have h1 := empty_eq n
  have h2 := bs_size n
  obtain ⟨X, hX⟩ : ∃ X, bs n = X := ⟨_, rfl⟩
  obtain ⟨N, hN⟩ : ∃ N, n.length = N := ⟨_, rfl⟩
  rw [hX, hN] at h1 h2
  rw [hX]
  have hr : askN down n = if down then 8 else if N < 1 ∨ 64 < N then 1 else 0 := by unfold askN; rw [hN]
  rw [hr]
  clear hX hN hr
  cases down
  · by_cases h0 : N = 0
    · have g1 : decide (N = 0) = true := by simp [h0]
      go_enter Tryz.func75, Tryz.ntmps75
      go_wp2
      go_ret
      exact ⟨by simp, rfl⟩
    · have g1 : decide (N = 0) = false := by simp [h0]
      rw [g1] at h1
      by_cases h64 : 64 < N
      · have g2 : decide ((64 : Int) < (N : Int)) = true := by simp; omega
        go_enter Tryz.func75, Tryz.ntmps75
        go_wp2
        go_ret
        exact ⟨rfl, rfl⟩
      · have g2 : decide ((64 : Int) < (N : Int)) = false := by simp; omega
        go_enter Tryz.func75, Tryz.ntmps75
        go_wp2
        go_ret
        exact ⟨rfl, rfl⟩
  · go_enter Tryz.func75, Tryz.ntmps75
    go_wp2
    go_ret
    exact ⟨rfl, rfl⟩
theorem ptr_of (b : Nat) : Value.pointer (some ⟨b, 0, none⟩) = .pointer (some ⟨b, 0, none⟩) := rfl
set_option maxRecDepth 100000 in
theorem find_ask {w : World} {F : Nat → Prop} {d B : Nat} {E : List Ent} {u fuse : Int} {down : Bool} (h : DiskM w F d B E u fuse down) (n : List UInt8) (ha : askN down n ≠ 0) :
    Calls Tryz.prog 49 #[.pointer (some ⟨d, 0, none⟩), .string (bs n)] w fun e w' => e = .returned (.tuple #[.pointer none, .int .i64 (askN down n)]) ∧ w' = w := by
  have hs := Lib.hid (ask_any w d down n (h.self.c 3 rfl))
  clear h
  obtain ⟨a, hA⟩ : ∃ a, askN down n = a := ⟨_, rfl⟩
  rw [hA] at hs ha ⊢
  have h0 : ((a : Int) == 0) = false := by simp; omega
  clear hA ha
  go_enter Tryz.func49, Tryz.ntmps49
  go_wp2_with fail
  refine (hs.out).mono ?_
  rintro e w1 ⟨rfl, rfl⟩
  go_wp2_with fail
  go_ret2
  exact ⟨rfl, rfl⟩
set_option maxRecDepth 100000 in
theorem find_any {w : World} {F : Nat → Prop} {d B : Nat} {E : List Ent} {u fuse : Int} {down : Bool} (h : DiskM w F d B E u fuse down) (n : List UInt8) (ha : askN down n = 0) (hn : n.length ≤ 1000000) :
    Calls Tryz.prog 49 #[.pointer (some ⟨d, 0, none⟩), .string (bs n)] w fun e w' => e = .returned (match getK Ent.k n E with | some e => .tuple #[.pointer (some ⟨e.blk, 0, none⟩), .int .i64 0] | none => .tuple #[.pointer none, .int .i64 6]) ∧ w' = w := by
  have hs := Lib.hid (ask_any w d down n (h.self.c 3 rfl))
  have c0 := h.self.c 0 rfl
  have hl := h.map.look (n := n) (by unfold maxLen; omega)
  clear h
  rw [ha] at hs
  cases hg : getK Ent.k n E with
  | none =>
    rw [hg] at hl
    simp only [Option.isSome_none] at hl
    clear hg ha
    go_enter Tryz.func49, Tryz.ntmps49
    go_wp2_with fail
    refine (hs.out).mono ?_
    rintro e w1 ⟨rfl, rfl⟩
    go_wp2_with fail
    go_ret2
    exact ⟨rfl, rfl⟩
  | some x =>
    rw [hg] at hl
    simp only [Option.isSome_some] at hl
    clear hg ha
    go_enter Tryz.func49, Tryz.ntmps49
    go_wp2_with fail
    refine (hs.out).mono ?_
    rintro e w1 ⟨rfl, rfl⟩
    go_wp2_with fail
    go_ret2
    exact ⟨rfl, rfl⟩
set_option maxRecDepth 100000 in
theorem hold_ask {w : World} {F : Nat → Prop} {d B : Nat} {E : List Ent} {u fuse : Int} {down : Bool} (h : DiskM w F d B E u fuse down) (n : List UInt8) (more : Int) (ha : askN down n ≠ 0) :
    Calls Tryz.prog 70 #[.pointer (some ⟨d, 0, none⟩), .string (bs n), .int .i64 more] w fun e w' => e = .returned (.int .i64 (askN down n)) ∧ w' = w := by
  have hs := Lib.hid (ask_any w d down n (h.self.c 3 rfl))
  clear h
  obtain ⟨a, hA⟩ : ∃ a, askN down n = a := ⟨_, rfl⟩
  rw [hA] at hs ha ⊢
  have h0 : ((a : Int) == 0) = false := by simp; omega
  clear hA ha
  go_enter Tryz.func70, Tryz.ntmps70
  go_wp2_with fail
  refine (hs.out).mono ?_
  rintro e w1 ⟨rfl, rfl⟩
  go_wp2_with fail
  go_ret
  exact ⟨rfl, rfl⟩
set_option maxRecDepth 100000 in
theorem hold_any {w : World} {F : Nat → Prop} {d B : Nat} {E : List Ent} {u : Nat} {fuse : Int} {down : Bool} (h : DiskM w F d B E u fuse down) (hu : u ≤ 4194304) (n : List UInt8) (more : Int) (ha : askN down n = 0) (hn : n.length ≤ 1000000) :
    Calls Tryz.prog 70 #[.pointer (some ⟨d, 0, none⟩), .string (bs n), .int .i64 more] w fun e w' => e = .returned (.int .i64 (if more > 4194304 - (u : Int) ∨ ((getK Ent.k n E).isNone = true ∧ E.length = 4096) then 5 else 0 : Nat)) ∧ w' = w := by
  have hs := Lib.hid (ask_any w d down n (h.self.c 3 rfl))
  have c0 := h.self.c 0 rfl
  have c1 := h.self.c 1 rfl
  have hl := h.map.look (n := n) (by unfold maxLen; omega)
  have hlen : ∀ ty, (Builtin.len_ #[83] ty #[.map (some B)]).run Tryz.prog w = .ok (.int .i64 E.length) w := fun ty => by
    have := World.ownsMap.len h.map Tryz.underlying83 ty
    rwa [size_mapOf] at this
  clear h
  rw [ha] at hs
  obtain ⟨L, hL⟩ : ∃ L, E.length = L := ⟨_, rfl⟩
  rw [hL] at hlen ⊢
  have hl2 : ∃ p, (Instr.lookup 83 (.map (some B)) (.string (bs n)) true).run Tryz.prog w = .ok (.tuple #[.pointer p, .bool (getK Ent.k n E).isSome]) w := by
    rw [hl]; cases getK Ent.k n E <;> exact ⟨_, rfl⟩
  obtain ⟨p, hl3⟩ := hl2
  clear hl
  obtain ⟨G, hG⟩ : ∃ G, (getK Ent.k n E).isSome = G := ⟨_, rfl⟩
  have hN : (getK Ent.k n E).isNone = !G := by rw [← hG]; cases getK Ent.k n E <;> rfl
  rw [hG] at hl3
  rw [hN]
  clear hN hG hL ha
  by_cases hm : more > 4194304 - (u : Int)
  · have g1 : decide (4194304 - (u : Int) < more) = true := by simpa using hm
    rw [if_pos (.inl hm)]
    go_enter Tryz.func70, Tryz.ntmps70
    go_wp2_with fail
    refine (hs.out).mono ?_
    rintro e w1 ⟨rfl, rfl⟩
    go_wp2_with fail
    go_ret
    exact ⟨rfl, rfl⟩
  · have g1 : decide (4194304 - (u : Int) < more) = false := by simpa using hm
    cases G
    · by_cases hL : L = 4096
      · have g2 : ((L : Int) == 4096) = true := by simp; omega
        rw [if_pos (.inr ⟨rfl, hL⟩)]
        clear hL
        go_enter Tryz.func70, Tryz.ntmps70
        go_wp2_with fail
        refine (hs.out).mono ?_
        rintro e w1 ⟨rfl, rfl⟩
        go_wp2_with fail
        go_ret
        exact ⟨rfl, rfl⟩
      · have g2 : ((L : Int) == 4096) = false := by simp; omega
        rw [if_neg (by rintro (h | ⟨_, h⟩); exact hm h; exact hL h)]
        clear hL
        go_enter Tryz.func70, Tryz.ntmps70
        go_wp2_with fail
        refine (hs.out).mono ?_
        rintro e w1 ⟨rfl, rfl⟩
        go_wp2_with fail
        go_ret
        exact ⟨rfl, rfl⟩
    · rw [if_neg (by rintro (h | ⟨h, _⟩); exact hm h; cases h)]
      go_enter Tryz.func70, Tryz.ntmps70
      go_wp2_with fail
      refine (hs.out).mono ?_
      rintro e w1 ⟨rfl, rfl⟩
      go_wp2_with fail
      go_ret
      exact ⟨rfl, rfl⟩
end Go.Proofs.YtghnbkkfghfifaaGreatDoor.D
/- The calls of a disk and of a file that write cells. -/
namespace Go.Proofs.YtghnbkkfghfifaaGreatDoor.D
open Go.RowKit Go.Maps
set_option linter.unusedVariables false
theorem grown_refl (w : World) (row : Option Nat) : w.grownBy w row := ⟨rfl, rfl, rfl, Nat.le_refl _, fun _ _ _ => rfl⟩
theorem grown_drewN {w w' : World} {row : Option Nat} (h : w.grownBy w' row) (n : Nat) : w.grownBy (w'.drewN n) row := ⟨h.os, h.tape, h.output, h.size, h.block⟩
theorem grown_drew {w w' : World} {row : Option Nat} (h : w.grownBy w' row) : w.grownBy w'.drew row := ⟨h.os, h.tape, h.output, h.size, h.block⟩
theorem Blk.drew {w : World} {b : Nat} {cs : List Value} {t : TypeId} (h : Blk w b cs t) : Blk w.drew b cs t := h
theorem Blk.drewN {w : World} {b : Nat} {cs : List Value} {t : TypeId} (h : Blk w b cs t) (n : Nat) : Blk (w.drewN n) b cs t := h
set_option maxRecDepth 100000 in
theorem down_any (w : World) (d : Nat) (down : Bool) (hc : w.cell? ⟨d, 3, none⟩ = some (.bool down)) :
    Calls Tryz.prog 54 #[.pointer (some ⟨d, 0, none⟩)] w fun e w' => e = .returned (.bool down) ∧ w' = w := by
  go_enter Tryz.func54, Tryz.ntmps54
  go_wp2
  go_ret
  exact ⟨rfl, rfl⟩
def armF (n : Int) : Int := max n (-1)
set_option maxRecDepth 100000 in
theorem arm_any {w : World} {F : Nat → Prop} {d B : Nat} {E : List Ent} {u fuse : Int} {down : Bool} (h : DiskM w F d B E u fuse down) (n : Int) :
    Calls Tryz.prog 32 #[.pointer (some ⟨d, 0, none⟩), .int .i64 n] w fun e w' => e = .returned (.tuple #[]) ∧ DiskM w' F d B E u (armF n) down ∧ w.grownBy w' (some d) := by
  have H := Lib.hid h
  have f2 := h.self.f 2
  have c2 := h.self.c 2 rfl
  clear h
  go_enter Tryz.func32, Tryz.ntmps32
  go_wp2_with fail
  go_end0
  exact ⟨rfl, H.out.setFuse _, grownBy_set _ _ _⟩
def burnF (f : Int) : Int := if f = -1 then -1 else if f = 0 then 0 else f - 1
def burnB (f : Int) (down : Bool) : Bool := if f = 0 then true else down
set_option maxRecDepth 100000 in
theorem step_any {w : World} {F : Nat → Prop} {d B : Nat} {E : List Ent} {u fuse : Int} {down : Bool} (h : DiskM w F d B E u fuse down) (hf : -1 ≤ fuse) (hf2 : fuse ≤ 9223372036854775807) :
    Calls Tryz.prog 69 #[.pointer (some ⟨d, 0, none⟩)] w fun e w' => e = .returned (.int .i64 (burnE fuse : Nat)) ∧ DiskM w' F d B E u (burnF fuse) (burnB fuse down) ∧ w.grownBy w' (some d) := by
  have H := Lib.hid h
  have c2 := h.self.c 2 rfl
  have f2 := h.self.f 2
  have c3 := h.self.c 3 rfl
  have f3 := h.self.f 3
  clear h
  by_cases h1 : fuse = -1
  · subst h1
    go_enter Tryz.func69, Tryz.ntmps69
    go_wp2_with fail
    go_ret
    exact ⟨rfl, H.out, grown_refl _ _⟩
  · by_cases h0 : fuse = 0
    · subst h0
      go_enter Tryz.func69, Tryz.ntmps69
      go_wp2_with fail
      go_ret
      exact ⟨rfl, H.out.setDown true, grownBy_set _ _ _⟩
    · have g1 : (fuse == -1) = false := by simp [h1]
      have g0 : (fuse == 0) = false := by simp [h0]
      obtain ⟨f', hf'⟩ : ∃ f', f' = fuse - 1 := ⟨_, rfl⟩
      have e1 : burnF fuse = f' := by unfold burnF; rw [if_neg h1, if_neg h0, hf']
      have e2 : burnB fuse down = down := by unfold burnB; rw [if_neg h0]
      have e3 : burnE fuse = 0 := by unfold burnE; rw [if_neg h0]
      rw [e1, e2, e3]
      subst hf'
      clear e1 e2 e3
      go_enter Tryz.func69, Tryz.ntmps69
      go_wp2_with fail
      go_ret
      exact ⟨rfl, H.out.setFuse _, grownBy_set _ _ _⟩
set_option maxRecDepth 100000 in
theorem last_any {w : World} {b : Nat} {q : Option Addr} {n cap : Nat} {la : Int} {st : Bool} (h : Blk w b [.slice q n cap, .int .i64 la, .bool st] 94) :
    Calls Tryz.prog 62 #[.pointer (some ⟨b, 0, none⟩)] w fun e w' => e = .returned (.tuple #[]) ∧ Blk w' b [.slice q n cap, .int .i64 n, .bool true] 94 ∧ w.grownBy w' (some b) := by
  have H := Lib.hid h
  have c0 := h.c 0 rfl
  have c1 := h.c 1 rfl
  have c2 := h.c 2 rfl
  have f1 := h.f 1
  have f2 := h.f 2
  have R1 : Hid (Blk ((w.setCell ⟨b, 1, none⟩ (.int .i64 n)).setCell ⟨b, 2, none⟩ (.bool true)) b [.slice q n cap, .int .i64 n, .bool true] 94) := Lib.hid ((h.set 1 (.int .i64 n)).set 2 (.bool true))
  have R2 : Hid (w.grownBy ((w.setCell ⟨b, 1, none⟩ (.int .i64 n)).setCell ⟨b, 2, none⟩ (.bool true)) (some b)) := Lib.hid ((grownBy_set w ⟨b, 1, none⟩ (.int .i64 n)).trans (grownBy_set _ ⟨b, 2, none⟩ (.bool true)))
  clear h H
  go_enter Tryz.func62, Tryz.ntmps62
  go_wp2_with fail
  go_end0
  exact ⟨rfl, R1.out, R2.out⟩
set_option maxRecDepth 100000 in
theorem cut_any {w : World} {b : Nat} {q : Option Addr} {n cap la K : Nat} {left : Int} {st : Bool} (h : Blk w b [.slice q n cap, .int .i64 la, .bool st] 94) (hla : la ≤ n) (hcap : n ≤ cap) (hn : n ≤ 1000000000) (hq : q = none → n = 0)
    (hK : K = min left.toNat (n - la)) :
    Calls Tryz.prog 61 #[.pointer (some ⟨b, 0, none⟩), .int .i64 left] w fun e w' => e = .returned (.int .i64 ((n - la - K : Nat))) ∧ Blk w' b [.slice q (la + K : Nat) cap, .int .i64 la, .bool st] 94 ∧ w.grownBy w' (some b) := by
  have H := Lib.hid h
  have c0 := h.c 0 rfl
  have c1 := h.c 1 rfl
  have c2 := h.c 2 rfl
  have f0 := h.f 0
  clear h
  have k1 : min (max left 0) ((n : Int) - (la : Int)) = (K : Int) := by omega
  have k2 : ((n - la - K : Nat) : Int) = (n : Int) - (la : Int) - (K : Int) := by omega
  have k3 : K ≤ n - la := by omega
  rw [k2]
  clear hK k2
  go_enter Tryz.func61, Tryz.ntmps61
  go_wp2_with fail
  go_quiet (fail)
  go_wp2_with fail
  go_region
  go_wp2_with fail
  go_ret
  exact ⟨rfl, (H.out.drewN _).set 0 _, (grown_drewN (grown_refl w _) _).trans (grownBy_set _ _ _)⟩
/-- What a file's bytes are, behind a cut. -/
theorem OwnB.take {w : World} {base n cap : Nat} {q : Option Addr} {l : List UInt8} (h : OwnB w base (.slice q n cap) l) (k : Nat) (hk : k ≤ l.length) : OwnB w base (.slice q k cap) (l.take k) := by
  have hlen : (l.take k).length = k := by rw [List.length_take]; omega
  unfold OwnB
  rw [hlen]
  refine ⟨by rw [u8s_len, hlen]; omega, ?_⟩
  rcases h.2 with ⟨hv, h0⟩ | ⟨g, cap', cur, hv, hb, hg, hc, hm, hs, ht⟩
  · cases hv
    obtain rfl : k = 0 := by omega
    exact .inl ⟨rfl, rfl⟩
  · cases hv
    refine .inr ⟨g, cap, cur, rfl, hb, hg, by omega, hm, hs, ?_⟩
    rw [Nat.mul_one] at ht ⊢
    have : cur.toList.take k = (cur.toList.take l.length).take k := by rw [List.take_take]; congr 1; omega
    rw [this, ht]
    unfold u8s
    rw [List.map_take]
set_option maxRecDepth 100000 in
theorem copied_any {w : World} {v : Value} {l : List UInt8} (hl : l.length ≤ 1000000000) (hv : Seen w w.heap.size v l) :
    Calls Tryz.prog 50 #[v] w fun e w' => ∃ u, e = .returned u ∧ OwnB w' w.heap.size u l ∧ (∃ g, u = .slice (some ⟨g, 0, none⟩) l.length l.length) ∧ Below w.heap.size w w' := by
  obtain ⟨i0, hi, hz0, hz1, hz2⟩ := info_parts info5
  obtain ⟨q, cap, rfl, hcap⟩ := hv.len
  have HV := Lib.hid hv
  clear hv
  obtain ⟨N, hN⟩ : ∃ N, l.length = N := ⟨_, rfl⟩
  rw [hN] at HV hl hcap ⊢
  have Hn := Lib.hid hN
  clear hN
  go_enter Tryz.func50, Tryz.ntmps50
  go_wp2_with (at_make; refine wpList_make_full _ rfl _ _ 38 rfl w.heap.size 5 i0 (.int .u8 0) 1 Tryz.underlying38 hi hz0 hz1 .i64 .i64 _ _ N rfl rfl ?c1 ?c2 ?c3 ?c4 ?c5 ?_)
  case c1 => omega
  case c2 => omega
  case c3 => rw [hz2]; omega
  case c4 => unfold maxLen; omega
  case c5 => exact Nat.le_refl _
  intro w2 hr2 hg2
  have hb2 : Below w.heap.size w w2 := (Below.refl _ w).grown hg2 (Nat.le_refl _) (fun k hk => by cases hk)
  obtain ⟨cur, hcur, hcs⟩ : ∃ cur : Array Value, w2.heap[w.heap.size]? = some (.cells cur 5 (0, 0)) ∧ cur.size = N := by
    rcases hr2.2 with ⟨hv, _⟩ | ⟨g', cap', cur, hv, _, hh, _, _, hc, _⟩
    · cases hv
    · cases hv; exact ⟨cur, hh, by omega⟩
  have HC : Hid (w2.heap[w.heap.size]? = some (.cells cur.toList.toArray 5 (0, 0))) := Lib.hid (by simpa using hcur)
  have hS := HV.out.below hb2 (Nat.le_refl _)
  have hpos : Hid (0 < (u8s l).length → (some ⟨w.heap.size, 0, none⟩ : Option Addr) = some ⟨w.heap.size, 0, none⟩ ∧ ∃ ad, q = some ad ∧ ∀ j v, (u8s l)[j]? = some v → w2.cell? (ad.add j) = some v) := Lib.hid (fun h0 => by
    rw [u8s_len] at h0
    obtain ⟨ad, hq, _, _⟩ := hS.at 0 h0
    refine ⟨rfl, ad, hq, fun j v hj => ?_⟩
    obtain ⟨hjl, rfl⟩ := u8s_of hj
    obtain ⟨ad', hq', _, hc⟩ := hS.at j hjl
    rw [hq] at hq'
    cases hq'
    exact hc)
  have HM : Hid ((u8s l).length = Nat.min N N) := Lib.hid (by rw [u8s_len, Hn.out]; show N = min N N; omega)
  clear hr2 hg2 hcur hS
  go_wp2_with (with_reducible (refine wpList_copy_splice rfl (.tmp 7) (.tmp 8) 38 38 rfl 5 Tryz.underlying38 (by kernel_rfl) _ _ _ _ _ _ rfl rfl w.heap.size 0 cur.toList 5 HC.out (u8s l) HM.out hpos.out ?d1 (u8s_one l) w.heap.size w hb2 (Nat.le_refl _) ?_))
  case d1 => rw [u8s_len, Hn.out]; simp
  intro w3 hg3 hb3
  have hsp : splice cur.toList 0 (u8s l) = u8s l := by
    unfold splice
    rw [List.drop_of_length_le (by rw [u8s_len, Hn.out]; simp [hcs])]
    simp
  have HO : Hid (OwnB w3 w.heap.size (.slice (some ⟨w.heap.size, 0, none⟩) N N) l) := by
    have hh := hg3.out
    rw [hsp] at hh
    unfold Hid OwnB
    rw [Hn.out]
    refine ⟨by rw [u8s_len, Hn.out]; omega, .inr ⟨w.heap.size, N, (u8s l).toArray, rfl, Nat.le_refl _, hh, Nat.le_refl _, by unfold maxLen; omega, ?_, ?_⟩⟩
    · simp [u8s_len, Hn.out]
    · rw [List.take_of_length_le (by simp [u8s_len, Hn.out])]
  clear hsp hg3
  go_wp2_with fail
  go_ret
  exact ⟨_, rfl, HO.out, ⟨_, rfl⟩, hb3⟩
end Go.Proofs.YtghnbkkfghfifaaGreatDoor.D
/- The program's Append. -/
namespace Go.Proofs.YtghnbkkfghfifaaGreatDoor.D
open Go.RowKit Go.Maps
set_option linter.unusedVariables false
/-- A disk in memory that is this disk. -/
def DiskAt (w : World) (F : Nat → Prop) (d : Nat) (k : Dk) : Prop := ∃ B E, DiskM w F d B E (tot k.L : Nat) k.fuse k.down ∧ E.map Ent.f = k.L ∧ Ok k
theorem DiskAt.ok {w : World} {F : Nat → Prop} {d : Nat} {k : Dk} (h : DiskAt w F d k) : Ok k := by obtain ⟨_, _, _, _, ho⟩ := h; exact ho
theorem get_E {E : List Ent} {k : Dk} (hE : E.map Ent.f = k.L) (n : List UInt8) : get n k.L = (getK Ent.k n E).map Ent.f := by
  rw [← hE]
  exact (getK_map (k := Ent.k) (k' := Fl.name) (g := Ent.f) (fun _ => rfl) n E).symm
theorem len_E {E : List Ent} {k : Dk} (hE : E.map Ent.f = k.L) : k.L.length = E.length := by rw [← hE, List.length_map]
theorem ask_E (k : Dk) (n : List UInt8) : ask k n = askN k.down n := rfl
theorem hold_dk {w : World} {F : Nat → Prop} {d : Nat} {k : Dk} (h : DiskAt w F d k) (n : List UInt8) (hn : n.length ≤ 1000000) (more : Int) :
    Calls Tryz.prog 70 #[.pointer (some ⟨d, 0, none⟩), .string (bs n), .int .i64 more] w fun e w' => e = .returned (.int .i64 (mayHold k n more : Nat)) ∧ w' = w := by
  obtain ⟨B, E, hm, hE, hok⟩ := h
  unfold mayHold
  by_cases ha : ask k n = 0
  · rw [if_neg (by simpa using ha)]
    refine (hold_any hm hok.tot n more ha hn).mono ?_
    rintro e w' ⟨rfl, rfl⟩
    refine ⟨?_, rfl⟩
    rw [get_E hE, len_E hE]
    simp
  · rw [if_pos ha]
    exact hold_ask hm n more ha
theorem ask_good {down : Bool} {n : List UInt8} (h : askN down n = 0) : down = false ∧ 1 ≤ n.length ∧ n.length ≤ 64 := by
  unfold askN at h
  cases down
  · by_cases h1 : n.length < 1 ∨ 64 < n.length
    · rw [if_neg (by simp), if_pos h1] at h; cases h
    · refine ⟨rfl, by omega, by omega⟩
  · simp at h
theorem hold_good {k : Dk} {n : List UInt8} {more : Int} (h : mayHold k n more = 0) : askN k.down n = 0 ∧ more ≤ 4194304 - (tot k.L : Int) ∧ (get n k.L = none → k.L.length ≠ 4096) := by
  unfold mayHold at h
  by_cases ha : ask k n = 0
  · rw [if_neg (by simpa using ha)] at h
    split at h
    · cases h
    · rename_i h1
      refine ⟨ha, by omega, fun h2 h3 => h1 (.inr ⟨by rw [h2]; rfl, h3⟩)⟩
  · rw [if_pos ha] at h; exact absurd h ha
theorem wpList_append_loc {ops : Array Oper} {rest : List Oper} {o : Oper} {a : Act} {Q : Exit → Act → World → Prop} {w : World} (hgd : o.guard = none) (s x : Operand)
    (ho : o.op = .call { callee := .builtin .append, args := #[s, x], argTypes := #[38, 38] }) (v : Value) (l : List UInt8) (hs : a.eval s = v) (hown : OwnB w 0 v l) (B : Nat) (xv : Value) (m : List UInt8) (hx : a.eval x = xv) (hsn : Seen w B xv m)
    (hlen : l.length + m.length ≤ 2000000000)
    (h : ∀ v' w', Hid (OwnB w' 0 v' (l ++ m)) → Hid (w.grownBy w' v.ownBlock) → Hid (∀ g, v'.ownBlock = some g → v.ownBlock = some g ∨ w.heap.size ≤ g) → wpList Tryz.prog ops Q rest (a.put o.dst v') w') : wpList Tryz.prog ops Q (o :: rest) a w := by
  obtain ⟨i0, hi, hz0, hz1, hz2⟩ := info_parts info5
  rcases hsn with ⟨rfl, rfl⟩ | ⟨ad, cap, rfl, hc, hg, hh⟩
  · refine wpList_append_own_none hgd s x 38 ho 0 5 i0 1 Tryz.underlying38 hi v l.length (u8s l) hs hown hx ?_
    exact h v w (by rw [List.append_nil]; exact hown) (grown_refl w _) (fun g hg => .inl hg)
  · refine wpList_append_own_at _ hgd s x 38 ho 0 5 i0 (.int .u8 0) 1 1 Tryz.underlying38 hi hz0 hz1 hz2 rfl (by decide) v l.length (u8s l) hs hown ad m.length cap (u8s m) hx (by rw [u8s_len]; omega) (fun j u hu => ?_) (u8s_one m) (by unfold maxLen; omega) (by omega) (Nat.zero_le _) (fun v' w' h1 h2 _ h3 => ?_)
    · obtain ⟨hj, rfl⟩ := u8s_of hu
      exact hh j hj
    · refine h v' w' ?_ h2 (fun g hg => ?_)
      · unfold Hid OwnB
        rw [List.length_append, u8s_app]
        exact h1
      · rcases h3 with h3 | h3
        · exact .inl (by rw [← h3]; exact hg)
        · rw [h3] at hg; cases hg; exact .inr (Nat.le_refl _)
theorem burn_E (k : Dk) : (burn k).fuse = burnF k.fuse ∧ (burn k).down = burnB k.fuse k.down ∧ (burn k).L = k.L := by
  unfold burn burnF burnB
  by_cases h1 : k.fuse = -1
  · rw [if_pos h1, if_pos h1, if_neg (by rw [h1]; decide)]; exact ⟨h1, rfl, rfl⟩
  · rw [if_neg h1, if_neg h1]
    by_cases h0 : k.fuse = 0
    · rw [if_pos h0, if_pos h0, if_pos h0]; exact ⟨h0, rfl, rfl⟩
    · rw [if_neg h0, if_neg h0, if_neg h0]; exact ⟨rfl, rfl, rfl⟩
theorem ok_burn {k : Dk} (h : Ok k) : Ok (burn k) := by
  obtain ⟨h1, h2, h3⟩ := burn_E k
  refine ⟨by rw [h3]; exact h.sorted, by rw [h3]; exact h.names, by rw [h3]; exact h.lasts, by rw [h3]; exact h.tot, by rw [h3]; exact h.len, ?_, ?_⟩
  · rw [h1]; unfold burnF
    have := h.fuse
    split
    · omega
    · split <;> omega
  · rw [h1]; unfold burnF
    have := h.top
    split
    · omega
    · split <;> omega
/-- A step, at the end. -/
theorem step_dk {w : World} {F : Nat → Prop} {d B : Nat} {E : List Ent} {u : Int} {k : Dk} (h : DiskM w F d B E u k.fuse k.down) (hE : E.map Ent.f = k.L) (hu : u = (tot k.L : Nat)) (hok : Ok k) :
    Calls Tryz.prog 69 #[.pointer (some ⟨d, 0, none⟩)] w fun e w' => e = .returned (.int .i64 (burnE k.fuse : Nat)) ∧ DiskAt w' F d (burn k) ∧ w.grownBy w' (some d) := by
  refine (step_any h hok.fuse hok.top).mono ?_
  rintro e w' ⟨rfl, hm, hg⟩
  obtain ⟨h1, h2, h3⟩ := burn_E k
  refine ⟨rfl, ⟨B, E, ?_, by rw [h3]; exact hE, ok_burn hok⟩, hg⟩
  rw [h1, h2, h3, ← hu]
  exact hm
theorem old_some {n : List UInt8} {L : List Fl} {f : Fl} (h : get n L = some f) : old n L = f := by unfold old; rw [h]; rfl
theorem old_none {n : List UInt8} {L : List Fl} (h : get n L = none) : old n L = ⟨n, [], 0, false⟩ := by unfold old; rw [h]; rfl
theorem ok_ins {k : Dk} (h : Ok k) {f : Fl} (h1 : 1 ≤ f.name.length) (h2 : f.name.length ≤ 64) (h3 : f.lasts ≤ f.s.length) (h4 : tot (ins f k.L) ≤ 4194304) (h5 : get f.name k.L = none → k.L.length ≠ 4096) : Ok (withL k (ins f k.L)) := by
  refine ⟨sorted_insK h.sorted, fun g hg => ?_, fun g hg => ?_, h4, ?_, h.fuse, h.top⟩
  · rcases (mem_insK h.sorted).1 hg with rfl | ⟨hg, _⟩
    · exact ⟨h1, h2⟩
    · exact h.names g hg
  · rcases (mem_insK h.sorted).1 hg with rfl | ⟨hg, _⟩
    · exact h3
    · exact h.lasts g hg
  · show (ins f k.L).length ≤ 4096
    cases hg : get f.name k.L with
    | none =>
      have := (insK_new (getK_none hg)).length_eq
      have h6 := h5 hg
      have h7 := h.len
      simp only [List.length_cons] at this
      show (insK Fl.name f k.L).length ≤ 4096
      omega
    | some e =>
      obtain ⟨he, hk⟩ := getK_some hg
      have := insK_old_len h.sorted he hk
      have h7 := h.len
      show (insK Fl.name f k.L).length ≤ 4096
      omega
end Go.Proofs.YtghnbkkfghfifaaGreatDoor.D
/- The program's Append, walked. -/
namespace Go.Proofs.YtghnbkkfghfifaaGreatDoor.D
open Go.RowKit Go.Maps
set_option linter.unusedVariables false
set_option maxRecDepth 100000 in
theorem append_no {w : World} {F : Nat → Prop} {d : Nat} {k : Dk} (h : DiskAt w F d k) (n : List UInt8) (hn : n.length ≤ 1000000) (xv : Value) (b : List UInt8) (Bx : Nat) (hx : Seen w Bx xv b) (hb : b.length ≤ 10000000) (hm : mayHold k n b.length ≠ 0) :
    Calls Tryz.prog 89 #[.pointer (some ⟨d, 0, none⟩), .string (bs n), xv] w fun e w' => e = .returned (.int .i64 (mayHold k n b.length : Nat)) ∧ w' = w := by
  have hs := Lib.hid (hold_dk h n hn b.length)
  obtain ⟨q, cap, rfl, _⟩ := hx.len
  obtain ⟨a, hA⟩ : ∃ a, mayHold k n b.length = a := ⟨_, rfl⟩
  obtain ⟨m, hM⟩ : ∃ m, b.length = m := ⟨_, rfl⟩
  rw [hM] at hA
  rw [hM, hA] at hs hm ⊢
  have h0 : ((a : Int) == 0) = false := by simp; omega
  clear h hx hA hM hm
  go_enter Tryz.func89, Tryz.ntmps89
  go_wp2_with fail
  refine (hs.out).mono ?_
  rintro e w1 ⟨rfl, rfl⟩
  go_wp2_with fail
  go_ret
  exact ⟨rfl, rfl⟩
set_option maxRecDepth 100000 in
theorem append_old {w : World} {F : Nat → Prop} (hF : ∀ i, w.heap.size ≤ i → F i) {d B : Nat} {E : List Ent} {k : Dk} (h : DiskM w F d B E (tot k.L : Nat) k.fuse k.down) (hE : E.map Ent.f = k.L) (hok : Ok k) (n : List UInt8) (hn : n.length ≤ 1000000) (xv : Value) (b : List UInt8) (Bx : Nat) (hx : Seen w Bx xv b) (hb : b.length ≤ 10000000) (hm : mayHold k n b.length = 0)
    (x : Ent) (hg : getK Ent.k n E = some x) :
    Calls Tryz.prog 89 #[.pointer (some ⟨d, 0, none⟩), .string (bs n), xv] w fun e w' => e = .returned (.int .i64 (appendE k n b : Nat)) ∧ DiskAt w' F d (appendD k n b) ∧ Kept F w w' := by
  obtain ⟨hxm, hxk⟩ := getK_some hg
  have hgf : get n k.L = some x.f := by rw [get_E hE, hg]; rfl
  have hold := hold_dk ⟨B, E, h, hE, hok⟩ n hn b.length
  rw [hm] at hold
  have hs := Lib.hid hold
  have hEa : appendE k n b = burnE k.fuse := by unfold appendE; rw [if_neg (by rw [hm]; simp)]
  have hDa : appendD k n b = burn (withL k (ins (addF x.f b) k.L)) := by unfold appendD; rw [if_neg (by rw [hm]; simp), old_some hgf]
  rw [hEa, hDa]
  obtain ⟨hg1, hg2, hg3⟩ := hold_good hm
  obtain ⟨_, hn1, hn2⟩ := ask_good hg1
  have hxf := tot_mem (getK_some hgf).1
  have htot := hok.tot
  have hxe := h.each x hxm
  obtain ⟨E', hE'⟩ : ∃ E', E' = insK Ent.k ⟨(addF x.f b), x.blk, x.v⟩ E := ⟨_, rfl⟩
  have hname : x.f.name = n := hxk
  have htn : tot (ins (addF x.f b) k.L) = tot k.L + b.length := by
    have := tot_ins_old (f := (addF x.f b)) hok.sorted (getK_some hgf).1 rfl
    have e : (addF x.f b).s.length = x.f.s.length + b.length := List.length_append
    omega
  have hok' : Ok (withL k (ins (addF x.f b) k.L)) := ok_ins hok (by show 1 ≤ x.f.name.length; rw [hname]; exact hn1) (by show x.f.name.length ≤ 64; rw [hname]; exact hn2) (by
    have := hok.lasts x.f (getK_some hgf).1
    show x.f.lasts ≤ (x.f.s ++ b).length
    rw [List.length_append]; omega) (by rw [htn]; omega) (by show get x.f.name k.L = none → _; rw [hname, hgf]; intro h; cases h)
  have hlook := h.map.look (n := n) (by unfold maxLen; omega)
  rw [hg] at hlook
  simp only [Option.isSome_some] at hlook
  obtain ⟨q, cap, rfl, _⟩ := hx.len
  obtain ⟨q1, cap1, hv1⟩ := hxe.row.len
  obtain ⟨bk, hbk⟩ : ∃ bk, x.blk = bk := ⟨_, rfl⟩
  obtain ⟨xvv, hxvv⟩ : ∃ y, x.v = y := ⟨_, rfl⟩
  have hcell := hxe.cells
  have hrow := hxe.row
  rw [hbk] at hlook
  rw [hbk, hxvv] at hcell
  rw [hxvv] at hrow
  have hne : d ≠ bk := h.self.ne hcell (by decide)
  have c0 := h.self.c 0 rfl
  have c1 := h.self.c 1 rfl
  have e0 := hcell.c 0 rfl
  have ef0 := hcell.f 0
  have HX := Lib.hid hx
  have HROW := Lib.hid hrow
  have HLEN : Hid (x.f.s.length + b.length ≤ 2000000000) := Lib.hid (by omega)
  have HH := Lib.hid h
  have HC := Lib.hid hcell
  have HTN := Lib.hid htn
  have HOK := Lib.hid hok'
  have HT : Hid (tot k.L + b.length ≤ 4194304) := Lib.hid (by omega)
  clear hx hrow h hcell htn hok' hxe htot hxf hg1 hg3 hok hm hold hE' hv1 hEa hDa
  go_enter Tryz.func89, Tryz.ntmps89
  go_wp2_with fail
  refine (hs.out).mono ?_
  rintro e w1 ⟨rfl, rfl⟩
  go_wp2_with (at_builtin; refine wpList_append_loc rfl (.tmp 41) (.tmp 42) rfl xvv x.f.s rfl HROW.out Bx _ b rfl HX.out HLEN.out ?_)
  intro v' w2 ho hgr hloc
  obtain ⟨q2, cap2, hv2⟩ := ho.out.len
  have hc2 := HC.out.kept hgr.out (fun e => own_ne HROW.out HC.out (by decide) e.symm)
  have hs2 := HH.out.self.kept hgr.out (fun e => own_ne HROW.out HH.out.self (by decide) e.symm)
  have hk2 := ((Kept.refl (fun i => i = bk ∨ xvv.ownBlock = some i) w1).grown hgr.out (fun j hj => .inr (.inr hj))).set ⟨bk, 0, none⟩ v' (.inr (.inl rfl))
  have hx2 : EntM (w2.setCell ⟨bk, 0, none⟩ v') F ⟨addF x.f b, bk, v'⟩ := ⟨hc2.set 0 v', World.ownsRow.kept ho.out (grownBy_set w2 ⟨bk, 0, none⟩ v') (by
      cases hvo : v'.ownBlock with
      | none => exact .inl rfl
      | some g => exact .inr (fun e => own_ne ho.out hc2 (by decide) (by rw [hvo, e]))), hbk ▸ (HH.out.each x hxm).fb, fun g hg' => by
    rcases hloc.out g hg' with h1 | h1
    · exact (HH.out.each x hxm).fr g (by rw [hxvv]; exact h1)
    · exact hF g h1⟩
  have hd2 := HH.out.renew (x := ⟨addF x.f b, bk, v'⟩) hxm rfl hbk.symm (by rw [hbk, hxvv]; exact hk2) hx2 (by rw [hxvv]; exact hloc.out)
  have hk3 : Kept F w1 (w2.setCell ⟨bk, 0, none⟩ v') := hk2.mono (fun i hi => by
    rcases hi with rfl | hi
    · exact hbk ▸ (HH.out.each x hxm).fb
    · exact (HH.out.each x hxm).fr i (by rw [hxvv]; exact hi))
  have hfd := HH.out.fd
  have hf0 := hc2.f 0
  have hf1 := hs2.f 1
  have hcc0 := hc2.c 0 rfl
  have hcc1 := hs2.c 1 rfl
  have HD2 := Lib.hid hd2
  have HK3 := Lib.hid hk3
  obtain ⟨m2, hm2⟩ : ∃ m2, (x.f.s ++ b).length = m2 := ⟨_, rfl⟩
  rw [hm2] at hv2
  subst hv2
  have hneF : (d = bk) = False := by simp [hne]
  have hneF' : (bk = d) = False := by simp [Ne.symm hne]
  clear hd2 hk3 hx2 hk2 hs2 hc2 hgr hloc ho
  have hEE : Hid ((insK Ent.k ⟨addF x.f b, bk, .slice q2 m2 cap2⟩ E).map Ent.f = (withL k (ins (addF x.f b) k.L)).L) := Lib.hid (by
    rw [insK_map (k := Ent.k) (k' := Fl.name) (g := Ent.f) (fun _ => rfl), hE]; rfl)
  have hUU : Hid (((tot k.L : Nat) : Int) + (b.length : Int) = ((tot (withL k (ins (addF x.f b) k.L)).L : Nat) : Int)) := Lib.hid (by
    have := HTN.out
    show _ = ((tot (ins (addF x.f b) k.L) : Nat) : Int)
    omega)
  go_wp2_with fail
  refine (step_dk (k := withL k (ins (addF x.f b) k.L)) (HD2.out.setUsed _) hEE.out hUU.out HOK.out).mono ?_
  rintro e w3 ⟨rfl, hD, hg3⟩
  have HDD := Lib.hid hD
  have HKK := Lib.hid (HK3.out.grown ((grownBy_set _ ⟨d, 1, none⟩ _).trans hg3) (fun j hj => by cases hj; exact .inr hfd))
  clear hD hg3
  go_wp2_with fail
  go_ret
  exact ⟨rfl, HDD.out, HKK.out⟩
end Go.Proofs.YtghnbkkfghfifaaGreatDoor.D
/- The program's Append where the file isn't there; Append, whatever there is. -/
namespace Go.Proofs.YtghnbkkfghfifaaGreatDoor.D
open Go.RowKit Go.Maps
set_option linter.unusedVariables false
theorem insK_insK {α : Type} {k : α → List UInt8} {x y : α} (h : k x = k y) : ∀ l : List α, insK k y (insK k x l) = insK k y l
  | [] => by
    show (if k y < k x then _ else if k y = k x then _ else _) = _
    rw [if_neg (by rw [h]; exact lt_irr _), if_pos h.symm]; rfl
  | z :: r => by
    by_cases h1 : k x < k z
    · have e : insK k x (z :: r) = x :: z :: r := by simp only [insK, if_pos h1]
      rw [e]
      show (if k y < k x then _ else if k y = k x then _ else _) = (if k y < k z then _ else _)
      rw [if_neg (by rw [h]; exact lt_irr _), if_pos h.symm, if_pos (h ▸ h1)]
    · by_cases h2 : k x = k z
      · have e : insK k x (z :: r) = x :: r := by simp only [insK, if_neg h1, if_pos h2]
        rw [e]
        show (if k y < k x then _ else if k y = k x then _ else _) = (if k y < k z then _ else if k y = k z then _ else _)
        rw [if_neg (by rw [h]; exact lt_irr _), if_pos h.symm, if_neg (h ▸ h1), if_pos (h ▸ h2)]
      · have e : insK k x (z :: r) = z :: insK k x r := by simp only [insK, if_neg h1, if_neg h2]
        rw [e]
        show (if k y < k z then _ else if k y = k z then _ else _) = (if k y < k z then _ else if k y = k z then _ else _)
        rw [if_neg (h ▸ h1), if_neg (h ▸ h2), if_neg (h ▸ h1), if_neg (h ▸ h2), insK_insK h r]
/-- A disk in memory, when a file's bytes have been appended to, and its first cell is written. -/
theorem append_mem {w w2 : World} {F : Nat → Prop} (hF : ∀ i, w.heap.size ≤ i → F i) {d B : Nat} {E : List Ent} {u fuse : Int} {down : Bool} (h : DiskM w F d B E u fuse down) {xf : Fl} {xb : Nat} {xv : Value} (hxm : (⟨xf, xb, xv⟩ : Ent) ∈ E) {v' : Value} {b : List UInt8}
    (ho : OwnB w2 0 v' (xf.s ++ b)) (hgr : w.grownBy w2 xv.ownBlock) (hloc : ∀ g, v'.ownBlock = some g → xv.ownBlock = some g ∨ w.heap.size ≤ g) :
    DiskM (w2.setCell ⟨xb, 0, none⟩ v') F d B (insK Ent.k ⟨addF xf b, xb, v'⟩ E) u fuse down ∧ Kept F w (w2.setCell ⟨xb, 0, none⟩ v') ∧ Blk w2 xb [xv, .int .i64 xf.lasts, .bool xf.stays] 94 ∧ Blk w2 d [.map (some B), .int .i64 u, .int .i64 fuse, .bool down] 85 ∧ d ≠ xb := by
  have hx := h.each _ hxm
  have hc2 := hx.cells.kept hgr (fun e => own_ne hx.row hx.cells (by decide) e.symm)
  have hs2 := h.self.kept hgr (fun e => own_ne hx.row h.self (by decide) e.symm)
  have hk2 := ((Kept.refl (fun i => i = xb ∨ xv.ownBlock = some i) w).grown hgr (fun j hj => .inr (.inr hj))).set ⟨xb, 0, none⟩ v' (.inr (.inl rfl))
  have hx2 : EntM (w2.setCell ⟨xb, 0, none⟩ v') F ⟨addF xf b, xb, v'⟩ := ⟨hc2.set 0 v', World.ownsRow.kept ho (grownBy_set w2 ⟨xb, 0, none⟩ v') (by
      cases hvo : v'.ownBlock with
      | none => exact .inl rfl
      | some g => exact .inr (fun e => own_ne ho hc2 (by decide) (by rw [hvo, e]))), hx.fb, fun g hg' => by
    rcases hloc g hg' with h1 | h1
    · exact hx.fr g h1
    · exact hF g h1⟩
  refine ⟨h.renew (x := ⟨addF xf b, xb, v'⟩) hxm rfl rfl hk2 hx2 hloc, hk2.mono (fun i hi => ?_), hc2, hs2, h.self.ne hx.cells (by decide)⟩
  rcases hi with rfl | hi
  · exact hx.fb
  · exact hx.fr i hi
theorem Seen.keptM {w w' : World} {b B : Nat} {v : Value} {l : List UInt8} {E : List Ent} (h : Seen w b v l) (hm : DMap w B E) (hg : w.grownBy w' (some B)) : Seen w' b v l := by
  rcases h with h | ⟨ad, cap, hv, hc, hb, hh⟩
  · exact .inl h
  · refine .inr ⟨ad, cap, hv, hc, hb, fun j hj => ?_⟩
    have h1 := hh j hj
    have h2 : ∃ cs t fr, w.heap[(ad.add j).block]? = some (.cells cs t fr) := by
      unfold World.cell? at h1
      split at h1
      · rename_i c t fr heq
        exact ⟨c, t, fr, heq⟩
      · cases h1
    obtain ⟨cs, t, fr, h2⟩ := h2
    rw [World.cell?_of_block (w := w) (a := ad.add j) (hg.block _ (lt_of_block h2) (fun e => hm.notCells h2 (Option.some.inj e)))]
    exact h1
set_option maxRecDepth 100000 in
set_option maxHeartbeats 1000000 in
theorem append_new {w : World} {F : Nat → Prop} (hF : ∀ i, w.heap.size ≤ i → F i) {d B : Nat} {E : List Ent} {k : Dk} (h : DiskM w F d B E (tot k.L : Nat) k.fuse k.down) (hE : E.map Ent.f = k.L) (hok : Ok k) (n : List UInt8) (hn : n.length ≤ 1000000) (xv : Value) (b : List UInt8) (Bx : Nat) (hx : Seen w Bx xv b) (hBx : Bx ≤ w.heap.size) (hb : b.length ≤ 10000000) (hm : mayHold k n b.length = 0)
    (hg : getK Ent.k n E = none) :
    Calls Tryz.prog 89 #[.pointer (some ⟨d, 0, none⟩), .string (bs n), xv] w fun e w' => e = .returned (.int .i64 (appendE k n b : Nat)) ∧ DiskAt w' F d (appendD k n b) ∧ Kept F w w' := by
  have hgf : get n k.L = none := by rw [get_E hE, hg]; rfl
  have hold := hold_dk ⟨B, E, h, hE, hok⟩ n hn b.length
  rw [hm] at hold
  have hs := Lib.hid hold
  have hEa : appendE k n b = burnE k.fuse := by unfold appendE; rw [if_neg (by rw [hm]; simp)]
  have hDa : appendD k n b = burn (withL k (ins (addF ⟨n, [], 0, false⟩ b) k.L)) := by unfold appendD; rw [if_neg (by rw [hm]; simp), old_none hgf]
  rw [hEa, hDa]
  obtain ⟨hg1, hg2, hg3⟩ := hold_good hm
  obtain ⟨_, hn1, hn2⟩ := ask_good hg1
  have htot := hok.tot
  have htn : tot (ins (addF ⟨n, [], 0, false⟩ b) k.L) = tot k.L + b.length := by
    rw [tot_ins_new (by exact hgf)]
    simp [addF]
  have hok' : Ok (withL k (ins (addF ⟨n, [], 0, false⟩ b) k.L)) := ok_ins hok hn1 hn2 (Nat.zero_le _) (by rw [htn]; omega) (fun _ => hg3 hgf)
  have hlook := h.map.look (n := n) (by unfold maxLen; omega)
  rw [hg] at hlook
  simp only [Option.isSome_none] at hlook
  obtain ⟨q, cap, rfl, _⟩ := hx.len
  obtain ⟨nb, hnb⟩ : ∃ nb, w.heap.size = nb := ⟨_, rfl⟩
  have hdl := h.self.lt
  have hne : d ≠ nb := by omega
  have c0 := h.self.c 0 rfl
  have c1 := h.self.c 1 rfl
  have hkey := key9 (n := n) (by unfold maxLen; omega)
  have hEl : E.length ≤ 4096 := by rw [← len_E hE]; exact hok.len
  have HX := Lib.hid hx
  have HBX := Lib.hid hBx
  have HH := Lib.hid h
  have HTN := Lib.hid htn
  have HOK := Lib.hid hok'
  have HT : Hid (tot k.L + b.length ≤ 4194304) := Lib.hid (by omega)
  have HF := Lib.hid hF
  have hA := h.alloc (.cells #[.slice none 0 0, .int .i64 0, .bool false] 94)
  have c0' := hA.self.c 0 rfl
  have HA := Lib.hid hA
  have hmap := (h.alloc (.cells #[.slice none 0 0, .int .i64 0, .bool false] 94)).map
  have hneF : (d = nb) = False := by simp [hne]
  have hneF' : (nb = d) = False := by simp [Ne.symm hne]
  clear hx h htn hok' htot hg1 hg3 hok hm hold hEa hDa hF hBx hne hA
  go_enter Tryz.func89, Tryz.ntmps89
  go_wp2_with fail
  refine (hs.out).mono ?_
  rintro e w1 ⟨rfl, rfl⟩
  go_wp2_with (at_mapUpdate; refine wpList_mapUpdate_own _ rfl _ _ _ 83 rfl 9 89 law9 Tryz.underlying83 relem B E.length (mapOf E) rfl hmap (by unfold maxLen; omega) _ _ (.string n) rfl rfl hkey (.lit (.int .i64 nb)) [] ?c1 ?_)
  case c1 => rfl
  intro w2 hown2 hgr2
  have hxA : EntM (w1.alloc (.cells #[.slice none 0 0, .int .i64 0, .bool false] 94)) F ⟨⟨n, [], 0, false⟩, nb, .slice none 0 0⟩ :=
    ⟨Blk.at hnb.symm [_, _, _] 94, OwnB.nil _ _, HF.out _ (by show w1.heap.size ≤ nb; omega), fun g hg' => by cases hg'⟩
  have hput := HA.out.put (x := ⟨⟨n, [], 0, false⟩, nb, .slice none 0 0⟩) hxA hgr2 hown2 (fun y hy _ => ⟨by
    have := (HH.out.each y hy).cells.lt
    show nb ≠ y.blk
    omega, fun g hg' => by cases hg'⟩)
  have hsx := (HX.out.below ((Below.refl w1.heap.size w1).alloc (Nat.le_refl _) (.cells #[.slice none 0 0, .int .i64 0, .bool false] 94)) HBX.out).keptM hmap hgr2
  have hkA : Kept F w1 w2 := ((Kept.refl F w1).alloc _).grown hgr2 (fun j hj => by cases hj; exact .inr HH.out.fB)
  have hmem : (⟨⟨n, [], 0, false⟩, nb, .slice none 0 0⟩ : Ent) ∈ insK Ent.k ⟨⟨n, [], 0, false⟩, nb, .slice none 0 0⟩ E := (mem_insK HH.out.sorted).2 (.inl rfl)
  have hF2 : ∀ i, w2.heap.size ≤ i → F i := fun i hi => HF.out i (by have := hkA.size; omega)
  have HSX := Lib.hid hsx
  have HP := Lib.hid hput
  have HKA := Lib.hid hkA
  have HMEM := Lib.hid hmem
  have HF2 := Lib.hid hF2
  have HROW := Lib.hid (OwnB.nil w2 0)
  have e0 := (hput.each _ hmem).cells.c 0 rfl
  have ef0 := (hput.each _ hmem).cells.f 0
  have d0 := hput.self.c 0 rfl
  have d1 := hput.self.c 1 rfl
  have HLEN : Hid (([] : List UInt8).length + b.length ≤ 2000000000) := Lib.hid (by simp; omega)
  clear hput hsx hkA hmem hF2 hxA hown2 hgr2 HA hmap c0' c0 c1 hlook hs hdl hnb
  go_wp2_with (at_builtin; refine wpList_append_loc rfl (.tmp 41) (.tmp 42) rfl (.slice none 0 0) [] rfl HROW.out Bx _ b rfl HSX.out HLEN.out ?_)
  intro v' w3 ho hgr hloc
  obtain ⟨q2, cap2, hv2⟩ := ho.out.len
  obtain ⟨a1, a2, a3, a4, a5⟩ := append_mem HF2.out HP.out HMEM.out (b := b) ho.out hgr.out hloc.out
  have hf0 := a3.f 0
  have hf1 := a4.f 1
  have hcc0 := a3.c 0 rfl
  have hcc1 := a4.c 1 rfl
  have HD2 := Lib.hid a1
  have HK3 := Lib.hid (HKA.out.trans a2)
  have hfd := HP.out.fd
  obtain ⟨m2, hm2⟩ : ∃ m2, b.length = m2 := ⟨_, rfl⟩
  have hv2' : v' = .slice q2 m2 cap2 := by rw [hv2, ← hm2]
  have Hm2 := Lib.hid hm2
  clear hv2 hm2
  subst hv2'
  clear a1 a2 a3 a4 a5 e0 ef0 d0 d1 hgr hloc ho
  have hEE : Hid ((insK Ent.k ⟨addF ⟨n, [], 0, false⟩ b, nb, .slice q2 m2 cap2⟩ (insK Ent.k ⟨⟨n, [], 0, false⟩, nb, .slice none 0 0⟩ E)).map Ent.f = (withL k (ins (addF ⟨n, [], 0, false⟩ b) k.L)).L) := Lib.hid (by
    rw [insK_insK (by rfl), insK_map (k := Ent.k) (k' := Fl.name) (g := Ent.f) (fun _ => rfl), hE]; rfl)
  have hUU : Hid (((tot k.L : Nat) : Int) + (b.length : Int) = ((tot (withL k (ins (addF ⟨n, [], 0, false⟩ b) k.L)).L : Nat) : Int)) := Lib.hid (by
    have := HTN.out
    show _ = ((tot (ins (addF ⟨n, [], 0, false⟩ b) k.L) : Nat) : Int)
    omega)
  go_wp2_with fail
  refine (step_dk (k := withL k (ins (addF ⟨n, [], 0, false⟩ b) k.L)) (HD2.out.setUsed _) hEE.out hUU.out HOK.out).mono ?_
  rintro e w4 ⟨rfl, hD, hg3⟩
  have HDD := Lib.hid hD
  have HKK := Lib.hid (HK3.out.grown ((grownBy_set _ ⟨d, 1, none⟩ _).trans hg3) (fun j hj => by cases hj; exact .inr hfd))
  clear hD hg3
  go_wp2_with fail
  go_ret
  exact ⟨rfl, HDD.out, HKK.out⟩
/-- Append, whatever there is. -/
theorem append_any {w : World} {F : Nat → Prop} (hF : ∀ i, w.heap.size ≤ i → F i) {d : Nat} {k : Dk} (h : DiskAt w F d k) (n : List UInt8) (hn : n.length ≤ 1000000) (xv : Value) (b : List UInt8) (Bx : Nat) (hx : Seen w Bx xv b) (hBx : Bx ≤ w.heap.size) (hb : b.length ≤ 10000000) :
    Calls Tryz.prog 89 #[.pointer (some ⟨d, 0, none⟩), .string (bs n), xv] w fun e w' => e = .returned (.int .i64 (appendE k n b : Nat)) ∧ DiskAt w' F d (appendD k n b) ∧ Kept F w w' := by
  by_cases hm : mayHold k n b.length = 0
  · obtain ⟨B, E, hd, hE, hok⟩ := h
    cases hg : getK Ent.k n E with
    | none => exact append_new hF hd hE hok n hn xv b Bx hx hBx hb hm hg
    | some x => exact append_old hF hd hE hok n hn xv b Bx hx hb hm x hg
  · refine (append_no h n hn xv b Bx hx hb hm).mono ?_
    rintro e w' ⟨rfl, rfl⟩
    refine ⟨by unfold appendE; rw [if_pos hm], ?_, Kept.refl _ _⟩
    unfold appendD
    rw [if_pos hm]
    exact h
end Go.Proofs.YtghnbkkfghfifaaGreatDoor.D
/- The program's Sync, Read, Remove. -/
namespace Go.Proofs.YtghnbkkfghfifaaGreatDoor.D
open Go.RowKit Go.Maps
set_option linter.unusedVariables false
theorem find_zero {k : Dk} {n : List UInt8} (h : find k n = 0) : askN k.down n = 0 ∧ ∃ f, get n k.L = some f := by
  unfold find at h
  by_cases ha : ask k n = 0
  · rw [if_neg (by simpa using ha)] at h
    cases hg : get n k.L with
    | none => rw [hg] at h; simp at h
    | some f => exact ⟨ha, f, rfl⟩
  · rw [if_pos ha] at h; exact absurd h ha
theorem find_no {w : World} {F : Nat → Prop} {d : Nat} {k : Dk} (h : DiskAt w F d k) (n : List UInt8) (hn : n.length ≤ 1000000) (hf : find k n ≠ 0) :
    Calls Tryz.prog 49 #[.pointer (some ⟨d, 0, none⟩), .string (bs n)] w fun e w' => e = .returned (.tuple #[.pointer none, .int .i64 (find k n : Nat)]) ∧ w' = w := by
  obtain ⟨B, E, hm, hE, hok⟩ := h
  unfold find at hf ⊢
  by_cases ha : ask k n = 0
  · rw [if_neg (by simpa using ha)] at hf ⊢
    have hg : getK Ent.k n E = none := by
      rw [get_E hE] at hf
      cases hg : getK Ent.k n E with
      | none => rfl
      | some e => rw [hg] at hf; simp at hf
    refine (find_any hm n ha hn).mono ?_
    rw [get_E hE, hg]
    exact fun e w' h => h
  · rw [if_pos ha]
    exact find_ask hm n ha
theorem find_yes {w : World} {F : Nat → Prop} {d B : Nat} {E : List Ent} {k : Dk} {u fuse : Int} (hm : DiskM w F d B E u fuse k.down) (n : List UInt8) (hn : n.length ≤ 1000000) (ha : askN k.down n = 0) {x : Ent} (hg : getK Ent.k n E = some x) :
    Calls Tryz.prog 49 #[.pointer (some ⟨d, 0, none⟩), .string (bs n)] w fun e w' => e = .returned (.tuple #[.pointer (some ⟨x.blk, 0, none⟩), .int .i64 0]) ∧ w' = w := by
  refine (find_any hm n ha hn).mono ?_
  rw [hg]
  exact fun e w' h => h
theorem burn_at {w : World} {F : Nat → Prop} {d B : Nat} {E : List Ent} {u : Int} {k : Dk} (hm : DiskM w F d B E u (burnF k.fuse) (burnB k.fuse k.down)) (hE : E.map Ent.f = k.L) (hu : u = (tot k.L : Nat)) (hok : Ok k) : DiskAt w F d (burn k) := by
  obtain ⟨h1, h2, h3⟩ := burn_E k
  refine ⟨B, E, ?_, by rw [h3]; exact hE, ok_burn hok⟩
  rw [h1, h2, h3, ← hu]
  exact hm
/-- A file of which all bytes last. -/
theorem last_mem {w w' : World} {F : Nat → Prop} {d B : Nat} {E : List Ent} {u fuse : Int} {down : Bool} (h : DiskM w F d B E u fuse down) {xf : Fl} {xb : Nat} {xv : Value} (hxm : (⟨xf, xb, xv⟩ : Ent) ∈ E)
    (hb : Blk w' xb [xv, .int .i64 (xf.s.length : Nat), .bool true] 94) (hg : w.grownBy w' (some xb)) : DiskM w' F d B (insK Ent.k ⟨lastF xf, xb, xv⟩ E) u fuse down ∧ Kept F w w' := by
  have hx := h.each _ hxm
  have hne : ∀ g, xv.ownBlock = some g → g ≠ xb := fun g hg' e => own_ne hx.row hx.cells (by decide) (by rw [← e]; exact hg')
  refine ⟨h.renew (x := ⟨lastF xf, xb, xv⟩) hxm rfl rfl ((Kept.refl _ w).grown hg (fun j hj => by cases hj; exact .inr (.inl rfl))) ⟨hb, World.ownsRow.kept hx.row hg (by
      cases hv : xv.ownBlock with
      | none => exact .inl rfl
      | some g => exact .inr (fun e => hne g hv (Option.some.inj e))), hx.fb, hx.fr⟩ (fun g hg' => .inl hg'), (Kept.refl F w).grown hg (fun j hj => by cases hj; exact .inr hx.fb)⟩
theorem ok_last {k : Dk} (hok : Ok k) {n : List UInt8} {f : Fl} (hg : get n k.L = some f) (h1 : 1 ≤ n.length) (h2 : n.length ≤ 64) : Ok (withL k (ins (lastF f) k.L)) ∧ tot (ins (lastF f) k.L) = tot k.L := by
  obtain ⟨hf, hk⟩ := getK_some hg
  have e := tot_ins_old (f := lastF f) hok.sorted hf rfl
  have e' : tot (ins (lastF f) k.L) = tot k.L := by
    have : (lastF f).s.length = f.s.length := rfl
    omega
  refine ⟨ok_ins hok (by show 1 ≤ f.name.length; rw [hk]; exact h1) (by show f.name.length ≤ 64; rw [hk]; exact h2) (Nat.le_refl _) (by rw [e']; exact hok.tot) (fun hn => ?_), e'⟩
  have : get f.name k.L = some f := getK_mem hok.sorted hf
  rw [show (lastF f).name = f.name from rfl, this] at hn
  cases hn
theorem insE {E : List Ent} {L : List Fl} (hE : E.map Ent.f = L) (x : Ent) : (insK Ent.k x E).map Ent.f = ins x.f L := by
  rw [insK_map (k := Ent.k) (k' := Fl.name) (g := Ent.f) (fun _ => rfl), hE]
set_option maxRecDepth 100000 in
theorem sync_any {w : World} {F : Nat → Prop} {d : Nat} {k : Dk} (h : DiskAt w F d k) (n : List UInt8) (hn : n.length ≤ 1000000) :
    Calls Tryz.prog 67 #[.pointer (some ⟨d, 0, none⟩), .string (bs n)] w fun e w' => e = .returned (.int .i64 (syncE k n : Nat)) ∧ DiskAt w' F d (syncD k n) ∧ Kept F w w' := by
  unfold syncE syncD
  by_cases hf : find k n = 0
  · rw [if_neg (by simpa using hf), if_neg (by simpa using hf)]
    obtain ⟨B, E, hm, hE, hok⟩ := h
    obtain ⟨ha, f, hgf⟩ := find_zero hf
    obtain ⟨_, hn1, hn2⟩ := ask_good ha
    have hgE := hgf
    rw [get_E hE] at hgE
    cases hg : getK Ent.k n E with
    | none => rw [hg] at hgE; cases hgE
    | some x =>
      rw [hg] at hgE
      obtain ⟨xf, xb, xv⟩ := x
      cases hgE
      have hs1 := Lib.hid (find_yes hm n hn ha hg)
      have hs2 := Lib.hid (step_any hm hok.fuse hok.top)
      have hxm := (getK_some hg).1
      obtain ⟨hok', htot⟩ := ok_last hok hgf hn1 hn2
      obtain ⟨q, cap, hxv⟩ := (hm.each _ hxm).row.len
      simp only at hxv
      obtain ⟨N, hN⟩ : ∃ N, xf.s.length = N := ⟨_, rfl⟩
      rw [hN] at hxv
      subst hxv
      have HM := Lib.hid hm
      have HE := Lib.hid hE
      have HX := Lib.hid hxm
      have HOK := Lib.hid hok
      have HOK' := Lib.hid hok'
      have HT := Lib.hid htot
      have HN := Lib.hid hN
      rw [old_some hgf]
      clear hm hE hxm hok hok' htot hN ha hf hg
      by_cases h0 : k.fuse = 0
      · have hb : burnE k.fuse = 8 := by unfold burnE; rw [if_pos h0]
        rw [if_pos h0, hb]
        rw [hb] at hs2
        have HB : Hid (∀ w', DiskM w' F d B E (tot k.L : Nat) (burnF k.fuse) (burnB k.fuse k.down) → DiskAt w' F d (burn k)) := Lib.hid (fun w' hm' => burn_at hm' HE.out rfl HOK.out)
        clear hb h0
        go_enter Tryz.func67, Tryz.ntmps67
        go_wp2_with fail
        refine (hs1.out).mono ?_
        rintro e w1 ⟨rfl, rfl⟩
        go_wp2_with fail
        refine (hs2.out).mono ?_
        rintro e w2 ⟨rfl, hm2, hg2⟩
        have HD := Lib.hid (HB.out _ hm2)
        have HK := Lib.hid ((Kept.refl F w1).grown hg2 (fun j hj => by cases hj; exact .inr HM.out.fd))
        clear hm2 hg2
        go_wp2_with fail
        go_ret
        exact ⟨rfl, HD.out, HK.out⟩
      · have hb : burnE k.fuse = 0 := by unfold burnE; rw [if_neg h0]
        rw [if_neg h0, hb]
        rw [hb] at hs2
        clear hb h0
        go_enter Tryz.func67, Tryz.ntmps67
        go_wp2_with fail
        refine (hs1.out).mono ?_
        rintro e w1 ⟨rfl, rfl⟩
        go_wp2_with fail
        refine (hs2.out).mono ?_
        rintro e w2 ⟨rfl, hm2, hg2⟩
        have HM2 := Lib.hid hm2
        have HK := Lib.hid ((Kept.refl F w1).grown hg2 (fun j hj => by cases hj; exact .inr HM.out.fd))
        have HL := Lib.hid (last_any (hm2.each _ HX.out).cells)
        clear hm2 hg2
        go_wp2_with fail
        refine (HL.out).mono ?_
        rintro e w3 ⟨rfl, hb3, hg3⟩
        have hh := last_mem HM2.out HX.out (by rw [HN.out]; exact hb3) hg3
        have HD : Hid (DiskAt w3 F d (burn (withL k (ins (lastF xf) k.L)))) := Lib.hid (burn_at (k := withL k (ins (lastF xf) k.L)) hh.1 (insE HE.out _) (by rw [show tot (withL k (ins (lastF xf) k.L)).L = tot k.L from HT.out]) HOK'.out)
        have HKK := Lib.hid (HK.out.trans hh.2)
        clear hh hb3 hg3
        go_wp2_with fail
        go_ret
        exact ⟨rfl, HD.out, HKK.out⟩
  · rw [if_pos hf, if_pos hf]
    have hs := Lib.hid (find_no h n hn hf)
    have HD := Lib.hid h
    obtain ⟨a, hA⟩ : ∃ a, find k n = a := ⟨_, rfl⟩
    rw [hA] at hs hf ⊢
    have g0 : ((a : Int) == 0) = false := by simp; omega
    clear h hA hf
    go_enter Tryz.func67, Tryz.ntmps67
    go_wp2_with fail
    refine (hs.out).mono ?_
    rintro e w1 ⟨rfl, rfl⟩
    go_wp2_with fail
    go_ret
    exact ⟨rfl, HD.out, Kept.refl _ _⟩
set_option maxRecDepth 100000 in
theorem read_any {w : World} {F : Nat → Prop} {d : Nat} {k : Dk} (h : DiskAt w F d k) (n : List UInt8) (hn : n.length ≤ 1000000) :
    Calls Tryz.prog 19 #[.pointer (some ⟨d, 0, none⟩), .string (bs n)] w fun e w' => ∃ u, e = .returned (.tuple #[u, .int .i64 (find k n : Nat)]) ∧ OwnB w' w.heap.size u (readS k n) ∧ DiskAt w' F d k ∧ Below w.heap.size w w' := by
  unfold readS
  by_cases hf : find k n = 0
  · rw [if_neg (by simpa using hf), hf]
    obtain ⟨B, E, hm, hE, hok⟩ := h
    obtain ⟨ha, f, hgf⟩ := find_zero hf
    have hgE := hgf
    rw [get_E hE] at hgE
    cases hg : getK Ent.k n E with
    | none => rw [hg] at hgE; cases hgE
    | some x =>
      rw [hg] at hgE
      obtain ⟨xf, xb, xv⟩ := x
      cases hgE
      have hs1 := Lib.hid (find_yes hm n hn ha hg)
      have hxm := (getK_some hg).1
      have htm : xf.s.length ≤ tot k.L := tot_mem (getK_some hgf).1
      have htt := hok.tot
      have hc := Lib.hid (copied_any (l := xf.s) (by omega) (Seen.own (hm.each _ hxm).row))
      have c0 := (hm.each _ hxm).cells.c 0 rfl
      have HM := Lib.hid hm
      have HE := Lib.hid hE
      have HOK := Lib.hid hok
      rw [old_some hgf]
      simp only at hc c0
      obtain ⟨q, cap, hxv⟩ := (hm.each _ hxm).row.len
      simp only at hxv
      subst hxv
      obtain ⟨S, hS⟩ : ∃ S, xf.s = S := ⟨_, rfl⟩
      rw [hS] at hc c0 ⊢
      clear hm hE hxm hok ha hf hg htm htt hgf hS
      go_enter Tryz.func19, Tryz.ntmps19
      go_wp2_with fail
      refine (hs1.out).mono ?_
      rintro e w1 ⟨rfl, rfl⟩
      go_wp2_with fail
      refine (hc.out).mono ?_
      rintro e w2 ⟨u, rfl, ho, ⟨g, rfl⟩, hb⟩
      have HO := Lib.hid ho
      have HB := Lib.hid hb
      clear ho hb
      go_wp2_with fail
      go_ret2
      exact ⟨_, rfl, HO.out, ⟨B, E, HM.out.below HB.out, HE.out, HOK.out⟩, HB.out⟩
  · rw [if_pos hf]
    have hs := Lib.hid (find_no h n hn hf)
    have HD := Lib.hid h
    obtain ⟨a, hA⟩ : ∃ a, find k n = a := ⟨_, rfl⟩
    rw [hA] at hs hf ⊢
    have g0 : ((a : Int) == 0) = false := by simp; omega
    clear h hA hf
    go_enter Tryz.func19, Tryz.ntmps19
    go_wp2_with fail
    refine (hs.out).mono ?_
    rintro e w1 ⟨rfl, rfl⟩
    go_wp2_with fail
    go_ret2
    exact ⟨_, rfl, OwnB.nil _ _, HD.out, Below.refl _ _⟩
end Go.Proofs.YtghnbkkfghfifaaGreatDoor.D
/- The program's Remove. -/
namespace Go.Proofs.YtghnbkkfghfifaaGreatDoor.D
open Go.RowKit Go.Maps
set_option linter.unusedVariables false
theorem ok_del {k : Dk} (hok : Ok k) {n : List UInt8} {f : Fl} (hg : get n k.L = some f) : Ok (withL k (del n k.L)) ∧ tot k.L = f.s.length + tot (del n k.L) := by
  obtain ⟨hf, hk⟩ := getK_some hg
  have e := tot_del hok.sorted hf
  rw [hk] at e
  refine ⟨⟨sorted_delK hok.sorted, fun g hg => hok.names g (mem_delK.1 hg).1, fun g hg => hok.lasts g (mem_delK.1 hg).1, ?_, ?_, hok.fuse, hok.top⟩, e⟩
  · show tot (del n k.L) ≤ _
    have := hok.tot
    omega
  · show (del n k.L).length ≤ _
    have := List.length_filter_le (fun y => decide (Fl.name y ≠ n)) k.L
    have h2 := hok.len
    show (k.L.filter _).length ≤ _
    omega
theorem delE {E : List Ent} {L : List Fl} (hE : E.map Ent.f = L) (n : List UInt8) : (delK Ent.k n E).map Ent.f = del n L := by
  rw [delK_map (k := Ent.k) (k' := Fl.name) (g := Ent.f) (fun _ => rfl), hE]
set_option maxRecDepth 100000 in
theorem remove_any {w : World} {F : Nat → Prop} {d : Nat} {k : Dk} (h : DiskAt w F d k) (n : List UInt8) (hn : n.length ≤ 1000000) :
    Calls Tryz.prog 41 #[.pointer (some ⟨d, 0, none⟩), .string (bs n)] w fun e w' => e = .returned (.int .i64 (removeE k n : Nat)) ∧ DiskAt w' F d (removeD k n) ∧ Kept F w w' := by
  unfold removeE syncE removeD
  by_cases hf : find k n = 0
  · rw [if_neg (by simpa using hf), if_neg (by simpa using hf)]
    obtain ⟨B, E, hm, hE, hok⟩ := h
    obtain ⟨ha, f, hgf⟩ := find_zero hf
    have hgE := hgf
    rw [get_E hE] at hgE
    cases hg : getK Ent.k n E with
    | none => rw [hg] at hgE; cases hgE
    | some x =>
      rw [hg] at hgE
      obtain ⟨xf, xb, xv⟩ := x
      cases hgE
      have hs1 := Lib.hid (find_yes hm n hn ha hg)
      have hs2 := Lib.hid (step_any hm hok.fuse hok.top)
      have hxm := (getK_some hg).1
      obtain ⟨hok', htot⟩ := ok_del hok hgf
      have htt := hok.tot
      obtain ⟨q, cap, hxv⟩ := (hm.each _ hxm).row.len
      simp only at hxv
      obtain ⟨N, hN⟩ : ∃ N, xf.s.length = N := ⟨_, rfl⟩
      rw [hN] at hxv htot
      subst hxv
      have HM := Lib.hid hm
      have HE := Lib.hid hE
      have HX := Lib.hid hxm
      have HOK := Lib.hid hok
      have HOK' := Lib.hid hok'
      have HT := Lib.hid htot
      have hkey := key9 (n := n) (by unfold maxLen; omega)
      have hne : d ≠ xb := hm.self.ne (hm.each _ hxm).cells (by decide)
      obtain ⟨T, hTT⟩ : ∃ T, tot k.L = T := ⟨_, rfl⟩
      have HTT := Lib.hid hTT
      rw [hTT] at htt htot hs2
      have hNT : N ≤ T := by omega
      clear hm hE hxm hok hok' hN ha hf hg hTT htot
      by_cases h0 : k.fuse = 0
      · have hb : burnE k.fuse = 8 := by unfold burnE; rw [if_pos h0]
        rw [if_pos h0, hb]
        rw [hb] at hs2
        have HB : Hid (∀ w', DiskM w' F d B E (T : Nat) (burnF k.fuse) (burnB k.fuse k.down) → DiskAt w' F d (burn k)) := Lib.hid (fun w' hm' => burn_at hm' HE.out (by rw [HTT.out]) HOK.out)
        clear hb h0
        go_enter Tryz.func41, Tryz.ntmps41
        go_wp2_with fail
        refine (hs1.out).mono ?_
        rintro e w1 ⟨rfl, rfl⟩
        go_wp2_with fail
        refine (hs2.out).mono ?_
        rintro e w2 ⟨rfl, hm2, hg2⟩
        have HD := Lib.hid (HB.out _ hm2)
        have HK := Lib.hid ((Kept.refl F w1).grown hg2 (fun j hj => by cases hj; exact .inr HM.out.fd))
        clear hm2 hg2
        go_wp2_with fail
        go_ret
        exact ⟨rfl, HD.out, HK.out⟩
      · have hb : burnE k.fuse = 0 := by unfold burnE; rw [if_neg h0]
        rw [if_neg h0, hb]
        rw [hb] at hs2
        clear hb h0
        go_enter Tryz.func41, Tryz.ntmps41
        go_wp2_with fail
        refine (hs1.out).mono ?_
        rintro e w1 ⟨rfl, rfl⟩
        go_wp2_with fail
        refine (hs2.out).mono ?_
        rintro e w2 ⟨rfl, hm2, hg2⟩
        have HM2 := Lib.hid hm2
        have HK := Lib.hid ((Kept.refl F w1).grown hg2 (fun j hj => by cases hj; exact .inr HM.out.fd))
        have c0 := hm2.self.c 0 rfl
        have c1 := hm2.self.c 1 rfl
        have f1 := hm2.self.f 1
        have e0 := (hm2.each _ HX.out).cells.c 0 rfl
        simp only at e0
        clear hm2 hg2
        go_wp2_with fail
        go_region
        have hmd : DiskM (w2.setCell ⟨d, 1, none⟩ (.int .i64 ((T : Int) - (N : Int)))).drew F d B E ((T : Int) - (N : Int)) (burnF k.fuse) (burnB k.fuse k.down) := (HM2.out.setUsed _).quiet (grown_drew (grown_refl _ _))
        have hkd : Kept F w1 (w2.setCell ⟨d, 1, none⟩ (.int .i64 ((T : Int) - (N : Int)))).drew := (HK.out.set _ _ (.inr HM.out.fd)).drew
        generalize (w2.setCell ⟨d, 1, none⟩ (.int .i64 ((T : Int) - (N : Int)))).drew = w3 at hmd hkd ⊢
        have HMD := Lib.hid hmd
        have HKD := Lib.hid hkd
        have c0' := hmd.self.c 0 rfl
        have hmap := hmd.map
        clear hmd hkd c0 c1 f1 e0 HM2 HK
        go_wp2_with (at_delete; refine wpList_delete_own _ rfl _ _ 83 9 rfl 89 law9 Tryz.underlying83 relem B E.length (mapOf E) rfl hmap _ (.string n) rfl hkey ?_)
        intro w4 hown4 hturn4
        have HD : Hid (DiskAt w4 F d (burn (withL k (del n k.L)))) := Lib.hid (burn_at (k := withL k (del n k.L)) (HMD.out.drop hturn4.grown hown4) (delE HE.out n) (by
          have h1 := HT.out
          have h2 := HTT.out
          show _ = ((tot (del n k.L) : Nat) : Int)
          omega) HOK'.out)
        have HKK := Lib.hid (HKD.out.grown hturn4.grown (fun j hj => by cases hj; exact .inr HM.out.fB))
        clear hown4 hturn4 hmap c0'
        go_wp2_with fail
        go_ret
        exact ⟨rfl, HD.out, HKK.out⟩
  · rw [if_pos hf, if_pos hf]
    have hs := Lib.hid (find_no h n hn hf)
    have HD := Lib.hid h
    obtain ⟨a, hA⟩ : ∃ a, find k n = a := ⟨_, rfl⟩
    rw [hA] at hs hf ⊢
    have g0 : ((a : Int) == 0) = false := by simp; omega
    clear h hA hf
    go_enter Tryz.func41, Tryz.ntmps41
    go_wp2_with fail
    refine (hs.out).mono ?_
    rintro e w1 ⟨rfl, rfl⟩
    go_wp2_with fail
    go_ret
    exact ⟨rfl, HD.out, Kept.refl _ _⟩
end Go.Proofs.YtghnbkkfghfifaaGreatDoor.D
/- The program's Replace. -/
namespace Go.Proofs.YtghnbkkfghfifaaGreatDoor.D
open Go.RowKit Go.Maps
set_option linter.unusedVariables false
theorem Seen.keptB {w w' : World} {d : Nat} {cs : List Value} {t : TypeId} {b : Nat} {v : Value} {l : List UInt8} (h : Seen w b v l) (hd : Blk w d cs t) (hcs : ∀ c ∈ cs, ∀ x, c ≠ .int .u8 x) (hg : w.grownBy w' (some d)) (hb : b ≤ w.heap.size) : Seen w' b v l := by
  rcases h with h | ⟨ad, cap, hv, hc, hbb, hh⟩
  · exact .inl h
  · refine .inr ⟨ad, cap, hv, hc, hbb, fun j hj => ?_⟩
    have h1 := hh j hj
    have hlt : (ad.add j).block < w.heap.size := by rw [add_block]; have := hbb (by omega); omega
    rw [World.cell?_of_block (w := w) (a := ad.add j) (hg.block _ hlt (fun e => ?_))]
    · exact h1
    · have e' : (ad.add j).block = d := Option.some.inj e
      unfold Blk at hd
      unfold World.cell? at h1
      rw [e', hd] at h1
      simp only at h1
      split at h1
      · cases h1
      · have hm : (.int .u8 (l[j].toNat : Int) : Value) ∈ cs := by
          rw [List.getElem?_toArray] at h1
          exact List.mem_of_getElem? h1
        exact hcs _ hm _ rfl
theorem Seen.keptD {w w' : World} {F : Nat → Prop} {d B : Nat} {E : List Ent} {u fuse : Int} {down : Bool} {v : Value} {l : List UInt8} (h : Seen w w.heap.size v l) (hm : DiskM w F d B E u fuse down) (hg : w.grownBy w' (some d)) : Seen w' w'.heap.size v l :=
  (h.keptB hm.self (by
    intro c hc x
    simp only [List.mem_cons, List.not_mem_nil, or_false] at hc
    rcases hc with rfl | rfl | rfl | rfl <;> simp) hg (Nat.le_refl _)).mono hg.size
theorem mid_mem {w2 w3 w5 : World} {F : Nat → Prop} {d B : Nat} {E : List Ent} {u fuse : Int} {down : Bool} (hm : DiskM w2 F d B E u fuse down) (hb : Below w2.heap.size w2 w3) (hk : Kept (fun i => w3.heap.size ≤ i) w3 w5) : DiskM w5 F d B E u fuse down :=
  (((hm.below hb).mono (G := fun i => F i ∧ i < w3.heap.size) (fun i hi hl => ⟨hi, hl⟩)).far hk (fun i hi _ => by omega)).mono (fun i hi _ => hi.1)
/-- A disk in memory, when a new file in a new block has been put into the map. -/
theorem put_mem {w2 w3 w5 w6 : World} {F : Nat → Prop} {d B : Nat} {E : List Ent} {u fuse : Int} {down : Bool} (hF : ∀ i, w2.heap.size ≤ i → F i) (hm : DiskM w2 F d B E u fuse down) (hb : Below w2.heap.size w2 w3) {n b : List UInt8} {v : Value}
    (ho : OwnB w3 w2.heap.size v b) {nb : Nat} (hnb : nb = w3.heap.size) (hk : Kept (fun i => w3.heap.size ≤ i) w3 w5) (hbl : Blk w5 nb [v, .int .i64 (b.length : Nat), .bool true] 94) (hg : w5.grownBy w6 (some B))
    (hown : w6.ownsMap Tryz.prog 9 relem B (E.length + 1) ((mapOf E).put (.string n) (.lit (.int .i64 nb)))) :
    DiskM w6 F d B (insK Ent.k ⟨⟨n, b, b.length, true⟩, nb, v⟩ E) u fuse down ∧ Kept F w2 w6 := by
  have hs := hb.size
  have hm3 := hm.below hb
  have hm5 := mid_mem hm hb hk
  have hx : EntM w5 F ⟨⟨n, b, b.length, true⟩, nb, v⟩ := ⟨hbl, (ho.keptF hk (fun g hg' => by
      have := own_blk ho hg'
      obtain ⟨cur, hh⟩ := this
      have := lt_of_block hh
      omega)).mono (Nat.zero_le _), hF _ (by show w2.heap.size ≤ nb; omega), fun g hg' => hF g (own_block ho g hg')⟩
  refine ⟨hm5.put hx hg hown (fun y hy _ => ⟨?_, fun g h1 h2 => ?_⟩), ?_⟩
  · have := (hm3.each y hy).cells.lt
    show nb ≠ y.blk
    omega
  · have e1 := own_block ho g h1
    obtain ⟨cur, hh⟩ := own_blk (hm.each y hy).row h2
    have := lt_of_block hh
    omega
  · have k1 : Kept F w2 w3 := (Kept.refl F w2).of_below hb (fun i hi _ => hi)
    have k2 : Kept F w2 w5 := ⟨hk.os.trans k1.os, hk.tape.trans k1.tape, hk.output.trans k1.output, Nat.le_trans k1.size hk.size, fun i hi hF' => (hk.block i (by omega) (by omega)).trans (k1.block i hi hF')⟩
    exact k2.grown hg (fun j hj => by cases hj; exact .inr hm.fB)
theorem tot_replace {k : Dk} (hok : Ok k) {n b : List UInt8} : (tot (ins ⟨n, b, b.length, true⟩ k.L) : Int) = (tot k.L : Int) + moreR k n b := by
  unfold moreR
  cases hg : get n k.L with
  | none =>
    rw [old_none hg, tot_ins_new (by exact hg)]
    simp
  | some f =>
    rw [old_some hg]
    obtain ⟨hf, hk⟩ := getK_some hg
    have e := tot_ins_old (f := ⟨n, b, b.length, true⟩) hok.sorted hf hk
    simp only at e
    omega
theorem replace_none {k : Dk} {n b : List UInt8} (h : get n k.L = none) : moreR k n b = (b.length : Int) := by
  unfold moreR
  rw [old_none h]
  simp
theorem replace_some {k : Dk} {n b : List UInt8} {f : Fl} (h : get n k.L = some f) : moreR k n b = (b.length : Int) - (f.s.length : Int) := by
  unfold moreR
  rw [old_some h]
theorem get_of {w : World} {F : Nat → Prop} {d B : Nat} {E : List Ent} {k : Dk} {u fuse : Int} {down : Bool} (hm : DiskM w F d B E u fuse down) (hE : E.map Ent.f = k.L) (hok : Ok k) (n : List UInt8) :
    (get n k.L = none ∧ getK Ent.k n E = none) ∨ ∃ x, getK Ent.k n E = some x ∧ get n k.L = some x.f := by
  cases hg : getK Ent.k n E with
  | none => exact .inl ⟨by rw [get_E hE, hg]; rfl, rfl⟩
  | some x => exact .inr ⟨x, rfl, by rw [get_E hE, hg]; rfl⟩
set_option maxRecDepth 100000 in
theorem replace_none_no {w : World} {F : Nat → Prop} (hF : ∀ i, w.heap.size ≤ i → F i) {d B : Nat} {E : List Ent} {k : Dk} (hm : DiskM w F d B E (tot k.L : Nat) k.fuse k.down) (hE : E.map Ent.f = k.L) (hok : Ok k) (n : List UInt8) (hn : n.length ≤ 1000000) (xv : Value) (b : List UInt8) (hx : Seen w w.heap.size xv b) (hb : b.length ≤ 10000000)
    (hgf : get n k.L = none) (hg : getK Ent.k n E = none) (a : Nat) (hA : mayHold k n (moreR k n b) = a) (ha : a ≠ 0) :
    Calls Tryz.prog 42 #[.pointer (some ⟨d, 0, none⟩), .string (bs n), xv] w fun e w' => e = .returned (.int .i64 (a : Nat)) ∧ w' = w := by
  have hold := hold_dk ⟨B, E, hm, hE, hok⟩ n hn (moreR k n b)
  rw [hA] at hold
  have hmore := replace_none (b := b) hgf
  have hlook := hm.map.look (n := n) (by unfold maxLen; omega)
  rw [hg] at hlook
  simp only [Option.isSome_none] at hlook
  have HX := Lib.hid hx
  have c0 := hm.self.c 0 rfl
  obtain ⟨q, cap, rfl, _⟩ := hx.len
  
  rw [hmore] at hold
  have hs1 := Lib.hid hold
  have g0 : ((a : Int) == 0) = false := by simp; omega
  clear hm hE hok hx hold hmore hA hg hgf ha
  go_enter Tryz.func42, Tryz.ntmps42
  go_wp2_with fail
  refine (hs1.out).mono ?_
  rintro e w1 ⟨rfl, rfl⟩
  go_wp2_with fail
  go_ret
  exact ⟨rfl, rfl⟩
set_option maxRecDepth 100000 in
theorem replace_none_yes {w : World} {F : Nat → Prop} (hF : ∀ i, w.heap.size ≤ i → F i) {d B : Nat} {E : List Ent} {k : Dk} (hm : DiskM w F d B E (tot k.L : Nat) k.fuse k.down) (hE : E.map Ent.f = k.L) (hok : Ok k) (n : List UInt8) (hn : n.length ≤ 1000000) (xv : Value) (b : List UInt8) (hx : Seen w w.heap.size xv b) (hb : b.length ≤ 10000000)
    (hgf : get n k.L = none) (hg : getK Ent.k n E = none) (a : Nat) (hA : mayHold k n (moreR k n b) = a) (ha : a = 0) :
    Calls Tryz.prog 42 #[.pointer (some ⟨d, 0, none⟩), .string (bs n), xv] w fun e w' => e = .returned (.int .i64 (burnE k.fuse : Nat)) ∧ DiskAt w' F d (if k.fuse = 0 then burn k else burn (withL k (ins ⟨n, b, b.length, true⟩ k.L))) ∧ Kept F w w' := by
  have hold := hold_dk ⟨B, E, hm, hE, hok⟩ n hn (moreR k n b)
  rw [hA] at hold
  have hmore := replace_none (b := b) hgf
  have hlook := hm.map.look (n := n) (by unfold maxLen; omega)
  rw [hg] at hlook
  simp only [Option.isSome_none] at hlook
  have HX := Lib.hid hx
  have c0 := hm.self.c 0 rfl
  obtain ⟨q, cap, rfl, _⟩ := hx.len
  
  rw [hmore] at hold
  have hs1 := Lib.hid hold
  subst ha
  obtain ⟨hh1, hh2, hh3⟩ := hold_good hA
  obtain ⟨_, hn1, hn2⟩ := ask_good hh1
  have htr := tot_replace hok (n := n) (b := b)
  rw [hmore] at htr hh2
  have hok' : Ok (withL k (ins ⟨n, b, b.length, true⟩ k.L)) := ok_ins hok hn1 hn2 (Nat.le_refl _) (by have := htr; omega) (fun hnn => hh3 hnn)
  have hs2 := Lib.hid (step_any hm hok.fuse hok.top)
  have hkey := key9 (n := n) (by unfold maxLen; omega)
  have hEl : E.length ≤ 4096 := by rw [← len_E hE]; exact hok.len
  have HM := Lib.hid hm
  have HE := Lib.hid hE
  have HOK := Lib.hid hok
  have HOK' := Lib.hid hok'
  have HTR := Lib.hid htr
  have htt := hok.tot
  obtain ⟨T, hTT⟩ : ∃ T, tot k.L = T := ⟨_, rfl⟩
  rw [hTT] at htt hh2 hs2
  have HTT := Lib.hid hTT
  have HF := Lib.hid hF
  clear hm hE hok hx hold hmore hA hg hgf hok' htr hh1 hh3 hTT hF
  by_cases h0 : k.fuse = 0
  · have hb : burnE k.fuse = 8 := by unfold burnE; rw [if_pos h0]
    rw [if_pos h0, hb]
    rw [hb] at hs2
    have HB : Hid (∀ w', DiskM w' F d B E (T : Nat) (burnF k.fuse) (burnB k.fuse k.down) → DiskAt w' F d (burn k)) := Lib.hid (fun w' hm' => burn_at hm' HE.out (by rw [HTT.out]) HOK.out)
    clear hb h0
    go_enter Tryz.func42, Tryz.ntmps42
    go_wp2_with fail
    refine (hs1.out).mono ?_
    rintro e w1 ⟨rfl, rfl⟩
    go_wp2_with fail
    refine (hs2.out).mono ?_
    rintro e w2 ⟨rfl, hm2, hg2⟩
    have HD := Lib.hid (HB.out _ hm2)
    have HK := Lib.hid ((Kept.refl F w1).grown hg2 (fun j hj => by cases hj; exact .inr HM.out.fd))
    clear hm2 hg2
    go_wp2_with fail
    go_ret
    exact ⟨rfl, HD.out, HK.out⟩
  · have hb8 : burnE k.fuse = 0 := by unfold burnE; rw [if_neg h0]
    rw [if_neg h0, hb8]
    rw [hb8] at hs2
    clear hb8 h0
    go_enter Tryz.func42, Tryz.ntmps42
    go_wp2_with fail
    refine (hs1.out).mono ?_
    rintro e w1 ⟨rfl, rfl⟩
    go_wp2_with fail
    refine (hs2.out).mono ?_
    rintro e w2 ⟨rfl, hm2, hg2⟩
    have HM2 := Lib.hid hm2
    have HK := Lib.hid ((Kept.refl F w1).grown hg2 (fun j hj => by cases hj; exact .inr HM.out.fd))
    have hcop := Lib.hid (copied_any (l := b) (by omega) (HX.out.keptD HM.out hg2))
    clear hm2 hg2
    go_wp2_with fail
    refine (hcop.out).mono ?_
    rintro e w3 ⟨u3, rfl, ho3, ⟨g3, rfl⟩, hb3⟩
    have HO3 := Lib.hid ho3
    have HB3 := Lib.hid hb3
    have hlast := Lib.hid (last_any (Blk.new w3 [.slice (some ⟨g3, 0, none⟩) b.length b.length, .int .i64 0, .bool false] 94))
    have c0' := (HM2.out.below hb3).self.c 0 rfl
    obtain ⟨nb, hnb⟩ : ∃ nb, w3.heap.size = nb := ⟨_, rfl⟩
    rw [hnb] at hlast
    clear ho3 hb3
    go_wp2_with fail
    refine (hlast.out).mono ?_
    rintro e w5 ⟨rfl, hb5, hg5⟩
    have hk5 : Kept (fun i => w3.heap.size ≤ i) w3 w5 := ((Kept.refl _ w3).alloc _).grown hg5 (fun j hj => by cases hj; exact .inl (by omega))
    have hm5 := mid_mem HM2.out HB3.out hk5
    have c0'' := hm5.self.c 0 rfl
    have hmap := hm5.map
    have HB5 := Lib.hid hb5
    have HK5 := Lib.hid hk5
    have HNB := Lib.hid hnb
    clear hb5 hg5 hk5 hm5 c0' c0 hnb
    go_wp2_with (at_mapUpdate; refine wpList_mapUpdate_own _ rfl _ _ _ 83 rfl 9 89 law9 Tryz.underlying83 relem B E.length (mapOf E) rfl hmap (by unfold maxLen; omega) _ _ (.string n) rfl rfl hkey (.lit (.int .i64 nb)) [] ?c1 ?_)
    case c1 => rfl
    intro w6 hown6 hgr6
    have hF2 : ∀ i, w2.heap.size ≤ i → F i := fun i hi => HF.out i (by have := HK.out.size; omega)
    obtain ⟨hm6, hk6⟩ := put_mem hF2 HM2.out HB3.out (n := n) (b := b) HO3.out HNB.out.symm HK5.out HB5.out hgr6 hown6
    have c1 := hm6.self.c 1 rfl
    have f1 := hm6.self.f 1
    have HM6 := Lib.hid hm6
    have HKK := Lib.hid (HK.out.trans hk6)
    have HU : Hid ((T : Int) + (b.length : Int) = ((tot (withL k (ins ⟨n, b, b.length, true⟩ k.L)).L : Nat) : Int)) := Lib.hid (by
      have h1 := HTR.out
      have h2 := HTT.out
      show _ = ((tot (ins ⟨n, b, b.length, true⟩ k.L) : Nat) : Int)
      omega)
    clear hmap hown6 hgr6 hF2 hm6 hk6 c0'' hh2
    have hb1 : (0 : Int) ≤ (T : Int) + (b.length : Int) := by rw [HU.out]; omega
    have hb2 : (T : Int) + (b.length : Int) ≤ 4194304 := by rw [HU.out]; have := HOK'.out.tot; omega
    go_wp2_with fail
    go_ret
    exact ⟨rfl, burn_at (k := withL k (ins ⟨n, b, b.length, true⟩ k.L)) (HM6.out.setUsed _) (insE HE.out _) HU.out HOK'.out, HKK.out.set _ _ (.inr HM.out.fd)⟩
set_option maxRecDepth 100000 in
theorem replace_some_no {w : World} {F : Nat → Prop} (hF : ∀ i, w.heap.size ≤ i → F i) {d B : Nat} {E : List Ent} {k : Dk} (hm : DiskM w F d B E (tot k.L : Nat) k.fuse k.down) (hE : E.map Ent.f = k.L) (hok : Ok k) (n : List UInt8) (hn : n.length ≤ 1000000) (xv : Value) (b : List UInt8) (hx : Seen w w.heap.size xv b) (hb : b.length ≤ 10000000)
    (x : Ent) (hg : getK Ent.k n E = some x) (hgf : get n k.L = some x.f) (a : Nat) (hA : mayHold k n (moreR k n b) = a) (ha : a ≠ 0) :
    Calls Tryz.prog 42 #[.pointer (some ⟨d, 0, none⟩), .string (bs n), xv] w fun e w' => e = .returned (.int .i64 (a : Nat)) ∧ w' = w := by
  have hold := hold_dk ⟨B, E, hm, hE, hok⟩ n hn (moreR k n b)
  rw [hA] at hold
  have hmore := replace_some (b := b) hgf
  have hlook := hm.map.look (n := n) (by unfold maxLen; omega)
  rw [hg] at hlook
  simp only [Option.isSome_some] at hlook
  have HX := Lib.hid hx
  have c0 := hm.self.c 0 rfl
  obtain ⟨q, cap, rfl, _⟩ := hx.len
  have hxe := hm.each x (getK_some hg).1
  obtain ⟨q1, cap1, hv1⟩ := hxe.row.len
  have e0 := hxe.cells.c 0 rfl
  rw [hv1] at e0
  have htx : x.f.s.length ≤ 4194304 := Nat.le_trans (tot_mem (getK_some hgf).1) hok.tot
  obtain ⟨xb, hxb⟩ : ∃ y, x.blk = y := ⟨_, rfl⟩
  rw [hxb] at hlook e0
  obtain ⟨sl, hsl⟩ : ∃ y, x.f.s.length = y := ⟨_, rfl⟩
  rw [hsl] at hmore e0 htx
  clear hxe hv1 hxb hsl
  rw [hmore] at hold
  have hs1 := Lib.hid hold
  have g0 : ((a : Int) == 0) = false := by simp; omega
  clear hm hE hok hx hold hmore hA hg hgf ha
  go_enter Tryz.func42, Tryz.ntmps42
  go_wp2_with fail
  refine (hs1.out).mono ?_
  rintro e w1 ⟨rfl, rfl⟩
  go_wp2_with fail
  go_ret
  exact ⟨rfl, rfl⟩
set_option maxRecDepth 100000 in
theorem replace_some_yes {w : World} {F : Nat → Prop} (hF : ∀ i, w.heap.size ≤ i → F i) {d B : Nat} {E : List Ent} {k : Dk} (hm : DiskM w F d B E (tot k.L : Nat) k.fuse k.down) (hE : E.map Ent.f = k.L) (hok : Ok k) (n : List UInt8) (hn : n.length ≤ 1000000) (xv : Value) (b : List UInt8) (hx : Seen w w.heap.size xv b) (hb : b.length ≤ 10000000)
    (x : Ent) (hg : getK Ent.k n E = some x) (hgf : get n k.L = some x.f) (a : Nat) (hA : mayHold k n (moreR k n b) = a) (ha : a = 0) :
    Calls Tryz.prog 42 #[.pointer (some ⟨d, 0, none⟩), .string (bs n), xv] w fun e w' => e = .returned (.int .i64 (burnE k.fuse : Nat)) ∧ DiskAt w' F d (if k.fuse = 0 then burn k else burn (withL k (ins ⟨n, b, b.length, true⟩ k.L))) ∧ Kept F w w' := by
  have hold := hold_dk ⟨B, E, hm, hE, hok⟩ n hn (moreR k n b)
  rw [hA] at hold
  have hmore := replace_some (b := b) hgf
  have hlook := hm.map.look (n := n) (by unfold maxLen; omega)
  rw [hg] at hlook
  simp only [Option.isSome_some] at hlook
  have HX := Lib.hid hx
  have c0 := hm.self.c 0 rfl
  obtain ⟨q, cap, rfl, _⟩ := hx.len
  have hxe := hm.each x (getK_some hg).1
  obtain ⟨q1, cap1, hv1⟩ := hxe.row.len
  have e0 := hxe.cells.c 0 rfl
  rw [hv1] at e0
  have htx : x.f.s.length ≤ 4194304 := Nat.le_trans (tot_mem (getK_some hgf).1) hok.tot
  obtain ⟨xb, hxb⟩ : ∃ y, x.blk = y := ⟨_, rfl⟩
  rw [hxb] at hlook e0
  obtain ⟨sl, hsl⟩ : ∃ y, x.f.s.length = y := ⟨_, rfl⟩
  rw [hsl] at hmore e0 htx
  clear hxe hv1 hxb hsl
  rw [hmore] at hold
  have hs1 := Lib.hid hold
  subst ha
  obtain ⟨hh1, hh2, hh3⟩ := hold_good hA
  obtain ⟨_, hn1, hn2⟩ := ask_good hh1
  have htr := tot_replace hok (n := n) (b := b)
  rw [hmore] at htr hh2
  have hok' : Ok (withL k (ins ⟨n, b, b.length, true⟩ k.L)) := ok_ins hok hn1 hn2 (Nat.le_refl _) (by have := htr; omega) (fun hnn => hh3 hnn)
  have hs2 := Lib.hid (step_any hm hok.fuse hok.top)
  have hkey := key9 (n := n) (by unfold maxLen; omega)
  have hEl : E.length ≤ 4096 := by rw [← len_E hE]; exact hok.len
  have HM := Lib.hid hm
  have HE := Lib.hid hE
  have HOK := Lib.hid hok
  have HOK' := Lib.hid hok'
  have HTR := Lib.hid htr
  have htt := hok.tot
  obtain ⟨T, hTT⟩ : ∃ T, tot k.L = T := ⟨_, rfl⟩
  rw [hTT] at htt hh2 hs2
  have HTT := Lib.hid hTT
  have HF := Lib.hid hF
  clear hm hE hok hx hold hmore hA hg hgf hok' htr hh1 hh3 hTT hF
  by_cases h0 : k.fuse = 0
  · have hb : burnE k.fuse = 8 := by unfold burnE; rw [if_pos h0]
    rw [if_pos h0, hb]
    rw [hb] at hs2
    have HB : Hid (∀ w', DiskM w' F d B E (T : Nat) (burnF k.fuse) (burnB k.fuse k.down) → DiskAt w' F d (burn k)) := Lib.hid (fun w' hm' => burn_at hm' HE.out (by rw [HTT.out]) HOK.out)
    clear hb h0
    go_enter Tryz.func42, Tryz.ntmps42
    go_wp2_with fail
    refine (hs1.out).mono ?_
    rintro e w1 ⟨rfl, rfl⟩
    go_wp2_with fail
    refine (hs2.out).mono ?_
    rintro e w2 ⟨rfl, hm2, hg2⟩
    have HD := Lib.hid (HB.out _ hm2)
    have HK := Lib.hid ((Kept.refl F w1).grown hg2 (fun j hj => by cases hj; exact .inr HM.out.fd))
    clear hm2 hg2
    go_wp2_with fail
    go_ret
    exact ⟨rfl, HD.out, HK.out⟩
  · have hb8 : burnE k.fuse = 0 := by unfold burnE; rw [if_neg h0]
    rw [if_neg h0, hb8]
    rw [hb8] at hs2
    clear hb8 h0
    go_enter Tryz.func42, Tryz.ntmps42
    go_wp2_with fail
    refine (hs1.out).mono ?_
    rintro e w1 ⟨rfl, rfl⟩
    go_wp2_with fail
    refine (hs2.out).mono ?_
    rintro e w2 ⟨rfl, hm2, hg2⟩
    have HM2 := Lib.hid hm2
    have HK := Lib.hid ((Kept.refl F w1).grown hg2 (fun j hj => by cases hj; exact .inr HM.out.fd))
    have hcop := Lib.hid (copied_any (l := b) (by omega) (HX.out.keptD HM.out hg2))
    clear hm2 hg2
    go_wp2_with fail
    refine (hcop.out).mono ?_
    rintro e w3 ⟨u3, rfl, ho3, ⟨g3, rfl⟩, hb3⟩
    have HO3 := Lib.hid ho3
    have HB3 := Lib.hid hb3
    have hlast := Lib.hid (last_any (Blk.new w3 [.slice (some ⟨g3, 0, none⟩) b.length b.length, .int .i64 0, .bool false] 94))
    have c0' := (HM2.out.below hb3).self.c 0 rfl
    obtain ⟨nb, hnb⟩ : ∃ nb, w3.heap.size = nb := ⟨_, rfl⟩
    rw [hnb] at hlast
    clear ho3 hb3
    go_wp2_with fail
    refine (hlast.out).mono ?_
    rintro e w5 ⟨rfl, hb5, hg5⟩
    have hk5 : Kept (fun i => w3.heap.size ≤ i) w3 w5 := ((Kept.refl _ w3).alloc _).grown hg5 (fun j hj => by cases hj; exact .inl (by omega))
    have hm5 := mid_mem HM2.out HB3.out hk5
    have c0'' := hm5.self.c 0 rfl
    have hmap := hm5.map
    have HB5 := Lib.hid hb5
    have HK5 := Lib.hid hk5
    have HNB := Lib.hid hnb
    clear hb5 hg5 hk5 hm5 c0' c0 hnb
    go_wp2_with (at_mapUpdate; refine wpList_mapUpdate_own _ rfl _ _ _ 83 rfl 9 89 law9 Tryz.underlying83 relem B E.length (mapOf E) rfl hmap (by unfold maxLen; omega) _ _ (.string n) rfl rfl hkey (.lit (.int .i64 nb)) [] ?c1 ?_)
    case c1 => rfl
    intro w6 hown6 hgr6
    have hF2 : ∀ i, w2.heap.size ≤ i → F i := fun i hi => HF.out i (by have := HK.out.size; omega)
    obtain ⟨hm6, hk6⟩ := put_mem hF2 HM2.out HB3.out (n := n) (b := b) HO3.out HNB.out.symm HK5.out HB5.out hgr6 hown6
    have c1 := hm6.self.c 1 rfl
    have f1 := hm6.self.f 1
    have HM6 := Lib.hid hm6
    have HKK := Lib.hid (HK.out.trans hk6)
    have HU : Hid ((T : Int) + ((b.length : Int) - (sl : Int)) = ((tot (withL k (ins ⟨n, b, b.length, true⟩ k.L)).L : Nat) : Int)) := Lib.hid (by
      have h1 := HTR.out
      have h2 := HTT.out
      show _ = ((tot (ins ⟨n, b, b.length, true⟩ k.L) : Nat) : Int)
      omega)
    clear hmap hown6 hgr6 hF2 hm6 hk6 c0'' hh2
    have hb1 : (0 : Int) ≤ (T : Int) + ((b.length : Int) - (sl : Int)) := by rw [HU.out]; omega
    have hb2 : (T : Int) + ((b.length : Int) - (sl : Int)) ≤ 4194304 := by rw [HU.out]; have := HOK'.out.tot; omega
    go_wp2_with fail
    go_ret
    exact ⟨rfl, burn_at (k := withL k (ins ⟨n, b, b.length, true⟩ k.L)) (HM6.out.setUsed _) (insE HE.out _) HU.out HOK'.out, HKK.out.set _ _ (.inr HM.out.fd)⟩
/-- Replace, whatever there is. -/
theorem replace_any {w : World} {F : Nat → Prop} (hF : ∀ i, w.heap.size ≤ i → F i) {d : Nat} {k : Dk} (h : DiskAt w F d k) (n : List UInt8) (hn : n.length ≤ 1000000) (xv : Value) (b : List UInt8) (hx : Seen w w.heap.size xv b) (hb : b.length ≤ 10000000) :
    Calls Tryz.prog 42 #[.pointer (some ⟨d, 0, none⟩), .string (bs n), xv] w fun e w' => e = .returned (.int .i64 (replaceE k n b : Nat)) ∧ DiskAt w' F d (replaceD k n b) ∧ Kept F w w' := by
  have hD := h
  obtain ⟨B, E, hm, hE, hok⟩ := h
  unfold replaceE replaceD
  by_cases ha : mayHold k n (moreR k n b) = 0
  · rw [if_neg (by simpa using ha), if_neg (by simpa using ha)]
    rcases get_of hm hE hok n with ⟨h1, h2⟩ | ⟨x, h1, h2⟩
    · exact replace_none_yes hF hm hE hok n hn xv b hx hb h1 h2 _ rfl ha
    · exact replace_some_yes hF hm hE hok n hn xv b hx hb x h1 h2 _ rfl ha
  · rw [if_pos ha, if_pos ha]
    rcases get_of hm hE hok n with ⟨h1, h2⟩ | ⟨x, h1, h2⟩
    · refine (replace_none_no hF hm hE hok n hn xv b hx hb h1 h2 _ rfl ha).mono ?_
      rintro e w' ⟨rfl, rfl⟩
      exact ⟨rfl, hD, Kept.refl _ _⟩
    · refine (replace_some_no hF hm hE hok n hn xv b hx hb x h1 h2 _ rfl ha).mono ?_
      rintro e w' ⟨rfl, rfl⟩
      exact ⟨rfl, hD, Kept.refl _ _⟩
end Go.Proofs.YtghnbkkfghfifaaGreatDoor.D
/- The program's Names. -/
namespace Go.Proofs.YtghnbkkfghfifaaGreatDoor.D
open Go.RowKit Go.Maps Go.Sort
set_option linter.unusedVariables false
theorem info9 : (Tryz.prog.info? 9).map (fun i => (i.zero, i.size, i.bytes)) = some (some (.string ⟨#[]⟩), 1, 16) := by kernel_rfl
/-- A value owns a list of texts. -/
def Txts (w : World) (base : Nat) (u : Value) (ps : List (List UInt8)) : Prop := w.ownsRow base 9 1 u ps.length (ps.map fun p => Value.string (bs p))
theorem Txts.below {w w' : World} {base B : Nat} {u : Value} {ps : List (List UInt8)} (h : Txts w base u ps) (hb : Below B w w') (hB : w.heap.size ≤ B) : Txts w' base u ps := by
  obtain ⟨h1, h2⟩ := h
  refine ⟨h1, ?_⟩
  rcases h2 with h2 | ⟨g, cap, cur, hv, hg, hh, r⟩
  · exact .inl h2
  · exact .inr ⟨g, cap, cur, hv, hg, by rw [hb.block g (Nat.lt_of_lt_of_le (lt_of_block hh) hB)]; exact hh, r⟩
theorem Txts.keptF {w w' : World} {base : Nat} {u : Value} {ps : List (List UInt8)} {G : Nat → Prop} (h : Txts w base u ps) (hk : Kept G w w') (hv : ∀ g, u.ownBlock = some g → ¬ G g) : Txts w' base u ps := by
  obtain ⟨h1, h2⟩ := h
  refine ⟨h1, ?_⟩
  rcases h2 with h2 | ⟨g, cap, cur, e, hg, hh, r⟩
  · exact .inl h2
  · exact .inr ⟨g, cap, cur, e, hg, by rw [hk.block g (lt_of_block hh) (hv g (by rw [e]; rfl))]; exact hh, r⟩
theorem Txts.len {w : World} {base : Nat} {u : Value} {ps : List (List UInt8)} (h : Txts w base u ps) : ∃ q cap, u = .slice q ps.length cap := by
  rcases h.2 with ⟨hv, h0⟩ | ⟨g, cap, cur, hv, _⟩
  · exact ⟨none, 0, by rw [hv, h0]⟩
  · exact ⟨_, cap, hv⟩
theorem Txts.at {w : World} {base : Nat} {q : Option Addr} {n cap : Nat} {ps : List (List UInt8)} (h : Txts w base (.slice q n cap) ps) (j : Nat) (hj : j < ps.length) : ∃ g, q = some ⟨g, 0, none⟩ ∧ w.cell? ⟨g, j, none⟩ = some (.string (bs ps[j])) := by
  rcases h.2 with ⟨hv, h0⟩ | ⟨g, cap', cur, hv, _⟩
  · omega
  · cases hv
    refine ⟨g, rfl, ?_⟩
    have := World.ownsRow.cells h (g := g) rfl j (.string (bs ps[j])) (by rw [List.getElem?_map, List.getElem?_eq_getElem hj]; rfl)
    rw [Addr.add_mid, Nat.zero_add] at this
    exact this
def mkE : Option Nat → Value
  | none => .pointer none
  | some b => .pointer (some ⟨b, 0, none⟩)
theorem inv9 : ∀ key kl, keyOf Tryz.prog 9 key = some kl → ∃ x, key = encStr x := fun key kl hk => by obtain ⟨x, hx, _⟩ := Maps.keyOf_str Tryz.underlying9 hk; exact ⟨x, hx⟩
theorem invE : ∀ v y, relem v = some y → ∃ c, v = mkE c := fun v y hv => by
  rcases relem_inv hv with ⟨rfl, _⟩ | ⟨b, rfl, _⟩
  · exact ⟨none, rfl⟩
  · exact ⟨some b, rfl⟩
theorem sorted_merge {E : List Ent} (hs : Sorted Ent.k E) {ss : List (List UInt8)} (hp : ss.Perm (E.map Ent.k)) : (ss.mergeSort fun x y => decide (x ≤ y)) = E.map Ent.k := by
  have h1 := mergeSort_of_perm hp
  have h2 : (E.map Ent.k).mergeSort leB = E.map Ent.k := List.mergeSort_of_pairwise (by
    rw [List.pairwise_map]
    exact hs.imp (fun {a b} h => by
      simp only [leB, decide_eq_true_eq]
      exact List.not_lt.1 (lt_asy h)))
  exact h1.trans h2
set_option maxRecDepth 100000 in
theorem names_mem {w : World} {F : Nat → Prop} {d B : Nat} {E : List Ent} {u fuse : Int} {down : Bool} (h : DiskM w F d B E u fuse down) (hl : E.length ≤ 1000000) :
    Calls Tryz.prog 16 #[.pointer (some ⟨d, 0, none⟩)] w fun e w' => ∃ v, e = .returned v ∧ Txts w' w.heap.size v (E.map Ent.k) ∧ Below w.heap.size w w' := by
  obtain ⟨i0, hi, hz0, hz1, hz2⟩ := info_parts info9
  have hown := h.map
  have hbl := World.ownsMap.lt h.map
  have HH := Lib.hid h
  have c0 := h.self.c 0 rfl
  have hsz := size_mapOf E
  have hmax : Maps.size (mapOf E) ≤ maxLen := by rw [hsz]; unfold maxLen; omega
  have hbytes : 16 * Maps.size (mapOf E) ≤ 140737488355328 := by rw [hsz]; omega
  obtain ⟨L, hL⟩ : ∃ L, Maps.size (mapOf E) = L := ⟨_, rfl⟩
  rw [hL] at hmax hbytes hsz
  have HLS := Lib.hid hL
  have HLL := Lib.hid hsz
  clear h hsz hL
  go_enter Tryz.func16, Tryz.ntmps16
  go_wp2_with (first
    | (at_len; refine wpList_len_own _ rfl _ 83 rfl 9 89 Tryz.underlying83 relem B E.length (mapOf E) rfl hown ?_; rw [HLS.out])
    | (at_make; refine wpList_make_own _ rfl _ _ 34 rfl w.heap.size 9 i0 (.string ⟨#[]⟩) 1 Tryz.underlying34 hi hz0 hz1 _ _ _ L rfl rfl rfl (by rw [hz2]; omega) hmax (Nat.le_refl _) ?_; intro w1 hrow1 hg1; have c0' := (HH.out.self.kept hg1 (by simp)).c 0 rfl)
    | (at_range; refine wpList_range_own _ rfl _ 83 rfl 9 89 law9 Tryz.underlying83 relem B E.length (mapOf E) rfl (World.ownsMap.kept hown hg1 (by simp)) ?_; intro w0 hrg0 hg0 hs0)
    | fail)
  go_frame
  have hbnd : Hid (w.heap.size ≤ w1.heap.size) := Lib.hid hg1.size
  go_loopw [3] (fun v wr => ∃ (left : Lit → Bool) (cnt : Nat) (ss : List (List UInt8)), wr.ranges Tryz.prog 9 relem B w1.heap.size E.length (mapOf E) left cnt ∧ ss.length + cnt ≤ L ∧
      wr.ownsRow w.heap.size 9 1 v ss.length (ss.map encStr) ∧ v ≠ .slice none 0 0 ∧ Collected (mapOf E) left ss ∧ Below w.heap.size w wr)
    (fun _ wr => wr.rangeLeft B w1.heap.size)
  case atStart =>
    exact ⟨_, _, [], hrg0, by rw [HLS.out]; simp, hrow1.kept hg0 (Or.inr (by simp [Value.ownBlock])), by simp, Collected.start (mapOf E),
      ((Below.refl _ w).grown hg1 (Nat.le_refl _) (fun j hj => by cases hj)).grown hg0 hg1.size (fun j hj => by cases hj)⟩
  case round =>
    obtain ⟨left, cnt, ss, hrg, hcs, hrow, hnn, hC, hnx⟩ := hrel
    go_wp2_with (first
      | (at_next; refine wpList_next_ranges _ rfl _ rfl 9 law9 relem encStr mkE inv9 invE B w1.heap.size E.length _ _ _ rfl hrg ?_ ?_)
      | fail)
    · intro hc0 hl0
      rcases hrow.2 with ⟨hnil, _⟩ | ⟨g, cap, cur, rfl, hbase, hb, h1, h2, h3, h4⟩
      · exact absurd hnil hnn
      have hH : Holds encStr wr g 0 ss.toArray := holds_of_block hb (by simpa using h4)
      have hgl : g < wr.heap.size := (Array.getElem?_eq_some_iff.1 hb).1
      have hperm : ss.Perm (E.map Ent.k) := by
        have := hC.perm hown law9 Tryz.underlying9 hl0
        rwa [keys_mapOf] at this
      have hmerge := sorted_merge HH.out.sorted hperm
      have hlen : ss.length = (E.map Ent.k).length := hperm.length_eq
      have hc := Lib.hid (Tryz.slices_Sort_string g 0 cap ss wr hH hgl (by unfold maxLen at hmax; omega))
      have HT : Hid (∀ n os, Txts (grow (putRow encStr (Sort.ahead wr n) g 0 (ss.mergeSort fun x y => decide (x ≤ y)).toArray) os) w.heap.size (.slice (some ⟨g, 0, none⟩) ss.length cap) (E.map Ent.k)) := Lib.hid (fun n os => by
        have := ownsRow_sorted (w := wr) (n := n) (os := os) (ss := ss) (ts := E.map Ent.k) hlen.symm hbase hb h1 h2 h3
        rw [hmerge]
        unfold Txts
        rw [← hlen]
        exact this)
      have HBB : Hid (∀ n os, Below w.heap.size w (grow (putRow encStr (Sort.ahead wr n) g 0 (ss.mergeSort fun x y => decide (x ≤ y)).toArray) os)) := Lib.hid (fun n os => hnx.grown (grownBy_sorted _) hnx.size (fun j hj => by cases hj; exact hbase))
      clear hlen hmerge hperm hH hb h1 h2 h3 h4 hC hrg hrow hnx
      go_wp2_with fail
      refine (hc.out).mono ?_
      rintro e w' ⟨rfl, nn, os, rfl⟩
      have HTB := Lib.hid (And.intro (HT.out nn os) (HBB.out nn os))
      clear HT HBB hc
      revert HTB
      generalize grow (putRow encStr (Sort.ahead wr nn) g 0 (ss.mergeSort fun x y => decide (x ≤ y)).toArray) os = wz
      intro HTB
      go_wp2_with fail
      go_ret
      exact ⟨_, rfl, HTB.out.1, HTB.out.2⟩
    · intro x c kl yd yp w2 cnt2 hkey hlk hv hat hrg2 hlt hg2 hs2 hen
      obtain ⟨x', ex, rfl, _⟩ := Maps.keyOf_str Tryz.underlying9 hkey
      obtain rfl : x = x' := encStr_inj ex
      have hrow2 := hrow.kept hg2 (Or.inr (row_ne_iter hrow hrg).symm)
      clear hs2
      go_wp2_with (first
        | (at_builtin; refine wpList_append_own _ rfl _ _ 34 rfl w.heap.size 9 i0 (.string ⟨#[]⟩) 1 16 Tryz.underlying34 hi hz0 hz1 hz2 rfl (by decide) _ _ _ rfl (hrow2.alloc _) ⟨w2.heap.size, 0, none⟩ 1 1 [encStr x] rfl rfl (cell_one_new _ _ _) (by simp [Value.oneCell', encStr]) (by unfold maxLen at *; omega) (by omega) (by have := hnx.size; have := hg2.size; simp; omega) ?_; intro v' w3 hown' hg3 hnil3; go_frame)
        | fail)
      have hrg3 := (hrg2.alloc (.cells #[encStr x] 9)).kept hg3 (row_ne_low hrow2 hbl) (row_ne_iter hrow2 hrg2)
      go_roundw
      case rel =>
        refine ⟨_, cnt2, ss ++ [x], hrg3, by simp; omega, by simpa using hown', fun hv' => by have := (hnil3.1 hv').2; omega, hC.step hlk hat, ?_⟩
        exact ((hnx.grown hg2 hnx.size (fun j hj => by cases hj; exact hg1.size)).alloc (by have := hnx.size; have := hg2.size; omega) _).grown hg3 (by have := hnx.size; have := hg2.size; simp; omega) (fun j hj => (hrow2.lt j hj).1)
      case measure => rw [hrg3.left_eq, hrg.left_eq]; exact hlt
end Go.Proofs.YtghnbkkfghfifaaGreatDoor.D
/- What a crash leaves, plainly and in memory. -/
namespace Go.Proofs.YtghnbkkfghfifaaGreatDoor.D
open Go.RowKit Go.Maps
set_option linter.unusedVariables false
/-- A slice shows these numbers; they lie where P says. -/
def Ints (w : World) (P : Nat → Prop) (v : Value) (ks : List Int) : Prop :=
  (ks = [] ∧ v = .slice none 0 0) ∨ ∃ (ad : Addr) (cap : Nat), v = .slice (some ad) ks.length cap ∧ (0 < ks.length → P ad.block ∧ ad.block < w.heap.size) ∧ ∀ (j : Nat) (hj : j < ks.length), w.cell? (ad.add j) = some (.int .i64 ks[j])
theorem Ints.keptF {w w' : World} {P G : Nat → Prop} {v : Value} {ks : List Int} (h : Ints w P v ks) (hk : Kept G w w') (hPG : ∀ i, P i → ¬ G i) : Ints w' P v ks := by
  rcases h with h | ⟨ad, cap, hv, hb, hh⟩
  · exact .inl h
  · refine .inr ⟨ad, cap, hv, fun h0 => ⟨(hb h0).1, Nat.lt_of_lt_of_le (hb h0).2 hk.size⟩, fun j hj => ?_⟩
    obtain ⟨h1, h2⟩ := hb (by omega)
    rw [World.cell?_of_block (w := w) (a := ad.add j) (by rw [add_block]; exact hk.block _ h2 (hPG _ h1))]
    exact hh j hj
theorem Ints.len {w : World} {P : Nat → Prop} {v : Value} {ks : List Int} (h : Ints w P v ks) : ∃ q cap, v = .slice q ks.length cap := by
  rcases h with ⟨rfl, rfl⟩ | ⟨ad, cap, hv, _⟩
  · exact ⟨none, 0, rfl⟩
  · exact ⟨_, cap, hv⟩
theorem Ints.at {w : World} {P : Nat → Prop} {q : Option Addr} {n cap : Nat} {ks : List Int} (h : Ints w P (.slice q n cap) ks) (j : Nat) (hj : j < ks.length) : ∃ ad, q = some ad ∧ w.cell? (ad.add j) = some (.int .i64 ks[j]) := by
  rcases h with ⟨rfl, _⟩ | ⟨ad, cap', hv, _, hh⟩
  · simp at hj
  · cases hv
    exact ⟨ad, rfl, hh j hj⟩
theorem Ints.nil (w : World) (P : Nat → Prop) : Ints w P (.slice none 0 0) [] := .inl ⟨rfl, rfl⟩
theorem Ints.mono {w : World} {P Q : Nat → Prop} {v : Value} {ks : List Int} (h : Ints w P v ks) (hPQ : ∀ i, P i → i < w.heap.size → Q i) : Ints w Q v ks := by
  rcases h with h | ⟨ad, cap, hv, hb, hh⟩
  · exact .inl h
  · exact .inr ⟨ad, cap, hv, fun h0 => ⟨hPQ _ (hb h0).1 (hb h0).2, (hb h0).2⟩, hh⟩
/-- The number for the file at this place. -/
def keepAt (ks : List Int) (i : Nat) : Int := ks.getD i 0
theorem crash_snoc : ∀ (a : List Fl) (f : Fl) (ks : List Int), crashL (a ++ [f]) ks = crashL a ks ++ crashF f (keepAt ks a.length)
  | [], f, ks => by
    simp only [List.nil_append, crashL, List.append_nil]
    cases ks <;> rfl
  | g :: a, f, ks => by
    simp only [List.cons_append, crashL, List.length_cons]
    rw [crash_snoc a f ks.tail, List.append_assoc]
    congr 3
    cases ks with
    | nil => simp [keepAt]
    | cons x r => simp [keepAt]
theorem crash_take {L : List Fl} {i : Nat} (hi : i < L.length) (ks : List Int) : crashL (L.take (i + 1)) ks = crashL (L.take i) ks ++ crashF L[i] (keepAt ks i) := by
  rw [List.take_succ_eq_append_getElem hi, crash_snoc, List.length_take]
  congr 2
  congr 1
  omega
theorem insK_mid {x x' : Ent} {R : List Ent} (hk : x'.k = x.k) : ∀ {A : List Ent}, Sorted Ent.k (A ++ x :: R) → insK Ent.k x' (A ++ x :: R) = A ++ x' :: R
  | [], _ => by
    show (if x'.k < x.k then _ else if x'.k = x.k then _ else _) = _
    rw [if_neg (by rw [hk]; exact lt_irr _), if_pos hk]; rfl
  | y :: A, hs => by
    have h := List.pairwise_cons.1 hs
    have hy : y.k < x'.k := by rw [hk]; exact h.1 x (by simp)
    show (if x'.k < y.k then _ else if x'.k = y.k then _ else _) = _
    rw [if_neg (lt_asy hy), if_neg (fun e => by rw [e] at hy; exact lt_irr _ hy), show insK Ent.k x' (A.append (x :: R)) = A ++ x' :: R from insK_mid hk h.2]; rfl
theorem delK_mid {x : Ent} {R : List Ent} : ∀ {A : List Ent}, Sorted Ent.k (A ++ x :: R) → delK Ent.k x.k (A ++ x :: R) = A ++ R
  | [], hs => by
    have h := List.pairwise_cons.1 hs
    unfold delK
    rw [List.nil_append, List.filter_cons, if_neg (by simp), List.filter_eq_self.2 (fun y hy => by
      have h1 := h.1 y hy
      simp only [ne_eq, decide_not, Bool.not_eq_eq_eq_not, Bool.not_true, decide_eq_false_iff_not]
      exact fun e => by rw [e] at h1; exact lt_irr _ h1)]
    rfl
  | y :: A, hs => by
    have h := List.pairwise_cons.1 hs
    have hy : y.k < x.k := h.1 x (by simp)
    have ih := delK_mid h.2
    unfold delK at *
    rw [List.cons_append, List.filter_cons, if_pos (by
      simp only [ne_eq, decide_not, Bool.not_eq_eq_eq_not, Bool.not_true, decide_eq_false_iff_not]
      exact fun e => by rw [e] at hy; exact lt_irr _ hy), ih]
    rfl
theorem left_le (f : Fl) (left : Int) : leftN f left ≤ f.s.length - f.lasts := by unfold leftN; omega
theorem cut_len {f : Fl} (hf : f.lasts ≤ f.s.length) (left : Int) : (cutF f left).s.length = f.lasts + leftN f left := by
  have := left_le f left
  show (f.s.take _).length = _
  rw [List.length_take]
  omega
theorem gone_eq {f : Fl} (hf : f.lasts ≤ f.s.length) (left : Int) : goneF (cutF f left) = (!f.stays && decide (f.lasts + leftN f left = 0)) := by
  have := cut_len hf left
  unfold goneF
  rw [show (cutF f left).stays = f.stays from rfl]
  congr 1
  rw [← this]
  cases (cutF f left).s <;> simp
theorem crash_tot : ∀ (L : List Fl) (ks : List Int), tot (crashL L ks) ≤ tot L
  | [], ks => Nat.le_refl _
  | f :: r, ks => by
    simp only [crashL, tot_app, tot]
    have h1 := crash_tot r ks.tail
    have h2 : tot (crashF f (ks.headD 0)) ≤ f.s.length := by
      unfold crashF
      split
      · simp [tot]
      · simp only [tot, Nat.add_zero]
        show (f.s.take _).length ≤ _
        rw [List.length_take]
        omega
    omega
theorem crash_len : ∀ (L : List Fl) (ks : List Int), (crashL L ks).length ≤ L.length
  | [], ks => Nat.le_refl _
  | f :: r, ks => by
    simp only [crashL, List.length_append, List.length_cons]
    have h1 := crash_len r ks.tail
    have h2 : (crashF f (ks.headD 0)).length ≤ 1 := by unfold crashF; split <;> simp
    omega
theorem crash_mem : ∀ {L : List Fl} {ks : List Int} {g : Fl}, g ∈ crashL L ks → ∃ f ∈ L, ∃ left, g = lastF (cutF f left) ∧ goneF (cutF f left) = false
  | [], ks, g, h => by simp [crashL] at h
  | f :: r, ks, g, h => by
    simp only [crashL, List.mem_append] at h
    rcases h with h | h
    · unfold crashF at h
      split at h
      · simp at h
      · rename_i hg
        obtain rfl : g = _ := by simpa using h
        exact ⟨f, by simp, _, rfl, by simpa using hg⟩
    · obtain ⟨f', h1, h2⟩ := crash_mem h
      exact ⟨f', by simp [h1], h2⟩
theorem crash_sorted : ∀ {L : List Fl} {ks : List Int}, Sorted Fl.name L → Sorted Fl.name (crashL L ks)
  | [], ks, _ => List.Pairwise.nil
  | f :: r, ks, hs => by
    obtain ⟨h1, h2⟩ := List.pairwise_cons.1 hs
    have ih : Sorted Fl.name (crashL r ks.tail) := crash_sorted h2
    simp only [crashL]
    unfold crashF
    split
    · exact ih
    · refine List.pairwise_cons.2 ⟨fun g hg => ?_, ih⟩
      obtain ⟨f', h3, left, rfl, _⟩ := crash_mem hg
      exact h1 f' h3
theorem ok_crash {k : Dk} (h : Ok k) (ks : List Int) : Ok (crashD k ks) := by
  refine ⟨crash_sorted h.sorted, fun g hg => ?_, fun g hg => ?_, Nat.le_trans (crash_tot _ _) h.tot, Nat.le_trans (crash_len _ _) h.len, by show (-1 : Int) ≤ -1; decide, by show (-1 : Int) ≤ _; decide⟩
  · obtain ⟨f, h1, left, rfl, _⟩ := crash_mem hg
    exact h.names f h1
  · obtain ⟨f, h1, left, rfl, _⟩ := crash_mem hg
    exact Nat.le_refl _
/-- A file in memory, when it has been cut. -/
theorem cut_mem {w w' : World} {F : Nat → Prop} {d B : Nat} {A R : List Ent} {u fuse : Int} {down : Bool} {xf : Fl} {xb : Nat} {q : Option Addr} {n cap : Nat} (h : DiskM w F d B (A ++ ⟨xf, xb, .slice q n cap⟩ :: R) u fuse down) (hf : xf.lasts ≤ xf.s.length) (left : Int)
    (hb : Blk w' xb [.slice q (xf.lasts + leftN xf left : Nat) cap, .int .i64 xf.lasts, .bool xf.stays] 94) (hg : w.grownBy w' (some xb)) :
    DiskM w' F d B (A ++ ⟨cutF xf left, xb, .slice q (xf.lasts + leftN xf left) cap⟩ :: R) u fuse down ∧ Kept F w w' := by
  have hx := h.each ⟨xf, xb, .slice q n cap⟩ (by simp)
  have hle := left_le xf left
  have ho : OwnB w' 0 (.slice q n cap) xf.s := World.ownsRow.kept hx.row hg (by
    cases hv : Value.ownBlock (.slice q n cap) with
    | none => exact .inl rfl
    | some g => exact .inr (fun e => own_ne hx.row hx.cells (by decide) (by rw [hv, e])))
  have ht := ho.take (xf.lasts + leftN xf left) (by omega)
  have hsame : ∀ g, Value.ownBlock (.slice q (xf.lasts + leftN xf left) cap) = some g → Value.ownBlock (.slice q n cap) = some g := by
    intro g hg'
    cases q with
    | none => exact hg'
    | some a => exact hg'
  have h1 := h.renew (e := ⟨xf, xb, .slice q n cap⟩) (x := ⟨cutF xf left, xb, .slice q (xf.lasts + leftN xf left) cap⟩) (by simp) rfl rfl ((Kept.refl _ w).grown hg (fun j hj => by cases hj; exact .inr (.inl rfl)))
    ⟨hb, ht, hx.fb, fun g hg' => hx.fr g (hsame g hg')⟩ (fun g hg' => .inl (hsame g hg'))
  rw [insK_mid (by rfl) h.sorted] at h1
  exact ⟨h1, (Kept.refl F w).grown hg (fun j hj => by cases hj; exact .inr hx.fb)⟩
end Go.Proofs.YtghnbkkfghfifaaGreatDoor.D
/- The program's Crash. -/
namespace Go.Proofs.YtghnbkkfghfifaaGreatDoor.D
open Go.RowKit Go.Maps
set_option linter.unusedVariables false
theorem down_true {w : World} {F : Nat → Prop} {d B : Nat} {E : List Ent} {u fuse : Int} {down : Bool} (h : DiskM w F d B E u fuse down) : DiskM ((w.setCell ⟨d, 2, none⟩ (.int .i64 (-1))).setCell ⟨d, 3, none⟩ (.bool false)) F d B E u (-1) false := (h.setFuse (-1)).setDown false
theorem own_cap {w : World} {base n cap : Nat} {q : Option Addr} {l : List UInt8} (h : OwnB w base (.slice q n cap) l) : n = l.length ∧ n ≤ cap ∧ (q = none → n = 0) := by
  rcases h.2 with ⟨hv, h0⟩ | ⟨g, c, cur, hv, _, _, h1, _⟩
  · cases hv; exact ⟨h0.symm, by omega, fun _ => rfl⟩
  · cases hv; exact ⟨rfl, h1, fun e => by cases e⟩
theorem Ints.below {w w' : World} {P : Nat → Prop} {v : Value} {ks : List Int} (h : Ints w P v ks) (hb : Below w.heap.size w w') : Ints w' P v ks := by
  rcases h with h | ⟨ad, cap, hv, hbb, hh⟩
  · exact .inl h
  · refine .inr ⟨ad, cap, hv, fun h0 => ⟨(hbb h0).1, Nat.lt_of_lt_of_le (hbb h0).2 hb.size⟩, fun j hj => ?_⟩
    rw [World.cell?_of_block (w := w) (a := ad.add j) (hb.block _ (by rw [add_block]; exact (hbb (by omega)).2))]
    exact hh j hj
theorem own_blk9 {w : World} {base : Nat} {u : Value} {ps : List (List UInt8)} (h : Txts w base u ps) : ∀ g, u.ownBlock = some g → base ≤ g := own_block h
set_option maxRecDepth 100000 in
theorem crash_mem_any {w : World} {F : Nat → Prop} {d B : Nat} {E : List Ent} {k : Dk} (h : DiskM w F d B E (tot k.L : Nat) k.fuse k.down) (hE : E.map Ent.f = k.L) (hok : Ok k) (kv : Value) (ks : List Int) (hkv : Ints w (fun i => ¬ F i) kv ks) (hks : ks.length ≤ 1000000) :
    Calls Tryz.prog 25 #[.pointer (some ⟨d, 0, none⟩), kv] w fun e w' => e = .returned (.tuple #[]) ∧ DiskAt w' F d (crashD k ks) ∧ Kept F w w' := by
  have hn := Lib.hid (names_mem h (by rw [← len_E hE]; have := hok.len; omega))
  obtain ⟨q, cap, rfl⟩ := hkv.len
  obtain ⟨N, hN⟩ : ∃ N, k.L.length = N := ⟨_, rfl⟩
  have hNE : E.map Ent.k = k.L.map Fl.name := by rw [← hE, List.map_map]; rfl
  rw [hNE] at hn
  have hN4 : N ≤ 4096 := by rw [← hN]; exact hok.len
  have HM := Lib.hid (h.mono (G := fun i => F i ∧ i < w.heap.size) (fun i hi hl => ⟨hi, hl⟩))
  have HE := Lib.hid hE
  have HOK := Lib.hid hok
  have HN := Lib.hid hN
  have HKV := Lib.hid hkv
  clear h hE hok hN hkv hNE
  go_enter Tryz.func25, Tryz.ntmps25
  go_wp2_with fail
  refine (hn.out).mono ?_
  rintro e w1 ⟨v, rfl, ht, hb1⟩
  obtain ⟨q1, cap1, rfl⟩ := ht.len
  have hl1 : (k.L.map Fl.name).length = N := by rw [List.length_map, HN.out]
  rw [hl1] at ht
  have HT := Lib.hid ht
  have HB1 := Lib.hid hb1
  have HM1 := Lib.hid (HM.out.below hb1)
  rw [hl1]
  clear ht hb1 hl1 hn
  go_wp2_with fail
  go_loopw [11] (fun iv wr => ∃ (i : Nat) (A R : List Ent) (u : Nat), i ≤ N ∧ iv = .int .i64 i ∧ u ≤ 4194304 ∧ Hid (A.map Ent.f = crashL (k.L.take i) ks ∧ R.map Ent.f = k.L.drop i ∧ u = tot ((A ++ R).map Ent.f)) ∧ Hid (DiskM wr (fun i => F i ∧ i < w.heap.size) d B (A ++ R) u k.fuse k.down) ∧ Hid (Kept (fun i => F i ∧ i < w.heap.size) w1 wr)) (fun iv _ => N - (intOf iv).toNat)
  case atStart =>
    refine ⟨0, [], E, tot k.L, by omega, rfl, HOK.out.tot, ⟨by rw [List.take_zero]; rfl, by rw [HE.out]; rfl, by rw [List.nil_append, HE.out]⟩, HM1.out, Kept.refl _ _⟩
  case round =>
    obtain ⟨i, A, R, u, hi, rfl, hu, HR, HD, HK⟩ := hrel
    by_cases hlt : i < N
    · have hiL : i < k.L.length := by rw [HN.out]; exact hlt
      have hd : k.L.drop i = k.L[i] :: k.L.drop (i + 1) := List.drop_eq_getElem_cons hiL
      obtain ⟨r1, r2, r3⟩ := HR.out
      rw [hd] at r2
      cases R with
      | nil => simp at r2; omega
      | cons x R' =>
        obtain ⟨xf, xb, xv⟩ := x
        simp only [List.map_cons, List.cons.injEq] at r2
        obtain ⟨hxf, r2⟩ := r2
        have hT2 := HT.out.keptF HK.out (fun g hg hG => by have := own_blk9 HT.out g hg; omega)
        obtain ⟨g, rfl, hcn⟩ := hT2.at i (by rw [List.length_map]; exact hiL)
        rw [List.getElem_map, ← hxf] at hcn
        have hx := HD.out.each ⟨xf, xb, xv⟩ (by simp)
        obtain ⟨q2, cap2, hxv⟩ := hx.row.len
        simp only at hxv
        have hxl : xf.lasts ≤ xf.s.length := by rw [hxf]; exact HOK.out.lasts _ (List.getElem_mem hiL)
        have hxn := HOK.out.names k.L[i] (List.getElem_mem hiL)
        rw [← hxf] at hxn
        have hxt : xf.s.length ≤ u := by rw [r3]; exact tot_mem (by rw [List.map_append]; simp)
        obtain ⟨n, hn⟩ : ∃ n, xf.s.length = n := ⟨_, rfl⟩
        rw [hn] at hxv
        subst hxv
        obtain ⟨-, hcap2, hq2⟩ := own_cap hx.row
        have hlook := HD.out.map.look1 (n := xf.name) (by unfold maxLen; omega)
        have hget : getK Ent.k xf.name (A ++ ⟨xf, xb, .slice q2 n cap2⟩ :: R') = some ⟨xf, xb, .slice q2 n cap2⟩ := getK_mem (e := ⟨xf, xb, .slice q2 n cap2⟩) HD.out.sorted (by simp)
        rw [hget] at hlook
        simp only at hlook
        have hne : d ≠ xb := HD.out.self.ne hx.cells (by decide)
        have HXC : Hid (Blk wr xb [.slice q2 n cap2, .int .i64 xf.lasts, .bool xf.stays] 94) := Lib.hid hx.cells
        have c0 := HD.out.self.c 0 rfl
        have c1 := HD.out.self.c 1 rfl
        obtain ⟨la, hla⟩ : ∃ la, xf.lasts = la := ⟨_, rfl⟩
        obtain ⟨L, hL⟩ : ∃ L, keepAt ks i = L := ⟨_, rfl⟩
        obtain ⟨K, hK⟩ : ∃ K, leftN xf L = K := ⟨_, rfl⟩
        have hKK : K = min L.toNat (n - la) := by rw [← hK, ← hn, ← hla]; rfl
        rw [hla, hn] at hxl
        have HL := Lib.hid hL
        have HKK := Lib.hid hKK
        have HKe := Lib.hid hK
        have Hn := Lib.hid hn
        have Hla := Lib.hid hla
        have HXF : Hid (k.L[i]? = some xf) := Lib.hid (by rw [List.getElem?_eq_getElem hiL, ← hxf])
        have HIL := Lib.hid hiL
        have HR1 := Lib.hid r1
        have HR2 := Lib.hid r2
        have HR3 := Lib.hid r3
        have HI : Hid (Ints wr (fun i => ¬ F i) (.slice q ks.length cap) ks) := Lib.hid ((HKV.out.below HB1.out).keptF HK.out (fun i h1 h2 => h1 h2.1))
        clear r1 r2 r3 hxf hT2 hx hn hget hla hL hK hKK HR hd hiL
        obtain ⟨st, hst⟩ : ∃ st, xf.stays = st := ⟨_, rfl⟩
        have hxc := HXC.out
        rw [Hla.out, hst] at hxc
        have HXC' := Lib.hid hxc
        have hself := Lib.hid HD.out.self
        clear hxc HXC
        go_upto_if 19 with fail
        go_cut [6, 11] from 11 to 60 (fun s6 s11 wx => s6 = .int .i64 L ∧ s11 = .int .i64 i ∧ wx = wr)
        case first =>
          by_cases hk : i < ks.length
          · obtain ⟨ad, rfl, hci⟩ := HI.out.at i hk
            have e1 : ks[i] = L := by
              have := HL.out
              unfold keepAt at this
              rw [List.getD_eq_getElem?_getD, List.getElem?_eq_getElem hk] at this
              exact this
            rw [e1] at hci
            have b1 : decide ((i : Int) < (ks.length : Int)) = true := by simp; omega
            clear e1
            go_wp2_with fail
            go_meet
            exact ⟨rfl, rfl, rfl⟩
          · have e1 : L = 0 := by
              have := HL.out
              unfold keepAt at this
              rw [List.getD_eq_getElem?_getD, List.getElem?_eq_none (by omega)] at this
              exact this.symm
            have E1 := Lib.hid e1
            clear e1
            have b1 : decide ((i : Int) < (ks.length : Int)) = false := by simp; omega
            go_wp2_with fail
            go_meet
            exact ⟨by rw [E1.out], rfl, rfl⟩
        case rest =>
          obtain ⟨rfl, rfl, rfl⟩ := hcut
          obtain ⟨G, hG⟩ : ∃ G, n - la - K = G := ⟨_, rfl⟩
          have hGu : G ≤ u := by have := Hn.out; omega
          have HCUT : Hid (∀ wx, Blk wx xb [.slice q2 n cap2, .int .i64 la, .bool st] 94 → Calls Tryz.prog 61 #[.pointer (some ⟨xb, 0, none⟩), .int .i64 L] wx fun e w' => e = .returned (.int .i64 (G : Nat)) ∧ Blk w' xb [.slice q2 (la + K : Nat) cap2, .int .i64 la, .bool st] 94 ∧ wx.grownBy w' (some xb)) := Lib.hid (fun wx hbx => by
            have := cut_any (K := K) (left := L) hbx hxl hcap2 (by have := Hn.out; omega) hq2 HKK.out
            rw [hG] at this
            exact this)
          have HGG := Lib.hid hG
          have d1 := hself.out.c 1 rfl
          have HMEM : Hid (∀ w3, wc.grownBy w3 (some xb) → Blk w3 xb [.slice q2 (la + K : Nat) cap2, .int .i64 la, .bool st] 94 → DiskM w3 (fun i => F i ∧ i < w.heap.size) d B (A ++ ⟨cutF xf L, xb, .slice q2 (la + K) cap2⟩ :: R') u k.fuse k.down ∧ Kept (fun i => F i ∧ i < w.heap.size) wc w3) := Lib.hid (fun w3 hg hb => by
            have h1 := cut_mem HD.out (by rw [Hla.out, Hn.out]; exact hxl) L (w' := w3) (by rw [Hla.out, HKe.out, ‹xf.stays = st›]; exact hb) hg
            rw [Hla.out, HKe.out] at h1
            exact h1)
          have hst' := Lib.hid hst
          have HSZ := Lib.hid HD.out.fd
          clear hG hst hxt hq2
          go_upto_region 7 with fail
          go_cut [11] from 11 to 60 (fun s11 wx => s11 = .int .i64 i ∧ Hid (DiskM wx (fun i => F i ∧ i < w.heap.size) d B (A ++ ⟨cutF xf L, xb, .slice q2 (la + K) cap2⟩ :: R') ((u : Int) - (G : Int)) k.fuse k.down) ∧ Hid (Kept (fun i => F i ∧ i < w.heap.size) w1 wx))
          case first =>
            have hww : IntKind.i64.wrap ((u : Int) - (G : Int)) = (u : Int) - (G : Int) := by rw [IntKind.wrap_i64]; omega
            go_region_with ((go_at_call 61; refine (HCUT.out _ HXC'.out.drew).mono ?_; rintro e w3 ⟨rfl, hb3, hg3⟩; have hm3 := HMEM.out w3 ⟨hg3.os, hg3.tape, hg3.output, hg3.size, hg3.block⟩ hb3; have c31 := hm3.1.self.c 1 rfl; have f31 := hm3.1.self.f 1; have HM3 := Lib.hid hm3; clear hm3 hb3 hg3))
            all_goals (go_wp2_with fail)
            all_goals (try rw [hww])
            all_goals (go_meet; exact ⟨rfl, HM3.out.1.setUsed _, (HK.out.trans HM3.out.2).set _ _ (.inr HSZ.out)⟩)
          case rest =>
            obtain ⟨rfl, HD3, HK3⟩ := hcut
            obtain ⟨E1, hE1⟩ : ∃ E1, E1 = A ++ ⟨cutF xf L, xb, .slice q2 (la + K) cap2⟩ :: R' := ⟨_, rfl⟩
            rw [← hE1] at HD3
            have hx1 : (⟨cutF xf L, xb, .slice q2 (la + K) cap2⟩ : Ent) ∈ E1 := by rw [hE1]; simp
            have HE1 := Lib.hid hE1
            have HX1 := Lib.hid hx1
            clear hE1 hx1
            have hLK : Hid ((cutF xf L).s.length = la + K) := Lib.hid (by
              rw [cut_len (by rw [Hla.out, Hn.out]; exact hxl) L, Hla.out, HKe.out])
            have hgone : Hid (goneF (cutF xf L) = (!st && decide (la + K = 0))) := Lib.hid (by
              rw [gone_eq (by rw [Hla.out, Hn.out]; exact hxl) L, Hla.out, HKe.out, hst'.out])
            have hu' : Hid (((u - G : Nat) : Int) = (u : Int) - (G : Int)) := Lib.hid (by omega)
            have hct : Hid (crashL (k.L.take (i + 1)) ks = crashL (k.L.take i) ks ++ crashF xf L) := Lib.hid (by
              have h1 := crash_take HIL.out ks
              have h2 := HXF.out
              rw [List.getElem?_eq_getElem HIL.out] at h2
              rw [h1, Option.some.inj h2, HL.out])
            have hxe := HD3.out.each _ HX1.out
            have hbx : Blk wc xb [.slice q2 (la + K : Nat) cap2, .int .i64 la, .bool st] 94 := by
              have := hxe.cells
              rw [show (cutF xf L).lasts = xf.lasts from rfl, show (cutF xf L).stays = xf.stays from rfl, Hla.out, hst'.out] at this
              exact this
            have e0 := hbx.c 0 rfl
            have e2 := hbx.c 2 rfl
            have m0 := HD3.out.self.c 0 rfl
            have hlast := Lib.hid (last_any hbx)
            have hmap := HD3.out.map
            have hkey := key9 (n := xf.name) (by unfold maxLen; omega)
            have hLLK : la + K ≤ n := by have := HKK.out; omega
            clear hxe hbx
            by_cases hgo : st = false ∧ la + K = 0
            · obtain ⟨rfl, h0⟩ := hgo
              have g0 : (((la + K : Nat) : Int) == 0) = true := by rw [h0]; rfl
              have hg0 : Hid (goneF (cutF xf L) = true) := Lib.hid (by rw [hgone.out, h0]; rfl)
              have H0 := Lib.hid h0
              clear h0
              go_wp2_with (at_delete; refine wpList_delete_own _ rfl _ _ 83 9 rfl 89 law9 Tryz.underlying83 relem B _ _ rfl hmap _ (.string xf.name) rfl hkey ?_)
              intro w4 hown4 hturn4
              have hd4 := HD3.out.drop (n := xf.name) hturn4.grown hown4
              have hk4 : Hid (Kept (fun i => F i ∧ i < w.heap.size) w1 w4) := Lib.hid (HK3.out.grown hturn4.grown (fun j hj => by cases hj; exact .inr HD3.out.fB))
              have hR4 : Hid (A.map Ent.f = crashL (k.L.take (i + 1)) ks ∧ R'.map Ent.f = k.L.drop (i + 1) ∧ u - G = tot ((A ++ R').map Ent.f)) := Lib.hid (by
                refine ⟨?_, HR2.out, ?_⟩
                · rw [hct.out, HR1.out]
                  unfold crashF
                  rw [if_pos hg0.out, List.append_nil]
                · have h1 := HR3.out
                  have h2 := HGG.out
                  have h3 := H0.out
                  have h4 := Hn.out
                  simp only [List.map_append, List.map_cons, tot_app, tot] at h1 ⊢
                  omega)
              have hD4 : Hid (DiskM w4 (fun i => F i ∧ i < w.heap.size) d B (A ++ R') ((u - G : Nat) : Int) k.fuse k.down) := Lib.hid (by
                have h1 : delK Ent.k xf.name E1 = A ++ R' := by
                  have h2 := HD3.out.sorted
                  rw [HE1.out] at h2 ⊢
                  exact delK_mid (x := ⟨cutF xf L, xb, .slice q2 (la + K) cap2⟩) h2
                rw [h1] at hd4
                rw [hu'.out]
                exact hd4)
              have hu4 : u - G ≤ 4194304 := by omega
              clear hown4 hturn4 hd4 hmap m0 e0 e2
              go_wp2_with fail
              refine ⟨⟨i + 1, A, R', u - G, by omega, by simp, hu4, hR4, hD4, hk4⟩, ?_⟩
              simp only [intOf]
              omega
            · have hg0 : Hid (goneF (cutF xf L) = false) := Lib.hid (by
                rw [hgone.out]
                cases st with
                | true => rfl
                | false =>
                  have : decide (la + K = 0) = false := decide_eq_false (fun h => hgo ⟨rfl, h⟩)
                  rw [this]; rfl)
              have hR4 : Hid ((A ++ ([⟨lastF (cutF xf L), xb, .slice q2 (la + K) cap2⟩] : List Ent)).map Ent.f = crashL (k.L.take (i + 1)) ks ∧ R'.map Ent.f = k.L.drop (i + 1) ∧ u - G = tot (((A ++ ([⟨lastF (cutF xf L), xb, .slice q2 (la + K) cap2⟩] : List Ent)) ++ R').map Ent.f)) := Lib.hid (by
                refine ⟨?_, HR2.out, ?_⟩
                · rw [hct.out, List.map_append, HR1.out]
                  unfold crashF
                  rw [if_neg (by rw [hg0.out]; simp)]
                  rfl
                · have h1 := HR3.out
                  have h2 := HGG.out
                  have h3 := hLK.out
                  have h4 := Hn.out
                  simp only [List.map_append, List.map_cons, List.map_nil, tot_app, tot] at h1 ⊢
                  have h5 : (lastF (cutF xf L)).s.length = la + K := h3
                  omega)
              have hD4 : Hid (∀ w4, wc.grownBy w4 (some xb) → Blk w4 xb [.slice q2 (la + K : Nat) cap2, .int .i64 ((la + K : Nat) : Int), .bool true] 94 → DiskM w4 (fun i => F i ∧ i < w.heap.size) d B ((A ++ ([⟨lastF (cutF xf L), xb, .slice q2 (la + K) cap2⟩] : List Ent)) ++ R') ((u - G : Nat) : Int) k.fuse k.down ∧ Kept (fun i => F i ∧ i < w.heap.size) w1 w4) := Lib.hid (fun w4 hg hb => by
                obtain ⟨h1, h2⟩ := last_mem HD3.out HX1.out (by rw [hLK.out]; exact hb) hg
                have h3 : insK Ent.k ⟨lastF (cutF xf L), xb, .slice q2 (la + K) cap2⟩ E1 = (A ++ ([⟨lastF (cutF xf L), xb, .slice q2 (la + K) cap2⟩] : List Ent)) ++ R' := by
                  have h2 := HD3.out.sorted
                  rw [HE1.out] at h2 ⊢
                  rw [insK_mid (by rfl) h2, List.append_assoc]
                  rfl
                rw [h3] at h1
                rw [hu'.out]
                exact ⟨h1, HK3.out.trans h2⟩)
              have hu4 : u - G ≤ 4194304 := by omega
              clear hmap m0
              cases st with
              | true =>
                go_wp2_with fail
                refine (hlast.out).mono ?_
                rintro e w4 ⟨rfl, hb4, hg4⟩
                have hD5 := Lib.hid (hD4.out w4 hg4 hb4)
                clear hb4 hg4
                go_wp2_with fail
                refine ⟨⟨i + 1, _, R', u - G, by omega, by simp, hu4, hR4, hD5.out.1, hD5.out.2⟩, ?_⟩
                simp only [intOf]
                omega
              | false =>
                have hz : (((la + K : Nat) : Int) == 0) = false := by
                  have : ¬ la + K = 0 := fun h => hgo ⟨rfl, h⟩
                  simp only [beq_eq_false_iff_ne, ne_eq]
                  omega
                go_wp2_with fail
                refine (hlast.out).mono ?_
                rintro e w4 ⟨rfl, hb4, hg4⟩
                have hD5 := Lib.hid (hD4.out w4 hg4 hb4)
                clear hb4 hg4
                go_wp2_with fail
                refine ⟨⟨i + 1, _, R', u - G, by omega, by simp, hu4, hR4, hD5.out.1, hD5.out.2⟩, ?_⟩
                simp only [intOf]
                omega
    · obtain rfl : i = N := by omega
      obtain ⟨r1, r2, r3⟩ := HR.out
      have hR0 : R = [] := by
        rw [List.drop_of_length_le (by rw [HN.out]; exact Nat.le_refl _)] at r2
        simpa using r2
      subst hR0
      rw [List.append_nil] at r3 HD
      rw [List.take_of_length_le (by rw [HN.out]; exact Nat.le_refl _)] at r1
      have f2 := HD.out.self.f 2
      have f3 := HD.out.self.f 3
      have c2 := HD.out.self.c 2 rfl
      have c3 := HD.out.self.c 3 rfl
      have hfin : Hid (DiskAt ((wr.setCell ⟨d, 2, none⟩ (.int .i64 (-1))).setCell ⟨d, 3, none⟩ (.bool false)) F d (crashD k ks)) := Lib.hid (by
        refine ⟨B, A, ?_, r1, ok_crash HOK.out ks⟩
        have h1 := (down_true HD.out).mono (G := F) (fun i hi _ => hi.1)
        have h2 : (u : Int) = ((tot (crashD k ks).L : Nat) : Int) := by rw [r3, r1]; rfl
        rw [← h2]
        exact h1)
      have hkk : Hid (Kept F w ((wr.setCell ⟨d, 2, none⟩ (.int .i64 (-1))).setCell ⟨d, 3, none⟩ (.bool false))) := Lib.hid (by
        have h1 : Kept F w w1 := (Kept.refl F w).of_below HB1.out (fun i hi _ => hi)
        exact ((h1.trans (HK.out.mono (fun i hi => hi.1))).set _ _ (.inr HM.out.fd.1)).set _ _ (.inr HM.out.fd.1))
      clear r1 r2 r3 HR
      go_wp2_with fail
      go_end0
      exact ⟨rfl, hfin.out, hkk.out⟩
/-- Crash, whatever there is. -/
theorem crash_any {w : World} {F : Nat → Prop} {d : Nat} {k : Dk} (h : DiskAt w F d k) (kv : Value) (ks : List Int) (hkv : Ints w (fun i => ¬ F i) kv ks) (hks : ks.length ≤ 1000000) :
    Calls Tryz.prog 25 #[.pointer (some ⟨d, 0, none⟩), kv] w fun e w' => e = .returned (.tuple #[]) ∧ DiskAt w' F d (crashD k ks) ∧ Kept F w w' := by
  obtain ⟨B, E, hm, hE, hok⟩ := h
  exact crash_mem_any hm hE hok kv ks hkv hks
end Go.Proofs.YtghnbkkfghfifaaGreatDoor.D
/- The chapter's example. -/
namespace Go.Proofs.YtghnbkkfghfifaaGreatDoor.D
open Go.RowKit Go.Maps
set_option linter.unusedVariables false
theorem DiskAt.alloc {w : World} {F : Nat → Prop} {d : Nat} {k : Dk} (h : DiskAt w F d k) (o : Obj) : DiskAt (w.alloc o) F d k := by
  obtain ⟨B, E, hm, hE, hok⟩ := h
  exact ⟨B, E, hm.alloc o, hE, hok⟩
theorem DiskAt.mono {w : World} {F G : Nat → Prop} {d : Nat} {k : Dk} (h : DiskAt w F d k) (hFG : ∀ i, F i → i < w.heap.size → G i) : DiskAt w G d k := by
  obtain ⟨B, E, hm, hE, hok⟩ := h
  exact ⟨B, E, hm.mono hFG, hE, hok⟩
theorem DiskAt.below {w w' : World} {F : Nat → Prop} {d : Nat} {k : Dk} (h : DiskAt w F d k) (hb : Below w.heap.size w w') : DiskAt w' F d k := by
  obtain ⟨B, E, hm, hE, hok⟩ := h
  exact ⟨B, E, hm.below hb, hE, hok⟩
theorem DiskAt.far {w w' : World} {F G : Nat → Prop} {d : Nat} {k : Dk} (h : DiskAt w F d k) (hk : Kept G w w') (hFG : ∀ i, F i → i < w.heap.size → ¬ G i) : DiskAt w' F d k := by
  obtain ⟨B, E, hm, hE, hok⟩ := h
  exact ⟨B, E, hm.far hk hFG, hE, hok⟩
theorem DiskAt.drewN {w : World} {F : Nat → Prop} {d : Nat} {k : Dk} (h : DiskAt w F d k) (n : Nat) : DiskAt (w.drewN n) F d k := by
  obtain ⟨B, E, hm, hE, hok⟩ := h
  exact ⟨B, E, hm.quiet (grown_drewN (grown_refl _ _) n), hE, hok⟩
theorem DiskAt.lt {w : World} {F : Nat → Prop} {d : Nat} {k : Dk} (h : DiskAt w F d k) : d < w.heap.size ∧ F d := by
  obtain ⟨B, E, hm, hE, hok⟩ := h
  exact ⟨hm.self.lt, hm.fd⟩
theorem DiskAt.down {w : World} {F : Nat → Prop} {d : Nat} {k : Dk} (h : DiskAt w F d k) : w.cell? ⟨d, 3, none⟩ = some (.bool k.down) := by
  obtain ⟨B, E, hm, hE, hok⟩ := h
  exact hm.self.c 3 rfl
theorem ok_new : Ok newD := ⟨List.Pairwise.nil, (by intro f hf; cases hf), (by intro f hf; cases hf), by decide, by decide, by decide, by decide⟩
theorem new_dk (w : World) (F : Nat → Prop) (hF : ∀ i, w.heap.size ≤ i → F i) : Calls Tryz.prog 13 #[] w fun e w' => ∃ d, e = .returned (.pointer (some ⟨d, 0, none⟩)) ∧ DiskAt w' F d newD ∧ Below w.heap.size w w' := by
  refine (new_any w F hF).mono ?_
  rintro e w' ⟨d, B, rfl, hm, hb⟩
  exact ⟨d, rfl, ⟨B, [], hm, rfl, ok_new⟩, hb⟩
theorem ok_arm {k : Dk} (h : Ok k) {n : Int} (hn : n ≤ 9223372036854775807) : Ok (armD k n) :=
  ⟨h.sorted, h.names, h.lasts, h.tot, h.len, by show -1 ≤ max n (-1); omega, by show max n (-1) ≤ _; omega⟩
theorem arm_dk {w : World} {F : Nat → Prop} {d : Nat} {k : Dk} (h : DiskAt w F d k) (n : Int) (hn : n ≤ 9223372036854775807) :
    Calls Tryz.prog 32 #[.pointer (some ⟨d, 0, none⟩), .int .i64 n] w fun e w' => e = .returned (.tuple #[]) ∧ DiskAt w' F d (armD k n) ∧ Kept F w w' := by
  obtain ⟨B, E, hm, hE, hok⟩ := h
  refine (arm_any hm n).mono ?_
  rintro e w' ⟨rfl, hm', hg⟩
  exact ⟨rfl, ⟨B, E, hm', hE, ok_arm hok hn⟩, (Kept.refl F w).grown hg (fun j hj => by cases hj; exact .inr hm.fd)⟩
theorem lit_seen (w : World) (l : List UInt8) (fr : Nat × Nat) : Seen (w.alloc (.cells (u8s l).toArray 5 fr)) (w.alloc (.cells (u8s l).toArray 5 fr)).heap.size (.slice (some ⟨w.heap.size, 0, none⟩) l.length l.length) l := by
  refine Seen.mk rfl (Nat.le_refl _) (fun _ => by simp) (fun j hj => ?_)
  have hh := heap_alloc_new w (.cells (u8s l).toArray 5 fr)
  have := u8s_get hj
  rw [Addr.add_mid, Nat.zero_add]
  simp only [World.cell?, hh]
  simpa using this
end Go.Proofs.YtghnbkkfghfifaaGreatDoor.D
/- Texts as bytes; names; disks of one file. -/
namespace Go.Proofs.YtghnbkkfghfifaaGreatDoor.D
open Go.RowKit Go.Maps
set_option linter.unusedVariables false
def gcap (w : World) (l : List UInt8) : Nat := grownCap w l.length 0 5
def crow (w : World) (l : List UInt8) : Array Value := bytesRow (bs l) (gcap w l)
def cfr (w : World) (l : List UInt8) : Nat × Nat := ((crow w l).size, (crow w l).size + 1)
theorem run_conv (w : World) (l : List UInt8) : (convert 9 38 (.string (bs l))).run Tryz.prog w = .ok (.slice (some ⟨w.heap.size, 0, none⟩) l.length (gcap w l)) (w.alloc (.cells (crow w l) 5 (cfr w l))).drew := by
  have := run_bytes_of_string (P := Tryz.prog) w 9 38 5 (bs l) Tryz.underlying9 Tryz.underlying38 Tryz.underlying5
  rw [this]
  unfold cfr crow gcap
  rw [bs_size]
  rfl
theorem conv_seen (w : World) (l : List UInt8) : Seen (w.alloc (.cells (crow w l) 5 (cfr w l))).drew (w.alloc (.cells (crow w l) 5 (cfr w l))).drew.heap.size (.slice (some ⟨w.heap.size, 0, none⟩) l.length (gcap w l)) l := by
  refine Seen.mk rfl ?_ (fun _ => ?_) (fun j hj => ?_)
  · exact grownCap_ge w _ _ _
  · show w.heap.size < (w.alloc _).heap.size
    simp
  · rw [Addr.add_mid, Nat.zero_add]
    show (w.alloc (.cells (crow w l) 5 (cfr w l))).cell? ⟨w.heap.size, j, none⟩ = _
    rw [World.cell?_alloc_mark]
    unfold crow
    rw [bytesRow_at _ _ _ (by simpa [bs] using hj)]
    simp [bs]
theorem DiskAt.conv {w : World} {F : Nat → Prop} {d : Nat} {k : Dk} (h : DiskAt w F d k) (l : List UInt8) : DiskAt (w.alloc (.cells (crow w l) 5 (cfr w l))).drew F d k := (h.alloc _).drewN 1
theorem Kept.conv {F : Nat → Prop} {a w : World} (h : Kept F a w) (l : List UInt8) : Kept F a (w.alloc (.cells (crow w l) 5 (cfr w l))).drew := (h.alloc _).drew
theorem conv_size (w : World) (l : List UInt8) : (w.alloc (.cells (crow w l) 5 (cfr w l))).drew.heap.size = w.heap.size + 1 := by
  show (w.alloc _).heap.size = _
  simp
theorem names_dk {w : World} {F : Nat → Prop} {d : Nat} {k : Dk} (h : DiskAt w F d k) :
    Calls Tryz.prog 16 #[.pointer (some ⟨d, 0, none⟩)] w fun e w' => ∃ q cap, e = .returned (.slice q k.L.length cap) ∧ Txts w' w.heap.size (.slice q k.L.length cap) (k.L.map Fl.name) ∧ DiskAt w' F d k ∧ Below w.heap.size w w' := by
  have hh := h
  obtain ⟨B, E, hm, hE, hok⟩ := h
  refine (names_mem hm (by rw [← len_E hE]; have := hok.len; omega)).mono ?_
  rintro e w' ⟨v, rfl, ht, hb⟩
  have hNE : E.map Ent.k = k.L.map Fl.name := by rw [← hE, List.map_map]; rfl
  rw [hNE] at ht
  obtain ⟨q, cap, rfl⟩ := ht.len
  rw [List.length_map] at ht ⊢
  exact ⟨q, cap, rfl, ht, hh.below hb, hb⟩
theorem ask_ok {k : Dk} {n : List UInt8} (hd : k.down = false) (h1 : 1 ≤ n.length) (h2 : n.length ≤ 64) : ask k n = 0 := by
  unfold ask; rw [hd, if_neg (by simp), if_neg (by omega)]
end Go.Proofs.YtghnbkkfghfifaaGreatDoor.D
/- Where blocks of a disk are not. -/
namespace Go.Proofs.YtghnbkkfghfifaaGreatDoor.D
open Go.RowKit Go.Maps
set_option linter.unusedVariables false
/-- Where a block of the disk isn't: another type. -/
theorem DiskM.not {w : World} {F : Nat → Prop} {d B : Nat} {E : List Ent} {u fuse : Int} {down : Bool} (h : DiskM w F d B E u fuse down) {b : Nat} {cs : Array Value} {t : TypeId} {fr : Nat × Nat} (hb : w.heap[b]? = some (.cells cs t fr)) (h1 : t ≠ 85) (h2 : t ≠ 94) (h3 : t ≠ 5) : DiskM w (fun i => F i ∧ i ≠ b) d B E u fuse down := by
  refine ⟨h.self, h.map, fun e he => ⟨(h.each e he).cells, (h.each e he).row, ⟨(h.each e he).fb, ?_⟩, fun g hg => ⟨(h.each e he).fr g hg, ?_⟩⟩, h.apart, ⟨h.fd, ?_⟩, ⟨h.fB, ?_⟩, h.sorted⟩
  · rintro e1
    have := (h.each e he).cells
    unfold Blk at this
    rw [e1, hb] at this
    cases this
    exact h2 rfl
  · rintro rfl
    obtain ⟨cur, hh⟩ := own_blk (h.each e he).row hg
    rw [hb] at hh
    cases hh
    exact h3 rfl
  · rintro e1
    have := h.self
    unfold Blk at this
    rw [e1, hb] at this
    cases this
    exact h1 rfl
  · rintro rfl
    exact h.map.notCells hb rfl
theorem DiskAt.not {w : World} {F : Nat → Prop} {d : Nat} {k : Dk} (h : DiskAt w F d k) {b : Nat} {cs : Array Value} {t : TypeId} {fr : Nat × Nat} (hb : w.heap[b]? = some (.cells cs t fr)) (h1 : t ≠ 85) (h2 : t ≠ 94) (h3 : t ≠ 5) : DiskAt w (fun i => F i ∧ i ≠ b) d k := by
  obtain ⟨B, E, hm, hE, hok⟩ := h
  exact ⟨B, E, hm.not hb h1 h2 h3, hE, hok⟩
end Go.Proofs.YtghnbkkfghfifaaGreatDoor.D
