/- A disk in memory: its four cells, its map, its files' cells, their bytes. -/
import Derived.Test.YtfkefppabjbbdaaA
import Derived.Test.YtfkefppabjbbdaaB
import Derived.Maps.Ext
import Derived.Maps.RangeWalk
import Derived.Sort.KeysCollected
import Derived.Sort.Walk0
namespace Go.Proofs.Ytfkefppabjbbdaa
open Go.RowKit Go.Maps
set_option linter.unusedVariables false
/-- A block of cells. -/
def Blk (w : World) (b : Nat) (cs : List Value) (t : TypeId) : Prop := w.heap[b]? = some (.cells cs.toArray t (0, 0))
theorem Blk.lt {w : World} {b : Nat} {cs : List Value} {t : TypeId} (h : Blk w b cs t) : b < w.heap.size := lt_of_block h
theorem Blk.c {w : World} {b : Nat} {cs : List Value} {t : TypeId} (h : Blk w b cs t) (i : Nat) {u : Value} (hi : cs[i]? = some u) : w.cell? ⟨b, i, none⟩ = some u := by unfold Blk at h; simp [World.cell?, h, hi]
theorem Blk.f {w : World} {b : Nat} {cs : List Value} {t : TypeId} (h : Blk w b cs t) (i : Nat) : w.frozen? ⟨b, i, none⟩ = false := by unfold Blk at h; simp [World.frozen?, h]
theorem Blk.set {w : World} {b : Nat} {cs : List Value} {t : TypeId} (h : Blk w b cs t) (i : Nat) (u : Value) : Blk (w.setCell ⟨b, i, none⟩ u) b (cs.set i u) t := by
  have hlt := h.lt
  have h' : w.heap[b] = .cells cs.toArray t (0, 0) := by unfold Blk at h; simpa [Array.getElem?_eq_getElem hlt] using h
  show (w.heap.modify b _)[b]? = _
  rw [Array.getElem?_eq_getElem (by simpa using hlt), Array.getElem_modify_self, h']
  simp
theorem Blk.other {w : World} {b : Nat} {cs : List Value} {t : TypeId} (h : Blk w b cs t) {a : Addr} (ha : b ≠ a.block) (u : Value) : Blk (w.setCell a u) b cs t := by
  unfold Blk; rw [Below.heap_setCell _ _ _ _ ha]; exact h
theorem Blk.kept {w w' : World} {b : Nat} {cs : List Value} {t : TypeId} {row : Option Nat} (h : Blk w b cs t) (hg : w.grownBy w' row) (hr : some b ≠ row) : Blk w' b cs t := by
  unfold Blk; rw [hg.block b h.lt hr]; exact h
theorem Blk.alloc {w : World} {b : Nat} {cs : List Value} {t : TypeId} (h : Blk w b cs t) (o : Obj) : Blk (w.alloc o) b cs t := h.kept (World.grownBy_alloc w o none) (by simp)
theorem Blk.new (w : World) (cs : List Value) (t : TypeId) : Blk (w.alloc (.cells cs.toArray t)) w.heap.size cs t := by
  show (w.heap.push _)[_]? = _
  simp
theorem Blk.at {w : World} {b : Nat} (hb : b = w.heap.size) (cs : List Value) (t : TypeId) : Blk (w.alloc (.cells cs.toArray t)) b cs t := by
  subst hb
  exact Blk.new w cs t
theorem Blk.below {w w' : World} {B b : Nat} {cs : List Value} {t : TypeId} (h : Blk w b cs t) (hb : Below B w w') (hl : b < B) : Blk w' b cs t := by
  unfold Blk; rw [hb.block b hl]; exact h
theorem Blk.ne {w : World} {b b' : Nat} {cs cs' : List Value} {t t' : TypeId} (h : Blk w b cs t) (h' : Blk w b' cs' t') (ht : t ≠ t') : b ≠ b' := by
  rintro rfl
  unfold Blk at h h'
  rw [h] at h'
  cases h'
  exact ht rfl
/-- Only blocks in F have turned, and new ones are there. -/
structure Kept (F : Nat → Prop) (w w' : World) : Prop where
  os : w'.os = w.os
  tape : w'.tape = w.tape
  output : w'.output = w.output
  size : w.heap.size ≤ w'.heap.size
  block : ∀ k, k < w.heap.size → ¬ F k → w'.heap[k]? = w.heap[k]?
theorem Kept.refl (F : Nat → Prop) (w : World) : Kept F w w := ⟨rfl, rfl, rfl, Nat.le_refl _, fun _ _ _ => rfl⟩
theorem Kept.trans {F : Nat → Prop} {a b c : World} (h : Kept F a b) (k : Kept F b c) : Kept F a c :=
  ⟨k.os.trans h.os, k.tape.trans h.tape, k.output.trans h.output, Nat.le_trans h.size k.size, fun i hi hF => (k.block i (Nat.lt_of_lt_of_le hi h.size) hF).trans (h.block i hi hF)⟩
theorem Kept.grown {F : Nat → Prop} {a b c : World} {row : Option Nat} (h : Kept F a b) (k : b.grownBy c row) (hr : ∀ j, row = some j → a.heap.size ≤ j ∨ F j) : Kept F a c :=
  ⟨k.os.trans h.os, k.tape.trans h.tape, k.output.trans h.output, Nat.le_trans h.size k.size, fun i hi hF => by
    refine (k.block i (Nat.lt_of_lt_of_le hi h.size) (fun e => ?_)).trans (h.block i hi hF)
    rcases hr i e.symm with h1 | h1
    · omega
    · exact hF h1⟩
theorem Kept.alloc {F : Nat → Prop} {a b : World} (h : Kept F a b) (o : Obj) : Kept F a (b.alloc o) := h.grown (World.grownBy_alloc b o none) (fun j hj => by cases hj)
theorem grownBy_set (w : World) (a : Addr) (u : Value) : w.grownBy (w.setCell a u) (some a.block) :=
  ⟨rfl, rfl, rfl, by simp [World.setCell], fun k hk hne => Below.heap_setCell _ _ _ _ (fun e => hne (by rw [e]))⟩
theorem Kept.set {F : Nat → Prop} {a b : World} (h : Kept F a b) (p : Addr) (u : Value) (hp : a.heap.size ≤ p.block ∨ F p.block) : Kept F a (b.setCell p u) := h.grown (grownBy_set b p u) (fun j hj => by cases hj; exact hp)
theorem Kept.drew {F : Nat → Prop} {a b : World} (h : Kept F a b) : Kept F a b.drew := ⟨h.os, h.tape, h.output, h.size, h.block⟩
theorem Kept.drewN {F : Nat → Prop} {a b : World} (h : Kept F a b) (n : Nat) : Kept F a (b.drewN n) := ⟨h.os, h.tape, h.output, h.size, h.block⟩
theorem Kept.mono {F G : Nat → Prop} {a b : World} (h : Kept F a b) (hFG : ∀ i, F i → G i) : Kept G a b := ⟨h.os, h.tape, h.output, h.size, fun k hk hG => h.block k hk (fun hF => hG (hFG k hF))⟩
theorem Kept.below {F : Nat → Prop} {a b : World} (h : Kept F a b) {B : Nat} (hB : B ≤ a.heap.size) (hF : ∀ i, F i → B ≤ i) : Below B a b :=
  ⟨h.os, h.tape, h.output, h.size, fun k hk => h.block k (Nat.lt_of_lt_of_le hk hB) (fun e => by have := hF k e; omega)⟩
theorem Kept.of_below {F : Nat → Prop} {a b c : World} (h : Kept F a b) {B : Nat} (k : Below B b c) (hB : ∀ i, i < a.heap.size → ¬ F i → i < B) : Kept F a c :=
  ⟨k.os.trans h.os, k.tape.trans h.tape, k.output.trans h.output, Nat.le_trans h.size k.size, fun i hi hF => (k.block i (hB i hi hF)).trans (h.block i hi hF)⟩
/-- A file in memory. -/
structure Ent where
  f : Fl
  blk : Nat
  v : Value
def Ent.k (e : Ent) : List UInt8 := e.f.name
/-- An element of the map: a file's block. -/
def relem (v : Value) : Option (DataW Unit × List MemPlace) :=
  match v with
  | .pointer (some ⟨b, 0, none⟩) => some (.lit (.int .i64 b), [])
  | .pointer none => some (.nil, [])
  | _ => none
theorem relem_inv {v : Value} {y : DataW Unit × List MemPlace} (h : relem v = some y) : (v = .pointer none ∧ y = (.nil, [])) ∨ ∃ b : Nat, v = .pointer (some ⟨b, 0, none⟩) ∧ y = (.lit (.int .i64 b), []) := by
  unfold relem at h
  split at h
  · cases h; exact .inr ⟨_, rfl, rfl⟩
  · cases h; exact .inl ⟨rfl, rfl⟩
  · cases h
theorem relem_at {v : Value} {ps : List MemPlace} {b : Nat} (h : relem v = some (.lit (.int .i64 b), ps)) : v = .pointer (some ⟨b, 0, none⟩) := by
  rcases relem_inv h with ⟨_, e⟩ | ⟨c, rfl, e⟩
  · cases e
  · simp only [Prod.mk.injEq, DataW.lit.injEq, Lit.int.injEq, true_and] at e
    have : b = c := by omega
    rw [this]
theorem relem_nil {v : Value} {ps : List MemPlace} (h : relem v = some (.nil, ps)) : v = .pointer none := by
  rcases relem_inv h with ⟨rfl, _⟩ | ⟨c, rfl, e⟩
  · rfl
  · simp at e
def pairOf (e : Ent) : Lit × DataW Unit := (.string e.f.name, .lit (.int .i64 e.blk))
def mapOf (E : List Ent) : DataW Unit := .map (E.map pairOf)
theorem before_eq (a b : List UInt8) : (Lit.string a).before (.string b) = decide (a < b) := by
  rw [← Go.Proofs.bytesLess_eq]
  show bytesBefore a b = _
  induction a generalizing b with
  | nil => cases b <;> rfl
  | cons x r ih =>
    cases b with
    | nil => rfl
    | cons y s => simp only [bytesBefore, Op.bytesLess, ih]
theorem same_eq (a b : List UInt8) : (Lit.string a).sameKey (.string b) = decide (a = b) := by
  show (a == b) = _
  by_cases h : a = b <;> simp [h]
theorem has_mapOf (E : List Ent) (n : List UInt8) : Maps.has (mapOf E) (.string n) = (getK Ent.k n E).isSome := by
  show (E.map pairOf).any _ = _
  unfold getK
  induction E with
  | nil => rfl
  | cons x r ih =>
    rw [List.map_cons, List.any_cons, ih, List.find?_cons]
    show ((Lit.string x.f.name).sameKey _ || _) = _
    rw [same_eq]
    by_cases h : x.f.name = n
    · simp [h, Ent.k]
    · simp [h, Ent.k]
theorem at_mapOf (E : List Ent) (n : List UInt8) (z : DataW Unit) : (mapOf E).atKey (.string n) z = match getK Ent.k n E with | some e => .lit (.int .i64 e.blk) | none => z := by
  unfold mapOf DataW.atKey getK
  simp only
  induction E with
  | nil => rfl
  | cons x r ih =>
    rw [List.map_cons, List.find?_cons, List.find?_cons]
    have e : (pairOf x).1.sameKey (.string n) = decide (x.k = n) := same_eq _ _
    rw [e]
    by_cases h : x.k = n
    · simp only [h, decide_true]; rfl
    · simp only [h, decide_false]; exact ih
theorem keep_pair (n : List UInt8) (E : List Ent) : (E.map pairOf).filter (fun p => !p.1.sameKey (.string n)) = (delK Ent.k n E).map pairOf := by
  unfold delK
  rw [List.filter_map]
  congr 1
  apply List.filter_congr
  intro x _
  have e : (pairOf x).1.sameKey (.string n) = decide (x.k = n) := same_eq _ _
  show (!(pairOf x).1.sameKey (.string n)) = _
  rw [e]
  by_cases h : x.k = n <;> simp [h]
theorem del_mapOf (n : List UInt8) (E : List Ent) : (mapOf E).del (.string n) = mapOf (delK Ent.k n E) := by
  show DataW.map ((E.map pairOf).filter _) = _
  rw [keep_pair]; rfl
theorem insert_pair {x : Ent} : ∀ {E : List Ent}, Sorted Ent.k E → DataW.insert (pairOf x) ((delK Ent.k x.f.name E).map pairOf) = (insK Ent.k x E).map pairOf
  | [], _ => rfl
  | z :: r, hs => by
    obtain ⟨h1, h2⟩ := List.pairwise_cons.1 hs
    have hfront : ∀ l : List Ent, (∀ y ∈ l, x.f.name < y.f.name) → DataW.insert (pairOf x) (l.map pairOf) = pairOf x :: l.map pairOf := by
      intro l hl
      cases l with
      | nil => rfl
      | cons y s =>
        show (if (Lit.string x.f.name).before (.string y.f.name) = true then _ else _) = _
        rw [before_eq, if_pos (by simpa using hl y (by simp))]
        rfl
    unfold insK
    split
    · rename_i hlt
      rw [delK_none (fun y hy e => ?_)]
      · rw [hfront _ (fun y hy => ?_)]
        · rfl
        · rcases List.mem_cons.1 hy with rfl | hy
          · exact hlt
          · exact lt_tr hlt (h1 y hy)
      · rcases List.mem_cons.1 hy with rfl | hy
        · change x.f.name < y.k at hlt
          rw [e] at hlt; exact lt_irr _ hlt
        · have := lt_tr hlt (h1 y hy)
          rw [e] at this; exact lt_irr _ this
    · split
      · rename_i hlt he
        have : delK Ent.k x.f.name (z :: r) = r := by
          unfold delK
          rw [List.filter_cons, if_neg (by have he' : z.k = x.f.name := he.symm; simp [he'])]
          exact List.filter_eq_self.2 (fun y hy => by
            have := h1 y hy
            simp only [ne_eq, decide_not, Bool.not_eq_eq_eq_not, Bool.not_true, decide_eq_false_iff_not]
            intro e
            rw [e, ← he] at this
            exact lt_irr _ this)
        rw [this, hfront _ (fun y hy => by have := h1 y hy; rw [← he] at this; exact this)]
        rfl
      · rename_i hlt he
        have : delK Ent.k x.f.name (z :: r) = z :: delK Ent.k x.f.name r := by
          unfold delK
          rw [List.filter_cons, if_pos (by have he' : ¬ z.k = x.f.name := fun e => he e.symm; simp [he'])]
        rw [this, List.map_cons, List.map_cons, ← insert_pair h2]
        show (if (Lit.string x.f.name).before (.string z.f.name) = true then _ else _) = _
        rw [before_eq, if_neg (by have hlt' : ¬ x.f.name < z.f.name := hlt; simpa using hlt')]
theorem put_mapOf {x : Ent} {E : List Ent} (hs : Sorted Ent.k E) : (mapOf E).put (.string x.f.name) (.lit (.int .i64 x.blk)) = mapOf (insK Ent.k x E) := by
  show DataW.map (DataW.insert (pairOf x) ((E.map pairOf).filter _)) = _
  rw [keep_pair, insert_pair hs]; rfl
theorem size_mapOf (E : List Ent) : Maps.size (mapOf E) = E.length := by
  show (E.map pairOf).length = _
  rw [List.length_map]
theorem keys_mapOf (E : List Ent) : strKeys (mapOf E) = E.map Ent.k := by
  show (E.map pairOf).map _ = _
  rw [List.map_map]
  rfl
theorem law9 : Keyed Try.prog 9 := string_keyed Try.underlying9
theorem zero63 (w : World) : (zeroValue 63).run Try.prog w = .ok (.pointer none) w := by kernel_rfl
theorem key9 {n : List UInt8} (h : n.length ≤ maxLen) : keyOf Try.prog 9 (.string (bs n)) = some (.string n) := by
  have := Go.WideMaps.keyOf_string_mk (P := Try.prog) (k := 9) Try.underlying9 (s := bs n) (by rw [bs_size]; exact h)
  rwa [bs_data] at this
/-- The map of files. -/
def DMap (w : World) (B : Nat) (E : List Ent) : Prop := w.ownsMap Try.prog 9 relem B E.length (mapOf E)
theorem tight {w : World} {B n : Nat} {E : List Ent} (h : w.ownsMap Try.prog 9 relem B n (mapOf E)) : DMap w B E := by
  have hs : ∃ es clock, w.heap[B]? = some (.map es clock) ∧ WideElems.Fit Try.prog 9 relem es clock ∧ es.size ≤ n ∧ mapOf E = .map ((es.toList.map (WideElems.rg Try.prog 9 relem)).foldr DataW.insert []) := h
  obtain ⟨es, clock, hb, F, _, hD⟩ := hs
  refine ⟨es, clock, hb, F, ?_, hD⟩
  have e : Maps.size (mapOf E) = es.size := by rw [hD]; simp [Maps.size, length_sorted]
  rw [size_mapOf] at e
  omega
theorem DMap.look {w : World} {B : Nat} {E : List Ent} (h : DMap w B E) {n : List UInt8} (hn : n.length ≤ maxLen) : (Instr.lookup 72 (.map (some B)) (.string (bs n)) true).run Try.prog w =
    .ok (.tuple #[match getK Ent.k n E with | some e => .pointer (some ⟨e.blk, 0, none⟩) | none => .pointer none, .bool (getK Ent.k n E).isSome]) w := by
  obtain ⟨v, ps, hrun, hv⟩ := World.ownsMap.look_ok h law9 Try.underlying72 (zero63 w) (zd := .nil) (zp := []) rfl (key9 hn)
  rw [hrun, has_mapOf]
  rw [at_mapOf] at hv
  cases hg : getK Ent.k n E with
  | none => rw [hg] at hv; rw [relem_nil hv]
  | some e => rw [hg] at hv; rw [relem_at hv]
theorem DMap.look1 {w : World} {B : Nat} {E : List Ent} (h : DMap w B E) {n : List UInt8} (hn : n.length ≤ maxLen) : (Instr.lookup 72 (.map (some B)) (.string (bs n)) false).run Try.prog w =
    .ok (match getK Ent.k n E with | some e => .pointer (some ⟨e.blk, 0, none⟩) | none => .pointer none) w := by
  obtain ⟨v, ps, hrun, hv⟩ := World.ownsMap.lookup h law9 Try.underlying72 (zero63 w) (zd := .nil) (zp := []) rfl (key9 hn)
  rw [hrun]
  rw [at_mapOf] at hv
  cases hg : getK Ent.k n E with
  | none => rw [hg] at hv; rw [relem_nil hv]
  | some e => rw [hg] at hv; rw [relem_at hv]
theorem DMap.notCells {w : World} {B : Nat} {E : List Ent} (h : DMap w B E) {cs : Array Value} {t : TypeId} {fr : Nat × Nat} {b : Nat} (hb : w.heap[b]? = some (.cells cs t fr)) : b ≠ B := by
  rintro rfl
  obtain ⟨es, clock, hb', _⟩ := h
  rw [hb] at hb'
  cases hb'
end Go.Proofs.Ytfkefppabjbbdaa
