/- A clock in memory: its cells, its map. -/
import Derived.Test.YtmoooeadiminbaaA
import Derived.Test.YtmoooeadiminbaaProg
import Derived.WalkKit
import Derived.LoopTactic
import Derived.Lib.Hide
import Derived.Lib.Strings
import Derived.WalkLawsBesides
import Derived.WalkSpells
import Derived.WalkSmall
import Derived.Deep.QuietTactic
import Derived.BigQuiet
import Derived.Outline
import Derived.BigGuardPart
import Derived.Deep.MidRow
import Derived.Deep.RegionLaw
import Derived.Maps.Ext
import Derived.Maps.RangeWalk
import Derived.Sort.KeysCollected
import Derived.Sort.Walk0
namespace Go.Proofs.Ytmoooeadiminbaa
open Go.RowKit Go.Maps
set_option linter.unusedVariables false
/-- A list of bytes as a text. -/
def bs (l : List UInt8) : ByteArray := ⟨l.toArray⟩
theorem bs_data (l : List UInt8) : (bs l).data.toList = l := by simp [bs]
theorem data_bs (s : ByteArray) : bs s.data.toList = s := by simp [bs]
theorem bs_size (l : List UInt8) : (bs l).size = l.length := by simp [bs, ByteArray.size]
theorem bs_inj {a b : List UInt8} (h : bs a = bs b) : a = b := by rw [← bs_data a, ← bs_data b, h]
theorem toL (s : ByteArray) : s.toList = s.data.toList := ByteArray.toList_eq s
theorem bs_toList (l : List UInt8) : (bs l).toList = l := by rw [toL, bs_data]
theorem add_block (a : Addr) (j : Nat) : (a.add j).block = a.block := by unfold Addr.add; split <;> rfl
/-- A block of cells. -/
def Blk (w : World) (b : Nat) (cs : List Value) (t : TypeId) : Prop := w.heap[b]? = some (.cells cs.toArray t (0, 0))
theorem Blk.lt {w : World} {b : Nat} {cs : List Value} {t : TypeId} (h : Blk w b cs t) : b < w.heap.size := lt_of_block h
theorem Blk.c {w : World} {b : Nat} {cs : List Value} {t : TypeId} (h : Blk w b cs t) (i : Nat) {u : Value} (hi : cs[i]? = some u) : w.cell? ⟨b, i, none⟩ = some u := by unfold Blk at h; simp [World.cell?, h, hi]
theorem Blk.f {w : World} {b : Nat} {cs : List Value} {t : TypeId} (h : Blk w b cs t) (i : Nat) : w.frozen? ⟨b, i, none⟩ = false := by unfold Blk at h; simp [World.frozen?, h]
theorem Blk.set {w : World} {b : Nat} {cs : List Value} {t : TypeId} (h : Blk w b cs t) (i : Nat) (u : Value) : Blk (w.setCell ⟨b, i, none⟩ u) b (cs.set i u) t := by
  have hlt := h.lt
  have h' : w.heap[b] = .cells cs.toArray t (0, 0) := by unfold Blk at h; simpa [Array.getElem?_eq_getElem hlt] using h
  show (w.heap.modify b _)[b]? = _
  rw [Array.getElem?_eq_getElem (by simpa using hlt), Array.getElem_modify_self, h']
  simp
theorem Blk.other {w : World} {b : Nat} {cs : List Value} {t : TypeId} (h : Blk w b cs t) {a : Addr} (ha : b ≠ a.block) (u : Value) : Blk (w.setCell a u) b cs t := by
  unfold Blk; rw [Below.heap_setCell _ _ _ _ ha]; exact h
theorem Blk.kept {w w' : World} {b : Nat} {cs : List Value} {t : TypeId} {row : Option Nat} (h : Blk w b cs t) (hg : w.grownBy w' row) (hr : some b ≠ row) : Blk w' b cs t := by
  unfold Blk; rw [hg.block b h.lt hr]; exact h
theorem Blk.alloc {w : World} {b : Nat} {cs : List Value} {t : TypeId} (h : Blk w b cs t) (o : Obj) : Blk (w.alloc o) b cs t := h.kept (World.grownBy_alloc w o none) (by simp)
theorem Blk.new (w : World) (cs : List Value) (t : TypeId) : Blk (w.alloc (.cells cs.toArray t)) w.heap.size cs t := by
  show (w.heap.push _)[_]? = _
  simp
theorem Blk.at {w : World} {b : Nat} (hb : b = w.heap.size) (cs : List Value) (t : TypeId) : Blk (w.alloc (.cells cs.toArray t)) b cs t := by
  subst hb
  exact Blk.new w cs t
theorem Blk.below {w w' : World} {B b : Nat} {cs : List Value} {t : TypeId} (h : Blk w b cs t) (hb : Below B w w') (hl : b < B) : Blk w' b cs t := by
  unfold Blk; rw [hb.block b hl]; exact h
theorem Blk.ne {w : World} {b b' : Nat} {cs cs' : List Value} {t t' : TypeId} (h : Blk w b cs t) (h' : Blk w b' cs' t') (ht : t ≠ t') : b ≠ b' := by
  rintro rfl
  unfold Blk at h h'
  rw [h] at h'
  cases h'
  exact ht rfl
/-- Only blocks in F have turned, and new ones are there. -/
structure Kept (F : Nat → Prop) (w w' : World) : Prop where
  os : w'.os = w.os
  tape : w'.tape = w.tape
  output : w'.output = w.output
  size : w.heap.size ≤ w'.heap.size
  block : ∀ k, k < w.heap.size → ¬ F k → w'.heap[k]? = w.heap[k]?
theorem Kept.refl (F : Nat → Prop) (w : World) : Kept F w w := ⟨rfl, rfl, rfl, Nat.le_refl _, fun _ _ _ => rfl⟩
theorem Kept.trans {F : Nat → Prop} {a b c : World} (h : Kept F a b) (k : Kept F b c) : Kept F a c :=
  ⟨k.os.trans h.os, k.tape.trans h.tape, k.output.trans h.output, Nat.le_trans h.size k.size, fun i hi hF => (k.block i (Nat.lt_of_lt_of_le hi h.size) hF).trans (h.block i hi hF)⟩
theorem Kept.grown {F : Nat → Prop} {a b c : World} {row : Option Nat} (h : Kept F a b) (k : b.grownBy c row) (hr : ∀ j, row = some j → a.heap.size ≤ j ∨ F j) : Kept F a c :=
  ⟨k.os.trans h.os, k.tape.trans h.tape, k.output.trans h.output, Nat.le_trans h.size k.size, fun i hi hF => by
    refine (k.block i (Nat.lt_of_lt_of_le hi h.size) (fun e => ?_)).trans (h.block i hi hF)
    rcases hr i e.symm with h1 | h1
    · omega
    · exact hF h1⟩
theorem Kept.alloc {F : Nat → Prop} {a b : World} (h : Kept F a b) (o : Obj) : Kept F a (b.alloc o) := h.grown (World.grownBy_alloc b o none) (fun j hj => by cases hj)
theorem grownBy_set (w : World) (a : Addr) (u : Value) : w.grownBy (w.setCell a u) (some a.block) :=
  ⟨rfl, rfl, rfl, by simp [World.setCell], fun k hk hne => Below.heap_setCell _ _ _ _ (fun e => hne (by rw [e]))⟩
theorem Kept.set {F : Nat → Prop} {a b : World} (h : Kept F a b) (p : Addr) (u : Value) (hp : a.heap.size ≤ p.block ∨ F p.block) : Kept F a (b.setCell p u) := h.grown (grownBy_set b p u) (fun j hj => by cases hj; exact hp)
theorem Kept.drew {F : Nat → Prop} {a b : World} (h : Kept F a b) : Kept F a b.drew := ⟨h.os, h.tape, h.output, h.size, h.block⟩
theorem Kept.drewN {F : Nat → Prop} {a b : World} (h : Kept F a b) (n : Nat) : Kept F a (b.drewN n) := ⟨h.os, h.tape, h.output, h.size, h.block⟩
theorem Kept.mono {F G : Nat → Prop} {a b : World} (h : Kept F a b) (hFG : ∀ i, F i → G i) : Kept G a b := ⟨h.os, h.tape, h.output, h.size, fun k hk hG => h.block k hk (fun hF => hG (hFG k hF))⟩
theorem Kept.below {F : Nat → Prop} {a b : World} (h : Kept F a b) {B : Nat} (hB : B ≤ a.heap.size) (hF : ∀ i, F i → B ≤ i) : Below B a b :=
  ⟨h.os, h.tape, h.output, h.size, fun k hk => h.block k (Nat.lt_of_lt_of_le hk hB) (fun e => by have := hF k e; omega)⟩
theorem Kept.of_below {F : Nat → Prop} {a b c : World} (h : Kept F a b) {B : Nat} (k : Below B b c) (hB : ∀ i, i < a.heap.size → ¬ F i → i < B) : Kept F a c :=
  ⟨k.os.trans h.os, k.tape.trans h.tape, k.output.trans h.output, Nat.le_trans h.size k.size, fun i hi hF => (k.block i (hB i hi hF)).trans (h.block i hi hF)⟩
theorem Blk.keptF {w w' : World} {b : Nat} {cs : List Value} {t : TypeId} {G : Nat → Prop} (h : Blk w b cs t) (hk : Kept G w w') (hb : ¬ G b) : Blk w' b cs t := by
  unfold Blk; rw [hk.block b h.lt hb]; exact h
theorem grown_below {w w' : World} (h : Below w.heap.size w w') : w.grownBy w' none := ⟨h.os, h.tape, h.output, h.size, fun k hk _ => h.block k hk⟩
theorem drewN_below {B : Nat} {a w : World} (h : Below B a w) (n : Nat) : Below B a (w.drewN n) := ⟨h.os, h.tape, h.output, h.size, h.block⟩
theorem grown_refl (w : World) (row : Option Nat) : w.grownBy w row := ⟨rfl, rfl, rfl, Nat.le_refl _, fun _ _ _ => rfl⟩
theorem grown_drewN {w w' : World} {row : Option Nat} (h : w.grownBy w' row) (n : Nat) : w.grownBy (w'.drewN n) row := ⟨h.os, h.tape, h.output, h.size, h.block⟩
theorem grown_drew {w w' : World} {row : Option Nat} (h : w.grownBy w' row) : w.grownBy w'.drew row := ⟨h.os, h.tape, h.output, h.size, h.block⟩
theorem Blk.drew {w : World} {b : Nat} {cs : List Value} {t : TypeId} (h : Blk w b cs t) : Blk w.drew b cs t := h
theorem Blk.drewN {w : World} {b : Nat} {cs : List Value} {t : TypeId} (h : Blk w b cs t) (n : Nat) : Blk (w.drewN n) b cs t := h

/-- An element of the map: how far, and when. -/
def mkE (p : Int × Int) : Value := .agg #[.int .i64 p.1, .int .i64 p.2]
def lits (a b : Int) : DataW Unit := .agg [.lit (.int .i64 a), .lit (.int .i64 b)]
def relem (v : Value) : Option (DataW Unit × List MemPlace) :=
  match v with
  | .agg cs => match cs.toList with
    | [.int .i64 a, .int .i64 b] => some (lits a b, [])
    | _ => none
  | _ => none
theorem relem_mk (a b : Int) : relem (.agg #[.int .i64 a, .int .i64 b]) = some (lits a b, []) := rfl
theorem relem_inv {v : Value} {y : DataW Unit × List MemPlace} (h : relem v = some y) : ∃ a b, v = .agg #[.int .i64 a, .int .i64 b] ∧ y = (lits a b, []) := by
  unfold relem at h
  split at h
  · rename_i cs
    split at h
    · rename_i a b e
      have : cs = #[.int .i64 a, .int .i64 b] := by rw [← Array.toArray_toList (xs := cs), e]
      cases h
      exact ⟨a, b, by rw [this], rfl⟩
    · cases h
  · cases h
theorem lits_inj {a b c d : Int} (h : lits a b = lits c d) : a = c ∧ b = d := by
  unfold lits at h
  simp only [DataW.agg.injEq, List.cons.injEq, DataW.lit.injEq, Lit.int.injEq, true_and, and_true] at h
  exact h
theorem relem_at {v : Value} {ps : List MemPlace} {a b : Int} (h : relem v = some (lits a b, ps)) : v = .agg #[.int .i64 a, .int .i64 b] := by
  obtain ⟨c, d, rfl, e⟩ := relem_inv h
  simp only [Prod.mk.injEq] at e
  obtain ⟨rfl, rfl⟩ := lits_inj e.1
  rfl
def pairOf (e : Sr) : Lit × DataW Unit := (.string e.name, lits e.far e.last)
def mapOf (E : List Sr) : DataW Unit := .map (E.map pairOf)
theorem before_eq (a b : List UInt8) : (Lit.string a).before (.string b) = decide (a < b) := by
  rw [← Go.Proofs.bytesLess_eq]
  show bytesBefore a b = _
  induction a generalizing b with
  | nil => cases b <;> rfl
  | cons x r ih =>
    cases b with
    | nil => rfl
    | cons y s => simp only [bytesBefore, Op.bytesLess, ih]
theorem same_eq (a b : List UInt8) : (Lit.string a).sameKey (.string b) = decide (a = b) := by
  show (a == b) = _
  by_cases h : a = b <;> simp [h]
theorem has_mapOf (E : List Sr) (n : List UInt8) : Maps.has (mapOf E) (.string n) = (getK Sr.name n E).isSome := by
  show (E.map pairOf).any _ = _
  unfold getK
  induction E with
  | nil => rfl
  | cons x r ih =>
    rw [List.map_cons, List.any_cons, ih, List.find?_cons]
    show ((Lit.string x.name).sameKey _ || _) = _
    rw [same_eq]
    by_cases h : x.name = n
    · simp [h]
    · simp [h]
theorem at_mapOf (E : List Sr) (n : List UInt8) (z : DataW Unit) : (mapOf E).atKey (.string n) z = match getK Sr.name n E with | some e => lits e.far e.last | none => z := by
  unfold mapOf DataW.atKey getK
  simp only
  induction E with
  | nil => rfl
  | cons x r ih =>
    rw [List.map_cons, List.find?_cons, List.find?_cons]
    have e : (pairOf x).1.sameKey (.string n) = decide (x.name = n) := same_eq _ _
    rw [e]
    by_cases h : x.name = n
    · simp only [h, decide_true]; rfl
    · simp only [h, decide_false]; exact ih
theorem keep_pair (n : List UInt8) (E : List Sr) : (E.map pairOf).filter (fun p => !p.1.sameKey (.string n)) = (delK Sr.name n E).map pairOf := by
  unfold delK
  rw [List.filter_map]
  congr 1
  apply List.filter_congr
  intro x _
  have e : (pairOf x).1.sameKey (.string n) = decide (x.name = n) := same_eq _ _
  show (!(pairOf x).1.sameKey (.string n)) = _
  rw [e]
  by_cases h : x.name = n <;> simp [h]
theorem insert_pair {x : Sr} : ∀ {E : List Sr}, Sorted Sr.name E → DataW.insert (pairOf x) ((delK Sr.name x.name E).map pairOf) = (insK Sr.name x E).map pairOf
  | [], _ => rfl
  | z :: r, hs => by
    obtain ⟨h1, h2⟩ := List.pairwise_cons.1 hs
    have hfront : ∀ l : List Sr, (∀ y ∈ l, x.name < y.name) → DataW.insert (pairOf x) (l.map pairOf) = pairOf x :: l.map pairOf := by
      intro l hl
      cases l with
      | nil => rfl
      | cons y s =>
        show (if (Lit.string x.name).before (.string y.name) = true then _ else _) = _
        rw [before_eq, if_pos (by simpa using hl y (by simp))]
        rfl
    unfold insK
    split
    · rename_i hlt
      rw [delK_none (fun y hy e => ?_)]
      · rw [hfront _ (fun y hy => ?_)]
        · rfl
        · rcases List.mem_cons.1 hy with rfl | hy
          · exact hlt
          · exact lt_tr hlt (h1 y hy)
      · rcases List.mem_cons.1 hy with rfl | hy
        · change x.name < y.name at hlt
          rw [e] at hlt; exact lt_irr _ hlt
        · have := lt_tr hlt (h1 y hy)
          rw [e] at this; exact lt_irr _ this
    · split
      · rename_i hlt he
        have : delK Sr.name x.name (z :: r) = r := by
          unfold delK
          rw [List.filter_cons, if_neg (by have he' : z.name = x.name := he.symm; simp [he'])]
          exact List.filter_eq_self.2 (fun y hy => by
            have := h1 y hy
            simp only [ne_eq, decide_not, Bool.not_eq_eq_eq_not, Bool.not_true, decide_eq_false_iff_not]
            intro e
            rw [e, ← he] at this
            exact lt_irr _ this)
        rw [this, hfront _ (fun y hy => by have := h1 y hy; rw [← he] at this; exact this)]
        rfl
      · rename_i hlt he
        have : delK Sr.name x.name (z :: r) = z :: delK Sr.name x.name r := by
          unfold delK
          rw [List.filter_cons, if_pos (by have he' : ¬ z.name = x.name := fun e => he e.symm; simp [he'])]
        rw [this, List.map_cons, List.map_cons, ← insert_pair h2]
        show (if (Lit.string x.name).before (.string z.name) = true then _ else _) = _
        rw [before_eq, if_neg (by have hlt' : ¬ x.name < z.name := hlt; simpa using hlt')]
theorem put_mapOf {x : Sr} {E : List Sr} (hs : Sorted Sr.name E) : (mapOf E).put (.string x.name) (lits x.far x.last) = mapOf (insK Sr.name x E) := by
  show DataW.map (DataW.insert (pairOf x) ((E.map pairOf).filter _)) = _
  rw [keep_pair, insert_pair hs]; rfl
theorem size_mapOf (E : List Sr) : Maps.size (mapOf E) = E.length := by
  show (E.map pairOf).length = _
  rw [List.length_map]
theorem keys_mapOf (E : List Sr) : strKeys (mapOf E) = E.map Sr.name := by
  show (E.map pairOf).map _ = _
  rw [List.map_map]
  rfl
theorem law9 : Keyed Try.prog 9 := string_keyed Try.underlying9
theorem zero46 (w : World) : (zeroValue 46).run Try.prog w = .ok (.agg #[.int .i64 0, .int .i64 0]) w := by kernel_rfl
theorem key9 {n : List UInt8} (h : n.length ≤ maxLen) : keyOf Try.prog 9 (.string (bs n)) = some (.string n) := by
  have := Go.WideMaps.keyOf_string_mk (P := Try.prog) (k := 9) Try.underlying9 (s := bs n) (by rw [bs_size]; exact h)
  rwa [bs_data] at this
/-- The map of sources. -/
def CMap (w : World) (B : Nat) (E : List Sr) : Prop := w.ownsMap Try.prog 9 relem B E.length (mapOf E)
theorem tight {w : World} {B n : Nat} {E : List Sr} (h : w.ownsMap Try.prog 9 relem B n (mapOf E)) : CMap w B E := by
  have hs : ∃ es clock, w.heap[B]? = some (.map es clock) ∧ WideElems.Fit Try.prog 9 relem es clock ∧ es.size ≤ n ∧ mapOf E = .map ((es.toList.map (WideElems.rg Try.prog 9 relem)).foldr DataW.insert []) := h
  obtain ⟨es, clock, hb, F, _, hD⟩ := hs
  refine ⟨es, clock, hb, F, ?_, hD⟩
  have e : Maps.size (mapOf E) = es.size := by rw [hD]; simp [Maps.size, length_sorted]
  rw [size_mapOf] at e
  omega
def srcV (o : Option Sr) : Value := match o with | some e => .agg #[.int .i64 e.far, .int .i64 e.last] | none => .agg #[.int .i64 0, .int .i64 0]
theorem CMap.look {w : World} {B : Nat} {E : List Sr} (h : CMap w B E) {n : List UInt8} (hn : n.length ≤ maxLen) : (Instr.lookup 41 (.map (some B)) (.string (bs n)) true).run Try.prog w =
    .ok (.tuple #[srcV (getK Sr.name n E), .bool (getK Sr.name n E).isSome]) w := by
  obtain ⟨v, ps, hrun, hv⟩ := World.ownsMap.look_ok h law9 Try.underlying41 (zero46 w) (zd := lits 0 0) (zp := []) (relem_mk 0 0) (key9 hn)
  rw [hrun, has_mapOf]
  rw [at_mapOf] at hv
  cases hg : getK Sr.name n E with
  | none => rw [hg] at hv; rw [relem_at hv]; rfl
  | some e => rw [hg] at hv; rw [relem_at hv]; rfl
theorem CMap.notCells {w : World} {B : Nat} {E : List Sr} (h : CMap w B E) {cs : Array Value} {t : TypeId} {fr : Nat × Nat} {b : Nat} (hb : w.heap[b]? = some (.cells cs t fr)) : b ≠ B := by
  rintro rfl
  obtain ⟨es, clock, hb', _⟩ := h
  rw [hb] at hb'
  cases hb'
theorem CMap.kept {w w' : World} {B : Nat} {E : List Sr} {row : Option Nat} (h : CMap w B E) (hg : w.grownBy w' row) (hr : some B ≠ row) : CMap w' B E := World.ownsMap.kept h hg hr
/-- A clock in memory. -/
structure ClkM (w : World) (F : Nat → Prop) (c B : Nat) (k : Ck) : Prop where
  self : Blk w c [.int .i64 k.slack, .int .i64 k.idle, .int .i64 k.now, .int .i64 k.mark, .map (some B)] 43
  map : CMap w B k.L
  fc : F c
  fB : F B
  ok : OkC k
section
variable {w w' : World} {F : Nat → Prop} {c B : Nat} {k : Ck}
theorem ClkM.ne (h : ClkM w F c B k) : c ≠ B := h.map.notCells h.self
theorem ClkM.quiet (h : ClkM w F c B k) (hg : w.grownBy w' none) : ClkM w' F c B k := ⟨h.self.kept hg (by simp), h.map.kept hg (by simp), h.fc, h.fB, h.ok⟩
theorem ClkM.alloc (h : ClkM w F c B k) (o : Obj) : ClkM (w.alloc o) F c B k := h.quiet (World.grownBy_alloc w o none)
theorem ClkM.below (h : ClkM w F c B k) (hb : Below w.heap.size w w') : ClkM w' F c B k := h.quiet (grown_below hb)
theorem ClkM.mono {G : Nat → Prop} (h : ClkM w F c B k) (hFG : ∀ i, F i → i < w.heap.size → G i) : ClkM w G c B k :=
  ⟨h.self, h.map, hFG _ h.fc h.self.lt, hFG _ h.fB (World.ownsMap.lt h.map), h.ok⟩
theorem CMap.keptF {E : List Sr} {G : Nat → Prop} (h : CMap w B E) (hk : Kept G w w') (hb : ¬ G B) : CMap w' B E := by
  have hl := World.ownsMap.lt h
  obtain ⟨es, clock, hh, r⟩ := h
  exact ⟨es, clock, by rw [hk.block B hl hb]; exact hh, r⟩
/-- What turns elsewhere leaves it as it is. -/
theorem ClkM.far (h : ClkM w F c B k) {G : Nat → Prop} (hk : Kept G w w') (hFG : ∀ i, F i → i < w.heap.size → ¬ G i) : ClkM w' F c B k :=
  ⟨h.self.keptF hk (hFG _ h.fc h.self.lt), h.map.keptF hk (hFG _ h.fB (World.ownsMap.lt h.map)), h.fc, h.fB, h.ok⟩
theorem ClkM.own (h : ClkM w F c B k) {k' : Ck} (hg : w.grownBy w' (some c)) (hL : k'.L = k.L) (hs : Blk w' c [.int .i64 k'.slack, .int .i64 k'.idle, .int .i64 k'.now, .int .i64 k'.mark, .map (some B)] 43) (hok : OkC k') : ClkM w' F c B k' :=
  ⟨hs, by rw [hL]; exact h.map.kept hg (fun e => h.ne (Option.some.inj e).symm), h.fc, h.fB, hok⟩
/-- The mark is stored. -/
theorem ClkM.setMark (h : ClkM w F c B k) : ClkM (w.setCell ⟨c, 3, none⟩ (.int .i64 (max k.mark (told k)))) F c B (folC k) := h.own (grownBy_set w ⟨c, 3, none⟩ _) rfl (h.self.set 3 _) h.ok.fol
theorem ClkM.setNow (h : ClkM w F c B k) (n : Int) : ClkM (w.setCell ⟨c, 2, none⟩ (.int .i64 (max k.now (near n)))) F c B (timeC k n) := h.own (grownBy_set w ⟨c, 2, none⟩ _) rfl (h.self.set 2 _) (h.ok.time n)
theorem ClkM.putM (h : ClkM w F c B k) {n : List UInt8} {a : Int} (hn : okName n = true) (ha : okTick a = true) (hg : w.grownBy w' (some B))
    (hm : w'.ownsMap Try.prog 9 relem B (k.L.length + 1) ((mapOf k.L).put (.string n) (lits (max a (heardC k n)) k.now))) : ClkM w' F c B (putC k n a) := by
  have e : (mapOf k.L).put (.string n) (lits (max a (heardC k n)) k.now) = mapOf (putC k n a).L := put_mapOf (x := ⟨n, max a (heardC k n), k.now⟩) h.ok.sorted
  rw [e] at hm
  exact ⟨h.self.kept hg (fun e => h.ne (Option.some.inj e)), tight hm, h.fc, h.fB, h.ok.put hn ha⟩
end
end Go.Proofs.Ytmoooeadiminbaa
