/- Several texts in one: Ja, Jb, Jn, Jt, Ju. -/
import Derived.Test.YtghnbkkfghfifaaGreatDoorMD
import Derived.Test.YtghnbkkfghfifaaGreatDoorMF
import Derived.Lib.ItoaNum
/- Journals, plainly: names of files, segments, what lies on a disk. -/
namespace Go.Proofs.YtghnbkkfghfifaaGreatDoor
open D
set_option linter.unusedVariables false
/-- A segment's file's name. -/
def fileN (n : List UInt8) (k : Nat) : List UInt8 := n ++ 46 :: Lib.decDigits k
def valD (l : List UInt8) : Nat := l.foldl (fun a c => a * 10 + (c.toNat - 48)) 0
theorem dig_nat {i : Nat} (h : i < 10) : (UInt8.ofNat (48 + i)).toNat = 48 + i := by
  show (48 + i).toUInt8.toNat = 48 + i
  simp; omega
theorem valD_dec (u : Nat) : valD (Lib.decDigits u) = u := by
  induction u using Nat.strongRecOn with
  | ind u ih =>
    rw [Lib.decDigits]
    split
    · rename_i h
      show 0 * 10 + ((UInt8.ofNat (48 + u)).toNat - 48) = u
      rw [dig_nat h]; omega
    · rename_i h
      have := ih (u / 10) (by omega)
      unfold valD at *
      rw [List.foldl_append, this]
      show u / 10 * 10 + ((UInt8.ofNat (48 + u % 10)).toNat - 48) = u
      rw [dig_nat (by omega)]; omega
theorem dec_inj {a b : Nat} (h : Lib.decDigits a = Lib.decDigits b) : a = b := by rw [← valD_dec a, ← valD_dec b, h]
theorem fileN_inj {n : List UInt8} {a b : Nat} (h : fileN n a = fileN n b) : a = b := by
  unfold fileN at h
  have := List.append_cancel_left h
  exact dec_inj (List.cons.inj this).2
theorem dec_len : ∀ (m u : Nat), u < 10 ^ (m + 1) → (Lib.decDigits u).length ≤ m + 1
  | 0, u, h => by rw [Lib.decDigits, dif_pos (by omega)]; simp
  | m + 1, u, h => by
    rw [Lib.decDigits]
    split
    · simp
    · rw [List.length_append]
      have := dec_len m (u / 10) (by rw [Nat.div_lt_iff_lt_mul (by omega)]; rw [Nat.pow_succ] at h; exact h)
      simp; omega
theorem dec_pos (u : Nat) : 1 ≤ (Lib.decDigits u).length := by
  rw [Lib.decDigits]; split <;> simp
theorem fileN_len {n : List UInt8} {k : Nat} (hn : n.length ≤ 24) (hk : k < 100000) : 1 ≤ (fileN n k).length ∧ (fileN n k).length ≤ 64 := by
  have := dec_len 4 k (by omega)
  unfold fileN
  simp only [List.length_append, List.length_cons]
  omega
section
variable {α : Type}
/-- The entries of a segment. -/
def seg (l : List α) (per k : Nat) : List α := (l.drop (k * per)).take per
theorem seg_len (l : List α) (per k : Nat) : (seg l per k).length = min per (l.length - k * per) := by unfold seg; simp
theorem seg_app {l r : List α} {per k : Nat} (h : (k + 1) * per ≤ l.length) : seg (l ++ r) per k = seg l per k := by
  unfold seg
  rw [Nat.succ_mul] at h
  rw [List.drop_append_of_le_length (by omega), List.take_append_of_le_length (by rw [List.length_drop]; omega)]
theorem seg_grow {l : List α} {per k : Nat} (h1 : k * per ≤ l.length) (h2 : l.length < (k + 1) * per) (x : α) : seg (l ++ [x]) per k = seg l per k ++ [x] := by
  unfold seg
  rw [Nat.succ_mul] at h2
  rw [List.drop_append_of_le_length h1, List.take_of_length_le (by simp; omega), List.take_of_length_le (by simp; omega)]
theorem segs_take (l : List α) (per : Nat) : ∀ f, ((List.range f).map (seg l per)).flatten = l.take (f * per)
  | 0 => by simp
  | f + 1 => by
    rw [List.range_succ, List.map_append, List.flatten_append, segs_take l per f, Nat.succ_mul, List.take_add]
    simp [seg]
theorem segs_all {l : List α} {per f : Nat} (h : l.length ≤ f * per) : ((List.range f).map (seg l per)).flatten = l := by
  rw [segs_take, List.take_of_length_le h]
theorem seg_lasts {l : List α} {per k lasts : Nat} (h : (k + 1) * per ≤ lasts) : (seg l per k).take (lasts - k * per) = seg l per k := by
  rw [Nat.succ_mul] at h
  exact List.take_of_length_le (by rw [seg_len]; omega)
theorem seg_lasts' {l : List α} {per k lasts : Nat} (h : l.length ≤ lasts) : (seg l per k).take (lasts - k * per) = seg l per k :=
  List.take_of_length_le (by rw [seg_len]; omega)
variable (pay : α → List UInt8)
/-- The bytes of entries. -/
def byt (l : List α) : List UInt8 := F.framesL (l.map pay)
theorem byt_nil : byt pay [] = [] := rfl
theorem byt_app (a b : List α) : byt pay (a ++ b) = byt pay a ++ byt pay b := by unfold byt F.framesL; simp
theorem byt_one (x : α) : byt pay [x] = F.frameL (pay x) := by unfold byt F.framesL; simp
theorem byt_cons (x : α) (l : List α) : byt pay (x :: l) = F.frameL (pay x) ++ byt pay l := by unfold byt F.framesL; simp
def Short (l : List α) : Prop := ∀ x ∈ l, (pay x).length ≤ 400
theorem byt_len {l : List α} (h : Short pay l) : (byt pay l).length ≤ 410 * l.length := by
  induction l with
  | nil => simp [byt, F.framesL]
  | cons x r ih =>
    rw [byt_cons, List.length_append, F.frameL_len, List.length_cons]
    have := h x (by simp)
    have := ih (fun y hy => h y (by simp [hy]))
    omega
theorem byt_flat (ls : List (List α)) : byt pay ls.flatten = (ls.map (byt pay)).flatten := by
  induction ls with
  | nil => rfl
  | cons x r ih => rw [List.flatten_cons, byt_app, ih]; rfl
theorem byt_pre {a l : List α} (h : a <+: l) : byt pay a <+: byt pay l := by
  obtain ⟨t, rfl⟩ := h
  rw [byt_app]; exact List.prefix_append _ _
/-- A segment's file. -/
def fsk (n : List UInt8) (per files : Nat) (es : List α) (lasts : Nat) (st : Bool) (k : Nat) : Fl :=
  ⟨fileN n k, byt pay (seg es per k), (byt pay ((seg es per k).take (lasts - k * per))).length, decide (k + 1 < files) || st⟩
/-- A disk's files are those of so many segments. -/
structure Holds (n : List UInt8) (d : Dk) (files : Nat) (g : Nat → Fl) : Prop where
  sorted : Sorted Fl.name d.L
  perm : d.L.Perm ((List.range files).map g)
  name : ∀ k, k < files → (g k).name = fileN n k
/-- What lies on a disk. -/
def Lies (n : List UInt8) (per : Nat) (d : Dk) (files : Nat) (es : List α) (lasts : Nat) (st : Bool) : Prop := Holds n d files (fsk pay n per files es lasts st)
/-- How many there are of each. -/
structure Shp (per files len lasts : Nat) : Prop where
  pos : 1 ≤ per
  le : len ≤ files * per
  ge : (files - 1) * per ≤ lasts
  lasts : lasts ≤ len
end
section
variable {n : List UInt8} {files : Nat} {d : Dk} {g : Nat → Fl}
theorem Holds.mem (h : Holds n d files g) {k : Nat} (hk : k < files) : g k ∈ d.L := h.perm.mem_iff.2 (List.mem_map.2 ⟨k, List.mem_range.2 hk, rfl⟩)
theorem Holds.inv (h : Holds n d files g) {f : Fl} (hf : f ∈ d.L) : ∃ k, k < files ∧ f = g k := by
  obtain ⟨k, hk, rfl⟩ := List.mem_map.1 (h.perm.mem_iff.1 hf)
  exact ⟨k, List.mem_range.1 hk, rfl⟩
theorem Holds.get (h : Holds n d files g) {k : Nat} (hk : k < files) : D.get (fileN n k) d.L = some (g k) := by
  rw [← h.name k hk]; exact getK_mem h.sorted (h.mem hk)
theorem Holds.get_no (h : Holds n d files g) {m : List UInt8} (hm : ∀ k, k < files → m ≠ fileN n k) : D.get m d.L = none := by
  cases hg : D.get m d.L with
  | none => rfl
  | some f =>
    obtain ⟨h1, h2⟩ := getK_some hg
    obtain ⟨k, hk, rfl⟩ := h.inv h1
    exact absurd (h2.symm.trans (h.name k hk)) (hm k hk)
theorem Holds.get_new (h : Holds n d files g) {k : Nat} (hk : files ≤ k) : D.get (fileN n k) d.L = none :=
  h.get_no (fun i hi e => by have := fileN_inj e; omega)
theorem Holds.old (h : Holds n d files g) {k : Nat} (hk : k < files) : D.old (fileN n k) d.L = g k := by unfold D.old; rw [h.get hk]; rfl
theorem Holds.old_new (h : Holds n d files g) {k : Nat} (hk : files ≤ k) : D.old (fileN n k) d.L = ⟨fileN n k, [], 0, false⟩ := by unfold D.old; rw [h.get_new hk]; rfl
theorem Holds.len (h : Holds n d files g) : d.L.length = files := by rw [h.perm.length_eq]; simp
theorem Holds.of (h : Holds n d files g) {d' : Dk} (e : d'.L = d.L) : Holds n d' files g := ⟨by rw [e]; exact h.sorted, by rw [e]; exact h.perm, h.name⟩
theorem Holds.congr (h : Holds n d files g) {g' : Nat → Fl} (e : ∀ k, k < files → g k = g' k) : Holds n d files g' := by
  refine ⟨h.sorted, ?_, fun k hk => by rw [← e k hk]; exact h.name k hk⟩
  rw [← List.map_congr_left (fun i hi => e i (List.mem_range.1 hi))]
  exact h.perm
/-- A file is put in another one's place. -/
theorem Holds.ins (h : Holds n d files g) {k : Nat} (hk : k < files) {f : Fl} (hf : f.name = fileN n k) {d' : Dk} (hd : d'.L = D.ins f d.L) :
    Holds n d' files fun i => if i = k then f else g i := by
  have e := insK_old (x := f) h.sorted (h.mem hk) ((h.name k hk).trans hf.symm)
  refine ⟨by rw [hd]; exact sorted_insK h.sorted, ?_, fun i hi => ?_⟩
  · rw [hd]
    unfold D.ins
    rw [e]
    refine (h.perm.map _).trans ?_
    rw [List.map_map]
    refine List.Perm.of_eq (List.map_congr_left fun i hi => ?_)
    have hi' := h.name i (List.mem_range.1 hi)
    simp only [Function.comp]
    by_cases hik : i = k
    · subst hik
      rw [if_pos (hi'.trans hf.symm), if_pos rfl]
    · rw [if_neg hik, if_neg (fun e => hik (by rw [hf, hi'] at e; exact fileN_inj e))]
  · by_cases hik : i = k
    · subst hik
      simp only [if_pos]; exact hf
    · simp only [if_neg hik]; exact h.name i hi
/-- A new one. -/
theorem Holds.ins_new (h : Holds n d files g) {f : Fl} (hf : f.name = fileN n files) {d' : Dk} (hd : d'.L = D.ins f d.L) :
    Holds n d' (files + 1) fun i => if i = files then f else g i := by
  have hg := h.get_new (Nat.le_refl files)
  refine ⟨by rw [hd]; exact sorted_insK h.sorted, ?_, fun i hi => ?_⟩
  · rw [hd]
    refine (insK_new (x := f) (l := d.L) (by rw [hf]; exact getK_none hg)).trans ?_
    refine ((h.perm.cons f).trans (List.perm_append_singleton f _).symm).trans (List.Perm.of_eq ?_)
    rw [List.range_succ, List.map_append]
    congr 1
    · exact List.map_congr_left fun i hi => by
        have := List.mem_range.1 hi
        rw [if_neg (by omega)]
    · simp
  · by_cases hik : i = files
    · subst hik
      simp only [if_pos]; exact hf
    · simp only [if_neg hik]; exact h.name i (by omega)
theorem tot_range (files : Nat) (g : Nat → Fl) : tot ((List.range files).map g) = (((List.range files).map fun k => (g k).s).flatten).length := by
  induction files with
  | zero => rfl
  | succ m ih =>
    rw [List.range_succ, List.map_append, tot_app, ih, List.map_append, List.flatten_append, List.length_append]
    simp [tot]
theorem Holds.tot (h : Holds n d files g) : D.tot d.L = (((List.range files).map fun k => (g k).s).flatten).length := by
  rw [tot_perm h.perm, tot_range]
end
section
variable {α : Type} {pay : α → List UInt8} {n : List UInt8} {per files : Nat} {d : Dk} {es : List α} {lasts : Nat} {st : Bool}
theorem Lies.tot (h : Lies pay n per d files es lasts st) (hl : es.length ≤ files * per) : D.tot d.L = (byt pay es).length := by
  rw [Holds.tot h]
  have e : (List.range files).map (fun k => (fsk pay n per files es lasts st k).s) = (((List.range files).map (seg es per)).map (byt pay)) := by rw [List.map_map]; rfl
  rw [e, ← byt_flat, segs_all hl]
end
end Go.Proofs.YtghnbkkfghfifaaGreatDoor
/- Journals, plainly: what each call makes of them. -/
namespace Go.Proofs.YtghnbkkfghfifaaGreatDoor
open D
set_option linter.unusedVariables false
/-- A journal, plainly. -/
structure Jn (α : Type) where
  dk : Dk
  files : Nat
  es : List α
  lasts : Nat
  stuck : Nat
section
variable {α : Type} (pay : α → List UInt8) (n : List UInt8) (per : Nat)
def lastN (files : Nat) : List UInt8 := fileN n (files - 1)
def jsync (j : Jn α) : Jn α × Nat :=
  if j.stuck ≠ 0 ∨ j.files = 0 then (j, j.stuck) else
  if syncE j.dk (lastN n j.files) ≠ 0 then (⟨syncD j.dk (lastN n j.files), j.files, j.es, j.lasts, syncE j.dk (lastN n j.files)⟩, syncE j.dk (lastN n j.files))
  else (⟨syncD j.dk (lastN n j.files), j.files, j.es, j.es.length, 0⟩, 0)
def jput (x : α) (j : Jn α) : Jn α × Nat :=
  if appendE j.dk (fileN n (j.es.length / per)) (F.frameL (pay x)) ≠ 0 then
    (⟨appendD j.dk (fileN n (j.es.length / per)) (F.frameL (pay x)), j.files, j.es, j.lasts, appendE j.dk (fileN n (j.es.length / per)) (F.frameL (pay x))⟩, appendE j.dk (fileN n (j.es.length / per)) (F.frameL (pay x)))
  else (⟨appendD j.dk (fileN n (j.es.length / per)) (F.frameL (pay x)), j.es.length / per + 1, j.es ++ [x], j.lasts, 0⟩, 0)
def jadd (x : α) (j : Jn α) : Jn α × Nat :=
  if j.es.length % per = 0 then (if (jsync n j).2 ≠ 0 then jsync n j else jput pay n per x (jsync n j).1) else jput pay n per x j
def jadds : List α → Jn α → Jn α × Nat
  | [], j => (j, 0)
  | x :: r, j => if (jadd pay n per x j).2 ≠ 0 then jadd pay n per x j else jadds r (jadd pay n per x j).1
/-- What is wrong with an Append ahead of any change. -/
def jmay (may : α → Bool) (xs : List α) (j : Jn α) : Nat :=
  if j.stuck ≠ 0 then j.stuck else if xs.all may = false then 1 else if (xs.length : Int) > 1048576 - (j.es.length : Int) then 5 else 0
def jappend (may : α → Bool) (xs : List α) (j : Jn α) : Jn α × (Nat × Nat) :=
  if jmay may xs j ≠ 0 then (j, 0, jmay may xs j) else ((jadds pay n per xs j).1, j.es.length, (jadds pay n per xs j).2)
variable (er : α → Bool) (kp : α → Bool) (zero : α)
/-- Is it one that is erased now? -/
def drops (x : α) : Bool := !er x && !kp x
def rw1 (x : α) : α := if drops er kp x then zero else x
def cnt (l : List α) : Nat := l.countP (drops er kp)
/-- Entries of which a segment is another one. -/
def putSeg (es : List α) (k : Nat) (s : List α) : List α := es.take (k * per) ++ s ++ es.drop (k * per + s.length)
def jrew1 (k : Nat) (j : Jn α) : Jn α × (Nat × Nat) :=
  if cnt er kp (seg j.es per k) = 0 then (j, 0, 0) else
  if replaceE j.dk (fileN n k) (byt pay ((seg j.es per k).map (rw1 er kp zero))) ≠ 0 then
    (⟨replaceD j.dk (fileN n k) (byt pay ((seg j.es per k).map (rw1 er kp zero))), j.files, j.es, j.lasts, replaceE j.dk (fileN n k) (byt pay ((seg j.es per k).map (rw1 er kp zero)))⟩, 0, replaceE j.dk (fileN n k) (byt pay ((seg j.es per k).map (rw1 er kp zero))))
  else (⟨replaceD j.dk (fileN n k) (byt pay ((seg j.es per k).map (rw1 er kp zero))), j.files, putSeg per j.es k ((seg j.es per k).map (rw1 er kp zero)), if k + 1 = j.files then j.es.length else j.lasts, 0⟩, cnt er kp (seg j.es per k), 0)
def jrews : List Nat → Jn α → Nat → Jn α × (Nat × Nat)
  | [], j, c => (j, c, 0)
  | k :: r, j, c => if (jrew1 pay n per er kp zero k j).2.2 ≠ 0 then ((jrew1 pay n per er kp zero k j).1, c, (jrew1 pay n per er kp zero k j).2.2) else jrews r (jrew1 pay n per er kp zero k j).1 (c + (jrew1 pay n per er kp zero k j).2.1)
def jrewrite (j : Jn α) : Jn α × (Nat × Nat) := if j.stuck ≠ 0 then (j, 0, j.stuck) else jrews pay n per er kp zero (List.range j.files) j 0
/-- The events at offsets, and these. -/
def readL (es : List α) (from' m : Nat) : List (α × Nat) := (((es.zipIdx).drop from').take m).filter fun p => !er p.1
theorem jadds_snoc : ∀ (a : List α) (x : α) (j : Jn α), (jadds pay n per a j).2 = 0 → jadds pay n per (a ++ [x]) j = jadd pay n per x (jadds pay n per a j).1
  | [], x, j, _ => by
    show (if _ then _ else _) = _
    split
    · rfl
    · rename_i h
      show jadds pay n per [] _ = _
      have h : (jadd pay n per x j).2 = 0 := by simpa using h
      show ((jadd pay n per x j).1, 0) = jadd pay n per x j
      rw [← h]
  | y :: r, x, j, h => by
    unfold jadds at h
    rw [List.cons_append]
    unfold jadds
    by_cases hy : (jadd pay n per y j).2 = 0
    · rw [if_neg (by simpa using hy)] at h
      rw [if_neg (by simpa using hy), if_neg (by simpa using hy)]
      exact jadds_snoc r x _ h
    · rw [if_pos hy] at h
      exact absurd h hy
theorem jadds_err : ∀ (a r : List α) (j : Jn α), (jadds pay n per a j).2 ≠ 0 → jadds pay n per (a ++ r) j = jadds pay n per a j
  | [], r, j, h => absurd rfl h
  | y :: a, r, j, h => by
    unfold jadds at h
    rw [List.cons_append]
    unfold jadds
    by_cases hy : (jadd pay n per y j).2 = 0
    · rw [if_neg (by simpa using hy)] at h
      rw [if_neg (by simpa using hy), if_neg (by simpa using hy)]
      exact jadds_err a r _ h
    · rw [if_pos hy, if_pos hy]
theorem jrews_cons {k : Nat} {j : Jn α} (h : (jrew1 pay n per er kp zero k j).2.2 = 0) (a : List Nat) (c : Nat) : jrews pay n per er kp zero (k :: a) j c = jrews pay n per er kp zero a (jrew1 pay n per er kp zero k j).1 (c + (jrew1 pay n per er kp zero k j).2.1) := by
  conv => lhs; unfold jrews
  rw [if_neg (by simpa using h)]
theorem jrews_app : ∀ (a r : List Nat) (j : Jn α) (c : Nat), (jrews pay n per er kp zero a j c).2.2 = 0 → jrews pay n per er kp zero (a ++ r) j c = jrews pay n per er kp zero r (jrews pay n per er kp zero a j c).1 (jrews pay n per er kp zero a j c).2.1
  | [], r, j, c, _ => rfl
  | k :: a, r, j, c, h => by
    by_cases hy : (jrew1 pay n per er kp zero k j).2.2 = 0
    · rw [jrews_cons (h := hy)] at h
      rw [List.cons_append, jrews_cons (h := hy), jrews_cons (h := hy)]
      exact jrews_app a r _ _ h
    · unfold jrews at h
      rw [if_pos hy] at h
      exact absurd h hy
theorem jrews_err : ∀ (a r : List Nat) (j : Jn α) (c : Nat), (jrews pay n per er kp zero a j c).2.2 ≠ 0 → jrews pay n per er kp zero (a ++ r) j c = jrews pay n per er kp zero a j c
  | [], r, j, c, h => absurd rfl h
  | k :: a, r, j, c, h => by
    by_cases hy : (jrew1 pay n per er kp zero k j).2.2 = 0
    · rw [jrews_cons (h := hy)] at h
      rw [List.cons_append, jrews_cons (h := hy), jrews_cons (h := hy)]
      exact jrews_err a r _ _ h
    · rw [List.cons_append]
      unfold jrews
      rw [if_pos hy, if_pos hy]
end
end Go.Proofs.YtghnbkkfghfifaaGreatDoor
/- Rewrites, plainly. -/
namespace Go.Proofs.YtghnbkkfghfifaaGreatDoor
open D
set_option linter.unusedVariables false
section
variable {α : Type}
theorem putSeg_len {per : Nat} {es s : List α} {k : Nat} (h : k * per + s.length ≤ es.length) : (putSeg per es k s).length = es.length := by
  unfold putSeg; simp; omega
theorem putSeg_get {per : Nat} {es s : List α} {k : Nat} (h : k * per + s.length ≤ es.length) (x : Nat) : (putSeg per es k s)[x]? = if x < k * per then es[x]? else if x < k * per + s.length then s[x - k * per]? else es[x]? := by
  unfold putSeg
  have h1 : (es.take (k * per)).length = k * per := by rw [List.length_take]; omega
  by_cases hx : x < k * per
  · rw [if_pos hx, List.append_assoc, List.getElem?_append_left (by omega), List.getElem?_take, if_pos hx]
  · rw [if_neg hx, List.append_assoc, List.getElem?_append_right (by omega), h1]
    by_cases hy : x < k * per + s.length
    · rw [if_pos hy, List.getElem?_append_left (by omega)]
    · rw [if_neg hy, List.getElem?_append_right (by omega), List.getElem?_drop]
      congr 1
      omega
theorem seg_get (es : List α) (per k y : Nat) : (seg es per k)[y]? = if y < per then es[k * per + y]? else none := by
  unfold seg
  rw [List.getElem?_take]
  split
  · rw [List.getElem?_drop]
  · rfl
theorem seg_put {per : Nat} {es s : List α} {k : Nat} (hl : s.length = (seg es per k).length) (hk : k * per ≤ es.length) (i : Nat) : seg (putSeg per es k s) per i = if i = k then s else seg es per i := by
  have hs : s.length ≤ per ∧ k * per + s.length ≤ es.length := by rw [hl, seg_len]; omega
  apply List.ext_getElem?
  intro y
  rw [seg_get, putSeg_get hs.2]
  by_cases hik : i = k
  · subst hik
    rw [if_pos rfl]
    by_cases hy : y < per
    · rw [if_pos hy, if_neg (by omega)]
      by_cases hy2 : y < s.length
      · rw [if_pos (by omega)]; congr 1; omega
      · rw [if_neg (by omega), List.getElem?_eq_none (l := s) (by omega)]
        rw [seg_len] at hl
        exact List.getElem?_eq_none (by omega)
    · rw [if_neg hy, List.getElem?_eq_none (by omega)]
  · rw [if_neg hik, seg_get]
    by_cases hy : y < per
    · rw [if_pos hy, if_pos hy]
      rcases Nat.lt_or_gt_of_ne hik with h | h
      · have h1 : (i + 1) * per ≤ k * per := Nat.mul_le_mul_right _ h
        rw [Nat.succ_mul] at h1
        rw [if_pos (by omega)]
      · have h1 : (k + 1) * per ≤ i * per := Nat.mul_le_mul_right _ h
        rw [Nat.succ_mul] at h1
        rw [if_neg (by omega), if_neg (by omega)]
    · rw [if_neg hy, if_neg hy]
variable (pay : α → List UInt8) (n : List UInt8) (per : Nat) (er kp : α → Bool) (zero : α)
theorem jrew1_files (k : Nat) (j : Jn α) : (jrew1 pay n per er kp zero k j).1.files = j.files := by
  unfold jrew1
  split
  · rfl
  · split <;> rfl
theorem jrew1_es (k : Nat) (j : Jn α) (h : (jrew1 pay n per er kp zero k j).2.2 = 0) : (jrew1 pay n per er kp zero k j).1.es = putSeg per j.es k ((seg j.es per k).map (rw1 er kp zero)) ∨ (jrew1 pay n per er kp zero k j).1.es = j.es ∧ cnt er kp (seg j.es per k) = 0 := by
  unfold jrew1 at h ⊢
  by_cases h1 : cnt er kp (seg j.es per k) = 0
  · rw [if_pos h1]; exact .inr ⟨rfl, h1⟩
  · rw [if_neg h1] at h ⊢
    split
    · rename_i h2; rw [if_pos h2] at h; exact absurd h h2
    · exact .inl rfl
theorem cnt_zero {l : List α} (h : cnt er kp l = 0) : l.map (rw1 er kp zero) = l := by
  unfold cnt at h
  rw [List.countP_eq_zero] at h
  refine (List.map_congr_left (fun x hx => ?_)).trans (List.map_id l)
  unfold rw1
  rw [if_neg (h x hx)]
  rfl
/-- Behind the first segments: the others are as they were. -/
theorem jrews_ok {j : Jn α} : ∀ (i : Nat), (i = 0 ∨ (i - 1) * per ≤ j.es.length) → (jrews pay n per er kp zero (List.range i) j 0).2.2 = 0 → (jrews pay n per er kp zero (List.range i) j 0).1.files = j.files ∧ (jrews pay n per er kp zero (List.range i) j 0).1.es.length = j.es.length ∧
    (∀ k, seg (jrews pay n per er kp zero (List.range i) j 0).1.es per k = if k < i then (seg j.es per k).map (rw1 er kp zero) else seg j.es per k) ∧ (jrews pay n per er kp zero (List.range i) j 0).2.1 = ((List.range i).map fun k => cnt er kp (seg j.es per k)).sum
  | 0, _, _ => ⟨rfl, rfl, fun k => by rw [if_neg (by omega)]; rfl, rfl⟩
  | i + 1, hi, h => by
    have hi' : i * per ≤ j.es.length := by simpa using hi
    rw [List.range_succ] at h ⊢
    by_cases h0 : (jrews pay n per er kp zero (List.range i) j 0).2.2 = 0
    · obtain ⟨b1, b2, b3, b4⟩ := jrews_ok i (by
        rcases Nat.eq_zero_or_pos i with h | h
        · exact .inl h
        · right
          exact Nat.le_trans (Nat.mul_le_mul_right _ (by omega)) hi') h0
      rw [jrews_app pay n per er kp zero _ _ _ _ h0] at h ⊢
      obtain ⟨J, hJ⟩ : ∃ J, (jrews pay n per er kp zero (List.range i) j 0).1 = J := ⟨_, rfl⟩
      obtain ⟨c, hc⟩ : ∃ c, (jrews pay n per er kp zero (List.range i) j 0).2.1 = c := ⟨_, rfl⟩
      rw [hJ] at b1 b2 b3 h ⊢
      rw [hc] at b4 h ⊢
      by_cases h2 : (jrew1 pay n per er kp zero i J).2.2 = 0
      · rw [jrews_cons pay n per er kp zero h2]
        show (jrew1 pay n per er kp zero i J).1.files = j.files ∧ (jrew1 pay n per er kp zero i J).1.es.length = j.es.length ∧ (∀ k, seg (jrew1 pay n per er kp zero i J).1.es per k = _) ∧ c + (jrew1 pay n per er kp zero i J).2.1 = _
        have hsi : seg J.es per i = seg j.es per i := by rw [b3, if_neg (by omega)]
        have hfit : ((seg J.es per i).map (rw1 er kp zero)).length = (seg J.es per i).length := by simp
        have hle : i * per + ((seg J.es per i).map (rw1 er kp zero)).length ≤ J.es.length := by rw [hfit, seg_len, b2]; omega
        refine ⟨(jrew1_files pay n per er kp zero i J).trans b1, ?_, fun k => ?_, ?_⟩
        · rcases jrew1_es pay n per er kp zero i J h2 with e | ⟨e, _⟩
          · rw [e, putSeg_len hle, b2]
          · rw [e, b2]
        · rcases jrew1_es pay n per er kp zero i J h2 with e | ⟨e, e2⟩
          · rw [e, seg_put hfit (by rw [b2]; exact hi')]
            by_cases hk : k = i
            · subst hk
              rw [if_pos rfl, if_pos (by omega), hsi]
            · rw [if_neg hk, b3]
              by_cases hk2 : k < i
              · rw [if_pos hk2, if_pos (by omega)]
              · rw [if_neg hk2, if_neg (by omega)]
          · rw [e, b3]
            by_cases hk : k = i
            · subst hk
              rw [if_neg (by omega), if_pos (by omega)]
              rw [hsi] at e2
              exact (cnt_zero er kp zero e2).symm
            · by_cases hk2 : k < i
              · rw [if_pos hk2, if_pos (by omega)]
              · rw [if_neg hk2, if_neg (by omega)]
        · rw [List.map_append, List.sum_append, ← b4]
          have : (jrew1 pay n per er kp zero i J).2.1 = cnt er kp (seg j.es per i) := by
            rw [← hsi]
            unfold jrew1 at h2 ⊢
            by_cases h5 : cnt er kp (seg J.es per i) = 0
            · rw [if_pos h5]; exact h5.symm
            · rw [if_neg h5] at h2 ⊢
              split
              · rename_i h6; rw [if_pos h6] at h2; exact absurd h2 h6
              · rfl
          rw [this]; simp
      · exfalso
        unfold jrews at h
        rw [if_pos h2] at h
        exact h2 h
    · exfalso
      rw [jrews_err pay n per er kp zero _ _ _ _ h0] at h
      exact h0 h
end
end Go.Proofs.YtghnbkkfghfifaaGreatDoor
/- What lies on a disk behind each call, plainly. -/
namespace Go.Proofs.YtghnbkkfghfifaaGreatDoor
open D
set_option linter.unusedVariables false
section
variable {α : Type} (pay : α → List UInt8) (n : List UInt8) (per : Nat)
/-- A journal's files lie on a disk. -/
structure Lie (d : Dk) (files : Nat) (es : List α) (lasts : Nat) (st : Bool) : Prop where
  lies : Lies pay n per d files es lasts st
  shp : Shp per files es.length lasts
  short : Short pay es
  few : es.length ≤ 2000
  name : n.length ≤ 24
  stf : st = false → lasts ≤ (files - 1) * per
variable {pay n per} {d : Dk} {files : Nat} {es : List α} {lasts : Nat} {st : Bool}
theorem Lie.files_le (h : Lie pay n per d files es lasts st) : files ≤ 2001 := by
  have h1 := h.shp.ge
  have h2 := h.shp.lasts
  have h3 := h.few
  have h4 := h.shp.pos
  have h5 : (files - 1) * 1 ≤ (files - 1) * per := Nat.mul_le_mul_left _ h4
  omega
theorem Lie.ask (h : Lie pay n per d files es lasts st) (hup : d.down = false) {k : Nat} (hk : k ≤ 2001) : D.ask d (fileN n k) = 0 := by
  obtain ⟨h1, h2⟩ := fileN_len (k := k) h.name (by omega)
  unfold D.ask
  rw [hup, if_neg (by simp), if_neg (by omega)]
theorem Lie.tot (h : Lie pay n per d files es lasts st) : D.tot d.L ≤ 820000 := by
  rw [h.lies.tot h.shp.le]
  have := byt_len pay h.short
  have := h.few
  omega
theorem Lie.hold (h : Lie pay n per d files es lasts st) (hup : d.down = false) {k : Nat} (hk : k ≤ 2001) {more : Int} (hm : more ≤ 3000000) : mayHold d (fileN n k) more = 0 := by
  have h1 := h.tot
  have h2 := h.files_le
  have h3 := h.lies.len
  unfold mayHold
  rw [h.ask hup hk, if_neg (by simp), if_neg]
  rintro (h4 | h4)
  · omega
  · omega
theorem Lie.found (h : Lie pay n per d files es lasts st) (hup : d.down = false) {k : Nat} (hk : k < files) : find d (fileN n k) = 0 := by
  have := h.files_le
  unfold find
  rw [h.ask hup (by omega), if_neg (by simp), h.lies.get hk]
  simp
theorem Lie.whole (h : Lie pay n per d files es lasts st) {k : Nat} (hk : k + 1 < files) : (k + 1) * per ≤ lasts := Nat.le_trans (Nat.mul_le_mul_right _ (by omega)) h.shp.ge
theorem Lie.of (h : Lie pay n per d files es lasts st) {d' : Dk} (e : d'.L = d.L) : Lie pay n per d' files es lasts st := ⟨h.lies.of e, h.shp, h.short, h.few, h.name, h.stf⟩
/-- An entry more, in the last file. -/
theorem Lie.more (h : Lie pay n per d files es lasts st) (hl : es.length < files * per) (x : α) (hx : (pay x).length ≤ 400) (hf : es.length + 1 ≤ 2000) {d' : Dk} (hd : d'.L = ins (addF (old (fileN n (es.length / per)) d.L) (F.frameL (pay x))) d.L) :
    es.length / per + 1 = files ∧ Lie pay n per d' files (es ++ [x]) lasts st := by
  have hp := h.shp.pos
  have hge := h.shp.ge
  have hla := h.shp.lasts
  have hf0 : 0 < files := by
    rcases Nat.eq_zero_or_pos files with h0 | h0
    · rw [h0] at hl; omega
    · exact h0
  have hk : es.length / per = files - 1 := by
    have h1 : (files - 1) ≤ es.length / per := (Nat.le_div_iff_mul_le hp).2 (by omega)
    have h2 : es.length / per < files := (Nat.div_lt_iff_lt_mul hp).2 hl
    omega
  refine ⟨by omega, ?_⟩
  rw [hk, h.lies.old (by omega)] at hd
  have hi := h.lies.ins (k := files - 1) (by omega) (f := addF (fsk pay n per files es lasts st (files - 1)) (F.frameL (pay x))) rfl hd
  have hmul : (files - 1 + 1) * per = files * per := by rw [Nat.sub_add_cancel hf0]
  refine ⟨hi.congr (fun i hik => ?_), ⟨hp, by simp; omega, hge, by simp; omega⟩, ?_, by simpa using hf, h.name, h.stf⟩
  · by_cases hk2 : i = files - 1
    · subst hk2
      simp only [if_pos]
      have hg := seg_grow (l := es) (per := per) (k := files - 1) (by omega) (by rw [hmul]; exact hl) x
      have ht : (seg (es ++ [x]) per (files - 1)).take (lasts - (files - 1) * per) = (seg es per (files - 1)).take (lasts - (files - 1) * per) := by
        rw [hg, List.take_append_of_le_length]
        rw [seg_len]
        rw [Nat.sub_add_cancel hf0] at hmul
        have : files * per = (files - 1) * per + per := by rw [← hmul]; conv => lhs; rw [← Nat.sub_add_cancel hf0, Nat.succ_mul]
        omega
      unfold addF fsk
      simp only
      rw [ht, hg, byt_app, byt_one]
    · simp only [if_neg hk2]
      have hw := h.whole (k := i) (by omega)
      have hs := seg_app (l := es) (r := [x]) (per := per) (k := i) (by omega)
      unfold fsk
      rw [hs]
  · intro y hy
    rcases List.mem_append.1 hy with hy | hy
    · exact h.short y hy
    · rw [List.mem_singleton.1 hy]; exact hx
/-- An entry more, in a file of its own. -/
theorem Lie.next (h : Lie pay n per d files es lasts st) (hl : es.length = files * per) (hst : 0 < files → st = true) (hla : lasts = es.length) (x : α) (hx : (pay x).length ≤ 400) (hf : es.length + 1 ≤ 2000) {d' : Dk} (hd : d'.L = ins (addF (old (fileN n (es.length / per)) d.L) (F.frameL (pay x))) d.L) :
    es.length / per = files ∧ Lie pay n per d' (files + 1) (es ++ [x]) lasts false := by
  have hp := h.shp.pos
  have hk : es.length / per = files := by rw [hl]; exact Nat.mul_div_cancel _ hp
  refine ⟨hk, ?_⟩
  rw [hk, h.lies.old_new (Nat.le_refl _)] at hd
  have hi := h.lies.ins_new (f := addF ⟨fileN n files, [], 0, false⟩ (F.frameL (pay x))) rfl hd
  refine ⟨hi.congr (fun i hik => ?_), ⟨hp, by rw [Nat.succ_mul]; simp; omega, by simp; omega, by simp; omega⟩, ?_, by simpa using hf, h.name, fun _ => by simp; omega⟩
  · by_cases hk2 : i = files
    · subst hk2
      simp only [if_pos]
      have hg : seg (es ++ [x]) per i = [x] := by
        unfold seg
        rw [← hl, List.drop_left]
        exact List.take_of_length_le (by simpa using hp)
      unfold addF fsk
      rw [hg, byt_one, hla, hl, Nat.sub_self]
      simp [byt_nil]
    · simp only [if_neg hk2]
      have hik2 : i < files := by omega
      have hm : (i + 1) * per ≤ files * per := Nat.mul_le_mul_right _ hik2
      have hs := seg_app (l := es) (r := [x]) (per := per) (k := i) (by omega)
      unfold fsk
      rw [hs, hst (by omega), decide_eq_true (show i + 1 < files + 1 by omega)]
      simp
  · intro y hy
    rcases List.mem_append.1 hy with hy | hy
    · exact h.short y hy
    · rw [List.mem_singleton.1 hy]; exact hx
/-- All last. -/
theorem Lie.sync (h : Lie pay n per d files es lasts st) (hf0 : 0 < files) {d' : Dk} (hd : d'.L = ins (lastF (old (fileN n (files - 1)) d.L)) d.L) : Lie pay n per d' files es es.length true := by
  have hp := h.shp.pos
  have hge := h.shp.ge
  have hla := h.shp.lasts
  rw [h.lies.old (by omega)] at hd
  have hi := h.lies.ins (k := files - 1) (by omega) (f := lastF (fsk pay n per files es lasts st (files - 1))) rfl hd
  have hle := h.shp.le
  have hmul : files * per = (files - 1) * per + per := by conv => lhs; rw [← Nat.sub_add_cancel hf0, Nat.succ_mul]
  refine ⟨hi.congr (fun i hik => ?_), ⟨hp, hle, by omega, Nat.le_refl _⟩, h.short, h.few, h.name, fun e => by cases e⟩
  by_cases hk2 : i = files - 1
  · subst hk2
    simp only [if_pos]
    have hs := seg_lasts' (l := es) (per := per) (k := files - 1) (lasts := es.length) (Nat.le_refl _)
    unfold lastF fsk
    rw [hs]
    simp
  · simp only [if_neg hk2]
    have hw := h.whole (k := i) (by omega)
    have hs := seg_lasts (l := es) (per := per) (k := i) (lasts := es.length) (by omega)
    have hs2 := seg_lasts (l := es) (per := per) (k := i) (lasts := lasts) hw
    unfold fsk
    rw [hs, hs2, decide_eq_true (show i + 1 < files by omega)]
    simp
/-- A segment is another one. -/
theorem Lie.put (h : Lie pay n per d files es lasts st) {k : Nat} (hk : k < files) {s : List α} (hl : s.length = (seg es per k).length) (hs : Short pay s) {d' : Dk} (hd : d'.L = ins ⟨fileN n k, byt pay s, (byt pay s).length, true⟩ d.L) :
    Lie pay n per d' files (putSeg per es k s) (if k + 1 = files then es.length else lasts) (if k + 1 = files then true else st) := by
  have hp := h.shp.pos
  have hge := h.shp.ge
  have hla := h.shp.lasts
  have hle := h.shp.le
  have hkl : k * per ≤ es.length := Nat.le_trans (Nat.mul_le_mul_right _ (by omega)) (Nat.le_trans hge hla)
  have hsl : k * per + s.length ≤ es.length := by rw [hl, seg_len]; omega
  have hlen : (putSeg per es k s).length = es.length := putSeg_len hsl
  have hi := h.lies.ins (k := k) hk (f := ⟨fileN n k, byt pay s, (byt pay s).length, true⟩) rfl hd
  refine ⟨hi.congr (fun i hik => ?_), ⟨hp, by rw [hlen]; exact hle, by split <;> omega, by rw [hlen]; split <;> omega⟩, ?_, by rw [hlen]; exact h.few, h.name, ?_⟩
  · have hsp := seg_put (per := per) (es := es) (s := s) (k := k) hl hkl i
    by_cases hk2 : i = k
    · subst hk2
      simp only [if_pos]
      rw [if_pos rfl] at hsp
      unfold fsk
      rw [hsp]
      by_cases hlast : i + 1 = files
      · rw [if_pos hlast, if_pos hlast, List.take_of_length_le (by rw [hl, seg_len]; omega)]
        simp
      · have hw := h.whole (k := i) (by omega)
        rw [Nat.succ_mul] at hw
        rw [if_neg hlast, if_neg hlast, List.take_of_length_le (by rw [hl, seg_len]; omega), decide_eq_true (show i + 1 < files by omega)]
        simp
    · simp only [if_neg hk2]
      rw [if_neg hk2] at hsp
      unfold fsk
      rw [hsp]
      by_cases hlast : k + 1 = files
      · have hw := h.whole (k := i) (by omega)
        rw [if_pos hlast, if_pos hlast, seg_lasts hw, seg_lasts (by omega), decide_eq_true (show i + 1 < files by omega)]
        simp
      · rw [if_neg hlast, if_neg hlast]
  · intro y hy
    unfold putSeg at hy
    rcases List.mem_append.1 hy with hy | hy
    · rcases List.mem_append.1 hy with hy | hy
      · exact h.short y (List.mem_of_mem_take hy)
      · exact hs y hy
    · exact h.short y (List.mem_of_mem_drop hy)
  · split
    · exact fun e => by cases e
    · exact h.stf
end
end Go.Proofs.YtghnbkkfghfifaaGreatDoor
/- A journal on a disk that is up, plainly. -/
namespace Go.Proofs.YtghnbkkfghfifaaGreatDoor
open D
set_option linter.unusedVariables false
section
variable {α : Type} (pay : α → List UInt8) (n : List UInt8) (per : Nat)
/-- A journal that isn't stuck, on a disk that is up and has no fuse. -/
structure Up (j : Jn α) (st : Bool) : Prop where
  lie : Lie pay n per j.dk j.files j.es j.lasts st
  up : j.dk.down = false
  fuse : j.dk.fuse = -1
  stuck : j.stuck = 0
variable {pay n per} {j : Jn α} {st : Bool}
theorem burn_none {d : Dk} (h : d.fuse = -1) : burn d = d := by unfold burn; rw [if_pos h]
theorem burnE_none : burnE (-1) = 0 := by decide
theorem Up.none_lasts (h : Up pay n per j st) (h0 : j.files = 0) : j.es.length = 0 ∧ j.lasts = 0 := by
  have h1 := h.lie.shp.le
  have h2 := h.lie.shp.lasts
  rw [h0, Nat.zero_mul] at h1
  omega
theorem Up.sync (h : Up pay n per j st) : ∃ j', jsync n j = (j', 0) ∧ Up pay n per j' (if j.files = 0 then st else true) ∧ j'.es = j.es ∧ j'.files = j.files ∧ j'.lasts = j.es.length := by
  unfold jsync
  by_cases h0 : j.files = 0
  · rw [if_pos (.inr h0), h.stuck]
    have := h.none_lasts h0
    exact ⟨j, rfl, by rw [if_pos h0]; exact h, rfl, rfl, by omega⟩
  · have hf := h.lie.found h.up (k := j.files - 1) (by omega)
    rw [if_neg (by rw [h.stuck]; simp [h0]), if_neg h0]
    have hE : syncE j.dk (lastN n j.files) = 0 := by unfold syncE lastN; rw [hf, if_neg (by simp), h.fuse]; rfl
    have hD : syncD j.dk (lastN n j.files) = withL j.dk (ins (lastF (old (fileN n (j.files - 1)) j.dk.L)) j.dk.L) := by
      unfold syncD lastN
      rw [hf, if_neg (by simp), if_neg (by rw [h.fuse]; decide)]
      exact burn_none (d := withL j.dk _) h.fuse
    rw [if_neg (by rw [hE]; simp), hD]
    exact ⟨_, rfl, ⟨h.lie.sync (by omega) rfl, h.up, h.fuse, rfl⟩, rfl, rfl, rfl⟩
theorem Up.jput (h : Up pay n per j st) (x : α) (hx : (pay x).length ≤ 400) (hf : j.es.length + 1 ≤ 2000) (hst : j.es.length = j.files * per → (0 < j.files → st = true) ∧ j.lasts = j.es.length) :
    ∃ j' st', jput pay n per x j = (j', 0) ∧ Up pay n per j' st' ∧ j'.es = j.es ++ [x] ∧ j'.files = j.es.length / per + 1 ∧ j'.lasts = j.lasts := by
  have hp := h.lie.shp.pos
  have hfl := h.lie.files_le
  have hle := h.lie.shp.le
  have hk : j.es.length / per ≤ j.files := by
    have := Nat.div_le_div_right (c := per) hle
    rw [Nat.mul_div_cancel _ hp] at this
    exact this
  have hhold := h.lie.hold h.up (k := j.es.length / per) (by omega) (more := (F.frameL (pay x)).length) (by rw [F.frameL_len]; omega)
  have hE : appendE j.dk (fileN n (j.es.length / per)) (F.frameL (pay x)) = 0 := by unfold appendE; rw [hhold, if_neg (by simp), h.fuse]; rfl
  have hD : appendD j.dk (fileN n (j.es.length / per)) (F.frameL (pay x)) = withL j.dk (ins (addF (old (fileN n (j.es.length / per)) j.dk.L) (F.frameL (pay x))) j.dk.L) := by
    unfold appendD
    rw [hhold, if_neg (by simp)]
    exact burn_none (d := withL j.dk _) h.fuse
  unfold Go.Proofs.YtghnbkkfghfifaaGreatDoor.jput
  rw [if_neg (by rw [hE]; simp), hD]
  rcases Nat.lt_or_ge j.es.length (j.files * per) with hl | hl
  · obtain ⟨h1, h2⟩ := h.lie.more hl x hx hf (d' := withL j.dk (ins (addF (old (fileN n (j.es.length / per)) j.dk.L) (F.frameL (pay x))) j.dk.L)) rfl
    exact ⟨_, st, rfl, ⟨by rw [h1]; exact h2, h.up, h.fuse, rfl⟩, rfl, rfl, rfl⟩
  · have hl' : j.es.length = j.files * per := Nat.le_antisymm hle hl
    obtain ⟨h3, h4⟩ := hst hl'
    obtain ⟨h1, h2⟩ := h.lie.next hl' h3 h4 x hx hf (d' := withL j.dk (ins (addF (old (fileN n (j.es.length / per)) j.dk.L) (F.frameL (pay x))) j.dk.L)) rfl
    exact ⟨_, false, rfl, ⟨by rw [h1] at h2 ⊢; exact h2, h.up, h.fuse, rfl⟩, rfl, rfl, rfl⟩
theorem Up.full_mod (h : Up pay n per j st) (hl : j.es.length = j.files * per) : j.es.length % per = 0 := by rw [hl]; exact Nat.mul_mod_left _ _
theorem Up.add (h : Up pay n per j st) (x : α) (hx : (pay x).length ≤ 400) (hf : j.es.length + 1 ≤ 2000) :
    ∃ j' st', jadd pay n per x j = (j', 0) ∧ Up pay n per j' st' ∧ j'.es = j.es ++ [x] ∧ j'.files = j.es.length / per + 1 ∧ j'.lasts = max j.lasts (j.es.length / per * per) := by
  have hp := h.lie.shp.pos
  have hge := h.lie.shp.ge
  have hla := h.lie.shp.lasts
  unfold jadd
  by_cases hm : j.es.length % per = 0
  · rw [if_pos hm]
    obtain ⟨j1, e1, h1, h2, h3, h4⟩ := h.sync
    rw [e1, if_neg (by simp)]
    obtain ⟨j2, st2, e2, g1, g2, g3, g4⟩ := h1.jput x hx (by rw [h2]; exact hf) (fun hl => ⟨fun h0 => by rw [if_neg (by omega)], by rw [h4, h2]⟩)
    refine ⟨j2, st2, e2, g1, by rw [g2, h2], by rw [g3, h2], ?_⟩
    have hd : j.es.length / per * per = j.es.length := by have := Nat.div_add_mod j.es.length per; rw [Nat.mul_comm] at this; omega
    rw [g4, h4, hd]
    omega
  · rw [if_neg hm]
    obtain ⟨j2, st2, e2, g1, g2, g3, g4⟩ := h.jput x hx hf (fun hl => absurd (h.full_mod hl) hm)
    refine ⟨j2, st2, e2, g1, g2, g3, ?_⟩
    rw [g4]
    have hk : j.es.length / per * per ≤ j.lasts := by
      have h5 : j.es.length / per ≤ j.files - 1 := by
        have h6 : j.es.length / per < j.files := (Nat.div_lt_iff_lt_mul hp).2 (by
          have := h.lie.shp.le
          rcases Nat.lt_or_ge j.es.length (j.files * per) with h | h7
          · exact h
          · exact absurd (h.full_mod (by omega)) hm)
        omega
      exact Nat.le_trans (Nat.mul_le_mul_right _ h5) hge
    omega
/-- What lasts since the last file was begun. -/
def auto (m per : Nat) : Nat := if m = 0 then 0 else (m - 1) / per * per
theorem auto_mono {a b per : Nat} (h : a ≤ b) : auto a per ≤ auto b per := by
  unfold auto
  split
  · exact Nat.zero_le _
  · rw [if_neg (by omega)]
    exact Nat.mul_le_mul_right _ (Nat.div_le_div_right (by omega))
theorem Up.adds : ∀ (xs : List α) {j : Jn α} {st : Bool}, Up pay n per j st → Short pay xs → j.es.length + xs.length ≤ 2000 →
    ∃ j' st', jadds pay n per xs j = (j', 0) ∧ Up pay n per j' st' ∧ j'.es = j.es ++ xs ∧ (xs = [] → j' = j) ∧ (xs ≠ [] → j'.files = (j.es.length + xs.length - 1) / per + 1) ∧ j'.lasts = (if xs = [] then j.lasts else max j.lasts (auto (j.es.length + xs.length) per))
  | [], j, st, h, _, _ => ⟨j, st, rfl, h, by simp, fun _ => rfl, fun e => absurd rfl e, rfl⟩
  | x :: r, j, st, h, hs, hl => by
    rw [List.length_cons] at hl
    obtain ⟨j1, s1, e1, h1, h2, h3, h4⟩ := h.add x (hs x (by simp)) (by omega)
    obtain ⟨j2, s2, e2, g1, g2, g3, g4, g5⟩ := Up.adds r h1 (fun y hy => hs y (by simp [hy])) (by rw [h2]; simp; omega)
    refine ⟨j2, s2, ?_, g1, by rw [g2, h2, List.append_assoc]; rfl, (fun e => by cases e), fun _ => ?_, ?_⟩
    · unfold jadds
      rw [e1, if_neg (by simp)]
      exact e2
    · cases r with
      | nil => rw [g3 rfl, h3]; rfl
      | cons y r => rw [g4 (by simp), h2]; simp only [List.length_append, List.length_cons, List.length_nil]; congr 2; omega
    · rw [if_neg (by simp), g5, h4]
      have e3 : auto (j.es.length + 1) per = j.es.length / per * per := by unfold auto; rw [if_neg (by omega), Nat.add_sub_cancel]
      cases r with
      | nil => rw [if_pos rfl]; simp only [List.length_cons, List.length_nil]; rw [e3]
      | cons y r =>
        rw [if_neg (by simp), h2]
        simp only [List.length_append, List.length_cons, List.length_nil]
        have e4 : j.es.length + 1 + (r.length + 1) = j.es.length + (r.length + 1 + 1) := by omega
        have := auto_mono (per := per) (show j.es.length + 1 ≤ j.es.length + (r.length + 1 + 1) by omega)
        simp only [Nat.zero_add] at *
        rw [e3] at this
        rw [e4]
        omega
/-- It has just the files that it needs. -/
def Full (per : Nat) (j : Jn α) : Prop := j.files = (j.es.length + per - 1) / per
theorem full_of {m per : Nat} (hp : 1 ≤ per) (hm : 1 ≤ m) : (m - 1) / per + 1 = (m + per - 1) / per := by
  rw [show m + per - 1 = m - 1 + per by omega, Nat.add_div_right _ hp]
theorem Up.full_adds {xs : List α} {j' : Jn α} (h : Up pay n per j st) (hf : Full per j) (e1 : j'.es = j.es ++ xs) (e2 : xs = [] → j' = j) (e3 : xs ≠ [] → j'.files = (j.es.length + xs.length - 1) / per + 1) : Full per j' := by
  by_cases hx : xs = []
  · rw [e2 hx]; exact hf
  · unfold Full
    have : 0 < xs.length := List.length_pos_iff.2 hx
    rw [e3 hx, e1, List.length_append, full_of h.lie.shp.pos (by omega)]
end
end Go.Proofs.YtghnbkkfghfifaaGreatDoor
