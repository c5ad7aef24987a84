/- Bytes of an event: the program's and the reference's. -/
import Derived.Test.YtghnbkkfghfifaaGreatDoorEJ
namespace Go.Proofs.YtghnbkkfghfifaaGreatDoor.E
open Go.RowKit
set_option linter.unusedVariables false
/-- A block that holds an event. -/
def EvAt (w : World) (b : Nat) (e : Ev) : Prop := w.heap[b]? = some (.cells #[.string e.s, .int .i64 e.n, .int .i64 e.a, .int .i64 e.k, .string e.p, .string e.i, .int .i64 e.v, .string e.t] 52 (0, 0))
theorem EvAt.lt {w : World} {b : Nat} {e : Ev} (h : EvAt w b e) : b < w.heap.size := lt_of_block h
theorem EvAt.all {w : World} {b : Nat} {e : Ev} (h : EvAt w b e) : w.cell? ⟨b, 0, none⟩ = some (.string e.s) ∧ w.cell? ⟨b, 1, none⟩ = some (.int .i64 e.n) ∧ w.cell? ⟨b, 2, none⟩ = some (.int .i64 e.a) ∧ w.cell? ⟨b, 3, none⟩ = some (.int .i64 e.k) ∧ w.cell? ⟨b, 4, none⟩ = some (.string e.p) ∧ w.cell? ⟨b, 5, none⟩ = some (.string e.i) ∧ w.cell? ⟨b, 6, none⟩ = some (.int .i64 e.v) ∧ w.cell? ⟨b, 7, none⟩ = some (.string e.t) := by
  unfold EvAt at h
  refine ⟨?_, ?_, ?_, ?_, ?_, ?_, ?_, ?_⟩ <;> simp [World.cell?, h]
theorem EvAt.below {w w' : World} {B b : Nat} {e : Ev} (h : EvAt w b e) (hb : Below B w w') (hl : b < B) : EvAt w' b e := by
  unfold EvAt; rw [hb.block b hl]; exact h
theorem EvAt.alloc {w : World} {b : Nat} {e : Ev} (h : EvAt w b e) (o : Obj) : EvAt (w.alloc o) b e := by
  have := h.lt
  unfold EvAt; rw [Below.heap_alloc _ _ _ this]; exact h
theorem EvAt.new (w : World) (e : Ev) : EvAt (w.alloc (.cells #[.string e.s, .int .i64 e.n, .int .i64 e.a, .int .i64 e.k, .string e.p, .string e.i, .int .i64 e.v, .string e.t] 52)) w.heap.size e := heap_alloc_new w _
/-- The bytes of an event. -/
def encL (e : Ev) : List UInt8 := [e.k.toNat.toUInt8] ++ txtL e.s ++ numL e.n.toNat ++ numL e.a.toNat ++ txtL e.p ++ txtL e.i ++ numL e.v.toNat ++ txtL e.t
theorem pF_sum (c : UInt8) : ∀ (l : List UInt8) (o : List (List UInt8)) (u : List UInt8), (((pF c (o, u) l).1.map (fun x => x.length + 1)).sum + (pF c (o, u) l).2.length) = (o.map (fun x => x.length + 1)).sum + u.length + l.length
  | [], o, u => by simp [pF]
  | x :: l, o, u => by
    unfold pF
    rw [List.foldl_cons]
    by_cases h : x = c
    · rw [if_pos h]
      have := pF_sum c l (o ++ [u]) []
      unfold pF at this
      simp only at this ⊢
      rw [this]; simp; omega
    · rw [if_neg h]
      have := pF_sum c l o (u ++ [x])
      unfold pF at this
      simp only at this ⊢
      rw [this]; simp; omega
theorem parts_sum (c : UInt8) (l : List UInt8) : ((parts c l).map (fun x => x.length + 1)).sum = l.length + 1 := by
  have := pF_sum c l [] []
  unfold parts
  rw [List.map_append, List.sum_append]
  simp only [List.map_cons, List.map_nil, List.sum_cons, List.sum_nil]
  simp at this
  omega
theorem sum_le {m : Nat} : ∀ (l : List (List UInt8)), (∀ x ∈ l, x.length ≤ m) → (l.map (fun x => x.length + 1)).sum ≤ l.length * (m + 1)
  | [], _ => by simp
  | x :: l, h => by
    have h1 := h x (by simp)
    have ih := sum_le l (fun y hy => h y (by simp [hy]))
    rw [List.map_cons, List.sum_cons, List.length_cons, Nat.add_mul, Nat.one_mul]
    omega
theorem tags_names {xs : List ByteArray} (h : risB xs = true) : xs.length ≤ 8 ∧ ∀ x ∈ xs, x.size ≤ 24 := by
  unfold risB at h
  rw [Bool.and_eq_true, decide_eq_true_eq] at h
  refine ⟨h.1, fun x hx => ?_⟩
  obtain ⟨k, hk, e⟩ := List.getElem_of_mem hx
  have h2 := h.2
  unfold tagsTo at h2
  rw [List.all_eq_true] at h2
  have h3 := h2 k (by simpa using hk)
  unfold tagAt at h3
  rw [getD_of hk, Bool.and_eq_true] at h3
  have := nameB_size h3.1
  rw [e] at this
  exact this.2
theorem lab_size {s : ByteArray} (h : labB s = true) : s.size ≤ 224 := by
  unfold labB at h
  rw [Bool.and_eq_true, Bool.and_eq_true] at h
  obtain ⟨⟨h1, h2⟩, h3⟩ := h
  rcases idx_cases 59 s.data.toList with e | ⟨i, e⟩
  · rw [(cut_no e).2.2] at h1; cases h1
  · obtain ⟨e1, e2, _⟩ := cut_yes e
    have hi := idx_lt e
    have hm := (nameB_size h2).2
    rw [e1, ByteArray.size_extract] at hm
    have ht : (tlB s).size = s.size - (i + 1) := by rw [e2, ByteArray.size_extract]; omega
    by_cases hz : (tlB s).size = 0
    · omega
    · rw [tags_some hz] at h3
      obtain ⟨h4, h5⟩ := tags_names h3
      have hs := parts_sum 44 (tlB s).data.toList
      have hl : (tlB s).data.toList.length = (tlB s).size := by simp
      have := sum_le (m := 24) (parts 44 (tlB s).data.toList) (fun x hx => by
        have := h5 (bs x) (by unfold partsB; exact List.mem_map.2 ⟨x, hx, rfl⟩)
        rwa [bs_size] at this)
      rw [partsB_length] at h4
      omega
theorem non_size {b : Bool} {s : ByteArray} (h : nonB b s = true) : s.size ≤ 24 := by
  cases b
  · have : decide (s.size = 0) = true := h
    simp only [decide_eq_true_eq] at this; omega
  · exact (nameB_size h).2
theorem word_size {tx : Int} {s : ByteArray} (h : wordB tx s = true) : s.size ≤ 224 := by
  unfold wordB at h
  split at h
  · have := (nameB_size h).2; omega
  · split at h
    · exact lab_size h
    · simp only [decide_eq_true_eq] at h; omega
theorem kR_bounds : ∀ k, k < 15 → 0 ≤ (kR k).lo ∧ (kR k).hi ≤ 1048576 := by decide
/-- What an event that may be is. -/
structure Fit (e : Ev) : Prop where
  s : e.s.size ≤ 24
  p : e.p.size ≤ 24
  i : e.i.size ≤ 24
  t : e.t.size ≤ 224
  n : 1 ≤ e.n ∧ e.n ≤ 1099511627776
  a : 0 ≤ e.a ∧ e.a ≤ 1099511627776
  k : 0 ≤ e.k ∧ e.k < 15
  v : 0 ≤ e.v ∧ e.v ≤ 1048576
theorem fit_of {e : Ev} (h : mayB e = true) : Fit e := by
  unfold mayB headB restB at h
  simp only [Bool.and_eq_true, decide_eq_true_eq] at h
  obtain ⟨⟨⟨⟨⟨⟨h1, h2⟩, h3⟩, h4⟩, h5⟩, h6, h7⟩, h8, h9, h10, h11, h12⟩ := h
  have hb := kR_bounds e.k.toNat (by omega)
  exact ⟨(nameB_size h1).2, non_size h8, non_size h9, word_size h12, ⟨h2, h3⟩, ⟨h4, h5⟩, ⟨h6, h7⟩, ⟨by omega, by omega⟩⟩
set_option maxRecDepth 100000 in
theorem enc_no (s : ByteArray) (n a k : Int) (p i : ByteArray) (v : Int) (t : ByteArray) (ht : t.size ≤ 1000000000) (hm : mayB ⟨s, n, a, k, p, i, v, t⟩ = false) (w : World) (hL : Lay w) :
    Calls Tryz.prog 114 #[.agg #[.string s, .int .i64 n, .int .i64 a, .int .i64 k, .string p, .string i, .int .i64 v, .string t]] w fun e w' => e = .returned (.tuple #[.slice none 0 0, .int .i64 1]) ∧ Below w.heap.size w w' := by
  have HL := Lib.hid hL
  have HM := Lib.hid hm
  clear hL hm
  go_enter Tryz.func114, Tryz.ntmps114
  go_wp2_with fail
  refine (may_any s n a k p i v t ht _ (HL.out.next ((Below.refl _ _).alloc (by simp) _))).mono ?_
  rw [HM.out]
  rintro e w1 ⟨rfl, hb⟩
  have hb2 := ((Below.refl w.heap.size w).alloc (by simp) _).trans (hb.mono (by simp))
  clear hb
  go_wp2
  go_ret2
  exact ⟨rfl, hb2⟩
theorem encL_len (e : Ev) (h : Fit e) : (encL e).length ≤ 400 := by
  obtain ⟨h1, h2, h3, h4, h5, h6, h7, h8⟩ := h
  have a1 := numL_le (n := e.n.toNat) (by omega)
  have a2 := numL_le (n := e.a.toNat) (by omega)
  have a3 := numL_le (n := e.v.toNat) (by omega)
  unfold encL
  simp only [List.length_append, txtL_len, List.length_singleton]
  omega
end Go.Proofs.YtghnbkkfghfifaaGreatDoor.E
