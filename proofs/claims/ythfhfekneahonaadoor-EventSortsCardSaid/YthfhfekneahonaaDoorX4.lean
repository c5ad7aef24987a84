/- The walk of EventBytes. -/
import Derived.Test.YthfhfekneahonaaDoorLh0
import Derived.Test.YthfhfekneahonaaDoorX3
import Derived.Test.YthfhfekneahonaaDoorY
import Derived.Laws.AppendOwnNone
namespace Go.Proofs.YthfhfekneahonaaDoor
open Go.RowKit
set_option linter.unusedVariables false
theorem Seen.takes {w : World} {B : Nat} {ad : Addr} {cap : Nat} {l : List UInt8} (h : Seen w B (.slice (some ad) l.length cap) l) (m c : Nat) (hm : m ≤ l.length) (hc : m ≤ c) : Seen w B (.slice (some ad) m c) (l.take m) := by
  rcases h with ⟨rfl, h⟩ | ⟨ad', cap', hv, hc', hg, hh⟩
  · cases h
  · injection hv with h1 h2 h3
    injection h1 with h1
    subst h1
    refine Seen.mk (by rw [List.length_take]; omega) (by rw [List.length_take]; omega) (fun h0 => hg (by rw [List.length_take] at h0; omega)) (fun j hj => ?_)
    rw [List.length_take] at hj
    rw [hh j (by omega), List.getElem_take]
/-- An event in its block, a slice that came in. -/
structure FB (W : World) (e : Ev) (tv : Value) (tl : List UInt8) (w : World) : Prop where
  ev : EvAt w W.heap.size e
  tail : Seen w W.heap.size tv tl
  lay : Lay w
  bw : Below W.heap.size W w
theorem FB.below {W w w' : World} {e : Ev} {tv : Value} {tl : List UInt8} (h : FB W e tv tl w) (hb : Below w.heap.size w w') : FB W e tv tl w' := ⟨h.ev.below hb h.ev.lt, h.tail.below hb h.bw.size, h.lay.next hb, h.bw.trans (hb.mono h.bw.size)⟩
theorem FB.drew {W w : World} {e : Ev} {tv : Value} {tl : List UInt8} (h : FB W e tv tl w) : FB W e tv tl w.drew := ⟨h.ev, h.tail, h.lay.drew, h.bw.drew⟩
theorem FB.out {W w : World} {s : ByteArray} {n a k : Int} {p i : ByteArray} {v : Int} {t : ByteArray} {tv : Value} {tl : List UInt8} (h : FB W ⟨s, n, a, k, p, i, v, t⟩ tv tl w) : (w.cell? ⟨W.heap.size, 0, none⟩ = some (.string s) ∧ w.cell? ⟨W.heap.size, 1, none⟩ = some (.int .i64 n) ∧ w.cell? ⟨W.heap.size, 2, none⟩ = some (.int .i64 a) ∧ w.cell? ⟨W.heap.size, 3, none⟩ = some (.int .i64 k) ∧ w.cell? ⟨W.heap.size, 4, none⟩ = some (.string p) ∧ w.cell? ⟨W.heap.size, 5, none⟩ = some (.string i) ∧ w.cell? ⟨W.heap.size, 6, none⟩ = some (.int .i64 v) ∧ w.cell? ⟨W.heap.size, 7, none⟩ = some (.string t)) ∧ W.heap.size < w.heap.size := ⟨h.ev.all, h.ev.lt⟩
theorem FB.start {w w' : World} {s : ByteArray} {n a k : Int} {p i : ByteArray} {v : Int} {t : ByteArray} {tv : Value} {tl : List UInt8} (hL : Lay w) (ht : Seen w w.heap.size tv tl) (hb : Below (w.alloc (.cells #[.string s, .int .i64 n, .int .i64 a, .int .i64 k, .string p, .string i, .int .i64 v, .string t] 24)).heap.size (w.alloc (.cells #[.string s, .int .i64 n, .int .i64 a, .int .i64 k, .string p, .string i, .int .i64 v, .string t] 24)) w') : FB w ⟨s, n, a, k, p, i, v, t⟩ tv tl w' := by
  have b1 : Below w.heap.size w (w.alloc (.cells #[.string s, .int .i64 n, .int .i64 a, .int .i64 k, .string p, .string i, .int .i64 v, .string t] 24)) := (Below.refl _ _).alloc (by simp) _
  exact ⟨(EvAt.new w ⟨s, n, a, k, p, i, v, t⟩).below hb (by simp), (ht.below b1 (Nat.le_refl _)).below hb (by simp), (hL.alloc _).next hb, b1.trans (hb.mono (by simp))⟩
/-- .. and its bytes. -/
structure FO (W : World) (e : Ev) (tv : Value) (tl : List UInt8) (g cap : Nat) (l : List UInt8) (w : World) : Prop where
  f : FB W e tv tl w
  o : OwnB w W.heap.size (.slice (some ⟨g, 0, none⟩) l.length cap) l
theorem FO.below {W w w' : World} {e : Ev} {tv : Value} {tl : List UInt8} {g cap : Nat} {l : List UInt8} (h : FO W e tv tl g cap l w) (hb : Below w.heap.size w w') : FO W e tv tl g cap l w' := ⟨h.f.below hb, h.o.below hb (Nat.le_refl _)⟩
theorem FO.drew {W w : World} {e : Ev} {tv : Value} {tl : List UInt8} {g cap : Nat} {l : List UInt8} (h : FO W e tv tl g cap l w) : FO W e tv tl g cap l w.drew := ⟨h.f.drew, OwnB.drew h.o⟩
theorem FO.out {W w : World} {s : ByteArray} {n a k : Int} {p i : ByteArray} {v : Int} {t : ByteArray} {tv : Value} {tl : List UInt8} {g cap : Nat} {l : List UInt8} (hl : 0 < l.length) (h : FO W ⟨s, n, a, k, p, i, v, t⟩ tv tl g cap l w) : (w.cell? ⟨W.heap.size, 0, none⟩ = some (.string s) ∧ w.cell? ⟨W.heap.size, 1, none⟩ = some (.int .i64 n) ∧ w.cell? ⟨W.heap.size, 2, none⟩ = some (.int .i64 a) ∧ w.cell? ⟨W.heap.size, 3, none⟩ = some (.int .i64 k) ∧ w.cell? ⟨W.heap.size, 4, none⟩ = some (.string p) ∧ w.cell? ⟨W.heap.size, 5, none⟩ = some (.string i) ∧ w.cell? ⟨W.heap.size, 6, none⟩ = some (.int .i64 v) ∧ w.cell? ⟨W.heap.size, 7, none⟩ = some (.string t) ∧ W.heap.size < w.heap.size ∧ (convert 44 9 (.slice (some ⟨g, 0, none⟩) l.length cap)).run Tryd.prog w = .ok (.string (bs l)) w) ∧ FO W ⟨s, n, a, k, p, i, v, t⟩ tv tl g cap l w := by
  obtain ⟨c0, c1, c2, c3, c4, c5, c6, c7⟩ := h.f.ev.all
  exact ⟨⟨c0, c1, c2, c3, c4, c5, c6, c7, h.f.ev.lt, conv_own h.o hl⟩, h⟩
theorem renc_at {s : ByteArray} {n a k : Int} {p i : ByteArray} {v : Int} {t : ByteArray} (hm : mayB ⟨s, n, a, k, p, i, v, t⟩ = true) (w : World) :
    Calls Tryd.prog 33 #[.agg #[.string s, .int .i64 n, .int .i64 a, .int .i64 k, .string p, .string i, .int .i64 v, .string t]] w fun e w' => ∃ u, e = .returned u ∧ OwnB w' w.heap.size u (encL ⟨s, n, a, k, p, i, v, t⟩) ∧ Below w.heap.size w w' := by
  have hf := fit_of hm
  have h1 := hf.n; have h2 := hf.a; have h3 := hf.k; have h4 := hf.v
  simp only at h1 h2 h3 h4
  obtain ⟨n', rfl⟩ : ∃ n' : Nat, n = n' := ⟨n.toNat, by omega⟩
  obtain ⟨a', rfl⟩ : ∃ a' : Nat, a = a' := ⟨a.toNat, by omega⟩
  obtain ⟨k', rfl⟩ : ∃ k' : Nat, k = k' := ⟨k.toNat, by omega⟩
  obtain ⟨v', rfl⟩ : ∃ v' : Nat, v = v' := ⟨v.toNat, by omega⟩
  exact renc_nat s n' a' k' p i v' t hf w
set_option maxRecDepth 100000 in
set_option maxHeartbeats 1000000 in
theorem by_1 (s : ByteArray) (n a k : Int) (p i : ByteArray) (v : Int) (t : ByteArray) (tv : Value) (tl : List UInt8) (cut : Int) (z : ¬ Small ⟨s, n, a, k, p, i, v, t⟩ 1000) (w : World) (hL : Lay w) (ht : Seen w w.heap.size tv tl) :
    Calls Tryd.prog 6 #[.agg #[.string s, .int .i64 n, .int .i64 a, .int .i64 k, .string p, .string i, .int .i64 v, .string t], tv, .int .i64 cut] w fun e w' => e = .returned (.bool true) ∧ Below w.heap.size w w' := by
  have Z := Lib.hid z
  clear z
  obtain ⟨q, qc, rfl⟩ := ht.shape
  have HT := Lib.hid ht
  have HL := Lib.hid hL
  clear hL ht
  go_enter Tryd.func6, Tryd.ntmps6
  go_wp2_with fail
  refine (lives_any _ (HL.out.alloc _)).mono ?_
  rintro e w1 ⟨rfl, hb⟩
  have M0 := FB.start HL.out HT.out hb
  clear hb
  obtain ⟨⟨c0, c1, c2, c3, c4, c5, c6, c7⟩, hlt⟩ := M0.out
  go_wp2_with fail
  refine (big_yes s n a k p i v t 1000 Z.out _).mono ?_
  rintro e w2 ⟨rfl, hb⟩
  have M1 := M0.below hb
  clear hb c0 c1 c2 c3 c4 c5 c6 c7 hlt
  obtain ⟨⟨c0, c1, c2, c3, c4, c5, c6, c7⟩, hlt⟩ := M1.out
  go_wp2_with fail
  go_ret
  exact ⟨rfl, M1.bw⟩
set_option maxRecDepth 100000 in
set_option maxHeartbeats 1000000 in
theorem by_2 (s : ByteArray) (n a k : Int) (p i : ByteArray) (v : Int) (t : ByteArray) (tv : Value) (tl : List UInt8) (cut : Int) (z : Small ⟨s, n, a, k, p, i, v, t⟩ 1000) (hl : 100 < tl.length) (w : World) (hL : Lay w) (ht : Seen w w.heap.size tv tl) :
    Calls Tryd.prog 6 #[.agg #[.string s, .int .i64 n, .int .i64 a, .int .i64 k, .string p, .string i, .int .i64 v, .string t], tv, .int .i64 cut] w fun e w' => e = .returned (.bool true) ∧ Below w.heap.size w w' := by
  have hl1 : decide ((100 : Int) < (tl.length : Int)) = true := by simp; omega
  have hl2 : decide (100 < tl.length) = true := by simp; omega
  have Z := Lib.hid z
  clear z
  obtain ⟨q, qc, rfl⟩ := ht.shape
  have HT := Lib.hid ht
  have HL := Lib.hid hL
  clear hL ht
  go_enter Tryd.func6, Tryd.ntmps6
  go_wp2_with fail
  refine (lives_any _ (HL.out.alloc _)).mono ?_
  rintro e w1 ⟨rfl, hb⟩
  have M0 := FB.start HL.out HT.out hb
  clear hb
  obtain ⟨⟨c0, c1, c2, c3, c4, c5, c6, c7⟩, hlt⟩ := M0.out
  go_wp2_with fail
  refine (big_no s n a k p i v t 1000 Z.out _).mono ?_
  rintro e w2 ⟨rfl, hb⟩
  have M1 := M0.below hb
  clear hb c0 c1 c2 c3 c4 c5 c6 c7 hlt
  obtain ⟨⟨c0, c1, c2, c3, c4, c5, c6, c7⟩, hlt⟩ := M1.out
  go_wp2_with fail
  go_ret
  exact ⟨rfl, M1.bw⟩
set_option maxRecDepth 100000 in
set_option maxHeartbeats 1000000 in
theorem by_3 (s : ByteArray) (n a k : Int) (p i : ByteArray) (v : Int) (t : ByteArray) (tv : Value) (tl : List UInt8) (cut : Int) (z : Small ⟨s, n, a, k, p, i, v, t⟩ 1000) (hl : ¬ 100 < tl.length) (y : mayB ⟨s, n, a, k, p, i, v, t⟩ = false) (w : World) (hL : Lay w) (ht : Seen w w.heap.size tv tl) :
    Calls Tryd.prog 6 #[.agg #[.string s, .int .i64 n, .int .i64 a, .int .i64 k, .string p, .string i, .int .i64 v, .string t], tv, .int .i64 cut] w fun e w' => e = .returned (.bool true) ∧ Below w.heap.size w w' := by
  have hl1 : decide ((100 : Int) < (tl.length : Int)) = false := by simp; omega
  have hl2 : decide (100 < tl.length) = false := by simp; omega
  have B1 : t.size ≤ 1000000000 := by have := z.2.2.2; simp only at this; omega
  have Z := Lib.hid z
  have Y := Lib.hid y
  clear z y
  obtain ⟨q, qc, rfl⟩ := ht.shape
  have HT := Lib.hid ht
  have HL := Lib.hid hL
  clear hL ht
  go_enter Tryd.func6, Tryd.ntmps6
  go_wp2_with fail
  refine (lives_any _ (HL.out.alloc _)).mono ?_
  rintro e w1 ⟨rfl, hb⟩
  have M0 := FB.start HL.out HT.out hb
  clear hb
  obtain ⟨⟨c0, c1, c2, c3, c4, c5, c6, c7⟩, hlt⟩ := M0.out
  go_wp2_with fail
  refine (big_no s n a k p i v t 1000 Z.out _).mono ?_
  rintro e w2 ⟨rfl, hb⟩
  have M1 := M0.below hb
  clear hb c0 c1 c2 c3 c4 c5 c6 c7 hlt
  obtain ⟨⟨c0, c1, c2, c3, c4, c5, c6, c7⟩, hlt⟩ := M1.out
  go_wp2_with fail
  refine (enc_no s n a k p i v t B1 Y.out _ M1.lay).mono ?_
  rintro e w3 ⟨rfl, hb⟩
  have M2 := M1.below hb
  clear hb c0 c1 c2 c3 c4 c5 c6 c7 hlt
  obtain ⟨⟨c0, c1, c2, c3, c4, c5, c6, c7⟩, hlt⟩ := M2.out
  go_wp2_with fail
  refine (rmay_any s n a k p i v t B1 _).mono ?_
  rw [Y.out]
  rintro e w4 ⟨rfl, hb⟩
  have M3 := M2.below hb
  clear hb c0 c1 c2 c3 c4 c5 c6 c7 hlt
  obtain ⟨⟨c0, c1, c2, c3, c4, c5, c6, c7⟩, hlt⟩ := M3.out
  go_wp2_with fail
  go_ret
  exact ⟨rfl, M3.bw⟩
theorem dec_whole {s : ByteArray} {n a k : Int} {p i : ByteArray} {v : Int} {t : ByteArray} (y : mayB ⟨s, n, a, k, p, i, v, t⟩ = true) (tl : List UInt8) (hl : tl.length ≤ 100) (v' : Value) (w : World) (hL : Lay w) (hv : Seen w w.heap.size v' (encL ⟨s, n, a, k, p, i, v, t⟩ ++ tl)) :
    Calls Tryd.prog 34 #[v'] w fun e' w' => e' = .returned (.tuple #[.agg #[.string s, .int .i64 n, .int .i64 a, .int .i64 k, .string p, .string i, .int .i64 v, .string t], .int .i64 ((encL ⟨s, n, a, k, p, i, v, t⟩).length : Int), .int .i64 0]) ∧ Below w.heap.size w w' := by
  have hq := encL_len _ (fit_of y)
  have h := dec_good v' _ _ _ (decL_ok _ y tl) (by rw [List.length_append]; omega) w hL hv
  rw [show ((encL ⟨s, n, a, k, p, i, v, t⟩ ++ tl).length : Int) - (tl.length : Int) = ((encL ⟨s, n, a, k, p, i, v, t⟩).length : Int) by rw [List.length_append]; push_cast; omega] at h
  exact h
theorem dec_part {s : ByteArray} {n a k : Int} {p i : ByteArray} {v : Int} {t : ByteArray} (y : mayB ⟨s, n, a, k, p, i, v, t⟩ = true) (m : Nat) (hm : m < (encL ⟨s, n, a, k, p, i, v, t⟩).length) (v' : Value) (w : World) (hL : Lay w) (hv : Seen w w.heap.size v' ((encL ⟨s, n, a, k, p, i, v, t⟩).take m)) :
    Calls Tryd.prog 34 #[v'] w fun e' w' => e' = .returned (.tuple #[.agg #[.string ⟨#[]⟩, .int .i64 0, .int .i64 0, .int .i64 0, .string ⟨#[]⟩, .string ⟨#[]⟩, .int .i64 0, .string ⟨#[]⟩], .int .i64 0, .int .i64 3]) ∧ Below w.heap.size w w' :=
  dec_bad v' _ 3 (decL_torn _ y m hm) w hL hv
theorem Seen.cells {w : World} {B : Nat} {ad : Addr} {qc n : Nat} {l : List UInt8} (h : Seen w B (.slice (some ad) n qc) l) : ∀ j u, (u8s l)[j]? = some u → w.cell? (ad.add j) = some u := by
  intro j u hu
  rcases h with ⟨_, h⟩ | ⟨ad', cap', hv, hc', hg, hh⟩
  · cases h
  · injection hv with h1 h2 h3
    injection h1 with h1
    subst h1
    unfold u8s at hu
    rw [List.getElem?_map] at hu
    cases hj : l[j]? with
    | none => rw [hj] at hu; cases hu
    | some c =>
      rw [hj] at hu
      obtain ⟨hlt, he⟩ := List.getElem?_eq_some_iff.1 hj
      rw [hh j hlt, he]
      exact hu
end Go.Proofs.YthfhfekneahonaaDoor
