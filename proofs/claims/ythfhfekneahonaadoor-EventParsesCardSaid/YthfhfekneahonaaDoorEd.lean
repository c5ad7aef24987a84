/- A text parsed: the program's. -/
import Derived.Test.YthfhfekneahonaaDoorEc
import Derived.Test.YthfhfekneahonaaDoorX
import Derived.Test.YthfhfekneahonaaDoorLh0
import Derived.Deep.RegionHeld3
import Derived.Deep.DeepCutAuto
namespace Go.Proofs.YthfhfekneahonaaDoor
open Go.RowKit
set_option linter.unusedVariables false
theorem rfmt_at {s : ByteArray} {n a k : Int} {p i : ByteArray} {v : Int} {t : ByteArray} (hm : mayB ⟨s, n, a, k, p, i, v, t⟩ = true) (w : World) (hL : Lay w) :
    Calls Tryd.prog 38 #[.agg #[.string s, .int .i64 n, .int .i64 a, .int .i64 k, .string p, .string i, .int .i64 v, .string t]] w fun e w' => e = .returned (.string (bs (fmtL ⟨s, n, a, k, p, i, v, t⟩))) ∧ Below w.heap.size w w' := by
  have hf := fit_of hm
  have h1 := hf.n; have h2 := hf.a; have h3 := hf.k; have h4 := hf.v
  simp only at h1 h2 h3 h4
  obtain ⟨f1, f2, f3, f4, f5, f6, f7, f8⟩ := hf
  simp only at f1 f2 f3 f4
  obtain ⟨n', rfl⟩ : ∃ n' : Nat, n = n' := ⟨n.toNat, by omega⟩
  obtain ⟨a', rfl⟩ : ∃ a' : Nat, a = a' := ⟨a.toNat, by omega⟩
  obtain ⟨k', rfl⟩ : ∃ k' : Nat, k = k' := ⟨k.toNat, by omega⟩
  obtain ⟨v', rfl⟩ : ∃ v' : Nat, v = v' := ⟨v.toNat, by omega⟩
  have l4 := word_len k' (by omega)
  have l5 := pt_size p
  have l6 := pt_size i
  have l7 := pt_size t
  have HP : pt s = s := by unfold pt; rw [if_neg (by have := may_src hm; simp only at this; omega)]
  rw [fmt_eq s n' a' k' p i v' t (may_src hm), HP, ← line_eq s (bs (Lib.decDigits n')) (bs (Lib.decDigits a')) (pt p) (pt i) (bs (Lib.decDigits v')) (pt t) (bs [])]
  refine rfmt_names s n' a' k' p i v' t _ _ _ _ _ _ _ (by omega) (digits_any n' (by omega)) (digits_any a' (by omega)) (digits_any v' (by omega)) (some_any p) (some_any i) (some_any t) rfl (by omega) ?_ ?_ ?_ ?_ (by omega) (by omega) (by omega) w hL
  · rw [bs_size]; have := dec_len 18 n' (by omega); omega
  · rw [bs_size]; have := dec_len 18 a' (by omega); omega
  · rw [bs_size]; have := dec_len 18 v' (by omega); omega
  · rw [bs_size]; omega
/-- How a text is parted into nine at most. -/
theorem split_eight (s : ByteArray) (hs : s.size ≤ 1000) (w : World) (hL : Lay w) (h : (partsB 32 s).length = 8) : Calls Tryd.prog 65 #[.string s, .string ⟨#[32]⟩, .int .i64 9] w fun e w' => ∃ g c, e = .returned (.slice (some ⟨g, 0, none⟩) 8 c) ∧ g < w'.heap.size ∧ (∀ (j : Nat) x, (partsB 32 s)[j]? = some x → w'.cell? ⟨g, j, none⟩ = some (.string x)) ∧ Below w.heap.size w w' := by
  obtain ⟨m, hm⟩ := hL.max
  refine (Tryd.strings_SplitN s ⟨#[32]⟩ 9 m w (by omega) hm (by decide) (by decide) (by decide)).mono ?_
  have hle := parts_le 32 s.data.toList
  rw [← partsB_length, show s.data.toList.length = s.size by simp] at hle
  have hmin : 8 ≤ min 9 (s.size + 1) := by omega
  have e := splitB_parts 32 (min 9 (s.size + 1) - 1) s (by omega)
  rw [e, h]
  rintro q w' ⟨rfl, rfl⟩
  refine ⟨_, _, rfl, by simp, fun j x hj => ?_, (Below.refl _ _).alloc (Nat.le_refl _) _⟩
  rw [cell_of (heap_alloc_new w _)]
  have hj8 : j < 8 := by have := (List.getElem?_eq_some_iff.1 hj).1; omega
  unfold Lib.cellsOf
  rw [List.getElem?_toArray, List.getElem?_append_left (by rw [List.length_map]; omega), List.getElem?_map, hj]; rfl
theorem split_other (s : ByteArray) (hs : s.size ≤ 1000) (w : World) (hL : Lay w) (h : ¬ (partsB 32 s).length = 8) : Calls Tryd.prog 65 #[.string s, .string ⟨#[32]⟩, .int .i64 9] w fun e w' => ∃ g n c, e = .returned (.slice (some ⟨g, 0, none⟩) n c) ∧ ((n : Int) == 8) = false ∧ n ≤ 9 ∧ Below w.heap.size w w' := by
  obtain ⟨m, hm⟩ := hL.max
  refine (Tryd.strings_SplitN s ⟨#[32]⟩ 9 m w (by omega) hm (by decide) (by decide) (by decide)).mono ?_
  have hle := parts_le 32 s.data.toList
  rw [← partsB_length, show s.data.toList.length = s.size by simp] at hle
  have key : ¬ (Lib.splitB ⟨#[32]⟩ 0 (min 9 (s.size + 1) - 1) s).length = 8 ∧ (Lib.splitB ⟨#[32]⟩ 0 (min 9 (s.size + 1) - 1) s).length ≤ 9 := by
    by_cases hc : (partsB 32 s).length ≤ min 9 (s.size + 1)
    · rw [splitB_parts 32 (min 9 (s.size + 1) - 1) s (by omega)]; omega
    · rw [splitB_more 32 (min 9 (s.size + 1) - 1) s (by omega)]; omega
  rintro q w' ⟨rfl, rfl⟩
  refine ⟨_, _, _, rfl, by rw [beq_eq_false_iff_ne]; omega, key.2, (Below.refl _ _).alloc (Nat.le_refl _) _⟩
/-- Eight words in a block, and a result to be. -/
structure PP (W : World) (g : Nat) (a b c d p i v t : ByteArray) (w : World) : Prop where
  ev : EvAt w W.heap.size zeroE
  lt : g < w.heap.size
  cs : ∀ (j : Nat) x, [a, b, c, d, p, i, v, t][j]? = some x → w.cell? ⟨g, j, none⟩ = some (.string x)
  lay : LayE w
  bw : Below W.heap.size W w
theorem PP.below {W : World} {g : Nat} {a b c d p i v t : ByteArray} {w w' : World} (h : PP W g a b c d p i v t w) (hb : Below w.heap.size w w') : PP W g a b c d p i v t w' := ⟨h.ev.below hb h.ev.lt, Nat.lt_of_lt_of_le h.lt hb.size, fun j x hx => (hb.cell (show (⟨g, j, none⟩ : Addr).block < w.heap.size from h.lt)).trans (h.cs j x hx), h.lay.next hb, h.bw.trans (hb.mono h.bw.size)⟩
theorem PP.alloc {W : World} {g : Nat} {a b c d p i v t : ByteArray} {w : World} (h : PP W g a b c d p i v t w) (o : Obj) : PP W g a b c d p i v t (w.alloc o) := h.below ((Below.refl _ _).alloc (Nat.le_refl _) o)
theorem PP.drew {W : World} {g : Nat} {a b c d p i v t : ByteArray} {w : World} (h : PP W g a b c d p i v t w) : PP W g a b c d p i v t w.drew := h.below ((Below.refl _ _).drew)
theorem PP.out {W : World} {g : Nat} {a b c d p i v t : ByteArray} {w : World} (h : PP W g a b c d p i v t w) : (w.cell? ⟨g, 0, none⟩ = some (.string a) ∧ w.cell? ⟨g, 1, none⟩ = some (.string b) ∧ w.cell? ⟨g, 2, none⟩ = some (.string c) ∧ w.cell? ⟨g, 3, none⟩ = some (.string d) ∧ w.cell? ⟨g, 4, none⟩ = some (.string p) ∧ w.cell? ⟨g, 5, none⟩ = some (.string i) ∧ w.cell? ⟨g, 6, none⟩ = some (.string v) ∧ w.cell? ⟨g, 7, none⟩ = some (.string t) ∧ g < w.heap.size ∧ W.heap.size < w.heap.size) ∧ PP W g a b c d p i v t w :=
  ⟨⟨h.cs 0 a rfl, h.cs 1 b rfl, h.cs 2 c rfl, h.cs 3 d rfl, h.cs 4 p rfl, h.cs 5 i rfl, h.cs 6 v rfl, h.cs 7 t rfl, h.lt, h.ev.lt⟩, h⟩
set_option maxRecDepth 100000 in
set_option maxHeartbeats 1000000 in
theorem parse_few (s : ByteArray) (hs : s.size ≤ 1000) (h : ¬ (partsB 32 s).length = 8) (w : World) (hL : LayE w) :
    Calls Tryd.prog 37 #[.string s] w fun e w' => e = .returned (.tuple #[.agg #[.string ⟨#[]⟩, .int .i64 0, .int .i64 0, .int .i64 0, .string ⟨#[]⟩, .string ⟨#[]⟩, .int .i64 0, .string ⟨#[]⟩], .int .i64 2]) ∧ Below w.heap.size w w' := by
  have S' := fun w hL => split_other s hs w hL h
  have S := Lib.hid S'
  have HL := Lib.hid hL
  clear S' hL h hs
  go_enter Tryd.func37, Tryd.ntmps37
  go_wp2_with fail
  have R0 := EvAt.new w zeroE
  refine (S.out _ (HL.out.alloc _).lay).mono ?_
  rintro e w1 ⟨g, n, c, rfl, hn, hn9, hb⟩
  have hni : (n : Int) ≤ 9 := by omega
  have R := R0.below hb (by simp)
  have HB := ((Below.refl w.heap.size w).alloc (by simp) (.cells #[.string ⟨#[]⟩, .int .i64 0, .int .i64 0, .int .i64 0, .string ⟨#[]⟩, .string ⟨#[]⟩, .int .i64 0, .string ⟨#[]⟩] 24)).trans (hb.mono (by simp))
  clear hb R0
  obtain ⟨r0, r1, r2, r3, r4, r5, r6, r7⟩ := R.all
  simp only [zeroE] at r0 r1 r2 r3 r4 r5 r6 r7
  obtain ⟨z0, z1, z2, z3, z4, z5, z6, z7⟩ := R.frz
  have hrl := R.lt
  go_wp2_with fail
  have R1 := R.put ⟨#[]⟩ 0 0 0 ⟨#[]⟩ ⟨#[]⟩ 0 ⟨#[]⟩
  have BW := below_put HB (Nat.le_refl _) ⟨#[]⟩ 0 0 0 ⟨#[]⟩ ⟨#[]⟩ 0 ⟨#[]⟩
  clear r0 r1 r2 r3 r4 r5 r6 r7 z0 z1 z2 z3 z4 z5 z6 z7 hrl R HB
  obtain ⟨r0, r1, r2, r3, r4, r5, r6, r7⟩ := R1.all
  simp only at r0 r1 r2 r3 r4 r5 r6 r7
  refine bodyPost_ret (v := .tuple #[.agg #[.string ⟨#[]⟩, .int .i64 0, .int .i64 0, .int .i64 0, .string ⟨#[]⟩, .string ⟨#[]⟩, .int .i64 0, .string ⟨#[]⟩], .int .i64 2]) (by simp [results, Tryd.results37, go_sem, r0, r1, r2, r3, r4, r5, r6, r7]) rfl ⟨rfl, BW⟩
/-- Behind the eight words: the event, boxed. -/
structure PE (W : World) (g5 : Nat) (e : Ev) (w : World) : Prop where
  ev : EvAt w W.heap.size zeroE
  new : EvAt w g5 e
  lay : LayE w
  bw : Below W.heap.size W w
theorem PE.below {W : World} {g5 : Nat} {e : Ev} {w w' : World} (h : PE W g5 e w) (hb : Below w.heap.size w w') : PE W g5 e w' := ⟨h.ev.below hb h.ev.lt, h.new.below hb h.new.lt, h.lay.next hb, h.bw.trans (hb.mono h.bw.size)⟩
end Go.Proofs.YthfhfekneahonaaDoor
