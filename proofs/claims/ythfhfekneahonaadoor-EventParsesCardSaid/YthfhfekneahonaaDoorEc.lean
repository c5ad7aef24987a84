/- The text of an event: the reference's. -/
import Derived.Test.YthfhfekneahonaaDoorEb
import Derived.Deep.RegionHeld3
namespace Go.Proofs.YthfhfekneahonaaDoor
open Go.RowKit
set_option linter.unusedVariables false
/-- The names of the kinds, in a block. -/
structure Kd (g k : Nat) (w : World) : Prop where
  cell : w.cell? ⟨g, k, none⟩ = some (.string (bs (kR k).word))
  lt : g < w.heap.size
theorem Kd.get {g k : Nat} {w : World} {K : ByteArray} (h : Kd g k w) (hK : bs (kR k).word = K) : w.cell? ⟨g, k, none⟩ = some (.string K) ∧ g < w.heap.size := ⟨by rw [h.cell, hK], h.lt⟩
theorem Kd.below {g k : Nat} {w w' : World} (h : Kd g k w) (hb : Below w.heap.size w w') : Kd g k w' := ⟨(hb.cell (show (⟨g, k, none⟩ : Addr).block < w.heap.size from h.lt)).trans h.cell, Nat.lt_of_lt_of_le h.lt hb.size⟩
theorem cell_of {w : World} {b : Nat} {cs : Array Value} {t : TypeId} {f : Nat × Nat} (h : w.heap[b]? = some (.cells cs t f)) (j : Nat) : w.cell? ⟨b, j, none⟩ = cs[j]? := by simp [World.cell?, h]
set_option maxRecDepth 100000 in
theorem kinds_any (k : Nat) (hk : k < 15) (w : World) : Calls Tryd.prog 70 #[] w fun e w' => ∃ g, e = .returned (.slice (some ⟨g, 0, none⟩) 15 15) ∧ Kd g k w' ∧ Below w.heap.size w w' := by
  have HK := Lib.hid hk
  clear hk
  go_enter Tryd.func70, Tryd.ntmps70
  go_wp2
  go_ret
  refine ⟨_, rfl, ⟨?_, by simp⟩, (Below.refl _ _).alloc (Nat.le_refl _) _⟩
  have hk := HK.out
  rw [cell_of (heap_alloc_new w _)]
  match k, hk with
  | 0, _ => rfl
  | 1, _ => rfl
  | 2, _ => rfl
  | 3, _ => rfl
  | 4, _ => rfl
  | 5, _ => rfl
  | 6, _ => rfl
  | 7, _ => rfl
  | 8, _ => rfl
  | 9, _ => rfl
  | 10, _ => rfl
  | 11, _ => rfl
  | 12, _ => rfl
  | 13, _ => rfl
  | 14, _ => rfl
theorem line_eq (s a b c d e f g : ByteArray) (w : ByteArray) : s ++ ⟨#[32]⟩ ++ a ++ ⟨#[32]⟩ ++ b ++ ⟨#[32]⟩ ++ w ++ ⟨#[32]⟩ ++ c ++ ⟨#[32]⟩ ++ d ++ ⟨#[32]⟩ ++ e ++ ⟨#[32]⟩ ++ f = bs (line8 s.data.toList a.data.toList b.data.toList w.data.toList c.data.toList d.data.toList e.data.toList f.data.toList) := by
  refine ba_ext ?_
  rw [bs_data]
  unfold line8
  simp
theorem wpAnyH_to {P : Program} {md : Region.Mode} {ops : Array Oper} {Q : Exit → Act → World → Prop} {S S' : World → Prop} (hS : ∀ w, S' w → S w) : ∀ (fuel : Nat) (listed : Array Bool) (a : Act) (w : World), wpAnyH P md ops Q S' fuel listed a w → wpAnyH P md ops Q S fuel listed a w
  | 0, _, _, _, h => h
  | fuel + 1, _, _, _, h => ⟨h.1, fun i hi => wpOp_mono (fun a' w' h' => ⟨hS w' h'.1, wpAnyH_to hS fuel _ a' w' h'.2⟩) (h.2 i hi)⟩
set_option maxRecDepth 100000 in
set_option maxHeartbeats 4000000 in
theorem rfmt_names (s : ByteArray) (n a k : Nat) (p i : ByteArray) (v : Nat) (t : ByteArray) (D1 D2 D3 K P1 I1 T1 : ByteArray) (hk : k < 15)
    (C1 : ∀ w, Calls Tryd.prog 69 #[.int .i64 n] w fun e w' => e = .returned (.string D1) ∧ Below w.heap.size w w') (C2 : ∀ w, Calls Tryd.prog 69 #[.int .i64 a] w fun e w' => e = .returned (.string D2) ∧ Below w.heap.size w w') (C3 : ∀ w, Calls Tryd.prog 69 #[.int .i64 v] w fun e w' => e = .returned (.string D3) ∧ Below w.heap.size w w')
    (C4 : ∀ w, Calls Tryd.prog 71 #[.string p] w fun e w' => e = .returned (.string P1) ∧ w = w') (C5 : ∀ w, Calls Tryd.prog 71 #[.string i] w fun e w' => e = .returned (.string I1) ∧ w = w') (C6 : ∀ w, Calls Tryd.prog 71 #[.string t] w fun e w' => e = .returned (.string T1) ∧ w = w')
    (hK : bs (kR k).word = K) (h0 : s.size ≤ 1000) (h1 : D1.size ≤ 1000) (h2 : D2.size ≤ 1000) (h3 : D3.size ≤ 1000) (h4 : K.size ≤ 1000) (h5 : P1.size ≤ 1000) (h6 : I1.size ≤ 1000) (h7 : T1.size ≤ 1000) (w : World) (hL : Lay w) :
    Calls Tryd.prog 38 #[.agg #[.string s, .int .i64 n, .int .i64 a, .int .i64 k, .string p, .string i, .int .i64 v, .string t]] w fun e w' => e = .returned (.string (s ++ ⟨#[32]⟩ ++ D1 ++ ⟨#[32]⟩ ++ D2 ++ ⟨#[32]⟩ ++ K ++ ⟨#[32]⟩ ++ P1 ++ ⟨#[32]⟩ ++ I1 ++ ⟨#[32]⟩ ++ D3 ++ ⟨#[32]⟩ ++ T1)) ∧ Below w.heap.size w w' := by
  have hki : (k : Int) < 15 := by omega
  have hk0 : (0 : Int) ≤ (k : Int) := by omega
  have z0 : ¬ 9223372036854775807 < s.size + 1 := by omega
  have z1 : ¬ 9223372036854775807 < s.size + 1 + D1.size := by omega
  have z2 : ¬ 9223372036854775807 < s.size + 1 + D1.size + 1 := by omega
  have z3 : ¬ 9223372036854775807 < s.size + 1 + D1.size + 1 + D2.size := by omega
  have z4 : ¬ 9223372036854775807 < s.size + 1 + D1.size + 1 + D2.size + 1 := by omega
  have z5 : ¬ 9223372036854775807 < s.size + 1 + D1.size + 1 + D2.size + 1 + K.size := by omega
  have z6 : ¬ 9223372036854775807 < s.size + 1 + D1.size + 1 + D2.size + 1 + K.size + 1 := by omega
  have z7 : ¬ 9223372036854775807 < s.size + 1 + D1.size + 1 + D2.size + 1 + K.size + 1 + P1.size := by omega
  have z8 : ¬ 9223372036854775807 < s.size + 1 + D1.size + 1 + D2.size + 1 + K.size + 1 + P1.size + 1 := by omega
  have z9 : ¬ 9223372036854775807 < s.size + 1 + D1.size + 1 + D2.size + 1 + K.size + 1 + P1.size + 1 + I1.size := by omega
  have z10 : ¬ 9223372036854775807 < s.size + 1 + D1.size + 1 + D2.size + 1 + K.size + 1 + P1.size + 1 + I1.size + 1 := by omega
  have z11 : ¬ 9223372036854775807 < s.size + 1 + D1.size + 1 + D2.size + 1 + K.size + 1 + P1.size + 1 + I1.size + 1 + D3.size := by omega
  have z12 : ¬ 9223372036854775807 < s.size + 1 + D1.size + 1 + D2.size + 1 + K.size + 1 + P1.size + 1 + I1.size + 1 + D3.size + 1 := by omega
  have z13 : ¬ 9223372036854775807 < s.size + 1 + D1.size + 1 + D2.size + 1 + K.size + 1 + P1.size + 1 + I1.size + 1 + D3.size + 1 + T1.size := by omega
  have HL := Lib.hid hL
  have HK := Lib.hid hK
  have HC := Lib.hid (And.intro C1 (And.intro C2 (And.intro C3 (And.intro C4 (And.intro C5 C6)))))
  have HKK := Lib.hid hk
  clear hL C1 C2 C3 C4 C5 C6 hK hk h0 h1 h2 h3 h4 h5 h6 h7
  go_enter Tryd.func38, Tryd.ntmps38
  go_wp2_with fail
  have M : FSt w ⟨s, n, a, k, p, i, v, t⟩ (w.alloc (.cells #[.string s, .int .i64 n, .int .i64 a, .int .i64 k, .string p, .string i, .int .i64 v, .string t] 24)) := ⟨EvAt.new w ⟨s, n, a, k, p, i, v, t⟩, HL.out.alloc _, (Below.refl w.heap.size w).alloc (by simp) _⟩
  generalize w.alloc _ = w1 at M ⊢
  refine wp_region_held_drew (S := (fun wx => (wx.cell? ⟨w.heap.size, 0, none⟩ = some (.string s) ∧ wx.cell? ⟨w.heap.size, 1, none⟩ = some (.int .i64 n) ∧ wx.cell? ⟨w.heap.size, 2, none⟩ = some (.int .i64 a) ∧ wx.cell? ⟨w.heap.size, 3, none⟩ = some (.int .i64 k) ∧ wx.cell? ⟨w.heap.size, 4, none⟩ = some (.string p) ∧ wx.cell? ⟨w.heap.size, 5, none⟩ = some (.string i) ∧ wx.cell? ⟨w.heap.size, 6, none⟩ = some (.int .i64 v) ∧ wx.cell? ⟨w.heap.size, 7, none⟩ = some (.string t) ∧ wx.cell? ⟨0, k * 6, none⟩ = some (.string (bs (kR k).word)) ∧ w.heap.size < wx.heap.size ∧ 0 < wx.heap.size) ∧ FSt w ⟨s, n, a, k, p, i, v, t⟩ wx)) (by kernel_rfl) (FSt.out M.drew k HKK.out) (fun hH => ?_)
  have M := Lib.hid M.drew
  generalize w1.drew = w2 at M hH ⊢
  refine wpAnyH_take (i := 0) (v := ?_) rfl (by kernel_rfl) (by kernel_rfl) (by kernel_rfl) (fun _ _ _ h => h) (Or.inl ⟨by rfl, ?_⟩) (by assumption) ?_
  rotate_left
  · intro w hSw
    (try dsimp only at hSw)
    go_simp
    (try with_reducible rfl)
  simp only [Act.put, List.setIfInBounds_toArray]
  refine wpAnyH_take (i := 1) (v := ?_) rfl (by kernel_rfl) (by kernel_rfl) (by kernel_rfl) (fun _ _ _ h => h) (Or.inl ⟨by rfl, ?_⟩) (by assumption) ?_
  rotate_left
  · intro w hSw
    (try dsimp only at hSw)
    go_simp
    (try with_reducible rfl)
  simp only [Act.put]
  refine wpAnyH_take (i := 2) (v := ?_) rfl (by kernel_rfl) (by kernel_rfl) (by kernel_rfl) (fun _ _ _ h => h) (Or.inl ⟨by rfl, ?_⟩) (by assumption) ?_
  rotate_left
  · intro w hSw
    (try dsimp only at hSw)
    go_simp
    (try with_reducible rfl)
  simp only [Act.put]
  refine wpAnyH_take (i := 3) (v := ?_) rfl (by kernel_rfl) (by kernel_rfl) (by kernel_rfl) (fun _ _ _ h => h) (Or.inl ⟨by rfl, ?_⟩) (by assumption) ?_
  rotate_left
  · intro w hSw
    (try dsimp only at hSw)
    go_simp
    (try with_reducible rfl)
  simp only [Act.put]
  refine wpAnyH_take (i := 4) (v := ?_) rfl (by kernel_rfl) (by kernel_rfl) (by kernel_rfl) (fun _ _ _ h => h) (Or.inl ⟨by rfl, ?_⟩) (by assumption) ?_
  rotate_left
  · intro w hSw
    (try dsimp only at hSw)
    go_simp
    (try with_reducible rfl)
  simp only [Act.put]
  refine wpAnyH_take (i := 8) (v := ?_) rfl (by kernel_rfl) (by kernel_rfl) (by kernel_rfl) (fun _ _ _ h => h) (Or.inl ⟨by rfl, ?_⟩) (by assumption) ?_
  rotate_left
  · intro w hSw
    (try dsimp only at hSw)
    go_simp
    (try with_reducible rfl)
  simp only [Act.put]
  refine wpAnyH_take (i := 9) (v := ?_) rfl (by kernel_rfl) (by kernel_rfl) (by kernel_rfl) (fun _ _ _ h => h) (Or.inl ⟨by rfl, ?_⟩) (by assumption) ?_
  rotate_left
  · intro w hSw
    (try dsimp only at hSw)
    go_simp
    (try with_reducible rfl)
  simp only [Act.put]
  refine wpAnyH_take (i := 14) (v := ?_) rfl (by kernel_rfl) (by kernel_rfl) (by kernel_rfl) (fun _ _ _ h => h) (Or.inl ⟨by rfl, ?_⟩) (by assumption) ?_
  rotate_left
  · intro w hSw
    (try dsimp only at hSw)
    go_simp
    (try with_reducible rfl)
  simp only [Act.put]
  refine wpAnyH_take (i := 15) (v := ?_) rfl (by kernel_rfl) (by kernel_rfl) (by kernel_rfl) (fun _ _ _ h => h) (Or.inl ⟨by rfl, ?_⟩) (by assumption) ?_
  rotate_left
  · intro w hSw
    (try dsimp only at hSw)
    go_simp
    (try with_reducible rfl)
  simp only [Act.put]
  refine wpAnyH_take (i := 20) (v := ?_) rfl (by kernel_rfl) (by kernel_rfl) (by kernel_rfl) (fun _ _ _ h => h) (Or.inl ⟨by rfl, ?_⟩) (by assumption) ?_
  rotate_left
  · intro w hSw
    (try dsimp only at hSw)
    go_simp
    (try with_reducible rfl)
  simp only [Act.put]
  refine wpAnyH_take (i := 21) (v := ?_) rfl (by kernel_rfl) (by kernel_rfl) (by kernel_rfl) (fun _ _ _ h => h) (Or.inl ⟨by rfl, ?_⟩) (by assumption) ?_
  rotate_left
  · intro w hSw
    (try dsimp only at hSw)
    go_simp
    (try with_reducible rfl)
  simp only [Act.put]
  refine wpAnyH_take (i := 25) (v := ?_) rfl (by kernel_rfl) (by kernel_rfl) (by kernel_rfl) (fun _ _ _ h => h) (Or.inl ⟨by rfl, ?_⟩) (by assumption) ?_
  rotate_left
  · intro w hSw
    (try dsimp only at hSw)
    go_simp
    (try with_reducible rfl)
  simp only [Act.put]
  refine wpAnyH_take (i := 26) (v := ?_) rfl (by kernel_rfl) (by kernel_rfl) (by kernel_rfl) (fun _ _ _ h => h) (Or.inl ⟨by rfl, ?_⟩) (by assumption) ?_
  rotate_left
  · intro w hSw
    (try dsimp only at hSw)
    go_simp
    (try with_reducible rfl)
  simp only [Act.put]
  refine wpAnyH_take (i := 30) (v := ?_) rfl (by kernel_rfl) (by kernel_rfl) (by kernel_rfl) (fun _ _ _ h => h) (Or.inl ⟨by rfl, ?_⟩) (by assumption) ?_
  rotate_left
  · intro w hSw
    (try dsimp only at hSw)
    go_simp
    (try with_reducible rfl)
  simp only [Act.put]
  refine wpAnyH_take (i := 31) (v := ?_) rfl (by kernel_rfl) (by kernel_rfl) (by kernel_rfl) (fun _ _ _ h => h) (Or.inl ⟨by rfl, ?_⟩) (by assumption) ?_
  rotate_left
  · intro w hSw
    (try dsimp only at hSw)
    go_simp
    (try with_reducible rfl)
  simp only [Act.put]
  refine wpAnyH_take (i := 35) (v := ?_) rfl (by kernel_rfl) (by kernel_rfl) (by kernel_rfl) (fun _ _ _ h => h) (Or.inl ⟨by rfl, ?_⟩) (by assumption) ?_
  rotate_left
  · intro w hSw
    (try dsimp only at hSw)
    go_simp
    (try with_reducible rfl)
  simp only [Act.put]
  refine wpAnyH_take (i := 36) (v := ?_) rfl (by kernel_rfl) (by kernel_rfl) (by kernel_rfl) (fun _ _ _ h => h) (Or.inl ⟨by rfl, ?_⟩) (by assumption) ?_
  rotate_left
  · intro w hSw
    (try dsimp only at hSw)
    go_simp
    (try with_reducible rfl)
  simp only [Act.put]
  refine wpAnyH_ready (rs := [5]) (by kernel_rfl) (by simp) ?_
  refine AllReadyH.cons rfl (fun K hK => ?_) AllReadyH.nil
  go_simp
  refine (HC.out.1 _).mono ?_
  rintro e w9 ⟨rfl, hb⟩
  have M := Lib.hid (M.out.below hb)
  (try go_wp2_with fail)
  refine hK.out _ _ (FSt.out M.out k HKK.out) (fun hH => ?_)
  clear hK K
  (try simp only [Act.put, List.setIfInBounds_toArray, List.set_cons_zero, List.set_cons_succ])
  refine wpAnyH_take (i := 6) (v := ?_) rfl (by kernel_rfl) (by kernel_rfl) (by kernel_rfl) (fun _ _ _ h => h) (Or.inl ⟨by rfl, ?_⟩) (by assumption) ?_
  rotate_left
  · intro w hSw
    (try dsimp only at hSw)
    go_simp
    (try with_reducible rfl)
  simp only [Act.put, List.setIfInBounds_toArray]
  refine wpAnyH_take (i := 7) (v := ?_) rfl (by kernel_rfl) (by kernel_rfl) (by kernel_rfl) (fun _ _ _ h => h) (Or.inl ⟨by rfl, ?_⟩) (by assumption) ?_
  rotate_left
  · intro w hSw
    (try dsimp only at hSw)
    go_simp
    (try with_reducible rfl)
  simp only [Act.put]
  refine wpAnyH_ready (rs := [10]) (by kernel_rfl) (by simp) ?_
  refine AllReadyH.cons rfl (fun K hK => ?_) AllReadyH.nil
  go_simp
  refine (HC.out.2.1 _).mono ?_
  rintro e w9 ⟨rfl, hb⟩
  have M := Lib.hid (M.out.below hb)
  (try go_wp2_with fail)
  refine hK.out _ _ (FSt.out M.out k HKK.out) (fun hH => ?_)
  clear hK K
  (try simp only [Act.put, List.setIfInBounds_toArray, List.set_cons_zero, List.set_cons_succ])
  refine wpAnyH_take (i := 11) (v := ?_) rfl (by kernel_rfl) (by kernel_rfl) (by kernel_rfl) (fun _ _ _ h => h) (Or.inl ⟨by rfl, ?_⟩) (by assumption) ?_
  rotate_left
  · intro w hSw
    (try dsimp only at hSw)
    go_simp
    (try with_reducible rfl)
  simp only [Act.put, List.setIfInBounds_toArray]
  refine wpAnyH_take (i := 12) (v := ?_) rfl (by kernel_rfl) (by kernel_rfl) (by kernel_rfl) (fun _ _ _ h => h) (Or.inl ⟨by rfl, ?_⟩) (by assumption) ?_
  rotate_left
  · intro w hSw
    (try dsimp only at hSw)
    go_simp
    (try with_reducible rfl)
  simp only [Act.put]
  refine wpAnyH_ready (rs := [13]) (by kernel_rfl) (by simp) ?_
  refine AllReadyH.cons rfl (fun K hK => ?_) AllReadyH.nil
  go_simp
  refine (kinds_any k HKK.out _).mono ?_
  rintro e w9 ⟨g9, rfl, hd, hb⟩
  have M := Lib.hid (M.out.below hb)
  have KD := Lib.hid hd
  (try go_wp2_with fail)
  refine hK.out _ _ (FSt.out M.out k HKK.out) (fun hH0 => ?_)
  clear hK K
  (try simp only [Act.put, List.setIfInBounds_toArray, List.set_cons_zero, List.set_cons_succ])
  refine wpAnyH_to (S' := (fun wx => ((wx.cell? ⟨w.heap.size, 0, none⟩ = some (.string s) ∧ wx.cell? ⟨w.heap.size, 1, none⟩ = some (.int .i64 n) ∧ wx.cell? ⟨w.heap.size, 2, none⟩ = some (.int .i64 a) ∧ wx.cell? ⟨w.heap.size, 3, none⟩ = some (.int .i64 k) ∧ wx.cell? ⟨w.heap.size, 4, none⟩ = some (.string p) ∧ wx.cell? ⟨w.heap.size, 5, none⟩ = some (.string i) ∧ wx.cell? ⟨w.heap.size, 6, none⟩ = some (.int .i64 v) ∧ wx.cell? ⟨w.heap.size, 7, none⟩ = some (.string t) ∧ wx.cell? ⟨0, k * 6, none⟩ = some (.string (bs (kR k).word)) ∧ w.heap.size < wx.heap.size ∧ 0 < wx.heap.size) ∧ FSt w ⟨s, n, a, k, p, i, v, t⟩ wx) ∧ wx.cell? ⟨g9, k, none⟩ = some (.string K) ∧ g9 < wx.heap.size)) (fun w h => h.1) _ _ _ _ ?_
  have hH : (fun wx => ((wx.cell? ⟨w.heap.size, 0, none⟩ = some (.string s) ∧ wx.cell? ⟨w.heap.size, 1, none⟩ = some (.int .i64 n) ∧ wx.cell? ⟨w.heap.size, 2, none⟩ = some (.int .i64 a) ∧ wx.cell? ⟨w.heap.size, 3, none⟩ = some (.int .i64 k) ∧ wx.cell? ⟨w.heap.size, 4, none⟩ = some (.string p) ∧ wx.cell? ⟨w.heap.size, 5, none⟩ = some (.string i) ∧ wx.cell? ⟨w.heap.size, 6, none⟩ = some (.int .i64 v) ∧ wx.cell? ⟨w.heap.size, 7, none⟩ = some (.string t) ∧ wx.cell? ⟨0, k * 6, none⟩ = some (.string (bs (kR k).word)) ∧ w.heap.size < wx.heap.size ∧ 0 < wx.heap.size) ∧ FSt w ⟨s, n, a, k, p, i, v, t⟩ wx) ∧ wx.cell? ⟨g9, k, none⟩ = some (.string K) ∧ g9 < wx.heap.size) w9 := ⟨hH0, KD.out.get HK.out⟩
  refine wpAnyH_take (i := 16) (v := ?_) rfl (by kernel_rfl) (by kernel_rfl) (by kernel_rfl) (fun _ _ _ h => h) (Or.inl ⟨by rfl, ?_⟩) (by assumption) ?_
  rotate_left
  · intro w hSw
    (try dsimp only at hSw)
    go_simp
    (try with_reducible rfl)
  simp only [Act.put, List.setIfInBounds_toArray]
  refine wpAnyH_take (i := 17) (v := ?_) rfl (by kernel_rfl) (by kernel_rfl) (by kernel_rfl) (fun _ _ _ h => h) (Or.inl ⟨by rfl, ?_⟩) (by assumption) ?_
  rotate_left
  · intro w hSw
    (try dsimp only at hSw)
    go_simp
    (try with_reducible rfl)
  simp only [Act.put]
  refine wpAnyH_take (i := 18) (v := ?_) rfl (by kernel_rfl) (by kernel_rfl) (by kernel_rfl) (fun _ _ _ h => h) (Or.inl ⟨by rfl, ?_⟩) (by assumption) ?_
  rotate_left
  · intro w hSw
    (try dsimp only at hSw)
    go_simp
    (try with_reducible rfl)
  simp only [Act.put]
  refine wpAnyH_take (i := 19) (v := ?_) rfl (by kernel_rfl) (by kernel_rfl) (by kernel_rfl) (fun _ _ _ h => h) (Or.inl ⟨by rfl, ?_⟩) (by assumption) ?_
  rotate_left
  · intro w hSw
    (try dsimp only at hSw)
    go_simp
    (try with_reducible rfl)
  simp only [Act.put]
  refine wpAnyH_ready (rs := [22]) (by kernel_rfl) (by simp) ?_
  refine AllReadyH.cons rfl (fun K hK => ?_) AllReadyH.nil
  go_simp
  refine (HC.out.2.2.2.1 _).mono ?_
  rintro e w9 ⟨rfl, rfl⟩
  (try go_wp2_with fail)
  refine hK.out _ _ ⟨FSt.out M.out k HKK.out, KD.out.get HK.out⟩ (fun hH => ?_)
  clear hK K
  (try simp only [Act.put, List.setIfInBounds_toArray, List.set_cons_zero, List.set_cons_succ])
  refine wpAnyH_take (i := 23) (v := ?_) rfl (by kernel_rfl) (by kernel_rfl) (by kernel_rfl) (fun _ _ _ h => h) (Or.inl ⟨by rfl, ?_⟩) (by assumption) ?_
  rotate_left
  · intro w hSw
    (try dsimp only at hSw)
    go_simp
    (try with_reducible rfl)
  simp only [Act.put, List.setIfInBounds_toArray]
  refine wpAnyH_take (i := 24) (v := ?_) rfl (by kernel_rfl) (by kernel_rfl) (by kernel_rfl) (fun _ _ _ h => h) (Or.inl ⟨by rfl, ?_⟩) (by assumption) ?_
  rotate_left
  · intro w hSw
    (try dsimp only at hSw)
    go_simp
    (try with_reducible rfl)
  simp only [Act.put]
  refine wpAnyH_ready (rs := [27]) (by kernel_rfl) (by simp) ?_
  refine AllReadyH.cons rfl (fun K hK => ?_) AllReadyH.nil
  go_simp
  refine (HC.out.2.2.2.2.1 _).mono ?_
  rintro e w9 ⟨rfl, rfl⟩
  (try go_wp2_with fail)
  refine hK.out _ _ ⟨FSt.out M.out k HKK.out, KD.out.get HK.out⟩ (fun hH => ?_)
  clear hK K
  (try simp only [Act.put, List.setIfInBounds_toArray, List.set_cons_zero, List.set_cons_succ])
  refine wpAnyH_take (i := 28) (v := ?_) rfl (by kernel_rfl) (by kernel_rfl) (by kernel_rfl) (fun _ _ _ h => h) (Or.inl ⟨by rfl, ?_⟩) (by assumption) ?_
  rotate_left
  · intro w hSw
    (try dsimp only at hSw)
    go_simp
    (try with_reducible rfl)
  simp only [Act.put, List.setIfInBounds_toArray]
  refine wpAnyH_take (i := 29) (v := ?_) rfl (by kernel_rfl) (by kernel_rfl) (by kernel_rfl) (fun _ _ _ h => h) (Or.inl ⟨by rfl, ?_⟩) (by assumption) ?_
  rotate_left
  · intro w hSw
    (try dsimp only at hSw)
    go_simp
    (try with_reducible rfl)
  simp only [Act.put]
  refine wpAnyH_ready (rs := [32]) (by kernel_rfl) (by simp) ?_
  refine AllReadyH.cons rfl (fun K hK => ?_) AllReadyH.nil
  go_simp
  refine (HC.out.2.2.1 _).mono ?_
  rintro e w9 ⟨rfl, hb⟩
  have M := Lib.hid (M.out.below hb)
  have KD := Lib.hid (KD.out.below hb)
  (try go_wp2_with fail)
  refine hK.out _ _ ⟨FSt.out M.out k HKK.out, KD.out.get HK.out⟩ (fun hH => ?_)
  clear hK K
  (try simp only [Act.put, List.setIfInBounds_toArray, List.set_cons_zero, List.set_cons_succ])
  refine wpAnyH_take (i := 33) (v := ?_) rfl (by kernel_rfl) (by kernel_rfl) (by kernel_rfl) (fun _ _ _ h => h) (Or.inl ⟨by rfl, ?_⟩) (by assumption) ?_
  rotate_left
  · intro w hSw
    (try dsimp only at hSw)
    go_simp
    (try with_reducible rfl)
  simp only [Act.put, List.setIfInBounds_toArray]
  refine wpAnyH_take (i := 34) (v := ?_) rfl (by kernel_rfl) (by kernel_rfl) (by kernel_rfl) (fun _ _ _ h => h) (Or.inl ⟨by rfl, ?_⟩) (by assumption) ?_
  rotate_left
  · intro w hSw
    (try dsimp only at hSw)
    go_simp
    (try with_reducible rfl)
  simp only [Act.put]
  refine wpAnyH_ready (rs := [37]) (by kernel_rfl) (by simp) ?_
  refine AllReadyH.cons rfl (fun K hK => ?_) AllReadyH.nil
  go_simp
  refine (HC.out.2.2.2.2.2 _).mono ?_
  rintro e w9 ⟨rfl, rfl⟩
  (try go_wp2_with fail)
  refine hK.out _ _ ⟨FSt.out M.out k HKK.out, KD.out.get HK.out⟩ (fun hH => ?_)
  clear hK K
  (try simp only [Act.put, List.setIfInBounds_toArray, List.set_cons_zero, List.set_cons_succ])
  refine wpAnyH_take (i := 38) (oi := { dst := some 41, op := Op.binOp BinOp.add 9 (Operand.tmp 37) (Operand.tmp 40) 9, type := 9, pos := "ref.go:296", after := _, guard := none }) (v := ?_) rfl (by kernel_rfl) (by kernel_rfl) (by kernel_rfl) (fun _ _ _ h => h) (Or.inl ⟨by rfl, ?_⟩) (by assumption) ?_
  rotate_left
  · intro w hSw
    (try dsimp only at hSw)
    go_simp
    (try with_reducible rfl)
  simp only [Act.put, List.setIfInBounds_toArray, List.set_cons_zero, List.set_cons_succ]
  refine wpAnyH_take (i := 39) (oi := { dst := some 2, op := Op.assign (Operand.tmp 41), type := 9, pos := "ref.go:296", after := _, guard := none }) (v := ?_) rfl (by kernel_rfl) (by kernel_rfl) (by kernel_rfl) (fun _ _ _ h => h) (Or.inl ⟨by rfl, ?_⟩) (by assumption) ?_
  rotate_left
  · intro w hSw
    (try dsimp only at hSw)
    go_simp
    (try with_reducible rfl)
  simp only [Act.put, List.setIfInBounds_toArray, List.set_cons_zero, List.set_cons_succ]
  refine wpAnyH_done (by kernel_rfl) ?_ _
  go_wp2_with fail
  go_ret
  exact ⟨rfl, M.out.bw⟩
end Go.Proofs.YthfhfekneahonaaDoor
