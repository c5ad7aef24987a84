/- How bytes go on: the program's look. -/
import Derived.Test.YtcmceibaaaadoaaE
namespace Go.Proofs.Ytcmceibaaaadoaa
open Go.RowKit
set_option linter.unusedVariables false
/-- The four blocks of a look: the slice, the length, the size, the closures. -/
structure LB (g : Nat) (bv : Value) (L s : Int) (w : World) : Prop where
  h0 : w.heap[g]? = some (.cells #[bv] 22 (0, 0))
  h1 : w.heap[g + 1]? = some (.cells #[.int .i64 L] 3 (0, 0))
  h2 : w.heap[g + 1 + 1]? = some (.cells #[.int .i64 s] 3 (0, 0))
  h3 : w.heap[g + 1 + 1 + 1]? = some (.cells #[.func (.func 25) #[] #[.pointer (some ⟨g, 0, none⟩)], .func (.func 26) #[] #[.pointer (some ⟨g + 1, 0, none⟩)], .func (.func 27) #[] #[.pointer (some ⟨g, 0, none⟩), .pointer (some ⟨g + 1 + 1, 0, none⟩)]] 23 (0, 0))
theorem LB.lt {g : Nat} {bv : Value} {L s : Int} {w : World} (h : LB g bv L s w) : g + 1 + 1 + 1 < w.heap.size := lt_of_block h.h3
theorem LB.below {g : Nat} {bv : Value} {L s : Int} {w w' : World} (h : LB g bv L s w) (hb : Below w.heap.size w w') : LB g bv L s w' := by
  have := h.lt
  exact ⟨by rw [hb.block _ (by omega)]; exact h.h0, by rw [hb.block _ (by omega)]; exact h.h1, by rw [hb.block _ (by omega)]; exact h.h2, by rw [hb.block _ (by omega)]; exact h.h3⟩
theorem LB.all {g : Nat} {bv : Value} {L s : Int} {w : World} (h : LB g bv L s w) : w.cell? ⟨g, 0, none⟩ = some bv ∧ w.cell? ⟨g + 1, 0, none⟩ = some (.int .i64 L) ∧ w.cell? ⟨g + 1 + 1, 0, none⟩ = some (.int .i64 s) ∧ w.cell? ⟨g + 1 + 1 + 1, 0, none⟩ = some (.func (.func 25) #[] #[.pointer (some ⟨g, 0, none⟩)]) ∧ w.cell? ⟨g + 1 + 1 + 1, 1, none⟩ = some (.func (.func 26) #[] #[.pointer (some ⟨g + 1, 0, none⟩)]) ∧ w.cell? ⟨g + 1 + 1 + 1, 2, none⟩ = some (.func (.func 27) #[] #[.pointer (some ⟨g, 0, none⟩), .pointer (some ⟨g + 1 + 1, 0, none⟩)]) := by
  obtain ⟨h0, h1, h2, h3⟩ := h
  refine ⟨?_, ?_, ?_, ?_, ?_, ?_⟩ <;> simp [World.cell?, h0, h1, h2, h3]
theorem LB.new (w : World) (bv : Value) (L s : Int) : LB w.heap.size bv L s ((((w.alloc (.cells #[bv] 22)).alloc (.cells #[.int .i64 L] 3)).alloc (.cells #[.int .i64 s] 3)).alloc (.cells #[.func (.func 25) #[] #[.pointer (some ⟨w.heap.size, 0, none⟩)], .func (.func 26) #[] #[.pointer (some ⟨w.heap.size + 1, 0, none⟩)], .func (.func 27) #[] #[.pointer (some ⟨w.heap.size, 0, none⟩), .pointer (some ⟨w.heap.size + 1 + 1, 0, none⟩)]] 23)) := by
  have n0 := heap_alloc_new w (.cells #[bv] 22)
  have n1 := heap_alloc_new (w.alloc (.cells #[bv] 22)) (.cells #[.int .i64 L] 3)
  have n2 := heap_alloc_new ((w.alloc (.cells #[bv] 22)).alloc (.cells #[.int .i64 L] 3)) (.cells #[.int .i64 s] 3)
  have n3 := heap_alloc_new (((w.alloc (.cells #[bv] 22)).alloc (.cells #[.int .i64 L] 3)).alloc (.cells #[.int .i64 s] 3)) (.cells #[.func (.func 25) #[] #[.pointer (some ⟨w.heap.size, 0, none⟩)], .func (.func 26) #[] #[.pointer (some ⟨w.heap.size + 1, 0, none⟩)], .func (.func 27) #[] #[.pointer (some ⟨w.heap.size, 0, none⟩), .pointer (some ⟨w.heap.size + 1 + 1, 0, none⟩)]] 23)
  simp only [World.size_alloc] at n1 n2 n3
  refine ⟨?_, ?_, ?_, n3⟩
  · rw [Below.heap_alloc _ _ _ (by simp; omega), Below.heap_alloc _ _ _ (by simp; omega), Below.heap_alloc _ _ _ (by simp)]; exact n0
  · rw [Below.heap_alloc _ _ _ (by simp), Below.heap_alloc _ _ _ (by simp)]; exact n1
  · rw [Below.heap_alloc _ _ _ (by simp)]; exact n2
/-- What the third closure tells. -/
def othB (l : List UInt8) (N : Nat) : Bool := decide (N + 10 ≤ l.length) && decide (valN ((l.take (N + 6 + 4)).drop (N + 6)) ≠ sumN (l.take (N + 6)))
theorem oth_yes {l : List UInt8} {N : Nat} (h : likeB l = true) (h2 : ¬ l.length < 3) (hn : valN (l.take 3) = N) (h3 : ¬ 65536 < N) (ho : othB l N = true) : openS l = (0, 2) := by
  unfold othB at ho
  rw [Bool.and_eq_true, decide_eq_true_eq, decide_eq_true_eq, show N + 6 + 4 = 10 + N by omega, show N + 6 = 6 + N by omega] at ho
  exact open5 h h2 hn h3 (by omega) ho.2
theorem oth_no {l : List UInt8} {N : Nat} (h : likeB l = true) (h2 : ¬ l.length < 3) (hn : valN (l.take 3) = N) (h3 : ¬ 65536 < N) (ho : othB l N = false) (h4 : N + 10 ≤ l.length) : openS l = (10 + N, 0) := by
  unfold othB at ho
  rw [show N + 6 + 4 = 10 + N by omega, show N + 6 = 6 + N by omega] at ho
  refine open6 h h2 hn h3 (by omega) ?_
  have h5 : decide (10 + N ≤ l.length) = true := by simp; omega
  rw [h5, Bool.true_and, decide_eq_false_iff_not] at ho
  exact Decidable.not_not.1 ho
theorem third_any (g : Nat) (q : Option Addr) (cap N : Nat) (l : List UInt8) (hl : l.length ≤ 1000000000) (w : World) (h : LB g (.slice q l.length cap) N ((N : Int) + 10) w) (B : Nat) (hv : Seen w B (.slice q l.length cap) l) :
    Calls Try.prog 27 #[.pointer (some ⟨g, 0, none⟩), .pointer (some ⟨g + 1 + 1, 0, none⟩)] w fun e w' => e = .returned (.bool (othB l N)) ∧ Below w.heap.size w w' := by
  obtain ⟨c0, _, c2, _⟩ := h.all
  unfold othB
  by_cases hn : N + 10 ≤ l.length
  · obtain ⟨ad, rfl, _⟩ := hv.at 0 (by omega)
    have e : ((N : Int) + 10) = (((N + 6 : Nat) : Int) + 4) := by omega
    rw [e] at c2
    have := otherSum_any g (g + 1 + 1) ad l.length cap (N + 6) l rfl (by omega) hl w c0 c2 B hv
    simpa [hn] using this
  · have e : ((N : Int) + 10) = ((N + 10 : Nat) : Int) := by omega
    rw [e] at c2
    have := otherSum_torn g (g + 1 + 1) q l.length cap (N + 10) (by omega) w c0 c2
    simpa [hn] using this
set_option maxRecDepth 100000 in
set_option maxHeartbeats 1000000 in
theorem look_short (v : Value) (l : List UInt8) (hl : l.length < 3) (w : World) (hv : Seen w w.heap.size v l) :
    Calls Try.prog 22 #[v] w fun e w' => e = .returned (.tuple #[.int .i64 0, .int .i64 1]) ∧ Below w.heap.size w w' := by
  obtain ⟨q, cap, rfl, hcap⟩ := hv.len
  have HV := Lib.hid hv
  clear hv
  have HL : Hid (likeB l = true) := (like_iff l).2 (fun i h1 h2 h3 => by omega)
  have HO : Hid (othB l 0 = false) := by unfold Hid othB; simp; omega
  obtain ⟨n, hn⟩ : ∃ n, l.length = n := ⟨_, rfl⟩
  rw [hn] at hl HV ⊢
  have Hn := Lib.hid hn
  clear hn
  go_enter Try.func22, Try.ntmps22
  go_wp2_with fail
  have B0 := LB.new w (.slice q n cap) 0 10
  have bw : Below w.heap.size w _ := ((((Below.refl w.heap.size w).alloc (Nat.le_refl _) (.cells #[.slice q n cap] 22)).alloc (by simp) (.cells #[.int .i64 0] 3)).alloc (by simp; omega) (.cells #[.int .i64 10] 3)).alloc (by simp; omega) (.cells #[.func (.func 25) #[] #[.pointer (some ⟨w.heap.size, 0, none⟩)], .func (.func 26) #[] #[.pointer (some ⟨w.heap.size + 1, 0, none⟩)], .func (.func 27) #[] #[.pointer (some ⟨w.heap.size, 0, none⟩), .pointer (some ⟨w.heap.size + 1 + 1, 0, none⟩)]] 23)
  generalize (((w.alloc _).alloc _).alloc _).alloc _ = wz at B0 bw ⊢
  go_loopw [29] (fun i wr => ∃ k : Nat, k ≤ 3 ∧ i = .int .i64 k ∧ LB w.heap.size (.slice q n cap) 0 10 wr ∧ Below w.heap.size w wr) (fun i _ => 3 - (intOf i).toNat)
  case atStart => exact ⟨0, by omega, rfl, B0, bw⟩
  case round =>
    obtain ⟨k, hk, rfl, BR, hb⟩ := hrel
    have hlt := BR.lt
    have HB := Lib.hid BR
    obtain ⟨c0, c1, c2, f0, f1, f2⟩ := BR.all
    have hvr := HV.out.below hb (Nat.le_refl _)
    have HVR := Lib.hid hvr
    clear BR hvr
    match k, hk with
    | 0, _ =>
      go_wp2_with fail
      refine (unlike_any w.heap.size _ l (by have := Hn.out; omega) wr (by omega) c0 w.heap.size (by omega) HVR.out).mono ?_
      rw [HL.out]
      rintro e w1 ⟨rfl, hb1⟩
      have HB1 := HB.out.below hb1
      have bw1 := hb.trans (hb1.mono (by omega))
      clear c0 c1 c2 f0 f1 f2 hb hb1
      go_wp2_with fail
      go_roundw
      case rel => exact ⟨1, by omega, rfl, HB1, bw1⟩
      case measure => simp [intOf]
    | 1, _ =>
      go_wp2_with fail
      refine (tooLong_any (w.heap.size + 1) 0 wr c1).mono ?_
      rintro e w1 ⟨rfl, rfl⟩
      clear c0 c1 c2 f0 f1 f2
      go_wp2_with fail
      go_roundw
      case rel => exact ⟨2, by omega, rfl, HB.out, hb⟩
      case measure => simp [intOf]
    | 2, _ =>
      go_wp2_with fail
      refine (third_any w.heap.size q cap 0 l (by have := Hn.out; omega) wr (by rw [Hn.out]; exact HB.out) w.heap.size (by rw [Hn.out]; exact HVR.out)).mono ?_
      rw [HO.out]
      rintro e w1 ⟨rfl, hb1⟩
      have HB1 := HB.out.below hb1
      have bw1 := hb.trans (hb1.mono (by omega))
      clear c0 c1 c2 f0 f1 f2 hb hb1
      go_wp2_with fail
      go_roundw
      case rel => exact ⟨3, by omega, rfl, HB1, bw1⟩
      case measure => simp [intOf]
    | 3, _ =>
      have h1 : decide ((n : Int) < 10) = true := by simp; omega
      go_wp2_with fail
      go_ret2
      exact ⟨rfl, hb⟩
set_option maxRecDepth 100000 in
set_option maxHeartbeats 1000000 in
theorem look_long (v : Value) (l : List UInt8) (hl : ¬ l.length < 3) (hl9 : l.length ≤ 1000000000) (w : World) (hv : Seen w w.heap.size v l) :
    Calls Try.prog 22 #[v] w fun e w' => e = .returned (.tuple #[.int .i64 ((openS l).1 : Nat), .int .i64 ((openS l).2 : Nat)]) ∧ Below w.heap.size w w' := by
  obtain ⟨q, cap, rfl, hcap⟩ := hv.len
  obtain ⟨ad, rfl, _⟩ := hv.at 0 (by omega)
  have HV := Lib.hid hv
  have H3 := Lib.hid (hv.take 3 (by omega))
  clear hv
  obtain ⟨N, hN⟩ : ∃ N, valN (l.take 3) = N := ⟨_, rfl⟩
  have hNl : N < 16777216 := by rw [← hN]; exact valN_lt 3 _ (by rw [List.length_take]; omega)
  have HN := Lib.hid hN
  have h3l : (l.take 3).length ≤ 4 := by rw [List.length_take]; omega
  obtain ⟨n, hn⟩ : ∃ n, l.length = n := ⟨_, rfl⟩
  rw [hn] at hl HV hl9 hcap ⊢
  have Hn := Lib.hid hn
  clear hn
  obtain ⟨S, hS⟩ : ∃ S, openS l = S := ⟨_, rfl⟩
  obtain ⟨z, s⟩ := S
  rw [hS]
  have HS := Lib.hid hS
  clear hS
  go_enter Try.func22, Try.ntmps22
  go_wp2_with fail
  refine (number_any _ (l.take 3) w.heap.size h3l _ (H3.out.below (((Below.refl w.heap.size w).alloc (Nat.le_refl _) _).alloc (by simp) _) (Nat.le_refl _))).mono ?_
  rintro e w1 ⟨rfl, rfl⟩
  rw [hN]
  clear hN
  go_wp2_with fail
  have e : 6 + (N : Int) + 4 = (N : Int) + 10 := by omega
  rw [e]
  clear e
  have B0 := LB.new w (.slice (some ad) n cap) N ((N : Int) + 10)
  have bw : Below w.heap.size w _ := ((((Below.refl w.heap.size w).alloc (Nat.le_refl _) (.cells #[.slice (some ad) n cap] 22)).alloc (by simp) (.cells #[.int .i64 N] 3)).alloc (by simp; omega) (.cells #[.int .i64 ((N : Int) + 10)] 3)).alloc (by simp; omega) (.cells #[.func (.func 25) #[] #[.pointer (some ⟨w.heap.size, 0, none⟩)], .func (.func 26) #[] #[.pointer (some ⟨w.heap.size + 1, 0, none⟩)], .func (.func 27) #[] #[.pointer (some ⟨w.heap.size, 0, none⟩), .pointer (some ⟨w.heap.size + 1 + 1, 0, none⟩)]] 23)
  generalize (((w.alloc _).alloc _).alloc _).alloc _ = wz at B0 bw ⊢
  go_loopw [29] (fun i wr => ∃ k : Nat, k ≤ 3 ∧ i = .int .i64 k ∧ Hid (1 ≤ k → likeB l = true) ∧ Hid (2 ≤ k → ¬ 65536 < N) ∧ Hid (3 ≤ k → othB l N = false) ∧ LB w.heap.size (.slice (some ad) n cap) N ((N : Int) + 10) wr ∧ Below w.heap.size w wr) (fun i _ => 3 - (intOf i).toNat)
  case atStart => exact ⟨0, by omega, rfl, fun h => by omega, fun h => by omega, fun h => by omega, B0, bw⟩
  case round =>
    obtain ⟨k, hk, rfl, HU, HT, HO, BR, hb⟩ := hrel
    have hlt := BR.lt
    have HB := Lib.hid BR
    obtain ⟨c0, c1, c2, f0, f1, f2⟩ := BR.all
    have hvr := HV.out.below hb (Nat.le_refl _)
    have HVR := Lib.hid hvr
    clear BR hvr
    match k, hk with
    | 0, _ =>
      go_wp2_with fail
      refine (unlike_any w.heap.size _ l (by have := Hn.out; omega) wr (by omega) c0 w.heap.size (by omega) HVR.out).mono ?_
      cases hx : likeB l
      · have HS2 := HS.out
        rw [open1 hx] at HS2
        obtain ⟨rfl, rfl⟩ : z = 0 ∧ s = 2 := by cases HS2; exact ⟨rfl, rfl⟩
        clear HS2
        rintro e w1 ⟨rfl, hb1⟩
        have bw1 := hb.trans (hb1.mono (by omega))
        clear c0 c1 c2 f0 f1 f2 hb hb1 hx
        go_wp2_with fail
        go_ret2
        exact ⟨rfl, bw1⟩
      · have HX := Lib.hid hx
        clear hx
        rintro e w1 ⟨rfl, hb1⟩
        have HB1 := HB.out.below hb1
        have bw1 := hb.trans (hb1.mono (by omega))
        clear c0 c1 c2 f0 f1 f2 hb hb1
        go_wp2_with fail
        go_roundw
        case rel => exact ⟨1, by omega, rfl, fun _ => HX.out, fun h => by omega, fun h => by omega, HB1, bw1⟩
        case measure => simp [intOf]
    | 1, _ =>
      have HX := Lib.hid (HU.out (by omega))
      go_wp2_with fail
      refine (tooLong_any (w.heap.size + 1) N wr c1).mono ?_
      by_cases hx : 65536 < N
      · have HS2 := HS.out
        rw [open3 HX.out (by rw [Hn.out]; exact hl) (by rw [HN.out]; exact hx)] at HS2
        obtain ⟨rfl, rfl⟩ : z = 0 ∧ s = 2 := by cases HS2; exact ⟨rfl, rfl⟩
        clear HS2
        have hd : decide (65536 < N) = true := by simpa using hx
        rw [hd]
        clear hd hx
        rintro e w1 ⟨rfl, rfl⟩
        clear c0 c1 c2 f0 f1 f2
        go_wp2_with fail
        go_ret2
        exact ⟨rfl, hb⟩
      · have hd : decide (65536 < N) = false := by simpa using hx
        rw [hd]
        have HY := Lib.hid hx
        clear hd hx
        rintro e w1 ⟨rfl, rfl⟩
        clear c0 c1 c2 f0 f1 f2
        go_wp2_with fail
        go_roundw
        case rel => exact ⟨2, by omega, rfl, fun _ => HX.out, fun _ => HY.out, fun h => by omega, HB.out, hb⟩
        case measure => simp [intOf]
    | 2, _ =>
      have HX := Lib.hid (HU.out (by omega))
      have HY := Lib.hid (HT.out (by omega))
      go_wp2_with fail
      refine (third_any w.heap.size (some ad) cap N l (by have := Hn.out; omega) wr (by rw [Hn.out]; exact HB.out) w.heap.size (by rw [Hn.out]; exact HVR.out)).mono ?_
      cases hx : othB l N
      · have HZ := Lib.hid hx
        clear hx
        rintro e w1 ⟨rfl, hb1⟩
        have HB1 := HB.out.below hb1
        have bw1 := hb.trans (hb1.mono (by omega))
        clear c0 c1 c2 f0 f1 f2 hb hb1
        go_wp2_with fail
        go_roundw
        case rel => exact ⟨3, by omega, rfl, fun _ => HX.out, fun _ => HY.out, fun _ => HZ.out, HB1, bw1⟩
        case measure => simp [intOf]
      · have HS2 := HS.out
        rw [oth_yes HX.out (by rw [Hn.out]; exact hl) HN.out HY.out hx] at HS2
        obtain ⟨rfl, rfl⟩ : z = 0 ∧ s = 2 := by cases HS2; exact ⟨rfl, rfl⟩
        clear HS2 hx
        rintro e w1 ⟨rfl, hb1⟩
        have bw1 := hb.trans (hb1.mono (by omega))
        clear c0 c1 c2 f0 f1 f2 hb hb1
        go_wp2_with fail
        go_ret2
        exact ⟨rfl, bw1⟩
    | 3, _ =>
      have HX := HU.out (by omega)
      have HY := HT.out (by omega)
      have HZ := HO.out (by omega)
      by_cases hx : n < N + 10
      · have HS2 := HS.out
        rw [open4 HX (by rw [Hn.out]; exact hl) HN.out HY (by rw [Hn.out]; omega)] at HS2
        obtain ⟨rfl, rfl⟩ : z = 0 ∧ s = 1 := by cases HS2; exact ⟨rfl, rfl⟩
        have h1 : decide ((n : Int) < (N : Int) + 10) = true := by simp; omega
        clear HS2 HX HY HZ hx
        go_wp2_with fail
        go_ret2
        exact ⟨rfl, hb⟩
      · have HS2 := HS.out
        rw [oth_no HX (by rw [Hn.out]; exact hl) HN.out HY HZ (by rw [Hn.out]; omega)] at HS2
        obtain ⟨rfl, rfl⟩ : z = 10 + N ∧ s = 0 := by cases HS2; exact ⟨rfl, rfl⟩
        have h1 : decide ((n : Int) < (N : Int) + 10) = false := by simp; omega
        have e1 : Hid (((10 + N : Nat) : Int) = (N : Int) + 10) := by unfold Hid; omega
        clear HS2 HX HY HZ hx
        go_wp2_with fail
        go_ret2
        refine ⟨?_, hb⟩
        rw [e1.out]
        rfl
theorem look_any (v : Value) (l : List UInt8) (hl9 : l.length ≤ 1000000000) (w : World) (hv : Seen w w.heap.size v l) :
    Calls Try.prog 22 #[v] w fun e w' => e = .returned (.tuple #[.int .i64 ((openS l).1 : Nat), .int .i64 ((openS l).2 : Nat)]) ∧ Below w.heap.size w w' := by
  by_cases hl : l.length < 3
  · rw [open2 ((like_iff l).2 (fun i h1 h2 h3 => by omega)) hl]
    exact look_short v l hl w hv
  · exact look_long v l hl hl9 w hv
end Go.Proofs.Ytcmceibaaaadoaa
