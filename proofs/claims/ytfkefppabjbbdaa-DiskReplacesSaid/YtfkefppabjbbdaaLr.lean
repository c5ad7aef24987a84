/- A Replace is whole, or not at all: the statement's walk. -/
import Derived.Test.YtfkefppabjbbdaaT
namespace Go.Proofs.Ytfkefppabjbbdaa
open Go.RowKit Go.Maps
set_option linter.unusedVariables false
def shortR (n o m : List UInt8) (ks : List Int) : Prop := n.length ≤ 100 ∧ o.length ≤ 200 ∧ m.length ≤ 200 ∧ ks.length ≤ 20
set_option maxRecDepth 100000 in
theorem replaces_long (n o m : List UInt8) (fuse : Int) (q : Option Addr) (M cap : Nat) (w : World) (h : ¬ (n.length ≤ 100 ∧ o.length ≤ 200 ∧ m.length ≤ 200 ∧ M ≤ 20)) :
    Calls Try.prog 6 #[.string (bs n), .string (bs o), .string (bs m), .int .i64 fuse, .slice q M cap] w fun e w' => e = .returned (.bool true) ∧ Below w.heap.size w w' := by
  have hn := bs_size n
  have ho := bs_size o
  have hm := bs_size m
  obtain ⟨X, hX⟩ : ∃ X, bs n = X := ⟨_, rfl⟩
  obtain ⟨Y, hY⟩ : ∃ X, bs o = X := ⟨_, rfl⟩
  obtain ⟨Z, hZ⟩ : ∃ X, bs m = X := ⟨_, rfl⟩
  obtain ⟨x, hx⟩ : ∃ x, n.length = x := ⟨_, rfl⟩
  obtain ⟨y, hy⟩ : ∃ x, o.length = x := ⟨_, rfl⟩
  obtain ⟨z, hz⟩ : ∃ x, m.length = x := ⟨_, rfl⟩
  rw [hX, hx] at hn
  rw [hY, hy] at ho
  rw [hZ, hz] at hm
  rw [hx, hy, hz] at h
  rw [hX, hY, hZ]
  clear hX hY hZ hx hy hz n o m
  have ha := Lib.hid (awake_any w)
  by_cases h1 : 100 < x
  · have g1 : decide ((100 : Int) < (x : Int)) = true := by simp; omega
    clear h
    go_enter Try.func6, Try.ntmps6
    go_wp2_with fail
    refine (ha.out).mono ?_
    rintro e w1 ⟨rfl, hb⟩
    go_wp2_with fail
    go_ret
    exact ⟨rfl, hb⟩
  · have g1 : decide ((100 : Int) < (x : Int)) = false := by simp; omega
    by_cases h2 : 200 < y
    · have g2 : decide ((200 : Int) < (y : Int)) = true := by simp; omega
      clear h
      go_enter Try.func6, Try.ntmps6
      go_wp2_with fail
      refine (ha.out).mono ?_
      rintro e w1 ⟨rfl, hb⟩
      go_wp2_with fail
      go_ret
      exact ⟨rfl, hb⟩
    · have g2 : decide ((200 : Int) < (y : Int)) = false := by simp; omega
      by_cases h3 : 200 < z
      · have g3 : decide ((200 : Int) < (z : Int)) = true := by simp; omega
        clear h
        go_enter Try.func6, Try.ntmps6
        go_wp2_with fail
        refine (ha.out).mono ?_
        rintro e w1 ⟨rfl, hb⟩
        go_wp2_with fail
        go_ret
        exact ⟨rfl, hb⟩
      · have g3 : decide ((200 : Int) < (z : Int)) = false := by simp; omega
        have g4 : decide ((20 : Int) < (M : Int)) = true := by simp; omega
        clear h
        go_enter Try.func6, Try.ntmps6
        go_wp2_with fail
        refine (ha.out).mono ?_
        rintro e w1 ⟨rfl, hb⟩
        go_wp2_with fail
        go_ret
        exact ⟨rfl, hb⟩
set_option maxRecDepth 100000 in
theorem replaces_bad (n o m : List UInt8) (fuse : Int) (q : Option Addr) (M cap : Nat) (w : World) (h : n.length ≤ 100 ∧ o.length ≤ 200 ∧ m.length ≤ 200 ∧ M ≤ 20) (hn1 : ¬ (1 ≤ n.length ∧ n.length ≤ 64)) :
    Calls Try.prog 6 #[.string (bs n), .string (bs o), .string (bs m), .int .i64 fuse, .slice q M cap] w fun e w' => e = .returned (.bool true) ∧ Below w.heap.size w w' := by
  obtain ⟨h1, h2, h3, h4⟩ := h
  have hn := bs_size n
  have ho := bs_size o
  have hm := bs_size m
  have cv := run_conv
  have g1 : decide ((100 : Int) < (n.length : Int)) = false := by simp; omega
  have g2 : decide ((200 : Int) < (o.length : Int)) = false := by simp; omega
  have g3 : decide ((200 : Int) < (m.length : Int)) = false := by simp; omega
  have g4 : decide ((20 : Int) < (M : Int)) = false := by simp; omega
  have hnew := Lib.hid (new_dk w (fun i => w.heap.size ≤ i) (fun i hi => hi))
  go_enter Try.func6, Try.ntmps6
  go_wp2_with fail
  refine (hnew.out).mono ?_
  rintro e w1 ⟨d, rfl, hd1, hb1⟩
  have HD1 := Lib.hid hd1
  have HB1 := Lib.hid hb1
  clear hd1 hb1 hnew
  go_wp2_with fail
  have hF : ∀ i, (w1.alloc (.cells (crow w1 o) 5 (cfr w1 o))).drew.heap.size ≤ i → w.heap.size ≤ i := fun i hi => by have := HB1.out.size; rw [conv_size] at hi; omega
  refine (replace_any hF (HD1.out.conv o) n (by omega) _ o (conv_seen w1 o) (by omega)).mono ?_
  rw [(rep_bad (b := o) hn1).1, (rep_bad (b := o) hn1).2]
  rintro e w2 ⟨rfl, hd2, hk2⟩
  have HD2 := Lib.hid hd2
  have hb2 : Hid (Below w.heap.size w w2) := Lib.hid (HB1.out.trans ((((Kept.refl (fun i => w.heap.size ≤ i) w1).conv o).trans hk2).below HB1.out.size (fun i hi => hi)))
  have hnm := Lib.hid (names_dk hd2)
  have haw := Lib.hid awake_any
  clear hd2 hk2 hF cv
  have fin : Hid (∀ w3 w4, Below w2.heap.size w2 w3 → Below w3.heap.size w3 w4 → Below w.heap.size w w4) := Lib.hid (fun w3 w4 h3 h4 => (hb2.out.trans (h3.mono hb2.out.size)).trans (h4.mono (Nat.le_trans hb2.out.size h3.size)))
  by_cases hl : n.length < 1
  · have k1 : decide ((n.length : Int) < 1) = true := by simp; omega
    clear hn1
    go_wp2_with fail
    refine (hnm.out).mono ?_
    rintro e w3 ⟨q3, cap3, rfl, _, _, hb3⟩
    have HB3 := Lib.hid hb3
    clear hb3
    go_wp2_with fail
    refine (haw.out _).mono ?_
    rintro e w4 ⟨rfl, hb4⟩
    have HB4 := Lib.hid (fin.out _ _ HB3.out hb4)
    clear hb4
    go_wp2_with fail
    go_ret
    exact ⟨rfl, HB4.out⟩
  · have k1 : decide ((n.length : Int) < 1) = false := by simp; omega
    have k2 : decide ((64 : Int) < (n.length : Int)) = true := by simp; omega
    clear hn1
    go_wp2_with fail
    refine (hnm.out).mono ?_
    rintro e w3 ⟨q3, cap3, rfl, _, _, hb3⟩
    have HB3 := Lib.hid hb3
    clear hb3
    go_wp2_with fail
    refine (haw.out _).mono ?_
    rintro e w4 ⟨rfl, hb4⟩
    have HB4 := Lib.hid (fin.out _ _ HB3.out hb4)
    clear hb4
    go_wp2_with fail
    go_ret
    exact ⟨rfl, HB4.out⟩
set_option maxRecDepth 100000 in
theorem replaces_good (n o m : List UInt8) (fuse : Int) (hfu : fuse ≤ 9223372036854775807) (q : Option Addr) (M cap : Nat) (ks : List Int) (w : World) (hk : Ints w (fun i => i < w.heap.size) (.slice q M cap) ks) (hkl : ks.length = M) (h : n.length ≤ 100 ∧ o.length ≤ 200 ∧ m.length ≤ 200 ∧ M ≤ 20) (hn1 : 1 ≤ n.length) (hn2 : n.length ≤ 64) (hfm : -9223372036854775808 ≤ fuse) :
    Calls Try.prog 6 #[.string (bs n), .string (bs o), .string (bs m), .int .i64 fuse, .slice q M cap] w fun e w' => e = .returned (.bool true) ∧ Below w.heap.size w w' := by
  obtain ⟨h1, h2, h3, h4⟩ := h
  have hn := bs_size n
  have ho := bs_size o
  have hm := bs_size m
  have hmt := bs_toList m
  have hot := bs_toList o
  have cv := run_conv
  have g1 : decide ((100 : Int) < (n.length : Int)) = false := by simp; omega
  have g2 : decide ((200 : Int) < (o.length : Int)) = false := by simp; omega
  have g3 : decide ((200 : Int) < (m.length : Int)) = false := by simp; omega
  have g4 : decide ((20 : Int) < (M : Int)) = false := by simp; omega
  have hnew := Lib.hid (new_dk w (fun i => w.heap.size ≤ i) (fun i hi => hi))
  have HKS := Lib.hid hk
  have HKL : Hid (ks.length ≤ 1000000) := Lib.hid (by omega)
  have haw := Lib.hid awake_any
  clear hk hkl
  go_enter Try.func6, Try.ntmps6
  go_wp2_with fail
  refine (hnew.out).mono ?_
  rintro e w1 ⟨d, rfl, hd1, hb1⟩
  have HD1 := Lib.hid hd1
  have HB1 := Lib.hid hb1
  clear hd1 hb1 hnew
  go_wp2_with fail
  have hF : ∀ i, (w1.alloc (.cells (crow w1 o) 5 (cfr w1 o))).drew.heap.size ≤ i → w.heap.size ≤ i := fun i hi => by have := HB1.out.size; rw [conv_size] at hi; omega
  refine (replace_any hF (HD1.out.conv o) n (by omega) _ o (conv_seen w1 o) (by omega)).mono ?_
  rw [(rep_new (b := o) hn1 hn2 (by omega)).1, (rep_new (b := o) hn1 hn2 (by omega)).2]
  rintro e w2 ⟨rfl, hd2, hk2⟩
  have HD2 := Lib.hid hd2
  have HK2 := Lib.hid (((Kept.refl (fun i => w.heap.size ≤ i) w1).conv o).trans hk2)
  clear hd2 hk2 hF
  go_wp2_with fail
  refine (arm_dk HD2.out fuse hfu).mono ?_
  rw [arm_one]
  rintro e w3 ⟨rfl, hd3, hk3⟩
  have HD3 := Lib.hid hd3
  have HK3 := Lib.hid (HK2.out.trans hk3)
  clear hd3 hk3
  go_wp2_with fail
  have hF3 : ∀ i, (w3.alloc (.cells (crow w3 m) 5 (cfr w3 m))).drew.heap.size ≤ i → w.heap.size ≤ i := fun i hi => by have := HB1.out.size; have := HK3.out.size; rw [conv_size] at hi; omega
  refine (replace_any hF3 (HD3.out.conv m) n (by omega) _ m (conv_seen w3 m) (by omega)).mono ?_
  rw [(rep_one (x := o) (b := m) (f := max fuse (-1)) hn1 hn2 (by omega) (by omega)).1, (rep_one (x := o) (b := m) (f := max fuse (-1)) hn1 hn2 (by omega) (by omega)).2]
  rintro e w4 ⟨rfl, hd4, hk4⟩
  have HK4 := Lib.hid ((HK3.out.conv m).trans hk4)
  have HI4 : Hid (Ints w4 (fun i => ¬ w.heap.size ≤ i) (.slice q M cap) ks) := Lib.hid (((HKS.out.mono (fun i hi _ => by omega)).below HB1.out).keptF HK4.out (fun i hi hi' => hi hi'))
  clear hk4 hF3
  by_cases h0 : fuse = 0
  · have e1 : max fuse (-1) = 0 := by omega
    rw [if_pos e1] at hd4
    rw [e1]
    have e2 : burnE 0 = 8 := rfl
    rw [e2]
    have k1 : (fuse == 0) = true := by simp [h0]
    have k2 : (fuse != 0) = false := by simp [h0]
    have HD4 := Lib.hid hd4
    have hdn := Lib.hid (down_any w4 d _ hd4.down)
    clear hd4 e1 e2 h0
    go_wp2_with fail
    refine (hdn.out).mono ?_
    rintro e w5 ⟨rfl, rfl⟩
    go_wp2_with fail
    refine (crash_any HD4.out _ ks HI4.out HKL.out).mono ?_
    rw [crash_one]
    rintro e w6 ⟨rfl, hd6, hk6⟩
    have HD6 := Lib.hid hd6
    have HK6 := Lib.hid (HK4.out.trans hk6)
    clear hd6 hk6
    go_wp2_with fail
    refine (read_any HD6.out n (by omega)).mono ?_
    rw [(find_one (x := o) (f := -1) hn1 hn2).1, (find_one (x := o) (f := -1) hn1 hn2).2]
    rintro e w7 ⟨u, rfl, hu, _, hb7⟩
    obtain ⟨q7, cap7, rfl⟩ := hu.len
    have ht := (Seen.own hu).text
    have hb : Hid (Below w.heap.size w w7) := Lib.hid ((HB1.out.trans (HK6.out.below HB1.out.size (fun i hi => hi))).trans (hb7.mono (by have := HK6.out.size; have := HB1.out.size; omega)))
    clear hu hb7 cv
    go_wp2_with fail
    refine (haw.out _).mono ?_
    rintro e w8 ⟨rfl, hb8⟩
    have hb9 := Lib.hid (hb.out.trans (hb8.mono hb.out.size))
    clear hb8
    go_wp2_with fail
    go_ret
    exact ⟨rfl, hb9.out⟩
  · have e1 : max fuse (-1) ≠ 0 := by omega
    rw [if_neg e1] at hd4
    have e2 : burnE (max fuse (-1)) = 0 := by unfold burnE; rw [if_neg e1]
    rw [e2]
    have k1 : (fuse == 0) = false := by simp [h0]
    have k2 : (fuse != 0) = true := by simp [h0]
    have HD4 := Lib.hid hd4
    have hdn := Lib.hid (down_any w4 d _ hd4.down)
    clear hd4 e1 e2 h0
    go_wp2_with fail
    refine (hdn.out).mono ?_
    rintro e w5 ⟨rfl, rfl⟩
    go_wp2_with fail
    refine (crash_any HD4.out _ ks HI4.out HKL.out).mono ?_
    rw [crash_one]
    rintro e w6 ⟨rfl, hd6, hk6⟩
    have HD6 := Lib.hid hd6
    have HK6 := Lib.hid (HK4.out.trans hk6)
    clear hd6 hk6
    go_wp2_with fail
    refine (read_any HD6.out n (by omega)).mono ?_
    rw [(find_one (x := m) (f := -1) hn1 hn2).1, (find_one (x := m) (f := -1) hn1 hn2).2]
    rintro e w7 ⟨u, rfl, hu, _, hb7⟩
    obtain ⟨q7, cap7, rfl⟩ := hu.len
    have ht := (Seen.own hu).text
    have hb : Hid (Below w.heap.size w w7) := Lib.hid ((HB1.out.trans (HK6.out.below HB1.out.size (fun i hi => hi))).trans (hb7.mono (by have := HK6.out.size; have := HB1.out.size; omega)))
    clear hu hb7 cv
    go_wp2_with fail
    refine (haw.out _).mono ?_
    rintro e w8 ⟨rfl, hb8⟩
    have hb9 := Lib.hid (hb.out.trans (hb8.mono hb.out.size))
    clear hb8
    go_wp2_with fail
    go_ret
    exact ⟨rfl, hb9.out⟩
theorem law_replaces (n o m : List UInt8) (fuse : Int) (hfu : -9223372036854775808 ≤ fuse ∧ fuse ≤ 9223372036854775807) (kv : Value) (ks : List Int) (w : World) (hk : Ints w (fun i => i < w.heap.size) kv ks) :
    Calls Try.prog 6 #[.string (bs n), .string (bs o), .string (bs m), .int .i64 fuse, kv] w fun e w' => e = .returned (.bool true) ∧ Below w.heap.size w w' := by
  obtain ⟨q, cap, rfl⟩ := hk.len
  by_cases h : n.length ≤ 100 ∧ o.length ≤ 200 ∧ m.length ≤ 200 ∧ ks.length ≤ 20
  · by_cases hn : 1 ≤ n.length ∧ n.length ≤ 64
    · exact replaces_good n o m fuse hfu.2 q _ cap ks w hk rfl h hn.1 hn.2 hfu.1
    · exact replaces_bad n o m fuse q _ cap w h hn
  · exact replaces_long n o m fuse q _ cap w h
end Go.Proofs.Ytfkefppabjbbdaa
