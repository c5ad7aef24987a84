/- The walk of DiskPlays. -/
import Derived.Test.YtfkefppabjbbdaaFi
namespace Go.Proofs.Ytfkefppabjbbdaa
open Go.RowKit Go.Maps
set_option linter.unusedVariables false
theorem Cls.up {w : World} {B B' : Nat} {v : Value} {l : List Cl} (h : Cls w B v l) (hB : B ≤ B') : Cls w B' v l := by
  rcases h with h | ⟨ad, cap, hv, hc, hg, hh⟩
  · exact .inl h
  · refine .inr ⟨ad, cap, hv, hc, fun h0 => by have := hg h0; omega, fun j hj => ?_⟩
    obtain ⟨h0, kv, h1, h2, h3, h4, h5, h6⟩ := hh j hj
    exact ⟨h0, kv, h1, h2, h3, h4, h5, h6.mono (fun i hi _ => by show i < B'; have : i < B := hi; omega)⟩
set_option maxRecDepth 100000 in
theorem law_plays (v : Value) (l : List Cl) (n : List UInt8) (w : World) (hv : Cls w w.heap.size v l) :
    Calls Try.prog 3 #[v, .string (bs n)] w fun e w' => e = .returned (.bool true) ∧ Below w.heap.size w w' := by
  have hn := bs_size n
  have hlo := Lib.hid (long_any v l w.heap.size w hv (Nat.le_refl _))
  have haw := Lib.hid awake_any
  have fin : Hid (∀ w3 w4, Below w.heap.size w w3 → Below w3.heap.size w3 w4 → Below w.heap.size w w4) := Lib.hid (fun w3 w4 h3 h4 => h3.trans (h4.mono h3.size))
  cases hL : longL l with
  | true =>
    rw [hL] at hlo
    obtain ⟨q0, cap0, rfl, _⟩ := hv.shape
    clear hv hL
    go_enter Try.func3, Try.ntmps3
    go_wp2_with fail
    refine (hlo.out).mono ?_
    rintro e w1 ⟨rfl, hb1⟩
    have HB1 := Lib.hid hb1
    clear hb1
    go_wp2_with fail
    refine (haw.out _).mono ?_
    rintro e w2 ⟨rfl, hb2⟩
    have HB2 := Lib.hid (fin.out _ _ HB1.out hb2)
    clear hb2
    go_wp2_with fail
    go_ret
    exact ⟨rfl, HB2.out⟩
  | false =>
    rw [hL] at hlo
    by_cases h1 : 100 < n.length
    · have g1 : decide ((100 : Int) < (n.length : Int)) = true := by simp; omega
      obtain ⟨q0, cap0, rfl, _⟩ := hv.shape
      clear hv hL
      go_enter Try.func3, Try.ntmps3
      go_wp2_with fail
      refine (hlo.out).mono ?_
      rintro e w1 ⟨rfl, hb1⟩
      have HB1 := Lib.hid hb1
      clear hb1
      go_wp2_with fail
      refine (haw.out _).mono ?_
      rintro e w2 ⟨rfl, hb2⟩
      have HB2 := Lib.hid (fin.out _ _ HB1.out hb2)
      clear hb2
      go_wp2_with fail
      go_ret
      exact ⟨rfl, HB2.out⟩
    · have g1 : decide ((100 : Int) < (n.length : Int)) = false := by simp; omega
      have HV := Lib.hid hv
      have hpl : Hid (∀ w1, Below w.heap.size w w1 → Calls Try.prog 13 #[v] w1 fun e w' => ∃ d q n cap, e = .returned (.tuple #[.pointer (some ⟨d, 0, none⟩), .agg #[.slice q n cap, .int .i64 (playD l).fuse, .bool (playD l).down]]) ∧ DiskAt w' (fun i => w1.heap.size ≤ i) d (playD l) ∧ Files w' 0 (.slice q n cap) (playD l).L ∧ Below w1.heap.size w1 w') :=
        Lib.hid (fun w1 hb1 => play_any v l w1 ((hv.below hb1).up hb1.size) hL)
      obtain ⟨q0, cap0, rfl, _⟩ := hv.shape
      obtain ⟨k, hk⟩ : ∃ k, playD l = k := ⟨_, rfl⟩
      rw [hk] at hpl
      have hn1 : n.length ≤ 1000000 := by omega
      clear hv hL h1 hk
      go_enter Try.func3, Try.ntmps3
      go_wp2_with fail
      refine (hlo.out).mono ?_
      rintro e w1 ⟨rfl, hb1⟩
      have HB1 := Lib.hid hb1
      clear hb1
      go_wp2_with fail
      refine (hpl.out _ HB1.out).mono ?_
      rintro e w2 ⟨d, q, m, cap, rfl, hd, hr, hb2⟩
      have HB2 := Lib.hid (fin.out _ _ HB1.out hb2)
      have HD := Lib.hid hd
      have HR := Lib.hid hr
      clear hd hr hb2 HB1
      go_upto_region 6 with fail
      have hd3 := HD.out.alloc (.cells #[.slice q m cap, .int .i64 k.fuse, .bool k.down] 28)
      have hr3 := HR.out.alloc (.cells #[.slice q m cap, .int .i64 k.fuse, .bool k.down] 28)
      have hx3 := Blk.new w2 [.slice q m cap, .int .i64 k.fuse, .bool k.down] 28
      have hb3 := HB2.out.alloc HB2.out.size (.cells #[.slice q m cap, .int .i64 k.fuse, .bool k.down] 28)
      obtain ⟨c, hc⟩ : ∃ c, w2.heap.size = c := ⟨_, rfl⟩
      rw [hc] at hx3
      rw [hc]
      clear HD HR HB2 hc
      generalize w2.alloc (.cells #[.slice q m cap, .int .i64 k.fuse, .bool k.down] 28) = w3 at hd3 hr3 hx3 hb3 ⊢
      have HD := Lib.hid hd3
      have HR := Lib.hid hr3
      have HX := Lib.hid hx3
      have HB3 := Lib.hid hb3
      clear hd3 hr3 hx3 hb3
      go_wp2_with fail
      refine (read_any HD.out n hn1).mono ?_
      rintro e w4 ⟨u, rfl, ho, hd4, hb4⟩
      obtain ⟨X, hX⟩ : ∃ X, readS k n = X := ⟨_, rfl⟩
      obtain ⟨R, hR⟩ : ∃ R, find k n = R := ⟨_, rfl⟩
      rw [hX] at ho
      rw [hR]
      have hX4 := HX.out.below hb4 HX.out.lt
      have hR4 := HR.out.below hb4 (Nat.le_refl _)
      have hok := hd4.ok
      have hrr := read_ref (k := k) hR4 (by have := hok.len; omega) hok.sorted n
      rw [hX, hR] at hrr
      obtain ⟨qu, cu, hu⟩ := ho.len
      obtain ⟨lx, hlx⟩ : ∃ z, X.length = z := ⟨_, rfl⟩
      rw [hlx] at hu
      subst hu
      have y0 := hX4.c 0 rfl
      have y1 := hX4.c 1 rfl
      have y2 := hX4.c 2 rfl
      have HRR := Lib.hid hrr
      have HO := Lib.hid ho
      have HB4 := Lib.hid (fin.out _ _ HB3.out hb4)
      clear hX4 hR4 hok hrr ho hb4 hd4 hX hR hlx HD HR HX HB3
      go_wp2_with fail
      refine (HRR.out).mono ?_
      rintro e w5 ⟨rfl, hb5⟩
      have hcv := (Seen.own (HO.out.below hb5 (Nat.le_refl _))).text
      have HB5 := Lib.hid (fin.out _ _ HB4.out hb5)
      have q1 := text_yes (a := X) rfl
      clear hb5 y0 y1 y2 HB4 HO HRR
      go_wp2_with fail
      refine (haw.out _).mono ?_
      rintro e w6 ⟨rfl, hb6⟩
      have HB6 := Lib.hid (fin.out _ _ HB5.out hb6)
      clear hb6
      go_wp2_with fail
      go_ret
      exact ⟨rfl, HB6.out⟩
end Go.Proofs.Ytfkefppabjbbdaa
