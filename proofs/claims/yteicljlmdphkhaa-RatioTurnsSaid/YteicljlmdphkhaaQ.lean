/- The program's add of two reduced fractions. -/
import Derived.Test.YteicljlmdphkhaaN
import Derived.Test.YteicljlmdphkhaaI
namespace Go.Proofs.Yteicljlmdphkhaa
open Go.RowKit
set_option linter.unusedVariables false
/-- add's own memory. -/
structure AS (W : World) (B : Nat) (n1 d1 n2 d2 : Int) (w : World) : Prop where
  b0 : Blk2 w B (.int .i64 n1) (.int .i64 d1) 23
  b1 : Blk2 w (B + 1) (.int .i64 n2) (.int .i64 d2) 23
  b4 : Blk2 w (B + 1 + 1) (.int .i64 0) (.int .i64 0) 23
  bw : Below B W w
theorem AS.lt {W w : World} {B : Nat} {a b c d : Int} (h : AS W B a b c d w) : B + 1 + 1 < w.heap.size := h.b4.lt
theorem AS.below {W w w' : World} {B : Nat} {a b c d : Int} (h : AS W B a b c d w) (hb : Below w.heap.size w w') : AS W B a b c d w' :=
  have := h.lt
  ⟨h.b0.below hb (by omega), h.b1.below hb (by omega), h.b4.below hb (by omega), h.bw.trans (hb.mono (by omega))⟩
theorem AS.alloc {W w : World} {B : Nat} {a b c d : Int} (h : AS W B a b c d w) (o : Obj) : AS W B a b c d (w.alloc o) :=
  have := h.lt
  ⟨h.b0.alloc o, h.b1.alloc o, h.b4.alloc o, h.bw.alloc (by omega) o⟩
theorem AS.drew {W w : World} {B : Nat} {a b c d : Int} (h : AS W B a b c d w) : AS W B a b c d w.drew := ⟨h.b0, h.b1, h.b4, h.bw.drew⟩
theorem AS.drewN {W w : World} {B : Nat} {a b c d : Int} (h : AS W B a b c d w) (n : Nat) : AS W B a b c d (w.drewN n) := h.below (below_drewN (Below.refl _ _) n)
theorem AS.other {W w : World} {B : Nat} {a b c d : Int} (h : AS W B a b c d w) {p : Addr} (hp : B + 1 + 1 < p.block) (u : Value) : AS W B a b c d (w.setCell p u) :=
  ⟨h.b0.other (by omega) u, h.b1.other (by omega) u, h.b4.other (by omega) u, h.bw.setCell (by omega) u⟩
theorem AS.out {W w : World} {B : Nat} {a b c d : Int} (h : AS W B a b c d w) : (w.cell? ⟨B, 0, none⟩ = some (.int .i64 a) ∧ w.cell? ⟨B, 1, none⟩ = some (.int .i64 b) ∧ w.cell? ⟨B + 1, 0, none⟩ = some (.int .i64 c) ∧ w.cell? ⟨B + 1, 1, none⟩ = some (.int .i64 d) ∧ B + 1 + 1 < w.heap.size) ∧ AS W B a b c d w :=
  ⟨⟨h.b0.c0, h.b0.c1, h.b1.c0, h.b1.c1, h.lt⟩, h⟩
theorem AS.start (w : World) (a b c d : Int) : AS w w.heap.size a b c d (((w.alloc (.cells #[.int .i64 a, .int .i64 b] 23)).alloc (.cells #[.int .i64 c, .int .i64 d] 23)).alloc (.cells #[.int .i64 0, .int .i64 0] 23)) := by
  refine ⟨((Blk2.new w _ _ _).alloc _).alloc _, ?_, ?_, (((Below.refl _ _).alloc (by simp) _).alloc (by simp) _).alloc (by simp <;> omega) _⟩
  · have h := Blk2.new (w.alloc (.cells #[.int .i64 a, .int .i64 b] 23)) (.int .i64 c) (.int .i64 d) 23
    simp at h
    exact h.alloc _
  · have h := Blk2.new ((w.alloc (.cells #[.int .i64 a, .int .i64 b] 23)).alloc (.cells #[.int .i64 c, .int .i64 d] 23)) (.int .i64 0) (.int .i64 0) 23
    simpa using h
theorem quo_cast (x g : Nat) (hx : x < U) : IntKind.u64.wrap ((x : Int) / (g : Int)) = ((x / g : Nat) : Int) := by
  have := Nat.div_le_self x g
  rw [wrapU]; unfold U at hx
  rw [← Int.natCast_ediv]; generalize x / g = z at *; omega

set_option maxRecDepth 100000 in
set_option maxHeartbeats 8000000 in
/-- Up to the two lengths: what add has reckoned ahead of them. -/
theorem add_any (x y c d g y2 y1 num dd n m : Nat) (ok : Bool) (p q : Int) (hx : x < U) (hy : y < U) (hc : c < U) (hd : d < U) (hg : Nat.gcd y d = g) (hgp : 0 < g) (hgU : g < U)
    (h2 : d / g = y2) (h1 : y / g = y1) (h2U : y2 < U) (h1U : y1 < U) (hnum : x * y2 + c * y1 = num) (hnl : num < U * U)
    (hdd : Nat.gcd g (num % g) = dd) (hddp : 0 < dd) (hddU : dd < U) (hdq : d / dd < U) (hn : num / dd = n) (hm : y1 * (d / dd) = m)
    (hok : n < M63 ∧ m < M63 ∧ ok = true ∧ p = n ∧ q = m ∨ ¬ (n < M63 ∧ m < M63) ∧ ok = false ∧ p = 0 ∧ q = 0) (w : World) :
    Calls Try.prog 32 #[.agg #[.int .i64 x, .int .i64 y], .agg #[.int .i64 c, .int .i64 d]] w fun e w' => e = .returned (.tuple #[.agg #[.int .i64 p, .int .i64 q], .bool ok]) ∧ Below w.heap.size w w' := by
  have cx := wrap_cast x hx
  have cy := wrap_cast y hy
  have cc := wrap_cast c hc
  have cd := wrap_cast d hd
  have q2 := quo_cast d g hd
  have q1 := quo_cast y g hy
  have q3 := quo_cast d dd hd
  rw [h2] at q2
  rw [h1] at q1
  obtain ⟨d3, hd3⟩ : ∃ z, d / dd = z := ⟨_, rfl⟩
  rw [hd3] at q3 hdq hm
  have t1 : ((g : Int) == 0) = false := by simp; omega
  have t2 : ((dd : Int) == 0) = false := by simp; omega
  have t1' : ¬ g = 0 := by omega
  have t2' : ¬ dd = 0 := by omega
  have Hx := Lib.hid hx
  have Hy := Lib.hid hy
  have Hc := Lib.hid hc
  have Hd := Lib.hid hd
  have Hg := Lib.hid hg
  have HgU := Lib.hid hgU
  have H2U := Lib.hid h2U
  have H1U := Lib.hid h1U
  have Hnum := Lib.hid hnum
  have Hnl := Lib.hid hnl
  have Hdd := Lib.hid hdd
  have HddU := Lib.hid hddU
  have Hdq := Lib.hid hdq
  have Hn := Lib.hid hn
  have Hm := Lib.hid hm
  have Hok := Lib.hid hok
  have Hgp := Lib.hid hgp
  have Hddp := Lib.hid hddp
  clear hx hy hc hd hg hgU h2U h1U hnum hnl hdd hddU hdq hn hm hok h2 h1 hd3 hgp hddp
  go_enter Try.func32, Try.ntmps32
  go_wp2
  have M := AS.start w x y c d
  generalize World.alloc (World.alloc (World.alloc w _) _) _ = wz at M ⊢
  obtain ⟨c00, c01, f00, f01⟩ := M.b0.all
  obtain ⟨c10, c11, f10, f11⟩ := M.b1.all
  go_quiet (fail)
  go_wp2_with fail
  refine (divisor_any y d Hy.out Hd.out _).mono ?_
  rw [Hg.out]
  rintro e w1 ⟨rfl, hb1⟩
  have M1 := (M.drewN _).below hb1
  clear c00 c01 f00 f01 c10 c11 f10 f11 M hb1
  go_upto_region 3 with fail
  go_cut [9] (fun s9 wx => ∃ k : Nat, s9 = .pointer (some ⟨k, 0, none⟩) ∧ w.heap.size + 1 + 1 < k ∧ k < wx.heap.size ∧ wx.cell? ⟨k, 0, none⟩ = some (.int .u64 (hi num)) ∧ wx.cell? ⟨k, 1, none⟩ = some (.int .u64 (lo num)) ∧ AS w w.heap.size x y c d wx)
  case first =>
    have H0 := M1.out
    go_region_held3 (fun wx => (wx.cell? ⟨w.heap.size, 0, none⟩ = some (.int .i64 x) ∧ wx.cell? ⟨w.heap.size, 1, none⟩ = some (.int .i64 y) ∧ wx.cell? ⟨w.heap.size + 1, 0, none⟩ = some (.int .i64 c) ∧ wx.cell? ⟨w.heap.size + 1, 1, none⟩ = some (.int .i64 d) ∧ w.heap.size + 1 + 1 < wx.heap.size) ∧ AS w w.heap.size x y c d wx)
      ((refine AS.out ?_; repeat (first | exact M1 | refine AS.drew ?_ | refine AS.alloc ?_ _ | refine AS.other ?_ (by simp <;> omega) _ | refine AS.below ?_ (by assumption))))
      (first | (go_at_call_of 25 (Value.int IntKind.u64 (x : Int)); refine (mul_any x y2 Hx.out H2U.out _).mono ?_; rintro e w3 ⟨rfl, hb3⟩; obtain ⟨hc3, hf3⟩ := bcell hb3; have hz3 := hb3.size; (try simp at hz3); (try have z31 : w1.heap.size < w3.heap.size := by omega)) | (go_at_call_of 25 (Value.int IntKind.u64 (c : Int)); refine (mul_any c y1 Hc.out H1U.out _).mono ?_; rintro e w4 ⟨rfl, hb4⟩; obtain ⟨hc4, hf4⟩ := bcell hb4; have hz4 := hb4.size; (try simp at hz4); (try have z41 : w1.heap.size < w4.heap.size := by omega); (try have z42 : w3.heap.size < w4.heap.size := by omega)) | (go_at_call 35; refine (plus_any (x * y2) (c * y1) num _ _ _ _ (UU _ _ Hx.out H2U.out) (UU _ _ Hc.out H1U.out) (by rw [Hnum.out]; exact Nat.mod_eq_of_lt Hnl.out) rfl rfl rfl rfl _).mono ?_; rintro e w5 ⟨rfl, hb5⟩; obtain ⟨hc5, hf5⟩ := bcell hb5; have hz5 := hb5.size; (try simp at hz5); (try have z51 : w1.heap.size < w5.heap.size := by omega); (try have z52 : w3.heap.size < w5.heap.size := by omega); (try have z53 : w4.heap.size < w5.heap.size := by omega)))
    all_goals (go_wp2_with fail)
    all_goals (have hs1 := M1.lt)
    all_goals (go_meet; exact ⟨_, rfl, by first | omega | (simp <;> omega), by first | omega | (simp <;> omega), (by go_simp <;> (refine World.cell?_setCell_same _ _ _ (u := .int .u64 0) ?_; go_simp)), (by go_simp <;> (refine World.cell?_setCell_same _ _ _ (u := .int .u64 0) ?_; go_simp)), (‹_ ∧ AS _ _ _ _ _ _ _›).2⟩)
  case rest =>
    obtain ⟨k, rfl, hk, hkl, k0, k1, M⟩ := hcut
    go_wp2_with fail
    refine (rem64_any num g _ _ rfl rfl Hgp.out HgU.out _).mono ?_
    rintro e w5 ⟨rfl, hb5⟩
    have M5 := M.below hb5
    have k05 := (hb5.cell (p := ⟨k, 0, none⟩) hkl).trans k0
    have k15 := (hb5.cell (p := ⟨k, 1, none⟩) hkl).trans k1
    have hkl5 : k < w5.heap.size := Nat.lt_of_lt_of_le hkl hb5.size
    clear k0 k1 hkl M hb5
    go_wp2_with fail
    refine (divisor_any g (num % g) HgU.out (Nat.lt_trans (Nat.mod_lt _ Hgp.out) HgU.out) _).mono ?_
    rw [Hdd.out]
    rintro e w6 ⟨rfl, hb6⟩
    have M6 := M5.below hb6
    have k06 := (hb6.cell (p := ⟨k, 0, none⟩) hkl5).trans k05
    have k16 := (hb6.cell (p := ⟨k, 1, none⟩) hkl5).trans k15
    have hkl6 : k < w6.heap.size := Nat.lt_of_lt_of_le hkl5 hb6.size
    clear k05 k15 hkl5 M5 hb6
    go_wp2_with fail
    by_cases hnM : n < M63
    · refine (divide_ok num dd _ _ rfl rfl Hddp.out HddU.out (by rw [Hn.out]; exact hnM) _).mono ?_
      rw [Hn.out]
      rintro e w7 ⟨rfl, hb7⟩
      have M7 := M6.below hb7
      clear M6 k06 k16 hkl6 hb7
      go_upto_region 6 with fail
      go_cut [13, 14] (fun s13 s14 wx => (m < M63 ∧ s13 = .int .i64 m ∧ s14 = .bool true ∨ ¬ m < M63 ∧ s13 = .int .i64 0 ∧ s14 = .bool false) ∧ AS w w.heap.size x y c d wx)
      case first =>
        by_cases hmM : m < M63
        · go_region_with (first | (go_at_call 25; refine (mul_any y1 d3 H1U.out Hdq.out _).mono ?_; rw [Hm.out]; rintro e w8 ⟨rfl, hb8⟩; have M8 := M7.drew.below hb8) | (go_at_call 29; refine (divide_ok m 1 _ _ rfl rfl (by decide) (by decide) (by rw [Nat.div_one]; exact hmM) _).mono ?_; rw [Nat.div_one]; rintro e w9 ⟨rfl, hb9⟩; have M9 := M8.below hb9))
          all_goals (go_wp2_with fail)
          all_goals (go_meet; exact ⟨Or.inl ⟨hmM, rfl, rfl⟩, M9⟩)
        · go_region_with (first | (go_at_call 25; refine (mul_any y1 d3 H1U.out Hdq.out _).mono ?_; rw [Hm.out]; rintro e w8 ⟨rfl, hb8⟩; have M8 := M7.drew.below hb8) | (go_at_call 29; refine (divide_no m 1 _ _ rfl rfl (by decide) (by decide) (by rw [Nat.div_one]; omega) _).mono ?_; rintro e w9 ⟨rfl, hb9⟩; have M9 := M8.below hb9))
          all_goals (go_wp2_with fail)
          all_goals (go_meet; exact ⟨Or.inr ⟨hmM, rfl, rfl⟩, M9⟩)
      case rest =>
        obtain ⟨hm, M⟩ := hcut
        obtain ⟨c40, c41, f40, f41⟩ := M.b4.all
        have hs := M.lt
        rcases hm with ⟨hmM, rfl, rfl⟩ | ⟨hmM, rfl, rfl⟩
        · obtain ⟨rfl, rfl, rfl⟩ : ok = true ∧ p = n ∧ q = m := by rcases Hok.out with ⟨_, _, h1, h2, h3⟩ | ⟨h, _⟩; exact ⟨h1, h2, h3⟩; exact absurd ⟨hnM, hmM⟩ h
          go_wp2
          refine bodyPost_ret (v := .tuple #[.agg #[.int .i64 n, .int .i64 m], .bool true]) (by simp [results, Try.results32, go_sem, c40, c41]) rfl ⟨rfl, ?_⟩
          exact (M.bw.setCell (by simp <;> omega) _).setCell (by simp <;> omega) _
        · obtain ⟨rfl, rfl, rfl⟩ : ok = false ∧ p = 0 ∧ q = 0 := by rcases Hok.out with ⟨h1, h2, _⟩ | ⟨_, h1, h2, h3⟩; exact absurd h2 hmM; exact ⟨h1, h2, h3⟩
          go_wp2
          refine bodyPost_ret (v := .tuple #[.agg #[.int .i64 0, .int .i64 0], .bool false]) (by simp [results, Try.results32, go_sem, c40, c41]) rfl ⟨rfl, ?_⟩
          exact (M.bw.setCell (by simp <;> omega) _).setCell (by simp <;> omega) _
    · refine (divide_no num dd _ _ rfl rfl Hddp.out HddU.out (by rw [Hn.out]; omega) _).mono ?_
      rintro e w7 ⟨rfl, hb7⟩
      have M7 := M6.below hb7
      clear M6 k06 k16 hkl6 hb7
      go_upto_region 6 with fail
      go_cut [13, 14] (fun s13 s14 wx => (m < M63 ∧ s13 = .int .i64 m ∧ s14 = .bool true ∨ ¬ m < M63 ∧ s13 = .int .i64 0 ∧ s14 = .bool false) ∧ AS w w.heap.size x y c d wx)
      case first =>
        by_cases hmM : m < M63
        · go_region_with (first | (go_at_call 25; refine (mul_any y1 d3 H1U.out Hdq.out _).mono ?_; rw [Hm.out]; rintro e w8 ⟨rfl, hb8⟩; have M8 := M7.drew.below hb8) | (go_at_call 29; refine (divide_ok m 1 _ _ rfl rfl (by decide) (by decide) (by rw [Nat.div_one]; exact hmM) _).mono ?_; rw [Nat.div_one]; rintro e w9 ⟨rfl, hb9⟩; have M9 := M8.below hb9))
          all_goals (go_wp2_with fail)
          all_goals (go_meet; exact ⟨Or.inl ⟨hmM, rfl, rfl⟩, M9⟩)
        · go_region_with (first | (go_at_call 25; refine (mul_any y1 d3 H1U.out Hdq.out _).mono ?_; rw [Hm.out]; rintro e w8 ⟨rfl, hb8⟩; have M8 := M7.drew.below hb8) | (go_at_call 29; refine (divide_no m 1 _ _ rfl rfl (by decide) (by decide) (by rw [Nat.div_one]; omega) _).mono ?_; rintro e w9 ⟨rfl, hb9⟩; have M9 := M8.below hb9))
          all_goals (go_wp2_with fail)
          all_goals (go_meet; exact ⟨Or.inr ⟨hmM, rfl, rfl⟩, M9⟩)
      case rest =>
        obtain ⟨hm, M⟩ := hcut
        obtain ⟨c40, c41, f40, f41⟩ := M.b4.all
        have hs := M.lt
        rcases hm with ⟨hmM, rfl, rfl⟩ | ⟨hmM, rfl, rfl⟩
        · obtain ⟨rfl, rfl, rfl⟩ : ok = false ∧ p = 0 ∧ q = 0 := by rcases Hok.out with ⟨h1, h2, _⟩ | ⟨_, h1, h2, h3⟩; exact absurd h1 hnM; exact ⟨h1, h2, h3⟩
          go_wp2
          refine bodyPost_ret (v := .tuple #[.agg #[.int .i64 0, .int .i64 0], .bool false]) (by simp [results, Try.results32, go_sem, c40, c41]) rfl ⟨rfl, ?_⟩
          exact (M.bw.setCell (by simp <;> omega) _).setCell (by simp <;> omega) _
        · obtain ⟨rfl, rfl, rfl⟩ : ok = false ∧ p = 0 ∧ q = 0 := by rcases Hok.out with ⟨h1, h2, _⟩ | ⟨_, h1, h2, h3⟩; exact absurd h2 hmM; exact ⟨h1, h2, h3⟩
          go_wp2
          refine bodyPost_ret (v := .tuple #[.agg #[.int .i64 0, .int .i64 0], .bool false]) (by simp [results, Try.results32, go_sem, c40, c41]) rfl ⟨rfl, ?_⟩
          exact (M.bw.setCell (by simp <;> omega) _).setCell (by simp <;> omega) _
end Go.Proofs.Yteicljlmdphkhaa
