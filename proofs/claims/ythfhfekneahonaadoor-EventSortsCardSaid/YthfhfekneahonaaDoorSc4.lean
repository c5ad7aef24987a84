/- Two runs merged, the right one reaching over the middle: slices' symMerge. -/
import Derived.Test.YthfhfekneahonaaDoorSb
import Derived.Test.YthfhfekneahonaaDoorSc0
namespace Go.Proofs.YthfhfekneahonaaDoor
open Go.Shelf Go.RowKit Go.Lib Go.Sort
set_option linter.unusedVariables false
set_option maxHeartbeats 16000000 in
set_option maxRecDepth 1000000 in
theorem merge_low (k : Nat) (zE : ∀ w, (Go.sizeOf 24).run Tryd.prog w = .ok k w) (enc : Nat → List Value) (cf : Nat → Nat → Int) (g : Nat) (cb : Array Value) (eg : ∀ args w, (callFunc g args).run Tryd.prog w = .ok (.enter g args) w) (blk off cap : Nat) (d0 : Array Nat) (w0 : World) (R : RowK enc k w0 blk off d0) (N : Nat) (hs0 : d0.size = N) (hcmp : CmpLays Tryd.prog g cb enc k cf blk off d0.size w0) (hsz : N < 4611686018427387904) (B : Nat) (IH : ∀ (a m b : Nat) (d : Array Nat) (w : World), b - a ≤ B → a < m → m < b → b ≤ N → d.size = N → Pre (ltOf cf) a m b d → SWK enc k w0 blk off d w → Calls Tryd.prog 93 #[.slice (some ⟨blk, off, none⟩) N cap, .int .i64 a, .int .i64 m, .int .i64 b, .func (.func g) #[] cb] w fun e w' => e = .returned (.tuple #[]) ∧ ∃ r, PermIn a b d r ∧ SortedIn (prec (ltOf cf)) a b r ∧ SWK enc k w0 blk off r w') (a m b : Nat) (d : Array Nat) (w : World) (hB : b - a ≤ B + 1) (ham : a + 1 < m) (hmb : m + 1 < b) (hb : b ≤ N) (hds : d.size = N) (hp : Pre (ltOf cf) a m b d) (S : SWK enc k w0 blk off d w) (hmid : m ≤ (a + b) / 2) :
    Calls Tryd.prog 93 #[.slice (some ⟨blk, off, none⟩) N cap, .int .i64 a, .int .i64 m, .int .i64 b, .func (.func g) #[] cb] w fun e w' => e = .returned (.tuple #[]) ∧ ∃ r, PermIn a b d r ∧ SortedIn (prec (ltOf cf)) a b r ∧ SWK enc k w0 blk off r w' := by
  have mixed : Tryd.prog.follows .mixedOrders = true := by kernel_rfl
  have HC : Aside (CmpLays Tryd.prog g cb enc k cf blk off d0.size w0) := hcmp
  have S0 : Aside (SWK enc k w0 blk off d w) := S
  have HP : Hid (Pre (ltOf cf) a m b d) := hp
  clear S hcmp hp
  have ZE : Aside (∀ w, (Go.sizeOf 24).run Tryd.prog w = .ok k w) := zE
  have HIH : Aside _ := IH
  clear IH
  have e93 : ∀ args w, (callFunc 93 args).run Tryd.prog w = .ok (.enter 93 args) w := enters_of Tryd.func93 (by kernel_rfl) rfl
  have e106 : ∀ args w, (callFunc 106 args).run Tryd.prog w = .ok (.enter 106 args) w := enters_of Tryd.func106 (by kernel_rfl) rfl
  obtain ⟨mid, hmd⟩ : ∃ mid, mid = (a + b) / 2 := ⟨_, rfl⟩
  obtain ⟨n, hn⟩ : ∃ n, n = mid + m := ⟨_, rfl⟩
  obtain ⟨p, hpn⟩ : ∃ p, p + 1 = n := ⟨n - 1, by omega⟩
  rw [← hmd] at hmid
  have v1 : IntKind.i64.wrap ((m : Int) - (a : Int)) = ((m - a : Nat) : Int) := by rw [IntKind.wrap_i64]; omega
  have v2 : IntKind.i64.wrap ((b : Int) - (m : Int)) = ((b - m : Nat) : Int) := by rw [IntKind.wrap_i64]; omega
  have v3 : (((m - a : Nat) : Int) == 1) = false := by rw [beq_eq_false_iff_ne]; omega
  have v4 : (((b - m : Nat) : Int) == 1) = false := by rw [beq_eq_false_iff_ne]; omega
  have v5 : ¬ (m - a) = 1 := by omega
  have v6 : ¬ (b - m) = 1 := by omega
  have v7 : ((a : Int) + (b : Int)) / 2 = (mid : Int) := by omega
  have v8 : IntKind.i64.wrap ((mid : Int) + (m : Int)) = (n : Int) := by rw [IntKind.wrap_i64]; omega
  have v9 : IntKind.i64.wrap ((n : Int) - 1) = (p : Int) := by rw [IntKind.wrap_i64]; omega
  have v11 : ¬ (mid : Int) < (m : Int) := by omega
  have w1 : a ≤ a := by omega
  have w2 : a ≤ m := by omega
  have w3 : m ≤ m := by omega
  have w4 : m ≤ mid := by omega
  have w5 : ∀ t, a ≤ t → t < m → m ≤ p - t ∧ p - t < b ∧ t ≤ p := fun t x y => by omega
  have w6 : mid < b := by omega
  have w7 : a < mid := by omega
  have HD : Hid (mid = (a + b) / 2 ∧ n = mid + m ∧ p + 1 = n) := ⟨hmd, hn, hpn⟩
  have W5 : Hid (∀ t, a ≤ t → t < m → m ≤ p - t ∧ p - t < b ∧ t ≤ p) := w5
  have hB2 : Hid (b - a ≤ B + 1) := hB
  have hpB : p < 2 * N := by omega
  clear hmd hn hpn w5 hB
  go_enter Tryd.func93, Tryd.ntmps93
  go_wp2
  go_loopg [20, 21] (m - a) (fun kx vi vj wr => ∃ (i j : Nat), vi = .int .i64 i ∧ vj = .int .i64 j ∧ a ≤ i ∧ i ≤ j ∧ j ≤ m ∧ j - i ≤ kx ∧ Aside (SWK enc k w0 blk off d wr) ∧ Hid (∀ t, a ≤ t → t < i → ltOf cf d[p - t]! d[t]! = false) ∧ Hid (∀ t, j ≤ t → t < m → ltOf cf d[p - t]! d[t]! = true))
  case atStart => exact ⟨a, m, rfl, rfl, by omega, by omega, by omega, by omega, S0, (fun t x y => by omega), (fun t x y => by omega)⟩
  case round =>
    clear S0 v1 v2 v3 v4 v5 v6 v7 v8 v9 v11
    obtain ⟨i, j, rfl, rfl, hi', hij, hj, hkx, S1, H1, H2⟩ := hrel
    by_cases hlt : i < j
    · have hltz : (i : Int) < (j : Int) := by omega
      obtain ⟨h, hh⟩ : ∃ h, h = (i + j) / 2 := ⟨_, rfl⟩
      have hih : i ≤ h := by omega
      have hhj : h < j := by omega
      have q3 : ((i : Int) + (j : Int)) / 2 = (h : Int) := by omega
      obtain ⟨z1, z2, z3⟩ := W5.out h (by omega) (by omega)
      obtain ⟨c, hc⟩ : ∃ c, c = p - h := ⟨_, rfl⟩
      have q4 : IntKind.i64.wrap ((p : Int) - (h : Int)) = (c : Int) := by rw [IntKind.wrap_i64]; omega
      rw [← hc] at z1 z2
      have HH : Hid (h = (i + j) / 2 ∧ c = p - h) := ⟨hh, hc⟩
      clear hh hc
      cases hlv : ltOf cf d[c]! d[h]! with
      | true =>
        have ex0 : ((c : Nat) : Int).toNat = c := by omega
        have px0 : (0 : Int) ≤ ((c : Nat) : Int) := by omega
        have bx0 : ((c : Nat) : Int) < (N : Int) := by omega
        have ey0 : ((h : Nat) : Int).toNat = h := by omega
        have py0 : (0 : Int) ≤ ((h : Nat) : Int) := by omega
        have by0 : ((h : Nat) : Int) < (N : Int) := by omega
        obtain ⟨vx0, hvx0⟩ : ∃ z, z = d[c]! := ⟨_, rfl⟩
        obtain ⟨vy0, hvy0⟩ : ∃ z, z = d[h]! := ⟨_, rfl⟩
        have la0 := S1.out.ld R (by omega) Tryd.prog c (by omega)
        have lb0 := S1.out.ld R (by omega) Tryd.prog h (by omega)
        rw [← hvx0] at la0
        rw [← hvy0] at lb0
        have hc0 := S1.out.cmp HC.out (by omega) vx0 vy0
        have hv0 : cf vx0 vy0 < 0 := by rw [hvx0, hvy0]; exact of_decide_eq_true hlv
        have hd0 : decide (cf vx0 vy0 < 0) = true := decide_eq_true hv0
        clear hvx0 hvy0
        go_wp2_with fail
        go_quiet_grown (first | (go_at_fn g; refine Calls.grown_of (hc0 _ _)))
        have S2 : Aside (SWK enc k w0 blk off d (grow (wr.drewN nq) osq)) := S1.out.grown nq osq
        clear la0 lb0 hc0 S1
        generalize grow (wr.drewN nq) osq = w2 at S2 ⊢
        clear nq osq
        go_wp2
        go_roundg (h - i)
        case measure => omega
        case rel => exact ⟨i, h, rfl, rfl, by omega, by omega, by omega, by omega, S2, H1, (fun t x y => by
          have hc := HH.out.2
          have z := W5.out t (by omega) (by omega)
          exact HP.out.up (s := h) (s' := t) (t := c) (t' := p - t) (by omega) x (by omega) (by omega) (by omega) (by omega) hlv)⟩
      | false =>
        have ex0 : ((c : Nat) : Int).toNat = c := by omega
        have px0 : (0 : Int) ≤ ((c : Nat) : Int) := by omega
        have bx0 : ((c : Nat) : Int) < (N : Int) := by omega
        have ey0 : ((h : Nat) : Int).toNat = h := by omega
        have py0 : (0 : Int) ≤ ((h : Nat) : Int) := by omega
        have by0 : ((h : Nat) : Int) < (N : Int) := by omega
        obtain ⟨vx0, hvx0⟩ : ∃ z, z = d[c]! := ⟨_, rfl⟩
        obtain ⟨vy0, hvy0⟩ : ∃ z, z = d[h]! := ⟨_, rfl⟩
        have la0 := S1.out.ld R (by omega) Tryd.prog c (by omega)
        have lb0 := S1.out.ld R (by omega) Tryd.prog h (by omega)
        rw [← hvx0] at la0
        rw [← hvy0] at lb0
        have hc0 := S1.out.cmp HC.out (by omega) vx0 vy0
        have hv0 : ¬ cf vx0 vy0 < 0 := by rw [hvx0, hvy0]; exact of_decide_eq_false hlv
        have hd0 : decide (cf vx0 vy0 < 0) = false := decide_eq_false hv0
        clear hvx0 hvy0
        go_wp2_with fail
        go_quiet_grown (first | (go_at_fn g; refine Calls.grown_of (hc0 _ _)))
        have S2 : Aside (SWK enc k w0 blk off d (grow (wr.drewN nq) osq)) := S1.out.grown nq osq
        clear la0 lb0 hc0 S1
        generalize grow (wr.drewN nq) osq = w2 at S2 ⊢
        clear nq osq
        go_wp2
        go_roundg (j - (h + 1))
        case measure => omega
        case rel => exact ⟨h + 1, j, by first | go_num | (congr 1; omega), rfl, by omega, by omega, by omega, by omega, S2, (fun t x y => by
          have hc := HH.out.2
          have z := W5.out t (by omega) (by omega)
          exact HP.out.down (s := h) (s' := t) (t := c) (t' := p - t) (by omega) (by omega) (by omega) (by omega) (by omega) (by omega) hlv), H2⟩
    · have hltz : ¬ (i : Int) < (j : Int) := by omega
      obtain rfl : i = j := by omega
      clear hij hkx
      obtain ⟨d1, d2, d3⟩ := HD.out
      obtain ⟨en, hen⟩ : ∃ en, en + i = n := ⟨n - i, by omega⟩
      have q5 : IntKind.i64.wrap ((n : Int) - (i : Int)) = (en : Int) := by rw [IntKind.wrap_i64]; omega
      have x1 : a ≤ i := by omega
      have x2 : i ≤ m := by omega
      have x3 : m ≤ en := by omega
      have x4 : en ≤ b := by omega
      have x5 : i + (en - m) = mid := by omega
      have x6 : i ≤ mid := by omega
      have x7 : mid ≤ en := by omega
      have k1 : a < i → en < b → ltOf cf d[en]! d[i - 1]! = false := fun y z => by
        have := H1.out (i - 1) (by omega) (by omega)
        rw [show p - (i - 1) = en by omega] at this
        exact this
      have k2 : i < m → m < en → ltOf cf d[en - 1]! d[i]! = true := fun y z => by
        have := H2.out i (Nat.le_refl _) (by omega)
        rw [show p - i = en - 1 by omega] at this
        exact this
      have KK : Hid (∀ r, Rot d r i m en → Pre (ltOf cf) a i mid r ∧ Pre (ltOf cf) mid en b r ∧ (∀ s t, a ≤ s → s < mid → mid ≤ t → t < b → prec (ltOf cf) r[t]! r[s]! = false)) := fun r hr => by
        have := HP.out.halves (by omega) x1 x2 x3 x4 hr k1 k2
        rw [x5] at this
        exact this
      have HB3 : Hid (mid - a ≤ B ∧ b - mid ≤ B) := by
        have := hB2.out
        exact ⟨by omega, by omega⟩
      clear k1 k2 H1 H2 hen d1 d2 d3 x5 W5 HD
      by_cases h1 : i < m
      · have h1z : (i : Int) < (m : Int) := by omega
        by_cases h2 : m < en
        · have h2z : (m : Int) < (en : Int) := by omega
          have C := fun w S => rot_k k ZE.out enc g cb blk off cap i m en d0 d w0 w R N hs0 hds S h1 h2 (by omega) hsz
          go_wp2_with fail
          refine (C _ S1.out).mono ?_
          rintro e w3 ⟨rfl, r, hr, hpr, S3⟩
          clear S1 C
          have S1 : Aside (SWK enc k w0 blk off r w3) := S3
          have PR : Hid (PermIn a b d r) := permIn_mono _ _ _ _ _ _ x1 x4 (by omega) hpr
          have K : Hid (Pre (ltOf cf) a i mid r ∧ Pre (ltOf cf) mid en b r ∧ (∀ s t, a ≤ s → s < mid → mid ≤ t → t < b → prec (ltOf cf) r[t]! r[s]! = false)) := KK.out r hr
          clear S3 hr hpr
          by_cases h3 : a < i
          · have h3z : (a : Int) < (i : Int) := by omega
            by_cases h4 : i < mid
            · have h4z : (i : Int) < (mid : Int) := by omega
              go_wp2_with fail
              refine (HIH.out a i mid r _ HB3.out.1 h3 h4 (by omega) (by have := PR.out.1; omega) K.out.1 S1.out).mono ?_
              rintro e w4 ⟨rfl, r2, p2, q2, S4⟩
              clear S1
              have S1 : Aside (SWK enc k w0 blk off r2 w4) := S4
              have P2 : Hid (PermIn a mid r r2) := p2
              have Q2 : Hid (SortedIn (prec (ltOf cf)) a mid r2) := q2
              clear S4 p2 q2
              have K2 : Hid (Pre (ltOf cf) mid en b r2) := K.out.2.1.congr (fun t x y => P2.out.2.1 t (by omega))
              by_cases h5 : mid < en
              · have h5z : (mid : Int) < (en : Int) := by omega
                by_cases h6 : en < b
                · have h6z : (en : Int) < (b : Int) := by omega
                  go_wp2_with fail
                  refine (HIH.out mid en b r2 _ HB3.out.2 h5 h6 hb (by have := P2.out.1; have := PR.out.1; omega) K2.out S1.out).mono ?_
                  rintro e w5 ⟨rfl, r3, p3, q3, S5⟩
                  clear S1
                  have S1 : Aside (SWK enc k w0 blk off r3 w5) := S5
                  have P3 : Hid (PermIn mid b r2 r3) := p3
                  have Q3 : Hid (SortedIn (prec (ltOf cf)) mid b r3) := q3
                  clear S5 p3 q3
                  go_wp2
                  go_end0
                  exact ⟨rfl, _, permIn_trans _ _ _ _ _ PR.out (merged (by have := PR.out.1; omega) (by omega) (by omega) K.out.2.2 P2.out Q2.out P3.out Q3.out).1, (merged (by have := PR.out.1; omega) (by omega) (by omega) K.out.2.2 P2.out Q2.out P3.out Q3.out).2, S1.out⟩
                · have h6z : ¬ (en : Int) < (b : Int) := by omega
                  have P3 : Hid (PermIn mid b r2 r2) := permIn_refl _ _ _
                  have Q3 : Hid (SortedIn (prec (ltOf cf)) mid b r2) := by
                    have h0 : en = b := by omega
                    have := K2.out.l
                    rw [h0] at this
                    exact this
                  go_wp2
                  go_end0
                  exact ⟨rfl, _, permIn_trans _ _ _ _ _ PR.out (merged (by have := PR.out.1; omega) (by omega) (by omega) K.out.2.2 P2.out Q2.out P3.out Q3.out).1, (merged (by have := PR.out.1; omega) (by omega) (by omega) K.out.2.2 P2.out Q2.out P3.out Q3.out).2, S1.out⟩
              · have h5z : ¬ (mid : Int) < (en : Int) := by omega
                have P3 : Hid (PermIn mid b r2 r2) := permIn_refl _ _ _
                have Q3 : Hid (SortedIn (prec (ltOf cf)) mid b r2) := by
                  have h0 : mid = en := by omega
                  have := K2.out.r
                  rw [← h0] at this
                  exact this
                go_wp2
                go_end0
                exact ⟨rfl, _, permIn_trans _ _ _ _ _ PR.out (merged (by have := PR.out.1; omega) (by omega) (by omega) K.out.2.2 P2.out Q2.out P3.out Q3.out).1, (merged (by have := PR.out.1; omega) (by omega) (by omega) K.out.2.2 P2.out Q2.out P3.out Q3.out).2, S1.out⟩
            · have h4z : ¬ (i : Int) < (mid : Int) := by omega
              have P2 : Hid (PermIn a mid r r) := permIn_refl _ _ _
              have Q2 : Hid (SortedIn (prec (ltOf cf)) a mid r) := by
                have h0 : i = mid := by omega
                have := K.out.1.l
                rw [h0] at this
                exact this
              have K2 : Hid (Pre (ltOf cf) mid en b r) := K.out.2.1.congr (fun t x y => P2.out.2.1 t (by omega))
              by_cases h5 : mid < en
              · have h5z : (mid : Int) < (en : Int) := by omega
                by_cases h6 : en < b
                · have h6z : (en : Int) < (b : Int) := by omega
                  go_wp2_with fail
                  refine (HIH.out mid en b r _ HB3.out.2 h5 h6 hb (by have := P2.out.1; have := PR.out.1; omega) K2.out S1.out).mono ?_
                  rintro e w5 ⟨rfl, r3, p3, q3, S5⟩
                  clear S1
                  have S1 : Aside (SWK enc k w0 blk off r3 w5) := S5
                  have P3 : Hid (PermIn mid b r r3) := p3
                  have Q3 : Hid (SortedIn (prec (ltOf cf)) mid b r3) := q3
                  clear S5 p3 q3
                  go_wp2
                  go_end0
                  exact ⟨rfl, _, permIn_trans _ _ _ _ _ PR.out (merged (by have := PR.out.1; omega) (by omega) (by omega) K.out.2.2 P2.out Q2.out P3.out Q3.out).1, (merged (by have := PR.out.1; omega) (by omega) (by omega) K.out.2.2 P2.out Q2.out P3.out Q3.out).2, S1.out⟩
                · have h6z : ¬ (en : Int) < (b : Int) := by omega
                  have P3 : Hid (PermIn mid b r r) := permIn_refl _ _ _
                  have Q3 : Hid (SortedIn (prec (ltOf cf)) mid b r) := by
                    have h0 : en = b := by omega
                    have := K2.out.l
                    rw [h0] at this
                    exact this
                  go_wp2
                  go_end0
                  exact ⟨rfl, _, permIn_trans _ _ _ _ _ PR.out (merged (by have := PR.out.1; omega) (by omega) (by omega) K.out.2.2 P2.out Q2.out P3.out Q3.out).1, (merged (by have := PR.out.1; omega) (by omega) (by omega) K.out.2.2 P2.out Q2.out P3.out Q3.out).2, S1.out⟩
              · have h5z : ¬ (mid : Int) < (en : Int) := by omega
                have P3 : Hid (PermIn mid b r r) := permIn_refl _ _ _
                have Q3 : Hid (SortedIn (prec (ltOf cf)) mid b r) := by
                  have h0 : mid = en := by omega
                  have := K2.out.r
                  rw [← h0] at this
                  exact this
                go_wp2
                go_end0
                exact ⟨rfl, _, permIn_trans _ _ _ _ _ PR.out (merged (by have := PR.out.1; omega) (by omega) (by omega) K.out.2.2 P2.out Q2.out P3.out Q3.out).1, (merged (by have := PR.out.1; omega) (by omega) (by omega) K.out.2.2 P2.out Q2.out P3.out Q3.out).2, S1.out⟩
          · have h3z : ¬ (a : Int) < (i : Int) := by omega
            have P2 : Hid (PermIn a mid r r) := permIn_refl _ _ _
            have Q2 : Hid (SortedIn (prec (ltOf cf)) a mid r) := by
              have h0 : a = i := by omega
              have := K.out.1.r
              rw [← h0] at this
              exact this
            have K2 : Hid (Pre (ltOf cf) mid en b r) := K.out.2.1.congr (fun t x y => P2.out.2.1 t (by omega))
            by_cases h5 : mid < en
            · have h5z : (mid : Int) < (en : Int) := by omega
              by_cases h6 : en < b
              · have h6z : (en : Int) < (b : Int) := by omega
                go_wp2_with fail
                refine (HIH.out mid en b r _ HB3.out.2 h5 h6 hb (by have := P2.out.1; have := PR.out.1; omega) K2.out S1.out).mono ?_
                rintro e w5 ⟨rfl, r3, p3, q3, S5⟩
                clear S1
                have S1 : Aside (SWK enc k w0 blk off r3 w5) := S5
                have P3 : Hid (PermIn mid b r r3) := p3
                have Q3 : Hid (SortedIn (prec (ltOf cf)) mid b r3) := q3
                clear S5 p3 q3
                go_wp2
                go_end0
                exact ⟨rfl, _, permIn_trans _ _ _ _ _ PR.out (merged (by have := PR.out.1; omega) (by omega) (by omega) K.out.2.2 P2.out Q2.out P3.out Q3.out).1, (merged (by have := PR.out.1; omega) (by omega) (by omega) K.out.2.2 P2.out Q2.out P3.out Q3.out).2, S1.out⟩
              · have h6z : ¬ (en : Int) < (b : Int) := by omega
                have P3 : Hid (PermIn mid b r r) := permIn_refl _ _ _
                have Q3 : Hid (SortedIn (prec (ltOf cf)) mid b r) := by
                  have h0 : en = b := by omega
                  have := K2.out.l
                  rw [h0] at this
                  exact this
                go_wp2
                go_end0
                exact ⟨rfl, _, permIn_trans _ _ _ _ _ PR.out (merged (by have := PR.out.1; omega) (by omega) (by omega) K.out.2.2 P2.out Q2.out P3.out Q3.out).1, (merged (by have := PR.out.1; omega) (by omega) (by omega) K.out.2.2 P2.out Q2.out P3.out Q3.out).2, S1.out⟩
            · have h5z : ¬ (mid : Int) < (en : Int) := by omega
              have P3 : Hid (PermIn mid b r r) := permIn_refl _ _ _
              have Q3 : Hid (SortedIn (prec (ltOf cf)) mid b r) := by
                have h0 : mid = en := by omega
                have := K2.out.r
                rw [← h0] at this
                exact this
              go_wp2
              go_end0
              exact ⟨rfl, _, permIn_trans _ _ _ _ _ PR.out (merged (by have := PR.out.1; omega) (by omega) (by omega) K.out.2.2 P2.out Q2.out P3.out Q3.out).1, (merged (by have := PR.out.1; omega) (by omega) (by omega) K.out.2.2 P2.out Q2.out P3.out Q3.out).2, S1.out⟩
        · have h2z : ¬ (m : Int) < (en : Int) := by omega
          have PR : Hid (PermIn a b d d) := permIn_refl _ _ _
          have K : Hid (Pre (ltOf cf) a i mid d ∧ Pre (ltOf cf) mid en b d ∧ (∀ s t, a ≤ s → s < mid → mid ≤ t → t < b → prec (ltOf cf) d[t]! d[s]! = false)) := by
            refine KK.out d ?_
            have h0 : en = m := by omega
            rw [h0]
            exact rot_none_r d i m x2
          by_cases h3 : a < i
          · have h3z : (a : Int) < (i : Int) := by omega
            by_cases h4 : i < mid
            · have h4z : (i : Int) < (mid : Int) := by omega
              go_wp2_with fail
              refine (HIH.out a i mid d _ HB3.out.1 h3 h4 (by omega) (by have := PR.out.1; omega) K.out.1 S1.out).mono ?_
              rintro e w4 ⟨rfl, r2, p2, q2, S4⟩
              clear S1
              have S1 : Aside (SWK enc k w0 blk off r2 w4) := S4
              have P2 : Hid (PermIn a mid d r2) := p2
              have Q2 : Hid (SortedIn (prec (ltOf cf)) a mid r2) := q2
              clear S4 p2 q2
              have K2 : Hid (Pre (ltOf cf) mid en b r2) := K.out.2.1.congr (fun t x y => P2.out.2.1 t (by omega))
              by_cases h5 : mid < en
              · have h5z : (mid : Int) < (en : Int) := by omega
                by_cases h6 : en < b
                · have h6z : (en : Int) < (b : Int) := by omega
                  go_wp2_with fail
                  refine (HIH.out mid en b r2 _ HB3.out.2 h5 h6 hb (by have := P2.out.1; have := PR.out.1; omega) K2.out S1.out).mono ?_
                  rintro e w5 ⟨rfl, r3, p3, q3, S5⟩
                  clear S1
                  have S1 : Aside (SWK enc k w0 blk off r3 w5) := S5
                  have P3 : Hid (PermIn mid b r2 r3) := p3
                  have Q3 : Hid (SortedIn (prec (ltOf cf)) mid b r3) := q3
                  clear S5 p3 q3
                  go_wp2
                  go_end0
                  exact ⟨rfl, _, permIn_trans _ _ _ _ _ PR.out (merged (by have := PR.out.1; omega) (by omega) (by omega) K.out.2.2 P2.out Q2.out P3.out Q3.out).1, (merged (by have := PR.out.1; omega) (by omega) (by omega) K.out.2.2 P2.out Q2.out P3.out Q3.out).2, S1.out⟩
                · have h6z : ¬ (en : Int) < (b : Int) := by omega
                  have P3 : Hid (PermIn mid b r2 r2) := permIn_refl _ _ _
                  have Q3 : Hid (SortedIn (prec (ltOf cf)) mid b r2) := by
                    have h0 : en = b := by omega
                    have := K2.out.l
                    rw [h0] at this
                    exact this
                  go_wp2
                  go_end0
                  exact ⟨rfl, _, permIn_trans _ _ _ _ _ PR.out (merged (by have := PR.out.1; omega) (by omega) (by omega) K.out.2.2 P2.out Q2.out P3.out Q3.out).1, (merged (by have := PR.out.1; omega) (by omega) (by omega) K.out.2.2 P2.out Q2.out P3.out Q3.out).2, S1.out⟩
              · have h5z : ¬ (mid : Int) < (en : Int) := by omega
                have P3 : Hid (PermIn mid b r2 r2) := permIn_refl _ _ _
                have Q3 : Hid (SortedIn (prec (ltOf cf)) mid b r2) := by
                  have h0 : mid = en := by omega
                  have := K2.out.r
                  rw [← h0] at this
                  exact this
                go_wp2
                go_end0
                exact ⟨rfl, _, permIn_trans _ _ _ _ _ PR.out (merged (by have := PR.out.1; omega) (by omega) (by omega) K.out.2.2 P2.out Q2.out P3.out Q3.out).1, (merged (by have := PR.out.1; omega) (by omega) (by omega) K.out.2.2 P2.out Q2.out P3.out Q3.out).2, S1.out⟩
            · have h4z : ¬ (i : Int) < (mid : Int) := by omega
              have P2 : Hid (PermIn a mid d d) := permIn_refl _ _ _
              have Q2 : Hid (SortedIn (prec (ltOf cf)) a mid d) := by
                have h0 : i = mid := by omega
                have := K.out.1.l
                rw [h0] at this
                exact this
              have K2 : Hid (Pre (ltOf cf) mid en b d) := K.out.2.1.congr (fun t x y => P2.out.2.1 t (by omega))
              by_cases h5 : mid < en
              · have h5z : (mid : Int) < (en : Int) := by omega
                by_cases h6 : en < b
                · have h6z : (en : Int) < (b : Int) := by omega
                  go_wp2_with fail
                  refine (HIH.out mid en b d _ HB3.out.2 h5 h6 hb (by have := P2.out.1; have := PR.out.1; omega) K2.out S1.out).mono ?_
                  rintro e w5 ⟨rfl, r3, p3, q3, S5⟩
                  clear S1
                  have S1 : Aside (SWK enc k w0 blk off r3 w5) := S5
                  have P3 : Hid (PermIn mid b d r3) := p3
                  have Q3 : Hid (SortedIn (prec (ltOf cf)) mid b r3) := q3
                  clear S5 p3 q3
                  go_wp2
                  go_end0
                  exact ⟨rfl, _, permIn_trans _ _ _ _ _ PR.out (merged (by have := PR.out.1; omega) (by omega) (by omega) K.out.2.2 P2.out Q2.out P3.out Q3.out).1, (merged (by have := PR.out.1; omega) (by omega) (by omega) K.out.2.2 P2.out Q2.out P3.out Q3.out).2, S1.out⟩
                · have h6z : ¬ (en : Int) < (b : Int) := by omega
                  have P3 : Hid (PermIn mid b d d) := permIn_refl _ _ _
                  have Q3 : Hid (SortedIn (prec (ltOf cf)) mid b d) := by
                    have h0 : en = b := by omega
                    have := K2.out.l
                    rw [h0] at this
                    exact this
                  go_wp2
                  go_end0
                  exact ⟨rfl, _, permIn_trans _ _ _ _ _ PR.out (merged (by have := PR.out.1; omega) (by omega) (by omega) K.out.2.2 P2.out Q2.out P3.out Q3.out).1, (merged (by have := PR.out.1; omega) (by omega) (by omega) K.out.2.2 P2.out Q2.out P3.out Q3.out).2, S1.out⟩
              · have h5z : ¬ (mid : Int) < (en : Int) := by omega
                have P3 : Hid (PermIn mid b d d) := permIn_refl _ _ _
                have Q3 : Hid (SortedIn (prec (ltOf cf)) mid b d) := by
                  have h0 : mid = en := by omega
                  have := K2.out.r
                  rw [← h0] at this
                  exact this
                go_wp2
                go_end0
                exact ⟨rfl, _, permIn_trans _ _ _ _ _ PR.out (merged (by have := PR.out.1; omega) (by omega) (by omega) K.out.2.2 P2.out Q2.out P3.out Q3.out).1, (merged (by have := PR.out.1; omega) (by omega) (by omega) K.out.2.2 P2.out Q2.out P3.out Q3.out).2, S1.out⟩
          · have h3z : ¬ (a : Int) < (i : Int) := by omega
            have P2 : Hid (PermIn a mid d d) := permIn_refl _ _ _
            have Q2 : Hid (SortedIn (prec (ltOf cf)) a mid d) := by
              have h0 : a = i := by omega
              have := K.out.1.r
              rw [← h0] at this
              exact this
            have K2 : Hid (Pre (ltOf cf) mid en b d) := K.out.2.1.congr (fun t x y => P2.out.2.1 t (by omega))
            by_cases h5 : mid < en
            · have h5z : (mid : Int) < (en : Int) := by omega
              by_cases h6 : en < b
              · have h6z : (en : Int) < (b : Int) := by omega
                go_wp2_with fail
                refine (HIH.out mid en b d _ HB3.out.2 h5 h6 hb (by have := P2.out.1; have := PR.out.1; omega) K2.out S1.out).mono ?_
                rintro e w5 ⟨rfl, r3, p3, q3, S5⟩
                clear S1
                have S1 : Aside (SWK enc k w0 blk off r3 w5) := S5
                have P3 : Hid (PermIn mid b d r3) := p3
                have Q3 : Hid (SortedIn (prec (ltOf cf)) mid b r3) := q3
                clear S5 p3 q3
                go_wp2
                go_end0
                exact ⟨rfl, _, permIn_trans _ _ _ _ _ PR.out (merged (by have := PR.out.1; omega) (by omega) (by omega) K.out.2.2 P2.out Q2.out P3.out Q3.out).1, (merged (by have := PR.out.1; omega) (by omega) (by omega) K.out.2.2 P2.out Q2.out P3.out Q3.out).2, S1.out⟩
              · have h6z : ¬ (en : Int) < (b : Int) := by omega
                have P3 : Hid (PermIn mid b d d) := permIn_refl _ _ _
                have Q3 : Hid (SortedIn (prec (ltOf cf)) mid b d) := by
                  have h0 : en = b := by omega
                  have := K2.out.l
                  rw [h0] at this
                  exact this
                go_wp2
                go_end0
                exact ⟨rfl, _, permIn_trans _ _ _ _ _ PR.out (merged (by have := PR.out.1; omega) (by omega) (by omega) K.out.2.2 P2.out Q2.out P3.out Q3.out).1, (merged (by have := PR.out.1; omega) (by omega) (by omega) K.out.2.2 P2.out Q2.out P3.out Q3.out).2, S1.out⟩
            · have h5z : ¬ (mid : Int) < (en : Int) := by omega
              have P3 : Hid (PermIn mid b d d) := permIn_refl _ _ _
              have Q3 : Hid (SortedIn (prec (ltOf cf)) mid b d) := by
                have h0 : mid = en := by omega
                have := K2.out.r
                rw [← h0] at this
                exact this
              go_wp2
              go_end0
              exact ⟨rfl, _, permIn_trans _ _ _ _ _ PR.out (merged (by have := PR.out.1; omega) (by omega) (by omega) K.out.2.2 P2.out Q2.out P3.out Q3.out).1, (merged (by have := PR.out.1; omega) (by omega) (by omega) K.out.2.2 P2.out Q2.out P3.out Q3.out).2, S1.out⟩
      · have h1z : ¬ (i : Int) < (m : Int) := by omega
        have PR : Hid (PermIn a b d d) := permIn_refl _ _ _
        have K : Hid (Pre (ltOf cf) a i mid d ∧ Pre (ltOf cf) mid en b d ∧ (∀ s t, a ≤ s → s < mid → mid ≤ t → t < b → prec (ltOf cf) d[t]! d[s]! = false)) := by
          refine KK.out d ?_
          have h0 : i = m := by omega
          rw [h0]
          exact rot_none_l d m en x3
        by_cases h3 : a < i
        · have h3z : (a : Int) < (i : Int) := by omega
          by_cases h4 : i < mid
          · have h4z : (i : Int) < (mid : Int) := by omega
            go_wp2_with fail
            refine (HIH.out a i mid d _ HB3.out.1 h3 h4 (by omega) (by have := PR.out.1; omega) K.out.1 S1.out).mono ?_
            rintro e w4 ⟨rfl, r2, p2, q2, S4⟩
            clear S1
            have S1 : Aside (SWK enc k w0 blk off r2 w4) := S4
            have P2 : Hid (PermIn a mid d r2) := p2
            have Q2 : Hid (SortedIn (prec (ltOf cf)) a mid r2) := q2
            clear S4 p2 q2
            have K2 : Hid (Pre (ltOf cf) mid en b r2) := K.out.2.1.congr (fun t x y => P2.out.2.1 t (by omega))
            by_cases h5 : mid < en
            · have h5z : (mid : Int) < (en : Int) := by omega
              by_cases h6 : en < b
              · have h6z : (en : Int) < (b : Int) := by omega
                go_wp2_with fail
                refine (HIH.out mid en b r2 _ HB3.out.2 h5 h6 hb (by have := P2.out.1; have := PR.out.1; omega) K2.out S1.out).mono ?_
                rintro e w5 ⟨rfl, r3, p3, q3, S5⟩
                clear S1
                have S1 : Aside (SWK enc k w0 blk off r3 w5) := S5
                have P3 : Hid (PermIn mid b r2 r3) := p3
                have Q3 : Hid (SortedIn (prec (ltOf cf)) mid b r3) := q3
                clear S5 p3 q3
                go_wp2
                go_end0
                exact ⟨rfl, _, permIn_trans _ _ _ _ _ PR.out (merged (by have := PR.out.1; omega) (by omega) (by omega) K.out.2.2 P2.out Q2.out P3.out Q3.out).1, (merged (by have := PR.out.1; omega) (by omega) (by omega) K.out.2.2 P2.out Q2.out P3.out Q3.out).2, S1.out⟩
              · have h6z : ¬ (en : Int) < (b : Int) := by omega
                have P3 : Hid (PermIn mid b r2 r2) := permIn_refl _ _ _
                have Q3 : Hid (SortedIn (prec (ltOf cf)) mid b r2) := by
                  have h0 : en = b := by omega
                  have := K2.out.l
                  rw [h0] at this
                  exact this
                go_wp2
                go_end0
                exact ⟨rfl, _, permIn_trans _ _ _ _ _ PR.out (merged (by have := PR.out.1; omega) (by omega) (by omega) K.out.2.2 P2.out Q2.out P3.out Q3.out).1, (merged (by have := PR.out.1; omega) (by omega) (by omega) K.out.2.2 P2.out Q2.out P3.out Q3.out).2, S1.out⟩
            · have h5z : ¬ (mid : Int) < (en : Int) := by omega
              have P3 : Hid (PermIn mid b r2 r2) := permIn_refl _ _ _
              have Q3 : Hid (SortedIn (prec (ltOf cf)) mid b r2) := by
                have h0 : mid = en := by omega
                have := K2.out.r
                rw [← h0] at this
                exact this
              go_wp2
              go_end0
              exact ⟨rfl, _, permIn_trans _ _ _ _ _ PR.out (merged (by have := PR.out.1; omega) (by omega) (by omega) K.out.2.2 P2.out Q2.out P3.out Q3.out).1, (merged (by have := PR.out.1; omega) (by omega) (by omega) K.out.2.2 P2.out Q2.out P3.out Q3.out).2, S1.out⟩
          · have h4z : ¬ (i : Int) < (mid : Int) := by omega
            have P2 : Hid (PermIn a mid d d) := permIn_refl _ _ _
            have Q2 : Hid (SortedIn (prec (ltOf cf)) a mid d) := by
              have h0 : i = mid := by omega
              have := K.out.1.l
              rw [h0] at this
              exact this
            have K2 : Hid (Pre (ltOf cf) mid en b d) := K.out.2.1.congr (fun t x y => P2.out.2.1 t (by omega))
            by_cases h5 : mid < en
            · have h5z : (mid : Int) < (en : Int) := by omega
              by_cases h6 : en < b
              · have h6z : (en : Int) < (b : Int) := by omega
                go_wp2_with fail
                refine (HIH.out mid en b d _ HB3.out.2 h5 h6 hb (by have := P2.out.1; have := PR.out.1; omega) K2.out S1.out).mono ?_
                rintro e w5 ⟨rfl, r3, p3, q3, S5⟩
                clear S1
                have S1 : Aside (SWK enc k w0 blk off r3 w5) := S5
                have P3 : Hid (PermIn mid b d r3) := p3
                have Q3 : Hid (SortedIn (prec (ltOf cf)) mid b r3) := q3
                clear S5 p3 q3
                go_wp2
                go_end0
                exact ⟨rfl, _, permIn_trans _ _ _ _ _ PR.out (merged (by have := PR.out.1; omega) (by omega) (by omega) K.out.2.2 P2.out Q2.out P3.out Q3.out).1, (merged (by have := PR.out.1; omega) (by omega) (by omega) K.out.2.2 P2.out Q2.out P3.out Q3.out).2, S1.out⟩
              · have h6z : ¬ (en : Int) < (b : Int) := by omega
                have P3 : Hid (PermIn mid b d d) := permIn_refl _ _ _
                have Q3 : Hid (SortedIn (prec (ltOf cf)) mid b d) := by
                  have h0 : en = b := by omega
                  have := K2.out.l
                  rw [h0] at this
                  exact this
                go_wp2
                go_end0
                exact ⟨rfl, _, permIn_trans _ _ _ _ _ PR.out (merged (by have := PR.out.1; omega) (by omega) (by omega) K.out.2.2 P2.out Q2.out P3.out Q3.out).1, (merged (by have := PR.out.1; omega) (by omega) (by omega) K.out.2.2 P2.out Q2.out P3.out Q3.out).2, S1.out⟩
            · have h5z : ¬ (mid : Int) < (en : Int) := by omega
              have P3 : Hid (PermIn mid b d d) := permIn_refl _ _ _
              have Q3 : Hid (SortedIn (prec (ltOf cf)) mid b d) := by
                have h0 : mid = en := by omega
                have := K2.out.r
                rw [← h0] at this
                exact this
              go_wp2
              go_end0
              exact ⟨rfl, _, permIn_trans _ _ _ _ _ PR.out (merged (by have := PR.out.1; omega) (by omega) (by omega) K.out.2.2 P2.out Q2.out P3.out Q3.out).1, (merged (by have := PR.out.1; omega) (by omega) (by omega) K.out.2.2 P2.out Q2.out P3.out Q3.out).2, S1.out⟩
        · have h3z : ¬ (a : Int) < (i : Int) := by omega
          have P2 : Hid (PermIn a mid d d) := permIn_refl _ _ _
          have Q2 : Hid (SortedIn (prec (ltOf cf)) a mid d) := by
            have h0 : a = i := by omega
            have := K.out.1.r
            rw [← h0] at this
            exact this
          have K2 : Hid (Pre (ltOf cf) mid en b d) := K.out.2.1.congr (fun t x y => P2.out.2.1 t (by omega))
          by_cases h5 : mid < en
          · have h5z : (mid : Int) < (en : Int) := by omega
            by_cases h6 : en < b
            · have h6z : (en : Int) < (b : Int) := by omega
              go_wp2_with fail
              refine (HIH.out mid en b d _ HB3.out.2 h5 h6 hb (by have := P2.out.1; have := PR.out.1; omega) K2.out S1.out).mono ?_
              rintro e w5 ⟨rfl, r3, p3, q3, S5⟩
              clear S1
              have S1 : Aside (SWK enc k w0 blk off r3 w5) := S5
              have P3 : Hid (PermIn mid b d r3) := p3
              have Q3 : Hid (SortedIn (prec (ltOf cf)) mid b r3) := q3
              clear S5 p3 q3
              go_wp2
              go_end0
              exact ⟨rfl, _, permIn_trans _ _ _ _ _ PR.out (merged (by have := PR.out.1; omega) (by omega) (by omega) K.out.2.2 P2.out Q2.out P3.out Q3.out).1, (merged (by have := PR.out.1; omega) (by omega) (by omega) K.out.2.2 P2.out Q2.out P3.out Q3.out).2, S1.out⟩
            · have h6z : ¬ (en : Int) < (b : Int) := by omega
              have P3 : Hid (PermIn mid b d d) := permIn_refl _ _ _
              have Q3 : Hid (SortedIn (prec (ltOf cf)) mid b d) := by
                have h0 : en = b := by omega
                have := K2.out.l
                rw [h0] at this
                exact this
              go_wp2
              go_end0
              exact ⟨rfl, _, permIn_trans _ _ _ _ _ PR.out (merged (by have := PR.out.1; omega) (by omega) (by omega) K.out.2.2 P2.out Q2.out P3.out Q3.out).1, (merged (by have := PR.out.1; omega) (by omega) (by omega) K.out.2.2 P2.out Q2.out P3.out Q3.out).2, S1.out⟩
          · have h5z : ¬ (mid : Int) < (en : Int) := by omega
            have P3 : Hid (PermIn mid b d d) := permIn_refl _ _ _
            have Q3 : Hid (SortedIn (prec (ltOf cf)) mid b d) := by
              have h0 : mid = en := by omega
              have := K2.out.r
              rw [← h0] at this
              exact this
            go_wp2
            go_end0
            exact ⟨rfl, _, permIn_trans _ _ _ _ _ PR.out (merged (by have := PR.out.1; omega) (by omega) (by omega) K.out.2.2 P2.out Q2.out P3.out Q3.out).1, (merged (by have := PR.out.1; omega) (by omega) (by omega) K.out.2.2 P2.out Q2.out P3.out Q3.out).2, S1.out⟩
end Go.Proofs.YthfhfekneahonaaDoor
