/- One alone at the left merged: slices' symMerge. -/
import Derived.Test.YthfhfekneahonaaDoorSb
import Derived.Test.YthfhfekneahonaaDoorSc0
namespace Go.Proofs.YthfhfekneahonaaDoor
open Go.Shelf Go.RowKit Go.Lib Go.Sort
set_option linter.unusedVariables false
set_option maxHeartbeats 4000000 in
set_option maxRecDepth 1000000 in
theorem merge_left (k : Nat) (zE : ∀ w, (Go.sizeOf 24).run Tryd.prog w = .ok k w) (enc : Nat → List Value) (cf : Nat → Nat → Int) (g : Nat) (cb : Array Value) (eg : ∀ args w, (callFunc g args).run Tryd.prog w = .ok (.enter g args) w) (blk off cap : Nat) (d0 : Array Nat) (w0 : World) (R : RowK enc k w0 blk off d0) (N : Nat) (hs0 : d0.size = N) (hcmp : CmpLays Tryd.prog g cb enc k cf blk off d0.size w0) (hsz : N < 4611686018427387904) (a m b : Nat) (d : Array Nat) (w : World) (ham : m = a + 1) (hmb : m < b) (hb : b ≤ N) (hds : d.size = N) (hp : Pre (ltOf cf) a m b d) (S : SWK enc k w0 blk off d w) :
    Calls Tryd.prog 93 #[.slice (some ⟨blk, off, none⟩) N cap, .int .i64 a, .int .i64 m, .int .i64 b, .func (.func g) #[] cb] w fun e w' => e = .returned (.tuple #[]) ∧ ∃ r, PermIn a b d r ∧ SortedIn (prec (ltOf cf)) a b r ∧ SWK enc k w0 blk off r w' := by
  have mixed : Tryd.prog.follows .mixedOrders = true := by kernel_rfl
  have HC : Aside (CmpLays Tryd.prog g cb enc k cf blk off d0.size w0) := hcmp
  have S0 : Aside (SWK enc k w0 blk off d w) := S
  have HP : Hid (Pre (ltOf cf) a m b d) := hp
  clear S hcmp hp
  have r0 : IntKind.i64.wrap ((m : Int) - (a : Int)) = 1 := by rw [IntKind.wrap_i64]; omega
  have hlt0 : a < m := by omega
  have HM : Hid (m = a + 1) := ham
  clear ham
  go_enter Tryd.func93, Tryd.ntmps93
  go_wp2
  go_loopg [10, 11] (b - m) (fun kx vi vj wr => ∃ (i j : Nat), vi = .int .i64 i ∧ vj = .int .i64 j ∧ m ≤ i ∧ i ≤ j ∧ j ≤ b ∧ j - i ≤ kx ∧ Aside (SWK enc k w0 blk off d wr) ∧ Hid (∀ t, m ≤ t → t < i → ltOf cf d[t]! d[a]! = true) ∧ Hid (∀ t, j ≤ t → t < b → ltOf cf d[t]! d[a]! = false))
  case atStart => exact ⟨m, b, rfl, rfl, by omega, by omega, by omega, by omega, S0, (fun t x y => by omega), (fun t x y => by omega)⟩
  case round =>
    clear S0 r0
    obtain ⟨i, j, rfl, rfl, hi, hij, hj, hkx, S1, H1, H2⟩ := hrel
    by_cases hlt : i < j
    · have hltz : (i : Int) < (j : Int) := by omega
      obtain ⟨h, hh⟩ : ∃ h, h = (i + j) / 2 := ⟨_, rfl⟩
      have hih : i ≤ h := by omega
      have hhj : h < j := by omega
      have q3 : ((i : Int) + (j : Int)) / 2 = (h : Int) := by omega
      have HH : Hid (h = (i + j) / 2) := hh
      clear hh
      cases hlv : ltOf cf d[h]! d[a]! with
      | true =>
        have ex0 : ((h : Nat) : Int).toNat = h := by omega
        have px0 : (0 : Int) ≤ ((h : Nat) : Int) := by omega
        have bx0 : ((h : Nat) : Int) < (N : Int) := by omega
        have ey0 : ((a : Nat) : Int).toNat = a := by omega
        have py0 : (0 : Int) ≤ ((a : Nat) : Int) := by omega
        have by0 : ((a : Nat) : Int) < (N : Int) := by omega
        obtain ⟨vx0, hvx0⟩ : ∃ z, z = d[h]! := ⟨_, rfl⟩
        obtain ⟨vy0, hvy0⟩ : ∃ z, z = d[a]! := ⟨_, rfl⟩
        have la0 := S1.out.ld R (by omega) Tryd.prog h (by omega)
        have lb0 := S1.out.ld R (by omega) Tryd.prog a (by omega)
        rw [← hvx0] at la0
        rw [← hvy0] at lb0
        have hc0 := S1.out.cmp HC.out (by omega) vx0 vy0
        have hv0 : cf vx0 vy0 < 0 := by rw [hvx0, hvy0]; exact of_decide_eq_true hlv
        have hd0 : decide (cf vx0 vy0 < 0) = true := decide_eq_true hv0
        clear hvx0 hvy0
        go_wp2_with fail
        go_quiet_grown (first | (go_at_fn g; refine Calls.grown_of (hc0 _ _)))
        have S2 : Aside (SWK enc k w0 blk off d (grow (wr.drewN nq) osq)) := S1.out.grown nq osq
        clear la0 lb0 hc0 S1
        generalize grow (wr.drewN nq) osq = w2 at S2 ⊢
        clear nq osq
        go_wp2
        go_roundg (j - (h + 1))
        case measure => omega
        case rel => exact ⟨h + 1, j, by first | go_num | (congr 1; omega), rfl, by omega, by omega, by omega, by omega, S2, (fun t x y => HP.out.up (s := a) (s' := a) (t := h) (t' := t) (Nat.le_refl _) (Nat.le_refl _) (by omega) x (by omega) (by omega) hlv), H2⟩
      | false =>
        have ex0 : ((h : Nat) : Int).toNat = h := by omega
        have px0 : (0 : Int) ≤ ((h : Nat) : Int) := by omega
        have bx0 : ((h : Nat) : Int) < (N : Int) := by omega
        have ey0 : ((a : Nat) : Int).toNat = a := by omega
        have py0 : (0 : Int) ≤ ((a : Nat) : Int) := by omega
        have by0 : ((a : Nat) : Int) < (N : Int) := by omega
        obtain ⟨vx0, hvx0⟩ : ∃ z, z = d[h]! := ⟨_, rfl⟩
        obtain ⟨vy0, hvy0⟩ : ∃ z, z = d[a]! := ⟨_, rfl⟩
        have la0 := S1.out.ld R (by omega) Tryd.prog h (by omega)
        have lb0 := S1.out.ld R (by omega) Tryd.prog a (by omega)
        rw [← hvx0] at la0
        rw [← hvy0] at lb0
        have hc0 := S1.out.cmp HC.out (by omega) vx0 vy0
        have hv0 : ¬ cf vx0 vy0 < 0 := by rw [hvx0, hvy0]; exact of_decide_eq_false hlv
        have hd0 : decide (cf vx0 vy0 < 0) = false := decide_eq_false hv0
        clear hvx0 hvy0
        go_wp2_with fail
        go_quiet_grown (first | (go_at_fn g; refine Calls.grown_of (hc0 _ _)))
        have S2 : Aside (SWK enc k w0 blk off d (grow (wr.drewN nq) osq)) := S1.out.grown nq osq
        clear la0 lb0 hc0 S1
        generalize grow (wr.drewN nq) osq = w2 at S2 ⊢
        clear nq osq
        go_wp2
        go_roundg (h - i)
        case measure => omega
        case rel => exact ⟨i, h, rfl, rfl, by omega, by omega, by omega, by omega, S2, H1, (fun t x y => HP.out.down (s := a) (s' := a) (t := h) (t' := t) (Nat.le_refl _) (Nat.le_refl _) (by omega) (by omega) x y hlv)⟩
    · have hltz : ¬ (i : Int) < (j : Int) := by omega
      obtain rfl : i = j := by omega
      clear hij hkx
      go_wp2
      have r1 : IntKind.i64.wrap ((i : Int) - 1) = ((i - 1 : Nat) : Int) := by rw [IntKind.wrap_i64]; omega
      go_loopg [13] (i - a) (fun kx vi wr => ∃ (q : Nat) (dk : Array Nat), vi = .int .i64 q ∧ a ≤ q ∧ q ≤ i - 1 ∧ i - 1 - q ≤ kx ∧ dk.size = N ∧ Aside (SWK enc k w0 blk off dk wr) ∧ Hid (Rot d dk a (a + 1) (q + 1)) ∧ Hid (PermIn a b d dk))
      case atStart => exact ⟨a, d, rfl, by omega, by omega, by omega, hds, S1, rot_none_r d a (a + 1) (by omega), permIn_refl d a b⟩
      case round =>
        clear S1
        obtain ⟨q, dk, rfl, haq, hqi, hkx, hdk, S1, HR, HQ⟩ := hrel
        by_cases hqlt : q < i - 1
        · have hqz : (q : Int) < ((i - 1 : Nat) : Int) := by omega
          obtain ⟨p, hp⟩ : ∃ p, p = q + 1 := ⟨_, rfl⟩
          have rp : IntKind.i64.wrap ((q : Int) + 1) = (p : Int) := by rw [IntKind.wrap_i64]; omega
          have hpN : p < N := by omega
          have HPq : Hid (p = q + 1) := hp
          clear hp
          have ex1 : ((q : Nat) : Int).toNat = q := by omega
          have px1 : (0 : Int) ≤ ((q : Nat) : Int) := by omega
          have bx1 : ((q : Nat) : Int) < (N : Int) := by omega
          have ey1 : ((p : Nat) : Int).toNat = p := by omega
          have py1 : (0 : Int) ≤ ((p : Nat) : Int) := by omega
          have by1 : ((p : Nat) : Int) < (N : Int) := by omega
          have S2 : Aside (SWK enc k w0 blk off (swp dk q p) ((wr.drew.setCells blk (off + q * k) (enc dk[p]!)).setCells blk (off + p * k) (enc dk[q]!))) := S1.out.swapped R q p (by omega) (by omega)
          have la1 := S1.out.ld1 R (by omega) Tryd.prog q (by omega)
          have lb1 := S1.out.ld1 R (by omega) Tryd.prog p (by omega)
          have sa1 := S1.out.st1 R (by omega) Tryd.prog q (by omega) dk[p]!
          have sb1 := S1.out.st2 R (by omega) Tryd.prog q p (by omega) (by omega) dk[p]! dk[q]!
          have na1 : (enc dk[q]!).length = k := R.hk _
          have nb1 : (enc dk[p]!).length = k := R.hk _
          generalize enc dk[q]! = cI1 at S2 la1 sb1 na1
          generalize enc dk[p]! = cJ1 at S2 lb1 sa1 sb1 nb1
          clear S1
          go_wp2_with fail
          go_big_region_o
          clear la1 lb1 sa1 sb1
          generalize (wr.drew.setCells blk (off + q * k) cJ1).setCells blk (off + p * k) cI1 = w2 at S2 ⊢
          go_wp2
          go_roundg (i - 1 - (q + 1))
          case measure => omega
          case rel =>
            have hp := HPq.out
            subst hp
            exact ⟨q + 1, swp dk q (q + 1), by first | rfl | go_num | (congr 1; omega), by omega, by omega, Nat.le_refl _, by rw [Go.Sort.size_swp]; exact hdk, S2, rot_step_l HR.out haq (by omega), permIn_trans _ _ _ _ _ HQ.out (swp_permIn _ _ _ _ _ (by omega) (by omega) (by omega) (by omega) (by omega))⟩
        · have hqz : ¬ (q : Int) < ((i - 1 : Nat) : Int) := by omega
          obtain rfl : q = i - 1 := by omega
          go_wp2
          refine bodyPost_ret (v := .tuple #[]) (by simp [results, Tryd.results93, go_sem]) rfl ?_
          have ham := HM.out
          have hR := HR.out
          rw [show i - 1 + 1 = i by omega] at hR
          subst ham
          exact ⟨rfl, dk, HQ.out, merge_one_l HP.out.swo HP.out.x HP.out.r hi hj H1.out H2.out hR, S1.out⟩
end Go.Proofs.YthfhfekneahonaaDoor
