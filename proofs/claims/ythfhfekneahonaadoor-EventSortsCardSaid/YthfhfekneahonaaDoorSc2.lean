/- One alone at the right merged: slices' symMerge. -/
import Derived.Test.YthfhfekneahonaaDoorSb
import Derived.Test.YthfhfekneahonaaDoorSc0
namespace Go.Proofs.YthfhfekneahonaaDoor
open Go.Shelf Go.RowKit Go.Lib Go.Sort
set_option linter.unusedVariables false
set_option maxHeartbeats 4000000 in
set_option maxRecDepth 1000000 in
theorem merge_right (k : Nat) (zE : ∀ w, (Go.sizeOf 24).run Tryd.prog w = .ok k w) (enc : Nat → List Value) (cf : Nat → Nat → Int) (g : Nat) (cb : Array Value) (eg : ∀ args w, (callFunc g args).run Tryd.prog w = .ok (.enter g args) w) (blk off cap : Nat) (d0 : Array Nat) (w0 : World) (R : RowK enc k w0 blk off d0) (N : Nat) (hs0 : d0.size = N) (hcmp : CmpLays Tryd.prog g cb enc k cf blk off d0.size w0) (hsz : N < 4611686018427387904) (a m b : Nat) (d : Array Nat) (w : World) (ham : a + 1 < m) (hmb : b = m + 1) (hb : b ≤ N) (hds : d.size = N) (hp : Pre (ltOf cf) a m b d) (S : SWK enc k w0 blk off d w) :
    Calls Tryd.prog 93 #[.slice (some ⟨blk, off, none⟩) N cap, .int .i64 a, .int .i64 m, .int .i64 b, .func (.func g) #[] cb] w fun e w' => e = .returned (.tuple #[]) ∧ ∃ r, PermIn a b d r ∧ SortedIn (prec (ltOf cf)) a b r ∧ SWK enc k w0 blk off r w' := by
  have mixed : Tryd.prog.follows .mixedOrders = true := by kernel_rfl
  have HC : Aside (CmpLays Tryd.prog g cb enc k cf blk off d0.size w0) := hcmp
  have S0 : Aside (SWK enc k w0 blk off d w) := S
  have HP : Hid (Pre (ltOf cf) a m b d) := hp
  clear S hcmp hp
  have rx : ((1 : Int) == 1) = true := rfl
  have r0 : IntKind.i64.wrap ((b : Int) - (m : Int)) = 1 := by rw [IntKind.wrap_i64]; omega
  have r00 : IntKind.i64.wrap ((m : Int) - (a : Int)) = ((m - a : Nat) : Int) := by rw [IntKind.wrap_i64]; omega
  have r01 : (((m - a : Nat) : Int) == 1) = false := by rw [beq_eq_false_iff_ne]; omega
  have r02 : ¬ ((m - a : Nat) : Int) = 1 := by omega
  have r03 : ¬ (m - a) = 1 := by omega
  have hlt0 : m < b := by omega
  have HM : Hid (b = m + 1) := hmb
  clear hmb
  go_enter Tryd.func93, Tryd.ntmps93
  go_wp2
  go_loopg [14, 15] (m - a) (fun kx vi vj wr => ∃ (i j : Nat), vi = .int .i64 i ∧ vj = .int .i64 j ∧ a ≤ i ∧ i ≤ j ∧ j ≤ m ∧ j - i ≤ kx ∧ Aside (SWK enc k w0 blk off d wr) ∧ Hid (∀ t, a ≤ t → t < i → ltOf cf d[m]! d[t]! = false) ∧ Hid (∀ t, j ≤ t → t < m → ltOf cf d[m]! d[t]! = true))
  case atStart => exact ⟨a, m, rfl, rfl, by omega, by omega, by omega, by omega, S0, (fun t x y => by omega), (fun t x y => by omega)⟩
  case round =>
    clear S0 r0 r00 r01 r02 r03 rx
    obtain ⟨i, j, rfl, rfl, hi, hij, hj, hkx, S1, H1, H2⟩ := hrel
    by_cases hlt : i < j
    · have hltz : (i : Int) < (j : Int) := by omega
      obtain ⟨h, hh⟩ : ∃ h, h = (i + j) / 2 := ⟨_, rfl⟩
      have hih : i ≤ h := by omega
      have hhj : h < j := by omega
      have q3 : ((i : Int) + (j : Int)) / 2 = (h : Int) := by omega
      have HH : Hid (h = (i + j) / 2) := hh
      clear hh
      cases hlv : ltOf cf d[m]! d[h]! with
      | true =>
        have ex0 : ((m : Nat) : Int).toNat = m := by omega
        have px0 : (0 : Int) ≤ ((m : Nat) : Int) := by omega
        have bx0 : ((m : Nat) : Int) < (N : Int) := by omega
        have ey0 : ((h : Nat) : Int).toNat = h := by omega
        have py0 : (0 : Int) ≤ ((h : Nat) : Int) := by omega
        have by0 : ((h : Nat) : Int) < (N : Int) := by omega
        obtain ⟨vx0, hvx0⟩ : ∃ z, z = d[m]! := ⟨_, rfl⟩
        obtain ⟨vy0, hvy0⟩ : ∃ z, z = d[h]! := ⟨_, rfl⟩
        have la0 := S1.out.ld R (by omega) Tryd.prog m (by omega)
        have lb0 := S1.out.ld R (by omega) Tryd.prog h (by omega)
        rw [← hvx0] at la0
        rw [← hvy0] at lb0
        have hc0 := S1.out.cmp HC.out (by omega) vx0 vy0
        have hv0 : cf vx0 vy0 < 0 := by rw [hvx0, hvy0]; exact of_decide_eq_true hlv
        have hd0 : decide (cf vx0 vy0 < 0) = true := decide_eq_true hv0
        clear hvx0 hvy0
        go_wp2_with fail
        go_quiet_grown (first | (go_at_fn g; refine Calls.grown_of (hc0 _ _)))
        have S2 : Aside (SWK enc k w0 blk off d (grow (wr.drewN nq) osq)) := S1.out.grown nq osq
        clear la0 lb0 hc0 S1
        generalize grow (wr.drewN nq) osq = w2 at S2 ⊢
        clear nq osq
        go_wp2
        go_roundg (h - i)
        case measure => omega
        case rel => exact ⟨i, h, rfl, rfl, by omega, by omega, by omega, by omega, S2, H1, (fun t x y => HP.out.up (s := h) (s' := t) (t := m) (t' := m) (by omega) (by omega) (by omega) (Nat.le_refl _) (Nat.le_refl _) (by omega) hlv)⟩
      | false =>
        have ex0 : ((m : Nat) : Int).toNat = m := by omega
        have px0 : (0 : Int) ≤ ((m : Nat) : Int) := by omega
        have bx0 : ((m : Nat) : Int) < (N : Int) := by omega
        have ey0 : ((h : Nat) : Int).toNat = h := by omega
        have py0 : (0 : Int) ≤ ((h : Nat) : Int) := by omega
        have by0 : ((h : Nat) : Int) < (N : Int) := by omega
        obtain ⟨vx0, hvx0⟩ : ∃ z, z = d[m]! := ⟨_, rfl⟩
        obtain ⟨vy0, hvy0⟩ : ∃ z, z = d[h]! := ⟨_, rfl⟩
        have la0 := S1.out.ld R (by omega) Tryd.prog m (by omega)
        have lb0 := S1.out.ld R (by omega) Tryd.prog h (by omega)
        rw [← hvx0] at la0
        rw [← hvy0] at lb0
        have hc0 := S1.out.cmp HC.out (by omega) vx0 vy0
        have hv0 : ¬ cf vx0 vy0 < 0 := by rw [hvx0, hvy0]; exact of_decide_eq_false hlv
        have hd0 : decide (cf vx0 vy0 < 0) = false := decide_eq_false hv0
        clear hvx0 hvy0
        go_wp2_with fail
        go_quiet_grown (first | (go_at_fn g; refine Calls.grown_of (hc0 _ _)))
        have S2 : Aside (SWK enc k w0 blk off d (grow (wr.drewN nq) osq)) := S1.out.grown nq osq
        clear la0 lb0 hc0 S1
        generalize grow (wr.drewN nq) osq = w2 at S2 ⊢
        clear nq osq
        go_wp2
        go_roundg (j - (h + 1))
        case measure => omega
        case rel => exact ⟨h + 1, j, by first | go_num | (congr 1; omega), rfl, by omega, by omega, by omega, by omega, S2, (fun t x y => HP.out.down (s := h) (s' := t) (t := m) (t' := m) (by omega) (by omega) (by omega) (Nat.le_refl _) (Nat.le_refl _) (by omega) hlv), H2⟩
    · have hltz : ¬ (i : Int) < (j : Int) := by omega
      obtain rfl : i = j := by omega
      clear hij hkx
      go_wp2
      go_loopg [17] (m - i) (fun kx vi wr => ∃ (q : Nat) (dk : Array Nat), vi = .int .i64 q ∧ i ≤ q ∧ q ≤ m ∧ q - i ≤ kx ∧ dk.size = N ∧ Aside (SWK enc k w0 blk off dk wr) ∧ Hid (Rot d dk q m (m + 1)) ∧ Hid (PermIn a b d dk))
      case atStart => exact ⟨m, d, rfl, by omega, by omega, by omega, hds, S1, rot_none_l d m (m + 1) (by omega), permIn_refl d a b⟩
      case round =>
        clear S1
        obtain ⟨q, dk, rfl, haq, hqi, hkx, hdk, S1, HR, HQ⟩ := hrel
        by_cases hqlt : i < q
        · have hqz : (i : Int) < (q : Int) := by omega
          obtain ⟨p, hp⟩ : ∃ p, p + 1 = q := ⟨q - 1, by omega⟩
          have rp : IntKind.i64.wrap ((q : Int) - 1) = (p : Int) := by rw [IntKind.wrap_i64]; omega
          have hpN : p < N := by omega
          have hip : i ≤ p := by omega
          have HPq : Hid (p + 1 = q) := hp
          clear hp
          have ex1 : ((q : Nat) : Int).toNat = q := by omega
          have px1 : (0 : Int) ≤ ((q : Nat) : Int) := by omega
          have bx1 : ((q : Nat) : Int) < (N : Int) := by omega
          have ey1 : ((p : Nat) : Int).toNat = p := by omega
          have py1 : (0 : Int) ≤ ((p : Nat) : Int) := by omega
          have by1 : ((p : Nat) : Int) < (N : Int) := by omega
          have S2 : Aside (SWK enc k w0 blk off (swp dk q p) ((wr.drew.setCells blk (off + q * k) (enc dk[p]!)).setCells blk (off + p * k) (enc dk[q]!))) := S1.out.swapped R q p (by omega) (by omega)
          have la1 := S1.out.ld1 R (by omega) Tryd.prog q (by omega)
          have lb1 := S1.out.ld1 R (by omega) Tryd.prog p (by omega)
          have sa1 := S1.out.st1 R (by omega) Tryd.prog q (by omega) dk[p]!
          have sb1 := S1.out.st2 R (by omega) Tryd.prog q p (by omega) (by omega) dk[p]! dk[q]!
          have na1 : (enc dk[q]!).length = k := R.hk _
          have nb1 : (enc dk[p]!).length = k := R.hk _
          generalize enc dk[q]! = cI1 at S2 la1 sb1 na1
          generalize enc dk[p]! = cJ1 at S2 lb1 sa1 sb1 nb1
          clear S1
          go_wp2_with fail
          go_big_region_o
          clear la1 lb1 sa1 sb1
          generalize (wr.drew.setCells blk (off + q * k) cJ1).setCells blk (off + p * k) cI1 = w2 at S2 ⊢
          go_wp2
          go_roundg (p - i)
          case measure => have hp := HPq.out; omega
          case rel =>
            have hp := HPq.out
            subst hp
            exact ⟨p, swp dk (p + 1) p, by first | rfl | go_num | (congr 1; omega), by omega, by omega, Nat.le_refl _, by rw [Go.Sort.size_swp]; exact hdk, S2, rot_step_r HR.out (by omega) (by omega), permIn_trans _ _ _ _ _ HQ.out (swp_permIn _ _ _ _ _ (by omega) (by omega) (by omega) (by omega) (by omega))⟩
        · have hqz : ¬ (i : Int) < (q : Int) := by omega
          obtain rfl : q = i := by omega
          go_wp2
          refine bodyPost_ret (v := .tuple #[]) (by simp [results, Tryd.results93, go_sem]) rfl ?_
          have hmb := HM.out
          subst hmb
          exact ⟨rfl, dk, HQ.out, merge_one_r HP.out.swo HP.out.x HP.out.l hi hj H1.out H2.out HR.out, S1.out⟩
end Go.Proofs.YthfhfekneahonaaDoor
