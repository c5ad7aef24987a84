/- Two runs exchanged; a rotation: as slices has them. -/
import Derived.Test.YthfhfekneahonaaDoorSa
import Derived.Test.YthfhfekneahonaaDoorS2
import Derived.Shelf.SlSortCmp.KitK
import Derived.Deep.LoopGhost
import Derived.WalkKit
import Derived.LoopTactic
namespace Go.Proofs.YthfhfekneahonaaDoor
open Go.Shelf Go.RowKit Go.Lib Go.Sort
set_option linter.unusedVariables false
set_option maxHeartbeats 4000000 in
set_option maxRecDepth 1000000 in
theorem swapR_k (k : Nat) (zE : ∀ w, (Go.sizeOf 24).run Tryd.prog w = .ok k w) (enc : Nat → List Value) (g : Nat) (cb : Array Value) (blk off cap a b n : Nat) (d0 d : Array Nat) (w0 w : World) (R : RowK enc k w0 blk off d0) (N : Nat) (hs0 : d0.size = N) (hs : d.size = N) (S : SWK enc k w0 blk off d w) (hab : a + n ≤ b) (hb : b + n ≤ N) (hsz : N < 4611686018427387904) :
    Calls Tryd.prog 121 #[.slice (some ⟨blk, off, none⟩) N cap, .int .i64 a, .int .i64 b, .int .i64 n, .func (.func g) #[] cb] w fun e w' => e = .returned (.tuple #[]) ∧ ∃ r, Chg d r a b n ∧ PermIn a (b + n) d r ∧ SWK enc k w0 blk off r w' := by
  have mixed : Tryd.prog.follows .mixedOrders = true := by kernel_rfl
  have S0 : Aside (SWK enc k w0 blk off d w) := S
  clear S
  go_enter Tryd.func121, Tryd.ntmps121
  go_wp2
  go_loopg [10] n (fun kx vi wr => ∃ (i : Nat) (dk : Array Nat), vi = .int .i64 i ∧ i ≤ n ∧ n - i ≤ kx ∧ dk.size = N ∧ Aside (SWK enc k w0 blk off dk wr) ∧ Hid (Chg d dk a b i) ∧ Hid (PermIn a (b + n) d dk))
  case atStart => exact ⟨0, d, rfl, by omega, by omega, hs, S0, chg_zero d a b, permIn_refl d a (b + n)⟩
  case round =>
    clear S0
    obtain ⟨i, dk, rfl, hi, hkx, hds, S1, HC, HP⟩ := hrel
    by_cases hlt : i < n
    · have hltz : (i : Int) < (n : Int) := by omega
      obtain ⟨p, hp⟩ : ∃ p, p = a + i := ⟨_, rfl⟩
      obtain ⟨q, hq⟩ : ∃ q, q = b + i := ⟨_, rfl⟩
      have rp : IntKind.i64.wrap ((a : Int) + (i : Int)) = (p : Int) := by rw [IntKind.wrap_i64]; omega
      have rq : IntKind.i64.wrap ((b : Int) + (i : Int)) = (q : Int) := by rw [IntKind.wrap_i64]; omega
      have bp : (p : Int) < (N : Int) := by omega
      have bq : (q : Int) < (N : Int) := by omega
      have p0 : (0 : Int) ≤ (p : Int) := by omega
      have q0 : (0 : Int) ≤ (q : Int) := by omega
      have ep : ((p : Int)).toNat = p := by omega
      have eq : ((q : Int)).toNat = q := by omega
      have S2 : Aside (SWK enc k w0 blk off (swp dk p q) ((wr.drew.setCells blk (off + p * k) (enc dk[q]!)).setCells blk (off + q * k) (enc dk[p]!))) := S1.out.swapped R p q (by omega) (by omega)
      have la := S1.out.ld1 R (by omega) Tryd.prog p (by omega)
      have lb := S1.out.ld1 R (by omega) Tryd.prog q (by omega)
      have sa := S1.out.st1 R (by omega) Tryd.prog p (by omega) dk[q]!
      have sb := S1.out.st2 R (by omega) Tryd.prog p q (by omega) (by omega) dk[q]! dk[p]!
      have hpd : p < dk.size := by omega
      have hqd : q < dk.size := by omega
      have HPQ : Hid (p = a + i ∧ q = b + i) := ⟨hp, hq⟩
      clear hp hq
      have na : (enc dk[p]!).length = k := R.hk _
      have nb : (enc dk[q]!).length = k := R.hk _
      generalize enc dk[p]! = cI at S2 la sb na
      generalize enc dk[q]! = cJ at S2 lb sa sb nb
      clear S1
      go_wp2_with fail
      go_big_region_o
      clear la lb sa sb
      generalize (wr.drew.setCells blk (off + p * k) cJ).setCells blk (off + q * k) cI = w2 at S2 ⊢
      go_wp2
      go_roundg (n - (i + 1))
      case measure => omega
      case rel =>
        refine ⟨i + 1, swp dk p q, by first | go_num | (congr 1; omega), by omega, Nat.le_refl _, by rw [size_swp]; exact hds, S2, ?_, ?_⟩
        · obtain ⟨hp, hq⟩ := HPQ.out
          subst hp hq
          exact chg_succ HC.out (by omega) (by omega)
        · exact permIn_trans _ _ _ _ _ HP.out (by obtain ⟨hp, hq⟩ := HPQ.out; exact swp_permIn _ _ _ _ _ (by omega) (by omega) (by omega) (by omega) (by omega))
    · have hltz : ¬ (i : Int) < (n : Int) := by omega
      obtain rfl : i = n := by omega
      go_wp2
      go_end0
      exact ⟨rfl, dk, HC.out, HP.out, S1.out⟩
theorem chg_permIn {a b m n : Nat} {d r : Array Nat} {x y : Nat} (h : PermIn x y d r) (hx : a ≤ x) (hy : y ≤ b) (hb : b ≤ d.size) : PermIn a b d r := permIn_mono d r x y a b hx hy hb h
set_option maxHeartbeats 4000000 in
set_option maxRecDepth 1000000 in
theorem rot_k (k : Nat) (zE : ∀ w, (Go.sizeOf 24).run Tryd.prog w = .ok k w) (enc : Nat → List Value) (g : Nat) (cb : Array Value) (blk off cap a m b : Nat) (d0 d : Array Nat) (w0 w : World) (R : RowK enc k w0 blk off d0) (N : Nat) (hs0 : d0.size = N) (hs : d.size = N) (S : SWK enc k w0 blk off d w) (ham : a < m) (hmb : m < b) (hb : b ≤ N) (hsz : N < 4611686018427387904) :
    Calls Tryd.prog 106 #[.slice (some ⟨blk, off, none⟩) N cap, .int .i64 a, .int .i64 m, .int .i64 b, .func (.func g) #[] cb] w fun e w' => e = .returned (.tuple #[]) ∧ ∃ r, Rot d r a m b ∧ PermIn a b d r ∧ SWK enc k w0 blk off r w' := by
  have e121 : ∀ args w, (callFunc 121 args).run Tryd.prog w = .ok (.enter 121 args) w := enters_of Tryd.func121 (by kernel_rfl) rfl
  have mixed : Tryd.prog.follows .mixedOrders = true := by kernel_rfl
  have S0 : Aside (SWK enc k w0 blk off d w) := S
  have ZE : Aside (∀ w, (Go.sizeOf 24).run Tryd.prog w = .ok k w) := zE
  clear S zE
  have r1 : IntKind.i64.wrap ((m : Int) - (a : Int)) = ((m - a : Nat) : Int) := by rw [IntKind.wrap_i64]; omega
  have r2 : IntKind.i64.wrap ((b : Int) - (m : Int)) = ((b - m : Nat) : Int) := by rw [IntKind.wrap_i64]; omega
  go_enter Tryd.func106, Tryd.ntmps106
  go_wp2
  go_loopg [10, 11] (b - a) (fun kx vi vj wr => ∃ (i j : Nat) (dk : Array Nat), vi = .int .i64 i ∧ vj = .int .i64 j ∧ 1 ≤ i ∧ 1 ≤ j ∧ i ≤ m - a ∧ j ≤ b - m ∧ i + j ≤ kx ∧ dk.size = N ∧ Aside (SWK enc k w0 blk off dk wr) ∧ Hid (∀ r, Rot dk r (m - i) m (m + j) → Rot d r a m b) ∧ Hid (PermIn a b d dk))
  case atStart => exact ⟨m - a, b - m, d, rfl, rfl, by omega, by omega, by omega, by omega, by omega, hs, S0, (by intro r h; rw [show m - (m - a) = a by omega, show m + (b - m) = b by omega] at h; exact h), permIn_refl d a b⟩
  case round =>
    clear S0 r1 r2
    obtain ⟨i, j, dk, rfl, rfl, hi1, hj1, hi, hj, hkx, hds, S1, HR, HP⟩ := hrel
    obtain ⟨p, hp⟩ : ∃ p, p = m - i := ⟨_, rfl⟩
    have rp : IntKind.i64.wrap ((m : Int) - (i : Int)) = (p : Int) := by rw [IntKind.wrap_i64]; omega
    by_cases hij : i = j
    · subst hij
      have C := fun w S => swapR_k k ZE.out enc g cb blk off cap p m i d0 dk w0 w R N hs0 hds S (by omega) (by omega) hsz
      have HPp : Hid (p = m - i) := hp
      clear hp
      go_wp2_with fail
      go_at_call 121
      refine (C _ S1.out).mono ?_
      rintro e w' ⟨rfl, r, hc, hpm, S2⟩
      go_wp2
      go_end0
      have hp := HPp.out
      subst hp
      exact ⟨rfl, r, HR.out r (rot_same (by omega) hc), permIn_trans _ _ _ _ _ HP.out (permIn_mono _ _ _ _ _ _ (by omega) (by omega) (by omega) hpm), S2⟩
    · have hijz : ¬ (i : Int) = (j : Int) := by omega
      by_cases hlt : j < i
      · have hltz : (j : Int) < (i : Int) := by omega
        have C := fun w S => swapR_k k ZE.out enc g cb blk off cap p m j d0 dk w0 w R N hs0 hds S (by omega) (by omega) hsz
        have HPp : Hid (p = m - i) := hp
        clear hp
        go_wp2_with fail
        go_at_call 121
        refine (C _ S1.out).mono ?_
        rintro e w' ⟨rfl, r, hc, hpm, S2⟩
        go_wp2
        have S3 : Aside (SWK enc k w0 blk off r w') := S2
        have hp := HPp.out
        subst hp
        have Hc : Hid (Chg dk r (m - i) m j) := hc
        have Hp2 : Hid (PermIn (m - i) (m + j) dk r) := hpm
        clear S2 hc hpm
        go_roundg (i - j + j)
        case measure => omega
        case rel =>
          refine ⟨i - j, j, r, by first | go_num | (congr 1; omega), rfl, by omega, by omega, by omega, by omega, by omega, Hc.out.1.trans hds, S3, fun q hq => HR.out q (rot_left (by omega) hlt Hc.out hq), permIn_trans _ _ _ _ _ HP.out (permIn_mono _ _ _ _ _ _ (by omega) (by omega) (by omega) Hp2.out)⟩
      · have hltz : ¬ (j : Int) < (i : Int) := by omega
        obtain ⟨q, hq⟩ : ∃ q, q = m + j - i := ⟨_, rfl⟩
        obtain ⟨s, hs'⟩ : ∃ q, q = m + j := ⟨_, rfl⟩
        have rs : IntKind.i64.wrap ((m : Int) + (j : Int)) = (s : Int) := by rw [IntKind.wrap_i64]; omega
        have rq : IntKind.i64.wrap ((s : Int) - (i : Int)) = (q : Int) := by rw [IntKind.wrap_i64]; omega
        have C := fun w S => swapR_k k ZE.out enc g cb blk off cap p q i d0 dk w0 w R N hs0 hds S (by omega) (by omega) hsz
        have HPp : Hid (p = m - i ∧ q = m + j - i ∧ s = m + j) := ⟨hp, hq, hs'⟩
        clear hp hq hs'
        go_wp2_with fail
        go_at_call 121
        refine (C _ S1.out).mono ?_
        rintro e w' ⟨rfl, r, hc, hpm, S2⟩
        go_wp2
        have S3 : Aside (SWK enc k w0 blk off r w') := S2
        obtain ⟨hp, hq, hs'⟩ := HPp.out
        subst hp hq hs'
        have Hc : Hid (Chg dk r (m - i) (m + j - i) i) := hc
        have Hp2 : Hid (PermIn (m - i) (m + j - i + i) dk r) := hpm
        clear S2 hc hpm
        go_roundg (i + (j - i))
        case measure => omega
        case rel =>
          refine ⟨i, j - i, r, rfl, by first | go_num | (congr 1; omega), by omega, by omega, by omega, by omega, by omega, Hc.out.1.trans hds, S3, fun q hq => HR.out q (rot_right (by omega) (by omega) Hc.out hq), permIn_trans _ _ _ _ _ HP.out (permIn_mono _ _ _ _ _ _ (by omega) (by omega) (by omega) Hp2.out)⟩
end Go.Proofs.YthfhfekneahonaaDoor
