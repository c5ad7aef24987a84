/- What bytes begin with is looked at by closures: each of them. -/
import Derived.Test.YtcmceibaaaadoaaD
import Derived.FnLit
import Derived.LoopN
namespace Go.Proofs.Ytcmceibaaaadoaa
open Go.RowKit
set_option linter.unusedVariables false
theorem below_drewN {B : Nat} {a w : World} (h : Below B a w) (n : Nat) : Below B a (w.drewN n) := ⟨h.os, h.tape, h.output, h.size, h.block⟩
theorem getD_at {l : List UInt8} {j : Nat} (h : j < l.length) : l.getD j 0 = l[j] := by rw [List.getD_eq_getElem?_getD, List.getElem?_eq_getElem h]; rfl
set_option maxRecDepth 100000 in
theorem unlike_any (bb : Nat) (v : Value) (l : List UInt8) (hl : l.length ≤ 1000000000) (w : World) (hbb : bb < w.heap.size) (hc : w.cell? ⟨bb, 0, none⟩ = some v) (B : Nat) (hB : B ≤ w.heap.size) (hv : Seen w B v l) :
    Calls Try.prog 25 #[.pointer (some ⟨bb, 0, none⟩)] w fun e w' => e = .returned (.bool (!likeB l)) ∧ Below w.heap.size w w' := by
  obtain ⟨q, cap, rfl, _⟩ := hv.len
  have HV := Lib.hid hv
  have HC := Lib.hid hc
  clear hv hc
  obtain ⟨n, hn⟩ : ∃ n, l.length = n := ⟨_, rfl⟩
  rw [hn] at hl HV HC
  have Hn := Lib.hid hn
  clear hn
  go_enter Try.func25, Try.ntmps25
  go_wp2
  go_loopw [2] (fun i wr => ∃ k : Nat, 3 ≤ k ∧ k ≤ 6 ∧ i = .int .i64 k ∧ Hid (∀ j, 3 ≤ j → j < k → j < l.length ∧ l.getD j 0 = inv (l.getD (j - 3) 0)) ∧ Below w.heap.size w wr) (fun i _ => 6 - (intOf i).toNat)
  case atStart => exact ⟨3, by omega, by omega, rfl, fun j hj => by omega, Below.refl _ _⟩
  case round =>
    obtain ⟨k, hk3, hk, rfl, HA, hb⟩ := hrel
    have cb := hb.cell (p := ⟨bb, 0, none⟩) hbb
    rw [HC.out] at cb
    by_cases hlt : k < 6 ∧ k < n
    · obtain ⟨hk6, hkn⟩ := hlt
      have hSr := HV.out.below hb hB
      have hkl : k < l.length := by rw [Hn.out]; exact hkn
      obtain ⟨ad, rfl, _, c1⟩ := hSr.at k hkl
      obtain ⟨ad', hq, _, c2⟩ := hSr.at (k - 3) (by omega)
      obtain rfl := Option.some.inj hq
      obtain ⟨x, hx⟩ : ∃ x, l[k] = x := ⟨_, rfl⟩
      obtain ⟨y, hy⟩ : ∃ y, l[k - 3] = y := ⟨_, rfl⟩
      rw [hx] at c1
      rw [hy] at c2
      have hxl := x.toNat_lt
      have hyl := y.toNat_lt
      have b1 : (k : Int) < (n : Int) := by omega
      have b2 : (k : Int) - 3 < (n : Int) := by omega
      by_cases he : x = inv y
      · have hE : ((x.toNat : Int) == 255 - (y.toNat : Int)) = true := by rw [he, inv_int]; simp
        have HX : Hid (∀ j, 3 ≤ j → j < k + 1 → j < l.length ∧ l.getD j 0 = inv (l.getD (j - 3) 0)) := by
          intro j h3 hj
          rcases Nat.lt_or_ge j k with h | h
          · exact HA.out j h3 h
          · obtain rfl : j = k := by omega
            exact ⟨hkl, by rw [getD_at hkl, getD_at (show j - 3 < l.length by omega), hx, hy, he]⟩
        clear he hSr hx hy
        go_wp2
        all_goals
          go_quiet (fail)
          go_wp2
          go_roundw
          case rel => exact ⟨k + 1, by omega, by omega, by go_num, HX, below_drewN hb _⟩
          case measure => simp [intOf]; omega
      · have hE : ((x.toNat : Int) == 255 - (y.toNat : Int)) = false := by
          have : x.toNat ≠ (inv y).toNat := fun e => he (UInt8.toNat_inj.1 e)
          rw [inv_nat] at this
          simp; omega
        have HL : Hid (likeB l = false) := like_no (i := k) (by omega) (by omega) hkl (by rw [getD_at hkl, getD_at (show k - 3 < l.length by omega), hx, hy]; exact he)
        clear he hSr hx hy
        go_wp2
        all_goals
          go_quiet (fail)
          go_wp2
          go_ret
          exact ⟨by rw [HL.out]; rfl, below_drewN hb _⟩
    · have HL : Hid (likeB l = true) := (like_iff l).2 (fun i h1 h2 h3 => by
        exact (HA.out i h1 (by rw [Hn.out] at h3; omega)).2)
      go_wp2
      all_goals
        go_ret
        exact ⟨by rw [HL.out]; rfl, hb⟩
set_option maxRecDepth 100000 in
theorem tooLong_any (lb m : Nat) (w : World) (hc : w.cell? ⟨lb, 0, none⟩ = some (.int .i64 m)) :
    Calls Try.prog 26 #[.pointer (some ⟨lb, 0, none⟩)] w fun e w' => e = .returned (.bool (decide (65536 < m))) ∧ w' = w := by
  by_cases h : 65536 < m
  · have h1 : decide ((65536 : Int) < (m : Int)) = true := by simp; omega
    have h2 : decide (65536 < m) = true := by simpa using h
    rw [h2]
    clear h2 h
    go_enter Try.func26, Try.ntmps26
    go_wp2
    go_ret
    exact ⟨rfl, rfl⟩
  · have h1 : decide ((65536 : Int) < (m : Int)) = false := by simp; omega
    have h2 : decide (65536 < m) = false := by simpa using h
    rw [h2]
    clear h2 h
    go_enter Try.func26, Try.ntmps26
    go_wp2
    go_ret
    exact ⟨rfl, rfl⟩
set_option maxRecDepth 100000 in
theorem otherSum_torn (bb sb : Nat) (q : Option Addr) (n cap s : Nat) (hns : n < s) (w : World) (hc : w.cell? ⟨bb, 0, none⟩ = some (.slice q n cap)) (hs : w.cell? ⟨sb, 0, none⟩ = some (.int .i64 s)) :
    Calls Try.prog 27 #[.pointer (some ⟨bb, 0, none⟩), .pointer (some ⟨sb, 0, none⟩)] w fun e w' => e = .returned (.bool false) ∧ Below w.heap.size w w' := by
  have h1 : decide ((s : Int) ≤ (n : Int)) = false := by simp; omega
  have h2 : decide (s ≤ n) = false := by simp; omega
  clear hns
  go_enter Try.func27, Try.ntmps27
  go_wp2_with fail
  go_quiet (fail)
  go_wp2
  go_ret
  exact ⟨rfl, below_drewN (Below.refl _ _) _⟩
set_option maxRecDepth 100000 in
theorem otherSum_any (bb sb : Nat) (ad : Addr) (n cap r : Nat) (l : List UInt8) (hn : l.length = n) (hr : r + 4 ≤ n) (hn9 : n ≤ 1000000000) (w : World) (hc : w.cell? ⟨bb, 0, none⟩ = some (.slice (some ad) n cap)) (hs : w.cell? ⟨sb, 0, none⟩ = some (.int .i64 ((r : Int) + 4))) (B : Nat) (hv : Seen w B (.slice (some ad) n cap) l) :
    Calls Try.prog 27 #[.pointer (some ⟨bb, 0, none⟩), .pointer (some ⟨sb, 0, none⟩)] w fun e w' => e = .returned (.bool (decide (valN ((l.take (r + 4)).drop r) ≠ sumN (l.take r)))) ∧ Below w.heap.size w w' := by
  obtain ⟨_, _, hcc, hcap⟩ := hv.len
  have hcap : n ≤ cap := by cases hcc; omega
  have h1 : decide ((r : Int) + 4 ≤ (n : Int)) = true := by simp; omega
  have h2 : decide (r + 4 ≤ n) = true := by simp; omega
  have h3 : (cap = r) = False := by simp; omega
  have hl4 : (l.take (r + 4)).length = r + 4 := by rw [List.length_take]; omega
  have s1 := (hv.take (r + 4) (by omega)).drop r (by omega)
  have s2 := hv.take r (by omega)
  rw [hl4, Nat.add_sub_cancel_left] at s1
  obtain ⟨L1, e1⟩ : ∃ L, (l.take (r + 4)).drop r = L := ⟨_, rfl⟩
  obtain ⟨L2, e2⟩ : ∃ L, l.take r = L := ⟨_, rfl⟩
  have hL1 : L1.length ≤ 4 := by rw [← e1, List.length_drop, hl4]; omega
  have hL2 : L2.length ≤ 1000000000 := by rw [← e2, List.length_take]; omega
  rw [e1] at s1 ⊢
  rw [e2] at s2 ⊢
  clear e1 e2 hl4
  have cA : ∀ m, Calls Try.prog 24 #[.slice (some (ad.add r)) 4 (cap - r)] (w.drewN m) fun e w'' => e = .returned (.int .u32 (valN L1 : Nat)) ∧ ∃ n, w'' = w.drewN n := fun m => Calls.quiet_of_same (number_any _ L1 B hL1 (w.drewN m) (s1.below (below_drewN (Below.refl _ _) _) (Nat.le_refl _)))
  have cB : ∀ m, Calls Try.prog 19 #[.slice (some ad) r cap] (w.drewN m) fun e w'' => e = .returned (.int .u32 (sumN L2 : Nat)) ∧ ∃ n, w'' = w.drewN n := fun m => Calls.quiet_of_same (sum_any _ L2 B hL2 (w.drewN m) (s2.below (below_drewN (Below.refl _ _) _) (Nat.le_refl _)))
  clear s1 s2 hv hn hcc
  obtain ⟨N1, e1⟩ : ∃ N, valN L1 = N := ⟨_, rfl⟩
  obtain ⟨N2, e2⟩ : ∃ N, sumN L2 = N := ⟨_, rfl⟩
  rw [e1] at cA ⊢
  rw [e2] at cB ⊢
  clear e1 e2
  have hd : Hid (((N1 : Int) != (N2 : Int)) = decide (N1 ≠ N2)) := by
    unfold Hid
    by_cases hN : N1 = N2
    · subst hN; simp
    · have : ((N1 : Int) == (N2 : Int)) = false := by simp; omega
      simp [bne, this, hN]
  go_enter Try.func27, Try.ntmps27
  go_wp2_with fail
  go_quiet (first | with_reducible exact cA _ | with_reducible exact cB _)
  go_wp2
  go_ret
  refine ⟨?_, below_drewN (Below.refl _ _) _⟩
  rw [← hd.out]
  rfl
end Go.Proofs.Ytcmceibaaaadoaa
