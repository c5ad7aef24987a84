/- Unlike payloads have unlike frames; a whole frame ahead is told ahead. -/
import Derived.Test.YtcmceibaaaadoaaLs
import Derived.Test.YtcmceibaaaadoaaLo
namespace Go.Proofs.Ytcmceibaaaadoaa
open Go.RowKit
set_option linter.unusedVariables false
set_option maxRecDepth 100000 in
set_option maxHeartbeats 1000000 in
theorem apart_early (a b c : Nat) (q0 q1 q2 : Option Addr) (c0 c1 c2 : Nat) (w : World) (h : 3000 < a ∨ 3000 < b ∨ 3000 < c) :
    Calls Try.prog 9 #[.slice q0 a c0, .slice q1 b c1, .slice q2 c c2] w fun e w' => e = .returned (.bool true) ∧ Below w.heap.size w w' := by
  by_cases h1 : 3000 < a
  · have d1 : decide ((3000 : Int) < (a : Int)) = true := by simp; omega
    clear h
    go_enter Try.func9, Try.ntmps9
    go_wp2_with fail
    refine (awake_any _).mono ?_
    rintro e w1 ⟨rfl, hb⟩
    go_wp2_with fail
    go_ret
    exact ⟨rfl, hb⟩
  · have d1 : decide ((3000 : Int) < (a : Int)) = false := by simp; omega
    by_cases h2 : 3000 < b
    · have d2 : decide ((3000 : Int) < (b : Int)) = true := by simp; omega
      clear h
      go_enter Try.func9, Try.ntmps9
      go_wp2_with fail
      refine (awake_any _).mono ?_
      rintro e w1 ⟨rfl, hb⟩
      go_wp2_with fail
      go_ret
      exact ⟨rfl, hb⟩
    · have d2 : decide ((3000 : Int) < (b : Int)) = false := by simp; omega
      have d3 : decide ((3000 : Int) < (c : Int)) = true := by simp; omega
      clear h
      go_enter Try.func9, Try.ntmps9
      go_wp2_with fail
      refine (awake_any _).mono ?_
      rintro e w1 ⟨rfl, hb⟩
      go_wp2_with fail
      go_ret
      exact ⟨rfl, hb⟩
theorem allF_end : ∀ (f : Nat) (l : List UInt8), (allF f l).2.1 ≤ l.length
  | 0, l => by simp [allF]
  | f + 1, l => by
    unfold allF
    rcases open_cases l with h | h | ⟨n, h1, h2, h⟩
    · rw [h]; split <;> simp
    · rw [h]; split <;> simp
    · have ih := allF_end f (l.drop (10 + n))
      rw [List.length_drop] at ih
      rw [h]
      split
      · simp
      · simp only [if_true]
        omega
theorem allL_end (l : List UInt8) : (allL l).2.1 ≤ l.length := allF_end _ _
theorem bs_beq {a b : List UInt8} : ((bs a).toList == (bs b).toList) = decide (a = b) := by
  rw [bs_toList, bs_toList]
  by_cases h : a = b <;> simp [h]
set_option maxRecDepth 100000 in
set_option maxHeartbeats 4000000 in
theorem apart_late (v0 v1 v2 : Value) (p q r : List UInt8) (w : World) (hv0 : Seen w w.heap.size v0 p) (hv1 : Seen w w.heap.size v1 q) (hv2 : Seen w w.heap.size v2 r) (h0 : p.length ≤ 3000) (h1 : q.length ≤ 3000) (h2 : r.length ≤ 3000) :
    Calls Try.prog 9 #[v0, v1, v2] w fun e w' => e = .returned (.bool true) ∧ Below w.heap.size w w' := by
  obtain ⟨q0, c0, rfl, _⟩ := hv0.len
  obtain ⟨q1, c1, rfl, _⟩ := hv1.len
  obtain ⟨q2, c2, rfl, _⟩ := hv2.len
  have HV0 := Lib.hid hv0
  have HV1 := Lib.hid hv1
  have HV2 := Lib.hid hv2
  clear hv0 hv1 hv2
  obtain ⟨a, ha⟩ : ∃ n, p.length = n := ⟨_, rfl⟩
  obtain ⟨b, hb⟩ : ∃ n, q.length = n := ⟨_, rfl⟩
  obtain ⟨c, hc⟩ : ∃ n, r.length = n := ⟨_, rfl⟩
  rw [ha] at HV0 h0 ⊢
  rw [hb] at HV1 h1 ⊢
  rw [hc] at HV2 h2 ⊢
  have HA := Lib.hid ha
  have HB := Lib.hid hb
  have HC := Lib.hid hc
  have heq : ∃ t : Bool, ((bs (frameL p)).toList == (bs (frameL q)).toList) = t ∧ ((bs p).toList == (bs q).toList) = t := by
    refine ⟨decide (p = q), ?_, bs_beq⟩
    rw [bs_beq]
    by_cases h : p = q
    · subst h; simp
    · have : ¬ frameL p = frameL q := fun e => h (frame_inj (by omega) (by omega) e)
      simp [h, this]
  have HAL := Lib.hid (all_frame p r (by omega))
  obtain ⟨t, ht1, ht2⟩ := heq
  have HT1 := Lib.hid ht1
  have HT2 := Lib.hid ht2
  clear ha hb hc ht1 ht2
  have d1 : decide ((3000 : Int) < (a : Int)) = false := by simp; omega
  have d2 : decide ((3000 : Int) < (b : Int)) = false := by simp; omega
  have d3 : decide ((3000 : Int) < (c : Int)) = false := by simp; omega
  go_enter Try.func9, Try.ntmps9
  go_wp2_with fail
  refine (awake_any _).mono ?_
  rintro e w1 ⟨rfl, hb1⟩
  have HW0 := Lib.hid ((HV0.out.below hb1 (Nat.le_refl _)).mono hb1.size)
  go_wp2_with fail
  refine (seal_any _ p (by rw [HA.out]; omega) _ HW0.out).mono ?_
  rw [HA.out]
  rintro e w2 ⟨rfl, hr2, hb2⟩
  have bw2 := hb1.trans (hb2.mono hb1.size)
  have HR2 := Lib.hid hr2
  have HW1 := Lib.hid ((HV1.out.below bw2 (Nat.le_refl _)).mono bw2.size)
  clear hr2 hb1 hb2
  go_wp2_with fail
  refine (seal_any _ q (by rw [HB.out]; omega) _ HW1.out).mono ?_
  rw [HB.out]
  rintro e w3 ⟨rfl, hr3, hb3⟩
  have bw3 := bw2.trans (hb3.mono bw2.size)
  have HR3 := Lib.hid hr3
  have HRA := Lib.hid (HR2.out.below hb3 HR2.out.lt)
  have t1 := HRA.out.seen.text
  have t2 := HR3.out.seen.text
  have t3 := (HV0.out.below bw3 (Nat.le_refl _)).text
  have t4 := (HV1.out.below bw3 (Nat.le_refl _)).text
  have HW2 := Lib.hid ((HV2.out.below bw3 (Nat.le_refl _)).mono bw3.size)
  obtain ⟨FA, hFA⟩ : ∃ F, bs (frameL p) = F := ⟨_, rfl⟩
  obtain ⟨FB, hFB⟩ : ∃ F, bs (frameL q) = F := ⟨_, rfl⟩
  obtain ⟨XA, hXA⟩ : ∃ F, bs p = F := ⟨_, rfl⟩
  obtain ⟨XB, hXB⟩ : ∃ F, bs q = F := ⟨_, rfl⟩
  have e1 := HT1.out
  have e2 := HT2.out
  rw [hFA] at t1 e1
  rw [hFB] at t2 e1
  rw [hXA] at t3 e2
  rw [hXB] at t4 e2
  have HXA := Lib.hid hXA
  clear hr3 bw2 hb3 hFA hFB hXA hXB
  go_wp2_with fail
  obtain ⟨L, hL⟩ : ∃ L, (allL r).1 = L := ⟨_, rfl⟩
  obtain ⟨y1, hy1⟩ : ∃ z, (allL r).2.1 = z := ⟨_, rfl⟩
  obtain ⟨y2, hy2⟩ : ∃ z, (allL r).2.2 = z := ⟨_, rfl⟩
  have hal := HAL.out
  rw [hL, hy1, hy2, HA.out] at hal
  have HAL2 := Lib.hid hal
  have hLr : L.length ≤ 3000 := by rw [← hL]; exact Nat.le_trans (allL_len r) (by rw [HC.out]; exact h2)
  refine (all_any _ r (by rw [HC.out]; omega) _ HW2.out).mono ?_
  rw [hL, hy1, hy2]
  have hy9 : y1 ≤ c := by
    rw [← hy1, ← HC.out]
    exact allL_end r
  clear hL hy1 hy2 hal
  rintro e w4 ⟨u4, cs4, rfl, hr4, hb4⟩
  have bw4 := bw3.trans (hb4.mono bw3.size)
  obtain ⟨qa, ca, rfl⟩ := hr4.len
  have HR4 := Lib.hid hr4
  have HRB := Lib.hid (HRA.out.below hb4 HRA.out.lt)
  clear hr4 hb4 bw3 t1 t2 t3 t4
  go_wp2_with (at_builtin; refine wpList_append_seen rfl (.tmp 77) (.tmp 78) rfl w4.heap.size _ [] rfl (own_lit0 w4) w4.heap.size _ (frameL p) rfl (HRB.out.seen.below ((Below.refl w4.heap.size w4).alloc (Nat.le_refl _) _) (Nat.le_refl _)) ?c1 ?c2 w4.heap.size w4 ((Below.refl w4.heap.size w4).alloc (Nat.le_refl _) _) (Nat.le_refl _) ?_)
  case c1 => rw [frameL_len, HA.out]; simp; omega
  case c2 => simp
  intro v5 w5 ho5 hb5
  go_wp2_with (at_builtin; refine wpList_append_seen rfl (.tmp 79) (.tmp 80) rfl w4.heap.size _ _ rfl ho5 w4.heap.size _ r rfl (((HV2.out.below bw4 (Nat.le_refl _)).mono bw4.size).below hb5.out (Nat.le_refl _)) ?g1 ?g2 w4.heap.size w4 hb5.out (Nat.le_refl _) ?_)
  case g1 => rw [frameL_len, HA.out, HC.out]; omega
  case g2 => exact hb5.out.size
  intro v6 w6 ho6 hb6
  have HS6 := Lib.hid (Seen.own ho6)
  have bw6 := bw4.trans (hb6.out.mono bw4.size)
  have HR6 := Lib.hid (HR4.out.below hb6.out (Nat.le_refl _))
  have hl6 : (frameL p ++ r).length ≤ 1000000000 := by rw [List.length_append, frameL_len, HA.out, HC.out]; omega
  have HL6 := Lib.hid hl6
  clear ho5 hb5 ho6 hb6 bw4 hl6
  go_wp2_with fail
  refine (all_any _ (frameL p ++ r) HL6.out _ HS6.out).mono ?_
  rw [HAL2.out]
  simp only
  have hz : ((10 + a + y1 : Nat) : Int) = (y1 : Int) + ((a : Int) + 10) := by omega
  rw [hz]
  clear hz
  rintro e w7 ⟨u7, cs7, rfl, hr7, hb7⟩
  have bw7 := bw6.trans (hb7.mono bw6.size)
  have HR7 := Lib.hid (HR6.out.below hb7 (Nat.le_refl _))
  obtain ⟨qb, cb, rfl⟩ := hr7.len
  rw [List.length_cons] at hr7 ⊢
  have HM7 := Lib.hid hr7
  obtain ⟨g, q', cap', rfl, cg, hog⟩ := hr7.at 0 (by simp)
  rw [List.getElem_cons_zero] at cg hog
  rw [HA.out] at cg hog
  have hcv : ∀ m, (convert 22 9 (.slice q' a cap')).run Try.prog (w7.drewN m) = .ok (.string XA) (w7.drewN m) := fun m => by
    rw [← HXA.out]
    exact ((Seen.own hog).below (below_drewN (Below.refl _ _) m) (Nat.le_refl _)).text
  have hcw : ∀ m, (convert 22 9 (.slice q0 a c0)).run Try.prog (w7.drewN m) = .ok (.string XA) (w7.drewN m) := fun m => by
    rw [← HXA.out]
    exact ((HV0.out.below bw7 (Nat.le_refl _)).below (below_drewN (Below.refl _ _) m) (Nat.le_refl _)).text
  obtain ⟨K, hK⟩ : ∃ K, L.length = K := ⟨_, rfl⟩
  rw [hK] at hLr HR7 HM7 ⊢
  have HK := Lib.hid hK
  clear hr7 hb7 bw6 hog hK
  go_wp2_with fail
  go_quiet (fail)
  have bwz := below_drewN bw7 nq
  have HRz := Lib.hid (HR7.out.below (below_drewN (Below.refl w7.heap.size w7) nq) (Nat.le_refl _))
  have HMz := Lib.hid (HM7.out.below (below_drewN (Below.refl w7.heap.size w7) nq) (Nat.le_refl _))
  clear hcv hcw cg bw7
  generalize w7.drewN nq = wz at bwz HRz HMz ⊢
  go_wp2_with fail
  go_loopw [17] (fun i wr => ∃ k : Nat, k ≤ K ∧ i = .int .i64 k ∧ Below wz.heap.size wz wr) (fun i _ => K - (intOf i).toNat)
  case atStart => exact ⟨0, by omega, rfl, Below.refl _ _⟩
  case round =>
    obtain ⟨k, hk, rfl, hb⟩ := hrel
    by_cases hlt : k < K
    · have hkl : k < L.length := by rw [HK.out]; exact hlt
      obtain ⟨g1, q5, cap5, rfl, c1, ho1⟩ := (HRz.out.below hb (Nat.le_refl _)).at k hkl
      obtain ⟨g2, q6, cap6, hq, c2, ho2⟩ := (HMz.out.below hb (Nat.le_refl _)).at (k + 1) (by simpa using hkl)
      obtain rfl : g = g2 := by cases hq; rfl
      have ep : (p :: L)[k + 1]'(by simpa using hkl) = L[k] := List.getElem_cons_succ ..
      rw [ep] at c2 ho2
      have hcv : ∀ m, (convert 22 9 (.slice q5 L[k].length cap5)).run Try.prog (wr.drewN m) = .ok (.string (bs L[k])) (wr.drewN m) := fun m => ((Seen.own ho1).below (below_drewN (Below.refl _ _) m) (Nat.le_refl _)).text
      have hcw : ∀ m, (convert 22 9 (.slice q6 L[k].length cap6)).run Try.prog (wr.drewN m) = .ok (.string (bs L[k])) (wr.drewN m) := fun m => ((Seen.own ho2).below (below_drewN (Below.refl _ _) m) (Nat.le_refl _)).text
      obtain ⟨m, hm⟩ : ∃ m, L[k].length = m := ⟨_, rfl⟩
      obtain ⟨X, hX⟩ : ∃ X, bs L[k] = X := ⟨_, rfl⟩
      rw [hm] at c1 c2 hcv hcw
      rw [hX] at hcv hcw
      have b1 : (k : Int) < (K : Int) := by omega
      have b2 : (k : Int) + 1 < (K : Int) + 1 := by omega
      clear ho1 ho2 hm hX ep hq
      go_wp2_with fail
      go_quiet (fail)
      go_wp2_with fail
      go_roundw
      case rel => exact ⟨k + 1, by omega, by go_num, below_drewN hb _⟩
      case measure => simp [intOf]; omega
    · obtain rfl : k = K := by omega
      have bwy := bwz.trans (hb.mono bwz.size)
      clear hb bwz
      go_wp2_with fail
      go_ret
      exact ⟨rfl, bwy⟩
theorem law_apart (v0 : Value) (p : List UInt8) (v1 : Value) (q : List UInt8) (v2 : Value) (r : List UInt8) (w : World) (hv0 : Seen w w.heap.size v0 p) (hv1 : Seen w w.heap.size v1 q) (hv2 : Seen w w.heap.size v2 r) :
    Calls Try.prog 9 #[v0, v1, v2] w fun e w' => e = .returned (.bool true) ∧ Below w.heap.size w w' := by
  by_cases h : 3000 < p.length ∨ 3000 < q.length ∨ 3000 < r.length
  · obtain ⟨q0, c0, rfl, _⟩ := hv0.len
    obtain ⟨q1, c1, rfl, _⟩ := hv1.len
    obtain ⟨q2, c2, rfl, _⟩ := hv2.len
    exact apart_early _ _ _ q0 q1 q2 c0 c1 c2 w h
  · exact apart_late v0 v1 v2 p q r w hv0 hv1 hv2 (by omega) (by omega) (by omega)
end Go.Proofs.Ytcmceibaaaadoaa
