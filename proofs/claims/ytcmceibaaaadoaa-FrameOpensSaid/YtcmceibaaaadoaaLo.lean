/- What any bytes begin with, and all their frames, are the document's. -/
import Derived.Test.YtcmceibaaaadoaaQ
namespace Go.Proofs.Ytcmceibaaaadoaa
open Go.RowKit
set_option linter.unusedVariables false
theorem allF_len : ∀ (f : Nat) (l : List UInt8), (allF f l).1.length ≤ f
  | 0, l => by simp [allF]
  | f + 1, l => by
    unfold allF
    split
    · simp
    split
    · have := allF_len f (l.drop (openS l).1)
      simp only [List.length_cons]; omega
    · simp
theorem allL_len (l : List UInt8) : (allL l).1.length ≤ l.length := allF_len _ _
set_option maxRecDepth 100000 in
set_option maxHeartbeats 2000000 in
theorem law_opens (v : Value) (l : List UInt8) (w : World) (hv : Seen w w.heap.size v l) :
    Calls Try.prog 4 #[v] w fun e w' => e = .returned (.bool true) ∧ Below w.heap.size w w' := by
  obtain ⟨q, cap, rfl, hcap⟩ := hv.len
  have HV := Lib.hid hv
  clear hv
  obtain ⟨n, hn⟩ : ∃ n, l.length = n := ⟨_, rfl⟩
  rw [hn] at HV hcap ⊢
  have Hn := Lib.hid hn
  clear hn
  by_cases hl : 70000 < n
  · have d1 : decide ((70000 : Int) < (n : Int)) = true := by simp; omega
    clear hl
    go_enter Try.func4, Try.ntmps4
    go_wp2_with fail
    refine (awake_any _).mono ?_
    rintro e w1 ⟨rfl, hb⟩
    go_wp2_with fail
    go_ret
    exact ⟨rfl, hb⟩
  · have d1 : decide ((70000 : Int) < (n : Int)) = false := by simp; omega
    go_enter Try.func4, Try.ntmps4
    go_wp2_with fail
    refine (awake_any _).mono ?_
    rintro e w1 ⟨rfl, hb⟩
    have hv1 := (HV.out.below hb (Nat.le_refl _)).mono hb.size
    have HW1 := Lib.hid hv1
    clear hv1
    have hle : l.length ≤ 1000000000 := by rw [Hn.out]; omega
    have HLE := Lib.hid hle
    clear hle
    go_wp2_with fail
    refine (open_any _ l HLE.out _ HW1.out).mono ?_
    rintro e w2 ⟨u2, rfl, ho2, hb2⟩
    have bw2 := hb.trans (hb2.mono hb.size)
    have ht2 := (HV.out.below bw2 (Nat.le_refl _)).text
    obtain ⟨z1, hz1⟩ : ∃ z, (openS l).1 = z := ⟨_, rfl⟩
    obtain ⟨z2, hz2⟩ : ∃ z, (openS l).2 = z := ⟨_, rfl⟩
    rw [hz1, hz2]
    have HO2 := Lib.hid ho2
    have HZ1 := Lib.hid hz1
    have HZ2 := Lib.hid hz2
    clear hb hb2 ho2 hz1 hz2
    go_wp2_with fail
    refine (ropen_any (bs l) (by rw [bs_size]; exact HLE.out) _).mono ?_
    rw [bs_data, HZ1.out, HZ2.out]
    rintro e w3 ⟨rfl, hb3⟩
    have bw3 := bw2.trans (hb3.mono bw2.size)
    have ho3 := HO2.out.below hb3 (Nat.le_refl _)
    have HO3 := Lib.hid ho3
    have hv3 := (HV.out.below bw3 (Nat.le_refl _)).mono bw3.size
    have HW3 := Lib.hid hv3
    clear ht2 bw2 hb3 ho3 hv3
    go_wp2_with fail
    refine (all_any _ l HLE.out _ HW3.out).mono ?_
    rintro e w4 ⟨u4, cs4, rfl, hr4, hb4⟩
    have bw4 := bw3.trans (hb4.mono bw3.size)
    have ho4 := HO3.out.below hb4 (Nat.le_refl _)
    have HO4 := Lib.hid ho4
    have ht4 := (HV.out.below bw4 (Nat.le_refl _)).text
    obtain ⟨y1, hy1⟩ : ∃ z, (allL l).2.1 = z := ⟨_, rfl⟩
    obtain ⟨y2, hy2⟩ : ∃ z, (allL l).2.2 = z := ⟨_, rfl⟩
    rw [hy1, hy2]
    have HR4 := Lib.hid hr4
    have HY1 := Lib.hid hy1
    have HY2 := Lib.hid hy2
    clear bw3 hb4 ho4 hr4 hy1 hy2
    go_wp2_with fail
    refine (rall_any (bs l) (by rw [bs_size]; exact HLE.out) _).mono ?_
    rw [bs_data, HY1.out, HY2.out]
    rintro e w5 ⟨u5, rfl, ht5, hb5⟩
    have bw5 := bw4.trans (hb5.mono bw4.size)
    have ho5 := HO4.out.below hb5 (Nat.le_refl _)
    have c5 := (Seen.own ho5).text
    have hr5 := HR4.out.below hb5 (Nat.le_refl _)
    have HR5 := Lib.hid hr5
    have HT5 := Lib.hid ht5
    obtain ⟨X, hX⟩ : ∃ X, bs (openP l) = X := ⟨_, rfl⟩
    rw [hX] at c5 ⊢
    clear ht4 bw4 hb5 ho5 hr5 ht5 hX
    go_wp2_with fail
    refine (texts_any u4 u5 (allL l).1 cs4 _ _ (Nat.le_trans (allL_len l) HLE.out) w5 HR5.out HT5.out).mono ?_
    rintro e w6 ⟨rfl, hb6⟩
    have bw6 := bw5.trans (hb6.mono bw5.size)
    clear hb6 c5
    go_wp2_with fail
    go_ret
    exact ⟨rfl, bw6⟩
end Go.Proofs.Ytcmceibaaaadoaa
