/- The reference's Open. -/
import Derived.Test.YtcmceibaaaadoaaM
namespace Go.Proofs.Ytcmceibaaaadoaa
open Go.RowKit
set_option linter.unusedVariables false
theorem ext_list (s : ByteArray) (a b : Nat) : (s.extract a b).data.toList = (s.data.toList.take b).drop a := by
  rw [ByteArray.data_extract, Array.toList_extract, List.extract_eq_take_drop, List.drop_take]
theorem ext_bs (s : ByteArray) (a b : Nat) : s.extract a b = bs ((s.data.toList.take b).drop a) := by
  rw [← ext_list, data_bs]
set_option maxRecDepth 100000 in
set_option maxHeartbeats 1000000 in
theorem ropen_any (s : ByteArray) (hs : s.size ≤ 1000000000) (w : World) :
    Calls Try.prog 14 #[.string s] w fun e w' => e = .returned (.tuple #[.string (bs (openP s.data.toList)), .int .i64 ((openS s.data.toList).1 : Nat), .int .i64 ((openS s.data.toList).2 : Nat)]) ∧ Below w.heap.size w w' := by
  obtain ⟨l, hl⟩ : ∃ l, s.data.toList = l := ⟨_, rfl⟩
  obtain ⟨n, hn⟩ : ∃ n, s.size = n := ⟨_, rfl⟩
  have hsz : n = l.length := by rw [← hl, ← hn]; simp
  have hget : ∀ (k : Nat) (h : k < s.size) (h2 : k < l.length), s[k] = l[k] := fun k h h2 => by rw [get_data h]; simp [hl]
  have HG := Lib.hid hget
  have HZ := Lib.hid hsz
  have HLL := Lib.hid hl
  rw [hl]
  clear hget hl
  obtain ⟨S, hS⟩ : ∃ S, openS l = S := ⟨_, rfl⟩
  obtain ⟨z, st⟩ := S
  obtain ⟨P, hP⟩ : ∃ P, bs (openP l) = P := ⟨_, rfl⟩
  rw [hS, hP]
  have HS := Lib.hid hS
  have HP := Lib.hid hP
  rw [hn] at hs
  clear hS hP hsz
  go_enter Try.func14, Try.ntmps14
  go_wp2_with fail
  go_loopw [5] (fun i wr => ∃ k : Nat, 3 ≤ k ∧ k ≤ 6 ∧ i = .int .i64 k ∧ Hid (∀ j, 3 ≤ j → j < k → j < l.length ∧ l.getD j 0 = inv (l.getD (j - 3) 0)) ∧ Below w.heap.size w wr) (fun i _ => 6 - (intOf i).toNat)
  case atStart => exact ⟨3, by omega, by omega, rfl, fun j hj => by omega, Below.refl _ _⟩
  case round =>
    obtain ⟨k, hk3, hk, rfl, HA, hb⟩ := hrel
    by_cases hlt : k < 6 ∧ k < n
    · obtain ⟨hk6, hkn⟩ := hlt
      have hkl : k < l.length := by rw [← HZ.out]; exact hkn
      obtain ⟨x, hx⟩ : ∃ x, s[k]'(by rw [hn]; exact hkn) = x := ⟨_, rfl⟩
      obtain ⟨y, hy⟩ : ∃ y, s[k - 3]'(by rw [hn]; omega) = y := ⟨_, rfl⟩
      have hxl := x.toNat_lt
      have hyl := y.toNat_lt
      have hx2 : l[k] = x := by rw [← hx, HG.out k (by omega) hkl]
      have hy2 : l[k - 3]'(by omega) = y := by rw [← hy, HG.out (k - 3) (by omega) (by omega)]
      have b0 : decide ((k : Int) < 6) = true := by simp; omega
      have b1 : (k : Int) < (n : Int) := by omega
      have b2 : (k : Int) - 3 < (n : Int) := by omega
      have b3 : decide ((k : Int) < (n : Int)) = true := by simp; omega
      have b4 : (3 : Int) ≤ (k : Int) := by omega
      by_cases he : x = inv y
      · have hE : ((x.toNat : Int) == 255 - (y.toNat : Int)) = true := by rw [he, inv_int]; simp
        have HX : Hid (∀ j, 3 ≤ j → j < k + 1 → j < l.length ∧ l.getD j 0 = inv (l.getD (j - 3) 0)) := by
          intro j h3 hj
          rcases Nat.lt_or_ge j k with h | h
          · exact HA.out j h3 h
          · obtain rfl : j = k := by omega
            exact ⟨hkl, by rw [getD_at hkl, getD_at (show j - 3 < l.length by omega), hx2, hy2, he]⟩
        clear he hx2 hy2
        go_wp2_with fail
        go_quiet (fail)
        go_wp2_with fail
        go_roundw
        case rel => exact ⟨k + 1, by omega, by omega, by go_num, HX, below_drewN hb _⟩
        case measure => simp [intOf]; omega
      · have hE : ((x.toNat : Int) == 255 - (y.toNat : Int)) = false := by
          have : x.toNat ≠ (inv y).toNat := fun e => he (UInt8.toNat_inj.1 e)
          rw [inv_nat] at this
          simp; omega
        have hL : likeB l = false := like_no (i := k) (by omega) (by omega) hkl (by rw [getD_at hkl, getD_at (show k - 3 < l.length by omega), hx2, hy2]; exact he)
        have HS2 := HS.out
        have HP2 := HP.out
        rw [openP_no (open1 hL) (by decide)] at HP2
        rw [open1 hL] at HS2
        obtain ⟨rfl, rfl⟩ : z = 0 ∧ st = 2 := by cases HS2; exact ⟨rfl, rfl⟩
        obtain rfl : P = ⟨#[]⟩ := HP2.symm
        clear he hx2 hy2 hL HS2 HP2
        go_wp2_with fail
        go_quiet (fail)
        go_wp2_with fail
        go_ret3
        exact ⟨rfl, below_drewN hb _⟩
    · have HL : Hid (likeB l = true) := (like_iff l).2 (fun i h1 h2 h3 => (HA.out i h1 (by rw [← HZ.out] at h3; omega)).2)
      have hx3 : (decide ((k : Int) < 6) = false) ∨ (decide ((k : Int) < 6) = true ∧ decide ((k : Int) < (n : Int)) = false ∧ decide (k < n) = false) := by
        by_cases h6 : k < 6
        · exact .inr ⟨by simp; omega, by simp; omega, by simp; omega⟩
        · exact .inl (by simp; omega)
      clear hlt
      by_cases h3 : n < 3
      · have HS2 := HS.out
        have HP2 := HP.out
        have ho := open2 HL.out (by rw [← HZ.out]; exact h3)
        rw [openP_no ho (by decide)] at HP2
        rw [ho] at HS2
        obtain ⟨rfl, rfl⟩ : z = 0 ∧ st = 1 := by cases HS2; exact ⟨rfl, rfl⟩
        obtain rfl : P = ⟨#[]⟩ := HP2.symm
        have b5 : decide ((n : Int) < 3) = true := by simp; omega
        clear HS2 HP2 ho
        rcases hx3 with b0 | ⟨b0, b3, b4⟩
        all_goals
          go_wp2_with fail
          go_ret3
          exact ⟨rfl, hb⟩
      · have b5 : decide ((n : Int) < 3) = false := by simp; omega
        obtain ⟨T, hT⟩ : ∃ T, s.extract 0 3 = T := ⟨_, rfl⟩
        have hTs : T.size = 3 := by rw [← hT, ByteArray.size_extract, hn]; omega
        have hTd : T.data.toList = l.take 3 := by rw [← hT, ext_list, HLL.out]; simp
        obtain ⟨N, hN⟩ : ∃ N, valN (l.take 3) = N := ⟨_, rfl⟩
        have hNl : N < 16777216 := by rw [← hN]; exact valN_lt 3 _ (by rw [List.length_take, ← HZ.out]; omega)
        have h3' : ¬ l.length < 3 := by rw [← HZ.out]; exact h3
        have HTd := Lib.hid hTd
        have HN := Lib.hid hN
        have H3 := Lib.hid h3'
        clear hTd hN h3'
        by_cases h6 : 65536 < N
        · have HS2 := HS.out
          have HP2 := HP.out
          have ho := open3 HL.out H3.out (by rw [HN.out]; exact h6)
          rw [openP_no ho (by decide)] at HP2
          rw [ho] at HS2
          obtain ⟨rfl, rfl⟩ : z = 0 ∧ st = 2 := by cases HS2; exact ⟨rfl, rfl⟩
          obtain rfl : P = ⟨#[]⟩ := HP2.symm
          have b6 : decide ((65536 : Int) < (N : Int)) = true := by simp; omega
          clear HS2 HP2 ho
          rcases hx3 with b0 | ⟨b0, b3, b4⟩
          all_goals
            go_wp2_with fail
            refine (rvalue_any T (by omega) _).mono ?_
            rw [HTd.out, HN.out]
            rintro e w1 ⟨rfl, rfl⟩
            go_wp2_with fail
            go_ret3
            exact ⟨rfl, hb⟩
        · have b6 : decide ((65536 : Int) < (N : Int)) = false := by simp; omega
          by_cases h7 : n < 10 + N
          · have HS2 := HS.out
            have HP2 := HP.out
            have ho := open4 HL.out H3.out HN.out h6 (by rw [← HZ.out]; exact h7)
            rw [openP_no ho (by decide)] at HP2
            rw [ho] at HS2
            obtain ⟨rfl, rfl⟩ : z = 0 ∧ st = 1 := by cases HS2; exact ⟨rfl, rfl⟩
            obtain rfl : P = ⟨#[]⟩ := HP2.symm
            have b7 : decide ((n : Int) < 10 + (N : Int)) = true := by simp; omega
            clear HS2 HP2 ho
            rcases hx3 with b0 | ⟨b0, b3, b4⟩
            all_goals
              go_wp2_with fail
              refine (rvalue_any T (by omega) _).mono ?_
              rw [HTd.out, HN.out]
              rintro e w1 ⟨rfl, rfl⟩
              go_wp2_with fail
              go_ret3
              exact ⟨rfl, hb⟩
          · have b7 : decide ((n : Int) < 10 + (N : Int)) = false := by simp; omega
            have b8 : (6 : Int) + (N : Int) ≤ (n : Int) := by omega
            have b9 : (10 : Int) + (N : Int) ≤ (n : Int) := by omega
            have hz1 : ((l.take (10 + N)).drop (6 + N)).length = 4 := by rw [List.length_drop, List.length_take, ← HZ.out]; omega
            obtain ⟨U, hU⟩ : ∃ U, s.extract (6 + N) (10 + N) = U := ⟨_, rfl⟩
            obtain ⟨V, hV⟩ : ∃ V, s.extract 0 (6 + N) = V := ⟨_, rfl⟩
            have hUd : U.data.toList = (l.take (10 + N)).drop (6 + N) := by rw [← hU, ext_list, HLL.out]
            have hVd : V.data.toList = l.take (6 + N) := by rw [← hV, ext_list, HLL.out]; simp
            have hUs : U.size ≤ 4 := by rw [← hU, ByteArray.size_extract, hn]; omega
            have hVs : V.size ≤ 4000000000 := by rw [← hV, ByteArray.size_extract, hn]; omega
            obtain ⟨N1, e1⟩ : ∃ X, valN ((l.take (10 + N)).drop (6 + N)) = X := ⟨_, rfl⟩
            obtain ⟨N2, e2⟩ : ∃ X, sumN (l.take (6 + N)) = X := ⟨_, rfl⟩
            have cA : ∀ (w : World) (m : Nat), Calls Try.prog 23 #[.string U] (w.drewN m) fun e w'' => e = .returned (.int .i64 (N1 : Nat)) ∧ ∃ n, w'' = w.drewN n := fun w m => Calls.quiet_of_same (by have := rvalue_any U hUs (w.drewN m); rw [hUd, e1] at this; exact this)
            have cB : ∀ (w : World) (m : Nat), Calls Try.prog 21 #[.string V] (w.drewN m) fun e w'' => e = .returned (.int .i64 (N2 : Nat)) ∧ ∃ n, w'' = w.drewN n := fun w m => Calls.quiet_of_same (by have := rsum_any V hVs (w.drewN m); rw [hVd, e2] at this; exact this)
            clear hUd hVd hUs hVs hz1
            by_cases hNN : N1 = N2
            · have HS2 := HS.out
              have HP2 := HP.out
              have ho := open6 HL.out H3.out HN.out h6 (by rw [← HZ.out]; exact h7) (by rw [e1, e2, hNN])
              rw [openP_yes ho] at HP2
              rw [ho] at HS2
              obtain ⟨rfl, rfl⟩ : z = 10 + N ∧ st = 0 := by cases HS2; exact ⟨rfl, rfl⟩
              have hPP : s.extract 6 (6 + N) = P := by rw [← HP2, ext_bs, HLL.out]
              have hE : ((N1 : Int) == (N2 : Int)) = true := by simp; omega
              have h10 : ((10 + N : Nat) : Int) = 10 + (N : Int) := by omega
              have h66 : 6 ≤ 6 + N := by omega
              have H10 := Lib.hid h10
              clear HS2 HP2 ho hNN e1 e2 h10
              rcases hx3 with b0 | ⟨b0, b3, b4⟩
              all_goals
                go_wp2_with fail
                refine (rvalue_any T (by omega) _).mono ?_
                rw [HTd.out, HN.out]
                rintro e w1 ⟨rfl, rfl⟩
                go_wp2_with fail
                go_quiet (first | with_reducible exact cA _ _ | with_reducible exact cB _ _)
                go_wp2_with fail
                go_ret3
                refine ⟨?_, below_drewN hb _⟩
                rw [H10.out, ← hPP]
                rfl
            · have HS2 := HS.out
              have HP2 := HP.out
              have ho := open5 HL.out H3.out HN.out h6 (by rw [← HZ.out]; exact h7) (by rw [e1, e2]; exact hNN)
              rw [openP_no ho (by decide)] at HP2
              rw [ho] at HS2
              obtain ⟨rfl, rfl⟩ : z = 0 ∧ st = 2 := by cases HS2; exact ⟨rfl, rfl⟩
              obtain rfl : P = ⟨#[]⟩ := HP2.symm
              have hE : ((N1 : Int) == (N2 : Int)) = false := by simp; omega
              clear HS2 HP2 ho hNN e1 e2
              rcases hx3 with b0 | ⟨b0, b3, b4⟩
              all_goals
                go_wp2_with fail
                refine (rvalue_any T (by omega) _).mono ?_
                rw [HTd.out, HN.out]
                rintro e w1 ⟨rfl, rfl⟩
                go_wp2_with fail
                go_quiet (first | with_reducible exact cA _ _ | with_reducible exact cB _ _)
                go_wp2_with fail
                go_ret3
                exact ⟨rfl, below_drewN hb _⟩
end Go.Proofs.Ytcmceibaaaadoaa
