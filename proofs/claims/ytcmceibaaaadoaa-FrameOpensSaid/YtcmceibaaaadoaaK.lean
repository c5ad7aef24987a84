/- The reference's Sum, num, value. -/
import Derived.Test.YtcmceibaaaadoaaJ
namespace Go.Proofs.Ytcmceibaaaadoaa
open Go.RowKit
set_option linter.unusedVariables false
theorem bs_app (a b : List UInt8) : bs a ++ bs b = bs (a ++ b) := by
  rw [← data_bs (bs a ++ bs b)]
  congr 1
theorem get_data {s : ByteArray} {k : Nat} (h : k < s.size) : s[k] = s.data.toList[k]'(by simpa using h) := rfl
set_option maxRecDepth 100000 in
theorem rsum_any (s : ByteArray) (hs : s.size ≤ 4000000000) (w : World) :
    Calls Try.prog 21 #[.string s] w fun e w' => e = .returned (.int .i64 (sumN s.data.toList : Nat)) ∧ w' = w := by
  obtain ⟨l, hl⟩ : ∃ l, s.data.toList = l := ⟨_, rfl⟩
  have hsz : s.size = l.length := by rw [← hl]; simp
  have hget : ∀ (k : Nat) (h : k < s.size) (h2 : k < l.length), s[k] = l[k] := fun k h h2 => by rw [get_data h]; simp [hl]
  have HG := Lib.hid hget
  have HZ := Lib.hid hsz
  rw [hl]
  clear hget hl
  go_enter Try.func21, Try.ntmps21
  go_wp2
  go_loop [3, 4, 5] (fun a b i => ∃ k : Nat, k ≤ s.size ∧ i = .int .i64 k ∧ a = .int .i64 ((sumP (l.take k)).1 : Nat) ∧ b = .int .i64 ((sumP (l.take k)).2 : Nat)) (fun a b i => s.size - (intOf i).toNat)
  case atStart => exact ⟨0, Nat.zero_le _, rfl, rfl, rfl⟩
  case round =>
    obtain ⟨k, hk, rfl, rfl, rfl⟩ := hrel
    have hs2 := sumP_lt (l.take k)
    by_cases hlt : k < s.size
    · have hlt2 : k < l.length := by rw [← HZ.out]; exact hlt
      have hx := (s[k]).toNat_lt
      have hstep : sumP (l.take (k + 1)) = stepS (sumP (l.take k)) s[k] := by rw [List.take_succ_eq_append_getElem hlt2, sumP_snoc, HG.out k hlt hlt2]
      obtain ⟨a, ha⟩ : ∃ a, (sumP (l.take k)).1 = a := ⟨_, rfl⟩
      obtain ⟨b, hb⟩ : ∃ b, (sumP (l.take k)).2 = b := ⟨_, rfl⟩
      unfold stepS at hstep
      rw [ha, hb] at hstep hs2
      rw [ha, hb]
      have HS := Lib.hid hstep
      clear hstep ha hb
      obtain ⟨h1, h2⟩ := hs2
      go_wp2
      go_round
      case rel =>
        refine ⟨k + 1, by omega, by go_num, ?_, ?_⟩
        · rw [HS.out]; simp
        · rw [HS.out]; simp
      case measure => simp [intOf]; omega
    · have e : l.take k = l := List.take_of_length_le (by rw [← HZ.out]; omega)
      rw [e] at hs2 ⊢
      have hres : sumN l = (sumP l).2 * 65536 + (sumP l).1 := rfl
      obtain ⟨a, ha⟩ : ∃ a, (sumP l).1 = a := ⟨_, rfl⟩
      obtain ⟨b, hb⟩ : ∃ b, (sumP l).2 = b := ⟨_, rfl⟩
      rw [ha, hb] at hs2 hres ⊢
      have HR := Lib.hid hres
      clear ha hb e hres
      obtain ⟨h1, h2⟩ := hs2
      go_wp2
      go_ret
      refine ⟨?_, rfl⟩
      rw [HR.out]
      simp
set_option maxRecDepth 100000 in
theorem rvalue_any (s : ByteArray) (hs : s.size ≤ 4) (w : World) :
    Calls Try.prog 23 #[.string s] w fun e w' => e = .returned (.int .i64 (valN s.data.toList : Nat)) ∧ w' = w := by
  obtain ⟨l, hl⟩ : ∃ l, s.data.toList = l := ⟨_, rfl⟩
  have hsz : s.size = l.length := by rw [← hl]; simp
  have hget : ∀ (k : Nat) (h : k < s.size) (h2 : k < l.length), s[k] = l[k] := fun k h h2 => by rw [get_data h]; simp [hl]
  have HG := Lib.hid hget
  have HZ := Lib.hid hsz
  rw [hl]
  clear hget hl
  go_enter Try.func23, Try.ntmps23
  go_wp2
  go_loop [3, 4] (fun a i => ∃ k : Nat, k ≤ s.size ∧ i = .int .i64 k ∧ a = .int .i64 (valN (l.take k) : Nat)) (fun a i => s.size - (intOf i).toNat)
  case atStart => exact ⟨0, Nat.zero_le _, rfl, rfl⟩
  case round =>
    obtain ⟨k, hk, rfl, rfl⟩ := hrel
    by_cases hlt : k < s.size
    · have hlt2 : k < l.length := by rw [← HZ.out]; exact hlt
      have hx := (s[k]).toNat_lt
      have hstep : valN (l.take (k + 1)) = valN (l.take k) * 256 + (s[k]).toNat := by rw [List.take_succ_eq_append_getElem hlt2, valN_snoc, HG.out k hlt hlt2]
      have hlo : valN (l.take k) < 16777216 := by
        have h1 := valN_lt k (l.take k) (by rw [List.length_take]; omega)
        have h2 : 256 ^ k ≤ 256 ^ 3 := Nat.pow_le_pow_right (by omega) (by omega)
        omega
      obtain ⟨a, ha⟩ : ∃ a, valN (l.take k) = a := ⟨_, rfl⟩
      rw [ha] at hstep hlo ⊢
      have HS := Lib.hid hstep
      clear hstep ha
      go_wp2
      go_round
      case rel => exact ⟨k + 1, by omega, by go_num, by rw [HS.out]; simp⟩
      case measure => simp [intOf]; omega
    · have e : l.take k = l := List.take_of_length_le (by rw [← HZ.out]; omega)
      rw [e]
      obtain ⟨a, ha⟩ : ∃ a, valN l = a := ⟨_, rfl⟩
      rw [ha]
      go_wp2
      go_ret
      exact ⟨rfl, rfl⟩
set_option maxRecDepth 100000 in
theorem rnum_any (n count : Nat) (hn : n < 4294967296) (hc : count ≤ 4) (w : World) :
    Calls Try.prog 20 #[.int .i64 n, .int .i64 count] w fun e w' => e = .returned (.string (bs (beL count n))) ∧ Below w.heap.size w w' := by
  go_enter Try.func20, Try.ntmps20
  go_wp2
  go_loopw [0, 5, 6] (fun a s i wr => ∃ (k m : Nat) (S : ByteArray), k ≤ count ∧ i = .int .i64 k ∧ a = .int .i64 m ∧ s = .string S ∧ m < 4294967296 ∧ S.size = k ∧ Hid (beL count n = beL (count - k) m ++ S.data.toList) ∧ Below w.heap.size w wr) (fun _ _ i _ => count - (intOf i).toNat)
  case atStart => exact ⟨0, n, ⟨#[]⟩, by omega, rfl, rfl, rfl, hn, rfl, by unfold Hid; simp, Below.refl _ _⟩
  case round =>
    obtain ⟨k, m, S, hk, rfl, rfl, rfl, hm, hL, HE, hb⟩ := hrel
    by_cases hlt : k < count
    · have hx : ((m : Int) % 256) = (((m % 256).toUInt8.toNat : Nat) : Int) := by rw [← u8_nat (Nat.mod_lt _ (by omega))]; omega
      obtain ⟨X, hX⟩ : ∃ X, bs [(m % 256).toUInt8] = X := ⟨_, rfl⟩
      have hXs : X.size = 1 := by rw [← hX, bs_size]; rfl
      have hconv : (convert 22 9 (.slice (some ⟨wr.heap.size, 0, none⟩) 1 1)).run Try.prog (wr.alloc (.cells #[.int .u8 ((m : Int) % 256)] 5)) = .ok (.string X) (wr.alloc (.cells #[.int .u8 ((m : Int) % 256)] 5)) := by
        rw [hx, ← hX]
        exact (lit_seen wr [(m % 256).toUInt8] (0, 0)).text
      have HS : Hid (beL (count - k) m ++ S.data.toList = beL (count - (k + 1)) (m / 256) ++ (X ++ S).data.toList) := by
        unfold Hid
        rw [show count - k = count - (k + 1) + 1 by omega]
        conv => lhs; unfold beL
        rw [← hX, ← data_bs S, bs_app]
        simp [bs_data, data_bs]
      have HB := Lib.hid (hb.alloc hb.size (.cells #[.int .u8 ((m : Int) % 256)] 5))
      have HD : Hid (((m : Int) / 256) = ((m / 256 : Nat) : Int)) := by unfold Hid; omega
      have HZ : Hid ((X ++ S).size = k + 1) := by unfold Hid; rw [ByteArray.size_append]; omega
      clear hx hb hX
      go_wp2
      go_roundw
      case rel =>
        exact ⟨k + 1, m / 256, X ++ S, by omega, by go_num, by first | rfl | (rw [HD.out]), rfl, by omega, HZ.out, by unfold Hid; rw [HE.out, HS.out], HB.out⟩
      case measure => simp [intOf]; omega
    · obtain rfl : k = count := by omega
      have e : S = bs (beL k n) := by
        have := HE.out
        rw [Nat.sub_self] at this
        have h2 : beL k n = S.data.toList := this
        rw [h2, data_bs]
      have HE2 := Lib.hid e
      clear e
      go_wp2
      go_ret
      exact ⟨by rw [← HE2.out]; rfl, hb⟩
end Go.Proofs.Ytcmceibaaaadoaa
