/- Digits; words that may be empty: the program's and the reference's. -/
import Derived.Test.YtghnbkkfghfifaaGreatDoorEM
import Derived.Laws.IdiomStrings
namespace Go.Proofs.YtghnbkkfghfifaaGreatDoor.E
open Go.RowKit
set_option linter.unusedVariables false
/-- A text, or a point. -/
def pt (s : ByteArray) : ByteArray := if s.size = 0 then ⟨#[46]⟩ else s
theorem dec_small {u : Nat} (h : u < 10) : Lib.decDigits u = [UInt8.ofNat (48 + u)] := by rw [Lib.decDigits, dif_pos h]
theorem dec_big {u : Nat} (h : ¬ u < 10) : Lib.decDigits u = Lib.decDigits (u / 10) ++ [UInt8.ofNat (48 + u % 10)] := by rw [Lib.decDigits, dif_neg h]
theorem dec_len : ∀ (k n : Nat), n < 10 ^ (k + 1) → (Lib.decDigits n).length ≤ k + 1
  | 0, n, h => by rw [dec_small (by omega)]; simp
  | k + 1, n, h => by
    by_cases hs : n < 10
    · rw [dec_small hs]; simp
    · rw [dec_big hs, List.length_append]
      have := dec_len k (n / 10) (by rw [Nat.div_lt_iff_lt_mul (by omega)]; rw [Nat.pow_succ] at h; exact h)
      simp; omega
theorem dec_pos (n : Nat) : 1 ≤ (Lib.decDigits n).length := by
  by_cases hs : n < 10
  · rw [dec_small hs]; simp
  · rw [dec_big hs]; simp
theorem one_back (W : World) (x : Nat) (hx : x < 256) : (convert 38 9 (.slice (some ⟨W.heap.size, 0, none⟩) 1 1)).run Tryz.prog (W.alloc (.cells #[.int .u8 (x : Int)] 5)) = .ok (.string (bs [UInt8.ofNat x])) (W.alloc (.cells #[.int .u8 (x : Int)] 5)) := by
  refine run_convert_bytes_back (P := Tryz.prog) (W.alloc (.cells #[.int .u8 (x : Int)] 5)) 38 9 5 ⟨W.heap.size, 0, none⟩ 1 [UInt8.ofNat x] Tryz.underlying38 Tryz.underlying5 Tryz.underlying9 (fun j hj => ?_)
  match j, hj with
  | 0, _ =>
    have h := cell_of_one (heap_alloc_new W (.cells #[.int .u8 (x : Int)] 5))
    have e : ((UInt8.ofNat x).toNat : Int) = x := by simp; omega
    show (W.alloc (.cells #[.int .u8 (x : Int)] 5)).cell? ⟨W.heap.size, 0, none⟩ = some (.int .u8 ((UInt8.ofNat x).toNat : Int))
    rw [e]; exact h
theorem bs_app (a b : List UInt8) : bs a ++ bs b = bs (a ++ b) := ByteArray.mk_append_mk a b
set_option maxRecDepth 100000 in
theorem digits_any (n : Nat) (hn : n ≤ 9223372036854775807) (w : World) :
    Calls Tryz.prog 51 #[.int .i64 n] w fun e w' => e = .returned (.string (bs (Lib.decDigits n))) ∧ Below w.heap.size w w' := by
  have hlen : (Lib.decDigits n).length ≤ 19 := dec_len 18 n (by omega)
  obtain ⟨r, hr⟩ : ∃ r, Lib.decDigits n = r := ⟨_, rfl⟩
  rw [hr] at hlen ⊢
  have HR := Lib.hid hr
  clear hr
  go_enter Tryz.func51, Tryz.ntmps51
  go_wp2
  go_loopw [3, 0] (fun u c wr => ∃ (out : List UInt8) (m : Nat), c = .int .i64 m ∧ u = .string (bs out) ∧ Hid (Lib.decDigits n = Lib.decDigits m ++ out) ∧ out.length ≤ 19 ∧ m ≤ n ∧ Below w.heap.size w wr) (fun _ c _ => (intOf c).toNat)
  case atStart => exact ⟨[], n, rfl, rfl, by unfold Hid; simp, by simp, by omega, Below.refl _ _⟩
  case round =>
    obtain ⟨out, m, rfl, rfl, HE, ho, hm, hb⟩ := hrel
    have hsz : (bs out).size ≤ 19 := by rw [bs_size]; exact ho
    by_cases hs : m < 10
    · have HS := Lib.hid (dec_small hs)
      have hcv := one_back wr (48 + m) (by omega)
      have hq : ((48 + m : Nat) : Int) = 48 + (m : Int) := by omega
      rw [hq] at hcv
      clear hq
      have hs1 : (bs [UInt8.ofNat (48 + m)]).size ≤ 1 := by rw [bs_size]; exact Nat.le_refl _
      obtain ⟨D, hD⟩ : ∃ D, bs [UInt8.ofNat (48 + m)] = D := ⟨_, rfl⟩
      rw [hD] at hcv hs1
      have HD := Lib.hid hD
      clear hD
      go_wp2
      go_ret
      refine ⟨?_, hb.alloc hb.size _⟩
      rw [← HR.out, HE.out, HS.out, ← bs_app, HD.out]
      rfl
    · have HS := Lib.hid (dec_big hs)
      have hcv := one_back wr (48 + m % 10) (by omega)
      have hq : ((48 + m % 10 : Nat) : Int) = 48 + (m : Int) % 10 := by omega
      rw [hq] at hcv
      clear hq
      have ho2 : out.length + 1 ≤ 19 := by
        have h1 := congrArg List.length HE.out
        rw [List.length_append, dec_big hs, List.length_append] at h1
        have := dec_pos (m / 10)
        rw [HR.out] at h1
        simp at h1; omega
      have hs1 : (bs [UInt8.ofNat (48 + m % 10)]).size ≤ 1 := by rw [bs_size]; exact Nat.le_refl _
      obtain ⟨D, hD⟩ : ∃ D, bs [UInt8.ofNat (48 + m % 10)] = D := ⟨_, rfl⟩
      rw [hD] at hcv hs1
      have HD := Lib.hid hD
      clear hD
      go_wp2
      go_roundw
      case rel => exact ⟨[UInt8.ofNat (48 + m % 10)] ++ out, m / 10, by go_num, by rw [← bs_app, HD.out], by unfold Hid; rw [HE.out, HS.out]; simp, by simp; omega, by omega, hb.alloc hb.size _⟩
      case measure => simp [intOf]; omega
end Go.Proofs.YtghnbkkfghfifaaGreatDoor.E
