/- Small calls: the nearest tick, a tick, a name. -/
import Derived.Test.YtmoooeadiminbaaC
namespace Go.Proofs.Ytmoooeadiminbaa
open Go.RowKit Go.Maps
set_option linter.unusedVariables false
set_option maxRecDepth 100000 in
theorem near_any (n : Int) (w : World) : Calls Try.prog 17 #[.int .i64 n] w fun e w' => e = .returned (.int .i64 (near n)) ∧ w' = w := by
  go_enter Try.func17, Try.ntmps17
  go_wp2
  go_ret
  exact ⟨rfl, rfl⟩
set_option maxRecDepth 100000 in
theorem tick_any (a : Int) (w : World) : Calls Try.prog 20 #[.int .i64 a] w fun e w' => e = .returned (.bool (okTick a)) ∧ w' = w := by
  by_cases h0 : 0 ≤ a
  · have g0 : decide (0 ≤ a) = true := by simpa using h0
    go_enter Try.func20, Try.ntmps20
    go_wp2
    go_ret
    exact ⟨by unfold okTick; rw [g0]; rfl, rfl⟩
  · have g0 : decide (0 ≤ a) = false := by simpa using h0
    go_enter Try.func20, Try.ntmps20
    go_wp2
    go_ret
    exact ⟨by unfold okTick; rw [g0]; rfl, rfl⟩
theorem take_snoc (s : ByteArray) (k : Nat) (h : k < s.size) : s.data.toList.take (k + 1) = s.data.toList.take k ++ [s[k]] := by
  rw [List.take_succ_eq_append_getElem (by simpa using h)]; rfl
theorem all_take_succ (s : ByteArray) (k : Nat) (h : k < s.size) (p : UInt8 → Bool) : (s.data.toList.take (k + 1)).all p = ((s.data.toList.take k).all p && p s[k]) := by
  rw [take_snoc s k h, List.all_append]; simp
theorem all_of_take {s : ByteArray} {k : Nat} (h : k < s.size) {p : UInt8 → Bool} (hp : p s[k] = false) : s.data.toList.all p = false := by
  rw [List.all_eq_false]
  exact ⟨s[k], by show s.data[k] ∈ _; simp, by simp [hp]⟩
def nameB (s : ByteArray) : Bool := okName s.data.toList
theorem nameB_bs (l : List UInt8) : nameB (bs l) = okName l := by unfold nameB; rw [bs_data]
theorem nameB_size (s : ByteArray) : nameB s = (decide (1 ≤ s.size) && decide (s.size ≤ 24) && s.data.toList.all okCh) := by unfold nameB okName; rfl
theorem nameB_no {s : ByteArray} {k : Nat} (h : k < s.size) (hp : okCh s[k] = false) : nameB s = false := by
  rw [nameB_size, all_of_take h hp]; simp
theorem nameB_yes {s : ByteArray} (h1 : 1 ≤ s.size) (h2 : s.size ≤ 24) (h : (s.data.toList.take s.size).all okCh = true) : nameB s = true := by
  rw [List.take_of_length_le (by simp)] at h
  rw [nameB_size, h]; simp; omega
theorem nameB_short {s : ByteArray} (h1 : ¬ 1 ≤ s.size) : nameB s = false := by rw [nameB_size]; simp; intros; omega
theorem nameB_long {s : ByteArray} (h1 : ¬ s.size ≤ 24) : nameB s = false := by rw [nameB_size]; simp; intros; omega
set_option maxHeartbeats 2000000 in
set_option maxRecDepth 100000 in
theorem name_arr (s : ByteArray) (w : World) :
    Calls Try.prog 19 #[.string s] w fun e w' => e = .returned (.bool (nameB s)) ∧ w' = w := by
  by_cases h1 : 1 ≤ s.size
  · by_cases h2 : s.size ≤ 24
    · obtain ⟨r, hr⟩ : ∃ r, nameB s = r := ⟨_, rfl⟩
      rw [hr]
      have HR := Lib.hid hr
      clear hr
      go_enter Try.func19, Try.ntmps19
      go_wp2
      go_loop [15] (fun i => ∃ k : Nat, k ≤ s.size ∧ i = .int .i64 k ∧ Hid ((s.data.toList.take k).all okCh = true)) (fun i => s.size - (intOf i).toNat)
      case atStart => exact ⟨0, Nat.zero_le _, rfl, by unfold Hid; simp⟩
      case round =>
        obtain ⟨k, hk, rfl, HA⟩ := hrel
        by_cases hlt : k < s.size
        · have hb : (s[k]).toNat < 256 := (s[k]).toNat_lt
          have hsn := Lib.hid (all_take_succ s k hlt okCh)
          have HF := Lib.hid (nameB_no hlt)
          go_wp2
          all_goals first
            | (go_ret
               exact ⟨by rw [← HR.out, HF.out (by unfold okCh; simp at *; omega)]; rfl, rfl⟩)
            | (have HC : Hid (okCh s[k] = true) := Lib.hid (by unfold okCh; simp at *; omega)
               go_round
               case rel => exact ⟨k + 1, by omega, by go_num, by unfold Hid; rw [hsn.out, HA.out, HC.out]; rfl⟩
               case measure => simp [intOf]; omega)
        · obtain rfl : k = s.size := by omega
          have HF := nameB_yes h1 h2 HA.out
          rw [HR.out] at HF
          subst HF
          go_wp2
          go_ret
          exact ⟨rfl, rfl⟩
    · rw [nameB_long h2]
      go_enter Try.func19, Try.ntmps19
      go_wp2
      all_goals first | (exfalso; omega) | (go_ret; exact ⟨rfl, rfl⟩)
  · rw [nameB_short h1]
    go_enter Try.func19, Try.ntmps19
    go_wp2
    all_goals first | (exfalso; omega) | (go_ret; exact ⟨rfl, rfl⟩)
theorem name_any (n : List UInt8) (w : World) : Calls Try.prog 19 #[.string (bs n)] w fun e w' => e = .returned (.bool (okName n)) ∧ w' = w := by
  have := name_arr (bs n) w
  rwa [nameB_bs] at this
end Go.Proofs.Ytmoooeadiminbaa
