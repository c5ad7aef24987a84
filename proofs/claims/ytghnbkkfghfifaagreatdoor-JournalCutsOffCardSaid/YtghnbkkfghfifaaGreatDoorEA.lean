/- Names: what is one: the program's and the reference's. -/
import Derived.Test.YtghnbkkfghfifaaGreatDoorProg
import Derived.WalkKit
import Derived.LoopTactic
import Derived.Lib.Hide
namespace Go.Proofs.YtghnbkkfghfifaaGreatDoor.E
open Go.RowKit
set_option linter.unusedVariables false
theorem ret_bool {a b : Bool} (h : a = b) : Ending.returned (.bool a) = .returned (.bool b) := by rw [h]
/-- A byte of a name. -/
def nbN (n : Nat) : Bool := (decide (97 ≤ n) && decide (n ≤ 122)) || (decide (48 ≤ n) && decide (n ≤ 57)) || decide (n = 45)
/-- Is it a name? -/
def nameB (s : ByteArray) : Bool := decide (1 ≤ s.size) && decide (s.size ≤ 24) && s.data.toList.all (fun c => nbN c.toNat)
theorem nbN_cases (n : Nat) : (n < 45 ∧ nbN n = false) ∨ (n = 45 ∧ nbN n = true) ∨ (45 < n ∧ n < 48 ∧ nbN n = false) ∨ (48 ≤ n ∧ n ≤ 57 ∧ nbN n = true) ∨ (57 < n ∧ n < 97 ∧ nbN n = false) ∨ (97 ≤ n ∧ n ≤ 122 ∧ nbN n = true) ∨ (122 < n ∧ nbN n = false) := by
  unfold nbN
  by_cases h1 : n < 45
  · left; simp; omega
  by_cases h2 : n = 45
  · right; left; simp [h2]
  by_cases h3 : n < 48
  · right; right; left; simp; omega
  by_cases h4 : n ≤ 57
  · right; right; right; left; simp; omega
  by_cases h5 : n < 97
  · right; right; right; right; left; simp; omega
  by_cases h6 : n ≤ 122
  · right; right; right; right; right; left; simp; omega
  · right; right; right; right; right; right; simp; omega
theorem nameByte_any (n : Nat) (hn : n < 256) (w : World) :
    Calls Tryz.prog 78 #[.int .u8 n] w fun e w' => e = .returned (.bool (nbN n)) ∧ w = w' := by
  rcases nbN_cases n with ⟨h1, e⟩ | ⟨h1, e⟩ | ⟨h1, h2, e⟩ | ⟨h1, h2, e⟩ | ⟨h1, h2, e⟩ | ⟨h1, h2, e⟩ | ⟨h1, e⟩
  all_goals
    rw [e]
    clear e
    go_enter Tryz.func78, Tryz.ntmps78
    go_wp2
    go_ret
    first | exact ⟨rfl, rfl⟩ | exact ⟨ret_bool (by simp; omega), rfl⟩
theorem take_snoc (s : ByteArray) (k : Nat) (h : k < s.size) : s.data.toList.take (k + 1) = s.data.toList.take k ++ [s[k]] := by
  rw [List.take_succ_eq_append_getElem (by simpa using h)]; rfl
theorem all_take_succ (s : ByteArray) (k : Nat) (h : k < s.size) (p : UInt8 → Bool) : (s.data.toList.take (k + 1)).all p = ((s.data.toList.take k).all p && p s[k]) := by
  rw [take_snoc s k h, List.all_append]; simp
theorem all_of_take {s : ByteArray} {k : Nat} (h : k < s.size) {p : UInt8 → Bool} (hp : p s[k] = false) : s.data.toList.all p = false := by
  rw [List.all_eq_false]
  exact ⟨s[k], by show s.data[k] ∈ _; simp, by simp [hp]⟩
theorem nameB_no {s : ByteArray} {k : Nat} (h : k < s.size) (hp : nbN (s[k]).toNat = false) : nameB s = false := by
  unfold nameB; rw [all_of_take h hp]; simp
theorem nameB_yes {s : ByteArray} (h1 : 1 ≤ s.size) (h2 : s.size ≤ 24) (h : (s.data.toList.take s.size).all (fun c => nbN c.toNat) = true) : nameB s = true := by
  rw [List.take_of_length_le (by simp)] at h
  unfold nameB; rw [h]; simp; omega
theorem nameB_short {s : ByteArray} (h1 : ¬ 1 ≤ s.size) : nameB s = false := by unfold nameB; simp; intros; omega
theorem nameB_long {s : ByteArray} (h1 : ¬ s.size ≤ 24) : nameB s = false := by unfold nameB; simp; intros; omega
theorem nameB_size {s : ByteArray} (h : nameB s = true) : 1 ≤ s.size ∧ s.size ≤ 24 := by unfold nameB at h; simp at h; omega
theorem name_any (s : ByteArray) (w : World) :
    Calls Tryz.prog 53 #[.string s] w fun e w' => e = .returned (.bool (nameB s)) ∧ w = w' := by
  by_cases h1 : 1 ≤ s.size
  · by_cases h2 : s.size ≤ 24
    · obtain ⟨r, hr⟩ : ∃ r, nameB s = r := ⟨_, rfl⟩
      rw [hr]
      have HR := Lib.hid hr
      clear hr
      go_enter Tryz.func53, Tryz.ntmps53
      go_wp2
      go_loop [14] (fun i => ∃ k : Nat, k ≤ s.size ∧ i = .int .i64 k ∧ Hid ((s.data.toList.take k).all (fun c => nbN c.toNat) = true)) (fun i => s.size - (intOf i).toNat)
      case atStart => exact ⟨0, Nat.zero_le _, rfl, by unfold Hid; simp⟩
      case round =>
        obtain ⟨k, hk, rfl, HA⟩ := hrel
        by_cases hlt : k < s.size
        · have hb : (s[k]).toNat < 256 := (s[k]).toNat_lt
          have hsn := Lib.hid (all_take_succ s k hlt (fun c => nbN c.toNat))
          cases hc : nbN (s[k]).toNat
          · have HF := nameB_no hlt hc
            have HC := Lib.hid hc
            rw [HR.out] at HF
            subst HF
            clear hc
            go_wp2_with (go_at_call 78; refine (nameByte_any _ hb _).mono ?_; rw [HC.out]; rintro e w' ⟨rfl, rfl⟩)
            go_ret
            exact ⟨rfl, rfl⟩
          · have HC := Lib.hid hc
            clear hc
            go_wp2_with (go_at_call 78; refine (nameByte_any _ hb _).mono ?_; rw [HC.out]; rintro e w' ⟨rfl, rfl⟩)
            go_round
            case rel => exact ⟨k + 1, by omega, by go_num, by unfold Hid; rw [hsn.out, HA.out, HC.out]; rfl⟩
            case measure => simp [intOf]; omega
        · obtain rfl : k = s.size := by omega
          have HF := nameB_yes h1 h2 HA.out
          rw [HR.out] at HF
          subst HF
          go_wp2
          go_ret
          exact ⟨rfl, rfl⟩
    · rw [nameB_long h2]
      go_enter Tryz.func53, Tryz.ntmps53
      go_wp2
      go_ret
      exact ⟨rfl, rfl⟩
  · rw [nameB_short h1]
    go_enter Tryz.func53, Tryz.ntmps53
    go_wp2
    go_ret
    exact ⟨rfl, rfl⟩
theorem rname_any (s : ByteArray) (w : World) :
    Calls Tryz.prog 39 #[.string s] w fun e w' => e = .returned (.bool (nameB s)) ∧ w = w' := by
  by_cases h1 : 1 ≤ s.size
  · by_cases h2 : s.size ≤ 24
    · obtain ⟨r, hr⟩ : ∃ r, nameB s = r := ⟨_, rfl⟩
      rw [hr]
      have HR := Lib.hid hr
      clear hr
      go_enter Tryz.func39, Tryz.ntmps39
      go_wp2
      go_loop [3] (fun i => ∃ k : Nat, k ≤ s.size ∧ i = .int .i64 k ∧ Hid ((s.data.toList.take k).all (fun c => nbN c.toNat) = true)) (fun i => s.size - (intOf i).toNat)
      case atStart => exact ⟨0, Nat.zero_le _, rfl, by unfold Hid; simp⟩
      case round =>
        obtain ⟨k, hk, rfl, HA⟩ := hrel
        by_cases hlt : k < s.size
        · have hsn := Lib.hid (all_take_succ s k hlt (fun c => nbN c.toNat))
          cases hc : nbN (s[k]).toNat
          · have HF := nameB_no hlt hc
            rw [HR.out] at HF
            subst HF
            rcases nbN_cases (s[k]).toNat with ⟨h1, e⟩ | ⟨h1, e⟩ | ⟨h1, h2, e⟩ | ⟨h1, h2, e⟩ | ⟨h1, h2, e⟩ | ⟨h1, h2, e⟩ | ⟨h1, e⟩
            all_goals (first | (exfalso; rw [hc] at e; cases e; done) | skip)
            all_goals
              clear hc e
              have t1 : decide (((s[k]).toNat : Int) = 45) = false := by simp; omega
              have t2 : (((s[k]).toNat : Int) == 45) = false := by simp; omega
              (try have t3 : decide (((s[k]).toNat : Int) ≤ 57) = false := by simp; omega)
              (try have t4 : decide (((s[k]).toNat : Int) ≤ 122) = false := by simp; omega)
              go_wp2
              go_ret
              exact ⟨rfl, rfl⟩
          · have HC := Lib.hid hc
            rcases nbN_cases (s[k]).toNat with ⟨h1, e⟩ | ⟨h1, e⟩ | ⟨h1, h2, e⟩ | ⟨h1, h2, e⟩ | ⟨h1, h2, e⟩ | ⟨h1, h2, e⟩ | ⟨h1, e⟩
            all_goals (first | (exfalso; rw [hc] at e; cases e; done) | skip)
            all_goals
              clear hc e
              (try have t1 : decide (((s[k]).toNat : Int) = 45) = true := by simp; omega)
              (try have t2 : (((s[k]).toNat : Int) == 45) = true := by simp; omega)
              (try have t3 : decide (((s[k]).toNat : Int) ≤ 57) = true := by simp; omega)
              (try have t4 : decide (((s[k]).toNat : Int) ≤ 122) = true := by simp; omega)
              go_wp2
              go_round
              case rel => exact ⟨k + 1, by omega, by go_num, by unfold Hid; rw [hsn.out, HA.out, HC.out]; rfl⟩
              case measure => simp [intOf]; omega
        · obtain rfl : k = s.size := by omega
          have HF := nameB_yes h1 h2 HA.out
          rw [HR.out] at HF
          subst HF
          go_wp2
          go_ret
          exact ⟨rfl, rfl⟩
    · rw [nameB_long h2]
      go_enter Tryz.func39, Tryz.ntmps39
      go_wp2
      go_ret
      exact ⟨rfl, rfl⟩
  · rw [nameB_short h1]
    go_enter Tryz.func39, Tryz.ntmps39
    go_wp2
    go_ret
    exact ⟨rfl, rfl⟩
end Go.Proofs.YtghnbkkfghfifaaGreatDoor.E
