/- What may be: the program's and the reference's. -/
import Derived.Test.YtghnbkkfghfifaaGreatDoorEE
import Derived.Outline
namespace Go.Proofs.YtghnbkkfghfifaaGreatDoor.E
open Go.RowKit
set_option linter.unusedVariables false
/-- An event. -/
structure Ev where
  s : ByteArray
  n : Int
  a : Int
  k : Int
  p : ByteArray
  i : ByteArray
  v : Int
  t : ByteArray
/-- What a kind asks. -/
def nonB (b : Bool) (s : ByteArray) : Bool := if b then nameB s else decide (s.size = 0)
def wordB (tx : Int) (s : ByteArray) : Bool := if tx = 1 then nameB s else if tx = 2 then labB s else decide (s.size = 0)
def headB (e : Ev) : Bool := nameB e.s && decide (1 ≤ e.n) && decide (e.n ≤ 1099511627776) && decide (0 ≤ e.a) && decide (e.a ≤ 1099511627776)
def restB (r : KRow) (e : Ev) : Bool := nonB r.per e.p && (nonB r.item e.i && (decide (r.lo ≤ e.v) && (decide (e.v ≤ r.hi) && wordB r.tx e.t)))
def mayB (e : Ev) : Bool := headB e && (decide (0 ≤ e.k) && decide (e.k < 15)) && restB (kR e.k.toNat) e
theorem empty_of (s : ByteArray) : (s.size = 0 ∧ s.toList = [] ∧ s.toList.isEmpty = true ∧ (s.toList == []) = true ∧ decide (s.size = 0) = true) ∨ (s.size ≠ 0 ∧ s.toList.isEmpty = false ∧ (s.toList == []) = false ∧ decide (s.size = 0) = false) := by
  have h : s.toList.length = s.size := by rw [toL]; simp
  cases hs : s.toList with
  | nil => left; rw [hs] at h; exact ⟨h.symm, rfl, rfl, rfl, decide_eq_true h.symm⟩
  | cons x l => right; rw [hs] at h; simp at h; refine ⟨by omega, rfl, rfl, decide_eq_false (by omega)⟩
theorem non_any (b : Bool) (s : ByteArray) (w : World) :
    Calls Tryz.prog 112 #[.bool b, .string s] w fun e w' => e = .returned (.bool (nonB b s)) ∧ w = w' := by
  cases b
  · have e : nonB false s = decide (s.size = 0) := rfl
    rw [e]
    clear e
    rcases empty_of s with ⟨h1, h2, h3, h4, h5⟩ | ⟨h1, h3, h4, h5⟩
    all_goals
      rw [h5]
      clear h1 h5
      go_enter Tryz.func112, Tryz.ntmps112
      go_wp2
      go_ret
      first | exact ⟨rfl, rfl⟩ | exact ⟨ret_bool (by simp_all), rfl⟩
  · have e : nonB true s = nameB s := rfl
    rw [e]
    clear e
    go_enter Tryz.func112, Tryz.ntmps112
    go_wp2_with (go_at_call 53; refine (name_any _ _).mono ?_; rintro e w' ⟨rfl, rfl⟩)
    go_ret
    exact ⟨rfl, rfl⟩
theorem non_at {b : Bool} {s : ByteArray} {r : Bool} (h : nonB b s = r) (w : World) :
    Calls Tryz.prog 112 #[.bool b, .string s] w fun e w' => e = .returned (.bool r) ∧ w = w' := by subst h; exact non_any b s w
theorem contains_any (s : ByteArray) (w : World) :
    Calls Tryz.prog 128 #[.string s, .string ⟨#[59]⟩] w fun e w' => e = .returned (.bool (hasB s)) ∧ w = w' :=
  (Tryz.strings_Contains_one s 59 w).mono fun _ _ ⟨h1, h2⟩ => ⟨h1, h2.symm⟩
theorem contains_at {s : ByteArray} {r : Bool} (h : hasB s = r) (w : World) :
    Calls Tryz.prog 128 #[.string s, .string ⟨#[59]⟩] w fun e w' => e = .returned (.bool r) ∧ w = w' := by subst h; exact contains_any s w
theorem wording_any (tx : Int) (s : ByteArray) (hs : s.size ≤ 1000000000) (w : World) (hL : Lay w) :
    Calls Tryz.prog 113 #[.int .i64 tx, .string s] w fun e w' => e = .returned (.bool (wordB tx s)) ∧ Below w.heap.size w w' := by
  have HL := Lib.hid hL
  clear hL
  by_cases h1 : tx = 1
  · subst h1
    have e : wordB 1 s = nameB s := rfl
    rw [e]
    clear e
    go_enter Tryz.func113, Tryz.ntmps113
    go_wp2_with (go_at_call 53; refine (name_any _ _).mono ?_; rintro e w' ⟨rfl, rfl⟩)
    go_ret
    exact ⟨rfl, Below.refl _ _⟩
  · by_cases h2 : tx = 2
    · subst h2
      clear h1
      have e : wordB 2 s = labB s := rfl
      rw [e]
      clear e
      cases hh : hasB s
      · rw [lab_no_has hh]
        have HH := Lib.hid hh
        clear hh
        go_enter Tryz.func113, Tryz.ntmps113
        go_wp2_with (go_at_call 128; refine (contains_at HH.out _).mono ?_; rintro e w' ⟨rfl, rfl⟩)
        go_ret
        exact ⟨rfl, Below.refl _ _⟩
      · cases hn : nameB (mkB s)
        · rw [lab_no_name hn]
          have HH := Lib.hid hh
          have HN := Lib.hid hn
          clear hh hn
          go_enter Tryz.func113, Tryz.ntmps113
          go_wp2_with (go_at_call 128; refine (contains_at HH.out _).mono ?_; rintro e w' ⟨rfl, rfl⟩)
          refine (maker_any s (by omega) _ HL.out).mono ?_
          rintro e w1 ⟨rfl, hb⟩
          go_wp2_with (go_at_call 53; refine (name_at HN.out _).mono ?_; rintro e w' ⟨rfl, rfl⟩)
          go_ret
          exact ⟨rfl, hb⟩
        · rw [lab_ris hh hn]
          have HH := Lib.hid hh
          have HN := Lib.hid hn
          have hlen := tagsB_len s
          clear hh hn
          go_enter Tryz.func113, Tryz.ntmps113
          go_wp2_with (go_at_call 128; refine (contains_at HH.out _).mono ?_; rintro e w' ⟨rfl, rfl⟩)
          refine (maker_any s (by omega) _ HL.out).mono ?_
          rintro e w1 ⟨rfl, hb⟩
          go_wp2_with (go_at_call 53; refine (name_at HN.out _).mono ?_; rintro e w' ⟨rfl, rfl⟩)
          refine (tags_any s (by omega) _ (HL.out.next hb)).mono ?_
          rintro e w2 ⟨v, rfl, hv, hb2⟩
          have hb3 := hb.trans (hb2.mono hb.size)
          have HV := Lib.hid hv
          clear hv hb hb2
          go_wp2_with fail
          refine (rising_any _ _ (by omega) _ HV.out).mono ?_
          rintro e w3 ⟨rfl, rfl⟩
          go_wp2
          go_ret
          exact ⟨rfl, hb3⟩
    · have e : wordB tx s = decide (s.size = 0) := by unfold wordB; rw [if_neg h1, if_neg h2]
      rw [e]
      clear e
      have t1 : (tx == 1) = false := by simpa using h1
      have t2 : (tx == 2) = false := by simpa using h2
      clear h1 h2
      rcases empty_of s with ⟨h1, h2, h3, h4, h5⟩ | ⟨h1, h3, h4, h5⟩
      all_goals
        rw [h5]
        clear h1 h5
        go_enter Tryz.func113, Tryz.ntmps113
        go_wp2
        go_ret
        first | exact ⟨rfl, Below.refl _ _⟩ | exact ⟨ret_bool (by simp_all), Below.refl _ _⟩
theorem in_any (n lo hi : Int) (w : World) :
    Calls Tryz.prog 63 #[.int .i64 n, .int .i64 lo, .int .i64 hi] w fun e w' => e = .returned (.bool (decide (lo ≤ n) && decide (n ≤ hi))) ∧ w = w' := by
  by_cases h1 : lo ≤ n
  · have t1 : decide (lo ≤ n) = true := by simpa using h1
    rw [t1]
    go_enter Tryz.func63, Tryz.ntmps63
    go_wp2
    go_ret
    exact ⟨rfl, rfl⟩
  · have t1 : decide (lo ≤ n) = false := by simpa using h1
    rw [t1]
    go_enter Tryz.func63, Tryz.ntmps63
    go_wp2
    go_ret
    exact ⟨rfl, rfl⟩
end Go.Proofs.YtghnbkkfghfifaaGreatDoor.E
