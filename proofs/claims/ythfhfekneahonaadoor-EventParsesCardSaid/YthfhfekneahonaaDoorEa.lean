/- What a text is as a whole, plainly: its words, numbers, kinds. -/
import Derived.Test.YthfhfekneahonaaDoorT
import Derived.Lib.AtoiAllCases
namespace Go.Proofs.YthfhfekneahonaaDoor
open Go.RowKit
set_option linter.unusedVariables false
/-- The number that digits are, behind others. -/
def valF (a : Nat) (l : List UInt8) : Nat := l.foldl (fun a c => 10 * a + (c.toNat - 48)) a
theorem valF_ge : ∀ (l : List UInt8) (a : Nat), a ≤ valF a l
  | [], a => Nat.le_refl _
  | c :: l, a => by
    have := valF_ge l (10 * a + (c.toNat - 48))
    have e : valF a (c :: l) = valF (10 * a + (c.toNat - 48)) l := rfl
    rw [e]; omega
theorem parse_digs : ∀ (l : List UInt8) (a : Nat), (∀ x ∈ l, 48 ≤ x.toNat ∧ x.toNat ≤ 57) → valF a l < 18446744073709551616 → Lib.parseUint10 a l = .ok (valF a l)
  | [], a, _, _ => rfl
  | c :: l, a, hd, hv => by
    have e : valF a (c :: l) = valF (10 * a + (c.toNat - 48)) l := rfl
    rw [e] at hv ⊢
    have h1 := hd c (by simp)
    have h2 := valF_ge l (10 * a + (c.toNat - 48))
    have ih := parse_digs l (10 * a + (c.toNat - 48)) (fun x hx => hd x (by simp [hx])) hv
    have h3 : a * 10 + (c.toNat - 48) = 10 * a + (c.toNat - 48) := by omega
    unfold Lib.parseUint10
    rw [h3, if_pos (by omega), if_neg (by omega), if_neg (by omega)]
    exact ih
theorem dec_ne (n : Nat) : Lib.decDigits n ≠ [] := by
  have := dec_pos n
  intro e; rw [e] at this; simp at this
theorem atoi_dec (n : Nat) (h : n ≤ 9223372036854775807) : Lib.atoiAll (Lib.decDigits n) = .ok (n : Int) := by
  have hp := parse_digs (Lib.decDigits n) 0 (dec_digits n) (by have := valL_dec n; unfold valL at this; unfold valF; rw [this]; omega)
  have hv : valF 0 (Lib.decDigits n) = n := valL_dec n
  rw [hv] at hp
  have hd := dec_digits n
  have hm : Lib.parseMag (Lib.decDigits n) = .ok n := by unfold Lib.parseMag; rw [if_neg (dec_ne n), hp]
  generalize hl : Lib.decDigits n = l at hd hm
  match l with
  | [] => exact absurd hl (dec_ne n)
  | c :: r =>
    have h1 := hd c (by simp)
    unfold Lib.atoiAll
    simp only
    rw [if_neg (by omega), hm]
    simp only
    rw [if_neg (by omega), if_neg (by omega), if_neg (by omega)]
/-- The number of a word: the program's, -1 of what is none. -/
def numP (s : ByteArray) : Int := match Lib.atoiAll s.data.toList with
  | .ok v => v
  | _ => -1
theorem numP_ok {s : ByteArray} {v : Int} (h : Lib.atoiAll s.data.toList = .ok v) : numP s = v := by unfold numP; rw [h]
theorem numP_syntax {s : ByteArray} (h : Lib.atoiAll s.data.toList = Lib.NumEnd.syntax) : numP s = -1 := by unfold numP; rw [h]
theorem numP_range {s : ByteArray} (h : Lib.atoiAll s.data.toList = .range) : numP s = -1 := by unfold numP; rw [h]
theorem numP_dec (n : Nat) (h : n ≤ 9223372036854775807) : numP (bs (Lib.decDigits n)) = n := numP_ok (by rw [bs_data]; exact atoi_dec n h)
theorem numP_bounds (s : ByteArray) : -9223372036854775808 ≤ numP s ∧ numP s ≤ 9223372036854775807 := by
  unfold numP
  split
  · rename_i v h; exact Lib.atoiAll_bounds h
  · omega
/-- The number of a word: the reference's. -/
def digB (l : List UInt8) : Bool := l.all (fun c => decide (48 ≤ c.toNat) && decide (c.toNat ≤ 57))
def numR (s : ByteArray) : Int := if (1 ≤ s.size ∧ s.size ≤ 13) ∧ ¬ (1 < s.size ∧ s.data.toList[0]? = some 48) ∧ digB s.data.toList = true then (valL s.data.toList : Int) else -1
theorem dec_lead : ∀ (n : Nat), 1 < (Lib.decDigits n).length → (Lib.decDigits n)[0]? ≠ some 48 := by
  intro n
  induction n using Nat.strongRecOn with
  | _ n ih =>
    intro hl
    by_cases h : n < 10
    · rw [dec_small h] at hl; simp at hl
    · rw [dec_big h]
      have hp := dec_pos (n / 10)
      rw [List.getElem?_append_left (by omega)]
      by_cases h2 : n / 10 < 10
      · rw [dec_small h2]
        simp only [List.getElem?_cons_zero]
        intro e
        have e2 := congrArg UInt8.toNat (Option.some.inj e)
        rw [dig_toNat h2] at e2
        have : (48 : UInt8).toNat = 48 := rfl
        omega
      · refine ih (n / 10) (by omega) ?_
        rw [dec_big h2, List.length_append]
        have := dec_pos (n / 10 / 10)
        simp; omega
theorem digB_dec (n : Nat) : digB (Lib.decDigits n) = true := by
  unfold digB
  rw [List.all_eq_true]
  intro x hx
  have := dec_digits n x hx
  simp [this]
theorem numR_dec (n : Nat) (h : n ≤ 1099511627776) : numR (bs (Lib.decDigits n)) = n := by
  have h1 := dec_len 12 n (by omega)
  have h2 := dec_pos n
  have h3 := digB_dec n
  unfold numR
  rw [bs_data, bs_size, if_pos ⟨⟨h2, by omega⟩, fun hh => dec_lead n hh.1 hh.2, h3⟩, valL_dec]
theorem valL_lt : ∀ (l : List UInt8) (a k : Nat), (∀ x ∈ l, 48 ≤ x.toNat ∧ x.toNat ≤ 57) → a < 10 ^ k → valF a l < 10 ^ (l.length + k)
  | [], a, k, _, ha => by simpa [valF] using ha
  | c :: l, a, k, hd, ha => by
    have h1 := hd c (by simp)
    have := valL_lt l (10 * a + (c.toNat - 48)) (k + 1) (fun x hx => hd x (by simp [hx])) (by rw [Nat.pow_succ]; omega)
    have e : valF a (c :: l) = valF (10 * a + (c.toNat - 48)) l := rfl
    rw [e, List.length_cons, show l.length + 1 + k = l.length + (k + 1) by omega]
    exact this
theorem digB_all {l : List UInt8} (h : digB l = true) : ∀ x ∈ l, 48 ≤ x.toNat ∧ x.toNat ≤ 57 := by
  unfold digB at h
  rw [List.all_eq_true] at h
  intro x hx
  have := h x hx
  simpa using this
theorem numR_bounds (s : ByteArray) : -1 ≤ numR s ∧ numR s < 10000000000000 := by
  unfold numR
  split
  · rename_i h
    have h1 := valL_lt s.data.toList 0 0 (digB_all h.2.2) (by decide)
    have h2 : s.data.toList.length ≤ 13 := by simpa using h.1.2
    have h3 : (10 : Nat) ^ (s.data.toList.length + 0) ≤ 10 ^ 13 := Nat.pow_le_pow_right (by decide) (by omega)
    have e : valF 0 s.data.toList = valL s.data.toList := rfl
    rw [e] at h1
    omega
  · omega
/-- The kind of a word; -1: none. -/
def kdOf (s : ByteArray) : Int := match (List.range 15).find? (fun k => decide (bs (kR k).word = s)) with
  | some k => (k : Int)
  | none => -1
theorem kdOf_yes {s : ByteArray} {k : Nat} (hk : k < 15) (h : bs (kR k).word = s) : kdOf s = k := by
  unfold kdOf
  cases hf : (List.range 15).find? (fun k => decide (bs (kR k).word = s)) with
  | none =>
    have := List.find?_eq_none.1 hf k (by simpa using hk)
    simp [h] at this
  | some j =>
    have h1 := List.find?_some hf
    have h2 := List.mem_of_find?_eq_some hf
    simp only [decide_eq_true_eq] at h1
    have : j = k := words_inj j (by simpa using h2) k hk (by rw [← bs_data (kR j).word, ← bs_data (kR k).word, h1, h])
    simp [this]
theorem kdOf_no {s : ByteArray} (h : ∀ k, k < 15 → bs (kR k).word ≠ s) : kdOf s = -1 := by
  unfold kdOf
  cases hf : (List.range 15).find? (fun k => decide (bs (kR k).word = s)) with
  | none => rfl
  | some j =>
    have h1 := List.find?_some hf
    have h2 := List.mem_of_find?_eq_some hf
    simp only [decide_eq_true_eq] at h1
    exact absurd h1 (h j (by simpa using h2))
theorem kd_cases (s : ByteArray) : (∃ k, k < 15 ∧ bs (kR k).word = s) ∨ (∀ k, k < 15 → bs (kR k).word ≠ s) := by
  by_cases h : ∃ k, k < 15 ∧ bs (kR k).word = s
  · exact .inl h
  · exact .inr fun k hk e => h ⟨k, hk, e⟩
theorem kdOf_bounds (s : ByteArray) : -1 ≤ kdOf s ∧ kdOf s < 15 := by
  rcases kd_cases s with ⟨k, hk, h⟩ | h
  · rw [kdOf_yes hk h]; omega
  · rw [kdOf_no h]; omega
/-- A text, none for a point. -/
def unpt (s : ByteArray) : ByteArray := if s = ⟨#[46]⟩ then ⟨#[]⟩ else s
theorem unpt_yes {s : ByteArray} (h : s = ⟨#[46]⟩) : unpt s = ⟨#[]⟩ := by unfold unpt; rw [if_pos h]
theorem unpt_no {s : ByteArray} (h : ¬ s = ⟨#[46]⟩) : unpt s = s := by unfold unpt; rw [if_neg h]
theorem unpt_pt {s : ByteArray} (h : FieldOk s) : unpt (pt s) = s := by
  unfold pt
  by_cases h1 : s.size = 0
  · rw [if_pos h1, unpt_yes rfl]
    refine ba_ext ?_
    have : s.data.toList = [] := by rw [List.eq_nil_iff_length_eq_zero]; simpa using h1
    rw [this]
  · rw [if_neg h1]
    rcases h with h | h
    · contradiction
    · exact unpt_no (fun e => h.2 (by rw [e]))
theorem unpt_size (s : ByteArray) : (unpt s).size ≤ s.size := by
  unfold unpt
  split
  · exact Nat.zero_le _
  · exact Nat.le_refl _
/-- What eight words are as an event: to the program, to the reference. -/
def evP (a b c d e f g h : ByteArray) : Ev := ⟨unpt a, numP b, numP c, kdOf d, unpt e, unpt f, numP g, unpt h⟩
def evR (a b c d e f g h : ByteArray) : Ev := ⟨a, numR b, numR c, kdOf d, unpt e, unpt f, numR g, unpt h⟩
theorem ev_nats {e : Ev} (h : mayB e = true) : e = ⟨e.s, (e.n.toNat : Nat), (e.a.toNat : Nat), (e.k.toNat : Nat), e.p, e.i, (e.v.toNat : Nat), e.t⟩ := by
  have f := fit_of h
  have h1 := f.n; have h2 := f.a; have h3 := f.k; have h4 := f.v
  obtain ⟨s, n, x, k, p, i, v, t⟩ := e
  simp only at *
  congr 1 <;> omega
theorem evP_words {e : Ev} (h : mayB e = true) : evP (bs e.s.data.toList) (bs (Lib.decDigits e.n.toNat)) (bs (Lib.decDigits e.a.toNat)) (bs (kR e.k.toNat).word) (bs (pt e.p).data.toList) (bs (pt e.i).data.toList) (bs (Lib.decDigits e.v.toNat)) (bs (pt e.t).data.toList) = e := by
  obtain ⟨h1, h2, h3, h4⟩ := may_fields h
  have f := fit_of h
  have q1 := f.n; have q2 := f.a; have q3 := f.k; have q4 := f.v
  unfold evP
  rw [data_bs, data_bs, data_bs, data_bs, unpt_no (fun e => name_nopt h1 (by rw [e])), numP_dec _ (by omega), numP_dec _ (by omega), numP_dec _ (by omega), kdOf_yes (k := e.k.toNat) (by omega) rfl, unpt_pt h2, unpt_pt h3, unpt_pt h4]
  exact (ev_nats h).symm
theorem evR_words {e : Ev} (h : mayB e = true) : evR (bs e.s.data.toList) (bs (Lib.decDigits e.n.toNat)) (bs (Lib.decDigits e.a.toNat)) (bs (kR e.k.toNat).word) (bs (pt e.p).data.toList) (bs (pt e.i).data.toList) (bs (Lib.decDigits e.v.toNat)) (bs (pt e.t).data.toList) = e := by
  obtain ⟨h1, h2, h3, h4⟩ := may_fields h
  have f := fit_of h
  have q1 := f.n; have q2 := f.a; have q3 := f.k; have q4 := f.v
  unfold evR
  rw [data_bs, data_bs, data_bs, data_bs, numR_dec _ (by omega), numR_dec _ (by omega), numR_dec _ (by omega), kdOf_yes (k := e.k.toNat) (by omega) rfl, unpt_pt h2, unpt_pt h3, unpt_pt h4]
  exact (ev_nats h).symm
/-- The text is the event's. -/
def Is (s : ByteArray) (e : Ev) : Prop := mayB e = true ∧ fmtL e = s.data.toList
theorem Is.parts {s : ByteArray} {e : Ev} (h : Is s e) : partsB 32 s = (evWords e).map bs := by
  unfold partsB; rw [← h.2, fmt_parts h.1]
theorem Is.one {s : ByteArray} {a b : Ev} (h : Is s a) (g : Is s b) : a = b := fmt_inj h.1 g.1 (h.2.trans g.2.symm)
theorem eight {α : Type} {l : List α} (h : l.length = 8) : ∃ a b c d e f g x, l = [a, b, c, d, e, f, g, x] := by
  match l, h with
  | [a, b, c, d, e, f, g, x], _ => exact ⟨a, b, c, d, e, f, g, x, rfl⟩
theorem Is.words {s : ByteArray} {e : Ev} (h : Is s e) : ∃ a b c d p i v t, partsB 32 s = [a, b, c, d, p, i, v, t] ∧ evP a b c d p i v t = e ∧ evR a b c d p i v t = e :=
  ⟨_, _, _, _, _, _, _, _, h.parts, evP_words h.1, evR_words h.1⟩
end Go.Proofs.YthfhfekneahonaaDoor
