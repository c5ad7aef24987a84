/- Torn bytes, plainly. -/
import Derived.Test.YthfhfekneahonaaDoorR
namespace Go.Proofs.YthfhfekneahonaaDoor
open Go.RowKit
set_option linter.unusedVariables false
theorem torn_bind {α β : Type} {f : List UInt8 → Rd α} {g : α → List UInt8 → Rd β} {A B : List UInt8} {x : α} (h1 : ∀ r, f (A ++ r) = .ok x r) (h2 : ∀ m, m < A.length → f (A.take m) = .bad 3) (h3 : ∀ m, m < B.length → g x (B.take m) = .bad 3) :
    ∀ m, m < (A ++ B).length → (f ((A ++ B).take m)).bind g = .bad 3 := by
  intro m hm
  rw [List.length_append] at hm
  by_cases h : m < A.length
  · rw [List.take_append_of_le_length (by omega), h2 m h]; rfl
  · have e : (A ++ B).take m = A ++ B.take (m - A.length) := by
      rw [List.take_append, List.take_of_length_le (by omega)]
    rw [e, h1]
    exact h3 _ (by omega)
theorem rdOne_torn (c : UInt8) (m : Nat) (h : m < [c].length) : rdOne ([c].take m) = .bad 3 := by
  have : m = 0 := by simpa using h
  subst this; rfl
theorem rdTxt_torn (s : ByteArray) (hs : s.size ≤ 255) (m : Nat) (h : m < (txtL s).length) : rdTxt ((txtL s).take m) = .bad 3 := by
  rw [txtL_len] at h
  cases m with
  | zero => rfl
  | succ m =>
    have h1 : s.size.toUInt8.toNat = s.size := by simp; omega
    show (if (s.data.toList.take m).length < s.size.toUInt8.toNat then Rd.bad 3 else _) = _
    rw [if_pos]
    rw [h1, List.length_take]
    omega
theorem rdNumF_torn : ∀ (f n : Nat) (later : Bool) (m : Nat), 0 < f → n < 128 ^ f → m < (numL n).length → rdNumF f later ((numL n).take m) = .bad 3
  | 0, _, _, _, h, _, _ => by omega
  | f + 1, n, later, 0, _, hn, hm => rfl
  | f + 1, n, later, m + 1, _, hn, hm => by
    by_cases hs : n < 128
    · rw [numL_small hs] at hm; simp at hm
    · rw [numL_big hs] at hm ⊢
      have h1 : (n % 128 + 128).toUInt8.toNat = n % 128 + 128 := by simp; omega
      have hf : 0 < f := by
        rcases Nat.eq_zero_or_pos f with h | h
        · subst h; simp at hn; omega
        · exact h
      have ih := rdNumF_torn f (n / 128) true m hf (by rw [Nat.div_lt_iff_lt_mul (by omega)]; rw [Nat.pow_succ] at hn; exact hn) (by simpa using hm)
      show rdNumF (f + 1) later ((n % 128 + 128).toUInt8 :: (numL (n / 128)).take m) = _
      unfold rdNumF
      rw [h1, if_neg (by omega), ih]; rfl
theorem rdNum_torn (n : Nat) (hn : n ≤ 1099511627776) (m : Nat) (h : m < (numL n).length) : rdNum ((numL n).take m) = .bad 3 := rdNumF_torn 6 n false m (by omega) (by omega) h
theorem rdOne_ok' (c : UInt8) (r : List UInt8) : rdOne ([c] ++ r) = .ok c r := rfl
/-- Cut anywhere the bytes are torn. -/
theorem decL_torn (e : Ev) (h : mayB e = true) (m : Nat) (hm : m < (encL e).length) : decL ((encL e).take m) = .bad 3 := by
  obtain ⟨h1, h2, h3, h4, h5, h6, h7, h8⟩ := fit_of h
  have key : rdEv ((encL e).take m) = .bad 3 := by
    unfold encL at hm ⊢
    rw [List.append_assoc, List.append_assoc, List.append_assoc, List.append_assoc, List.append_assoc, List.append_assoc] at hm ⊢
    unfold rdEv
    refine torn_bind (rdOne_ok' _) (fun m hm => rdOne_torn _ m hm) ?_ m hm
    refine torn_bind (fun r => rdTxt_ok _ (by omega) r) (fun m hm => rdTxt_torn _ (by omega) m hm) ?_
    refine torn_bind (fun r => rdNum_ok _ (by omega) r) (fun m hm => rdNum_torn _ (by omega) m hm) ?_
    refine torn_bind (fun r => rdNum_ok _ (by omega) r) (fun m hm => rdNum_torn _ (by omega) m hm) ?_
    refine torn_bind (fun r => rdTxt_ok _ (by omega) r) (fun m hm => rdTxt_torn _ (by omega) m hm) ?_
    refine torn_bind (fun r => rdTxt_ok _ (by omega) r) (fun m hm => rdTxt_torn _ (by omega) m hm) ?_
    refine torn_bind (fun r => rdNum_ok _ (by omega) r) (fun m hm => rdNum_torn _ (by omega) m hm) ?_
    intro m hm
    rw [rdTxt_torn _ (by omega) m hm]; rfl
  unfold decL
  rw [key]; rfl
end Go.Proofs.YthfhfekneahonaaDoor
