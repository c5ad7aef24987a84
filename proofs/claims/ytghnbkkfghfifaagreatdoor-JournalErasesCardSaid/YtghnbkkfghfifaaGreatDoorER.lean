/- What bytes are, plainly. -/
import Derived.Test.YtghnbkkfghfifaaGreatDoorEN
namespace Go.Proofs.YtghnbkkfghfifaaGreatDoor.E
open Go.RowKit
set_option linter.unusedVariables false
/-- What a field's reading gives: the value, and what is left; or what is wrong (2: ErrForm, 3: ErrTorn). -/
inductive Rd (α : Type) where
  | ok (x : α) (r : List UInt8)
  | bad (c : Int)
def Rd.bind {α β : Type} (x : Rd α) (f : α → List UInt8 → Rd β) : Rd β := match x with
  | .ok a r => f a r
  | .bad c => .bad c
def rdOne : List UInt8 → Rd UInt8
  | [] => .bad 3
  | c :: r => .ok c r
def rdTxt : List UInt8 → Rd ByteArray
  | [] => .bad 3
  | c :: r => if r.length < c.toNat then .bad 3 else .ok (bs (r.take c.toNat)) (r.drop c.toNat)
/-- f groups may come; is one read? -/
def rdNumF : Nat → Bool → List UInt8 → Rd Nat
  | 0, _, _ => .bad 2
  | _ + 1, _, [] => .bad 3
  | f + 1, later, c :: r => if c.toNat < 128 then (if c.toNat = 0 ∧ later = true then .bad 2 else .ok c.toNat r) else (rdNumF f true r).bind fun n r' => .ok (c.toNat % 128 + 128 * n) r'
def rdNum (l : List UInt8) : Rd Nat := rdNumF 6 false l
def rdEv (l : List UInt8) : Rd Ev :=
  (rdOne l).bind fun k l => (rdTxt l).bind fun s l => (rdNum l).bind fun n l => (rdNum l).bind fun a l => (rdTxt l).bind fun p l => (rdTxt l).bind fun i l => (rdNum l).bind fun v l => (rdTxt l).bind fun t l =>
    .ok ⟨s, n, a, k.toNat, p, i, v, t⟩ l
/-- The event with which bytes begin. -/
def decL (l : List UInt8) : Rd Ev := (rdEv l).bind fun e r => if mayB e then .ok e r else .bad 2
theorem rdTxt_ok (s : ByteArray) (h : s.size ≤ 255) (r : List UInt8) : rdTxt (txtL s ++ r) = .ok s r := by
  unfold txtL
  have h1 : s.size.toUInt8.toNat = s.size := by simp; omega
  have h2 : s.data.toList.length = s.size := by simp
  show (if (s.data.toList ++ r).length < s.size.toUInt8.toNat then Rd.bad 3 else Rd.ok (bs ((s.data.toList ++ r).take s.size.toUInt8.toNat)) ((s.data.toList ++ r).drop s.size.toUInt8.toNat)) = _
  rw [h1, if_neg (by rw [List.length_append]; omega), List.take_append_of_le_length (by omega), List.take_of_length_le (by omega), data_bs]
  have : (s.data.toList ++ r).drop s.size = r := by rw [← h2]; exact List.drop_left
  rw [this]
theorem rdNumF_ok : ∀ (f n : Nat) (later : Bool) (r : List UInt8), 0 < f → n < 128 ^ f → (later = true → 0 < n) → rdNumF f later (numL n ++ r) = .ok n r
  | 0, _, _, _, h, _, _ => by omega
  | f + 1, n, later, r, _, hn, hl => by
    by_cases hs : n < 128
    · rw [numL_small hs]
      have h1 : n.toUInt8.toNat = n := by simp; omega
      show rdNumF (f + 1) later (n.toUInt8 :: r) = _
      unfold rdNumF
      rw [h1, if_pos hs, if_neg (fun h => by have := hl h.2; omega)]
    · rw [numL_big hs]
      have h1 : (n % 128 + 128).toUInt8.toNat = n % 128 + 128 := by simp; omega
      have hf : 0 < f := by
        rcases Nat.eq_zero_or_pos f with h | h
        · subst h; simp at hn; omega
        · exact h
      have ih := rdNumF_ok f (n / 128) true r hf (by rw [Nat.div_lt_iff_lt_mul (by omega)]; rw [Nat.pow_succ] at hn; exact hn) (fun _ => by omega)
      show rdNumF (f + 1) later ((n % 128 + 128).toUInt8 :: (numL (n / 128) ++ r)) = _
      unfold rdNumF
      rw [h1, if_neg (by omega), ih]
      show Rd.ok _ _ = _
      have : (n % 128 + 128) % 128 + 128 * (n / 128) = n := by omega
      rw [this]
theorem rdNum_ok (n : Nat) (h : n ≤ 1099511627776) (r : List UInt8) : rdNum (numL n ++ r) = .ok n r := rdNumF_ok 6 n false r (by omega) (by omega) (fun h => by cases h)
theorem rdEv_ok (e : Ev) (h : Fit e) (r : List UInt8) : rdEv (encL e ++ r) = .ok e r := by
  obtain ⟨h1, h2, h3, h4, h5, h6, h7, h8⟩ := h
  have hk : e.k.toNat.toUInt8.toNat = e.k.toNat := by simp; omega
  unfold encL
  rw [List.append_assoc, List.append_assoc, List.append_assoc, List.append_assoc, List.append_assoc, List.append_assoc, List.append_assoc]
  unfold rdEv
  show (Rd.ok e.k.toNat.toUInt8 (txtL e.s ++ (numL e.n.toNat ++ (numL e.a.toNat ++ (txtL e.p ++ (txtL e.i ++ (numL e.v.toNat ++ (txtL e.t ++ r)))))))).bind _ = _
  simp only [Rd.bind]
  rw [rdTxt_ok _ (by omega)]
  simp only
  rw [rdNum_ok _ (by omega)]
  simp only
  rw [rdNum_ok _ (by omega)]
  simp only
  rw [rdTxt_ok _ (by omega)]
  simp only
  rw [rdTxt_ok _ (by omega)]
  simp only
  rw [rdNum_ok _ (by omega)]
  simp only
  rw [rdTxt_ok _ (by omega)]
  simp only [hk]
  obtain ⟨s, n, a, k, p, i, v, t⟩ := e
  simp only at *
  rw [Int.toNat_of_nonneg (by omega), Int.toNat_of_nonneg (by omega), Int.toNat_of_nonneg (by omega), Int.toNat_of_nonneg (by omega)]
theorem decL_ok (e : Ev) (h : mayB e = true) (r : List UInt8) : decL (encL e ++ r) = .ok e r := by
  unfold decL
  rw [rdEv_ok e (fit_of h)]
  simp only [Rd.bind]
  rw [if_pos h]
/-- Neither one's bytes go on as the other one's. -/
theorem encL_inj {a b : Ev} {r q : List UInt8} (ha : mayB a = true) (hb : mayB b = true) (h : encL a ++ r = encL b ++ q) : a = b := by
  have h1 := decL_ok a ha r
  rw [h, decL_ok b hb q] at h1
  injection h1 with h1 _
  exact h1.symm
end Go.Proofs.YtghnbkkfghfifaaGreatDoor.E
