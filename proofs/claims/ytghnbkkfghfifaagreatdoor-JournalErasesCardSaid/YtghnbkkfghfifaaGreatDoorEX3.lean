/- Decode, as a whole. -/
import Derived.Test.YtghnbkkfghfifaaGreatDoorEX2
namespace Go.Proofs.YtghnbkkfghfifaaGreatDoor.E
open Go.RowKit
set_option linter.unusedVariables false
theorem bind_inv {α β : Type} {x : Rd α} {f : α → List UInt8 → Rd β} {b : β} {r : List UInt8} (h : x.bind f = .ok b r) : ∃ a r', x = .ok a r' ∧ f a r' = .ok b r := by
  cases x with
  | bad c => cases h
  | ok a r' => exact ⟨a, r', rfl, h⟩
theorem rdTxt_inv {l : List UInt8} {s : ByteArray} {r : List UInt8} (h : rdTxt l = .ok s r) : txtL s ++ r = l := by
  cases l with
  | nil => cases h
  | cons c l =>
    have h' : (if l.length < c.toNat then Rd.bad 3 else Rd.ok (bs (l.take c.toNat)) (l.drop c.toNat)) = Rd.ok s r := h
    by_cases hlt : l.length < c.toNat
    · rw [if_pos hlt] at h'; cases h'
    · rw [if_neg hlt] at h'
      injection h' with h1 h2
      subst h1 h2
      have hsz : (bs (l.take c.toNat)).size = c.toNat := by
        have e : (bs (l.take c.toNat)).size = (l.take c.toNat).length := rfl
        rw [e, List.length_take]; omega
      unfold txtL
      rw [hsz]
      have e1 : c.toNat.toUInt8 = c := by simp
      have e2 : (bs (l.take c.toNat)).data.toList = l.take c.toNat := bs_data _
      rw [e1, e2, List.cons_append, List.take_append_drop]
theorem rdNumF_inv : ∀ (f : Nat) (later : Bool) (l : List UInt8) (n : Nat) (r : List UInt8), rdNumF f later l = .ok n r → numL n ++ r = l ∧ (later = true → 0 < n)
  | 0, _, _, _, _, h => by cases h
  | f + 1, _, [], _, _, h => by cases h
  | f + 1, later, c :: l, n, r, h => by
    unfold rdNumF at h
    by_cases hc : c.toNat < 128
    · rw [if_pos hc] at h
      by_cases h0 : c.toNat = 0 ∧ later = true
      · rw [if_pos h0] at h; cases h
      · rw [if_neg h0] at h
        injection h with h1 h2
        subst h1 h2
        refine ⟨?_, fun hl => ?_⟩
        · rw [numL_small hc]
          have : c.toNat.toUInt8 = c := by simp
          rw [this]; rfl
        · have : ¬ c.toNat = 0 := fun e => h0 ⟨e, hl⟩
          omega
    · rw [if_neg hc] at h
      obtain ⟨m, r', h1, h2⟩ := bind_inv h
      obtain ⟨h3, h4⟩ := rdNumF_inv f true l m r' h1
      injection h2 with h5 h6
      subst h5 h6
      have hm := h4 rfl
      have hlt := c.toNat_lt
      refine ⟨?_, fun _ => by omega⟩
      rw [numL_big (by omega)]
      have e1 : (c.toNat % 128 + 128 * m) % 128 + 128 = c.toNat := by omega
      have e2 : (c.toNat % 128 + 128 * m) / 128 = m := by omega
      rw [e1, e2]
      have : c.toNat.toUInt8 = c := by simp
      rw [this, List.cons_append, h3]
theorem rdNum_inv {l : List UInt8} {n : Nat} {r : List UInt8} (h : rdNum l = .ok n r) : numL n ++ r = l := (rdNumF_inv 6 false l n r h).1
theorem rdOne_inv {l : List UInt8} {c : UInt8} {r : List UInt8} (h : rdOne l = .ok c r) : c :: r = l := by
  cases l with
  | nil => cases h
  | cons a l => injection h with h1 h2; subst h1 h2; rfl
theorem rdEv_inv {l : List UInt8} {e : Ev} {r : List UInt8} (h : rdEv l = .ok e r) : encL e ++ r = l := by
  unfold rdEv at h
  obtain ⟨k, l1, h1, h⟩ := bind_inv h
  obtain ⟨s, l2, h2, h⟩ := bind_inv h
  obtain ⟨n, l3, h3, h⟩ := bind_inv h
  obtain ⟨a, l4, h4, h⟩ := bind_inv h
  obtain ⟨p, l5, h5, h⟩ := bind_inv h
  obtain ⟨i, l6, h6, h⟩ := bind_inv h
  obtain ⟨v, l7, h7, h⟩ := bind_inv h
  obtain ⟨t, l8, h8, h⟩ := bind_inv h
  injection h with h9 h10
  subst h9 h10
  unfold encL
  simp only [Int.toNat_natCast]
  have hk : k.toNat.toUInt8 = k := by simp
  rw [hk, ← rdOne_inv h1, ← rdTxt_inv h2, ← rdNum_inv h3, ← rdNum_inv h4, ← rdTxt_inv h5, ← rdTxt_inv h6, ← rdNum_inv h7, ← rdTxt_inv h8]
  simp only [List.append_assoc, List.cons_append]
  rfl
/-- What is decoded is encoded as it was. -/
theorem decL_inv {l : List UInt8} {e : Ev} {r : List UInt8} (h : decL l = .ok e r) : encL e ++ r = l ∧ mayB e = true := by
  obtain ⟨e', r', h1, h2⟩ := bind_inv h
  by_cases hm : mayB e' = true
  · rw [if_pos hm] at h2
    injection h2 with h3 h4
    subst h3 h4
    exact ⟨rdEv_inv h1, hm⟩
  · rw [if_neg hm] at h2; cases h2
theorem dec_good (v : Value) (l : List UInt8) (e : Ev) (r : List UInt8) (h : decL l = .ok e r) (hll : l.length ≤ 9223372036854775807) (w : World) (hL : Lay w) (hv : Seen w w.heap.size v l) :
    Calls Tryz.prog 110 #[v] w fun e' w' => e' = .returned (.tuple #[.agg #[.string e.s, .int .i64 e.n, .int .i64 e.a, .int .i64 e.k, .string e.p, .string e.i, .int .i64 e.v, .string e.t], .int .i64 ((l.length : Int) - r.length), .int .i64 0]) ∧ Below w.heap.size w w' := by
  have hlen := congrArg List.length (decL_inv h).1
  rw [List.length_append] at hlen
  obtain ⟨p, cap, rfl⟩ := hv.shape
  obtain ⟨k, s, n, a, p', i, v, t, x1, x2, x3, x4, x5, x6, x7, x8, hc⟩ := chain l
  unfold decL at h
  rw [hc.ev] at h
  cases x8 with
  | bad c => cases h
  | ok u r8 =>
    simp only [bind_ok] at h
    by_cases hm : mayB ⟨s, n, a, k.toNat, p', i, v, t⟩ = true
    · rw [if_pos hm] at h
      injection h with h1 h2
      subst h1 h2
      exact dec_walk_good l k s n a p' i v t x1 x2 x3 x4 x5 x6 x7 p cap _ hc hm hll (by omega) w hL hv
    · rw [if_neg hm] at h; cases h
theorem dec_bad (v : Value) (l : List UInt8) (c : Int) (h : decL l = .bad c) (w : World) (hL : Lay w) (hv : Seen w w.heap.size v l) :
    Calls Tryz.prog 110 #[v] w fun e' w' => e' = .returned (.tuple #[.agg #[.string ⟨#[]⟩, .int .i64 0, .int .i64 0, .int .i64 0, .string ⟨#[]⟩, .string ⟨#[]⟩, .int .i64 0, .string ⟨#[]⟩], .int .i64 0, .int .i64 c]) ∧ Below w.heap.size w w' := by
  obtain ⟨p, cap, rfl⟩ := hv.shape
  obtain ⟨k, s, n, a, p', i, v, t, x1, x2, x3, x4, x5, x6, x7, x8, hc⟩ := chain l
  unfold decL at h
  rw [hc.ev] at h
  cases x8 with
  | bad c' =>
    simp only [bind_bad] at h
    injection h with h
    subst h
    exact dec_walk_bad l k s n a p' i v t x1 x2 x3 x4 x5 x6 x7 p cap _ hc w hL hv
  | ok u r8 =>
    simp only [bind_ok] at h
    by_cases hm : mayB ⟨s, n, a, k.toNat, p', i, v, t⟩ = true
    · rw [if_pos hm] at h; cases h
    · rw [if_neg hm] at h
      injection h with h
      subst h
      exact dec_walk_not l k s n a p' i v t x1 x2 x3 x4 x5 x6 x7 p cap _ hc (by simpa using hm) w hL hv
end Go.Proofs.YtghnbkkfghfifaaGreatDoor.E
