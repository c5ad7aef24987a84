/- Several texts in one: FB, FA, FC, FD, FE, FF, FG, FH, FI, FJ, FK, FM. -/
import Derived.WalkKit
import Derived.Test.YtghnbkkfghfifaaGreatDoorProg
import Derived.LoopTactic
import Derived.Lib.Hide
import Derived.Lib.AppendStr
import Derived.Lib.Strings
import Derived.WalkLawsBesides
import Derived.WalkSpells
import Derived.WalkSmall
import Derived.Deep.QuietTactic
import Derived.BigQuiet
import Derived.Outline
import Derived.BigGuardPart
import Derived.Deep.AppendLies
import Derived.Deep.MidRow
import Derived.Deep.RegionLaw
import Derived.Laws.AppendOwnNone
import Derived.Laws.CopyOwn
import Derived.FnLit
import Derived.LoopN
import Derived.Lib.SlBytesConst
import Derived.BigRegion
import Derived.Deep.DeepCutAuto
/- Frames, plainly. -/
namespace Go.Proofs.YtghnbkkfghfifaaGreatDoor.F
set_option linter.unusedVariables false
/-- The sum's two numbers, one byte on. -/
def stepS (a : Nat × Nat) (c : UInt8) : Nat × Nat := ((a.1 + c.toNat) % 65521, (a.2 + (a.1 + c.toNat) % 65521) % 65521)
def sumP (l : List UInt8) : Nat × Nat := l.foldl stepS (1, 0)
def sumN (l : List UInt8) : Nat := (sumP l).2 * 65536 + (sumP l).1
theorem sumP_nil : sumP [] = (1, 0) := rfl
theorem sumP_snoc (l : List UInt8) (c : UInt8) : sumP (l ++ [c]) = stepS (sumP l) c := by unfold sumP; rw [List.foldl_append]; rfl
theorem fold_lt : ∀ (l : List UInt8) (a : Nat × Nat), a.1 < 65521 → a.2 < 65521 → (l.foldl stepS a).1 < 65521 ∧ (l.foldl stepS a).2 < 65521
  | [], a, h1, h2 => ⟨h1, h2⟩
  | c :: l, a, h1, h2 => by
    rw [List.foldl_cons]
    exact fold_lt l _ (by unfold stepS; simp only; omega) (by unfold stepS; simp only; omega)
theorem sumP_lt (l : List UInt8) : (sumP l).1 < 65521 ∧ (sumP l).2 < 65521 := fold_lt l _ (by decide) (by decide)
theorem sumN_lt (l : List UInt8) : sumN l < 4294967296 := by have := sumP_lt l; unfold sumN; omega
theorem fold_fst : ∀ (l : List UInt8) (a : Nat × Nat), (l.foldl stepS a).1 % 65521 = (a.1 + (l.map (·.toNat)).sum) % 65521
  | [], a => by simp
  | c :: l, a => by
    rw [List.foldl_cons, fold_fst l, List.map_cons, List.sum_cons]
    unfold stepS
    simp only
    omega
theorem sum_turn (u v : List UInt8) (x y : UInt8) (h : x ≠ y) : sumN (u ++ x :: v) ≠ sumN (u ++ y :: v) := by
  intro e
  have h1 := fold_fst (u ++ x :: v) (1, 0)
  have h2 := fold_fst (u ++ y :: v) (1, 0)
  have l1 := sumP_lt (u ++ x :: v)
  have l2 := sumP_lt (u ++ y :: v)
  simp only [List.map_append, List.map_cons, List.sum_append, List.sum_cons] at h1 h2
  unfold sumN at e
  unfold sumP at e l1 l2
  have hx := x.toNat_lt
  have hy := y.toNat_lt
  exact h (UInt8.toNat_inj.1 (by omega))
/-- A number in so many bytes, the highest first. -/
def beL : Nat → Nat → List UInt8
  | 0, _ => []
  | k + 1, n => beL k (n / 256) ++ [(n % 256).toUInt8]
theorem beL_len : ∀ k n, (beL k n).length = k
  | 0, _ => rfl
  | k + 1, n => by unfold beL; rw [List.length_append, beL_len k]; rfl
def valN (l : List UInt8) : Nat := l.foldl (fun n c => n * 256 + c.toNat) 0
theorem valN_snoc (l : List UInt8) (c : UInt8) : valN (l ++ [c]) = valN l * 256 + c.toNat := by unfold valN; rw [List.foldl_append]; rfl
theorem valN_beL : ∀ k n, n < 256 ^ k → valN (beL k n) = n
  | 0, n, h => by
    obtain rfl : n = 0 := by simpa using h
    rfl
  | k + 1, n, h => by
    unfold beL
    rw [valN_snoc, valN_beL k (n / 256) (by rw [Nat.div_lt_iff_lt_mul (by omega)]; rw [Nat.pow_succ] at h; exact h)]
    have : (n % 256).toUInt8.toNat = n % 256 := by simp
    rw [this]; omega
theorem fold_val : ∀ (l : List UInt8) (a : Nat), l.foldl (fun n c => n * 256 + c.toNat) a = a * 256 ^ l.length + valN l
  | [], a => by simp [valN]
  | c :: l, a => by
    have h1 := fold_val l (a * 256 + c.toNat)
    have h2 := fold_val l (0 * 256 + c.toNat)
    unfold valN
    rw [List.foldl_cons, List.foldl_cons, h1, h2, List.length_cons, Nat.pow_succ, Nat.add_mul, Nat.zero_mul, Nat.zero_add]
    have : a * 256 * 256 ^ l.length = a * (256 ^ l.length * 256) := by rw [Nat.mul_assoc, Nat.mul_comm 256]
    omega
theorem valN_lt : ∀ (k : Nat) (l : List UInt8), l.length = k → valN l < 256 ^ k
  | 0, l, h => by
    obtain rfl : l = [] := List.length_eq_zero_iff.1 h
    decide
  | k + 1, l, h => by
    have hne : l ≠ [] := by rintro rfl; simp at h
    have e := List.dropLast_concat_getLast hne
    have ih := valN_lt k l.dropLast (by rw [List.length_dropLast]; omega)
    rw [← e, valN_snoc, Nat.pow_succ]
    have := (l.getLast hne).toNat_lt
    omega
theorem val_turn (u v : List UInt8) (x y : UInt8) (h : x ≠ y) : valN (u ++ x :: v) ≠ valN (u ++ y :: v) := by
  intro e
  have h1 : ∀ z : UInt8, valN (u ++ z :: v) = (valN u * 256 + z.toNat) * 256 ^ v.length + valN v := fun z => by
    have := fold_val v (valN u * 256 + z.toNat)
    unfold valN at *
    rw [List.foldl_append, List.foldl_cons, this]
  rw [h1, h1] at e
  have e2 : (valN u * 256 + x.toNat) * 256 ^ v.length = (valN u * 256 + y.toNat) * 256 ^ v.length := by omega
  have e3 := Nat.eq_of_mul_eq_mul_right (Nat.pow_pos (by omega)) e2
  exact h (UInt8.toNat_inj.1 (by omega))
/-- Each byte taken from 255. -/
def inv (c : UInt8) : UInt8 := 255 - c
theorem inv_nat (c : UInt8) : (inv c).toNat = 255 - c.toNat := by
  have := c.toNat_lt
  unfold inv
  rw [UInt8.toNat_sub]
  show (2 ^ 8 - c.toNat + 255) % 2 ^ 8 = _
  omega
theorem inv_inj {a b : UInt8} (h : inv a = inv b) : a = b := by
  have := congrArg UInt8.toNat h
  rw [inv_nat, inv_nat] at this
  have := a.toNat_lt
  have := b.toNat_lt
  exact UInt8.toNat_inj.1 (by omega)
def headL (n : Nat) : List UInt8 := beL 3 n ++ (beL 3 n).map inv
theorem headL_len (n : Nat) : (headL n).length = 6 := by unfold headL; rw [List.length_append, List.length_map, beL_len]
def frontL (p : List UInt8) : List UInt8 := headL p.length ++ p
theorem frontL_len (p : List UInt8) : (frontL p).length = 6 + p.length := by unfold frontL; rw [List.length_append, headL_len]
/-- A payload's frame. -/
def frameL (p : List UInt8) : List UInt8 := frontL p ++ beL 4 (sumN (frontL p))
theorem frameL_len (p : List UInt8) : (frameL p).length = p.length + 10 := by unfold frameL; rw [List.length_append, frontL_len, beL_len]; omega
/-- The second three are as the first three say, as far as both are there. -/
def Like (l : List UInt8) : Prop := ∀ i, 3 ≤ i → i < 6 → i < l.length → l.getD i 0 = inv (l.getD (i - 3) 0)
def likeB (l : List UInt8) : Bool := (List.range 3).all fun k => decide (l.length ≤ k + 3) || decide (l.getD (k + 3) 0 = inv (l.getD k 0))
theorem like_iff (l : List UInt8) : likeB l = true ↔ Like l := by
  unfold likeB Like
  rw [List.all_eq_true]
  constructor
  · intro h i h1 h2 h3
    have := h (i - 3) (by simp; omega)
    rw [show i - 3 + 3 = i by omega] at this
    simp only [Bool.or_eq_true, decide_eq_true_eq] at this
    rcases this with h | h
    · omega
    · exact h
  · intro h k hk
    have hk : k < 3 := by simpa using hk
    simp only [Bool.or_eq_true, decide_eq_true_eq]
    by_cases h3 : l.length ≤ k + 3
    · exact .inl h3
    · exact .inr (by have := h (k + 3) (by omega) (by omega) (by omega); simpa using this)
theorem like_no {l : List UInt8} {i : Nat} (h1 : 3 ≤ i) (h2 : i < 6) (h3 : i < l.length) (h : l.getD i 0 ≠ inv (l.getD (i - 3) 0)) : likeB l = false := by
  rw [Bool.eq_false_iff]
  intro e
  exact h ((like_iff l).1 e i h1 h2 h3)
/-- How bytes go on: how many bytes the frame has, and the state. -/
def openS (l : List UInt8) : Nat × Nat :=
  if likeB l = false then (0, 2) else
  if l.length < 3 then (0, 1) else
  if 65536 < valN (l.take 3) then (0, 2) else
  if l.length < 10 + valN (l.take 3) then (0, 1) else
  if valN ((l.take (10 + valN (l.take 3))).drop (6 + valN (l.take 3))) ≠ sumN (l.take (6 + valN (l.take 3))) then (0, 2) else
  (10 + valN (l.take 3), 0)
def openP (l : List UInt8) : List UInt8 := if (openS l).2 = 0 then (l.take ((openS l).1 - 4)).drop 6 else []
theorem open1 {l : List UInt8} (h : likeB l = false) : openS l = (0, 2) := by unfold openS; rw [if_pos h]
theorem open2 {l : List UInt8} (h : likeB l = true) (h2 : l.length < 3) : openS l = (0, 1) := by unfold openS; rw [if_neg (by rw [h]; decide), if_pos h2]
theorem open3 {l : List UInt8} (h : likeB l = true) (h2 : ¬ l.length < 3) (h3 : 65536 < valN (l.take 3)) : openS l = (0, 2) := by unfold openS; rw [if_neg (by rw [h]; decide), if_neg h2, if_pos h3]
theorem open4 {l : List UInt8} {n : Nat} (h : likeB l = true) (h2 : ¬ l.length < 3) (hn : valN (l.take 3) = n) (h3 : ¬ 65536 < n) (h4 : l.length < 10 + n) : openS l = (0, 1) := by unfold openS; rw [hn, if_neg (by rw [h]; decide), if_neg h2, if_neg h3, if_pos h4]
theorem open5 {l : List UInt8} {n : Nat} (h : likeB l = true) (h2 : ¬ l.length < 3) (hn : valN (l.take 3) = n) (h3 : ¬ 65536 < n) (h4 : ¬ l.length < 10 + n) (h5 : valN ((l.take (10 + n)).drop (6 + n)) ≠ sumN (l.take (6 + n))) : openS l = (0, 2) := by unfold openS; rw [hn, if_neg (by rw [h]; decide), if_neg h2, if_neg h3, if_neg h4, if_pos h5]
theorem open6 {l : List UInt8} {n : Nat} (h : likeB l = true) (h2 : ¬ l.length < 3) (hn : valN (l.take 3) = n) (h3 : ¬ 65536 < n) (h4 : ¬ l.length < 10 + n) (h5 : valN ((l.take (10 + n)).drop (6 + n)) = sumN (l.take (6 + n))) : openS l = (10 + n, 0) := by unfold openS; rw [hn, if_neg (by rw [h]; decide), if_neg h2, if_neg h3, if_neg h4, if_neg (by rw [h5]; simp)]
theorem openP_no {l : List UInt8} {s : Nat} (h : openS l = (0, s)) (hs : s ≠ 0) : openP l = [] := by unfold openP; rw [h, if_neg (by simpa using hs)]
theorem openP_yes {l : List UInt8} {n : Nat} (h : openS l = (10 + n, 0)) : openP l = (l.take (6 + n)).drop 6 := by
  unfold openP; rw [h, if_pos rfl]; simp only; rw [show 10 + n - 4 = 6 + n by omega]
theorem open_cases (l : List UInt8) : openS l = (0, 1) ∨ openS l = (0, 2) ∨ ∃ n, n ≤ 65536 ∧ 10 + n ≤ l.length ∧ openS l = (10 + n, 0) := by
  unfold openS
  split
  · exact .inr (.inl rfl)
  split
  · exact .inl rfl
  split
  · exact .inr (.inl rfl)
  split
  · exact .inl rfl
  split
  · exact .inr (.inl rfl)
  · exact .inr (.inr ⟨_, by omega, by omega, rfl⟩)
theorem head3 (n : Nat) : headL n = [(n / 256 / 256 % 256).toUInt8, (n / 256 % 256).toUInt8, (n % 256).toUInt8, inv (n / 256 / 256 % 256).toUInt8, inv (n / 256 % 256).toUInt8, inv (n % 256).toUInt8] := rfl
theorem getD_left {a b : List UInt8} {i : Nat} (h : i < a.length) : (a ++ b).getD i 0 = a.getD i 0 := by
  rw [List.getD_eq_getElem?_getD, List.getElem?_append_left h, ← List.getD_eq_getElem?_getD]
theorem like_head (n : Nat) (r : List UInt8) : Like (headL n ++ r) := by
  intro i h1 h2 _
  rw [getD_left (by rw [headL_len]; omega), getD_left (by rw [headL_len]; omega), head3]
  have : i = 3 ∨ i = 4 ∨ i = 5 := by omega
  rcases this with rfl | rfl | rfl <;> rfl
theorem like_take {l : List UInt8} (h : Like l) (k : Nat) : Like (l.take k) := by
  intro i h1 h2 h3
  rw [List.length_take] at h3
  have e : ∀ j, j < k → (l.take k).getD j 0 = l.getD j 0 := fun j hj => by
    rw [List.getD_eq_getElem?_getD, List.getElem?_take, if_pos hj, ← List.getD_eq_getElem?_getD]
  rw [e i (by omega), e (i - 3) (by omega)]
  exact h i h1 h2 (by omega)
theorem frame_app (p r : List UInt8) : frameL p ++ r = headL p.length ++ (p ++ (beL 4 (sumN (frontL p)) ++ r)) := by
  unfold frameL frontL; simp
theorem take3_head (n : Nat) (r : List UInt8) : (headL n ++ r).take 3 = beL 3 n := by
  unfold headL
  rw [List.append_assoc]
  exact List.take_left' (beL_len 3 n)
theorem val3 {n : Nat} (h : n ≤ 65536) (r : List UInt8) : valN ((headL n ++ r).take 3) = n := by
  rw [take3_head]; exact valN_beL 3 n (by omega)
theorem open_frame (p r : List UInt8) (h : p.length ≤ 65536) : openS (frameL p ++ r) = (10 + p.length, 0) ∧ openP (frameL p ++ r) = p := by
  have hl : (frameL p ++ r).length = p.length + 10 + r.length := by rw [List.length_append, frameL_len]
  have e1 : (frameL p ++ r).take (10 + p.length) = frameL p := List.take_left' (by rw [frameL_len]; omega)
  have e2 : (frameL p ++ r).take (6 + p.length) = frontL p := by
    unfold frameL; rw [List.append_assoc]; exact List.take_left' (frontL_len p)
  have e3 : (frameL p).drop (6 + p.length) = beL 4 (sumN (frontL p)) := by
    unfold frameL; exact List.drop_left' (frontL_len p)
  have h6 : openS (frameL p ++ r) = (10 + p.length, 0) := by
    refine open6 ((like_iff _).2 (by rw [frame_app]; exact like_head _ _)) (by omega) (by rw [frame_app]; exact val3 h _) (by omega) (by omega) ?_
    rw [e1, e2, e3]
    exact valN_beL 4 _ (sumN_lt _)
  refine ⟨h6, ?_⟩
  rw [openP_yes h6, e2]
  unfold frontL
  exact List.drop_left' (headL_len _)
theorem open_cut (p : List UInt8) (h : p.length ≤ 65536) (k : Nat) (hk : k < p.length + 10) : openS ((frameL p).take k) = (0, 1) := by
  have hlk : likeB ((frameL p).take k) = true := (like_iff _).2 (like_take (by have := like_head p.length (p ++ (beL 4 (sumN (frontL p)) ++ [])); rw [← frame_app, List.append_nil] at this; exact this) k)
  have hl : ((frameL p).take k).length = k := by rw [List.length_take, frameL_len]; omega
  by_cases h3 : k < 3
  · exact open2 hlk (by omega)
  · refine open4 hlk (by omega) (n := p.length) ?_ (by omega) (by omega)
    rw [List.take_take, show min 3 k = 3 by omega]
    have := val3 h (p ++ (beL 4 (sumN (frontL p)) ++ []))
    rw [← frame_app] at this
    simpa using this
theorem xor_ne {x y : UInt8} (h : y ≠ 0) : x ^^^ y ≠ x := by
  intro e
  have : x ^^^ (x ^^^ y) = x ^^^ x := by rw [e]
  rw [← UInt8.xor_assoc, UInt8.xor_self, UInt8.zero_xor] at this
  exact h this
/-- A list of bytes, one of them another one. -/
theorem set_split (l : List UInt8) (k : Nat) (x : UInt8) (hk : k < l.length) : l = l.take k ++ l[k] :: l.drop (k + 1) ∧ l.set k x = l.take k ++ x :: l.drop (k + 1) := by
  refine ⟨?_, by rw [List.set_eq_take_append_cons_drop, if_pos hk]⟩
  conv => lhs; rw [← List.take_append_drop k l]
  rw [List.drop_eq_getElem_cons hk]
theorem open_turn (p r : List UInt8) (h : p.length ≤ 65536) (k : Nat) (hk : k < p.length + 10) (x : UInt8) (hx : x ≠ (frameL p).getD k 0) : openS ((frameL p).set k x ++ r) = (0, 2) := by
  have hlen : ((frameL p).set k x ++ r).length = p.length + 10 + r.length := by rw [List.length_append, List.length_set, frameL_len]
  by_cases h6 : k < 6
  · have es : (frameL p).set k x ++ r = (headL p.length).set k x ++ (p ++ (beL 4 (sumN (frontL p)) ++ r)) := by
      unfold frameL frontL
      rw [List.append_assoc, List.set_append_left _ _ (by rw [headL_len]; exact h6)]
      simp
    have hx' : x ≠ (headL p.length).getD k 0 := by
      have : (frameL p).getD k 0 = (headL p.length).getD k 0 := by
        unfold frameL frontL; rw [List.append_assoc]; exact getD_left (by rw [headL_len]; exact h6)
      rw [← this]; exact hx
    rw [es]
    have hs : ((headL p.length).set k x).length = 6 := by rw [List.length_set, headL_len]
    have key : ∃ i, 3 ≤ i ∧ i < 6 ∧ ((headL p.length).set k x).getD i 0 ≠ inv (((headL p.length).set k x).getD (i - 3) 0) := by
      rw [head3] at hx' ⊢
      have : k = 0 ∨ k = 1 ∨ k = 2 ∨ k = 3 ∨ k = 4 ∨ k = 5 := by omega
      rcases this with rfl | rfl | rfl | rfl | rfl | rfl
      · exact ⟨3, by omega, by omega, fun e => hx' (inv_inj e).symm⟩
      · exact ⟨4, by omega, by omega, fun e => hx' (inv_inj e).symm⟩
      · exact ⟨5, by omega, by omega, fun e => hx' (inv_inj e).symm⟩
      · exact ⟨3, by omega, by omega, hx'⟩
      · exact ⟨4, by omega, by omega, hx'⟩
      · exact ⟨5, by omega, by omega, hx'⟩
    obtain ⟨i, h1, h2, h3⟩ := key
    refine open1 (like_no h1 h2 (by rw [List.length_append, hs]; omega) ?_)
    rw [getD_left (by omega), getD_left (by omega)]
    exact h3
  · have hset : (frameL p).set k x = headL p.length ++ (p ++ beL 4 (sumN (frontL p))).set (k - 6) x := by
      unfold frameL frontL
      rw [List.append_assoc, List.set_append_right _ _ (by rw [headL_len]; omega), headL_len]
    have hlk : likeB ((frameL p).set k x ++ r) = true := (like_iff _).2 (by rw [hset, List.append_assoc]; exact like_head _ _)
    have hv : valN (((frameL p).set k x ++ r).take 3) = p.length := by rw [hset, List.append_assoc]; exact val3 h _
    refine open5 hlk (by omega) hv (by omega) (by omega) ?_
    have e1 : ((frameL p).set k x ++ r).take (10 + p.length) = (frameL p).set k x := List.take_left' (by rw [List.length_set, frameL_len]; omega)
    have hg : (frameL p).getD k 0 = (frameL p)[k]'(by rw [frameL_len]; exact hk) := by
      rw [List.getD_eq_getElem?_getD, List.getElem?_eq_getElem (by rw [frameL_len]; exact hk)]; rfl
    by_cases hp : k < 6 + p.length
    · have es : (frameL p).set k x = (frontL p).set k x ++ beL 4 (sumN (frontL p)) := by
        unfold frameL
        rw [List.set_append_left _ _ (by rw [frontL_len]; exact hp)]
      have e2 : ((frameL p).set k x ++ r).take (6 + p.length) = (frontL p).set k x := by
        rw [es, List.append_assoc]; exact List.take_left' (by rw [List.length_set, frontL_len])
      have e3 : ((frameL p).set k x).drop (6 + p.length) = beL 4 (sumN (frontL p)) := by
        rw [es]; exact List.drop_left' (by rw [List.length_set, frontL_len])
      rw [e1, e2, e3, valN_beL 4 _ (sumN_lt _)]
      obtain ⟨a1, a2⟩ := set_split (frontL p) k x (by rw [frontL_len]; exact hp)
      rw [a2]
      conv => lhs; rw [a1]
      refine sum_turn _ _ _ _ (fun e => hx ?_)
      rw [hg]
      unfold frameL
      rw [List.getElem_append_left (by rw [frontL_len]; exact hp), e]
    · have es : (frameL p).set k x = frontL p ++ (beL 4 (sumN (frontL p))).set (k - (6 + p.length)) x := by
        unfold frameL
        rw [List.set_append_right _ _ (by rw [frontL_len]; omega), frontL_len]
      have e2 : ((frameL p).set k x ++ r).take (6 + p.length) = frontL p := by
        rw [es, List.append_assoc]; exact List.take_left' (frontL_len p)
      have e3 : ((frameL p).set k x).drop (6 + p.length) = (beL 4 (sumN (frontL p))).set (k - (6 + p.length)) x := by
        rw [es]; exact List.drop_left' (frontL_len p)
      rw [e1, e2, e3]
      have hkl : k - (6 + p.length) < (beL 4 (sumN (frontL p))).length := by rw [beL_len]; omega
      obtain ⟨a1, a2⟩ := set_split (beL 4 (sumN (frontL p))) (k - (6 + p.length)) x hkl
      have hb : valN (beL 4 (sumN (frontL p))) = sumN (frontL p) := valN_beL 4 _ (sumN_lt _)
      rw [a2]
      conv => rhs; rw [← hb]
      conv => rhs; rw [a1]
      refine val_turn _ _ _ _ (fun e => hx ?_)
      rw [hg]
      unfold frameL
      rw [List.getElem_append_right (by rw [frontL_len]; omega)]
      simp only [frontL_len]
      exact e
theorem frame_inj {p q : List UInt8} (hp : p.length ≤ 65536) (hq : q.length ≤ 65536) (h : frameL p = frameL q) : p = q := by
  have h1 := (open_frame p [] hp).2
  have h2 := (open_frame q [] hq).2
  rw [← h1, ← h2, h]
/-- All frames from the front on. -/
def allF : Nat → List UInt8 → List (List UInt8) × Nat × Nat
  | 0, _ => ([], 0, 0)
  | f + 1, l => if l.length = 0 then ([], 0, 0) else if (openS l).2 = 0 then (openP l :: (allF f (l.drop (openS l).1)).1, (openS l).1 + (allF f (l.drop (openS l).1)).2.1, (allF f (l.drop (openS l).1)).2.2) else ([], 0, (openS l).2)
theorem allF_more : ∀ (f g : Nat) (l : List UInt8), l.length ≤ f → l.length ≤ g → allF f l = allF g l
  | 0, 0, _, _, _ => rfl
  | 0, g + 1, l, h, _ => by
    obtain rfl : l = [] := List.length_eq_zero_iff.1 (by omega)
    rfl
  | f + 1, 0, l, _, h => by
    obtain rfl : l = [] := List.length_eq_zero_iff.1 (by omega)
    rfl
  | f + 1, g + 1, l, h1, h2 => by
    unfold allF
    rcases open_cases l with e | e | ⟨n, _, hn, e⟩
    · rw [e]; simp
    · rw [e]; simp
    · have ih := allF_more f g (l.drop (10 + n)) (by rw [List.length_drop]; omega) (by rw [List.length_drop]; omega)
      rw [e]
      simp only
      rw [ih]
def allL (l : List UInt8) : List (List UInt8) × Nat × Nat := allF l.length l
theorem all_nil : allL [] = ([], 0, 0) := rfl
theorem all_whole {l : List UInt8} {n : Nat} (h : openS l = (10 + n, 0)) (hl : 10 + n ≤ l.length) : allL l = (openP l :: (allL (l.drop (10 + n))).1, 10 + n + (allL (l.drop (10 + n))).2.1, (allL (l.drop (10 + n))).2.2) := by
  have e : allL l = allF (l.length - 1 + 1) l := by unfold allL; rw [show l.length - 1 + 1 = l.length by omega]
  have e2 : allL (l.drop (10 + n)) = allF (l.length - 1) (l.drop (10 + n)) := allF_more _ _ _ (Nat.le_refl _) (by rw [List.length_drop]; omega)
  rw [e, e2]
  conv => lhs; unfold allF
  rw [if_neg (by omega), h, if_pos rfl]
theorem all_end {l : List UInt8} {s : Nat} (hl : 0 < l.length) (h : openS l = (0, s)) (hs : s ≠ 0) : allL l = ([], 0, s) := by
  have e : allL l = allF (l.length - 1 + 1) l := by unfold allL; rw [show l.length - 1 + 1 = l.length by omega]
  rw [e]
  unfold allF
  rw [if_neg (by omega), h, if_neg (by simpa using hs)]
theorem all_frame (p r : List UInt8) (h : p.length ≤ 65536) : allL (frameL p ++ r) = (p :: (allL r).1, 10 + p.length + (allL r).2.1, (allL r).2.2) := by
  obtain ⟨h1, h2⟩ := open_frame p r h
  rw [all_whole h1 (by rw [List.length_append, frameL_len]; omega), h2]
  have : (frameL p ++ r).drop (10 + p.length) = r := List.drop_left' (by rw [frameL_len]; omega)
  rw [this]
/-- Frames one behind the other. -/
def framesL (ps : List (List UInt8)) : List UInt8 := (ps.map frameL).flatten
theorem framesL_cons (p : List UInt8) (ps : List (List UInt8)) : framesL (p :: ps) = frameL p ++ framesL ps := by unfold framesL; simp
theorem framesL_snoc (p : List UInt8) (ps : List (List UInt8)) : framesL (ps ++ [p]) = framesL ps ++ frameL p := by unfold framesL; simp
/-- How many frames are whole in the first bytes, and where they end. -/
def wantF : List (List UInt8) → Nat → Nat × Nat
  | [], _ => (0, 0)
  | p :: ps, cut => if p.length + 10 ≤ cut then ((wantF ps (cut - (p.length + 10))).1 + 1, (wantF ps (cut - (p.length + 10))).2 + (p.length + 10)) else (0, 0)
theorem all_rows : ∀ (ps : List (List UInt8)) (cut : Nat), (∀ p ∈ ps, p.length ≤ 65536) → cut ≤ (framesL ps).length → allL ((framesL ps).take cut) = (ps.take (wantF ps cut).1, (wantF ps cut).2, if (wantF ps cut).2 = cut then 0 else 1)
  | [], cut, _, h => by
    have : cut = 0 := by simpa [framesL] using h
    subst this
    rfl
  | p :: ps, cut, hp, h => by
    have hpl := hp p (by simp)
    rw [framesL_cons] at h ⊢
    rw [List.length_append, frameL_len] at h
    unfold wantF
    by_cases hc : p.length + 10 ≤ cut
    · rw [if_pos hc]
      have ih := all_rows ps (cut - (p.length + 10)) (fun q hq => hp q (by simp [hq])) (by omega)
      have e : (frameL p ++ framesL ps).take cut = frameL p ++ (framesL ps).take (cut - (p.length + 10)) := by
        rw [List.take_append, List.take_of_length_le (by rw [frameL_len]; exact hc), frameL_len]
      rw [e, all_frame p _ hpl, ih]
      simp only [List.take_succ_cons, Prod.mk.injEq, true_and]
      refine ⟨by omega, ?_⟩
      by_cases hh : (wantF ps (cut - (p.length + 10))).2 = cut - (p.length + 10)
      · rw [if_pos hh, if_pos (by omega)]
      · rw [if_neg hh, if_neg (by omega)]
    · rw [if_neg hc]
      by_cases h0 : cut = 0
      · subst h0; simp [all_nil]
      · have e : (frameL p ++ framesL ps).take cut = (frameL p).take cut := List.take_append_of_le_length (by rw [frameL_len]; omega)
        rw [e, all_end (by rw [List.length_take, frameL_len]; omega) (open_cut p hpl cut (by omega)) (by decide)]
        simp only [List.take_zero, Prod.mk.injEq, true_and]
        rw [if_neg (by omega)]
theorem want_step : ∀ (ps : List (List UInt8)) (i : Nat) (cut : Nat), i < ps.length → wantF (ps.take (i + 1)) cut = if (framesL (ps.take (i + 1))).length ≤ cut then (i + 1, (framesL (ps.take (i + 1))).length) else wantF (ps.take i) cut
  | [], i, cut, h => by simp at h
  | p :: ps, 0, cut, _ => by
    simp only [List.take_succ_cons, List.take_zero, framesL_cons, wantF, List.length_append, frameL_len]
    simp [framesL]
  | p :: ps, i + 1, cut, h => by
    have ih := want_step ps i (cut - (p.length + 10)) (by simpa using h)
    rw [List.take_succ_cons, List.take_succ_cons, framesL_cons, List.length_append, frameL_len]
    unfold wantF
    by_cases hc : p.length + 10 ≤ cut
    · rw [if_pos hc, if_pos hc, ih]
      by_cases h2 : (framesL (ps.take (i + 1))).length ≤ cut - (p.length + 10)
      · have h3 : p.length + 10 + (framesL (ps.take (i + 1))).length ≤ cut := by omega
        rw [if_pos h2, if_pos h3]
        refine Prod.ext ?_ ?_
        · show i + 1 + 1 = i + 1 + 1
          rfl
        · show (framesL (ps.take (i + 1))).length + (p.length + 10) = p.length + 10 + (framesL (ps.take (i + 1))).length
          omega
      · have h3 : ¬ p.length + 10 + (framesL (ps.take (i + 1))).length ≤ cut := by omega
        rw [if_neg h2, if_neg h3]
    · rw [if_neg hc, if_neg hc, if_neg (by omega)]
end Go.Proofs.YtghnbkkfghfifaaGreatDoor.F
/- Bytes in memory: those that a slice shows, those that a call owns. -/
namespace Go.Proofs.YtghnbkkfghfifaaGreatDoor.F
open Go.RowKit
set_option linter.unusedVariables false
/-- A list of bytes as a text. -/
def bs (l : List UInt8) : ByteArray := ⟨l.toArray⟩
theorem bs_data (l : List UInt8) : (bs l).data.toList = l := by simp [bs]
theorem data_bs (s : ByteArray) : bs s.data.toList = s := by simp [bs]
theorem bs_size (l : List UInt8) : (bs l).size = l.length := by simp [bs, ByteArray.size]
theorem bs_inj {a b : List UInt8} (h : bs a = bs b) : a = b := by rw [← bs_data a, ← bs_data b, h]
theorem toL (s : ByteArray) : s.toList = s.data.toList := ByteArray.toList_eq s
theorem bs_toList (l : List UInt8) : (bs l).toList = l := by rw [toL, bs_data]
theorem info5 : (Tryz.prog.info? 5).map (fun i => (i.zero, i.size, i.bytes)) = some (some (.int .u8 0), 1, 1) := by kernel_rfl
/-- Bytes as cells. -/
def u8s (l : List UInt8) : List Value := l.map fun b => Value.int .u8 b.toNat
theorem u8s_app (a b : List UInt8) : u8s (a ++ b) = u8s a ++ u8s b := by unfold u8s; simp
theorem u8s_len (l : List UInt8) : (u8s l).length = l.length := by unfold u8s; simp
theorem u8s_one (l : List UInt8) : ∀ u ∈ u8s l, u.oneCell' = true := by
  intro u hu
  obtain ⟨b, _, rfl⟩ := List.mem_map.1 hu
  rfl
theorem u8s_get {l : List UInt8} {j : Nat} (hj : j < l.length) : (u8s l)[j]? = some (.int .u8 (l[j].toNat : Int)) := by
  unfold u8s; rw [List.getElem?_map, List.getElem?_eq_getElem hj]; rfl
theorem u8s_of {l : List UInt8} {j : Nat} {u : Value} (h : (u8s l)[j]? = some u) : ∃ hj : j < l.length, u = .int .u8 (l[j].toNat : Int) := by
  have hj : j < l.length := by have := (List.getElem?_eq_some_iff.1 h).1; rwa [u8s_len] at this
  rw [u8s_get hj] at h
  exact ⟨hj, (Option.some.inj h).symm⟩
theorem u8_nat {n : Nat} (h : n < 256) : (n : Int) = ((n.toUInt8.toNat : Nat) : Int) := by
  have : n.toUInt8.toNat = n := by simp; omega
  rw [this]
theorem cell_one (w : World) (x : Value) (t : TypeId) : ∀ (j : Nat) (u : Value), [x][j]? = some u → (w.alloc (.cells #[x] t)).cell? ((⟨w.heap.size, 0, none⟩ : Addr).add j) = some u := by
  intro j u hj
  match j, hj with
  | 0, hj =>
    simp at hj; subst hj
    exact cell_of_one (heap_alloc_new w (.cells #[x] t))
theorem own_base {w : World} {base base' : Nat} {e : TypeId} {size : Nat} {v : Value} {n : Nat} {xs : List Value} (h : w.ownsRow base e size v n xs) (hb : base' ≤ base) : w.ownsRow base' e size v n xs := by
  obtain ⟨h1, h2⟩ := h
  refine ⟨h1, ?_⟩
  rcases h2 with h2 | ⟨g, cap, cur, hv, hg, r⟩
  · exact .inl h2
  · exact .inr ⟨g, cap, cur, hv, Nat.le_trans hb hg, r⟩
theorem own_block {w : World} {base : Nat} {e : TypeId} {size : Nat} {v : Value} {n : Nat} {xs : List Value} (h : w.ownsRow base e size v n xs) : ∀ k, v.ownBlock = some k → base ≤ k := by
  intro k hk
  obtain ⟨h1, h2⟩ := h
  rcases h2 with ⟨rfl, _⟩ | ⟨g, cap, cur, rfl, hg, r⟩
  · cases hk
  · cases hk; exact hg
/-- A value owns these bytes. -/
def OwnB (w : World) (base : Nat) (v : Value) (l : List UInt8) : Prop := w.ownsRow base 5 1 v l.length (u8s l)
theorem OwnB.below {w w' : World} {base B : Nat} {v : Value} {l : List UInt8} (h : OwnB w base v l) (hb : Below B w w') (hB : w.heap.size ≤ B) : OwnB w' base v l := by
  obtain ⟨h1, h2⟩ := h
  refine ⟨h1, ?_⟩
  rcases h2 with h2 | ⟨g, cap, cur, hv, hg, hh, r⟩
  · exact .inl h2
  · exact .inr ⟨g, cap, cur, hv, hg, by rw [hb.block g (Nat.lt_of_lt_of_le (lt_of_block hh) hB)]; exact hh, r⟩
theorem OwnB.mono {w : World} {base base' : Nat} {v : Value} {l : List UInt8} (h : OwnB w base v l) (hb : base' ≤ base) : OwnB w base' v l := own_base h hb
theorem OwnB.drew {w : World} {base : Nat} {v : Value} {l : List UInt8} (h : OwnB w base v l) : OwnB w.drew base v l := h
theorem OwnB.alloc {w : World} {base : Nat} {v : Value} {l : List UInt8} (h : OwnB w base v l) (o : Obj) : OwnB (w.alloc o) base v l := World.ownsRow.alloc h o
theorem OwnB.nil (w : World) (base : Nat) : OwnB w base (.slice none 0 0) [] := World.ownsRow_nil w base 5 1
theorem own_cells {w : World} {base g cap : Nat} {l : List UInt8} (h : OwnB w base (.slice (some ⟨g, 0, none⟩) l.length cap) l) : ∀ j u, (u8s l)[j]? = some u → w.cell? ((⟨g, 0, none⟩ : Addr).add j) = some u := World.ownsRow.cells h rfl
theorem OwnB.form {w : World} {base : Nat} {v : Value} {l : List UInt8} (h : OwnB w base v l) (hl : 0 < l.length) : ∃ g cap, v = .slice (some ⟨g, 0, none⟩) l.length cap ∧ base ≤ g ∧ g < w.heap.size ∧ l.length ≤ cap := by
  rcases h.2 with ⟨_, h0⟩ | ⟨g, cap, cur, hv, hb, hg, hc, _⟩
  · omega
  · exact ⟨g, cap, hv, hb, lt_of_block hg, hc⟩
theorem OwnB.len {w : World} {base : Nat} {v : Value} {l : List UInt8} (h : OwnB w base v l) : ∃ q cap, v = .slice q l.length cap := by
  rcases h.2 with ⟨hv, h0⟩ | ⟨g, cap, cur, hv, _⟩
  · exact ⟨none, 0, by rw [hv, h0]⟩
  · exact ⟨_, cap, hv⟩
theorem add_block (a : Addr) (j : Nat) : (a.add j).block = a.block := by unfold Addr.add; split <;> rfl
/-- A slice shows these bytes; they lie below B. -/
def Seen (w : World) (B : Nat) (v : Value) (l : List UInt8) : Prop :=
  (l = [] ∧ v = .slice none 0 0) ∨ ∃ (ad : Addr) (cap : Nat), v = .slice (some ad) l.length cap ∧ l.length ≤ cap ∧ (0 < l.length → ad.block < B) ∧ ∀ (j : Nat) (hj : j < l.length), w.cell? (ad.add j) = some (.int .u8 (l[j].toNat : Int))
theorem Seen.below {w w' : World} {B b : Nat} {v : Value} {l : List UInt8} (h : Seen w b v l) (hb : Below B w w') (hl : b ≤ B) : Seen w' b v l := by
  rcases h with h | ⟨ad, cap, hv, hc, hg, hh⟩
  · exact .inl h
  · refine .inr ⟨ad, cap, hv, hc, hg, fun j hj => ?_⟩
    rw [World.cell?_of_block (w := w) (a := ad.add j) (hb.block _ (by rw [add_block]; have := hg (by omega); omega))]; exact hh j hj
theorem Seen.mono {w : World} {B b : Nat} {v : Value} {l : List UInt8} (h : Seen w b v l) (hl : b ≤ B) : Seen w B v l := by
  rcases h with h | ⟨ad, cap, hv, hc, hg, hh⟩
  · exact .inl h
  · exact .inr ⟨ad, cap, hv, hc, fun h0 => by have := hg h0; omega, hh⟩
theorem Seen.drew {w : World} {b : Nat} {v : Value} {l : List UInt8} (h : Seen w b v l) : Seen w.drew b v l := h
theorem Seen.own {w : World} {base : Nat} {v : Value} {l : List UInt8} (h : OwnB w base v l) : Seen w w.heap.size v l := by
  rcases h.2 with ⟨hv, h0⟩ | ⟨g, cap, cur, rfl, hb, hg, hc, _⟩
  · exact .inl ⟨List.length_eq_zero_iff.1 h0, hv⟩
  · exact .inr ⟨⟨g, 0, none⟩, cap, rfl, hc, fun _ => lt_of_block hg, fun j hj => own_cells h j _ (u8s_get hj)⟩
/-- Its text. -/
theorem Seen.text {w : World} {B : Nat} {v : Value} {l : List UInt8} (h : Seen w B v l) : (convert 38 9 v).run Tryz.prog w = .ok (.string (bs l)) w := by
  rcases h with ⟨rfl, rfl⟩ | ⟨ad, cap, rfl, hc, hg, hh⟩
  · rw [run_convert_bytes_string (P := Tryz.prog) w 38 9 5 none 0 0 Tryz.underlying38 Tryz.underlying5 Tryz.underlying9]
    rfl
  · exact run_convert_bytes_back (P := Tryz.prog) w 38 9 5 ad cap l Tryz.underlying38 Tryz.underlying5 Tryz.underlying9 (fun j hj => hh j hj)
theorem Seen.len {w : World} {B : Nat} {v : Value} {l : List UInt8} (h : Seen w B v l) : ∃ q cap, v = .slice q l.length cap ∧ l.length ≤ cap := by
  rcases h with ⟨rfl, rfl⟩ | ⟨ad, cap, rfl, hc, _⟩
  · exact ⟨none, 0, rfl, by simp⟩
  · exact ⟨_, cap, rfl, hc⟩
theorem Seen.at {w : World} {B : Nat} {q : Option Addr} {n cap : Nat} {l : List UInt8} (h : Seen w B (.slice q n cap) l) (j : Nat) (hj : j < l.length) : ∃ ad, q = some ad ∧ ad.block < B ∧ w.cell? (ad.add j) = some (.int .u8 (l[j].toNat : Int)) := by
  rcases h with ⟨h0, _⟩ | ⟨ad, cap', hv, hc, hg, hh⟩
  · rw [h0] at hj; simp at hj
  · injection hv with h1 h2 h3
    exact ⟨ad, h1, hg (by omega), hh j hj⟩
theorem Seen.mk {w : World} {B : Nat} {ad : Addr} {cap n : Nat} {l : List UInt8} (hn : n = l.length) (hc : l.length ≤ cap) (hg : 0 < l.length → ad.block < B) (hh : ∀ (j : Nat) (hj : j < l.length), w.cell? (ad.add j) = some (.int .u8 (l[j].toNat : Int))) : Seen w B (.slice (some ad) n cap) l := by
  subst hn
  exact .inr ⟨ad, cap, rfl, hc, hg, hh⟩
theorem Seen.nil (w : World) (B : Nat) : Seen w B (.slice none 0 0) [] := .inl ⟨rfl, rfl⟩
theorem Seen.nil_at {w : World} {B : Nat} {ad : Addr} {cap : Nat} {n : Nat} (hn : n = 0) : Seen w B (.slice (some ad) n cap) [] := by
  subst hn
  exact .inr ⟨ad, cap, rfl, by simp, fun h => by simp at h, fun j hj => by simp at hj⟩
/-- Its first bytes. -/
theorem Seen.take {w : World} {B : Nat} {ad : Addr} {cap n : Nat} {l : List UInt8} (h : Seen w B (.slice (some ad) n cap) l) (k : Nat) (hk : k ≤ l.length) : Seen w B (.slice (some ad) k cap) (l.take k) := by
  rcases h with ⟨h0, hv⟩ | ⟨ad', cap', hv, hc, hg, hh⟩
  · cases hv
  · injection hv with h1 h2 h3
    cases h1
    subst h2 h3
    exact Seen.mk (by rw [List.length_take]; omega) (by rw [List.length_take]; omega) (fun h0 => hg (by rw [List.length_take] at h0; omega)) (fun j hj => by
      rw [List.length_take] at hj
      rw [hh j (by omega), List.getElem_take])
/-- Its later bytes. -/
theorem Seen.drop {w : World} {B : Nat} {ad : Addr} {cap n : Nat} {l : List UInt8} (h : Seen w B (.slice (some ad) n cap) l) (k : Nat) (hk : k ≤ l.length) : Seen w B (.slice (some (ad.add k)) (l.length - k) (cap - k)) (l.drop k) := by
  rcases h with ⟨h0, hv⟩ | ⟨ad', cap', hv, hc, hg, hh⟩
  · cases hv
  · injection hv with h1 h2 h3
    cases h1
    subst h2 h3
    exact Seen.mk (by rw [List.length_drop]) (by rw [List.length_drop]; omega) (fun h0 => by rw [add_block]; exact hg (by rw [List.length_drop] at h0; omega)) (fun j hj => by
      rw [List.length_drop] at hj
      have := hh (k + j) (by omega)
      rw [Addr.add_add, this, List.getElem_drop])
end Go.Proofs.YtghnbkkfghfifaaGreatDoor.F
/- The program's sum, number, putNumber. -/
namespace Go.Proofs.YtghnbkkfghfifaaGreatDoor.F
open Go.RowKit
set_option linter.unusedVariables false
theorem or16 (a b : Nat) (h : a < 65536) : b * 65536 ||| a = b * 65536 + a := by
  have := Nat.two_pow_add_eq_or_of_lt (i := 16) (b := a) (by omega) b
  rw [Nat.mul_comm b, ← this]
theorem or8 (a b : Nat) (h : a < 256) : b * 256 ||| a = b * 256 + a := by
  have := Nat.two_pow_add_eq_or_of_lt (i := 8) (b := a) (by omega) b
  rw [Nat.mul_comm b, ← this]
theorem or16i (a b : Nat) (h : a < 65536) (hb : b < 65536) : bits .or .u32 ((b : Int) * 65536) (a : Int) = (b : Int) * 65536 + a := by
  have := u32_or_nat (b * 65536) a (by omega) (by omega)
  rw [or16 a b h] at this
  simpa using this
theorem or8i (a b : Nat) (h : a < 256) (hb : b < 16777216) : bits .or .u32 ((b : Int) * 256) (a : Int) = ((b * 256 + a : Nat) : Int) := by
  have := u32_or_nat (b * 256) a (by omega) (by omega)
  rw [or8 a b h] at this
  simpa using this
set_option maxRecDepth 100000 in
theorem sum_any (v : Value) (l : List UInt8) (B : Nat) (hl : l.length ≤ 1000000000) (w : World) (hv : Seen w B v l) :
    Calls Tryz.prog 135 #[v] w fun e w' => e = .returned (.int .u32 (sumN l : Nat)) ∧ w' = w := by
  obtain ⟨q, cap, rfl, _⟩ := hv.len
  have HV := Lib.hid hv
  clear hv
  go_enter Tryz.func135, Tryz.ntmps135
  go_wp2
  go_loop [3, 4, 9] (fun a b i => ∃ k : Nat, k ≤ l.length ∧ i = .int .i64 k ∧ a = .int .u32 ((sumP (l.take k)).1 : Nat) ∧ b = .int .u32 ((sumP (l.take k)).2 : Nat)) (fun a b i => l.length - (intOf i).toNat)
  case atStart => exact ⟨0, Nat.zero_le _, rfl, rfl, rfl⟩
  case round =>
    obtain ⟨k, hk, rfl, rfl, rfl⟩ := hrel
    have hs := sumP_lt (l.take k)
    by_cases hlt : k < l.length
    · obtain ⟨ad, rfl, _, hc⟩ := HV.out.at k hlt
      have hx := (l[k]).toNat_lt
      have hstep : sumP (l.take (k + 1)) = stepS (sumP (l.take k)) l[k] := by rw [List.take_succ_eq_append_getElem hlt, sumP_snoc]
      obtain ⟨a, ha⟩ : ∃ a, (sumP (l.take k)).1 = a := ⟨_, rfl⟩
      obtain ⟨b, hb⟩ : ∃ b, (sumP (l.take k)).2 = b := ⟨_, rfl⟩
      obtain ⟨x, hxx⟩ : ∃ x, (l[k]).toNat = x := ⟨_, rfl⟩
      unfold stepS at hstep
      rw [ha, hb, hxx] at hstep
      rw [ha, hb] at hs
      rw [ha, hb]
      rw [hxx] at hc hx
      have HS := Lib.hid hstep
      clear hstep ha hb hxx
      obtain ⟨h1, h2⟩ := hs
      go_wp2
      go_round
      case rel =>
        refine ⟨k + 1, by omega, by go_num, ?_, ?_⟩
        · rw [HS.out]; simp
        · rw [HS.out]; simp
      case measure => simp [intOf]; omega
    · have e : l.take k = l := List.take_of_length_le (by omega)
      rw [e] at hs ⊢
      have hres : sumN l = (sumP l).2 * 65536 + (sumP l).1 := rfl
      obtain ⟨a, ha⟩ : ∃ a, (sumP l).1 = a := ⟨_, rfl⟩
      obtain ⟨b, hb⟩ : ∃ b, (sumP l).2 = b := ⟨_, rfl⟩
      rw [ha, hb] at hs hres ⊢
      have HR := Lib.hid hres
      clear ha hb e hres
      obtain ⟨h1, h2⟩ := hs
      go_wp2
      go_ret
      refine ⟨?_, rfl⟩
      rw [HR.out]
      simp [or16i a b (by omega) (by omega)]
set_option maxRecDepth 100000 in
theorem number_any (v : Value) (l : List UInt8) (B : Nat) (hl : l.length ≤ 4) (w : World) (hv : Seen w B v l) :
    Calls Tryz.prog 138 #[v] w fun e w' => e = .returned (.int .u32 (valN l : Nat)) ∧ w' = w := by
  obtain ⟨q, cap, rfl, _⟩ := hv.len
  have HV := Lib.hid hv
  clear hv
  go_enter Tryz.func138, Tryz.ntmps138
  go_wp2
  go_loop [3, 8] (fun a i => ∃ k : Nat, k ≤ l.length ∧ i = .int .i64 k ∧ a = .int .u32 (valN (l.take k) : Nat)) (fun a i => l.length - (intOf i).toNat)
  case atStart => exact ⟨0, Nat.zero_le _, rfl, rfl⟩
  case round =>
    obtain ⟨k, hk, rfl, rfl⟩ := hrel
    by_cases hlt : k < l.length
    · obtain ⟨ad, rfl, _, hc⟩ := HV.out.at k hlt
      have hx := (l[k]).toNat_lt
      have hstep : valN (l.take (k + 1)) = valN (l.take k) * 256 + (l[k]).toNat := by rw [List.take_succ_eq_append_getElem hlt, valN_snoc]
      have hlo : valN (l.take k) < 16777216 := by
        have h1 := valN_lt k (l.take k) (by rw [List.length_take]; omega)
        have h2 : 256 ^ k ≤ 256 ^ 3 := Nat.pow_le_pow_right (by omega) (by omega)
        omega
      obtain ⟨a, ha⟩ : ∃ a, valN (l.take k) = a := ⟨_, rfl⟩
      obtain ⟨x, hxx⟩ : ∃ x, (l[k]).toNat = x := ⟨_, rfl⟩
      rw [ha, hxx] at hstep
      rw [ha] at hlo ⊢
      rw [hxx] at hc hx
      have HS := Lib.hid hstep
      have ho := or8i x a (by omega) hlo
      clear hstep ha hxx
      obtain ⟨y, hy⟩ : ∃ y, a * 256 + x = y := ⟨_, rfl⟩
      rw [hy] at ho
      have HY := Lib.hid hy
      clear hy
      go_wp2
      go_round
      case rel => exact ⟨k + 1, by omega, by go_num, by rw [HS.out, HY.out]⟩
      case measure => simp [intOf]; omega
    · have e : l.take k = l := List.take_of_length_le (by omega)
      rw [e]
      obtain ⟨a, ha⟩ : ∃ a, valN l = a := ⟨_, rfl⟩
      rw [ha]
      go_wp2
      go_ret
      exact ⟨rfl, rfl⟩
/-- A row of k bytes, its room told. -/
def RowB (w : World) (g cap k : Nat) (l : List UInt8) : Prop := w.ownsRow g 5 1 (.slice (some ⟨g, 0, none⟩) k cap) k (u8s l)
theorem RowB.len {w : World} {g cap k : Nat} {l : List UInt8} (h : RowB w g cap k l) : l.length = k := by
  have := h.1
  rw [u8s_len] at this
  omega
theorem RowB.own {w : World} {g cap k : Nat} {l : List UInt8} (h : RowB w g cap k l) : OwnB w g (.slice (some ⟨g, 0, none⟩) k cap) l := by
  have e := h.len
  unfold RowB at h
  unfold OwnB
  rw [e]
  exact h
theorem be_step (count m n : Nat) (h : m < count) : beL (m + 1) (n / 256 ^ (count - (m + 1))) = beL m (n / 256 ^ (count - m)) ++ [(n / 256 ^ (count - (m + 1)) % 256).toUInt8] := by
  conv => lhs; unfold beL
  rw [Nat.div_div_eq_div_mul, ← Nat.pow_succ, show (count - (m + 1)).succ = count - m by omega]
theorem be_val (count m n : Nat) (h : m < count) : ((n : Int) / 2 ^ (8 * (count - m - 1)) % 256) = ((((n / 256 ^ (count - (m + 1)) % 256).toUInt8).toNat : Nat) : Int) := by
  have e : ∀ k : Nat, (256 : Nat) ^ k = 2 ^ (8 * k) := fun k => by rw [Nat.pow_mul]
  rw [← u8_nat (Nat.mod_lt _ (by omega)), show count - m - 1 = count - (m + 1) by omega, e]
  generalize 8 * (count - (m + 1)) = d
  rw [Int.natCast_emod, Int.natCast_ediv, Int.natCast_pow]
  rfl
theorem bcell1 (w : World) (x : Value) : ∀ (j : Nat) (u : Value), [x][j]? = some u → (w.alloc (.cells #[x] 5)).cell? ((⟨w.heap.size, 0, none⟩ : Addr).add j) = some u := cell_one w x 5
set_option maxRecDepth 100000 in
theorem putNumber_any (g cap n count k : Nat) (hc : count ≤ 4) (l : List UInt8) (hcap : k + count ≤ cap) (hgz : cap ≤ 1000000000) (w : World) (hown : RowB w g cap k l) (hn : n < 4294967296) :
    Calls Tryz.prog 134 #[.slice (some ⟨g, 0, none⟩) k cap, .int .u32 n, .int .i64 count] w fun e w' => e = .returned (.slice (some ⟨g, 0, none⟩) (k + count) cap) ∧ RowB w' g cap (k + count) (l ++ beL count n) ∧ w.grownBy w' (some g) := by
  obtain ⟨i0, hi, hz0, hz1, hz2⟩ := info_parts info5
  go_enter Tryz.func134, Tryz.ntmps134
  go_wp2
  go_loopw [0, 7] (fun u c wr => ∃ m : Nat, m ≤ count ∧ c = .int .i64 ((count : Int) - m - 1) ∧ u = .slice (some ⟨g, 0, none⟩) (k + m) cap ∧ RowB wr g cap (k + m) (l ++ beL m (n / 256 ^ (count - m))) ∧ w.grownBy wr (some g)) (fun _ c _ => (intOf c + 1).toNat)
  case atStart => exact ⟨0, by omega, by simp, rfl, by simpa [beL] using hown, World.grownBy.refl _ _⟩
  case round =>
    obtain ⟨m, hm, rfl, rfl, hr, hg⟩ := hrel
    by_cases hlt : m < count
    · have HV := Lib.hid (be_val count m n hlt)
      have HB := Lib.hid (be_step count m n hlt)
      unfold RowB at hr
      have hgr := hg.size
      have hgw : g < wr.heap.size := hr.lt g rfl |>.2
      go_wp2_with (at_builtin; refine wpList_append_fits _ rfl (.tmp 14) (.tmp 20) 38 rfl g 5 i0 1 Tryz.underlying38 hi hz1 g (k + m) cap _ rfl (hr.alloc _) ⟨wr.heap.size, 0, none⟩ 1 1 [.int .u8 ((n : Int) / 2 ^ (8 * (count - m - 1)) % 256)] rfl rfl ?c1 ?c2 ?c3 ?_)
      case c1 => exact cell_one _ _ _
      case c2 => intro u hu; simp at hu; subst hu; rfl
      case c3 => omega
      intro w1 hown1 hgrow1
      have hg1 : w.grownBy w1 (some g) := by
        refine ⟨hgrow1.os.trans hg.os, hgrow1.tape.trans hg.tape, hgrow1.output.trans hg.output, ?_, fun i hi hne => ?_⟩
        · have := hgrow1.size; simp at this; omega
        · rw [hgrow1.block i (by simp; omega) hne, Below.heap_alloc _ _ _ (by omega), hg.block i hi hne]
      clear hgrow1 hr hg
      go_wp2
      go_roundw
      case rel =>
        refine ⟨m + 1, by omega, by go_num, rfl, ?_, hg1⟩
        unfold RowB
        rw [HB.out, ← List.append_assoc, u8s_app (l ++ _)]
        rw [HV.out] at hown1
        exact hown1
      case measure => simp [intOf]; omega
    · obtain rfl : m = count := by omega
      have HR := Lib.hid hr
      have HG := Lib.hid hg
      clear hr hg
      go_wp2
      go_ret
      refine ⟨rfl, ?_, HG.out⟩
      have := HR.out
      simpa using this
end Go.Proofs.YtghnbkkfghfifaaGreatDoor.F
/- The program's Seal. -/
namespace Go.Proofs.YtghnbkkfghfifaaGreatDoor.F
open Go.RowKit
set_option linter.unusedVariables false
theorem RowB.grown {w w' : World} {g cap k : Nat} {l : List UInt8} (h : RowB w g cap k l) (hb : w'.heap[g]? = w.heap[g]?) : RowB w' g cap k l := by
  obtain ⟨h1, h2⟩ := h
  refine ⟨h1, ?_⟩
  rcases h2 with ⟨hv, _⟩ | ⟨g', cap', cur, hv, hg, hh, r⟩
  · cases hv
  · cases hv
    exact .inr ⟨g, cap, cur, rfl, hg, by rw [hb]; exact hh, r⟩
theorem RowB.below {w w' : World} {g cap k B : Nat} {l : List UInt8} (h : RowB w g cap k l) (hb : Below B w w') (hB : g < B) : RowB w' g cap k l := h.grown (hb.block g hB)
theorem RowB.alloc {w : World} {g cap k : Nat} {l : List UInt8} (h : RowB w g cap k l) (o : Obj) : RowB (w.alloc o) g cap k l := World.ownsRow.alloc h o
theorem RowB.lt {w : World} {g cap k : Nat} {l : List UInt8} (h : RowB w g cap k l) : g < w.heap.size := (World.ownsRow.lt h g rfl).2
theorem RowB.cells {w : World} {g cap k : Nat} {l : List UInt8} (h : RowB w g cap k l) {j : Nat} (hj : j < l.length) : w.cell? ⟨g, j, none⟩ = some (.int .u8 (l[j].toNat : Int)) := by
  have := World.ownsRow.cells h (g := g) rfl j _ (u8s_get hj)
  rw [Addr.add_mid, Nat.zero_add] at this
  exact this
theorem RowB.seen {w : World} {g cap k : Nat} {l : List UInt8} (h : RowB w g cap k l) : Seen w w.heap.size (.slice (some ⟨g, 0, none⟩) k cap) l := Seen.own h.own
theorem below_grown {B g : Nat} {a w w' : World} (h : Below B a w) (hg : w.grownBy w' (some g)) (hB : B ≤ w.heap.size) (hBg : B ≤ g) : Below B a w' := h.grown hg hB (fun k hk => by cases hk; exact hBg)
theorem inv_int (c : UInt8) : (255 : Int) - (c.toNat : Int) = ((inv c).toNat : Int) := by
  have := c.toNat_lt
  rw [inv_nat]; omega
theorem Seen.src {w : World} {B : Nat} {q : Option Addr} {n cap : Nat} {l : List UInt8} (h : Seen w B (.slice q n cap) l) : (q = none → n = 0 ∧ cap = 0) ∧ (∀ ad, q = some ad → ∀ j u, (u8s l)[j]? = some u → w.cell? (ad.add j) = some u) := by
  rcases h with ⟨h0, hv⟩ | ⟨ad', cap', hv, hc, hg, hh⟩
  · cases hv
    exact ⟨fun _ => ⟨rfl, rfl⟩, fun ad h => (by cases h)⟩
  · cases hv
    refine ⟨fun h => (by cases h), fun ad h j u hu => ?_⟩
    obtain rfl := Option.some.inj h
    obtain ⟨hj, rfl⟩ := u8s_of hu
    exact hh j hj
set_option maxRecDepth 100000 in
theorem seal_long (q : Option Addr) (n cap : Nat) (hl : 65536 < n) (w : World) :
    Calls Tryz.prog 115 #[.slice q n cap] w fun e w' => e = .returned (.tuple #[.slice none 0 0, .int .i64 9]) ∧ w' = w := by
  have h1 : decide ((65536 : Int) < (n : Int)) = true := by simp; omega
  go_enter Tryz.func115, Tryz.ntmps115
  go_wp2
  go_ret2
  exact ⟨rfl, rfl⟩
set_option maxRecDepth 100000 in
theorem seal_any (v : Value) (l : List UInt8) (hl : l.length ≤ 65536) (w : World) (hv : Seen w w.heap.size v l) :
    Calls Tryz.prog 115 #[v] w fun e w' => e = .returned (.tuple #[.slice (some ⟨w.heap.size, 0, none⟩) (l.length + 10) (l.length + 10), .int .i64 0]) ∧ RowB w' w.heap.size (l.length + 10) (l.length + 10) (frameL l) ∧ Below w.heap.size w w' := by
  obtain ⟨i0, hi, hz0, hz1, hz2⟩ := info_parts info5
  obtain ⟨q, cap, rfl, _⟩ := hv.len
  have HV := Lib.hid hv
  clear hv
  obtain ⟨n, hn⟩ : ∃ n, l.length = n := ⟨_, rfl⟩
  rw [hn] at hl HV ⊢
  have Hn := Lib.hid hn
  clear hn
  obtain ⟨g, hg⟩ : ∃ g, w.heap.size = g := ⟨_, rfl⟩
  rw [hg] at HV ⊢
  have Hg := Lib.hid hg
  go_enter Tryz.func115, Tryz.ntmps115
  go_wp2_with (at_make; refine wpList_make_own _ rfl _ _ 38 rfl g 5 i0 (.int .u8 0) 1 Tryz.underlying38 hi hz0 hz1 .i64 .i64 _ (n + 10) rfl rfl ?c1 ?c2 ?c3 ?c4 ?_)
  case c1 => omega
  case c2 => rw [hz2]; omega
  case c3 => unfold maxLen; omega
  case c4 => omega
  intro w1 hr1 hg1
  have hb1 : Below g w w1 := (Below.refl g w).grown hg1 (by omega) (fun k hk => by cases hk)
  have hr1 : RowB w1 g (n + 10) 0 [] := hr1
  clear hg1
  go_wp2_with fail
  refine (putNumber_any g (n + 10) n 3 0 (by omega) [] (by omega) (by omega) w1 hr1 (by omega)).mono ?_
  rintro e w2 ⟨rfl, hr2, hg2⟩
  have hsz1 := hb1.size
  have hb2 := below_grown hb1 hg2 (by omega) (Nat.le_refl _)
  simp only [List.nil_append, Nat.zero_add] at hr2 ⊢
  clear hr1 hb1 hg2
  go_wp2_with fail
  go_loopw [4, 23] (fun u c wr => ∃ k : Nat, k ≤ 3 ∧ c = .int .i64 k ∧ u = .slice (some ⟨g, 0, none⟩) (3 + k) (n + 10) ∧ RowB wr g (n + 10) (3 + k) (beL 3 n ++ ((beL 3 n).map inv).take k) ∧ Below g w wr) (fun _ c _ => 3 - (intOf c).toNat)
  case atStart => exact ⟨0, by omega, rfl, rfl, by simpa using hr2, hb2⟩
  case round =>
    obtain ⟨k, hk, rfl, rfl, hr, hb⟩ := hrel
    have hgs := hr.lt
    by_cases hlt : k < 3
    · have hkl : k < (beL 3 n).length := by rw [beL_len]; omega
      obtain ⟨c, hc⟩ : ∃ c, (beL 3 n)[k] = c := ⟨_, rfl⟩
      have hcell := hr.cells (j := k) (by rw [List.length_append]; omega)
      rw [List.getElem_append_left hkl, hc] at hcell
      have hstep : ((beL 3 n).map inv).take (k + 1) = ((beL 3 n).map inv).take k ++ [inv c] := by
        rw [List.take_succ_eq_append_getElem (by rw [List.length_map]; omega), List.getElem_map, hc]
      have HS := Lib.hid hstep
      have HI := Lib.hid (inv_int c)
      have hx := c.toNat_lt
      clear hstep hc
      unfold RowB at hr
      go_wp2_with (at_builtin; refine wpList_append_fits _ rfl (.tmp 27) (.tmp 30) 38 rfl g 5 i0 1 Tryz.underlying38 hi hz1 g (3 + k) (n + 10) _ rfl (hr.alloc _) ⟨wr.heap.size, 0, none⟩ 1 1 [.int .u8 ((255 : Int) - (c.toNat : Int))] rfl rfl ?c1 ?c2 ?c3 ?_)
      case c1 => exact cell_one _ _ _
      case c2 => intro u hu; simp at hu; subst hu; rfl
      case c3 => omega
      intro w3 hown3 hgrow3
      have hb3 : Below g w w3 := below_grown (hb.alloc (by omega) _) hgrow3 (by simp; omega) (Nat.le_refl _)
      clear hgrow3 hr hb
      go_wp2
      go_roundw
      case rel =>
        refine ⟨k + 1, by omega, by go_num, rfl, ?_, hb3⟩
        unfold RowB
        rw [HS.out, ← List.append_assoc, u8s_app (beL 3 n ++ _)]
        rw [HI.out] at hown3
        exact hown3
      case measure => simp [intOf]; omega
    · obtain rfl : k = 3 := by omega
      have e1 : beL 3 n ++ ((beL 3 n).map inv).take 3 = headL n := by
        rw [List.take_of_length_le (by rw [List.length_map, beL_len]; omega)]; rfl
      rw [e1] at hr
      obtain ⟨hs1, hs2⟩ := (HV.out.below hb (Nat.le_refl _)).src
      unfold RowB at hr
      clear e1
      go_wp2_with (at_builtin; refine wpList_append_fits_any _ rfl (.tmp 33) (.tmp 34) 38 rfl g 5 i0 1 Tryz.underlying38 hi hz1 g (3 + 3) (n + 10) _ rfl hr q n cap (u8s l) rfl ?d1 hs1 hs2 (u8s_one l) ?d2 ?_)
      case d1 => rw [u8s_len, Hn.out]; omega
      case d2 => omega
      intro w3 hown3 hgrow3
      have hb3 : Below g w w3 := below_grown hb hgrow3 (by omega) (Nat.le_refl _)
      have hr3 : RowB w3 g (n + 10) (3 + 3 + n) (frontL l) := by
        unfold RowB frontL
        rw [Hn.out, u8s_app]
        exact hown3
      have hll : (frontL l).length = 6 + n := by rw [frontL_len, Hn.out]
      have hS := hr3.seen
      have hz3 := hr3.lt
      clear hgrow3 hown3 hr hb hs1 hs2
      go_wp2_with fail
      refine (sum_any _ (frontL l) _ (by omega) w3 hS).mono ?_
      rintro e w4 ⟨rfl, rfl⟩
      have hsl := sumN_lt (frontL l)
      go_wp2_with fail
      refine (putNumber_any g (n + 10) (sumN (frontL l)) 4 (3 + 3 + n) (by omega) (frontL l) (by omega) (by omega) w4 hr3 hsl).mono ?_
      rintro e w5 ⟨rfl, hr5, hg5⟩
      have hb5 := below_grown hb3 hg5 (by omega) (Nat.le_refl _)
      have e5 : 3 + 3 + n + 4 = n + 10 := by omega
      rw [e5] at hr5 ⊢
      have H5 := Lib.hid hr5
      clear hr5 hg5 hb3 hr3 hS
      go_wp2
      go_ret2
      exact ⟨rfl, H5.out, hb5⟩
end Go.Proofs.YtghnbkkfghfifaaGreatDoor.F
/- What bytes begin with is looked at by closures: each of them. -/
namespace Go.Proofs.YtghnbkkfghfifaaGreatDoor.F
open Go.RowKit
set_option linter.unusedVariables false
theorem below_drewN {B : Nat} {a w : World} (h : Below B a w) (n : Nat) : Below B a (w.drewN n) := ⟨h.os, h.tape, h.output, h.size, h.block⟩
theorem getD_at {l : List UInt8} {j : Nat} (h : j < l.length) : l.getD j 0 = l[j] := by rw [List.getD_eq_getElem?_getD, List.getElem?_eq_getElem h]; rfl
set_option maxRecDepth 100000 in
theorem unlike_any (bb : Nat) (v : Value) (l : List UInt8) (hl : l.length ≤ 1000000000) (w : World) (hbb : bb < w.heap.size) (hc : w.cell? ⟨bb, 0, none⟩ = some v) (B : Nat) (hB : B ≤ w.heap.size) (hv : Seen w B v l) :
    Calls Tryz.prog 139 #[.pointer (some ⟨bb, 0, none⟩)] w fun e w' => e = .returned (.bool (!likeB l)) ∧ Below w.heap.size w w' := by
  obtain ⟨q, cap, rfl, _⟩ := hv.len
  have HV := Lib.hid hv
  have HC := Lib.hid hc
  clear hv hc
  obtain ⟨n, hn⟩ : ∃ n, l.length = n := ⟨_, rfl⟩
  rw [hn] at hl HV HC
  have Hn := Lib.hid hn
  clear hn
  go_enter Tryz.func139, Tryz.ntmps139
  go_wp2
  go_loopw [2] (fun i wr => ∃ k : Nat, 3 ≤ k ∧ k ≤ 6 ∧ i = .int .i64 k ∧ Hid (∀ j, 3 ≤ j → j < k → j < l.length ∧ l.getD j 0 = inv (l.getD (j - 3) 0)) ∧ Below w.heap.size w wr) (fun i _ => 6 - (intOf i).toNat)
  case atStart => exact ⟨3, by omega, by omega, rfl, fun j hj => by omega, Below.refl _ _⟩
  case round =>
    obtain ⟨k, hk3, hk, rfl, HA, hb⟩ := hrel
    have cb := hb.cell (p := ⟨bb, 0, none⟩) hbb
    rw [HC.out] at cb
    by_cases hlt : k < 6 ∧ k < n
    · obtain ⟨hk6, hkn⟩ := hlt
      have hSr := HV.out.below hb hB
      have hkl : k < l.length := by rw [Hn.out]; exact hkn
      obtain ⟨ad, rfl, _, c1⟩ := hSr.at k hkl
      obtain ⟨ad', hq, _, c2⟩ := hSr.at (k - 3) (by omega)
      obtain rfl := Option.some.inj hq
      obtain ⟨x, hx⟩ : ∃ x, l[k] = x := ⟨_, rfl⟩
      obtain ⟨y, hy⟩ : ∃ y, l[k - 3] = y := ⟨_, rfl⟩
      rw [hx] at c1
      rw [hy] at c2
      have hxl := x.toNat_lt
      have hyl := y.toNat_lt
      have b1 : (k : Int) < (n : Int) := by omega
      have b2 : (k : Int) - 3 < (n : Int) := by omega
      by_cases he : x = inv y
      · have hE : ((x.toNat : Int) == 255 - (y.toNat : Int)) = true := by rw [he, inv_int]; simp
        have HX : Hid (∀ j, 3 ≤ j → j < k + 1 → j < l.length ∧ l.getD j 0 = inv (l.getD (j - 3) 0)) := by
          intro j h3 hj
          rcases Nat.lt_or_ge j k with h | h
          · exact HA.out j h3 h
          · obtain rfl : j = k := by omega
            exact ⟨hkl, by rw [getD_at hkl, getD_at (show j - 3 < l.length by omega), hx, hy, he]⟩
        clear he hSr hx hy
        go_wp2
        all_goals
          go_quiet (fail)
          go_wp2
          go_roundw
          case rel => exact ⟨k + 1, by omega, by omega, by go_num, HX, below_drewN hb _⟩
          case measure => simp [intOf]; omega
      · have hE : ((x.toNat : Int) == 255 - (y.toNat : Int)) = false := by
          have : x.toNat ≠ (inv y).toNat := fun e => he (UInt8.toNat_inj.1 e)
          rw [inv_nat] at this
          simp; omega
        have HL : Hid (likeB l = false) := like_no (i := k) (by omega) (by omega) hkl (by rw [getD_at hkl, getD_at (show k - 3 < l.length by omega), hx, hy]; exact he)
        clear he hSr hx hy
        go_wp2
        all_goals
          go_quiet (fail)
          go_wp2
          go_ret
          exact ⟨by rw [HL.out]; rfl, below_drewN hb _⟩
    · have HL : Hid (likeB l = true) := (like_iff l).2 (fun i h1 h2 h3 => by
        exact (HA.out i h1 (by rw [Hn.out] at h3; omega)).2)
      go_wp2
      all_goals
        go_ret
        exact ⟨by rw [HL.out]; rfl, hb⟩
set_option maxRecDepth 100000 in
theorem tooLong_any (lb m : Nat) (w : World) (hc : w.cell? ⟨lb, 0, none⟩ = some (.int .i64 m)) :
    Calls Tryz.prog 140 #[.pointer (some ⟨lb, 0, none⟩)] w fun e w' => e = .returned (.bool (decide (65536 < m))) ∧ w' = w := by
  by_cases h : 65536 < m
  · have h1 : decide ((65536 : Int) < (m : Int)) = true := by simp; omega
    have h2 : decide (65536 < m) = true := by simpa using h
    rw [h2]
    clear h2 h
    go_enter Tryz.func140, Tryz.ntmps140
    go_wp2
    go_ret
    exact ⟨rfl, rfl⟩
  · have h1 : decide ((65536 : Int) < (m : Int)) = false := by simp; omega
    have h2 : decide (65536 < m) = false := by simpa using h
    rw [h2]
    clear h2 h
    go_enter Tryz.func140, Tryz.ntmps140
    go_wp2
    go_ret
    exact ⟨rfl, rfl⟩
set_option maxRecDepth 100000 in
theorem otherSum_torn (bb sb : Nat) (q : Option Addr) (n cap s : Nat) (hns : n < s) (w : World) (hc : w.cell? ⟨bb, 0, none⟩ = some (.slice q n cap)) (hs : w.cell? ⟨sb, 0, none⟩ = some (.int .i64 s)) :
    Calls Tryz.prog 141 #[.pointer (some ⟨bb, 0, none⟩), .pointer (some ⟨sb, 0, none⟩)] w fun e w' => e = .returned (.bool false) ∧ Below w.heap.size w w' := by
  have h1 : decide ((s : Int) ≤ (n : Int)) = false := by simp; omega
  have h2 : decide (s ≤ n) = false := by simp; omega
  clear hns
  go_enter Tryz.func141, Tryz.ntmps141
  go_wp2_with fail
  go_quiet (fail)
  go_wp2
  go_ret
  exact ⟨rfl, below_drewN (Below.refl _ _) _⟩
set_option maxRecDepth 100000 in
theorem otherSum_any (bb sb : Nat) (ad : Addr) (n cap r : Nat) (l : List UInt8) (hn : l.length = n) (hr : r + 4 ≤ n) (hn9 : n ≤ 1000000000) (w : World) (hc : w.cell? ⟨bb, 0, none⟩ = some (.slice (some ad) n cap)) (hs : w.cell? ⟨sb, 0, none⟩ = some (.int .i64 ((r : Int) + 4))) (B : Nat) (hv : Seen w B (.slice (some ad) n cap) l) :
    Calls Tryz.prog 141 #[.pointer (some ⟨bb, 0, none⟩), .pointer (some ⟨sb, 0, none⟩)] w fun e w' => e = .returned (.bool (decide (valN ((l.take (r + 4)).drop r) ≠ sumN (l.take r)))) ∧ Below w.heap.size w w' := by
  obtain ⟨_, _, hcc, hcap⟩ := hv.len
  have hcap : n ≤ cap := by cases hcc; omega
  have h1 : decide ((r : Int) + 4 ≤ (n : Int)) = true := by simp; omega
  have h2 : decide (r + 4 ≤ n) = true := by simp; omega
  have h3 : (cap = r) = False := by simp; omega
  have hl4 : (l.take (r + 4)).length = r + 4 := by rw [List.length_take]; omega
  have s1 := (hv.take (r + 4) (by omega)).drop r (by omega)
  have s2 := hv.take r (by omega)
  rw [hl4, Nat.add_sub_cancel_left] at s1
  obtain ⟨L1, e1⟩ : ∃ L, (l.take (r + 4)).drop r = L := ⟨_, rfl⟩
  obtain ⟨L2, e2⟩ : ∃ L, l.take r = L := ⟨_, rfl⟩
  have hL1 : L1.length ≤ 4 := by rw [← e1, List.length_drop, hl4]; omega
  have hL2 : L2.length ≤ 1000000000 := by rw [← e2, List.length_take]; omega
  rw [e1] at s1 ⊢
  rw [e2] at s2 ⊢
  clear e1 e2 hl4
  have cA : ∀ m, Calls Tryz.prog 138 #[.slice (some (ad.add r)) 4 (cap - r)] (w.drewN m) fun e w'' => e = .returned (.int .u32 (valN L1 : Nat)) ∧ ∃ n, w'' = w.drewN n := fun m => Calls.quiet_of_same (number_any _ L1 B hL1 (w.drewN m) (s1.below (below_drewN (Below.refl _ _) _) (Nat.le_refl _)))
  have cB : ∀ m, Calls Tryz.prog 135 #[.slice (some ad) r cap] (w.drewN m) fun e w'' => e = .returned (.int .u32 (sumN L2 : Nat)) ∧ ∃ n, w'' = w.drewN n := fun m => Calls.quiet_of_same (sum_any _ L2 B hL2 (w.drewN m) (s2.below (below_drewN (Below.refl _ _) _) (Nat.le_refl _)))
  clear s1 s2 hv hn hcc
  obtain ⟨N1, e1⟩ : ∃ N, valN L1 = N := ⟨_, rfl⟩
  obtain ⟨N2, e2⟩ : ∃ N, sumN L2 = N := ⟨_, rfl⟩
  rw [e1] at cA ⊢
  rw [e2] at cB ⊢
  clear e1 e2
  have hd : Hid (((N1 : Int) != (N2 : Int)) = decide (N1 ≠ N2)) := by
    unfold Hid
    by_cases hN : N1 = N2
    · subst hN; simp
    · have : ((N1 : Int) == (N2 : Int)) = false := by simp; omega
      simp [bne, this, hN]
  go_enter Tryz.func141, Tryz.ntmps141
  go_wp2_with fail
  go_quiet (first | with_reducible exact cA _ | with_reducible exact cB _)
  go_wp2
  go_ret
  refine ⟨?_, below_drewN (Below.refl _ _) _⟩
  rw [← hd.out]
  rfl
end Go.Proofs.YtghnbkkfghfifaaGreatDoor.F
/- How bytes go on: the program's look. -/
namespace Go.Proofs.YtghnbkkfghfifaaGreatDoor.F
open Go.RowKit
set_option linter.unusedVariables false
/-- The four blocks of a look: the slice, the length, the size, the closures. -/
structure LB (g : Nat) (bv : Value) (L s : Int) (w : World) : Prop where
  h0 : w.heap[g]? = some (.cells #[bv] 38 (0, 0))
  h1 : w.heap[g + 1]? = some (.cells #[.int .i64 L] 3 (0, 0))
  h2 : w.heap[g + 1 + 1]? = some (.cells #[.int .i64 s] 3 (0, 0))
  h3 : w.heap[g + 1 + 1 + 1]? = some (.cells #[.func (.func 139) #[] #[.pointer (some ⟨g, 0, none⟩)], .func (.func 140) #[] #[.pointer (some ⟨g + 1, 0, none⟩)], .func (.func 141) #[] #[.pointer (some ⟨g, 0, none⟩), .pointer (some ⟨g + 1 + 1, 0, none⟩)]] 23 (0, 0))
theorem LB.lt {g : Nat} {bv : Value} {L s : Int} {w : World} (h : LB g bv L s w) : g + 1 + 1 + 1 < w.heap.size := lt_of_block h.h3
theorem LB.below {g : Nat} {bv : Value} {L s : Int} {w w' : World} (h : LB g bv L s w) (hb : Below w.heap.size w w') : LB g bv L s w' := by
  have := h.lt
  exact ⟨by rw [hb.block _ (by omega)]; exact h.h0, by rw [hb.block _ (by omega)]; exact h.h1, by rw [hb.block _ (by omega)]; exact h.h2, by rw [hb.block _ (by omega)]; exact h.h3⟩
theorem LB.all {g : Nat} {bv : Value} {L s : Int} {w : World} (h : LB g bv L s w) : w.cell? ⟨g, 0, none⟩ = some bv ∧ w.cell? ⟨g + 1, 0, none⟩ = some (.int .i64 L) ∧ w.cell? ⟨g + 1 + 1, 0, none⟩ = some (.int .i64 s) ∧ w.cell? ⟨g + 1 + 1 + 1, 0, none⟩ = some (.func (.func 139) #[] #[.pointer (some ⟨g, 0, none⟩)]) ∧ w.cell? ⟨g + 1 + 1 + 1, 1, none⟩ = some (.func (.func 140) #[] #[.pointer (some ⟨g + 1, 0, none⟩)]) ∧ w.cell? ⟨g + 1 + 1 + 1, 2, none⟩ = some (.func (.func 141) #[] #[.pointer (some ⟨g, 0, none⟩), .pointer (some ⟨g + 1 + 1, 0, none⟩)]) := by
  obtain ⟨h0, h1, h2, h3⟩ := h
  refine ⟨?_, ?_, ?_, ?_, ?_, ?_⟩ <;> simp [World.cell?, h0, h1, h2, h3]
theorem LB.new (w : World) (bv : Value) (L s : Int) : LB w.heap.size bv L s ((((w.alloc (.cells #[bv] 38)).alloc (.cells #[.int .i64 L] 3)).alloc (.cells #[.int .i64 s] 3)).alloc (.cells #[.func (.func 139) #[] #[.pointer (some ⟨w.heap.size, 0, none⟩)], .func (.func 140) #[] #[.pointer (some ⟨w.heap.size + 1, 0, none⟩)], .func (.func 141) #[] #[.pointer (some ⟨w.heap.size, 0, none⟩), .pointer (some ⟨w.heap.size + 1 + 1, 0, none⟩)]] 23)) := by
  have n0 := heap_alloc_new w (.cells #[bv] 38)
  have n1 := heap_alloc_new (w.alloc (.cells #[bv] 38)) (.cells #[.int .i64 L] 3)
  have n2 := heap_alloc_new ((w.alloc (.cells #[bv] 38)).alloc (.cells #[.int .i64 L] 3)) (.cells #[.int .i64 s] 3)
  have n3 := heap_alloc_new (((w.alloc (.cells #[bv] 38)).alloc (.cells #[.int .i64 L] 3)).alloc (.cells #[.int .i64 s] 3)) (.cells #[.func (.func 139) #[] #[.pointer (some ⟨w.heap.size, 0, none⟩)], .func (.func 140) #[] #[.pointer (some ⟨w.heap.size + 1, 0, none⟩)], .func (.func 141) #[] #[.pointer (some ⟨w.heap.size, 0, none⟩), .pointer (some ⟨w.heap.size + 1 + 1, 0, none⟩)]] 23)
  simp only [World.size_alloc] at n1 n2 n3
  refine ⟨?_, ?_, ?_, n3⟩
  · rw [Below.heap_alloc _ _ _ (by simp; omega), Below.heap_alloc _ _ _ (by simp; omega), Below.heap_alloc _ _ _ (by simp)]; exact n0
  · rw [Below.heap_alloc _ _ _ (by simp), Below.heap_alloc _ _ _ (by simp)]; exact n1
  · rw [Below.heap_alloc _ _ _ (by simp)]; exact n2
/-- What the third closure tells. -/
def othB (l : List UInt8) (N : Nat) : Bool := decide (N + 10 ≤ l.length) && decide (valN ((l.take (N + 6 + 4)).drop (N + 6)) ≠ sumN (l.take (N + 6)))
theorem oth_yes {l : List UInt8} {N : Nat} (h : likeB l = true) (h2 : ¬ l.length < 3) (hn : valN (l.take 3) = N) (h3 : ¬ 65536 < N) (ho : othB l N = true) : openS l = (0, 2) := by
  unfold othB at ho
  rw [Bool.and_eq_true, decide_eq_true_eq, decide_eq_true_eq, show N + 6 + 4 = 10 + N by omega, show N + 6 = 6 + N by omega] at ho
  exact open5 h h2 hn h3 (by omega) ho.2
theorem oth_no {l : List UInt8} {N : Nat} (h : likeB l = true) (h2 : ¬ l.length < 3) (hn : valN (l.take 3) = N) (h3 : ¬ 65536 < N) (ho : othB l N = false) (h4 : N + 10 ≤ l.length) : openS l = (10 + N, 0) := by
  unfold othB at ho
  rw [show N + 6 + 4 = 10 + N by omega, show N + 6 = 6 + N by omega] at ho
  refine open6 h h2 hn h3 (by omega) ?_
  have h5 : decide (10 + N ≤ l.length) = true := by simp; omega
  rw [h5, Bool.true_and, decide_eq_false_iff_not] at ho
  exact Decidable.not_not.1 ho
theorem third_any (g : Nat) (q : Option Addr) (cap N : Nat) (l : List UInt8) (hl : l.length ≤ 1000000000) (w : World) (h : LB g (.slice q l.length cap) N ((N : Int) + 10) w) (B : Nat) (hv : Seen w B (.slice q l.length cap) l) :
    Calls Tryz.prog 141 #[.pointer (some ⟨g, 0, none⟩), .pointer (some ⟨g + 1 + 1, 0, none⟩)] w fun e w' => e = .returned (.bool (othB l N)) ∧ Below w.heap.size w w' := by
  obtain ⟨c0, _, c2, _⟩ := h.all
  unfold othB
  by_cases hn : N + 10 ≤ l.length
  · obtain ⟨ad, rfl, _⟩ := hv.at 0 (by omega)
    have e : ((N : Int) + 10) = (((N + 6 : Nat) : Int) + 4) := by omega
    rw [e] at c2
    have := otherSum_any g (g + 1 + 1) ad l.length cap (N + 6) l rfl (by omega) hl w c0 c2 B hv
    simpa [hn] using this
  · have e : ((N : Int) + 10) = ((N + 10 : Nat) : Int) := by omega
    rw [e] at c2
    have := otherSum_torn g (g + 1 + 1) q l.length cap (N + 10) (by omega) w c0 c2
    simpa [hn] using this
set_option maxRecDepth 100000 in
set_option maxHeartbeats 1000000 in
theorem look_short (v : Value) (l : List UInt8) (hl : l.length < 3) (w : World) (hv : Seen w w.heap.size v l) :
    Calls Tryz.prog 124 #[v] w fun e w' => e = .returned (.tuple #[.int .i64 0, .int .i64 1]) ∧ Below w.heap.size w w' := by
  obtain ⟨q, cap, rfl, hcap⟩ := hv.len
  have HV := Lib.hid hv
  clear hv
  have HL : Hid (likeB l = true) := (like_iff l).2 (fun i h1 h2 h3 => by omega)
  have HO : Hid (othB l 0 = false) := by unfold Hid othB; simp; omega
  obtain ⟨n, hn⟩ : ∃ n, l.length = n := ⟨_, rfl⟩
  rw [hn] at hl HV ⊢
  have Hn := Lib.hid hn
  clear hn
  go_enter Tryz.func124, Tryz.ntmps124
  go_wp2_with fail
  have B0 := LB.new w (.slice q n cap) 0 10
  have bw : Below w.heap.size w _ := ((((Below.refl w.heap.size w).alloc (Nat.le_refl _) (.cells #[.slice q n cap] 38)).alloc (by simp) (.cells #[.int .i64 0] 3)).alloc (by simp; omega) (.cells #[.int .i64 10] 3)).alloc (by simp; omega) (.cells #[.func (.func 139) #[] #[.pointer (some ⟨w.heap.size, 0, none⟩)], .func (.func 140) #[] #[.pointer (some ⟨w.heap.size + 1, 0, none⟩)], .func (.func 141) #[] #[.pointer (some ⟨w.heap.size, 0, none⟩), .pointer (some ⟨w.heap.size + 1 + 1, 0, none⟩)]] 23)
  generalize (((w.alloc _).alloc _).alloc _).alloc _ = wz at B0 bw ⊢
  go_loopw [29] (fun i wr => ∃ k : Nat, k ≤ 3 ∧ i = .int .i64 k ∧ LB w.heap.size (.slice q n cap) 0 10 wr ∧ Below w.heap.size w wr) (fun i _ => 3 - (intOf i).toNat)
  case atStart => exact ⟨0, by omega, rfl, B0, bw⟩
  case round =>
    obtain ⟨k, hk, rfl, BR, hb⟩ := hrel
    have hlt := BR.lt
    have HB := Lib.hid BR
    obtain ⟨c0, c1, c2, f0, f1, f2⟩ := BR.all
    have hvr := HV.out.below hb (Nat.le_refl _)
    have HVR := Lib.hid hvr
    clear BR hvr
    match k, hk with
    | 0, _ =>
      go_wp2_with fail
      refine (unlike_any w.heap.size _ l (by have := Hn.out; omega) wr (by omega) c0 w.heap.size (by omega) HVR.out).mono ?_
      rw [HL.out]
      rintro e w1 ⟨rfl, hb1⟩
      have HB1 := HB.out.below hb1
      have bw1 := hb.trans (hb1.mono (by omega))
      clear c0 c1 c2 f0 f1 f2 hb hb1
      go_wp2_with fail
      go_roundw
      case rel => exact ⟨1, by omega, rfl, HB1, bw1⟩
      case measure => simp [intOf]
    | 1, _ =>
      go_wp2_with fail
      refine (tooLong_any (w.heap.size + 1) 0 wr c1).mono ?_
      rintro e w1 ⟨rfl, rfl⟩
      clear c0 c1 c2 f0 f1 f2
      go_wp2_with fail
      go_roundw
      case rel => exact ⟨2, by omega, rfl, HB.out, hb⟩
      case measure => simp [intOf]
    | 2, _ =>
      go_wp2_with fail
      refine (third_any w.heap.size q cap 0 l (by have := Hn.out; omega) wr (by rw [Hn.out]; exact HB.out) w.heap.size (by rw [Hn.out]; exact HVR.out)).mono ?_
      rw [HO.out]
      rintro e w1 ⟨rfl, hb1⟩
      have HB1 := HB.out.below hb1
      have bw1 := hb.trans (hb1.mono (by omega))
      clear c0 c1 c2 f0 f1 f2 hb hb1
      go_wp2_with fail
      go_roundw
      case rel => exact ⟨3, by omega, rfl, HB1, bw1⟩
      case measure => simp [intOf]
    | 3, _ =>
      have h1 : decide ((n : Int) < 10) = true := by simp; omega
      go_wp2_with fail
      go_ret2
      exact ⟨rfl, hb⟩
set_option maxRecDepth 100000 in
set_option maxHeartbeats 1000000 in
theorem look_long (v : Value) (l : List UInt8) (hl : ¬ l.length < 3) (hl9 : l.length ≤ 1000000000) (w : World) (hv : Seen w w.heap.size v l) :
    Calls Tryz.prog 124 #[v] w fun e w' => e = .returned (.tuple #[.int .i64 ((openS l).1 : Nat), .int .i64 ((openS l).2 : Nat)]) ∧ Below w.heap.size w w' := by
  obtain ⟨q, cap, rfl, hcap⟩ := hv.len
  obtain ⟨ad, rfl, _⟩ := hv.at 0 (by omega)
  have HV := Lib.hid hv
  have H3 := Lib.hid (hv.take 3 (by omega))
  clear hv
  obtain ⟨N, hN⟩ : ∃ N, valN (l.take 3) = N := ⟨_, rfl⟩
  have hNl : N < 16777216 := by rw [← hN]; exact valN_lt 3 _ (by rw [List.length_take]; omega)
  have HN := Lib.hid hN
  have h3l : (l.take 3).length ≤ 4 := by rw [List.length_take]; omega
  obtain ⟨n, hn⟩ : ∃ n, l.length = n := ⟨_, rfl⟩
  rw [hn] at hl HV hl9 hcap ⊢
  have Hn := Lib.hid hn
  clear hn
  obtain ⟨S, hS⟩ : ∃ S, openS l = S := ⟨_, rfl⟩
  obtain ⟨z, s⟩ := S
  rw [hS]
  have HS := Lib.hid hS
  clear hS
  go_enter Tryz.func124, Tryz.ntmps124
  go_wp2_with fail
  refine (number_any _ (l.take 3) w.heap.size h3l _ (H3.out.below (((Below.refl w.heap.size w).alloc (Nat.le_refl _) _).alloc (by simp) _) (Nat.le_refl _))).mono ?_
  rintro e w1 ⟨rfl, rfl⟩
  rw [hN]
  clear hN
  go_wp2_with fail
  have e : 6 + (N : Int) + 4 = (N : Int) + 10 := by omega
  rw [e]
  clear e
  have B0 := LB.new w (.slice (some ad) n cap) N ((N : Int) + 10)
  have bw : Below w.heap.size w _ := ((((Below.refl w.heap.size w).alloc (Nat.le_refl _) (.cells #[.slice (some ad) n cap] 38)).alloc (by simp) (.cells #[.int .i64 N] 3)).alloc (by simp; omega) (.cells #[.int .i64 ((N : Int) + 10)] 3)).alloc (by simp; omega) (.cells #[.func (.func 139) #[] #[.pointer (some ⟨w.heap.size, 0, none⟩)], .func (.func 140) #[] #[.pointer (some ⟨w.heap.size + 1, 0, none⟩)], .func (.func 141) #[] #[.pointer (some ⟨w.heap.size, 0, none⟩), .pointer (some ⟨w.heap.size + 1 + 1, 0, none⟩)]] 23)
  generalize (((w.alloc _).alloc _).alloc _).alloc _ = wz at B0 bw ⊢
  go_loopw [29] (fun i wr => ∃ k : Nat, k ≤ 3 ∧ i = .int .i64 k ∧ Hid (1 ≤ k → likeB l = true) ∧ Hid (2 ≤ k → ¬ 65536 < N) ∧ Hid (3 ≤ k → othB l N = false) ∧ LB w.heap.size (.slice (some ad) n cap) N ((N : Int) + 10) wr ∧ Below w.heap.size w wr) (fun i _ => 3 - (intOf i).toNat)
  case atStart => exact ⟨0, by omega, rfl, fun h => by omega, fun h => by omega, fun h => by omega, B0, bw⟩
  case round =>
    obtain ⟨k, hk, rfl, HU, HT, HO, BR, hb⟩ := hrel
    have hlt := BR.lt
    have HB := Lib.hid BR
    obtain ⟨c0, c1, c2, f0, f1, f2⟩ := BR.all
    have hvr := HV.out.below hb (Nat.le_refl _)
    have HVR := Lib.hid hvr
    clear BR hvr
    match k, hk with
    | 0, _ =>
      go_wp2_with fail
      refine (unlike_any w.heap.size _ l (by have := Hn.out; omega) wr (by omega) c0 w.heap.size (by omega) HVR.out).mono ?_
      cases hx : likeB l
      · have HS2 := HS.out
        rw [open1 hx] at HS2
        obtain ⟨rfl, rfl⟩ : z = 0 ∧ s = 2 := by cases HS2; exact ⟨rfl, rfl⟩
        clear HS2
        rintro e w1 ⟨rfl, hb1⟩
        have bw1 := hb.trans (hb1.mono (by omega))
        clear c0 c1 c2 f0 f1 f2 hb hb1 hx
        go_wp2_with fail
        go_ret2
        exact ⟨rfl, bw1⟩
      · have HX := Lib.hid hx
        clear hx
        rintro e w1 ⟨rfl, hb1⟩
        have HB1 := HB.out.below hb1
        have bw1 := hb.trans (hb1.mono (by omega))
        clear c0 c1 c2 f0 f1 f2 hb hb1
        go_wp2_with fail
        go_roundw
        case rel => exact ⟨1, by omega, rfl, fun _ => HX.out, fun h => by omega, fun h => by omega, HB1, bw1⟩
        case measure => simp [intOf]
    | 1, _ =>
      have HX := Lib.hid (HU.out (by omega))
      go_wp2_with fail
      refine (tooLong_any (w.heap.size + 1) N wr c1).mono ?_
      by_cases hx : 65536 < N
      · have HS2 := HS.out
        rw [open3 HX.out (by rw [Hn.out]; exact hl) (by rw [HN.out]; exact hx)] at HS2
        obtain ⟨rfl, rfl⟩ : z = 0 ∧ s = 2 := by cases HS2; exact ⟨rfl, rfl⟩
        clear HS2
        have hd : decide (65536 < N) = true := by simpa using hx
        rw [hd]
        clear hd hx
        rintro e w1 ⟨rfl, rfl⟩
        clear c0 c1 c2 f0 f1 f2
        go_wp2_with fail
        go_ret2
        exact ⟨rfl, hb⟩
      · have hd : decide (65536 < N) = false := by simpa using hx
        rw [hd]
        have HY := Lib.hid hx
        clear hd hx
        rintro e w1 ⟨rfl, rfl⟩
        clear c0 c1 c2 f0 f1 f2
        go_wp2_with fail
        go_roundw
        case rel => exact ⟨2, by omega, rfl, fun _ => HX.out, fun _ => HY.out, fun h => by omega, HB.out, hb⟩
        case measure => simp [intOf]
    | 2, _ =>
      have HX := Lib.hid (HU.out (by omega))
      have HY := Lib.hid (HT.out (by omega))
      go_wp2_with fail
      refine (third_any w.heap.size (some ad) cap N l (by have := Hn.out; omega) wr (by rw [Hn.out]; exact HB.out) w.heap.size (by rw [Hn.out]; exact HVR.out)).mono ?_
      cases hx : othB l N
      · have HZ := Lib.hid hx
        clear hx
        rintro e w1 ⟨rfl, hb1⟩
        have HB1 := HB.out.below hb1
        have bw1 := hb.trans (hb1.mono (by omega))
        clear c0 c1 c2 f0 f1 f2 hb hb1
        go_wp2_with fail
        go_roundw
        case rel => exact ⟨3, by omega, rfl, fun _ => HX.out, fun _ => HY.out, fun _ => HZ.out, HB1, bw1⟩
        case measure => simp [intOf]
      · have HS2 := HS.out
        rw [oth_yes HX.out (by rw [Hn.out]; exact hl) HN.out HY.out hx] at HS2
        obtain ⟨rfl, rfl⟩ : z = 0 ∧ s = 2 := by cases HS2; exact ⟨rfl, rfl⟩
        clear HS2 hx
        rintro e w1 ⟨rfl, hb1⟩
        have bw1 := hb.trans (hb1.mono (by omega))
        clear c0 c1 c2 f0 f1 f2 hb hb1
        go_wp2_with fail
        go_ret2
        exact ⟨rfl, bw1⟩
    | 3, _ =>
      have HX := HU.out (by omega)
      have HY := HT.out (by omega)
      have HZ := HO.out (by omega)
      by_cases hx : n < N + 10
      · have HS2 := HS.out
        rw [open4 HX (by rw [Hn.out]; exact hl) HN.out HY (by rw [Hn.out]; omega)] at HS2
        obtain ⟨rfl, rfl⟩ : z = 0 ∧ s = 1 := by cases HS2; exact ⟨rfl, rfl⟩
        have h1 : decide ((n : Int) < (N : Int) + 10) = true := by simp; omega
        clear HS2 HX HY HZ hx
        go_wp2_with fail
        go_ret2
        exact ⟨rfl, hb⟩
      · have HS2 := HS.out
        rw [oth_no HX (by rw [Hn.out]; exact hl) HN.out HY HZ (by rw [Hn.out]; omega)] at HS2
        obtain ⟨rfl, rfl⟩ : z = 10 + N ∧ s = 0 := by cases HS2; exact ⟨rfl, rfl⟩
        have h1 : decide ((n : Int) < (N : Int) + 10) = false := by simp; omega
        have e1 : Hid (((10 + N : Nat) : Int) = (N : Int) + 10) := by unfold Hid; omega
        clear HS2 HX HY HZ hx
        go_wp2_with fail
        go_ret2
        refine ⟨?_, hb⟩
        rw [e1.out]
        rfl
theorem look_any (v : Value) (l : List UInt8) (hl9 : l.length ≤ 1000000000) (w : World) (hv : Seen w w.heap.size v l) :
    Calls Tryz.prog 124 #[v] w fun e w' => e = .returned (.tuple #[.int .i64 ((openS l).1 : Nat), .int .i64 ((openS l).2 : Nat)]) ∧ Below w.heap.size w w' := by
  by_cases hl : l.length < 3
  · rw [open2 ((like_iff l).2 (fun i h1 h2 h3 => by omega)) hl]
    exact look_short v l hl w hv
  · exact look_long v l hl hl9 w hv
end Go.Proofs.YtghnbkkfghfifaaGreatDoor.F
/- The program's Open. -/
namespace Go.Proofs.YtghnbkkfghfifaaGreatDoor.F
open Go.RowKit
set_option linter.unusedVariables false
set_option maxRecDepth 100000 in
theorem open_bad (v : Value) (l : List UInt8) (hl9 : l.length ≤ 1000000000) (s : Nat) (hs : openS l = (0, s)) (hs0 : s ≠ 0) (w : World) (hv : Seen w w.heap.size v l) :
    Calls Tryz.prog 109 #[v] w fun e w' => e = .returned (.tuple #[.slice none 0 0, .int .i64 0, .int .i64 s]) ∧ Below w.heap.size w w' := by
  have HV := Lib.hid hv
  have HS := Lib.hid hs
  have h0 : ((s : Int) == 0) = false := by simp; omega
  clear hv hs hs0
  go_enter Tryz.func109, Tryz.ntmps109
  go_wp2_with fail
  refine (look_any v l hl9 w HV.out).mono ?_
  rw [HS.out]
  rintro e w1 ⟨rfl, hb⟩
  go_wp2_with fail
  go_ret3
  exact ⟨rfl, hb⟩
set_option maxRecDepth 100000 in
theorem open_whole (v : Value) (l : List UInt8) (hl9 : l.length ≤ 1000000000) (N : Nat) (hs : openS l = (10 + N, 0)) (hN : 10 + N ≤ l.length) (w : World) (hv : Seen w w.heap.size v l) :
    Calls Tryz.prog 109 #[v] w fun e w' => ∃ u, e = .returned (.tuple #[u, .int .i64 ((10 + N : Nat) : Int), .int .i64 0]) ∧ OwnB w' w.heap.size u (openP l) ∧ Below w.heap.size w w' := by
  obtain ⟨i0, hi, hz0, hz1, hz2⟩ := info_parts info5
  obtain ⟨q, cap, rfl, hcap⟩ := hv.len
  obtain ⟨ad, rfl, _⟩ := hv.at 0 (by omega)
  obtain ⟨P, hP⟩ : ∃ P, openP l = P := ⟨_, rfl⟩
  have hP2 : P = (l.drop 6).take N := by
    rw [← hP, openP_yes hs, List.drop_take]; congr 1; omega
  have hPl : P.length = N := by rw [hP2, List.length_take, List.length_drop]; omega
  have HS6 := hv.drop 6 (by omega)
  have HV := Lib.hid hv
  have HS := Lib.hid hs
  rw [hP]
  clear hv hs hP
  obtain ⟨n, hn⟩ : ∃ n, l.length = n := ⟨_, rfl⟩
  rw [hn] at hN HV hl9 hcap HS6 ⊢
  have Hn := Lib.hid hn
  have H6 := Lib.hid HS6
  have HP2 := Lib.hid hP2
  clear HS6 hP2 hn
  have h10 : ((10 + N : Nat) : Int) = (N : Int) + 10 := by omega
  rw [h10]
  go_enter Tryz.func109, Tryz.ntmps109
  go_wp2_with fail
  refine (look_any _ l (by rw [Hn.out]; exact hl9) w HV.out).mono ?_
  rw [HS.out]
  simp only
  rw [h10]
  clear h10
  rintro e w1 ⟨rfl, hb⟩
  go_wp2_with (at_make; refine wpList_make_full _ rfl _ _ 38 rfl w.heap.size 5 i0 (.int .u8 0) 1 Tryz.underlying38 hi hz0 hz1 .i64 .i64 _ _ N rfl rfl ?c1 ?c2 ?c3 ?c4 ?c5 ?_)
  case c1 => omega
  case c2 => omega
  case c3 => rw [hz2]; omega
  case c4 => unfold maxLen; omega
  case c5 => exact hb.size
  intro w2 hr2 hg2
  have hb2 : Below w.heap.size w w2 := hb.grown hg2 hb.size (fun k hk => by cases hk)
  have hsz := hb.size
  obtain ⟨g, hg⟩ : ∃ g, w1.heap.size = g := ⟨_, rfl⟩
  rw [hg] at hr2 hsz ⊢
  obtain ⟨cur, hcur, hcs⟩ : ∃ cur : Array Value, w2.heap[g]? = some (.cells cur 5 (0, 0)) ∧ cur.size = N := by
    rcases hr2.2 with ⟨hv, _⟩ | ⟨g', cap', cur, hv, _, hh, _, _, hc, _⟩
    · cases hv
    · cases hv; exact ⟨cur, hh, by omega⟩
  have HC : Hid (w2.heap[g]? = some (.cells cur.toList.toArray 5 (0, 0))) := Lib.hid (by simpa using hcur)
  clear hr2 hg2 hb hcur hg
  have hc6 : (cap = 6) = False := by simp; omega
  have hc6' : 6 ≤ cap := by omega
  have hc6'' : 6 ≤ n := by omega
  have hmin : (u8s P).length = Nat.min (n - 6) N := by
    rw [u8s_len, hPl]
    show N = min (n - 6) N
    omega
  have hsrc : Hid (∀ j v, (u8s P)[j]? = some v → w2.cell? ((ad.add 6).add j) = some v) := by
    intro j v hj
    obtain ⟨hjl, rfl⟩ := u8s_of hj
    have hs := H6.out.below hb2 (Nat.le_refl _)
    obtain ⟨ad', hq, _, hc⟩ := hs.at j (by rw [List.length_drop, Hn.out]; omega)
    obtain rfl := Option.some.inj hq
    rw [hc]
    simp only [HP2.out, List.getElem_take]
  have HM := Lib.hid hmin
  clear hmin
  go_wp2_with (with_reducible (refine wpList_copy_splice rfl (.tmp 20) (.tmp 22) 38 38 rfl 5 Tryz.underlying38 (by kernel_rfl) _ _ _ _ _ _ rfl rfl g 0 cur.toList 5 HC.out (u8s P) HM.out (fun _ => ⟨rfl, _, rfl, hsrc.out⟩) ?d1 (u8s_one P) w.heap.size w hb2 hsz ?_))
  case d1 => simp [u8s_len, hcs, hPl]
  intro w3 hg3 hb3
  have hsp : splice cur.toList 0 (u8s P) = u8s P := by
    unfold splice
    rw [List.drop_of_length_le (by rw [u8s_len, hPl]; simp [hcs])]
    simp
  have HO : Hid (OwnB w3 w.heap.size (.slice (some ⟨g, 0, none⟩) N N) P) := by
    have hh := hg3.out
    rw [hsp] at hh
    unfold Hid OwnB
    rw [hPl]
    refine ⟨by rw [u8s_len, hPl]; omega, .inr ⟨g, N, (u8s P).toArray, rfl, hsz, hh, Nat.le_refl _, by unfold maxLen; omega, ?_, ?_⟩⟩
    · simp [u8s_len, hPl]
    · rw [List.take_of_length_le (by simp [u8s_len, hPl])]
  clear hsp hg3
  go_wp2_with fail
  go_ret3
  exact ⟨_, rfl, HO.out, hb3⟩
/-- What Open tells, whatever the bytes. -/
theorem open_any (v : Value) (l : List UInt8) (hl9 : l.length ≤ 1000000000) (w : World) (hv : Seen w w.heap.size v l) :
    Calls Tryz.prog 109 #[v] w fun e w' => ∃ u, e = .returned (.tuple #[u, .int .i64 ((openS l).1 : Nat), .int .i64 ((openS l).2 : Nat)]) ∧ OwnB w' w.heap.size u (openP l) ∧ Below w.heap.size w w' := by
  rcases open_cases l with h | h | ⟨n, h1, h2, h⟩
  · rw [h, openP_no h (by decide)]
    exact (open_bad v l hl9 1 h (by decide) w hv).mono fun e w' ⟨he, hb⟩ => ⟨_, he, OwnB.nil _ _, hb⟩
  · rw [h, openP_no h (by decide)]
    exact (open_bad v l hl9 2 h (by decide) w hv).mono fun e w' ⟨he, hb⟩ => ⟨_, he, OwnB.nil _ _, hb⟩
  · rw [h]
    exact open_whole v l hl9 n h h2 w hv
end Go.Proofs.YtghnbkkfghfifaaGreatDoor.F
/- The program's All. -/
namespace Go.Proofs.YtghnbkkfghfifaaGreatDoor.F
open Go.RowKit
set_option linter.unusedVariables false
theorem info22 : (Tryz.prog.info? 38).map (fun i => (i.zero, i.size, i.bytes)) = some (some (.slice none 0 0), 1, 24) := by kernel_rfl
/-- A value owns a list of slices, each of which owns its bytes. -/
structure Rows (w : World) (base : Nat) (u : Value) (ps : List (List UInt8)) (cs : List Value) : Prop where
  row : w.ownsRow base 38 1 u ps.length cs
  each : ∀ (i : Nat) (c : Value) (p : List UInt8), cs[i]? = some c → ps[i]? = some p → OwnB w base c p
  slices : ∀ c ∈ cs, ∃ q n m, c = .slice q n m
theorem Rows.below {w w' : World} {base B : Nat} {u : Value} {ps : List (List UInt8)} {cs : List Value} (h : Rows w base u ps cs) (hb : Below B w w') (hB : w.heap.size ≤ B) : Rows w' base u ps cs := by
  refine ⟨?_, fun i c p hc hp => (h.each i c p hc hp).below hb hB, h.slices⟩
  obtain ⟨h1, h2⟩ := h.row
  refine ⟨h1, ?_⟩
  rcases h2 with h2 | ⟨g, cap, cur, hv, hg, hh, r⟩
  · exact .inl h2
  · exact .inr ⟨g, cap, cur, hv, hg, by rw [hb.block g (Nat.lt_of_lt_of_le (lt_of_block hh) hB)]; exact hh, r⟩
theorem Rows.alloc {w : World} {base : Nat} {u : Value} {ps : List (List UInt8)} {cs : List Value} (h : Rows w base u ps cs) (o : Obj) : Rows (w.alloc o) base u ps cs := ⟨h.row.alloc o, fun i c p hc hp => (h.each i c p hc hp).alloc o, h.slices⟩
theorem Rows.nil (w : World) (base : Nat) : Rows w base (.slice none 0 0) [] [] := ⟨World.ownsRow_nil w base 38 1, fun i c p hc hp => by simp at hc, fun c hc => by simp at hc⟩
/-- Bytes' blocks are none of a list's own block. -/
theorem own_apart {w : World} {base base' n : Nat} {u c : Value} {p : List UInt8} {cs : List Value} (h : w.ownsRow base 38 1 u n cs) (hc : OwnB w base' c p) : c.ownBlock = none ∨ c.ownBlock ≠ u.ownBlock := by
  rcases hc.2 with ⟨rfl, _⟩ | ⟨g, cap, cur, rfl, hg, hh, r⟩
  · exact .inl rfl
  · right
    rcases h.2 with ⟨rfl, _⟩ | ⟨g', cap', cur', rfl, hg', hh', r'⟩
    · simp [Value.ownBlock]
    · simp only [Value.ownBlock]
      intro e
      obtain rfl : g = g' := Option.some.inj e
      rw [hh] at hh'
      cases hh'
theorem Rows.push {w w' : World} {base : Nat} {u u' c : Value} {ps : List (List UInt8)} {cs : List Value} {p : List UInt8} (h : Rows w base u ps cs) (hc : OwnB w base c p) (hr : w'.ownsRow base 38 1 u' (ps.length + 1) (cs ++ [c])) (hg : w.grownBy w' u.ownBlock) : Rows w' base u' (ps ++ [p]) (cs ++ [c]) := by
  have hlen : cs.length = ps.length := by have := h.row.1; omega
  refine ⟨by rw [List.length_append, List.length_singleton]; exact hr, fun i c' p' h1 h2 => ?_, fun c' h' => ?_⟩
  · have k : ∀ c' p', OwnB w base c' p' → OwnB w' base c' p' := fun c' p' ho => World.ownsRow.kept ho hg (own_apart h.row ho)
    rcases Nat.lt_or_ge i ps.length with hi | hi
    · rw [List.getElem?_append_left (by omega)] at h1 h2
      exact k c' p' (h.each i c' p' h1 h2)
    · rw [List.getElem?_append_right (by omega)] at h1 h2
      have e1 : i - cs.length = 0 := by
        have := (List.getElem?_eq_some_iff.1 h1).1
        simp at this; omega
      rw [e1] at h1
      rw [← hlen, e1] at h2
      simp at h1 h2
      subst h1 h2
      exact k c p hc
  · rcases List.mem_append.1 h' with h' | h'
    · exact h.slices c' h'
    · obtain rfl : c' = c := by simpa using h'
      obtain ⟨q, cap, rfl⟩ := hc.len
      exact ⟨_, _, _, rfl⟩
set_option maxRecDepth 100000 in
set_option maxHeartbeats 1000000 in
theorem all_any (v : Value) (l : List UInt8) (hl9 : l.length ≤ 1000000000) (w : World) (hv : Seen w w.heap.size v l) :
    Calls Tryz.prog 83 #[v] w fun e w' => ∃ u cs, e = .returned (.tuple #[u, .int .i64 ((allL l).2.1 : Nat), .int .i64 ((allL l).2.2 : Nat)]) ∧ Rows w' w.heap.size u (allL l).1 cs ∧ Below w.heap.size w w' := by
  obtain ⟨i0, hi, hz0, hz1, hz2⟩ := info_parts info22
  obtain ⟨q, cap, rfl, hcap⟩ := hv.len
  have HV := Lib.hid hv
  clear hv
  obtain ⟨n, hn⟩ : ∃ n, l.length = n := ⟨_, rfl⟩
  rw [hn] at HV hl9 hcap ⊢
  have Hn := Lib.hid hn
  clear hn
  obtain ⟨A, hA⟩ : ∃ A, allL l = A := ⟨_, rfl⟩
  obtain ⟨aps, aend, ast⟩ := A
  rw [hA]
  simp only
  have HA := Lib.hid hA
  clear hA
  go_enter Tryz.func83, Tryz.ntmps83
  go_wp2_with fail
  go_loopw [5, 6] (fun u c wr => ∃ (e : Nat) (ps : List (List UInt8)) (cs : List Value), e ≤ n ∧ c = .int .i64 e ∧ ps.length ≤ e ∧ Hid (aps = ps ++ (allL (l.drop e)).1 ∧ aend = e + (allL (l.drop e)).2.1 ∧ ast = (allL (l.drop e)).2.2) ∧ Rows wr w.heap.size u ps cs ∧ Below w.heap.size w wr) (fun _ c _ => n - (intOf c).toNat)
  case atStart =>
    refine ⟨0, [], [], by omega, rfl, by simp, ?_, Rows.nil _ _, Below.refl _ _⟩
    have := HA.out
    unfold Hid
    rw [List.drop_zero, this]
    simp
  case round =>
    obtain ⟨e, ps, cs, he, rfl, hpe, HR, hR, hb⟩ := hrel
    by_cases hlt : e < n
    · obtain ⟨ad, rfl, _⟩ := HV.out.at 0 (by have := Hn.out; omega)
      have hsz := hb.size
      have hS := ((HV.out.below hb (Nat.le_refl _)).drop e (by rw [Hn.out]; exact he)).mono hsz
      rw [Hn.out] at hS
      have HSS := Lib.hid hS
      have hdl : (l.drop e).length = n - e := by rw [List.length_drop, Hn.out]
      have hce : (cap = e) = False := by simp; omega
      clear hS
      rcases open_cases (l.drop e) with ho | ho | ⟨N, h1, h2, ho⟩
      · have hr := all_end (by omega) ho (by decide)
        obtain ⟨rfl, rfl, rfl⟩ : aps = ps ∧ aend = e ∧ ast = 1 := by
          obtain ⟨r1, r2, r3⟩ := HR.out
          rw [hr] at r1 r2 r3
          exact ⟨by simpa using r1, by simpa using r2, r3⟩
        clear hr
        have HH := Lib.hid hR
        have HO := Lib.hid ho
        clear hR ho
        go_wp2_with fail
        refine (open_bad _ (l.drop aend) (by omega) 1 HO.out (by decide) wr HSS.out).mono ?_
        rintro e w1 ⟨rfl, hb1⟩
        have bw1 := hb.trans (hb1.mono hsz)
        have HW := HH.out.below hb1 (Nat.le_refl _)
        clear hb hb1
        go_wp2_with fail
        go_ret3
        exact ⟨_, _, rfl, HW, bw1⟩
      · have hr := all_end (by omega) ho (by decide)
        obtain ⟨rfl, rfl, rfl⟩ : aps = ps ∧ aend = e ∧ ast = 2 := by
          obtain ⟨r1, r2, r3⟩ := HR.out
          rw [hr] at r1 r2 r3
          exact ⟨by simpa using r1, by simpa using r2, r3⟩
        clear hr
        have HH := Lib.hid hR
        have HO := Lib.hid ho
        clear hR ho
        go_wp2_with fail
        refine (open_bad _ (l.drop aend) (by omega) 2 HO.out (by decide) wr HSS.out).mono ?_
        rintro e w1 ⟨rfl, hb1⟩
        have bw1 := hb.trans (hb1.mono hsz)
        have HW := HH.out.below hb1 (Nat.le_refl _)
        clear hb hb1
        go_wp2_with fail
        go_ret3
        exact ⟨_, _, rfl, HW, bw1⟩
      · have hr := all_whole ho h2
        rw [List.drop_drop] at hr
        have HR2 : Hid (aps = (ps ++ [openP (l.drop e)]) ++ (allL (l.drop (e + (10 + N)))).1 ∧ aend = e + (10 + N) + (allL (l.drop (e + (10 + N)))).2.1 ∧ ast = (allL (l.drop (e + (10 + N)))).2.2) := by
          obtain ⟨r1, r2, r3⟩ := HR.out
          rw [hr] at r1 r2 r3
          refine ⟨by rw [r1]; simp, ?_, r3⟩
          rw [r2]; simp only; omega
        obtain ⟨P, hP⟩ : ∃ P, openP (l.drop e) = P := ⟨_, rfl⟩
        rw [hP] at HR2
        have HP := Lib.hid hP
        have HH := Lib.hid hR
        have HO := Lib.hid ho
        have hen : e + (10 + N) ≤ n := by omega
        clear hr hP hR ho
        go_wp2_with fail
        refine (open_whole _ (l.drop e) (by omega) N HO.out h2 wr HSS.out).mono ?_
        rintro e w1 ⟨u1, rfl, hO1, hb1⟩
        rw [HP.out] at hO1
        have bw1 := hb.trans (hb1.mono hsz)
        have HW := HH.out.below hb1 (Nat.le_refl _)
        have hO1 := hO1.mono hsz
        have hrow := HW.row
        have hbk := own_block hrow
        obtain ⟨qq, cc, hlu⟩ := hO1.len
        clear hb hb1
        subst hlu
        go_wp2_with (at_builtin; refine wpList_append_own _ rfl (.tmp 27) (.tmp 29) 123 rfl w.heap.size 38 i0 (.slice none 0 0) 1 24 Tryz.underlying123 hi hz0 hz1 hz2 rfl (by decide) _ _ _ rfl (hrow.alloc _) ⟨w1.heap.size, 0, none⟩ 1 1 [.slice qq P.length cc] rfl rfl ?c1 ?c2 ?c3 ?c4 ?c5 ?_)
        case c1 => exact cell_one _ _ _
        case c2 => intro u hu; simp at hu; subst hu; rfl
        case c3 => unfold maxLen; omega
        case c4 => omega
        case c5 => have := bw1.size; simp; omega
        intro v2 w2 hrow2 hgr2 _
        have HW2 := (HW.alloc (.cells #[.slice qq P.length cc] 38)).push (hO1.alloc _) hrow2 hgr2
        have bw2 := (bw1.alloc bw1.size (.cells #[.slice qq P.length cc] 38)).grown hgr2 (by have := bw1.size; simp; omega) hbk
        clear hgr2 hrow2 hrow HW hO1 bw1 hbk
        go_wp2_with fail
        refine ⟨⟨e + (10 + N), ps ++ [P], cs ++ [.slice qq P.length cc], by omega, by simp, by rw [List.length_append, List.length_singleton]; omega, HR2, HW2, bw2⟩, ?_⟩
        simp only [intOf]
        omega
    · obtain rfl : e = n := by omega
      have hz : l.drop e = [] := List.drop_of_length_le (by rw [Hn.out]; exact Nat.le_refl _)
      obtain ⟨rfl, rfl, rfl⟩ : aps = ps ∧ aend = e ∧ ast = 0 := by
        obtain ⟨r1, r2, r3⟩ := HR.out
        rw [hz, all_nil] at r1 r2 r3
        exact ⟨by simpa using r1, by simpa using r2, r3⟩
      have HH := Lib.hid hR
      clear hR hz
      go_wp2_with fail
      go_ret3
      exact ⟨_, _, rfl, HH.out, hb⟩
end Go.Proofs.YtghnbkkfghfifaaGreatDoor.F
/- The bytes of a constant. -/
namespace Go.Proofs.YtghnbkkfghfifaaGreatDoor.F
open Go.RowKit
set_option linter.unusedVariables false
theorem lit_seen (w : World) (l : List UInt8) (fr : Nat × Nat) : Seen (w.alloc (.cells (u8s l).toArray 5 fr)) (w.alloc (.cells (u8s l).toArray 5 fr)).heap.size (.slice (some ⟨w.heap.size, 0, none⟩) l.length l.length) l := by
  refine Seen.mk rfl (Nat.le_refl _) (fun _ => by simp) (fun j hj => ?_)
  have hh := heap_alloc_new w (.cells (u8s l).toArray 5 fr)
  have := u8s_get hj
  rw [Addr.add_mid, Nat.zero_add]
  simp only [World.cell?, hh]
  simpa using this
end Go.Proofs.YtghnbkkfghfifaaGreatDoor.F
/- Bytes appended, whatever they are; a byte of a row stored. -/
namespace Go.Proofs.YtghnbkkfghfifaaGreatDoor.F
open Go.RowKit
set_option linter.unusedVariables false
theorem RowB.set {w : World} {g cap k : Nat} {l : List UInt8} (h : RowB w g cap k l) (j : Nat) (x : UInt8) : RowB (w.setCell ⟨g, j, none⟩ (.int .u8 (x.toNat : Int))) g cap k (l.set j x) := by
  have := (World.ownsRow.stored h j (.int .u8 (x.toNat : Int))).1
  unfold RowB u8s at *
  rw [List.map_set]
  exact this
theorem RowB.frozen {w : World} {g cap k : Nat} {l : List UInt8} (h : RowB w g cap k l) (j : Nat) : w.frozen? ⟨g, j, none⟩ = false := World.ownsRow.frozenAt h j
theorem wpList_append_seen {ops : Array Oper} {rest : List Oper} {o : Oper} {a : Act} {Q : Exit → Act → World → Prop} {w : World} (hgd : o.guard = none) (s x : Operand)
    (ho : o.op = .call { callee := .builtin .append, args := #[s, x], argTypes := #[38, 38] }) (base : Nat) (v : Value) (l : List UInt8) (hs : a.eval s = v) (hown : OwnB w base v l) (B : Nat) (xv : Value) (m : List UInt8) (hx : a.eval x = xv) (hsn : Seen w B xv m)
    (hlen : l.length + m.length ≤ 2000000000) (hbase : base ≤ w.heap.size) (C : Nat) (w0 : World) (hb : Below C w0 w) (hC : C ≤ base)
    (h : ∀ v' w', OwnB w' base v' (l ++ m) → Hid (Below C w0 w') → wpList Tryz.prog ops Q rest (a.put o.dst v') w') : wpList Tryz.prog ops Q (o :: rest) a w := by
  obtain ⟨i0, hi, hz0, hz1, hz2⟩ := info_parts info5
  rcases hsn with ⟨rfl, rfl⟩ | ⟨ad, cap, rfl, hc, hg, hh⟩
  · refine wpList_append_own_none hgd s x 38 ho base 5 i0 1 Tryz.underlying38 hi v l.length (u8s l) hs hown hx ?_
    exact h v w (by rw [List.append_nil]; exact hown) hb
  · refine wpList_append_own _ hgd s x 38 ho base 5 i0 (.int .u8 0) 1 1 Tryz.underlying38 hi hz0 hz1 hz2 rfl (by decide) v l.length (u8s l) hs hown ad m.length cap (u8s m) hx (by rw [u8s_len]; omega) (fun j u hu => ?_) (u8s_one m) (by unfold maxLen; omega) (by omega) hbase (fun v' w' h1 h2 _ => ?_)
    · obtain ⟨hj, rfl⟩ := u8s_of hu
      exact hh j hj
    · refine h v' w' ?_ ?_
      · unfold OwnB
        rw [List.length_append, u8s_app]
        exact h1
      · exact hb.grown h2 (by omega) (fun k hk => Nat.le_trans hC (own_block hown k hk))
theorem xor8 (x y : UInt8) : bits .xor .u8 (x.toNat : Int) (y.toNat : Int) = ((x ^^^ y).toNat : Int) := by
  rw [u8_xor_nat _ _ x.toNat_lt y.toNat_lt, UInt8.toNat_xor]
end Go.Proofs.YtghnbkkfghfifaaGreatDoor.F
/- The reference's Sum, num, value. -/
namespace Go.Proofs.YtghnbkkfghfifaaGreatDoor.F
open Go.RowKit
set_option linter.unusedVariables false
theorem bs_app (a b : List UInt8) : bs a ++ bs b = bs (a ++ b) := by
  rw [← data_bs (bs a ++ bs b)]
  congr 1
theorem get_data {s : ByteArray} {k : Nat} (h : k < s.size) : s[k] = s.data.toList[k]'(by simpa using h) := rfl
set_option maxRecDepth 100000 in
theorem rsum_any (s : ByteArray) (hs : s.size ≤ 4000000000) (w : World) :
    Calls Tryz.prog 105 #[.string s] w fun e w' => e = .returned (.int .i64 (sumN s.data.toList : Nat)) ∧ w' = w := by
  obtain ⟨l, hl⟩ : ∃ l, s.data.toList = l := ⟨_, rfl⟩
  have hsz : s.size = l.length := by rw [← hl]; simp
  have hget : ∀ (k : Nat) (h : k < s.size) (h2 : k < l.length), s[k] = l[k] := fun k h h2 => by rw [get_data h]; simp [hl]
  have HG := Lib.hid hget
  have HZ := Lib.hid hsz
  rw [hl]
  clear hget hl
  go_enter Tryz.func105, Tryz.ntmps105
  go_wp2
  go_loop [3, 4, 5] (fun a b i => ∃ k : Nat, k ≤ s.size ∧ i = .int .i64 k ∧ a = .int .i64 ((sumP (l.take k)).1 : Nat) ∧ b = .int .i64 ((sumP (l.take k)).2 : Nat)) (fun a b i => s.size - (intOf i).toNat)
  case atStart => exact ⟨0, Nat.zero_le _, rfl, rfl, rfl⟩
  case round =>
    obtain ⟨k, hk, rfl, rfl, rfl⟩ := hrel
    have hs2 := sumP_lt (l.take k)
    by_cases hlt : k < s.size
    · have hlt2 : k < l.length := by rw [← HZ.out]; exact hlt
      have hx := (s[k]).toNat_lt
      have hstep : sumP (l.take (k + 1)) = stepS (sumP (l.take k)) s[k] := by rw [List.take_succ_eq_append_getElem hlt2, sumP_snoc, HG.out k hlt hlt2]
      obtain ⟨a, ha⟩ : ∃ a, (sumP (l.take k)).1 = a := ⟨_, rfl⟩
      obtain ⟨b, hb⟩ : ∃ b, (sumP (l.take k)).2 = b := ⟨_, rfl⟩
      unfold stepS at hstep
      rw [ha, hb] at hstep hs2
      rw [ha, hb]
      have HS := Lib.hid hstep
      clear hstep ha hb
      obtain ⟨h1, h2⟩ := hs2
      go_wp2
      go_round
      case rel =>
        refine ⟨k + 1, by omega, by go_num, ?_, ?_⟩
        · rw [HS.out]; simp
        · rw [HS.out]; simp
      case measure => simp [intOf]; omega
    · have e : l.take k = l := List.take_of_length_le (by rw [← HZ.out]; omega)
      rw [e] at hs2 ⊢
      have hres : sumN l = (sumP l).2 * 65536 + (sumP l).1 := rfl
      obtain ⟨a, ha⟩ : ∃ a, (sumP l).1 = a := ⟨_, rfl⟩
      obtain ⟨b, hb⟩ : ∃ b, (sumP l).2 = b := ⟨_, rfl⟩
      rw [ha, hb] at hs2 hres ⊢
      have HR := Lib.hid hres
      clear ha hb e hres
      obtain ⟨h1, h2⟩ := hs2
      go_wp2
      go_ret
      refine ⟨?_, rfl⟩
      rw [HR.out]
      simp
set_option maxRecDepth 100000 in
theorem rnum_any (n count : Nat) (hn : n < 4294967296) (hc : count ≤ 4) (w : World) :
    Calls Tryz.prog 104 #[.int .i64 n, .int .i64 count] w fun e w' => e = .returned (.string (bs (beL count n))) ∧ Below w.heap.size w w' := by
  go_enter Tryz.func104, Tryz.ntmps104
  go_wp2
  go_loopw [0, 5, 6] (fun a s i wr => ∃ (k m : Nat) (S : ByteArray), k ≤ count ∧ i = .int .i64 k ∧ a = .int .i64 m ∧ s = .string S ∧ m < 4294967296 ∧ S.size = k ∧ Hid (beL count n = beL (count - k) m ++ S.data.toList) ∧ Below w.heap.size w wr) (fun _ _ i _ => count - (intOf i).toNat)
  case atStart => exact ⟨0, n, ⟨#[]⟩, by omega, rfl, rfl, rfl, hn, rfl, by unfold Hid; simp, Below.refl _ _⟩
  case round =>
    obtain ⟨k, m, S, hk, rfl, rfl, rfl, hm, hL, HE, hb⟩ := hrel
    by_cases hlt : k < count
    · have hx : ((m : Int) % 256) = (((m % 256).toUInt8.toNat : Nat) : Int) := by rw [← u8_nat (Nat.mod_lt _ (by omega))]; omega
      obtain ⟨X, hX⟩ : ∃ X, bs [(m % 256).toUInt8] = X := ⟨_, rfl⟩
      have hXs : X.size = 1 := by rw [← hX, bs_size]; rfl
      have hconv : (convert 38 9 (.slice (some ⟨wr.heap.size, 0, none⟩) 1 1)).run Tryz.prog (wr.alloc (.cells #[.int .u8 ((m : Int) % 256)] 5)) = .ok (.string X) (wr.alloc (.cells #[.int .u8 ((m : Int) % 256)] 5)) := by
        rw [hx, ← hX]
        exact (lit_seen wr [(m % 256).toUInt8] (0, 0)).text
      have HS : Hid (beL (count - k) m ++ S.data.toList = beL (count - (k + 1)) (m / 256) ++ (X ++ S).data.toList) := by
        unfold Hid
        rw [show count - k = count - (k + 1) + 1 by omega]
        conv => lhs; unfold beL
        rw [← hX, ← data_bs S, bs_app]
        simp [bs_data, data_bs]
      have HB := Lib.hid (hb.alloc hb.size (.cells #[.int .u8 ((m : Int) % 256)] 5))
      have HD : Hid (((m : Int) / 256) = ((m / 256 : Nat) : Int)) := by unfold Hid; omega
      have HZ : Hid ((X ++ S).size = k + 1) := by unfold Hid; rw [ByteArray.size_append]; omega
      clear hx hb hX
      go_wp2
      go_roundw
      case rel =>
        exact ⟨k + 1, m / 256, X ++ S, by omega, by go_num, by first | rfl | (rw [HD.out]), rfl, by omega, HZ.out, by unfold Hid; rw [HE.out, HS.out], HB.out⟩
      case measure => simp [intOf]; omega
    · obtain rfl : k = count := by omega
      have e : S = bs (beL k n) := by
        have := HE.out
        rw [Nat.sub_self] at this
        have h2 : beL k n = S.data.toList := this
        rw [h2, data_bs]
      have HE2 := Lib.hid e
      clear e
      go_wp2
      go_ret
      exact ⟨by rw [← HE2.out]; rfl, hb⟩
end Go.Proofs.YtghnbkkfghfifaaGreatDoor.F
/- The reference's Seal. -/
namespace Go.Proofs.YtghnbkkfghfifaaGreatDoor.F
open Go.RowKit
set_option linter.unusedVariables false
set_option maxRecDepth 100000 in
theorem rseal_long (s : ByteArray) (hl : 65536 < s.size) (w : World) :
    Calls Tryz.prog 77 #[.string s] w fun e w' => e = .returned (.tuple #[.string ⟨#[]⟩, .bool false]) ∧ w' = w := by
  have h1 : decide ((65536 : Int) < (s.size : Int)) = true := by simp; omega
  go_enter Tryz.func77, Tryz.ntmps77
  go_wp2
  go_ret2
  exact ⟨rfl, rfl⟩
set_option maxRecDepth 100000 in
set_option maxHeartbeats 2000000 in
theorem rseal_any (s : ByteArray) (l : List UInt8) (hs : s = bs l) (hl : l.length ≤ 65536) (w : World) :
    Calls Tryz.prog 77 #[.string s] w fun e w' => e = .returned (.tuple #[.string (bs (frameL l)), .bool true]) ∧ Below w.heap.size w w' := by
  obtain ⟨n, hn⟩ : ∃ n, l.length = n := ⟨_, rfl⟩
  have hsz : s.size = n := by rw [hs, bs_size, hn]
  rw [hn] at hl
  obtain ⟨H, hH⟩ : ∃ H, bs (beL 3 n) = H := ⟨_, rfl⟩
  have hHs : H.size = 3 := by rw [← hH, bs_size, beL_len]
  obtain ⟨a, ha⟩ : ∃ a, (n / 256 / 256 % 256).toUInt8 = a := ⟨_, rfl⟩
  obtain ⟨b, hb⟩ : ∃ b, (n / 256 % 256).toUInt8 = b := ⟨_, rfl⟩
  obtain ⟨c, hc⟩ : ∃ c, (n % 256).toUInt8 = c := ⟨_, rfl⟩
  have hl3 : beL 3 n = [a, b, c] := by rw [← ha, ← hb, ← hc]; rfl
  have i0 : H[0] = a := by subst hH; simp [hl3, bs]; rfl
  have i1 : H[1] = b := by subst hH; simp [hl3, bs]; rfl
  have i2 : H[2] = c := by subst hH; simp [hl3, bs]; rfl
  have hal := a.toNat_lt
  have hbl := b.toNat_lt
  have hcl := c.toNat_lt
  obtain ⟨X, hX⟩ : ∃ X, bs [inv a, inv b, inv c] = X := ⟨_, rfl⟩
  have hXs : X.size = 3 := by rw [← hX, bs_size]; rfl
  have hconv : ∀ w' : World, (convert 38 9 (.slice (some ⟨w'.heap.size, 0, none⟩) 3 3)).run Tryz.prog (w'.alloc (.cells #[.int .u8 (255 - (a.toNat : Int)), .int .u8 (255 - (b.toNat : Int)), .int .u8 (255 - (c.toNat : Int))] 5)).drew = .ok (.string X) (w'.alloc (.cells #[.int .u8 (255 - (a.toNat : Int)), .int .u8 (255 - (b.toNat : Int)), .int .u8 (255 - (c.toNat : Int))] 5)).drew := fun w' => by
    rw [inv_int, inv_int, inv_int, ← hX]
    exact (lit_seen w' [inv a, inv b, inv c] (0, 0)).drew.text
  have HF : Hid (H ++ X ++ s = bs (frontL l)) := by
    unfold Hid
    rw [← hH, ← hX, hs, bs_app, bs_app]
    congr 1
    unfold frontL headL
    rw [hn, hl3]
    rfl
  have Hn := Lib.hid hn
  have HS := Lib.hid hs
  have HH := Lib.hid hH
  clear hn hs hH hX ha hb hc hl3
  have h1 : decide ((65536 : Int) < (n : Int)) = false := by simp; omega
  go_enter Tryz.func77, Tryz.ntmps77
  go_wp2_with fail
  refine (rnum_any n 3 (by omega) (by omega) _).mono ?_
  rw [HH.out]
  rintro e w1 ⟨rfl, hb1⟩
  go_wp2_with fail
  go_region
  all_goals
    have hb2 : Below w.heap.size w _ := (hb1.alloc hb1.size (.cells #[.int .u8 (255 - (a.toNat : Int)), .int .u8 (255 - (b.toNat : Int)), .int .u8 (255 - (c.toNat : Int))] 5)).drew
    go_wp2_with fail
    obtain ⟨F, hF⟩ : ∃ F, H ++ X ++ s = F := ⟨_, rfl⟩
    have hFs : F.size = n + 6 := by rw [← hF, ByteArray.size_append, ByteArray.size_append]; omega
    have hFF : F = bs (frontL l) := by rw [← hF]; exact HF.out
    have hFd : F.data.toList = frontL l := by rw [hFF, bs_data]
    rw [hF]
    have HFF := Lib.hid hFF
    have HFd := Lib.hid hFd
    clear hF hFF hFd hconv
    refine (rsum_any F (by omega) _).mono ?_
    rw [HFd.out]
    rintro e w2 ⟨rfl, rfl⟩
    have hsl := sumN_lt (frontL l)
    have HB2 := Lib.hid hb2
    clear hb1 hb2
    go_wp2_with fail
    refine (rnum_any (sumN (frontL l)) 4 hsl (by omega) _).mono ?_
    obtain ⟨Y, hY⟩ : ∃ Y, bs (beL 4 (sumN (frontL l))) = Y := ⟨_, rfl⟩
    have hYs : Y.size = 4 := by rw [← hY, bs_size, beL_len]
    rw [hY]
    rintro e w3 ⟨rfl, hb3⟩
    have bw := HB2.out.trans (hb3.mono HB2.out.size)
    have HE : Hid (F ++ Y = bs (frameL l)) := by
      unfold Hid
      rw [HFF.out, ← hY, bs_app]
      rfl
    clear hY hb3
    go_wp2_with fail
    go_ret2
    refine ⟨?_, bw⟩
    rw [← HE.out]
    rfl
end Go.Proofs.YtghnbkkfghfifaaGreatDoor.F
