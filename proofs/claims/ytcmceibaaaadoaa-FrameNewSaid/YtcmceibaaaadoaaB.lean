/- Frames, plainly. -/
import Derived.WalkKit
namespace Go.Proofs.Ytcmceibaaaadoaa
set_option linter.unusedVariables false
/-- The sum's two numbers, one byte on. -/
def stepS (a : Nat × Nat) (c : UInt8) : Nat × Nat := ((a.1 + c.toNat) % 65521, (a.2 + (a.1 + c.toNat) % 65521) % 65521)
def sumP (l : List UInt8) : Nat × Nat := l.foldl stepS (1, 0)
def sumN (l : List UInt8) : Nat := (sumP l).2 * 65536 + (sumP l).1
theorem sumP_nil : sumP [] = (1, 0) := rfl
theorem sumP_snoc (l : List UInt8) (c : UInt8) : sumP (l ++ [c]) = stepS (sumP l) c := by unfold sumP; rw [List.foldl_append]; rfl
theorem fold_lt : ∀ (l : List UInt8) (a : Nat × Nat), a.1 < 65521 → a.2 < 65521 → (l.foldl stepS a).1 < 65521 ∧ (l.foldl stepS a).2 < 65521
  | [], a, h1, h2 => ⟨h1, h2⟩
  | c :: l, a, h1, h2 => by
    rw [List.foldl_cons]
    exact fold_lt l _ (by unfold stepS; simp only; omega) (by unfold stepS; simp only; omega)
theorem sumP_lt (l : List UInt8) : (sumP l).1 < 65521 ∧ (sumP l).2 < 65521 := fold_lt l _ (by decide) (by decide)
theorem sumN_lt (l : List UInt8) : sumN l < 4294967296 := by have := sumP_lt l; unfold sumN; omega
theorem fold_fst : ∀ (l : List UInt8) (a : Nat × Nat), (l.foldl stepS a).1 % 65521 = (a.1 + (l.map (·.toNat)).sum) % 65521
  | [], a => by simp
  | c :: l, a => by
    rw [List.foldl_cons, fold_fst l, List.map_cons, List.sum_cons]
    unfold stepS
    simp only
    omega
theorem sum_turn (u v : List UInt8) (x y : UInt8) (h : x ≠ y) : sumN (u ++ x :: v) ≠ sumN (u ++ y :: v) := by
  intro e
  have h1 := fold_fst (u ++ x :: v) (1, 0)
  have h2 := fold_fst (u ++ y :: v) (1, 0)
  have l1 := sumP_lt (u ++ x :: v)
  have l2 := sumP_lt (u ++ y :: v)
  simp only [List.map_append, List.map_cons, List.sum_append, List.sum_cons] at h1 h2
  unfold sumN at e
  unfold sumP at e l1 l2
  have hx := x.toNat_lt
  have hy := y.toNat_lt
  exact h (UInt8.toNat_inj.1 (by omega))
/-- A number in so many bytes, the highest first. -/
def beL : Nat → Nat → List UInt8
  | 0, _ => []
  | k + 1, n => beL k (n / 256) ++ [(n % 256).toUInt8]
theorem beL_len : ∀ k n, (beL k n).length = k
  | 0, _ => rfl
  | k + 1, n => by unfold beL; rw [List.length_append, beL_len k]; rfl
def valN (l : List UInt8) : Nat := l.foldl (fun n c => n * 256 + c.toNat) 0
theorem valN_snoc (l : List UInt8) (c : UInt8) : valN (l ++ [c]) = valN l * 256 + c.toNat := by unfold valN; rw [List.foldl_append]; rfl
theorem valN_beL : ∀ k n, n < 256 ^ k → valN (beL k n) = n
  | 0, n, h => by
    obtain rfl : n = 0 := by simpa using h
    rfl
  | k + 1, n, h => by
    unfold beL
    rw [valN_snoc, valN_beL k (n / 256) (by rw [Nat.div_lt_iff_lt_mul (by omega)]; rw [Nat.pow_succ] at h; exact h)]
    have : (n % 256).toUInt8.toNat = n % 256 := by simp
    rw [this]; omega
theorem fold_val : ∀ (l : List UInt8) (a : Nat), l.foldl (fun n c => n * 256 + c.toNat) a = a * 256 ^ l.length + valN l
  | [], a => by simp [valN]
  | c :: l, a => by
    have h1 := fold_val l (a * 256 + c.toNat)
    have h2 := fold_val l (0 * 256 + c.toNat)
    unfold valN
    rw [List.foldl_cons, List.foldl_cons, h1, h2, List.length_cons, Nat.pow_succ, Nat.add_mul, Nat.zero_mul, Nat.zero_add]
    have : a * 256 * 256 ^ l.length = a * (256 ^ l.length * 256) := by rw [Nat.mul_assoc, Nat.mul_comm 256]
    omega
theorem valN_lt : ∀ (k : Nat) (l : List UInt8), l.length = k → valN l < 256 ^ k
  | 0, l, h => by
    obtain rfl : l = [] := List.length_eq_zero_iff.1 h
    decide
  | k + 1, l, h => by
    have hne : l ≠ [] := by rintro rfl; simp at h
    have e := List.dropLast_concat_getLast hne
    have ih := valN_lt k l.dropLast (by rw [List.length_dropLast]; omega)
    rw [← e, valN_snoc, Nat.pow_succ]
    have := (l.getLast hne).toNat_lt
    omega
theorem val_turn (u v : List UInt8) (x y : UInt8) (h : x ≠ y) : valN (u ++ x :: v) ≠ valN (u ++ y :: v) := by
  intro e
  have h1 : ∀ z : UInt8, valN (u ++ z :: v) = (valN u * 256 + z.toNat) * 256 ^ v.length + valN v := fun z => by
    have := fold_val v (valN u * 256 + z.toNat)
    unfold valN at *
    rw [List.foldl_append, List.foldl_cons, this]
  rw [h1, h1] at e
  have e2 : (valN u * 256 + x.toNat) * 256 ^ v.length = (valN u * 256 + y.toNat) * 256 ^ v.length := by omega
  have e3 := Nat.eq_of_mul_eq_mul_right (Nat.pow_pos (by omega)) e2
  exact h (UInt8.toNat_inj.1 (by omega))
/-- Each byte taken from 255. -/
def inv (c : UInt8) : UInt8 := 255 - c
theorem inv_nat (c : UInt8) : (inv c).toNat = 255 - c.toNat := by
  have := c.toNat_lt
  unfold inv
  rw [UInt8.toNat_sub]
  show (2 ^ 8 - c.toNat + 255) % 2 ^ 8 = _
  omega
theorem inv_inj {a b : UInt8} (h : inv a = inv b) : a = b := by
  have := congrArg UInt8.toNat h
  rw [inv_nat, inv_nat] at this
  have := a.toNat_lt
  have := b.toNat_lt
  exact UInt8.toNat_inj.1 (by omega)
def headL (n : Nat) : List UInt8 := beL 3 n ++ (beL 3 n).map inv
theorem headL_len (n : Nat) : (headL n).length = 6 := by unfold headL; rw [List.length_append, List.length_map, beL_len]
def frontL (p : List UInt8) : List UInt8 := headL p.length ++ p
theorem frontL_len (p : List UInt8) : (frontL p).length = 6 + p.length := by unfold frontL; rw [List.length_append, headL_len]
/-- A payload's frame. -/
def frameL (p : List UInt8) : List UInt8 := frontL p ++ beL 4 (sumN (frontL p))
theorem frameL_len (p : List UInt8) : (frameL p).length = p.length + 10 := by unfold frameL; rw [List.length_append, frontL_len, beL_len]; omega
/-- The second three are as the first three say, as far as both are there. -/
def Like (l : List UInt8) : Prop := ∀ i, 3 ≤ i → i < 6 → i < l.length → l.getD i 0 = inv (l.getD (i - 3) 0)
def likeB (l : List UInt8) : Bool := (List.range 3).all fun k => decide (l.length ≤ k + 3) || decide (l.getD (k + 3) 0 = inv (l.getD k 0))
theorem like_iff (l : List UInt8) : likeB l = true ↔ Like l := by
  unfold likeB Like
  rw [List.all_eq_true]
  constructor
  · intro h i h1 h2 h3
    have := h (i - 3) (by simp; omega)
    rw [show i - 3 + 3 = i by omega] at this
    simp only [Bool.or_eq_true, decide_eq_true_eq] at this
    rcases this with h | h
    · omega
    · exact h
  · intro h k hk
    have hk : k < 3 := by simpa using hk
    simp only [Bool.or_eq_true, decide_eq_true_eq]
    by_cases h3 : l.length ≤ k + 3
    · exact .inl h3
    · exact .inr (by have := h (k + 3) (by omega) (by omega) (by omega); simpa using this)
theorem like_no {l : List UInt8} {i : Nat} (h1 : 3 ≤ i) (h2 : i < 6) (h3 : i < l.length) (h : l.getD i 0 ≠ inv (l.getD (i - 3) 0)) : likeB l = false := by
  rw [Bool.eq_false_iff]
  intro e
  exact h ((like_iff l).1 e i h1 h2 h3)
/-- How bytes go on: how many bytes the frame has, and the state. -/
def openS (l : List UInt8) : Nat × Nat :=
  if likeB l = false then (0, 2) else
  if l.length < 3 then (0, 1) else
  if 65536 < valN (l.take 3) then (0, 2) else
  if l.length < 10 + valN (l.take 3) then (0, 1) else
  if valN ((l.take (10 + valN (l.take 3))).drop (6 + valN (l.take 3))) ≠ sumN (l.take (6 + valN (l.take 3))) then (0, 2) else
  (10 + valN (l.take 3), 0)
def openP (l : List UInt8) : List UInt8 := if (openS l).2 = 0 then (l.take ((openS l).1 - 4)).drop 6 else []
theorem open1 {l : List UInt8} (h : likeB l = false) : openS l = (0, 2) := by unfold openS; rw [if_pos h]
theorem open2 {l : List UInt8} (h : likeB l = true) (h2 : l.length < 3) : openS l = (0, 1) := by unfold openS; rw [if_neg (by rw [h]; decide), if_pos h2]
theorem open3 {l : List UInt8} (h : likeB l = true) (h2 : ¬ l.length < 3) (h3 : 65536 < valN (l.take 3)) : openS l = (0, 2) := by unfold openS; rw [if_neg (by rw [h]; decide), if_neg h2, if_pos h3]
theorem open4 {l : List UInt8} {n : Nat} (h : likeB l = true) (h2 : ¬ l.length < 3) (hn : valN (l.take 3) = n) (h3 : ¬ 65536 < n) (h4 : l.length < 10 + n) : openS l = (0, 1) := by unfold openS; rw [hn, if_neg (by rw [h]; decide), if_neg h2, if_neg h3, if_pos h4]
theorem open5 {l : List UInt8} {n : Nat} (h : likeB l = true) (h2 : ¬ l.length < 3) (hn : valN (l.take 3) = n) (h3 : ¬ 65536 < n) (h4 : ¬ l.length < 10 + n) (h5 : valN ((l.take (10 + n)).drop (6 + n)) ≠ sumN (l.take (6 + n))) : openS l = (0, 2) := by unfold openS; rw [hn, if_neg (by rw [h]; decide), if_neg h2, if_neg h3, if_neg h4, if_pos h5]
theorem open6 {l : List UInt8} {n : Nat} (h : likeB l = true) (h2 : ¬ l.length < 3) (hn : valN (l.take 3) = n) (h3 : ¬ 65536 < n) (h4 : ¬ l.length < 10 + n) (h5 : valN ((l.take (10 + n)).drop (6 + n)) = sumN (l.take (6 + n))) : openS l = (10 + n, 0) := by unfold openS; rw [hn, if_neg (by rw [h]; decide), if_neg h2, if_neg h3, if_neg h4, if_neg (by rw [h5]; simp)]
theorem openP_no {l : List UInt8} {s : Nat} (h : openS l = (0, s)) (hs : s ≠ 0) : openP l = [] := by unfold openP; rw [h, if_neg (by simpa using hs)]
theorem openP_yes {l : List UInt8} {n : Nat} (h : openS l = (10 + n, 0)) : openP l = (l.take (6 + n)).drop 6 := by
  unfold openP; rw [h, if_pos rfl]; simp only; rw [show 10 + n - 4 = 6 + n by omega]
theorem open_cases (l : List UInt8) : openS l = (0, 1) ∨ openS l = (0, 2) ∨ ∃ n, n ≤ 65536 ∧ 10 + n ≤ l.length ∧ openS l = (10 + n, 0) := by
  unfold openS
  split
  · exact .inr (.inl rfl)
  split
  · exact .inl rfl
  split
  · exact .inr (.inl rfl)
  split
  · exact .inl rfl
  split
  · exact .inr (.inl rfl)
  · exact .inr (.inr ⟨_, by omega, by omega, rfl⟩)
theorem head3 (n : Nat) : headL n = [(n / 256 / 256 % 256).toUInt8, (n / 256 % 256).toUInt8, (n % 256).toUInt8, inv (n / 256 / 256 % 256).toUInt8, inv (n / 256 % 256).toUInt8, inv (n % 256).toUInt8] := rfl
theorem getD_left {a b : List UInt8} {i : Nat} (h : i < a.length) : (a ++ b).getD i 0 = a.getD i 0 := by
  rw [List.getD_eq_getElem?_getD, List.getElem?_append_left h, ← List.getD_eq_getElem?_getD]
theorem like_head (n : Nat) (r : List UInt8) : Like (headL n ++ r) := by
  intro i h1 h2 _
  rw [getD_left (by rw [headL_len]; omega), getD_left (by rw [headL_len]; omega), head3]
  have : i = 3 ∨ i = 4 ∨ i = 5 := by omega
  rcases this with rfl | rfl | rfl <;> rfl
theorem like_take {l : List UInt8} (h : Like l) (k : Nat) : Like (l.take k) := by
  intro i h1 h2 h3
  rw [List.length_take] at h3
  have e : ∀ j, j < k → (l.take k).getD j 0 = l.getD j 0 := fun j hj => by
    rw [List.getD_eq_getElem?_getD, List.getElem?_take, if_pos hj, ← List.getD_eq_getElem?_getD]
  rw [e i (by omega), e (i - 3) (by omega)]
  exact h i h1 h2 (by omega)
theorem frame_app (p r : List UInt8) : frameL p ++ r = headL p.length ++ (p ++ (beL 4 (sumN (frontL p)) ++ r)) := by
  unfold frameL frontL; simp
theorem take3_head (n : Nat) (r : List UInt8) : (headL n ++ r).take 3 = beL 3 n := by
  unfold headL
  rw [List.append_assoc]
  exact List.take_left' (beL_len 3 n)
theorem val3 {n : Nat} (h : n ≤ 65536) (r : List UInt8) : valN ((headL n ++ r).take 3) = n := by
  rw [take3_head]; exact valN_beL 3 n (by omega)
theorem open_frame (p r : List UInt8) (h : p.length ≤ 65536) : openS (frameL p ++ r) = (10 + p.length, 0) ∧ openP (frameL p ++ r) = p := by
  have hl : (frameL p ++ r).length = p.length + 10 + r.length := by rw [List.length_append, frameL_len]
  have e1 : (frameL p ++ r).take (10 + p.length) = frameL p := List.take_left' (by rw [frameL_len]; omega)
  have e2 : (frameL p ++ r).take (6 + p.length) = frontL p := by
    unfold frameL; rw [List.append_assoc]; exact List.take_left' (frontL_len p)
  have e3 : (frameL p).drop (6 + p.length) = beL 4 (sumN (frontL p)) := by
    unfold frameL; exact List.drop_left' (frontL_len p)
  have h6 : openS (frameL p ++ r) = (10 + p.length, 0) := by
    refine open6 ((like_iff _).2 (by rw [frame_app]; exact like_head _ _)) (by omega) (by rw [frame_app]; exact val3 h _) (by omega) (by omega) ?_
    rw [e1, e2, e3]
    exact valN_beL 4 _ (sumN_lt _)
  refine ⟨h6, ?_⟩
  rw [openP_yes h6, e2]
  unfold frontL
  exact List.drop_left' (headL_len _)
theorem open_cut (p : List UInt8) (h : p.length ≤ 65536) (k : Nat) (hk : k < p.length + 10) : openS ((frameL p).take k) = (0, 1) := by
  have hlk : likeB ((frameL p).take k) = true := (like_iff _).2 (like_take (by have := like_head p.length (p ++ (beL 4 (sumN (frontL p)) ++ [])); rw [← frame_app, List.append_nil] at this; exact this) k)
  have hl : ((frameL p).take k).length = k := by rw [List.length_take, frameL_len]; omega
  by_cases h3 : k < 3
  · exact open2 hlk (by omega)
  · refine open4 hlk (by omega) (n := p.length) ?_ (by omega) (by omega)
    rw [List.take_take, show min 3 k = 3 by omega]
    have := val3 h (p ++ (beL 4 (sumN (frontL p)) ++ []))
    rw [← frame_app] at this
    simpa using this
theorem xor_ne {x y : UInt8} (h : y ≠ 0) : x ^^^ y ≠ x := by
  intro e
  have : x ^^^ (x ^^^ y) = x ^^^ x := by rw [e]
  rw [← UInt8.xor_assoc, UInt8.xor_self, UInt8.zero_xor] at this
  exact h this
/-- A list of bytes, one of them another one. -/
theorem set_split (l : List UInt8) (k : Nat) (x : UInt8) (hk : k < l.length) : l = l.take k ++ l[k] :: l.drop (k + 1) ∧ l.set k x = l.take k ++ x :: l.drop (k + 1) := by
  refine ⟨?_, by rw [List.set_eq_take_append_cons_drop, if_pos hk]⟩
  conv => lhs; rw [← List.take_append_drop k l]
  rw [List.drop_eq_getElem_cons hk]
theorem open_turn (p r : List UInt8) (h : p.length ≤ 65536) (k : Nat) (hk : k < p.length + 10) (x : UInt8) (hx : x ≠ (frameL p).getD k 0) : openS ((frameL p).set k x ++ r) = (0, 2) := by
  have hlen : ((frameL p).set k x ++ r).length = p.length + 10 + r.length := by rw [List.length_append, List.length_set, frameL_len]
  by_cases h6 : k < 6
  · have es : (frameL p).set k x ++ r = (headL p.length).set k x ++ (p ++ (beL 4 (sumN (frontL p)) ++ r)) := by
      unfold frameL frontL
      rw [List.append_assoc, List.set_append_left _ _ (by rw [headL_len]; exact h6)]
      simp
    have hx' : x ≠ (headL p.length).getD k 0 := by
      have : (frameL p).getD k 0 = (headL p.length).getD k 0 := by
        unfold frameL frontL; rw [List.append_assoc]; exact getD_left (by rw [headL_len]; exact h6)
      rw [← this]; exact hx
    rw [es]
    have hs : ((headL p.length).set k x).length = 6 := by rw [List.length_set, headL_len]
    have key : ∃ i, 3 ≤ i ∧ i < 6 ∧ ((headL p.length).set k x).getD i 0 ≠ inv (((headL p.length).set k x).getD (i - 3) 0) := by
      rw [head3] at hx' ⊢
      have : k = 0 ∨ k = 1 ∨ k = 2 ∨ k = 3 ∨ k = 4 ∨ k = 5 := by omega
      rcases this with rfl | rfl | rfl | rfl | rfl | rfl
      · exact ⟨3, by omega, by omega, fun e => hx' (inv_inj e).symm⟩
      · exact ⟨4, by omega, by omega, fun e => hx' (inv_inj e).symm⟩
      · exact ⟨5, by omega, by omega, fun e => hx' (inv_inj e).symm⟩
      · exact ⟨3, by omega, by omega, hx'⟩
      · exact ⟨4, by omega, by omega, hx'⟩
      · exact ⟨5, by omega, by omega, hx'⟩
    obtain ⟨i, h1, h2, h3⟩ := key
    refine open1 (like_no h1 h2 (by rw [List.length_append, hs]; omega) ?_)
    rw [getD_left (by omega), getD_left (by omega)]
    exact h3
  · have hset : (frameL p).set k x = headL p.length ++ (p ++ beL 4 (sumN (frontL p))).set (k - 6) x := by
      unfold frameL frontL
      rw [List.append_assoc, List.set_append_right _ _ (by rw [headL_len]; omega), headL_len]
    have hlk : likeB ((frameL p).set k x ++ r) = true := (like_iff _).2 (by rw [hset, List.append_assoc]; exact like_head _ _)
    have hv : valN (((frameL p).set k x ++ r).take 3) = p.length := by rw [hset, List.append_assoc]; exact val3 h _
    refine open5 hlk (by omega) hv (by omega) (by omega) ?_
    have e1 : ((frameL p).set k x ++ r).take (10 + p.length) = (frameL p).set k x := List.take_left' (by rw [List.length_set, frameL_len]; omega)
    have hg : (frameL p).getD k 0 = (frameL p)[k]'(by rw [frameL_len]; exact hk) := by
      rw [List.getD_eq_getElem?_getD, List.getElem?_eq_getElem (by rw [frameL_len]; exact hk)]; rfl
    by_cases hp : k < 6 + p.length
    · have es : (frameL p).set k x = (frontL p).set k x ++ beL 4 (sumN (frontL p)) := by
        unfold frameL
        rw [List.set_append_left _ _ (by rw [frontL_len]; exact hp)]
      have e2 : ((frameL p).set k x ++ r).take (6 + p.length) = (frontL p).set k x := by
        rw [es, List.append_assoc]; exact List.take_left' (by rw [List.length_set, frontL_len])
      have e3 : ((frameL p).set k x).drop (6 + p.length) = beL 4 (sumN (frontL p)) := by
        rw [es]; exact List.drop_left' (by rw [List.length_set, frontL_len])
      rw [e1, e2, e3, valN_beL 4 _ (sumN_lt _)]
      obtain ⟨a1, a2⟩ := set_split (frontL p) k x (by rw [frontL_len]; exact hp)
      rw [a2]
      conv => lhs; rw [a1]
      refine sum_turn _ _ _ _ (fun e => hx ?_)
      rw [hg]
      unfold frameL
      rw [List.getElem_append_left (by rw [frontL_len]; exact hp), e]
    · have es : (frameL p).set k x = frontL p ++ (beL 4 (sumN (frontL p))).set (k - (6 + p.length)) x := by
        unfold frameL
        rw [List.set_append_right _ _ (by rw [frontL_len]; omega), frontL_len]
      have e2 : ((frameL p).set k x ++ r).take (6 + p.length) = frontL p := by
        rw [es, List.append_assoc]; exact List.take_left' (frontL_len p)
      have e3 : ((frameL p).set k x).drop (6 + p.length) = (beL 4 (sumN (frontL p))).set (k - (6 + p.length)) x := by
        rw [es]; exact List.drop_left' (frontL_len p)
      rw [e1, e2, e3]
      have hkl : k - (6 + p.length) < (beL 4 (sumN (frontL p))).length := by rw [beL_len]; omega
      obtain ⟨a1, a2⟩ := set_split (beL 4 (sumN (frontL p))) (k - (6 + p.length)) x hkl
      have hb : valN (beL 4 (sumN (frontL p))) = sumN (frontL p) := valN_beL 4 _ (sumN_lt _)
      rw [a2]
      conv => rhs; rw [← hb]
      conv => rhs; rw [a1]
      refine val_turn _ _ _ _ (fun e => hx ?_)
      rw [hg]
      unfold frameL
      rw [List.getElem_append_right (by rw [frontL_len]; omega)]
      simp only [frontL_len]
      exact e
theorem frame_inj {p q : List UInt8} (hp : p.length ≤ 65536) (hq : q.length ≤ 65536) (h : frameL p = frameL q) : p = q := by
  have h1 := (open_frame p [] hp).2
  have h2 := (open_frame q [] hq).2
  rw [← h1, ← h2, h]
/-- All frames from the front on. -/
def allF : Nat → List UInt8 → List (List UInt8) × Nat × Nat
  | 0, _ => ([], 0, 0)
  | f + 1, l => if l.length = 0 then ([], 0, 0) else if (openS l).2 = 0 then (openP l :: (allF f (l.drop (openS l).1)).1, (openS l).1 + (allF f (l.drop (openS l).1)).2.1, (allF f (l.drop (openS l).1)).2.2) else ([], 0, (openS l).2)
theorem allF_more : ∀ (f g : Nat) (l : List UInt8), l.length ≤ f → l.length ≤ g → allF f l = allF g l
  | 0, 0, _, _, _ => rfl
  | 0, g + 1, l, h, _ => by
    obtain rfl : l = [] := List.length_eq_zero_iff.1 (by omega)
    rfl
  | f + 1, 0, l, _, h => by
    obtain rfl : l = [] := List.length_eq_zero_iff.1 (by omega)
    rfl
  | f + 1, g + 1, l, h1, h2 => by
    unfold allF
    rcases open_cases l with e | e | ⟨n, _, hn, e⟩
    · rw [e]; simp
    · rw [e]; simp
    · have ih := allF_more f g (l.drop (10 + n)) (by rw [List.length_drop]; omega) (by rw [List.length_drop]; omega)
      rw [e]
      simp only
      rw [ih]
def allL (l : List UInt8) : List (List UInt8) × Nat × Nat := allF l.length l
theorem all_nil : allL [] = ([], 0, 0) := rfl
theorem all_whole {l : List UInt8} {n : Nat} (h : openS l = (10 + n, 0)) (hl : 10 + n ≤ l.length) : allL l = (openP l :: (allL (l.drop (10 + n))).1, 10 + n + (allL (l.drop (10 + n))).2.1, (allL (l.drop (10 + n))).2.2) := by
  have e : allL l = allF (l.length - 1 + 1) l := by unfold allL; rw [show l.length - 1 + 1 = l.length by omega]
  have e2 : allL (l.drop (10 + n)) = allF (l.length - 1) (l.drop (10 + n)) := allF_more _ _ _ (Nat.le_refl _) (by rw [List.length_drop]; omega)
  rw [e, e2]
  conv => lhs; unfold allF
  rw [if_neg (by omega), h, if_pos rfl]
theorem all_end {l : List UInt8} {s : Nat} (hl : 0 < l.length) (h : openS l = (0, s)) (hs : s ≠ 0) : allL l = ([], 0, s) := by
  have e : allL l = allF (l.length - 1 + 1) l := by unfold allL; rw [show l.length - 1 + 1 = l.length by omega]
  rw [e]
  unfold allF
  rw [if_neg (by omega), h, if_neg (by simpa using hs)]
theorem all_frame (p r : List UInt8) (h : p.length ≤ 65536) : allL (frameL p ++ r) = (p :: (allL r).1, 10 + p.length + (allL r).2.1, (allL r).2.2) := by
  obtain ⟨h1, h2⟩ := open_frame p r h
  rw [all_whole h1 (by rw [List.length_append, frameL_len]; omega), h2]
  have : (frameL p ++ r).drop (10 + p.length) = r := List.drop_left' (by rw [frameL_len]; omega)
  rw [this]
/-- Frames one behind the other. -/
def framesL (ps : List (List UInt8)) : List UInt8 := (ps.map frameL).flatten
theorem framesL_cons (p : List UInt8) (ps : List (List UInt8)) : framesL (p :: ps) = frameL p ++ framesL ps := by unfold framesL; simp
theorem framesL_snoc (p : List UInt8) (ps : List (List UInt8)) : framesL (ps ++ [p]) = framesL ps ++ frameL p := by unfold framesL; simp
/-- How many frames are whole in the first bytes, and where they end. -/
def wantF : List (List UInt8) → Nat → Nat × Nat
  | [], _ => (0, 0)
  | p :: ps, cut => if p.length + 10 ≤ cut then ((wantF ps (cut - (p.length + 10))).1 + 1, (wantF ps (cut - (p.length + 10))).2 + (p.length + 10)) else (0, 0)
theorem all_rows : ∀ (ps : List (List UInt8)) (cut : Nat), (∀ p ∈ ps, p.length ≤ 65536) → cut ≤ (framesL ps).length → allL ((framesL ps).take cut) = (ps.take (wantF ps cut).1, (wantF ps cut).2, if (wantF ps cut).2 = cut then 0 else 1)
  | [], cut, _, h => by
    have : cut = 0 := by simpa [framesL] using h
    subst this
    rfl
  | p :: ps, cut, hp, h => by
    have hpl := hp p (by simp)
    rw [framesL_cons] at h ⊢
    rw [List.length_append, frameL_len] at h
    unfold wantF
    by_cases hc : p.length + 10 ≤ cut
    · rw [if_pos hc]
      have ih := all_rows ps (cut - (p.length + 10)) (fun q hq => hp q (by simp [hq])) (by omega)
      have e : (frameL p ++ framesL ps).take cut = frameL p ++ (framesL ps).take (cut - (p.length + 10)) := by
        rw [List.take_append, List.take_of_length_le (by rw [frameL_len]; exact hc), frameL_len]
      rw [e, all_frame p _ hpl, ih]
      simp only [List.take_succ_cons, Prod.mk.injEq, true_and]
      refine ⟨by omega, ?_⟩
      by_cases hh : (wantF ps (cut - (p.length + 10))).2 = cut - (p.length + 10)
      · rw [if_pos hh, if_pos (by omega)]
      · rw [if_neg hh, if_neg (by omega)]
    · rw [if_neg hc]
      by_cases h0 : cut = 0
      · subst h0; simp [all_nil]
      · have e : (frameL p ++ framesL ps).take cut = (frameL p).take cut := List.take_append_of_le_length (by rw [frameL_len]; omega)
        rw [e, all_end (by rw [List.length_take, frameL_len]; omega) (open_cut p hpl cut (by omega)) (by decide)]
        simp only [List.take_zero, Prod.mk.injEq, true_and]
        rw [if_neg (by omega)]
theorem want_step : ∀ (ps : List (List UInt8)) (i : Nat) (cut : Nat), i < ps.length → wantF (ps.take (i + 1)) cut = if (framesL (ps.take (i + 1))).length ≤ cut then (i + 1, (framesL (ps.take (i + 1))).length) else wantF (ps.take i) cut
  | [], i, cut, h => by simp at h
  | p :: ps, 0, cut, _ => by
    simp only [List.take_succ_cons, List.take_zero, framesL_cons, wantF, List.length_append, frameL_len]
    simp [framesL]
  | p :: ps, i + 1, cut, h => by
    have ih := want_step ps i (cut - (p.length + 10)) (by simpa using h)
    rw [List.take_succ_cons, List.take_succ_cons, framesL_cons, List.length_append, frameL_len]
    unfold wantF
    by_cases hc : p.length + 10 ≤ cut
    · rw [if_pos hc, if_pos hc, ih]
      by_cases h2 : (framesL (ps.take (i + 1))).length ≤ cut - (p.length + 10)
      · have h3 : p.length + 10 + (framesL (ps.take (i + 1))).length ≤ cut := by omega
        rw [if_pos h2, if_pos h3]
        refine Prod.ext ?_ ?_
        · show i + 1 + 1 = i + 1 + 1
          rfl
        · show (framesL (ps.take (i + 1))).length + (p.length + 10) = p.length + 10 + (framesL (ps.take (i + 1))).length
          omega
      · have h3 : ¬ p.length + 10 + (framesL (ps.take (i + 1))).length ≤ cut := by omega
        rw [if_neg h2, if_neg h3]
    · rw [if_neg hc, if_neg hc, if_neg (by omega)]
end Go.Proofs.Ytcmceibaaaadoaa
