/- Acts that came in; are they few? The document's example. -/
import Derived.Test.YtmoooeadiminbaaK
namespace Go.Proofs.Ytmoooeadiminbaa
open Go.RowKit Go.Maps
set_option linter.unusedVariables false
/-- An act. -/
structure Ac where
  kind : Int
  name : List UInt8
  far : Int
  now : Int
/-- The cells of an act. -/
def AcIn (w : World) (ad : Addr) (j : Nat) (o : Ac) : Prop :=
  w.cell? (ad.add (j * 4)) = some (.int .i64 o.kind) ∧ w.cell? ⟨(ad.add (j * 4)).block, (ad.add (j * 4)).off + 1, none⟩ = some (.string (bs o.name)) ∧
    w.cell? ⟨(ad.add (j * 4)).block, (ad.add (j * 4)).off + 2, none⟩ = some (.int .i64 o.far) ∧ w.cell? ⟨(ad.add (j * 4)).block, (ad.add (j * 4)).off + 3, none⟩ = some (.int .i64 o.now)
/-- A slice of acts; they lie below B. -/
def Acs (w : World) (B : Nat) (v : Value) (l : List Ac) : Prop :=
  (l = [] ∧ v = .slice none 0 0) ∨ ∃ (ad : Addr) (cap : Nat), v = .slice (some ad) l.length cap ∧ l.length ≤ cap ∧ cap ≤ 9223372036854775807 ∧ (0 < l.length → ad.block < B) ∧ ∀ (j : Nat) (hj : j < l.length), AcIn w ad j l[j]
theorem AcIn.below {w w' : World} {B : Nat} {ad : Addr} {j : Nat} {o : Ac} (h : AcIn w ad j o) (hb : Below B w w') (hl : ad.block < B) : AcIn w' ad j o := by
  obtain ⟨h1, h2, h3, h4⟩ := h
  have c : w'.cell? (ad.add (j * 4)) = w.cell? (ad.add (j * 4)) := World.cell?_of_block (w := w) (a := ad.add (j * 4)) (hb.block _ (by rw [add_block]; exact hl))
  have c' : ∀ m, w'.cell? ⟨(ad.add (j * 4)).block, m, none⟩ = w.cell? ⟨(ad.add (j * 4)).block, m, none⟩ := fun m => World.cell?_of_block (w := w) (a := ⟨(ad.add (j * 4)).block, m, none⟩) (hb.block _ (by rw [add_block]; exact hl))
  exact ⟨by rw [c]; exact h1, by rw [c']; exact h2, by rw [c']; exact h3, by rw [c']; exact h4⟩
theorem Acs.below {w w' : World} {B : Nat} {v : Value} {l : List Ac} (h : Acs w B v l) (hb : Below B w w') : Acs w' B v l := by
  rcases h with h | ⟨ad, cap, hv, hc, hc2, hg, hh⟩
  · exact .inl h
  · exact .inr ⟨ad, cap, hv, hc, hc2, hg, fun j hj => (hh j hj).below hb (hg (by omega))⟩
theorem Acs.shape {w : World} {B : Nat} {v : Value} {l : List Ac} (h : Acs w B v l) : ∃ q cap, v = .slice q l.length cap ∧ l.length ≤ cap ∧ cap ≤ 9223372036854775807 ∧ (q = none → l = [] ∧ cap = 0) := by
  rcases h with ⟨rfl, rfl⟩ | ⟨ad, cap, rfl, hl, hc, _⟩
  · exact ⟨none, 0, rfl, by simp, by simp, fun _ => ⟨rfl, rfl⟩⟩
  · exact ⟨_, _, rfl, hl, hc, fun h => by cases h⟩
theorem Acs.at {w : World} {B : Nat} {q : Option Addr} {cap n : Nat} {l : List Ac} (h : Acs w B (.slice q n cap) l) (j : Nat) (hj : j < l.length) : ∃ ad, q = some ad ∧ ad.block < B ∧ AcIn w ad j l[j] := by
  rcases h with ⟨h0, _⟩ | ⟨ad, cap', hv, hc, hc2, hg, hh⟩
  · rw [h0] at hj; simp at hj
  · injection hv with h1 h2 h3
    exact ⟨ad, h1, hg (by omega), hh j hj⟩
def fewA (o : Ac) : Bool := decide (o.name.length ≤ 100)
def fewL (l : List Ac) : Bool := l.all fewA && decide (l.length ≤ 101)
theorem fewL_len {l : List Ac} (h : fewL l = true) : l.length ≤ 101 := by unfold fewL at h; simp at h; exact h.2
theorem fewL_at {l : List Ac} (h : fewL l = true) {i : Nat} (hi : i < l.length) : l[i].name.length ≤ 100 := by
  unfold fewL at h
  simp only [Bool.and_eq_true, List.all_eq_true] at h
  have := h.1 _ (List.getElem_mem hi)
  unfold fewA at this
  simpa using this
theorem fewL_no {l : List Ac} {i : Nat} (hi : i < l.length) (h : 100 < l[i].name.length ∨ 100 < i) : fewL l = false := by
  cases hf : fewL l with
  | false => rfl
  | true =>
    have h1 := fewL_len hf
    have h2 := fewL_at hf hi
    omega
theorem fewL_yes {l : List Ac} (h : ∀ i (hi : i < l.length), l[i].name.length ≤ 100 ∧ i ≤ 100) : fewL l = true := by
  unfold fewL
  simp only [Bool.and_eq_true, List.all_eq_true, decide_eq_true_eq]
  refine ⟨fun o ho => ?_, ?_⟩
  · obtain ⟨i, hi, rfl⟩ := List.mem_iff_getElem.1 ho
    unfold fewA
    simpa using (h i hi).1
  · by_cases h0 : l.length = 0
    · omega
    · have := (h (l.length - 1) (by omega)).2
      omega
set_option maxHeartbeats 1000000 in
set_option maxRecDepth 100000 in
theorem few_any (v : Value) (l : List Ac) (B : Nat) (w : World) (hv : Acs w B v l) :
    Calls Try.prog 8 #[v] w fun e w' => e = .returned (.bool (fewL l)) ∧ w' = w := by
  obtain ⟨q, cap, rfl, hcap, hmax, _⟩ := hv.shape
  have HV := Lib.hid hv
  clear hv
  obtain ⟨N, hN⟩ : ∃ N, l.length = N := ⟨_, rfl⟩
  rw [hN] at HV hcap
  rw [hN]
  have HN := Lib.hid hN
  clear hN
  go_enter Try.func8, Try.ntmps8
  go_wp2_with fail
  go_loop [3] (fun iv => ∃ i : Nat, i ≤ N ∧ iv = .int .i64 i ∧ Hid (∀ j (hj : j < l.length), j < i → l[j].name.length ≤ 100 ∧ j ≤ 100)) (fun iv => N - (intOf iv).toNat)
  case atStart => exact ⟨0, by omega, rfl, fun j hj h => by omega⟩
  case round =>
    obtain ⟨i, hi, rfl, HA⟩ := hrel
    by_cases hlt : i < N
    · have hil : i < l.length := by rw [HN.out]; exact hlt
      obtain ⟨ad, rfl, hab, c0, c1, c2, c3⟩ := HV.out.at i hil
      obtain ⟨o, ho⟩ : ∃ o, l[i] = o := ⟨_, rfl⟩
      rw [ho] at c0 c1 c2 c3
      have hn := bs_size o.name
      have HNO : Hid (100 < o.name.length ∨ 100 < i → fewL l = false) := Lib.hid (fun h => fewL_no hil (by rw [ho]; exact h))
      have HYE : Hid (o.name.length ≤ 100 ∧ i ≤ 100 → ∀ j (hj : j < l.length), j < i + 1 → l[j].name.length ≤ 100 ∧ j ≤ 100) := Lib.hid (fun h j hj hji => by
        by_cases e : j = i
        · subst e; rw [ho]; exact h
        · exact HA.out j hj (by omega))
      clear ho hil
      go_wp2_with fail
      all_goals first
        | (go_ret
           exact ⟨by rw [HNO.out (by omega)]; rfl, rfl⟩)
        | (go_round
           case rel => exact ⟨i + 1, by omega, by go_num, HYE.out (by omega)⟩
           case measure => simp [intOf]; omega)
    · obtain rfl : i = N := by omega
      have HL : Hid (fewL l = true) := Lib.hid (fewL_yes (fun j hj => HA.out j hj (by rw [← HN.out]; exact hj)))
      go_wp2_with fail
      go_ret
      exact ⟨by rw [HL.out]; rfl, rfl⟩
/-- The example, plainly. -/
def x0 : Ck := newC 3 0
def x1 : Ck := hearC x0 [97] 10 0
def x2 : Ck := hearC x1 [98] 8 0
def x3 : Ck := hearC x2 [98] 5 0
def x4 : Ck := hearC x3 [97] 20 0
def x5 : Ck := hearC x4 [98] 20 0
theorem x_b1 : hearB x0 [97] 10 0 = true := by decide +kernel
theorem x_m1 : x1.mark = 6 := by decide +kernel
theorem x_b2 : hearB x1 [98] 8 0 = true := by decide +kernel
theorem x_b3 : hearB x2 [98] 5 0 = false := by decide +kernel
theorem x_m4 : x4.mark = 6 := by decide +kernel
theorem x_m5 : x5.mark = 16 := by decide +kernel
theorem x_l : x0.L.length ≤ 9 ∧ x1.L.length ≤ 9 ∧ x2.L.length ≤ 9 ∧ x3.L.length ≤ 9 ∧ x4.L.length ≤ 9 := by decide +kernel
end Go.Proofs.Ytmoooeadiminbaa
