/- A slice of calls that came in; are they too long? -/
import Derived.Test.YtfkefppabjbbdaaT
namespace Go.Proofs.Ytfkefppabjbbdaa
open Go.RowKit Go.Maps
set_option linter.unusedVariables false
/-- A call. -/
structure Cl where
  kind : Int
  n : Int
  name : List UInt8
  s : List UInt8
  keep : List Int
/-- The cells of a call. -/
def ClIn (w : World) (B : Nat) (ad : Addr) (j : Nat) (o : Cl) : Prop :=
  (-9223372036854775808 ≤ o.n ∧ o.n ≤ 9223372036854775807) ∧ ∃ kv, w.cell? (ad.add (j * 5)) = some (.int .i64 o.kind) ∧ w.cell? ⟨(ad.add (j * 5)).block, (ad.add (j * 5)).off + 1, none⟩ = some (.int .i64 o.n) ∧
    w.cell? ⟨(ad.add (j * 5)).block, (ad.add (j * 5)).off + 2, none⟩ = some (.string (bs o.name)) ∧ w.cell? ⟨(ad.add (j * 5)).block, (ad.add (j * 5)).off + 3, none⟩ = some (.string (bs o.s)) ∧
    w.cell? ⟨(ad.add (j * 5)).block, (ad.add (j * 5)).off + 4, none⟩ = some kv ∧ Ints w (fun i => i < B) kv o.keep
/-- A slice of calls; they lie below B. -/
def Cls (w : World) (B : Nat) (v : Value) (l : List Cl) : Prop :=
  (l = [] ∧ v = .slice none 0 0) ∨ ∃ (ad : Addr) (cap : Nat), v = .slice (some ad) l.length cap ∧ l.length ≤ 9223372036854775807 ∧ (0 < l.length → ad.block < B) ∧ ∀ (j : Nat) (hj : j < l.length), ClIn w B ad j l[j]
theorem Ints.belowB {w w' : World} {B : Nat} {v : Value} {ks : List Int} (h : Ints w (fun i => i < B) v ks) (hb : Below B w w') : Ints w' (fun i => i < B) v ks := by
  rcases h with h | ⟨ad, cap, hv, hbb, hh⟩
  · exact .inl h
  · refine .inr ⟨ad, cap, hv, fun h0 => ⟨(hbb h0).1, Nat.lt_of_lt_of_le (hbb h0).2 hb.size⟩, fun j hj => ?_⟩
    rw [World.cell?_of_block (w := w) (a := ad.add j) (hb.block _ (by rw [add_block]; exact (hbb (by omega)).1))]
    exact hh j hj
theorem ClIn.below {w w' : World} {B : Nat} {ad : Addr} {j : Nat} {o : Cl} (h : ClIn w B ad j o) (hb : Below B w w') (hl : ad.block < B) : ClIn w' B ad j o := by
  obtain ⟨h0, kv, h1, h2, h3, h4, h5, h6⟩ := h
  have c : w'.cell? (ad.add (j * 5)) = w.cell? (ad.add (j * 5)) := World.cell?_of_block (w := w) (a := ad.add (j * 5)) (hb.block _ (by rw [add_block]; exact hl))
  have c' : ∀ m, w'.cell? ⟨(ad.add (j * 5)).block, m, none⟩ = w.cell? ⟨(ad.add (j * 5)).block, m, none⟩ := fun m => World.cell?_of_block (w := w) (a := ⟨(ad.add (j * 5)).block, m, none⟩) (hb.block _ (by rw [add_block]; exact hl))
  exact ⟨h0, kv, by rw [c]; exact h1, by rw [c']; exact h2, by rw [c']; exact h3, by rw [c']; exact h4, by rw [c']; exact h5, h6.belowB hb⟩
theorem Cls.below {w w' : World} {B : Nat} {v : Value} {l : List Cl} (h : Cls w B v l) (hb : Below B w w') : Cls w' B v l := by
  rcases h with h | ⟨ad, cap, hv, hc, hg, hh⟩
  · exact .inl h
  · exact .inr ⟨ad, cap, hv, hc, hg, fun j hj => (hh j hj).below hb (hg (by omega))⟩
theorem Cls.shape {w : World} {B : Nat} {v : Value} {l : List Cl} (h : Cls w B v l) : ∃ q cap, v = .slice q l.length cap ∧ l.length ≤ 9223372036854775807 := by
  rcases h with ⟨rfl, rfl⟩ | ⟨ad, cap, rfl, hl, _⟩
  · exact ⟨none, 0, rfl, by simp⟩
  · exact ⟨_, _, rfl, hl⟩
theorem Cls.at {w : World} {B : Nat} {q : Option Addr} {cap n : Nat} {l : List Cl} (h : Cls w B (.slice q n cap) l) (j : Nat) (hj : j < l.length) : ∃ ad, q = some ad ∧ ad.block < B ∧ ClIn w B ad j l[j] := by
  rcases h with ⟨h0, _⟩ | ⟨ad, cap', hv, hc, hg, hh⟩
  · rw [h0] at hj; simp at hj
  · injection hv with h1 h2 h3
    exact ⟨ad, h1, hg (by omega), hh j hj⟩
/-- Is one of them too long? -/
def longO (o : Cl) : Bool := decide (100 < o.name.length) || (decide (200 < o.s.length) || decide (20 < o.keep.length))
def longL (l : List Cl) : Bool := l.any longO || decide (60 < l.length)
set_option maxRecDepth 100000 in
theorem long_any (v : Value) (l : List Cl) (B : Nat) (w : World) (hv : Cls w B v l) (hB : B ≤ w.heap.size) :
    Calls Try.prog 11 #[v] w fun e w' => e = .returned (.bool (longL l)) ∧ Below w.heap.size w w' := by
  obtain ⟨q, cap, rfl, hle⟩ := hv.shape
  have HV := Lib.hid hv
  clear hv
  obtain ⟨N, hN⟩ : ∃ N, l.length = N := ⟨_, rfl⟩
  rw [hN] at HV hle
  rw [hN]
  have HN := Lib.hid hN
  clear hN
  go_enter Try.func11, Try.ntmps11
  go_wp2_with fail
  go_loopw [7] (fun iv wr => ∃ i : Nat, i ≤ N ∧ iv = .int .i64 i ∧ Hid ((l.take i).any longO = false) ∧ Hid (Below w.heap.size w wr)) (fun iv _ => N - (intOf iv).toNat)
  case atStart => exact ⟨0, by omega, rfl, rfl, Below.refl _ _⟩
  case round =>
    obtain ⟨i, hi, rfl, HA, HB⟩ := hrel
    by_cases hlt : i < N
    · have hil : i < l.length := by rw [HN.out]; exact hlt
      obtain ⟨ad, rfl, hab, -, kv, c0, c1, c2, c3, c4, hk⟩ := (HV.out.below (HB.out.mono hB)).at i hil
      obtain ⟨o, ho⟩ : ∃ o, l[i] = o := ⟨_, rfl⟩
      rw [ho] at c0 c1 c2 c3 hk
      obtain ⟨qk, capk, rfl⟩ := hk.len
      have hn := bs_size o.name
      have hs := bs_size o.s
      have HO : Hid (l[i]? = some o) := Lib.hid (by rw [List.getElem?_eq_getElem hil, ho])
      have HIL := Lib.hid hil
      have hsz := HB.out.size
      have HT : Hid (longO o = true → longL l = true) := Lib.hid (fun h => by
        unfold longL
        rw [List.any_eq_true.2 ⟨o, by rw [← ho]; exact List.getElem_mem hil, h⟩]
        rfl)
      have HF : Hid (longO o = false → (l.take (i + 1)).any longO = false) := Lib.hid (fun h => by
        rw [List.take_succ_eq_append_getElem hil, List.any_append, HA.out, ho]
        simp [h])
      clear ho hil hk
      go_wp2_with fail
      all_goals first
        | (go_ret
           refine ⟨?_, HB.out.alloc hsz _⟩
           rw [HT.out (by unfold longO; simp only [Bool.or_eq_true, decide_eq_true_eq]; omega)]
           rfl)
        | (refine ⟨⟨i + 1, by omega, by simp, HF.out (by unfold longO; simp only [Bool.or_eq_false_iff, decide_eq_false_iff_not]; omega), HB.out.alloc hsz _⟩, ?_⟩
           simp only [intOf]
           omega)
    · obtain rfl : i = N := by omega
      have HL : Hid (longL l = decide (60 < i)) := Lib.hid (by
        have h := HA.out
        rw [List.take_of_length_le (by rw [HN.out]; exact Nat.le_refl _)] at h
        unfold longL
        rw [h, HN.out]
        rfl)
      have h60 : decide ((60 : Int) < (i : Int)) = decide (60 < i) := by
        by_cases h : 60 < i
        · simp [h]; omega
        · simp [h]; omega
      go_wp2_with fail
      go_ret
      exact ⟨by rw [HL.out]; rfl, HB.out⟩
end Go.Proofs.Ytfkefppabjbbdaa
