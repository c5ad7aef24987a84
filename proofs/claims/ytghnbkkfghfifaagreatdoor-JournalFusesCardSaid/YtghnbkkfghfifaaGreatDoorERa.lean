/- A slice of events that came in; Some, All. -/
import Derived.Test.YtghnbkkfghfifaaGreatDoorEX3
namespace Go.Proofs.YtghnbkkfghfifaaGreatDoor.E
open Go.RowKit
set_option linter.unusedVariables false
/-- The cells of one of a slice's events. -/
def EvIn (w : World) (ad : Addr) (j : Nat) (e : Ev) : Prop := w.cell? (ad.add (j * 8)) = some (.string e.s) ∧ w.cell? ⟨(ad.add (j * 8)).block, (ad.add (j * 8)).off + 1, none⟩ = some (.int .i64 e.n) ∧ w.cell? ⟨(ad.add (j * 8)).block, (ad.add (j * 8)).off + 2, none⟩ = some (.int .i64 e.a) ∧ w.cell? ⟨(ad.add (j * 8)).block, (ad.add (j * 8)).off + 3, none⟩ = some (.int .i64 e.k) ∧ w.cell? ⟨(ad.add (j * 8)).block, (ad.add (j * 8)).off + 4, none⟩ = some (.string e.p) ∧ w.cell? ⟨(ad.add (j * 8)).block, (ad.add (j * 8)).off + 5, none⟩ = some (.string e.i) ∧ w.cell? ⟨(ad.add (j * 8)).block, (ad.add (j * 8)).off + 6, none⟩ = some (.int .i64 e.v) ∧ w.cell? ⟨(ad.add (j * 8)).block, (ad.add (j * 8)).off + 7, none⟩ = some (.string e.t)
/-- A slice of events; they lie below B. -/
def Evs (w : World) (B : Nat) (bv : Value) (es : List Ev) : Prop :=
  (es = [] ∧ bv = .slice none 0 0) ∨ ∃ (ad : Addr) (cap : Nat), bv = .slice (some ad) es.length cap ∧ es.length ≤ cap ∧ (0 < es.length → ad.block < B) ∧ ∀ (j : Nat) (hj : j < es.length), EvIn w ad j es[j]
theorem EvIn.below {w w' : World} {B : Nat} {ad : Addr} {j : Nat} {e : Ev} (h : EvIn w ad j e) (hb : Below B w w') (hl : ad.block < B) : EvIn w' ad j e := by
  unfold EvIn at *
  have c : w'.cell? (ad.add (j * 8)) = w.cell? (ad.add (j * 8)) := World.cell?_of_block (w := w) (a := ad.add (j * 8)) (hb.block _ (by rw [add_block]; exact hl))
  have c' : ∀ m, w'.cell? ⟨(ad.add (j * 8)).block, m, none⟩ = w.cell? ⟨(ad.add (j * 8)).block, m, none⟩ := fun m => World.cell?_of_block (w := w) (a := ⟨(ad.add (j * 8)).block, m, none⟩) (hb.block _ (by rw [add_block]; exact hl))
  rw [c, c', c', c', c', c', c', c']
  exact h
theorem Evs.below {w w' : World} {B b : Nat} {bv : Value} {es : List Ev} (h : Evs w b bv es) (hb : Below B w w') (hl : b ≤ B) : Evs w' b bv es := by
  rcases h with h | ⟨ad, cap, hv, hc, hg, hh⟩
  · exact .inl h
  · exact .inr ⟨ad, cap, hv, hc, hg, fun j hj => (hh j hj).below hb (by have := hg (by omega); omega)⟩
theorem Evs.shape {w : World} {B : Nat} {bv : Value} {es : List Ev} (h : Evs w B bv es) : ∃ q cap, bv = .slice q es.length cap := by
  rcases h with ⟨rfl, rfl⟩ | ⟨ad, cap, rfl, _⟩
  · exact ⟨none, 0, rfl⟩
  · exact ⟨_, _, rfl⟩
theorem Evs.at {w : World} {B : Nat} {q : Option Addr} {cap : Nat} {es : List Ev} (h : Evs w B (.slice q es.length cap) es) (j : Nat) (hj : j < es.length) : ∃ ad, q = some ad ∧ ad.block < B ∧ EvIn w ad j es[j] := by
  rcases h with ⟨h0, _⟩ | ⟨ad, cap', hv, hc, hg, hh⟩
  · rw [h0] at hj; simp at hj
  · injection hv with h1 h2 h3
    exact ⟨ad, h1, hg (by omega), hh j hj⟩
instance (e : Ev) (m : Nat) : Decidable (Small e m) := by unfold Small; infer_instance
theorem take_all {p : Ev → Bool} {es : List Ev} {k : Nat} (hk : k < es.length) (h : (es.take k).all p = true) (hp : p es[k] = true) : (es.take (k + 1)).all p = true := by
  rw [List.take_succ_eq_append_getElem hk, List.all_append, h]
  simp [hp]
theorem all_false {p : Ev → Bool} {es : List Ev} {k : Nat} (hk : k < es.length) (hp : p es[k] = false) : es.all p = false := by
  rw [List.all_eq_false]
  exact ⟨es[k], List.getElem_mem hk, by simp [hp]⟩
set_option maxRecDepth 100000 in
set_option maxHeartbeats 1000000 in
theorem rsome_any (bv : Value) (es : List Ev) (most : Nat) (hle : es.length ≤ 1000000) (w : World) (hv : Evs w w.heap.size bv es) :
    Calls Tryz.prog 38 #[bv, .int .i64 most] w fun e w' => e = .returned (.bool (!es.all (fun e => decide (Small e most)))) ∧ Below w.heap.size w w' := by
  obtain ⟨q, cap, rfl⟩ := hv.shape
  have HV := Lib.hid hv
  clear hv
  go_enter Tryz.func38, Tryz.ntmps38
  go_wp2_with fail
  go_loopw [5] (fun i wr => ∃ k : Nat, k ≤ es.length ∧ i = .int .i64 k ∧ Hid ((es.take k).all (fun e => decide (Small e most)) = true) ∧ Hid (Evs wr w.heap.size (.slice q es.length cap) es) ∧ Below w.heap.size w wr) (fun i _ => es.length - (intOf i).toNat)
  case atStart => exact ⟨0, by omega, rfl, rfl, HV.out, Below.refl _ _⟩
  case round =>
    obtain ⟨k, hk, rfl, HP, HE, hb⟩ := hrel
    by_cases hlt : k < es.length
    · obtain ⟨ad, rfl, hab, hc⟩ := HE.out.at k hlt
      obtain ⟨c0, c1, c2, c3, c4, c5, c6, c7⟩ := hc
      obtain ⟨ev, hev⟩ : ∃ ev, es[k] = ev := ⟨_, rfl⟩
      rw [hev] at c0 c1 c2 c3 c4 c5 c6 c7
      obtain ⟨s, n, a, kd, p, i, v, t⟩ := ev
      simp only at c0 c1 c2 c3 c4 c5 c6 c7
      have HEV := Lib.hid hev
      clear hev
      have HBW := Lib.hid hb
      have hs := hb.size
      clear hb
      by_cases hp : (fun e => decide (Small e most)) (⟨s, n, a, kd, p, i, v, t⟩ : Ev) = true
      · have HPP := Lib.hid hp
        clear hp
        go_wp2_with fail
        refine (big_no s n a kd p i v t most (by simpa using HPP.out) _).mono ?_
        rintro e w1 ⟨rfl, hb⟩
        go_wp2_with fail
        refine ⟨⟨k + 1, by omega, by go_num, ?_, HE.out.below hb hs, HBW.out.trans (hb.mono hs)⟩, by simp only [intOf]; omega⟩
        exact take_all hlt HP.out (by rw [HEV.out]; exact HPP.out)
      · have HPP := Lib.hid hp
        clear hp
        have hfal := all_false (p := fun e => decide (Small e most)) hlt (by rw [HEV.out]; exact Bool.eq_false_iff.2 HPP.out)
        have HF := Lib.hid hfal
        clear hfal
        go_wp2_with fail
        refine (big_yes s n a kd p i v t most (by simpa using HPP.out) _).mono ?_
        rintro e w1 ⟨rfl, hb⟩
        go_wp2_with fail
        go_ret
        exact ⟨by rw [HF.out]; rfl, HBW.out.trans (hb.mono hs)⟩
    · have hall : es.all (fun e => decide (Small e most)) = true := by
        have := HP.out
        rw [List.take_of_length_le (by omega)] at this
        exact this
      have HF := Lib.hid hall
      clear hall
      go_wp2_with fail
      go_ret
      exact ⟨by rw [HF.out]; rfl, hb⟩
set_option maxRecDepth 100000 in
set_option maxHeartbeats 1000000 in
theorem rall_any (bv : Value) (es : List Ev) (hsz : ∀ e ∈ es, e.t.size ≤ 1000000000) (hle : es.length ≤ 1000000) (w : World) (hv : Evs w w.heap.size bv es) :
    Calls Tryz.prog 34 #[bv] w fun e w' => e = .returned (.bool (es.all mayB)) ∧ Below w.heap.size w w' := by
  obtain ⟨q, cap, rfl⟩ := hv.shape
  have HV := Lib.hid hv
  clear hv
  go_enter Tryz.func34, Tryz.ntmps34
  go_wp2_with fail
  go_loopw [3] (fun i wr => ∃ k : Nat, k ≤ es.length ∧ i = .int .i64 k ∧ Hid ((es.take k).all (mayB) = true) ∧ Hid (Evs wr w.heap.size (.slice q es.length cap) es) ∧ Below w.heap.size w wr) (fun i _ => es.length - (intOf i).toNat)
  case atStart => exact ⟨0, by omega, rfl, rfl, HV.out, Below.refl _ _⟩
  case round =>
    obtain ⟨k, hk, rfl, HP, HE, hb⟩ := hrel
    by_cases hlt : k < es.length
    · obtain ⟨ad, rfl, hab, hc⟩ := HE.out.at k hlt
      obtain ⟨c0, c1, c2, c3, c4, c5, c6, c7⟩ := hc
      obtain ⟨ev, hev⟩ : ∃ ev, es[k] = ev := ⟨_, rfl⟩
      rw [hev] at c0 c1 c2 c3 c4 c5 c6 c7
      obtain ⟨s, n, a, kd, p, i, v, t⟩ := ev
      simp only at c0 c1 c2 c3 c4 c5 c6 c7
      have HEV := Lib.hid hev
      clear hev
      have HBW := Lib.hid hb
      have hs := hb.size
      clear hb
      have hts : t.size ≤ 1000000000 := by have := hsz _ (List.getElem_mem hlt); rw [HEV.out] at this; exact this
      by_cases hp : (mayB) (⟨s, n, a, kd, p, i, v, t⟩ : Ev) = true
      · have HPP := Lib.hid hp
        clear hp
        go_wp2_with fail
        refine (rmay_any s n a kd p i v t hts _).mono ?_
        rw [HPP.out]
        rintro e w1 ⟨rfl, hb⟩
        go_wp2_with fail
        refine ⟨⟨k + 1, by omega, by go_num, ?_, HE.out.below hb hs, HBW.out.trans (hb.mono hs)⟩, by simp only [intOf]; omega⟩
        exact take_all hlt HP.out (by rw [HEV.out]; exact HPP.out)
      · have HPP := Lib.hid hp
        clear hp
        have hfal := all_false (p := mayB) hlt (by rw [HEV.out]; exact Bool.eq_false_iff.2 HPP.out)
        have HF := Lib.hid hfal
        clear hfal
        go_wp2_with fail
        refine (rmay_any s n a kd p i v t hts _).mono ?_
        rw [show mayB ⟨s, n, a, kd, p, i, v, t⟩ = false from Bool.eq_false_iff.2 HPP.out]
        rintro e w1 ⟨rfl, hb⟩
        go_wp2_with fail
        go_ret
        exact ⟨by rw [HF.out]; rfl, HBW.out.trans (hb.mono hs)⟩
    · have hall : es.all (mayB) = true := by
        have := HP.out
        rw [List.take_of_length_le (by omega)] at this
        exact this
      have HF := Lib.hid hall
      clear hall
      go_wp2_with fail
      go_ret
      exact ⟨by rw [HF.out]; rfl, hb⟩
end Go.Proofs.YtghnbkkfghfifaaGreatDoor.E
