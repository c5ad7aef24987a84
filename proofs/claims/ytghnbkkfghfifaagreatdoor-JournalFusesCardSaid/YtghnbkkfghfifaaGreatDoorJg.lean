/- A journal's Append. -/
import Derived.Test.YtghnbkkfghfifaaGreatDoorJf
namespace Go.Proofs.YtghnbkkfghfifaaGreatDoor
open Go.RowKit Go.Maps D
open F (frameL frameL_len)
set_option linter.unusedVariables false
/-- A slice of events, that lies where P says. -/
def EvP (w : World) (P : Nat → Prop) (bv : Value) (es : List Ev) : Prop :=
  (es = [] ∧ bv = .slice none 0 0) ∨ ∃ (ad : Addr) (cap : Nat), bv = .slice (some ad) es.length cap ∧ es.length ≤ cap ∧ (0 < es.length → P ad.block ∧ ad.block < w.heap.size) ∧ ∀ (j : Nat) (hj : j < es.length), E.EvIn w ad j es[j]
theorem EvP.evs {w : World} {P : Nat → Prop} {bv : Value} {es : List Ev} (h : EvP w P bv es) : E.Evs w w.heap.size bv es := by
  rcases h with h | ⟨ad, cap, hv, hc, hb, hh⟩
  · exact .inl h
  · exact .inr ⟨ad, cap, hv, hc, fun h0 => (hb h0).2, hh⟩
theorem EvP.keptF {w w' : World} {P G : Nat → Prop} {bv : Value} {es : List Ev} (h : EvP w P bv es) (hk : Kept G w w') (hPG : ∀ i, P i → ¬ G i) : EvP w' P bv es := by
  rcases h with h | ⟨ad, cap, hv, hc, hb, hh⟩
  · exact .inl h
  · refine .inr ⟨ad, cap, hv, hc, fun h0 => ⟨(hb h0).1, Nat.lt_of_lt_of_le (hb h0).2 hk.size⟩, fun j hj => ?_⟩
    obtain ⟨h1, h2⟩ := hb (by omega)
    refine ev_of fun m hm => ?_
    rw [← ev_cell (hh j hj) m hm]
    exact World.cell?_of_block (w := w) (a := ad.add (j * 8 + m)) (by rw [add_block]; exact hk.block _ h2 (hPG _ h1))
theorem EvP.of {w : World} {B : Nat} {P : Nat → Prop} {bv : Value} {es : List Ev} (h : E.Evs w B bv es) (hB : B ≤ w.heap.size) (hP : ∀ i, i < B → P i) : EvP w P bv es := by
  rcases h with h | ⟨ad, cap, hv, hc, hb, hh⟩
  · exact .inl h
  · exact .inr ⟨ad, cap, hv, hc, fun h0 => ⟨hP _ (hb h0), Nat.lt_of_lt_of_le (hb h0) hB⟩, hh⟩
theorem EvP.shape {w : World} {P : Nat → Prop} {bv : Value} {es : List Ev} (h : EvP w P bv es) : ∃ q cap, bv = .slice q es.length cap := h.evs.shape
theorem EvP.nil (w : World) (P : Nat → Prop) : EvP w P (.slice none 0 0) [] := .inl ⟨rfl, rfl⟩
section
variable {w : World} {F : Nat → Prop} {d l : Nat} {n : List UInt8} {per : Nat} {v : Value} {j : Jn Ev}
set_option maxRecDepth 100000 in
theorem mayAppend_stuck (h : LogM w F d l n per v j) (hs : j.stuck ≠ 0) (bv : Value) :
    Calls Tryz.prog 65 #[.pointer (some ⟨l, 0, none⟩), bv] w fun e w' => e = .returned (.int .i64 (j.stuck : Int)) ∧ Below w.heap.size w w' := by
  have c6 := h.self.c 6 rfl
  have g0 : ¬ (j.stuck : Int) = 0 := by omega
  clear h hs
  go_enter Tryz.func65, Tryz.ntmps65
  go_wp2_with fail
  go_ret
  exact ⟨rfl, Below.refl _ _⟩
set_option maxRecDepth 100000 in
set_option maxHeartbeats 1000000 in
theorem mayAppend_go (h : LogM w F d l n per v j) (hs : j.stuck = 0) (bv : Value) (xs : List Ev) (hv : E.Evs w w.heap.size bv xs) (hle : xs.length ≤ 1000000) (hsz : ∀ e ∈ xs, e.t.size ≤ 1000000000) :
    Calls Tryz.prog 65 #[.pointer (some ⟨l, 0, none⟩), bv] w fun e w' => e = .returned (.int .i64 (jmay E.mayB xs j : Int)) ∧ Below w.heap.size w w' := by
  have HJ : Hid (jmay E.mayB xs j = if xs.all E.mayB = false then 1 else if (xs.length : Int) > 1048576 - (j.es.length : Int) then 5 else 0) := Lib.hid (by unfold jmay; rw [if_neg (by omega)])
  obtain ⟨q, cap, rfl⟩ := hv.shape
  obtain ⟨q2, cap2, hv2⟩ := h.row.len
  have c6 := h.self.c 6 rfl
  rw [hs] at c6
  have HV2 := Lib.hid hv2
  have HV := Lib.hid hv
  have HM := Lib.hid h
  have HT := Lib.hid hsz
  have hL6 := h.small.1
  obtain ⟨L, hL⟩ : ∃ L, j.es.length = L := ⟨_, rfl⟩
  obtain ⟨N, hN⟩ : ∃ N, xs.length = N := ⟨_, rfl⟩
  rw [hL] at HV2 HJ hL6
  rw [hN] at HV hle HJ ⊢
  have HL := Lib.hid hL
  have HN := Lib.hid hN
  have k1 : wrap64 ((1048576 : Int) - (L : Int)) = (1048576 : Int) - (L : Int) := by unfold wrap64; omega
  clear hv hv2 h hsz hs hL hN
  go_enter Tryz.func65, Tryz.ntmps65
  go_wp2_with fail
  go_loopw [18] (fun i wr => ∃ k : Nat, k ≤ N ∧ i = .int .i64 k ∧ Hid ((xs.take k).all E.mayB = true) ∧ Hid (Below w.heap.size w wr)) (fun i _ => N - (intOf i).toNat)
  case atStart => exact ⟨0, by omega, rfl, rfl, Lib.hid (Below.refl _ _)⟩
  case round =>
    obtain ⟨k, hk, rfl, HP, HB⟩ := hrel
    by_cases hlt : k < N
    · have hke : k < xs.length := by rw [HN.out]; exact hlt
      have hvr := HV.out.below HB.out (Nat.le_refl _)
      rw [← HN.out] at hvr
      obtain ⟨ad, rfl, hab, hc⟩ := hvr.at k hke
      have hts := HT.out _ (List.getElem_mem hke)
      have hT1 : E.mayB xs[k] = true → (xs.take (k + 1)).all E.mayB = true := E.take_all hke HP.out
      have hT2 : E.mayB xs[k] = false → xs.all E.mayB = false := E.all_false hke
      obtain ⟨ev, hev⟩ : ∃ ev, xs[k] = ev := ⟨_, rfl⟩
      rw [hev] at hc hts hT1 hT2
      obtain ⟨s, n, a, kd, p, i, v, t⟩ := ev
      obtain ⟨c0, c1, c2, c3, c4, c5, c6, c7⟩ := hc
      simp only at c0 c1 c2 c3 c4 c5 c6 c7 hts
      have hLr := HM.out.lay.next HB.out
      have HLR := Lib.hid (hLr.next ((Below.refl _ wr).alloc (Nat.le_refl _) (.cells #[.string s, .int .i64 n, .int .i64 a, .int .i64 kd, .string p, .string i, .int .i64 v, .string t] 52)))
      have HTS := Lib.hid hts
      have HT1 := Lib.hid hT1
      have HT2 := Lib.hid hT2
      clear hvr hke hev hLr hts hT1 hT2
      obtain ⟨b, hb⟩ : ∃ b, E.mayB ⟨s, n, a, kd, p, i, v, t⟩ = b := ⟨_, rfl⟩
      have HBB := Lib.hid hb
      clear hb
      go_wp2_with fail
      refine (E.may_any s n a kd p i v t HTS.out _ HLR.out).mono ?_
      rw [HBB.out]
      rintro e w1 ⟨rfl, hb1⟩
      have HB1 := Lib.hid (HB.out.trans (((Below.refl _ wr).alloc (Nat.le_refl _) _).trans (hb1.mono (by simp)) |>.mono HB.out.size))
      clear hb1 c0 c1 c2 c3 c4 c5 c6 c7
      cases b
      · have HJ2 := Lib.hid ((HJ.out).trans (if_pos (HT2.out HBB.out)))
        go_wp2_with fail
        go_ret
        rw [HJ2.out]
        exact ⟨rfl, HB1.out⟩
      · go_wp2_with fail
        refine ⟨⟨k + 1, by omega, by go_num, Lib.hid (HT1.out HBB.out), HB1⟩, by simp only [intOf]; omega⟩
    · obtain rfl : k = N := by omega
      have hall : xs.all E.mayB = true := by have := HP.out; rw [List.take_of_length_le (by rw [HN.out]; exact Nat.le_refl _)] at this; exact this
      have HJ2 := Lib.hid ((HJ.out).trans (if_neg (by rw [hall]; simp)))
      have hM := HM.out.below HB.out
      have c4 := hM.self.c 4 rfl
      rw [HV2.out] at c4
      clear hM hall HJ
      by_cases h5 : (k : Int) > 1048576 - (L : Int)
      · have HJ3 := Lib.hid ((HJ2.out).trans (if_pos h5))
        have g5 : decide ((1048576 : Int) - (L : Int) < (k : Int)) = true := by simp; omega
        clear h5
        go_wp2_with fail
        go_ret
        rw [HJ3.out]
        exact ⟨rfl, HB.out⟩
      · have HJ3 := Lib.hid ((HJ2.out).trans (if_neg h5))
        have g5 : decide ((1048576 : Int) - (L : Int) < (k : Int)) = false := by simp; omega
        clear h5
        go_wp2_with fail
        go_ret
        rw [HJ3.out]
        exact ⟨rfl, HB.out⟩
theorem mayAppend_any (h : LogM w F d l n per v j) (bv : Value) (xs : List Ev) (hv : E.Evs w w.heap.size bv xs) (hle : xs.length ≤ 1000000) (hsz : ∀ e ∈ xs, e.t.size ≤ 1000000000) :
    Calls Tryz.prog 65 #[.pointer (some ⟨l, 0, none⟩), bv] w fun e w' => e = .returned (.int .i64 (jmay E.mayB xs j : Int)) ∧ Below w.heap.size w w' := by
  by_cases hs : j.stuck = 0
  · exact mayAppend_go h hs bv xs hv hle hsz
  · have e : jmay E.mayB xs j = j.stuck := by unfold jmay; rw [if_pos hs]
    rw [e]
    exact mayAppend_stuck h hs bv
end
end Go.Proofs.YtghnbkkfghfifaaGreatDoor
