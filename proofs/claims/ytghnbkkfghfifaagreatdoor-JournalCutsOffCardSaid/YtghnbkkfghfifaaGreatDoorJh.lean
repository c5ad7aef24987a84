/- A journal's Append, all of it. -/
import Derived.Test.YtghnbkkfghfifaaGreatDoorJg
namespace Go.Proofs.YtghnbkkfghfifaaGreatDoor
open Go.RowKit Go.Maps D
open F (frameL frameL_len)
set_option linter.unusedVariables false
theorem jput_es (n : List UInt8) (per : Nat) (x : Ev) (j : Jn Ev) (h : (jput pay n per x j).2 = 0) : (jput pay n per x j).1.es = j.es ++ [x] := by
  unfold jput at h ⊢
  split
  · rename_i h1; rw [if_pos h1] at h; exact absurd h h1
  · rfl
theorem jadd_es (n : List UInt8) (per : Nat) (x : Ev) (j : Jn Ev) (h : (jadd pay n per x j).2 = 0) : (jadd pay n per x j).1.es = j.es ++ [x] := by
  unfold jadd at h ⊢
  by_cases h1 : j.es.length % per = 0
  · rw [if_pos h1] at h ⊢
    by_cases h2 : (jsync n j).2 ≠ 0
    · rw [if_pos h2] at h; exact absurd h h2
    · rw [if_neg h2] at h ⊢
      rw [jput_es n per x _ h, (jsync_es n j).1]
  · rw [if_neg h1] at h ⊢
    exact jput_es n per x j h
theorem jadds_es (n : List UInt8) (per : Nat) : ∀ (a : List Ev) (j : Jn Ev), (jadds pay n per a j).2 = 0 → (jadds pay n per a j).1.es = j.es ++ a
  | [], j, _ => by simp [jadds]
  | x :: r, j, h => by
    unfold jadds at h ⊢
    by_cases hy : (jadd pay n per x j).2 = 0
    · rw [if_neg (by simpa using hy)] at h ⊢
      rw [jadds_es n per r _ h, jadd_es n per x j hy]
      simp
    · rw [if_pos hy] at h; exact absurd h hy
section
variable {w : World} {F : Nat → Prop} {d l : Nat} {n : List UInt8} {per : Nat} {v : Value} {j : Jn Ev}
set_option maxRecDepth 100000 in
theorem japp_no (h : LogM w F d l n per v j) (bv : Value) (xs : List Ev) (hv : E.Evs w w.heap.size bv xs) (hle : xs.length ≤ 1000000) (hsz : ∀ e ∈ xs, e.t.size ≤ 1000000000) (hm : jmay E.mayB xs j ≠ 0) :
    Calls Tryz.prog 30 #[.pointer (some ⟨l, 0, none⟩), bv] w fun e w' => e = .returned (.tuple #[.int .i64 0, .int .i64 (jmay E.mayB xs j : Int)]) ∧ Below w.heap.size w w' := by
  have HC := Lib.hid (mayAppend_any h bv xs hv hle hsz)
  obtain ⟨q, cap, rfl⟩ := hv.shape
  obtain ⟨m, hm2⟩ : ∃ m, jmay E.mayB xs j = m := ⟨_, rfl⟩
  rw [hm2] at HC hm ⊢
  have g0 : ¬ (m : Int) = 0 := by omega
  clear h hv hsz hm2 hm
  go_enter Tryz.func30, Tryz.ntmps30
  go_wp2_with fail
  refine (HC.out).mono ?_
  rintro e w1 ⟨rfl, hb⟩
  go_wp2_with fail
  go_ret2
  exact ⟨rfl, hb⟩
set_option maxRecDepth 100000 in
set_option maxHeartbeats 1000000 in
theorem japp_go (hF : ∀ i, w.heap.size ≤ i → F i) (h : LogM w F d l n per v j) (bv : Value) (xs : List Ev) (hv : EvP w (fun i => ¬ F i) bv xs) (hle : xs.length ≤ 1000000) (hsz : ∀ e ∈ xs, e.t.size ≤ 1000000000) (hm : jmay E.mayB xs j = 0) :
    Calls Tryz.prog 30 #[.pointer (some ⟨l, 0, none⟩), bv] w fun e w' => ∃ v', e = .returned (.tuple #[.int .i64 (j.es.length : Int), .int .i64 ((jadds pay n per xs j).2 : Int)]) ∧ LogM w' F d l n per v' (jadds pay n per xs j).1 ∧ Kept F w w' := by
  have hc := mayAppend_any h bv xs hv.evs hle hsz
  rw [hm] at hc
  have HC := Lib.hid hc
  have hm1 : xs.all E.mayB = true ∧ (xs.length : Int) ≤ 1048576 - (j.es.length : Int) := by
    unfold jmay at hm
    split at hm
    · omega
    · split at hm
      · omega
      · rename_i h1 h2
        split at hm
        · omega
        · rename_i h3
          exact ⟨by simpa using h2, by omega⟩
  obtain ⟨q, cap, rfl⟩ := hv.shape
  obtain ⟨q2, cap2, hv2⟩ := h.row.len
  have HV2 := Lib.hid hv2
  have HV := Lib.hid hv
  have HM := Lib.hid h
  have HF := Lib.hid hF
  have HA := Lib.hid hm1.1
  have HN2 := Lib.hid hm1.2
  obtain ⟨L, hL⟩ : ∃ L, j.es.length = L := ⟨_, rfl⟩
  obtain ⟨N, hN⟩ : ∃ N, xs.length = N := ⟨_, rfl⟩
  rw [hL] at HV2 HN2
  rw [hN] at HV hle HN2 HC
  rw [hN, hL]
  have HL := Lib.hid hL
  have HN := Lib.hid hN
  have HSZ := Lib.hid hsz
  clear hv hv2 h hm hm1 hL hN hc hF hsz
  go_enter Tryz.func30, Tryz.ntmps30
  go_wp2_with fail
  refine (HC.out).mono ?_
  rintro e w1 ⟨rfl, hb⟩
  have hm1 := HM.out.below hb
  have hk1 : Kept F w w1 := Kept.bel (Kept.refl F w) hb
  have c4 := hm1.self.c 4 rfl
  rw [HV2.out] at c4
  have HM1 := Lib.hid hm1
  have HK1 := Lib.hid hk1
  clear hb HM HC hm1 hk1
  go_wp2_with fail
  go_loopw [24] (fun i wr => ∃ (k : Nat) (v' : Value), k ≤ N ∧ i = .int .i64 k ∧ Hid ((jadds pay n per (xs.take k) j).2 = 0) ∧ Hid (LogM wr F d l n per v' (jadds pay n per (xs.take k) j).1) ∧ Hid (Kept F w wr)) (fun i _ => N - (intOf i).toNat)
  case atStart => exact ⟨0, v, by omega, rfl, Lib.hid rfl, HM1, HK1⟩
  case round =>
    obtain ⟨k, v', hk, rfl, HZ, HMr, HKr⟩ := hrel
    by_cases hlt : k < N
    · have hke : k < xs.length := by rw [HN.out]; exact hlt
      have hvr := (HV.out.keptF HKr.out (fun i hi => hi)).evs
      rw [← HN.out] at hvr
      obtain ⟨ad, rfl, hab, hc⟩ := hvr.at k hke
      have hmay : E.mayB xs[k] = true := List.all_eq_true.1 HA.out _ (List.getElem_mem hke)
      have htk : xs.take (k + 1) = xs.take k ++ [xs[k]] := List.take_succ_eq_append_getElem hke
      have hes := jadds_es n per (xs.take k) j HZ.out
      have hadd := add_any (fun i hi => HF.out i (Nat.le_trans HKr.out.size (Nat.le_trans (by rw [World.size_alloc]; omega) hi))) (HMr.out.alloc (.cells #[.string xs[k].s, .int .i64 xs[k].n, .int .i64 xs[k].a, .int .i64 xs[k].k, .string xs[k].p, .string xs[k].i, .int .i64 xs[k].v, .string xs[k].t] 52)) xs[k] hmay (by
        rw [hes, List.length_append, List.length_take, HL.out]
        have := HN2.out
        omega)
      have hsn := jadds_snoc pay n per (xs.take k) xs[k] j HZ.out
      rw [← htk] at hsn
      have her : (jadds pay n per (xs.take (k + 1)) j).2 ≠ 0 → jadds pay n per xs j = jadds pay n per (xs.take (k + 1)) j := fun h1 => by
        have := jadds_err pay n per (xs.take (k + 1)) (xs.drop (k + 1)) j h1
        rw [List.take_append_drop] at this
        exact this
      rw [← hsn] at hadd
      obtain ⟨ev, hev⟩ : ∃ ev, xs[k] = ev := ⟨_, rfl⟩
      rw [hev] at hc hadd
      obtain ⟨s, n', a, kd, p, i, vv, t⟩ := ev
      obtain ⟨c0, c1, c2, c3, c4, c5, c6, c7⟩ := hc
      simp only at c0 c1 c2 c3 c4 c5 c6 c7 hadd
      have HADD := Lib.hid hadd
      have HER := Lib.hid her
      have HK2 := Lib.hid (HKr.out.alloc (.cells #[.string s, .int .i64 n', .int .i64 a, .int .i64 kd, .string p, .string i, .int .i64 vv, .string t] 52))
      obtain ⟨E, hE⟩ : ∃ E, (jadds pay n per (xs.take (k + 1)) j).2 = E := ⟨_, rfl⟩
      rw [hE] at HADD HER
      have HE := Lib.hid hE
      clear hvr hke hev hadd her hmay htk hes hsn hE
      go_wp2_with fail
      refine (HADD.out).mono ?_
      rintro e w2 ⟨v2, rfl, hm2, hk2⟩
      have HM2 := Lib.hid hm2
      have HK3 := Lib.hid (HK2.out.trans hk2)
      clear hm2 hk2 c0 c1 c2 c3 c4 c5 c6 c7
      by_cases hz : E = 0
      · subst hz
        go_wp2_with fail
        refine ⟨⟨k + 1, v2, by omega, by go_num, HE, HM2, HK3⟩, by simp only [intOf]; omega⟩
      · have g0 : ¬ (E : Int) = 0 := by omega
        have HX := Lib.hid (HER.out hz)
        clear hz
        go_wp2_with fail
        go_ret2
        rw [HX.out, HE.out]
        exact ⟨v2, rfl, HM2.out, HK3.out⟩
    · obtain rfl : k = N := by omega
      have hall : xs.take k = xs := List.take_of_length_le (by rw [HN.out]; exact Nat.le_refl _)
      rw [hall] at HZ HMr
      go_wp2_with fail
      go_ret2
      rw [HZ.out]
      exact ⟨_, rfl, HMr.out, HKr.out⟩
/-- Append, whatever it is. -/
theorem japp_any (hF : ∀ i, w.heap.size ≤ i → F i) (h : LogM w F d l n per v j) (bv : Value) (xs : List Ev) (hv : EvP w (fun i => ¬ F i) bv xs) (hle : xs.length ≤ 1000000) (hsz : ∀ e ∈ xs, e.t.size ≤ 1000000000) :
    Calls Tryz.prog 30 #[.pointer (some ⟨l, 0, none⟩), bv] w fun e w' => ∃ v', e = .returned (.tuple #[.int .i64 ((jappend pay n per E.mayB xs j).2.1 : Int), .int .i64 ((jappend pay n per E.mayB xs j).2.2 : Int)]) ∧ LogM w' F d l n per v' (jappend pay n per E.mayB xs j).1 ∧ Kept F w w' := by
  by_cases hm : jmay E.mayB xs j = 0
  · have e : jappend pay n per E.mayB xs j = ((jadds pay n per xs j).1, j.es.length, (jadds pay n per xs j).2) := by unfold jappend; rw [if_neg (by simpa using hm)]
    rw [e]
    exact japp_go hF h bv xs hv hle hsz hm
  · have e : jappend pay n per E.mayB xs j = (j, 0, jmay E.mayB xs j) := by unfold jappend; rw [if_pos hm]
    rw [e]
    refine (japp_no h bv xs hv.evs hle hsz hm).mono ?_
    rintro x w' ⟨rfl, hb⟩
    exact ⟨v, rfl, h.below hb, Kept.bel (Kept.refl F w) hb⟩
end
end Go.Proofs.YtghnbkkfghfifaaGreatDoor
