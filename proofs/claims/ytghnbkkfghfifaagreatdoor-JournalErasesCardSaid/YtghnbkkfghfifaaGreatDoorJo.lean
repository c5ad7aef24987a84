/- A journal's Rewrite. -/
import Derived.Test.YtghnbkkfghfifaaGreatDoorJl
import Derived.Test.YtghnbkkfghfifaaGreatDoorMJ
namespace Go.Proofs.YtghnbkkfghfifaaGreatDoor
open Go.RowKit Go.Maps D
open F (frameL frameL_len)
set_option linter.unusedVariables false
theorem range_part {i m : Nat} (h : i ≤ m) : List.range m = List.range i ++ (List.range m).drop i := by
  have : (List.range m).take i = List.range i := by rw [List.take_range]; congr 1; omega
  rw [← this, List.take_append_drop]
theorem jrew1_ok {n : List UInt8} {per : Nat} {kp : Ev → Bool} {k : Nat} {j : Jn Ev} (h : (jrew1 pay n per gone kp zeroE k j).2.2 = 0) (hok : ∀ e ∈ j.es, OkE e) : ∀ e ∈ (jrew1 pay n per gone kp zeroE k j).1.es, OkE e := by
  rcases jrew1_es pay n per gone kp zeroE k j h with e1 | ⟨e1, _⟩
  · rw [e1]
    intro e he
    unfold putSeg at he
    rcases List.mem_append.1 he with he | he
    · rcases List.mem_append.1 he with he | he
      · exact hok _ (List.mem_of_mem_take he)
      · obtain ⟨x, hx, rfl⟩ := List.mem_map.1 he
        unfold rw1
        split
        · exact .inl rfl
        · refine hok _ ?_
          unfold seg at hx
          exact List.mem_of_mem_drop (List.mem_of_mem_take hx)
    · exact hok _ (List.mem_of_mem_drop he)
  · rw [e1]; exact hok
/-- Whom Rewrite asks, segment by segment. -/
def askL (es : List Ev) (per i : Nat) : List Ev := ((List.range i).map fun k => (seg es per k).filter fun e => !gone e).flatten
theorem askL_succ (es : List Ev) (per i : Nat) : askL es per (i + 1) = askL es per i ++ (seg es per i).filter fun e => !gone e := by
  unfold askL
  rw [List.range_succ, List.map_append, List.flatten_append]
  simp
theorem askL_len (es : List Ev) (per i : Nat) : (askL es per i).length ≤ es.length := by
  have h : ∀ i, (askL es per i).length ≤ (((List.range i).map (seg es per)).flatten).length := by
    intro i
    induction i with
    | zero => simp [askL]
    | succ i ih =>
      rw [askL_succ, List.range_succ, List.map_append, List.flatten_append, List.length_append, List.length_append]
      have := List.length_filter_le (fun e => !gone e) (seg es per i)
      simp only [List.map_cons, List.map_nil, List.flatten_cons, List.flatten_nil, List.append_nil]
      omega
  have h1 := h i
  rw [segs_take, List.length_take] at h1
  omega
theorem askL_all {es : List Ev} {per i : Nat} (h : es.length ≤ i * per) : askL es per i = es.filter fun e => !gone e := by
  have h1 : ∀ i, askL es per i = (((List.range i).map (seg es per)).flatten).filter fun e => !gone e := by
    intro i
    induction i with
    | zero => simp [askL]
    | succ i ih =>
      rw [askL_succ, ih, List.range_succ, List.map_append, List.flatten_append, List.filter_append]
      simp
  rw [h1, segs_all h]
section
variable {fid : Nat} {caps : Array Value} {kp : Ev → Bool} {I : World → (Nat → Prop) → List Ev → Prop}
variable {w : World} {F P : Nat → Prop} {d l : Nat} {n : List UInt8} {per : Nat} {v : Value} {j : Jn Ev} {qs : List Ev}
set_option maxRecDepth 100000 in
theorem jrewr_stuck (h : LogM w F d l n per v j) (hs : j.stuck ≠ 0) (kv : Value) :
    Calls Tryz.prog 43 #[.pointer (some ⟨l, 0, none⟩), kv] w fun e w' => e = .returned (.tuple #[.int .i64 0, .int .i64 (j.stuck : Int)]) ∧ ∃ m, w' = w.drewN m := by
  have c6 := h.self.c 6 rfl
  have g0 : ¬ (j.stuck : Int) = 0 := by omega
  clear h hs
  go_enter Tryz.func43, Tryz.ntmps43
  go_wp2_with fail
  go_quiet (fail)
  go_wp2_with fail
  go_ret2
  exact ⟨rfl, _, rfl⟩
set_option maxRecDepth 100000 in
set_option maxHeartbeats 1000000 in
theorem jrewr_go (C : Keeps fid caps kp I) (h : Both I w F P d l n per v j qs) (h7 : ∀ i, F i → 7 ≤ i) (hs : j.stuck = 0) (hok : ∀ e ∈ j.es, OkE e) (hsh : j.files = 0 ∨ (j.files - 1) * per ≤ j.es.length) (hq : qs.length + 2 * j.es.length ≤ 1048576) :
    Calls Tryz.prog 43 #[.pointer (some ⟨l, 0, none⟩), .func (.func fid) #[] caps] w fun e w' => e = .returned (.tuple #[.int .i64 ((jrews pay n per gone kp zeroE (List.range j.files) j 0).2.1 : Int), .int .i64 ((jrews pay n per gone kp zeroE (List.range j.files) j 0).2.2 : Int)]) ∧
      ∃ v' qs', Both I w' F P d l n per v' (jrews pay n per gone kp zeroE (List.range j.files) j 0).1 qs' ∧ ((jrews pay n per gone kp zeroE (List.range j.files) j 0).2.2 = 0 → qs' = qs ++ askL j.es per j.files) ∧ Kept (fun i => F i ∨ P i) w w' := by
  have hm := h.logm h7
  have c6 := hm.self.c 6 rfl
  have c3 := hm.self.c 3 rfl
  rw [hs] at c6
  have hfs := hm.small.2.1
  obtain ⟨N, hN⟩ : ∃ N, j.files = N := ⟨_, rfl⟩
  rw [hN] at c3 hsh hfs ⊢
  have HC := Lib.hid h
  have HSH := Lib.hid hsh
  have HQ := Lib.hid hq
  have HOK := Lib.hid hok
  have HN := Lib.hid hN
  have HR : Hid (∀ w1 F1 P1 v1 j1 q1 k lo hi, Both I w1 F1 P1 d l n per v1 j1 q1 → (∀ i, F1 i → 7 ≤ i) → (∀ e ∈ j1.es, OkE e) → k * per = lo → min ((k + 1) * per) j1.es.length = hi → lo ≤ hi → q1.length + j1.es.length ≤ 1048576 → _) := Lib.hid (fun w1 F1 P1 v1 j1 q1 k lo hi a1 a2 a3 a4 a5 a6 a7 => rewrite_any (w := w1) (F := F1) (P := P1) (v := v1) (j := j1) (qs := q1) C a1 a2 a3 k lo hi a4 a5 a6 a7)
  clear h hsh hq hok hm hs hN
  go_enter Tryz.func43, Tryz.ntmps43
  go_wp2_with fail
  go_loopw [6, 23] (fun c i wr => ∃ (k : Nat) (v' : Value), k ≤ N ∧ i = .int .i64 k ∧ c = .int .i64 ((jrews pay n per gone kp zeroE (List.range k) j 0).2.1 : Nat) ∧ Hid ((jrews pay n per gone kp zeroE (List.range k) j 0).2.2 = 0) ∧ Hid (∀ e ∈ (jrews pay n per gone kp zeroE (List.range k) j 0).1.es, OkE e) ∧ Hid (Both I wr F P d l n per v' (jrews pay n per gone kp zeroE (List.range k) j 0).1 (qs ++ askL j.es per k)) ∧ Hid (Kept (fun i => F i ∨ P i) w wr)) (fun _ i _ => N - (intOf i).toNat)
  case atStart =>
    refine ⟨0, v, by omega, rfl, rfl, Lib.hid rfl, HOK, ?_, Lib.hid (Kept.refl _ _)⟩
    have : qs ++ askL j.es per 0 = qs := by simp [askL]
    rw [this]
    exact HC
  case round =>
    obtain ⟨k, v', hk, rfl, rfl, HZ, HO, HB, HK⟩ := hrel
    by_cases hlt : k < N
    · have hkl : k * per ≤ j.es.length := by
        rcases HSH.out with h | h
        · omega
        · exact Nat.le_trans (Nat.mul_le_mul_right _ (by omega)) h
      obtain ⟨b1, b2, b3, b4⟩ := jrews_ok pay n per gone kp zeroE (j := j) k (by
        rcases Nat.eq_zero_or_pos k with h | h
        · exact .inl h
        · exact .inr (Nat.le_trans (Nat.mul_le_mul_right _ (by omega)) hkl)) HZ.out
      have hap := jrews_app pay n per gone kp zeroE (List.range k) [k] j 0 HZ.out
      rw [← List.range_succ] at hap
      have hpart := range_part (show k + 1 ≤ N by omega)
      have hal := askL_len j.es per k
      have hcount : (jrews pay n per gone kp zeroE (List.range k) j 0).2.1 ≤ 1048576 := by
        rw [b4]
        have hsum : ∀ m, ((List.range m).map fun q => cnt gone kp (seg j.es per q)).sum ≤ (((List.range m).map (seg j.es per)).flatten).length := by
          intro m
          induction m with
          | zero => simp
          | succ m ih =>
            rw [List.range_succ, List.map_append, List.map_append, List.sum_append, List.flatten_append, List.length_append]
            have : cnt gone kp (seg j.es per m) ≤ (seg j.es per m).length := List.countP_le_length
            simp only [List.map_cons, List.map_nil, List.sum_cons, List.sum_nil, List.flatten_cons, List.flatten_nil, List.append_nil]
            omega
        have := hsum k
        rw [segs_take, List.length_take] at this
        have := HQ.out
        omega
      obtain ⟨J, hJ⟩ : ∃ J, (jrews pay n per gone kp zeroE (List.range k) j 0).1 = J := ⟨_, rfl⟩
      obtain ⟨c, hc⟩ : ∃ c, (jrews pay n per gone kp zeroE (List.range k) j 0).2.1 = c := ⟨_, rfl⟩
      rw [hJ] at HB HO b1 b2 b3 hap
      rw [hc] at hap hcount ⊢
      have hcall := HR.out wr F P v' J (qs ++ askL j.es per k) k (k * per) (min ((k + 1) * per) J.es.length) HB.out h7 HO.out rfl rfl (by rw [Nat.succ_mul, b2]; omega) (by rw [List.length_append, b2]; have := HQ.out; omega)
      have hsk : seg J.es per k = seg j.es per k := by rw [b3, if_neg (by omega)]
      rw [hsk, List.append_assoc, ← askL_succ] at hcall
      obtain ⟨R, hR⟩ : ∃ R, jrew1 pay n per gone kp zeroE k J = R := ⟨_, rfl⟩
      have hrok : R.2.2 = 0 → ∀ e ∈ R.1.es, OkE e := by rw [← hR]; exact fun h => jrew1_ok h HO.out
      have hr2 : R.2.1 ≤ 1048576 - c → True := fun _ => trivial
      rw [hR] at hcall
      obtain ⟨J2, c2, E⟩ := R
      simp only at hcall hrok
      have hn1 : E = 0 → jrews pay n per gone kp zeroE (List.range (k + 1)) j 0 = (J2, c + c2, 0) := fun hE => by
        rw [hap, jrews_cons pay n per gone kp zeroE (by rw [hR]; exact hE), hR]
        rfl
      have hn2 : E ≠ 0 → jrews pay n per gone kp zeroE (List.range N) j 0 = (J2, c, E) := fun hE => by
        have h5 : jrews pay n per gone kp zeroE (List.range (k + 1)) j 0 = (J2, c, E) := by
          rw [hap]
          unfold jrews
          rw [hR, if_pos hE]
        rw [hpart, jrews_err pay n per gone kp zeroE _ _ _ _ (by rw [h5]; exact hE), h5]
      have hc2 : E = 0 → c + c2 ≤ 1048576 := fun hE => by
        obtain ⟨_, _, _, g4⟩ := jrews_ok pay n per gone kp zeroE (j := j) (k + 1) (.inr (by simpa using hkl)) (by rw [hn1 hE])
        rw [hn1 hE] at g4
        simp only at g4
        rw [g4]
        have hsum : ∀ m, ((List.range m).map fun q => cnt gone kp (seg j.es per q)).sum ≤ (((List.range m).map (seg j.es per)).flatten).length := by
          intro m
          induction m with
          | zero => simp
          | succ m ih =>
            rw [List.range_succ, List.map_append, List.map_append, List.sum_append, List.flatten_append, List.length_append]
            have : cnt gone kp (seg j.es per m) ≤ (seg j.es per m).length := List.countP_le_length
            simp only [List.map_cons, List.map_nil, List.sum_cons, List.sum_nil, List.flatten_cons, List.flatten_nil, List.append_nil]
            omega
        have := hsum (k + 1)
        rw [segs_take, List.length_take] at this
        have := HQ.out
        omega
      have HCALL := Lib.hid hcall
      have HN1 := Lib.hid hn1
      have HN2 := Lib.hid hn2
      have HROK := Lib.hid hrok
      have HC2 := Lib.hid hc2
      clear hcall hn1 hn2 hrok hr2 hR hsk hal hpart hap b1 b2 b3 b4 hJ hc hkl HB HO HZ hc2
      go_wp2_with fail
      refine (HCALL.out).mono ?_
      rintro e w1 ⟨rfl, v2, hb2, hk2⟩
      have HB2 := Lib.hid hb2
      have HK2 := Lib.hid (HK.out.trans hk2)
      clear hb2 hk2 HK
      by_cases hE : E = 0
      · subst hE
        have HX := Lib.hid (HN1.out rfl)
        have hcc : c + c2 ≤ 1048576 := HC2.out rfl
        clear HN1 HN2 HCALL HC2
        go_wp2_with fail
        refine ⟨⟨k + 1, v2, by omega, by go_num, ?_, ?_, ?_, ?_, HK2⟩, by simp only [intOf]; omega⟩
        · rw [HX.out]; simp
        · rw [HX.out]; exact Lib.hid rfl
        · rw [HX.out]; exact Lib.hid (HROK.out (by simp))
        · rw [HX.out]; exact HB2
      · have g0 : ¬ (E : Int) = 0 := by omega
        have HX := Lib.hid (HN2.out hE)
        have HE0 := Lib.hid hE
        clear hE HN1 HN2 HCALL HC2
        go_wp2_with fail
        go_ret2
        rw [HX.out]
        exact ⟨rfl, v2, _, HB2.out, fun h => absurd h HE0.out, HK2.out⟩
    · obtain rfl : k = N := by omega
      go_wp2_with fail
      go_ret2
      rw [HZ.out]
      exact ⟨rfl, v', _, HB.out, fun _ => rfl, HK.out⟩
end
end Go.Proofs.YtghnbkkfghfifaaGreatDoor
