/- A journal's Read. -/
import Derived.Test.YtghnbkkfghfifaaGreatDoorJh
import Derived.OwnWalk
import Derived.Laws.AppendOwn
namespace Go.Proofs.YtghnbkkfghfifaaGreatDoor
open Go.RowKit Go.Maps D
open F (frameL frameL_len)
set_option linter.unusedVariables false
theorem info3 : (Tryz.prog.info? 3).map (fun i => (i.zero, i.size, i.bytes)) = some (some (.int .i64 0), 1, 8) := by kernel_rfl
def intL (ks : List Nat) : List Value := ks.map fun (k : Nat) => Value.int .i64 (k : Int)
theorem intL_len (ks : List Nat) : (intL ks).length = ks.length := by unfold intL; simp
/-- A row of numbers. -/
def IntRow (w : World) (base : Nat) (v : Value) (ks : List Nat) : Prop := w.ownsRow base 3 1 v ks.length (intL ks)
/-- The events at offsets, as far as k. -/
def rdE (es : List Ev) (fr k : Nat) : List Ev := ((es.drop fr).take k).filter fun e => !gone e
def rdO (es : List Ev) (fr k : Nat) : List Nat := ((List.range k).filter fun i => !gone (es.getD (fr + i) zeroE)).map (fr + ·)
theorem rd_step {es : List Ev} {fr k : Nat} (h : fr + k < es.length) : rdE es fr (k + 1) = rdE es fr k ++ (if gone es[fr + k] then [] else [es[fr + k]]) ∧ rdO es fr (k + 1) = rdO es fr k ++ (if gone es[fr + k] then [] else [fr + k]) := by
  have h1 : k < (es.drop fr).length := by rw [List.length_drop]; omega
  constructor
  · unfold rdE
    rw [List.take_succ_eq_append_getElem h1, List.filter_append, List.getElem_drop]
    congr 1
    cases hg : gone es[fr + k] <;> simp [hg]
  · unfold rdO
    have e : es.getD (fr + k) zeroE = es[fr + k] := by rw [List.getD_eq_getElem?_getD, List.getElem?_eq_getElem h]; rfl
    rw [List.range_succ, List.filter_append, List.map_append]
    congr 1
    rw [List.filter_cons, e]
    cases hg : gone es[fr + k] <;> simp
theorem rdE_len (es : List Ev) (fr k : Nat) : (rdE es fr k).length ≤ k := by
  unfold rdE
  have := List.length_filter_le (fun e => !gone e) ((es.drop fr).take k)
  rw [List.length_take] at this
  omega
theorem rdO_len (es : List Ev) (fr k : Nat) : (rdO es fr k).length ≤ k := by
  unfold rdO
  rw [List.length_map]
  have := List.length_filter_le (fun i => !gone (es.getD (fr + i) zeroE)) (List.range k)
  rw [List.length_range] at this
  exact this
theorem rows_apart {w : World} {base base' n m : Nat} {u c : Value} {xs ys : List Value} {t t' : TypeId} {k k' : Nat} (ht : t ≠ t') (h : w.ownsRow base t k u n xs) (hc : w.ownsRow base' t' k' c m ys) : c.ownBlock = none ∨ c.ownBlock ≠ u.ownBlock := by
  rcases hc.2 with ⟨rfl, _⟩ | ⟨g, cap, cur, rfl, _, hh, _⟩
  · exact .inl rfl
  · refine .inr fun e => ?_
    rcases h.2 with ⟨rfl, _⟩ | ⟨g', cap', cur', rfl, _, hh', _⟩
    · cases e
    · cases e
      rw [hh] at hh'
      cases hh'
      exact ht rfl
theorem own_keepB {w w' : World} {base n : Nat} {e : TypeId} {size : Nat} {v : Value} {xs : List Value} (h : w.ownsRow base e size v n xs) (hb : Below w.heap.size w w') : w'.ownsRow base e size v n xs := by
  obtain ⟨h1, h2⟩ := h
  refine ⟨h1, ?_⟩
  rcases h2 with h2 | ⟨g, cap, cur, hv, hg, hh, r⟩
  · exact .inl h2
  · exact .inr ⟨g, cap, cur, hv, hg, by rw [hb.block g (lt_of_block hh)]; exact hh, r⟩
section
variable {w : World} {F : Nat → Prop} {d l : Nat} {n : List UInt8} {per : Nat} {v : Value} {j : Jn Ev}
set_option maxRecDepth 100000 in
theorem jread_bad (h : LogM w F d l n per v j) (fr m : Int) (hb : fr < 0 ∨ (j.es.length : Int) < fr ∨ m < 0) :
    Calls Tryz.prog 36 #[.pointer (some ⟨l, 0, none⟩), .int .i64 fr, .int .i64 m] w fun e w' => e = .returned (.tuple #[.slice none 0 0, .slice none 0 0, .int .i64 9]) ∧ w' = w := by
  obtain ⟨q, cap, rfl⟩ := h.row.len
  have c4 := h.self.c 4 rfl
  obtain ⟨L, hL⟩ : ∃ L, j.es.length = L := ⟨_, rfl⟩
  rw [hL] at c4 hb
  clear h hL
  by_cases h1 : fr < 0
  · have g1 : decide (fr < 0) = true := by simpa using h1
    go_enter Tryz.func36, Tryz.ntmps36
    go_wp2_with fail
    go_ret3
    exact ⟨rfl, rfl⟩
  · have g1 : decide (fr < 0) = false := by simpa using h1
    by_cases h2 : (L : Int) < fr
    · have g2 : decide ((L : Int) < fr) = true := by simpa using h2
      go_enter Tryz.func36, Tryz.ntmps36
      go_wp2_with fail
      go_ret3
      exact ⟨rfl, rfl⟩
    · have g2 : decide ((L : Int) < fr) = false := by simpa using h2
      have g3 : decide (m < 0) = true := by simp; omega
      go_enter Tryz.func36, Tryz.ntmps36
      go_wp2_with fail
      go_ret3
      exact ⟨rfl, rfl⟩
set_option maxRecDepth 100000 in
set_option maxHeartbeats 2000000 in
theorem jread_good (h : LogM w F d l n per v j) (hok : ∀ e ∈ j.es, OkE e) (fr m K : Nat) (hfr : fr ≤ j.es.length) (hK : K = min m (j.es.length - fr)) :
    Calls Tryz.prog 36 #[.pointer (some ⟨l, 0, none⟩), .int .i64 (fr : Int), .int .i64 (m : Int)] w fun e w' => ∃ v1 v2, e = .returned (.tuple #[v1, v2, .int .i64 0]) ∧ EvRow w' w.heap.size v1 (rdE j.es fr K) ∧ IntRow w' w.heap.size v2 (rdO j.es fr K) ∧ Below w.heap.size w w' := by
  have hsm := h.small.1
  obtain ⟨i0, hi0, hz0, hz1, hz2⟩ := info52_parts
  obtain ⟨i3, hi3, hy0, hy1, hy2⟩ := info_parts info3
  obtain ⟨q, cap, hv⟩ := h.row.len
  have c4 := h.self.c 4 rfl
  obtain ⟨L, hL⟩ : ∃ L, j.es.length = L := ⟨_, rfl⟩
  rw [hL] at hv hfr hK hsm
  rw [hv] at c4
  have g1 : decide ((fr : Int) < 0) = false := by simp
  have g2 : decide ((L : Int) < (fr : Int)) = false := by simp; omega
  have g3 : decide ((m : Int) < 0) = false := by simp
  have e1 : wrap64 ((L : Int) - (fr : Int)) = (L : Int) - (fr : Int) := by unfold wrap64; omega
  have e2 : min (m : Int) ((L : Int) - (fr : Int)) = (K : Int) := by omega
  have hKL : fr + K ≤ L := by omega
  have HM := Lib.hid h
  have HL := Lib.hid hL
  have HV := Lib.hid hv
  have HOK := Lib.hid hok
  have HKL := Lib.hid hKL
  have HS6 := Lib.hid hsm
  clear h hv hL hok hfr hK hKL
  go_enter Tryz.func36, Tryz.ntmps36
  go_wp2_with (first | (at_make; refine wpList_make_own _ rfl _ _ 62 rfl w.heap.size 52 i0 _ 8 Tryz.underlying62 hi0 hz0 hz1 _ _ _ K rfl rfl rfl (by rw [hz2]; have := HKL.out; have := HS6.out; omega) (by have := HKL.out; have := HS6.out; unfold maxLen; omega) (Nat.le_refl _) ?_; intro w1 hrow1 hg1) | (at_make; refine wpList_make_own _ rfl _ _ 54 rfl w.heap.size 3 i3 _ 1 Tryz.underlying54 hi3 hy0 hy1 _ _ _ K rfl rfl rfl (by rw [hy2]; have := HKL.out; have := HS6.out; omega) (by have := HKL.out; have := HS6.out; unfold maxLen; omega) (hg1.size) ?_; intro w2 hrow2 hg2))
  try go_frame
  have hz : w.heap.size ≤ w1.heap.size := hg1.size
  have hrowE : EvRow w2 w.heap.size (.slice (some ⟨w.heap.size, 0, none⟩) 0 K) [] := World.ownsRow.kept hrow1 hg2 (.inr (by simp [Value.ownBlock]))
  have hbw : Below w.heap.size w w2 := ((Below.refl _ w).grown hg1 (Nat.le_refl _) (fun j hj => by cases hj)).grown hg2 hz (fun j hj => by cases hj)
  have HRE := Lib.hid hrowE
  have HRO : Hid (IntRow w2 w.heap.size (.slice (some ⟨w1.heap.size, 0, none⟩) 0 K) []) := Lib.hid hrow2
  have HBW := Lib.hid hbw
  clear hrow1 hg1 hz hrow2 hg2 hrowE hbw
  go_loopw [9, 10, 42] (fun a b i wr => ∃ k : Nat, k ≤ K ∧ i = .int .i64 k ∧ Hid (EvRow wr w.heap.size a (rdE j.es fr k)) ∧ Hid (IntRow wr w.heap.size b (rdO j.es fr k)) ∧ Hid (Below w.heap.size w wr)) (fun _ _ i _ => K - (intOf i).toNat)
  case atStart =>
    exact ⟨0, by omega, rfl, HRE, HRO, HBW⟩
  case round =>
    obtain ⟨k, hk, rfl, HE, HO, HB⟩ := hrel
    by_cases hlt : k < K
    · have hm := HM.out.below HB.out
      have c4 := hm.self.c 4 rfl
      rw [HV.out] at c4
      have hke : fr + k < j.es.length := by rw [HL.out]; have := HKL.out; omega
      obtain ⟨r1, r2⟩ := rd_step hke
      have hevs := hm.row.evs
      rw [HV.out, ← HL.out] at hevs
      obtain ⟨ad, rfl, hab, hc⟩ := hevs.at (fr + k) hke
      have hokk := HOK.out _ (List.getElem_mem hke)
      have l1 := rdE_len j.es fr k
      have l2 := rdO_len j.es fr k
      obtain ⟨ev, hev⟩ : ∃ ev, j.es[fr + k] = ev := ⟨_, rfl⟩
      obtain ⟨M, hM⟩ : ∃ M, fr + k = M := ⟨_, rfl⟩
      rw [hev] at hc hokk r1 r2
      rw [hM] at hc r2
      have e3 : (fr : Int) + (k : Int) = (M : Int) := by omega
      have e4 : M < L := by rw [← HL.out, ← hM]; exact hke
      obtain ⟨s, n', a, kd, p, i, vv, t⟩ := ev
      obtain ⟨c0, c1, c2, c3, c5, c6, c7, c8⟩ := hc
      simp only at c0 c1 c2 c3 c5 c6 c7 c8
      have HR1 := Lib.hid r1
      have HR2 := Lib.hid r2
      have HL1 : Hid ((rdE j.es fr k).length ≤ 1048576) := Lib.hid (by have := HKL.out; have := HS6.out; omega)
      have HL2 : Hid ((rdO j.es fr k).length ≤ 1048576) := Lib.hid (by have := HKL.out; have := HS6.out; omega)
      clear hm hke r1 r2 hevs hev hM l1 l2
      by_cases hg : gone (⟨s, n', a, kd, p, i, vv, t⟩ : Ev) = true
      · have hz := hokk.isZ hg
        have HX : Hid (rdE j.es fr (k + 1) = rdE j.es fr k ∧ rdO j.es fr (k + 1) = rdO j.es fr k) := Lib.hid ⟨by rw [HR1.out, if_pos hg]; simp, by rw [HR2.out, if_pos hg]; simp⟩
        clear HR1 HR2
        cases hz
        clear hokk hg
        go_wp2_with fail
        refine (erased_zero _).mono ?_
        rintro e w3 ⟨rfl, hb3⟩
        have hA : Below wr.heap.size wr w3 := ((Below.refl _ wr).alloc (Nat.le_refl _) _).trans (hb3.mono (by simp))
        have HE3 := Lib.hid (HE.out.below hA (Nat.le_refl _))
        have HO3 : Hid (IntRow w3 w.heap.size _ (rdO j.es fr k)) := Lib.hid (own_keepB HO.out hA)
        have HB3 := Lib.hid (HB.out.trans (hA.mono HB.out.size))
        rw [← HX.out.1] at HE3
        rw [← HX.out.2] at HO3
        clear hb3 hA HE HO HX c0 c1 c2 c3 c4 c5 c6 c7 c8
        go_wp2_with fail
        exact ⟨⟨k + 1, by omega, by go_num, HE3, HO3, HB3⟩, by simp only [intOf]; omega⟩
      · have hg' : gone (⟨s, n', a, kd, p, i, vv, t⟩ : Ev) = false := by simpa using hg
        have hsz := may_size (hokk.isM hg')
        have HX : Hid (rdE j.es fr (k + 1) = rdE j.es fr k ++ [⟨s, n', a, kd, p, i, vv, t⟩] ∧ rdO j.es fr (k + 1) = rdO j.es fr k ++ [M]) := Lib.hid ⟨by rw [HR1.out, if_neg hg], by rw [HR2.out, if_neg hg]⟩
        clear HR1 HR2 hokk hg hg'
        go_wp2_with fail
        refine (erased_may s n' a kd p i vv t hsz _).mono ?_
        rintro e w3 ⟨rfl, hb3⟩
        have hA : Below wr.heap.size wr w3 := ((Below.refl _ wr).alloc (Nat.le_refl _) _).trans (hb3.mono (by simp))
        have e1 : Blk w3 wr.heap.size [.string s, .int .i64 n', .int .i64 a, .int .i64 kd, .string p, .string i, .int .i64 vv, .string t] 52 := (Blk.new wr [.string s, .int .i64 n', .int .i64 a, .int .i64 kd, .string p, .string i, .int .i64 vv, .string t] 52).below hb3 (by simp)
        have b0 := e1.c 0 rfl
        have b1 := e1.c 1 rfl
        have b2 := e1.c 2 rfl
        have b3 := e1.c 3 rfl
        have b4 := e1.c 4 rfl
        have b5 := e1.c 5 rfl
        have b6 := e1.c 6 rfl
        have b7 := e1.c 7 rfl
        have HE3 := Lib.hid (HE.out.below hA (Nat.le_refl _))
        have HO3 : Hid (IntRow w3 w.heap.size _ (rdO j.es fr k)) := Lib.hid (own_keepB HO.out hA)
        have HB3 := Lib.hid (HB.out.trans (hA.mono HB.out.size))
        clear hb3 hA e1 HE HO c0 c1 c2 c3 c4 c5 c6 c7 c8
        go_wp2_with (first | (at_builtin; refine wpList_append_own _ rfl (.tmp 57) (.tmp 59) 62 rfl w.heap.size 52 i0 _ 8 96 Tryz.underlying62 hi0 hz0 hz1 hz2 rfl (by decide) u9 (rdE j.es fr k).length (evsL (rdE j.es fr k)) rfl (World.ownsRow.alloc HE3.out _) ⟨w3.heap.size, 0, none⟩ 1 1 (evL ⟨s, n', a, kd, p, i, vv, t⟩) rfl rfl (news_of (w := w3) ⟨s, n', a, kd, p, i, vv, t⟩ w3.heap.size rfl) (evL_one _) (by have := HL1.out; unfold maxLen; omega) (by have := HL1.out; omega) (by rw [World.size_alloc]; exact Nat.le_succ_of_le HB3.out.size) ?_; intro v4 w4 hown4 hg4 hn4; have HO4 : Hid (IntRow w4 w.heap.size u10 (rdO j.es fr k)) := Lib.hid (World.ownsRow.kept (World.ownsRow.alloc HO3.out (.cells #[.string s, .int .i64 n', .int .i64 a, .int .i64 kd, .string p, .string i, .int .i64 vv, .string t] 52)) hg4 (rows_apart (by decide) (World.ownsRow.alloc HE3.out (.cells #[.string s, .int .i64 n', .int .i64 a, .int .i64 kd, .string p, .string i, .int .i64 vv, .string t] 52)) (World.ownsRow.alloc HO3.out (.cells #[.string s, .int .i64 n', .int .i64 a, .int .i64 kd, .string p, .string i, .int .i64 vv, .string t] 52)))); have HE4 : Hid (EvRow w4 w.heap.size v4 (rdE j.es fr (k + 1))) := Lib.hid (by rw [HX.out.1]; unfold EvRow; rw [List.length_append, evsL_app, evsL_one']; exact hown4); have HB4 : Hid (Below w.heap.size w w4) := Lib.hid ((HB3.out.alloc HB3.out.size (.cells #[.string s, .int .i64 n', .int .i64 a, .int .i64 kd, .string p, .string i, .int .i64 vv, .string t] 52)).grown hg4 (by rw [World.size_alloc]; exact Nat.le_succ_of_le HB3.out.size) (own_block HE3.out)); clear hown4 hg4 hn4) | (at_builtin; refine wpList_append_own _ rfl (.tmp 61) (.tmp 65) 54 rfl w.heap.size 3 i3 _ 1 8 Tryz.underlying54 hi3 hy0 hy1 hy2 rfl (by decide) u10 (rdO j.es fr k).length (intL (rdO j.es fr k)) rfl (World.ownsRow.alloc HO4.out _) ⟨w4.heap.size, 0, none⟩ 1 1 [.int .i64 (M : Int)] rfl rfl (cell_one _ _ _) (by intro u hu; simp at hu; subst hu; rfl) (by have := HL2.out; unfold maxLen; omega) (by have := HL2.out; omega) (by rw [World.size_alloc]; exact Nat.le_succ_of_le HB4.out.size) ?_; intro v5 w5 hown5 hg5 hn5; have HE5 : Hid (EvRow w5 w.heap.size v4 (rdE j.es fr (k + 1))) := Lib.hid (World.ownsRow.kept (World.ownsRow.alloc HE4.out (.cells #[.int .i64 (M : Int)] 3)) hg5 (rows_apart (by decide) (World.ownsRow.alloc HO4.out (.cells #[.int .i64 (M : Int)] 3)) (World.ownsRow.alloc HE4.out (.cells #[.int .i64 (M : Int)] 3)))); have HO5 : Hid (IntRow w5 w.heap.size v5 (rdO j.es fr (k + 1))) := Lib.hid (by rw [HX.out.2]; unfold IntRow; rw [List.length_append]; unfold intL; rw [List.map_append]; exact hown5); have HB5 : Hid (Below w.heap.size w w5) := Lib.hid ((HB4.out.alloc HB4.out.size (.cells #[.int .i64 (M : Int)] 3)).grown hg5 (by rw [World.size_alloc]; exact Nat.le_succ_of_le HB4.out.size) (own_block HO4.out)); clear hown5 hg5 hn5) | fail)
        exact ⟨⟨k + 1, by omega, by go_num, HE5, HO5, HB5⟩, by simp only [intOf]; omega⟩
    · obtain rfl : k = K := by omega
      go_wp2_with fail
      go_ret3
      exact ⟨_, _, rfl, HE.out, HO.out, HB.out⟩
end
end Go.Proofs.YtghnbkkfghfifaaGreatDoor
