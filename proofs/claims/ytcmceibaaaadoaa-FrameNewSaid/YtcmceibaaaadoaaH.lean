/- The program's All. -/
import Derived.Test.YtcmceibaaaadoaaG
namespace Go.Proofs.Ytcmceibaaaadoaa
open Go.RowKit
set_option linter.unusedVariables false
theorem info22 : (Try.prog.info? 22).map (fun i => (i.zero, i.size, i.bytes)) = some (some (.slice none 0 0), 1, 24) := by kernel_rfl
/-- A value owns a list of slices, each of which owns its bytes. -/
structure Rows (w : World) (base : Nat) (u : Value) (ps : List (List UInt8)) (cs : List Value) : Prop where
  row : w.ownsRow base 22 1 u ps.length cs
  each : ∀ (i : Nat) (c : Value) (p : List UInt8), cs[i]? = some c → ps[i]? = some p → OwnB w base c p
  slices : ∀ c ∈ cs, ∃ q n m, c = .slice q n m
theorem Rows.below {w w' : World} {base B : Nat} {u : Value} {ps : List (List UInt8)} {cs : List Value} (h : Rows w base u ps cs) (hb : Below B w w') (hB : w.heap.size ≤ B) : Rows w' base u ps cs := by
  refine ⟨?_, fun i c p hc hp => (h.each i c p hc hp).below hb hB, h.slices⟩
  obtain ⟨h1, h2⟩ := h.row
  refine ⟨h1, ?_⟩
  rcases h2 with h2 | ⟨g, cap, cur, hv, hg, hh, r⟩
  · exact .inl h2
  · exact .inr ⟨g, cap, cur, hv, hg, by rw [hb.block g (Nat.lt_of_lt_of_le (lt_of_block hh) hB)]; exact hh, r⟩
theorem Rows.alloc {w : World} {base : Nat} {u : Value} {ps : List (List UInt8)} {cs : List Value} (h : Rows w base u ps cs) (o : Obj) : Rows (w.alloc o) base u ps cs := ⟨h.row.alloc o, fun i c p hc hp => (h.each i c p hc hp).alloc o, h.slices⟩
theorem Rows.nil (w : World) (base : Nat) : Rows w base (.slice none 0 0) [] [] := ⟨World.ownsRow_nil w base 22 1, fun i c p hc hp => by simp at hc, fun c hc => by simp at hc⟩
/-- Bytes' blocks are none of a list's own block. -/
theorem own_apart {w : World} {base base' n : Nat} {u c : Value} {p : List UInt8} {cs : List Value} (h : w.ownsRow base 22 1 u n cs) (hc : OwnB w base' c p) : c.ownBlock = none ∨ c.ownBlock ≠ u.ownBlock := by
  rcases hc.2 with ⟨rfl, _⟩ | ⟨g, cap, cur, rfl, hg, hh, r⟩
  · exact .inl rfl
  · right
    rcases h.2 with ⟨rfl, _⟩ | ⟨g', cap', cur', rfl, hg', hh', r'⟩
    · simp [Value.ownBlock]
    · simp only [Value.ownBlock]
      intro e
      obtain rfl : g = g' := Option.some.inj e
      rw [hh] at hh'
      cases hh'
theorem Rows.push {w w' : World} {base : Nat} {u u' c : Value} {ps : List (List UInt8)} {cs : List Value} {p : List UInt8} (h : Rows w base u ps cs) (hc : OwnB w base c p) (hr : w'.ownsRow base 22 1 u' (ps.length + 1) (cs ++ [c])) (hg : w.grownBy w' u.ownBlock) : Rows w' base u' (ps ++ [p]) (cs ++ [c]) := by
  have hlen : cs.length = ps.length := by have := h.row.1; omega
  refine ⟨by rw [List.length_append, List.length_singleton]; exact hr, fun i c' p' h1 h2 => ?_, fun c' h' => ?_⟩
  · have k : ∀ c' p', OwnB w base c' p' → OwnB w' base c' p' := fun c' p' ho => World.ownsRow.kept ho hg (own_apart h.row ho)
    rcases Nat.lt_or_ge i ps.length with hi | hi
    · rw [List.getElem?_append_left (by omega)] at h1 h2
      exact k c' p' (h.each i c' p' h1 h2)
    · rw [List.getElem?_append_right (by omega)] at h1 h2
      have e1 : i - cs.length = 0 := by
        have := (List.getElem?_eq_some_iff.1 h1).1
        simp at this; omega
      rw [e1] at h1
      rw [← hlen, e1] at h2
      simp at h1 h2
      subst h1 h2
      exact k c p hc
  · rcases List.mem_append.1 h' with h' | h'
    · exact h.slices c' h'
    · obtain rfl : c' = c := by simpa using h'
      obtain ⟨q, cap, rfl⟩ := hc.len
      exact ⟨_, _, _, rfl⟩
set_option maxRecDepth 100000 in
set_option maxHeartbeats 1000000 in
theorem all_any (v : Value) (l : List UInt8) (hl9 : l.length ≤ 1000000000) (w : World) (hv : Seen w w.heap.size v l) :
    Calls Try.prog 15 #[v] w fun e w' => ∃ u cs, e = .returned (.tuple #[u, .int .i64 ((allL l).2.1 : Nat), .int .i64 ((allL l).2.2 : Nat)]) ∧ Rows w' w.heap.size u (allL l).1 cs ∧ Below w.heap.size w w' := by
  obtain ⟨i0, hi, hz0, hz1, hz2⟩ := info_parts info22
  obtain ⟨q, cap, rfl, hcap⟩ := hv.len
  have HV := Lib.hid hv
  clear hv
  obtain ⟨n, hn⟩ : ∃ n, l.length = n := ⟨_, rfl⟩
  rw [hn] at HV hl9 hcap ⊢
  have Hn := Lib.hid hn
  clear hn
  obtain ⟨A, hA⟩ : ∃ A, allL l = A := ⟨_, rfl⟩
  obtain ⟨aps, aend, ast⟩ := A
  rw [hA]
  simp only
  have HA := Lib.hid hA
  clear hA
  go_enter Try.func15, Try.ntmps15
  go_wp2_with fail
  go_loopw [5, 6] (fun u c wr => ∃ (e : Nat) (ps : List (List UInt8)) (cs : List Value), e ≤ n ∧ c = .int .i64 e ∧ ps.length ≤ e ∧ Hid (aps = ps ++ (allL (l.drop e)).1 ∧ aend = e + (allL (l.drop e)).2.1 ∧ ast = (allL (l.drop e)).2.2) ∧ Rows wr w.heap.size u ps cs ∧ Below w.heap.size w wr) (fun _ c _ => n - (intOf c).toNat)
  case atStart =>
    refine ⟨0, [], [], by omega, rfl, by simp, ?_, Rows.nil _ _, Below.refl _ _⟩
    have := HA.out
    unfold Hid
    rw [List.drop_zero, this]
    simp
  case round =>
    obtain ⟨e, ps, cs, he, rfl, hpe, HR, hR, hb⟩ := hrel
    by_cases hlt : e < n
    · obtain ⟨ad, rfl, _⟩ := HV.out.at 0 (by have := Hn.out; omega)
      have hsz := hb.size
      have hS := ((HV.out.below hb (Nat.le_refl _)).drop e (by rw [Hn.out]; exact he)).mono hsz
      rw [Hn.out] at hS
      have HSS := Lib.hid hS
      have hdl : (l.drop e).length = n - e := by rw [List.length_drop, Hn.out]
      have hce : (cap = e) = False := by simp; omega
      clear hS
      rcases open_cases (l.drop e) with ho | ho | ⟨N, h1, h2, ho⟩
      · have hr := all_end (by omega) ho (by decide)
        obtain ⟨rfl, rfl, rfl⟩ : aps = ps ∧ aend = e ∧ ast = 1 := by
          obtain ⟨r1, r2, r3⟩ := HR.out
          rw [hr] at r1 r2 r3
          exact ⟨by simpa using r1, by simpa using r2, r3⟩
        clear hr
        have HH := Lib.hid hR
        have HO := Lib.hid ho
        clear hR ho
        go_wp2_with fail
        refine (open_bad _ (l.drop aend) (by omega) 1 HO.out (by decide) wr HSS.out).mono ?_
        rintro e w1 ⟨rfl, hb1⟩
        have bw1 := hb.trans (hb1.mono hsz)
        have HW := HH.out.below hb1 (Nat.le_refl _)
        clear hb hb1
        go_wp2_with fail
        go_ret3
        exact ⟨_, _, rfl, HW, bw1⟩
      · have hr := all_end (by omega) ho (by decide)
        obtain ⟨rfl, rfl, rfl⟩ : aps = ps ∧ aend = e ∧ ast = 2 := by
          obtain ⟨r1, r2, r3⟩ := HR.out
          rw [hr] at r1 r2 r3
          exact ⟨by simpa using r1, by simpa using r2, r3⟩
        clear hr
        have HH := Lib.hid hR
        have HO := Lib.hid ho
        clear hR ho
        go_wp2_with fail
        refine (open_bad _ (l.drop aend) (by omega) 2 HO.out (by decide) wr HSS.out).mono ?_
        rintro e w1 ⟨rfl, hb1⟩
        have bw1 := hb.trans (hb1.mono hsz)
        have HW := HH.out.below hb1 (Nat.le_refl _)
        clear hb hb1
        go_wp2_with fail
        go_ret3
        exact ⟨_, _, rfl, HW, bw1⟩
      · have hr := all_whole ho h2
        rw [List.drop_drop] at hr
        have HR2 : Hid (aps = (ps ++ [openP (l.drop e)]) ++ (allL (l.drop (e + (10 + N)))).1 ∧ aend = e + (10 + N) + (allL (l.drop (e + (10 + N)))).2.1 ∧ ast = (allL (l.drop (e + (10 + N)))).2.2) := by
          obtain ⟨r1, r2, r3⟩ := HR.out
          rw [hr] at r1 r2 r3
          refine ⟨by rw [r1]; simp, ?_, r3⟩
          rw [r2]; simp only; omega
        obtain ⟨P, hP⟩ : ∃ P, openP (l.drop e) = P := ⟨_, rfl⟩
        rw [hP] at HR2
        have HP := Lib.hid hP
        have HH := Lib.hid hR
        have HO := Lib.hid ho
        have hen : e + (10 + N) ≤ n := by omega
        clear hr hP hR ho
        go_wp2_with fail
        refine (open_whole _ (l.drop e) (by omega) N HO.out h2 wr HSS.out).mono ?_
        rintro e w1 ⟨u1, rfl, hO1, hb1⟩
        rw [HP.out] at hO1
        have bw1 := hb.trans (hb1.mono hsz)
        have HW := HH.out.below hb1 (Nat.le_refl _)
        have hO1 := hO1.mono hsz
        have hrow := HW.row
        have hbk := own_block hrow
        obtain ⟨qq, cc, hlu⟩ := hO1.len
        clear hb hb1
        subst hlu
        go_wp2_with (at_builtin; refine wpList_append_own _ rfl (.tmp 27) (.tmp 29) 35 rfl w.heap.size 22 i0 (.slice none 0 0) 1 24 Try.underlying35 hi hz0 hz1 hz2 rfl (by decide) _ _ _ rfl (hrow.alloc _) ⟨w1.heap.size, 0, none⟩ 1 1 [.slice qq P.length cc] rfl rfl ?c1 ?c2 ?c3 ?c4 ?c5 ?_)
        case c1 => exact cell_one _ _ _
        case c2 => intro u hu; simp at hu; subst hu; rfl
        case c3 => unfold maxLen; omega
        case c4 => omega
        case c5 => have := bw1.size; simp; omega
        intro v2 w2 hrow2 hgr2 _
        have HW2 := (HW.alloc (.cells #[.slice qq P.length cc] 22)).push (hO1.alloc _) hrow2 hgr2
        have bw2 := (bw1.alloc bw1.size (.cells #[.slice qq P.length cc] 22)).grown hgr2 (by have := bw1.size; simp; omega) hbk
        clear hgr2 hrow2 hrow HW hO1 bw1 hbk
        go_wp2_with fail
        refine ⟨⟨e + (10 + N), ps ++ [P], cs ++ [.slice qq P.length cc], by omega, by simp, by rw [List.length_append, List.length_singleton]; omega, HR2, HW2, bw2⟩, ?_⟩
        simp only [intOf]
        omega
    · obtain rfl : e = n := by omega
      have hz : l.drop e = [] := List.drop_of_length_le (by rw [Hn.out]; exact Nat.le_refl _)
      obtain ⟨rfl, rfl, rfl⟩ : aps = ps ∧ aend = e ∧ ast = 0 := by
        obtain ⟨r1, r2, r3⟩ := HR.out
        rw [hz, all_nil] at r1 r2 r3
        exact ⟨by simpa using r1, by simpa using r2, r3⟩
      have HH := Lib.hid hR
      clear hR hz
      go_wp2_with fail
      go_ret3
      exact ⟨_, _, rfl, HH.out, hb⟩
end Go.Proofs.Ytcmceibaaaadoaa
