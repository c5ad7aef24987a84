/- The reference's All; lists of bytes against texts. -/
import Derived.Test.YtcmceibaaaadoaaO
namespace Go.Proofs.Ytcmceibaaaadoaa
open Go.RowKit
set_option linter.unusedVariables false
theorem info9 : (Try.prog.info? 9).map (fun i => (i.zero, i.size, i.bytes)) = some (some (.string ⟨#[]⟩), 1, 16) := by kernel_rfl
/-- A value owns a list of texts. -/
def Txts (w : World) (base : Nat) (u : Value) (ps : List (List UInt8)) : Prop := w.ownsRow base 9 1 u ps.length (ps.map fun p => Value.string (bs p))
theorem Txts.below {w w' : World} {base B : Nat} {u : Value} {ps : List (List UInt8)} (h : Txts w base u ps) (hb : Below B w w') (hB : w.heap.size ≤ B) : Txts w' base u ps := by
  obtain ⟨h1, h2⟩ := h
  refine ⟨h1, ?_⟩
  rcases h2 with h2 | ⟨g, cap, cur, hv, hg, hh, r⟩
  · exact .inl h2
  · exact .inr ⟨g, cap, cur, hv, hg, by rw [hb.block g (Nat.lt_of_lt_of_le (lt_of_block hh) hB)]; exact hh, r⟩
theorem Txts.len {w : World} {base : Nat} {u : Value} {ps : List (List UInt8)} (h : Txts w base u ps) : ∃ q cap, u = .slice q ps.length cap := by
  rcases h.2 with ⟨hv, h0⟩ | ⟨g, cap, cur, hv, _⟩
  · exact ⟨none, 0, by rw [hv, h0]⟩
  · exact ⟨_, cap, hv⟩
theorem Txts.at {w : World} {base : Nat} {q : Option Addr} {n cap : Nat} {ps : List (List UInt8)} (h : Txts w base (.slice q n cap) ps) (j : Nat) (hj : j < ps.length) : ∃ g, q = some ⟨g, 0, none⟩ ∧ w.cell? ⟨g, j, none⟩ = some (.string (bs ps[j])) := by
  rcases h.2 with ⟨hv, h0⟩ | ⟨g, cap', cur, hv, _⟩
  · omega
  · cases hv
    refine ⟨g, rfl, ?_⟩
    have := World.ownsRow.cells h (g := g) rfl j (.string (bs ps[j])) (by rw [List.getElem?_map, List.getElem?_eq_getElem hj]; rfl)
    rw [Addr.add_mid, Nat.zero_add] at this
    exact this
theorem Rows.len {w : World} {base : Nat} {u : Value} {ps : List (List UInt8)} {cs : List Value} (h : Rows w base u ps cs) : ∃ q cap, u = .slice q ps.length cap := by
  rcases h.row.2 with ⟨hv, h0⟩ | ⟨g, cap, cur, hv, _⟩
  · exact ⟨none, 0, by rw [hv, h0]⟩
  · exact ⟨_, cap, hv⟩
theorem Rows.at {w : World} {base : Nat} {q : Option Addr} {n cap : Nat} {ps : List (List UInt8)} {cs : List Value} (h : Rows w base (.slice q n cap) ps cs) (j : Nat) (hj : j < ps.length) : ∃ g q' cap', q = some ⟨g, 0, none⟩ ∧ w.cell? ⟨g, j, none⟩ = some (.slice q' ps[j].length cap') ∧ OwnB w base (.slice q' ps[j].length cap') ps[j] := by
  have hlen : cs.length = ps.length := by have := h.row.1; omega
  have ho := h.each j (cs[j]'(by omega)) ps[j] (List.getElem?_eq_getElem (by omega)) (List.getElem?_eq_getElem hj)
  obtain ⟨q', cap', hc⟩ := ho.len
  rcases h.row.2 with ⟨hv, h0⟩ | ⟨g, cap1, cur, hv, _⟩
  · omega
  · cases hv
    refine ⟨g, q', cap', rfl, ?_, by rw [← hc]; exact ho⟩
    have := World.ownsRow.cells h.row (g := g) rfl j _ (List.getElem?_eq_getElem (by omega))
    rw [Addr.add_mid, Nat.zero_add, hc] at this
    exact this
set_option maxRecDepth 100000 in
set_option maxHeartbeats 1000000 in
theorem rall_any (s : ByteArray) (hs : s.size ≤ 1000000000) (w : World) :
    Calls Try.prog 16 #[.string s] w fun e w' => ∃ u, e = .returned (.tuple #[u, .int .i64 ((allL s.data.toList).2.1 : Nat), .int .i64 ((allL s.data.toList).2.2 : Nat)]) ∧ Txts w' w.heap.size u (allL s.data.toList).1 ∧ Below w.heap.size w w' := by
  obtain ⟨i0, hi, hz0, hz1, hz2⟩ := info_parts info9
  obtain ⟨l, hl⟩ : ∃ l, s.data.toList = l := ⟨_, rfl⟩
  obtain ⟨n, hn⟩ : ∃ n, s.size = n := ⟨_, rfl⟩
  have hsz : l.length = n := by rw [← hl, ← hn]; simp
  rw [hn] at hs
  rw [hl]
  have Hn := Lib.hid hsz
  have HLL := Lib.hid hl
  clear hl hsz
  obtain ⟨A, hA⟩ : ∃ A, allL l = A := ⟨_, rfl⟩
  obtain ⟨aps, aend, ast⟩ := A
  rw [hA]
  simp only
  have HA := Lib.hid hA
  clear hA
  go_enter Try.func16, Try.ntmps16
  go_wp2_with fail
  go_loopw [5, 6] (fun u c wr => ∃ (e : Nat) (ps : List (List UInt8)), e ≤ n ∧ c = .int .i64 e ∧ ps.length ≤ e ∧ Hid (aps = ps ++ (allL (l.drop e)).1 ∧ aend = e + (allL (l.drop e)).2.1 ∧ ast = (allL (l.drop e)).2.2) ∧ Txts wr w.heap.size u ps ∧ Below w.heap.size w wr) (fun _ c _ => n - (intOf c).toNat)
  case atStart =>
    refine ⟨0, [], by omega, rfl, by simp, ?_, World.ownsRow_nil _ _ 9 1, Below.refl _ _⟩
    have := HA.out
    unfold Hid
    rw [List.drop_zero, this]
    simp
  case round =>
    obtain ⟨e, ps, he, rfl, hpe, HR, hR, hb⟩ := hrel
    by_cases hlt : e < n
    · have hsz := hb.size
      obtain ⟨T, hT⟩ : ∃ T, s.extract e n = T := ⟨_, rfl⟩
      have hTd : T.data.toList = l.drop e := by
        rw [← hT, ext_list, HLL.out, List.take_of_length_le (by rw [Hn.out]; exact Nat.le_refl _)]
      have hTs : T.size ≤ 1000000000 := by rw [← hT, ByteArray.size_extract]; omega
      have HTd := Lib.hid hTd
      have hdl : (l.drop e).length = n - e := by rw [List.length_drop, Hn.out]
      have HH := Lib.hid hR
      clear hTd hR
      rcases open_cases (l.drop e) with ho | ho | ⟨N, h1, h2, ho⟩
      · have hr := all_end (by omega) ho (by decide)
        obtain ⟨rfl, rfl, rfl⟩ : aps = ps ∧ aend = e ∧ ast = 1 := by
          obtain ⟨r1, r2, r3⟩ := HR.out
          rw [hr] at r1 r2 r3
          exact ⟨by simpa using r1, by simpa using r2, r3⟩
        have HO := Lib.hid ho
        clear hr ho
        go_wp2_with fail
        refine (ropen_any T hTs wr).mono ?_
        rw [HTd.out, HO.out]
        rintro e w1 ⟨rfl, hb1⟩
        have bw1 := hb.trans (hb1.mono hsz)
        have HW := HH.out.below hb1 (Nat.le_refl _)
        clear hb hb1
        go_wp2_with fail
        go_ret3
        exact ⟨_, rfl, HW, bw1⟩
      · have hr := all_end (by omega) ho (by decide)
        obtain ⟨rfl, rfl, rfl⟩ : aps = ps ∧ aend = e ∧ ast = 2 := by
          obtain ⟨r1, r2, r3⟩ := HR.out
          rw [hr] at r1 r2 r3
          exact ⟨by simpa using r1, by simpa using r2, r3⟩
        have HO := Lib.hid ho
        clear hr ho
        go_wp2_with fail
        refine (ropen_any T hTs wr).mono ?_
        rw [HTd.out, HO.out]
        rintro e w1 ⟨rfl, hb1⟩
        have bw1 := hb.trans (hb1.mono hsz)
        have HW := HH.out.below hb1 (Nat.le_refl _)
        clear hb hb1
        go_wp2_with fail
        go_ret3
        exact ⟨_, rfl, HW, bw1⟩
      · have hr := all_whole ho h2
        rw [List.drop_drop] at hr
        have HR2 : Hid (aps = (ps ++ [openP (l.drop e)]) ++ (allL (l.drop (e + (10 + N)))).1 ∧ aend = e + (10 + N) + (allL (l.drop (e + (10 + N)))).2.1 ∧ ast = (allL (l.drop (e + (10 + N)))).2.2) := by
          obtain ⟨r1, r2, r3⟩ := HR.out
          rw [hr] at r1 r2 r3
          refine ⟨by rw [r1]; simp, ?_, r3⟩
          rw [r2]; simp only; omega
        obtain ⟨P, hP⟩ : ∃ P, openP (l.drop e) = P := ⟨_, rfl⟩
        rw [hP] at HR2
        have HP := Lib.hid hP
        have HO := Lib.hid ho
        have hen : e + (10 + N) ≤ n := by omega
        clear hr hP ho
        go_wp2_with fail
        refine (ropen_any T hTs wr).mono ?_
        rw [HTd.out, HO.out, HP.out]
        rintro e w1 ⟨rfl, hb1⟩
        have bw1 := hb.trans (hb1.mono hsz)
        have hrow := HH.out.below hb1 (Nat.le_refl _)
        have hbk := own_block hrow
        unfold Txts at hrow
        obtain ⟨X, hX⟩ : ∃ X, bs P = X := ⟨_, rfl⟩
        rw [hX]
        have HX := Lib.hid hX
        clear hb hb1 hX
        go_wp2_with (at_builtin; refine wpList_append_own _ rfl (.tmp 27) (.tmp 29) 38 rfl w.heap.size 9 i0 (.string ⟨#[]⟩) 1 16 Try.underlying38 hi hz0 hz1 hz2 rfl (by decide) _ _ _ rfl (hrow.alloc _) ⟨w1.heap.size, 0, none⟩ 1 1 [.string X] rfl rfl ?c1 ?c2 ?c3 ?c4 ?c5 ?_)
        case c1 => exact cell_one _ _ _
        case c2 => intro u hu; simp at hu; subst hu; rfl
        case c3 => unfold maxLen; omega
        case c4 => omega
        case c5 => have := bw1.size; simp; omega
        intro v2 w2 hrow2 hgr2 _
        have HW2 : Txts w2 w.heap.size v2 (ps ++ [P]) := by
          unfold Txts
          rw [List.length_append, List.length_singleton, List.map_append, List.map_singleton, HX.out]
          exact hrow2
        have bw2 := (bw1.alloc bw1.size (.cells #[.string X] 9)).grown hgr2 (by have := bw1.size; simp; omega) hbk
        clear hgr2 hrow2 hrow bw1 hbk
        go_wp2_with fail
        refine ⟨⟨e + (10 + N), ps ++ [P], by omega, by simp, by rw [List.length_append, List.length_singleton]; omega, HR2, HW2, bw2⟩, ?_⟩
        simp only [intOf]
        omega
    · obtain rfl : e = n := by omega
      have hz : l.drop e = [] := List.drop_of_length_le (by rw [Hn.out]; exact Nat.le_refl _)
      obtain ⟨rfl, rfl, rfl⟩ : aps = ps ∧ aend = e ∧ ast = 0 := by
        obtain ⟨r1, r2, r3⟩ := HR.out
        rw [hz, all_nil] at r1 r2 r3
        exact ⟨by simpa using r1, by simpa using r2, r3⟩
      have HH := Lib.hid hR
      clear hR hz
      go_wp2_with fail
      go_ret3
      exact ⟨_, rfl, HH.out, hb⟩
set_option maxRecDepth 100000 in
set_option maxHeartbeats 1000000 in
theorem texts_any (u t : Value) (ps : List (List UInt8)) (cs : List Value) (B C : Nat) (hl : ps.length ≤ 1000000000) (w : World) (hu : Rows w B u ps cs) (ht : Txts w C t ps) :
    Calls Try.prog 17 #[u, t] w fun e w' => e = .returned (.bool true) ∧ Below w.heap.size w w' := by
  obtain ⟨q, cap, rfl⟩ := hu.len
  obtain ⟨q1, cap1, rfl⟩ := ht.len
  have HU := Lib.hid hu
  have HT := Lib.hid ht
  clear hu ht
  obtain ⟨n, hn⟩ : ∃ n, ps.length = n := ⟨_, rfl⟩
  rw [hn] at HU HT hl ⊢
  have Hn := Lib.hid hn
  clear hn
  go_enter Try.func17, Try.ntmps17
  go_wp2_with fail
  go_loopw [5] (fun i wr => ∃ k : Nat, k ≤ n ∧ i = .int .i64 k ∧ Below w.heap.size w wr) (fun i _ => n - (intOf i).toNat)
  case atStart => exact ⟨0, by omega, rfl, Below.refl _ _⟩
  case round =>
    obtain ⟨k, hk, rfl, hb⟩ := hrel
    by_cases hlt : k < n
    · have hkl : k < ps.length := by rw [Hn.out]; exact hlt
      obtain ⟨g, q', cap', rfl, c1, ho⟩ := (HU.out.below hb (Nat.le_refl _)).at k hkl
      obtain ⟨g1, rfl, c2⟩ := (HT.out.below hb (Nat.le_refl _)).at k hkl
      have hcv : ∀ m, (convert 22 9 (.slice q' ps[k].length cap')).run Try.prog (wr.drewN m) = .ok (.string (bs ps[k])) (wr.drewN m) := fun m => ((Seen.own ho).below (below_drewN (Below.refl _ _) m) (Nat.le_refl _)).text
      obtain ⟨m, hm⟩ : ∃ m, ps[k].length = m := ⟨_, rfl⟩
      obtain ⟨X, hX⟩ : ∃ X, bs ps[k] = X := ⟨_, rfl⟩
      rw [hm] at c1 hcv
      rw [hX] at c2 hcv
      have b1 : (k : Int) < (n : Int) := by omega
      clear ho hm hX
      go_wp2_with fail
      go_quiet (fail)
      go_wp2_with fail
      go_roundw
      case rel => exact ⟨k + 1, by omega, by go_num, below_drewN hb _⟩
      case measure => simp [intOf]; omega
    · obtain rfl : k = n := by omega
      go_wp2_with fail
      go_ret
      exact ⟨rfl, hb⟩
end Go.Proofs.Ytcmceibaaaadoaa
