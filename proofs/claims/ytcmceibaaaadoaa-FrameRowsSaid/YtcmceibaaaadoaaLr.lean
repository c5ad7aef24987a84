/- Of frames one behind the other, cut anywhere, just those that are whole are told. -/
import Derived.Test.YtcmceibaaaadoaaN
namespace Go.Proofs.Ytcmceibaaaadoaa
open Go.RowKit
set_option linter.unusedVariables false
set_option maxRecDepth 100000 in
set_option maxHeartbeats 1000000 in
theorem rows_early (n : Nat) (q : Option Addr) (cap : Nat) (cut : Int) (w : World) (h : 100 < n) :
    Calls Try.prog 7 #[.slice q n cap, .int .i64 cut] w fun e w' => e = .returned (.bool true) ∧ Below w.heap.size w w' := by
  have d1 : decide ((100 : Int) < (n : Int)) = true := by simp; omega
  clear h
  go_enter Try.func7, Try.ntmps7
  go_wp2_with fail
  refine (awake_any _).mono ?_
  rintro e w1 ⟨rfl, hb⟩
  go_wp2_with fail
  go_ret
  exact ⟨rfl, hb⟩
set_option maxRecDepth 100000 in
set_option maxHeartbeats 4000000 in
theorem rows_late (v : Value) (ps : List (List UInt8)) (cut : Int) (w : World) (hv : Lists w w.heap.size v ps) (h0 : ps.length ≤ 100) :
    Calls Try.prog 7 #[v, .int .i64 cut] w fun e w' => e = .returned (.bool true) ∧ Below w.heap.size w w' := by
  obtain ⟨i5, hi5, hz50, hz51, hz52⟩ := info_parts info5
  obtain ⟨i3, hi3, hz30, hz31, hz32⟩ := info_parts info3
  obtain ⟨q0, c0, rfl⟩ := hv.len
  have HV := Lib.hid hv
  clear hv
  obtain ⟨n, hn⟩ : ∃ n, ps.length = n := ⟨_, rfl⟩
  rw [hn] at HV h0 ⊢
  have HN := Lib.hid hn
  clear hn
  have d1 : decide ((100 : Int) < (n : Int)) = false := by simp; omega
  go_enter Try.func7, Try.ntmps7
  go_wp2_with fail
  refine (awake_any _).mono ?_
  rintro e w1 ⟨rfl, hb1⟩
  go_wp2_with fail
  go_loopw [5, 6, 7] (fun u5 u6 i wr => ∃ k : Nat, k ≤ n ∧ i = .int .i64 k ∧ Hid (∀ j (hj : j < ps.length), j < k → ps[j].length ≤ 1000) ∧ OwnB wr w.heap.size u5 (framesL (ps.take k)) ∧ wr.ownsRow w.heap.size 3 1 u6 k (endsV ps k) ∧ Below w.heap.size w wr) (fun _ _ i _ => n - (intOf i).toNat)
  case atStart => exact ⟨0, by omega, rfl, fun j hj h => by omega, OwnB.nil _ _, World.ownsRow_nil _ _ 3 1, hb1⟩
  case round =>
    obtain ⟨k, hk, rfl, HS, hob, hoe, hb⟩ := hrel
    by_cases hlt : k < n
    · have hkl : k < ps.length := by rw [HN.out]; exact hlt
      obtain ⟨ad, q5, cap5, rfl, c1, hs5⟩ := (HV.out.below hb (Nat.le_refl _)).at k hkl
      obtain ⟨m, hm⟩ : ∃ m, ps[k].length = m := ⟨_, rfl⟩
      rw [hm] at c1 hs5
      have HM := Lib.hid hm
      have b1 : (k : Int) < (n : Int) := by omega
      clear hm
      by_cases hbig : 1000 < m
      · have d2 : decide ((1000 : Int) < (m : Int)) = true := by simp; omega
        clear hs5 hob hoe
        go_wp2_with fail
        go_ret
        exact ⟨rfl, hb⟩
      · have d2 : decide ((1000 : Int) < (m : Int)) = false := by simp; omega
        have HS2 : Hid (∀ j (hj : j < ps.length), j < k + 1 → ps[j].length ≤ 1000) := by
          intro j hj h
          rcases Nat.lt_or_ge j k with h2 | h2
          · exact HS.out j hj h2
          · obtain rfl : j = k := by omega
            rw [HM.out]; omega
        have hfl := framesL_le ps 1000 k (by rw [HN.out]; exact hk) HS.out
        have hstep := framesL_step ps k hkl
        have HST := Lib.hid hstep
        have hsz := hb.size
        have HB := Lib.hid hob
        have HE := Lib.hid hoe
        have HS5 := Lib.hid (hs5.mono hsz)
        clear hob hoe hs5 hstep
        go_wp2_with fail
        refine (seal_any _ ps[k] (by rw [HM.out]; omega) _ HS5.out).mono ?_
        rw [HM.out]
        rintro e w2 ⟨rfl, hr2, hb2⟩
        have bw2 := hb.trans (hb2.mono hsz)
        have ho2 : OwnB w2 w.heap.size _ _ := HB.out.below hb2 (Nat.le_refl _)
        have he2 := own_below HE.out hb2 (Nat.le_refl _)
        have hap := rows_apart (by decide : (5 : TypeId) ≠ 3) ho2 he2
        have hbk := own_block ho2
        have hcl : ∀ j u, (u8s (frameL ps[k]))[j]? = some u → w2.cell? ((⟨wr.heap.size, 0, none⟩ : Addr).add j) = some u := World.ownsRow.cells hr2 rfl
        have hfk : (u8s (frameL ps[k])).length = (m + 10) * 1 := by rw [u8s_len, frameL_len, HM.out]; omega
        have HC := Lib.hid hcl
        have HFK := Lib.hid hfk
        have HBK := Lib.hid hbk
        unfold OwnB at ho2
        have hsz2 := bw2.size
        clear hb hb2 hr2 hcl hfk hbk
        go_wp2_with (at_builtin; refine wpList_append_own _ rfl (.tmp 44) (.tmp 45) 22 rfl w.heap.size 5 i5 (.int .u8 0) 1 1 Try.underlying22 hi5 hz50 hz51 hz52 rfl (by decide) _ _ _ rfl ho2 ⟨wr.heap.size, 0, none⟩ (m + 10) (m + 10) (u8s (frameL ps[k])) rfl HFK.out HC.out (u8s_one _) ?c1 ?c2 ?c3 ?_)
        case c1 => unfold maxLen; omega
        case c2 => omega
        case c3 => exact hsz2
        intro v3 w3 ho3 hgr3 _
        have he3 := World.ownsRow.kept he2 hgr3 hap
        have bw3 := bw2.grown hgr3 hsz2 HBK.out
        have HO3 : Hid (OwnB w3 w.heap.size v3 (framesL (ps.take (k + 1)))) := by
          unfold Hid OwnB
          rw [HST.out, List.length_append, u8s_app, frameL_len, HM.out]
          exact ho3
        obtain ⟨N3, hN3⟩ : ∃ N, (framesL (ps.take (k + 1))).length = N := ⟨_, rfl⟩
        have hN3' : N3 ≤ 200000 := by rw [← hN3, HST.out, List.length_append, frameL_len, HM.out]; omega
        obtain ⟨q3, cap3, rfl⟩ := HO3.out.len
        rw [hN3] at HO3 ⊢
        have HES : Hid (endsV ps (k + 1) = endsV ps k ++ [Value.int .i64 (N3 : Nat)]) := by
          unfold Hid; rw [endsV_succ, hN3]
        have hap3 := rows_apart (by decide : (3 : TypeId) ≠ 5) he3 HO3.out
        have hbk3 := own_block he3
        have HB3 := Lib.hid hbk3
        have HAP := Lib.hid hap3
        have hsz3 := bw3.size
        clear ho3 hgr3 hap he2 ho2 hN3 bw2 hap3 hbk3
        go_wp2_with (at_builtin; refine wpList_append_own _ rfl (.tmp 47) (.tmp 50) 45 rfl w.heap.size 3 i3 (.int .i64 0) 1 8 Try.underlying45 hi3 hz30 hz31 hz32 rfl (by decide) _ _ _ rfl (he3.alloc _) ⟨w3.heap.size, 0, none⟩ 1 1 [.int .i64 (N3 : Nat)] rfl rfl ?e1 ?e2 ?e3 ?e4 ?e5 ?_)
        case e1 => exact cell_one _ _ _
        case e2 => intro u hu; simp at hu; subst hu; rfl
        case e3 => unfold maxLen; omega
        case e4 => omega
        case e5 => simp; omega
        intro v4 w4 he4 hgr4 _
        have ho4 : OwnB w4 w.heap.size _ _ := World.ownsRow.kept (HO3.out.alloc _) hgr4 HAP.out
        have bw4 := (bw3.alloc hsz3 (.cells #[.int .i64 (N3 : Nat)] 3)).grown hgr4 (by simp; omega) HB3.out
        rw [← HES.out] at he4
        clear hgr4 he3 bw3
        have HO4 := Lib.hid ho4
        have HE4 := Lib.hid he4
        clear ho4 he4
        go_wp2_with fail
        go_roundw
        case rel => exact ⟨k + 1, by omega, by go_num, HS2, HO4.out, HE4.out, bw4⟩
        case measure => simp [intOf]; omega
    · obtain rfl : k = n := by omega
      have htk : ps.take k = ps := List.take_of_length_le (by rw [HN.out]; exact Nat.le_refl _)
      rw [htk] at hob
      have hall : ∀ p ∈ ps, p.length ≤ 65536 := by
        intro p hp
        obtain ⟨j, hj, rfl⟩ := List.getElem_of_mem hp
        have := HS.out j hj (by rw [← HN.out]; exact hj)
        omega
      have hfl := framesL_le ps 1000 k (by rw [HN.out]; exact Nat.le_refl _) HS.out
      rw [htk] at hfl
      have hwl := fun c => want_le ps c
      obtain ⟨qb, cb, rfl⟩ := hob.len
      obtain ⟨T, hT⟩ : ∃ T, (framesL ps).length = T := ⟨_, rfl⟩
      rw [hT] at hob hfl ⊢
      have HT := Lib.hid hT
      have HOB := Lib.hid hob
      have HOE := Lib.hid hoe
      have HALL := Lib.hid hall
      have hsz := hb.size
      clear hob hoe hall hT htk
      by_cases hc : cut < 0 ∨ (T : Int) < cut
      · have h2 : decide (cut < 0) = true ∨ (decide (cut < 0) = false ∧ decide ((T : Int) < cut) = true) := by
          by_cases h : cut < 0
          · exact .inl (by simpa using h)
          · exact .inr ⟨by simpa using h, by simp; omega⟩
        rcases h2 with h2 | ⟨h2, h3⟩
        · go_wp2_with fail
          go_ret
          exact ⟨rfl, hb⟩
        · go_wp2_with fail
          go_ret
          exact ⟨rfl, hb⟩
      · obtain ⟨c, rfl⟩ : ∃ c : Nat, cut = c := ⟨cut.toNat, by omega⟩
        have h2 : decide ((c : Int) < 0) = false := by simp
        have h3 : decide ((T : Int) < (c : Int)) = false := by simp; omega
        have hcT : c ≤ T := by omega
        clear hc
        obtain ⟨qe, ce, rfl⟩ : ∃ qe ce, u6 = .slice qe k ce := by
          rcases HOE.out.2 with ⟨hv, h0⟩ | ⟨g, cap, cur, hv, _⟩
          · exact ⟨none, 0, by rw [hv, h0]⟩
          · exact ⟨_, cap, hv⟩
        have HWL := Lib.hid hwl
        clear hwl
        obtain ⟨wo, rfl⟩ : ∃ wo : World, wo = wr := ⟨_, rfl⟩
        go_wp2_with fail
        go_loopw [10, 11, 12] (fun x y i wr => ∃ j : Nat, j ≤ k ∧ i = .int .i64 j ∧ x = .int .i64 ((wantF (ps.take j) c).1 : Nat) ∧ y = .int .i64 ((wantF (ps.take j) c).2 : Nat) ∧ Below wo.heap.size wo wr) (fun _ _ i _ => k - (intOf i).toNat)
        case atStart => exact ⟨0, by omega, rfl, rfl, rfl, Below.refl _ _⟩
        case round =>
          obtain ⟨j, hj, rfl, rfl, rfl, hbx⟩ := hrel
          by_cases hjk : j < k
          · have hst := want_step ps j c (by rw [HN.out]; exact hjk)
            obtain ⟨E, hE⟩ : ∃ E, (framesL (ps.take (j + 1))).length = E := ⟨_, rfl⟩
            obtain ⟨W, hW⟩ : ∃ W, wantF (ps.take j) c = W := ⟨_, rfl⟩
            obtain ⟨wa, wb⟩ := W
            rw [hE, hW] at hst
            rw [hW]
            simp only
            obtain ⟨ge, hqe, ce1⟩ : ∃ ge, qe = some ⟨ge, 0, none⟩ ∧ wr.cell? ⟨ge, j, none⟩ = some (.int .i64 (E : Nat)) := by
              have hx := own_below HOE.out hbx (Nat.le_refl _)
              rcases hx.2 with ⟨hv, h0⟩ | ⟨g, cap, cur, hv, _⟩
              · omega
              · cases hv
                refine ⟨g, rfl, ?_⟩
                have := World.ownsRow.cells hx (g := g) rfl j _ (endsV_at ps hjk)
                rw [Addr.add_mid, Nat.zero_add, hE] at this
                exact this
            subst hqe
            have b1 : (j : Int) < (k : Int) := by omega
            clear hE hW
            by_cases hEc : E ≤ c
            · have d3 : decide ((E : Int) ≤ (c : Int)) = true := by simp; omega
              rw [if_pos hEc] at hst
              have HST := Lib.hid hst
              clear hst
              go_wp2_with fail
              go_quiet (fail)
              go_wp2_with fail
              go_roundw
              case rel => exact ⟨j + 1, by omega, by go_num, by rw [HST.out]; simp, by rw [HST.out], below_drewN hbx _⟩
              case measure => simp [intOf]; omega
            · have d3 : decide ((E : Int) ≤ (c : Int)) = false := by simp; omega
              rw [if_neg hEc] at hst
              have HST := Lib.hid hst
              clear hst
              go_wp2_with fail
              go_roundw
              case rel => exact ⟨j + 1, by omega, by go_num, by rw [HST.out], by rw [HST.out], hbx⟩
              case measure => simp [intOf]; omega
          · obtain rfl : j = k := by omega
            have htk : ps.take j = ps := List.take_of_length_le (by rw [HN.out]; exact Nat.le_refl _)
            rw [htk]
            have hw := HWL.out c
            have har := all_rows ps c HALL.out (by rw [HT.out]; exact hcT)
            obtain ⟨W, hW⟩ : ∃ W, wantF ps c = W := ⟨_, rfl⟩
            obtain ⟨wa, wb⟩ := W
            rw [hW] at har hw ⊢
            simp only at har hw ⊢
            rw [HN.out, HT.out] at hw
            obtain ⟨s, hs⟩ : ∃ s, (if wb = c then 0 else 1) = s := ⟨_, rfl⟩
            rw [hs] at har
            have HAR := Lib.hid har
            have hbx2 := hb.trans (hbx.mono hsz)
            have HS6 := Lib.hid ((Seen.own (HOB.out.below hbx (Nat.le_refl _))).front c (by rw [HT.out]; exact hcT))
            have hsl : ((framesL ps).take c).length ≤ 1000000000 := by rw [List.length_take]; omega
            have HSL := Lib.hid hsl
            have hcb : T ≤ cb := by
              rcases HOB.out.2 with ⟨hv, h0⟩ | ⟨g, cap, cur, hv, _, _, hle, _⟩
              · cases hv; exact Nat.le_refl _
              · cases hv; rw [HT.out] at hle; exact hle
            have hcc : c ≤ cb := by omega
            clear hb hbx htk har hW hsl
            have hfin : (wb = c ∧ s = 0) ∨ (wb ≠ c ∧ s = 1) := by
              by_cases h : wb = c
              · exact .inl ⟨h, by rw [← hs, if_pos h]⟩
              · exact .inr ⟨h, by rw [← hs, if_neg h]⟩
            have htl : (ps.take wa).length = wa := by rw [List.length_take, HN.out]; omega
            have HTL := Lib.hid htl
            clear hs htl
            go_wp2_with fail
            refine (all_any _ ((framesL ps).take c) HSL.out wr HS6.out).mono ?_
            rw [HAR.out]
            simp only
            rintro e w9 ⟨u9', cs9, rfl, hr9, hb9⟩
            have bw9 := hbx2.trans (hb9.mono hbx2.size)
            obtain ⟨q9, cap9, rfl⟩ := hr9.len
            rw [HTL.out] at hr9 ⊢
            have HR9 := Lib.hid hr9
            clear hr9 hb9 hbx2
            have hwaj : wa ≤ j := hw.1
            rcases hfin with ⟨rfl, rfl⟩ | ⟨hne, rfl⟩
            · go_wp2_with fail
              go_loopw [16] (fun i wr => ∃ i' : Nat, i' ≤ wa ∧ i = .int .i64 i' ∧ Below w9.heap.size w9 wr) (fun i _ => wa - (intOf i).toNat)
              case atStart => exact ⟨0, by omega, rfl, Below.refl _ _⟩
              case round =>
                obtain ⟨i', hi', rfl, hbz⟩ := hrel
                by_cases hlw : i' < wa
                · have hlp : i' < ps.length := by rw [HN.out]; omega
                  have bwr := bw9.trans (hbz.mono bw9.size)
                  obtain ⟨ga, qa, ca, rfl, ca1, hoa⟩ := (HR9.out.below hbz (Nat.le_refl _)).at i' (by rw [HTL.out]; exact hlw)
                  obtain ⟨adp, qp, cp, rfl, cp1, hsp⟩ := (HV.out.below bwr (Nat.le_refl _)).at i' hlp
                  have egp : (ps.take wa)[i']'(by rw [HTL.out]; exact hlw) = ps[i'] := List.getElem_take
                  rw [egp] at ca1 hoa
                  have hcv : ∀ m, (convert 22 9 (.slice qa ps[i'].length ca)).run Try.prog (wr.drewN m) = .ok (.string (bs ps[i'])) (wr.drewN m) := fun m => ((Seen.own hoa).below (below_drewN (Below.refl _ _) m) (Nat.le_refl _)).text
                  have hcw : ∀ m, (convert 22 9 (.slice qp ps[i'].length cp)).run Try.prog (wr.drewN m) = .ok (.string (bs ps[i'])) (wr.drewN m) := fun m => (hsp.below (below_drewN (Below.refl _ _) m) bwr.size).text
                  obtain ⟨m, hm⟩ : ∃ m, ps[i'].length = m := ⟨_, rfl⟩
                  obtain ⟨X, hX⟩ : ∃ X, bs ps[i'] = X := ⟨_, rfl⟩
                  rw [hm] at ca1 cp1 hcv hcw
                  rw [hX] at hcv hcw
                  have b1 : (i' : Int) < (wa : Int) := by omega
                  have b2 : (i' : Int) < (j : Int) := by omega
                  clear hoa hsp hm hX egp bwr
                  go_wp2_with fail
                  go_quiet (fail)
                  go_wp2_with fail
                  go_roundw
                  case rel => exact ⟨i' + 1, by omega, by go_num, below_drewN hbz _⟩
                  case measure => simp [intOf]; omega
                · obtain rfl : i' = wa := by omega
                  have bwz := bw9.trans (hbz.mono bw9.size)
                  clear hbz bw9
                  go_wp2_with fail
                  go_ret
                  exact ⟨rfl, bwz⟩
            · have hne2 : ((wb : Int) == (c : Int)) = false := by simp; omega
              clear hne
              go_wp2_with fail
              go_loopw [16] (fun i wr => ∃ i' : Nat, i' ≤ wa ∧ i = .int .i64 i' ∧ Below w9.heap.size w9 wr) (fun i _ => wa - (intOf i).toNat)
              case atStart => exact ⟨0, by omega, rfl, Below.refl _ _⟩
              case round =>
                obtain ⟨i', hi', rfl, hbz⟩ := hrel
                by_cases hlw : i' < wa
                · have hlp : i' < ps.length := by rw [HN.out]; omega
                  have bwr := bw9.trans (hbz.mono bw9.size)
                  obtain ⟨ga, qa, ca, rfl, ca1, hoa⟩ := (HR9.out.below hbz (Nat.le_refl _)).at i' (by rw [HTL.out]; exact hlw)
                  obtain ⟨adp, qp, cp, rfl, cp1, hsp⟩ := (HV.out.below bwr (Nat.le_refl _)).at i' hlp
                  have egp : (ps.take wa)[i']'(by rw [HTL.out]; exact hlw) = ps[i'] := List.getElem_take
                  rw [egp] at ca1 hoa
                  have hcv : ∀ m, (convert 22 9 (.slice qa ps[i'].length ca)).run Try.prog (wr.drewN m) = .ok (.string (bs ps[i'])) (wr.drewN m) := fun m => ((Seen.own hoa).below (below_drewN (Below.refl _ _) m) (Nat.le_refl _)).text
                  have hcw : ∀ m, (convert 22 9 (.slice qp ps[i'].length cp)).run Try.prog (wr.drewN m) = .ok (.string (bs ps[i'])) (wr.drewN m) := fun m => (hsp.below (below_drewN (Below.refl _ _) m) bwr.size).text
                  obtain ⟨m, hm⟩ : ∃ m, ps[i'].length = m := ⟨_, rfl⟩
                  obtain ⟨X, hX⟩ : ∃ X, bs ps[i'] = X := ⟨_, rfl⟩
                  rw [hm] at ca1 cp1 hcv hcw
                  rw [hX] at hcv hcw
                  have b1 : (i' : Int) < (wa : Int) := by omega
                  have b2 : (i' : Int) < (j : Int) := by omega
                  clear hoa hsp hm hX egp bwr
                  go_wp2_with fail
                  go_quiet (fail)
                  go_wp2_with fail
                  go_roundw
                  case rel => exact ⟨i' + 1, by omega, by go_num, below_drewN hbz _⟩
                  case measure => simp [intOf]; omega
                · obtain rfl : i' = wa := by omega
                  have bwz := bw9.trans (hbz.mono bw9.size)
                  clear hbz bw9
                  go_wp2_with fail
                  go_ret
                  exact ⟨rfl, bwz⟩
theorem law_rows (v : Value) (ps : List (List UInt8)) (cut : Int) (w : World) (hv : Lists w w.heap.size v ps) :
    Calls Try.prog 7 #[v, .int .i64 cut] w fun e w' => e = .returned (.bool true) ∧ Below w.heap.size w w' := by
  by_cases h : 100 < ps.length
  · obtain ⟨q0, c0, rfl⟩ := hv.len
    exact rows_early _ q0 c0 cut w h
  · exact rows_late v ps cut w hv (by omega)
end Go.Proofs.Ytcmceibaaaadoaa
