/- Tags that rise; what a kind asks: the program's and the reference's. -/
import Derived.Test.YtghnbkkfghfifaaGreatDoorED
namespace Go.Proofs.YtghnbkkfghfifaaGreatDoor.E
open Go.RowKit
set_option linter.unusedVariables false
theorem own_len {w : World} {base base' : Nat} {e : TypeId} {size : Nat} {v : Value} {n : Nat} {xs : List Value} (h : w.ownsRow base e size v n xs) (hb : base' ≤ base) : w.ownsRow base' e size v n xs := own_base h hb
set_option maxRecDepth 100000 in
theorem rtags_any (s : ByteArray) (hs : s.size ≤ 4000000000) (w : World) :
    Calls Tryz.prog 87 #[.string s] w fun e w' => ∃ v, e = .returned v ∧ Strs w' v (tagsB s) ∧ Below w.heap.size w w' := by
  rcases idx_cases 59 s.data.toList with e | ⟨i, e⟩
  · have HE := Lib.hid e
    rw [tags_nil (by rw [(cut_no e).2.1]; rfl)]
    clear e
    go_enter Tryz.func87, Tryz.ntmps87
    go_wp2_with fail
    refine (place_any s hs _).mono ?_
    rw [HE.out]
    rintro e w' ⟨rfl, rfl⟩
    go_wp2
    go_ret
    exact ⟨_, rfl, .inl ⟨rfl, _, _, rfl⟩, (Below.refl _ _).alloc (by simp) _⟩
  · have HE := Lib.hid e
    have hi := idx_lt e
    have ht := (cut_yes e).2.1
    have hz : (tlB s).size = s.size - (i + 1) := by rw [ht, ByteArray.size_extract]; omega
    clear e
    by_cases hl : i + 1 = s.size
    · rw [tags_nil (by omega)]
      have t : ((i : Int) == (s.size : Int) - 1) = true := by simp; omega
      clear ht hz
      have HH := Lib.hid hl
      clear hl
      go_enter Tryz.func87, Tryz.ntmps87
      go_wp2_with fail
      refine (place_any s hs _).mono ?_
      rw [HE.out]
      rintro e w' ⟨rfl, rfl⟩
      go_wp2
      go_ret
      exact ⟨_, rfl, .inl ⟨rfl, _, _, rfl⟩, (Below.refl _ _).alloc (by simp) _⟩
    · rw [tags_some (by omega)]
      have t : ((i : Int) == (s.size : Int) - 1) = false := by simp; omega
      have hss := tlB_size s
      rw [ht] at hss ⊢
      clear ht hz hl
      go_enter Tryz.func87, Tryz.ntmps87
      go_wp2_with fail
      refine (place_any s hs _).mono ?_
      rw [HE.out]
      rintro e w' ⟨rfl, rfl⟩
      go_wp2_with fail
      refine (parts_any (s.extract (i + 1) s.size) 44 (by omega) _).mono ?_
      rintro e w' ⟨v, rfl, hown, hb⟩
      go_wp2_with fail
      go_ret
      exact ⟨_, rfl, Strs.of_own hown, hb⟩
theorem getD_of {xs : List ByteArray} {k : Nat} (hk : k < xs.length) : xs.getD k ⟨#[]⟩ = xs[k] := by
  rw [List.getD_eq_getElem?_getD, List.getElem?_eq_getElem hk]; rfl
theorem tag_no_name {xs : List ByteArray} {k : Nat} (hk : k < xs.length) (h : nameB xs[k] = false) : tagAt xs k = false := by
  unfold tagAt; rw [getD_of hk, h]; rfl
theorem tag_first {xs : List ByteArray} (hk : 0 < xs.length) (h : nameB xs[0] = true) : tagAt xs 0 = true := by
  unfold tagAt; rw [getD_of hk, h]; rfl
theorem tag_next {xs : List ByteArray} {k : Nat} (hk : k < xs.length) (h0 : 0 < k) (h : nameB xs[k] = true) : tagAt xs k = ltB (xs[k - 1]) xs[k] := by
  unfold tagAt; rw [getD_of hk, getD_of (show k - 1 < xs.length by omega), h]; simp; omega
set_option maxRecDepth 100000 in
theorem rising_any (v : Value) (xs : List ByteArray) (hx : xs.length ≤ 4294967296) (w : World) (hv : Strs w v xs) :
    Calls Tryz.prog 130 #[v] w fun e w' => e = .returned (.bool (risB xs)) ∧ w = w' := by
  rcases hv with ⟨rfl, a, c, rfl⟩ | ⟨b, c, hb, hc, rfl, hcell⟩
  · go_enter Tryz.func130, Tryz.ntmps130
    go_wp2
    refine wp_loop_rounds 1 ?_
    rw [rounds_succ]
    go_wp2
    go_ret
    exact ⟨rfl, rfl⟩
  · by_cases h8 : xs.length ≤ 8
    · obtain ⟨r, hr⟩ : ∃ r, risB xs = r := ⟨_, rfl⟩
      rw [hr]
      have HR := Lib.hid hr
      have HC := Lib.hid hcell
      clear hr hcell hx
      go_enter Tryz.func130, Tryz.ntmps130
      go_wp2
      go_loop [10] (fun i => ∃ k : Nat, k ≤ xs.length ∧ i = .int .i64 k ∧ Hid (tagsTo xs k = true)) (fun i => xs.length - (intOf i).toNat)
      case atStart => exact ⟨0, Nat.zero_le _, rfl, rfl⟩
      case round =>
        obtain ⟨k, hk, rfl, HA⟩ := hrel
        by_cases hlt : k < xs.length
        · have c0 := HC.out k xs[k] (List.getElem?_eq_getElem hlt)
          have HS := Lib.hid (tagsTo_succ xs k)
          cases hn : nameB xs[k]
          · have e : r = false := by rw [← HR.out]; exact ris_bad hlt (tag_no_name hlt hn)
            subst e
            have HN := Lib.hid hn
            clear hn
            go_wp2_with (go_at_call 53; refine (name_any _ _).mono ?_; rw [HN.out]; rintro e w' ⟨rfl, rfl⟩)
            go_ret
            exact ⟨rfl, rfl⟩
          · by_cases h0 : k = 0
            · subst h0
              have HT := Lib.hid (tag_first hlt hn)
              have HN := Lib.hid hn
              clear hn
              go_wp2_with (go_at_call 53; refine (name_any _ _).mono ?_; rw [HN.out]; rintro e w' ⟨rfl, rfl⟩)
              go_round
              case rel => exact ⟨1, by omega, by go_num, by unfold Hid; rw [HS.out, HA.out, HT.out]; rfl⟩
              case measure => simp [intOf]; omega
            · have c1 := HC.out (k - 1) (xs[k - 1]) (List.getElem?_eq_getElem (by omega))
              have ht := tag_next hlt (by omega) hn
              have HN := Lib.hid hn
              clear hn
              have q0 : (0 : Int) ≤ (k : Int) - 1 := by omega
              have q1 : (1 : Int) ≤ (k : Int) := by omega
              rcases ltB_tri (xs[k - 1]) xs[k] with ⟨t1, t2, t3⟩ | ⟨t1, t2, t3⟩ | ⟨t1, t2, t3⟩
              · have HT := Lib.hid (ht.trans t1)
                have u1 : Op.bytesLess (xs[k]).toList (xs[k - 1]).toList = false := t2
                have u2 : ((xs[k]).toList == (xs[k - 1]).toList) = false := by rw [eqB]; simp; exact fun e => t3 e.symm
                clear ht t1 t2 t3
                go_wp2_with (go_at_call 53; refine (name_any _ _).mono ?_; rw [HN.out]; rintro e w' ⟨rfl, rfl⟩)
                go_round
                case rel => exact ⟨k + 1, by omega, by go_num, by unfold Hid; rw [HS.out, HA.out, HT.out]; rfl⟩
                case measure => simp [intOf]; omega
              · have e : r = false := by rw [← HR.out]; exact ris_bad hlt (ht.trans t1)
                subst e
                have u1 : Op.bytesLess (xs[k]).toList (xs[k - 1]).toList = true := t2
                clear ht t1 t2 t3
                go_wp2_with (go_at_call 53; refine (name_any _ _).mono ?_; rw [HN.out]; rintro e w' ⟨rfl, rfl⟩)
                go_ret
                exact ⟨rfl, rfl⟩
              · have e : r = false := by rw [← HR.out]; exact ris_bad hlt (ht.trans t1)
                subst e
                have u1 : Op.bytesLess (xs[k]).toList (xs[k - 1]).toList = false := t2
                have u2 : ((xs[k]).toList == (xs[k - 1]).toList) = true := by rw [eqB]; simp; exact t3.symm
                clear ht t1 t2 t3
                go_wp2_with (go_at_call 53; refine (name_any _ _).mono ?_; rw [HN.out]; rintro e w' ⟨rfl, rfl⟩)
                go_ret
                exact ⟨rfl, rfl⟩
        · obtain rfl : k = xs.length := by omega
          have e : r = true := by rw [← HR.out]; exact ris_ok h8 HA.out
          subst e
          go_wp2
          go_ret
          exact ⟨rfl, rfl⟩
    · rw [ris_long h8]
      have HC := Lib.hid hcell
      clear hcell
      go_enter Tryz.func130, Tryz.ntmps130
      go_wp2
      go_ret
      exact ⟨rfl, rfl⟩
theorem name_q {s : ByteArray} {b : Bool} (h : nameB s = b) (w : World) (n : Nat) : Calls Tryz.prog 53 #[.string s] (w.drewN n) fun e w' => e = .returned (.bool b) ∧ ∃ m, w' = w.drewN m := by
  subst h; exact (name_any s _).mono fun e w' ⟨he, hw⟩ => ⟨he, n, hw.symm⟩
theorem rname_q {s : ByteArray} {b : Bool} (h : nameB s = b) (w : World) (n : Nat) : Calls Tryz.prog 39 #[.string s] (w.drewN n) fun e w' => e = .returned (.bool b) ∧ ∃ m, w' = w.drewN m := by
  subst h; exact (rname_any s _).mono fun e w' ⟨he, hw⟩ => ⟨he, n, hw.symm⟩
theorem rname_at {s : ByteArray} {b : Bool} (h : nameB s = b) (w : World) : Calls Tryz.prog 39 #[.string s] w fun e w' => e = .returned (.bool b) ∧ w = w' := by
  subst h; exact rname_any s w
theorem name_at {s : ByteArray} {b : Bool} (h : nameB s = b) (w : World) : Calls Tryz.prog 53 #[.string s] w fun e w' => e = .returned (.bool b) ∧ w = w' := by
  subst h; exact name_any s w
theorem lab_no_has {s : ByteArray} (h : hasB s = false) : labB s = false := by unfold labB; rw [h]; rfl
theorem lab_no_name {s : ByteArray} (h : nameB (mkB s) = false) : labB s = false := by unfold labB; rw [h]; simp
theorem lab_ris {s : ByteArray} (h1 : hasB s = true) (h2 : nameB (mkB s) = true) : labB s = risB (tagsB s) := by unfold labB; rw [h1, h2]; rfl
theorem ris_len {xs : List ByteArray} (h2 : tagsTo xs xs.length = true) : risB xs = decide (xs.length ≤ 8) := by unfold risB; rw [h2]; simp
theorem tagsB_len (s : ByteArray) : (tagsB s).length ≤ s.size + 1 := by
  by_cases h : (tlB s).size = 0
  · rw [tags_nil h]; simp
  · rw [tags_some h, partsB_length]
    have h1 := parts_le 44 (tlB s).data.toList
    have h2 := tlB_size s
    have h3 : (tlB s).data.toList.length = (tlB s).size := by simp
    omega
set_option maxRecDepth 100000 in
theorem label_any (s : ByteArray) (hs : s.size ≤ 1000000000) (w : World) :
    Calls Tryz.prog 64 #[.string s] w fun e w' => e = .returned (.bool (labB s)) ∧ Below w.heap.size w w' := by
  rcases idx_cases 59 s.data.toList with e | ⟨i, e⟩
  · rw [lab_no_has (cut_no e).2.2]
    have HE := Lib.hid e
    clear e
    go_enter Tryz.func64, Tryz.ntmps64
    go_wp2_with fail
    refine (place_any s (by omega) _).mono ?_
    rw [HE.out]
    rintro e w' ⟨rfl, rfl⟩
    go_wp2
    go_ret
    exact ⟨rfl, Below.refl _ _⟩
  · have hhas := (cut_yes e).2.2
    have HE := Lib.hid e
    clear e
    cases hn : nameB (mkB s)
    · rw [lab_no_name hn]
      have HN := Lib.hid hn
      clear hn hhas
      go_enter Tryz.func64, Tryz.ntmps64
      go_wp2_with fail
      refine (place_any s (by omega) _).mono ?_
      rw [HE.out]
      rintro e w' ⟨rfl, rfl⟩
      go_wp2_with (first | (go_at_call 86; refine (rmaker_any _ (by omega) _).mono ?_; rintro e w' ⟨rfl, rfl⟩) | (go_at_call 39; refine (rname_at HN.out _).mono ?_; rintro e w' ⟨rfl, rfl⟩))
      go_ret
      exact ⟨rfl, Below.refl _ _⟩
    · obtain ⟨r, hr⟩ : ∃ r, risB (tagsB s) = r := ⟨_, rfl⟩
      rw [lab_ris hhas hn, hr]
      have HR := Lib.hid hr
      have HN := Lib.hid hn
      have hlen := tagsB_len s
      clear hn hhas hr
      go_enter Tryz.func64, Tryz.ntmps64
      go_wp2_with fail
      refine (place_any s (by omega) _).mono ?_
      rw [HE.out]
      rintro e w' ⟨rfl, rfl⟩
      go_wp2_with (first | (go_at_call 86; refine (rmaker_any _ (by omega) _).mono ?_; rintro e w' ⟨rfl, rfl⟩) | (go_at_call 39; refine (rname_at HN.out _).mono ?_; rintro e w' ⟨rfl, rfl⟩))
      refine (rtags_any s (by omega) _).mono ?_
      rintro e w1 ⟨v, rfl, hv, hb⟩
      generalize tagsB s = xs at *
      rcases hv with ⟨rfl, a, c, rfl⟩ | ⟨b, c, hbl, hc, rfl, hcell⟩
      · have e : r = true := HR.out.symm
        subst e
        go_wp2
        refine wp_loop_rounds 1 ?_
        rw [rounds_succ]
        go_wp2
        go_ret
        exact ⟨rfl, hb⟩
      · have HC := Lib.hid hcell
        clear hcell
        go_wp2
        go_loopw [4] (fun i wr => ∃ k : Nat, k ≤ xs.length ∧ i = .int .i64 k ∧ Hid (tagsTo xs k = true) ∧ Hid (∀ i x, xs[i]? = some x → wr.cell? ⟨b, i, none⟩ = some (.string x)) ∧ Below w.heap.size w wr) (fun i _ => xs.length - (intOf i).toNat)
        case atStart => exact ⟨0, Nat.zero_le _, rfl, rfl, HC, hb⟩
        case round =>
          clear HC hb
          obtain ⟨k, hk, rfl, HA, HC, hb⟩ := hrel
          by_cases hlt : k < xs.length
          · have c0 := HC.out k xs[k] (List.getElem?_eq_getElem hlt)
            have HS := Lib.hid (tagsTo_succ xs k)
            cases hn : nameB xs[k]
            · have e : r = false := by rw [← HR.out]; exact ris_bad hlt (tag_no_name hlt hn)
              subst e
              have HM := Lib.hid hn
              clear hn
              go_wp2
              go_quiet ((go_at_call 39; exact rname_q HM.out _ _))
              go_wp2
              go_ret
              exact ⟨rfl, below_drewN hb _⟩
            · by_cases h0 : k = 0
              · subst h0
                have HT := Lib.hid (tag_first hlt hn)
                have HM := Lib.hid hn
                clear hn
                go_wp2
                go_quiet ((go_at_call 39; exact rname_q HM.out _ _))
                go_wp2
                go_roundw
                case rel => exact ⟨1, by omega, by go_num, by unfold Hid; rw [HS.out, HA.out, HT.out]; rfl, HC.out, below_drewN hb _⟩
                case measure => simp [intOf]; omega
              · have c1 := HC.out (k - 1) (xs[k - 1]) (List.getElem?_eq_getElem (by omega))
                have ht := tag_next hlt (by omega) hn
                have HM := Lib.hid hn
                clear hn
                have q0 : (0 : Int) ≤ (k : Int) - 1 := by omega
                have q1 : (1 : Int) ≤ (k : Int) := by omega
                have q2 : decide ((0 : Int) < (k : Int)) = true := by simp; omega
                have q3 : decide (0 < k) = true := by simp; omega
                cases t1 : ltB (xs[k - 1]) xs[k]
                · have e : r = false := by rw [← HR.out]; exact ris_bad hlt (ht.trans t1)
                  subst e
                  have u1 : Op.bytesLess (xs[k - 1]).toList (xs[k]).toList = false := t1
                  clear ht t1
                  go_wp2
                  go_quiet ((go_at_call 39; exact rname_q HM.out _ _))
                  go_wp2
                  go_ret
                  exact ⟨rfl, below_drewN hb _⟩
                · have HT := Lib.hid (ht.trans t1)
                  have u1 : Op.bytesLess (xs[k - 1]).toList (xs[k]).toList = true := t1
                  clear ht t1
                  go_wp2
                  go_quiet ((go_at_call 39; exact rname_q HM.out _ _))
                  go_wp2
                  go_roundw
                  case rel => exact ⟨k + 1, by omega, by go_num, by unfold Hid; rw [HS.out, HA.out, HT.out]; rfl, HC.out, below_drewN hb _⟩
                  case measure => simp [intOf]; omega
          · obtain rfl : k = xs.length := by omega
            have e : r = decide ((xs.length : Int) ≤ 8) := by rw [← HR.out, ris_len HA.out]; simp; omega
            have HH := Lib.hid e
            clear e
            go_wp2
            go_ret
            rw [HH.out]
            exact ⟨rfl, hb⟩
end Go.Proofs.YtghnbkkfghfifaaGreatDoor.E
