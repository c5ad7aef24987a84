/- A text parsed: the reference's. -/
import Derived.Test.YthfhfekneahonaaDoorEg
namespace Go.Proofs.YthfhfekneahonaaDoor
open Go.RowKit
set_option linter.unusedVariables false
theorem rparts (s : ByteArray) (hs : s.size ≤ 1000) (w : World) : Calls Tryd.prog 49 #[.string s, .int .u8 32] w fun e w' => ∃ v, e = .returned v ∧ Strs w' v (partsB 32 s) ∧ Below w.heap.size w w' :=
  (parts_any s 32 (by omega) w).mono fun e w' ⟨v, he, ho, hb⟩ => ⟨v, he, Strs.of_own ho, hb⟩
set_option maxRecDepth 100000 in
set_option maxHeartbeats 1000000 in
theorem rparse_few (s : ByteArray) (hs : s.size ≤ 1000) (h : ¬ (partsB 32 s).length = 8) (w : World) :
    Calls Tryd.prog 39 #[.string s] w fun e w' => e = .returned (.tuple #[.agg #[.string ⟨#[]⟩, .int .i64 0, .int .i64 0, .int .i64 0, .string ⟨#[]⟩, .string ⟨#[]⟩, .int .i64 0, .string ⟨#[]⟩], .bool false]) ∧ Below w.heap.size w w' := by
  have S := Lib.hid (rparts s hs)
  have hle := parts_le 32 s.data.toList
  rw [← partsB_length, show s.data.toList.length = s.size by simp] at hle
  have H8 := Lib.hid (And.intro h (And.intro hle hs))
  clear h hle hs
  go_enter Tryd.func39, Tryd.ntmps39
  go_wp2_with fail
  have R0 := EvAt.newZ w
  refine (S.out _).mono ?_
  rintro e w1 ⟨v, rfl, hv, hb⟩
  obtain ⟨q, n, c, rfl, hn, hn9⟩ : ∃ q n c, v = .slice q n c ∧ ((n : Int) == 8) = false ∧ n ≤ 2000 := by
    have h8 := H8.out
    rcases hv with ⟨h0, q, c, rfl⟩ | ⟨b, c, _, _, rfl, _⟩
    · exact ⟨q, 0, c, rfl, rfl, by omega⟩
    · exact ⟨_, _, c, rfl, by rw [beq_eq_false_iff_ne]; omega, by omega⟩
  have hni : (n : Int) ≤ 2000 := by omega
  have R := R0.below hb (by simp)
  have HB := ((Below.refl w.heap.size w).alloc (by simp) (.cells #[.string ⟨#[]⟩, .int .i64 0, .int .i64 0, .int .i64 0, .string ⟨#[]⟩, .string ⟨#[]⟩, .int .i64 0, .string ⟨#[]⟩] 24)).trans (hb.mono (by simp))
  clear hb R0 hv
  obtain ⟨r0, r1, r2, r3, r4, r5, r6, r7⟩ := R.all
  simp only [zeroE] at r0 r1 r2 r3 r4 r5 r6 r7
  obtain ⟨z0, z1, z2, z3, z4, z5, z6, z7⟩ := R.frz
  have hrl := R.lt
  go_wp2_with fail
  have R1 := R.put ⟨#[]⟩ 0 0 0 ⟨#[]⟩ ⟨#[]⟩ 0 ⟨#[]⟩
  have BW := below_put HB (Nat.le_refl _) ⟨#[]⟩ 0 0 0 ⟨#[]⟩ ⟨#[]⟩ 0 ⟨#[]⟩
  clear r0 r1 r2 r3 r4 r5 r6 r7 z0 z1 z2 z3 z4 z5 z6 z7 hrl R HB
  obtain ⟨r0, r1, r2, r3, r4, r5, r6, r7⟩ := R1.all
  simp only at r0 r1 r2 r3 r4 r5 r6 r7
  refine bodyPost_ret (v := .tuple #[.agg #[.string ⟨#[]⟩, .int .i64 0, .int .i64 0, .int .i64 0, .string ⟨#[]⟩, .string ⟨#[]⟩, .int .i64 0, .string ⟨#[]⟩], .bool false]) (by simp [results, Tryd.results39, go_sem, r0, r1, r2, r3, r4, r5, r6, r7]) rfl ⟨rfl, BW⟩
/-- The kind that the search has come to. -/
def kdTo (d : ByteArray) (j : Nat) : Int := if kdOf d < (j : Int) then kdOf d else -1
theorem kdTo_start (d : ByteArray) : kdTo d 0 = -1 := by
  have := (kdOf_bounds d).1
  unfold kdTo
  split
  · omega
  · rfl
theorem kdTo_end (d : ByteArray) : kdTo d 15 = kdOf d := by
  have := (kdOf_bounds d).2
  unfold kdTo
  rw [if_pos (by omega)]
theorem kdTo_hit {d : ByteArray} {j : Nat} (hj : j < 15) (h : bs (kR j).word = d) : kdTo d (j + 1) = (j : Int) := by
  unfold kdTo
  rw [kdOf_yes hj h, if_pos (by omega)]
theorem kdTo_miss {d : ByteArray} {j : Nat} (hj : j < 15) (h : bs (kR j).word ≠ d) : kdTo d (j + 1) = kdTo d j := by
  have hne : kdOf d ≠ (j : Int) := by
    rcases kd_cases d with ⟨k, hk, e⟩ | e
    · rw [kdOf_yes hk e]
      intro e2
      have : k = j := by omega
      subst this
      exact h e
    · rw [kdOf_no e]; omega
  unfold kdTo
  by_cases h1 : kdOf d < (j : Int)
  · rw [if_pos h1, if_pos (by omega)]
  · rw [if_neg h1, if_neg (by omega)]
theorem kdTo_bounds (d : ByteArray) (j : Nat) : -1 ≤ kdTo d j ∧ kdTo d j < 15 := by
  have := kdOf_bounds d
  unfold kdTo
  split <;> omega
set_option maxRecDepth 100000 in
set_option maxHeartbeats 16000000 in
theorem rparse_eight (s a b c d p i v t F : ByteArray) (hs : s.size ≤ 1000) (hw : partsB 32 s = [a, b, c, d, p, i, v, t]) (hb1 : b.size ≤ 1000000) (hc1 : c.size ≤ 1000000) (hv1 : v.size ≤ 1000000) (ht1 : (unpt t).size ≤ 1000000000)
    (md ok : Bool) (hm : mayB ⟨a, numR b, numR c, kdOf d, unpt p, unpt i, numR v, unpt t⟩ = md) (CF : md = true → ∀ w, Lay w → Calls Tryd.prog 38 #[.agg #[.string a, .int .i64 (numR b), .int .i64 (numR c), .int .i64 (kdOf d), .string (unpt p), .string (unpt i), .int .i64 (numR v), .string (unpt t)]] w fun e w' => e = .returned (.string F) ∧ Below w.heap.size w w')
    (hq : md = true → (F.toList == s.toList) = ok) (w : World) (hL : LayE w) :
    Calls Tryd.prog 39 #[.string s] w fun e w' => e = .returned (bif md && ok then .tuple #[.agg #[.string a, .int .i64 (numR b), .int .i64 (numR c), .int .i64 (kdOf d), .string (unpt p), .string (unpt i), .int .i64 (numR v), .string (unpt t)], .bool true] else .tuple #[.agg #[.string ⟨#[]⟩, .int .i64 0, .int .i64 0, .int .i64 0, .string ⟨#[]⟩, .string ⟨#[]⟩, .int .i64 0, .string ⟨#[]⟩], .bool false]) ∧ Below w.heap.size w w' := by
  have S' := rparts s hs
  rw [hw] at S'
  have S := Lib.hid S'
  have HL := Lib.hid hL
  have HCF := Lib.hid CF
  have HQ := Lib.hid hq
  have CM := fun w => rmay_any a (numR b) (numR c) (kdOf d) (unpt p) (unpt i) (numR v) (unpt t) ht1 w
  rw [hm] at CM
  have HM := Lib.hid CM
  have B1 := Lib.hid (And.intro hb1 (And.intro hc1 hv1))
  have k1 := (numR_bounds b)
  have k2 := (numR_bounds c)
  have k3 := (numR_bounds v)
  have NB := Lib.hid (And.intro k1 (And.intro k2 k3))
  clear S' hL hs hw CF hb1 hc1 hv1 hq hm CM ht1 k1 k2 k3
  go_enter Tryd.func39, Tryd.ntmps39
  go_wp2_with fail
  have R0 := EvAt.newZ w
  refine (S.out _).mono ?_
  rintro e w1 ⟨vv, rfl, hv, hb⟩
  obtain ⟨g, cp, rfl, hg, hcs⟩ : ∃ g c', vv = .slice (some ⟨g, 0, none⟩) 8 c' ∧ g < w1.heap.size ∧ ∀ (j : Nat) x, [a, b, c, d, p, i, v, t][j]? = some x → w1.cell? ⟨g, j, none⟩ = some (.string x) := by
    rcases hv with ⟨h0, _⟩ | ⟨g, c', hg, _, rfl, hc⟩
    · cases h0
    · exact ⟨g, c', rfl, hg, hc⟩
  have M : PP w g a b c d p i v t w1 := ⟨R0.below hb (by simp), hg, hcs, (HL.out.alloc _).next hb, ((Below.refl w.heap.size w).alloc (by simp) (.cells #[.string ⟨#[]⟩, .int .i64 0, .int .i64 0, .int .i64 0, .string ⟨#[]⟩, .string ⟨#[]⟩, .int .i64 0, .string ⟨#[]⟩] 24)).trans (hb.mono (by simp))⟩
  clear hb R0 hcs hg hv
  have M := Lib.hid M
  go_wp2_with fail
  go_loopw [5, 6] (fun vk vi wr => ∃ (j : Nat), j ≤ 15 ∧ vi = .int .i64 j ∧ vk = .int .i64 (kdTo d j) ∧ Hid (PP w g a b c d p i v t wr)) (fun _ vi _ => 15 - (intOf vi).toNat)
  case atStart => exact ⟨0, by omega, rfl, by rw [kdTo_start], M⟩
  case round =>
    clear M
    obtain ⟨j, hj, rfl, rfl, M⟩ := hrel
    obtain ⟨kb1, kb2⟩ := kdTo_bounds d j
    by_cases hlt : j < 15
    · have hltz : (j : Int) < 15 := by omega
      have hj0 : (0 : Int) ≤ (j : Int) := by omega
      obtain ⟨bq, hbq⟩ : ∃ bq, ((bs (kR j).word).toList == d.toList) = bq := ⟨_, rfl⟩
      have HBQ := Lib.hid hbq
      obtain ⟨K, hK⟩ : ∃ K, bs (kR j).word = K := ⟨_, rfl⟩
      rw [hK] at hbq
      have HK := Lib.hid hK
      have HNX : Hid (kdTo d (j + 1) = bif bq then (j : Int) else kdTo d j) := by
        have h0 := HBQ.out
        rw [eqB] at h0
        cases bq
        · exact kdTo_miss hlt (by simpa using h0)
        · exact kdTo_hit hlt (by simpa using h0)
      clear hK
      have H0 := M.out.out
      go_wp2_with fail
      refine wp_region_held_drew (S := (fun wx => (wx.cell? ⟨g, 0, none⟩ = some (.string a) ∧ wx.cell? ⟨g, 1, none⟩ = some (.string b) ∧ wx.cell? ⟨g, 2, none⟩ = some (.string c) ∧ wx.cell? ⟨g, 3, none⟩ = some (.string d) ∧ wx.cell? ⟨g, 4, none⟩ = some (.string p) ∧ wx.cell? ⟨g, 5, none⟩ = some (.string i) ∧ wx.cell? ⟨g, 6, none⟩ = some (.string v) ∧ wx.cell? ⟨g, 7, none⟩ = some (.string t) ∧ g < wx.heap.size ∧ w.heap.size < wx.heap.size) ∧ PP w g a b c d p i v t wx)) (by kernel_rfl) (PP.out M.out.drew) (fun hH => ?_)
      have M := Lib.hid M.out.drew
      clear H0
      generalize wr.drew = wq0 at M hH ⊢
      refine wpAnyH_take (i := 1) (v := ?_) rfl (by kernel_rfl) (by kernel_rfl) (by kernel_rfl) (fun _ _ _ h => h) (Or.inl ⟨by rfl, ?_⟩) (by assumption) ?_
      rotate_left
      · intro w hSw
        (try dsimp only at hSw)
        go_simp
        (try with_reducible rfl)
      (try simp only [Act.put, List.setIfInBounds_toArray])
      refine wpAnyH_take (i := 4) (v := ?_) rfl (by kernel_rfl) (by kernel_rfl) (by kernel_rfl) (fun _ _ _ h => h) (Or.inl ⟨by rfl, ?_⟩) (by assumption) ?_
      rotate_left
      · intro w hSw
        (try dsimp only at hSw)
        go_simp
        (try with_reducible rfl)
      (try simp only [Act.put])
      refine wpAnyH_take (i := 5) (v := ?_) rfl (by kernel_rfl) (by kernel_rfl) (by kernel_rfl) (fun _ _ _ h => h) (Or.inl ⟨by rfl, ?_⟩) (by assumption) ?_
      rotate_left
      · intro w hSw
        (try dsimp only at hSw)
        go_simp
        (try with_reducible rfl)
      (try simp only [Act.put])
      refine wpAnyH_take (i := 6) (v := ?_) rfl (by kernel_rfl) (by kernel_rfl) (by kernel_rfl) (fun _ _ _ h => h) (Or.inl ⟨by rfl, ?_⟩) (by assumption) ?_
      rotate_left
      · intro w hSw
        (try dsimp only at hSw)
        go_simp
        (try with_reducible rfl)
      (try simp only [Act.put])
      refine wpAnyH_ready (rs := [0]) (by kernel_rfl) (by simp) ?_
      refine AllReadyH.cons rfl (fun K' hK' => ?_) AllReadyH.nil
      go_simp
      refine (kinds_any j hlt _).mono ?_
      rintro e w9 ⟨g9, rfl, hd, hb⟩
      have M := Lib.hid (M.out.below hb)
      have KD := Lib.hid hd
      clear hd hb
      (try go_wp2_with fail)
      refine hK'.out _ _ (PP.out M.out) (fun hH0 => ?_)
      clear hK' K'
      (try simp only [Act.put, List.setIfInBounds_toArray, List.set_cons_zero, List.set_cons_succ])
      refine wpAnyH_to (S' := (fun wx => ((wx.cell? ⟨g, 0, none⟩ = some (.string a) ∧ wx.cell? ⟨g, 1, none⟩ = some (.string b) ∧ wx.cell? ⟨g, 2, none⟩ = some (.string c) ∧ wx.cell? ⟨g, 3, none⟩ = some (.string d) ∧ wx.cell? ⟨g, 4, none⟩ = some (.string p) ∧ wx.cell? ⟨g, 5, none⟩ = some (.string i) ∧ wx.cell? ⟨g, 6, none⟩ = some (.string v) ∧ wx.cell? ⟨g, 7, none⟩ = some (.string t) ∧ g < wx.heap.size ∧ w.heap.size < wx.heap.size) ∧ PP w g a b c d p i v t wx) ∧ wx.cell? ⟨g9, j, none⟩ = some (.string K) ∧ g9 < wx.heap.size)) (fun w h => h.1) _ _ _ _ ?_
      have hH : (fun wx => ((wx.cell? ⟨g, 0, none⟩ = some (.string a) ∧ wx.cell? ⟨g, 1, none⟩ = some (.string b) ∧ wx.cell? ⟨g, 2, none⟩ = some (.string c) ∧ wx.cell? ⟨g, 3, none⟩ = some (.string d) ∧ wx.cell? ⟨g, 4, none⟩ = some (.string p) ∧ wx.cell? ⟨g, 5, none⟩ = some (.string i) ∧ wx.cell? ⟨g, 6, none⟩ = some (.string v) ∧ wx.cell? ⟨g, 7, none⟩ = some (.string t) ∧ g < wx.heap.size ∧ w.heap.size < wx.heap.size) ∧ PP w g a b c d p i v t wx) ∧ wx.cell? ⟨g9, j, none⟩ = some (.string K) ∧ g9 < wx.heap.size) w9 := ⟨hH0, KD.out.get HK.out⟩
      refine wpAnyH_take (i := 2) (v := ?_) rfl (by kernel_rfl) (by kernel_rfl) (by kernel_rfl) (fun _ _ _ h => h) (Or.inl ⟨by rfl, ?_⟩) (by assumption) ?_
      rotate_left
      · intro w hSw
        (try dsimp only at hSw)
        go_simp
        (try with_reducible rfl)
      (try simp only [Act.put, List.setIfInBounds_toArray])
      refine wpAnyH_take (i := 3) (v := ?_) rfl (by kernel_rfl) (by kernel_rfl) (by kernel_rfl) (fun _ _ _ h => h) (Or.inl ⟨by rfl, ?_⟩) (by assumption) ?_
      rotate_left
      · intro w hSw
        (try dsimp only at hSw)
        go_simp
        (try with_reducible rfl)
      (try simp only [Act.put])
      refine wpAnyH_take (i := 7) (v := ?_) rfl (by kernel_rfl) (by kernel_rfl) (by kernel_rfl) (fun _ _ _ h => h) (Or.inl ⟨by rfl, ?_⟩) (by assumption) ?_
      rotate_left
      · intro w hSw
        (try dsimp only at hSw)
        go_simp
        (try with_reducible rfl)
      (try simp only [Act.put])
      refine wpAnyH_done (by kernel_rfl) ?_ _
      clear hH0 hH
      cases bq
      · go_wp2_with fail
        go_roundw
        case rel => exact ⟨j + 1, by omega, by go_num, by rw [HNX.out]; rfl, M⟩
        case measure => simp [intOf]; omega
      · go_wp2_with fail
        go_roundw
        case rel => exact ⟨j + 1, by omega, by go_num, by rw [HNX.out]; rfl, M⟩
        case measure => simp [intOf]; omega
    · have hltz : ¬ (j : Int) < 15 := by omega
      obtain rfl : j = 15 := by omega
      clear hlt hltz hj
      have ke : kdTo d 15 = kdOf d := kdTo_end d
      rw [ke] at kb1 kb2 ⊢
      clear ke
      have H0 := M.out.out
      go_upto_region 10 with fail
      go_cut [7] (fun s7 wx => ∃ g5, s7 = .pointer (some ⟨g5, 0, none⟩) ∧ PE w g5 ⟨a, numR b, numR c, kdOf d, unpt p, unpt i, numR v, unpt t⟩ wx)
      case first =>
        refine wp_region_held_drew (S := (fun wx => (wx.cell? ⟨g, 0, none⟩ = some (.string a) ∧ wx.cell? ⟨g, 1, none⟩ = some (.string b) ∧ wx.cell? ⟨g, 2, none⟩ = some (.string c) ∧ wx.cell? ⟨g, 3, none⟩ = some (.string d) ∧ wx.cell? ⟨g, 4, none⟩ = some (.string p) ∧ wx.cell? ⟨g, 5, none⟩ = some (.string i) ∧ wx.cell? ⟨g, 6, none⟩ = some (.string v) ∧ wx.cell? ⟨g, 7, none⟩ = some (.string t) ∧ g < wx.heap.size ∧ w.heap.size < wx.heap.size) ∧ PP w g a b c d p i v t wx)) (by kernel_rfl) (PP.out M.out.drew) (fun hH => ?_)
        have HZ := Lib.hid HL.out.lay.sz
        have M := Lib.hid M.out.drew
        clear H0
        generalize wr.drew = wq0 at M hH ⊢
        refine wpAnyH_take (i := 0) (v := ?_) rfl (by kernel_rfl) (by kernel_rfl) (by kernel_rfl) (fun _ _ _ h => h) (Or.inl ⟨by rfl, ?_⟩) (by assumption) ?_
        rotate_left
        · intro w hSw
          (try dsimp only at hSw)
          go_simp
          (try with_reducible rfl)
        (try simp only [Act.put, List.setIfInBounds_toArray])
        refine wpAnyH_take (i := 1) (v := ?_) rfl (by kernel_rfl) (by kernel_rfl) (by kernel_rfl) (fun _ _ _ h => h) (Or.inl ⟨by rfl, ?_⟩) (by assumption) ?_
        rotate_left
        · intro w hSw
          (try dsimp only at hSw)
          go_simp
          (try with_reducible rfl)
        (try simp only [Act.put])
        refine wpAnyH_take (i := 2) (v := ?_) rfl (by kernel_rfl) (by kernel_rfl) (by kernel_rfl) (fun _ _ _ h => h) (Or.inl ⟨by rfl, ?_⟩) (by assumption) ?_
        rotate_left
        · intro w hSw
          (try dsimp only at hSw)
          go_simp
          (try with_reducible rfl)
        (try simp only [Act.put])
        refine wpAnyH_take (i := 3) (v := ?_) rfl (by kernel_rfl) (by kernel_rfl) (by kernel_rfl) (fun _ _ _ h => h) (Or.inl ⟨by rfl, ?_⟩) (by assumption) ?_
        rotate_left
        · intro w hSw
          (try dsimp only at hSw)
          go_simp
          (try with_reducible rfl)
        (try simp only [Act.put])
        refine wpAnyH_take (i := 4) (v := ?_) rfl (by kernel_rfl) (by kernel_rfl) (by kernel_rfl) (fun _ _ _ h => h) (Or.inl ⟨by rfl, ?_⟩) (by assumption) ?_
        rotate_left
        · intro w hSw
          (try dsimp only at hSw)
          go_simp
          (try with_reducible rfl)
        (try simp only [Act.put])
        refine wpAnyH_take (i := 5) (v := ?_) rfl (by kernel_rfl) (by kernel_rfl) (by kernel_rfl) (fun _ _ _ h => h) (Or.inl ⟨by rfl, ?_⟩) (by assumption) ?_
        rotate_left
        · intro w hSw
          (try dsimp only at hSw)
          go_simp
          (try with_reducible rfl)
        (try simp only [Act.put])
        refine wpAnyH_take (i := 7) (v := ?_) rfl (by kernel_rfl) (by kernel_rfl) (by kernel_rfl) (fun _ _ _ h => h) (Or.inl ⟨by rfl, ?_⟩) (by assumption) ?_
        rotate_left
        · intro w hSw
          (try dsimp only at hSw)
          go_simp
          (try with_reducible rfl)
        (try simp only [Act.put])
        refine wpAnyH_take (i := 8) (v := ?_) rfl (by kernel_rfl) (by kernel_rfl) (by kernel_rfl) (fun _ _ _ h => h) (Or.inl ⟨by rfl, ?_⟩) (by assumption) ?_
        rotate_left
        · intro w hSw
          (try dsimp only at hSw)
          go_simp
          (try with_reducible rfl)
        (try simp only [Act.put])
        refine wpAnyH_take (i := 9) (v := ?_) rfl (by kernel_rfl) (by kernel_rfl) (by kernel_rfl) (fun _ _ _ h => h) (Or.inl ⟨by rfl, ?_⟩) (by assumption) ?_
        rotate_left
        · intro w hSw
          (try dsimp only at hSw)
          go_simp
          (try with_reducible rfl)
        (try simp only [Act.put])
        refine wpAnyH_take (i := 11) (v := ?_) rfl (by kernel_rfl) (by kernel_rfl) (by kernel_rfl) (fun _ _ _ h => h) (Or.inl ⟨by rfl, ?_⟩) (by assumption) ?_
        rotate_left
        · intro w hSw
          (try dsimp only at hSw)
          go_simp
          (try with_reducible rfl)
        (try simp only [Act.put])
        refine wpAnyH_take (i := 12) (v := ?_) rfl (by kernel_rfl) (by kernel_rfl) (by kernel_rfl) (fun _ _ _ h => h) (Or.inl ⟨by rfl, ?_⟩) (by assumption) ?_
        rotate_left
        · intro w hSw
          (try dsimp only at hSw)
          go_simp
          (try with_reducible rfl)
        (try simp only [Act.put])
        refine wpAnyH_take (i := 13) (v := ?_) rfl (by kernel_rfl) (by kernel_rfl) (by kernel_rfl) (fun _ _ _ h => h) (Or.inl ⟨by rfl, ?_⟩) (by assumption) ?_
        rotate_left
        · intro w hSw
          (try dsimp only at hSw)
          go_simp
          (try with_reducible rfl)
        (try simp only [Act.put])
        refine wpAnyH_take (i := 14) (v := ?_) rfl (by kernel_rfl) (by kernel_rfl) (by kernel_rfl) (fun _ _ _ h => h) (Or.inl ⟨by rfl, ?_⟩) (by assumption) ?_
        rotate_left
        · intro w hSw
          (try dsimp only at hSw)
          go_simp
          (try with_reducible rfl)
        (try simp only [Act.put])
        refine wpAnyH_take (i := 16) (v := ?_) rfl (by kernel_rfl) (by kernel_rfl) (by kernel_rfl) (fun _ _ _ h => h) (Or.inl ⟨by rfl, ?_⟩) (by assumption) ?_
        rotate_left
        · intro w hSw
          (try dsimp only at hSw)
          go_simp
          (try with_reducible rfl)
        (try simp only [Act.put])
        refine wpAnyH_take (i := 17) (v := ?_) rfl (by kernel_rfl) (by kernel_rfl) (by kernel_rfl) (fun _ _ _ h => h) (Or.inl ⟨by rfl, ?_⟩) (by assumption) ?_
        rotate_left
        · intro w hSw
          (try dsimp only at hSw)
          go_simp
          (try with_reducible rfl)
        (try simp only [Act.put])
        refine wpAnyH_take (i := 18) (v := ?_) rfl (by kernel_rfl) (by kernel_rfl) (by kernel_rfl) (fun _ _ _ h => h) (Or.inl ⟨by rfl, ?_⟩) (by assumption) ?_
        rotate_left
        · intro w hSw
          (try dsimp only at hSw)
          go_simp
          (try with_reducible rfl)
        (try simp only [Act.put])
        refine wpAnyH_take (i := 20) (v := ?_) rfl (by kernel_rfl) (by kernel_rfl) (by kernel_rfl) (fun _ _ _ h => h) (Or.inl ⟨by rfl, ?_⟩) (by assumption) ?_
        rotate_left
        · intro w hSw
          (try dsimp only at hSw)
          go_simp
          (try with_reducible rfl)
        (try simp only [Act.put])
        refine wpAnyH_take (i := 21) (v := ?_) rfl (by kernel_rfl) (by kernel_rfl) (by kernel_rfl) (fun _ _ _ h => h) (Or.inl ⟨by rfl, ?_⟩) (by assumption) ?_
        rotate_left
        · intro w hSw
          (try dsimp only at hSw)
          go_simp
          (try with_reducible rfl)
        (try simp only [Act.put])
        refine wpAnyH_take (i := 22) (v := ?_) rfl (by kernel_rfl) (by kernel_rfl) (by kernel_rfl) (fun _ _ _ h => h) (Or.inl ⟨by rfl, ?_⟩) (by assumption) ?_
        rotate_left
        · intro w hSw
          (try dsimp only at hSw)
          go_simp
          (try with_reducible rfl)
        (try simp only [Act.put])
        refine wpAnyH_take (i := 24) (v := ?_) rfl (by kernel_rfl) (by kernel_rfl) (by kernel_rfl) (fun _ _ _ h => h) (Or.inl ⟨by rfl, ?_⟩) (by assumption) ?_
        rotate_left
        · intro w hSw
          (try dsimp only at hSw)
          go_simp
          (try with_reducible rfl)
        (try simp only [Act.put])
        refine wpAnyH_take (i := 25) (v := ?_) rfl (by kernel_rfl) (by kernel_rfl) (by kernel_rfl) (fun _ _ _ h => h) (Or.inl ⟨by rfl, ?_⟩) (by assumption) ?_
        rotate_left
        · intro w hSw
          (try dsimp only at hSw)
          go_simp
          (try with_reducible rfl)
        (try simp only [Act.put])
        refine wpAnyH_take (i := 26) (v := ?_) rfl (by kernel_rfl) (by kernel_rfl) (by kernel_rfl) (fun _ _ _ h => h) (Or.inl ⟨by rfl, ?_⟩) (by assumption) ?_
        rotate_left
        · intro w hSw
          (try dsimp only at hSw)
          go_simp
          (try with_reducible rfl)
        (try simp only [Act.put])
        refine wpAnyH_ready (rs := [6, 29]) (by kernel_rfl) (by simp) ?_
        refine AllReadyH.cons rfl (fun K hK => ?_) (AllReadyH.cons rfl (fun K hK => ?_) AllReadyH.nil)
        rotate_left
        · go_simp
          refine hK.out _ _ (PP.out (M.out.alloc _)) (fun hH => ?_)
          clear hK K
          (try simp only [Act.put, List.setIfInBounds_toArray, List.set_cons_zero, List.set_cons_succ])
          have N := Lib.hid (EvAt.newZ wq0)
          have G := Lib.hid (And.intro M.out.lt (And.intro M.out.ev.lt HZ.out))
          have M := Lib.hid (M.out.alloc (.cells #[.string ⟨#[]⟩, .int .i64 0, .int .i64 0, .int .i64 0, .string ⟨#[]⟩, .string ⟨#[]⟩, .int .i64 0, .string ⟨#[]⟩] 24))
          generalize wq0.alloc _ = wq1 at N M hH ⊢
          generalize wq0.heap.size = g5 at N G ⊢
          refine wpAnyH_ready (rs := [6]) (by kernel_rfl) (by simp) ?_
          refine AllReadyH.cons rfl (fun K hK => ?_) AllReadyH.nil
          go_simp
          refine (read_any _ B1.out.1 _).mono ?_
          rintro e w9 ⟨rfl, rfl⟩
          (try go_wp2_with fail)
          refine hK.out _ _ (PP.out M.out) (fun hH => ?_)
          clear hK K
          (try simp only [Act.put, List.setIfInBounds_toArray, List.set_cons_zero, List.set_cons_succ])
          refine wpAnyH_ready (rs := [10]) (by kernel_rfl) (by simp) ?_
          refine AllReadyH.cons rfl (fun K hK => ?_) AllReadyH.nil
          go_simp
          refine (read_any _ B1.out.2.1 _).mono ?_
          rintro e w9 ⟨rfl, rfl⟩
          (try go_wp2_with fail)
          refine hK.out _ _ (PP.out M.out) (fun hH => ?_)
          clear hK K
          (try simp only [Act.put, List.setIfInBounds_toArray, List.set_cons_zero, List.set_cons_succ])
          refine wpAnyH_ready (rs := [15]) (by kernel_rfl) (by simp) ?_
          refine AllReadyH.cons rfl (fun K hK => ?_) AllReadyH.nil
          go_simp
          refine (unpt_ref _ _).mono ?_
          rintro e w9 ⟨rfl, rfl⟩
          (try go_wp2_with fail)
          refine hK.out _ _ (PP.out M.out) (fun hH => ?_)
          clear hK K
          (try simp only [Act.put, List.setIfInBounds_toArray, List.set_cons_zero, List.set_cons_succ])
          refine wpAnyH_ready (rs := [19]) (by kernel_rfl) (by simp) ?_
          refine AllReadyH.cons rfl (fun K hK => ?_) AllReadyH.nil
          go_simp
          refine (unpt_ref _ _).mono ?_
          rintro e w9 ⟨rfl, rfl⟩
          (try go_wp2_with fail)
          refine hK.out _ _ (PP.out M.out) (fun hH => ?_)
          clear hK K
          (try simp only [Act.put, List.setIfInBounds_toArray, List.set_cons_zero, List.set_cons_succ])
          refine wpAnyH_ready (rs := [23]) (by kernel_rfl) (by simp) ?_
          refine AllReadyH.cons rfl (fun K hK => ?_) AllReadyH.nil
          go_simp
          refine (read_any _ B1.out.2.2 _).mono ?_
          rintro e w9 ⟨rfl, rfl⟩
          (try go_wp2_with fail)
          refine hK.out _ _ (PP.out M.out) (fun hH => ?_)
          clear hK K
          (try simp only [Act.put, List.setIfInBounds_toArray, List.set_cons_zero, List.set_cons_succ])
          refine wpAnyH_ready (rs := [27]) (by kernel_rfl) (by simp) ?_
          refine AllReadyH.cons rfl (fun K hK => ?_) AllReadyH.nil
          go_simp
          refine (unpt_ref _ _).mono ?_
          rintro e w9 ⟨rfl, rfl⟩
          (try go_wp2_with fail)
          refine hK.out _ _ (PP.out M.out) (fun hH => ?_)
          clear hK K
          (try simp only [Act.put, List.setIfInBounds_toArray, List.set_cons_zero, List.set_cons_succ])
          refine wpAnyH_take (i := 28) (v := ?_) rfl (by kernel_rfl) (by kernel_rfl) (by kernel_rfl) (fun _ _ _ h => h) (Or.inl ⟨by rfl, ?_⟩) (by assumption) ?_
          rotate_left
          · intro w hSw
            (try dsimp only at hSw)
            go_simp
            (try with_reducible rfl)
          (try simp only [Act.put, List.setIfInBounds_toArray])
          obtain ⟨n0, n1, n2, n3, n4, n5, n6, n7⟩ := N.out.all
          simp only [zeroE] at n0 n1 n2 n3 n4 n5 n6 n7
          obtain ⟨y0, y1, y2, y3, y4, y5, y6, y7⟩ := N.out.frz
          have hnl := N.out.lt
          refine wpAnyH_ready (rs := [30]) (by kernel_rfl) (by simp) ?_
          refine AllReadyH.cons rfl (fun K hK => ?_) AllReadyH.nil
          go_simp
          refine hK.out _ _ (PP.out (M.out.put G.out.1 G.out.2.1 G.out.2.2 a (numR b) (numR c) (kdOf d) (unpt p) (unpt i) (numR v) (unpt t))) (fun hH => ?_)
          clear hK K hH n0 n1 n2 n3 n4 n5 n6 n7 y0 y1 y2 y3 y4 y5 y6 y7 hnl
          (try simp only [Act.put, List.setIfInBounds_toArray, List.set_cons_zero, List.set_cons_succ])
          refine wpAnyH_done (by kernel_rfl) ?_ _
          go_wp2_with fail
          go_meet
          exact ⟨g5, rfl, PE.of M.out N.out G.out.1 G.out.2.1 G.out.2.2 a (numR b) (numR c) (kdOf d) (unpt p) (unpt i) (numR v) (unpt t)⟩
        go_simp
        refine (read_any _ B1.out.1 _).mono ?_
        rintro e w9 ⟨rfl, rfl⟩
        (try go_wp2_with fail)
        refine hK.out _ _ (PP.out M.out) (fun hH => ?_)
        clear hK K
        (try simp only [Act.put, List.setIfInBounds_toArray, List.set_cons_zero, List.set_cons_succ])
        refine wpAnyH_ready (rs := [10, 29]) (by kernel_rfl) (by simp) ?_
        refine AllReadyH.cons rfl (fun K hK => ?_) (AllReadyH.cons rfl (fun K hK => ?_) AllReadyH.nil)
        rotate_left
        · go_simp
          refine hK.out _ _ (PP.out (M.out.alloc _)) (fun hH => ?_)
          clear hK K
          (try simp only [Act.put, List.setIfInBounds_toArray, List.set_cons_zero, List.set_cons_succ])
          have N := Lib.hid (EvAt.newZ wq0)
          have G := Lib.hid (And.intro M.out.lt (And.intro M.out.ev.lt HZ.out))
          have M := Lib.hid (M.out.alloc (.cells #[.string ⟨#[]⟩, .int .i64 0, .int .i64 0, .int .i64 0, .string ⟨#[]⟩, .string ⟨#[]⟩, .int .i64 0, .string ⟨#[]⟩] 24))
          generalize wq0.alloc _ = wq2 at N M hH ⊢
          generalize wq0.heap.size = g5 at N G ⊢
          refine wpAnyH_ready (rs := [10]) (by kernel_rfl) (by simp) ?_
          refine AllReadyH.cons rfl (fun K hK => ?_) AllReadyH.nil
          go_simp
          refine (read_any _ B1.out.2.1 _).mono ?_
          rintro e w9 ⟨rfl, rfl⟩
          (try go_wp2_with fail)
          refine hK.out _ _ (PP.out M.out) (fun hH => ?_)
          clear hK K
          (try simp only [Act.put, List.setIfInBounds_toArray, List.set_cons_zero, List.set_cons_succ])
          refine wpAnyH_ready (rs := [15]) (by kernel_rfl) (by simp) ?_
          refine AllReadyH.cons rfl (fun K hK => ?_) AllReadyH.nil
          go_simp
          refine (unpt_ref _ _).mono ?_
          rintro e w9 ⟨rfl, rfl⟩
          (try go_wp2_with fail)
          refine hK.out _ _ (PP.out M.out) (fun hH => ?_)
          clear hK K
          (try simp only [Act.put, List.setIfInBounds_toArray, List.set_cons_zero, List.set_cons_succ])
          refine wpAnyH_ready (rs := [19]) (by kernel_rfl) (by simp) ?_
          refine AllReadyH.cons rfl (fun K hK => ?_) AllReadyH.nil
          go_simp
          refine (unpt_ref _ _).mono ?_
          rintro e w9 ⟨rfl, rfl⟩
          (try go_wp2_with fail)
          refine hK.out _ _ (PP.out M.out) (fun hH => ?_)
          clear hK K
          (try simp only [Act.put, List.setIfInBounds_toArray, List.set_cons_zero, List.set_cons_succ])
          refine wpAnyH_ready (rs := [23]) (by kernel_rfl) (by simp) ?_
          refine AllReadyH.cons rfl (fun K hK => ?_) AllReadyH.nil
          go_simp
          refine (read_any _ B1.out.2.2 _).mono ?_
          rintro e w9 ⟨rfl, rfl⟩
          (try go_wp2_with fail)
          refine hK.out _ _ (PP.out M.out) (fun hH => ?_)
          clear hK K
          (try simp only [Act.put, List.setIfInBounds_toArray, List.set_cons_zero, List.set_cons_succ])
          refine wpAnyH_ready (rs := [27]) (by kernel_rfl) (by simp) ?_
          refine AllReadyH.cons rfl (fun K hK => ?_) AllReadyH.nil
          go_simp
          refine (unpt_ref _ _).mono ?_
          rintro e w9 ⟨rfl, rfl⟩
          (try go_wp2_with fail)
          refine hK.out _ _ (PP.out M.out) (fun hH => ?_)
          clear hK K
          (try simp only [Act.put, List.setIfInBounds_toArray, List.set_cons_zero, List.set_cons_succ])
          refine wpAnyH_take (i := 28) (v := ?_) rfl (by kernel_rfl) (by kernel_rfl) (by kernel_rfl) (fun _ _ _ h => h) (Or.inl ⟨by rfl, ?_⟩) (by assumption) ?_
          rotate_left
          · intro w hSw
            (try dsimp only at hSw)
            go_simp
            (try with_reducible rfl)
          (try simp only [Act.put, List.setIfInBounds_toArray])
          obtain ⟨n0, n1, n2, n3, n4, n5, n6, n7⟩ := N.out.all
          simp only [zeroE] at n0 n1 n2 n3 n4 n5 n6 n7
          obtain ⟨y0, y1, y2, y3, y4, y5, y6, y7⟩ := N.out.frz
          have hnl := N.out.lt
          refine wpAnyH_ready (rs := [30]) (by kernel_rfl) (by simp) ?_
          refine AllReadyH.cons rfl (fun K hK => ?_) AllReadyH.nil
          go_simp
          refine hK.out _ _ (PP.out (M.out.put G.out.1 G.out.2.1 G.out.2.2 a (numR b) (numR c) (kdOf d) (unpt p) (unpt i) (numR v) (unpt t))) (fun hH => ?_)
          clear hK K hH n0 n1 n2 n3 n4 n5 n6 n7 y0 y1 y2 y3 y4 y5 y6 y7 hnl
          (try simp only [Act.put, List.setIfInBounds_toArray, List.set_cons_zero, List.set_cons_succ])
          refine wpAnyH_done (by kernel_rfl) ?_ _
          go_wp2_with fail
          go_meet
          exact ⟨g5, rfl, PE.of M.out N.out G.out.1 G.out.2.1 G.out.2.2 a (numR b) (numR c) (kdOf d) (unpt p) (unpt i) (numR v) (unpt t)⟩
        go_simp
        refine (read_any _ B1.out.2.1 _).mono ?_
        rintro e w9 ⟨rfl, rfl⟩
        (try go_wp2_with fail)
        refine hK.out _ _ (PP.out M.out) (fun hH => ?_)
        clear hK K
        (try simp only [Act.put, List.setIfInBounds_toArray, List.set_cons_zero, List.set_cons_succ])
        refine wpAnyH_ready (rs := [15, 29]) (by kernel_rfl) (by simp) ?_
        refine AllReadyH.cons rfl (fun K hK => ?_) (AllReadyH.cons rfl (fun K hK => ?_) AllReadyH.nil)
        rotate_left
        · go_simp
          refine hK.out _ _ (PP.out (M.out.alloc _)) (fun hH => ?_)
          clear hK K
          (try simp only [Act.put, List.setIfInBounds_toArray, List.set_cons_zero, List.set_cons_succ])
          have N := Lib.hid (EvAt.newZ wq0)
          have G := Lib.hid (And.intro M.out.lt (And.intro M.out.ev.lt HZ.out))
          have M := Lib.hid (M.out.alloc (.cells #[.string ⟨#[]⟩, .int .i64 0, .int .i64 0, .int .i64 0, .string ⟨#[]⟩, .string ⟨#[]⟩, .int .i64 0, .string ⟨#[]⟩] 24))
          generalize wq0.alloc _ = wq3 at N M hH ⊢
          generalize wq0.heap.size = g5 at N G ⊢
          refine wpAnyH_ready (rs := [15]) (by kernel_rfl) (by simp) ?_
          refine AllReadyH.cons rfl (fun K hK => ?_) AllReadyH.nil
          go_simp
          refine (unpt_ref _ _).mono ?_
          rintro e w9 ⟨rfl, rfl⟩
          (try go_wp2_with fail)
          refine hK.out _ _ (PP.out M.out) (fun hH => ?_)
          clear hK K
          (try simp only [Act.put, List.setIfInBounds_toArray, List.set_cons_zero, List.set_cons_succ])
          refine wpAnyH_ready (rs := [19]) (by kernel_rfl) (by simp) ?_
          refine AllReadyH.cons rfl (fun K hK => ?_) AllReadyH.nil
          go_simp
          refine (unpt_ref _ _).mono ?_
          rintro e w9 ⟨rfl, rfl⟩
          (try go_wp2_with fail)
          refine hK.out _ _ (PP.out M.out) (fun hH => ?_)
          clear hK K
          (try simp only [Act.put, List.setIfInBounds_toArray, List.set_cons_zero, List.set_cons_succ])
          refine wpAnyH_ready (rs := [23]) (by kernel_rfl) (by simp) ?_
          refine AllReadyH.cons rfl (fun K hK => ?_) AllReadyH.nil
          go_simp
          refine (read_any _ B1.out.2.2 _).mono ?_
          rintro e w9 ⟨rfl, rfl⟩
          (try go_wp2_with fail)
          refine hK.out _ _ (PP.out M.out) (fun hH => ?_)
          clear hK K
          (try simp only [Act.put, List.setIfInBounds_toArray, List.set_cons_zero, List.set_cons_succ])
          refine wpAnyH_ready (rs := [27]) (by kernel_rfl) (by simp) ?_
          refine AllReadyH.cons rfl (fun K hK => ?_) AllReadyH.nil
          go_simp
          refine (unpt_ref _ _).mono ?_
          rintro e w9 ⟨rfl, rfl⟩
          (try go_wp2_with fail)
          refine hK.out _ _ (PP.out M.out) (fun hH => ?_)
          clear hK K
          (try simp only [Act.put, List.setIfInBounds_toArray, List.set_cons_zero, List.set_cons_succ])
          refine wpAnyH_take (i := 28) (v := ?_) rfl (by kernel_rfl) (by kernel_rfl) (by kernel_rfl) (fun _ _ _ h => h) (Or.inl ⟨by rfl, ?_⟩) (by assumption) ?_
          rotate_left
          · intro w hSw
            (try dsimp only at hSw)
            go_simp
            (try with_reducible rfl)
          (try simp only [Act.put, List.setIfInBounds_toArray])
          obtain ⟨n0, n1, n2, n3, n4, n5, n6, n7⟩ := N.out.all
          simp only [zeroE] at n0 n1 n2 n3 n4 n5 n6 n7
          obtain ⟨y0, y1, y2, y3, y4, y5, y6, y7⟩ := N.out.frz
          have hnl := N.out.lt
          refine wpAnyH_ready (rs := [30]) (by kernel_rfl) (by simp) ?_
          refine AllReadyH.cons rfl (fun K hK => ?_) AllReadyH.nil
          go_simp
          refine hK.out _ _ (PP.out (M.out.put G.out.1 G.out.2.1 G.out.2.2 a (numR b) (numR c) (kdOf d) (unpt p) (unpt i) (numR v) (unpt t))) (fun hH => ?_)
          clear hK K hH n0 n1 n2 n3 n4 n5 n6 n7 y0 y1 y2 y3 y4 y5 y6 y7 hnl
          (try simp only [Act.put, List.setIfInBounds_toArray, List.set_cons_zero, List.set_cons_succ])
          refine wpAnyH_done (by kernel_rfl) ?_ _
          go_wp2_with fail
          go_meet
          exact ⟨g5, rfl, PE.of M.out N.out G.out.1 G.out.2.1 G.out.2.2 a (numR b) (numR c) (kdOf d) (unpt p) (unpt i) (numR v) (unpt t)⟩
        go_simp
        refine (unpt_ref _ _).mono ?_
        rintro e w9 ⟨rfl, rfl⟩
        (try go_wp2_with fail)
        refine hK.out _ _ (PP.out M.out) (fun hH => ?_)
        clear hK K
        (try simp only [Act.put, List.setIfInBounds_toArray, List.set_cons_zero, List.set_cons_succ])
        refine wpAnyH_ready (rs := [19, 29]) (by kernel_rfl) (by simp) ?_
        refine AllReadyH.cons rfl (fun K hK => ?_) (AllReadyH.cons rfl (fun K hK => ?_) AllReadyH.nil)
        rotate_left
        · go_simp
          refine hK.out _ _ (PP.out (M.out.alloc _)) (fun hH => ?_)
          clear hK K
          (try simp only [Act.put, List.setIfInBounds_toArray, List.set_cons_zero, List.set_cons_succ])
          have N := Lib.hid (EvAt.newZ wq0)
          have G := Lib.hid (And.intro M.out.lt (And.intro M.out.ev.lt HZ.out))
          have M := Lib.hid (M.out.alloc (.cells #[.string ⟨#[]⟩, .int .i64 0, .int .i64 0, .int .i64 0, .string ⟨#[]⟩, .string ⟨#[]⟩, .int .i64 0, .string ⟨#[]⟩] 24))
          generalize wq0.alloc _ = wq4 at N M hH ⊢
          generalize wq0.heap.size = g5 at N G ⊢
          refine wpAnyH_ready (rs := [19]) (by kernel_rfl) (by simp) ?_
          refine AllReadyH.cons rfl (fun K hK => ?_) AllReadyH.nil
          go_simp
          refine (unpt_ref _ _).mono ?_
          rintro e w9 ⟨rfl, rfl⟩
          (try go_wp2_with fail)
          refine hK.out _ _ (PP.out M.out) (fun hH => ?_)
          clear hK K
          (try simp only [Act.put, List.setIfInBounds_toArray, List.set_cons_zero, List.set_cons_succ])
          refine wpAnyH_ready (rs := [23]) (by kernel_rfl) (by simp) ?_
          refine AllReadyH.cons rfl (fun K hK => ?_) AllReadyH.nil
          go_simp
          refine (read_any _ B1.out.2.2 _).mono ?_
          rintro e w9 ⟨rfl, rfl⟩
          (try go_wp2_with fail)
          refine hK.out _ _ (PP.out M.out) (fun hH => ?_)
          clear hK K
          (try simp only [Act.put, List.setIfInBounds_toArray, List.set_cons_zero, List.set_cons_succ])
          refine wpAnyH_ready (rs := [27]) (by kernel_rfl) (by simp) ?_
          refine AllReadyH.cons rfl (fun K hK => ?_) AllReadyH.nil
          go_simp
          refine (unpt_ref _ _).mono ?_
          rintro e w9 ⟨rfl, rfl⟩
          (try go_wp2_with fail)
          refine hK.out _ _ (PP.out M.out) (fun hH => ?_)
          clear hK K
          (try simp only [Act.put, List.setIfInBounds_toArray, List.set_cons_zero, List.set_cons_succ])
          refine wpAnyH_take (i := 28) (v := ?_) rfl (by kernel_rfl) (by kernel_rfl) (by kernel_rfl) (fun _ _ _ h => h) (Or.inl ⟨by rfl, ?_⟩) (by assumption) ?_
          rotate_left
          · intro w hSw
            (try dsimp only at hSw)
            go_simp
            (try with_reducible rfl)
          (try simp only [Act.put, List.setIfInBounds_toArray])
          obtain ⟨n0, n1, n2, n3, n4, n5, n6, n7⟩ := N.out.all
          simp only [zeroE] at n0 n1 n2 n3 n4 n5 n6 n7
          obtain ⟨y0, y1, y2, y3, y4, y5, y6, y7⟩ := N.out.frz
          have hnl := N.out.lt
          refine wpAnyH_ready (rs := [30]) (by kernel_rfl) (by simp) ?_
          refine AllReadyH.cons rfl (fun K hK => ?_) AllReadyH.nil
          go_simp
          refine hK.out _ _ (PP.out (M.out.put G.out.1 G.out.2.1 G.out.2.2 a (numR b) (numR c) (kdOf d) (unpt p) (unpt i) (numR v) (unpt t))) (fun hH => ?_)
          clear hK K hH n0 n1 n2 n3 n4 n5 n6 n7 y0 y1 y2 y3 y4 y5 y6 y7 hnl
          (try simp only [Act.put, List.setIfInBounds_toArray, List.set_cons_zero, List.set_cons_succ])
          refine wpAnyH_done (by kernel_rfl) ?_ _
          go_wp2_with fail
          go_meet
          exact ⟨g5, rfl, PE.of M.out N.out G.out.1 G.out.2.1 G.out.2.2 a (numR b) (numR c) (kdOf d) (unpt p) (unpt i) (numR v) (unpt t)⟩
        go_simp
        refine (unpt_ref _ _).mono ?_
        rintro e w9 ⟨rfl, rfl⟩
        (try go_wp2_with fail)
        refine hK.out _ _ (PP.out M.out) (fun hH => ?_)
        clear hK K
        (try simp only [Act.put, List.setIfInBounds_toArray, List.set_cons_zero, List.set_cons_succ])
        refine wpAnyH_ready (rs := [23, 29]) (by kernel_rfl) (by simp) ?_
        refine AllReadyH.cons rfl (fun K hK => ?_) (AllReadyH.cons rfl (fun K hK => ?_) AllReadyH.nil)
        rotate_left
        · go_simp
          refine hK.out _ _ (PP.out (M.out.alloc _)) (fun hH => ?_)
          clear hK K
          (try simp only [Act.put, List.setIfInBounds_toArray, List.set_cons_zero, List.set_cons_succ])
          have N := Lib.hid (EvAt.newZ wq0)
          have G := Lib.hid (And.intro M.out.lt (And.intro M.out.ev.lt HZ.out))
          have M := Lib.hid (M.out.alloc (.cells #[.string ⟨#[]⟩, .int .i64 0, .int .i64 0, .int .i64 0, .string ⟨#[]⟩, .string ⟨#[]⟩, .int .i64 0, .string ⟨#[]⟩] 24))
          generalize wq0.alloc _ = wq5 at N M hH ⊢
          generalize wq0.heap.size = g5 at N G ⊢
          refine wpAnyH_ready (rs := [23]) (by kernel_rfl) (by simp) ?_
          refine AllReadyH.cons rfl (fun K hK => ?_) AllReadyH.nil
          go_simp
          refine (read_any _ B1.out.2.2 _).mono ?_
          rintro e w9 ⟨rfl, rfl⟩
          (try go_wp2_with fail)
          refine hK.out _ _ (PP.out M.out) (fun hH => ?_)
          clear hK K
          (try simp only [Act.put, List.setIfInBounds_toArray, List.set_cons_zero, List.set_cons_succ])
          refine wpAnyH_ready (rs := [27]) (by kernel_rfl) (by simp) ?_
          refine AllReadyH.cons rfl (fun K hK => ?_) AllReadyH.nil
          go_simp
          refine (unpt_ref _ _).mono ?_
          rintro e w9 ⟨rfl, rfl⟩
          (try go_wp2_with fail)
          refine hK.out _ _ (PP.out M.out) (fun hH => ?_)
          clear hK K
          (try simp only [Act.put, List.setIfInBounds_toArray, List.set_cons_zero, List.set_cons_succ])
          refine wpAnyH_take (i := 28) (v := ?_) rfl (by kernel_rfl) (by kernel_rfl) (by kernel_rfl) (fun _ _ _ h => h) (Or.inl ⟨by rfl, ?_⟩) (by assumption) ?_
          rotate_left
          · intro w hSw
            (try dsimp only at hSw)
            go_simp
            (try with_reducible rfl)
          (try simp only [Act.put, List.setIfInBounds_toArray])
          obtain ⟨n0, n1, n2, n3, n4, n5, n6, n7⟩ := N.out.all
          simp only [zeroE] at n0 n1 n2 n3 n4 n5 n6 n7
          obtain ⟨y0, y1, y2, y3, y4, y5, y6, y7⟩ := N.out.frz
          have hnl := N.out.lt
          refine wpAnyH_ready (rs := [30]) (by kernel_rfl) (by simp) ?_
          refine AllReadyH.cons rfl (fun K hK => ?_) AllReadyH.nil
          go_simp
          refine hK.out _ _ (PP.out (M.out.put G.out.1 G.out.2.1 G.out.2.2 a (numR b) (numR c) (kdOf d) (unpt p) (unpt i) (numR v) (unpt t))) (fun hH => ?_)
          clear hK K hH n0 n1 n2 n3 n4 n5 n6 n7 y0 y1 y2 y3 y4 y5 y6 y7 hnl
          (try simp only [Act.put, List.setIfInBounds_toArray, List.set_cons_zero, List.set_cons_succ])
          refine wpAnyH_done (by kernel_rfl) ?_ _
          go_wp2_with fail
          go_meet
          exact ⟨g5, rfl, PE.of M.out N.out G.out.1 G.out.2.1 G.out.2.2 a (numR b) (numR c) (kdOf d) (unpt p) (unpt i) (numR v) (unpt t)⟩
        go_simp
        refine (read_any _ B1.out.2.2 _).mono ?_
        rintro e w9 ⟨rfl, rfl⟩
        (try go_wp2_with fail)
        refine hK.out _ _ (PP.out M.out) (fun hH => ?_)
        clear hK K
        (try simp only [Act.put, List.setIfInBounds_toArray, List.set_cons_zero, List.set_cons_succ])
        refine wpAnyH_ready (rs := [27, 29]) (by kernel_rfl) (by simp) ?_
        refine AllReadyH.cons rfl (fun K hK => ?_) (AllReadyH.cons rfl (fun K hK => ?_) AllReadyH.nil)
        rotate_left
        · go_simp
          refine hK.out _ _ (PP.out (M.out.alloc _)) (fun hH => ?_)
          clear hK K
          (try simp only [Act.put, List.setIfInBounds_toArray, List.set_cons_zero, List.set_cons_succ])
          have N := Lib.hid (EvAt.newZ wq0)
          have G := Lib.hid (And.intro M.out.lt (And.intro M.out.ev.lt HZ.out))
          have M := Lib.hid (M.out.alloc (.cells #[.string ⟨#[]⟩, .int .i64 0, .int .i64 0, .int .i64 0, .string ⟨#[]⟩, .string ⟨#[]⟩, .int .i64 0, .string ⟨#[]⟩] 24))
          generalize wq0.alloc _ = wq6 at N M hH ⊢
          generalize wq0.heap.size = g5 at N G ⊢
          refine wpAnyH_ready (rs := [27]) (by kernel_rfl) (by simp) ?_
          refine AllReadyH.cons rfl (fun K hK => ?_) AllReadyH.nil
          go_simp
          refine (unpt_ref _ _).mono ?_
          rintro e w9 ⟨rfl, rfl⟩
          (try go_wp2_with fail)
          refine hK.out _ _ (PP.out M.out) (fun hH => ?_)
          clear hK K
          (try simp only [Act.put, List.setIfInBounds_toArray, List.set_cons_zero, List.set_cons_succ])
          refine wpAnyH_take (i := 28) (v := ?_) rfl (by kernel_rfl) (by kernel_rfl) (by kernel_rfl) (fun _ _ _ h => h) (Or.inl ⟨by rfl, ?_⟩) (by assumption) ?_
          rotate_left
          · intro w hSw
            (try dsimp only at hSw)
            go_simp
            (try with_reducible rfl)
          (try simp only [Act.put, List.setIfInBounds_toArray])
          obtain ⟨n0, n1, n2, n3, n4, n5, n6, n7⟩ := N.out.all
          simp only [zeroE] at n0 n1 n2 n3 n4 n5 n6 n7
          obtain ⟨y0, y1, y2, y3, y4, y5, y6, y7⟩ := N.out.frz
          have hnl := N.out.lt
          refine wpAnyH_ready (rs := [30]) (by kernel_rfl) (by simp) ?_
          refine AllReadyH.cons rfl (fun K hK => ?_) AllReadyH.nil
          go_simp
          refine hK.out _ _ (PP.out (M.out.put G.out.1 G.out.2.1 G.out.2.2 a (numR b) (numR c) (kdOf d) (unpt p) (unpt i) (numR v) (unpt t))) (fun hH => ?_)
          clear hK K hH n0 n1 n2 n3 n4 n5 n6 n7 y0 y1 y2 y3 y4 y5 y6 y7 hnl
          (try simp only [Act.put, List.setIfInBounds_toArray, List.set_cons_zero, List.set_cons_succ])
          refine wpAnyH_done (by kernel_rfl) ?_ _
          go_wp2_with fail
          go_meet
          exact ⟨g5, rfl, PE.of M.out N.out G.out.1 G.out.2.1 G.out.2.2 a (numR b) (numR c) (kdOf d) (unpt p) (unpt i) (numR v) (unpt t)⟩
        go_simp
        refine (unpt_ref _ _).mono ?_
        rintro e w9 ⟨rfl, rfl⟩
        (try go_wp2_with fail)
        refine hK.out _ _ (PP.out M.out) (fun hH => ?_)
        clear hK K
        (try simp only [Act.put, List.setIfInBounds_toArray, List.set_cons_zero, List.set_cons_succ])
        refine wpAnyH_take (i := 28) (v := ?_) rfl (by kernel_rfl) (by kernel_rfl) (by kernel_rfl) (fun _ _ _ h => h) (Or.inl ⟨by rfl, ?_⟩) (by assumption) ?_
        rotate_left
        · intro w hSw
          (try dsimp only at hSw)
          go_simp
          (try with_reducible rfl)
        (try simp only [Act.put, List.setIfInBounds_toArray])
        refine wpAnyH_ready (rs := [29]) (by kernel_rfl) (by simp) ?_
        refine AllReadyH.cons rfl (fun K hK => ?_) AllReadyH.nil
        go_simp
        refine hK.out _ _ (PP.out (M.out.alloc _)) (fun hH => ?_)
        clear hK K
        (try simp only [Act.put, List.setIfInBounds_toArray, List.set_cons_zero, List.set_cons_succ])
        have N := Lib.hid (EvAt.newZ wq0)
        have G := Lib.hid (And.intro M.out.lt (And.intro M.out.ev.lt HZ.out))
        have M := Lib.hid (M.out.alloc (.cells #[.string ⟨#[]⟩, .int .i64 0, .int .i64 0, .int .i64 0, .string ⟨#[]⟩, .string ⟨#[]⟩, .int .i64 0, .string ⟨#[]⟩] 24))
        generalize wq0.alloc _ = wq7 at N M hH ⊢
        generalize wq0.heap.size = g5 at N G ⊢
        obtain ⟨n0, n1, n2, n3, n4, n5, n6, n7⟩ := N.out.all
        simp only [zeroE] at n0 n1 n2 n3 n4 n5 n6 n7
        obtain ⟨y0, y1, y2, y3, y4, y5, y6, y7⟩ := N.out.frz
        have hnl := N.out.lt
        refine wpAnyH_ready (rs := [30]) (by kernel_rfl) (by simp) ?_
        refine AllReadyH.cons rfl (fun K hK => ?_) AllReadyH.nil
        go_simp
        refine hK.out _ _ (PP.out (M.out.put G.out.1 G.out.2.1 G.out.2.2 a (numR b) (numR c) (kdOf d) (unpt p) (unpt i) (numR v) (unpt t))) (fun hH => ?_)
        clear hK K hH n0 n1 n2 n3 n4 n5 n6 n7 y0 y1 y2 y3 y4 y5 y6 y7 hnl
        (try simp only [Act.put, List.setIfInBounds_toArray, List.set_cons_zero, List.set_cons_succ])
        refine wpAnyH_done (by kernel_rfl) ?_ _
        go_wp2_with fail
        go_meet
        exact ⟨g5, rfl, PE.of M.out N.out G.out.1 G.out.2.1 G.out.2.2 a (numR b) (numR c) (kdOf d) (unpt p) (unpt i) (numR v) (unpt t)⟩
      case rest =>
        obtain ⟨g5, rfl, P⟩ := hcut
        obtain ⟨c0, c1, c2, c3, c4, c5, c6, c7⟩ := P.new.all
        simp only at c0 c1 c2 c3 c4 c5 c6 c7
        have hl5 := P.new.lt
        clear M H0 kb1 kb2
        go_wp2_with fail
        refine (HM.out _).mono ?_
        rintro e w2 ⟨rfl, hb⟩
        have Q := P.below hb
        clear hb c0 c1 c2 c3 c4 c5 c6 c7 hl5 P
        obtain ⟨c0, c1, c2, c3, c4, c5, c6, c7⟩ := Q.new.all
        simp only at c0 c1 c2 c3 c4 c5 c6 c7
        have hl5 := Q.new.lt
        cases md
        · obtain ⟨r0, r1, r2, r3, r4, r5, r6, r7⟩ := Q.ev.all
          simp only [zeroE] at r0 r1 r2 r3 r4 r5 r6 r7
          obtain ⟨z0, z1, z2, z3, z4, z5, z6, z7⟩ := Q.ev.frz
          have hrl := Q.ev.lt
          go_wp2_with fail
          have R1 := Q.ev.put ⟨#[]⟩ 0 0 0 ⟨#[]⟩ ⟨#[]⟩ 0 ⟨#[]⟩
          have BW := below_put Q.bw (Nat.le_refl _) ⟨#[]⟩ 0 0 0 ⟨#[]⟩ ⟨#[]⟩ 0 ⟨#[]⟩
          clear r0 r1 r2 r3 r4 r5 r6 r7 z0 z1 z2 z3 z4 z5 z6 z7 hrl Q c0 c1 c2 c3 c4 c5 c6 c7 hl5
          obtain ⟨r0, r1, r2, r3, r4, r5, r6, r7⟩ := R1.all
          simp only at r0 r1 r2 r3 r4 r5 r6 r7
          refine bodyPost_ret (v := .tuple #[.agg #[.string ⟨#[]⟩, .int .i64 0, .int .i64 0, .int .i64 0, .string ⟨#[]⟩, .string ⟨#[]⟩, .int .i64 0, .string ⟨#[]⟩], .bool false]) (by simp [results, Tryd.results39, go_sem, r0, r1, r2, r3, r4, r5, r6, r7]) rfl ⟨rfl, BW⟩
        · go_wp2_with fail
          refine (HCF.out (by trivial) _ Q.lay.lay).mono ?_
          rintro e w3 ⟨rfl, hb⟩
          have Q2 := Q.below hb
          have hq := HQ.out (by trivial)
          clear hb c0 c1 c2 c3 c4 c5 c6 c7 hl5 Q
          obtain ⟨c0, c1, c2, c3, c4, c5, c6, c7⟩ := Q2.new.all
          simp only at c0 c1 c2 c3 c4 c5 c6 c7
          have hl5 := Q2.new.lt
          obtain ⟨r0, r1, r2, r3, r4, r5, r6, r7⟩ := Q2.ev.all
          simp only [zeroE] at r0 r1 r2 r3 r4 r5 r6 r7
          obtain ⟨z0, z1, z2, z3, z4, z5, z6, z7⟩ := Q2.ev.frz
          have hrl := Q2.ev.lt
          cases ok
          · go_wp2_with fail
            have R1 := Q2.ev.put ⟨#[]⟩ 0 0 0 ⟨#[]⟩ ⟨#[]⟩ 0 ⟨#[]⟩
            have BW := below_put Q2.bw (Nat.le_refl _) ⟨#[]⟩ 0 0 0 ⟨#[]⟩ ⟨#[]⟩ 0 ⟨#[]⟩
            clear r0 r1 r2 r3 r4 r5 r6 r7 z0 z1 z2 z3 z4 z5 z6 z7 hrl Q2 c0 c1 c2 c3 c4 c5 c6 c7 hl5
            obtain ⟨r0, r1, r2, r3, r4, r5, r6, r7⟩ := R1.all
            simp only at r0 r1 r2 r3 r4 r5 r6 r7
            refine bodyPost_ret (v := .tuple #[.agg #[.string ⟨#[]⟩, .int .i64 0, .int .i64 0, .int .i64 0, .string ⟨#[]⟩, .string ⟨#[]⟩, .int .i64 0, .string ⟨#[]⟩], .bool false]) (by simp [results, Tryd.results39, go_sem, r0, r1, r2, r3, r4, r5, r6, r7]) rfl ⟨rfl, BW⟩
          · go_wp2_with fail
            have R1 := Q2.ev.put a (numR b) (numR c) (kdOf d) (unpt p) (unpt i) (numR v) (unpt t)
            have BW := below_put Q2.bw (Nat.le_refl _) a (numR b) (numR c) (kdOf d) (unpt p) (unpt i) (numR v) (unpt t)
            clear r0 r1 r2 r3 r4 r5 r6 r7 z0 z1 z2 z3 z4 z5 z6 z7 hrl Q2 c0 c1 c2 c3 c4 c5 c6 c7 hl5
            obtain ⟨r0, r1, r2, r3, r4, r5, r6, r7⟩ := R1.all
            simp only at r0 r1 r2 r3 r4 r5 r6 r7
            refine bodyPost_ret (v := .tuple #[.agg #[.string a, .int .i64 (numR b), .int .i64 (numR c), .int .i64 (kdOf d), .string (unpt p), .string (unpt i), .int .i64 (numR v), .string (unpt t)], .bool true]) (by simp [results, Tryd.results39, go_sem, r0, r1, r2, r3, r4, r5, r6, r7]) rfl ⟨rfl, BW⟩
end Go.Proofs.YthfhfekneahonaaDoor
