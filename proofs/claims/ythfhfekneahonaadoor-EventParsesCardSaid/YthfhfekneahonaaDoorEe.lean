/- A text of eight words parsed: the program's. -/
import Derived.Test.YthfhfekneahonaaDoorEd
namespace Go.Proofs.YthfhfekneahonaaDoor
open Go.RowKit
set_option linter.unusedVariables false
theorem EvAt.newZ (w : World) : EvAt (w.alloc (.cells #[.string ⟨#[]⟩, .int .i64 0, .int .i64 0, .int .i64 0, .string ⟨#[]⟩, .string ⟨#[]⟩, .int .i64 0, .string ⟨#[]⟩] 24)) w.heap.size zeroE := EvAt.new w zeroE
theorem put_below (w : World) (B b : Nat) (hB : B ≤ b) (s : ByteArray) (n x k : Int) (q j : ByteArray) (y : Int) (u : ByteArray) : Below B w ((((((((w.setCell ⟨b, 0, none⟩ (.string s)).setCell ⟨b, 1, none⟩ (.int .i64 n)).setCell ⟨b, 2, none⟩ (.int .i64 x)).setCell ⟨b, 3, none⟩ (.int .i64 k)).setCell ⟨b, 4, none⟩ (.string q)).setCell ⟨b, 5, none⟩ (.string j)).setCell ⟨b, 6, none⟩ (.int .i64 y)).setCell ⟨b, 7, none⟩ (.string u)) := ((((((((Below.refl B w).setCell hB _).setCell hB _).setCell hB _).setCell hB _).setCell hB _).setCell hB _).setCell hB _).setCell hB _
theorem LayE.under {w w' : World} (h : LayE w) {B : Nat} (hb : Below B w w') (hB : 9 ≤ B) : LayE w' := by
  obtain ⟨tp, p, h1⟩ := h.syn
  obtain ⟨tq, q, h2⟩ := h.rng
  exact ⟨h.lay.below hb hB, ⟨tp, p, (hb.cell (show (⟨3, 0, none⟩ : Addr).block < B by show 3 < _; omega)).trans h1⟩, ⟨tq, q, (hb.cell (show (⟨4, 0, none⟩ : Addr).block < B by show 4 < _; omega)).trans h2⟩⟩
theorem PP.put {W : World} {g : Nat} {a b c d p i v t : ByteArray} {w : World} (h : PP W g a b c d p i v t w) {g5 : Nat} (h1 : g < g5) (h2 : W.heap.size < g5) (h3 : 9 ≤ W.heap.size) (s : ByteArray) (n x k : Int) (q j : ByteArray) (y : Int) (u : ByteArray) : PP W g a b c d p i v t ((((((((w.setCell ⟨g5, 0, none⟩ (.string s)).setCell ⟨g5, 1, none⟩ (.int .i64 n)).setCell ⟨g5, 2, none⟩ (.int .i64 x)).setCell ⟨g5, 3, none⟩ (.int .i64 k)).setCell ⟨g5, 4, none⟩ (.string q)).setCell ⟨g5, 5, none⟩ (.string j)).setCell ⟨g5, 6, none⟩ (.int .i64 y)).setCell ⟨g5, 7, none⟩ (.string u)) := by
  have hb := put_below w g5 g5 (Nat.le_refl _) s n x k q j y u
  refine ⟨h.ev.below hb h2, Nat.lt_of_lt_of_le h.lt hb.size, fun m z hz => ?_, h.lay.under hb (by omega), h.bw.trans (hb.mono (by omega))⟩
  exact (hb.cell (show (⟨g, m, none⟩ : Addr).block < g5 from h1)).trans (h.cs m z hz)
theorem PE.of {W : World} {g : Nat} {a b c d p i v t : ByteArray} {w : World} (h : PP W g a b c d p i v t w) {g5 : Nat} (N : EvAt w g5 zeroE) (h1 : g < g5) (h2 : W.heap.size < g5) (h3 : 9 ≤ W.heap.size) (s : ByteArray) (n x k : Int) (q j : ByteArray) (y : Int) (u : ByteArray) : PE W g5 ⟨s, n, x, k, q, j, y, u⟩ ((((((((w.setCell ⟨g5, 0, none⟩ (.string s)).setCell ⟨g5, 1, none⟩ (.int .i64 n)).setCell ⟨g5, 2, none⟩ (.int .i64 x)).setCell ⟨g5, 3, none⟩ (.int .i64 k)).setCell ⟨g5, 4, none⟩ (.string q)).setCell ⟨g5, 5, none⟩ (.string j)).setCell ⟨g5, 6, none⟩ (.int .i64 y)).setCell ⟨g5, 7, none⟩ (.string u)) :=
  ⟨(h.put h1 h2 h3 s n x k q j y u).ev, N.put s n x k q j y u, (h.put h1 h2 h3 s n x k q j y u).lay, (h.put h1 h2 h3 s n x k q j y u).bw⟩
set_option maxRecDepth 100000 in
set_option maxHeartbeats 16000000 in
theorem parse_eight (s a b c d p i v t F : ByteArray) (hs : s.size ≤ 1000) (hw : partsB 32 s = [a, b, c, d, p, i, v, t]) (hb1 : b.size ≤ 1000000) (hc1 : c.size ≤ 1000000) (hv1 : v.size ≤ 1000000)
    (CF : ∀ w, Lay w → Calls Tryd.prog 36 #[.agg #[.string (unpt a), .int .i64 (numP b), .int .i64 (numP c), .int .i64 (kdOf d), .string (unpt p), .string (unpt i), .int .i64 (numP v), .string (unpt t)]] w fun e w' => e = .returned (.string F) ∧ Below w.heap.size w w')
    (ok : Bool) (hq : (F.toList == s.toList) = ok) (w : World) (hL : LayE w) :
    Calls Tryd.prog 37 #[.string s] w fun e w' => e = .returned (bif ok then .tuple #[.agg #[.string (unpt a), .int .i64 (numP b), .int .i64 (numP c), .int .i64 (kdOf d), .string (unpt p), .string (unpt i), .int .i64 (numP v), .string (unpt t)], .int .i64 0] else .tuple #[.agg #[.string ⟨#[]⟩, .int .i64 0, .int .i64 0, .int .i64 0, .string ⟨#[]⟩, .string ⟨#[]⟩, .int .i64 0, .string ⟨#[]⟩], .int .i64 2]) ∧ Below w.heap.size w w' := by
  have S' := fun w hL => split_eight s hs w hL (by rw [hw]; rfl)
  rw [hw] at S'
  have S := Lib.hid S'
  have HL := Lib.hid hL
  have HCF := Lib.hid CF
  have HQ := Lib.hid hq
  have B1 := Lib.hid (And.intro hb1 (And.intro hc1 hv1))
  clear S' hL hs hw CF hb1 hc1 hv1 hq
  go_enter Tryd.func37, Tryd.ntmps37
  go_wp2_with fail
  have R0 := EvAt.newZ w
  refine (S.out _ (HL.out.alloc _).lay).mono ?_
  rintro e w1 ⟨g, cp, rfl, hg, hcs, hb⟩
  have hwg : w.heap.size < w1.heap.size := (R0.below hb (by simp)).lt
  have M : PP w g a b c d p i v t w1 := ⟨R0.below hb (by simp), hg, hcs, (HL.out.alloc _).next hb, ((Below.refl w.heap.size w).alloc (by simp) (.cells #[.string ⟨#[]⟩, .int .i64 0, .int .i64 0, .int .i64 0, .string ⟨#[]⟩, .string ⟨#[]⟩, .int .i64 0, .string ⟨#[]⟩] 24)).trans (hb.mono (by simp))⟩
  clear hb R0 hcs hg hwg
  go_upto_region 4 with fail
  go_cut [5] (fun s5 wx => ∃ g5, s5 = .pointer (some ⟨g5, 0, none⟩) ∧ PE w g5 ⟨unpt a, numP b, numP c, kdOf d, unpt p, unpt i, numP v, unpt t⟩ wx)
  case first =>
    refine wp_region_held_drew (S := (fun wx => (wx.cell? ⟨g, 0, none⟩ = some (.string a) ∧ wx.cell? ⟨g, 1, none⟩ = some (.string b) ∧ wx.cell? ⟨g, 2, none⟩ = some (.string c) ∧ wx.cell? ⟨g, 3, none⟩ = some (.string d) ∧ wx.cell? ⟨g, 4, none⟩ = some (.string p) ∧ wx.cell? ⟨g, 5, none⟩ = some (.string i) ∧ wx.cell? ⟨g, 6, none⟩ = some (.string v) ∧ wx.cell? ⟨g, 7, none⟩ = some (.string t) ∧ g < wx.heap.size ∧ w.heap.size < wx.heap.size) ∧ PP w g a b c d p i v t wx)) (by kernel_rfl) (PP.out M.drew) (fun hH => ?_)
    have HZ := Lib.hid HL.out.lay.sz
    have M := Lib.hid M.drew
    generalize w1.drew = wq0 at M hH ⊢
    refine wpAnyH_take (i := 0) (v := ?_) rfl (by kernel_rfl) (by kernel_rfl) (by kernel_rfl) (fun _ _ _ h => h) (Or.inl ⟨by rfl, ?_⟩) (by assumption) ?_
    rotate_left
    · intro w hSw
      (try dsimp only at hSw)
      go_simp
      (try with_reducible rfl)
    (try simp only [Act.put, List.setIfInBounds_toArray])
    refine wpAnyH_take (i := 1) (v := ?_) rfl (by kernel_rfl) (by kernel_rfl) (by kernel_rfl) (fun _ _ _ h => h) (Or.inl ⟨by rfl, ?_⟩) (by assumption) ?_
    rotate_left
    · intro w hSw
      (try dsimp only at hSw)
      go_simp
      (try with_reducible rfl)
    (try simp only [Act.put])
    refine wpAnyH_take (i := 2) (v := ?_) rfl (by kernel_rfl) (by kernel_rfl) (by kernel_rfl) (fun _ _ _ h => h) (Or.inl ⟨by rfl, ?_⟩) (by assumption) ?_
    rotate_left
    · intro w hSw
      (try dsimp only at hSw)
      go_simp
      (try with_reducible rfl)
    (try simp only [Act.put])
    refine wpAnyH_take (i := 4) (v := ?_) rfl (by kernel_rfl) (by kernel_rfl) (by kernel_rfl) (fun _ _ _ h => h) (Or.inl ⟨by rfl, ?_⟩) (by assumption) ?_
    rotate_left
    · intro w hSw
      (try dsimp only at hSw)
      go_simp
      (try with_reducible rfl)
    (try simp only [Act.put])
    refine wpAnyH_take (i := 5) (v := ?_) rfl (by kernel_rfl) (by kernel_rfl) (by kernel_rfl) (fun _ _ _ h => h) (Or.inl ⟨by rfl, ?_⟩) (by assumption) ?_
    rotate_left
    · intro w hSw
      (try dsimp only at hSw)
      go_simp
      (try with_reducible rfl)
    (try simp only [Act.put])
    refine wpAnyH_take (i := 6) (v := ?_) rfl (by kernel_rfl) (by kernel_rfl) (by kernel_rfl) (fun _ _ _ h => h) (Or.inl ⟨by rfl, ?_⟩) (by assumption) ?_
    rotate_left
    · intro w hSw
      (try dsimp only at hSw)
      go_simp
      (try with_reducible rfl)
    (try simp only [Act.put])
    refine wpAnyH_take (i := 8) (v := ?_) rfl (by kernel_rfl) (by kernel_rfl) (by kernel_rfl) (fun _ _ _ h => h) (Or.inl ⟨by rfl, ?_⟩) (by assumption) ?_
    rotate_left
    · intro w hSw
      (try dsimp only at hSw)
      go_simp
      (try with_reducible rfl)
    (try simp only [Act.put])
    refine wpAnyH_take (i := 9) (v := ?_) rfl (by kernel_rfl) (by kernel_rfl) (by kernel_rfl) (fun _ _ _ h => h) (Or.inl ⟨by rfl, ?_⟩) (by assumption) ?_
    rotate_left
    · intro w hSw
      (try dsimp only at hSw)
      go_simp
      (try with_reducible rfl)
    (try simp only [Act.put])
    refine wpAnyH_take (i := 10) (v := ?_) rfl (by kernel_rfl) (by kernel_rfl) (by kernel_rfl) (fun _ _ _ h => h) (Or.inl ⟨by rfl, ?_⟩) (by assumption) ?_
    rotate_left
    · intro w hSw
      (try dsimp only at hSw)
      go_simp
      (try with_reducible rfl)
    (try simp only [Act.put])
    refine wpAnyH_take (i := 12) (v := ?_) rfl (by kernel_rfl) (by kernel_rfl) (by kernel_rfl) (fun _ _ _ h => h) (Or.inl ⟨by rfl, ?_⟩) (by assumption) ?_
    rotate_left
    · intro w hSw
      (try dsimp only at hSw)
      go_simp
      (try with_reducible rfl)
    (try simp only [Act.put])
    refine wpAnyH_take (i := 13) (v := ?_) rfl (by kernel_rfl) (by kernel_rfl) (by kernel_rfl) (fun _ _ _ h => h) (Or.inl ⟨by rfl, ?_⟩) (by assumption) ?_
    rotate_left
    · intro w hSw
      (try dsimp only at hSw)
      go_simp
      (try with_reducible rfl)
    (try simp only [Act.put])
    refine wpAnyH_take (i := 14) (v := ?_) rfl (by kernel_rfl) (by kernel_rfl) (by kernel_rfl) (fun _ _ _ h => h) (Or.inl ⟨by rfl, ?_⟩) (by assumption) ?_
    rotate_left
    · intro w hSw
      (try dsimp only at hSw)
      go_simp
      (try with_reducible rfl)
    (try simp only [Act.put])
    refine wpAnyH_take (i := 16) (v := ?_) rfl (by kernel_rfl) (by kernel_rfl) (by kernel_rfl) (fun _ _ _ h => h) (Or.inl ⟨by rfl, ?_⟩) (by assumption) ?_
    rotate_left
    · intro w hSw
      (try dsimp only at hSw)
      go_simp
      (try with_reducible rfl)
    (try simp only [Act.put])
    refine wpAnyH_take (i := 17) (v := ?_) rfl (by kernel_rfl) (by kernel_rfl) (by kernel_rfl) (fun _ _ _ h => h) (Or.inl ⟨by rfl, ?_⟩) (by assumption) ?_
    rotate_left
    · intro w hSw
      (try dsimp only at hSw)
      go_simp
      (try with_reducible rfl)
    (try simp only [Act.put])
    refine wpAnyH_take (i := 18) (v := ?_) rfl (by kernel_rfl) (by kernel_rfl) (by kernel_rfl) (fun _ _ _ h => h) (Or.inl ⟨by rfl, ?_⟩) (by assumption) ?_
    rotate_left
    · intro w hSw
      (try dsimp only at hSw)
      go_simp
      (try with_reducible rfl)
    (try simp only [Act.put])
    refine wpAnyH_take (i := 20) (v := ?_) rfl (by kernel_rfl) (by kernel_rfl) (by kernel_rfl) (fun _ _ _ h => h) (Or.inl ⟨by rfl, ?_⟩) (by assumption) ?_
    rotate_left
    · intro w hSw
      (try dsimp only at hSw)
      go_simp
      (try with_reducible rfl)
    (try simp only [Act.put])
    refine wpAnyH_take (i := 21) (v := ?_) rfl (by kernel_rfl) (by kernel_rfl) (by kernel_rfl) (fun _ _ _ h => h) (Or.inl ⟨by rfl, ?_⟩) (by assumption) ?_
    rotate_left
    · intro w hSw
      (try dsimp only at hSw)
      go_simp
      (try with_reducible rfl)
    (try simp only [Act.put])
    refine wpAnyH_take (i := 22) (v := ?_) rfl (by kernel_rfl) (by kernel_rfl) (by kernel_rfl) (fun _ _ _ h => h) (Or.inl ⟨by rfl, ?_⟩) (by assumption) ?_
    rotate_left
    · intro w hSw
      (try dsimp only at hSw)
      go_simp
      (try with_reducible rfl)
    (try simp only [Act.put])
    refine wpAnyH_take (i := 24) (v := ?_) rfl (by kernel_rfl) (by kernel_rfl) (by kernel_rfl) (fun _ _ _ h => h) (Or.inl ⟨by rfl, ?_⟩) (by assumption) ?_
    rotate_left
    · intro w hSw
      (try dsimp only at hSw)
      go_simp
      (try with_reducible rfl)
    (try simp only [Act.put])
    refine wpAnyH_take (i := 25) (v := ?_) rfl (by kernel_rfl) (by kernel_rfl) (by kernel_rfl) (fun _ _ _ h => h) (Or.inl ⟨by rfl, ?_⟩) (by assumption) ?_
    rotate_left
    · intro w hSw
      (try dsimp only at hSw)
      go_simp
      (try with_reducible rfl)
    (try simp only [Act.put])
    refine wpAnyH_take (i := 26) (v := ?_) rfl (by kernel_rfl) (by kernel_rfl) (by kernel_rfl) (fun _ _ _ h => h) (Or.inl ⟨by rfl, ?_⟩) (by assumption) ?_
    rotate_left
    · intro w hSw
      (try dsimp only at hSw)
      go_simp
      (try with_reducible rfl)
    (try simp only [Act.put])
    refine wpAnyH_take (i := 28) (v := ?_) rfl (by kernel_rfl) (by kernel_rfl) (by kernel_rfl) (fun _ _ _ h => h) (Or.inl ⟨by rfl, ?_⟩) (by assumption) ?_
    rotate_left
    · intro w hSw
      (try dsimp only at hSw)
      go_simp
      (try with_reducible rfl)
    (try simp only [Act.put])
    refine wpAnyH_take (i := 29) (v := ?_) rfl (by kernel_rfl) (by kernel_rfl) (by kernel_rfl) (fun _ _ _ h => h) (Or.inl ⟨by rfl, ?_⟩) (by assumption) ?_
    rotate_left
    · intro w hSw
      (try dsimp only at hSw)
      go_simp
      (try with_reducible rfl)
    (try simp only [Act.put])
    refine wpAnyH_take (i := 30) (v := ?_) rfl (by kernel_rfl) (by kernel_rfl) (by kernel_rfl) (fun _ _ _ h => h) (Or.inl ⟨by rfl, ?_⟩) (by assumption) ?_
    rotate_left
    · intro w hSw
      (try dsimp only at hSw)
      go_simp
      (try with_reducible rfl)
    (try simp only [Act.put])
    refine wpAnyH_ready (rs := [3, 33]) (by kernel_rfl) (by simp) ?_
    refine AllReadyH.cons rfl (fun K hK => ?_) (AllReadyH.cons rfl (fun K hK => ?_) AllReadyH.nil)
    rotate_left
    · go_simp
      refine hK.out _ _ (PP.out (M.out.alloc _)) (fun hH => ?_)
      clear hK K
      (try simp only [Act.put, List.setIfInBounds_toArray, List.set_cons_zero, List.set_cons_succ])
      have N := Lib.hid (EvAt.newZ wq0)
      have G := Lib.hid (And.intro M.out.lt (And.intro M.out.ev.lt HZ.out))
      have M := Lib.hid (M.out.alloc (.cells #[.string ⟨#[]⟩, .int .i64 0, .int .i64 0, .int .i64 0, .string ⟨#[]⟩, .string ⟨#[]⟩, .int .i64 0, .string ⟨#[]⟩] 24))
      generalize wq0.alloc _ = wq1 at N M hH ⊢
      generalize wq0.heap.size = g5 at N G ⊢
      refine wpAnyH_ready (rs := [3]) (by kernel_rfl) (by simp) ?_
      refine AllReadyH.cons rfl (fun K hK => ?_) AllReadyH.nil
      go_simp
      refine (unpt_text _ _).mono ?_
      rintro e w9 ⟨rfl, rfl⟩
      (try go_wp2_with fail)
      refine hK.out _ _ (PP.out M.out) (fun hH => ?_)
      clear hK K
      (try simp only [Act.put, List.setIfInBounds_toArray, List.set_cons_zero, List.set_cons_succ])
      refine wpAnyH_ready (rs := [7]) (by kernel_rfl) (by simp) ?_
      refine AllReadyH.cons rfl (fun K hK => ?_) AllReadyH.nil
      go_simp
      refine (numP_any _ B1.out.1 _ M.out.lay).mono ?_
      rintro e wq2 ⟨rfl, hb⟩
      have M := Lib.hid (M.out.below hb)
      have N := Lib.hid (N.out.below hb N.out.lt)
      clear hb
      (try go_wp2_with fail)
      refine hK.out _ _ (PP.out M.out) (fun hH => ?_)
      clear hK K
      (try simp only [Act.put, List.setIfInBounds_toArray, List.set_cons_zero, List.set_cons_succ])
      refine wpAnyH_ready (rs := [11]) (by kernel_rfl) (by simp) ?_
      refine AllReadyH.cons rfl (fun K hK => ?_) AllReadyH.nil
      go_simp
      refine (numP_any _ B1.out.2.1 _ M.out.lay).mono ?_
      rintro e wq3 ⟨rfl, hb⟩
      have M := Lib.hid (M.out.below hb)
      have N := Lib.hid (N.out.below hb N.out.lt)
      clear hb
      (try go_wp2_with fail)
      refine hK.out _ _ (PP.out M.out) (fun hH => ?_)
      clear hK K
      (try simp only [Act.put, List.setIfInBounds_toArray, List.set_cons_zero, List.set_cons_succ])
      refine wpAnyH_ready (rs := [15]) (by kernel_rfl) (by simp) ?_
      refine AllReadyH.cons rfl (fun K hK => ?_) AllReadyH.nil
      go_simp
      refine (kdOf_any _ _ M.out.lay.lay).mono ?_
      rintro e w9 ⟨rfl, rfl⟩
      (try go_wp2_with fail)
      refine hK.out _ _ (PP.out M.out) (fun hH => ?_)
      clear hK K
      (try simp only [Act.put, List.setIfInBounds_toArray, List.set_cons_zero, List.set_cons_succ])
      refine wpAnyH_ready (rs := [19]) (by kernel_rfl) (by simp) ?_
      refine AllReadyH.cons rfl (fun K hK => ?_) AllReadyH.nil
      go_simp
      refine (unpt_text _ _).mono ?_
      rintro e w9 ⟨rfl, rfl⟩
      (try go_wp2_with fail)
      refine hK.out _ _ (PP.out M.out) (fun hH => ?_)
      clear hK K
      (try simp only [Act.put, List.setIfInBounds_toArray, List.set_cons_zero, List.set_cons_succ])
      refine wpAnyH_ready (rs := [23]) (by kernel_rfl) (by simp) ?_
      refine AllReadyH.cons rfl (fun K hK => ?_) AllReadyH.nil
      go_simp
      refine (unpt_text _ _).mono ?_
      rintro e w9 ⟨rfl, rfl⟩
      (try go_wp2_with fail)
      refine hK.out _ _ (PP.out M.out) (fun hH => ?_)
      clear hK K
      (try simp only [Act.put, List.setIfInBounds_toArray, List.set_cons_zero, List.set_cons_succ])
      refine wpAnyH_ready (rs := [27]) (by kernel_rfl) (by simp) ?_
      refine AllReadyH.cons rfl (fun K hK => ?_) AllReadyH.nil
      go_simp
      refine (numP_any _ B1.out.2.2 _ M.out.lay).mono ?_
      rintro e wq4 ⟨rfl, hb⟩
      have M := Lib.hid (M.out.below hb)
      have N := Lib.hid (N.out.below hb N.out.lt)
      clear hb
      (try go_wp2_with fail)
      refine hK.out _ _ (PP.out M.out) (fun hH => ?_)
      clear hK K
      (try simp only [Act.put, List.setIfInBounds_toArray, List.set_cons_zero, List.set_cons_succ])
      refine wpAnyH_ready (rs := [31]) (by kernel_rfl) (by simp) ?_
      refine AllReadyH.cons rfl (fun K hK => ?_) AllReadyH.nil
      go_simp
      refine (unpt_text _ _).mono ?_
      rintro e w9 ⟨rfl, rfl⟩
      (try go_wp2_with fail)
      refine hK.out _ _ (PP.out M.out) (fun hH => ?_)
      clear hK K
      (try simp only [Act.put, List.setIfInBounds_toArray, List.set_cons_zero, List.set_cons_succ])
      refine wpAnyH_take (i := 32) (v := ?_) rfl (by kernel_rfl) (by kernel_rfl) (by kernel_rfl) (fun _ _ _ h => h) (Or.inl ⟨by rfl, ?_⟩) (by assumption) ?_
      rotate_left
      · intro w hSw
        (try dsimp only at hSw)
        go_simp
        (try with_reducible rfl)
      (try simp only [Act.put, List.setIfInBounds_toArray])
      obtain ⟨n0, n1, n2, n3, n4, n5, n6, n7⟩ := N.out.all
      simp only [zeroE] at n0 n1 n2 n3 n4 n5 n6 n7
      obtain ⟨y0, y1, y2, y3, y4, y5, y6, y7⟩ := N.out.frz
      have hnl := N.out.lt
      refine wpAnyH_ready (rs := [34]) (by kernel_rfl) (by simp) ?_
      refine AllReadyH.cons rfl (fun K hK => ?_) AllReadyH.nil
      go_simp
      refine hK.out _ _ (PP.out (M.out.put G.out.1 G.out.2.1 G.out.2.2 (unpt a) (numP b) (numP c) (kdOf d) (unpt p) (unpt i) (numP v) (unpt t))) (fun hH => ?_)
      clear hK K hH n0 n1 n2 n3 n4 n5 n6 n7 y0 y1 y2 y3 y4 y5 y6 y7 hnl
      (try simp only [Act.put, List.setIfInBounds_toArray, List.set_cons_zero, List.set_cons_succ])
      refine wpAnyH_done (by kernel_rfl) ?_ _
      go_wp2_with fail
      go_meet
      exact ⟨g5, rfl, PE.of M.out N.out G.out.1 G.out.2.1 G.out.2.2 (unpt a) (numP b) (numP c) (kdOf d) (unpt p) (unpt i) (numP v) (unpt t)⟩
    go_simp
    refine (unpt_text _ _).mono ?_
    rintro e w9 ⟨rfl, rfl⟩
    (try go_wp2_with fail)
    refine hK.out _ _ (PP.out M.out) (fun hH => ?_)
    clear hK K
    (try simp only [Act.put, List.setIfInBounds_toArray, List.set_cons_zero, List.set_cons_succ])
    refine wpAnyH_ready (rs := [7, 33]) (by kernel_rfl) (by simp) ?_
    refine AllReadyH.cons rfl (fun K hK => ?_) (AllReadyH.cons rfl (fun K hK => ?_) AllReadyH.nil)
    rotate_left
    · go_simp
      refine hK.out _ _ (PP.out (M.out.alloc _)) (fun hH => ?_)
      clear hK K
      (try simp only [Act.put, List.setIfInBounds_toArray, List.set_cons_zero, List.set_cons_succ])
      have N := Lib.hid (EvAt.newZ wq0)
      have G := Lib.hid (And.intro M.out.lt (And.intro M.out.ev.lt HZ.out))
      have M := Lib.hid (M.out.alloc (.cells #[.string ⟨#[]⟩, .int .i64 0, .int .i64 0, .int .i64 0, .string ⟨#[]⟩, .string ⟨#[]⟩, .int .i64 0, .string ⟨#[]⟩] 24))
      generalize wq0.alloc _ = wq5 at N M hH ⊢
      generalize wq0.heap.size = g5 at N G ⊢
      refine wpAnyH_ready (rs := [7]) (by kernel_rfl) (by simp) ?_
      refine AllReadyH.cons rfl (fun K hK => ?_) AllReadyH.nil
      go_simp
      refine (numP_any _ B1.out.1 _ M.out.lay).mono ?_
      rintro e wq6 ⟨rfl, hb⟩
      have M := Lib.hid (M.out.below hb)
      have N := Lib.hid (N.out.below hb N.out.lt)
      clear hb
      (try go_wp2_with fail)
      refine hK.out _ _ (PP.out M.out) (fun hH => ?_)
      clear hK K
      (try simp only [Act.put, List.setIfInBounds_toArray, List.set_cons_zero, List.set_cons_succ])
      refine wpAnyH_ready (rs := [11]) (by kernel_rfl) (by simp) ?_
      refine AllReadyH.cons rfl (fun K hK => ?_) AllReadyH.nil
      go_simp
      refine (numP_any _ B1.out.2.1 _ M.out.lay).mono ?_
      rintro e wq7 ⟨rfl, hb⟩
      have M := Lib.hid (M.out.below hb)
      have N := Lib.hid (N.out.below hb N.out.lt)
      clear hb
      (try go_wp2_with fail)
      refine hK.out _ _ (PP.out M.out) (fun hH => ?_)
      clear hK K
      (try simp only [Act.put, List.setIfInBounds_toArray, List.set_cons_zero, List.set_cons_succ])
      refine wpAnyH_ready (rs := [15]) (by kernel_rfl) (by simp) ?_
      refine AllReadyH.cons rfl (fun K hK => ?_) AllReadyH.nil
      go_simp
      refine (kdOf_any _ _ M.out.lay.lay).mono ?_
      rintro e w9 ⟨rfl, rfl⟩
      (try go_wp2_with fail)
      refine hK.out _ _ (PP.out M.out) (fun hH => ?_)
      clear hK K
      (try simp only [Act.put, List.setIfInBounds_toArray, List.set_cons_zero, List.set_cons_succ])
      refine wpAnyH_ready (rs := [19]) (by kernel_rfl) (by simp) ?_
      refine AllReadyH.cons rfl (fun K hK => ?_) AllReadyH.nil
      go_simp
      refine (unpt_text _ _).mono ?_
      rintro e w9 ⟨rfl, rfl⟩
      (try go_wp2_with fail)
      refine hK.out _ _ (PP.out M.out) (fun hH => ?_)
      clear hK K
      (try simp only [Act.put, List.setIfInBounds_toArray, List.set_cons_zero, List.set_cons_succ])
      refine wpAnyH_ready (rs := [23]) (by kernel_rfl) (by simp) ?_
      refine AllReadyH.cons rfl (fun K hK => ?_) AllReadyH.nil
      go_simp
      refine (unpt_text _ _).mono ?_
      rintro e w9 ⟨rfl, rfl⟩
      (try go_wp2_with fail)
      refine hK.out _ _ (PP.out M.out) (fun hH => ?_)
      clear hK K
      (try simp only [Act.put, List.setIfInBounds_toArray, List.set_cons_zero, List.set_cons_succ])
      refine wpAnyH_ready (rs := [27]) (by kernel_rfl) (by simp) ?_
      refine AllReadyH.cons rfl (fun K hK => ?_) AllReadyH.nil
      go_simp
      refine (numP_any _ B1.out.2.2 _ M.out.lay).mono ?_
      rintro e wq8 ⟨rfl, hb⟩
      have M := Lib.hid (M.out.below hb)
      have N := Lib.hid (N.out.below hb N.out.lt)
      clear hb
      (try go_wp2_with fail)
      refine hK.out _ _ (PP.out M.out) (fun hH => ?_)
      clear hK K
      (try simp only [Act.put, List.setIfInBounds_toArray, List.set_cons_zero, List.set_cons_succ])
      refine wpAnyH_ready (rs := [31]) (by kernel_rfl) (by simp) ?_
      refine AllReadyH.cons rfl (fun K hK => ?_) AllReadyH.nil
      go_simp
      refine (unpt_text _ _).mono ?_
      rintro e w9 ⟨rfl, rfl⟩
      (try go_wp2_with fail)
      refine hK.out _ _ (PP.out M.out) (fun hH => ?_)
      clear hK K
      (try simp only [Act.put, List.setIfInBounds_toArray, List.set_cons_zero, List.set_cons_succ])
      refine wpAnyH_take (i := 32) (v := ?_) rfl (by kernel_rfl) (by kernel_rfl) (by kernel_rfl) (fun _ _ _ h => h) (Or.inl ⟨by rfl, ?_⟩) (by assumption) ?_
      rotate_left
      · intro w hSw
        (try dsimp only at hSw)
        go_simp
        (try with_reducible rfl)
      (try simp only [Act.put, List.setIfInBounds_toArray])
      obtain ⟨n0, n1, n2, n3, n4, n5, n6, n7⟩ := N.out.all
      simp only [zeroE] at n0 n1 n2 n3 n4 n5 n6 n7
      obtain ⟨y0, y1, y2, y3, y4, y5, y6, y7⟩ := N.out.frz
      have hnl := N.out.lt
      refine wpAnyH_ready (rs := [34]) (by kernel_rfl) (by simp) ?_
      refine AllReadyH.cons rfl (fun K hK => ?_) AllReadyH.nil
      go_simp
      refine hK.out _ _ (PP.out (M.out.put G.out.1 G.out.2.1 G.out.2.2 (unpt a) (numP b) (numP c) (kdOf d) (unpt p) (unpt i) (numP v) (unpt t))) (fun hH => ?_)
      clear hK K hH n0 n1 n2 n3 n4 n5 n6 n7 y0 y1 y2 y3 y4 y5 y6 y7 hnl
      (try simp only [Act.put, List.setIfInBounds_toArray, List.set_cons_zero, List.set_cons_succ])
      refine wpAnyH_done (by kernel_rfl) ?_ _
      go_wp2_with fail
      go_meet
      exact ⟨g5, rfl, PE.of M.out N.out G.out.1 G.out.2.1 G.out.2.2 (unpt a) (numP b) (numP c) (kdOf d) (unpt p) (unpt i) (numP v) (unpt t)⟩
    go_simp
    refine (numP_any _ B1.out.1 _ M.out.lay).mono ?_
    rintro e wq9 ⟨rfl, hb⟩
    have M := Lib.hid (M.out.below hb)
    clear hb
    (try go_wp2_with fail)
    refine hK.out _ _ (PP.out M.out) (fun hH => ?_)
    clear hK K
    (try simp only [Act.put, List.setIfInBounds_toArray, List.set_cons_zero, List.set_cons_succ])
    refine wpAnyH_ready (rs := [11, 33]) (by kernel_rfl) (by simp) ?_
    refine AllReadyH.cons rfl (fun K hK => ?_) (AllReadyH.cons rfl (fun K hK => ?_) AllReadyH.nil)
    rotate_left
    · go_simp
      refine hK.out _ _ (PP.out (M.out.alloc _)) (fun hH => ?_)
      clear hK K
      (try simp only [Act.put, List.setIfInBounds_toArray, List.set_cons_zero, List.set_cons_succ])
      have N := Lib.hid (EvAt.newZ wq9)
      have G := Lib.hid (And.intro M.out.lt (And.intro M.out.ev.lt HZ.out))
      have M := Lib.hid (M.out.alloc (.cells #[.string ⟨#[]⟩, .int .i64 0, .int .i64 0, .int .i64 0, .string ⟨#[]⟩, .string ⟨#[]⟩, .int .i64 0, .string ⟨#[]⟩] 24))
      generalize wq9.alloc _ = wq10 at N M hH ⊢
      generalize wq9.heap.size = g5 at N G ⊢
      refine wpAnyH_ready (rs := [11]) (by kernel_rfl) (by simp) ?_
      refine AllReadyH.cons rfl (fun K hK => ?_) AllReadyH.nil
      go_simp
      refine (numP_any _ B1.out.2.1 _ M.out.lay).mono ?_
      rintro e wq11 ⟨rfl, hb⟩
      have M := Lib.hid (M.out.below hb)
      have N := Lib.hid (N.out.below hb N.out.lt)
      clear hb
      (try go_wp2_with fail)
      refine hK.out _ _ (PP.out M.out) (fun hH => ?_)
      clear hK K
      (try simp only [Act.put, List.setIfInBounds_toArray, List.set_cons_zero, List.set_cons_succ])
      refine wpAnyH_ready (rs := [15]) (by kernel_rfl) (by simp) ?_
      refine AllReadyH.cons rfl (fun K hK => ?_) AllReadyH.nil
      go_simp
      refine (kdOf_any _ _ M.out.lay.lay).mono ?_
      rintro e w9 ⟨rfl, rfl⟩
      (try go_wp2_with fail)
      refine hK.out _ _ (PP.out M.out) (fun hH => ?_)
      clear hK K
      (try simp only [Act.put, List.setIfInBounds_toArray, List.set_cons_zero, List.set_cons_succ])
      refine wpAnyH_ready (rs := [19]) (by kernel_rfl) (by simp) ?_
      refine AllReadyH.cons rfl (fun K hK => ?_) AllReadyH.nil
      go_simp
      refine (unpt_text _ _).mono ?_
      rintro e w9 ⟨rfl, rfl⟩
      (try go_wp2_with fail)
      refine hK.out _ _ (PP.out M.out) (fun hH => ?_)
      clear hK K
      (try simp only [Act.put, List.setIfInBounds_toArray, List.set_cons_zero, List.set_cons_succ])
      refine wpAnyH_ready (rs := [23]) (by kernel_rfl) (by simp) ?_
      refine AllReadyH.cons rfl (fun K hK => ?_) AllReadyH.nil
      go_simp
      refine (unpt_text _ _).mono ?_
      rintro e w9 ⟨rfl, rfl⟩
      (try go_wp2_with fail)
      refine hK.out _ _ (PP.out M.out) (fun hH => ?_)
      clear hK K
      (try simp only [Act.put, List.setIfInBounds_toArray, List.set_cons_zero, List.set_cons_succ])
      refine wpAnyH_ready (rs := [27]) (by kernel_rfl) (by simp) ?_
      refine AllReadyH.cons rfl (fun K hK => ?_) AllReadyH.nil
      go_simp
      refine (numP_any _ B1.out.2.2 _ M.out.lay).mono ?_
      rintro e wq12 ⟨rfl, hb⟩
      have M := Lib.hid (M.out.below hb)
      have N := Lib.hid (N.out.below hb N.out.lt)
      clear hb
      (try go_wp2_with fail)
      refine hK.out _ _ (PP.out M.out) (fun hH => ?_)
      clear hK K
      (try simp only [Act.put, List.setIfInBounds_toArray, List.set_cons_zero, List.set_cons_succ])
      refine wpAnyH_ready (rs := [31]) (by kernel_rfl) (by simp) ?_
      refine AllReadyH.cons rfl (fun K hK => ?_) AllReadyH.nil
      go_simp
      refine (unpt_text _ _).mono ?_
      rintro e w9 ⟨rfl, rfl⟩
      (try go_wp2_with fail)
      refine hK.out _ _ (PP.out M.out) (fun hH => ?_)
      clear hK K
      (try simp only [Act.put, List.setIfInBounds_toArray, List.set_cons_zero, List.set_cons_succ])
      refine wpAnyH_take (i := 32) (v := ?_) rfl (by kernel_rfl) (by kernel_rfl) (by kernel_rfl) (fun _ _ _ h => h) (Or.inl ⟨by rfl, ?_⟩) (by assumption) ?_
      rotate_left
      · intro w hSw
        (try dsimp only at hSw)
        go_simp
        (try with_reducible rfl)
      (try simp only [Act.put, List.setIfInBounds_toArray])
      obtain ⟨n0, n1, n2, n3, n4, n5, n6, n7⟩ := N.out.all
      simp only [zeroE] at n0 n1 n2 n3 n4 n5 n6 n7
      obtain ⟨y0, y1, y2, y3, y4, y5, y6, y7⟩ := N.out.frz
      have hnl := N.out.lt
      refine wpAnyH_ready (rs := [34]) (by kernel_rfl) (by simp) ?_
      refine AllReadyH.cons rfl (fun K hK => ?_) AllReadyH.nil
      go_simp
      refine hK.out _ _ (PP.out (M.out.put G.out.1 G.out.2.1 G.out.2.2 (unpt a) (numP b) (numP c) (kdOf d) (unpt p) (unpt i) (numP v) (unpt t))) (fun hH => ?_)
      clear hK K hH n0 n1 n2 n3 n4 n5 n6 n7 y0 y1 y2 y3 y4 y5 y6 y7 hnl
      (try simp only [Act.put, List.setIfInBounds_toArray, List.set_cons_zero, List.set_cons_succ])
      refine wpAnyH_done (by kernel_rfl) ?_ _
      go_wp2_with fail
      go_meet
      exact ⟨g5, rfl, PE.of M.out N.out G.out.1 G.out.2.1 G.out.2.2 (unpt a) (numP b) (numP c) (kdOf d) (unpt p) (unpt i) (numP v) (unpt t)⟩
    go_simp
    refine (numP_any _ B1.out.2.1 _ M.out.lay).mono ?_
    rintro e wq13 ⟨rfl, hb⟩
    have M := Lib.hid (M.out.below hb)
    clear hb
    (try go_wp2_with fail)
    refine hK.out _ _ (PP.out M.out) (fun hH => ?_)
    clear hK K
    (try simp only [Act.put, List.setIfInBounds_toArray, List.set_cons_zero, List.set_cons_succ])
    refine wpAnyH_ready (rs := [15, 33]) (by kernel_rfl) (by simp) ?_
    refine AllReadyH.cons rfl (fun K hK => ?_) (AllReadyH.cons rfl (fun K hK => ?_) AllReadyH.nil)
    rotate_left
    · go_simp
      refine hK.out _ _ (PP.out (M.out.alloc _)) (fun hH => ?_)
      clear hK K
      (try simp only [Act.put, List.setIfInBounds_toArray, List.set_cons_zero, List.set_cons_succ])
      have N := Lib.hid (EvAt.newZ wq13)
      have G := Lib.hid (And.intro M.out.lt (And.intro M.out.ev.lt HZ.out))
      have M := Lib.hid (M.out.alloc (.cells #[.string ⟨#[]⟩, .int .i64 0, .int .i64 0, .int .i64 0, .string ⟨#[]⟩, .string ⟨#[]⟩, .int .i64 0, .string ⟨#[]⟩] 24))
      generalize wq13.alloc _ = wq14 at N M hH ⊢
      generalize wq13.heap.size = g5 at N G ⊢
      refine wpAnyH_ready (rs := [15]) (by kernel_rfl) (by simp) ?_
      refine AllReadyH.cons rfl (fun K hK => ?_) AllReadyH.nil
      go_simp
      refine (kdOf_any _ _ M.out.lay.lay).mono ?_
      rintro e w9 ⟨rfl, rfl⟩
      (try go_wp2_with fail)
      refine hK.out _ _ (PP.out M.out) (fun hH => ?_)
      clear hK K
      (try simp only [Act.put, List.setIfInBounds_toArray, List.set_cons_zero, List.set_cons_succ])
      refine wpAnyH_ready (rs := [19]) (by kernel_rfl) (by simp) ?_
      refine AllReadyH.cons rfl (fun K hK => ?_) AllReadyH.nil
      go_simp
      refine (unpt_text _ _).mono ?_
      rintro e w9 ⟨rfl, rfl⟩
      (try go_wp2_with fail)
      refine hK.out _ _ (PP.out M.out) (fun hH => ?_)
      clear hK K
      (try simp only [Act.put, List.setIfInBounds_toArray, List.set_cons_zero, List.set_cons_succ])
      refine wpAnyH_ready (rs := [23]) (by kernel_rfl) (by simp) ?_
      refine AllReadyH.cons rfl (fun K hK => ?_) AllReadyH.nil
      go_simp
      refine (unpt_text _ _).mono ?_
      rintro e w9 ⟨rfl, rfl⟩
      (try go_wp2_with fail)
      refine hK.out _ _ (PP.out M.out) (fun hH => ?_)
      clear hK K
      (try simp only [Act.put, List.setIfInBounds_toArray, List.set_cons_zero, List.set_cons_succ])
      refine wpAnyH_ready (rs := [27]) (by kernel_rfl) (by simp) ?_
      refine AllReadyH.cons rfl (fun K hK => ?_) AllReadyH.nil
      go_simp
      refine (numP_any _ B1.out.2.2 _ M.out.lay).mono ?_
      rintro e wq15 ⟨rfl, hb⟩
      have M := Lib.hid (M.out.below hb)
      have N := Lib.hid (N.out.below hb N.out.lt)
      clear hb
      (try go_wp2_with fail)
      refine hK.out _ _ (PP.out M.out) (fun hH => ?_)
      clear hK K
      (try simp only [Act.put, List.setIfInBounds_toArray, List.set_cons_zero, List.set_cons_succ])
      refine wpAnyH_ready (rs := [31]) (by kernel_rfl) (by simp) ?_
      refine AllReadyH.cons rfl (fun K hK => ?_) AllReadyH.nil
      go_simp
      refine (unpt_text _ _).mono ?_
      rintro e w9 ⟨rfl, rfl⟩
      (try go_wp2_with fail)
      refine hK.out _ _ (PP.out M.out) (fun hH => ?_)
      clear hK K
      (try simp only [Act.put, List.setIfInBounds_toArray, List.set_cons_zero, List.set_cons_succ])
      refine wpAnyH_take (i := 32) (v := ?_) rfl (by kernel_rfl) (by kernel_rfl) (by kernel_rfl) (fun _ _ _ h => h) (Or.inl ⟨by rfl, ?_⟩) (by assumption) ?_
      rotate_left
      · intro w hSw
        (try dsimp only at hSw)
        go_simp
        (try with_reducible rfl)
      (try simp only [Act.put, List.setIfInBounds_toArray])
      obtain ⟨n0, n1, n2, n3, n4, n5, n6, n7⟩ := N.out.all
      simp only [zeroE] at n0 n1 n2 n3 n4 n5 n6 n7
      obtain ⟨y0, y1, y2, y3, y4, y5, y6, y7⟩ := N.out.frz
      have hnl := N.out.lt
      refine wpAnyH_ready (rs := [34]) (by kernel_rfl) (by simp) ?_
      refine AllReadyH.cons rfl (fun K hK => ?_) AllReadyH.nil
      go_simp
      refine hK.out _ _ (PP.out (M.out.put G.out.1 G.out.2.1 G.out.2.2 (unpt a) (numP b) (numP c) (kdOf d) (unpt p) (unpt i) (numP v) (unpt t))) (fun hH => ?_)
      clear hK K hH n0 n1 n2 n3 n4 n5 n6 n7 y0 y1 y2 y3 y4 y5 y6 y7 hnl
      (try simp only [Act.put, List.setIfInBounds_toArray, List.set_cons_zero, List.set_cons_succ])
      refine wpAnyH_done (by kernel_rfl) ?_ _
      go_wp2_with fail
      go_meet
      exact ⟨g5, rfl, PE.of M.out N.out G.out.1 G.out.2.1 G.out.2.2 (unpt a) (numP b) (numP c) (kdOf d) (unpt p) (unpt i) (numP v) (unpt t)⟩
    go_simp
    refine (kdOf_any _ _ M.out.lay.lay).mono ?_
    rintro e w9 ⟨rfl, rfl⟩
    (try go_wp2_with fail)
    refine hK.out _ _ (PP.out M.out) (fun hH => ?_)
    clear hK K
    (try simp only [Act.put, List.setIfInBounds_toArray, List.set_cons_zero, List.set_cons_succ])
    refine wpAnyH_ready (rs := [19, 33]) (by kernel_rfl) (by simp) ?_
    refine AllReadyH.cons rfl (fun K hK => ?_) (AllReadyH.cons rfl (fun K hK => ?_) AllReadyH.nil)
    rotate_left
    · go_simp
      refine hK.out _ _ (PP.out (M.out.alloc _)) (fun hH => ?_)
      clear hK K
      (try simp only [Act.put, List.setIfInBounds_toArray, List.set_cons_zero, List.set_cons_succ])
      have N := Lib.hid (EvAt.newZ wq13)
      have G := Lib.hid (And.intro M.out.lt (And.intro M.out.ev.lt HZ.out))
      have M := Lib.hid (M.out.alloc (.cells #[.string ⟨#[]⟩, .int .i64 0, .int .i64 0, .int .i64 0, .string ⟨#[]⟩, .string ⟨#[]⟩, .int .i64 0, .string ⟨#[]⟩] 24))
      generalize wq13.alloc _ = wq16 at N M hH ⊢
      generalize wq13.heap.size = g5 at N G ⊢
      refine wpAnyH_ready (rs := [19]) (by kernel_rfl) (by simp) ?_
      refine AllReadyH.cons rfl (fun K hK => ?_) AllReadyH.nil
      go_simp
      refine (unpt_text _ _).mono ?_
      rintro e w9 ⟨rfl, rfl⟩
      (try go_wp2_with fail)
      refine hK.out _ _ (PP.out M.out) (fun hH => ?_)
      clear hK K
      (try simp only [Act.put, List.setIfInBounds_toArray, List.set_cons_zero, List.set_cons_succ])
      refine wpAnyH_ready (rs := [23]) (by kernel_rfl) (by simp) ?_
      refine AllReadyH.cons rfl (fun K hK => ?_) AllReadyH.nil
      go_simp
      refine (unpt_text _ _).mono ?_
      rintro e w9 ⟨rfl, rfl⟩
      (try go_wp2_with fail)
      refine hK.out _ _ (PP.out M.out) (fun hH => ?_)
      clear hK K
      (try simp only [Act.put, List.setIfInBounds_toArray, List.set_cons_zero, List.set_cons_succ])
      refine wpAnyH_ready (rs := [27]) (by kernel_rfl) (by simp) ?_
      refine AllReadyH.cons rfl (fun K hK => ?_) AllReadyH.nil
      go_simp
      refine (numP_any _ B1.out.2.2 _ M.out.lay).mono ?_
      rintro e wq17 ⟨rfl, hb⟩
      have M := Lib.hid (M.out.below hb)
      have N := Lib.hid (N.out.below hb N.out.lt)
      clear hb
      (try go_wp2_with fail)
      refine hK.out _ _ (PP.out M.out) (fun hH => ?_)
      clear hK K
      (try simp only [Act.put, List.setIfInBounds_toArray, List.set_cons_zero, List.set_cons_succ])
      refine wpAnyH_ready (rs := [31]) (by kernel_rfl) (by simp) ?_
      refine AllReadyH.cons rfl (fun K hK => ?_) AllReadyH.nil
      go_simp
      refine (unpt_text _ _).mono ?_
      rintro e w9 ⟨rfl, rfl⟩
      (try go_wp2_with fail)
      refine hK.out _ _ (PP.out M.out) (fun hH => ?_)
      clear hK K
      (try simp only [Act.put, List.setIfInBounds_toArray, List.set_cons_zero, List.set_cons_succ])
      refine wpAnyH_take (i := 32) (v := ?_) rfl (by kernel_rfl) (by kernel_rfl) (by kernel_rfl) (fun _ _ _ h => h) (Or.inl ⟨by rfl, ?_⟩) (by assumption) ?_
      rotate_left
      · intro w hSw
        (try dsimp only at hSw)
        go_simp
        (try with_reducible rfl)
      (try simp only [Act.put, List.setIfInBounds_toArray])
      obtain ⟨n0, n1, n2, n3, n4, n5, n6, n7⟩ := N.out.all
      simp only [zeroE] at n0 n1 n2 n3 n4 n5 n6 n7
      obtain ⟨y0, y1, y2, y3, y4, y5, y6, y7⟩ := N.out.frz
      have hnl := N.out.lt
      refine wpAnyH_ready (rs := [34]) (by kernel_rfl) (by simp) ?_
      refine AllReadyH.cons rfl (fun K hK => ?_) AllReadyH.nil
      go_simp
      refine hK.out _ _ (PP.out (M.out.put G.out.1 G.out.2.1 G.out.2.2 (unpt a) (numP b) (numP c) (kdOf d) (unpt p) (unpt i) (numP v) (unpt t))) (fun hH => ?_)
      clear hK K hH n0 n1 n2 n3 n4 n5 n6 n7 y0 y1 y2 y3 y4 y5 y6 y7 hnl
      (try simp only [Act.put, List.setIfInBounds_toArray, List.set_cons_zero, List.set_cons_succ])
      refine wpAnyH_done (by kernel_rfl) ?_ _
      go_wp2_with fail
      go_meet
      exact ⟨g5, rfl, PE.of M.out N.out G.out.1 G.out.2.1 G.out.2.2 (unpt a) (numP b) (numP c) (kdOf d) (unpt p) (unpt i) (numP v) (unpt t)⟩
    go_simp
    refine (unpt_text _ _).mono ?_
    rintro e w9 ⟨rfl, rfl⟩
    (try go_wp2_with fail)
    refine hK.out _ _ (PP.out M.out) (fun hH => ?_)
    clear hK K
    (try simp only [Act.put, List.setIfInBounds_toArray, List.set_cons_zero, List.set_cons_succ])
    refine wpAnyH_ready (rs := [23, 33]) (by kernel_rfl) (by simp) ?_
    refine AllReadyH.cons rfl (fun K hK => ?_) (AllReadyH.cons rfl (fun K hK => ?_) AllReadyH.nil)
    rotate_left
    · go_simp
      refine hK.out _ _ (PP.out (M.out.alloc _)) (fun hH => ?_)
      clear hK K
      (try simp only [Act.put, List.setIfInBounds_toArray, List.set_cons_zero, List.set_cons_succ])
      have N := Lib.hid (EvAt.newZ wq13)
      have G := Lib.hid (And.intro M.out.lt (And.intro M.out.ev.lt HZ.out))
      have M := Lib.hid (M.out.alloc (.cells #[.string ⟨#[]⟩, .int .i64 0, .int .i64 0, .int .i64 0, .string ⟨#[]⟩, .string ⟨#[]⟩, .int .i64 0, .string ⟨#[]⟩] 24))
      generalize wq13.alloc _ = wq18 at N M hH ⊢
      generalize wq13.heap.size = g5 at N G ⊢
      refine wpAnyH_ready (rs := [23]) (by kernel_rfl) (by simp) ?_
      refine AllReadyH.cons rfl (fun K hK => ?_) AllReadyH.nil
      go_simp
      refine (unpt_text _ _).mono ?_
      rintro e w9 ⟨rfl, rfl⟩
      (try go_wp2_with fail)
      refine hK.out _ _ (PP.out M.out) (fun hH => ?_)
      clear hK K
      (try simp only [Act.put, List.setIfInBounds_toArray, List.set_cons_zero, List.set_cons_succ])
      refine wpAnyH_ready (rs := [27]) (by kernel_rfl) (by simp) ?_
      refine AllReadyH.cons rfl (fun K hK => ?_) AllReadyH.nil
      go_simp
      refine (numP_any _ B1.out.2.2 _ M.out.lay).mono ?_
      rintro e wq19 ⟨rfl, hb⟩
      have M := Lib.hid (M.out.below hb)
      have N := Lib.hid (N.out.below hb N.out.lt)
      clear hb
      (try go_wp2_with fail)
      refine hK.out _ _ (PP.out M.out) (fun hH => ?_)
      clear hK K
      (try simp only [Act.put, List.setIfInBounds_toArray, List.set_cons_zero, List.set_cons_succ])
      refine wpAnyH_ready (rs := [31]) (by kernel_rfl) (by simp) ?_
      refine AllReadyH.cons rfl (fun K hK => ?_) AllReadyH.nil
      go_simp
      refine (unpt_text _ _).mono ?_
      rintro e w9 ⟨rfl, rfl⟩
      (try go_wp2_with fail)
      refine hK.out _ _ (PP.out M.out) (fun hH => ?_)
      clear hK K
      (try simp only [Act.put, List.setIfInBounds_toArray, List.set_cons_zero, List.set_cons_succ])
      refine wpAnyH_take (i := 32) (v := ?_) rfl (by kernel_rfl) (by kernel_rfl) (by kernel_rfl) (fun _ _ _ h => h) (Or.inl ⟨by rfl, ?_⟩) (by assumption) ?_
      rotate_left
      · intro w hSw
        (try dsimp only at hSw)
        go_simp
        (try with_reducible rfl)
      (try simp only [Act.put, List.setIfInBounds_toArray])
      obtain ⟨n0, n1, n2, n3, n4, n5, n6, n7⟩ := N.out.all
      simp only [zeroE] at n0 n1 n2 n3 n4 n5 n6 n7
      obtain ⟨y0, y1, y2, y3, y4, y5, y6, y7⟩ := N.out.frz
      have hnl := N.out.lt
      refine wpAnyH_ready (rs := [34]) (by kernel_rfl) (by simp) ?_
      refine AllReadyH.cons rfl (fun K hK => ?_) AllReadyH.nil
      go_simp
      refine hK.out _ _ (PP.out (M.out.put G.out.1 G.out.2.1 G.out.2.2 (unpt a) (numP b) (numP c) (kdOf d) (unpt p) (unpt i) (numP v) (unpt t))) (fun hH => ?_)
      clear hK K hH n0 n1 n2 n3 n4 n5 n6 n7 y0 y1 y2 y3 y4 y5 y6 y7 hnl
      (try simp only [Act.put, List.setIfInBounds_toArray, List.set_cons_zero, List.set_cons_succ])
      refine wpAnyH_done (by kernel_rfl) ?_ _
      go_wp2_with fail
      go_meet
      exact ⟨g5, rfl, PE.of M.out N.out G.out.1 G.out.2.1 G.out.2.2 (unpt a) (numP b) (numP c) (kdOf d) (unpt p) (unpt i) (numP v) (unpt t)⟩
    go_simp
    refine (unpt_text _ _).mono ?_
    rintro e w9 ⟨rfl, rfl⟩
    (try go_wp2_with fail)
    refine hK.out _ _ (PP.out M.out) (fun hH => ?_)
    clear hK K
    (try simp only [Act.put, List.setIfInBounds_toArray, List.set_cons_zero, List.set_cons_succ])
    refine wpAnyH_ready (rs := [27, 33]) (by kernel_rfl) (by simp) ?_
    refine AllReadyH.cons rfl (fun K hK => ?_) (AllReadyH.cons rfl (fun K hK => ?_) AllReadyH.nil)
    rotate_left
    · go_simp
      refine hK.out _ _ (PP.out (M.out.alloc _)) (fun hH => ?_)
      clear hK K
      (try simp only [Act.put, List.setIfInBounds_toArray, List.set_cons_zero, List.set_cons_succ])
      have N := Lib.hid (EvAt.newZ wq13)
      have G := Lib.hid (And.intro M.out.lt (And.intro M.out.ev.lt HZ.out))
      have M := Lib.hid (M.out.alloc (.cells #[.string ⟨#[]⟩, .int .i64 0, .int .i64 0, .int .i64 0, .string ⟨#[]⟩, .string ⟨#[]⟩, .int .i64 0, .string ⟨#[]⟩] 24))
      generalize wq13.alloc _ = wq20 at N M hH ⊢
      generalize wq13.heap.size = g5 at N G ⊢
      refine wpAnyH_ready (rs := [27]) (by kernel_rfl) (by simp) ?_
      refine AllReadyH.cons rfl (fun K hK => ?_) AllReadyH.nil
      go_simp
      refine (numP_any _ B1.out.2.2 _ M.out.lay).mono ?_
      rintro e wq21 ⟨rfl, hb⟩
      have M := Lib.hid (M.out.below hb)
      have N := Lib.hid (N.out.below hb N.out.lt)
      clear hb
      (try go_wp2_with fail)
      refine hK.out _ _ (PP.out M.out) (fun hH => ?_)
      clear hK K
      (try simp only [Act.put, List.setIfInBounds_toArray, List.set_cons_zero, List.set_cons_succ])
      refine wpAnyH_ready (rs := [31]) (by kernel_rfl) (by simp) ?_
      refine AllReadyH.cons rfl (fun K hK => ?_) AllReadyH.nil
      go_simp
      refine (unpt_text _ _).mono ?_
      rintro e w9 ⟨rfl, rfl⟩
      (try go_wp2_with fail)
      refine hK.out _ _ (PP.out M.out) (fun hH => ?_)
      clear hK K
      (try simp only [Act.put, List.setIfInBounds_toArray, List.set_cons_zero, List.set_cons_succ])
      refine wpAnyH_take (i := 32) (v := ?_) rfl (by kernel_rfl) (by kernel_rfl) (by kernel_rfl) (fun _ _ _ h => h) (Or.inl ⟨by rfl, ?_⟩) (by assumption) ?_
      rotate_left
      · intro w hSw
        (try dsimp only at hSw)
        go_simp
        (try with_reducible rfl)
      (try simp only [Act.put, List.setIfInBounds_toArray])
      obtain ⟨n0, n1, n2, n3, n4, n5, n6, n7⟩ := N.out.all
      simp only [zeroE] at n0 n1 n2 n3 n4 n5 n6 n7
      obtain ⟨y0, y1, y2, y3, y4, y5, y6, y7⟩ := N.out.frz
      have hnl := N.out.lt
      refine wpAnyH_ready (rs := [34]) (by kernel_rfl) (by simp) ?_
      refine AllReadyH.cons rfl (fun K hK => ?_) AllReadyH.nil
      go_simp
      refine hK.out _ _ (PP.out (M.out.put G.out.1 G.out.2.1 G.out.2.2 (unpt a) (numP b) (numP c) (kdOf d) (unpt p) (unpt i) (numP v) (unpt t))) (fun hH => ?_)
      clear hK K hH n0 n1 n2 n3 n4 n5 n6 n7 y0 y1 y2 y3 y4 y5 y6 y7 hnl
      (try simp only [Act.put, List.setIfInBounds_toArray, List.set_cons_zero, List.set_cons_succ])
      refine wpAnyH_done (by kernel_rfl) ?_ _
      go_wp2_with fail
      go_meet
      exact ⟨g5, rfl, PE.of M.out N.out G.out.1 G.out.2.1 G.out.2.2 (unpt a) (numP b) (numP c) (kdOf d) (unpt p) (unpt i) (numP v) (unpt t)⟩
    go_simp
    refine (numP_any _ B1.out.2.2 _ M.out.lay).mono ?_
    rintro e wq22 ⟨rfl, hb⟩
    have M := Lib.hid (M.out.below hb)
    clear hb
    (try go_wp2_with fail)
    refine hK.out _ _ (PP.out M.out) (fun hH => ?_)
    clear hK K
    (try simp only [Act.put, List.setIfInBounds_toArray, List.set_cons_zero, List.set_cons_succ])
    refine wpAnyH_ready (rs := [31, 33]) (by kernel_rfl) (by simp) ?_
    refine AllReadyH.cons rfl (fun K hK => ?_) (AllReadyH.cons rfl (fun K hK => ?_) AllReadyH.nil)
    rotate_left
    · go_simp
      refine hK.out _ _ (PP.out (M.out.alloc _)) (fun hH => ?_)
      clear hK K
      (try simp only [Act.put, List.setIfInBounds_toArray, List.set_cons_zero, List.set_cons_succ])
      have N := Lib.hid (EvAt.newZ wq22)
      have G := Lib.hid (And.intro M.out.lt (And.intro M.out.ev.lt HZ.out))
      have M := Lib.hid (M.out.alloc (.cells #[.string ⟨#[]⟩, .int .i64 0, .int .i64 0, .int .i64 0, .string ⟨#[]⟩, .string ⟨#[]⟩, .int .i64 0, .string ⟨#[]⟩] 24))
      generalize wq22.alloc _ = wq23 at N M hH ⊢
      generalize wq22.heap.size = g5 at N G ⊢
      refine wpAnyH_ready (rs := [31]) (by kernel_rfl) (by simp) ?_
      refine AllReadyH.cons rfl (fun K hK => ?_) AllReadyH.nil
      go_simp
      refine (unpt_text _ _).mono ?_
      rintro e w9 ⟨rfl, rfl⟩
      (try go_wp2_with fail)
      refine hK.out _ _ (PP.out M.out) (fun hH => ?_)
      clear hK K
      (try simp only [Act.put, List.setIfInBounds_toArray, List.set_cons_zero, List.set_cons_succ])
      refine wpAnyH_take (i := 32) (v := ?_) rfl (by kernel_rfl) (by kernel_rfl) (by kernel_rfl) (fun _ _ _ h => h) (Or.inl ⟨by rfl, ?_⟩) (by assumption) ?_
      rotate_left
      · intro w hSw
        (try dsimp only at hSw)
        go_simp
        (try with_reducible rfl)
      (try simp only [Act.put, List.setIfInBounds_toArray])
      obtain ⟨n0, n1, n2, n3, n4, n5, n6, n7⟩ := N.out.all
      simp only [zeroE] at n0 n1 n2 n3 n4 n5 n6 n7
      obtain ⟨y0, y1, y2, y3, y4, y5, y6, y7⟩ := N.out.frz
      have hnl := N.out.lt
      refine wpAnyH_ready (rs := [34]) (by kernel_rfl) (by simp) ?_
      refine AllReadyH.cons rfl (fun K hK => ?_) AllReadyH.nil
      go_simp
      refine hK.out _ _ (PP.out (M.out.put G.out.1 G.out.2.1 G.out.2.2 (unpt a) (numP b) (numP c) (kdOf d) (unpt p) (unpt i) (numP v) (unpt t))) (fun hH => ?_)
      clear hK K hH n0 n1 n2 n3 n4 n5 n6 n7 y0 y1 y2 y3 y4 y5 y6 y7 hnl
      (try simp only [Act.put, List.setIfInBounds_toArray, List.set_cons_zero, List.set_cons_succ])
      refine wpAnyH_done (by kernel_rfl) ?_ _
      go_wp2_with fail
      go_meet
      exact ⟨g5, rfl, PE.of M.out N.out G.out.1 G.out.2.1 G.out.2.2 (unpt a) (numP b) (numP c) (kdOf d) (unpt p) (unpt i) (numP v) (unpt t)⟩
    go_simp
    refine (unpt_text _ _).mono ?_
    rintro e w9 ⟨rfl, rfl⟩
    (try go_wp2_with fail)
    refine hK.out _ _ (PP.out M.out) (fun hH => ?_)
    clear hK K
    (try simp only [Act.put, List.setIfInBounds_toArray, List.set_cons_zero, List.set_cons_succ])
    refine wpAnyH_take (i := 32) (v := ?_) rfl (by kernel_rfl) (by kernel_rfl) (by kernel_rfl) (fun _ _ _ h => h) (Or.inl ⟨by rfl, ?_⟩) (by assumption) ?_
    rotate_left
    · intro w hSw
      (try dsimp only at hSw)
      go_simp
      (try with_reducible rfl)
    (try simp only [Act.put, List.setIfInBounds_toArray])
    refine wpAnyH_ready (rs := [33]) (by kernel_rfl) (by simp) ?_
    refine AllReadyH.cons rfl (fun K hK => ?_) AllReadyH.nil
    go_simp
    refine hK.out _ _ (PP.out (M.out.alloc _)) (fun hH => ?_)
    clear hK K
    (try simp only [Act.put, List.setIfInBounds_toArray, List.set_cons_zero, List.set_cons_succ])
    have N := Lib.hid (EvAt.newZ wq22)
    have G := Lib.hid (And.intro M.out.lt (And.intro M.out.ev.lt HZ.out))
    have M := Lib.hid (M.out.alloc (.cells #[.string ⟨#[]⟩, .int .i64 0, .int .i64 0, .int .i64 0, .string ⟨#[]⟩, .string ⟨#[]⟩, .int .i64 0, .string ⟨#[]⟩] 24))
    generalize wq22.alloc _ = wq24 at N M hH ⊢
    generalize wq22.heap.size = g5 at N G ⊢
    obtain ⟨n0, n1, n2, n3, n4, n5, n6, n7⟩ := N.out.all
    simp only [zeroE] at n0 n1 n2 n3 n4 n5 n6 n7
    obtain ⟨y0, y1, y2, y3, y4, y5, y6, y7⟩ := N.out.frz
    have hnl := N.out.lt
    refine wpAnyH_ready (rs := [34]) (by kernel_rfl) (by simp) ?_
    refine AllReadyH.cons rfl (fun K hK => ?_) AllReadyH.nil
    go_simp
    refine hK.out _ _ (PP.out (M.out.put G.out.1 G.out.2.1 G.out.2.2 (unpt a) (numP b) (numP c) (kdOf d) (unpt p) (unpt i) (numP v) (unpt t))) (fun hH => ?_)
    clear hK K hH n0 n1 n2 n3 n4 n5 n6 n7 y0 y1 y2 y3 y4 y5 y6 y7 hnl
    (try simp only [Act.put, List.setIfInBounds_toArray, List.set_cons_zero, List.set_cons_succ])
    refine wpAnyH_done (by kernel_rfl) ?_ _
    go_wp2_with fail
    go_meet
    exact ⟨g5, rfl, PE.of M.out N.out G.out.1 G.out.2.1 G.out.2.2 (unpt a) (numP b) (numP c) (kdOf d) (unpt p) (unpt i) (numP v) (unpt t)⟩
  case rest =>
    obtain ⟨g5, rfl, P⟩ := hcut
    obtain ⟨c0, c1, c2, c3, c4, c5, c6, c7⟩ := P.new.all
    simp only at c0 c1 c2 c3 c4 c5 c6 c7
    have hl5 := P.new.lt
    clear M
    go_wp2_with fail
    refine (HCF.out _ P.lay.lay).mono ?_
    rintro e w2 ⟨rfl, hb⟩
    have Q := P.below hb
    have hq := HQ.out
    clear hb c0 c1 c2 c3 c4 c5 c6 c7 hl5 P
    obtain ⟨c0, c1, c2, c3, c4, c5, c6, c7⟩ := Q.new.all
    simp only at c0 c1 c2 c3 c4 c5 c6 c7
    have hl5 := Q.new.lt
    obtain ⟨r0, r1, r2, r3, r4, r5, r6, r7⟩ := Q.ev.all
    simp only [zeroE] at r0 r1 r2 r3 r4 r5 r6 r7
    obtain ⟨z0, z1, z2, z3, z4, z5, z6, z7⟩ := Q.ev.frz
    have hrl := Q.ev.lt
    cases ok
    · go_wp2_with fail
      have R1 := Q.ev.put ⟨#[]⟩ 0 0 0 ⟨#[]⟩ ⟨#[]⟩ 0 ⟨#[]⟩
      have BW := below_put Q.bw (Nat.le_refl _) ⟨#[]⟩ 0 0 0 ⟨#[]⟩ ⟨#[]⟩ 0 ⟨#[]⟩
      clear r0 r1 r2 r3 r4 r5 r6 r7 z0 z1 z2 z3 z4 z5 z6 z7 hrl Q c0 c1 c2 c3 c4 c5 c6 c7 hl5
      obtain ⟨r0, r1, r2, r3, r4, r5, r6, r7⟩ := R1.all
      simp only at r0 r1 r2 r3 r4 r5 r6 r7
      refine bodyPost_ret (v := .tuple #[.agg #[.string ⟨#[]⟩, .int .i64 0, .int .i64 0, .int .i64 0, .string ⟨#[]⟩, .string ⟨#[]⟩, .int .i64 0, .string ⟨#[]⟩], .int .i64 2]) (by simp [results, Tryd.results37, go_sem, r0, r1, r2, r3, r4, r5, r6, r7]) rfl ⟨rfl, BW⟩
    · go_wp2_with fail
      have R1 := Q.ev.put (unpt a) (numP b) (numP c) (kdOf d) (unpt p) (unpt i) (numP v) (unpt t)
      have BW := below_put Q.bw (Nat.le_refl _) (unpt a) (numP b) (numP c) (kdOf d) (unpt p) (unpt i) (numP v) (unpt t)
      clear r0 r1 r2 r3 r4 r5 r6 r7 z0 z1 z2 z3 z4 z5 z6 z7 hrl Q c0 c1 c2 c3 c4 c5 c6 c7 hl5
      obtain ⟨r0, r1, r2, r3, r4, r5, r6, r7⟩ := R1.all
      simp only at r0 r1 r2 r3 r4 r5 r6 r7
      refine bodyPost_ret (v := .tuple #[.agg #[.string (unpt a), .int .i64 (numP b), .int .i64 (numP c), .int .i64 (kdOf d), .string (unpt p), .string (unpt i), .int .i64 (numP v), .string (unpt t)], .int .i64 0]) (by simp [results, Tryd.results37, go_sem, r0, r1, r2, r3, r4, r5, r6, r7]) rfl ⟨rfl, BW⟩
end Go.Proofs.YthfhfekneahonaaDoor
