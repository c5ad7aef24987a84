/- The walk of EventSorts. -/
import Derived.Test.YthfhfekneahonaaDoorSj
import Derived.Test.YthfhfekneahonaaDoorP
import Derived.Laws.AppendOwnNone
namespace Go.Proofs.YthfhfekneahonaaDoor
open Go.RowKit
set_option linter.unusedVariables false
theorem evs_up {w : World} {B b : Nat} {bv : Value} {es : List Ev} (h : Evs w b bv es) (hl : b ≤ B) : Evs w B bv es := by
  rcases h with h | ⟨ad, cap, hv, hc, hg, hh⟩
  · exact .inl h
  · exact .inr ⟨ad, cap, hv, hc, fun h0 => by have := hg h0; omega, hh⟩
theorem own_evs {w : World} {base g n cap B : Nat} {es : List Ev} (h : w.ownsRow base 24 8 (.slice (some ⟨g, 0, none⟩) n cap) n (evsL es)) (hn : es.length = n) (hB : w.heap.size ≤ B) : Evs w B (.slice (some ⟨g, 0, none⟩) n cap) es := by
  subst hn
  obtain ⟨h1, h2, h3⟩ := own_lt h
  exact Evs.of h3 (fun _ => by show g < B; omega) (World.ownsRow.cells h rfl)
/-- A list that is in order stays. -/
theorem srt_id {l : List Ev} (h : ∀ i j (hi : i < j) (hj : j < l.length), lessE l[j] (l[i]'(by omega)) = false) : Srt l (List.range l.length) := by
  refine ⟨List.Perm.refl _, ?_⟩
  rw [List.pairwise_iff_getElem]
  intro i j hi hj hij
  rw [List.length_range] at hi hj
  rw [List.getElem_range, List.getElem_range, prec_late hij]
  unfold lessI
  rw [List.getD_eq_getElem?_getD, List.getD_eq_getElem?_getD, List.getElem?_eq_getElem hi, List.getElem?_eq_getElem hj]
  exact h i j hij hj
theorem pick_range (l : List Ev) : pick l (List.range l.length) = l := by
  unfold pick
  refine List.ext_getElem (by simp) (fun i h1 h2 => ?_)
  rw [List.getElem_map, List.getElem_range, List.getD_eq_getElem?_getD, List.getElem?_eq_getElem h2]; rfl
/-- Sorted, and sorted again: as it was. -/
theorem srt_again {l : List Ev} {p q : List Nat} (h : Srt l p) (g : Srt (pick l p) q) : pick (pick l p) q = pick l p := by
  have hl : (pick l p).length = p.length := pick_len l p
  have e : q = List.range (pick l p).length := by
    refine g.one (srt_id fun i j hij hj => ?_)
    rw [hl] at hj
    have hp := List.pairwise_iff_getElem.1 h.2 i j (by omega) hj hij
    have e1 : (pick l p)[j] = l.getD p[j] zeroE := by simp [pick]
    have e2 : (pick l p)[i] = l.getD p[i] zeroE := by simp [pick]
    rw [e1, e2]
    unfold prec at hp
    simp only [Bool.or_eq_false_iff] at hp
    exact hp.1
  rw [e, pick_range]
/-- What the law holds: the list that came in, its copy, what the program has sorted, what the reference has. -/
structure SO (W : World) (l : List Ev) (q : Option Addr) (cap g1 c1 : Nat) (w : World) : Prop where
  ev : Evs w W.heap.size (.slice q l.length cap) l
  was : w.ownsRow W.heap.size 24 8 (.slice (some ⟨g1, 0, none⟩) l.length c1) l.length (evsL l)
  bw : Below W.heap.size W w
  lay : Lay w
theorem SO.below {W w w' : World} {l : List Ev} {q : Option Addr} {cap g1 c1 : Nat} (h : SO W l q cap g1 c1 w) (hb : Below w.heap.size w w') : SO W l q cap g1 c1 w' :=
  ⟨h.ev.below hb h.bw.size, own_keep h.was (hb.block g1 (own_lt h.was).2.1), h.bw.trans (hb.mono h.bw.size), h.lay.next hb⟩
theorem SO.under {W w w' : World} {l : List Ev} {q : Option Addr} {cap g1 c1 B : Nat} (h : SO W l q cap g1 c1 w) (hb : Below B w w') (hB : g1 < B) (h9 : 9 ≤ B) (hW : W.heap.size ≤ B) : SO W l q cap g1 c1 w' :=
  ⟨h.ev.below hb hW, own_keep h.was (hb.block g1 hB), h.bw.trans (hb.mono hW), h.lay.below hb h9⟩
set_option maxRecDepth 100000 in
set_option maxHeartbeats 1000000 in
theorem sorts_long (l : List Ev) (bv : Value) (hl : 60 < l.length) (w : World) (hL : Lay w) (hv : Evs w w.heap.size bv l) :
    Calls Tryd.prog 5 #[bv] w fun e w' => e = .returned (.bool true) ∧ Below w.heap.size w w' := by
  obtain ⟨q, cap, rfl⟩ := hv.shape
  have HL := Lib.hid hL
  have h1 : (60 : Int) < (l.length : Int) := by omega
  clear hL hv
  go_enter Tryd.func5, Tryd.ntmps5
  go_wp2_with fail
  refine (lives_any _ HL.out).mono ?_
  rintro e w1 ⟨rfl, hb⟩
  go_wp2_with fail
  go_ret
  exact ⟨rfl, hb⟩
set_option maxRecDepth 100000 in
set_option maxHeartbeats 1000000 in
theorem sorts_big (l : List Ev) (bv : Value) (hl : ¬ 60 < l.length) (hs : l.all (fun e => decide (Small e 200)) = false) (w : World) (hL : Lay w) (hv : Evs w w.heap.size bv l) :
    Calls Tryd.prog 5 #[bv] w fun e w' => e = .returned (.bool true) ∧ Below w.heap.size w w' := by
  have C1 := fun w hv => rsome_any bv l 200 (by omega) w hv
  rw [hs] at C1
  obtain ⟨q, cap, rfl⟩ := hv.shape
  have H1 := Lib.hid C1
  have HL := Lib.hid hL
  have HV := Lib.hid hv
  have h1 : ¬ (60 : Int) < (l.length : Int) := by omega
  clear hL hv C1 hs
  go_enter Tryd.func5, Tryd.ntmps5
  go_wp2_with fail
  refine (lives_any _ HL.out).mono ?_
  rintro e w1 ⟨rfl, hb⟩
  have E1 : Evs w1 w1.heap.size (.slice q l.length cap) l := evs_up (HV.out.below hb (Nat.le_refl _)) hb.size
  go_wp2_with fail
  refine (H1.out _ E1).mono ?_
  rintro e w2 ⟨rfl, hb2⟩
  go_wp2_with fail
  go_ret
  exact ⟨rfl, hb.trans (hb2.mono hb.size)⟩
theorem some_set {w : World} {a b : Addr} {v : Value} (h : (w.cell? a).isSome = true) : ((w.setCell b v).cell? a).isSome = true := by
  by_cases e : b = a
  · subst e
    cases hc : w.cell? b with
    | none => rw [hc] at h; cases h
    | some u => rw [World.cell?_setCell_same _ _ _ hc]; rfl
  · rw [World.cell?_setCell_other _ _ _ _ e]; exact h
/-- Cells that can be written. -/
def Room (n g : Nat) (w : World) : Prop := ∀ j, j < n * 8 → (w.cell? ⟨g, j, none⟩).isSome = true ∧ w.frozen? ⟨g, j, none⟩ = false
theorem Room.set {n g : Nat} {w : World} (h : Room n g w) (b : Addr) (v : Value) : Room n g (w.setCell b v) := fun j hj => ⟨some_set (h j hj).1, by rw [World.frozen?_setCell]; exact (h j hj).2⟩
theorem Room.keep {n g : Nat} {w w' : World} (h : Room n g w) (he : w'.heap[g]? = w.heap[g]?) : Room n g w' := fun j hj => by
  have e1 := World.cell?_of_block (w := w) (a := ⟨g, j, none⟩) he
  have e2 : w'.frozen? ⟨g, j, none⟩ = w.frozen? ⟨g, j, none⟩ := by unfold World.frozen?; rw [he]
  rw [e1, e2]; exact h j hj
theorem room_of {l : List Ev} {w : World} {g : Nat} {r : Array Nat} (h : Go.Sort.HoldsK (encI l) 8 w g 0 r) : Room r.size g w := fun j hj => by
  have := h j (by rw [Go.Sort.size_flatK]; exact hj)
  rw [Nat.zero_add] at this
  exact ⟨by rw [this.1]; rfl, this.2⟩
theorem holds_keep {l : List Ev} {w w' : World} {g : Nat} {r : Array Nat} (h : Go.Sort.HoldsK (encI l) 8 w g 0 r) (he : w'.heap[g]? = w.heap[g]?) : Go.Sort.HoldsK (encI l) 8 w' g 0 r := fun j hj => by
  have e1 := World.cell?_of_block (w := w) (a := ⟨g, 0 + j, none⟩) he
  have e2 : w'.frozen? ⟨g, 0 + j, none⟩ = w.frozen? ⟨g, 0 + j, none⟩ := by unfold World.frozen?; rw [he]
  rw [e1, e2]; exact h j hj
set_option maxRecDepth 100000 in
set_option maxHeartbeats 8000000 in
theorem sorts_main (l : List Ev) (bv : Value) (hl : ¬ 60 < l.length) (hs : l.all (fun e => decide (Small e 200)) = true) (w : World) (hL : Lay w) (hv : Evs w w.heap.size bv l) :
    Calls Tryd.prog 5 #[bv] w fun e w' => e = .returned (.bool true) ∧ Below w.heap.size w w' := by
  obtain ⟨i0, hi, hz0, hz1, hz2⟩ := info_parts info24
  have HI := Lib.hid (And.intro hi (And.intro hz0 (And.intro hz1 hz2)))
  have C1 := fun w hv => rsome_any bv l 200 (by omega) w hv
  rw [hs] at C1
  obtain ⟨q, cap, rfl⟩ := hv.shape
  have H1 := Lib.hid C1
  have HL := Lib.hid hL
  have HV := Lib.hid hv
  have HN : Hid (l.length ≤ 60) := by show _ ≤ _; omega
  have h1 : ¬ (60 : Int) < (l.length : Int) := by omega
  clear hL hv C1 hs hi hz0 hz1 hz2 hl
  go_enter Tryd.func5, Tryd.ntmps5
  go_wp2_with fail
  refine (lives_any _ HL.out).mono ?_
  rintro e w1 ⟨rfl, hb⟩
  have E1 : Evs w1 w1.heap.size (.slice q l.length cap) l := evs_up (HV.out.below hb (Nat.le_refl _)) hb.size
  have HB1 := Lib.hid hb
  clear hb
  go_wp2_with fail
  refine (H1.out _ E1).mono ?_
  rintro e w2 ⟨rfl, hb2⟩
  have B2 : Hid (Below w.heap.size w w2) := HB1.out.trans (hb2.mono HB1.out.size)
  have L2 : Hid (Lay w2) := (HL.out.next HB1.out).next hb2
  clear E1 HB1 hb2
  go_upto_region 5 with fail
  go_cut [3] (fun s3 wx => ∃ g1 c1, s3 = .slice (some ⟨g1, 0, none⟩) l.length c1 ∧ SO w l q cap g1 c1 wx)
  case first =>
    have O0 : Hid ((w2.alloc (.cells #[] 24)).ownsRow w.heap.size 24 8 (.slice (some ⟨w2.heap.size, 0, none⟩) 0 0) 0 []) := own_lit8 w2 w.heap.size B2.out.size
    have B3 : Hid (Below w.heap.size w (w2.alloc (.cells #[] 24))) := B2.out.alloc B2.out.size _
    have L3 : Hid (Lay (w2.alloc (.cells #[] 24))) := L2.out.alloc _
    have E3 : Hid (Evs (w2.alloc (.cells #[] 24)) w.heap.size (.slice q l.length cap) l) := HV.out.below B3.out (Nat.le_refl _)
    have HZ : Hid (w.heap.size ≤ (w2.alloc (.cells #[] 24)).heap.size) := B3.out.size
    have HG : Hid (w2.heap.size ≥ w.heap.size) := B2.out.size
    clear B2 L2
    cases q with
    | none =>
      have hl0 : Hid (l.length = 0 ∧ l = [] ∧ cap = 0) := by
        rcases E3.out with ⟨h0, h3⟩ | ⟨ad, c, h3, _⟩
        · injection h3 with a1 a2 a3
          exact ⟨a2, h0, a3⟩
        · injection h3 with a1 a2 a3; cases a1
      go_wp2_with (at_builtin; refine wpList_append_own_none rfl (.tmp 16) (.tmp 17) 38 rfl w.heap.size 24 i0 8 Tryd.underlying38 HI.out.1 _ _ _ rfl O0.out (by show Value.slice none l.length cap = _; rw [hl0.out.1, hl0.out.2.2]) ?_)
      go_meet
      refine ⟨w2.heap.size, 0, by rw [hl0.out.1], E3.out, ?_, B3.out, L3.out⟩
      have h0 := O0.out
      rw [hl0.out.1, hl0.out.2.1]
      exact h0
    | some ad =>
      go_wp2_with (at_builtin; refine wpList_append_own _ rfl (.tmp 16) (.tmp 17) 38 rfl w.heap.size 24 i0 _ 8 96 Tryd.underlying38 HI.out.1 HI.out.2.1 HI.out.2.2.1 HI.out.2.2.2 rfl (by decide) _ 0 _ rfl O0.out ad l.length cap (evsL l) rfl ?a0 ?b0 ?c0 ?d0 ?e0 ?f0 ?_)
      case a0 => exact evsL_len l
      case b0 => exact E3.out.cells
      case c0 => exact evsL_one l
      case d0 => have := HN.out; unfold maxLen; omega
      case e0 => have := HN.out; omega
      case f0 => exact HZ.out
      intro q0 z0 hown' hgrow' hiff
      obtain ⟨g1, c1, rfl, hg1, hlt1, hc1⟩ := own_shape hown' hiff
      (try rw [Nat.zero_add] at hown' hc1)
      (try rw [List.nil_append] at hown')
      have B4 : Below w.heap.size w z0 := B3.out.grown hgrow' HZ.out (fun k hk => by cases hk; exact HG.out)
      have B5 : Below w.heap.size (w2.alloc (.cells #[] 24)) z0 := (Below.refl _ _).grown hgrow' HZ.out (fun k hk => by cases hk; exact HG.out)
      (try rw [Nat.zero_add])
      have fin : Hid (SO w l (some ad) cap g1 c1 z0) := ⟨HV.out.below B4 (Nat.le_refl _), hown', B4, HL.out.below B4 HL.out.sz⟩
      clear hown' hgrow' hiff B4 B5 hg1 hlt1 hc1
      go_wp2_with fail
      go_meet
      exact ⟨g1, c1, rfl, fin.out⟩
  case rest =>
    obtain ⟨g1, c1, rfl, M1⟩ := hcut
    have M := Lib.hid M1
    clear M1 B2 L2
    have e29 : ∀ args w, (callFunc 29 args).run Tryd.prog w = .ok (.enter 29 args) w := enters_of Tryd.func29 (by kernel_rfl) rfl
    go_wp2_with fail
    refine (psort_any l (by have := HN.out; omega) _ _ (evs_up M.out.ev M.out.bw.size)).mono ?_
    rintro e w3 ⟨g2, r, rfl, hsrt, hrs, hH, hg2, hlt2, hb⟩
    have M3 : Hid (SO w l q cap g1 c1 w3) := M.out.below hb
    have SR : Hid (Srt l r.toList ∧ r.size = l.length) := ⟨hsrt, hrs⟩
    have HH3 := Lib.hid hH
    have G2 : Hid (wc.heap.size ≤ g2 ∧ g2 < w3.heap.size ∧ g1 < wc.heap.size ∧ w.heap.size ≤ wc.heap.size ∧ 9 ≤ w.heap.size) := ⟨hg2, hlt2, (own_lt M.out.was).2.1, M.out.bw.size, HL.out.sz⟩
    clear M hsrt hrs hH hg2 hlt2 hb
    go_wp2_with fail
    refine (rsort_any l (by have := HN.out; omega) _ _ (own_evs M3.out.was rfl (Nat.le_refl _))).mono ?_
    rintro e w4 ⟨g3, cp3, ps, rfl, hs3, ho3, hb⟩
    have M4 : Hid (SO w l q cap g1 c1 w4) := M3.out.below hb
    have HH4 : Hid (Go.Sort.HoldsK (encI l) 8 w4 g2 0 r) := holds_keep HH3.out (hb.block g2 G2.out.2.1)
    have EP : Hid (ps = r.toList) := hs3.one SR.out.1
    have O4 : Hid (w4.ownsRow w3.heap.size 24 8 (.slice (some ⟨g3, 0, none⟩) l.length cp3) l.length (evsL (pick l r.toList))) := by
      show _
      rw [← EP.out]; exact ho3
    have G4 : Hid (g2 < w4.heap.size) := Nat.lt_of_lt_of_le G2.out.2.1 hb.size
    have PL : Hid ((pick l r.toList).length = l.length) := by
      show _ = _
      rw [pick_len, SR.out.1.len]
    clear hs3 ho3 hb M3 HH3 EP
    generalize hes : pick l r.toList = es at O4 PL
    have HES := Lib.hid hes
    clear hes
    have A4 : Evs w4 w4.heap.size (.slice (some ⟨g2, 0, none⟩) l.length l.length) es := by
      have h := holds_evs (B := w4.heap.size) (cap := l.length) HH4.out (by rw [SR.out.2]; exact Nat.le_refl _) G4.out
      rw [SR.out.2, HES.out] at h
      exact h
    have W4 : Evs w4 w4.heap.size (.slice (some ⟨g3, 0, none⟩) l.length cp3) es := own_evs O4.out PL.out (Nat.le_refl _)
    have PLs := PL.out
    rw [← PLs] at A4 W4
    have CA := Lib.hid (rsame_any _ _ es (by have := HN.out; omega) w4 A4 W4)
    rw [PLs] at CA A4 W4
    have HA4 := Lib.hid A4
    have HW4 := Lib.hid W4
    clear A4 W4 PLs
    go_wp2_with fail
    refine CA.out.mono ?_
    rintro e w5 ⟨rfl, hb5⟩
    have M5 : Hid (SO w l q cap g1 c1 w5) := M4.out.below hb5
    have HA5 : Hid (Evs w5 w5.heap.size (.slice (some ⟨g2, 0, none⟩) l.length l.length) es) := evs_up (HA4.out.below hb5 (Nat.le_refl _)) hb5.size
    have HW5 : Hid (Evs w5 w5.heap.size (.slice (some ⟨g3, 0, none⟩) l.length cp3) es) := evs_up (HW4.out.below hb5 (Nat.le_refl _)) hb5.size
    have HH5 : Hid (Go.Sort.HoldsK (encI l) 8 w5 g2 0 r) := holds_keep HH4.out (hb5.block g2 G4.out)
    have G5 : Hid (g2 < w5.heap.size) := Nat.lt_of_lt_of_le G4.out hb5.size
    clear CA hb5 M4 HA4 HW4 HH4 G4 O4
    have CB := Lib.hid (psort_any es (by have := HN.out; have := PL.out; omega) _ w5 HA5.out)
    rw [PL.out] at CB
    go_wp2_with fail
    refine CB.out.mono ?_
    rintro e w6 ⟨g4, r4, rfl, hs4, hr4, hH4, hg4, hlt4, hb6⟩
    have M6 : Hid (SO w l q cap g1 c1 w6) := M5.out.below hb6
    have HW6 : Hid (Evs w6 w6.heap.size (.slice (some ⟨g3, 0, none⟩) l.length cp3) es) := evs_up (HW5.out.below hb6 (Nat.le_refl _)) hb6.size
    have HH6 : Hid (Go.Sort.HoldsK (encI l) 8 w6 g2 0 r) := holds_keep HH5.out (hb6.block g2 G5.out)
    have G6 : Hid (g2 < w6.heap.size) := Nat.lt_of_lt_of_le G5.out hb6.size
    have A6 : Evs w6 w6.heap.size (.slice (some ⟨g4, 0, none⟩) l.length l.length) es := by
      have h := holds_evs (B := w6.heap.size) (cap := l.length) hH4 (by rw [hr4]; exact Nat.le_refl _) hlt4
      have hag : pick es r4.toList = es := by
        have h7 := hs4
        rw [← HES.out] at h7 ⊢
        exact srt_again SR.out.1 h7
      rw [hr4, hag] at h
      exact h
    have PLs := PL.out
    have W6 := HW6.out
    rw [← PLs] at A6 W6
    have CC := Lib.hid (rsame_any _ _ es (by have := HN.out; omega) w6 A6 W6)
    rw [PLs] at CC
    clear A6 W6 PLs CB hs4 hr4 hH4 hg4 hlt4 hb6 M5 HA5 HW5 HH5 G5
    go_wp2_with fail
    refine CC.out.mono ?_
    rintro e w7 ⟨rfl, hb7⟩
    have M7 : Hid (SO w l q cap g1 c1 w7) := M6.out.below hb7
    have R7 : Hid (Room l.length g2 w7) := by
      have h := room_of (holds_keep HH6.out (hb7.block g2 G6.out))
      rw [SR.out.2] at h
      exact h
    have G7 : Hid (g2 < w7.heap.size) := Nat.lt_of_lt_of_le G6.out hb7.size
    clear CC hb7 M6 HW6 HH6 G6
    have CD := Lib.hid (rsame_any _ _ l (by have := HN.out; omega) w7 (evs_up M7.out.ev M7.out.bw.size) (own_evs M7.out.was rfl (Nat.le_refl _)))
    go_wp2_with fail
    refine CD.out.mono ?_
    rintro e w8 ⟨rfl, hb8⟩
    have M8 : Hid (SO w l q cap g1 c1 w8) := M7.out.below hb8
    have R8 : Hid (Room l.length g2 w8) := R7.out.keep (hb8.block g2 G7.out)
    have G8 : Hid (g2 < w8.heap.size) := Nat.lt_of_lt_of_le G7.out hb8.size
    clear CD hb8 M7 R7 G7
    go_wp2_with fail
    go_loopw [6] (fun vi wr => ∃ k : Nat, k ≤ l.length ∧ vi = .int .i64 k ∧ Hid (Room l.length g2 wr) ∧ Hid (Below g2 w8 wr)) (fun vi _ => l.length - (intOf vi).toNat)
    case atStart => exact ⟨0, by omega, rfl, R8, Below.refl _ _⟩
    case round =>
      obtain ⟨k, hk, rfl, RR, BR⟩ := hrel
      by_cases hlt : k < l.length
      · have hltz : (k : Int) < (l.length : Int) := by omega
        obtain ⟨u1, u2⟩ := RR.out (k * 8 + 2) (by omega)
        obtain ⟨u, hu⟩ := Option.isSome_iff_exists.1 u1
        clear u1
        have RN : Hid (Room l.length g2 (wr.setCell ⟨g2, k * 8 + 2, none⟩ (.int .i64 (-1)))) := RR.out.set _ _
        have BN : Hid (Below g2 w8 (wr.setCell ⟨g2, k * 8 + 2, none⟩ (.int .i64 (-1)))) := BR.out.setCell (Nat.le_refl _) _
        go_wp2_with fail
        go_roundw
        case rel => exact ⟨k + 1, by omega, by go_num, RN, BN⟩
        case measure => simp [intOf]; omega
      · have hltz : ¬ (k : Int) < (l.length : Int) := by omega
        have M9 : Hid (SO w l q cap g1 c1 wr) := by
          have h := G2.out
          exact M8.out.under BR.out (by omega) (by omega) (by omega)
        have CE := Lib.hid (rsame_any _ _ l (by have := HN.out; omega) wr (evs_up M9.out.ev M9.out.bw.size) (own_evs M9.out.was rfl (Nat.le_refl _)))
        go_wp2_with fail
        refine CE.out.mono ?_
        rintro e w9 ⟨rfl, hb9⟩
        go_wp2_with fail
        go_ret
        exact ⟨rfl, M9.out.bw.trans (hb9.mono M9.out.bw.size)⟩
theorem law_sorts (bv : Value) (l : List Ev) (w : World) (hL : Lay w) (hv : Evs w w.heap.size bv l) :
    Calls Tryd.prog 5 #[bv] w fun e w' => e = .returned (.bool true) ∧ Below w.heap.size w w' := by
  by_cases hl : 60 < l.length
  · exact sorts_long l bv hl w hL hv
  · cases hs : l.all (fun e => decide (Small e 200)) with
    | true => exact sorts_main l bv hl hs w hL hv
    | false => exact sorts_big l bv hl hs w hL hv
end Go.Proofs.YthfhfekneahonaaDoor
