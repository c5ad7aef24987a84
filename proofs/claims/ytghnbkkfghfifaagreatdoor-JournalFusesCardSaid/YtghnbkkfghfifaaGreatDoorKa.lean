/- The chapter's example. -/
import Derived.Test.YtghnbkkfghfifaaGreatDoorJw
import Derived.Test.YtghnbkkfghfifaaGreatDoorJy
import Derived.Test.YtghnbkkfghfifaaGreatDoorJo
namespace Go.Proofs.YtghnbkkfghfifaaGreatDoor
open Go.RowKit Go.Maps D
set_option linter.unusedVariables false
theorem tn_new (n : List UInt8) (per : Nat) (hp : 1 ≤ per) (hn : n.length ≤ 24) : Tn (α := Ev) pay n per newD 0 [] 0 := by
  refine ⟨⟨fun i => ⟨fileN n i, [], 0, true⟩, ⟨List.Pairwise.nil, List.Perm.refl _, fun k hk => rfl⟩, fun i hi => by omega, fun h => by omega⟩, hp, Nat.zero_le _, by rw [Nat.zero_sub, Nat.zero_mul]; exact Nat.le_refl _, (fun x hx => by cases hx), Nat.zero_le _, hn⟩
abbrev jN : List UInt8 := [106]
theorem jN_name : E.nameB (bs jN) = true := by decide
theorem EvP.box {w : World} {b : Nat} {es : List Ev} {P : Nat → Prop} (h : Blk w b (evsL es) 52) (hP : P b) : EvP w P (.slice (some ⟨b, 0, none⟩) es.length es.length) es := by
  refine .inr ⟨⟨b, 0, none⟩, es.length, rfl, Nat.le_refl _, fun _ => ⟨hP, h.lt⟩, fun j hj => ev_of fun m hm => ?_⟩
  rw [Addr.add_mid, Nat.zero_add]
  have e := evsL_get es j m hj hm
  have h8 : (evL es[j]).length = 8 := rfl
  rw [← e]
  rw [List.getElem?_eq_getElem (show j * 8 + m < (evsL es).length by rw [evsL_len]; omega)]
  exact h.c _ (List.getElem?_eq_getElem (show j * 8 + m < (evsL es).length by rw [evsL_len]; omega))
/-- What an Append at such a journal does. -/
structure AppR (per : Nat) (j j' : Jn Ev) (xs : List Ev) : Prop where
  es : j'.es = j.es ++ xs
  none : xs = [] → j' = j
  files : xs ≠ [] → j'.files = (j.es.length + xs.length - 1) / per + 1
  lasts : j'.lasts = (if xs = [] then j.lasts else max j.lasts (auto (j.es.length + xs.length) per))
theorem all_may {xs : List Ev} (h : xs.all E.mayB = true) : ∀ x ∈ xs, OkE x := fun x hx => .inr (List.all_eq_true.1 h x hx)
theorem app_up {w : World} {F : Nat → Prop} {d l : Nat} {n : List UInt8} {per : Nat} {v : Value} {j : Jn Ev} {st : Bool} (hF : ∀ i, w.heap.size ≤ i → F i) (h : LogM w F d l n per v j) (hu : Up pay n per j st) (bv : Value) (xs : List Ev) (hv : EvP w (fun i => ¬ F i) bv xs) (hmay : xs.all E.mayB = true) (hl : j.es.length + xs.length ≤ 2000) :
    Calls Tryz.prog 30 #[.pointer (some ⟨l, 0, none⟩), bv] w fun e w' => e = .returned (.tuple #[.int .i64 (j.es.length : Int), .int .i64 0]) ∧ ∃ v' j' st', LogM w' F d l n per v' j' ∧ Kept F w w' ∧ Up pay n per j' st' ∧ AppR per j j' xs := by
  obtain ⟨j', st', e1, h1, h2, h3, h4, h5⟩ := Up.adds (pay := pay) xs hu (short_of (all_may hmay)) hl
  have hj : jappend pay n per E.mayB xs j = (j', j.es.length, 0) := by
    have hm : jmay E.mayB xs j = 0 := by
      unfold jmay
      rw [hu.stuck, hmay, if_neg (by simp), if_neg (by simp), if_neg (by omega)]
    unfold jappend
    rw [hm, if_neg (by simp), e1]
  have hsz : ∀ e ∈ xs, e.t.size ≤ 1000000000 := fun e he => by
    have := (E.fit_of (List.all_eq_true.1 hmay e he)).t
    omega
  refine (japp_any hF h bv xs hv (by omega) hsz).mono ?_
  rintro e w' ⟨v', rfl, hm, hk⟩
  rw [hj] at hm ⊢
  exact ⟨rfl, v', j', st', hm, hk, h1, ⟨h2, h3, h4, h5⟩⟩
theorem names_of {n : List UInt8} {d : Dk} {files : Nat} {g : Nat → Fl} (h : Holds n d files g) {ls : List (List UInt8)} (hs : ls.Pairwise (· < ·)) (hp : ls.Perm ((List.range files).map (fileN n))) : d.L.map Fl.name = ls := by
  have h1 : (d.L.map Fl.name).Pairwise (· < ·) := List.pairwise_map.2 h.sorted
  have h2 : (d.L.map Fl.name).Perm ls := by
    refine ((h.perm.map Fl.name).trans (List.Perm.of_eq ?_)).trans hp.symm
    rw [List.map_map]
    exact List.map_congr_left fun i hi => h.name i (List.mem_range.1 hi)
  exact List.Perm.eq_of_pairwise (fun a b _ _ h3 h4 => absurd (List.lt_trans h3 h4) (List.lt_irrefl a)) h1 hs h2
theorem strs_of {w : World} {base : Nat} {v : Value} {ps : List (List UInt8)} (h : Txts w base v ps) : E.Strs w v (ps.map bs) := by
  rcases h.2 with ⟨hv, h0⟩ | ⟨g, cap, cur, hv, hb, hg, hc, _⟩
  · exact .inl ⟨by rw [List.length_eq_zero_iff.1 h0]; rfl, none, 0, by rw [hv]⟩
  · subst hv
    refine .inr ⟨g, cap, lt_of_block hg, by rw [List.length_map]; exact hc, by rw [List.length_map], fun i x hx => ?_⟩
    have hi := (List.getElem?_eq_some_iff.1 hx).1
    rw [List.length_map] at hi
    obtain ⟨g', hq, hcell⟩ := h.at i hi
    cases hq
    rw [hcell]
    rw [List.getElem?_map, List.getElem?_eq_getElem hi] at hx
    cases hx; rfl
theorem strs_box {w : World} {b : Nat} {ps : List (List UInt8)} (h : Blk w b (ps.map fun p => Value.string (bs p)) 9) : E.Strs w (.slice (some ⟨b, 0, none⟩) ps.length ps.length) (ps.map bs) := by
  refine .inr ⟨b, ps.length, h.lt, by rw [List.length_map]; exact Nat.le_refl _, by rw [List.length_map], fun i x hx => ?_⟩
  have hi := (List.getElem?_eq_some_iff.1 hx).1
  rw [List.length_map] at hi
  rw [List.getElem?_map, List.getElem?_eq_getElem hi] at hx
  cases hx
  exact h.c i (by rw [List.getElem?_map, List.getElem?_eq_getElem hi]; rfl)
theorem file0 (n : List UInt8) : fileN n 0 = n ++ [46, 48] := by unfold fileN; rw [Lib.decDigits, dif_pos (by decide)]; rfl
theorem file1 (n : List UInt8) : fileN n 1 = n ++ [46, 49] := by unfold fileN; rw [Lib.decDigits, dif_pos (by decide)]; rfl
/-- A journal on a new disk. -/
theorem open_new {w : World} {F : Nat → Prop} {d : Nat} {n : List UInt8} {per : Nat} (hF : ∀ i, w.heap.size ≤ i → F i) (h7 : ∀ i, F i → 7 ≤ i) (hL : E.Lay w) (hd : DiskAt w F d newD) (hnm : E.nameB (bs n) = true) (hp : 1 ≤ per ∧ per ≤ 4096) :
    Calls Tryz.prog 23 #[.pointer (some ⟨d, 0, none⟩), .string (bs n), .int .i64 (per : Int)] w fun e w' => ∃ l v k', e = .returned (.tuple #[.pointer (some ⟨l, 0, none⟩), .int .i64 0]) ∧
      LogM w' F d l n per v ⟨k', 0, [], 0, 0⟩ ∧ Kept F w w' ∧ ∃ st, Up pay n per (⟨k', 0, [], 0, 0⟩ : Jn Ev) st := by
  have hn24 : n.length ≤ 24 := by have := (E.nameB_size hnm).2; rw [bs_size] at this; exact this
  exact open_tn hF h7 hL hd rfl rfl hnm hp.2 (tn_new n per hp.1 hn24) (fun x hx => by cases hx)
set_option maxRecDepth 100000 in
set_option maxHeartbeats 2000000 in
set_option pp.maxSteps 100000 in
theorem lives_any (w : World) (hL : E.Lay w) : Calls Tryz.prog 11 #[] w fun e w' => e = .returned (.bool true) ∧ Below w.heap.size w w' := by
  have hsz := hL.sz
  have HL := Lib.hid hL
  have HN := Lib.hid (new_dk w (fun i => w.heap.size ≤ i) (fun i hi => hi))
  clear hL
  go_enter Tryz.func11, Tryz.ntmps11
  go_wp2_with fail
  refine (HN.out).mono ?_
  rintro e w1 ⟨d, rfl, hd, hb1⟩
  have HO := Lib.hid (open_new (n := jN) (per := 2) (fun i hi => Nat.le_trans hb1.size hi) (fun i hi => by omega) (HL.out.next hb1) hd jN_name ⟨by decide, by decide⟩)
  go_wp2_with fail
  refine (HO.out).mono ?_
  rintro e w2 ⟨l, v, k', rfl, hm2, hk2, st, hu2⟩
  have HM2 := Lib.hid hm2
  have HK2 := Lib.hid ((Kept.bel (Kept.refl (fun i => w.heap.size ≤ i) w) hb1).trans hk2)
  have HU2 := Lib.hid hu2
  clear hd hb1 hm2 hk2 hu2 HO HN
  go_wp2_with fail
  obtain ⟨x, hx⟩ : ∃ x : Ev, x = ⟨⟨#[115]⟩, 1, 0, 14, ⟨#[112]⟩, ⟨#[]⟩, 0, ⟨#[]⟩⟩ := ⟨_, rfl⟩
  have hmay : [x, x, x].all E.mayB = true := by rw [hx]; decide
  have hm3 : LogM _ (fun i => w.heap.size ≤ i ∧ i ≠ w2.heap.size + 1) d l jN 2 v _ := ((HM2.out.mono (G := fun i => w.heap.size ≤ i ∧ i ≠ w2.heap.size + 1) (fun i hi hs => ⟨hi, by omega⟩) (fun i hi => by have := hi.1; omega)).alloc (.cells (evL x).toArray 52)).alloc (.cells (evsL [x, x, x]).toArray 52)
  have hblk : Blk ((w2.alloc (.cells (evL x).toArray 52)).alloc (.cells (evsL [x, x, x]).toArray 52)) (w2.heap.size + 1) (evsL [x, x, x]) 52 := by
    have := Blk.new (w2.alloc (.cells (evL x).toArray 52)) (evsL [x, x, x]) 52
    rw [World.size_alloc] at this
    exact this
  have hap := app_up (fun i hi => by rw [World.size_alloc, World.size_alloc] at hi; exact ⟨Nat.le_trans HK2.out.size (by omega), by omega⟩) hm3 HU2.out (.slice (some ⟨w2.heap.size + 1, 0, none⟩) 3 3) [x, x, x] (EvP.box hblk (by rintro ⟨h1, h2⟩; exact h2 rfl)) hmay (by simp)
  rw [hx] at hap
  have HAP := Lib.hid hap
  clear hap hblk hm3
  refine (HAP.out).mono ?_
  rintro e w4 ⟨rfl, v4, j4, st4, hm4, hk4, hu4, ha4⟩
  have HM4 := Lib.hid hm4
  have HK4 := Lib.hid (((HK2.out.alloc _).alloc _).trans (hk4.mono (fun i hi => hi.1)))
  have HU4 := Lib.hid hu4
  have HA4 := Lib.hid ha4
  clear hm4 hk4 hu4 ha4 HAP HM2 HK2 HU2
  have hf4 : j4.files = 2 := by have := HA4.out.files (by simp); simpa using this
  have he4 : j4.es.length = 3 := by rw [HA4.out.es]; rfl
  have hl4 : j4.lasts = 2 := by rw [HA4.out.lasts, if_neg (by simp)]; show max 0 (auto 3 2) = 2; decide
  have hnames : j4.dk.L.map Fl.name = [[106, 46, 48], [106, 46, 49]] := names_of HU4.out.lie.lies (by decide) (by rw [hf4]; exact List.Perm.of_eq (by simp [List.range, List.range.loop, file0, file1]))
  have HNA := Lib.hid (names_dk HM4.out.disk)
  rw [hnames] at HNA
  have hLn : j4.dk.L.length = 2 := by have := congrArg List.length hnames; simpa using this
  rw [hLn] at HNA
  go_wp2_with fail
  refine (HNA.out).mono ?_
  rintro e w5 ⟨q5, cap5, rfl, ht5, hd5, hb5⟩
  have HM5 := Lib.hid (HM4.out.below hb5)
  have HK5 := Lib.hid (Kept.bel HK4.out hb5)
  have HS5 := Lib.hid (strs_of ht5)
  clear ht5 hd5 hb5 HNA HM4 HK4
  have hbox : Blk (w5.alloc (.cells #[.string ⟨#[106, 46, 48]⟩, .string ⟨#[106, 46, 49]⟩] 9)) w5.heap.size ([[106, 46, 48], [106, 46, 49]].map fun p => Value.string (bs p)) 9 := Blk.new w5 [.string ⟨#[106, 46, 48]⟩, .string ⟨#[106, 46, 49]⟩] 9
  have HTX := Lib.hid (E.texts_same (.slice q5 2 cap5) (.slice (some ⟨w5.heap.size, 0, none⟩) 2 2) ([[106, 46, 48], [106, 46, 49]].map bs) (by simp) _ (HS5.out.below ((Below.refl _ w5).alloc (Nat.le_refl _) _)) (strs_box hbox))
  clear hbox
  go_wp2_with fail
  refine (HTX.out).mono ?_
  rintro e w6 ⟨rfl, q6, hw6⟩
  have hm6 := (HM5.out.alloc (.cells #[.string ⟨#[106, 46, 48]⟩, .string ⟨#[106, 46, 49]⟩] 9)).drewN q6
  have hk6 := Kept.bel (HK5.out.alloc (.cells #[.string ⟨#[106, 46, 48]⟩, .string ⟨#[106, 46, 49]⟩] 9)) (E.below_drewN (Below.refl _ _) q6)
  rw [← hw6] at hm6 hk6
  have HM6 := Lib.hid hm6
  have HK6 := Lib.hid hk6
  have HLE := Lib.hid (len_any HM6.out)
  rw [he4] at HLE
  have HLA := Lib.hid (lasting_any HM6.out)
  rw [hl4] at HLA
  clear hw6 hm6 hk6 HTX HS5
  go_wp2_with fail
  refine (HLE.out).mono ?_
  rintro e w7 ⟨rfl, hw7⟩
  subst w7
  go_wp2_with fail
  refine (HLA.out).mono ?_
  rintro e w7 ⟨rfl, hw7⟩
  subst w7
  go_wp2_with fail
  go_ret
  exact ⟨rfl, HK6.out.below (Nat.le_refl _) (fun i hi => hi)⟩
end Go.Proofs.YtghnbkkfghfifaaGreatDoor
