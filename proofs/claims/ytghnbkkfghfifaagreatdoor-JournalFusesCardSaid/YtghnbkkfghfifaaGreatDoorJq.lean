/- Decimal digits; how many files there are. -/
import Derived.Test.YtghnbkkfghfifaaGreatDoorJp
import Derived.Test.YtghnbkkfghfifaaGreatDoorS
namespace Go.Proofs.YtghnbkkfghfifaaGreatDoor
open Go.RowKit Go.Maps D
set_option linter.unusedVariables false
theorem dec_dig : ∀ (u : Nat), ∀ c ∈ Lib.decDigits u, 48 ≤ c.toNat ∧ c.toNat ≤ 57 := by
  intro u
  induction u using Nat.strongRecOn with
  | ind u ih =>
    rw [Lib.decDigits]
    split
    · rename_i h
      intro c hc
      rw [List.mem_singleton] at hc
      rw [hc, dig_nat h]; omega
    · rename_i h
      intro c hc
      rcases List.mem_append.1 hc with hc | hc
      · exact ih (u / 10) (by omega) c hc
      · rw [List.mem_singleton] at hc
        rw [hc, dig_nat (by omega)]; omega
theorem dec_head : ∀ (u : Nat), 0 < u → ∃ c r, Lib.decDigits u = c :: r ∧ c.toNat ≠ 48 := by
  intro u
  induction u using Nat.strongRecOn with
  | ind u ih =>
    intro h0
    rw [Lib.decDigits]
    split
    · rename_i h
      exact ⟨_, [], rfl, by rw [dig_nat h]; omega⟩
    · rename_i h
      obtain ⟨c, r, h1, h2⟩ := ih (u / 10) (by omega) (by omega)
      exact ⟨c, r ++ [UInt8.ofNat (48 + u % 10)], by rw [h1]; rfl, h2⟩
theorem isEmpty_no {s : ByteArray} (h : 0 < s.size) : s.toList.isEmpty = false := by
  rw [ByteArray.toList_eq]
  have e : s.size = s.data.toList.length := by rw [Array.length_toList]; rfl
  cases hh : s.data.toList with
  | nil => rw [hh, List.length_nil] at e; omega
  | cons _ _ => rfl
theorem decimal_any (u : Nat) (hu : u < 10000000000) (w : World) :
    Calls Tryz.prog 80 #[.string (bs (Lib.decDigits u))] w fun e w' => e = .returned (.bool true) ∧ w = w' := by
  obtain ⟨s, hs⟩ : ∃ s, bs (Lib.decDigits u) = s := ⟨_, rfl⟩
  have hd : ∀ k, (h : k < s.size) → 48 ≤ (s[k]).toNat ∧ (s[k]).toNat ≤ 57 := by
    intro k h
    subst hs
    exact dec_dig u _ (by show (Lib.decDigits u).toArray[k] ∈ _; exact List.getElem_mem _)
  have h1 : 0 < s.size := by
    subst hs
    have := dec_pos u
    show 0 < (Lib.decDigits u).toArray.size
    simp; omega
  have h0 : u = 0 ∨ (s[0]).toNat ≠ 48 := by
    by_cases h : u = 0
    · exact .inl h
    · obtain ⟨c, r, h2, h3⟩ := dec_head u (by omega)
      refine .inr ?_
      subst hs
      show ((Lib.decDigits u).toArray[0]).toNat ≠ 48
      simp [h2, h3]
  have h9 : s.size ≤ 100 := by
    subst hs
    have := dec_len 9 u (by omega)
    show (Lib.decDigits u).toArray.size ≤ 100
    simp; omega
  rw [hs]
  have HD := Lib.hid hd
  clear hd
  rcases h0 with rfl | h0
  · have e : (⟨#[48]⟩ : ByteArray) = s := by rw [← hs, Lib.decDigits, dif_pos (by decide)]; rfl
    subst e
    clear hs
    go_enter Tryz.func80, Tryz.ntmps80
    go_wp2
    go_loop [17] (fun i => ∃ k : Nat, k ≤ 1 ∧ i = .int .i64 k) (fun i => 1 - (intOf i).toNat)
    case atStart => exact ⟨0, Nat.zero_le _, rfl⟩
    case round =>
      obtain ⟨k, hk, rfl⟩ := hrel
      by_cases hlt : k < 1
      · obtain ⟨d1, d2⟩ := HD.out k hlt
        go_wp2
        go_round
        case rel => exact ⟨k + 1, by omega, by go_num⟩
        case measure => simp [intOf]; omega
      · obtain rfl : k = 1 := by omega
        go_wp2
        go_ret
        exact ⟨rfl, rfl⟩
  · have hne : s.toList.isEmpty = false := isEmpty_no h1
    clear hs
    go_enter Tryz.func80, Tryz.ntmps80
    go_wp2
    go_loop [17] (fun i => ∃ k : Nat, k ≤ s.size ∧ i = .int .i64 k) (fun i => s.size - (intOf i).toNat)
    case atStart => exact ⟨0, Nat.zero_le _, rfl⟩
    case round =>
      obtain ⟨k, hk, rfl⟩ := hrel
      by_cases hlt : k < s.size
      · obtain ⟨d1, d2⟩ := HD.out k hlt
        go_wp2
        go_round
        case rel => exact ⟨k + 1, by omega, by go_num⟩
        case measure => simp [intOf]; omega
      · obtain rfl : k = s.size := by omega
        go_wp2
        go_ret
        exact ⟨rfl, rfl⟩
theorem less_bs (a b : List UInt8) : Op.bytesLess (bs a).toList (bs b).toList = decide (a < b) := by
  rw [← Go.Proofs.bytesLess_eq, ByteArray.toList_eq, ByteArray.toList_eq]; rfl
theorem search_yes {ps : List (List UInt8)} {x : List UInt8} (hs : ps.Pairwise (· < ·)) (Sx : Nat → ByteArray) (hS : ∀ t, Sx t = bs (ps[t]?.getD x)) :
    decide (Lib.bsGo (fun t => Op.bytesLess (Sx t).toList (bs x).toList) ps.length 0 ps.length < ps.length ∧ Sx (Lib.bsGo (fun t => Op.bytesLess (Sx t).toList (bs x).toList) ps.length 0 ps.length) = bs x) = decide (x ∈ ps) := by
  have hP : ∀ t, Op.bytesLess (Sx t).toList (bs x).toList = decide (ps[t]?.getD x < x) := fun t => by rw [hS, less_bs]
  have hir : ¬ x < x := List.lt_irrefl x
  -- how many are below
  have hex : ∃ k, k ≤ ps.length ∧ (∀ t, t < k → ps[t]?.getD x < x) ∧ ¬ ps[k]?.getD x < x := by
    have : ∀ m, m ≤ ps.length → (∃ k, k ≤ ps.length ∧ (∀ t, t < k → ps[t]?.getD x < x) ∧ ¬ ps[k]?.getD x < x) ∨ (∀ t, t < m → ps[t]?.getD x < x) := by
      intro m
      induction m with
      | zero => exact fun _ => .inr (fun t h => by omega)
      | succ m ih =>
        intro hm
        rcases ih (by omega) with h | h
        · exact .inl h
        · by_cases hx : ps[m]?.getD x < x
          · exact .inr (fun t ht => by
              rcases Nat.lt_or_ge t m with h1 | h1
              · exact h t h1
              · obtain rfl : t = m := by omega
                exact hx)
          · exact .inl ⟨m, by omega, h, hx⟩
    rcases this ps.length (Nat.le_refl _) with h | h
    · exact h
    · exact ⟨ps.length, Nat.le_refl _, h, by rw [List.getElem?_eq_none (Nat.le_refl _)]; exact hir⟩
  obtain ⟨k, hk, h1, h2⟩ := hex
  have h3 : ∀ t, k ≤ t → ¬ ps[t]?.getD x < x := by
    intro t ht hl
    by_cases htl : t < ps.length
    · rcases Nat.lt_or_ge k t with hkt | hkt
      · have := List.pairwise_iff_getElem.1 hs k t (by omega) htl hkt
        rw [List.getElem?_eq_getElem htl] at hl
        rw [List.getElem?_eq_getElem (by omega)] at h2
        exact h2 (List.lt_trans this hl)
      · obtain rfl : t = k := by omega
        exact h2 hl
    · rw [List.getElem?_eq_none (by omega)] at hl
      exact hir hl
  rw [Lib.bsGo_spec _ k (fun t ht => by rw [hP]; simpa using h1 t ht) (fun t ht => by rw [hP]; simpa using h3 t ht) _ _ _ (by omega) (by omega) (by omega), hS]
  rw [decide_eq_decide]
  constructor
  · rintro ⟨h4, h5⟩
    rw [List.getElem?_eq_getElem h4] at h5
    have : ps[k] = x := by
      have := congrArg (fun z : ByteArray => z.data.toList) h5
      simpa [bs] using this
    rw [← this]; exact List.getElem_mem _
  · intro hm
    obtain ⟨t, ht, he⟩ := List.mem_iff_getElem.1 hm
    have h4 : k = t := by
      rcases Nat.lt_trichotomy k t with h | h | h
      · exfalso
        have := List.pairwise_iff_getElem.1 hs k t (by omega) ht h
        rw [he] at this
        rw [List.getElem?_eq_getElem (by omega)] at h2
        exact h2 this
      · exact h
      · exfalso
        have := h1 t h
        rw [List.getElem?_eq_getElem ht, ← he] at this
        exact List.lt_irrefl _ this
    subst h4
    refine ⟨ht, ?_⟩
    rw [List.getElem?_eq_getElem ht, ← he]; rfl
theorem cut_name (n : List UInt8) (k : Nat) : Lib.hasPrefix (bs (fileN n k)).data.toList (bs n ++ ⟨#[46]⟩).data.toList = true ∧ (⟨(Lib.trimPrefix (bs (fileN n k)).data.toList (bs n ++ ⟨#[46]⟩).data.toList).toArray⟩ : ByteArray) = bs (Lib.decDigits k) := by
  have e : (bs n ++ ⟨#[46]⟩).data.toList = n ++ [46] := by
    have e : (⟨#[46]⟩ : ByteArray) = bs [46] := rfl
    rw [e, bs_app]; rfl
  have e2 : (bs (fileN n k)).data.toList = (n ++ [46]) ++ Lib.decDigits k := by
    show fileN n k = _
    unfold fileN; simp
  have h1 : Lib.hasPrefix ((n ++ [46]) ++ Lib.decDigits k) (n ++ [46]) = true := by
    unfold Lib.hasPrefix
    rw [List.isPrefixOf_iff_prefix]
    exact List.prefix_append _ _
  rw [e, e2]
  refine ⟨h1, ?_⟩
  unfold Lib.trimPrefix
  rw [h1, if_pos rfl, List.drop_append_of_le_length (Nat.le_refl _), List.drop_length]; rfl
section
variable {w : World} {F : Nat → Prop} {d l : Nat} {n : List UInt8} {per : Nat} {v : Value} {j : Jn Ev}
set_option maxRecDepth 100000 in
set_option maxHeartbeats 2000000 in
set_option pp.maxSteps 100000 in
theorem count_any (hF : ∀ i, w.heap.size ≤ i → F i) (h : LogM w F d l n per v j) (h0 : j.files = 0) (hn : ∀ f ∈ j.dk.L, ∃ k, k < 1048576 ∧ f.name = fileN n k) (R : Nat) (hR : (R = 0 ∧ ∀ k, k < j.dk.L.length → fileN n k ∈ j.dk.L.map Fl.name) ∨ (R = 13 ∧ ∃ k, k < j.dk.L.length ∧ fileN n k ∉ j.dk.L.map Fl.name)) :
    Calls Tryz.prog 55 #[.pointer (some ⟨l, 0, none⟩)] w fun e w' => e = .returned (.int .i64 (R : Int)) ∧ LogM w' F d l n per v ⟨j.dk, j.dk.L.length, j.es, j.lasts, j.stuck⟩ ∧ Kept F w w' := by
  have c0 := h.self.c 0 rfl
  have hcall := names_dk h.sep
  obtain ⟨N, hN⟩ : ∃ N, j.dk.L.length = N := ⟨_, rfl⟩
  have hNb : N ≤ 4096 := by rw [← hN]; obtain ⟨B, E, hm, hE, hok⟩ := h.disk; exact hok.len
  have hsort : Sorted Fl.name j.dk.L := by obtain ⟨B, E, hm, hE, hok⟩ := h.disk; exact hok.sorted
  rw [hN] at hcall hR ⊢
  have HM := Lib.hid h
  have HC := Lib.hid hcall
  have HR := Lib.hid hR
  have HNN := Lib.hid hn
  have HN := Lib.hid hN
  have HS := Lib.hid hsort
  clear hcall h hR hn hN hsort
  go_enter Tryz.func55, Tryz.ntmps55
  go_wp2_with fail
  refine (HC.out).mono ?_
  rintro e w2 ⟨q, cap, rfl, ht, hd, hb⟩
  have HT := Lib.hid ht
  have HB := Lib.hid hb
  have HM2 := Lib.hid (HM.out.below hb)
  clear ht hd hb HC
  go_wp2_with fail
  go_loopw [18] (fun i wr => ∃ (k : Nat), k ≤ N ∧ i = .int .i64 k ∧ Hid (LogM wr F d l n per v ⟨j.dk, k, j.es, j.lasts, j.stuck⟩) ∧ Hid (Kept F w wr) ∧ Hid (Txts wr w.heap.size (.slice q N cap) (j.dk.L.map Fl.name))) (fun i _ => N - (intOf i).toNat)
  case atStart => exact ⟨0, by omega, rfl, by rw [← h0]; exact HM2, Lib.hid (Kept.bel (Kept.refl F w) HB.out), HT⟩
  case round =>
    obtain ⟨k, hk, rfl, HMr, HKr, HTr⟩ := hrel
    by_cases hlt : k < N
    · have hkl : k < (j.dk.L.map Fl.name).length := by rw [List.length_map, HN.out]; exact hlt
      obtain ⟨g, hq, hcell⟩ := HTr.out.at k hkl
      obtain ⟨u, hu, hnm⟩ := HNN.out (j.dk.L[k]'(by rw [HN.out]; exact hlt)) (List.getElem_mem _)
      rw [List.getElem_map, hnm] at hcell
      cases hq
      have hg : g < wr.heap.size := lt_of_cell hcell
      have c1 := HMr.out.self.c 1 rfl
      have c3 := HMr.out.self.c 3 rfl
      have f3 := HMr.out.self.f 3
      simp only at c3
      obtain ⟨z1, z2⟩ := cut_name n u
      have hcut := Tryz.strings_CutPrefix (bs (fileN n u)) (bs n ++ ⟨#[46]⟩) wr
      rw [z1, z2] at hcut
      have hdec := decimal_any u (by omega) wr
      have HC1 := Lib.hid hcut
      have HC2 := Lib.hid hdec
      obtain ⟨x, hx⟩ : ∃ x, bs (fileN n u) = x := ⟨_, rfl⟩
      obtain ⟨y, hy⟩ : ∃ y, bs (Lib.decDigits u) = y := ⟨_, rfl⟩
      obtain ⟨zz, hz⟩ : ∃ zz, bs n = zz := ⟨_, rfl⟩
      have hzs : zz.size ≤ 24 := by rw [← hz, bs_size]; exact HMr.out.name
      rw [hx, hy, hz] at HC1
      rw [hx] at hcell
      rw [hy] at HC2
      rw [hz] at c1
      clear hcut hdec z1 z2 hnm hx hy hkl hz
      go_wp2_with fail
      refine (HC1.out).mono ?_
      rintro e w9 ⟨rfl, hw9⟩
      subst w9
      go_wp2_with fail
      refine (HC2.out).mono ?_
      rintro e w9 ⟨rfl, hw9⟩
      subst w9
      go_wp2_with fail
      have hset := HMr.out.files (k + 1) (by omega)
      have hT2 := HTr.out.keptF ((Kept.refl (fun i => i = l) wr).grown (grownBy_set wr ⟨l, 3, none⟩ (.int .i64 ((k + 1 : Nat) : Int))) (fun i hi => .inr (by cases hi; rfl))) (fun g' hg' => by
        intro e
        have hb9 := HMr.out.self
        rcases HTr.out.2 with ⟨e9, _⟩ | ⟨g9, cap9, cur9, e9, _, h9, _⟩
        · cases e9
        · cases e9
          cases hg'
          subst e
          unfold Blk at hb9
          rw [hb9] at h9
          cases h9)
      refine ⟨⟨k + 1, by omega, by go_num, ?_, ?_, ?_⟩, by simp [intOf]; omega⟩
      · exact Lib.hid hset.1
      · exact Lib.hid (HKr.out.trans hset.2)
      · exact Lib.hid hT2
    · obtain rfl : k = N := by omega
      have c3 := HMr.out.self.c 3 rfl
      simp only at c3
      go_wp2_with fail
      obtain ⟨wo, rfl⟩ : ∃ wo : World, wo = wr := ⟨_, rfl⟩
      clear HM2 HT HB HNN c3
      go_loopw [49] (fun i wr => ∃ (m : Nat), m ≤ k ∧ i = .int .i64 m ∧ Hid (∀ t, t < m → fileN n t ∈ j.dk.L.map Fl.name) ∧ Hid (Below wo.heap.size wo wr)) (fun i _ => k - (intOf i).toNat)
      case atStart => exact ⟨0, by omega, rfl, Lib.hid (fun t h => by omega), Lib.hid (Below.refl _ _)⟩
      case round =>
        obtain ⟨m, hm, rfl, HA, HBr⟩ := hrel
        have HMw := Lib.hid (HMr.out.below HBr.out)
        have HTw := Lib.hid (HTr.out.below HBr.out (Nat.le_refl _))
        by_cases hmk : m < k
        · have hfile := file_any HMw.out m (by omega)
          have HF1 := Lib.hid hfile
          clear hfile
          go_wp2_with fail
          refine (HF1.out).mono ?_
          rintro e w8 ⟨rfl, hb8⟩
          have HT8 := Lib.hid (HTw.out.below hb8 (Nat.le_refl _))
          have HB8 := Lib.hid (HBr.out.trans (hb8.mono HBr.out.size))
          obtain ⟨Sx, hS⟩ : ∃ Sx : Nat → ByteArray, ∀ t, Sx t = bs ((j.dk.L.map Fl.name)[t]?.getD (fileN n m)) := ⟨_, fun t => rfl⟩
          have hlen : (j.dk.L.map Fl.name).length = k := by rw [List.length_map, HN.out]
          obtain ⟨g, hq, hq2⟩ := HT8.out.at m (by omega)
          clear hq2
          subst hq
          have hcells : ∀ t, t < k → w8.cell? ⟨g, 0 + t, none⟩ = some (.string (Sx t)) := fun t ht => by
            obtain ⟨g', hq, hc⟩ := HT8.out.at t (by omega)
            cases hq
            rw [Nat.zero_add, hc, hS, List.getElem?_eq_getElem (by omega)]; rfl
          have hbs := Tryz.slices_BinarySearch_string g 0 k cap Sx (bs (fileN n m)) w8 (by omega) hcells
          have hdec := search_yes (ps := j.dk.L.map Fl.name) (x := fileN n m) ((List.pairwise_map).2 HS.out) Sx hS
          rw [hlen] at hdec
          rw [hdec] at hbs
          obtain ⟨b0, hb0⟩ : ∃ b0, Lib.bsGo (fun t => Op.bytesLess (Sx t).toList (bs (fileN n m)).toList) k 0 k = b0 := ⟨_, rfl⟩
          rw [hb0] at hbs
          have HBS := Lib.hid hbs
          by_cases hmem : fileN n m ∈ j.dk.L.map Fl.name
          · rw [decide_eq_true hmem] at HBS
            have HME := Lib.hid hmem
            clear hbs hdec hb0 hcells hS hmem hlen HF1 hb8
            go_wp2_with fail
            refine (HBS.out).mono ?_
            rintro e w7 ⟨rfl, dq, hw7⟩
            have HB7 := Lib.hid (E.below_drewN HB8.out dq)
            go_wp2_with fail
            refine ⟨⟨m + 1, by omega, by go_num, Lib.hid (fun t ht => ?_), HB7⟩, by simp [intOf]; omega⟩
            rcases Nat.lt_or_ge t m with h5 | h5
            · exact HA.out t h5
            · obtain rfl : t = m := by omega
              exact HME.out
          · rw [decide_eq_false hmem] at HBS
            have HRR : R = 13 := by
              rcases HR.out with ⟨_, h5⟩ | ⟨h5, _⟩
              · exact absurd (h5 m hmk) hmem
              · exact h5
            subst HRR
            clear hbs hdec hb0 hcells hS hmem hlen HF1 hb8
            go_wp2_with fail
            refine (HBS.out).mono ?_
            rintro e w7 ⟨rfl, dq, hw7⟩
            have HB7 := Lib.hid (E.below_drewN HB8.out dq)
            go_wp2_with fail
            go_ret
            exact ⟨rfl, HMr.out.below HB7.out, Kept.bel HKr.out HB7.out⟩
        · obtain rfl : m = k := by omega
          have HRR : R = 0 := by
            rcases HR.out with ⟨h5, _⟩ | ⟨_, t, h5, h6⟩
            · exact h5
            · exact absurd (HA.out t h5) h6
          subst HRR
          go_wp2_with fail
          go_ret
          exact ⟨rfl, HMw.out, Kept.bel HKr.out HBr.out⟩
end
end Go.Proofs.YtghnbkkfghfifaaGreatDoor
