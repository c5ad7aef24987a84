/- A journal's files are loaded. -/
import Derived.Test.YtghnbkkfghfifaaGreatDoorJq
namespace Go.Proofs.YtghnbkkfghfifaaGreatDoor
open Go.RowKit Go.Maps D
set_option linter.unusedVariables false
/-- What a segment's file says. -/
structure SegF (c : List UInt8) (xs : List Ev) (wh st : Nat) : Prop where
  all : F.allL c = (xs.map pay, wh, st)
  ok : ∀ x ∈ xs, OkE x
  len : c.length ≤ 10000000
  le : wh ≤ c.length
theorem dec_pay {x : Ev} (h : OkE x) : decOne (pay x) x := by
  rcases h with rfl | h
  · exact .inl ⟨pay_zero, rfl⟩
  · refine .inr ?_
    rw [pay_may h]
    have := E.decL_ok x h []
    rw [List.append_nil] at this
    refine ⟨fun e => ?_, this⟩
    rw [e] at this
    cases this
/-- The first bytes of what is owned. -/
theorem OwnB.cut {w : World} {base : Nat} {q : Option Addr} {n cap : Nat} {l : List UInt8} (h : OwnB w base (.slice q n cap) l) (k : Nat) (hk : k ≤ l.length) : OwnB w base (.slice q k cap) (l.take k) := by
  obtain ⟨h1, h2⟩ := h
  have hl : (l.take k).length = k := by rw [List.length_take]; omega
  refine ⟨by rw [u8s_len, Nat.mul_one], ?_⟩
  rcases h2 with ⟨hv, h0⟩ | ⟨g, cap', cur, hv, hg, hh, hn, hc, hs, ht⟩
  · cases hv
    refine .inl ⟨by rw [show k = 0 by omega], by omega⟩
  · cases hv
    refine .inr ⟨g, cap, cur, by rw [hl], hg, hh, by omega, hc, hs, ?_⟩
    have e : u8s (l.take k) = (u8s l).take k := by unfold u8s; rw [List.map_take]
    rw [hl, e, ← ht, List.take_take, Nat.mul_one]
    congr 1
    omega
theorem OwnB.keptF {w w' : World} {G : Nat → Prop} {base : Nat} {v : Value} {l : List UInt8} (h : OwnB w base v l) (hk : Kept G w w') (hB : ∀ i, base ≤ i → i < w.heap.size → ¬ G i) : OwnB w' base v l := by
  obtain ⟨h1, h2⟩ := h
  refine ⟨h1, ?_⟩
  rcases h2 with h2 | ⟨g, cap, cur, e, hg, hh, r⟩
  · exact .inl h2
  · exact .inr ⟨g, cap, cur, e, hg, by rw [hk.block g (lt_of_block hh) (hB g hg (lt_of_block hh))]; exact hh, r⟩
abbrev allB (l : List UInt8) := F.allL l
theorem allB_any (v : Value) (l : List UInt8) (hl9 : l.length ≤ 1000000000) (w : World) (hv : Seen w w.heap.size v l) :
    Calls Tryz.prog 83 #[v] w fun e w' => ∃ u cs, e = .returned (.tuple #[u, .int .i64 ((allB l).2.1 : Nat), .int .i64 ((allB l).2.2 : Nat)]) ∧ PRows w' w.heap.size u (allB l).1 cs ∧ Below w.heap.size w w' := F.all_any v l hl9 w hv
/-- The last file's bytes, and how many of them are whole, when so many files are read. -/
def curC (fs : Nat → List UInt8) : Nat → List UInt8
  | 0 => []
  | k + 1 => fs k
def curW (wh : Nat → Nat) : Nat → Nat
  | 0 => 0
  | k + 1 => wh k
theorem flat_le {α : Type} (xs : Nat → List α) {a b : Nat} (h : a ≤ b) : (((List.range a).map xs).flatten).length ≤ (((List.range b).map xs).flatten).length := by
  induction b with
  | zero => rw [show a = 0 by omega]; exact Nat.le_refl _
  | succ b ih =>
    rcases Nat.lt_or_ge b a with h1 | h1
    · rw [show a = b + 1 by omega]; exact Nat.le_refl _
    · refine Nat.le_trans (ih h1) ?_
      rw [List.range_succ, List.map_append, List.flatten_append, List.length_append]
      omega
/-- Is it one that Open can't take? -/
def badSeg (per N k : Nat) (m st : Nat) : Prop := st = 2 ∨ per < m ∨ (k + 1 < N ∧ (st = 1 ∨ m < per))
section
variable {w : World} {F : Nat → Prop} {d l : Nat} {n : List UInt8} {per : Nat} {v : Value} {j : Jn Ev}
set_option maxRecDepth 100000 in
set_option maxHeartbeats 4000000 in
set_option pp.maxSteps 100000 in
theorem load_any (hF : ∀ i, w.heap.size ≤ i → F i) (h : LogM w F d l n per v j) (N : Nat) (hN : j.files = N) (fs : Nat → List UInt8) (xs : Nat → List Ev) (wh st : Nat → Nat) (ps : Nat → List (List UInt8)) (M : Nat) (hM : M ≤ N)
    (hr : ∀ k, k < N → find j.dk (fileN n k) = 0 ∧ readS j.dk (fileN n k) = fs k ∧ (fs k).length ≤ 10000000 ∧ allB (fs k) = (ps k, wh k, st k) ∧ wh k ≤ (fs k).length ∧ (ps k).length ≤ 10000000 ∧ st k ≤ 2)
    (hg : ∀ k, k < M → ¬ badSeg per N k (ps k).length (st k) ∧ ps k = (xs k).map pay ∧ ∀ x ∈ xs k, OkE x)
    (hb : M < N → badSeg per N M (ps M).length (st M))
    (hl : j.es.length + (((List.range M).map xs).flatten).length ≤ 1048576) :
    Calls Tryz.prog 56 #[.pointer (some ⟨l, 0, none⟩)] w fun e w' => ∃ v', LogM w' F d l n per v' ⟨j.dk, N, j.es ++ ((List.range M).map xs).flatten, j.lasts, j.stuck⟩ ∧ Kept F w w' ∧
      ((M = N ∧ ∃ u, e = .returned (.tuple #[.bool (decide (curW wh N < (curC fs N).length)), u, .int .i64 0]) ∧ OwnB w' w.heap.size u ((curC fs N).take (curW wh N))) ∨
       (M < N ∧ e = .returned (.tuple #[.bool false, .slice none 0 0, .int .i64 4]))) := by
  have c3 := h.self.c 3 rfl
  rw [hN] at c3
  have hNb : N ≤ 1048576 := by rw [← hN]; exact h.small.2.1
  have hlay := h.lay.sz
  have HM := Lib.hid h
  have HF := Lib.hid hF
  have HRD := Lib.hid hr
  have HG := Lib.hid hg
  have HBAD := Lib.hid hb
  have HLL := Lib.hid hl
  have HNN := Lib.hid hN
  clear h hF hr hg hb hl hN
  go_enter Tryz.func56, Tryz.ntmps56
  go_wp2_with fail
  go_loopw [5, 6, 17] (fun bu eu i wr => ∃ (k : Nat) (v' : Value), k ≤ M ∧ i = .int .i64 k ∧ eu = .int .i64 (curW wh k : Nat) ∧ Hid (LogM wr F d l n per v' ⟨j.dk, N, j.es ++ ((List.range k).map xs).flatten, j.lasts, j.stuck⟩) ∧ Hid (Kept F w wr) ∧ Hid (OwnB wr w.heap.size bu (curC fs k))) (fun _ _ i _ => N - (intOf i).toNat)
  case atStart =>
    refine ⟨0, v, by omega, rfl, rfl, Lib.hid ?_, Lib.hid (Kept.refl _ _), Lib.hid (OwnB.nil _ _)⟩
    have := HM.out
    rw [← HNN.out]
    simpa using this
  case round =>
    obtain ⟨k, v', hk, rfl, rfl, HMr, HKr, HOr⟩ := hrel
    by_cases hlt : k < N
    · obtain ⟨r1, r2, r3, r4, r5, r6, r7⟩ := HRD.out k hlt
      have c0 := HMr.out.self.c 0 rfl
      have hkd : k < 1048577 := by omega
      have HF1 := Lib.hid (file_any HMr.out.drew k (by omega))
      have HSH := Lib.hid (fileN_short (k := k) HMr.out.name (by omega))
      have R1 := Lib.hid r1
      have R2 := Lib.hid r2
      have R4 := Lib.hid r4
      have R3 := Lib.hid r3
      have R5 := Lib.hid r5
      have R6 := Lib.hid r6
      have R7 := Lib.hid r7
      clear r1 r2 r3 r4 r5 r6 r7
      go_wp2_with fail
      go_region_held3 (fun w' => w'.cell? ⟨l, 0, none⟩ = some (.pointer (some ⟨d, 0, none⟩))) (first | exact c0 | assumption)
        (first | (go_at_call 82; refine (HF1.out).mono ?_; rintro e w1 ⟨rfl, hb1⟩; have HM1 := Lib.hid (HMr.out.drew.below hb1); have c1 := HM1.out.self.c 0 rfl) | (go_at_call 19; refine (D.read_any HM1.out.disk (fileN n k) HSH.out).mono ?_; rintro e w2 ⟨ub, rfl, hob, hdb, hb2⟩; have HM2 := Lib.hid (HM1.out.below hb2); clear hdb; have c2 := HM2.out.self.c 0 rfl))
      clear c0 c1 c2
      rw [R1.out] 
      rw [R2.out] at hob
      have HB2 := Lib.hid (((E.below_drewN (Below.refl wr.heap.size wr) 1).trans hb1).trans (hb2.mono (by have := hb1.size; exact this)))
      have HOB := Lib.hid (OwnB.mono hob (base' := wr.heap.size) hb1.size)
      have hall := allB_any ub (fs k) (by have := R3.out; omega) w2 (Seen.own hob)
      have HAL := Lib.hid hall
      clear hall hob hb2 HOr hb1 HM1 HF1
      go_wp2_with fail
      refine (HAL.out).mono ?_
      rintro e w3 ⟨up, cs, rfl, hrows, hb3⟩
      have r4 := R4.out
      rw [r4] at hrows ⊢
      simp only at hrows ⊢
      have HB3 := Lib.hid (HB2.out.trans (hb3.mono HB2.out.size))
      have HRW := Lib.hid hrows
      have HO3 := Lib.hid (HOB.out.below hb3 (Nat.le_refl _))
      have HM3 := Lib.hid (HMr.out.below HB3.out)
      obtain ⟨L, hL⟩ : ∃ L, (ps k).length = L := ⟨_, rfl⟩
      obtain ⟨S, hS⟩ : ∃ S, st k = S := ⟨_, rfl⟩
      obtain ⟨W, hW⟩ : ∃ W, wh k = W := ⟨_, rfl⟩
      have c23 := HM3.out.self.c 2 rfl
      have c33 := HM3.out.self.c 3 rfl
      simp only at c33
      have hper := HM3.out.per1
      have hLL := R6.out
      rw [hL] at hLL
      have hslen : ∃ qp capp, up = .slice qp L capp := by
        rcases hrows.row.2 with ⟨h1, h2⟩ | ⟨g, cap, cur, h1, _⟩
        · exact ⟨none, 0, by rw [h1, ← hL, h2]⟩
        · exact ⟨_, cap, by rw [h1, hL]⟩
      obtain ⟨qp, capp, rfl⟩ := hslen
      rw [hS, hW]
      clear hb3 hrows r4 HAL
      by_cases hkM : k < M
      · obtain ⟨g1, g2, g3⟩ := HG.out k hkM
        rw [hL, hS] at g1
        unfold badSeg at g1
        have g4 : ¬ per < L := fun h => g1 (.inr (.inl h))
        have g5 : decide ((per : Int) < (L : Int)) = false := by simp; omega
        have hm3 : LogM w3 (fun i => F i ∧ (i < wr.heap.size ∨ w3.heap.size ≤ i)) d l n per v' ⟨j.dk, N, j.es ++ ((List.range k).map xs).flatten, j.lasts, j.stuck⟩ := (HMr.out.mono (fun i hi hs => ⟨hi, .inl hs⟩) (fun i hi => HM.out.seven i hi.1)).below HB3.out
        have hfl : ((List.range (k + 1)).map xs).flatten = ((List.range k).map xs).flatten ++ xs k := by rw [List.range_succ, List.map_append, List.flatten_append]; simp
        have hxl : (xs k).length = (ps k).length := by rw [g2, List.length_map]
        have hsum : (((List.range (k + 1)).map xs).flatten).length ≤ (((List.range M).map xs).flatten).length := flat_le xs (by omega)
        have htake := take_any (F := fun i => F i ∧ (i < wr.heap.size ∨ w3.heap.size ≤ i)) (fun i hi => ⟨HF.out i (Nat.le_trans HKr.out.size (Nat.le_trans HB3.out.size hi)), .inr hi⟩) hm3 w2.heap.size (.slice qp L capp) (ps k) cs HRW.out (fun i h1 h2 h3 => by have := HB2.out.size; rcases h3.2 with h4 | h4 <;> omega) (xs k) hxl (fun i h1 h2 => by
          have : (ps k)[i] = pay (xs k)[i] := by simp [g2]
          rw [this]
          exact dec_pay (g3 _ (List.getElem_mem _))) (by have := HLL.out; rw [hfl, List.length_append] at hsum; rw [List.length_append, ← hxl]; omega)
        simp only at htake
        rw [List.append_assoc, ← hfl] at htake
        have HTK := Lib.hid htake
        have HWW := Lib.hid hW
        have HSS := Lib.hid hS
        have hMN := hkM
        clear htake hm3 hfl hxl hsum g2 g3 HRW hL hW HM2 hS
        have hN1 : 1 ≤ N := by omega
        have hWb : W ≤ 10000000 := by rw [← HWW.out]; exact Nat.le_trans R5.out R3.out
        have hS2 : S = 0 ∨ S = 1 := by
          have := R7.out
          rw [HSS.out] at this
          rcases Nat.lt_or_ge S 2 with h2 | h2
          · omega
          · exact absurd (.inl (by omega)) g1
        rcases Nat.lt_or_ge (k + 1) N with hkN | hkN
        · have h0 : S = 0 := by
            rcases hS2 with h | h
            · exact h
            · exact absurd (.inr (.inr ⟨hkN, .inl h⟩)) g1
          subst h0
          have hLp : L = per := by
            rcases Nat.lt_or_ge L per with h | h
            · exact absurd (.inr (.inr ⟨hkN, .inr h⟩)) g1
            · omega
          subst hLp
          have hlast : ((k : Int) == (N : Int) - 1) = false := by simp; omega
          clear g1 hS2 hMN
          go_wp2_with fail
          refine (HTK.out).mono ?_
          rintro e w4 ⟨v4, rfl, hm4, hk4⟩
          have HM4 := Lib.hid (hm4.mono (G := F) (fun i hi hs => hi.1) HM.out.seven)
          have HK4 := Lib.hid ((Kept.bel HKr.out HB3.out).trans (hk4.mono (fun i hi => hi.1)))
          have HO4 := Lib.hid (OwnB.mono (OwnB.keptF HO3.out hk4 (fun i h1 h2 h3 => by rcases h3.2 with h4 | h4 <;> omega)) HKr.out.size)
          clear hm4 hk4
          go_wp2_with fail
          refine ⟨⟨k + 1, v4, by omega, by go_num, by rw [show curW wh (k + 1) = W from HWW.out], HM4, HK4, HO4⟩, by simp [intOf]; omega⟩
        · have hlast : ((k : Int) == (N : Int) - 1) = true := by simp; omega
          clear g1 hMN
          rcases hS2 with rfl | rfl
          · skip
            go_wp2_with fail
            refine (HTK.out).mono ?_
            rintro e w4 ⟨v4, rfl, hm4, hk4⟩
            have HM4 := Lib.hid (hm4.mono (G := F) (fun i hi hs => hi.1) HM.out.seven)
            have HK4 := Lib.hid ((Kept.bel HKr.out HB3.out).trans (hk4.mono (fun i hi => hi.1)))
            have HO4 := Lib.hid (OwnB.mono (OwnB.keptF HO3.out hk4 (fun i h1 h2 h3 => by rcases h3.2 with h4 | h4 <;> omega)) HKr.out.size)
            clear hm4 hk4
            go_wp2_with fail
            refine ⟨⟨k + 1, v4, by omega, by go_num, by rw [show curW wh (k + 1) = W from HWW.out], HM4, HK4, HO4⟩, by simp [intOf]; omega⟩
          · skip
            go_wp2_with fail
            refine (HTK.out).mono ?_
            rintro e w4 ⟨v4, rfl, hm4, hk4⟩
            have HM4 := Lib.hid (hm4.mono (G := F) (fun i hi hs => hi.1) HM.out.seven)
            have HK4 := Lib.hid ((Kept.bel HKr.out HB3.out).trans (hk4.mono (fun i hi => hi.1)))
            have HO4 := Lib.hid (OwnB.mono (OwnB.keptF HO3.out hk4 (fun i h1 h2 h3 => by rcases h3.2 with h4 | h4 <;> omega)) HKr.out.size)
            clear hm4 hk4
            go_wp2_with fail
            refine ⟨⟨k + 1, v4, by omega, by go_num, by rw [show curW wh (k + 1) = W from HWW.out], HM4, HK4, HO4⟩, by simp [intOf]; omega⟩
      · obtain rfl : k = M := by omega
        have hb9 := HBAD.out hlt
        rw [hL, hS] at hb9
        unfold badSeg at hb9
        have hS7 := R7.out
        rw [hS] at hS7
        by_cases b1 : S = 2
        · subst b1
          clear hb9 hS
          go_wp2_with fail
          go_ret3
          exact ⟨v', HM3.out, Kept.bel HKr.out HB3.out, .inr ⟨hlt, rfl⟩⟩
        · by_cases b2 : per < L
          · have g5 : decide ((per : Int) < (L : Int)) = true := by simp; omega
            have b3 : S = 0 ∨ S = 1 := by omega
            clear hb9 hS b1
            rcases b3 with rfl | rfl
            · skip
              go_wp2_with fail
              go_ret3
              exact ⟨v', HM3.out, Kept.bel HKr.out HB3.out, .inr ⟨hlt, rfl⟩⟩
            · skip
              go_wp2_with fail
              go_ret3
              exact ⟨v', HM3.out, Kept.bel HKr.out HB3.out, .inr ⟨hlt, rfl⟩⟩
          · have g5 : decide ((per : Int) < (L : Int)) = false := by simp; omega
            obtain ⟨b4, b5⟩ : k + 1 < N ∧ (S = 1 ∨ L < per) := by rcases hb9 with h | h | h <;> first | exact absurd h b1 | exact absurd h b2 | exact h
            have hlast : ((k : Int) == (N : Int) - 1) = false := by simp; omega
            by_cases b6 : S = 1
            · subst b6
              clear hb9 hS b5 b1
              go_wp2_with fail
              go_ret3
              exact ⟨v', HM3.out, Kept.bel HKr.out HB3.out, .inr ⟨hlt, rfl⟩⟩
            · have b7 : S = 0 := by omega
              subst b7
              have b8 : L < per := by rcases b5 with h | h <;> omega
              have g6 : decide ((L : Int) < (per : Int)) = true := by simp; omega
              clear hb9 hS b5 b1 b6
              go_wp2_with fail
              go_ret3
              exact ⟨v', HM3.out, Kept.bel HKr.out HB3.out, .inr ⟨hlt, rfl⟩⟩
    · obtain rfl : k = N := by omega
      obtain rfl : M = k := by omega
      have HFIN : Hid (curW wh M ≤ (curC fs M).length ∧ (curC fs M).length ≤ 10000000) := Lib.hid (by
        cases M with
        | zero => exact ⟨Nat.le_refl _, Nat.zero_le _⟩
        | succ m =>
          obtain ⟨_, _, a3, _, a5, _⟩ := HRD.out m (by omega)
          exact ⟨a5, a3⟩)
      obtain ⟨W, hW⟩ : ∃ W, curW wh M = W := ⟨_, rfl⟩
      obtain ⟨cc, hcc⟩ : ∃ cc, curC fs M = cc := ⟨_, rfl⟩
      obtain ⟨C, hC⟩ : ∃ C, cc.length = C := ⟨_, rfl⟩
      rw [hW, hcc] at HFIN
      rw [hW]
      rw [hcc] at HOr
      rw [hC] at HFIN
      have HFE : Hid (decide (curW wh M < (curC fs M).length) = decide (W < C) ∧ (curC fs M).take (curW wh M) = cc.take W) := Lib.hid (by rw [hW, hcc, hC]; exact ⟨rfl, rfl⟩)
      have hb1 := HFIN.out.1
      have hb2 := HFIN.out.2
      have hcap : ∃ q cap, u5 = .slice q C cap ∧ C ≤ cap ∧ OwnB wr w.heap.size (.slice q W cap) (cc.take W) ∧ (q = none ∨ ∃ g, q = some ⟨g, 0, none⟩) := by
        have ho := HOr.out
        rcases ho.2 with ⟨h1, h2⟩ | ⟨g, cap, cur, h1, _, _, h3, _⟩
        · subst h1
          exact ⟨none, 0, by rw [show C = 0 by omega], by omega, OwnB.cut HOr.out W (by omega), .inl rfl⟩
        · subst h1
          exact ⟨some ⟨g, 0, none⟩, cap, by rw [hC], by omega, OwnB.cut HOr.out W (by omega), .inr ⟨g, rfl⟩⟩
      obtain ⟨q, cap, rfl, hc9, ho9, hq9⟩ := hcap
      have HO9 := Lib.hid ho9
      clear ho9 HOr HFIN hcc hW hC
      have e1 : W ≤ cap := by omega
      have e2 : (W : Int) ≤ (cap : Int) := by omega
      have e3 : (0 : Int) ≤ (W : Int) := by omega
      rcases hq9 with rfl | ⟨g, rfl⟩
      · go_wp2_with fail
        go_quiet (fail)
        go_wp2_with fail
        go_ret3
        refine ⟨⟨v', HMr.out.drewN _⟩, Kept.bel HKr.out (E.below_drewN (Below.refl _ _) _), ?_⟩
        exact ⟨_, by rw [HFE.out.1]; rfl, by rw [HFE.out.2]; exact HO9.out⟩
      · go_wp2_with fail
        go_quiet (fail)
        go_wp2_with fail
        go_ret3
        refine ⟨⟨v', HMr.out.drewN _⟩, Kept.bel HKr.out (E.below_drewN (Below.refl _ _) _), ?_⟩
        exact ⟨_, by rw [HFE.out.1]; rfl, by rw [HFE.out.2]; exact HO9.out⟩
end
end Go.Proofs.YtghnbkkfghfifaaGreatDoor
