/- The walk of DiskNames. -/
import Derived.Test.YtfkefppabjbbdaaLp
namespace Go.Proofs.Ytfkefppabjbbdaa
open Go.RowKit Go.Maps
set_option linter.unusedVariables false
set_option maxRecDepth 100000 in
set_option maxHeartbeats 1000000 in
theorem law_names (v : Value) (l : List Cl) (w : World) (hv : Cls w w.heap.size v l) :
    Calls Try.prog 10 #[v] w fun e w' => e = .returned (.bool true) ∧ Below w.heap.size w w' := by
  have hlo := Lib.hid (long_any v l w.heap.size w hv (Nat.le_refl _))
  have haw := Lib.hid awake_any
  have fin : Hid (∀ w3 w4, Below w.heap.size w w3 → Below w3.heap.size w3 w4 → Below w.heap.size w w4) := Lib.hid (fun w3 w4 h3 h4 => h3.trans (h4.mono h3.size))
  cases hL : longL l with
  | true =>
    rw [hL] at hlo
    obtain ⟨q0, cap0, rfl, _⟩ := hv.shape
    clear hv hL
    go_enter Try.func10, Try.ntmps10
    go_wp2_with fail
    refine (hlo.out).mono ?_
    rintro e w1 ⟨rfl, hb1⟩
    have HB1 := Lib.hid hb1
    clear hb1
    go_wp2_with fail
    refine (haw.out _).mono ?_
    rintro e w2 ⟨rfl, hb2⟩
    have HB2 := Lib.hid (fin.out _ _ HB1.out hb2)
    clear hb2
    go_wp2_with fail
    go_ret
    exact ⟨rfl, HB2.out⟩
  | false =>
    rw [hL] at hlo
    have hpl : Hid (∀ w1, Below w.heap.size w w1 → Calls Try.prog 13 #[v] w1 fun e w' => ∃ d q n cap, e = .returned (.tuple #[.pointer (some ⟨d, 0, none⟩), .agg #[.slice q n cap, .int .i64 (playD l).fuse, .bool (playD l).down]]) ∧ DiskAt w' (fun i => w1.heap.size ≤ i) d (playD l) ∧ Files w' 0 (.slice q n cap) (playD l).L ∧ Below w1.heap.size w1 w') :=
      Lib.hid (fun w1 hb1 => play_any v l w1 ((hv.below hb1).up hb1.size) hL)
    obtain ⟨q0, cap0, rfl, _⟩ := hv.shape
    obtain ⟨k, hk⟩ : ∃ k, playD l = k := ⟨_, rfl⟩
    rw [hk] at hpl
    obtain ⟨dn, hdd⟩ : ∃ dn, k.down = dn := ⟨_, rfl⟩
    rw [hdd] at hpl
    have HDD := Lib.hid hdd
    clear hv hL hk hdd
    go_enter Try.func10, Try.ntmps10
    go_wp2_with fail
    refine (hlo.out).mono ?_
    rintro e w1 ⟨rfl, hb1⟩
    have HB1 := Lib.hid hb1
    clear hb1
    go_wp2_with fail
    refine (hpl.out _ HB1.out).mono ?_
    rintro e w2 ⟨d, q, m, cap, rfl, hd, hr, hb2⟩
    have HB2 := Lib.hid (fin.out _ _ HB1.out hb2)
    have HD := Lib.hid hd
    clear hd hr hb2 HB1
    go_upto_region 6 with fail
    have hd3 := HD.out.alloc (.cells #[.slice q m cap, .int .i64 k.fuse, .bool dn] 28)
    have hb3 := HB2.out.alloc HB2.out.size (.cells #[.slice q m cap, .int .i64 k.fuse, .bool dn] 28)
    clear HD HB2
    generalize w2.alloc (.cells #[.slice q m cap, .int .i64 k.fuse, .bool dn] 28) = w3 at hd3 hb3 ⊢
    have hok := hd3.ok
    obtain ⟨N, hN⟩ : ∃ N, k.L.length = N := ⟨_, rfl⟩
    have hN4 : N ≤ 4096 := by rw [← hN]; exact hok.len
    have hns := names_dk hd3
    rw [hN] at hns
    have HNS := Lib.hid hns
    have HB3 := Lib.hid hb3
    have HOK := Lib.hid hok
    have HN := Lib.hid hN
    clear hd3 hb3 hok hN hns
    go_wp2_with fail
    refine (HNS.out).mono ?_
    rintro e w4 ⟨qn, cn, rfl, ht, hd4, hb4⟩
    have HT := Lib.hid ht
    have HD4 := Lib.hid hd4
    have HB4 := Lib.hid (fin.out _ _ HB3.out hb4)
    obtain ⟨bt, hbt⟩ : ∃ b, w3.heap.size = b := ⟨_, rfl⟩
    rw [hbt] at HT
    clear ht hd4 hb4 HNS HB3 hbt
    go_wp2_with fail
    go_loopw [24] (fun iv wr => ∃ i : Nat, i ≤ N ∧ iv = .int .i64 i ∧ Hid (DiskAt wr (fun i => w1.heap.size ≤ i) d k) ∧ Hid (Below w4.heap.size w4 wr)) (fun iv _ => N - (intOf iv).toNat)
    case atStart => exact ⟨0, by omega, rfl, HD4, Lib.hid (Below.refl _ _)⟩
    case round =>
      obtain ⟨i, hi, rfl, HD, HB⟩ := hrel
      by_cases hlt : i < N
      · have hil : i < k.L.length := by rw [HN.out]; exact hlt
        have hT := HT.out.below HB.out (Nat.le_refl _)
        obtain ⟨g, rfl, hcn⟩ := hT.at i (by rw [List.length_map]; exact hil)
        rw [List.getElem_map] at hcn
        have hfn := HOK.out.names _ (List.getElem_mem hil)
        have hgt := getK_mem (k := Fl.name) HOK.out.sorted (List.getElem_mem hil)
        obtain ⟨f, hf⟩ : ∃ f, k.L[i] = f := ⟨_, rfl⟩
        rw [hf] at hcn hfn hgt
        have hrd := read_any HD.out f.name (by omega)
        have hfd : find k f.name = if k.down then 8 else 0 := by
          by_cases hdn : k.down = true
          · have ha : ask k f.name = 8 := by unfold ask; rw [if_pos hdn]
            rw [if_pos hdn, find_bad (by rw [ha]; decide), ha]
          · rw [if_neg hdn]
            exact find_ok (ask_ok (by simpa using hdn) (by omega) (by omega)) hgt
        rw [hfd, HDD.out] at hrd
        have HRD := Lib.hid hrd
        have HF := Lib.hid hf
        have HPR : Hid (∀ p, i = p + 1 → ∃ hp : p < k.L.length, k.L[p].name < f.name) := Lib.hid (fun p hp => by
          have h1 : p < k.L.length := by omega
          refine ⟨h1, ?_⟩
          have := List.pairwise_iff_getElem.1 HOK.out.sorted p i h1 hil (by omega)
          rw [hf] at this
          exact this)
        have hnl := bs_size f.name
        obtain ⟨M, hM⟩ : ∃ M, f.name.length = M := ⟨_, rfl⟩
        rw [hM] at hnl hfn
        obtain ⟨hf1, hf2⟩ := hfn
        have g1 : decide ((M : Int) < 1) = false := by simp; omega
        have g2 : decide ((64 : Int) < (M : Int)) = false := by simp; omega
        clear hf hgt hrd hfd hT hM
        go_wp2_with fail
        refine (HRD.out).mono ?_
        rintro e w5 ⟨u, rfl, ho, hd5, hb5⟩
        have hB5 := HB.out.trans (hb5.mono HB.out.size)
        have hT5 := HT.out.below hB5 (Nat.le_refl _)
        have hdn := hd5.down
        have HD5 := Lib.hid hd5
        have HB5 := Lib.hid hB5
        have HT5 := Lib.hid hT5
        rw [HDD.out] at hdn
        have HDW := Lib.hid (down_any w5 d dn hdn)
        clear hd5 hb5 hB5 hT5 ho hcn HRD HD hdn
        by_cases h0 : i = 0
        · have g3 : ¬ (0 < i) := by omega
          have g4 : ¬ ((0 : Int) < (i : Int)) := by omega
          clear h0
          cases dn
          · go_wp2_with fail
            refine (HDW.out).mono ?_
            rintro e w6 ⟨rfl, rfl⟩
            go_wp2_with fail
            go_roundw
            case rel => exact ⟨i + 1, by omega, by simp, HD5, HB5⟩
            case measure => simp only [intOf]; simp; omega
          · go_wp2_with fail
            refine (HDW.out).mono ?_
            rintro e w6 ⟨rfl, rfl⟩
            go_wp2_with fail
            go_roundw
            case rel => exact ⟨i + 1, by omega, by simp, HD5, HB5⟩
            case measure => simp only [intOf]; simp; omega
        · have g3 : 0 < i := by omega
          have g4 : (0 : Int) < (i : Int) := by omega
          obtain ⟨hp, hlt2⟩ := HPR.out (i - 1) (by omega)
          have hpN : i - 1 < N := by omega
          have hpN2 : (i : Int) - 1 < (N : Int) := by omega
          have hpN3 : (0 : Int) ≤ (i : Int) - 1 := by omega
          obtain ⟨g5, hg5, hcp⟩ := HT5.out.at (i - 1) (by rw [List.length_map]; exact hp)
          cases hg5
          rw [List.getElem_map] at hcp
          obtain ⟨f0, hf0⟩ : ∃ f0, k.L[i - 1] = f0 := ⟨_, rfl⟩
          rw [hf0] at hcp hlt2
          have l1 := less_no (a := f.name) (b := f0.name) (lt_asy hlt2)
          have l2 := text_no (a := f.name) (b := f0.name) (fun e => lt_irr _ (e ▸ hlt2))
          clear hf0 hlt2 h0 HPR
          cases dn
          · go_wp2_with fail
            refine (HDW.out).mono ?_
            rintro e w6 ⟨rfl, rfl⟩
            go_wp2_with fail
            go_roundw
            case rel => exact ⟨i + 1, by omega, by simp, HD5, HB5⟩
            case measure => simp only [intOf]; simp; omega
          · go_wp2_with fail
            refine (HDW.out).mono ?_
            rintro e w6 ⟨rfl, rfl⟩
            go_wp2_with fail
            go_roundw
            case rel => exact ⟨i + 1, by omega, by simp, HD5, HB5⟩
            case measure => simp only [intOf]; simp; omega
      · obtain rfl : i = N := by omega
        have HWB := Lib.hid (fin.out _ _ HB4.out HB.out)
        go_wp2_with fail
        refine (haw.out _).mono ?_
        rintro e w6 ⟨rfl, hb6⟩
        have HB6 := Lib.hid (fin.out _ _ HWB.out hb6)
        clear hb6
        go_wp2_with fail
        go_ret
        exact ⟨rfl, HB6.out⟩
end Go.Proofs.Ytfkefppabjbbdaa
