/- The walk of DiskBeginnings. -/
import Derived.Test.YtfkefppabjbbdaaFj
namespace Go.Proofs.Ytfkefppabjbbdaa
open Go.RowKit Go.Maps
set_option linter.unusedVariables false
theorem burn_up {k : Dk} (h1 : k.fuse = -1) : burn k = k := by unfold burn; rw [if_pos h1]
/-- A disk that is up, without a fuse, is so behind a step. -/
theorem st_up {k : Dk} (h1 : k.fuse = -1) (h2 : k.down = false) (kind : Int) (n s : List UInt8) : (stD k kind n s).fuse = -1 ∧ (stD k kind n s).down = false := by
  have hb : ∀ L, burn (withL k L) = withL k L := fun L => burn_up h1
  have hb0 := burn_up h1
  unfold stD appendD syncD replaceD removeD
  simp only [hb, hb0]
  repeat' split
  all_goals exact ⟨h1, h2⟩
set_option maxRecDepth 100000 in
set_option maxHeartbeats 4000000 in
theorem law_beginnings (v : Value) (l : List Cl) (kv : Value) (ks : List Int) (mv : Value) (ms : List Int) (w : World) (hv : Cls w w.heap.size v l) (hk : Ints w (fun i => i < w.heap.size) kv ks) (hm : Ints w (fun i => i < w.heap.size) mv ms) :
    Calls Try.prog 5 #[v, kv, mv] w fun e w' => e = .returned (.bool true) ∧ Below w.heap.size w w' := by
  have hlo := Lib.hid (long_any v l w.heap.size w hv (Nat.le_refl _))
  have haw := Lib.hid awake_any
  have fin : Hid (∀ w3 w4, Below w.heap.size w w3 → Below w3.heap.size w3 w4 → Below w.heap.size w w4) := Lib.hid (fun w3 w4 h3 h4 => h3.trans (h4.mono h3.size))
  obtain ⟨kq, kc, rfl⟩ := hk.len
  obtain ⟨mq, mc, rfl⟩ := hm.len
  obtain ⟨kn, hkn⟩ : ∃ n, ks.length = n := ⟨_, rfl⟩
  obtain ⟨mn, hmn⟩ : ∃ n, ms.length = n := ⟨_, rfl⟩
  rw [hkn] at hk
  rw [hmn] at hm
  rw [hkn, hmn]
  cases hL : longL l with
  | true =>
    rw [hL] at hlo
    obtain ⟨q0, cap0, rfl, _⟩ := hv.shape
    clear hv hL hk hm hkn hmn
    go_enter Try.func5, Try.ntmps5
    go_wp2_with fail
    refine (hlo.out).mono ?_
    rintro e w1 ⟨rfl, hb1⟩
    have HB1 := Lib.hid hb1
    clear hb1
    go_wp2_with fail
    refine (haw.out _).mono ?_
    rintro e w2 ⟨rfl, hb2⟩
    have HB2 := Lib.hid (fin.out _ _ HB1.out hb2)
    clear hb2
    go_wp2_with fail
    go_ret
    exact ⟨rfl, HB2.out⟩
  | false =>
    rw [hL] at hlo
    by_cases h1 : 20 < kn
    · have g1 : decide ((20 : Int) < (kn : Int)) = true := by simp; omega
      obtain ⟨q0, cap0, rfl, _⟩ := hv.shape
      clear hv hL hk hm hkn hmn
      go_enter Try.func5, Try.ntmps5
      go_wp2_with fail
      refine (hlo.out).mono ?_
      rintro e w1 ⟨rfl, hb1⟩
      have HB1 := Lib.hid hb1
      clear hb1
      go_wp2_with fail
      refine (haw.out _).mono ?_
      rintro e w2 ⟨rfl, hb2⟩
      have HB2 := Lib.hid (fin.out _ _ HB1.out hb2)
      clear hb2
      go_wp2_with fail
      go_ret
      exact ⟨rfl, HB2.out⟩
    have g1 : decide ((20 : Int) < (kn : Int)) = false := by simp; omega
    by_cases h2 : 20 < mn
    · have g2 : decide ((20 : Int) < (mn : Int)) = true := by simp; omega
      obtain ⟨q0, cap0, rfl, _⟩ := hv.shape
      clear hv hL hk hm hkn hmn
      go_enter Try.func5, Try.ntmps5
      go_wp2_with fail
      refine (hlo.out).mono ?_
      rintro e w1 ⟨rfl, hb1⟩
      have HB1 := Lib.hid hb1
      clear hb1
      go_wp2_with fail
      refine (haw.out _).mono ?_
      rintro e w2 ⟨rfl, hb2⟩
      have HB2 := Lib.hid (fin.out _ _ HB1.out hb2)
      clear hb2
      go_wp2_with fail
      go_ret
      exact ⟨rfl, HB2.out⟩
    have g2 : decide ((20 : Int) < (mn : Int)) = false := by simp; omega
    have hpl : Hid (∀ w1, Below w.heap.size w w1 → Calls Try.prog 13 #[v] w1 fun e w' => ∃ d q n cap, e = .returned (.tuple #[.pointer (some ⟨d, 0, none⟩), .agg #[.slice q n cap, .int .i64 (playD l).fuse, .bool (playD l).down]]) ∧ DiskAt w' (fun i => w1.heap.size ≤ i) d (playD l) ∧ Files w' 0 (.slice q n cap) (playD l).L ∧ Below w1.heap.size w1 w') :=
      Lib.hid (fun w1 hb1 => play_any v l w1 ((hv.below hb1).up hb1.size) hL)
    obtain ⟨q0, cap0, rfl, _⟩ := hv.shape
    obtain ⟨k, hkk⟩ : ∃ k, playD l = k := ⟨_, rfl⟩
    rw [hkk] at hpl
    have hlen := longL_len hL
    obtain ⟨N, hN⟩ : ∃ N, l.length = N := ⟨_, rfl⟩
    rw [hN] at hv hlo hpl hlen
    rw [hN]
    have HV := Lib.hid hv
    have HN := Lib.hid hN
    have HL := Lib.hid hL
    have HK := Lib.hid hk
    have HM := Lib.hid hm
    have HKN : Hid (ks.length = kn ∧ kn ≤ 20) := Lib.hid ⟨hkn, by omega⟩
    have HMN : Hid (ms.length = mn ∧ mn ≤ 20) := Lib.hid ⟨hmn, by omega⟩
    clear hv hL hkk hN hk hm hkn hmn h1 h2
    go_enter Try.func5, Try.ntmps5
    go_wp2_with fail
    refine (hlo.out).mono ?_
    rintro e w1 ⟨rfl, hb1⟩
    have HB1 := Lib.hid hb1
    clear hb1 hlo
    go_wp2_with fail
    refine (hpl.out _ HB1.out).mono ?_
    rintro e w2 ⟨d, q, n, cap, rfl, hd, hr, hb2⟩
    have HB2 := Lib.hid (fin.out _ _ HB1.out hb2)
    have HD : Hid (DiskAt w2 (fun i => w.heap.size ≤ i) d k) := Lib.hid (hd.mono (fun i hi _ => Nat.le_trans HB1.out.size hi))
    clear hd hr hb2 HB1 hpl g1 g2
    go_upto_region 6 with fail
    have hd3 := HD.out.alloc (.cells #[.slice q n cap, .int .i64 k.fuse, .bool k.down] 28)
    have hb3 := HB2.out.alloc HB2.out.size (.cells #[.slice q n cap, .int .i64 k.fuse, .bool k.down] 28)
    clear HD HB2
    generalize w2.alloc (.cells #[.slice q n cap, .int .i64 k.fuse, .bool k.down] 28) = w3 at hd3 hb3 ⊢
    have hcr := crash_any hd3 (.slice none 0 0) [] (Ints.nil w3 _) (by decide)
    have HCR := Lib.hid hcr
    have HB3 := Lib.hid hb3
    clear hd3 hb3 hcr
    go_wp2_with fail
    refine (HCR.out).mono ?_
    rintro e w4 ⟨rfl, hd4, hk4⟩
    have HD4 := Lib.hid hd4
    have HB4 := Lib.hid (HB3.out.trans (hk4.below HB3.out.size (fun i hi => hi)))
    clear hd4 hk4 HB3 HCR
    go_wp2_with fail
    go_loopw [43] (fun iv wr => ∃ (i : Nat) (kd : Dk), i ≤ N ∧ iv = .int .i64 i ∧ Hid (kd.fuse = -1 ∧ kd.down = false) ∧ Hid (DiskAt wr (fun i => w.heap.size ≤ i) d kd) ∧ Hid (Below w.heap.size w wr)) (fun iv _ => N - (intOf iv).toNat)
    case atStart => exact ⟨0, crashD k [], by omega, rfl, Lib.hid ⟨rfl, rfl⟩, HD4, HB4⟩
    case round =>
      obtain ⟨i, kd, hi, rfl, HU, HD, HB⟩ := hrel
      by_cases hlt : i < N
      · have hil : i < l.length := by rw [HN.out]; exact hlt
        obtain ⟨ad, rfl, hab, -, ov, c0, c1, c2, c3, c4, hko⟩ := (HV.out.below HB.out).at i hil
        have hsm := longL_some HL.out hil
        obtain ⟨o, ho⟩ : ∃ o, l[i] = o := ⟨_, rfl⟩
        rw [ho] at c0 c1 c2 c3 hko hsm
        obtain ⟨kind, m, nm, s, keep⟩ := o
        simp only at c0 c1 c2 c3 hko hsm
        obtain ⟨qo, co, rfl⟩ := hko.len
        obtain ⟨no, hno⟩ : ∃ x, keep.length = x := ⟨_, rfl⟩
        rw [hno] at hko c4 hsm
        go_upto_region 10 with fail
        obtain ⟨oc, hc⟩ : ∃ c, wr.heap.size = c := ⟨_, rfl⟩
        have hDA := HD.out.alloc (.cells #[.int .i64 kind, .int .i64 m, .string (bs nm), .string (bs s), .slice qo no co] 41)
        have hBA := HB.out.alloc HB.out.size (.cells #[.int .i64 kind, .int .i64 m, .string (bs nm), .string (bs s), .slice qo no co] 41)
        have hCA : Blk (wr.alloc (.cells #[.int .i64 kind, .int .i64 m, .string (bs nm), .string (bs s), .slice qo no co] 41)) oc [.int .i64 kind, .int .i64 m, .string (bs nm), .string (bs s), .slice qo no co] 41 := Blk.at hc.symm [_, _, _, _, _] 41
        have HSM := Lib.hid hsm
        rw [hc]
        clear HD HB c0 c1 c2 c3 c4 hko ho hil hab hc hsm hno
        generalize wr.alloc (.cells #[.int .i64 kind, .int .i64 m, .string (bs nm), .string (bs s), .slice qo no co] 41) = wa at hDA hBA hCA ⊢
        have HDA := Lib.hid hDA
        have HBA := Lib.hid hBA
        have c0 := hCA.c 0 rfl
        have c1 := hCA.c 1 rfl
        have c2 := hCA.c 2 rfl
        have c3 := hCA.c 3 rfl
        have c4 := hCA.c 4 rfl
        clear hDA hBA hCA
        by_cases hk1 : 1 ≤ kind
        · have g1 : decide ((1 : Int) ≤ kind) = true := by simpa using hk1
          by_cases hk4 : kind ≤ 4
          · have g2 : decide (kind ≤ (4 : Int)) = true := by simpa using hk4
            go_wp2_with fail
            refine (do_any (fun i hi => Nat.le_trans HBA.out.size hi) HDA.out kind m nm s (by have := HSM.out; omega) (by have := HSM.out; omega) qo no co).mono ?_
            rintro e wb ⟨rfl, hdb, hkb⟩
            have HDB := Lib.hid hdb
            have HBB := Lib.hid (HBA.out.trans (hkb.below HBA.out.size (fun i hi => hi)))
            clear hdb hkb c0 c1 c2 c3 c4
            go_wp2_with fail
            go_roundw
            case rel => exact ⟨i + 1, _, by omega, by simp, Lib.hid (st_up HU.out.1 HU.out.2 kind nm s), HDB, HBB⟩
            case measure => simp only [intOf]; omega
          · have g2 : decide (kind ≤ (4 : Int)) = false := by simpa using hk4
            go_wp2_with fail
            go_roundw
            case rel => exact ⟨i + 1, kd, by omega, by simp, HU, HDA, HBA⟩
            case measure => simp only [intOf]; omega
        · have g1 : decide ((1 : Int) ≤ kind) = false := by simpa using hk1
          go_wp2_with fail
          go_roundw
          case rel => exact ⟨i + 1, kd, by omega, by simp, HU, HDA, HBA⟩
          case measure => simp only [intOf]; omega
      · obtain rfl : i = N := by omega
        have hcp := copy_dk HD.out
        have HCP := Lib.hid hcp
        clear hcp
        go_wp2_with fail
        refine (HCP.out).mono ?_
        rintro e w5 ⟨c, rfl, hc5, hb5⟩
        have HD5 := Lib.hid ((HD.out.mono (G := fun i => i < wr.heap.size) (fun i hi hl => hl)).below hb5)
        have HB5 := Lib.hid (fin.out _ _ HB.out hb5)
        have HI5 : Hid (Ints w5 (fun i => ¬ wr.heap.size ≤ i) (.slice kq kn kc) ks) := Lib.hid ((HK.out.belowB HB5.out).mono (fun i hi _ => by have h1 : i < w.heap.size := hi; have := HB.out.size; omega))
        have hcr := crash_any hc5 (.slice kq kn kc) ks HI5.out (by have := HKN.out; omega)
        have HCR := Lib.hid hcr
        have HWS : Hid (w.heap.size ≤ wr.heap.size ∧ wr.heap.size ≤ w5.heap.size) := Lib.hid ⟨HB.out.size, hb5.size⟩
        clear hc5 hb5 hcr HCP HD HI5
        go_wp2_with fail
        refine (HCR.out).mono ?_
        rintro e w6 ⟨rfl, hc6, hk6⟩
        have HD6 := Lib.hid (HD5.out.far hk6 (fun i hi _ h => by have h1 : i < wr.heap.size := hi; have h2 : wr.heap.size ≤ i := h; omega))
        have HC6 := Lib.hid hc6
        have HB6 := Lib.hid (HB5.out.trans ((hk6.below HWS.out.2 (fun i hi => hi)).mono HWS.out.1))
        obtain ⟨kc2, hkc⟩ : ∃ x, crashD kd ks = x := ⟨_, rfl⟩
        have hok6 := hc6.ok
        rw [hkc] at HC6
        obtain ⟨N2, hN2⟩ : ∃ x, kc2.L.length = x := ⟨_, rfl⟩
        have hN4 : N2 ≤ 4096 := by rw [← hN2, ← hkc]; exact hok6.len
        have hok5 := HD5.out.ok
        have HRC : Hid (∀ g ∈ kc2.L, find kd g.name = 0 ∧ find kc2 g.name = 0 ∧ (readS kc2 g.name).length ≤ (readS kd g.name).length ∧ (readS kd g.name).take (readS kc2 g.name).length = readS kc2 g.name) := Lib.hid (fun g hg => by
          rw [← hkc] at hg ⊢
          exact read_crash hok5 HU.out.2 hok6 hg)
        have HAG : Hid (∀ ms, crashD kc2 ms = kc2) := Lib.hid (fun ms => by rw [← hkc]; exact crash_again kd ks ms)
        have HOK : Hid (Ok kc2) := Lib.hid (by rw [← hkc]; exact hok6)
        have hns := names_dk HC6.out
        rw [hN2] at hns
        have HNS := Lib.hid hns
        have HN2 := Lib.hid hN2
        clear hc6 hk6 hkc hok6 hok5 hns hN2 HCR HD5 HB5 HB
        go_wp2_with fail
        refine (HNS.out).mono ?_
        rintro e w7 ⟨qn, cn, rfl, ht, hc7, hb7⟩
        have HT7 := Lib.hid ht
        have HC7 := Lib.hid hc7
        have HD7 := Lib.hid (HD6.out.below hb7)
        have HB7 := Lib.hid (fin.out _ _ HB6.out hb7)
        clear ht hc7 hb7 HNS HC6 HD6
        go_wp2_with fail
        obtain ⟨SW, hSW⟩ : ∃ x, wr.heap.size = x := ⟨_, rfl⟩
        rw [hSW] at HD7 HC7
        clear hSW
        go_loopw [69] (fun iv wq => ∃ j : Nat, j ≤ N2 ∧ iv = .int .i64 j ∧ Hid (DiskAt wq (fun i => i < SW) d kd) ∧ Hid (DiskAt wq (fun i => SW ≤ i) c kc2) ∧ Hid (Below w7.heap.size w7 wq)) (fun iv _ => N2 - (intOf iv).toNat)
        case atStart => exact ⟨0, by omega, rfl, HD7, HC7, Lib.hid (Below.refl _ _)⟩
        case round =>
          obtain ⟨j, hj, rfl, HD, HC, HW⟩ := hrel
          by_cases hlt2 : j < N2
          · have hil : j < kc2.L.length := by rw [HN2.out]; exact hlt2
            have hT := HT7.out.below HW.out (Nat.le_refl _)
            obtain ⟨g, rfl, hcn⟩ := hT.at j (by rw [List.length_map]; exact hil)
            rw [List.getElem_map] at hcn
            have hfn := HOK.out.names _ (List.getElem_mem hil)
            have hrc := HRC.out _ (List.getElem_mem hil)
            obtain ⟨f, hf⟩ : ∃ f, kc2.L[j] = f := ⟨_, rfl⟩
            rw [hf] at hcn hfn hrc
            obtain ⟨r1, r2, r3, r4⟩ := hrc
            have hrd := read_any HD.out f.name (by omega)
            rw [r1] at hrd
            obtain ⟨X, hX⟩ : ∃ X, readS kd f.name = X := ⟨_, rfl⟩
            obtain ⟨Y, hY⟩ : ∃ Y, readS kc2 f.name = Y := ⟨_, rfl⟩
            rw [hX] at hrd r3 r4
            rw [hY] at r3 r4
            have HY := Lib.hid hY
            have HR2 := Lib.hid r2
            have HR3 := Lib.hid r3
            have HR4 := Lib.hid r4
            have HRD := Lib.hid hrd
            have HFN := Lib.hid hfn
            clear hT hf hX hY hrd hfn r1 r2 r3 r4 hil
            go_wp2_with fail
            refine (HRD.out).mono ?_
            rintro e wx ⟨u, rfl, hob, hdx, hbx⟩
            have HOB := Lib.hid hob
            have HDX := Lib.hid hdx
            have HCX := Lib.hid (HC.out.below hbx)
            have HWX := Lib.hid (HW.out.trans (hbx.mono HW.out.size))
            obtain ⟨qu, cu, hu⟩ := hob.len
            obtain ⟨lx, hlx⟩ : ∃ n, X.length = n := ⟨_, rfl⟩
            rw [hlx] at hu
            subst hu
            have HLX := Lib.hid hlx
            have hrd2 := read_any HCX.out f.name (by have := HFN.out; omega)
            rw [HR2.out, HY.out] at hrd2
            have HRD2 := Lib.hid hrd2
            clear hob hdx hbx hlx hrd2 HRD HD HC HW
            go_wp2_with fail
            refine (HRD2.out).mono ?_
            rintro e wy ⟨u2, rfl, hob2, hcy, hby⟩
            obtain ⟨qu2, cu2, hu2⟩ := hob2.len
            obtain ⟨ly, hly⟩ : ∃ n, Y.length = n := ⟨_, rfl⟩
            rw [hly] at hu2
            subst hu2
            have hob1 := HOB.out.below hby (Nat.le_refl _)
            obtain ⟨-, hcap, hqn⟩ := own_cap hob1
            have hly2 : ly ≤ lx := by rw [← hly, ← HLX.out]; exact HR3.out
            have htk := hob1.take ly (by rw [HLX.out]; exact hly2)
            rw [← hly, HR4.out, hly] at htk
            have s1 := Seen.own htk
            have s2 := Seen.own hob2
            have cv1 : ∀ m, (convert 31 9 (.slice qu ly cu)).run Try.prog (wy.drewN m) = .ok (.string (bs Y)) (wy.drewN m) := fun m => Seen.text (w := wy.drewN m) (B := wy.heap.size) s1
            have cv2 : ∀ m, (convert 31 9 (.slice qu2 ly cu2)).run Try.prog (wy.drewN m) = .ok (.string (bs Y)) (wy.drewN m) := fun m => Seen.text (w := wy.drewN m) (B := wy.heap.size) s2
            have q3 := text_yes (a := Y) rfl
            have q4 : ((bs Y).toList != (bs Y).toList) = false := by rw [bne, q3]; rfl
            have g5 : decide ((lx : Int) < (ly : Int)) = false := by simp; omega
            have hsc : ly ≤ cu := by omega
            have hqn2 : qu = none → ly = 0 := fun h => by have := hqn h; omega
            have HDY := Lib.hid (HDX.out.below hby)
            have HCY := Lib.hid hcy
            have HWY := Lib.hid (HWX.out.trans (hby.mono HWX.out.size))
            clear hob2 hcy hby hly hob1 hqn htk s1 s2 HOB HDX HCX HWX HRD2
            go_wp2_with fail
            go_quiet (fail)
            go_wp2_with fail
            go_roundw
            case rel => exact ⟨j + 1, by omega, by simp, Lib.hid (HDY.out.drewN _), Lib.hid (HCY.out.drewN _), Lib.hid (HWY.out.trans (below_drewN3 _ wy _))⟩
            case measure => simp only [intOf]; omega
          · obtain rfl : j = N2 := by omega
            have hcp := copy_dk HC.out
            have HCP := Lib.hid hcp
            have HBQ := Lib.hid (fin.out _ _ HB7.out HW.out)
            have HSQ : Hid (w.heap.size ≤ wr.heap.size) := Lib.hid HBQ.out.size
            clear hcp
            go_wp2_with fail
            refine (HCP.out).mono ?_
            rintro e w8 ⟨a, rfl, ha8, hb8⟩
            have HC8 := Lib.hid ((HC.out.mono (G := fun i => i < wr.heap.size) (fun i hi hl => hl)).below hb8)
            have HB8 := Lib.hid (fin.out _ _ HBQ.out hb8)
            have HI8 : Hid (Ints w8 (fun i => ¬ wr.heap.size ≤ i) (.slice mq mn mc) ms) := Lib.hid ((HM.out.belowB HB8.out).mono (fun i hi _ => by have h1 : i < w.heap.size := hi; have := HSQ.out; omega))
            have hcr := crash_any ha8 (.slice mq mn mc) ms HI8.out (by have := HMN.out; omega)
            rw [HAG.out] at hcr
            have HCR := Lib.hid hcr
            have HS8 : Hid (wr.heap.size ≤ w8.heap.size) := Lib.hid hb8.size
            clear ha8 hb8 hcr HCP HI8
            go_wp2_with fail
            refine (HCR.out).mono ?_
            rintro e w9 ⟨rfl, ha9, hk9⟩
            have HC9 := Lib.hid (HC8.out.far hk9 (fun i hi _ h => by have h1 : i < wr.heap.size := hi; have h2 : wr.heap.size ≤ i := h; omega))
            have HA9 := Lib.hid ha9
            have HB9 := Lib.hid (HB8.out.trans ((hk9.below HS8.out (fun i hi => hi)).mono HSQ.out))
            clear ha9 hk9 HCR HC8
            go_wp2_with fail
            refine (same_any HC9.out HA9.out).mono ?_
            rintro e wt ⟨rfl, hbt⟩
            have HBT := Lib.hid (fin.out _ _ HB9.out hbt)
            clear hbt
            go_wp2_with fail
            refine (haw.out _).mono ?_
            rintro e wf ⟨rfl, hbf⟩
            have HBF := Lib.hid (fin.out _ _ HBT.out hbf)
            clear hbf
            go_wp2_with fail
            go_ret
            exact ⟨rfl, HBF.out⟩
end Go.Proofs.Ytfkefppabjbbdaa
