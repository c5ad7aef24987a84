/- JournalCutsOff. -/
import Derived.Test.YtghnbkkfghfifaaGreatDoorMM
namespace Go.Proofs.YtghnbkkfghfifaaGreatDoor
open Go.RowKit Go.Maps D
set_option linter.unusedVariables false
section
variable {w : World}
set_option maxRecDepth 100000 in
set_option maxHeartbeats 4000000 in
set_option pp.maxSteps 100000 in
theorem law_cuts (hL : E.Lay w) (p : Int) (lv : Value) (es : List Ev) (s : ByteArray) (fu : Int) (hv : E.Evs w w.heap.size lv es) :
    Calls Tryz.prog 10 #[.int .i64 p, lv, .string s, .int .i64 fu] w fun e w' => e = .returned (.bool true) ∧ Below w.heap.size w w' := by
  obtain ⟨q, cap, rfl⟩ := hv.shape
  obtain ⟨N, hN⟩ : ∃ N, es.length = N := ⟨_, rfl⟩
  obtain ⟨b1, hb1⟩ : ∃ b1, es.all (fun e => decide (E.Small e 300)) = b1 := ⟨_, rfl⟩
  obtain ⟨b2, hb2⟩ : ∃ b2, es.all E.mayB = b2 := ⟨_, rfl⟩
  have HV := Lib.hid hv
  have hbx : Below w.heap.size w (w.alloc (.cells #[.string s] 9)) := (Below.refl _ w).alloc (Nat.le_refl _) _
  have HBX := Lib.hid hbx
  have HLV := Lib.hid (lives_any (w.alloc (.cells #[.string s] 9)) (hL.next hbx))
  have HBK : Hid (Blk (w.alloc (.cells #[.string s] 9)) w.heap.size [.string s] 9) := Lib.hid (Blk.new w [.string s] 9)
  have HS1 := Lib.hid (fun (w1 : World) (hb : Below w.heap.size w w1) (hle : es.length ≤ 1000000) => E.rsome_any (.slice q es.length cap) es 300 hle w1 (evs_mono (HV.out.below hb (Nat.le_refl _)) hb.size))
  have HS2 := Lib.hid (fun (w1 : World) (hb : Below w.heap.size w w1) (ht : es.all (fun e => decide (E.Small e 300)) = true) (hle : es.length ≤ 1000000) => E.rall_any (.slice q es.length cap) es (fun e he => small_t (of_decide_eq_true (List.all_eq_true.1 ht e he))) hle w1 (evs_mono (HV.out.below hb (Nat.le_refl _)) hb.size))
  rw [hb1] at HS1 HS2
  rw [hb2] at HS2
  rw [hN] at HS1 HS2 HV ⊢
  have HL := Lib.hid hL
  have HMAY := Lib.hid hb2
  have HNN := Lib.hid hN
  clear hv hL hb1 hb2 hN hbx
  go_enter Tryz.func10, Tryz.ntmps10
  go_wp2_with fail
  refine (HLV.out).mono ?_
  rintro e w1 ⟨rfl, hbl⟩
  have HBK1 := Lib.hid (HBK.out.below hbl HBK.out.lt)
  have HB1 := Lib.hid (HBX.out.trans (hbl.mono HBX.out.size))
  clear hbl HBK HBX HLV
  go_wp2_with (first | (go_at_call 38; refine (HS1.out _ HB1.out (by omega)).mono ?_; rintro e w2 ⟨rfl, hb2⟩; have HB2 := Lib.hid (HB1.out.trans (hb2.mono HB1.out.size)); have HBK2 := Lib.hid (HBK1.out.below hb2 HBK1.out.lt); clear hb2) | (go_at_call 34; refine (HS2.out _ HB2.out (by assumption) (by omega)).mono ?_; rintro e w3 ⟨rfl, hb3⟩; have HB3 := Lib.hid (HB2.out.trans (hb3.mono HB2.out.size)); have HBK3 := Lib.hid (HBK2.out.below hb3 HBK2.out.lt); clear hb3))
  all_goals (try (go_ret; exact ⟨rfl, by first | exact HB3.out | exact HB2.out | exact HB1.out⟩))
  have hp1 : 1 ≤ p := by assumption
  have hp2 : p ≤ 8 := by assumption
  have hn60 : (N : Int) ≤ 40 := by assumption
  have hf0 : 0 ≤ fu := by assumption
  have hf1 : fu ≤ 100 := by assumption
  have hb2t : b2 = true := by first | assumption | simpa using (show (!b2) = false by assumption)
  have hb1t : b1 = true := by assumption
  subst hb2t
  subst hb1t
  obtain ⟨P, rfl⟩ := Int.eq_ofNat_of_zero_le (show 0 ≤ p by omega)
  have z0 := HL.out.sz
  have z3 := HB3.out.size
  have zb := HBK3.out.lt
  have HP : Hid (1 ≤ P ∧ P ≤ 8 ∧ N ≤ 40) := Lib.hid (by omega)
  have HFU : Hid (0 ≤ fu ∧ fu ≤ 100) := Lib.hid ⟨hf0, hf1⟩
  have HN1 := Lib.hid (new_dk w3 (fun i => w3.heap.size ≤ i) (fun i hi => hi))
  refine (HN1.out).mono ?_
  rintro e w4 ⟨d, rfl, hd, hb4⟩
  have HO := Lib.hid (open_new (n := jN) (per := P) (F := fun i => w3.heap.size ≤ i) (fun i hi => Nat.le_trans hb4.size hi) (fun i hi => by omega) ((HL.out.next HB3.out).next hb4) hd jN_name ⟨HP.out.1, by have := HP.out; omega⟩)
  have HB4 := Lib.hid hb4
  clear hd hb4 HN1 HS1 HS2
  go_wp2_with fail
  refine (HO.out).mono ?_
  rintro e w5 ⟨l, v, k', rfl, hm5, hk5, st, hu5⟩
  have hk35 : Kept (fun i => w3.heap.size ≤ i) w3 w5 := (Kept.bel (Kept.refl _ w3) HB4.out).trans hk5
  have hb35 : Below w3.heap.size w3 w5 := hk35.below (Nat.le_refl _) (fun i hi => hi)
  have hbk5 := HBK3.out.below hb35 HBK3.out.lt
  have hev5 : E.Evs w5 w.heap.size (.slice q N cap) es := HV.out.below (HB3.out.trans (hb35.mono z3)) (Nat.le_refl _)
  have hap := app_up (F := fun i => w3.heap.size ≤ i) (fun i hi => Nat.le_trans hb35.size hi) hm5 hu5 (.slice q N cap) es (EvP.of (B := w.heap.size) hev5 (Nat.le_trans z3 hb35.size) (fun i hi hg => by omega)) HMAY.out (by rw [HNN.out]; show 0 + N ≤ 2000; have := HP.out; omega)
  have HAP := Lib.hid hap
  have HB5 := Lib.hid hb35
  have HBK5 := Lib.hid hbk5
  clear hap hb35 hbk5 hev5 hm5 hk5 hu5 hk35 HO HB4
  go_wp2_with fail
  refine (HAP.out).mono ?_
  rintro e w6 ⟨rfl, v6, j6, st6, hm6, hk6, hu6, hr6⟩
  have hes6 : j6.es = es := by have := hr6.es; simpa using this
  have hok6 : ∀ e ∈ j6.es, OkE e := by rw [hes6]; exact all_may HMAY.out
  have hf6 := Fz.app HP.out.1 (fz_new HP.out.1 k') hr6
  rw [List.nil_append] at hf6
  have hb6 : Below w3.heap.size w3 w6 := HB5.out.trans (hk6.below HB5.out.size (fun i hi => hi))
  have hbk6 := HBK5.out.below (hk6.below HB5.out.size (fun i hi => hi)) zb
  have hsy := jsync_any (F := fun i => w3.heap.size ≤ i) (fun i hi => Nat.le_trans hb6.size hi) hm6
  obtain ⟨jS, eS, huS, hesS, hfS, hlaS⟩ := hu6.sync
  rw [eS] at hsy
  have HSY := Lib.hid hsy
  have HB6 := Lib.hid hb6
  have HBK6 := Lib.hid hbk6
  have HUS := Lib.hid huS
  have HES : Hid (jS.es = es) := Lib.hid (by rw [hesS, hes6])
  have HFS : Hid (jS.files = (N + P - 1) / P) := Lib.hid (by rw [hfS, hf6.files, HNN.out])
  have HLS : Hid (jS.lasts = jS.es.length) := Lib.hid (by rw [hlaS, hesS])
  clear hes6 hok6 hf6 hb6 hbk6 eS huS hesS hfS hlaS hsy hm6 hk6 hu6 hr6 HAP HBK5 HBK3 HBK2 HBK1
  go_wp2_with fail
  refine (HSY.out).mono ?_
  rintro e w7 ⟨rfl, hm7, hk7⟩
  have hb7 : Below w3.heap.size w3 w7 := HB6.out.trans (hk7.below HB6.out.size (fun i hi => hi))
  have hbk7 := HBK6.out.below (hk7.below HB6.out.size (fun i hi => hi)) zb
  have HAR := Lib.hid (arm_dk hm7.sep fu (by have := HFU.out; omega))
  have HM7 := Lib.hid hm7
  have HB7 := Lib.hid hb7
  have HBK7 := Lib.hid hbk7
  clear hm7 hk7 hb7 hbk7 HSY HB6 HBK6
  go_wp2_with fail
  refine (HAR.out).mono ?_
  rintro e w8 ⟨rfl, hd8, hk8⟩
  obtain ⟨hm8, hkk8⟩ := HM7.out.turn hd8 hk8
  have hb78 : Below w3.heap.size w7 w8 := hkk8.below HB7.out.size (fun i hi => hi)
  have hb8 : Below w3.heap.size w3 w8 := HB7.out.trans hb78
  have hbk8 := HBK7.out.below hb78 zb
  have hlit : Lit pay jN P (⟨armD jS.dk fu, jS.files, jS.es, jS.lasts, jS.stuck⟩ : Jn Ev) _ := ⟨HUS.out.lie.of rfl, HUS.out.up, HUS.out.stuck⟩
  obtain ⟨j9, c, er, m, st9, e9, hm9, hf9, hl9, hla9, hs9, hc9, hr9⟩ := hlit.rews (er := gone) (kp := kpS s) (zero := zeroE) pay_zero400 HLS.out jS.files (Nat.le_refl _)
  have hBoth : Both (HasS w.heap.size s) w8 (fun i => w3.heap.size ≤ i) (fun i => i = w.heap.size ∨ w8.heap.size ≤ i) d l jN P v6 ⟨armD jS.dk fu, jS.files, jS.es, jS.lasts, jS.stuck⟩ [] := ⟨fun i => w3.heap.size ≤ i, fun i => i = w.heap.size ∨ w8.heap.size ≤ i, fun i hi => hi, fun i hi => hi, fun i hi => ⟨Nat.le_trans hb8.size hi, .inr hi⟩, fun i hl hf hp => by omega, hm8, ⟨hbk8, .inl rfl⟩, fun i hi => by have := hb8.size; omega⟩
  have hmay : ∀ x ∈ es, E.mayB x = true := fun x hx => List.all_eq_true.1 HMAY.out x hx
  have hrw := jrewr_go (keeps45 w.heap.size s) hBoth (fun i hi => by omega) HUS.out.stuck (by show ∀ e ∈ jS.es, OkE e; rw [HES.out]; exact all_may HMAY.out) (.inr HUS.out.ge) (by show 0 + 2 * jS.es.length ≤ 1048576; rw [HES.out, HNN.out]; have := HP.out; omega)
  simp only at hrw e9 hm9 hf9 hl9 hla9 hs9 hc9 hr9
  rw [e9] at hrw
  rw [HES.out] at hl9 hla9 hs9 hc9
  have HRW := Lib.hid hrw
  have hes9 : j9.es = cutL s es (m * P) := cutL_of HP.out.1 hs9
  have hc : c = cnt gone (kpS s) (es.take (m * P)) := by rw [hc9, cnt_take]
  have hlie : Lie pay jN P j9.dk jS.files j9.es j9.es.length st9 := by
    rcases hr9 with ⟨-, -, h⟩ | ⟨-, -, h⟩
    · have := h.lie; rw [hf9, hla9, ← hl9] at this; exact this
    · have := h.lie; rw [hla9, ← hl9] at this; exact this
  have hT : tnN pay P jS.files j9.es (cutN pay P jS.files j9.es j9.es.length 0) = N := by
    have h1 := hlie.lasts_le 0
    have h2 := hlie.tnN_le (cutN pay P jS.files j9.es j9.es.length 0)
    rw [← HNN.out, ← hl9]
    omega
  have htk : j9.es.take N = cutL s es (m * P) := by rw [List.take_of_length_le (by rw [hl9, HNN.out]; exact Nat.le_refl _), hes9]
  have her : Hid (er = 0 ∧ es.length ≤ m * P ∨ er = 8) := Lib.hid (by
    rcases hr9 with ⟨h1, h2, _⟩ | ⟨h1, _⟩
    · left
      refine ⟨h1, ?_⟩
      have := HUS.out.lie.shp.le
      rw [HES.out] at this
      rw [h2]; exact this
    · exact .inr h1)
  have HC := Lib.hid hc
  have HLIE := Lib.hid hlie
  have HTT := Lib.hid hT
  have HTK := Lib.hid htk
  have HMY := Lib.hid hmay
  have HOK9 : Hid (∀ x ∈ j9.es, OkE x) := Lib.hid (by rw [hes9]; exact cutL_ok hmay _)
  have HB8 := Lib.hid hb8
  obtain ⟨M, hM⟩ : ∃ M, m * P = M := ⟨_, rfl⟩
  rw [hM] at HC HTK her
  clear hd8 hk8 hm8 hkk8 hb78 hb8 hbk8 hlit e9 hm9 hf9 hl9 hla9 hs9 hc9 hr9 hBoth hmay hrw hes9 hc hlie hT htk hM HAR HM7 HB7 HBK7
  go_wp2_with fail
  refine (HRW.out).mono ?_
  rintro e w9 ⟨rfl, v9, qs9, hb9, -, hk9⟩
  have hm9 := hb9.logm (fun i hi => by omega)
  obtain ⟨F9, P9, -, -, -, -, -, ⟨hbk9, -⟩, -⟩ := id hb9
  have HB9 : Hid (Below w.heap.size w w9) := Lib.hid ((HB3.out.trans (HB8.out.mono z3)).trans (hk9.below (Nat.le_trans z3 HB8.out.size) (fun i hi => by have := HB8.out.size; omega)))
  have HZ9 : Hid (w3.heap.size ≤ w9.heap.size) := Lib.hid (Nat.le_trans HB8.out.size hk9.size)
  have HCR := Lib.hid (crash_any hm9.disk (.slice none 0 0) [] (.inl ⟨rfl, rfl⟩) (by simp))
  have HBK9 := Lib.hid hbk9
  clear hb9 hm9 hk9 hbk9 HRW HB8
  go_wp2_with fail
  refine (HCR.out).mono ?_
  rintro e w10 ⟨rfl, hd10, hk10⟩
  have hb10 : Below w3.heap.size w9 w10 := hk10.below HZ9.out (fun i hi => hi)
  have hbw10 := HB9.out.trans (hb10.mono z3)
  have HO2 := Lib.hid (open_crashed (n := jN) (per := P) (F := fun i => w3.heap.size ≤ i) (fun i hi => Nat.le_trans HZ9.out (Nat.le_trans hb10.size hi)) (fun i hi => by omega) (HL.out.next hbw10) 0 [] hd10 jN_name (by have := HP.out; omega) HLIE.out HOK9.out (fun i hi => rfl) N HTT.out)
  have HB10 := Lib.hid hbw10
  have HBK10 := Lib.hid (HBK9.out.below hb10 zb)
  have HZ10 : Hid (w3.heap.size ≤ w10.heap.size) := Lib.hid (Nat.le_trans HZ9.out hb10.size)
  clear hd10 hk10 hb10 hbw10 HCR HB9 HBK9 HZ9
  go_wp2_with fail
  refine (HO2.out).mono ?_
  rintro e w11 ⟨l2, v2, k2, f2, rfl, hm11, hk11, st11, hu11⟩
  rw [HTK.out] at hm11 hu11
  have hb11 : Below w3.heap.size w10 w11 := hk11.below HZ10.out (fun i hi => hi)
  have HM11 := Lib.hid hm11
  have HU11 := Lib.hid hu11
  have HB11 := Lib.hid (HB10.out.trans (hb11.mono z3))
  have HBK11 := Lib.hid (HBK10.out.below hb11 zb)
  have HZ11 : Hid (w3.heap.size ≤ w11.heap.size) := Lib.hid (Nat.le_trans HZ10.out hb11.size)
  have hln := len_any hm11
  rw [show (⟨k2, f2, cutL s es M, N, 0⟩ : Jn Ev).es.length = N from cutL_len.trans HNN.out] at hln
  have HLN := Lib.hid hln
  have h8 : (er : Int) = 0 ∨ (er : Int) = 8 := by
    rcases her.out with ⟨h, _⟩ | h
    · exact .inl (by omega)
    · exact .inr (by omega)
  clear hm11 hk11 hu11 hb11 hln HO2 HB10 HBK10 HZ10 HTK HTT HLIE HOK9
  go_wp2_with fail
  refine (HLN.out).mono ?_
  rintro e w' ⟨rfl, hw'⟩
  subst w'
  have HMC : Hid (N ≤ 40 ∧ c ≤ 40) := Lib.hid ⟨HP.out.2.2, by
    rw [HC.out, cnt_may (fun x hx => HMY.out x (List.mem_of_mem_take hx))]
    refine Nat.le_trans (List.countP_le_length) ?_
    rw [List.length_take, HNN.out]
    have := HP.out; omega⟩
  rcases h8 with h8 | h8
  all_goals
    go_wp2_with fail
    go_loopw [16, 17, 18] (fun o f i wr => ∃ k : Nat, k ≤ N ∧ i = .int .i64 k ∧ o = .int .i64 (ownL s es k : Nat) ∧ f = .int .i64 (leftL s es M k : Nat) ∧ Hid (Below w11.heap.size w11 wr)) (fun _ _ i _ => N - (intOf i).toNat)
    case atStart => exact ⟨0, by omega, rfl, rfl, by unfold leftL; rw [Nat.zero_min]; simp, Lib.hid (Below.refl _ _)⟩
    case round =>
      obtain ⟨k, hk, rfl, rfl, rfl, HBr⟩ := hrel
      have HBw := Lib.hid (HB11.out.trans (HBr.out.mono HB11.out.size))
      by_cases hlt : k < N
      · have hke : k < es.length := by rw [HNN.out]; exact hlt
        have hr := jread_good (HM11.out.below HBr.out) (cutL_ok HMY.out M) k 1 1 (by show k ≤ (cutL s es M).length; rw [cutL_len]; omega) (by show 1 = min 1 ((cutL s es M).length - k); rw [cutL_len]; omega)
        obtain ⟨r1, r2⟩ := read_one (es := cutL s es M) (i := k) (by rw [cutL_len]; exact hke)
        rw [cutL_get hke] at r1 r2
        simp only [r1, r2] at hr
        rw [show ((1 : Nat) : Int) = 1 from rfl] at hr
        have HO1 := Lib.hid (own_step (s := s) hke)
        have HLF := Lib.hid (left_step (s := s) (M := M) hke)
        obtain ⟨ad, hq, hab, hcl⟩ := E.Evs.at (show E.Evs wr w.heap.size (.slice q es.length cap) es by rw [HNN.out]; exact HV.out.below HBw.out (Nat.le_refl _)) k hke
        have hmy := HMY.out _ (List.getElem_mem hke)
        obtain ⟨ev, hev⟩ : ∃ ev, es[k]'hke = ev := ⟨_, rfl⟩
        rw [hev] at hr HO1 HLF hcl hmy
        have HIN := Lib.hid (show E.EvIn wr ad k ev from hcl)
        have hA1 : ownL s es k ≤ 40 := Nat.le_trans (List.countP_le_length) (by rw [List.length_take]; have := HMC.out; omega)
        have hB1 : leftL s es M k ≤ 40 := Nat.le_trans (Nat.sub_le _ _) hA1
        obtain ⟨A, hA⟩ : ∃ A, ownL s es k = A := ⟨_, rfl⟩
        obtain ⟨B, hB⟩ : ∃ B, leftL s es M k = B := ⟨_, rfl⟩
        rw [hA] at HO1 hA1 ⊢
        rw [hB] at HLF hB1 ⊢
        have HBR := HBr
        subst hq
        have y5 : ad.block < wr.heap.size := Nat.lt_of_lt_of_le hab HBw.out.size
        have HY := Lib.hid y5
        clear r1 r2 hcl hev hA hB
        cases hp : pmS s ev
        · simp only [hp, Bool.false_eq_true, if_false, false_and, Nat.add_zero] at HO1 HLF
          have hrw := rwS_may hmy hp
          rw [hrw] at hr
          simp only [ite_self, gone_may hmy, Bool.false_eq_true, if_false] at hr
          have HR := Lib.hid hr
          have hp' : (ev.p.toList == s.toList) = false := hp
          clear hr hrw hp hmy
          go_wp2_with fail
          refine (HR.out).mono ?_
          rintro e w12 ⟨x1, x2, rfl, hx1, hx2, hb12⟩
          obtain ⟨q2, c2, rfl, -⟩ := hx2.nums
          obtain ⟨g1, cp1, rfl, hg1, d0, d1, d2, d3, d4, d5, d6, d7⟩ := one_cells hx1
          have HB12 := Lib.hid (HBR.out.trans (hb12.mono HBR.out.size))
          have hin := HIN.out.below hb12 y5
          have y6 : ad.block < w12.heap.size := Nat.lt_of_lt_of_le y5 hb12.size
          obtain ⟨c0, c1', c2', c3, c4, c5, c6, c7⟩ := hin
          have hbk := (HBK11.out.below HB12.out HBK11.out.lt).c 0 rfl
          obtain ⟨s1, n1, a1, k1, p1, i1, v1, t1⟩ := ev
          simp only at c0 c1' c2' c3 c4 c5 c6 c7 d0 d1 d2 d3 d4 d5 d6 d7 hp'
          clear hx1 hx2 hb12 HR
          go_wp2_with fail
          go_quiet (fail)
          go_wp2_with fail
          go_quiet (fail)
          go_wp2_with fail
          exact ⟨⟨k + 1, by omega, by go_num, by rw [HO1.out], by rw [HLF.out], Lib.hid (E.below_drewN HB12.out _)⟩, by simp only [intOf]; omega⟩
        · by_cases hM : k < M
          · simp only [hp, if_true, true_and, if_neg (show ¬ M ≤ k by omega), Nat.add_zero] at HO1 HLF
            have hrw := rwS_pos (s := s) hmy hp
            rw [if_pos hM, hrw] at hr
            simp only [gone_zero, if_true] at hr
            have HR := Lib.hid hr
            have hp' : (ev.p.toList == s.toList) = true := hp
            clear hr hrw hp hmy
            go_wp2_with fail
            refine (HR.out).mono ?_
            rintro e w12 ⟨x1, x2, rfl, hx1, hx2, hb12⟩
            obtain ⟨q2, c2, rfl, -⟩ := hx2.nums
            obtain ⟨q1, cp1, rfl⟩ := hx1.len
            have HB12 := Lib.hid (HBR.out.trans (hb12.mono HBR.out.size))
            have hin := HIN.out.below hb12 y5
            have y6 : ad.block < w12.heap.size := Nat.lt_of_lt_of_le y5 hb12.size
            obtain ⟨c0, c1', c2', c3, c4, c5, c6, c7⟩ := hin
            have hbk := (HBK11.out.below HB12.out HBK11.out.lt).c 0 rfl
            obtain ⟨s1, n1, a1, k1, p1, i1, v1, t1⟩ := ev
            simp only at c0 c1' c2' c3 c4 c5 c6 c7 hp'
            clear hx1 hx2 hb12 HR
            go_wp2_with fail
            go_quiet (fail)
            go_wp2_with fail
            go_quiet (fail)
            go_wp2_with fail
            exact ⟨⟨k + 1, by omega, by go_num, by rw [HO1.out]; go_num, by rw [HLF.out], Lib.hid (E.below_drewN HB12.out _)⟩, by simp only [intOf]; omega⟩
          · rw [if_neg hM] at hr
            simp only [hp, if_true, true_and, if_pos (show M ≤ k by omega)] at HO1 HLF
            simp only [gone_may hmy, Bool.false_eq_true, if_false] at hr
            have HR := Lib.hid hr
            have hp' : (ev.p.toList == s.toList) = true := hp
            clear hr hp hmy
            go_wp2_with fail
            refine (HR.out).mono ?_
            rintro e w12 ⟨x1, x2, rfl, hx1, hx2, hb12⟩
            obtain ⟨q2, c2, rfl, -⟩ := hx2.nums
            obtain ⟨g1, cp1, rfl, hg1, d0, d1, d2, d3, d4, d5, d6, d7⟩ := one_cells hx1
            have HB12 := Lib.hid (HBR.out.trans (hb12.mono HBR.out.size))
            have hin := HIN.out.below hb12 y5
            have y6 : ad.block < w12.heap.size := Nat.lt_of_lt_of_le y5 hb12.size
            obtain ⟨c0, c1', c2', c3, c4, c5, c6, c7⟩ := hin
            have hbk := (HBK11.out.below HB12.out HBK11.out.lt).c 0 rfl
            obtain ⟨s1, n1, a1, k1, p1, i1, v1, t1⟩ := ev
            simp only at c0 c1' c2' c3 c4 c5 c6 c7 d0 d1 d2 d3 d4 d5 d6 d7 hp'
            clear hx1 hx2 hb12 HR
            go_wp2_with fail
            go_quiet (fail)
            go_wp2_with fail
            go_quiet (fail)
            go_wp2_with fail
            exact ⟨⟨k + 1, by omega, by go_num, by rw [HO1.out]; go_num, by rw [HLF.out]; go_num, Lib.hid (E.below_drewN HB12.out _)⟩, by simp only [intOf]; omega⟩
      · obtain rfl : k = N := by omega
        obtain ⟨A, hA⟩ : ∃ A, ownL s es k = A := ⟨_, rfl⟩
        obtain ⟨B, hB⟩ : ∃ B, leftL s es M k = B := ⟨_, rfl⟩
        have hAB : A = B + c := by
          have := own_left (s := s) HMY.out M
          rw [HNN.out, ← HC.out, hA, hB] at this
          exact this
        have hA1 : A ≤ 40 := by rw [← hA]; exact Nat.le_trans (List.countP_le_length) (by rw [List.length_take]; have := HMC.out; omega)
        have hB0 : er = 0 → B = 0 := fun h => by
          rcases her.out with ⟨_, h1⟩ | h1
          · have := left_none (s := s) h1
            rw [HNN.out, hB] at this
            exact this
          · omega
        have hcB : cnt gone (kpS s) (cutL s es M) = B := by rw [cnt_cutL HMY.out, HNN.out, hB]
        have hfo := filt_own (s := s) (es := es)
        rw [HNN.out, hA] at hfo
        obtain ⟨D, hD⟩ : ∃ D, (es.filter fun e => !pmS s e) = D := ⟨_, rfl⟩
        obtain ⟨L, hL⟩ : ∃ L, D.length = L := ⟨_, rfl⟩
        rw [hD, hL] at hfo
        have E1 : Hid (wrap64 ((A : Int) - (B : Int)) = (c : Int)) := Lib.hid (by unfold wrap64; omega)
        have E2 : Hid (wrap64 ((k : Int) - (A : Int)) = (L : Int)) := Lib.hid (by have := HMC.out; unfold wrap64; omega)
        have HL40 : Hid (L ≤ 40) := Lib.hid (by have := HMC.out; omega)
        have hzr := HBr.out.size
        have hz11 := HZ11.out
        have hmr := HM11.out.below HBr.out
        have hBoth2 : Both (HasS w.heap.size s) wr (fun i => w3.heap.size ≤ i) (fun i => i = w.heap.size ∨ wr.heap.size ≤ i) d l2 jN P v2 ⟨k2, f2, cutL s es M, k, 0⟩ [] := ⟨fun i => w3.heap.size ≤ i, fun i => i = w.heap.size ∨ wr.heap.size ≤ i, fun i hi => hi, fun i hi => hi, fun i hi => ⟨by omega, .inr hi⟩, fun i hl hf hp => by omega, hmr, ⟨HBK11.out.below HBr.out HBK11.out.lt, .inl rfl⟩, fun i hi => by omega⟩
        have hlc : (cutL s es M).length = k := cutL_len.trans HNN.out
        obtain ⟨jR, stR, eR, huR, hfR, hesR, hlaR⟩ := HU11.out.rewrite (er := gone) (kp := kpS s) (zero := zeroE) pay_zero400
        have hrw := jrewr_go (keeps46 w.heap.size s) hBoth2 (fun i hi => by omega) rfl (cutL_ok HMY.out M) (.inr HU11.out.ge) (by show 0 + 2 * (cutL s es M).length ≤ 1048576; rw [hlc]; have := HMC.out; omega)
        simp only at hrw eR hesR
        rw [eR, hcB] at hrw
        have hesX : jR.es = es.map (rwS s) := by rw [hesR]; exact cutL_map HMY.out M
        have HRW2 := Lib.hid hrw
        have HUR := Lib.hid huR
        have HEX := Lib.hid hesX
        have HDD := Lib.hid hD
        have HLL := Lib.hid hL
        have HZR : Hid (w3.heap.size ≤ wr.heap.size) := Lib.hid (by omega)
        rw [hA, hB]
        have hcase : B = 0 ∧ (er : Int) = 0 ∨ (er : Int) = 8 := by
          rcases her.out with ⟨h, _⟩ | h
          · exact .inl ⟨hB0 h, by omega⟩
          · exact .inr (by omega)
        have hz : (er : Int) = 0 → B = 0 := fun h => by
          rcases hcase with h1 | h1
          · exact h1.1
          · omega
        clear hcase
        first
          | (have hz2 := hz h8; subst hz2)
          | clear hz
        clear hA hB hAB hA1 hB0 hcB hfo hD hL hzr hz11 hmr hBoth2 hlc eR huR hfR hesR hlaR hrw hesX HU11 HM11 HC
        have e1 := E1.out
        go_wp2_with fail
        refine (HRW2.out).mono ?_
        rintro e w13 ⟨rfl, v13, qs13, hb13, -, hk13⟩
        have hm13 := hb13.logm (fun i hi => by omega)
        obtain ⟨F13, P13, -, -, -, -, -, ⟨hbk13, -⟩, -⟩ := id hb13
        have HB13 : Hid (Below w.heap.size w w13) := Lib.hid (HBw.out.trans (hk13.below HBw.out.size (fun i hi => by have := HZR.out; omega)))
        have HBK13 := Lib.hid hbk13
        have hl13 : jR.es.length = k := by rw [HEX.out, List.length_map, HNN.out]
        have hrd := jread_good hm13 (by
          rw [HEX.out]
          intro x hx
          obtain ⟨y, hy, rfl⟩ := List.mem_map.1 hx
          exact rwS_ok (.inr (HMY.out y hy))) 0 k k (Nat.zero_le _) (by rw [hl13]; omega)
        have hfx : rdE jR.es 0 k = D := by
          rw [HEX.out, ← HDD.out, ← HNN.out]
          exact read_rw HMY.out
        rw [hfx, show ((0 : Nat) : Int) = 0 from rfl] at hrd
        have HRD := Lib.hid hrd
        clear hm13 hb13 hbk13 hk13 hl13 hrd hfx HRW2
        go_wp2_with fail
        refine (HRD.out).mono ?_
        rintro e w14 ⟨x1, x2, rfl, hx1, hx2, hb14⟩
        obtain ⟨q1, cp1, rfl⟩ := hx1.len
        have HB14 := Lib.hid (HB13.out.trans (hb14.mono HB13.out.size))
        have HBK14 := Lib.hid (HBK13.out.below hb14 HBK13.out.lt)
        have HX1 := Lib.hid hx1.evs
        have hpD : ∀ x ∈ D, pmS s x = false := by
          rw [← HDD.out]
          intro x hx
          have := (List.mem_filter.1 hx).2
          simpa using this
        have HPD := Lib.hid hpD
        rw [HLL.out] at HX1 ⊢
        clear hx1 hx2 hb14 hpD HRD HB13 HBK13
        go_wp2_with fail
        go_loopw [27] (fun i wr => ∃ y : Nat, y ≤ L ∧ i = .int .i64 y ∧ Hid (Below w14.heap.size w14 wr)) (fun i _ => L - (intOf i).toNat)
        case atStart => exact ⟨0, by omega, rfl, Lib.hid (Below.refl _ _)⟩
        case round =>
          obtain ⟨y, hy, rfl, HBx⟩ := hrel
          have hy40 : y ≤ 40 := Nat.le_trans hy HL40.out
          by_cases hly : y < L
          · have hyd : y < D.length := by rw [HLL.out]; exact hly
            obtain ⟨ad, hq, hab, hcl⟩ := E.Evs.at (show E.Evs wr w14.heap.size (.slice q1 D.length cp1) D by rw [HLL.out]; exact HX1.out.below HBx.out (Nat.le_refl _)) y hyd
            have hp := HPD.out _ (List.getElem_mem hyd)
            obtain ⟨ev, hev⟩ : ∃ ev, D[y]'hyd = ev := ⟨_, rfl⟩
            rw [hev] at hcl hp
            obtain ⟨s1, n1, a1, k1, p1, i1, v1, t1⟩ := ev
            obtain ⟨c0, c1', c2', c3, c4, c5, c6, c7⟩ := hcl
            have hp' : (p1.toList == s.toList) = false := hp
            have hbk := (HBK14.out.below HBx.out HBK14.out.lt).c 0 rfl
            simp only at c0 c1' c2' c3 c4 c5 c6 c7
            have y5 : ad.block < wr.heap.size := Nat.lt_of_lt_of_le hab HBx.out.size
            have HN9 : Hid (y + 1 ≤ L ∧ L - (y + 1) < L - y) := Lib.hid (by omega)
            subst hq
            clear hev hp hyd e1
            go_wp2_with fail
            go_quiet (fail)
            go_wp2_with fail
            exact ⟨⟨y + 1, HN9.out.1, by go_num, Lib.hid (E.below_drewN HBx.out _)⟩, HN9.out.2⟩
          · obtain rfl : y = L := by omega
            have e2 := E2.out
            clear e1
            go_wp2_with fail
            go_ret
            exact ⟨rfl, HB14.out.trans (HBx.out.mono HB14.out.size)⟩
end
end Go.Proofs.YtghnbkkfghfifaaGreatDoor
