/- JournalFuses. -/
import Derived.Test.YtghnbkkfghfifaaGreatDoorMN
import Derived.Test.YtghnbkkfghfifaaGreatDoorML
namespace Go.Proofs.YtghnbkkfghfifaaGreatDoor
open Go.RowKit Go.Maps D
set_option linter.unusedVariables false
theorem read_all {l : List Ev} {T : Nat} (h : ∀ x ∈ l, gone x = false) (hl : l.length = T) : rdE l 0 T = l ∧ (rdO l 0 T).length = T := by
  subst hl
  have e1 : rdE l 0 l.length = l := by
    unfold rdE
    rw [List.drop_zero, List.take_length, List.filter_eq_self]
    intro x hx
    rw [h x hx]; rfl
  refine ⟨e1, ?_⟩
  unfold rdO
  rw [List.length_map]
  have : (List.range l.length).filter (fun i => !gone (l.getD (0 + i) zeroE)) = List.range l.length := by
    rw [List.filter_eq_self]
    intro i hi
    have hi' := List.mem_range.1 hi
    rw [Nat.zero_add, List.getD_eq_getElem?_getD, List.getElem?_eq_getElem hi']
    show (!gone l[i]) = true
    rw [h _ (List.getElem_mem hi')]; rfl
  rw [this, List.length_range]
theorem ints_of {w : World} {base x : Nat} {v : Value} {ke : Int} {P : Nat → Prop} (h : w.ownsRow base 3 1 v x (List.replicate x (.int .i64 ke))) (hP : ∀ i, base ≤ i → P i) : Ints w P v (List.replicate x ke) := by
  have hh := h
  rcases h.2 with ⟨hv, h0⟩ | ⟨g, cap, cur, hv, hb, hg, _⟩
  · subst h0; exact .inl ⟨rfl, hv⟩
  · subst hv
    refine .inr ⟨⟨g, 0, none⟩, cap, by rw [List.length_replicate], fun _ => ⟨hP g hb, lt_of_block hg⟩, fun j hj => ?_⟩
    rw [List.length_replicate] at hj
    rw [List.getElem_replicate]
    exact World.ownsRow.cells hh rfl j _ (by rw [List.getElem?_replicate, if_pos hj])
section
variable {w : World}
set_option maxRecDepth 100000 in
set_option maxHeartbeats 4000000 in
set_option pp.maxSteps 100000 in
theorem law_fuses (hL : E.Lay w) (p : Int) (lv : Value) (ds : List Dd) (fu ke : Int) (hv : Dds w w.heap.size lv ds) :
    Calls Tryz.prog 6 #[.int .i64 p, lv, .int .i64 fu, .int .i64 ke] w fun e w' => e = .returned (.bool true) ∧ Below w.heap.size w w' := by
  obtain ⟨q, cap, rfl, hle⟩ := hv.shape
  obtain ⟨N, hN⟩ : ∃ N, ds.length = N := ⟨_, rfl⟩
  have HV := Lib.hid hv
  have HLV := Lib.hid (lives_any w hL)
  have HS1 := Lib.hid (fun (w1 : World) (hb : Below w.heap.size w w1) => heavy_any (.slice q ds.length cap) ds w1 w.heap.size hb.size (HV.out.below hb))
  rw [hN] at HS1 HV hle ⊢
  have HL := Lib.hid hL
  have HNN := Lib.hid hN
  clear hv hL hN hle
  go_enter Tryz.func6, Tryz.ntmps6
  go_wp2_with fail
  refine (HLV.out).mono ?_
  rintro e w1 ⟨rfl, hbl⟩
  have HB1 := Lib.hid hbl
  clear hbl HLV
  go_wp2_with (first | (go_at_call 12; refine (HS1.out _ HB1.out).mono ?_; rintro e w3 ⟨⟨H, rfl, hlight⟩, hb3⟩; have HB3 := Lib.hid (HB1.out.trans (hb3.mono HB1.out.size)); have HLI := Lib.hid hlight; clear hb3 hlight; cases H) | fail)
  all_goals (try (go_ret; exact ⟨rfl, by first | exact HB3.out | exact HB1.out⟩))
  have hp1 : 1 ≤ p := by assumption
  have hp2 : p ≤ 8 := by assumption
  have hf0 : 0 ≤ fu := by assumption
  have hf1 : fu ≤ 100 := by assumption
  have HLT := Lib.hid (HLI.out trivial)
  clear HLI
  obtain ⟨P, rfl⟩ := Int.eq_ofNat_of_zero_le (show 0 ≤ p by omega)
  have z0 := HL.out.sz
  have z3 := HB3.out.size
  have HP : Hid (1 ≤ P ∧ P ≤ 8) := Lib.hid (by omega)
  have HFU : Hid (0 ≤ fu ∧ fu ≤ 100) := Lib.hid ⟨hf0, hf1⟩
  have HN20 : Hid (N ≤ 20) := Lib.hid (by rw [← HNN.out]; exact HLT.out.few)
  have HN1 := Lib.hid (new_dk w3 (fun i => w3.heap.size ≤ i) (fun i hi => hi))
  refine (HN1.out).mono ?_
  rintro e w4 ⟨d, rfl, hd, hb4⟩
  have HO := Lib.hid (open_new (n := jN) (per := P) (F := fun i => w3.heap.size ≤ i) (fun i hi => Nat.le_trans hb4.size hi) (fun i hi => by omega) ((HL.out.next HB3.out).next hb4) hd jN_name ⟨HP.out.1, by have := HP.out; omega⟩)
  have HB4 := Lib.hid hb4
  clear hd hb4 HN1 HS1 hp1 hp2 hf0 hf1
  go_wp2_with fail
  refine (HO.out).mono ?_
  rintro e w5 ⟨l, v, k', rfl, hm5, hk5, st, hu5⟩
  have hb5 : Below w3.heap.size w3 w5 := (Kept.bel (Kept.refl _ w3) HB4.out |>.trans hk5).below (Nat.le_refl _) (fun i hi => hi)
  have HAR := Lib.hid (arm_dk hm5.sep fu (by have := HFU.out; omega))
  have HM5 := Lib.hid hm5
  have HU5 := Lib.hid hu5
  have HB5 := Lib.hid hb5
  clear hm5 hk5 hu5 hb5 HO HB4
  go_wp2_with fail
  refine (HAR.out).mono ?_
  rintro e w6 ⟨rfl, hd6, hk6⟩
  obtain ⟨hm6, hkk6⟩ := HM5.out.turn hd6 hk6
  have hb6 : Below w3.heap.size w3 w6 := HB5.out.trans (hkk6.below HB5.out.size (fun i hi => hi))
  obtain ⟨w7, hw7⟩ : ∃ w7 : World, w6.alloc (.cells #[] 52) = w7 := ⟨_, rfl⟩
  have hb67 : Below w6.heap.size w6 w7 := by rw [← hw7]; exact (Below.refl _ w6).alloc (Nat.le_refl _) _
  have hrow : EvRow w7 w3.heap.size (.slice (some ⟨w6.heap.size, 0, none⟩) 0 0) [] := by rw [← hw7]; exact World.ownsRow_made w6 #[] 0 hb6.size (by decide) rfl
  have hJ : Jb w3 w7 P d l v ⟨armD k' fu, 0, [], 0, 0⟩ (.slice (some ⟨w6.heap.size, 0, none⟩) 0 0) [] := ⟨⟨lim w6 (fun i => w3.heap.size ≤ i), (hm6.mono (G := lim w6 (fun i => w3.heap.size ≤ i)) (fun i hi hs => ⟨hi, hs⟩) (fun i hi => by have := hi.1; omega)).below hb67, fun i hi => hi.1, fun g hg hx => by cases hg; exact absurd hx.2 (Nat.lt_irrefl _)⟩, hrow, hb6.trans (hb67.mono hb6.size), by omega⟩
  have hFs : Fs P ⟨armD k' fu, 0, [], 0, 0⟩ [] false := ⟨.inl ⟨rfl, ⟨_, ⟨HU5.out.lie.of rfl, HU5.out.up, HU5.out.stuck⟩⟩, rfl⟩, rfl, by simp⟩
  have HJ := Lib.hid hJ
  have HFs := Lib.hid hFs
  clear hd6 hk6 hm6 hkk6 hb6 hb67 hrow hJ hFs HAR HM5 HU5 HB5
  go_wp2_with fail
  go_loopw [12, 13, 14] (fun sv b i wr => ∃ (k : Nat) (v' : Value) (j' : Jn Ev) (sent : List Ev) (st : Bool), k ≤ N ∧ i = .int .i64 k ∧ b = .bool st ∧ Hid (Jb w3 wr P d l v' j' sv sent) ∧ Hid (Fs P j' sent st) ∧ Hid (sent.length ≤ totD (ds.take k))) (fun _ _ i _ => N - (intOf i).toNat)
  case atStart => exact ⟨0, v, _, [], false, by omega, rfl, rfl, HJ, HFs, Lib.hid (by simp)⟩
  case round =>
    obtain ⟨k, v', j', sent, stk, hk, rfl, rfl, HJr, HFr, HTr⟩ := hrel
    by_cases hlt : k < N
    · have hkl : k < ds.length := by rw [HNN.out]; exact hlt
      have hbw := HB3.out.trans (HJr.out.below.mono z3)
      obtain ⟨ad, hq, hab, hdd⟩ := Dds.at (show Dds wr w.heap.size (.slice q ds.length cap) ds by rw [HNN.out]; exact HV.out.below hbw) k hkl
      obtain ⟨⟨b0, b1, b2, b3⟩, lv, c0, c1, c2, c3, c4, he⟩ := hdd
      obtain ⟨q1, p1, rfl⟩ := he.shape
      have htk : ds.take (k + 1) = ds.take k ++ [ds[k]] := List.take_succ_eq_append_getElem hkl
      have hsm := HLT.out.small _ (List.getElem_mem hkl)
      obtain ⟨o, ho⟩ : ∃ o, ds[k] = o := ⟨_, rfl⟩
      rw [ho] at c0 c1 c2 c3 c4 he b0 b1 b2 b3 htk hsm
      have htt : totD (ds.take (k + 1)) = totD (ds.take k) + o.L.length := by rw [htk]; unfold totD; simp
      have htot : totD (ds.take (k + 1)) ≤ 60 := Nat.le_trans (tot_take _ _) HLT.out.tot
      obtain ⟨kd, L, pp, fr, nn⟩ := o
      simp only at c0 c1 c2 c3 c4 he b0 b1 b2 b3 hsm htt
      obtain ⟨M, hM⟩ : ∃ M, L.length = M := ⟨_, rfl⟩
      have HE := Lib.hid he
      rw [hM] at c1 HE htt
      have HM := Lib.hid hM
      have HSM := Lib.hid hsm
      have HTT := Lib.hid htt
      have HTO := Lib.hid htot
      subst hq
      have HNX : Hid (k + 1 ≤ N ∧ N - (k + 1) < N - k) := Lib.hid (by omega)
      have hk20 : k ≤ 20 := by have := HN20.out; omega
      clear htk hsm ho htt htot hM he b0 b1 b2 b3 hkl hbw
      have hbx : Below wr.heap.size wr (wr.alloc (.cells #[.int .u8 (kd : Int), .slice q1 M p1, .string pp, .int .i64 fr, .int .i64 nn] 64)) := (Below.refl _ wr).alloc (Nat.le_refl _) _
      have hjx := HJr.out.next hbx
      have HJX := Lib.hid hjx
      by_cases h2 : kd = 2
      · subst h2
        rw [show ((2 : Nat) : Int) = 2 from rfl] at hjx
        have HSY := Lib.hid (hjx.call (j' := (jsync jN j').1) (Q := fun e => e = .returned (.int .i64 ((jsync jN j').2 : Int))) (f := 33) (args := #[.pointer (some ⟨l, 0, none⟩)]) (fun F hF hlo hm => (jsync_any hF hm).mono (fun e w' ⟨h1, h2, h3⟩ => ⟨h1, ⟨_, h2⟩, h3⟩)))
        clear hbx hjx HJX
        have HT2 : Hid (sent.length ≤ totD (ds.take (k + 1))) := Lib.hid (by rw [HTT.out]; exact Nat.le_trans HTr.out (Nat.le_add_right _ _))
        rcases HFr.out.sync with ⟨e1, rfl, hf2⟩ | ⟨e1, hf2⟩
        · rw [e1] at HSY
          have HF2 := Lib.hid hf2
          clear e1 hf2
          go_wp2_with fail
          refine (HSY.out).mono ?_
          rintro e w8 ⟨rfl, v8, hj8⟩
          have HJ2 := Lib.hid hj8
          clear hj8 HSY
          go_wp2_with fail
          exact ⟨⟨k + 1, _, _, _, _, HNX.out.1, by go_num, rfl, HJ2, HF2, HT2⟩, HNX.out.2⟩
        · rw [e1] at HSY
          have HF2 := Lib.hid hf2
          clear e1 hf2
          cases stk
          all_goals
            go_wp2_with fail
            refine (HSY.out).mono ?_
            rintro e w8 ⟨rfl, v8, hj8⟩
            have HJ2 := Lib.hid hj8
            clear hj8
            go_wp2_with fail
            exact ⟨⟨k + 1, _, _, _, _, HNX.out.1, by go_num, rfl, HJ2, HF2, HT2⟩, HNX.out.2⟩
      · by_cases h3 : kd < 2
        · have g1 : ¬ (kd : Int) = 2 := by omega
          have g2 : (kd : Int) < 2 := by omega
          have HAL := Lib.hid (E.rall_any (.slice q1 L.length p1) L (fun e he => small_t (HSM.out e he)) (by have := HTO.out; have := HTT.out; have := HM.out; omega) _ (evs_mono ((show E.Evs wr w.heap.size (.slice q1 L.length p1) L by rw [HM.out]; exact HE.out).below hbx (Nat.le_trans (Nat.le_trans z3 HJr.out.below.size) (Nat.le_refl _))) (Nat.le_trans (Nat.le_trans z3 HJr.out.below.size) hbx.size)))
          rw [HM.out] at HAL
          obtain ⟨Z, hZ⟩ : ∃ Z, L.all E.mayB = Z := ⟨_, rfl⟩
          rw [hZ] at HAL
          have HZ := Lib.hid hZ
          have hx0 : Blk (wr.alloc (.cells #[.int .u8 (kd : Int), .slice q1 M p1, .string pp, .int .i64 fr, .int .i64 nn] 64)) wr.heap.size [.int .u8 (kd : Int), .slice q1 M p1, .string pp, .int .i64 fr, .int .i64 nn] 64 := Blk.new wr [.int .u8 (kd : Int), .slice q1 M p1, .string pp, .int .i64 fr, .int .i64 nn]  64
          have HX0 := Lib.hid hx0
          have HBX := Lib.hid hbx
          clear hbx hjx hZ hx0 h2 h3
          cases Z
          · go_wp2_with fail
            refine (HAL.out).mono ?_
            rintro e w8 ⟨rfl, hb8⟩
            have HJ2 := Lib.hid (HJX.out.next hb8)
            have HT2 : Hid (sent.length ≤ totD (ds.take (k + 1))) := Lib.hid (by rw [HTT.out]; exact Nat.le_trans HTr.out (Nat.le_add_right _ _))
            have HF2 := HFr
            clear hb8 HAL
            go_wp2_with fail
            exact ⟨⟨k + 1, _, _, _, _, HNX.out.1, by go_num, rfl, HJ2, HF2, HT2⟩, HNX.out.2⟩
          · go_wp2_with fail
            refine (HAL.out).mono ?_
            rintro e w8 ⟨rfl, hb8⟩
            have HJ8 := Lib.hid (HJX.out.next hb8)
            have hx8 := HX0.out.below hb8 HX0.out.lt
            have HE8 := Lib.hid ((HE.out.below HBX.out (Nat.le_trans z3 HJr.out.below.size)).below hb8 (Nat.le_trans (Nat.le_trans z3 HJr.out.below.size) HBX.out.size))
            have d0 := hx8.c 0 rfl
            have d1 := hx8.c 1 rfl
            clear hb8 HAL c0 c1 c2 c3 c4
            have HLN : Hid (L.length ≤ 1000000 ∧ (∀ e ∈ L, e.t.size ≤ 1000000000) ∧ sent.length + L.length ≤ 60) := Lib.hid ⟨by have := HTO.out; have := HTT.out; have := HM.out; omega, fun e he => small_t (HSM.out e he), by have := HTO.out; have := HTT.out; have := HM.out; have := HTr.out; omega⟩
            cases stk
            · have HBW3 : Hid (w3.heap.size ≤ w8.heap.size) := Lib.hid HJ8.out.below.size
              have HLN6 : Hid (sent.length + L.length ≤ 1000000) := Lib.hid (by have := HLN.out; omega)
              go_wp2_with (first | (at_builtin; refine wpList_append_evs rfl (.tmp 84) (.tmp 86) rfl w3.heap.size u12 sent rfl HJ8.out.row w.heap.size (.slice q1 M p1) L rfl HE8.out HLN6.out HBW3.out ?_; intro sv9 w9 hr9 hg9 hn9; have HJ9 := Lib.hid (HJ8.out.put hr9 hg9 hn9); have hx9 := hx8.kept hg9 (fun e => ev_ne HJ8.out.row hx8 (by decide) e.symm); have HE9 := Lib.hid (HE8.out.below ((Below.refl w.heap.size w8).grown hg9 (Nat.le_trans z3 HBW3.out) (fun i hi => Nat.le_trans z3 (own_block HJ8.out.row i hi))) (Nat.le_refl _)); have d9 := hx9.c 1 rfl; have d8 := hx9.c 0 rfl; clear hr9 hg9 hn9) | fail)
              have HAP := Lib.hid (HJ9.out.call (j' := (jappend pay jN P E.mayB L j').1) (Q := fun e => e = .returned (.tuple #[.int .i64 ((jappend pay jN P E.mayB L j').2.1 : Int), .int .i64 ((jappend pay jN P E.mayB L j').2.2 : Int)])) (f := 30) (args := #[.pointer (some ⟨l, 0, none⟩), .slice q1 M p1]) (fun F hF hlo hm => (japp_any hF hm (.slice q1 M p1) L (EvP.of (B := w.heap.size) HE9.out (Nat.le_trans z3 HJ9.out.below.size) (fun i hi hf => by have := hlo i hf; omega)) HLN.out.1 HLN.out.2.1).mono (fun e w' ⟨v', h1, h2, h3⟩ => ⟨h1, ⟨v', h2⟩, h3⟩)))
              have HT2 : Hid ((sent ++ L).length ≤ totD (ds.take (k + 1))) := Lib.hid (by rw [HTT.out, List.length_append, HM.out]; exact Nat.add_le_add_right HTr.out _)
              rcases HFr.out.app L HZ.out (by have := HLN.out; omega) with ⟨e1, -, hf2⟩ | ⟨e1, hf2⟩
              · have HF2 := Lib.hid hf2
                rw [e1] at HAP
                clear e1 hf2
                go_wp2_with fail
                refine (HAP.out).mono ?_
                rintro e w10 ⟨rfl, v10, hj10⟩
                have HJ2 := Lib.hid hj10
                clear hj10 HAP
                go_wp2_with fail
                exact ⟨⟨k + 1, _, _, _, _, HNX.out.1, by go_num, rfl, HJ2, HF2, HT2⟩, HNX.out.2⟩
              · rw [if_neg (by simp)] at hf2
                have HF2 := Lib.hid hf2
                rw [e1] at HAP
                clear e1 hf2
                go_wp2_with fail
                refine (HAP.out).mono ?_
                rintro e w10 ⟨rfl, v10, hj10⟩
                have HJ2 := Lib.hid hj10
                clear hj10 HAP
                go_wp2_with fail
                exact ⟨⟨k + 1, _, _, _, _, HNX.out.1, by go_num, rfl, HJ2, HF2, HT2⟩, HNX.out.2⟩
            · have HJ9 := HJ8
              have HE9 := HE8
              have HAP := Lib.hid (HJ9.out.call (j' := (jappend pay jN P E.mayB L j').1) (Q := fun e => e = .returned (.tuple #[.int .i64 ((jappend pay jN P E.mayB L j').2.1 : Int), .int .i64 ((jappend pay jN P E.mayB L j').2.2 : Int)])) (f := 30) (args := #[.pointer (some ⟨l, 0, none⟩), .slice q1 M p1]) (fun F hF hlo hm => (japp_any hF hm (.slice q1 M p1) L (EvP.of (B := w.heap.size) HE9.out (Nat.le_trans z3 HJ9.out.below.size) (fun i hi hf => by have := hlo i hf; omega)) HLN.out.1 HLN.out.2.1).mono (fun e w' ⟨v', h1, h2, h3⟩ => ⟨h1, ⟨v', h2⟩, h3⟩)))
              have HT2 : Hid (sent.length ≤ totD (ds.take (k + 1))) := Lib.hid (by rw [HTT.out]; exact Nat.le_trans HTr.out (Nat.le_add_right _ _))
              rcases HFr.out.app L HZ.out (by have := HLN.out; omega) with ⟨-, e0, -⟩ | ⟨e1, hf2⟩
              · cases e0
              · rw [if_pos rfl] at hf2
                have HF2 := Lib.hid hf2
                rw [e1] at HAP
                clear e1 hf2
                go_wp2_with fail
                refine (HAP.out).mono ?_
                rintro e w10 ⟨rfl, v10, hj10⟩
                have HJ2 := Lib.hid hj10
                clear hj10 HAP
                go_wp2_with fail
                exact ⟨⟨k + 1, _, _, _, _, HNX.out.1, by go_num, rfl, HJ2, HF2, HT2⟩, HNX.out.2⟩
        · have g1 : ¬ (kd : Int) = 2 := by omega
          have g2 : ¬ (kd : Int) < 2 := by omega
          have HJ2 := HJX
          have HT2 : Hid (sent.length ≤ totD (ds.take (k + 1))) := Lib.hid (by rw [HTT.out]; exact Nat.le_trans HTr.out (Nat.le_add_right _ _))
          have HF2 := HFr
          clear hbx hjx HJX h2 h3
          go_wp2_with fail
          exact ⟨⟨k + 1, _, _, _, _, HNX.out.1, by go_num, rfl, HJ2, HF2, HT2⟩, HNX.out.2⟩
    · obtain rfl : k = N := by omega
      obtain ⟨files, es', st', hlie, hpre, hes, hlas⟩ := HFr.out.lies
      obtain ⟨F, hm, hFl, hFg⟩ := HJr.out.log
      obtain ⟨qs, cs, rfl⟩ := HJr.out.row.len
      have h60 : sent.length ≤ 60 := Nat.le_trans HTr.out (Nat.le_trans (tot_take _ _) HLT.out.tot)
      have hln := len_any hm
      have hla := lasting_any hm
      obtain ⟨S, hS⟩ : ∃ S, sent.length = S := ⟨_, rfl⟩
      obtain ⟨A, hA⟩ : ∃ A, j'.es.length = A := ⟨_, rfl⟩
      obtain ⟨B, hB⟩ : ∃ B, j'.lasts = B := ⟨_, rfl⟩
      rw [hA] at hln hes hlas
      rw [hB] at hla hlas
      have hro := HJr.out.row
      rw [hS] at hes h60 hFg hro ⊢
      have HLN := Lib.hid hln
      have HLA := Lib.hid hla
      have HS := Lib.hid hS
      have HB := Lib.hid hB
      have HLIE := Lib.hid hlie
      have HPRE := Lib.hid hpre
      have HM := Lib.hid hm
      have HFL := Lib.hid hFl
      have HFG := Lib.hid hFg
      have n1 : ¬ S < A := by omega
      have n2 : ¬ A < B := by omega
      have HBS : Hid (B ≤ S ∧ S ≤ 60) := Lib.hid (by omega)
      have HFM := Lib.hid HFr.out.may
      have HRO := Lib.hid hro
      have HBr := Lib.hid HJr.out.below
      clear hln hla hS hA hB hlie hpre hm hFl hFg hes hlas HFr HTr HJr h60 hro
      go_wp2_with fail
      refine (HLN.out).mono ?_
      rintro e w' ⟨rfl, hw'⟩
      subst w'
      go_wp2_with fail
      refine (HLA.out).mono ?_
      rintro e w' ⟨rfl, hw'⟩
      subst w'
      obtain ⟨wE, hwE⟩ : ∃ wE : World, wE = wr := ⟨_, rfl⟩
      have HWE := Lib.hid hwE
      obtain ⟨M, hM⟩ : ∃ M, j'.dk.L.length = M := ⟨_, rfl⟩
      have hM4 : M ≤ 4096 := by rw [← hM]; exact HM.out.disk.ok.len
      have hdE : DiskAt wE (lim wE F) d j'.dk := by rw [hwE]; exact HM.out.disk.mono (G := lim wr F) (fun i hi hs => ⟨hi, hs⟩)
      have hNA := fun (w1 : World) (hb : Below wE.heap.size wE w1) => names_dk (hdE.below hb)
      rw [hM] at hNA
      have HNA := Lib.hid hNA
      have HDE := Lib.hid hdE
      have HMM := Lib.hid hM
      clear hdE hNA hM HLN HLA
      rw [← hwE]
      clear hwE
      go_wp2_with fail
      have hrow : (wE.alloc (.cells #[] 3)).ownsRow wE.heap.size 3 1 (.slice (some ⟨wE.heap.size, 0, none⟩) 0 0) 0 [] := World.ownsRow_made wE #[] 0 (Nat.le_refl _) (by decide) rfl
      have HR0 := Lib.hid hrow
      clear hrow
      obtain ⟨i3, hi3, hy0, hy1, hy2⟩ := info_parts info3
      go_loopw [19, 20] (fun a i wr => ∃ x : Nat, x ≤ M ∧ i = .int .i64 x ∧ Hid (wr.ownsRow wE.heap.size 3 1 a x (List.replicate x (.int .i64 ke))) ∧ Hid (Below wE.heap.size wE wr)) (fun _ i _ => M - (intOf i).toNat)
      case atStart => exact ⟨0, by omega, rfl, HR0, Lib.hid ((Below.refl _ wE).alloc (Nat.le_refl _) _)⟩
      case round =>
        obtain ⟨x, hx, rfl, HRx, HBx⟩ := hrel
        have hx4 : x ≤ 4096 := Nat.le_trans hx hM4
        have HX4 : Hid (x + 1 ≤ maxLen ∧ (x + 1) * 8 ≤ 140737488355328) := Lib.hid (by unfold maxLen; omega)
        have HNA1 := Lib.hid (HNA.out _ HBx.out)
        by_cases hlx : x < M
        · have HNX : Hid (x + 1 ≤ M ∧ M - (x + 1) < M - x) := Lib.hid (by omega)
          go_wp2_with (first | (go_at_call 16; refine (HNA1.out).mono ?_; rintro e w12 ⟨qn, cn, rfl, -, -, hb12⟩; have HB12 := Lib.hid (HBx.out.trans (hb12.mono HBx.out.size)); have HR12 : Hid (w12.ownsRow wE.heap.size 3 1 u19 x (List.replicate x (.int .i64 ke))) := Lib.hid (own_keepB HRx.out hb12); have HZ12 : Hid (wE.heap.size ≤ (w12.alloc (.cells #[.int .i64 ke] 3)).heap.size) := Lib.hid (by rw [World.size_alloc]; exact Nat.le_succ_of_le HB12.out.size); clear hb12) | (at_builtin; refine wpList_append_own _ rfl (.tmp 134) (.tmp 136) 54 rfl wE.heap.size 3 i3 _ 1 8 Tryz.underlying54 hi3 hy0 hy1 hy2 rfl (by decide) u19 x (List.replicate x (.int .i64 ke)) rfl (World.ownsRow.alloc HR12.out _) ⟨w12.heap.size, 0, none⟩ 1 1 [.int .i64 ke] rfl rfl (cell_one _ _ _) (by intro u hu; simp at hu; subst hu; rfl) HX4.out.1 HX4.out.2 HZ12.out ?_; intro v13 w13 hown13 hg13 hn13; have HR13 : Hid (w13.ownsRow wE.heap.size 3 1 v13 (x + 1) (List.replicate (x + 1) (.int .i64 ke))) := Lib.hid (by rw [List.replicate_succ']; exact hown13); have HB13 : Hid (Below wE.heap.size wE w13) := Lib.hid ((HB12.out.alloc HB12.out.size (.cells #[.int .i64 ke] 3)).grown hg13 HZ12.out (own_block HR12.out)); clear hown13 hg13 hn13) | fail)
          exact ⟨⟨x + 1, HNX.out.1, by go_num, HR13, HB13⟩, HNX.out.2⟩
        · obtain rfl : x = M := by omega
          go_wp2_with (first | (go_at_call 16; refine (HNA1.out).mono ?_; rintro e w12 ⟨qn, cn, rfl, -, -, hb12⟩; have HB12 := Lib.hid (HBx.out.trans (hb12.mono HBx.out.size)); have HR12 : Hid (w12.ownsRow wE.heap.size 3 1 u19 x (List.replicate x (.int .i64 ke))) := Lib.hid (own_keepB HRx.out hb12); clear hb12) | fail)
          have hd12 := HDE.out.below HB12.out
          have hin : Ints w12 (fun i => ¬ lim wE F i) u19 (List.replicate x ke) := ints_of HR12.out (fun i hi hx => absurd hx.2 (Nat.not_lt.2 hi))
          have HCR := Lib.hid (crash_any hd12 u19 (List.replicate x ke) hin (by rw [List.length_replicate]; omega))
          clear hd12 hin HNA1
          go_wp2_with fail
          refine (HCR.out).mono ?_
          rintro e w14 ⟨rfl, hd14, hk14⟩
          have hz14 : wE.heap.size ≤ w14.heap.size := Nat.le_trans HB12.out.size hk14.size
          have hs3E : w3.heap.size ≤ wE.heap.size := by rw [HWE.out]; exact HBr.out.size
          have hlow : ∀ i, (lim wE F i ∨ w14.heap.size ≤ i) → w3.heap.size ≤ i := fun i hi => by
            rcases hi with h | h
            · exact HFL.out i h.1
            · omega
          have hbE : Below w3.heap.size w3 wE := by rw [HWE.out]; exact HBr.out
          have hb14 : Below w3.heap.size w3 w14 := (hbE.trans (HB12.out.mono hs3E)).trans (hk14.below (Nat.le_trans hs3E HB12.out.size) (fun i hi => HFL.out i hi.1))
          obtain ⟨T, hT⟩ : ∃ T, tnN pay P files es' (cutN pay P files es' j'.lasts ke) = T := ⟨_, rfl⟩
          have hT1 := HLIE.out.lasts_le ke
          have hT2 := HLIE.out.tnN_le (cutN pay P files es' j'.lasts ke)
          rw [hT] at hT1 hT2
          rw [HB.out] at hT1
          have hel := HPRE.out.length_le
          rw [HS.out] at hel
          have hmayall := HFM.out
          have hoke : ∀ y ∈ es', OkE y := fun y hy => .inr (List.all_eq_true.1 hmayall y (HPRE.out.subset hy))
          have htk : es'.take T = sent.take T := by
            obtain ⟨t, ht⟩ := HPRE.out
            rw [← ht, List.take_append_of_le_length hT2]
          have HO2 := Lib.hid (open_crashed (n := jN) (per := P) (F := fun i => lim wE F i ∨ w14.heap.size ≤ i) (fun i hi => .inr hi) (fun i hi => by have := hlow i hi; omega) ((HL.out.next HB3.out).next hb14) ke (List.replicate x ke) (hd14.mono (fun i hi _ => .inl hi)) jN_name (by have := HP.out; omega) HLIE.out hoke (fun i hi => by rw [HMM.out] at hi; rw [List.getElem?_replicate, if_pos hi]; rfl) T hT)
          rw [htk] at HO2
          have HT : Hid (B ≤ T ∧ T ≤ S) := Lib.hid ⟨hT1, Nat.le_trans hT2 hel⟩
          have hgr : ∀ g, (Value.slice qs S cs).ownBlock = some g → ¬ lim wE F g := fun g hg hx => HFG.out g hg hx.1
          have hro14 : EvRow w14 w3.heap.size (.slice qs S cs) sent := by
            have h1 : EvRow wE w3.heap.size (.slice qs S cs) sent := by rw [HWE.out]; exact HRO.out
            exact (h1.below HB12.out (Nat.le_refl _)).keptF hk14 hgr
          have HRO14 := Lib.hid hro14
          have HB14 := Lib.hid hb14
          have HLOW := Lib.hid hlow
          have hgl : ∀ g, (Value.slice qs S cs).ownBlock = some g → g < wE.heap.size := fun g hg => by
            rw [HWE.out]
            obtain ⟨cur, hh⟩ := ev_blk HRO.out hg
            exact lt_of_block hh
          have HGR : Hid (∀ g, (Value.slice qs S cs).ownBlock = some g → ¬ (lim wE F g ∨ w14.heap.size ≤ g)) := Lib.hid (fun g hg hx => by
            rcases hx with h | h
            · exact hgr g hg h
            · have := hgl g hg; omega)
          clear hd14 hk14 hz14 hs3E hlow hbE hb14 hT hT1 hT2 hel hmayall hoke htk hgr hro14 hgl HCR
          go_wp2_with fail
          refine (HO2.out).mono ?_
          rintro e w15 ⟨l2, v2, k2, f2, rfl, hm15, hk15, st15, hu15⟩
          have hb15 : Below w3.heap.size w3 w15 := HB14.out.trans (hk15.below HB14.out.size (fun i hi => HLOW.out i hi))
          have HM15 := Lib.hid hm15
          have HB15 := Lib.hid hb15
          have HRO15 := Lib.hid (HRO14.out.keptF hk15 HGR.out)
          have hlT : (sent.take T).length = T := by rw [List.length_take, HS.out]; have := HT.out; omega
          have hln := len_any hm15
          rw [show (⟨k2, f2, sent.take T, T, 0⟩ : Jn Ev).es.length = T from hlT] at hln
          have HLN := Lib.hid hln
          have n3 : ¬ T < B := by have := HT.out; omega
          have n4 : ¬ S < T := by have := HT.out; omega
          have HOKT : Hid (∀ e ∈ sent.take T, OkE e) := Lib.hid (fun e he => .inr (List.all_eq_true.1 HFM.out e (List.mem_of_mem_take he)))
          have HLT2 := Lib.hid hlT
          clear hm15 hk15 hu15 hb15 hlT hln HO2 HRO14 HGR HLOW HB14
          have hrd := jread_good HM15.out HOKT.out 0 T T (Nat.zero_le _) (by rw [show (⟨k2, f2, sent.take T, T, 0⟩ : Jn Ev).es.length = T from HLT2.out]; omega)
          have hfx : rdE (⟨k2, f2, sent.take T, T, 0⟩ : Jn Ev).es 0 T = sent.take T ∧ (rdO (⟨k2, f2, sent.take T, T, 0⟩ : Jn Ev).es 0 T).length = T := read_all (fun x hx => gone_may (List.all_eq_true.1 HFM.out x (List.mem_of_mem_take hx))) HLT2.out
          rw [hfx.1, show ((0 : Nat) : Int) = 0 from rfl] at hrd
          have HRD := Lib.hid hrd
          have HFX := Lib.hid hfx.2
          clear hrd hfx
          go_wp2_with (first | (go_at_call 31; refine (HLN.out).mono ?_; rintro e w' ⟨rfl, hw'⟩; subst w') | fail)
          refine (HRD.out).mono ?_
          rintro e w16 ⟨x1, x2, rfl, hx1, hx2, hb16⟩
          obtain ⟨q1, cp1, rfl⟩ := hx1.len
          obtain ⟨q2, cp2, rfl, -⟩ := hx2.nums
          rw [HFX.out, HLT2.out]
          have HB16 := Lib.hid (HB15.out.trans (hb16.mono HB15.out.size))
          have hln6 := len_any (HM15.out.below hb16)
          rw [show (⟨k2, f2, sent.take T, T, 0⟩ : Jn Ev).es.length = T from HLT2.out] at hln6
          have HLN6 := Lib.hid hln6
          have hx1e := hx1.evs
          rw [HLT2.out] at hx1e
          have hro16 := (HRO15.out.below hb16 (Nat.le_refl _)).evs
          have hhd := (evs_head hro16 T (by rw [HS.out]; exact HT.out.2)).2.2
          have HSA := Lib.hid (rsame_any (.slice q1 T cp1) (.slice qs T cs) (sent.take T) (by rw [HLT2.out]; have := HT.out; have := HBS.out; omega) w16 hx1e hhd)
          have hTcs : T ≤ cs := by
            have h1 := (evs_head hro16 T (by rw [HS.out]; exact HT.out.2)).2.1
            have := HT.out
            omega
          clear hx1 hx2 hb16 HRD HLN hln6 hx1e hro16 hhd
          go_wp2_with (first | (go_at_call 31; refine (HLN6.out).mono ?_; rintro e w' ⟨rfl, hw'⟩; subst w') | (go_at_call 37; refine (HSA.out).mono ?_; rintro e w17 ⟨rfl, hb17⟩; have HB17 := Lib.hid (HB16.out.trans (hb17.mono HB16.out.size)); clear hb17) | fail)
          go_ret
          exact ⟨rfl, HB3.out.trans (HB17.out.mono z3)⟩
end
end Go.Proofs.YtghnbkkfghfifaaGreatDoor
