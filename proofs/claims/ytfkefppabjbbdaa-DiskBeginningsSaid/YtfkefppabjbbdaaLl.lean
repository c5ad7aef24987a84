/- What lasts is there behind any crash: the statement's walk. -/
import Derived.Test.YtfkefppabjbbdaaY
namespace Go.Proofs.Ytfkefppabjbbdaa
open Go.RowKit Go.Maps
set_option linter.unusedVariables false
theorem longL_some {l : List Cl} (h : longL l = false) {i : Nat} (hi : i < l.length) : l[i].name.length ≤ 100 ∧ l[i].s.length ≤ 200 ∧ l[i].keep.length ≤ 20 := by
  unfold longL at h
  rw [Bool.or_eq_false_iff] at h
  have := (List.any_eq_false.1 h.1) l[i] (List.getElem_mem hi)
  unfold longO at this
  simp only [Bool.or_eq_true, decide_eq_true_eq] at this
  omega
theorem longL_len {l : List Cl} (h : longL l = false) : l.length ≤ 60 := by
  unfold longL at h
  rw [Bool.or_eq_false_iff] at h
  have := h.2
  simp at this
  exact this
set_option maxRecDepth 100000 in
theorem lasts_long (v : Value) (l : List Cl) (n : List UInt8) (q : Option Addr) (M cap : Nat) (w : World) (hv : Cls w w.heap.size v l) (h : ¬ (longL l = false ∧ n.length ≤ 100 ∧ M ≤ 20)) :
    Calls Try.prog 4 #[v, .string (bs n), .slice q M cap] w fun e w' => e = .returned (.bool true) ∧ Below w.heap.size w w' := by
  have hn := bs_size n
  have hlo := Lib.hid (long_any v l w.heap.size w hv (Nat.le_refl _))
  have haw := Lib.hid awake_any
  have fin : Hid (∀ w3 w4, Below w.heap.size w w3 → Below w3.heap.size w3 w4 → Below w.heap.size w w4) := Lib.hid (fun w3 w4 h3 h4 => h3.trans (h4.mono h3.size))
  obtain ⟨q0, cap0, rfl, _⟩ := hv.shape
  clear hv
  cases hL : longL l with
  | true =>
    rw [hL] at hlo
    clear h hL
    go_enter Try.func4, Try.ntmps4
    go_wp2_with fail
    refine (hlo.out).mono ?_
    rintro e w1 ⟨rfl, hb1⟩
    have HB1 := Lib.hid hb1
    clear hb1
    go_wp2_with fail
    refine (haw.out _).mono ?_
    rintro e w2 ⟨rfl, hb2⟩
    have HB2 := Lib.hid (fin.out _ _ HB1.out hb2)
    clear hb2
    go_wp2_with fail
    go_ret
    exact ⟨rfl, HB2.out⟩
  | false =>
    rw [hL] at hlo
    by_cases h1 : 100 < n.length
    · have g1 : decide ((100 : Int) < (n.length : Int)) = true := by simp; omega
      clear h hL
      go_enter Try.func4, Try.ntmps4
      go_wp2_with fail
      refine (hlo.out).mono ?_
      rintro e w1 ⟨rfl, hb1⟩
      have HB1 := Lib.hid hb1
      clear hb1
      go_wp2_with fail
      refine (haw.out _).mono ?_
      rintro e w2 ⟨rfl, hb2⟩
      have HB2 := Lib.hid (fin.out _ _ HB1.out hb2)
      clear hb2
      go_wp2_with fail
      go_ret
      exact ⟨rfl, HB2.out⟩
    · have g1 : decide ((100 : Int) < (n.length : Int)) = false := by simp; omega
      have g2 : decide ((20 : Int) < (M : Int)) = true := by
        have : ¬ M ≤ 20 := fun h' => h ⟨hL, by omega, h'⟩
        simp; omega
      clear h hL
      go_enter Try.func4, Try.ntmps4
      go_wp2_with fail
      refine (hlo.out).mono ?_
      rintro e w1 ⟨rfl, hb1⟩
      have HB1 := Lib.hid hb1
      clear hb1
      go_wp2_with fail
      refine (haw.out _).mono ?_
      rintro e w2 ⟨rfl, hb2⟩
      have HB2 := Lib.hid (fin.out _ _ HB1.out hb2)
      clear hb2
      go_wp2_with fail
      go_ret
      exact ⟨rfl, HB2.out⟩
set_option maxRecDepth 100000 in
theorem lasts_short (v : Value) (l : List Cl) (n : List UInt8) (kv : Value) (ks : List Int) (w : World) (hv : Cls w w.heap.size v l) (hk : Ints w (fun i => i < w.heap.size) kv ks) (hL : longL l = false) (hn1 : n.length ≤ 100) (hk1 : ks.length ≤ 20) :
    Calls Try.prog 4 #[v, .string (bs n), kv] w fun e w' => e = .returned (.bool true) ∧ Below w.heap.size w w' := by
  have hn := bs_size n
  have hlo := Lib.hid (long_any v l w.heap.size w hv (Nat.le_refl _))
  rw [hL] at hlo
  have haw := Lib.hid awake_any
  have hnew := Lib.hid (fun w1 => new_dk w1 (fun i => w1.heap.size ≤ i) (fun i hi => hi))
  obtain ⟨q0, cap0, rfl, _⟩ := hv.shape
  obtain ⟨q, cap, rfl⟩ := hk.len
  have hlen := longL_len hL
  obtain ⟨N, hN⟩ : ∃ N, l.length = N := ⟨_, rfl⟩
  rw [hN] at hv hlen hlo ⊢
  have HV := Lib.hid hv
  have HKS := Lib.hid hk
  have HL := Lib.hid hL
  have HN := Lib.hid hN
  have g1 : decide ((100 : Int) < (n.length : Int)) = false := by simp; omega
  have g2 : decide ((20 : Int) < (ks.length : Int)) = false := by simp; omega
  clear hv hk hL hN
  go_enter Try.func4, Try.ntmps4
  go_wp2_with fail
  refine (hlo.out).mono ?_
  rintro e w1 ⟨rfl, hb1⟩
  have HB1 := Lib.hid hb1
  clear hb1 hlo
  go_wp2_with fail
  refine (hnew.out _).mono ?_
  rintro e w2 ⟨d, rfl, hd2, hb2⟩
  have HD2 : Hid (DiskAt w2 (fun i => w.heap.size ≤ i) d newD) := Lib.hid (hd2.mono (fun i hi _ => Nat.le_trans HB1.out.size hi))
  have HB2 := Lib.hid (HB1.out.trans (hb2.mono HB1.out.size))
  clear hd2 hb2 hnew
  go_wp2_with fail
  go_loopw [8, 9, 35] (fun sv tv iv wr => ∃ (i : Nat) (k : Dk) (sure : List UInt8) (th : Bool), i ≤ N ∧ sv = .string (bs sure) ∧ tv = .bool th ∧ iv = .int .i64 i ∧ Hid (LInv k n sure th) ∧ Hid (DiskAt wr (fun i => w.heap.size ≤ i) d k) ∧ Hid (Below w.heap.size w wr)) (fun _ _ iv _ => N - (intOf iv).toNat)
  case atStart => exact ⟨0, newD, [], false, by omega, rfl, rfl, rfl, linv_new n, HD2, HB2⟩
  case round =>
    obtain ⟨i, k, sure, th, hi, rfl, rfl, rfl, HI, HD, HB⟩ := hrel
    by_cases hlt : i < N
    · have hil : i < l.length := by rw [HN.out]; exact hlt
      obtain ⟨ad, rfl, hab, -, kv, c0, c1, c2, c3, c4, hk⟩ := (HV.out.below HB.out).at i hil
      have hsm := longL_some HL.out hil
      obtain ⟨o, ho⟩ : ∃ o, l[i] = o := ⟨_, rfl⟩
      rw [ho] at c0 c1 c2 c3 hk hsm
      obtain ⟨kind, m, nm, s, keep⟩ := o
      simp only at c0 c1 c2 c3 hk hsm
      obtain ⟨qk, capk, rfl⟩ := hk.len
      have HB' : Hid (Below w.heap.size w (wr.alloc (.cells #[.int .i64 kind, .int .i64 m, .string (bs nm), .string (bs s), .slice qk keep.length capk] 41))) := Lib.hid (HB.out.alloc HB.out.size _)
      have HD' : Hid (DiskAt (wr.alloc (.cells #[.int .i64 kind, .int .i64 m, .string (bs nm), .string (bs s), .slice qk keep.length capk] 41)) (fun i => w.heap.size ≤ i) d k) := Lib.hid (HD.out.alloc _)
      have hsz := HB.out.size
      clear ho hk hil
      by_cases hkd : kind < 1
      · have k1 : decide (kind < 1) = true := by simpa using hkd
        clear hkd
        go_wp2_with fail
        refine ⟨⟨i + 1, k, sure, th, by omega, rfl, rfl, by simp, HI, HD', HB'⟩, ?_⟩
        simp only [intOf]
        omega
      · have k1 : decide (kind < 1) = false := by simpa using hkd
        by_cases hkd4 : 4 < kind
        · have k2 : decide (4 < kind) = true := by simpa using hkd4
          clear hkd hkd4
          go_wp2_with fail
          refine ⟨⟨i + 1, k, sure, th, by omega, rfl, rfl, by simp, HI, HD', HB'⟩, ?_⟩
          simp only [intOf]
          omega
        · have k2 : decide (4 < kind) = false := by simpa using hkd4
          have hdl : DiskAt (wr.alloc (.cells #[.int .i64 kind, .int .i64 m, .string (bs nm), .string (bs s), .slice qk keep.length capk] 41)) (fun j => w.heap.size ≤ j ∧ j ≠ wr.heap.size) d k := (HD.out.mono (G := fun j => w.heap.size ≤ j ∧ j ≠ wr.heap.size) (fun j hj hl => ⟨hj, by omega⟩)).alloc _
          have hdo := do_any (hF := fun j hj => by rw [World.size_alloc] at hj; exact ⟨by omega, by omega⟩) hdl kind m nm s (by omega) (by omega) qk keep.length capk
          have hlb := Blk.new wr [.int .i64 kind, .int .i64 m, .string (bs nm), .string (bs s), .slice qk keep.length capk] 41
          have HLB := Lib.hid hlb
          have HDO := Lib.hid hdo
          obtain ⟨ev, hev⟩ : ∃ ev, stE k kind nm s = ev := ⟨_, rfl⟩
          rw [hev] at HDO
          have HEV := Lib.hid hev
          clear hdo hev hdl hlb
          go_wp2_with fail
          refine (HDO.out).mono ?_
          rintro e w3 ⟨rfl, hd3, hk3⟩
          have HD3 : Hid (DiskAt w3 (fun j => w.heap.size ≤ j) d (stD k kind nm s)) := Lib.hid (hd3.mono (fun j hj _ => hj.1))
          have HB3 : Hid (Below w.heap.size w w3) := Lib.hid (HB'.out.trans (hk3.below HB'.out.size (fun j hj => hj.1)))
          have hl3 := HLB.out.keptF hk3 (fun h => h.2 rfl)
          have o0 := hl3.c 0 rfl
          have o2 := hl3.c 2 rfl
          have HL3 := Lib.hid hl3
          clear hd3 hk3 hl3
          by_cases hnm : nm = n
          · have q1 : ((bs nm).toList == (bs n).toList) = true := by rw [hnm]; simp
            by_cases he : ev = 0
            · subst he
              subst hnm
              by_cases h4 : kind = 4
              · have HI3 : Hid (LInv (stD k kind nm s) nm [] false ∧ find (stD k kind nm s) nm = 6) := Lib.hid (linv_del HI.out (by omega) (by omega) (by omega) HEV.out)
                have k4 : (kind == 4) = true := by simp [h4]
                clear h4
                have HRD := Lib.hid (read_any HD3.out nm (by omega))
                rw [HI3.out.2] at HRD
                go_wp2_with fail
                refine (HRD.out).mono ?_
                rintro e w4 ⟨u4', rfl, hu4, hd4, hb4⟩
                obtain ⟨q4, cap4, rfl⟩ := hu4.len
                have HD4 := Lib.hid hd4
                have HB4 := Lib.hid (HB3.out.trans (hb4.mono HB3.out.size))
                have hl4 := HL3.out.below hb4 HL3.out.lt
                have o40 := hl4.c 0 rfl
                have ht4 := (Seen.own hu4).text
                clear hu4 hd4 hb4 hl4
                go_wp2_with fail
                refine ⟨⟨i + 1, _, [], false, by omega, rfl, rfl, by simp, HI3.out.1, HD4, HB4⟩, ?_⟩
                simp only [intOf]
                omega
              · have k4 : (kind == 4) = false := by simp [h4]
                obtain ⟨fz, hfz⟩ : ∃ fz, find (stD k kind nm s) nm = fz := ⟨_, rfl⟩
                by_cases h1 : kind = 1
                · have HI3 : Hid (LInv (stD k kind nm s) nm sure th) := Lib.hid (by
                    have he' := HEV.out
                    rw [h1] at he' ⊢
                    exact linv_append HD.out.ok HI.out he')
                  have k5 : decide (1 < kind) = false := by simp; omega
                  clear h4 h1
                  have HRD := Lib.hid (read_any HD3.out nm (by omega))
                  rw [hfz] at HRD
                  clear hfz
                  go_wp2_with fail
                  refine (HRD.out).mono ?_
                  rintro e w4 ⟨u4', rfl, hu4, hd4, hb4⟩
                  obtain ⟨q4, cap4, rfl⟩ := hu4.len
                  have HD4 := Lib.hid hd4
                  have HB4 := Lib.hid (HB3.out.trans (hb4.mono HB3.out.size))
                  have hl4 := HL3.out.below hb4 HL3.out.lt
                  have o40 := hl4.c 0 rfl
                  have ht4 := (Seen.own hu4).text
                  clear hu4 hd4 hb4 hl4
                  go_wp2_with fail
                  refine ⟨⟨i + 1, _, sure, th, by omega, rfl, rfl, by simp, HI3, HD4, HB4⟩, ?_⟩
                  simp only [intOf]
                  omega
                · have HI3 : Hid (LInv (stD k kind nm s) nm (readS (stD k kind nm s) nm) true) := Lib.hid (linv_set HD.out.ok HI.out (by omega) HEV.out)
                  have k5 : decide (1 < kind) = true := by simp; omega
                  clear h4 h1
                  have HRD := Lib.hid (read_any HD3.out nm (by omega))
                  rw [hfz] at HRD
                  clear hfz
                  go_wp2_with fail
                  refine (HRD.out).mono ?_
                  rintro e w4 ⟨u4', rfl, hu4, hd4, hb4⟩
                  obtain ⟨q4, cap4, rfl⟩ := hu4.len
                  have HD4 := Lib.hid hd4
                  have HB4 := Lib.hid (HB3.out.trans (hb4.mono HB3.out.size))
                  have hl4 := HL3.out.below hb4 HL3.out.lt
                  have o40 := hl4.c 0 rfl
                  have ht4 := (Seen.own hu4).text
                  clear hu4 hd4 hb4 hl4
                  go_wp2_with fail
                  refine ⟨⟨i + 1, _, _, true, by omega, rfl, rfl, by simp, HI3, HD4, HB4⟩, ?_⟩
                  simp only [intOf]
                  omega
            · have k3 : ((ev : Int) == 0) = false := by simp; omega
              have HI3 : Hid (LInv (stD k kind nm s) n sure th) := Lib.hid (linv_other HD.out.ok HI.out (.inr (by rw [HEV.out]; exact he)))
              clear he
              go_wp2_with fail
              refine ⟨⟨i + 1, _, sure, th, by omega, rfl, rfl, by simp, HI3, HD3, HB3⟩, ?_⟩
              simp only [intOf]
              omega
          · have q1 : ((bs nm).toList == (bs n).toList) = false := by rw [bs_toList, bs_toList]; simpa using hnm
            have HI3 : Hid (LInv (stD k kind nm s) n sure th) := Lib.hid (linv_other HD.out.ok HI.out (.inl hnm))
            clear hnm
            go_wp2_with fail
            refine ⟨⟨i + 1, _, sure, th, by omega, rfl, rfl, by simp, HI3, HD3, HB3⟩, ?_⟩
            simp only [intOf]
            omega
    · obtain rfl : i = N := by omega
      have HC := Lib.hid (linv_crash HD.out.ok HI.out ks)
      have HCR := Lib.hid (crash_any HD.out _ ks ((HKS.out.belowB HB.out).mono (fun j hj _ => by omega)) (by omega))
      clear hi hlt
      cases th with
      | true =>
        have hf0 := HC.out.1 rfl
        go_wp2_with fail
        refine (HCR.out).mono ?_
        rintro e w3 ⟨rfl, hd3, hk3⟩
        have HD3 := Lib.hid hd3
        have HB3 := Lib.hid (HB.out.trans (hk3.below HB.out.size (fun j hj => hj)))
        clear hd3 hk3
        go_wp2_with fail
        refine (read_any HD3.out n (by omega)).mono ?_
        rw [hf0]
        clear hf0
        rintro e w4 ⟨u4', rfl, hu4, hd4, hb4⟩
        obtain ⟨q4, cap4, rfl⟩ := hu4.len
        obtain ⟨-, hc4, _⟩ := own_cap hu4
        have ht4 := (Seen.own (hu4.take sure.length HC.out.2.1)).text
        rw [HC.out.2.2] at ht4
        have HB4 := Lib.hid (HB3.out.trans (hb4.mono HB3.out.size))
        obtain ⟨R, hR⟩ : ∃ R, (readS (crashD k ks) n).length = R := ⟨_, rfl⟩
        rw [hR]
        rw [hR] at hc4
        have hRs : sure.length ≤ R := by rw [← hR]; exact HC.out.2.1
        obtain ⟨S, hS⟩ : ∃ S, sure.length = S := ⟨_, rfl⟩
        rw [hS] at ht4 hRs
        have hss := bs_size sure
        rw [hS] at hss
        have k7 : decide ((R : Int) < (S : Int)) = false := by simp; omega
        have hq4 : q4 = none → S = 0 := fun h0 => by have := (own_cap hu4).2.2 h0; omega
        have hSc : S ≤ cap4 := by omega
        clear hu4 hd4 hb4 hR hS
        go_wp2_with fail
        refine (haw.out _).mono ?_
        rintro e w5 ⟨rfl, hb5⟩
        have HB5 := Lib.hid (HB4.out.trans (hb5.mono HB4.out.size))
        clear hb5
        go_wp2_with fail
        go_ret
        exact ⟨rfl, HB5.out⟩
      | false =>
        obtain ⟨fz, hfz⟩ : ∃ fz, find (crashD k ks) n = fz := ⟨_, rfl⟩
        go_wp2_with fail
        refine (HCR.out).mono ?_
        rintro e w3 ⟨rfl, hd3, hk3⟩
        have HD3 := Lib.hid hd3
        have HB3 := Lib.hid (HB.out.trans (hk3.below HB.out.size (fun j hj => hj)))
        clear hd3 hk3
        go_wp2_with fail
        refine (read_any HD3.out n (by omega)).mono ?_
        rw [hfz]
        clear hfz
        rintro e w4 ⟨u4', rfl, hu4, hd4, hb4⟩
        obtain ⟨q4, cap4, rfl⟩ := hu4.len
        obtain ⟨-, hc4, _⟩ := own_cap hu4
        have ht4 := (Seen.own (hu4.take sure.length HC.out.2.1)).text
        rw [HC.out.2.2] at ht4
        have HB4 := Lib.hid (HB3.out.trans (hb4.mono HB3.out.size))
        obtain ⟨R, hR⟩ : ∃ R, (readS (crashD k ks) n).length = R := ⟨_, rfl⟩
        rw [hR]
        rw [hR] at hc4
        have hRs : sure.length ≤ R := by rw [← hR]; exact HC.out.2.1
        obtain ⟨S, hS⟩ : ∃ S, sure.length = S := ⟨_, rfl⟩
        rw [hS] at ht4 hRs
        have hss := bs_size sure
        rw [hS] at hss
        have k7 : decide ((R : Int) < (S : Int)) = false := by simp; omega
        have hq4 : q4 = none → S = 0 := fun h0 => by have := (own_cap hu4).2.2 h0; omega
        have hSc : S ≤ cap4 := by omega
        clear hu4 hd4 hb4 hR hS
        go_wp2_with fail
        refine (haw.out _).mono ?_
        rintro e w5 ⟨rfl, hb5⟩
        have HB5 := Lib.hid (HB4.out.trans (hb5.mono HB4.out.size))
        clear hb5
        go_wp2_with fail
        go_ret
        exact ⟨rfl, HB5.out⟩
theorem law_lasts (v : Value) (l : List Cl) (n : List UInt8) (kv : Value) (ks : List Int) (w : World) (hv : Cls w w.heap.size v l) (hk : Ints w (fun i => i < w.heap.size) kv ks) :
    Calls Try.prog 4 #[v, .string (bs n), kv] w fun e w' => e = .returned (.bool true) ∧ Below w.heap.size w w' := by
  by_cases h : longL l = false ∧ n.length ≤ 100 ∧ ks.length ≤ 20
  · exact lasts_short v l n kv ks w hv hk h.1 h.2.1 h.2.2
  · obtain ⟨q, cap, rfl⟩ := hk.len
    exact lasts_long v l n q _ cap w hv h
end Go.Proofs.Ytfkefppabjbbdaa
