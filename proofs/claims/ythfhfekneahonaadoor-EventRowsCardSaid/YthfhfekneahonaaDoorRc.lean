/- The walk of EventRows: its early ways; the bytes of a list, plainly. -/
import Derived.Test.YthfhfekneahonaaDoorRa
namespace Go.Proofs.YthfhfekneahonaaDoor
open Go.RowKit
set_option linter.unusedVariables false
/-- The bytes of events, one behind the other. -/
def bytesL (es : List Ev) : List UInt8 := es.flatMap encL
theorem bytesL_take {es : List Ev} {k : Nat} (hk : k < es.length) : bytesL (es.take (k + 1)) = bytesL (es.take k) ++ encL es[k] := by
  unfold bytesL
  rw [List.take_succ_eq_append_getElem hk, List.flatMap_append]
  simp
theorem bytesL_drop {es : List Ev} {k : Nat} (hk : k < es.length) : bytesL (es.drop k) = encL es[k] ++ bytesL (es.drop (k + 1)) := by
  unfold bytesL
  rw [List.drop_eq_getElem_cons hk, List.flatMap_cons]
theorem encL_le {e : Ev} (h : mayB e = true) : (encL e).length ≤ 400 := by have := encL_len _ (fit_of h); omega
theorem bytesL_len : ∀ (es : List Ev), (∀ e ∈ es, mayB e = true) → (bytesL es).length ≤ 400 * es.length
  | [], _ => by simp [bytesL]
  | e :: es, h => by
    have h1 := encL_le (h e (by simp))
    have h2 := bytesL_len es (fun x hx => h x (by simp [hx]))
    have e1 : bytesL (e :: es) = encL e ++ bytesL es := by unfold bytesL; rw [List.flatMap_cons]
    rw [e1, List.length_append, List.length_cons]
    omega
/-- A list that came in. -/
structure RB (W : World) (bv : Value) (es : List Ev) (w : World) : Prop where
  sn : Evs w W.heap.size bv es
  lay : Lay w
  bw : Below W.heap.size W w
theorem RB.below {W w w' : World} {bv : Value} {es : List Ev} (h : RB W bv es w) (hb : Below w.heap.size w w') : RB W bv es w' := ⟨h.sn.below hb h.bw.size, h.lay.next hb, h.bw.trans (hb.mono h.bw.size)⟩
theorem RB.alloc {W w : World} {bv : Value} {es : List Ev} (h : RB W bv es w) (x : Obj) : RB W bv es (w.alloc x) := h.below ((Below.refl _ _).alloc (Nat.le_refl _) x)
theorem Evs.mono {w : World} {B b : Nat} {bv : Value} {es : List Ev} (h : Evs w b bv es) (hl : b ≤ B) : Evs w B bv es := by
  rcases h with h | ⟨ad, cap, hv, hc, hg, hh⟩
  · exact .inl h
  · exact .inr ⟨ad, cap, hv, hc, fun h0 => by have := hg h0; omega, hh⟩
set_option maxRecDepth 100000 in
theorem lr_1 (q : Option Addr) (cap : Nat) (es : List Ev) (h : 20 < es.length) (w : World) (hL : Lay w) (hv : Evs w w.heap.size (.slice q es.length cap) es) :
    Calls Tryd.prog 11 #[.slice q es.length cap] w fun e w' => e = .returned (.bool true) ∧ Below w.heap.size w w' := by
  have h1 : decide ((20 : Int) < (es.length : Int)) = true := by simp; omega
  have h2 : decide (20 < es.length) = true := by simp; omega
  have HL := Lib.hid hL
  have HV := Lib.hid hv
  clear hL hv
  go_enter Tryd.func11, Tryd.ntmps11
  go_wp2_with fail
  refine (lives_any _ HL.out).mono ?_
  rintro e w1 ⟨rfl, hb⟩
  have M1 : RB w (.slice q es.length cap) es w1 := RB.below ⟨HV.out, HL.out, Below.refl _ _⟩ hb
  clear hb
  go_wp2_with fail
  go_ret
  exact ⟨rfl, M1.bw⟩
set_option maxRecDepth 100000 in
theorem lr_2 (q : Option Addr) (cap : Nat) (es : List Ev) (h : ¬ 20 < es.length) (hs : es.all (fun e => decide (Small e 300)) = false) (w : World) (hL : Lay w) (hv : Evs w w.heap.size (.slice q es.length cap) es) :
    Calls Tryd.prog 11 #[.slice q es.length cap] w fun e w' => e = .returned (.bool true) ∧ Below w.heap.size w w' := by
  have h1 : decide ((20 : Int) < (es.length : Int)) = false := by simp; omega
  have h2 : decide (20 < es.length) = false := by simp; omega
  have HS := Lib.hid hs
  clear hs
  have HL := Lib.hid hL
  have HV := Lib.hid hv
  clear hL hv
  go_enter Tryd.func11, Tryd.ntmps11
  go_wp2_with fail
  refine (lives_any _ HL.out).mono ?_
  rintro e w1 ⟨rfl, hb⟩
  have M1 : RB w (.slice q es.length cap) es w1 := RB.below ⟨HV.out, HL.out, Below.refl _ _⟩ hb
  clear hb
  go_wp2_with fail
  refine (rsome_any _ es 300 (by omega) _ (M1.sn.mono M1.bw.size)).mono ?_
  rw [HS.out]
  rintro e w2 ⟨rfl, hb⟩
  have M2 := M1.below hb
  clear hb
  go_wp2_with fail
  go_ret
  exact ⟨rfl, M2.bw⟩
set_option maxRecDepth 100000 in
theorem lr_3 (q : Option Addr) (cap : Nat) (es : List Ev) (h : ¬ 20 < es.length) (hs : es.all (fun e => decide (Small e 300)) = true) (ha : es.all mayB = false) (w : World) (hL : Lay w) (hv : Evs w w.heap.size (.slice q es.length cap) es) :
    Calls Tryd.prog 11 #[.slice q es.length cap] w fun e w' => e = .returned (.bool true) ∧ Below w.heap.size w w' := by
  have h1 : decide ((20 : Int) < (es.length : Int)) = false := by simp; omega
  have h2 : decide (20 < es.length) = false := by simp; omega
  have ht : ∀ e ∈ es, e.t.size ≤ 1000000000 := fun e he => by
    have h4 := List.all_eq_true.1 hs e he
    have h3 : Small e 300 := by simpa using h4
    have := h3.2.2.2
    omega
  have HS := Lib.hid hs
  have HA := Lib.hid ha
  have HT := Lib.hid ht
  clear hs ha ht
  have HL := Lib.hid hL
  have HV := Lib.hid hv
  clear hL hv
  go_enter Tryd.func11, Tryd.ntmps11
  go_wp2_with fail
  refine (lives_any _ HL.out).mono ?_
  rintro e w1 ⟨rfl, hb⟩
  have M1 : RB w (.slice q es.length cap) es w1 := RB.below ⟨HV.out, HL.out, Below.refl _ _⟩ hb
  clear hb
  go_wp2_with fail
  refine (rsome_any _ es 300 (by omega) _ (M1.sn.mono M1.bw.size)).mono ?_
  rw [HS.out]
  rintro e w2 ⟨rfl, hb⟩
  have M2 := M1.below hb
  clear hb
  go_wp2_with fail
  refine (rall_any _ es HT.out (by omega) _ (M2.sn.mono M2.bw.size)).mono ?_
  rw [HA.out]
  rintro e w3 ⟨rfl, hb⟩
  have M3 := M2.below hb
  clear hb
  go_wp2_with fail
  go_ret
  exact ⟨rfl, M3.bw⟩
theorem RB.own {W w w' : World} {bv : Value} {es : List Ev} (h : RB W bv es w) (hL : Lay W) (hb : Below W.heap.size w w') : RB W bv es w' := ⟨h.sn.below hb (Nat.le_refl _), hL.next (h.bw.trans hb), h.bw.trans hb⟩
theorem Seen.drops {w : World} {B : Nat} {ad : Addr} {cap : Nat} {l : List UInt8} (h : Seen w B (.slice (some ad) l.length cap) l) (m : Nat) (hm : m ≤ l.length) : Seen w B (.slice (some (ad.add m)) (l.length - m) (cap - m)) (l.drop m) := by
  rcases h with ⟨rfl, h⟩ | ⟨ad', cap', hv, hc', hg, hh⟩
  · cases h
  · injection hv with h1 h2 h3
    injection h1 with h1
    subst h1 h3
    refine Seen.mk (by rw [List.length_drop]) (by rw [List.length_drop]; omega) (fun h0 => by rw [add_block]; exact hg (by rw [List.length_drop] at h0; omega)) (fun j hj => ?_)
    rw [List.length_drop] at hj
    rw [Addr.add_add, hh (m + j) (by omega), List.getElem_drop]
theorem Seen.owns {w : World} {base : Nat} {v : Value} {l : List UInt8} (h : OwnB w base v l) : Seen w w.heap.size v l := by
  by_cases hl : 0 < l.length
  · exact Seen.own h hl
  · have hz : l = [] := List.length_eq_zero_iff.1 (by omega)
    subst hz
    rcases h.2 with ⟨h0, _⟩ | ⟨g, cap, cur, hv, _⟩
    · exact .inl ⟨rfl, h0⟩
    · rw [hv]; exact Seen.nil rfl
set_option maxRecDepth 100000 in
set_option maxHeartbeats 2000000 in
theorem lr_4 (q : Option Addr) (cap : Nat) (es : List Ev) (h : ¬ 20 < es.length) (hs : es.all (fun e => decide (Small e 300)) = true) (ha : es.all mayB = true) (w : World) (hL : Lay w) (hv : Evs w w.heap.size (.slice q es.length cap) es) :
    Calls Tryd.prog 11 #[.slice q es.length cap] w fun e w' => e = .returned (.bool true) ∧ Below w.heap.size w w' := by
  obtain ⟨i0, hi, hz0, hz1, hz2⟩ := info_parts info5
  have hmay : ∀ (j : Nat) (hj : j < es.length), mayB es[j] = true := fun j hj => List.all_eq_true.1 ha _ (List.getElem_mem hj)
  have htk : ∀ k, (bytesL (es.take k)).length ≤ 8000 := fun k => by
    have := bytesL_len (es.take k) (fun e he => List.all_eq_true.1 ha e (List.mem_of_mem_take he))
    have h2 : (es.take k).length ≤ es.length := by rw [List.length_take]; omega
    omega
  have hdk : ∀ k, (bytesL (es.drop k)).length ≤ 8000 := fun k => by
    have := bytesL_len (es.drop k) (fun e he => List.all_eq_true.1 ha e (List.mem_of_mem_drop he))
    have h2 : (es.drop k).length ≤ es.length := by rw [List.length_drop]; omega
    omega
  have HMAY := Lib.hid hmay
  have HTK := Lib.hid htk
  have HDK := Lib.hid hdk
  clear hmay htk hdk
  have h1 : decide ((20 : Int) < (es.length : Int)) = false := by simp; omega
  have h2 : decide (20 < es.length) = false := by simp; omega
  have ht : ∀ e ∈ es, e.t.size ≤ 1000000000 := fun e he => by
    have h4 := List.all_eq_true.1 hs e he
    have h3 : Small e 300 := by simpa using h4
    have := h3.2.2.2
    omega
  have HS := Lib.hid hs
  have HA := Lib.hid ha
  have HT := Lib.hid ht
  clear hs ha ht
  have HL := Lib.hid hL
  have HV := Lib.hid hv
  clear hL hv
  go_enter Tryd.func11, Tryd.ntmps11
  go_wp2_with fail
  refine (lives_any _ HL.out).mono ?_
  rintro e w1 ⟨rfl, hb⟩
  have M1 : RB w (.slice q es.length cap) es w1 := RB.below ⟨HV.out, HL.out, Below.refl _ _⟩ hb
  clear hb
  go_wp2_with fail
  refine (rsome_any _ es 300 (by omega) _ (M1.sn.mono M1.bw.size)).mono ?_
  rw [HS.out]
  rintro e w2 ⟨rfl, hb⟩
  have M2 := M1.below hb
  clear hb
  go_wp2_with fail
  refine (rall_any _ es HT.out (by omega) _ (M2.sn.mono M2.bw.size)).mono ?_
  rw [HA.out]
  rintro e w3 ⟨rfl, hb⟩
  have M3 := M2.below hb
  clear hb
  go_wp2_with fail
  go_loopw [3, 4] (fun u i wr => ∃ k : Nat, k ≤ es.length ∧ i = .int .i64 k ∧ Hid (OwnB wr w.heap.size u (bytesL (es.take k))) ∧ Hid (RB w (.slice q es.length cap) es wr)) (fun _ i _ => es.length - (intOf i).toNat)
  case atStart => exact ⟨0, by omega, rfl, OwnB.mono (own_lit0 _ 5) M3.bw.size, M3.alloc _⟩
  case round =>
    obtain ⟨k, hk, rfl, HO, HR⟩ := hrel
    by_cases hlt : k < es.length
    · obtain ⟨ad, rfl, hab, hc⟩ := HR.out.sn.at k hlt
      obtain ⟨c0, c1, c2, c3, c4, c5, c6, c7⟩ := hc
      obtain ⟨ev, hev⟩ : ∃ ev, es[k] = ev := ⟨_, rfl⟩
      rw [hev] at c0 c1 c2 c3 c4 c5 c6 c7
      have hm := HMAY.out k hlt
      rw [hev] at hm
      obtain ⟨s, n, a, kd, p, i, v, t⟩ := ev
      simp only at c0 c1 c2 c3 c4 c5 c6 c7
      have HEV := Lib.hid hev
      have E1 := Lib.hid (fun w hL => enc_at hm w hL)
      have ep := encL_pos ⟨s, n, a, kd, p, i, v, t⟩
      have el := encL_le hm
      clear hev hm
      go_wp2_with fail
      refine (E1.out _ HR.out.lay).mono ?_
      rintro e w5 ⟨u2, rfl, ho2, hb⟩
      have R5 := HR.out.below hb
      have O5 := HO.out.below hb (Nat.le_refl _)
      have hs5 := R5.bw.size
      clear hb c0 c1 c2 c3 c4 c5 c6 c7
      obtain ⟨g2, p2, rfl, _, _⟩ := own_size ho2 ep
      have hl5 := HTK.out k
      unfold OwnB at O5
      have hb0 := own_block O5
      have HR5 := Lib.hid R5
      have HB0 := Lib.hid hb0
      have HO2 := Lib.hid ho2
      clear R5 hb0 ho2
      go_wp2_with (at_builtin; refine wpList_append_own _ rfl (.tmp 42) (.tmp 43) 44 rfl w.heap.size 5 i0 (.int .u8 0) 1 1 Tryd.underlying44 hi hz0 hz1 hz2 rfl (by decide) _ _ _ rfl O5 ⟨g2, 0, none⟩ (encL ⟨s, n, a, kd, p, i, v, t⟩).length p2 (u8s (encL ⟨s, n, a, kd, p, i, v, t⟩)) rfl ?a1 ?a2 ?a3 ?a4 ?a5 ?a6 ?_)
      case a1 => rw [u8s_len, Nat.mul_one]
      case a2 => exact own_cells HO2.out
      case a3 => exact u8s_one _
      case a4 => unfold maxLen; omega
      case a5 => omega
      case a6 => exact hs5
      intro v1 w6 ho6 hg6 _
      have b6 : Below w.heap.size w5 w6 := (Below.refl _ _).grown hg6 hs5 HB0.out
      have R6 := HR5.out.own HL.out b6
      clear hg6
      go_wp2_with fail
      refine ⟨⟨k + 1, by omega, by go_num, ?_, R6⟩, by simp only [intOf]; omega⟩
      unfold Hid OwnB
      rw [bytesL_take hlt, HEV.out, List.length_append, u8s_app]
      exact ho6
    · obtain rfl : k = es.length := by omega
      have hO := HO.out
      rw [List.take_length] at hO
      have HSV := Lib.hid (Seen.owns hO)
      clear hO HO
      obtain ⟨wo, rfl⟩ : ∃ wo : World, wo = wr := ⟨_, rfl⟩
      go_wp2_with fail
      go_loopw [3, 7] (fun u i wx => ∃ k : Nat, k ≤ es.length ∧ i = .int .i64 k ∧ Hid (Seen wx wo.heap.size u (bytesL (es.drop k))) ∧ Hid (RB w (.slice q es.length cap) es wx) ∧ Hid (wo.heap.size ≤ wx.heap.size)) (fun _ i _ => es.length - (intOf i).toNat)
      case atStart => exact ⟨0, by omega, rfl, HSV.out, HR.out, Nat.le_refl _⟩
      case round =>
        obtain ⟨k, hk, rfl, HO, HR, HWO⟩ := hrel
        by_cases hlt : k < es.length
        · have hm := HMAY.out k hlt
          have hbd := bytesL_drop hlt
          have hd := decL_ok es[k] hm (bytesL (es.drop (k + 1)))
          rw [← hbd] at hd
          have ep := encL_pos es[k]
          have hlen := congrArg List.length hbd
          rw [List.length_append] at hlen
          have hsuf : bytesL (es.drop (k + 1)) = (bytesL (es.drop k)).drop (encL es[k]).length := by rw [hbd, List.drop_left]
          have hl8 := HDK.out k
          have hO := HO.out
          obtain ⟨mm, hmm⟩ : ∃ m, (encL es[k]).length = m := ⟨_, rfl⟩
          rw [hmm] at ep hlen hsuf
          rw [hsuf] at hd hlen
          have HSUF := Lib.hid hsuf
          clear hmm hm hbd hsuf
          generalize bytesL (es.drop k) = l at *
          obtain ⟨ev, hev⟩ : ∃ ev, es[k] = ev := ⟨_, rfl⟩
          rw [hev] at hd
          have HEV := Lib.hid hev
          clear hev
          obtain ⟨s, n, a, kd, p, i, v, t⟩ := ev
          obtain ⟨pp, pc, rfl⟩ := hO.shape
          have hml : mm ≤ l.length := by omega
          obtain ⟨ad3, rfl, hpc⟩ : ∃ ad3, pp = some ad3 ∧ l.length ≤ pc := by
            rcases hO with ⟨h0, _⟩ | ⟨ad3, pc', hv', hcc, _⟩
            · rw [h0] at hml; simp at hml; omega
            · injection hv' with h1 h2 h3
              exact ⟨ad3, h1, by omega⟩
          have D' := fun w hL hv => dec_good (.slice (some ad3) l.length pc) l ⟨s, n, a, kd, p, i, v, t⟩ (l.drop mm) hd (by omega) w hL hv
          rw [show (l.length : Int) - ((l.drop mm).length : Int) = (mm : Int) by omega] at D'
          have D := Lib.hid D'
          have HOO := Lib.hid hO
          have g1 : decide ((mm : Int) < 1) = false := by simp; omega
          have g2 : decide (mm < 1) = false := by simp; omega
          have g3 : decide ((l.length : Int) < (mm : Int)) = false := by simp; omega
          have g4 : decide (l.length < mm) = false := by simp; omega
          have hmp : mm ≤ pc := by omega
          clear D' hO hd HO hlen
          go_wp2_with fail
          refine (D.out _ HR.out.lay (HOO.out.mono HWO.out)).mono ?_
          rintro e w5 ⟨rfl, hb⟩
          have R5 := HR.out.below hb
          have O5 := HOO.out.below hb HWO.out
          have S5 := hb.size
          clear hb
          have E6 := EvAt.new w5 ⟨s, n, a, kd, p, i, v, t⟩
          have b6 : Below w5.heap.size w5 (w5.alloc (.cells #[.string s, .int .i64 n, .int .i64 a, .int .i64 kd, .string p, .string i, .int .i64 v, .string t] 24)) := (Below.refl _ _).alloc (Nat.le_refl _) _
          have R6 := R5.below b6
          have O6 := O5.below b6 (by have := HWO.out; omega)
          obtain ⟨ad, rfl, hab, hc⟩ := R6.sn.at k hlt
          rw [HEV.out] at hc
          obtain ⟨c0, c1, c2, c3, c4, c5, c6, c7⟩ := hc
          simp only at c0 c1 c2 c3 c4 c5 c6 c7
          obtain ⟨d0, d1, d2, d3, d4, d5, d6, d7⟩ := E6.all
          simp only at d0 d1 d2 d3 d4 d5 d6 d7
          have HR6 := Lib.hid R6
          have HW6 := Lib.hid (show wo.heap.size ≤ (w5.alloc (.cells #[.string s, .int .i64 n, .int .i64 a, .int .i64 kd, .string p, .string i, .int .i64 v, .string t] 24)).heap.size by have := HWO.out; simp; omega)
          have HO6 := Lib.hid O6
          clear R5 O5 b6 E6 R6 O6
          go_upto_region 17 with fail
          generalize w5.alloc (.cells #[.string s, .int .i64 n, .int .i64 a, .int .i64 kd, .string p, .string i, .int .i64 v, .string t] 24) = w6 at *
          have qc0 := cell_regrown c0
          have qc1 := cell_regrown c1
          have qc2 := cell_regrown c2
          have qc3 := cell_regrown c3
          have qc4 := cell_regrown c4
          have qc5 := cell_regrown c5
          have qc6 := cell_regrown c6
          have qc7 := cell_regrown c7
          have qd0 := cell_regrown d0
          have qd1 := cell_regrown d1
          have qd2 := cell_regrown d2
          have qd3 := cell_regrown d3
          have qd4 := cell_regrown d4
          have qd5 := cell_regrown d5
          have qd6 := cell_regrown d6
          have qd7 := cell_regrown d7
          clear c0 c1 c2 c3 c4 c5 c6 c7 d0 d1 d2 d3 d4 d5 d6 d7
          refine wp_region_quiet_below (by kernel_rfl) (by kernel_rfl) ?_
          repeat (go_big_quiet_step (fail))
          refine wpQuiet_nil ?_
          intro _ hw'
          obtain ⟨⟨dq, osq⟩, hw''⟩ := hw'
          subst hw''
          have bq := below_regrown w6 dq osq
          clear qc0 qc1 qc2 qc3 qc4 qc5 qc6 qc7 qd0 qd1 qd2 qd3 qd4 qd5 qd6 qd7
          have RE := Lib.hid (HR6.out.below bq)
          have WE := Lib.hid (show wo.heap.size ≤ (Sort.grow (redrawn w6 dq) osq).heap.size from Nat.le_trans HW6.out bq.size)
          have SE := Lib.hid (HO6.out.below bq HW6.out)
          clear bq
          by_cases hpm : pc = mm
          · have hz : l.length - mm = 0 := by omega
            have hz2 : l.drop mm = [] := List.drop_of_length_le (by omega)
            have HZ2 := Lib.hid hz2
            have HZ := Lib.hid hz
            clear hz hz2
            go_wp2_with fail
            refine ⟨⟨k + 1, by omega, by go_num, by unfold Hid; rw [HSUF.out, HZ2.out]; exact Seen.nil HZ.out, RE.out, WE.out⟩, by simp only [intOf]; omega⟩
          · go_wp2_with fail
            refine ⟨⟨k + 1, by omega, by go_num, by unfold Hid; rw [HSUF.out]; exact SE.out.drops mm hml, RE.out, WE.out⟩, by simp only [intOf]; omega⟩
        · obtain rfl : k = es.length := by omega
          have hO := HO.out
          rw [List.drop_length] at hO
          obtain ⟨pp, pc, e3⟩ := hO.shape
          have hz : (bytesL []).length = 0 := rfl
          rw [hz] at e3
          subst e3
          clear hO hz HO
          go_wp2_with fail
          go_ret
          exact ⟨rfl, HR.out.bw⟩
theorem law_rows (bv : Value) (es : List Ev) (w : World) (hL : Lay w) (hv : Evs w w.heap.size bv es) :
    Calls Tryd.prog 11 #[bv] w fun e w' => e = .returned (.bool true) ∧ Below w.heap.size w w' := by
  obtain ⟨q, cap, rfl⟩ := hv.shape
  by_cases h : 20 < es.length
  · exact lr_1 q cap es h w hL hv
  · by_cases hs : es.all (fun e => decide (Small e 300)) = true
    · by_cases ha : es.all mayB = true
      · exact lr_4 q cap es h hs ha w hL hv
      · exact lr_3 q cap es h hs (by simpa using ha) w hL hv
    · exact lr_2 q cap es h (Bool.eq_false_iff.2 hs) w hL hv
end Go.Proofs.YthfhfekneahonaaDoor
