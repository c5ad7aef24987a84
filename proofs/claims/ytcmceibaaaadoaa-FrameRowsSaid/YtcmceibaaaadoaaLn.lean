/- What is answered is new memory. -/
import Derived.Test.YtcmceibaaaadoaaLs
import Derived.Test.YtcmceibaaaadoaaLo
import Derived.BigRegion
namespace Go.Proofs.Ytcmceibaaaadoaa
open Go.RowKit
set_option linter.unusedVariables false
theorem OwnB.row {w : World} {base g n cap : Nat} {l : List UInt8} (h : OwnB w base (.slice (some ⟨g, 0, none⟩) n cap) l) : RowB w g cap n l ∧ base ≤ g := by
  rcases h.2 with ⟨hv, _⟩ | ⟨g', cap', cur, hv, hg, hh, r⟩
  · cases hv
  · cases hv
    exact ⟨⟨h.1, .inr ⟨g, cap, cur, rfl, Nat.le_refl _, hh, r⟩⟩, hg⟩
theorem OwnB.other {w : World} {base : Nat} {v : Value} {l : List UInt8} (h : OwnB w base v l) {a : Addr} (ha : a.block < base) (u : Value) : OwnB (w.setCell a u) base v l := ownsRow_setCell_below h ha u
theorem plus_one (x : UInt8) : ((x.toNat : Int) + 1) % 256 = ((x + 1).toNat : Int) := by
  have := x.toNat_lt
  rw [UInt8.toNat_add]
  show _ = (((x.toNat + 1) % 2 ^ 8 : Nat) : Int)
  omega
set_option maxRecDepth 100000 in
set_option maxHeartbeats 1000000 in
theorem new_early (n : Nat) (q : Option Addr) (cap : Nat) (w : World) (h : 3000 < n) :
    Calls Try.prog 8 #[.slice q n cap] w fun e w' => e = .returned (.bool true) ∧ Below w.heap.size w w' := by
  have d1 : decide ((3000 : Int) < (n : Int)) = true := by simp; omega
  clear h
  go_enter Try.func8, Try.ntmps8
  go_wp2_with fail
  refine (awake_any _).mono ?_
  rintro e w1 ⟨rfl, hb⟩
  go_wp2_with fail
  go_ret
  exact ⟨rfl, hb⟩
set_option maxRecDepth 100000 in
set_option maxHeartbeats 4000000 in
theorem new_late (v : Value) (l : List UInt8) (w : World) (hv : Seen w w.heap.size v l) (h0 : l.length ≤ 3000) :
    Calls Try.prog 8 #[v] w fun e w' => e = .returned (.bool true) ∧ Below w.heap.size w w' := by
  obtain ⟨q0, c0, rfl, _⟩ := hv.len
  have HV := Lib.hid hv
  clear hv
  obtain ⟨n, hn⟩ : ∃ n, l.length = n := ⟨_, rfl⟩
  rw [hn] at HV h0 ⊢
  have HN := Lib.hid hn
  have HO := open_frame l [] (by omega)
  have HA := all_frame l [] (by omega)
  rw [List.append_nil, hn] at HO HA
  rw [all_nil] at HA
  simp only [Nat.add_zero] at HA
  have HO := Lib.hid HO
  have HA := Lib.hid HA
  have HFL : Hid ((frameL l).length = n + 10) := by unfold Hid; rw [frameL_len, hn]
  clear hn
  obtain ⟨X, hX⟩ : ∃ X, bs l = X := ⟨_, rfl⟩
  obtain ⟨F, hF⟩ : ∃ F, bs (frameL l) = F := ⟨_, rfl⟩
  have HX := Lib.hid hX
  have HF := Lib.hid hF
  clear hX hF
  have d1 : decide ((3000 : Int) < (n : Int)) = false := by simp; omega
  go_enter Try.func8, Try.ntmps8
  go_wp2_with fail
  refine (awake_any _).mono ?_
  rintro e w1 ⟨rfl, hb1⟩
  have ht1 := (HV.out.below hb1 (Nat.le_refl _)).text
  rw [HX.out] at ht1
  have HV1 := Lib.hid ((HV.out.below hb1 (Nat.le_refl _)).mono hb1.size)
  go_wp2_with fail
  refine (seal_any _ l (by rw [HN.out]; omega) _ HV1.out).mono ?_
  rw [HN.out]
  rintro e w2 ⟨rfl, hr2, hb2⟩
  have bw2 := hb1.trans (hb2.mono hb1.size)
  have HR2 := Lib.hid hr2
  have hs2 := hr2.seen
  have HS2 := Lib.hid hs2
  have ht2 := hs2.text
  rw [HF.out] at ht2
  have hz1 := hb1.size
  obtain ⟨gb, hgb⟩ : ∃ g, w1.heap.size = g := ⟨_, rfl⟩
  rw [hgb] at HR2 HS2 ht2 hz1 ⊢
  have hgl : gb < w2.heap.size := HR2.out.lt
  clear hr2 hs2 hb1 hb2 ht1 hgb
  go_wp2_with fail
  refine (open_whole _ (frameL l) (by rw [HFL.out]; omega) n HO.out.1 (by rw [HFL.out]; omega) w2 HS2.out).mono ?_
  rw [HO.out.2]
  rintro e w3 ⟨u3, rfl, ho3, hb3⟩
  have HS3 := Lib.hid ((HS2.out.below hb3 (Nat.le_refl _)).mono hb3.size)
  obtain ⟨qq, cq, rfl⟩ := ho3.len
  rw [HN.out] at ho3 ⊢
  have HO3 := Lib.hid ho3
  clear ho3 ht2
  go_wp2_with fail
  refine (all_any _ (frameL l) (by rw [HFL.out]; omega) w3 HS3.out).mono ?_
  rw [HA.out]
  simp only
  rintro e w4 ⟨u4, cs4, rfl, hr4, hb4⟩
  have bo4 := hb3.trans (hb4.mono hb3.size)
  have ho4 := HO3.out.below hb4 (Nat.le_refl _)
  obtain ⟨ql, cl, rfl⟩ := hr4.len
  obtain ⟨gl, qc, cc, rfl, c4, hc4⟩ := hr4.at 0 (by simp)
  rw [List.getElem_cons_zero, HN.out] at c4 hc4
  have hap := own_apart hr4.row hc4
  have HO4 := Lib.hid ho4
  have HC4 := Lib.hid hc4
  have HP := Lib.hid hap
  have hgl4 : gl < w4.heap.size := World.block_lt_of_cell? w4 _ c4
  have hz3 := hb3.size
  have hz4 := hb4.size
  have hgl3 : w3.heap.size ≤ gl := own_block hr4.row gl rfl
  have hq : Hid (0 < n → ∃ gq, qq = some ⟨gq, 0, none⟩ ∧ w2.heap.size ≤ gq ∧ gq < w3.heap.size) := by
    intro h
    obtain ⟨gq, cap, he, h1, h2, _⟩ := HO3.out.form (by rw [HN.out]; exact h)
    exact ⟨gq, by cases he; rfl, h1, h2⟩
  have hc : Hid (0 < n → ∃ gc, qc = some ⟨gc, 0, none⟩ ∧ w3.heap.size ≤ gc ∧ gc ≠ gl) := by
    intro h
    obtain ⟨gc, cap, he, h1, _, _⟩ := hc4.form (by rw [HN.out]; exact h)
    refine ⟨gc, by cases he; rfl, h1, fun e => ?_⟩
    cases he
    subst e
    rcases hap with h | h
    · cases h
    · exact h rfl
  clear hr4 hb3 hb4 ho4 hc4 hap
  go_wp2_with fail
  go_loopw [13] (fun i wr => ∃ (k : Nat) (Lk Mk : List UInt8), k ≤ n ∧ i = .int .i64 k ∧ OwnB wr w2.heap.size (.slice qq n cq) Lk ∧ OwnB wr w3.heap.size (.slice qc n cc) Mk ∧ Lk.length = n ∧ Mk.length = n ∧ wr.cell? ⟨gl, 0, none⟩ = some (.slice qc n cc) ∧ Below w2.heap.size w2 wr) (fun i _ => n - (intOf i).toNat)
  case atStart => exact ⟨0, l, l, by omega, rfl, HO4.out, HC4.out, HN.out, HN.out, c4, bo4⟩
  case round =>
    obtain ⟨k, Lk, Mk, hk, rfl, hoq, hoc, hlq, hlc, cl0, hbr⟩ := hrel
    by_cases hlt : k < n
    · obtain ⟨gq, rfl, hq1, hq2⟩ := hq.out (by omega)
      obtain ⟨gc, rfl, hc1, hc2⟩ := hc.out (by omega)
      have rq := (hoq.row).1
      have rc := (hoc.row).1
      obtain ⟨x, hx⟩ : ∃ x, Lk[k]'(by omega) = x := ⟨_, rfl⟩
      obtain ⟨y, hy⟩ : ∃ y, Mk[k]'(by omega) = y := ⟨_, rfl⟩
      have cx := rq.cells (j := k) (by omega)
      have cy := rc.cells (j := k) (by omega)
      rw [hx] at cx
      rw [hy] at cy
      have fx := rq.frozen k
      have fy := rc.frozen k
      have hgq := rq.lt
      have hgc := rc.lt
      have hxl := x.toNat_lt
      have hyl := y.toNat_lt
      have HQ := Lib.hid rq
      have HCC := Lib.hid rc
      have HBR := Lib.hid hbr
      have HCL := Lib.hid cl0
      have hym := hy
      clear hoq hoc hx hy rq rc hbr
      have hq3 := HQ.out.set k (x + 1)
      have hc3 : RowB (wr.setCell ⟨gq, k, none⟩ (.int .u8 ((x + 1).toNat : Int))) gc cc n Mk := HCC.out.grown (Below.heap_setCell _ _ _ _ (by show gc ≠ gq; omega))
      have hl3 : (wr.setCell ⟨gq, k, none⟩ (.int .u8 ((x + 1).toNat : Int))).cell? ⟨gl, 0, none⟩ = some (.slice (some ⟨gc, 0, none⟩) n cc) := by
        rw [World.cell?_of_block (w := wr) (a := ⟨gl, 0, none⟩) (Below.heap_setCell _ _ _ _ (by show gl ≠ gq; omega))]; exact HCL.out
      have hb3 : Below w2.heap.size w2 (wr.setCell ⟨gq, k, none⟩ (.int .u8 ((x + 1).toNat : Int))) := HBR.out.setCell (p := ⟨gq, k, none⟩) hq1 _
      have cy3 := hc3.cells (j := k) (by omega)
      have fy3 := hc3.frozen k
      have hyy : Mk[k]'(by omega) = y := hym
      rw [hyy] at cy3
      have hgc3 := hc3.lt
      have HQ3 := Lib.hid hq3
      have HC3 := Lib.hid hc3
      have HL3 := Lib.hid hl3
      have HB3 := Lib.hid hb3
      clear hq3 hc3 hb3 hyy hym cy
      go_wp2_with fail
      rw [plus_one x]
      clear cx fx fy HBR HCL cl0 HQ HCC
      generalize wr.setCell ⟨gq, k, none⟩ (.int .u8 ((x + 1).toNat : Int)) = ws at *
      go_region
      all_goals
        rw [plus_one y]
        have hq4 : RowB (ws.setCell ⟨gc, k, none⟩ (.int .u8 ((y + 1).toNat : Int))).drew gq cq n (Lk.set k (x + 1)) := HQ3.out.grown (Below.heap_setCell _ _ _ _ (by show gq ≠ gc; omega))
        have hc4 : RowB (ws.setCell ⟨gc, k, none⟩ (.int .u8 ((y + 1).toNat : Int))).drew gc cc n (Mk.set k (y + 1)) := HC3.out.set k (y + 1)
        have hl4 : (ws.setCell ⟨gc, k, none⟩ (.int .u8 ((y + 1).toNat : Int))).drew.cell? ⟨gl, 0, none⟩ = some (.slice (some ⟨gc, 0, none⟩) n cc) := by
          show (ws.setCell ⟨gc, k, none⟩ (.int .u8 ((y + 1).toNat : Int))).cell? ⟨gl, 0, none⟩ = _
          rw [World.cell?_of_block (w := ws) (a := ⟨gl, 0, none⟩) (Below.heap_setCell _ _ _ _ (by show gl ≠ gc; omega))]; exact HL3.out
        have hb4 : Below w2.heap.size w2 (ws.setCell ⟨gc, k, none⟩ (.int .u8 ((y + 1).toNat : Int))).drew := (HB3.out.setCell (p := ⟨gc, k, none⟩) (by show w2.heap.size ≤ gc; omega) _).drew
        generalize (ws.setCell ⟨gc, k, none⟩ (.int .u8 ((y + 1).toNat : Int))).drew = wt at hq4 hc4 hl4 hb4 ⊢
        have HQ4 := Lib.hid hq4
        have HC4' := Lib.hid hc4
        have HL4 := Lib.hid hl4
        have HB4 := Lib.hid hb4
        clear hq4 hc4 hl4 hb4 hl3 cy3 fy3
        go_wp2_with fail
        go_roundw
        case rel => exact ⟨k + 1, Lk.set k (x + 1), Mk.set k (y + 1), by omega, by go_num, HQ4.out.own.mono hq1, HC4'.out.own.mono hc1, by rw [List.length_set]; exact hlq, by rw [List.length_set]; exact hlc, HL4.out, HB4.out⟩
        case measure => simp [intOf]; omega
    · obtain rfl : k = n := by omega
      have bw4 := bw2.trans (hbr.mono bw2.size)
      have rb := HR2.out.below hbr hgl
      have t1 := rb.seen.text
      rw [HF.out] at t1
      have t2 := (HV.out.below bw4 (Nat.le_refl _)).text
      rw [HX.out] at t2
      have cb := rb.cells (j := 0) (by rw [HFL.out]; omega)
      have fb := rb.frozen 0
      have hgb := rb.lt
      have hxb := ((frameL l)[0]'(by rw [HFL.out]; omega)).toNat_lt
      have bz : ∀ u, Below w.heap.size w (wr.setCell ⟨gb, 0, none⟩ u) := fun u => bw4.setCell (p := ⟨gb, 0, none⟩) hz1 u
      have HBZ := Lib.hid bz
      clear hoq hoc cl0 rb bw4 hbr bz
      go_wp2_with fail
      refine (seal_any _ l (by rw [HN.out]; omega) _ ((HV.out.below (HBZ.out _) (Nat.le_refl _)).mono (HBZ.out _).size)).mono ?_
      rw [HN.out]
      rintro e w5 ⟨rfl, hr5, hb5⟩
      have bw5 := (HBZ.out _).trans (hb5.mono (HBZ.out _).size)
      have t3 := hr5.seen.text
      have es : ∀ u, (wr.setCell ⟨gb, 0, none⟩ u).heap.size = wr.heap.size := fun u => by simp [World.setCell]
      rw [HF.out, es] at t3
      have t4 := (HV.out.below bw5 (Nat.le_refl _)).text
      rw [HX.out] at t4
      clear hr5 hb5 t1 t2 es
      go_wp2_with fail
      go_ret
      exact ⟨rfl, bw5⟩
theorem law_new (v : Value) (l : List UInt8) (w : World) (hv : Seen w w.heap.size v l) :
    Calls Try.prog 8 #[v] w fun e w' => e = .returned (.bool true) ∧ Below w.heap.size w w' := by
  by_cases h : 3000 < l.length
  · obtain ⟨q0, c0, rfl, _⟩ := hv.len
    exact new_early _ q0 c0 w h
  · exact new_late v l w hv (by omega)
end Go.Proofs.Ytcmceibaaaadoaa
