/- The event with which bytes begin: the reference's walk. -/
import Derived.Test.YthfhfekneahonaaDoorYc
namespace Go.Proofs.YthfhfekneahonaaDoor
open Go.RowKit
set_option linter.unusedVariables false
set_option maxRecDepth 100000 in
theorem rdec_nil (bv : Value) (w : World) (hv : Seen w w.heap.size bv []) :
    Calls Tryd.prog 35 #[bv] w fun e w' => e = .returned (decV []) ∧ Below w.heap.size w w' := by
  have hb : decL [] = .bad 3 := rfl
  rw [decV_bad hb]
  obtain ⟨q, cap, e⟩ := hv.shape
  simp only [List.length_nil] at e
  subst e
  clear hv
  go_enter Tryd.func35, Tryd.ntmps35
  go_wp2_with fail
  obtain ⟨r0, r1, r2, r3, r4, r5, r6, r7⟩ := ((EvAt.new w zeroE).alloc (.cells #[.string ⟨#[]⟩, .int .i64 0, .int .i64 0, .int .i64 0, .string ⟨#[]⟩, .string ⟨#[]⟩, .int .i64 0, .string ⟨#[]⟩] 24)).all
  simp only [zeroE] at r0 r1 r2 r3 r4 r5 r6 r7
  refine bodyPost_ret (v := .tuple #[.agg #[.string ⟨#[]⟩, .int .i64 0, .int .i64 0, .int .i64 0, .string ⟨#[]⟩, .string ⟨#[]⟩, .int .i64 0, .string ⟨#[]⟩], .int .i64 0, .int .i64 3]) (by simp [results, Tryd.results35, go_sem, r0, r1, r2, r3, r4, r5, r6, r7]) rfl ⟨rfl, ((Below.refl _ _).alloc (by simp) _).alloc (by simp) _⟩
set_option maxRecDepth 100000 in
set_option maxHeartbeats 4000000 in
theorem rdec_walk (q : Option Addr) (cap : Nat) (l : List UInt8) (hl : l.length ≤ 1000) (hne : 0 < l.length) (k : UInt8) (s : ByteArray) (n a : Nat) (p i : ByteArray) (v : Nat) (t : ByteArray) (x1 x2 x3 x4 x5 x6 x7 x8 : Rd Unit) (hc : Chain l k s n a p i v t x1 x2 x3 x4 x5 x6 x7 x8) (w : World) (hv : Seen w w.heap.size (.slice q l.length cap) l) :
    Calls Tryd.prog 35 #[.slice q l.length cap] w fun e w' => e = .returned (decV l) ∧ Below w.heap.size w w' := by
  have TS : t.size ≤ 1000000000 := by rw [← hc.ht]; exact txt_size
  have H := Lib.hid hc
  have HV := Lib.hid hv
  have hcell : ∃ ad, q = some ad ∧ w.cell? ad = some (.int .u8 (k.toNat : Int)) ∧ ad.block < w.heap.size ∧ 1 ≤ cap ∧ x1 = .ok () (l.drop 1) := by
    rcases hv with ⟨h0, _⟩ | ⟨ad, cap', hv', hcc, hg, hh⟩
    · rw [h0] at hne; simp at hne
    · injection hv' with h1 h2 h3
      have hcl := hh 0 hne
      rw [Addr.add_zero'] at hcl
      cases l with
      | nil => simp at hne
      | cons c r =>
        have hk := hc.hk
        have hx := hc.g1
        have hk2 : c = k := hk
        have hx2 : (Rd.ok () r : Rd Unit) = x1 := hx
        rw [List.getElem_cons_zero, hk2] at hcl
        exact ⟨ad, h1, hcl, hg hne, by simp at hcc; omega, hx2.symm⟩
  obtain ⟨ad, rfl, cc, hab, hcap, hx1⟩ := hcell
  have wk := wrap_u8n k
  have hn : ((l.length : Int) == 0) = false := beq_eq_false_iff_ne.2 (by omega)
  have HX1 := Lib.hid hx1
  clear hc hv hx1
  go_enter Tryd.func35, Tryd.ntmps35
  go_wp2_with fail
  clear cc hab
  go_loopw [9, 7, 8] (fun fi at' co wr => ∃ (f j : Nat), f ≤ 7 ∧ j ≤ l.length ∧ fi = .int .i64 f ∧ at' = .int .i64 j ∧ co = .int .i64 0 ∧ Hid (partX x1 x2 x3 x4 x5 x6 x7 x8 f = .ok () (l.drop j)) ∧ Hid (RD w (partE k s n a p i v t f) (.slice (some ad) l.length cap) l wr)) (fun fi _ _ _ => 7 - (intOf fi).toNat)
  case atStart => exact ⟨0, 1, by omega, by omega, rfl, rfl, rfl, HX1.out, RD.start HV.out _⟩
  case round =>
    obtain ⟨f, j, hf, hj, rfl, rfl, rfl, HP, HR⟩ := hrel
    have hcases : f = 0 ∨ f = 1 ∨ f = 2 ∨ f = 3 ∨ f = 4 ∨ f = 5 ∨ f = 6 ∨ f = 7 := by omega
    rcases hcases with rfl | rfl | rfl | rfl | rfl | rfl | rfl | rfl
    · have hp : x1 = .ok () (l.drop j) := HP.out
      have R : RD w ⟨⟨#[]⟩, 0, 0, ((k.toNat : Nat) : Int), ⟨#[]⟩, ⟨#[]⟩, 0, ⟨#[]⟩⟩ (.slice (some ad) l.length cap) l wr := HR.out
      have hch := H.out
      obtain ⟨c0, c1, c2, c3, c4, c5, c6, c7⟩ := R.ev.all
      simp only at c0 c1 c2 c3 c4 c5 c6 c7
      obtain ⟨f0, f1, f2, f3, f4, f5, f6, f7⟩ := R.ev.frz
      have hlt := R.ev.lt
      have HRR := Lib.hid R
      clear HP HR R
      cases hr : rdTxt (l.drop j) with
      | bad c =>
        have hc3 := rdTxt_bad hr
        subst hc3
        have hx : x2 = .bad 3 := by rw [← hch.g2, hp]; show (rdTxt (l.drop j)).st = _; rw [hr]; rfl
        have HB := Lib.hid (decV_bad (hch.all_bad (.inl hx)))
        have HT := Lib.hid hr
        obtain ⟨z0, z1, z2, z3, z4, z5, z6, z7⟩ := HRR.out.z.all
        simp only [zeroE] at z0 z1 z2 z3 z4 z5 z6 z7
        obtain ⟨q0, q1, q2, q3, q4, q5, q6, q7⟩ := HRR.out.r.all
        simp only [zeroE] at q0 q1 q2 q3 q4 q5 q6 q7
        obtain ⟨d0, d1, d2, d3, d4, d5, d6, d7⟩ := HRR.out.r.frz
        have hrl := HRR.out.r.lt
        have hzl := HRR.out.z.lt
        clear hch hx hp hr
        go_wp2_with fail
        refine (rtake_torn _ l j hj hl 3 HT.out _ _ HRR.out.sn).mono ?_
        rintro e w1 ⟨rfl, rfl⟩
        go_wp2_with fail
        have R8 := HRR.out.s0 ⟨#[]⟩
        have R1 : EvAt (((((((((w1.setCell ⟨w.heap.size + 1 + 1, 0, none⟩ (.string ⟨#[]⟩)).setCell ⟨w.heap.size, 0, none⟩ (.string ⟨#[]⟩)).setCell ⟨w.heap.size, 1, none⟩ (.int .i64 0)).setCell ⟨w.heap.size, 2, none⟩ (.int .i64 0)).setCell ⟨w.heap.size, 3, none⟩ (.int .i64 0)).setCell ⟨w.heap.size, 4, none⟩ (.string ⟨#[]⟩)).setCell ⟨w.heap.size, 5, none⟩ (.string ⟨#[]⟩)).setCell ⟨w.heap.size, 6, none⟩ (.int .i64 0)).setCell ⟨w.heap.size, 7, none⟩ (.string ⟨#[]⟩)) w.heap.size ⟨⟨#[]⟩, 0, 0, 0, ⟨#[]⟩, ⟨#[]⟩, 0, ⟨#[]⟩⟩ := R8.r.put ⟨#[]⟩ 0 0 0 ⟨#[]⟩ ⟨#[]⟩ 0 ⟨#[]⟩
        have BW : Below w.heap.size w (((((((((w1.setCell ⟨w.heap.size + 1 + 1, 0, none⟩ (.string ⟨#[]⟩)).setCell ⟨w.heap.size, 0, none⟩ (.string ⟨#[]⟩)).setCell ⟨w.heap.size, 1, none⟩ (.int .i64 0)).setCell ⟨w.heap.size, 2, none⟩ (.int .i64 0)).setCell ⟨w.heap.size, 3, none⟩ (.int .i64 0)).setCell ⟨w.heap.size, 4, none⟩ (.string ⟨#[]⟩)).setCell ⟨w.heap.size, 5, none⟩ (.string ⟨#[]⟩)).setCell ⟨w.heap.size, 6, none⟩ (.int .i64 0)).setCell ⟨w.heap.size, 7, none⟩ (.string ⟨#[]⟩)) := below_put R8.bw (Nat.le_refl _) ⟨#[]⟩ 0 0 0 ⟨#[]⟩ ⟨#[]⟩ 0 ⟨#[]⟩
        clear c0 c1 c2 c3 c4 c5 c6 c7 f0 f1 f2 f3 f4 f5 f6 f7 hlt z0 z1 z2 z3 z4 z5 z6 z7 q0 q1 q2 q3 q4 q5 q6 q7 d0 d1 d2 d3 d4 d5 d6 d7 hrl hzl R8
        obtain ⟨r0, r1, r2, r3, r4, r5, r6, r7⟩ := R1.all
        simp only at r0 r1 r2 r3 r4 r5 r6 r7
        refine bodyPost_ret (v := .tuple #[.agg #[.string ⟨#[]⟩, .int .i64 0, .int .i64 0, .int .i64 0, .string ⟨#[]⟩, .string ⟨#[]⟩, .int .i64 0, .string ⟨#[]⟩], .int .i64 0, .int .i64 3]) (by simp [results, Tryd.results35, go_sem, r0, r1, r2, r3, r4, r5, r6, r7]) rfl ⟨by rw [HB.out], BW⟩
      | ok y r =>
        have hy : y = s := by rw [← hch.hs, hp]; show y = (rdTxt (l.drop j)).val _; rw [hr]; rfl
        subst hy
        have hx : x2 = .ok () r := by rw [← hch.g2, hp]; show (rdTxt (l.drop j)).st = _; rw [hr]; rfl
        have hsuf := drop_suffix (rdTxt_inv hr)
        obtain ⟨j', hj'⟩ : ∃ j', l.length - r.length = j' := ⟨_, rfl⟩
        have T := fun B w hv => rtake_ok (.slice (some ad) l.length cap) l j hj hl y r hr B w hv
        rw [hj'] at T hsuf
        have HT := Lib.hid T
        rw [hsuf] at hx
        have HXX := Lib.hid hx
        have hjl : j' ≤ l.length := by omega
        clear hch hx hp hr T hsuf hj'
        go_wp2_with fail
        refine (HT.out _ _ HRR.out.sn).mono ?_
        rintro e w1 ⟨rfl, rfl⟩
        go_wp2_with fail
        go_roundw
        case rel => exact ⟨1, j', by omega, hjl, rfl, rfl, rfl, HXX.out, HRR.out.s0 y⟩
        case measure => simp [intOf]
    · have hp : x2 = .ok () (l.drop j) := HP.out
      have R : RD w ⟨s, 0, 0, ((k.toNat : Nat) : Int), ⟨#[]⟩, ⟨#[]⟩, 0, ⟨#[]⟩⟩ (.slice (some ad) l.length cap) l wr := HR.out
      have hch := H.out
      obtain ⟨c0, c1, c2, c3, c4, c5, c6, c7⟩ := R.ev.all
      simp only at c0 c1 c2 c3 c4 c5 c6 c7
      obtain ⟨f0, f1, f2, f3, f4, f5, f6, f7⟩ := R.ev.frz
      have hlt := R.ev.lt
      have HRR := Lib.hid R
      clear HP HR R
      cases hr : rdNum (l.drop j) with
      | bad c =>
        have hc3 := rdNum_bad hr
        have hc4 : (c == 0) = false := by rcases hc3 with rfl | rfl <;> rfl
        have hc5 : (c = 0) = False := by rcases hc3 with rfl | rfl <;> simp
        have hx : x3 = .bad c := by rw [← hch.g3, hp]; show (rdNum (l.drop j)).st = _; rw [hr]; rfl
        have HB := Lib.hid (decV_bad (hch.all_bad (.inr (.inl hx))))
        have T := fun B w hv => rcount_any (.slice (some ad) l.length cap) l j hj hl B w hv
        simp only [hr, cntV] at T
        have HT := Lib.hid T
        obtain ⟨z0, z1, z2, z3, z4, z5, z6, z7⟩ := HRR.out.z.all
        simp only [zeroE] at z0 z1 z2 z3 z4 z5 z6 z7
        obtain ⟨q0, q1, q2, q3, q4, q5, q6, q7⟩ := HRR.out.r.all
        simp only [zeroE] at q0 q1 q2 q3 q4 q5 q6 q7
        obtain ⟨d0, d1, d2, d3, d4, d5, d6, d7⟩ := HRR.out.r.frz
        have hrl := HRR.out.r.lt
        have hzl := HRR.out.z.lt
        clear hch hx hp hr T hc3
        go_wp2_with fail
        refine (HT.out _ _ HRR.out.sn).mono ?_
        rintro e w1 ⟨rfl, rfl⟩
        go_wp2_with fail
        have R8 := HRR.out.s1 0
        have R1 : EvAt (((((((((w1.setCell ⟨w.heap.size + 1 + 1, 1, none⟩ (.int .i64 0)).setCell ⟨w.heap.size, 0, none⟩ (.string ⟨#[]⟩)).setCell ⟨w.heap.size, 1, none⟩ (.int .i64 0)).setCell ⟨w.heap.size, 2, none⟩ (.int .i64 0)).setCell ⟨w.heap.size, 3, none⟩ (.int .i64 0)).setCell ⟨w.heap.size, 4, none⟩ (.string ⟨#[]⟩)).setCell ⟨w.heap.size, 5, none⟩ (.string ⟨#[]⟩)).setCell ⟨w.heap.size, 6, none⟩ (.int .i64 0)).setCell ⟨w.heap.size, 7, none⟩ (.string ⟨#[]⟩)) w.heap.size ⟨⟨#[]⟩, 0, 0, 0, ⟨#[]⟩, ⟨#[]⟩, 0, ⟨#[]⟩⟩ := R8.r.put ⟨#[]⟩ 0 0 0 ⟨#[]⟩ ⟨#[]⟩ 0 ⟨#[]⟩
        have BW : Below w.heap.size w (((((((((w1.setCell ⟨w.heap.size + 1 + 1, 1, none⟩ (.int .i64 0)).setCell ⟨w.heap.size, 0, none⟩ (.string ⟨#[]⟩)).setCell ⟨w.heap.size, 1, none⟩ (.int .i64 0)).setCell ⟨w.heap.size, 2, none⟩ (.int .i64 0)).setCell ⟨w.heap.size, 3, none⟩ (.int .i64 0)).setCell ⟨w.heap.size, 4, none⟩ (.string ⟨#[]⟩)).setCell ⟨w.heap.size, 5, none⟩ (.string ⟨#[]⟩)).setCell ⟨w.heap.size, 6, none⟩ (.int .i64 0)).setCell ⟨w.heap.size, 7, none⟩ (.string ⟨#[]⟩)) := below_put R8.bw (Nat.le_refl _) ⟨#[]⟩ 0 0 0 ⟨#[]⟩ ⟨#[]⟩ 0 ⟨#[]⟩
        clear c0 c1 c2 c3 c4 c5 c6 c7 f0 f1 f2 f3 f4 f5 f6 f7 hlt z0 z1 z2 z3 z4 z5 z6 z7 q0 q1 q2 q3 q4 q5 q6 q7 d0 d1 d2 d3 d4 d5 d6 d7 hrl hzl R8
        obtain ⟨r0, r1, r2, r3, r4, r5, r6, r7⟩ := R1.all
        simp only at r0 r1 r2 r3 r4 r5 r6 r7
        refine bodyPost_ret (v := .tuple #[.agg #[.string ⟨#[]⟩, .int .i64 0, .int .i64 0, .int .i64 0, .string ⟨#[]⟩, .string ⟨#[]⟩, .int .i64 0, .string ⟨#[]⟩], .int .i64 0, .int .i64 c]) (by simp [results, Tryd.results35, go_sem, r0, r1, r2, r3, r4, r5, r6, r7]) rfl ⟨by rw [HB.out], BW⟩
      | ok y r =>
        have hy : y = n := by rw [← hch.hn, hp]; show y = (rdNum (l.drop j)).val _; rw [hr]; rfl
        subst hy
        have hx : x3 = .ok () r := by rw [← hch.g3, hp]; show (rdNum (l.drop j)).st = _; rw [hr]; rfl
        have hsuf := drop_suffix (rdNum_inv hr)
        obtain ⟨j', hj'⟩ : ∃ j', l.length - r.length = j' := ⟨_, rfl⟩
        have T := fun B w hv => rcount_any (.slice (some ad) l.length cap) l j hj hl B w hv
        simp only [hr, cntV] at T
        rw [hj'] at T hsuf
        have HT := Lib.hid T
        rw [hsuf] at hx
        have HXX := Lib.hid hx
        have hjl : j' ≤ l.length := by omega
        clear hch hx hp hr T hsuf hj'
        go_wp2_with fail
        refine (HT.out _ _ HRR.out.sn).mono ?_
        rintro e w1 ⟨rfl, rfl⟩
        go_wp2_with fail
        go_roundw
        case rel => exact ⟨2, j', by omega, hjl, rfl, rfl, rfl, HXX.out, HRR.out.s1 (y : Int)⟩
        case measure => simp [intOf]
    · have hp : x3 = .ok () (l.drop j) := HP.out
      have R : RD w ⟨s, (n : Int), 0, ((k.toNat : Nat) : Int), ⟨#[]⟩, ⟨#[]⟩, 0, ⟨#[]⟩⟩ (.slice (some ad) l.length cap) l wr := HR.out
      have hch := H.out
      obtain ⟨c0, c1, c2, c3, c4, c5, c6, c7⟩ := R.ev.all
      simp only at c0 c1 c2 c3 c4 c5 c6 c7
      obtain ⟨f0, f1, f2, f3, f4, f5, f6, f7⟩ := R.ev.frz
      have hlt := R.ev.lt
      have HRR := Lib.hid R
      clear HP HR R
      cases hr : rdNum (l.drop j) with
      | bad c =>
        have hc3 := rdNum_bad hr
        have hc4 : (c == 0) = false := by rcases hc3 with rfl | rfl <;> rfl
        have hc5 : (c = 0) = False := by rcases hc3 with rfl | rfl <;> simp
        have hx : x4 = .bad c := by rw [← hch.g4, hp]; show (rdNum (l.drop j)).st = _; rw [hr]; rfl
        have HB := Lib.hid (decV_bad (hch.all_bad (.inr (.inr (.inl hx)))))
        have T := fun B w hv => rcount_any (.slice (some ad) l.length cap) l j hj hl B w hv
        simp only [hr, cntV] at T
        have HT := Lib.hid T
        obtain ⟨z0, z1, z2, z3, z4, z5, z6, z7⟩ := HRR.out.z.all
        simp only [zeroE] at z0 z1 z2 z3 z4 z5 z6 z7
        obtain ⟨q0, q1, q2, q3, q4, q5, q6, q7⟩ := HRR.out.r.all
        simp only [zeroE] at q0 q1 q2 q3 q4 q5 q6 q7
        obtain ⟨d0, d1, d2, d3, d4, d5, d6, d7⟩ := HRR.out.r.frz
        have hrl := HRR.out.r.lt
        have hzl := HRR.out.z.lt
        clear hch hx hp hr T hc3
        go_wp2_with fail
        refine (HT.out _ _ HRR.out.sn).mono ?_
        rintro e w1 ⟨rfl, rfl⟩
        go_wp2_with fail
        have R8 := HRR.out.s2 0
        have R1 : EvAt (((((((((w1.setCell ⟨w.heap.size + 1 + 1, 2, none⟩ (.int .i64 0)).setCell ⟨w.heap.size, 0, none⟩ (.string ⟨#[]⟩)).setCell ⟨w.heap.size, 1, none⟩ (.int .i64 0)).setCell ⟨w.heap.size, 2, none⟩ (.int .i64 0)).setCell ⟨w.heap.size, 3, none⟩ (.int .i64 0)).setCell ⟨w.heap.size, 4, none⟩ (.string ⟨#[]⟩)).setCell ⟨w.heap.size, 5, none⟩ (.string ⟨#[]⟩)).setCell ⟨w.heap.size, 6, none⟩ (.int .i64 0)).setCell ⟨w.heap.size, 7, none⟩ (.string ⟨#[]⟩)) w.heap.size ⟨⟨#[]⟩, 0, 0, 0, ⟨#[]⟩, ⟨#[]⟩, 0, ⟨#[]⟩⟩ := R8.r.put ⟨#[]⟩ 0 0 0 ⟨#[]⟩ ⟨#[]⟩ 0 ⟨#[]⟩
        have BW : Below w.heap.size w (((((((((w1.setCell ⟨w.heap.size + 1 + 1, 2, none⟩ (.int .i64 0)).setCell ⟨w.heap.size, 0, none⟩ (.string ⟨#[]⟩)).setCell ⟨w.heap.size, 1, none⟩ (.int .i64 0)).setCell ⟨w.heap.size, 2, none⟩ (.int .i64 0)).setCell ⟨w.heap.size, 3, none⟩ (.int .i64 0)).setCell ⟨w.heap.size, 4, none⟩ (.string ⟨#[]⟩)).setCell ⟨w.heap.size, 5, none⟩ (.string ⟨#[]⟩)).setCell ⟨w.heap.size, 6, none⟩ (.int .i64 0)).setCell ⟨w.heap.size, 7, none⟩ (.string ⟨#[]⟩)) := below_put R8.bw (Nat.le_refl _) ⟨#[]⟩ 0 0 0 ⟨#[]⟩ ⟨#[]⟩ 0 ⟨#[]⟩
        clear c0 c1 c2 c3 c4 c5 c6 c7 f0 f1 f2 f3 f4 f5 f6 f7 hlt z0 z1 z2 z3 z4 z5 z6 z7 q0 q1 q2 q3 q4 q5 q6 q7 d0 d1 d2 d3 d4 d5 d6 d7 hrl hzl R8
        obtain ⟨r0, r1, r2, r3, r4, r5, r6, r7⟩ := R1.all
        simp only at r0 r1 r2 r3 r4 r5 r6 r7
        refine bodyPost_ret (v := .tuple #[.agg #[.string ⟨#[]⟩, .int .i64 0, .int .i64 0, .int .i64 0, .string ⟨#[]⟩, .string ⟨#[]⟩, .int .i64 0, .string ⟨#[]⟩], .int .i64 0, .int .i64 c]) (by simp [results, Tryd.results35, go_sem, r0, r1, r2, r3, r4, r5, r6, r7]) rfl ⟨by rw [HB.out], BW⟩
      | ok y r =>
        have hy : y = a := by rw [← hch.ha, hp]; show y = (rdNum (l.drop j)).val _; rw [hr]; rfl
        subst hy
        have hx : x4 = .ok () r := by rw [← hch.g4, hp]; show (rdNum (l.drop j)).st = _; rw [hr]; rfl
        have hsuf := drop_suffix (rdNum_inv hr)
        obtain ⟨j', hj'⟩ : ∃ j', l.length - r.length = j' := ⟨_, rfl⟩
        have T := fun B w hv => rcount_any (.slice (some ad) l.length cap) l j hj hl B w hv
        simp only [hr, cntV] at T
        rw [hj'] at T hsuf
        have HT := Lib.hid T
        rw [hsuf] at hx
        have HXX := Lib.hid hx
        have hjl : j' ≤ l.length := by omega
        clear hch hx hp hr T hsuf hj'
        go_wp2_with fail
        refine (HT.out _ _ HRR.out.sn).mono ?_
        rintro e w1 ⟨rfl, rfl⟩
        go_wp2_with fail
        go_roundw
        case rel => exact ⟨3, j', by omega, hjl, rfl, rfl, rfl, HXX.out, HRR.out.s2 (y : Int)⟩
        case measure => simp [intOf]
    · have hp : x4 = .ok () (l.drop j) := HP.out
      have R : RD w ⟨s, (n : Int), (a : Int), ((k.toNat : Nat) : Int), ⟨#[]⟩, ⟨#[]⟩, 0, ⟨#[]⟩⟩ (.slice (some ad) l.length cap) l wr := HR.out
      have hch := H.out
      obtain ⟨c0, c1, c2, c3, c4, c5, c6, c7⟩ := R.ev.all
      simp only at c0 c1 c2 c3 c4 c5 c6 c7
      obtain ⟨f0, f1, f2, f3, f4, f5, f6, f7⟩ := R.ev.frz
      have hlt := R.ev.lt
      have HRR := Lib.hid R
      clear HP HR R
      cases hr : rdTxt (l.drop j) with
      | bad c =>
        have hc3 := rdTxt_bad hr
        subst hc3
        have hx : x5 = .bad 3 := by rw [← hch.g5, hp]; show (rdTxt (l.drop j)).st = _; rw [hr]; rfl
        have HB := Lib.hid (decV_bad (hch.all_bad (.inr (.inr (.inr (.inl hx))))))
        have HT := Lib.hid hr
        obtain ⟨z0, z1, z2, z3, z4, z5, z6, z7⟩ := HRR.out.z.all
        simp only [zeroE] at z0 z1 z2 z3 z4 z5 z6 z7
        obtain ⟨q0, q1, q2, q3, q4, q5, q6, q7⟩ := HRR.out.r.all
        simp only [zeroE] at q0 q1 q2 q3 q4 q5 q6 q7
        obtain ⟨d0, d1, d2, d3, d4, d5, d6, d7⟩ := HRR.out.r.frz
        have hrl := HRR.out.r.lt
        have hzl := HRR.out.z.lt
        clear hch hx hp hr
        go_wp2_with fail
        refine (rtake_torn _ l j hj hl 3 HT.out _ _ HRR.out.sn).mono ?_
        rintro e w1 ⟨rfl, rfl⟩
        go_wp2_with fail
        have R8 := HRR.out.s4 ⟨#[]⟩
        have R1 : EvAt (((((((((w1.setCell ⟨w.heap.size + 1 + 1, 4, none⟩ (.string ⟨#[]⟩)).setCell ⟨w.heap.size, 0, none⟩ (.string ⟨#[]⟩)).setCell ⟨w.heap.size, 1, none⟩ (.int .i64 0)).setCell ⟨w.heap.size, 2, none⟩ (.int .i64 0)).setCell ⟨w.heap.size, 3, none⟩ (.int .i64 0)).setCell ⟨w.heap.size, 4, none⟩ (.string ⟨#[]⟩)).setCell ⟨w.heap.size, 5, none⟩ (.string ⟨#[]⟩)).setCell ⟨w.heap.size, 6, none⟩ (.int .i64 0)).setCell ⟨w.heap.size, 7, none⟩ (.string ⟨#[]⟩)) w.heap.size ⟨⟨#[]⟩, 0, 0, 0, ⟨#[]⟩, ⟨#[]⟩, 0, ⟨#[]⟩⟩ := R8.r.put ⟨#[]⟩ 0 0 0 ⟨#[]⟩ ⟨#[]⟩ 0 ⟨#[]⟩
        have BW : Below w.heap.size w (((((((((w1.setCell ⟨w.heap.size + 1 + 1, 4, none⟩ (.string ⟨#[]⟩)).setCell ⟨w.heap.size, 0, none⟩ (.string ⟨#[]⟩)).setCell ⟨w.heap.size, 1, none⟩ (.int .i64 0)).setCell ⟨w.heap.size, 2, none⟩ (.int .i64 0)).setCell ⟨w.heap.size, 3, none⟩ (.int .i64 0)).setCell ⟨w.heap.size, 4, none⟩ (.string ⟨#[]⟩)).setCell ⟨w.heap.size, 5, none⟩ (.string ⟨#[]⟩)).setCell ⟨w.heap.size, 6, none⟩ (.int .i64 0)).setCell ⟨w.heap.size, 7, none⟩ (.string ⟨#[]⟩)) := below_put R8.bw (Nat.le_refl _) ⟨#[]⟩ 0 0 0 ⟨#[]⟩ ⟨#[]⟩ 0 ⟨#[]⟩
        clear c0 c1 c2 c3 c4 c5 c6 c7 f0 f1 f2 f3 f4 f5 f6 f7 hlt z0 z1 z2 z3 z4 z5 z6 z7 q0 q1 q2 q3 q4 q5 q6 q7 d0 d1 d2 d3 d4 d5 d6 d7 hrl hzl R8
        obtain ⟨r0, r1, r2, r3, r4, r5, r6, r7⟩ := R1.all
        simp only at r0 r1 r2 r3 r4 r5 r6 r7
        refine bodyPost_ret (v := .tuple #[.agg #[.string ⟨#[]⟩, .int .i64 0, .int .i64 0, .int .i64 0, .string ⟨#[]⟩, .string ⟨#[]⟩, .int .i64 0, .string ⟨#[]⟩], .int .i64 0, .int .i64 3]) (by simp [results, Tryd.results35, go_sem, r0, r1, r2, r3, r4, r5, r6, r7]) rfl ⟨by rw [HB.out], BW⟩
      | ok y r =>
        have hy : y = p := by rw [← hch.hp, hp]; show y = (rdTxt (l.drop j)).val _; rw [hr]; rfl
        subst hy
        have hx : x5 = .ok () r := by rw [← hch.g5, hp]; show (rdTxt (l.drop j)).st = _; rw [hr]; rfl
        have hsuf := drop_suffix (rdTxt_inv hr)
        obtain ⟨j', hj'⟩ : ∃ j', l.length - r.length = j' := ⟨_, rfl⟩
        have T := fun B w hv => rtake_ok (.slice (some ad) l.length cap) l j hj hl y r hr B w hv
        rw [hj'] at T hsuf
        have HT := Lib.hid T
        rw [hsuf] at hx
        have HXX := Lib.hid hx
        have hjl : j' ≤ l.length := by omega
        clear hch hx hp hr T hsuf hj'
        go_wp2_with fail
        refine (HT.out _ _ HRR.out.sn).mono ?_
        rintro e w1 ⟨rfl, rfl⟩
        go_wp2_with fail
        go_roundw
        case rel => exact ⟨4, j', by omega, hjl, rfl, rfl, rfl, HXX.out, HRR.out.s4 y⟩
        case measure => simp [intOf]
    · have hp : x5 = .ok () (l.drop j) := HP.out
      have R : RD w ⟨s, (n : Int), (a : Int), ((k.toNat : Nat) : Int), p, ⟨#[]⟩, 0, ⟨#[]⟩⟩ (.slice (some ad) l.length cap) l wr := HR.out
      have hch := H.out
      obtain ⟨c0, c1, c2, c3, c4, c5, c6, c7⟩ := R.ev.all
      simp only at c0 c1 c2 c3 c4 c5 c6 c7
      obtain ⟨f0, f1, f2, f3, f4, f5, f6, f7⟩ := R.ev.frz
      have hlt := R.ev.lt
      have HRR := Lib.hid R
      clear HP HR R
      cases hr : rdTxt (l.drop j) with
      | bad c =>
        have hc3 := rdTxt_bad hr
        subst hc3
        have hx : x6 = .bad 3 := by rw [← hch.g6, hp]; show (rdTxt (l.drop j)).st = _; rw [hr]; rfl
        have HB := Lib.hid (decV_bad (hch.all_bad (.inr (.inr (.inr (.inr (.inl hx)))))))
        have HT := Lib.hid hr
        obtain ⟨z0, z1, z2, z3, z4, z5, z6, z7⟩ := HRR.out.z.all
        simp only [zeroE] at z0 z1 z2 z3 z4 z5 z6 z7
        obtain ⟨q0, q1, q2, q3, q4, q5, q6, q7⟩ := HRR.out.r.all
        simp only [zeroE] at q0 q1 q2 q3 q4 q5 q6 q7
        obtain ⟨d0, d1, d2, d3, d4, d5, d6, d7⟩ := HRR.out.r.frz
        have hrl := HRR.out.r.lt
        have hzl := HRR.out.z.lt
        clear hch hx hp hr
        go_wp2_with fail
        refine (rtake_torn _ l j hj hl 3 HT.out _ _ HRR.out.sn).mono ?_
        rintro e w1 ⟨rfl, rfl⟩
        go_wp2_with fail
        have R8 := HRR.out.s5 ⟨#[]⟩
        have R1 : EvAt (((((((((w1.setCell ⟨w.heap.size + 1 + 1, 5, none⟩ (.string ⟨#[]⟩)).setCell ⟨w.heap.size, 0, none⟩ (.string ⟨#[]⟩)).setCell ⟨w.heap.size, 1, none⟩ (.int .i64 0)).setCell ⟨w.heap.size, 2, none⟩ (.int .i64 0)).setCell ⟨w.heap.size, 3, none⟩ (.int .i64 0)).setCell ⟨w.heap.size, 4, none⟩ (.string ⟨#[]⟩)).setCell ⟨w.heap.size, 5, none⟩ (.string ⟨#[]⟩)).setCell ⟨w.heap.size, 6, none⟩ (.int .i64 0)).setCell ⟨w.heap.size, 7, none⟩ (.string ⟨#[]⟩)) w.heap.size ⟨⟨#[]⟩, 0, 0, 0, ⟨#[]⟩, ⟨#[]⟩, 0, ⟨#[]⟩⟩ := R8.r.put ⟨#[]⟩ 0 0 0 ⟨#[]⟩ ⟨#[]⟩ 0 ⟨#[]⟩
        have BW : Below w.heap.size w (((((((((w1.setCell ⟨w.heap.size + 1 + 1, 5, none⟩ (.string ⟨#[]⟩)).setCell ⟨w.heap.size, 0, none⟩ (.string ⟨#[]⟩)).setCell ⟨w.heap.size, 1, none⟩ (.int .i64 0)).setCell ⟨w.heap.size, 2, none⟩ (.int .i64 0)).setCell ⟨w.heap.size, 3, none⟩ (.int .i64 0)).setCell ⟨w.heap.size, 4, none⟩ (.string ⟨#[]⟩)).setCell ⟨w.heap.size, 5, none⟩ (.string ⟨#[]⟩)).setCell ⟨w.heap.size, 6, none⟩ (.int .i64 0)).setCell ⟨w.heap.size, 7, none⟩ (.string ⟨#[]⟩)) := below_put R8.bw (Nat.le_refl _) ⟨#[]⟩ 0 0 0 ⟨#[]⟩ ⟨#[]⟩ 0 ⟨#[]⟩
        clear c0 c1 c2 c3 c4 c5 c6 c7 f0 f1 f2 f3 f4 f5 f6 f7 hlt z0 z1 z2 z3 z4 z5 z6 z7 q0 q1 q2 q3 q4 q5 q6 q7 d0 d1 d2 d3 d4 d5 d6 d7 hrl hzl R8
        obtain ⟨r0, r1, r2, r3, r4, r5, r6, r7⟩ := R1.all
        simp only at r0 r1 r2 r3 r4 r5 r6 r7
        refine bodyPost_ret (v := .tuple #[.agg #[.string ⟨#[]⟩, .int .i64 0, .int .i64 0, .int .i64 0, .string ⟨#[]⟩, .string ⟨#[]⟩, .int .i64 0, .string ⟨#[]⟩], .int .i64 0, .int .i64 3]) (by simp [results, Tryd.results35, go_sem, r0, r1, r2, r3, r4, r5, r6, r7]) rfl ⟨by rw [HB.out], BW⟩
      | ok y r =>
        have hy : y = i := by rw [← hch.hi, hp]; show y = (rdTxt (l.drop j)).val _; rw [hr]; rfl
        subst hy
        have hx : x6 = .ok () r := by rw [← hch.g6, hp]; show (rdTxt (l.drop j)).st = _; rw [hr]; rfl
        have hsuf := drop_suffix (rdTxt_inv hr)
        obtain ⟨j', hj'⟩ : ∃ j', l.length - r.length = j' := ⟨_, rfl⟩
        have T := fun B w hv => rtake_ok (.slice (some ad) l.length cap) l j hj hl y r hr B w hv
        rw [hj'] at T hsuf
        have HT := Lib.hid T
        rw [hsuf] at hx
        have HXX := Lib.hid hx
        have hjl : j' ≤ l.length := by omega
        clear hch hx hp hr T hsuf hj'
        go_wp2_with fail
        refine (HT.out _ _ HRR.out.sn).mono ?_
        rintro e w1 ⟨rfl, rfl⟩
        go_wp2_with fail
        go_roundw
        case rel => exact ⟨5, j', by omega, hjl, rfl, rfl, rfl, HXX.out, HRR.out.s5 y⟩
        case measure => simp [intOf]
    · have hp : x6 = .ok () (l.drop j) := HP.out
      have R : RD w ⟨s, (n : Int), (a : Int), ((k.toNat : Nat) : Int), p, i, 0, ⟨#[]⟩⟩ (.slice (some ad) l.length cap) l wr := HR.out
      have hch := H.out
      obtain ⟨c0, c1, c2, c3, c4, c5, c6, c7⟩ := R.ev.all
      simp only at c0 c1 c2 c3 c4 c5 c6 c7
      obtain ⟨f0, f1, f2, f3, f4, f5, f6, f7⟩ := R.ev.frz
      have hlt := R.ev.lt
      have HRR := Lib.hid R
      clear HP HR R
      cases hr : rdNum (l.drop j) with
      | bad c =>
        have hc3 := rdNum_bad hr
        have hc4 : (c == 0) = false := by rcases hc3 with rfl | rfl <;> rfl
        have hc5 : (c = 0) = False := by rcases hc3 with rfl | rfl <;> simp
        have hx : x7 = .bad c := by rw [← hch.g7, hp]; show (rdNum (l.drop j)).st = _; rw [hr]; rfl
        have HB := Lib.hid (decV_bad (hch.all_bad (.inr (.inr (.inr (.inr (.inr (.inl hx))))))))
        have T := fun B w hv => rcount_any (.slice (some ad) l.length cap) l j hj hl B w hv
        simp only [hr, cntV] at T
        have HT := Lib.hid T
        obtain ⟨z0, z1, z2, z3, z4, z5, z6, z7⟩ := HRR.out.z.all
        simp only [zeroE] at z0 z1 z2 z3 z4 z5 z6 z7
        obtain ⟨q0, q1, q2, q3, q4, q5, q6, q7⟩ := HRR.out.r.all
        simp only [zeroE] at q0 q1 q2 q3 q4 q5 q6 q7
        obtain ⟨d0, d1, d2, d3, d4, d5, d6, d7⟩ := HRR.out.r.frz
        have hrl := HRR.out.r.lt
        have hzl := HRR.out.z.lt
        clear hch hx hp hr T hc3
        go_wp2_with fail
        refine (HT.out _ _ HRR.out.sn).mono ?_
        rintro e w1 ⟨rfl, rfl⟩
        go_wp2_with fail
        have R8 := HRR.out.s6 0
        have R1 : EvAt (((((((((w1.setCell ⟨w.heap.size + 1 + 1, 6, none⟩ (.int .i64 0)).setCell ⟨w.heap.size, 0, none⟩ (.string ⟨#[]⟩)).setCell ⟨w.heap.size, 1, none⟩ (.int .i64 0)).setCell ⟨w.heap.size, 2, none⟩ (.int .i64 0)).setCell ⟨w.heap.size, 3, none⟩ (.int .i64 0)).setCell ⟨w.heap.size, 4, none⟩ (.string ⟨#[]⟩)).setCell ⟨w.heap.size, 5, none⟩ (.string ⟨#[]⟩)).setCell ⟨w.heap.size, 6, none⟩ (.int .i64 0)).setCell ⟨w.heap.size, 7, none⟩ (.string ⟨#[]⟩)) w.heap.size ⟨⟨#[]⟩, 0, 0, 0, ⟨#[]⟩, ⟨#[]⟩, 0, ⟨#[]⟩⟩ := R8.r.put ⟨#[]⟩ 0 0 0 ⟨#[]⟩ ⟨#[]⟩ 0 ⟨#[]⟩
        have BW : Below w.heap.size w (((((((((w1.setCell ⟨w.heap.size + 1 + 1, 6, none⟩ (.int .i64 0)).setCell ⟨w.heap.size, 0, none⟩ (.string ⟨#[]⟩)).setCell ⟨w.heap.size, 1, none⟩ (.int .i64 0)).setCell ⟨w.heap.size, 2, none⟩ (.int .i64 0)).setCell ⟨w.heap.size, 3, none⟩ (.int .i64 0)).setCell ⟨w.heap.size, 4, none⟩ (.string ⟨#[]⟩)).setCell ⟨w.heap.size, 5, none⟩ (.string ⟨#[]⟩)).setCell ⟨w.heap.size, 6, none⟩ (.int .i64 0)).setCell ⟨w.heap.size, 7, none⟩ (.string ⟨#[]⟩)) := below_put R8.bw (Nat.le_refl _) ⟨#[]⟩ 0 0 0 ⟨#[]⟩ ⟨#[]⟩ 0 ⟨#[]⟩
        clear c0 c1 c2 c3 c4 c5 c6 c7 f0 f1 f2 f3 f4 f5 f6 f7 hlt z0 z1 z2 z3 z4 z5 z6 z7 q0 q1 q2 q3 q4 q5 q6 q7 d0 d1 d2 d3 d4 d5 d6 d7 hrl hzl R8
        obtain ⟨r0, r1, r2, r3, r4, r5, r6, r7⟩ := R1.all
        simp only at r0 r1 r2 r3 r4 r5 r6 r7
        refine bodyPost_ret (v := .tuple #[.agg #[.string ⟨#[]⟩, .int .i64 0, .int .i64 0, .int .i64 0, .string ⟨#[]⟩, .string ⟨#[]⟩, .int .i64 0, .string ⟨#[]⟩], .int .i64 0, .int .i64 c]) (by simp [results, Tryd.results35, go_sem, r0, r1, r2, r3, r4, r5, r6, r7]) rfl ⟨by rw [HB.out], BW⟩
      | ok y r =>
        have hy : y = v := by rw [← hch.hv, hp]; show y = (rdNum (l.drop j)).val _; rw [hr]; rfl
        subst hy
        have hx : x7 = .ok () r := by rw [← hch.g7, hp]; show (rdNum (l.drop j)).st = _; rw [hr]; rfl
        have hsuf := drop_suffix (rdNum_inv hr)
        obtain ⟨j', hj'⟩ : ∃ j', l.length - r.length = j' := ⟨_, rfl⟩
        have T := fun B w hv => rcount_any (.slice (some ad) l.length cap) l j hj hl B w hv
        simp only [hr, cntV] at T
        rw [hj'] at T hsuf
        have HT := Lib.hid T
        rw [hsuf] at hx
        have HXX := Lib.hid hx
        have hjl : j' ≤ l.length := by omega
        clear hch hx hp hr T hsuf hj'
        go_wp2_with fail
        refine (HT.out _ _ HRR.out.sn).mono ?_
        rintro e w1 ⟨rfl, rfl⟩
        go_wp2_with fail
        go_roundw
        case rel => exact ⟨6, j', by omega, hjl, rfl, rfl, rfl, HXX.out, HRR.out.s6 (y : Int)⟩
        case measure => simp [intOf]
    · have hp : x7 = .ok () (l.drop j) := HP.out
      have R : RD w ⟨s, (n : Int), (a : Int), ((k.toNat : Nat) : Int), p, i, (v : Int), ⟨#[]⟩⟩ (.slice (some ad) l.length cap) l wr := HR.out
      have hch := H.out
      obtain ⟨c0, c1, c2, c3, c4, c5, c6, c7⟩ := R.ev.all
      simp only at c0 c1 c2 c3 c4 c5 c6 c7
      obtain ⟨f0, f1, f2, f3, f4, f5, f6, f7⟩ := R.ev.frz
      have hlt := R.ev.lt
      have HRR := Lib.hid R
      clear HP HR R
      cases hr : rdTxt (l.drop j) with
      | bad c =>
        have hc3 := rdTxt_bad hr
        subst hc3
        have hx : x8 = .bad 3 := by rw [← hch.g8, hp]; show (rdTxt (l.drop j)).st = _; rw [hr]; rfl
        have HB := Lib.hid (decV_bad (hch.all_bad (.inr (.inr (.inr (.inr (.inr (.inr hx))))))))
        have HT := Lib.hid hr
        obtain ⟨z0, z1, z2, z3, z4, z5, z6, z7⟩ := HRR.out.z.all
        simp only [zeroE] at z0 z1 z2 z3 z4 z5 z6 z7
        obtain ⟨q0, q1, q2, q3, q4, q5, q6, q7⟩ := HRR.out.r.all
        simp only [zeroE] at q0 q1 q2 q3 q4 q5 q6 q7
        obtain ⟨d0, d1, d2, d3, d4, d5, d6, d7⟩ := HRR.out.r.frz
        have hrl := HRR.out.r.lt
        have hzl := HRR.out.z.lt
        clear hch hx hp hr
        go_wp2_with fail
        refine (rtake_torn _ l j hj hl 3 HT.out _ _ HRR.out.sn).mono ?_
        rintro e w1 ⟨rfl, rfl⟩
        go_wp2_with fail
        have R8 := HRR.out.s7 ⟨#[]⟩
        have R1 : EvAt (((((((((w1.setCell ⟨w.heap.size + 1 + 1, 7, none⟩ (.string ⟨#[]⟩)).setCell ⟨w.heap.size, 0, none⟩ (.string ⟨#[]⟩)).setCell ⟨w.heap.size, 1, none⟩ (.int .i64 0)).setCell ⟨w.heap.size, 2, none⟩ (.int .i64 0)).setCell ⟨w.heap.size, 3, none⟩ (.int .i64 0)).setCell ⟨w.heap.size, 4, none⟩ (.string ⟨#[]⟩)).setCell ⟨w.heap.size, 5, none⟩ (.string ⟨#[]⟩)).setCell ⟨w.heap.size, 6, none⟩ (.int .i64 0)).setCell ⟨w.heap.size, 7, none⟩ (.string ⟨#[]⟩)) w.heap.size ⟨⟨#[]⟩, 0, 0, 0, ⟨#[]⟩, ⟨#[]⟩, 0, ⟨#[]⟩⟩ := R8.r.put ⟨#[]⟩ 0 0 0 ⟨#[]⟩ ⟨#[]⟩ 0 ⟨#[]⟩
        have BW : Below w.heap.size w (((((((((w1.setCell ⟨w.heap.size + 1 + 1, 7, none⟩ (.string ⟨#[]⟩)).setCell ⟨w.heap.size, 0, none⟩ (.string ⟨#[]⟩)).setCell ⟨w.heap.size, 1, none⟩ (.int .i64 0)).setCell ⟨w.heap.size, 2, none⟩ (.int .i64 0)).setCell ⟨w.heap.size, 3, none⟩ (.int .i64 0)).setCell ⟨w.heap.size, 4, none⟩ (.string ⟨#[]⟩)).setCell ⟨w.heap.size, 5, none⟩ (.string ⟨#[]⟩)).setCell ⟨w.heap.size, 6, none⟩ (.int .i64 0)).setCell ⟨w.heap.size, 7, none⟩ (.string ⟨#[]⟩)) := below_put R8.bw (Nat.le_refl _) ⟨#[]⟩ 0 0 0 ⟨#[]⟩ ⟨#[]⟩ 0 ⟨#[]⟩
        clear c0 c1 c2 c3 c4 c5 c6 c7 f0 f1 f2 f3 f4 f5 f6 f7 hlt z0 z1 z2 z3 z4 z5 z6 z7 q0 q1 q2 q3 q4 q5 q6 q7 d0 d1 d2 d3 d4 d5 d6 d7 hrl hzl R8
        obtain ⟨r0, r1, r2, r3, r4, r5, r6, r7⟩ := R1.all
        simp only at r0 r1 r2 r3 r4 r5 r6 r7
        refine bodyPost_ret (v := .tuple #[.agg #[.string ⟨#[]⟩, .int .i64 0, .int .i64 0, .int .i64 0, .string ⟨#[]⟩, .string ⟨#[]⟩, .int .i64 0, .string ⟨#[]⟩], .int .i64 0, .int .i64 3]) (by simp [results, Tryd.results35, go_sem, r0, r1, r2, r3, r4, r5, r6, r7]) rfl ⟨by rw [HB.out], BW⟩
      | ok y r =>
        have hy : y = t := by rw [← hch.ht, hp]; show y = (rdTxt (l.drop j)).val _; rw [hr]; rfl
        subst hy
        have hx : x8 = .ok () r := by rw [← hch.g8, hp]; show (rdTxt (l.drop j)).st = _; rw [hr]; rfl
        have hsuf := drop_suffix (rdTxt_inv hr)
        obtain ⟨j', hj'⟩ : ∃ j', l.length - r.length = j' := ⟨_, rfl⟩
        have T := fun B w hv => rtake_ok (.slice (some ad) l.length cap) l j hj hl y r hr B w hv
        rw [hj'] at T hsuf
        have HT := Lib.hid T
        rw [hsuf] at hx
        have HXX := Lib.hid hx
        have hjl : j' ≤ l.length := by omega
        clear hch hx hp hr T hsuf hj'
        go_wp2_with fail
        refine (HT.out _ _ HRR.out.sn).mono ?_
        rintro e w1 ⟨rfl, rfl⟩
        go_wp2_with fail
        go_roundw
        case rel => exact ⟨7, j', by omega, hjl, rfl, rfl, rfl, HXX.out, HRR.out.s7 y⟩
        case measure => simp [intOf]
    · have hp : x8 = .ok () (l.drop j) := HP.out
      have R : RD w ⟨s, (n : Int), (a : Int), ((k.toNat : Nat) : Int), p, i, (v : Int), t⟩ (.slice (some ad) l.length cap) l wr := HR.out
      have hch := H.out
      obtain ⟨c0, c1, c2, c3, c4, c5, c6, c7⟩ := R.ev.all
      simp only at c0 c1 c2 c3 c4 c5 c6 c7
      obtain ⟨f0, f1, f2, f3, f4, f5, f6, f7⟩ := R.ev.frz
      have hlt := R.ev.lt
      have HRR := Lib.hid R
      have hev : decL l = if mayB ⟨s, (n : Int), (a : Int), ((k.toNat : Nat) : Int), p, i, (v : Int), t⟩ = true then .ok ⟨s, (n : Int), (a : Int), ((k.toNat : Nat) : Int), p, i, (v : Int), t⟩ (l.drop j) else .bad 2 := by
        unfold decL
        rw [hch.ev, hp]; rfl
      clear HP HR R hch hp
      by_cases hm : mayB ⟨s, (n : Int), (a : Int), ((k.toNat : Nat) : Int), p, i, (v : Int), t⟩ = true
      · rw [if_pos hm] at hev
        have HB := decV_ok hev
        rw [show l.length - (l.drop j).length = j by rw [List.length_drop]; omega] at HB
        simp only at HB
        have HB := Lib.hid HB
        have HM := Lib.hid hm
        clear hm hev
        go_wp2_with fail
        refine (rmay_any s n a ((k.toNat : Nat) : Int) p i v t TS _).mono ?_
        rw [HM.out]
        rintro e w1 ⟨rfl, hb⟩
        have R9 := HRR.out.later hb
        clear c0 c1 c2 c3 c4 c5 c6 c7 f0 f1 f2 f3 f4 f5 f6 f7 hlt hb
        obtain ⟨c0, c1, c2, c3, c4, c5, c6, c7⟩ := R9.ev.all
        simp only at c0 c1 c2 c3 c4 c5 c6 c7
        obtain ⟨f0, f1, f2, f3, f4, f5, f6, f7⟩ := R9.ev.frz
        have hlt := R9.ev.lt
        obtain ⟨z0, z1, z2, z3, z4, z5, z6, z7⟩ := R9.z.all
        simp only [zeroE] at z0 z1 z2 z3 z4 z5 z6 z7
        obtain ⟨q0, q1, q2, q3, q4, q5, q6, q7⟩ := R9.r.all
        simp only [zeroE] at q0 q1 q2 q3 q4 q5 q6 q7
        obtain ⟨d0, d1, d2, d3, d4, d5, d6, d7⟩ := R9.r.frz
        have hrl := R9.r.lt
        have hzl := R9.z.lt
        have R9H := Lib.hid R9
        clear R9
        go_wp2_with fail
        have R1 : EvAt ((((((((w1.setCell ⟨w.heap.size, 0, none⟩ (.string s)).setCell ⟨w.heap.size, 1, none⟩ (.int .i64 (n : Int))).setCell ⟨w.heap.size, 2, none⟩ (.int .i64 (a : Int))).setCell ⟨w.heap.size, 3, none⟩ (.int .i64 ((k.toNat : Nat) : Int))).setCell ⟨w.heap.size, 4, none⟩ (.string p)).setCell ⟨w.heap.size, 5, none⟩ (.string i)).setCell ⟨w.heap.size, 6, none⟩ (.int .i64 (v : Int))).setCell ⟨w.heap.size, 7, none⟩ (.string t)) w.heap.size ⟨s, (n : Int), (a : Int), ((k.toNat : Nat) : Int), p, i, (v : Int), t⟩ := R9H.out.r.put s n a ((k.toNat : Nat) : Int) p i v t
        have BW : Below w.heap.size w ((((((((w1.setCell ⟨w.heap.size, 0, none⟩ (.string s)).setCell ⟨w.heap.size, 1, none⟩ (.int .i64 (n : Int))).setCell ⟨w.heap.size, 2, none⟩ (.int .i64 (a : Int))).setCell ⟨w.heap.size, 3, none⟩ (.int .i64 ((k.toNat : Nat) : Int))).setCell ⟨w.heap.size, 4, none⟩ (.string p)).setCell ⟨w.heap.size, 5, none⟩ (.string i)).setCell ⟨w.heap.size, 6, none⟩ (.int .i64 (v : Int))).setCell ⟨w.heap.size, 7, none⟩ (.string t)) := below_put R9H.out.bw (Nat.le_refl _) s n a ((k.toNat : Nat) : Int) p i v t
        clear c0 c1 c2 c3 c4 c5 c6 c7 f0 f1 f2 f3 f4 f5 f6 f7 hlt z0 z1 z2 z3 z4 z5 z6 z7 q0 q1 q2 q3 q4 q5 q6 q7 d0 d1 d2 d3 d4 d5 d6 d7 hrl hzl
        obtain ⟨r0, r1, r2, r3, r4, r5, r6, r7⟩ := R1.all
        simp only at r0 r1 r2 r3 r4 r5 r6 r7
        refine bodyPost_ret (v := .tuple #[.agg #[.string s, .int .i64 (n : Int), .int .i64 (a : Int), .int .i64 ((k.toNat : Nat) : Int), .string p, .string i, .int .i64 (v : Int), .string t], .int .i64 (j : Int), .int .i64 0]) (by simp [results, Tryd.results35, go_sem, r0, r1, r2, r3, r4, r5, r6, r7]) rfl ⟨by rw [HB.out], BW⟩
      · rw [if_neg hm] at hev
        have HB := Lib.hid (decV_bad hev)
        have HM := Lib.hid (show mayB ⟨s, (n : Int), (a : Int), ((k.toNat : Nat) : Int), p, i, (v : Int), t⟩ = false by simpa using hm)
        clear hm hev
        go_wp2_with fail
        refine (rmay_any s n a ((k.toNat : Nat) : Int) p i v t TS _).mono ?_
        rw [HM.out]
        rintro e w1 ⟨rfl, hb⟩
        have R9 := HRR.out.later hb
        clear c0 c1 c2 c3 c4 c5 c6 c7 f0 f1 f2 f3 f4 f5 f6 f7 hlt hb
        obtain ⟨c0, c1, c2, c3, c4, c5, c6, c7⟩ := R9.ev.all
        simp only at c0 c1 c2 c3 c4 c5 c6 c7
        obtain ⟨f0, f1, f2, f3, f4, f5, f6, f7⟩ := R9.ev.frz
        have hlt := R9.ev.lt
        obtain ⟨z0, z1, z2, z3, z4, z5, z6, z7⟩ := R9.z.all
        simp only [zeroE] at z0 z1 z2 z3 z4 z5 z6 z7
        obtain ⟨q0, q1, q2, q3, q4, q5, q6, q7⟩ := R9.r.all
        simp only [zeroE] at q0 q1 q2 q3 q4 q5 q6 q7
        obtain ⟨d0, d1, d2, d3, d4, d5, d6, d7⟩ := R9.r.frz
        have hrl := R9.r.lt
        have hzl := R9.z.lt
        have R9H := Lib.hid R9
        clear R9
        go_wp2_with fail
        have R1 : EvAt ((((((((w1.setCell ⟨w.heap.size, 0, none⟩ (.string ⟨#[]⟩)).setCell ⟨w.heap.size, 1, none⟩ (.int .i64 0)).setCell ⟨w.heap.size, 2, none⟩ (.int .i64 0)).setCell ⟨w.heap.size, 3, none⟩ (.int .i64 0)).setCell ⟨w.heap.size, 4, none⟩ (.string ⟨#[]⟩)).setCell ⟨w.heap.size, 5, none⟩ (.string ⟨#[]⟩)).setCell ⟨w.heap.size, 6, none⟩ (.int .i64 0)).setCell ⟨w.heap.size, 7, none⟩ (.string ⟨#[]⟩)) w.heap.size ⟨⟨#[]⟩, 0, 0, 0, ⟨#[]⟩, ⟨#[]⟩, 0, ⟨#[]⟩⟩ := R9H.out.r.put ⟨#[]⟩ 0 0 0 ⟨#[]⟩ ⟨#[]⟩ 0 ⟨#[]⟩
        have BW : Below w.heap.size w ((((((((w1.setCell ⟨w.heap.size, 0, none⟩ (.string ⟨#[]⟩)).setCell ⟨w.heap.size, 1, none⟩ (.int .i64 0)).setCell ⟨w.heap.size, 2, none⟩ (.int .i64 0)).setCell ⟨w.heap.size, 3, none⟩ (.int .i64 0)).setCell ⟨w.heap.size, 4, none⟩ (.string ⟨#[]⟩)).setCell ⟨w.heap.size, 5, none⟩ (.string ⟨#[]⟩)).setCell ⟨w.heap.size, 6, none⟩ (.int .i64 0)).setCell ⟨w.heap.size, 7, none⟩ (.string ⟨#[]⟩)) := below_put R9H.out.bw (Nat.le_refl _) ⟨#[]⟩ 0 0 0 ⟨#[]⟩ ⟨#[]⟩ 0 ⟨#[]⟩
        clear c0 c1 c2 c3 c4 c5 c6 c7 f0 f1 f2 f3 f4 f5 f6 f7 hlt z0 z1 z2 z3 z4 z5 z6 z7 q0 q1 q2 q3 q4 q5 q6 q7 d0 d1 d2 d3 d4 d5 d6 d7 hrl hzl
        obtain ⟨r0, r1, r2, r3, r4, r5, r6, r7⟩ := R1.all
        simp only at r0 r1 r2 r3 r4 r5 r6 r7
        refine bodyPost_ret (v := .tuple #[.agg #[.string ⟨#[]⟩, .int .i64 0, .int .i64 0, .int .i64 0, .string ⟨#[]⟩, .string ⟨#[]⟩, .int .i64 0, .string ⟨#[]⟩], .int .i64 0, .int .i64 2]) (by simp [results, Tryd.results35, go_sem, r0, r1, r2, r3, r4, r5, r6, r7]) rfl ⟨by rw [HB.out], BW⟩
end Go.Proofs.YthfhfekneahonaaDoor
