/- The event with which bytes begin: the program's: the walk. -/
import Derived.Test.YtghnbkkfghfifaaGreatDoorEX
namespace Go.Proofs.YtghnbkkfghfifaaGreatDoor.E
open Go.RowKit
set_option linter.unusedVariables false
theorem DB.later {W w w' : World} {e : Ev} {x : Rd Unit} (h : DB W e x w) (hx : RSt w (W.heap.size + 1) x) (hb : Below w.heap.size w w') : DB W e x w' :=
  ⟨h.r.below hb h.r.lt, by
    have hlt := hx.lt
    cases x with
    | bad c => obtain ⟨hc, v, h1⟩ := hx; exact ⟨hc, v, by unfold Blk2; rw [hb.block _ hlt]; exact h1⟩
    | ok u r => obtain ⟨v, h1, h2⟩ := hx; exact ⟨v, by unfold Blk2; rw [hb.block _ hlt]; exact h1, h2.below hb (by omega)⟩, h.ev.below hb h.ev.lt, h.bw.trans (hb.mono h.bw.size)⟩
set_option maxRecDepth 100000 in
set_option maxHeartbeats 400000 in
theorem dec_walk_bad (l : List UInt8) (k : UInt8) (s : ByteArray) (n a : Nat) (p i : ByteArray) (v : Nat) (t : ByteArray) (x1 x2 x3 x4 x5 x6 x7 : Rd Unit) (q : Option Addr) (cap : Nat) (c : Int) (hc : Chain l k s n a p i v t x1 x2 x3 x4 x5 x6 x7 (.bad c)) (w : World) (hL : Lay w) (hv : Seen w w.heap.size (.slice q l.length cap) l) :
    Calls Tryz.prog 110 #[.slice q l.length cap] w fun e w' => e = .returned (.tuple #[.agg #[.string ⟨#[]⟩, .int .i64 0, .int .i64 0, .int .i64 0, .string ⟨#[]⟩, .string ⟨#[]⟩, .int .i64 0, .string ⟨#[]⟩], .int .i64 0, .int .i64 c]) ∧ Below w.heap.size w w' := by
  have HC := Lib.hid hc
  have wk := wrap_u8n k
  have A1 : ∀ (b : Nat) w, RSt w b (.ok () l) → Calls Tryz.prog 125 #[.pointer (some ⟨b, 0, none⟩)] w fun e w' => e = .returned (.int .u8 ((k.toNat : Nat) : Int)) ∧ RSt w' b x1 ∧ Only b w w' := fun b w h => by
    have := one_any b _ w h
    rw [hc.hk, hc.g1] at this
    exact this
  have A2 : ∀ (b : Nat) w, RSt w b x1 → Calls Tryz.prog 126 #[.pointer (some ⟨b, 0, none⟩)] w fun e w' => e = .returned (.string s) ∧ RSt w' b x2 ∧ Only b w w' := fun b w h => by
    have := text_any b _ w h
    rw [hc.hs, hc.g2] at this
    exact this
  have A3 : ∀ (b : Nat) w, RSt w b x2 → Calls Tryz.prog 127 #[.pointer (some ⟨b, 0, none⟩)] w fun e w' => e = .returned (.int .i64 (n : Int)) ∧ RSt w' b x3 ∧ Only b w w' := fun b w h => by
    have := rdnum_any b _ w h
    rw [hc.hn, hc.g3] at this
    exact this
  have A4 : ∀ (b : Nat) w, RSt w b x3 → Calls Tryz.prog 127 #[.pointer (some ⟨b, 0, none⟩)] w fun e w' => e = .returned (.int .i64 (a : Int)) ∧ RSt w' b x4 ∧ Only b w w' := fun b w h => by
    have := rdnum_any b _ w h
    rw [hc.ha, hc.g4] at this
    exact this
  have A5 : ∀ (b : Nat) w, RSt w b x4 → Calls Tryz.prog 126 #[.pointer (some ⟨b, 0, none⟩)] w fun e w' => e = .returned (.string p) ∧ RSt w' b x5 ∧ Only b w w' := fun b w h => by
    have := text_any b _ w h
    rw [hc.hp, hc.g5] at this
    exact this
  have A6 : ∀ (b : Nat) w, RSt w b x5 → Calls Tryz.prog 126 #[.pointer (some ⟨b, 0, none⟩)] w fun e w' => e = .returned (.string i) ∧ RSt w' b x6 ∧ Only b w w' := fun b w h => by
    have := text_any b _ w h
    rw [hc.hi, hc.g6] at this
    exact this
  have A7 : ∀ (b : Nat) w, RSt w b x6 → Calls Tryz.prog 127 #[.pointer (some ⟨b, 0, none⟩)] w fun e w' => e = .returned (.int .i64 (v : Int)) ∧ RSt w' b x7 ∧ Only b w w' := fun b w h => by
    have := rdnum_any b _ w h
    rw [hc.hv, hc.g7] at this
    exact this
  have A8 : ∀ (b : Nat) w, RSt w b x7 → Calls Tryz.prog 126 #[.pointer (some ⟨b, 0, none⟩)] w fun e w' => e = .returned (.string t) ∧ RSt w' b (.bad c) ∧ Only b w w' := fun b w h => by
    have := text_any b _ w h
    rw [hc.ht, hc.g8] at this
    exact this
  have HL := Lib.hid hL
  have HV := Lib.hid hv
  have B1 := Lib.hid A1
  have B2 := Lib.hid A2
  have B3 := Lib.hid A3
  have B4 := Lib.hid A4
  have B5 := Lib.hid A5
  have B6 := Lib.hid A6
  have B7 := Lib.hid A7
  have B8 := Lib.hid A8
  clear hL hv hc A1 A2 A3 A4 A5 A6 A7 A8
  go_enter Tryz.func110, Tryz.ntmps110
  go_wp2_with fail
  have M0 := DB.start HV.out
  refine (B1.out _ _ M0.st).mono ?_
  rintro e w1 ⟨rfl, h1, h2⟩
  have M1 : DB w ⟨⟨#[]⟩, 0, 0, 0, ⟨#[]⟩, ⟨#[]⟩, 0, ⟨#[]⟩⟩ x1 w1 := M0.step h1 h2
  clear h1 h2
  obtain ⟨c0, c1, c2, c3, c4, c5, c6, c7⟩ := M1.ev.all
  simp only at c0 c1 c2 c3 c4 c5 c6 c7
  obtain ⟨f0, f1, f2, f3, f4, f5, f6, f7⟩ := M1.ev.frz
  have hlt := M1.ev.lt
  go_wp2_with fail
  have N1 : DB w ⟨⟨#[]⟩, 0, 0, ((k.toNat : Nat) : Int), ⟨#[]⟩, ⟨#[]⟩, 0, ⟨#[]⟩⟩ x1 _ := M1.s3 ((k.toNat : Nat) : Int)
  clear c0 c1 c2 c3 c4 c5 c6 c7 f0 f1 f2 f3 f4 f5 f6 f7 hlt
  refine (B2.out _ _ N1.st).mono ?_
  rintro e w2 ⟨rfl, h1, h2⟩
  have M2 : DB w ⟨⟨#[]⟩, 0, 0, ((k.toNat : Nat) : Int), ⟨#[]⟩, ⟨#[]⟩, 0, ⟨#[]⟩⟩ x2 w2 := N1.step h1 h2
  clear h1 h2
  obtain ⟨c0, c1, c2, c3, c4, c5, c6, c7⟩ := M2.ev.all
  simp only at c0 c1 c2 c3 c4 c5 c6 c7
  obtain ⟨f0, f1, f2, f3, f4, f5, f6, f7⟩ := M2.ev.frz
  have hlt := M2.ev.lt
  go_wp2_with fail
  have N2 : DB w ⟨s, 0, 0, ((k.toNat : Nat) : Int), ⟨#[]⟩, ⟨#[]⟩, 0, ⟨#[]⟩⟩ x2 _ := M2.s0 s
  clear c0 c1 c2 c3 c4 c5 c6 c7 f0 f1 f2 f3 f4 f5 f6 f7 hlt
  refine (B3.out _ _ N2.st).mono ?_
  rintro e w3 ⟨rfl, h1, h2⟩
  have M3 : DB w ⟨s, 0, 0, ((k.toNat : Nat) : Int), ⟨#[]⟩, ⟨#[]⟩, 0, ⟨#[]⟩⟩ x3 w3 := N2.step h1 h2
  clear h1 h2
  obtain ⟨c0, c1, c2, c3, c4, c5, c6, c7⟩ := M3.ev.all
  simp only at c0 c1 c2 c3 c4 c5 c6 c7
  obtain ⟨f0, f1, f2, f3, f4, f5, f6, f7⟩ := M3.ev.frz
  have hlt := M3.ev.lt
  go_wp2_with fail
  have N3 : DB w ⟨s, (n : Int), 0, ((k.toNat : Nat) : Int), ⟨#[]⟩, ⟨#[]⟩, 0, ⟨#[]⟩⟩ x3 _ := M3.s1 (n : Int)
  clear c0 c1 c2 c3 c4 c5 c6 c7 f0 f1 f2 f3 f4 f5 f6 f7 hlt
  refine (B4.out _ _ N3.st).mono ?_
  rintro e w4 ⟨rfl, h1, h2⟩
  have M4 : DB w ⟨s, (n : Int), 0, ((k.toNat : Nat) : Int), ⟨#[]⟩, ⟨#[]⟩, 0, ⟨#[]⟩⟩ x4 w4 := N3.step h1 h2
  clear h1 h2
  obtain ⟨c0, c1, c2, c3, c4, c5, c6, c7⟩ := M4.ev.all
  simp only at c0 c1 c2 c3 c4 c5 c6 c7
  obtain ⟨f0, f1, f2, f3, f4, f5, f6, f7⟩ := M4.ev.frz
  have hlt := M4.ev.lt
  go_wp2_with fail
  have N4 : DB w ⟨s, (n : Int), (a : Int), ((k.toNat : Nat) : Int), ⟨#[]⟩, ⟨#[]⟩, 0, ⟨#[]⟩⟩ x4 _ := M4.s2 (a : Int)
  clear c0 c1 c2 c3 c4 c5 c6 c7 f0 f1 f2 f3 f4 f5 f6 f7 hlt
  refine (B5.out _ _ N4.st).mono ?_
  rintro e w5 ⟨rfl, h1, h2⟩
  have M5 : DB w ⟨s, (n : Int), (a : Int), ((k.toNat : Nat) : Int), ⟨#[]⟩, ⟨#[]⟩, 0, ⟨#[]⟩⟩ x5 w5 := N4.step h1 h2
  clear h1 h2
  obtain ⟨c0, c1, c2, c3, c4, c5, c6, c7⟩ := M5.ev.all
  simp only at c0 c1 c2 c3 c4 c5 c6 c7
  obtain ⟨f0, f1, f2, f3, f4, f5, f6, f7⟩ := M5.ev.frz
  have hlt := M5.ev.lt
  go_wp2_with fail
  have N5 : DB w ⟨s, (n : Int), (a : Int), ((k.toNat : Nat) : Int), p, ⟨#[]⟩, 0, ⟨#[]⟩⟩ x5 _ := M5.s4 p
  clear c0 c1 c2 c3 c4 c5 c6 c7 f0 f1 f2 f3 f4 f5 f6 f7 hlt
  refine (B6.out _ _ N5.st).mono ?_
  rintro e w6 ⟨rfl, h1, h2⟩
  have M6 : DB w ⟨s, (n : Int), (a : Int), ((k.toNat : Nat) : Int), p, ⟨#[]⟩, 0, ⟨#[]⟩⟩ x6 w6 := N5.step h1 h2
  clear h1 h2
  obtain ⟨c0, c1, c2, c3, c4, c5, c6, c7⟩ := M6.ev.all
  simp only at c0 c1 c2 c3 c4 c5 c6 c7
  obtain ⟨f0, f1, f2, f3, f4, f5, f6, f7⟩ := M6.ev.frz
  have hlt := M6.ev.lt
  go_wp2_with fail
  have N6 : DB w ⟨s, (n : Int), (a : Int), ((k.toNat : Nat) : Int), p, i, 0, ⟨#[]⟩⟩ x6 _ := M6.s5 i
  clear c0 c1 c2 c3 c4 c5 c6 c7 f0 f1 f2 f3 f4 f5 f6 f7 hlt
  refine (B7.out _ _ N6.st).mono ?_
  rintro e w7 ⟨rfl, h1, h2⟩
  have M7 : DB w ⟨s, (n : Int), (a : Int), ((k.toNat : Nat) : Int), p, i, 0, ⟨#[]⟩⟩ x7 w7 := N6.step h1 h2
  clear h1 h2
  obtain ⟨c0, c1, c2, c3, c4, c5, c6, c7⟩ := M7.ev.all
  simp only at c0 c1 c2 c3 c4 c5 c6 c7
  obtain ⟨f0, f1, f2, f3, f4, f5, f6, f7⟩ := M7.ev.frz
  have hlt := M7.ev.lt
  go_wp2_with fail
  have N7 : DB w ⟨s, (n : Int), (a : Int), ((k.toNat : Nat) : Int), p, i, (v : Int), ⟨#[]⟩⟩ x7 _ := M7.s6 (v : Int)
  clear c0 c1 c2 c3 c4 c5 c6 c7 f0 f1 f2 f3 f4 f5 f6 f7 hlt
  refine (B8.out _ _ N7.st).mono ?_
  rintro e w8 ⟨rfl, h1, h2⟩
  have M8 : DB w ⟨s, (n : Int), (a : Int), ((k.toNat : Nat) : Int), p, i, (v : Int), ⟨#[]⟩⟩ (.bad c) w8 := N7.step h1 h2
  clear h1 h2
  obtain ⟨c0, c1, c2, c3, c4, c5, c6, c7⟩ := M8.ev.all
  simp only at c0 c1 c2 c3 c4 c5 c6 c7
  obtain ⟨f0, f1, f2, f3, f4, f5, f6, f7⟩ := M8.ev.frz
  have hlt := M8.ev.lt
  go_upto_region 11 with fail
  have N8 : DB w ⟨s, (n : Int), (a : Int), ((k.toNat : Nat) : Int), p, i, (v : Int), t⟩ (.bad c) _ := M8.s7 t
  clear c0 c1 c2 c3 c4 c5 c6 c7 f0 f1 f2 f3 f4 f5 f6 f7 hlt
  generalize w8.setCell ⟨w.heap.size + 1 + 1, 7, none⟩ (.string t) = w9 at *
  obtain ⟨r0, r1, r2, r3, r4, r5, r6, r7⟩ := N8.r.all
  simp only [zeroE] at r0 r1 r2 r3 r4 r5 r6 r7
  obtain ⟨z0, z1, z2, z3, z4, z5, z6, z7⟩ := N8.r.frz
  have hrl := N8.r.lt
  obtain ⟨hc0, vv, hb⟩ := N8.st
  obtain ⟨g0, g1, g2, g3⟩ := hb.all
  have hbl := hb.lt
  have hc1 : (c = 0) = False := by simpa using hc0
  have R0 := N8.r
  have HB := N8.bw
  clear hb N8
  go_upto_region 12 with fail
  go_region
  have R1 : EvAt ((((((((w9.setCell ⟨w.heap.size, 0, none⟩ (.string ⟨#[]⟩)).setCell ⟨w.heap.size, 1, none⟩ (.int .i64 0)).setCell ⟨w.heap.size, 2, none⟩ (.int .i64 0)).setCell ⟨w.heap.size, 3, none⟩ (.int .i64 0)).setCell ⟨w.heap.size, 4, none⟩ (.string ⟨#[]⟩)).setCell ⟨w.heap.size, 5, none⟩ (.string ⟨#[]⟩)).setCell ⟨w.heap.size, 6, none⟩ (.int .i64 0)).setCell ⟨w.heap.size, 7, none⟩ (.string ⟨#[]⟩)).drew w.heap.size ⟨⟨#[]⟩, 0, 0, 0, ⟨#[]⟩, ⟨#[]⟩, 0, ⟨#[]⟩⟩ := EvAt.drew (R0.put ⟨#[]⟩ 0 0 0 ⟨#[]⟩ ⟨#[]⟩ 0 ⟨#[]⟩)
  have BW : Below w.heap.size w ((((((((w9.setCell ⟨w.heap.size, 0, none⟩ (.string ⟨#[]⟩)).setCell ⟨w.heap.size, 1, none⟩ (.int .i64 0)).setCell ⟨w.heap.size, 2, none⟩ (.int .i64 0)).setCell ⟨w.heap.size, 3, none⟩ (.int .i64 0)).setCell ⟨w.heap.size, 4, none⟩ (.string ⟨#[]⟩)).setCell ⟨w.heap.size, 5, none⟩ (.string ⟨#[]⟩)).setCell ⟨w.heap.size, 6, none⟩ (.int .i64 0)).setCell ⟨w.heap.size, 7, none⟩ (.string ⟨#[]⟩)).drew := (below_put HB (Nat.le_refl _) ⟨#[]⟩ 0 0 0 ⟨#[]⟩ ⟨#[]⟩ 0 ⟨#[]⟩).drew
  clear r0 r1 r2 r3 r4 r5 r6 r7 z0 z1 z2 z3 z4 z5 z6 z7 hrl R0 HB
  obtain ⟨r0, r1, r2, r3, r4, r5, r6, r7⟩ := R1.all
  simp only at r0 r1 r2 r3 r4 r5 r6 r7
  have hrl := R1.lt
  go_wp2_with fail
  refine bodyPost_ret (v := .tuple #[.agg #[.string ⟨#[]⟩, .int .i64 0, .int .i64 0, .int .i64 0, .string ⟨#[]⟩, .string ⟨#[]⟩, .int .i64 0, .string ⟨#[]⟩], .int .i64 0, .int .i64 c]) (by simp [results, Tryz.results110, go_sem, r0, r1, r2, r3, r4, r5, r6, r7]) rfl ⟨rfl, BW⟩
set_option maxRecDepth 100000 in
set_option maxHeartbeats 400000 in
theorem dec_walk_not (l : List UInt8) (k : UInt8) (s : ByteArray) (n a : Nat) (p i : ByteArray) (v : Nat) (t : ByteArray) (x1 x2 x3 x4 x5 x6 x7 : Rd Unit) (q : Option Addr) (cap : Nat) (r : List UInt8) (hc : Chain l k s n a p i v t x1 x2 x3 x4 x5 x6 x7 (.ok () r)) (hm : mayB ⟨s, (n : Int), (a : Int), ((k.toNat : Nat) : Int), p, i, (v : Int), t⟩ = false) (w : World) (hL : Lay w) (hv : Seen w w.heap.size (.slice q l.length cap) l) :
    Calls Tryz.prog 110 #[.slice q l.length cap] w fun e w' => e = .returned (.tuple #[.agg #[.string ⟨#[]⟩, .int .i64 0, .int .i64 0, .int .i64 0, .string ⟨#[]⟩, .string ⟨#[]⟩, .int .i64 0, .string ⟨#[]⟩], .int .i64 0, .int .i64 2]) ∧ Below w.heap.size w w' := by
  have HC := Lib.hid hc
  have wk := wrap_u8n k
  have A1 : ∀ (b : Nat) w, RSt w b (.ok () l) → Calls Tryz.prog 125 #[.pointer (some ⟨b, 0, none⟩)] w fun e w' => e = .returned (.int .u8 ((k.toNat : Nat) : Int)) ∧ RSt w' b x1 ∧ Only b w w' := fun b w h => by
    have := one_any b _ w h
    rw [hc.hk, hc.g1] at this
    exact this
  have A2 : ∀ (b : Nat) w, RSt w b x1 → Calls Tryz.prog 126 #[.pointer (some ⟨b, 0, none⟩)] w fun e w' => e = .returned (.string s) ∧ RSt w' b x2 ∧ Only b w w' := fun b w h => by
    have := text_any b _ w h
    rw [hc.hs, hc.g2] at this
    exact this
  have A3 : ∀ (b : Nat) w, RSt w b x2 → Calls Tryz.prog 127 #[.pointer (some ⟨b, 0, none⟩)] w fun e w' => e = .returned (.int .i64 (n : Int)) ∧ RSt w' b x3 ∧ Only b w w' := fun b w h => by
    have := rdnum_any b _ w h
    rw [hc.hn, hc.g3] at this
    exact this
  have A4 : ∀ (b : Nat) w, RSt w b x3 → Calls Tryz.prog 127 #[.pointer (some ⟨b, 0, none⟩)] w fun e w' => e = .returned (.int .i64 (a : Int)) ∧ RSt w' b x4 ∧ Only b w w' := fun b w h => by
    have := rdnum_any b _ w h
    rw [hc.ha, hc.g4] at this
    exact this
  have A5 : ∀ (b : Nat) w, RSt w b x4 → Calls Tryz.prog 126 #[.pointer (some ⟨b, 0, none⟩)] w fun e w' => e = .returned (.string p) ∧ RSt w' b x5 ∧ Only b w w' := fun b w h => by
    have := text_any b _ w h
    rw [hc.hp, hc.g5] at this
    exact this
  have A6 : ∀ (b : Nat) w, RSt w b x5 → Calls Tryz.prog 126 #[.pointer (some ⟨b, 0, none⟩)] w fun e w' => e = .returned (.string i) ∧ RSt w' b x6 ∧ Only b w w' := fun b w h => by
    have := text_any b _ w h
    rw [hc.hi, hc.g6] at this
    exact this
  have A7 : ∀ (b : Nat) w, RSt w b x6 → Calls Tryz.prog 127 #[.pointer (some ⟨b, 0, none⟩)] w fun e w' => e = .returned (.int .i64 (v : Int)) ∧ RSt w' b x7 ∧ Only b w w' := fun b w h => by
    have := rdnum_any b _ w h
    rw [hc.hv, hc.g7] at this
    exact this
  have A8 : ∀ (b : Nat) w, RSt w b x7 → Calls Tryz.prog 126 #[.pointer (some ⟨b, 0, none⟩)] w fun e w' => e = .returned (.string t) ∧ RSt w' b (.ok () r) ∧ Only b w w' := fun b w h => by
    have := text_any b _ w h
    rw [hc.ht, hc.g8] at this
    exact this
  have HM := Lib.hid hm
  clear hm
  have TS : t.size ≤ 1000000000 := by rw [← HC.out.ht]; exact txt_size
  have HL := Lib.hid hL
  have HV := Lib.hid hv
  have B1 := Lib.hid A1
  have B2 := Lib.hid A2
  have B3 := Lib.hid A3
  have B4 := Lib.hid A4
  have B5 := Lib.hid A5
  have B6 := Lib.hid A6
  have B7 := Lib.hid A7
  have B8 := Lib.hid A8
  clear hL hv hc A1 A2 A3 A4 A5 A6 A7 A8
  go_enter Tryz.func110, Tryz.ntmps110
  go_wp2_with fail
  have M0 := DB.start HV.out
  refine (B1.out _ _ M0.st).mono ?_
  rintro e w1 ⟨rfl, h1, h2⟩
  have M1 : DB w ⟨⟨#[]⟩, 0, 0, 0, ⟨#[]⟩, ⟨#[]⟩, 0, ⟨#[]⟩⟩ x1 w1 := M0.step h1 h2
  clear h1 h2
  obtain ⟨c0, c1, c2, c3, c4, c5, c6, c7⟩ := M1.ev.all
  simp only at c0 c1 c2 c3 c4 c5 c6 c7
  obtain ⟨f0, f1, f2, f3, f4, f5, f6, f7⟩ := M1.ev.frz
  have hlt := M1.ev.lt
  go_wp2_with fail
  have N1 : DB w ⟨⟨#[]⟩, 0, 0, ((k.toNat : Nat) : Int), ⟨#[]⟩, ⟨#[]⟩, 0, ⟨#[]⟩⟩ x1 _ := M1.s3 ((k.toNat : Nat) : Int)
  clear c0 c1 c2 c3 c4 c5 c6 c7 f0 f1 f2 f3 f4 f5 f6 f7 hlt
  refine (B2.out _ _ N1.st).mono ?_
  rintro e w2 ⟨rfl, h1, h2⟩
  have M2 : DB w ⟨⟨#[]⟩, 0, 0, ((k.toNat : Nat) : Int), ⟨#[]⟩, ⟨#[]⟩, 0, ⟨#[]⟩⟩ x2 w2 := N1.step h1 h2
  clear h1 h2
  obtain ⟨c0, c1, c2, c3, c4, c5, c6, c7⟩ := M2.ev.all
  simp only at c0 c1 c2 c3 c4 c5 c6 c7
  obtain ⟨f0, f1, f2, f3, f4, f5, f6, f7⟩ := M2.ev.frz
  have hlt := M2.ev.lt
  go_wp2_with fail
  have N2 : DB w ⟨s, 0, 0, ((k.toNat : Nat) : Int), ⟨#[]⟩, ⟨#[]⟩, 0, ⟨#[]⟩⟩ x2 _ := M2.s0 s
  clear c0 c1 c2 c3 c4 c5 c6 c7 f0 f1 f2 f3 f4 f5 f6 f7 hlt
  refine (B3.out _ _ N2.st).mono ?_
  rintro e w3 ⟨rfl, h1, h2⟩
  have M3 : DB w ⟨s, 0, 0, ((k.toNat : Nat) : Int), ⟨#[]⟩, ⟨#[]⟩, 0, ⟨#[]⟩⟩ x3 w3 := N2.step h1 h2
  clear h1 h2
  obtain ⟨c0, c1, c2, c3, c4, c5, c6, c7⟩ := M3.ev.all
  simp only at c0 c1 c2 c3 c4 c5 c6 c7
  obtain ⟨f0, f1, f2, f3, f4, f5, f6, f7⟩ := M3.ev.frz
  have hlt := M3.ev.lt
  go_wp2_with fail
  have N3 : DB w ⟨s, (n : Int), 0, ((k.toNat : Nat) : Int), ⟨#[]⟩, ⟨#[]⟩, 0, ⟨#[]⟩⟩ x3 _ := M3.s1 (n : Int)
  clear c0 c1 c2 c3 c4 c5 c6 c7 f0 f1 f2 f3 f4 f5 f6 f7 hlt
  refine (B4.out _ _ N3.st).mono ?_
  rintro e w4 ⟨rfl, h1, h2⟩
  have M4 : DB w ⟨s, (n : Int), 0, ((k.toNat : Nat) : Int), ⟨#[]⟩, ⟨#[]⟩, 0, ⟨#[]⟩⟩ x4 w4 := N3.step h1 h2
  clear h1 h2
  obtain ⟨c0, c1, c2, c3, c4, c5, c6, c7⟩ := M4.ev.all
  simp only at c0 c1 c2 c3 c4 c5 c6 c7
  obtain ⟨f0, f1, f2, f3, f4, f5, f6, f7⟩ := M4.ev.frz
  have hlt := M4.ev.lt
  go_wp2_with fail
  have N4 : DB w ⟨s, (n : Int), (a : Int), ((k.toNat : Nat) : Int), ⟨#[]⟩, ⟨#[]⟩, 0, ⟨#[]⟩⟩ x4 _ := M4.s2 (a : Int)
  clear c0 c1 c2 c3 c4 c5 c6 c7 f0 f1 f2 f3 f4 f5 f6 f7 hlt
  refine (B5.out _ _ N4.st).mono ?_
  rintro e w5 ⟨rfl, h1, h2⟩
  have M5 : DB w ⟨s, (n : Int), (a : Int), ((k.toNat : Nat) : Int), ⟨#[]⟩, ⟨#[]⟩, 0, ⟨#[]⟩⟩ x5 w5 := N4.step h1 h2
  clear h1 h2
  obtain ⟨c0, c1, c2, c3, c4, c5, c6, c7⟩ := M5.ev.all
  simp only at c0 c1 c2 c3 c4 c5 c6 c7
  obtain ⟨f0, f1, f2, f3, f4, f5, f6, f7⟩ := M5.ev.frz
  have hlt := M5.ev.lt
  go_wp2_with fail
  have N5 : DB w ⟨s, (n : Int), (a : Int), ((k.toNat : Nat) : Int), p, ⟨#[]⟩, 0, ⟨#[]⟩⟩ x5 _ := M5.s4 p
  clear c0 c1 c2 c3 c4 c5 c6 c7 f0 f1 f2 f3 f4 f5 f6 f7 hlt
  refine (B6.out _ _ N5.st).mono ?_
  rintro e w6 ⟨rfl, h1, h2⟩
  have M6 : DB w ⟨s, (n : Int), (a : Int), ((k.toNat : Nat) : Int), p, ⟨#[]⟩, 0, ⟨#[]⟩⟩ x6 w6 := N5.step h1 h2
  clear h1 h2
  obtain ⟨c0, c1, c2, c3, c4, c5, c6, c7⟩ := M6.ev.all
  simp only at c0 c1 c2 c3 c4 c5 c6 c7
  obtain ⟨f0, f1, f2, f3, f4, f5, f6, f7⟩ := M6.ev.frz
  have hlt := M6.ev.lt
  go_wp2_with fail
  have N6 : DB w ⟨s, (n : Int), (a : Int), ((k.toNat : Nat) : Int), p, i, 0, ⟨#[]⟩⟩ x6 _ := M6.s5 i
  clear c0 c1 c2 c3 c4 c5 c6 c7 f0 f1 f2 f3 f4 f5 f6 f7 hlt
  refine (B7.out _ _ N6.st).mono ?_
  rintro e w7 ⟨rfl, h1, h2⟩
  have M7 : DB w ⟨s, (n : Int), (a : Int), ((k.toNat : Nat) : Int), p, i, 0, ⟨#[]⟩⟩ x7 w7 := N6.step h1 h2
  clear h1 h2
  obtain ⟨c0, c1, c2, c3, c4, c5, c6, c7⟩ := M7.ev.all
  simp only at c0 c1 c2 c3 c4 c5 c6 c7
  obtain ⟨f0, f1, f2, f3, f4, f5, f6, f7⟩ := M7.ev.frz
  have hlt := M7.ev.lt
  go_wp2_with fail
  have N7 : DB w ⟨s, (n : Int), (a : Int), ((k.toNat : Nat) : Int), p, i, (v : Int), ⟨#[]⟩⟩ x7 _ := M7.s6 (v : Int)
  clear c0 c1 c2 c3 c4 c5 c6 c7 f0 f1 f2 f3 f4 f5 f6 f7 hlt
  refine (B8.out _ _ N7.st).mono ?_
  rintro e w8 ⟨rfl, h1, h2⟩
  have M8 : DB w ⟨s, (n : Int), (a : Int), ((k.toNat : Nat) : Int), p, i, (v : Int), ⟨#[]⟩⟩ (.ok () r) w8 := N7.step h1 h2
  clear h1 h2
  obtain ⟨c0, c1, c2, c3, c4, c5, c6, c7⟩ := M8.ev.all
  simp only at c0 c1 c2 c3 c4 c5 c6 c7
  obtain ⟨f0, f1, f2, f3, f4, f5, f6, f7⟩ := M8.ev.frz
  have hlt := M8.ev.lt
  go_upto_region 11 with fail
  have N8 : DB w ⟨s, (n : Int), (a : Int), ((k.toNat : Nat) : Int), p, i, (v : Int), t⟩ (.ok () r) _ := M8.s7 t
  clear c0 c1 c2 c3 c4 c5 c6 c7 f0 f1 f2 f3 f4 f5 f6 f7 hlt
  generalize w8.setCell ⟨w.heap.size + 1 + 1, 7, none⟩ (.string t) = w9 at *
  obtain ⟨vv, hb, hs⟩ := N8.st
  obtain ⟨g0, g1, g2, g3⟩ := hb.all
  have hbl := hb.lt
  obtain ⟨c0, c1, c2, c3, c4, c5, c6, c7⟩ := N8.ev.all
  simp only at c0 c1 c2 c3 c4 c5 c6 c7
  have hlt := N8.ev.lt
  have HS := Lib.hid hs
  have HBk := Lib.hid hb
  clear hb hs
  go_wp2_with fail
  refine (may_any s n a ((k.toNat : Nat) : Int) p i v t TS _ (HL.out.next N8.bw)).mono ?_
  rw [HM.out]
  rintro e w10 ⟨rfl, hx⟩
  have N9 : DB w ⟨s, (n : Int), (a : Int), ((k.toNat : Nat) : Int), p, i, (v : Int), t⟩ (.ok () r) w10 := N8.later ⟨vv, HBk.out, HS.out⟩ hx
  clear g0 g1 g2 g3 hbl c0 c1 c2 c3 c4 c5 c6 c7 hlt hx
  obtain ⟨r0, r1, r2, r3, r4, r5, r6, r7⟩ := N9.r.all
  simp only [zeroE] at r0 r1 r2 r3 r4 r5 r6 r7
  obtain ⟨z0, z1, z2, z3, z4, z5, z6, z7⟩ := N9.r.frz
  have hrl := N9.r.lt
  have R0 := N9.r
  have HB := N9.bw
  clear N9
  go_wp2_with fail
  have R1 : EvAt ((((((((w10.setCell ⟨w.heap.size, 0, none⟩ (.string ⟨#[]⟩)).setCell ⟨w.heap.size, 1, none⟩ (.int .i64 0)).setCell ⟨w.heap.size, 2, none⟩ (.int .i64 0)).setCell ⟨w.heap.size, 3, none⟩ (.int .i64 0)).setCell ⟨w.heap.size, 4, none⟩ (.string ⟨#[]⟩)).setCell ⟨w.heap.size, 5, none⟩ (.string ⟨#[]⟩)).setCell ⟨w.heap.size, 6, none⟩ (.int .i64 0)).setCell ⟨w.heap.size, 7, none⟩ (.string ⟨#[]⟩)) w.heap.size ⟨⟨#[]⟩, 0, 0, 0, ⟨#[]⟩, ⟨#[]⟩, 0, ⟨#[]⟩⟩ := R0.put ⟨#[]⟩ 0 0 0 ⟨#[]⟩ ⟨#[]⟩ 0 ⟨#[]⟩
  have BW : Below w.heap.size w ((((((((w10.setCell ⟨w.heap.size, 0, none⟩ (.string ⟨#[]⟩)).setCell ⟨w.heap.size, 1, none⟩ (.int .i64 0)).setCell ⟨w.heap.size, 2, none⟩ (.int .i64 0)).setCell ⟨w.heap.size, 3, none⟩ (.int .i64 0)).setCell ⟨w.heap.size, 4, none⟩ (.string ⟨#[]⟩)).setCell ⟨w.heap.size, 5, none⟩ (.string ⟨#[]⟩)).setCell ⟨w.heap.size, 6, none⟩ (.int .i64 0)).setCell ⟨w.heap.size, 7, none⟩ (.string ⟨#[]⟩)) := below_put HB (Nat.le_refl _) ⟨#[]⟩ 0 0 0 ⟨#[]⟩ ⟨#[]⟩ 0 ⟨#[]⟩
  clear r0 r1 r2 r3 r4 r5 r6 r7 z0 z1 z2 z3 z4 z5 z6 z7 hrl R0 HB
  obtain ⟨r0, r1, r2, r3, r4, r5, r6, r7⟩ := R1.all
  simp only at r0 r1 r2 r3 r4 r5 r6 r7
  refine bodyPost_ret (v := .tuple #[.agg #[.string ⟨#[]⟩, .int .i64 0, .int .i64 0, .int .i64 0, .string ⟨#[]⟩, .string ⟨#[]⟩, .int .i64 0, .string ⟨#[]⟩], .int .i64 0, .int .i64 2]) (by simp [results, Tryz.results110, go_sem, r0, r1, r2, r3, r4, r5, r6, r7]) rfl ⟨rfl, BW⟩
set_option maxRecDepth 100000 in
set_option maxHeartbeats 400000 in
theorem dec_walk_good (l : List UInt8) (k : UInt8) (s : ByteArray) (n a : Nat) (p i : ByteArray) (v : Nat) (t : ByteArray) (x1 x2 x3 x4 x5 x6 x7 : Rd Unit) (q : Option Addr) (cap : Nat) (r : List UInt8) (hc : Chain l k s n a p i v t x1 x2 x3 x4 x5 x6 x7 (.ok () r)) (hm : mayB ⟨s, (n : Int), (a : Int), ((k.toNat : Nat) : Int), p, i, (v : Int), t⟩ = true) (hll : l.length ≤ 9223372036854775807) (hrr : r.length ≤ l.length) (w : World) (hL : Lay w) (hv : Seen w w.heap.size (.slice q l.length cap) l) :
    Calls Tryz.prog 110 #[.slice q l.length cap] w fun e w' => e = .returned (.tuple #[.agg #[.string s, .int .i64 (n : Int), .int .i64 (a : Int), .int .i64 ((k.toNat : Nat) : Int), .string p, .string i, .int .i64 (v : Int), .string t], .int .i64 ((l.length : Int) - r.length), .int .i64 0]) ∧ Below w.heap.size w w' := by
  have HC := Lib.hid hc
  have wk := wrap_u8n k
  have A1 : ∀ (b : Nat) w, RSt w b (.ok () l) → Calls Tryz.prog 125 #[.pointer (some ⟨b, 0, none⟩)] w fun e w' => e = .returned (.int .u8 ((k.toNat : Nat) : Int)) ∧ RSt w' b x1 ∧ Only b w w' := fun b w h => by
    have := one_any b _ w h
    rw [hc.hk, hc.g1] at this
    exact this
  have A2 : ∀ (b : Nat) w, RSt w b x1 → Calls Tryz.prog 126 #[.pointer (some ⟨b, 0, none⟩)] w fun e w' => e = .returned (.string s) ∧ RSt w' b x2 ∧ Only b w w' := fun b w h => by
    have := text_any b _ w h
    rw [hc.hs, hc.g2] at this
    exact this
  have A3 : ∀ (b : Nat) w, RSt w b x2 → Calls Tryz.prog 127 #[.pointer (some ⟨b, 0, none⟩)] w fun e w' => e = .returned (.int .i64 (n : Int)) ∧ RSt w' b x3 ∧ Only b w w' := fun b w h => by
    have := rdnum_any b _ w h
    rw [hc.hn, hc.g3] at this
    exact this
  have A4 : ∀ (b : Nat) w, RSt w b x3 → Calls Tryz.prog 127 #[.pointer (some ⟨b, 0, none⟩)] w fun e w' => e = .returned (.int .i64 (a : Int)) ∧ RSt w' b x4 ∧ Only b w w' := fun b w h => by
    have := rdnum_any b _ w h
    rw [hc.ha, hc.g4] at this
    exact this
  have A5 : ∀ (b : Nat) w, RSt w b x4 → Calls Tryz.prog 126 #[.pointer (some ⟨b, 0, none⟩)] w fun e w' => e = .returned (.string p) ∧ RSt w' b x5 ∧ Only b w w' := fun b w h => by
    have := text_any b _ w h
    rw [hc.hp, hc.g5] at this
    exact this
  have A6 : ∀ (b : Nat) w, RSt w b x5 → Calls Tryz.prog 126 #[.pointer (some ⟨b, 0, none⟩)] w fun e w' => e = .returned (.string i) ∧ RSt w' b x6 ∧ Only b w w' := fun b w h => by
    have := text_any b _ w h
    rw [hc.hi, hc.g6] at this
    exact this
  have A7 : ∀ (b : Nat) w, RSt w b x6 → Calls Tryz.prog 127 #[.pointer (some ⟨b, 0, none⟩)] w fun e w' => e = .returned (.int .i64 (v : Int)) ∧ RSt w' b x7 ∧ Only b w w' := fun b w h => by
    have := rdnum_any b _ w h
    rw [hc.hv, hc.g7] at this
    exact this
  have A8 : ∀ (b : Nat) w, RSt w b x7 → Calls Tryz.prog 126 #[.pointer (some ⟨b, 0, none⟩)] w fun e w' => e = .returned (.string t) ∧ RSt w' b (.ok () r) ∧ Only b w w' := fun b w h => by
    have := text_any b _ w h
    rw [hc.ht, hc.g8] at this
    exact this
  have HM := Lib.hid hm
  clear hm
  have TS : t.size ≤ 1000000000 := by rw [← HC.out.ht]; exact txt_size
  have HL := Lib.hid hL
  have HV := Lib.hid hv
  have B1 := Lib.hid A1
  have B2 := Lib.hid A2
  have B3 := Lib.hid A3
  have B4 := Lib.hid A4
  have B5 := Lib.hid A5
  have B6 := Lib.hid A6
  have B7 := Lib.hid A7
  have B8 := Lib.hid A8
  clear hL hv hc A1 A2 A3 A4 A5 A6 A7 A8
  go_enter Tryz.func110, Tryz.ntmps110
  go_wp2_with fail
  have M0 := DB.start HV.out
  refine (B1.out _ _ M0.st).mono ?_
  rintro e w1 ⟨rfl, h1, h2⟩
  have M1 : DB w ⟨⟨#[]⟩, 0, 0, 0, ⟨#[]⟩, ⟨#[]⟩, 0, ⟨#[]⟩⟩ x1 w1 := M0.step h1 h2
  clear h1 h2
  obtain ⟨c0, c1, c2, c3, c4, c5, c6, c7⟩ := M1.ev.all
  simp only at c0 c1 c2 c3 c4 c5 c6 c7
  obtain ⟨f0, f1, f2, f3, f4, f5, f6, f7⟩ := M1.ev.frz
  have hlt := M1.ev.lt
  go_wp2_with fail
  have N1 : DB w ⟨⟨#[]⟩, 0, 0, ((k.toNat : Nat) : Int), ⟨#[]⟩, ⟨#[]⟩, 0, ⟨#[]⟩⟩ x1 _ := M1.s3 ((k.toNat : Nat) : Int)
  clear c0 c1 c2 c3 c4 c5 c6 c7 f0 f1 f2 f3 f4 f5 f6 f7 hlt
  refine (B2.out _ _ N1.st).mono ?_
  rintro e w2 ⟨rfl, h1, h2⟩
  have M2 : DB w ⟨⟨#[]⟩, 0, 0, ((k.toNat : Nat) : Int), ⟨#[]⟩, ⟨#[]⟩, 0, ⟨#[]⟩⟩ x2 w2 := N1.step h1 h2
  clear h1 h2
  obtain ⟨c0, c1, c2, c3, c4, c5, c6, c7⟩ := M2.ev.all
  simp only at c0 c1 c2 c3 c4 c5 c6 c7
  obtain ⟨f0, f1, f2, f3, f4, f5, f6, f7⟩ := M2.ev.frz
  have hlt := M2.ev.lt
  go_wp2_with fail
  have N2 : DB w ⟨s, 0, 0, ((k.toNat : Nat) : Int), ⟨#[]⟩, ⟨#[]⟩, 0, ⟨#[]⟩⟩ x2 _ := M2.s0 s
  clear c0 c1 c2 c3 c4 c5 c6 c7 f0 f1 f2 f3 f4 f5 f6 f7 hlt
  refine (B3.out _ _ N2.st).mono ?_
  rintro e w3 ⟨rfl, h1, h2⟩
  have M3 : DB w ⟨s, 0, 0, ((k.toNat : Nat) : Int), ⟨#[]⟩, ⟨#[]⟩, 0, ⟨#[]⟩⟩ x3 w3 := N2.step h1 h2
  clear h1 h2
  obtain ⟨c0, c1, c2, c3, c4, c5, c6, c7⟩ := M3.ev.all
  simp only at c0 c1 c2 c3 c4 c5 c6 c7
  obtain ⟨f0, f1, f2, f3, f4, f5, f6, f7⟩ := M3.ev.frz
  have hlt := M3.ev.lt
  go_wp2_with fail
  have N3 : DB w ⟨s, (n : Int), 0, ((k.toNat : Nat) : Int), ⟨#[]⟩, ⟨#[]⟩, 0, ⟨#[]⟩⟩ x3 _ := M3.s1 (n : Int)
  clear c0 c1 c2 c3 c4 c5 c6 c7 f0 f1 f2 f3 f4 f5 f6 f7 hlt
  refine (B4.out _ _ N3.st).mono ?_
  rintro e w4 ⟨rfl, h1, h2⟩
  have M4 : DB w ⟨s, (n : Int), 0, ((k.toNat : Nat) : Int), ⟨#[]⟩, ⟨#[]⟩, 0, ⟨#[]⟩⟩ x4 w4 := N3.step h1 h2
  clear h1 h2
  obtain ⟨c0, c1, c2, c3, c4, c5, c6, c7⟩ := M4.ev.all
  simp only at c0 c1 c2 c3 c4 c5 c6 c7
  obtain ⟨f0, f1, f2, f3, f4, f5, f6, f7⟩ := M4.ev.frz
  have hlt := M4.ev.lt
  go_wp2_with fail
  have N4 : DB w ⟨s, (n : Int), (a : Int), ((k.toNat : Nat) : Int), ⟨#[]⟩, ⟨#[]⟩, 0, ⟨#[]⟩⟩ x4 _ := M4.s2 (a : Int)
  clear c0 c1 c2 c3 c4 c5 c6 c7 f0 f1 f2 f3 f4 f5 f6 f7 hlt
  refine (B5.out _ _ N4.st).mono ?_
  rintro e w5 ⟨rfl, h1, h2⟩
  have M5 : DB w ⟨s, (n : Int), (a : Int), ((k.toNat : Nat) : Int), ⟨#[]⟩, ⟨#[]⟩, 0, ⟨#[]⟩⟩ x5 w5 := N4.step h1 h2
  clear h1 h2
  obtain ⟨c0, c1, c2, c3, c4, c5, c6, c7⟩ := M5.ev.all
  simp only at c0 c1 c2 c3 c4 c5 c6 c7
  obtain ⟨f0, f1, f2, f3, f4, f5, f6, f7⟩ := M5.ev.frz
  have hlt := M5.ev.lt
  go_wp2_with fail
  have N5 : DB w ⟨s, (n : Int), (a : Int), ((k.toNat : Nat) : Int), p, ⟨#[]⟩, 0, ⟨#[]⟩⟩ x5 _ := M5.s4 p
  clear c0 c1 c2 c3 c4 c5 c6 c7 f0 f1 f2 f3 f4 f5 f6 f7 hlt
  refine (B6.out _ _ N5.st).mono ?_
  rintro e w6 ⟨rfl, h1, h2⟩
  have M6 : DB w ⟨s, (n : Int), (a : Int), ((k.toNat : Nat) : Int), p, ⟨#[]⟩, 0, ⟨#[]⟩⟩ x6 w6 := N5.step h1 h2
  clear h1 h2
  obtain ⟨c0, c1, c2, c3, c4, c5, c6, c7⟩ := M6.ev.all
  simp only at c0 c1 c2 c3 c4 c5 c6 c7
  obtain ⟨f0, f1, f2, f3, f4, f5, f6, f7⟩ := M6.ev.frz
  have hlt := M6.ev.lt
  go_wp2_with fail
  have N6 : DB w ⟨s, (n : Int), (a : Int), ((k.toNat : Nat) : Int), p, i, 0, ⟨#[]⟩⟩ x6 _ := M6.s5 i
  clear c0 c1 c2 c3 c4 c5 c6 c7 f0 f1 f2 f3 f4 f5 f6 f7 hlt
  refine (B7.out _ _ N6.st).mono ?_
  rintro e w7 ⟨rfl, h1, h2⟩
  have M7 : DB w ⟨s, (n : Int), (a : Int), ((k.toNat : Nat) : Int), p, i, 0, ⟨#[]⟩⟩ x7 w7 := N6.step h1 h2
  clear h1 h2
  obtain ⟨c0, c1, c2, c3, c4, c5, c6, c7⟩ := M7.ev.all
  simp only at c0 c1 c2 c3 c4 c5 c6 c7
  obtain ⟨f0, f1, f2, f3, f4, f5, f6, f7⟩ := M7.ev.frz
  have hlt := M7.ev.lt
  go_wp2_with fail
  have N7 : DB w ⟨s, (n : Int), (a : Int), ((k.toNat : Nat) : Int), p, i, (v : Int), ⟨#[]⟩⟩ x7 _ := M7.s6 (v : Int)
  clear c0 c1 c2 c3 c4 c5 c6 c7 f0 f1 f2 f3 f4 f5 f6 f7 hlt
  refine (B8.out _ _ N7.st).mono ?_
  rintro e w8 ⟨rfl, h1, h2⟩
  have M8 : DB w ⟨s, (n : Int), (a : Int), ((k.toNat : Nat) : Int), p, i, (v : Int), ⟨#[]⟩⟩ (.ok () r) w8 := N7.step h1 h2
  clear h1 h2
  obtain ⟨c0, c1, c2, c3, c4, c5, c6, c7⟩ := M8.ev.all
  simp only at c0 c1 c2 c3 c4 c5 c6 c7
  obtain ⟨f0, f1, f2, f3, f4, f5, f6, f7⟩ := M8.ev.frz
  have hlt := M8.ev.lt
  go_upto_region 11 with fail
  have N8 : DB w ⟨s, (n : Int), (a : Int), ((k.toNat : Nat) : Int), p, i, (v : Int), t⟩ (.ok () r) _ := M8.s7 t
  clear c0 c1 c2 c3 c4 c5 c6 c7 f0 f1 f2 f3 f4 f5 f6 f7 hlt
  generalize w8.setCell ⟨w.heap.size + 1 + 1, 7, none⟩ (.string t) = w9 at *
  obtain ⟨vv, hb, hs⟩ := N8.st
  obtain ⟨g0, g1, g2, g3⟩ := hb.all
  have hbl := hb.lt
  obtain ⟨c0, c1, c2, c3, c4, c5, c6, c7⟩ := N8.ev.all
  simp only at c0 c1 c2 c3 c4 c5 c6 c7
  have hlt := N8.ev.lt
  have HS := Lib.hid hs
  have HBk := Lib.hid hb
  clear hb hs
  go_wp2_with fail
  refine (may_any s n a ((k.toNat : Nat) : Int) p i v t TS _ (HL.out.next N8.bw)).mono ?_
  rw [HM.out]
  rintro e w10 ⟨rfl, hx⟩
  have N9 : DB w ⟨s, (n : Int), (a : Int), ((k.toNat : Nat) : Int), p, i, (v : Int), t⟩ (.ok () r) w10 := N8.later ⟨vv, HBk.out, HS.out⟩ hx
  clear g0 g1 g2 g3 hbl c0 c1 c2 c3 c4 c5 c6 c7 hlt hx
  obtain ⟨r0, r1, r2, r3, r4, r5, r6, r7⟩ := N9.r.all
  simp only [zeroE] at r0 r1 r2 r3 r4 r5 r6 r7
  obtain ⟨z0, z1, z2, z3, z4, z5, z6, z7⟩ := N9.r.frz
  have hrl := N9.r.lt
  have R0 := N9.r
  have HB := N9.bw
  obtain ⟨vv, hb, hs⟩ := N9.st
  obtain ⟨q2, cap2, rfl⟩ := hs.shape
  obtain ⟨g0, g1, g2, g3⟩ := hb.all
  have hbl := hb.lt
  obtain ⟨c0, c1, c2, c3, c4, c5, c6, c7⟩ := N9.ev.all
  simp only at c0 c1 c2 c3 c4 c5 c6 c7
  have hlt := N9.ev.lt
  have wl : IntKind.i64.wrap ((l.length : Int) - (r.length : Int)) = (l.length : Int) - r.length := by rw [IntKind.wrap_i64]; omega
  clear N9 hb hs
  go_upto_region 15 with fail
  go_region
  have R1 : EvAt ((((((((w10.setCell ⟨w.heap.size, 0, none⟩ (.string s)).setCell ⟨w.heap.size, 1, none⟩ (.int .i64 (n : Int))).setCell ⟨w.heap.size, 2, none⟩ (.int .i64 (a : Int))).setCell ⟨w.heap.size, 3, none⟩ (.int .i64 ((k.toNat : Nat) : Int))).setCell ⟨w.heap.size, 4, none⟩ (.string p)).setCell ⟨w.heap.size, 5, none⟩ (.string i)).setCell ⟨w.heap.size, 6, none⟩ (.int .i64 (v : Int))).setCell ⟨w.heap.size, 7, none⟩ (.string t)).drew w.heap.size ⟨s, (n : Int), (a : Int), ((k.toNat : Nat) : Int), p, i, (v : Int), t⟩ := EvAt.drew (R0.put s n a ((k.toNat : Nat) : Int) p i v t)
  have BW : Below w.heap.size w ((((((((w10.setCell ⟨w.heap.size, 0, none⟩ (.string s)).setCell ⟨w.heap.size, 1, none⟩ (.int .i64 (n : Int))).setCell ⟨w.heap.size, 2, none⟩ (.int .i64 (a : Int))).setCell ⟨w.heap.size, 3, none⟩ (.int .i64 ((k.toNat : Nat) : Int))).setCell ⟨w.heap.size, 4, none⟩ (.string p)).setCell ⟨w.heap.size, 5, none⟩ (.string i)).setCell ⟨w.heap.size, 6, none⟩ (.int .i64 (v : Int))).setCell ⟨w.heap.size, 7, none⟩ (.string t)).drew := (below_put HB (Nat.le_refl _) s n a ((k.toNat : Nat) : Int) p i v t).drew
  clear r0 r1 r2 r3 r4 r5 r6 r7 z0 z1 z2 z3 z4 z5 z6 z7 hrl R0 HB g0 g1 g2 g3 hbl c0 c1 c2 c3 c4 c5 c6 c7 hlt
  obtain ⟨r0, r1, r2, r3, r4, r5, r6, r7⟩ := R1.all
  simp only at r0 r1 r2 r3 r4 r5 r6 r7
  have hrl := R1.lt
  go_wp2_with fail
  refine bodyPost_ret (v := .tuple #[.agg #[.string s, .int .i64 (n : Int), .int .i64 (a : Int), .int .i64 ((k.toNat : Nat) : Int), .string p, .string i, .int .i64 (v : Int), .string t], .int .i64 ((l.length : Int) - r.length), .int .i64 0]) (by simp [results, Tryz.results110, go_sem, r0, r1, r2, r3, r4, r5, r6, r7]) rfl ⟨rfl, BW⟩
end Go.Proofs.YtghnbkkfghfifaaGreatDoor.E
