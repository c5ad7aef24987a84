/- Bytes of an event that may be: the program's. -/
import Derived.Test.YtghnbkkfghfifaaGreatDoorEK
namespace Go.Proofs.YtghnbkkfghfifaaGreatDoor.E
open Go.RowKit
set_option linter.unusedVariables false
theorem own_lit1' (w : World) (n : Nat) (h : n < 256) : OwnB (w.alloc (.cells #[.int .u8 (n : Int)] 5)) w.heap.size (.slice (some ⟨w.heap.size, 0, none⟩) 1 1) [n.toUInt8] := by
  have := own_lit1 w n.toUInt8
  rw [← u8_nat h] at this
  exact this
theorem encN (s : ByteArray) (n a k : Nat) (p i : ByteArray) (v : Nat) (t : ByteArray) : encL ⟨s, n, a, k, p, i, v, t⟩ = [k.toUInt8] ++ txtL s ++ numL n ++ numL a ++ txtL p ++ txtL i ++ numL v ++ txtL t := rfl
set_option maxRecDepth 100000 in
set_option maxHeartbeats 2000000 in
theorem enc_nat (s : ByteArray) (n a k : Nat) (p i : ByteArray) (v : Nat) (t : ByteArray) (hm : mayB ⟨s, n, a, k, p, i, v, t⟩ = true) (w : World) (hL : Lay w) :
    Calls Tryz.prog 114 #[.agg #[.string s, .int .i64 n, .int .i64 a, .int .i64 k, .string p, .string i, .int .i64 v, .string t]] w fun e w' => ∃ u, e = .returned (.tuple #[u, .int .i64 0]) ∧ OwnB w' w.heap.size u (encL ⟨s, n, a, k, p, i, v, t⟩) ∧ Below w.heap.size w w' := by
  have hf := fit_of hm
  have hlen := encL_len _ hf
  rw [encN] at hlen ⊢
  obtain ⟨f1, f2, f3, f4, f5, f6, f7, f8⟩ := hf
  simp only at f1 f2 f3 f4 f5 f6 f7 f8
  obtain ⟨g1, g2⟩ := f5
  obtain ⟨g3, g4⟩ := f6
  obtain ⟨g5, g6⟩ := f7
  obtain ⟨g7, g8⟩ := f8
  have hk : k < 256 := by omega
  have m1 : n ≤ 9223372036854775807 := by omega
  have m2 : a ≤ 9223372036854775807 := by omega
  have m3 : v ≤ 9223372036854775807 := by omega
  simp only [List.length_append, txtL_len, List.length_singleton] at hlen
  have HL := Lib.hid hL
  have HM := Lib.hid hm
  clear hL hm
  go_enter Tryz.func114, Tryz.ntmps114
  go_wp2_with fail
  refine (may_any s n a k p i v t (by omega) _ (HL.out.next ((Below.refl _ _).alloc (by simp) _))).mono ?_
  rw [HM.out]
  rintro e w1 ⟨rfl, hb⟩
  have bw := ((Below.refl w.heap.size w).alloc (by simp) _).trans (hb.mono (by simp))
  have E := (EvAt.new w ⟨s, n, a, k, p, i, v, t⟩).below hb (by simp)
  clear hb
  have hz := E.lt
  obtain ⟨c0, c1, c2, c3, c4, c5, c6, c7⟩ := E.all
  simp only at c0 c1 c2 c3 c4 c5 c6 c7
  go_wp2_with fail
  have O := own_lit1' w1 k hk
  have E := E.alloc (.cells #[.int .u8 (k : Int)] 5)
  have bw := bw.alloc bw.size (.cells #[.int .u8 (k : Int)] 5)
  have bz : w1.heap.size ≤ (w1.alloc (.cells #[.int .u8 (k : Int)] 5)).heap.size := by simp
  refine (putText_any w1.heap.size _ _ s (by omega) (by simp only [List.length_singleton]; omega) _ O bz).mono ?_
  rintro e w2 ⟨u0x, rfl, O2, hb⟩
  have E2 := E.below hb hz
  have bw2 := bw.trans (hb.mono (by omega))
  have bz2 := Nat.le_trans bz hb.size
  clear O E bw bz hb c0 c1 c2 c3 c4 c5 c6 c7
  obtain ⟨c0, c1, c2, c3, c4, c5, c6, c7⟩ := E2.all
  simp only at c0 c1 c2 c3 c4 c5 c6 c7
  have hz2 := E2.lt
  have O := Lib.hid O2
  have E := Lib.hid E2
  have bw := Lib.hid bw2
  clear O2 E2 bw2
  go_wp2_with fail
  have O := O.out
  have E := E.out
  have bw := bw.out
  have bz := bz2
  clear hz2 bz2
  refine (putNumber_any w1.heap.size _ _ n m1 (by simp only [List.length_append, txtL_len, List.length_singleton]; omega) _ O bz).mono ?_
  rintro e w3 ⟨u1x, rfl, O2, hb⟩
  have E2 := E.below hb hz
  have bw2 := bw.trans (hb.mono (by omega))
  have bz2 := Nat.le_trans bz hb.size
  clear O E bw bz hb c0 c1 c2 c3 c4 c5 c6 c7
  obtain ⟨c0, c1, c2, c3, c4, c5, c6, c7⟩ := E2.all
  simp only at c0 c1 c2 c3 c4 c5 c6 c7
  have hz2 := E2.lt
  have O := Lib.hid O2
  have E := Lib.hid E2
  have bw := Lib.hid bw2
  clear O2 E2 bw2
  go_wp2_with fail
  have O := O.out
  have E := E.out
  have bw := bw.out
  have bz := bz2
  clear hz2 bz2
  refine (putNumber_any w1.heap.size _ _ a m2 (by simp only [List.length_append, txtL_len, List.length_singleton]; omega) _ O bz).mono ?_
  rintro e w4 ⟨u2x, rfl, O2, hb⟩
  have E2 := E.below hb hz
  have bw2 := bw.trans (hb.mono (by omega))
  have bz2 := Nat.le_trans bz hb.size
  clear O E bw bz hb c0 c1 c2 c3 c4 c5 c6 c7
  obtain ⟨c0, c1, c2, c3, c4, c5, c6, c7⟩ := E2.all
  simp only at c0 c1 c2 c3 c4 c5 c6 c7
  have hz2 := E2.lt
  have O := Lib.hid O2
  have E := Lib.hid E2
  have bw := Lib.hid bw2
  clear O2 E2 bw2
  go_wp2_with fail
  have O := O.out
  have E := E.out
  have bw := bw.out
  have bz := bz2
  clear hz2 bz2
  refine (putText_any w1.heap.size _ _ p (by omega) (by simp only [List.length_append, txtL_len, List.length_singleton]; omega) _ O bz).mono ?_
  rintro e w5 ⟨u3x, rfl, O2, hb⟩
  have E2 := E.below hb hz
  have bw2 := bw.trans (hb.mono (by omega))
  have bz2 := Nat.le_trans bz hb.size
  clear O E bw bz hb c0 c1 c2 c3 c4 c5 c6 c7
  obtain ⟨c0, c1, c2, c3, c4, c5, c6, c7⟩ := E2.all
  simp only at c0 c1 c2 c3 c4 c5 c6 c7
  have hz2 := E2.lt
  have O := Lib.hid O2
  have E := Lib.hid E2
  have bw := Lib.hid bw2
  clear O2 E2 bw2
  go_wp2_with fail
  have O := O.out
  have E := E.out
  have bw := bw.out
  have bz := bz2
  clear hz2 bz2
  refine (putText_any w1.heap.size _ _ i (by omega) (by simp only [List.length_append, txtL_len, List.length_singleton]; omega) _ O bz).mono ?_
  rintro e w6 ⟨u4x, rfl, O2, hb⟩
  have E2 := E.below hb hz
  have bw2 := bw.trans (hb.mono (by omega))
  have bz2 := Nat.le_trans bz hb.size
  clear O E bw bz hb c0 c1 c2 c3 c4 c5 c6 c7
  obtain ⟨c0, c1, c2, c3, c4, c5, c6, c7⟩ := E2.all
  simp only at c0 c1 c2 c3 c4 c5 c6 c7
  have hz2 := E2.lt
  have O := Lib.hid O2
  have E := Lib.hid E2
  have bw := Lib.hid bw2
  clear O2 E2 bw2
  go_wp2_with fail
  have O := O.out
  have E := E.out
  have bw := bw.out
  have bz := bz2
  clear hz2 bz2
  refine (putNumber_any w1.heap.size _ _ v m3 (by simp only [List.length_append, txtL_len, List.length_singleton]; omega) _ O bz).mono ?_
  rintro e w7 ⟨u5x, rfl, O2, hb⟩
  have E2 := E.below hb hz
  have bw2 := bw.trans (hb.mono (by omega))
  have bz2 := Nat.le_trans bz hb.size
  clear O E bw bz hb c0 c1 c2 c3 c4 c5 c6 c7
  obtain ⟨c0, c1, c2, c3, c4, c5, c6, c7⟩ := E2.all
  simp only at c0 c1 c2 c3 c4 c5 c6 c7
  have hz2 := E2.lt
  have O := Lib.hid O2
  have E := Lib.hid E2
  have bw := Lib.hid bw2
  clear O2 E2 bw2
  go_wp2_with fail
  have O := O.out
  have E := E.out
  have bw := bw.out
  have bz := bz2
  clear hz2 bz2
  refine (putText_any w1.heap.size _ _ t (by omega) (by simp only [List.length_append, txtL_len, List.length_singleton]; omega) _ O bz).mono ?_
  rintro e w8 ⟨u6x, rfl, O2, hb⟩
  have E2 := E.below hb hz
  have bw2 := bw.trans (hb.mono (by omega))
  have bz2 := Nat.le_trans bz hb.size
  clear O E bw bz hb c0 c1 c2 c3 c4 c5 c6 c7
  obtain ⟨c0, c1, c2, c3, c4, c5, c6, c7⟩ := E2.all
  simp only at c0 c1 c2 c3 c4 c5 c6 c7
  have hz2 := E2.lt
  have O := Lib.hid O2
  have E := Lib.hid E2
  have bw := Lib.hid bw2
  clear O2 E2 bw2
  go_wp2
  go_ret2
  exact ⟨_, rfl, O.out.mono (by omega), bw.out⟩
end Go.Proofs.YtghnbkkfghfifaaGreatDoor.E
