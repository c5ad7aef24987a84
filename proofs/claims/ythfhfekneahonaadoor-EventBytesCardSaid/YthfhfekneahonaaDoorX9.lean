/- The walk of EventBytes: an event that may be. -/
import Derived.Test.YthfhfekneahonaaDoorX4
import Derived.Deep.DeepCutAuto
namespace Go.Proofs.YthfhfekneahonaaDoor
open Go.RowKit
set_option linter.unusedVariables false
set_option maxRecDepth 100000 in
set_option maxHeartbeats 2000000 in
theorem by_ge_nil (s : ByteArray) (n a k : Int) (p i : ByteArray) (v : Int) (t : ByteArray) (cut : Int) (hcut0 : ¬ cut < 0) (hcut : ((encL ⟨s, n, a, k, p, i, v, t⟩).length : Int) ≤ cut) (z : Small ⟨s, n, a, k, p, i, v, t⟩ 1000) (y : mayB ⟨s, n, a, k, p, i, v, t⟩ = true) (w : World) (hL : Lay w) (ht : Seen w w.heap.size (.slice none 0 0) ([] : List UInt8)) :
    Calls Tryd.prog 6 #[.agg #[.string s, .int .i64 n, .int .i64 a, .int .i64 k, .string p, .string i, .int .i64 v, .string t], (.slice none 0 0), .int .i64 cut] w fun e w' => e = .returned (.bool true) ∧ Below w.heap.size w w' := by
  have B1 : t.size ≤ 1000000000 := by have := z.2.2.2; simp only at this; omega
  have E1' := fun w hL => enc_at y w hL
  have R1' := fun w => renc_at y w
  have l1p := encL_pos ⟨s, n, a, k, p, i, v, t⟩
  have l1q : (encL ⟨s, n, a, k, p, i, v, t⟩).length ≤ 1000 := by have := encL_len _ (fit_of y); omega
  have D1' := dec_whole y ([] : List UInt8) (by simp)
  simp only [List.append_nil] at D1'
  generalize encL ⟨s, n, a, k, p, i, v, t⟩ = l1 at *
  have hg1' : decide (cut < 0) = false := by simp; omega
  have hg2' : decide ((l1.length : Int) ≤ cut) = true := by simp; omega
  have HCUT := Lib.hid hcut
  clear hcut
  clear hcut0
  obtain ⟨i0, hi, hz0, hz1, hz2⟩ := info_parts info5
  have Z := Lib.hid z
  have Y := Lib.hid y
  have E1 := Lib.hid E1'
  have R1 := Lib.hid R1'
  have D1 := Lib.hid D1'
  clear z y E1' R1' D1'
  have HT := Lib.hid ht
  have HL := Lib.hid hL
  clear hL ht
  go_enter Tryd.func6, Tryd.ntmps6
  go_wp2_with fail
  refine (lives_any _ (HL.out.alloc _)).mono ?_
  rintro e w1 ⟨rfl, hb⟩
  have M0 := FB.start HL.out HT.out hb
  clear hb
  obtain ⟨⟨c0, c1, c2, c3, c4, c5, c6, c7⟩, hlt⟩ := M0.out
  go_wp2_with fail
  refine (big_no s n a k p i v t 1000 Z.out _).mono ?_
  rintro e w2 ⟨rfl, hb⟩
  have M1 := M0.below hb
  clear hb c0 c1 c2 c3 c4 c5 c6 c7 hlt
  obtain ⟨⟨c0, c1, c2, c3, c4, c5, c6, c7⟩, hlt⟩ := M1.out
  go_wp2_with fail
  refine (E1.out _ M1.lay).mono ?_
  rintro e w3 ⟨yv, rfl, ho, hb⟩
  have ho := OwnB.mono ho (M1.bw.size)
  have N0 := M1.below hb
  clear hb c0 c1 c2 c3 c4 c5 c6 c7 hlt
  obtain ⟨g1, cp1, rfl, hg1, hk1⟩ := own_size ho l1p
  have N1 : FO w ⟨s, n, a, k, p, i, v, t⟩ (.slice none 0 0) ([] : List UInt8) g1 cp1 l1 _ := ⟨N0, ho⟩
  clear ho N0
  obtain ⟨⟨c0, c1, c2, c3, c4, c5, c6, c7⟩, hlt⟩ := N1.f.out
  go_wp2_with fail
  refine (rmay_any s n a k p i v t B1 _).mono ?_
  rw [Y.out]
  rintro e w4 ⟨rfl, hb⟩
  have N := N1.below hb
  clear hb c0 c1 c2 c3 c4 c5 c6 c7 hlt N1
  go_upto_region 8 with fail
  go_cut [48] (fun x48 wx => x48 = .bool false ∧ FO w ⟨s, n, a, k, p, i, v, t⟩ (.slice none 0 0) ([] : List UInt8) g1 cp1 l1 wx)
  case first =>
    have NK := Lib.hid N
    obtain ⟨⟨c0, c1, c2, c3, c4, c5, c6, c7, hlt, hcv⟩, _⟩ := N.out l1p
    have hcd := conv_own (OwnB.drew N.o) l1p
    go_region_with ((go_at_call 33; refine (R1.out _).mono ?_; rintro e w9 ⟨v9, rfl, hv9, hb9⟩; obtain ⟨g9, k9, rfl, _, _⟩ := own_size hv9 l1p; have cv9 := conv_own hv9 l1p; have N9 := (FO.drew N).below hb9; obtain ⟨⟨e0, e1, e2, e3, e4, e5, e6, e7, elt, ecv⟩, _⟩ := N9.out l1p))
    all_goals (go_wp2_with fail)
    all_goals (go_meet; exact ⟨rfl, by assumption⟩)
  case rest =>
  obtain ⟨rfl, NB⟩ := hcut
  clear N
  obtain ⟨⟨c0, c1, c2, c3, c4, c5, c6, c7⟩, hlt⟩ := NB.f.out
  generalize hwb : wc = wb at *
  go_wp2_with (at_builtin; refine wpList_append_own _ rfl (.tmp 50) (.tmp 51) 44 rfl wb.heap.size 5 i0 (.int .u8 0) 1 1 Tryd.underlying44 hi hz0 hz1 hz2 rfl (by decide) _ _ _ rfl (own_lit0 wb 5) ⟨g1, 0, none⟩ l1.length cp1 (u8s l1) rfl ?a1 ?a2 ?a3 ?a4 ?a5 ?a6 ?_)
  case a1 => rw [u8s_len, Nat.mul_one]
  case a2 => exact own_cells (own_alloc NB.o _)
  case a3 => exact u8s_one _
  case a4 => unfold maxLen; omega
  case a5 => omega
  case a6 => simp
  intro vq wq ho1 hgr1 _
  have b1 : Below wb.heap.size wb wq := ((Below.refl wb.heap.size wb).alloc (Nat.le_refl _) _).grown hgr1 (by simp) (fun k hk => by cases hk; exact Nat.le_refl _)
  have Q1 := NB.below b1
  have NBH := Lib.hid NB
  have B1H := Lib.hid b1
  have KS := Lib.hid b1.size
  have KB := Lib.hid (own_block ho1)
  have K1 := Lib.hid ho1
  clear hgr1 ho1 b1 c0 c1 c2 c3 c4 c5 c6 c7 hlt NB
  go_wp2_with (at_builtin; refine wpList_append_own_none rfl (.tmp 52) (.tmp 53) 44 rfl wb.heap.size 5 i0 1 Tryd.underlying44 hi _ _ _ rfl K1.out rfl ?_)
  have P2 : OwnB wq wb.heap.size vq l1 := by
    unfold OwnB
    have := K1.out
    simpa using this
  obtain ⟨g2, cp2, e2, _, hk2⟩ := own_size P2 l1p
  subst e2
  have Q2 := NBH.out.below B1H.out
  have SV := Seen.own P2 (by omega)
  have SVH := Lib.hid SV
  clear SV P2
  obtain ⟨⟨c0, c1, c2, c3, c4, c5, c6, c7⟩, hlt⟩ := Q2.f.out
  go_wp2_with fail
  refine (D1.out _ _ Q2.f.lay SVH.out).mono ?_
  rintro e wd ⟨rfl, hb⟩
  have Q3 := Q2.below hb
  clear hb c0 c1 c2 c3 c4 c5 c6 c7 hlt Q1 Q2
  obtain ⟨⟨c0, c1, c2, c3, c4, c5, c6, c7⟩, hlt⟩ := Q3.f.out
  go_wp2_with fail
  go_ret
  exact ⟨rfl, Q3.f.bw.alloc Q3.f.bw.size _⟩
end Go.Proofs.YthfhfekneahonaaDoor
